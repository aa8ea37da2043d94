/-
  The walk of RowsTwice: it tells true.
-/
import Derived.Test.YtbdjkbonoofibaaFew9
import Derived.Deep.CutRange
namespace Go.Proofs.Ytbdjkbonoofibaa
open Go.RowKit Lb
set_option maxRecDepth 20000

theorem rowsSameT (ao : Option Addr) (n cap : Nat) (rs : List (List Int)) (k : Nat) (ap : Option Addr) (m cp : Nat) (ss : List (List Int)) (l : Nat) (w : World) (h : MK w ao n cap rs k) (h' : MK w ap m cp ss l) (hk : k ≤ 900000) (hl : l ≤ 900000) (hr : ∀ i, (rs.getD i []).length ≤ 1000000) (hr' : ∀ i, (ss.getD i []).length ≤ 1000000) (he : Alike rs ss) :
    Calls Try.prog 20 #[.slice ao n cap, .slice ap m cp] w fun e w' => e = .returned (.bool true) ∧ Below w.heap.size w w' := by
  refine (rowsSameK _ _ _ rs k _ _ _ ss l w h h' hk hl hr hr').mono ?_
  rintro e w' ⟨q, rfl, hq, hb⟩
  obtain rfl := hq.2 he
  exact ⟨rfl, hb⟩
theorem sk_grown {w w' : World} {b : Bool} {ao : Option Addr} {len cap k : Nat} {z : Int} {row : Option Nat} (h : SK w b ao len cap z k) (hg : w.grownBy w' row) (hn : ∀ g, row = some g → NoLimb w g) : SK w' b ao len cap z k := ⟨h.1.grown hg hn, h.2⟩
theorem steadyV_vs (k : Nat) : SteadyV (fun w a l c zs => VS w a l c zs k) := fun h hg hs => vecOf_kept (R := fun w b a l c z => SK w b a l c z k) (fun h hg hn => sk_grown h hg hn) h hg hs
theorem ms_one {w : World} {a : Option Addr} {l c k : Nat} {zs : List Int} (h : VS w a l c zs k) : MS (w.alloc (.cells #[.slice a l c] 24)) (some ⟨w.heap.size, 0, none⟩) 1 1 [zs] k := by
  refine rowsOf_new (R := fun w a l c zs => VS w a l c zs k) (vs := [(a, l, c)]) rfl rfl rfl (by simp) fun i a' l' c' e => ?_
  match i with
  | 0 =>
    simp at e
    obtain ⟨rfl, rfl, rfl⟩ := e
    exact h.later (below_new w _)
theorem mOwn_empty {R : World → Option Addr → Nat → Nat → List Int → Prop} {w : World} {base n : Nat} (hn : n = w.heap.size) (hb : base ≤ w.heap.size) : MOwn R (w.alloc (.cells #[] 24)) base (some ⟨n, 0, none⟩) 0 0 [] := by
  subst hn
  refine ⟨⟨[], ⟨World.ownsRow_lit (size := 1) w #[] 0 hb (by unfold maxLen; omega) rfl, fun g hg j u hc => ?_⟩, fun i v h => by simp at h⟩, rfl⟩
  simp only [Value.ownBlock, Option.some.injEq] at hg
  subst hg
  simp at hc
theorem MOwn.nil_or {R : World → Option Addr → Nat → Nat → List Int → Prop} {w : World} {base : Nat} {ao : Option Addr} {n cap : Nat} {rs : List (List Int)} (h : MOwn R w base ao n cap rs) : (ao = none ∧ n = 0 ∧ cap = 0) ∨ ∃ g, ao = some ⟨g, 0, none⟩ := by
  obtain ⟨⟨vs, hrow, _⟩, _⟩ := h
  rcases hrow.own.2 with ⟨e, e0⟩ | ⟨g, c, cur, e, _⟩
  · simp only [Value.slice.injEq] at e
    exact Or.inl ⟨e.1, e0, e.2.2⟩
  · simp only [Value.slice.injEq, true_and] at e
    exact Or.inr ⟨g, e.1⟩
/-- rows[:q]. -/
theorem slice_headR {ao : Option Addr} {m cap q : Nat} (h : (ao = none ∧ m = 0 ∧ cap = 0) ∨ ∃ g, ao = some ⟨g, 0, none⟩) (hq : q ≤ m) (hc : m ≤ cap) (W : World) : (Instr.sliceAt 22 (.slice ao m cap) none (some (.int .i64 (q : Int))) none).run Try.prog W = .ok (.slice ao q cap) W := by
  have h0 : (0 : Int) ≤ (q : Int) := by omega
  rcases h with ⟨rfl, rfl, rfl⟩ | ⟨g, rfl⟩
  · obtain rfl : q = 0 := by omega
    simp [Instr.sliceAt, Instr.slice, Instr.sliceBounds, Instr.sliceBound, run_underlying Try.underlying22, go_sem]
  · simp [Instr.sliceAt, Instr.slice, Instr.sliceBounds, Instr.sliceBound, run_underlying Try.underlying22, go_sem, h0]
    exact fun e => absurd e (by omega)
/-- rows[q:]. -/
theorem slice_tailR {R : World → Option Addr → Nat → Nat → List Int → Prop} {w : World} {base : Nat} {ao : Option Addr} {m cap q : Nat} {r : List (List Int)} (h : MOwn R w base ao m cap r) (hq : q ≤ m) : ∃ at2, (∀ W, (Instr.sliceAt 22 (.slice ao m cap) (some (.int .i64 (q : Int))) none none).run Try.prog W = .ok (.slice at2 (m - q) (cap - q)) W) ∧ RowsOf R w at2 (m - q) (cap - q) (r.drop q) := by
  have h0 : (0 : Int) ≤ (q : Int) := by omega
  have hc := h.rows.cap_le
  have hmx := h.rows.cap_max
  have hl := h.len
  rcases h.nil_or with ⟨rfl, rfl, rfl⟩ | ⟨g, rfl⟩
  · obtain rfl : q = 0 := by omega
    refine ⟨none, fun W => ?_, by rw [List.eq_nil_of_length_eq_zero hl]; exact ⟨rfl, Nat.le_refl _, Nat.zero_le _, fun _ => rfl, fun h => absurd h (by omega)⟩⟩
    simp [Instr.sliceAt, Instr.slice, Instr.sliceBounds, Instr.sliceBound, run_underlying Try.underlying22, go_sem]
  · by_cases c : cap = q
    · have hqm : q = m := by omega
      subst hqm
      refine ⟨some ⟨g, 0, none⟩, fun W => ?_, ?_⟩
      · simp [Instr.sliceAt, Instr.slice, Instr.sliceBounds, Instr.sliceBound, run_underlying Try.underlying22, go_sem, h0, c]
      · rw [Nat.sub_self, List.drop_of_length_le (by omega)]
        exact ⟨rfl, Nat.zero_le _, by omega, fun e => by simp at e, fun e => absurd e (by omega)⟩
    · refine ⟨some ⟨g, 0 + q, none⟩, fun W => ?_, RowsOf.drop (R := R) h.rows hq⟩
      simp [Instr.sliceAt, Instr.slice, Instr.sliceBounds, Instr.sliceBound, run_underlying Try.underlying22, go_sem, h0, c]
      exact fun e => absurd e (by omega)
theorem rev_at {rs : List (List Int)} {n i p : Nat} (hl : rs.length = n) (hi : i < n) (hp : p = n - 1 - i) : rs.reverse.getD i [] = rs.getD p [] := by
  subst hp hl
  simp [List.getD, List.getElem?_reverse hi]
theorem asc_at {r : List (List Int)} (h : Asc r) {p i : Nat} (hp : p < i) (hi : i < r.length) : vlt (r.getD p []) (r.getD i []) := by
  have := (List.pairwise_iff_getElem.1 h) p i (by omega) hi hp
  rwa [show r.getD p [] = r[p] by simp [List.getD, show p < r.length by omega], show r.getD i [] = r[i] by simp [List.getD, hi]]
theorem rot_mem {rs : List (List Int)} {k : Nat} (x : List Int) : x ∈ rs.reverse.drop k ++ rs.reverse.take k ↔ x ∈ rs := by
  rw [List.mem_append, Or.comm, ← List.mem_append, List.take_append_drop, List.mem_reverse]
set_option maxRecDepth 40000 in
set_option maxHeartbeats 8000000 in
theorem rowsTwice_walk (a0 : Option Addr) (len0 cap0 : Nat) (rs0 : List (List Int)) (m1 : Int) (w : World) (r0 : MI w a0 len0 cap0 rs0) (r1 : (Lit.int .u8 m1).wf = true) :
    Calls Try.prog 5 #[.slice a0 len0 cap0, .int .u8 m1] w fun e w' => e = .returned (.bool true) ∧ Below w.heap.size w w' := by
  obtain ⟨M, eM⟩ : ∃ M : Nat, m1 = (M : Int) := ⟨m1.toNat, by have := bounds_u8 r1; omega⟩
  subst eM
  have hM : M ≤ 255 := by have := bounds_u8 r1; omega
  clear r1
  have L0 := hide r0.len_eq
  go_enter Try.func5, Try.ntmps5
  go_wp2_with fail
  have hbA := Below.refl w.heap.size w
  obtain ⟨WM, hWM⟩ : ∃ W', W' = w.alloc (.cells #[.slice a0 len0 cap0] 22) := ⟨_, rfl⟩
  have hbM : Below w.heap.size w WM := by rw [hWM]; exact below_new w _
  have hgM : w.heap.size < WM.heap.size := by rw [hWM]; simp
  have hcM0 : WM.cell? ⟨w.heap.size, 0 + 0, none⟩ = some (.slice a0 len0 cap0) := by rw [hWM]; simp
  have hbW : Below w.heap.size w WM := hbM
  have hmats : MatsAt WM (some ⟨w.heap.size, 0, none⟩) 1 := by
    refine ⟨by omega, fun _ => ⟨w.heap.size, 0, rfl, hgM, fun i hi => ?_⟩⟩
    match i, hi with
    | 0, _ => exact ⟨_, _, _, _, hcM0, r0.later hbW⟩
  rw [← hWM]
  clear hWM
  refine (few9_any _ _ _ WM hmats).mono ?_
  rintro e v0 ⟨q, rfl, hq, hb1⟩
  have HB := hide (Below.step hbW hb1)
  by_cases hf : q = true
  · subst hf
    have F0 := hq rfl 0 (w.heap.size) 0 _ _ _ (by omega) rfl hcM0
    obtain ⟨n0, wd0, s0⟩ := ms_later r0 hbW F0
    have S0 := hide (s0 _ (unhide HB))
    have WD0 := hide wd0
    clear s0 wd0 F0
    obtain ⟨kx, ekx⟩ : ∃ kx, kx = 12 := ⟨_, rfl⟩
    rw [← ekx] at S0
    have hkx : kx ≤ 12 := by omega
    clear ekx hq hb1 hbW hbM hgM hmats hcM0 hbA r0
    go_wp2_with fail
    refine (sortK _ _ _ rs0 kx _ (unhide S0).mk (by omega) (fun j => Nat.le_trans ((unhide WD0).at j) (by omega)) (by omega)).mono ?_
    rintro e v1 ⟨a11, m11, c11, r11, rfl, hm11, hs11, h11, hb9⟩
    replace S0 := hide ((unhide S0).later hb9)
    replace HB := hide (Below.step (unhide HB) hb9)
    clear hb9
    have HS := hide hs11
    have HW11 := hide ((unhide WD0).sort hs11)
    have HM11 := hide h11.len
    clear hs11
    replace h11 := h11.mf
    go_wp2_with fail
    refine (sortK _ _ _ r11 kx _ (h11.mk (by omega)) (by omega) (fun j => Nat.le_trans ((unhide HW11).at j) (by omega)) (by omega)).mono ?_
    rintro e v2 ⟨a12, m12, c12, r12, rfl, hm12, hs12, h12, hb9⟩
    replace S0 := hide ((unhide S0).later hb9)
    replace h11 := h11.later hb9
    replace HB := hide (Below.step (unhide HB) hb9)
    clear hb9
    obtain rfl := isSort_inj hs12 (isSort_self (unhide HS).asc)
    clear hs12
    go_wp2_with fail
    refine (rowsSameT _ _ _ r12 kx _ _ _ r12 kx _ (h12.mf.mk (by omega)) (h11.mk (by omega)) (by omega) (by omega) (fun j => Nat.le_trans ((unhide HW11).at j) (by omega)) (fun j => Nat.le_trans ((unhide HW11).at j) (by omega)) (alike_refl r12)).mono ?_
    rintro e v3 ⟨rfl, hb9⟩
    replace S0 := hide ((unhide S0).later hb9)
    replace h11 := h11.later hb9
    replace HB := hide (Below.step (unhide HB) hb9)
    clear hb9
    clear h12
    clear hm12
    go_wp2_with fail
    go_loopw [6, 25] (fun s t wr => ∃ (i : Nat) (ao' : Option Addr) (cap' : Nat), i ≤ len0 ∧ t = .int .i64 (i : Int) ∧ s = .slice ao' i cap' ∧ MOwn (fun w a l c zs => VS w a l c zs kx) wr v3.heap.size ao' i cap' (rs0.reverse.take i) ∧ Below v3.heap.size v3 wr) (fun _ t _ => len0 - (intOf t).toNat)
    case atStart => exact ⟨0, _, _, Nat.zero_le _, rfl, rfl, mOwn_nil _ _ _, Below.refl _ _⟩
    case round =>
      obtain ⟨i, ao', cap', hi, rfl, rfl, hown, hB⟩ := hrel
      have HC := hide hB
      clear hB
      by_cases hlt : i < len0
      · obtain ⟨u, eu⟩ : ∃ u, u = len0 - 1 := ⟨_, rfl⟩
        obtain ⟨p, ep⟩ : ∃ p, p = len0 - 1 - i := ⟨_, rfl⟩
        have hw1 : IntKind.i64.wrap ((len0 : Int) - 1) = (u : Int) := by rw [show (len0 : Int) - 1 = (u : Int) by omega]; exact wrap_nat u (by omega)
        have hw2 : IntKind.i64.wrap ((u : Int) - (i : Int)) = (p : Int) := by rw [show (u : Int) - (i : Int) = (p : Int) by omega]; exact wrap_nat p (by omega)
        have hp0 : (0 : Int) ≤ (p : Int) := by omega
        have hp1 : (p : Int) < (len0 : Int) := by omega
        have hpl : p < len0 := by omega
        have HPE := hide (rev_at (unhide L0) hlt ep)
        clear eu ep
        obtain ⟨g, off, rfl⟩ := (unhide S0).addr (by omega)
        obtain ⟨hg, a5, l5, c5, hc5, hv5⟩ := RowsOf.at (R := fun w a l c zs => VS w a l c zs kx) (unhide S0) hpl
        replace hv5 := hv5.later (unhide HC)
        have f2 := ((unhide HC).cell (p := ⟨g, off + p, none⟩) hg).trans hc5
        have hgr := Nat.lt_of_lt_of_le hg (unhide HC).size
        rw [← unhide HPE] at hv5
        clear hc5 hg
        obtain ⟨z, ez⟩ : ∃ z, z = rs0.reverse.getD i [] := ⟨_, rfl⟩
        obtain ⟨LL, eL⟩ : ∃ LL, LL = rs0.reverse.take i := ⟨_, rfl⟩
        rw [← ez] at hv5
        rw [← eL] at hown
        have EZ := hide ez
        have EL := hide eL
        clear ez eL HPE
        obtain ⟨W6, hW6⟩ : ∃ W6, W6 = wr.alloc (.cells #[.slice a5 l5 c5] 24) := ⟨_, rfl⟩
        have hb9 : Below wr.heap.size wr W6 := by rw [hW6]; exact below_new _ _
        have hone := ms_one hv5
        replace hown := MOwn.later (R := fun w a l c zs => VS w a l c zs kx) (fun h hb => VS.later h hb) hown hb9
        have HC2 := hide (Below.step (unhide HC) hb9)
        clear hb9 hv5
        have hsz := (unhide HC2).size
        rw [hW6] at hown hsz
        go_wp2_with (at_builtin; refine append_rows (R := fun w a l c zs => VS w a l c zs kx) (steadyV_vs kx) rfl (.tmp 28) (.tmp 37) 22 Try.underlying22 rfl v3.heap.size ao' i cap' LL rfl hown _ 1 1 [z] rfl hone (by omega) hsz ?_)
        intro an cn w7 hown2 hgr7
        rw [← hW6] at hgr7 hown hsz
        clear hW6 hone
        have HD := (unhide HC2).grown hgr7 hsz (MOwn.ge (R := fun w a l c zs => VS w a l c zs kx) hown)
        clear hgr7
        go_wp2
        go_roundw
        case rel => exact ⟨i + 1, _, _, by omega, by go_num, rfl, by rw [take_snoc [] (by rw [List.length_reverse, unhide L0]; exact hlt), ← unhide EL, ← unhide EZ]; exact hown2, HD⟩
        case measure => simp [intOf]; omega
      · have hin : i = len0 := by omega
        subst hin
        rw [List.take_of_length_le (by rw [List.length_reverse, unhide L0]; exact Nat.le_refl _)] at hown
        have hb9 := unhide HC
        clear HC
        replace S0 := hide ((unhide S0).later hb9)
        replace h11 := h11.later hb9
        replace HB := hide (Below.step (unhide HB) hb9)
        clear hb9
        by_cases hi0 : i = 0
        · subst hi0
          have hr0 : rs0 = [] := List.eq_nil_of_length_eq_zero (unhide L0)
          have hbm : MS wr ao' 0 cap' [] kx := by
            have := MOwn.rows (R := fun w a l c zs => VS w a l c zs kx) hown
            rw [hr0] at this
            exact this
          have HBL := hide (fun x => by rw [hr0] : ∀ x : List Int, x ∈ ([] : List (List Int)) ↔ x ∈ rs0)
          have HWB := hide (show Wide [] 14 from fun x hx => by simp at hx)
          clear hr0 hown
          go_wp2_with fail
          go_loopw [9] (fun t wr => ∃ (i2 : Nat), 1 ≤ i2 ∧ (i2 ≤ m11 ∨ i2 = 1) ∧ t = .int .i64 (i2 : Int) ∧ MF wr a11 m11 c11 r12 kx ∧ MS wr ao' 0 cap' [] kx ∧ MS wr a0 0 cap0 rs0 kx ∧ Below w.heap.size w wr) (fun t _ => m11 - (intOf t).toNat)
          case atStart => exact ⟨1, Nat.le_refl _, Or.inr rfl, rfl, h11, hbm, unhide S0, unhide HB⟩
          case round =>
            clear h11 hbm S0 HB
            obtain ⟨i2, hi2, hi3, rfl, h11, hbm, hS0, hB⟩ := hrel
            have HB := hide hB
            have S0 := hide hS0
            clear hB hS0
            by_cases hlt2 : i2 < m11
            · exfalso
              omega
            · have hlt2' : ¬ (i2 : Int) < (m11 : Int) := by omega
              go_wp2_with fail
              refine (halfK _ _ _ rs0 kx _ (unhide S0).mk (by omega) (fun j => Nat.le_trans ((unhide WD0).at j) (by omega)) (by omega)).mono ?_
              rintro e v201 ⟨a13, m13, c13, r13, rfl, hm13, hs13, h13, hb9⟩
              replace S0 := hide ((unhide S0).later hb9)
              replace h11 := h11.later hb9
              replace hbm := hbm.later hb9
              replace HB := hide (Below.step (unhide HB) hb9)
              clear hb9
              have HH := hide hs13
              have HHW := hide ((unhide WD0).half.sort hs13)
              have HHL := hide h13.len
              clear hs13
              replace h13 := h13.mf
              go_wp2_with fail
              refine (sortK _ _ _ [] kx _ hbm.mk (by omega) (fun j => Nat.le_trans ((unhide HWB).at j) (by omega)) (by omega)).mono ?_
              rintro e v202 ⟨a14, m14, c14, r14, rfl, hm14, hs14, h14, hb9⟩
              replace S0 := hide ((unhide S0).later hb9)
              replace h11 := h11.later hb9
              replace h13 := h13.later hb9
              replace HB := hide (Below.step (unhide HB) hb9)
              clear hb9
              clear hbm
              have EA := hide (isSort_alike hs14 (unhide HS) (fun x hx => ⟨x, (unhide HBL x).1 hx, VSame.refl x⟩) (fun x hx => ⟨x, (unhide HBL x).2 hx, VSame.refl x⟩))
              have HW14 := hide ((unhide HWB).sort hs14)
              clear hs14
              go_wp2_with fail
              refine (rowsSameT _ _ _ r14 kx _ _ _ r12 kx _ (h14.mf.mk (by omega)) (h11.mk (by omega)) (by omega) (by omega) (fun j => Nat.le_trans ((unhide HW14).at j) (by omega)) (fun j => Nat.le_trans ((unhide HW11).at j) (by omega)) (unhide EA)).mono ?_
              rintro e v203 ⟨rfl, hb9⟩
              replace S0 := hide ((unhide S0).later hb9)
              replace h13 := h13.later hb9
              replace HB := hide (Below.step (unhide HB) hb9)
              clear hb9
              clear h14 h11
              clear EA HW14 hm14
              go_wp2_with fail
              refine (bothK _ _ _ rs0 kx _ (unhide S0).mk (by omega) (fun j => Nat.le_trans ((unhide WD0).at j) (by omega)) (by omega)).mono ?_
              rintro e v204 ⟨a15, m15, c15, r15, hh15, rfl, hm15, hs15, ht15, h15, hb9⟩
              replace S0 := hide ((unhide S0).later hb9)
              replace h13 := h13.later hb9
              replace HB := hide (Below.step (unhide HB) hb9)
              clear hb9
              obtain rfl := isSort_inj hs15 (unhide HH)
              clear hs15
              have HW15 := hide ((unhide HHW).both.sort ht15)
              have HB15 := hide ht15
              clear ht15
              go_wp2_with fail
              refine (halfK _ _ _ r15 kx _ (h15.mf.mk (by omega)) (by omega) (fun j => Nat.le_trans ((unhide HW15).at j) (by omega)) (by omega)).mono ?_
              rintro e v205 ⟨a16, m16, c16, r16, rfl, hm16, hs16, h16, hb9⟩
              replace S0 := hide ((unhide S0).later hb9)
              replace h13 := h13.later hb9
              replace HB := hide (Below.step (unhide HB) hb9)
              clear hb9
              clear h15
              have EA := hide (half_both (unhide HH) (unhide HB15) hs16)
              have HW16 := hide ((unhide HW15).half.sort hs16)
              clear hs16
              go_wp2_with fail
              refine (rowsSameT _ _ _ r16 kx _ _ _ hh15 kx _ (h16.mf.mk (by omega)) (h13.mk (by omega)) (by omega) (by omega) (fun j => Nat.le_trans ((unhide HW16).at j) (by omega)) (fun j => Nat.le_trans ((unhide HHW).at j) (by omega)) (unhide EA)).mono ?_
              rintro e v206 ⟨rfl, hb9⟩
              replace S0 := hide ((unhide S0).later hb9)
              replace h13 := h13.later hb9
              replace HB := hide (Below.step (unhide HB) hb9)
              clear hb9
              clear h16
              clear EA HW16 hm16 hm15 HB15 HW15
              go_wp2_with fail
              refine (bothK _ _ _ hh15 kx _ (h13.mk (by omega)) (by omega) (fun j => Nat.le_trans ((unhide HHW).at j) (by omega)) (by omega)).mono ?_
              rintro e v207 ⟨a17, m17, c17, r17, hh17, rfl, hm17, hs17, ht17, h17, hb9⟩
              replace S0 := hide ((unhide S0).later hb9)
              replace h13 := h13.later hb9
              replace HB := hide (Below.step (unhide HB) hb9)
              clear hb9
              obtain rfl := half_again (unhide HH) hs17
              clear hs17
              go_wp2_with fail
              refine (bothK _ _ _ rs0 kx _ (unhide S0).mk (by omega) (fun j => Nat.le_trans ((unhide WD0).at j) (by omega)) (by omega)).mono ?_
              rintro e v208 ⟨a18, m18, c18, r18, hh18, rfl, hm18, hs18, ht18, h18, hb9⟩
              replace S0 := hide ((unhide S0).later hb9)
              replace h13 := h13.later hb9
              replace h17 := h17.later hb9
              replace HB := hide (Below.step (unhide HB) hb9)
              clear hb9
              obtain rfl := isSort_inj hs18 (unhide HH)
              obtain rfl := isSort_inj ht17 ht18
              have HW17 := hide ((unhide HHW).both.sort ht17)
              clear hs18 ht18 ht17
              go_wp2_with fail
              refine (rowsSameT _ _ _ r17 kx _ _ _ r17 kx _ (h17.mf.mk (by omega)) (h18.mf.mk (by omega)) (by omega) (by omega) (fun j => Nat.le_trans ((unhide HW17).at j) (by omega)) (fun j => Nat.le_trans ((unhide HW17).at j) (by omega)) (alike_refl r17)).mono ?_
              rintro e v209 ⟨rfl, hb9⟩
              replace S0 := hide ((unhide S0).later hb9)
              replace h13 := h13.later hb9
              replace HB := hide (Below.step (unhide HB) hb9)
              clear hb9
              clear h17 h18
              clear HW17 hm17 hm18
              go_wp2_with fail
              refine (bothK _ _ _ rs0 kx _ (unhide S0).mk (by omega) (fun j => Nat.le_trans ((unhide WD0).at j) (by omega)) (by omega)).mono ?_
              rintro e v210 ⟨a19, m19, c19, r19, hh19, rfl, hm19, hs19, ht19, h19, hb9⟩
              replace S0 := hide ((unhide S0).later hb9)
              replace h13 := h13.later hb9
              replace HB := hide (Below.step (unhide HB) hb9)
              clear hb9
              obtain rfl := isSort_inj hs19 (unhide HH)
              obtain rfl : m19 = 2 * m13 := by rw [← h19.len, ← unhide HHL]; exact both_len (unhide HH) ht19
              clear hs19 ht19 hm19
              go_wp2_with fail
              refine (awake9_any _).mono ?_
              rintro e w2 ⟨rfl, hb2⟩
              go_wp2
              go_ret
              exact ⟨rfl, Below.step (unhide HB) hb2⟩
        · have hgt : (0 : Int) < (i : Int) := by omega
          have hge : (1 : Int) ≤ (i : Int) := by omega
          have hne : ((i : Int) == 0) = false := by rw [beq_eq_false_iff_ne]; omega
          obtain ⟨kq, ekq⟩ : ∃ kq, kq = M % i := ⟨_, rfl⟩
          have hkq : kq < i := by rw [ekq]; exact Nat.mod_lt _ (by omega)
          have hmod : (M : Int) % (i : Int) = (kq : Int) := by rw [ekq]; omega
          have hmod2 : (M : Int).tmod (i : Int) = (kq : Int) := by rw [Int.tmod_eq_emod_of_nonneg (by omega)]; exact hmod
          obtain ⟨at2, hst2, ht2⟩ := slice_tailR hown (show kq ≤ i by omega)
          have hst1 := slice_headR (MOwn.nil_or hown) (show kq ≤ i by omega) (MOwn.rows (R := fun w a l c zs => VS w a l c zs kx) hown).cap_le
          have HT1 := hide (RowsOf.take (R := fun w a l c zs => VS w a l c zs kx) (MOwn.rows (R := fun w a l c zs => VS w a l c zs kx) hown) (show kq ≤ i by omega) (Nat.le_trans (show kq ≤ i by omega) (MOwn.rows (R := fun w a l c zs => VS w a l c zs kx) hown).cap_le) (Nat.le_refl cap'))
          have HT2 := hide ht2
          clear ht2 ekq hown
          go_upto_region 14 with fail
          have HW : Below wr.heap.size wr wr.drew := (Below.refl _ _).drew
          refine till_start (fun w' => True) 9 (by kernel_rfl) ?_ (fun hHeld => ?_)
          · trivial
          refine till_take (i := 1) (v := ?_) [3, 4, 8, 9] rfl (by kernel_rfl) (by kernel_rfl) (by kernel_rfl) (by kernel_rfl) (fun _ _ _ h => h) (Or.inl ⟨by rfl, ?_⟩) (by assumption) ?_
          rotate_left
          · (intro w hSw; (try dsimp only at hSw); go_simp; try with_reducible rfl)
          simp only [Act.put, List.getElem_toArray, List.getElem_cons_succ, List.getElem_cons_zero, List.setIfInBounds_toArray, List.set_cons_zero, List.set_cons_succ]
          refine till_take (i := 2) (v := ?_) [3, 4, 8, 9] rfl (by kernel_rfl) (by kernel_rfl) (by kernel_rfl) (by kernel_rfl) (fun _ _ _ h => h) (Or.inl ⟨by rfl, ?_⟩) (by assumption) ?_
          rotate_left
          · (intro w hSw; (try dsimp only at hSw); go_simp; try with_reducible rfl)
          simp only [Act.put, List.getElem_toArray, List.getElem_cons_succ, List.getElem_cons_zero, List.setIfInBounds_toArray, List.set_cons_zero, List.set_cons_succ]
          refine till_take (i := 3) (v := ?_) [4, 8, 9] rfl (by kernel_rfl) (by kernel_rfl) (by kernel_rfl) (by kernel_rfl) (fun _ _ _ h => h) (Or.inl ⟨by rfl, ?_⟩) (by assumption) ?_
          rotate_left
          · (intro w hSw; (try dsimp only at hSw); go_simp; try with_reducible rfl)
          simp only [Act.put, List.getElem_toArray, List.getElem_cons_succ, List.getElem_cons_zero, List.setIfInBounds_toArray, List.set_cons_zero, List.set_cons_succ]
          refine till_take (i := 5) (v := ?_) [7, 8, 9] rfl (by kernel_rfl) (by kernel_rfl) (by kernel_rfl) (by kernel_rfl) (fun _ _ _ h => h) (Or.inl ⟨by rfl, ?_⟩) (by assumption) ?_
          rotate_left
          · (intro w hSw; (try dsimp only at hSw); go_simp; try with_reducible rfl)
          simp only [Act.put, List.getElem_toArray, List.getElem_cons_succ, List.getElem_cons_zero, List.setIfInBounds_toArray, List.set_cons_zero, List.set_cons_succ]
          refine till_take (i := 6) (v := ?_) [7, 8, 9] rfl (by kernel_rfl) (by kernel_rfl) (by kernel_rfl) (by kernel_rfl) (fun _ _ _ h => h) (Or.inl ⟨by rfl, ?_⟩) (by assumption) ?_
          rotate_left
          · (intro w hSw; (try dsimp only at hSw); go_simp; try with_reducible rfl)
          simp only [Act.put, List.getElem_toArray, List.getElem_cons_succ, List.getElem_cons_zero, List.setIfInBounds_toArray, List.set_cons_zero, List.set_cons_succ]
          refine till_take (i := 7) (v := ?_) [8, 9] rfl (by kernel_rfl) (by kernel_rfl) (by kernel_rfl) (by kernel_rfl) (fun _ _ _ h => h) (Or.inl ⟨by rfl, ?_⟩) (by assumption) ?_
          rotate_left
          · (intro w hSw; (try dsimp only at hSw); go_simp; try with_reducible rfl)
          simp only [Act.put, List.getElem_toArray, List.getElem_cons_succ, List.getElem_cons_zero, List.setIfInBounds_toArray, List.set_cons_zero, List.set_cons_succ]
          refine till_in (i := 0) (by kernel_rfl) rfl (fun K hK => ?_)
          go_simp
          obtain ⟨W6, hW6⟩ : ∃ W6, W6 = (wr.alloc (.cells #[] 24)).drew := ⟨_, rfl⟩
          have hb9 : Below wr.heap.size wr W6 := by rw [hW6]; exact (below_new _ _).drew
          have ho6 : MOwn (fun w a l c zs => VS w a l c zs kx) W6 wr.heap.size (some ⟨wr.heap.size, 0, none⟩) 0 0 [] := by rw [hW6]; exact MOwn.later (R := fun w a l c zs => VS w a l c zs kx) (fun h hb => VS.later h hb) (mOwn_empty rfl (Nat.le_refl _)) ((Below.refl _ _).drew)
          have hsz6 := hb9.size
          rw [← hW6]
          clear hW6
          replace HW := hb9
          refine hK.out _ _ ?_ (fun hHeld => ?_)
          · trivial
          clear hK K
          try simp only [Act.put, List.getElem_toArray, List.getElem_cons_zero, List.setIfInBounds_toArray, List.set_cons_zero, List.set_cons_succ]
          refine till_in (i := 4) (by kernel_rfl) rfl (fun K hK => ?_)
          refine step_rows (R := fun w a l c zs => VS w a l c zs kx) (steadyV_vs kx) (by rfl) _ _ 22 Try.underlying22 (by rfl) wr.heap.size _ 0 0 [] (by rfl) ho6 at2 (i - kq) (cap' - kq) (rs0.reverse.drop kq) (by rfl) (RowsOf.later (R := fun w a l c zs => VS w a l c zs kx) (fun h hb => VS.later h hb) (unhide HT2) HW) (by omega) hsz6 ?_
          intro an cn w11 ho11 hgr11
          replace HW := HW.grown hgr11 hsz6 (MOwn.ge (R := fun w a l c zs => VS w a l c zs kx) ho6)
          rw [Nat.zero_add, List.nil_append] at ho11
          rw [Nat.zero_add]
          have hsz7 := HW.size
          clear hgr11 ho6 hb9 hsz6
          refine hK.out _ _ ?_ (fun hHeld => ?_)
          · trivial
          clear hK K
          try simp only [Act.put, List.getElem_toArray, List.getElem_cons_succ, List.getElem_cons_zero, List.setIfInBounds_toArray, List.set_cons_zero, List.set_cons_succ]
          refine till_in (i := 8) (by kernel_rfl) rfl (fun K hK => ?_)
          refine step_rows (R := fun w a l c zs => VS w a l c zs kx) (steadyV_vs kx) (by rfl) _ _ 22 Try.underlying22 (by rfl) wr.heap.size an (i - kq) cn (rs0.reverse.drop kq) (by rfl) ho11 ao' kq cap' (rs0.reverse.take kq) (by rfl) (RowsOf.later (R := fun w a l c zs => VS w a l c zs kx) (fun h hb => VS.later h hb) (unhide HT1) HW) (by omega) hsz7 ?_
          intro an2 cn2 w12 ho12 hgr12
          replace HW := HW.grown hgr12 hsz7 (MOwn.ge (R := fun w a l c zs => VS w a l c zs kx) ho11)
          rw [show i - kq + kq = i by omega] at ho12 ⊢
          clear hgr12 ho11 hsz7
          refine hK.out _ _ ?_ (fun hHeld => ?_)
          · trivial
          clear hK K
          try simp only [Act.put, List.getElem_toArray, List.getElem_cons_succ, List.getElem_cons_zero, List.setIfInBounds_toArray, List.set_cons_zero, List.set_cons_succ]
          refine till_out (i := 9) (by kernel_rfl) rfl (by kernel_rfl) (fun K hK => ?_)
          go_simp
          refine hK.out _ _ ?_
          clear hK K
          try simp only [Act.put, List.getElem_toArray, List.getElem_cons_succ, List.getElem_cons_zero, List.setIfInBounds_toArray, List.set_cons_zero, List.set_cons_succ]
          refine till_done (by kernel_rfl) ?_ _
          replace S0 := hide ((unhide S0).later HW)
          replace h11 := h11.later HW
          replace HB := hide (Below.step (unhide HB) HW)
          obtain ⟨BB, eB⟩ : ∃ BB, BB = rs0.reverse.drop kq ++ rs0.reverse.take kq := ⟨_, rfl⟩
          rw [← eB] at ho12
          have hbm : MS w12 an2 i cn2 BB kx := MOwn.rows (R := fun w a l c zs => VS w a l c zs kx) ho12
          have hBL : ∀ x, x ∈ BB ↔ x ∈ rs0 := fun x => by rw [eB]; exact rot_mem x
          have HBL := hide hBL
          have HWB := hide (show Wide BB 14 from fun x hx => (unhide WD0) x ((hBL x).1 hx))
          clear eB hBL ho12 HW HT1 HT2 hst1 hst2
          go_wp2_with fail
          go_loopw [9] (fun t wr => ∃ (i2 : Nat), 1 ≤ i2 ∧ (i2 ≤ m11 ∨ i2 = 1) ∧ t = .int .i64 (i2 : Int) ∧ MF wr a11 m11 c11 r12 kx ∧ MS wr an2 i cn2 BB kx ∧ MS wr a0 i cap0 rs0 kx ∧ Below w.heap.size w wr) (fun t _ => m11 - (intOf t).toNat)
          case atStart => exact ⟨1, Nat.le_refl _, Or.inr rfl, rfl, h11, hbm, unhide S0, unhide HB⟩
          case round =>
            clear h11 hbm S0 HB
            obtain ⟨i2, hi2, hi3, rfl, h11, hbm, hS0, hB⟩ := hrel
            have HB := hide hB
            have S0 := hide hS0
            clear hB hS0
            by_cases hlt2 : i2 < m11
            · obtain ⟨p, ep⟩ : ∃ p, p = i2 - 1 := ⟨_, rfl⟩
              have hw1 : IntKind.i64.wrap ((i2 : Int) - 1) = (p : Int) := by rw [show (i2 : Int) - 1 = (p : Int) by omega]; exact wrap_nat p (by omega)
              have hp0 : (0 : Int) ≤ (p : Int) := by omega
              have hp1 : (p : Int) < (m11 : Int) := by omega
              have hq0 : (0 : Int) ≤ (i2 : Int) := by omega
              have hq1 : (i2 : Int) < (m11 : Int) := by omega
              have HLT := hide (asc_at (unhide HS).asc (show p < i2 by omega) (show i2 < r12.length by rw [unhide HM11]; exact hlt2))
              obtain ⟨g, off, rfl⟩ := h11.addr (by omega)
              obtain ⟨hg, a5, l5, c5, f1, hv5⟩ := RowsOf.at (R := fun w a l c zs => VF w a l c zs kx) h11 (show p < m11 by omega)
              obtain ⟨_, a6, l6, c6, f2, hv6⟩ := RowsOf.at (R := fun w a l c zs => VF w a l c zs kx) h11 hlt2
              have hn5 : l5 ≤ 14 := by rw [← hv5.len_eq]; exact (unhide HW11).at p
              have hn6 : l6 ≤ 14 := by rw [← hv6.len_eq]; exact (unhide HW11).at i2
              clear ep
              have HW : Below wr.heap.size wr wr.drew := (Below.refl _ _).drew
              go_upto_region 18 with fail
              refine till_start (fun w' => w'.cell? ⟨g, off + p, none⟩ = some (.slice a5 l5 c5) ∧ w'.cell? ⟨g, off + i2, none⟩ = some (.slice a6 l6 c6)) 10 (by kernel_rfl) ?_ (fun hHeld => ?_)
              · exact ⟨(HW.cell (p := ⟨g, off + p, none⟩) hg).trans f1, (HW.cell (p := ⟨g, off + i2, none⟩) hg).trans f2⟩
              refine till_take (i := 0) (v := ?_) [3, 4, 9, 10] rfl (by kernel_rfl) (by kernel_rfl) (by kernel_rfl) (by kernel_rfl) (fun _ _ _ h => h) (Or.inl ⟨by rfl, ?_⟩) (by assumption) ?_
              rotate_left
              · (intro w hSw; (try dsimp only at hSw); go_simp; try with_reducible rfl)
              simp only [Act.put, List.getElem_toArray, List.getElem_cons_zero, List.setIfInBounds_toArray, List.set_cons_zero, List.set_cons_succ]
              refine till_take (i := 1) (v := ?_) [2, 3, 4, 9, 10] rfl (by kernel_rfl) (by kernel_rfl) (by kernel_rfl) (by kernel_rfl) (fun _ _ _ h => h) (Or.inl ⟨by rfl, ?_⟩) (by assumption) ?_
              rotate_left
              · (intro w hSw; (try dsimp only at hSw); go_simp; try with_reducible rfl)
              simp only [Act.put, List.getElem_toArray, List.getElem_cons_succ, List.getElem_cons_zero, List.setIfInBounds_toArray, List.set_cons_zero, List.set_cons_succ]
              refine till_take (i := 2) (v := ?_) [3, 4, 9, 10] rfl (by kernel_rfl) (by kernel_rfl) (by kernel_rfl) (by kernel_rfl) (fun _ _ _ h => h) (Or.inl ⟨by rfl, ?_⟩) (by assumption) ?_
              rotate_left
              · (intro w hSw; (try dsimp only at hSw); go_simp; try with_reducible rfl)
              simp only [Act.put, List.getElem_toArray, List.getElem_cons_succ, List.getElem_cons_zero, List.setIfInBounds_toArray, List.set_cons_zero, List.set_cons_succ]
              refine till_take (i := 3) (v := ?_) [4, 9, 10] rfl (by kernel_rfl) (by kernel_rfl) (by kernel_rfl) (by kernel_rfl) (fun _ _ _ h => h) (Or.inl ⟨by rfl, ?_⟩) (by assumption) ?_
              rotate_left
              · (intro w hSw; (try dsimp only at hSw); go_simp; try with_reducible rfl)
              simp only [Act.put, List.getElem_toArray, List.getElem_cons_succ, List.getElem_cons_zero, List.setIfInBounds_toArray, List.set_cons_zero, List.set_cons_succ]
              refine till_take (i := 4) (v := ?_) [9, 10] rfl (by kernel_rfl) (by kernel_rfl) (by kernel_rfl) (by kernel_rfl) (fun _ _ _ h => h) (Or.inl ⟨by rfl, ?_⟩) (by assumption) ?_
              rotate_left
              · (intro w hSw; (try dsimp only at hSw); go_simp; try with_reducible rfl)
              simp only [Act.put, List.getElem_toArray, List.getElem_cons_succ, List.getElem_cons_zero, List.setIfInBounds_toArray, List.set_cons_zero, List.set_cons_succ]
              refine till_take (i := 5) (v := ?_) [7, 8, 9, 10] rfl (by kernel_rfl) (by kernel_rfl) (by kernel_rfl) (by kernel_rfl) (fun _ _ _ h => h) (Or.inl ⟨by rfl, ?_⟩) (by assumption) ?_
              rotate_left
              · (intro w hSw; (try dsimp only at hSw); go_simp; try with_reducible rfl)
              simp only [Act.put, List.getElem_toArray, List.getElem_cons_succ, List.getElem_cons_zero, List.setIfInBounds_toArray, List.set_cons_zero, List.set_cons_succ]
              refine till_take (i := 6) (v := ?_) [7, 8, 9, 10] rfl (by kernel_rfl) (by kernel_rfl) (by kernel_rfl) (by kernel_rfl) (fun _ _ _ h => h) (Or.inl ⟨by rfl, ?_⟩) (by assumption) ?_
              rotate_left
              · (intro w hSw; (try dsimp only at hSw); go_simp; try with_reducible rfl)
              simp only [Act.put, List.getElem_toArray, List.getElem_cons_succ, List.getElem_cons_zero, List.setIfInBounds_toArray, List.set_cons_zero, List.set_cons_succ]
              refine till_take (i := 7) (v := ?_) [8, 9, 10] rfl (by kernel_rfl) (by kernel_rfl) (by kernel_rfl) (by kernel_rfl) (fun _ _ _ h => h) (Or.inl ⟨by rfl, ?_⟩) (by assumption) ?_
              rotate_left
              · (intro w hSw; (try dsimp only at hSw); go_simp; try with_reducible rfl)
              simp only [Act.put, List.getElem_toArray, List.getElem_cons_succ, List.getElem_cons_zero, List.setIfInBounds_toArray, List.set_cons_zero, List.set_cons_succ]
              refine till_take (i := 8) (v := ?_) [9, 10] rfl (by kernel_rfl) (by kernel_rfl) (by kernel_rfl) (by kernel_rfl) (fun _ _ _ h => h) (Or.inl ⟨by rfl, ?_⟩) (by assumption) ?_
              rotate_left
              · (intro w hSw; (try dsimp only at hSw); go_simp; try with_reducible rfl)
              simp only [Act.put, List.getElem_toArray, List.getElem_cons_succ, List.getElem_cons_zero, List.setIfInBounds_toArray, List.set_cons_zero, List.set_cons_succ]
              refine till_in (i := 9) (by kernel_rfl) rfl (fun K hK => ?_)
              go_simp
              refine (vcmpK _ _ _ (r12.getD p []) kx _ _ _ (r12.getD i2 []) kx _ ((hv5.later HW).vk (by omega)) ((hv6.later HW).vk (by omega)) (by omega) (by omega) (by omega) (by omega)).mono ?_
              rintro e w9 ⟨c, rfl, hc, hcl, hch, hb9⟩
              replace HW := Below.step HW hb9
              have hcn := hc.lt_iff.2 (unhide HLT)
              clear hb9 hc hcl hch
              refine hK.out _ _ ?_ (fun hHeld => ?_)
              · exact ⟨(HW.cell (p := ⟨g, off + p, none⟩) hg).trans f1, (HW.cell (p := ⟨g, off + i2, none⟩) hg).trans f2⟩
              clear hK K
              try simp only [Act.put, List.getElem_toArray, List.getElem_cons_succ, List.getElem_cons_zero, List.setIfInBounds_toArray, List.set_cons_zero, List.set_cons_succ]
              refine till_out (i := 10) (by kernel_rfl) rfl (by kernel_rfl) (fun K hK => ?_)
              go_simp
              refine hK.out _ _ ?_
              clear hK K
              try simp only [Act.put, List.getElem_toArray, List.getElem_cons_succ, List.getElem_cons_zero, List.setIfInBounds_toArray, List.set_cons_zero, List.set_cons_succ]
              refine till_done (by kernel_rfl) ?_ _
              have hcd : ¬ (0 ≤ c) := by omega
              have hcd2 : decide (0 ≤ c) = false := decide_eq_false hcd
              go_wp2
              go_roundw
              case rel => exact ⟨i2 + 1, by omega, by omega, by go_num, h11.later HW, hbm.later HW, (unhide S0).later HW, Below.step (unhide HB) HW⟩
              case measure => simp [intOf]; omega
            · have hlt2' : ¬ (i2 : Int) < (m11 : Int) := by omega
              go_wp2_with fail
              refine (halfK _ _ _ rs0 kx _ (unhide S0).mk (by omega) (fun j => Nat.le_trans ((unhide WD0).at j) (by omega)) (by omega)).mono ?_
              rintro e v401 ⟨a13, m13, c13, r13, rfl, hm13, hs13, h13, hb9⟩
              replace S0 := hide ((unhide S0).later hb9)
              replace h11 := h11.later hb9
              replace hbm := hbm.later hb9
              replace HB := hide (Below.step (unhide HB) hb9)
              clear hb9
              have HH := hide hs13
              have HHW := hide ((unhide WD0).half.sort hs13)
              have HHL := hide h13.len
              clear hs13
              replace h13 := h13.mf
              go_wp2_with fail
              refine (sortK _ _ _ BB kx _ hbm.mk (by omega) (fun j => Nat.le_trans ((unhide HWB).at j) (by omega)) (by omega)).mono ?_
              rintro e v402 ⟨a14, m14, c14, r14, rfl, hm14, hs14, h14, hb9⟩
              replace S0 := hide ((unhide S0).later hb9)
              replace h11 := h11.later hb9
              replace h13 := h13.later hb9
              replace HB := hide (Below.step (unhide HB) hb9)
              clear hb9
              clear hbm
              have EA := hide (isSort_alike hs14 (unhide HS) (fun x hx => ⟨x, (unhide HBL x).1 hx, VSame.refl x⟩) (fun x hx => ⟨x, (unhide HBL x).2 hx, VSame.refl x⟩))
              have HW14 := hide ((unhide HWB).sort hs14)
              clear hs14
              go_wp2_with fail
              refine (rowsSameT _ _ _ r14 kx _ _ _ r12 kx _ (h14.mf.mk (by omega)) (h11.mk (by omega)) (by omega) (by omega) (fun j => Nat.le_trans ((unhide HW14).at j) (by omega)) (fun j => Nat.le_trans ((unhide HW11).at j) (by omega)) (unhide EA)).mono ?_
              rintro e v403 ⟨rfl, hb9⟩
              replace S0 := hide ((unhide S0).later hb9)
              replace h13 := h13.later hb9
              replace HB := hide (Below.step (unhide HB) hb9)
              clear hb9
              clear h14 h11
              clear EA HW14 hm14
              go_wp2_with fail
              refine (bothK _ _ _ rs0 kx _ (unhide S0).mk (by omega) (fun j => Nat.le_trans ((unhide WD0).at j) (by omega)) (by omega)).mono ?_
              rintro e v404 ⟨a15, m15, c15, r15, hh15, rfl, hm15, hs15, ht15, h15, hb9⟩
              replace S0 := hide ((unhide S0).later hb9)
              replace h13 := h13.later hb9
              replace HB := hide (Below.step (unhide HB) hb9)
              clear hb9
              obtain rfl := isSort_inj hs15 (unhide HH)
              clear hs15
              have HW15 := hide ((unhide HHW).both.sort ht15)
              have HB15 := hide ht15
              clear ht15
              go_wp2_with fail
              refine (halfK _ _ _ r15 kx _ (h15.mf.mk (by omega)) (by omega) (fun j => Nat.le_trans ((unhide HW15).at j) (by omega)) (by omega)).mono ?_
              rintro e v405 ⟨a16, m16, c16, r16, rfl, hm16, hs16, h16, hb9⟩
              replace S0 := hide ((unhide S0).later hb9)
              replace h13 := h13.later hb9
              replace HB := hide (Below.step (unhide HB) hb9)
              clear hb9
              clear h15
              have EA := hide (half_both (unhide HH) (unhide HB15) hs16)
              have HW16 := hide ((unhide HW15).half.sort hs16)
              clear hs16
              go_wp2_with fail
              refine (rowsSameT _ _ _ r16 kx _ _ _ hh15 kx _ (h16.mf.mk (by omega)) (h13.mk (by omega)) (by omega) (by omega) (fun j => Nat.le_trans ((unhide HW16).at j) (by omega)) (fun j => Nat.le_trans ((unhide HHW).at j) (by omega)) (unhide EA)).mono ?_
              rintro e v406 ⟨rfl, hb9⟩
              replace S0 := hide ((unhide S0).later hb9)
              replace h13 := h13.later hb9
              replace HB := hide (Below.step (unhide HB) hb9)
              clear hb9
              clear h16
              clear EA HW16 hm16 hm15 HB15 HW15
              go_wp2_with fail
              refine (bothK _ _ _ hh15 kx _ (h13.mk (by omega)) (by omega) (fun j => Nat.le_trans ((unhide HHW).at j) (by omega)) (by omega)).mono ?_
              rintro e v407 ⟨a17, m17, c17, r17, hh17, rfl, hm17, hs17, ht17, h17, hb9⟩
              replace S0 := hide ((unhide S0).later hb9)
              replace h13 := h13.later hb9
              replace HB := hide (Below.step (unhide HB) hb9)
              clear hb9
              obtain rfl := half_again (unhide HH) hs17
              clear hs17
              go_wp2_with fail
              refine (bothK _ _ _ rs0 kx _ (unhide S0).mk (by omega) (fun j => Nat.le_trans ((unhide WD0).at j) (by omega)) (by omega)).mono ?_
              rintro e v408 ⟨a18, m18, c18, r18, hh18, rfl, hm18, hs18, ht18, h18, hb9⟩
              replace S0 := hide ((unhide S0).later hb9)
              replace h13 := h13.later hb9
              replace h17 := h17.later hb9
              replace HB := hide (Below.step (unhide HB) hb9)
              clear hb9
              obtain rfl := isSort_inj hs18 (unhide HH)
              obtain rfl := isSort_inj ht17 ht18
              have HW17 := hide ((unhide HHW).both.sort ht17)
              clear hs18 ht18 ht17
              go_wp2_with fail
              refine (rowsSameT _ _ _ r17 kx _ _ _ r17 kx _ (h17.mf.mk (by omega)) (h18.mf.mk (by omega)) (by omega) (by omega) (fun j => Nat.le_trans ((unhide HW17).at j) (by omega)) (fun j => Nat.le_trans ((unhide HW17).at j) (by omega)) (alike_refl r17)).mono ?_
              rintro e v409 ⟨rfl, hb9⟩
              replace S0 := hide ((unhide S0).later hb9)
              replace h13 := h13.later hb9
              replace HB := hide (Below.step (unhide HB) hb9)
              clear hb9
              clear h17 h18
              clear HW17 hm17 hm18
              go_wp2_with fail
              refine (bothK _ _ _ rs0 kx _ (unhide S0).mk (by omega) (fun j => Nat.le_trans ((unhide WD0).at j) (by omega)) (by omega)).mono ?_
              rintro e v410 ⟨a19, m19, c19, r19, hh19, rfl, hm19, hs19, ht19, h19, hb9⟩
              replace S0 := hide ((unhide S0).later hb9)
              replace h13 := h13.later hb9
              replace HB := hide (Below.step (unhide HB) hb9)
              clear hb9
              obtain rfl := isSort_inj hs19 (unhide HH)
              obtain rfl : m19 = 2 * m13 := by rw [← h19.len, ← unhide HHL]; exact both_len (unhide HH) ht19
              clear hs19 ht19 hm19
              go_wp2_with fail
              refine (awake9_any _).mono ?_
              rintro e w2 ⟨rfl, hb2⟩
              go_wp2
              go_ret
              exact ⟨rfl, Below.step (unhide HB) hb2⟩
  · have hf' : q = false := by simpa using hf
    subst hf'
    clear hf hq hb1 hbW hbM hgM hmats hcM0 hbA r0
    go_wp2_with fail
    refine (awake9_any _).mono ?_
    rintro e w2 ⟨rfl, hb2⟩
    go_wp2
    go_ret
    exact ⟨rfl, Below.step (unhide HB) hb2⟩
#print axioms rowsTwice_walk
end Go.Proofs.Ytbdjkbonoofibaa
