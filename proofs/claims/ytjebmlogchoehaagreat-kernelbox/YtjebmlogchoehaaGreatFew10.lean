/-
  What Heavy, Cuts and awake of the tenth stage's statements tell: few rows, short, of at most 3 limbs; rows as rows of one length, at most 7; true (IN PARTS).
-/
import Derived.Test.YtjebmlogchoehaaGreatHHnf
import Derived.Test.YtjebmlogchoehaaGreatJF
import Derived.Test.YtjebmlogchoehaaGreatJM
namespace Go.Proofs.YtjebmlogchoehaaGreat
open Go.RowKit Lb
set_option maxRecDepth 20000

/-- At most P places, each of at most 3 limbs. -/
def Light (P : Nat) (w : World) (a : Option Addr) (l : Nat) : Prop := l ≤ P ∧ ∀ j g off b a' l' c', j < l → a = some ⟨g, off, none⟩ → EltAt w g (off + j * 2) b a' l' c' → l' ≤ 3
theorem light_vs {P : Nat} {w : World} {ao : Option Addr} {n cap : Nat} {zs : List Int} (h : VI w ao n cap zs) (hs : Light P w ao n) : ∀ w', Below w.heap.size w w' → VS w' ao n cap zs 3 := by
  intro w' hb
  refine ⟨h.len_eq, h.cap_le, h.cap_max, h.nil_cap, fun hp => ?_⟩
  obtain ⟨g, off, e, hg, hc⟩ := h.elts hp
  refine ⟨g, off, e, Nat.lt_of_lt_of_le hg hb.size, fun i hi => ?_⟩
  obtain ⟨b, a, l, c, h1, h2⟩ := hc i hi
  have hl := hs.2 i g off b a l c hi e h1
  exact ⟨b, a, l, c, h1.later hb, ik_of (h2.later hb) hl (by omega), hl⟩
theorem light_ms {P : Nat} {w : World} {ao : Option Addr} {n cap : Nat} {rs : List (List Int)} (h : MI w ao n cap rs) (hs : ∀ i g off a l c, i < n → ao = some ⟨g, off, none⟩ → w.cell? ⟨g, off + i, none⟩ = some (.slice a l c) → Light P w a l) : (∀ i, (rs.getD i []).length ≤ P) ∧ ∀ w', Below w.heap.size w w' → MS w' ao n cap rs 3 := by
  refine ⟨fun i => ?_, fun w' hb => ⟨h.len_eq, h.cap_le, h.cap_max, h.nil_cap, fun hp => ?_⟩⟩
  · by_cases hi : i < n
    · obtain ⟨g, off, e, hg, hc⟩ := h.elts (by omega)
      obtain ⟨a, l, c, h1, h2⟩ := hc i hi
      rw [h2.len_eq]
      exact (hs i g off a l c hi e h1).1
    · rw [show rs.getD i [] = [] by simp [List.getD, List.getElem?_eq_none (show rs.length ≤ i by rw [h.len_eq]; omega)]]
      exact Nat.zero_le _
  · obtain ⟨g, off, e, hg, hc⟩ := h.elts hp
    refine ⟨g, off, e, Nat.lt_of_lt_of_le hg hb.size, fun i hi => ?_⟩
    obtain ⟨a, l, c, h1, h2⟩ := hc i hi
    exact ⟨a, l, c, (hb.cell (p := ⟨g, off + i, none⟩) hg).trans h1, light_vs h2 (hs i g off a l c hi e h1) w' hb⟩
set_option maxRecDepth 20000 in
set_option maxHeartbeats 2000000 in
theorem heavyK (ao : Option Addr) (n cap : Nat) (rs : List (List Int)) (R P : Nat) (w : World) (h : MI w ao n cap rs) (hR : R ≤ 1000) (hP : P ≤ 1000) :
    Calls Tryz.prog 7 #[.slice ao n cap, .int .i64 (R : Int), .int .i64 (P : Int)] w fun e w' => ∃ q, e = .returned (.int .i64 q) ∧ (q = 0 ∨ q = 1) ∧ (q = 0 → n ≤ R ∧ (∀ i, (rs.getD i []).length ≤ P) ∧ ∀ w', Below w.heap.size w w' → MS w' ao n cap rs 3) ∧ Below w.heap.size w w' := by
  have hm := Nat.le_trans h.cap_le h.cap_max
  unfold maxLen at hm
  go_enter Tryz.func7, Tryz.ntmps7
  by_cases hnR : n ≤ R
  · have hnR' : ¬ (R : Int) < (n : Int) := by omega
    go_wp2_with fail
    go_loopw [17] (fun t wr => ∃ i : Nat, i ≤ n ∧ t = .int .i64 (i : Int) ∧ (∀ i' g off a l c, i' < i → ao = some ⟨g, off, none⟩ → w.cell? ⟨g, off + i', none⟩ = some (.slice a l c) → Light P w a l) ∧ Below w.heap.size w wr) (fun t _ => n - (intOf t).toNat)
    case atStart => exact ⟨0, by omega, rfl, fun i' _ _ _ _ _ hi => absurd hi (by omega), Below.refl _ _⟩
    case round =>
      obtain ⟨i, hi, rfl, hall, hbel⟩ := hrel
      have HA := hide hall
      clear hall
      by_cases hlt : i < n
      · obtain ⟨g, off, rfl⟩ := h.addr (by omega)
        obtain ⟨hg, a2, l2, c2, hc, hv⟩ := RowsOf.at (R := VI) h hlt
        have hml := Nat.le_trans hv.cap_le hv.cap_max
        unfold maxLen at hml
        have f1 := (hbel.cell (p := ⟨g, off + i, none⟩) hg).trans hc
        have HC := hide hc
        have hgr := Nat.lt_of_lt_of_le hg hbel.size
        clear hc
        by_cases h70 : l2 ≤ P
        · have h70' : ¬ ((P : Int) < (l2 : Int)) := by omega
          go_wp2_with fail
          clear f1 hgr
          go_loopw [27] (fun t wr => ∃ j : Nat, j ≤ l2 ∧ t = .int .i64 (j : Int) ∧ (∀ j' g' off' b a l c, j' < j → a2 = some ⟨g', off', none⟩ → EltAt w g' (off' + j' * 2) b a l c → l ≤ 3) ∧ Below w.heap.size w wr) (fun t _ => l2 - (intOf t).toNat)
          case atStart => exact ⟨0, by omega, rfl, fun j' _ _ _ _ _ _ hj => absurd hj (by omega), hbel⟩
          case round =>
            clear hbel
            obtain ⟨j, hj, rfl, hall, hbel⟩ := hrel
            have HJ := hide hall
            clear hall
            by_cases hjl : j < l2
            · obtain ⟨g2, off2, rfl⟩ := hv.some (by omega)
              obtain ⟨b3, a3, l3, c3, he0, hy⟩ := VI.at hv hjl
              have hml3 := hy.cap_max
              unfold maxLen at hml3
              have he := he0.later hbel
              obtain ⟨f1, f2⟩ := he.facts
              have hg1 := he.1
              by_cases h12 : l3 ≤ 3
              · have h12' : ¬ (3 < (l3 : Int)) := by omega
                go_wp2
                go_roundw
                case rel =>
                  refine ⟨j + 1, by omega, by go_num, fun j' g' off' b a l c hj' e he' => ?_, hbel.alloc hbel.size _⟩
                  by_cases ej : j' = j
                  · subst ej
                    obtain ⟨rfl, rfl⟩ := addr_inj e
                    rw [elt_len he' he0]
                    exact h12
                  · exact (unhide HJ) j' g' off' b a l c (by omega) e he'
                case measure => simp [intOf]; omega
              · have h12' : 3 < (l3 : Int) := by omega
                go_wp2
                go_ret
                exact ⟨1, rfl, Or.inr rfl, fun e => absurd e (by omega), hbel.alloc hbel.size _⟩
            · have hin : j = l2 := by omega
              subst hin
              go_wp2
              go_roundw
              case rel =>
                refine ⟨i + 1, by omega, by go_num, fun i' g' off' a l c hi' e hc' => ?_, hbel⟩
                by_cases ei : i' = i
                · subst ei
                  obtain ⟨rfl, rfl⟩ := addr_inj e
                  have e2 := hc'.symm.trans (unhide HC)
                  simp only [Option.some.injEq, Value.slice.injEq] at e2
                  obtain ⟨rfl, rfl, rfl⟩ := e2
                  exact ⟨h70, fun j' g'' off'' b a' l' c' hj' e' he' => (unhide HJ) j' g'' off'' b a' l' c' hj' e' he'⟩
                · exact (unhide HA) i' g' off' a l c (by omega) e hc'
              case measure => simp [intOf]; omega
        · have h70' : (P : Int) < (l2 : Int) := by omega
          go_wp2
          go_ret
          exact ⟨1, rfl, Or.inr rfl, fun e => absurd e (by omega), hbel⟩
      · have hin : i = n := by omega
        subst hin
        have HT := hide (light_ms h (unhide HA))
        go_wp2_with fail
        refine (few7_any _ _ _ rs _ (h.later hbel)).mono ?_
        rintro e w2 ⟨q, rfl, hq, _, hb1⟩
        go_wp2
        go_ret
        exact ⟨q, rfl, hq, fun _ => ⟨hnR, (unhide HT).1, (unhide HT).2⟩, Below.step hbel hb1⟩
  · have hnR' : (R : Int) < (n : Int) := by omega
    go_wp2
    go_ret
    exact ⟨1, rfl, Or.inr rfl, fun e => absurd e (by omega), Below.refl _ _⟩

theorem room_nat10 {n : Nat} (h : n ≤ 64) : room (n : Int) = n := by
  unfold room
  split <;> (try split) <;> omega
set_option maxRecDepth 20000 in
set_option maxHeartbeats 2000000 in
theorem cutsK (ao : Option Addr) (n cap : Nat) (rs : List (List Int)) (k : Nat) (x : Int) (w : World) (h : MK w ao n cap rs k) (hn : n ≤ 1000) :
    Calls Tryz.prog 9 #[.slice ao n cap, .int .i64 x] w fun e w' => ∃ a1 c1, ∃ N : Nat, e = .returned (.tuple #[.slice a1 n c1, .int .i64 (N : Int)]) ∧ 1 ≤ N ∧ N ≤ 7 ∧ MF w' a1 n c1 (rs.map fun r => vcut r N) k ∧ Below w.heap.size w w' := by
  have HL := hide h.len_eq
  obtain ⟨M, hM⟩ : ∃ M : Nat, IntKind.u64.wrap x = (M : Int) := by
    refine ⟨(IntKind.u64.wrap x).toNat, ?_⟩
    simp [IntKind.wrap, IntKind.bits, IntKind.signed]
    omega
  obtain ⟨N, eN⟩ : ∃ N : Nat, N = 1 + M % 7 := ⟨_, rfl⟩
  have hN1 : 1 ≤ N := by omega
  have hN7 : N ≤ 7 := by omega
  have hNI : (1 : Int) + (M : Int) % 7 = (N : Int) := by omega
  have hr0 : (0 : Int) ≤ (M : Int) % 7 := by omega
  have hr1 : (M : Int) % 7 < 7 := by omega
  have hroom := room_nat10 (show N ≤ 64 by omega)
  have HRM := hide hroom
  obtain ⟨cl, ecl⟩ : ∃ cl, cl = rs.map fun r => vcut r N := ⟨_, rfl⟩
  have HCL := hide (show cl.length = n by rw [ecl, List.length_map]; exact h.len_eq)
  have HCA : Hid (∀ i, i < n → cl.getD i [] = vcut (rs.getD i []) N) := hide fun i hi => by
    have : i < rs.length := by rw [h.len_eq]; exact hi
    rw [ecl]; simp [List.getD, this]
  have ECL := hide ecl
  clear eN hroom ecl
  go_enter Tryz.func9, Tryz.ntmps9
  go_wp2_with fail
  go_loopw [7, 17] (fun s t wr => ∃ (i : Nat) (ah : Option Addr) (ch : Nat), i ≤ n ∧ t = .int .i64 (i : Int) ∧ s = .slice ah i ch ∧ MO wr w.heap.size ah i ch (cl.take i) k ∧ Below w.heap.size w wr) (fun _ t _ => n - (intOf t).toNat)
  case atStart => exact ⟨0, none, 0, Nat.zero_le _, rfl, rfl, mo_nil _ _ _, Below.refl _ _⟩
  case round =>
    obtain ⟨i, ah, ch, hi, rfl, rfl, hown, hB⟩ := hrel
    have HB := hide hB
    clear hB
    by_cases hlt : i < n
    · obtain ⟨g, off, rfl⟩ := h.addr (by omega)
      obtain ⟨hg, a5, l5, c5, hc5, hv5⟩ := RowsOf.at (R := fun w a l c zs => VK w a l c zs k) h hlt
      replace hv5 := hv5.later (unhide HB)
      have f2 := ((unhide HB).cell (p := ⟨g, off + i, none⟩) hg).trans hc5
      have hgr := Nat.lt_of_lt_of_le hg (unhide HB).size
      have hi0 : (0 : Int) ≤ (i : Int) := by omega
      have hi1 : (i : Int) < (n : Int) := by omega
      clear hc5 hg
      go_wp2_with fail
      refine (rvcutK a5 l5 c5 (rs.getD i []) k (N : Int) _ hv5).mono ?_
      rintro e w5 ⟨a7, c7, rfl, h7, hb9⟩
      rw [unhide HRM] at h7 ⊢
      replace hown := hown.later hb9
      replace HB := hide (Below.step (unhide HB) hb9)
      clear hb9 f2 hgr hv5
      obtain ⟨W6, hW6⟩ : ∃ W6, W6 = w5.alloc (.cells #[.slice a7 N c7] 24) := ⟨_, rfl⟩
      have hb9 : Below w5.heap.size w5 W6 := by rw [hW6]; exact below_new _ _
      have hone := mf_one h7
      replace hown := hown.later hb9
      replace HB := hide (Below.step (unhide HB) hb9)
      clear hb9
      have hsz := (unhide HB).size
      rw [hW6] at hown hsz
      go_wp2_with (at_builtin; (refine append_rows (R := fun w a l c zs => VF w a l c zs k) (steadyMO k) rfl (.tmp 21) (.tmp 25) 22 Tryz.underlying22 rfl w.heap.size ah i ch (cl.take i) rfl hown _ 1 1 [vcut (rs.getD i []) N] rfl hone (by omega) hsz ?_))
      intro an cn w7 hown2 hgr7
      rw [← hW6] at hgr7 hown hsz
      clear hW6 hone
      have HD := hide ((unhide HB).grown hgr7 hsz (MO.ge hown))
      clear hgr7
      have hown3 : MO w7 w.heap.size an (i + 1) cn (cl.take (i + 1)) k := by
        rw [take_all_snoc (by rw [unhide HCL]; exact hlt), unhide HCA i hlt]
        exact hown2
      clear hown2 hown
      go_wp2
      go_roundw
      case rel => exact ⟨i + 1, _, _, by omega, by go_num, rfl, hown3, unhide HD⟩
      case measure => simp [intOf]; omega
    · have hin : i = n := by omega
      subst hin
      have hi1 : ¬ (i : Int) < (i : Int) := by omega
      rw [List.take_of_length_le (by rw [unhide HCL]; exact Nat.le_refl _)] at hown
      go_wp2
      refine bodyPost_ret (v := .tuple #[.slice ah i ch, .int .i64 (N : Int)]) (by simp [results, Tryz.results9, go_sem, *]) rfl ?_
      exact ⟨_, _, N, rfl, hN1, hN7, by rw [← unhide ECL]; exact hown.mf, unhide HB⟩

theorem bounded_two : Bounded [[2, 4], [3, 1]] 1791 := bounded_six (by decide) fun i j => by
  have h6 : (10 : Nat) < Bp 6 := by
    have : (1 : Nat) ≤ 6 := by omega
    exact Nat.lt_of_lt_of_le (show (10 : Nat) < Bp 1 by unfold Bp; decide) (Bp_le this)
  have : (ent [[2, 4], [3, 1]] i j).natAbs ≤ 4 := by
    match i, j with
    | 0, 0 => decide
    | 0, 1 => decide
    | 0, j + 2 => simp [ent]
    | 1, 0 => decide
    | 1, 1 => decide
    | 1, j + 2 => simp [ent]
    | i + 2, j => simp [ent]
  omega
theorem awake_form : HForm [[1, 7], [0, 10]] (fun i => i) := by
  refine ⟨fun a b h1 _ => h1, fun a ha j hj => ?_, fun a ha => ?_, fun a b h1 h2 => ?_⟩
  · match a, ha with
    | 0, _ => omega
    | 1, _ => obtain rfl : j = 0 := by omega
              decide
  · match a, ha with
    | 0, _ => decide
    | 1, _ => decide
  · obtain ⟨rfl, rfl⟩ : a = 0 ∧ b = 1 := by
      simp at h2
      omega
    decide
theorem awake_same : SameL [[2, 4], [3, 1]] [[1, 7], [0, 10]] := by
  have r0 : ∀ l : List (List Int), ∀ a b c d : Int, l = [[a, b], [c, d]] → ∀ x y : Int, InL l fun j => ([x * a + y * c, x * b + y * d] : List Int).getD j 0 := by
    intro l a b c d e x y
    subst e
    refine (((inL_row (l := [[a, b], [c, d]]) 0).mul x).add ((inL_row (l := [[a, b], [c, d]]) 1).mul y)).eq fun j => ?_
    match j with
    | 0 => simp [ent]
    | 1 => simp [ent]
    | j + 2 => simp [ent]
  refine sameL_of (fun t ht => ?_) (fun t ht => ?_)
  · match t, ht with
    | 0, _ => exact (r0 _ 1 7 0 10 rfl 2 (-1)).eq fun j => by match j with | 0 => decide | 1 => decide | j + 2 => simp [ent]
    | 1, _ => exact (r0 _ 1 7 0 10 rfl 3 (-2)).eq fun j => by match j with | 0 => decide | 1 => decide | j + 2 => simp [ent]
  · match t, ht with
    | 0, _ => exact (r0 _ 2 4 3 1 rfl 2 (-1)).eq fun j => by match j with | 0 => decide | 1 => decide | j + 2 => simp [ent]
    | 1, _ => exact (r0 _ 2 4 3 1 rfl 3 (-2)).eq fun j => by match j with | 0 => decide | 1 => decide | j + 2 => simp [ent]
theorem awake_one {hs : List (List Int)} {p : Nat → Nat} (hf : HForm hs p) (hs1 : SameL [[2, 4], [3, 1]] hs) (hl : ∀ r ∈ hs, (r.length : Int) = 2) : hs = [[1, 7], [0, 10]] := by
  refine hnf_one (n := 2) hf awake_form (hs1.symm.trans awake_same) (fun r hr => by have := hl r hr; omega) (fun r hr => ?_)
  simp at hr
  rcases hr with rfl | rfl <;> rfl

theorem intRows10 {w : World} {vs : List (Option Addr × Nat × Nat)} {rs : List (List Int)} {n m : Nat} {t : TypeId} (hm : m = vs.length) (hn : n = w.heap.size) (hl : rs.length = vs.length) (hs : vs.length ≤ 1000)
    (h : ∀ i a l c, vs[i]? = some (a, l, c) → IRowAt (w.alloc (.cells (vs.map fun v => Value.slice v.1 v.2.1 v.2.2).toArray t)) a l c (rs.getD i [])) :
    RowsOf IRowAt (w.alloc (.cells (vs.map fun v => Value.slice v.1 v.2.1 v.2.2).toArray t)) (some ⟨n, 0, none⟩) m m rs := by
  subst hn hm
  refine ⟨hl, Nat.le_refl _, by unfold maxLen; omega, fun e => by simp at e, fun _ => ⟨w.heap.size, 0, rfl, by simp, fun i hi => ?_⟩⟩
  obtain ⟨v, hv⟩ : ∃ v, vs[i]? = some v := ⟨vs[i], List.getElem?_eq_getElem hi⟩
  obtain ⟨a, l, c⟩ := v
  refine ⟨a, l, c, ?_, h i a l c hv⟩
  rw [Nat.zero_add]
  simp [hv]
/-- Two rows of two ints, just built. -/
theorem lit_two (w : World) (a b c d : Int) (h1 : ∀ z ∈ [a, b], -9223372036854775808 ≤ z ∧ z ≤ 9223372036854775807) (h2 : ∀ z ∈ [c, d], -9223372036854775808 ≤ z ∧ z ≤ 9223372036854775807) {W : World} (hW : W = ((w.alloc (.cells #[.int .i64 a, .int .i64 b] 3)).alloc (.cells #[.int .i64 c, .int .i64 d] 3)).alloc (.cells #[.slice (some ⟨w.heap.size, 0, none⟩) 2 2, .slice (some ⟨w.heap.size + 1, 0, none⟩) 2 2] 57)) :
    RowsOf IRowAt W (some ⟨w.heap.size + 1 + 1, 0, none⟩) 2 2 [[a, b], [c, d]] ∧ Below w.heap.size w W := by
  obtain ⟨W1, hW1⟩ : ∃ W', W' = w.alloc (.cells #[.int .i64 a, .int .i64 b] 3) := ⟨_, rfl⟩
  have hs1 : W1.heap.size = w.heap.size + 1 := by rw [hW1]; simp
  have hb1 : Below w.heap.size w W1 := by rw [hW1]; exact below_new _ _
  have hr1 : IRowAt W1 (some ⟨w.heap.size, 0, none⟩) 2 2 [a, b] := by rw [hW1]; exact irow_new (zs := [a, b]) rfl rfl (by simp) (small_all h1)
  rw [← hW1] at hW
  obtain ⟨W2, hW2⟩ : ∃ W', W' = W1.alloc (.cells #[.int .i64 c, .int .i64 d] 3) := ⟨_, rfl⟩
  have hs2 : W2.heap.size = W1.heap.size + 1 := by rw [hW2]; simp
  have hb2 : Below W1.heap.size W1 W2 := by rw [hW2]; exact below_new _ _
  have hr2 : IRowAt W2 (some ⟨w.heap.size + 1, 0, none⟩) 2 2 [c, d] := by rw [hW2, ← hs1]; exact irow_new (zs := [c, d]) rfl rfl (by simp) (small_all h2)
  rw [← hW2] at hW
  have hb4 := below_new W2 (.cells #[.slice (some ⟨w.heap.size, 0, none⟩) 2 2, .slice (some ⟨w.heap.size + 1, 0, none⟩) 2 2] 57)
  have hrows := intRows10 (w := W2) (vs := [(some ⟨w.heap.size, 0, none⟩, 2, 2), (some ⟨w.heap.size + 1, 0, none⟩, 2, 2)]) (rs := [[a, b], [c, d]]) (n := w.heap.size + 1 + 1) (m := 2) (t := 57) rfl (by omega) rfl (by simp) (fun i a l c e => by
    match i with
    | 0 =>
      simp at e
      obtain ⟨rfl, rfl, rfl⟩ := e
      exact (hr1.later hb2).later hb4
    | 1 =>
      simp at e
      obtain ⟨rfl, rfl, rfl⟩ := e
      exact hr2.later hb4)
  subst hW
  exact ⟨hrows, Below.step (Below.step hb1 hb2) hb4⟩
theorem wide_two {a b c d : Int} (i : Nat) : ([[a, b], [c, d]].getD i []).length ≤ 1000000 := by
  match i with
  | 0 => simp
  | 1 => simp
  | i + 2 => simp
#print axioms heavyK
#print axioms cutsK
#print axioms awake_one
end Go.Proofs.YtjebmlogchoehaaGreat
