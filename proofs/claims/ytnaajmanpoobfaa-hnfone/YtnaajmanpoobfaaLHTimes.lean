/-
  The walk of HnfTimes: it tells true.
-/
import Derived.Test.YtnaajmanpoobfaaFew10
import Derived.Test.YtnaajmanpoobfaaJF
import Derived.Deep.CutRange
namespace Go.Proofs.Ytnaajmanpoobfaa
open Go.RowKit Lb
set_option maxRecDepth 20000

theorem mf_ent {w : World} {ao : Option Addr} {n cap k : Nat} {rs : List (List Int)} (h : MF w ao n cap rs k) (i j : Nat) : (ent rs i j).natAbs < Bp k := by
  by_cases hi : i < n
  · obtain ⟨g, off, rfl⟩ := h.addr (by omega)
    obtain ⟨_, a, l, c, _, hv⟩ := RowsOf.at (R := fun w a l c zs => VF w a l c zs k) h hi
    exact vf_size hv j
  · rw [ent_out (by rw [h.len_eq]; omega)]
    have := Bp_pos k
    simpa using this
theorem ent_times (cl : List (List Int)) (x : Int) (i j : Nat) : ent (cl.map fun r => vtimes r x) i j = x * ent cl i j := by
  unfold ent
  by_cases c : i < cl.length
  · rw [show (cl.map fun r => vtimes r x).getD i [] = vtimes (cl.getD i []) x by simp [List.getD, c], vtimes_at, Int.mul_comm]
  · rw [show (cl.map fun r => vtimes r x).getD i [] = [] by simp [List.getD, List.getElem?_eq_none (Nat.le_of_not_lt c)], show cl.getD i [] = [] by simp [List.getD, List.getElem?_eq_none (Nat.le_of_not_lt c)]]
    simp
theorem map_getD {cl : List (List Int)} {f : List Int → List Int} {i : Nat} (h : i < cl.length) : (cl.map f).getD i [] = f (cl.getD i []) := by simp [List.getD, h]
theorem cut_form (rs : List (List Int)) {N : Nat} (h1 : 1 ≤ N) (h7 : N ≤ 7) : rform (rs.map fun r => vcut r N) (N : Int) = true := by
  refine rform_yes (by omega) fun i hi => ?_
  rw [List.length_map] at hi
  rw [map_getD hi, vcut_len]
theorem times_form {cl : List (List Int)} {N : Nat} (x : Int) (h : rform cl (N : Int) = true) : rform (cl.map fun r => vtimes r x) (N : Int) = true := by
  obtain ⟨M, e, h1, h2, h3⟩ := rform_rows h
  obtain rfl : N = M := by omega
  refine rform_yes (by omega) fun i hi => ?_
  rw [List.length_map] at hi
  rw [map_getD hi, vtimes_len, rows_len h3 i hi]
/-- Of noughts alone there is no row. -/
theorem hform_zero {ml hs : List (List Int)} {p : Nat → Nat} (hf : HForm hs p) (hs1 : SameL ml hs) (h0 : ∀ i j, ent ml i j = 0) : hs = [] := by
  rcases Nat.eq_zero_or_pos hs.length with c | c
  · exact List.eq_nil_of_length_eq_zero c
  · exfalso
    have hp := hf.pos 0 c
    obtain ⟨d, hd⟩ := (hs1.symm.row 0)
    have : ent hs 0 (p 0) = _ := hd (p 0)
    rw [show (sumN ml.length fun i => d i * ent ml i (p 0)) = sumN ml.length fun _ => (0 : Int) from sumN_congr fun i _ => by rw [h0, Int.mul_zero], sumN_nil0] at this
    omega
theorem times_same {cl hs1 hs2 : List (List Int)} {p q : Nat → Nat} {x : Int} {N : Nat} (hf1 : HForm hs1 p) (hf2 : HForm hs2 q) (hs : SameL cl hs1) (ht : SameL (cl.map fun r => vtimes r x) hs2) (hx : x ≠ 0) (l1 : ∀ r ∈ hs1, (r.length : Int) = (N : Int)) (l2 : ∀ r ∈ hs2, (r.length : Int) = (N : Int)) : hs2 = hs1.map fun r => vtimes r (x.natAbs : Int) := by
  have hg := hf1.times (y := (x.natAbs : Int)) (g := hs1.map fun r => vtimes r (x.natAbs : Int)) (by omega) (by rw [List.length_map]) (fun i j => ent_times hs1 _ i j)
  have hsm := sameL_times (x := x) (y := (x.natAbs : Int)) hs (by omega) (by rw [List.length_map]) (fun i j => ent_times cl x i j) (by rw [List.length_map]) (fun i j => ent_times hs1 (x.natAbs : Int) i j)
  refine hnf_one (n := N) hf2 hg (ht.symm.trans hsm) (fun r hr => by have := l2 r hr; omega) (fun r hr => ?_)
  obtain ⟨r', hr', rfl⟩ := List.mem_map.1 hr
  rw [vtimes_len]
  have := l1 r' hr'
  omega
set_option maxRecDepth 40000 in
set_option maxHeartbeats 4000000 in
theorem hnfTimes_walk (a0 : Option Addr) (len0 cap0 : Nat) (rs0 : List (List Int)) (m1 m2 : Int) (w : World) (r0 : MI w a0 len0 cap0 rs0) (_r1 : (Lit.int .i64 m1).wf = true) (r2 : (Lit.int .i16 m2).wf = true) :
    Calls Try.prog 4 #[.slice a0 len0 cap0, .int .i64 m1, .int .i16 m2] w fun e w' => e = .returned (.bool true) ∧ Below w.heap.size w w' := by
  obtain ⟨hm1, hm2⟩ := bounds_i16 r2
  clear _r1 r2
  have hwr : IntKind.i64.wrap m2 = m2 := by
    simp [IntKind.wrap, IntKind.bits, IntKind.signed]
    omega
  go_enter Try.func4, Try.ntmps4
  go_wp2_with fail
  refine (heavyK a0 len0 cap0 rs0 5 9 _ r0 (by omega) (by omega)).mono ?_
  rintro e w1 ⟨q, rfl, hq, hlt, hb1⟩
  have HB := hide hb1
  rcases hq with rfl | rfl
  · obtain ⟨hn5, _, hms⟩ := hlt rfl
    have hl := hms _ hb1
    clear hms hlt hb1 r0
    go_wp2_with fail
    refine (cutsK a0 len0 cap0 rs0 3 m1 _ hl.mk (by omega)).mono ?_
    rintro e w2 ⟨a2, c2, N, rfl, hN1, hN7, h2, hb1⟩
    have HF := hide (cut_form rs0 hN1 hN7)
    obtain ⟨cl, ecl⟩ : ∃ cl, cl = rs0.map fun r => vcut r N := ⟨_, rfl⟩
    rw [← ecl] at h2 HF
    have HCL := hide h2.len_eq
    replace HB := hide (Below.step (unhide HB) hb1)
    obtain ⟨ml, eml⟩ : ∃ ml, ml = cl.map fun r => vtimes r m2 := ⟨_, rfl⟩
    have EML := hide eml
    have HML := hide (show ml.length = len0 by rw [eml, List.length_map]; exact h2.len_eq)
    have HFM := hide (show rform ml (N : Int) = true by rw [eml]; exact times_form m2 (unhide HF))
    have HMA : Hid (∀ i, i < len0 → ml.getD i [] = vtimes (cl.getD i []) m2) := hide fun i hi => by rw [eml]; exact map_getD (by rw [unhide HCL]; exact hi)
    have HEC := hide (mf_ent h2)
    clear hb1 hl ecl eml
    go_wp2_with fail
    go_loopw [9, 31] (fun s t wr => ∃ (i : Nat) (ah : Option Addr) (ch : Nat), i ≤ len0 ∧ t = .int .i64 (i : Int) ∧ s = .slice ah i ch ∧ MO wr w2.heap.size ah i ch (ml.take i) 5 ∧ Below w2.heap.size w2 wr) (fun _ t _ => len0 - (intOf t).toNat)
    case atStart => exact ⟨0, none, 0, Nat.zero_le _, rfl, rfl, mo_nil _ _ _, Below.refl _ _⟩
    case round =>
      obtain ⟨i, ah, ch, hi, rfl, rfl, hown, hB⟩ := hrel
      have HC := hide hB
      clear hB
      by_cases hlt : i < len0
      · obtain ⟨g, off, rfl⟩ := h2.addr (by omega)
        obtain ⟨hg, a5, l5, c5, hc5, hv5⟩ := RowsOf.at (R := fun w a l c zs => VF w a l c zs 3) h2 hlt
        have hl5 := Nat.le_trans hv5.cap_le hv5.cap_max
        have hl6 : N = l5 := by
          rw [← hv5.len_eq]
          obtain ⟨M, e, _, _, h3⟩ := rform_rows (unhide HF)
          rw [rows_len h3 i (by rw [unhide HCL]; exact hlt)]
          omega
        subst hl6
        replace hv5 := hv5.later (unhide HC)
        have f2 := ((unhide HC).cell (p := ⟨g, off + i, none⟩) hg).trans hc5
        have hgr := Nat.lt_of_lt_of_le hg (unhide HC).size
        have hi0 : (0 : Int) ≤ (i : Int) := by omega
        have hi1 : (i : Int) < (len0 : Int) := by omega
        clear hc5 hg hl5
        go_wp2_with fail
        refine (rofK m2 _ (by omega) (by omega)).mono ?_
        rintro e w5 ⟨b7, a7, l7, c7, rfl, h7, hb9⟩
        replace hown := hown.later hb9
        replace hv5 := hv5.later hb9
        replace HC := hide (Below.step (unhide HC) hb9)
        clear hb9 f2 hgr
        go_wp2_with fail
        refine (vtimesK _ _ _ (cl.getD i []) 3 b7 a7 l7 c7 m2 2 _ (hv5.vk (by omega)) (h7.ik (by omega)) (by omega)).mono ?_
        rintro e w6 ⟨a8, c8, rfl, h8, hb9⟩
        replace hown := hown.later hb9
        replace HC := hide (Below.step (unhide HC) hb9)
        clear hb9 hv5 h7
        obtain ⟨W6, hW6⟩ : ∃ W6, W6 = w6.alloc (.cells #[.slice a8 N c8] 35) := ⟨_, rfl⟩
        have hb9 : Below w6.heap.size w6 W6 := by rw [hW6]; exact below_new _ _
        have hone := mf_one h8
        replace hown := hown.later hb9
        replace HC := hide (Below.step (unhide HC) hb9)
        clear hb9
        have hsz := (unhide HC).size
        rw [hW6] at hown hsz
        go_wp2_with (at_builtin; (refine append_rows (R := fun w a l c zs => VF w a l c zs (3 + 2)) (steadyMO (3 + 2)) rfl (.tmp 35) (.tmp 41) 22 Try.underlying22 rfl w2.heap.size ah i ch (ml.take i) rfl hown _ 1 1 [vtimes (cl.getD i []) m2] rfl hone (by omega) hsz ?_))
        intro an cn w7 hown2 hgr7
        rw [← hW6] at hgr7 hown hsz
        clear hW6 hone
        have HD := hide ((unhide HC).grown hgr7 hsz (MO.ge hown))
        clear hgr7
        have hown3 : MO w7 w2.heap.size an (i + 1) cn (ml.take (i + 1)) 5 := by
          rw [take_all_snoc (by rw [unhide HML]; exact hlt), unhide HMA i hlt]
          exact hown2
        clear hown2 hown
        go_wp2
        go_roundw
        case rel => exact ⟨i + 1, _, _, by omega, by go_num, rfl, hown3, unhide HD⟩
        case measure => simp [intOf]; omega
      · have hin : i = len0 := by omega
        subst hin
        have hi1 : ¬ (i : Int) < (i : Int) := by omega
        rw [List.take_of_length_le (by rw [unhide HML]; exact Nat.le_refl _)] at hown
        have hmf := hown.mf
        have h3 := h2.later (unhide HC)
        replace HB := hide (Below.step (unhide HB) (unhide HC))
        have HBC := hide (bounded_six (l := cl) (by rw [unhide HCL]; omega) fun a b => Nat.lt_of_lt_of_le (unhide HEC a b) (Bp_le (by omega)))
        have HBM := hide (bounded_six (l := ml) (by rw [unhide HML]; omega) fun a b => Nat.lt_of_lt_of_le (mf_ent hmf a b) (Bp_le (by omega)))
        clear hown HC h2
        go_wp2_with fail
        refine (hnfK a2 i c2 cl 3 1791 4 (N : Int) _ (h3.mk (by omega)) (by omega) (unhide HF) (unhide HBC) (by omega) (by omega) (by omega) (by omega)).mono ?_
        rintro e w5 ⟨a5, m, c5, p, hs1, rfl, h5, hf, hs, hl, hm, hb9⟩
        have HF1 := hide hf
        have HS1 := hide hs
        have HL1 := hide hl
        replace hmf := hmf.later hb9
        replace HB := hide (Below.step (unhide HB) hb9)
        clear hf hs hl hb9 h3
        go_wp2_with fail
        refine (hnfK _ i _ ml 5 1791 4 (N : Int) _ (hmf.mk (by omega)) (by omega) (unhide HFM) (unhide HBM) (by omega) (by omega) (by omega) (by omega)).mono ?_
        rintro e w6 ⟨a6, m6, c6, p6, hs2, rfl, h6, hf, hs, hl, hm6, hb9⟩
        have HF2 := hide hf
        have HS2 := hide hs
        have HL2 := hide hl
        replace h5 := h5.later hb9
        replace HB := hide (Below.step (unhide HB) hb9)
        clear hf hs hl hb9 hmf
        have HH1 := hide h5.len_eq
        by_cases h0 : m2 = 0
        · have HE := hide (hform_zero (unhide HF2) (unhide HS2) fun a b => by rw [unhide EML, ent_times, h0, Int.zero_mul])
          clear hwr hm1 hm2
          subst h0
          go_wp2_with fail
          go_loopw [10, 58] (fun s t wr => ∃ i : Nat, i ≤ m ∧ t = .int .i64 (i : Int) ∧ s = .slice none 0 0 ∧ Below w6.heap.size w6 wr) (fun _ t _ => m - (intOf t).toNat)
          case atStart => exact ⟨0, Nat.zero_le _, rfl, rfl, Below.refl _ _⟩
          case round =>
            obtain ⟨j, hj, rfl, rfl, hB⟩ := hrel
            have HC := hide hB
            clear hB
            by_cases hlt : j < m
            · obtain ⟨g, off, rfl⟩ := h5.addr (by omega)
              obtain ⟨hg, a7, l7, c7, hc7, hv7⟩ := RowsOf.at (R := fun w a l c zs => VF w a l c zs 1791) h5 hlt
              have f2 := ((unhide HC).cell (p := ⟨g, off + j, none⟩) hg).trans hc7
              have hgr := Nat.lt_of_lt_of_le hg (unhide HC).size
              have hi0 : (0 : Int) ≤ (j : Int) := by omega
              have hi2 : (j : Int) < (m : Int) := by omega
              clear hc7 hg hv7
              go_wp2
              go_roundw
              case rel => exact ⟨j + 1, by omega, by go_num, rfl, unhide HC⟩
              case measure => simp [intOf]; omega
            · have hin : j = m := by omega
              subst hin
              have hi2 : ¬ (j : Int) < (j : Int) := by omega
              have h7 := h6.later (unhide HC)
              replace HB := hide (Below.step (unhide HB) (unhide HC))
              clear h5 h6 HC
              go_wp2_with fail
              refine (refSameAllK _ _ _ hs2 1791 none 0 0 [] 0 _ h7 (mf_nil _ 0) (unhide HE)).mono ?_
              rintro e w8 ⟨rfl, hb9⟩
              replace HB := hide (Below.step (unhide HB) hb9)
              clear hb9
              go_wp2_with fail
              refine (awake10_any _).mono ?_
              rintro e w9 ⟨rfl, hb9⟩
              go_wp2
              go_ret
              exact ⟨rfl, Below.step (unhide HB) hb9⟩
        · have HSA : SameL (cl.map fun r => vtimes r m2) hs2 := by rw [← unhide EML]; exact unhide HS2
          have HE := hide (times_same (unhide HF1) (unhide HF2) (unhide HS1) HSA h0 (unhide HL1) (unhide HL2))
          obtain ⟨wl, ewl⟩ : ∃ wl, wl = hs1.map fun r => vtimes r (m2.natAbs : Int) := ⟨_, rfl⟩
          have HWA : Hid (∀ i, i < m → wl.getD i [] = vtimes (hs1.getD i []) (m2.natAbs : Int)) := hide fun i hi => by rw [ewl]; exact map_getD (by rw [unhide HH1]; exact hi)
          have HWL := hide (show wl.length = m by rw [ewl, List.length_map]; exact unhide HH1)
          rw [← ewl] at HE
          have hne : (m2 != 0) = true := by simp; exact h0
          clear HSA ewl
          go_wp2_with fail
          go_loopw [10, 58] (fun s t wr => ∃ (j : Nat) (ah : Option Addr) (ch : Nat), j ≤ m ∧ t = .int .i64 (j : Int) ∧ s = .slice ah j ch ∧ MO wr w6.heap.size ah j ch (wl.take j) (1791 + 2) ∧ Below w6.heap.size w6 wr) (fun _ t _ => m - (intOf t).toNat)
          case atStart => exact ⟨0, none, 0, Nat.zero_le _, rfl, rfl, mo_nil _ _ _, Below.refl _ _⟩
          case round =>
            obtain ⟨j, ah, ch, hj, rfl, rfl, hown, hB⟩ := hrel
            have HC := hide hB
            clear hB
            by_cases hlt : j < m
            · obtain ⟨g, off, rfl⟩ := h5.addr (by omega)
              obtain ⟨hg, a7, l7, c7, hc7, hv7⟩ := RowsOf.at (R := fun w a l c zs => VF w a l c zs 1791) h5 hlt
              have hl8 : N = l7 := by
                rw [← hv7.len_eq]
                have := unhide HL1 (hs1.getD j []) (by rw [show hs1.getD j [] = hs1[j]'(by rw [unhide HH1]; exact hlt) by simp [List.getD, show j < hs1.length by rw [unhide HH1]; exact hlt]]; exact List.getElem_mem _)
                omega
              subst hl8
              replace hv7 := hv7.later (unhide HC)
              have f2 := ((unhide HC).cell (p := ⟨g, off + j, none⟩) hg).trans hc7
              have hgr := Nat.lt_of_lt_of_le hg (unhide HC).size
              have hi0 : (0 : Int) ≤ (j : Int) := by omega
              have hi2 : (j : Int) < (m : Int) := by omega
              clear hc7 hg
              go_wp2_with fail
              refine (rofK m2 _ (by omega) (by omega)).mono ?_
              rintro e w7 ⟨b8, a8, l8, c8, rfl, h8, hb9⟩
              replace hown := hown.later hb9
              replace hv7 := hv7.later hb9
              replace HC := hide (Below.step (unhide HC) hb9)
              clear hb9 f2 hgr
              go_wp2_with fail
              refine (rabsK b8 a8 l8 c8 m2 2 _ (h8.ik (by omega))).mono ?_
              rintro e w8 ⟨b9, a9, l9, c9, rfl, h9, hb9⟩
              replace hown := hown.later hb9
              replace hv7 := hv7.later hb9
              replace HC := hide (Below.step (unhide HC) hb9)
              clear hb9 h8
              go_wp2_with fail
              refine (rvtimesK _ _ _ (hs1.getD j []) 1791 b9 a9 l9 c9 (m2.natAbs : Int) 2 _ (hv7.vs (by omega)) (h9.sk (by omega)) (by omega) (by omega) (by omega)).mono ?_
              rintro e w9 ⟨a10, c10, rfl, h10, hb9⟩
              replace hown := hown.later hb9
              replace HC := hide (Below.step (unhide HC) hb9)
              clear hb9 hv7 h9
              obtain ⟨W6, hW6⟩ : ∃ W6, W6 = w9.alloc (.cells #[.slice a10 N c10] 35) := ⟨_, rfl⟩
              have hb9 : Below w9.heap.size w9 W6 := by rw [hW6]; exact below_new _ _
              have hone := mf_one h10
              replace hown := hown.later hb9
              replace HC := hide (Below.step (unhide HC) hb9)
              clear hb9
              have hsz := (unhide HC).size
              rw [hW6] at hown hsz
              go_wp2_with (at_builtin; (refine append_rows (R := fun w a l c zs => VF w a l c zs (1791 + 2)) (steadyMO (1791 + 2)) rfl (.tmp 64) (.tmp 71) 22 Try.underlying22 rfl w6.heap.size ah j ch (wl.take j) rfl hown _ 1 1 [vtimes (hs1.getD j []) (m2.natAbs : Int)] rfl hone (by omega) hsz ?_))
              intro an cn w10 hown2 hgr7
              rw [← hW6] at hgr7 hown hsz
              clear hW6 hone
              have HD := hide ((unhide HC).grown hgr7 hsz (MO.ge hown))
              clear hgr7
              have hown3 : MO w10 w6.heap.size an (j + 1) cn (wl.take (j + 1)) (1791 + 2) := by
                rw [take_all_snoc (by rw [unhide HWL]; exact hlt), unhide HWA j hlt]
                exact hown2
              clear hown2 hown
              go_wp2
              go_roundw
              case rel => exact ⟨j + 1, _, _, by omega, by go_num, rfl, hown3, unhide HD⟩
              case measure => simp [intOf]; omega
            · have hin : j = m := by omega
              subst hin
              have hi2 : ¬ (j : Int) < (j : Int) := by omega
              rw [List.take_of_length_le (by rw [unhide HWL]; exact Nat.le_refl _)] at hown
              have hw := hown.mf
              have h7 := h6.later (unhide HC)
              replace HB := hide (Below.step (unhide HB) (unhide HC))
              clear h5 h6 HC hown
              go_wp2_with fail
              refine (refSameAllK _ _ _ hs2 1791 _ _ _ wl (1791 + 2) _ h7 hw (unhide HE)).mono ?_
              rintro e w8 ⟨rfl, hb9⟩
              replace HB := hide (Below.step (unhide HB) hb9)
              clear hb9
              go_wp2_with fail
              refine (awake10_any _).mono ?_
              rintro e w9 ⟨rfl, hb9⟩
              go_wp2
              go_ret
              exact ⟨rfl, Below.step (unhide HB) hb9⟩
  · clear hlt hb1 r0
    go_wp2_with fail
    refine (awake10_any _).mono ?_
    rintro e w2 ⟨rfl, hb2⟩
    go_wp2
    go_ret
    exact ⟨rfl, Below.step (unhide HB) hb2⟩

#print axioms hnfTimes_walk
end Go.Proofs.Ytnaajmanpoobfaa
