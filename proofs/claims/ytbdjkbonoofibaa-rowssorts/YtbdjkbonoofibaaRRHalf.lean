/-
  What the reference's Half and Both tell.
-/
import Derived.Test.YtbdjkbonoofibaaRRSort
import Derived.Test.YtbdjkbonoofibaaRHalf
import Derived.Test.YtbdjkbonoofibaaJF
namespace Go.Proofs.Ytbdjkbonoofibaa
open Go.RowKit Lb
set_option maxRecDepth 20000

theorem MF.up {w : World} {ao : Option Addr} {n cap k l : Nat} {rs : List (List Int)} (h : MF w ao n cap rs k) (hl : k ≤ l) : MF w ao n cap rs l := RowsOf.imp (R := fun w a l c zs => VF w a l c zs k) h fun h => vfn_up h hl
set_option maxRecDepth 20000 in
set_option maxHeartbeats 2000000 in
theorem refHalfK (ao : Option Addr) (n cap : Nat) (rs : List (List Int)) (k : Nat) (w : World) (h : MS w ao n cap rs k) (hk : k ≤ 200000) (hr : ∀ i, (rs.getD i []).length ≤ 100000) (hn : n ≤ 100000) :
    Calls Try.prog 27 #[.slice ao n cap] w fun e w' => ∃ a1 m c1 r, e = .returned (.slice a1 m c1) ∧ m ≤ n ∧ IsSort (halfL rs) r ∧ MO w' w.heap.size a1 m c1 r (k + 8) ∧ Below w.heap.size w w' := by
  have HL := hide h.len_eq
  have HQ := hide hr
  clear hr
  go_enter Try.func27, Try.ntmps27
  go_wp2_with fail
  go_loopw [3, 4] (fun s t wr => ∃ (i : Nat) (ao' : Option Addr) (m cap' : Nat), i ≤ n ∧ m ≤ i ∧ t = .int .i64 (i : Int) ∧ s = .slice ao' m cap' ∧ MO wr w.heap.size ao' m cap' (halfL (rs.take i)) (k + 4) ∧ Below w.heap.size w wr) (fun _ t _ => n - (intOf t).toNat)
  case atStart => exact ⟨0, _, _, _, Nat.zero_le _, Nat.le_refl _, rfl, rfl, mo_nil _ _ _, Below.refl _ _⟩
  case round =>
    obtain ⟨i, ao', m, cap', hi, hmi, rfl, rfl, hown, hB⟩ := hrel
    have HB := hide hB
    clear hB
    by_cases hlt : i < n
    · obtain ⟨g, off, rfl⟩ := h.addr (by omega)
      obtain ⟨hg, a5, l5, c5, hc5, hv5⟩ := RowsOf.at (R := fun w a l c zs => VS w a l c zs k) h hlt
      have hn5 : l5 ≤ 100000 := by rw [← hv5.vk.len_eq]; exact unhide HQ i
      replace hv5 := hv5.later (unhide HB)
      have f2 := ((unhide HB).cell (p := ⟨g, off + i, none⟩) hg).trans hc5
      have hgr := Nat.lt_of_lt_of_le hg (unhide HB).size
      have hi0 : (0 : Int) ≤ (i : Int) := by omega
      have hi1 : (i : Int) < (n : Int) := by omega
      clear hc5 hg
      have hlen : i < rs.length := by rw [unhide HL]; exact hlt
      have HI := hide hlen
      clear hlen
      obtain ⟨L, eL⟩ : ∃ L, L = halfL (rs.take i) := ⟨_, rfl⟩
      rw [← eL] at hown
      have EL := hide eL
      clear eL
      obtain ⟨q, eq⟩ : ∃ q, q = vnought (rs.getD i []) := ⟨_, rfl⟩
      have hN := rvnoughtK _ _ _ (rs.getD i []) k _ hv5.vk (by omega) hn5
      rw [← eq] at hN
      have HN := hide hN
      have EQ := hide eq.symm
      clear hN eq
      go_wp2_with fail
      refine (unhide HN).mono ?_
      rintro e w4 ⟨rfl, hb9⟩
      replace hown := hown.later hb9
      replace hv5 := hv5.later hb9
      replace f2 := (hb9.cell (p := ⟨g, off + i, none⟩) hgr).trans f2
      replace hgr := Nat.lt_of_lt_of_le hgr hb9.size
      replace HB := hide (Below.step (unhide HB) hb9)
      clear hb9 HN
      by_cases hq : q = true
      · subst hq
        go_wp2
        go_roundw
        case rel => exact ⟨i + 1, _, _, _, by omega, by omega, by go_num, rfl, by rw [half_take_no (unhide HI) (unhide EQ), ← unhide EL]; exact hown, unhide HB⟩
        case measure => simp [intOf]; omega
      · have hq' : q = false := by simpa using hq
        subst hq'
        clear hq
        go_wp2_with fail
        refine (refNormalK _ _ _ (rs.getD i []) k _ hv5 (by omega) (by omega)).mono ?_
        rintro e w5 ⟨a7, c7, rfl, h7, hb9⟩
        replace hown := hown.later hb9
        replace HB := hide (Below.step (unhide HB) hb9)
        clear hb9 f2 hgr hv5
        obtain ⟨x, ex⟩ : ∃ x, x = vnormal (rs.getD i []) := ⟨_, rfl⟩
        rw [← ex] at h7
        have EX := hide ex
        clear ex
        obtain ⟨W6, hW6⟩ : ∃ W6, W6 = w5.alloc (.cells #[.slice a7 l5 c7] 24) := ⟨_, rfl⟩
        have hb9 : Below w5.heap.size w5 W6 := by rw [hW6]; exact below_new _ _
        have hone := mf_one h7
        replace hown := hown.later hb9
        replace HB := hide (Below.step (unhide HB) hb9)
        clear hb9
        have hsz := (unhide HB).size
        rw [hW6] at hown hsz
        go_wp2_with (at_builtin; refine append_rows (R := fun w a l c zs => VF w a l c zs (k + 4)) (steadyMO (k + 4)) rfl (.tmp 17) (.tmp 23) 22 Try.underlying22 rfl w.heap.size ao' m cap' L rfl hown _ 1 1 [x] rfl hone (by omega) hsz ?_)
        intro an cn w7 hown2 hgr7
        rw [← hW6] at hgr7 hown hsz
        clear hW6 hone
        have HD := (unhide HB).grown hgr7 hsz (MO.ge hown)
        clear hgr7
        go_wp2
        go_roundw
        case rel => exact ⟨i + 1, _, _, _, by omega, by omega, by go_num, rfl, by rw [half_take_yes (unhide HI) (unhide EQ), ← unhide EL, ← unhide EX]; exact hown2, HD⟩
        case measure => simp [intOf]; omega
    · have hin : i = n := by omega
      subst hin
      have hin' : ¬ (i : Int) < (i : Int) := by omega
      rw [List.take_of_length_le (by rw [unhide HL]; exact Nat.le_refl _)] at hown
      have hw : ∀ j, ((halfL rs).getD j []).length ≤ 1000000 := fun j => Nat.le_trans ((wide_of (unhide HQ)).half.at j) (by omega)
      go_wp2_with fail
      refine (refSortK _ _ _ (halfL rs) (k + 4) _ (hown.mf.ms (by omega)) (by omega) hw (by omega)).mono ?_
      rintro e w8 ⟨a1, m1, c1, r, rfl, hm1, hs, ho, hb9⟩
      have hsz := (unhide HB).size
      have HSS := hide hs
      clear hs hw
      go_wp2
      go_ret
      first | exact ⟨_, _, _, r, rfl, by omega, unhide HSS, ho.lower hsz, Below.step (unhide HB) hb9⟩ | exact ⟨_, _, _, rfl, by omega, r, unhide HSS, ho.lower hsz, Below.step (unhide HB) hb9⟩

set_option maxRecDepth 20000 in
set_option maxHeartbeats 2000000 in
theorem refBothK (ao : Option Addr) (n cap : Nat) (rs : List (List Int)) (k : Nat) (w : World) (h : MS w ao n cap rs k) (hk : k ≤ 200000) (hr : ∀ i, (rs.getD i []).length ≤ 100000) (hn : n ≤ 10000) :
    Calls Try.prog 29 #[.slice ao n cap] w fun e w' => ∃ a1 m c1 r hh, e = .returned (.slice a1 m c1) ∧ m ≤ 2 * n ∧ IsSort (halfL rs) hh ∧ IsSort (bothL hh) r ∧ MO w' w.heap.size a1 m c1 r (k + 14) ∧ Below w.heap.size w w' := by
  have HQ := hide hr
  go_enter Try.func29, Try.ntmps29
  go_wp2_with fail
  refine (refHalfK _ _ _ rs k _ h hk hr (by omega)).mono ?_
  rintro e w1 ⟨a1, m, c1, hh, rfl, hmn, hs, ho, hb1⟩
  have HS := hide hs
  have HB1 := hide hb1
  have HLh := hide ho.len
  have hmf0 := ho.mf
  clear hr hs hb1 ho
  obtain ⟨W6, hW6⟩ : ∃ W6, W6 = w1.alloc (.cells #[] 24) := ⟨_, rfl⟩
  have hb9 : Below w1.heap.size w1 W6 := by rw [hW6]; exact below_new _ _
  have hown : MO W6 w1.heap.size (some ⟨w1.heap.size, 0, none⟩) 0 0 [] (k + 10) := by rw [hW6]; exact mo_empty rfl (Nat.le_refl _)
  have hsrc := (hmf0.later hb9).up (show k + 8 ≤ k + 10 by omega)
  have hsz := hb9.size
  rw [hW6] at hown hsz hsrc
  go_wp2_with (at_builtin; refine append_rows (R := fun w a l c zs => VF w a l c zs (k + 10)) (steadyMO (k + 10)) rfl (.tmp 8) (.tmp 9) 22 Try.underlying22 rfl w1.heap.size _ 0 0 [] rfl hown _ m c1 hh rfl hsrc (by omega) hsz ?_)
  intro an cn w2 hown2 hgr2
  rw [← hW6] at hgr2 hown hsz hsrc
  have HB := hide (hb9.grown hgr2 hsz (MO.ge hown))
  clear hW6 hb9 hgr2 hown hsz hsrc
  go_wp2_with fail
  go_loopw [4, 5] (fun s t wr => ∃ (i : Nat) (ao' : Option Addr) (cap' : Nat), i ≤ m ∧ t = .int .i64 (i : Int) ∧ s = .slice ao' (m + i) cap' ∧ MO wr w1.heap.size ao' (m + i) cap' (hh ++ (hh.take i).map vneg) (k + 10) ∧ Below w1.heap.size w1 wr) (fun _ t _ => m - (intOf t).toNat)
  case atStart => exact ⟨0, _, _, Nat.zero_le _, rfl, rfl, by simp only [List.take_zero, List.map_nil, List.append_nil, Nat.add_zero]; exact hown2, unhide HB⟩
  case round =>
    clear hown2 HB
    obtain ⟨i, ao', cap', hi, rfl, rfl, hown, hB⟩ := hrel
    have HB := hide hB
    have hmf := hmf0.later hB
    clear hB
    by_cases hlt : i < m
    · obtain ⟨g, off, rfl⟩ := hmf.addr (by omega)
      obtain ⟨hgr, a5, l5, c5, f2, hv5⟩ := RowsOf.at (R := fun w a l c zs => VF w a l c zs (k + 8)) hmf hlt
      have hn5 : l5 ≤ 100000 := by rw [← hv5.len_eq]; exact ((wide_of (unhide HQ)).half.sort (unhide HS)).at i
      have hi0 : (0 : Int) ≤ (i : Int) := by omega
      have hi1 : (i : Int) < (m : Int) := by omega
      obtain ⟨L, eL⟩ : ∃ L, L = hh ++ (hh.take i).map vneg := ⟨_, rfl⟩
      rw [← eL] at hown
      have EL := hide eL
      clear eL hmf
      go_wp2_with fail
      refine (rvnegK _ _ _ (hh.getD i []) (k + 8) _ (hv5.vs (by omega)) (by omega) (by omega)).mono ?_
      rintro e w5 ⟨a7, c7, rfl, h7, hb9⟩
      replace hown := hown.later hb9
      replace HB := hide (Below.step (unhide HB) hb9)
      clear hb9 f2 hgr hv5
      obtain ⟨x, ex⟩ : ∃ x, x = vneg (hh.getD i []) := ⟨_, rfl⟩
      rw [← ex] at h7
      have EX := hide ex
      clear ex
      obtain ⟨W6, hW6⟩ : ∃ W6, W6 = w5.alloc (.cells #[.slice a7 l5 c7] 24) := ⟨_, rfl⟩
      have hb9 : Below w5.heap.size w5 W6 := by rw [hW6]; exact below_new _ _
      have hone := mf_one h7
      replace hown := hown.later hb9
      replace HB := hide (Below.step (unhide HB) hb9)
      clear hb9
      have hsz := (unhide HB).size
      rw [hW6] at hown hsz
      go_wp2_with (at_builtin; refine append_rows (R := fun w a l c zs => VF w a l c zs (k + 10)) (steadyMO (k + 10)) rfl (.tmp 17) (.tmp 23) 22 Try.underlying22 rfl w1.heap.size ao' (m + i) cap' L rfl hown _ 1 1 [x] rfl hone (by omega) hsz ?_)
      intro an cn w7 hown2 hgr7
      rw [← hW6] at hgr7 hown hsz
      clear hW6 hone
      have HD := (unhide HB).grown hgr7 hsz (MO.ge hown)
      clear hgr7
      go_wp2
      go_roundw
      case rel => exact ⟨i + 1, _, _, by omega, by go_num, rfl, by rw [both_take (by rw [unhide HLh]; exact hlt), ← unhide EL, ← unhide EX]; exact hown2, HD⟩
      case measure => simp [intOf]; omega
    · have hin : i = m := by omega
      subst hin
      have hin' : ¬ (i : Int) < (i : Int) := by omega
      rw [List.take_of_length_le (by rw [unhide HLh]; exact Nat.le_refl _)] at hown
      have hw : ∀ j, ((bothL hh).getD j []).length ≤ 1000000 := fun j => Nat.le_trans (((wide_of (unhide HQ)).half.sort (unhide HS)).both.at j) (by omega)
      clear hmf
      go_wp2_with fail
      refine (refSortK _ _ _ (bothL hh) (k + 10) _ (hown.mf.ms (by omega)) (by omega) hw (by omega)).mono ?_
      rintro e w8 ⟨a2, m1, c2, r, rfl, hm1, hs, ho, hb9⟩
      have hsz := (Below.step (unhide HB1) (unhide HB)).size
      have HSS := hide hs
      have HD := Below.step (Below.step (unhide HB1) (unhide HB)) hb9
      clear hs hw
      go_wp2
      go_ret
      first | exact ⟨_, _, _, r, hh, rfl, by omega, unhide HS, unhide HSS, ho.lower hsz, HD⟩ | exact ⟨_, _, _, rfl, by omega, r, hh, unhide HS, unhide HSS, ho.lower hsz, HD⟩
#print axioms refHalfK
#print axioms refBothK
end Go.Proofs.Ytbdjkbonoofibaa
