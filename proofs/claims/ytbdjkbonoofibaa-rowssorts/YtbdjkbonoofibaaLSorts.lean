/-
  The walk of RowsSorts: it tells true.
-/
import Derived.Test.YtbdjkbonoofibaaFew9
import Derived.Test.YtbdjkbonoofibaaRRHalf
import Derived.Deep.CutRange
namespace Go.Proofs.Ytbdjkbonoofibaa
open Go.RowKit Lb
set_option maxRecDepth 20000

set_option maxRecDepth 40000 in
set_option maxHeartbeats 4000000 in
theorem rowsSorts_walk (a0 : Option Addr) (len0 cap0 : Nat) (rs0 : List (List Int)) (a1 : Option Addr) (len1 cap1 : Nat) (zs1 : List Int) (w : World) (r0 : MI w a0 len0 cap0 rs0) (r1 : VI w a1 len1 cap1 zs1) :
    Calls Try.prog 4 #[.slice a0 len0 cap0, .slice a1 len1 cap1] w fun e w' => e = .returned (.bool true) ∧ Below w.heap.size w w' := by
  have L0 := hide r0.len_eq
  have L1 := hide r1.len_eq
  go_enter Try.func4, Try.ntmps4
  go_wp2_with fail
  have hbA := Below.refl w.heap.size w
  obtain ⟨WL, hWL⟩ : ∃ W', W' = w.alloc (.cells #[.slice a1 len1 cap1] 24) := ⟨_, rfl⟩
  have hsL : WL.heap.size = w.heap.size + 1 := by rw [hWL]; simp
  have hml : MI WL (some ⟨w.heap.size, 0, none⟩) 1 1 [zs1] := by
    rw [hWL]
    refine rowsOf_new (vs := [(a1, len1, cap1)]) rfl rfl rfl (by simp) fun i a l c e => ?_
    match i with
    | 0 =>
      simp at e
      obtain ⟨rfl, rfl, rfl⟩ := e
      exact r1.later (below_new w _)
  have hcl1 : WL.cell? ⟨w.heap.size, 0, none⟩ = some (.slice a1 len1 cap1) := by rw [hWL]; simp
  have hbL : Below w.heap.size w WL := by rw [hWL]; exact below_new w _
  rw [← hWL]
  clear hWL
  obtain ⟨WM, hWM⟩ : ∃ W', W' = WL.alloc (.cells #[.slice a0 len0 cap0, .slice (some ⟨w.heap.size, 0, none⟩) 1 1] 22) := ⟨_, rfl⟩
  have hbM : Below WL.heap.size WL WM := by rw [hWM]; exact below_new WL _
  have hgM : w.heap.size + 1 < WM.heap.size := by rw [hWM]; simp; omega
  have hcM0 : WM.cell? ⟨w.heap.size + 1, 0 + 0, none⟩ = some (.slice a0 len0 cap0) := by rw [hWM, show w.heap.size + 1 = WL.heap.size by omega]; simp
  have hcM1 : WM.cell? ⟨w.heap.size + 1, 0 + 1, none⟩ = some (.slice (some ⟨w.heap.size, 0, none⟩) 1 1) := by rw [hWM, show w.heap.size + 1 = WL.heap.size by omega]; simp
  have hbW : Below w.heap.size w WM := Below.step hbL hbM
  have hmats : MatsAt WM (some ⟨w.heap.size + 1, 0, none⟩) 2 := by
    refine ⟨by omega, fun _ => ⟨w.heap.size + 1, 0, rfl, hgM, fun i hi => ?_⟩⟩
    match i, hi with
    | 0, _ => exact ⟨_, _, _, _, hcM0, r0.later hbW⟩
    | 1, _ => exact ⟨_, _, _, _, hcM1, hml.later hbM⟩
  rw [← hWM]
  clear hWM
  refine (few9_any _ _ _ WM hmats).mono ?_
  rintro e v0 ⟨q, rfl, hq, hb1⟩
  have HB := hide (Below.step hbW hb1)
  by_cases hf : q = true
  · subst hf
    have F0 := hq rfl 0 (w.heap.size + 1) 0 _ _ _ (by omega) rfl hcM0
    obtain ⟨n0, wd0, s0⟩ := ms_later r0 hbW F0
    have S0 := hide (s0 _ (unhide HB))
    have WD0 := hide wd0
    clear s0 wd0 F0
    have F1 := hq rfl 1 (w.heap.size + 1) 0 _ _ _ (by omega) rfl hcM1
    obtain ⟨n1, s1⟩ := F1.2 0 w.heap.size 0 a1 len1 cap1 (by omega) rfl (by rw [Nat.zero_add, hbM.cell (p := ⟨w.heap.size, 0, none⟩) (by show w.heap.size < WL.heap.size; omega)]; exact hcl1)
    have S1 := hide (vs_later r1 hbW s1 _ (unhide HB))
    clear s1
    clear F1
    obtain ⟨kx, ekx⟩ : ∃ kx, kx = 12 := ⟨_, rfl⟩
    rw [← ekx] at S0 S1
    have hkx : kx ≤ 12 := by omega
    clear ekx hq hb1 hbW hbM hgM hmats hcM0 hcM1 hbL hml hsL hcl1 hbA r0 r1
    go_wp2_with fail
    refine (sortK _ _ _ rs0 kx _ (unhide S0).mk (by omega) (fun j => Nat.le_trans ((unhide WD0).at j) (by omega)) (by omega)).mono ?_
    rintro e v1 ⟨a11, m11, c11, r11, rfl, hm11, hs11, h11, hb9⟩
    replace S0 := hide ((unhide S0).later hb9)
    replace S1 := hide ((unhide S1).later hb9)
    replace HB := hide (Below.step (unhide HB) hb9)
    clear hb9
    go_wp2_with fail
    refine (refSortK _ _ _ rs0 kx _ (unhide S0) (by omega) (fun j => Nat.le_trans ((unhide WD0).at j) (by omega)) (by omega)).mono ?_
    rintro e v2 ⟨a12, m12, c12, r12, rfl, hm12, hs12, h12, hb9⟩
    replace S0 := hide ((unhide S0).later hb9)
    replace S1 := hide ((unhide S1).later hb9)
    replace h11 := h11.later hb9
    replace HB := hide (Below.step (unhide HB) hb9)
    clear hb9
    have E1 := hide (isSort_inj hs11 hs12)
    clear hs11 hs12
    go_wp2_with fail
    refine (refSameAllK _ _ _ r11 kx _ _ _ r12 (kx + 4) _ h11.mf h12.mf (unhide E1)).mono ?_
    rintro e v3 ⟨rfl, hb9⟩
    replace S0 := hide ((unhide S0).later hb9)
    replace S1 := hide ((unhide S1).later hb9)
    replace HB := hide (Below.step (unhide HB) hb9)
    clear hb9
    clear h11 h12
    clear E1 hm11 hm12
    go_wp2_with fail
    refine (normalK _ _ _ zs1 kx _ (unhide S1).vk (by omega) (by omega)).mono ?_
    rintro e v4 ⟨a13, c13, rfl, h13, hb9⟩
    replace S0 := hide ((unhide S0).later hb9)
    replace S1 := hide ((unhide S1).later hb9)
    replace HB := hide (Below.step (unhide HB) hb9)
    clear hb9
    go_wp2_with fail
    refine (refNormalK _ _ _ zs1 kx _ (unhide S1) (by omega) (by omega)).mono ?_
    rintro e v5 ⟨a14, c14, rfl, h14, hb9⟩
    replace S0 := hide ((unhide S0).later hb9)
    replace S1 := hide ((unhide S1).later hb9)
    replace h13 := h13.later hb9
    replace HB := hide (Below.step (unhide HB) hb9)
    clear hb9
    go_wp2_with fail
    refine (rvsameK _ _ _ _ _ _ _ _ _ _ _ h13 h14 rfl).mono ?_
    rintro e v6 ⟨rfl, hb9⟩
    replace S0 := hide ((unhide S0).later hb9)
    replace S1 := hide ((unhide S1).later hb9)
    replace HB := hide (Below.step (unhide HB) hb9)
    clear hb9
    clear h13 h14
    go_wp2_with fail
    refine (halfK _ _ _ rs0 kx _ (unhide S0).mk (by omega) (fun j => Nat.le_trans ((unhide WD0).at j) (by omega)) (by omega)).mono ?_
    rintro e v7 ⟨a11, m11, c11, r11, rfl, hm11, hs11, h11, hb9⟩
    replace S0 := hide ((unhide S0).later hb9)
    replace S1 := hide ((unhide S1).later hb9)
    replace HB := hide (Below.step (unhide HB) hb9)
    clear hb9
    go_wp2_with fail
    refine (refHalfK _ _ _ rs0 kx _ (unhide S0) (by omega) (fun j => Nat.le_trans ((unhide WD0).at j) (by omega)) (by omega)).mono ?_
    rintro e v8 ⟨a12, m12, c12, r12, rfl, hm12, hs12, h12, hb9⟩
    replace S0 := hide ((unhide S0).later hb9)
    replace S1 := hide ((unhide S1).later hb9)
    replace h11 := h11.later hb9
    replace HB := hide (Below.step (unhide HB) hb9)
    clear hb9
    have E1 := hide (isSort_inj hs11 hs12)
    clear hs11 hs12
    go_wp2_with fail
    refine (refSameAllK _ _ _ r11 kx _ _ _ r12 (kx + 8) _ h11.mf h12.mf (unhide E1)).mono ?_
    rintro e v9 ⟨rfl, hb9⟩
    replace S0 := hide ((unhide S0).later hb9)
    replace S1 := hide ((unhide S1).later hb9)
    replace HB := hide (Below.step (unhide HB) hb9)
    clear hb9
    clear h11 h12
    clear E1 hm11 hm12
    go_wp2_with fail
    refine (bothK _ _ _ rs0 kx _ (unhide S0).mk (by omega) (fun j => Nat.le_trans ((unhide WD0).at j) (by omega)) (by omega)).mono ?_
    rintro e v10 ⟨a11, m11, c11, r11, hh11, rfl, hm11, hs11, ht11, h11, hb9⟩
    replace S0 := hide ((unhide S0).later hb9)
    replace S1 := hide ((unhide S1).later hb9)
    replace HB := hide (Below.step (unhide HB) hb9)
    clear hb9
    go_wp2_with fail
    refine (refBothK _ _ _ rs0 kx _ (unhide S0) (by omega) (fun j => Nat.le_trans ((unhide WD0).at j) (by omega)) (by omega)).mono ?_
    rintro e v11 ⟨a12, m12, c12, r12, hh12, rfl, hm12, hs12, ht12, h12, hb9⟩
    replace S0 := hide ((unhide S0).later hb9)
    replace S1 := hide ((unhide S1).later hb9)
    replace h11 := h11.later hb9
    replace HB := hide (Below.step (unhide HB) hb9)
    clear hb9
    obtain rfl := isSort_inj hs11 hs12
    have E1 := hide (isSort_inj ht11 ht12)
    clear hs11 hs12 ht11 ht12
    go_wp2_with fail
    refine (refSameAllK _ _ _ r11 kx _ _ _ r12 (kx + 14) _ h11.mf h12.mf (unhide E1)).mono ?_
    rintro e v12 ⟨rfl, hb9⟩
    replace S0 := hide ((unhide S0).later hb9)
    replace S1 := hide ((unhide S1).later hb9)
    replace HB := hide (Below.step (unhide HB) hb9)
    clear hb9
    clear h11 h12
    clear E1 hm11 hm12
    go_wp2_with fail
    refine (awake9_any _).mono ?_
    rintro e w2 ⟨rfl, hb2⟩
    go_wp2
    go_ret
    exact ⟨rfl, Below.step (unhide HB) hb2⟩
  · have hf' : q = false := by simpa using hf
    subst hf'
    clear hf hq hb1 hbW hbM hgM hmats hcM0 hcM1 hbL hml hsL hcl1 hbA r0 r1
    go_wp2_with fail
    refine (awake9_any _).mono ?_
    rintro e w2 ⟨rfl, hb2⟩
    go_wp2
    go_ret
    exact ⟨rfl, Below.step (unhide HB) hb2⟩
#print axioms rowsSorts_walk
end Go.Proofs.Ytbdjkbonoofibaa
