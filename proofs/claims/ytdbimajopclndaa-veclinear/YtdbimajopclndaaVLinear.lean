/-
  The walk of VecLinear: it tells true.
-/
import Derived.Test.YtdbimajopclndaaLaw7
import Derived.Deep.CutRange
namespace Go.Proofs.Ytdbimajopclndaa
open Go.RowKit Lb

theorem nought_neg (zs : List Int) : vnought (vadd zs (vneg zs)) = true := by
  rw [vnought_iff]
  intro i
  rw [vadd_at, vneg_at]
  omega
set_option maxRecDepth 20000 in
set_option maxHeartbeats 4000000 in
theorem vecLinear_walk (a0 : Option Addr) (len0 cap0 : Nat) (zs0 : List Int) (a1 : Option Addr) (len1 cap1 : Nat) (zs1 : List Int) (a2 : Option Addr) (len2 cap2 : Nat) (zs2 : List Int) (b3 : Bool) (a3 : Option Addr) (len3 cap3 : Nat) (xs3 : List Nat) (w : World) (r0 : VI w a0 len0 cap0 zs0) (r1 : VI w a1 len1 cap1 zs1) (r2 : VI w a2 len2 cap2 zs2) (r3 : RowAt w a3 len3 cap3 xs3) :
    Calls Try.prog 5 #[.slice a0 len0 cap0, .slice a1 len1 cap1, .slice a2 len2 cap2, .agg #[.bool b3, .slice a3 len3 cap3]] w fun e w' => e = .returned (.bool true) ∧ Below w.heap.size w w' := by
  have L0 := hide r0.len_eq
  have L1 := hide r1.len_eq
  have L2 := hide r2.len_eq
  have hx := r3.int b3
  obtain ⟨x, ez⟩ : ∃ z, z = sgnd b3 (Lb.val xs3) := ⟨_, rfl⟩
  rw [← ez] at hx
  clear ez r3
  go_enter Try.func5, Try.ntmps5
  go_wp2_with fail
  obtain ⟨W0, hW0⟩ : ∃ W', W' = w.alloc (.cells #[.bool b3, .slice a3 len3 cap3] 26) := ⟨_, rfl⟩
  have hs0 : w.heap.size + 1 = W0.heap.size := by rw [hW0]; simp
  obtain ⟨P0, hb0⟩ := boxes1 w b3 a3 len3 cap3 hW0
  rw [← hW0]
  clear hW0
  have hbx := below_new W0 (.cells #[.bool b3, .slice a3 len3 cap3] 26)
  have hv := vec1 (w := W0) (R := IntAt) (n := w.heap.size + 1) hs0 ((hx.later hb0).later hbx)
  have hs1 : w.heap.size + 2 = (W0.alloc (.cells #[.bool b3, .slice a3 len3 cap3] 26)).heap.size := by simp; omega
  have hb2 := Below.step hb0 hbx
  have hbR := below_new (W0.alloc (.cells #[.bool b3, .slice a3 len3 cap3] 26)) (.cells #[.slice a0 len0 cap0, .slice a1 len1 cap1, .slice a2 len2 cap2, .slice (some ⟨w.heap.size + 1, 0, none⟩) 1 1] 23)
  refine (few7_4 a0 len0 cap0 zs0 a1 len1 cap1 zs1 a2 len2 cap2 zs2 (some ⟨w.heap.size + 1, 0, none⟩) 1 1 [x] (W0.alloc (.cells #[.bool b3, .slice a3 len3 cap3] 26)) (w.heap.size + 2) hs1 (r0.later hb2) (r1.later hb2) (r2.later hb2) hv).mono ?_
  rintro e v0 ⟨q, rfl, hq01, hq, hb1⟩
  have HB := hide (Below.step hb2 hb1)
  replace P0 := (P0.later hbx).later hb1
  by_cases hf : q = 0
  · subst hf
    obtain ⟨s0, s1, s2, s3⟩ := hq rfl
    have n0 := s0.1
    have n1 := s1.1
    have n2 := s2.1
    have ex := short_one hs0 hbR s3
    have S0 := hide (vs_later (r0.later hb2) hbR s0 _ hb1)
    have S1 := hide (vs_later (r1.later hb2) hbR s1 _ hb1)
    have S2 := hide (vs_later (r2.later hb2) hbR s2 _ hb1)
    have hX := kx_sk (hx.later (unhide HB)) ex (by omega)
    clear hbx hb2 hb0 hs1 hx ex hv
    obtain ⟨kx, ekx⟩ : ∃ kx, kx = 12 := ⟨_, rfl⟩
    rw [← ekx] at hX S0 S1 S2
    have hkx : kx ≤ 12 := by omega
    clear ekx hq01 hq hbR hb1 s0 r0 s1 r1 s2 r2 s3
    go_wp2_with fail
    refine (vaddK _ _ _ zs0 kx _ _ _ zs1 kx _ (unhide S0).vk (unhide S1).vk (by omega) (by omega) (by omega) (by omega)).mono ?_
    rintro e v1 ⟨a11, c11, rfl, h11, hb9⟩
    replace S0 := hide ((unhide S0).later hb9)
    replace S1 := hide ((unhide S1).later hb9)
    replace S2 := hide ((unhide S2).later hb9)
    replace P0 := P0.later hb9
    replace hX := hX.later hb9
    replace HB := hide (Below.step (unhide HB) hb9)
    clear hb9
    obtain ⟨p, ep⟩ : ∃ p, p = max len0 len1 := ⟨_, rfl⟩
    rw [← ep] at h11 ⊢
    have hp : p ≤ 70 := by omega
    have EP := hide ep
    clear ep
    go_wp2_with fail
    refine (vdotK _ _ _ (vadd zs0 zs1) (max kx kx + 1) _ _ _ zs2 kx _ (h11.vk (by omega)) (unhide S2).vk (by omega) (by omega) (by omega) (by omega)).mono ?_
    rintro e v2 ⟨b12, a12, l12, c12, rfl, h12, hb9⟩
    replace S0 := hide ((unhide S0).later hb9)
    replace S1 := hide ((unhide S1).later hb9)
    replace S2 := hide ((unhide S2).later hb9)
    replace P0 := P0.later hb9
    replace hX := hX.later hb9
    replace HB := hide (Below.step (unhide HB) hb9)
    clear hb9
    clear h11
    have hsP := P0.lt
    have hvs := (unhide HB).size
    go_upto_region 4 with fail
    obtain ⟨v3, hWe⟩ : ∃ W', W' = (v2.alloc (.cells #[.bool b12, .slice a12 l12 c12] 26)) := ⟨_, rfl⟩
    obtain ⟨BN, hb9⟩ := boxes1 v2 b12 a12 l12 c12 hWe
    rw [← hWe]
    clear hWe
    replace S0 := hide ((unhide S0).later hb9)
    replace S1 := hide ((unhide S1).later hb9)
    replace S2 := hide ((unhide S2).later hb9)
    replace P0 := P0.later hb9
    replace hX := hX.later hb9
    replace h12 := h12.later hb9
    replace HB := hide (Below.step (unhide HB) hb9)
    clear hb9
    have HW : Below v3.heap.size v3 v3.drew := (Below.refl _ _).drew
    refine till_start (fun w' => w'.cell? ⟨w.heap.size, 0, none⟩ = some (.bool b3) ∧ w'.cell? ⟨w.heap.size, 1, none⟩ = some (.slice a3 len3 cap3) ∧ w'.cell? ⟨v2.heap.size, 0, none⟩ = some (.bool b12) ∧ w'.cell? ⟨v2.heap.size, 1, none⟩ = some (.slice a12 l12 c12)) 33 (by kernel_rfl) ?_ (fun hHeld => ?_)
    · exact ⟨(P0.later HW).facts.1, (P0.later HW).facts.2.1, (BN.later HW).facts.1, (BN.later HW).facts.2.1⟩
    refine till_take (i := 0) (v := ?_) [8, 9, 10, 11, 12, 13, 14, 15, 16, 17, 18, 19, 20, 21, 22, 23, 24, 25, 26, 27, 28, 29, 30, 31, 32, 33] rfl (by kernel_rfl) (by kernel_rfl) (by kernel_rfl) (by kernel_rfl) (fun _ _ _ h => h) (Or.inl ⟨by rfl, ?_⟩) (by assumption) ?_
    rotate_left
    · (intro w hSw; (try dsimp only at hSw); go_simp; try with_reducible rfl)
    simp only [Act.put, List.getElem_toArray, List.getElem_cons_zero, List.setIfInBounds_toArray, List.set_cons_zero, List.set_cons_succ]
    refine till_take (i := 1) (v := ?_) [3, 6, 7, 8, 9, 10, 11, 12, 13, 14, 15, 16, 17, 18, 19, 20, 21, 22, 23, 24, 25, 26, 27, 28, 29, 30, 31, 32, 33] rfl (by kernel_rfl) (by kernel_rfl) (by kernel_rfl) (by kernel_rfl) (fun _ _ _ h => h) (Or.inl ⟨by rfl, ?_⟩) (by assumption) ?_
    rotate_left
    · (intro w hSw; (try dsimp only at hSw); go_simp; try with_reducible rfl)
    simp only [Act.put, List.getElem_toArray, List.getElem_cons_succ, List.getElem_cons_zero, List.setIfInBounds_toArray, List.set_cons_zero, List.set_cons_succ]
    refine till_take (i := 2) (v := ?_) [3, 6, 7, 8, 9, 10, 11, 12, 13, 14, 15, 16, 17, 18, 19, 20, 21, 22, 23, 24, 25, 26, 27, 28, 29, 30, 31, 32, 33] rfl (by kernel_rfl) (by kernel_rfl) (by kernel_rfl) (by kernel_rfl) (fun _ _ _ h => h) (Or.inl ⟨by rfl, ?_⟩) (by assumption) ?_
    rotate_left
    · (intro w hSw; (try dsimp only at hSw); go_simp; try with_reducible rfl)
    simp only [Act.put, List.getElem_toArray, List.getElem_cons_succ, List.getElem_cons_zero, List.setIfInBounds_toArray, List.set_cons_zero, List.set_cons_succ]
    refine till_take (i := 4) (v := ?_) [6, 7, 8, 9, 10, 11, 12, 13, 14, 15, 16, 17, 18, 19, 20, 21, 22, 23, 24, 25, 26, 27, 28, 29, 30, 31, 32, 33] rfl (by kernel_rfl) (by kernel_rfl) (by kernel_rfl) (by kernel_rfl) (fun _ _ _ h => h) (Or.inl ⟨by rfl, ?_⟩) (by assumption) ?_
    rotate_left
    · (intro w hSw; (try dsimp only at hSw); go_simp; try with_reducible rfl)
    simp only [Act.put, List.getElem_toArray, List.getElem_cons_succ, List.getElem_cons_zero, List.setIfInBounds_toArray, List.set_cons_zero, List.set_cons_succ]
    refine till_take (i := 5) (v := ?_) [6, 7, 8, 9, 10, 11, 12, 13, 14, 15, 16, 17, 18, 19, 20, 21, 22, 23, 24, 25, 26, 27, 28, 29, 30, 31, 32, 33] rfl (by kernel_rfl) (by kernel_rfl) (by kernel_rfl) (by kernel_rfl) (fun _ _ _ h => h) (Or.inl ⟨by rfl, ?_⟩) (by assumption) ?_
    rotate_left
    · (intro w hSw; (try dsimp only at hSw); go_simp; try with_reducible rfl)
    simp only [Act.put, List.getElem_toArray, List.getElem_cons_succ, List.getElem_cons_zero, List.setIfInBounds_toArray, List.set_cons_zero, List.set_cons_succ]
    refine till_in (i := 3) (by kernel_rfl) rfl (fun K hK => ?_)
    go_simp
    refine (vdotK _ _ _ zs0 kx _ _ _ zs2 kx _ ((unhide S0).later HW).vk ((unhide S2).later HW).vk (by omega) (by omega) (by omega) (by omega)).mono ?_
    rintro e w9 ⟨b13, a13, l13, c13, rfl, h13, hb9⟩
    replace HW := Below.step HW hb9
    clear hb9
    refine hK.out _ _ ?_ (fun hHeld => ?_)
    · exact ⟨(P0.later HW).facts.1, (P0.later HW).facts.2.1, (BN.later HW).facts.1, (BN.later HW).facts.2.1⟩
    clear hK K
    try simp only [Act.put, List.getElem_toArray, List.getElem_cons_succ, List.getElem_cons_zero, List.setIfInBounds_toArray, List.set_cons_zero, List.set_cons_succ]
    refine till_in (i := 6) (by kernel_rfl) rfl (fun K hK => ?_)
    go_simp
    refine (vdotK _ _ _ zs1 kx _ _ _ zs2 kx _ ((unhide S1).later HW).vk ((unhide S2).later HW).vk (by omega) (by omega) (by omega) (by omega)).mono ?_
    rintro e w9 ⟨b14, a14, l14, c14, rfl, h14, hb9⟩
    replace HW := Below.step HW hb9
    replace h13 := h13.later hb9
    clear hb9
    refine hK.out _ _ ?_ (fun hHeld => ?_)
    · exact ⟨(P0.later HW).facts.1, (P0.later HW).facts.2.1, (BN.later HW).facts.1, (BN.later HW).facts.2.1⟩
    clear hK K
    try simp only [Act.put, List.getElem_toArray, List.getElem_cons_succ, List.getElem_cons_zero, List.setIfInBounds_toArray, List.set_cons_zero, List.set_cons_succ]
    refine till_in (i := 7) (by kernel_rfl) rfl (fun K hK => ?_)
    go_simp
    refine (raddK _ _ _ _ (vdot zs0 zs2) (kx + kx + len0) _ _ _ _ (vdot zs1 zs2) (kx + kx + len1) _ (h13.ik (by omega)) (h14.ik (by omega))).mono ?_
    rintro e w9 ⟨b15, a15, l15, c15, rfl, h15, hb9⟩
    replace HW := Below.step HW hb9
    clear hb9
    clear h13 h14
    refine hK.out _ _ ?_ (fun hHeld => ?_)
    · exact ⟨(P0.later HW).facts.1, (P0.later HW).facts.2.1, (BN.later HW).facts.1, (BN.later HW).facts.2.1⟩
    clear hK K
    try simp only [Act.put, List.getElem_toArray, List.getElem_cons_succ, List.getElem_cons_zero, List.setIfInBounds_toArray, List.set_cons_zero, List.set_cons_succ]
    refine till_in (i := 8) (by kernel_rfl) rfl (fun K hK => ?_)
    go_simp
    refine (rsameK b12 a12 l12 c12 _ _ _ _ _ _ _ _ _ (h12.later HW) h15 (vdot_add zs0 zs1 zs2)).mono ?_
    rintro e w9 ⟨rfl, hb9⟩
    replace HW := Below.step HW hb9
    clear hb9
    clear h15
    refine hK.out _ _ ?_ (fun hHeld => ?_)
    · exact ⟨(P0.later HW).facts.1, (P0.later HW).facts.2.1, (BN.later HW).facts.1, (BN.later HW).facts.2.1⟩
    clear hK K
    try simp only [Act.put, List.getElem_toArray, List.getElem_cons_succ, List.getElem_cons_zero, List.setIfInBounds_toArray, List.set_cons_zero, List.set_cons_succ]
    refine till_take (i := 9) (v := ?_) [10, 11, 12, 13, 14, 15, 16, 17, 18, 19, 20, 21, 22, 23, 24, 25, 26, 27, 28, 29, 30, 31, 32, 33] rfl (by kernel_rfl) (by kernel_rfl) (by kernel_rfl) (by kernel_rfl) (fun _ _ _ h => h) (Or.inl ⟨by rfl, ?_⟩) (by assumption) ?_
    rotate_left
    · (intro w hSw; (try dsimp only at hSw); go_simp; try with_reducible rfl)
    simp only [Act.put, List.getElem_toArray, List.getElem_cons_succ, List.getElem_cons_zero, List.setIfInBounds_toArray, List.set_cons_zero, List.set_cons_succ]
    refine till_take (i := 10) (v := ?_) [11, 12, 13, 14, 15, 16, 17, 18, 19, 20, 21, 22, 23, 24, 25, 26, 27, 28, 29, 30, 31, 32, 33] rfl (by kernel_rfl) (by kernel_rfl) (by kernel_rfl) (by kernel_rfl) (fun _ _ _ h => h) (Or.inl ⟨by rfl, ?_⟩) (by assumption) ?_
    rotate_left
    · (intro w hSw; (try dsimp only at hSw); go_simp; try with_reducible rfl)
    simp only [Act.put, List.getElem_toArray, List.getElem_cons_succ, List.getElem_cons_zero, List.setIfInBounds_toArray, List.set_cons_zero, List.set_cons_succ]
    refine till_take (i := 11) (v := ?_) [13, 16, 17, 18, 19, 20, 21, 22, 23, 24, 25, 26, 27, 28, 29, 30, 31, 32, 33] rfl (by kernel_rfl) (by kernel_rfl) (by kernel_rfl) (by kernel_rfl) (fun _ _ _ h => h) (Or.inl ⟨by rfl, ?_⟩) (by assumption) ?_
    rotate_left
    · (intro w hSw; (try dsimp only at hSw); go_simp; try with_reducible rfl)
    simp only [Act.put, List.getElem_toArray, List.getElem_cons_succ, List.getElem_cons_zero, List.setIfInBounds_toArray, List.set_cons_zero, List.set_cons_succ]
    refine till_take (i := 12) (v := ?_) [13, 16, 17, 18, 19, 20, 21, 22, 23, 24, 25, 26, 27, 28, 29, 30, 31, 32, 33] rfl (by kernel_rfl) (by kernel_rfl) (by kernel_rfl) (by kernel_rfl) (fun _ _ _ h => h) (Or.inl ⟨by rfl, ?_⟩) (by assumption) ?_
    rotate_left
    · (intro w hSw; (try dsimp only at hSw); go_simp; try with_reducible rfl)
    simp only [Act.put, List.getElem_toArray, List.getElem_cons_succ, List.getElem_cons_zero, List.setIfInBounds_toArray, List.set_cons_zero, List.set_cons_succ]
    refine till_take (i := 14) (v := ?_) [16, 17, 18, 19, 20, 21, 22, 23, 24, 25, 26, 27, 28, 29, 30, 31, 32, 33] rfl (by kernel_rfl) (by kernel_rfl) (by kernel_rfl) (by kernel_rfl) (fun _ _ _ h => h) (Or.inl ⟨by rfl, ?_⟩) (by assumption) ?_
    rotate_left
    · (intro w hSw; (try dsimp only at hSw); go_simp; try with_reducible rfl)
    simp only [Act.put, List.getElem_toArray, List.getElem_cons_succ, List.getElem_cons_zero, List.setIfInBounds_toArray, List.set_cons_zero, List.set_cons_succ]
    refine till_take (i := 15) (v := ?_) [16, 17, 18, 19, 20, 21, 22, 23, 24, 25, 26, 27, 28, 29, 30, 31, 32, 33] rfl (by kernel_rfl) (by kernel_rfl) (by kernel_rfl) (by kernel_rfl) (fun _ _ _ h => h) (Or.inl ⟨by rfl, ?_⟩) (by assumption) ?_
    rotate_left
    · (intro w hSw; (try dsimp only at hSw); go_simp; try with_reducible rfl)
    simp only [Act.put, List.getElem_toArray, List.getElem_cons_succ, List.getElem_cons_zero, List.setIfInBounds_toArray, List.set_cons_zero, List.set_cons_succ]
    refine till_in (i := 13) (by kernel_rfl) rfl (fun K hK => ?_)
    go_simp
    refine (vdotK _ _ _ zs2 kx _ _ _ zs0 kx _ ((unhide S2).later HW).vk ((unhide S0).later HW).vk (by omega) (by omega) (by omega) (by omega)).mono ?_
    rintro e w9 ⟨b13, a13, l13, c13, rfl, h13, hb9⟩
    replace HW := Below.step HW hb9
    clear hb9
    refine hK.out _ _ ?_ (fun hHeld => ?_)
    · exact ⟨(P0.later HW).facts.1, (P0.later HW).facts.2.1, (BN.later HW).facts.1, (BN.later HW).facts.2.1⟩
    clear hK K
    try simp only [Act.put, List.getElem_toArray, List.getElem_cons_succ, List.getElem_cons_zero, List.setIfInBounds_toArray, List.set_cons_zero, List.set_cons_succ]
    refine till_in (i := 16) (by kernel_rfl) rfl (fun K hK => ?_)
    go_simp
    refine (vdotK _ _ _ zs0 kx _ _ _ zs2 kx _ ((unhide S0).later HW).vk ((unhide S2).later HW).vk (by omega) (by omega) (by omega) (by omega)).mono ?_
    rintro e w9 ⟨b14, a14, l14, c14, rfl, h14, hb9⟩
    replace HW := Below.step HW hb9
    replace h13 := h13.later hb9
    clear hb9
    refine hK.out _ _ ?_ (fun hHeld => ?_)
    · exact ⟨(P0.later HW).facts.1, (P0.later HW).facts.2.1, (BN.later HW).facts.1, (BN.later HW).facts.2.1⟩
    clear hK K
    try simp only [Act.put, List.getElem_toArray, List.getElem_cons_succ, List.getElem_cons_zero, List.setIfInBounds_toArray, List.set_cons_zero, List.set_cons_succ]
    refine till_in (i := 17) (by kernel_rfl) rfl (fun K hK => ?_)
    go_simp
    refine (rsameK _ _ _ _ _ _ _ _ _ _ _ _ _ h13 h14 (vdot_comm zs2 zs0)).mono ?_
    rintro e w9 ⟨rfl, hb9⟩
    replace HW := Below.step HW hb9
    clear hb9
    clear h13 h14
    refine hK.out _ _ ?_ (fun hHeld => ?_)
    · exact ⟨(P0.later HW).facts.1, (P0.later HW).facts.2.1, (BN.later HW).facts.1, (BN.later HW).facts.2.1⟩
    clear hK K
    try simp only [Act.put, List.getElem_toArray, List.getElem_cons_succ, List.getElem_cons_zero, List.setIfInBounds_toArray, List.set_cons_zero, List.set_cons_succ]
    refine till_take (i := 18) (v := ?_) [19, 20, 21, 22, 23, 24, 25, 26, 27, 28, 29, 30, 31, 32, 33] rfl (by kernel_rfl) (by kernel_rfl) (by kernel_rfl) (by kernel_rfl) (fun _ _ _ h => h) (Or.inl ⟨by rfl, ?_⟩) (by assumption) ?_
    rotate_left
    · (intro w hSw; (try dsimp only at hSw); go_simp; try with_reducible rfl)
    simp only [Act.put, List.getElem_toArray, List.getElem_cons_succ, List.getElem_cons_zero, List.setIfInBounds_toArray, List.set_cons_zero, List.set_cons_succ]
    refine till_take (i := 19) (v := ?_) [20, 21, 22, 23, 24, 25, 26, 27, 28, 29, 30, 31, 32, 33] rfl (by kernel_rfl) (by kernel_rfl) (by kernel_rfl) (by kernel_rfl) (fun _ _ _ h => h) (Or.inl ⟨by rfl, ?_⟩) (by assumption) ?_
    rotate_left
    · (intro w hSw; (try dsimp only at hSw); go_simp; try with_reducible rfl)
    simp only [Act.put, List.getElem_toArray, List.getElem_cons_succ, List.getElem_cons_zero, List.setIfInBounds_toArray, List.set_cons_zero, List.set_cons_succ]
    refine till_take (i := 20) (v := ?_) [21, 22, 23, 24, 25, 26, 27, 28, 29, 30, 31, 32, 33] rfl (by kernel_rfl) (by kernel_rfl) (by kernel_rfl) (by kernel_rfl) (fun _ _ _ h => h) (Or.inl ⟨by rfl, ?_⟩) (by assumption) ?_
    rotate_left
    · (intro w hSw; (try dsimp only at hSw); go_simp; try with_reducible rfl)
    simp only [Act.put, List.getElem_toArray, List.getElem_cons_succ, List.getElem_cons_zero, List.setIfInBounds_toArray, List.set_cons_zero, List.set_cons_succ]
    refine till_take (i := 21) (v := ?_) [23, 25, 29, 30, 31, 32, 33] rfl (by kernel_rfl) (by kernel_rfl) (by kernel_rfl) (by kernel_rfl) (fun _ _ _ h => h) (Or.inl ⟨by rfl, ?_⟩) (by assumption) ?_
    rotate_left
    · (intro w hSw; (try dsimp only at hSw); go_simp; try with_reducible rfl)
    simp only [Act.put, List.getElem_toArray, List.getElem_cons_succ, List.getElem_cons_zero, List.setIfInBounds_toArray, List.set_cons_zero, List.set_cons_succ]
    refine till_take (i := 22) (v := ?_) [23, 25, 29, 30, 31, 32, 33] rfl (by kernel_rfl) (by kernel_rfl) (by kernel_rfl) (by kernel_rfl) (fun _ _ _ h => h) (Or.inl ⟨by rfl, ?_⟩) (by assumption) ?_
    rotate_left
    · (intro w hSw; (try dsimp only at hSw); go_simp; try with_reducible rfl)
    simp only [Act.put, List.getElem_toArray, List.getElem_cons_succ, List.getElem_cons_zero, List.setIfInBounds_toArray, List.set_cons_zero, List.set_cons_succ]
    refine till_take (i := 24) (v := ?_) [25, 29, 30, 31, 32, 33] rfl (by kernel_rfl) (by kernel_rfl) (by kernel_rfl) (by kernel_rfl) (fun _ _ _ h => h) (Or.inl ⟨by rfl, ?_⟩) (by assumption) ?_
    rotate_left
    · (intro w hSw; (try dsimp only at hSw); go_simp; try with_reducible rfl)
    simp only [Act.put, List.getElem_toArray, List.getElem_cons_succ, List.getElem_cons_zero, List.setIfInBounds_toArray, List.set_cons_zero, List.set_cons_succ]
    refine till_take (i := 26) (v := ?_) [30, 31, 32, 33] rfl (by kernel_rfl) (by kernel_rfl) (by kernel_rfl) (by kernel_rfl) (fun _ _ _ h => h) (Or.inl ⟨by rfl, ?_⟩) (by assumption) ?_
    rotate_left
    · (intro w hSw; (try dsimp only at hSw); go_simp; try with_reducible rfl)
    simp only [Act.put, List.getElem_toArray, List.getElem_cons_succ, List.getElem_cons_zero, List.setIfInBounds_toArray, List.set_cons_zero, List.set_cons_succ]
    refine till_take (i := 27) (v := ?_) [29, 30, 31, 32, 33] rfl (by kernel_rfl) (by kernel_rfl) (by kernel_rfl) (by kernel_rfl) (fun _ _ _ h => h) (Or.inl ⟨by rfl, ?_⟩) (by assumption) ?_
    rotate_left
    · (intro w hSw; (try dsimp only at hSw); go_simp; try with_reducible rfl)
    simp only [Act.put, List.getElem_toArray, List.getElem_cons_succ, List.getElem_cons_zero, List.setIfInBounds_toArray, List.set_cons_zero, List.set_cons_succ]
    refine till_take (i := 28) (v := ?_) [29, 30, 31, 32, 33] rfl (by kernel_rfl) (by kernel_rfl) (by kernel_rfl) (by kernel_rfl) (fun _ _ _ h => h) (Or.inl ⟨by rfl, ?_⟩) (by assumption) ?_
    rotate_left
    · (intro w hSw; (try dsimp only at hSw); go_simp; try with_reducible rfl)
    simp only [Act.put, List.getElem_toArray, List.getElem_cons_succ, List.getElem_cons_zero, List.setIfInBounds_toArray, List.set_cons_zero, List.set_cons_succ]
    refine till_in (i := 23) (by kernel_rfl) rfl (fun K hK => ?_)
    go_simp
    refine (vtimesK _ _ _ zs0 kx b3 a3 len3 cap3 x kx _ ((unhide S0).later HW).vk (hX.later HW).1 (by omega)).mono ?_
    rintro e w9 ⟨a13, c13, rfl, h13, hb9⟩
    replace HW := Below.step HW hb9
    clear hb9
    refine hK.out _ _ ?_ (fun hHeld => ?_)
    · exact ⟨(P0.later HW).facts.1, (P0.later HW).facts.2.1, (BN.later HW).facts.1, (BN.later HW).facts.2.1⟩
    clear hK K
    try simp only [Act.put, List.getElem_toArray, List.getElem_cons_succ, List.getElem_cons_zero, List.setIfInBounds_toArray, List.set_cons_zero, List.set_cons_succ]
    refine till_in (i := 25) (by kernel_rfl) rfl (fun K hK => ?_)
    go_simp
    refine (vdotK _ _ _ (vtimes zs0 x) (kx + kx) _ _ _ zs2 kx _ (h13.vk (by omega)) ((unhide S2).later HW).vk (by omega) (by omega) (by omega) (by omega)).mono ?_
    rintro e w9 ⟨b14, a14, l14, c14, rfl, h14, hb9⟩
    replace HW := Below.step HW hb9
    clear hb9
    clear h13
    refine hK.out _ _ ?_ (fun hHeld => ?_)
    · exact ⟨(P0.later HW).facts.1, (P0.later HW).facts.2.1, (BN.later HW).facts.1, (BN.later HW).facts.2.1⟩
    clear hK K
    try simp only [Act.put, List.getElem_toArray, List.getElem_cons_succ, List.getElem_cons_zero, List.setIfInBounds_toArray, List.set_cons_zero, List.set_cons_succ]
    refine till_in (i := 29) (by kernel_rfl) rfl (fun K hK => ?_)
    go_simp
    refine (vdotK _ _ _ zs0 kx _ _ _ zs2 kx _ ((unhide S0).later HW).vk ((unhide S2).later HW).vk (by omega) (by omega) (by omega) (by omega)).mono ?_
    rintro e w9 ⟨b15, a15, l15, c15, rfl, h15, hb9⟩
    replace HW := Below.step HW hb9
    replace h14 := h14.later hb9
    clear hb9
    refine hK.out _ _ ?_ (fun hHeld => ?_)
    · exact ⟨(P0.later HW).facts.1, (P0.later HW).facts.2.1, (BN.later HW).facts.1, (BN.later HW).facts.2.1⟩
    clear hK K
    try simp only [Act.put, List.getElem_toArray, List.getElem_cons_succ, List.getElem_cons_zero, List.setIfInBounds_toArray, List.set_cons_zero, List.set_cons_succ]
    refine till_in (i := 30) (by kernel_rfl) rfl (fun K hK => ?_)
    go_simp
    refine (rmulK b3 a3 len3 cap3 x kx _ _ _ _ (vdot zs0 zs2) (kx + kx + len0) _ (hX.later HW).1 (h15.ik (by omega)) (by have := hX.2; have := h15.len_le; omega)).mono ?_
    rintro e w9 ⟨b16, a16, l16, c16, rfl, h16, hb9⟩
    replace HW := Below.step HW hb9
    replace h14 := h14.later hb9
    clear hb9
    clear h15
    refine hK.out _ _ ?_ (fun hHeld => ?_)
    · exact ⟨(P0.later HW).facts.1, (P0.later HW).facts.2.1, (BN.later HW).facts.1, (BN.later HW).facts.2.1⟩
    clear hK K
    try simp only [Act.put, List.getElem_toArray, List.getElem_cons_succ, List.getElem_cons_zero, List.setIfInBounds_toArray, List.set_cons_zero, List.set_cons_succ]
    refine till_in (i := 31) (by kernel_rfl) rfl (fun K hK => ?_)
    go_simp
    refine (rsameK _ _ _ _ _ _ _ _ _ _ _ _ _ h14 h16 (vdot_times zs0 zs2 x)).mono ?_
    rintro e w9 ⟨rfl, hb9⟩
    replace HW := Below.step HW hb9
    clear hb9
    clear h14 h16
    refine hK.out _ _ ?_ (fun hHeld => ?_)
    · exact ⟨(P0.later HW).facts.1, (P0.later HW).facts.2.1, (BN.later HW).facts.1, (BN.later HW).facts.2.1⟩
    clear hK K
    try simp only [Act.put, List.getElem_toArray, List.getElem_cons_succ, List.getElem_cons_zero, List.setIfInBounds_toArray, List.set_cons_zero, List.set_cons_succ]
    refine till_take (i := 32) (v := ?_) [33] rfl (by kernel_rfl) (by kernel_rfl) (by kernel_rfl) (by kernel_rfl) (fun _ _ _ h => h) (Or.inl ⟨by rfl, ?_⟩) (by assumption) ?_
    rotate_left
    · (intro w hSw; (try dsimp only at hSw); go_simp; try with_reducible rfl)
    simp only [Act.put, List.getElem_toArray, List.getElem_cons_succ, List.getElem_cons_zero, List.setIfInBounds_toArray, List.set_cons_zero, List.set_cons_succ]
    refine till_out (i := 33) (by kernel_rfl) rfl (by kernel_rfl) (fun K hK => ?_)
    go_simp
    refine hK.out _ _ ?_
    clear hK K
    try simp only [Act.put, List.getElem_toArray, List.getElem_cons_succ, List.getElem_cons_zero, List.setIfInBounds_toArray, List.set_cons_zero, List.set_cons_succ]
    refine till_done (by kernel_rfl) ?_ _
    clear h12 BN
    replace S0 := hide ((unhide S0).later HW)
    replace S1 := hide ((unhide S1).later HW)
    replace S2 := hide ((unhide S2).later HW)
    replace P0 := P0.later HW
    replace hX := hX.later HW
    replace HB := hide (Below.step (unhide HB) HW)
    clear HW
    go_upto_region 6 with fail
    have HW : Below w9.heap.size w9 w9.drew := (Below.refl _ _).drew
    refine till_start (fun w' => w'.cell? ⟨w.heap.size, 0, none⟩ = some (.bool b3) ∧ w'.cell? ⟨w.heap.size, 1, none⟩ = some (.slice a3 len3 cap3)) 32 (by kernel_rfl) ?_ (fun hHeld => ?_)
    · exact ⟨(P0.later HW).facts.1, (P0.later HW).facts.2.1⟩
    refine till_take (i := 0) (v := ?_) [2, 4, 6, 7, 8, 9, 10, 11, 12, 13, 14, 15, 16, 17, 18, 19, 20, 21, 22, 23, 24, 25, 26, 27, 28, 29, 30, 31, 32] rfl (by kernel_rfl) (by kernel_rfl) (by kernel_rfl) (by kernel_rfl) (fun _ _ _ h => h) (Or.inl ⟨by rfl, ?_⟩) (by assumption) ?_
    rotate_left
    · (intro w hSw; (try dsimp only at hSw); go_simp; try with_reducible rfl)
    simp only [Act.put, List.getElem_toArray, List.getElem_cons_zero, List.setIfInBounds_toArray, List.set_cons_zero, List.set_cons_succ]
    refine till_take (i := 1) (v := ?_) [2, 4, 6, 7, 8, 9, 10, 11, 12, 13, 14, 15, 16, 17, 18, 19, 20, 21, 22, 23, 24, 25, 26, 27, 28, 29, 30, 31, 32] rfl (by kernel_rfl) (by kernel_rfl) (by kernel_rfl) (by kernel_rfl) (fun _ _ _ h => h) (Or.inl ⟨by rfl, ?_⟩) (by assumption) ?_
    rotate_left
    · (intro w hSw; (try dsimp only at hSw); go_simp; try with_reducible rfl)
    simp only [Act.put, List.getElem_toArray, List.getElem_cons_succ, List.getElem_cons_zero, List.setIfInBounds_toArray, List.set_cons_zero, List.set_cons_succ]
    refine till_take (i := 3) (v := ?_) [4, 6, 7, 8, 9, 10, 11, 12, 13, 14, 15, 16, 17, 18, 19, 20, 21, 22, 23, 24, 25, 26, 27, 28, 29, 30, 31, 32] rfl (by kernel_rfl) (by kernel_rfl) (by kernel_rfl) (by kernel_rfl) (fun _ _ _ h => h) (Or.inl ⟨by rfl, ?_⟩) (by assumption) ?_
    rotate_left
    · (intro w hSw; (try dsimp only at hSw); go_simp; try with_reducible rfl)
    simp only [Act.put, List.getElem_toArray, List.getElem_cons_succ, List.getElem_cons_zero, List.setIfInBounds_toArray, List.set_cons_zero, List.set_cons_succ]
    refine till_take (i := 5) (v := ?_) [6, 7, 8, 9, 10, 11, 12, 13, 14, 15, 16, 17, 18, 19, 20, 21, 22, 23, 24, 25, 26, 27, 28, 29, 30, 31, 32] rfl (by kernel_rfl) (by kernel_rfl) (by kernel_rfl) (by kernel_rfl) (fun _ _ _ h => h) (Or.inl ⟨by rfl, ?_⟩) (by assumption) ?_
    rotate_left
    · (intro w hSw; (try dsimp only at hSw); go_simp; try with_reducible rfl)
    simp only [Act.put, List.getElem_toArray, List.getElem_cons_succ, List.getElem_cons_zero, List.setIfInBounds_toArray, List.set_cons_zero, List.set_cons_succ]
    refine till_in (i := 2) (by kernel_rfl) rfl (fun K hK => ?_)
    go_simp
    refine (vaddK _ _ _ zs0 kx _ _ _ zs1 kx _ ((unhide S0).later HW).vk ((unhide S1).later HW).vk (by omega) (by omega) (by omega) (by omega)).mono ?_
    rintro e w9 ⟨a13, c13, rfl, h13, hb9⟩
    replace HW := Below.step HW hb9
    clear hb9
    rw [← unhide EP] at h13 ⊢
    refine hK.out _ _ ?_ (fun hHeld => ?_)
    · exact ⟨(P0.later HW).facts.1, (P0.later HW).facts.2.1⟩
    clear hK K
    try simp only [Act.put, List.getElem_toArray, List.getElem_cons_succ, List.getElem_cons_zero, List.setIfInBounds_toArray, List.set_cons_zero, List.set_cons_succ]
    refine till_in (i := 4) (by kernel_rfl) rfl (fun K hK => ?_)
    go_simp
    refine (vsubK _ _ _ (vadd zs0 zs1) (max kx kx + 1) _ _ _ zs1 kx _ (h13.vk (by omega)) ((unhide S1).later HW).vk (by omega) (by omega) (by omega) (by omega)).mono ?_
    rintro e w9 ⟨a14, c14, rfl, h14, hb9⟩
    replace HW := Below.step HW hb9
    clear hb9
    clear h13
    refine hK.out _ _ ?_ (fun hHeld => ?_)
    · exact ⟨(P0.later HW).facts.1, (P0.later HW).facts.2.1⟩
    clear hK K
    try simp only [Act.put, List.getElem_toArray, List.getElem_cons_succ, List.getElem_cons_zero, List.setIfInBounds_toArray, List.set_cons_zero, List.set_cons_succ]
    refine till_in (i := 6) (by kernel_rfl) rfl (fun K hK => ?_)
    go_simp
    refine (vsameK _ _ _ (vsub (vadd zs0 zs1) zs1) (max (max kx kx + 1) kx + 1) _ _ _ zs0 kx _ (h14.vk (by omega)) ((unhide S0).later HW).vk (by omega) (by omega) (by omega) (by omega)).mono ?_
    rintro e w9 ⟨c, rfl, hc, hb9⟩
    replace HW := Below.step HW hb9
    clear hb9
    obtain rfl := isCmp_inj hc (isCmp_same (fun i => by rw [vsub_at, vadd_at]; omega))
    clear h14 hc
    refine hK.out _ _ ?_ (fun hHeld => ?_)
    · exact ⟨(P0.later HW).facts.1, (P0.later HW).facts.2.1⟩
    clear hK K
    try simp only [Act.put, List.getElem_toArray, List.getElem_cons_succ, List.getElem_cons_zero, List.setIfInBounds_toArray, List.set_cons_zero, List.set_cons_succ]
    refine till_take (i := 7) (v := ?_) [8, 9, 10, 11, 12, 13, 14, 15, 16, 17, 18, 19, 20, 21, 22, 23, 24, 25, 26, 27, 28, 29, 30, 31, 32] rfl (by kernel_rfl) (by kernel_rfl) (by kernel_rfl) (by kernel_rfl) (fun _ _ _ h => h) (Or.inl ⟨by rfl, ?_⟩) (by assumption) ?_
    rotate_left
    · (intro w hSw; (try dsimp only at hSw); go_simp; try with_reducible rfl)
    simp only [Act.put, List.getElem_toArray, List.getElem_cons_succ, List.getElem_cons_zero, List.setIfInBounds_toArray, List.set_cons_zero, List.set_cons_succ]
    refine till_take (i := 8) (v := ?_) [11, 12, 13, 14, 15, 16, 17, 18, 19, 20, 21, 22, 23, 24, 25, 26, 27, 28, 29, 30, 31, 32] rfl (by kernel_rfl) (by kernel_rfl) (by kernel_rfl) (by kernel_rfl) (fun _ _ _ h => h) (Or.inl ⟨by rfl, ?_⟩) (by assumption) ?_
    rotate_left
    · (intro w hSw; (try dsimp only at hSw); go_simp; try with_reducible rfl)
    simp only [Act.put, List.getElem_toArray, List.getElem_cons_succ, List.getElem_cons_zero, List.setIfInBounds_toArray, List.set_cons_zero, List.set_cons_succ]
    refine till_take (i := 9) (v := ?_) [10, 11, 12, 13, 14, 15, 16, 17, 18, 19, 20, 21, 22, 23, 24, 25, 26, 27, 28, 29, 30, 31, 32] rfl (by kernel_rfl) (by kernel_rfl) (by kernel_rfl) (by kernel_rfl) (fun _ _ _ h => h) (Or.inl ⟨by rfl, ?_⟩) (by assumption) ?_
    rotate_left
    · (intro w hSw; (try dsimp only at hSw); go_simp; try with_reducible rfl)
    simp only [Act.put, List.getElem_toArray, List.getElem_cons_succ, List.getElem_cons_zero, List.setIfInBounds_toArray, List.set_cons_zero, List.set_cons_succ]
    refine till_in (i := 10) (by kernel_rfl) rfl (fun K hK => ?_)
    go_simp
    refine (vnegK _ _ _ zs0 kx _ ((unhide S0).later HW).vk (by omega)).mono ?_
    rintro e w9 ⟨a13, c13, rfl, h13, hb9⟩
    replace HW := Below.step HW hb9
    clear hb9
    refine hK.out _ _ ?_ (fun hHeld => ?_)
    · exact ⟨(P0.later HW).facts.1, (P0.later HW).facts.2.1⟩
    clear hK K
    try simp only [Act.put, List.getElem_toArray, List.getElem_cons_succ, List.getElem_cons_zero, List.setIfInBounds_toArray, List.set_cons_zero, List.set_cons_succ]
    refine till_in (i := 11) (by kernel_rfl) rfl (fun K hK => ?_)
    go_simp
    refine (vaddK _ _ _ zs0 kx _ _ _ (vneg zs0) kx _ ((unhide S0).later HW).vk (h13.vk (by omega)) (by omega) (by omega) (by omega) (by omega)).mono ?_
    rintro e w9 ⟨a14, c14, rfl, h14, hb9⟩
    replace HW := Below.step HW hb9
    clear hb9
    rw [Nat.max_self len0] at h14 ⊢
    clear h13
    refine hK.out _ _ ?_ (fun hHeld => ?_)
    · exact ⟨(P0.later HW).facts.1, (P0.later HW).facts.2.1⟩
    clear hK K
    try simp only [Act.put, List.getElem_toArray, List.getElem_cons_succ, List.getElem_cons_zero, List.setIfInBounds_toArray, List.set_cons_zero, List.set_cons_succ]
    refine till_in (i := 12) (by kernel_rfl) rfl (fun K hK => ?_)
    go_simp
    have N1 := vnoughtK _ _ _ (vadd zs0 (vneg zs0)) (max kx kx + 1) _ (h14.vk (by omega))
    rw [nought_neg zs0] at N1
    refine (N1).mono ?_
    rintro e w9 ⟨rfl, hb9⟩
    replace HW := Below.step HW hb9
    clear hb9
    clear N1 h14
    refine hK.out _ _ ?_ (fun hHeld => ?_)
    · exact ⟨(P0.later HW).facts.1, (P0.later HW).facts.2.1⟩
    clear hK K
    try simp only [Act.put, List.getElem_toArray, List.getElem_cons_succ, List.getElem_cons_zero, List.setIfInBounds_toArray, List.set_cons_zero, List.set_cons_succ]
    refine till_take (i := 13) (v := ?_) [14, 15, 16, 17, 18, 19, 20, 21, 22, 23, 24, 25, 26, 27, 28, 29, 30, 31, 32] rfl (by kernel_rfl) (by kernel_rfl) (by kernel_rfl) (by kernel_rfl) (fun _ _ _ h => h) (Or.inl ⟨by rfl, ?_⟩) (by assumption) ?_
    rotate_left
    · (intro w hSw; (try dsimp only at hSw); go_simp; try with_reducible rfl)
    simp only [Act.put, List.getElem_toArray, List.getElem_cons_succ, List.getElem_cons_zero, List.setIfInBounds_toArray, List.set_cons_zero, List.set_cons_succ]
    refine till_take (i := 14) (v := ?_) [15, 16, 17, 18, 19, 20, 21, 22, 23, 24, 25, 26, 27, 28, 29, 30, 31, 32] rfl (by kernel_rfl) (by kernel_rfl) (by kernel_rfl) (by kernel_rfl) (fun _ _ _ h => h) (Or.inl ⟨by rfl, ?_⟩) (by assumption) ?_
    rotate_left
    · (intro w hSw; (try dsimp only at hSw); go_simp; try with_reducible rfl)
    simp only [Act.put, List.getElem_toArray, List.getElem_cons_succ, List.getElem_cons_zero, List.setIfInBounds_toArray, List.set_cons_zero, List.set_cons_succ]
    refine till_take (i := 15) (v := ?_) [17, 19, 22, 25, 26, 27, 28, 29, 30, 31, 32] rfl (by kernel_rfl) (by kernel_rfl) (by kernel_rfl) (by kernel_rfl) (fun _ _ _ h => h) (Or.inl ⟨by rfl, ?_⟩) (by assumption) ?_
    rotate_left
    · (intro w hSw; (try dsimp only at hSw); go_simp; try with_reducible rfl)
    simp only [Act.put, List.getElem_toArray, List.getElem_cons_succ, List.getElem_cons_zero, List.setIfInBounds_toArray, List.set_cons_zero, List.set_cons_succ]
    refine till_take (i := 16) (v := ?_) [17, 19, 22, 25, 26, 27, 28, 29, 30, 31, 32] rfl (by kernel_rfl) (by kernel_rfl) (by kernel_rfl) (by kernel_rfl) (fun _ _ _ h => h) (Or.inl ⟨by rfl, ?_⟩) (by assumption) ?_
    rotate_left
    · (intro w hSw; (try dsimp only at hSw); go_simp; try with_reducible rfl)
    simp only [Act.put, List.getElem_toArray, List.getElem_cons_succ, List.getElem_cons_zero, List.setIfInBounds_toArray, List.set_cons_zero, List.set_cons_succ]
    refine till_take (i := 18) (v := ?_) [19, 22, 25, 26, 27, 28, 29, 30, 31, 32] rfl (by kernel_rfl) (by kernel_rfl) (by kernel_rfl) (by kernel_rfl) (fun _ _ _ h => h) (Or.inl ⟨by rfl, ?_⟩) (by assumption) ?_
    rotate_left
    · (intro w hSw; (try dsimp only at hSw); go_simp; try with_reducible rfl)
    simp only [Act.put, List.getElem_toArray, List.getElem_cons_succ, List.getElem_cons_zero, List.setIfInBounds_toArray, List.set_cons_zero, List.set_cons_succ]
    refine till_take (i := 20) (v := ?_) [22, 25, 26, 27, 28, 29, 30, 31, 32] rfl (by kernel_rfl) (by kernel_rfl) (by kernel_rfl) (by kernel_rfl) (fun _ _ _ h => h) (Or.inl ⟨by rfl, ?_⟩) (by assumption) ?_
    rotate_left
    · (intro w hSw; (try dsimp only at hSw); go_simp; try with_reducible rfl)
    simp only [Act.put, List.getElem_toArray, List.getElem_cons_succ, List.getElem_cons_zero, List.setIfInBounds_toArray, List.set_cons_zero, List.set_cons_succ]
    refine till_take (i := 21) (v := ?_) [22, 25, 26, 27, 28, 29, 30, 31, 32] rfl (by kernel_rfl) (by kernel_rfl) (by kernel_rfl) (by kernel_rfl) (fun _ _ _ h => h) (Or.inl ⟨by rfl, ?_⟩) (by assumption) ?_
    rotate_left
    · (intro w hSw; (try dsimp only at hSw); go_simp; try with_reducible rfl)
    simp only [Act.put, List.getElem_toArray, List.getElem_cons_succ, List.getElem_cons_zero, List.setIfInBounds_toArray, List.set_cons_zero, List.set_cons_succ]
    refine till_take (i := 23) (v := ?_) [25, 26, 27, 28, 29, 30, 31, 32] rfl (by kernel_rfl) (by kernel_rfl) (by kernel_rfl) (by kernel_rfl) (fun _ _ _ h => h) (Or.inl ⟨by rfl, ?_⟩) (by assumption) ?_
    rotate_left
    · (intro w hSw; (try dsimp only at hSw); go_simp; try with_reducible rfl)
    simp only [Act.put, List.getElem_toArray, List.getElem_cons_succ, List.getElem_cons_zero, List.setIfInBounds_toArray, List.set_cons_zero, List.set_cons_succ]
    refine till_take (i := 24) (v := ?_) [25, 26, 27, 28, 29, 30, 31, 32] rfl (by kernel_rfl) (by kernel_rfl) (by kernel_rfl) (by kernel_rfl) (fun _ _ _ h => h) (Or.inl ⟨by rfl, ?_⟩) (by assumption) ?_
    rotate_left
    · (intro w hSw; (try dsimp only at hSw); go_simp; try with_reducible rfl)
    simp only [Act.put, List.getElem_toArray, List.getElem_cons_succ, List.getElem_cons_zero, List.setIfInBounds_toArray, List.set_cons_zero, List.set_cons_succ]
    refine till_in (i := 17) (by kernel_rfl) rfl (fun K hK => ?_)
    go_simp
    refine (vaddK _ _ _ zs0 kx _ _ _ zs1 kx _ ((unhide S0).later HW).vk ((unhide S1).later HW).vk (by omega) (by omega) (by omega) (by omega)).mono ?_
    rintro e w9 ⟨a13, c13, rfl, h13, hb9⟩
    replace HW := Below.step HW hb9
    clear hb9
    rw [← unhide EP] at h13 ⊢
    refine hK.out _ _ ?_ (fun hHeld => ?_)
    · exact ⟨(P0.later HW).facts.1, (P0.later HW).facts.2.1⟩
    clear hK K
    try simp only [Act.put, List.getElem_toArray, List.getElem_cons_succ, List.getElem_cons_zero, List.setIfInBounds_toArray, List.set_cons_zero, List.set_cons_succ]
    refine till_in (i := 19) (by kernel_rfl) rfl (fun K hK => ?_)
    go_simp
    refine (vtimesK _ _ _ (vadd zs0 zs1) (max kx kx + 1) b3 a3 len3 cap3 x kx _ (h13.vk (by omega)) (hX.later HW).1 (by omega)).mono ?_
    rintro e w9 ⟨a14, c14, rfl, h14, hb9⟩
    replace HW := Below.step HW hb9
    clear hb9
    clear h13
    refine hK.out _ _ ?_ (fun hHeld => ?_)
    · exact ⟨(P0.later HW).facts.1, (P0.later HW).facts.2.1⟩
    clear hK K
    try simp only [Act.put, List.getElem_toArray, List.getElem_cons_succ, List.getElem_cons_zero, List.setIfInBounds_toArray, List.set_cons_zero, List.set_cons_succ]
    refine till_in (i := 22) (by kernel_rfl) rfl (fun K hK => ?_)
    go_simp
    refine (vtimesK _ _ _ zs0 kx b3 a3 len3 cap3 x kx _ ((unhide S0).later HW).vk (hX.later HW).1 (by omega)).mono ?_
    rintro e w9 ⟨a15, c15, rfl, h15, hb9⟩
    replace HW := Below.step HW hb9
    replace h14 := h14.later hb9
    clear hb9
    refine hK.out _ _ ?_ (fun hHeld => ?_)
    · exact ⟨(P0.later HW).facts.1, (P0.later HW).facts.2.1⟩
    clear hK K
    try simp only [Act.put, List.getElem_toArray, List.getElem_cons_succ, List.getElem_cons_zero, List.setIfInBounds_toArray, List.set_cons_zero, List.set_cons_succ]
    refine till_in (i := 25) (by kernel_rfl) rfl (fun K hK => ?_)
    go_simp
    refine (vtimesK _ _ _ zs1 kx b3 a3 len3 cap3 x kx _ ((unhide S1).later HW).vk (hX.later HW).1 (by omega)).mono ?_
    rintro e w9 ⟨a16, c16, rfl, h16, hb9⟩
    replace HW := Below.step HW hb9
    replace h14 := h14.later hb9
    replace h15 := h15.later hb9
    clear hb9
    refine hK.out _ _ ?_ (fun hHeld => ?_)
    · exact ⟨(P0.later HW).facts.1, (P0.later HW).facts.2.1⟩
    clear hK K
    try simp only [Act.put, List.getElem_toArray, List.getElem_cons_succ, List.getElem_cons_zero, List.setIfInBounds_toArray, List.set_cons_zero, List.set_cons_succ]
    refine till_in (i := 26) (by kernel_rfl) rfl (fun K hK => ?_)
    go_simp
    refine (vaddK _ _ _ (vtimes zs0 x) (kx + kx) _ _ _ (vtimes zs1 x) (kx + kx) _ (h15.vk (by omega)) (h16.vk (by omega)) (by omega) (by omega) (by omega) (by omega)).mono ?_
    rintro e w9 ⟨a17, c17, rfl, h17, hb9⟩
    replace HW := Below.step HW hb9
    replace h14 := h14.later hb9
    clear hb9
    rw [← unhide EP] at h17 ⊢
    clear h15 h16
    refine hK.out _ _ ?_ (fun hHeld => ?_)
    · exact ⟨(P0.later HW).facts.1, (P0.later HW).facts.2.1⟩
    clear hK K
    try simp only [Act.put, List.getElem_toArray, List.getElem_cons_succ, List.getElem_cons_zero, List.setIfInBounds_toArray, List.set_cons_zero, List.set_cons_succ]
    refine till_in (i := 27) (by kernel_rfl) rfl (fun K hK => ?_)
    go_simp
    refine (vsameK _ _ _ (vtimes (vadd zs0 zs1) x) ((max kx kx + 1) + kx) _ _ _ (vadd (vtimes zs0 x) (vtimes zs1 x)) (max (kx + kx) (kx + kx) + 1) _ (h14.vk (by omega)) (h17.vk (by omega)) (by omega) (by omega) (by omega) (by omega)).mono ?_
    rintro e w9 ⟨c, rfl, hc, hb9⟩
    replace HW := Below.step HW hb9
    clear hb9
    obtain rfl := isCmp_inj hc (isCmp_same (fun i => by rw [vtimes_at, vadd_at, vadd_at, vtimes_at, vtimes_at, Int.add_mul]))
    clear h14 h17 hc
    refine hK.out _ _ ?_ (fun hHeld => ?_)
    · exact ⟨(P0.later HW).facts.1, (P0.later HW).facts.2.1⟩
    clear hK K
    try simp only [Act.put, List.getElem_toArray, List.getElem_cons_succ, List.getElem_cons_zero, List.setIfInBounds_toArray, List.set_cons_zero, List.set_cons_succ]
    refine till_take (i := 28) (v := ?_) [29, 30, 31, 32] rfl (by kernel_rfl) (by kernel_rfl) (by kernel_rfl) (by kernel_rfl) (fun _ _ _ h => h) (Or.inl ⟨by rfl, ?_⟩) (by assumption) ?_
    rotate_left
    · (intro w hSw; (try dsimp only at hSw); go_simp; try with_reducible rfl)
    simp only [Act.put, List.getElem_toArray, List.getElem_cons_succ, List.getElem_cons_zero, List.setIfInBounds_toArray, List.set_cons_zero, List.set_cons_succ]
    refine till_take (i := 29) (v := ?_) [30, 31, 32] rfl (by kernel_rfl) (by kernel_rfl) (by kernel_rfl) (by kernel_rfl) (fun _ _ _ h => h) (Or.inl ⟨by rfl, ?_⟩) (by assumption) ?_
    rotate_left
    · (intro w hSw; (try dsimp only at hSw); go_simp; try with_reducible rfl)
    simp only [Act.put, List.getElem_toArray, List.getElem_cons_succ, List.getElem_cons_zero, List.setIfInBounds_toArray, List.set_cons_zero, List.set_cons_succ]
    refine till_in (i := 30) (by kernel_rfl) rfl (fun K hK => ?_)
    go_simp
    refine (awake7_any _).mono ?_
    rintro e w9 ⟨rfl, hb9⟩
    replace HW := Below.step HW hb9
    clear hb9
    refine hK.out _ _ ?_ (fun hHeld => ?_)
    · exact ⟨(P0.later HW).facts.1, (P0.later HW).facts.2.1⟩
    clear hK K
    try simp only [Act.put, List.getElem_toArray, List.getElem_cons_succ, List.getElem_cons_zero, List.setIfInBounds_toArray, List.set_cons_zero, List.set_cons_succ]
    refine till_take (i := 31) (v := ?_) [32] rfl (by kernel_rfl) (by kernel_rfl) (by kernel_rfl) (by kernel_rfl) (fun _ _ _ h => h) (Or.inl ⟨by rfl, ?_⟩) (by assumption) ?_
    rotate_left
    · (intro w hSw; (try dsimp only at hSw); go_simp; try with_reducible rfl)
    simp only [Act.put, List.getElem_toArray, List.getElem_cons_succ, List.getElem_cons_zero, List.setIfInBounds_toArray, List.set_cons_zero, List.set_cons_succ]
    refine till_out (i := 32) (by kernel_rfl) rfl (by kernel_rfl) (fun K hK => ?_)
    go_simp
    refine hK.out _ _ ?_
    clear hK K
    try simp only [Act.put, List.getElem_toArray, List.getElem_cons_succ, List.getElem_cons_zero, List.setIfInBounds_toArray, List.set_cons_zero, List.set_cons_succ]
    refine till_done (by kernel_rfl) ?_ _
    go_wp2
    go_ret
    exact ⟨rfl, Below.step (unhide HB) HW⟩
  · have hf' : q = 1 := by omega
    subst hf'
    clear hq01 hq hf hbR hb1
    go_wp2_with fail
    refine (awake7_any _).mono ?_
    rintro e w2 ⟨rfl, hb2⟩
    go_wp2
    go_ret
    exact ⟨rfl, Below.step (unhide HB) hb2⟩
#print axioms vecLinear_walk
end Go.Proofs.Ytdbimajopclndaa
