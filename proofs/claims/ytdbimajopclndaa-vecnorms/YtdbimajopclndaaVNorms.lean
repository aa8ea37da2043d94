/-
  The walk of VecNorms: it tells true.
-/
import Derived.Test.YtdbimajopclndaaLaw7
import Derived.Deep.CutRange
namespace Go.Proofs.Ytdbimajopclndaa
open Go.RowKit Lb

set_option maxRecDepth 20000 in
set_option maxHeartbeats 4000000 in
theorem vecNorms_walk (a0 : Option Addr) (len0 cap0 : Nat) (zs0 : List Int) (a1 : Option Addr) (len1 cap1 : Nat) (zs1 : List Int) (w : World) (r0 : VI w a0 len0 cap0 zs0) (r1 : VI w a1 len1 cap1 zs1) :
    Calls Try.prog 6 #[.slice a0 len0 cap0, .slice a1 len1 cap1] w fun e w' => e = .returned (.bool true) ∧ Below w.heap.size w w' := by
  have L0 := hide r0.len_eq
  have L1 := hide r1.len_eq
  go_enter Try.func6, Try.ntmps6
  go_wp2_with fail
  have hbR := below_new w (.cells #[.slice a0 len0 cap0, .slice a1 len1 cap1] 23)
  refine (few7_2 a0 len0 cap0 zs0 a1 len1 cap1 zs1 w w.heap.size rfl r0 r1).mono ?_
  rintro e v0 ⟨q, rfl, hq01, hq, hb1⟩
  have HB := hide hb1
  by_cases hf : q = 0
  · subst hf
    obtain ⟨s0, s1⟩ := hq rfl
    have n0 := s0.1
    have n1 := s1.1
    have S0 := hide (vs_later r0 hbR s0 _ hb1)
    have S1 := hide (vs_later r1 hbR s1 _ hb1)
    obtain ⟨kx, ekx⟩ : ∃ kx, kx = 12 := ⟨_, rfl⟩
    rw [← ekx] at S0 S1
    have hkx : kx ≤ 12 := by omega
    clear ekx hq01 hq hbR hb1 s0 r0 s1 r1
    go_wp2_with fail
    refine (vaddK _ _ _ zs0 kx _ _ _ zs1 kx _ (unhide S0).vk (unhide S1).vk (by omega) (by omega) (by omega) (by omega)).mono ?_
    rintro e v1 ⟨a1, c1, rfl, h1, hb9⟩
    replace S0 := hide ((unhide S0).later hb9)
    replace S1 := hide ((unhide S1).later hb9)
    replace HB := hide (Below.step (unhide HB) hb9)
    clear hb9
    obtain ⟨p, ep⟩ : ∃ p, p = max len0 len1 := ⟨_, rfl⟩
    rw [← ep] at h1 ⊢
    have hp : p ≤ 70 := by omega
    clear ep
    go_wp2_with fail
    refine (vnormK _ _ _ (vadd zs0 zs1) (max kx kx + 1) _ (h1.vk (by omega)) (by omega) (by omega)).mono ?_
    rintro e v2 ⟨b2, a2, l2, c2, rfl, h2, hb9⟩
    replace S0 := hide ((unhide S0).later hb9)
    replace S1 := hide ((unhide S1).later hb9)
    replace HB := hide (Below.step (unhide HB) hb9)
    clear hb9
    clear h1
    go_upto_region 4 with fail
    obtain ⟨v3, hWe⟩ : ∃ W', W' = (v2.alloc (.cells #[.bool b2, .slice a2 l2 c2] 26)) := ⟨_, rfl⟩
    obtain ⟨BN, hb9⟩ := boxes1 v2 b2 a2 l2 c2 hWe
    rw [← hWe]
    clear hWe
    replace S0 := hide ((unhide S0).later hb9)
    replace S1 := hide ((unhide S1).later hb9)
    replace h2 := h2.later hb9
    replace HB := hide (Below.step (unhide HB) hb9)
    clear hb9
    obtain ⟨s1, es1⟩ : ∃ s, s = (vnorm (vadd zs0 zs1) - (vnorm zs0 + vnorm zs1)).sign := ⟨_, rfl⟩
    have hs1 : s1 ≤ 0 := by rw [es1]; exact Int.sign_nonpos_iff.2 (by have := vnorm_add zs0 zs1; omega)
    have E1 := hide es1
    clear es1
    obtain ⟨s2, es2⟩ : ∃ s, s = (vnorm zs0).sign := ⟨_, rfl⟩
    obtain ⟨s3, es3⟩ : ∃ s, s = (vdot zs0 zs0).sign := ⟨_, rfl⟩
    obtain ⟨q, eq⟩ : ∃ q, q = vnought zs0 := ⟨_, rfl⟩
    have hq2 : (s2 == 0) = q := by rw [eq, ← vnorm_zero, es2, Bool.eq_iff_iff, beq_iff_eq, decide_eq_true_iff]; exact Int.sign_eq_zero_iff_zero
    have hq3 : (s3 == 0) = q := by rw [eq, ← vdot_zero, es3, Bool.eq_iff_iff, beq_iff_eq, decide_eq_true_iff]; exact Int.sign_eq_zero_iff_zero
    have E2 := hide es2
    have E3 := hide es3
    have N1 := hide (fun (w : World) (h : VS w a0 len0 cap0 zs0 kx) => vnoughtK _ _ _ zs0 kx w h.vk)
    rw [← eq] at N1
    clear eq es2 es3
    have HW : Below v3.heap.size v3 v3.drew := (Below.refl _ _).drew
    refine till_start (fun w' => w'.cell? ⟨v2.heap.size, 0, none⟩ = some (.bool b2) ∧ w'.cell? ⟨v2.heap.size, 1, none⟩ = some (.slice a2 l2 c2)) 38 (by kernel_rfl) ?_ (fun hHeld => ?_)
    · exact ⟨(BN.later HW).facts.1, (BN.later HW).facts.2.1⟩
    refine till_take (i := 0) (v := ?_) [6, 7, 8, 9, 10, 11, 12, 13, 14, 15, 16, 17, 18, 19, 20, 21, 22, 23, 24, 25, 26, 27, 28, 29, 30, 31, 32, 33, 34, 35, 36, 37, 38] rfl (by kernel_rfl) (by kernel_rfl) (by kernel_rfl) (by kernel_rfl) (fun _ _ _ h => h) (Or.inl ⟨by rfl, ?_⟩) (by assumption) ?_
    rotate_left
    · (intro w hSw; (try dsimp only at hSw); go_simp; try with_reducible rfl)
    simp only [Act.put, List.getElem_toArray, List.getElem_cons_zero, List.setIfInBounds_toArray, List.set_cons_zero, List.set_cons_succ]
    refine till_take (i := 1) (v := ?_) [2, 4, 5, 6, 7, 8, 9, 10, 11, 12, 13, 14, 15, 16, 17, 18, 19, 20, 21, 22, 23, 24, 25, 26, 27, 28, 29, 30, 31, 32, 33, 34, 35, 36, 37, 38] rfl (by kernel_rfl) (by kernel_rfl) (by kernel_rfl) (by kernel_rfl) (fun _ _ _ h => h) (Or.inl ⟨by rfl, ?_⟩) (by assumption) ?_
    rotate_left
    · (intro w hSw; (try dsimp only at hSw); go_simp; try with_reducible rfl)
    simp only [Act.put, List.getElem_toArray, List.getElem_cons_succ, List.getElem_cons_zero, List.setIfInBounds_toArray, List.set_cons_zero, List.set_cons_succ]
    refine till_take (i := 3) (v := ?_) [4, 5, 6, 7, 8, 9, 10, 11, 12, 13, 14, 15, 16, 17, 18, 19, 20, 21, 22, 23, 24, 25, 26, 27, 28, 29, 30, 31, 32, 33, 34, 35, 36, 37, 38] rfl (by kernel_rfl) (by kernel_rfl) (by kernel_rfl) (by kernel_rfl) (fun _ _ _ h => h) (Or.inl ⟨by rfl, ?_⟩) (by assumption) ?_
    rotate_left
    · (intro w hSw; (try dsimp only at hSw); go_simp; try with_reducible rfl)
    simp only [Act.put, List.getElem_toArray, List.getElem_cons_succ, List.getElem_cons_zero, List.setIfInBounds_toArray, List.set_cons_zero, List.set_cons_succ]
    refine till_in (i := 2) (by kernel_rfl) rfl (fun K hK => ?_)
    go_simp
    refine (vnormK _ _ _ zs0 kx _ ((unhide S0).later HW).vk (by omega) (by omega)).mono ?_
    rintro e w9 ⟨b3, a3, l3, c3, rfl, h3, hb9⟩
    replace HW := Below.step HW hb9
    clear hb9
    refine hK.out _ _ ?_ (fun hHeld => ?_)
    · exact ⟨(BN.later HW).facts.1, (BN.later HW).facts.2.1⟩
    clear hK K
    try simp only [Act.put, List.getElem_toArray, List.getElem_cons_succ, List.getElem_cons_zero, List.setIfInBounds_toArray, List.set_cons_zero, List.set_cons_succ]
    refine till_in (i := 4) (by kernel_rfl) rfl (fun K hK => ?_)
    go_simp
    refine (vnormK _ _ _ zs1 kx _ ((unhide S1).later HW).vk (by omega) (by omega)).mono ?_
    rintro e w9 ⟨b4, a4, l4, c4, rfl, h4, hb9⟩
    replace HW := Below.step HW hb9
    replace h3 := h3.later hb9
    clear hb9
    refine hK.out _ _ ?_ (fun hHeld => ?_)
    · exact ⟨(BN.later HW).facts.1, (BN.later HW).facts.2.1⟩
    clear hK K
    try simp only [Act.put, List.getElem_toArray, List.getElem_cons_succ, List.getElem_cons_zero, List.setIfInBounds_toArray, List.set_cons_zero, List.set_cons_succ]
    refine till_in (i := 5) (by kernel_rfl) rfl (fun K hK => ?_)
    go_simp
    refine (raddK _ _ _ _ (vnorm zs0) (kx + len0) _ _ _ _ (vnorm zs1) (kx + len1) _ (h3.ik (by omega)) (h4.ik (by omega))).mono ?_
    rintro e w9 ⟨b5, a5, l5, c5, rfl, h5, hb9⟩
    replace HW := Below.step HW hb9
    clear hb9
    clear h3 h4
    refine hK.out _ _ ?_ (fun hHeld => ?_)
    · exact ⟨(BN.later HW).facts.1, (BN.later HW).facts.2.1⟩
    clear hK K
    try simp only [Act.put, List.getElem_toArray, List.getElem_cons_succ, List.getElem_cons_zero, List.setIfInBounds_toArray, List.set_cons_zero, List.set_cons_succ]
    refine till_in (i := 6) (by kernel_rfl) rfl (fun K hK => ?_)
    go_simp
    refine (rcmpK b2 a2 l2 c2 (vnorm (vadd zs0 zs1)) ((max kx kx + 1) + p) _ _ _ _ (vnorm zs0 + vnorm zs1) (max (kx + len0) (kx + len1) + 1) s1 _ ((h2.later HW).ik (by omega)) (h5.ik (by omega)) (unhide E1)).mono ?_
    rintro e w9 ⟨rfl, hb9⟩
    replace HW := Below.step HW hb9
    clear hb9
    clear h5
    refine hK.out _ _ ?_ (fun hHeld => ?_)
    · exact ⟨(BN.later HW).facts.1, (BN.later HW).facts.2.1⟩
    clear hK K
    try simp only [Act.put, List.getElem_toArray, List.getElem_cons_succ, List.getElem_cons_zero, List.setIfInBounds_toArray, List.set_cons_zero, List.set_cons_succ]
    refine till_take (i := 7) (v := ?_) [8, 9, 10, 11, 12, 13, 14, 15, 16, 17, 18, 19, 20, 21, 22, 23, 24, 25, 26, 27, 28, 29, 30, 31, 32, 33, 34, 35, 36, 37, 38] rfl (by kernel_rfl) (by kernel_rfl) (by kernel_rfl) (by kernel_rfl) (fun _ _ _ h => h) (Or.inl ⟨by rfl, ?_⟩) (by assumption) ?_
    rotate_left
    · (intro w hSw; (try dsimp only at hSw); go_simp; try with_reducible rfl)
    simp only [Act.put, List.getElem_toArray, List.getElem_cons_succ, List.getElem_cons_zero, List.setIfInBounds_toArray, List.set_cons_zero, List.set_cons_succ]
    refine till_take (i := 8) (v := ?_) [9, 10, 11, 12, 13, 14, 15, 16, 17, 18, 19, 20, 21, 22, 23, 24, 25, 26, 27, 28, 29, 30, 31, 32, 33, 34, 35, 36, 37, 38] rfl (by kernel_rfl) (by kernel_rfl) (by kernel_rfl) (by kernel_rfl) (fun _ _ _ h => h) (Or.inl ⟨by rfl, ?_⟩) (by assumption) ?_
    rotate_left
    · (intro w hSw; (try dsimp only at hSw); go_simp; try with_reducible rfl)
    simp only [Act.put, List.getElem_toArray, List.getElem_cons_succ, List.getElem_cons_zero, List.setIfInBounds_toArray, List.set_cons_zero, List.set_cons_succ]
    refine till_take (i := 9) (v := ?_) [10, 11, 13, 14, 15, 16, 17, 18, 19, 20, 21, 22, 23, 24, 25, 26, 27, 28, 29, 30, 31, 32, 33, 34, 35, 36, 37, 38] rfl (by kernel_rfl) (by kernel_rfl) (by kernel_rfl) (by kernel_rfl) (fun _ _ _ h => h) (Or.inl ⟨by rfl, ?_⟩) (by assumption) ?_
    rotate_left
    · (intro w hSw; (try dsimp only at hSw); go_simp; try with_reducible rfl)
    simp only [Act.put, List.getElem_toArray, List.getElem_cons_succ, List.getElem_cons_zero, List.setIfInBounds_toArray, List.set_cons_zero, List.set_cons_succ]
    refine till_take (i := 12) (v := ?_) [13, 14, 15, 16, 17, 18, 19, 20, 21, 22, 23, 24, 25, 26, 27, 28, 29, 30, 31, 32, 33, 34, 35, 36, 37, 38] rfl (by kernel_rfl) (by kernel_rfl) (by kernel_rfl) (by kernel_rfl) (fun _ _ _ h => h) (Or.inl ⟨by rfl, ?_⟩) (by assumption) ?_
    rotate_left
    · (intro w hSw; (try dsimp only at hSw); go_simp; try with_reducible rfl)
    simp only [Act.put, List.getElem_toArray, List.getElem_cons_succ, List.getElem_cons_zero, List.setIfInBounds_toArray, List.set_cons_zero, List.set_cons_succ]
    refine till_in (i := 10) (by kernel_rfl) rfl (fun K hK => ?_)
    go_simp
    refine (vnegK _ _ _ zs0 kx _ ((unhide S0).later HW).vk (by omega)).mono ?_
    rintro e w9 ⟨a3, c3, rfl, h3, hb9⟩
    replace HW := Below.step HW hb9
    clear hb9
    refine hK.out _ _ ?_ (fun hHeld => ?_)
    · exact ⟨(BN.later HW).facts.1, (BN.later HW).facts.2.1⟩
    clear hK K
    try simp only [Act.put, List.getElem_toArray, List.getElem_cons_succ, List.getElem_cons_zero, List.setIfInBounds_toArray, List.set_cons_zero, List.set_cons_succ]
    refine till_in (i := 11) (by kernel_rfl) rfl (fun K hK => ?_)
    go_simp
    refine (vnormK _ _ _ (vneg zs0) kx _ (h3.vk (by omega)) (by omega) (by omega)).mono ?_
    rintro e w9 ⟨b4, a4, l4, c4, rfl, h4, hb9⟩
    replace HW := Below.step HW hb9
    clear hb9
    clear h3
    refine hK.out _ _ ?_ (fun hHeld => ?_)
    · exact ⟨(BN.later HW).facts.1, (BN.later HW).facts.2.1⟩
    clear hK K
    try simp only [Act.put, List.getElem_toArray, List.getElem_cons_succ, List.getElem_cons_zero, List.setIfInBounds_toArray, List.set_cons_zero, List.set_cons_succ]
    refine till_in (i := 13) (by kernel_rfl) rfl (fun K hK => ?_)
    go_simp
    refine (vnormK _ _ _ zs0 kx _ ((unhide S0).later HW).vk (by omega) (by omega)).mono ?_
    rintro e w9 ⟨b5, a5, l5, c5, rfl, h5, hb9⟩
    replace HW := Below.step HW hb9
    replace h4 := h4.later hb9
    clear hb9
    refine hK.out _ _ ?_ (fun hHeld => ?_)
    · exact ⟨(BN.later HW).facts.1, (BN.later HW).facts.2.1⟩
    clear hK K
    try simp only [Act.put, List.getElem_toArray, List.getElem_cons_succ, List.getElem_cons_zero, List.setIfInBounds_toArray, List.set_cons_zero, List.set_cons_succ]
    refine till_in (i := 14) (by kernel_rfl) rfl (fun K hK => ?_)
    go_simp
    refine (rsameK _ _ _ _ _ _ _ _ _ _ _ _ _ h4 h5 (vnorm_neg zs0)).mono ?_
    rintro e w9 ⟨rfl, hb9⟩
    replace HW := Below.step HW hb9
    clear hb9
    clear h4 h5
    refine hK.out _ _ ?_ (fun hHeld => ?_)
    · exact ⟨(BN.later HW).facts.1, (BN.later HW).facts.2.1⟩
    clear hK K
    try simp only [Act.put, List.getElem_toArray, List.getElem_cons_succ, List.getElem_cons_zero, List.setIfInBounds_toArray, List.set_cons_zero, List.set_cons_succ]
    refine till_take (i := 15) (v := ?_) [16, 17, 18, 19, 20, 21, 22, 23, 24, 25, 26, 27, 28, 29, 30, 31, 32, 33, 34, 35, 36, 37, 38] rfl (by kernel_rfl) (by kernel_rfl) (by kernel_rfl) (by kernel_rfl) (fun _ _ _ h => h) (Or.inl ⟨by rfl, ?_⟩) (by assumption) ?_
    rotate_left
    · (intro w hSw; (try dsimp only at hSw); go_simp; try with_reducible rfl)
    simp only [Act.put, List.getElem_toArray, List.getElem_cons_succ, List.getElem_cons_zero, List.setIfInBounds_toArray, List.set_cons_zero, List.set_cons_succ]
    refine till_take (i := 16) (v := ?_) [17, 18, 19, 20, 21, 22, 23, 24, 25, 26, 27, 28, 29, 30, 31, 32, 33, 34, 35, 36, 37, 38] rfl (by kernel_rfl) (by kernel_rfl) (by kernel_rfl) (by kernel_rfl) (fun _ _ _ h => h) (Or.inl ⟨by rfl, ?_⟩) (by assumption) ?_
    rotate_left
    · (intro w hSw; (try dsimp only at hSw); go_simp; try with_reducible rfl)
    simp only [Act.put, List.getElem_toArray, List.getElem_cons_succ, List.getElem_cons_zero, List.setIfInBounds_toArray, List.set_cons_zero, List.set_cons_succ]
    refine till_take (i := 17) (v := ?_) [18, 19, 20, 22, 23, 24, 25, 26, 27, 28, 29, 30, 31, 32, 33, 34, 35, 36, 37, 38] rfl (by kernel_rfl) (by kernel_rfl) (by kernel_rfl) (by kernel_rfl) (fun _ _ _ h => h) (Or.inl ⟨by rfl, ?_⟩) (by assumption) ?_
    rotate_left
    · (intro w hSw; (try dsimp only at hSw); go_simp; try with_reducible rfl)
    simp only [Act.put, List.getElem_toArray, List.getElem_cons_succ, List.getElem_cons_zero, List.setIfInBounds_toArray, List.set_cons_zero, List.set_cons_succ]
    refine till_take (i := 21) (v := ?_) [22, 23, 24, 25, 26, 27, 28, 29, 30, 31, 32, 33, 34, 35, 36, 37, 38] rfl (by kernel_rfl) (by kernel_rfl) (by kernel_rfl) (by kernel_rfl) (fun _ _ _ h => h) (Or.inl ⟨by rfl, ?_⟩) (by assumption) ?_
    rotate_left
    · (intro w hSw; (try dsimp only at hSw); go_simp; try with_reducible rfl)
    simp only [Act.put, List.getElem_toArray, List.getElem_cons_succ, List.getElem_cons_zero, List.setIfInBounds_toArray, List.set_cons_zero, List.set_cons_succ]
    refine till_in (i := 18) (by kernel_rfl) rfl (fun K hK => ?_)
    go_simp
    refine (vnormK _ _ _ zs0 kx _ ((unhide S0).later HW).vk (by omega) (by omega)).mono ?_
    rintro e w9 ⟨b3, a3, l3, c3, rfl, h3, hb9⟩
    replace HW := Below.step HW hb9
    clear hb9
    refine hK.out _ _ ?_ (fun hHeld => ?_)
    · exact ⟨(BN.later HW).facts.1, (BN.later HW).facts.2.1⟩
    clear hK K
    try simp only [Act.put, List.getElem_toArray, List.getElem_cons_succ, List.getElem_cons_zero, List.setIfInBounds_toArray, List.set_cons_zero, List.set_cons_succ]
    refine till_in (i := 19) (by kernel_rfl) rfl (fun K hK => ?_)
    go_simp
    refine (rsignK _ _ _ _ (vnorm zs0) (kx + len0) s2 _ (h3.ik (by omega)) (unhide E2)).mono ?_
    rintro e w9 ⟨rfl, hb9⟩
    replace HW := Below.step HW hb9
    clear hb9
    clear h3
    refine hK.out _ _ ?_ (fun hHeld => ?_)
    · exact ⟨(BN.later HW).facts.1, (BN.later HW).facts.2.1⟩
    clear hK K
    try simp only [Act.put, List.getElem_toArray, List.getElem_cons_succ, List.getElem_cons_zero, List.setIfInBounds_toArray, List.set_cons_zero, List.set_cons_succ]
    refine till_take (i := 20) (v := ?_) [23, 24, 25, 26, 27, 28, 29, 30, 31, 32, 33, 34, 35, 36, 37, 38] rfl (by kernel_rfl) (by kernel_rfl) (by kernel_rfl) (by kernel_rfl) (fun _ _ _ h => h) (Or.inl ⟨by rfl, ?_⟩) (by assumption) ?_
    rotate_left
    · (intro w hSw; (try dsimp only at hSw); go_simp; try with_reducible rfl)
    simp only [Act.put, List.getElem_toArray, List.getElem_cons_succ, List.getElem_cons_zero, List.setIfInBounds_toArray, List.set_cons_zero, List.set_cons_succ]
    refine till_in (i := 22) (by kernel_rfl) rfl (fun K hK => ?_)
    go_simp
    refine (unhide N1 _ (unhide S0 |>.later HW)).mono ?_
    rintro e w9 ⟨rfl, hb9⟩
    replace HW := Below.step HW hb9
    clear hb9
    refine hK.out _ _ ?_ (fun hHeld => ?_)
    · exact ⟨(BN.later HW).facts.1, (BN.later HW).facts.2.1⟩
    clear hK K
    try simp only [Act.put, List.getElem_toArray, List.getElem_cons_succ, List.getElem_cons_zero, List.setIfInBounds_toArray, List.set_cons_zero, List.set_cons_succ]
    refine till_take (i := 23) (v := ?_) [24, 25, 26, 27, 28, 29, 30, 31, 32, 33, 34, 35, 36, 37, 38] rfl (by kernel_rfl) (by kernel_rfl) (by kernel_rfl) (by kernel_rfl) (fun _ _ _ h => h) (Or.inl ⟨by rfl, ?_⟩) (by assumption) ?_
    rotate_left
    · (intro w hSw; (try dsimp only at hSw); go_simp; try with_reducible rfl)
    simp only [Act.put, List.getElem_toArray, List.getElem_cons_succ, List.getElem_cons_zero, List.setIfInBounds_toArray, List.set_cons_zero, List.set_cons_succ]
    refine till_take (i := 24) (v := ?_) [25, 26, 27, 28, 29, 30, 31, 32, 33, 34, 35, 36, 37, 38] rfl (by kernel_rfl) (by kernel_rfl) (by kernel_rfl) (by kernel_rfl) (fun _ _ _ h => h) (Or.inl ⟨by rfl, ?_⟩) (by assumption) ?_
    rotate_left
    · (intro w hSw; (try dsimp only at hSw); go_simp; try with_reducible rfl)
    simp only [Act.put, List.getElem_toArray, List.getElem_cons_succ, List.getElem_cons_zero, List.setIfInBounds_toArray, List.set_cons_zero, List.set_cons_succ]
    refine till_take (i := 25) (v := ?_) [26, 27, 28, 29, 30, 31, 32, 33, 34, 35, 36, 37, 38] rfl (by kernel_rfl) (by kernel_rfl) (by kernel_rfl) (by kernel_rfl) (fun _ _ _ h => h) (Or.inl ⟨by rfl, ?_⟩) (by assumption) ?_
    rotate_left
    · (intro w hSw; (try dsimp only at hSw); go_simp; try with_reducible rfl)
    simp only [Act.put, List.getElem_toArray, List.getElem_cons_succ, List.getElem_cons_zero, List.setIfInBounds_toArray, List.set_cons_zero, List.set_cons_succ]
    refine till_take (i := 26) (v := ?_) [28, 29, 30, 32, 33, 34, 35, 36, 37, 38] rfl (by kernel_rfl) (by kernel_rfl) (by kernel_rfl) (by kernel_rfl) (fun _ _ _ h => h) (Or.inl ⟨by rfl, ?_⟩) (by assumption) ?_
    rotate_left
    · (intro w hSw; (try dsimp only at hSw); go_simp; try with_reducible rfl)
    simp only [Act.put, List.getElem_toArray, List.getElem_cons_succ, List.getElem_cons_zero, List.setIfInBounds_toArray, List.set_cons_zero, List.set_cons_succ]
    refine till_take (i := 27) (v := ?_) [28, 29, 30, 32, 33, 34, 35, 36, 37, 38] rfl (by kernel_rfl) (by kernel_rfl) (by kernel_rfl) (by kernel_rfl) (fun _ _ _ h => h) (Or.inl ⟨by rfl, ?_⟩) (by assumption) ?_
    rotate_left
    · (intro w hSw; (try dsimp only at hSw); go_simp; try with_reducible rfl)
    simp only [Act.put, List.getElem_toArray, List.getElem_cons_succ, List.getElem_cons_zero, List.setIfInBounds_toArray, List.set_cons_zero, List.set_cons_succ]
    refine till_take (i := 31) (v := ?_) [32, 33, 34, 35, 36, 37, 38] rfl (by kernel_rfl) (by kernel_rfl) (by kernel_rfl) (by kernel_rfl) (fun _ _ _ h => h) (Or.inl ⟨by rfl, ?_⟩) (by assumption) ?_
    rotate_left
    · (intro w hSw; (try dsimp only at hSw); go_simp; try with_reducible rfl)
    simp only [Act.put, List.getElem_toArray, List.getElem_cons_succ, List.getElem_cons_zero, List.setIfInBounds_toArray, List.set_cons_zero, List.set_cons_succ]
    refine till_in (i := 28) (by kernel_rfl) rfl (fun K hK => ?_)
    go_simp
    refine (vdotK _ _ _ zs0 kx _ _ _ zs0 kx _ ((unhide S0).later HW).vk ((unhide S0).later HW).vk (by omega) (by omega) (by omega) (by omega)).mono ?_
    rintro e w9 ⟨b3, a3, l3, c3, rfl, h3, hb9⟩
    replace HW := Below.step HW hb9
    clear hb9
    refine hK.out _ _ ?_ (fun hHeld => ?_)
    · exact ⟨(BN.later HW).facts.1, (BN.later HW).facts.2.1⟩
    clear hK K
    try simp only [Act.put, List.getElem_toArray, List.getElem_cons_succ, List.getElem_cons_zero, List.setIfInBounds_toArray, List.set_cons_zero, List.set_cons_succ]
    refine till_in (i := 29) (by kernel_rfl) rfl (fun K hK => ?_)
    go_simp
    refine (rsignK _ _ _ _ (vdot zs0 zs0) (kx + kx + len0) s3 _ (h3.ik (by omega)) (unhide E3)).mono ?_
    rintro e w9 ⟨rfl, hb9⟩
    replace HW := Below.step HW hb9
    clear hb9
    clear h3
    refine hK.out _ _ ?_ (fun hHeld => ?_)
    · exact ⟨(BN.later HW).facts.1, (BN.later HW).facts.2.1⟩
    clear hK K
    try simp only [Act.put, List.getElem_toArray, List.getElem_cons_succ, List.getElem_cons_zero, List.setIfInBounds_toArray, List.set_cons_zero, List.set_cons_succ]
    refine till_take (i := 30) (v := ?_) [33, 34, 35, 36, 37, 38] rfl (by kernel_rfl) (by kernel_rfl) (by kernel_rfl) (by kernel_rfl) (fun _ _ _ h => h) (Or.inl ⟨by rfl, ?_⟩) (by assumption) ?_
    rotate_left
    · (intro w hSw; (try dsimp only at hSw); go_simp; try with_reducible rfl)
    simp only [Act.put, List.getElem_toArray, List.getElem_cons_succ, List.getElem_cons_zero, List.setIfInBounds_toArray, List.set_cons_zero, List.set_cons_succ]
    refine till_in (i := 32) (by kernel_rfl) rfl (fun K hK => ?_)
    go_simp
    refine (unhide N1 _ (unhide S0 |>.later HW)).mono ?_
    rintro e w9 ⟨rfl, hb9⟩
    replace HW := Below.step HW hb9
    clear hb9
    refine hK.out _ _ ?_ (fun hHeld => ?_)
    · exact ⟨(BN.later HW).facts.1, (BN.later HW).facts.2.1⟩
    clear hK K
    try simp only [Act.put, List.getElem_toArray, List.getElem_cons_succ, List.getElem_cons_zero, List.setIfInBounds_toArray, List.set_cons_zero, List.set_cons_succ]
    refine till_take (i := 33) (v := ?_) [34, 35, 36, 37, 38] rfl (by kernel_rfl) (by kernel_rfl) (by kernel_rfl) (by kernel_rfl) (fun _ _ _ h => h) (Or.inl ⟨by rfl, ?_⟩) (by assumption) ?_
    rotate_left
    · (intro w hSw; (try dsimp only at hSw); go_simp; try with_reducible rfl)
    simp only [Act.put, List.getElem_toArray, List.getElem_cons_succ, List.getElem_cons_zero, List.setIfInBounds_toArray, List.set_cons_zero, List.set_cons_succ]
    refine till_take (i := 34) (v := ?_) [35, 36, 37, 38] rfl (by kernel_rfl) (by kernel_rfl) (by kernel_rfl) (by kernel_rfl) (fun _ _ _ h => h) (Or.inl ⟨by rfl, ?_⟩) (by assumption) ?_
    rotate_left
    · (intro w hSw; (try dsimp only at hSw); go_simp; try with_reducible rfl)
    simp only [Act.put, List.getElem_toArray, List.getElem_cons_succ, List.getElem_cons_zero, List.setIfInBounds_toArray, List.set_cons_zero, List.set_cons_succ]
    refine till_take (i := 35) (v := ?_) [36, 37, 38] rfl (by kernel_rfl) (by kernel_rfl) (by kernel_rfl) (by kernel_rfl) (fun _ _ _ h => h) (Or.inl ⟨by rfl, ?_⟩) (by assumption) ?_
    rotate_left
    · (intro w hSw; (try dsimp only at hSw); go_simp; try with_reducible rfl)
    simp only [Act.put, List.getElem_toArray, List.getElem_cons_succ, List.getElem_cons_zero, List.setIfInBounds_toArray, List.set_cons_zero, List.set_cons_succ]
    refine till_in (i := 36) (by kernel_rfl) rfl (fun K hK => ?_)
    go_simp
    refine (awake7_any _).mono ?_
    rintro e w9 ⟨rfl, hb9⟩
    replace HW := Below.step HW hb9
    clear hb9
    refine hK.out _ _ ?_ (fun hHeld => ?_)
    · exact ⟨(BN.later HW).facts.1, (BN.later HW).facts.2.1⟩
    clear hK K
    try simp only [Act.put, List.getElem_toArray, List.getElem_cons_succ, List.getElem_cons_zero, List.setIfInBounds_toArray, List.set_cons_zero, List.set_cons_succ]
    refine till_take (i := 37) (v := ?_) [38] rfl (by kernel_rfl) (by kernel_rfl) (by kernel_rfl) (by kernel_rfl) (fun _ _ _ h => h) (Or.inl ⟨by rfl, ?_⟩) (by assumption) ?_
    rotate_left
    · (intro w hSw; (try dsimp only at hSw); go_simp; try with_reducible rfl)
    simp only [Act.put, List.getElem_toArray, List.getElem_cons_succ, List.getElem_cons_zero, List.setIfInBounds_toArray, List.set_cons_zero, List.set_cons_succ]
    refine till_out (i := 38) (by kernel_rfl) rfl (by kernel_rfl) (fun K hK => ?_)
    go_simp
    refine hK.out _ _ ?_
    clear hK K
    try simp only [Act.put, List.getElem_toArray, List.getElem_cons_succ, List.getElem_cons_zero, List.setIfInBounds_toArray, List.set_cons_zero, List.set_cons_succ]
    refine till_done (by kernel_rfl) ?_ _
    go_wp2
    go_ret
    exact ⟨rfl, Below.step (unhide HB) HW⟩
  · have hf' : q = 1 := by omega
    subst hf'
    clear hq01 hq hf hbR hb1
    go_wp2_with fail
    refine (awake7_any _).mono ?_
    rintro e w2 ⟨rfl, hb2⟩
    go_wp2
    go_ret
    exact ⟨rfl, Below.step (unhide HB) hb2⟩
#print axioms vecNorms_walk
end Go.Proofs.Ytdbimajopclndaa
