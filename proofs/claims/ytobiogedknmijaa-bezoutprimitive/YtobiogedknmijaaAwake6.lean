/-
  What awake of the sixth stage tells: true.
-/
import Derived.Test.YtobiogedknmijaaBExt
namespace Go.Proofs.Ytobiogedknmijaa
open Go.RowKit Lb

theorem extR_awake : extR 12 1 0 (-18) 0 1 = (-6, 1, 1) := by
  rw [extR_more (by decide), extR_more (by decide), extR_more (by decide)]
  exact extR_zero (-6) 1 1 3 2
theorem ext_awake : extG 12 (-18) = 6 ∧ extX 12 (-18) = -1 ∧ extY 12 (-18) = -1 := by
  unfold extG extX extY
  rw [extR_awake]
  decide
theorem lcm_awake : ((((4 : Int).tdiv (Int.gcd 4 (-6) : Int) * (-6)).natAbs : Nat) : Int) = 12 := by decide

set_option maxRecDepth 20000 in
set_option maxHeartbeats 4000000 in
theorem awake6_any (w : World) : Calls Try.prog 9 #[] w fun e w' => e = .returned (.bool true) ∧ Below w.heap.size w w' := by
  have HB := hide (Below.refl w.heap.size w)
  go_enter Try.func9, Try.ntmps9
  go_wp2_with fail
  refine (rofK 12 _ (by omega) (by omega)).mono ?_
  rintro e v1 ⟨b1, a1, l1, c1, rfl, h1, hb9⟩
  replace HB := hide (Below.step (unhide HB) hb9)
  clear hb9
  go_wp2_with fail
  refine (rofK (-18) _ (by omega) (by omega)).mono ?_
  rintro e v2 ⟨b2, a2, l2, c2, rfl, h2, hb9⟩
  replace h1 := h1.later hb9
  replace HB := hide (Below.step (unhide HB) hb9)
  clear hb9
  go_wp2_with fail
  refine (extK b1 a1 l1 c1 12 2 b2 a2 l2 c2 (-18) 2 _ (h1.ik (by omega)) (h2.ik (by omega)) (by omega) (by omega)).mono ?_
  rintro e v3 ⟨b3, a3, l3, c3, b4, a4, l4, c4, b5, a5, l5, c5, rfl, h3, h4, h5, hb9⟩
  replace h1 := h1.later hb9
  replace h2 := h2.later hb9
  replace HB := hide (Below.step (unhide HB) hb9)
  clear hb9
  clear h1 h2
  replace h3 := h3.eq ext_awake.1
  replace h4 := h4.eq ext_awake.2.1
  replace h5 := h5.eq ext_awake.2.2
  go_upto_region 2 with fail
  obtain ⟨v4, hWe⟩ : ∃ W', W' = (((v3.alloc (.cells #[.bool b3, .slice a3 l3 c3] 24)).alloc (.cells #[.bool b4, .slice a4 l4 c4] 24)).alloc (.cells #[.bool b5, .slice a5 l5 c5] 24)) := ⟨_, rfl⟩
  obtain ⟨B3, B4, B5, hb9⟩ := boxes3 v3 b3 a3 l3 c3 b4 a4 l4 c4 b5 a5 l5 c5 hWe
  rw [← hWe]
  clear hWe
  replace h3 := h3.later hb9
  replace h4 := h4.later hb9
  replace h5 := h5.later hb9
  replace HB := hide (Below.step (unhide HB) hb9)
  clear hb9
  have HW : Below v4.heap.size v4 v4.drew := (Below.refl _ _).drew
  refine till_start (fun w' => w'.cell? ⟨v3.heap.size, 0, none⟩ = some (.bool b3) ∧ w'.cell? ⟨v3.heap.size, 1, none⟩ = some (.slice a3 l3 c3) ∧ w'.cell? ⟨v3.heap.size + 1, 0, none⟩ = some (.bool b4) ∧ w'.cell? ⟨v3.heap.size + 1, 1, none⟩ = some (.slice a4 l4 c4) ∧ w'.cell? ⟨v3.heap.size + 2, 0, none⟩ = some (.bool b5) ∧ w'.cell? ⟨v3.heap.size + 2, 1, none⟩ = some (.slice a5 l5 c5)) 20 (by kernel_rfl) ?_ (fun hHeld => ?_)
  · exact ⟨(B3.later HW).facts.1, (B3.later HW).facts.2.1, (B4.later HW).facts.1, (B4.later HW).facts.2.1, (B5.later HW).facts.1, (B5.later HW).facts.2.1⟩
  refine till_take (i := 0) (v := ?_) [2, 3, 4, 5, 6, 7, 8, 9, 10, 11, 12, 13, 14, 15, 16, 17, 18, 19, 20] rfl (by kernel_rfl) (by kernel_rfl) (by kernel_rfl) (by kernel_rfl) (fun _ _ _ h => h) (Or.inl ⟨by rfl, ?_⟩) (by assumption) ?_
  rotate_left
  · (intro w hSw; (try dsimp only at hSw); go_simp; try with_reducible rfl)
  simp only [Act.put, List.getElem_toArray, List.getElem_cons_zero, List.setIfInBounds_toArray, List.set_cons_zero, List.set_cons_succ]
  refine till_in (i := 1) (by kernel_rfl) rfl (fun K hK => ?_)
  go_simp
  refine (rofK 6 _ (by omega) (by omega)).mono ?_
  rintro e v5 ⟨b6, a6, l6, c6, rfl, h6, hb9⟩
  replace HW := Below.step HW hb9
  clear hb9
  refine hK.out _ _ ?_ (fun hHeld => ?_)
  · exact ⟨(B3.later HW).facts.1, (B3.later HW).facts.2.1, (B4.later HW).facts.1, (B4.later HW).facts.2.1, (B5.later HW).facts.1, (B5.later HW).facts.2.1⟩
  clear hK K
  try simp only [Act.put, List.getElem_toArray, List.getElem_cons_succ, List.getElem_cons_zero, List.setIfInBounds_toArray, List.set_cons_zero, List.set_cons_succ]
  refine till_in (i := 2) (by kernel_rfl) rfl (fun K hK => ?_)
  go_simp
  refine (rsameK b3 a3 l3 c3 6 (max 2 2 + 1) b6 a6 l6 c6 6 2 _ (h3.later HW) h6 rfl).mono ?_
  rintro e v6 ⟨rfl, hb9⟩
  replace HW := Below.step HW hb9
  replace h6 := h6.later hb9
  clear hb9 h6
  refine hK.out _ _ ?_ (fun hHeld => ?_)
  · exact ⟨(B3.later HW).facts.1, (B3.later HW).facts.2.1, (B4.later HW).facts.1, (B4.later HW).facts.2.1, (B5.later HW).facts.1, (B5.later HW).facts.2.1⟩
  clear hK K
  try simp only [Act.put, List.getElem_toArray, List.getElem_cons_succ, List.getElem_cons_zero, List.setIfInBounds_toArray, List.set_cons_zero, List.set_cons_succ]
  refine till_take (i := 3) (v := ?_) [4, 5, 6, 7, 8, 9, 10, 11, 12, 13, 14, 15, 16, 17, 18, 19, 20] rfl (by kernel_rfl) (by kernel_rfl) (by kernel_rfl) (by kernel_rfl) (fun _ _ _ h => h) (Or.inl ⟨by rfl, ?_⟩) (by assumption) ?_
  rotate_left
  · (intro w hSw; (try dsimp only at hSw); go_simp; try with_reducible rfl)
  simp only [Act.put, List.getElem_toArray, List.getElem_cons_succ, List.getElem_cons_zero, List.setIfInBounds_toArray, List.set_cons_zero, List.set_cons_succ]
  refine till_take (i := 4) (v := ?_) [6, 7, 8, 9, 10, 11, 12, 13, 14, 15, 16, 17, 18, 19, 20] rfl (by kernel_rfl) (by kernel_rfl) (by kernel_rfl) (by kernel_rfl) (fun _ _ _ h => h) (Or.inl ⟨by rfl, ?_⟩) (by assumption) ?_
  rotate_left
  · (intro w hSw; (try dsimp only at hSw); go_simp; try with_reducible rfl)
  simp only [Act.put, List.getElem_toArray, List.getElem_cons_succ, List.getElem_cons_zero, List.setIfInBounds_toArray, List.set_cons_zero, List.set_cons_succ]
  refine till_in (i := 5) (by kernel_rfl) rfl (fun K hK => ?_)
  go_simp
  refine (rofK (-1) _ (by omega) (by omega)).mono ?_
  rintro e v7 ⟨b7, a7, l7, c7, rfl, h7, hb9⟩
  replace HW := Below.step HW hb9
  clear hb9
  refine hK.out _ _ ?_ (fun hHeld => ?_)
  · exact ⟨(B3.later HW).facts.1, (B3.later HW).facts.2.1, (B4.later HW).facts.1, (B4.later HW).facts.2.1, (B5.later HW).facts.1, (B5.later HW).facts.2.1⟩
  clear hK K
  try simp only [Act.put, List.getElem_toArray, List.getElem_cons_succ, List.getElem_cons_zero, List.setIfInBounds_toArray, List.set_cons_zero, List.set_cons_succ]
  refine till_in (i := 6) (by kernel_rfl) rfl (fun K hK => ?_)
  go_simp
  refine (rsameK b4 a4 l4 c4 (-1) (max 2 2 + 1) b7 a7 l7 c7 (-1) 2 _ (h4.later HW) h7 rfl).mono ?_
  rintro e v8 ⟨rfl, hb9⟩
  replace HW := Below.step HW hb9
  replace h7 := h7.later hb9
  clear hb9 h7
  refine hK.out _ _ ?_ (fun hHeld => ?_)
  · exact ⟨(B3.later HW).facts.1, (B3.later HW).facts.2.1, (B4.later HW).facts.1, (B4.later HW).facts.2.1, (B5.later HW).facts.1, (B5.later HW).facts.2.1⟩
  clear hK K
  try simp only [Act.put, List.getElem_toArray, List.getElem_cons_succ, List.getElem_cons_zero, List.setIfInBounds_toArray, List.set_cons_zero, List.set_cons_succ]
  refine till_take (i := 7) (v := ?_) [8, 9, 10, 11, 12, 13, 14, 15, 16, 17, 18, 19, 20] rfl (by kernel_rfl) (by kernel_rfl) (by kernel_rfl) (by kernel_rfl) (fun _ _ _ h => h) (Or.inl ⟨by rfl, ?_⟩) (by assumption) ?_
  rotate_left
  · (intro w hSw; (try dsimp only at hSw); go_simp; try with_reducible rfl)
  simp only [Act.put, List.getElem_toArray, List.getElem_cons_succ, List.getElem_cons_zero, List.setIfInBounds_toArray, List.set_cons_zero, List.set_cons_succ]
  refine till_take (i := 8) (v := ?_) [9, 10, 11, 12, 13, 14, 15, 16, 17, 18, 19, 20] rfl (by kernel_rfl) (by kernel_rfl) (by kernel_rfl) (by kernel_rfl) (fun _ _ _ h => h) (Or.inl ⟨by rfl, ?_⟩) (by assumption) ?_
  rotate_left
  · (intro w hSw; (try dsimp only at hSw); go_simp; try with_reducible rfl)
  simp only [Act.put, List.getElem_toArray, List.getElem_cons_succ, List.getElem_cons_zero, List.setIfInBounds_toArray, List.set_cons_zero, List.set_cons_succ]
  refine till_take (i := 9) (v := ?_) [11, 12, 13, 14, 15, 16, 17, 18, 19, 20] rfl (by kernel_rfl) (by kernel_rfl) (by kernel_rfl) (by kernel_rfl) (fun _ _ _ h => h) (Or.inl ⟨by rfl, ?_⟩) (by assumption) ?_
  rotate_left
  · (intro w hSw; (try dsimp only at hSw); go_simp; try with_reducible rfl)
  simp only [Act.put, List.getElem_toArray, List.getElem_cons_succ, List.getElem_cons_zero, List.setIfInBounds_toArray, List.set_cons_zero, List.set_cons_succ]
  refine till_in (i := 10) (by kernel_rfl) rfl (fun K hK => ?_)
  go_simp
  refine (rofK (-1) _ (by omega) (by omega)).mono ?_
  rintro e v9 ⟨b8, a8, l8, c8, rfl, h8, hb9⟩
  replace HW := Below.step HW hb9
  clear hb9
  refine hK.out _ _ ?_ (fun hHeld => ?_)
  · exact ⟨(B3.later HW).facts.1, (B3.later HW).facts.2.1, (B4.later HW).facts.1, (B4.later HW).facts.2.1, (B5.later HW).facts.1, (B5.later HW).facts.2.1⟩
  clear hK K
  try simp only [Act.put, List.getElem_toArray, List.getElem_cons_succ, List.getElem_cons_zero, List.setIfInBounds_toArray, List.set_cons_zero, List.set_cons_succ]
  refine till_in (i := 11) (by kernel_rfl) rfl (fun K hK => ?_)
  go_simp
  refine (rsameK b5 a5 l5 c5 (-1) (max 2 2 + 1) b8 a8 l8 c8 (-1) 2 _ (h5.later HW) h8 rfl).mono ?_
  rintro e v10 ⟨rfl, hb9⟩
  replace HW := Below.step HW hb9
  replace h8 := h8.later hb9
  clear hb9 h8
  refine hK.out _ _ ?_ (fun hHeld => ?_)
  · exact ⟨(B3.later HW).facts.1, (B3.later HW).facts.2.1, (B4.later HW).facts.1, (B4.later HW).facts.2.1, (B5.later HW).facts.1, (B5.later HW).facts.2.1⟩
  clear hK K
  try simp only [Act.put, List.getElem_toArray, List.getElem_cons_succ, List.getElem_cons_zero, List.setIfInBounds_toArray, List.set_cons_zero, List.set_cons_succ]
  refine till_take (i := 12) (v := ?_) [13, 14, 15, 16, 17, 18, 19, 20] rfl (by kernel_rfl) (by kernel_rfl) (by kernel_rfl) (by kernel_rfl) (fun _ _ _ h => h) (Or.inl ⟨by rfl, ?_⟩) (by assumption) ?_
  rotate_left
  · (intro w hSw; (try dsimp only at hSw); go_simp; try with_reducible rfl)
  simp only [Act.put, List.getElem_toArray, List.getElem_cons_succ, List.getElem_cons_zero, List.setIfInBounds_toArray, List.set_cons_zero, List.set_cons_succ]
  refine till_take (i := 13) (v := ?_) [14, 15, 16, 17, 18, 19, 20] rfl (by kernel_rfl) (by kernel_rfl) (by kernel_rfl) (by kernel_rfl) (fun _ _ _ h => h) (Or.inl ⟨by rfl, ?_⟩) (by assumption) ?_
  rotate_left
  · (intro w hSw; (try dsimp only at hSw); go_simp; try with_reducible rfl)
  simp only [Act.put, List.getElem_toArray, List.getElem_cons_succ, List.getElem_cons_zero, List.setIfInBounds_toArray, List.set_cons_zero, List.set_cons_succ]
  refine till_in (i := 14) (by kernel_rfl) rfl (fun K hK => ?_)
  go_simp
  refine (rofK 4 _ (by omega) (by omega)).mono ?_
  rintro e v11 ⟨b9, a9, l9, c9, rfl, h9, hb9⟩
  replace HW := Below.step HW hb9
  clear hb9
  refine hK.out _ _ ?_ (fun hHeld => ?_)
  · exact ⟨(B3.later HW).facts.1, (B3.later HW).facts.2.1, (B4.later HW).facts.1, (B4.later HW).facts.2.1, (B5.later HW).facts.1, (B5.later HW).facts.2.1⟩
  clear hK K
  try simp only [Act.put, List.getElem_toArray, List.getElem_cons_succ, List.getElem_cons_zero, List.setIfInBounds_toArray, List.set_cons_zero, List.set_cons_succ]
  refine till_in (i := 15) (by kernel_rfl) rfl (fun K hK => ?_)
  go_simp
  refine (rofK (-6) _ (by omega) (by omega)).mono ?_
  rintro e v12 ⟨b10, a10, l10, c10, rfl, h10, hb9⟩
  replace HW := Below.step HW hb9
  replace h9 := h9.later hb9
  clear hb9
  refine hK.out _ _ ?_ (fun hHeld => ?_)
  · exact ⟨(B3.later HW).facts.1, (B3.later HW).facts.2.1, (B4.later HW).facts.1, (B4.later HW).facts.2.1, (B5.later HW).facts.1, (B5.later HW).facts.2.1⟩
  clear hK K
  try simp only [Act.put, List.getElem_toArray, List.getElem_cons_succ, List.getElem_cons_zero, List.setIfInBounds_toArray, List.set_cons_zero, List.set_cons_succ]
  refine till_in (i := 16) (by kernel_rfl) rfl (fun K hK => ?_)
  go_simp
  refine (lcmK b9 a9 l9 c9 4 2 b10 a10 l10 c10 (-6) 2 _ (h9.ik (by omega)) (h10.ik (by omega)) (by omega) (by omega)).mono ?_
  rintro e v13 ⟨b11, a11, l11, c11, rfl, h11, hb9⟩
  replace HW := Below.step HW hb9
  replace h9 := h9.later hb9
  replace h10 := h10.later hb9
  clear hb9 h9 h10
  replace h11 := h11.eq lcm_awake
  refine hK.out _ _ ?_ (fun hHeld => ?_)
  · exact ⟨(B3.later HW).facts.1, (B3.later HW).facts.2.1, (B4.later HW).facts.1, (B4.later HW).facts.2.1, (B5.later HW).facts.1, (B5.later HW).facts.2.1⟩
  clear hK K
  try simp only [Act.put, List.getElem_toArray, List.getElem_cons_succ, List.getElem_cons_zero, List.setIfInBounds_toArray, List.set_cons_zero, List.set_cons_succ]
  refine till_in (i := 17) (by kernel_rfl) rfl (fun K hK => ?_)
  go_simp
  refine (rofK 12 _ (by omega) (by omega)).mono ?_
  rintro e v14 ⟨b12, a12, l12, c12, rfl, h12, hb9⟩
  replace HW := Below.step HW hb9
  replace h11 := h11.later hb9
  clear hb9
  refine hK.out _ _ ?_ (fun hHeld => ?_)
  · exact ⟨(B3.later HW).facts.1, (B3.later HW).facts.2.1, (B4.later HW).facts.1, (B4.later HW).facts.2.1, (B5.later HW).facts.1, (B5.later HW).facts.2.1⟩
  clear hK K
  try simp only [Act.put, List.getElem_toArray, List.getElem_cons_succ, List.getElem_cons_zero, List.setIfInBounds_toArray, List.set_cons_zero, List.set_cons_succ]
  refine till_in (i := 18) (by kernel_rfl) rfl (fun K hK => ?_)
  go_simp
  refine (rsameK b11 a11 l11 c11 12 (2 + 2) b12 a12 l12 c12 12 2 _ h11 h12 rfl).mono ?_
  rintro e v15 ⟨rfl, hb9⟩
  replace HW := Below.step HW hb9
  replace h11 := h11.later hb9
  replace h12 := h12.later hb9
  clear hb9 h11 h12
  refine hK.out _ _ ?_ (fun hHeld => ?_)
  · exact ⟨(B3.later HW).facts.1, (B3.later HW).facts.2.1, (B4.later HW).facts.1, (B4.later HW).facts.2.1, (B5.later HW).facts.1, (B5.later HW).facts.2.1⟩
  clear hK K
  try simp only [Act.put, List.getElem_toArray, List.getElem_cons_succ, List.getElem_cons_zero, List.setIfInBounds_toArray, List.set_cons_zero, List.set_cons_succ]
  refine till_take (i := 19) (v := ?_) [20] rfl (by kernel_rfl) (by kernel_rfl) (by kernel_rfl) (by kernel_rfl) (fun _ _ _ h => h) (Or.inl ⟨by rfl, ?_⟩) (by assumption) ?_
  rotate_left
  · (intro w hSw; (try dsimp only at hSw); go_simp; try with_reducible rfl)
  simp only [Act.put, List.getElem_toArray, List.getElem_cons_succ, List.getElem_cons_zero, List.setIfInBounds_toArray, List.set_cons_zero, List.set_cons_succ]
  refine till_out (i := 20) (by kernel_rfl) rfl (by kernel_rfl) (fun K hK => ?_)
  go_simp
  refine hK.out _ _ ?_
  clear hK K
  try simp only [Act.put, List.getElem_toArray, List.getElem_cons_succ, List.getElem_cons_zero, List.setIfInBounds_toArray, List.set_cons_zero, List.set_cons_succ]
  refine till_done (by kernel_rfl) ?_ _
  go_wp2
  go_ret
  exact ⟨rfl, Below.step (unhide HB) HW⟩

#print axioms awake6_any
end Go.Proofs.Ytobiogedknmijaa
