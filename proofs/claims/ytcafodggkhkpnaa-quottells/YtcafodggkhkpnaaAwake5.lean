/-
  What awake of the fifth stage tells: true.
-/
import Derived.Test.YtcafodggkhkpnaaQNear
import Derived.Test.YtcafodggkhkpnaaQTxt
namespace Go.Proofs.Ytcafodggkhkpnaa
open Go.RowKit Lb

theorem boxes1 (w : World) (b0 : Bool) (a0 : Option Addr) (l0 c0 : Nat) {W : World} (hW : W = (w.alloc (.cells #[.bool b0, .slice a0 l0 c0] 24))) : Box W w.heap.size b0 a0 l0 c0 ∧ Below w.heap.size w W := by
  subst hW
  exact ⟨(box_new w b0 a0 l0 c0 rfl), ((Below.refl _ _).alloc (Nat.le_refl _) (.cells #[.bool b0, .slice a0 l0 c0] 24))⟩

theorem isTxt4 : IsTxt { data := #[45, 52] } (-4) := ⟨1, ⟨by decide, by decide, Or.inl rfl⟩, by decide⟩
theorem text4 (b : Bool) (aa : Option Addr) (la ca : Nat) (w : World) (h : FK w b aa la ca (-4) 2) : Calls Try.prog 22 #[.agg #[.bool b, .slice aa la ca]] w fun e w' => e = .returned (.string { data := #[45, 52] }) ∧ Below w.heap.size w w' := by
  refine (qtext_any _ _ _ _ (-4) _ h.1.int (Nat.le_trans (h.1.len_le h.2) (by omega))).mono ?_
  rintro e w' ⟨s, rfl, hs, hb⟩
  rw [isTxt_inj hs isTxt4]
  exact ⟨rfl, hb⟩

set_option maxRecDepth 20000 in
set_option maxHeartbeats 2000000 in
theorem awake5_any (w : World) : Calls Try.prog 9 #[] w fun e w' => e = .returned (.bool true) ∧ Below w.heap.size w w' := by
  have HB := hide (Below.refl w.heap.size w)
  go_enter Try.func9, Try.ntmps9
  go_wp2_with fail
  refine (rofK (-7) _ (by omega) (by omega)).mono ?_
  rintro e v1 ⟨b1, a1, l1, c1, rfl, h1, hb9⟩
  replace HB := hide (Below.step (unhide HB) hb9)
  clear hb9
  go_wp2_with fail
  refine (rofK 2 _ (by omega) (by omega)).mono ?_
  rintro e v2 ⟨b2, a2, l2, c2, rfl, h2, hb9⟩
  replace h1 := h1.later hb9
  replace HB := hide (Below.step (unhide HB) hb9)
  clear hb9
  go_wp2_with fail
  refine (divK b1 a1 l1 c1 (-7) 2 b2 a2 l2 c2 2 2 _ (h1.ik (by omega)) (h2.ik (by omega)) (by omega) (by omega) (by omega)).mono ?_
  rintro e v3 ⟨b3, a3, l3, c3, b4, a4, l4, c4, rfl, h3, h4, hb9⟩
  replace h1 := h1.later hb9
  replace h2 := h2.later hb9
  replace HB := hide (Below.step (unhide HB) hb9)
  clear hb9
  clear h1 h2
  replace h3 := h3.eq (show (-7 : Int) / 2 = -4 by decide)
  replace h4 := h4.eq (show (-7 : Int) % 2 = 1 by decide)
  go_wp2_with fail
  obtain ⟨v4, hWe⟩ : ∃ W', W' = ((v3.alloc (.cells #[.bool b3, .slice a3 l3 c3] 24)).alloc (.cells #[.bool b4, .slice a4 l4 c4] 24)) := ⟨_, rfl⟩
  obtain ⟨B3, B4, hb9⟩ := boxes2 v3 b3 a3 l3 c3 b4 a4 l4 c4 hWe
  rw [← hWe]
  clear hWe
  replace h3 := h3.later hb9
  replace h4 := h4.later hb9
  replace HB := hide (Below.step (unhide HB) hb9)
  clear hb9
  refine (rofK (-7) _ (by omega) (by omega)).mono ?_
  rintro e v21 ⟨b1, a1, l1, c1, rfl, h1, hb9⟩
  replace h3 := h3.later hb9
  replace h4 := h4.later hb9
  replace B3 := B3.later hb9
  replace B4 := B4.later hb9
  replace HB := hide (Below.step (unhide HB) hb9)
  clear hb9
  go_wp2_with fail
  refine (rofK 2 _ (by omega) (by omega)).mono ?_
  rintro e v22 ⟨b2, a2, l2, c2, rfl, h2, hb9⟩
  replace h3 := h3.later hb9
  replace h4 := h4.later hb9
  replace B3 := B3.later hb9
  replace B4 := B4.later hb9
  replace h1 := h1.later hb9
  replace HB := hide (Below.step (unhide HB) hb9)
  clear hb9
  go_wp2_with fail
  refine (nearK b1 a1 l1 c1 (-7) 2 b2 a2 l2 c2 2 2 _ (h1.ik (by omega)) (h2.ik (by omega)) (by omega) (by omega) (by omega)).mono ?_
  rintro e v23 ⟨b5, a5, l5, c5, rfl, h5, hb9⟩
  replace h3 := h3.later hb9
  replace h4 := h4.later hb9
  replace B3 := B3.later hb9
  replace B4 := B4.later hb9
  replace h1 := h1.later hb9
  replace h2 := h2.later hb9
  replace HB := hide (Below.step (unhide HB) hb9)
  clear hb9
  clear h1 h2
  replace h5 := h5.eq (show near (-7) 2 = -3 by decide)
  go_upto_region 3 with fail
  obtain ⟨v24, hWe⟩ : ∃ W', W' = (v23.alloc (.cells #[.bool b5, .slice a5 l5 c5] 24)) := ⟨_, rfl⟩
  obtain ⟨B5, hb9⟩ := boxes1 v23 b5 a5 l5 c5 hWe
  rw [← hWe]
  clear hWe
  replace h3 := h3.later hb9
  replace h4 := h4.later hb9
  replace B3 := B3.later hb9
  replace B4 := B4.later hb9
  replace h5 := h5.later hb9
  replace HB := hide (Below.step (unhide HB) hb9)
  clear hb9
  have HW : Below v24.heap.size v24 v24.drew := (Below.refl _ _).drew
  refine till_start (fun w' => w'.cell? ⟨v3.heap.size, 0, none⟩ = some (.bool b3) ∧ w'.cell? ⟨v3.heap.size, 1, none⟩ = some (.slice a3 l3 c3) ∧ w'.cell? ⟨v3.heap.size + 1, 0, none⟩ = some (.bool b4) ∧ w'.cell? ⟨v3.heap.size + 1, 1, none⟩ = some (.slice a4 l4 c4) ∧ w'.cell? ⟨v23.heap.size, 0, none⟩ = some (.bool b5) ∧ w'.cell? ⟨v23.heap.size, 1, none⟩ = some (.slice a5 l5 c5)) 24 (by kernel_rfl) ?_ (fun hHeld => ?_)
  · exact ⟨(B3.later HW).facts.1, (B3.later HW).facts.2.1, (B4.later HW).facts.1, (B4.later HW).facts.2.1, (B5.later HW).facts.1, (B5.later HW).facts.2.1⟩
  refine till_take (i := 0) (v := ?_) [2, 3, 4, 5, 6, 7, 8, 9, 10, 11, 12, 13, 14, 15, 16, 17, 18, 19, 20, 21, 22, 23, 24] rfl (by kernel_rfl) (by kernel_rfl) (by kernel_rfl) (by kernel_rfl) (fun _ _ _ h => h) (Or.inl ⟨by rfl, ?_⟩) (by assumption) ?_
  rotate_left
  · (intro w hSw; (try dsimp only at hSw); go_simp; try with_reducible rfl)
  simp only [Act.put, List.getElem_toArray, List.getElem_cons_zero, List.setIfInBounds_toArray, List.set_cons_zero, List.set_cons_succ]
  refine till_in (i := 1) (by kernel_rfl) rfl (fun K hK => ?_)
  go_simp
  refine (rofK (-4) _ (by omega) (by omega)).mono ?_
  rintro e w9 ⟨b6, a6, l6, c6, rfl, h6, hb9⟩
  replace HW := Below.step HW hb9
  clear hb9
  refine hK.out _ _ ?_ (fun hHeld => ?_)
  · exact ⟨(B3.later HW).facts.1, (B3.later HW).facts.2.1, (B4.later HW).facts.1, (B4.later HW).facts.2.1, (B5.later HW).facts.1, (B5.later HW).facts.2.1⟩
  clear hK K
  try simp only [Act.put, List.getElem_toArray, List.getElem_cons_succ, List.getElem_cons_zero, List.setIfInBounds_toArray, List.set_cons_zero, List.set_cons_succ]
  refine till_in (i := 2) (by kernel_rfl) rfl (fun K hK => ?_)
  go_simp
  refine (rsameK b3 a3 l3 c3 (-4) 2 b6 a6 l6 c6 (-4) 2 _ (h3.later HW) h6 rfl).mono ?_
  rintro e w9 ⟨rfl, hb9⟩
  replace HW := Below.step HW hb9
  replace h6 := h6.later hb9
  clear hb9 h6
  refine hK.out _ _ ?_ (fun hHeld => ?_)
  · exact ⟨(B3.later HW).facts.1, (B3.later HW).facts.2.1, (B4.later HW).facts.1, (B4.later HW).facts.2.1, (B5.later HW).facts.1, (B5.later HW).facts.2.1⟩
  clear hK K
  try simp only [Act.put, List.getElem_toArray, List.getElem_cons_succ, List.getElem_cons_zero, List.setIfInBounds_toArray, List.set_cons_zero, List.set_cons_succ]
  refine till_take (i := 3) (v := ?_) [4, 5, 6, 7, 8, 9, 10, 11, 12, 13, 14, 15, 16, 17, 18, 19, 20, 21, 22, 23, 24] rfl (by kernel_rfl) (by kernel_rfl) (by kernel_rfl) (by kernel_rfl) (fun _ _ _ h => h) (Or.inl ⟨by rfl, ?_⟩) (by assumption) ?_
  rotate_left
  · (intro w hSw; (try dsimp only at hSw); go_simp; try with_reducible rfl)
  simp only [Act.put, List.getElem_toArray, List.getElem_cons_succ, List.getElem_cons_zero, List.setIfInBounds_toArray, List.set_cons_zero, List.set_cons_succ]
  refine till_take (i := 4) (v := ?_) [6, 7, 8, 9, 10, 11, 12, 13, 14, 15, 16, 17, 18, 19, 20, 21, 22, 23, 24] rfl (by kernel_rfl) (by kernel_rfl) (by kernel_rfl) (by kernel_rfl) (fun _ _ _ h => h) (Or.inl ⟨by rfl, ?_⟩) (by assumption) ?_
  rotate_left
  · (intro w hSw; (try dsimp only at hSw); go_simp; try with_reducible rfl)
  simp only [Act.put, List.getElem_toArray, List.getElem_cons_succ, List.getElem_cons_zero, List.setIfInBounds_toArray, List.set_cons_zero, List.set_cons_succ]
  refine till_in (i := 5) (by kernel_rfl) rfl (fun K hK => ?_)
  go_simp
  refine (rofK 1 _ (by omega) (by omega)).mono ?_
  rintro e w9 ⟨b7, a7, l7, c7, rfl, h7, hb9⟩
  replace HW := Below.step HW hb9
  clear hb9
  refine hK.out _ _ ?_ (fun hHeld => ?_)
  · exact ⟨(B3.later HW).facts.1, (B3.later HW).facts.2.1, (B4.later HW).facts.1, (B4.later HW).facts.2.1, (B5.later HW).facts.1, (B5.later HW).facts.2.1⟩
  clear hK K
  try simp only [Act.put, List.getElem_toArray, List.getElem_cons_succ, List.getElem_cons_zero, List.setIfInBounds_toArray, List.set_cons_zero, List.set_cons_succ]
  refine till_in (i := 6) (by kernel_rfl) rfl (fun K hK => ?_)
  go_simp
  refine (rsameK b4 a4 l4 c4 1 2 b7 a7 l7 c7 1 2 _ (h4.later HW) h7 rfl).mono ?_
  rintro e w9 ⟨rfl, hb9⟩
  replace HW := Below.step HW hb9
  replace h7 := h7.later hb9
  clear hb9 h7
  refine hK.out _ _ ?_ (fun hHeld => ?_)
  · exact ⟨(B3.later HW).facts.1, (B3.later HW).facts.2.1, (B4.later HW).facts.1, (B4.later HW).facts.2.1, (B5.later HW).facts.1, (B5.later HW).facts.2.1⟩
  clear hK K
  try simp only [Act.put, List.getElem_toArray, List.getElem_cons_succ, List.getElem_cons_zero, List.setIfInBounds_toArray, List.set_cons_zero, List.set_cons_succ]
  refine till_take (i := 7) (v := ?_) [8, 9, 10, 11, 12, 13, 14, 15, 16, 17, 18, 19, 20, 21, 22, 23, 24] rfl (by kernel_rfl) (by kernel_rfl) (by kernel_rfl) (by kernel_rfl) (fun _ _ _ h => h) (Or.inl ⟨by rfl, ?_⟩) (by assumption) ?_
  rotate_left
  · (intro w hSw; (try dsimp only at hSw); go_simp; try with_reducible rfl)
  simp only [Act.put, List.getElem_toArray, List.getElem_cons_succ, List.getElem_cons_zero, List.setIfInBounds_toArray, List.set_cons_zero, List.set_cons_succ]
  refine till_take (i := 8) (v := ?_) [9, 10, 11, 12, 13, 14, 15, 16, 17, 18, 19, 20, 21, 22, 23, 24] rfl (by kernel_rfl) (by kernel_rfl) (by kernel_rfl) (by kernel_rfl) (fun _ _ _ h => h) (Or.inl ⟨by rfl, ?_⟩) (by assumption) ?_
  rotate_left
  · (intro w hSw; (try dsimp only at hSw); go_simp; try with_reducible rfl)
  simp only [Act.put, List.getElem_toArray, List.getElem_cons_succ, List.getElem_cons_zero, List.setIfInBounds_toArray, List.set_cons_zero, List.set_cons_succ]
  refine till_take (i := 9) (v := ?_) [10, 11, 12, 13, 14, 15, 16, 17, 18, 19, 20, 21, 22, 23, 24] rfl (by kernel_rfl) (by kernel_rfl) (by kernel_rfl) (by kernel_rfl) (fun _ _ _ h => h) (Or.inl ⟨by rfl, ?_⟩) (by assumption) ?_
  rotate_left
  · (intro w hSw; (try dsimp only at hSw); go_simp; try with_reducible rfl)
  simp only [Act.put, List.getElem_toArray, List.getElem_cons_succ, List.getElem_cons_zero, List.setIfInBounds_toArray, List.set_cons_zero, List.set_cons_succ]
  refine till_take (i := 10) (v := ?_) [11, 12, 13, 14, 15, 16, 17, 18, 19, 20, 21, 22, 23, 24] rfl (by kernel_rfl) (by kernel_rfl) (by kernel_rfl) (by kernel_rfl) (fun _ _ _ h => h) (Or.inl ⟨by rfl, ?_⟩) (by assumption) ?_
  rotate_left
  · (intro w hSw; (try dsimp only at hSw); go_simp; try with_reducible rfl)
  simp only [Act.put, List.getElem_toArray, List.getElem_cons_succ, List.getElem_cons_zero, List.setIfInBounds_toArray, List.set_cons_zero, List.set_cons_succ]
  refine till_take (i := 11) (v := ?_) [12, 13, 14, 15, 16, 17, 18, 19, 20, 21, 22, 23, 24] rfl (by kernel_rfl) (by kernel_rfl) (by kernel_rfl) (by kernel_rfl) (fun _ _ _ h => h) (Or.inl ⟨by rfl, ?_⟩) (by assumption) ?_
  rotate_left
  · (intro w hSw; (try dsimp only at hSw); go_simp; try with_reducible rfl)
  simp only [Act.put, List.getElem_toArray, List.getElem_cons_succ, List.getElem_cons_zero, List.setIfInBounds_toArray, List.set_cons_zero, List.set_cons_succ]
  refine till_take (i := 12) (v := ?_) [14, 15, 16, 17, 18, 19, 20, 21, 22, 23, 24] rfl (by kernel_rfl) (by kernel_rfl) (by kernel_rfl) (by kernel_rfl) (fun _ _ _ h => h) (Or.inl ⟨by rfl, ?_⟩) (by assumption) ?_
  rotate_left
  · (intro w hSw; (try dsimp only at hSw); go_simp; try with_reducible rfl)
  simp only [Act.put, List.getElem_toArray, List.getElem_cons_succ, List.getElem_cons_zero, List.setIfInBounds_toArray, List.set_cons_zero, List.set_cons_succ]
  refine till_in (i := 13) (by kernel_rfl) rfl (fun K hK => ?_)
  go_simp
  refine (rofK (-3) _ (by omega) (by omega)).mono ?_
  rintro e w9 ⟨b8, a8, l8, c8, rfl, h8, hb9⟩
  replace HW := Below.step HW hb9
  clear hb9
  refine hK.out _ _ ?_ (fun hHeld => ?_)
  · exact ⟨(B3.later HW).facts.1, (B3.later HW).facts.2.1, (B4.later HW).facts.1, (B4.later HW).facts.2.1, (B5.later HW).facts.1, (B5.later HW).facts.2.1⟩
  clear hK K
  try simp only [Act.put, List.getElem_toArray, List.getElem_cons_succ, List.getElem_cons_zero, List.setIfInBounds_toArray, List.set_cons_zero, List.set_cons_succ]
  refine till_in (i := 14) (by kernel_rfl) rfl (fun K hK => ?_)
  go_simp
  refine (rsameK b5 a5 l5 c5 (-3) (max 2 2 + 1) b8 a8 l8 c8 (-3) 2 _ (h5.later HW) h8 rfl).mono ?_
  rintro e w9 ⟨rfl, hb9⟩
  replace HW := Below.step HW hb9
  replace h8 := h8.later hb9
  clear hb9 h8
  refine hK.out _ _ ?_ (fun hHeld => ?_)
  · exact ⟨(B3.later HW).facts.1, (B3.later HW).facts.2.1, (B4.later HW).facts.1, (B4.later HW).facts.2.1, (B5.later HW).facts.1, (B5.later HW).facts.2.1⟩
  clear hK K
  try simp only [Act.put, List.getElem_toArray, List.getElem_cons_succ, List.getElem_cons_zero, List.setIfInBounds_toArray, List.set_cons_zero, List.set_cons_succ]
  refine till_take (i := 15) (v := ?_) [16, 17, 18, 19, 20, 21, 22, 23, 24] rfl (by kernel_rfl) (by kernel_rfl) (by kernel_rfl) (by kernel_rfl) (fun _ _ _ h => h) (Or.inl ⟨by rfl, ?_⟩) (by assumption) ?_
  rotate_left
  · (intro w hSw; (try dsimp only at hSw); go_simp; try with_reducible rfl)
  simp only [Act.put, List.getElem_toArray, List.getElem_cons_succ, List.getElem_cons_zero, List.setIfInBounds_toArray, List.set_cons_zero, List.set_cons_succ]
  refine till_take (i := 16) (v := ?_) [17, 18, 19, 20, 21, 22, 23, 24] rfl (by kernel_rfl) (by kernel_rfl) (by kernel_rfl) (by kernel_rfl) (fun _ _ _ h => h) (Or.inl ⟨by rfl, ?_⟩) (by assumption) ?_
  rotate_left
  · (intro w hSw; (try dsimp only at hSw); go_simp; try with_reducible rfl)
  simp only [Act.put, List.getElem_toArray, List.getElem_cons_succ, List.getElem_cons_zero, List.setIfInBounds_toArray, List.set_cons_zero, List.set_cons_succ]
  refine till_take (i := 17) (v := ?_) [18, 19, 20, 21, 22, 23, 24] rfl (by kernel_rfl) (by kernel_rfl) (by kernel_rfl) (by kernel_rfl) (fun _ _ _ h => h) (Or.inl ⟨by rfl, ?_⟩) (by assumption) ?_
  rotate_left
  · (intro w hSw; (try dsimp only at hSw); go_simp; try with_reducible rfl)
  simp only [Act.put, List.getElem_toArray, List.getElem_cons_succ, List.getElem_cons_zero, List.setIfInBounds_toArray, List.set_cons_zero, List.set_cons_succ]
  refine till_take (i := 18) (v := ?_) [19, 20, 21, 22, 23, 24] rfl (by kernel_rfl) (by kernel_rfl) (by kernel_rfl) (by kernel_rfl) (fun _ _ _ h => h) (Or.inl ⟨by rfl, ?_⟩) (by assumption) ?_
  rotate_left
  · (intro w hSw; (try dsimp only at hSw); go_simp; try with_reducible rfl)
  simp only [Act.put, List.getElem_toArray, List.getElem_cons_succ, List.getElem_cons_zero, List.setIfInBounds_toArray, List.set_cons_zero, List.set_cons_succ]
  refine till_take (i := 19) (v := ?_) [20, 21, 22, 23, 24] rfl (by kernel_rfl) (by kernel_rfl) (by kernel_rfl) (by kernel_rfl) (fun _ _ _ h => h) (Or.inl ⟨by rfl, ?_⟩) (by assumption) ?_
  rotate_left
  · (intro w hSw; (try dsimp only at hSw); go_simp; try with_reducible rfl)
  simp only [Act.put, List.getElem_toArray, List.getElem_cons_succ, List.getElem_cons_zero, List.setIfInBounds_toArray, List.set_cons_zero, List.set_cons_succ]
  refine till_take (i := 20) (v := ?_) [21, 22, 23, 24] rfl (by kernel_rfl) (by kernel_rfl) (by kernel_rfl) (by kernel_rfl) (fun _ _ _ h => h) (Or.inl ⟨by rfl, ?_⟩) (by assumption) ?_
  rotate_left
  · (intro w hSw; (try dsimp only at hSw); go_simp; try with_reducible rfl)
  simp only [Act.put, List.getElem_toArray, List.getElem_cons_succ, List.getElem_cons_zero, List.setIfInBounds_toArray, List.set_cons_zero, List.set_cons_succ]
  refine till_in (i := 21) (by kernel_rfl) rfl (fun K hK => ?_)
  go_simp
  refine (text4 b3 a3 l3 c3 _ (h3.later HW)).mono ?_
  rintro e w9 ⟨rfl, hb9⟩
  replace HW := Below.step HW hb9
  clear hb9
  refine hK.out _ _ ?_ (fun hHeld => ?_)
  · exact ⟨(B3.later HW).facts.1, (B3.later HW).facts.2.1, (B4.later HW).facts.1, (B4.later HW).facts.2.1, (B5.later HW).facts.1, (B5.later HW).facts.2.1⟩
  clear hK K
  try simp only [Act.put, List.getElem_toArray, List.getElem_cons_succ, List.getElem_cons_zero, List.setIfInBounds_toArray, List.set_cons_zero, List.set_cons_succ]
  refine till_take (i := 22) (v := ?_) [23, 24] rfl (by kernel_rfl) (by kernel_rfl) (by kernel_rfl) (by kernel_rfl) (fun _ _ _ h => h) (Or.inl ⟨by rfl, ?_⟩) (by assumption) ?_
  rotate_left
  · (intro w hSw; (try dsimp only at hSw); go_simp; try with_reducible rfl)
  simp only [Act.put, List.getElem_toArray, List.getElem_cons_succ, List.getElem_cons_zero, List.setIfInBounds_toArray, List.set_cons_zero, List.set_cons_succ]
  refine till_take (i := 23) (v := ?_) [24] rfl (by kernel_rfl) (by kernel_rfl) (by kernel_rfl) (by kernel_rfl) (fun _ _ _ h => h) (Or.inl ⟨by rfl, ?_⟩) (by assumption) ?_
  rotate_left
  · (intro w hSw; (try dsimp only at hSw); go_simp; try with_reducible rfl)
  simp only [Act.put, List.getElem_toArray, List.getElem_cons_succ, List.getElem_cons_zero, List.setIfInBounds_toArray, List.set_cons_zero, List.set_cons_succ]
  refine till_out (i := 24) (by kernel_rfl) rfl (by kernel_rfl) (fun K hK => ?_)
  go_simp
  refine hK.out _ _ ?_
  clear hK K
  try simp only [Act.put, List.getElem_toArray, List.getElem_cons_succ, List.getElem_cons_zero, List.setIfInBounds_toArray, List.set_cons_zero, List.set_cons_succ]
  refine till_done (by kernel_rfl) ?_ _
  go_wp2
  go_ret
  exact ⟨rfl, Below.step (unhide HB) HW⟩

#print axioms awake5_any
end Go.Proofs.Ytcafodggkhkpnaa
