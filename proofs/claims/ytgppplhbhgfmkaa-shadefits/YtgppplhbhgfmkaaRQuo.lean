/-
  What the reference's Quo and Div tell (IN PARTS).
-/
import Derived.Test.YtgppplhbhgfmkaaQNear
namespace Go.Proofs.Ytgppplhbhgfmkaa
open Go.RowKit Lb

set_option maxHeartbeats 2000000 in
theorem rquoK (b : Bool) (aa : Option Addr) (la ca : Nat) (x : Int) (k : Nat) (b' : Bool) (ab : Option Addr) (lb cb : Nat) (y : Int) (l : Nat) (w : World) (hx : IK w b aa la ca x k) (hy : IK w b' ab lb cb y l) (h0 : y ≠ 0) :
    Calls Try.prog 52 #[.agg #[.bool b, .slice aa la ca], .agg #[.bool b', .slice ab lb cb]] w fun e w' => ∃ b1 a1 l1 c1 b2 a2 l2 c2, e = .returned (.tuple #[.agg #[.bool b1, .slice a1 l1 c1], .agg #[.bool b2, .slice a2 l2 c2]]) ∧ FK w' b1 a1 l1 c1 (x.tdiv y) k ∧ FK w' b2 a2 l2 c2 (x.tmod y) l ∧ Below w.heap.size w w' := by
  have LQ' := hide (Nat.lt_of_le_of_lt (tdiv_abs_le x y) hx.2.2)
  have LR' := hide (Nat.lt_trans (tmod_abs_lt (x := x) h0) hy.2.2)
  obtain ⟨⟨M, hM, ex⟩, hla, _⟩ := hx
  obtain ⟨⟨N, hN, ey⟩, hlb, _⟩ := hy
  have hla : la ≤ 1000000 := by omega
  have hlb : lb ≤ 1000000 := by omega
  have hN0 : 0 < N := by
    rcases Nat.eq_zero_or_pos N with h | h
    · subst h; exact absurd (ey.trans (sgnd_zero b')) h0
    · exact h
  have LQ := hide (Nat.lt_of_le_of_lt (Nat.div_le_self M N) (hM.lt (Nat.le_refl _)))
  have LR := hide (Nat.lt_trans (Nat.mod_lt M hN0) (hN.lt (Nat.le_refl _)))
  rw [ex, ey, tdiv_sgnd] at LQ'
  rw [ex, ey, tmod_sgnd] at LR'
  rw [ex, ey, tdiv_sgnd, tmod_sgnd]
  clear h0 ex ey
  go_enter Try.func52, Try.ntmps52
  go_wp2_with fail
  obtain ⟨W, hWe⟩ : ∃ W, W = ((((w.alloc (.cells #[.bool b, .slice aa la ca] 31)).alloc (.cells #[.bool b', .slice ab lb cb] 31)).alloc (.cells #[.bool false, .slice none 0 0] 31)).alloc (.cells #[.bool false, .slice none 0 0] 31)) := ⟨_, rfl⟩
  obtain ⟨B0, B1, B2, B3, hb0⟩ := boxes4 w b aa la ca b' ab lb cb false none 0 0 false none 0 0 hWe
  rw [← hWe]
  clear hWe
  refine (rdivmod_num _ _ _ M _ _ _ N _ (hM.later hb0) (hN.later hb0) hla hlb hN0).mono ?_
  rintro e w1 ⟨a1, l1, c1, a2, l2, c2, rfl, h1, h2, hb1⟩
  replace B0 := B0.later hb1
  replace B1 := B1.later hb1
  replace B2 := B2.later hb1
  replace B3 := B3.later hb1
  have HB := hide (Below.step hb0 hb1)
  clear hb0 hb1
  have hl1 : l1 ≤ 1000000 := Nat.le_trans (h1.len_le (unhide LQ)) hla
  have hl2 : l2 ≤ 1000000 := Nat.le_trans (h2.len_le (unhide LR)) hlb
  go_wp2_with fail
  have HW : Below w1.heap.size w1 w1.drew := (Below.refl _ _).drew
  refine till_start (fun w' => w'.cell? ⟨w.heap.size, 0, none⟩ = some (.bool b) ∧ w'.cell? ⟨w.heap.size, 1, none⟩ = some (.slice aa la ca) ∧ w'.cell? ⟨w.heap.size + 1, 0, none⟩ = some (.bool b') ∧ w'.cell? ⟨w.heap.size + 1, 1, none⟩ = some (.slice ab lb cb)) 13 (by kernel_rfl) ?_ (fun hHeld => ?_)
  · exact ⟨(B0.later HW).facts.1, (B0.later HW).facts.2.1, (B1.later HW).facts.1, (B1.later HW).facts.2.1⟩
  refine till_take (i := 0) (v := ?_) [1, 4, 6, 7, 12, 13, 14] rfl (by kernel_rfl) (by kernel_rfl) (by kernel_rfl) (by kernel_rfl) (fun _ _ _ h => h) (Or.inl ⟨by rfl, ?_⟩) (by assumption) ?_
  rotate_left
  · (intro w hSw; (try dsimp only at hSw); go_simp; try with_reducible rfl)
  simp only [Act.put, List.getElem_toArray, List.getElem_cons_zero, List.setIfInBounds_toArray, List.set_cons_zero, List.set_cons_succ]
  refine till_take (i := 1) (v := ?_) [4, 6, 7, 12, 13, 14] rfl (by kernel_rfl) (by kernel_rfl) (by kernel_rfl) (by kernel_rfl) (fun _ _ _ h => h) (Or.inl ⟨by rfl, ?_⟩) (by assumption) ?_
  rotate_left
  · (intro w hSw; (try dsimp only at hSw); go_simp; try with_reducible rfl)
  simp only [Act.put, List.getElem_toArray, List.getElem_cons_succ, List.getElem_cons_zero, List.setIfInBounds_toArray, List.set_cons_zero, List.set_cons_succ]
  refine till_take (i := 2) (v := ?_) [3, 4, 6, 7, 12, 13, 14] rfl (by kernel_rfl) (by kernel_rfl) (by kernel_rfl) (by kernel_rfl) (fun _ _ _ h => h) (Or.inl ⟨by rfl, ?_⟩) (by assumption) ?_
  rotate_left
  · (intro w hSw; (try dsimp only at hSw); go_simp; try with_reducible rfl)
  simp only [Act.put, List.getElem_toArray, List.getElem_cons_succ, List.getElem_cons_zero, List.setIfInBounds_toArray, List.set_cons_zero, List.set_cons_succ]
  refine till_take (i := 3) (v := ?_) [4, 6, 7, 12, 13, 14] rfl (by kernel_rfl) (by kernel_rfl) (by kernel_rfl) (by kernel_rfl) (fun _ _ _ h => h) (Or.inl ⟨by rfl, ?_⟩) (by assumption) ?_
  rotate_left
  · (intro w hSw; (try dsimp only at hSw); go_simp; try with_reducible rfl)
  simp only [Act.put, List.getElem_toArray, List.getElem_cons_succ, List.getElem_cons_zero, List.setIfInBounds_toArray, List.set_cons_zero, List.set_cons_succ]
  refine till_take (i := 4) (v := ?_) [6, 7, 12, 13, 14] rfl (by kernel_rfl) (by kernel_rfl) (by kernel_rfl) (by kernel_rfl) (fun _ _ _ h => h) (Or.inl ⟨by rfl, ?_⟩) (by assumption) ?_
  rotate_left
  · (intro w hSw; (try dsimp only at hSw); go_simp; try with_reducible rfl)
  simp only [Act.put, List.getElem_toArray, List.getElem_cons_succ, List.getElem_cons_zero, List.setIfInBounds_toArray, List.set_cons_zero, List.set_cons_succ]
  refine till_take (i := 5) (v := ?_) [6, 7, 12, 13, 14] rfl (by kernel_rfl) (by kernel_rfl) (by kernel_rfl) (by kernel_rfl) (fun _ _ _ h => h) (Or.inl ⟨by rfl, ?_⟩) (by assumption) ?_
  rotate_left
  · (intro w hSw; (try dsimp only at hSw); go_simp; try with_reducible rfl)
  simp only [Act.put, List.getElem_toArray, List.getElem_cons_succ, List.getElem_cons_zero, List.setIfInBounds_toArray, List.set_cons_zero, List.set_cons_succ]
  refine till_take (i := 6) (v := ?_) [7, 12, 13, 14] rfl (by kernel_rfl) (by kernel_rfl) (by kernel_rfl) (by kernel_rfl) (fun _ _ _ h => h) (Or.inl ⟨by rfl, ?_⟩) (by assumption) ?_
  rotate_left
  · (intro w hSw; (try dsimp only at hSw); go_simp; try with_reducible rfl)
  simp only [Act.put, List.getElem_toArray, List.getElem_cons_succ, List.getElem_cons_zero, List.setIfInBounds_toArray, List.set_cons_zero, List.set_cons_succ]
  refine till_take (i := 8) (v := ?_) [9, 11, 12, 13, 14] rfl (by kernel_rfl) (by kernel_rfl) (by kernel_rfl) (by kernel_rfl) (fun _ _ _ h => h) (Or.inl ⟨by rfl, ?_⟩) (by assumption) ?_
  rotate_left
  · (intro w hSw; (try dsimp only at hSw); go_simp; try with_reducible rfl)
  simp only [Act.put, List.getElem_toArray, List.getElem_cons_succ, List.getElem_cons_zero, List.setIfInBounds_toArray, List.set_cons_zero, List.set_cons_succ]
  refine till_take (i := 9) (v := ?_) [11, 12, 13, 14] rfl (by kernel_rfl) (by kernel_rfl) (by kernel_rfl) (by kernel_rfl) (fun _ _ _ h => h) (Or.inl ⟨by rfl, ?_⟩) (by assumption) ?_
  rotate_left
  · (intro w hSw; (try dsimp only at hSw); go_simp; try with_reducible rfl)
  simp only [Act.put, List.getElem_toArray, List.getElem_cons_succ, List.getElem_cons_zero, List.setIfInBounds_toArray, List.set_cons_zero, List.set_cons_succ]
  refine till_take (i := 10) (v := ?_) [11, 12, 13, 14] rfl (by kernel_rfl) (by kernel_rfl) (by kernel_rfl) (by kernel_rfl) (fun _ _ _ h => h) (Or.inl ⟨by rfl, ?_⟩) (by assumption) ?_
  rotate_left
  · (intro w hSw; (try dsimp only at hSw); go_simp; try with_reducible rfl)
  simp only [Act.put, List.getElem_toArray, List.getElem_cons_succ, List.getElem_cons_zero, List.setIfInBounds_toArray, List.set_cons_zero, List.set_cons_succ]
  refine till_take (i := 11) (v := ?_) [12, 13, 14] rfl (by kernel_rfl) (by kernel_rfl) (by kernel_rfl) (by kernel_rfl) (fun _ _ _ h => h) (Or.inl ⟨by rfl, ?_⟩) (by assumption) ?_
  rotate_left
  · (intro w hSw; (try dsimp only at hSw); go_simp; try with_reducible rfl)
  simp only [Act.put, List.getElem_toArray, List.getElem_cons_succ, List.getElem_cons_zero, List.setIfInBounds_toArray, List.set_cons_zero, List.set_cons_succ]
  refine till_in (i := 7) (by kernel_rfl) rfl (fun K hK => ?_)
  go_simp
  refine (rform_num (b != b') _ _ _ _ _ ⟨M / N, (h1.later HW).val, rfl⟩ hl1).mono ?_
  rintro e w9 ⟨b3, a3, l3, c3, rfl, h3, hb9⟩
  replace HW := Below.step HW hb9
  clear hb9
  refine hK.out _ _ ?_ (fun hHeld => ?_)
  · exact ⟨(B0.later HW).facts.1, (B0.later HW).facts.2.1, (B1.later HW).facts.1, (B1.later HW).facts.2.1⟩
  clear hK K
  try simp only [Act.put, List.getElem_toArray, List.getElem_cons_succ, List.getElem_cons_zero, List.setIfInBounds_toArray, List.set_cons_zero, List.set_cons_succ]
  refine till_in (i := 12) (by kernel_rfl) rfl (fun K hK => ?_)
  go_simp
  refine (rform_num b _ _ _ _ _ ⟨M % N, (h2.later HW).val, rfl⟩ hl2).mono ?_
  rintro e w9 ⟨b4, a4, l4, c4, rfl, h4, hb9⟩
  replace HW := Below.step HW hb9
  replace h3 := h3.later hb9
  clear hb9
  obtain ⟨q1, q2, q3, q4⟩ := (B2.later HW).facts
  obtain ⟨q5, q6, q7, q8⟩ := (B3.later HW).facts
  have hs9 := (B3.later HW).lt
  refine hK.out _ _ ?_ (fun hHeld => ?_)
  · exact ⟨(B0.later HW).facts.1, (B0.later HW).facts.2.1, (B1.later HW).facts.1, (B1.later HW).facts.2.1⟩
  clear hK K
  try simp only [Act.put, List.getElem_toArray, List.getElem_cons_succ, List.getElem_cons_zero, List.setIfInBounds_toArray, List.set_cons_zero, List.set_cons_succ]
  refine till_out (i := 13) (by kernel_rfl) rfl (by kernel_rfl) (fun K hK => ?_)
  go_simp
  refine hK.out _ _ ?_
  clear hK K
  try simp only [Act.put, List.getElem_toArray, List.getElem_cons_succ, List.getElem_cons_zero, List.setIfInBounds_toArray, List.set_cons_zero, List.set_cons_succ]
  refine till_out (i := 14) (by kernel_rfl) rfl (by kernel_rfl) (fun K hK => ?_)
  go_simp
  refine hK.out _ _ ?_
  clear hK K
  try simp only [Act.put, List.getElem_toArray, List.getElem_cons_succ, List.getElem_cons_zero, List.setIfInBounds_toArray, List.set_cons_zero, List.set_cons_succ]
  refine till_done (by kernel_rfl) ?_ _
  go_wp2
  refine bodyPost_ret (v := .tuple #[.agg #[.bool b3, .slice a3 l3 c3], .agg #[.bool b4, .slice a4 l4 c4]]) (by simp [results, Try.results52, go_sem, *]) rfl ⟨_, _, _, _, _, _, _, _, rfl, ?_⟩
  have he := int_end2 (Below.step (unhide HB) HW) (g := w.heap.size + 2) (g' := w.heap.size + 3) (by omega) (by omega) (by omega) (B2.later HW).noLimb (B3.later HW).noLimb h3 h4 (.bool b3) (.slice a3 l3 c3) (.bool b4) (.slice a4 l4 c4)
  exact ⟨⟨he.1, unhide LQ'⟩, ⟨he.2.1, unhide LR'⟩, he.2.2⟩

#print axioms rquoK
end Go.Proofs.Ytgppplhbhgfmkaa
