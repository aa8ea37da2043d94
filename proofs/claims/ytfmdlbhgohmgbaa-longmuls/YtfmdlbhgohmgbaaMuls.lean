/-
  The walk of LongMuls: whatever the two rows, it tells true.
-/
import Derived.Test.YtfmdlbhgohmgbaaAwake2
namespace Go.Proofs.Ytfmdlbhgohmgbaa
open Go.RowKit Lb

set_option maxRecDepth 20000 in
set_option maxHeartbeats 2000000 in
theorem longMuls_walk (aa : Option Addr) (la ca : Nat) (xs : List Nat) (ab : Option Addr) (lb cb : Nat) (ys : List Nat) (w : World) (ha0 : RowAt w aa la ca xs) (hb0 : RowAt w ab lb cb ys) :
    Calls Try.prog 3 #[.slice aa la ca, .slice ab lb cb] w fun e w' => e = .returned (.bool true) ∧ Below w.heap.size w w' := by
  by_cases h1 : 40 < la
  · go_enter Try.func3, Try.ntmps3
    go_wp2_with (go_at_call 8; refine (awake_any _).mono ?_; rintro e w' ⟨rfl, hbel⟩)
    go_ret
    exact ⟨rfl, hbel⟩
  by_cases h2 : 40 < lb
  · go_enter Try.func3, Try.ntmps3
    go_wp2_with (go_at_call 8; refine (awake_any _).mono ?_; rintro e w' ⟨rfl, hbel⟩)
    go_ret
    exact ⟨rfl, hbel⟩
  have ha := ha0.val
  have hb := hb0.val
  clear ha0 hb0
  generalize val xs = A at ha
  generalize val ys = B at hb
  rcases Nat.eq_zero_or_pos B with hB | hB
  · subst hB
    go_enter Try.func3, Try.ntmps3
    go_wp2_with fail
    refine (divmod_none _ _ _ _ _ _ _ _ ha hb).mono ?_
    rintro e w' ⟨rfl, rfl⟩
    go_wp2_with fail
    refine (exact_none _ _ _ _ _ _ _ _ _ ha hb (by omega) (by omega) (Or.inl rfl)).mono ?_
    rintro e w1 ⟨rfl, hW⟩
    go_wp2_with fail
    refine (rTrim_num _ _ _ _ _ (hb.later hW) (by omega)).mono ?_
    rintro e w2 ⟨a2, l2, c2, rfl, hn2, hw2⟩
    obtain rfl := hn2.len_zero
    have hW2 := Below.step hW hw2
    clear hW hw2
    go_wp2_with fail
    refine (mul_num _ _ _ _ _ _ _ _ _ (ha.later hW2) (hb.later hW2) (by omega) (by omega)).mono ?_
    rintro e w3 ⟨a3, l3, c3, rfl, hn3, hw3⟩
    rw [Nat.mul_zero] at hn3
    obtain rfl := hn3.len_zero
    have hW3 := Below.step hW2 hw3
    clear hW2 hw3
    go_wp2_with fail
    refine (awake_any _).mono ?_
    rintro e w4 ⟨rfl, hw4⟩
    go_wp2_with fail
    go_ret
    exact ⟨rfl, Below.step hW3 hw4⟩
  · by_cases hz : A % B = 0
    · go_enter Try.func3, Try.ntmps3
      have HB := hide hB
      have HZ := hide hz
      clear hB hz
      go_wp2_with fail
      refine (divmod_num _ _ _ _ _ _ _ _ _ ha hb (by omega) (by omega) (unhide HB)).mono ?_
      rintro e w1 ⟨a1, l1, c1, a2, l2, c2, rfl, hn1, hn2, hW1⟩
      go_wp2_with fail
      refine (exact_num _ _ _ _ _ _ _ _ _ (ha.later hW1) (hb.later hW1) (by omega) (by omega) (unhide HB) (unhide HZ)).mono ?_
      rintro e w2 ⟨a3, l3, c3, rfl, hn3, hw2⟩
      have hn1 := hn1.later hw2
      have hn2 := hn2.later hw2
      have hW2 := Below.step hW1 hw2
      clear hW1 hw2
      go_wp2_with fail
      refine (rTrim_num _ _ _ _ _ (hb.later hW2) (by omega)).mono ?_
      rintro e w3 ⟨a4, l4, c4, rfl, hn4, hw3⟩
      have hl4 := hn4.len_pos (unhide HB)
      have hl4b : ((l4 : Int) == 0) = false := by simp; omega
      have hn1 := hn1.later hw3
      have hn2 := hn2.later hw3
      have hn3 := hn3.later hw3
      have hW3 := Below.step hW2 hw3
      clear hW2 hw3 hn4
      go_wp2_with fail
      refine (rdivmod_num _ _ _ _ _ _ _ _ _ (ha.later hW3) (hb.later hW3) (by omega) (by omega) (unhide HB)).mono ?_
      rintro e w4 ⟨a5, l5, c5, a6, l6, c6, rfl, hn5, hn6, hw4⟩
      have hn1 := hn1.later hw4
      have hn2 := hn2.later hw4
      have hn3 := hn3.later hw4
      have hW4 := Below.step hW3 hw4
      clear hW3 hw4
      go_wp2_with fail
      refine (same_true _ _ _ _ _ _ _ _ hn1 hn5).mono ?_
      rintro e w5 ⟨rfl, hw5⟩
      have hn2 := hn2.later hw5
      have hn3 := hn3.later hw5
      have hn5 := hn5.later hw5
      have hn6 := hn6.later hw5
      have hW5 := Below.step hW4 hw5
      clear hW4 hw5 hn1
      go_wp2_with fail
      refine (same_true _ _ _ _ _ _ _ _ hn2 hn6).mono ?_
      rintro e w6 ⟨rfl, hw6⟩
      have hn3 := hn3.later hw6
      have hn5 := hn5.later hw6
      have hl6 : l6 = 0 := by rw [unhide HZ] at hn6; exact hn6.len_zero
      subst hl6
      have hW6 := Below.step hW5 hw6
      clear hW5 hw6 hn2 hn6
      go_wp2_with fail
      refine (same_true _ _ _ _ _ _ _ _ hn3 hn5).mono ?_
      rintro e w7 ⟨rfl, hw7⟩
      have hW7 := Below.step hW6 hw7
      clear hW6 hw7 hn3 hn5
      go_wp2_with fail
      refine (mul_num _ _ _ _ _ _ _ _ _ (ha.later hW7) (hb.later hW7) (by omega) (by omega)).mono ?_
      rintro e w8 ⟨a8, l8, c8, rfl, hn8, hw8⟩
      have hW8 := Below.step hW7 hw8
      clear hW7 hw8
      go_wp2_with fail
      refine (rmul_num _ _ _ _ _ _ _ _ _ (ha.later hW8) (hb.later hW8) (by omega) (by omega)).mono ?_
      rintro e w9 ⟨a9, l9, c9, rfl, hn9, hw9⟩
      have hn8 := hn8.later hw9
      have hW9 := Below.step hW8 hw9
      clear hW8 hw9
      go_wp2_with fail
      refine (same_true _ _ _ _ _ _ _ _ hn8 hn9).mono ?_
      rintro e w10 ⟨rfl, hw10⟩
      have hW10 := Below.step hW9 hw10
      clear hW9 hw10 hn8 hn9
      go_wp2_with fail
      refine (awake_any _).mono ?_
      rintro e w11 ⟨rfl, hw11⟩
      go_wp2_with fail
      go_ret
      exact ⟨rfl, Below.step hW10 hw11⟩
    · go_enter Try.func3, Try.ntmps3
      have HB := hide hB
      have HZ := hide hz
      clear hB hz
      go_wp2_with fail
      refine (divmod_num _ _ _ _ _ _ _ _ _ ha hb (by omega) (by omega) (unhide HB)).mono ?_
      rintro e w1 ⟨a1, l1, c1, a2, l2, c2, rfl, hn1, hn2, hW1⟩
      go_wp2_with fail
      refine (exact_none _ _ _ _ _ _ _ _ _ (ha.later hW1) (hb.later hW1) (by omega) (by omega) (Or.inr (unhide HZ))).mono ?_
      rintro e w2 ⟨rfl, hw2⟩
      have hn1 := hn1.later hw2
      have hn2 := hn2.later hw2
      have hW2 := Below.step hW1 hw2
      clear hW1 hw2
      go_wp2_with fail
      refine (rTrim_num _ _ _ _ _ (hb.later hW2) (by omega)).mono ?_
      rintro e w3 ⟨a4, l4, c4, rfl, hn4, hw3⟩
      have hl4 := hn4.len_pos (unhide HB)
      have hl4b : ((l4 : Int) == 0) = false := by simp; omega
      have hn1 := hn1.later hw3
      have hn2 := hn2.later hw3
      have hW3 := Below.step hW2 hw3
      clear hW2 hw3 hn4
      go_wp2_with fail
      refine (rdivmod_num _ _ _ _ _ _ _ _ _ (ha.later hW3) (hb.later hW3) (by omega) (by omega) (unhide HB)).mono ?_
      rintro e w4 ⟨a5, l5, c5, a6, l6, c6, rfl, hn5, hn6, hw4⟩
      have hn1 := hn1.later hw4
      have hn2 := hn2.later hw4
      have hW4 := Below.step hW3 hw4
      clear hW3 hw4
      go_wp2_with fail
      refine (same_true _ _ _ _ _ _ _ _ hn1 hn5).mono ?_
      rintro e w5 ⟨rfl, hw5⟩
      have hn2 := hn2.later hw5
      have hn6 := hn6.later hw5
      have hW5 := Below.step hW4 hw5
      clear hW4 hw5 hn1 hn5
      go_wp2_with fail
      refine (same_true _ _ _ _ _ _ _ _ hn2 hn6).mono ?_
      rintro e w6 ⟨rfl, hw6⟩
      have hl6 := hn6.len_pos (by have := unhide HZ; omega)
      have hl6b : ((l6 : Int) == 0) = false := by simp; omega
      have hW6 := Below.step hW5 hw6
      clear hW5 hw6 hn2 hn6
      go_wp2_with fail
      refine (mul_num _ _ _ _ _ _ _ _ _ (ha.later hW6) (hb.later hW6) (by omega) (by omega)).mono ?_
      rintro e w8 ⟨a8, l8, c8, rfl, hn8, hw8⟩
      have hW8 := Below.step hW6 hw8
      clear hW6 hw8
      go_wp2_with fail
      refine (rmul_num _ _ _ _ _ _ _ _ _ (ha.later hW8) (hb.later hW8) (by omega) (by omega)).mono ?_
      rintro e w9 ⟨a9, l9, c9, rfl, hn9, hw9⟩
      have hn8 := hn8.later hw9
      have hW9 := Below.step hW8 hw9
      clear hW8 hw9
      go_wp2_with fail
      refine (same_true _ _ _ _ _ _ _ _ hn8 hn9).mono ?_
      rintro e w10 ⟨rfl, hw10⟩
      have hW10 := Below.step hW9 hw10
      clear hW9 hw10 hn8 hn9
      go_wp2_with fail
      refine (awake_any _).mono ?_
      rintro e w11 ⟨rfl, hw11⟩
      go_wp2_with fail
      go_ret
      exact ⟨rfl, Below.step hW10 hw11⟩

#print axioms longMuls_walk
end Go.Proofs.Ytfmdlbhgohmgbaa
