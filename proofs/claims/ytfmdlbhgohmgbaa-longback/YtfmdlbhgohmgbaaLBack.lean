/-
  The walk of LongBack: whatever the two rows, it tells true.
-/
import Derived.Test.YtfmdlbhgohmgbaaAwake2
namespace Go.Proofs.Ytfmdlbhgohmgbaa
open Go.RowKit Lb

set_option maxRecDepth 20000 in
set_option maxHeartbeats 2000000 in
theorem longBack_walk (aa : Option Addr) (la ca : Nat) (xs : List Nat) (ab : Option Addr) (lb cb : Nat) (ys : List Nat) (w : World) (ha0 : RowAt w aa la ca xs) (hb0 : RowAt w ab lb cb ys) :
    Calls Try.prog 5 #[.slice aa la ca, .slice ab lb cb] w fun e w' => e = .returned (.bool true) ∧ Below w.heap.size w w' := by
  by_cases h1 : 40 < la
  · go_enter Try.func5, Try.ntmps5
    go_wp2_with (go_at_call 8; refine (awake_any _).mono ?_; rintro e w' ⟨rfl, hbel⟩)
    go_ret
    exact ⟨rfl, hbel⟩
  by_cases h2 : 40 < lb
  · go_enter Try.func5, Try.ntmps5
    go_wp2_with (go_at_call 8; refine (awake_any _).mono ?_; rintro e w' ⟨rfl, hbel⟩)
    go_ret
    exact ⟨rfl, hbel⟩
  have ha := ha0.val
  have hb := hb0.val
  clear ha0 hb0
  generalize val xs = A at ha
  generalize val ys = B at hb
  have hAl := hide (ha.lt (k := 40) (by omega))
  have hBl := hide (hb.lt (k := 40) (by omega))
  rcases Nat.eq_zero_or_pos B with hB | hB
  · subst hB
    go_enter Try.func5, Try.ntmps5
    go_wp2_with fail
    refine (trim_num _ _ _ _ _ hb (by omega)).mono ?_
    rintro e w1 ⟨a1, l1, c1, rfl, hn1, hW1⟩
    obtain rfl := hn1.len_zero
    go_wp2_with fail
    refine (awake_any _).mono ?_
    rintro e w4 ⟨rfl, hw4⟩
    go_wp2_with fail
    go_ret
    exact ⟨rfl, Below.step hW1 hw4⟩
  · have hlt : cmpI (A % B) B < 0 := by rw [cmpI_lt (Nat.mod_lt _ hB)]; omega
    have hpz : A * B % B = 0 := Nat.mul_mod_left _ _
    have hpd : A * B / B = A := Nat.mul_div_cancel _ hB
    have hsum : A / B * B + A % B = A := by rw [Nat.mul_comm]; exact Nat.div_add_mod _ _
    have HB := hide hB
    have HPZ := hide hpz
    have HPD := hide hpd
    have HS := hide hsum
    clear hB hpz hpd hsum
    go_enter Try.func5, Try.ntmps5
    go_wp2_with fail
    refine (trim_num _ _ _ _ _ hb (by omega)).mono ?_
    rintro e w1 ⟨a0, l0, c0, rfl, hn0, hW0⟩
    have hl0 := hn0.len_pos (unhide HB)
    have hl0b : ((l0 : Int) == 0) = false := by simp; omega
    clear hn0
    go_wp2_with fail
    refine (divmod_num _ _ _ _ _ _ _ _ _ (ha.later hW0) (hb.later hW0) (by omega) (by omega) (unhide HB)).mono ?_
    rintro e w1 ⟨a1, l1, c1, a2, l2, c2, rfl, hn1, hn2, hw1⟩
    have hW1 := Below.step hW0 hw1
    clear hW0 hw1
    go_wp2_with fail
    refine (mul_num _ _ _ _ _ _ _ _ _ (ha.later hW1) (hb.later hW1) (by omega) (by omega)).mono ?_
    rintro e w2 ⟨a3, l3, c3, rfl, hn3, hw2⟩
    have hl3 : l3 ≤ 80 := hn3.len_le (prod_lt (unhide hAl) (unhide hBl))
    have hn1 := hn1.later hw2
    have hn2 := hn2.later hw2
    have hW2 := Below.step hW1 hw2
    clear hW1 hw2
    go_wp2_with fail
    refine (exact_num _ _ _ _ _ _ _ _ _ hn3.val (hb.later hW2) (by omega) (by omega) (unhide HB) (unhide HPZ)).mono ?_
    rintro e w3 ⟨a4, l4, c4, rfl, hn4, hw3⟩
    rw [unhide HPD] at hn4
    have hn1 := hn1.later hw3
    have hn2 := hn2.later hw3
    have hW3 := Below.step hW2 hw3
    have hl1 : l1 ≤ 40 := hn1.len_le (Nat.lt_of_le_of_lt (Nat.div_le_self _ _) (unhide hAl))
    have hl2 : l2 ≤ 40 := hn2.len_le (Nat.lt_of_le_of_lt (Nat.mod_le _ _) (unhide hAl))
    clear hW2 hw3 hn3
    go_wp2_with fail
    refine (mul_num _ _ _ _ _ _ _ _ _ hn1.val (hb.later hW3) (by omega) (by omega)).mono ?_
    rintro e w4 ⟨a5, l5, c5, rfl, hn5, hw4⟩
    have hl5 : l5 ≤ 80 := hn5.len_le (prod_lt (Nat.lt_of_le_of_lt (Nat.div_le_self _ _) (unhide hAl)) (unhide hBl))
    have hn2 := hn2.later hw4
    have hn4 := hn4.later hw4
    have hW4 := Below.step hW3 hw4
    clear hW3 hw4 hn1
    go_wp2_with fail
    refine (add_num _ _ _ _ _ _ _ _ _ hn5.val hn2.val (by omega) (by omega)).mono ?_
    rintro e w5 ⟨a6, l6, c6, rfl, hn6, hw5⟩
    rw [unhide HS] at hn6
    have hn2 := hn2.later hw5
    have hn4 := hn4.later hw5
    have hW5 := Below.step hW4 hw5
    clear hW4 hw5 hn5
    go_wp2_with fail
    refine (trim_num _ _ _ _ _ (ha.later hW5) (by omega)).mono ?_
    rintro e w6 ⟨a7, l7, c7, rfl, hn7, hw6⟩
    have hn2 := hn2.later hw6
    have hn4 := hn4.later hw6
    have hn6 := hn6.later hw6
    have hW6 := Below.step hW5 hw6
    clear hW5 hw6
    go_wp2_with fail
    refine (same_true _ _ _ _ _ _ _ _ hn6 hn7).mono ?_
    rintro e w7 ⟨rfl, hw7⟩
    have hn2 := hn2.later hw7
    have hn4 := hn4.later hw7
    have hW7 := Below.step hW6 hw7
    clear hW6 hw7 hn6 hn7
    go_wp2_with fail
    refine (cmp_num _ _ _ _ _ _ _ _ _ hn2.val (hb.later hW7)).mono ?_
    rintro e w8 ⟨rfl, hw8⟩
    have hn4 := hn4.later hw8
    have hW8 := Below.step hW7 hw8
    clear hW7 hw8 hn2
    go_wp2_with fail
    refine (trim_num _ _ _ _ _ (ha.later hW8) (by omega)).mono ?_
    rintro e w9 ⟨a9, l9, c9, rfl, hn9, hw9⟩
    have hn4 := hn4.later hw9
    have hW9 := Below.step hW8 hw9
    clear hW8 hw9
    go_wp2_with fail
    refine (same_true _ _ _ _ _ _ _ _ hn4 hn9).mono ?_
    rintro e w10 ⟨rfl, hw10⟩
    have hW10 := Below.step hW9 hw10
    clear hW9 hw10 hn4 hn9
    go_wp2_with fail
    refine (awake_any _).mono ?_
    rintro e w11 ⟨rfl, hw11⟩
    go_wp2_with fail
    go_ret
    exact ⟨rfl, Below.step hW10 hw11⟩

#print axioms longBack_walk
end Go.Proofs.Ytfmdlbhgohmgbaa
