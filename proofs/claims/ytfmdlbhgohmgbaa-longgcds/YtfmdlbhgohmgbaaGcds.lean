/-
  The walk of LongGcds: whatever the three rows, it tells true.
-/
import Derived.Test.YtfmdlbhgohmgbaaAwake2
import Derived.Test.YtfmdlbhgohmgbaaVals2
namespace Go.Proofs.Ytfmdlbhgohmgbaa
open Go.RowKit Lb

theorem gcd_all {A B C : Nat} (hC : 0 < C) (hAB : 0 < A ∨ 0 < B) : 0 < Nat.gcd (A * C) (B * C) ∧ A * C % Nat.gcd (A * C) (B * C) = 0 ∧ B * C % Nat.gcd (A * C) (B * C) = 0 ∧ Nat.gcd (A * C) (B * C) % C = 0 ∧ Nat.gcd (A * C / Nat.gcd (A * C) (B * C)) (B * C / Nat.gcd (A * C) (B * C)) = 1 := by
  have h0 : 0 < Nat.gcd (A * C) (B * C) := by
    rcases hAB with h | h
    · exact Nat.gcd_pos_of_pos_left _ (Nat.mul_pos h hC)
    · exact Nat.gcd_pos_of_pos_right _ (Nat.mul_pos h hC)
  have d1 := Nat.gcd_dvd_left (A * C) (B * C)
  have d2 := Nat.gcd_dvd_right (A * C) (B * C)
  refine ⟨h0, Nat.mod_eq_zero_of_dvd d1, Nat.mod_eq_zero_of_dvd d2, ?_, ?_⟩
  · rw [Nat.gcd_mul_right, Nat.mul_mod_left]
  · rw [Nat.gcd_div d1 d2, Nat.div_self h0]

set_option maxRecDepth 20000 in
set_option maxHeartbeats 2000000 in
theorem longGcds_walk (aa : Option Addr) (la ca : Nat) (xs : List Nat) (ab : Option Addr) (lb cb : Nat) (ys : List Nat) (ac : Option Addr) (lc cc : Nat) (zs : List Nat) (w : World) (ha0 : RowAt w aa la ca xs) (hb0 : RowAt w ab lb cb ys) (hc0 : RowAt w ac lc cc zs) :
    Calls Try.prog 7 #[.slice aa la ca, .slice ab lb cb, .slice ac lc cc] w fun e w' => e = .returned (.bool true) ∧ Below w.heap.size w w' := by
  by_cases h1 : 8 < la
  · go_enter Try.func7, Try.ntmps7
    go_wp2_with (go_at_call 8; refine (awake_any _).mono ?_; rintro e w' ⟨rfl, hbel⟩)
    go_ret
    exact ⟨rfl, hbel⟩
  by_cases h2 : 8 < lb
  · go_enter Try.func7, Try.ntmps7
    go_wp2_with (go_at_call 8; refine (awake_any _).mono ?_; rintro e w' ⟨rfl, hbel⟩)
    go_ret
    exact ⟨rfl, hbel⟩
  by_cases h3 : 4 < lc
  · go_enter Try.func7, Try.ntmps7
    go_wp2_with (go_at_call 8; refine (awake_any _).mono ?_; rintro e w' ⟨rfl, hbel⟩)
    go_ret
    exact ⟨rfl, hbel⟩
  have ha := ha0.val
  have hb := hb0.val
  have hc := hc0.val
  clear ha0 hb0 hc0
  generalize val xs = A at ha
  generalize val ys = B at hb
  generalize val zs = C at hc
  have hAl := hide (ha.lt (k := 8) (by omega))
  have hBl := hide (hb.lt (k := 8) (by omega))
  have hCl := hide (hc.lt (k := 4) (by omega))
  rcases Nat.eq_zero_or_pos C with hC | hC
  · subst hC
    go_enter Try.func7, Try.ntmps7
    go_wp2_with fail
    refine (trim_num _ _ _ _ _ hc (by omega)).mono ?_
    rintro e w1 ⟨a1, l1, c1, rfl, hn1, hW1⟩
    obtain rfl := hn1.len_zero
    go_wp2_with fail
    refine (awake_any _).mono ?_
    rintro e w4 ⟨rfl, hw4⟩
    go_wp2_with fail
    go_ret
    exact ⟨rfl, Below.step hW1 hw4⟩
  have HC := hide hC
  clear hC
  go_enter Try.func7, Try.ntmps7
  go_wp2_with fail
  refine (trim_num _ _ _ _ _ hc (by omega)).mono ?_
  rintro e w1 ⟨a1, l1, c1, rfl, hn1, hW1⟩
  have hl1 := hn1.len_pos (unhide HC)
  have hl1b : ((l1 : Int) == 0) = false := by simp; omega
  clear hn1
  go_wp2_with fail
  refine (mul_num _ _ _ _ _ _ _ _ _ (ha.later hW1) (hc.later hW1) (by omega) (by omega)).mono ?_
  rintro e w2 ⟨a2, l2, c2, rfl, hn2, hw2⟩
  have hl2 : l2 ≤ 12 := hn2.len_le (prod_lt (unhide hAl) (unhide hCl))
  have hW2 := Below.step hW1 hw2
  clear hW1 hw2
  go_wp2_with fail
  refine (mul_num _ _ _ _ _ _ _ _ _ (hb.later hW2) (hc.later hW2) (by omega) (by omega)).mono ?_
  rintro e w3 ⟨a3, l3, c3, rfl, hn3, hw3⟩
  have hl3 : l3 ≤ 12 := hn3.len_le (prod_lt (unhide hBl) (unhide hCl))
  have hn2 := hn2.later hw3
  have hW3 := Below.step hW2 hw3
  clear hW2 hw3
  go_wp2_with fail
  refine (gcd_num _ _ _ _ _ _ _ _ _ hn2.val hn3.val (by omega) (by omega)).mono ?_
  rintro e w4 ⟨a4, l4, c4, rfl, hn4, hw4⟩
  have hn2 := hn2.later hw4
  have hn3 := hn3.later hw4
  have hW4 := Below.step hW3 hw4
  clear hW3 hw4
  by_cases hAB : A = 0 ∧ B = 0
  · obtain ⟨rfl, rfl⟩ := hAB
    rw [Nat.zero_mul, Nat.gcd_zero_right] at hn4
    obtain rfl := hn4.len_zero
    clear hn4 hn2 hn3
    go_wp2_with fail
    refine (trim_num _ _ _ _ _ (ha.later hW4) (by omega)).mono ?_
    rintro e w5 ⟨a5, l5, c5, rfl, hn5, hw5⟩
    obtain rfl := hn5.len_zero
    have hW5 := Below.step hW4 hw5
    clear hW4 hw5 hn5
    go_wp2_with fail
    refine (trim_num _ _ _ _ _ (hb.later hW5) (by omega)).mono ?_
    rintro e w6 ⟨a6, l6, c6, rfl, hn6, hw6⟩
    obtain rfl := hn6.len_zero
    have hW6 := Below.step hW5 hw6
    clear hW5 hw6 hn6
    go_wp2_with fail
    refine (awake_any _).mono ?_
    rintro e w11 ⟨rfl, hw11⟩
    go_wp2_with fail
    go_ret
    exact ⟨rfl, Below.step hW6 hw11⟩
  · obtain ⟨g0, g1, g2, g3, g4⟩ := gcd_all (A := A) (B := B) (unhide HC) (by omega)
    have hGl : Nat.gcd (A * C) (B * C) < Bp 12 := by
      rcases Nat.eq_zero_or_pos A with e | e
      · refine Nat.lt_of_le_of_lt (Nat.gcd_le_right _ (Nat.mul_pos (by omega) (unhide HC))) (prod_lt (unhide hBl) (unhide hCl))
      · exact Nat.lt_of_le_of_lt (Nat.gcd_le_left _ (Nat.mul_pos e (unhide HC))) (prod_lt (unhide hAl) (unhide hCl))
    have hXl : A * C < Bp 12 := prod_lt (unhide hAl) (unhide hCl)
    have hYl : B * C < Bp 12 := prod_lt (unhide hBl) (unhide hCl)
    have hl4 : l4 ≤ 12 := hn4.len_le hGl
    generalize Nat.gcd (A * C) (B * C) = G at *
    generalize A * C = X at *
    generalize B * C = Y at *
    have G0 := hide g0
    have G1 := hide g1
    have G2 := hide g2
    have G3 := hide g3
    have G4 := hide g4
    have HXL := hide hXl
    have HYL := hide hYl
    have HAB := hide hAB
    clear g0 g1 g2 g3 g4 hGl hXl hYl hAB
    by_cases hA : A = 0
    · subst hA
      have hB : 0 < B := by have := unhide HAB; omega
      go_wp2_with fail
      refine (trim_num _ _ _ _ _ (ha.later hW4) (by omega)).mono ?_
      rintro e w5 ⟨a5, l5, c5, rfl, hn5, hw5⟩
      obtain rfl := hn5.len_zero
      have hW5 := Below.step hW4 hw5
      have hn2 := hn2.later hw5
      have hn3 := hn3.later hw5
      have hn4 := hn4.later hw5
      clear hW4 hw5 hn5
      go_wp2_with fail
      refine (trim_num _ _ _ _ _ (hb.later hW5) (by omega)).mono ?_
      rintro e w6 ⟨a6, l6, c6, rfl, hn6, hw6⟩
      have hl6 := hn6.len_pos hB
      have hl6b : ((l6 : Int) == 0) = false := by simp; omega
      have hW6 := Below.step hW5 hw6
      have hn2 := hn2.later hw6
      have hn3 := hn3.later hw6
      have hn4 := hn4.later hw6
      clear hW5 hw6 hn6
      go_wp2_with fail
      refine (exact_num _ _ _ _ _ _ _ _ _ hn2.val hn4.val (by omega) (by omega) (unhide G0) (unhide G1)).mono ?_
      rintro e w7 ⟨a7, l7, c7, rfl, hn7, hw7⟩
      have hl7 : l7 ≤ 12 := hn7.len_le (Nat.lt_of_le_of_lt (Nat.div_le_self _ _) (unhide HXL))
      have hW7 := Below.step hW6 hw7
      have hn3 := hn3.later hw7
      have hn4 := hn4.later hw7
      clear hW6 hw7 hn2
      go_wp2_with fail
      refine (exact_num _ _ _ _ _ _ _ _ _ hn3.val hn4.val (by omega) (by omega) (unhide G0) (unhide G2)).mono ?_
      rintro e w8 ⟨a8, l8, c8, rfl, hn8, hw8⟩
      have hl8 : l8 ≤ 12 := hn8.len_le (Nat.lt_of_le_of_lt (Nat.div_le_self _ _) (unhide HYL))
      have hW8 := Below.step hW7 hw8
      have hn4 := hn4.later hw8
      have hn7 := hn7.later hw8
      clear hW7 hw8 hn3
      go_wp2_with fail
      refine (exact_num _ _ _ _ _ _ _ _ _ hn4.val (hc.later hW8) (by omega) (by omega) (unhide HC) (unhide G3)).mono ?_
      rintro e w9 ⟨a9, l9, c9, rfl, hn9, hw9⟩
      have hW9 := Below.step hW8 hw9
      have hn7 := hn7.later hw9
      have hn8 := hn8.later hw9
      clear hW8 hw9 hn4 hn9
      go_wp2_with fail
      refine (gcd_num _ _ _ _ _ _ _ _ _ hn7.val hn8.val (by omega) (by omega)).mono ?_
      rintro e w10 ⟨a10, l10, c10, rfl, hn10, hw10⟩
      rw [unhide G4] at hn10
      have hW10 := Below.step hW9 hw10
      clear hW9 hw10 hn7 hn8
      go_wp2_with fail
      have h6 : NumAt (w10.alloc (.cells #[.int .u32 1] 33)) (some ⟨w10.heap.size, 0, none⟩) 1 1 1 := ⟨[1], rowAt_one rfl (by omega), norm_one (by omega), by rw [val_one]⟩
      have hb7 : Below w10.heap.size w10 (w10.alloc (.cells #[.int .u32 1] 33)) := (Below.refl _ _).alloc (Nat.le_refl _) _
      refine (same_true _ _ _ _ _ _ _ _ (hn10.later hb7) h6).mono ?_
      rintro e w11 ⟨rfl, hw11⟩
      have hW11 := Below.step hW10 (Below.step hb7 hw11)
      clear hW10 hw11 hb7 h6 hn10
      go_wp2_with fail
      refine (awake_any _).mono ?_
      rintro e w12 ⟨rfl, hw12⟩
      go_wp2_with fail
      go_ret
      exact ⟨rfl, Below.step hW11 hw12⟩
    · go_wp2_with fail
      refine (trim_num _ _ _ _ _ (ha.later hW4) (by omega)).mono ?_
      rintro e w6 ⟨a6, l6, c6, rfl, hn6, hw6⟩
      have hl6 := hn6.len_pos (show 0 < A by omega)
      have hl6b : ((l6 : Int) == 0) = false := by simp; omega
      have hW6 := Below.step hW4 hw6
      have hn2 := hn2.later hw6
      have hn3 := hn3.later hw6
      have hn4 := hn4.later hw6
      clear hW4 hw6 hn6
      go_wp2_with fail
      refine (exact_num _ _ _ _ _ _ _ _ _ hn2.val hn4.val (by omega) (by omega) (unhide G0) (unhide G1)).mono ?_
      rintro e w7 ⟨a7, l7, c7, rfl, hn7, hw7⟩
      have hl7 : l7 ≤ 12 := hn7.len_le (Nat.lt_of_le_of_lt (Nat.div_le_self _ _) (unhide HXL))
      have hW7 := Below.step hW6 hw7
      have hn3 := hn3.later hw7
      have hn4 := hn4.later hw7
      clear hW6 hw7 hn2
      go_wp2_with fail
      refine (exact_num _ _ _ _ _ _ _ _ _ hn3.val hn4.val (by omega) (by omega) (unhide G0) (unhide G2)).mono ?_
      rintro e w8 ⟨a8, l8, c8, rfl, hn8, hw8⟩
      have hl8 : l8 ≤ 12 := hn8.len_le (Nat.lt_of_le_of_lt (Nat.div_le_self _ _) (unhide HYL))
      have hW8 := Below.step hW7 hw8
      have hn4 := hn4.later hw8
      have hn7 := hn7.later hw8
      clear hW7 hw8 hn3
      go_wp2_with fail
      refine (exact_num _ _ _ _ _ _ _ _ _ hn4.val (hc.later hW8) (by omega) (by omega) (unhide HC) (unhide G3)).mono ?_
      rintro e w9 ⟨a9, l9, c9, rfl, hn9, hw9⟩
      have hW9 := Below.step hW8 hw9
      have hn7 := hn7.later hw9
      have hn8 := hn8.later hw9
      clear hW8 hw9 hn4 hn9
      go_wp2_with fail
      refine (gcd_num _ _ _ _ _ _ _ _ _ hn7.val hn8.val (by omega) (by omega)).mono ?_
      rintro e w10 ⟨a10, l10, c10, rfl, hn10, hw10⟩
      rw [unhide G4] at hn10
      have hW10 := Below.step hW9 hw10
      clear hW9 hw10 hn7 hn8
      go_wp2_with fail
      have h6 : NumAt (w10.alloc (.cells #[.int .u32 1] 33)) (some ⟨w10.heap.size, 0, none⟩) 1 1 1 := ⟨[1], rowAt_one rfl (by omega), norm_one (by omega), by rw [val_one]⟩
      have hb7 : Below w10.heap.size w10 (w10.alloc (.cells #[.int .u32 1] 33)) := (Below.refl _ _).alloc (Nat.le_refl _) _
      refine (same_true _ _ _ _ _ _ _ _ (hn10.later hb7) h6).mono ?_
      rintro e w11 ⟨rfl, hw11⟩
      have hW11 := Below.step hW10 (Below.step hb7 hw11)
      clear hW10 hw11 hb7 h6 hn10
      go_wp2_with fail
      refine (awake_any _).mono ?_
      rintro e w12 ⟨rfl, hw12⟩
      go_wp2_with fail
      go_ret
      exact ⟨rfl, Below.step hW11 hw12⟩

#print axioms longGcds_walk
end Go.Proofs.Ytfmdlbhgohmgbaa
