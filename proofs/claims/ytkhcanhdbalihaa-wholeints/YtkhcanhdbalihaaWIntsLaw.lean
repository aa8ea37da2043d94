/-
  The walk of WholeInts: it tells true.
-/
import Derived.Test.YtkhcanhdbalihaaAwake4
import Derived.Test.YtkhcanhdbalihaaWK
namespace Go.Proofs.Ytkhcanhdbalihaa
open Go.RowKit Lb

theorem i32_prod {a b : Int} (h1 : -2147483648 ≤ a) (h2 : a ≤ 2147483647) (h3 : -2147483648 ≤ b) (h4 : b ≤ 2147483647) : -4611686018427387904 ≤ a * b ∧ a * b ≤ 4611686018427387904 := by
  have ha : a.natAbs ≤ 2147483648 := by omega
  have hb : b.natAbs ≤ 2147483648 := by omega
  have := Nat.mul_le_mul ha hb
  rw [← Int.natAbs_mul] at this
  omega
theorem cmp_lt (a b : Int) : decide ((a - b).sign < 0) = decide (a < b) := by
  rw [decide_eq_decide]
  rcases sign_cases (a - b) with h | h | h <;> omega
theorem smallP (p : Int) (b : Bool) (aa : Option Addr) (la ca : Nat) (x : Int) (k : Nat) (w : World) (hx : IK w b aa la ca x k) (hp : p = x) (h1 : -9223372036854775808 ≤ p) (h2 : p ≤ 9223372036854775807) : Calls Try.prog 11 #[.agg #[.bool b, .slice aa la ca]] w fun e w' => e = .returned (.tuple #[.int .i64 p, .bool true]) ∧ Below w.heap.size w w' := by
  subst hp
  exact smallK _ _ _ _ _ _ _ hx h1 h2
theorem decide_beq (p q : Bool) (h : p = q) : (p == q) = true := by subst h; simp

set_option maxRecDepth 20000 in
set_option maxHeartbeats 4000000 in
theorem wholeInts_walk (a0 a1 : Int) (w : World) (w0 : (Lit.int .i32 a0).wf = true) (w1 : (Lit.int .i32 a1).wf = true) :
    Calls Try.prog 6 #[.int .i32 a0, .int .i32 a1] w fun e w' => e = .returned (.bool true) ∧ Below w.heap.size w w' := by
  obtain ⟨h1, h2⟩ : -2147483648 ≤ a0 ∧ a0 ≤ 2147483647 := by simpa [Lit.wf, IntKind.min, IntKind.max, IntKind.signed, IntKind.bits] using w0
  obtain ⟨h3, h4⟩ : -2147483648 ≤ a1 ∧ a1 ≤ 2147483647 := by simpa [Lit.wf, IntKind.min, IntKind.max, IntKind.signed, IntKind.bits] using w1
  clear w0 w1
  obtain ⟨hp1, hp2⟩ := i32_prod h1 h2 h3 h4
  obtain ⟨p, hp⟩ : ∃ p, p = a0 * a1 := ⟨_, rfl⟩
  have S1 := hide (show -9223372036854775808 ≤ a0 + a1 by omega)
  have S2 := hide (show a0 + a1 ≤ 9223372036854775807 by omega)
  have D1 := hide (show -9223372036854775808 ≤ a0 - a1 by omega)
  have D2 := hide (show a0 - a1 ≤ 9223372036854775807 by omega)
  rw [← hp] at hp1 hp2
  have e1 : IntKind.i64.wrap (a0 * a1) = p := by rw [← hp, IntKind.wrap_i64]; omega
  have e2 : wrap64 (a0 * a1) = p := by rw [← hp]; unfold wrap64; omega
  have HP := hide hp
  have P1 := hide (show -9223372036854775808 ≤ p by omega)
  have P2 := hide (show p ≤ 9223372036854775807 by omega)
  clear hp
  obtain ⟨s, hs⟩ : ∃ s, s = (a0 - a1).sign := ⟨_, rfl⟩
  have HS := hide hs
  have hcl : decide (s < 0) = decide (a0 < a1) := by rw [hs]; exact cmp_lt a0 a1
  clear hs
  go_enter Try.func6, Try.ntmps6
  go_wp2_with fail
  refine (ofK a0 _ (by omega) (by omega)).mono ?_
  rintro e w2 ⟨bx, ax, lenx, capx, rfl, hx, hb2⟩
  have HW := hb2
  clear hb2
  go_wp2_with fail
  refine (ofK a1 _ (by omega) (by omega)).mono ?_
  rintro e w3 ⟨b_y, a_y, len_y, cap_y, rfl, h_y, hb3⟩
  replace HW := Below.step HW hb3
  replace hx := hx.later hb3
  clear hb3
  have B0 := (box_new w3 bx ax lenx capx rfl).alloc (.cells #[.bool b_y, .slice a_y len_y cap_y] 24)
  have B1 := box_new (w3.alloc (.cells #[.bool bx, .slice ax lenx capx] 24)) b_y a_y len_y cap_y (n := w3.heap.size + 1) (by simp)
  obtain ⟨W, hWe⟩ : ∃ W, W = (w3.alloc (.cells #[.bool bx, .slice ax lenx capx] 24)).alloc (.cells #[.bool b_y, .slice a_y len_y cap_y] 24) := ⟨_, rfl⟩
  have hb4 := below2 w3 (.cells #[.bool bx, .slice ax lenx capx] 24) (.cells #[.bool b_y, .slice a_y len_y cap_y] 24)
  rw [← hWe] at B0 B1 hb4
  replace HW := Below.step HW hb4
  have hx' := (hx.later hb4).ik (by omega)
  have hy' := (h_y.later hb4).ik (by omega)
  clear hx h_y hb4
  have hx := hx'
  have h_y := hy'
  clear hx' hy'
  have HK : Hid (∀ w', Below W.heap.size W w' → w'.cell? ⟨w3.heap.size, 0, none⟩ = some (.bool bx) ∧ w'.cell? ⟨w3.heap.size, 1, none⟩ = some (.slice ax lenx capx) ∧ w'.cell? ⟨w3.heap.size + 1, 0, none⟩ = some (.bool b_y) ∧ w'.cell? ⟨w3.heap.size + 1, 1, none⟩ = some (.slice a_y len_y cap_y)) := fun w' hb => ⟨(B0.later hb).facts.1, (B0.later hb).facts.2.1, (B1.later hb).facts.1, (B1.later hb).facts.2.1⟩
  have HW0 := hide HW
  clear HW B0 B1 hp1 hp2
  have HW : Below W.heap.size W W := Below.refl _ _
  subst hWe
  go_wp2_with fail
  refine (addK bx ax lenx capx a0 2 b_y a_y len_y cap_y a1 2 _ (hx.later HW) (h_y.later HW)).mono ?_
  rintro e w9 ⟨bt1, at1, lent1, capt1, rfl, ht1, hb9⟩
  replace HW := Below.step HW hb9
  clear hb9
  (try clear s1 s2 s3 s4)
  obtain ⟨s1, s2, s3, s4⟩ := (unhide HK) _ HW
  go_wp2_with fail
  refine (smallK bt1 at1 lent1 capt1 (a0 + a1) (max 2 2 + 1) _ (ht1.ik (by omega)) (unhide S1) (unhide S2)).mono ?_
  rintro e w9 ⟨rfl, hb9⟩
  replace HW := Below.step HW hb9
  clear hb9 ht1
  (try clear s1 s2 s3 s4)
  obtain ⟨s1, s2, s3, s4⟩ := (unhide HK) _ HW
  go_wp2_with fail
  refine (subK bx ax lenx capx a0 2 b_y a_y len_y cap_y a1 2 _ (hx.later HW) (h_y.later HW)).mono ?_
  rintro e w9 ⟨bt2, at2, lent2, capt2, rfl, ht2, hb9⟩
  replace HW := Below.step HW hb9
  clear hb9
  (try clear s1 s2 s3 s4)
  obtain ⟨s1, s2, s3, s4⟩ := (unhide HK) _ HW
  go_wp2_with fail
  refine (smallK bt2 at2 lent2 capt2 (a0 - a1) (max 2 2 + 1) _ (ht2.ik (by omega)) (unhide D1) (unhide D2)).mono ?_
  rintro e w9 ⟨rfl, hb9⟩
  replace HW := Below.step HW hb9
  clear hb9 ht2
  (try clear s1 s2 s3 s4)
  obtain ⟨s1, s2, s3, s4⟩ := (unhide HK) _ HW
  go_wp2_with fail
  refine (mulK bx ax lenx capx a0 2 b_y a_y len_y cap_y a1 2 _ (hx.later HW) (h_y.later HW)).mono ?_
  rintro e w9 ⟨bt3, at3, lent3, capt3, rfl, ht3, hb9⟩
  replace HW := Below.step HW hb9
  clear hb9
  (try clear s1 s2 s3 s4)
  obtain ⟨s1, s2, s3, s4⟩ := (unhide HK) _ HW
  go_wp2_with fail
  refine (smallP p bt3 at3 lent3 capt3 (a0 * a1) (2 + 2) _ (ht3.ik (by omega)) (unhide HP) (unhide P1) (unhide P2)).mono ?_
  rintro e w9 ⟨rfl, hb9⟩
  replace HW := Below.step HW hb9
  clear hb9 ht3
  (try clear s1 s2 s3 s4)
  obtain ⟨s1, s2, s3, s4⟩ := (unhide HK) _ HW
  go_wp2_with fail
  refine (cmpK bx ax lenx capx a0 2 b_y a_y len_y cap_y a1 2 s _ (hx.later HW) (h_y.later HW) (unhide HS)).mono ?_
  rintro e w9 ⟨rfl, hb9⟩
  replace HW := Below.step HW hb9
  clear hb9
  (try clear s1 s2 s3 s4)
  obtain ⟨s1, s2, s3, s4⟩ := (unhide HK) _ HW
  go_wp2_with fail
  refine (awake4_any _).mono ?_
  rintro e w9 ⟨rfl, hb9⟩
  replace HW := Below.step HW hb9
  clear hb9
  (try clear s1 s2 s3 s4)
  obtain ⟨s1, s2, s3, s4⟩ := (unhide HK) _ HW
  go_wp2
  go_ret
  exact ⟨rfl, Below.step (unhide HW0) HW⟩

#print axioms wholeInts_walk
end Go.Proofs.Ytkhcanhdbalihaa
