/-
  What limb.steps tells: how many limbs and how many bits a shift is.
-/
import Derived.Test.YtfmdlbhgohmgbaaCut
namespace Go.Proofs.Ytfmdlbhgohmgbaa
open Go.RowKit Lb

/-- The count of a shift: below 0 as 0, above 4096 as that. -/
def cl (n : Int) : Nat := if n ≤ 0 then 0 else if 4096 ≤ n then 4096 else n.toNat

theorem ret_pair {k l : IntKind} {a b c d : Int} (h : a = b) (g : c = d) : Ending.returned (.tuple #[.int k a, .int l c]) = .returned (.tuple #[.int k b, .int l d]) := by rw [h, g]
theorem cl_lo {n : Int} (h : n ≤ 0) : cl n = 0 := by unfold cl; rw [if_pos h]
theorem cl_hi {n : Int} (h : 4096 ≤ n) : cl n = 4096 := by unfold cl; rw [if_neg (by omega), if_pos h]
theorem cl_mid {n : Int} (h1 : 0 < n) (h2 : n < 4096) : cl n = n.toNat := by unfold cl; rw [if_neg (by omega), if_neg (by omega)]
theorem cl_le (n : Int) : cl n ≤ 4096 := by unfold cl; split <;> (try split) <;> omega

theorem steps_any (n : Int) (w : World) : Calls Try.prog 41 #[.int .i64 n] w fun e w' => ∃ q r : Nat, e = .returned (.tuple #[.int .i64 (q : Int), .int .u64 (r : Int)]) ∧ 32 * q + r = cl n ∧ r < 32 ∧ w = w' := by
  rcases (show n ≤ 0 ∨ (0 < n ∧ n < 4096) ∨ 4096 ≤ n by omega) with hlo | ⟨hl1, hl2⟩ | hhi
  · go_enter Try.func41, Try.ntmps41
    go_wp2
    all_goals
      go_ret2
      have hcl := cl_lo hlo
      exact ⟨cl n / 32, cl n % 32, ret_pair (by omega) (by omega), by omega, by omega, rfl⟩
  · go_enter Try.func41, Try.ntmps41
    go_wp2
    all_goals
      go_ret2
      have hcl := cl_mid hl1 hl2
      exact ⟨cl n / 32, cl n % 32, ret_pair (by omega) (by omega), by omega, by omega, rfl⟩
  · go_enter Try.func41, Try.ntmps41
    go_wp2
    all_goals
      go_ret2
      have hcl := cl_hi hhi
      exact ⟨cl n / 32, cl n % 32, ret_pair (by omega) (by omega), by omega, by omega, rfl⟩

theorem left_len {N l : Nat} (n : Int) (h : N < Bp l) : N * 2 ^ cl n < Bp (l + 128) := by
  have h1 := cl_le n
  have h2 : 2 ^ cl n ≤ Bp 128 := pow_le_Bp (by omega)
  rw [Bp_add]
  exact Nat.mul_lt_mul_of_lt_of_le h h2 (Bp_pos _)
theorem cl_nat {n : Nat} (h : n ≤ 4096) : cl (n : Int) = n := by
  rcases Nat.eq_zero_or_pos n with e | e
  · subst e; exact cl_lo (by omega)
  · rcases Nat.eq_or_lt_of_le h with e2 | e2
    · rw [cl_hi (by omega), e2]
    · rw [cl_mid (by omega) (by omega)]; omega

#print axioms steps_any
end Go.Proofs.Ytfmdlbhgohmgbaa
