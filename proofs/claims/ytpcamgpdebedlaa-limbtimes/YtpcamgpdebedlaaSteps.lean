/-
  What limb.steps tells: how many limbs and how many bits a shift is.
-/
import Derived.Test.YtpcamgpdebedlaaCut
namespace Go.Proofs.Ytpcamgpdebedlaa
open Go.RowKit Lb

/-- The count of a shift: below 0 as 0, above 4096 as that. -/
def cl (n : Int) : Nat := if n ≤ 0 then 0 else if 4096 ≤ n then 4096 else n.toNat

theorem ret_pair {k l : IntKind} {a b c d : Int} (h : a = b) (g : c = d) : Ending.returned (.tuple #[.int k a, .int l c]) = .returned (.tuple #[.int k b, .int l d]) := by rw [h, g]
theorem cl_lo {n : Int} (h : n ≤ 0) : cl n = 0 := by unfold cl; rw [if_pos h]
theorem cl_hi {n : Int} (h : 4096 ≤ n) : cl n = 4096 := by unfold cl; rw [if_neg (by omega), if_pos h]
theorem cl_mid {n : Int} (h1 : 0 < n) (h2 : n < 4096) : cl n = n.toNat := by unfold cl; rw [if_neg (by omega), if_neg (by omega)]
theorem cl_le (n : Int) : cl n ≤ 4096 := by unfold cl; split <;> (try split) <;> omega

theorem steps_any (n : Int) (w : World) : Calls Try.prog 34 #[.int .i64 n] w fun e w' => ∃ q r : Nat, e = .returned (.tuple #[.int .i64 (q : Int), .int .u64 (r : Int)]) ∧ 32 * q + r = cl n ∧ r < 32 ∧ w = w' := by
  rcases (show n ≤ 0 ∨ (0 < n ∧ n < 4096) ∨ 4096 ≤ n by omega) with hlo | ⟨hl1, hl2⟩ | hhi
  · go_enter Try.func34, Try.ntmps34
    go_wp2
    all_goals
      go_ret2
      have hcl := cl_lo hlo
      exact ⟨cl n / 32, cl n % 32, ret_pair (by omega) (by omega), by omega, by omega, rfl⟩
  · go_enter Try.func34, Try.ntmps34
    go_wp2
    all_goals
      go_ret2
      have hcl := cl_mid hl1 hl2
      exact ⟨cl n / 32, cl n % 32, ret_pair (by omega) (by omega), by omega, by omega, rfl⟩
  · go_enter Try.func34, Try.ntmps34
    go_wp2
    all_goals
      go_ret2
      have hcl := cl_hi hhi
      exact ⟨cl n / 32, cl n % 32, ret_pair (by omega) (by omega), by omega, by omega, rfl⟩

#print axioms steps_any
end Go.Proofs.Ytpcamgpdebedlaa
