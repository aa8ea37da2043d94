/-
  The contracts of package long and of the reference's Trim, told of numbers (IN PARTS).
-/
import Derived.Test.YtkhcanhdbalihaaVals0
import Derived.Test.YtkhcanhdbalihaaLMul
namespace Go.Proofs.Ytkhcanhdbalihaa
open Go.RowKit Lb

theorem mul_num (aa : Option Addr) (la ca A : Nat) (ab : Option Addr) (lb cb B : Nat) (w : World) (ha : ValAt w aa la ca A) (hb : ValAt w ab lb cb B) (hla : la ≤ 1000000) (hlb : lb ≤ 1000000) : Calls Try.prog 43 #[.slice aa la ca, .slice ab lb cb] w fun e w' => ∃ ao' len' cap', e = .returned (.slice ao' len' cap') ∧ NumAt w' ao' len' cap' (A * B) ∧ Below w.heap.size w w' := by
  obtain ⟨xs, hx, rfl⟩ := ha
  obtain ⟨ys, hy, rfl⟩ := hb
  exact mul_any _ _ _ xs _ _ _ ys w hx hy (by omega) (by omega)
#print axioms mul_num
end Go.Proofs.Ytkhcanhdbalihaa
