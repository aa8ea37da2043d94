/-
  Gcd and Pow, told of numbers.
-/
import Derived.Test.YtfmdlbhgohmgbaaVals
import Derived.Test.YtfmdlbhgohmgbaaLGcd
import Derived.Test.YtfmdlbhgohmgbaaLPow
namespace Go.Proofs.Ytfmdlbhgohmgbaa
open Go.RowKit Lb

theorem gcd_num (aa : Option Addr) (la ca A : Nat) (ab : Option Addr) (lb cb B : Nat) (w : World) (ha : ValAt w aa la ca A) (hb : ValAt w ab lb cb B) (hla : la ≤ 1000000) (hlb : lb ≤ 1000000) :
    Calls Try.prog 17 #[.slice aa la ca, .slice ab lb cb] w fun e w' => ∃ ao' len' cap', e = .returned (.slice ao' len' cap') ∧ NumAt w' ao' len' cap' (Nat.gcd A B) ∧ Below w.heap.size w w' := by
  obtain ⟨xs, hx, rfl⟩ := ha
  obtain ⟨ys, hy, rfl⟩ := hb
  exact lgcd_any _ _ _ xs _ _ _ ys w hx hy (by omega) (by omega)
theorem pow_num (aa : Option Addr) (la ca A : Nat) (n : Int) (w : World) (ha : ValAt w aa la ca A) (hla : la ≤ 50000) :
    Calls Try.prog 16 #[.slice aa la ca, .int .i64 n] w fun e w' => ∃ ao' len' cap', e = .returned (.slice ao' len' cap') ∧ NumAt w' ao' len' cap' (A ^ pw n) ∧ Below w.heap.size w w' := by
  obtain ⟨xs, hx, rfl⟩ := ha
  exact lpow_any _ _ _ xs n w hx hla
#print axioms gcd_num
#print axioms pow_num
end Go.Proofs.Ytfmdlbhgohmgbaa
