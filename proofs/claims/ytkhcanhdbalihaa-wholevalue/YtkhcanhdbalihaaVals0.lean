/-
  The contracts of package limb and of the reference, told of numbers (IN PARTS): a row that reads as a number, with or without noughts at its end.
-/
import Derived.Test.YtkhcanhdbalihaaVal
import Derived.Test.YtkhcanhdbalihaaTrim
import Derived.Test.YtkhcanhdbalihaaAdd
import Derived.Test.YtkhcanhdbalihaaCmp
import Derived.Test.YtkhcanhdbalihaaSame
import Derived.Test.YtkhcanhdbalihaaRefMul
import Derived.Test.YtkhcanhdbalihaaRefAdd
import Derived.Test.YtkhcanhdbalihaaRefSub
import Derived.Test.YtkhcanhdbalihaaSub
import Derived.Test.YtkhcanhdbalihaaBits
namespace Go.Proofs.Ytkhcanhdbalihaa
open Go.RowKit Lb

theorem trim_num (aa : Option Addr) (la ca A : Nat) (w : World) (ha : ValAt w aa la ca A) (hla : la ≤ 1000000) : Calls Try.prog 32 #[.slice aa la ca] w fun e w' => ∃ ao' len' cap', e = .returned (.slice ao' len' cap') ∧ NumAt w' ao' len' cap' A ∧ Below w.heap.size w w' := by
  obtain ⟨xs, hx, rfl⟩ := ha
  exact trim_any _ _ _ xs w hx (by omega)
theorem add_num (aa : Option Addr) (la ca A : Nat) (ab : Option Addr) (lb cb B : Nat) (w : World) (ha : ValAt w aa la ca A) (hb : ValAt w ab lb cb B) (hla : la ≤ 1000000) (hlb : lb ≤ 1000000) : Calls Try.prog 38 #[.slice aa la ca, .slice ab lb cb] w fun e w' => ∃ ao' len' cap', e = .returned (.slice ao' len' cap') ∧ NumAt w' ao' len' cap' (A + B) ∧ Below w.heap.size w w' := by
  obtain ⟨xs, hx, rfl⟩ := ha
  obtain ⟨ys, hy, rfl⟩ := hb
  exact add_any _ _ _ xs _ _ _ ys w hx hy (by omega) (by omega)
theorem rmul_num (aa : Option Addr) (la ca A : Nat) (ab : Option Addr) (lb cb B : Nat) (w : World) (ha : ValAt w aa la ca A) (hb : ValAt w ab lb cb B) (hla : la ≤ 1000000) (hlb : lb ≤ 1000000) : Calls Try.prog 44 #[.slice aa la ca, .slice ab lb cb] w fun e w' => ∃ ao' len' cap', e = .returned (.slice ao' len' cap') ∧ NumAt w' ao' len' cap' (A * B) ∧ Below w.heap.size w w' := by
  obtain ⟨xs, hx, rfl⟩ := ha
  obtain ⟨ys, hy, rfl⟩ := hb
  exact rmul_any _ _ _ xs _ _ _ ys w hx hy (by omega) (by omega)
theorem cmp_num (aa : Option Addr) (la ca A : Nat) (ab : Option Addr) (lb cb B : Nat) (w : World) (ha : ValAt w aa la ca A) (hb : ValAt w ab lb cb B) :
    Calls Try.prog 37 #[.slice aa la ca, .slice ab lb cb] w fun e w' => e = .returned (.int .i64 (cmpI A B)) ∧ Below w.heap.size w w' := by
  obtain ⟨xs, hx, rfl⟩ := ha
  obtain ⟨ys, hy, rfl⟩ := hb
  exact cmp_any _ _ _ xs _ _ _ ys w hx hy

theorem radd_num (aa : Option Addr) (la ca A : Nat) (ab : Option Addr) (lb cb B : Nat) (w : World) (ha : ValAt w aa la ca A) (hb : ValAt w ab lb cb B) (hla : la ≤ 1000000) (hlb : lb ≤ 1000000) : Calls Try.prog 40 #[.slice aa la ca, .slice ab lb cb] w fun e w' => ∃ ao' len' cap', e = .returned (.slice ao' len' cap') ∧ NumAt w' ao' len' cap' (A + B) ∧ Below w.heap.size w w' := by
  obtain ⟨xs, hx, rfl⟩ := ha
  obtain ⟨ys, hy, rfl⟩ := hb
  exact radd_any _ _ _ xs _ _ _ ys w hx hy (by omega) (by omega)
theorem rsub_num (aa : Option Addr) (la ca A : Nat) (ab : Option Addr) (lb cb B : Nat) (w : World) (ha : ValAt w aa la ca A) (hb : ValAt w ab lb cb B) (hla : la ≤ 1000000) (hlb : lb ≤ 1000000) (hle : B ≤ A) : Calls Try.prog 42 #[.slice aa la ca, .slice ab lb cb] w fun e w' => ∃ ao' len' cap', e = .returned (.slice ao' len' cap') ∧ NumAt w' ao' len' cap' (A - B) ∧ Below w.heap.size w w' := by
  obtain ⟨xs, hx, rfl⟩ := ha
  obtain ⟨ys, hy, rfl⟩ := hb
  exact rsub_any _ _ _ xs _ _ _ ys w hx hy (by omega) (by omega) hle
theorem rcmp_num (aa : Option Addr) (la ca A : Nat) (ab : Option Addr) (lb cb B : Nat) (w : World) (ha : ValAt w aa la ca A) (hb : ValAt w ab lb cb B) :
    Calls Try.prog 41 #[.slice aa la ca, .slice ab lb cb] w fun e w' => e = .returned (.int .i64 (cmpI A B)) ∧ w = w' := by
  obtain ⟨xs, hx, rfl⟩ := ha
  obtain ⟨ys, hy, rfl⟩ := hb
  exact rcmp_any _ _ _ xs _ _ _ ys w hx hy
theorem sub_num (aa : Option Addr) (la ca A : Nat) (ab : Option Addr) (lb cb B : Nat) (w : World) (ha : ValAt w aa la ca A) (hb : ValAt w ab lb cb B) (hla : la ≤ 1000000) (hle : B ≤ A) : Calls Try.prog 39 #[.slice aa la ca, .slice ab lb cb] w fun e w' => ∃ ao' len' cap', e = .returned (.tuple #[.slice ao' len' cap', .bool true]) ∧ NumAt w' ao' len' cap' (A - B) ∧ Below w.heap.size w w' := by
  obtain ⟨xs, hx, rfl⟩ := ha
  obtain ⟨ys, hy, rfl⟩ := hb
  exact sub_yes _ _ _ xs _ _ _ ys w hx hy (by omega) hle
theorem sub_none (aa : Option Addr) (la ca A : Nat) (ab : Option Addr) (lb cb B : Nat) (w : World) (ha : ValAt w aa la ca A) (hb : ValAt w ab lb cb B) (hlt : A < B) : Calls Try.prog 39 #[.slice aa la ca, .slice ab lb cb] w fun e w' => e = .returned (.tuple #[.slice none 0 0, .bool false]) ∧ Below w.heap.size w w' := by
  obtain ⟨xs, hx, rfl⟩ := ha
  obtain ⟨ys, hy, rfl⟩ := hb
  exact sub_no _ _ _ xs _ _ _ ys w hx hy hlt
theorem bits_num (aa : Option Addr) (la ca A : Nat) (w : World) (ha : ValAt w aa la ca A) (hla : la ≤ 1000000) : Calls Try.prog 33 #[.slice aa la ca] w fun e w' => ∃ n : Nat, e = .returned (.int .i64 (n : Int)) ∧ IsBits A n ∧ w = w' := by
  obtain ⟨xs, hx, rfl⟩ := ha
  exact bits_any _ _ _ xs w hx (by omega)
theorem rtrim_num (aa : Option Addr) (la ca A : Nat) (w : World) (ha : ValAt w aa la ca A) (hla : la ≤ 1000000) : Calls Try.prog 35 #[.slice aa la ca] w fun e w' => ∃ ao' len' cap', e = .returned (.slice ao' len' cap') ∧ NumAt w' ao' len' cap' A ∧ Below w.heap.size w w' := by
  obtain ⟨xs, hx, rfl⟩ := ha
  exact rtrim_any _ _ _ xs w hx (by omega)

#print axioms rmul_num
#print axioms cmp_num
end Go.Proofs.Ytkhcanhdbalihaa
