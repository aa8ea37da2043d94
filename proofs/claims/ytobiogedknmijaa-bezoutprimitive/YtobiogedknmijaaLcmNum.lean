/-
  Plain mathematics of common divisors and multiples.
-/
import Derived.Test.YtobiogedknmijaaBGcd
namespace Go.Proofs.Ytobiogedknmijaa
open Go.RowKit Lb

theorem lcm_abs (x y : Int) : (x.tdiv (Int.gcd x y : Int) * y).natAbs = x.natAbs * y.natAbs / Int.gcd x y := by
  rw [Int.natAbs_mul, Int.natAbs_tdiv, Int.natAbs_natCast]
  exact Nat.div_mul_right_comm (Nat.gcd_dvd_left x.natAbs y.natAbs) y.natAbs
theorem lcm_eq (x y : Int) : (((x.tdiv (Int.gcd x y : Int) * y).natAbs : Nat) : Int) = (((x * y).natAbs : Nat) : Int).tdiv (Int.gcd x y : Int) := by
  rw [lcm_abs, Int.natAbs_mul]
  rfl
theorem lcm_is (x y : Int) : (x.tdiv (Int.gcd x y : Int) * y).natAbs = Nat.lcm x.natAbs y.natAbs := by rw [lcm_abs]; rfl
theorem lcm_facts (x y z : Int) : x ∣ (((x.tdiv (Int.gcd x y : Int) * y).natAbs : Nat) : Int) ∧ y ∣ (((x.tdiv (Int.gcd x y : Int) * y).natAbs : Nat) : Int) ∧ (((x.tdiv (Int.gcd x y : Int) * y).natAbs : Nat) : Int) ∣ x * y * z ∧ (((x.tdiv (Int.gcd x y : Int) * y).natAbs : Nat) : Int) * (Int.gcd x y : Int) = (((x * y).natAbs : Nat) : Int) ∧ 0 ≤ (((x.tdiv (Int.gcd x y : Int) * y).natAbs : Nat) : Int) := by
  rw [lcm_is]
  refine ⟨?_, ?_, ?_, ?_, by omega⟩
  · rw [← Int.natAbs_dvd_natAbs, Int.natAbs_natCast]; exact Nat.dvd_lcm_left _ _
  · rw [← Int.natAbs_dvd_natAbs, Int.natAbs_natCast]; exact Nat.dvd_lcm_right _ _
  · refine Int.dvd_mul_of_dvd_left ?_
    rw [← Int.natAbs_dvd_natAbs, Int.natAbs_natCast, Int.natAbs_mul]
    exact Nat.lcm_dvd (Nat.dvd_mul_right _ _) (Nat.dvd_mul_left _ _)
  · rw [← Int.natCast_mul, Int.natAbs_mul]
    congr 1
    rw [Nat.mul_comm]
    exact Nat.gcd_mul_lcm x.natAbs y.natAbs
/-- The greatest divisor of two is made of both; what divides both divides it. -/
theorem gcd_scale (x y c : Int) : (Int.gcd x y : Int) * (c.natAbs : Int) = (Int.gcd (x * c) (y * c) : Int) := by
  rw [Int.gcd_mul_right, Int.natCast_mul]
theorem gcd_dvd_both (x y : Int) : (Int.gcd x y : Int) ∣ x ∧ (Int.gcd x y : Int) ∣ y := ⟨Int.gcd_dvd_left .., Int.gcd_dvd_right ..⟩
theorem dvd_gcd_scale (x y c : Int) : c ∣ (Int.gcd (x * c) (y * c) : Int) := Int.dvd_coe_gcd (Int.dvd_mul_left _ _) (Int.dvd_mul_left _ _)
theorem sign_ge {x : Int} (h : 0 ≤ x) : 0 ≤ x.sign := by
  rcases Int.lt_trichotomy x 0 with c | c | c
  · omega
  · rw [c]; decide
  · rw [Int.sign_eq_one_of_pos c]; decide

#print axioms lcm_facts
#print axioms gcd_scale
end Go.Proofs.Ytobiogedknmijaa
