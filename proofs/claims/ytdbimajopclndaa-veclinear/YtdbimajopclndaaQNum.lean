/-
  Plain mathematics of quotients of whole numbers: rounded to 0, with what is left from 0 on, the nearest one.
-/
import Derived.Test.YtdbimajopclndaaJD
namespace Go.Proofs.Ytdbimajopclndaa
open Go.RowKit Lb

theorem tdiv_sgnd (b b' : Bool) (M N : Nat) : (sgnd b M).tdiv (sgnd b' N) = sgnd (b != b') (M / N) := by
  cases b <;> cases b' <;> simp [sgnd, Int.neg_tdiv, Int.tdiv_neg, Int.neg_neg] <;> rfl
theorem tmod_sgnd (b b' : Bool) (M N : Nat) : (sgnd b M).tmod (sgnd b' N) = sgnd b (M % N) := by
  cases b <;> cases b' <;> simp [sgnd, Int.neg_tmod, Int.tmod_neg] <;> rfl
theorem tmod_abs_lt {x y : Int} (hy : y ≠ 0) : (x.tmod y).natAbs < y.natAbs := by
  rw [Int.natAbs_tmod]
  exact Nat.mod_lt _ (by omega)
theorem tmod_neg_iff (x y : Int) : x.tmod y < 0 ↔ ¬ (0 ≤ x ∨ y ∣ x) := by
  constructor
  · rintro h (h0 | h0)
    · have := Int.tmod_nonneg y h0
      omega
    · rw [Int.tmod_eq_zero_of_dvd h0] at h
      omega
  · intro h
    have h1 : ¬ 0 ≤ x := fun e => h (Or.inl e)
    have h2 : x.tmod y ≠ 0 := fun e => h (Or.inr (Int.dvd_of_tmod_eq_zero e))
    have h3 := Int.tmod_nonneg y (show 0 ≤ -x by omega)
    rw [Int.neg_tmod] at h3
    omega
/-- What is left from 0 on, out of what is left with the sign of the one divided. -/
theorem emod_of_tmod (x y : Int) : x % y = if x.tmod y < 0 then x.tmod y + y.natAbs else x.tmod y := by
  rw [Int.emod_eq_tmod]
  by_cases h : 0 ≤ x ∨ y ∣ x
  · rw [if_pos h, if_neg (fun e => (tmod_neg_iff x y).1 e h)]; simp
  · rw [if_neg h, if_pos ((tmod_neg_iff x y).2 h)]
theorem ediv_of_tdiv (x y : Int) : x / y = if x.tmod y < 0 then x.tdiv y - y.sign else x.tdiv y := by
  rw [Int.ediv_eq_tdiv]
  by_cases h : 0 ≤ x ∨ y ∣ x
  · rw [if_pos h, if_neg (fun e => (tmod_neg_iff x y).1 e h)]; simp
  · rw [if_neg h, if_pos ((tmod_neg_iff x y).2 h)]
/-- The whole number nearest to x by y; of two as near the greater one. -/
def near (x y : Int) : Int := if y < 0 then (2 * -x + -y) / (2 * -y) else (2 * x + y) / (2 * y)
theorem near_pos {x y n : Int} (hy : 0 < y) : near x y = n ↔ 2 * (x - n * y) < y ∧ -y ≤ 2 * (x - n * y) := by
  unfold near
  rw [if_neg (by omega)]
  have h := Int.ediv_emod_unique (a := 2 * x + y) (b := 2 * y) (r := 2 * x + y - 2 * y * n) (q := n) (by omega)
  have e1 : 2 * (x - n * y) = 2 * x - 2 * (n * y) := by rw [Int.mul_sub]
  have e2 : 2 * y * n = 2 * (n * y) := by rw [Int.mul_assoc, Int.mul_comm y n]
  constructor
  · intro e
    have e3 := Int.emod_def (2 * x + y) (2 * y)
    rw [e] at e3
    have := (h.1 ⟨e, e3⟩).2
    omega
  · intro e
    exact (h.2 ⟨by omega, by omega, by omega⟩).1
theorem near_neg {x y : Int} (hy : y < 0) : near x y = near (-x) (-y) := by
  unfold near
  rw [if_pos hy, if_neg (by omega)]
theorem near_is {x y n : Int} (hy : y ≠ 0) : near x y = n ↔ 2 * (x - n * y) * y.sign < y.natAbs ∧ -(y.natAbs : Int) ≤ 2 * (x - n * y) * y.sign := by
  rcases Int.lt_trichotomy y 0 with h | h | h
  · rw [near_neg h, near_pos (by omega), Int.sign_eq_neg_one_of_neg h]
    have e1 : n * -y = -(n * y) := by rw [Int.mul_neg]
    rw [e1, show (y.natAbs : Int) = -y by omega, Int.mul_neg, Int.mul_one]
    constructor <;> intro e <;> omega
  · exact absurd h hy
  · rw [near_pos h, Int.sign_eq_one_of_pos h, Int.mul_one, show (y.natAbs : Int) = y by omega]

#print axioms emod_of_tmod
#print axioms ediv_of_tdiv
#print axioms near_is
#print axioms tdiv_sgnd
#print axioms tmod_sgnd
end Go.Proofs.Ytdbimajopclndaa
