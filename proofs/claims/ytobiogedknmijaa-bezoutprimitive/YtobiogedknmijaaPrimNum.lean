/-
  Plain mathematics of a vector's greatest divisor: of multiples, of what is left by it.
-/
import Derived.Test.YtobiogedknmijaaBPrim
import Derived.Test.YtobiogedknmijaaLcmNum
namespace Go.Proofs.Ytobiogedknmijaa
open Go.RowKit Lb

theorem gcdF_mul (x : Int) : ∀ (l : List Int) (g : Nat), (l.map fun z => z * x).foldl (fun g z => Nat.gcd g z.natAbs) (x.natAbs * g) = x.natAbs * l.foldl (fun g z => Nat.gcd g z.natAbs) g := by
  intro l
  induction l with
  | nil => intro g; rfl
  | cons z l ih =>
    intro g
    rw [List.map_cons, List.foldl_cons, List.foldl_cons, Int.natAbs_mul, Nat.mul_comm z.natAbs, Nat.gcd_mul_left]
    exact ih _
theorem gcdL_mul (x : Int) (l : List Int) : gcdL (l.map fun z => z * x) = x.natAbs * gcdL l := by
  have := gcdF_mul x l 0
  rw [Nat.mul_zero] at this
  exact this
theorem gcdF_dvd : ∀ (l : List Int) (g : Nat), l.foldl (fun g z => Nat.gcd g z.natAbs) g ∣ g ∧ ∀ z ∈ l, l.foldl (fun g z => Nat.gcd g z.natAbs) g ∣ z.natAbs := by
  intro l
  induction l with
  | nil => intro g; exact ⟨Nat.dvd_refl _, fun z hz => absurd hz (by simp)⟩
  | cons z l ih =>
    intro g
    rw [List.foldl_cons]
    obtain ⟨h1, h2⟩ := ih (Nat.gcd g z.natAbs)
    refine ⟨Nat.dvd_trans h1 (Nat.gcd_dvd_left _ _), fun y hy => ?_⟩
    rcases List.mem_cons.1 hy with rfl | hy
    · exact Nat.dvd_trans h1 (Nat.gcd_dvd_right _ _)
    · exact h2 y hy
theorem gcdL_dvd {l : List Int} {z : Int} (h : z ∈ l) : (gcdL l : Int) ∣ z := by
  rw [← Int.natAbs_dvd_natAbs, Int.natAbs_natCast]
  exact (gcdF_dvd l 0).2 z h
theorem getD_mem {l : List Int} {i : Nat} (h : i < l.length) : l.getD i 0 ∈ l := by
  simp [List.getD, h]
theorem getD_map {l : List Int} {i : Nat} (f : Int → Int) (h : i < l.length) : (l.map f).getD i 0 = f (l.getD i 0) := by
  simp [List.getD, h]
theorem gcdL_zero {l : List Int} (h : gcdL l = 0) {i : Nat} (hi : i < l.length) : l.getD i 0 = 0 := by
  have := gcdL_dvd (getD_mem hi)
  rw [h] at this
  exact Int.zero_dvd.1 this
/-- Of a vector by its greatest divisor: 1, or 0. -/
theorem gcdL_prim (l : List Int) : gcdL (l.map fun z => z.tdiv (gcdL l : Int)) = if gcdL l = 0 then 0 else 1 := by
  by_cases h : gcdL l = 0
  · rw [if_pos h, h]
    have e : (l.map fun z => z.tdiv ((0 : Nat) : Int)) = l.map fun z => z * 0 := List.map_congr_left fun z _ => by simp
    rw [e, gcdL_mul]
    simp
  · rw [if_neg h]
    have e : ((l.map fun z => z.tdiv (gcdL l : Int)).map fun z => z * (gcdL l : Int)) = l := by
      rw [List.map_map]
      have : ∀ z ∈ l, ((fun z => z * (gcdL l : Int)) ∘ fun z => z.tdiv (gcdL l : Int)) z = id z := fun z hz => Int.tdiv_mul_cancel (gcdL_dvd hz)
      rw [List.map_congr_left this, List.map_id]
    have h2 := gcdL_mul (gcdL l : Int) (l.map fun z => z.tdiv (gcdL l : Int))
    rw [e, Int.natAbs_natCast] at h2
    have h3 : gcdL l * 1 = gcdL l * gcdL (l.map fun z => z.tdiv (gcdL l : Int)) := by rw [Nat.mul_one]; exact h2
    exact (Nat.eq_of_mul_eq_mul_left (Nat.pos_of_ne_zero h) h3).symm
theorem tdiv_sign_mul {z x : Int} {g : Nat} (hx : x ≠ 0) : (z * x).tdiv ((x.natAbs * g : Nat) : Int) = z.tdiv (g : Int) * x.sign := by
  rcases Int.lt_trichotomy x 0 with h | h | h
  · have e : ((x.natAbs * g : Nat) : Int) = -x * (g : Int) := by rw [Int.natCast_mul]; congr 1; omega
    rw [Int.sign_eq_neg_one_of_neg h, e, show z * x = -x * (-z) by rw [Int.neg_mul_neg, Int.mul_comm], Int.mul_tdiv_mul_of_pos (a := -x) (-z) (g : Int) (by omega), Int.neg_tdiv, Int.mul_neg, Int.mul_one]
  · exact absurd h hx
  · have e : ((x.natAbs * g : Nat) : Int) = x * (g : Int) := by rw [Int.natCast_mul]; congr 1; omega
    rw [Int.sign_eq_one_of_pos h, e, Int.mul_comm z x, Int.mul_tdiv_mul_of_pos (a := x) z (g : Int) h, Int.mul_one]
theorem gcd_snoc (l : List Int) (z : Int) : Int.gcd (gcdL l : Int) z = gcdL (l ++ [z]) := by
  rw [gcdL_snoc, Int.gcd, Int.natAbs_natCast]

#print axioms gcdL_prim
#print axioms tdiv_sign_mul
end Go.Proofs.Ytobiogedknmijaa
