/-
 Plain mathematics of common divisors: Euclid's rule on rows of three numbers, how great its numbers are, what it tells at its end.
-/
import Derived.Test.YtnpneloahajniaaGreatJE
namespace Go.Proofs.YtnpneloahajniaaGreat
open Go.RowKit Lb
set_option maxRecDepth 20000

theorem lt_of_abs {X Y : Int} {g : Nat} (h : Y.natAbs = g) (h0 : Y ≠ 0) : (X.tmod Y).natAbs < g := h ▸ tmod_abs_lt h0

def extR (p0 p1 p2 q0 q1 q2 : Int) : Int × Int × Int :=
 if q0 = 0 then (p0, p1, p2) else extR q0 q1 q2 (p0.tmod q0) (p1 - p0.tdiv q0 * q1) (p2 - p0.tdiv q0 * q2)
termination_by q0.natAbs
decreasing_by exact tmod_abs_lt ‹_›
theorem extR_zero (p0 p1 p2 q1 q2 : Int) : extR p0 p1 p2 0 q1 q2 = (p0, p1, p2) := by
 rw [extR, if_pos rfl]
theorem extR_more {p0 p1 p2 q0 q1 q2 : Int} (h : q0 ≠ 0) : extR p0 p1 p2 q0 q1 q2 = extR q0 q1 q2 (p0.tmod q0) (p1 - p0.tdiv q0 * q1) (p2 - p0.tdiv q0 * q2) := by
 rw [extR, if_neg h]
def extE (r : Int × Int × Int) : Int × Int × Int := if r.1 < 0 then (-r.1, -r.2.1, -r.2.2) else r
def extG (a b : Int) : Int := (extE (extR a 1 0 b 0 1)).1
def extX (a b : Int) : Int := (extE (extR a 1 0 b 0 1)).2.1
def extY (a b : Int) : Int := (extE (extR a 1 0 b 0 1)).2.2

theorem sub_tdiv (p q : Int) : p - p.tdiv q * q = p.tmod q := by
 have := Int.tmod_add_tdiv_mul p q;omega
theorem gcd_tmod (p q : Int) : Int.gcd q (p.tmod q) = Int.gcd p q := by
 rw [Int.gcd, Int.gcd, Int.natAbs_tmod, Nat.gcd_comm, Nat.gcd_comm p.natAbs, ← Nat.gcd_rec]
theorem abs_sub_opp {x y : Int} (h : x * y ≤ 0) : (x - y).natAbs = x.natAbs + y.natAbs := by
 rcases Int.lt_trichotomy x 0 with hx | hx | hx
 ·have : 0 ≤ y := by
   rcases Int.lt_or_le y 0 with hy | hy
   ·have := Int.mul_pos_of_neg_of_neg hx hy; omega
   ·exact hy
  omega
 ·subst hx; simp
 ·have : y ≤ 0 := by
   rcases Int.lt_or_le 0 y with hy | hy
   ·have := Int.mul_pos hx hy; omega
   ·exact hy
  omega
def Col (p0 q0 u v : Int) (n : Nat) : Prop := p0.natAbs * v.natAbs + q0.natAbs * u.natAbs = n ∧ p0 * q0 * (u * v) ≤ 0 ∧ u.natAbs ≤ n + 1 ∧ v.natAbs ≤ n + 1
theorem tdiv_sign (p q : Int) : 0 ≤ p.tdiv q * (p * q) := by
 rcases Int.lt_trichotomy p 0 with hp | hp | hp <;> rcases Int.lt_trichotomy q 0 with hq | hq | hq <;> try (subst hp; simp) <;> try (subst hq; simp)
 ·have := Int.tdiv_nonneg (a := -p) (b := -q) (by omega) (by omega);rw [Int.neg_tdiv, Int.tdiv_neg, Int.neg_neg] at this;exact Int.mul_nonneg this (Int.le_of_lt (Int.mul_pos_of_neg_of_neg hp hq))
 ·subst hq; simp
 ·have := Int.tdiv_nonneg (a := -p) (b := q) (by omega) (by omega);rw [Int.neg_tdiv] at this;exact Int.mul_nonneg_of_nonpos_of_nonpos (by omega) (Int.mul_nonpos_of_nonpos_of_nonneg (by omega) (by omega))
 ·have := Int.tdiv_nonneg (a := p) (b := -q) (by omega) (by omega);rw [Int.tdiv_neg] at this;exact Int.mul_nonneg_of_nonpos_of_nonpos (by omega) (Int.mul_nonpos_of_nonneg_of_nonpos (by omega) (by omega))
 ·subst hq; simp
 ·exact Int.mul_nonneg (Int.tdiv_nonneg (by omega) (by omega)) (Int.mul_nonneg (by omega) (by omega))
theorem tmod_sign (p q : Int) : 0 ≤ p.tmod q * p := by
 rcases Int.lt_or_le p 0 with hp | hp
 ·have := Int.tmod_nonneg (a := -p) q (by omega);rw [Int.neg_tmod] at this;exact Int.mul_nonneg_of_nonpos_of_nonpos (by omega) (by omega)
 ·exact Int.mul_nonneg (Int.tmod_nonneg q hp) hp
theorem sgn_mul_le {x y : Int} : x * y ≤ 0 ↔ x.sign * y.sign ≤ 0 := by
 rcases Int.lt_trichotomy x 0 with hx | hx | hx <;> rcases Int.lt_trichotomy y 0 with hy | hy | hy
 ·rw [Int.sign_eq_neg_one_of_neg hx, Int.sign_eq_neg_one_of_neg hy];have := Int.mul_pos_of_neg_of_neg hx hy;omega
 ·subst hy; simp
 ·rw [Int.sign_eq_neg_one_of_neg hx, Int.sign_eq_one_of_pos hy];have := Int.mul_neg_of_neg_of_pos hx hy;omega
 ·subst hx; simp
 ·subst hx; simp
 ·subst hx; simp
 ·rw [Int.sign_eq_one_of_pos hx, Int.sign_eq_neg_one_of_neg hy];have := Int.mul_neg_of_pos_of_neg hx hy;omega
 ·subst hy; simp
 ·rw [Int.sign_eq_one_of_pos hx, Int.sign_eq_one_of_pos hy];have := Int.mul_pos hx hy;omega
theorem tri (x : Int) : x.sign = 0 ∨ x.sign = 1 ∨ x.sign = -1 := by
 rcases Int.lt_trichotomy x 0 with hx | hx | hx
 ·right; right; exact Int.sign_eq_neg_one_of_neg hx
 ·left; subst hx; rfl
 ·right; left; exact Int.sign_eq_one_of_pos hx
theorem sgn_ge {x y : Int} (h : 0 ≤ x * y) : 0 ≤ x.sign * y.sign := by
 have h1 : -x * y ≤ 0 := by rw [Int.neg_mul]; omega
 have h2 := sgn_mul_le.1 h1;rw [Int.sign_neg, Int.neg_mul] at h2;omega
theorem Col.step {p0 q0 u v : Int} {n : Nat} (h : Col p0 q0 u v n) (h0 : q0 ≠ 0) : Col q0 (p0.tmod q0) v (u - p0.tdiv q0 * v) n := by
 obtain ⟨h1, h2, h3, h4⟩ := h;obtain ⟨k, hk⟩ : ∃ k, k = p0.tdiv q0 := ⟨_, rfl⟩;obtain ⟨r, hr⟩ : ∃ r, r = p0.tmod q0 := ⟨_, rfl⟩;have kp := sgn_ge (tdiv_sign p0 q0);have rp := sgn_ge (tmod_sign p0 q0);have ke : p0.natAbs = k.natAbs * q0.natAbs + r.natAbs := by
  rw [hk, hr, Int.natAbs_tdiv, Int.natAbs_tmod];have := Nat.div_add_mod p0.natAbs q0.natAbs;rw [Nat.mul_comm] at this;exact this.symm
 have hk0 : p0.sign = 0 → k.sign = 0 := fun e => by rw [hk, Int.sign_eq_zero_iff_zero.1 e]; simp
 have hr0 : p0.sign = 0 → r.sign = 0 := fun e => by rw [hr, Int.sign_eq_zero_iff_zero.1 e]; simp
 rw [← hk] at kp ⊢;rw [← hr] at rp ⊢;clear hk hr;rw [sgn_mul_le, Int.sign_mul, Int.sign_mul] at h2;rw [Int.sign_mul] at kp;have hq : q0.sign ≠ 0 := fun e => h0 (Int.sign_eq_zero_iff_zero.1 e);have opp : u * (k * v) ≤ 0 := by
  rw [sgn_mul_le, Int.sign_mul];rcases tri p0 with a | a | a <;> rcases tri q0 with b | b | b <;> rcases tri u with c | c | c <;> rcases tri v with d | d | d <;> rcases tri k with e | e | e <;> rw [a, b, c, d] at h2 <;> rw [a, b, e] at kp <;> rw [a, e] at hk0 <;> rw [b] at hq <;> rw [c, d, e] <;> revert h2 kp hk0 hq <;> decide
 have habs : (u - k * v).natAbs = u.natAbs + k.natAbs * v.natAbs := by rw [abs_sub_opp opp, Int.natAbs_mul]
 have e1 : q0.natAbs * (u - k * v).natAbs + r.natAbs * v.natAbs = n := by
  rw [habs, Nat.mul_add, ← h1, ke, Nat.add_mul, ← Nat.mul_assoc, Nat.mul_comm q0.natAbs k.natAbs];omega
 refine ⟨e1, ?_, h4, ?_⟩
 ·rw [sgn_mul_le, Int.sign_mul, Int.sign_mul];have hs : (u - k * v).sign = u.sign ∨ (u - k * v).sign = -(k.sign * v.sign) := by
   rcases Int.lt_trichotomy u 0 with c | c | c
   ·have d : 0 ≤ k * v := by
     rcases Int.lt_or_le (k * v) 0 with d | d
     ·have := Int.mul_pos_of_neg_of_neg c d; omega
     ·exact d
    left; rw [Int.sign_eq_neg_one_of_neg c, Int.sign_eq_neg_one_of_neg (by omega)]
   ·right; subst c; rw [Int.zero_sub, Int.sign_neg, Int.sign_mul]
   ·have d : k * v ≤ 0 := by
     rcases Int.lt_or_le 0 (k * v) with d | d
     ·have := Int.mul_pos c d; omega
     ·exact d
    left; rw [Int.sign_eq_one_of_pos c, Int.sign_eq_one_of_pos (by omega)]
  rcases hs with hs | hs <;> rw [hs] <;> clear hs habs e1 opp ke h1 h3 h4
  ·rcases tri p0 with a | a | a <;> rcases tri q0 with b | b | b <;> rcases tri u with c | c | c <;> rcases tri v with d | d | d <;> rcases tri r with e | e | e <;> rw [a, b, c, d] at h2 <;> rw [a, e] at rp hr0 <;> rw [b, c, d, e] <;> revert h2 rp hr0 <;> decide
  ·rcases tri p0 with a | a | a <;> rcases tri q0 with b | b | b <;> rcases tri k with c | c | c <;> rcases tri v with d | d | d <;> rcases tri r with e | e | e <;> rw [a, b, c] at kp <;> rw [a, e] at rp hr0 <;> rw [b, c, d, e] <;> revert kp rp hr0 <;> decide
 ·have hq1 : 1 ≤ q0.natAbs := by omega
  have := Nat.le_mul_of_pos_left (u - k * v).natAbs hq1;omega
theorem col_start1 (a b : Int) : Col a b 1 0 b.natAbs := ⟨by simp, by simp, by simp, by simp⟩
theorem col_start2 (a b : Int) : Col a b 0 1 a.natAbs := ⟨by simp, by simp, by simp, by simp⟩
structure ExtIn (a b p0 p1 p2 q0 q1 q2 : Int) : Prop where
 mp : a * p1 + b * p2 = p0
 mq : a * q1 + b * q2 = q0
 g : Int.gcd p0 q0 = Int.gcd a b
 c1 : Col p0 q0 p1 q1 b.natAbs
 c2 : Col p0 q0 p2 q2 a.natAbs
 np : p0.natAbs ≤ max a.natAbs b.natAbs
 nq : q0.natAbs ≤ max a.natAbs b.natAbs
theorem extIn_start (a b : Int) : ExtIn a b a 1 0 b 0 1 := ⟨by simp, by simp, rfl, col_start1 a b, col_start2 a b, by omega, by omega⟩
theorem ExtIn.step {a b p0 p1 p2 q0 q1 q2 : Int} (h : ExtIn a b p0 p1 p2 q0 q1 q2) (h0 : q0 ≠ 0) :
  ExtIn a b q0 q1 q2 (p0.tmod q0) (p1 - p0.tdiv q0 * q1) (p2 - p0.tdiv q0 * q2) := by
 refine ⟨h.mq, ?_, (gcd_tmod p0 q0).trans h.g, h.c1.step h0, h.c2.step h0, h.nq, ?_⟩
 ·have h1 := h.mp;have h2 := h.mq;rw [← sub_tdiv, Int.mul_sub, Int.mul_sub];have h3 : a * (p0.tdiv q0 * q1) + b * (p0.tdiv q0 * q2) = p0.tdiv q0 * q0 := by
   rw [Int.mul_left_comm a, Int.mul_left_comm b, ← Int.mul_add, h2]
  omega
 ·have := tmod_abs_lt (x := p0) h0;have := h.nq;omega
theorem extR_is {a b : Int} : ∀ (n : Nat) {p0 p1 p2 q0 q1 q2 : Int}, q0.natAbs ≤ n → ExtIn a b p0 p1 p2 q0 q1 q2 → ∃ u v, ExtIn a b (extR p0 p1 p2 q0 q1 q2).1 (extR p0 p1 p2 q0 q1 q2).2.1 (extR p0 p1 p2 q0 q1 q2).2.2 0 u v := by
 intro n
 induction n with
 | zero =>
  intro p0 p1 p2 q0 q1 q2 hn h;obtain rfl : q0 = 0 := by omega
  rw [extR_zero];exact ⟨_, _, h⟩
 | succ n ih =>
  intro p0 p1 p2 q0 q1 q2 hn h;by_cases h0 : q0 = 0
  ·subst h0;rw [extR_zero];exact ⟨_, _, h⟩
  ·rw [extR_more h0];have := tmod_abs_lt (x := p0) h0;exact ih (by omega) (h.step h0)
theorem ext_tells (a b : Int) : extG a b = (Int.gcd a b : Int) ∧ a * extX a b + b * extY a b = (Int.gcd a b : Int) ∧ (extX a b).natAbs ≤ b.natAbs + 1 ∧ (extY a b).natAbs ≤ a.natAbs + 1 := by
 obtain ⟨u, v, h⟩ := extR_is _ (Nat.le_refl _) (extIn_start a b);unfold extG extX extY extE;generalize extR a 1 0 b 0 1 = r at h;obtain ⟨r0, r1, r2⟩ := r;have h1 := h.g;have h2 := h.mp;have h3 := h.c1.2.2.1;have h4 := h.c2.2.2.1;dsimp only at h1 h2 h3 h4 ⊢;rw [Int.gcd_zero_right] at h1;by_cases hr : r0 < 0
 ·rw [if_pos hr];dsimp only;rw [Int.mul_neg, Int.mul_neg, Int.natAbs_neg, Int.natAbs_neg];refine ⟨by omega, by omega, h3, h4⟩
 ·rw [if_neg hr];dsimp only;refine ⟨by omega, by omega, h3, h4⟩

end Go.Proofs.YtnpneloahajniaaGreat
