/-
 Plain mathematics of chapter 13: how great a row's numbers are, by the d's and how great its g's are.
-/
import Derived.Test.YtnpneloahajniaaGreatGramStep
namespace Go.Proofs.YtnpneloahajniaaGreat
open Go.RowKit Lb
set_option maxRecDepth 20000

def gramQ (N : Nat) (b : Nat → Nat → Int) (k : Nat) (x : Nat → Int) : Int := dotN N (gramY N b k x) x
theorem gramQ_zero (N : Nat) (b : Nat → Nat → Int) (x : Nat → Int) : gramQ N b 0 x = dotN N x x := by
 unfold gramQ;exact dotN_congr fun s _ => by show gramD N b 0 * x s - sumN 0 _ = x s; rw [gramD_zero, sumN]; omega
theorem gramY_comm {N : Nat} {b : Nat → Nat → Int} {k : Nat} (hk : gramD N b k ≠ 0) (x y : Nat → Int) : dotN N (gramY N b k x) y = dotN N (gramY N b k y) x := by
 have h1 := gramY_dot (N := N) (b := b) (k := k) x y;have h2 := gramY_dot (N := N) (b := b) (k := k) y x;rw [dotN_comm, h1] at h2;exact Int.eq_of_mul_eq_mul_left hk h2
theorem gramQ_next {N : Nat} {b : Nat → Nat → Int} {k : Nat} (hk : gramD N b k ≠ 0) (x : Nat → Int) :
  gramD N b (k + 1) * gramQ N b k x = gramD N b k * gramQ N b (k + 1) x + dotN N (gramY N b k x) (b k) * dotN N (gramY N b k x) (b k) := by
 have h : gramD N b k * gramQ N b (k + 1) x = gramD N b (k + 1) * gramQ N b k x - dotN N (gramY N b k x) (b k) * dotN N (gramY N b k (b k)) x := by
  unfold gramQ;rw [← dotN_times, dotN_congr (fun s hs => gramY_next hk x hs), dotN_sub, dotN_times, dotN_times]
 rw [gramY_comm hk (b k) x] at h;omega
def normS (N : Nat) (b : Nat → Nat → Int) (T : Nat → Int) (i : Nat) : Nat → Int
 | 0 => gramD N b (i + 1)
 | d + 1 => normS N b T i d + T (i - (d + 1)) * gramD N b (i - d)
theorem gram_norm {N n i : Nat} {b : Nat → Nat → Int} {T : Nat → Int} (hi : i < n) (hp : ∀ k, k ≤ n → 0 < gramD N b k)
  (hT : ∀ k, k < i → gramM N b k i k * gramM N b k i k ≤ T k * (gramD N b (k + 1) * gramD N b (k + 1))) (hT0 : ∀ k, 0 ≤ T k) :
  ∀ d, d ≤ i → gramQ N b (i - d) (b i) ≤ gramD N b (i - d) * normS N b T i d
 | 0, _ => by
  have h0 := hp i (by omega);have h1 := hp (i + 1) (by omega);rw [Nat.sub_zero, normS];have e : gramQ N b i (b i) = gramD N b (i + 1) := by rw [gramD_next (by omega)]; rfl
  rw [e];have := Int.mul_le_mul_of_nonneg_right (show (1 : Int) ≤ gramD N b i by omega) (Int.le_of_lt h1);omega
 | d + 1, hd => by
  have ih := gram_norm hi hp hT hT0 d (by omega);rw [normS];obtain ⟨k, hk⟩ : ∃ k, i - (d + 1) = k := ⟨_, rfl⟩;rw [show i - d = k + 1 by omega] at ih ⊢;rw [hk];have p0 := hp k (by omega);have p1 := hp (k + 1) (by omega);have hn := gramQ_next (N := N) (b := b) (k := k) (by omega) (b i);have ht := hT k (by omega);have h0 := hT0 k;unfold gramM at ht;generalize dotN N (gramY N b k (b i)) (b k) * dotN N (gramY N b k (b i)) (b k) = M at hn ht;generalize normS N b T i d = S at ih ⊢;generalize gramQ N b (k + 1) (b i) = Q1 at ih hn;generalize gramQ N b k (b i) = Q at hn ⊢;generalize gramD N b (k + 1) = D1 at *;generalize gramD N b k = D at *;generalize T k = t at ht h0 ⊢;have h1 := Int.mul_le_mul_of_nonneg_left ih (Int.le_of_lt p0);have h2 : D1 * Q ≤ D1 * (D * S + t * D1) := by
   rw [hn, Int.mul_add, show D1 * (D * S) = D * (D1 * S) from Int.mul_left_comm _ _ _, show D1 * (t * D1) = t * (D1 * D1) from Int.mul_left_comm _ _ _];omega
  have h3 := Int.le_of_mul_le_mul_left h2 p1;refine Int.le_trans h3 ?_;rw [Int.mul_add];have := Int.mul_le_mul_of_nonneg_right (show (1 : Int) ≤ D by omega) (Int.mul_nonneg h0 (Int.le_of_lt p1));omega
theorem gram_row {N n i : Nat} {b : Nat → Nat → Int} {T : Nat → Int} (hi : i < n) (hp : ∀ k, k ≤ n → 0 < gramD N b k)
  (hT : ∀ k, k < i → gramM N b k i k * gramM N b k i k ≤ T k * (gramD N b (k + 1) * gramD N b (k + 1))) (hT0 : ∀ k, 0 ≤ T k) : dotN N (b i) (b i) ≤ normS N b T i i := by
 have h := gram_norm hi hp hT hT0 i (Nat.le_refl _);rw [Nat.sub_self, gramQ_zero, gramD_zero, Int.one_mul] at h;exact h
theorem normS_le {N n i : Nat} {b : Nat → Nat → Int} {T : Nat → Int} {A B : Int} (hi : i < n) (hA : ∀ k, k ≤ n → 0 ≤ gramD N b k ∧ gramD N b k ≤ A) (hT : ∀ k, 0 ≤ T k ∧ T k ≤ B) : ∀ d, d ≤ i → normS N b T i d ≤ A + d * (B * A)
 | 0, _ => by rw [normS]; have := (hA (i + 1) (by omega)).2; simp; omega
 | d + 1, hd => by
  rw [normS];have ih := normS_le hi hA hT d (by omega);have h1 := hT (i - (d + 1));have h2 := hA (i - d) (by omega);have h3 := Int.mul_le_mul h1.2 h2.2 h2.1 (Int.le_trans h1.1 h1.2);rw [Int.natCast_add, Int.add_mul];simp only [Int.natCast_one, Int.one_mul];omega
theorem ent_le_dot {N : Nat} {x : Nat → Int} {s : Nat} (hs : s < N) : (x s).natAbs ≤ (dotN N x x).natAbs := by
 have h1 : x s * x s ≤ dotN N x x := by
  unfold dotN;have : ∀ n, s < n → x s * x s ≤ sumN n fun t => x t * x t := by
   intro n hn
   induction n with
   | zero => omega
   | succ n ih =>
    rw [sumN];by_cases e : s = n
    ·rw [e]; have := sumN_nonneg (n := n) (f := fun t => x t * x t) fun t => square_nonneg (x t); omega
    ·have := ih (by omega); have := square_nonneg (x n); omega
  exact this N hs
 have h2 : x s * x s = (((x s).natAbs * (x s).natAbs : Nat) : Int) := by rw [Int.natAbs_mul_self]
 have h3 : (x s).natAbs ≤ (x s).natAbs * (x s).natAbs := Nat.le_mul_self _;omega
theorem turnR_lt {N : Nat} {b : Nat → Nat → Int} {i : Nat} (h0 : 0 < gramD N b i) (h1 : 0 < gramD N b (i + 1)) (h2 : 0 < gramD N b (i + 2))
  (h : 4 * (gramD N b (i + 2) * gramD N b i + gramM N b i (i + 1) i * gramM N b i (i + 1) i) < 3 * (gramD N b (i + 1) * gramD N b (i + 1))) : gramD N (turnR b i) (i + 1) < gramD N b (i + 1) := by
 have hd := turnR_pos h0 h1 h2;rw [← turnR_D (by omega) (by omega)] at h;refine Int.lt_of_mul_lt_mul_left (a := gramD N b (i + 1)) ?_ (by omega);have := Int.mul_pos h1 h1;have := Int.mul_pos h1 hd;omega

end Go.Proofs.YtnpneloahajniaaGreat
