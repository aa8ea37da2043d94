/-
 Plain mathematics of chapter 13: d(k) is nought just if the first k rows depend on one another; the lists of d and g; bounds in limbs.
-/
import Derived.Test.YtnpneloahajniaaGreatGramFree
import Derived.Test.YtnpneloahajniaaGreatGramSize
import Derived.Test.YtnpneloahajniaaGreatJO
namespace Go.Proofs.YtnpneloahajniaaGreat
open Go.RowKit Lb
set_option maxRecDepth 20000

theorem gramD_dep {N n : Nat} {b : Nat → Nat → Int} {c : Nat → Int} (hc : ∀ s, s < N → (sumN n fun t => c t * b t s) = 0) {i : Nat} (hi : i < n) (h : c i ≠ 0) : gramD N b n = 0 := by
 have hr : ∀ j, (sumN n fun t => c t * gramG N b t j) = 0 := fun j => by
  have e := dotN_sum N n c b (b j);rw [show (sumN n fun t => c t * gramG N b t j) = sumN n fun t => c t * dotN N (b t) (b j) from rfl, ← e];exact (sumN_congr fun s hs => by show (sumN n fun t => c t * b t s) * b j s = 0; rw [hc s hs, Int.zero_mul]).trans (sumN_nil0 N)
 have h1 : (sumN n fun t => c t * sumN n fun j => gramG N b t j * detL n (setR (gramG N b) i (unitR j))) = 0 := by
  rw [show (sumN n fun t => c t * sumN n fun j => gramG N b t j * detL n (setR (gramG N b) i (unitR j))) = sumN n fun t => sumN n fun j => (c t * gramG N b t j) * detL n (setR (gramG N b) i (unitR j)) from
   sumN_congr fun t _ => by rw [← sumN_mul]; exact sumN_congr fun j _ => (Int.mul_assoc _ _ _).symm, sumN_swap]
  exact (sumN_congr fun j _ => by rw [sumN_mul_right, hr j, Int.zero_mul]).trans (sumN_nil0 n)
 rw [show (sumN n fun t => c t * sumN n fun j => gramG N b t j * detL n (setR (gramG N b) i (unitR j))) = sumN n fun t => if t = i then c i * gramD N b n else 0 from
  sumN_congr fun t ht => by
   rw [detL_cross hi ht];by_cases e : t = i
   ·rw [if_pos e, if_pos e, e]; rfl
   ·rw [if_neg e, if_neg e, Int.mul_zero], sumN_single n i _ hi] at h1
 rcases Int.mul_eq_zero.1 h1 with e | e
 ·exact absurd e h
 ·exact e
theorem gramD_indep {N n : Nat} {b : Nat → Nat → Int} (h : gramD N b n ≠ 0) (c : Nat → Int) (hc : ∀ s, s < N → (sumN n fun t => c t * b t s) = 0) : ∀ t, t < n → c t = 0 := fun t ht => by
 by_cases e : c t = 0
 ·exact e
 ·exact absurd (gramD_dep hc ht e) h
theorem gramD_all {N n : Nat} {b : Nat → Nat → Int} (h : gramD N b n ≠ 0) : ∀ k, k ≤ n → 0 < gramD N b k := gramD_pos (gramD_indep h)
theorem gramD_nonneg (N : Nat) (b : Nat → Nat → Int) (n : Nat) : 0 ≤ gramD N b n := by
 by_cases e : gramD N b n = 0
 ·omega
 ·have := gramD_all e n (Nat.le_refl _); omega
theorem gramD_stays {N k m : Nat} {b : Nat → Nat → Int} (h : gramD N b k = 0) (hk : k ≤ m) : gramD N b m = 0 := by
 by_cases e : gramD N b m = 0
 ·exact e
 ·have := gramD_all e k hk; omega
theorem indep_gramD {l : List (List Int)} {N : Nat} (hN : ∀ r, r ∈ l → r.length ≤ N) : gramD N (ent l) l.length ≠ 0 ↔ Indep l.length (ent l) :=
 ⟨fun h c hc => gramD_indep h c fun s _ => hc s, fun h => by have := indep_pos h hN l.length (Nat.le_refl _); omega⟩
def gramV (N : Nat) (b : Nat → Nat → Int) (i j : Nat) : Int := if gramD N b j = 0 then 0 else gramM N b j i j
def gramL (N : Nat) (b : Nat → Nat → Int) (i : Nat) : List Int := (List.range i).map (gramV N b i)
def gramDs (N : Nat) (b : Nat → Nat → Int) (m : Nat) : List Int := (List.range (m + 1)).map (gramD N b)
def gramGs (N : Nat) (b : Nat → Nat → Int) (m : Nat) : List (List Int) := (List.range m).map (gramL N b)
theorem range_getD {f : Nat → Int} {n i : Nat} (h : i < n) : ((List.range n).map f).getD i 0 = f i := by simp [List.getD, h]
theorem range_getL {f : Nat → List Int} {n i : Nat} (h : i < n) : ((List.range n).map f).getD i [] = f i := by simp [List.getD, h]
theorem gramL_at {N : Nat} {b : Nat → Nat → Int} {i j : Nat} (h : j < i) : (gramL N b i).getD j 0 = gramV N b i j := range_getD h
theorem gramL_len (N : Nat) (b : Nat → Nat → Int) (i : Nat) : (gramL N b i).length = i := by simp [gramL]
theorem gramDs_at {N : Nat} {b : Nat → Nat → Int} {m k : Nat} (h : k ≤ m) : (gramDs N b m).getD k 0 = gramD N b k := range_getD (by omega)
theorem gramDs_len (N : Nat) (b : Nat → Nat → Int) (m : Nat) : (gramDs N b m).length = m + 1 := by simp [gramDs]
theorem gramDs_next (N : Nat) (b : Nat → Nat → Int) (m : Nat) : gramDs N b (m + 1) = gramDs N b m ++ [gramD N b (m + 1)] := by simp [gramDs, List.range_succ]
theorem gramGs_at {N : Nat} {b : Nat → Nat → Int} {m i : Nat} (h : i < m) : (gramGs N b m).getD i [] = gramL N b i := range_getL h
theorem gramGs_len (N : Nat) (b : Nat → Nat → Int) (m : Nat) : (gramGs N b m).length = m := by simp [gramGs]
theorem gramGs_next (N : Nat) (b : Nat → Nat → Int) (m : Nat) : gramGs N b (m + 1) = gramGs N b m ++ [gramL N b m] := by simp [gramGs, List.range_succ]
theorem share_step {N : Nat} {b : Nat → Nat → Int} {k n : Nat} (hn : gramD N b n ≠ 0) (hk : k < n) (i j : Nat) : gramD N b k ≠ 0 ∧ gramD N b k * gramM N b (k + 1) i j = gramD N b (k + 1) * gramM N b k i j - gramV N b i k * gramV N b j k := by
 have h := gramD_all hn k (by omega);have h0 : gramD N b k ≠ 0 := by omega
 refine ⟨h0, ?_⟩;unfold gramV;rw [if_neg h0, if_neg h0];exact gramM_next h0 i j
theorem share_diag {N : Nat} {b : Nat → Nat → Int} (i : Nat) : (if gramD N b i = 0 then 0 else gramM N b i i i) = gramD N b (i + 1) := by
 by_cases h : gramD N b i = 0
 ·rw [if_pos h, gramD_stays h (by omega)]
 ·rw [if_neg h, gramD_next h]
theorem abs_sq_lt {M P Q : Int} {A B : Nat} (h : M * M ≤ P * Q) (hP : P.natAbs < A) (hQ : Q.natAbs < B) (hAB : A ≤ B) : M.natAbs < B := by
 by_cases c : M.natAbs < B
 ·exact c
 ·exfalso
  have h1 : B * B ≤ M.natAbs * M.natAbs := Nat.mul_le_mul (by omega) (by omega);have h2 : (M.natAbs * M.natAbs : Nat) = (M * M).natAbs := (Int.natAbs_mul _ _).symm;have h3 : (P * Q).natAbs = P.natAbs * Q.natAbs := Int.natAbs_mul _ _;have h4 : (M * M).natAbs ≤ (P * Q).natAbs := by have := square_nonneg M; omega
  have h5 : P.natAbs * Q.natAbs < B * B := by
   refine Nat.lt_of_le_of_lt (Nat.mul_le_mul_right _ (show P.natAbs ≤ B by omega)) ?_;exact (Nat.mul_lt_mul_left (show 0 < B by omega)).2 hQ
  omega
theorem natAbs_mul_lt {x y : Int} {a b : Nat} (hx : x.natAbs < Bp a) (hy : y.natAbs < Bp b) : (x * y).natAbs < Bp (a + b) := by
 rw [Int.natAbs_mul, Bp_add];exact Nat.mul_lt_mul'' hx hy
theorem gramD_lt {N m q : Nat} {b : Nat → Nat → Int} (hq : ∀ t, t < m → (dotN N (b t) (b t)).natAbs < Bp q) : ∀ k, k ≤ m → (gramD N b k).natAbs < Bp (k * q + 1)
 | 0, _ => by rw [gramD_zero, Nat.zero_mul, Nat.zero_add, Bp_one]; decide
 | k + 1, hk => by
  have ih := gramD_lt hq k (by omega);by_cases h : gramD N b k = 0
  ·rw [gramD_stays h (Nat.le_succ k)]; exact Bp_pos _
  ·have hp := gramD_all h k (Nat.le_refl _);have h1 := gramD_le hp;have h2 := gramD_nonneg N b (k + 1);have h3 := natAbs_mul_lt ih (hq k (by omega));rw [show (k + 1) * q + 1 = k * q + 1 + q by rw [Nat.add_mul]; omega];omega
theorem gramM_lt {N m q : Nat} {b : Nat → Nat → Int} (hq : ∀ t, t < m → (dotN N (b t) (b t)).natAbs < Bp q) {k i j : Nat} (hk : k ≤ m) (hi : i < m) (hj : j < m) (h : gramD N b k ≠ 0) : (gramM N b k i j).natAbs < Bp (k * q + 1 + q) := by
 have hp := gramD_all h k (Nat.le_refl _);exact abs_sq_lt (gramM_le hp i j) (natAbs_mul_lt (gramD_lt hq k hk) (hq i hi)) (natAbs_mul_lt (gramD_lt hq k hk) (hq j hj)) (Nat.le_refl _)
theorem dotN_lt {N a : Nat} {x y : Nat → Int} (hN : N ≤ 1000) (hx : ∀ s, s < N → (x s).natAbs < Bp a) (hy : ∀ s, s < N → (y s).natAbs < Bp a) : (dotN N x y).natAbs < Bp (2 * a + 1) := by
 have h := sumN_abs (n := N) (f := fun s => x s * y s) (B := Bp (2 * a)) fun s hs => by
  have := natAbs_mul_lt (hx s hs) (hy s hs);rw [show 2 * a = a + a by omega];exact Nat.le_of_lt this
 rw [Bp_succ];have hp := Bp_pos (2 * a);refine Nat.lt_of_le_of_lt h ?_;rw [Nat.mul_comm N];exact (Nat.mul_lt_mul_left hp).2 (by omega)
theorem gramM_sq {N : Nat} {b : Nat → Nat → Int} {k : Nat} (hk : 0 < gramD N b k) (i : Nat) : gramM N b k i k * gramM N b k i k ≤ (gramD N b k * gramD N b (k + 1)) * dotN N (b i) (b i) := by
 have h := dotN_schwarz N (gramY N b k (b k)) (b i);rw [← gramD_square (by omega), gramY_comm (by omega) (b k) (b i)] at h;exact h
end Go.Proofs.YtnpneloahajniaaGreat
