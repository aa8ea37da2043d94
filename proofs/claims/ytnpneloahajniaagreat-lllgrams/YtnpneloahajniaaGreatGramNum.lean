/-
 Plain mathematics of chapter 13: the determinants of rows' Dots, what stands of a vector across the first k rows, times d(k): whole numbers; one step of the way without fractions; bounds; reduced rows and the first row's length.
-/
import Derived.Test.YtnpneloahajniaaGreatDetNum
namespace Go.Proofs.YtnpneloahajniaaGreat
open Go.RowKit Lb
set_option maxRecDepth 20000

theorem square_nonneg (x : Int) : 0 ≤ x * x := by
 rcases Int.le_total 0 x with h | h
 ·exact Int.mul_nonneg h h
 ·exact Int.mul_nonneg_of_nonpos_of_nonpos h h
def dotN (N : Nat) (x y : Nat → Int) : Int := sumN N fun s => x s * y s
theorem dotN_comm (N : Nat) (x y : Nat → Int) : dotN N x y = dotN N y x := sumN_congr fun _ _ => Int.mul_comm _ _
theorem dotN_times (N : Nat) (k : Int) (x y : Nat → Int) : dotN N (fun s => k * x s) y = k * dotN N x y := by
 unfold dotN; rw [← sumN_mul]; exact sumN_congr fun _ _ => Int.mul_assoc _ _ _
theorem dotN_sub (N : Nat) (x y z : Nat → Int) : dotN N (fun s => x s - y s) z = dotN N x z - dotN N y z := by
 have : dotN N x z = dotN N (fun s => x s - y s) z + dotN N y z := by
  unfold dotN; rw [← sumN_add]; exact sumN_congr fun _ _ => by
   show x _ * z _ = (x _ - y _) * z _ + y _ * z _;rw [← Int.add_mul, Int.sub_add_cancel]
 omega
theorem dotN_sum (N m : Nat) (c : Nat → Int) (b : Nat → Nat → Int) (z : Nat → Int) : dotN N (fun s => sumN m fun t => c t * b t s) z = sumN m fun t => c t * dotN N (b t) z := by
 unfold dotN;rw [show (sumN N fun s => (sumN m fun t => c t * b t s) * z s) = sumN N fun s => sumN m fun t => c t * (b t s * z s) from
  sumN_congr fun s _ => by rw [← sumN_mul_right]; exact sumN_congr fun t _ => Int.mul_assoc _ _ _, sumN_swap]
 exact sumN_congr fun t _ => sumN_mul _ _ _
theorem dotN_congr {N : Nat} {x y z : Nat → Int} (h : ∀ s, s < N → x s = y s) : dotN N x z = dotN N y z := sumN_congr fun s hs => by rw [h s hs]
theorem dotN_self (N : Nat) (x : Nat → Int) : 0 ≤ dotN N x x := sumN_nonneg fun _ => square_nonneg _ 
theorem dotN_zero {N : Nat} {x : Nat → Int} (h : dotN N x x = 0) : ∀ s, s < N → x s = 0 := fun s hs => by
 have := (sumN_zero (n := N) (f := fun s => x s * x s) fun _ => square_nonneg _).1 h s hs;rcases Int.mul_eq_zero.1 this with e | e <;> exact e
def gramG (N : Nat) (b : Nat → Nat → Int) : Nat → Nat → Int := fun i j => dotN N (b i) (b j)
def gramD (N : Nat) (b : Nat → Nat → Int) (k : Nat) : Int := detL k (gramG N b)
def gramC (N : Nat) (b : Nat → Nat → Int) (k : Nat) (x : Nat → Int) (t : Nat) : Int := sumN k fun l => dotN N x (b l) * detL k (setR (gramG N b) l (unitR t))
def gramY (N : Nat) (b : Nat → Nat → Int) (k : Nat) (x : Nat → Int) : Nat → Int := fun s => gramD N b k * x s - sumN k fun t => gramC N b k x t * b t s
def gramM (N : Nat) (b : Nat → Nat → Int) (k i j : Nat) : Int := dotN N (gramY N b k (b i)) (b j)
theorem gramG_comm (N : Nat) (b : Nat → Nat → Int) (i j : Nat) : gramG N b i j = gramG N b j i := dotN_comm _ _ _
theorem gramC_at {N : Nat} {b : Nat → Nat → Int} {k : Nat} (x : Nat → Int) {j : Nat} (hj : j < k) : (sumN k fun t => gramC N b k x t * gramG N b t j) = gramD N b k * dotN N x (b j) := by
 have e : (sumN k fun t => gramC N b k x t * gramG N b t j) = sumN k fun l => dotN N x (b l) * sumN k fun t => gramG N b j t * detL k (setR (gramG N b) l (unitR t)) := by
  rw [show (sumN k fun t => gramC N b k x t * gramG N b t j) = sumN k fun t => sumN k fun l => dotN N x (b l) * (gramG N b j t * detL k (setR (gramG N b) l (unitR t))) from
   sumN_congr fun t _ => by
    unfold gramC; rw [← sumN_mul_right];exact sumN_congr fun l _ => by rw [gramG_comm N b t j, Int.mul_assoc, Int.mul_comm (detL _ _)], sumN_swap]
  exact sumN_congr fun l _ => sumN_mul _ _ _
 rw [e, sumN_first hj (fun l hl => by rw [detL_cross (by omega) hj, if_neg (by omega), Int.mul_zero]) (fun l hl hk => by rw [detL_cross hk hj, if_neg (by omega), Int.mul_zero]), detL_cross hj hj, if_pos rfl, Int.mul_comm];rfl
theorem gramY_across {N : Nat} {b : Nat → Nat → Int} {k : Nat} (x : Nat → Int) {j : Nat} (hj : j < k) : dotN N (gramY N b k x) (b j) = 0 := by
 unfold gramY;rw [dotN_sub, dotN_times, dotN_sum, ← gramC_at x hj];exact Int.sub_self _
theorem across_one {N : Nat} {b : Nat → Nat → Int} {k : Nat} {y z : Nat → Int} {c : Nat → Int} (h : ∀ s, s < N → y s - z s = sumN k fun t => c t * b t s)
  (hy : ∀ j, j < k → dotN N y (b j) = 0) (hz : ∀ j, j < k → dotN N z (b j) = 0) : ∀ s, s < N → y s = z s := by
 have e : dotN N (fun s => y s - z s) (fun s => y s - z s) = 0 := by
  rw [dotN_congr (y := fun s => sumN k fun t => c t * b t s) h, dotN_sum];rw [← sumN_nil0 k];exact sumN_congr fun t ht => by
   show c t * dotN N (b t) (fun s => y s - z s) = 0;rw [dotN_comm, dotN_sub, hy t ht, hz t ht]; simp
 intro s hs;have := dotN_zero e s hs;omega
theorem gramY_dot {N : Nat} {b : Nat → Nat → Int} {k : Nat} (x w : Nat → Int) : dotN N (gramY N b k x) (gramY N b k w) = gramD N b k * dotN N (gramY N b k x) w := by
 rw [dotN_comm];show dotN N (fun s => gramD N b k * w s - sumN k fun t => gramC N b k w t * b t s) _ = _;rw [dotN_sub, dotN_times, dotN_sum, dotN_comm N w,
  show (sumN k fun t => gramC N b k w t * dotN N (b t) (gramY N b k x)) = 0 from by
   rw [← sumN_nil0 k]; exact sumN_congr fun t ht => by rw [dotN_comm, gramY_across x ht, Int.mul_zero]]
 omega
theorem gramM_comm {N : Nat} {b : Nat → Nat → Int} {k : Nat} (hk : gramD N b k ≠ 0) (i j : Nat) : gramM N b k i j = gramM N b k j i := by
 have h1 := gramY_dot (N := N) (b := b) (k := k) (b i) (b j);have h2 := gramY_dot (N := N) (b := b) (k := k) (b j) (b i);rw [dotN_comm] at h2;rw [h1] at h2;exact Int.eq_of_mul_eq_mul_left hk h2
theorem gramD_zero (N : Nat) (b : Nat → Nat → Int) : gramD N b 0 = 1 := rfl
theorem gramM_zero (N : Nat) (b : Nat → Nat → Int) (i j : Nat) : gramM N b 0 i j = dotN N (b i) (b j) := by
 unfold gramM;exact dotN_congr fun s _ => by show gramD N b 0 * b i s - sumN 0 _ = b i s; rw [gramD_zero, sumN]; omega
theorem gramD_next {N : Nat} {b : Nat → Nat → Int} {k : Nat} (hk : gramD N b k ≠ 0) : gramD N b (k + 1) = gramM N b k k k := by
 have h1 := detL_less (n := k + 1) (i := k) (a := gramG N b) (by omega) (gramD N b k) (gramG N b k) (gramC N b k (b k)) k fun t ht => ⟨by omega, by omega⟩;rw [setR_same] at h1;have h2 : detL (k + 1) (setR (gramG N b) k fun j => gramD N b k * gramG N b k j - sumN k fun t => gramC N b k (b k) t * gramG N b t j) = gramM N b k k k * gramD N b k := by
  have e := detL_linear (n := k + 1) (i := k) (a := gramG N b) (by omega) (gramM N b k k k) 0 (unitR k) (unitR k);rw [Int.zero_mul, Int.add_zero, detL_last] at e;refine (detL_congr fun r hr c hc => ?_).trans e;unfold setR;by_cases hrk : r = k
  ·rw [if_pos hrk, if_pos hrk];show gramD N b k * dotN N (b k) (b c) - (sumN k fun t => gramC N b k (b k) t * dotN N (b t) (b c)) = _;rw [← dotN_times, ← dotN_sum, ← dotN_sub];show dotN N (gramY N b k (b k)) (b c) = gramM N b k k k * unitR k c + 0 * unitR k c;unfold unitR;by_cases hck : c = k
   ·rw [if_pos hck, hck]; unfold gramM; omega
   ·rw [if_neg hck, gramY_across _ (by omega)]; omega
  ·rw [if_neg hrk, if_neg hrk]
 rw [h2, Int.mul_comm] at h1;exact (Int.eq_of_mul_eq_mul_left hk h1).symm
theorem gramY_next {N : Nat} {b : Nat → Nat → Int} {k : Nat} (hk : gramD N b k ≠ 0) (x : Nat → Int) {s : Nat} (hs : s < N) :
  gramD N b k * gramY N b (k + 1) x s = gramD N b (k + 1) * gramY N b k x s - dotN N (gramY N b k x) (b k) * gramY N b k (b k) s := by
 refine across_one (N := N) (b := b) (k := k + 1)
  (y := fun s => gramD N b k * gramY N b (k + 1) x s) (z := fun s => gramD N b (k + 1) * gramY N b k x s - dotN N (gramY N b k x) (b k) * gramY N b k (b k) s)
  (c := fun t => (if t = k then dotN N (gramY N b k x) (b k) * gramD N b k else gramD N b (k + 1) * gramC N b k x t - dotN N (gramY N b k x) (b k) * gramC N b k (b k) t) - gramD N b k * gramC N b (k + 1) x t)
  (fun s _ => ?_) (fun j hj => ?_) (fun j hj => ?_) s hs
 ·generalize hq : dotN N (gramY N b k x) (b k) = q;generalize hd : gramD N b (k + 1) = d';generalize hD : gramD N b k = d;show d * (gramD N b (k + 1) * x s - sumN (k + 1) fun t => gramC N b (k + 1) x t * b t s) - (d' * (gramD N b k * x s - sumN k fun t => gramC N b k x t * b t s) - q * (gramD N b k * b k s - sumN k fun t => gramC N b k (b k) t * b t s)) = _;rw [hd, hD];rw [show (sumN (k + 1) fun t => ((if t = k then q * d else d' * gramC N b k x t - q * gramC N b k (b k) t) - d * gramC N b (k + 1) x t) * b t s)
   = (sumN k fun t => (d' * gramC N b k x t) * b t s + (-(q * gramC N b k (b k) t) * b t s + -(d * gramC N b (k + 1) x t) * b t s)) + (q * d - d * gramC N b (k + 1) x k) * b k s from by
    rw [sumN, if_pos rfl]
    congr 1
    exact sumN_congr fun t ht => by rw [if_neg (by omega), ← Int.add_mul, ← Int.add_mul]; congr 1; omega]
  rw [sumN_add, sumN_add, sumN];rw [show (sumN k fun t => d' * gramC N b k x t * b t s) = d' * sumN k fun t => gramC N b k x t * b t s from by rw [← sumN_mul]; exact sumN_congr fun _ _ => Int.mul_assoc _ _ _,
   show (sumN k fun t => -(q * gramC N b k (b k) t) * b t s) = -q * sumN k fun t => gramC N b k (b k) t * b t s from by rw [← sumN_mul]; exact sumN_congr fun _ _ => by rw [← Int.neg_mul, Int.mul_assoc],
   show (sumN k fun t => -(d * gramC N b (k + 1) x t) * b t s) = -d * sumN k fun t => gramC N b (k + 1) x t * b t s from by rw [← sumN_mul]; exact sumN_congr fun _ _ => by rw [← Int.neg_mul, Int.mul_assoc]]
  generalize (sumN k fun t => gramC N b k x t * b t s) = A;generalize (sumN k fun t => gramC N b k (b k) t * b t s) = B;generalize (sumN k fun t => gramC N b (k + 1) x t * b t s) = C;simp only [Int.mul_sub, Int.mul_add, Int.mul_neg, Int.mul_left_comm, Int.mul_comm];omega
 ·rw [dotN_times, gramY_across x hj, Int.mul_zero]
 ·rw [dotN_sub, dotN_times, dotN_times];by_cases e : j = k
  ·rw [e, gramD_next hk]; unfold gramM; rw [Int.mul_comm]; exact Int.sub_self _
  ·rw [gramY_across x (by omega), gramY_across (b k) (by omega)]; simp
theorem gramM_next {N : Nat} {b : Nat → Nat → Int} {k : Nat} (hk : gramD N b k ≠ 0) (i j : Nat) : gramD N b k * gramM N b (k + 1) i j = gramD N b (k + 1) * gramM N b k i j - gramM N b k i k * gramM N b k j k := by
 rw [gramM_comm hk j k];unfold gramM;rw [← dotN_times, dotN_congr (fun s hs => gramY_next hk (b i) hs), dotN_sub, dotN_times, dotN_times]
theorem gramD_square {N : Nat} {b : Nat → Nat → Int} {k : Nat} (hk : gramD N b k ≠ 0) : gramD N b k * gramD N b (k + 1) = dotN N (gramY N b k (b k)) (gramY N b k (b k)) := by
 rw [gramY_dot, gramD_next hk]; rfl
theorem gramD_pos {N n : Nat} {b : Nat → Nat → Int} (h : ∀ c : Nat → Int, (∀ s, s < N → (sumN n fun t => c t * b t s) = 0) → ∀ t, t < n → c t = 0) : ∀ k, k ≤ n → 0 < gramD N b k
 | 0, _ => by rw [gramD_zero]; omega
 | k + 1, hk => by
  have ih := gramD_pos h k (by omega);have h0 : gramD N b k ≠ 0 := by omega
  have hq := gramD_square h0;have hn := dotN_self N (gramY N b k (b k));rcases Int.lt_trichotomy (gramD N b (k + 1)) 0 with h1 | h1 | h1
  ·have := Int.mul_neg_of_pos_of_neg ih h1; omega
  ·exfalso
   rw [h1, Int.mul_zero] at hq;have hy := dotN_zero hq.symm;refine h0 ?_;have := h (fun t => if t < k then - gramC N b k (b k) t else if t = k then gramD N b k else 0) (fun s hs => ?_) k (by omega)
   ·simpa using this
   ·obtain ⟨d, rfl⟩ := Nat.le.dest hk;have e : ∀ m, (sumN (k + 1 + m) fun t => (if t < k then - gramC N b k (b k) t else if t = k then gramD N b k else 0) * b t s) = gramY N b k (b k) s := by
     intro m
     induction m with
     | zero =>
      rw [Nat.add_zero, sumN, if_neg (by omega), if_pos rfl];unfold gramY;rw [show (sumN k fun t => (if t < k then - gramC N b k (b k) t else if t = k then gramD N b k else 0) * b t s) = -1 * sumN k fun t => gramC N b k (b k) t * b t s from by
       rw [← sumN_mul]; exact sumN_congr fun t ht => by rw [if_pos ht, ← Int.mul_assoc]; congr 1; omega]
      omega
     | succ m ih => rw [← Nat.add_assoc, sumN, ih, if_neg (by omega), if_neg (by omega), Int.zero_mul, Int.add_zero]
    rw [e d]; exact hy s hs
  ·exact h1
theorem dotN_schwarz (N : Nat) (x y : Nat → Int) : dotN N x y * dotN N x y ≤ dotN N x x * dotN N y y := by
 have h0 := dotN_self N fun s => dotN N y y * x s - dotN N x y * y s;rw [dotN_sub, dotN_times, dotN_times, dotN_comm N x (fun s => dotN N y y * x s - dotN N x y * y s), dotN_comm N y (fun s => dotN N y y * x s - dotN N x y * y s), dotN_sub, dotN_sub, dotN_times, dotN_times, dotN_times, dotN_times, dotN_comm N y x] at h0;have hn := dotN_self N y;by_cases hz : dotN N y y = 0
 ·have hy := dotN_zero hz;have : dotN N x y = 0 := by
   unfold dotN; rw [← sumN_nil0 N]; exact sumN_congr fun s hs => by rw [hy s hs, Int.mul_zero]
  rw [this, hz]; simp
 ·generalize dotN N x y = p at h0 ⊢;generalize dotN N y y = q at h0 hn hz ⊢;generalize dotN N x x = r at h0 ⊢;have e : q * (q * r - p * p) - p * (q * p - p * q) = q * (r * q - p * p) := by
   rw [Int.mul_comm p q, Int.sub_self, Int.mul_zero, Int.sub_zero, Int.mul_comm r q]
  rw [e] at h0;have := Int.nonneg_of_mul_nonneg_right (a := q) (b := r * q - p * p) h0 (by omega);omega
theorem gramD_congr {N : Nat} {b b' : Nat → Nat → Int} {k : Nat} (h : ∀ t, t < k → ∀ s, s < N → b t s = b' t s) : gramD N b k = gramD N b' k :=
 detL_congr fun r hr c hc => sumN_congr fun s hs => by rw [h r hr s hs, h c hc s hs]
theorem gramY_le {N : Nat} {b : Nat → Nat → Int} {k : Nat} (hk : 0 < gramD N b k) (x : Nat → Int) : 0 ≤ dotN N (gramY N b k x) x ∧ dotN N (gramY N b k x) x ≤ gramD N b k * dotN N x x := by
 have h1 := dotN_schwarz N (gramY N b k x) x;have h2 := dotN_self N (gramY N b k x);rw [gramY_dot] at h1 h2;have h3 : 0 ≤ dotN N (gramY N b k x) x := Int.nonneg_of_mul_nonneg_right h2 hk;refine ⟨h3, ?_⟩;have h4 := dotN_self N x;generalize dotN N (gramY N b k x) x = p at h1 h3 ⊢;generalize dotN N x x = r at h1 h4 ⊢;by_cases hp : p = 0
 ·rw [hp]; exact Int.mul_nonneg (by omega) h4
 ·rw [Int.mul_assoc, Int.mul_comm p r, ← Int.mul_assoc] at h1;exact Int.le_of_mul_le_mul_right h1 (by omega)
theorem gramD_le {N : Nat} {b : Nat → Nat → Int} {k : Nat} (hk : 0 < gramD N b k) : gramD N b (k + 1) ≤ gramD N b k * dotN N (b k) (b k) := by
 rw [gramD_next (by omega)]; exact (gramY_le hk (b k)).2
theorem gramM_le {N : Nat} {b : Nat → Nat → Int} {k : Nat} (hk : 0 < gramD N b k) (i j : Nat) : gramM N b k i j * gramM N b k i j ≤ (gramD N b k * dotN N (b i) (b i)) * (gramD N b k * dotN N (b j) (b j)) := by
 have h1 := dotN_schwarz N (gramY N b k (b i)) (b j);rw [gramY_dot] at h1;refine Int.le_trans h1 ?_;have h2 := gramY_le hk (b i);have h3 := dotN_self N (b j);rw [Int.mul_assoc, Int.mul_left_comm (gramD N b k * dotN N (b i) (b i)), ← Int.mul_assoc, ← Int.mul_assoc, Int.mul_assoc (gramD N b k), Int.mul_assoc (gramD N b k)];exact Int.mul_le_mul_of_nonneg_left (Int.mul_le_mul_of_nonneg_right h2.2 h3) (by omega)
structure IsReduced (N : Nat) (b : Nat → Nat → Int) (n : Nat) : Prop where
 small : ∀ i j, j < i → i < n → 2 * (gramM N b j i j).natAbs ≤ (gramD N b (j + 1)).natAbs
 step : ∀ i, i + 1 < n → 3 * (gramD N b (i + 1) * gramD N b (i + 1)) ≤ 4 * (gramD N b (i + 2) * gramD N b i + gramM N b i (i + 1) i * gramM N b i (i + 1) i)
theorem gramY_congr {N : Nat} {b b' : Nat → Nat → Int} {k : Nat} (h : ∀ t, t < k → ∀ s, s < N → b t s = b' t s) (x : Nat → Int) : ∀ s, s < N → gramY N b k x s = gramY N b' k x s := fun s hs => by
 unfold gramY;rw [gramD_congr h]
 congr 1
 refine sumN_congr fun t ht => ?_;rw [h t ht s hs]
 congr 1
 unfold gramC;refine sumN_congr fun l hl => ?_;rw [show dotN N x (b l) = dotN N x (b' l) from sumN_congr fun s hs => by rw [h l hl s hs]]
 congr 1
 refine detL_congr fun r hr c hc => ?_;unfold setR;by_cases e : r = l
 ·rw [if_pos e, if_pos e]
 ·rw [if_neg e, if_neg e];exact sumN_congr fun s hs => by rw [h r hr s hs, h c hc s hs]
theorem gramY_row {N : Nat} {b : Nat → Nat → Int} {k j : Nat} (hj : j < k) : ∀ s, s < N → gramY N b k (b j) s = 0 := by
 refine across_one (b := b) (k := k) (z := fun _ => 0) (c := fun t => (if t = j then gramD N b k else 0) - gramC N b k (b j) t) (fun s _ => ?_) (fun i hi => gramY_across _ hi) (fun i _ => by
  exact (sumN_congr fun _ _ => Int.zero_mul _).trans (sumN_nil0 N))
 unfold gramY;rw [Int.sub_zero, show (sumN k fun t => ((if t = j then gramD N b k else 0) - gramC N b k (b j) t) * b t s) = (sumN k fun t => if t = j then gramD N b k * b j s else 0) + (-1) * sumN k fun t => gramC N b k (b j) t * b t s from by
  rw [← sumN_mul, ← sumN_add];exact sumN_congr fun t _ => by
   by_cases e : t = j
   ·rw [if_pos e, if_pos e, e, Int.sub_mul]; omega
   ·rw [if_neg e, if_neg e, Int.sub_mul]; omega, sumN_single k j _ hj]
 omega

end Go.Proofs.YtnpneloahajniaaGreat
