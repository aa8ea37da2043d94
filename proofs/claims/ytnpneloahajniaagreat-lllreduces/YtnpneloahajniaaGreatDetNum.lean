/-
 Plain mathematics: determinants of whole numbers, told along the first column: linear in each row, 0 where two rows are the same, told along any row.
-/
import Derived.Test.YtnpneloahajniaaGreatJH
import Derived.Test.YtnpneloahajniaaGreatJL
namespace Go.Proofs.YtnpneloahajniaaGreat
open Go.RowKit Lb
set_option maxRecDepth 20000

def sgn2 (i : Nat) : Int := if i % 2 = 0 then 1 else -1
theorem sgn2_succ (i : Nat) : sgn2 (i + 1) = - sgn2 i := by
 unfold sgn2;by_cases h : i % 2 = 0
 ·rw [if_pos h, if_neg (by omega)]
 ·rw [if_neg h, if_pos (by omega)]; rfl
def minorL (a : Nat → Nat → Int) (i : Nat) : Nat → Nat → Int := fun r c => a (if r < i then r else r + 1) (c + 1)
def detL : Nat → (Nat → Nat → Int) → Int
 | 0, _ => 1
 | n + 1, a => sumN (n + 1) fun i => sgn2 i * a i 0 * detL n (minorL a i)
def setR (a : Nat → Nat → Int) (i : Nat) (r : Nat → Int) : Nat → Nat → Int := fun t c => if t = i then r c else a t c

theorem detL_congr {n : Nat} : ∀ {a b : Nat → Nat → Int}, (∀ r, r < n → ∀ c, c < n → a r c = b r c) → detL n a = detL n b := by
 induction n with
 | zero => intro _ _ _; rfl
 | succ n ih =>
  intro a b h;rw [detL, detL];refine sumN_congr fun i hi => ?_;rw [h i hi 0 (by omega), ih (fun r hr c hc => ?_)];unfold minorL;by_cases e : r < i
  ·rw [if_pos e]; exact h r (by omega) _ (by omega)
  ·rw [if_neg e]; exact h _ (by omega) _ (by omega)
theorem minor_at (a : Nat → Nat → Int) (i : Nat) (r : Nat → Int) : minorL (setR a i r) i = minorL a i := by
 funext t c
 show (if (if t < i then t else t + 1) = i then r (c + 1) else a (if t < i then t else t + 1) (c + 1)) = _;rw [if_neg (by by_cases h : t < i <;> simp only [h, if_true, if_false] <;> omega)]; rfl
theorem minor_below {a : Nat → Nat → Int} {i t : Nat} (r : Nat → Int) (h : t < i) : minorL (setR a i r) t = setR (minorL a t) (i - 1) fun c => r (c + 1) := by
 funext u c
 show (if (if u < t then u else u + 1) = i then r (c + 1) else a (if u < t then u else u + 1) (c + 1)) = if u = i - 1 then r (c + 1) else a (if u < t then u else u + 1) (c + 1)
 by_cases e : u = i - 1
 ·rw [if_pos e, if_pos (by rw [if_neg (by omega)]; omega)]
 ·rw [if_neg e, if_neg (by by_cases h2 : u < t <;> simp only [h2, if_true, if_false] <;> omega)]
theorem minor_above {a : Nat → Nat → Int} {i t : Nat} (r : Nat → Int) (h : i < t) : minorL (setR a i r) t = setR (minorL a t) i fun c => r (c + 1) := by
 funext u c
 show (if (if u < t then u else u + 1) = i then r (c + 1) else a (if u < t then u else u + 1) (c + 1)) = if u = i then r (c + 1) else a (if u < t then u else u + 1) (c + 1)
 by_cases e : u = i
 ·rw [if_pos e, if_pos (by rw [if_pos (by omega)]; omega)]
 ·rw [if_neg e, if_neg (by by_cases h2 : u < t <;> simp only [h2, if_true, if_false] <;> omega)]
theorem detL_linear {n : Nat} : ∀ {a : Nat → Nat → Int} {i : Nat}, i < n → ∀ (x y : Int) (r s : Nat → Int), detL n (setR a i fun c => x * r c + y * s c) = x * detL n (setR a i r) + y * detL n (setR a i s) := by
 induction n with
 | zero => intro a i hi; omega
 | succ n ih =>
  intro a i hi x y r s;rw [detL, detL, detL, ← sumN_mul, ← sumN_mul, ← sumN_add];refine sumN_congr fun t ht => ?_;rcases Nat.lt_trichotomy t i with h | h | h
  ·rw [minor_below _ h, minor_below _ h, minor_below _ h, ih (by omega)];show sgn2 t * setR a i _ t 0 * _ = x * (sgn2 t * setR a i r t 0 * _) + y * (sgn2 t * setR a i s t 0 * _);unfold setR;rw [if_neg (by omega), if_neg (by omega), if_neg (by omega), Int.mul_add];simp only [Int.mul_assoc, Int.mul_left_comm]
  ·subst h;rw [minor_at, minor_at, minor_at];unfold setR;rw [if_pos rfl, if_pos rfl, if_pos rfl, Int.mul_add, Int.add_mul];simp only [Int.mul_assoc, Int.mul_left_comm]
  ·rw [minor_above _ h, minor_above _ h, minor_above _ h, ih (by omega)];unfold setR;rw [if_neg (by omega), if_neg (by omega), if_neg (by omega), Int.mul_add];simp only [Int.mul_assoc, Int.mul_left_comm]
theorem setR_same (a : Nat → Nat → Int) (i : Nat) : setR a i (a i) = a := by
 funext t c; unfold setR
 by_cases h : t = i
 ·rw [if_pos h, h]
 ·rw [if_neg h]
theorem setR_comm {a : Nat → Nat → Int} {i j : Nat} (h : i ≠ j) (r s : Nat → Int) : setR (setR a i r) j s = setR (setR a j s) i r := by
 funext t c; unfold setR
 by_cases h1 : t = j
 ·rw [if_pos h1, if_neg (by omega), if_pos h1]
 ·rw [if_neg h1];by_cases h2 : t = i
  ·rw [if_pos h2, if_pos h2]
  ·rw [if_neg h2, if_neg h2, if_neg h1]
theorem sumN_pair {n i : Nat} {f : Nat → Int} (hi : i + 1 < n) (h : ∀ t, t < n → t ≠ i → t ≠ i + 1 → f t = 0) : sumN n f = f i + f (i + 1) := by
 rw [← sumN_single n i (f i) (by omega), ← sumN_single n (i + 1) (f (i + 1)) hi, ← sumN_add];refine sumN_congr fun t ht => ?_;by_cases h1 : t = i
 ·rw [if_pos h1, if_neg (by omega), h1, Int.add_zero]
 ·rw [if_neg h1];by_cases h2 : t = i + 1
  ·rw [if_pos h2, h2, Int.zero_add]
  ·rw [if_neg h2, h t ht h1 h2]; rfl
theorem detL_next {n : Nat} : ∀ {a : Nat → Nat → Int} {i : Nat}, i + 1 < n → (∀ c, c < n → a i c = a (i + 1) c) → detL n a = 0 := by
 induction n with
 | zero => intro a i hi; omega
 | succ n ih =>
  intro a i hi h;rw [detL, sumN_pair hi (fun t ht h1 h2 => ?_)]
  ·rw [detL_congr (a := minorL a (i + 1)) (b := minorL a i) (fun r hr c hc => ?_), h 0 (by omega), sgn2_succ, Int.neg_mul, Int.neg_mul, Int.add_right_neg];unfold minorL;by_cases e : r < i
   ·rw [if_pos (by omega), if_pos e]
   ·rw [if_neg e];by_cases e2 : r = i
    ·rw [if_pos (by omega), e2]; exact h (c + 1) (by omega)
    ·rw [if_neg (by omega)]
  ·have : detL n (minorL a t) = 0 := by
    rcases Nat.lt_or_gt_of_ne h1 with e | e
    ·refine ih (i := i - 1) (by omega) fun c hc => ?_;unfold minorL;rw [if_neg (by omega), if_neg (by omega), show i - 1 + 1 = i by omega];exact h (c + 1) (by omega)
    ·refine ih (i := i) (by omega) fun c hc => ?_;unfold minorL;rw [if_pos (by omega), if_pos (by omega)];exact h (c + 1) (by omega)
   rw [this, Int.mul_zero]
theorem detL_turn {n i : Nat} (a : Nat → Nat → Int) (hi : i + 1 < n) : detL n (setR (setR a i (a (i + 1))) (i + 1) (a i)) = - detL n a := by
 have lin : ∀ r s u, detL n (setR (setR a i fun c => 1 * r c + 1 * s c) (i + 1) u) = detL n (setR (setR a i r) (i + 1) u) + detL n (setR (setR a i s) (i + 1) u) := fun r s u => by
  rw [setR_comm (by omega), detL_linear (by omega), setR_comm (by omega), setR_comm (a := a) (i := i + 1) (j := i) (by omega)]; omega
 have zero : ∀ r, detL n (setR (setR a i r) (i + 1) r) = 0 := fun r => detL_next hi fun c _ => by
  unfold setR; rw [if_neg (by omega), if_pos rfl, if_pos rfl]
 have h := zero fun c => 1 * a i c + 1 * a (i + 1) c;rw [detL_linear (by omega), lin, lin, zero, zero] at h;have e : setR (setR a i (a i)) (i + 1) (a (i + 1)) = a := by rw [setR_same, setR_same]
 rw [e] at h;omega
theorem detL_two {n i : Nat} : ∀ (d : Nat) {a : Nat → Nat → Int}, i + d + 1 < n → (∀ c, c < n → a i c = a (i + d + 1) c) → detL n a = 0
 | 0, _, hn, h => detL_next hn h
 | d + 1, a, hn, h => by
  have ht := detL_turn a (i := i + d + 1) (n := n) (by omega);have h0 := detL_two d (a := setR (setR a (i + d + 1) (a (i + d + 1 + 1))) (i + d + 1 + 1) (a (i + d + 1))) (i := i) (n := n) (by omega) (fun c hc => by
   unfold setR;rw [if_neg (by omega), if_neg (by omega), if_neg (by omega), if_pos rfl];exact h c hc)
  omega
theorem detL_same {n i j : Nat} {a : Nat → Nat → Int} (hij : i ≠ j) (hi : i < n) (hj : j < n) (h : ∀ c, c < n → a i c = a j c) : detL n a = 0 := by
 rcases Nat.lt_or_gt_of_ne hij with e | e
 ·obtain ⟨d, hd⟩ := Nat.le.dest (show i + 1 ≤ j by omega);exact detL_two (i := i) d (by omega) fun c hc => by rw [show i + d + 1 = j by omega]; exact h c hc
 ·obtain ⟨d, hd⟩ := Nat.le.dest (show j + 1 ≤ i by omega);exact detL_two (i := j) d (by omega) fun c hc => by rw [show j + d + 1 = i by omega]; exact (h c hc).symm
def unitR (j : Nat) : Nat → Int := fun c => if c = j then 1 else 0
theorem detL_nil {n i : Nat} {a : Nat → Nat → Int} (hi : i < n) : detL n (setR a i fun _ => 0) = 0 := by
 have h := detL_linear (a := a) hi 0 0 (fun _ => 0) (fun _ => 0);simp only [Int.zero_mul, Int.add_zero] at h;exact h
theorem detL_upto {n i : Nat} {a : Nat → Nat → Int} (hi : i < n) : ∀ (m : Nat) (r : Nat → Int), (∀ c, m ≤ c → r c = 0) → detL n (setR a i r) = sumN m fun j => r j * detL n (setR a i (unitR j))
 | 0, r, h => by rw [show r = fun _ => 0 from funext fun c => h c (Nat.zero_le _), detL_nil hi]; rfl
 | m + 1, r, h => by
  have e : r = fun c => 1 * (if c = m then 0 else r c) + r m * unitR m c := funext fun c => by
   unfold unitR;by_cases h1 : c = m
   ·rw [if_pos h1, if_pos h1, h1]; omega
   ·rw [if_neg h1, if_neg h1]; omega
  have h2 := detL_linear (a := a) hi 1 (r m) (fun c => if c = m then 0 else r c) (unitR m);rw [← e, detL_upto hi m (fun c => if c = m then 0 else r c) (fun c hc => by
   by_cases h1 : c = m
   ·exact if_pos h1
   ·rw [if_neg h1]; exact h c (by omega)), Int.one_mul] at h2
  rw [h2, sumN]
  congr 1
  exact sumN_congr fun t ht => by simp only [show t ≠ m by omega, if_false]
theorem detL_row {n i : Nat} {a : Nat → Nat → Int} (hi : i < n) (r : Nat → Int) : detL n (setR a i r) = sumN n fun j => r j * detL n (setR a i (unitR j)) := by
 rw [detL_congr (b := setR a i fun c => if c < n then r c else 0) (fun t ht c hc => by
  show (if t = i then r c else _) = if t = i then (if c < n then r c else 0) else _
  rw [if_pos hc]), detL_upto hi n _ (fun c hc => by rw [if_neg (by omega)])]
 exact sumN_congr fun j hj => by rw [if_pos hj]
theorem detL_cross {n i t : Nat} {a : Nat → Nat → Int} (hi : i < n) (ht : t < n) : (sumN n fun j => a t j * detL n (setR a i (unitR j))) = if t = i then detL n a else 0 := by
 rw [← detL_row hi (a t)];by_cases h : t = i
 ·rw [if_pos h, h, setR_same]
 ·rw [if_neg h];exact detL_same (i := i) (j := t) (fun e => h e.symm) hi ht fun c _ => by unfold setR; rw [if_pos rfl, if_neg h]
theorem minor_unit {a : Nat → Nat → Int} {n t : Nat} (h : t < n + 1) : minorL (setR a (n + 1) (unitR (n + 1))) t = setR (minorL a t) n (unitR n) := by
 rw [minor_below _ h]
 congr 1
 funext c; unfold unitR
 by_cases e : c = n
 ·rw [if_pos e, if_pos (by omega)]
 ·rw [if_neg e, if_neg (by omega)]
theorem detL_last : ∀ (n : Nat) (a : Nat → Nat → Int), detL (n + 1) (setR a n (unitR n)) = detL n a
 | 0, a => by simp [detL, sumN, sgn2, setR, unitR]
 | n + 1, a => by
  rw [detL, sumN];have e : setR a (n + 1) (unitR (n + 1)) (n + 1) 0 = 0 := by unfold setR unitR; rw [if_pos rfl, if_neg (by omega)]
  rw [e, Int.mul_zero, Int.zero_mul, Int.add_zero, detL];refine sumN_congr fun t ht => ?_;rw [minor_unit ht, detL_last n];unfold setR; rw [if_neg (by omega)]
theorem detL_less {n i : Nat} {a : Nat → Nat → Int} (hi : i < n) (x : Int) (r : Nat → Int) (c : Nat → Int) : ∀ (m : Nat), (∀ t, t < m → t ≠ i ∧ t < n) → detL n (setR a i fun j => x * r j - sumN m fun t => c t * a t j) = x * detL n (setR a i r)
 | 0, _ => by
  have h := detL_linear (a := a) hi x 0 r (fun _ => 0);simp only [Int.mul_zero, Int.zero_mul, Int.add_zero] at h;simp only [sumN, Int.sub_zero]; exact h
 | m + 1, h => by
  have h1 := detL_linear (a := a) hi 1 (- c m) (fun j => x * r j - sumN m fun t => c t * a t j) (a m);rw [detL_less hi x r c m (fun t ht => h t (by omega)), detL_same (a := setR a i (a m)) (i := i) (j := m) (fun e => (h m (by omega)).1 e.symm) hi (h m (by omega)).2 (fun j _ => by
   unfold setR; rw [if_pos rfl, if_neg (h m (by omega)).1]), Int.mul_zero, Int.add_zero, Int.one_mul] at h1
  rw [← h1]
  congr 2
  funext j
  rw [sumN, Int.neg_mul]; omega

end Go.Proofs.YtnpneloahajniaaGreat
