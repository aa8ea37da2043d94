/-
 Plain mathematics of rows of limbs, with no program in it: what number a row of limbs is, and that a row without a nought at its end is told by its number.
-/
import Derived.Test.YtnpneloahajniaaGreatProg
import Derived.WalkKit
import Derived.WalkSpells
import Derived.WalkLawsBesides
import Derived.Laws.AppendOwnNone
import Derived.Laws.CopyOwn
import Derived.OpenShut
import Derived.Lib.AppendZerosOnto
import Derived.BigQuiet
import Derived.Deep.QuietTactic
import Derived.Deep.RegionWith
namespace Go.Proofs.YtnpneloahajniaaGreat.Lb

def lim (xs : List Nat) (i : Nat) : Nat := xs.getD i 0
def Bp (k : Nat) : Nat := 4294967296 ^ k
def pre (xs : List Nat) : Nat → Nat
 | 0 => 0
 | k + 1 => pre xs k + lim xs k * Bp k
def val (xs : List Nat) : Nat := pre xs xs.length
def Small (xs : List Nat) : Prop := ∀ i, lim xs i < 4294967296
def Norm (xs : List Nat) : Prop := 0 < xs.length → lim xs (xs.length - 1) ≠ 0

theorem Bp_zero : Bp 0 = 1 := by simp [Bp]
theorem Bp_succ (k : Nat) : Bp (k + 1) = Bp k * 4294967296 := by unfold Bp; exact Nat.pow_succ _ _
theorem Bp_pos (k : Nat) : 0 < Bp k := by unfold Bp; exact Nat.pow_pos (by omega)
theorem Bp_one : Bp 1 = 4294967296 := by simp [Bp]
theorem Bp_add (a b : Nat) : Bp (a + b) = Bp a * Bp b := by unfold Bp; exact Nat.pow_add _ _ _
theorem Bp_le {a b : Nat} (h : a ≤ b) : Bp a ≤ Bp b := by unfold Bp; exact Nat.pow_le_pow_right (by omega) h
theorem lim_out {xs : List Nat} {i : Nat} (h : xs.length ≤ i) : lim xs i = 0 := by simp [lim, List.getElem?_eq_none h]
theorem lim_nil (i : Nat) : lim [] i = 0 := by simp [lim]
theorem lim_get {xs : List Nat} {i : Nat} (h : i < xs.length) : lim xs i = xs[i] := by simp [lim, h]
theorem lim_take (xs : List Nat) (n i : Nat) : lim (xs.take n) i = if i < n then lim xs i else 0 := by
 unfold lim; simp only [List.getD_eq_getElem?_getD, List.getElem?_take]; split <;> simp
theorem lim_drop (xs : List Nat) (n i : Nat) : lim (xs.drop n) i = lim xs (n + i) := by
 unfold lim; simp only [List.getD_eq_getElem?_getD, List.getElem?_drop]
theorem lim_set (xs : List Nat) (n v i : Nat) (h : n < xs.length) : lim (xs.set n v) i = if i = n then v else lim xs i := by
 unfold lim; simp only [List.getD_eq_getElem?_getD, List.getElem?_set];by_cases e : n = i
 ·subst e; simp [h]
 ·simp [e, Ne.symm e]
theorem lim_snoc (xs : List Nat) (v i : Nat) : lim (xs ++ [v]) i = if i = xs.length then v else lim xs i := by
 unfold lim; simp only [List.getD_eq_getElem?_getD];by_cases h : i < xs.length
 ·rw [List.getElem?_append_left h, if_neg (by omega)]
 ·rw [List.getElem?_append_right (by omega)];by_cases e : i = xs.length
  ·subst e; simp
  ·rw [if_neg e, List.getElem?_eq_none (by simp; omega), List.getElem?_eq_none (by omega)]
theorem lim_append (xs ys : List Nat) (i : Nat) : lim (xs ++ ys) i = if i < xs.length then lim xs i else lim ys (i - xs.length) := by
 unfold lim; simp only [List.getD_eq_getElem?_getD];by_cases h : i < xs.length
 ·rw [List.getElem?_append_left h, if_pos h]
 ·rw [List.getElem?_append_right (by omega), if_neg h]
theorem lim_replicate (n i : Nat) : lim (List.replicate n 0) i = 0 := by
 unfold lim; simp only [List.getD_eq_getElem?_getD, List.getElem?_replicate]; split <;> simp
theorem ext_lim {xs ys : List Nat} (hl : xs.length = ys.length) (h : ∀ i, i < xs.length → lim xs i = lim ys i) : xs = ys := by
 apply List.ext_getElem hl;intro i h1 h2;have := h i h1
 rwa [lim_get h1, lim_get h2] at this

theorem pre_succ (xs : List Nat) (k : Nat) : pre xs (k + 1) = pre xs k + lim xs k * Bp k := rfl
theorem pre_zero (xs : List Nat) : pre xs 0 = 0 := rfl
theorem pre_congr {xs ys : List Nat} {k : Nat} (h : ∀ i, i < k → lim xs i = lim ys i) : pre xs k = pre ys k := by
 induction k with
 | zero => rfl
 | succ k ih => rw [pre_succ, pre_succ, ih (fun i hi => h i (by omega)), h k (by omega)]
theorem pre_nil (k : Nat) : pre [] k = 0 := by
 induction k with
 | zero => rfl
 | succ k ih => rw [pre_succ, ih, lim_nil]; simp
theorem pre_zeros {xs : List Nat} {k : Nat} (h : ∀ i, i < k → lim xs i = 0) : pre xs k = 0 := by
 rw [pre_congr (ys := []) (fun i hi => by rw [h i hi, lim_nil]), pre_nil]
theorem pre_flat {xs : List Nat} {k n : Nat} (hk : k ≤ n) (h : ∀ i, k ≤ i → i < n → lim xs i = 0) : pre xs n = pre xs k := by
 induction n with
 | zero => have : k = 0 := by omega
           subst this; rfl
 | succ n ih =>
  by_cases e : k = n + 1
  ·subst e; rfl
  ·rw [pre_succ, h n (by omega) (by omega), ih (by omega) (fun i h1 h2 => h i h1 (by omega))]; simp
theorem pre_len {xs : List Nat} {k : Nat} (h : xs.length ≤ k) : pre xs k = val xs := pre_flat h (fun _ h1 _ => lim_out h1)
theorem pre_lt {xs : List Nat} (hs : Small xs) (k : Nat) : pre xs k < Bp k := by
 induction k with
 | zero => simp [pre, Bp_zero]
 | succ k ih =>
  rw [pre_succ, Bp_succ];have h := hs k;have h2 : lim xs k * Bp k ≤ 4294967295 * Bp k := Nat.mul_le_mul_right _ (by omega);have h3 : Bp k * 4294967296 = 4294967295 * Bp k + Bp k := by omega
  omega
theorem val_lt {xs : List Nat} (hs : Small xs) : val xs < Bp xs.length := pre_lt hs _
theorem pre_ge {xs : List Nat} {k : Nat} (h : lim xs k ≠ 0) : Bp k ≤ pre xs (k + 1) := by
 rw [pre_succ];have : 1 * Bp k ≤ lim xs k * Bp k := Nat.mul_le_mul_right _ (by omega);omega
theorem norm_ge {xs : List Nat} (hn : Norm xs) (h : 0 < xs.length) : Bp (xs.length - 1) ≤ val xs := by
 have := pre_ge (hn h);have e : xs.length - 1 + 1 = xs.length := by omega
 rw [e] at this;exact this
theorem norm_len {xs : List Nat} (hn : Norm xs) {k : Nat} (h : val xs < Bp k) : xs.length ≤ k := by
 rcases Nat.eq_zero_or_pos xs.length with e | e
 ·omega
 ·have h1 := norm_ge hn e;rcases Nat.lt_or_ge k xs.length with h2 | h2
  ·have := Bp_le (a := k) (b := xs.length - 1) (by omega);omega
  ·exact h2
theorem pre_inj {xs ys : List Nat} (hx : Small xs) (hy : Small ys) {k : Nat} (h : pre xs k = pre ys k) : ∀ i, i < k → lim xs i = lim ys i := by
 induction k with
 | zero => intro i hi; omega
 | succ k ih =>
  rw [pre_succ, pre_succ] at h;have h1 := pre_lt hx k;have h2 := pre_lt hy k;have e : lim xs k = lim ys k := by
   rcases Nat.lt_trichotomy (lim xs k) (lim ys k) with c | c | c
   ·have : (lim xs k + 1) * Bp k ≤ lim ys k * Bp k := Nat.mul_le_mul_right _ c;rw [Nat.add_mul] at this; omega
   ·exact c
   ·have : (lim ys k + 1) * Bp k ≤ lim xs k * Bp k := Nat.mul_le_mul_right _ c;rw [Nat.add_mul] at this; omega
  rw [e] at h;intro i hi;by_cases c : i = k
  ·rw [c]; exact e
  ·exact ih (by omega) i (by omega)
theorem norm_inj {xs ys : List Nat} (hx : Small xs) (hy : Small ys) (nx : Norm xs) (ny : Norm ys) (h : val xs = val ys) : xs = ys := by
 have h1 := norm_len nx (k := ys.length) (by rw [h]; exact val_lt hy);have h2 := norm_len ny (k := xs.length) (by rw [← h]; exact val_lt hx);have hl : xs.length = ys.length := by omega
 refine ext_lim hl (pre_inj hx hy ?_);rw [show pre xs xs.length = val xs from rfl, h, hl];rfl
theorem val_nil : val [] = 0 := rfl

theorem pre_agree {xs ys : List Nat} {k n : Nat} (hk : k ≤ n) (h : ∀ i, k ≤ i → i < n → lim xs i = lim ys i) : pre xs n + pre ys k = pre ys n + pre xs k := by
 induction n with
 | zero => have : k = 0 := by omega
           subst this; rfl
 | succ n ih =>
  by_cases e : k = n + 1
  ·subst e; omega
  ·have := ih (by omega) (fun i h1 h2 => h i h1 (by omega));rw [pre_succ, pre_succ, h n (by omega) (by omega)]; omega
theorem pre_top {xs ys : List Nat} (hx : Small xs) {k n : Nat} (hk : k < n) (h : ∀ i, k < i → i < n → lim xs i = lim ys i) (hl : lim xs k < lim ys k) : pre xs n < pre ys n := by
 have h1 := pre_agree (xs := xs) (ys := ys) (k := k + 1) (n := n) (by omega) (fun i a b => h i (by omega) b);have h2 := pre_lt hx k;have h3 : (lim xs k + 1) * Bp k ≤ lim ys k * Bp k := Nat.mul_le_mul_right _ hl;rw [Nat.add_mul] at h3;rw [pre_succ, pre_succ] at h1;omega

theorem small_nil : Small [] := fun i => by rw [lim_nil]; omega
theorem small_take {xs : List Nat} (h : Small xs) (n : Nat) : Small (xs.take n) := fun i => by
 rw [lim_take]; split
 ·exact h i
 ·omega
theorem small_drop {xs : List Nat} (h : Small xs) (n : Nat) : Small (xs.drop n) := fun i => by rw [lim_drop]; exact h _
theorem small_set {xs : List Nat} (h : Small xs) {n v : Nat} (hv : v < 4294967296) : Small (xs.set n v) := fun i => by
 by_cases hn : n < xs.length
 ·rw [lim_set _ _ _ _ hn]; split
  ·exact hv
  ·exact h i
 ·rw [List.set_eq_of_length_le (by omega)]; exact h i
theorem small_snoc {xs : List Nat} (h : Small xs) {v : Nat} (hv : v < 4294967296) : Small (xs ++ [v]) := fun i => by
 rw [lim_snoc]; split
 ·exact hv
 ·exact h i
theorem small_replicate (n : Nat) : Small (List.replicate n 0) := fun i => by rw [lim_replicate]; omega
theorem small_of_mem {xs : List Nat} (h : ∀ x ∈ xs, x < 4294967296) : Small xs := fun i => by
 by_cases c : i < xs.length
 ·rw [lim_get c]; exact h _ (List.getElem_mem c)
 ·rw [lim_out (by omega)]; omega

theorem val_take {xs : List Nat} {n : Nat} (hn : n ≤ xs.length) (h : ∀ i, n ≤ i → i < xs.length → lim xs i = 0) : val (xs.take n) = val xs := by
 unfold val;rw [pre_flat hn h, List.length_take, Nat.min_eq_left hn];exact pre_congr (fun i hi => by rw [lim_take, if_pos hi])
theorem norm_take {xs : List Nat} {n : Nat} (hn : n ≤ xs.length) (h : 0 < n → lim xs (n - 1) ≠ 0) : Norm (xs.take n) := by
 intro hp;rw [List.length_take, Nat.min_eq_left hn] at hp ⊢;rw [lim_take, if_pos (by omega)];exact h hp
theorem pre_take (xs : List Nat) (n k : Nat) (h : k ≤ n) : pre (xs.take n) k = pre xs k := pre_congr (fun i hi => by rw [lim_take, if_pos (by omega)])
theorem pre_set_lt (xs : List Nat) (n v k : Nat) (h : k ≤ n) (hn : n < xs.length) : pre (xs.set n v) k = pre xs k := pre_congr (fun i hi => by rw [lim_set _ _ _ _ hn, if_neg (by omega)])
theorem pre_snoc_le (xs : List Nat) (v k : Nat) (h : k ≤ xs.length) : pre (xs ++ [v]) k = pre xs k := pre_congr (fun i hi => by rw [lim_snoc, if_neg (by omega)])
theorem val_snoc (xs : List Nat) (v : Nat) : val (xs ++ [v]) = val xs + v * Bp xs.length := by
 unfold val;rw [List.length_append];show pre _ (xs.length + 1) = _;rw [pre_succ, pre_snoc_le _ _ _ (Nat.le_refl _), lim_snoc, if_pos rfl]

def IsBits (N n : Nat) : Prop := (N = 0 ∧ n = 0) ∨ (1 ≤ n ∧ 2 ^ (n - 1) ≤ N ∧ N < 2 ^ n)
theorem isBits_inj {N a b : Nat} (ha : IsBits N a) (hb : IsBits N b) : a = b := by
 rcases ha with ⟨h1, h2⟩ | ⟨h1, h2, h3⟩ <;> rcases hb with ⟨k1, k2⟩ | ⟨k1, k2, k3⟩
 ·omega
 ·have := Nat.pow_pos (n := b - 1) (show 0 < 2 by omega); omega
 ·have := Nat.pow_pos (n := a - 1) (show 0 < 2 by omega); omega
 ·rcases Nat.lt_trichotomy a b with c | c | c
  ·have := Nat.pow_le_pow_right (n := 2) (by omega) (show a ≤ b - 1 by omega); omega
  ·exact c
  ·have := Nat.pow_le_pow_right (n := 2) (by omega) (show b ≤ a - 1 by omega); omega
theorem Bp_two (k : Nat) : Bp k = 2 ^ (32 * k) := by
 unfold Bp;rw [show 4294967296 = 2 ^ 32 from rfl, Nat.pow_mul]

def cmpI (a b : Nat) : Int := if a < b then -1 else if b < a then 1 else 0
theorem cmpI_lt {a b : Nat} (h : a < b) : cmpI a b = -1 := by unfold cmpI; rw [if_pos h]
theorem cmpI_gt {a b : Nat} (h : b < a) : cmpI a b = 1 := by unfold cmpI; rw [if_neg (by omega), if_pos h]
theorem cmpI_eq {a b : Nat} (h : a = b) : cmpI a b = 0 := by unfold cmpI; rw [if_neg (by omega), if_neg (by omega)]
theorem norm_lt_len {xs ys : List Nat} (hx : Small xs) (ny : Norm ys) (h : xs.length < ys.length) : val xs < val ys := by
 have h1 := val_lt hx;have h2 := norm_ge ny (by omega);have h3 := Bp_le (a := xs.length) (b := ys.length - 1) (by omega);omega
theorem carry_eq (S b : Nat) : S % 4294967296 * b + S / 4294967296 * (b * 4294967296) = S * b := by
 have h : S = S % 4294967296 + S / 4294967296 * 4294967296 := by omega
 have e : S / 4294967296 * (b * 4294967296) = S / 4294967296 * 4294967296 * b := by rw [Nat.mul_assoc, Nat.mul_comm b]
 rw [e, ← Nat.add_mul, ← h]
theorem borrow_eq {X lx ly c d b : Nat} (h : X + ly + c = 4294967296 + lx) (hd : d + X / 4294967296 = 1) : X % 4294967296 * b + ly * b + c * b = lx * b + d * (b * 4294967296) := by
 have e : X % 4294967296 + ly + c = lx + d * 4294967296 := by omega
 have e2 : d * (b * 4294967296) = d * 4294967296 * b := by rw [Nat.mul_assoc, Nat.mul_comm b]
 rw [← Nat.add_mul, ← Nat.add_mul, e, Nat.add_mul, e2]
theorem val_set_end {zs : List Nat} {n l : Nat} (hz : zs.length = l + 1) : val (zs.set l n) = pre zs l + n * Bp l := by
 have e1 : val (zs.set l n) = pre (zs.set l n) (l + 1) := by unfold val; rw [List.length_set, hz]
 rw [e1, pre_succ, pre_set_lt _ _ _ _ (Nat.le_refl _) (by omega), lim_set _ _ _ _ (by omega), if_pos rfl]
theorem add_end {zs ps qs : List Nat} {n l : Nat} (hz : zs.length = l + 1) (hp : ps.length ≤ l) (hq : qs.length ≤ l) (h : pre zs l + n * Bp l = pre ps l + pre qs l) : val (zs.set l n) = val ps + val qs := by
 rw [val_set_end hz, h, pre_len hp, pre_len hq]
theorem pre_cons_up (xs : List Nat) (k n : Nat) : pre (xs.drop k) (n + 1) = lim xs k + 4294967296 * pre (xs.drop (k + 1)) n := by
 induction n with
 | zero => rw [pre_succ, pre_zero, pre_zero, lim_drop, Bp_zero]; simp
 | succ n ih =>
  rw [pre_succ, ih, pre_succ (xs.drop (k + 1)), lim_drop, lim_drop, Nat.mul_add, Bp_succ, show k + (n + 1) = k + 1 + n by omega, Nat.add_assoc]
  congr 2
  rw [Nat.mul_comm (Bp n), Nat.mul_left_comm]
theorem val_drop_step (xs : List Nat) (k : Nat) : val (xs.drop k) = lim xs k + 4294967296 * val (xs.drop (k + 1)) := by
 have h1 : pre (xs.drop k) (xs.length + 1) = val (xs.drop k) := pre_len (by simp; omega);have h2 : pre (xs.drop (k + 1)) xs.length = val (xs.drop (k + 1)) := pre_len (by simp);rw [← h1, ← h2, pre_cons_up]
theorem val_drop_end {xs : List Nat} {k : Nat} (h : xs.length ≤ k) : val (xs.drop k) = 0 := by rw [List.drop_eq_nil_of_le h]; rfl
theorem val_split (xs : List Nat) (k : Nat) : val xs = pre xs k + Bp k * val (xs.drop k) := by
 induction k with
 | zero => rw [List.drop_zero, pre_zero, Bp_zero]; omega
 | succ k ih =>
  rw [ih, val_drop_step, pre_succ, Bp_succ, Nat.mul_add, Nat.add_assoc]
  congr 1
  rw [Nat.mul_comm (Bp k) (lim xs k), Nat.mul_assoc]
theorem val_drop_set (zs : List Nat) (k q : Nat) (h : k < zs.length) : val ((zs.set k q).drop k) = q + 4294967296 * val (zs.drop (k + 1)) := by
 rw [val_drop_step, lim_set _ _ _ _ h, if_pos rfl]
 congr 3
 rw [List.drop_set, if_pos (by omega)]
theorem over_step (Z x n lx : Nat) : lx + 4294967296 * (Z * x + n) = ((n * 4294967296 + lx) / x + 4294967296 * Z) * x + (n * 4294967296 + lx) % x := by
 have h := Nat.div_add_mod (n * 4294967296 + lx) x;have h2 : x * ((n * 4294967296 + lx) / x) = (n * 4294967296 + lx) / x * x := Nat.mul_comm _ _;rw [Nat.add_mul, Nat.mul_add, Nat.mul_assoc];omega
theorem over_fits {x n lx : Nat} (hn : n < x) (hl : lx < 4294967296) : (n * 4294967296 + lx) / x < 4294967296 := by
 apply Nat.div_lt_of_lt_mul;have : (n + 1) * 4294967296 ≤ x * 4294967296 := Nat.mul_le_mul_right _ hn;omega
theorem bits_end {xs : List Nat} (hs : Small xs) (hl : 0 < xs.length) {m : Nat} (hm : 1 ≤ m) (h1 : 2 ^ (m - 1) ≤ lim xs (xs.length - 1)) (h2 : lim xs (xs.length - 1) < 2 ^ m) : IsBits (val xs) (32 * (xs.length - 1) + m) := by
 have e : val xs = pre xs (xs.length - 1) + lim xs (xs.length - 1) * Bp (xs.length - 1) := by
  rw [← pre_succ, show xs.length - 1 + 1 = xs.length by omega]; rfl
 have h3 := pre_lt hs (xs.length - 1);have h4 := Bp_two (xs.length - 1);refine Or.inr ⟨by omega, ?_, ?_⟩
 ·rw [show 32 * (xs.length - 1) + m - 1 = m - 1 + 32 * (xs.length - 1) by omega, Nat.pow_add, ← h4, e];have := Nat.mul_le_mul_right (Bp (xs.length - 1)) h1;omega
 ·rw [show 32 * (xs.length - 1) + m = m + 32 * (xs.length - 1) by omega, Nat.pow_add, ← h4, e];have := Nat.mul_le_mul_right (Bp (xs.length - 1)) (show lim xs (xs.length - 1) + 1 ≤ 2 ^ m by omega);rw [Nat.add_mul] at this;omega
theorem half_more (t m : Nat) : t / 2 ^ m / 2 = t / 2 ^ (m + 1) := by rw [Nat.div_div_eq_div_mul, Nat.pow_succ]
theorem half_pos {t m : Nat} (h : 0 < t / 2 ^ m) : 2 ^ m ≤ t := by
 rcases Nat.lt_or_ge t (2 ^ m) with c | c
 ·rw [Nat.div_eq_of_lt c] at h; omega
 ·exact c
theorem half_zero {t m : Nat} (h : t / 2 ^ m = 0) : t < 2 ^ m := by
 rcases Nat.lt_or_ge t (2 ^ m) with c | c
 ·exact c
 ·have := Nat.div_pos c (Nat.pow_pos (by omega)); omega
theorem half_le {t m : Nat} (ht : t < 4294967296) (h : 0 < m → 2 ^ (m - 1) ≤ t) : m ≤ 32 := by
 rcases Nat.lt_or_ge 32 m with c | c
 ·have h1 := h (by omega);have h2 := Nat.pow_le_pow_right (n := 2) (by omega) (show 32 ≤ m - 1 by omega);omega
 ·exact c
theorem mul_fits {a b : Nat} (ha : a < 4294967296) (hb : b < 4294967296) : a * b ≤ 18446744065119617025 := Nat.mul_le_mul (show a ≤ 4294967295 by omega) (show b ≤ 4294967295 by omega)
theorem pow_limb {r : Nat} (hr : r < 32) : 2 ^ r ≤ 2147483648 ∧ 0 < 2 ^ r ∧ 4294967296 = 2 ^ r * 2 ^ (32 - r) := by
 refine ⟨?_, Nat.pow_pos (by omega), ?_⟩
 ·have := Nat.pow_le_pow_right (n := 2) (by omega) (show r ≤ 31 by omega);omega
 ·rw [← Nat.pow_add, show r + (32 - r) = 32 by omega]
theorem low_mul {x r : Nat} (hr : r < 32) : x * 2 ^ r % 4294967296 = (x % 2 ^ (32 - r)) * 2 ^ r := by
 have h := (pow_limb hr).2.2;rw [Nat.mul_comm x, Nat.mul_comm _ (2 ^ r)];rw [h];exact Nat.mul_mod_mul_left _ _ _
theorem low_or {x r c : Nat} (hr : r < 32) (hc : c < 2 ^ r) : c ||| x * 2 ^ r % 4294967296 = c + x * 2 ^ r % 4294967296 := by
 rw [low_mul hr, Nat.or_comm, Nat.add_comm];have := Nat.shiftLeft_add_eq_or_of_lt hc (x % 2 ^ (32 - r));rw [Nat.shiftLeft_eq] at this;exact this.symm
theorem low_fits {x r c : Nat} (hr : r < 32) (hc : c < 2 ^ r) : c + x * 2 ^ r % 4294967296 < 4294967296 := by
 rw [low_mul hr];have h := (pow_limb hr).2.2;have h1 : x % 2 ^ (32 - r) < 2 ^ (32 - r) := Nat.mod_lt _ (Nat.pow_pos (by omega));have h2 : (x % 2 ^ (32 - r) + 1) * 2 ^ r ≤ 2 ^ (32 - r) * 2 ^ r := Nat.mul_le_mul_right _ h1;rw [Nat.add_mul, Nat.mul_comm (2 ^ (32 - r))] at h2;omega
theorem high_fits {x r : Nat} (hr : r < 32) (hx : x < 4294967296) : x * 2 ^ r / 4294967296 < 2 ^ r := by
 apply Nat.div_lt_of_lt_mul;exact Nat.mul_lt_mul_of_pos_right hx (pow_limb hr).2.1
theorem left_step {Z c P x p bk bq b : Nat} (hb : b = bq * bk) (h : Z + c * b = P * p * bq) : Z + (c + x * p % 4294967296) * b + x * p / 4294967296 * (b * 4294967296) = (P + x * bk) * p * bq := by
 have h1 := carry_eq (x * p) b;rw [Nat.add_mul, Nat.add_mul P, Nat.add_mul (P * p)];have h2 : x * p * b = x * bk * p * bq := by
  rw [hb, Nat.mul_assoc x bk, Nat.mul_comm bk p, ← Nat.mul_assoc x p, Nat.mul_assoc (x * p), Nat.mul_comm bk bq]
 omega
theorem right_step {d h T p m : Nat} (hp : 0 < p) (hB : 4294967296 = p * m) (hd : d < 4294967296) (hT : T % 4294967296 = h) : (d + 4294967296 * T) / p = (d + h * 4294967296) / p % 4294967296 + 4294967296 * (T / p) := by
 have e1 : h % p = T % p := by
  rw [← hT, hB];exact Nat.mod_mul_right_mod T p m
 have f : ∀ u : Nat, (d + 4294967296 * u) / p = (d + 4294967296 * (u % p)) / p + 4294967296 * (u / p) := by
  intro u;have h1 := Nat.div_add_mod u p;have h2 : d + 4294967296 * u = d + 4294967296 * (u % p) + p * (4294967296 * (u / p)) := by
   have h3 : 4294967296 * u = 4294967296 * (p * (u / p) + u % p) := by rw [h1]
   rw [h3, Nat.mul_add, Nat.mul_left_comm];omega
  rw [h2, Nat.add_mul_div_left _ _ hp]
 have h4 : (d + 4294967296 * (T % p)) / p < 4294967296 := by
  apply Nat.div_lt_of_lt_mul;have h5 := Nat.mod_lt T hp;have h6 : 4294967296 * (T % p + 1) ≤ 4294967296 * p := Nat.mul_le_mul_left _ h5;rw [Nat.mul_comm p];omega
 rw [f T, Nat.mul_comm h, f h, e1, Nat.add_mul_mod_self_left, Nat.mod_eq_of_lt h4]
theorem val_mod (xs : List Nat) (hs : Small xs) (k : Nat) : val (xs.drop k) % 4294967296 = lim xs k := by
 rw [val_drop_step, Nat.add_mul_mod_self_left, Nat.mod_eq_of_lt (hs k)]
theorem right_end {zs ds : List Nat} (hs : Small ds) {r : Nat} (hr : r < 32) (hl : zs.length = ds.length) (h : ∀ i, i < ds.length → lim zs i = (lim ds i + lim ds (i + 1) * 4294967296) / 2 ^ r % 4294967296) : val zs = val ds / 2 ^ r := by
 have key : ∀ j, j ≤ ds.length → val (zs.drop (ds.length - j)) = val (ds.drop (ds.length - j)) / 2 ^ r := by
  intro j
  induction j with
  | zero => intro _; rw [Nat.sub_zero, val_drop_end (by omega), val_drop_end (by omega), Nat.zero_div]
  | succ j ih =>
   intro hj;have e : ds.length - (j + 1) + 1 = ds.length - j := by omega
   rw [val_drop_step zs, val_drop_step ds, e, ih (by omega), h _ (by omega), e];exact (right_step (pow_limb hr).2.1 (pow_limb hr).2.2 (hs _) (val_mod ds hs _)).symm
 have := key ds.length (Nat.le_refl _)
 rwa [Nat.sub_self, List.drop_zero, List.drop_zero] at this
theorem val_drop_div {xs : List Nat} (hs : Small xs) (q : Nat) : val (xs.drop q) = val xs / Bp q := by
 rw [val_split xs q, Nat.add_mul_div_left _ _ (Bp_pos q), Nat.div_eq_of_lt (pre_lt hs q), Nat.zero_add]
/-
 More plain mathematics of rows: products and quotients, limb by limb and bit by bit.
-/

theorem mul_step {Z c b P0 l x Y bk y : Nat} (bb : b = bk * Y) (h : P0 + c * b = Z) : P0 + (c + x * y + l) % 4294967296 * b + (c + x * y + l) / 4294967296 * (b * 4294967296) = Z + l * b + x * (y * Y) * bk := by
 have h1 := carry_eq (c + x * y + l) b;rw [Nat.add_mul, Nat.add_mul] at h1;have h2 : x * y * b = x * (y * Y) * bk := by
  rw [bb, Nat.mul_comm bk Y, ← Nat.mul_assoc, Nat.mul_assoc x y Y]
 omega

theorem no_carry {U n b S : Nat} (h : U + n * b = S) (hS : S < b) : U = S := by
 rcases Nat.eq_zero_or_pos n with e | e
 ·subst e; omega
 ·have : 1 * b ≤ n * b := Nat.mul_le_mul_right _ e;omega
theorem mul_round {us zs xs ys : List Nat} {k lb n : Nat} (hx : Small xs) (hy : Small ys) (hl : ys.length = lb) (hz : pre zs (k + lb) = pre xs k * val ys) (h0 : lim zs (k + lb) = 0)
  (h : pre us (k + (lb + 1)) + n * Bp (k + (lb + 1)) = pre zs (k + (lb + 1)) + lim xs k * pre ys (lb + 1) * Bp k) : pre us (k + 1 + lb) = pre xs (k + 1) * val ys := by
 have e1 : pre zs (k + (lb + 1)) = pre xs k * val ys := by
  rw [show k + (lb + 1) = k + lb + 1 by omega, pre_succ, h0, hz, Nat.zero_mul, Nat.add_zero]
 have e2 : pre ys (lb + 1) = val ys := pre_len (by omega);have e3 : pre xs k * val ys + lim xs k * val ys * Bp k = pre xs (k + 1) * val ys := by
  rw [pre_succ, Nat.add_mul, Nat.mul_assoc, Nat.mul_assoc, Nat.mul_comm (val ys)]
 rw [e1, e2, e3] at h;have h1 := pre_lt hx (k + 1);have h2 := val_lt hy;rw [hl] at h2;have h3 : pre xs (k + 1) * val ys < Bp (k + 1 + lb) := by
  rw [Bp_add];exact Nat.mul_lt_mul_of_lt_of_le h1 (Nat.le_of_lt h2) (Bp_pos lb)
 rw [show k + (lb + 1) = k + 1 + lb by omega] at h;exact no_carry h h3

theorem bit_limb {l R r : Nat} (hr : r < 32) : (l + 4294967296 * R) / 2 ^ r % 2 = l / 2 ^ r % 2 := by
 obtain ⟨_, h2, h3⟩ := pow_limb hr;rw [h3, Nat.mul_assoc, Nat.add_mul_div_left _ _ h2];have e : 2 ^ (32 - r) = 2 * 2 ^ (31 - r) := by rw [show 32 - r = 31 - r + 1 by omega, Nat.pow_succ, Nat.mul_comm]
 rw [e, Nat.mul_assoc, Nat.add_mul_mod_self_left]
theorem bit_val {xs : List Nat} (hs : Small xs) {q r : Nat} (hr : r < 32) : val xs / 2 ^ (32 * q + r) % 2 = lim xs q / 2 ^ r % 2 := by
 rw [Nat.pow_add, ← Bp_two, ← Nat.div_div_eq_div_mul, ← val_drop_div hs, val_drop_step];exact bit_limb hr
theorem or_bit {a r : Nat} (h : a / 2 ^ r % 2 = 0) : a ||| 2 ^ r = a + 2 ^ r := by
 have hp : 0 < 2 ^ r := Nat.pow_pos (by omega);have h1 := Nat.div_add_mod a (2 ^ r);have hl : a % 2 ^ r < 2 ^ r := Nat.mod_lt _ hp;obtain ⟨H, hH⟩ : ∃ H, a / 2 ^ r = 2 * H := ⟨a / 2 ^ r / 2, by omega⟩;have e2 : a = H <<< (r + 1) + a % 2 ^ r := by
  rw [Nat.shiftLeft_eq, Nat.pow_succ, Nat.mul_comm (2 ^ r) 2, ← Nat.mul_assoc, Nat.mul_comm H 2, Nat.mul_comm (2 * H), ← hH];exact h1.symm
 have hlt : a % 2 ^ r < 2 ^ (r + 1) := by rw [Nat.pow_succ]; omega
 have e3 : a = H <<< (r + 1) ||| a % 2 ^ r := by rw [← Nat.shiftLeft_add_eq_or_of_lt hlt]; exact e2
 have hlt2 : 2 ^ r + a % 2 ^ r < 2 ^ (r + 1) := by rw [Nat.pow_succ]; omega
 have e4 : H <<< (r + 1) + (2 ^ r + a % 2 ^ r) = H <<< (r + 1) ||| (2 ^ r ||| a % 2 ^ r) := by
  have e7 := Nat.shiftLeft_add_eq_or_of_lt hl 1;rw [Nat.one_shiftLeft] at e7;rw [Nat.shiftLeft_add_eq_or_of_lt hlt2, e7]
 have e5 : a + 2 ^ r = H <<< (r + 1) + (2 ^ r + a % 2 ^ r) := by omega
 rw [e5, e4];have e6 : a ||| 2 ^ r = (H <<< (r + 1) ||| a % 2 ^ r) ||| 2 ^ r := by rw [← e3]
 rw [e6, Nat.or_assoc, Nat.or_comm (a % 2 ^ r)]
theorem val_set_add {zs : List Nat} {q d : Nat} (hq : q < zs.length) : val (zs.set q (lim zs q + d)) = val zs + d * Bp q := by
 rw [val_split zs q, val_split (zs.set q (lim zs q + d)) q, pre_set_lt _ _ _ _ (Nat.le_refl _) hq, val_drop_set _ _ _ hq, val_drop_step zs q, Nat.mul_add (Bp q), Nat.mul_add (Bp q), Nat.mul_add (Bp q), Nat.mul_comm d];omega
theorem bit_step {A D j : Nat} (hD : 0 < D) : A / 2 ^ j = 2 * (A / 2 ^ (j + 1)) + A / 2 ^ j % 2 ∧
  (2 * (A / 2 ^ (j + 1) % D) + A / 2 ^ j % 2 < D → A / 2 ^ j % D = 2 * (A / 2 ^ (j + 1) % D) + A / 2 ^ j % 2 ∧ A / 2 ^ j / D = 2 * (A / 2 ^ (j + 1) / D)) ∧
  (D ≤ 2 * (A / 2 ^ (j + 1) % D) + A / 2 ^ j % 2 → A / 2 ^ j % D = 2 * (A / 2 ^ (j + 1) % D) + A / 2 ^ j % 2 - D ∧ A / 2 ^ j / D = 2 * (A / 2 ^ (j + 1) / D) + 1) := by
 have h0 : A / 2 ^ j = 2 * (A / 2 ^ (j + 1)) + A / 2 ^ j % 2 := by rw [← half_more]; omega
 have h1 := Nat.div_add_mod (A / 2 ^ (j + 1)) D;have h2 := Nat.mod_lt (A / 2 ^ (j + 1)) hD;have hb : A / 2 ^ j % 2 ≤ 1 := by omega
 generalize A / 2 ^ j % 2 = b at *;generalize A / 2 ^ j = X at *;generalize A / 2 ^ (j + 1) = Y at *;have h3 : X = D * (2 * (Y / D)) + (2 * (Y % D) + b) := by
  rw [Nat.mul_left_comm];omega
 refine ⟨h0, fun hlt => ?_, fun hge => ?_⟩
 ·rw [h3, Nat.mul_add_mod, Nat.mod_eq_of_lt hlt, Nat.mul_add_div hD, Nat.div_eq_of_lt hlt];exact ⟨rfl, rfl⟩
 ·have h4 : X = D * (2 * (Y / D) + 1) + (2 * (Y % D) + b - D) := by rw [Nat.mul_add]; omega
  have h5 : 2 * (Y % D) + b - D < D := by omega
  rw [h4, Nat.mul_add_mod, Nat.mod_eq_of_lt h5, Nat.mul_add_div hD, Nat.div_eq_of_lt h5];exact ⟨rfl, rfl⟩
theorem val_first {xs : List Nat} {k : Nat} (h : val xs < Bp k) : val xs = pre xs k := by
 have h5 := val_split xs k;rcases Nat.eq_zero_or_pos (val (xs.drop k)) with e | e
 ·rw [e, Nat.mul_zero] at h5;exact h5
 ·have h6 : Bp k * 1 ≤ Bp k * val (xs.drop k) := Nat.mul_le_mul_left _ (Nat.succ_le_of_lt e);omega
theorem shift_eq (q p : Nat) : q * (p * 2) = 2 * q * p := by rw [Nat.mul_comm p 2, ← Nat.mul_assoc, Nat.mul_comm q 2]
theorem even_bit (M j : Nat) : M * 2 ^ (j + 1) / 2 ^ j % 2 = 0 := by
 rw [Nat.pow_succ, shift_eq, Nat.mul_div_cancel _ (Nat.pow_pos (by omega)), Nat.mul_mod_right]
theorem or_bit_fits {a r : Nat} (ha : a < 4294967296) (hr : r < 32) (h : a / 2 ^ r % 2 = 0) : a + 2 ^ r < 4294967296 := by
 rw [← or_bit h];have h1 : a < 2 ^ 32 := by omega
 have h2 : 2 ^ r < 2 ^ 32 := Nat.pow_lt_pow_right (by omega) hr;have := Nat.or_lt_two_pow h1 h2;omega
theorem bits_le {N n k : Nat} (h : IsBits N n) (hN : N < Bp k) : n ≤ 32 * k := by
 rcases h with ⟨_, h⟩ | ⟨h1, h2, _⟩
 ·omega
 ·rcases Nat.lt_or_ge (32 * k) n with c | c
  ·have h3 : 2 ^ (32 * k) ≤ 2 ^ (n - 1) := Nat.pow_le_pow_right (by omega) (by omega);rw [← Bp_two] at h3;omega
  ·exact c

end Go.Proofs.YtnpneloahajniaaGreat.Lb

/-
 What a slice of limbs reads as in a world ('RowAt'), and that it goes on reading so while nothing that was there is written.
-/
namespace Go.Proofs.YtnpneloahajniaaGreat
open Go.RowKit Lb

theorem zh {p : Prop} (h : p) : Hid p := h
theorem zu {p : Prop} (h : Hid p) : p := h
theorem ret_int {k : IntKind} {a b : Int} (h : a = b) : Ending.returned (.int k a) = .returned (.int k b) := by rw [h]
def lv (x : Nat) : Value := .int .u32 (x : Int)
theorem map_set_lv (xs : List Nat) (j v : Nat) {e : Int} (h : e = (v : Int)) : (xs.map lv).set j (.int .u32 e) = (xs.set j v).map lv := by
 rw [List.map_set, h]; rfl
structure RowAt (w : World) (ao : Option Addr) (len cap : Nat) (xs : List Nat) : Prop where
 len_eq : xs.length = len
 cap_le : len ≤ cap
 cap_max : cap ≤ maxLen
 nil_cap : ao = none → cap = 0
 small : Small xs
 cells : 0 < len → ∃ b off, ao = some ⟨b, off, none⟩ ∧ b < w.heap.size ∧ ∀ i, i < len → w.cell? ⟨b, off + i, none⟩ = some (.int .u32 (lim xs i : Int))

def NumAt (w : World) (ao : Option Addr) (len cap : Nat) (N : Nat) : Prop := ∃ xs, RowAt w ao len cap xs ∧ Norm xs ∧ val xs = N

theorem RowAt.za {w w' : World} {ao : Option Addr} {len cap : Nat} {xs : List Nat} (h : RowAt w ao len cap xs) (hb : Below w.heap.size w w') : RowAt w' ao len cap xs := by
 refine ⟨h.len_eq, h.cap_le, h.cap_max, h.nil_cap, h.small, fun hp => ?_⟩;obtain ⟨b, off, e, hlt, hc⟩ := h.cells hp;exact ⟨b, off, e, Nat.lt_of_lt_of_le hlt hb.size, fun i hi => (hb.cell (p := ⟨b, off + i, none⟩) hlt).trans (hc i hi)⟩
theorem NumAt.za {w w' : World} {ao : Option Addr} {len cap N : Nat} (h : NumAt w ao len cap N) (hb : Below w.heap.size w w') : NumAt w' ao len cap N := by
 obtain ⟨xs, h1, h2⟩ := h;exact ⟨xs, h1.za hb, h2⟩
theorem rowAt_nil (w : World) : RowAt w none 0 0 [] :=
 ⟨rfl, Nat.le_refl _, Nat.zero_le _, fun _ => rfl, small_nil, fun h => absurd h (by omega)⟩
theorem numAt_nil (w : World) : NumAt w none 0 0 0 := ⟨[], rowAt_nil w, fun h => absurd h (by simp), rfl⟩

theorem NumAt.len_le {w : World} {ao : Option Addr} {len cap N k : Nat} (h : NumAt w ao len cap N) (hk : N < Bp k) : len ≤ k := by
 obtain ⟨xs, hx, nx, vx⟩ := h;rw [← hx.len_eq];exact norm_len nx (by rw [vx]; exact hk)

theorem RowAt.bound {w : World} {ao : Option Addr} {len cap : Nat} {xs : List Nat} (h : RowAt w ao len cap xs) (i : Nat) : (lim xs i : Int) < 4294967296 := by
 have := h.small i;omega

theorem RowAt.take {w : World} {ao : Option Addr} {len cap : Nat} {xs : List Nat} (h : RowAt w ao len cap xs) {n : Nat} (hn : n ≤ len) : RowAt w ao n cap (xs.take n) := by
 have hl := h.len_eq;refine ⟨by rw [List.length_take]; omega, Nat.le_trans hn h.cap_le, h.cap_max, h.nil_cap, small_take h.small n, fun hp => ?_⟩;obtain ⟨b, off, e, hlt, hc⟩ := h.cells (by omega);refine ⟨b, off, e, hlt, fun i hi => ?_⟩;rw [lim_take, if_pos hi];exact hc i (by omega)

theorem RowAt.drop {w : World} {b off len cap : Nat} {xs : List Nat} (h : RowAt w (some ⟨b, off, none⟩) len cap xs) {q : Nat} (hq : q < len) : RowAt w (some ⟨b, off + q, none⟩) (len - q) (cap - q) (xs.drop q) := by
 have hl := h.len_eq;have hc := h.cap_le;have hm := h.cap_max;refine ⟨by rw [List.length_drop]; omega, by omega, by omega, fun e => by simp at e, small_drop h.small q, fun _ => ?_⟩;obtain ⟨b', off', e, hlt, hcell⟩ := h.cells (by omega);simp only [Option.some.injEq, Addr.mk.injEq, and_true] at e;obtain ⟨rfl, rfl⟩ := e;refine ⟨_, _, rfl, hlt, fun i hi => ?_⟩;rw [lim_drop, Nat.add_assoc];exact hcell (q + i) (by omega)

def Own (w : World) (base : Nat) (v : Value) (n : Nat) (xs : List Nat) : Prop := w.ownsRow base 73 1 v n (xs.map lv)
theorem Own.len {w : World} {base n : Nat} {v : Value} {xs : List Nat} (h : Own w base v n xs) : xs.length = n := by simpa using h.1
theorem Own.alloc {w : World} {base n : Nat} {v : Value} {xs : List Nat} (h : Own w base v n xs) (o : Obj) : Own (w.alloc o) base v n xs := World.ownsRow.alloc h o
theorem Own.drewN {w : World} {base n : Nat} {v : Value} {xs : List Nat} (h : Own w base v n xs) (k : Nat) : Own (w.drewN k) base v n xs := h
theorem Own.za {w w' : World} {base n : Nat} {v : Value} {xs : List Nat} (h : Own w base v n xs) (hb : Below w.heap.size w w') : Own w' base v n xs := by
 refine ⟨h.1, ?_⟩;rcases h.2 with h' | ⟨g, cap, cur, hv, hg, hh, r⟩
 ·exact Or.inl h'
 ·exact Or.inr ⟨g, cap, cur, hv, hg, by rw [hb.block g (lt_of_block hh)]; exact hh, r⟩
theorem own_none (w : World) (base : Nat) : Own w base (.slice none 0 0) 0 [] := ⟨rfl, Or.inl ⟨rfl, rfl⟩⟩
theorem own_empty {w : World} {base : Nat} (hb : base ≤ w.heap.size) : Own (w.alloc (.cells #[] 73)) base (.slice (some ⟨w.heap.size, 0, none⟩) 0 0) 0 [] :=
 World.ownsRow_lit (size := 1) w #[] 0 hb (by unfold maxLen; omega) rfl
theorem Own.cell {w : World} {base g n cap : Nat} {xs : List Nat} (h : Own w base (.slice (some ⟨g, 0, none⟩) n cap) n xs) {i : Nat} (hi : i < n) : w.cell? ⟨g, i, none⟩ = some (.int .u32 (lim xs i : Int)) := by
 have hl := h.len;rw [World.ownsRow.cellAt h i (by omega)];simp [lim, lv, show i < xs.length by omega]
theorem Own.free {w : World} {base g n cap : Nat} {xs : List Nat} (h : Own w base (.slice (some ⟨g, 0, none⟩) n cap) n xs) (i : Nat) : w.frozen? ⟨g, i, none⟩ = false := World.ownsRow.frozenAt h i
theorem Own.set {w : World} {base g n cap : Nat} {xs : List Nat} (h : Own w base (.slice (some ⟨g, 0, none⟩) n cap) n xs) (j v : Nat) {e : Int} (he : e = (v : Int)) : Own (w.setCell ⟨g, j, none⟩ (.int .u32 e)) base (.slice (some ⟨g, 0, none⟩) n cap) n (xs.set j v) := by
 unfold Own;rw [← map_set_lv xs j v he];exact (World.ownsRow.stored h j _).1
theorem Own.base_le {w : World} {base g n cap : Nat} {xs : List Nat} (h : Own w base (.slice (some ⟨g, 0, none⟩) n cap) n xs) : base ≤ g := by
 rcases h.2 with ⟨h', _⟩ | ⟨g', cap', cur, h', hb, _⟩
 ·simp at h'
 ·simp only [Value.slice.injEq, Option.some.injEq, Addr.mk.injEq, and_true, true_and] at h';obtain ⟨rfl, rfl⟩ := h';exact hb
theorem Own.block_ge {w : World} {base n : Nat} {v : Value} {xs : List Nat} (h : Own w base v n xs) : ∀ k, v.ownBlock = some k → base ≤ k := by
 intro k hk;rcases h.2 with ⟨h', _⟩ | ⟨g', cap', cur, h', hb, _⟩
 ·subst h'; simp [Value.ownBlock] at hk
 ·subst h'; simp [Value.ownBlock] at hk; omega
theorem rowAt_own {w : World} {base g n cap : Nat} {xs : List Nat} (h : Own w base (.slice (some ⟨g, 0, none⟩) n cap) n xs) (hs : Small xs) : RowAt w (some ⟨g, 0, none⟩) n cap xs := by
 have hl : xs.length = n := by simpa using h.1
 have hcell := fun j hj => World.ownsRow.cellAt h j hj;rcases h.2 with ⟨h', _⟩ | ⟨g', cap', cur, h', _, hg, hnc, hcm, hcs, htake⟩
 ·simp at h'
 ·simp only [Value.slice.injEq, Option.some.injEq, Addr.mk.injEq, and_true, true_and] at h';obtain ⟨rfl, rfl⟩ := h';refine ⟨hl, hnc, hcm, fun e => by simp at e, hs, fun _ => ⟨g, 0, rfl, lt_of_block hg, fun i hi => ?_⟩⟩;rw [Nat.zero_add, hcell i (by omega)];simp [lim, lv, show i < xs.length by omega]
theorem rowAt_owned {w : World} {base n : Nat} {v : Value} {xs : List Nat} (h : Own w base v n xs) (hs : Small xs) : ∃ ao cap, v = .slice ao n cap ∧ RowAt w ao n cap xs := by
 have hl : xs.length = n := by simpa using h.1
 rcases h.2 with ⟨h', hx⟩ | ⟨g', cap', cur, h', _⟩
 ·have hn : n = 0 := by simpa using hx
  subst hn h';obtain rfl := List.eq_nil_of_length_eq_zero hl;exact ⟨none, 0, rfl, rowAt_nil w⟩
 ·subst h';exact ⟨_, _, rfl, rowAt_own h hs⟩

theorem info_u32 : (Tryz.prog.info? 73).map (fun i => (i.zero, i.size, i.bytes)) = some (some (.int .u32 0), 1, 4) := by kernel_rfl
def New (B : Nat) (ao : Option Addr) (len : Nat) : Prop := 0 < len → ∃ b off, ao = some ⟨b, off, none⟩ ∧ B ≤ b
theorem New.mono {B B' : Nat} {ao : Option Addr} {len : Nat} (h : New B ao len) (hb : B' ≤ B) : New B' ao len := fun hp => by
 obtain ⟨b, off, e, h1⟩ := h hp;exact ⟨b, off, e, Nat.le_trans hb h1⟩
theorem own_new {w : World} {base n cap : Nat} {ao : Option Addr} {xs : List Nat} (h : Own w base (.slice ao n cap) n xs) : New base ao n := by
 intro hp;rcases h.2 with ⟨h', hn⟩ | ⟨g', cap', cur, h', hb, _⟩
 ·omega
 ·simp only [Value.slice.injEq, true_and] at h';exact ⟨g', 0, h'.1, hb⟩
theorem RowAt.other {w : World} {ao : Option Addr} {len cap g : Nat} {xs : List Nat} (h : RowAt w ao len cap xs) (hn : New (g + 1) ao len) (j : Nat) (u : Value) : RowAt (w.setCell ⟨g, j, none⟩ u) ao len cap xs := by
 refine ⟨h.len_eq, h.cap_le, h.cap_max, h.nil_cap, h.small, fun hp => ?_⟩;obtain ⟨b, off, e, hlt, hc⟩ := h.cells hp;obtain ⟨b', off', e', hb⟩ := hn hp;rw [e] at e';simp only [Option.some.injEq, Addr.mk.injEq, and_true] at e';obtain ⟨rfl, rfl⟩ := e';refine ⟨b, off, e, by simpa [World.setCell] using hlt, fun i hi => ?_⟩;rw [← hc i hi];exact World.cell?_of_block (w := w) (Below.heap_setCell w ⟨g, j, none⟩ u b (by simp; omega))
theorem NumAt.other {w : World} {ao : Option Addr} {len cap g N : Nat} (h : NumAt w ao len cap N) (hn : New (g + 1) ao len) (j : Nat) (u : Value) : NumAt (w.setCell ⟨g, j, none⟩ u) ao len cap N := by
 obtain ⟨xs, h1, h2⟩ := h;exact ⟨xs, h1.other hn j u, h2⟩

theorem append_row {w : World} {ops : Array Oper} {rest : List Oper} {o : Oper} {a : Act} {Q : Exit → Act → World → Prop} (hgd : o.guard = none) (s x : Operand)
  (ho : o.op = .call { callee := .builtin .append, args := #[s, x], argTypes := #[43, 43] }) (base : Nat) (v : Value) (n : Nat) (xs : List Nat) (hs : a.eval s = v) (hown : Own w base v n xs)
  (ao : Option Addr) (m c : Nat) (ys : List Nat) (hx : a.eval x = .slice ao m c) (hrow : RowAt w ao m c ys) (hb : n + m ≤ 1000000000) (hbase : base ≤ w.heap.size)
  (h : ∀ v' w', Own w' base v' (n + m) (xs ++ ys) → w.grownBy w' v.ownBlock → wpList Tryz.prog ops Q rest (a.put o.dst v') w') : wpList Tryz.prog ops Q (o :: rest) a w := by
 obtain ⟨i0, hi, hz0, hz1, hz2⟩ := info_parts info_u32;have hl := hrow.len_eq;cases ao with
 | none =>
  have hc := hrow.nil_cap rfl;have hcl := hrow.cap_le;obtain rfl : c = 0 := hc;obtain rfl : m = 0 := by omega
  obtain rfl := List.eq_nil_of_length_eq_zero hl;refine wpList_append_own_none hgd s x _ ho base 73 i0 1 Tryz.underlying43 hi v n (xs.map lv) hs hown hx ?_;have := h v w (by rw [List.append_nil]; exact hown) (World.grownBy.refl _ _);exact this
 | some ad =>
  refine wpList_append_own w hgd s x _ ho base 73 i0 (.int .u32 0) 1 4 Tryz.underlying43 hi hz0 hz1 hz2 rfl (by decide) v n (xs.map lv) hs hown ad m c (ys.map lv) hx (by simp [hl]) ?_ ?_ ?_ ?_ hbase ?_
  ·intro j u hj;have hjl : j < m := by
    have := (List.getElem?_eq_some_iff.1 hj).1;simpa [hl] using this
   obtain ⟨b, off, e, _, hc⟩ := hrow.cells (by omega);obtain rfl := Option.some.inj e;rw [Addr.add_lit, hc j hjl];rw [← hj];simp [lim, lv, show j < ys.length by omega]
  ·intro u hu;obtain ⟨_, _, rfl⟩ := List.mem_map.1 hu;rfl
  ·unfold maxLen; omega
  ·omega
  ·intro v' w' h1 h2 _;rw [← List.map_append] at h1;exact h v' w' h1 h2

theorem make_row {w : World} {ops : Array Oper} {rest : List Oper} {o : Oper} {a : Act} {Q : Exit → Act → World → Prop} (hg : o.guard = none) (l c : Operand) (hop : o.op = Op.makeSlice 43 l c)
  (base : Nat) (kl kc : IntKind) (L C : Int) (n : Nat) (hl : a.eval l = .int kl L) (hc : a.eval c = .int kc C) (hL : L = (n : Int)) (hC : C = (n : Int)) (hn : n ≤ 1000000000) (hbase : base ≤ w.heap.size)
  (hK : ∀ w', Own w' base (.slice (some ⟨w.heap.size, 0, none⟩) n n) n (List.replicate n 0) → w.grownBy w' none → wpList Tryz.prog ops Q rest (a.put o.dst (.slice (some ⟨w.heap.size, 0, none⟩) n n)) w') :
  wpList Tryz.prog ops Q (o :: rest) a w := by
 obtain ⟨i0, hi, hz0, hz1, hz2⟩ := info_parts info_u32;refine wpList_make_full w hg l c _ hop base 73 i0 (.int .u32 0) 1 Tryz.underlying43 hi hz0 hz1 kl kc L C n hl hc hL hC (by rw [hz2]; omega) (by unfold maxLen; omega) hbase ?_;intro w' h1 h2;refine hK w' ?_ h2;unfold Own;have e : (madeCells (Value.int .u32 0).cells (n * 1)).toList = (List.replicate n 0).map lv := by
  show (madeCells #[.int .u32 0] (n * 1)).toList = _;rw [toList_madeCells_one, Nat.mul_one, List.map_replicate];rfl
 rw [← e];exact h1

theorem copy_row {w : World} {ops : Array Oper} {rest : List Oper} {o : Oper} {a : Act} {Q : Exit → Act → World → Prop} (hgd : o.guard = none) (d s : Operand)
  (ho : o.op = .call { callee := .builtin .copy, args := #[d, s], argTypes := #[43, 43] }) (base g n cap : Nat) (zs ys : List Nat) (hd : a.eval d = .slice (some ⟨g, 0, none⟩) n cap) (hown : Own w base (.slice (some ⟨g, 0, none⟩) n cap) n zs)
  (ao : Option Addr) (c : Nat) (hs : a.eval s = .slice ao n c) (hrow : RowAt w ao n c ys) (hn : 0 < n)
  (h : ∀ w', Own w' base (.slice (some ⟨g, 0, none⟩) n cap) n ys → w.grownBy w' (some g) → wpList Tryz.prog ops Q rest (a.put o.dst (goInt (ys.map lv).length)) w') : wpList Tryz.prog ops Q (o :: rest) a w := by
 obtain ⟨i0, hi, hz0, hz1, hz2⟩ := info_parts info_u32;obtain ⟨b, off, rfl, hb, hc⟩ := hrow.cells hn;have hl := hrow.len_eq;rcases hown.2 with ⟨h', _⟩ | ⟨g', cap', cur, h', hbg, hg, hnc, hcm, hcs, htake⟩
 ·simp at h'
 ·simp only [Value.slice.injEq, Option.some.injEq, Addr.mk.injEq, and_true, true_and] at h';obtain ⟨rfl, rfl⟩ := h';refine wpList_copy_own hgd d s _ _ ho 73 Tryz.underlying43 (by rw [hi]; simp [hz1]) g 0 n cap ⟨b, off, none⟩ n c hd hs cur 73 hg (ys.map lv) (by simp [hl]) ?_ (by simp [hl]; omega) ?_ ?_
  ·intro j v hj;have hjl : j < n := by
    have := (List.getElem?_eq_some_iff.1 hj).1;simpa [hl] using this
   rw [Addr.add_lit, hc j hjl, ← hj];simp [lim, lv, show j < ys.length by omega]
  ·intro u hu;obtain ⟨_, _, rfl⟩ := List.mem_map.1 hu;rfl
  ·refine h _ ⟨by simp [hl], Or.inr ⟨g, cap, _, rfl, hbg, setRow_heap w g cur _ 73 _ hg, hnc, hcm, ?_, ?_⟩⟩ ⟨rfl, rfl, rfl, by simp [World.setRow], fun k _ hk => setRow_other w g k _ (fun e => hk (by simp [e]))⟩
   ·simp [hl]; omega
   ·simp [hl]

theorem rowAt_one {w : World} {e : Int} {v : Nat} (he : e = (v : Int)) (hv : v < 4294967296) : RowAt (w.alloc (.cells #[.int .u32 e] 73)) (some ⟨w.heap.size, 0, none⟩) 1 1 [v] := by
 subst he;refine ⟨rfl, Nat.le_refl _, by unfold maxLen; omega, fun h => by simp at h, small_of_mem (by simpa using hv), fun _ => ⟨_, _, rfl, by simp, fun i hi => ?_⟩⟩;obtain rfl : i = 0 := by omega
 simp [lim]
/-
 Rows that come in, rows typed out, and how great what they hold may be.
-/

theorem Below.step {w w1 w2 : World} (h : Below w.heap.size w w1) (k : Below w1.heap.size w1 w2) : Below w.heap.size w w2 := h.trans (k.mono h.size)

theorem rowAt_of {w : World} {a : Option Addr} {len cap : Nat} {zs : List Int} (h : (a = none ∧ len = 0 ∧ cap = 0 ∧ zs = []) ∨
  ∃ x, a = some x ∧ len ≤ cap ∧ cap ≤ maxLen ∧ zs.length = cap ∧ (∀ i, i < zs.length → w.cell? (x.add i) = some (.int .u32 (zs.getD i 0))) ∧ ∀ n ∈ zs, (Lit.int .u32 n).wf = true) : ∃ xs, RowAt w a len cap xs := by
 rcases h with ⟨rfl, rfl, rfl, rfl⟩ | ⟨⟨b, off, spot⟩, rfl, hl, hm, hz, hcell, hwz⟩
 ·exact ⟨[], rowAt_nil w⟩
 ·have hbd : ∀ n ∈ zs, 0 ≤ n ∧ n ≤ 4294967295 := fun n hn => bounds_u32 (hwz n hn);refine ⟨(zs.take len).map Int.toNat, ⟨by simp; omega, hl, hm, fun e => by simp at e, small_of_mem ?_, fun hp => ?_⟩⟩
  ·intro x hx;obtain ⟨y, hy, rfl⟩ := List.mem_map.1 hx;have := hbd y (List.mem_of_mem_take hy);omega
  ·have hc := hcell 0 (by omega);obtain rfl : spot = none := by simpa [Addr.add] using World.cell?_spot hc
   refine ⟨b, off, rfl, ?_, fun i hi => ?_⟩
   ·rcases Nat.lt_or_ge b w.heap.size with c | c
    ·exact c
    ·simp [Addr.add, World.cell?, Array.getElem?_eq_none c] at hc
   ·have h1 := hcell i (by omega);rw [Addr.add_lit] at h1;rw [h1];have h2 : i < zs.length := by omega
    have h3 := hbd (zs[i]) (List.getElem_mem h2);have e : lim ((zs.take len).map Int.toNat) i = (zs[i]).toNat := by simp [lim, hi, h2]
    rw [e];simp only [List.getD_eq_getElem?_getD, List.getElem?_eq_getElem h2, Option.getD_some]
    congr 2
    omega

theorem rowAt_lit {w : World} {cs : List Nat} (n : Nat) (hn : cs.length = n) (hn2 : n ≤ 1000) (hs : Small cs) : RowAt (w.alloc (.cells (cs.map lv).toArray 73)) (some ⟨w.heap.size, 0, none⟩) n n cs := by
 refine ⟨hn, Nat.le_refl _, by unfold maxLen; omega, fun h => by simp at h, hs, fun _ => ⟨_, _, rfl, by simp, fun i hi => ?_⟩⟩;simp [lim, lv, show i < cs.length by omega]

theorem rowAt_two {w : World} {e f : Int} (a b : Nat) (he : e = (a : Int)) (hf : f = (b : Int)) (ha : a < 4294967296) (hb : b < 4294967296) : RowAt (w.alloc (.cells #[.int .u32 e, .int .u32 f] 73)) (some ⟨w.heap.size, 0, none⟩) 2 2 [a, b] := by
 subst he hf;exact rowAt_lit (cs := [a, b]) 2 rfl (by omega) (small_of_mem (by simp [ha, hb]))

theorem val_two (a b : Nat) : val [a, b] = a + b * 4294967296 := by simp [val, pre, lim, Bp]
theorem row_lt {w : World} {ao : Option Addr} {len cap : Nat} {xs : List Nat} (h : RowAt w ao len cap xs) {k : Nat} (hk : len ≤ k) : val xs < Bp k := by
 have h1 := val_lt h.small;rw [h.len_eq] at h1;exact Nat.lt_of_lt_of_le h1 (Bp_le hk)

theorem val_zeros (xs : List Nat) (k : Nat) : val (xs ++ List.replicate k 0) = val xs := by
 induction k with
 | zero => simp
 | succ k ih => rw [List.replicate_succ', ← List.append_assoc, val_snoc, ih, Nat.zero_mul, Nat.add_zero]
theorem small_append {xs ys : List Nat} (h : Small xs) (g : Small ys) : Small (xs ++ ys) := fun i => by
 rw [lim_append]; split
 ·exact h i
 ·exact g _

/-
 What the functions that read rows and make none do: limb.cut tells the row without the noughts at its end.
-/

set_option maxHeartbeats 400000 in
theorem cut_same (ao : Option Addr) (len cap : Nat) (xs : List Nat) (w : World) (h : RowAt w ao len cap xs) :
  Calls Tryz.prog 88 #[.slice ao len cap] w fun e w' => (∃ ao' len' cap', e = .returned (.slice ao' len' cap') ∧ NumAt w ao' len' cap' (val xs) ∧ len' ≤ len ∧ (0 < len' → ao' = ao)) ∧ w = w' := by
 have hcm := h.cap_max;have hcl := h.cap_le;have hl := h.len_eq;unfold maxLen at hcm;go_enter Tryz.func88, Tryz.ntmps88;go_wp2
 go_loop [3] (fun i => ∃ k : Nat, k ≤ len ∧ i = .int .i64 k ∧ ∀ j, k ≤ j → j < len → lim xs j = 0) (fun i => (intOf i).toNat)
 case atStart => exact ⟨len, Nat.le_refl _, rfl, fun j h1 h2 => by omega⟩
 case round =>
  obtain ⟨k, hk, rfl, hz⟩ := hrel;by_cases hp : 0 < k
  ·obtain ⟨b, off, rfl, hb, hc⟩ := h.cells (by omega);have hck := hc (k - 1) (by omega);have e1 : off + ((k : Int) - 1).toNat = off + (k - 1) := by omega
   clear e1;have hsm := h.small;have T := fun n hn => h.take (n := n) hn;have HT := zh T;have HL := zh hl;clear T hl;go_wp2
   ·have hne : (lim xs (k - 1) : Int) ≠ 0 := by simpa using ‹((lim xs (k - 1) : Int) != 0) = true›
    go_ret;exact ⟨⟨_, _, _, rfl, ⟨xs.take k, by simpa using zu HT k hk, norm_take (by rw [zu HL]; exact hk) (fun _ => by omega), val_take (by rw [zu HL]; exact hk) (fun i h1 h2 => hz i h1 (by rw [zu HL] at h2; exact h2))⟩, by simpa using hk, fun _ => rfl⟩, rfl⟩
   ·have heq : (lim xs (k - 1) : Int) = 0 := by simpa using ‹((lim xs (k - 1) : Int) != 0) = false›
    go_round
    case rel =>
     refine ⟨k - 1, by omega, by go_num, fun j h1 h2 => ?_⟩;by_cases c : j = k - 1
     ·subst c; omega
     ·exact hz j (by omega) h2
    case measure => simp [intOf]; omega
  ·have hk0 : k = 0 := by omega
   have HL := zh hl;clear hl;go_wp2;go_ret;refine ⟨⟨_, _, _, rfl, ⟨[], rowAt_nil w, fun h => absurd h (by simp), ?_⟩, by omega, fun h => absurd h (by omega)⟩, rfl⟩;rw [← val_take (xs := xs) (n := 0) (Nat.zero_le _) (fun i h1 h2 => hz i (by omega) (by rw [zu HL] at h2; exact h2))];simp

theorem cut_any (ao : Option Addr) (len cap : Nat) (xs : List Nat) (w : World) (h : RowAt w ao len cap xs) :
  Calls Tryz.prog 88 #[.slice ao len cap] w fun e w' => (∃ ao' len' cap', e = .returned (.slice ao' len' cap') ∧ NumAt w ao' len' cap' (val xs) ∧ len' ≤ len) ∧ w = w' := by
 refine (cut_same ao len cap xs w h).mono ?_;rintro e w' ⟨⟨a, l, c, h1, h2, h3, _⟩, h4⟩;exact ⟨⟨a, l, c, h1, h2, h3⟩, h4⟩
/-
 What limb.Cmp and the reference's CmpL tell: how two numbers compare.
-/

theorem side_any (b : Bool) (w : World) :
  Calls Tryz.prog 96 #[.bool b] w fun e w' => e = .returned (.int .i64 (if b then -1 else 1)) ∧ w = w' := by
 cases b
 ·go_enter Tryz.func96, Tryz.ntmps96;go_wp2;go_ret;exact ⟨rfl, rfl⟩
 ·go_enter Tryz.func96, Tryz.ntmps96;go_wp2;go_ret;exact ⟨rfl, rfl⟩

theorem side_quiet (b : Bool) (w : World) :
  Calls Tryz.prog 96 #[.bool b] w fun e w' => e = .returned (.int .i64 (if b then -1 else 1)) ∧ w' = w := (side_any b w).mono fun _ _ h => ⟨h.1, h.2.symm⟩

set_option maxHeartbeats 400000 in
theorem cmp_any (aa : Option Addr) (la ca : Nat) (xs : List Nat) (ab : Option Addr) (lb cb : Nat) (ys : List Nat) (w : World) (ha : RowAt w aa la ca xs) (hb : RowAt w ab lb cb ys) :
  Calls Tryz.prog 84 #[.slice aa la ca, .slice ab lb cb] w fun e w' => e = .returned (.int .i64 (cmpI (val xs) (val ys))) ∧ Below w.heap.size w w' := by
 go_enter Tryz.func84, Tryz.ntmps84
 go_wp2_with fail
 refine (cut_any _ _ _ xs _ ha).mono ?_;rintro e w' ⟨⟨a1, l1, c1, rfl, ⟨xs1, hx1, nx1, vx1⟩, hl1⟩, rfl⟩
 go_wp2_with fail
 refine (cut_any _ _ _ ys _ hb).mono ?_;rintro e w' ⟨⟨a2, l2, c2, rfl, ⟨ys1, hy1, ny1, vy1⟩, hl2⟩, rfl⟩;have Vx := zh vx1;have Vy := zh vy1;have hm1 := hx1.cap_max;have hm2 := hy1.cap_max;have hc1 := hx1.cap_le;have hc2 := hy1.cap_le;have L1 := zh hx1.len_eq;have L2 := zh hy1.len_eq;unfold maxLen at hm1 hm2;clear vx1 vy1 hl1 hl2 ha hb;rcases Nat.lt_trichotomy l1 l2 with hlt | heq | hgt
 ·go_wp2_with (go_at_call 96; refine (side_any _ _).mono ?_; rintro e w' ⟨rfl, rfl⟩)
  go_ret;have : val xs1 < val ys1 := norm_lt_len hx1.small ny1 (by rw [zu L1, zu L2]; exact hlt);rw [zu Vx, zu Vy] at this;exact ⟨by rw [cmpI_lt this]; simp, Below.refl _ _⟩
 ·subst heq
  go_wp2_with fail
  go_loopw [5] (fun i wr => ∃ k : Nat, k ≤ l1 ∧ i = .int .i64 ((k : Int) - 1) ∧ (∀ j, k ≤ j → j < l1 → lim xs1 j = lim ys1 j) ∧ Below w.heap.size w wr) (fun i _ => (intOf i + 1).toNat)
  case atStart => exact ⟨l1, Nat.le_refl _, rfl, fun j h1 h2 => by omega, Below.refl _ _⟩
  case round =>
   obtain ⟨k, hk, rfl, hz, hbel⟩ := hrel;by_cases hp : 0 < k
   ·obtain ⟨b1, o1, rfl, hb1, hcx⟩ := hx1.cells (by omega);obtain ⟨b2, o2, rfl, hb2, hcy⟩ := hy1.cells (by omega);have cx : wr.cell? ⟨b1, o1 + (k - 1), none⟩ = some (.int .u32 (lim xs1 (k - 1) : Int)) := (hbel.cell (p := ⟨b1, o1 + (k - 1), none⟩) hb1).trans (hcx (k - 1) (by omega));have cy : wr.cell? ⟨b2, o2 + (k - 1), none⟩ = some (.int .u32 (lim ys1 (k - 1) : Int)) := (hbel.cell (p := ⟨b2, o2 + (k - 1), none⟩) hb2).trans (hcy (k - 1) (by omega));have hi1 : (0 : Int) ≤ (k : Int) - 1 := by omega
    have hi2 : (k : Int) - 1 < (l1 : Int) := by omega
    clear hcx hcy;have HZ := zh hz;clear hz;by_cases hne : lim xs1 (k - 1) = lim ys1 (k - 1)
    ·have hb0 : ((lim xs1 (k - 1) : Int) != (lim ys1 (k - 1) : Int)) = false := by simp [hne]
     have HN := zh hne;clear hne;go_wp2
     go_quiet (fail)
     go_wp2;go_roundw
     case rel =>
      refine ⟨k - 1, by omega, by go_num, fun j h1 h2 => ?_, ?_⟩
      ·by_cases c : j = k - 1
       ·subst c; exact zu HN
       ·exact zu HZ j (by omega) h2
      ·exact below_drewN hbel _
     case measure => simp [intOf]; omega
    ·have hb0 : ((lim xs1 (k - 1) : Int) != (lim ys1 (k - 1) : Int)) = true := by simp; omega
     have HA := zh (fun i (h1 : k - 1 < i) h2 => zu HZ i (by omega) h2);rcases Nat.lt_or_gt_of_ne hne with hd | hd
     ·go_wp2
      go_quiet (fail)
      go_wp2
      go_quiet ((go_at_call 96; exact (side_quiet true _).mono fun _ _ h => ⟨h.1, _, h.2⟩))
      go_wp2;go_ret;have : val xs1 < val ys1 := by
       unfold val;rw [zu L1, zu L2];exact pre_top hx1.small (k := k - 1) (by omega) (zu HA) hd
      rw [zu Vx, zu Vy] at this;exact ⟨by rw [cmpI_lt this]; simp, (by first | exact below_drewN hbel _ | exact below_drewN (below_drewN hbel _) _)⟩
     ·have hd' : decide (lim xs1 (k - 1) < lim ys1 (k - 1)) = false := by simp; omega
      go_wp2
      go_quiet (fail)
      go_wp2
      go_quiet ((go_at_call 96; exact (side_quiet false _).mono fun _ _ h => ⟨h.1, _, h.2⟩))
      go_wp2;go_ret;have : val ys1 < val xs1 := by
       unfold val;rw [zu L1, zu L2];exact pre_top hy1.small (k := k - 1) (by omega) (fun i h1 h2 => (zu HA i h1 h2).symm) hd
      rw [zu Vx, zu Vy] at this;exact ⟨by rw [cmpI_gt this]; simp, (by first | exact below_drewN hbel _ | exact below_drewN (below_drewN hbel _) _)⟩
   ·go_wp2;go_ret;have hk0 : k = 0 := by omega
    subst hk0;have : val xs1 = val ys1 := by
     unfold val;rw [zu L1, zu L2];exact pre_congr (fun i hi => hz i (Nat.zero_le _) hi)
    rw [zu Vx, zu Vy] at this;exact ⟨by rw [cmpI_eq this]; simp, hbel⟩
 ·go_wp2_with (go_at_call 96; refine (side_any _ _).mono ?_; rintro e w' ⟨rfl, rfl⟩)
  go_ret;have : val ys1 < val xs1 := norm_lt_len hy1.small nx1 (by rw [zu L1, zu L2]; exact hgt);rw [zu Vx, zu Vy] at this;exact ⟨by rw [cmpI_gt this]; simp, Below.refl _ _⟩
/-
 What the reference's functions that only read do: limb tells a limb, CmpL how two numbers compare, SameL whether two rows are one (IN PARTS).
-/

theorem rlimb_any (ao : Option Addr) (len cap : Nat) (xs : List Nat) (i : Int) (k : Nat) (w : World) (h : RowAt w ao len cap xs) (hi : i = (k : Int)) :
  Calls Tryz.prog 91 #[.slice ao len cap, .int .i64 i] w fun e w' => e = .returned (.int .u64 (lim xs k : Int)) ∧ w = w' := by
 subst hi;have hcm := h.cap_max;have hcl := h.cap_le;have hl := h.len_eq;unfold maxLen at hcm;by_cases hk : k < len
 ·obtain ⟨b, off, rfl, hb, hc⟩ := h.cells (by omega);have hck := hc k hk;have hbd := h.bound k;clear hc;go_enter Tryz.func91, Tryz.ntmps91;go_wp2;go_ret;exact ⟨by simp, rfl⟩
 ·go_enter Tryz.func91, Tryz.ntmps91;go_wp2;go_ret;exact ⟨by rw [lim_out (by omega)]; rfl, rfl⟩

set_option maxHeartbeats 400000 in
theorem rcmp_any (aa : Option Addr) (la ca : Nat) (xs : List Nat) (ab : Option Addr) (lb cb : Nat) (ys : List Nat) (w : World) (ha : RowAt w aa la ca xs) (hb : RowAt w ab lb cb ys) :
  Calls Tryz.prog 73 #[.slice aa la ca, .slice ab lb cb] w fun e w' => e = .returned (.int .i64 (cmpI (val xs) (val ys))) ∧ w = w' := by
 have hm1 := ha.cap_max;have hm2 := hb.cap_max;have hc1 := ha.cap_le;have hc2 := hb.cap_le;have L1 := zh ha.len_eq;have L2 := zh hb.len_eq;unfold maxLen at hm1 hm2;have P1 := zh (pre_len (xs := xs) (k := max la lb) (by rw [ha.len_eq]; omega));have P2 := zh (pre_len (xs := ys) (k := max la lb) (by rw [hb.len_eq]; omega));go_enter Tryz.func73, Tryz.ntmps73
 go_wp2_with fail
 all_goals
  go_loop [5] (fun i => ∃ k : Nat, k ≤ max la lb ∧ i = .int .i64 ((k : Int) - 1) ∧ (∀ j, k ≤ j → j < max la lb → lim xs j = lim ys j)) (fun i => (intOf i + 1).toNat)
  case atStart =>
   first
    | exact ⟨lb, by omega, rfl, fun j h1 h2 => by omega⟩
    | exact ⟨la, by omega, rfl, fun j h1 h2 => by omega⟩
  case round =>
   obtain ⟨k, hk, rfl, hz⟩ := hrel;have HZ := zh hz;clear hz;by_cases hp : 0 < k
   ·have hi1 : (0 : Int) ≤ (k : Int) - 1 := by omega
    by_cases hne : lim xs (k - 1) = lim ys (k - 1)
    ·have hb0 : ((lim xs (k - 1) : Int) != (lim ys (k - 1) : Int)) = false := by simp [hne]
     have HN := zh hne;clear hne
     go_wp2_with fail
     refine (rlimb_any _ _ _ xs _ (k - 1) _ ha (by omega)).mono ?_;rintro e w' ⟨rfl, rfl⟩
     go_wp2_with fail
     refine (rlimb_any _ _ _ ys _ (k - 1) _ hb (by omega)).mono ?_;rintro e w' ⟨rfl, rfl⟩;go_wp2
     go_round
     case rel =>
      refine ⟨k - 1, by omega, by go_num, fun j h1 h2 => ?_⟩;by_cases c : j = k - 1
      ·subst c; exact zu HN
      ·exact zu HZ j (by omega) h2
     case measure => simp [intOf]; omega
    ·have hb0 : ((lim xs (k - 1) : Int) != (lim ys (k - 1) : Int)) = true := by simp; omega
     have HA := zh (fun i (h1 : k - 1 < i) h2 => zu HZ i (by omega) h2);have HN := zh hne;rcases Nat.lt_or_gt_of_ne hne with hd | hd
     ·clear hne
      go_wp2_with fail
      refine (rlimb_any _ _ _ xs _ (k - 1) _ ha (by omega)).mono ?_;rintro e w' ⟨rfl, rfl⟩
      go_wp2_with fail
      refine (rlimb_any _ _ _ ys _ (k - 1) _ hb (by omega)).mono ?_;rintro e w' ⟨rfl, rfl⟩
      go_wp2_with fail
      refine (rlimb_any _ _ _ xs _ (k - 1) _ ha (by omega)).mono ?_;rintro e w' ⟨rfl, rfl⟩
      go_wp2_with fail
      refine (rlimb_any _ _ _ ys _ (k - 1) _ hb (by omega)).mono ?_;rintro e w' ⟨rfl, rfl⟩;go_wp2;go_ret;have : pre xs (max la lb) < pre ys (max la lb) := pre_top ha.small (k := k - 1) (by omega) (zu HA) hd;rw [zu P1, zu P2] at this;exact ⟨by rw [cmpI_lt this]; simp, rfl⟩
     ·clear hne;have hd' : decide (lim xs (k - 1) < lim ys (k - 1)) = false := by simp; omega
      go_wp2_with fail
      refine (rlimb_any _ _ _ xs _ (k - 1) _ ha (by omega)).mono ?_;rintro e w' ⟨rfl, rfl⟩
      go_wp2_with fail
      refine (rlimb_any _ _ _ ys _ (k - 1) _ hb (by omega)).mono ?_;rintro e w' ⟨rfl, rfl⟩
      go_wp2_with fail
      refine (rlimb_any _ _ _ xs _ (k - 1) _ ha (by omega)).mono ?_;rintro e w' ⟨rfl, rfl⟩
      go_wp2_with fail
      refine (rlimb_any _ _ _ ys _ (k - 1) _ hb (by omega)).mono ?_;rintro e w' ⟨rfl, rfl⟩;go_wp2;go_ret;have : pre ys (max la lb) < pre xs (max la lb) := pre_top hb.small (k := k - 1) (by omega) (fun i h1 h2 => (zu HA i h1 h2).symm) hd;rw [zu P1, zu P2] at this;exact ⟨by rw [cmpI_gt this]; simp, rfl⟩
   ·go_wp2;go_ret;have hk0 : k = 0 := by omega
    subst hk0;have : pre xs (max la lb) = pre ys (max la lb) := pre_congr (fun i hi => zu HZ i (Nat.zero_le _) hi);rw [zu P1, zu P2] at this;exact ⟨by rw [cmpI_eq this]; simp, rfl⟩

set_option maxHeartbeats 400000 in
theorem same_any (aa : Option Addr) (la ca : Nat) (xs : List Nat) (ab : Option Addr) (lb cb : Nat) (ys : List Nat) (w : World) (ha : RowAt w aa la ca xs) (hb : RowAt w ab lb cb ys) :
  Calls Tryz.prog 56 #[.slice aa la ca, .slice ab lb cb] w fun e w' => e = .returned (.bool (decide (xs = ys))) ∧ Below w.heap.size w w' := by
 have hm1 := ha.cap_max;have hm2 := hb.cap_max;have hc1 := ha.cap_le;have hc2 := hb.cap_le;have L1 := zh ha.len_eq;have L2 := zh hb.len_eq;unfold maxLen at hm1 hm2;by_cases hll : la = lb
 ·subst hll;go_enter Tryz.func56, Tryz.ntmps56
  go_wp2_with fail
  go_loopw [5] (fun i wr => ∃ k : Nat, k ≤ la ∧ i = .int .i64 k ∧ (∀ j, j < k → lim xs j = lim ys j) ∧ Below w.heap.size w wr) (fun i _ => la - (intOf i).toNat)
  case atStart => exact ⟨0, Nat.zero_le _, rfl, fun j h => by omega, Below.refl _ _⟩
  case round =>
   obtain ⟨k, hk, rfl, hz, hbel⟩ := hrel;have HZ := zh hz;clear hz;by_cases hp : k < la
   ·obtain ⟨b1, o1, rfl, hb1, hcx⟩ := ha.cells (by omega);obtain ⟨b2, o2, rfl, hb2, hcy⟩ := hb.cells (by omega);have cx : wr.cell? ⟨b1, o1 + k, none⟩ = some (.int .u32 (lim xs k : Int)) := (hbel.cell (p := ⟨b1, o1 + k, none⟩) hb1).trans (hcx k (by omega));have cy : wr.cell? ⟨b2, o2 + k, none⟩ = some (.int .u32 (lim ys k : Int)) := (hbel.cell (p := ⟨b2, o2 + k, none⟩) hb2).trans (hcy k (by omega));have hi2 : (k : Int) < (la : Int) := by omega
    clear hcx hcy;by_cases hne : lim xs k = lim ys k
    ·have hb0 : ((lim xs k : Int) != (lim ys k : Int)) = false := by simp [hne]
     have HN := zh hne;clear hne;go_wp2
     go_quiet (fail)
     go_wp2;go_roundw
     case rel =>
      refine ⟨k + 1, by omega, by go_num, fun j h1 => ?_, below_drewN hbel _⟩;by_cases c : j = k
      ·subst c; exact zu HN
      ·exact zu HZ j (by omega)
     case measure => simp [intOf]; omega
    ·have hb0 : ((lim xs k : Int) != (lim ys k : Int)) = true := by simp; omega
     go_wp2
     go_quiet (fail)
     go_wp2;go_ret;exact ⟨by rw [decide_eq_false (fun e => hne (by rw [e]))]; simp, below_drewN hbel _⟩
   ·go_wp2;go_ret;have : xs = ys := ext_lim (by rw [zu L1, zu L2]) (fun i hi => zu HZ i (by rw [zu L1] at hi; omega));exact ⟨by rw [decide_eq_true this]; simp, hbel⟩
 ·go_enter Tryz.func56, Tryz.ntmps56
  go_wp2_with fail
  go_ret;exact ⟨by rw [decide_eq_false (fun e => hll (by rw [← zu L1, ← zu L2, e]))]; simp, Below.refl _ _⟩

/-
 What the reference's trim does: a new row without the noughts at its end.
-/

set_option maxHeartbeats 400000 in
theorem rtrim_new (ao : Option Addr) (len cap : Nat) (xs : List Nat) (w : World) (h : RowAt w ao len cap xs) (hlen : len ≤ 100000000) :
  Calls Tryz.prog 82 #[.slice ao len cap] w fun e w' => ∃ ao' len' cap', e = .returned (.slice ao' len' cap') ∧ NumAt w' ao' len' cap' (val xs) ∧ Below w.heap.size w w' ∧ New w.heap.size ao' len' := by
 have hcm := h.cap_max;have hcl := h.cap_le;have HL := zh h.len_eq;unfold maxLen at hcm;go_enter Tryz.func82, Tryz.ntmps82;go_wp2
 go_loop [3] (fun i => ∃ k : Nat, k ≤ len ∧ i = .int .i64 k ∧ ∀ j, k ≤ j → j < len → lim xs j = 0) (fun i => (intOf i).toNat)
 case atStart => exact ⟨len, Nat.le_refl _, rfl, fun j h1 h2 => by omega⟩
 case round =>
  obtain ⟨k, hk, rfl, hz⟩ := hrel;have HZ := zh hz;clear hz;by_cases hp : 0 < k ∧ lim xs (k - 1) = 0
  ·obtain ⟨hp, hq⟩ := hp;obtain ⟨b, off, rfl, hb, hc⟩ := h.cells (by omega);have hck := hc (k - 1) (by omega);have hb0 : ((lim xs (k - 1) : Int) == 0) = true := by simp [hq]
   have HQ := zh hq;clear hc hq;go_wp2
   go_round
   case rel =>
    refine ⟨k - 1, by omega, by go_num, fun j h1 h2 => ?_⟩;by_cases c : j = k - 1
    ·subst c; exact zu HQ
    ·exact zu HZ j (by omega) h2
   case measure => simp [intOf]; omega
  ·by_cases hk0 : 0 < k
   ·obtain ⟨b, off, rfl, hb, hc⟩ := h.cells (by omega);have hck := hc (k - 1) (by omega);have hb0 : ((lim xs (k - 1) : Int) == 0) = false := by simp; omega
    clear hc
    go_wp2_with (at_builtin; refine append_row rfl _ _ rfl w.heap.size _ 0 [] rfl ?_ _ k cap (xs.take k) rfl ?_ (by omega) ?_ ?_)
    ·exact own_empty (Nat.le_refl _)
    ·exact (h.take hk).za ((Below.refl _ _).alloc (Nat.le_refl _) _)
    ·intro v' w' hown hgrow;go_wp2;go_ret;obtain ⟨ao', cap', rfl, hr⟩ := rowAt_owned hown (small_take h.small k);refine ⟨ao', k, cap', rfl, ⟨xs.take k, hr, norm_take (by rw [zu HL]; exact hk) (fun _ => by omega), val_take (by rw [zu HL]; exact hk) (fun i h1 h2 => zu HZ i h1 (by rw [zu HL] at h2; exact h2))⟩, ?_, own_new hown⟩;exact ((Below.refl _ _).alloc (Nat.le_refl _) _).grown hgrow (by simp) (fun k hk => by simp [Value.ownBlock] at hk; omega)
   ·have hp' : ¬ (0 : Int) < (k : Int) := by omega
    go_wp2_with (at_builtin; refine append_row rfl _ _ rfl w.heap.size _ 0 [] rfl ?_ _ k cap (xs.take k) rfl ?_ (by omega) ?_ ?_)
    ·exact own_empty (Nat.le_refl _)
    ·exact (h.take hk).za ((Below.refl _ _).alloc (Nat.le_refl _) _)
    ·intro v' w' hown hgrow;go_wp2;go_ret;obtain ⟨ao', cap', rfl, hr⟩ := rowAt_owned hown (small_take h.small k);refine ⟨ao', k, cap', rfl, ⟨xs.take k, hr, norm_take (by rw [zu HL]; exact hk) (fun _ => by omega), val_take (by rw [zu HL]; exact hk) (fun i h1 h2 => zu HZ i h1 (by rw [zu HL] at h2; exact h2))⟩, ?_, own_new hown⟩;exact ((Below.refl _ _).alloc (Nat.le_refl _) _).grown hgrow (by simp) (fun k hk => by simp [Value.ownBlock] at hk; omega)

theorem rtrim_any (ao : Option Addr) (len cap : Nat) (xs : List Nat) (w : World) (h : RowAt w ao len cap xs) (hlen : len ≤ 100000000) :
  Calls Tryz.prog 82 #[.slice ao len cap] w fun e w' => ∃ ao' len' cap', e = .returned (.slice ao' len' cap') ∧ NumAt w' ao' len' cap' (val xs) ∧ Below w.heap.size w w' := by
 refine (rtrim_new ao len cap xs w h hlen).mono ?_;rintro e w' ⟨a, l, c, h1, h2, h3, _⟩;exact ⟨a, l, c, h1, h2, h3⟩
/-
 What the reference's AddL and SubL do: the sum, and what is left.
-/

set_option maxRecDepth 20000 in
set_option maxHeartbeats 400000 in
theorem radd_any (aa : Option Addr) (la ca : Nat) (xs : List Nat) (ab : Option Addr) (lb cb : Nat) (ys : List Nat) (w : World) (ha : RowAt w aa la ca xs) (hb : RowAt w ab lb cb ys) (hla : la ≤ 10000000) (hlb : lb ≤ 10000000) :
  Calls Tryz.prog 72 #[.slice aa la ca, .slice ab lb cb] w fun e w' => ∃ ao' len' cap', e = .returned (.slice ao' len' cap') ∧ NumAt w' ao' len' cap' (val xs + val ys) ∧ Below w.heap.size w w' := by
 have hm1 := ha.cap_max;have hm2 := hb.cap_max;have hc1 := ha.cap_le;have hc2 := hb.cap_le;unfold maxLen at hm1 hm2;obtain ⟨M, hM, P1, P2⟩ : ∃ M, ((la ≤ M ∧ M ≤ la ∧ lb ≤ la) ∨ (lb ≤ M ∧ M ≤ lb ∧ la < lb)) ∧ Hid (pre xs (M + 1) = val xs) ∧ Hid (pre ys (M + 1) = val ys) :=
  ⟨max la lb, by omega, pre_len (by rw [ha.len_eq]; omega), pre_len (by rw [hb.len_eq]; omega)⟩
 rcases hM with ⟨hM1, hM2, hM3⟩ | ⟨hM1, hM2, hM3⟩
 all_goals
  go_enter Tryz.func72, Tryz.ntmps72
  go_wp2_with fail
  go_loopw [5, 6, 7] (fun v c i wr => ∃ (k n : Nat) (zs : List Nat), k ≤ M + 1 ∧ i = .int .i64 k ∧ c = .int .u64 n ∧ n ≤ 1 ∧ Own wr w.heap.size v k zs ∧ Small zs ∧ val zs + n * Bp k = pre xs k + pre ys k ∧ Below w.heap.size w wr) (fun _ _ i _ => M + 1 - (intOf i).toNat)
  case atStart => exact ⟨0, 0, [], by omega, rfl, rfl, by omega, own_none _ _, small_nil, rfl, Below.refl _ _⟩
  case round =>
   obtain ⟨k, n, zs, hk, rfl, rfl, hn, hown, hsm, hval, hbel⟩ := hrel;have HV := zh hval;clear hval;have hax := ha.za hbel;have hbx2 := hb.za hbel;by_cases hp : k < M + 1
   ·go_wp2_with fail
    refine (rlimb_any _ _ _ xs _ k _ hax rfl).mono ?_;rintro e w' ⟨rfl, rfl⟩
    go_wp2_with fail
    refine (rlimb_any _ _ _ ys _ k _ hbx2 rfl).mono ?_;rintro e w' ⟨rfl, rfl⟩;have hbx := ha.small k;have hby := hb.small k
    go_wp2_with (at_builtin; refine append_row rfl _ _ rfl w.heap.size _ k zs rfl ?_ _ 1 1 [(n + lim xs k + lim ys k) % 4294967296] rfl ?_ (by omega) ?_ ?_)
    ·exact hown.alloc _
    ·exact rowAt_one (by rw [and_low32 _ (by omega) (by omega)]; omega) (by omega)
    ·have := hbel.size;simp; omega
    ·intro v' w' hown' hgrow;have hbel' : Below w.heap.size w w' := (hbel.alloc hbel.size _).grown hgrow (by have := hbel.size; simp; omega) (fun j hj => hown.block_ge j hj);go_wp2;go_roundw
     case rel =>
      refine ⟨k + 1, (n + lim xs k + lim ys k) / 4294967296, _, by omega, by go_num, by go_num, by omega, hown', small_snoc hsm (by omega), ?_, hbel'⟩;rw [val_snoc, hown.len, Bp_succ, pre_succ, pre_succ];have h1 := carry_eq (n + lim xs k + lim ys k) (Bp k);have h2 := zu HV;rw [Nat.add_mul, Nat.add_mul] at h1;omega
     case measure => simp [intOf]; omega
   ·have hk1 : k = M + 1 := by omega
    go_wp2_with fail
    obtain ⟨ao', cap', rfl, hr⟩ := rowAt_owned hown hsm;refine (rtrim_any _ _ _ zs _ hr (by omega)).mono ?_;rintro e w' ⟨a2, l2, c2, rfl, hnum, hb2⟩;go_wp2;go_ret;refine ⟨_, _, _, rfl, ?_, hbel.trans (hb2.mono hbel.size)⟩;have hz : n = 0 ∧ val zs = val xs + val ys := by
     have h2 := zu HV;subst hk1;rw [zu P1, zu P2] at h2;have h3 := val_lt ha.small;have h4 := val_lt hb.small;rw [ha.len_eq] at h3;rw [hb.len_eq] at h4;have h5 := Bp_le (show la ≤ M by omega);have h6 := Bp_le (show lb ≤ M by omega);rw [Bp_succ] at h2;rcases Nat.eq_zero_or_pos n with e | e
     ·subst e; omega
     ·have h7 : 1 * (Bp M * 4294967296) ≤ n * (Bp M * 4294967296) := Nat.mul_le_mul_right _ e;omega
    rw [← hz.2];exact hnum

/-
 What the reference's SubL does: what is left, if no more is taken than there is.
-/

set_option maxRecDepth 20000 in
set_option maxHeartbeats 400000 in
theorem rsub_new (aa : Option Addr) (la ca : Nat) (xs : List Nat) (ab : Option Addr) (lb cb : Nat) (ys : List Nat) (w : World) (ha : RowAt w aa la ca xs) (hb : RowAt w ab lb cb ys) (hla : la ≤ 10000000) (hlb : lb ≤ 10000000) (hle : val ys ≤ val xs) :
  Calls Tryz.prog 74 #[.slice aa la ca, .slice ab lb cb] w fun e w' => ∃ ao' len' cap', e = .returned (.slice ao' len' cap') ∧ NumAt w' ao' len' cap' (val xs - val ys) ∧ Below w.heap.size w w' ∧ New w.heap.size ao' len' := by
 have hm1 := ha.cap_max;have hm2 := hb.cap_max;have hc1 := ha.cap_le;have hc2 := hb.cap_le;unfold maxLen at hm1 hm2;obtain ⟨M, hM, P1, P2⟩ : ∃ M, ((la ≤ M ∧ M ≤ la ∧ lb ≤ la) ∨ (lb ≤ M ∧ M ≤ lb ∧ la < lb)) ∧ Hid (pre xs M = val xs) ∧ Hid (pre ys M = val ys) :=
  ⟨max la lb, by omega, pre_len (by rw [ha.len_eq]; omega), pre_len (by rw [hb.len_eq]; omega)⟩
 have HLE := zh hle;clear hle;rcases hM with ⟨hM1, hM2, hM3⟩ | ⟨hM1, hM2, hM3⟩
 all_goals
  go_enter Tryz.func74, Tryz.ntmps74
  go_wp2_with fail
  go_loopw [5, 6, 7] (fun v c i wr => ∃ (k n : Nat) (zs : List Nat), k ≤ M ∧ i = .int .i64 k ∧ c = .int .u64 n ∧ n ≤ 1 ∧ Own wr w.heap.size v k zs ∧ Small zs ∧ val zs + pre ys k = pre xs k + n * Bp k ∧ Below w.heap.size w wr) (fun _ _ i _ => M - (intOf i).toNat)
  case atStart => exact ⟨0, 0, [], by omega, rfl, rfl, by omega, own_none _ _, small_nil, rfl, Below.refl _ _⟩
  case round =>
   obtain ⟨k, n, zs, hk, rfl, rfl, hn, hown, hsm, hval, hbel⟩ := hrel;have HV := zh hval;clear hval;have hax := ha.za hbel;have hbx2 := hb.za hbel;by_cases hp : k < M
   ·go_wp2_with fail
    refine (rlimb_any _ _ _ xs _ k _ hax rfl).mono ?_;rintro e w' ⟨rfl, rfl⟩
    go_wp2_with fail
    refine (rlimb_any _ _ _ ys _ k _ hbx2 rfl).mono ?_;rintro e w' ⟨rfl, rfl⟩;have hbx := ha.small k;have hby := hb.small k
    go_wp2_with (at_builtin; refine append_row rfl _ _ rfl w.heap.size _ k zs rfl ?_ _ 1 1 [(4294967296 + lim xs k - lim ys k - n) % 4294967296] rfl ?_ (by omega) ?_ ?_)
    ·exact hown.alloc _
    ·exact rowAt_one (by rw [and_low32 _ (by omega) (by omega)]; omega) (by omega)
    ·have := hbel.size;simp; omega
    ·intro v' w' hown' hgrow;have hbel' : Below w.heap.size w w' := (hbel.alloc hbel.size _).grown hgrow (by have := hbel.size; simp; omega) (fun j hj => hown.block_ge j hj);go_wp2;go_roundw
     case rel =>
      refine ⟨k + 1, 1 - (4294967296 + lim xs k - lim ys k - n) / 4294967296, _, by omega, by go_num, by go_num, by omega, hown', small_snoc hsm (by omega), ?_, hbel'⟩;rw [val_snoc, hown.len, Bp_succ, pre_succ, pre_succ];have h1 := borrow_eq (X := 4294967296 + lim xs k - lim ys k - n) (lx := lim xs k) (ly := lim ys k) (c := n) (d := 1 - (4294967296 + lim xs k - lim ys k - n) / 4294967296) (b := Bp k) (by omega) (by omega);have h2 := zu HV;omega
     case measure => simp [intOf]; omega
   ·have hk1 : k = M := by omega
    go_wp2_with fail
    obtain ⟨ao', cap', rfl, hr⟩ := rowAt_owned hown hsm;refine (rtrim_new _ _ _ zs _ hr (by omega)).mono ?_;rintro e w' ⟨a2, l2, c2, rfl, hnum, hb2, hnew⟩;go_wp2;go_ret;refine ⟨_, _, _, rfl, ?_, hbel.trans (hb2.mono hbel.size), hnew.mono hbel.size⟩;have hz : n = 0 ∧ val zs = val xs - val ys := by
     have h2 := zu HV;have h0 := zu HLE;have h3 := val_lt hsm;rw [hown.len] at h3;subst hk1;rw [zu P1, zu P2] at h2;rcases Nat.eq_zero_or_pos n with e | e
     ·subst e; omega
     ·have h7 : 1 * Bp k ≤ n * Bp k := Nat.mul_le_mul_right _ e;omega
    rw [← hz.2];exact hnum

theorem rsub_any (aa : Option Addr) (la ca : Nat) (xs : List Nat) (ab : Option Addr) (lb cb : Nat) (ys : List Nat) (w : World) (ha : RowAt w aa la ca xs) (hb : RowAt w ab lb cb ys) (hla : la ≤ 10000000) (hlb : lb ≤ 10000000) (hle : val ys ≤ val xs) :
  Calls Tryz.prog 74 #[.slice aa la ca, .slice ab lb cb] w fun e w' => ∃ ao' len' cap', e = .returned (.slice ao' len' cap') ∧ NumAt w' ao' len' cap' (val xs - val ys) ∧ Below w.heap.size w w' := by
 refine (rsub_new aa la ca xs ab lb cb ys w ha hb hla hlb hle).mono ?_;rintro e w' ⟨a, l, c, h1, h2, h3, _⟩;exact ⟨a, l, c, h1, h2, h3⟩
/-
 What limb.Bits tells: how many bits a number has.
-/

set_option maxHeartbeats 400000 in
theorem bits_any (ao : Option Addr) (len cap : Nat) (xs : List Nat) (w : World) (h : RowAt w ao len cap xs) (hlen : len ≤ 10000000) :
  Calls Tryz.prog 83 #[.slice ao len cap] w fun e w' => ∃ n : Nat, e = .returned (.int .i64 (n : Int)) ∧ IsBits (val xs) n ∧ w = w' := by
 go_enter Tryz.func83, Tryz.ntmps83
 go_wp2_with fail
 refine (cut_any _ _ _ xs _ h).mono ?_;rintro e w' ⟨⟨a1, l1, c1, rfl, ⟨xs1, hx1, nx1, vx1⟩, hl1⟩, rfl⟩;have Vx := zh vx1;have hm1 := hx1.cap_max;have hc1 := hx1.cap_le;have L1 := zh hx1.len_eq;unfold maxLen at hm1;clear vx1;by_cases hz : l1 = 0
 ·have hz' : ((l1 : Int) == 0) = true := by simp [hz]
  go_wp2;go_ret;refine ⟨0, by simp, Or.inl ⟨?_, rfl⟩, rfl⟩;rw [← zu Vx, List.eq_nil_of_length_eq_zero (show xs1.length = 0 by rw [zu L1, hz])]; rfl
 ·have hz' : ((l1 : Int) == 0) = false := by simp [hz]
  obtain ⟨b1, o1, rfl, hb1, hcx⟩ := hx1.cells (by omega);have cx : w.cell? ⟨b1, o1 + (l1 - 1), none⟩ = some (.int .u32 (lim xs1 (l1 - 1) : Int)) := hcx (l1 - 1) (by omega);have hbx := hx1.small (l1 - 1);have hn0 : lim xs1 (l1 - 1) ≠ 0 := by have := nx1 (by rw [hx1.len_eq]; omega); rwa [hx1.len_eq] at this
  have hp1 : (0 : Int) ≤ (l1 : Int) - 1 := by omega
  have hsm := zh hx1.small;clear hcx h hx1 nx1
  go_wp2_with fail
  go_loop [3, 4] (fun n t => ∃ m : Nat, n = .int .i64 (((l1 : Int) - 1) * 32 + m) ∧ t = .int .u32 ((lim xs1 (l1 - 1) / 2 ^ m : Nat) : Int) ∧ (0 < m → 2 ^ (m - 1) ≤ lim xs1 (l1 - 1))) (fun _ t => (intOf t).toNat)
  case atStart => exact ⟨0, by simp, by simp, fun h => absurd h (by omega)⟩
  case round =>
   obtain ⟨m, rfl, rfl, hq⟩ := hrel;have hm32 := half_le hbx hq;have HQ := zh hq;clear hq;by_cases ht : lim xs1 (l1 - 1) / 2 ^ m = 0
   ·obtain ⟨T, hT⟩ : ∃ T, T = lim xs1 (l1 - 1) / 2 ^ m := ⟨_, rfl⟩;rw [← hT] at ht ⊢;have HT := zh hT;have ht' : ((T : Int) != 0) = false := by simp [ht]
    clear hT;go_wp2;go_ret;have h0 := half_zero (show lim xs1 (l1 - 1) / 2 ^ m = 0 by rw [← zu HT]; exact ht);have hm1 : 0 < m := by
     rcases Nat.eq_zero_or_pos m with e | e
     ·subst e; simp at h0; omega
     ·exact e
    refine ⟨32 * (l1 - 1) + m, ret_int (by omega), ?_, rfl⟩;rw [← zu Vx];have := bits_end (zu hsm) (by rw [zu L1]; omega) (m := m) hm1 (by rw [zu L1]; exact zu HQ hm1) (by rw [zu L1]; exact h0)
    rwa [zu L1] at this
   ·obtain ⟨T, hT⟩ : ∃ T, T = lim xs1 (l1 - 1) / 2 ^ m := ⟨_, rfl⟩;rw [← hT] at ht ⊢;have hTb : T < 4294967296 := by rw [hT]; exact Nat.lt_of_le_of_lt (Nat.div_le_self _ _) hbx
    have HT := zh hT;have ht' : ((T : Int) != 0) = true := by simp [ht]
    clear hT;go_wp2
    go_round
    case rel =>
     refine ⟨m + 1, by go_num, ?_, fun _ => ?_⟩
     ·rw [← half_more, ← zu HT]; go_num
     ·rw [Nat.add_sub_cancel]; exact half_pos (by rw [← zu HT]; omega)
    case measure => simp [intOf]; omega

/-
 What limb.Trim does: the row without the noughts at its end, in memory of its own.
-/

set_option maxHeartbeats 400000 in
theorem trim_any (ao : Option Addr) (len cap : Nat) (xs : List Nat) (w : World) (h : RowAt w ao len cap xs) (hlen : len ≤ 10000000) :
  Calls Tryz.prog 68 #[.slice ao len cap] w fun e w' => ∃ ao' len' cap', e = .returned (.slice ao' len' cap') ∧ NumAt w' ao' len' cap' (val xs) ∧ Below w.heap.size w w' := by
 go_enter Tryz.func68, Tryz.ntmps68
 go_wp2_with fail
 refine (cut_any _ _ _ xs _ h).mono ?_;rintro e w' ⟨⟨a1, l1, c1, rfl, ⟨xs1, hx1, nx1, vx1⟩, hl1⟩, rfl⟩;have Vx := zh vx1;have hm1 := hx1.cap_max;have hc1 := hx1.cap_le;have L1 := zh hx1.len_eq;unfold maxLen at hm1;clear vx1;by_cases hz : l1 = 0
 ·have hz' : ((l1 : Int) == 0) = true := by simp [hz]
  go_wp2;go_ret;refine ⟨_, _, _, rfl, ?_, Below.refl _ _⟩;rw [← zu Vx, List.eq_nil_of_length_eq_zero (show xs1.length = 0 by rw [zu L1, hz])];exact numAt_nil _
 ·have hz' : ((l1 : Int) == 0) = false := by simp [hz]
  go_wp2_with (at_make; refine make_row rfl _ _ rfl w.heap.size .i64 .i64 _ _ l1 rfl rfl (by omega) (by omega) (by omega) (Nat.le_refl _) ?_)
  intro w1 hown1 hgrow1;have hbel1 : Below w.heap.size w w1 := (Below.refl _ _).grown hgrow1 (Nat.le_refl _) (fun _ h => by simp at h);have hx2 := hx1.za hbel1
  go_wp2_with (refine copy_row rfl (.tmp 12) (.tmp 13) rfl w.heap.size w.heap.size l1 l1 _ xs1 rfl hown1 _ _ rfl hx2 (by omega) ?_)
  intro w2 hown2 hgrow2;have hbel2 : Below w.heap.size w w2 := hbel1.grown hgrow2 hbel1.size (fun j hj => by simp at hj; omega);clear hown1 hgrow1 hgrow2 hbel1;go_wp2;go_ret;exact ⟨_, _, _, rfl, ⟨xs1, rowAt_own hown2 hx1.small, nx1, zu Vx⟩, hbel2⟩

/-
 What limb.Sub does: what is left, in a row of its own; or nothing, and false.
-/

theorem sub_no (aa : Option Addr) (la ca : Nat) (xs : List Nat) (ab : Option Addr) (lb cb : Nat) (ys : List Nat) (w : World) (ha : RowAt w aa la ca xs) (hb : RowAt w ab lb cb ys) (hlt : val xs < val ys) :
  Calls Tryz.prog 79 #[.slice aa la ca, .slice ab lb cb] w fun e w' => e = .returned (.tuple #[.slice none 0 0, .bool false]) ∧ Below w.heap.size w w' := by
 go_enter Tryz.func79, Tryz.ntmps79
 go_wp2_with fail
 refine (cmp_any _ _ _ xs _ _ _ ys _ ha hb).mono ?_;rw [cmpI_lt hlt];rintro e w1 ⟨rfl, hb1⟩;go_wp2
 go_ret2
 exact ⟨rfl, hb1⟩

theorem sub_digit {lx ly n : Nat} (hx : lx < 4294967296) (hy : ly < 4294967296) (hn : n ≤ 1) : ∃ X d : Nat, IntKind.u64.wrap (IntKind.u64.wrap ((lx : Int) - (n : Int)) - (ly : Int)) % 4294967296 = ((X % 4294967296 : Nat) : Int) ∧
  IntKind.u64.wrap (IntKind.u64.wrap ((lx : Int) - (n : Int)) - (ly : Int)) / 9223372036854775808 = (d : Int) ∧ X + ly + n = 4294967296 + lx ∧ d + X / 4294967296 = 1 ∧ d ≤ 1 := by
 refine ⟨4294967296 + lx - ly - n, 1 - (4294967296 + lx - ly - n) / 4294967296, ?_⟩;simp only [IntKind.wrap_u64];omega
theorem sub_digit0 {lx n : Nat} (hx : lx < 4294967296) (hn : n ≤ 1) : ∃ X d : Nat, IntKind.u64.wrap ((lx : Int) - (n : Int)) % 4294967296 = ((X % 4294967296 : Nat) : Int) ∧
  IntKind.u64.wrap ((lx : Int) - (n : Int)) / 9223372036854775808 = (d : Int) ∧ X + 0 + n = 4294967296 + lx ∧ d + X / 4294967296 = 1 ∧ d ≤ 1 := by
 refine ⟨4294967296 + lx - n, 1 - (4294967296 + lx - n) / 4294967296, ?_⟩;simp only [IntKind.wrap_u64];omega

set_option maxRecDepth 20000 in
set_option maxHeartbeats 1000000 in
theorem sub_yes (aa : Option Addr) (la ca : Nat) (xs : List Nat) (ab : Option Addr) (lb cb : Nat) (ys : List Nat) (w : World) (ha : RowAt w aa la ca xs) (hb : RowAt w ab lb cb ys) (hla : la ≤ 10000000) (hle : val ys ≤ val xs) :
  Calls Tryz.prog 79 #[.slice aa la ca, .slice ab lb cb] w fun e w' => ∃ ao' len' cap', e = .returned (.tuple #[.slice ao' len' cap', .bool true]) ∧ NumAt w' ao' len' cap' (val xs - val ys) ∧ Below w.heap.size w w' := by
 go_enter Tryz.func79, Tryz.ntmps79
 go_wp2_with fail
 refine (cmp_any _ _ _ xs _ _ _ ys _ ha hb).mono ?_;have hcmp : 0 ≤ cmpI (val xs) (val ys) := by
  unfold cmpI; rw [if_neg (by omega)]; split <;> omega
 rintro e w1 ⟨rfl, hb1⟩
 go_wp2_with fail
 refine (cut_any _ _ _ xs _ (ha.za hb1)).mono ?_;rintro e w' ⟨⟨a1, l1, c1, rfl, ⟨xs1, hx1, nx1, vx1⟩, hl1⟩, rfl⟩
 go_wp2_with fail
 refine (cut_any _ _ _ ys _ (hb.za hb1)).mono ?_;rintro e w' ⟨⟨a2, l2, c2, rfl, ⟨ys1, hy1, ny1, vy1⟩, hl2⟩, rfl⟩;rw [← vx1, ← vy1] at hle;have Vx := zh vx1;have Vy := zh vy1;have hll : l2 ≤ l1 := by
  rcases Nat.lt_or_ge l1 l2 with h | h
  ·have := norm_lt_len hx1.small ny1 (by rw [hx1.len_eq, hy1.len_eq]; exact h);omega
  ·exact h
 have HLE := zh hle;clear vx1 vy1 nx1 ny1 ha hb hle hcmp;have hm1 := hx1.cap_max;have hm2 := hy1.cap_max;have hc1 := hx1.cap_le;have hc2 := hy1.cap_le;unfold maxLen at hm1 hm2
 go_wp2_with (at_make; refine make_row rfl _ _ rfl w1.heap.size .i64 .i64 _ _ l1 rfl rfl (by omega) (by omega) (by omega) (Nat.le_refl _) ?_)
 intro w2 hown1 hgrow1;have hbel1 : Below w1.heap.size w1 w2 := (Below.refl _ _).grown hgrow1 (Nat.le_refl _) (fun _ h => by simp at h);clear hgrow1
 go_wp2_with fail
 go_loopw [7, 24] (fun c i wr => ∃ (k n : Nat) (zs : List Nat), k ≤ l1 ∧ i = .int .i64 k ∧ c = .int .u64 n ∧ n ≤ 1 ∧ Own wr w1.heap.size (.slice (some ⟨w1.heap.size, 0, none⟩) l1 l1) l1 zs ∧ Small zs ∧ pre zs k + pre ys1 k = pre xs1 k + n * Bp k ∧ Below w1.heap.size w1 wr) (fun _ i _ => l1 - (intOf i).toNat)
 case atStart => exact ⟨0, 0, _, by omega, rfl, rfl, by omega, hown1, small_replicate _, rfl, hbel1⟩
 case round =>
  obtain ⟨k, n, zs, hk, rfl, rfl, hn, hown, hsm, hval, hbel⟩ := hrel;have HV := zh hval;clear hval hown1 hbel1;have zlen := zh hown.len;by_cases hp : k < l1
  ·obtain ⟨b1, o1, rfl, hb1, hcx⟩ := hx1.cells (by omega);have cx : wr.cell? ⟨b1, o1 + k, none⟩ = some (.int .u32 (lim xs1 k : Int)) := (hbel.cell (p := ⟨b1, o1 + k, none⟩) hb1).trans (hcx k (by omega));have cs := hown.cell (i := k) (by omega);have cf := hown.free k;have hbx := hx1.small k;have hby := hy1.small k;clear hcx;by_cases hq : k < l2
   ·obtain ⟨b2, o2, rfl, hb2, hcy⟩ := hy1.cells (by omega);have cy : wr.cell? ⟨b2, o2 + k, none⟩ = some (.int .u32 (lim ys1 k : Int)) := (hbel.cell (p := ⟨b2, o2 + k, none⟩) hb2).trans (hcy k (by omega));clear hcy;have D := zh (sub_digit hbx hby hn);go_wp2;go_roundw
    case rel =>
     obtain ⟨X, d, h1, h2, h3, h4, h5⟩ := zu D;rw [h1, h2];refine ⟨k + 1, d, zs.set k (X % 4294967296), by omega, by go_num, rfl, h5, hown.set k _ rfl, small_set hsm (by omega), ?_, hbel.setCell (by simp) _⟩;rw [pre_succ, pre_set_lt _ _ _ _ (Nat.le_refl _) (by rw [zu zlen]; omega), lim_set _ _ _ _ (by rw [zu zlen]; omega), if_pos rfl, Bp_succ, pre_succ, pre_succ];have h6 := borrow_eq (b := Bp k) h3 h4;have h7 := zu HV;omega
    case measure => simp [intOf]; omega
   ·have hq0 : lim ys1 k = 0 := lim_out (by rw [hy1.len_eq]; omega);have HQ := zh hq0;clear hq0;have D := zh (sub_digit0 hbx hn);go_wp2;go_roundw
    case rel =>
     obtain ⟨X, d, h1, h2, h3, h4, h5⟩ := zu D;rw [h1, h2];refine ⟨k + 1, d, zs.set k (X % 4294967296), by omega, by go_num, rfl, h5, hown.set k _ rfl, small_set hsm (by omega), ?_, hbel.setCell (by simp) _⟩;rw [pre_succ, pre_set_lt _ _ _ _ (Nat.le_refl _) (by rw [zu zlen]; omega), lim_set _ _ _ _ (by rw [zu zlen]; omega), if_pos rfl, Bp_succ, pre_succ, pre_succ, zu HQ];have h6 := borrow_eq (b := Bp k) h3 h4;have h7 := zu HV;omega
    case measure => simp [intOf]; omega
  ·have hk1 : k = l1 := by omega
   have hr := rowAt_own hown hsm;have hv : val zs = val xs - val ys := by
    have h1 := zu HV;have h2 := zu HLE;have h3 := val_lt hsm;rw [zu zlen] at h3;have e1 : val zs = pre zs k := by unfold val; rw [zu zlen, hk1]
    rw [pre_len (xs := ys1) (by rw [hy1.len_eq]; omega), pre_len (xs := xs1) (by rw [hx1.len_eq]; omega), ← e1] at h1;rw [← zu Vx, ← zu Vy];rcases Nat.eq_zero_or_pos n with e | e
    ·subst e; omega
    ·have h7 : 1 * Bp k ≤ n * Bp k := Nat.mul_le_mul_right _ e;rw [hk1] at h1 h7;omega
   have HW := zh hv;clear hv
   go_wp2_with fail
   refine (cut_any _ _ _ zs _ hr).mono ?_;rintro e w' ⟨⟨a3, l3, c3, rfl, hnum, hl3⟩, rfl⟩;rw [zu HW] at hnum;go_wp2
   go_ret2
   exact ⟨_, _, _, rfl, hnum, hb1.trans (hbel.mono hb1.size)⟩

/-
 What limb.Add does: the sum, in a row of its own.
-/

set_option maxRecDepth 20000 in
set_option maxHeartbeats 1000000 in
theorem add_any (aa : Option Addr) (la ca : Nat) (xs : List Nat) (ab : Option Addr) (lb cb : Nat) (ys : List Nat) (w : World) (ha : RowAt w aa la ca xs) (hb : RowAt w ab lb cb ys) (hla : la ≤ 10000000) (hlb : lb ≤ 10000000) :
  Calls Tryz.prog 78 #[.slice aa la ca, .slice ab lb cb] w fun e w' => ∃ ao' len' cap', e = .returned (.slice ao' len' cap') ∧ NumAt w' ao' len' cap' (val xs + val ys) ∧ Below w.heap.size w w' := by
 go_enter Tryz.func78, Tryz.ntmps78
 go_wp2_with fail
 refine (cut_any _ _ _ xs _ ha).mono ?_;rintro e w' ⟨⟨a1, l1, c1, rfl, ⟨xs1, hx1, nx1, vx1⟩, hl1⟩, rfl⟩
 go_wp2_with fail
 refine (cut_any _ _ _ ys _ hb).mono ?_;rintro e w' ⟨⟨a2, l2, c2, rfl, ⟨ys1, hy1, ny1, vy1⟩, hl2⟩, rfl⟩;have Vx := zh vx1;have Vy := zh vy1;clear vx1 vy1 nx1 ny1 ha hb;have hm1 := hx1.cap_max;have hm2 := hy1.cap_max;have hc1 := hx1.cap_le;have hc2 := hy1.cap_le;unfold maxLen at hm1 hm2;rcases Nat.lt_or_ge l1 l2 with hlt | hlt
 ·have hle : l1 ≤ l2 := by omega
  go_wp2_with (at_make; refine make_row rfl _ _ rfl w.heap.size .i64 .i64 _ _ (l2 + 1) rfl rfl (by omega) (by omega) (by omega) (Nat.le_refl _) ?_)
  intro w1 hown1 hgrow1;have hbel1 : Below w.heap.size w w1 := (Below.refl _ _).grown hgrow1 (Nat.le_refl _) (fun _ h => by simp at h);clear hgrow1
  go_wp2_with fail
  go_loopw [6, 26] (fun c i wr => ∃ (k n : Nat) (zs : List Nat), k ≤ l2 ∧ i = .int .i64 k ∧ c = .int .u64 n ∧ n ≤ 1 ∧ Own wr w.heap.size (.slice (some ⟨w.heap.size, 0, none⟩) (l2 + 1) (l2 + 1)) (l2 + 1) zs ∧ Small zs ∧ pre zs k + n * Bp k = pre ys1 k + pre xs1 k ∧ Below w.heap.size w wr) (fun _ i _ => l2 - (intOf i).toNat)
  case atStart => exact ⟨0, 0, _, by omega, rfl, rfl, by omega, hown1, small_replicate _, rfl, hbel1⟩
  case round =>
   obtain ⟨k, n, zs, hk, rfl, rfl, hn, hown, hsm, hval, hbel⟩ := hrel;have HV := zh hval;clear hval hown1 hbel1;have zlen := zh hown.len;by_cases hp : k < l2
   ·obtain ⟨b1, o1, rfl, hb1, hcx⟩ := hy1.cells (by omega);have cx : wr.cell? ⟨b1, o1 + k, none⟩ = some (.int .u32 (lim ys1 k : Int)) := (hbel.cell (p := ⟨b1, o1 + k, none⟩) hb1).trans (hcx k (by omega));have cs := hown.cell (i := k) (by omega);have cf := hown.free k;have hbx := hy1.small k;have hby := hx1.small k;clear hcx;by_cases hq : k < l1
    ·obtain ⟨b2, o2, rfl, hb2, hcy⟩ := hx1.cells (by omega);have cy : wr.cell? ⟨b2, o2 + k, none⟩ = some (.int .u32 (lim xs1 k : Int)) := (hbel.cell (p := ⟨b2, o2 + k, none⟩) hb2).trans (hcy k (by omega));clear hcy;go_wp2;go_roundw
     case rel =>
      refine ⟨k + 1, (n + lim ys1 k + lim xs1 k) / 4294967296, zs.set k ((n + lim ys1 k + lim xs1 k) % 4294967296), by omega, by go_num, by go_num, by omega, hown.set k _ (by omega), small_set hsm (by omega), ?_, hbel.setCell (by simp) _⟩;rw [pre_succ, pre_set_lt _ _ _ _ (Nat.le_refl _) (by rw [zu zlen]; omega), lim_set _ _ _ _ (by rw [zu zlen]; omega), if_pos rfl, Bp_succ, pre_succ, pre_succ];have h1 := carry_eq (n + lim ys1 k + lim xs1 k) (Bp k);have h2 := zu HV;rw [Nat.add_mul, Nat.add_mul] at h1;omega
     case measure => simp [intOf]; omega
    ·have hq0 : lim xs1 k = 0 := lim_out (by rw [hx1.len_eq]; omega);have HQ := zh hq0;clear hq0;go_wp2;go_roundw
     case rel =>
      refine ⟨k + 1, (n + lim ys1 k) / 4294967296, zs.set k ((n + lim ys1 k) % 4294967296), by omega, by go_num, by go_num, by omega, hown.set k _ (by omega), small_set hsm (by omega), ?_, hbel.setCell (by simp) _⟩;rw [pre_succ, pre_set_lt _ _ _ _ (Nat.le_refl _) (by rw [zu zlen]; omega), lim_set _ _ _ _ (by rw [zu zlen]; omega), if_pos rfl, Bp_succ, pre_succ, pre_succ, zu HQ];have h1 := carry_eq (n + lim ys1 k) (Bp k);have h2 := zu HV;rw [Nat.add_mul] at h1;omega
     case measure => simp [intOf]; omega
   ·have hk1 : k = l2 := by omega
    have cs := hown.cell (i := l2) (by omega);have cf := hown.free l2
    go_wp2_with fail
    have hown2 := hown.set l2 n (e := (n : Int)) rfl;have hr := rowAt_own hown2 (small_set hsm (by omega));have hbel2 : Below w.heap.size w (wr.setCell ⟨w.heap.size, l2, none⟩ (.int .u32 (n : Int))) := hbel.setCell (by simp) _;have hv : val (zs.set l2 n) = val xs + val ys := by
     have h1 := add_end (zu zlen) (by rw [hy1.len_eq]; omega) (by rw [hx1.len_eq]; omega) (by rw [← hk1]; exact zu HV);have h2 := zu Vx;have h3 := zu Vy;omega
    refine (cut_any _ _ _ (zs.set l2 n) _ hr).mono ?_;rintro e w' ⟨⟨a3, l3, c3, rfl, hnum, hl3⟩, rfl⟩;rw [hv] at hnum;clear hv;go_wp2;go_ret;exact ⟨_, _, _, rfl, hnum, hbel2⟩
 ·have hle : l2 ≤ l1 := by omega
  go_wp2_with (at_make; refine make_row rfl _ _ rfl w.heap.size .i64 .i64 _ _ (l1 + 1) rfl rfl (by omega) (by omega) (by omega) (Nat.le_refl _) ?_)
  intro w1 hown1 hgrow1;have hbel1 : Below w.heap.size w w1 := (Below.refl _ _).grown hgrow1 (Nat.le_refl _) (fun _ h => by simp at h);clear hgrow1
  go_wp2_with fail
  go_loopw [6, 26] (fun c i wr => ∃ (k n : Nat) (zs : List Nat), k ≤ l1 ∧ i = .int .i64 k ∧ c = .int .u64 n ∧ n ≤ 1 ∧ Own wr w.heap.size (.slice (some ⟨w.heap.size, 0, none⟩) (l1 + 1) (l1 + 1)) (l1 + 1) zs ∧ Small zs ∧ pre zs k + n * Bp k = pre xs1 k + pre ys1 k ∧ Below w.heap.size w wr) (fun _ i _ => l1 - (intOf i).toNat)
  case atStart => exact ⟨0, 0, _, by omega, rfl, rfl, by omega, hown1, small_replicate _, rfl, hbel1⟩
  case round =>
   obtain ⟨k, n, zs, hk, rfl, rfl, hn, hown, hsm, hval, hbel⟩ := hrel;have HV := zh hval;clear hval hown1 hbel1;have zlen := zh hown.len;by_cases hp : k < l1
   ·obtain ⟨b1, o1, rfl, hb1, hcx⟩ := hx1.cells (by omega);have cx : wr.cell? ⟨b1, o1 + k, none⟩ = some (.int .u32 (lim xs1 k : Int)) := (hbel.cell (p := ⟨b1, o1 + k, none⟩) hb1).trans (hcx k (by omega));have cs := hown.cell (i := k) (by omega);have cf := hown.free k;have hbx := hx1.small k;have hby := hy1.small k;clear hcx;by_cases hq : k < l2
    ·obtain ⟨b2, o2, rfl, hb2, hcy⟩ := hy1.cells (by omega);have cy : wr.cell? ⟨b2, o2 + k, none⟩ = some (.int .u32 (lim ys1 k : Int)) := (hbel.cell (p := ⟨b2, o2 + k, none⟩) hb2).trans (hcy k (by omega));clear hcy;go_wp2;go_roundw
     case rel =>
      refine ⟨k + 1, (n + lim xs1 k + lim ys1 k) / 4294967296, zs.set k ((n + lim xs1 k + lim ys1 k) % 4294967296), by omega, by go_num, by go_num, by omega, hown.set k _ (by omega), small_set hsm (by omega), ?_, hbel.setCell (by simp) _⟩;rw [pre_succ, pre_set_lt _ _ _ _ (Nat.le_refl _) (by rw [zu zlen]; omega), lim_set _ _ _ _ (by rw [zu zlen]; omega), if_pos rfl, Bp_succ, pre_succ, pre_succ];have h1 := carry_eq (n + lim xs1 k + lim ys1 k) (Bp k);have h2 := zu HV;rw [Nat.add_mul, Nat.add_mul] at h1;omega
     case measure => simp [intOf]; omega
    ·have hq0 : lim ys1 k = 0 := lim_out (by rw [hy1.len_eq]; omega);have HQ := zh hq0;clear hq0;go_wp2;go_roundw
     case rel =>
      refine ⟨k + 1, (n + lim xs1 k) / 4294967296, zs.set k ((n + lim xs1 k) % 4294967296), by omega, by go_num, by go_num, by omega, hown.set k _ (by omega), small_set hsm (by omega), ?_, hbel.setCell (by simp) _⟩;rw [pre_succ, pre_set_lt _ _ _ _ (Nat.le_refl _) (by rw [zu zlen]; omega), lim_set _ _ _ _ (by rw [zu zlen]; omega), if_pos rfl, Bp_succ, pre_succ, pre_succ, zu HQ];have h1 := carry_eq (n + lim xs1 k) (Bp k);have h2 := zu HV;rw [Nat.add_mul] at h1;omega
     case measure => simp [intOf]; omega
   ·have hk1 : k = l1 := by omega
    have cs := hown.cell (i := l1) (by omega);have cf := hown.free l1
    go_wp2_with fail
    have hown2 := hown.set l1 n (e := (n : Int)) rfl;have hr := rowAt_own hown2 (small_set hsm (by omega));have hbel2 : Below w.heap.size w (wr.setCell ⟨w.heap.size, l1, none⟩ (.int .u32 (n : Int))) := hbel.setCell (by simp) _;have hv : val (zs.set l1 n) = val xs + val ys := by
     have h1 := add_end (zu zlen) (by rw [hx1.len_eq]; omega) (by rw [hy1.len_eq]; omega) (by rw [← hk1]; exact zu HV);have h2 := zu Vx;have h3 := zu Vy;omega
    refine (cut_any _ _ _ (zs.set l1 n) _ hr).mono ?_;rintro e w' ⟨⟨a3, l3, c3, rfl, hnum, hl3⟩, rfl⟩;rw [hv] at hnum;clear hv;go_wp2;go_ret;exact ⟨_, _, _, rfl, hnum, hbel2⟩

theorem shl_or {n l : Nat} (hn : n < 4294967296) (hl : l < 4294967296) : bits .or .u64 ((n : Int) * 4294967296) (l : Int) = ((n * 4294967296 + l : Nat) : Int) := by
 have e : ((n : Int) * 4294967296) = ((n * 4294967296 : Nat) : Int) := by omega
 rw [e, u64_or_nat _ _ (by omega) (by omega)]
 congr 1
 have := Nat.shiftLeft_add_eq_or_of_lt (b := l) (i := 32) (by omega) n;rw [Nat.shiftLeft_eq] at this;exact this.symm

theorem over_digit {S x : Nat} (hS : S < 18446744073709551616) : IntKind.u64.wrap ((S : Int).tdiv (x : Int)) % 4294967296 = ((S / x % 4294967296 : Nat) : Int) ∧ (S : Int).tmod (x : Int) = ((S % x : Nat) : Int) := by
 have h1 : (S : Int).tdiv (x : Int) = ((S / x : Nat) : Int) := by rw [Int.tdiv_eq_ediv_of_nonneg (by omega)]; rfl
 have h2 : (S : Int).tmod (x : Int) = ((S % x : Nat) : Int) := by rw [Int.tmod_eq_emod_of_nonneg (by omega)]; rfl
 have h3 := Nat.div_le_self S x;refine ⟨?_, h2⟩;rw [h1, IntKind.wrap_u64];omega

def Typed (w : World) (ao : Option Addr) (len : Nat) : Prop := 0 < len → ∃ b off cur fr, ao = some ⟨b, off, none⟩ ∧ w.heap[b]? = some (.cells cur 73 fr)
theorem own_typed {w : World} {base g n cap len : Nat} {ao : Option Addr} {xs : List Nat} (h : Own w base (.slice (some ⟨g, 0, none⟩) n cap) n xs) (he : 0 < len → ao = some ⟨g, 0, none⟩) : Typed w ao len := by
 intro hp;rcases h.2 with ⟨h', _⟩ | ⟨g', cap', cur, h', _, hg, _⟩
 ·simp at h'
 ·simp only [Value.slice.injEq, Option.some.injEq, Addr.mk.injEq, and_true, true_and] at h';obtain ⟨rfl, rfl⟩ := h';exact ⟨g, 0, cur, _, he hp, hg⟩

set_option maxRecDepth 20000 in
set_option maxHeartbeats 1000000 in
theorem over_typed (ao : Option Addr) (len cap : Nat) (xs : List Nat) (x : Nat) (w : World) (h : RowAt w ao len cap xs) (hlen : len ≤ 10000000) (hx0 : 0 < x) (hx : x < 4294967296) :
  Calls Tryz.prog 99 #[.slice ao len cap, .int .u32 (x : Int)] w fun e w' => ∃ ao' len' cap', e = .returned (.tuple #[.slice ao' len' cap', .int .u32 ((val xs % x : Nat) : Int), .bool true]) ∧ NumAt w' ao' len' cap' (val xs / x) ∧ Below w.heap.size w w' ∧ Typed w' ao' len' := by
 have hx1 : ((x : Int) == 0) = false := by simp; omega
 go_enter Tryz.func99, Tryz.ntmps99
 go_wp2_with fail
 refine (cut_any _ _ _ xs _ h).mono ?_;rintro e w' ⟨⟨a1, l1, c1, rfl, ⟨xs1, hx1, nx1, vx1⟩, hl1⟩, rfl⟩;have Vx := zh vx1;clear vx1 nx1 h;have hm1 := hx1.cap_max;have hc1 := hx1.cap_le;unfold maxLen at hm1
 go_wp2_with (at_make; refine make_row rfl _ _ rfl w.heap.size .i64 .i64 _ _ l1 rfl rfl (by omega) (by omega) (by omega) (Nat.le_refl _) ?_)
 intro w1 hown1 hgrow1;have hbel1 : Below w.heap.size w w1 := (Below.refl _ _).grown hgrow1 (Nat.le_refl _) (fun _ h => by simp at h);clear hgrow1
 go_wp2_with fail
 go_loopw [8, 9] (fun c i wr => ∃ (k n : Nat) (zs : List Nat), k ≤ l1 ∧ i = .int .i64 ((k : Int) - 1) ∧ c = .int .u64 n ∧ n < x ∧ Own wr w.heap.size (.slice (some ⟨w.heap.size, 0, none⟩) l1 l1) l1 zs ∧ Small zs ∧ val (xs1.drop k) = val (zs.drop k) * x + n ∧ Below w.heap.size w wr) (fun _ i _ => (intOf i + 1).toNat)
 case atStart =>
  refine ⟨l1, 0, _, by omega, rfl, rfl, by omega, hown1, small_replicate _, ?_, hbel1⟩;rw [val_drop_end (by rw [hx1.len_eq]; exact Nat.le_refl _), val_drop_end (by simp)]; omega
 case round =>
  obtain ⟨k, n, zs, hk, rfl, rfl, hn, hown, hsm, hval, hbel⟩ := hrel;have HV := zh hval;clear hval hown1 hbel1;have zlen := zh hown.len;by_cases hp : 0 < k
  ·obtain ⟨b1, o1, rfl, hb1, hcx⟩ := hx1.cells (by omega);have cx : wr.cell? ⟨b1, o1 + (k - 1), none⟩ = some (.int .u32 (lim xs1 (k - 1) : Int)) := (hbel.cell (p := ⟨b1, o1 + (k - 1), none⟩) hb1).trans (hcx (k - 1) (by omega));have cs := hown.cell (i := k - 1) (by omega);have cf := hown.free (k - 1);have hbx := hx1.small (k - 1);clear hcx;have D := zh (shl_or (n := n) (l := lim xs1 (k - 1)) (by omega) hbx);go_wp2;go_roundw
   case rel =>
    have hfit := over_fits hn hbx;obtain ⟨h1, h2⟩ := over_digit (S := n * 4294967296 + lim xs1 (k - 1)) (x := x) (by omega);rw [zu D, h1, h2];refine ⟨k - 1, (n * 4294967296 + lim xs1 (k - 1)) % x, zs.set (k - 1) ((n * 4294967296 + lim xs1 (k - 1)) / x), by omega, by go_num, rfl, Nat.mod_lt _ hx0, hown.set (k - 1) _ (by rw [Nat.mod_eq_of_lt hfit]), small_set hsm hfit, ?_, hbel.setCell (by simp) _⟩;have e1 : k - 1 + 1 = k := by omega
    rw [val_drop_set _ _ _ (by rw [zu zlen]; omega), val_drop_step, e1, zu HV];exact over_step _ _ _ _
   case measure => simp [intOf]; omega
  ·have hk1 : k = 0 := by omega
   have hr := rowAt_own hown hsm;have hv : val xs / x = val zs ∧ val xs % x = n := by
    have h1 := zu HV;rw [hk1, List.drop_zero, List.drop_zero, zu Vx] at h1;rw [h1, Nat.mul_comm, Nat.mul_add_div hx0, Nat.div_eq_of_lt hn, Nat.mul_add_mod, Nat.mod_eq_of_lt hn];exact ⟨rfl, rfl⟩
   have HW := zh hv;clear hv
   go_wp2_with fail
   refine (cut_same _ _ _ zs _ hr).mono ?_;rintro e w' ⟨⟨a3, l3, c3, rfl, hnum, hl3, hsame⟩, rfl⟩;have HS := zh hsame;clear hsame;go_wp2
   go_ret3
   exact ⟨a3, l3, c3, by rw [(zu HW).2]; simp, by rw [(zu HW).1]; exact hnum, hbel, own_typed hown (zu HS)⟩

theorem over_yes (ao : Option Addr) (len cap : Nat) (xs : List Nat) (x : Nat) (w : World) (h : RowAt w ao len cap xs) (hlen : len ≤ 10000000) (hx0 : 0 < x) (hx : x < 4294967296) :
  Calls Tryz.prog 99 #[.slice ao len cap, .int .u32 (x : Int)] w fun e w' => ∃ ao' len' cap', e = .returned (.tuple #[.slice ao' len' cap', .int .u32 ((val xs % x : Nat) : Int), .bool true]) ∧ NumAt w' ao' len' cap' (val xs / x) ∧ Below w.heap.size w w' := by
 refine (over_typed ao len cap xs x w h hlen hx0 hx).mono ?_;rintro e w' ⟨a, l, c, h1, h2, h3, _⟩;exact ⟨a, l, c, h1, h2, h3⟩

/-
 What limb.steps tells: how many limbs and how many bits a shift is.
-/

def cl (n : Int) : Nat := if n ≤ 0 then 0 else if 4096 ≤ n then 4096 else n.toNat

theorem ret_pair {k l : IntKind} {a b c d : Int} (h : a = b) (g : c = d) : Ending.returned (.tuple #[.int k a, .int l c]) = .returned (.tuple #[.int k b, .int l d]) := by rw [h, g]
theorem cl_lo {n : Int} (h : n ≤ 0) : cl n = 0 := by unfold cl; rw [if_pos h]
theorem cl_hi {n : Int} (h : 4096 ≤ n) : cl n = 4096 := by unfold cl; rw [if_neg (by omega), if_pos h]
theorem cl_mid {n : Int} (h1 : 0 < n) (h2 : n < 4096) : cl n = n.toNat := by unfold cl; rw [if_neg (by omega), if_neg (by omega)]
theorem cl_le (n : Int) : cl n ≤ 4096 := by unfold cl; split <;> (try split) <;> omega

theorem steps_any (n : Int) (w : World) : Calls Tryz.prog 105 #[.int .i64 n] w fun e w' => ∃ q r : Nat, e = .returned (.tuple #[.int .i64 (q : Int), .int .u64 (r : Int)]) ∧ 32 * q + r = cl n ∧ r < 32 ∧ w = w' := by
 rcases (show n ≤ 0 ∨ (0 < n ∧ n < 4096) ∨ 4096 ≤ n by omega) with hlo | ⟨hl1, hl2⟩ | hhi
 ·go_enter Tryz.func105, Tryz.ntmps105;go_wp2
  all_goals
   go_ret2
   have hcl := cl_lo hlo;exact ⟨cl n / 32, cl n % 32, ret_pair (by omega) (by omega), by omega, by omega, rfl⟩
 ·go_enter Tryz.func105, Tryz.ntmps105;go_wp2
  all_goals
   go_ret2
   have hcl := cl_mid hl1 hl2;exact ⟨cl n / 32, cl n % 32, ret_pair (by omega) (by omega), by omega, by omega, rfl⟩
 ·go_enter Tryz.func105, Tryz.ntmps105;go_wp2
  all_goals
   go_ret2
   have hcl := cl_hi hhi;exact ⟨cl n / 32, cl n % 32, ret_pair (by omega) (by omega), by omega, by omega, rfl⟩

theorem cl_nat {n : Nat} (h : n ≤ 4096) : cl (n : Int) = n := by
 rcases Nat.eq_zero_or_pos n with e | e
 ·subst e; exact cl_lo (by omega)
 ·rcases Nat.eq_or_lt_of_le h with e2 | e2
  ·rw [cl_hi (by omega), e2]
  ·rw [cl_mid (by omega) (by omega)]; omega

/-
 What limb.Left does: the number times a power of 2.
-/

theorem left_digit {x r c : Nat} (hx : x < 4294967296) (hr : r < 32) (hc : c < 2 ^ r) : bits .or .u32 (c : Int) (IntKind.u64.wrap ((x : Int) * 2 ^ r) % 4294967296) = ((c + x * 2 ^ r % 4294967296 : Nat) : Int) ∧
  IntKind.u64.wrap ((x : Int) * 2 ^ r) / 4294967296 % 4294967296 = ((x * 2 ^ r / 4294967296 : Nat) : Int) := by
 obtain ⟨h1, h2, h3⟩ := pow_limb hr;have h4 : x * 2 ^ r ≤ 4294967295 * 2147483648 := Nat.mul_le_mul (by omega) h1;have e : IntKind.u64.wrap ((x : Int) * 2 ^ r) = ((x * 2 ^ r : Nat) : Int) := by
  rw [show ((x : Int) * 2 ^ r) = ((x * 2 ^ r : Nat) : Int) by simp, IntKind.wrap_u64];omega
 rw [e];refine ⟨?_, by omega⟩;rw [show ((x * 2 ^ r : Nat) : Int) % 4294967296 = ((x * 2 ^ r % 4294967296 : Nat) : Int) by omega, u32_or_nat _ _ (by omega) (by omega), low_or hr hc]

set_option maxRecDepth 20000 in
set_option maxHeartbeats 1000000 in
theorem left_new (ao : Option Addr) (len cap : Nat) (xs : List Nat) (n : Int) (w : World) (h : RowAt w ao len cap xs) (hlen : len ≤ 10000000) :
  Calls Tryz.prog 100 #[.slice ao len cap, .int .i64 n] w fun e w' => ∃ ao' len' cap', e = .returned (.slice ao' len' cap') ∧ NumAt w' ao' len' cap' (val xs * 2 ^ cl n) ∧ New w.heap.size ao' len' ∧ Below w.heap.size w w' := by
 go_enter Tryz.func100, Tryz.ntmps100
 go_wp2_with fail
 refine (cut_any _ _ _ xs _ h).mono ?_;rintro e w' ⟨⟨a1, l1, c1, rfl, ⟨xs1, hx1, nx1, vx1⟩, hl1⟩, rfl⟩;have Vx := zh vx1;have L1 := zh hx1.len_eq;clear vx1 nx1 h;have hm1 := hx1.cap_max;have hc1 := hx1.cap_le;unfold maxLen at hm1;by_cases hz : l1 = 0
 ·have hz' : ((l1 : Int) == 0) = true := by simp [hz]
  go_wp2;go_ret;refine ⟨_, _, _, rfl, ?_, fun h => absurd h (by omega), Below.refl _ _⟩;rw [← zu Vx, List.eq_nil_of_length_eq_zero (show xs1.length = 0 by rw [zu L1, hz]), val_nil, Nat.zero_mul];exact numAt_nil _
 ·have hz' : ((l1 : Int) == 0) = false := by simp [hz]
  go_wp2_with fail
  refine (steps_any n _).mono ?_;rintro e w' ⟨q, r, rfl, hqr, hr, rfl⟩;have hcl := cl_le n;have HQ := zh hqr;have hq : q ≤ 128 := by omega
  clear hcl hqr
  go_wp2_with (at_make; refine make_row rfl _ _ rfl w.heap.size .i64 .i64 _ _ (l1 + q + 1) rfl rfl (by omega) (by omega) (by omega) (Nat.le_refl _) ?_)
  intro w1 hown1 hgrow1;have hbel1 : Below w.heap.size w w1 := (Below.refl _ _).grown hgrow1 (Nat.le_refl _) (fun _ h => by simp at h);clear hgrow1
  go_wp2_with fail
  go_loopw [29] (fun i wr => ∃ (k : Nat) (zs : List Nat), k ≤ l1 ∧ i = .int .i64 k ∧ Own wr w.heap.size (.slice (some ⟨w.heap.size, 0, none⟩) (l1 + q + 1) (l1 + q + 1)) (l1 + q + 1) zs ∧ Small zs ∧ lim zs (q + k) < 2 ^ r ∧ pre zs (q + k + 1) = pre xs1 k * 2 ^ r * Bp q ∧ Below w.heap.size w wr) (fun i _ => l1 - (intOf i).toNat)
  case atStart =>
   refine ⟨0, _, by omega, rfl, hown1, small_replicate _, by rw [lim_replicate]; exact Nat.pow_pos (by omega), ?_, hbel1⟩;rw [pre_zero, Nat.zero_mul, Nat.zero_mul];exact pre_zeros (fun i _ => lim_replicate _ _)
  case round =>
   obtain ⟨k, zs, hk, rfl, hown, hsm, hcar, hval, hbel⟩ := hrel;have HV := zh hval;have HC := zh hcar;clear hval hown1 hbel1 hcar;have zlen := zh hown.len;by_cases hp : k < l1
   ·obtain ⟨b1, o1, rfl, hb1, hcx⟩ := hx1.cells (by omega);have cx : wr.cell? ⟨b1, o1 + k, none⟩ = some (.int .u32 (lim xs1 k : Int)) := (hbel.cell (p := ⟨b1, o1 + k, none⟩) hb1).trans (hcx k (by omega));have cs := hown.cell (i := q + k) (by omega);have cf := hown.free (q + k);have cs2 := hown.cell (i := q + k + 1) (by omega);have cf2 := hown.free (q + k + 1);have hbx := hx1.small k;clear hcx;go_wp2;go_roundw
    case rel =>
     obtain ⟨h1, h2⟩ := left_digit hbx hr (zu HC);rw [h1, h2];have hh := high_fits (r := r) (x := lim xs1 k) hr hbx;have hll := low_fits (x := lim xs1 k) hr (zu HC);have hpl := (pow_limb hr).1;have hzl : q + k + 1 < zs.length := by rw [zu zlen]; omega
     refine ⟨k + 1, (zs.set (q + k) (lim zs (q + k) + lim xs1 k * 2 ^ r % 4294967296)).set (q + k + 1) (lim xs1 k * 2 ^ r / 4294967296), by omega, by go_num, (hown.set _ _ rfl).set _ _ rfl, small_set (small_set hsm hll) (by omega), ?_, ?_, (hbel.setCell (by simp) _).setCell (by simp) _⟩
     ·rw [show q + (k + 1) = q + k + 1 by omega, lim_set _ _ _ _ (by rw [List.length_set]; exact hzl), if_pos rfl]; exact hh
     ·rw [show q + (k + 1) + 1 = q + k + 1 + 1 by omega, pre_succ, lim_set _ _ _ _ (by rw [List.length_set]; exact hzl), if_pos rfl, pre_set_lt _ _ _ _ (Nat.le_refl _) (by rw [List.length_set]; exact hzl), pre_succ, lim_set _ _ _ _ (by omega), if_pos rfl, pre_set_lt _ _ _ _ (Nat.le_refl _) (by omega), pre_succ, Bp_succ];exact left_step (Bp_add q k) (by rw [← pre_succ]; exact zu HV)
    case measure => simp [intOf]; omega
   ·have hk1 : k = l1 := by omega
    have hr := rowAt_own hown hsm;have hv : val zs = val xs * 2 ^ cl n := by
     have h1 := zu HV;rw [hk1, pre_len (xs := xs1) (by rw [hx1.len_eq]; omega), pre_len (xs := zs) (by rw [zu zlen]; omega), zu Vx] at h1;rw [h1, Nat.mul_assoc, Bp_two, ← Nat.pow_add, ← zu HQ, Nat.add_comm]
    have HW := zh hv;clear hv
    go_wp2_with fail
    refine (cut_same _ _ _ zs _ hr).mono ?_;rintro e w' ⟨⟨a3, l3, c3, rfl, hnum, hl3, hsame⟩, rfl⟩;rw [zu HW] at hnum;have HS := zh hsame;clear hsame;go_wp2;go_ret;exact ⟨_, _, _, rfl, hnum, fun h => ⟨_, _, zu HS h, Nat.le_refl _⟩, hbel⟩

/-
 What limb.Right does: the number by a power of 2, rounded down.
-/

theorem or_shl {n l : Nat} (hn : n < 4294967296) (hl : l < 4294967296) : bits .or .u64 (l : Int) ((n : Int) * 4294967296) = ((l + n * 4294967296 : Nat) : Int) := by
 have e : ((n : Int) * 4294967296) = ((n * 4294967296 : Nat) : Int) := by omega
 rw [e, u64_or_nat _ _ (by omega) (by omega)]
 congr 1
 have := Nat.shiftLeft_add_eq_or_of_lt (b := l) (i := 32) (by omega) n;rw [Nat.shiftLeft_eq] at this;rw [Nat.or_comm, Nat.add_comm];exact this.symm
theorem cast_shr (S r : Nat) : ((S : Int) / 2 ^ r % 4294967296) = ((S / 2 ^ r % 4294967296 : Nat) : Int) := by simp

set_option maxRecDepth 20000 in
set_option maxHeartbeats 1000000 in
theorem right_any (ao : Option Addr) (len cap : Nat) (xs : List Nat) (n : Int) (w : World) (h : RowAt w ao len cap xs) (hlen : len ≤ 10000000) :
  Calls Tryz.prog 102 #[.slice ao len cap, .int .i64 n] w fun e w' => ∃ ao' len' cap', e = .returned (.slice ao' len' cap') ∧ NumAt w' ao' len' cap' (val xs / 2 ^ cl n) ∧ Below w.heap.size w w' := by
 go_enter Tryz.func102, Tryz.ntmps102
 go_wp2_with fail
 refine (cut_any _ _ _ xs _ h).mono ?_;rintro e w' ⟨⟨a1, l1, c1, rfl, ⟨xs1, hx1, nx1, vx1⟩, hl1⟩, rfl⟩;have Vx := zh vx1;have L1 := zh hx1.len_eq;clear vx1 nx1 h;have hm1 := hx1.cap_max;have hc1 := hx1.cap_le;unfold maxLen at hm1
 go_wp2_with fail
 refine (steps_any n _).mono ?_;rintro e w' ⟨q, r, rfl, hqr, hr, rfl⟩;have hcl := cl_le n;have hq : q ≤ 128 := by omega
 have hdiv : val xs / 2 ^ cl n = val (xs1.drop q) / 2 ^ r := by
  rw [val_drop_div hx1.small, zu Vx, Bp_two, Nat.div_div_eq_div_mul, ← Nat.pow_add, hqr]
 have HD := zh hdiv;clear hcl hqr hdiv;by_cases hz : l1 ≤ q
 ·go_wp2;go_ret;refine ⟨_, _, _, rfl, ?_, Below.refl _ _⟩;rw [zu HD, val_drop_end (by rw [zu L1]; exact hz), Nat.zero_div];exact numAt_nil _
 ·obtain ⟨b1, o1, rfl, hb1, hcx⟩ := hx1.cells (by omega);have hne : ¬ c1 = q := by omega
  have hd := hx1.drop (q := q) (by omega);obtain ⟨ds, hds⟩ : ∃ ds, ds = xs1.drop q := ⟨_, rfl⟩;rw [← hds] at hd;have HD2 := zu HD;rw [← hds] at HD2;have HD3 := zh HD2;clear hcx HD2 HD hds hx1
  go_wp2_with (at_make; refine make_row rfl _ _ rfl w.heap.size .i64 .i64 _ _ (l1 - q) rfl rfl (by omega) (by omega) (by omega) (Nat.le_refl _) ?_)
  intro w1 hown1 hgrow1;have hbel1 : Below w.heap.size w w1 := (Below.refl _ _).grown hgrow1 (Nat.le_refl _) (fun _ h => by simp at h);clear hgrow1
  go_wp2_with fail
  go_loopw [30] (fun i wr => ∃ (k : Nat) (zs : List Nat), k ≤ l1 - q ∧ i = .int .i64 k ∧ Own wr w.heap.size (.slice (some ⟨w.heap.size, 0, none⟩) (l1 - q) (l1 - q)) (l1 - q) zs ∧ Small zs ∧ (∀ i, i < k → lim zs i = (lim ds i + lim ds (i + 1) * 4294967296) / 2 ^ r % 4294967296) ∧ Below w.heap.size w wr) (fun i _ => l1 - q - (intOf i).toNat)
  case atStart => exact ⟨0, _, by omega, rfl, hown1, small_replicate _, fun i hi => by omega, hbel1⟩
  case round =>
   obtain ⟨k, zs, hk, rfl, hown, hsm, hval, hbel⟩ := hrel;have HV := zh hval;clear hval hown1 hbel1;have zlen := zh hown.len;by_cases hp : k < l1 - q
   ·obtain ⟨b2, o2, e2, hb2, hcx⟩ := hd.cells (by omega);simp only [Option.some.injEq, Addr.mk.injEq, and_true] at e2;obtain ⟨rfl, rfl⟩ := e2;have cx : wr.cell? ⟨b1, o1 + q + k, none⟩ = some (.int .u32 (lim ds k : Int)) := (hbel.cell (p := ⟨b1, o1 + q + k, none⟩) hb1).trans (hcx k (by omega));have cs := hown.cell (i := k) (by omega);have cf := hown.free k;have hbx := hd.small k;by_cases hq2 : k + 1 < l1 - q
    ·have cy : wr.cell? ⟨b1, o1 + q + (k + 1), none⟩ = some (.int .u32 (lim ds (k + 1) : Int)) := (hbel.cell (p := ⟨b1, o1 + q + (k + 1), none⟩) hb1).trans (hcx (k + 1) (by omega));have hby := hd.small (k + 1);clear hcx;go_wp2;go_roundw
     case rel =>
      rw [or_shl hby hbx, cast_shr];refine ⟨k + 1, zs.set k ((lim ds k + lim ds (k + 1) * 4294967296) / 2 ^ r % 4294967296), by omega, by go_num, hown.set k _ rfl, small_set hsm (by omega), fun i hi => ?_, hbel.setCell (by simp) _⟩;rw [lim_set _ _ _ _ (by rw [zu zlen]; exact hp)];by_cases c : i = k
      ·rw [if_pos c, c]
      ·rw [if_neg c]; exact zu HV i (by omega)
     case measure => simp [intOf]; omega
    ·clear hcx;go_wp2;go_roundw
     case rel =>
      rw [cast_shr, show lim ds k = lim ds k + lim ds (k + 1) * 4294967296 by rw [lim_out (i := k + 1) (by rw [hd.len_eq]; omega)]; omega];refine ⟨k + 1, zs.set k ((lim ds k + lim ds (k + 1) * 4294967296) / 2 ^ r % 4294967296), by omega, by go_num, hown.set k _ rfl, small_set hsm (by omega), fun i hi => ?_, hbel.setCell (by simp) _⟩;rw [lim_set _ _ _ _ (by rw [zu zlen]; exact hp)];by_cases c : i = k
      ·rw [if_pos c, c]
      ·rw [if_neg c]; exact zu HV i (by omega)
     case measure => simp [intOf]; omega
   ·have hk1 : k = l1 - q := by omega
    have hrw := rowAt_own hown hsm;have hv : val zs = val xs / 2 ^ cl n := by
     rw [zu HD3];exact right_end hd.small hr (by rw [zu zlen, hd.len_eq]) (fun i hi => zu HV i (by rw [hd.len_eq] at hi; omega))
    have HW := zh hv;clear hv
    go_wp2_with fail
    refine (cut_any _ _ _ zs _ hrw).mono ?_;rintro e w' ⟨⟨a3, l3, c3, rfl, hnum, hl3⟩, rfl⟩;rw [zu HW] at hnum;go_wp2;go_ret;exact ⟨_, _, _, rfl, hnum, hbel⟩

/-
 What the reference's MulL does: the product.
-/

set_option maxRecDepth 20000 in
set_option maxHeartbeats 1000000 in
theorem rmul_any (aa : Option Addr) (la ca : Nat) (xs : List Nat) (ab : Option Addr) (lb cb : Nat) (ys : List Nat) (w : World) (ha : RowAt w aa la ca xs) (hb : RowAt w ab lb cb ys) (hla : la ≤ 10000000) (hlb : lb ≤ 10000000) :
  Calls Tryz.prog 71 #[.slice aa la ca, .slice ab lb cb] w fun e w' => ∃ ao' len' cap', e = .returned (.slice ao' len' cap') ∧ NumAt w' ao' len' cap' (val xs * val ys) ∧ Below w.heap.size w w' := by
 have hm1 := ha.cap_max;have hm2 := hb.cap_max;have hc1 := ha.cap_le;have hc2 := hb.cap_le;unfold maxLen at hm1 hm2;have P2 := zh (pre_len (xs := ys) (k := lb + 1) (by rw [hb.len_eq]; omega));go_enter Tryz.func71, Tryz.ntmps71
 go_wp2_with (at_make; refine make_row rfl _ _ rfl w.heap.size .i64 .i64 _ _ (la + lb + 1) rfl rfl (by omega) (by omega) (by omega) (Nat.le_refl _) ?_)
 intro w1 hown1 hgrow1;have hbel1 : Below w.heap.size w w1 := (Below.refl _ _).grown hgrow1 (Nat.le_refl _) (fun _ h => by simp at h);clear hgrow1
 go_wp2_with fail
 go_loopw [6] (fun i wr => ∃ (k : Nat) (zs : List Nat), k ≤ la ∧ i = .int .i64 k ∧ Own wr w.heap.size (.slice (some ⟨w.heap.size, 0, none⟩) (la + lb + 1) (la + lb + 1)) (la + lb + 1) zs ∧ Small zs ∧ pre zs (k + lb) = pre xs k * val ys ∧ (∀ t, k + lb ≤ t → lim zs t = 0) ∧ Below w.heap.size w wr) (fun i _ => la - (intOf i).toNat)
 case atStart =>
  refine ⟨0, _, by omega, rfl, hown1, small_replicate _, ?_, fun t _ => lim_replicate _ _, hbel1⟩;rw [pre_zero, Nat.zero_mul];exact pre_zeros (fun i _ => lim_replicate _ _)
 case round =>
  obtain ⟨k, zs, hk, rfl, hown, hsm, hval, hzz, hbel⟩ := hrel;have HV := zh hval;have HZ := zh hzz;clear hval hown1 hbel1 hzz;have zlen := zh hown.len;by_cases hp : k < la
  ·obtain ⟨b1, o1, rfl, hb1, hcx⟩ := ha.cells (by omega);have hcxk := zh (hcx k (by omega));have hbx := ha.small k;clear hcx
   go_wp2_with fail
   go_loopw [7, 8] (fun c j wq => ∃ (m n : Nat) (us : List Nat), m ≤ lb + 1 ∧ j = .int .i64 m ∧ c = .int .u64 n ∧ n < 4294967296 ∧ Own wq w.heap.size (.slice (some ⟨w.heap.size, 0, none⟩) (la + lb + 1) (la + lb + 1)) (la + lb + 1) us ∧ Small us ∧ pre us (k + m) + n * Bp (k + m) = pre zs (k + m) + lim xs k * pre ys m * Bp k ∧ (∀ t, k + m ≤ t → lim us t = lim zs t) ∧ Below w.heap.size w wq) (fun _ j _ => lb + 1 - (intOf j).toNat)
   case atStart => exact ⟨0, 0, zs, by omega, rfl, rfl, by omega, hown, hsm, by simp [pre_zero], fun t _ => rfl, hbel⟩
   case round =>
    obtain ⟨m, n, us, hm, rfl, rfl, hn, hown2, hsm2, hval2, hsame, hbel2⟩ := hrel;have HV2 := zh hval2;have HS := zh hsame;clear hval2 hsame;have ulen := zh hown2.len;by_cases hq : m < lb + 1
    ·have cx : wr.cell? ⟨b1, o1 + k, none⟩ = some (.int .u32 (lim xs k : Int)) := (hbel2.cell (p := ⟨b1, o1 + k, none⟩) hb1).trans (zu hcxk);have cs := hown2.cell (i := k + m) (by omega);have cf := hown2.free (k + m);have hby := hb.small m;have hbu := hsm2 (k + m);have hmul := mul_fits hbx hby;have hbr := hb.za hbel2;have hi1 : (k : Int) < (la : Int) := by omega
     have hi2 : (k : Int) + (m : Int) < (la : Int) + (lb : Int) + 1 := by omega
     go_wp2
     go_quiet ((go_at_call 91; exact (rlimb_any _ _ _ ys _ m _ (hbr.za (below_drewN (Below.refl _ _) _)) rfl).mono fun _ _ h => ⟨h.1, _, h.2.symm⟩))
     go_wp2;go_roundw
     case rel =>
      rw [and_low32 _ (by omega) (by omega)];refine ⟨m + 1, (n + lim xs k * lim ys m + lim us (k + m)) / 4294967296, us.set (k + m) ((n + lim xs k * lim ys m + lim us (k + m)) % 4294967296), by omega, by go_num, by go_num, by omega, (hown2.drewN _).set _ _ (by omega), small_set hsm2 (by omega), ?_, fun t ht => ?_, (below_drewN hbel2 _).setCell (by simp) _⟩
      ·rw [show k + (m + 1) = k + m + 1 by omega, pre_succ, pre_set_lt _ _ _ _ (Nat.le_refl _) (by rw [zu ulen]; omega), lim_set _ _ _ _ (by rw [zu ulen]; omega), if_pos rfl, Bp_succ, pre_succ, pre_succ, mul_step (Bp_add k m) (zu HV2), zu HS (k + m) (Nat.le_refl _), Nat.mul_add, Nat.add_mul];omega
      ·rw [lim_set _ _ _ _ (by rw [zu ulen]; omega), if_neg (by omega)];exact zu HS t (by omega)
     case measure => simp [intOf]; omega
    ·have hm1 : m = lb + 1 := by omega
     have hr := mul_round ha.small hb.small hb.len_eq (zu HV) (zu HZ (k + lb) (Nat.le_refl _)) (by rw [← hm1]; exact zu HV2);have HR := zh hr;clear hr;go_wp2;go_roundw
     case rel => exact ⟨k + 1, us, by omega, by go_num, hown2, hsm2, zu HR, fun t ht => by rw [zu HS t (by omega)]; exact zu HZ t (by omega), hbel2⟩
     case measure => simp [intOf]; omega
  ·have hk1 : k = la := by omega
   have hr := rowAt_own hown hsm;have hv : val zs = val xs * val ys := by
    have h1 := zu HV;have e : val zs = pre zs (la + lb + 1) := by unfold val; rw [zu zlen]
    rw [hk1] at h1;rw [e, pre_succ, zu HZ (la + lb) (by omega), h1, pre_len (by rw [ha.len_eq]; exact Nat.le_refl _), Nat.zero_mul, Nat.add_zero]
   have HW := zh hv;clear hv
   go_wp2_with fail
   refine (rtrim_any _ _ _ zs _ hr (by omega)).mono ?_;rintro e w' ⟨a3, l3, c3, rfl, hnum, hb3⟩;rw [zu HW] at hnum;go_wp2;go_ret;exact ⟨_, _, _, rfl, hnum, hbel.trans (hb3.mono hbel.size)⟩

/-
 What the reference's two, short, bit and PowL do.
-/

theorem rowAt_pair {w : World} {e f : Int} (a b : Nat) (he : e = (a : Int)) (hf : f = (b : Int)) (ha : a < 4294967296) (hb : b < 4294967296) : RowAt (w.alloc (.cells #[.int .u32 e, .int .u32 f] 73)) (some ⟨w.heap.size, 0, none⟩) 2 2 [a, b] := by
 subst he hf;refine ⟨rfl, Nat.le_refl _, by unfold maxLen; omega, fun h => by simp at h, small_of_mem (by simp [ha, hb]), fun _ => ⟨_, _, rfl, by simp, fun i hi => ?_⟩⟩;rcases (show i = 0 ∨ i = 1 by omega) with rfl | rfl <;> simp [lim]
theorem val_pair (a b : Nat) : val [a, b] = a + b * 4294967296 := by simp [val, pre, lim, Bp]

theorem rtwo_new (x : Nat) (w : World) (hx : x < 18446744073709551616) :
  Calls Tryz.prog 86 #[.int .u64 (x : Int)] w fun e w' => ∃ ao' len' cap', e = .returned (.slice ao' len' cap') ∧ NumAt w' ao' len' cap' x ∧ Below w.heap.size w w' := by
 go_enter Tryz.func86, Tryz.ntmps86
 go_wp2_with fail
 have r : RowAt _ _ 2 2 [x % 4294967296, x / 4294967296] := rowAt_pair (w := w) (e := bits BinOp.and IntKind.u64 (x : Int) 4294967295 % 4294967296) (f := (x : Int) / 4294967296) (x % 4294967296) (x / 4294967296) (by rw [and_low32 _ (by omega) (by omega)]; omega) (by omega) (by omega) (by omega);refine (rtrim_any _ _ _ _ _ r (by omega)).mono ?_;rintro e w1 ⟨a1, l1, c1, rfl, hnum, hbel⟩;rw [val_pair, show x % 4294967296 + x / 4294967296 * 4294967296 = x by omega] at hnum;clear r;go_wp2;go_ret;exact ⟨_, _, _, rfl, hnum, ((Below.refl _ _).alloc (Nat.le_refl _) _).trans (hbel.mono (by simp))⟩

theorem ret_ib {k : IntKind} {a b : Int} {c : Bool} (h : a = b) : Ending.returned (.tuple #[.int k a, .bool c]) = .returned (.tuple #[.int k b, .bool c]) := by rw [h]

theorem pre_two (xs : List Nat) : pre xs 2 = lim xs 0 + lim xs 1 * 4294967296 := by
 have h1 := pre_succ xs 1;have h2 := pre_succ xs 0;rw [h2, pre_zero, Bp_zero, Bp_one, Nat.zero_add, Nat.mul_one] at h1;exact h1
theorem short_val {w : World} {ao : Option Addr} {l c : Nat} {xs : List Nat} (h : NumAt w ao l c (val xs)) (hl : l ≤ 2) : val xs = lim xs 0 + lim xs 1 * 4294967296 := by
 obtain ⟨zs, hz, nz, vz⟩ := h;have h3 := val_lt hz.small;rw [hz.len_eq, vz] at h3;rw [val_first (Nat.lt_of_lt_of_le h3 (Bp_le hl)), pre_two]

theorem short_cast (a b : Nat) : (a : Int) + (b : Int) * 4294967296 = ((a + b * 4294967296 : Nat) : Int) := by omega

theorem rshort_any (ao : Option Addr) (len cap : Nat) (xs : List Nat) (w : World) (h : RowAt w ao len cap xs) (hlen : len ≤ 10000000) :
  Calls Tryz.prog 85 #[.slice ao len cap] w fun e w' => ∃ b : Bool, e = .returned (.tuple #[.int .u64 ((lim xs 0 + lim xs 1 * 4294967296 : Nat) : Int), .bool b]) ∧ (b = true → val xs = lim xs 0 + lim xs 1 * 4294967296) ∧ Below w.heap.size w w' := by
 have h0 := h.small 0;have h1 := h.small 1;go_enter Tryz.func85, Tryz.ntmps85
 go_wp2_with fail
 refine (rlimb_any _ _ _ xs _ 0 _ h rfl).mono ?_;rintro e w' ⟨rfl, rfl⟩
 go_wp2_with fail
 refine (rlimb_any _ _ _ xs _ 1 _ h rfl).mono ?_;rintro e w' ⟨rfl, rfl⟩
 go_wp2_with fail
 refine (rtrim_any _ _ _ xs _ h (by omega)).mono ?_;rintro e w1 ⟨a1, l1, c1, rfl, hnum, hbel⟩;have hv := short_val hnum;have HV := zh hv;clear hv hnum;go_wp2
 go_ret2
 refine ⟨decide ((l1 : Int) ≤ 2), ?_, fun h => zu HV (by simp at h; omega), hbel⟩;exact ret_ib (short_cast _ _)

theorem rbit_any (ao : Option Addr) (len cap : Nat) (xs : List Nat) (i : Int) (k : Nat) (w : World) (h : RowAt w ao len cap xs) (hi : i = (k : Int)) (hk : k < 32 * len) (hlen : len ≤ 10000000) :
  Calls Tryz.prog 87 #[.slice ao len cap, .int .i64 i] w fun e w' => e = .returned (.int .u32 ((val xs / 2 ^ k % 2 : Nat) : Int)) ∧ w = w' := by
 subst hi;obtain ⟨b, off, rfl, hb, hc⟩ := h.cells (by omega);have hck := hc (k / 32) (by omega);have hbx := h.small (k / 32);clear hc;go_enter Tryz.func87, Tryz.ntmps87;have hd : lim xs (k / 32) / 2 ^ (k % 32) < 4294967296 := Nat.lt_of_le_of_lt (Nat.div_le_self _ _) hbx;go_wp2;go_ret;refine ⟨ret_int ?_, rfl⟩;have e := bit_val h.small (q := k / 32) (r := k % 32) (by omega);rw [show 32 * (k / 32) + k % 32 = k by omega] at e;rw [e, show ((lim xs (k / 32) : Int) / 2 ^ (k % 32)) = ((lim xs (k / 32) / 2 ^ (k % 32) : Nat) : Int) by simp, show (1 : Int) = ((1 : Nat) : Int) from rfl, u32_and_nat _ _ (by omega) (by omega), Nat.and_one_is_mod]

/-
 What the reference's DivModL does: the quotient and what is left, of a b above 0.
-/

theorem quo_cast {X Y : Nat} (hX : X < 18446744073709551616) : IntKind.u64.wrap ((X : Int) / (Y : Int)) = ((X / Y : Nat) : Int) := by
 have h3 := Nat.div_le_self X Y;rw [show (X : Int) / (Y : Int) = ((X / Y : Nat) : Int) by simp, IntKind.wrap_u64];generalize X / Y = q at *;omega
theorem val_sing (a : Nat) : val [a] = a := by simp [val, pre, lim, Bp]
theorem bit_cast (A j : Nat) : (A : Int) / 2 ^ j % 2 = ((A / 2 ^ j % 2 : Nat) : Int) := by simp
theorem or_digit {a r : Nat} (ha : a < 4294967296) (hr : r < 32) (h : a / 2 ^ r % 2 = 0) : bits .or .u32 (a : Int) (2 ^ r % 4294967296) = ((a + 2 ^ r : Nat) : Int) := by
 have h1 := pow_limb hr;rw [show ((2 : Int) ^ r % 4294967296) = ((2 ^ r : Nat) : Int) by rw [show ((2 : Int) ^ r) = ((2 ^ r : Nat) : Int) by simp]; omega, u32_or_nat _ _ (by omega) (by omega), or_bit h]
theorem rem_cast (X Y : Nat) : (X : Int).tmod (Y : Int) = ((X % Y : Nat) : Int) := by rw [Int.tmod_eq_emod_of_nonneg (by omega)]; rfl
theorem rem_cast2 (X Y : Nat) : (X : Int) % (Y : Int) = ((X % Y : Nat) : Int) := by simp
theorem rtwo_int (xi : Int) (x : Nat) (w : World) (h : xi = (x : Int)) (hx : x < 18446744073709551616) :
  Calls Tryz.prog 86 #[.int .u64 xi] w fun e w' => ∃ ao' len' cap', e = .returned (.slice ao' len' cap') ∧ NumAt w' ao' len' cap' x ∧ Below w.heap.size w w' := by
 subst h;exact rtwo_new x w hx
theorem rshort_nat (ao : Option Addr) (len cap : Nat) (xs : List Nat) (w : World) (h : RowAt w ao len cap xs) (hlen : len ≤ 10000000) :
  Calls Tryz.prog 85 #[.slice ao len cap] w fun e w' => ∃ (b : Bool) (X : Nat), e = .returned (.tuple #[.int .u64 (X : Int), .bool b]) ∧ (b = true → val xs = X) ∧ X < 18446744073709551616 ∧ Below w.heap.size w w' := by
 refine (rshort_any ao len cap xs w h hlen).mono ?_;rintro e w' ⟨b, rfl, h1, h2⟩;have h3 := h.small 0;have h4 := h.small 1;exact ⟨b, _, rfl, h1, by omega, h2⟩

set_option maxRecDepth 20000 in
set_option maxHeartbeats 1000000 in
theorem rdivmod_any (aa : Option Addr) (la ca : Nat) (xs : List Nat) (ab : Option Addr) (lb cb : Nat) (ys : List Nat) (w : World) (ha : RowAt w aa la ca xs) (hb : RowAt w ab lb cb ys) (hla : la ≤ 1000000) (hlb : lb ≤ 1000000) (hD : 0 < val ys) :
  Calls Tryz.prog 65 #[.slice aa la ca, .slice ab lb cb] w fun e w' => ∃ a1 l1 c1 a2 l2 c2, e = .returned (.tuple #[.slice a1 l1 c1, .slice a2 l2 c2]) ∧ NumAt w' a1 l1 c1 (val xs / val ys) ∧ NumAt w' a2 l2 c2 (val xs % val ys) ∧ Below w.heap.size w w' := by
 have HD := zh hD;clear hD;go_enter Tryz.func65, Tryz.ntmps65
 go_wp2_with fail
 refine (rshort_nat _ _ _ xs _ ha (by omega)).mono ?_;rintro e w1 ⟨bX, X, rfl, hX, hXl, hW1⟩
 go_wp2_with fail
 refine (rshort_nat _ _ _ ys _ (hb.za hW1) (by omega)).mono ?_;rintro e w2 ⟨bY, Y, rfl, hY, hYl, hw2⟩;have hW2 := hW1.trans (hw2.mono hW1.size);have HX := zh hX;have HY := zh hY;clear hX hY hw2 hW1;by_cases hs : bX = true ∧ bY = true
 ·obtain ⟨rfl, rfl⟩ := hs;have eX := zu HX rfl;have eY := zu HY rfl;have hY0 : 0 < Y := by rw [← eY]; exact zu HD
  have hY1 : (1 : Int) ≤ (Y : Int) := by omega
  have EX := zh eX;have EY := zh eY;clear eX eY HX HY HD;have hq := zh (Nat.lt_of_le_of_lt (Nat.div_le_self X Y) hXl);have hr := zh (Nat.lt_of_le_of_lt (Nat.mod_le X Y) hXl);have hc := zh (quo_cast (Y := Y) hXl);have hc2 := zh (rem_cast X Y);have hc3 := zh (rem_cast2 X Y);clear hXl hYl;have hYb : ((Y : Int) == 0) = false := by simp; omega
  go_wp2_with fail
  go_region_with (first | (go_at_call_of 86 (IntKind.u64.wrap ((X : Int) / (Y : Int))); refine (rtwo_int _ (X / Y) _ (zu hc) (zu hq)).mono ?_; rintro e w3 ⟨a3, l3, c3, rfl, hn3, hw3⟩) | (go_at_call_of 86 ((X : Int).tmod (Y : Int)); refine (rtwo_int _ (X % Y) _ (zu hc2) (zu hr)).mono ?_; rintro e w4 ⟨a4, l4, c4, rfl, hn4, hw4⟩) | (go_at_call_of 86 ((X : Int) % (Y : Int)); refine (rtwo_int _ (X % Y) _ (zu hc3) (zu hr)).mono ?_; rintro e w4 ⟨a4, l4, c4, rfl, hn4, hw4⟩))
  all_goals go_wp2
  all_goals
   go_ret2
   refine ⟨a3, l3, c3, a4, l4, c4, rfl, ?_, ?_, ?_⟩
   ·rw [zu EX, zu EY]; exact hn3.za hw4
   ·rw [zu EX, zu EY]; exact hn4
   ·have hw23 : Below w2.heap.size w2 w3 := (Below.refl w2.heap.size w2).drew.trans hw3;exact (hW2.trans (hw23.mono hW2.size)).trans (hw4.mono (Nat.le_trans hW2.size hw23.size))
 ·have hcond : (bX && bY) = false := by
   cases bX <;> cases bY <;> simp_all
  have D0 := zu HD;have hdl : val ys < Bp lb := by
   have := val_lt hb.small
   rwa [hb.len_eq] at this
  have hAl : val xs / 2 ^ (32 * la) = 0 := by
   rw [← Bp_two];have := val_lt ha.small;rw [ha.len_eq] at this;exact Nat.div_eq_of_lt this
  have HAL := zh hAl;have HDL := zh hdl;clear hXl hYl HX HY hAl hdl D0;have hfalse : bX = false ∨ (bX = true ∧ bY = false) := by cases bX <;> cases bY <;> simp_all
  clear hs hcond;rcases hfalse with rfl | ⟨rfl, rfl⟩
  all_goals
   go_wp2_with (at_make; refine make_row rfl _ _ rfl w2.heap.size .i64 .i64 _ _ la rfl rfl (by omega) (by omega) (by omega) (Nat.le_refl _) ?_)
   intro w3 hown1 hgrow1;have hbel1 : Below w2.heap.size w2 w3 := (Below.refl _ _).grown hgrow1 (Nat.le_refl _) (fun _ h => by simp at h);have hsz := hown1.base_le;have hgl : w2.heap.size < w3.heap.size := by
    rcases hown1.2 with ⟨h', _⟩ | ⟨g', cap', cur, h', _, hg, _⟩
    ·simp at h'
    ·simp only [Value.slice.injEq, Option.some.injEq, Addr.mk.injEq, and_true, true_and] at h';obtain ⟨rfl, rfl⟩ := h';exact lt_of_block hg
   clear hgrow1 hsz
   go_wp2_with fail
   go_loopw [11, 12] (fun v i wr => ∃ (k : Nat) (ar : Option Addr) (lr cr : Nat) (zs : List Nat), k ≤ 32 * la ∧ v = .slice ar lr cr ∧ i = .int .i64 ((k : Int) - 1) ∧ NumAt wr ar lr cr (val xs / 2 ^ k % val ys) ∧ Own wr w2.heap.size (.slice (some ⟨w2.heap.size, 0, none⟩) la la) la zs ∧ Small zs ∧ val zs = val xs / 2 ^ k / val ys * 2 ^ k ∧ w2.heap.size < wr.heap.size ∧ Below w2.heap.size w2 wr) (fun _ i _ => (intOf i + 1).toNat)
   case atStart =>
    refine ⟨32 * la, none, 0, 0, _, Nat.le_refl _, rfl, by go_num, ?_, hown1, small_replicate _, ?_, hgl, hbel1⟩
    ·rw [zu HAL, Nat.zero_mod]; exact numAt_nil _
    ·rw [zu HAL, Nat.zero_div, Nat.zero_mul]; exact pre_zeros (fun i _ => lim_replicate _ _)
   case round =>
    obtain ⟨k, ar, lr, cr, zs, hk, rfl, rfl, hnum, hown, hsm, hval, hgl2, hbel⟩ := hrel;have HV := zh hval;clear hval hown1 hbel1 hgl;have zlen := zh hown.len;by_cases hp : 0 < k
    ·obtain ⟨j, rfl⟩ : ∃ j, k = j + 1 := ⟨k - 1, by omega⟩;have ej : ((j + 1 : Nat) : Int) - 1 = (j : Int) := by omega
     rw [ej];have hlr : lr ≤ lb := hnum.len_le (Nat.lt_trans (Nat.mod_lt _ (zu HD)) (zu HDL));have hlr2 : val xs / 2 ^ (j + 1) % val ys < val ys := Nat.mod_lt _ (zu HD);have HLR := zh hlr2;obtain ⟨rs, hrs, nrs, vrs⟩ := hnum;have VR := zh vrs;have hW := hW2.trans (hbel.mono hW2.size);clear vrs nrs hlr2 ej
     go_wp2_with fail
     have k1 := radd_any _ _ _ rs _ _ _ rs _ hrs hrs (by omega) (by omega);rw [zu VR] at k1;refine k1.mono ?_;rintro e w4 ⟨a4, l4, c4, rfl, hn4, hw4⟩;have hW4 := hW.trans (hw4.mono hW.size);clear k1 hrs VR
     go_wp2_with fail
     refine (rbit_any _ _ _ xs _ j _ (ha.za hW4) rfl (by omega) (by omega)).mono ?_;rintro e w' ⟨rfl, rfl⟩
     go_wp2_with fail
     have r1 : RowAt (w4.alloc (.cells #[.int .u32 ((val xs : Int) / 2 ^ j % 2)] 73)) (some ⟨w4.heap.size, 0, none⟩) 1 1 [val xs / 2 ^ j % 2] := rowAt_one (bit_cast _ _) (by omega);have hl4 : l4 ≤ lb + 1 := hn4.len_le (by rw [Bp_succ]; have h1 := zu HLR; have h2 := zu HDL; omega);obtain ⟨ss, hss, nss, vss⟩ := hn4;have hal := (Below.refl w4.heap.size w4).alloc (Nat.le_refl _) (.cells #[.int .u32 ((val xs : Int) / 2 ^ j % 2)] 73);have k2 := radd_any _ _ _ ss _ _ _ _ _ (hss.za hal) r1 (by omega) (by omega);rw [vss, val_sing] at k2;refine k2.mono ?_;rintro e w5 ⟨a5, l5, c5, rfl, hn5, hw5⟩;have hB5 : Below wr.heap.size wr w5 := hw4.trans ((hal.trans (hw5.mono (by simp))).mono hw4.size);have hW5 := hW.trans (hB5.mono hW.size);have hl5 : l5 ≤ lb + 1 := hn5.len_le (by rw [Bp_succ]; have h1 := zu HLR; have h2 := zu HDL; omega);obtain ⟨hb0, hblt, hbge⟩ := bit_step (A := val xs) (D := val ys) (j := j) (zu HD);obtain ⟨R, hR⟩ : ∃ R, R = val xs / 2 ^ (j + 1) % val ys := ⟨_, rfl⟩;obtain ⟨t, htb⟩ : ∃ t, t = val xs / 2 ^ j % 2 := ⟨_, rfl⟩;rw [← hR, ← htb] at hn5 hblt hbge;have HLT := zh hblt;have HGE := zh hbge;have T2 := zh (show 2 * R + t = R + R + t by omega);obtain ⟨ts, hts, nts, vts⟩ := hn5;have VT := zh vts;clear k2 r1 vss nss hss hal hw4 hW4 hb0 hblt hbge hR htb
     go_wp2_with fail
     have k3 := rcmp_any _ _ _ ts _ _ _ ys _ hts (hb.za hW5);rw [zu VT] at k3;by_cases hcase : R + R + t < val ys
     ·have hneg : cmpI (R + R + t) (val ys) < 0 := by rw [cmpI_lt hcase]; omega
      have HC := zh hcase;clear hcase;refine k3.mono ?_;rintro e w' ⟨rfl, rfl⟩;clear k3;go_wp2;go_roundw
      case rel =>
       obtain ⟨e1, e2⟩ := zu HLT (by have h1 := zu HC; omega);refine ⟨j, a5, l5, c5, zs, by omega, rfl, rfl, ⟨ts, hts, nts, ?_⟩, hown.za hB5, hsm, ?_, Nat.lt_of_lt_of_le hgl2 hB5.size, hbel.trans (hB5.mono hbel.size)⟩
       ·rw [zu VT, e1]; omega
       ·rw [zu HV, e2, Nat.pow_succ]; exact shift_eq _ _
      case measure => simp [intOf]
     ·have hneg : 0 ≤ cmpI (R + R + t) (val ys) := by
       unfold cmpI; rw [if_neg (by omega)]; split <;> omega
      have HC := zh hcase;clear hcase;refine k3.mono ?_;rintro e w' ⟨rfl, rfl⟩;clear k3
      go_wp2_with fail
      have k4 := rsub_new _ _ _ ts _ _ _ ys _ hts (hb.za hW5) (by omega) (by omega) (by rw [zu VT]; have := zu HC; omega);rw [zu VT] at k4;refine k4.mono ?_;rintro e w6 ⟨a6, l6, c6, rfl, hn6, hw6, hnew⟩;have hB6 := hB5.trans (hw6.mono hB5.size);have hown6 := hown.za hB6;have cs := hown6.cell (i := j / 32) (by omega);have cf := hown6.free (j / 32);clear k4;go_wp2;go_roundw
      case rel =>
       obtain ⟨e1, e2⟩ := zu HGE (by have h1 := zu HC; omega);have hbit : lim zs (j / 32) / 2 ^ (j % 32) % 2 = 0 := by
        have h1 := bit_val hsm (q := j / 32) (r := j % 32) (by omega);rw [show 32 * (j / 32) + j % 32 = j by omega, zu HV, even_bit] at h1;exact h1.symm
       have hlz := hsm (j / 32);rw [or_digit hlz (by omega) hbit];refine ⟨j, a6, l6, c6, zs.set (j / 32) (lim zs (j / 32) + 2 ^ (j % 32)), by omega, rfl, rfl, ?_, hown6.set _ _ rfl, small_set hsm (or_bit_fits hlz (by omega) hbit), ?_, ?_, (hbel.trans (hB6.mono hbel.size)).setCell (by simp) _⟩
       ·have hn7 := hn6.other (hnew.mono (Nat.lt_of_lt_of_le hgl2 hB5.size)) (j / 32) (.int .u32 ((lim zs (j / 32) + 2 ^ (j % 32) : Nat) : Int));rw [show R + R + t - val ys = val xs / 2 ^ j % val ys by rw [e1]; omega] at hn7;exact hn7
       ·rw [val_set_add (by rw [zu zlen]; omega), Bp_two, ← Nat.pow_add, show j % 32 + 32 * (j / 32) = j by omega, zu HV, e2, Nat.pow_succ, shift_eq, Nat.add_mul, Nat.one_mul]
       ·have := hB6.size;simp [World.setCell]; omega
      case measure => simp [intOf]
    ·have hk0 : k = 0 := by omega
     have hr := rowAt_own hown hsm;have hv : val zs = val xs / val ys := by
      rw [zu HV, hk0, Nat.pow_zero, Nat.div_one, Nat.mul_one]
     have HW := zh hv;rw [hk0, Nat.pow_zero, Nat.div_one] at hnum;have hW := hW2.trans (hbel.mono hW2.size);clear hv
     go_wp2_with fail
     refine (rtrim_any _ _ _ zs _ hr (by omega)).mono ?_;rintro e w4 ⟨a4, l4, c4, rfl, hn4, hw4⟩;rw [zu HW] at hn4;go_wp2
     go_ret2
     exact ⟨a4, l4, c4, ar, lr, cr, rfl, hn4, hnum.za hw4, hW.trans (hw4.mono hW.size)⟩

/-
 What a slice reads as, as a number, noughts at its end or not ('ValAt').
-/

def ValAt (w : World) (ao : Option Addr) (len cap : Nat) (N : Nat) : Prop := ∃ xs, RowAt w ao len cap xs ∧ val xs = N
theorem ValAt.za {w w' : World} {ao : Option Addr} {len cap N : Nat} (h : ValAt w ao len cap N) (hb : Below w.heap.size w w') : ValAt w' ao len cap N := by
 obtain ⟨xs, h1, h2⟩ := h;exact ⟨xs, h1.za hb, h2⟩
theorem NumAt.val {w : World} {ao : Option Addr} {len cap N : Nat} (h : NumAt w ao len cap N) : ValAt w ao len cap N := by
 obtain ⟨xs, h1, _, h2⟩ := h;exact ⟨xs, h1, h2⟩
theorem RowAt.val {w : World} {ao : Option Addr} {len cap : Nat} {xs : List Nat} (h : RowAt w ao len cap xs) : ValAt w ao len cap (val xs) := ⟨xs, h, rfl⟩
theorem ValAt.lt {w : World} {ao : Option Addr} {len cap N k : Nat} (h : ValAt w ao len cap N) (hk : len ≤ k) : N < Bp k := by
 obtain ⟨xs, h1, h2⟩ := h;rw [← h2];exact row_lt h1 hk
theorem NumAt.len_zero {w : World} {ao : Option Addr} {len cap : Nat} (h : NumAt w ao len cap 0) : len = 0 := by
 have := h.len_le (k := 0) (Bp_pos 0);omega
theorem NumAt.len_pos {w : World} {ao : Option Addr} {len cap N : Nat} (h : NumAt w ao len cap N) (hN : 0 < N) : 0 < len := by
 obtain ⟨zs, hz, _, vz⟩ := h;rcases Nat.eq_zero_or_pos len with e | e
 ·exfalso
  rw [List.eq_nil_of_length_eq_zero (show zs.length = 0 by rw [hz.len_eq, e]), val_nil] at vz;omega
 ·exact e
theorem prod_lt {A B k l : Nat} (hA : A < Bp k) (hB : B < Bp l) : A * B < Bp (k + l) := by
 rw [Bp_add];exact Nat.mul_lt_mul_of_lt_of_le hA (Nat.le_of_lt hB) (Bp_pos _)

/-
 The contracts of package limb and of the reference, told of numbers (IN PARTS): a row that reads as a number, with or without noughts at its end.
-/

theorem trim_num (aa : Option Addr) (la ca A : Nat) (w : World) (ha : ValAt w aa la ca A) (hla : la ≤ 1000000) : Calls Tryz.prog 68 #[.slice aa la ca] w fun e w' => ∃ ao' len' cap', e = .returned (.slice ao' len' cap') ∧ NumAt w' ao' len' cap' A ∧ Below w.heap.size w w' := by
 obtain ⟨xs, hx, rfl⟩ := ha;exact trim_any _ _ _ xs w hx (by omega)
theorem add_num (aa : Option Addr) (la ca A : Nat) (ab : Option Addr) (lb cb B : Nat) (w : World) (ha : ValAt w aa la ca A) (hb : ValAt w ab lb cb B) (hla : la ≤ 1000000) (hlb : lb ≤ 1000000) : Calls Tryz.prog 78 #[.slice aa la ca, .slice ab lb cb] w fun e w' => ∃ ao' len' cap', e = .returned (.slice ao' len' cap') ∧ NumAt w' ao' len' cap' (A + B) ∧ Below w.heap.size w w' := by
 obtain ⟨xs, hx, rfl⟩ := ha;obtain ⟨ys, hy, rfl⟩ := hb;exact add_any _ _ _ xs _ _ _ ys w hx hy (by omega) (by omega)
theorem rmul_num (aa : Option Addr) (la ca A : Nat) (ab : Option Addr) (lb cb B : Nat) (w : World) (ha : ValAt w aa la ca A) (hb : ValAt w ab lb cb B) (hla : la ≤ 1000000) (hlb : lb ≤ 1000000) : Calls Tryz.prog 71 #[.slice aa la ca, .slice ab lb cb] w fun e w' => ∃ ao' len' cap', e = .returned (.slice ao' len' cap') ∧ NumAt w' ao' len' cap' (A * B) ∧ Below w.heap.size w w' := by
 obtain ⟨xs, hx, rfl⟩ := ha;obtain ⟨ys, hy, rfl⟩ := hb;exact rmul_any _ _ _ xs _ _ _ ys w hx hy (by omega) (by omega)
theorem rdivmod_num (aa : Option Addr) (la ca A : Nat) (ab : Option Addr) (lb cb B : Nat) (w : World) (ha : ValAt w aa la ca A) (hb : ValAt w ab lb cb B) (hla : la ≤ 1000000) (hlb : lb ≤ 1000000) (hB : 0 < B) : Calls Tryz.prog 65 #[.slice aa la ca, .slice ab lb cb] w fun e w' => ∃ a1 l1 c1 a2 l2 c2, e = .returned (.tuple #[.slice a1 l1 c1, .slice a2 l2 c2]) ∧ NumAt w' a1 l1 c1 (A / B) ∧ NumAt w' a2 l2 c2 (A % B) ∧ Below w.heap.size w w' := by
 obtain ⟨xs, hx, rfl⟩ := ha;obtain ⟨ys, hy, rfl⟩ := hb;exact rdivmod_any _ _ _ xs _ _ _ ys w hx hy (by omega) (by omega) hB
theorem cmp_num (aa : Option Addr) (la ca A : Nat) (ab : Option Addr) (lb cb B : Nat) (w : World) (ha : ValAt w aa la ca A) (hb : ValAt w ab lb cb B) :
  Calls Tryz.prog 84 #[.slice aa la ca, .slice ab lb cb] w fun e w' => e = .returned (.int .i64 (cmpI A B)) ∧ Below w.heap.size w w' := by
 obtain ⟨xs, hx, rfl⟩ := ha;obtain ⟨ys, hy, rfl⟩ := hb;exact cmp_any _ _ _ xs _ _ _ ys w hx hy

theorem radd_num (aa : Option Addr) (la ca A : Nat) (ab : Option Addr) (lb cb B : Nat) (w : World) (ha : ValAt w aa la ca A) (hb : ValAt w ab lb cb B) (hla : la ≤ 1000000) (hlb : lb ≤ 1000000) : Calls Tryz.prog 72 #[.slice aa la ca, .slice ab lb cb] w fun e w' => ∃ ao' len' cap', e = .returned (.slice ao' len' cap') ∧ NumAt w' ao' len' cap' (A + B) ∧ Below w.heap.size w w' := by
 obtain ⟨xs, hx, rfl⟩ := ha;obtain ⟨ys, hy, rfl⟩ := hb;exact radd_any _ _ _ xs _ _ _ ys w hx hy (by omega) (by omega)
theorem rsub_num (aa : Option Addr) (la ca A : Nat) (ab : Option Addr) (lb cb B : Nat) (w : World) (ha : ValAt w aa la ca A) (hb : ValAt w ab lb cb B) (hla : la ≤ 1000000) (hlb : lb ≤ 1000000) (hle : B ≤ A) : Calls Tryz.prog 74 #[.slice aa la ca, .slice ab lb cb] w fun e w' => ∃ ao' len' cap', e = .returned (.slice ao' len' cap') ∧ NumAt w' ao' len' cap' (A - B) ∧ Below w.heap.size w w' := by
 obtain ⟨xs, hx, rfl⟩ := ha;obtain ⟨ys, hy, rfl⟩ := hb;exact rsub_any _ _ _ xs _ _ _ ys w hx hy (by omega) (by omega) hle
theorem rcmp_num (aa : Option Addr) (la ca A : Nat) (ab : Option Addr) (lb cb B : Nat) (w : World) (ha : ValAt w aa la ca A) (hb : ValAt w ab lb cb B) :
  Calls Tryz.prog 73 #[.slice aa la ca, .slice ab lb cb] w fun e w' => e = .returned (.int .i64 (cmpI A B)) ∧ w = w' := by
 obtain ⟨xs, hx, rfl⟩ := ha;obtain ⟨ys, hy, rfl⟩ := hb;exact rcmp_any _ _ _ xs _ _ _ ys w hx hy
theorem sub_num (aa : Option Addr) (la ca A : Nat) (ab : Option Addr) (lb cb B : Nat) (w : World) (ha : ValAt w aa la ca A) (hb : ValAt w ab lb cb B) (hla : la ≤ 1000000) (hle : B ≤ A) : Calls Tryz.prog 79 #[.slice aa la ca, .slice ab lb cb] w fun e w' => ∃ ao' len' cap', e = .returned (.tuple #[.slice ao' len' cap', .bool true]) ∧ NumAt w' ao' len' cap' (A - B) ∧ Below w.heap.size w w' := by
 obtain ⟨xs, hx, rfl⟩ := ha;obtain ⟨ys, hy, rfl⟩ := hb;exact sub_yes _ _ _ xs _ _ _ ys w hx hy (by omega) hle
theorem sub_none (aa : Option Addr) (la ca A : Nat) (ab : Option Addr) (lb cb B : Nat) (w : World) (ha : ValAt w aa la ca A) (hb : ValAt w ab lb cb B) (hlt : A < B) : Calls Tryz.prog 79 #[.slice aa la ca, .slice ab lb cb] w fun e w' => e = .returned (.tuple #[.slice none 0 0, .bool false]) ∧ Below w.heap.size w w' := by
 obtain ⟨xs, hx, rfl⟩ := ha;obtain ⟨ys, hy, rfl⟩ := hb;exact sub_no _ _ _ xs _ _ _ ys w hx hy hlt
theorem bits_num (aa : Option Addr) (la ca A : Nat) (w : World) (ha : ValAt w aa la ca A) (hla : la ≤ 1000000) : Calls Tryz.prog 83 #[.slice aa la ca] w fun e w' => ∃ n : Nat, e = .returned (.int .i64 (n : Int)) ∧ IsBits A n ∧ w = w' := by
 obtain ⟨xs, hx, rfl⟩ := ha;exact bits_any _ _ _ xs w hx (by omega)
theorem rtrim_num (aa : Option Addr) (la ca A : Nat) (w : World) (ha : ValAt w aa la ca A) (hla : la ≤ 1000000) : Calls Tryz.prog 82 #[.slice aa la ca] w fun e w' => ∃ ao' len' cap', e = .returned (.slice ao' len' cap') ∧ NumAt w' ao' len' cap' A ∧ Below w.heap.size w w' := by
 obtain ⟨xs, hx, rfl⟩ := ha;exact rtrim_any _ _ _ xs w hx (by omega)

end Go.Proofs.YtnpneloahajniaaGreat
