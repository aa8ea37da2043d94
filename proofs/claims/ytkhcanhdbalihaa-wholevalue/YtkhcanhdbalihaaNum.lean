/-
  Plain mathematics of rows of limbs, with no program in it: what number a row of limbs is, and that a row without a nought at its end is told by its number.
-/
namespace Go.Proofs.Ytkhcanhdbalihaa.Lb

/-- Limb number i; 0 behind the end. -/
def lim (xs : List Nat) (i : Nat) : Nat := xs.getD i 0
/-- 2^32 to the k. -/
def Bp (k : Nat) : Nat := 4294967296 ^ k
/-- The number that the first k limbs are. -/
def pre (xs : List Nat) : Nat → Nat
  | 0 => 0
  | k + 1 => pre xs k + lim xs k * Bp k
def val (xs : List Nat) : Nat := pre xs xs.length
def Small (xs : List Nat) : Prop := ∀ i, lim xs i < 4294967296
def Norm (xs : List Nat) : Prop := 0 < xs.length → lim xs (xs.length - 1) ≠ 0

theorem Bp_zero : Bp 0 = 1 := by simp [Bp]
theorem Bp_succ (k : Nat) : Bp (k + 1) = Bp k * 4294967296 := by unfold Bp; exact Nat.pow_succ _ _
theorem Bp_pos (k : Nat) : 0 < Bp k := by unfold Bp; exact Nat.pow_pos (by omega)
theorem Bp_one : Bp 1 = 4294967296 := by simp [Bp]
theorem Bp_add (a b : Nat) : Bp (a + b) = Bp a * Bp b := by unfold Bp; exact Nat.pow_add _ _ _
theorem Bp_le {a b : Nat} (h : a ≤ b) : Bp a ≤ Bp b := by unfold Bp; exact Nat.pow_le_pow_right (by omega) h
theorem Bp_lt {a b : Nat} (h : a < b) : Bp a < Bp b := by unfold Bp; exact Nat.pow_lt_pow_right (by omega) h

theorem lim_out {xs : List Nat} {i : Nat} (h : xs.length ≤ i) : lim xs i = 0 := by simp [lim, List.getElem?_eq_none h]
theorem lim_nil (i : Nat) : lim [] i = 0 := by simp [lim]
theorem lim_get {xs : List Nat} {i : Nat} (h : i < xs.length) : lim xs i = xs[i] := by simp [lim, h]
theorem lim_take (xs : List Nat) (n i : Nat) : lim (xs.take n) i = if i < n then lim xs i else 0 := by
  unfold lim; simp only [List.getD_eq_getElem?_getD, List.getElem?_take]; split <;> simp
theorem lim_drop (xs : List Nat) (n i : Nat) : lim (xs.drop n) i = lim xs (n + i) := by
  unfold lim; simp only [List.getD_eq_getElem?_getD, List.getElem?_drop]
theorem lim_set (xs : List Nat) (n v i : Nat) (h : n < xs.length) : lim (xs.set n v) i = if i = n then v else lim xs i := by
  unfold lim; simp only [List.getD_eq_getElem?_getD, List.getElem?_set]
  by_cases e : n = i
  · subst e; simp [h]
  · simp [e, Ne.symm e]
theorem lim_snoc (xs : List Nat) (v i : Nat) : lim (xs ++ [v]) i = if i = xs.length then v else lim xs i := by
  unfold lim; simp only [List.getD_eq_getElem?_getD]
  by_cases h : i < xs.length
  · rw [List.getElem?_append_left h, if_neg (by omega)]
  · rw [List.getElem?_append_right (by omega)]
    by_cases e : i = xs.length
    · subst e; simp
    · rw [if_neg e, List.getElem?_eq_none (by simp; omega), List.getElem?_eq_none (by omega)]
theorem lim_append (xs ys : List Nat) (i : Nat) : lim (xs ++ ys) i = if i < xs.length then lim xs i else lim ys (i - xs.length) := by
  unfold lim; simp only [List.getD_eq_getElem?_getD]
  by_cases h : i < xs.length
  · rw [List.getElem?_append_left h, if_pos h]
  · rw [List.getElem?_append_right (by omega), if_neg h]
theorem lim_replicate (n i : Nat) : lim (List.replicate n 0) i = 0 := by
  unfold lim; simp only [List.getD_eq_getElem?_getD, List.getElem?_replicate]; split <;> simp
theorem ext_lim {xs ys : List Nat} (hl : xs.length = ys.length) (h : ∀ i, i < xs.length → lim xs i = lim ys i) : xs = ys := by
  apply List.ext_getElem hl
  intro i h1 h2
  have := h i h1
  rwa [lim_get h1, lim_get h2] at this

theorem pre_succ (xs : List Nat) (k : Nat) : pre xs (k + 1) = pre xs k + lim xs k * Bp k := rfl
theorem pre_zero (xs : List Nat) : pre xs 0 = 0 := rfl
theorem pre_congr {xs ys : List Nat} {k : Nat} (h : ∀ i, i < k → lim xs i = lim ys i) : pre xs k = pre ys k := by
  induction k with
  | zero => rfl
  | succ k ih => rw [pre_succ, pre_succ, ih (fun i hi => h i (by omega)), h k (by omega)]
theorem pre_nil (k : Nat) : pre [] k = 0 := by
  induction k with
  | zero => rfl
  | succ k ih => rw [pre_succ, ih, lim_nil]; simp
theorem pre_zeros {xs : List Nat} {k : Nat} (h : ∀ i, i < k → lim xs i = 0) : pre xs k = 0 := by
  rw [pre_congr (ys := []) (fun i hi => by rw [h i hi, lim_nil]), pre_nil]
/-- Noughts from k on add nothing. -/
theorem pre_flat {xs : List Nat} {k n : Nat} (hk : k ≤ n) (h : ∀ i, k ≤ i → i < n → lim xs i = 0) : pre xs n = pre xs k := by
  induction n with
  | zero => have : k = 0 := by omega
            subst this; rfl
  | succ n ih =>
    by_cases e : k = n + 1
    · subst e; rfl
    · rw [pre_succ, h n (by omega) (by omega), ih (by omega) (fun i h1 h2 => h i h1 (by omega))]; simp
theorem pre_len {xs : List Nat} {k : Nat} (h : xs.length ≤ k) : pre xs k = val xs := pre_flat h (fun _ h1 _ => lim_out h1)
theorem pre_lt {xs : List Nat} (hs : Small xs) (k : Nat) : pre xs k < Bp k := by
  induction k with
  | zero => simp [pre, Bp_zero]
  | succ k ih =>
    rw [pre_succ, Bp_succ]
    have h := hs k
    have h2 : lim xs k * Bp k ≤ 4294967295 * Bp k := Nat.mul_le_mul_right _ (by omega)
    have h3 : Bp k * 4294967296 = 4294967295 * Bp k + Bp k := by omega
    omega
theorem val_lt {xs : List Nat} (hs : Small xs) : val xs < Bp xs.length := pre_lt hs _
theorem pre_ge {xs : List Nat} {k : Nat} (h : lim xs k ≠ 0) : Bp k ≤ pre xs (k + 1) := by
  rw [pre_succ]
  have : 1 * Bp k ≤ lim xs k * Bp k := Nat.mul_le_mul_right _ (by omega)
  omega
theorem norm_ge {xs : List Nat} (hn : Norm xs) (h : 0 < xs.length) : Bp (xs.length - 1) ≤ val xs := by
  have := pre_ge (hn h)
  have e : xs.length - 1 + 1 = xs.length := by omega
  rw [e] at this
  exact this
theorem norm_len {xs : List Nat} (hn : Norm xs) {k : Nat} (h : val xs < Bp k) : xs.length ≤ k := by
  rcases Nat.eq_zero_or_pos xs.length with e | e
  · omega
  · have h1 := norm_ge hn e
    rcases Nat.lt_or_ge k xs.length with h2 | h2
    · have := Bp_le (a := k) (b := xs.length - 1) (by omega)
      omega
    · exact h2
/-- A row is told by its number: limb by limb. -/
theorem pre_inj {xs ys : List Nat} (hx : Small xs) (hy : Small ys) {k : Nat} (h : pre xs k = pre ys k) : ∀ i, i < k → lim xs i = lim ys i := by
  induction k with
  | zero => intro i hi; omega
  | succ k ih =>
    rw [pre_succ, pre_succ] at h
    have h1 := pre_lt hx k
    have h2 := pre_lt hy k
    have e : lim xs k = lim ys k := by
      rcases Nat.lt_trichotomy (lim xs k) (lim ys k) with c | c | c
      · have : (lim xs k + 1) * Bp k ≤ lim ys k * Bp k := Nat.mul_le_mul_right _ c
        rw [Nat.add_mul] at this; omega
      · exact c
      · have : (lim ys k + 1) * Bp k ≤ lim xs k * Bp k := Nat.mul_le_mul_right _ c
        rw [Nat.add_mul] at this; omega
    rw [e] at h
    intro i hi
    by_cases c : i = k
    · rw [c]; exact e
    · exact ih (by omega) i (by omega)
/-- Two rows without a nought at the end are one if their numbers are. -/
theorem norm_inj {xs ys : List Nat} (hx : Small xs) (hy : Small ys) (nx : Norm xs) (ny : Norm ys) (h : val xs = val ys) : xs = ys := by
  have h1 := norm_len nx (k := ys.length) (by rw [h]; exact val_lt hy)
  have h2 := norm_len ny (k := xs.length) (by rw [← h]; exact val_lt hx)
  have hl : xs.length = ys.length := by omega
  refine ext_lim hl (pre_inj hx hy ?_)
  rw [show pre xs xs.length = val xs from rfl, h, hl]
  rfl
theorem norm_zero {xs : List Nat} (nx : Norm xs) (h : val xs = 0) : xs = [] := by
  have := norm_len nx (k := 0) (by rw [h]; exact Bp_pos 0)
  exact List.eq_nil_of_length_eq_zero (by omega)
theorem val_nil : val [] = 0 := rfl

/-- From k on the limbs agree: the numbers differ as those of the first k limbs do. -/
theorem pre_agree {xs ys : List Nat} {k n : Nat} (hk : k ≤ n) (h : ∀ i, k ≤ i → i < n → lim xs i = lim ys i) : pre xs n + pre ys k = pre ys n + pre xs k := by
  induction n with
  | zero => have : k = 0 := by omega
            subst this; rfl
  | succ n ih =>
    by_cases e : k = n + 1
    · subst e; omega
    · have := ih (by omega) (fun i h1 h2 => h i h1 (by omega))
      rw [pre_succ, pre_succ, h n (by omega) (by omega)]; omega
/-- The highest limb in which two differ decides. -/
theorem pre_top {xs ys : List Nat} (hx : Small xs) {k n : Nat} (hk : k < n) (h : ∀ i, k < i → i < n → lim xs i = lim ys i) (hl : lim xs k < lim ys k) : pre xs n < pre ys n := by
  have h1 := pre_agree (xs := xs) (ys := ys) (k := k + 1) (n := n) (by omega) (fun i a b => h i (by omega) b)
  have h2 := pre_lt hx k
  have h3 : (lim xs k + 1) * Bp k ≤ lim ys k * Bp k := Nat.mul_le_mul_right _ hl
  rw [Nat.add_mul] at h3
  rw [pre_succ, pre_succ] at h1
  omega

theorem small_nil : Small [] := fun i => by rw [lim_nil]; omega
theorem small_take {xs : List Nat} (h : Small xs) (n : Nat) : Small (xs.take n) := fun i => by
  rw [lim_take]; split
  · exact h i
  · omega
theorem small_drop {xs : List Nat} (h : Small xs) (n : Nat) : Small (xs.drop n) := fun i => by rw [lim_drop]; exact h _
theorem small_set {xs : List Nat} (h : Small xs) {n v : Nat} (hv : v < 4294967296) : Small (xs.set n v) := fun i => by
  by_cases hn : n < xs.length
  · rw [lim_set _ _ _ _ hn]; split
    · exact hv
    · exact h i
  · rw [List.set_eq_of_length_le (by omega)]; exact h i
theorem small_snoc {xs : List Nat} (h : Small xs) {v : Nat} (hv : v < 4294967296) : Small (xs ++ [v]) := fun i => by
  rw [lim_snoc]; split
  · exact hv
  · exact h i
theorem small_replicate (n : Nat) : Small (List.replicate n 0) := fun i => by rw [lim_replicate]; omega
theorem small_of_mem {xs : List Nat} (h : ∀ x ∈ xs, x < 4294967296) : Small xs := fun i => by
  by_cases c : i < xs.length
  · rw [lim_get c]; exact h _ (List.getElem_mem c)
  · rw [lim_out (by omega)]; omega

/-- What is left of a row whose limbs are noughts from n on. -/
theorem val_take {xs : List Nat} {n : Nat} (hn : n ≤ xs.length) (h : ∀ i, n ≤ i → i < xs.length → lim xs i = 0) : val (xs.take n) = val xs := by
  unfold val
  rw [pre_flat hn h, List.length_take, Nat.min_eq_left hn]
  exact pre_congr (fun i hi => by rw [lim_take, if_pos hi])
theorem norm_take {xs : List Nat} {n : Nat} (hn : n ≤ xs.length) (h : 0 < n → lim xs (n - 1) ≠ 0) : Norm (xs.take n) := by
  intro hp
  rw [List.length_take, Nat.min_eq_left hn] at hp ⊢
  rw [lim_take, if_pos (by omega)]
  exact h hp
theorem pre_take (xs : List Nat) (n k : Nat) (h : k ≤ n) : pre (xs.take n) k = pre xs k := pre_congr (fun i hi => by rw [lim_take, if_pos (by omega)])
theorem pre_set_lt (xs : List Nat) (n v k : Nat) (h : k ≤ n) (hn : n < xs.length) : pre (xs.set n v) k = pre xs k := pre_congr (fun i hi => by rw [lim_set _ _ _ _ hn, if_neg (by omega)])
theorem pre_snoc_le (xs : List Nat) (v k : Nat) (h : k ≤ xs.length) : pre (xs ++ [v]) k = pre xs k := pre_congr (fun i hi => by rw [lim_snoc, if_neg (by omega)])
theorem val_snoc (xs : List Nat) (v : Nat) : val (xs ++ [v]) = val xs + v * Bp xs.length := by
  unfold val
  rw [List.length_append]
  show pre _ (xs.length + 1) = _
  rw [pre_succ, pre_snoc_le _ _ _ (Nat.le_refl _), lim_snoc, if_pos rfl]

/-- How many bits a number has. -/
def IsBits (N n : Nat) : Prop := (N = 0 ∧ n = 0) ∨ (1 ≤ n ∧ 2 ^ (n - 1) ≤ N ∧ N < 2 ^ n)
theorem isBits_inj {N a b : Nat} (ha : IsBits N a) (hb : IsBits N b) : a = b := by
  rcases ha with ⟨h1, h2⟩ | ⟨h1, h2, h3⟩ <;> rcases hb with ⟨k1, k2⟩ | ⟨k1, k2, k3⟩
  · omega
  · have := Nat.pow_pos (n := b - 1) (show 0 < 2 by omega); omega
  · have := Nat.pow_pos (n := a - 1) (show 0 < 2 by omega); omega
  · rcases Nat.lt_trichotomy a b with c | c | c
    · have := Nat.pow_le_pow_right (n := 2) (by omega) (show a ≤ b - 1 by omega); omega
    · exact c
    · have := Nat.pow_le_pow_right (n := 2) (by omega) (show b ≤ a - 1 by omega); omega
theorem Bp_two (k : Nat) : Bp k = 2 ^ (32 * k) := by
  unfold Bp
  rw [show 4294967296 = 2 ^ 32 from rfl, Nat.pow_mul]

/-- How two numbers compare, as an int. -/
def cmpI (a b : Nat) : Int := if a < b then -1 else if b < a then 1 else 0
theorem cmpI_lt {a b : Nat} (h : a < b) : cmpI a b = -1 := by unfold cmpI; rw [if_pos h]
theorem cmpI_gt {a b : Nat} (h : b < a) : cmpI a b = 1 := by unfold cmpI; rw [if_neg (by omega), if_pos h]
theorem cmpI_eq {a b : Nat} (h : a = b) : cmpI a b = 0 := by unfold cmpI; rw [if_neg (by omega), if_neg (by omega)]
theorem cmpI_bd (a b : Nat) : -1 ≤ cmpI a b ∧ cmpI a b ≤ 1 := by unfold cmpI; repeat' split <;> omega
theorem norm_lt_len {xs ys : List Nat} (hx : Small xs) (ny : Norm ys) (h : xs.length < ys.length) : val xs < val ys := by
  have h1 := val_lt hx
  have h2 := norm_ge ny (by omega)
  have h3 := Bp_le (a := xs.length) (b := ys.length - 1) (by omega)
  omega
/-- A digit and its carry. -/
theorem carry_eq (S b : Nat) : S % 4294967296 * b + S / 4294967296 * (b * 4294967296) = S * b := by
  have h : S = S % 4294967296 + S / 4294967296 * 4294967296 := by omega
  have e : S / 4294967296 * (b * 4294967296) = S / 4294967296 * 4294967296 * b := by rw [Nat.mul_assoc, Nat.mul_comm b]
  rw [e, ← Nat.add_mul, ← h]
/-- A digit and its borrow. -/
theorem borrow_eq {X lx ly c d b : Nat} (h : X + ly + c = 4294967296 + lx) (hd : d + X / 4294967296 = 1) : X % 4294967296 * b + ly * b + c * b = lx * b + d * (b * 4294967296) := by
  have e : X % 4294967296 + ly + c = lx + d * 4294967296 := by omega
  have e2 : d * (b * 4294967296) = d * 4294967296 * b := by rw [Nat.mul_assoc, Nat.mul_comm b]
  rw [← Nat.add_mul, ← Nat.add_mul, e, Nat.add_mul, e2]
theorem val_set_end {zs : List Nat} {n l : Nat} (hz : zs.length = l + 1) : val (zs.set l n) = pre zs l + n * Bp l := by
  have e1 : val (zs.set l n) = pre (zs.set l n) (l + 1) := by unfold val; rw [List.length_set, hz]
  rw [e1, pre_succ, pre_set_lt _ _ _ _ (Nat.le_refl _) (by omega), lim_set _ _ _ _ (by omega), if_pos rfl]
theorem add_end {zs ps qs : List Nat} {n l : Nat} (hz : zs.length = l + 1) (hp : ps.length ≤ l) (hq : qs.length ≤ l) (h : pre zs l + n * Bp l = pre ps l + pre qs l) : val (zs.set l n) = val ps + val qs := by
  rw [val_set_end hz, h, pre_len hp, pre_len hq]
/-- The number from limb k on. -/
theorem val_drop_zero (xs : List Nat) : val (xs.drop 0) = val xs := by rw [List.drop_zero]
theorem pre_cons_up (xs : List Nat) (k n : Nat) : pre (xs.drop k) (n + 1) = lim xs k + 4294967296 * pre (xs.drop (k + 1)) n := by
  induction n with
  | zero => rw [pre_succ, pre_zero, pre_zero, lim_drop, Bp_zero]; simp
  | succ n ih =>
    rw [pre_succ, ih, pre_succ (xs.drop (k + 1)), lim_drop, lim_drop, Nat.mul_add, Bp_succ, show k + (n + 1) = k + 1 + n by omega, Nat.add_assoc]
    congr 2
    rw [Nat.mul_comm (Bp n), Nat.mul_left_comm]
theorem val_drop_step (xs : List Nat) (k : Nat) : val (xs.drop k) = lim xs k + 4294967296 * val (xs.drop (k + 1)) := by
  have h1 : pre (xs.drop k) (xs.length + 1) = val (xs.drop k) := pre_len (by simp; omega)
  have h2 : pre (xs.drop (k + 1)) xs.length = val (xs.drop (k + 1)) := pre_len (by simp)
  rw [← h1, ← h2, pre_cons_up]
theorem val_drop_end {xs : List Nat} {k : Nat} (h : xs.length ≤ k) : val (xs.drop k) = 0 := by rw [List.drop_eq_nil_of_le h]; rfl
theorem val_split (xs : List Nat) (k : Nat) : val xs = pre xs k + Bp k * val (xs.drop k) := by
  induction k with
  | zero => rw [List.drop_zero, pre_zero, Bp_zero]; omega
  | succ k ih =>
    rw [ih, val_drop_step, pre_succ, Bp_succ, Nat.mul_add, Nat.add_assoc]
    congr 1
    rw [Nat.mul_comm (Bp k) (lim xs k), Nat.mul_assoc]
theorem val_drop_set (zs : List Nat) (k q : Nat) (h : k < zs.length) : val ((zs.set k q).drop k) = q + 4294967296 * val (zs.drop (k + 1)) := by
  rw [val_drop_step, lim_set _ _ _ _ h, if_pos rfl]
  congr 3
  rw [List.drop_set, if_pos (by omega)]
/-- One step of long division by one limb. -/
theorem over_step (Z x n lx : Nat) : lx + 4294967296 * (Z * x + n) = ((n * 4294967296 + lx) / x + 4294967296 * Z) * x + (n * 4294967296 + lx) % x := by
  have h := Nat.div_add_mod (n * 4294967296 + lx) x
  have h2 : x * ((n * 4294967296 + lx) / x) = (n * 4294967296 + lx) / x * x := Nat.mul_comm _ _
  rw [Nat.add_mul, Nat.mul_add, Nat.mul_assoc]
  omega
theorem over_fits {x n lx : Nat} (hn : n < x) (hl : lx < 4294967296) : (n * 4294967296 + lx) / x < 4294967296 := by
  apply Nat.div_lt_of_lt_mul
  have : (n + 1) * 4294967296 ≤ x * 4294967296 := Nat.mul_le_mul_right _ hn
  omega
/-- The bits of a row, by its highest limb. -/
theorem bits_end {xs : List Nat} (hs : Small xs) (hl : 0 < xs.length) {m : Nat} (hm : 1 ≤ m) (h1 : 2 ^ (m - 1) ≤ lim xs (xs.length - 1)) (h2 : lim xs (xs.length - 1) < 2 ^ m) : IsBits (val xs) (32 * (xs.length - 1) + m) := by
  have e : val xs = pre xs (xs.length - 1) + lim xs (xs.length - 1) * Bp (xs.length - 1) := by
    rw [← pre_succ, show xs.length - 1 + 1 = xs.length by omega]; rfl
  have h3 := pre_lt hs (xs.length - 1)
  have h4 := Bp_two (xs.length - 1)
  refine Or.inr ⟨by omega, ?_, ?_⟩
  · rw [show 32 * (xs.length - 1) + m - 1 = m - 1 + 32 * (xs.length - 1) by omega, Nat.pow_add, ← h4, e]
    have := Nat.mul_le_mul_right (Bp (xs.length - 1)) h1
    omega
  · rw [show 32 * (xs.length - 1) + m = m + 32 * (xs.length - 1) by omega, Nat.pow_add, ← h4, e]
    have := Nat.mul_le_mul_right (Bp (xs.length - 1)) (show lim xs (xs.length - 1) + 1 ≤ 2 ^ m by omega)
    rw [Nat.add_mul] at this
    omega
/-- Halved once more. -/
theorem half_more (t m : Nat) : t / 2 ^ m / 2 = t / 2 ^ (m + 1) := by rw [Nat.div_div_eq_div_mul, Nat.pow_succ]
theorem half_pos {t m : Nat} (h : 0 < t / 2 ^ m) : 2 ^ m ≤ t := by
  rcases Nat.lt_or_ge t (2 ^ m) with c | c
  · rw [Nat.div_eq_of_lt c] at h; omega
  · exact c
theorem half_zero {t m : Nat} (h : t / 2 ^ m = 0) : t < 2 ^ m := by
  rcases Nat.lt_or_ge t (2 ^ m) with c | c
  · exact c
  · have := Nat.div_pos c (Nat.pow_pos (by omega)); omega
theorem half_le {t m : Nat} (ht : t < 4294967296) (h : 0 < m → 2 ^ (m - 1) ≤ t) : m ≤ 32 := by
  rcases Nat.lt_or_ge 32 m with c | c
  · have h1 := h (by omega)
    have h2 := Nat.pow_le_pow_right (n := 2) (by omega) (show 32 ≤ m - 1 by omega)
    omega
  · exact c
theorem mul_fits {a b : Nat} (ha : a < 4294967296) (hb : b < 4294967296) : a * b ≤ 18446744065119617025 := Nat.mul_le_mul (show a ≤ 4294967295 by omega) (show b ≤ 4294967295 by omega)
/-- One digit of a product by one limb. -/
theorem times_step {Z c b P x l : Nat} (h : Z + c * b = P * x) : Z + (c + l * x) % 4294967296 * b + (c + l * x) / 4294967296 * (b * 4294967296) = (P + l * b) * x := by
  have h1 := carry_eq (c + l * x) b
  rw [Nat.add_mul] at h1 ⊢
  have h2 : l * x * b = l * b * x := by rw [Nat.mul_assoc, Nat.mul_comm x, ← Nat.mul_assoc]
  omega
/-- A power of 2 below a limb's size. -/
theorem pow_limb {r : Nat} (hr : r < 32) : 2 ^ r ≤ 2147483648 ∧ 0 < 2 ^ r ∧ 4294967296 = 2 ^ r * 2 ^ (32 - r) := by
  refine ⟨?_, Nat.pow_pos (by omega), ?_⟩
  · have := Nat.pow_le_pow_right (n := 2) (by omega) (show r ≤ 31 by omega)
    omega
  · rw [← Nat.pow_add, show r + (32 - r) = 32 by omega]
theorem low_mul {x r : Nat} (hr : r < 32) : x * 2 ^ r % 4294967296 = (x % 2 ^ (32 - r)) * 2 ^ r := by
  have h := (pow_limb hr).2.2
  rw [Nat.mul_comm x, Nat.mul_comm _ (2 ^ r)]
  rw [h]
  exact Nat.mul_mod_mul_left _ _ _
theorem low_or {x r c : Nat} (hr : r < 32) (hc : c < 2 ^ r) : c ||| x * 2 ^ r % 4294967296 = c + x * 2 ^ r % 4294967296 := by
  rw [low_mul hr, Nat.or_comm, Nat.add_comm]
  have := Nat.shiftLeft_add_eq_or_of_lt hc (x % 2 ^ (32 - r))
  rw [Nat.shiftLeft_eq] at this
  exact this.symm
theorem low_fits {x r c : Nat} (hr : r < 32) (hc : c < 2 ^ r) : c + x * 2 ^ r % 4294967296 < 4294967296 := by
  rw [low_mul hr]
  have h := (pow_limb hr).2.2
  have h1 : x % 2 ^ (32 - r) < 2 ^ (32 - r) := Nat.mod_lt _ (Nat.pow_pos (by omega))
  have h2 : (x % 2 ^ (32 - r) + 1) * 2 ^ r ≤ 2 ^ (32 - r) * 2 ^ r := Nat.mul_le_mul_right _ h1
  rw [Nat.add_mul, Nat.mul_comm (2 ^ (32 - r))] at h2
  omega
theorem high_fits {x r : Nat} (hr : r < 32) (hx : x < 4294967296) : x * 2 ^ r / 4294967296 < 2 ^ r := by
  apply Nat.div_lt_of_lt_mul
  exact Nat.mul_lt_mul_of_pos_right hx (pow_limb hr).2.1
/-- One limb of a shift to the left. -/
theorem left_step {Z c P x p bk bq b : Nat} (hb : b = bq * bk) (h : Z + c * b = P * p * bq) : Z + (c + x * p % 4294967296) * b + x * p / 4294967296 * (b * 4294967296) = (P + x * bk) * p * bq := by
  have h1 := carry_eq (x * p) b
  rw [Nat.add_mul, Nat.add_mul P, Nat.add_mul (P * p)]
  have h2 : x * p * b = x * bk * p * bq := by
    rw [hb, Nat.mul_assoc x bk, Nat.mul_comm bk p, ← Nat.mul_assoc x p, Nat.mul_assoc (x * p), Nat.mul_comm bk bq]
  omega
/-- One limb of a shift to the right. -/
theorem right_step {d h T p m : Nat} (hp : 0 < p) (hB : 4294967296 = p * m) (hd : d < 4294967296) (hT : T % 4294967296 = h) : (d + 4294967296 * T) / p = (d + h * 4294967296) / p % 4294967296 + 4294967296 * (T / p) := by
  have e1 : h % p = T % p := by
    rw [← hT, hB]
    exact Nat.mod_mul_right_mod T p m
  have f : ∀ u : Nat, (d + 4294967296 * u) / p = (d + 4294967296 * (u % p)) / p + 4294967296 * (u / p) := by
    intro u
    have h1 := Nat.div_add_mod u p
    have h2 : d + 4294967296 * u = d + 4294967296 * (u % p) + p * (4294967296 * (u / p)) := by
      have h3 : 4294967296 * u = 4294967296 * (p * (u / p) + u % p) := by rw [h1]
      rw [h3, Nat.mul_add, Nat.mul_left_comm]
      omega
    rw [h2, Nat.add_mul_div_left _ _ hp]
  have h4 : (d + 4294967296 * (T % p)) / p < 4294967296 := by
    apply Nat.div_lt_of_lt_mul
    have h5 := Nat.mod_lt T hp
    have h6 : 4294967296 * (T % p + 1) ≤ 4294967296 * p := Nat.mul_le_mul_left _ h5
    rw [Nat.mul_comm p]
    omega
  rw [f T, Nat.mul_comm h, f h, e1, Nat.add_mul_mod_self_left, Nat.mod_eq_of_lt h4]
theorem val_mod (xs : List Nat) (hs : Small xs) (k : Nat) : val (xs.drop k) % 4294967296 = lim xs k := by
  rw [val_drop_step, Nat.add_mul_mod_self_left, Nat.mod_eq_of_lt (hs k)]
/-- A row shifted limb by limb. -/
theorem right_end {zs ds : List Nat} (hs : Small ds) {r : Nat} (hr : r < 32) (hl : zs.length = ds.length) (h : ∀ i, i < ds.length → lim zs i = (lim ds i + lim ds (i + 1) * 4294967296) / 2 ^ r % 4294967296) : val zs = val ds / 2 ^ r := by
  have key : ∀ j, j ≤ ds.length → val (zs.drop (ds.length - j)) = val (ds.drop (ds.length - j)) / 2 ^ r := by
    intro j
    induction j with
    | zero => intro _; rw [Nat.sub_zero, val_drop_end (by omega), val_drop_end (by omega), Nat.zero_div]
    | succ j ih =>
      intro hj
      have e : ds.length - (j + 1) + 1 = ds.length - j := by omega
      rw [val_drop_step zs, val_drop_step ds, e, ih (by omega), h _ (by omega), e]
      exact (right_step (pow_limb hr).2.1 (pow_limb hr).2.2 (hs _) (val_mod ds hs _)).symm
  have := key ds.length (Nat.le_refl _)
  rwa [Nat.sub_self, List.drop_zero, List.drop_zero] at this
theorem val_drop_div {xs : List Nat} (hs : Small xs) (q : Nat) : val (xs.drop q) = val xs / Bp q := by
  rw [val_split xs q, Nat.add_mul_div_left _ _ (Bp_pos q), Nat.div_eq_of_lt (pre_lt hs q), Nat.zero_add]
theorem pow_le_Bp {m k : Nat} (h : m ≤ 32 * k) : 2 ^ m ≤ Bp k := by rw [Bp_two]; exact Nat.pow_le_pow_right (by omega) h
#print axioms norm_inj
end Go.Proofs.Ytkhcanhdbalihaa.Lb
