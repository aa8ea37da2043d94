/-
  Plain mathematics of decimal digits, with no program in it.
-/
import Derived.Test.YtfjebgjhhojphaaNum
namespace Go.Proofs.Ytfjebgjhhojphaa.Lb

/-- Digit number i of N, the lowest is number 0. -/
def dig (N i : Nat) : Nat := N / 10 ^ i % 10
/-- The signs of the lowest n digits, the highest of them first. -/
def sgn (N : Nat) : Nat → List Nat
  | 0 => []
  | k + 1 => (48 + dig N k) :: sgn N k
/-- N has n digits. -/
def IsLen (N n : Nat) : Prop := 1 ≤ n ∧ N < 10 ^ n ∧ (n = 1 ∨ 10 ^ (n - 1) ≤ N)
/-- The number of signs. -/
def ofS (l : List Nat) : Nat := l.foldl (fun n c => 10 * n + (c - 48)) 0
def isD (c : Nat) : Bool := decide (48 ≤ c) && decide (c ≤ 57)
def okD (l : List Nat) : Bool := l.all isD
/-- What a text tells: is it a number, and which. -/
def okS (l : List Nat) : Bool := decide (1 ≤ l.length) && decide (l.length ≤ 4096) && okD l
def numS (l : List Nat) : Nat := if okS l then ofS l else 0

theorem dig_lt (N i : Nat) : dig N i < 10 := Nat.mod_lt _ (by omega)
theorem isD_iff (c : Nat) : isD c = true ↔ 48 ≤ c ∧ c ≤ 57 := by simp [isD]
theorem okD_nil : okD [] = true := rfl
theorem okD_snoc (l : List Nat) (c : Nat) : okD (l ++ [c]) = (okD l && isD c) := by simp [okD]
theorem okD_append (l m : List Nat) : okD (l ++ m) = (okD l && okD m) := by simp [okD]
theorem okD_cons (c : Nat) (l : List Nat) : okD (c :: l) = (isD c && okD l) := by simp [okD]
theorem fold_up (l : List Nat) (a : Nat) : l.foldl (fun n c => 10 * n + (c - 48)) a = a * 10 ^ l.length + ofS l := by
  unfold ofS
  induction l generalizing a with
  | nil => simp
  | cons c l ih =>
    rw [List.foldl_cons, List.foldl_cons, ih, ih (10 * 0 + (c - 48)), List.length_cons, Nat.pow_succ, Nat.add_mul, Nat.add_assoc]
    congr 1
    · rw [Nat.mul_comm (10 ^ l.length) 10, ← Nat.mul_assoc, Nat.mul_comm 10 a]
    · simp
theorem ofS_nil : ofS [] = 0 := rfl
theorem ofS_cons (c : Nat) (l : List Nat) : ofS (c :: l) = (c - 48) * 10 ^ l.length + ofS l := by
  have := fold_up l (10 * 0 + (c - 48))
  unfold ofS at *
  rw [List.foldl_cons, this]
  simp
theorem ofS_append (l m : List Nat) : ofS (l ++ m) = ofS l * 10 ^ m.length + ofS m := by
  have := fold_up m (ofS l)
  unfold ofS at *
  rw [List.foldl_append, this]
theorem ofS_snoc (l : List Nat) (c : Nat) : ofS (l ++ [c]) = ofS l * 10 + (c - 48) := by
  rw [ofS_append, ofS_cons, ofS_nil]; simp
theorem ofS_lt {l : List Nat} (h : okD l = true) : ofS l < 10 ^ l.length := by
  induction l with
  | nil => simp [ofS_nil]
  | cons c l ih =>
    rw [okD_cons, Bool.and_eq_true, isD_iff] at h
    have h1 := ih h.2
    have h2 : (c - 48) * 10 ^ l.length ≤ 9 * 10 ^ l.length := Nat.mul_le_mul_right _ (by omega)
    rw [ofS_cons, List.length_cons, Nat.pow_succ]
    omega
theorem sgn_length (N n : Nat) : (sgn N n).length = n := by
  induction n with
  | zero => rfl
  | succ n ih => simp [sgn, ih]
theorem sgn_ok (N n : Nat) : okD (sgn N n) = true := by
  induction n with
  | zero => rfl
  | succ n ih =>
    have := dig_lt N n
    rw [sgn, okD_cons, ih, Bool.and_true, isD_iff]; omega
theorem mod_more (N n : Nat) : N % 10 ^ (n + 1) = dig N n * 10 ^ n + N % 10 ^ n := by
  rw [Nat.mod_pow_succ, Nat.mul_comm, Nat.add_comm]; rfl
theorem ofS_sgn (N n : Nat) : ofS (sgn N n) = N % 10 ^ n := by
  induction n with
  | zero => simp [sgn, ofS_nil, Nat.mod_one]
  | succ n ih => rw [sgn, ofS_cons, ih, sgn_length, mod_more]; simp
theorem lim_sgn (N : Nat) {n i : Nat} (h : i < n) : lim (sgn N n) i = 48 + dig N (n - 1 - i) := by
  induction n generalizing i with
  | zero => omega
  | succ n ih =>
    cases i with
    | zero => simp [lim, sgn]
    | succ i =>
      have := ih (i := i) (by omega)
      simp only [lim, sgn] at this ⊢
      rw [List.getD_cons_succ, this]
      congr 2; omega
theorem isLen_inj {N a b : Nat} (ha : IsLen N a) (hb : IsLen N b) : a = b := by
  obtain ⟨a1, a2, a3⟩ := ha
  obtain ⟨b1, b2, b3⟩ := hb
  rcases Nat.lt_trichotomy a b with h | h | h
  · exfalso
    rcases b3 with b3 | b3
    · omega
    · have := Nat.pow_le_pow_right (n := 10) (by omega) (show a ≤ b - 1 by omega)
      omega
  · exact h
  · exfalso
    rcases a3 with a3 | a3
    · omega
    · have := Nat.pow_le_pow_right (n := 10) (by omega) (show b ≤ a - 1 by omega)
      omega
theorem isLen_le {N n k : Nat} (h : IsLen N n) (hk : 1 ≤ k) (hN : N < 10 ^ k) : n ≤ k := by
  obtain ⟨a1, a2, a3⟩ := h
  rcases Nat.lt_or_ge k n with c | c
  · exfalso
    rcases a3 with a3 | a3
    · omega
    · have := Nat.pow_le_pow_right (n := 10) (by omega) (show k ≤ n - 1 by omega)
      omega
  · exact c
theorem isLen_zero : IsLen 0 1 := ⟨by omega, by omega, Or.inl rfl⟩
/-- The noughts above are left out. -/
theorem lt_down {N k : Nat} (h : N < 10 ^ (k + 1)) (hd : dig N k = 0) : N < 10 ^ k := by
  have := mod_more N k
  rw [hd, Nat.mod_eq_of_lt h] at this
  rw [this, Nat.zero_mul, Nat.zero_add]
  exact Nat.mod_lt _ (Nat.pow_pos (by omega))
theorem ge_of_dig {N k : Nat} (hd : dig N k ≠ 0) : 10 ^ k ≤ N := by
  rcases Nat.lt_or_ge N (10 ^ k) with c | c
  · exact absurd (by unfold dig; rw [Nat.div_eq_of_lt c]) hd
  · exact c
theorem isLen_of {N n : Nat} (hn : 0 < n) (h : N < 10 ^ n) (hd : dig N (n - 1) ≠ 0) : IsLen N n := ⟨hn, h, Or.inr (ge_of_dig hd)⟩
/-- The digits of a group. -/
theorem dig_group (N g j : Nat) (hj : j < 9) : N / 10 ^ g % 1000000000 / 10 ^ j % 10 = dig N (g + j) := by
  have e : 1000000000 = 10 ^ j * 10 ^ (9 - j) := by rw [← Nat.pow_add, show j + (9 - j) = 9 by omega]
  have d : (10 : Nat) ∣ 10 ^ (9 - j) := ⟨10 ^ (9 - j - 1), by rw [Nat.mul_comm, ← Nat.pow_succ]; congr 1; omega⟩
  rw [e, Nat.mod_mul_right_div_self, Nat.mod_mod_of_dvd _ d, Nat.div_div_eq_div_mul, ← Nat.pow_add]
  rfl
theorem div_more (N k : Nat) : N / 10 ^ k / 10 = N / 10 ^ (k + 1) := by rw [Nat.div_div_eq_div_mul, Nat.pow_succ]
theorem div_group (N g : Nat) : N / 10 ^ g / 1000000000 = N / 10 ^ (g + 9) := by rw [Nat.div_div_eq_div_mul, Nat.pow_add]
theorem lt_of_div {N k : Nat} (h : N / 10 ^ k = 0) : N < 10 ^ k := by
  rcases Nat.lt_or_ge N (10 ^ k) with c | c
  · exact c
  · have := Nat.div_pos c (Nat.pow_pos (n := k) (by omega : 0 < 10))
    omega
theorem ge_of_div {N k : Nat} (h : N / 10 ^ k ≠ 0) : 10 ^ k ≤ N := by
  rcases Nat.lt_or_ge N (10 ^ k) with c | c
  · exact absurd (Nat.div_eq_of_lt c) h
  · exact c

/-- Order of numbers is the order of their digits. -/
theorem lt_sgn (N M n : Nat) : (sgn N n < sgn M n) ↔ N % 10 ^ n < M % 10 ^ n := by
  induction n with
  | zero => simp [sgn, Nat.mod_one]
  | succ n ih =>
    have h1 := Nat.mod_lt N (show 0 < 10 ^ n from Nat.pow_pos (by omega))
    have h2 := Nat.mod_lt M (show 0 < 10 ^ n from Nat.pow_pos (by omega))
    have h3 := Nat.mul_comm
    rw [sgn, sgn, List.cons_lt_cons_iff, ih, mod_more, mod_more]
    rcases Nat.lt_trichotomy (dig N n) (dig M n) with h | h | h
    · have : (dig N n + 1) * 10 ^ n ≤ dig M n * 10 ^ n := Nat.mul_le_mul_right _ h
      rw [Nat.add_mul] at this
      constructor
      · intro _; omega
      · intro _; left; omega
    · rw [h]
      constructor
      · rintro (c | c) <;> omega
      · intro c; right; omega
    · have : (dig M n + 1) * 10 ^ n ≤ dig N n * 10 ^ n := Nat.mul_le_mul_right _ h
      rw [Nat.add_mul] at this
      constructor
      · rintro (c | c) <;> omega
      · intro c; omega
theorem sgn_inj {N M n m : Nat} (hN : IsLen N n) (hM : IsLen M m) (h : sgn N n = sgn M m) : N = M := by
  have e : n = m := by rw [← sgn_length N n, h, sgn_length]
  subst e
  have := congrArg ofS h
  rw [ofS_sgn, ofS_sgn, Nat.mod_eq_of_lt hN.2.1, Nat.mod_eq_of_lt hM.2.1] at this
  exact this
theorem order_sgn {N M n m : Nat} (hN : IsLen N n) (hM : IsLen M m) : N < M ↔ n < m ∨ (n = m ∧ sgn N n < sgn M m) := by
  rcases Nat.lt_trichotomy n m with h | h | h
  · have : N < M := by
      rcases hM.2.2 with c | c
      · have := hN.1; omega
      · exact Nat.lt_of_lt_of_le hN.2.1 (Nat.le_trans (Nat.pow_le_pow_right (by omega) (show n ≤ m - 1 by omega)) c)
    simp [this, h]
  · subst h
    rw [lt_sgn, Nat.mod_eq_of_lt hN.2.1, Nat.mod_eq_of_lt hM.2.1]
    simp
  · have : M < N := by
      rcases hN.2.2 with c | c
      · have := hM.1; omega
      · exact Nat.lt_of_lt_of_le hM.2.1 (Nat.le_trans (Nat.pow_le_pow_right (by omega) (show m ≤ n - 1 by omega)) c)
    constructor
    · intro c; omega
    · rintro (c | c) <;> omega
/-- No nought ahead. -/
theorem no_nought {N n : Nat} (hN : IsLen N n) (h : N ≠ 0) : dig N (n - 1) ≠ 0 := by
  intro hd
  have h1 : N < 10 ^ (n - 1) := lt_down (k := n - 1) (by rw [Nat.sub_add_cancel hN.1]; exact hN.2.1) hd
  rcases hN.2.2 with c | c
  · subst c; simp at h1; omega
  · omega

theorem okS_of {l : List Nat} (h1 : 1 ≤ l.length) (h2 : l.length ≤ 4096) (h3 : okD l = true) : okS l = true := by simp [okS, h1, h2, h3]
theorem numS_of {l : List Nat} (h : okS l = true) : numS l = ofS l := by simp [numS, h]
theorem numS_no {l : List Nat} (h : okS l = false) : numS l = 0 := by simp [numS, h]
theorem ofS_zeros (k : Nat) (l : List Nat) : ofS (List.replicate k 48 ++ l) = ofS l := by
  rw [ofS_append]
  have : ofS (List.replicate k 48) = 0 := by
    induction k with
    | zero => rfl
    | succ k ih => rw [List.replicate_succ, ofS_cons, ih]; simp
  rw [this]; simp
theorem okD_zeros (k : Nat) : okD (List.replicate k 48) = true := by simp [okD, isD]
/-- 20 limbs have at most 200 digits. -/
theorem twenty_lt {N : Nat} (h : N < Bp 20) : N < 10 ^ 200 := by
  have : Bp 20 ≤ 10 ^ 200 := by decide
  omega
#print axioms order_sgn
#print axioms dig_group
end Go.Proofs.Ytfjebgjhhojphaa.Lb
