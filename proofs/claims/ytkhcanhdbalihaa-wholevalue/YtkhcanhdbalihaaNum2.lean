/-
  More plain mathematics of rows: products and quotients, limb by limb and bit by bit.
-/
import Derived.Test.YtkhcanhdbalihaaNum
namespace Go.Proofs.Ytkhcanhdbalihaa.Lb

/-- One step of a product's row. -/
theorem mul_step {Z c b P0 l x Y bk y : Nat} (bb : b = bk * Y) (h : P0 + c * b = Z) : P0 + (c + x * y + l) % 4294967296 * b + (c + x * y + l) / 4294967296 * (b * 4294967296) = Z + l * b + x * (y * Y) * bk := by
  have h1 := carry_eq (c + x * y + l) b
  rw [Nat.add_mul, Nat.add_mul] at h1
  have h2 : x * y * b = x * (y * Y) * bk := by
    rw [bb, Nat.mul_comm bk Y, ← Nat.mul_assoc, Nat.mul_assoc x y Y]
  omega

theorem no_carry {U n b S : Nat} (h : U + n * b = S) (hS : S < b) : U = S := by
  rcases Nat.eq_zero_or_pos n with e | e
  · subst e; omega
  · have : 1 * b ≤ n * b := Nat.mul_le_mul_right _ e
    omega
/-- A round of a product, whole. -/
theorem mul_round {us zs xs ys : List Nat} {k lb n : Nat} (hx : Small xs) (hy : Small ys) (hl : ys.length = lb) (hz : pre zs (k + lb) = pre xs k * val ys) (h0 : lim zs (k + lb) = 0)
    (h : pre us (k + (lb + 1)) + n * Bp (k + (lb + 1)) = pre zs (k + (lb + 1)) + lim xs k * pre ys (lb + 1) * Bp k) : pre us (k + 1 + lb) = pre xs (k + 1) * val ys := by
  have e1 : pre zs (k + (lb + 1)) = pre xs k * val ys := by
    rw [show k + (lb + 1) = k + lb + 1 by omega, pre_succ, h0, hz, Nat.zero_mul, Nat.add_zero]
  have e2 : pre ys (lb + 1) = val ys := pre_len (by omega)
  have e3 : pre xs k * val ys + lim xs k * val ys * Bp k = pre xs (k + 1) * val ys := by
    rw [pre_succ, Nat.add_mul, Nat.mul_assoc, Nat.mul_assoc, Nat.mul_comm (val ys)]
  rw [e1, e2, e3] at h
  have h1 := pre_lt hx (k + 1)
  have h2 := val_lt hy
  rw [hl] at h2
  have h3 : pre xs (k + 1) * val ys < Bp (k + 1 + lb) := by
    rw [Bp_add]
    exact Nat.mul_lt_mul_of_lt_of_le h1 (Nat.le_of_lt h2) (Bp_pos lb)
  rw [show k + (lb + 1) = k + 1 + lb by omega] at h
  exact no_carry h h3

/-- Bit i of a number, by the limb in which it lies. -/
theorem bit_limb {l R r : Nat} (hr : r < 32) : (l + 4294967296 * R) / 2 ^ r % 2 = l / 2 ^ r % 2 := by
  obtain ⟨_, h2, h3⟩ := pow_limb hr
  rw [h3, Nat.mul_assoc, Nat.add_mul_div_left _ _ h2]
  have e : 2 ^ (32 - r) = 2 * 2 ^ (31 - r) := by rw [show 32 - r = 31 - r + 1 by omega, Nat.pow_succ, Nat.mul_comm]
  rw [e, Nat.mul_assoc, Nat.add_mul_mod_self_left]
theorem bit_val {xs : List Nat} (hs : Small xs) {q r : Nat} (hr : r < 32) : val xs / 2 ^ (32 * q + r) % 2 = lim xs q / 2 ^ r % 2 := by
  rw [Nat.pow_add, ← Bp_two, ← Nat.div_div_eq_div_mul, ← val_drop_div hs, val_drop_step]
  exact bit_limb hr
/-- A bit that is not set, set. -/
theorem or_bit {a r : Nat} (h : a / 2 ^ r % 2 = 0) : a ||| 2 ^ r = a + 2 ^ r := by
  have hp : 0 < 2 ^ r := Nat.pow_pos (by omega)
  have h1 := Nat.div_add_mod a (2 ^ r)
  have hl : a % 2 ^ r < 2 ^ r := Nat.mod_lt _ hp
  obtain ⟨H, hH⟩ : ∃ H, a / 2 ^ r = 2 * H := ⟨a / 2 ^ r / 2, by omega⟩
  have e2 : a = H <<< (r + 1) + a % 2 ^ r := by
    rw [Nat.shiftLeft_eq, Nat.pow_succ, Nat.mul_comm (2 ^ r) 2, ← Nat.mul_assoc, Nat.mul_comm H 2, Nat.mul_comm (2 * H), ← hH]
    exact h1.symm
  have hlt : a % 2 ^ r < 2 ^ (r + 1) := by rw [Nat.pow_succ]; omega
  have e3 : a = H <<< (r + 1) ||| a % 2 ^ r := by rw [← Nat.shiftLeft_add_eq_or_of_lt hlt]; exact e2
  have hlt2 : 2 ^ r + a % 2 ^ r < 2 ^ (r + 1) := by rw [Nat.pow_succ]; omega
  have e4 : H <<< (r + 1) + (2 ^ r + a % 2 ^ r) = H <<< (r + 1) ||| (2 ^ r ||| a % 2 ^ r) := by
    have e7 := Nat.shiftLeft_add_eq_or_of_lt hl 1
    rw [Nat.one_shiftLeft] at e7
    rw [Nat.shiftLeft_add_eq_or_of_lt hlt2, e7]
  have e5 : a + 2 ^ r = H <<< (r + 1) + (2 ^ r + a % 2 ^ r) := by omega
  rw [e5, e4]
  have e6 : a ||| 2 ^ r = (H <<< (r + 1) ||| a % 2 ^ r) ||| 2 ^ r := by rw [← e3]
  rw [e6, Nat.or_assoc, Nat.or_comm (a % 2 ^ r)]
theorem val_set_add {zs : List Nat} {q d : Nat} (hq : q < zs.length) : val (zs.set q (lim zs q + d)) = val zs + d * Bp q := by
  rw [val_split zs q, val_split (zs.set q (lim zs q + d)) q, pre_set_lt _ _ _ _ (Nat.le_refl _) hq, val_drop_set _ _ _ hq, val_drop_step zs q, Nat.mul_add (Bp q), Nat.mul_add (Bp q), Nat.mul_add (Bp q), Nat.mul_comm d]
  omega
/-- One bit of a long division. -/
theorem bit_step {A D j : Nat} (hD : 0 < D) : A / 2 ^ j = 2 * (A / 2 ^ (j + 1)) + A / 2 ^ j % 2 ∧
    (2 * (A / 2 ^ (j + 1) % D) + A / 2 ^ j % 2 < D → A / 2 ^ j % D = 2 * (A / 2 ^ (j + 1) % D) + A / 2 ^ j % 2 ∧ A / 2 ^ j / D = 2 * (A / 2 ^ (j + 1) / D)) ∧
    (D ≤ 2 * (A / 2 ^ (j + 1) % D) + A / 2 ^ j % 2 → A / 2 ^ j % D = 2 * (A / 2 ^ (j + 1) % D) + A / 2 ^ j % 2 - D ∧ A / 2 ^ j / D = 2 * (A / 2 ^ (j + 1) / D) + 1) := by
  have h0 : A / 2 ^ j = 2 * (A / 2 ^ (j + 1)) + A / 2 ^ j % 2 := by rw [← half_more]; omega
  have h1 := Nat.div_add_mod (A / 2 ^ (j + 1)) D
  have h2 := Nat.mod_lt (A / 2 ^ (j + 1)) hD
  have hb : A / 2 ^ j % 2 ≤ 1 := by omega
  generalize A / 2 ^ j % 2 = b at *
  generalize A / 2 ^ j = X at *
  generalize A / 2 ^ (j + 1) = Y at *
  have h3 : X = D * (2 * (Y / D)) + (2 * (Y % D) + b) := by
    rw [Nat.mul_left_comm]
    omega
  refine ⟨h0, fun hlt => ?_, fun hge => ?_⟩
  · rw [h3, Nat.mul_add_mod, Nat.mod_eq_of_lt hlt, Nat.mul_add_div hD, Nat.div_eq_of_lt hlt]
    exact ⟨rfl, rfl⟩
  · have h4 : X = D * (2 * (Y / D) + 1) + (2 * (Y % D) + b - D) := by rw [Nat.mul_add]; omega
    have h5 : 2 * (Y % D) + b - D < D := by omega
    rw [h4, Nat.mul_add_mod, Nat.mod_eq_of_lt h5, Nat.mul_add_div hD, Nat.div_eq_of_lt h5]
    exact ⟨rfl, rfl⟩
theorem val_first {xs : List Nat} {k : Nat} (h : val xs < Bp k) : val xs = pre xs k := by
  have h5 := val_split xs k
  rcases Nat.eq_zero_or_pos (val (xs.drop k)) with e | e
  · rw [e, Nat.mul_zero] at h5
    exact h5
  · have h6 : Bp k * 1 ≤ Bp k * val (xs.drop k) := Nat.mul_le_mul_left _ (Nat.succ_le_of_lt e)
    omega
theorem shift_eq (q p : Nat) : q * (p * 2) = 2 * q * p := by rw [Nat.mul_comm p 2, ← Nat.mul_assoc, Nat.mul_comm q 2]
theorem even_bit (M j : Nat) : M * 2 ^ (j + 1) / 2 ^ j % 2 = 0 := by
  rw [Nat.pow_succ, shift_eq, Nat.mul_div_cancel _ (Nat.pow_pos (by omega)), Nat.mul_mod_right]
theorem or_bit_fits {a r : Nat} (ha : a < 4294967296) (hr : r < 32) (h : a / 2 ^ r % 2 = 0) : a + 2 ^ r < 4294967296 := by
  rw [← or_bit h]
  have h1 : a < 2 ^ 32 := by omega
  have h2 : 2 ^ r < 2 ^ 32 := Nat.pow_lt_pow_right (by omega) hr
  have := Nat.or_lt_two_pow h1 h2
  omega
theorem cmpI_neg (a b : Nat) : cmpI b a = -cmpI a b := by
  rcases Nat.lt_trichotomy a b with h | h | h
  · rw [cmpI_lt h, cmpI_gt h]; rfl
  · rw [cmpI_eq h, cmpI_eq h.symm]; rfl
  · rw [cmpI_lt h, cmpI_gt h]
theorem cmpI_add (a b c : Nat) : cmpI (a + c) (b + c) = cmpI a b := by
  rcases Nat.lt_trichotomy a b with h | h | h
  · rw [cmpI_lt h, cmpI_lt (by omega)]
  · rw [cmpI_eq h, cmpI_eq (by omega)]
  · rw [cmpI_gt h, cmpI_gt (by omega)]
theorem cmpI_ge {a b : Nat} (h : b ≤ a) : 0 ≤ cmpI a b := by
  rcases Nat.eq_or_lt_of_le h with e | e
  · rw [cmpI_eq e.symm]; omega
  · rw [cmpI_gt e]; omega
theorem cmpI_le {a b : Nat} (h : a ≤ b) : cmpI a b ≤ 0 := by
  have := cmpI_ge h
  have e := cmpI_neg b a
  omega
theorem bits_le {N n k : Nat} (h : IsBits N n) (hN : N < Bp k) : n ≤ 32 * k := by
  rcases h with ⟨_, h⟩ | ⟨h1, h2, _⟩
  · omega
  · rcases Nat.lt_or_ge (32 * k) n with c | c
    · have h3 : 2 ^ (32 * k) ≤ 2 ^ (n - 1) := Nat.pow_le_pow_right (by omega) (by omega)
      rw [← Bp_two] at h3
      omega
    · exact c

#print axioms mul_step
#print axioms mul_round
end Go.Proofs.Ytkhcanhdbalihaa.Lb
