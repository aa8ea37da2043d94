/-
  Plain mathematics of a division by guessed limbs.
-/
import Derived.Test.YtfmdlbhgohmgbaaNum2
namespace Go.Proofs.Ytfmdlbhgohmgbaa.Lb

/-- A row by its three highest limbs. -/
theorem top_three (ps : List Nat) (n : Nat) (hl : ps.length = n + 3) : val ps = pre ps n + ((lim ps (n + 2) * 4294967296 + lim ps (n + 1)) * 4294967296 + lim ps n) * Bp n := by
  have e : val ps = pre ps (n + 3) := by unfold val; rw [hl]
  rw [e, pre_succ, pre_succ, pre_succ, Bp_succ (n + 1), Bp_succ n, Nat.add_mul, Nat.add_mul, Nat.add_mul]
  have h1 : lim ps (n + 2) * (Bp n * 4294967296 * 4294967296) = lim ps (n + 2) * 4294967296 * 4294967296 * Bp n := by
    rw [Nat.mul_assoc (Bp n), Nat.mul_comm (Bp n), ← Nat.mul_assoc, ← Nat.mul_assoc]
  have h2 : lim ps (n + 1) * (Bp n * 4294967296) = lim ps (n + 1) * 4294967296 * Bp n := by rw [Nat.mul_comm (Bp n), ← Nat.mul_assoc]
  rw [h1, h2]
  omega
theorem top_two (ys : List Nat) (n : Nat) (hl : ys.length = n + 2) : val ys = pre ys n + (lim ys (n + 1) * 4294967296 + lim ys n) * Bp n := by
  have e : val ys = pre ys (n + 2) := by unfold val; rw [hl]
  rw [e, pre_succ, pre_succ, Bp_succ, Nat.add_mul]
  have h2 : lim ys (n + 1) * (Bp n * 4294967296) = lim ys (n + 1) * 4294967296 * Bp n := by rw [Nat.mul_comm (Bp n), ← Nat.mul_assoc]
  rw [h2]
  omega

/-- What the guess's loop keeps: T is no less than the quotient. P = p + U b, D = d + V b; p, d below b. -/
theorem guess_lower {P D p d U V b T : Nat} (hP : P = p + U * b) (hD : D = d + V * b) (hp : p < b) (h : U < T * V) : P < T * D := by
  have h1 : (U + 1) * b ≤ T * V * b := Nat.mul_le_mul_right _ h
  rw [Nat.add_mul] at h1
  rw [hP, hD, Nat.mul_add, ← Nat.mul_assoc]
  have : 0 ≤ T * d := Nat.zero_le _
  omega
/-- At the end: T is the quotient or 1 more. -/
theorem guess_end {P D p d U V b T : Nat} (hP : P = p + U * b) (hD : D = d + V * b) (hd : d < b) (hT : T < 4294967296) (hV : 4294967296 ≤ V) (h : T * V ≤ U) : T * D < P + D := by
  have h1 : T * V * b ≤ U * b := Nat.mul_le_mul_right _ h
  have h2 : T * d ≤ 4294967295 * d := Nat.mul_le_mul_right _ (by omega)
  have h3 : 4294967296 * b ≤ V * b := Nat.mul_le_mul_right _ hV
  rw [hP, hD, Nat.mul_add, ← Nat.mul_assoc]
  omega
/-- The highest limb of what is divided is no greater than the divisor's. -/
theorem guess_top {P D p d u1 u0 v1 v0 b : Nat} (hP : P = p + (u1 * 4294967296 + u0) * 4294967296 * b) (hD : D = d + (v1 * 4294967296 + v0) * b) (hd : d < b) (hv : v0 < 4294967296) (h : P < 4294967296 * D) : u1 ≤ v1 := by
  rcases Nat.lt_or_ge v1 u1 with c | c
  · exfalso
    have h1 : (v1 + 1) * 4294967296 * 4294967296 * b ≤ u1 * 4294967296 * 4294967296 * b := Nat.mul_le_mul_right _ (Nat.mul_le_mul_right _ (Nat.mul_le_mul_right _ c))
    have h2 : (v1 * 4294967296 + v0) * b + b ≤ (v1 + 1) * 4294967296 * b := by
      have : (v1 * 4294967296 + v0 + 1) * b ≤ (v1 + 1) * 4294967296 * b := Nat.mul_le_mul_right _ (by omega)
      rw [Nat.add_mul _ 1] at this
      omega
    have h3 : D < (v1 + 1) * 4294967296 * b := by omega
    have h4 : 4294967296 * D < (v1 + 1) * 4294967296 * 4294967296 * b := by
      have e : (v1 + 1) * 4294967296 * 4294967296 * b = 4294967296 * ((v1 + 1) * 4294967296 * b) := by
        rw [Nat.mul_assoc ((v1 + 1) * 4294967296), Nat.mul_left_comm]
      rw [e]
      exact Nat.mul_lt_mul_of_pos_left h3 (by omega)
    have h5 : u1 * 4294967296 * 4294967296 * b ≤ (u1 * 4294967296 + u0) * 4294967296 * b := Nat.mul_le_mul_right _ (Nat.mul_le_mul_right _ (by omega))
    omega
  · exact c
theorem g_start {P D p d X u0 v1 v0 b : Nat} (hP : P = p + (X * 4294967296 + u0) * b) (hD : D = d + (v1 * 4294967296 + v0) * b) (hp : p < b) (hu : u0 < 4294967296) (hv : 0 < v1) : P < (X / v1 + 1) * D := by
  apply guess_lower hP hD hp
  have h1 : X < (X / v1 + 1) * v1 := by
    have h2 := Nat.div_add_mod X v1
    have h3 := Nat.mod_lt X hv
    rw [Nat.add_mul, Nat.mul_comm]
    omega
  have h4 : (X + 1) * 4294967296 ≤ (X / v1 + 1) * v1 * 4294967296 := Nat.mul_le_mul_right _ h1
  rw [Nat.mul_add, ← Nat.mul_assoc]
  have : 0 ≤ (X / v1 + 1) * v0 := Nat.zero_le _
  omega
theorem g_many {P D T : Nat} (hT : 4294967296 ≤ T) (h : P < 4294967296 * D) : P < T * D := Nat.lt_of_lt_of_le h (Nat.mul_le_mul_right _ hT)
theorem g_less_any {T v1 v0 L X u0 B : Nat} (hX : T * v1 + L = X) (h : L * B + u0 < T * v0) : X * B + u0 < T * (v1 * B + v0) := by
  rw [← hX, Nat.mul_add, ← Nat.mul_assoc, Nat.add_mul]
  omega
theorem g_less {T v1 v0 L X u0 : Nat} (hX : T * v1 + L = X) (h : L * 4294967296 + u0 < T * v0) : X * 4294967296 + u0 < T * (v1 * 4294967296 + v0) := g_less_any hX h
theorem g_not_any {T v1 v0 L X u0 B : Nat} (hX : T * v1 + L = X) (h : T * v0 ≤ L * B + u0) : T * (v1 * B + v0) ≤ X * B + u0 := by
  rw [← hX, Nat.mul_add, ← Nat.mul_assoc, Nat.add_mul]
  omega
theorem g_not {T v1 v0 L X u0 : Nat} (hX : T * v1 + L = X) (h : T * v0 ≤ L * 4294967296 + u0) : T * (v1 * 4294967296 + v0) ≤ X * 4294967296 + u0 := g_not_any hX h
theorem g_far {T v0 L u0 : Nat} (hT : T < 4294967296) (hv : v0 < 4294967296) (hL : 4294967296 ≤ L) : T * v0 ≤ L * 4294967296 + u0 := by
  have := mul_fits hT hv
  omega
theorem g_fits {T v1 L X : Nat} (hX : T * v1 + L = X) (hL : 4294967296 ≤ L) (h : X < v1 * 4294967296 + 4294967296) : T < 4294967296 := by
  rcases Nat.lt_or_ge T 4294967296 with c | c
  · exact c
  · have : 4294967296 * v1 ≤ T * v1 := Nat.mul_le_mul_right _ c
    omega
theorem g_top {X v1 : Nat} (h : X < v1 * 4294967296 + 4294967296) (hv : 2147483648 ≤ v1) : X / v1 ≤ 4294967297 := by
  have h1 : X < 4294967298 * v1 := by omega
  have h2 := (Nat.div_lt_iff_lt_mul (show 0 < v1 by omega)).2 h1
  omega
theorem g_down {T v1 L X : Nat} (hX : T * v1 + L = X) (hT : 0 < T) : (T - 1) * v1 + (L + v1) = X := by
  obtain ⟨t, rfl⟩ : ∃ t, T = t + 1 := ⟨T - 1, by omega⟩
  rw [Nat.add_mul] at hX
  rw [Nat.add_sub_cancel]
  omega
/-- What the taking away leaves, and what the giving back makes of it. -/
theorem div_took {P P1 D T : Nat} (h : P1 + T * D = P) (hlt : P < (T + 1) * D) : P1 < D ∧ P = T * D + P1 := by
  rw [Nat.add_mul] at hlt
  omega
theorem div_gave {P P1 P2 D T M c : Nat} (h : P1 + T * D = P + M) (h2 : P2 + c * M = P1 + D) (hle : T * D < P + D) (h1 : P1 < M) (hP2 : P2 < M) (hDM : D ≤ M) : 0 < T ∧ P2 < D ∧ P = (T - 1) * D + P2 := by
  have hT : 0 < T := by
    rcases Nat.eq_zero_or_pos T with e | e
    · subst e; omega
    · exact e
  obtain ⟨t, rfl⟩ : ∃ t, T = t + 1 := ⟨T - 1, by omega⟩
  rw [Nat.add_mul] at h hle
  rw [Nat.add_sub_cancel]
  have hc : c = 1 := by
    rcases (show c = 0 ∨ c = 1 ∨ 2 ≤ c by omega) with e | e | e
    · subst e; omega
    · exact e
    · have : 2 * M ≤ c * M := Nat.mul_le_mul_right _ e
      omega
  subst hc
  omega
/-- Above what a number needs all limbs are noughts. -/
theorem zero_above {xs : List Nat} {n : Nat} (h : val xs < Bp n) : ∀ i, n ≤ i → lim xs i = 0 := by
  intro i hi
  rcases Nat.eq_zero_or_pos (lim xs i) with e | e
  · exact e
  · exfalso
    have h1 := pre_ge (xs := xs) (k := i) (by omega)
    have h2 := val_split xs (i + 1)
    have h3 := Bp_le hi
    have h4 : 0 ≤ Bp (i + 1) * val (xs.drop (i + 1)) := Nat.zero_le _
    omega
theorem drop_pre (us : List Nat) (j m : Nat) : pre us (j + m) = pre us j + pre (us.drop j) m * Bp j := by
  induction m with
  | zero => rw [pre_zero, Nat.zero_mul]; rfl
  | succ m ih =>
    rw [show j + (m + 1) = j + m + 1 by omega, pre_succ, ih, pre_succ, lim_drop, Nat.add_mul, Bp_add, Nat.mul_assoc, Nat.mul_comm (Bp m)]
    omega
theorem part_pre {us : List Nat} {o m : Nat} (h : o + m ≤ us.length) : val ((us.drop o).take m) = pre (us.drop o) m := by
  unfold val
  rw [List.length_take, List.length_drop, Nat.min_eq_left (by omega)]
  exact pre_take _ _ _ (Nat.le_refl _)
/-- A change within a part, told of the part's own number. -/
theorem part_eq {us vs : List Nat} {o m X Y : Nat} (hu : o + m ≤ us.length) (hv : o + m ≤ vs.length) (hs : ∀ i, i < o → lim vs i = lim us i) (h : pre vs (o + m) + X * Bp o = pre us (o + m) + Y * Bp (o + m)) : val ((vs.drop o).take m) + X = val ((us.drop o).take m) + Y * Bp m := by
  rw [part_pre hu, part_pre hv]
  rw [drop_pre, drop_pre, pre_congr hs, Bp_add, Nat.add_assoc, Nat.add_assoc, ← Nat.add_mul] at h
  have e : Y * (Bp o * Bp m) = Y * Bp m * Bp o := by rw [Nat.mul_comm (Bp o), ← Nat.mul_assoc]
  rw [e, ← Nat.add_mul] at h
  exact Nat.eq_of_mul_eq_mul_right (Bp_pos o) (by omega)
/-- Where all behind a part is nought, the number from there on is the part's. -/
theorem part_all {us : List Nat} {o m : Nat} (h : o + m ≤ us.length) (hz : ∀ i, o + m ≤ i → lim us i = 0) : val ((us.drop o).take m) = val (us.drop o) :=
  val_take (by simp; omega) (fun i h1 _ => by rw [lim_drop]; exact hz _ (by omega))
/-- One limb of the quotient. -/
theorem div_limb {Zk z Q D R P T P' B : Nat} (h : Zk = Q * D + R) (hP : P = z + B * R) (hT : P = T * D + P') : z + B * Zk = (T + B * Q) * D + P' := by
  rw [h, Nat.mul_add, Nat.add_mul, Nat.mul_assoc]
  omega
theorem div_done {Z Q D R : Nat} (h : Z = Q * D + R) (hR : R < D) : Z / D = Q ∧ Z % D = R := by
  rw [Nat.mul_comm] at h
  exact (Nat.div_mod_unique (by omega)).2 ⟨by omega, hR⟩
/-- How far the divisor is shifted, and what that makes of it. -/
theorem shift_bits {ys : List Nat} {n : Nat} (hs : Small ys) (hn : Norm ys) (hl : 0 < ys.length) (hb : IsBits (val ys) n) : ∃ s, s < 32 ∧ n + s = 32 * ys.length ∧ val ys * 2 ^ s < Bp ys.length ∧ Bp ys.length ≤ 2 * (val ys * 2 ^ s) := by
  have h1 := norm_ge hn hl
  have h2 := val_lt hs
  have hp := Bp_pos (ys.length - 1)
  rcases hb with ⟨h, _⟩ | ⟨hn1, h3, h4⟩
  · omega
  · have e1 : n ≤ 32 * ys.length := bits_le (Or.inr ⟨hn1, h3, h4⟩) h2
    have e2 : 32 * (ys.length - 1) < n := by
      rcases Nat.lt_or_ge (32 * (ys.length - 1)) n with c | c
      · exact c
      · have h5 := Nat.pow_le_pow_right (n := 2) (by omega) c
        rw [← Bp_two] at h5
        omega
    refine ⟨32 * ys.length - n, by omega, by omega, ?_, ?_⟩
    · have h6 : val ys * 2 ^ (32 * ys.length - n) < 2 ^ n * 2 ^ (32 * ys.length - n) := Nat.mul_lt_mul_of_pos_right h4 (Nat.pow_pos (by omega))
      rw [← Nat.pow_add, show n + (32 * ys.length - n) = 32 * ys.length by omega, ← Bp_two] at h6
      exact h6
    · have h6 : 2 ^ (n - 1) * 2 ^ (32 * ys.length - n) ≤ val ys * 2 ^ (32 * ys.length - n) := Nat.mul_le_mul_right _ h3
      rw [← Nat.pow_add] at h6
      have h7 : Bp ys.length = 2 * 2 ^ (n - 1 + (32 * ys.length - n)) := by
        rw [Bp_two, Nat.mul_comm 2, ← Nat.pow_succ]
        congr 1
        omega
      omega
theorem shift_len {ds : List Nat} {l : Nat} (hs : Small ds) (hn : Norm ds) (hl : 0 < l) (h1 : val ds < Bp l) (h2 : Bp l ≤ 2 * val ds) : ds.length = l ∧ 2147483648 ≤ lim ds (l - 1) := by
  have e1 := norm_len hn h1
  obtain ⟨k, rfl⟩ : ∃ k, l = k + 1 := ⟨l - 1, by omega⟩
  rw [Bp_succ] at h2
  have e2 : ds.length = k + 1 := by
    rcases Nat.lt_or_ge ds.length (k + 1) with c | c
    · exfalso
      have h3 := val_lt hs
      have h4 := Bp_le (a := ds.length) (b := k) (by omega)
      omega
    · omega
  refine ⟨e2, ?_⟩
  rw [Nat.add_sub_cancel]
  have h5 : val ds = pre ds k + lim ds k * Bp k := by
    rw [← pre_succ]; unfold val; rw [e2]
  have h6 := pre_lt hs k
  rcases Nat.lt_or_ge (lim ds k) 2147483648 with c | c
  · exfalso
    have h7 : lim ds k * Bp k ≤ 2147483647 * Bp k := Nat.mul_le_mul_right _ (by omega)
    omega
  · exact c
theorem shift_top {zs : List Nat} {A D s la lb : Nat} (hz : Small zs) (hA : A < Bp la) (hs : s < 32) (hv : val zs = A * 2 ^ s) (hle : lb ≤ la) (hD : Bp lb ≤ 2 * D) : val (zs.drop (la + 1 - lb)) < D := by
  rw [val_drop_div hz, hv]
  have hp := Bp_pos (la + 1 - lb)
  rw [Nat.div_lt_iff_lt_mul hp]
  have h1 : A * 2 ^ s < Bp la * 2147483648 := by
    have h2 := (pow_limb hs).1
    exact Nat.mul_lt_mul_of_lt_of_le hA h2 (by omega)
  have h3 : Bp lb * Bp (la + 1 - lb) ≤ 2 * D * Bp (la + 1 - lb) := Nat.mul_le_mul_right _ hD
  rw [← Bp_add, show lb + (la + 1 - lb) = la + 1 by omega, Bp_succ, Nat.mul_assoc] at h3
  omega
theorem shift_fits {A s la : Nat} (hA : A < Bp la) (hs : s < 32) : A * 2 ^ s < Bp (la + 1) := by
  have h2 := (pow_limb hs).1
  rw [Bp_succ]
  exact Nat.mul_lt_mul_of_lt_of_le hA (by omega) (by omega)
theorem shift_quo (A D s : Nat) : A * 2 ^ s / (D * 2 ^ s) = A / D := Nat.mul_div_mul_right _ _ (Nat.pow_pos (by omega))
theorem shift_rem (A D s : Nat) : A * 2 ^ s % (D * 2 ^ s) / 2 ^ s = A % D := by
  rw [Nat.mul_mod_mul_right, Nat.mul_div_cancel _ (Nat.pow_pos (by omega))]
#print axioms shift_top
#print axioms part_eq
#print axioms guess_top
end Go.Proofs.Ytfmdlbhgohmgbaa.Lb
