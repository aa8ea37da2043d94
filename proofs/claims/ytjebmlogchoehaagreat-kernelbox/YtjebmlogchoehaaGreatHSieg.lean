/-
  Plain mathematics: a box has more places than its shadow (Siegel's lemma), and what that says of rows with rising pivots: their numbers have few limbs.
-/
import Derived.Test.YtjebmlogchoehaaGreatHBound
namespace Go.Proofs.YtjebmlogchoehaaGreat
open Go.RowKit Lb
set_option maxRecDepth 20000

theorem pigeon : ∀ (N : Nat) (f : Nat → Nat), (∀ i, i ≤ N → f i < N) → ∃ i j, i < j ∧ j ≤ N ∧ f i = f j
  | 0, f, h => absurd (h 0 (Nat.le_refl _)) (by omega)
  | N + 1, f, h => by
    by_cases c : ∃ i, i ≤ N ∧ f i = f (N + 1)
    · obtain ⟨i, hi, e⟩ := c
      exact ⟨i, N + 1, by omega, Nat.le_refl _, e⟩
    · have hne : ∀ i, i ≤ N → f i ≠ f (N + 1) := fun i hi e => c ⟨i, hi, e⟩
      obtain ⟨i, j, hij, hj, e⟩ := pigeon N (fun i => if f i = N then f (N + 1) else f i) fun i hi => by
        have h1 := h i (by omega)
        have h2 := h (N + 1) (Nat.le_refl _)
        have h3 := hne i hi
        show (if f i = N then f (N + 1) else f i) < N
        split <;> omega
      have h1 := hne i (by omega)
      have h2 := hne j hj
      refine ⟨i, j, hij, by omega, ?_⟩
      have e' : (if f i = N then f (N + 1) else f i) = (if f j = N then f (N + 1) else f j) := e
      split at e' <;> split at e' <;> omega
/-- Numbers told by their digits. -/
def codeN (b : Nat) (w : Nat → Nat) : Nat → Nat
  | 0 => 0
  | t + 1 => codeN b w t + w t * b ^ t
theorem codeN_lt {b : Nat} {w : Nat → Nat} (hb : 0 < b) : ∀ t, (∀ i, i < t → w i < b) → codeN b w t < b ^ t
  | 0, _ => by simp [codeN]
  | t + 1, h => by
    have h1 := codeN_lt hb t fun i hi => h i (by omega)
    have h2 := h t (by omega)
    have h3 : (w t + 1) * b ^ t ≤ b * b ^ t := Nat.mul_le_mul_right _ (by omega)
    rw [Nat.add_mul, Nat.one_mul] at h3
    rw [codeN, Nat.pow_succ, Nat.mul_comm (b ^ t) b]
    omega
theorem codeN_inj {b : Nat} {w u : Nat → Nat} (hb : 0 < b) : ∀ t, (∀ i, i < t → w i < b) → (∀ i, i < t → u i < b) → codeN b w t = codeN b u t → ∀ i, i < t → w i = u i
  | 0, _, _, _, i, hi => absurd hi (by omega)
  | t + 1, h, h', e, i, hi => by
    rw [codeN, codeN] at e
    have h1 := codeN_lt hb t fun i hi => h i (by omega)
    have h2 := codeN_lt hb t fun i hi => h' i (by omega)
    have hp : 0 < b ^ t := Nat.pow_pos hb
    have e1 : codeN b w t = codeN b u t := by
      have := congrArg (· % b ^ t) e
      simpa [Nat.add_mul_mod_self_right, Nat.mod_eq_of_lt h1, Nat.mod_eq_of_lt h2] using this
    have e2 : w t = u t := by
      rw [e1] at e
      exact Nat.eq_of_mul_eq_mul_right hp (by omega)
    by_cases c : i = t
    · subst c; exact e2
    · exact codeN_inj hb t (fun i hi => h i (by omega)) (fun i hi => h' i (by omega)) e1 i (by omega)
theorem mod_same {b x y : Nat} : ∀ u, (∀ i, i < u → x / b ^ i % b = y / b ^ i % b) → x % b ^ u = y % b ^ u
  | 0, _ => by simp [Nat.mod_one]
  | u + 1, h => by rw [Nat.mod_pow_succ, Nat.mod_pow_succ, mod_same u fun i hi => h i (by omega), h u (by omega)]
theorem sumN_abs {n : Nat} {f : Nat → Int} {B : Nat} (h : ∀ i, i < n → (f i).natAbs ≤ B) : (sumN n f).natAbs ≤ n * B := by
  induction n with
  | zero => simp [sumN]
  | succ n ih =>
    have h1 := ih fun i hi => h i (by omega)
    have h2 := h n (by omega)
    rw [sumN, Nat.add_mul, Nat.one_mul]
    omega
/-- A row of e sums, each of u numbers times small ones: one that is nought, but not all small ones are. -/
theorem siegel {e u A M : Nat} {E : Nat → Nat → Int} (hE : ∀ t i, t < e → i < u → (E t i).natAbs ≤ A) (hM : (2 * (u * (A * M)) + 1) ^ e < (M + 1) ^ u) : ∃ c : Nat → Int, (∃ i, i < u ∧ c i ≠ 0) ∧ (∀ i, (c i).natAbs ≤ M) ∧ ∀ t, t < e → (sumN u fun i => E t i * c i) = 0 := by
  obtain ⟨K, eK⟩ : ∃ K, K = u * (A * M) := ⟨_, rfl⟩
  rw [← eK] at hM
  obtain ⟨dg, edg⟩ : ∃ dg : Nat → Nat → Nat, dg = fun x i => x / (M + 1) ^ i % (M + 1) := ⟨_, rfl⟩
  have hdg : ∀ x i, dg x i ≤ M := fun x i => by rw [edg]; exact Nat.le_of_lt_succ (Nat.mod_lt _ (by omega))
  obtain ⟨val, ev⟩ : ∃ val : Nat → Nat → Int, val = fun x t => sumN u fun i => E t i * (dg x i : Int) := ⟨_, rfl⟩
  have hval : ∀ x t, t < e → (val x t).natAbs ≤ K := fun x t ht => by
    rw [ev, eK]
    refine sumN_abs fun i hi => ?_
    rw [Int.natAbs_mul, Int.natAbs_natCast]
    exact Nat.mul_le_mul (hE t i ht hi) (hdg x i)
  have hw : ∀ x t, t < e → (val x t + (K : Int)).toNat < 2 * K + 1 := fun x t ht => by have := hval x t ht; omega
  obtain ⟨x, y, hxy, hy, hc⟩ := pigeon ((2 * K + 1) ^ e) (fun x => codeN (2 * K + 1) (fun t => (val x t + (K : Int)).toNat) e) fun x _ => codeN_lt (by omega) e (hw x)
  have hsame : ∀ t, t < e → val x t = val y t := fun t ht => by
    have h1 := codeN_inj (b := 2 * K + 1) (by omega) e (hw x) (hw y) hc t ht
    have h2 := hval x t ht
    have h3 := hval y t ht
    omega
  refine ⟨fun i => (dg x i : Int) - (dg y i : Int), ?_, fun i => ?_, fun t ht => ?_⟩
  · by_cases c : ∃ i, i < u ∧ (dg x i : Int) - (dg y i : Int) ≠ 0
    · exact c
    · exfalso
      have h1 : x % (M + 1) ^ u = y % (M + 1) ^ u := mod_same u fun i hi => by
        have h2 : ¬ (dg x i : Int) - (dg y i : Int) ≠ 0 := fun h => c ⟨i, hi, h⟩
        have h3 : dg x i = dg y i := by omega
        rw [edg] at h3
        exact h3
      rw [Nat.mod_eq_of_lt (by omega), Nat.mod_eq_of_lt (by omega)] at h1
      omega
  · have h1 := hdg x i
    have h2 := hdg y i
    show ((dg x i : Int) - (dg y i : Int)).natAbs ≤ M
    omega
  · have h1 := hsame t ht
    rw [ev] at h1
    have h2 : (sumN u fun i => E t i * ((dg x i : Int) - (dg y i : Int))) = (sumN u fun i => E t i * (dg x i : Int)) + (-1) * sumN u fun i => E t i * (dg y i : Int) := by
      rw [← sumN_mul, ← sumN_add]
      exact sumN_congr fun i _ => by rw [Int.mul_sub]; omega
    show (sumN u fun i => E t i * ((dg x i : Int) - (dg y i : Int))) = 0
    rw [h2]
    have h3 : (sumN u fun i => E t i * (dg x i : Int)) = sumN u fun i => E t i * (dg y i : Int) := h1
    omega
/-- One number more than sums. -/
def sieg (e A : Nat) : Nat := (2 * ((e + 1) * A)) ^ e
theorem siegel_one {e A : Nat} {E : Nat → Nat → Int} (hA : 1 ≤ A) (hE : ∀ t i, t < e → i < e + 1 → (E t i).natAbs ≤ A) : ∃ c : Nat → Int, (∃ i, i < e + 1 ∧ c i ≠ 0) ∧ (∀ i, (c i).natAbs ≤ sieg e A) ∧ ∀ t, t < e → (sumN (e + 1) fun i => E t i * c i) = 0 := by
  refine siegel hE ?_
  obtain ⟨M, eM⟩ : ∃ M, M = sieg e A := ⟨_, rfl⟩
  rw [← eM]
  have h0 : 1 ≤ (e + 1) * A := Nat.mul_le_mul (show 1 ≤ e + 1 by omega) hA
  have h1 : 2 * ((e + 1) * (A * M)) + 1 ≤ 2 * ((e + 1) * A) * (M + 1) := by
    rw [← Nat.mul_assoc (e + 1) A M]
    generalize (e + 1) * A = P at h0 ⊢
    rw [Nat.mul_add, Nat.mul_one, Nat.mul_assoc 2 P M]
    omega
  have h2 : (2 * ((e + 1) * (A * M)) + 1) ^ e ≤ M * (M + 1) ^ e := by
    refine Nat.le_trans (Nat.pow_le_pow_left h1 e) ?_
    rw [Nat.mul_pow, eM]
    exact Nat.le_refl _
  have h3 : 0 < (M + 1) ^ e := Nat.pow_pos (by omega)
  have h4 : (M + 1) ^ (e + 1) = M * (M + 1) ^ e + (M + 1) ^ e := by rw [Nat.pow_succ, Nat.mul_comm, Nat.add_mul, Nat.one_mul]
  rw [h4]
  omega

#print axioms siegel_one
end Go.Proofs.YtjebmlogchoehaaGreat
