/-
  Plain mathematics of stage 8: which vector agrees with which, which is below which; the part above 0; how often one fits.
-/
import Derived.Test.YtgppplhbhgfmkaaJE
namespace Go.Proofs.Ytgppplhbhgfmkaa
open Go.RowKit Lb

/-- No sign against the other. -/
def agrB (x y : Int) : Bool := !(decide (0 < x) && decide (y < 0)) && !(decide (x < 0) && decide (0 < y))
theorem agrB_iff (x y : Int) : agrB x y = true ↔ ¬ (0 < x ∧ y < 0) ∧ ¬ (x < 0 ∧ 0 < y) := by
  simp [agrB]
  omega
/-- x is 0, or has y's sign and is not greater. -/
def belB (x y : Int) : Bool := (decide (0 ≤ x) && decide (x ≤ y)) || (decide (y ≤ x) && decide (x ≤ 0))
theorem belB_iff (x y : Int) : belB x y = true ↔ (0 ≤ x ∧ x ≤ y) ∨ (y ≤ x ∧ x ≤ 0) := by simp [belB]
theorem belB_no {x y : Int} : belB x y = false ↔ ¬ ((0 ≤ x ∧ x ≤ y) ∨ (y ≤ x ∧ x ≤ 0)) := by rw [← belB_iff, Bool.not_eq_true]
theorem belB_zero (y : Int) : belB 0 y = true := by rw [belB_iff]; omega
theorem agrB_zero (y : Int) : agrB 0 y = true := by rw [agrB_iff]; omega
theorem agrB_comm (x y : Int) : agrB x y = agrB y x := by rw [Bool.eq_iff_iff, agrB_iff, agrB_iff]; omega
/-- As the signs and the sizes tell it. -/
theorem belB_sign (x y : Int) : belB x y = true ↔ x.sign = 0 ∨ (x.sign = y.sign ∧ (x.natAbs : Int) ≤ (y.natAbs : Int)) := by
  rw [belB_iff]
  rcases Int.lt_trichotomy x 0 with hx | hx | hx <;> rcases Int.lt_trichotomy y 0 with hy | hy | hy
  all_goals
    first
      | rw [Int.sign_eq_neg_one_of_neg hx]
      | rw [Int.sign_eq_one_of_pos hx]
      | (subst hx; rw [Int.sign_zero])
    first
      | rw [Int.sign_eq_neg_one_of_neg hy]
      | rw [Int.sign_eq_one_of_pos hy]
      | (subst hy; rw [Int.sign_zero])
    omega
theorem agrB_sign (x y : Int) : agrB x y = true ↔ ¬ (x.sign * y.sign < 0) := by
  rw [agrB_iff]
  rcases Int.lt_trichotomy x 0 with hx | hx | hx <;> rcases Int.lt_trichotomy y 0 with hy | hy | hy
  all_goals
    first
      | rw [Int.sign_eq_neg_one_of_neg hx]
      | rw [Int.sign_eq_one_of_pos hx]
      | (subst hx; rw [Int.sign_zero])
    first
      | rw [Int.sign_eq_neg_one_of_neg hy]
      | rw [Int.sign_eq_one_of_pos hy]
      | (subst hy; rw [Int.sign_zero])
    omega
def vagree (a b : List Int) : Bool := (List.range a.length).all fun i => agrB (a.getD i 0) (b.getD i 0)
def vbelow (a b : List Int) : Bool := (List.range a.length).all fun i => belB (a.getD i 0) (b.getD i 0)
theorem vagree_iff (a b : List Int) : vagree a b = true ↔ ∀ i, agrB (a.getD i 0) (b.getD i 0) = true := by
  unfold vagree
  rw [List.all_eq_true]
  refine ⟨fun h i => ?_, fun h i _ => h i⟩
  by_cases hi : i < a.length
  · exact h i (List.mem_range.2 hi)
  · rw [getD_out (v := a) (by omega)]; exact agrB_zero _
theorem vbelow_iff (a b : List Int) : vbelow a b = true ↔ ∀ i, belB (a.getD i 0) (b.getD i 0) = true := by
  unfold vbelow
  rw [List.all_eq_true]
  refine ⟨fun h i => ?_, fun h i _ => h i⟩
  by_cases hi : i < a.length
  · exact h i (List.mem_range.2 hi)
  · rw [getD_out (v := a) (by omega)]; exact belB_zero _
/-- A loop that found a place against it; one that found none. -/
theorem vagree_no {a b : List Int} {i : Nat} (h : agrB (a.getD i 0) (b.getD i 0) = false) : vagree a b = false := by
  rw [← Bool.not_eq_true, vagree_iff]
  exact fun e => by rw [e i] at h; simp at h
theorem vagree_yes {a b : List Int} (h : ∀ i, i < a.length → agrB (a.getD i 0) (b.getD i 0) = true) : vagree a b = true := by
  unfold vagree
  rw [List.all_eq_true]
  exact fun i hi => h i (List.mem_range.1 hi)
theorem vbelow_no {a b : List Int} {i : Nat} (h : belB (a.getD i 0) (b.getD i 0) = false) : vbelow a b = false := by
  rw [← Bool.not_eq_true, vbelow_iff]
  exact fun e => by rw [e i] at h; simp at h
theorem vbelow_yes {a b : List Int} (h : ∀ i, i < a.length → belB (a.getD i 0) (b.getD i 0) = true) : vbelow a b = true := by
  unfold vbelow
  rw [List.all_eq_true]
  exact fun i hi => h i (List.mem_range.1 hi)
theorem vagree_comm (a b : List Int) : vagree a b = vagree b a := by
  rw [Bool.eq_iff_iff, vagree_iff, vagree_iff]
  exact ⟨fun h i => by rw [agrB_comm]; exact h i, fun h i => by rw [agrB_comm]; exact h i⟩
theorem vbelow_refl (a : List Int) : vbelow a a = true := by
  rw [vbelow_iff]; intro i; rw [belB_iff]; omega
theorem vbelow_anti {a b : List Int} (h : vbelow a b = true) (h' : vbelow b a = true) : ∀ i, a.getD i 0 = b.getD i 0 := by
  rw [vbelow_iff] at h h'
  intro i
  have h1 := (belB_iff _ _).1 (h i)
  have h2 := (belB_iff _ _).1 (h' i)
  omega
theorem vbelow_trans {a b c : List Int} (h : vbelow a b = true) (h' : vbelow b c = true) : vbelow a c = true := by
  rw [vbelow_iff] at *
  intro i
  have h1 := (belB_iff _ _).1 (h i)
  have h2 := (belB_iff _ _).1 (h' i)
  rw [belB_iff]
  omega
theorem vbelow_neg (a b : List Int) : vbelow (vneg a) (vneg b) = vbelow a b := by
  rw [Bool.eq_iff_iff, vbelow_iff, vbelow_iff]
  refine forall_congr' fun i => ?_
  rw [vneg_at, vneg_at, belB_iff, belB_iff]
  omega
theorem vbelow_three (a b : List Int) : vbelow (vtimes a 3) (vtimes b 3) = vbelow a b := by
  rw [Bool.eq_iff_iff, vbelow_iff, vbelow_iff]
  refine forall_congr' fun i => ?_
  rw [vtimes_at, vtimes_at, belB_iff, belB_iff]
  omega
theorem vbelow_agree {a b : List Int} (h : vbelow a b = true) : vagree a b = true := by
  rw [vbelow_iff] at h
  rw [vagree_iff]
  intro i
  have h1 := (belB_iff _ _).1 (h i)
  rw [agrB_iff]
  omega
theorem vbelow_left (a b : List Int) : vbelow (vsub b a) b = vbelow a b := by
  rw [Bool.eq_iff_iff, vbelow_iff, vbelow_iff]
  refine forall_congr' fun i => ?_
  rw [vsub_at, belB_iff, belB_iff]
  omega
theorem vagree_below {a b : List Int} (h : vagree a b = true) : vbelow a (vadd a b) = true ∧ vbelow b (vadd a b) = true := by
  rw [vagree_iff] at h
  refine ⟨(vbelow_iff _ _).2 fun i => ?_, (vbelow_iff _ _).2 fun i => ?_⟩
  all_goals
    have h1 := (agrB_iff _ _).1 (h i)
    rw [vadd_at, belB_iff]
    omega
theorem sumN_diff (n : Nat) (f g : Nat → Int) : sumN n f = sumN n g ↔ (sumN n fun i => g i + -f i) = 0 := by
  have e : (sumN n fun i => g i + -f i) = sumN n g - sumN n f := by
    induction n with
    | zero => rfl
    | succ n ih => rw [sumN, sumN, sumN, ih]; omega
  rw [e]
  omega
/-- The Norms add up just where the two agree. -/
theorem vagree_norm (a b : List Int) : decide (vnorm (vadd a b) = vnorm a + vnorm b) = vagree a b := by
  rw [Bool.eq_iff_iff, decide_eq_true_iff, vagree_iff]
  rw [← vnorm_upto (v := a) (n := (vadd a b).length) (by rw [vadd_len]; omega), ← vnorm_upto (v := b) (n := (vadd a b).length) (by rw [vadd_len]; omega), ← sumN_add]
  unfold vnorm
  obtain ⟨n, en⟩ : ∃ n, n = (vadd a b).length := ⟨_, rfl⟩
  have hout : ∀ i, n ≤ i → a.getD i 0 = 0 := fun i hi => getD_out (by rw [en, vadd_len] at hi; omega)
  rw [← en]
  rw [sumN_diff, sumN_zero (fun i => by rw [vadd_at]; omega)]
  refine ⟨fun h i => ?_, fun h i _ => ?_⟩
  · by_cases hi : i < n
    · have := h i hi
      rw [vadd_at] at this
      rw [agrB_iff]
      omega
    · rw [hout i (by omega)]; exact agrB_zero _
  · have := (agrB_iff _ _).1 (h i)
    rw [vadd_at]
    omega
def pos (z : Int) : Int := if z < 0 then 0 else z
def vplus (v : List Int) : List Int := v.map pos
def vminus (v : List Int) : List Int := vplus (vneg v)
theorem vplus_len (v : List Int) : (vplus v).length = v.length := by simp [vplus]
theorem vminus_len (v : List Int) : (vminus v).length = v.length := by unfold vminus; rw [vplus_len, vneg_len]
theorem vplus_at (v : List Int) (i : Nat) : (vplus v).getD i 0 = pos (v.getD i 0) := map_at v pos rfl i
theorem vminus_at (v : List Int) (i : Nat) : (vminus v).getD i 0 = pos (-v.getD i 0) := by unfold vminus; rw [vplus_at, vneg_at]
theorem pos_cases (z : Int) : (z < 0 ∧ pos z = 0 ∧ pos (-z) = -z) ∨ (0 ≤ z ∧ pos z = z ∧ pos (-z) = 0) := by
  unfold pos
  rcases Int.lt_or_le z 0 with h | h
  · left
    rw [if_pos h, if_neg (by omega)]
    exact ⟨h, rfl, rfl⟩
  · right
    rw [if_neg (by omega)]
    refine ⟨h, rfl, ?_⟩
    split <;> omega
theorem parts_sub (v : List Int) (i : Nat) : (vsub (vplus v) (vminus v)).getD i 0 = v.getD i 0 := by
  rw [vsub_at, vplus_at, vminus_at]
  rcases pos_cases (v.getD i 0) with ⟨_, h1, h2⟩ | ⟨_, h1, h2⟩ <;> omega
theorem parts_dot (v : List Int) : vdot (vplus v) (vminus v) = 0 := by
  unfold vdot
  have e : ∀ n, (sumN n fun i => (vplus v).getD i 0 * (vminus v).getD i 0) = 0 := by
    intro n
    induction n with
    | zero => rfl
    | succ n ih =>
      rw [sumN, ih, vplus_at, vminus_at]
      rcases pos_cases (v.getD n 0) with ⟨_, h1, h2⟩ | ⟨_, h1, h2⟩
      · rw [h1, Int.zero_mul]; rfl
      · rw [h2, Int.mul_zero]; rfl
  exact e _
theorem plus_below (v : List Int) : vbelow (vplus v) v = true := by
  rw [vbelow_iff]
  intro i
  rw [vplus_at, belB_iff]
  rcases pos_cases (v.getD i 0) with ⟨_, h1, h2⟩ | ⟨_, h1, h2⟩ <;> omega
theorem minus_below (v : List Int) : vbelow (vneg (vminus v)) v = true := by
  rw [vbelow_iff]
  intro i
  rw [vneg_at, vminus_at, belB_iff]
  rcases pos_cases (v.getD i 0) with ⟨_, h1, h2⟩ | ⟨_, h1, h2⟩ <;> omega
theorem parts_norm (v : List Int) : vnorm v = vnorm (vplus v) + vnorm (vminus v) := by
  unfold vnorm
  rw [vplus_len, vminus_len, ← sumN_add]
  refine sumN_congr fun i _ => ?_
  rw [vplus_at, vminus_at]
  rcases pos_cases (v.getD i 0) with ⟨_, h1, h2⟩ | ⟨_, h1, h2⟩ <;> omega

/-- q is how often a can be taken from b. -/
def IsFit (a b : List Int) (q : Int) : Prop := (vnought a = true ∧ q = 0) ∨ (vnought a = false ∧ 0 ≤ q ∧ vbelow (vtimes a q) b = true ∧ vbelow (vtimes a (q + 1)) b = false)
theorem bel_mul {x y q r : Int} (h : belB (x * q) y = true) (h0 : 0 ≤ r) (h1 : r ≤ q) : belB (x * r) y = true := by
  rw [belB_iff] at *
  rcases Int.lt_trichotomy x 0 with hx | hx | hx
  · have e1 : x * q ≤ x * r := Int.mul_le_mul_of_nonpos_left (by omega) h1
    have e2 : x * r ≤ 0 := by
      have := Int.mul_nonneg (a := -x) (b := r) (by omega) h0
      rw [Int.neg_mul] at this
      omega
    omega
  · subst hx
    rw [Int.zero_mul]; omega
  · have e1 : x * r ≤ x * q := Int.mul_le_mul_of_nonneg_left h1 (by omega)
    have e2 : 0 ≤ x * r := Int.mul_nonneg (by omega) h0
    omega
theorem vbelow_mul {a b : List Int} {q r : Int} (h : vbelow (vtimes a q) b = true) (h0 : 0 ≤ r) (h1 : r ≤ q) : vbelow (vtimes a r) b = true := by
  rw [vbelow_iff] at *
  intro i
  have := h i
  rw [vtimes_at] at *
  exact bel_mul this h0 h1
theorem isFit_inj {a b : List Int} {q r : Int} (h : IsFit a b q) (h' : IsFit a b r) : q = r := by
  rcases h with ⟨e, rfl⟩ | ⟨e, h0, h1, h2⟩ <;> rcases h' with ⟨e', rfl⟩ | ⟨e', h0', h1', h2'⟩
  · rfl
  · rw [e] at e'; simp at e'
  · rw [e] at e'; simp at e'
  · rcases Int.lt_trichotomy q r with c | c | c
    · rw [vbelow_mul h1' (by omega) (by omega)] at h2; simp at h2
    · exact c
    · rw [vbelow_mul h1 (by omega) (by omega)] at h2'; simp at h2'
theorem vtimes_one (a : List Int) : vtimes a 1 = a := by unfold vtimes; simp
theorem vbelow_nothing (a b : List Int) : vbelow (vtimes a 0) b = true := by
  rw [vbelow_iff]
  intro i
  rw [vtimes_at, Int.mul_zero]
  exact belB_zero _
/-- One that isn't below fits 0 times. -/
theorem isFit_none {a b : List Int} (h : vbelow a b = false) : IsFit a b 0 := by
  right
  refine ⟨?_, Int.le_refl _, vbelow_nothing a b, ?_⟩
  · rw [← Bool.not_eq_true, vnought_iff]
    intro e
    rw [vbelow_yes (fun i _ => by rw [e i]; exact belB_zero _)] at h
    simp at h
  · rw [show (0 : Int) + 1 = 1 from rfl, vtimes_one]; exact h
theorem IsFit.nonneg {a b : List Int} {q : Int} (h : IsFit a b q) : 0 ≤ q := by
  rcases h with ⟨_, rfl⟩ | ⟨_, h, _⟩ <;> omega
theorem IsFit.pos_iff {a b : List Int} {q : Int} (h : IsFit a b q) (hn : vnought a = false) : decide (0 < q) = vbelow a b := by
  rcases h with ⟨e, _⟩ | ⟨_, h0, h1, h2⟩
  · rw [e] at hn; simp at hn
  · rw [Bool.eq_iff_iff, decide_eq_true_iff]
    refine ⟨fun c => ?_, fun c => ?_⟩
    · have := vbelow_mul (r := 1) h1 (by omega) (by omega)
      rw [vtimes_one] at this
      exact this
    · rcases Int.lt_or_le 0 q with d | d
      · exact d
      · obtain rfl : q = 0 := by omega
        rw [show (0 : Int) + 1 = 1 from rfl, vtimes_one, c] at h2
        simp at h2
/-- As often as it fits it is below, and not below what is left then. -/
theorem IsFit.below {a b : List Int} {q : Int} (h : IsFit a b q) (hn : vnought a = false) : vbelow (vtimes a q) b = true ∧ vbelow a (vsub b (vtimes a q)) = false := by
  rcases h with ⟨e, _⟩ | ⟨_, h0, h1, h2⟩
  · rw [e] at hn; simp at hn
  · refine ⟨h1, ?_⟩
    rw [← Bool.not_eq_true]
    intro c
    rw [← Bool.not_eq_true] at h2
    apply h2
    rw [vbelow_iff] at *
    intro i
    have c1 := (belB_iff _ _).1 (c i)
    have c2 := (belB_iff _ _).1 (h1 i)
    rw [vsub_at, vtimes_at] at c1
    rw [vtimes_at] at c2
    rw [vtimes_at, belB_iff, Int.mul_add, Int.mul_one]
    rcases Int.lt_trichotomy (a.getD i 0) 0 with hx | hx | hx
    · have : a.getD i 0 * q ≤ 0 := by
        have := Int.mul_nonneg (a := -a.getD i 0) (b := q) (by omega) h0
        rw [Int.neg_mul] at this
        omega
      omega
    · rw [hx] at *
      rw [Int.zero_mul] at *
      omega
    · have : 0 ≤ a.getD i 0 * q := Int.mul_nonneg (by omega) h0
      omega

theorem norm_ge (v : List Int) (i : Nat) : ((v.getD i 0).natAbs : Int) ≤ vnorm v := by
  by_cases hi : i < v.length
  · have key : ∀ n, i < n → ((v.getD i 0).natAbs : Int) ≤ sumN n fun j => ((v.getD j 0).natAbs : Int) := by
      intro n
      induction n with
      | zero => intro h; omega
      | succ n ih =>
        intro h
        rw [sumN]
        by_cases e : i = n
        · subst e
          have := sumN_nonneg (n := i) (f := fun j => ((v.getD j 0).natAbs : Int)) (fun _ => by omega)
          omega
        · have := ih (by omega)
          omega
    exact key _ hi
  · rw [getD_out (by omega)]
    exact vnorm_nonneg v
/-- How often one fits, told by the least quotient. -/
theorem fit_of_min {a b : List Int} {N : Nat} (hn : vnought a = false) (hb : vbelow a b = true) (hall : ∀ i, a.getD i 0 ≠ 0 → N ≤ (b.getD i 0).natAbs / (a.getD i 0).natAbs) (hex : ∃ i, a.getD i 0 ≠ 0 ∧ N = (b.getD i 0).natAbs / (a.getD i 0).natAbs) : IsFit a b N := by
  right
  rw [vbelow_iff] at hb
  refine ⟨hn, by omega, (vbelow_iff _ _).2 fun i => ?_, ?_⟩
  · rw [vtimes_at, belB_iff]
    have h1 := (belB_iff _ _).1 (hb i)
    by_cases h0 : a.getD i 0 = 0
    · rw [h0, Int.zero_mul]; omega
    · have h2 := (Nat.le_div_iff_mul_le (by omega)).1 (hall i h0)
      have h3 : ((N : Int) * ((a.getD i 0).natAbs : Int)) ≤ ((b.getD i 0).natAbs : Int) := by
        rw [← Int.natCast_mul]; omega
      rcases Int.lt_or_le (a.getD i 0) 0 with hx | hx
      · rw [show ((a.getD i 0).natAbs : Int) = -a.getD i 0 by omega, Int.mul_neg, Int.mul_comm] at h3
        have := Int.mul_nonneg (a := -a.getD i 0) (b := N) (by omega) (by omega)
        rw [Int.neg_mul] at this
        omega
      · rw [show ((a.getD i 0).natAbs : Int) = a.getD i 0 by omega, Int.mul_comm] at h3
        have := Int.mul_nonneg (a := a.getD i 0) (b := N) (by omega) (by omega)
        omega
  · obtain ⟨i, h0, e⟩ := hex
    refine vbelow_no (i := i) ?_
    rw [vtimes_at, belB_no]
    have h1 := (belB_iff _ _).1 (hb i)
    have h2 := Nat.lt_mul_div_succ (b.getD i 0).natAbs (show 0 < (a.getD i 0).natAbs by omega)
    rw [← e] at h2
    have h3 : ((b.getD i 0).natAbs : Int) < ((a.getD i 0).natAbs : Int) * ((N : Int) + 1) := by
      rw [show ((N : Int) + 1) = ((N + 1 : Nat) : Int) by omega, ← Int.natCast_mul]; omega
    rcases Int.lt_or_le (a.getD i 0) 0 with hx | hx
    · rw [show ((a.getD i 0).natAbs : Int) = -a.getD i 0 by omega, Int.neg_mul] at h3
      omega
    · rw [show ((a.getD i 0).natAbs : Int) = a.getD i 0 by omega] at h3
      omega
/-- The loop that looks for the least quotient, ahead of place i. -/
def FitIn (a b : List Int) (i N : Nat) : Prop := (∀ j, j < i → a.getD j 0 ≠ 0 → N ≤ (b.getD j 0).natAbs / (a.getD j 0).natAbs) ∧ ((N : Int) = vnorm b ∨ ∃ j, a.getD j 0 ≠ 0 ∧ N = (b.getD j 0).natAbs / (a.getD j 0).natAbs)
theorem fitIn_start (a b : List Int) : FitIn a b 0 (vnorm b).toNat := ⟨fun j hj => absurd hj (by omega), Or.inl (by have := vnorm_nonneg b; omega)⟩
theorem FitIn.skip {a b : List Int} {i N : Nat} (h : FitIn a b i N) (h0 : a.getD i 0 = 0) : FitIn a b (i + 1) N := by
  refine ⟨fun j hj hne => ?_, h.2⟩
  by_cases e : j = i
  · subst e; exact absurd h0 hne
  · exact h.1 j (by omega) hne
theorem FitIn.keep {a b : List Int} {i N : Nat} (h : FitIn a b i N) (h0 : N ≤ (b.getD i 0).natAbs / (a.getD i 0).natAbs) : FitIn a b (i + 1) N := by
  refine ⟨fun j hj hne => ?_, h.2⟩
  by_cases e : j = i
  · subst e; exact h0
  · exact h.1 j (by omega) hne
theorem FitIn.less {a b : List Int} {i N : Nat} (h : FitIn a b i N) (h0 : a.getD i 0 ≠ 0) (hl : (b.getD i 0).natAbs / (a.getD i 0).natAbs ≤ N) : FitIn a b (i + 1) ((b.getD i 0).natAbs / (a.getD i 0).natAbs) := by
  refine ⟨fun j hj hne => ?_, Or.inr ⟨i, h0, rfl⟩⟩
  by_cases e : j = i
  · subst e; exact Nat.le_refl _
  · exact Nat.le_trans hl (h.1 j (by omega) hne)
theorem FitIn.done {a b : List Int} {i N : Nat} (h : FitIn a b i N) (hi : a.length ≤ i) (hn : vnought a = false) (hb : vbelow a b = true) : IsFit a b N := by
  have hall : ∀ j, a.getD j 0 ≠ 0 → N ≤ (b.getD j 0).natAbs / (a.getD j 0).natAbs := fun j hne => by
    refine h.1 j ?_ hne
    rcases Nat.lt_or_ge j i with c | c
    · exact c
    · exact absurd (getD_out (by omega)) hne
  refine fit_of_min hn hb hall ?_
  rcases h.2 with e | e
  · obtain ⟨j, hj⟩ : ∃ j, a.getD j 0 ≠ 0 := by
      refine Classical.byContradiction fun c => ?_
      rw [(vnought_iff a).2 (fun i => Classical.byContradiction fun d => c ⟨i, d⟩)] at hn
      simp at hn
    refine ⟨j, hj, ?_⟩
    have h1 := hall j hj
    have h2 := norm_ge b j
    have h3 := Nat.div_le_self (b.getD j 0).natAbs (a.getD j 0).natAbs
    omega
  · exact e

/-- The places that are not 0 among the first n, rising. -/
def suppN (v : List Int) : Nat → List Int
  | 0 => []
  | n + 1 => if v.getD n 0 = 0 then suppN v n else suppN v n ++ [(n : Int)]
theorem suppN_skip {v : List Int} {i : Nat} (h : v.getD i 0 = 0) : suppN v (i + 1) = suppN v i := by rw [suppN, if_pos h]
theorem suppN_take {v : List Int} {i : Nat} (h : v.getD i 0 ≠ 0) : suppN v (i + 1) = suppN v i ++ [(i : Int)] := by rw [suppN, if_neg h]
theorem suppN_le (v : List Int) (n : Nat) : (suppN v n).length ≤ n := by
  induction n with
  | zero => exact Nat.le_refl _
  | succ n ih =>
    by_cases h : v.getD n 0 = 0
    · rw [suppN_skip h]; omega
    · rw [suppN_take h]; simp; exact ih
theorem suppN_grow (v : List Int) (i k : Nat) : ∃ r, suppN v (i + k) = suppN v i ++ r := by
  induction k with
  | zero => exact ⟨[], by simp⟩
  | succ k ih =>
    obtain ⟨r, hr⟩ := ih
    by_cases h : v.getD (i + k) 0 = 0
    · exact ⟨r, by rw [← Nat.add_assoc, suppN_skip h, hr]⟩
    · exact ⟨r ++ [((i + k : Nat) : Int)], by rw [← Nat.add_assoc, suppN_take h, hr, List.append_assoc]⟩
/-- The next place that is not 0 stands behind those ahead of it. -/
theorem suppN_at {v : List Int} {i n : Nat} (hi : i < n) (h : v.getD i 0 ≠ 0) : (suppN v i).length < (suppN v n).length ∧ (suppN v n).getD (suppN v i).length 0 = (i : Int) := by
  obtain ⟨k, rfl⟩ : ∃ k, n = i + 1 + k := ⟨n - (i + 1), by omega⟩
  obtain ⟨r, hr⟩ := suppN_grow v (i + 1) k
  rw [hr, suppN_take h]
  refine ⟨by simp, ?_⟩
  simp [List.getD]
theorem suppN_small (v : List Int) (n : Nat) (hn : n ≤ 1000000000) : ∀ x ∈ suppN v n, 0 ≤ x ∧ x ≤ 1000000000 := by
  induction n with
  | zero => intro x hx; simp [suppN] at hx
  | succ n ih =>
    intro x hx
    by_cases h : v.getD n 0 = 0
    · rw [suppN_skip h] at hx; exact ih (by omega) x hx
    · rw [suppN_take h, List.mem_append] at hx
      rcases hx with hx | hx
      · exact ih (by omega) x hx
      · simp at hx; omega
/-- Bit i is 1 where place i is not 0 (places 0 to 63 alone). -/
def bitsN (v : List Int) : Nat → Nat
  | 0 => 0
  | n + 1 => if v.getD n 0 = 0 ∨ 64 ≤ n then bitsN v n else bitsN v n + 2 ^ n
theorem bitsN_lt (v : List Int) (n : Nat) : bitsN v n < 2 ^ min n 64 := by
  induction n with
  | zero => simp [bitsN]
  | succ n ih =>
    rw [bitsN]
    split
    · refine Nat.lt_of_lt_of_le ih (Nat.pow_le_pow_right (by omega) (by omega))
    · next h =>
      have h' : n < 64 := by omega
      rw [show min n 64 = n by omega] at ih
      rw [show min (n + 1) 64 = n + 1 by omega, Nat.pow_succ]
      omega
/-- The bit comes in by 'or' as by a sum: it was 0 before. -/
theorem bitsN_or {v : List Int} {n : Nat} (h : v.getD n 0 ≠ 0) (hn : n < 64) : bitsN v (n + 1) = bitsN v n ||| 2 ^ n := by
  have hl := bitsN_lt v n
  rw [show min n 64 = n by omega] at hl
  rw [bitsN, if_neg (by omega), or_bit (by rw [Nat.div_eq_of_lt hl])]
theorem bitsN_skip {v : List Int} {n : Nat} (h : v.getD n 0 = 0 ∨ 64 ≤ n) : bitsN v (n + 1) = bitsN v n := by rw [bitsN, if_pos h]

#print axioms vagree_norm
#print axioms isFit_inj
#print axioms IsFit.below
#print axioms belB_sign
#print axioms FitIn.done
#print axioms suppN_at
#print axioms bitsN_or
end Go.Proofs.Ytgppplhbhgfmkaa
