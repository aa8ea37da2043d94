/-
  Plain mathematics of vectors of whole numbers: places, sums over places, how two compare; a place behind the end is 0.
-/
import Derived.Test.YtdbimajopclndaaQNum
namespace Go.Proofs.Ytdbimajopclndaa
open Go.RowKit Lb

theorem getD_out {v : List Int} {i : Nat} (h : v.length ≤ i) : v.getD i 0 = 0 := by simp [List.getD, List.getElem?_eq_none h]
theorem getD_range {n i : Nat} (f : Nat → Int) (h : i < n) : ((List.range n).map f).getD i 0 = f i := by simp [List.getD, h]
def vadd (a b : List Int) : List Int := (List.range (max a.length b.length)).map fun i => a.getD i 0 + b.getD i 0
def vsub (a b : List Int) : List Int := (List.range (max a.length b.length)).map fun i => a.getD i 0 - b.getD i 0
def vtimes (v : List Int) (x : Int) : List Int := v.map fun z => z * x
def vneg (v : List Int) : List Int := v.map fun z => -z
def vcut (v : List Int) (k : Nat) : List Int := (List.range k).map fun i => v.getD i 0
theorem vadd_len (a b : List Int) : (vadd a b).length = max a.length b.length := by simp [vadd]
theorem vsub_len (a b : List Int) : (vsub a b).length = max a.length b.length := by simp [vsub]
theorem vtimes_len (v : List Int) (x : Int) : (vtimes v x).length = v.length := by simp [vtimes]
theorem vneg_len (v : List Int) : (vneg v).length = v.length := by simp [vneg]
theorem vcut_len (v : List Int) (k : Nat) : (vcut v k).length = k := by simp [vcut]
theorem vadd_at (a b : List Int) (i : Nat) : (vadd a b).getD i 0 = a.getD i 0 + b.getD i 0 := by
  by_cases h : i < max a.length b.length
  · exact getD_range _ h
  · rw [getD_out (by rw [vadd_len]; omega), getD_out (v := a) (by omega), getD_out (v := b) (by omega)]; rfl
theorem vsub_at (a b : List Int) (i : Nat) : (vsub a b).getD i 0 = a.getD i 0 - b.getD i 0 := by
  by_cases h : i < max a.length b.length
  · exact getD_range _ h
  · rw [getD_out (by rw [vsub_len]; omega), getD_out (v := a) (by omega), getD_out (v := b) (by omega)]; rfl
theorem map_at (v : List Int) (f : Int → Int) (h0 : f 0 = 0) (i : Nat) : (v.map f).getD i 0 = f (v.getD i 0) := by
  by_cases h : i < v.length
  · simp [List.getD, h]
  · rw [getD_out (by simp; omega), getD_out (v := v) (by omega), h0]
theorem vtimes_at (v : List Int) (x : Int) (i : Nat) : (vtimes v x).getD i 0 = v.getD i 0 * x := map_at v (fun z => z * x) (by simp) i
theorem vneg_at (v : List Int) (i : Nat) : (vneg v).getD i 0 = -v.getD i 0 := map_at v (fun z => -z) (by simp) i
theorem vcut_at (v : List Int) (k i : Nat) : (vcut v k).getD i 0 = if i < k then v.getD i 0 else 0 := by
  by_cases h : i < k
  · rw [if_pos h]; exact getD_range _ h
  · rw [if_neg h]; exact getD_out (by rw [vcut_len]; omega)
/-- Two vectors of one length with the same places. -/
theorem vec_ext {a b : List Int} (hl : a.length = b.length) (h : ∀ i, i < a.length → a.getD i 0 = b.getD i 0) : a = b := by
  apply List.ext_getElem hl
  intro i h1 h2
  have := h i h1
  simpa [List.getD, h1, h2] using this
theorem vneg_times (v : List Int) : vneg v = vtimes v (-1) := List.map_congr_left fun z _ => by omega
theorem vsub_neg (a b : List Int) : vsub a b = vadd a (vneg b) :=
  vec_ext (by rw [vsub_len, vadd_len, vneg_len]) fun i _ => by rw [vsub_at, vadd_at, vneg_at]; omega

/-- The sum of the first n. -/
def sumN : Nat → (Nat → Int) → Int
  | 0, _ => 0
  | n + 1, f => sumN n f + f n
theorem sumN_congr {n : Nat} {f g : Nat → Int} (h : ∀ i, i < n → f i = g i) : sumN n f = sumN n g := by
  induction n with
  | zero => rfl
  | succ n ih => rw [sumN, sumN, ih (fun i hi => h i (by omega)), h n (by omega)]
theorem sumN_more {n : Nat} {f : Nat → Int} (h : ∀ i, n ≤ i → f i = 0) (k : Nat) : sumN (n + k) f = sumN n f := by
  induction k with
  | zero => rfl
  | succ k ih => rw [← Nat.add_assoc, sumN, ih, h _ (by omega)]; omega
theorem sumN_upto {n m : Nat} {f : Nat → Int} (h : ∀ i, n ≤ i → f i = 0) (hm : n ≤ m) : sumN m f = sumN n f := by
  obtain ⟨k, rfl⟩ := Nat.le.dest hm
  exact sumN_more h k
theorem sumN_add (n : Nat) (f g : Nat → Int) : sumN n (fun i => f i + g i) = sumN n f + sumN n g := by
  induction n with
  | zero => rfl
  | succ n ih => rw [sumN, sumN, sumN, ih]; omega
theorem sumN_mul (n : Nat) (f : Nat → Int) (x : Int) : sumN n (fun i => x * f i) = x * sumN n f := by
  induction n with
  | zero => simp [sumN]
  | succ n ih => rw [sumN, sumN, ih, Int.mul_add]
theorem sumN_le {n : Nat} {f g : Nat → Int} (h : ∀ i, f i ≤ g i) : sumN n f ≤ sumN n g := by
  induction n with
  | zero => exact Int.le_refl _
  | succ n ih => rw [sumN, sumN]; have := h n; omega
theorem sumN_nonneg {n : Nat} {f : Nat → Int} (h : ∀ i, 0 ≤ f i) : 0 ≤ sumN n f := by
  induction n with
  | zero => exact Int.le_refl _
  | succ n ih => rw [sumN]; have := h n; omega
theorem sumN_zero {n : Nat} {f : Nat → Int} (h : ∀ i, 0 ≤ f i) : sumN n f = 0 ↔ ∀ i, i < n → f i = 0 := by
  induction n with
  | zero => exact ⟨fun _ i hi => absurd hi (by omega), fun _ => rfl⟩
  | succ n ih =>
    have h1 := sumN_nonneg (n := n) h
    have h2 := h n
    rw [sumN]
    constructor
    · intro e i hi
      by_cases hin : i = n
      · subst hin; omega
      · exact (ih.1 (by omega)) i (by omega)
    · intro hall
      rw [ih.2 (fun i hi => hall i (by omega)), hall n (by omega)]; rfl

def vdot (a b : List Int) : Int := sumN a.length fun i => a.getD i 0 * b.getD i 0
def vnorm (v : List Int) : Int := sumN v.length fun i => ((v.getD i 0).natAbs : Int)
theorem vdot_upto {a b : List Int} {n : Nat} (h : a.length ≤ n) : (sumN n fun i => a.getD i 0 * b.getD i 0) = vdot a b :=
  sumN_upto (fun i hi => by rw [getD_out hi, Int.zero_mul]) h
theorem vdot_comm (a b : List Int) : vdot a b = vdot b a := by
  rw [← vdot_upto (n := max a.length b.length) (by omega), ← vdot_upto (a := b) (n := max a.length b.length) (by omega)]
  exact sumN_congr fun i _ => Int.mul_comm _ _
theorem vdot_add (a b c : List Int) : vdot (vadd a b) c = vdot a c + vdot b c := by
  rw [← vdot_upto (a := a) (n := (vadd a b).length) (by rw [vadd_len]; omega), ← vdot_upto (a := b) (n := (vadd a b).length) (by rw [vadd_len]; omega), ← sumN_add]
  exact sumN_congr fun i _ => by rw [vadd_at, Int.add_mul]
theorem vdot_times (a c : List Int) (x : Int) : vdot (vtimes a x) c = x * vdot a c := by
  unfold vdot
  rw [vtimes_len, ← sumN_mul]
  exact sumN_congr fun i _ => by rw [vtimes_at, Int.mul_assoc, Int.mul_left_comm]
theorem vnorm_upto {v : List Int} {n : Nat} (h : v.length ≤ n) : (sumN n fun i => ((v.getD i 0).natAbs : Int)) = vnorm v :=
  sumN_upto (fun i hi => by rw [getD_out hi]; rfl) h
theorem vnorm_add (a b : List Int) : vnorm (vadd a b) ≤ vnorm a + vnorm b := by
  rw [← vnorm_upto (v := a) (n := (vadd a b).length) (by rw [vadd_len]; omega), ← vnorm_upto (v := b) (n := (vadd a b).length) (by rw [vadd_len]; omega), ← sumN_add]
  exact sumN_le fun i => by rw [vadd_at]; omega
theorem vnorm_neg (v : List Int) : vnorm (vneg v) = vnorm v := by
  unfold vnorm
  rw [vneg_len]
  exact sumN_congr fun i _ => by rw [vneg_at, Int.natAbs_neg]
/-- All places are 0. -/
def vnought (v : List Int) : Bool := decide (∀ i, i < v.length → v.getD i 0 = 0)
theorem vnought_iff (v : List Int) : vnought v = true ↔ ∀ i, v.getD i 0 = 0 := by
  unfold vnought
  rw [decide_eq_true_iff]
  refine ⟨fun h i => ?_, fun h i _ => h i⟩
  by_cases hi : i < v.length
  · exact h i hi
  · exact getD_out (by omega)
theorem vnorm_zero (v : List Int) : (decide (vnorm v = 0)) = vnought v := by
  rw [Bool.eq_iff_iff, decide_eq_true_iff, vnought_iff]
  unfold vnorm
  rw [sumN_zero (fun _ => by omega)]
  refine ⟨fun h i => ?_, fun h i _ => by rw [h]; rfl⟩
  by_cases hi : i < v.length
  · have := h i hi; omega
  · exact getD_out (by omega)
theorem sq_zero {x : Int} (h : x * x = 0) : x = 0 := by
  rcases Int.mul_eq_zero.1 h with h | h <;> exact h
theorem sq_nonneg (x : Int) : 0 ≤ x * x := by
  rcases Int.le_total 0 x with h | h
  · exact Int.mul_nonneg h h
  · exact Int.mul_nonneg_of_nonpos_of_nonpos h h
theorem vdot_zero (v : List Int) : (decide (vdot v v = 0)) = vnought v := by
  rw [Bool.eq_iff_iff, decide_eq_true_iff, vnought_iff]
  unfold vdot
  rw [sumN_zero (fun _ => sq_nonneg _)]
  refine ⟨fun h i => ?_, fun h i _ => by rw [h]; rfl⟩
  by_cases hi : i < v.length
  · exact sq_zero (h i hi)
  · exact getD_out (by omega)
theorem vnorm_nonneg (v : List Int) : 0 ≤ vnorm v := sumN_nonneg fun _ => by omega
theorem vdot_nonneg (v : List Int) : 0 ≤ vdot v v := sumN_nonneg fun _ => sq_nonneg _

/-- How two compare: at the first place at which they differ. -/
def IsCmp (a b : List Int) (c : Int) : Prop := (c = 0 ∧ ∀ i, a.getD i 0 = b.getD i 0) ∨ ∃ k, (∀ i, i < k → a.getD i 0 = b.getD i 0) ∧ a.getD k 0 ≠ b.getD k 0 ∧ c = (a.getD k 0 - b.getD k 0).sign
theorem isCmp_inj {a b : List Int} {c d : Int} (h : IsCmp a b c) (h' : IsCmp a b d) : c = d := by
  rcases h with ⟨rfl, h⟩ | ⟨k, h1, h2, rfl⟩ <;> rcases h' with ⟨rfl, h'⟩ | ⟨l, h3, h4, rfl⟩
  · rfl
  · exact absurd (h l) h4
  · exact absurd (h' k) h2
  · rcases Nat.lt_trichotomy k l with e | e | e
    · exact absurd (h3 k e) h2
    · subst e; rfl
    · exact absurd (h1 l e) h4
theorem IsCmp.swap {a b : List Int} {c : Int} (h : IsCmp a b c) : IsCmp b a (-c) := by
  rcases h with ⟨rfl, h⟩ | ⟨k, h1, h2, rfl⟩
  · exact Or.inl ⟨rfl, fun i => (h i).symm⟩
  · refine Or.inr ⟨k, fun i hi => (h1 i hi).symm, Ne.symm h2, ?_⟩
    rw [← Int.sign_neg]; congr 1; omega
theorem sgn_cases {x : Int} (h : x ≠ 0) : (0 < x ∧ x.sign = 1) ∨ (x < 0 ∧ x.sign = -1) := by
  rcases Int.lt_trichotomy x 0 with e | e | e
  · exact Or.inr ⟨e, Int.sign_eq_neg_one_of_neg e⟩
  · exact absurd e h
  · exact Or.inl ⟨e, Int.sign_eq_one_of_pos e⟩
theorem IsCmp.trans_le {a b d : List Int} {x y z : Int} (h1 : IsCmp a b x) (h2 : IsCmp b d y) (h3 : IsCmp a d z) (hx : x ≤ 0) (hy : y ≤ 0) : z ≤ 0 := by
  rcases h1 with ⟨rfl, h1⟩ | ⟨k, k1, k2, rfl⟩ <;> rcases h2 with ⟨rfl, h2⟩ | ⟨l, l1, l2, rfl⟩ <;> rcases h3 with ⟨rfl, h3⟩ | ⟨m, m1, m2, rfl⟩ <;> try omega
  · exact absurd ((h1 m).trans (h2 m)) m2
  · rcases sgn_cases (x := b.getD l 0 - d.getD l 0) (by omega) with ⟨p, q⟩ | ⟨p, q⟩
    · omega
    · have e : m = l := by
        rcases Nat.lt_trichotomy m l with e | e | e
        · exact absurd ((h1 m).trans (l1 m e)) m2
        · exact e
        · exact absurd ((h1 l).symm.trans (m1 l e)) l2
      subst e
      have := h1 m
      rw [Int.sign_eq_neg_one_of_neg (by omega)]; omega
  · rcases sgn_cases (x := a.getD k 0 - b.getD k 0) (by omega) with ⟨p, q⟩ | ⟨p, q⟩
    · omega
    · have e : m = k := by
        rcases Nat.lt_trichotomy m k with e | e | e
        · exact absurd ((k1 m e).trans (h2 m)) m2
        · exact e
        · exact absurd ((m1 k e).trans (h2 k).symm) k2
      subst e
      have := h2 m
      rw [Int.sign_eq_neg_one_of_neg (by omega)]; omega
  · rcases sgn_cases (x := a.getD k 0 - b.getD k 0) (by omega) with ⟨p, q⟩ | ⟨p, q⟩
    · omega
    rcases sgn_cases (x := b.getD l 0 - d.getD l 0) (by omega) with ⟨p', q'⟩ | ⟨p', q'⟩
    · omega
    rcases Nat.lt_trichotomy k l with e | e | e
    · have hm : m = k := by
        rcases Nat.lt_trichotomy m k with f | f | f
        · exact absurd ((k1 m f).trans (l1 m (by omega))) m2
        · exact f
        · have := m1 k f; have := l1 k e; omega
      subst hm
      have := l1 m e
      rw [Int.sign_eq_neg_one_of_neg (by omega)]; omega
    · subst e
      have hm : m = k := by
        rcases Nat.lt_trichotomy m k with f | f | f
        · exact absurd ((k1 m f).trans (l1 m f)) m2
        · exact f
        · have := m1 k f; omega
      subst hm
      rw [Int.sign_eq_neg_one_of_neg (by omega)]; omega
    · have hm : m = l := by
        rcases Nat.lt_trichotomy m l with f | f | f
        · exact absurd ((k1 m (by omega)).trans (l1 m f)) m2
        · exact f
        · have := m1 l f; have := k1 l e; omega
      subst hm
      have := k1 m e
      rw [Int.sign_eq_neg_one_of_neg (by omega)]; omega
theorem IsCmp.zero {a b : List Int} {c : Int} (h : IsCmp a b c) : c = 0 ↔ ∀ i, a.getD i 0 = b.getD i 0 := by
  rcases h with ⟨rfl, h⟩ | ⟨k, h1, h2, rfl⟩
  · exact ⟨fun _ => h, fun _ => rfl⟩
  · refine ⟨fun e => ?_, fun e => absurd (e k) h2⟩
    have := Int.sign_eq_zero_iff_zero.1 e
    omega
theorem IsCmp.trans_eq {a b d : List Int} {x y z : Int} (h1 : IsCmp a b x) (h2 : IsCmp b d y) (h3 : IsCmp a d z) (hx : x = 0) (hy : y = 0) : z = 0 :=
  h3.zero.2 fun i => (h1.zero.1 hx i).trans (h2.zero.1 hy i)
theorem IsCmp.add {a b : List Int} {c : Int} (h : IsCmp a b c) (d : List Int) : IsCmp (vadd a d) (vadd b d) c := by
  rcases h with ⟨rfl, h⟩ | ⟨k, h1, h2, rfl⟩
  · exact Or.inl ⟨rfl, fun i => by rw [vadd_at, vadd_at, h i]⟩
  · refine Or.inr ⟨k, fun i hi => by rw [vadd_at, vadd_at, h1 i hi], by rw [vadd_at, vadd_at]; omega, ?_⟩
    rw [vadd_at, vadd_at]; congr 1; omega
theorem IsCmp.sub {a b : List Int} {c : Int} (h : IsCmp a b c) : decide (c = 0) = vnought (vsub a b) := by
  rw [Bool.eq_iff_iff, decide_eq_true_iff, vnought_iff, h.zero]
  exact ⟨fun e i => by rw [vsub_at, e i]; omega, fun e i => by have := e i; rw [vsub_at] at this; omega⟩
/-- Vectors with the same places compare as 0. -/
theorem isCmp_same {a b : List Int} (h : ∀ i, a.getD i 0 = b.getD i 0) : IsCmp a b 0 := Or.inl ⟨rfl, h⟩
theorem zeros_at (v : List Int) (k i : Nat) : (v ++ List.replicate k 0).getD i 0 = v.getD i 0 := by
  by_cases h : i < v.length
  · simp [List.getD, List.getElem?_append_left h]
  · rw [getD_out (v := v) (by omega)]
    by_cases h2 : i < v.length + k
    · rw [List.getD, List.getElem?_append_right (by omega), List.getElem?_replicate]
      split <;> rfl
    · exact getD_out (by simp; omega)
theorem vdot_same {a b c : List Int} (h : ∀ i, a.getD i 0 = b.getD i 0) : vdot a c = vdot b c := by
  rw [← vdot_upto (a := a) (n := max a.length b.length) (by omega), ← vdot_upto (a := b) (n := max a.length b.length) (by omega)]
  exact sumN_congr fun i _ => by rw [h i]
theorem vnorm_same {a b : List Int} (h : ∀ i, a.getD i 0 = b.getD i 0) : vnorm a = vnorm b := by
  rw [← vnorm_upto (v := a) (n := max a.length b.length) (by omega), ← vnorm_upto (v := b) (n := max a.length b.length) (by omega)]
  exact sumN_congr fun i _ => by rw [h i]

#print axioms IsCmp.trans_le
#print axioms IsCmp.sub
#print axioms vdot_add
#print axioms vnorm_zero
#print axioms zeros_at
end Go.Proofs.Ytdbimajopclndaa
