/-
  Plain mathematics: rows of which none is a sum of the others, in fractions; numbers of rows with rising pivots: as many limbs as the rows' number times theirs, and a few.
-/
import Derived.Test.YtjebmlogchoehaaGreatHSieg
import Derived.Test.YtjebmlogchoehaaGreatHLay
namespace Go.Proofs.YtjebmlogchoehaaGreat
open Go.RowKit Lb
set_option maxRecDepth 20000

/-- No sum of them is nought, but for the one with noughts alone. -/
def Indep (q : Nat) (G : Nat → Nat → Int) : Prop := ∀ c : Nat → Int, (∀ j, (sumN q fun i => c i * G i j) = 0) → ∀ i, i < q → c i = 0
/-- A multiple is a sum of them. -/
def Spans (q : Nat) (G : Nat → Nat → Int) (v : Nat → Int) : Prop := ∃ d : Int, d ≠ 0 ∧ InF q G fun j => d * v j
theorem spans_zero (q : Nat) (G : Nat → Nat → Int) : Spans q G fun _ => 0 := ⟨1, by decide, (inF_zero q G).eq fun _ => by simp⟩
theorem Spans.mul {q : Nat} {G : Nat → Nat → Int} {v : Nat → Int} (h : Spans q G v) (x : Int) : Spans q G fun j => x * v j := by
  obtain ⟨d, hd, hv⟩ := h
  exact ⟨d, hd, (hv.mul x).eq fun j => by rw [← Int.mul_assoc, ← Int.mul_assoc, Int.mul_comm d x]⟩
theorem Spans.add {q : Nat} {G : Nat → Nat → Int} {v u : Nat → Int} (h : Spans q G v) (h' : Spans q G u) : Spans q G fun j => v j + u j := by
  obtain ⟨d, hd, hv⟩ := h
  obtain ⟨e, he, hu⟩ := h'
  refine ⟨d * e, Int.mul_ne_zero hd he, ((hv.mul e).add (hu.mul d)).eq fun j => ?_⟩
  show d * e * (v j + u j) = e * (d * v j) + d * (e * u j)
  rw [Int.mul_add, Int.mul_comm d e, Int.mul_assoc e d, Int.mul_comm e d, Int.mul_assoc d e]
theorem Spans.eq {q : Nat} {G : Nat → Nat → Int} {v u : Nat → Int} (h : Spans q G v) (e : ∀ j, u j = v j) : Spans q G u := by
  obtain ⟨d, hd, hv⟩ := h
  exact ⟨d, hd, hv.eq fun j => by rw [e j]⟩
theorem spans_sum {q : Nat} {G : Nat → Nat → Int} (n : Nat) (f : Nat → Nat → Int) (h : ∀ i, i < n → Spans q G fun j => f i j) : Spans q G fun j => sumN n fun i => f i j := by
  induction n with
  | zero => exact spans_zero q G
  | succ n ih => exact (ih fun i hi => h i (by omega)).add (h n (by omega))
theorem spans_inF {q m : Nat} {G F : Nat → Nat → Int} {v : Nat → Int} (hv : InF m F v) (h : ∀ i, i < m → Spans q G (F i)) : Spans q G v := by
  obtain ⟨c, hc⟩ := hv
  exact (spans_sum m (fun i j => c i * F i j) fun i hi => (h i hi).mul (c i)).eq hc
theorem inF_pad {q : Nat} {G G' : Nat → Nat → Int} {v : Nat → Int} (h : InF q G v) (e : ∀ i, i < q → ∀ j, G' i j = G i j) : InF (q + 1) G' v := by
  obtain ⟨c, hc⟩ := h
  refine ⟨fun i => if i < q then c i else 0, fun j => ?_⟩
  show v j = (sumN q fun i => (if i < q then c i else 0) * G' i j) + (if q < q then c q else 0) * G' q j
  rw [if_neg (by omega), Int.zero_mul, Int.add_zero, hc j]
  exact sumN_congr fun i hi => by rw [if_pos hi, e i hi j]
/-- Rows can be picked of which none is a sum of the others, and of which all are sums. -/
theorem pick (F : Nat → Nat → Int) : ∀ m, ∃ (q : Nat) (s : Nat → Nat), (∀ i, i < q → s i < m) ∧ Indep q (fun i => F (s i)) ∧ ∀ i, i < m → Spans q (fun i => F (s i)) (F i)
  | 0 => ⟨0, fun i => i, fun i hi => absurd hi (by omega), fun _ _ i hi => absurd hi (by omega), fun i hi => absurd hi (by omega)⟩
  | m + 1 => by
    obtain ⟨q, s, h1, h2, h3⟩ := pick F m
    by_cases c : Spans q (fun i => F (s i)) (F m)
    · refine ⟨q, s, fun i hi => Nat.lt_succ_of_lt (h1 i hi), h2, fun i hi => ?_⟩
      by_cases e : i = m
      · rw [e]; exact c
      · exact h3 i (by omega)
    · have hs : ∀ i, i < q → ∀ j, F (if i = q then m else s i) j = F (s i) j := fun i hi j => by rw [if_neg (by omega)]
      refine ⟨q + 1, fun i => if i = q then m else s i, fun i hi => ?_, fun x hx => ?_, fun i hi => ?_⟩
      · show (if i = q then m else s i) < m + 1
        split
        · omega
        · have := h1 i (by omega); omega
      · have hx' : ∀ j, (sumN q fun i => x i * F (s i) j) + x q * F m j = 0 := fun j => by
          have this : (sumN q fun i => x i * F (if i = q then m else s i) j) + x q * F (if q = q then m else s q) j = 0 := hx j
          rw [if_pos rfl] at this
          rw [← this, sumN_congr (g := fun i => x i * F (if i = q then m else s i) j) fun i hi => by rw [hs i hi j]]
        have hq : x q = 0 := by
          by_cases e : x q = 0
          · exact e
          · exfalso
            refine c ⟨x q, e, fun i => -1 * x i, fun j => ?_⟩
            have := hx' j
            show x q * F m j = sumN q fun i => -1 * x i * F (s i) j
            rw [sumN_congr (g := fun i => -1 * (x i * F (s i) j)) fun i _ => by rw [Int.mul_assoc], sumN_mul]
            omega
        have h0 := h2 x fun j => by have := hx' j; rw [hq, Int.zero_mul, Int.add_zero] at this; exact this
        intro i hi
        by_cases e : i = q
        · rw [e]; exact hq
        · exact h0 i (by omega)
      · by_cases e : i = m
        · refine ⟨1, by decide, (inF_row (m := q + 1) (i := q) (by omega)).eq fun j => ?_⟩
          show 1 * F i j = F (if q = q then m else s q) j
          rw [if_pos rfl, e, Int.one_mul]
        · obtain ⟨d, hd, hv⟩ := h3 i (by omega)
          exact ⟨d, hd, inF_pad hv hs⟩
theorem bound_one (n : Nat) (f : Nat → Int) : ∃ A, 1 ≤ A ∧ ∀ i, i < n → (f i).natAbs ≤ A := by
  induction n with
  | zero => exact ⟨1, Nat.le_refl _, fun i hi => absurd hi (by omega)⟩
  | succ n ih =>
    obtain ⟨A, h1, h2⟩ := ih
    refine ⟨A + (f n).natAbs, by omega, fun i hi => ?_⟩
    by_cases e : i = n
    · subst e; omega
    · have := h2 i (by omega); omega
theorem bound_two (u : Nat) (x : Nat → Nat → Int) : ∀ r, ∃ A, 1 ≤ A ∧ ∀ t i, t < r → i < u → (x t i).natAbs ≤ A
  | 0 => ⟨1, Nat.le_refl _, fun t _ ht => absurd ht (by omega)⟩
  | r + 1 => by
    obtain ⟨A, h1, h2⟩ := bound_two u x r
    obtain ⟨B, h3, h4⟩ := bound_one u (x r)
    refine ⟨A + B, by omega, fun t i ht hi => ?_⟩
    by_cases e : t = r
    · subst e; have := h4 i hi; omega
    · have := h2 t i (by omega) hi; omega
theorem indep_pad {q u : Nat} {G : Nat → Nat → Int} {c : Nat → Int} (hi : Indep q G) (hu : u ≤ q) (h : ∀ j, (sumN u fun i => c i * G i j) = 0) : ∀ i, i < u → c i = 0 := by
  intro i hiu
  have h1 := hi (fun i => if i < u then c i else 0) (fun j => by
    show (sumN q fun i => (if i < u then c i else 0) * G i j) = 0
    rw [sumN_upto (n := u) (m := q) (f := fun i => (if i < u then c i else 0) * G i j) (fun i h => by rw [if_neg (by omega), Int.zero_mul]) hu, ← h j]
    exact sumN_congr fun i h => by rw [if_pos h]) i (by omega)
  have h2 : (if i < u then c i else 0) = 0 := h1
  rwa [if_pos hiu] at h2
/-- There are no more of them than of what they are sums of. -/
theorem Indep.le {q r : Nat} {G H : Nat → Nat → Int} (hi : Indep q G) (hs : ∀ i, i < q → Spans r H (G i)) : q ≤ r := by
  by_cases hq : q ≤ r
  · exact hq
  · exfalso
    have hx : ∀ i, ∃ (d : Int) (x : Nat → Int), i < q → d ≠ 0 ∧ ∀ j, d * G i j = sumN r fun t => x t * H t j := fun i => by
      by_cases c : i < q
      · obtain ⟨d, hd, x, hx⟩ := hs i c
        exact ⟨d, x, fun _ => ⟨hd, hx⟩⟩
      · exact ⟨0, fun _ => 0, fun h => absurd h c⟩
    obtain ⟨d, hd⟩ := Classical.axiomOfChoice hx
    obtain ⟨x, hdx⟩ := Classical.axiomOfChoice hd
    obtain ⟨A, hA1, hA⟩ := bound_two (r + 1) (fun t i => x i t) r
    obtain ⟨c, ⟨i0, hi0, hne⟩, _, hc⟩ := siegel_one (e := r) (A := A) (E := fun t i => x i t) hA1 fun t i ht hi => hA t i ht hi
    have h0 := indep_pad (u := r + 1) (c := fun i => c i * d i) hi (by omega) fun j => by
      show (sumN (r + 1) fun i => c i * d i * G i j) = 0
      rw [sumN_congr (g := fun i => sumN r fun t => c i * x i t * H t j) fun i hi => by
        rw [Int.mul_assoc, (hdx i (by omega)).2 j, ← sumN_mul]
        exact sumN_congr fun t _ => by rw [Int.mul_assoc]]
      rw [sumN_swap, ← sumN_nil0 r]
      refine sumN_congr fun t ht => ?_
      have := hc t ht
      rw [sumN_congr (g := fun i => x i t * c i * H t j) fun i _ => by rw [Int.mul_comm (c i)], sumN_mul_right (f := fun i => x i t * c i), this, Int.zero_mul]
    have h1 : c i0 * d i0 = 0 := h0 i0 hi0
    rcases Int.mul_eq_zero.1 h1 with e | e
    · exact hne e
    · exact (hdx i0 (by omega)).1 e

#print axioms pick
#print axioms Indep.le
end Go.Proofs.YtjebmlogchoehaaGreat
