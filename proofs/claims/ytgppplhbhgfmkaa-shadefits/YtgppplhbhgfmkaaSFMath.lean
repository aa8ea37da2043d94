/-
  Plain mathematics of how often one fits. (IN PARTS)
-/
import Derived.Test.YtgppplhbhgfmkaaJF
import Derived.Test.YtgppplhbhgfmkaaSNum
import Derived.Deep.CutRange
namespace Go.Proofs.Ytgppplhbhgfmkaa
open Go.RowKit Lb

theorem sgn_ge {x : Int} (h : 0 ≤ x) : ¬ x.sign < 0 := by
  rcases Int.lt_trichotomy x 0 with c | c | c
  · omega
  · rw [c]; decide
  · rw [Int.sign_eq_one_of_pos c]; decide
theorem quo_nat {x y : Int} (hb : belB x y = true) (h0 : x ≠ 0) : y.tdiv x = ((y.natAbs / x.natAbs : Nat) : Int) ∧ 1 ≤ y.natAbs / x.natAbs := by
  rw [belB_iff] at hb
  have hpos : 1 ≤ y.natAbs / x.natAbs := (Nat.le_div_iff_mul_le (by omega)).2 (by omega)
  refine ⟨?_, hpos⟩
  rcases Int.lt_or_le x 0 with hx | hx
  · obtain ⟨a, rfl⟩ : ∃ a : Nat, x = -(a : Int) := ⟨x.natAbs, by omega⟩
    obtain ⟨b, rfl⟩ : ∃ b : Nat, y = -(b : Int) := ⟨y.natAbs, by omega⟩
    rw [Int.neg_tdiv_neg, Int.natAbs_neg, Int.natAbs_neg, Int.natAbs_natCast, Int.natAbs_natCast]
    exact (Int.ofNat_tdiv b a).symm
  · obtain ⟨a, rfl⟩ : ∃ a : Nat, x = (a : Int) := ⟨x.natAbs, by omega⟩
    obtain ⟨b, rfl⟩ : ∃ b : Nat, y = (b : Int) := ⟨y.natAbs, by omega⟩
    rw [Int.natAbs_natCast, Int.natAbs_natCast]
    exact (Int.ofNat_tdiv b a).symm
theorem abs_quo (x y : Int) : ((y.natAbs : Nat) : Int).tdiv ((x.natAbs : Nat) : Int) = ((y.natAbs / x.natAbs : Nat) : Int) := (Int.ofNat_tdiv _ _).symm
/-- The loop ahead of place i: 0 says that no place has bounded it yet. -/
def FIn (a b : List Int) (i M : Nat) : Prop := (M = 0 ∧ ∀ j, j < i → a.getD j 0 = 0) ∨ (0 < M ∧ (∀ j, j < i → a.getD j 0 ≠ 0 → M ≤ (b.getD j 0).natAbs / (a.getD j 0).natAbs) ∧ ∃ j, a.getD j 0 ≠ 0 ∧ M = (b.getD j 0).natAbs / (a.getD j 0).natAbs)
theorem fIn_start (a b : List Int) : FIn a b 0 0 := Or.inl ⟨rfl, fun j hj => absurd hj (by omega)⟩
theorem FIn.skip {a b : List Int} {i M : Nat} (h : FIn a b i M) (h0 : a.getD i 0 = 0) : FIn a b (i + 1) M := by
  rcases h with ⟨e, h⟩ | ⟨e, h, h'⟩
  · refine Or.inl ⟨e, fun j hj => ?_⟩
    by_cases c : j = i
    · subst c; exact h0
    · exact h j (by omega)
  · refine Or.inr ⟨e, fun j hj hne => ?_, h'⟩
    by_cases c : j = i
    · subst c; exact absurd h0 hne
    · exact h j (by omega) hne
theorem FIn.less {a b : List Int} {i M Q : Nat} (h : FIn a b i M) (h0 : a.getD i 0 ≠ 0) (hQ : Q = (b.getD i 0).natAbs / (a.getD i 0).natAbs) (h1 : 1 ≤ Q) (hl : M = 0 ∨ Q < M) : FIn a b (i + 1) Q := by
  refine Or.inr ⟨h1, fun j hj hne => ?_, i, h0, hQ⟩
  by_cases c : j = i
  · subst c; omega
  · rcases h with ⟨e, h⟩ | ⟨e, h, h'⟩
    · exact absurd (h j (by omega)) hne
    · have := h j (by omega) hne
      omega
theorem FIn.keep {a b : List Int} {i M Q : Nat} (h : FIn a b i M) (hQ : Q = (b.getD i 0).natAbs / (a.getD i 0).natAbs) (hl : M ≠ 0) (hm : M ≤ Q) : FIn a b (i + 1) M := by
  rcases h with ⟨e, h⟩ | ⟨e, h, h'⟩
  · exact absurd e hl
  · refine Or.inr ⟨e, fun j hj hne => ?_, h'⟩
    by_cases c : j = i
    · subst c; omega
    · exact h j (by omega) hne
theorem FIn.done {a b : List Int} {i M : Nat} (h : FIn a b i M) (hi : a.length ≤ i) (hb : vbelow a b = true) : IsFit a b M := by
  rcases h with ⟨e, h⟩ | ⟨e, h, j, h0, h'⟩
  · subst e
    left
    refine ⟨(vnought_iff a).2 fun j => ?_, rfl⟩
    rcases Nat.lt_or_ge j i with c | c
    · exact h j c
    · exact getD_out (by omega)
  · refine fit_of_min (vnought_no h0) hb (fun j hne => ?_) ⟨j, h0, h'⟩
    rcases Nat.lt_or_ge j i with c | c
    · exact h j c hne
    · exact absurd (getD_out (by omega)) hne

end Go.Proofs.Ytgppplhbhgfmkaa
