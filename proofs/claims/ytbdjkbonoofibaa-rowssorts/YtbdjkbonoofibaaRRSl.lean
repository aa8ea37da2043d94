/-
  What the reference's Sort tells: the rows sorted, of the same ones the first.
-/
import Derived.Test.YtbdjkbonoofibaaRRef
namespace Go.Proofs.Ytbdjkbonoofibaa
open Go.RowKit Lb
set_option maxRecDepth 20000

theorem mo_one {w : World} {a : Option Addr} {l c k : Nat} {zs : List Int} (h : VF w a l c zs k) : MO (w.alloc (.cells #[.slice a l c] 24)) w.heap.size (some ⟨w.heap.size, 0, none⟩) 1 1 [zs] k := by
  refine ⟨⟨[(a, l, c)], ⟨World.ownsRow_lit (size := 1) w #[.slice a l c] 1 (Nat.le_refl _) (by unfold maxLen; omega) rfl, fun g hg j u hc => ?_⟩, fun i v hv => ?_⟩, rfl⟩
  · simp only [Value.ownBlock, Option.some.injEq] at hg
    subst hg
    match j with
    | 0 =>
      simp at hc
      exact ⟨(a, l, c), hc.symm⟩
    | j + 1 => simp at hc
  · match i with
    | 0 =>
      simp at hv
      subst hv
      exact h.later (below_new w _)
    | i + 1 => simp at hv
theorem MO.nil_or {w : World} {base : Nat} {ao : Option Addr} {n cap k : Nat} {rs : List (List Int)} (h : MO w base ao n cap rs k) : (ao = none ∧ n = 0 ∧ cap = 0) ∨ ∃ g, ao = some ⟨g, 0, none⟩ := by
  obtain ⟨⟨vs, hrow, _⟩, _⟩ := h
  rcases hrow.own.2 with ⟨e, e0⟩ | ⟨g, c, cur, e, _⟩
  · simp only [Value.slice.injEq] at e
    exact Or.inl ⟨e.1, e0, e.2.2⟩
  · simp only [Value.slice.injEq, true_and] at e
    exact Or.inr ⟨g, e.1⟩
/-- rows[:q:q]. -/
theorem slice_head {ao : Option Addr} {m cap q : Nat} (h : (ao = none ∧ m = 0 ∧ cap = 0) ∨ ∃ g, ao = some ⟨g, 0, none⟩) (hq : q ≤ m) (hc : m ≤ cap) (W : World) : (Instr.sliceAt 22 (.slice ao m cap) none (some (.int .i64 (q : Int))) (some (.int .i64 (q : Int)))).run Try.prog W = .ok (.slice ao q q) W := by
  have h0 : (0 : Int) ≤ (q : Int) := by omega
  rcases h with ⟨rfl, rfl, rfl⟩ | ⟨g, rfl⟩
  · obtain rfl : q = 0 := by omega
    simp [Instr.sliceAt, Instr.slice, Instr.sliceBounds, Instr.sliceBound, run_underlying Try.underlying22, go_sem]
  · simp [Instr.sliceAt, Instr.slice, Instr.sliceBounds, Instr.sliceBound, run_underlying Try.underlying22, go_sem, h0]
    exact fun e => absurd e (by omega)
/-- rows[q:]. -/
theorem slice_tail {w : World} {base : Nat} {ao : Option Addr} {m cap k q : Nat} {r : List (List Int)} (h : MO w base ao m cap r k) (hq : q ≤ m) : ∃ at2, (∀ W, (Instr.sliceAt 22 (.slice ao m cap) (some (.int .i64 (q : Int))) none none).run Try.prog W = .ok (.slice at2 (m - q) (cap - q)) W) ∧ MF w at2 (m - q) (cap - q) (r.drop q) k := by
  have h0 : (0 : Int) ≤ (q : Int) := by omega
  have hc := h.mf.cap_le
  have hmx := h.mf.cap_max
  have hl := h.len
  rcases h.nil_or with ⟨rfl, rfl, rfl⟩ | ⟨g, rfl⟩
  · obtain rfl : q = 0 := by omega
    refine ⟨none, fun W => ?_, by rw [List.eq_nil_of_length_eq_zero hl]; exact mf_nil w k⟩
    simp [Instr.sliceAt, Instr.slice, Instr.sliceBounds, Instr.sliceBound, run_underlying Try.underlying22, go_sem]
  · by_cases c : cap = q
    · have hqm : q = m := by omega
      subst hqm
      refine ⟨some ⟨g, 0, none⟩, fun W => ?_, ?_⟩
      · simp [Instr.sliceAt, Instr.slice, Instr.sliceBounds, Instr.sliceBound, run_underlying Try.underlying22, go_sem, h0, c]
      · rw [Nat.sub_self, List.drop_of_length_le (by omega)]
        exact ⟨rfl, Nat.zero_le _, by omega, fun e => by simp at e, fun e => absurd e (by omega)⟩
    · refine ⟨some ⟨g, 0 + q, none⟩, fun W => ?_, RowsOf.drop (R := fun w a l c zs => VF w a l c zs k) h.mf hq⟩
      simp [Instr.sliceAt, Instr.slice, Instr.sliceBounds, Instr.sliceBound, run_underlying Try.underlying22, go_sem, h0, c]
      exact fun e => absurd e (by omega)
#print axioms slice_tail
end Go.Proofs.Ytbdjkbonoofibaa
