/-
  What Pivots and Is of package hnf tell (IN PARTS).
-/
import Derived.Test.YtjebmlogchoehaaGreatHHnf
import Derived.Test.YtjebmlogchoehaaGreatJE
import Derived.Deep.CutRange
namespace Go.Proofs.YtjebmlogchoehaaGreat
open Go.RowKit Lb
set_option maxRecDepth 20000

theorem bool_ofH (p : Prop) : ∃ q : Bool, (q = true ↔ p) := by
  by_cases h : p
  · exact ⟨true, by simp [h]⟩
  · exact ⟨false, by simp [h]⟩
theorem PivZ.bd {v : List Int} {z : Int} (h : PivZ v z) (hl : v.length ≤ 9223372036854775807) : In64' z := by
  rcases h with ⟨e, _⟩ | ⟨q, e, hq⟩
  · unfold In64'; omega
  · have := hq.lt
    unfold In64'; omega
theorem put_piv {rs : List (List Int)} {ps : List Int} {i : Nat} {z : Int} (hi : i < ps.length) (h : ∀ j, j < i → PivZ (rs.getD j []) (ps.getD j 0)) (hz : PivZ (rs.getD i []) z) : ∀ j, j < i + 1 → PivZ (rs.getD j []) ((ps.set i z).getD j 0) := by
  intro j hj
  by_cases e : j = i
  · subst e
    rw [show (ps.set j z).getD j 0 = z by simp [List.getD, hi]]
    exact hz
  · rw [show (ps.set i z).getD j 0 = ps.getD j 0 by simp [List.getD, List.getElem?_set_ne (Ne.symm e)]]
    exact h j (by omega)
theorem HForm.nought {hs : List (List Int)} {p : Nat → Nat} (hf : HForm hs p) {i : Nat} (hi : i < hs.length) (h0 : ∀ j, (hs.getD i []).getD j 0 = 0) : False := (hf.isPivot hi).2 (h0 _)
theorem HForm.take_agree {hs : List (List Int)} {p q : Nat → Nat} {i : Nat} (hf : HForm hs p) (hg : HForm (hs.take i) q) {t : Nat} (ht : t < i) (hi : i ≤ hs.length) : p t = q t := hform_agree (hf.take i) hg (by rw [take_len hi]; exact ht)
/-- The last pivot: -1 ahead of the first row. -/
def LastIs (p : Nat → Nat) (i : Nat) (L : Int) : Prop := (i = 0 ∧ L = -1) ∨ ∃ m, i = m + 1 ∧ L = (p m : Int)
theorem slice_front {g off n cap i : Nat} (hi : i ≤ n) (hc : n ≤ cap) : ∀ W, (Instr.sliceAt 22 (.slice (some ⟨g, off, none⟩) n cap) none (some (.int .i64 (i : Int))) none).run Tryz.prog W = .ok (.slice (some ⟨g, off, none⟩) i cap) W := by
  intro W
  have h0 : (0 : Int) ≤ (i : Int) := by omega
  simp [Instr.sliceAt, Instr.slice, Instr.sliceBounds, Instr.sliceBound, run_underlying Tryz.underlying22, go_sem, h0]
  exact fun e => absurd e (by omega)
end Go.Proofs.YtjebmlogchoehaaGreat
