/-
  An Int that came in, opened: its sign, and its limbs as a row.
-/
import Derived.Test.YtkhcanhdbalihaaInts
import Derived.Lib.SmallJoins
namespace Go.Proofs.Ytkhcanhdbalihaa
open Go.ChangeShapes Go.WideShapes Go.ChangeAt Go.RowKit Go.Joins Lb

theorem cellsInt : Try.prog.cellsOf 24 = 2 := by kernel_rfl

theorem intIn_cells {H : Type} {enc : TypeId × Value → H} {W : World} {base : Nat} {held : Bool} {fuel : Nat} {ao : Option Addr} {len cap : Nat} {y : DataW H × List MemPlace}
    (hf : DataW.trod enc Try.prog W base (fun _ => true) held fuel 22 [.slice ao len cap] = some y) : ∃ xs, RowAt W ao len cap xs := by
  rcases open_ints Try.underlying22 Try.underlying31 (by kernel_rfl) hf with ⟨hcs, _⟩ | ⟨x, l, c, zs, hcs, _, hl, hm, hz, _, hcell, hwz⟩
  · simp at hcs
    obtain ⟨rfl, rfl, rfl⟩ := hcs
    exact rowAt_of (.inl ⟨rfl, rfl, rfl, rfl⟩ : _ ∨ _)
  · simp at hcs
    obtain ⟨rfl, rfl, rfl⟩ := hcs
    exact rowAt_of (zs := zs) (.inr ⟨_, rfl, hl, hm, by simpa using hz, hcell, hwz⟩)

theorem intIn_of {H : Type} {enc : TypeId × Value → H} {W : World} {r : Reach} {b0 base : Nat} {held : Bool} {v : Value} {d : DataW H} {p : List MemPlace}
    (hv : Value.okWide Try.prog W r b0 24 v) (h : DataW.Trod enc Try.prog W base (fun _ => true) held 24 v d p) :
    ∃ b ao len cap xs, v = .agg #[.bool b, .slice ao len cap] ∧ RowAt W ao len cap xs := by
  obtain ⟨c0, c1, y0, y1, m, rfl, rfl, rfl, hy0, hy1⟩ := open_agg2 Try.underlying24 (by kernel_rfl) cellsInt hv h
  obtain ⟨b, e0, _⟩ := DataW.trod_bool Try.underlying4 hy0
  obtain ⟨a, l, c, e1⟩ := slice_form Try.underlying22 hy1
  simp at e0 e1
  subst e0 e1
  obtain ⟨xs, hx⟩ := intIn_cells hy1
  exact ⟨b, a, l, c, xs, rfl, hx⟩

#print axioms intIn_of
end Go.Proofs.Ytkhcanhdbalihaa
