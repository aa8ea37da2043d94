/-
  What quot.Quo, quot.Divides and the reference's Quo tell (IN PARTS).
-/
import Derived.Test.YtdbimajopclndaaQNum
import Derived.Test.YtdbimajopclndaaJD
import Derived.Test.YtdbimajopclndaaJB
namespace Go.Proofs.Ytdbimajopclndaa
open Go.RowKit Lb

theorem NoLimb.boxed {w : World} {g g' : Nat} (h : NoLimb w g) (hne : g ≠ g') (x y : Value) : NoLimb ((w.setCell ⟨g', 0, none⟩ x).setCell ⟨g', 1, none⟩ y) g := fun j k => by
  have e : ((w.setCell ⟨g', 0, none⟩ x).setCell ⟨g', 1, none⟩ y).heap[g]? = w.heap[g]? := by
    rw [Below.heap_setCell _ _ _ _ (by simpa using hne), Below.heap_setCell _ _ _ _ (by simpa using hne)]
  rw [World.cell?_of_block (w := w) (a := ⟨g, j, none⟩) e]
  exact h j k
/-- Two Ints are stored as the call's results. -/
theorem int_end2 {B g g' : Nat} {w w2 : World} {b b' : Bool} {ao ao' : Option Addr} {len cap len' cap' : Nat} {z z' : Int} (hW : Below B w w2) (hB : B ≤ g) (hB' : B ≤ g') (hne : g' ≠ g) (hn : NoLimb w2 g) (hn' : NoLimb w2 g') (h : FormAt w2 b ao len cap z) (h' : FormAt w2 b' ao' len' cap' z') (x y x' y' : Value) :
    FormAt ((((w2.setCell ⟨g, 0, none⟩ x).setCell ⟨g, 1, none⟩ y).setCell ⟨g', 0, none⟩ x').setCell ⟨g', 1, none⟩ y') b ao len cap z ∧ FormAt ((((w2.setCell ⟨g, 0, none⟩ x).setCell ⟨g, 1, none⟩ y).setCell ⟨g', 0, none⟩ x').setCell ⟨g', 1, none⟩ y') b' ao' len' cap' z' ∧ Below B w ((((w2.setCell ⟨g, 0, none⟩ x).setCell ⟨g, 1, none⟩ y).setCell ⟨g', 0, none⟩ x').setCell ⟨g', 1, none⟩ y') :=
  ⟨(h.boxed hn x y).boxed (hn'.boxed hne x y) x' y', (h'.boxed hn x y).boxed (hn'.boxed hne x y) x' y', (((hW.setCell (by simpa using hB) _).setCell (by simpa using hB) _).setCell (by simpa using hB') _).setCell (by simpa using hB') _⟩
theorem below4 (w : World) (o1 o2 o3 o4 : Obj) : Below w.heap.size w ((((w.alloc o1).alloc o2).alloc o3).alloc o4) := (below3 w o1 o2 o3).alloc (by simp; omega) o4

theorem signK' (b : Bool) (aa : Option Addr) (la ca : Nat) (x : Int) (s : Int) (w : World) (hx : IntAt w b aa la ca x) (hla : la ≤ 1000000) (hs : s = x.sign) : Calls Try.prog 54 #[.agg #[.bool b, .slice aa la ca]] w fun e w' => e = .returned (.int .i64 s) ∧ Below w.heap.size w w' := by
  subst hs
  exact sign_num _ _ _ _ x _ hx hla

end Go.Proofs.Ytdbimajopclndaa
