/-
  What quot.Div tells (IN PARTS).
-/
import Derived.Test.YtobiogedknmijaaQK
import Derived.Test.YtobiogedknmijaaTill
namespace Go.Proofs.Ytobiogedknmijaa
open Go.RowKit Lb

theorem boxes1 (w : World) (b0 : Bool) (a0 : Option Addr) (l0 c0 : Nat) {W : World} (hW : W = (w.alloc (.cells #[.bool b0, .slice a0 l0 c0] 24))) : Box W w.heap.size b0 a0 l0 c0 ∧ Below w.heap.size w W := by
  subst hW
  exact ⟨(box_new w b0 a0 l0 c0 rfl), ((Below.refl _ _).alloc (Nat.le_refl _) (.cells #[.bool b0, .slice a0 l0 c0] 24))⟩
theorem below_new (w : World) (o : Obj) : Below w.heap.size w (w.alloc o) := (Below.refl _ _).alloc (Nat.le_refl _) o
theorem boxes4 (w : World) (b0 : Bool) (a0 : Option Addr) (l0 c0 : Nat) (b1 : Bool) (a1 : Option Addr) (l1 c1 : Nat) (b2 : Bool) (a2 : Option Addr) (l2 c2 : Nat) (b3 : Bool) (a3 : Option Addr) (l3 c3 : Nat) {W : World} (hW : W = ((((w.alloc (.cells #[.bool b0, .slice a0 l0 c0] 24)).alloc (.cells #[.bool b1, .slice a1 l1 c1] 24)).alloc (.cells #[.bool b2, .slice a2 l2 c2] 24)).alloc (.cells #[.bool b3, .slice a3 l3 c3] 24))) : Box W w.heap.size b0 a0 l0 c0 ∧ Box W (w.heap.size + 1) b1 a1 l1 c1 ∧ Box W (w.heap.size + 2) b2 a2 l2 c2 ∧ Box W (w.heap.size + 3) b3 a3 l3 c3 ∧ Below w.heap.size w W := by
  subst hW
  exact ⟨((((box_new w b0 a0 l0 c0 rfl).alloc (.cells #[.bool b1, .slice a1 l1 c1] 24)).alloc (.cells #[.bool b2, .slice a2 l2 c2] 24)).alloc (.cells #[.bool b3, .slice a3 l3 c3] 24)), (((box_new (w.alloc (.cells #[.bool b0, .slice a0 l0 c0] 24)) b1 a1 l1 c1 (n := (w.heap.size + 1)) (by simp)).alloc (.cells #[.bool b2, .slice a2 l2 c2] 24)).alloc (.cells #[.bool b3, .slice a3 l3 c3] 24)), ((box_new ((w.alloc (.cells #[.bool b0, .slice a0 l0 c0] 24)).alloc (.cells #[.bool b1, .slice a1 l1 c1] 24)) b2 a2 l2 c2 (n := (w.heap.size + 2)) (by simp)).alloc (.cells #[.bool b3, .slice a3 l3 c3] 24)), (box_new (((w.alloc (.cells #[.bool b0, .slice a0 l0 c0] 24)).alloc (.cells #[.bool b1, .slice a1 l1 c1] 24)).alloc (.cells #[.bool b2, .slice a2 l2 c2] 24)) b3 a3 l3 c3 (n := (w.heap.size + 3)) (by simp)), (((((Below.refl _ _).alloc (Nat.le_refl _) (.cells #[.bool b0, .slice a0 l0 c0] 24)).alloc (by simp <;> omega) (.cells #[.bool b1, .slice a1 l1 c1] 24)).alloc (by simp <;> omega) (.cells #[.bool b2, .slice a2 l2 c2] 24)).alloc (by simp <;> omega) (.cells #[.bool b3, .slice a3 l3 c3] 24))⟩

theorem below_put {B : Nat} {w w2 : World} (h : Below B w w2) {g : Nat} (hB : B ≤ g) (b' : Bool) (ao' : Option Addr) (len' cap' : Nat) : Below B w (put w2 g b' ao' len' cap') := (h.setCell (by simpa using hB) _).setCell (by simpa using hB) _
end Go.Proofs.Ytobiogedknmijaa
