/-
  What quot.Near tells (IN PARTS).
-/
import Derived.Test.YtobiogedknmijaaQDiv
import Derived.Deep.CutRange
namespace Go.Proofs.Ytobiogedknmijaa
open Go.RowKit Lb

theorem boxes2 (w : World) (b0 : Bool) (a0 : Option Addr) (l0 c0 : Nat) (b1 : Bool) (a1 : Option Addr) (l1 c1 : Nat) {W : World} (hW : W = ((w.alloc (.cells #[.bool b0, .slice a0 l0 c0] 24)).alloc (.cells #[.bool b1, .slice a1 l1 c1] 24))) : Box W w.heap.size b0 a0 l0 c0 ∧ Box W (w.heap.size + 1) b1 a1 l1 c1 ∧ Below w.heap.size w W := by
  subst hW
  exact ⟨((box_new w b0 a0 l0 c0 rfl).alloc (.cells #[.bool b1, .slice a1 l1 c1] 24)), (box_new (w.alloc (.cells #[.bool b0, .slice a0 l0 c0] 24)) b1 a1 l1 c1 (n := (w.heap.size + 1)) (by simp)), (((Below.refl _ _).alloc (Nat.le_refl _) (.cells #[.bool b0, .slice a0 l0 c0] 24)).alloc (by simp <;> omega) (.cells #[.bool b1, .slice a1 l1 c1] 24))⟩
theorem boxes3 (w : World) (b0 : Bool) (a0 : Option Addr) (l0 c0 : Nat) (b1 : Bool) (a1 : Option Addr) (l1 c1 : Nat) (b2 : Bool) (a2 : Option Addr) (l2 c2 : Nat) {W : World} (hW : W = (((w.alloc (.cells #[.bool b0, .slice a0 l0 c0] 24)).alloc (.cells #[.bool b1, .slice a1 l1 c1] 24)).alloc (.cells #[.bool b2, .slice a2 l2 c2] 24))) : Box W w.heap.size b0 a0 l0 c0 ∧ Box W (w.heap.size + 1) b1 a1 l1 c1 ∧ Box W (w.heap.size + 2) b2 a2 l2 c2 ∧ Below w.heap.size w W := by
  subst hW
  exact ⟨(((box_new w b0 a0 l0 c0 rfl).alloc (.cells #[.bool b1, .slice a1 l1 c1] 24)).alloc (.cells #[.bool b2, .slice a2 l2 c2] 24)), ((box_new (w.alloc (.cells #[.bool b0, .slice a0 l0 c0] 24)) b1 a1 l1 c1 (n := (w.heap.size + 1)) (by simp)).alloc (.cells #[.bool b2, .slice a2 l2 c2] 24)), (box_new ((w.alloc (.cells #[.bool b0, .slice a0 l0 c0] 24)).alloc (.cells #[.bool b1, .slice a1 l1 c1] 24)) b2 a2 l2 c2 (n := (w.heap.size + 2)) (by simp)), ((((Below.refl _ _).alloc (Nat.le_refl _) (.cells #[.bool b0, .slice a0 l0 c0] 24)).alloc (by simp <;> omega) (.cells #[.bool b1, .slice a1 l1 c1] 24)).alloc (by simp <;> omega) (.cells #[.bool b2, .slice a2 l2 c2] 24))⟩

theorem near_code {x y : Int} (hy : 0 < y) : near x y = if x % y + x % y - y < 0 then x / y else x / y + 1 := by
  have h1 := Int.emod_nonneg x (show y ≠ 0 by omega)
  have h2 := Int.emod_lt_of_pos x hy
  have h3 := Int.mul_ediv_add_emod x y
  split
  · rw [near_pos hy]
    have : x / y * y = y * (x / y) := Int.mul_comm _ _
    omega
  · rw [near_pos hy]
    have : (x / y + 1) * y = y * (x / y) + y := by rw [Int.add_mul, Int.one_mul, Int.mul_comm]
    omega
theorem near_turn (x y : Int) : near x y = near (if y < 0 then -x else x) (if y < 0 then -y else y) := by
  by_cases c : y < 0
  · rw [if_pos c, if_pos c]; exact near_neg c
  · rw [if_neg c, if_neg c]

end Go.Proofs.Ytobiogedknmijaa
