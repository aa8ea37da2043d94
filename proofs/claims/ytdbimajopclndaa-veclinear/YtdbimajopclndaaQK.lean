/-
  The contracts of quot.Quo and quot.Divides with how many limbs a number has at most (IN PARTS); boxes of Ints written anew.
-/
import Derived.Test.YtdbimajopclndaaQuo
import Derived.Test.YtdbimajopclndaaJD
namespace Go.Proofs.Ytdbimajopclndaa
open Go.RowKit Lb

theorem tdiv_abs_le (x y : Int) : (x.tdiv y).natAbs ≤ x.natAbs := by
  rw [Int.natAbs_tdiv]; exact Nat.div_le_self _ _
theorem emod_abs_lt {x y : Int} (hy : y ≠ 0) : (x % y).natAbs < y.natAbs := by
  have h1 := Int.emod_nonneg x hy
  have h2 := Int.emod_lt x hy
  omega
/-- A world in which the Int in block g was written anew. -/
def put (w : World) (g : Nat) (b : Bool) (ao : Option Addr) (len cap : Nat) : World := (w.setCell ⟨g, 0, none⟩ (.bool b)).setCell ⟨g, 1, none⟩ (.slice ao len cap)
theorem put_other {w : World} {g g' : Nat} (hne : g ≠ g') (b : Bool) (ao : Option Addr) (len cap : Nat) : (put w g' b ao len cap).heap[g]? = w.heap[g]? := by
  unfold put
  rw [Below.heap_setCell _ _ _ _ (by simpa using hne), Below.heap_setCell _ _ _ _ (by simpa using hne)]
theorem Box.other {w : World} {g g' : Nat} {b : Bool} {ao : Option Addr} {len cap : Nat} (h : Box w g b ao len cap) (hne : g ≠ g') (b' : Bool) (ao' : Option Addr) (len' cap' : Nat) : Box (put w g' b' ao' len' cap') g b ao len cap := by
  unfold Box at *
  rw [put_other hne]; exact h
theorem Box.put {w : World} {g : Nat} {b : Bool} {ao : Option Addr} {len cap : Nat} (h : Box w g b ao len cap) (b' : Bool) (ao' : Option Addr) (len' cap' : Nat) : Box (put w g b' ao' len' cap') g b' ao' len' cap' := by
  have hl := h.lt
  unfold Box at *
  unfold Go.Proofs.Ytdbimajopclndaa.put
  have h' : w.heap[g]'hl = .cells #[.bool b, .slice ao len cap] 26 := by
    rw [Array.getElem?_eq_getElem hl] at h
    exact Option.some.inj h
  simp [World.setCell, Array.getElem_modify, h', hl]
theorem RowAt.putted {w : World} {ao : Option Addr} {len cap g : Nat} {xs : List Nat} (h : RowAt w ao len cap xs) (hn : NoLimb w g) (b' : Bool) (ao' : Option Addr) (len' cap' : Nat) : RowAt (put w g b' ao' len' cap') ao len cap xs := h.boxed hn _ _
theorem FK.put {w : World} {b : Bool} {ao : Option Addr} {len cap k g : Nat} {z : Int} (h : FK w b ao len cap z k) (hn : NoLimb w g) (b' : Bool) (ao' : Option Addr) (len' cap' : Nat) : FK (put w g b' ao' len' cap') b ao len cap z k := ⟨h.1.boxed hn _ _, h.2⟩
theorem IK.put {w : World} {b : Bool} {ao : Option Addr} {len cap k g : Nat} {z : Int} (h : IK w b ao len cap z k) (hn : NoLimb w g) (b' : Bool) (ao' : Option Addr) (len' cap' : Nat) : IK (put w g b' ao' len' cap') b ao len cap z k := by
  obtain ⟨⟨N, ⟨xs, h1, h2⟩, h3⟩, h4⟩ := h
  exact ⟨⟨N, ⟨xs, h1.boxed hn _ _, h2⟩, h3⟩, h4⟩
theorem Below.put {B : Nat} {w w2 : World} (h : Below B w w2) {g : Nat} (hB : B ≤ g) (b' : Bool) (ao' : Option Addr) (len' cap' : Nat) : Below B w (Go.Proofs.Ytdbimajopclndaa.put w2 g b' ao' len' cap') := (h.setCell (by simpa using hB) _).setCell (by simpa using hB) _
theorem put_size (w : World) (g : Nat) (b' : Bool) (ao' : Option Addr) (len' cap' : Nat) : (put w g b' ao' len' cap').heap.size = w.heap.size := by
  unfold put
  simp [World.setCell]

#print axioms Box.put
end Go.Proofs.Ytdbimajopclndaa
