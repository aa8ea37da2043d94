/-
  The contracts of quot.Quo and quot.Divides with how many limbs a number has at most (IN PARTS); boxes of Ints written anew.
-/
import Derived.Test.YtobiogedknmijaaQuo
namespace Go.Proofs.Ytobiogedknmijaa
open Go.RowKit Lb

theorem tdiv_abs_le (x y : Int) : (x.tdiv y).natAbs ≤ x.natAbs := by
  rw [Int.natAbs_tdiv]; exact Nat.div_le_self _ _
theorem emod_abs_lt {x y : Int} (hy : y ≠ 0) : (x % y).natAbs < y.natAbs := by
  have h1 := Int.emod_nonneg x hy
  have h2 := Int.emod_lt x hy
  omega
theorem quoK (b : Bool) (aa : Option Addr) (la ca : Nat) (x : Int) (k : Nat) (b' : Bool) (ab : Option Addr) (lb cb : Nat) (y : Int) (l : Nat) (w : World) (hx : IK w b aa la ca x k) (hy : IK w b' ab lb cb y l) (h0 : y ≠ 0) :
    Calls Try.prog 40 #[.agg #[.bool b, .slice aa la ca], .agg #[.bool b', .slice ab lb cb]] w fun e w' => ∃ b1 a1 l1 c1 b2 a2 l2 c2, e = .returned (.tuple #[.agg #[.bool b1, .slice a1 l1 c1], .agg #[.bool b2, .slice a2 l2 c2], .bool true]) ∧ FK w' b1 a1 l1 c1 (x.tdiv y) k ∧ FK w' b2 a2 l2 c2 (x.tmod y) l ∧ Below w.heap.size w w' := by
  refine (quo_yes _ _ _ _ x _ _ _ _ y _ hx.1 hy.1 (Nat.le_trans hx.2.1 (by omega)) (Nat.le_trans hy.2.1 (by omega)) h0).mono ?_
  rintro e w' ⟨b1, a1, l1, c1, b2, a2, l2, c2, rfl, h1, h2, hb⟩
  exact ⟨_, _, _, _, _, _, _, _, rfl, ⟨h1, Nat.lt_of_le_of_lt (tdiv_abs_le x y) hx.2.2⟩, ⟨h2, Nat.lt_trans (tmod_abs_lt h0) hy.2.2⟩, hb⟩
theorem quoN (b : Bool) (aa : Option Addr) (la ca : Nat) (x : Int) (k : Nat) (b' : Bool) (ab : Option Addr) (lb cb : Nat) (l : Nat) (w : World) (hx : IK w b aa la ca x k) (hy : IK w b' ab lb cb 0 l) :
    Calls Try.prog 40 #[.agg #[.bool b, .slice aa la ca], .agg #[.bool b', .slice ab lb cb]] w fun e w' => e = .returned (.tuple #[.agg #[.bool false, .slice none 0 0], .agg #[.bool false, .slice none 0 0], .bool false]) ∧ Below w.heap.size w w' :=
  quo_no _ _ _ _ x _ _ _ _ _ hx.1 hy.1
theorem dividesK (b : Bool) (aa : Option Addr) (la ca : Nat) (x : Int) (k : Nat) (b' : Bool) (ab : Option Addr) (lb cb : Nat) (y : Int) (l : Nat) (q : Bool) (w : World) (hx : IK w b aa la ca x k) (hy : IK w b' ab lb cb y l) (hq : q = decide (x ∣ y)) :
    Calls Try.prog 27 #[.agg #[.bool b, .slice aa la ca], .agg #[.bool b', .slice ab lb cb]] w fun e w' => e = .returned (.bool q) ∧ Below w.heap.size w w' :=
  divides_num _ _ _ _ x _ _ _ _ y q _ hx.1 hy.1 (Nat.le_trans hx.2.1 (by omega)) (Nat.le_trans hy.2.1 (by omega)) hq

/-- A world in which the Int in block g was written anew. -/
def put (w : World) (g : Nat) (b : Bool) (ao : Option Addr) (len cap : Nat) : World := (w.setCell ⟨g, 0, none⟩ (.bool b)).setCell ⟨g, 1, none⟩ (.slice ao len cap)
theorem put_other {w : World} {g g' : Nat} (hne : g ≠ g') (b : Bool) (ao : Option Addr) (len cap : Nat) : (put w g' b ao len cap).heap[g]? = w.heap[g]? := by
  unfold put
  rw [Below.heap_setCell _ _ _ _ (by simpa using hne), Below.heap_setCell _ _ _ _ (by simpa using hne)]
theorem Box.other {w : World} {g g' : Nat} {b : Bool} {ao : Option Addr} {len cap : Nat} (h : Box w g b ao len cap) (hne : g ≠ g') (b' : Bool) (ao' : Option Addr) (len' cap' : Nat) : Box (put w g' b' ao' len' cap') g b ao len cap := by
  unfold Box at *
  rw [put_other hne]; exact h
theorem Box.put {w : World} {g : Nat} {b : Bool} {ao : Option Addr} {len cap : Nat} (h : Box w g b ao len cap) (b' : Bool) (ao' : Option Addr) (len' cap' : Nat) : Box (put w g b' ao' len' cap') g b' ao' len' cap' := by
  have hl := h.lt
  unfold Box at *
  unfold Go.Proofs.Ytobiogedknmijaa.put
  have h' : w.heap[g]'hl = .cells #[.bool b, .slice ao len cap] 24 := by
    rw [Array.getElem?_eq_getElem hl] at h
    exact Option.some.inj h
  simp [World.setCell, Array.getElem_modify, h', hl]
theorem RowAt.putted {w : World} {ao : Option Addr} {len cap g : Nat} {xs : List Nat} (h : RowAt w ao len cap xs) (hn : NoLimb w g) (b' : Bool) (ao' : Option Addr) (len' cap' : Nat) : RowAt (put w g b' ao' len' cap') ao len cap xs := h.boxed hn _ _
theorem FK.put {w : World} {b : Bool} {ao : Option Addr} {len cap k g : Nat} {z : Int} (h : FK w b ao len cap z k) (hn : NoLimb w g) (b' : Bool) (ao' : Option Addr) (len' cap' : Nat) : FK (put w g b' ao' len' cap') b ao len cap z k := ⟨h.1.boxed hn _ _, h.2⟩
theorem IK.put {w : World} {b : Bool} {ao : Option Addr} {len cap k g : Nat} {z : Int} (h : IK w b ao len cap z k) (hn : NoLimb w g) (b' : Bool) (ao' : Option Addr) (len' cap' : Nat) : IK (put w g b' ao' len' cap') b ao len cap z k := by
  obtain ⟨⟨N, ⟨xs, h1, h2⟩, h3⟩, h4⟩ := h
  exact ⟨⟨N, ⟨xs, h1.boxed hn _ _, h2⟩, h3⟩, h4⟩
theorem Below.put {B : Nat} {w w2 : World} (h : Below B w w2) {g : Nat} (hB : B ≤ g) (b' : Bool) (ao' : Option Addr) (len' cap' : Nat) : Below B w (Go.Proofs.Ytobiogedknmijaa.put w2 g b' ao' len' cap') := (h.setCell (by simpa using hB) _).setCell (by simpa using hB) _
theorem put_size (w : World) (g : Nat) (b' : Bool) (ao' : Option Addr) (len' cap' : Nat) : (put w g b' ao' len' cap').heap.size = w.heap.size := by
  unfold put
  simp [World.setCell]

#print axioms Box.put
#print axioms quoK
#print axioms quoN
#print axioms dividesK
end Go.Proofs.Ytobiogedknmijaa
