/-
  What ':=' of Ints makes (boxes1 .. boxes5), and small laws of worlds and vectors that many texts use.
-/
import Derived.Test.YtdbimajopclndaaVec
namespace Go.Proofs.Ytdbimajopclndaa
open Go.RowKit Lb

theorem below_new (w : World) (o : Obj) : Below w.heap.size w (w.alloc o) := (Below.refl _ _).alloc (Nat.le_refl _) o
theorem below_put {B : Nat} {w w2 : World} (h : Below B w w2) {g : Nat} (hB : B ≤ g) (b' : Bool) (ao' : Option Addr) (len' cap' : Nat) : Below B w (put w2 g b' ao' len' cap') := (h.setCell (by simpa using hB) _).setCell (by simpa using hB) _
theorem boxes1 (w : World) (b0 : Bool) (a0 : Option Addr) (l0 c0 : Nat) {W : World} (hW : W = (w.alloc (.cells #[.bool b0, .slice a0 l0 c0] 26))) : Box W w.heap.size b0 a0 l0 c0 ∧ Below w.heap.size w W := by
  subst hW
  exact ⟨(box_new w b0 a0 l0 c0 rfl), ((Below.refl _ _).alloc (Nat.le_refl _) (.cells #[.bool b0, .slice a0 l0 c0] 26))⟩
theorem boxes2 (w : World) (b0 : Bool) (a0 : Option Addr) (l0 c0 : Nat) (b1 : Bool) (a1 : Option Addr) (l1 c1 : Nat) {W : World} (hW : W = ((w.alloc (.cells #[.bool b0, .slice a0 l0 c0] 26)).alloc (.cells #[.bool b1, .slice a1 l1 c1] 26))) : Box W w.heap.size b0 a0 l0 c0 ∧ Box W (w.heap.size + 1) b1 a1 l1 c1 ∧ Below w.heap.size w W := by
  subst hW
  exact ⟨((box_new w b0 a0 l0 c0 rfl).alloc (.cells #[.bool b1, .slice a1 l1 c1] 26)), (box_new (w.alloc (.cells #[.bool b0, .slice a0 l0 c0] 26)) b1 a1 l1 c1 (n := (w.heap.size + 1)) (by simp)), (((Below.refl _ _).alloc (Nat.le_refl _) (.cells #[.bool b0, .slice a0 l0 c0] 26)).alloc (by simp <;> omega) (.cells #[.bool b1, .slice a1 l1 c1] 26))⟩
theorem boxes3 (w : World) (b0 : Bool) (a0 : Option Addr) (l0 c0 : Nat) (b1 : Bool) (a1 : Option Addr) (l1 c1 : Nat) (b2 : Bool) (a2 : Option Addr) (l2 c2 : Nat) {W : World} (hW : W = (((w.alloc (.cells #[.bool b0, .slice a0 l0 c0] 26)).alloc (.cells #[.bool b1, .slice a1 l1 c1] 26)).alloc (.cells #[.bool b2, .slice a2 l2 c2] 26))) : Box W w.heap.size b0 a0 l0 c0 ∧ Box W (w.heap.size + 1) b1 a1 l1 c1 ∧ Box W (w.heap.size + 2) b2 a2 l2 c2 ∧ Below w.heap.size w W := by
  subst hW
  exact ⟨(((box_new w b0 a0 l0 c0 rfl).alloc (.cells #[.bool b1, .slice a1 l1 c1] 26)).alloc (.cells #[.bool b2, .slice a2 l2 c2] 26)), ((box_new (w.alloc (.cells #[.bool b0, .slice a0 l0 c0] 26)) b1 a1 l1 c1 (n := (w.heap.size + 1)) (by simp)).alloc (.cells #[.bool b2, .slice a2 l2 c2] 26)), (box_new ((w.alloc (.cells #[.bool b0, .slice a0 l0 c0] 26)).alloc (.cells #[.bool b1, .slice a1 l1 c1] 26)) b2 a2 l2 c2 (n := (w.heap.size + 2)) (by simp)), ((((Below.refl _ _).alloc (Nat.le_refl _) (.cells #[.bool b0, .slice a0 l0 c0] 26)).alloc (by simp <;> omega) (.cells #[.bool b1, .slice a1 l1 c1] 26)).alloc (by simp <;> omega) (.cells #[.bool b2, .slice a2 l2 c2] 26))⟩
theorem boxes4 (w : World) (b0 : Bool) (a0 : Option Addr) (l0 c0 : Nat) (b1 : Bool) (a1 : Option Addr) (l1 c1 : Nat) (b2 : Bool) (a2 : Option Addr) (l2 c2 : Nat) (b3 : Bool) (a3 : Option Addr) (l3 c3 : Nat) {W : World} (hW : W = ((((w.alloc (.cells #[.bool b0, .slice a0 l0 c0] 26)).alloc (.cells #[.bool b1, .slice a1 l1 c1] 26)).alloc (.cells #[.bool b2, .slice a2 l2 c2] 26)).alloc (.cells #[.bool b3, .slice a3 l3 c3] 26))) : Box W w.heap.size b0 a0 l0 c0 ∧ Box W (w.heap.size + 1) b1 a1 l1 c1 ∧ Box W (w.heap.size + 2) b2 a2 l2 c2 ∧ Box W (w.heap.size + 3) b3 a3 l3 c3 ∧ Below w.heap.size w W := by
  subst hW
  exact ⟨((((box_new w b0 a0 l0 c0 rfl).alloc (.cells #[.bool b1, .slice a1 l1 c1] 26)).alloc (.cells #[.bool b2, .slice a2 l2 c2] 26)).alloc (.cells #[.bool b3, .slice a3 l3 c3] 26)), (((box_new (w.alloc (.cells #[.bool b0, .slice a0 l0 c0] 26)) b1 a1 l1 c1 (n := (w.heap.size + 1)) (by simp)).alloc (.cells #[.bool b2, .slice a2 l2 c2] 26)).alloc (.cells #[.bool b3, .slice a3 l3 c3] 26)), ((box_new ((w.alloc (.cells #[.bool b0, .slice a0 l0 c0] 26)).alloc (.cells #[.bool b1, .slice a1 l1 c1] 26)) b2 a2 l2 c2 (n := (w.heap.size + 2)) (by simp)).alloc (.cells #[.bool b3, .slice a3 l3 c3] 26)), (box_new (((w.alloc (.cells #[.bool b0, .slice a0 l0 c0] 26)).alloc (.cells #[.bool b1, .slice a1 l1 c1] 26)).alloc (.cells #[.bool b2, .slice a2 l2 c2] 26)) b3 a3 l3 c3 (n := (w.heap.size + 3)) (by simp)), (((((Below.refl _ _).alloc (Nat.le_refl _) (.cells #[.bool b0, .slice a0 l0 c0] 26)).alloc (by simp <;> omega) (.cells #[.bool b1, .slice a1 l1 c1] 26)).alloc (by simp <;> omega) (.cells #[.bool b2, .slice a2 l2 c2] 26)).alloc (by simp <;> omega) (.cells #[.bool b3, .slice a3 l3 c3] 26))⟩
theorem boxes5 (w : World) (b0 : Bool) (a0 : Option Addr) (l0 c0 : Nat) (b1 : Bool) (a1 : Option Addr) (l1 c1 : Nat) (b2 : Bool) (a2 : Option Addr) (l2 c2 : Nat) (b3 : Bool) (a3 : Option Addr) (l3 c3 : Nat) (b4 : Bool) (a4 : Option Addr) (l4 c4 : Nat) {W : World} (hW : W = (((((w.alloc (.cells #[.bool b0, .slice a0 l0 c0] 26)).alloc (.cells #[.bool b1, .slice a1 l1 c1] 26)).alloc (.cells #[.bool b2, .slice a2 l2 c2] 26)).alloc (.cells #[.bool b3, .slice a3 l3 c3] 26)).alloc (.cells #[.bool b4, .slice a4 l4 c4] 26))) : Box W w.heap.size b0 a0 l0 c0 ∧ Box W (w.heap.size + 1) b1 a1 l1 c1 ∧ Box W (w.heap.size + 2) b2 a2 l2 c2 ∧ Box W (w.heap.size + 3) b3 a3 l3 c3 ∧ Box W (w.heap.size + 4) b4 a4 l4 c4 ∧ Below w.heap.size w W := by
  subst hW
  exact ⟨(((((box_new w b0 a0 l0 c0 rfl).alloc (.cells #[.bool b1, .slice a1 l1 c1] 26)).alloc (.cells #[.bool b2, .slice a2 l2 c2] 26)).alloc (.cells #[.bool b3, .slice a3 l3 c3] 26)).alloc (.cells #[.bool b4, .slice a4 l4 c4] 26)), ((((box_new (w.alloc (.cells #[.bool b0, .slice a0 l0 c0] 26)) b1 a1 l1 c1 (n := (w.heap.size + 1)) (by simp)).alloc (.cells #[.bool b2, .slice a2 l2 c2] 26)).alloc (.cells #[.bool b3, .slice a3 l3 c3] 26)).alloc (.cells #[.bool b4, .slice a4 l4 c4] 26)), (((box_new ((w.alloc (.cells #[.bool b0, .slice a0 l0 c0] 26)).alloc (.cells #[.bool b1, .slice a1 l1 c1] 26)) b2 a2 l2 c2 (n := (w.heap.size + 2)) (by simp)).alloc (.cells #[.bool b3, .slice a3 l3 c3] 26)).alloc (.cells #[.bool b4, .slice a4 l4 c4] 26)), ((box_new (((w.alloc (.cells #[.bool b0, .slice a0 l0 c0] 26)).alloc (.cells #[.bool b1, .slice a1 l1 c1] 26)).alloc (.cells #[.bool b2, .slice a2 l2 c2] 26)) b3 a3 l3 c3 (n := (w.heap.size + 3)) (by simp)).alloc (.cells #[.bool b4, .slice a4 l4 c4] 26)), (box_new ((((w.alloc (.cells #[.bool b0, .slice a0 l0 c0] 26)).alloc (.cells #[.bool b1, .slice a1 l1 c1] 26)).alloc (.cells #[.bool b2, .slice a2 l2 c2] 26)).alloc (.cells #[.bool b3, .slice a3 l3 c3] 26)) b4 a4 l4 c4 (n := (w.heap.size + 4)) (by simp)), ((((((Below.refl _ _).alloc (Nat.le_refl _) (.cells #[.bool b0, .slice a0 l0 c0] 26)).alloc (by simp <;> omega) (.cells #[.bool b1, .slice a1 l1 c1] 26)).alloc (by simp <;> omega) (.cells #[.bool b2, .slice a2 l2 c2] 26)).alloc (by simp <;> omega) (.cells #[.bool b3, .slice a3 l3 c3] 26)).alloc (by simp <;> omega) (.cells #[.bool b4, .slice a4 l4 c4] 26))⟩
theorem IK.up {w : World} {b : Bool} {ao : Option Addr} {len cap k l : Nat} {z : Int} (h : IK w b ao len cap z k) (hl : k ≤ l) : IK w b ao len cap z l := ⟨h.1, h.2.1, Nat.lt_of_lt_of_le h.2.2 (Bp_le hl)⟩
theorem FK.up {w : World} {b : Bool} {ao : Option Addr} {len cap k l : Nat} {z : Int} (h : FK w b ao len cap z k) (hl : k ≤ l) : FK w b ao len cap z l := ⟨h.1, Nat.lt_of_lt_of_le h.2 (Bp_le hl)⟩
theorem grown_set1 (w : World) (g o : Nat) (x : Value) : w.grownBy (w.setCell ⟨g, o, none⟩ x) (some g) := by
  refine ⟨rfl, rfl, rfl, by simp [World.setCell], fun j hj hne => ?_⟩
  have hne' : j ≠ g := fun e => hne (by rw [e])
  rw [Below.heap_setCell _ _ _ _ (by simpa using hne')]
theorem grown_set2 (w : World) (g o o' : Nat) (x y : Value) : w.grownBy ((w.setCell ⟨g, o, none⟩ x).setCell ⟨g, o', none⟩ y) (some g) := by
  refine ⟨rfl, rfl, rfl, by simp [World.setCell], fun j hj hne => ?_⟩
  have hne' : j ≠ g := fun e => hne (by rw [e])
  rw [Below.heap_setCell _ _ _ _ (by simpa using hne'), Below.heap_setCell _ _ _ _ (by simpa using hne')]
theorem some_ne {g g' : Nat} (h : g ≠ g') : (some g : Option Nat) ≠ some g' := fun e => h (Option.some.inj e)
theorem noLimb_some {w : World} {g : Nat} (h : NoLimb w g) : ∀ g', some g = some g' → NoLimb w g' := fun _ e => Option.some.inj e ▸ h
theorem OwnV.len {w : World} {base : Nat} {ao : Option Addr} {n cap k : Nat} {zs : List Int} (h : OwnV w base ao n cap zs k) : zs.length = n := h.1.len_eq
theorem own_ge {w : World} {base : Nat} {ao : Option Addr} {n cap k : Nat} {zs : List Int} (h : OwnV w base ao n cap zs k) : ∀ g, (Value.slice ao n cap).ownBlock = some g → base ≤ g := by
  obtain ⟨_, ⟨cs, h2⟩, _⟩ := h
  exact fun g e => (h2.lt g e).1
theorem take_next {zs : List Int} {i : Nat} (h : i < zs.length) : zs.take (i + 1) = zs.take i ++ [zs.getD i 0] := by
  rw [List.take_succ_eq_append_getElem h]
  simp [List.getD, h]
theorem map_of_each {f : Int → Int} {zs ps : List Int} {n : Nat} (h1 : zs.length = n) (h2 : ps.length = n) (h : ∀ j, j < n → ps.getD j 0 = f (zs.getD j 0)) : ps = zs.map f := by
  apply List.ext_getElem (by simp [h1, h2])
  intro j hj1 hj2
  have := h j (by omega)
  simp [List.getD, show j < ps.length by omega, show j < zs.length by omega] at this
  simpa using this
theorem set_each {f : Int → Int} {zs ps : List Int} {i : Nat} {z : Int} (hi : i < ps.length) (h : ∀ j, j < i → ps.getD j 0 = f (zs.getD j 0)) (hz : z = f (zs.getD i 0)) : ∀ j, j < i + 1 → (ps.set i z).getD j 0 = f (zs.getD j 0) := by
  intro j hj
  by_cases e : j = i
  · subst e
    rw [show (ps.set j z).getD j 0 = z by simp [List.getD, hi]]
    exact hz
  · rw [show (ps.set i z).getD j 0 = ps.getD j 0 by simp [List.getD, List.getElem?_set_ne (Ne.symm e)]]
    exact h j (by omega)
theorem snoc_each {rs : List Int} {j : Nat} {f : Nat → Int} (hl : rs.length = j) (h : ∀ i, i < j → rs.getD i 0 = f i) : ∀ i, i < j + 1 → (rs ++ [f j]).getD i 0 = f i := by
  intro i hi
  by_cases e : i = j
  · subst e
    simp [List.getD, ← hl]
  · rw [show (rs ++ [f j]).getD i 0 = rs.getD i 0 by simp [List.getD, List.getElem?_append_left (show i < rs.length by omega)]]
    exact h i (by omega)

#print axioms boxes5
#print axioms set_each
end Go.Proofs.Ytdbimajopclndaa
