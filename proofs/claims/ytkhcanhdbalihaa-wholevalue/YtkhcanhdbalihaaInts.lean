/-
  What an Int (a sign and a row of limbs) reads as: 'IntAt' (the whole number z, in whatever form), 'FormAt' (z in its one form); what whole.signed does.
-/
import Derived.Test.YtkhcanhdbalihaaVal
import Derived.Deep.RegionWith
import Derived.Deep.RegionHeld3
namespace Go.Proofs.Ytkhcanhdbalihaa
open Go.RowKit Lb

/-- The whole number that a sign and a size tell. -/
def sgnd (b : Bool) (N : Nat) : Int := if b then -(N : Int) else (N : Int)
theorem sgnd_true (N : Nat) : sgnd true N = -(N : Int) := rfl
theorem sgnd_false (N : Nat) : sgnd false N = (N : Int) := rfl
theorem sgnd_abs (b : Bool) (N : Nat) : (sgnd b N).natAbs = N := by cases b <;> simp [sgnd]
theorem sgnd_not (b : Bool) (N : Nat) : sgnd (!b) N = -(sgnd b N) := by cases b <;> simp [sgnd]
theorem sgnd_zero (b : Bool) : sgnd b 0 = 0 := by cases b <;> simp [sgnd]
theorem sgnd_neg (b : Bool) (N : Nat) : decide (sgnd b N < 0) = (b && decide (0 < N)) := by
  cases b
  · simp [sgnd]
  · by_cases h : 0 < N
    · simp [sgnd, h]
    · obtain rfl : N = 0 := by omega
      simp [sgnd]
/-- An Int that reads as z. -/
def IntAt (w : World) (b : Bool) (ao : Option Addr) (len cap : Nat) (z : Int) : Prop := ∃ N, ValAt w ao len cap N ∧ z = sgnd b N
/-- An Int that reads as z, in its one form. -/
def FormAt (w : World) (b : Bool) (ao : Option Addr) (len cap : Nat) (z : Int) : Prop := NumAt w ao len cap z.natAbs ∧ b = decide (z < 0)
theorem IntAt.later {w w' : World} {b : Bool} {ao : Option Addr} {len cap : Nat} {z : Int} (h : IntAt w b ao len cap z) (hb : Below w.heap.size w w') : IntAt w' b ao len cap z := by
  obtain ⟨N, h1, h2⟩ := h
  exact ⟨N, h1.later hb, h2⟩
theorem FormAt.later {w w' : World} {b : Bool} {ao : Option Addr} {len cap : Nat} {z : Int} (h : FormAt w b ao len cap z) (hb : Below w.heap.size w w') : FormAt w' b ao len cap z := ⟨h.1.later hb, h.2⟩
theorem FormAt.int {w : World} {b : Bool} {ao : Option Addr} {len cap : Nat} {z : Int} (h : FormAt w b ao len cap z) : IntAt w b ao len cap z := by
  refine ⟨_, h.1.val, ?_⟩
  rw [h.2]
  by_cases hz : z < 0
  · rw [decide_eq_true hz, sgnd_true]; omega
  · rw [decide_eq_false hz, sgnd_false]; omega
theorem RowAt.int {w : World} {ao : Option Addr} {len cap : Nat} {xs : List Nat} (h : RowAt w ao len cap xs) (b : Bool) : IntAt w b ao len cap (sgnd b (Lb.val xs)) := ⟨_, h.val, rfl⟩
theorem IntAt.val {w : World} {b : Bool} {ao : Option Addr} {len cap : Nat} {z : Int} (h : IntAt w b ao len cap z) : ValAt w ao len cap z.natAbs := by
  obtain ⟨N, h1, rfl⟩ := h
  rw [sgnd_abs]; exact h1
theorem IntAt.eq {w : World} {b : Bool} {ao : Option Addr} {len cap : Nat} {z : Int} (h : IntAt w b ao len cap z) : z = sgnd b z.natAbs := by
  obtain ⟨N, _, rfl⟩ := h
  rw [sgnd_abs]
theorem IntAt.not {w : World} {b : Bool} {ao : Option Addr} {len cap : Nat} {z : Int} (h : IntAt w b ao len cap z) : IntAt w (!b) ao len cap (-z) := by
  obtain ⟨N, h1, rfl⟩ := h
  exact ⟨N, h1, (sgnd_not b N).symm⟩
theorem IntAt.lt {w : World} {b : Bool} {ao : Option Addr} {len cap k : Nat} {z : Int} (h : IntAt w b ao len cap z) (hk : len ≤ k) : z.natAbs < Bp k := h.val.lt hk
theorem IntAt.cap_max {w : World} {b : Bool} {ao : Option Addr} {len cap : Nat} {z : Int} (h : IntAt w b ao len cap z) : len ≤ cap ∧ cap ≤ maxLen := by
  obtain ⟨N, ⟨xs, hx, _⟩, _⟩ := h
  exact ⟨hx.cap_le, hx.cap_max⟩
theorem FormAt.len_le {w : World} {b : Bool} {ao : Option Addr} {len cap k : Nat} {z : Int} (h : FormAt w b ao len cap z) (hk : z.natAbs < Bp k) : len ≤ k := h.1.len_le hk
theorem formAt_of {w : World} {b b' : Bool} {ao : Option Addr} {len cap N : Nat} (h : NumAt w ao len cap N) (hb : b' = (b && decide (0 < N))) : FormAt w b' ao len cap (sgnd b N) := by
  refine ⟨by rw [sgnd_abs]; exact h, ?_⟩
  rw [sgnd_neg, hb]

theorem bcell {W w1 : World} (hb : Below W.heap.size W w1) : (∀ b o, b < W.heap.size → w1.cell? ⟨b, o, none⟩ = W.cell? ⟨b, o, none⟩) ∧ (∀ b o, b < W.heap.size → w1.frozen? ⟨b, o, none⟩ = W.frozen? ⟨b, o, none⟩) :=
  ⟨fun b o h => hb.cell (p := ⟨b, o, none⟩) h, fun b o h => hb.frozen (p := ⟨b, o, none⟩) h⟩
theorem bmore {W w1 : World} (hb : Below W.heap.size W w1) {n : Nat} (hn : n < W.heap.size) : n < w1.heap.size := Nat.lt_of_lt_of_le hn hb.size

/-- No cell of block g is a limb. -/
def NoLimb (w : World) (g : Nat) : Prop := ∀ j k, w.cell? ⟨g, j, none⟩ ≠ some (.int .u32 k)
theorem NoLimb.later {w w' : World} {g : Nat} (h : NoLimb w g) (hb : Below w.heap.size w w') (hg : g < w.heap.size) : NoLimb w' g := fun j k => by
  rw [hb.cell (p := ⟨g, j, none⟩) hg]; exact h j k
theorem noLimb_new (w : World) (b : Bool) (ao : Option Addr) (len cap : Nat) (t : TypeId) : NoLimb (w.alloc (.cells #[.bool b, .slice ao len cap] t)) w.heap.size := by
  intro j k h
  match j with
  | 0 => simp at h
  | 1 => simp at h
  | j + 2 => simp at h
theorem NoLimb.alloc {w : World} {g : Nat} (h : NoLimb w g) (hg : g < w.heap.size) (o : Obj) : NoLimb (w.alloc o) g := h.later ((Below.refl _ _).alloc (Nat.le_refl _) o) hg
theorem RowAt.noLimb {w : World} {ao : Option Addr} {len cap g : Nat} {xs : List Nat} (h : RowAt w ao len cap xs) (hn : NoLimb w g) (hp : 0 < len) : ∃ b off, ao = some ⟨b, off, none⟩ ∧ b < w.heap.size ∧ b ≠ g ∧ ∀ i, i < len → w.cell? ⟨b, off + i, none⟩ = some (.int .u32 (lim xs i : Int)) := by
  obtain ⟨b, off, e, hlt, hc⟩ := h.cells hp
  refine ⟨b, off, e, hlt, fun e' => ?_, hc⟩
  subst e'
  exact hn _ _ (hc 0 hp)
theorem RowAt.boxed {w : World} {ao : Option Addr} {len cap g : Nat} {xs : List Nat} (h : RowAt w ao len cap xs) (hn : NoLimb w g) (x y : Value) : RowAt ((w.setCell ⟨g, 0, none⟩ x).setCell ⟨g, 1, none⟩ y) ao len cap xs := by
  refine ⟨h.len_eq, h.cap_le, h.cap_max, h.nil_cap, h.small, fun hp => ?_⟩
  obtain ⟨b, off, e, hlt, hne, hc⟩ := h.noLimb hn hp
  refine ⟨b, off, e, by simpa [World.setCell] using hlt, fun i hi => ?_⟩
  rw [← hc i hi]
  refine World.cell?_of_block (w := w) ?_
  rw [Below.heap_setCell _ _ _ _ (by simpa using hne), Below.heap_setCell _ _ _ _ (by simpa using hne)]
theorem FormAt.boxed {w : World} {b : Bool} {ao : Option Addr} {len cap g : Nat} {z : Int} (h : FormAt w b ao len cap z) (hn : NoLimb w g) (x y : Value) : FormAt ((w.setCell ⟨g, 0, none⟩ x).setCell ⟨g, 1, none⟩ y) b ao len cap z := by
  obtain ⟨⟨xs, h1, h2⟩, h3⟩ := h
  exact ⟨⟨xs, h1.boxed hn x y, h2⟩, h3⟩
/-- An Int is stored as the call's result, in a block of the call's own. -/
theorem int_end {B g : Nat} {w w2 : World} {b : Bool} {ao : Option Addr} {len cap : Nat} {z : Int} (hW : Below B w w2) (hB : B ≤ g) (hn : NoLimb w2 g) (h : FormAt w2 b ao len cap z) (x y : Value) :
    FormAt ((w2.setCell ⟨g, 0, none⟩ x).setCell ⟨g, 1, none⟩ y) b ao len cap z ∧ Below B w ((w2.setCell ⟨g, 0, none⟩ x).setCell ⟨g, 1, none⟩ y) :=
  ⟨h.boxed hn x y, (hW.setCell (by simpa using hB) _).setCell (by simpa using hB) _⟩

/-- A block that holds an Int: a parameter's, a local's, a result's. -/
def Box (w : World) (g : Nat) (b : Bool) (ao : Option Addr) (len cap : Nat) : Prop := w.heap[g]? = some (.cells #[.bool b, .slice ao len cap] 24)
theorem Box.lt {w : World} {g : Nat} {b : Bool} {ao : Option Addr} {len cap : Nat} (h : Box w g b ao len cap) : g < w.heap.size := lt_of_block h
theorem Box.facts {w : World} {g : Nat} {b : Bool} {ao : Option Addr} {len cap : Nat} (h : Box w g b ao len cap) : w.cell? ⟨g, 0, none⟩ = some (.bool b) ∧ w.cell? ⟨g, 1, none⟩ = some (.slice ao len cap) ∧ w.frozen? ⟨g, 0, none⟩ = false ∧ w.frozen? ⟨g, 1, none⟩ = false := by
  unfold Box at h
  refine ⟨?_, ?_, ?_, ?_⟩ <;> simp [World.cell?, World.frozen?, h]
theorem Box.noLimb {w : World} {g : Nat} {b : Bool} {ao : Option Addr} {len cap : Nat} (h : Box w g b ao len cap) : NoLimb w g := by
  intro j k e
  unfold Box at h
  match j with
  | 0 => simp [World.cell?, h] at e
  | 1 => simp [World.cell?, h] at e
  | j + 2 => simp [World.cell?, h] at e
theorem Box.later {w w' : World} {g : Nat} {b : Bool} {ao : Option Addr} {len cap : Nat} (h : Box w g b ao len cap) (hb : Below w.heap.size w w') : Box w' g b ao len cap := by
  unfold Box at *
  rw [hb.block g (lt_of_block h)]; exact h
theorem Box.drew {w : World} {g : Nat} {b : Bool} {ao : Option Addr} {len cap : Nat} (h : Box w g b ao len cap) : Box w.drew g b ao len cap := h
theorem Box.alloc {w : World} {g : Nat} {b : Bool} {ao : Option Addr} {len cap : Nat} (h : Box w g b ao len cap) (o : Obj) : Box (w.alloc o) g b ao len cap := h.later ((Below.refl _ _).alloc (Nat.le_refl _) o)
theorem box_new (w : World) (b : Bool) (ao : Option Addr) (len cap : Nat) {n : Nat} (hn : n = w.heap.size) : Box (w.alloc (.cells #[.bool b, .slice ao len cap] 24)) n b ao len cap := by
  subst hn
  unfold Box
  show (w.heap.push _)[w.heap.size]? = _
  simp

/-- What a box holds, two cells, stays there behind a call that writes nothing old. -/
theorem held1 {W w1 : World} (hb : Below W.heap.size W w1) {g : Nat} {x y : Value} (hg : g < W.heap.size) (h : W.cell? ⟨g, 0, none⟩ = some x ∧ W.cell? ⟨g, 1, none⟩ = some y) : w1.cell? ⟨g, 0, none⟩ = some x ∧ w1.cell? ⟨g, 1, none⟩ = some y :=
  ⟨(hb.cell (p := ⟨g, 0, none⟩) hg).trans h.1, (hb.cell (p := ⟨g, 1, none⟩) hg).trans h.2⟩
theorem held2 {W w1 : World} (hb : Below W.heap.size W w1) {g : Nat} {x y u v : Value} (hg : g + 1 < W.heap.size) (h : W.cell? ⟨g, 0, none⟩ = some x ∧ W.cell? ⟨g, 1, none⟩ = some y ∧ W.cell? ⟨g + 1, 0, none⟩ = some u ∧ W.cell? ⟨g + 1, 1, none⟩ = some v) :
    w1.cell? ⟨g, 0, none⟩ = some x ∧ w1.cell? ⟨g, 1, none⟩ = some y ∧ w1.cell? ⟨g + 1, 0, none⟩ = some u ∧ w1.cell? ⟨g + 1, 1, none⟩ = some v :=
  ⟨(held1 hb (by omega) ⟨h.1, h.2.1⟩).1, (held1 hb (by omega) ⟨h.1, h.2.1⟩).2, held1 hb hg h.2.2⟩
theorem held1_set {W : World} {g g' : Nat} {x y x' y' : Value} (hg : g ≠ g') (h : W.cell? ⟨g, 0, none⟩ = some x ∧ W.cell? ⟨g, 1, none⟩ = some y) : ((W.setCell ⟨g', 0, none⟩ x').setCell ⟨g', 1, none⟩ y').cell? ⟨g, 0, none⟩ = some x ∧ ((W.setCell ⟨g', 0, none⟩ x').setCell ⟨g', 1, none⟩ y').cell? ⟨g, 1, none⟩ = some y := by
  have e : ((W.setCell ⟨g', 0, none⟩ x').setCell ⟨g', 1, none⟩ y').heap[g]? = W.heap[g]? := by
    rw [Below.heap_setCell _ _ _ _ (by simpa using hg), Below.heap_setCell _ _ _ _ (by simpa using hg)]
  exact ⟨(World.cell?_of_block (w := W) (a := ⟨g, 0, none⟩) e).trans h.1, (World.cell?_of_block (w := W) (a := ⟨g, 1, none⟩) e).trans h.2⟩
theorem held2_set {W : World} {g g' : Nat} {x y u v x' y' : Value} (hg : g + 1 < g') (h : W.cell? ⟨g, 0, none⟩ = some x ∧ W.cell? ⟨g, 1, none⟩ = some y ∧ W.cell? ⟨g + 1, 0, none⟩ = some u ∧ W.cell? ⟨g + 1, 1, none⟩ = some v) :
    ((W.setCell ⟨g', 0, none⟩ x').setCell ⟨g', 1, none⟩ y').cell? ⟨g, 0, none⟩ = some x ∧ ((W.setCell ⟨g', 0, none⟩ x').setCell ⟨g', 1, none⟩ y').cell? ⟨g, 1, none⟩ = some y ∧ ((W.setCell ⟨g', 0, none⟩ x').setCell ⟨g', 1, none⟩ y').cell? ⟨g + 1, 0, none⟩ = some u ∧ ((W.setCell ⟨g', 0, none⟩ x').setCell ⟨g', 1, none⟩ y').cell? ⟨g + 1, 1, none⟩ = some v :=
  ⟨(held1_set (by omega) ⟨h.1, h.2.1⟩).1, (held1_set (by omega) ⟨h.1, h.2.1⟩).2, held1_set (by omega) h.2.2⟩
/-- The world behind a box for each parameter and one for the result. -/
theorem below2 (w : World) (o1 o2 : Obj) : Below w.heap.size w ((w.alloc o1).alloc o2) := ((Below.refl _ _).alloc (Nat.le_refl _) o1).alloc (by simp) o2
theorem below3 (w : World) (o1 o2 o3 : Obj) : Below w.heap.size w (((w.alloc o1).alloc o2).alloc o3) := (below2 w o1 o2).alloc (by simp; omega) o3
theorem noLimb2 (w : World) (o1 : Obj) (b : Bool) (ao : Option Addr) (len cap : Nat) (t : TypeId) : NoLimb ((w.alloc o1).alloc (.cells #[.bool b, .slice ao len cap] t)) (w.heap.size + 1) := by
  have := noLimb_new (w.alloc o1) b ao len cap t
  simpa using this
theorem noLimb3 (w : World) (o1 o2 : Obj) (b : Bool) (ao : Option Addr) (len cap : Nat) (t : TypeId) : NoLimb (((w.alloc o1).alloc o2).alloc (.cells #[.bool b, .slice ao len cap] t)) (w.heap.size + 2) := by
  have := noLimb_new ((w.alloc o1).alloc o2) b ao len cap t
  simpa using this
theorem NoLimb.drew {w : World} {g : Nat} (h : NoLimb w g) : NoLimb w.drew g := h

set_option maxHeartbeats 400000 in
theorem signed_num (b : Bool) (aa : Option Addr) (la ca A : Nat) (w : World) (ha : NumAt w aa la ca A) :
    Calls Try.prog 31 #[.bool b, .slice aa la ca] w fun e w' => ∃ b', e = .returned (.agg #[.bool b', .slice aa la ca]) ∧ FormAt w' b' aa la ca (sgnd b A) ∧ Below w.heap.size w w' := by
  have hm : la ≤ maxLen := by
    obtain ⟨xs, hx, _⟩ := ha
    exact Nat.le_trans hx.cap_le hx.cap_max
  unfold maxLen at hm
  have hL := ha
  by_cases hz : A = 0
  · subst hz
    obtain rfl := ha.len_zero
    cases b
    all_goals
      go_enter Try.func31, Try.ntmps31
      go_wp2
      refine bodyPost_ret (v := .agg #[.bool false, .slice aa 0 ca]) (by simp [results, Try.results31, go_sem]) rfl ⟨false, rfl, ?_, (Below.refl _ _).alloc (Nat.le_refl _) _⟩
      exact (formAt_of hL (by simp)).later ((Below.refl _ _).alloc (Nat.le_refl _) _)
  · have hp := ha.len_pos (by omega)
    have hp' : (0 : Int) < (la : Int) := by omega
    have hA : 0 < A := by omega
    cases b
    all_goals
      go_enter Try.func31, Try.ntmps31
      go_wp2
      refine bodyPost_ret (v := .agg #[.bool _, .slice aa la ca]) (by simp [results, Try.results31, go_sem]; rfl) rfl ⟨_, rfl, ?_, (Below.refl _ _).alloc (Nat.le_refl _) _⟩
      exact (formAt_of hL (by simp [hA])).later ((Below.refl _ _).alloc (Nat.le_refl _) _)

#print axioms int_end
#print axioms signed_num
end Go.Proofs.Ytkhcanhdbalihaa
