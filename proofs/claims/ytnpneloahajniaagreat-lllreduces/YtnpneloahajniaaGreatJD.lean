/-
 What an Int (a sign and a row of limbs) reads as: 'IntAt' (the whole number z, in whatever form), 'FormAt' (z in its one form); what whole.signed does.
-/
import Derived.Test.YtnpneloahajniaaGreatJA
import Derived.Deep.RegionWith
import Derived.Deep.RegionHeld3
import Derived.Lib.SmallJoins
import Derived.Test.YtnpneloahajniaaGreatJB
namespace Go.Proofs.YtnpneloahajniaaGreat
open Go.RowKit Lb

def sgnd (b : Bool) (N : Nat) : Int := if b then -(N : Int) else (N : Int)
theorem sgnd_true (N : Nat) : sgnd true N = -(N : Int) := rfl
theorem sgnd_false (N : Nat) : sgnd false N = (N : Int) := rfl
theorem sgnd_abs (b : Bool) (N : Nat) : (sgnd b N).natAbs = N := by cases b <;> simp [sgnd]
theorem sgnd_not (b : Bool) (N : Nat) : sgnd (!b) N = -(sgnd b N) := by cases b <;> simp [sgnd]
theorem sgnd_zero (b : Bool) : sgnd b 0 = 0 := by cases b <;> simp [sgnd]
theorem sgnd_neg (b : Bool) (N : Nat) : decide (sgnd b N < 0) = (b && decide (0 < N)) := by
 cases b
 ·simp [sgnd]
 ·by_cases h : 0 < N
  ·simp [sgnd, h]
  ·obtain rfl : N = 0 := by omega
   simp [sgnd]
def IntAt (w : World) (b : Bool) (ao : Option Addr) (len cap : Nat) (z : Int) : Prop := ∃ N, ValAt w ao len cap N ∧ z = sgnd b N
def FormAt (w : World) (b : Bool) (ao : Option Addr) (len cap : Nat) (z : Int) : Prop := NumAt w ao len cap z.natAbs ∧ b = decide (z < 0)
theorem IntAt.za {w w' : World} {b : Bool} {ao : Option Addr} {len cap : Nat} {z : Int} (h : IntAt w b ao len cap z) (hb : Below w.heap.size w w') : IntAt w' b ao len cap z := by
 obtain ⟨N, h1, h2⟩ := h;exact ⟨N, h1.za hb, h2⟩
theorem FormAt.za {w w' : World} {b : Bool} {ao : Option Addr} {len cap : Nat} {z : Int} (h : FormAt w b ao len cap z) (hb : Below w.heap.size w w') : FormAt w' b ao len cap z := ⟨h.1.za hb, h.2⟩
theorem FormAt.int {w : World} {b : Bool} {ao : Option Addr} {len cap : Nat} {z : Int} (h : FormAt w b ao len cap z) : IntAt w b ao len cap z := by
 refine ⟨_, h.1.val, ?_⟩;rw [h.2];by_cases hz : z < 0
 ·rw [decide_eq_true hz, sgnd_true]; omega
 ·rw [decide_eq_false hz, sgnd_false]; omega
theorem RowAt.int {w : World} {ao : Option Addr} {len cap : Nat} {xs : List Nat} (h : RowAt w ao len cap xs) (b : Bool) : IntAt w b ao len cap (sgnd b (Lb.val xs)) := ⟨_, h.val, rfl⟩
theorem IntAt.val {w : World} {b : Bool} {ao : Option Addr} {len cap : Nat} {z : Int} (h : IntAt w b ao len cap z) : ValAt w ao len cap z.natAbs := by
 obtain ⟨N, h1, rfl⟩ := h;rw [sgnd_abs]; exact h1
theorem IntAt.not {w : World} {b : Bool} {ao : Option Addr} {len cap : Nat} {z : Int} (h : IntAt w b ao len cap z) : IntAt w (!b) ao len cap (-z) := by
 obtain ⟨N, h1, rfl⟩ := h;exact ⟨N, h1, (sgnd_not b N).symm⟩
theorem IntAt.lt {w : World} {b : Bool} {ao : Option Addr} {len cap k : Nat} {z : Int} (h : IntAt w b ao len cap z) (hk : len ≤ k) : z.natAbs < Bp k := h.val.lt hk
theorem IntAt.cap_max {w : World} {b : Bool} {ao : Option Addr} {len cap : Nat} {z : Int} (h : IntAt w b ao len cap z) : len ≤ cap ∧ cap ≤ maxLen := by
 obtain ⟨N, ⟨xs, hx, _⟩, _⟩ := h;exact ⟨hx.cap_le, hx.cap_max⟩
theorem FormAt.len_le {w : World} {b : Bool} {ao : Option Addr} {len cap k : Nat} {z : Int} (h : FormAt w b ao len cap z) (hk : z.natAbs < Bp k) : len ≤ k := h.1.len_le hk
theorem formAt_of {w : World} {b b' : Bool} {ao : Option Addr} {len cap N : Nat} (h : NumAt w ao len cap N) (hb : b' = (b && decide (0 < N))) : FormAt w b' ao len cap (sgnd b N) := by
 refine ⟨by rw [sgnd_abs]; exact h, ?_⟩;rw [sgnd_neg, hb]

theorem bcell {W w1 : World} (hb : Below W.heap.size W w1) : (∀ b o, b < W.heap.size → w1.cell? ⟨b, o, none⟩ = W.cell? ⟨b, o, none⟩) ∧ (∀ b o, b < W.heap.size → w1.frozen? ⟨b, o, none⟩ = W.frozen? ⟨b, o, none⟩) :=
 ⟨fun b o h => hb.cell (p := ⟨b, o, none⟩) h, fun b o h => hb.frozen (p := ⟨b, o, none⟩) h⟩
theorem bmore {W w1 : World} (hb : Below W.heap.size W w1) {n : Nat} (hn : n < W.heap.size) : n < w1.heap.size := Nat.lt_of_lt_of_le hn hb.size

def NoLimb (w : World) (g : Nat) : Prop := ∀ j k, w.cell? ⟨g, j, none⟩ ≠ some (.int .u32 k)
theorem NoLimb.za {w w' : World} {g : Nat} (h : NoLimb w g) (hb : Below w.heap.size w w') (hg : g < w.heap.size) : NoLimb w' g := fun j k => by
 rw [hb.cell (p := ⟨g, j, none⟩) hg]; exact h j k
theorem noLimb_new (w : World) (b : Bool) (ao : Option Addr) (len cap : Nat) (t : TypeId) : NoLimb (w.alloc (.cells #[.bool b, .slice ao len cap] t)) w.heap.size := by
 intro j k h
 match j with
 | 0 => simp at h
 | 1 => simp at h
 | j + 2 => simp at h
theorem NoLimb.alloc {w : World} {g : Nat} (h : NoLimb w g) (hg : g < w.heap.size) (o : Obj) : NoLimb (w.alloc o) g := h.za ((Below.refl _ _).alloc (Nat.le_refl _) o) hg
theorem RowAt.noLimb {w : World} {ao : Option Addr} {len cap g : Nat} {xs : List Nat} (h : RowAt w ao len cap xs) (hn : NoLimb w g) (hp : 0 < len) : ∃ b off, ao = some ⟨b, off, none⟩ ∧ b < w.heap.size ∧ b ≠ g ∧ ∀ i, i < len → w.cell? ⟨b, off + i, none⟩ = some (.int .u32 (lim xs i : Int)) := by
 obtain ⟨b, off, e, hlt, hc⟩ := h.cells hp;refine ⟨b, off, e, hlt, fun e' => ?_, hc⟩;subst e';exact hn _ _ (hc 0 hp)
theorem RowAt.boxed {w : World} {ao : Option Addr} {len cap g : Nat} {xs : List Nat} (h : RowAt w ao len cap xs) (hn : NoLimb w g) (x y : Value) : RowAt ((w.setCell ⟨g, 0, none⟩ x).setCell ⟨g, 1, none⟩ y) ao len cap xs := by
 refine ⟨h.len_eq, h.cap_le, h.cap_max, h.nil_cap, h.small, fun hp => ?_⟩;obtain ⟨b, off, e, hlt, hne, hc⟩ := h.noLimb hn hp;refine ⟨b, off, e, by simpa [World.setCell] using hlt, fun i hi => ?_⟩;rw [← hc i hi];refine World.cell?_of_block (w := w) ?_;rw [Below.heap_setCell _ _ _ _ (by simpa using hne), Below.heap_setCell _ _ _ _ (by simpa using hne)]
theorem FormAt.boxed {w : World} {b : Bool} {ao : Option Addr} {len cap g : Nat} {z : Int} (h : FormAt w b ao len cap z) (hn : NoLimb w g) (x y : Value) : FormAt ((w.setCell ⟨g, 0, none⟩ x).setCell ⟨g, 1, none⟩ y) b ao len cap z := by
 obtain ⟨⟨xs, h1, h2⟩, h3⟩ := h;exact ⟨⟨xs, h1.boxed hn x y, h2⟩, h3⟩
theorem int_end {B g : Nat} {w w2 : World} {b : Bool} {ao : Option Addr} {len cap : Nat} {z : Int} (hW : Below B w w2) (hB : B ≤ g) (hn : NoLimb w2 g) (h : FormAt w2 b ao len cap z) (x y : Value) :
  FormAt ((w2.setCell ⟨g, 0, none⟩ x).setCell ⟨g, 1, none⟩ y) b ao len cap z ∧ Below B w ((w2.setCell ⟨g, 0, none⟩ x).setCell ⟨g, 1, none⟩ y) :=
 ⟨h.boxed hn x y, (hW.setCell (by simpa using hB) _).setCell (by simpa using hB) _⟩

def Box (w : World) (g : Nat) (b : Bool) (ao : Option Addr) (len cap : Nat) : Prop := w.heap[g]? = some (.cells #[.bool b, .slice ao len cap] 45)
theorem Box.lt {w : World} {g : Nat} {b : Bool} {ao : Option Addr} {len cap : Nat} (h : Box w g b ao len cap) : g < w.heap.size := lt_of_block h
theorem Box.zb {w : World} {g : Nat} {b : Bool} {ao : Option Addr} {len cap : Nat} (h : Box w g b ao len cap) : w.cell? ⟨g, 0, none⟩ = some (.bool b) ∧ w.cell? ⟨g, 1, none⟩ = some (.slice ao len cap) ∧ w.frozen? ⟨g, 0, none⟩ = false ∧ w.frozen? ⟨g, 1, none⟩ = false := by
 unfold Box at h;refine ⟨?_, ?_, ?_, ?_⟩ <;> simp [World.cell?, World.frozen?, h]
theorem Box.noLimb {w : World} {g : Nat} {b : Bool} {ao : Option Addr} {len cap : Nat} (h : Box w g b ao len cap) : NoLimb w g := by
 intro j k e;unfold Box at h
 match j with
 | 0 => simp [World.cell?, h] at e
 | 1 => simp [World.cell?, h] at e
 | j + 2 => simp [World.cell?, h] at e
theorem Box.za {w w' : World} {g : Nat} {b : Bool} {ao : Option Addr} {len cap : Nat} (h : Box w g b ao len cap) (hb : Below w.heap.size w w') : Box w' g b ao len cap := by
 unfold Box at *;rw [hb.block g (lt_of_block h)]; exact h
theorem Box.drew {w : World} {g : Nat} {b : Bool} {ao : Option Addr} {len cap : Nat} (h : Box w g b ao len cap) : Box w.drew g b ao len cap := h
theorem Box.alloc {w : World} {g : Nat} {b : Bool} {ao : Option Addr} {len cap : Nat} (h : Box w g b ao len cap) (o : Obj) : Box (w.alloc o) g b ao len cap := h.za ((Below.refl _ _).alloc (Nat.le_refl _) o)
theorem box_new (w : World) (b : Bool) (ao : Option Addr) (len cap : Nat) {n : Nat} (hn : n = w.heap.size) : Box (w.alloc (.cells #[.bool b, .slice ao len cap] 45)) n b ao len cap := by
 subst hn;unfold Box;show (w.heap.push _)[w.heap.size]? = _;simp

theorem held1 {W w1 : World} (hb : Below W.heap.size W w1) {g : Nat} {x y : Value} (hg : g < W.heap.size) (h : W.cell? ⟨g, 0, none⟩ = some x ∧ W.cell? ⟨g, 1, none⟩ = some y) : w1.cell? ⟨g, 0, none⟩ = some x ∧ w1.cell? ⟨g, 1, none⟩ = some y :=
 ⟨(hb.cell (p := ⟨g, 0, none⟩) hg).trans h.1, (hb.cell (p := ⟨g, 1, none⟩) hg).trans h.2⟩
theorem held2 {W w1 : World} (hb : Below W.heap.size W w1) {g : Nat} {x y u v : Value} (hg : g + 1 < W.heap.size) (h : W.cell? ⟨g, 0, none⟩ = some x ∧ W.cell? ⟨g, 1, none⟩ = some y ∧ W.cell? ⟨g + 1, 0, none⟩ = some u ∧ W.cell? ⟨g + 1, 1, none⟩ = some v) :
  w1.cell? ⟨g, 0, none⟩ = some x ∧ w1.cell? ⟨g, 1, none⟩ = some y ∧ w1.cell? ⟨g + 1, 0, none⟩ = some u ∧ w1.cell? ⟨g + 1, 1, none⟩ = some v :=
 ⟨(held1 hb (by omega) ⟨h.1, h.2.1⟩).1, (held1 hb (by omega) ⟨h.1, h.2.1⟩).2, held1 hb hg h.2.2⟩
theorem held1_set {W : World} {g g' : Nat} {x y x' y' : Value} (hg : g ≠ g') (h : W.cell? ⟨g, 0, none⟩ = some x ∧ W.cell? ⟨g, 1, none⟩ = some y) : ((W.setCell ⟨g', 0, none⟩ x').setCell ⟨g', 1, none⟩ y').cell? ⟨g, 0, none⟩ = some x ∧ ((W.setCell ⟨g', 0, none⟩ x').setCell ⟨g', 1, none⟩ y').cell? ⟨g, 1, none⟩ = some y := by
 have e : ((W.setCell ⟨g', 0, none⟩ x').setCell ⟨g', 1, none⟩ y').heap[g]? = W.heap[g]? := by
  rw [Below.heap_setCell _ _ _ _ (by simpa using hg), Below.heap_setCell _ _ _ _ (by simpa using hg)]
 exact ⟨(World.cell?_of_block (w := W) (a := ⟨g, 0, none⟩) e).trans h.1, (World.cell?_of_block (w := W) (a := ⟨g, 1, none⟩) e).trans h.2⟩
theorem held2_set {W : World} {g g' : Nat} {x y u v x' y' : Value} (hg : g + 1 < g') (h : W.cell? ⟨g, 0, none⟩ = some x ∧ W.cell? ⟨g, 1, none⟩ = some y ∧ W.cell? ⟨g + 1, 0, none⟩ = some u ∧ W.cell? ⟨g + 1, 1, none⟩ = some v) :
  ((W.setCell ⟨g', 0, none⟩ x').setCell ⟨g', 1, none⟩ y').cell? ⟨g, 0, none⟩ = some x ∧ ((W.setCell ⟨g', 0, none⟩ x').setCell ⟨g', 1, none⟩ y').cell? ⟨g, 1, none⟩ = some y ∧ ((W.setCell ⟨g', 0, none⟩ x').setCell ⟨g', 1, none⟩ y').cell? ⟨g + 1, 0, none⟩ = some u ∧ ((W.setCell ⟨g', 0, none⟩ x').setCell ⟨g', 1, none⟩ y').cell? ⟨g + 1, 1, none⟩ = some v :=
 ⟨(held1_set (by omega) ⟨h.1, h.2.1⟩).1, (held1_set (by omega) ⟨h.1, h.2.1⟩).2, held1_set (by omega) h.2.2⟩
theorem below2 (w : World) (o1 o2 : Obj) : Below w.heap.size w ((w.alloc o1).alloc o2) := ((Below.refl _ _).alloc (Nat.le_refl _) o1).alloc (by simp) o2
theorem below3 (w : World) (o1 o2 o3 : Obj) : Below w.heap.size w (((w.alloc o1).alloc o2).alloc o3) := (below2 w o1 o2).alloc (by simp; omega) o3
theorem noLimb2 (w : World) (o1 : Obj) (b : Bool) (ao : Option Addr) (len cap : Nat) (t : TypeId) : NoLimb ((w.alloc o1).alloc (.cells #[.bool b, .slice ao len cap] t)) (w.heap.size + 1) := by
 have := noLimb_new (w.alloc o1) b ao len cap t;simpa using this
theorem noLimb3 (w : World) (o1 o2 : Obj) (b : Bool) (ao : Option Addr) (len cap : Nat) (t : TypeId) : NoLimb (((w.alloc o1).alloc o2).alloc (.cells #[.bool b, .slice ao len cap] t)) (w.heap.size + 2) := by
 have := noLimb_new ((w.alloc o1).alloc o2) b ao len cap t;simpa using this
theorem NoLimb.drew {w : World} {g : Nat} (h : NoLimb w g) : NoLimb w.drew g := h

set_option maxHeartbeats 400000 in
theorem signed_num (b : Bool) (aa : Option Addr) (la ca A : Nat) (w : World) (ha : NumAt w aa la ca A) :
  Calls Tryz.prog 67 #[.bool b, .slice aa la ca] w fun e w' => ∃ b', e = .returned (.agg #[.bool b', .slice aa la ca]) ∧ FormAt w' b' aa la ca (sgnd b A) ∧ Below w.heap.size w w' := by
 have hm : la ≤ maxLen := by
  obtain ⟨xs, hx, _⟩ := ha;exact Nat.le_trans hx.cap_le hx.cap_max
 unfold maxLen at hm;have hL := ha;by_cases hz : A = 0
 ·subst hz;obtain rfl := ha.len_zero;cases b
  all_goals
   go_enter Tryz.func67, Tryz.ntmps67;go_wp2;refine bodyPost_ret (v := .agg #[.bool false, .slice aa 0 ca]) (by simp [results, Tryz.results67, go_sem]) rfl ⟨false, rfl, ?_, (Below.refl _ _).alloc (Nat.le_refl _) _⟩;exact (formAt_of hL (by simp)).za ((Below.refl _ _).alloc (Nat.le_refl _) _)
 ·have hp := ha.len_pos (by omega);have hp' : (0 : Int) < (la : Int) := by omega
  have hA : 0 < A := by omega
  cases b
  all_goals
   go_enter Tryz.func67, Tryz.ntmps67;go_wp2;refine bodyPost_ret (v := .agg #[.bool _, .slice aa la ca]) (by simp [results, Tryz.results67, go_sem]; rfl) rfl ⟨_, rfl, ?_, (Below.refl _ _).alloc (Nat.le_refl _) _⟩;exact (formAt_of hL (by simp [hA])).za ((Below.refl _ _).alloc (Nat.le_refl _) _)

theorem Box.grown {w w' : World} {g : Nat} {b : Bool} {ao : Option Addr} {len cap : Nat} {row : Option Nat} (h : Box w g b ao len cap) (hg : w.grownBy w' row) (hr : row ≠ some g) : Box w' g b ao len cap := by
 unfold Box at *;rw [hg.block g (lt_of_block h) (fun e => hr e.symm)]; exact h
/-
 What whole.Form and the reference's Form tell.
-/

set_option maxHeartbeats 1000000 in
theorem form_num (b : Bool) (aa : Option Addr) (la ca : Nat) (z : Int) (w : World) (ha : IntAt w b aa la ca z) (hla : la ≤ 1000000) :
  Calls Tryz.prog 80 #[.agg #[.bool b, .slice aa la ca]] w fun e w' => ∃ b' ao' len' cap', e = .returned (.agg #[.bool b', .slice ao' len' cap']) ∧ FormAt w' b' ao' len' cap' z ∧ Below w.heap.size w w' := by
 obtain ⟨N, hN, rfl⟩ := ha;go_enter Tryz.func80, Tryz.ntmps80;go_wp2
 go_region_held3 (fun w' => w'.cell? ⟨w.heap.size, 0, none⟩ = some (.bool b) ∧ w'.cell? ⟨w.heap.size, 1, none⟩ = some (.slice aa la ca)) (first | exact held1 hb2 (by omega) (by assumption) | exact held1 hb1 (by simp <;> omega) (by assumption) | exact held1_set (by omega) (by assumption) | go_keep) (first | (go_at_call 68; refine (trim_num _ _ _ N _ (hN.za (below2 _ _ _).drew) hla).mono ?_; rintro e w1 ⟨a1, l1, c1, rfl, h1, hb1⟩; obtain ⟨hc1, hf1⟩ := bcell hb1; have hz1 : w.heap.size + 1 < w1.heap.size := bmore hb1 (by simp); have hy1 : w.heap.size < w1.heap.size := by omega) | (go_at_call 67; refine (signed_num _ _ _ _ N _ h1).mono ?_; rintro e w2 ⟨b2, rfl, h2, hb2⟩; obtain ⟨hc2, hf2⟩ := bcell hb2; have hz2 : w.heap.size + 1 < w2.heap.size := bmore hb2 hz1; have hy2 : w.heap.size < w2.heap.size := by omega))
 have hW := Below.step (Below.step (below2 w _ _).drew hb1) hb2;have hNL := ((noLimb2 w _ _ _ _ _ _).drew.za hb1 (by simp)).za hb2 hz1;go_wp2;refine bodyPost_ret (v := .agg #[.bool b2, .slice a1 l1 c1]) (by simp [results, Tryz.results80, go_sem, *]) rfl ⟨_, _, _, _, rfl, ?_⟩;exact int_end hW (by simp) hNL h2 _ _

set_option maxHeartbeats 1000000 in
theorem rform_num (b : Bool) (aa : Option Addr) (la ca : Nat) (z : Int) (w : World) (ha : IntAt w b aa la ca z) (hla : la ≤ 1000000) :
  Calls Tryz.prog 55 #[.agg #[.bool b, .slice aa la ca]] w fun e w' => ∃ b' ao' len' cap', e = .returned (.agg #[.bool b', .slice ao' len' cap']) ∧ FormAt w' b' ao' len' cap' z ∧ Below w.heap.size w w' := by
 obtain ⟨N, hN, rfl⟩ := ha;cases b
 all_goals
  go_enter Tryz.func55, Tryz.ntmps55
  go_wp2_with fail
  refine (rtrim_num _ _ _ N _ (hN.za (below2 _ _ _)) hla).mono ?_;rintro e w1 ⟨a1, l1, c1, rfl, h1, hb1⟩;obtain ⟨hc1, hf1⟩ := bcell hb1;have hz1 : w.heap.size + 1 < w1.heap.size := bmore hb1 (by simp);have hy1 : w.heap.size < w1.heap.size := by omega
  have hW := Below.step (below2 w _ _) hb1;have hNL := (noLimb2 w _ _ _ _ _ _).za hb1 (by simp);have hm : l1 ≤ maxLen := by
   obtain ⟨xs, hx, _⟩ := h1;exact Nat.le_trans hx.cap_le hx.cap_max
  unfold maxLen at hm;by_cases hz : N = 0
  ·subst hz;obtain rfl := h1.len_zero;go_wp2;refine bodyPost_ret (v := .agg #[.bool false, .slice a1 0 c1]) (by simp [results, Tryz.results55, go_sem, *]) rfl ⟨_, _, _, _, rfl, ?_⟩;exact int_end hW (by simp) hNL (formAt_of h1 (by simp)) _ _
  ·have hp := h1.len_pos (by omega);have hp' : (0 : Int) < (l1 : Int) := by omega
   have hA : 0 < N := by omega
   go_wp2;refine bodyPost_ret (v := .agg #[.bool _, .slice a1 l1 c1]) (by simp [results, Tryz.results55, go_sem, *]; rfl) rfl ⟨_, _, _, _, rfl, ?_⟩;exact int_end hW (by simp) hNL (formAt_of h1 (by simp [hA])) _ _

/-
 What whole.Neg, whole.Abs, whole.Sign and their likes of the reference tell (IN PARTS).
-/

theorem IntAt.abs {w : World} {b : Bool} {ao : Option Addr} {len cap : Nat} {z : Int} (h : IntAt w b ao len cap z) : IntAt w false ao len cap (z.natAbs : Int) := ⟨_, h.val, rfl⟩
theorem sign_of (b : Bool) {N : Nat} (h : 0 < N) : (sgnd b N).sign = if b then -1 else 1 := by
 cases b
 ·exact Int.sign_eq_one_of_pos (by rw [sgnd_false]; omega)
 ·exact Int.sign_eq_neg_one_of_neg (by rw [sgnd_true]; omega)
theorem sign_bd (z : Int) : -1 ≤ z.sign ∧ z.sign ≤ 1 := by
 rcases Int.lt_trichotomy z 0 with h | h | h
 ·rw [Int.sign_eq_neg_one_of_neg h]; omega
 ·subst h; decide
 ·rw [Int.sign_eq_one_of_pos h]; omega

set_option maxHeartbeats 1000000 in
theorem neg_num (b : Bool) (aa : Option Addr) (la ca : Nat) (z : Int) (w : World) (ha : IntAt w b aa la ca z) (hla : la ≤ 1000000) :
  Calls Tryz.prog 53 #[.agg #[.bool b, .slice aa la ca]] w fun e w' => ∃ b' ao' len' cap', e = .returned (.agg #[.bool b', .slice ao' len' cap']) ∧ FormAt w' b' ao' len' cap' (-z) ∧ Below w.heap.size w w' := by
 go_enter Tryz.func53, Tryz.ntmps53
 go_wp2_with fail
 refine (form_num _ _ _ _ (-z) _ (ha.not.za (below2 _ _ _)) hla).mono ?_;rintro e w1 ⟨b1, a1, l1, c1, rfl, h1, hb1⟩;obtain ⟨hc1, hf1⟩ := bcell hb1;have hz1 : w.heap.size + 1 < w1.heap.size := bmore hb1 (by simp);have hy1 : w.heap.size < w1.heap.size := by omega
 have hW := Below.step (below2 w _ _) hb1;have hNL : NoLimb w1 (w.heap.size + 1) := NoLimb.za (noLimb2 w _ _ _ _ _ _) hb1 (by simp);go_wp2;refine bodyPost_ret (v := .agg #[.bool b1, .slice a1 l1 c1]) (by simp [results, Tryz.results53, go_sem, *]) rfl ⟨_, _, _, _, rfl, ?_⟩;exact int_end hW (by simp) hNL h1 _ _
set_option maxHeartbeats 1000000 in
theorem abs_num (b : Bool) (aa : Option Addr) (la ca : Nat) (z : Int) (w : World) (ha : IntAt w b aa la ca z) (hla : la ≤ 1000000) :
  Calls Tryz.prog 63 #[.agg #[.bool b, .slice aa la ca]] w fun e w' => ∃ b' ao' len' cap', e = .returned (.agg #[.bool b', .slice ao' len' cap']) ∧ FormAt w' b' ao' len' cap' (z.natAbs : Int) ∧ Below w.heap.size w w' := by
 go_enter Tryz.func63, Tryz.ntmps63
 go_wp2_with fail
 refine (form_num _ _ _ _ (z.natAbs : Int) _ (ha.abs.za (below2 _ _ _)) hla).mono ?_;rintro e w1 ⟨b1, a1, l1, c1, rfl, h1, hb1⟩;obtain ⟨hc1, hf1⟩ := bcell hb1;have hz1 : w.heap.size + 1 < w1.heap.size := bmore hb1 (by simp);have hy1 : w.heap.size < w1.heap.size := by omega
 have hW := Below.step (below2 w _ _) hb1;have hNL : NoLimb w1 (w.heap.size + 1) := NoLimb.za (noLimb2 w _ _ _ _ _ _) hb1 (by simp);go_wp2;refine bodyPost_ret (v := .agg #[.bool b1, .slice a1 l1 c1]) (by simp [results, Tryz.results63, go_sem, *]) rfl ⟨_, _, _, _, rfl, ?_⟩;exact int_end hW (by simp) hNL h1 _ _
set_option maxHeartbeats 1000000 in
theorem rabs_num (b : Bool) (aa : Option Addr) (la ca : Nat) (z : Int) (w : World) (ha : IntAt w b aa la ca z) (hla : la ≤ 1000000) :
  Calls Tryz.prog 46 #[.agg #[.bool b, .slice aa la ca]] w fun e w' => ∃ b' ao' len' cap', e = .returned (.agg #[.bool b', .slice ao' len' cap']) ∧ FormAt w' b' ao' len' cap' (z.natAbs : Int) ∧ Below w.heap.size w w' := by
 go_enter Tryz.func46, Tryz.ntmps46
 go_wp2_with fail
 refine (rform_num _ _ _ _ (z.natAbs : Int) _ (ha.abs.za (below2 _ _ _)) hla).mono ?_;rintro e w1 ⟨b1, a1, l1, c1, rfl, h1, hb1⟩;obtain ⟨hc1, hf1⟩ := bcell hb1;have hz1 : w.heap.size + 1 < w1.heap.size := bmore hb1 (by simp);have hy1 : w.heap.size < w1.heap.size := by omega
 have hW := Below.step (below2 w _ _) hb1;have hNL : NoLimb w1 (w.heap.size + 1) := NoLimb.za (noLimb2 w _ _ _ _ _ _) hb1 (by simp);go_wp2;refine bodyPost_ret (v := .agg #[.bool b1, .slice a1 l1 c1]) (by simp [results, Tryz.results46, go_sem, *]) rfl ⟨_, _, _, _, rfl, ?_⟩;exact int_end hW (by simp) hNL h1 _ _
set_option maxHeartbeats 1000000 in
theorem sign_num (b : Bool) (aa : Option Addr) (la ca : Nat) (z : Int) (w : World) (ha : IntAt w b aa la ca z) (hla : la ≤ 1000000) :
  Calls Tryz.prog 61 #[.agg #[.bool b, .slice aa la ca]] w fun e w' => e = .returned (.int .i64 z.sign) ∧ Below w.heap.size w w' := by
 obtain ⟨N, hN, rfl⟩ := ha;have hbox : Below w.heap.size w (w.alloc (.cells #[.bool b, .slice aa la ca] 45)) := (Below.refl _ _).alloc (Nat.le_refl _) _;by_cases hz : N = 0
 ·subst hz;rw [sgnd_zero];go_enter Tryz.func61, Tryz.ntmps61
  go_wp2_with fail
  refine (bits_num _ _ _ 0 _ (hN.za hbox) hla).mono ?_;rintro e w1 ⟨n, rfl, hn, rfl⟩;have hn0 := isBits_inj hn (Or.inl ⟨rfl, rfl⟩);subst hn0;go_wp2;go_ret;exact ⟨rfl, hbox⟩
 ·rw [sign_of b (by omega)];cases b
  all_goals
   go_enter Tryz.func61, Tryz.ntmps61
   go_wp2_with fail
   refine (bits_num _ _ _ N _ (hN.za hbox) hla).mono ?_;rintro e w1 ⟨n, rfl, hn, rfl⟩;have hn0 : ((n : Int) == 0) = false := by
    rcases hn with ⟨h, _⟩ | ⟨h1, _⟩
    ·exact absurd h hz
    ·rw [beq_eq_false_iff_ne]; omega
   go_wp2;go_ret;exact ⟨rfl, hbox⟩
set_option maxHeartbeats 1000000 in
theorem rsign_num (b : Bool) (aa : Option Addr) (la ca : Nat) (z : Int) (w : World) (ha : IntAt w b aa la ca z) (hla : la ≤ 1000000) :
  Calls Tryz.prog 24 #[.agg #[.bool b, .slice aa la ca]] w fun e w' => e = .returned (.int .i64 z.sign) ∧ Below w.heap.size w w' := by
 have hbox : Below w.heap.size w (w.alloc (.cells #[.bool b, .slice aa la ca] 45)) := (Below.refl _ _).alloc (Nat.le_refl _) _;rcases Int.lt_trichotomy z 0 with h | h | h
 ·rw [Int.sign_eq_neg_one_of_neg h];go_enter Tryz.func24, Tryz.ntmps24
  go_wp2_with fail
  refine (rform_num _ _ _ _ z _ (ha.za hbox) hla).mono ?_;rintro e w1 ⟨b1, a1, l1, c1, rfl, h1, hb1⟩;have hb : b1 = true := by rw [h1.2]; exact decide_eq_true h
  have hl := h1.1.len_pos (by omega);have hl' : ((l1 : Int) == 0) = false := by rw [beq_eq_false_iff_ne]; omega
  have hW := Below.step hbox hb1;clear h1;subst hb;go_wp2;go_ret;exact ⟨rfl, hW.alloc hW.size _⟩
 ·subst h;go_enter Tryz.func24, Tryz.ntmps24
  go_wp2_with fail
  refine (rform_num _ _ _ _ 0 _ (ha.za hbox) hla).mono ?_;rintro e w1 ⟨b1, a1, l1, c1, rfl, h1, hb1⟩;obtain rfl := NumAt.len_zero h1.1;have hW := Below.step hbox hb1;clear h1;go_wp2;go_ret;exact ⟨rfl, hW.alloc hW.size _⟩
 ·rw [Int.sign_eq_one_of_pos h];go_enter Tryz.func24, Tryz.ntmps24
  go_wp2_with fail
  refine (rform_num _ _ _ _ z _ (ha.za hbox) hla).mono ?_;rintro e w1 ⟨b1, a1, l1, c1, rfl, h1, hb1⟩;have hb : b1 = false := by rw [h1.2]; exact decide_eq_false (by omega)
  have hl := h1.1.len_pos (by omega);have hl' : ((l1 : Int) == 0) = false := by rw [beq_eq_false_iff_ne]; omega
  have hW := Below.step hbox hb1;clear h1;subst hb;go_wp2;go_ret;exact ⟨rfl, hW.alloc hW.size _⟩

/-
 What whole.Add, whole.Sub and their likes of the reference tell (IN PARTS).
-/

theorem sgnd_add (b : Bool) (M N : Nat) : sgnd b (M + N) = sgnd b M + sgnd b N := by
 cases b <;> simp [sgnd] <;> omega
theorem sgnd_sub {b b' : Bool} (hb : b ≠ b') {M N : Nat} (h : N ≤ M) : sgnd b (M - N) = sgnd b M + sgnd b' N := by
 cases b <;> cases b' <;> simp_all [sgnd] <;> omega
theorem sgnd_sub' {b b' : Bool} (hb : b ≠ b') {M N : Nat} (h : M < N) : sgnd b' (N - M) = sgnd b M + sgnd b' N := by
 cases b <;> cases b' <;> simp_all [sgnd] <;> omega
theorem sum_lt {M N k l m : Nat} (hM : M < Bp k) (hN : N < Bp l) (h1 : k < m) (h2 : l < m) : M + N < Bp m := by
 have a1 := Bp_le (show k ≤ m - 1 by omega);have a2 := Bp_le (show l ≤ m - 1 by omega);have a3 : Bp m = Bp (m - 1) * 4294967296 := by rw [← Bp_succ]; congr 1; omega
 have := Bp_pos (m - 1);omega

set_option maxHeartbeats 1000000 in
theorem iadd_num (b : Bool) (aa : Option Addr) (la ca : Nat) (x : Int) (b' : Bool) (ab : Option Addr) (lb cb : Nat) (y : Int) (w : World) (ha : IntAt w b aa la ca x) (hb : IntAt w b' ab lb cb y) (hla : la ≤ 1000000) (hlb : lb ≤ 1000000) :
  Calls Tryz.prog 51 #[.agg #[.bool b, .slice aa la ca], .agg #[.bool b', .slice ab lb cb]] w fun e w' => ∃ b' ao' len' cap', e = .returned (.agg #[.bool b', .slice ao' len' cap']) ∧ FormAt w' b' ao' len' cap' (x + y) ∧ Below w.heap.size w w' := by
 obtain ⟨M, hM, rfl⟩ := ha;obtain ⟨N, hN, rfl⟩ := hb;by_cases hbb : b = b'
 ·subst hbb;rw [← sgnd_add];have hb0 : (b == b) = true := by simp
  go_enter Tryz.func51, Tryz.ntmps51
  go_wp2_with fail
  go_region_held3 (fun w' => w'.cell? ⟨w.heap.size, 0, none⟩ = some (.bool b) ∧ w'.cell? ⟨w.heap.size, 1, none⟩ = some (.slice aa la ca) ∧ w'.cell? ⟨w.heap.size + 1, 0, none⟩ = some (.bool b) ∧ w'.cell? ⟨w.heap.size + 1, 1, none⟩ = some (.slice ab lb cb)) (first | exact held2 hb2 (by omega) (by assumption) | exact held2 hb1 (by simp <;> omega) (by assumption) | exact held2_set (by omega) (by assumption) | go_keep) (first | (go_at_call 78; refine (add_num _ _ _ M _ _ _ N _ (hM.za (below3 _ _ _ _).drew) (hN.za (below3 _ _ _ _).drew) hla hlb).mono ?_; rintro e w1 ⟨a1, l1, c1, rfl, h1, hb1⟩; have hz1 : w.heap.size + 2 < w1.heap.size := bmore hb1 (by simp)) | (go_at_call 67; refine (signed_num _ _ _ _ (M + N) _ h1).mono ?_; rintro e w2 ⟨b2, rfl, h2, hb2⟩; have hz2 : w.heap.size + 2 < w2.heap.size := bmore hb2 hz1; obtain ⟨q1, q2, q3, q4⟩ := (((box_new ((w.alloc (.cells #[.bool b, .slice aa la ca] 45)).alloc (.cells #[.bool b, .slice ab lb cb] 45)) false none 0 0 (n := w.heap.size + 2) (by simp)).drew.za hb1).za hb2).zb))
  have hW := Below.step (Below.step (below3 w _ _ _).drew hb1) hb2;have hNL := ((noLimb3 w _ _ _ _ _ _ _).drew.za hb1 (by simp)).za hb2 hz1;go_wp2;refine bodyPost_ret (v := .agg #[.bool b2, .slice a1 l1 c1]) (by simp [results, Tryz.results51, go_sem, *]) rfl ⟨_, _, _, _, rfl, ?_⟩;exact int_end hW (by simp <;> omega) hNL h2 _ _
 ·have hb0 : (b == b') = false := by simpa using hbb
  by_cases hle : N ≤ M
  ·rw [← sgnd_sub hbb hle];have HB := zh hbb;clear hbb;go_enter Tryz.func51, Tryz.ntmps51
   go_wp2_with fail
   refine (sub_num _ _ _ M _ _ _ N _ (hM.za (below3 _ _ _ _)) (hN.za (below3 _ _ _ _)) hla hle).mono ?_;rintro e w1 ⟨a1, l1, c1, rfl, h1, hb1⟩;have hz1 : w.heap.size + 2 < w1.heap.size := bmore hb1 (by simp);obtain ⟨p1, p2, p3, p4⟩ := ((((box_new w b aa la ca rfl).alloc _).alloc _).za hb1).zb
   go_wp2_with fail
   refine (signed_num _ _ _ _ (M - N) _ h1).mono ?_;rintro e w2 ⟨b2, rfl, h2, hb2⟩;have hz2 : w.heap.size + 2 < w2.heap.size := bmore hb2 hz1;obtain ⟨q1, q2, q3, q4⟩ := (((box_new ((w.alloc (.cells #[.bool b, .slice aa la ca] 45)).alloc (.cells #[.bool b', .slice ab lb cb] 45)) false none 0 0 (n := w.heap.size + 2) (by simp)).za hb1).za hb2).zb;have hW := Below.step (Below.step (below3 w _ _ _) hb1) hb2;have hNL := ((noLimb3 w _ _ _ _ _ _ _).za hb1 (by simp)).za hb2 hz1;go_wp2;refine bodyPost_ret (v := .agg #[.bool b2, .slice a1 l1 c1]) (by simp [results, Tryz.results51, go_sem, *]) rfl ⟨_, _, _, _, rfl, ?_⟩;exact int_end hW (by simp <;> omega) hNL h2 _ _
  ·have hlt : M < N := by omega
   rw [← sgnd_sub' hbb hlt];have HB := zh hbb;clear hbb hle;go_enter Tryz.func51, Tryz.ntmps51
   go_wp2_with fail
   refine (sub_none _ _ _ M _ _ _ N _ (hM.za (below3 _ _ _ _)) (hN.za (below3 _ _ _ _)) hlt).mono ?_;rintro e w0 ⟨rfl, hb0'⟩;have hz0 : w.heap.size + 2 < w0.heap.size := bmore hb0' (by simp);obtain ⟨p1, p2, p3, p4⟩ := ((((box_new w b aa la ca rfl).alloc _).alloc _).za hb0').zb;obtain ⟨r1, r2, r3, r4⟩ := ((((box_new (w.alloc (.cells #[.bool b, .slice aa la ca] 45)) b' ab lb cb (n := w.heap.size + 1) (by simp)).alloc _)).za hb0').zb
   go_wp2_with fail
   refine (sub_num _ _ _ N _ _ _ M _ ((hN.za (below3 _ _ _ _)).za hb0') ((hM.za (below3 _ _ _ _)).za hb0') hlb (Nat.le_of_lt hlt)).mono ?_;rintro e w1 ⟨a1, l1, c1, rfl, h1, hb1⟩;have hz1 : w.heap.size + 2 < w1.heap.size := bmore hb1 hz0;obtain ⟨r1, r2, r3, r4⟩ := (((((box_new (w.alloc (.cells #[.bool b, .slice aa la ca] 45)) b' ab lb cb (n := w.heap.size + 1) (by simp)).alloc _)).za hb0').za hb1).zb
   go_wp2_with fail
   refine (signed_num _ _ _ _ (N - M) _ h1).mono ?_;rintro e w2 ⟨b2, rfl, h2, hb2⟩;have hz2 : w.heap.size + 2 < w2.heap.size := bmore hb2 hz1;obtain ⟨q1, q2, q3, q4⟩ := ((((box_new ((w.alloc (.cells #[.bool b, .slice aa la ca] 45)).alloc (.cells #[.bool b', .slice ab lb cb] 45)) false none 0 0 (n := w.heap.size + 2) (by simp)).za hb0').za hb1).za hb2).zb;have hW := Below.step (Below.step (Below.step (below3 w _ _ _) hb0') hb1) hb2;have hNL := (((noLimb3 w _ _ _ _ _ _ _).za hb0' (by simp)).za hb1 hz0).za hb2 hz1;go_wp2;refine bodyPost_ret (v := .agg #[.bool b2, .slice a1 l1 c1]) (by simp [results, Tryz.results51, go_sem, *]) rfl ⟨_, _, _, _, rfl, ?_⟩;exact int_end hW (by simp <;> omega) hNL h2 _ _
set_option maxHeartbeats 1000000 in
theorem riadd_num (b : Bool) (aa : Option Addr) (la ca : Nat) (x : Int) (b' : Bool) (ab : Option Addr) (lb cb : Nat) (y : Int) (w : World) (ha : IntAt w b aa la ca x) (hb : IntAt w b' ab lb cb y) (hla : la ≤ 999999) (hlb : lb ≤ 999999) :
  Calls Tryz.prog 47 #[.agg #[.bool b, .slice aa la ca], .agg #[.bool b', .slice ab lb cb]] w fun e w' => ∃ b' ao' len' cap', e = .returned (.agg #[.bool b', .slice ao' len' cap']) ∧ FormAt w' b' ao' len' cap' (x + y) ∧ Below w.heap.size w w' := by
 obtain ⟨M, hM, rfl⟩ := ha;obtain ⟨N, hN, rfl⟩ := hb;have hkm : max la lb + 1 ≤ 1000000 := by omega
 have hS := sum_lt (m := max la lb + 1) (hM.lt (Nat.le_refl _)) (hN.lt (Nat.le_refl _)) (by omega) (by omega);have HS := zh hS;have HM := zh hkm;clear hS hkm;by_cases hbb : b = b'
 ·subst hbb;rw [← sgnd_add];have hb0 : (b == b) = true := by simp
  go_enter Tryz.func47, Tryz.ntmps47
  go_wp2_with fail
  go_region_held3 (fun w' => w'.cell? ⟨w.heap.size, 0, none⟩ = some (.bool b) ∧ w'.cell? ⟨w.heap.size, 1, none⟩ = some (.slice aa la ca) ∧ w'.cell? ⟨w.heap.size + 1, 0, none⟩ = some (.bool b) ∧ w'.cell? ⟨w.heap.size + 1, 1, none⟩ = some (.slice ab lb cb)) (first | exact held2 hb2 (by omega) (by assumption) | exact held2 hb1 (by simp <;> omega) (by assumption) | exact held2_set (by omega) (by assumption) | go_keep) (first | (go_at_call 72; refine (radd_num _ _ _ M _ _ _ N _ (hM.za (below3 _ _ _ _).drew) (hN.za (below3 _ _ _ _).drew) (by omega) (by omega)).mono ?_; rintro e w1 ⟨a1, l1, c1, rfl, h1, hb1⟩; have hz1 : w.heap.size + 2 < w1.heap.size := bmore hb1 (by simp)) | (go_at_call 55; refine (rform_num _ _ _ _ _ _ ⟨M + N, h1.val, rfl⟩ (Nat.le_trans (h1.len_le (zu HS)) (zu HM))).mono ?_; rintro e w2 ⟨b2, a2, l2, c2, rfl, h2, hb2⟩; have hz2 : w.heap.size + 2 < w2.heap.size := bmore hb2 hz1; obtain ⟨q1, q2, q3, q4⟩ := (((box_new ((w.alloc (.cells #[.bool b, .slice aa la ca] 45)).alloc (.cells #[.bool b, .slice ab lb cb] 45)) false none 0 0 (n := w.heap.size + 2) (by simp)).drew.za hb1).za hb2).zb))
  have hW := Below.step (Below.step (below3 w _ _ _).drew hb1) hb2;have hNL := ((noLimb3 w _ _ _ _ _ _ _).drew.za hb1 (by simp)).za hb2 hz1;go_wp2;refine bodyPost_ret (v := .agg #[.bool b2, .slice a2 l2 c2]) (by simp [results, Tryz.results47, go_sem, *]) rfl ⟨_, _, _, _, rfl, ?_⟩;exact int_end hW (by simp <;> omega) hNL h2 _ _
 ·have hb0 : (b == b') = false := by simpa using hbb
  by_cases hle : N ≤ M
  ·rw [← sgnd_sub hbb hle];have HB := zh hbb;clear hbb;have hcm : 0 ≤ cmpI M N := by unfold cmpI; repeat' split <;> omega
   go_enter Tryz.func47, Tryz.ntmps47
   go_wp2_with fail
   refine (rcmp_num _ _ _ M _ _ _ N _ (hM.za (below3 _ _ _ _)) (hN.za (below3 _ _ _ _))).mono ?_;rintro e w0 ⟨rfl, rfl⟩
   go_wp2_with fail
   go_region_held3 (fun w' => w'.cell? ⟨w.heap.size, 0, none⟩ = some (.bool b) ∧ w'.cell? ⟨w.heap.size, 1, none⟩ = some (.slice aa la ca) ∧ w'.cell? ⟨w.heap.size + 1, 0, none⟩ = some (.bool b') ∧ w'.cell? ⟨w.heap.size + 1, 1, none⟩ = some (.slice ab lb cb)) (first | exact held2 hb2 (by omega) (by assumption) | exact held2 hb1 (by simp <;> omega) (by assumption) | exact held2_set (by omega) (by assumption) | go_keep) (first | (go_at_call 74; refine (rsub_num _ _ _ M _ _ _ N _ (hM.za (below3 _ _ _ _).drew) (hN.za (below3 _ _ _ _).drew) (by omega) (by omega) hle).mono ?_; rintro e w1 ⟨a1, l1, c1, rfl, h1, hb1⟩; have hz1 : w.heap.size + 2 < w1.heap.size := bmore hb1 (by simp)) | (go_at_call 55; refine (rform_num _ _ _ _ _ _ ⟨M - N, h1.val, rfl⟩ (Nat.le_trans (h1.len_le (Nat.lt_of_le_of_lt (Nat.le_trans (Nat.sub_le _ _) (Nat.le_add_right M N)) (zu HS))) (zu HM))).mono ?_; rintro e w2 ⟨b2, a2, l2, c2, rfl, h2, hb2⟩; have hz2 : w.heap.size + 2 < w2.heap.size := bmore hb2 hz1; obtain ⟨q1, q2, q3, q4⟩ := (((box_new ((w.alloc (.cells #[.bool b, .slice aa la ca] 45)).alloc (.cells #[.bool b', .slice ab lb cb] 45)) false none 0 0 (n := w.heap.size + 2) (by simp)).drew.za hb1).za hb2).zb))
   have hW := Below.step (Below.step (below3 w _ _ _).drew hb1) hb2;have hNL := ((noLimb3 w _ _ _ _ _ _ _).drew.za hb1 (by simp)).za hb2 hz1;go_wp2;refine bodyPost_ret (v := .agg #[.bool b2, .slice a2 l2 c2]) (by simp [results, Tryz.results47, go_sem, *]) rfl ⟨_, _, _, _, rfl, ?_⟩;exact int_end hW (by simp <;> omega) hNL h2 _ _
  ·have hlt : M < N := by omega
   rw [← sgnd_sub' hbb hlt];have HB := zh hbb;clear hbb hle;have hcm : cmpI M N < 0 := by unfold cmpI; repeat' split <;> omega
   go_enter Tryz.func47, Tryz.ntmps47
   go_wp2_with fail
   refine (rcmp_num _ _ _ M _ _ _ N _ (hM.za (below3 _ _ _ _)) (hN.za (below3 _ _ _ _))).mono ?_;rintro e w0 ⟨rfl, rfl⟩
   go_wp2_with fail
   go_region_held3 (fun w' => w'.cell? ⟨w.heap.size, 0, none⟩ = some (.bool b) ∧ w'.cell? ⟨w.heap.size, 1, none⟩ = some (.slice aa la ca) ∧ w'.cell? ⟨w.heap.size + 1, 0, none⟩ = some (.bool b') ∧ w'.cell? ⟨w.heap.size + 1, 1, none⟩ = some (.slice ab lb cb)) (first | exact held2 hb2 (by omega) (by assumption) | exact held2 hb1 (by simp <;> omega) (by assumption) | exact held2_set (by omega) (by assumption) | go_keep) (first | (go_at_call 74; refine (rsub_num _ _ _ N _ _ _ M _ (hN.za (below3 _ _ _ _).drew) (hM.za (below3 _ _ _ _).drew) (by omega) (by omega) (Nat.le_of_lt hlt)).mono ?_; rintro e w1 ⟨a1, l1, c1, rfl, h1, hb1⟩; have hz1 : w.heap.size + 2 < w1.heap.size := bmore hb1 (by simp)) | (go_at_call 55; refine (rform_num _ _ _ _ _ _ ⟨N - M, h1.val, rfl⟩ (Nat.le_trans (h1.len_le (Nat.lt_of_le_of_lt (Nat.le_trans (Nat.sub_le _ _) (Nat.le_add_left N M)) (zu HS))) (zu HM))).mono ?_; rintro e w2 ⟨b2, a2, l2, c2, rfl, h2, hb2⟩; have hz2 : w.heap.size + 2 < w2.heap.size := bmore hb2 hz1; obtain ⟨q1, q2, q3, q4⟩ := (((box_new ((w.alloc (.cells #[.bool b, .slice aa la ca] 45)).alloc (.cells #[.bool b', .slice ab lb cb] 45)) false none 0 0 (n := w.heap.size + 2) (by simp)).drew.za hb1).za hb2).zb))
   have hW := Below.step (Below.step (below3 w _ _ _).drew hb1) hb2;have hNL := ((noLimb3 w _ _ _ _ _ _ _).drew.za hb1 (by simp)).za hb2 hz1;go_wp2;refine bodyPost_ret (v := .agg #[.bool b2, .slice a2 l2 c2]) (by simp [results, Tryz.results47, go_sem, *]) rfl ⟨_, _, _, _, rfl, ?_⟩;exact int_end hW (by simp <;> omega) hNL h2 _ _
set_option maxHeartbeats 1000000 in
theorem isub_num (b : Bool) (aa : Option Addr) (la ca : Nat) (x : Int) (b' : Bool) (ab : Option Addr) (lb cb : Nat) (y : Int) (w : World) (ha : IntAt w b aa la ca x) (hb : IntAt w b' ab lb cb y) (hla : la ≤ 1000000) (hlb : lb ≤ 1000000) :
  Calls Tryz.prog 70 #[.agg #[.bool b, .slice aa la ca], .agg #[.bool b', .slice ab lb cb]] w fun e w' => ∃ b' ao' len' cap', e = .returned (.agg #[.bool b', .slice ao' len' cap']) ∧ FormAt w' b' ao' len' cap' (x - y) ∧ Below w.heap.size w w' := by
 rw [Int.sub_eq_add_neg];go_enter Tryz.func70, Tryz.ntmps70
 go_wp2_with fail
 refine (iadd_num _ _ _ _ x _ _ _ _ (-y) _ (ha.za (below3 _ _ _ _)) (hb.not.za (below3 _ _ _ _)) hla hlb).mono ?_;rintro e w2 ⟨b2, a1, l1, c1, rfl, h2, hb2⟩;have hz2 : w.heap.size + 2 < w2.heap.size := bmore hb2 (by simp);have hW := Below.step (below3 w _ _ _) hb2;have hNL := (noLimb3 w _ _ _ _ _ _ _).za hb2 (by simp);obtain ⟨hc2, hf2⟩ := bcell hb2;go_wp2;refine bodyPost_ret (v := .agg #[.bool b2, .slice a1 l1 c1]) (by simp [results, Tryz.results70, go_sem, *]) rfl ⟨_, _, _, _, rfl, ?_⟩;exact int_end hW (by simp <;> omega) hNL h2 _ _
set_option maxHeartbeats 1000000 in
theorem risub_num (b : Bool) (aa : Option Addr) (la ca : Nat) (x : Int) (b' : Bool) (ab : Option Addr) (lb cb : Nat) (y : Int) (w : World) (ha : IntAt w b aa la ca x) (hb : IntAt w b' ab lb cb y) (hla : la ≤ 999999) (hlb : lb ≤ 999999) :
  Calls Tryz.prog 42 #[.agg #[.bool b, .slice aa la ca], .agg #[.bool b', .slice ab lb cb]] w fun e w' => ∃ b' ao' len' cap', e = .returned (.agg #[.bool b', .slice ao' len' cap']) ∧ FormAt w' b' ao' len' cap' (x - y) ∧ Below w.heap.size w w' := by
 rw [Int.sub_eq_add_neg];go_enter Tryz.func42, Tryz.ntmps42
 go_wp2_with fail
 refine (riadd_num _ _ _ _ x _ _ _ _ (-y) _ (ha.za (below3 _ _ _ _)) (hb.not.za (below3 _ _ _ _)) hla hlb).mono ?_;rintro e w2 ⟨b2, a1, l1, c1, rfl, h2, hb2⟩;have hz2 : w.heap.size + 2 < w2.heap.size := bmore hb2 (by simp);have hW := Below.step (below3 w _ _ _) hb2;have hNL := (noLimb3 w _ _ _ _ _ _ _).za hb2 (by simp);obtain ⟨hc2, hf2⟩ := bcell hb2;go_wp2;refine bodyPost_ret (v := .agg #[.bool b2, .slice a1 l1 c1]) (by simp [results, Tryz.results42, go_sem, *]) rfl ⟨_, _, _, _, rfl, ?_⟩;exact int_end hW (by simp <;> omega) hNL h2 _ _

/-
 What whole.Mul and the reference's Mul tell (IN PARTS).
-/

theorem sgnd_mul (b b' : Bool) (M N : Nat) : sgnd (b != b') (M * N) = sgnd b M * sgnd b' N := by
 cases b <;> cases b' <;> simp [sgnd, Int.neg_mul, Int.mul_neg, Int.neg_neg]

set_option maxHeartbeats 1000000 in
theorem imul_num (b : Bool) (aa : Option Addr) (la ca : Nat) (x : Int) (b' : Bool) (ab : Option Addr) (lb cb : Nat) (y : Int) (w : World) (ha : IntAt w b aa la ca x) (hb : IntAt w b' ab lb cb y) (hla : la ≤ 1000000) (hlb : lb ≤ 1000000) :
  Calls Tryz.prog 54 #[.agg #[.bool b, .slice aa la ca], .agg #[.bool b', .slice ab lb cb]] w fun e w' => ∃ b' ao' len' cap', e = .returned (.agg #[.bool b', .slice ao' len' cap']) ∧ FormAt w' b' ao' len' cap' (x * y) ∧ Below w.heap.size w w' := by
 obtain ⟨M, hM, rfl⟩ := ha;obtain ⟨N, hN, rfl⟩ := hb;rw [← sgnd_mul];go_enter Tryz.func54, Tryz.ntmps54;go_wp2
 go_region_held3 (fun w' => w'.cell? ⟨w.heap.size, 0, none⟩ = some (.bool b) ∧ w'.cell? ⟨w.heap.size, 1, none⟩ = some (.slice aa la ca) ∧ w'.cell? ⟨w.heap.size + 1, 0, none⟩ = some (.bool b') ∧ w'.cell? ⟨w.heap.size + 1, 1, none⟩ = some (.slice ab lb cb)) (first | exact held2 hb2 (by omega) (by assumption) | exact held2 hb1 (by simp <;> omega) (by assumption) | exact held2_set (by omega) (by assumption) | go_keep) (first | (go_at_call 81; refine (mul_num _ _ _ M _ _ _ N _ (hM.za (below3 _ _ _ _).drew) (hN.za (below3 _ _ _ _).drew) hla hlb).mono ?_; rintro e w1 ⟨a1, l1, c1, rfl, h1, hb1⟩; have hz1 : w.heap.size + 2 < w1.heap.size := bmore hb1 (by simp)) | (go_at_call 67; refine (signed_num _ _ _ _ (M * N) _ h1).mono ?_; rintro e w2 ⟨b2, rfl, h2, hb2⟩; have hz2 : w.heap.size + 2 < w2.heap.size := bmore hb2 hz1; obtain ⟨q1, q2, q3, q4⟩ := (((box_new ((w.alloc (.cells #[.bool b, .slice aa la ca] 45)).alloc (.cells #[.bool b', .slice ab lb cb] 45)) false none 0 0 (n := w.heap.size + 2) (by simp)).drew.za hb1).za hb2).zb))
 have hW := Below.step (Below.step (below3 w _ _ _).drew hb1) hb2;have hNL := ((noLimb3 w _ _ _ _ _ _ _).drew.za hb1 (by simp)).za hb2 hz1;go_wp2;refine bodyPost_ret (v := .agg #[.bool b2, .slice a1 l1 c1]) (by simp [results, Tryz.results54, go_sem, *]) rfl ⟨_, _, _, _, rfl, ?_⟩;exact int_end hW (by simp <;> omega) hNL h2 _ _

set_option maxHeartbeats 1000000 in
theorem rimul_num (b : Bool) (aa : Option Addr) (la ca : Nat) (x : Int) (b' : Bool) (ab : Option Addr) (lb cb : Nat) (y : Int) (w : World) (ha : IntAt w b aa la ca x) (hb : IntAt w b' ab lb cb y) (hla : la ≤ 1000000) (hlb : lb ≤ 1000000) (hlen : la + lb ≤ 1000000) :
  Calls Tryz.prog 43 #[.agg #[.bool b, .slice aa la ca], .agg #[.bool b', .slice ab lb cb]] w fun e w' => ∃ b' ao' len' cap', e = .returned (.agg #[.bool b', .slice ao' len' cap']) ∧ FormAt w' b' ao' len' cap' (x * y) ∧ Below w.heap.size w w' := by
 obtain ⟨M, hM, rfl⟩ := ha;obtain ⟨N, hN, rfl⟩ := hb;rw [← sgnd_mul];have hMN := prod_lt (hM.lt (Nat.le_refl _)) (hN.lt (Nat.le_refl _));go_enter Tryz.func43, Tryz.ntmps43;go_wp2
 go_region_held3 (fun w' => w'.cell? ⟨w.heap.size, 0, none⟩ = some (.bool b) ∧ w'.cell? ⟨w.heap.size, 1, none⟩ = some (.slice aa la ca) ∧ w'.cell? ⟨w.heap.size + 1, 0, none⟩ = some (.bool b') ∧ w'.cell? ⟨w.heap.size + 1, 1, none⟩ = some (.slice ab lb cb)) (first | exact held2 hb2 (by omega) (by assumption) | exact held2 hb1 (by simp <;> omega) (by assumption) | exact held2_set (by omega) (by assumption) | go_keep) (first | (go_at_call 71; refine (rmul_num _ _ _ M _ _ _ N _ (hM.za (below3 _ _ _ _).drew) (hN.za (below3 _ _ _ _).drew) hla hlb).mono ?_; rintro e w1 ⟨a1, l1, c1, rfl, h1, hb1⟩; have hz1 : w.heap.size + 2 < w1.heap.size := bmore hb1 (by simp)) | (go_at_call 55; refine (rform_num _ _ _ _ _ _ ⟨M * N, h1.val, rfl⟩ (Nat.le_trans (h1.len_le hMN) hlen)).mono ?_; rintro e w2 ⟨b2, a2, l2, c2, rfl, h2, hb2⟩; have hz2 : w.heap.size + 2 < w2.heap.size := bmore hb2 hz1; obtain ⟨q1, q2, q3, q4⟩ := (((box_new ((w.alloc (.cells #[.bool b, .slice aa la ca] 45)).alloc (.cells #[.bool b', .slice ab lb cb] 45)) false none 0 0 (n := w.heap.size + 2) (by simp)).drew.za hb1).za hb2).zb))
 have hW := Below.step (Below.step (below3 w _ _ _).drew hb1) hb2;have hNL := ((noLimb3 w _ _ _ _ _ _ _).drew.za hb1 (by simp)).za hb2 hz1;go_wp2;refine bodyPost_ret (v := .agg #[.bool b2,   .slice a2 l2 c2]) (by simp [results, Tryz.results43, go_sem, *]) rfl ⟨_, _, _, _, rfl, ?_⟩;exact int_end hW (by simp <;> omega) hNL h2 _ _

/-
 What whole.Cmp, whole.Same and the reference's Cmp tell (IN PARTS).
-/

theorem zsign_cases (x : Int) : (x < 0 ∧ x.sign = -1) ∨ (x = 0 ∧ x.sign = 0) ∨ (0 < x ∧ x.sign = 1) := by
 rcases Int.lt_trichotomy x 0 with h | h | h
 ·exact Or.inl ⟨h, Int.sign_eq_neg_one_of_neg h⟩
 ·subst h; exact Or.inr (Or.inl ⟨rfl, rfl⟩)
 ·exact Or.inr (Or.inr ⟨h, Int.sign_eq_one_of_pos h⟩)
theorem cmp_less {x y : Int} (h : x.sign < y.sign) : (x - y).sign = -1 := by
 refine Int.sign_eq_neg_one_of_neg ?_;rcases zsign_cases x with h1 | h1 | h1 <;> rcases zsign_cases y with h2 | h2 | h2 <;> omega
theorem cmp_more {x y : Int} (h : y.sign < x.sign) : (x - y).sign = 1 := by
 refine Int.sign_eq_one_of_pos ?_;rcases zsign_cases x with h1 | h1 | h1 <;> rcases zsign_cases y with h2 | h2 | h2 <;> omega
theorem cmp_nat (M N : Nat) {z : Int} (h : z = (M : Int) - (N : Int)) : cmpI M N = z.sign := by
 unfold cmpI
 split
 ·exact (Int.sign_eq_neg_one_of_neg (by omega)).symm
 ·split
  ·exact (Int.sign_eq_one_of_pos (by omega)).symm
  ·rw [show z = 0 by omega]; rfl
theorem cmp_neg {x y : Int} (h : x.sign = y.sign) (h0 : x.sign < 0) : cmpI y.natAbs x.natAbs = (x - y).sign := by
 refine cmp_nat _ _ ?_;rcases zsign_cases x with h1 | h1 | h1 <;> rcases zsign_cases y with h2 | h2 | h2 <;> omega
theorem cmp_pos {x y : Int} (h : x.sign = y.sign) (h0 : ¬ x.sign < 0) : cmpI x.natAbs y.natAbs = (x - y).sign := by
 refine cmp_nat _ _ ?_;rcases zsign_cases x with h1 | h1 | h1 <;> rcases zsign_cases y with h2 | h2 | h2 <;> omega

theorem sign_is (b : Bool) (aa : Option Addr) (la ca : Nat) (z s : Int) (w : World) (ha : IntAt w b aa la ca z) (hla : la ≤ 1000000) (hs : s = z.sign) :
  Calls Tryz.prog 61 #[.agg #[.bool b, .slice aa la ca]] w fun e w' => e = .returned (.int .i64 s) ∧ Below w.heap.size w w' := by
 subst hs;exact sign_num b aa la ca z w ha hla

set_option maxHeartbeats 1000000 in
theorem icmp_num (b : Bool) (aa : Option Addr) (la ca : Nat) (x : Int) (b' : Bool) (ab : Option Addr) (lb cb : Nat) (y : Int) (w : World) (ha : IntAt w b aa la ca x) (hb : IntAt w b' ab lb cb y) (hla : la ≤ 1000000) (hlb : lb ≤ 1000000) :
  Calls Tryz.prog 62 #[.agg #[.bool b, .slice aa la ca], .agg #[.bool b', .slice ab lb cb]] w fun e w' => e = .returned (.int .i64 (x - y).sign) ∧ Below w.heap.size w w' := by
 have HW := zh ((below2 w (.cells #[.bool b, .slice aa la ca] 45) (.cells #[.bool b', .slice ab lb cb] 45)).drew);have HA := zh (ha.za (zu HW));have HB := zh (hb.za (zu HW));have sx := sign_bd x;have sy := sign_bd y;obtain ⟨sX, hX⟩ : ∃ s, s = x.sign := ⟨_, rfl⟩;obtain ⟨sY, hY⟩ : ∃ s, s = y.sign := ⟨_, rfl⟩;rw [← hX] at sx;rw [← hY] at sy;obtain ⟨sx1, sx2⟩ := sx;obtain ⟨sy1, sy2⟩ := sy;have HX := zh hX;have HY := zh hY;clear hX hY ha hb;by_cases h1 : sX < sY
 ·have HR := zh (show (x - y).sign = -1 from cmp_less (by rw [← zu HX, ← zu HY]; exact h1));go_enter Tryz.func62, Tryz.ntmps62
  go_wp2_with fail
  go_region_held3 (fun w' => w'.cell? ⟨w.heap.size, 0, none⟩ = some (.bool b) ∧ w'.cell? ⟨w.heap.size, 1, none⟩ = some (.slice aa la ca) ∧ w'.cell? ⟨w.heap.size + 1, 0, none⟩ = some (.bool b') ∧ w'.cell? ⟨w.heap.size + 1, 1, none⟩ = some (.slice ab lb cb)) (first | exact held2 hb2 (by omega) (by assumption) | exact held2 hb1 (by simp <;> omega) (by assumption) | go_keep) (first | (go_at_call 61; with_reducible refine (sign_is b aa la ca x sX _ (zu HA) hla (zu HX)).mono ?_; rintro e w1 ⟨rfl, hb1⟩; have hz1 : w.heap.size + 1 < w1.heap.size := bmore hb1 (by simp)) | (go_at_call 61; with_reducible refine (sign_is b' ab lb cb y sY _ ((zu HB).za hb1) hlb (zu HY)).mono ?_; rintro e w2 ⟨rfl, hb2⟩; have hz2 : w.heap.size + 1 < w2.heap.size := bmore hb2 hz1))
  obtain ⟨p1, p2, p3, p4⟩ := ((((box_new w b aa la ca rfl).alloc (.cells #[.bool b', .slice ab lb cb] 45)).drew.za hb1).za hb2).zb;obtain ⟨q1, q2, q3, q4⟩ := (((box_new (w.alloc (.cells #[.bool b, .slice aa la ca] 45)) b' ab lb cb (n := w.heap.size + 1) (by simp)).drew.za hb1).za hb2).zb;have hW := Below.step (Below.step (zu HW) hb1) hb2;go_wp2;go_ret;exact ⟨ret_int (zu HR).symm, hW⟩
 ·by_cases h2 : sY < sX
  ·have HR := zh (show (x - y).sign = 1 from cmp_more (by rw [← zu HX, ← zu HY]; exact h2));go_enter Tryz.func62, Tryz.ntmps62
   go_wp2_with fail
   go_region_held3 (fun w' => w'.cell? ⟨w.heap.size, 0, none⟩ = some (.bool b) ∧ w'.cell? ⟨w.heap.size, 1, none⟩ = some (.slice aa la ca) ∧ w'.cell? ⟨w.heap.size + 1, 0, none⟩ = some (.bool b') ∧ w'.cell? ⟨w.heap.size + 1, 1, none⟩ = some (.slice ab lb cb)) (first | exact held2 hb2 (by omega) (by assumption) | exact held2 hb1 (by simp <;> omega) (by assumption) | go_keep) (first | (go_at_call 61; with_reducible refine (sign_is b aa la ca x sX _ (zu HA) hla (zu HX)).mono ?_; rintro e w1 ⟨rfl, hb1⟩; have hz1 : w.heap.size + 1 < w1.heap.size := bmore hb1 (by simp)) | (go_at_call 61; with_reducible refine (sign_is b' ab lb cb y sY _ ((zu HB).za hb1) hlb (zu HY)).mono ?_; rintro e w2 ⟨rfl, hb2⟩; have hz2 : w.heap.size + 1 < w2.heap.size := bmore hb2 hz1))
   obtain ⟨p1, p2, p3, p4⟩ := ((((box_new w b aa la ca rfl).alloc (.cells #[.bool b', .slice ab lb cb] 45)).drew.za hb1).za hb2).zb;obtain ⟨q1, q2, q3, q4⟩ := (((box_new (w.alloc (.cells #[.bool b, .slice aa la ca] 45)) b' ab lb cb (n := w.heap.size + 1) (by simp)).drew.za hb1).za hb2).zb;have hW := Below.step (Below.step (zu HW) hb1) hb2;go_wp2;go_ret;exact ⟨ret_int (zu HR).symm, hW⟩
  ·obtain rfl : sX = sY := by omega
   have hE := zh ((zu HX).symm.trans (zu HY));by_cases h3 : sX < 0
   ·have HR := zh (cmp_neg (zu hE) (by rw [← zu HX]; exact h3));clear h1 h2;go_enter Tryz.func62, Tryz.ntmps62
    go_wp2_with fail
    go_region_held3 (fun w' => w'.cell? ⟨w.heap.size, 0, none⟩ = some (.bool b) ∧ w'.cell? ⟨w.heap.size, 1, none⟩ = some (.slice aa la ca) ∧ w'.cell? ⟨w.heap.size + 1, 0, none⟩ = some (.bool b') ∧ w'.cell? ⟨w.heap.size + 1, 1, none⟩ = some (.slice ab lb cb)) (first | exact held2 hb2 (by omega) (by assumption) | exact held2 hb1 (by simp <;> omega) (by assumption) | go_keep) (first | (go_at_call 61; with_reducible refine (sign_is b aa la ca x sX _ (zu HA) hla (zu HX)).mono ?_; rintro e w1 ⟨rfl, hb1⟩; have hz1 : w.heap.size + 1 < w1.heap.size := bmore hb1 (by simp)) | (go_at_call 61; with_reducible refine (sign_is b' ab lb cb y sX _ ((zu HB).za hb1) hlb (zu HY)).mono ?_; rintro e w2 ⟨rfl, hb2⟩; have hz2 : w.heap.size + 1 < w2.heap.size := bmore hb2 hz1))
    obtain ⟨p1, p2, p3, p4⟩ := ((((box_new w b aa la ca rfl).alloc (.cells #[.bool b', .slice ab lb cb] 45)).drew.za hb1).za hb2).zb;obtain ⟨q1, q2, q3, q4⟩ := (((box_new (w.alloc (.cells #[.bool b, .slice aa la ca] 45)) b' ab lb cb (n := w.heap.size + 1) (by simp)).drew.za hb1).za hb2).zb;have hW := Below.step (Below.step (zu HW) hb1) hb2
    go_wp2_with fail
    refine (cmp_num _ _ _ y.natAbs _ _ _ x.natAbs _ (((zu HB).za hb1).za hb2).val (((zu HA).za hb1).za hb2).val).mono ?_;rintro e w3 ⟨rfl, hb3⟩;have hW3 := Below.step hW hb3;go_wp2;go_ret;exact ⟨ret_int (zu HR), hW3⟩
   ·have HR := zh (cmp_pos (zu hE) (by rw [← zu HX]; exact h3));clear h1 h2;go_enter Tryz.func62, Tryz.ntmps62
    go_wp2_with fail
    go_region_held3 (fun w' => w'.cell? ⟨w.heap.size, 0, none⟩ = some (.bool b) ∧ w'.cell? ⟨w.heap.size, 1, none⟩ = some (.slice aa la ca) ∧ w'.cell? ⟨w.heap.size + 1, 0, none⟩ = some (.bool b') ∧ w'.cell? ⟨w.heap.size + 1, 1, none⟩ = some (.slice ab lb cb)) (first | exact held2 hb2 (by omega) (by assumption) | exact held2 hb1 (by simp <;> omega) (by assumption) | go_keep) (first | (go_at_call 61; with_reducible refine (sign_is b aa la ca x sX _ (zu HA) hla (zu HX)).mono ?_; rintro e w1 ⟨rfl, hb1⟩; have hz1 : w.heap.size + 1 < w1.heap.size := bmore hb1 (by simp)) | (go_at_call 61; with_reducible refine (sign_is b' ab lb cb y sX _ ((zu HB).za hb1) hlb (zu HY)).mono ?_; rintro e w2 ⟨rfl, hb2⟩; have hz2 : w.heap.size + 1 < w2.heap.size := bmore hb2 hz1))
    obtain ⟨p1, p2, p3, p4⟩ := ((((box_new w b aa la ca rfl).alloc (.cells #[.bool b', .slice ab lb cb] 45)).drew.za hb1).za hb2).zb;obtain ⟨q1, q2, q3, q4⟩ := (((box_new (w.alloc (.cells #[.bool b, .slice aa la ca] 45)) b' ab lb cb (n := w.heap.size + 1) (by simp)).drew.za hb1).za hb2).zb;have hW := Below.step (Below.step (zu HW) hb1) hb2
    go_wp2_with fail
    refine (cmp_num _ _ _ x.natAbs _ _ _ y.natAbs _ (((zu HA).za hb1).za hb2).val (((zu HB).za hb1).za hb2).val).mono ?_;rintro e w3 ⟨rfl, hb3⟩;have hW3 := Below.step hW hb3;go_wp2;go_ret;exact ⟨ret_int (zu HR), hW3⟩

set_option maxHeartbeats 1000000 in
theorem ricmp_num (b : Bool) (aa : Option Addr) (la ca : Nat) (x : Int) (b' : Bool) (ab : Option Addr) (lb cb : Nat) (y : Int) (w : World) (ha : IntAt w b aa la ca x) (hb : IntAt w b' ab lb cb y) (hla : la ≤ 999998) (hlb : lb ≤ 999998) :
  Calls Tryz.prog 45 #[.agg #[.bool b, .slice aa la ca], .agg #[.bool b', .slice ab lb cb]] w fun e w' => e = .returned (.int .i64 (x - y).sign) ∧ Below w.heap.size w w' := by
 have hbox := below2 w (.cells #[.bool b, .slice aa la ca] 45) (.cells #[.bool b', .slice ab lb cb] 45);have hlt := sum_lt (m := max la lb + 1) (ha.lt (Nat.le_refl _)) (hb.lt (Nat.le_refl _)) (by omega) (by omega);have HL := zh (show (x - y).natAbs < Bp (max la lb + 1) by omega);clear hlt;go_enter Tryz.func45, Tryz.ntmps45
 go_wp2_with fail
 refine (risub_num _ _ _ _ x _ _ _ _ y _ (ha.za hbox) (hb.za hbox) (by omega) (by omega)).mono ?_;rintro e w1 ⟨b1, a1, l1, c1, rfl, h1, hb1⟩
 go_wp2_with fail
 refine (rsign_num _ _ _ _ _ _ h1.int (Nat.le_trans (h1.len_le (zu HL)) (by omega))).mono ?_;rintro e w2 ⟨rfl, hb2⟩;have hW := Below.step (Below.step hbox hb1) hb2;go_wp2;go_ret;exact ⟨rfl, hW⟩
/-
 What the reference's Same tells of two Ints, each in its one form.
-/

theorem numAt_same (aa : Option Addr) (la ca : Nat) (ab : Option Addr) (lb cb : Nat) (M N : Nat) (w : World) (ha : NumAt w aa la ca M) (hb : NumAt w ab lb cb N) :
  Calls Tryz.prog 56 #[.slice aa la ca, .slice ab lb cb] w fun e w' => e = .returned (.bool (decide (M = N))) ∧ Below w.heap.size w w' := by
 obtain ⟨xs, hx, nx, vx⟩ := ha;obtain ⟨ys, hy, ny, vy⟩ := hb;refine (same_any aa la ca xs ab lb cb ys w hx hy).mono ?_;rintro e w' ⟨rfl, hbel⟩;refine ⟨?_, hbel⟩;have e : decide (xs = ys) = decide (M = N) := by
  rw [decide_eq_decide]
  constructor
  ·rintro rfl; rw [← vx, ← vy]
  ·intro h; exact norm_inj hx.small hy.small nx ny (by rw [vx, vy, h])
 rw [e]

set_option maxHeartbeats 1000000 in
theorem rsame_num (b : Bool) (aa : Option Addr) (la ca : Nat) (z : Int) (b' : Bool) (aa' : Option Addr) (la' ca' : Nat) (z' : Int) (w : World) (ha : FormAt w b aa la ca z) (ha' : FormAt w b' aa' la' ca' z') :
  Calls Tryz.prog 22 #[.agg #[.bool b, .slice aa la ca], .agg #[.bool b', .slice aa' la' ca']] w fun e w' => e = .returned (.bool (decide (z = z'))) ∧ Below w.heap.size w w' := by
 have hbox := below2 w (.cells #[.bool b, .slice aa la ca] 45) (.cells #[.bool b', .slice aa' la' ca'] 45);by_cases hb : b = b'
 ·have e0 : decide (z = z') = decide (z.natAbs = z'.natAbs) := by
   have e1 := ha.2;rw [hb, ha'.2] at e1;rw [decide_eq_decide] at e1 ⊢;omega
  rw [e0];have n1 := ha.1.za hbox;have n2 := ha'.1.za hbox;clear ha ha';subst hb;have hbb : (b == b) = true := by simp
  go_enter Tryz.func22, Tryz.ntmps22
  go_wp2_with fail
  refine (numAt_same _ _ _ _ _ _ _ _ _ n1 n2).mono ?_;rintro e w1 ⟨rfl, hb1⟩;have hW := Below.step hbox hb1;go_wp2;go_ret;exact ⟨rfl, hW⟩
 ·have e0 : decide (z = z') = false := by
   refine decide_eq_false (fun e => hb ?_);rw [ha.2, ha'.2, e]
  rw [e0];clear ha ha';have hbb : (b == b') = false := by simpa using hb
  go_enter Tryz.func22, Tryz.ntmps22;go_wp2;go_ret;exact ⟨rfl, hbox⟩
theorem rsame_true (b : Bool) (aa : Option Addr) (la ca : Nat) (z : Int) (b' : Bool) (aa' : Option Addr) (la' ca' : Nat) (w : World) (ha : FormAt w b aa la ca z) (ha' : FormAt w b' aa' la' ca' z) :
  Calls Tryz.prog 22 #[.agg #[.bool b, .slice aa la ca], .agg #[.bool b', .slice aa' la' ca']] w fun e w' => e = .returned (.bool true) ∧ Below w.heap.size w w' := by
 have := rsame_num _ _ _ _ _ _ _ _ _ _ _ ha ha'
 rwa [decide_eq_true (rfl : z = z)] at this

/-
 What whole.Of and the reference's Of tell (IN PARTS).
-/

theorem two_val {W : World} {g N : Nat} (hN : N < 18446744073709551616) (h0 : W.cell? ⟨g, 0, none⟩ = some (.int .u32 ((N : Int) % 4294967296))) (h1 : W.cell? ⟨g, 0 + 1, none⟩ = some (.int .u32 ((N : Int) / 4294967296))) (_hg : True) (hlt : g < W.heap.size) : ValAt W (some ⟨g, 0, none⟩) 2 2 N := by
 refine ⟨[N % 4294967296, N / 4294967296], ⟨rfl, Nat.le_refl _, by unfold maxLen; decide, fun h => by simp at h, small_of_mem (by intro x hx; simp at hx; rcases hx with rfl | rfl <;> omega), fun _ => ⟨g, 0, rfl, hlt, fun i hi => ?_⟩⟩, ?_⟩
 ·match i with
  | 0 => rw [Nat.zero_add, h0]; simp [lim]
  | 1 => rw [h1]; simp [lim]
 ·simp [Lb.val, pre, lim, Bp]; omega

set_option maxHeartbeats 1000000 in
theorem of_num (n : Int) (w : World) (h1 : -9223372036854775808 ≤ n) (h2 : n ≤ 9223372036854775807) :
  Calls Tryz.prog 39 #[.int .i64 n] w fun e w' => ∃ b' ao' len' cap', e = .returned (.agg #[.bool b', .slice ao' len' cap']) ∧ FormAt w' b' ao' len' cap' n ∧ Below w.heap.size w w' := by
 obtain ⟨N, hNn⟩ : ∃ N : Nat, N = n.natAbs := ⟨_, rfl⟩;have hN64 : N < 18446744073709551616 := by omega
 have hA32 : bits BinOp.and IntKind.u64 (N : Int) 4294967295 % 4294967296 = (N : Int) % 4294967296 := by rw [and_low32 _ (by omega) (by omega)]; omega
 by_cases hn : n < 0
 ·have hS : IntKind.u64.wrap (-IntKind.u64.wrap n) = (N : Int) := by rw [IntKind.wrap_u64, IntKind.wrap_u64]; omega
  have e0 : n = sgnd true N := by rw [sgnd_true]; omega
  have E0 := zh e0;have H1 := zh hNn;clear e0 hNn;go_enter Tryz.func39, Tryz.ntmps39
  go_wp2_with fail
  refine (trim_num _ _ _ N _ (two_val hN64 (by simp) (by simp) (by simp) (by simp <;> omega)) (by omega)).mono ?_;rintro e w1 ⟨a1, l1, c1, rfl, g1, hb1⟩;have hz1 : w.heap.size + 1 < w1.heap.size := bmore hb1 (by simp);have hy1 : w.heap.size < w1.heap.size := by omega
  have hNL := (noLimb_new w false none 0 0 45).alloc (by simp) (.cells #[.int .u32 ((N : Int) % 4294967296), .int .u32 ((N : Int) / 4294967296)] 73);have hNL1 := hNL.za hb1 (by simp <;> omega);have hW := Below.step (below2 w _ _) hb1;clear hNL
  go_wp2_with fail
  refine (signed_num _ _ _ _ N _ g1).mono ?_;rintro e w2 ⟨b2, rfl, g2, hb2⟩;obtain ⟨q1, q2, q3, q4⟩ := ((((box_new w false none 0 0 rfl).alloc _).za hb1).za hb2).zb;have hz2 : w.heap.size + 1 < w2.heap.size := bmore hb2 hz1;have hy2 : w.heap.size < w2.heap.size := by omega
  have hNL2 := hNL1.za hb2 hy1;have hW2 := Below.step hW hb2;rw [← zu E0] at g2;go_wp2;refine bodyPost_ret (v := .agg #[.bool b2, .slice a1 l1 c1]) (by simp [results, Tryz.results39, go_sem, *]) rfl ⟨_, _, _, _, rfl, ?_⟩;exact int_end hW2 (Nat.le_refl _) hNL2 g2 _ _
 ·have hS : IntKind.u64.wrap n = (N : Int) := by rw [IntKind.wrap_u64]; omega
  have e0 : n = sgnd false N := by rw [sgnd_false]; omega
  have E0 := zh e0;have H1 := zh hNn;clear e0 hNn;go_enter Tryz.func39, Tryz.ntmps39
  go_wp2_with fail
  refine (trim_num _ _ _ N _ (two_val hN64 (by simp) (by simp) (by simp) (by simp <;> omega)) (by omega)).mono ?_;rintro e w1 ⟨a1, l1, c1, rfl, g1, hb1⟩;have hz1 : w.heap.size + 1 < w1.heap.size := bmore hb1 (by simp);have hy1 : w.heap.size < w1.heap.size := by omega
  have hNL := (noLimb_new w false none 0 0 45).alloc (by simp) (.cells #[.int .u32 ((N : Int) % 4294967296), .int .u32 ((N : Int) / 4294967296)] 73);have hNL1 := hNL.za hb1 (by simp <;> omega);have hW := Below.step (below2 w _ _) hb1;clear hNL
  go_wp2_with fail
  refine (signed_num _ _ _ _ N _ g1).mono ?_;rintro e w2 ⟨b2, rfl, g2, hb2⟩;obtain ⟨q1, q2, q3, q4⟩ := ((((box_new w false none 0 0 rfl).alloc _).za hb1).za hb2).zb;have hz2 : w.heap.size + 1 < w2.heap.size := bmore hb2 hz1;have hy2 : w.heap.size < w2.heap.size := by omega
  have hNL2 := hNL1.za hb2 hy1;have hW2 := Below.step hW hb2;rw [← zu E0] at g2;go_wp2;refine bodyPost_ret (v := .agg #[.bool b2, .slice a1 l1 c1]) (by simp [results, Tryz.results39, go_sem, *]) rfl ⟨_, _, _, _, rfl, ?_⟩;exact int_end hW2 (Nat.le_refl _) hNL2 g2 _ _

set_option maxHeartbeats 1000000 in
theorem rof_num (n : Int) (w : World) (h1 : -9223372036854775808 ≤ n) (h2 : n ≤ 9223372036854775807) :
  Calls Tryz.prog 21 #[.int .i64 n] w fun e w' => ∃ b' ao' len' cap', e = .returned (.agg #[.bool b', .slice ao' len' cap']) ∧ FormAt w' b' ao' len' cap' n ∧ Below w.heap.size w w' := by
 obtain ⟨N, hNn⟩ : ∃ N : Nat, N = n.natAbs := ⟨_, rfl⟩;have hN64 : N < 18446744073709551616 := by omega
 have hA32 : bits BinOp.and IntKind.u64 (N : Int) 4294967295 % 4294967296 = (N : Int) % 4294967296 := by rw [and_low32 _ (by omega) (by omega)]; omega
 by_cases hn : n < 0
 ·have hS : IntKind.u64.wrap (-IntKind.u64.wrap n) = (N : Int) := by rw [IntKind.wrap_u64, IntKind.wrap_u64]; omega
  have hS2 : IntKind.u64.wrap (0 - IntKind.u64.wrap n) = (N : Int) := by rw [IntKind.wrap_u64, IntKind.wrap_u64]; omega
  have e0 : n = sgnd true N := by rw [sgnd_true]; omega
  have E0 := zh e0;have H1 := zh hNn;clear e0 hNn;go_enter Tryz.func21, Tryz.ntmps21
  go_wp2_with fail
  refine (rform_num _ _ _ _ n _ ⟨N, two_val hN64 (by simp) (by simp) trivial (by simp <;> omega), zu E0⟩ (by omega)).mono ?_;rintro e w1 ⟨b1, a1, l1, c1, rfl, g1, hb1⟩;have hz1 : w.heap.size + 1 < w1.heap.size := bmore hb1 (by simp);have hy1 : w.heap.size < w1.heap.size := by omega
  have hNL := (noLimb_new w false none 0 0 45).alloc (by simp) (.cells #[.int .u32 ((N : Int) % 4294967296), .int .u32 ((N : Int) / 4294967296)] 73);have hNL1 := hNL.za hb1 (by simp <;> omega);have hW := Below.step (below2 w _ _) hb1;obtain ⟨q1, q2, q3, q4⟩ := (((box_new w false none 0 0 rfl).alloc _).za hb1).zb;clear hNL;go_wp2;refine bodyPost_ret (v := .agg #[.bool b1, .slice a1 l1 c1]) (by simp [results, Tryz.results21, go_sem, *]) rfl ⟨_, _, _, _, rfl, ?_⟩;exact int_end hW (Nat.le_refl _) hNL1 g1 _ _
 ·have hS : IntKind.u64.wrap n = (N : Int) := by rw [IntKind.wrap_u64]; omega
  have e0 : n = sgnd false N := by rw [sgnd_false]; omega
  have E0 := zh e0;have H1 := zh hNn;clear e0 hNn;go_enter Tryz.func21, Tryz.ntmps21
  go_wp2_with fail
  refine (rform_num _ _ _ _ n _ ⟨N, two_val hN64 (by simp) (by simp) trivial (by simp <;> omega), zu E0⟩ (by omega)).mono ?_;rintro e w1 ⟨b1, a1, l1, c1, rfl, g1, hb1⟩;have hz1 : w.heap.size + 1 < w1.heap.size := bmore hb1 (by simp);have hy1 : w.heap.size < w1.heap.size := by omega
  have hNL := (noLimb_new w false none 0 0 45).alloc (by simp) (.cells #[.int .u32 ((N : Int) % 4294967296), .int .u32 ((N : Int) / 4294967296)] 73);have hNL1 := hNL.za hb1 (by simp <;> omega);have hW := Below.step (below2 w _ _) hb1;obtain ⟨q1, q2, q3, q4⟩ := (((box_new w false none 0 0 rfl).alloc _).za hb1).zb;clear hNL;go_wp2;refine bodyPost_ret (v := .agg #[.bool b1, .slice a1 l1 c1]) (by simp [results, Tryz.results21, go_sem, *]) rfl ⟨_, _, _, _, rfl, ?_⟩;exact int_end hW (Nat.le_refl _) hNL1 g1 _ _

/-
 The contracts of package whole and of the reference's Ints with how many limbs a number has at most (IN PARTS): 'IK' (an Int of whatever form, below so many limbs), 'FK' (in its one form).
-/

def IK (w : World) (b : Bool) (ao : Option Addr) (len cap : Nat) (z : Int) (k : Nat) : Prop := IntAt w b ao len cap z ∧ len ≤ 999990 ∧ z.natAbs < Bp k
def FK (w : World) (b : Bool) (ao : Option Addr) (len cap : Nat) (z : Int) (k : Nat) : Prop := FormAt w b ao len cap z ∧ z.natAbs < Bp k
theorem IK.za {w w' : World} {b : Bool} {ao : Option Addr} {len cap k : Nat} {z : Int} (h : IK w b ao len cap z k) (hb : Below w.heap.size w w') : IK w' b ao len cap z k := ⟨h.1.za hb, h.2⟩
theorem FK.za {w w' : World} {b : Bool} {ao : Option Addr} {len cap k : Nat} {z : Int} (h : FK w b ao len cap z k) (hb : Below w.heap.size w w') : FK w' b ao len cap z k := ⟨h.1.za hb, h.2⟩
theorem FK.ik {w : World} {b : Bool} {ao : Option Addr} {len cap k : Nat} {z : Int} (h : FK w b ao len cap z k) (hk : k ≤ 999990) : IK w b ao len cap z k := ⟨h.1.int, Nat.le_trans (h.1.len_le h.2) hk, h.2⟩
theorem ik_of {w : World} {b : Bool} {ao : Option Addr} {len cap k : Nat} {z : Int} (h : IntAt w b ao len cap z) (hl : len ≤ k) (hk : k ≤ 999990) : IK w b ao len cap z k := ⟨h, Nat.le_trans hl hk, h.lt hl⟩
theorem FK.le {w : World} {b : Bool} {ao : Option Addr} {len cap k l : Nat} {z : Int} (h : FK w b ao len cap z k) (hl : z.natAbs < Bp l) : FK w b ao len cap z l := ⟨h.1, hl⟩
theorem FK.eq {w : World} {b : Bool} {ao : Option Addr} {len cap k : Nat} {z z' : Int} (h : FK w b ao len cap z k) (e : z = z') : FK w b ao len cap z' k := e ▸ h
theorem abs_mul_lt {x y : Int} {k l : Nat} (hx : x.natAbs < Bp k) (hy : y.natAbs < Bp l) : (x * y).natAbs < Bp (k + l) := by
 rw [Int.natAbs_mul]; exact prod_lt hx hy
theorem abs_add_lt {x y : Int} {k l : Nat} (hx : x.natAbs < Bp k) (hy : y.natAbs < Bp l) : (x + y).natAbs < Bp (max k l + 1) := by
 have := sum_lt (m := max k l + 1) hx hy (by omega) (by omega);omega
theorem abs_sub_lt {x y : Int} {k l : Nat} (hx : x.natAbs < Bp k) (hy : y.natAbs < Bp l) : (x - y).natAbs < Bp (max k l + 1) := by
 have := sum_lt (m := max k l + 1) hx hy (by omega) (by omega);omega

theorem addK (b : Bool) (aa : Option Addr) (la ca : Nat) (x : Int) (k : Nat) (b' : Bool) (ab : Option Addr) (lb cb : Nat) (y : Int) (l : Nat) (w : World) (hx : IK w b aa la ca x k) (hy : IK w b' ab lb cb y l) : Calls Tryz.prog 51 #[.agg #[.bool b, .slice aa la ca], .agg #[.bool b', .slice ab lb cb]] w fun e w' => ∃ c ao' len' cap', e = .returned (.agg #[.bool c, .slice ao' len' cap']) ∧ FK w' c ao' len' cap' (x + y) (max k l + 1) ∧ Below w.heap.size w w' := by
 refine (iadd_num _ _ _ _ x _ _ _ _ y _ hx.1 hy.1 (Nat.le_trans hx.2.1 (by omega)) (Nat.le_trans hy.2.1 (by omega))).mono ?_;rintro e w' ⟨c, ao', len', cap', rfl, h, hb⟩;exact ⟨_, _, _, _, rfl, ⟨h, abs_add_lt hx.2.2 hy.2.2⟩, hb⟩
theorem raddK (b : Bool) (aa : Option Addr) (la ca : Nat) (x : Int) (k : Nat) (b' : Bool) (ab : Option Addr) (lb cb : Nat) (y : Int) (l : Nat) (w : World) (hx : IK w b aa la ca x k) (hy : IK w b' ab lb cb y l) : Calls Tryz.prog 47 #[.agg #[.bool b, .slice aa la ca], .agg #[.bool b', .slice ab lb cb]] w fun e w' => ∃ c ao' len' cap', e = .returned (.agg #[.bool c, .slice ao' len' cap']) ∧ FK w' c ao' len' cap' (x + y) (max k l + 1) ∧ Below w.heap.size w w' := by
 refine (riadd_num _ _ _ _ x _ _ _ _ y _ hx.1 hy.1 (Nat.le_trans hx.2.1 (by omega)) (Nat.le_trans hy.2.1 (by omega))).mono ?_;rintro e w' ⟨c, ao', len', cap', rfl, h, hb⟩;exact ⟨_, _, _, _, rfl, ⟨h, abs_add_lt hx.2.2 hy.2.2⟩, hb⟩
theorem subK (b : Bool) (aa : Option Addr) (la ca : Nat) (x : Int) (k : Nat) (b' : Bool) (ab : Option Addr) (lb cb : Nat) (y : Int) (l : Nat) (w : World) (hx : IK w b aa la ca x k) (hy : IK w b' ab lb cb y l) : Calls Tryz.prog 70 #[.agg #[.bool b, .slice aa la ca], .agg #[.bool b', .slice ab lb cb]] w fun e w' => ∃ c ao' len' cap', e = .returned (.agg #[.bool c, .slice ao' len' cap']) ∧ FK w' c ao' len' cap' (x - y) (max k l + 1) ∧ Below w.heap.size w w' := by
 refine (isub_num _ _ _ _ x _ _ _ _ y _ hx.1 hy.1 (Nat.le_trans hx.2.1 (by omega)) (Nat.le_trans hy.2.1 (by omega))).mono ?_;rintro e w' ⟨c, ao', len', cap', rfl, h, hb⟩;exact ⟨_, _, _, _, rfl, ⟨h, abs_sub_lt hx.2.2 hy.2.2⟩, hb⟩
theorem rsubK (b : Bool) (aa : Option Addr) (la ca : Nat) (x : Int) (k : Nat) (b' : Bool) (ab : Option Addr) (lb cb : Nat) (y : Int) (l : Nat) (w : World) (hx : IK w b aa la ca x k) (hy : IK w b' ab lb cb y l) : Calls Tryz.prog 42 #[.agg #[.bool b, .slice aa la ca], .agg #[.bool b', .slice ab lb cb]] w fun e w' => ∃ c ao' len' cap', e = .returned (.agg #[.bool c, .slice ao' len' cap']) ∧ FK w' c ao' len' cap' (x - y) (max k l + 1) ∧ Below w.heap.size w w' := by
 refine (risub_num _ _ _ _ x _ _ _ _ y _ hx.1 hy.1 (Nat.le_trans hx.2.1 (by omega)) (Nat.le_trans hy.2.1 (by omega))).mono ?_;rintro e w' ⟨c, ao', len', cap', rfl, h, hb⟩;exact ⟨_, _, _, _, rfl, ⟨h, abs_sub_lt hx.2.2 hy.2.2⟩, hb⟩
theorem mulK (b : Bool) (aa : Option Addr) (la ca : Nat) (x : Int) (k : Nat) (b' : Bool) (ab : Option Addr) (lb cb : Nat) (y : Int) (l : Nat) (w : World) (hx : IK w b aa la ca x k) (hy : IK w b' ab lb cb y l) : Calls Tryz.prog 54 #[.agg #[.bool b, .slice aa la ca], .agg #[.bool b', .slice ab lb cb]] w fun e w' => ∃ c ao' len' cap', e = .returned (.agg #[.bool c, .slice ao' len' cap']) ∧ FK w' c ao' len' cap' (x * y) (k + l) ∧ Below w.heap.size w w' := by
 refine (imul_num _ _ _ _ x _ _ _ _ y _ hx.1 hy.1 (Nat.le_trans hx.2.1 (by omega)) (Nat.le_trans hy.2.1 (by omega))).mono ?_;rintro e w' ⟨c, ao', len', cap', rfl, h, hb⟩;exact ⟨_, _, _, _, rfl, ⟨h, abs_mul_lt hx.2.2 hy.2.2⟩, hb⟩
theorem rmulK (b : Bool) (aa : Option Addr) (la ca : Nat) (x : Int) (k : Nat) (b' : Bool) (ab : Option Addr) (lb cb : Nat) (y : Int) (l : Nat) (w : World) (hx : IK w b aa la ca x k) (hy : IK w b' ab lb cb y l) (hkl : la + lb ≤ 1000000) : Calls Tryz.prog 43 #[.agg #[.bool b, .slice aa la ca], .agg #[.bool b', .slice ab lb cb]] w fun e w' => ∃ c ao' len' cap', e = .returned (.agg #[.bool c, .slice ao' len' cap']) ∧ FK w' c ao' len' cap' (x * y) (k + l) ∧ Below w.heap.size w w' := by
 refine (rimul_num _ _ _ _ x _ _ _ _ y _ hx.1 hy.1 (Nat.le_trans hx.2.1 (by omega)) (Nat.le_trans hy.2.1 (by omega)) hkl).mono ?_;rintro e w' ⟨c, ao', len', cap', rfl, h, hb⟩;exact ⟨_, _, _, _, rfl, ⟨h, abs_mul_lt hx.2.2 hy.2.2⟩, hb⟩
theorem formK (b : Bool) (aa : Option Addr) (la ca : Nat) (x : Int) (k : Nat) (w : World) (hx : IK w b aa la ca x k) : Calls Tryz.prog 80 #[.agg #[.bool b, .slice aa la ca]] w fun e w' => ∃ c ao' len' cap', e = .returned (.agg #[.bool c, .slice ao' len' cap']) ∧ FK w' c ao' len' cap' x k ∧ Below w.heap.size w w' := by
 refine (form_num _ _ _ _ x _ hx.1 (Nat.le_trans hx.2.1 (by omega))).mono ?_;rintro e w' ⟨c, ao', len', cap', rfl, h, hb⟩;exact ⟨_, _, _, _, rfl, ⟨h, hx.2.2⟩, hb⟩
theorem rformK (b : Bool) (aa : Option Addr) (la ca : Nat) (x : Int) (k : Nat) (w : World) (hx : IK w b aa la ca x k) : Calls Tryz.prog 55 #[.agg #[.bool b, .slice aa la ca]] w fun e w' => ∃ c ao' len' cap', e = .returned (.agg #[.bool c, .slice ao' len' cap']) ∧ FK w' c ao' len' cap' x k ∧ Below w.heap.size w w' := by
 refine (rform_num _ _ _ _ x _ hx.1 (Nat.le_trans hx.2.1 (by omega))).mono ?_;rintro e w' ⟨c, ao', len', cap', rfl, h, hb⟩;exact ⟨_, _, _, _, rfl, ⟨h, hx.2.2⟩, hb⟩
theorem negK (b : Bool) (aa : Option Addr) (la ca : Nat) (x : Int) (k : Nat) (w : World) (hx : IK w b aa la ca x k) : Calls Tryz.prog 53 #[.agg #[.bool b, .slice aa la ca]] w fun e w' => ∃ c ao' len' cap', e = .returned (.agg #[.bool c, .slice ao' len' cap']) ∧ FK w' c ao' len' cap' (-x) k ∧ Below w.heap.size w w' := by
 refine (neg_num _ _ _ _ x _ hx.1 (Nat.le_trans hx.2.1 (by omega))).mono ?_;rintro e w' ⟨c, ao', len', cap', rfl, h, hb⟩;exact ⟨_, _, _, _, rfl, ⟨h, by rw [Int.natAbs_neg]; exact hx.2.2⟩, hb⟩
theorem absK (b : Bool) (aa : Option Addr) (la ca : Nat) (x : Int) (k : Nat) (w : World) (hx : IK w b aa la ca x k) : Calls Tryz.prog 63 #[.agg #[.bool b, .slice aa la ca]] w fun e w' => ∃ c ao' len' cap', e = .returned (.agg #[.bool c, .slice ao' len' cap']) ∧ FK w' c ao' len' cap' (x.natAbs : Int) k ∧ Below w.heap.size w w' := by
 refine (abs_num _ _ _ _ x _ hx.1 (Nat.le_trans hx.2.1 (by omega))).mono ?_;rintro e w' ⟨c, ao', len', cap', rfl, h, hb⟩;exact ⟨_, _, _, _, rfl, ⟨h, by rw [Int.natAbs_natCast]; exact hx.2.2⟩, hb⟩
theorem rabsK (b : Bool) (aa : Option Addr) (la ca : Nat) (x : Int) (k : Nat) (w : World) (hx : IK w b aa la ca x k) : Calls Tryz.prog 46 #[.agg #[.bool b, .slice aa la ca]] w fun e w' => ∃ c ao' len' cap', e = .returned (.agg #[.bool c, .slice ao' len' cap']) ∧ FK w' c ao' len' cap' (x.natAbs : Int) k ∧ Below w.heap.size w w' := by
 refine (rabs_num _ _ _ _ x _ hx.1 (Nat.le_trans hx.2.1 (by omega))).mono ?_;rintro e w' ⟨c, ao', len', cap', rfl, h, hb⟩;exact ⟨_, _, _, _, rfl, ⟨h, by rw [Int.natAbs_natCast]; exact hx.2.2⟩, hb⟩
theorem signK (b : Bool) (aa : Option Addr) (la ca : Nat) (x : Int) (k : Nat) (s : Int) (w : World) (hx : IK w b aa la ca x k) (hs : s = x.sign) : Calls Tryz.prog 61 #[.agg #[.bool b, .slice aa la ca]] w fun e w' => e = .returned (.int .i64 s) ∧ Below w.heap.size w w' := by
 subst hs;exact sign_num _ _ _ _ x _ hx.1 (Nat.le_trans hx.2.1 (by omega))
theorem rsignK (b : Bool) (aa : Option Addr) (la ca : Nat) (x : Int) (k : Nat) (s : Int) (w : World) (hx : IK w b aa la ca x k) (hs : s = x.sign) : Calls Tryz.prog 24 #[.agg #[.bool b, .slice aa la ca]] w fun e w' => e = .returned (.int .i64 s) ∧ Below w.heap.size w w' := by
 subst hs;exact rsign_num _ _ _ _ x _ hx.1 (Nat.le_trans hx.2.1 (by omega))
theorem cmpK (b : Bool) (aa : Option Addr) (la ca : Nat) (x : Int) (k : Nat) (b' : Bool) (ab : Option Addr) (lb cb : Nat) (y : Int) (l : Nat) (s : Int) (w : World) (hx : IK w b aa la ca x k) (hy : IK w b' ab lb cb y l) (hs : s = (x - y).sign) : Calls Tryz.prog 62 #[.agg #[.bool b, .slice aa la ca], .agg #[.bool b', .slice ab lb cb]] w fun e w' => e = .returned (.int .i64 s) ∧ Below w.heap.size w w' := by
 subst hs;exact icmp_num _ _ _ _ x _ _ _ _ y _ hx.1 hy.1 (Nat.le_trans hx.2.1 (by omega)) (Nat.le_trans hy.2.1 (by omega))
theorem rcmpK (b : Bool) (aa : Option Addr) (la ca : Nat) (x : Int) (k : Nat) (b' : Bool) (ab : Option Addr) (lb cb : Nat) (y : Int) (l : Nat) (s : Int) (w : World) (hx : IK w b aa la ca x k) (hy : IK w b' ab lb cb y l) (hs : s = (x - y).sign) : Calls Tryz.prog 45 #[.agg #[.bool b, .slice aa la ca], .agg #[.bool b', .slice ab lb cb]] w fun e w' => e = .returned (.int .i64 s) ∧ Below w.heap.size w w' := by
 subst hs;exact ricmp_num _ _ _ _ x _ _ _ _ y _ hx.1 hy.1 (Nat.le_trans hx.2.1 (by omega)) (Nat.le_trans hy.2.1 (by omega))
theorem rsameK (b : Bool) (aa : Option Addr) (la ca : Nat) (x : Int) (k : Nat) (b' : Bool) (ab : Option Addr) (lb cb : Nat) (y : Int) (l : Nat) (w : World) (hx : FK w b aa la ca x k) (hy : FK w b' ab lb cb y l) (e0 : x = y) : Calls Tryz.prog 22 #[.agg #[.bool b, .slice aa la ca], .agg #[.bool b', .slice ab lb cb]] w fun e w' => e = .returned (.bool true) ∧ Below w.heap.size w w' := by
 subst e0;exact rsame_true _ _ _ _ x _ _ _ _ _ hx.1 hy.1
theorem abs_int_lt {n : Int} (h1 : -9223372036854775808 ≤ n) (h2 : n ≤ 9223372036854775807) : n.natAbs < Bp 2 := by
 rw [show Bp 2 = 18446744073709551616 from rfl]; omega
theorem ofK (n : Int) (w : World) (h1 : -9223372036854775808 ≤ n) (h2 : n ≤ 9223372036854775807) : Calls Tryz.prog 39 #[.int .i64 n] w fun e w' => ∃ c ao' len' cap', e = .returned (.agg #[.bool c, .slice ao' len' cap']) ∧ FK w' c ao' len' cap' n 2 ∧ Below w.heap.size w w' := by
 refine (of_num n w h1 h2).mono ?_;rintro e w' ⟨c, ao', len', cap', rfl, h, hb⟩;exact ⟨_, _, _, _, rfl, ⟨h, abs_int_lt h1 h2⟩, hb⟩
theorem rofK (n : Int) (w : World) (h1 : -9223372036854775808 ≤ n) (h2 : n ≤ 9223372036854775807) : Calls Tryz.prog 21 #[.int .i64 n] w fun e w' => ∃ c ao' len' cap', e = .returned (.agg #[.bool c, .slice ao' len' cap']) ∧ FK w' c ao' len' cap' n 2 ∧ Below w.heap.size w w' := by
 refine (rof_num n w h1 h2).mono ?_;rintro e w' ⟨c, ao', len', cap', rfl, h, hb⟩;exact ⟨_, _, _, _, rfl, ⟨h, abs_int_lt h1 h2⟩, hb⟩
end Go.Proofs.YtnpneloahajniaaGreat

/-
 An Int that came in, opened: its sign, and its limbs as a row.
-/
namespace Go.Proofs.YtnpneloahajniaaGreat
open Go.ChangeShapes Go.WideShapes Go.ChangeAt Go.RowKit Go.Joins Lb

theorem cellsInt : Tryz.prog.cellsOf 45 = 2 := by kernel_rfl

theorem intIn_cells {H : Type} {enc : TypeId × Value → H} {W : World} {base : Nat} {held : Bool} {fuel : Nat} {ao : Option Addr} {len cap : Nat} {y : DataW H × List MemPlace}
  (hf : DataW.trod enc Tryz.prog W base (fun _ => true) held fuel 43 [.slice ao len cap] = some y) : ∃ xs, RowAt W ao len cap xs := by
 rcases open_ints Tryz.underlying43 Tryz.underlying73 (by kernel_rfl) hf with ⟨hcs, _⟩ | ⟨x, l, c, zs, hcs, _, hl, hm, hz, _, hcell, hwz⟩
 ·simp at hcs;obtain ⟨rfl, rfl, rfl⟩ := hcs;exact rowAt_of (.inl ⟨rfl, rfl, rfl, rfl⟩ : _ ∨ _)
 ·simp at hcs;obtain ⟨rfl, rfl, rfl⟩ := hcs;exact rowAt_of (zs := zs) (.inr ⟨_, rfl, hl, hm, by simpa using hz, hcell, hwz⟩)

end Go.Proofs.YtnpneloahajniaaGreat
