/-
 Plain mathematics of quotients of whole numbers: rounded to 0, with what is left from 0 on, the nearest one.
-/
import Derived.Test.YtnpneloahajniaaGreatJD
import Derived.Test.YtnpneloahajniaaGreatJB
import Derived.Deep.RegionHeld3
import Derived.Maps.AppendAt
import Derived.Lib.SmallJoins
import Derived.Deep.SlicePairs
import Derived.Test.YtnpneloahajniaaGreatJA
import Derived.Lib.AppendZerosOnto
import Derived.Deep.Slices
namespace Go.Proofs.YtnpneloahajniaaGreat
open Go.RowKit Lb
/- Short names for what a slot's value and a slot's store are. -/
theorem zP : (∀ (a : Act) (t : Tmp) (v : Value), a.put (some t) v = ⟨a.tmps.setIfInBounds t v, a.defers⟩) ∧ (∀ (a : Act) (v : Value), a.put none v = a) ∧ (∀ (α : Type) (xs : List α) (i : Nat) (h : i < xs.toArray.size), xs.toArray[i] = xs[i]'(by simpa using h)) ∧ (∀ (α : Type) (a : α) (xs : List α) (i : Nat) (h : i + 1 < (a :: xs).length), getElem (a :: xs) (i + 1) h = getElem xs i (Nat.lt_of_succ_lt_succ h)) ∧ (∀ (α : Type) (a : α) (xs : List α) (h : 0 < (a :: xs).length), getElem (a :: xs) 0 h = a) ∧ (∀ (α : Type) (l : List α) (i : Nat) (a : α), l.toArray.setIfInBounds i a = (l.set i a).toArray) ∧ (∀ (α : Type) (a : α) (xs : List α) (b : α), (a :: xs).set 0 b = b :: xs) ∧ ∀ (α : Type) (a : α) (xs : List α) (i : Nat) (b : α), (a :: xs).set (i + 1) b = a :: xs.set i b := ⟨fun _ _ _ => rfl, fun _ _ => rfl, fun _ _ _ _ => rfl, fun _ _ _ _ _ => rfl, fun _ _ _ _ => rfl, fun _ _ _ _ => List.setIfInBounds_toArray .., fun _ _ _ _ => rfl, fun _ _ _ _ _ => rfl⟩
def tT : Bool := true
def tF : Bool := false
theorem con2 {a b : Prop} (ha : a) (hb : b) : a ∧ b := ⟨ha, hb⟩
theorem con3 {a b c : Prop} (ha : a) (hb : b) (hc : c) : a ∧ b ∧ c := ⟨ha, hb, hc⟩
theorem con4 {a b c d : Prop} (ha : a) (hb : b) (hc : c) (hd : d) : a ∧ b ∧ c ∧ d := ⟨ha, hb, hc, hd⟩
theorem con5 {a b c d e : Prop} (ha : a) (hb : b) (hc : c) (hd : d) (he : e) : a ∧ b ∧ c ∧ d ∧ e := ⟨ha, hb, hc, hd, he⟩
theorem con6 {a b c d e f : Prop} (ha : a) (hb : b) (hc : c) (hd : d) (he : e) (hf : f) : a ∧ b ∧ c ∧ d ∧ e ∧ f := ⟨ha, hb, hc, hd, he, hf⟩
theorem con7 {a b c d e f g : Prop} (ha : a) (hb : b) (hc : c) (hd : d) (he : e) (hf : f) (hg : g) : a ∧ b ∧ c ∧ d ∧ e ∧ f ∧ g := ⟨ha, hb, hc, hd, he, hf, hg⟩
theorem con8 {a b c d e f g h : Prop} (ha : a) (hb : b) (hc : c) (hd : d) (he : e) (hf : f) (hg : g) (hh : h) : a ∧ b ∧ c ∧ d ∧ e ∧ f ∧ g ∧ h := ⟨ha, hb, hc, hd, he, hf, hg, hh⟩
theorem con10 {p0 p1 p2 p3 p4 p5 p6 p7 p8 p9 : Prop} (h0 : p0) (h1 : p1) (h2 : p2) (h3 : p3) (h4 : p4) (h5 : p5) (h6 : p6) (h7 : p7) (h8 : p8) (h9 : p9) : p0 ∧ p1 ∧ p2 ∧ p3 ∧ p4 ∧ p5 ∧ p6 ∧ p7 ∧ p8 ∧ p9 := ⟨h0, h1, h2, h3, h4, h5, h6, h7, h8, h9⟩
theorem con11 {p0 p1 p2 p3 p4 p5 p6 p7 p8 p9 p10 : Prop} (h0 : p0) (h1 : p1) (h2 : p2) (h3 : p3) (h4 : p4) (h5 : p5) (h6 : p6) (h7 : p7) (h8 : p8) (h9 : p9) (h10 : p10) : p0 ∧ p1 ∧ p2 ∧ p3 ∧ p4 ∧ p5 ∧ p6 ∧ p7 ∧ p8 ∧ p9 ∧ p10 := ⟨h0, h1, h2, h3, h4, h5, h6, h7, h8, h9, h10⟩
theorem con12 {p0 p1 p2 p3 p4 p5 p6 p7 p8 p9 p10 p11 : Prop} (h0 : p0) (h1 : p1) (h2 : p2) (h3 : p3) (h4 : p4) (h5 : p5) (h6 : p6) (h7 : p7) (h8 : p8) (h9 : p9) (h10 : p10) (h11 : p11) : p0 ∧ p1 ∧ p2 ∧ p3 ∧ p4 ∧ p5 ∧ p6 ∧ p7 ∧ p8 ∧ p9 ∧ p10 ∧ p11 := ⟨h0, h1, h2, h3, h4, h5, h6, h7, h8, h9, h10, h11⟩
theorem aGet {α : Type} {xs : List α} {i : Nat} (h : i < xs.toArray.size) : xs.toArray[i] = xs[i]'(by simpa using h) := rfl
theorem aZero {α : Type} {a : α} {xs : List α} {h : 0 < (a :: xs).length} : getElem (a :: xs) 0 h = a := rfl
theorem aSet {α : Type} {l : List α} {i : Nat} {a : α} : l.toArray.setIfInBounds i a = (l.set i a).toArray := List.setIfInBounds_toArray ..
theorem aHead {α : Type} {a : α} {xs : List α} {b : α} : (a :: xs).set 0 b = b :: xs := rfl
theorem aTail {α : Type} {a : α} {xs : List α} {i : Nat} {b : α} : (a :: xs).set (i + 1) b = a :: xs.set i b := rfl
set_option maxRecDepth 20000

theorem tdiv_sgnd (b b' : Bool) (M N : Nat) : (sgnd b M).tdiv (sgnd b' N) = sgnd (b != b') (M / N) := by
 cases b <;> cases b' <;> simp [sgnd, Int.neg_tdiv, Int.tdiv_neg, Int.neg_neg] <;> rfl
theorem tmod_sgnd (b b' : Bool) (M N : Nat) : (sgnd b M).tmod (sgnd b' N) = sgnd b (M % N) := by
 cases b <;> cases b' <;> simp [sgnd, Int.neg_tmod, Int.tmod_neg] <;> rfl
theorem tmod_abs_lt {x y : Int} (hy : y ≠ 0) : (x.tmod y).natAbs < y.natAbs := by
 rw [Int.natAbs_tmod];exact Nat.mod_lt _ (by omega)
theorem tmod_neg_iff (x y : Int) : x.tmod y < 0 ↔ ¬ (0 ≤ x ∨ y ∣ x) := by
 constructor
 ·rintro h (h0 | h0)
  ·have := Int.tmod_nonneg y h0;omega
  ·rw [Int.tmod_eq_zero_of_dvd h0] at h;omega
 ·intro h;have h1 : ¬ 0 ≤ x := fun e => h (Or.inl e);have h2 : x.tmod y ≠ 0 := fun e => h (Or.inr (Int.dvd_of_tmod_eq_zero e));have h3 := Int.tmod_nonneg y (show 0 ≤ -x by omega);rw [Int.neg_tmod] at h3;omega
theorem emod_of_tmod (x y : Int) : x % y = if x.tmod y < 0 then x.tmod y + y.natAbs else x.tmod y := by
 rw [Int.emod_eq_tmod];by_cases h : 0 ≤ x ∨ y ∣ x
 ·rw [if_pos h, if_neg (fun e => (tmod_neg_iff x y).1 e h)]; simp
 ·rw [if_neg h, if_pos ((tmod_neg_iff x y).2 h)]
theorem ediv_of_tdiv (x y : Int) : x / y = if x.tmod y < 0 then x.tdiv y - y.sign else x.tdiv y := by
 rw [Int.ediv_eq_tdiv];by_cases h : 0 ≤ x ∨ y ∣ x
 ·rw [if_pos h, if_neg (fun e => (tmod_neg_iff x y).1 e h)]; simp
 ·rw [if_neg h, if_pos ((tmod_neg_iff x y).2 h)]
def near (x y : Int) : Int := if y < 0 then (2 * -x + -y) / (2 * -y) else (2 * x + y) / (2 * y)
theorem near_pos {x y n : Int} (hy : 0 < y) : near x y = n ↔ 2 * (x - n * y) < y ∧ -y ≤ 2 * (x - n * y) := by
 unfold near;rw [if_neg (by omega)];have h := Int.ediv_emod_unique (a := 2 * x + y) (b := 2 * y) (r := 2 * x + y - 2 * y * n) (q := n) (by omega);have e1 : 2 * (x - n * y) = 2 * x - 2 * (n * y) := by rw [Int.mul_sub]
 have e2 : 2 * y * n = 2 * (n * y) := by rw [Int.mul_assoc, Int.mul_comm y n]
 constructor
 ·intro e;have e3 := Int.emod_def (2 * x + y) (2 * y);rw [e] at e3;have := (h.1 ⟨e, e3⟩).2;omega
 ·intro e;exact (h.2 ⟨by omega, by omega, by omega⟩).1
theorem near_neg {x y : Int} (hy : y < 0) : near x y = near (-x) (-y) := by
 unfold near;rw [if_pos hy, if_neg (by omega)]
end Go.Proofs.YtnpneloahajniaaGreat

/-
 What quot.Quo, quot.Divides and the reference's Quo tell (IN PARTS).
-/
namespace Go.Proofs.YtnpneloahajniaaGreat
open Go.RowKit Lb
set_option maxRecDepth 20000

theorem NoLimb.boxed {w : World} {g g' : Nat} (h : NoLimb w g) (hne : g ≠ g') (x y : Value) : NoLimb ((w.setCell ⟨g', 0, none⟩ x).setCell ⟨g', 1, none⟩ y) g := fun j k => by
 have e : ((w.setCell ⟨g', 0, none⟩ x).setCell ⟨g', 1, none⟩ y).heap[g]? = w.heap[g]? := by
  rw [Below.heap_setCell _ _ _ _ (by simpa using hne), Below.heap_setCell _ _ _ _ (by simpa using hne)]
 rw [World.cell?_of_block (w := w) (a := ⟨g, j, none⟩) e];exact h j k
theorem int_end2 {B g g' : Nat} {w w2 : World} {b b' : Bool} {ao ao' : Option Addr} {len cap len' cap' : Nat} {z z' : Int} (hW : Below B w w2) (hB : B ≤ g) (hB' : B ≤ g') (hne : g' ≠ g) (hn : NoLimb w2 g) (hn' : NoLimb w2 g') (h : FormAt w2 b ao len cap z) (h' : FormAt w2 b' ao' len' cap' z') (x y x' y' : Value) :
  FormAt ((((w2.setCell ⟨g, 0, none⟩ x).setCell ⟨g, 1, none⟩ y).setCell ⟨g', 0, none⟩ x').setCell ⟨g', 1, none⟩ y') b ao len cap z ∧ FormAt ((((w2.setCell ⟨g, 0, none⟩ x).setCell ⟨g, 1, none⟩ y).setCell ⟨g', 0, none⟩ x').setCell ⟨g', 1, none⟩ y') b' ao' len' cap' z' ∧ Below B w ((((w2.setCell ⟨g, 0, none⟩ x).setCell ⟨g, 1, none⟩ y).setCell ⟨g', 0, none⟩ x').setCell ⟨g', 1, none⟩ y') :=
 ⟨(h.boxed hn x y).boxed (hn'.boxed hne x y) x' y', (h'.boxed hn x y).boxed (hn'.boxed hne x y) x' y', (((hW.setCell (by simpa using hB) _).setCell (by simpa using hB) _).setCell (by simpa using hB') _).setCell (by simpa using hB') _⟩
theorem below4 (w : World) (o1 o2 o3 o4 : Obj) : Below w.heap.size w ((((w.alloc o1).alloc o2).alloc o3).alloc o4) := (below3 w o1 o2 o3).alloc (by simp; omega) o4

set_option maxHeartbeats 400000 in
theorem qsigned_num (b : Bool) (aa : Option Addr) (la ca A : Nat) (w : World) (ha : NumAt w aa la ca A) :
  Calls Tryz.prog 90 #[.bool b, .slice aa la ca] w fun e w' => ∃ b', e = .returned (.agg #[.bool b', .slice aa la ca]) ∧ FormAt w' b' aa la ca (sgnd b A) ∧ Below w.heap.size w w' := by
 have hm : la ≤ maxLen := by
  obtain ⟨xs, hx, _⟩ := ha;exact Nat.le_trans hx.cap_le hx.cap_max
 unfold maxLen at hm;have hL := ha;by_cases hz : A = 0
 ·subst hz;obtain rfl := ha.len_zero;cases b
  all_goals
   go_enter Tryz.func90, Tryz.ntmps90;go_wp2;refine bodyPost_ret (v := .agg #[.bool false, .slice aa 0 ca]) (by simp [results, Tryz.results90, go_sem]) rfl ⟨false, rfl, ?_, (Below.refl _ _).alloc (Nat.le_refl _) _⟩;exact (formAt_of hL (by simp)).za ((Below.refl _ _).alloc (Nat.le_refl _) _)
 ·have hp := ha.len_pos (by omega);have hp' : (0 : Int) < (la : Int) := by omega
  have hA : 0 < A := by omega
  cases b
  all_goals
   go_enter Tryz.func90, Tryz.ntmps90;go_wp2;refine bodyPost_ret (v := .agg #[.bool _, .slice aa la ca]) (by simp [results, Tryz.results90, go_sem]; rfl) rfl ⟨_, rfl, ?_, (Below.refl _ _).alloc (Nat.le_refl _) _⟩;exact (formAt_of hL (by simp [hA])).za ((Below.refl _ _).alloc (Nat.le_refl _) _)

set_option maxHeartbeats 1000000 in
theorem quo_yes (b : Bool) (aa : Option Addr) (la ca : Nat) (x : Int) (b' : Bool) (ab : Option Addr) (lb cb : Nat) (y : Int) (w : World) (ha : IntAt w b aa la ca x) (hb : IntAt w b' ab lb cb y) (hla : la ≤ 1000000) (hlb : lb ≤ 1000000) (hy : y ≠ 0) :
  Calls Tryz.prog 69 #[.agg #[.bool b, .slice aa la ca], .agg #[.bool b', .slice ab lb cb]] w fun e w' => ∃ b1 a1 l1 c1 b2 a2 l2 c2, e = .returned (.tuple #[.agg #[.bool b1, .slice a1 l1 c1], .agg #[.bool b2, .slice a2 l2 c2], .bool true]) ∧ FormAt w' b1 a1 l1 c1 (x.tdiv y) ∧ FormAt w' b2 a2 l2 c2 (x.tmod y) ∧ Below w.heap.size w w' := by
 obtain ⟨M, hM, rfl⟩ := ha;obtain ⟨N, hN, rfl⟩ := hb;rw [tdiv_sgnd, tmod_sgnd];have hN0 : 0 < N := by
  rcases Nat.eq_zero_or_pos N with h | h
  ·subst h; exact absurd (sgnd_zero b') hy
  ·exact h
 go_enter Tryz.func69, Tryz.ntmps69
 go_wp2_with fail
 refine (divmod_num _ _ _ M _ _ _ N _ (hM.za (below4 _ _ _ _ _)) (hN.za (below4 _ _ _ _ _)) hla hlb hN0).mono ?_;rintro e w1 ⟨a1, l1, c1, a2, l2, c2, rfl, h1, h2, hb1⟩
 go_wp2_with fail
 obtain ⟨W, hWe⟩ : ∃ W, W = ((((w.alloc (.cells #[.bool b, .slice aa la ca] 45)).alloc (.cells #[.bool b', .slice ab lb cb] 45)).alloc (.cells #[.bool false, .slice none 0 0] 45)).alloc (.cells #[.bool false, .slice none 0 0] 45)) := ⟨_, rfl⟩;have B0 := (((box_new w b aa la ca rfl).alloc (.cells #[.bool b', .slice ab lb cb] 45)).alloc (.cells #[.bool false, .slice none 0 0] 45)).alloc (.cells #[.bool false, .slice none 0 0] 45);have B1 := ((box_new (w.alloc (.cells #[.bool b, .slice aa la ca] 45)) b' ab lb cb (n := w.heap.size + 1) (by simp)).alloc (.cells #[.bool false, .slice none 0 0] 45)).alloc (.cells #[.bool false, .slice none 0 0] 45);have B2 := (box_new ((w.alloc (.cells #[.bool b, .slice aa la ca] 45)).alloc (.cells #[.bool b', .slice ab lb cb] 45)) false none 0 0 (n := w.heap.size + 2) (by simp)).alloc (.cells #[.bool false, .slice none 0 0] 45);have B3 := box_new (((w.alloc (.cells #[.bool b, .slice aa la ca] 45)).alloc (.cells #[.bool b', .slice ab lb cb] 45)).alloc (.cells #[.bool false, .slice none 0 0] 45)) false none 0 0 (n := w.heap.size + 3) (by simp);have hb0 := below4 w (.cells #[.bool b, .slice aa la ca] 45) (.cells #[.bool b', .slice ab lb cb] 45) (.cells #[.bool false, .slice none 0 0] 45) (.cells #[.bool false, .slice none 0 0] 45);rw [← hWe] at B0 B1 B2 B3 hb0 hb1;clear hWe;have HB0 := zh (Below.step hb0 hb1);replace B0 := B0.za hb1;replace B1 := B1.za hb1;replace B2 := B2.za hb1;replace B3 := B3.za hb1;clear hb0 hb1;have HW : Below w1.heap.size w1 w1.drew := (Below.refl _ _).drew;have hx1 := (h1.za HW);have hx2 := (h2.za HW);clear h1 h2;have hlt := B3.lt;obtain ⟨s1, s2, _, _⟩ := B0.zb;obtain ⟨s3, s4, _, _⟩ := B1.zb;have st0 := True.intro
 go_region_held3 (fun w' => w'.cell? ⟨w.heap.size, 0, none⟩ = some (.bool b) ∧ w'.cell? ⟨w.heap.size, 1, none⟩ = some (.slice aa la ca) ∧ w'.cell? ⟨w.heap.size + 1, 0, none⟩ = some (.bool b') ∧ w'.cell? ⟨w.heap.size + 1, 1, none⟩ = some (.slice ab lb cb)) (first | exact ⟨(B0.za HW).zb.1, (B0.za HW).zb.2.1, (B1.za HW).zb.1, (B1.za HW).zb.2.1⟩ | exact held2_set (by omega) (by assumption) | go_keep) (first | (clear st0; go_at_call 90; refine (qsigned_num _ _ _ _ (M / N) _ hx1).mono ?_; rintro e w2 ⟨b2, rfl, hf1, hb9⟩; replace HW := Below.step HW hb9; replace hx2 := hx2.za hb9; clear hb9; have st1 := True.intro) | (clear st1; go_at_call 90; refine (qsigned_num _ _ _ _ (M % N) _ hx2).mono ?_; rintro e w3 ⟨b3, rfl, hf2, hb9⟩; replace HW := Below.step HW hb9; replace hf1 := hf1.za hb9; clear hb9; obtain ⟨q1, q2, q3, q4⟩ := (B2.za HW).zb; obtain ⟨q5, q6, q7, q8⟩ := (B3.za HW).zb; have st2 := True.intro))
 have hn2 := (B2.za HW).noLimb;have hn3 := (B3.za HW).noLimb;go_wp2;refine bodyPost_ret (v := .tuple #[.agg #[.bool b2, .slice a1 l1 c1], .agg #[.bool b3, .slice a2 l2 c2], .bool true]) (by simp [results, Tryz.results69, go_sem, *]) rfl ⟨_, _, _, _, _, _, _, _, rfl, ?_⟩;exact int_end2 (Below.step (zu HB0) HW) (by omega) (by omega) (by omega) hn2 hn3 hf1 hf2 _ _ _ _

/-
 The contracts of quot.Quo and quot.Divides with how many limbs a number has at most (IN PARTS); boxes of Ints written anew.
-/

theorem tdiv_abs_le (x y : Int) : (x.tdiv y).natAbs ≤ x.natAbs := by
 rw [Int.natAbs_tdiv]; exact Nat.div_le_self _ _
theorem emod_abs_lt {x y : Int} (hy : y ≠ 0) : (x % y).natAbs < y.natAbs := by
 have h1 := Int.emod_nonneg x hy;have h2 := Int.emod_lt x hy;omega
theorem quoK (b : Bool) (aa : Option Addr) (la ca : Nat) (x : Int) (k : Nat) (b' : Bool) (ab : Option Addr) (lb cb : Nat) (y : Int) (l : Nat) (w : World) (hx : IK w b aa la ca x k) (hy : IK w b' ab lb cb y l) (h0 : y ≠ 0) :
  Calls Tryz.prog 69 #[.agg #[.bool b, .slice aa la ca], .agg #[.bool b', .slice ab lb cb]] w fun e w' => ∃ b1 a1 l1 c1 b2 a2 l2 c2, e = .returned (.tuple #[.agg #[.bool b1, .slice a1 l1 c1], .agg #[.bool b2, .slice a2 l2 c2], .bool true]) ∧ FK w' b1 a1 l1 c1 (x.tdiv y) k ∧ FK w' b2 a2 l2 c2 (x.tmod y) l ∧ Below w.heap.size w w' := by
 refine (quo_yes _ _ _ _ x _ _ _ _ y _ hx.1 hy.1 (Nat.le_trans hx.2.1 (by omega)) (Nat.le_trans hy.2.1 (by omega)) h0).mono ?_;rintro e w' ⟨b1, a1, l1, c1, b2, a2, l2, c2, rfl, h1, h2, hb⟩;exact ⟨_, _, _, _, _, _, _, _, rfl, ⟨h1, Nat.lt_of_le_of_lt (tdiv_abs_le x y) hx.2.2⟩, ⟨h2, Nat.lt_trans (tmod_abs_lt h0) hy.2.2⟩, hb⟩
def put (w : World) (g : Nat) (b : Bool) (ao : Option Addr) (len cap : Nat) : World := (w.setCell ⟨g, 0, none⟩ (.bool b)).setCell ⟨g, 1, none⟩ (.slice ao len cap)
theorem put_other {w : World} {g g' : Nat} (hne : g ≠ g') (b : Bool) (ao : Option Addr) (len cap : Nat) : (put w g' b ao len cap).heap[g]? = w.heap[g]? := by
 unfold put;rw [Below.heap_setCell _ _ _ _ (by simpa using hne), Below.heap_setCell _ _ _ _ (by simpa using hne)]
theorem Box.other {w : World} {g g' : Nat} {b : Bool} {ao : Option Addr} {len cap : Nat} (h : Box w g b ao len cap) (hne : g ≠ g') (b' : Bool) (ao' : Option Addr) (len' cap' : Nat) : Box (put w g' b' ao' len' cap') g b ao len cap := by
 unfold Box at *;rw [put_other hne]; exact h
theorem Box.put {w : World} {g : Nat} {b : Bool} {ao : Option Addr} {len cap : Nat} (h : Box w g b ao len cap) (b' : Bool) (ao' : Option Addr) (len' cap' : Nat) : Box (put w g b' ao' len' cap') g b' ao' len' cap' := by
 have hl := h.lt;unfold Box at *;unfold Go.Proofs.YtnpneloahajniaaGreat.put;have h' : w.heap[g]'hl = .cells #[.bool b, .slice ao len cap] 45 := by
  rw [Array.getElem?_eq_getElem hl] at h;exact Option.some.inj h
 simp [World.setCell, Array.getElem_modify, h', hl]
theorem FK.put {w : World} {b : Bool} {ao : Option Addr} {len cap k g : Nat} {z : Int} (h : FK w b ao len cap z k) (hn : NoLimb w g) (b' : Bool) (ao' : Option Addr) (len' cap' : Nat) : FK (put w g b' ao' len' cap') b ao len cap z k := ⟨h.1.boxed hn _ _, h.2⟩
theorem IK.put {w : World} {b : Bool} {ao : Option Addr} {len cap k g : Nat} {z : Int} (h : IK w b ao len cap z k) (hn : NoLimb w g) (b' : Bool) (ao' : Option Addr) (len' cap' : Nat) : IK (put w g b' ao' len' cap') b ao len cap z k := by
 obtain ⟨⟨N, ⟨xs, h1, h2⟩, h3⟩, h4⟩ := h;exact ⟨⟨N, ⟨xs, h1.boxed hn _ _, h2⟩, h3⟩, h4⟩
theorem put_size (w : World) (g : Nat) (b' : Bool) (ao' : Option Addr) (len' cap' : Nat) : (put w g b' ao' len' cap').heap.size = w.heap.size := by
 unfold put;simp [World.setCell]

end Go.Proofs.YtnpneloahajniaaGreat

/-
 A region that draws its order, in which what the loads read is written over at the end ('a, b = f(a), g(b)'): the condition S on the world is asked only till one operation t has come up (the first store that breaks it); a load is taken first if t waits for it, over however many others ('late': all that wait for it).
-/
namespace Go.Proofs.YtnpneloahajniaaGreat

def Till (P : Program) (ops : Array Oper) (Q : Exit → Act → World → Prop) (S : World → Prop) (t : Nat) : Nat → Array Bool → Act → World → Prop
 | 0, l, a, w => Region.ready .any ops l = [] ∧ Q .normal a w
 | n + 1, l, a, w => (Region.ready .any ops l = [] → Q .normal a w) ∧
   ∀ i ∈ Region.ready .any ops l, wpOp P ops Q i (fun a' w' => ((l.setIfInBounds i true).getD t true = false → S w') ∧ Till P ops Q S t n (l.setIfInBounds i true) a' w') a w
theorem Till.any {P : Program} {ops : Array Oper} {Q : Exit → Act → World → Prop} {S : World → Prop} {t : Nat} : ∀ (n : Nat) (l : Array Bool) (a : Act) (w : World), Till P ops Q S t n l a w → wpAny P .any ops Q n l a w
 | 0, _, _, _, h => h
 | n + 1, _, _, _, h => ⟨h.1, fun i hi => wpOp_mono (fun a' w' h' => Till.any n _ a' w' h'.2) (h.2 i hi)⟩
def waitsB (ops : Array Oper) (i : Nat) (late : List Nat) (j : Nat) : Bool := match ops[j]? with
 | none => false
 | some o => o.after.any fun e => Region.binds .any e && (e.on == i || late.contains e.on)
def lateB (ops : Array Oper) (l : Array Bool) (i t : Nat) (late : List Nat) : Bool := late.contains t && !late.contains i && late.all fun j => !(l.getD j true) && waitsB ops i late j
theorem waits_not_ready {ops : Array Oper} {l : Array Bool} {i j : Nat} {late : List Nat} (hi : l.getD i true = false) (hlate : ∀ k ∈ late, l.getD k true = false) (hw : waitsB ops i late j = true) : ¬ j ∈ Region.ready .any ops l := by
 intro hj;obtain ⟨_, o, ho, hall⟩ := mem_ready.1 hj;unfold waitsB at hw;rw [ho] at hw;obtain ⟨e, he, h2⟩ := Array.any_eq_true'.1 hw;rw [Bool.and_eq_true, Bool.or_eq_true] at h2;have h3 := hall e he h2.1;have h4 : l.getD e.on true = false := by
  rcases h2.2 with h | h
  ·rw [show e.on = i by simpa using h]; exact hi
  ·exact hlate _ (by simpa using h)
 rcases Nat.lt_or_ge e.on l.size with hlt | hge
 ·simp [Array.getD, hlt] at h3 h4;rw [h3] at h4;exact Bool.noConfusion h4
 ·simp [Array.getD, Nat.not_lt.2 hge] at h3
theorem Till.first {P : Program} {ops : Array Oper} {Q : Exit → Act → World → Prop} {S : World → Prop} {t i : Nat} {oi : Oper} {v : Value} (late : List Nat) (ht : t ∈ late) (hil : i ∉ late) (hw : ∀ j ∈ late, waitsB ops i late j = true) (hi : ops[i]? = some oi)
  (hsel : ∀ (j : Nat) (o : Oper) cs b, ops[j]? = some o → o.op ≠ .select cs b) (hQ : ∀ c a w, Q (.panic c) (a.put oi.dst v) w → Q (.panic c) a w) :
  ∀ (n : Nat) (l : Array Bool) (a : Act) (w : World), (∀ j ∈ late, l.getD j true = false) →
   (∀ j oj, ops[j]? = some oj → j ≠ i → l.getD j true = false → (∀ e ∈ oj.after, Region.binds .any e = true → e.on ≠ i) → oi.apart ops oj = true) →
   i ∈ Region.ready .any ops l → YieldsIf P ops S oi v a → S w → Till P ops Q S t n (l.setIfInBounds i true) (a.put oi.dst v) w → Till P ops Q S t (n + 1) l a w := by
 intro n
 induction n with
 | zero =>
  intro l a w _ _ hr hy hS H;refine ⟨fun h => (by rw [h] at hr; cases hr), fun j hj => ?_⟩;by_cases hji : j = i
  ·subst hji; exact hy.wpOp hi hS ⟨fun _ => hS, H⟩
  ·have h1 := ready_mono hj hji;rw [H.1] at h1;cases h1
 | succ n ih =>
  intro l a w hla hfree hr hy hS H;have hiu := (mem_ready.1 hr).1;refine ⟨fun h => (by rw [h] at hr; cases hr), fun j hj => ?_⟩;by_cases hji : j = i
  ·subst hji; exact hy.wpOp hi hS ⟨fun _ => hS, H⟩
  have hjl : j ∉ late := fun h => waits_not_ready hiu hla (hw j h) hj;obtain ⟨hju, oj, hoj, hall⟩ := mem_ready.1 hj;have hno : ∀ e ∈ oj.after, Region.binds .any e = true → e.on ≠ i := fun e he hb hei => by
   have h1 := hall e he hb;rw [hei] at h1;rcases Nat.lt_or_ge i l.size with hlt | hge
   ·simp [Array.getD, hlt] at h1 hiu;rw [h1] at hiu;exact Bool.noConfusion hiu
   ·simp [Array.getD, Nat.not_lt.2 hge] at h1
  have h2 := wpOp_putIf hoj (hfree j oj hoj hji hju hno) (fun cs b => hsel i oi cs b hi) (fun cs b => hsel j oj cs b hoj) hQ hy (H.2 j (ready_mono hj hji));have htj : j ≠ t := fun h => hjl (h ▸ ht);have hti : i ≠ t := fun h => hil (h ▸ ht);have hla' : ∀ k ∈ late, (l.setIfInBounds j true).getD k true = false := fun k hk => by
   have hne : j ≠ k := fun e => hjl (e ▸ hk);rw [getD_set_ne true hne]; exact hla k hk
  refine wpOp_mono (fun a' w' h3 => ?_) h2;have hS' : S w' := h3.2.1 (by rw [getD_set_ne true htj, getD_set_ne true hti]; exact hla t ht);refine ⟨fun _ => hS', ih _ a' w' hla' (fun k ok hk hki hun hn => hfree k ok hk hki ?_ hn) (ready_mono hr (Ne.symm hji)) h3.1 hS' ?_⟩
  ·by_cases hjk : j = k
   ·subst hjk; exact hju
   ·rw [getD_set_ne true hjk] at hun; exact hun
  ·rw [Array.setIfInBounds_comm _ _ hji];exact h3.2.2
theorem till_take {P : Program} {ops : Array Oper} {Q : Exit → Act → World → Prop} {S : World → Prop} {t i : Nat} {oi : Oper} {v : Value} {n : Nat} {l : Array Bool} {a : Act} {w : World} (late : List Nat) (hi : ops[i]? = some oi)
  (hs : Region.noSelect ops = true) (hl : lateB ops l i t late = true) (hf : Region.free .any ops l i = true) (hr : (Region.ready .any ops l).contains i = true)
  (hQ : ∀ c a w, Q (.panic c) (a.put oi.dst v) w → Q (.panic c) a w) (hy : YieldsIf P ops S oi v a) (hS : S w)
  (h : Till P ops Q S t n (l.setIfInBounds i true) (a.put oi.dst v) w) : Till P ops Q S t (n + 1) l a w := by
 unfold lateB at hl;rw [Bool.and_eq_true, Bool.and_eq_true, List.all_eq_true] at hl;obtain ⟨⟨h1, h2⟩, h3⟩ := hl;refine Till.first late (by simpa using h1) (by simpa using h2) (fun j hj => ?_) hi (Region.noSelect_spec hs) hQ n l a w (fun j hj => ?_) (Region.free_spec hi hf) (by simpa using hr) hy hS h
 ·exact (Bool.and_eq_true _ _ ▸ h3 j hj).2
 ·have := (Bool.and_eq_true _ _ ▸ h3 j hj).1;simpa using this
def lateC (ops : Array Oper) (i : Nat) : List Nat := (List.range ops.size).foldl (fun late j => if waitsB ops i late j then late ++ [j] else late) []
theorem ztl {P : Program} {ops : Array Oper} {Q : Exit → Act → World → Prop} {S : World → Prop} {t : Nat} (i : Nat) {oi : Oper} {v : Value} {n : Nat} {l : Array Bool} {a : Act} {w : World} (hi : ops[i]? = some oi)
  (h : Till P ops Q S t n (l.setIfInBounds i true) (a.put oi.dst v) w) (hy : YieldsIf P ops S oi v a := by exact Or.inl ⟨by rfl, by (intro w hSw; (try dsimp only at hSw); go_simp; try with_reducible rfl)⟩)
  (hs : Region.noSelect ops = true := by kernel_rfl) (hl : lateB ops l i t (lateC ops i) = true := by kernel_rfl) (hf : Region.free .any ops l i = true := by kernel_rfl) (hr : (Region.ready .any ops l).contains i = true := by kernel_rfl)
  (hQ : ∀ c a w, Q (.panic c) (a.put oi.dst v) w → Q (.panic c) a w := by exact fun _ _ _ h => h) (hS : S w := by assumption) : Till P ops Q S t (n + 1) l a w := till_take (lateC ops i) hi hs hl hf hr hQ hy hS h
theorem ztm {P : Program} {ops : Array Oper} {Q : Exit → Act → World → Prop} {S : World → Prop} {t : Nat} (i : Nat) {oi : Oper} {v : Value} {n : Nat} {l : Array Bool} {a : Act} {w : World} (hi : ops[i]? = some oi)
  (h : Till P ops Q S t n (l.setIfInBounds i true) (a.put oi.dst v) w) (hy : YieldsIf P ops S oi v a := by exact Or.inl ⟨by rfl, by (intro wx hSw; (try dsimp only at hSw); go_simp; (try rw [if_neg (by omega)]); try with_reducible rfl)⟩)
  (hs : Region.noSelect ops = true := by kernel_rfl) (hl : lateB ops l i t (lateC ops i) = true := by kernel_rfl) (hf : Region.free .any ops l i = true := by kernel_rfl) (hr : (Region.ready .any ops l).contains i = true := by kernel_rfl)
  (hQ : ∀ c a w, Q (.panic c) (a.put oi.dst v) w → Q (.panic c) a w := by exact fun _ _ _ h => h) (hS : S w := by assumption) : Till P ops Q S t (n + 1) l a w := till_take (lateC ops i) hi hs hl hf hr hQ hy hS h
theorem ztu {P : Program} {ops : Array Oper} {Q : Exit → Act → World → Prop} {S : World → Prop} {t : Nat} (i : Nat) {oi : Oper} {n : Nat} {l : Array Bool} {a : Act} {w : World} (hi : ops[i]? = some oi)
  (h : Till P ops Q S t n (l.setIfInBounds i true) (a.put oi.dst undef) w) (hy : YieldsIf P ops S oi undef a := by exact Or.inr ⟨by rfl, rfl⟩)
  (hs : Region.noSelect ops = true := by kernel_rfl) (hl : lateB ops l i t (lateC ops i) = true := by kernel_rfl) (hf : Region.free .any ops l i = true := by kernel_rfl) (hr : (Region.ready .any ops l).contains i = true := by kernel_rfl)
  (hQ : ∀ c a w, Q (.panic c) (a.put oi.dst undef) w → Q (.panic c) a w := by exact fun _ _ _ h => h) (hS : S w := by assumption) : Till P ops Q S t (n + 1) l a w := till_take (lateC ops i) hi hs hl hf hr hQ hy hS h
theorem till_one {P : Program} {ops : Array Oper} {Q : Exit → Act → World → Prop} {S : World → Prop} {t i : Nat} {o : Oper} {n : Nat} {l : Array Bool} {a : Act} {w : World} (hr : Region.ready .any ops l = [i]) (ho : ops[i]? = some o)
  (h : ∀ K' : Act → World → Prop, Shut (∀ a w, ((l.setIfInBounds i true).getD t true = false → S w) → (((l.setIfInBounds i true).getD t true = false → S w) → Till P ops Q S t n (l.setIfInBounds i true) a w) → K' a w) → if Region.wanted o (yielded ops a.tmps) = true then Oper.wp P o a w K' Q else K' (a.put o.dst undef) w) : Till P ops Q S t (n + 1) l a w := by
 refine ⟨fun h0 => (by rw [hr] at h0; cases h0), fun j hj => ?_⟩;rw [hr, List.mem_singleton] at hj;subst hj;exact wpOp_step ho (fun K' hK => h K' (fun a w hS hT => hK a w ⟨hS, hT hS⟩))
theorem till_in {P : Program} {ops : Array Oper} {Q : Exit → Act → World → Prop} {S : World → Prop} {t i : Nat} {o : Oper} {n : Nat} {l : Array Bool} {a : Act} {w : World} (hr : Region.ready .any ops l = [i]) (ho : ops[i]? = some o)
  (h : ∀ K' : Act → World → Prop, Shut (∀ a w, S w → (S w → Till P ops Q S t n (l.setIfInBounds i true) a w) → K' a w) → if Region.wanted o (yielded ops a.tmps) = true then Oper.wp P o a w K' Q else K' (a.put o.dst undef) w) : Till P ops Q S t (n + 1) l a w :=
 till_one hr ho fun K' hK => h K' fun a w hS hT => hK a w (fun _ => hS) (fun _ => hT hS)
theorem till_out {P : Program} {ops : Array Oper} {Q : Exit → Act → World → Prop} {S : World → Prop} {t i : Nat} {o : Oper} {n : Nat} {l : Array Bool} {a : Act} {w : World} (hr : Region.ready .any ops l = [i]) (ho : ops[i]? = some o) (hout : (l.setIfInBounds i true).getD t true = true)
  (h : ∀ K' : Act → World → Prop, Shut (∀ a w, Till P ops Q S t n (l.setIfInBounds i true) a w → K' a w) → if Region.wanted o (yielded ops a.tmps) = true then Oper.wp P o a w K' Q else K' (a.put o.dst undef) w) : Till P ops Q S t (n + 1) l a w :=
 till_one hr ho fun K' hK => h K' fun a w hT => hK a w (fun e => by rw [hout] at e; cases e) (fun _ => hT)
theorem zdn {P : Program} {ops : Array Oper} {Q : Exit → Act → World → Prop} {S : World → Prop} {t : Nat} {l : Array Bool} {a : Act} {w : World} (hr : Region.ready .any ops l = []) (h : Q .normal a w) : ∀ n, Till P ops Q S t n l a w
 | 0 => ⟨hr, h⟩
 | _ + 1 => ⟨fun _ => h, by rw [hr]; simp⟩
theorem zts {P : Program} {ops : Array Oper} {Q : Exit → Act → World → Prop} (S : World → Prop) (t : Nat) {id : Nat} {a : Act} {w : World} (hm : P.follows .mixedOrders = true) (hS : S w.drew)
  (h : S w.drew → Till P ops Q S t ops.size (Array.replicate ops.size false) a w.drew) : (Code.region id ops true).wp P Q a w :=
 wp_region_any hm (Till.any _ _ _ _ (h hS))

/-
 More moves for Till: what yields in whatever world, two or three that may come up, a state met by several roads.
-/

theorem Till.free {P : Program} {ops : Array Oper} {Q : Exit → Act → World → Prop} {S : World → Prop} {t i : Nat} {oi : Oper} {v : Value} (hit : i ≠ t) (hi : ops[i]? = some oi)
  (hsel : ∀ (j : Nat) (o : Oper) cs b, ops[j]? = some o → o.op ≠ .select cs b) (hQ : ∀ c a w, Q (.panic c) (a.put oi.dst v) w → Q (.panic c) a w) :
  ∀ (n : Nat) (l : Array Bool) (a : Act) (w : World),
   (∀ j oj, ops[j]? = some oj → j ≠ i → l.getD j true = false → (∀ e ∈ oj.after, Region.binds .any e = true → e.on ≠ i) → oi.apart ops oj = true) →
   i ∈ Region.ready .any ops l → YieldsIf P ops (fun _ => True) oi v a → (l.getD t true = false → S w) → Till P ops Q S t n (l.setIfInBounds i true) (a.put oi.dst v) w → Till P ops Q S t (n + 1) l a w := by
 intro n
 induction n with
 | zero =>
  intro l a w _ hr hy hS H;refine ⟨fun h => (by rw [h] at hr; cases hr), fun j hj => ?_⟩;by_cases hji : j = i
  ·subst hji; exact hy.wpOp hi trivial ⟨fun e => hS (by rwa [getD_set_ne true hit] at e), H⟩
  ·have h1 := ready_mono hj hji;rw [H.1] at h1;cases h1
 | succ n ih =>
  intro l a w hfree hr hy hS H;have hiu := (mem_ready.1 hr).1;refine ⟨fun h => (by rw [h] at hr; cases hr), fun j hj => ?_⟩;by_cases hji : j = i
  ·subst hji; exact hy.wpOp hi trivial ⟨fun e => hS (by rwa [getD_set_ne true hit] at e), H⟩
  obtain ⟨hju, oj, hoj, hall⟩ := mem_ready.1 hj;have hno : ∀ e ∈ oj.after, Region.binds .any e = true → e.on ≠ i := fun e he hb hei => by
   have h1 := hall e he hb;rw [hei] at h1;rcases Nat.lt_or_ge i l.size with hlt | hge
   ·simp [Array.getD, hlt] at h1 hiu;rw [h1] at hiu;exact Bool.noConfusion hiu
   ·simp [Array.getD, Nat.not_lt.2 hge] at h1
  have h2 := wpOp_putIf hoj (hfree j oj hoj hji hju hno) (fun cs b => hsel i oi cs b hi) (fun cs b => hsel j oj cs b hoj) hQ hy (H.2 j (ready_mono hj hji));refine wpOp_mono (fun a' w' h3 => ?_) h2;have hS' : (l.setIfInBounds j true).getD t true = false → S w' := fun e => h3.2.1 (by
   rw [Array.setIfInBounds_comm _ _ (Ne.symm hji), getD_set_ne true hit]; exact e)
  refine ⟨hS', ih _ a' w' (fun k ok hk hki hun hn => hfree k ok hk hki ?_ hn) (ready_mono hr (Ne.symm hji)) h3.1 hS' ?_⟩
  ·by_cases hjk : j = k
   ·subst hjk; exact hju
   ·rw [getD_set_ne true hjk] at hun; exact hun
  ·rw [Array.setIfInBounds_comm _ _ hji];exact h3.2.2
theorem till_free {P : Program} {ops : Array Oper} {Q : Exit → Act → World → Prop} {S : World → Prop} {t i : Nat} {oi : Oper} {v : Value} {n : Nat} {l : Array Bool} {a : Act} {w : World} (hi : ops[i]? = some oi)
  (hs : Region.noSelect ops = true) (hit : (i == t) = false) (hf : Region.free .any ops l i = true) (hr : (Region.ready .any ops l).contains i = true)
  (hQ : ∀ c a w, Q (.panic c) (a.put oi.dst v) w → Q (.panic c) a w) (hy : YieldsIf P ops (fun _ => True) oi v a) (hS : S w)
  (h : Till P ops Q S t n (l.setIfInBounds i true) (a.put oi.dst v) w) : Till P ops Q S t (n + 1) l a w :=
 Till.free (by simpa using hit) hi (Region.noSelect_spec hs) hQ n l a w (Region.free_spec hi hf) (by simpa using hr) hy (fun _ => hS) h
theorem till_fr {P : Program} {ops : Array Oper} {Q : Exit → Act → World → Prop} {S : World → Prop} {t i : Nat} {oi : Oper} {v : Value} {n : Nat} {l : Array Bool} {a : Act} {w : World} (hi : ops[i]? = some oi) (hy : YieldsIf P ops (fun _ => True) oi v a)
  (h : Till P ops Q S t n (l.setIfInBounds i true) (a.put oi.dst v) w) (hs : Region.noSelect ops = true := by kernel_rfl) (hit : (i == t) = false := by kernel_rfl) (hf : Region.free .any ops l i = true := by kernel_rfl) (hr : (Region.ready .any ops l).contains i = true := by kernel_rfl)
  (hQ : ∀ c a w, Q (.panic c) (a.put oi.dst v) w → Q (.panic c) a w := by exact fun _ _ _ h => h) (hS : S w := by assumption) : Till P ops Q S t (n + 1) l a w := till_free hi hs hit hf hr hQ hy hS h
theorem zfl {P : Program} {ops : Array Oper} {Q : Exit → Act → World → Prop} {S : World → Prop} {t : Nat} (i : Nat) {oi : Oper} {v : Value} {n : Nat} {l : Array Bool} {a : Act} {w : World} (hi : ops[i]? = some oi)
  (h : Till P ops Q S t n (l.setIfInBounds i true) (a.put oi.dst v) w) (hy : YieldsIf P ops (fun _ => True) oi v a := by exact Or.inl ⟨by rfl, by (intro wx hSw; (try dsimp only at hSw); go_simp; (try rw [if_neg (by omega)]); try with_reducible rfl)⟩)
  (hs : Region.noSelect ops = true := by kernel_rfl) (hit : (i == t) = false := by kernel_rfl) (hf : Region.free .any ops l i = true := by kernel_rfl) (hr : (Region.ready .any ops l).contains i = true := by kernel_rfl)
  (hQ : ∀ c a w, Q (.panic c) (a.put oi.dst v) w → Q (.panic c) a w := by exact fun _ _ _ h => h) (hS : S w := by assumption) : Till P ops Q S t (n + 1) l a w := till_free hi hs hit hf hr hQ hy hS h
def OneIn (P : Program) (ops : Array Oper) (Q : Exit → Act → World → Prop) (S : World → Prop) (t n : Nat) (l : Array Bool) (a : Act) (w : World) (i : Nat) : Prop :=
 ∃ o, ops[i]? = some o ∧ ∀ K' : Act → World → Prop, Shut (∀ a w, S w → (S w → Till P ops Q S t n (l.setIfInBounds i true) a w) → K' a w) → if Region.wanted o (yielded ops a.tmps) = true then Oper.wp P o a w K' Q else K' (a.put o.dst undef) w
theorem till_all {P : Program} {ops : Array Oper} {Q : Exit → Act → World → Prop} {S : World → Prop} {t : Nat} {n : Nat} {l : Array Bool} {a : Act} {w : World} (rs : List Nat) (hr : Region.ready .any ops l = rs) (hne : rs ≠ [])
  (h : ∀ i ∈ rs, OneIn P ops Q S t n l a w i) : Till P ops Q S t (n + 1) l a w := by
 refine ⟨fun h0 => absurd (hr ▸ h0) hne, fun j hj => ?_⟩;obtain ⟨o, ho, hh⟩ := h j (hr ▸ hj);exact wpOp_step ho (fun K' hK => hh K' (fun a w hS hT => hK a w ⟨fun _ => hS, hT hS⟩))
theorem till_two {P : Program} {ops : Array Oper} {Q : Exit → Act → World → Prop} {S : World → Prop} {t i j : Nat} {oi oj : Oper} {n : Nat} {l : Array Bool} {a : Act} {w : World} (hr : Region.ready .any ops l = [i, j]) (hi : ops[i]? = some oi) (hj : ops[j]? = some oj)
  (h1 : ∀ K' : Act → World → Prop, Shut (∀ a w, S w → (S w → Till P ops Q S t n (l.setIfInBounds i true) a w) → K' a w) → if Region.wanted oi (yielded ops a.tmps) = true then Oper.wp P oi a w K' Q else K' (a.put oi.dst undef) w)
  (h2 : ∀ K' : Act → World → Prop, Shut (∀ a w, S w → (S w → Till P ops Q S t n (l.setIfInBounds j true) a w) → K' a w) → if Region.wanted oj (yielded ops a.tmps) = true then Oper.wp P oj a w K' Q else K' (a.put oj.dst undef) w) : Till P ops Q S t (n + 1) l a w :=
 till_all [i, j] hr (by simp) (fun k hk => by
  rcases List.mem_cons.1 hk with rfl | hk
  ·exact ⟨_, hi, h1⟩
  ·rw [List.mem_singleton] at hk;subst hk;exact ⟨_, hj, h2⟩)
theorem till_three {P : Program} {ops : Array Oper} {Q : Exit → Act → World → Prop} {S : World → Prop} {t i j k : Nat} {oi oj ok : Oper} {n : Nat} {l : Array Bool} {a : Act} {w : World} (hr : Region.ready .any ops l = [i, j, k]) (hi : ops[i]? = some oi) (hj : ops[j]? = some oj) (hk : ops[k]? = some ok)
  (h1 : ∀ K' : Act → World → Prop, Shut (∀ a w, S w → (S w → Till P ops Q S t n (l.setIfInBounds i true) a w) → K' a w) → if Region.wanted oi (yielded ops a.tmps) = true then Oper.wp P oi a w K' Q else K' (a.put oi.dst undef) w)
  (h2 : ∀ K' : Act → World → Prop, Shut (∀ a w, S w → (S w → Till P ops Q S t n (l.setIfInBounds j true) a w) → K' a w) → if Region.wanted oj (yielded ops a.tmps) = true then Oper.wp P oj a w K' Q else K' (a.put oj.dst undef) w)
  (h3 : ∀ K' : Act → World → Prop, Shut (∀ a w, S w → (S w → Till P ops Q S t n (l.setIfInBounds k true) a w) → K' a w) → if Region.wanted ok (yielded ops a.tmps) = true then Oper.wp P ok a w K' Q else K' (a.put ok.dst undef) w) : Till P ops Q S t (n + 1) l a w :=
 till_all [i, j, k] hr (by simp) (fun m hm => by
  rcases List.mem_cons.1 hm with rfl | hm
  ·exact ⟨_, hi, h1⟩
  rcases List.mem_cons.1 hm with rfl | hm
  ·exact ⟨_, hj, h2⟩
  ·rw [List.mem_singleton] at hm;subst hm;exact ⟨_, hk, h3⟩)
theorem zmd {P : Program} {ops : Array Oper} {Q : Exit → Act → World → Prop} {S : World → Prop} {t n : Nat} {l : Array Bool} {a : Act} {w : World} (n' : Nat) (l' : Array Bool) {ι : Type} (A : ι → Act) (I : ι → World → Prop)
  (h1 : ∀ x w, I x w → Till P ops Q S t n' l' (A x) w) (h2 : (∀ x w, I x w → Till P ops Q S t n' l' (A x) w) → Till P ops Q S t n l a w) : Till P ops Q S t n l a w := h2 h1
theorem till_go {P : Program} {ops : Array Oper} {Q : Exit → Act → World → Prop} {S : World → Prop} {t n n' : Nat} {l l' : Array Bool} {a : Act} {w : World} {ι : Type} {A : ι → Act} {I : ι → World → Prop} (J : ∀ x w, I x w → Till P ops Q S t n' l' (A x) w) (x : ι) (hn : n = n') (hl : l = l') (ha : a = A x) (hI : I x w) : Till P ops Q S t n l a w := by
 subst hn hl ha;exact J x w hI
theorem zst {P : Program} {ops : Array Oper} {Q : Exit → Act → World → Prop} {S : World → Prop} {B : Nat} {W : World} {id : Nat} {a : Act} {w : World} (HS : Go.RowKit.Hid (∀ w', Go.RowKit.Below B W w' → S w')) (HW : Go.RowKit.Below B W w.drew) (t : Nat) (hm : P.follows .mixedOrders = true)
  (h : S w.drew → Till P ops Q S t ops.size (Array.replicate ops.size false) a w.drew) : (Code.region id ops true).wp P Q a w := zts S t hm (HS _ HW) h
theorem newB (w : World) : ∃ W', W' = w.alloc (.cells #[.bool false, .slice none 0 0] 45) := ⟨_, rfl⟩
theorem tin {P : Program} {ops : Array Oper} {Q : Exit → Act → World → Prop} {S : World → Prop} {t : Nat} (i : Nat) {o : Oper} {n : Nat} {l : Array Bool} {a : Act} {w : World} (ho : ops[i]? = some o)
 (h : ∀ K' : Act → World → Prop, Shut (∀ a w, S w → (S w → Till P ops Q S t n (l.setIfInBounds i true) a w) → K' a w) → if Region.wanted o (yielded ops a.tmps) = true then Oper.wp P o a w K' Q else K' (a.put o.dst undef) w) (hr : Region.ready .any ops l = [i] := by kernel_rfl) : Till P ops Q S t (n + 1) l a w := till_in hr ho h
theorem tout {P : Program} {ops : Array Oper} {Q : Exit → Act → World → Prop} {S : World → Prop} {t : Nat} (i : Nat) {o : Oper} {n : Nat} {l : Array Bool} {a : Act} {w : World} (ho : ops[i]? = some o)
 (h : ∀ K' : Act → World → Prop, Shut (∀ a w, Till P ops Q S t n (l.setIfInBounds i true) a w → K' a w) → if Region.wanted o (yielded ops a.tmps) = true then Oper.wp P o a w K' Q else K' (a.put o.dst undef) w) (hr : Region.ready .any ops l = [i] := by kernel_rfl) (hout : (l.setIfInBounds i true).getD t true = true := by kernel_rfl) : Till P ops Q S t (n + 1) l a w := till_out hr ho hout h
theorem ttwo {P : Program} {ops : Array Oper} {Q : Exit → Act → World → Prop} {S : World → Prop} {t : Nat} (i j : Nat) {oi oj : Oper} {n : Nat} {l : Array Bool} {a : Act} {w : World} (hi : ops[i]? = some oi) (hj : ops[j]? = some oj)
 (h1 : ∀ K' : Act → World → Prop, Shut (∀ a w, S w → (S w → Till P ops Q S t n (l.setIfInBounds i true) a w) → K' a w) → if Region.wanted oi (yielded ops a.tmps) = true then Oper.wp P oi a w K' Q else K' (a.put oi.dst undef) w)
 (h2 : ∀ K' : Act → World → Prop, Shut (∀ a w, S w → (S w → Till P ops Q S t n (l.setIfInBounds j true) a w) → K' a w) → if Region.wanted oj (yielded ops a.tmps) = true then Oper.wp P oj a w K' Q else K' (a.put oj.dst undef) w) (hr : Region.ready .any ops l = [i, j] := by kernel_rfl) : Till P ops Q S t (n + 1) l a w := till_two hr hi hj h1 h2
theorem tgo {P : Program} {ops : Array Oper} {Q : Exit → Act → World → Prop} {S : World → Prop} {t n n' : Nat} {l l' : Array Bool} {a : Act} {w : World} {ι : Type} {A : ι → Act} {I : ι → World → Prop} (J : ∀ x w, I x w → Till P ops Q S t n' l' (A x) w) (x : ι) (ha : a = A x) (hI : I x w) (hl : l = l' := by kernel_rfl) (hn : n = n' := by rfl) : Till P ops Q S t n l a w := till_go J x hn hl ha hI
def lst (n : Nat) (f : List Nat) : Array Bool := ((List.range n).map fun i => !f.contains i).toArray
theorem znm {P : Program} {ops : Array Oper} {Q : Exit → Act → World → Prop} {S : World → Prop} {t n : Nat} {l : Array Bool} {a : Act} {w : World} (h : ∀ a0, a0 = a → Till P ops Q S t n l a0 w) : Till P ops Q S t n l a w := h a rfl

end Go.Proofs.YtnpneloahajniaaGreat

/-
 What a slice of Ints reads as in a world ('VecOf': each element meets R), a vector that the call itself made ('OwnV'), and what append, make and a store into it do.
-/
namespace Go.Proofs.YtnpneloahajniaaGreat
open Go.RowKit Lb
set_option maxRecDepth 20000

def EltAt (w : World) (g o : Nat) (b : Bool) (a : Option Addr) (l c : Nat) : Prop := g < w.heap.size ∧ w.cell? ⟨g, o, none⟩ = some (.bool b) ∧ w.cell? ⟨g, o + 1, none⟩ = some (.slice a l c)
theorem EltAt.za {w w' : World} {g o : Nat} {b : Bool} {a : Option Addr} {l c : Nat} (h : EltAt w g o b a l c) (hb : Below w.heap.size w w') : EltAt w' g o b a l c :=
 ⟨Nat.lt_of_lt_of_le h.1 hb.size, (hb.cell (p := ⟨g, o, none⟩) h.1).trans h.2.1, (hb.cell (p := ⟨g, o + 1, none⟩) h.1).trans h.2.2⟩
theorem EltAt.zb {w : World} {g o : Nat} {b : Bool} {a : Option Addr} {l c : Nat} (h : EltAt w g o b a l c) : w.cell? ⟨g, o, none⟩ = some (.bool b) ∧ w.cell? ⟨g, o + 1, none⟩ = some (.slice a l c) := h.2
theorem EltAt.of_block {w w' : World} {g o : Nat} {b : Bool} {a : Option Addr} {l c : Nat} (h : EltAt w g o b a l c) (hs : w.heap.size ≤ w'.heap.size) (e : w'.heap[g]? = w.heap[g]?) : EltAt w' g o b a l c :=
 ⟨Nat.lt_of_lt_of_le h.1 hs, (World.cell?_of_block (a := ⟨g, o, none⟩) e).trans h.2.1, (World.cell?_of_block (a := ⟨g, o + 1, none⟩) e).trans h.2.2⟩
structure VecOf (R : World → Bool → Option Addr → Nat → Nat → Int → Prop) (w : World) (ao : Option Addr) (n cap : Nat) (zs : List Int) : Prop where
 len_eq : zs.length = n
 cap_le : n ≤ cap
 cap_max : cap ≤ maxLen
 nil_cap : ao = none → cap = 0
 elts : 0 < n → ∃ g off, ao = some ⟨g, off, none⟩ ∧ g < w.heap.size ∧ ∀ i, i < n → ∃ b a l c, EltAt w g (off + i * 2) b a l c ∧ R w b a l c (zs.getD i 0)
def VI (w : World) (ao : Option Addr) (n cap : Nat) (zs : List Int) : Prop := VecOf IntAt w ao n cap zs
def VK (w : World) (ao : Option Addr) (n cap : Nat) (zs : List Int) (k : Nat) : Prop := VecOf (fun w b a l c z => IK w b a l c z k) w ao n cap zs
def VF (w : World) (ao : Option Addr) (n cap : Nat) (zs : List Int) (k : Nat) : Prop := VecOf (fun w b a l c z => FK w b a l c z k) w ao n cap zs
theorem VecOf.za {R : World → Bool → Option Addr → Nat → Nat → Int → Prop} (hR : ∀ {w w' : World} {b a l c z}, R w b a l c z → Below w.heap.size w w' → R w' b a l c z) {w w' : World} {ao : Option Addr} {n cap : Nat} {zs : List Int} (h : VecOf R w ao n cap zs) (hb : Below w.heap.size w w') : VecOf R w' ao n cap zs := by
 refine ⟨h.len_eq, h.cap_le, h.cap_max, h.nil_cap, fun hp => ?_⟩;obtain ⟨g, off, e, hg, hc⟩ := h.elts hp;refine ⟨g, off, e, Nat.lt_of_lt_of_le hg hb.size, fun i hi => ?_⟩;obtain ⟨b, a, l, c, h1, h2⟩ := hc i hi;exact ⟨b, a, l, c, h1.za hb, hR h2 hb⟩
theorem VI.za {w w' : World} {ao : Option Addr} {n cap : Nat} {zs : List Int} (h : VI w ao n cap zs) (hb : Below w.heap.size w w') : VI w' ao n cap zs := VecOf.za (fun h hb => h.za hb) h hb
theorem VK.za {w w' : World} {ao : Option Addr} {n cap k : Nat} {zs : List Int} (h : VK w ao n cap zs k) (hb : Below w.heap.size w w') : VK w' ao n cap zs k := VecOf.za (fun h hb => h.za hb) h hb
theorem VF.za {w w' : World} {ao : Option Addr} {n cap k : Nat} {zs : List Int} (h : VF w ao n cap zs k) (hb : Below w.heap.size w w') : VF w' ao n cap zs k := VecOf.za (fun h hb => h.za hb) h hb
theorem VecOf.mono {R R' : World → Bool → Option Addr → Nat → Nat → Int → Prop} {w : World} {ao : Option Addr} {n cap : Nat} {zs : List Int} (h : VecOf R w ao n cap zs) (hR : ∀ {i b a l c}, i < n → R w b a l c (zs.getD i 0) → R' w b a l c (zs.getD i 0)) : VecOf R' w ao n cap zs := by
 refine ⟨h.len_eq, h.cap_le, h.cap_max, h.nil_cap, fun hp => ?_⟩;obtain ⟨g, off, e, hg, hc⟩ := h.elts hp;refine ⟨g, off, e, hg, fun i hi => ?_⟩;obtain ⟨b, a, l, c, h1, h2⟩ := hc i hi;exact ⟨b, a, l, c, h1, hR hi h2⟩
theorem VF.vk {w : World} {ao : Option Addr} {n cap k : Nat} {zs : List Int} (h : VF w ao n cap zs k) (hk : k ≤ 999990) : VK w ao n cap zs k := VecOf.mono h (fun _ h => h.ik hk)
theorem VK.lt {w : World} {ao : Option Addr} {n cap k : Nat} {zs : List Int} (h : VK w ao n cap zs k) {i : Nat} (hi : i < n) : (zs.getD i 0).natAbs < Bp k := by
 obtain ⟨g, off, e, hg, hc⟩ := h.elts (by omega);obtain ⟨b, a, l, c, h1, h2⟩ := hc i hi;exact h2.2.2
theorem VK.at {w : World} {g off n cap k : Nat} {zs : List Int} (h : VK w (some ⟨g, off, none⟩) n cap zs k) {i : Nat} (hi : i < n) : ∃ b a l c, EltAt w g (off + i * 2) b a l c ∧ IK w b a l c (zs.getD i 0) k := by
 obtain ⟨g', off', e, hg, hc⟩ := h.elts (by omega);simp only [Option.some.injEq, Addr.mk.injEq, and_true] at e;obtain ⟨rfl, rfl⟩ := e;exact hc i hi
theorem VF.at {w : World} {g off n cap k : Nat} {zs : List Int} (h : VF w (some ⟨g, off, none⟩) n cap zs k) {i : Nat} (hi : i < n) : ∃ b a l c, EltAt w g (off + i * 2) b a l c ∧ FK w b a l c (zs.getD i 0) k := by
 obtain ⟨g', off', e, hg, hc⟩ := h.elts (by omega);simp only [Option.some.injEq, Addr.mk.injEq, and_true] at e;obtain ⟨rfl, rfl⟩ := e;exact hc i hi
theorem VI.at {w : World} {g off n cap : Nat} {zs : List Int} (h : VI w (some ⟨g, off, none⟩) n cap zs) {i : Nat} (hi : i < n) : ∃ b a l c, EltAt w g (off + i * 2) b a l c ∧ IntAt w b a l c (zs.getD i 0) := by
 obtain ⟨g', off', e, hg, hc⟩ := h.elts (by omega);simp only [Option.some.injEq, Addr.mk.injEq, and_true] at e;obtain ⟨rfl, rfl⟩ := e;exact hc i hi
theorem VecOf.some {R : World → Bool → Option Addr → Nat → Nat → Int → Prop} {w : World} {ao : Option Addr} {n cap : Nat} {zs : List Int} (h : VecOf R w ao n cap zs) (hp : 0 < n) : ∃ g off, ao = some ⟨g, off, none⟩ := by
 obtain ⟨g, off, e, _⟩ := h.elts hp;exact ⟨g, off, e⟩
theorem vf_nil (w : World) (k : Nat) : VF w none 0 0 [] k := ⟨rfl, Nat.le_refl _, Nat.zero_le _, fun _ => rfl, fun h => absurd h (by omega)⟩

theorem info_int : (Tryz.prog.info? 45).map (fun i => (i.zero, i.size, i.bytes)) = some (some (.agg #[.bool false, .slice none 0 0]), 2, 32) := by kernel_rfl
def OwnV (w : World) (base : Nat) (ao : Option Addr) (n cap : Nat) (zs : List Int) (k : Nat) : Prop :=
 VF w ao n cap zs k ∧ (∃ cs, w.ownsRow base 45 2 (.slice ao n cap) n cs) ∧ ∀ g off, ao = some ⟨g, off, none⟩ → NoLimb w g
theorem ownV_nil (w : World) (base k : Nat) : OwnV w base none 0 0 [] k := ⟨vf_nil w k, ⟨[], World.ownsRow_nil w base _ 2⟩, fun _ _ e => by simp at e⟩
theorem OwnV.za {w w' : World} {base : Nat} {ao : Option Addr} {n cap k : Nat} {zs : List Int} (h : OwnV w base ao n cap zs k) (hb : Below w.heap.size w w') : OwnV w' base ao n cap zs k := by
 obtain ⟨h1, ⟨cs, h2⟩, h3⟩ := h;have h2' := h2;refine ⟨h1.za hb, ⟨cs, h2.1, ?_⟩, ?_⟩
 ·rcases h2.2 with h' | ⟨g, cap, cur, hv, hg, hh, r⟩
  ·exact Or.inl h'
  ·exact Or.inr ⟨g, cap, cur, hv, hg, by rw [hb.block g (lt_of_block hh)]; exact hh, r⟩
 ·intro g off e;subst e;exact (h3 g off rfl).za hb (h2'.lt g rfl).2
theorem OwnV.base_le {w : World} {base g off : Nat} {n cap k : Nat} {zs : List Int} (h : OwnV w base (some ⟨g, off, none⟩) n cap zs k) : base ≤ g ∧ g < w.heap.size := by
 obtain ⟨h1, ⟨cs, h2⟩, h3⟩ := h;exact h2.lt g rfl
theorem OwnV.form {w : World} {base : Nat} {ao : Option Addr} {n cap k : Nat} {zs : List Int} (h : OwnV w base ao n cap zs k) (hn : 0 < n) : ∃ g, ao = some ⟨g, 0, none⟩ := by
 obtain ⟨h1, ⟨cs, h2⟩, h3⟩ := h;rcases h2.2 with ⟨_, h'⟩ | ⟨g, cap', cur, hv, _⟩
 ·omega
 ·simp only [Value.slice.injEq] at hv;exact ⟨g, hv.1⟩
theorem RowAt.grown {w w' : World} {ao : Option Addr} {len cap : Nat} {xs : List Nat} {row : Option Nat} (h : RowAt w ao len cap xs) (hg : w.grownBy w' row) (hn : ∀ g, row = some g → NoLimb w g) : RowAt w' ao len cap xs := by
 refine ⟨h.len_eq, h.cap_le, h.cap_max, h.nil_cap, h.small, fun hp => ?_⟩;obtain ⟨b, off, e, hlt, hc⟩ := h.cells hp;refine ⟨b, off, e, Nat.lt_of_lt_of_le hlt hg.size, fun i hi => ?_⟩;refine (World.cell?_of_block (a := ⟨b, off + i, none⟩) (hg.block b hlt fun e' => ?_)).trans (hc i hi);exact hn b e'.symm _ _ (hc i hi)
theorem FK.grown {w w' : World} {b : Bool} {ao : Option Addr} {len cap k : Nat} {z : Int} {row : Option Nat} (h : FK w b ao len cap z k) (hg : w.grownBy w' row) (hn : ∀ g, row = some g → NoLimb w g) : FK w' b ao len cap z k := by
 obtain ⟨⟨⟨xs, h1, h2⟩, h3⟩, h4⟩ := h;exact ⟨⟨⟨xs, h1.grown hg hn, h2⟩, h3⟩, h4⟩
theorem IK.grown {w w' : World} {b : Bool} {ao : Option Addr} {len cap k : Nat} {z : Int} {row : Option Nat} (h : IK w b ao len cap z k) (hg : w.grownBy w' row) (hn : ∀ g, row = some g → NoLimb w g) : IK w' b ao len cap z k := by
 obtain ⟨⟨N, ⟨xs, h1, h2⟩, h3⟩, h4⟩ := h;exact ⟨⟨N, ⟨xs, h1.grown hg hn, h2⟩, h3⟩, h4⟩

theorem fk_zero (w : World) (k : Nat) : FK w false none 0 0 0 k := ⟨⟨numAt_nil w, rfl⟩, Bp_pos k⟩
theorem OwnV.parts {w : World} {base : Nat} {ao : Option Addr} {n cap k : Nat} {zs : List Int} (h : OwnV w base ao n cap zs k) : ∃ cs, w.ownsRow base 45 2 (.slice ao n cap) n cs ∧ ∀ i, i < n → ∃ b a l c, cs[i * 2]? = some (.bool b) ∧ cs[i * 2 + 1]? = some (.slice a l c) ∧ FK w b a l c (zs.getD i 0) k := by
 obtain ⟨hv, ⟨cs, hrow⟩, hnl⟩ := h;refine ⟨cs, hrow, fun i hi => ?_⟩;obtain ⟨g1, off1, e1, hg1, hc1⟩ := hv.elts (by omega);obtain ⟨b1, a1, l1, c1, h1, h2⟩ := hc1 i hi;rcases hrow.2 with ⟨_, h⟩ | ⟨g0, cap0, cur, hv0, _⟩
 ·omega
 ·simp only [Value.slice.injEq] at hv0;obtain ⟨e0, _, rfl⟩ := hv0;rw [e0] at e1;simp only [Option.some.injEq, Addr.mk.injEq, and_true] at e1;obtain ⟨rfl, rfl⟩ := e1;subst e0;refine ⟨b1, a1, l1, c1, ?_, ?_, h2⟩
  ·rw [← hrow.cellAt (i * 2) (by omega)]; simpa using h1.2.1
  ·rw [← hrow.cellAt (i * 2 + 1) (by omega)]; simpa using h1.2.2
theorem ownV_of {w : World} {base g : Nat} {n cap k : Nat} {zs : List Int} {cs : List Value} (hrow : w.ownsRow base 45 2 (.slice (some ⟨g, 0, none⟩) n cap) n cs) (hl : zs.length = n) (hnl : NoLimb w g)
  (he : ∀ i, i < n → ∃ b a l c, cs[i * 2]? = some (.bool b) ∧ cs[i * 2 + 1]? = some (.slice a l c) ∧ FK w b a l c (zs.getD i 0) k) : OwnV w base (some ⟨g, 0, none⟩) n cap zs k := by
 have hlt := (hrow.lt g rfl).2;have hc : n ≤ cap ∧ cap ≤ maxLen := by
  rcases hrow.2 with ⟨h, _⟩ | ⟨_, _, _, h, _, _, h3, h4, _⟩
  ·simp at h
  ·simp only [Value.slice.injEq, true_and] at h; omega
 refine ⟨⟨hl, hc.1, hc.2, fun e => by simp at e, fun _ => ⟨g, 0, rfl, hlt, fun i hi => ?_⟩⟩, ⟨cs, hrow⟩, fun g1 off1 e => ?_⟩
 ·obtain ⟨b1, a1, l1, c1, h1, h2, h3⟩ := he i hi;rw [Nat.zero_add];exact ⟨b1, a1, l1, c1, ⟨hlt, (hrow.cellAt (i * 2) (by omega)).trans h1, (hrow.cellAt (i * 2 + 1) (by omega)).trans h2⟩, h3⟩
 ·simp only [Option.some.injEq, Addr.mk.injEq, and_true] at e;obtain ⟨rfl, rfl⟩ := e;exact hnl

theorem zero_cells {q : Nat} {x : Int} (h : Value.int .u32 x ∈ Builtin.zeroCells #[.bool false, .slice none 0 0] q) : False := by
 obtain ⟨j, hj⟩ := Array.mem_iff_getElem?.1 h;unfold Builtin.zeroCells at hj;simp only [Array.getElem?_map, Array.getElem?_range] at hj
 split at hj
 ·have : j % 2 < 2 := Nat.mod_lt _ (by omega);rcases (by omega : j % 2 = 0 ∨ j % 2 = 1) with e | e <;> simp [e] at hj
 ·simp at hj
set_option maxHeartbeats 2000000 in
theorem run_append_vec (t ty : TypeId) (ht : Tryz.prog.underlying t = some (.slice 45)) (w : World) (base : Nat) (ao : Option Addr) (n cap k : Nat) (zs : List Int) (hown : OwnV w base ao n cap zs k) (hn : n ≤ 1000000000) (hbase : base ≤ w.heap.size)
  (g o c' : Nat) (b : Bool) (a : Option Addr) (l c : Nat) (z : Int) (he : EltAt w g o b a l c) (hz : FK w b a l c z k) :
  ∃ g' cap' w', (Builtin.append_ #[t, t] ty #[.slice ao n cap, .slice (some ⟨g, o, none⟩) 1 c']).run Tryz.prog w = .ok (.slice (some ⟨g', 0, none⟩) (n + 1) cap') w' ∧ OwnV w' base (some ⟨g', 0, none⟩) (n + 1) cap' (zs ++ [z]) k ∧
   w.grownBy w' (Value.slice ao n cap).ownBlock ∧ (ao = some ⟨g', 0, none⟩ ∨ g' = w.heap.size) := by
 obtain ⟨cs, hrow, hcellOld⟩ := hown.parts;obtain ⟨hv, _, hnl⟩ := hown;obtain ⟨i0, hi, hz0, hz1, hz2⟩ := info_parts info_int;have hnews : ∀ j u, [Value.bool b, .slice a l c][j]? = some u → w.cell? ((⟨g, o, none⟩ : Addr).add j) = some u := by
  intro j u hj;rw [Addr.add_lit]
  match j with
  | 0 => simp at hj; rw [← hj]; exact he.2.1
  | 1 => simp at hj; rw [← hj]; exact he.2.2
  | j + 2 => simp at hj
 have h1c : ∀ u ∈ [Value.bool b, .slice a l c], u.oneCell' = true := by
  intro u hu;simp at hu;rcases hu with rfl | rfl <;> rfl
 have hn63 : n + 1 ≤ maxLen := by unfold maxLen; omega
 obtain ⟨v', w', hrun, hrow', hgr, _, hat⟩ := run_append_own_at (P := Tryz.prog) w base t ty 45 i0 (.agg #[.bool false, .slice none 0 0]) 2 32 ht hi hz0 hz1 hz2 rfl (by decide) _ n cs hrow ⟨g, o, none⟩ 1 c' [.bool b, .slice a l c] rfl hnews h1c hn63 (by omega) hbase;have hNo : ∀ g', v'.ownBlock = some g' → NoLimb w' g' := by
  have hnew : ∀ (C : Array Value) (q : Nat), w' = w.drew.alloc (.cells (C ++ #[.bool b, .slice a l c] ++ Builtin.zeroCells #[.bool false, .slice none 0 0] q) 45) → (∀ (j : Nat) (x : Int), C[j]? ≠ some (Value.int .u32 x)) → v'.ownBlock = some w.heap.size → ∀ g', v'.ownBlock = some g' → NoLimb w' g' := by
   intro C q hw hC hvb g' hg' j x hcell;rw [hvb] at hg';simp only [Option.some.injEq] at hg';subst hg';have hh : w'.heap[w.heap.size]? = some (.cells (C ++ #[.bool b, .slice a l c] ++ Builtin.zeroCells #[.bool false, .slice none 0 0] q) 45) := by
    rw [hw]; exact heap_alloc_new w.drew _
   have hcell' : (C ++ #[.bool b, .slice a l c] ++ Builtin.zeroCells #[.bool false, .slice none 0 0] q)[j]? = some (.int .u32 x) := by
    rw [← Joins.cell_of_block hh j]; exact hcell
   have hmem := Array.mem_of_getElem? hcell';rw [Array.mem_append, Array.mem_append] at hmem;rcases hmem with (h | h) | h
   ·obtain ⟨j', hj'⟩ := Array.mem_iff_getElem?.1 h;exact hC j' x hj'
   ·simp at h
   ·exact zero_cells h
  rcases hrow.2 with ⟨hv0, hn0⟩ | ⟨g0, cap0, cur, hv0, hbg, hg0, hnc, hcm, hcs, htake⟩
  ·simp only [Value.slice.injEq] at hv0;obtain ⟨rfl, rfl, rfl⟩ := hv0;have hr := run_append_nil (P := Tryz.prog) w t ty 45 i0 (.agg #[.bool false, .slice none 0 0]) ht hi hz0 ⟨g, o, none⟩ 1 c' [.bool b, .slice a l c] (by rw [hz1]; rfl) hnews (by omega) (by omega) (by rw [hz2]; omega);rw [hr] at hrun;injection hrun with e1 e2
   refine hnew #[] (grownCap w 1 0 45 - 1) ?_ (by simp) (by rw [← e1]; rfl);rw [← e2, Array.empty_append];rfl
  ·have hv1 := hv0;simp only [Value.slice.injEq] at hv0;obtain ⟨rfl, _, rfl⟩ := hv0;have hnl0 := hnl g0 0 rfl;by_cases hroom : n + 1 ≤ cap
   ·have hr := run_append_room (P := Tryz.prog) w t ty 45 i0 ht hi g0 n cap cur hg0 ⟨g, o, none⟩ 1 c' [.bool b, .slice a l c] (by rw [hz1]; rfl) hnews h1c hroom (by rw [hz1, hcs]; simp; omega);rw [hr] at hrun;injection hrun with e1 e2
    intro g' hg' j x hcell;rw [← e1] at hg';simp only [Value.ownBlock, Option.some.injEq] at hg';subst hg';rw [← e2, Joins.cell_of_block (setRow_heap w g0 cur _ _ _ hg0) j] at hcell;have hmem := Array.mem_of_getElem? hcell;rw [List.mem_toArray, List.mem_append, List.mem_append] at hmem;have hcur : ∀ u ∈ cur.toList, u ≠ .int .u32 x := by
     intro u hu e;obtain ⟨j', hj'⟩ := List.mem_iff_getElem?.1 hu;refine hnl0 j' x ?_;rw [Joins.cell_of_block hg0 j', ← Array.getElem?_toList, hj', e]
    rcases hmem with (h | h) | h
    ·exact hcur _ (List.mem_of_mem_take h) rfl
    ·simp at h
    ·exact hcur _ (List.mem_of_mem_drop h) rfl
   ·have hr := run_append_grow (P := Tryz.prog) w t ty 45 i0 (.agg #[.bool false, .slice none 0 0]) ht hi hz0 ⟨g0, 0, none⟩ n cap cs (by rw [hz1]; exact hrow.1) (hrow.cells (g := g0) rfl) ⟨g, o, none⟩ 1 c' [.bool b, .slice a l c] (by rw [hz1]; rfl) hnews (by omega) (by omega) (growslice_fits (by omega) (by rw [hz2]; omega));rw [hr] at hrun;injection hrun with e1 e2
    refine hnew cs.toArray (grownCap w (n + 1) cap 45 - (n + 1)) ?_ ?_ (by rw [← e1]; rfl)
    ·rw [← e2]; rfl
    ·intro j x hj;rw [List.getElem?_toArray] at hj;have := hrow.cells (g := g0) rfl j _ hj;rw [Addr.add_lit] at this;exact hnl0 _ _ this
 obtain ⟨g', cap', hv'⟩ : ∃ g' cap', v' = .slice (some ⟨g', 0, none⟩) (n + 1) cap' := by
  rcases hrow'.2 with ⟨_, h⟩ | ⟨g', cap', cur, h, _⟩
  ·omega
  ·exact ⟨g', cap', h⟩
 subst hv';have hl := hv.len_eq;have hcl := hrow.1;have hkeep : ∀ gg, (Value.slice ao n cap).ownBlock = some gg → NoLimb w gg := by
  intro gg hgg;rcases hrow.2 with ⟨h, _⟩ | ⟨g0, cap0, cur, h, _⟩
  ·rw [h] at hgg; simp [Value.ownBlock] at hgg
  ·rw [h] at hgg;simp only [Value.ownBlock, Option.some.injEq] at hgg;subst hgg;simp only [Value.slice.injEq] at h;exact hnl _ _ h.1
 refine ⟨g', cap', w', hrun, ownV_of hrow' (by simp [hl]) (hNo _ rfl) fun i hi => ?_, hgr, ?_⟩
 ·by_cases hin : i < n
  ·obtain ⟨b1, a1, l1, c1, h1, h2, h3⟩ := hcellOld i hin;refine ⟨b1, a1, l1, c1, ?_, ?_, ?_⟩
   ·rw [List.getElem?_append_left (by omega)]; exact h1
   ·rw [List.getElem?_append_left (by omega)]; exact h2
   ·rw [show (zs ++ [z]).getD i 0 = zs.getD i 0 by simp [List.getD, List.getElem?_append_left (show i < zs.length by omega)]];exact h3.grown hgr hkeep
  ·obtain rfl : i = n := by omega
   refine ⟨b, a, l, c, ?_, ?_, ?_⟩
   ·rw [List.getElem?_append_right (by omega), hcl]; simp
   ·rw [List.getElem?_append_right (by omega), hcl]; simp [show i * 2 + 1 - i * 2 = 1 by omega]
   ·rw [show (zs ++ [z]).getD i 0 = z by simp [List.getD, ← hl]];exact hz.grown hgr hkeep
 ·rcases hat with h | h
  ·rcases hrow.2 with ⟨h0, _⟩ | ⟨g0, cap0, cur, h0, _⟩
   ·rw [h0] at h; simp [Value.ownBlock] at h
   ·rw [h0] at h;simp only [Value.ownBlock, Option.some.injEq] at h;subst h;simp only [Value.slice.injEq] at h0;exact Or.inl h0.1
  ·right
   simpa [Value.ownBlock] using h

theorem step_vec {w : World} {ops : Array Oper} {o : Oper} {a : Act} {K : Act → World → Prop} {Q : Exit → Act → World → Prop} {E : Prop} (hgd : o.guard = none) (s x : Operand) (t : TypeId) (ht : Tryz.prog.underlying t = some (.slice 45))
  (ho : o.op = .call { callee := .builtin .append, args := #[s, x], argTypes := #[t, t] }) (base : Nat) (ao : Option Addr) (n cap k : Nat) (zs : List Int) (hs : a.eval s = .slice ao n cap) (hown : OwnV w base ao n cap zs k) (hn : n ≤ 1000000000) (hbase : base ≤ w.heap.size)
  (g p c' : Nat) (b : Bool) (aa : Option Addr) (l c : Nat) (z : Int) (hx : a.eval x = .slice (some ⟨g, p, none⟩) 1 c') (he : EltAt w g p b aa l c) (hz : FK w b aa l c z k)
  (h : ∀ g' cap' w', OwnV w' base (some ⟨g', 0, none⟩) (n + 1) cap' (zs ++ [z]) k → w.grownBy w' (Value.slice ao n cap).ownBlock → (ao = some ⟨g', 0, none⟩ ∨ g' = w.heap.size) → K (a.put o.dst (.slice (some ⟨g', 0, none⟩) (n + 1) cap')) w') : if Region.wanted o (yielded ops a.tmps) = true then Oper.wp Tryz.prog o a w K Q else E := by
 have hw : Region.wanted o (yielded ops a.tmps) = true := by simp [Region.wanted, hgd]
 rw [if_pos hw];obtain ⟨g', cap', w', hrun, h1, h2, h3⟩ := run_append_vec t o.type ht w base ao n cap k zs hown hn hbase g p c' b aa l c z he hz;unfold Oper.wp;simp [execOp, ho, resolve, invoke, builtin, hs, hx, hrun, Result.andThen];exact h g' cap' w' h1 h2 h3
theorem append_vec {w : World} {ops : Array Oper} {rest : List Oper} {o : Oper} {a : Act} {Q : Exit → Act → World → Prop} (hgd : o.guard = none) (s x : Operand) (t : TypeId) (ht : Tryz.prog.underlying t = some (.slice 45))
  (ho : o.op = .call { callee := .builtin .append, args := #[s, x], argTypes := #[t, t] }) (base : Nat) (ao : Option Addr) (n cap k : Nat) (zs : List Int) (hs : a.eval s = .slice ao n cap) (hown : OwnV w base ao n cap zs k) (hn : n ≤ 1000000000) (hbase : base ≤ w.heap.size)
  (g p c' : Nat) (b : Bool) (aa : Option Addr) (l c : Nat) (z : Int) (hx : a.eval x = .slice (some ⟨g, p, none⟩) 1 c') (he : EltAt w g p b aa l c) (hz : FK w b aa l c z k)
  (h : ∀ g' cap' w', OwnV w' base (some ⟨g', 0, none⟩) (n + 1) cap' (zs ++ [z]) k → w.grownBy w' (Value.slice ao n cap).ownBlock → (ao = some ⟨g', 0, none⟩ ∨ g' = w.heap.size) → wpList Tryz.prog ops Q rest (a.put o.dst (.slice (some ⟨g', 0, none⟩) (n + 1) cap')) w') : wpList Tryz.prog ops Q (o :: rest) a w := by
 refine wpList_plain hgd fun K hK => ?_;obtain ⟨g', cap', w', hrun, h1, h2, h3⟩ := run_append_vec t o.type ht w base ao n cap k zs hown hn hbase g p c' b aa l c z he hz;unfold Oper.wp;simp [execOp, ho, resolve, invoke, builtin, hs, hx, hrun, Result.andThen];exact hK _ _ (h g' cap' w' h1 h2 h3)
theorem make_vec {w : World} {ops : Array Oper} {rest : List Oper} {o : Oper} {a : Act} {Q : Exit → Act → World → Prop} (hg : o.guard = none) (l c : Operand) (t : TypeId) (ht : Tryz.prog.underlying t = some (.slice 45)) (hop : o.op = Op.makeSlice t l c)
  (base : Nat) (kl kc : IntKind) (L C : Int) (n k : Nat) (hl : a.eval l = .int kl L) (hc : a.eval c = .int kc C) (hL : L = (n : Int)) (hC : C = (n : Int)) (hn : n ≤ 1000000000) (hbase : base ≤ w.heap.size)
  (hK : ∀ w', OwnV w' base (some ⟨w.heap.size, 0, none⟩) n n (List.replicate n 0) k → w.grownBy w' none → wpList Tryz.prog ops Q rest (a.put o.dst (.slice (some ⟨w.heap.size, 0, none⟩) n n)) w') :
  wpList Tryz.prog ops Q (o :: rest) a w := by
 obtain ⟨i0, hi, hz0, hz1, hz2⟩ := info_parts info_int;refine wpList_make_full w hg l c _ hop base 45 i0 (.agg #[.bool false, .slice none 0 0]) 2 ht hi hz0 hz1 kl kc L C n hl hc hL hC (by rw [hz2]; omega) (by unfold maxLen; omega) hbase ?_;intro w' h1 h2;have hcell : ∀ j, j < n * 2 → (madeCells (Value.agg #[.bool false, .slice none 0 0]).cells (n * 2)).toList[j]? = some (if j % 2 = 0 then .bool false else .slice none 0 0) := by
  intro j hj;have : j % 2 < 2 := Nat.mod_lt _ (by omega);rw [Array.getElem?_toList];simp only [madeCells, Value.cells];rw [Array.getElem?_map, Array.getElem?_range];rcases (by omega : j % 2 = 0 ∨ j % 2 = 1) with e | e <;> simp [e, hj]
 refine hK w' (ownV_of h1 (by simp) ?_ fun i hi => ?_) h2
 ·intro j x e;by_cases hj : j < n * 2
  ·rw [h1.cellAt j hj, hcell j hj] at e
   split at e <;> simp at e
  ·rcases h1.2 with ⟨h, _⟩ | ⟨g, cap, cur, h, _, hh, _, _, hs, _⟩
   ·simp at h
   ·simp only [Value.slice.injEq, Option.some.injEq, Addr.mk.injEq, and_true, true_and] at h;obtain ⟨rfl, rfl⟩ := h;rw [Joins.cell_of_block hh j, Array.getElem?_eq_none (by omega)] at e;simp at e
 ·refine ⟨false, none, 0, 0, ?_, ?_, ?_⟩
  ·rw [hcell _ (by omega), if_pos (by omega)]
  ·rw [hcell _ (by omega), if_neg (by omega)]
  ·rw [show (List.replicate n (0 : Int)).getD i 0 = 0 by simp [List.getD, hi]];exact fk_zero w' k
theorem OwnV.set {w : World} {base g : Nat} {n cap k : Nat} {zs : List Int} (h : OwnV w base (some ⟨g, 0, none⟩) n cap zs k) {i : Nat} (hi : i < n) {b : Bool} {a : Option Addr} {l c : Nat} {z : Int} (hz : FK w b a l c z k) :
  OwnV ((w.setCell ⟨g, i * 2, none⟩ (.bool b)).setCell ⟨g, i * 2 + 1, none⟩ (.slice a l c)) base (some ⟨g, 0, none⟩) n cap (zs.set i z) k := by
 obtain ⟨cs, hrow, hcell⟩ := h.parts;obtain ⟨hv, _, hnl⟩ := h;have hnl0 := hnl g 0 rfl;have h1 := (World.ownsRow.stored hrow (i * 2) (.bool b)).1;have h2 := (World.ownsRow.stored h1 (i * 2 + 1) (.slice a l c)).1;have hl := hv.len_eq;have hcl := hrow.1;have hF : ∀ {b' a' l' c' z'}, FK w b' a' l' c' z' k → FK ((w.setCell ⟨g, i * 2, none⟩ (.bool b)).setCell ⟨g, i * 2 + 1, none⟩ (.slice a l c)) b' a' l' c' z' k := by
  intro b' a' l' c' z' hf;refine hf.grown (row := some g) ⟨rfl, rfl, rfl, by simp [World.setCell], fun j hj hne => ?_⟩ (fun g' e => by simp only [Option.some.injEq] at e; subst e; exact hnl0);have hne' : j ≠ g := fun e => hne (by rw [e]);rw [Below.heap_setCell _ _ _ _ (by simpa using hne'), Below.heap_setCell _ _ _ _ (by simpa using hne')]
 refine ownV_of h2 (by simp [hl]) ?_ fun j hj => ?_
 ·intro j x e;rcases hrow.2 with ⟨h, _⟩ | ⟨g', cap', cur, h, _, hh, _⟩
  ·simp at h
  ·simp only [Value.slice.injEq, Option.some.injEq, Addr.mk.injEq, and_true, true_and] at h;obtain ⟨rfl, rfl⟩ := h;rw [Joins.cell_of_block (Joins.block_setCell (Joins.block_setCell hh _) _) j] at e;have e0 : ∀ (j : Nat), cur[j]? ≠ some (Value.int .u32 x) := fun j e => hnl0 j x (by rw [Joins.cell_of_block hh j]; exact e);rw [Array.getElem?_setIfInBounds] at e
   split at e
   ·split at e <;> simp at e
   ·rw [Array.getElem?_setIfInBounds] at e
    split at e
    ·split at e <;> simp at e
    ·exact e0 _ e
 ·by_cases hji : j = i
  ·subst hji;refine ⟨b, a, l, c, ?_, ?_, ?_⟩
   ·rw [List.getElem?_set_ne (by omega), List.getElem?_set_self (by omega)]
   ·rw [List.getElem?_set_self (by simp; omega)]
   ·rw [show (zs.set j z).getD j 0 = z by simp [List.getD, show j < zs.length by omega]];exact hF hz
  ·obtain ⟨b1, a1, l1, c1, e1, e2, e3⟩ := hcell j hj;refine ⟨b1, a1, l1, c1, ?_, ?_, ?_⟩
   ·rw [List.getElem?_set_ne (by omega), List.getElem?_set_ne (by omega)]; exact e1
   ·rw [List.getElem?_set_ne (by omega), List.getElem?_set_ne (by omega)]; exact e2
   ·rw [show (zs.set i z).getD j 0 = zs.getD j 0 by simp [List.getD, List.getElem?_set_ne (Ne.symm hji)]];exact hF e3
theorem OwnV.free {w : World} {base g : Nat} {n cap k : Nat} {zs : List Int} (h : OwnV w base (some ⟨g, 0, none⟩) n cap zs k) (j : Nat) : w.frozen? ⟨g, j, none⟩ = false := by
 obtain ⟨cs, hrow, _⟩ := h.parts;exact World.ownsRow.frozenAt hrow j
theorem OwnV.noLimb {w : World} {base g off : Nat} {n cap k : Nat} {zs : List Int} (h : OwnV w base (some ⟨g, off, none⟩) n cap zs k) : NoLimb w g := h.2.2 g off rfl
theorem OwnV.vf {w : World} {base : Nat} {ao : Option Addr} {n cap k : Nat} {zs : List Int} (h : OwnV w base ao n cap zs k) : VF w ao n cap zs k := h.1
theorem VF.grown {w w' : World} {ao : Option Addr} {n cap k : Nat} {zs : List Int} {row : Option Nat} (h : VF w ao n cap zs k) (hg : w.grownBy w' row) (hn : ∀ g, row = some g → NoLimb w g) (ha : ∀ g off, ao = some ⟨g, off, none⟩ → row ≠ some g) : VF w' ao n cap zs k := by
 refine ⟨h.len_eq, h.cap_le, h.cap_max, h.nil_cap, fun hp => ?_⟩;obtain ⟨g, off, e, hlt, hc⟩ := h.elts hp;refine ⟨g, off, e, Nat.lt_of_lt_of_le hlt hg.size, fun i hi => ?_⟩;obtain ⟨b, a, l, c, h1, h2⟩ := hc i hi;exact ⟨b, a, l, c, h1.of_block hg.size (hg.block g hlt (Ne.symm (ha g off e))), h2.grown hg hn⟩
theorem vec2 {w : World} {b0 b1 : Bool} {a0 a1 : Option Addr} {l0 c0 l1 c1 : Nat} {R : World → Bool → Option Addr → Nat → Nat → Int → Prop} {z0 z1 : Int} {n : Nat} (hn : n = w.heap.size) (h0 : R (w.alloc (.cells #[.bool b0, .slice a0 l0 c0, .bool b1, .slice a1 l1 c1] 45)) b0 a0 l0 c0 z0) (h1 : R (w.alloc (.cells #[.bool b0, .slice a0 l0 c0, .bool b1, .slice a1 l1 c1] 45)) b1 a1 l1 c1 z1) :
  VecOf R (w.alloc (.cells #[.bool b0, .slice a0 l0 c0, .bool b1, .slice a1 l1 c1] 45)) (some ⟨n, 0, none⟩) 2 2 [z0, z1] := by
 subst hn;refine ⟨rfl, Nat.le_refl _, by unfold maxLen; omega, fun e => by simp at e, fun _ => ⟨w.heap.size, 0, rfl, by simp, fun i hi => ?_⟩⟩
 match i with
 | 0 => exact ⟨b0, a0, l0, c0, ⟨by simp, by simp, by simp⟩, h0⟩
 | 1 => exact ⟨b1, a1, l1, c1, ⟨by simp, by simp, by simp⟩, h1⟩
/-
 What ':=' of Ints makes (boxes1 .. boxes5), and small laws of worlds and vectors that many texts use.
-/

theorem below_new (w : World) (o : Obj) : Below w.heap.size w (w.alloc o) := (Below.refl _ _).alloc (Nat.le_refl _) o
theorem below_put {B : Nat} {w w2 : World} (h : Below B w w2) {g : Nat} (hB : B ≤ g) (b' : Bool) (ao' : Option Addr) (len' cap' : Nat) : Below B w (put w2 g b' ao' len' cap') := (h.setCell (by simpa using hB) _).setCell (by simpa using hB) _
theorem boxes1 (w : World) (b0 : Bool) (a0 : Option Addr) (l0 c0 : Nat) {W : World} (hW : W = (w.alloc (.cells #[.bool b0, .slice a0 l0 c0] 45))) : Box W w.heap.size b0 a0 l0 c0 ∧ Below w.heap.size w W := by
 subst hW;exact ⟨(box_new w b0 a0 l0 c0 rfl), ((Below.refl _ _).alloc (Nat.le_refl _) (.cells #[.bool b0, .slice a0 l0 c0] 45))⟩
theorem boxes2 (w : World) (b0 : Bool) (a0 : Option Addr) (l0 c0 : Nat) (b1 : Bool) (a1 : Option Addr) (l1 c1 : Nat) {W : World} (hW : W = ((w.alloc (.cells #[.bool b0, .slice a0 l0 c0] 45)).alloc (.cells #[.bool b1, .slice a1 l1 c1] 45))) : Box W w.heap.size b0 a0 l0 c0 ∧ Box W (w.heap.size + 1) b1 a1 l1 c1 ∧ Below w.heap.size w W := by
 subst hW;exact ⟨((box_new w b0 a0 l0 c0 rfl).alloc (.cells #[.bool b1, .slice a1 l1 c1] 45)), (box_new (w.alloc (.cells #[.bool b0, .slice a0 l0 c0] 45)) b1 a1 l1 c1 (n := (w.heap.size + 1)) (by simp)), (((Below.refl _ _).alloc (Nat.le_refl _) (.cells #[.bool b0, .slice a0 l0 c0] 45)).alloc (by simp <;> omega) (.cells #[.bool b1, .slice a1 l1 c1] 45))⟩
theorem boxes3 (w : World) (b0 : Bool) (a0 : Option Addr) (l0 c0 : Nat) (b1 : Bool) (a1 : Option Addr) (l1 c1 : Nat) (b2 : Bool) (a2 : Option Addr) (l2 c2 : Nat) {W : World} (hW : W = (((w.alloc (.cells #[.bool b0, .slice a0 l0 c0] 45)).alloc (.cells #[.bool b1, .slice a1 l1 c1] 45)).alloc (.cells #[.bool b2, .slice a2 l2 c2] 45))) : Box W w.heap.size b0 a0 l0 c0 ∧ Box W (w.heap.size + 1) b1 a1 l1 c1 ∧ Box W (w.heap.size + 2) b2 a2 l2 c2 ∧ Below w.heap.size w W := by
 subst hW;exact ⟨(((box_new w b0 a0 l0 c0 rfl).alloc (.cells #[.bool b1, .slice a1 l1 c1] 45)).alloc (.cells #[.bool b2, .slice a2 l2 c2] 45)), ((box_new (w.alloc (.cells #[.bool b0, .slice a0 l0 c0] 45)) b1 a1 l1 c1 (n := (w.heap.size + 1)) (by simp)).alloc (.cells #[.bool b2, .slice a2 l2 c2] 45)), (box_new ((w.alloc (.cells #[.bool b0, .slice a0 l0 c0] 45)).alloc (.cells #[.bool b1, .slice a1 l1 c1] 45)) b2 a2 l2 c2 (n := (w.heap.size + 2)) (by simp)), ((((Below.refl _ _).alloc (Nat.le_refl _) (.cells #[.bool b0, .slice a0 l0 c0] 45)).alloc (by simp <;> omega) (.cells #[.bool b1, .slice a1 l1 c1] 45)).alloc (by simp <;> omega) (.cells #[.bool b2, .slice a2 l2 c2] 45))⟩
theorem boxes4 (w : World) (b0 : Bool) (a0 : Option Addr) (l0 c0 : Nat) (b1 : Bool) (a1 : Option Addr) (l1 c1 : Nat) (b2 : Bool) (a2 : Option Addr) (l2 c2 : Nat) (b3 : Bool) (a3 : Option Addr) (l3 c3 : Nat) {W : World} (hW : W = ((((w.alloc (.cells #[.bool b0, .slice a0 l0 c0] 45)).alloc (.cells #[.bool b1, .slice a1 l1 c1] 45)).alloc (.cells #[.bool b2, .slice a2 l2 c2] 45)).alloc (.cells #[.bool b3, .slice a3 l3 c3] 45))) : Box W w.heap.size b0 a0 l0 c0 ∧ Box W (w.heap.size + 1) b1 a1 l1 c1 ∧ Box W (w.heap.size + 2) b2 a2 l2 c2 ∧ Box W (w.heap.size + 3) b3 a3 l3 c3 ∧ Below w.heap.size w W := by
 subst hW;exact ⟨((((box_new w b0 a0 l0 c0 rfl).alloc (.cells #[.bool b1, .slice a1 l1 c1] 45)).alloc (.cells #[.bool b2, .slice a2 l2 c2] 45)).alloc (.cells #[.bool b3, .slice a3 l3 c3] 45)), (((box_new (w.alloc (.cells #[.bool b0, .slice a0 l0 c0] 45)) b1 a1 l1 c1 (n := (w.heap.size + 1)) (by simp)).alloc (.cells #[.bool b2, .slice a2 l2 c2] 45)).alloc (.cells #[.bool b3, .slice a3 l3 c3] 45)), ((box_new ((w.alloc (.cells #[.bool b0, .slice a0 l0 c0] 45)).alloc (.cells #[.bool b1, .slice a1 l1 c1] 45)) b2 a2 l2 c2 (n := (w.heap.size + 2)) (by simp)).alloc (.cells #[.bool b3, .slice a3 l3 c3] 45)), (box_new (((w.alloc (.cells #[.bool b0, .slice a0 l0 c0] 45)).alloc (.cells #[.bool b1, .slice a1 l1 c1] 45)).alloc (.cells #[.bool b2, .slice a2 l2 c2] 45)) b3 a3 l3 c3 (n := (w.heap.size + 3)) (by simp)), (((((Below.refl _ _).alloc (Nat.le_refl _) (.cells #[.bool b0, .slice a0 l0 c0] 45)).alloc (by simp <;> omega) (.cells #[.bool b1, .slice a1 l1 c1] 45)).alloc (by simp <;> omega) (.cells #[.bool b2, .slice a2 l2 c2] 45)).alloc (by simp <;> omega) (.cells #[.bool b3, .slice a3 l3 c3] 45))⟩
theorem boxes5 (w : World) (b0 : Bool) (a0 : Option Addr) (l0 c0 : Nat) (b1 : Bool) (a1 : Option Addr) (l1 c1 : Nat) (b2 : Bool) (a2 : Option Addr) (l2 c2 : Nat) (b3 : Bool) (a3 : Option Addr) (l3 c3 : Nat) (b4 : Bool) (a4 : Option Addr) (l4 c4 : Nat) {W : World} (hW : W = (((((w.alloc (.cells #[.bool b0, .slice a0 l0 c0] 45)).alloc (.cells #[.bool b1, .slice a1 l1 c1] 45)).alloc (.cells #[.bool b2, .slice a2 l2 c2] 45)).alloc (.cells #[.bool b3, .slice a3 l3 c3] 45)).alloc (.cells #[.bool b4, .slice a4 l4 c4] 45))) : Box W w.heap.size b0 a0 l0 c0 ∧ Box W (w.heap.size + 1) b1 a1 l1 c1 ∧ Box W (w.heap.size + 2) b2 a2 l2 c2 ∧ Box W (w.heap.size + 3) b3 a3 l3 c3 ∧ Box W (w.heap.size + 4) b4 a4 l4 c4 ∧ Below w.heap.size w W := by
 subst hW;exact ⟨(((((box_new w b0 a0 l0 c0 rfl).alloc (.cells #[.bool b1, .slice a1 l1 c1] 45)).alloc (.cells #[.bool b2, .slice a2 l2 c2] 45)).alloc (.cells #[.bool b3, .slice a3 l3 c3] 45)).alloc (.cells #[.bool b4, .slice a4 l4 c4] 45)), ((((box_new (w.alloc (.cells #[.bool b0, .slice a0 l0 c0] 45)) b1 a1 l1 c1 (n := (w.heap.size + 1)) (by simp)).alloc (.cells #[.bool b2, .slice a2 l2 c2] 45)).alloc (.cells #[.bool b3, .slice a3 l3 c3] 45)).alloc (.cells #[.bool b4, .slice a4 l4 c4] 45)), (((box_new ((w.alloc (.cells #[.bool b0, .slice a0 l0 c0] 45)).alloc (.cells #[.bool b1, .slice a1 l1 c1] 45)) b2 a2 l2 c2 (n := (w.heap.size + 2)) (by simp)).alloc (.cells #[.bool b3, .slice a3 l3 c3] 45)).alloc (.cells #[.bool b4, .slice a4 l4 c4] 45)), ((box_new (((w.alloc (.cells #[.bool b0, .slice a0 l0 c0] 45)).alloc (.cells #[.bool b1, .slice a1 l1 c1] 45)).alloc (.cells #[.bool b2, .slice a2 l2 c2] 45)) b3 a3 l3 c3 (n := (w.heap.size + 3)) (by simp)).alloc (.cells #[.bool b4, .slice a4 l4 c4] 45)), (box_new ((((w.alloc (.cells #[.bool b0, .slice a0 l0 c0] 45)).alloc (.cells #[.bool b1, .slice a1 l1 c1] 45)).alloc (.cells #[.bool b2, .slice a2 l2 c2] 45)).alloc (.cells #[.bool b3, .slice a3 l3 c3] 45)) b4 a4 l4 c4 (n := (w.heap.size + 4)) (by simp)), ((((((Below.refl _ _).alloc (Nat.le_refl _) (.cells #[.bool b0, .slice a0 l0 c0] 45)).alloc (by simp <;> omega) (.cells #[.bool b1, .slice a1 l1 c1] 45)).alloc (by simp <;> omega) (.cells #[.bool b2, .slice a2 l2 c2] 45)).alloc (by simp <;> omega) (.cells #[.bool b3, .slice a3 l3 c3] 45)).alloc (by simp <;> omega) (.cells #[.bool b4, .slice a4 l4 c4] 45))⟩
theorem IK.up {w : World} {b : Bool} {ao : Option Addr} {len cap k l : Nat} {z : Int} (h : IK w b ao len cap z k) (hl : k ≤ l) : IK w b ao len cap z l := ⟨h.1, h.2.1, Nat.lt_of_lt_of_le h.2.2 (Bp_le hl)⟩
theorem FK.up {w : World} {b : Bool} {ao : Option Addr} {len cap k l : Nat} {z : Int} (h : FK w b ao len cap z k) (hl : k ≤ l) : FK w b ao len cap z l := ⟨h.1, Nat.lt_of_lt_of_le h.2 (Bp_le hl)⟩
theorem grown_set1 (w : World) (g o : Nat) (x : Value) : w.grownBy (w.setCell ⟨g, o, none⟩ x) (some g) := by
 refine ⟨rfl, rfl, rfl, by simp [World.setCell], fun j hj hne => ?_⟩;have hne' : j ≠ g := fun e => hne (by rw [e]);rw [Below.heap_setCell _ _ _ _ (by simpa using hne')]
theorem grown_set2 (w : World) (g o o' : Nat) (x y : Value) : w.grownBy ((w.setCell ⟨g, o, none⟩ x).setCell ⟨g, o', none⟩ y) (some g) := by
 refine ⟨rfl, rfl, rfl, by simp [World.setCell], fun j hj hne => ?_⟩;have hne' : j ≠ g := fun e => hne (by rw [e]);rw [Below.heap_setCell _ _ _ _ (by simpa using hne'), Below.heap_setCell _ _ _ _ (by simpa using hne')]
theorem some_ne {g g' : Nat} (h : g ≠ g') : (some g : Option Nat) ≠ some g' := fun e => h (Option.some.inj e)
theorem noLimb_some {w : World} {g : Nat} (h : NoLimb w g) : ∀ g', some g = some g' → NoLimb w g' := fun _ e => Option.some.inj e ▸ h
theorem OwnV.len {w : World} {base : Nat} {ao : Option Addr} {n cap k : Nat} {zs : List Int} (h : OwnV w base ao n cap zs k) : zs.length = n := h.1.len_eq
theorem own_ge {w : World} {base : Nat} {ao : Option Addr} {n cap k : Nat} {zs : List Int} (h : OwnV w base ao n cap zs k) : ∀ g, (Value.slice ao n cap).ownBlock = some g → base ≤ g := by
 obtain ⟨_, ⟨cs, h2⟩, _⟩ := h;exact fun g e => (h2.lt g e).1
theorem map_of_each {f : Int → Int} {zs ps : List Int} {n : Nat} (h1 : zs.length = n) (h2 : ps.length = n) (h : ∀ j, j < n → ps.getD j 0 = f (zs.getD j 0)) : ps = zs.map f := by
 apply List.ext_getElem (by simp [h1, h2]);intro j hj1 hj2;have := h j (by omega);simp [List.getD, show j < ps.length by omega, show j < zs.length by omega] at this;simpa using this
theorem snoc_each {rs : List Int} {j : Nat} {f : Nat → Int} (hl : rs.length = j) (h : ∀ i, i < j → rs.getD i 0 = f i) : ∀ i, i < j + 1 → (rs ++ [f j]).getD i 0 = f i := by
 intro i hi;by_cases e : i = j
 ·subst e;simp [List.getD, ← hl]
 ·rw [show (rs ++ [f j]).getD i 0 = rs.getD i 0 by simp [List.getD, List.getElem?_append_left (show i < rs.length by omega)]];exact h i (by omega)

end Go.Proofs.YtnpneloahajniaaGreat

/-
 A vector of Ints that came in, opened: each element's sign, and its limbs as a row.
-/
namespace Go.Proofs.YtnpneloahajniaaGreat
open Go.ChangeShapes Go.WideShapes Go.ChangeAt Go.RowKit Go.Joins Lb
set_option maxRecDepth 20000

theorem vecIn_cells {H : Type} {enc : TypeId × Value → H} {W : World} {base : Nat} {held : Bool} {fuel : Nat} {t : TypeId} (ht : Tryz.prog.underlying t = some (.slice 45)) {ao : Option Addr} {len cap : Nat} {y : DataW H × List MemPlace}
  (hf : DataW.trod enc Tryz.prog W base (fun _ => true) held fuel t [.slice ao len cap] = some y) : ∃ zs, VI W ao len cap zs := by
 rcases Deep.open_slice_pairs ht Tryz.underlying45 cellsInt rfl rfl (by kernel_rfl) (by kernel_rfl) hf with ⟨hcs, _⟩ | ⟨⟨b, off, spot⟩, l, c, m, n, V0, V1, D0, D1, P0, P1, hcs, _, hl, hm, hmm, _, hx⟩
 ·simp at hcs;obtain ⟨rfl, rfl, rfl⟩ := hcs;exact ⟨[], rfl, Nat.le_refl _, Nat.zero_le _, fun _ => rfl, fun h => absurd h (by omega)⟩
 ·simp at hcs;obtain ⟨rfl, rfl, rfl⟩ := hcs;have hlm : len ≤ m := by rw [hmm]; simp; exact hl
  by_cases hp0 : len = 0
  ·subst hp0;exact ⟨[], rfl, hl, hm, fun e => by simp at e, fun h => absurd h (by omega)⟩
  obtain rfl : spot = none := by simpa [Addr.add] using World.cell?_spot (hx 0 (by omega)).1
  have each : ∀ i, i < len → ∃ z : Int, b < W.heap.size ∧ ∃ b' a' l' c', EltAt W b (off + i * 2) b' a' l' c' ∧ IntAt W b' a' l' c' z := by
   intro i hi;obtain ⟨e0, e1, t0, t1⟩ := hx i (by omega);obtain ⟨b', eb, _⟩ := DataW.trod_bool Tryz.underlying4 t0;obtain ⟨a', l', c', es⟩ := slice_form Tryz.underlying43 t1;simp at eb es;rw [es] at t1 e1;rw [eb] at e0;obtain ⟨xs, hxs⟩ := intIn_cells t1;rw [Addr.add_lit] at e0 e1;have hlt : b < W.heap.size := by
    rcases Nat.lt_or_ge b W.heap.size with c | c
    ·exact c
    ·simp [World.cell?, Array.getElem?_eq_none c] at e0
   exact ⟨_, hlt, b', a', l', c', ⟨hlt, e0, by rw [← e1]; congr 2⟩, hxs.int b'⟩
  obtain ⟨zf, hz⟩ := Deep.choose_lt each;refine ⟨(List.range len).map zf, by simp, hl, hm, fun e => by simp at e, fun hp => ?_⟩;obtain ⟨hlt, _⟩ := hz 0 hp;refine ⟨b, off, rfl, hlt, fun i hi => ?_⟩;obtain ⟨_, b', a', l', c', h1, h2⟩ := hz i hi;refine ⟨b', a', l', c', h1, ?_⟩;rw [show ((List.range len).map zf).getD i 0 = zf i by simp [List.getD, hi]];exact h2

end Go.Proofs.YtnpneloahajniaaGreat

/-
 Plain mathematics of vectors of whole numbers: places, sums over places, how two compare; a place behind the end is 0.
-/
namespace Go.Proofs.YtnpneloahajniaaGreat
open Go.RowKit Lb
set_option maxRecDepth 20000

theorem getD_out {v : List Int} {i : Nat} (h : v.length ≤ i) : v.getD i 0 = 0 := by simp [List.getD, List.getElem?_eq_none h]
theorem getD_range {n i : Nat} (f : Nat → Int) (h : i < n) : ((List.range n).map f).getD i 0 = f i := by simp [List.getD, h]
def vadd (a b : List Int) : List Int := (List.range (max a.length b.length)).map fun i => a.getD i 0 + b.getD i 0
def vsub (a b : List Int) : List Int := (List.range (max a.length b.length)).map fun i => a.getD i 0 - b.getD i 0
def vtimes (v : List Int) (x : Int) : List Int := v.map fun z => z * x
def vneg (v : List Int) : List Int := v.map fun z => -z
def vcut (v : List Int) (k : Nat) : List Int := (List.range k).map fun i => v.getD i 0
theorem vadd_len (a b : List Int) : (vadd a b).length = max a.length b.length := by simp [vadd]
theorem vsub_len (a b : List Int) : (vsub a b).length = max a.length b.length := by simp [vsub]
theorem vtimes_len (v : List Int) (x : Int) : (vtimes v x).length = v.length := by simp [vtimes]
theorem vneg_len (v : List Int) : (vneg v).length = v.length := by simp [vneg]
theorem vcut_len (v : List Int) (k : Nat) : (vcut v k).length = k := by simp [vcut]
theorem vadd_at (a b : List Int) (i : Nat) : (vadd a b).getD i 0 = a.getD i 0 + b.getD i 0 := by
 by_cases h : i < max a.length b.length
 ·exact getD_range _ h
 ·rw [getD_out (by rw [vadd_len]; omega), getD_out (v := a) (by omega), getD_out (v := b) (by omega)]; rfl
theorem vsub_at (a b : List Int) (i : Nat) : (vsub a b).getD i 0 = a.getD i 0 - b.getD i 0 := by
 by_cases h : i < max a.length b.length
 ·exact getD_range _ h
 ·rw [getD_out (by rw [vsub_len]; omega), getD_out (v := a) (by omega), getD_out (v := b) (by omega)]; rfl
theorem map_at (v : List Int) (f : Int → Int) (h0 : f 0 = 0) (i : Nat) : (v.map f).getD i 0 = f (v.getD i 0) := by
 by_cases h : i < v.length
 ·simp [List.getD, h]
 ·rw [getD_out (by simp; omega), getD_out (v := v) (by omega), h0]
theorem vtimes_at (v : List Int) (x : Int) (i : Nat) : (vtimes v x).getD i 0 = v.getD i 0 * x := map_at v (fun z => z * x) (by simp) i
theorem vneg_at (v : List Int) (i : Nat) : (vneg v).getD i 0 = -v.getD i 0 := map_at v (fun z => -z) (by simp) i
theorem vcut_at (v : List Int) (k i : Nat) : (vcut v k).getD i 0 = if i < k then v.getD i 0 else 0 := by
 by_cases h : i < k
 ·rw [if_pos h]; exact getD_range _ h
 ·rw [if_neg h]; exact getD_out (by rw [vcut_len]; omega)
theorem vec_ext {a b : List Int} (hl : a.length = b.length) (h : ∀ i, i < a.length → a.getD i 0 = b.getD i 0) : a = b := by
 apply List.ext_getElem hl;intro i h1 h2;have := h i h1;simpa [List.getD, h1, h2] using this
theorem vneg_times (v : List Int) : vneg v = vtimes v (-1) := List.map_congr_left fun z _ => by omega
theorem vsub_neg (a b : List Int) : vsub a b = vadd a (vneg b) :=
 vec_ext (by rw [vsub_len, vadd_len, vneg_len]) fun i _ => by rw [vsub_at, vadd_at, vneg_at]; omega

def sumN : Nat → (Nat → Int) → Int
 | 0, _ => 0
 | n + 1, f => sumN n f + f n
theorem sumN_congr {n : Nat} {f g : Nat → Int} (h : ∀ i, i < n → f i = g i) : sumN n f = sumN n g := by
 induction n with
 | zero => rfl
 | succ n ih => rw [sumN, sumN, ih (fun i hi => h i (by omega)), h n (by omega)]
theorem sumN_more {n : Nat} {f : Nat → Int} (h : ∀ i, n ≤ i → f i = 0) (k : Nat) : sumN (n + k) f = sumN n f := by
 induction k with
 | zero => rfl
 | succ k ih => rw [← Nat.add_assoc, sumN, ih, h _ (by omega)]; omega
theorem sumN_upto {n m : Nat} {f : Nat → Int} (h : ∀ i, n ≤ i → f i = 0) (hm : n ≤ m) : sumN m f = sumN n f := by
 obtain ⟨k, rfl⟩ := Nat.le.dest hm;exact sumN_more h k
theorem sumN_add (n : Nat) (f g : Nat → Int) : sumN n (fun i => f i + g i) = sumN n f + sumN n g := by
 induction n with
 | zero => rfl
 | succ n ih => rw [sumN, sumN, sumN, ih]; omega
theorem sumN_mul (n : Nat) (f : Nat → Int) (x : Int) : sumN n (fun i => x * f i) = x * sumN n f := by
 induction n with
 | zero => simp [sumN]
 | succ n ih => rw [sumN, sumN, ih, Int.mul_add]
theorem sumN_nonneg {n : Nat} {f : Nat → Int} (h : ∀ i, 0 ≤ f i) : 0 ≤ sumN n f := by
 induction n with
 | zero => exact Int.le_refl _
 | succ n ih => rw [sumN]; have := h n; omega
theorem sumN_zero {n : Nat} {f : Nat → Int} (h : ∀ i, 0 ≤ f i) : sumN n f = 0 ↔ ∀ i, i < n → f i = 0 := by
 induction n with
 | zero => exact ⟨fun _ i hi => absurd hi (by omega), fun _ => rfl⟩
 | succ n ih =>
  have h1 := sumN_nonneg (n := n) h;have h2 := h n;rw [sumN]
  constructor
  ·intro e i hi;by_cases hin : i = n
   ·subst hin; omega
   ·exact (ih.1 (by omega)) i (by omega)
  ·intro hall;rw [ih.2 (fun i hi => hall i (by omega)), hall n (by omega)]; rfl

def vdot (a b : List Int) : Int := sumN a.length fun i => a.getD i 0 * b.getD i 0
theorem vdot_upto {a b : List Int} {n : Nat} (h : a.length ≤ n) : (sumN n fun i => a.getD i 0 * b.getD i 0) = vdot a b :=
 sumN_upto (fun i hi => by rw [getD_out hi, Int.zero_mul]) h
theorem vdot_comm (a b : List Int) : vdot a b = vdot b a := by
 rw [← vdot_upto (n := max a.length b.length) (by omega), ← vdot_upto (a := b) (n := max a.length b.length) (by omega)];exact sumN_congr fun i _ => Int.mul_comm _ _
def IsCmp (a b : List Int) (c : Int) : Prop := (c = 0 ∧ ∀ i, a.getD i 0 = b.getD i 0) ∨ ∃ k, (∀ i, i < k → a.getD i 0 = b.getD i 0) ∧ a.getD k 0 ≠ b.getD k 0 ∧ c = (a.getD k 0 - b.getD k 0).sign
theorem sgn_cases {x : Int} (h : x ≠ 0) : (0 < x ∧ x.sign = 1) ∨ (x < 0 ∧ x.sign = -1) := by
 rcases Int.lt_trichotomy x 0 with e | e | e
 ·exact Or.inr ⟨e, Int.sign_eq_neg_one_of_neg e⟩
 ·exact absurd e h
 ·exact Or.inl ⟨e, Int.sign_eq_one_of_pos e⟩
end Go.Proofs.YtnpneloahajniaaGreat

/-
 What a slice of ints reads as in a world; one that came in, opened.
-/
namespace Go.Proofs.YtnpneloahajniaaGreat
open Go.ChangeShapes Go.WideShapes Go.ChangeAt Go.RowKit Go.Joins Lb
set_option maxRecDepth 20000

structure IRowAt (w : World) (ao : Option Addr) (len cap : Nat) (zs : List Int) : Prop where
 len_eq : zs.length = len
 cap_le : len ≤ cap
 cap_max : cap ≤ maxLen
 nil_cap : ao = none → cap = 0
 small : ∀ i, -9223372036854775808 ≤ zs.getD i 0 ∧ zs.getD i 0 ≤ 9223372036854775807
 cells : 0 < len → ∃ b off, ao = some ⟨b, off, none⟩ ∧ b < w.heap.size ∧ ∀ i, i < len → w.cell? ⟨b, off + i, none⟩ = some (.int .i64 (zs.getD i 0))
theorem IRowAt.za {w w' : World} {ao : Option Addr} {len cap : Nat} {zs : List Int} (h : IRowAt w ao len cap zs) (hb : Below w.heap.size w w') : IRowAt w' ao len cap zs := by
 refine ⟨h.len_eq, h.cap_le, h.cap_max, h.nil_cap, h.small, fun hp => ?_⟩;obtain ⟨b, off, e, hlt, hc⟩ := h.cells hp;exact ⟨b, off, e, Nat.lt_of_lt_of_le hlt hb.size, fun i hi => (hb.cell (p := ⟨b, off + i, none⟩) hlt).trans (hc i hi)⟩
theorem IRowAt.addr {w : World} {ao : Option Addr} {len cap : Nat} {zs : List Int} (h : IRowAt w ao len cap zs) (hp : 0 < len) : ∃ b off, ao = some ⟨b, off, none⟩ := by
 obtain ⟨b, off, e, _⟩ := h.cells hp;exact ⟨b, off, e⟩
theorem IRowAt.at {w : World} {b off len cap : Nat} {zs : List Int} (h : IRowAt w (some ⟨b, off, none⟩) len cap zs) {i : Nat} (hi : i < len) : b < w.heap.size ∧ w.cell? ⟨b, off + i, none⟩ = some (.int .i64 (zs.getD i 0)) := by
 obtain ⟨b', off', e, hlt, hc⟩ := h.cells (by omega);simp only [Option.some.injEq, Addr.mk.injEq, and_true] at e;obtain ⟨rfl, rfl⟩ := e;exact ⟨hlt, hc i hi⟩
/-
 What a slice of vectors reads as in a world ('RowsOf': each row meets R); vectors handed on one behind the other; one that came in, opened.
-/

structure RowsOf (R : World → Option Addr → Nat → Nat → List Int → Prop) (w : World) (ao : Option Addr) (n cap : Nat) (rs : List (List Int)) : Prop where
 len_eq : rs.length = n
 cap_le : n ≤ cap
 cap_max : cap ≤ maxLen
 nil_cap : ao = none → cap = 0
 elts : 0 < n → ∃ g off, ao = some ⟨g, off, none⟩ ∧ g < w.heap.size ∧ ∀ i, i < n → ∃ a l c, w.cell? ⟨g, off + i, none⟩ = some (.slice a l c) ∧ R w a l c (rs.getD i [])
def MI (w : World) (ao : Option Addr) (n cap : Nat) (rs : List (List Int)) : Prop := RowsOf VI w ao n cap rs
def MK (w : World) (ao : Option Addr) (n cap : Nat) (rs : List (List Int)) (k : Nat) : Prop := RowsOf (fun w a l c zs => VK w a l c zs k) w ao n cap rs
def MF (w : World) (ao : Option Addr) (n cap : Nat) (rs : List (List Int)) (k : Nat) : Prop := RowsOf (fun w a l c zs => VF w a l c zs k) w ao n cap rs
theorem RowsOf.za {R : World → Option Addr → Nat → Nat → List Int → Prop} (hR : ∀ {w w' : World} {a l c zs}, R w a l c zs → Below w.heap.size w w' → R w' a l c zs) {w w' : World} {ao : Option Addr} {n cap : Nat} {rs : List (List Int)} (h : RowsOf R w ao n cap rs) (hb : Below w.heap.size w w') : RowsOf R w' ao n cap rs := by
 refine ⟨h.len_eq, h.cap_le, h.cap_max, h.nil_cap, fun hp => ?_⟩;obtain ⟨g, off, e, hg, hc⟩ := h.elts hp;refine ⟨g, off, e, Nat.lt_of_lt_of_le hg hb.size, fun i hi => ?_⟩;obtain ⟨a, l, c, h1, h2⟩ := hc i hi;exact ⟨a, l, c, (hb.cell (p := ⟨g, off + i, none⟩) hg).trans h1, hR h2 hb⟩
theorem MI.za {w w' : World} {ao : Option Addr} {n cap : Nat} {rs : List (List Int)} (h : MI w ao n cap rs) (hb : Below w.heap.size w w') : MI w' ao n cap rs := RowsOf.za (R := VI) (fun h hb => VI.za h hb) h hb
theorem MK.za {w w' : World} {ao : Option Addr} {n cap k : Nat} {rs : List (List Int)} (h : MK w ao n cap rs k) (hb : Below w.heap.size w w') : MK w' ao n cap rs k := RowsOf.za (R := fun w a l c zs => VK w a l c zs k) (fun h hb => VK.za h hb) h hb
theorem MF.za {w w' : World} {ao : Option Addr} {n cap k : Nat} {rs : List (List Int)} (h : MF w ao n cap rs k) (hb : Below w.heap.size w w') : MF w' ao n cap rs k := RowsOf.za (R := fun w a l c zs => VF w a l c zs k) (fun h hb => VF.za h hb) h hb
theorem RowsOf.addr {R : World → Option Addr → Nat → Nat → List Int → Prop} {w : World} {ao : Option Addr} {n cap : Nat} {rs : List (List Int)} (h : RowsOf R w ao n cap rs) (hp : 0 < n) : ∃ g off, ao = some ⟨g, off, none⟩ := by
 obtain ⟨g, off, e, _⟩ := h.elts hp;exact ⟨g, off, e⟩
theorem RowsOf.at {R : World → Option Addr → Nat → Nat → List Int → Prop} {w : World} {g off n cap : Nat} {rs : List (List Int)} (h : RowsOf R w (some ⟨g, off, none⟩) n cap rs) {i : Nat} (hi : i < n) : g < w.heap.size ∧ ∃ a l c, w.cell? ⟨g, off + i, none⟩ = some (.slice a l c) ∧ R w a l c (rs.getD i []) := by
 obtain ⟨g', off', e, hg, hc⟩ := h.elts (by omega);simp only [Option.some.injEq, Addr.mk.injEq, and_true] at e;obtain ⟨rfl, rfl⟩ := e;exact ⟨hg, hc i hi⟩
theorem rowsOf_new {R : World → Option Addr → Nat → Nat → List Int → Prop} {w : World} {vs : List (Option Addr × Nat × Nat)} {rs : List (List Int)} {n m : Nat} (hm : m = vs.length) (hn : n = w.heap.size) (hl : rs.length = vs.length) (hs : vs.length ≤ 1000)
  (h : ∀ i a l c, vs[i]? = some (a, l, c) → R (w.alloc (.cells (vs.map fun v => Value.slice v.1 v.2.1 v.2.2).toArray 39)) a l c (rs.getD i [])) :
  RowsOf R (w.alloc (.cells (vs.map fun v => Value.slice v.1 v.2.1 v.2.2).toArray 39)) (some ⟨n, 0, none⟩) m m rs := by
 subst hn hm;refine ⟨hl, Nat.le_refl _, by unfold maxLen; omega, fun e => by simp at e, fun _ => ⟨w.heap.size, 0, rfl, by simp, fun i hi => ?_⟩⟩;obtain ⟨v, hv⟩ : ∃ v, vs[i]? = some v := ⟨vs[i], List.getElem?_eq_getElem hi⟩;obtain ⟨a, l, c⟩ := v;refine ⟨a, l, c, ?_, h i a l c hv⟩;rw [Nat.zero_add];simp [hv]

theorem matIn_cells {H : Type} {enc : TypeId × Value → H} {W : World} {base : Nat} {held : Bool} {fuel : Nat} {t e : TypeId} (ht : Tryz.prog.underlying t = some (.slice e)) (he : Tryz.prog.underlying e = some (.slice 45)) (hc : Tryz.prog.cellsOf e = 1) {ao : Option Addr} {len cap : Nat} {y : DataW H × List MemPlace}
  (hf : DataW.trod enc Tryz.prog W base (fun _ => true) held fuel t [.slice ao len cap] = some y) : ∃ rs, MI W ao len cap rs := by
 rcases Deep.open_slice1 ht hc hf with ⟨hcs, _⟩ | ⟨⟨b, off, spot⟩, l, c, m, n, V, D, P, hcs, _, hl, hm, hmm, _, hx⟩
 ·simp at hcs;obtain ⟨rfl, rfl, rfl⟩ := hcs;exact ⟨[], rfl, Nat.le_refl _, Nat.zero_le _, fun _ => rfl, fun h => absurd h (by omega)⟩
 ·simp at hcs;obtain ⟨rfl, rfl, rfl⟩ := hcs;have hlm : len ≤ m := by rw [hmm]; simp; exact hl
  by_cases hp0 : len = 0
  ·subst hp0;exact ⟨[], rfl, hl, hm, fun e => by simp at e, fun h => absurd h (by omega)⟩
  obtain rfl : spot = none := by simpa [Addr.add] using World.cell?_spot (hx 0 (by omega)).1
  have each : ∀ i, i < len → ∃ zs : List Int, b < W.heap.size ∧ ∃ a' l' c', W.cell? ⟨b, off + i, none⟩ = some (.slice a' l' c') ∧ VI W a' l' c' zs := by
   intro i hi;obtain ⟨e0, t0⟩ := hx i (by omega);obtain ⟨a', l', c', es⟩ := slice_form he t0;simp at es;rw [es] at t0 e0;obtain ⟨zs, hzs⟩ := vecIn_cells he t0;rw [Addr.add_lit] at e0;have hlt : b < W.heap.size := by
    rcases Nat.lt_or_ge b W.heap.size with c | c
    ·exact c
    ·simp [World.cell?, Array.getElem?_eq_none c] at e0
   exact ⟨_, hlt, a', l', c', e0, hzs⟩
  obtain ⟨zf, hz⟩ := Deep.choose_lt each;refine ⟨(List.range len).map zf, by simp, hl, hm, fun e => by simp at e, fun hp => ?_⟩;obtain ⟨hlt, _⟩ := hz 0 hp;refine ⟨b, off, rfl, hlt, fun i hi => ?_⟩;obtain ⟨_, a', l', c', h1, h2⟩ := hz i hi;refine ⟨a', l', c', h1, ?_⟩;rw [show ((List.range len).map zf).getD i [] = zf i by simp [List.getD, hi]];exact h2
set_option maxRecDepth 100000 in
theorem matIn_of {H : Type} {enc : TypeId × Value → H} {W : World} {r : Reach} {b0 base : Nat} {held : Bool} {t e : TypeId} (ht : Tryz.prog.underlying t = some (.slice e)) (he : Tryz.prog.underlying e = some (.slice 45)) (hc : Tryz.prog.cellsOf e = 1) {v : Value} {d : DataW H} {p : List MemPlace}
  (hv : Value.okWide Tryz.prog W r b0 t v) (h : DataW.Trod enc Tryz.prog W base (fun _ => true) held t v d p) :
  ∃ ao len cap rs, v = .slice ao len cap ∧ MI W ao len cap rs := by
 obtain ⟨a, l, c, rfl⟩ := okWide_slice ht hv;obtain ⟨fuel, hf⟩ := h;obtain ⟨zs, hz⟩ := matIn_cells ht he hc (by simpa [Value.cells] using hf);exact ⟨a, l, c, zs, rfl, hz⟩

end Go.Proofs.YtnpneloahajniaaGreat

/-
 A row of whatever elements that the call itself made, every cell of whose block meets p (also behind the row's end): what append, append of noughts, make and a store do to it.
-/
namespace Go.Proofs.YtnpneloahajniaaGreat
open Go.RowKit Lb
set_option maxRecDepth 20000

def AllP (p : Value → Prop) (w : World) (v : Value) : Prop := ∀ g, v.ownBlock = some g → ∀ j u, w.cell? ⟨g, j, none⟩ = some u → p u
structure OwnP (p : Value → Prop) (w : World) (base : Nat) (e : TypeId) (size : Nat) (v : Value) (n : Nat) (cs : List Value) : Prop where
 own : w.ownsRow base e size v n cs
 all : AllP p w v
theorem ownP_nil (p : Value → Prop) (w : World) (base : Nat) (e : TypeId) (size : Nat) : OwnP p w base e size (.slice none 0 0) 0 [] := ⟨World.ownsRow_nil w base e size, fun g h => by simp [Value.ownBlock] at h⟩
theorem OwnP.za {p : Value → Prop} {w w' : World} {base : Nat} {e : TypeId} {size : Nat} {v : Value} {n : Nat} {cs : List Value} (h : OwnP p w base e size v n cs) (hb : Below w.heap.size w w') : OwnP p w' base e size v n cs := by
 refine ⟨⟨h.own.1, ?_⟩, fun g hg j u hc => ?_⟩
 ·rcases h.own.2 with h' | ⟨g, cap, cur, hv, hg, hh, r⟩
  ·exact Or.inl h'
  ·exact Or.inr ⟨g, cap, cur, hv, hg, by rw [hb.block g (lt_of_block hh)]; exact hh, r⟩
 ·rw [hb.cell (p := ⟨g, j, none⟩) (h.own.lt g hg).2] at hc;exact h.all g hg j u hc
theorem OwnP.grown {p : Value → Prop} {w w' : World} {row : Option Nat} {base : Nat} {e : TypeId} {size : Nat} {v : Value} {n : Nat} {cs : List Value} (h : OwnP p w base e size v n cs) (hg : w.grownBy w' row) (hne : v.ownBlock = none ∨ v.ownBlock ≠ row) : OwnP p w' base e size v n cs := by
 refine ⟨h.own.kept hg hne, fun g hgv j u hc => ?_⟩;have hlt := (h.own.lt g hgv).2;have hr : some g ≠ row := by
  rcases hne with h' | h'
  ·rw [hgv] at h'; simp at h'
  ·rw [hgv] at h'; exact h'
 rw [World.cell?_of_block (a := ⟨g, j, none⟩) (hg.block g hlt hr)] at hc;exact h.all g hgv j u hc
theorem OwnP.form {p : Value → Prop} {w : World} {base : Nat} {e : TypeId} {size : Nat} {v : Value} {n : Nat} {cs : List Value} (h : OwnP p w base e size v n cs) : (v = .slice none 0 0 ∧ n = 0) ∨ ∃ g cap, v = .slice (some ⟨g, 0, none⟩) n cap ∧ base ≤ g ∧ g < w.heap.size ∧ n ≤ cap ∧ cap ≤ maxLen := by
 rcases h.own.2 with h' | ⟨g, cap, cur, hv, hg, hh, h1, h2, _⟩
 ·exact Or.inl h'
 ·exact Or.inr ⟨g, cap, hv, hg, lt_of_block hh, h1, h2⟩
theorem OwnP.len {p : Value → Prop} {w : World} {base : Nat} {e : TypeId} {size : Nat} {v : Value} {n : Nat} {cs : List Value} (h : OwnP p w base e size v n cs) : cs.length = n * size := h.own.1
theorem OwnP.cell {p : Value → Prop} {w : World} {base : Nat} {e : TypeId} {size g n cap : Nat} {cs : List Value} (h : OwnP p w base e size (.slice (some ⟨g, 0, none⟩) n cap) n cs) {j : Nat} (hj : j < n * size) : w.cell? ⟨g, j, none⟩ = cs[j]? := h.own.cellAt j hj
theorem OwnP.free {p : Value → Prop} {w : World} {base : Nat} {e : TypeId} {size g n cap : Nat} {cs : List Value} (h : OwnP p w base e size (.slice (some ⟨g, 0, none⟩) n cap) n cs) (j : Nat) : w.frozen? ⟨g, j, none⟩ = false := h.own.frozenAt j
theorem zeroCells_in {z : Array Value} {q : Nat} {u : Value} (h : u ∈ Builtin.zeroCells z q) : u ∈ z := by
 obtain ⟨j, hj⟩ := Array.mem_iff_getElem?.1 h;unfold Builtin.zeroCells at hj;simp only [Array.getElem?_map, Array.getElem?_range] at hj
 split at hj
 ·rename_i hlt
  have hp : 0 < z.size := by
   rcases Nat.eq_zero_or_pos z.size with h0 | h0
   ·rw [h0] at hlt; omega
   ·exact h0
  simp only [Option.map_some, Option.some.injEq] at hj;rw [getElem!_pos z (j % z.size) (Nat.mod_lt _ hp)] at hj;rw [← hj];exact Array.getElem_mem _
 ·simp at hj
theorem madeCells_in {z : Array Value} {q : Nat} {u : Value} (h : u ∈ madeCells z q) (hp : 0 < z.size) : u ∈ z := by
 obtain ⟨j, hj⟩ := Array.mem_iff_getElem?.1 h;unfold madeCells at hj;simp only [Array.getElem?_map, Array.getElem?_range] at hj
 split at hj
 ·simp only [Option.map_some, Option.some.injEq] at hj;rw [getElem!_pos z (j % z.size) (Nat.mod_lt _ hp)] at hj;rw [← hj];exact Array.getElem_mem _
 ·simp at hj
theorem all_new {p : Value → Prop} {w : World} {C : Array Value} {e : TypeId} (h : ∀ u ∈ C, p u) : ∀ j u, (w.drew.alloc (.cells C e)).cell? ⟨w.heap.size, j, none⟩ = some u → p u := by
 intro j u hc;have hh : (w.drew.alloc (.cells C e)).heap[w.heap.size]? = some (.cells C e) := heap_alloc_new w.drew _;rw [Joins.cell_of_block hh j] at hc;exact h u (Array.mem_of_getElem? hc)
theorem all_row {p : Value → Prop} {w : World} {g : Nat} {cur : Array Value} {e : TypeId} {l : List Value} (hg : w.heap[g]? = some (.cells cur e (0, 0))) (h : ∀ u ∈ l, p u) : ∀ j u, (w.setRow g l.toArray).cell? ⟨g, j, none⟩ = some u → p u := by
 intro j u hc;rw [Joins.cell_of_block (setRow_heap w g cur _ _ _ hg) j] at hc;exact h u (by simpa using Array.mem_of_getElem? hc)
theorem cur_all {p : Value → Prop} {w : World} {g n cap : Nat} {cur : Array Value} {e : TypeId} (hg : w.heap[g]? = some (.cells cur e (0, 0))) (h : AllP p w (.slice (some ⟨g, 0, none⟩) n cap)) : ∀ u ∈ cur.toList, p u := by
 intro u hu;obtain ⟨j, hj⟩ := List.mem_iff_getElem?.1 hu;refine h g rfl j u ?_;rw [Joins.cell_of_block hg j, ← Array.getElem?_toList, hj]

set_option maxHeartbeats 1000000 in
theorem run_append_P {p : Value → Prop} (w : World) (base : Nat) (t ty e : TypeId) (i : TypeInfo) (z : Value) (size bytes : Nat) (ht : Tryz.prog.underlying t = some (.slice e)) (hi : Tryz.prog.info? e = some i) (hz : i.zero = some z)
  (hsize : i.size = size) (hby : i.bytes = bytes) (hzs : z.cells.size = size) (hsz : 0 < size) (hpz : ∀ u ∈ z.cells, p u)
  (v : Value) (n : Nat) (cs : List Value) (hown : OwnP p w base e size v n cs) (a : Addr) (m c : Nat) (news : List Value) (hl : news.length = m * size) (hnews : ∀ j u, news[j]? = some u → w.cell? (a.add j) = some u) (h1 : ∀ u ∈ news, u.oneCell' = true) (hpn : ∀ u ∈ news, p u)
  (h63 : n + m ≤ maxLen) (hbytes : (n + m) * bytes ≤ 140737488355328) (hbase : base ≤ w.heap.size) :
  ∃ v' w', (Builtin.append_ #[t, t] ty #[v, .slice (some a) m c]).run Tryz.prog w = .ok v' w' ∧ OwnP p w' base e size v' (n + m) (cs ++ news) ∧ w.grownBy w' v.ownBlock ∧ (v'.ownBlock = v.ownBlock ∨ v'.ownBlock = some w.heap.size) := by
 obtain ⟨v', w', hrun, hrow', hgr, hnil, hat⟩ := run_append_own_at (P := Tryz.prog) w base t ty e i z size bytes ht hi hz hsize hby hzs hsz v n cs hown.own a m c news hl hnews h1 h63 hbytes hbase;refine ⟨v', w', hrun, ⟨hrow', ?_⟩, hgr, hat⟩;have hcs : ∀ u ∈ cs, p u := by
  intro u hu;obtain ⟨j, hj⟩ := List.mem_iff_getElem?.1 hu;rcases hown.own.2 with ⟨_, h0⟩ | ⟨g0, cap0, cur, hv0, _⟩
  ·have := hown.own.1;rw [h0, Nat.zero_mul] at this;rw [List.eq_nil_of_length_eq_zero this] at hu;simp at hu
  ·have := hown.own.cells (g := g0) (by rw [hv0]; rfl) j u hj;rw [Addr.add_lit, Nat.zero_add] at this;exact hown.all g0 (by rw [hv0]; rfl) j u this
 have h64 : n + m ≤ 9223372036854775807 := by unfold maxLen at h63; omega
 rcases hown.own.2 with ⟨rfl, rfl⟩ | ⟨g0, cap0, cur, rfl, hbg, hg0, hnc, hcm, hcu, htake⟩
 ·by_cases hm : m = 0
  ·rw [hnil.2 ⟨rfl, hm⟩];exact fun g hg => by simp [Value.ownBlock] at hg
  have hr := run_append_nil (P := Tryz.prog) w t ty e i z ht hi hz a m c news (by rw [hsize]; exact hl) hnews (by omega) (by omega) (by rw [hby]; rw [Nat.zero_add] at hbytes; omega);rw [hr] at hrun;injection hrun with e1 e2
  subst e1 e2;intro g hg;simp only [Value.ownBlock, Option.some.injEq] at hg;subst hg;refine all_new fun u hu => ?_;rcases Array.mem_append.1 hu with h | h
  ·exact hpn u (by simpa using h)
  ·exact hpz u (zeroCells_in h)
 ·by_cases hroom : n + m ≤ cap0
  ·have hr := run_append_room (P := Tryz.prog) w t ty e i ht hi g0 n cap0 cur hg0 a m c news (by rw [hsize]; exact hl) hnews h1 hroom (by rw [hsize, hl, hcu, ← Nat.add_mul]; exact Nat.mul_le_mul_right _ hroom);rw [hr] at hrun;injection hrun with e1 e2
   subst e1 e2;intro g hg;simp only [Value.ownBlock, Option.some.injEq] at hg;subst hg;refine all_row hg0 fun u hu => ?_;rw [List.mem_append, List.mem_append] at hu;rcases hu with (h | h) | h
   ·exact cur_all hg0 hown.all u (List.mem_of_mem_take h)
   ·exact hpn u h
   ·exact cur_all hg0 hown.all u (List.mem_of_mem_drop h)
  ·have hr := run_append_grow (P := Tryz.prog) w t ty e i z ht hi hz ⟨g0, 0, none⟩ n cap0 cs (by rw [hsize]; exact hown.own.1) (hown.own.cells (g := g0) rfl) a m c news (by rw [hsize]; exact hl) hnews (by omega) (by omega) (growslice_fits (by omega) (by rw [hby]; exact hbytes));rw [hr] at hrun;injection hrun with e1 e2
   subst e1 e2;intro g hg;simp only [Value.ownBlock, Option.some.injEq] at hg;subst hg;refine all_new fun u hu => ?_;rw [Array.mem_append, Array.mem_append] at hu;rcases hu with (h | h) | h
   ·exact hcs u (by simpa using h)
   ·exact hpn u (by simpa using h)
   ·exact hpz u (zeroCells_in h)

theorem make_P {p : Value → Prop} {w : World} {ops : Array Oper} {rest : List Oper} {o : Oper} {a : Act} {Q : Exit → Act → World → Prop} (hg : o.guard = none) (l c : Operand) (t e : TypeId) (i : TypeInfo) (z : Value) (size bytes : Nat) (ht : Tryz.prog.underlying t = some (.slice e)) (hi : Tryz.prog.info? e = some i) (hz : i.zero = some z)
  (hsize : i.size = size) (hby : i.bytes = bytes) (hzs : z.cells.size = size) (hsz : 0 < size) (hpz : ∀ u ∈ z.cells, p u) (hop : o.op = Op.makeSlice t l c)
  (base : Nat) (kl kc : IntKind) (L C : Int) (n : Nat) (hl : a.eval l = .int kl L) (hc : a.eval c = .int kc C) (hL : L = (n : Int)) (hC : C = (n : Int)) (hn : n ≤ 1000000) (hb2 : bytes ≤ 1000) (hbase : base ≤ w.heap.size)
  (hK : ∀ w', OwnP p w' base e size (.slice (some ⟨w.heap.size, 0, none⟩) n n) n (madeCells z.cells (n * size)).toList → w.grownBy w' none → wpList Tryz.prog ops Q rest (a.put o.dst (.slice (some ⟨w.heap.size, 0, none⟩) n n)) w') :
  wpList Tryz.prog ops Q (o :: rest) a w := by
 refine wpList_make_full w hg l c _ hop base e i z size ht hi hz hsize kl kc L C n hl hc hL hC (by rw [hby]; have := Nat.mul_le_mul hb2 hn; omega) (by unfold maxLen; omega) hbase ?_;intro w' h1 h2;refine hK w' ⟨h1, fun g hg' j u hu => ?_⟩ h2;simp only [Value.ownBlock, Option.some.injEq] at hg';subst hg';rcases h1.2 with ⟨h, _⟩ | ⟨g, cap, cur, h, _, hh, hnc, _, hs, htake⟩
 ·simp at h
 ·simp only [Value.slice.injEq, Option.some.injEq, Addr.mk.injEq, and_true, true_and] at h;obtain ⟨rfl, rfl⟩ := h;rw [Joins.cell_of_block hh j, ← Array.getElem?_toList] at hu;rw [List.take_of_length_le (by rw [Array.length_toList, hs]; exact Nat.le_refl _)] at htake;rw [htake] at hu;exact hpz u (madeCells_in (Array.mem_toList_iff.1 (List.mem_of_getElem? hu)) (by rw [hzs]; exact hsz))
theorem OwnP.set {p : Value → Prop} {w : World} {base : Nat} {e : TypeId} {size g n cap : Nat} {cs : List Value} (h : OwnP p w base e size (.slice (some ⟨g, 0, none⟩) n cap) n cs) (j : Nat) {u : Value} (hu : p u) : OwnP p (w.setCell ⟨g, j, none⟩ u) base e size (.slice (some ⟨g, 0, none⟩) n cap) n (cs.set j u) := by
 refine ⟨(World.ownsRow.stored h.own j u).1, fun g' hg' j' u' hc => ?_⟩;simp only [Value.ownBlock, Option.some.injEq] at hg';subst hg';rcases h.own.2 with ⟨h', _⟩ | ⟨g', cap', cur, h', _, hh, _⟩
 ·simp at h'
 ·simp only [Value.slice.injEq, Option.some.injEq, Addr.mk.injEq, and_true, true_and] at h';obtain ⟨rfl, rfl⟩ := h';rw [Joins.cell_of_block (Joins.block_setCell hh _) j', Array.getElem?_setIfInBounds] at hc
  split at hc
  ·split at hc
   ·simp only [Option.some.injEq] at hc; rw [← hc]; exact hu
   ·simp at hc
  ·exact h.all g rfl j' u' (by rw [Joins.cell_of_block hh j']; exact hc)

def Steady (R : World → Bool → Option Addr → Nat → Nat → Int → Prop) : Prop := ∀ {w w' : World} {row : Option Nat} {b a l c z}, R w b a l c z → w.grownBy w' row → (∀ g, row = some g → NoLimb w g) → R w' b a l c z
theorem pick_lt {α : Type} [Inhabited α] {n : Nat} {P : Nat → α → Prop} (h : ∀ i, i < n → ∃ x, P i x) : ∃ f : Nat → α, ∀ i, i < n → P i (f i) := Deep.choose_lt h
end Go.Proofs.YtnpneloahajniaaGreat
