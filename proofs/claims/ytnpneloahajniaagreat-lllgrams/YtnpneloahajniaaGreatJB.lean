/-
 What long.cut does: it tells the row without the noughts at its end.
-/
import Derived.Test.YtnpneloahajniaaGreatJA
import Derived.BigQuiet
import Derived.Deep.QuietTactic
import Derived.Maps.AppendAt
import Derived.Deep.RegionWith
namespace Go.Proofs.YtnpneloahajniaaGreat
open Go.RowKit Lb

set_option maxHeartbeats 400000 in
theorem lcut_same (ao : Option Addr) (len cap : Nat) (xs : List Nat) (w : World) (h : RowAt w ao len cap xs) :
  Calls Tryz.prog 94 #[.slice ao len cap] w fun e w' => (∃ ao' len' cap', e = .returned (.slice ao' len' cap') ∧ NumAt w ao' len' cap' (val xs) ∧ len' ≤ len ∧ (0 < len' → ao' = ao)) ∧ w = w' := by
 have hcm := h.cap_max;have hcl := h.cap_le;have hl := h.len_eq;unfold maxLen at hcm;go_enter Tryz.func94, Tryz.ntmps94;go_wp2
 go_loop [3] (fun i => ∃ k : Nat, k ≤ len ∧ i = .int .i64 k ∧ ∀ j, k ≤ j → j < len → lim xs j = 0) (fun i => (intOf i).toNat)
 case atStart => exact ⟨len, Nat.le_refl _, rfl, fun j h1 h2 => by omega⟩
 case round =>
  obtain ⟨k, hk, rfl, hz⟩ := hrel;by_cases hp : 0 < k
  ·obtain ⟨b, off, rfl, hb, hc⟩ := h.cells (by omega);have hck := hc (k - 1) (by omega);have e1 : off + ((k : Int) - 1).toNat = off + (k - 1) := by omega
   clear e1;have hsm := h.small;have T := fun n hn => h.take (n := n) hn;have HT := zh T;have HL := zh hl;clear T hl;go_wp2
   ·have hne : (lim xs (k - 1) : Int) ≠ 0 := by simpa using ‹((lim xs (k - 1) : Int) != 0) = true›
    go_ret;exact ⟨⟨_, _, _, rfl, ⟨xs.take k, by simpa using zu HT k hk, norm_take (by rw [zu HL]; exact hk) (fun _ => by omega), val_take (by rw [zu HL]; exact hk) (fun i h1 h2 => hz i h1 (by rw [zu HL] at h2; exact h2))⟩, by simpa using hk, fun _ => rfl⟩, rfl⟩
   ·have heq : (lim xs (k - 1) : Int) = 0 := by simpa using ‹((lim xs (k - 1) : Int) != 0) = false›
    go_round
    case rel =>
     refine ⟨k - 1, by omega, by go_num, fun j h1 h2 => ?_⟩;by_cases c : j = k - 1
     ·subst c; omega
     ·exact hz j (by omega) h2
    case measure => simp [intOf]; omega
  ·have hk0 : k = 0 := by omega
   have HL := zh hl;clear hl;go_wp2;go_ret;refine ⟨⟨_, _, _, rfl, ⟨[], rowAt_nil w, fun h => absurd h (by simp), ?_⟩, by omega, fun h => absurd h (by omega)⟩, rfl⟩;rw [← val_take (xs := xs) (n := 0) (Nat.zero_le _) (fun i h1 h2 => hz i (by omega) (by rw [zu HL] at h2; exact h2))];simp

theorem lcut_any (ao : Option Addr) (len cap : Nat) (xs : List Nat) (w : World) (h : RowAt w ao len cap xs) :
  Calls Tryz.prog 94 #[.slice ao len cap] w fun e w' => (∃ ao' len' cap', e = .returned (.slice ao' len' cap') ∧ NumAt w ao' len' cap' (val xs) ∧ len' ≤ len) ∧ w = w' := by
 refine (lcut_same ao len cap xs w h).mono ?_;rintro e w' ⟨⟨a, l, c, h1, h2, h3, _⟩, h4⟩;exact ⟨⟨a, l, c, h1, h2, h3⟩, h4⟩
/-
 What long.word and long.row do: a row of at most two limbs as one number of the machine, and back.
-/

theorem or_next {a x k : Nat} (ha : a < Bp k) (hk : k ≤ 1) (hx : x < 4294967296) : bits .or .u64 (a : Int) (IntKind.u64.wrap ((x : Int) * 2 ^ (32 * k))) = ((a + x * Bp k : Nat) : Int) := by
 have hp : Bp k ≤ 4294967296 := by have := Bp_le hk; rwa [Bp_one] at this
 have h1 : x * Bp k ≤ 4294967295 * 4294967296 := Nat.mul_le_mul (by omega) hp;have e : IntKind.u64.wrap ((x : Int) * 2 ^ (32 * k)) = ((x * Bp k : Nat) : Int) := by
  rw [show ((x : Int) * 2 ^ (32 * k)) = ((x * Bp k : Nat) : Int) by rw [Bp_two]; simp, IntKind.wrap_u64];omega
 rw [e, u64_or_nat _ _ (by omega) (by omega)]
 congr 1
 rw [Bp_two] at ha ⊢;have := Nat.shiftLeft_add_eq_or_of_lt (b := a) (i := 32 * k) ha x;rw [Nat.shiftLeft_eq] at this;rw [Nat.or_comm, Nat.add_comm];exact this.symm

set_option maxHeartbeats 400000 in
theorem word_any (ao : Option Addr) (len cap : Nat) (xs : List Nat) (w : World) (h : RowAt w ao len cap xs) (hlen : len ≤ 2) :
  Calls Tryz.prog 97 #[.slice ao len cap] w fun e w' => e = .returned (.int .u64 (val xs : Int)) ∧ w = w' := by
 go_enter Tryz.func97, Tryz.ntmps97;go_wp2
 go_loop [3, 8] (fun v i => ∃ k : Nat, k ≤ len ∧ i = .int .i64 k ∧ v = .int .u64 (pre xs k : Int)) (fun _ i => len - (intOf i).toNat)
 case atStart => exact ⟨0, by omega, rfl, rfl⟩
 case round =>
  obtain ⟨k, hk, rfl, rfl⟩ := hrel;have hp := pre_lt h.small k;by_cases hlt : k < len
  ·obtain ⟨b, off, rfl, hb, hc⟩ := h.cells (by omega);have hck := hc k hlt;have hx := h.small k;have hor := zh (or_next hp (by omega) hx);have HL := zh h.len_eq;clear hp hc h;go_wp2
   go_round
   case rel => exact ⟨k + 1, by omega, by go_num, by rw [show k * 32 = 32 * k by omega, zu hor, pre_succ]⟩
   case measure => simp [intOf]; omega
  ·have hk0 : k = len := by omega
   have hv : pre xs len = val xs := pre_len (by rw [h.len_eq]; omega);have HV := zh hv;clear hp hv h;subst hk0;go_wp2;go_ret;rw [zu HV];exact ⟨rfl, rfl⟩

theorem row_any (x : Nat) (w : World) (hx : x < 18446744073709551616) :
  Calls Tryz.prog 98 #[.int .u64 (x : Int)] w fun e w' => ∃ ao' len' cap', e = .returned (.slice ao' len' cap') ∧ NumAt w' ao' len' cap' x ∧ Below w.heap.size w w' := by
 go_enter Tryz.func98, Tryz.ntmps98
 go_wp2_with fail
 have h2 := rowAt_two (w := w) (e := (x : Int) % 4294967296) (f := (x : Int) / 4294967296) (x % 4294967296) (x / 4294967296) (by omega) (by omega) (by omega) (by omega);refine (lcut_any _ _ _ _ _ h2).mono ?_;rintro e w' ⟨⟨a1, l1, c1, rfl, hn1, hl1⟩, rfl⟩;rw [val_two, show x % 4294967296 + x / 4294967296 * 4294967296 = x by omega] at hn1;go_wp2;go_ret;exact ⟨_, _, _, rfl, hn1, (Below.refl _ _).alloc (Nat.le_refl _) _⟩

/-
 A part of a row that the caller owns, written in place: the world behind it has that one block changed.
-/

def Off (g : Nat) (ao : Option Addr) (len : Nat) : Prop := 0 < len → ∃ b off, ao = some ⟨b, off, none⟩ ∧ b ≠ g
theorem off_old {w : World} {ao : Option Addr} {len cap g : Nat} {xs : List Nat} (h : RowAt w ao len cap xs) (hg : w.heap.size ≤ g) : Off g ao len := fun hp => by
 obtain ⟨b, off, e, hlt, _⟩ := h.cells hp;exact ⟨b, off, e, by omega⟩
theorem off_new {g B : Nat} {ao : Option Addr} {len : Nat} (h : New B ao len) (hg : g < B) : Off g ao len := fun hp => by
 obtain ⟨b, off, e, hlt⟩ := h hp;exact ⟨b, off, e, by omega⟩
def Only (g : Nat) (w w' : World) : Prop := w.grownBy w' (some g)
theorem Only.refl (g : Nat) (w : World) : Only g w w := World.grownBy.refl _ _
theorem Only.then {g : Nat} {a b c : World} (h : Only g a b) (k : Only g b c) : Only g a c := World.grownBy.trans h k
theorem Only.setCell {g : Nat} {a b : World} (h : Only g a b) (j : Nat) (u : Value) : Only g a (b.setCell ⟨g, j, none⟩ u) :=
 h.then ⟨rfl, rfl, rfl, by simp [World.setCell], fun k _ hk => Below.heap_setCell _ _ _ _ (fun e => hk (by simp [e]))⟩
theorem Only.above {g g' : Nat} {a b : World} (h : Only g a b) (hg : a.heap.size ≤ g') (j : Nat) (u : Value) : Only g a (b.setCell ⟨g', j, none⟩ u) :=
 ⟨h.os, h.tape, h.output, Nat.le_trans h.size (by simp [World.setCell]), fun k hk hne => (Below.heap_setCell _ _ _ _ (by simp; omega)).trans (h.block k hk hne)⟩
theorem Only.drewN {g : Nat} {a b : World} (h : Only g a b) (n : Nat) : Only g a (b.drewN n) := h.then ⟨rfl, rfl, rfl, Nat.le_refl _, fun _ _ _ => rfl⟩
theorem Only.below {g : Nat} {a b : World} (h : Below a.heap.size a b) : Only g a b := ⟨h.os, h.tape, h.output, h.size, fun k hk _ => h.block k hk⟩
theorem Below.only {B g : Nat} {a w w' : World} (h : Below B a w) (ho : Only g w w') (hB : B ≤ w.heap.size) (hg : B ≤ g) : Below B a w' := h.grown ho hB (fun k e => by simp at e; omega)
theorem RowAt.only {w w' : World} {ao : Option Addr} {len cap g : Nat} {xs : List Nat} (h : RowAt w ao len cap xs) (hn : Off g ao len) (ho : Only g w w') : RowAt w' ao len cap xs := by
 refine ⟨h.len_eq, h.cap_le, h.cap_max, h.nil_cap, h.small, fun hp => ?_⟩;obtain ⟨b, off, e, hlt, hc⟩ := h.cells hp;obtain ⟨b', off', e', hb⟩ := hn hp;rw [e] at e';simp only [Option.some.injEq, Addr.mk.injEq, and_true] at e';obtain ⟨rfl, rfl⟩ := e';exact ⟨b, off, e, Nat.lt_of_lt_of_le hlt ho.size, fun i hi => ho.cell (hc i hi) (by simpa using hb)⟩
theorem Own.only {w w' : World} {base n cap g g' : Nat} {xs : List Nat} (h : Own w base (.slice (some ⟨g', 0, none⟩) n cap) n xs) (hne : g' ≠ g) (ho : Only g w w') : Own w' base (.slice (some ⟨g', 0, none⟩) n cap) n xs :=
 World.ownsRow.kept h ho (Or.inr (by simpa [Value.ownBlock] using hne))
theorem Own.lt {w : World} {base g n cap : Nat} {xs : List Nat} (h : Own w base (.slice (some ⟨g, 0, none⟩) n cap) n xs) : g < w.heap.size := (World.ownsRow.lt h g rfl).2
theorem Own.cap {w : World} {base g n cap : Nat} {xs : List Nat} (h : Own w base (.slice (some ⟨g, 0, none⟩) n cap) n xs) : n ≤ cap ∧ cap ≤ maxLen := by
 rcases h.2 with ⟨h', _⟩ | ⟨g', cap', cur, h', hb, hg, h1, h2, _⟩
 ·simp at h'
 ·simp only [Value.slice.injEq, Option.some.injEq, Addr.mk.injEq, and_true, true_and] at h';obtain ⟨rfl, rfl⟩ := h';exact ⟨h1, h2⟩
theorem Own.part {w : World} {base g n cap : Nat} {xs : List Nat} (h : Own w base (.slice (some ⟨g, 0, none⟩) n cap) n xs) (hs : Small xs) {o m c : Nat} (hm : 0 < m) (hfit : o + m ≤ n) (hc : m ≤ c) (hc2 : c ≤ maxLen) : RowAt w (some ⟨g, o, none⟩) m c ((xs.drop o).take m) := by
 have hl := h.len;refine ⟨by simp; omega, hc, hc2, fun e => by simp at e, small_take (small_drop hs o) m, fun _ => ⟨g, o, rfl, h.lt, fun i hi => ?_⟩⟩;rw [lim_take, if_pos hi, lim_drop];exact h.cell (by omega)
theorem copy_part {w : World} {ops : Array Oper} {rest : List Oper} {o : Oper} {a : Act} {Q : Exit → Act → World → Prop} (hgd : o.guard = none) (d s : Operand)
  (ho : o.op = .call { callee := .builtin .copy, args := #[d, s], argTypes := #[43, 43] }) (base g n cap : Nat) (zs ys : List Nat) (hd : a.eval d = .slice (some ⟨g, 0, none⟩) n cap) (hown : Own w base (.slice (some ⟨g, 0, none⟩) n cap) n zs)
  (ao : Option Addr) (m c : Nat) (hs : a.eval s = .slice ao m c) (hrow : RowAt w ao m c ys) (hm : m ≤ n)
  (h : ∀ w', Own w' base (.slice (some ⟨g, 0, none⟩) n cap) n (ys ++ zs.drop m) → w.grownBy w' (some g) → wpList Tryz.prog ops Q rest (a.put o.dst (goInt (ys.map lv).length)) w') : wpList Tryz.prog ops Q (o :: rest) a w := by
 obtain ⟨i0, hi, hz0, hz1, hz2⟩ := info_parts info_u32;have hl := hrow.len_eq;have hzl := hown.len;rcases Nat.eq_zero_or_pos m with e | hp
 ·obtain rfl : ys = [] := List.eq_nil_of_length_eq_zero (by omega);subst e;refine wpList_copy_nothing hgd d s _ _ ho 73 Tryz.underlying43 (by rw [hi]; simp [hz1]) _ _ _ _ _ _ hd hs (by simp) ?_;exact h w (by simpa using hown) (World.grownBy.refl _ _)
 ·obtain ⟨b, off, rfl, hb, hc⟩ := hrow.cells hp;rcases hown.2 with ⟨h', _⟩ | ⟨g', cap', cur, h', hbg, hg, hnc, hcm, hcs, htake⟩
  ·simp at h'
  ·simp only [Value.slice.injEq, Option.some.injEq, Addr.mk.injEq, and_true, true_and] at h';obtain ⟨rfl, rfl⟩ := h';refine wpList_copy_own hgd d s _ _ ho 73 Tryz.underlying43 (by rw [hi]; simp [hz1]) g 0 n cap ⟨b, off, none⟩ m c hd hs cur 73 hg (ys.map lv) (by rw [List.length_map, hl]; exact (Nat.min_eq_left hm).symm) ?_ (by simp [hl]; omega) ?_ ?_
   ·intro j v hj;have hjl : j < m := by
     have := (List.getElem?_eq_some_iff.1 hj).1;simpa [hl] using this
    rw [Addr.add_lit, hc j hjl, ← hj];simp [lim, lv, show j < ys.length by omega]
   ·intro u hu;obtain ⟨_, _, rfl⟩ := List.mem_map.1 hu;rfl
   ·refine h _ ⟨by simp [hl, hzl]; omega, Or.inr ⟨g, cap, _, rfl, hbg, setRow_heap w g cur _ 73 _ hg, hnc, hcm, ?_, ?_⟩⟩ ⟨rfl, rfl, rfl, by simp [World.setRow], fun k _ hk => setRow_other w g k _ (fun e => hk (by simp [e]))⟩
    ·simp [hl]; omega
    ·have e1 : (cur.toList.drop m).take (n - m) = (zs.drop m).map lv := by
      rw [List.map_drop, ← htake, Nat.mul_one, List.drop_take]
     simp [hl, List.take_append];rw [List.take_of_length_le (by simp [hl]; omega), e1, List.map_drop]
/-
 What long.addTimes does: b times x is added to a part of a row, in place; what is carried beyond it is told.
-/

set_option maxRecDepth 20000 in
set_option maxHeartbeats 1000000 in
theorem addTimes_any (base g N cap : Nat) (zs : List Nat) (o c' : Nat) (ab : Option Addr) (lb cb : Nat) (ys : List Nat) (x : Nat) (w : World)
  (hown0 : Own w base (.slice (some ⟨g, 0, none⟩) N cap) N zs) (hsm0 : Small zs) (hb : RowAt w ab lb cb ys) (hoff : Off g ab lb) (hfit : o + lb ≤ N) (hx : x < 4294967296) :
  Calls Tryz.prog 95 #[.slice (some ⟨g, o, none⟩) lb c', .slice ab lb cb, .int .u32 (x : Int)] w fun e w' => ∃ (c : Nat) (us : List Nat), e = .returned (.int .u32 (c : Int)) ∧ c < 4294967296 ∧ Own w' base (.slice (some ⟨g, 0, none⟩) N cap) N us ∧ Small us ∧ (∀ i, i < o ∨ o + lb ≤ i → lim us i = lim zs i) ∧ pre us (o + lb) + c * Bp (o + lb) = pre zs (o + lb) + x * val ys * Bp o ∧ Only g w w' := by
 go_enter Tryz.func95, Tryz.ntmps95;have hm2 := hb.cap_max;have hc2 := hb.cap_le;unfold maxLen at hm2
 go_wp2_with fail
 go_loopw [7, 12] (fun v j wq => ∃ (m n : Nat) (us : List Nat), m ≤ lb ∧ j = .int .i64 m ∧ v = .int .u64 n ∧ n < 4294967296 ∧ Own wq base (.slice (some ⟨g, 0, none⟩) N cap) N us ∧ Small us ∧ pre us (o + m) + n * Bp (o + m) = pre zs (o + m) + x * pre ys m * Bp o ∧ (∀ i, i < o ∨ o + m ≤ i → lim us i = lim zs i) ∧ Only g w wq) (fun _ j _ => lb - (intOf j).toNat)
 case atStart => exact ⟨0, 0, zs, by omega, rfl, rfl, by omega, hown0, hsm0, by simp [pre_zero], fun _ _ => rfl, Only.refl _ _⟩
 case round =>
  obtain ⟨m, n, us, hm, rfl, rfl, hn, hown, hsm, hval, hsame, honly⟩ := hrel;have HV := zh hval;have HS := zh hsame;clear hval hsame;have ulen := zh hown.len;by_cases hq : m < lb
  ·obtain ⟨b1, o1, rfl, hb1, hcx⟩ := (hb.only hoff honly).cells (by omega);have cx := hcx m hq;have cs := hown.cell (i := o + m) (by omega);have cf := hown.free (o + m);have hby := hb.small m;have hbu := hsm (o + m);have hmul := mul_fits hx hby;clear hcx;go_wp2;go_roundw
   case rel =>
    refine ⟨m + 1, (n + x * lim ys m + lim us (o + m)) / 4294967296, us.set (o + m) ((n + x * lim ys m + lim us (o + m)) % 4294967296), by omega, by go_num, by go_num, by omega, hown.set _ _ (by omega), small_set hsm (by omega), ?_, fun t ht => ?_, honly.setCell _ _⟩
    ·rw [show o + (m + 1) = o + m + 1 by omega, pre_succ, pre_set_lt _ _ _ _ (Nat.le_refl _) (by rw [zu ulen]; omega), lim_set _ _ _ _ (by rw [zu ulen]; omega), if_pos rfl, Bp_succ, pre_succ, pre_succ, mul_step (Bp_add o m) (zu HV), zu HS (o + m) (Or.inr (Nat.le_refl _)), Nat.mul_add, Nat.add_mul];omega
    ·rw [lim_set _ _ _ _ (by rw [zu ulen]; omega), if_neg (by omega)];exact zu HS t (by omega)
   case measure => simp [intOf]; omega
  ·have hm1 : m = lb := by omega
   have hv : pre ys m = val ys := pre_len (by rw [hb.len_eq]; omega);have HW := zh hv;clear hv;go_wp2;go_ret;refine ⟨n, us, by simp, hn, hown, hsm, fun i hi => zu HS i (by omega), ?_, honly⟩;rw [← hm1, ← zu HW];exact zu HV

/-
 What long.Mul does: the product, in a row of its own.
-/

theorem mul_val_step {P U Z c x bk bb V : Nat} (h : U + c * bb = Z + x * V * bk) (hz : Z = P * V) : U + c * bb = (P + x * bk) * V := by
 rw [h, hz, Nat.add_mul, Nat.mul_assoc x V, Nat.mul_assoc x bk, Nat.mul_comm V bk]

set_option maxRecDepth 20000 in
set_option maxHeartbeats 1000000 in
theorem mul_any (aa : Option Addr) (la ca : Nat) (xs : List Nat) (ab : Option Addr) (lb cb : Nat) (ys : List Nat) (w : World) (ha : RowAt w aa la ca xs) (hb : RowAt w ab lb cb ys) (hla : la ≤ 10000000) (hlb : lb ≤ 10000000) :
  Calls Tryz.prog 81 #[.slice aa la ca, .slice ab lb cb] w fun e w' => ∃ ao' len' cap', e = .returned (.slice ao' len' cap') ∧ NumAt w' ao' len' cap' (val xs * val ys) ∧ Below w.heap.size w w' := by
 go_enter Tryz.func81, Tryz.ntmps81
 go_wp2_with fail
 refine (lcut_any _ _ _ xs _ ha).mono ?_;rintro e w' ⟨⟨a1, l1, c1, rfl, ⟨xs1, hx1, nx1, vx1⟩, hl1⟩, rfl⟩
 go_wp2_with fail
 refine (lcut_any _ _ _ ys _ hb).mono ?_;rintro e w' ⟨⟨a2, l2, c2, rfl, ⟨ys1, hy1, ny1, vy1⟩, hl2⟩, rfl⟩;have Vx := zh vx1;have Vy := zh vy1;clear vx1 vy1 nx1 ny1 ha hb;have hm1 := hx1.cap_max;have hm2 := hy1.cap_max;have hc1 := hx1.cap_le;have hc2 := hy1.cap_le;unfold maxLen at hm1 hm2
 go_wp2_with (at_make; refine make_row rfl _ _ rfl w.heap.size .i64 .i64 _ _ (l1 + l2) rfl rfl (by omega) (by omega) (by omega) (Nat.le_refl _) ?_)
 intro w1 hown1 hgrow1;have hbel1 : Below w.heap.size w w1 := (Below.refl _ _).grown hgrow1 (Nat.le_refl _) (fun _ h => by simp at h);clear hgrow1
 go_wp2_with fail
 go_loopw [20] (fun i wr => ∃ (k : Nat) (zs : List Nat), k ≤ l1 ∧ i = .int .i64 k ∧ Own wr w.heap.size (.slice (some ⟨w.heap.size, 0, none⟩) (l1 + l2) (l1 + l2)) (l1 + l2) zs ∧ Small zs ∧ pre zs (k + l2) = pre xs1 k * val ys1 ∧ Below w.heap.size w wr) (fun i _ => l1 - (intOf i).toNat)
 case atStart =>
  refine ⟨0, _, by omega, rfl, hown1, small_replicate _, ?_, hbel1⟩;rw [pre_zero, Nat.zero_mul];exact pre_zeros (fun i _ => lim_replicate _ _)
 case round =>
  obtain ⟨k, zs, hk, rfl, hown, hsm, hval, hbel⟩ := hrel;have HV := zh hval;clear hval hown1 hbel1;by_cases hp : k < l1
  ·obtain ⟨b1, o1, rfl, hb1, hcx⟩ := hx1.cells (by omega);have cx : wr.cell? ⟨b1, o1 + k, none⟩ = some (.int .u32 (lim xs1 k : Int)) := (hbel.cell (p := ⟨b1, o1 + k, none⟩) hb1).trans (hcx k (by omega));have hbx := hx1.small k;have hyr := hy1.za hbel;have hoff : Off w.heap.size a2 l2 := off_old hy1 (Nat.le_refl _);clear hcx
   go_wp2_with fail
   refine (addTimes_any w.heap.size w.heap.size (l1 + l2) (l1 + l2) zs k _ _ _ _ ys1 (lim xs1 k) _ hown hsm hyr hoff (by omega) hbx).mono ?_;rintro e w2 ⟨c, us, rfl, hc, hown2, hsm2, hsame, hval2, honly⟩;have hbel2 := Below.only hbel honly hbel.size (Nat.le_refl _);have HV2 := zh hval2;have ulen := zh hown2.len;have cs := hown2.cell (i := k + l2) (by omega);have cf := hown2.free (k + l2);clear hval2 hsame honly hown;go_wp2;go_roundw
   case rel =>
    refine ⟨k + 1, us.set (k + l2) c, by omega, by go_num, hown2.set _ _ rfl, small_set hsm2 hc, ?_, hbel2.setCell (by simp) _⟩;rw [show k + 1 + l2 = k + l2 + 1 by omega, pre_succ, pre_set_lt _ _ _ _ (Nat.le_refl _) (by rw [zu ulen]; omega), lim_set _ _ _ _ (by rw [zu ulen]; omega), if_pos rfl, pre_succ];exact mul_val_step (zu HV2) (zu HV)
   case measure => simp [intOf]; omega
  ·have hk1 : k = l1 := by omega
   have hr := rowAt_own hown hsm;have hv : val zs = val xs * val ys := by
    have h1 := zu HV;rw [hk1, pre_len (xs := zs) (by rw [hown.len]; omega), pre_len (xs := xs1) (by rw [hx1.len_eq]; omega), zu Vx, zu Vy] at h1;exact h1
   have HW := zh hv;clear hv
   go_wp2_with fail
   refine (lcut_any _ _ _ zs _ hr).mono ?_;rintro e w' ⟨⟨a3, l3, c3, rfl, hnum, hl3⟩, rfl⟩;rw [zu HW] at hnum;go_wp2;go_ret;exact ⟨_, _, _, rfl, hnum, hbel⟩

end Go.Proofs.YtnpneloahajniaaGreat

/-
 Plain mathematics of a division by guessed limbs.
-/
namespace Go.Proofs.YtnpneloahajniaaGreat.Lb

theorem top_three (ps : List Nat) (n : Nat) (hl : ps.length = n + 3) : val ps = pre ps n + ((lim ps (n + 2) * 4294967296 + lim ps (n + 1)) * 4294967296 + lim ps n) * Bp n := by
 have e : val ps = pre ps (n + 3) := by unfold val; rw [hl]
 rw [e, pre_succ, pre_succ, pre_succ, Bp_succ (n + 1), Bp_succ n, Nat.add_mul, Nat.add_mul, Nat.add_mul];have h1 : lim ps (n + 2) * (Bp n * 4294967296 * 4294967296) = lim ps (n + 2) * 4294967296 * 4294967296 * Bp n := by
  rw [Nat.mul_assoc (Bp n), Nat.mul_comm (Bp n), ← Nat.mul_assoc, ← Nat.mul_assoc]
 have h2 : lim ps (n + 1) * (Bp n * 4294967296) = lim ps (n + 1) * 4294967296 * Bp n := by rw [Nat.mul_comm (Bp n), ← Nat.mul_assoc]
 rw [h1, h2];omega
theorem top_two (ys : List Nat) (n : Nat) (hl : ys.length = n + 2) : val ys = pre ys n + (lim ys (n + 1) * 4294967296 + lim ys n) * Bp n := by
 have e : val ys = pre ys (n + 2) := by unfold val; rw [hl]
 rw [e, pre_succ, pre_succ, Bp_succ, Nat.add_mul];have h2 : lim ys (n + 1) * (Bp n * 4294967296) = lim ys (n + 1) * 4294967296 * Bp n := by rw [Nat.mul_comm (Bp n), ← Nat.mul_assoc]
 rw [h2];omega

theorem guess_lower {P D p d U V b T : Nat} (hP : P = p + U * b) (hD : D = d + V * b) (hp : p < b) (h : U < T * V) : P < T * D := by
 have h1 : (U + 1) * b ≤ T * V * b := Nat.mul_le_mul_right _ h;rw [Nat.add_mul] at h1;rw [hP, hD, Nat.mul_add, ← Nat.mul_assoc];have : 0 ≤ T * d := Nat.zero_le _;omega
theorem guess_end {P D p d U V b T : Nat} (hP : P = p + U * b) (hD : D = d + V * b) (hd : d < b) (hT : T < 4294967296) (hV : 4294967296 ≤ V) (h : T * V ≤ U) : T * D < P + D := by
 have h1 : T * V * b ≤ U * b := Nat.mul_le_mul_right _ h;have h2 : T * d ≤ 4294967295 * d := Nat.mul_le_mul_right _ (by omega);have h3 : 4294967296 * b ≤ V * b := Nat.mul_le_mul_right _ hV;rw [hP, hD, Nat.mul_add, ← Nat.mul_assoc];omega
theorem guess_top {P D p d u1 u0 v1 v0 b : Nat} (hP : P = p + (u1 * 4294967296 + u0) * 4294967296 * b) (hD : D = d + (v1 * 4294967296 + v0) * b) (hd : d < b) (hv : v0 < 4294967296) (h : P < 4294967296 * D) : u1 ≤ v1 := by
 rcases Nat.lt_or_ge v1 u1 with c | c
 ·exfalso
  have h1 : (v1 + 1) * 4294967296 * 4294967296 * b ≤ u1 * 4294967296 * 4294967296 * b := Nat.mul_le_mul_right _ (Nat.mul_le_mul_right _ (Nat.mul_le_mul_right _ c));have h2 : (v1 * 4294967296 + v0) * b + b ≤ (v1 + 1) * 4294967296 * b := by
   have : (v1 * 4294967296 + v0 + 1) * b ≤ (v1 + 1) * 4294967296 * b := Nat.mul_le_mul_right _ (by omega);rw [Nat.add_mul _ 1] at this;omega
  have h3 : D < (v1 + 1) * 4294967296 * b := by omega
  have h4 : 4294967296 * D < (v1 + 1) * 4294967296 * 4294967296 * b := by
   have e : (v1 + 1) * 4294967296 * 4294967296 * b = 4294967296 * ((v1 + 1) * 4294967296 * b) := by
    rw [Nat.mul_assoc ((v1 + 1) * 4294967296), Nat.mul_left_comm]
   rw [e];exact Nat.mul_lt_mul_of_pos_left h3 (by omega)
  have h5 : u1 * 4294967296 * 4294967296 * b ≤ (u1 * 4294967296 + u0) * 4294967296 * b := Nat.mul_le_mul_right _ (Nat.mul_le_mul_right _ (by omega));omega
 ·exact c
theorem g_start {P D p d X u0 v1 v0 b : Nat} (hP : P = p + (X * 4294967296 + u0) * b) (hD : D = d + (v1 * 4294967296 + v0) * b) (hp : p < b) (hu : u0 < 4294967296) (hv : 0 < v1) : P < (X / v1 + 1) * D := by
 apply guess_lower hP hD hp;have h1 : X < (X / v1 + 1) * v1 := by
  have h2 := Nat.div_add_mod X v1;have h3 := Nat.mod_lt X hv;rw [Nat.add_mul, Nat.mul_comm];omega
 have h4 : (X + 1) * 4294967296 ≤ (X / v1 + 1) * v1 * 4294967296 := Nat.mul_le_mul_right _ h1;rw [Nat.mul_add, ← Nat.mul_assoc];have : 0 ≤ (X / v1 + 1) * v0 := Nat.zero_le _;omega
theorem g_many {P D T : Nat} (hT : 4294967296 ≤ T) (h : P < 4294967296 * D) : P < T * D := Nat.lt_of_lt_of_le h (Nat.mul_le_mul_right _ hT)
theorem g_less_any {T v1 v0 L X u0 B : Nat} (hX : T * v1 + L = X) (h : L * B + u0 < T * v0) : X * B + u0 < T * (v1 * B + v0) := by
 rw [← hX, Nat.mul_add, ← Nat.mul_assoc, Nat.add_mul];omega
theorem g_less {T v1 v0 L X u0 : Nat} (hX : T * v1 + L = X) (h : L * 4294967296 + u0 < T * v0) : X * 4294967296 + u0 < T * (v1 * 4294967296 + v0) := g_less_any hX h
theorem g_not_any {T v1 v0 L X u0 B : Nat} (hX : T * v1 + L = X) (h : T * v0 ≤ L * B + u0) : T * (v1 * B + v0) ≤ X * B + u0 := by
 rw [← hX, Nat.mul_add, ← Nat.mul_assoc, Nat.add_mul];omega
theorem g_not {T v1 v0 L X u0 : Nat} (hX : T * v1 + L = X) (h : T * v0 ≤ L * 4294967296 + u0) : T * (v1 * 4294967296 + v0) ≤ X * 4294967296 + u0 := g_not_any hX h
theorem g_far {T v0 L u0 : Nat} (hT : T < 4294967296) (hv : v0 < 4294967296) (hL : 4294967296 ≤ L) : T * v0 ≤ L * 4294967296 + u0 := by
 have := mul_fits hT hv;omega
theorem g_fits {T v1 L X : Nat} (hX : T * v1 + L = X) (hL : 4294967296 ≤ L) (h : X < v1 * 4294967296 + 4294967296) : T < 4294967296 := by
 rcases Nat.lt_or_ge T 4294967296 with c | c
 ·exact c
 ·have : 4294967296 * v1 ≤ T * v1 := Nat.mul_le_mul_right _ c;omega
theorem g_top {X v1 : Nat} (h : X < v1 * 4294967296 + 4294967296) (hv : 2147483648 ≤ v1) : X / v1 ≤ 4294967297 := by
 have h1 : X < 4294967298 * v1 := by omega
 have h2 := (Nat.div_lt_iff_lt_mul (show 0 < v1 by omega)).2 h1;omega
theorem g_down {T v1 L X : Nat} (hX : T * v1 + L = X) (hT : 0 < T) : (T - 1) * v1 + (L + v1) = X := by
 obtain ⟨t, rfl⟩ : ∃ t, T = t + 1 := ⟨T - 1, by omega⟩;rw [Nat.add_mul] at hX;rw [Nat.add_sub_cancel];omega
theorem div_took {P P1 D T : Nat} (h : P1 + T * D = P) (hlt : P < (T + 1) * D) : P1 < D ∧ P = T * D + P1 := by
 rw [Nat.add_mul] at hlt;omega
theorem div_gave {P P1 P2 D T M c : Nat} (h : P1 + T * D = P + M) (h2 : P2 + c * M = P1 + D) (hle : T * D < P + D) (h1 : P1 < M) (hP2 : P2 < M) (hDM : D ≤ M) : 0 < T ∧ P2 < D ∧ P = (T - 1) * D + P2 := by
 have hT : 0 < T := by
  rcases Nat.eq_zero_or_pos T with e | e
  ·subst e; omega
  ·exact e
 obtain ⟨t, rfl⟩ : ∃ t, T = t + 1 := ⟨T - 1, by omega⟩;rw [Nat.add_mul] at h hle;rw [Nat.add_sub_cancel];have hc : c = 1 := by
  rcases (show c = 0 ∨ c = 1 ∨ 2 ≤ c by omega) with e | e | e
  ·subst e; omega
  ·exact e
  ·have : 2 * M ≤ c * M := Nat.mul_le_mul_right _ e;omega
 subst hc;omega
theorem zero_above {xs : List Nat} {n : Nat} (h : val xs < Bp n) : ∀ i, n ≤ i → lim xs i = 0 := by
 intro i hi;rcases Nat.eq_zero_or_pos (lim xs i) with e | e
 ·exact e
 ·exfalso
  have h1 := pre_ge (xs := xs) (k := i) (by omega);have h2 := val_split xs (i + 1);have h3 := Bp_le hi;have h4 : 0 ≤ Bp (i + 1) * val (xs.drop (i + 1)) := Nat.zero_le _;omega
theorem drop_pre (us : List Nat) (j m : Nat) : pre us (j + m) = pre us j + pre (us.drop j) m * Bp j := by
 induction m with
 | zero => rw [pre_zero, Nat.zero_mul]; rfl
 | succ m ih =>
  rw [show j + (m + 1) = j + m + 1 by omega, pre_succ, ih, pre_succ, lim_drop, Nat.add_mul, Bp_add, Nat.mul_assoc, Nat.mul_comm (Bp m)];omega
theorem part_pre {us : List Nat} {o m : Nat} (h : o + m ≤ us.length) : val ((us.drop o).take m) = pre (us.drop o) m := by
 unfold val;rw [List.length_take, List.length_drop, Nat.min_eq_left (by omega)];exact pre_take _ _ _ (Nat.le_refl _)
theorem part_eq {us vs : List Nat} {o m X Y : Nat} (hu : o + m ≤ us.length) (hv : o + m ≤ vs.length) (hs : ∀ i, i < o → lim vs i = lim us i) (h : pre vs (o + m) + X * Bp o = pre us (o + m) + Y * Bp (o + m)) : val ((vs.drop o).take m) + X = val ((us.drop o).take m) + Y * Bp m := by
 rw [part_pre hu, part_pre hv];rw [drop_pre, drop_pre, pre_congr hs, Bp_add, Nat.add_assoc, Nat.add_assoc, ← Nat.add_mul] at h;have e : Y * (Bp o * Bp m) = Y * Bp m * Bp o := by rw [Nat.mul_comm (Bp o), ← Nat.mul_assoc]
 rw [e, ← Nat.add_mul] at h;exact Nat.eq_of_mul_eq_mul_right (Bp_pos o) (by omega)
theorem part_all {us : List Nat} {o m : Nat} (h : o + m ≤ us.length) (hz : ∀ i, o + m ≤ i → lim us i = 0) : val ((us.drop o).take m) = val (us.drop o) :=
 val_take (by simp; omega) (fun i h1 _ => by rw [lim_drop]; exact hz _ (by omega))
theorem div_limb {Zk z Q D R P T P' B : Nat} (h : Zk = Q * D + R) (hP : P = z + B * R) (hT : P = T * D + P') : z + B * Zk = (T + B * Q) * D + P' := by
 rw [h, Nat.mul_add, Nat.add_mul, Nat.mul_assoc];omega
theorem div_done {Z Q D R : Nat} (h : Z = Q * D + R) (hR : R < D) : Z / D = Q ∧ Z % D = R := by
 rw [Nat.mul_comm] at h;exact (Nat.div_mod_unique (by omega)).2 ⟨by omega, hR⟩
theorem shift_bits {ys : List Nat} {n : Nat} (hs : Small ys) (hn : Norm ys) (hl : 0 < ys.length) (hb : IsBits (val ys) n) : ∃ s, s < 32 ∧ n + s = 32 * ys.length ∧ val ys * 2 ^ s < Bp ys.length ∧ Bp ys.length ≤ 2 * (val ys * 2 ^ s) := by
 have h1 := norm_ge hn hl;have h2 := val_lt hs;have hp := Bp_pos (ys.length - 1);rcases hb with ⟨h, _⟩ | ⟨hn1, h3, h4⟩
 ·omega
 ·have e1 : n ≤ 32 * ys.length := bits_le (Or.inr ⟨hn1, h3, h4⟩) h2;have e2 : 32 * (ys.length - 1) < n := by
   rcases Nat.lt_or_ge (32 * (ys.length - 1)) n with c | c
   ·exact c
   ·have h5 := Nat.pow_le_pow_right (n := 2) (by omega) c;rw [← Bp_two] at h5;omega
  refine ⟨32 * ys.length - n, by omega, by omega, ?_, ?_⟩
  ·have h6 : val ys * 2 ^ (32 * ys.length - n) < 2 ^ n * 2 ^ (32 * ys.length - n) := Nat.mul_lt_mul_of_pos_right h4 (Nat.pow_pos (by omega));rw [← Nat.pow_add, show n + (32 * ys.length - n) = 32 * ys.length by omega, ← Bp_two] at h6;exact h6
  ·have h6 : 2 ^ (n - 1) * 2 ^ (32 * ys.length - n) ≤ val ys * 2 ^ (32 * ys.length - n) := Nat.mul_le_mul_right _ h3;rw [← Nat.pow_add] at h6;have h7 : Bp ys.length = 2 * 2 ^ (n - 1 + (32 * ys.length - n)) := by
    rw [Bp_two, Nat.mul_comm 2, ← Nat.pow_succ]
    congr 1
    omega
   omega
theorem shift_len {ds : List Nat} {l : Nat} (hs : Small ds) (hn : Norm ds) (hl : 0 < l) (h1 : val ds < Bp l) (h2 : Bp l ≤ 2 * val ds) : ds.length = l ∧ 2147483648 ≤ lim ds (l - 1) := by
 have e1 := norm_len hn h1;obtain ⟨k, rfl⟩ : ∃ k, l = k + 1 := ⟨l - 1, by omega⟩;rw [Bp_succ] at h2;have e2 : ds.length = k + 1 := by
  rcases Nat.lt_or_ge ds.length (k + 1) with c | c
  ·exfalso
   have h3 := val_lt hs;have h4 := Bp_le (a := ds.length) (b := k) (by omega);omega
  ·omega
 refine ⟨e2, ?_⟩;rw [Nat.add_sub_cancel];have h5 : val ds = pre ds k + lim ds k * Bp k := by
  rw [← pre_succ]; unfold val; rw [e2]
 have h6 := pre_lt hs k;rcases Nat.lt_or_ge (lim ds k) 2147483648 with c | c
 ·exfalso
  have h7 : lim ds k * Bp k ≤ 2147483647 * Bp k := Nat.mul_le_mul_right _ (by omega);omega
 ·exact c
theorem shift_top {zs : List Nat} {A D s la lb : Nat} (hz : Small zs) (hA : A < Bp la) (hs : s < 32) (hv : val zs = A * 2 ^ s) (hle : lb ≤ la) (hD : Bp lb ≤ 2 * D) : val (zs.drop (la + 1 - lb)) < D := by
 rw [val_drop_div hz, hv];have hp := Bp_pos (la + 1 - lb);rw [Nat.div_lt_iff_lt_mul hp];have h1 : A * 2 ^ s < Bp la * 2147483648 := by
  have h2 := (pow_limb hs).1;exact Nat.mul_lt_mul_of_lt_of_le hA h2 (by omega)
 have h3 : Bp lb * Bp (la + 1 - lb) ≤ 2 * D * Bp (la + 1 - lb) := Nat.mul_le_mul_right _ hD;rw [← Bp_add, show lb + (la + 1 - lb) = la + 1 by omega, Bp_succ, Nat.mul_assoc] at h3;omega
theorem shift_fits {A s la : Nat} (hA : A < Bp la) (hs : s < 32) : A * 2 ^ s < Bp (la + 1) := by
 have h2 := (pow_limb hs).1;rw [Bp_succ];exact Nat.mul_lt_mul_of_lt_of_le hA (by omega) (by omega)
theorem shift_quo (A D s : Nat) : A * 2 ^ s / (D * 2 ^ s) = A / D := Nat.mul_div_mul_right _ _ (Nat.pow_pos (by omega))
theorem shift_rem (A D s : Nat) : A * 2 ^ s % (D * 2 ^ s) / 2 ^ s = A % D := by
 rw [Nat.mul_mod_mul_right, Nat.mul_div_cancel _ (Nat.pow_pos (by omega))]
end Go.Proofs.YtnpneloahajniaaGreat.Lb

/-
 What long.guess tells: the quotient's limb, or 1 more.
-/
namespace Go.Proofs.YtnpneloahajniaaGreat
open Go.RowKit Lb

theorem or_top {n l : Nat} (hn : n < 4294967296) (hl : l < 4294967296) : bits .or .u64 ((n : Int) * 4294967296) (l : Int) = ((n * 4294967296 + l : Nat) : Int) := by
 have e : ((n : Int) * 4294967296) = ((n * 4294967296 : Nat) : Int) := by omega
 rw [e, u64_or_nat _ _ (by omega) (by omega)]
 congr 1
 have := Nat.shiftLeft_add_eq_or_of_lt (b := l) (i := 32) (by omega) n;rw [Nat.shiftLeft_eq] at this;exact this.symm

theorem quo_cast64 {X Y : Nat} (hX : X < 18446744073709551616) : IntKind.u64.wrap ((X : Int) / (Y : Int)) = ((X / Y : Nat) : Int) := by
 have h3 := Nat.div_le_self X Y;rw [show (X : Int) / (Y : Int) = ((X / Y : Nat) : Int) by simp, IntKind.wrap_u64];generalize X / Y = q at *;omega

set_option maxRecDepth 20000 in
set_option maxHeartbeats 1000000 in
theorem guess_any (ap : Option Addr) (cp : Nat) (ps : List Nat) (ab : Option Addr) (lb cb : Nat) (ys : List Nat) (w : World) (hp : RowAt w ap (lb + 1) cp ps) (hb : RowAt w ab lb cb ys)
  (hlb : 2 ≤ lb) (htop : 2147483648 ≤ lim ys (lb - 1)) (hlt : val ps < 4294967296 * val ys) :
  Calls Tryz.prog 106 #[.slice ap (lb + 1) cp, .slice ab lb cb] w fun e w' => ∃ T : Nat, e = .returned (.int .u32 (T : Int)) ∧ T < 4294967296 ∧ val ps < (T + 1) * val ys ∧ T * val ys < val ps + val ys ∧ ∃ k, w' = w.drewN k := by
 have hm1 := hp.cap_max;have hm2 := hb.cap_max;have hc1 := hp.cap_le;have hc2 := hb.cap_le;unfold maxLen at hm1 hm2;obtain ⟨b1, o1, rfl, hb1, hcx⟩ := hp.cells (by omega);obtain ⟨b2, o2, rfl, hb2, hcy⟩ := hb.cells (by omega);have x2 := hcx lb (by omega);have x1 := hcx (lb - 1) (by omega);have x0 := hcx (lb - 2) (by omega);have y1 := hcy (lb - 1) (by omega);have y0 := hcy (lb - 2) (by omega);have kx2 := hp.small lb;have kx1 := hp.small (lb - 1);have kx0 := hp.small (lb - 2);have ky1 := hb.small (lb - 1);have ky0 := hb.small (lb - 2);have i1 : (0 : Int) ≤ (lb : Int) - 1 := by omega
 have i2 : (0 : Int) ≤ (lb : Int) - 2 := by omega
 have hP : val ps = pre ps (lb - 2) + ((lim ps lb * 4294967296 + lim ps (lb - 1)) * 4294967296 + lim ps (lb - 2)) * Bp (lb - 2) := by
  have := top_three ps (lb - 2) (by rw [hp.len_eq]; omega)
  rwa [show lb - 2 + 2 = lb by omega, show lb - 2 + 1 = lb - 1 by omega] at this
 have hD : val ys = pre ys (lb - 2) + (lim ys (lb - 1) * 4294967296 + lim ys (lb - 2)) * Bp (lb - 2) := by
  have := top_two ys (lb - 2) (by rw [hb.len_eq]; omega)
  rwa [show lb - 2 + 1 = lb - 1 by omega] at this
 have hpb := pre_lt hp.small (lb - 2);have hdb := pre_lt hb.small (lb - 2);clear hcx hcy hp hb;generalize lim ps lb = u2 at *;generalize lim ps (lb - 1) = u1 at *;generalize lim ps (lb - 2) = u0 at *;generalize lim ys (lb - 1) = v1 at *;generalize lim ys (lb - 2) = v0 at *;generalize val ps = P at *;generalize val ys = D at *;generalize pre ps (lb - 2) = p at *;generalize pre ys (lb - 2) = d at *;generalize Bp (lb - 2) = b at *;obtain ⟨X, hX⟩ : ∃ X : Nat, X = u2 * 4294967296 + u1 := ⟨_, rfl⟩;have hor : bits .or .u64 ((u2 : Int) * 4294967296) (u1 : Int) = (X : Int) := by rw [hX]; exact or_top kx2 kx1
 have hXl : X < 18446744073709551616 := by omega
 have hv1 : ((v1 : Int) == 0) = false := by simp; omega
 rw [← hX] at hP;have hXv : X < v1 * 4294967296 + 4294967296 := by
  have h1 : u2 ≤ v1 := guess_top (p := p + u0 * b) (u0 := u1) (b := b) (by rw [hP, ← hX, Nat.add_mul]; omega) hD hdb ky0 hlt;omega
 have hst := g_start hP hD hpb kx0 (show 0 < v1 by omega);have htp := g_top hXv htop;have hqc := quo_cast64 (Y := v1) hXl;have HST := zh hst;have HTP := zh htp;have HP := zh hP;have HD := zh hD;have HLT := zh hlt;have HXV := zh hXv;have HPB := zh hpb;have HDB := zh hdb;clear hX hP hD hlt hXv hpb hdb hst htp;go_enter Tryz.func106, Tryz.ntmps106
 go_wp2_with fail
 go_step3
 go_wp2_with fail
 go_quiet (fail)
 go_wp2_with fail
 go_quiet (fail)
 go_wp2_with fail
 go_quiet (fail)
 go_wp2_with fail
 go_step3
 go_wp2_with fail
 go_loop [9, 10] (fun t l => ∃ T L : Nat, t = .int .u64 T ∧ l = .int .u64 L ∧ T * v1 + L = X ∧ T ≤ 4294967297 ∧ P < (T + 1) * D) (fun t _ => (intOf t).toNat)
 case atStart =>
  refine ⟨X / v1, X % v1, by simp, by simp, ?_, zu HTP, zu HST⟩;rw [Nat.mul_comm]; exact Nat.div_add_mod X v1
 case round =>
  obtain ⟨T, L, rfl, rfl, hTX, hTl, hPT⟩ := hrel;have hLX : L ≤ X := by omega
  have hTXh := zh hTX;have hPTh := zh hPT;clear hTX hPT;by_cases hL : L ≤ 4294967295
  ·have hor2 : bits .or .u64 ((L : Int) * 4294967296) (u0 : Int) = ((L * 4294967296 + u0 : Nat) : Int) := or_top (by omega) kx0;by_cases hT : 4294967295 < T
   ·have hnew := zh (g_many (T := T) (by omega) (zu HLT));have hdn := zh (g_down (zu hTXh) (by omega));go_wp2
    go_round
    case rel => exact ⟨T - 1, by omega, L + v1, by omega, zu hdn, by omega, by rw [show T - 1 + 1 = T by omega]; exact zu hnew⟩
    case measure => simp [intOf]; omega
   ·have hmul := mul_fits (a := T) (b := v0) (by omega) ky0;by_cases hc : L * 4294967296 + u0 < T * v0
    ·have hT0 : 0 < T := by
      rcases Nat.eq_zero_or_pos T with e | e
      ·subst e; omega
      ·exact e
     have hnew := zh (guess_lower (zu HP) (zu HD) (zu HPB) (g_less (zu hTXh) hc));have hdn := zh (g_down (zu hTXh) hT0);go_wp2
     go_round
     case rel => exact ⟨T - 1, by omega, L + v1, by omega, zu hdn, by omega, by rw [show T - 1 + 1 = T by omega]; exact zu hnew⟩
     case measure => simp [intOf]; omega
    ·have hend := zh (guess_end (zu HP) (zu HD) (zu HDB) (show T < 4294967296 by omega) (by omega) (g_not (zu hTXh) (by omega)));go_wp2
     try rw [Exit.noGoto_ret]
     go_ret;exact ⟨T, by simp, by omega, zu hPTh, zu hend, _, rfl⟩
  ·have hT := g_fits (zu hTXh) (by omega) (zu HXV);have hend := zh (guess_end (zu HP) (zu HD) (zu HDB) hT (by omega) (g_not (zu hTXh) (g_far hT ky0 (by omega))));go_wp2
   try rw [Exit.noGoto_ret]
   go_ret;exact ⟨T, by simp, by omega, zu hPTh, zu hend, _, rfl⟩

/-
 What long.takeAway does: b times x is taken from a part of a row, in place; true: it went round below 0.
-/

theorem take_step {U Z P n bo x y p c0 c1 r bo' b Y bk : Nat} (hb : b = bk * Y) (h : U + x * P * bk = Z + (n + bo) * b) (hc : n + x * y = c0 + c1 * 4294967296) (hd : r + c0 + bo = p + bo' * 4294967296) : U + r * b + x * (P + y * Y) * bk = Z + p * b + (c1 + bo') * (b * 4294967296) := by
 have e1 : (c1 + bo') * (b * 4294967296) = c1 * 4294967296 * b + bo' * 4294967296 * b := by
  rw [Nat.add_mul, Nat.mul_comm b, ← Nat.mul_assoc, ← Nat.mul_assoc]
 have e2 : x * (P + y * Y) * bk = x * P * bk + x * y * b := by
  rw [Nat.mul_add, Nat.add_mul, hb, ← Nat.mul_assoc x y, Nat.mul_assoc (x * y), Nat.mul_comm Y]
 have h1 : (n + x * y) * b = (c0 + c1 * 4294967296) * b := by rw [hc]
 have h2 : (r + c0 + bo) * b = (p + bo' * 4294967296) * b := by rw [hd]
 rw [Nat.add_mul] at h h1;rw [Nat.add_mul] at h1 h2;rw [Nat.add_mul, Nat.add_mul] at h2;rw [e1, e2];omega

theorem sub_wrap {p c bo : Nat} (ci : Int) (hci : ci = (c : Int)) (hp : p < 4294967296) (hc : c < 4294967296) (hbo : bo ≤ 1) : ∃ r t : Nat, IntKind.u64.wrap (IntKind.u64.wrap ((p : Int) - ci) - (bo : Int)) / 9223372036854775808 = (t : Int) ∧ IntKind.u64.wrap (IntKind.u64.wrap ((p : Int) - ci) - (bo : Int)) % 4294967296 = (r : Int) ∧ t ≤ 1 ∧ r < 4294967296 ∧ r + c + bo = p + t * 4294967296 := by
 subst hci;rw [IntKind.wrap_u64, IntKind.wrap_u64];rcases Nat.lt_or_ge p (c + bo) with h | h
 ·exact ⟨p + 4294967296 - c - bo, 1, by omega, by omega, by omega, by omega, by omega⟩
 ·exact ⟨p - c - bo, 0, by omega, by omega, by omega, by omega, by omega⟩

set_option maxRecDepth 20000 in
set_option maxHeartbeats 1000000 in
theorem takeAway_any (base g N cap : Nat) (zs : List Nat) (o c' : Nat) (ab : Option Addr) (lb cb : Nat) (ys : List Nat) (x : Nat) (w : World)
  (hown0 : Own w base (.slice (some ⟨g, 0, none⟩) N cap) N zs) (hsm0 : Small zs) (hb : RowAt w ab lb cb ys) (hoff : Off g ab lb) (hfit : o + lb + 1 ≤ N) (hx : x < 4294967296) :
  Calls Tryz.prog 107 #[.slice (some ⟨g, o, none⟩) (lb + 1) c', .slice ab lb cb, .int .u32 (x : Int)] w fun e w' => ∃ (c : Nat) (us : List Nat), e = .returned (.bool (decide (c = 1))) ∧ c ≤ 1 ∧ Own w' base (.slice (some ⟨g, 0, none⟩) N cap) N us ∧ Small us ∧ (∀ i, i < o ∨ o + lb + 1 ≤ i → lim us i = lim zs i) ∧ pre us (o + lb + 1) + x * val ys * Bp o = pre zs (o + lb + 1) + c * Bp (o + lb + 1) ∧ Only g w w' := by
 go_enter Tryz.func107, Tryz.ntmps107;have hm2 := hb.cap_max;have hc2 := hb.cap_le;unfold maxLen at hm2
 go_wp2_with fail
 go_loopw [7, 8, 15] (fun v bv j wq => ∃ (m n bo : Nat) (us : List Nat), m ≤ lb ∧ j = .int .i64 m ∧ v = .int .u64 n ∧ bv = .int .u64 bo ∧ n < 4294967296 ∧ bo ≤ 1 ∧ Own wq base (.slice (some ⟨g, 0, none⟩) N cap) N us ∧ Small us ∧ pre us (o + m) + x * pre ys m * Bp o = pre zs (o + m) + (n + bo) * Bp (o + m) ∧ (∀ i, i < o ∨ o + m ≤ i → lim us i = lim zs i) ∧ Only g w wq) (fun _ _ j _ => lb - (intOf j).toNat)
 case atStart => exact ⟨0, 0, 0, zs, by omega, rfl, rfl, rfl, by omega, by omega, hown0, hsm0, by simp [pre_zero], fun _ _ => rfl, Only.refl _ _⟩
 case round =>
  obtain ⟨m, n, bo, us, hm, rfl, rfl, rfl, hn, hbo, hown, hsm, hval, hsame, honly⟩ := hrel;have HV := zh hval;have HS := zh hsame;clear hval hsame;have ulen := zh hown.len;by_cases hq : m < lb
  ·obtain ⟨b1, o1, rfl, hb1, hcx⟩ := (hb.only hoff honly).cells (by omega);have cx := hcx m hq;have cs := hown.cell (i := o + m) (by omega);have cf := hown.free (o + m);have hby := hb.small m;have hbu := hsm (o + m);have hmul := mul_fits hx hby;clear hcx;go_wp2;go_roundw
   case rel =>
    obtain ⟨r, t, e1, e2, ht, hr, hrt⟩ := sub_wrap (p := lim us (o + m)) (c := (n + x * lim ys m) % 4294967296) (bo := bo) (((n : Int) + (x : Int) * (lim ys m : Int)) % 4294967296) (by simp) hbu (by omega) hbo;rw [e1, e2];refine ⟨m + 1, (n + x * lim ys m) / 4294967296, t, us.set (o + m) r, by omega, by go_num, by simp, rfl, by omega, ht, hown.set _ _ rfl, small_set hsm hr, ?_, fun i hi => ?_, honly.setCell _ _⟩
    ·rw [show o + (m + 1) = o + m + 1 by omega, pre_succ, pre_set_lt _ _ _ _ (Nat.le_refl _) (by rw [zu ulen]; omega), lim_set _ _ _ _ (by rw [zu ulen]; omega), if_pos rfl, Bp_succ, pre_succ, pre_succ, ← zu HS (o + m) (Or.inr (Nat.le_refl _))];exact take_step (Bp_add o m) (zu HV) (by omega) hrt
    ·rw [lim_set _ _ _ _ (by rw [zu ulen]; omega), if_neg (by omega)];exact zu HS i (by omega)
   case measure => simp [intOf]; omega
  ·have hm1 : m = lb := by omega
   have cs := hown.cell (i := o + lb) (by omega);have cf := hown.free (o + lb);have hbu := hsm (o + lb);have hv : pre ys m = val ys := pre_len (by rw [hb.len_eq]; omega);have HW := zh hv;clear hv;obtain ⟨r, t, e1, e2, ht, hr, hrt⟩ := sub_wrap (p := lim us (o + lb)) (c := n) (bo := bo) (n : Int) rfl hbu hn hbo;go_wp2;go_ret;refine ⟨t, us.set (o + lb) r, ?_, ht, hown.set _ _ rfl, small_set hsm hr, fun i hi => ?_, ?_, honly.setCell _ _⟩
   ·rcases (show t = 0 ∨ t = 1 by omega) with e | e <;> simp [e]
   ·rw [lim_set _ _ _ _ (by rw [zu ulen]; omega), if_neg (by omega)];exact zu HS i (by omega)
   ·have h1 := zu HV;rw [hm1] at h1;rw [pre_succ, pre_set_lt _ _ _ _ (Nat.le_refl _) (by rw [zu ulen]; omega), lim_set _ _ _ _ (by rw [zu ulen]; omega), if_pos rfl, Bp_succ, pre_succ, ← zu HS (o + lb) (Or.inr (by omega)), ← zu HW, hm1];have h2 := take_step (x := x) (y := 0) (c1 := 0) (c0 := n) (Y := Bp lb) (Bp_add o lb) h1 (by omega) hrt;rw [Nat.zero_mul, Nat.add_zero, Nat.zero_add] at h2;exact h2

/-
 What long.giveBack does: b is added to a part of a row, in place; what is carried beyond the part is lost.
-/

theorem addTimes_one (base g N cap : Nat) (zs : List Nat) (o c' : Nat) (ab : Option Addr) (lb cb : Nat) (ys : List Nat) (w : World)
  (hown0 : Own w base (.slice (some ⟨g, 0, none⟩) N cap) N zs) (hsm0 : Small zs) (hb : RowAt w ab lb cb ys) (hoff : Off g ab lb) (hfit : o + lb + 1 ≤ N) :
  Calls Tryz.prog 95 #[.slice (some ⟨g, o, none⟩) lb c', .slice ab lb cb, .int .u32 1] w fun e w' => ∃ (c : Nat) (us : List Nat), e = .returned (.int .u32 (c : Int)) ∧ c < 4294967296 ∧ w'.cell? ⟨g, o + lb, none⟩ = some (.int .u32 (lim zs (o + lb) : Int)) ∧ w'.frozen? ⟨g, o + lb, none⟩ = false ∧ Hid (Own w' base (.slice (some ⟨g, 0, none⟩) N cap) N us ∧ Small us ∧ (∀ i, i < o ∨ o + lb ≤ i → lim us i = lim zs i) ∧ pre us (o + lb) + c * Bp (o + lb) = pre zs (o + lb) + val ys * Bp o ∧ Only g w w') := by
 refine (addTimes_any base g N cap zs o c' ab lb cb ys 1 w hown0 hsm0 hb hoff (by omega) (by omega)).mono ?_;rintro e w' ⟨c, us, h1, h2, h3, h4, h5, h6, h7⟩;refine ⟨c, us, h1, h2, ?_, h3.free _, h3, h4, h5, ?_, h7⟩
 ·rw [← h5 (o + lb) (Or.inr (Nat.le_refl _))];exact h3.cell (by omega)
 ·rw [Nat.one_mul] at h6;exact h6
theorem give_end {U Z c p b V k : Nat} (h : U + c * b = Z + V * k) : U + (p + c) % 4294967296 * b + (p + c) / 4294967296 * (b * 4294967296) = Z + p * b + V * k := by
 have h1 := carry_eq (p + c) b;rw [Nat.add_mul] at h1;omega

set_option maxRecDepth 20000 in
set_option maxHeartbeats 1000000 in
theorem giveBack_any (base g N cap : Nat) (zs : List Nat) (o c' : Nat) (ab : Option Addr) (lb cb : Nat) (ys : List Nat) (w : World)
  (hown0 : Own w base (.slice (some ⟨g, 0, none⟩) N cap) N zs) (hsm0 : Small zs) (hb : RowAt w ab lb cb ys) (hoff : Off g ab lb) (hfit : o + lb + 1 ≤ N) (hc : lb + 1 ≤ c') :
  Calls Tryz.prog 108 #[.slice (some ⟨g, o, none⟩) (lb + 1) c', .slice ab lb cb] w fun e w' => ∃ (c : Nat) (us : List Nat), e = .returned (.tuple #[]) ∧ Own w' base (.slice (some ⟨g, 0, none⟩) N cap) N us ∧ Small us ∧ (∀ i, i < o ∨ o + lb + 1 ≤ i → lim us i = lim zs i) ∧ pre us (o + lb + 1) + c * Bp (o + lb + 1) = pre zs (o + lb + 1) + val ys * Bp o ∧ Only g w w' := by
 have hm2 := hb.cap_max;have hc2 := hb.cap_le;unfold maxLen at hm2;have cs := hown0.cell (i := o + lb) (by omega);have cf := hown0.free (o + lb);have hbu := hsm0 (o + lb);go_enter Tryz.func108, Tryz.ntmps108
 go_wp2_with fail
 have hownD : Own w.drew base (.slice (some ⟨g, 0, none⟩) N cap) N zs := hown0;have hbD : RowAt w.drew ab lb cb ys := hb.za (Below.refl _ _).drew;have HOD := zh hownD;have HBD := zh hbD;clear hownD hbD
 go_region_with (go_at_call 95; refine (addTimes_one base g N cap zs o _ ab lb cb ys _ (zu HOD) hsm0 (zu HBD) hoff hfit).mono ?_; rintro e w2 ⟨c, us, rfl, hcl, cs2, cf2, hall⟩)
 all_goals go_wp2
 all_goals
  first | go_end0 | refine bodyPost_ret (results_none rfl _ _ _) rfl ?_
  obtain ⟨h3, h4, h5, h6, h7⟩ := zu hall;have ulen := h3.len;have e : ((lim zs (o + lb) : Int) + (c : Int)) % 4294967296 = (((lim zs (o + lb) + c) % 4294967296 : Nat) : Int) := by simp
  refine ⟨(lim zs (o + lb) + c) / 4294967296, us.set (o + lb) ((lim zs (o + lb) + c) % 4294967296), rfl, h3.set _ _ e, small_set h4 (by omega), fun i hi => ?_, ?_, ?_⟩
  ·rw [lim_set _ _ _ _ (by rw [ulen]; omega), if_neg (by omega)];exact h5 i (by omega)
  ·rw [pre_succ, pre_set_lt _ _ _ _ (Nat.le_refl _) (by rw [ulen]; omega), lim_set _ _ _ _ (by rw [ulen]; omega), if_pos rfl, Bp_succ, pre_succ];exact give_end h6
  ·exact ((Only.refl g w).drewN 1 |>.then h7).setCell _ _

/-
 What long.divide does: the quotient in a row of its own; what is left stays in the row that was handed in.
-/

set_option maxRecDepth 20000 in
set_option maxHeartbeats 2000000 in
theorem divide_any (base g N cap : Nat) (zs : List Nat) (ab : Option Addr) (lb cb : Nat) (ys : List Nat) (w : World)
  (hown0 : Own w base (.slice (some ⟨g, 0, none⟩) N cap) N zs) (hsm0 : Small zs) (hb : RowAt w ab lb cb ys) (hoff : Off g ab lb) (hlb : 2 ≤ lb) (hfit : lb + 1 ≤ N) (hN : N ≤ 10000001)
  (htop : 2147483648 ≤ lim ys (lb - 1)) (hlt : val (zs.drop (N - lb)) < val ys) :
  Calls Tryz.prog 101 #[.slice (some ⟨g, 0, none⟩) N cap, .slice ab lb cb] w fun e w' => ∃ ao' len' cap' us, e = .returned (.slice ao' len' cap') ∧ NumAt w' ao' len' cap' (val zs / val ys) ∧ Own w' base (.slice (some ⟨g, 0, none⟩) N cap) N us ∧ Small us ∧ val us = val zs % val ys ∧ Only g w w' := by
 have hm2 := hb.cap_max;have hc2 := hb.cap_le;obtain ⟨hcp1, hcp2⟩ := hown0.cap;unfold maxLen at hm2 hcp2;have hgl := hown0.lt;have hDlt : val ys < Bp lb := by have := val_lt hb.small; rwa [hb.len_eq] at this
 have HDL := zh hDlt;have HLT := zh hlt;clear hDlt hlt;go_enter Tryz.func101, Tryz.ntmps101
 go_wp2_with (at_make; refine make_row rfl _ _ rfl w.heap.size .i64 .i64 _ _ (N - lb) rfl rfl (by omega) (by omega) (by omega) (Nat.le_refl _) ?_)
 intro w1 hown1 hgrow1;have honly1 : Only g w w1 := ⟨hgrow1.os, hgrow1.tape, hgrow1.output, hgrow1.size, fun k hk _ => hgrow1.block k hk (by simp)⟩;have hownR := hown0.only (g := w.heap.size) (by omega) ⟨hgrow1.os, hgrow1.tape, hgrow1.output, hgrow1.size, fun k hk _ => hgrow1.block k hk (by simp)⟩;clear hgrow1
 go_wp2_with fail
 go_loopw [6] (fun i wr => ∃ (k : Nat) (us qs : List Nat), k ≤ N - lb ∧ i = .int .i64 ((k : Int) - 1) ∧ Own wr base (.slice (some ⟨g, 0, none⟩) N cap) N us ∧ Small us ∧ Own wr w.heap.size (.slice (some ⟨w.heap.size, 0, none⟩) (N - lb) (N - lb)) (N - lb) qs ∧ Small qs ∧ val (us.drop k) < val ys ∧ val (zs.drop k) = val (qs.drop k) * val ys + val (us.drop k) ∧ (∀ t, t < k → lim us t = lim zs t) ∧ Only g w wr) (fun i _ => (intOf i + 1).toNat)
 case atStart =>
  refine ⟨N - lb, zs, _, Nat.le_refl _, by go_num, hownR, hsm0, hown1, small_replicate _, zu HLT, ?_, fun _ _ => rfl, honly1⟩;rw [val_drop_end (xs := List.replicate _ 0) (by simp), Nat.zero_mul, Nat.zero_add]
 case round =>
  obtain ⟨k, us, qs, hk, rfl, hown, hsm, hownq, hsmq, hlt, hval, hsame, honly⟩ := hrel;have HV := zh hval;have HS := zh hsame;have HL := zh hlt;clear hval hsame hlt;by_cases hp : 0 < k
  ·have ulen := zh hown.len;have qlen := zh hownq.len;have hbr := hb.only hoff honly;have hr := hown.part hsm (o := k - 1) (m := lb + 1) (c := cap - (k - 1)) (by omega) (by omega) (by omega) (by unfold maxLen; omega);have hz : ∀ i, k - 1 + (lb + 1) ≤ i → lim us i = 0 := by
    intro i hi;have := zero_above (Nat.lt_trans (zu HL) (zu HDL)) (i - k) (by omega);rw [lim_drop, show k + (i - k) = i by omega] at this;exact this
   have hpv := part_all (us := us) (o := k - 1) (m := lb + 1) (by rw [zu ulen]; omega) hz;have hstep := val_drop_step us (k - 1);rw [show k - 1 + 1 = k by omega, ← hpv] at hstep;have hPlt : val ((us.drop (k - 1)).take (lb + 1)) < 4294967296 * val ys := by
    rw [hstep];have h1 := zu HL;have h2 := hsm (k - 1);omega
   have hlen : k - 1 + lb + 1 - (k - 1) = lb + 1 := by omega
   have HR := zh hr;have HP := zh hPlt;have HST := zh hstep;have HZ := zh hz;clear hr hPlt hpv hstep hz
   go_wp2_with fail
   refine (guess_any _ _ _ _ _ _ ys _ (zu HR) hbr hlb htop (zu HP)).mono ?_;rintro e w2 ⟨T, rfl, hT, hg1, hg2, nk, hw2⟩;have hb2 : Below wr.heap.size wr w2 := by rw [hw2]; exact below_drewN (Below.refl _ _) nk
   have HG1 := zh hg1;have HG2 := zh hg2;have hown2 := hown.za hb2;have hownq2 := hownq.za hb2;have honly2 := honly.then (Only.below hb2);have cs := hownq2.cell (i := k - 1) (by omega);have cf := hownq2.free (k - 1);clear hw2 hg1 hg2 hown hownq honly hb2 hbr HR;have hownq3 := hownq2.set (k - 1) T (e := (T : Int)) rfl;have hownr3 := hown2.only (g := w.heap.size) (by omega) ((Only.refl _ _).setCell (k - 1) (.int .u32 (T : Int)))
   go_wp2_with fail
   have honly3 : Only g w (w2.setCell ⟨w.heap.size, k - 1, none⟩ (.int .u32 (T : Int))) := honly2.above (Nat.le_refl _) _ _;refine (takeAway_any base g N cap us (k - 1) _ _ lb _ ys T _ hownr3 hsm (hb.only hoff honly3) hoff (by omega) hT).mono ?_;rintro e w4 ⟨c, us4, rfl, hc, hown4, hsm4, hsame4, hval4, ho4⟩;have honly4 := honly3.then ho4;have hownq4 := hownq3.only (g := g) (by omega) ho4;have u4len := zh hown4.len;have he := part_eq (us := us) (vs := us4) (o := k - 1) (m := lb + 1) (by rw [zu ulen]; omega) (by rw [zu u4len]; omega) (fun i hi => hsame4 i (Or.inl hi)) hval4;have HE := zh he;have HS4 := zh hsame4;clear he hsame4 hval4 ho4 hownq3 hownr3 hown2 hownq2 honly2 honly3 cs cf;have hfin : ∀ (vs : List Nat) (t : Nat), vs.length = N → (∀ i, i < k - 1 ∨ k - 1 + lb + 1 ≤ i → lim vs i = lim us i) → val ((vs.drop (k - 1)).take (lb + 1)) < val ys → val ((us.drop (k - 1)).take (lb + 1)) = t * val ys + val ((vs.drop (k - 1)).take (lb + 1)) →
     val (vs.drop (k - 1)) < val ys ∧ val (zs.drop (k - 1)) = val (((qs.set (k - 1) t)).drop (k - 1)) * val ys + val (vs.drop (k - 1)) ∧ ∀ i, i < k - 1 → lim vs i = lim zs i := by
    intro vs t hl hs h1 h2;have h3 := part_all (us := vs) (o := k - 1) (m := lb + 1) (by omega) (fun i hi => by rw [hs i (Or.inr (by omega))]; exact zu HZ i hi);refine ⟨by rw [← h3]; exact h1, ?_, fun i hi => by rw [hs i (Or.inl hi)]; exact zu HS i (by omega)⟩;rw [val_drop_set _ _ _ (by rw [zu qlen]; omega), val_drop_step zs (k - 1), show k - 1 + 1 = k by omega, ← zu HS (k - 1) (by omega), ← h3];exact div_limb (zu HV) (zu HST) h2
   have HF := zh hfin;clear hfin;rcases (show c = 0 ∨ c = 1 by omega) with rfl | rfl
   ·have hd := div_took (by have := zu HE; rw [Nat.zero_mul, Nat.add_zero] at this; exact this) (zu HG1);obtain ⟨f1, f2, f3⟩ := zu HF us4 T (zu u4len) (fun i hi => zu HS4 i (by omega)) hd.1 hd.2;have F1 := zh f1;have F2 := zh f2;have F3 := zh f3;clear hd f1 f2 f3 HF HE;go_wp2;go_roundw
    case rel => exact ⟨k - 1, us4, qs.set (k - 1) T, by omega, by go_num, hown4, hsm4, hownq4, small_set hsmq hT, zu F1, zu F2, zu F3, honly4⟩
    case measure => simp [intOf]; omega
   ·have hT1 : 0 < T := by
     rcases Nat.eq_zero_or_pos T with e | e
     ·exfalso
      have h1 := zu HE;rw [e, Nat.zero_mul, Nat.add_zero, Nat.one_mul] at h1;have h2 := val_lt (small_take (small_drop hsm4 (k - 1)) (lb + 1));rw [List.length_take, List.length_drop, zu u4len, Nat.min_eq_left (by omega)] at h2;omega
     ·exact e
    have cs := hownq4.cell (i := k - 1) (by omega);rw [lim_set _ _ _ _ (by rw [zu qlen]; omega), if_pos rfl] at cs;have cf := hownq4.free (k - 1);have hownq5 := hownq4.set (k - 1) (T - 1) (e := (T : Int) - 1) (by omega);rw [List.set_set] at hownq5;have hownr5 := hown4.only (g := w.heap.size) (by omega) ((Only.refl _ _).setCell (k - 1) (.int .u32 ((T : Int) - 1)));have honly5 : Only g w (w4.setCell ⟨w.heap.size, k - 1, none⟩ (.int .u32 ((T : Int) - 1))) := honly4.above (Nat.le_refl _) _ _;clear hown4 hownq4 honly4
    go_wp2_with fail
    refine (giveBack_any base g N cap us4 (k - 1) _ _ lb _ ys _ hownr5 hsm4 (hb.only hoff honly5) hoff (by omega) (by omega)).mono ?_;rintro e w6 ⟨c6, us6, rfl, hown6, hsm6, hsame6, hval6, ho6⟩;have honly6 := honly5.then ho6;have hownq6 := hownq5.only (g := g) (by omega) ho6;have u6len := zh hown6.len;have he6 := part_eq (us := us6) (vs := us4) (o := k - 1) (m := lb + 1) (by rw [zu u6len]; omega) (by rw [zu u4len]; omega) (fun i hi => (hsame6 i (Or.inl hi)).symm) hval6.symm;have hm4 := val_lt (small_take (small_drop hsm4 (k - 1)) (lb + 1));rw [List.length_take, List.length_drop, zu u4len, Nat.min_eq_left (by omega)] at hm4;have hm6 := val_lt (small_take (small_drop hsm6 (k - 1)) (lb + 1));rw [List.length_take, List.length_drop, zu u6len, Nat.min_eq_left (by omega)] at hm6;have hd := div_gave (by have := zu HE; rw [Nat.one_mul] at this; exact this) he6.symm (zu HG2) hm4 hm6 (Nat.le_of_lt (Nat.lt_of_lt_of_le (zu HDL) (Bp_le (by omega))));obtain ⟨f1, f2, f3⟩ := zu HF us6 (T - 1) (zu u6len) (fun i hi => by rw [hsame6 i hi]; exact zu HS4 i (by omega)) hd.2.1 hd.2.2;have F1 := zh f1;have F2 := zh f2;have F3 := zh f3;clear hd f1 f2 f3 HF HE hm4 hm6 he6 hsame6 hval6 ho6;go_wp2;go_roundw
    case rel => exact ⟨k - 1, us6, qs.set (k - 1) (T - 1), by omega, by go_num, hown6, hsm6, hownq6, small_set hsmq (by omega), zu F1, zu F2, zu F3, honly6⟩
    case measure => simp [intOf]; omega
  ·obtain rfl : k = 0 := by omega
   have hrq := rowAt_own hownq hsmq;have h1 := zu HV;have h2 := zu HL;rw [List.drop_zero, List.drop_zero, List.drop_zero] at h1;rw [List.drop_zero] at h2;have hd := div_done h1 h2;have HD := zh hd;clear h1 h2 hd
   go_wp2_with fail
   refine (lcut_any _ _ _ qs _ hrq).mono ?_;rintro e w' ⟨⟨a3, l3, c3, rfl, hnum, hl3⟩, rfl⟩;rw [← (zu HD).1] at hnum;go_wp2;go_ret;exact ⟨_, _, _, us, rfl, hnum, hown, hsm, (zu HD).2.symm, honly⟩

/-
 What long.DivMod does: the quotient, rounded down, and what is left; false, if b is 0.
-/

theorem row_int (xi : Int) (x : Nat) (w : World) (h : xi = (x : Int)) (hx : x < 18446744073709551616) :
  Calls Tryz.prog 98 #[.int .u64 xi] w fun e w' => ∃ ao' len' cap', e = .returned (.slice ao' len' cap') ∧ NumAt w' ao' len' cap' x ∧ Below w.heap.size w w' := by
 subst h;exact row_any x w hx
theorem rem_castT (X Y : Nat) : (X : Int).tmod (Y : Int) = ((X % Y : Nat) : Int) := by rw [Int.tmod_eq_emod_of_nonneg (by omega)]; rfl
theorem rem_castE (X Y : Nat) : (X : Int) % (Y : Int) = ((X % Y : Nat) : Int) := by simp

set_option maxRecDepth 20000 in
set_option maxHeartbeats 2000000 in
theorem divmod_yes (aa : Option Addr) (la ca : Nat) (xs : List Nat) (ab : Option Addr) (lb cb : Nat) (ys : List Nat) (w : World) (ha : RowAt w aa la ca xs) (hb : RowAt w ab lb cb ys) (hla : la ≤ 10000000) (hlb : lb ≤ 10000000) (hD : 0 < val ys) :
  Calls Tryz.prog 89 #[.slice aa la ca, .slice ab lb cb] w fun e w' => ∃ a1 l1 c1 a2 l2 c2, e = .returned (.tuple #[.slice a1 l1 c1, .slice a2 l2 c2, .bool true]) ∧ NumAt w' a1 l1 c1 (val xs / val ys) ∧ NumAt w' a2 l2 c2 (val xs % val ys) ∧ Below w.heap.size w w' := by
 obtain ⟨A, hA⟩ : ∃ A, A = val xs := ⟨_, rfl⟩;obtain ⟨D, hB⟩ : ∃ D, D = val ys := ⟨_, rfl⟩;rw [← hA, ← hB];rw [← hB] at hD;go_enter Tryz.func89, Tryz.ntmps89
 go_wp2_with fail
 refine (lcut_any _ _ _ xs _ ha).mono ?_;rintro e w' ⟨⟨a1, l1, c1, rfl, ⟨xs1, hx1, nx1, vx1⟩, hl1⟩, rfl⟩
 go_wp2_with fail
 refine (lcut_any _ _ _ ys _ hb).mono ?_;rintro e w' ⟨⟨a2, l2, c2, rfl, ⟨ys1, hy1, ny1, vy1⟩, hl2⟩, rfl⟩;rw [← hA] at vx1;rw [← hB] at vy1;have hm1 := hx1.cap_max;have hm2 := hy1.cap_max;have hc1 := hx1.cap_le;have hc2 := hy1.cap_le;unfold maxLen at hm1 hm2;have HX := zh nx1;have HY := zh ny1;have HD := zh hD;have hl2p : 0 < l2 := by
  rcases Nat.eq_zero_or_pos l2 with e | e
  ·exfalso
   rw [List.eq_nil_of_length_eq_zero (show ys1.length = 0 by rw [hy1.len_eq, e]), val_nil] at vy1;omega
  ·exact e
 have hz2 : ((l2 : Int) == 0) = false := by simp; omega
 have VX := zh vx1;have VY := zh vy1;clear vx1 vy1 nx1 ny1 ha hb hD hA hB;by_cases hsh : l1 < l2
 ·have hlt := norm_lt_len hx1.small (zu HY) (by rw [hx1.len_eq, hy1.len_eq]; exact hsh);rw [zu VX, zu VY] at hlt;have HLT := zh hlt;clear hlt
  go_wp2_with fail
  refine (trim_any _ _ _ xs1 _ hx1 (by omega)).mono ?_;rintro e w1 ⟨a4, l4, c4, rfl, hn4, hw4⟩;go_wp2
  go_ret3
  refine ⟨_, _, _, _, _, _, rfl, ?_, ?_, hw4⟩
  ·rw [Nat.div_eq_of_lt (zu HLT)]; exact numAt_nil _
  ·rw [Nat.mod_eq_of_lt (zu HLT), ← zu VX]; exact hn4
 by_cases hwd : l1 ≤ 2
 ·have hXl : val xs1 < 18446744073709551616 := by
   have := Nat.lt_of_lt_of_le (val_lt hx1.small) (Bp_le (show xs1.length ≤ 2 by rw [hx1.len_eq]; exact hwd))
   rwa [show Bp 2 = 18446744073709551616 from rfl] at this
  rw [zu VX] at hXl;have HXL := zh hXl;have k1 := word_any _ _ _ xs1 _ hx1 hwd;have k2 := word_any _ _ _ ys1 _ hy1 (by omega);rw [zu VX] at k1;rw [zu VY] at k2;clear hXl
  go_wp2_with fail
  refine k1.mono ?_;rintro e w' ⟨rfl, rfl⟩
  go_wp2_with fail
  refine k2.mono ?_;rintro e w' ⟨rfl, rfl⟩;clear k1 k2;have hY0 : 0 < D := zu HD;have hY1 : (1 : Int) ≤ (D : Int) := by omega
  have hYb : ((D : Int) == 0) = false := by simp; omega
  have hXl := zu HXL;have hq := zh (Nat.lt_of_le_of_lt (Nat.div_le_self A D) hXl);have hr := zh (Nat.lt_of_le_of_lt (Nat.mod_le A D) hXl);have hcq := zh (quo_cast64 (Y := D) hXl);have hcT := zh (rem_castT A D);have hcE := zh (rem_castE A D);clear hXl
  go_wp2_with fail
  go_region_with (first | (go_at_call_of 98 (IntKind.u64.wrap ((A : Int) / (D : Int))); refine (row_int _ (A / D) _ (zu hcq) (zu hq)).mono ?_; rintro e w3 ⟨a3, l3, c3, rfl, hn3, hw3⟩) | (go_at_call_of 98 ((A : Int).tmod (D : Int)); refine (row_int _ (A % D) _ (zu hcT) (zu hr)).mono ?_; rintro e w4 ⟨a4, l4, c4, rfl, hn4, hw4⟩) | (go_at_call_of 98 ((A : Int) % (D : Int)); refine (row_int _ (A % D) _ (zu hcE) (zu hr)).mono ?_; rintro e w4 ⟨a4, l4, c4, rfl, hn4, hw4⟩))
  all_goals go_wp2
  all_goals
   go_ret3
   refine ⟨a3, l3, c3, a4, l4, c4, rfl, hn3.za hw4, hn4, ?_⟩;have hw3' : Below w.heap.size w w3 := (Below.refl w.heap.size w).drew.trans hw3;exact hw3'.trans (hw4.mono hw3'.size)
 by_cases hone : l2 = 1
 ·subst hone;obtain ⟨b2, o2, rfl, hb2, hcy⟩ := hy1.cells (by omega);have cy := hcy 0 (by omega);rw [Nat.add_zero] at cy;have hy0 := hy1.small 0;have hv : lim ys1 0 = D := by
   have e : val ys1 = pre ys1 1 := by unfold val; rw [hy1.len_eq]
   rw [← zu VY, e, pre_succ, pre_zero, Bp_zero];omega
  rw [hv] at cy hy0;have h0 := zu HD;have k := over_yes _ _ _ xs1 D _ hx1 (by omega) (by omega) hy0;rw [zu VX] at k;have hml := Nat.mod_lt A h0;clear hcy hv
  go_wp2_with fail
  refine k.mono ?_;rintro e w1 ⟨a3, l3, c3, rfl, hn3, hw3⟩;have kr := row_int ((A : Int) % (D : Int)) (A % D) w1 (rem_castE A D) (by omega);have KR := zh kr;clear k kr
  go_wp2_with fail
  refine (zu KR).mono ?_;rintro e w2 ⟨a4, l4, c4, rfl, hn4, hw4⟩;go_wp2
  go_ret3
  exact ⟨_, _, _, _, _, _, rfl, hn3.za hw4, hn4, Below.step hw3 hw4⟩
 have h1b : ((l2 : Int) == 1) = false := by simp; omega
 go_wp2_with fail
 refine (bits_any _ _ _ ys1 _ hy1 (by omega)).mono ?_;rintro e w' ⟨nb, rfl, hnb, rfl⟩;obtain ⟨s, hs32, hns, hsl, hsg⟩ := shift_bits hy1.small (zu HY) (by rw [hy1.len_eq]; omega) hnb;rw [hy1.len_eq] at hns hsl hsg;rw [zu VY] at hsl hsg;have hAl : A < Bp l1 := by rw [← zu VX, ← hx1.len_eq]; exact val_lt hx1.small
 have hsi : 32 * (l2 : Int) - (nb : Int) = (s : Int) := by omega
 have hcl : cl (s : Int) = s := cl_nat (by omega);have HSL := zh hsl;have HSG := zh hsg;have HAL := zh hAl;have HCL := zh hcl;clear hnb hsl hsg hAl hcl hns
 go_wp2_with (at_make; refine make_row rfl _ _ rfl w.heap.size .i64 .i64 _ _ (l1 + 1) rfl rfl (by omega) (by omega) (by omega) (Nat.le_refl _) ?_)
 intro w1 hown1 hgrow1;have hbel1 : Below w.heap.size w w1 := (Below.refl _ _).grown hgrow1 (Nat.le_refl _) (fun _ h => by simp at h);clear hgrow1;have kA := left_new _ _ _ xs1 (s : Int) w1 (hx1.za hbel1) (by omega);rw [zu VX, zu HCL] at kA;have KA := zh kA;clear kA
 go_wp2_with fail
 refine (zu KA).mono ?_;rintro e w2 ⟨a3, l3, c3, rfl, ⟨zs3, hz3, nz3, vz3⟩, _, hw2⟩;have hl3 : l3 ≤ l1 + 1 := by
  rw [← hz3.len_eq];exact norm_len nz3 (by rw [vz3]; exact shift_fits (zu HAL) hs32)
 have hown2 := hown1.za hw2;have hbel2 := Below.step hbel1 hw2;have VZ := zh vz3;clear KA nz3 vz3 hown1 hw2
 go_wp2_with (refine copy_part rfl (.tmp 73) (.tmp 76) rfl w.heap.size w.heap.size (l1 + 1) (l1 + 1) (List.replicate (l1 + 1) 0) zs3 rfl hown2 _ l3 c3 rfl hz3 hl3 ?_)
 intro w3 hown3 hgrow3;have hbel3 : Below w.heap.size w w3 := Below.only hbel2 hgrow3 hbel2.size (Nat.le_refl _);have hsm3 : Small (zs3 ++ List.replicate (l1 + 1 - l3) 0) := small_append hz3.small (small_replicate _);have hv3 : val (zs3 ++ List.replicate (l1 + 1 - l3) 0) = A * 2 ^ s := by rw [val_zeros]; exact zu VZ
 have htp := shift_top hsm3 (zu HAL) hs32 hv3 (show l2 ≤ l1 by omega) (zu HSG);have HV3 := zh hv3;have HTP := zh htp;generalize zs3 ++ List.replicate (l1 + 1 - l3) 0 = us3 at *;clear hgrow3 hown2 hz3 VZ hv3 htp hbel2;have kB := left_new _ _ _ ys1 (s : Int) w3 (hy1.za hbel3) (by omega);rw [zu VY, zu HCL] at kB;have KB := zh kB;clear kB
 go_wp2_with fail
 refine (zu KB).mono ?_;rintro e w4 ⟨a5, l5, c5, rfl, ⟨ds, hd5, nd5, vd5⟩, hnew5, hw4⟩;have hlen5 := shift_len hd5.small nd5 (l := l2) (by omega) (by rw [vd5]; exact zu HSL) (by rw [vd5]; exact zu HSG);rw [hd5.len_eq] at hlen5;obtain ⟨rfl, htop5⟩ := hlen5;have hown4 := hown3.za hw4;have hbel4 := Below.step hbel3 hw4;have hoff5 : Off w.heap.size a5 l5 := off_new hnew5 hown3.lt;have kD := divide_any w.heap.size w.heap.size (l1 + 1) (l1 + 1) us3 a5 l5 c5 ds w4 hown4 hsm3 hd5 hoff5 (by omega) (by omega) (by omega) htop5 (by rw [vd5]; exact zu HTP);rw [vd5, zu HV3, shift_quo] at kD;have KD := zh kD;clear kD KB hown3 hnew5 hown4 hoff5 hbel3 nd5 vd5 htop5 hw4
 go_wp2_with fail
 refine (zu KD).mono ?_;rintro e w6 ⟨a6, l6, c6, us6, rfl, hn6, hown6, hsm6, hv6, ho6⟩;have hbel6 : Below w.heap.size w w6 := Below.only hbel4 ho6 hbel4.size (Nat.le_refl _);have hr6 := (rowAt_own hown6 hsm6).take (n := l5) (by omega);have hvt : val (us6.take l5) = val us6 := by
  refine val_take (by rw [hown6.len]; omega) (fun i hi _ => zero_above (n := l5) ?_ i hi);rw [hv6];exact Nat.lt_trans (Nat.mod_lt _ (Nat.mul_pos (zu HD) (Nat.pow_pos (by omega)))) (zu HSL)
 have kR := right_any _ _ _ _ (s : Int) w6 hr6 (by omega);rw [hvt, hv6, zu HCL, shift_rem] at kR;have KR := zh kR;clear kR KD hvt hv6 hr6 hown6 hsm6 ho6 hbel4
 go_wp2_with fail
 refine (zu KR).mono ?_;rintro e w7 ⟨a7, l7, c7, rfl, hn7, hw7⟩;go_wp2
 go_ret3
 exact ⟨_, _, _, _, _, _, rfl, hn6.za hw7, hn7, Below.step hbel6 hw7⟩

/-
 The contracts of package long and of the reference's Trim, told of numbers (IN PARTS).
-/

theorem mul_num (aa : Option Addr) (la ca A : Nat) (ab : Option Addr) (lb cb B : Nat) (w : World) (ha : ValAt w aa la ca A) (hb : ValAt w ab lb cb B) (hla : la ≤ 1000000) (hlb : lb ≤ 1000000) : Calls Tryz.prog 81 #[.slice aa la ca, .slice ab lb cb] w fun e w' => ∃ ao' len' cap', e = .returned (.slice ao' len' cap') ∧ NumAt w' ao' len' cap' (A * B) ∧ Below w.heap.size w w' := by
 obtain ⟨xs, hx, rfl⟩ := ha;obtain ⟨ys, hy, rfl⟩ := hb;exact mul_any _ _ _ xs _ _ _ ys w hx hy (by omega) (by omega)
theorem divmod_num (aa : Option Addr) (la ca A : Nat) (ab : Option Addr) (lb cb B : Nat) (w : World) (ha : ValAt w aa la ca A) (hb : ValAt w ab lb cb B) (hla : la ≤ 1000000) (hlb : lb ≤ 1000000) (hB : 0 < B) : Calls Tryz.prog 89 #[.slice aa la ca, .slice ab lb cb] w fun e w' => ∃ a1 l1 c1 a2 l2 c2, e = .returned (.tuple #[.slice a1 l1 c1, .slice a2 l2 c2, .bool true]) ∧ NumAt w' a1 l1 c1 (A / B) ∧ NumAt w' a2 l2 c2 (A % B) ∧ Below w.heap.size w w' := by
 obtain ⟨xs, hx, rfl⟩ := ha;obtain ⟨ys, hy, rfl⟩ := hb;exact divmod_yes _ _ _ xs _ _ _ ys w hx hy (by omega) (by omega) hB
end Go.Proofs.YtnpneloahajniaaGreat
