/-
 What at and places of package vec tell, and the reference's At and Room; how many places there may be; what max of two lengths is (IN PARTS).
-/
import Derived.Test.YtnpneloahajniaaGreatJE
import Derived.Deep.CutRange
namespace Go.Proofs.YtnpneloahajniaaGreat
open Go.RowKit Lb
set_option maxRecDepth 20000

def room (n : Int) : Nat := if n < 0 then 0 else if 64 < n then 64 else n.toNat
theorem room_le (n : Int) : room n ≤ 64 := by unfold room; split <;> (try split) <;> omega
theorem max_room (n : Int) (ts : Array TypeId) (t : TypeId) (W : World) : (Builtin.max_ ts t #[.int .i64 n, .int .i64 0]).run Tryz.prog W = .ok (.int .i64 (max n 0)) W := by
 rw [run_max_int2]; congr 2; split <;> omega
theorem min_room (n : Int) (ts : Array TypeId) (t : TypeId) (W : World) : (Builtin.min_ ts t #[.int .i64 (max n 0), .int .i64 64]).run Tryz.prog W = .ok (.int .i64 (room n : Int)) W := by
 rw [run_min_int2]; congr 2; unfold room; split <;> split <;> (try split) <;> omega
theorem max_len (n m : Nat) (ts : Array TypeId) (t : TypeId) (W : World) : (Builtin.max_ ts t #[.int .i64 (n : Int), .int .i64 (m : Int)]).run Tryz.prog W = .ok (.int .i64 ((max n m : Nat) : Int)) W := by
 rw [run_max_int2]; congr 2; split <;> omega
theorem min_len (n m : Nat) (ts : Array TypeId) (t : TypeId) (W : World) : (Builtin.min_ ts t #[.int .i64 (n : Int), .int .i64 (m : Int)]).run Tryz.prog W = .ok (.int .i64 ((min n m : Nat) : Int)) W := by
 rw [run_min_int2]; congr 2; split <;> omega
theorem put_each {ps : List Int} {i : Nat} {f : Nat → Int} (hi : i < ps.length) (h : ∀ j, j < i → ps.getD j 0 = f j) : ∀ j, j < i + 1 → (ps.set i (f i)).getD j 0 = f j := by
 intro j hj;by_cases e : j = i
 ·subst e;simp [List.getD, hi]
 ·rw [show (ps.set i (f i)).getD j 0 = ps.getD j 0 by simp [List.getD, List.getElem?_set_ne (Ne.symm e)]];exact h j (by omega)

set_option maxHeartbeats 800000 in
theorem atK (ao : Option Addr) (n cap : Nat) (zs : List Int) (k : Nat) (i : Nat) (w : World) (h : VK w ao n cap zs k) (hk : k ≤ 900000) (hi : i ≤ 1000000000) :
  Calls Tryz.prog 52 #[.slice ao n cap, .int .i64 (i : Int)] w fun e w' => ∃ b1 a1 l1 c1, e = .returned (.agg #[.bool b1, .slice a1 l1 c1]) ∧ IK w' b1 a1 l1 c1 (zs.getD i 0) k ∧ Below w.heap.size w w' := by
 have hm := Nat.le_trans h.cap_le h.cap_max;have hl := h.len_eq;unfold maxLen at hm;go_enter Tryz.func52, Tryz.ntmps52
 go_upto_region 1 with fail
 obtain ⟨W, hWe⟩ : ∃ W, W = w.alloc (.cells #[.bool false, .slice none 0 0] 45) := ⟨_, rfl⟩;obtain ⟨B0, hb0⟩ := boxes1 w false none 0 0 hWe;rw [← hWe];clear hWe;have hsz := B0.lt;obtain ⟨q1, q2, q3, q4⟩ := B0.zb;by_cases hlt : i < n
 ·obtain ⟨g, off, rfl⟩ := h.some (by omega);obtain ⟨b2, a2, l2, c2, he, hy⟩ := (h.za hb0).at hlt;obtain ⟨f1, f2⟩ := he.zb;have hg1 := he.1;go_wp2;refine bodyPost_ret (v := .agg #[.bool b2, .slice a2 l2 c2]) (by simp [results, Tryz.results52, go_sem, *]) rfl ⟨_, _, _, _, rfl, ?_⟩;exact ⟨hy.put B0.noLimb _ _ _ _, below_put hb0 (by omega) _ _ _ _⟩
 ·go_wp2;refine bodyPost_ret (v := .agg #[.bool false, .slice none 0 0]) (by simp [results, Tryz.results52, go_sem, *]) rfl ⟨_, _, _, _, rfl, ?_⟩;rw [getD_out (by omega)];exact ⟨((fk_zero W k).ik (by omega)).put B0.noLimb _ _ _ _, below_put hb0 (by omega) _ _ _ _⟩
set_option maxHeartbeats 800000 in
theorem roomK (n : Int) (w : World) : Calls Tryz.prog 58 #[.int .i64 n] w fun e w' => e = .returned (.int .i64 (room n : Int)) ∧ Below w.heap.size w w' := by
 have hmax := max_room n;have hmin := min_room n;obtain ⟨m, em⟩ : ∃ m, m = max n 0 := ⟨_, rfl⟩;rw [← em] at hmax hmin;clear em;go_enter Tryz.func58, Tryz.ntmps58;go_wp2;go_ret;exact ⟨rfl, Below.refl _ _⟩
set_option maxHeartbeats 800000 in
theorem ratK (ao : Option Addr) (n cap : Nat) (zs : List Int) (k : Nat) (i : Nat) (w : World) (h : VK w ao n cap zs k) (hi : i ≤ 1000000000) :
  Calls Tryz.prog 59 #[.slice ao n cap, .int .i64 (i : Int)] w fun e w' => ∃ b1 a1 l1 c1, e = .returned (.agg #[.bool b1, .slice a1 l1 c1]) ∧ FK w' b1 a1 l1 c1 (zs.getD i 0) k ∧ Below w.heap.size w w' := by
 have hm := Nat.le_trans h.cap_le h.cap_max;have hl := h.len_eq;unfold maxLen at hm;go_enter Tryz.func59, Tryz.ntmps59;obtain ⟨z, ez⟩ : ∃ z, z = zs.getD i 0 := ⟨_, rfl⟩;rw [← ez];have EZ := zh ez;clear ez
 go_upto_region 1 with fail
 obtain ⟨W, hWe⟩ : ∃ W, W = w.alloc (.cells #[.bool false, .slice none 0 0] 45) := ⟨_, rfl⟩;obtain ⟨B0, hb0⟩ := boxes1 w false none 0 0 hWe;rw [← hWe];clear hWe;by_cases hlt : i < n
 ·obtain ⟨g, off, rfl⟩ := h.some (by omega);obtain ⟨b2, a2, l2, c2, he, hy⟩ := (h.za hb0).at hlt;obtain ⟨f1, f2⟩ := he.zb;have hg1 := he.1;have hi1 : (i : Int) < (n : Int) := by omega
  go_wp2_with fail
  refine (rformK _ _ _ _ (zs.getD i 0) k _ hy).mono ?_;rintro e w2 ⟨b3, a3, l3, c3, rfl, h3, hb1⟩;rw [← zu EZ] at h3;replace B0 := B0.za hb1;have HB := Below.step hb0 hb1;clear hb0 hb1 f1 f2 hg1 he hy;have hsz := B0.lt;obtain ⟨q1, q2, q3, q4⟩ := B0.zb;go_wp2;refine bodyPost_ret (v := .agg #[.bool b3, .slice a3 l3 c3]) (by simp [results, Tryz.results59, go_sem, *]) rfl ⟨_, _, _, _, rfl, ?_⟩;exact ⟨h3.put B0.noLimb _ _ _ _, below_put HB (by omega) _ _ _ _⟩
 ·have hsz := B0.lt;obtain ⟨q1, q2, q3, q4⟩ := B0.zb;have hi1 : ¬ (i : Int) < (n : Int) := by omega
  go_wp2;refine bodyPost_ret (v := .agg #[.bool false, .slice none 0 0]) (by simp [results, Tryz.results59, go_sem, *]) rfl (Or.inl ⟨_, _, _, rfl, ?_⟩);rw [zu EZ, getD_out (by omega)];exact ⟨(fk_zero W k).put B0.noLimb _ _ _ _, below_put hb0 (by omega) _ _ _ _⟩

/-
 What Add and Sub of package vec tell. (IN PARTS)
-/

set_option maxHeartbeats 1600000 in
theorem vaddK (ao : Option Addr) (n cap : Nat) (zs : List Int) (k : Nat) (ao' : Option Addr) (n' cap' : Nat) (ys : List Int) (l : Nat) (w : World) (h : VK w ao n cap zs k) (h' : VK w ao' n' cap' ys l) (hk : k ≤ 900000) (hl : l ≤ 900000) (hn : n ≤ 1000000) (hn' : n' ≤ 1000000) :
  Calls Tryz.prog 18 #[.slice ao n cap, .slice ao' n' cap'] w fun e w' => ∃ a1 c1, e = .returned (.slice a1 (max n n') c1) ∧ VF w' a1 (max n n') c1 (vadd zs ys) (max k l + 1) ∧ Below w.heap.size w w' := by
 have hmax := max_len n n';have HL := zh h.len_eq;have HL' := zh h'.len_eq;obtain ⟨m, em⟩ : ∃ m, m = max n n' := ⟨_, rfl⟩;rw [← em] at hmax ⊢;have hm : m ≤ 1000000 := by omega
 have EM := zh em;clear em;obtain ⟨K, eK⟩ : ∃ K, K = max k l + 1 := ⟨_, rfl⟩;rw [← eK];have EK := zh eK;clear eK;go_enter Tryz.func18, Tryz.ntmps18
 go_wp2_with (at_make; refine make_vec rfl _ _ 39 Tryz.underlying39 rfl w.heap.size .i64 .i64 _ _ m K rfl rfl (by omega) (by omega) (by omega) (by omega) ?_)
 intro w2 hown hgrow;have HB := zh ((Below.refl w.heap.size w).grown hgrow (Nat.le_refl _) (fun _ h => by simp at h));clear hgrow hmax;obtain ⟨gv, egv⟩ : ∃ gv, gv = w.heap.size := ⟨_, rfl⟩;rw [show (some ⟨w.heap.size, 0, none⟩ : Option Addr) = some ⟨gv, 0, none⟩ by rw [egv]] at hown ⊢;clear egv
 go_wp2_with fail
 go_loopw [15] (fun t wr => ∃ (i : Nat) (ps : List Int), i ≤ m ∧ t = .int .i64 (i : Int) ∧ OwnV wr w.heap.size (some ⟨gv, 0, none⟩) m m ps K ∧ (∀ j, j < i → ps.getD j 0 = zs.getD j 0 + ys.getD j 0) ∧ Below w.heap.size w wr) (fun t _ => m - (intOf t).toNat)
 case atStart => exact ⟨0, _, Nat.zero_le _, rfl, hown, fun j hj => absurd hj (by omega), zu HB⟩
 case round =>
  obtain ⟨i, ps, hi, rfl, hv, hall, hB⟩ := hrel;have HA := zh hall;clear hall hown HB;have HB := zh hB;clear hB;by_cases hlt : i < m
  ·go_wp2_with fail
   refine (atK _ _ _ zs k i _ (h.za (zu HB)) hk (by omega)).mono ?_;rintro e w3 ⟨b3, a3, l3, c3, rfl, h3, hb1⟩;replace hv := hv.za hb1;replace HB := zh (Below.step (zu HB) hb1);clear hb1
   go_wp2_with fail
   refine (atK _ _ _ ys l i _ (h'.za (zu HB)) hl (by omega)).mono ?_;rintro e w4 ⟨b4, a4, l4, c4, rfl, h4, hb1⟩;replace hv := hv.za hb1;replace h3 := h3.za hb1;replace HB := zh (Below.step (zu HB) hb1);clear hb1
   go_wp2_with fail
   refine (addK _ _ _ _ (zs.getD i 0) k _ _ _ _ (ys.getD i 0) l _ h3 h4).mono ?_;rintro e w5 ⟨b5, a5, l5, c5, rfl, h5, hb1⟩;rw [← zu EK] at h5;replace hv := hv.za hb1;replace HB := zh (Below.step (zu HB) hb1);clear hb1 h3 h4;obtain ⟨b6, a6, l6, c6, he6, _⟩ := hv.vf.at (show i < m by omega);rw [Nat.zero_add] at he6;obtain ⟨q1, q2⟩ := he6.zb;have q3 := hv.free (i * 2);have q4 := hv.free (i * 2 + 1);have hbl := hv.base_le;go_wp2;go_roundw
   case rel =>
    refine ⟨i + 1, ps.set i (zs.getD i 0 + ys.getD i 0), by omega, by go_num, hv.set (by omega) h5, put_each (f := fun j => zs.getD j 0 + ys.getD j 0) (by rw [hv.len]; omega) (zu HA), ?_⟩;exact ((zu HB).setCell (by simpa using hbl.1) _).setCell (by simpa using hbl.1) _
   case measure => simp [intOf]; omega
  ·have hin : i = m := by omega
   subst hin;have hps : ps = vadd zs ys := vec_ext (by rw [hv.len, vadd_len, zu HL, zu HL', zu EM]) fun j hj => by rw [vadd_at]; exact zu HA j (by rw [hv.len] at hj; exact hj)
   subst hps;go_wp2;go_ret;exact ⟨_, _, rfl, hv.vf, zu HB⟩

theorem own_fresh8 {w : World} {base : Nat} {ao : Option Addr} {n cap k : Nat} {zs : List Int} (h : OwnV w base ao n cap zs k) {g off : Nat} (e : ao = some ⟨g, off, none⟩) : base ≤ g := by
 subst e;exact own_ge h g (by simp [Value.ownBlock])
set_option maxHeartbeats 1600000 in
theorem vsubF (ao : Option Addr) (n cap : Nat) (zs : List Int) (k : Nat) (ao' : Option Addr) (n' cap' : Nat) (ys : List Int) (l : Nat) (w : World) (h : VK w ao n cap zs k) (h' : VK w ao' n' cap' ys l) (hk : k ≤ 900000) (hl : l ≤ 900000) (hn : n ≤ 1000000) (hn' : n' ≤ 1000000) :
  Calls Tryz.prog 60 #[.slice ao n cap, .slice ao' n' cap'] w fun e w' => ∃ a1 c1, e = .returned (.slice a1 (max n n') c1) ∧ VF w' a1 (max n n') c1 (vsub zs ys) (max k l + 1) ∧ (∀ g off, a1 = some ⟨g, off, none⟩ → w.heap.size ≤ g) ∧ Below w.heap.size w w' := by
 have hmax := max_len n n';have HL := zh h.len_eq;have HL' := zh h'.len_eq;obtain ⟨m, em⟩ : ∃ m, m = max n n' := ⟨_, rfl⟩;rw [← em] at hmax ⊢;have hm : m ≤ 1000000 := by omega
 have EM := zh em;clear em;obtain ⟨K, eK⟩ : ∃ K, K = max k l + 1 := ⟨_, rfl⟩;rw [← eK];have EK := zh eK;clear eK;go_enter Tryz.func60, Tryz.ntmps60
 go_wp2_with (at_make; refine make_vec rfl _ _ 39 Tryz.underlying39 rfl w.heap.size .i64 .i64 _ _ m K rfl rfl (by omega) (by omega) (by omega) (by omega) ?_)
 intro w2 hown hgrow;have HB := zh ((Below.refl w.heap.size w).grown hgrow (Nat.le_refl _) (fun _ h => by simp at h));clear hgrow hmax;obtain ⟨gv, egv⟩ : ∃ gv, gv = w.heap.size := ⟨_, rfl⟩;rw [show (some ⟨w.heap.size, 0, none⟩ : Option Addr) = some ⟨gv, 0, none⟩ by rw [egv]] at hown ⊢;clear egv
 go_wp2_with fail
 go_loopw [15] (fun t wr => ∃ (i : Nat) (ps : List Int), i ≤ m ∧ t = .int .i64 (i : Int) ∧ OwnV wr w.heap.size (some ⟨gv, 0, none⟩) m m ps K ∧ (∀ j, j < i → ps.getD j 0 = zs.getD j 0 - ys.getD j 0) ∧ Below w.heap.size w wr) (fun t _ => m - (intOf t).toNat)
 case atStart => exact ⟨0, _, Nat.zero_le _, rfl, hown, fun j hj => absurd hj (by omega), zu HB⟩
 case round =>
  obtain ⟨i, ps, hi, rfl, hv, hall, hB⟩ := hrel;have HA := zh hall;clear hall hown HB;have HB := zh hB;clear hB;by_cases hlt : i < m
  ·go_wp2_with fail
   refine (atK _ _ _ zs k i _ (h.za (zu HB)) hk (by omega)).mono ?_;rintro e w3 ⟨b3, a3, l3, c3, rfl, h3, hb1⟩;replace hv := hv.za hb1;replace HB := zh (Below.step (zu HB) hb1);clear hb1
   go_wp2_with fail
   refine (atK _ _ _ ys l i _ (h'.za (zu HB)) hl (by omega)).mono ?_;rintro e w4 ⟨b4, a4, l4, c4, rfl, h4, hb1⟩;replace hv := hv.za hb1;replace h3 := h3.za hb1;replace HB := zh (Below.step (zu HB) hb1);clear hb1
   go_wp2_with fail
   refine (subK _ _ _ _ (zs.getD i 0) k _ _ _ _ (ys.getD i 0) l _ h3 h4).mono ?_;rintro e w5 ⟨b5, a5, l5, c5, rfl, h5, hb1⟩;rw [← zu EK] at h5;replace hv := hv.za hb1;replace HB := zh (Below.step (zu HB) hb1);clear hb1 h3 h4;obtain ⟨b6, a6, l6, c6, he6, _⟩ := hv.vf.at (show i < m by omega);rw [Nat.zero_add] at he6;obtain ⟨q1, q2⟩ := he6.zb;have q3 := hv.free (i * 2);have q4 := hv.free (i * 2 + 1);have hbl := hv.base_le;go_wp2;go_roundw
   case rel =>
    refine ⟨i + 1, ps.set i (zs.getD i 0 - ys.getD i 0), by omega, by go_num, hv.set (by omega) h5, put_each (f := fun j => zs.getD j 0 - ys.getD j 0) (by rw [hv.len]; omega) (zu HA), ?_⟩;exact ((zu HB).setCell (by simpa using hbl.1) _).setCell (by simpa using hbl.1) _
   case measure => simp [intOf]; omega
  ·have hin : i = m := by omega
   subst hin;have hps : ps = vsub zs ys := vec_ext (by rw [hv.len, vsub_len, zu HL, zu HL', zu EM]) fun j hj => by rw [vsub_at]; exact zu HA j (by rw [hv.len] at hj; exact hj)
   subst hps;go_wp2;go_ret;exact ⟨_, _, rfl, hv.vf, fun g off e => own_fresh8 hv e, zu HB⟩
theorem vsubK (ao : Option Addr) (n cap : Nat) (zs : List Int) (k : Nat) (ao' : Option Addr) (n' cap' : Nat) (ys : List Int) (l : Nat) (w : World) (h : VK w ao n cap zs k) (h' : VK w ao' n' cap' ys l) (hk : k ≤ 900000) (hl : l ≤ 900000) (hn : n ≤ 1000000) (hn' : n' ≤ 1000000) :
  Calls Tryz.prog 60 #[.slice ao n cap, .slice ao' n' cap'] w fun e w' => ∃ a1 c1, e = .returned (.slice a1 (max n n') c1) ∧ VF w' a1 (max n n') c1 (vsub zs ys) (max k l + 1) ∧ Below w.heap.size w w' :=
 (vsubF ao n cap zs k ao' n' cap' ys l w h h' hk hl hn hn').mono fun _ _ ⟨a1, c1, he, h1, _, hb⟩ => ⟨a1, c1, he, h1, hb⟩

/-
 What Neg and Times of package vec tell. (IN PARTS)
-/

set_option maxHeartbeats 1600000 in
theorem vnegK (ao : Option Addr) (n cap : Nat) (zs : List Int) (k : Nat) (w : World) (h : VK w ao n cap zs k) (hn : n ≤ 1000000) :
  Calls Tryz.prog 19 #[.slice ao n cap] w fun e w' => ∃ a1 c1, e = .returned (.slice a1 n c1) ∧ VF w' a1 n c1 (vneg zs) k ∧ Below w.heap.size w w' := by
 have HL := zh h.len_eq;go_enter Tryz.func19, Tryz.ntmps19;have HB := zh (Below.refl w.heap.size w)
 go_wp2_with (at_make; refine make_vec rfl _ _ 39 Tryz.underlying39 rfl w.heap.size .i64 .i64 _ _ n k rfl rfl (by omega) (by omega) (by omega) (by omega) ?_)
 intro w2 hown hgrow;have hbg : Below w.heap.size w w2 := (Below.refl _ _).grown hgrow (Nat.le_refl _) (fun _ h => by simp at h);replace HB := zh (Below.step (zu HB) hbg);clear hgrow hbg;obtain ⟨gv, egv⟩ : ∃ gv, gv = w.heap.size := ⟨_, rfl⟩;rw [show (some ⟨w.heap.size, 0, none⟩ : Option Addr) = some ⟨gv, 0, none⟩ by rw [egv]] at hown ⊢;clear egv
 go_wp2_with fail
 go_loopw [11] (fun t wr => ∃ (i : Nat) (ps : List Int), i ≤ n ∧ t = .int .i64 (i : Int) ∧ OwnV wr w.heap.size (some ⟨gv, 0, none⟩) n n ps k ∧ (∀ j, j < i → ps.getD j 0 = -zs.getD j 0) ∧ Below w.heap.size w wr) (fun t _ => n - (intOf t).toNat)
 case atStart => exact ⟨0, _, Nat.zero_le _, rfl, hown, fun j hj => absurd hj (by omega), zu HB⟩
 case round =>
  clear hown HB;obtain ⟨i, ps, hi, rfl, hv, hall, hB⟩ := hrel;have HA := zh hall;clear hall;have HB := zh hB;clear hB;by_cases hlt : i < n
  ·obtain ⟨g, off, rfl⟩ := h.some (by omega);obtain ⟨b2, a2, l2, c2, he, hy⟩ := (h.za (zu HB)).at hlt;obtain ⟨f1, f2⟩ := he.zb;have hg1 := he.1
   go_wp2_with fail
   obtain ⟨W2, hW2⟩ : ∃ W2, W2 = wr.alloc (.cells #[.bool b2, .slice a2 l2 c2] 45) := ⟨_, rfl⟩;obtain ⟨D0, hb1⟩ := boxes1 wr b2 a2 l2 c2 hW2;rw [← hW2];clear hW2 f1 f2 he D0;replace hv := hv.za hb1;replace hy := hy.za hb1;replace HB := zh (Below.step (zu HB) hb1);clear hb1;refine (negK b2 a2 l2 c2 (zs.getD i 0) k _ hy).mono ?_;rintro e w5 ⟨b5, a5, l5, c5, rfl, h5, hb1⟩;replace hv := hv.za hb1;replace HB := zh (Below.step (zu HB) hb1);clear hb1 hy;obtain ⟨b6, a6, l6, c6, he6, _⟩ := hv.vf.at (show i < n by omega);rw [Nat.zero_add] at he6;obtain ⟨q1, q2⟩ := he6.zb;have q3 := hv.free (i * 2);have q4 := hv.free (i * 2 + 1);have hbl := hv.base_le;go_wp2;go_roundw
   case rel =>
    refine ⟨i + 1, ps.set i (-zs.getD i 0), by omega, by go_num, hv.set (by omega) h5, put_each (f := fun j => -zs.getD j 0) (by rw [hv.len]; omega) (zu HA), ?_⟩;exact ((zu HB).setCell (by simpa using hbl.1) _).setCell (by simpa using hbl.1) _
   case measure => simp [intOf]; omega
  ·have hin : i = n := by omega
   subst hin;have hps := map_of_each (f := fun z => -z) (zu HL) hv.len (zu HA);subst hps;go_wp2;go_ret;exact ⟨_, _, rfl, hv.vf, zu HB⟩

set_option maxHeartbeats 1600000 in
theorem vtimesK (ao : Option Addr) (n cap : Nat) (zs : List Int) (k : Nat) (b0 : Bool) (a0 : Option Addr) (l0 c0 : Nat) (x : Int) (l : Nat) (w : World) (h : VK w ao n cap zs k) (hx : IK w b0 a0 l0 c0 x l) (hn : n ≤ 1000000) :
  Calls Tryz.prog 20 #[.slice ao n cap, .agg #[.bool b0, .slice a0 l0 c0]] w fun e w' => ∃ a1 c1, e = .returned (.slice a1 n c1) ∧ VF w' a1 n c1 (vtimes zs x) (k + l) ∧ Below w.heap.size w w' := by
 have HL := zh h.len_eq;go_enter Tryz.func20, Tryz.ntmps20
 go_upto_region 1 with fail
 obtain ⟨W, hWe⟩ : ∃ W, W = w.alloc (.cells #[.bool b0, .slice a0 l0 c0] 45) := ⟨_, rfl⟩;have hsW : W.heap.size = w.heap.size + 1 := by rw [hWe]; simp
 obtain ⟨B0, hb0⟩ := boxes1 w b0 a0 l0 c0 hWe;rw [← hWe];clear hWe;replace hx := hx.za hb0;have HB := zh hb0;clear hb0
 go_wp2_with (at_make; refine make_vec rfl _ _ 39 Tryz.underlying39 rfl w.heap.size .i64 .i64 _ _ n (k + l) rfl rfl (by omega) (by omega) (by omega) (by omega) ?_)
 intro w2 hown hgrow;have hbg : Below W.heap.size W w2 := (Below.refl _ _).grown hgrow (Nat.le_refl _) (fun _ h => by simp at h);replace B0 := B0.za hbg;replace hx := hx.za hbg;replace HB := zh (Below.step (zu HB) hbg);clear hgrow hbg;obtain ⟨gv, egv⟩ : ∃ gv, gv = w.heap.size + 1 := ⟨_, rfl⟩;rw [← egv] at hown ⊢;have hgb : w.heap.size < gv := by omega
 clear egv hsW
 go_wp2_with fail
 go_loopw [13] (fun t wr => ∃ (i : Nat) (ps : List Int), i ≤ n ∧ t = .int .i64 (i : Int) ∧ Box wr w.heap.size b0 a0 l0 c0 ∧ IK wr b0 a0 l0 c0 x l ∧ OwnV wr w.heap.size (some ⟨gv, 0, none⟩) n n ps (k + l) ∧ (∀ j, j < i → ps.getD j 0 = zs.getD j 0 * x) ∧ Below w.heap.size w wr) (fun t _ => n - (intOf t).toNat)
 case atStart => exact ⟨0, _, Nat.zero_le _, rfl, B0, hx, hown, fun j hj => absurd hj (by omega), zu HB⟩
 case round =>
  clear hown HB B0 hx;obtain ⟨i, ps, hi, rfl, B0, hx, hv, hall, hB⟩ := hrel;have HA := zh hall;clear hall;have HB := zh hB;clear hB;by_cases hlt : i < n
  ·obtain ⟨g, off, rfl⟩ := h.some (by omega);obtain ⟨b2, a2, l2, c2, he, hy⟩ := (h.za (zu HB)).at hlt;obtain ⟨f1, f2⟩ := he.zb;have hg1 := he.1;obtain ⟨f3, f4, _, _⟩ := B0.zb;have hs1 := B0.lt
   go_wp2_with fail
   obtain ⟨W2, hW2⟩ : ∃ W2, W2 = wr.alloc (.cells #[.bool b2, .slice a2 l2 c2] 45) := ⟨_, rfl⟩;obtain ⟨D0, hb1⟩ := boxes1 wr b2 a2 l2 c2 hW2;rw [← hW2];clear hW2 f1 f2 f3 f4 he D0;replace B0 := B0.za hb1;replace hx := hx.za hb1;replace hv := hv.za hb1;replace hy := hy.za hb1;replace HB := zh (Below.step (zu HB) hb1);clear hb1;refine (mulK b2 a2 l2 c2 (zs.getD i 0) k b0 a0 l0 c0 x l _ hy hx).mono ?_;rintro e w5 ⟨b5, a5, l5, c5, rfl, h5, hb1⟩;replace B0 := B0.za hb1;replace hx := hx.za hb1;replace hv := hv.za hb1;replace HB := zh (Below.step (zu HB) hb1);clear hb1 hy;obtain ⟨b6, a6, l6, c6, he6, _⟩ := hv.vf.at (show i < n by omega);rw [Nat.zero_add] at he6;obtain ⟨q1, q2⟩ := he6.zb;have q3 := hv.free (i * 2);have q4 := hv.free (i * 2 + 1);have hbl := hv.base_le;go_wp2;go_roundw
   case rel =>
    have hgr := grown_set2 w5 gv (i * 2) (i * 2 + 1) (.bool b5) (.slice a5 l5 c5);refine ⟨i + 1, ps.set i (zs.getD i 0 * x), by omega, by go_num, B0.grown hgr (fun e => by simp only [Option.some.injEq] at e; omega), hx.grown hgr (noLimb_some hv.noLimb), hv.set (by omega) h5, put_each (f := fun j => zs.getD j 0 * x) (by rw [hv.len]; omega) (zu HA), ?_⟩;exact ((zu HB).setCell (by simpa using hbl.1) _).setCell (by simpa using hbl.1) _
   case measure => simp [intOf]; omega
  ·have hin : i = n := by omega
   subst hin;have hps := map_of_each (f := fun z => z * x) (zu HL) hv.len (zu HA);subst hps;go_wp2;go_ret;exact ⟨_, _, rfl, hv.vf, zu HB⟩

set_option maxHeartbeats 1600000 in
theorem vcmpK (ao : Option Addr) (n cap : Nat) (zs : List Int) (k : Nat) (ao' : Option Addr) (n' cap' : Nat) (ys : List Int) (l : Nat) (w : World) (h : VK w ao n cap zs k) (h' : VK w ao' n' cap' ys l) (hk : k ≤ 900000) (hl : l ≤ 900000) (hn : n ≤ 1000000) (hn' : n' ≤ 1000000) :
  Calls Tryz.prog 119 #[.slice ao n cap, .slice ao' n' cap'] w fun e w' => ∃ c, e = .returned (.int .i64 c) ∧ IsCmp zs ys c ∧ -1 ≤ c ∧ c ≤ 1 ∧ Below w.heap.size w w' := by
 have hmax := max_len n n';have HL := zh h.len_eq;have HL' := zh h'.len_eq;obtain ⟨m, em⟩ : ∃ m, m = max n n' := ⟨_, rfl⟩;rw [← em] at hmax;have hm : m ≤ 1000000 := by omega
 have EM := zh em;clear em;go_enter Tryz.func119, Tryz.ntmps119
 go_wp2_with fail
 go_loopw [12] (fun t wr => ∃ (i : Nat), i ≤ m ∧ t = .int .i64 (i : Int) ∧ (∀ j, j < i → zs.getD j 0 = ys.getD j 0) ∧ Below w.heap.size w wr) (fun t _ => m - (intOf t).toNat)
 case atStart => exact ⟨0, Nat.zero_le _, rfl, fun j hj => absurd hj (by omega), Below.refl _ _⟩
 case round =>
  obtain ⟨i, hi, rfl, hall, hB⟩ := hrel;have HA := zh hall;clear hall;have HB := zh hB;clear hB;by_cases hlt : i < m
  ·have hlt' : (i : Int) < (m : Int) := by omega
   go_wp2_with fail
   refine (atK _ _ _ zs k i _ (h.za (zu HB)) hk (by omega)).mono ?_;rintro e w3 ⟨b3, a3, l3, c3, rfl, h3, hb1⟩;replace HB := zh (Below.step (zu HB) hb1);clear hb1
   go_wp2_with fail
   refine (atK _ _ _ ys l i _ (h'.za (zu HB)) hl (by omega)).mono ?_;rintro e w4 ⟨b4, a4, l4, c4, rfl, h4, hb1⟩;replace h3 := h3.za hb1;replace HB := zh (Below.step (zu HB) hb1);clear hb1;obtain ⟨d, ed⟩ : ∃ d, d = zs.getD i 0 - ys.getD i 0 := ⟨_, rfl⟩;obtain ⟨s, es⟩ : ∃ s, s = d.sign := ⟨_, rfl⟩;have ED := zh ed;have ES := zh (show s = (zs.getD i 0 - ys.getD i 0).sign by rw [es, ed]);clear ed
   go_wp2_with fail
   refine (cmpK _ _ _ _ (zs.getD i 0) k _ _ _ _ (ys.getD i 0) l s _ h3 h4 (zu ES)).mono ?_;rintro e w5 ⟨rfl, hb1⟩;replace HB := zh (Below.step (zu HB) hb1);clear hb1 h3 h4;by_cases h0 : d = 0
   ·have hs : (s != 0) = false := by rw [es, h0]; rfl
    clear es;go_wp2;go_roundw
    case rel =>
     refine ⟨i + 1, by omega, by go_num, fun j hj => ?_, zu HB⟩;by_cases e : j = i
     ·subst e;have := zu ED;omega
     ·exact zu HA j (by omega)
    case measure => simp [intOf]; omega
   ·have hs : (s != 0) = true := by
     rw [bne_iff_ne, es];exact fun e => h0 (Int.sign_eq_zero_iff_zero.1 e)
    have hsb : -1 ≤ s ∧ s ≤ 1 := by
     rcases sgn_cases h0 with ⟨_, e⟩ | ⟨_, e⟩ <;> rw [es, e] <;> omega
    have HS := zh hsb;clear es hsb;go_wp2;go_ret;refine ⟨_, rfl, Or.inr ⟨i, zu HA, ?_, zu ES⟩, (zu HS).1, (zu HS).2, zu HB⟩;have := zu ED;omega
  ·have hlt' : ¬ (i : Int) < (m : Int) := by omega
   go_wp2;go_ret;refine ⟨0, rfl, Or.inl ⟨rfl, fun j => ?_⟩, by omega, by omega, zu HB⟩;have := zu EM;have := zu HL;have := zu HL';by_cases c : j < i
   ·exact zu HA j c
   ·rw [getD_out (by omega), getD_out (by omega)]

/-
 What the reference's Cmp of vectors tells. (IN PARTS)
-/

/-
 What Dot and Norm of package vec tell. (IN PARTS)
-/

theorem vdot_min {zs ys : List Int} {n n' : Nat} (h : zs.length = n) (h' : ys.length = n') : (sumN (min n n') fun j => zs.getD j 0 * ys.getD j 0) = vdot zs ys := by
 subst h h';unfold vdot;symm;refine sumN_upto (fun i hi => ?_) (by omega);rcases (by omega : zs.length ≤ i ∨ ys.length ≤ i) with c | c
 ·rw [getD_out c, Int.zero_mul]
 ·rw [getD_out c, Int.mul_zero]
set_option maxHeartbeats 1600000 in
theorem vdotK (ao : Option Addr) (n cap : Nat) (zs : List Int) (k : Nat) (ao' : Option Addr) (n' cap' : Nat) (ys : List Int) (l : Nat) (w : World) (h : VK w ao n cap zs k) (h' : VK w ao' n' cap' ys l) (hk : k ≤ 400000) (hl : l ≤ 400000) (hn : n ≤ 100000) (hn' : n' ≤ 100000) :
  Calls Tryz.prog 23 #[.slice ao n cap, .slice ao' n' cap'] w fun e w' => ∃ b1 a1 l1 c1, e = .returned (.agg #[.bool b1, .slice a1 l1 c1]) ∧ FK w' b1 a1 l1 c1 (vdot zs ys) (k + l + n) ∧ Below w.heap.size w w' := by
 have HL := zh h.len_eq;have HL' := zh h'.len_eq;have hmin := min_len n n';have EM := zh (vdot_min h.len_eq h'.len_eq);obtain ⟨m, em⟩ : ∃ m, m = min n n' := ⟨_, rfl⟩;rw [← em] at hmin EM;have hmn : m ≤ n := by omega
 have hmn' : m ≤ n' := by omega
 clear em;obtain ⟨F, eF⟩ : ∃ F : Nat → Int, F = fun j => zs.getD j 0 * ys.getD j 0 := ⟨_, rfl⟩;obtain ⟨v, ev⟩ : ∃ v, v = vdot zs ys := ⟨_, rfl⟩;rw [← ev];have EV := zh ev;have EF := zh (show ∀ j, F j = zs.getD j 0 * ys.getD j 0 from fun j => by rw [eF]);have EN := zh (show sumN m F = vdot zs ys by rw [eF]; exact zu EM);clear ev eF;go_enter Tryz.func23, Tryz.ntmps23
 go_wp2_with fail
 obtain ⟨W, hWe⟩ : ∃ W, W = ((w.alloc (.cells #[.bool false, .slice none 0 0] 45)).alloc (.cells #[.bool false, .slice none 0 0] 45)) := ⟨_, rfl⟩;obtain ⟨B0, B1, hb0⟩ := boxes2 w false none 0 0 false none 0 0 hWe;rw [← hWe];clear hWe;go_loopw [12] (fun t wr => ∃ (i : Nat) (b1 : Bool) (a1 : Option Addr) (l1 c1 : Nat), i ≤ m ∧ t = .int .i64 (i : Int) ∧ Box wr w.heap.size false none 0 0 ∧ Box wr (w.heap.size + 1) b1 a1 l1 c1 ∧ FK wr b1 a1 l1 c1 (sumN i F) (k + l + i) ∧ Below w.heap.size w wr) (fun t _ => m - (intOf t).toNat)
 case atStart => exact ⟨0, _, _, _, _, Nat.zero_le _, rfl, B0, B1, fk_zero _ _, hb0⟩
 case round =>
  obtain ⟨i, b1, a1, l1, c1, hi, rfl, C0, C1, hs, hB⟩ := hrel;have HB := zh hB;clear hB B0 B1 hb0;by_cases hlt : i < m
  ·obtain ⟨g2, off2, rfl⟩ := h.some (by omega);obtain ⟨b2, a2, l2, c2, E2, hy2⟩ := (h.za (zu HB)).at (show i < n by omega);obtain ⟨g3, off3, rfl⟩ := h'.some (by omega);obtain ⟨b3, a3, l3, c3, E3, hy3⟩ := (h'.za (zu HB)).at (show i < n' by omega);have hi0 : (0 : Int) ≤ (i : Int) := by omega
   have hi1 : (i : Int) < (n : Int) := by omega
   have hi2 : (i : Int) < (n' : Int) := by omega
   have HW : Below wr.heap.size wr wr.drew := (Below.refl _ _).drew
   go_upto_region 5 with fail
   have zS := zh fun w' (HW : Below wr.heap.size wr w') => con6 (C1.za HW).zb.1 (C1.za HW).zb.2.1 (E2.za HW).zb.1 (E2.za HW).zb.2 (E3.za HW).zb.1 (E3.za HW).zb.2;refine zst zS HW 11 (by kernel_rfl) fun zH => ?_;refine ztl 0 rfl ?_;simp only [Act.put, aGet, aZero, aSet, aHead, aTail];refine ztl 1 rfl ?_;simp only [zP];refine ztl 2 rfl ?_;simp only [zP];refine ztl 3 rfl ?_;simp only [zP];refine ztl 4 rfl ?_;simp only [zP];refine ztl 5 rfl ?_;simp only [zP];refine ztl 6 rfl ?_;simp only [zP];refine ztl 7 rfl ?_;simp only [zP];refine ztl 8 rfl ?_;simp only [zP];refine tin 9 rfl fun K hK => ?_;go_simp;refine (mulK b2 a2 l2 c2 (zs.getD i 0) k b3 a3 l3 c3 (ys.getD i 0) l _ (hy2.za HW) (hy3.za HW)).mono ?_;rintro e w9 ⟨b8, a8, l8, c8, rfl, h8, hb9⟩;replace HW := Below.step HW hb9;clear hb9;refine hK.out _ _ ?_ (fun zH => ?_)
   ·exact zu zS _ HW
   clear hK K
   try simp only [zP]
   refine tin 10 rfl fun K hK => ?_;go_simp;refine (addK b1 a1 l1 c1 (sumN i F) (k + l + i) b8 a8 l8 c8 _ (k + l) _ ((hs.za HW).ik (by omega)) (h8.ik (by omega))).mono ?_;rintro e w9 ⟨b9, a9, l9, c9, rfl, h9, hb9⟩;replace HW := Below.step HW hb9;clear hb9;clear h8;obtain ⟨q1, q2, q3, q4⟩ := (C1.za HW).zb;have hsz := (C1.za HW).lt;refine hK.out _ _ ?_ (fun zH => ?_)
   ·exact zu zS _ HW
   clear hK K
   try simp only [zP]
   refine tout 11 rfl fun K hK => ?_;go_simp;refine hK.out _ _ ?_;clear hK K
   try simp only [zP]
   refine zdn (by kernel_rfl) ?_ _;go_wp2;go_roundw
   case rel =>
    refine ⟨i + 1, _, _, _, _, by omega, by go_num, (C0.za HW).other (g' := w.heap.size + 1) (by omega) b9 a9 l9 c9, (C1.za HW).put b9 a9 l9 c9, ?_, below_put (Below.step (zu HB) HW) (by omega) _ _ _ _⟩;have hput := (h9.put (C1.za HW).noLimb b9 a9 l9 c9).up (show _ ≤ k + l + (i + 1) by omega);exact hput.eq (by rw [sumN, zu EF i])
   case measure => simp [intOf]; omega
  ·have hin : i = m := by omega
   have hval : sumN i F = v := by rw [hin, zu EN, zu EV]
   rw [hval] at hs;clear hval;obtain ⟨f1, f2, _, _⟩ := C1.zb;have hs1 := C1.lt;have hsz := C0.lt;obtain ⟨q1, q2, q3, q4⟩ := C0.zb;go_wp2;refine bodyPost_ret (v := .agg #[.bool b1, .slice a1 l1 c1]) (by simp [results, Tryz.results23, go_sem, *]) rfl ⟨_, _, _, _, rfl, ?_⟩;exact ⟨(hs.put C0.noLimb _ _ _ _).up (by omega), below_put (zu HB) (by omega) _ _ _ _⟩

/-
 What the reference's Dot and Norm tell; vectors of short numbers. (IN PARTS)
-/

def SK (w : World) (b : Bool) (ao : Option Addr) (len cap : Nat) (z : Int) (k : Nat) : Prop := IK w b ao len cap z k ∧ len ≤ k
theorem SK.za {w w' : World} {b : Bool} {ao : Option Addr} {len cap k : Nat} {z : Int} (h : SK w b ao len cap z k) (hb : Below w.heap.size w w') : SK w' b ao len cap z k := ⟨h.1.za hb, h.2⟩
theorem FK.sk {w : World} {b : Bool} {ao : Option Addr} {len cap k : Nat} {z : Int} (h : FK w b ao len cap z k) (hk : k ≤ 999990) : SK w b ao len cap z k := ⟨h.ik hk, h.1.len_le h.2⟩
def VS (w : World) (ao : Option Addr) (n cap : Nat) (zs : List Int) (k : Nat) : Prop := VecOf (fun w b a l c z => SK w b a l c z k) w ao n cap zs
theorem VS.za {w w' : World} {ao : Option Addr} {n cap k : Nat} {zs : List Int} (h : VS w ao n cap zs k) (hb : Below w.heap.size w w') : VS w' ao n cap zs k := VecOf.za (fun h hb => h.za hb) h hb
theorem VS.vk {w : World} {ao : Option Addr} {n cap k : Nat} {zs : List Int} (h : VS w ao n cap zs k) : VK w ao n cap zs k := VecOf.mono h (fun _ h => h.1)
theorem VF.vs {w : World} {ao : Option Addr} {n cap k : Nat} {zs : List Int} (h : VF w ao n cap zs k) (hk : k ≤ 999990) : VS w ao n cap zs k := VecOf.mono h (fun _ h => h.sk hk)
theorem VS.at {w : World} {g off n cap k : Nat} {zs : List Int} (h : VS w (some ⟨g, off, none⟩) n cap zs k) {i : Nat} (hi : i < n) : ∃ b a l c, EltAt w g (off + i * 2) b a l c ∧ SK w b a l c (zs.getD i 0) k := by
 obtain ⟨g', off', e, hg, hc⟩ := h.elts (by omega);simp only [Option.some.injEq, Addr.mk.injEq, and_true] at e;obtain ⟨rfl, rfl⟩ := e;exact hc i hi
theorem FK.len_le {w : World} {b : Bool} {ao : Option Addr} {len cap k : Nat} {z : Int} (h : FK w b ao len cap z k) : len ≤ k := h.1.len_le h.2

set_option maxHeartbeats 1600000 in
theorem rvdotK (ao : Option Addr) (n cap : Nat) (zs : List Int) (k : Nat) (ao' : Option Addr) (n' cap' : Nat) (ys : List Int) (l : Nat) (w : World) (h : VS w ao n cap zs k) (h' : VK w ao' n' cap' ys l) (hk : k ≤ 400000) (hl : l ≤ 400000) (hn : n ≤ 100000) :
  Calls Tryz.prog 41 #[.slice ao n cap, .slice ao' n' cap'] w fun e w' => ∃ b1 a1 l1 c1, e = .returned (.agg #[.bool b1, .slice a1 l1 c1]) ∧ FK w' b1 a1 l1 c1 (vdot zs ys) (k + l + n) ∧ Below w.heap.size w w' := by
 have HL := zh h.len_eq;obtain ⟨F, eF⟩ : ∃ F : Nat → Int, F = fun j => zs.getD j 0 * ys.getD j 0 := ⟨_, rfl⟩;obtain ⟨v, ev⟩ : ∃ v, v = vdot zs ys := ⟨_, rfl⟩;rw [← ev];have EV := zh ev;have EF := zh (show ∀ j, F j = zs.getD j 0 * ys.getD j 0 from fun j => by rw [eF]);have EN := zh (show sumN n F = vdot zs ys by rw [eF]; unfold vdot; rw [zu HL]);clear ev eF;go_enter Tryz.func41, Tryz.ntmps41
 go_wp2_with fail
 obtain ⟨W, hWe⟩ : ∃ W, W = ((w.alloc (.cells #[.bool false, .slice none 0 0] 45)).alloc (.cells #[.bool false, .slice none 0 0] 45)) := ⟨_, rfl⟩;obtain ⟨B0, B1, hb0⟩ := boxes2 w false none 0 0 false none 0 0 hWe;rw [← hWe];clear hWe;go_loopw [6] (fun t wr => ∃ (i : Nat) (b1 : Bool) (a1 : Option Addr) (l1 c1 : Nat), i ≤ n ∧ t = .int .i64 (i : Int) ∧ Box wr w.heap.size false none 0 0 ∧ Box wr (w.heap.size + 1) b1 a1 l1 c1 ∧ FK wr b1 a1 l1 c1 (sumN i F) (k + l + i) ∧ Below w.heap.size w wr) (fun t _ => n - (intOf t).toNat)
 case atStart => exact ⟨0, _, _, _, _, Nat.zero_le _, rfl, B0, B1, fk_zero _ _, hb0⟩
 case round =>
  obtain ⟨i, b1, a1, l1, c1, hi, rfl, C0, C1, hs, hB⟩ := hrel;have HB := zh hB;clear hB B0 B1 hb0;by_cases hlt : i < n
  ·obtain ⟨g2, off2, rfl⟩ := h.some (by omega);obtain ⟨b2, a2, l2, c2, E2, hy2⟩ := (h.za (zu HB)).at (show i < n by omega);have hi0 : (0 : Int) ≤ (i : Int) := by omega
   have hi1 : (i : Int) < (n : Int) := by omega
   have HW : Below wr.heap.size wr wr.drew := (Below.refl _ _).drew
   go_upto_region 5 with fail
   have zS := zh fun w' (HW : Below wr.heap.size wr w') => con4 (C1.za HW).zb.1 (C1.za HW).zb.2.1 (E2.za HW).zb.1 (E2.za HW).zb.2;refine zst zS HW 10 (by kernel_rfl) fun zH => ?_;refine ztl 0 rfl ?_;simp only [Act.put, aGet, aZero, aSet, aHead, aTail];refine ztl 1 rfl ?_;simp only [zP];refine ztl 2 rfl ?_;simp only [zP];refine ztl 3 rfl ?_;simp only [zP];refine ztl 4 rfl ?_;simp only [zP];refine ztl 5 rfl ?_;simp only [zP];refine ztl 6 rfl ?_;simp only [zP];refine tin 7 rfl fun K hK => ?_;go_simp;refine (ratK _ _ _ ys l i _ (h'.za (Below.step (zu HB) HW)) (by omega)).mono ?_;rintro e w9 ⟨b7, a7, l7, c7, rfl, h7, hb9⟩;replace HW := Below.step HW hb9;clear hb9;refine hK.out _ _ ?_ (fun zH => ?_)
   ·exact zu zS _ HW
   clear hK K
   try simp only [zP]
   refine tin 8 rfl fun K hK => ?_;go_simp;refine (rmulK b2 a2 l2 c2 (zs.getD i 0) k b7 a7 l7 c7 (ys.getD i 0) l _ (hy2.1.za HW) (h7.ik (by omega)) (by have := hy2.2; have := h7.len_le; omega)).mono ?_;rintro e w9 ⟨b8, a8, l8, c8, rfl, h8, hb9⟩;replace HW := Below.step HW hb9;clear hb9;clear h7;refine hK.out _ _ ?_ (fun zH => ?_)
   ·exact zu zS _ HW
   clear hK K
   try simp only [zP]
   refine tin 9 rfl fun K hK => ?_;go_simp;refine (raddK b1 a1 l1 c1 (sumN i F) (k + l + i) b8 a8 l8 c8 _ (k + l) _ ((hs.za HW).ik (by omega)) (h8.ik (by omega))).mono ?_;rintro e w9 ⟨b9, a9, l9, c9, rfl, h9, hb9⟩;replace HW := Below.step HW hb9;clear hb9;clear h8;obtain ⟨q1, q2, q3, q4⟩ := (C1.za HW).zb;have hsz := (C1.za HW).lt;refine hK.out _ _ ?_ (fun zH => ?_)
   ·exact zu zS _ HW
   clear hK K
   try simp only [zP]
   refine tout 10 rfl fun K hK => ?_;go_simp;refine hK.out _ _ ?_;clear hK K
   try simp only [zP]
   refine zdn (by kernel_rfl) ?_ _;go_wp2;go_roundw
   case rel =>
    refine ⟨i + 1, _, _, _, _, by omega, by go_num, (C0.za HW).other (g' := w.heap.size + 1) (by omega) b9 a9 l9 c9, (C1.za HW).put b9 a9 l9 c9, ?_, below_put (Below.step (zu HB) HW) (by omega) _ _ _ _⟩;have hput := (h9.put (C1.za HW).noLimb b9 a9 l9 c9).up (show _ ≤ k + l + (i + 1) by omega);exact hput.eq (by rw [sumN, zu EF i])
   case measure => simp [intOf]; omega
  ·have hin : i = n := by omega
   have hval : sumN i F = v := by rw [hin, zu EN, zu EV]
   rw [hval] at hs;clear hval;obtain ⟨f1, f2, _, _⟩ := C1.zb;have hs1 := C1.lt
   go_wp2_with fail
   refine (rformK b1 a1 l1 c1 v (k + l + i) _ (hs.ik (by omega))).mono ?_;rintro e w2 ⟨b9, a9, l9, c9, rfl, h9, hb1⟩;replace C0 := C0.za hb1;replace HB := zh (Below.step (zu HB) hb1);clear hb1 f1 f2 C1 hs hs1;have hsz := C0.lt;obtain ⟨q1, q2, q3, q4⟩ := C0.zb;go_wp2;refine bodyPost_ret (v := .agg #[.bool b9, .slice a9 l9 c9]) (by simp [results, Tryz.results41, go_sem, *]) rfl ⟨_, _, _, _, rfl, ?_⟩;exact ⟨(h9.put C0.noLimb _ _ _ _).up (by omega), below_put (zu HB) (by omega) _ _ _ _⟩

/-
 What the reference's Same, Of, Add, Times, Neg, Sub and Cut of vectors tell. (IN PARTS)
-/

theorem own_noLimb {w : World} {base : Nat} {ao : Option Addr} {n cap k : Nat} {zs : List Int} (h : OwnV w base ao n cap zs k) {g : Nat} (e : (Value.slice ao n cap).ownBlock = some g) : NoLimb w g := by
 rcases ao with _ | ⟨g', off, spot⟩
 ·simp [Value.ownBlock] at e
 ·simp only [Value.ownBlock, Option.some.injEq] at e;subst e;obtain ⟨_, ⟨cs, hrow⟩, hnl⟩ := h;rcases hrow.2 with ⟨h', _⟩ | ⟨g1, cap1, cur, hv, _⟩
  ·simp at h'
  ·simp only [Value.slice.injEq, Option.some.injEq, Addr.mk.injEq] at hv;obtain ⟨⟨rfl, rfl, rfl⟩, _⟩ := hv;exact hnl _ _ rfl
set_option maxHeartbeats 1600000 in
theorem rvsameK (ao : Option Addr) (n cap : Nat) (zs : List Int) (k : Nat) (ao' : Option Addr) (n' cap' : Nat) (ys : List Int) (l : Nat) (w : World) (h : VF w ao n cap zs k) (h' : VF w ao' n' cap' ys l) (e0 : zs = ys) :
  Calls Tryz.prog 44 #[.slice ao n cap, .slice ao' n' cap'] w fun e w' => e = .returned (.bool true) ∧ Below w.heap.size w w' := by
 subst e0;have hnn : n' = n := h'.len_eq.symm.trans h.len_eq;subst hnn;have hm := Nat.le_trans h.cap_le h.cap_max;unfold maxLen at hm;go_enter Tryz.func44, Tryz.ntmps44
 go_wp2_with fail
 go_loopw [5] (fun t wr => ∃ (i : Nat), i ≤ n' ∧ t = .int .i64 (i : Int) ∧ Below w.heap.size w wr) (fun t _ => n' - (intOf t).toNat)
 case atStart => exact ⟨0, Nat.zero_le _, rfl, Below.refl _ _⟩
 case round =>
  obtain ⟨i, hi, rfl, hB⟩ := hrel;have HB := zh hB;clear hB;by_cases hlt : i < n'
  ·obtain ⟨g2, off2, rfl⟩ := h.some (by omega);obtain ⟨b2, a2, l2, c2, E2, hy2⟩ := (h.za (zu HB)).at hlt;obtain ⟨g3, off3, rfl⟩ := h'.some (by omega);obtain ⟨b3, a3, l3, c3, E3, hy3⟩ := (h'.za (zu HB)).at hlt;have hi0 : (0 : Int) ≤ (i : Int) := by omega
   have hi1 : (i : Int) < (n' : Int) := by omega
   have HW : Below wr.heap.size wr wr.drew := (Below.refl _ _).drew
   go_upto_region 6 with fail
   have zS := zh fun w' (HW : Below wr.heap.size wr w') => con4 (E2.za HW).zb.1 (E2.za HW).zb.2 (E3.za HW).zb.1 (E3.za HW).zb.2;refine zst zS HW 9 (by kernel_rfl) fun zH => ?_;refine ztl 0 rfl ?_;simp only [Act.put, aGet, aZero, aSet, aHead, aTail];refine ztl 1 rfl ?_;simp only [zP];refine ztl 2 rfl ?_;simp only [zP];refine ztl 3 rfl ?_;simp only [zP];refine ztl 4 rfl ?_;simp only [zP];refine ztl 5 rfl ?_;simp only [zP];refine ztl 6 rfl ?_;simp only [zP];refine ztl 7 rfl ?_;simp only [zP];refine tin 8 rfl fun K hK => ?_;go_simp;refine (rsameK b2 a2 l2 c2 (zs.getD i 0) k b3 a3 l3 c3 (zs.getD i 0) l _ (hy2.za HW) (hy3.za HW) rfl).mono ?_;rintro e w9 ⟨rfl, hb9⟩;replace HW := Below.step HW hb9;clear hb9;refine hK.out _ _ ?_ (fun zH => ?_)
   ·exact zu zS _ HW
   clear hK K
   try simp only [zP]
   refine tout 9 rfl fun K hK => ?_;go_simp;refine hK.out _ _ ?_;clear hK K
   try simp only [zP]
   refine zdn (by kernel_rfl) ?_ _;go_wp2;go_roundw
   case rel => exact ⟨i + 1, by omega, by go_num, Below.step (zu HB) HW⟩
   case measure => simp [intOf]; omega
  ·have hi1 : ¬ (i : Int) < (n' : Int) := by omega
   go_wp2;go_ret;exact ⟨rfl, zu HB⟩

set_option maxHeartbeats 1600000 in
theorem rvofK (ao : Option Addr) (n cap : Nat) (zs : List Int) (w : World) (h : IRowAt w ao n cap zs) (hn : n ≤ 1000000) :
  Calls Tryz.prog 57 #[.slice ao n cap] w fun e w' => ∃ a1 c1, e = .returned (.slice a1 n c1) ∧ VF w' a1 n c1 zs 2 ∧ Below w.heap.size w w' := by
 have HL := zh h.len_eq;go_enter Tryz.func57, Tryz.ntmps57
 go_wp2_with fail
 go_loopw [3, 4] (fun u t wr => ∃ (i : Nat) (ao' : Option Addr) (cap' : Nat) (rs : List Int), i ≤ n ∧ t = .int .i64 (i : Int) ∧ u = .slice ao' i cap' ∧ OwnV wr w.heap.size ao' i cap' rs 2 ∧ (∀ j, j < i → rs.getD j 0 = zs.getD j 0) ∧ Below w.heap.size w wr) (fun _ t _ => n - (intOf t).toNat)
 case atStart => exact ⟨0, none, 0, [], Nat.zero_le _, rfl, rfl, ownV_nil _ _ _, fun j hj => absurd hj (by omega), Below.refl _ _⟩
 case round =>
  obtain ⟨i, ao', cap', rs, hi, rfl, rfl, hown, hall, hB⟩ := hrel;have HA := zh hall;clear hall;have HB := zh hB;clear hB;by_cases hlt : i < n
  ·obtain ⟨g, off, rfl⟩ := h.addr (by omega);obtain ⟨hg1, f1⟩ := (h.za (zu HB)).at hlt;obtain ⟨hs1, hs2⟩ := h.small i;obtain ⟨z, ez⟩ : ∃ z, z = zs.getD i 0 := ⟨_, rfl⟩;rw [← ez] at f1 hs1 hs2;have EZ := zh ez;clear ez;have hi1 : (i : Int) < (n : Int) := by omega
   go_wp2_with fail
   refine (rofK z _ hs1 hs2).mono ?_;rintro e w5 ⟨b5, a5, l5, c5, rfl, h5, hb9⟩;replace hown := hown.za hb9;replace HB := zh (Below.step (zu HB) hb9);clear hb9;clear f1 hg1 hs1 hs2 hi1;rw [zu EZ] at h5;obtain ⟨W6, hW6⟩ : ∃ W6, W6 = w5.alloc (.cells #[.bool b5, .slice a5 l5 c5] 45) := ⟨_, rfl⟩;obtain ⟨D5, hb9⟩ := boxes1 w5 b5 a5 l5 c5 hW6;replace h5 := h5.za hb9;replace hown := hown.za hb9;replace HB := zh (Below.step (zu HB) hb9);clear hb9;have hE5 : EltAt W6 w5.heap.size 0 b5 a5 l5 c5 := ⟨D5.lt, D5.zb.1, D5.zb.2.1⟩;have hsz := (zu HB).size;clear D5;rw [hW6] at h5 hown hE5 hsz
   go_wp2_with (at_builtin; refine append_vec rfl (.tmp 11) (.tmp 17) 39 Tryz.underlying39 rfl w.heap.size ao' i cap' 2 rs rfl hown (by omega) hsz w5.heap.size 0 1 b5 a5 l5 c5 (zs.getD i 0) rfl hE5 h5 ?_)
   intro gn cn w7 hown2 hgr hat;rw [← hW6] at hgr hown hsz;clear hW6;have HD := (zu HB).grown hgr hsz (own_ge hown);clear hgr hat;go_wp2;go_roundw
   case rel => exact ⟨i + 1, _, _, _, by omega, by go_num, rfl, hown2, snoc_each (f := fun j => zs.getD j 0) hown.len (zu HA), HD⟩
   case measure => simp [intOf]; omega
  ·have hi1 : ¬ (i : Int) < (n : Int) := by omega
   have hin : i = n := by omega
   subst hin;have hps : rs = zs := vec_ext (by rw [hown.len, zu HL]) fun j hj => zu HA j (by rw [hown.len] at hj; exact hj);subst hps;go_wp2;go_ret;exact ⟨_, _, rfl, hown.vf, zu HB⟩

set_option maxHeartbeats 1600000 in
theorem rvaddK (ao : Option Addr) (n cap : Nat) (zs : List Int) (k : Nat) (ap : Option Addr) (n' cp : Nat) (ys : List Int) (l : Nat) (w : World) (h : VK w ao n cap zs k) (h' : VK w ap n' cp ys l) (hk : k ≤ 900000) (hl : l ≤ 900000) (hn : n ≤ 1000000) (hn' : n' ≤ 1000000) :
  Calls Tryz.prog 66 #[.slice ao n cap, .slice ap n' cp] w fun e w' => ∃ a1 c1, e = .returned (.slice a1 (max n n') c1) ∧ VF w' a1 (max n n') c1 (vadd zs ys) (max k l + 1) ∧ Below w.heap.size w w' := by
 have hmax := max_len n n';have HL := zh h.len_eq;have HL' := zh h'.len_eq;obtain ⟨m, em⟩ : ∃ m, m = max n n' := ⟨_, rfl⟩;rw [← em] at hmax ⊢;have hm : m ≤ 1000000 := by omega
 have EM := zh em;clear em;obtain ⟨K, eK⟩ : ∃ K, K = max k l + 1 := ⟨_, rfl⟩;rw [← eK];have EK := zh eK;clear eK;go_enter Tryz.func66, Tryz.ntmps66
 go_wp2_with fail
 go_loopw [5, 6] (fun u t wr => ∃ (i : Nat) (ao' : Option Addr) (cap' : Nat) (rs : List Int), i ≤ m ∧ t = .int .i64 (i : Int) ∧ u = .slice ao' i cap' ∧ OwnV wr w.heap.size ao' i cap' rs K ∧ (∀ j, j < i → rs.getD j 0 = zs.getD j 0 + ys.getD j 0) ∧ Below w.heap.size w wr) (fun _ t _ => m - (intOf t).toNat)
 case atStart => exact ⟨0, none, 0, [], Nat.zero_le _, rfl, rfl, ownV_nil _ _ _, fun j hj => absurd hj (by omega), Below.refl _ _⟩
 case round =>
  obtain ⟨i, ao', cap', rs, hi, rfl, rfl, hown, hall, hB⟩ := hrel;have HA := zh hall;clear hall;have HB := zh hB;clear hB;by_cases hlt : i < m
  ·have hi1 : (i : Int) < (m : Int) := by omega
   go_wp2_with fail
   refine (ratK _ _ _ zs k i _ (h.za (zu HB)) (by omega)).mono ?_;rintro e w3 ⟨b3, a3, l3, c3, rfl, h3, hb9⟩;replace hown := hown.za hb9;replace HB := zh (Below.step (zu HB) hb9);clear hb9
   go_wp2_with fail
   refine (ratK _ _ _ ys l i _ (h'.za (zu HB)) (by omega)).mono ?_;rintro e w4 ⟨b4, a4, l4, c4, rfl, h4, hb9⟩;replace hown := hown.za hb9;replace h3 := h3.za hb9;replace HB := zh (Below.step (zu HB) hb9);clear hb9
   go_wp2_with fail
   refine (raddK _ _ _ _ (zs.getD i 0) k _ _ _ _ (ys.getD i 0) l _ (h3.ik (by omega)) (h4.ik (by omega))).mono ?_;rintro e w5 ⟨b5, a5, l5, c5, rfl, h5, hb9⟩;rw [← zu EK] at h5;replace hown := hown.za hb9;replace HB := zh (Below.step (zu HB) hb9);clear hb9;clear h3 h4;obtain ⟨W6, hW6⟩ : ∃ W6, W6 = w5.alloc (.cells #[.bool b5, .slice a5 l5 c5] 45) := ⟨_, rfl⟩;obtain ⟨D5, hb9⟩ := boxes1 w5 b5 a5 l5 c5 hW6;replace h5 := h5.za hb9;replace hown := hown.za hb9;replace HB := zh (Below.step (zu HB) hb9);clear hb9;have hE5 : EltAt W6 w5.heap.size 0 b5 a5 l5 c5 := ⟨D5.lt, D5.zb.1, D5.zb.2.1⟩;have hsz := (zu HB).size;clear D5;rw [hW6] at h5 hown hE5 hsz
   go_wp2_with (at_builtin; refine append_vec rfl (.tmp 16) (.tmp 24) 39 Tryz.underlying39 rfl w.heap.size ao' i cap' K rs rfl hown (by omega) hsz w5.heap.size 0 1 b5 a5 l5 c5 (zs.getD i 0 + ys.getD i 0) rfl hE5 h5 ?_)
   intro gn cn w7 hown2 hgr hat;rw [← hW6] at hgr hown hsz;clear hW6;have HD := (zu HB).grown hgr hsz (own_ge hown);clear hgr hat;go_wp2;go_roundw
   case rel => exact ⟨i + 1, _, _, _, by omega, by go_num, rfl, hown2, snoc_each (f := fun j => zs.getD j 0 + ys.getD j 0) hown.len (zu HA), HD⟩
   case measure => simp [intOf]; omega
  ·have hi1 : ¬ (i : Int) < (m : Int) := by omega
   have hin : i = m := by omega
   subst hin;have hps : rs = vadd zs ys := vec_ext (by rw [hown.len, vadd_len, zu HL, zu HL', zu EM]) fun j hj => by rw [vadd_at]; exact zu HA j (by rw [hown.len] at hj; exact hj)
   subst hps;go_wp2;go_ret;exact ⟨_, _, rfl, hown.vf, zu HB⟩

set_option maxHeartbeats 1600000 in
theorem rvcutK (ao : Option Addr) (n cap : Nat) (zs : List Int) (k : Nat) (x : Int) (w : World) (h : VK w ao n cap zs k) :
  Calls Tryz.prog 27 #[.slice ao n cap, .int .i64 x] w fun e w' => ∃ a1 c1, e = .returned (.slice a1 (room x) c1) ∧ VF w' a1 (room x) c1 (vcut zs (room x)) k ∧ Below w.heap.size w w' := by
 have hr := room_le x;have hz := roomK x;obtain ⟨p, ep⟩ : ∃ p, p = room x := ⟨_, rfl⟩;rw [← ep] at hr hz ⊢;have HZ := zh hz;clear ep hz;go_enter Tryz.func27, Tryz.ntmps27
 go_wp2_with fail
 go_loopw [5, 6] (fun u t wr => ∃ (i : Nat) (ao' : Option Addr) (cap' : Nat) (rs : List Int), i ≤ p ∧ t = .int .i64 (i : Int) ∧ u = .slice ao' i cap' ∧ OwnV wr w.heap.size ao' i cap' rs k ∧ (∀ j, j < i → rs.getD j 0 = zs.getD j 0) ∧ Below w.heap.size w wr) (fun _ t _ => p - (intOf t).toNat)
 case atStart => exact ⟨0, none, 0, [], Nat.zero_le _, rfl, rfl, ownV_nil _ _ _, fun j hj => absurd hj (by omega), Below.refl _ _⟩
 case round =>
  obtain ⟨i, ao', cap', rs, hi, rfl, rfl, hown, hall, hB⟩ := hrel;have HA := zh hall;clear hall;have HB := zh hB;clear hB
  go_wp2_with fail
  refine (zu HZ _).mono ?_;rintro e w2 ⟨rfl, hb9⟩;replace hown := hown.za hb9;replace HB := zh (Below.step (zu HB) hb9);clear hb9;by_cases hlt : i < p
  ·have hi1 : (i : Int) < (p : Int) := by omega
   go_wp2_with fail
   refine (ratK _ _ _ zs k i _ (h.za (zu HB)) (by omega)).mono ?_;rintro e w5 ⟨b5, a5, l5, c5, rfl, h5, hb9⟩;replace hown := hown.za hb9;replace HB := zh (Below.step (zu HB) hb9);clear hb9;obtain ⟨W6, hW6⟩ : ∃ W6, W6 = w5.alloc (.cells #[.bool b5, .slice a5 l5 c5] 45) := ⟨_, rfl⟩;obtain ⟨D5, hb9⟩ := boxes1 w5 b5 a5 l5 c5 hW6;replace h5 := h5.za hb9;replace hown := hown.za hb9;replace HB := zh (Below.step (zu HB) hb9);clear hb9;have hE5 : EltAt W6 w5.heap.size 0 b5 a5 l5 c5 := ⟨D5.lt, D5.zb.1, D5.zb.2.1⟩;have hsz := (zu HB).size;clear D5;rw [hW6] at h5 hown hE5 hsz
   go_wp2_with (at_builtin; refine append_vec rfl (.tmp 13) (.tmp 17) 39 Tryz.underlying39 rfl w.heap.size ao' i cap' k rs rfl hown (by omega) hsz w5.heap.size 0 1 b5 a5 l5 c5 (zs.getD i 0) rfl hE5 h5 ?_)
   intro gn cn w7 hown2 hgr hat;rw [← hW6] at hgr hown hsz;clear hW6;have HD := (zu HB).grown hgr hsz (own_ge hown);clear hgr hat;go_wp2;go_roundw
   case rel => exact ⟨i + 1, _, _, _, by omega, by go_num, rfl, hown2, snoc_each (f := fun j => zs.getD j 0) hown.len (zu HA), HD⟩
   case measure => simp [intOf]; omega
  ·have hi1 : ¬ (i : Int) < (p : Int) := by omega
   have hin : i = p := by omega
   subst hin;have hps : rs = vcut zs i := vec_ext (by rw [hown.len, vcut_len]) fun j hj => by
     rw [hown.len] at hj;rw [vcut_at, if_pos hj];exact zu HA j hj
   subst hps;go_wp2;go_ret;exact ⟨_, _, rfl, hown.vf, zu HB⟩

set_option maxHeartbeats 1600000 in
theorem rvtimesK (ao : Option Addr) (n cap : Nat) (zs : List Int) (k : Nat) (b0 : Bool) (a0 : Option Addr) (l0 c0 : Nat) (x : Int) (l : Nat) (w : World) (h : VS w ao n cap zs k) (hx : SK w b0 a0 l0 c0 x l) (hk : k ≤ 500000) (hl : l ≤ 400000) (hn : n ≤ 1000000) :
  Calls Tryz.prog 36 #[.slice ao n cap, .agg #[.bool b0, .slice a0 l0 c0]] w fun e w' => ∃ a1 c1, e = .returned (.slice a1 n c1) ∧ VF w' a1 n c1 (vtimes zs x) (k + l) ∧ Below w.heap.size w w' := by
 have HL := zh h.len_eq;go_enter Tryz.func36, Tryz.ntmps36
 go_upto_region 1 with fail
 obtain ⟨W, hWe⟩ : ∃ W, W = w.alloc (.cells #[.bool b0, .slice a0 l0 c0] 45) := ⟨_, rfl⟩;have hsW : W.heap.size = w.heap.size + 1 := by rw [hWe]; simp
 obtain ⟨B0, hb0⟩ := boxes1 w b0 a0 l0 c0 hWe;rw [← hWe];clear hWe;replace hx := hx.za hb0
 go_wp2_with fail
 go_loopw [5, 6] (fun u t wr => ∃ (i : Nat) (ao' : Option Addr) (cap' : Nat) (rs : List Int), i ≤ n ∧ t = .int .i64 (i : Int) ∧ u = .slice ao' i cap' ∧ Box wr w.heap.size b0 a0 l0 c0 ∧ SK wr b0 a0 l0 c0 x l ∧ W.heap.size ≤ wr.heap.size ∧ OwnV wr W.heap.size ao' i cap' rs (k + l) ∧ (∀ j, j < i → rs.getD j 0 = zs.getD j 0 * x) ∧ Below w.heap.size w wr) (fun _ t _ => n - (intOf t).toNat)
 case atStart => exact ⟨0, none, 0, [], Nat.zero_le _, rfl, rfl, B0, hx, Nat.le_refl _, ownV_nil _ _ _, fun j hj => absurd hj (by omega), hb0⟩
 case round =>
  clear hx B0 hb0;obtain ⟨i, ao', cap', rs, hi, rfl, rfl, B0, hx, hWr, hown, hall, hB⟩ := hrel;have HA := zh hall;clear hall;have HB := zh hB;clear hB;by_cases hlt : i < n
  ·obtain ⟨g2, off2, rfl⟩ := h.some (by omega);obtain ⟨b2, a2, l2, c2, E2, hy2⟩ := (h.za (zu HB)).at hlt;have hi0 : (0 : Int) ≤ (i : Int) := by omega
   have hi1 : (i : Int) < (n : Int) := by omega
   have hsz0 := (zu HB).size;have HW : Below wr.heap.size wr wr.drew := (Below.refl _ _).drew;replace hown := hown.za HW
   go_upto_region 5 with fail
   have zS := zh fun w' (HW : Below wr.heap.size wr w') => con4 (E2.za HW).zb.1 (E2.za HW).zb.2 (B0.za HW).zb.1 (B0.za HW).zb.2.1;refine zst zS HW 8 (by kernel_rfl) fun zH => ?_;refine ztl 0 rfl ?_;simp only [Act.put, aGet, aZero, aSet, aHead, aTail];refine ztl 1 rfl ?_;simp only [zP];refine ztl 2 rfl ?_;simp only [zP];refine ztl 3 rfl ?_;simp only [zP];refine ztl 4 rfl ?_;simp only [zP];refine ztl 5 rfl ?_;simp only [zP];refine tin 6 rfl fun K hK => ?_;go_simp;refine (rmulK b2 a2 l2 c2 (zs.getD i 0) k b0 a0 l0 c0 x l _ (hy2.1.za HW) (hx.1.za HW) (by have := hy2.2; have := hx.2; omega)).mono ?_;rintro e w9 ⟨b5, a5, l5, c5, rfl, h5, hb9⟩;replace HW := Below.step HW hb9;replace hown := hown.za hb9;clear hb9;refine hK.out _ _ ?_ (fun zH => ?_)
   ·exact zu zS _ HW
   clear hK K
   try simp only [zP]
   refine tin 7 rfl fun K hK => ?_;go_simp;obtain ⟨wa, hWa⟩ : ∃ W', W' = w9.alloc (.cells #[.bool b5, .slice a5 l5 c5] 45) := ⟨_, rfl⟩;obtain ⟨D5, hb9⟩ := boxes1 w9 b5 a5 l5 c5 hWa;rw [← hWa];clear hWa;replace HW := Below.step HW hb9;replace h5 := h5.za hb9;replace hown := hown.za hb9;have hE5 : EltAt wa w9.heap.size 0 b5 a5 l5 c5 := ⟨D5.lt, D5.zb.1, D5.zb.2.1⟩;clear hb9 D5;have hsz := HW.size;have hsz2 := (zu HB).size;refine hK.out _ _ ?_ (fun zH => ?_)
   ·exact zu zS _ HW
   clear hK K
   try simp only [zP]
   refine tout 8 rfl fun K hK => ?_;refine step_vec (by rfl) _ _ 39 Tryz.underlying39 (by rfl) W.heap.size ao' i cap' (k + l) rs (by rfl) hown (by omega) (Nat.le_trans hWr hsz) w9.heap.size 0 1 b5 a5 l5 c5 (zs.getD i 0 * x) (by rfl) hE5 h5 ?_;intro gn cn w8 hown2 hgr hat;have hge := own_ge hown;have hnl := hown.2.2;have HBW := zh (Below.step (zu HB) HW);have B1 := B0.za HW;have hx1 := hx.1.za HW;clear HW hsz2;refine hK.out _ _ ?_;clear hK K
   try simp only [zP]
   refine tout 9 rfl fun K hK => ?_;go_simp;refine hK.out _ _ ?_;clear hK K
   try simp only [zP]
   refine zdn (by kernel_rfl) ?_ _;have hgz := hgr.size;have hB8 : Below w.heap.size w w8 := (zu HBW).grown hgr (Nat.le_trans hsz0 hsz) (fun g e => Nat.le_trans (by omega) (hge g e));have B8 := B1.grown hgr (fun e => by have := hge _ e; omega);have hx8 : SK w8 b0 a0 l0 c0 x l := ⟨hx1.grown hgr (fun g e => own_noLimb hown e), hx.2⟩;go_wp2;go_roundw
   case rel => exact ⟨i + 1, _, _, _, by omega, by go_num, rfl, B8, hx8, by omega, hown2, snoc_each (f := fun j => zs.getD j 0 * x) hown.len (zu HA), hB8⟩
   case measure => simp [intOf]; omega
  ·have hi1 : ¬ (i : Int) < (n : Int) := by omega
   have hin : i = n := by omega
   subst hin;have hps : rs = vtimes zs x := map_of_each (f := fun z => z * x) (zu HL) hown.len (zu HA);subst hps;go_wp2;go_ret;exact ⟨_, _, rfl, hown.vf, zu HB⟩

set_option maxHeartbeats 800000 in
theorem rvnegK (ao : Option Addr) (n cap : Nat) (zs : List Int) (k : Nat) (w : World) (h : VS w ao n cap zs k) (hk : k ≤ 500000) (hn : n ≤ 1000000) :
  Calls Tryz.prog 37 #[.slice ao n cap] w fun e w' => ∃ a1 c1, e = .returned (.slice a1 n c1) ∧ VF w' a1 n c1 (vneg zs) (k + 2) ∧ Below w.heap.size w w' := by
 go_enter Tryz.func37, Tryz.ntmps37
 go_wp2_with fail
 refine (rofK (-1) _ (by omega) (by omega)).mono ?_;rintro e w1 ⟨b1, a1, l1, c1, rfl, h1, hb1⟩
 go_wp2_with fail
 refine (rvtimesK _ _ _ zs k _ _ _ _ (-1) 2 _ (h.za hb1) (h1.sk (by omega)) hk (by omega) hn).mono ?_;rintro e w2 ⟨a2, c2, rfl, h2, hb2⟩;rw [← vneg_times] at h2;go_wp2;go_ret;exact ⟨_, _, rfl, h2, Below.step hb1 hb2⟩

set_option maxHeartbeats 800000 in
theorem rvsubK (ao : Option Addr) (n cap : Nat) (zs : List Int) (k : Nat) (ap : Option Addr) (n' cp : Nat) (ys : List Int) (l : Nat) (w : World) (h : VK w ao n cap zs k) (h' : VS w ap n' cp ys l) (hk : k ≤ 900000) (hl : l ≤ 500000) (hn : n ≤ 1000000) (hn' : n' ≤ 1000000) :
  Calls Tryz.prog 35 #[.slice ao n cap, .slice ap n' cp] w fun e w' => ∃ a1 c1, e = .returned (.slice a1 (max n n') c1) ∧ VF w' a1 (max n n') c1 (vsub zs ys) (max k (l + 2) + 1) ∧ Below w.heap.size w w' := by
 go_enter Tryz.func35, Tryz.ntmps35
 go_wp2_with fail
 refine (rvnegK _ _ _ ys l _ h' hl hn').mono ?_;rintro e w1 ⟨a1, c1, rfl, h1, hb1⟩
 go_wp2_with fail
 refine (rvaddK _ _ _ zs k _ _ _ (vneg ys) (l + 2) _ (h.za hb1) (h1.vk (by omega)) (by omega) (by omega) hn hn').mono ?_;rintro e w2 ⟨a2, c2, rfl, h2, hb2⟩;rw [← vsub_neg] at h2;go_wp2;go_ret;exact ⟨_, _, rfl, h2, Below.step hb1 hb2⟩

/-
 What Few of the seventh stage's statements tells: no vector has more than 70 places, no number more than 12 limbs; what awake tells: true (IN PARTS).
-/

def Short (w : World) (a : Option Addr) (l : Nat) : Prop := l ≤ 70 ∧ ∀ j g off b a' l' c', j < l → a = some ⟨g, off, none⟩ → EltAt w g (off + j * 2) b a' l' c' → l' ≤ 12
theorem elt_len {w : World} {g o : Nat} {b b' : Bool} {a a' : Option Addr} {l l' c c' : Nat} (h : EltAt w g o b a l c) (h' : EltAt w g o b' a' l' c') : l = l' := by
 have e := h.2.2.symm.trans h'.2.2;simp only [Option.some.injEq, Value.slice.injEq] at e;exact e.2.1
theorem addr_inj {g g' o o' : Nat} (e : (some ⟨g, o, none⟩ : Option Addr) = some ⟨g', o', none⟩) : g = g' ∧ o = o' := by
 simp only [Option.some.injEq, Addr.mk.injEq, and_true] at e;exact e
set_option maxHeartbeats 1600000 in
theorem few7_any (ao : Option Addr) (n cap : Nat) (rs : List (List Int)) (w : World) (h : MI w ao n cap rs) :
  Calls Tryz.prog 25 #[.slice ao n cap] w fun e w' => ∃ q, e = .returned (.int .i64 q) ∧ (q = 0 ∨ q = 1) ∧ (q = 0 → ∀ i g off a l c, i < n → ao = some ⟨g, off, none⟩ → w.cell? ⟨g, off + i, none⟩ = some (.slice a l c) → Short w a l) ∧ Below w.heap.size w w' := by
 have hm := Nat.le_trans h.cap_le h.cap_max;unfold maxLen at hm;go_enter Tryz.func25, Tryz.ntmps25
 go_wp2_with fail
 go_loopw [9] (fun t wr => ∃ i : Nat, i ≤ n ∧ t = .int .i64 (i : Int) ∧ (∀ i' g off a l c, i' < i → ao = some ⟨g, off, none⟩ → w.cell? ⟨g, off + i', none⟩ = some (.slice a l c) → Short w a l) ∧ Below w.heap.size w wr) (fun t _ => n - (intOf t).toNat)
 case atStart => exact ⟨0, by omega, rfl, fun i' _ _ _ _ _ hi => absurd hi (by omega), Below.refl _ _⟩
 case round =>
  obtain ⟨i, hi, rfl, hall, hbel⟩ := hrel;have HA := zh hall;clear hall;by_cases hlt : i < n
  ·obtain ⟨g, off, rfl⟩ := h.addr (by omega);obtain ⟨hg, a2, l2, c2, hc, hv⟩ := RowsOf.at (R := VI) h hlt;have hml := Nat.le_trans hv.cap_le hv.cap_max;unfold maxLen at hml;have f1 := (hbel.cell (p := ⟨g, off + i, none⟩) hg).trans hc;have HC := zh hc;have hgr := Nat.lt_of_lt_of_le hg hbel.size;clear hc;by_cases h70 : l2 ≤ 70
   ·have h70' : ¬ (70 < (l2 : Int)) := by omega
    go_wp2_with fail
    clear f1 hgr;go_loopw [18] (fun t wr => ∃ j : Nat, j ≤ l2 ∧ t = .int .i64 (j : Int) ∧ (∀ j' g' off' b a l c, j' < j → a2 = some ⟨g', off', none⟩ → EltAt w g' (off' + j' * 2) b a l c → l ≤ 12) ∧ Below w.heap.size w wr) (fun t _ => l2 - (intOf t).toNat)
    case atStart => exact ⟨0, by omega, rfl, fun j' _ _ _ _ _ _ hj => absurd hj (by omega), hbel⟩
    case round =>
     clear hbel;obtain ⟨j, hj, rfl, hall, hbel⟩ := hrel;have HJ := zh hall;clear hall;by_cases hjl : j < l2
     ·obtain ⟨g2, off2, rfl⟩ := hv.some (by omega);obtain ⟨b3, a3, l3, c3, he0, hy⟩ := VI.at hv hjl;have hml3 := hy.cap_max;unfold maxLen at hml3;have he := he0.za hbel;obtain ⟨f1, f2⟩ := he.zb;have hg1 := he.1;by_cases h12 : l3 ≤ 12
      ·have h12' : ¬ (12 < (l3 : Int)) := by omega
       go_wp2;go_roundw
       case rel =>
        refine ⟨j + 1, by omega, by go_num, fun j' g' off' b a l c hj' e he' => ?_, hbel.alloc hbel.size _⟩;by_cases ej : j' = j
        ·subst ej;obtain ⟨rfl, rfl⟩ := addr_inj e;rw [elt_len he' he0];exact h12
        ·exact (zu HJ) j' g' off' b a l c (by omega) e he'
       case measure => simp [intOf]; omega
      ·have h12' : 12 < (l3 : Int) := by omega
       go_wp2;go_ret;exact ⟨1, rfl, Or.inr rfl, fun e => absurd e (by omega), hbel.alloc hbel.size _⟩
     ·have hin : j = l2 := by omega
      subst hin;go_wp2;go_roundw
      case rel =>
       refine ⟨i + 1, by omega, by go_num, fun i' g' off' a l c hi' e hc' => ?_, hbel⟩;by_cases ei : i' = i
       ·subst ei;obtain ⟨rfl, rfl⟩ := addr_inj e;have e2 := hc'.symm.trans (zu HC);simp only [Option.some.injEq, Value.slice.injEq] at e2;obtain ⟨rfl, rfl, rfl⟩ := e2;exact ⟨h70, fun j' g'' off'' b a' l' c' hj' e' he' => (zu HJ) j' g'' off'' b a' l' c' hj' e' he'⟩
       ·exact (zu HA) i' g' off' a l c (by omega) e hc'
      case measure => simp [intOf]; omega
   ·have h70' : 70 < (l2 : Int) := by omega
    go_wp2;go_ret;exact ⟨1, rfl, Or.inr rfl, fun e => absurd e (by omega), hbel⟩
  ·have hin : i = n := by omega
   subst hin;go_wp2;go_ret;exact ⟨0, rfl, Or.inl rfl, fun _ => zu HA, hbel⟩

theorem irow_new {w : World} {zs : List Int} {t : TypeId} {n m : Nat} (hm : m = zs.length) (hn : n = w.heap.size) (hs : zs.length ≤ 1000) (hr : ∀ i, -9223372036854775808 ≤ zs.getD i 0 ∧ zs.getD i 0 ≤ 9223372036854775807) :
  IRowAt (w.alloc (.cells (zs.map fun z => Value.int .i64 z).toArray t)) (some ⟨n, 0, none⟩) m m zs := by
 subst hn hm;refine ⟨rfl, Nat.le_refl _, by unfold maxLen; omega, fun e => by simp at e, hr, fun _ => ⟨w.heap.size, 0, rfl, by simp, fun i hi => ?_⟩⟩;rw [Nat.zero_add];simp [List.getD, hi]
theorem small_all {zs : List Int} (h : ∀ z ∈ zs, -9223372036854775808 ≤ z ∧ z ≤ 9223372036854775807) (i : Nat) : -9223372036854775808 ≤ zs.getD i 0 ∧ zs.getD i 0 ≤ 9223372036854775807 := by
 by_cases hi : i < zs.length
 ·have e : zs.getD i 0 = zs[i] := by simp [List.getD, hi]
  rw [e];exact h _ (List.getElem_mem hi)
 ·rw [getD_out (by omega)]; omega

end Go.Proofs.YtnpneloahajniaaGreat
