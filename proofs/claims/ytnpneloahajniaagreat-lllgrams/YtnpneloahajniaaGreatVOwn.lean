/-
 What Sub and Times of package vec tell: a vector of the call's own.
-/
import Derived.Test.YtnpneloahajniaaGreatJF
namespace Go.Proofs.YtnpneloahajniaaGreat
open Go.RowKit Lb
set_option maxRecDepth 20000

set_option maxHeartbeats 1600000 in
theorem vsubO (ao : Option Addr) (n cap : Nat) (zs : List Int) (k : Nat) (ao' : Option Addr) (n' cap' : Nat) (ys : List Int) (l : Nat) (w : World) (h : VK w ao n cap zs k) (h' : VK w ao' n' cap' ys l) (hk : k ≤ 900000) (hl : l ≤ 900000) (hn : n ≤ 1000000) (hn' : n' ≤ 1000000) :
  Calls Tryz.prog 60 #[.slice ao n cap, .slice ao' n' cap'] w fun e w' => ∃ u c1, e = .returned (.slice (some ⟨u, 0, none⟩) (max n n') c1) ∧ OwnV w' w.heap.size (some ⟨u, 0, none⟩) (max n n') c1 (vsub zs ys) (max k l + 1) ∧ Below w.heap.size w w' := by
 have hmax := max_len n n';have HL := zh h.len_eq;have HL' := zh h'.len_eq;obtain ⟨m, em⟩ : ∃ m, m = max n n' := ⟨_, rfl⟩;rw [← em] at hmax ⊢;have hm : m ≤ 1000000 := by omega
 have EM := zh em;clear em;obtain ⟨K, eK⟩ : ∃ K, K = max k l + 1 := ⟨_, rfl⟩;rw [← eK];have EK := zh eK;clear eK;go_enter Tryz.func60, Tryz.ntmps60
 go_wp2_with (at_make; refine make_vec rfl _ _ 39 Tryz.underlying39 rfl w.heap.size .i64 .i64 _ _ m K rfl rfl (by omega) (by omega) (by omega) (by omega) ?_)
 intro w2 hown hgrow;have HB := zh ((Below.refl w.heap.size w).grown hgrow (Nat.le_refl _) (fun _ h => by simp at h));clear hgrow hmax;obtain ⟨gv, egv⟩ : ∃ gv, gv = w.heap.size := ⟨_, rfl⟩;rw [show (some ⟨w.heap.size, 0, none⟩ : Option Addr) = some ⟨gv, 0, none⟩ by rw [egv]] at hown ⊢;clear egv
 go_wp2_with fail
 go_loopw [15] (fun t wr => ∃ (i : Nat) (ps : List Int), i ≤ m ∧ t = .int .i64 (i : Int) ∧ OwnV wr w.heap.size (some ⟨gv, 0, none⟩) m m ps K ∧ (∀ j, j < i → ps.getD j 0 = zs.getD j 0 - ys.getD j 0) ∧ Below w.heap.size w wr) (fun t _ => m - (intOf t).toNat)
 case atStart => exact ⟨0, _, Nat.zero_le _, rfl, hown, fun j hj => absurd hj (by omega), zu HB⟩
 case round =>
  obtain ⟨i, ps, hi, rfl, hv, hall, hB⟩ := hrel;have HA := zh hall;clear hall hown HB;have HB := zh hB;clear hB;by_cases hlt : i < m
  ·go_wp2_with fail
   refine (atK _ _ _ zs k i _ (h.za (zu HB)) hk (by omega)).mono ?_;rintro e w3 ⟨b3, a3, l3, c3, rfl, h3, hb1⟩;replace hv := hv.za hb1;replace HB := zh (Below.step (zu HB) hb1);clear hb1
   go_wp2_with fail
   refine (atK _ _ _ ys l i _ (h'.za (zu HB)) hl (by omega)).mono ?_;rintro e w4 ⟨b4, a4, l4, c4, rfl, h4, hb1⟩;replace hv := hv.za hb1;replace h3 := h3.za hb1;replace HB := zh (Below.step (zu HB) hb1);clear hb1
   go_wp2_with fail
   refine (subK _ _ _ _ (zs.getD i 0) k _ _ _ _ (ys.getD i 0) l _ h3 h4).mono ?_;rintro e w5 ⟨b5, a5, l5, c5, rfl, h5, hb1⟩;rw [← zu EK] at h5;replace hv := hv.za hb1;replace HB := zh (Below.step (zu HB) hb1);clear hb1 h3 h4;obtain ⟨b6, a6, l6, c6, he6, _⟩ := hv.vf.at (show i < m by omega);rw [Nat.zero_add] at he6;obtain ⟨q1, q2⟩ := he6.zb;have q3 := hv.free (i * 2);have q4 := hv.free (i * 2 + 1);have hbl := hv.base_le;go_wp2;go_roundw
   case rel =>
    refine ⟨i + 1, ps.set i (zs.getD i 0 - ys.getD i 0), by omega, by go_num, hv.set (by omega) h5, put_each (f := fun j => zs.getD j 0 - ys.getD j 0) (by rw [hv.len]; omega) (zu HA), ?_⟩;exact ((zu HB).setCell (by simpa using hbl.1) _).setCell (by simpa using hbl.1) _
   case measure => simp [intOf]; omega
  ·have hin : i = m := by omega
   subst hin;have hps : ps = vsub zs ys := vec_ext (by rw [hv.len, vsub_len, zu HL, zu HL', zu EM]) fun j hj => by rw [vsub_at]; exact zu HA j (by rw [hv.len] at hj; exact hj)
   subst hps;go_wp2;go_ret;exact ⟨_, _, rfl, hv, zu HB⟩
set_option maxHeartbeats 1600000 in
theorem vtimesO (ao : Option Addr) (n cap : Nat) (zs : List Int) (k : Nat) (b0 : Bool) (a0 : Option Addr) (l0 c0 : Nat) (x : Int) (l : Nat) (w : World) (h : VK w ao n cap zs k) (hx : IK w b0 a0 l0 c0 x l) (hn : n ≤ 1000000) :
  Calls Tryz.prog 20 #[.slice ao n cap, .agg #[.bool b0, .slice a0 l0 c0]] w fun e w' => ∃ u c1, e = .returned (.slice (some ⟨u, 0, none⟩) n c1) ∧ OwnV w' w.heap.size (some ⟨u, 0, none⟩) n c1 (vtimes zs x) (k + l) ∧ Below w.heap.size w w' := by
 have HL := zh h.len_eq;go_enter Tryz.func20, Tryz.ntmps20
 go_upto_region 1 with fail
 obtain ⟨W, hWe⟩ : ∃ W, W = w.alloc (.cells #[.bool b0, .slice a0 l0 c0] 45) := ⟨_, rfl⟩;have hsW : W.heap.size = w.heap.size + 1 := by rw [hWe]; simp
 obtain ⟨B0, hb0⟩ := boxes1 w b0 a0 l0 c0 hWe;rw [← hWe];clear hWe;replace hx := hx.za hb0;have HB := zh hb0;clear hb0
 go_wp2_with (at_make; refine make_vec rfl _ _ 39 Tryz.underlying39 rfl w.heap.size .i64 .i64 _ _ n (k + l) rfl rfl (by omega) (by omega) (by omega) (by omega) ?_)
 intro w2 hown hgrow;have hbg : Below W.heap.size W w2 := (Below.refl _ _).grown hgrow (Nat.le_refl _) (fun _ h => by simp at h);replace B0 := B0.za hbg;replace hx := hx.za hbg;replace HB := zh (Below.step (zu HB) hbg);clear hgrow hbg;obtain ⟨gv, egv⟩ : ∃ gv, gv = w.heap.size + 1 := ⟨_, rfl⟩;rw [← egv] at hown ⊢;have hgb : w.heap.size < gv := by omega
 clear egv hsW
 go_wp2_with fail
 go_loopw [13] (fun t wr => ∃ (i : Nat) (ps : List Int), i ≤ n ∧ t = .int .i64 (i : Int) ∧ Box wr w.heap.size b0 a0 l0 c0 ∧ IK wr b0 a0 l0 c0 x l ∧ OwnV wr w.heap.size (some ⟨gv, 0, none⟩) n n ps (k + l) ∧ (∀ j, j < i → ps.getD j 0 = zs.getD j 0 * x) ∧ Below w.heap.size w wr) (fun t _ => n - (intOf t).toNat)
 case atStart => exact ⟨0, _, Nat.zero_le _, rfl, B0, hx, hown, fun j hj => absurd hj (by omega), zu HB⟩
 case round =>
  clear hown HB B0 hx;obtain ⟨i, ps, hi, rfl, B0, hx, hv, hall, hB⟩ := hrel;have HA := zh hall;clear hall;have HB := zh hB;clear hB;by_cases hlt : i < n
  ·obtain ⟨g, off, rfl⟩ := h.some (by omega);obtain ⟨b2, a2, l2, c2, he, hy⟩ := (h.za (zu HB)).at hlt;obtain ⟨f1, f2⟩ := he.zb;have hg1 := he.1;obtain ⟨f3, f4, _, _⟩ := B0.zb;have hs1 := B0.lt
   go_wp2_with fail
   obtain ⟨W2, hW2⟩ : ∃ W2, W2 = wr.alloc (.cells #[.bool b2, .slice a2 l2 c2] 45) := ⟨_, rfl⟩;obtain ⟨D0, hb1⟩ := boxes1 wr b2 a2 l2 c2 hW2;rw [← hW2];clear hW2 f1 f2 f3 f4 he D0;replace B0 := B0.za hb1;replace hx := hx.za hb1;replace hv := hv.za hb1;replace hy := hy.za hb1;replace HB := zh (Below.step (zu HB) hb1);clear hb1;refine (mulK b2 a2 l2 c2 (zs.getD i 0) k b0 a0 l0 c0 x l _ hy hx).mono ?_;rintro e w5 ⟨b5, a5, l5, c5, rfl, h5, hb1⟩;replace B0 := B0.za hb1;replace hx := hx.za hb1;replace hv := hv.za hb1;replace HB := zh (Below.step (zu HB) hb1);clear hb1 hy;obtain ⟨b6, a6, l6, c6, he6, _⟩ := hv.vf.at (show i < n by omega);rw [Nat.zero_add] at he6;obtain ⟨q1, q2⟩ := he6.zb;have q3 := hv.free (i * 2);have q4 := hv.free (i * 2 + 1);have hbl := hv.base_le;go_wp2;go_roundw
   case rel =>
    have hgr := grown_set2 w5 gv (i * 2) (i * 2 + 1) (.bool b5) (.slice a5 l5 c5);refine ⟨i + 1, ps.set i (zs.getD i 0 * x), by omega, by go_num, B0.grown hgr (fun e => by simp only [Option.some.injEq] at e; omega), hx.grown hgr (noLimb_some hv.noLimb), hv.set (by omega) h5, put_each (f := fun j => zs.getD j 0 * x) (by rw [hv.len]; omega) (zu HA), ?_⟩;exact ((zu HB).setCell (by simpa using hbl.1) _).setCell (by simpa using hbl.1) _
   case measure => simp [intOf]; omega
  ·have hin : i = n := by omega
   subst hin;have hps := map_of_each (f := fun z => z * x) (zu HL) hv.len (zu HA);subst hps;go_wp2;go_ret;exact ⟨_, _, rfl, hv, zu HB⟩


end Go.Proofs.YtnpneloahajniaaGreat
