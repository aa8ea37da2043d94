/-
 What Add of package vec tells, in memory of its own.
-/
import Derived.Test.YtkomdimalgnamaaGreatJF
import Derived.Test.YtkomdimalgnamaaGreatJE
namespace Go.Proofs.YtkomdimalgnamaaGreat
open Go.RowKit Lb
set_option maxRecDepth 20000

set_option maxHeartbeats 1600000 in
theorem vaddF (ao : Option Addr) (n cap : Nat) (zs : List Int) (k : Nat) (ao' : Option Addr) (n' cap' : Nat) (ys : List Int) (l : Nat) (w : World) (h : VK w ao n cap zs k) (h' : VK w ao' n' cap' ys l) (hk : k ≤ 900000) (hl : l ≤ 900000) (hn : n ≤ 1000000) (hn' : n' ≤ 1000000) :
  Calls Tryz.prog 32 #[.slice ao n cap, .slice ao' n' cap'] w fun e w' => ∃ a1 c1, e = .returned (.slice a1 (max n n') c1) ∧ VF w' a1 (max n n') c1 (vadd zs ys) (max k l + 1) ∧ (∀ g off, a1 = some ⟨g, off, none⟩ → w.heap.size ≤ g) ∧ Below w.heap.size w w' := by
 have hmax := max_len n n';have HL := zh h.len_eq;have HL' := zh h'.len_eq;obtain ⟨m, em⟩ : ∃ m, m = max n n' := ⟨_, rfl⟩;rw [← em] at hmax ⊢;have hm : m ≤ 1000000 := by omega
 have EM := zh em;clear em;obtain ⟨K, eK⟩ : ∃ K, K = max k l + 1 := ⟨_, rfl⟩;rw [← eK];have EK := zh eK;clear eK;go_enter Tryz.func32, Tryz.ntmps32
 go_wp2_with (at_make; refine make_vec rfl _ _ 24 Tryz.underlying24 rfl w.heap.size .i64 .i64 _ _ m K rfl rfl (by omega) (by omega) (by omega) (by omega) ?_)
 intro w2 hown hgrow;have HB := zh ((Below.refl w.heap.size w).grown hgrow (Nat.le_refl _) (fun _ h => by simp at h));clear hgrow hmax;obtain ⟨gv, egv⟩ : ∃ gv, gv = w.heap.size := ⟨_, rfl⟩;rw [show (some ⟨w.heap.size, 0, none⟩ : Option Addr) = some ⟨gv, 0, none⟩ by rw [egv]] at hown ⊢;clear egv
 go_wp2_with fail
 go_loopw [15] (fun t wr => ∃ (i : Nat) (ps : List Int), i ≤ m ∧ t = .int .i64 (i : Int) ∧ OwnV wr w.heap.size (some ⟨gv, 0, none⟩) m m ps K ∧ (∀ j, j < i → ps.getD j 0 = zs.getD j 0 + ys.getD j 0) ∧ Below w.heap.size w wr) (fun t _ => m - (intOf t).toNat)
 case atStart => exact ⟨0, _, Nat.zero_le _, rfl, hown, fun j hj => absurd hj (by omega), zu HB⟩
 case round =>
  obtain ⟨i, ps, hi, rfl, hv, hall, hB⟩ := hrel;have HA := zh hall;clear hall hown HB;have HB := zh hB;clear hB;by_cases hlt : i < m
  ·go_wp2_with fail
   refine (atK _ _ _ zs k i _ (h.za (zu HB)) hk (by omega)).mono ?_;rintro e w3 ⟨b3, a3, l3, c3, rfl, h3, hb1⟩;replace hv := hv.za hb1;replace HB := zh (Below.step (zu HB) hb1);clear hb1
   go_wp2_with fail
   refine (atK _ _ _ ys l i _ (h'.za (zu HB)) hl (by omega)).mono ?_;rintro e w4 ⟨b4, a4, l4, c4, rfl, h4, hb1⟩;replace hv := hv.za hb1;replace h3 := h3.za hb1;replace HB := zh (Below.step (zu HB) hb1);clear hb1
   go_wp2_with fail
   refine (addK _ _ _ _ (zs.getD i 0) k _ _ _ _ (ys.getD i 0) l _ h3 h4).mono ?_;rintro e w5 ⟨b5, a5, l5, c5, rfl, h5, hb1⟩;rw [← zu EK] at h5;replace hv := hv.za hb1;replace HB := zh (Below.step (zu HB) hb1);clear hb1 h3 h4;obtain ⟨b6, a6, l6, c6, he6, _⟩ := hv.vf.at (show i < m by omega);rw [Nat.zero_add] at he6;obtain ⟨q1, q2⟩ := he6.zb;have q3 := hv.free (i * 2);have q4 := hv.free (i * 2 + 1);have hbl := hv.base_le;go_wp2;go_roundw
   case rel =>
    refine ⟨i + 1, ps.set i (zs.getD i 0 + ys.getD i 0), by omega, by go_num, hv.set (by omega) h5, put_each (f := fun j => zs.getD j 0 + ys.getD j 0) (by rw [hv.len]; omega) (zu HA), ?_⟩;exact ((zu HB).setCell (by simpa using hbl.1) _).setCell (by simpa using hbl.1) _
   case measure => simp [intOf]; omega
  ·have hin : i = m := by omega
   subst hin;have hps : ps = vadd zs ys := vec_ext (by rw [hv.len, vadd_len, zu HL, zu HL', zu EM]) fun j hj => by rw [vadd_at]; exact zu HA j (by rw [hv.len] at hj; exact hj)
   subst hps;go_wp2;go_ret;exact ⟨_, _, rfl, hv.vf, fun g off e => own_fresh8 hv e, zu HB⟩

end Go.Proofs.YtkomdimalgnamaaGreat
