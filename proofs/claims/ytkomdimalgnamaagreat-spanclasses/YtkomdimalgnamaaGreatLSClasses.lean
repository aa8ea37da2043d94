/-
 The walk of SpanClasses: it tells true.
-/
import Derived.Test.YtkomdimalgnamaaGreatLSBase
import Derived.Test.YtkomdimalgnamaaGreatLSHeavy
namespace Go.Proofs.YtkomdimalgnamaaGreat
open Go.RowKit Lb
set_option maxRecDepth 20000

set_option maxRecDepth 40000 in
set_option maxHeartbeats 4000000 in
theorem spanClasses_walk (a0 : Option Addr) (len0 cap0 : Nat) (rs0 : List (List Int)) (m1 : Int) (a2 : Option Addr) (len2 cap2 : Nat) (zs2 : List Int) (a3 : Option Addr) (len3 cap3 : Nat) (zs3 : List Int) (w : World) (r0 : MI w a0 len0 cap0 rs0) (_r1 : (Lit.int .i64 m1).wf = true) (r2 : VI w a2 len2 cap2 zs2) (r3 : VI w a3 len3 cap3 zs3) :
  Calls Tryz.prog 6 #[.slice a0 len0 cap0, .int .i64 m1, .slice a2 len2 cap2, .slice a3 len3 cap3] w fun e w' => e = .returned (.bool true) ∧ Below w.heap.size w w' := by
 go_enter Tryz.func6, Tryz.ntmps6
 go_wp2_with fail
 refine (heavyK a0 len0 cap0 rs0 4 9 _ r0 (by omega) (by omega)).mono ?_;rintro e w1 ⟨q, rfl, hq, hlt, hb1⟩;have HB := zh hb1;rcases hq with rfl | rfl
 ·obtain ⟨hn4, -, hms⟩ := hlt rfl;have HMS := zh hms;have hr2 := r2.za hb1;have hr3 := r3.za hb1;clear hms hlt hb1 r0 r2 r3
  go_wp2_with fail
  refine (heavyTwoK a2 len2 cap2 zs2 a3 len3 cap3 zs3 _ hr2 hr3).mono ?_;rintro e w2 ⟨q, rfl, hq, hlt, hb1⟩;rcases hq with rfl | rfl
  ·obtain ⟨hv2, hv3⟩ := hlt rfl;have hl0 := zu HMS w2 (Below.step (zu HB) hb1);replace HB := zh (Below.step (zu HB) hb1);clear hlt hb1 hr2 hr3 HMS
   go_wp2_with fail
   refine (madeK a0 len0 cap0 rs0 m1 _ hl0 (by omega)).mono ?_;rintro e w3 ⟨a4, m, c4, N, p, hs, rfl, hN1, hN7, hm4, h4, hf, hl, -, hb1⟩;have HRM := zh (room_nat10 (show N ≤ 64 by omega));have HF := zh (And.intro hf hl);replace hv2 := hv2.za hb1;replace hv3 := hv3.za hb1;replace HB := zh (Below.step (zu HB) hb1);clear hb1 hf hl hl0
   go_wp2_with fail
   refine (rvcutK a2 len2 cap2 zs2 3 (N : Int) _ hv2.vk).mono ?_;rintro e w4 ⟨a5, c5, rfl, h5, hb1⟩;rw [zu HRM] at h5 ⊢;obtain ⟨x, ex⟩ : ∃ x, x = vcut zs2 N := ⟨_, rfl⟩;rw [← ex] at h5;replace h4 := h4.za hb1;replace hv3 := hv3.za hb1;replace HB := zh (Below.step (zu HB) hb1);clear hb1 hv2 ex
   go_wp2_with fail
   refine (rvcutK a3 len3 cap3 zs3 3 (N : Int) _ hv3.vk).mono ?_;rintro e w5 ⟨a6, c6, rfl, h6, hb1⟩;rw [zu HRM] at h6 ⊢;obtain ⟨y, ey⟩ : ∃ y, y = vcut zs3 N := ⟨_, rfl⟩;rw [← ey] at h6;replace h4 := h4.za hb1;replace h5 := h5.za hb1;replace HB := zh (Below.step (zu HB) hb1);clear hb1 hv3 ey
   go_wp2_with fail
   refine (spRestK a4 m c4 hs p 36 a5 N c5 x 3 _ (h4.mk (by omega)) (zu HF).1 (zu HF).2 (h5.vk (by omega)) (by omega) (by omega) (by omega) hN1 (by omega)).mono ?_;rintro e w6 ⟨a7, c7, us, rfl, h7, hlu, hiu, hb1⟩;replace h4 := h4.za hb1;replace h5 := h5.za hb1;replace h6 := h6.za hb1;replace HB := zh (Below.step (zu HB) hb1);have HU := zh (And.intro hlu hiu);clear hb1 hlu hiu
   go_wp2_with fail
   refine (spRestK a4 m c4 hs p 36 a6 N c6 y 3 _ (h4.mk (by omega)) (zu HF).1 (zu HF).2 (h6.vk (by omega)) (by omega) (by omega) (by omega) hN1 (by omega)).mono ?_;rintro e w7 ⟨a8, c8, ts, rfl, h8, hlt2, hit, hb1⟩;replace h4 := h4.za hb1;replace h5 := h5.za hb1;replace h6 := h6.za hb1;replace h7 := h7.za hb1;replace HB := zh (Below.step (zu HB) hb1);obtain ⟨q0, hq0⟩ := bool_ofH (InL hs fun j => x.getD j 0 - y.getD j 0);have hq1 : q0 = true ↔ ∀ i, us.getD i 0 = ts.getD i 0 := hq0.trans (rest_class (u := fun j => us.getD j 0) (v := fun j => ts.getD j 0) (a := fun j => x.getD j 0) (b := fun j => y.getD j 0) (zu HF).1.eform (fun k hk => (zu HU).1 k hk) (fun k hk => hlt2 k hk) (zu HU).2 hit).symm;have HQ0 := zh (show q0 = true ↔ InL hs fun j => (vsub x y).getD j 0 from hq0.trans ⟨fun h => h.eq fun j => vsub_at _ _ _, fun h => h.eq fun j => (vsub_at _ _ _).symm⟩);have HQ1 := zh hq1;clear hb1 hlt2 hit hq0 hq1 HU
   go_wp2_with fail
   refine (vsameQ a7 N c7 us _ a8 N c8 ts _ q0 _ (h7.vk (by omega)) (h8.vk (by omega)) (by omega) (by omega) (by omega) (by omega) (zu HQ1)).mono ?_;rintro e w8 ⟨rfl, hb1⟩;replace h4 := h4.za hb1;replace h5 := h5.za hb1;replace h6 := h6.za hb1;replace HB := zh (Below.step (zu HB) hb1);clear hb1 h7 h8 HQ1
   go_wp2_with fail
   refine (vsubK a5 N c5 x 3 a6 N c6 y 3 _ (h5.vk (by omega)) (h6.vk (by omega)) (by omega) (by omega) (by omega) (by omega)).mono ?_;rintro e w9 ⟨a9, c9, rfl, h9, hb1⟩;rw [Nat.max_self] at h9 ⊢;rw [show max 3 3 + 1 = 4 from rfl] at h9;replace h4 := h4.za hb1;replace HB := zh (Below.step (zu HB) hb1);obtain ⟨z, ez⟩ : ∃ z, z = vsub x y := ⟨_, rfl⟩;rw [← ez] at h9 HQ0;clear hb1 h5 h6 ez
   go_wp2_with fail
   refine (spHasK a4 m c4 hs p 36 a9 N c9 z 4 _ (h4.mk (by omega)) (zu HF).1 (zu HF).2 (h9.vk (by omega)) q0 (zu HQ0) (by omega) (by omega) (by omega) hN1 (by omega)).mono ?_;rintro e w10 ⟨rfl, hb1⟩;replace HB := zh (Below.step (zu HB) hb1);have hqq : (q0 == q0) = true := by simp
   clear hb1 h4 h9
   go_wp2_with fail
   refine (awake12_any _).mono ?_;rintro e w11 ⟨rfl, hb1⟩;go_wp2;go_ret;exact ⟨rfl, Below.step (zu HB) hb1⟩
  ·replace HB := zh (Below.step (zu HB) hb1);clear hlt hb1 hr2 hr3 HMS
   go_wp2_with fail
   refine (awake12_any _).mono ?_;rintro e w11 ⟨rfl, hb1⟩;go_wp2;go_ret;exact ⟨rfl, Below.step (zu HB) hb1⟩
 ·clear hlt hb1 r0 r2 r3
  go_wp2_with fail
  refine (awake12_any _).mono ?_;rintro e w11 ⟨rfl, hb1⟩;go_wp2;go_ret;exact ⟨rfl, Below.step (zu HB) hb1⟩

end Go.Proofs.YtkomdimalgnamaaGreat
