/-
 The walk of SpanTells: it tells true.
-/
import Derived.Test.YtkomdimalgnamaaGreatLSBase
import Derived.Test.YtkomdimalgnamaaGreatLSHeavy
import Derived.Test.YtkomdimalgnamaaGreatRSpan
import Derived.Test.YtkomdimalgnamaaGreatRHIs
namespace Go.Proofs.YtkomdimalgnamaaGreat
open Go.RowKit Lb
set_option maxRecDepth 20000

theorem vf_nil12 (w : World) (k : Nat) : VF w none 0 0 [] k := ⟨rfl, Nat.le_refl _, Nat.zero_le _, fun _ => rfl, fun h => absurd h (by omega)⟩
theorem made_either {w : World} {ac : Option Addr} {nc cc n K : Nat} {q0 : Bool} {v : Nat → Int} {hs : List (List Int)} (hyes : q0 = true → nc = n ∧ ∃ cs, VF w ac n cc cs K ∧ ∀ j, v j = sumN n fun t => cs.getD t 0 * ent hs t j) (hno : q0 = false → ac = none ∧ nc = 0 ∧ cc = 0) : ∃ cs, VF w ac nc cc cs K ∧ (q0 = true → nc = n ∧ ∀ j, v j = sumN n fun t => cs.getD t 0 * ent hs t j) ∧ (q0 = false → nc = 0) := by
 cases q0 with
 | true =>
  obtain ⟨rfl, cs, h1, h2⟩ := hyes rfl;exact ⟨cs, h1, fun _ => ⟨rfl, h2⟩, fun e => by simp at e⟩
 | false =>
  obtain ⟨rfl, rfl, rfl⟩ := hno rfl;exact ⟨[], vf_nil12 _ _, fun e => by simp at e, fun _ => rfl⟩
set_option maxRecDepth 40000 in
set_option maxHeartbeats 4000000 in
theorem spanTells_walk (a0 : Option Addr) (len0 cap0 : Nat) (rs0 : List (List Int)) (m1 : Int) (a2 : Option Addr) (len2 cap2 : Nat) (zs2 : List Int) (w : World) (r0 : MI w a0 len0 cap0 rs0) (_r1 : (Lit.int .i64 m1).wf = true) (r2 : VI w a2 len2 cap2 zs2) :
  Calls Tryz.prog 3 #[.slice a0 len0 cap0, .int .i64 m1, .slice a2 len2 cap2] w fun e w' => e = .returned (.bool true) ∧ Below w.heap.size w w' := by
 go_enter Tryz.func3, Tryz.ntmps3
 go_wp2_with fail
 refine (heavyK a0 len0 cap0 rs0 4 9 _ r0 (by omega) (by omega)).mono ?_;rintro e w1 ⟨q, rfl, hq, hlt, hb1⟩;have HB := zh hb1;rcases hq with rfl | rfl
 ·obtain ⟨hn4, -, hms⟩ := hlt rfl;have HMS := zh hms;have hr2 := r2.za hb1;clear hms hlt hb1 r0 r2
  go_wp2_with fail
  refine (heavyOneK a2 len2 cap2 zs2 _ hr2).mono ?_;rintro e w2 ⟨q, rfl, hq, hlt, hb1⟩;rcases hq with rfl | rfl
  ·obtain ⟨hl2, hv2⟩ := hlt rfl;have hl0 := zu HMS w2 (Below.step (zu HB) hb1);replace HB := zh (Below.step (zu HB) hb1);clear hlt hb1 hr2 HMS
   go_wp2_with fail
   refine (madeK a0 len0 cap0 rs0 m1 _ hl0 (by omega)).mono ?_;rintro e w3 ⟨a4, m, c4, N, p0, hs, rfl, hN1, hN7, hm4, h4, -, -, -, hb1⟩;have HRM := zh (room_nat10 (show N ≤ 64 by omega));replace hv2 := hv2.za hb1;replace hl0 := hl0.za hb1;replace HB := zh (Below.step (zu HB) hb1);clear hb1
   go_wp2_with fail
   refine (rvcutK a2 len2 cap2 zs2 3 (N : Int) _ hv2.vk).mono ?_;rintro e w4 ⟨a5, c5, rfl, h5, hb1⟩;rw [zu HRM] at h5 ⊢;obtain ⟨x, ex⟩ : ∃ x, x = vcut zs2 N := ⟨_, rfl⟩;rw [← ex] at h5;replace hl0 := ms_upH (hl0.za hb1) (show 3 ≤ 36 by omega);replace hv2 := hv2.za hb1;have HH := zh (And.intro ((h4.za hb1).ms (by omega)) (h5.vs (by omega)));replace HB := zh (Below.step (zu HB) hb1);clear hb1 ex h4 h5
   go_wp2_with fail
   go_loopw [0, 2, 35] (fun l v t wr => ∃ (i : Nat) (al : Option Addr) (nl cl' : Nat) (ls : List (List Int)) (av : Option Addr) (nv cv : Nat) (vs : List Int), i ≤ 2 ∧ t = .int .i64 (i : Int) ∧ l = .slice al nl cl' ∧ v = .slice av nv cv ∧ nl ≤ 4 ∧ MS wr al nl cl' ls 36 ∧ VS wr av nv cv vs 3 ∧ nv ≤ 9 ∧ Below w4.heap.size w4 wr) (fun _ _ t _ => 2 - (intOf t).toNat)
   case atStart => exact ⟨0, _, _, _, rs0, _, _, _, zs2, by omega, rfl, rfl, rfl, hn4, hl0, hv2, hl2, Below.refl _ _⟩
   case round =>
    clear hl0 hv2 hl2 hn4;obtain ⟨i, al, nl, cl', ls, av, nv, cv, vs, hi, rfl, rfl, rfl, hn4, hl, hv, hv9, hB⟩ := hrel;have HCC := zh hB;clear hB;by_cases hlt : i < 2
    ·have hi1 : (i : Int) < 2 := by omega
     have HLEN := zh hl.len_eq;by_cases hform : rform ls (nv : Int) = true ∧ ∃ p, HForm ls p
     ·have HIS := zh hform;obtain ⟨hform1, p, hp⟩ := hform;obtain ⟨N', eN', hN1'', _, hMr⟩ := rform_rows hform1;obtain rfl : nv = N' := by omega
      have hN1' := hN1'';have hnv0 : (0 : Int) < (nv : Int) := by omega
      have HP := zh (And.intro hp hMr);obtain ⟨q0, hq0⟩ := bool_ofH (InL ls fun j => vs.getD j 0);have HQ := zh hq0;clear hform1 hp hMr hq0 eN' hN1''
      go_wp2_with fail
      refine (spCoordsK al nl cl' ls p 36 av nv cv vs 3 _ hl.mk (zu HP).1 (zu HP).2 hv.vk q0 (zu HQ) (by omega) (by omega) (by omega) hN1' (by omega)).mono ?_;rintro e w5 ⟨ac, nc, cc, rfl, hyes, hno, hb1⟩;have hcs : ∃ cs, VF w5 ac nc cc cs (3 + 1 + nl * (36 + 1)) ∧ (q0 = true → nc = nl ∧ ∀ j, vs.getD j 0 = sumN nl fun t => cs.getD t 0 * ent ls t j) ∧ (q0 = false → nc = 0) := made_either hyes hno;obtain ⟨cs, h5, hcs1, hcs2⟩ := hcs;have HCS := zh (And.intro hcs1 hcs2);have HC := zh hb1;clear hb1 hyes hno hcs1 hcs2
      go_wp2_with fail
      refine (refIsK al nl cl' ls 36 (nv : Int) true _ ((hl.za (zu HC)).mk) (by omega) (by omega) ⟨fun _ => zu HIS, fun _ => rfl⟩).mono ?_;rintro e w5b ⟨rfl, hb1⟩;replace HC := zh (Below.step (zu HC) hb1);replace h5 := h5.za hb1;clear hb1
      go_wp2_with fail
      refine (rvnegK av nv cv vs 3 _ (hv.za (zu HC)) (by omega) (by omega)).mono ?_;rintro e w6 ⟨a6, c6, rfl, h6, hb1⟩;replace HC := zh (Below.step (zu HC) hb1);replace h5 := h5.za hb1;clear hb1
      go_wp2_with fail
      refine (rvnegK a6 nv c6 (vneg vs) (3 + 2) _ (h6.vs (by omega)) (by omega) (by omega)).mono ?_;rintro e w7 ⟨a7, c7, rfl, h7, hb1⟩;rw [vneg_neg] at h7;replace HC := zh (Below.step (zu HC) hb1);replace h5 := h5.za hb1;clear hb1 h6
      go_wp2_with fail
      refine (rrestK al nl cl' ls p 36 av nv cv vs 3 _ (hl.za (zu HC)) (zu HP).1 (zu HP).2 (hv.za (zu HC)) (by omega) (by omega) (by omega) (by omega)).mono ?_;rintro e w8 ⟨a8, c8, us, rfl, h8, hlo, hdi, hb1⟩;have HU := zh (And.intro hlo hdi);replace HC := zh (Below.step (zu HC) hb1);replace h5 := h5.za hb1;clear hb1 hlo hdi h7
      go_wp2_with fail
      refine (coordsK al nl cl' ls p 36 av nv cv vs 3 _ (hl.za (zu HC)) (zu HP).1 (fun t ht => rows_len (zu HP).2 t (by rw [zu HLEN]; exact ht)) ((hv.za (zu HC)).vk) q0 (zu HQ) (by omega) (by omega) (by omega) (by omega)).mono ?_;rintro e w9 ⟨ad, nd, cd, rfl, hyes, hno, hb1⟩;have hds : ∃ ds, VF w9 ad nd cd ds (3 + nl * (36 + 3)) ∧ (q0 = true → nd = nl ∧ ∀ j, vs.getD j 0 = sumN nl fun t => ds.getD t 0 * ent ls t j) ∧ (q0 = false → nd = 0) := made_either hyes hno;obtain ⟨ds, h9, hds1, hds2⟩ := hds;replace HC := zh (Below.step (zu HC) hb1);replace h5 := h5.za hb1;replace h8 := h8.za hb1;have HE := zh (show cs = ds from by
       obtain ⟨hcs1, hcs2⟩ := zu HCS;have e1 := h5.len_eq;have e2 := h9.len_eq;cases q0 with
       | true =>
        obtain ⟨f1, f2⟩ := hcs1 rfl;obtain ⟨f3, f4⟩ := hds1 rfl;rw [← zu HLEN] at f2 f4;exact vec_ext (by omega) fun t ht => made_one (zu HP).1 (v := fun j => vs.getD j 0) f2 f4 t (by rw [zu HLEN]; omega)
       | false =>
        have f1 := hcs2 rfl;have f2 := hds2 rfl;rw [List.eq_nil_of_length_eq_zero (e1.trans f1), List.eq_nil_of_length_eq_zero (e2.trans f2)])
      have hqq : (q0 != q0) = false := by simp
      clear hb1 hyes hno hds1 hds2 HCS
      go_wp2_with fail
      refine (rvsameK ac nc cc cs _ ad nd cd ds _ _ h5 h9 (zu HE)).mono ?_;rintro e w10 ⟨rfl, hb1⟩;replace HC := zh (Below.step (zu HC) hb1);replace h8 := h8.za hb1;clear hb1 h5 h9 HE
      go_wp2_with fail
      refine (spHasK al nl cl' ls p 36 av nv cv vs 3 _ ((hl.za (zu HC)).mk) (zu HP).1 (zu HP).2 ((hv.za (zu HC)).vk) q0 (zu HQ) (by omega) (by omega) (by omega) hN1' (by omega)).mono ?_;rintro e w11 ⟨rfl, hb1⟩;replace HC := zh (Below.step (zu HC) hb1);replace h8 := h8.za hb1;clear hb1
      go_wp2_with fail
      refine (spRestK al nl cl' ls p 36 av nv cv vs 3 _ ((hl.za (zu HC)).mk) (zu HP).1 (zu HP).2 ((hv.za (zu HC)).vk) (by omega) (by omega) (by omega) hN1' (by omega)).mono ?_;rintro e w12 ⟨a12, c12, ts, rfl, h12, hlo, hdi, hb1⟩;replace HC := zh (Below.step (zu HC) hb1);replace h8 := h8.za hb1;have HE := zh (show ts = us from vec_ext (by rw [h12.len_eq, h8.len_eq]) fun j _ => LowV.one (zu HP).1 hlo hdi (zu HU).1 (zu HU).2 j);clear hb1 hlo hdi
      go_wp2_with fail
      refine (rvsameK a12 nv c12 ts _ a8 nv c8 us _ _ h12 h8 (zu HE)).mono ?_;rintro e w13 ⟨rfl, hb1⟩;have HD := zh (Below.step (zu HCC) (Below.step (zu HC) hb1));clear hb1 h8 h12 hl hv HE;go_wp2;go_roundw
      case rel => exact ⟨i + 1, _, _, _, hs, _, _, _, x, by omega, by go_num, rfl, rfl, hm4, (zu HH).1.za (zu HD), (zu HH).2.za (zu HD), by omega, zu HD⟩
      case measure => simp [intOf]; omega
     ·have HNO := zh hform;clear hform
      go_wp2_with fail
      refine (spCoordsN al nl cl' ls 36 av nv cv _ hl.mk (by omega) (by omega) (zu HNO)).mono ?_;rintro e w5 ⟨rfl, hb1⟩;have HC := zh hb1;clear hb1;by_cases hnv : nv = 0
      ·have hnv0 : ¬ (0 : Int) < (nv : Int) := by omega
       have hnvb : decide ((0 : Int) < (nv : Int)) = false := decide_eq_false hnv0;clear hnv
       go_wp2_with fail
       refine (rvnegK av nv cv vs 3 _ (hv.za (zu HC)) (by omega) (by omega)).mono ?_;rintro e w6 ⟨a6, c6, rfl, h6, hb1⟩;replace HC := zh (Below.step (zu HC) hb1);clear hb1
       go_wp2_with fail
       refine (rvnegK a6 nv c6 (vneg vs) (3 + 2) _ (h6.vs (by omega)) (by omega) (by omega)).mono ?_;rintro e w7 ⟨a7, c7, rfl, h7, hb1⟩;rw [vneg_neg] at h7;replace HC := zh (Below.step (zu HC) hb1);clear hb1 h6;clear hnv0 hnvb
       go_wp2_with fail
       refine (rvsameK none 0 0 [] 3 none 0 0 [] 3 _ (vf_nil12 _ _) (vf_nil12 _ _) rfl).mono ?_;rintro e w8 ⟨rfl, hb1⟩;replace HC := zh (Below.step (zu HC) hb1);replace h7 := h7.za hb1;clear hb1
       go_wp2_with fail
       refine (spHasN al nl cl' ls 36 av nv cv _ ((hl.za (zu HC)).mk) (by omega) (by omega) (zu HNO)).mono ?_;rintro e w9 ⟨rfl, hb1⟩;replace HC := zh (Below.step (zu HC) hb1);replace h7 := h7.za hb1;clear hb1
       go_wp2_with fail
       refine (spRestN al nl cl' ls 36 av nv cv vs 3 _ ((hl.za (zu HC)).mk) ((hv.za (zu HC)).vk) (by omega) (by omega) (by omega) (zu HNO)).mono ?_;rintro e w10 ⟨a10, c10, rfl, h10, hb1⟩;replace HC := zh (Below.step (zu HC) hb1);replace h7 := h7.za hb1;clear hb1
       go_wp2_with fail
       refine (rvsameK a10 nv c10 vs (3 + 1) a7 nv c7 vs (3 + 2 + 2) _ h10 h7 rfl).mono ?_;rintro e w11 ⟨rfl, hb1⟩;have HD := zh (Below.step (zu HCC) (Below.step (zu HC) hb1));clear hb1 h7 h10 hl hv;go_wp2;go_roundw
       case rel => exact ⟨i + 1, _, _, _, hs, _, _, _, x, by omega, by go_num, rfl, rfl, hm4, (zu HH).1.za (zu HD), (zu HH).2.za (zu HD), by omega, zu HD⟩
       case measure => simp [intOf]; omega
      ·have hnv0 : (0 : Int) < (nv : Int) := by omega
       go_wp2_with fail
       refine (refIsK al nl cl' ls 36 (nv : Int) false _ ((hl.za (zu HC)).mk) (by omega) (by omega) ⟨fun e => by simp at e, fun e => absurd e (zu HNO)⟩).mono ?_;rintro e w5b ⟨rfl, hb1⟩;replace HC := zh (Below.step (zu HC) hb1);clear hb1 hnv
       go_wp2_with fail
       refine (rvnegK av nv cv vs 3 _ (hv.za (zu HC)) (by omega) (by omega)).mono ?_;rintro e w6 ⟨a6, c6, rfl, h6, hb1⟩;replace HC := zh (Below.step (zu HC) hb1);clear hb1
       go_wp2_with fail
       refine (rvnegK a6 nv c6 (vneg vs) (3 + 2) _ (h6.vs (by omega)) (by omega) (by omega)).mono ?_;rintro e w7 ⟨a7, c7, rfl, h7, hb1⟩;rw [vneg_neg] at h7;replace HC := zh (Below.step (zu HC) hb1);clear hb1 h6
       go_wp2_with fail
       refine (rvsameK none 0 0 [] 3 none 0 0 [] 3 _ (vf_nil12 _ _) (vf_nil12 _ _) rfl).mono ?_;rintro e w8 ⟨rfl, hb1⟩;replace HC := zh (Below.step (zu HC) hb1);replace h7 := h7.za hb1;clear hb1
       go_wp2_with fail
       refine (spHasN al nl cl' ls 36 av nv cv _ ((hl.za (zu HC)).mk) (by omega) (by omega) (zu HNO)).mono ?_;rintro e w9 ⟨rfl, hb1⟩;replace HC := zh (Below.step (zu HC) hb1);replace h7 := h7.za hb1;clear hb1
       go_wp2_with fail
       refine (spRestN al nl cl' ls 36 av nv cv vs 3 _ ((hl.za (zu HC)).mk) ((hv.za (zu HC)).vk) (by omega) (by omega) (by omega) (zu HNO)).mono ?_;rintro e w10 ⟨a10, c10, rfl, h10, hb1⟩;replace HC := zh (Below.step (zu HC) hb1);replace h7 := h7.za hb1;clear hb1
       go_wp2_with fail
       refine (rvsameK a10 nv c10 vs (3 + 1) a7 nv c7 vs (3 + 2 + 2) _ h10 h7 rfl).mono ?_;rintro e w11 ⟨rfl, hb1⟩;have HD := zh (Below.step (zu HCC) (Below.step (zu HC) hb1));clear hb1 h7 h10 hl hv;go_wp2;go_roundw
       case rel => exact ⟨i + 1, _, _, _, hs, _, _, _, x, by omega, by go_num, rfl, rfl, hm4, (zu HH).1.za (zu HD), (zu HH).2.za (zu HD), by omega, zu HD⟩
       case measure => simp [intOf]; omega
    ·have hi2 : i = 2 := by omega
     subst hi2;replace HB := zh (Below.step (zu HB) (zu HCC));clear hl hv
     go_wp2_with fail
     refine (awake12_any _).mono ?_;rintro e w11 ⟨rfl, hb1⟩;go_wp2;go_ret;exact ⟨rfl, Below.step (zu HB) hb1⟩
  ·replace HB := zh (Below.step (zu HB) hb1);clear hlt hb1 hr2 HMS
   go_wp2_with fail
   refine (awake12_any _).mono ?_;rintro e w11 ⟨rfl, hb1⟩;go_wp2;go_ret;exact ⟨rfl, Below.step (zu HB) hb1⟩
 ·clear hlt hb1 r0 r2
  go_wp2_with fail
  refine (awake12_any _).mono ?_;rintro e w11 ⟨rfl, hb1⟩;go_wp2;go_ret;exact ⟨rfl, Below.step (zu HB) hb1⟩

end Go.Proofs.YtkomdimalgnamaaGreat
