/-
 The walk of SpanFull: it tells true.
-/
import Derived.Test.YtkomdimalgnamaaGreatLSBase
import Derived.Test.YtkomdimalgnamaaGreatRTag
import Derived.Test.YtkomdimalgnamaaGreatVTimesF
import Derived.Test.YtkomdimalgnamaaGreatRHas
import Derived.Deep.CutRange
namespace Go.Proofs.YtkomdimalgnamaaGreat
open Go.RowKit Lb
set_option maxRecDepth 20000

theorem pivots_one {V : List (List Int)} {q r : Nat → Nat} (hf : HForm V q) (hg : HForm V r) (i : Nat) (hi : i < V.length) : q i = r i := isPivot_inj (hf.isPivot hi) (hg.isPivot hi)
theorem IsWhole.row {V hs : List (List Int)} {N : Nat} (hw : IsWhole V hs N) (hl : ∀ r ∈ hs, r.length = N) (i : Nat) (hi : i < hs.length) : InL V fun j => ent hs i j := by
 obtain ⟨K, h1, h2⟩ := hw;exact h1.sub h2 (lens_zero hl) i hi
theorem ff_mf {base k : Nat} {w : World} {ao : Option Addr} {n cap : Nat} {rs : List (List Int)} (h : MOwn (VFF base k) w base ao n cap rs) : MF w ao n cap rs k := RowsOf.imp (R := VFF base k) h.rows fun h => h.1
theorem index_of {hs ms V : List (List Int)} {p q r : Nat → Nat} {N n : Nat} {y : Int} (hf : HForm hs p) (hl : ∀ r ∈ hs, r.length = N) (hw : IsWhole V hs N) (hV : HForm V q) (hr : HForm V r) (hlen : hs.length = n) (he : ∀ i j, ent ms i j = y * ent hs i j) : ((prodN n fun t => ent ms t (p t)).tdiv (prodN n fun t => ent V t (r t))) = ((prodN n fun t => ent hs t (p t)).tdiv (prodN n fun t => ent V t (q t))) * y ^ n := by
 have hVl := hw.len hf hl hV;have hd := pivots_divide hf hV (fun i hi => hw.row hl i hi) hVl;rw [prodN_congr (f := fun t => ent ms t (p t)) (g := fun t => y * ent hs t (p t)) fun i _ => he i (p i), prodN_congr (f := fun t => ent V t (r t)) (g := fun t => ent V t (q t)) fun i hi => by rw [pivots_one hr hV i (by omega)]];rw [index_times (f := fun t => ent V t (q t)) (g := fun t => ent hs t (p t)) (fun i hi => (hd i (by omega)).2) (fun i hi => hV.pos i (by omega)), Int.mul_comm]
theorem index_self {V : List (List Int)} {q r : Nat → Nat} {n : Nat} (hV : HForm V q) (hr : HForm V r) (hlen : V.length = n) : ((prodN n fun t => ent V t (q t)).tdiv (prodN n fun t => ent V t (r t))) = 1 := by
 rw [prodN_congr (f := fun t => ent V t (r t)) (g := fun t => ent V t (q t)) fun i hi => by rw [pivots_one hr hV i (by omega)]];have := prodN_pos (n := n) (f := fun t => ent V t (q t)) fun i hi => hV.pos i (by omega);exact Int.tdiv_self (by omega)
set_option maxRecDepth 40000 in
set_option maxHeartbeats 4000000 in
theorem spanFull_walk (a0 : Option Addr) (len0 cap0 : Nat) (rs0 : List (List Int)) (m1 : Int) (m2 : Int) (w : World) (r0 : MI w a0 len0 cap0 rs0) (_r1 : (Lit.int .i64 m1).wf = true) (r2 : (Lit.int .u8 m2).wf = true) :
  Calls Tryz.prog 7 #[.slice a0 len0 cap0, .int .i64 m1, .int .u8 m2] w fun e w' => e = .returned (.bool true) ∧ Below w.heap.size w w' := by
 obtain ⟨M, eM⟩ : ∃ M : Nat, m2 = (M : Int) := ⟨m2.toNat, by have := bounds_u8 r2; omega⟩;have hM : M ≤ 255 := by have := bounds_u8 r2; omega
 subst eM;obtain ⟨R, eR⟩ : ∃ R : Nat, R = M % 9 := ⟨_, rfl⟩;have hR : R ≤ 8 := by omega
 have e1 : (M : Int).tmod 9 = (R : Int) := by rw [Int.tmod_eq_emod_of_nonneg (by omega)]; omega
 have e2 : (M : Int) % 9 = (R : Int) := by omega
 obtain ⟨Y, eY⟩ : ∃ Y : Int, Y = 1 + (R : Int) := ⟨_, rfl⟩;have hY1 : 1 ≤ Y := by omega
 have hY9 : Y ≤ 9 := by omega
 have eY' : (1 : Int) + (R : Int) = Y := eY.symm;clear r2 eR eY;go_enter Tryz.func7, Tryz.ntmps7
 go_wp2_with fail
 refine (heavyK a0 len0 cap0 rs0 4 9 _ r0 (by omega) (by omega)).mono ?_;rintro e w1 ⟨q, rfl, hq, hlt, hb1⟩;have HB := zh hb1;rcases hq with rfl | rfl
 ·obtain ⟨hn4, -, hms⟩ := hlt rfl;have hl0 := hms _ hb1;clear hms hlt hb1 r0
  go_wp2_with fail
  refine (madeK a0 len0 cap0 rs0 m1 _ hl0 (by omega)).mono ?_;rintro e w3 ⟨a4, m, c4, N, p, hs, rfl, hN1, hN7, hm4, h4, hf, hl, ht, hb1⟩;have HF := zh (And.intro hf (And.intro hl ht));have HLN := zh h4.len_eq;replace HB := zh (Below.step (zu HB) hb1);clear hb1 hf hl ht hl0
  go_wp2_with fail
  refine (spWholeK a4 m c4 hs p 36 N _ (h4.mk (by omega)) (zu HF).1 (zu HF).2.1 hN1 (by omega) (by omega) (by omega) (Or.inl ⟨by omega, (zu HF).2.2⟩)).mono ?_;rintro e w4 ⟨a5, c5, q, V, rfl, hv, hfv, hiv, hlv, hb1⟩;have HV := zh (And.intro hiv (And.intro hfv hlv));have HVN := zh hv.len_eq;have HVT := zh ((zu HF).2.2.via (hiv.key (lens_zero (zu HF).2.1)));have HIS := zh (show rform V (N : Int) = true ∧ ∃ p, HForm V p from ⟨rform_yes (by omega) fun i hi => by rw [rows_len hlv i hi], q, hfv⟩);replace h4 := h4.za hb1;replace HB := zh (Below.step (zu HB) hb1);clear hb1 hfv hiv hlv
  go_wp2_with fail
  refine (isK a5 m c5 V 36 (N : Int) true _ (hv.mk (by omega)) (by omega) (by omega) ⟨fun _ => zu HIS, fun _ => rfl⟩).mono ?_;rintro e w5 ⟨rfl, hb1⟩;replace h4 := h4.za hb1;replace hv := hv.za hb1;replace HB := zh (Below.step (zu HB) hb1);clear hb1 HIS
  go_wp2_with fail
  refine (spWholeK a5 m c5 V q 36 N _ (hv.mk (by omega)) (zu HV).2.1 (zu HV).2.2 hN1 (by omega) (by omega) (by omega) (Or.inl ⟨by omega, zu HVT⟩)).mono ?_;rintro e w6 ⟨a6, c6, q2, V2, rfl, h6, hf2, hi2, hl2, hb1⟩;have HE := zh (show V2 = V from (IsWhole.via ((zu HV).1.key (lens_zero (zu HF).2.1)) hi2).one (zu HV).1 hf2 (zu HV).2.1 hl2 (zu HV).2.2);replace h4 := h4.za hb1;replace hv := hv.za hb1;replace HB := zh (Below.step (zu HB) hb1);clear hb1 hf2 hi2 hl2
  go_wp2_with fail
  refine (refSameAllK a6 m c6 V2 36 a5 m c5 V 36 _ h6 hv (zu HE)).mono ?_;rintro e w7 ⟨rfl, hb1⟩;replace h4 := h4.za hb1;replace hv := hv.za hb1;replace HB := zh (Below.step (zu HB) hb1);clear hb1 h6 HE
  go_wp2_with fail
  refine (spIndexK a5 m c5 V q 36 N _ (hv.mk (by omega)) (zu HV).2.1 (zu HV).2.2 hN1 (by omega) (by omega) (by omega) (Or.inl ⟨by omega, zu HVT⟩)).mono ?_;rintro e w8 ⟨b8, a8, l8, c8, q3, V3, rfl, h8, hf3, hi3, hl3, hb1⟩;have e3 : V3 = V := (IsWhole.via ((zu HV).1.key (lens_zero (zu HF).2.1)) hi3).one (zu HV).1 hf3 (zu HV).2.1 hl3 (zu HV).2.2;subst e3;rw [index_self (zu HV).2.1 hf3 (zu HVN)] at h8;replace h4 := h4.za hb1;replace hv := hv.za hb1;replace HB := zh (Below.step (zu HB) hb1);clear hb1 hf3 hi3 hl3
  go_wp2_with fail
  refine (rofK 1 _ (by omega) (by omega)).mono ?_;rintro e w9 ⟨b9, a9, l9, c9, rfl, h9, hb1⟩;replace h4 := h4.za hb1;replace hv := hv.za hb1;replace h8 := h8.za hb1;replace HB := zh (Below.step (zu HB) hb1);clear hb1
  go_wp2_with fail
  refine (rsameK b8 a8 l8 c8 1 _ b9 a9 l9 c9 1 2 _ h8 h9 rfl).mono ?_;rintro e w10 ⟨rfl, hb1⟩;replace h4 := h4.za hb1;replace hv := hv.za hb1;replace HB := zh (Below.step (zu HB) hb1);clear hb1 h8 h9;obtain ⟨V, eV⟩ : ∃ V, V = V3 := ⟨_, rfl⟩;subst eV
  go_wp2_with fail
  refine (rofK Y _ (by omega) (by omega)).mono ?_;rintro e w11 ⟨by', ay, ly, cy, rfl, hy, hb1⟩;replace h4 := h4.za hb1;replace hv := hv.za hb1;replace HB := zh (Below.step (zu HB) hb1);clear hb1 e1 e2 eY';obtain ⟨W12, hW12⟩ : ∃ W', W' = w11.alloc (.cells #[.bool by', .slice ay ly cy] 44) := ⟨_, rfl⟩;obtain ⟨BY, hb1⟩ := boxes1 w11 by' ay ly cy hW12;obtain ⟨gy, egy⟩ : ∃ gy, gy = w11.heap.size := ⟨_, rfl⟩;have hgy0 : w.heap.size ≤ gy := by rw [egy]; exact (zu HB).size
  rw [← egy] at BY;replace h4 := h4.za hb1;replace hv := hv.za hb1;replace hy := hy.za hb1;replace HB := zh (Below.step (zu HB) hb1);clear hb1
  go_wp2_with fail
  rw [← hW12, ← egy];clear hW12 egy;refine (spIndexK a4 m c4 hs p 36 N _ (h4.mk (by omega)) (zu HF).1 (zu HF).2.1 hN1 (by omega) (by omega) (by omega) (Or.inl ⟨by omega, (zu HF).2.2⟩)).mono ?_;rintro e w13 ⟨b1, a1, l1, c1, q3, V3, rfl, hx, hf3, hi3, hl3, hb1⟩;have e3 : V3 = V := hi3.one (zu HV).1 hf3 (zu HV).2.1 hl3 (zu HV).2.2;subst e3;obtain ⟨I0, eI0⟩ : ∃ I0 : Int, I0 = (prodN m fun i => ent hs i (p i)).tdiv (prodN m fun i => ent V3 i (q3 i)) := ⟨_, rfl⟩;rw [← eI0] at hx;have HQ3 := zh hf3;have EI0 := zh eI0;replace h4 := h4.za hb1;replace hv := hv.za hb1;replace hy := hy.za hb1;replace BY := BY.za hb1;replace HB := zh (Below.step (zu HB) hb1);clear hb1 hf3 hi3 hl3 eI0;obtain ⟨V, eV⟩ : ∃ V, V = V3 := ⟨_, rfl⟩;subst eV;obtain ⟨W14, hW14⟩ : ∃ W', W' = w13.alloc (.cells #[.bool b1, .slice a1 l1 c1] 44) := ⟨_, rfl⟩;obtain ⟨BI, hb1⟩ := boxes1 w13 b1 a1 l1 c1 hW14;obtain ⟨gi, egi⟩ : ∃ gi, gi = w13.heap.size := ⟨_, rfl⟩;have hgi0 : w.heap.size ≤ gi := by rw [egi]; exact (zu HB).size
  have hgyi : gy ≠ gi := by
   have := BY.lt;omega
  rw [← egi] at BI;have hx0 := hx.za hb1;have HS14 : Hid (W14.heap.size = gi + 1) := zh (by rw [hW14, egi]; simp);have HS13 := zh egi.symm;have HC0 := zh hb1;clear hb1 hx;obtain ⟨ms, ems⟩ : ∃ ms, ms = hs.map fun r => vtimes r Y := ⟨_, rfl⟩;have HML := zh (show ms.length = hs.length by rw [ems, List.length_map]);have HME := zh (show ∀ i j, ent ms i j = Y * ent hs i j from fun i j => by rw [ems]; exact ent_times hs Y i j);have HMA : Hid (∀ i, i < m → ms.getD i [] = vtimes (hs.getD i []) Y) := zh fun i hi => by rw [ems]; exact map_getD (by rw [zu HLN]; exact hi)
  have HMN := zh (show ∀ r ∈ ms, r.length = N from fun r hr => by
   rw [ems] at hr;obtain ⟨s, hs', rfl⟩ := List.mem_map.1 hr;rw [vtimes_len]; exact (zu HF).2.1 s hs')
  clear ems;have HM := zh (show HForm ms p ∧ (∀ r ∈ ms, r.length = N) ∧ Tame ms N ∧ (∀ G, Ker G ms N → Ker G hs N) from ⟨(zu HF).1.times (by omega) (zu HML) (zu HME), zu HMN, (zu HF).2.2.via (times_key (by omega) (zu HML) (zu HME)), times_key (by omega) (zu HML) (zu HME)⟩);have HIXm := zh (show ∀ r, HForm V r → ((prodN m fun t => ent ms t (p t)).tdiv (prodN m fun t => ent V t (r t))) = I0 * Y ^ m from fun r hr => by
   rw [zu EI0];exact index_of (zu HF).1 (zu HF).2.1 (zu HV).1 (zu HQ3) hr (zu HLN) (zu HME))
  go_wp2_with fail
  rw [← hW14, ← egi];clear hW14 egi;have hs14 := zu HS14;have hs13 := zu HS13;clear HS14 HS13;go_loopw [12, 65] (fun s t wr => ∃ (i : Nat) (am : Option Addr) (cm : Nat) (b1 : Bool) (a1 : Option Addr) (l1 c1 : Nat), i ≤ m ∧ t = .int .i64 (i : Int) ∧ s = .slice am i cm ∧ MOwn (VFF W14.heap.size 38) wr W14.heap.size am i cm (ms.take i) ∧ Box wr gi b1 a1 l1 c1 ∧ FK wr b1 a1 l1 c1 (I0 * Y ^ i) (2 + m * 36 + i * 2) ∧ Below w13.heap.size w13 wr) (fun _ t _ => m - (intOf t).toNat)
  case atStart => exact ⟨0, none, 0, _, _, _, _, Nat.zero_le _, rfl, rfl, mOwn_nil _ _ _, BI, by rw [Int.pow_zero, Int.mul_one]; exact hx0, zu HC0⟩
  case round =>
   clear hx0 HC0 BI;obtain ⟨i, am, cm, b1, a1, l1, c1, hi, rfl, rfl, hown, BI, hx, hC⟩ := hrel;have HC := zh hC;clear hC;by_cases hlt : i < m
   ·obtain ⟨g, off, rfl⟩ := h4.addr (by omega);obtain ⟨hg, a15, l15, c15, hc15, hv15⟩ := RowsOf.at (R := fun w a l c zs => VF w a l c zs 36) h4 hlt;have hir : i < hs.length := by rw [zu HLN]; exact hlt
    have hl15 : N = l15 := by rw [← hv15.len_eq]; exact (rows_len (zu HF).2.1 i hir).symm
    subst hl15;have f2 := ((zu HC).cell (p := ⟨g, off + i, none⟩) hg).trans hc15;have hgr := Nat.lt_of_lt_of_le hg (zu HC).size;have hi0 : (0 : Int) ≤ (i : Int) := by omega
    have hi1 : (i : Int) < (m : Int) := by omega
    have hrow := zh ((zu HV).1.row (zu HF).2.1 i hir);clear hc15 hg
    go_wp2_with fail
    refine (spHasK a5 m c5 V q 36 a15 N c15 (hs.getD i []) 36 _ ((hv.za (zu HC)).mk (by omega)) (zu HV).2.1 (zu HV).2.2 ((hv15.za (zu HC)).vk (by omega)) true ⟨fun _ => zu hrow, fun _ => rfl⟩ (by omega) (by omega) (by omega) hN1 (by omega)).mono ?_;rintro e w16 ⟨rfl, hb1⟩;replace hown := hown.laterF hb1;replace BI := BI.za hb1;replace hx := hx.za hb1;replace HC := zh (Below.step (zu HC) hb1);clear hb1 f2 hgr hrow;obtain ⟨f1, f2, _, _⟩ := (BY.za (zu HC)).zb;have hsy := (BY.za (zu HC)).lt
    go_wp2_with fail
    refine (vtimesF a15 N c15 (hs.getD i []) 36 by' ay ly cy Y 2 _ ((hv15.za (zu HC)).vk (by omega)) ((hy.za (zu HC)).ik (by omega)) (by omega)).mono ?_;rintro e w17 ⟨a17, c17, rfl, h17, hfr, hb1⟩;have hff : VFF W14.heap.size 38 w17 a17 N c17 (vtimes (hs.getD i []) Y) := ⟨h17, fun g off e => by have := hfr g off e; have := BI.lt; omega⟩;rw [← zu HMA i hlt] at hff;replace hown := hown.laterF hb1;replace BI := BI.za hb1;replace hx := hx.za hb1;replace HC := zh (Below.step (zu HC) hb1);clear hb1 hv15 h17 hfr f1 f2 hsy;obtain ⟨W18, hW18⟩ : ∃ W18, W18 = w17.alloc (.cells #[.slice a17 N c17] 24) := ⟨_, rfl⟩;have hb1 : Below w17.heap.size w17 W18 := by rw [hW18]; exact below_new _ _
    have hone := ff_one hff;replace hown := hown.laterF hb1;replace BI := BI.za hb1;replace hx := hx.za hb1;replace HC := zh (Below.step (zu HC) hb1);have hlt' : i < ms.length := by rw [zu HML]; exact hir
    have HT := zh (take_all_snoc hlt');obtain ⟨y, ey⟩ : ∃ y, y = ms.getD i [] := ⟨_, rfl⟩;rw [← ey] at hone HT;have hsz : W14.heap.size ≤ W18.heap.size := by have := BI.lt; omega
    clear hb1 hff ey hlt';rw [hW18] at hown hsz
    go_wp2_with (at_builtin; (refine append_rows (R := VFF W14.heap.size 38) (steadyFF W14.heap.size 38) rfl (.tmp 73) (.tmp 77) 22 Tryz.underlying22 rfl W14.heap.size am i cm (ms.take i) rfl hown _ 1 1 [y] rfl hone (by omega) hsz ?_))
    intro an cn w19 hown2 hgr;rw [← hW18] at hgr hown hsz;clear hW18 hone;have hge := hown.ge;rw [← zu HT] at hown2;have BI2 := Box.grown7 BI hgr (fun e => by have := hge gi e; omega);have hx2 := hx.grown hgr hown.onlySl.noLimb;have HC2 := zh ((zu HC).grown hgr (by omega) (fun k e => by have := hge k e; omega));clear hgr hge hown BI hx HC hsz;obtain ⟨f1, f2, _, _⟩ := BI2.zb;have hsi := BI2.lt;obtain ⟨f3, f4, _, _⟩ := (BY.za (zu HC2)).zb;have hsy := (BY.za (zu HC2)).lt
    go_wp2_with fail
    refine (rmulK b1 a1 l1 c1 (I0 * Y ^ i) (2 + m * 36 + i * 2) by' ay ly cy Y 2 _ (hx2.ik (by omega)) ((hy.za (zu HC2)).ik (by omega)) (by have := (hx2.sk (by omega)).2; have := (hy.sk (by omega)).2; omega)).mono ?_;rintro e w20 ⟨b20, a20, l20, c20, rfl, h20, hb1⟩;rw [show I0 * Y ^ i * Y = I0 * Y ^ (i + 1) by rw [Int.pow_succ, Int.mul_assoc], show 2 + m * 36 + i * 2 + 2 = 2 + m * 36 + (i + 1) * 2 by omega] at h20;replace hown2 := hown2.laterF hb1;replace BI2 := BI2.za hb1;replace HC2 := zh (Below.step (zu HC2) hb1);clear hb1 f1 f2 f3 f4 hsi hsy hx2;have hnl := BI2.noLimb;have hown3 := ff_kept hown2 (Nat.le_refl _) (grown_set2 w20 gi 0 1 (.bool b20) (.slice a20 l20 c20)) (fun g e => by
     simp only [Option.some.injEq] at e;subst e;exact ⟨by omega, hnl⟩)
    have BI3 := BI2.put b20 a20 l20 c20;have hx3 := h20.put hnl b20 a20 l20 c20;have HC3 := zh (below_put (zu HC2) (Nat.le_of_eq hs13) b20 a20 l20 c20);obtain ⟨q1, q2, q3, q4⟩ := BI2.zb;have hsi := BI2.lt;clear hown2 HC2 h20 hnl;go_wp2;go_roundw
    case rel => exact ⟨i + 1, _, _, _, _, _, _, by omega, by go_num, rfl, by rw [hs14]; exact hown3, BI3, hx3, zu HC3⟩
    case measure => simp [intOf]; omega
   ·have him : i = m := by omega
    subst him;have hi1 : ¬ (i : Int) < (i : Int) := by omega
    rw [List.take_of_length_le (by rw [zu HML, zu HLN]; exact Nat.le_refl _)] at hown;have hm := ff_mf hown;have HIX := HIXm;replace hv := hv.za (zu HC);replace HB := zh (Below.step (zu HB) (zu HC));clear hown HC
    go_upto_region 18 with fail
    have HW : Below wr.heap.size wr wr.drew := (Below.refl _ _).drew;have HS := zh fun w' (HW : Below wr.heap.size wr w') => con2 (BI.za HW).zb.1 (BI.za HW).zb.2.1;refine zst HS HW 15 (by kernel_rfl) fun zH => ?_;refine ztl (i := 0) [2, 4, 5, 6, 7, 8, 9, 10, 11, 12, 13, 14, 15] rfl ?_;simp only [Act.put, aGet, aZero, aSet, aHead, aTail];refine ztl (i := 1) [2, 4, 5, 6, 7, 8, 9, 10, 11, 12, 13, 14, 15] rfl ?_;simp only [Act.put, aAll];refine ztl (i := 3) [4, 5, 6, 7, 8, 9, 10, 11, 12, 13, 14, 15] rfl ?_;simp only [Act.put, aAll];refine tin (i := 2) rfl fun K hK => ?_;go_simp;refine (spWholeK am i cm ms p 38 N _ ((hm.za HW).mk (by omega)) (zu HM).1 (zu HM).2.1 hN1 (by omega) (by omega) (by omega) (Or.inl ⟨by omega, (zu HM).2.2.1⟩)).mono ?_;rintro e w20 ⟨a20, c20, q2, V2, rfl, h20, hf2, hi2, hl2, hb1⟩;have HE := zh (show V2 = V from (IsWhole.via (zu HM).2.2.2 hi2).one (zu HV).1 hf2 (zu HV).2.1 hl2 (zu HV).2.2);replace HW := Below.step HW hb1;clear hb1 hf2 hi2 hl2;refine hK.out _ _ ?_ (fun zH => ?_)
    ·exact zu HS _ HW
    clear hK K
    try simp only [Act.put, aAll]
    refine tin (i := 4) rfl fun K hK => ?_;go_simp;refine (refSameAllK a20 i c20 V2 36 a5 i c5 V 36 _ h20 (hv.za HW) (zu HE)).mono ?_;rintro e w21 ⟨rfl, hb1⟩;replace HW := Below.step HW hb1;clear hb1 h20 HE;refine hK.out _ _ ?_ (fun zH => ?_)
    ·exact zu HS _ HW
    clear hK K
    try simp only [Act.put, aAll]
    refine ztl (i := 5) [6, 7, 8, 9, 10, 11, 12, 13, 14, 15] rfl ?_;simp only [Act.put, aAll];refine ztl (i := 6) [8, 10, 11, 12, 13, 14, 15] rfl ?_;simp only [Act.put, aAll];refine ztl (i := 7) [8, 10, 11, 12, 13, 14, 15] rfl ?_;simp only [Act.put, aAll];refine ztl (i := 9) [10, 11, 12, 13, 14, 15] rfl ?_;simp only [Act.put, aAll];refine tin (i := 8) rfl fun K hK => ?_;go_simp;refine (spIndexK am i cm ms p 38 N _ ((hm.za HW).mk (by omega)) (zu HM).1 (zu HM).2.1 hN1 (by omega) (by omega) (by omega) (Or.inl ⟨by omega, (zu HM).2.2.1⟩)).mono ?_;rintro e w22 ⟨b22, a22, l22, c22, q3, V3, rfl, h22, hf3, hi3, hl3, hb1⟩;have e3 : V3 = V := (IsWhole.via (zu HM).2.2.2 hi3).one (zu HV).1 hf3 (zu HV).2.1 hl3 (zu HV).2.2;subst e3;have HE := zh (show ((prodN i fun t => ent ms t (p t)).tdiv (prodN i fun t => ent V3 t (q3 t))) = I0 * Y ^ i from (zu HIX) q3 hf3);rw [zu HE] at h22;replace HW := Below.step HW hb1;clear hb1 hf3 hi3 hl3 HE;refine hK.out _ _ ?_ (fun zH => ?_)
    ·exact zu HS _ HW
    clear hK K
    try simp only [Act.put, aAll]
    refine tin (i := 10) rfl fun K hK => ?_;go_simp;refine (rsameK b22 a22 l22 c22 (I0 * Y ^ i) _ b1 a1 l1 c1 (I0 * Y ^ i) _ _ h22 (hx.za HW) rfl).mono ?_;rintro e w23 ⟨rfl, hb1⟩;replace HW := Below.step HW hb1;clear hb1 h22;refine hK.out _ _ ?_ (fun zH => ?_)
    ·exact zu HS _ HW
    clear hK K
    try simp only [Act.put, aAll]
    refine ztl (i := 11) [12, 13, 14, 15] rfl ?_;simp only [Act.put, aAll];refine ztl (i := 12) [13, 14, 15] rfl ?_;simp only [Act.put, aAll];refine tin (i := 13) rfl fun K hK => ?_;go_simp;refine (awake12_any _).mono ?_;rintro e w24 ⟨rfl, hb1⟩;replace HW := Below.step HW hb1;clear hb1;refine hK.out _ _ ?_ (fun zH => ?_)
    ·exact zu HS _ HW
    clear hK K
    try simp only [Act.put, aAll]
    refine ztl (i := 14) [15] rfl ?_;simp only [Act.put, aAll];refine tout (i := 15) rfl fun K hK => ?_;go_simp;refine hK.out _ _ ?_;clear hK K
    try simp only [Act.put, aAll]
    refine till_done (by kernel_rfl) ?_ _;clear zH;go_wp2;go_ret;exact ⟨rfl, Below.step (zu HB) HW⟩
 ·clear hlt hb1 r0
  go_wp2_with fail
  refine (awake12_any _).mono ?_;rintro e w99 ⟨rfl, hb1⟩;go_wp2;go_ret;exact ⟨rfl, Below.step (zu HB) hb1⟩

end Go.Proofs.YtkomdimalgnamaaGreat
