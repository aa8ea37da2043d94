/-
 The walk of LllGramDots: it tells true.
-/
import Derived.Test.YtnpneloahajniaaGreatLLBase
import Derived.Test.YtnpneloahajniaaGreatJR
import Derived.Test.YtnpneloahajniaaGreatRHnf
import Derived.Test.YtnpneloahajniaaGreatJF
namespace Go.Proofs.YtnpneloahajniaaGreat
open Go.RowKit Lb
set_option maxRecDepth 20000

theorem mOwn_head {R : World → Option Addr → Nat → Nat → List Int → Prop} {w : World} {base : Nat} {ao : Option Addr} {n cap : Nat} {rs : List (List Int)} (h : MOwn R w base ao n cap rs) (hn : 0 < n) : ∃ g, ao = some ⟨g, 0, none⟩ := by
 obtain ⟨⟨vs, hrow, _⟩, _⟩ := h;rcases hrow.form with ⟨_, e⟩ | ⟨g, cap', e, _⟩
 ·omega
 ·simp only [Value.slice.injEq, true_and] at e;exact ⟨g, e.1⟩
theorem dots_back {cl : List (List Int)} {N z : Nat} {x : Int} (hl : cl.length = z + 1) (hz : 0 < z) (hp : ∀ m, m ≤ z + 1 → gramD N (ent cl) m ≠ 0) : gramDs N (ent (cl.set z (vadd (vneg (cl.getD z [])) (vtimes (cl.getD 0 []) x)))) (z + 1) = gramDs N (ent cl) (z + 1) := by
 have e : ent (cl.set z (vadd (vneg (cl.getD z [])) (vtimes (cl.getD 0 []) x))) = setR (ent cl) z fun s => -ent cl z s + x * ent cl 0 s := funext fun t => funext fun s => by
  rw [ent_set _ _ _ _ _ (by omega)];unfold setR;by_cases c : t = z
  ·rw [if_pos c, if_pos c, vadd_at, vneg_at, vtimes_at, Int.mul_comm]; rfl
  ·rw [if_neg c, if_neg c]
 rw [e];exact gramDs_same fun k hk => gramD_back x hz (fun m hm => hp m (by omega)) k hk
set_option maxRecDepth 40000 in
set_option maxHeartbeats 4000000 in
theorem lllGramDots_walk (a0 : Option Addr) (len0 cap0 : Nat) (rs0 : List (List Int)) (m1 m2 : Int) (w : World) (r0 : MI w a0 len0 cap0 rs0) (_r1 : (Lit.int .i64 m1).wf = true) (r2 : (Lit.int .i8 m2).wf = true) :
  Calls Tryz.prog 5 #[.slice a0 len0 cap0, .int .i64 m1, .int .i8 m2] w fun e w' => e = .returned (.bool true) ∧ Below w.heap.size w w' := by
 obtain ⟨hm1, hm2⟩ := bounds_i8 r2;clear _r1 r2;have hwr : IntKind.i64.wrap m2 = m2 := by
  simp [IntKind.wrap, IntKind.bits, IntKind.signed];omega
 go_enter Tryz.func5, Tryz.ntmps5
 go_wp2_with fail
 refine (heavyK a0 len0 cap0 rs0 4 7 _ r0 (by omega) (by omega)).mono ?_;rintro e w1 ⟨q, rfl, hq, hlt, hb1⟩;have HB := zh hb1;rcases hq with rfl | rfl
 ·obtain ⟨hn4, _, hms⟩ := hlt rfl;have hl := hms _ hb1;clear hms hlt hb1 r0
  go_wp2_with fail
  refine (cutsK a0 len0 cap0 rs0 3 m1 _ hl.mk (by omega)).mono ?_;rintro e w2 ⟨a2, c2, N, rfl, hN1, hN7, h2, hb1⟩;have HF := zh (cut_form rs0 hN1 hN7);obtain ⟨cl, ecl⟩ : ∃ cl, cl = rs0.map fun r => vcut r N := ⟨_, rfl⟩;rw [← ecl] at h2 HF;have HCL := zh h2.len_eq;have HRL : Hid (∀ i, i < len0 → (cl.getD i []).length = N) := zh fun i hi => by
   obtain ⟨M, e, _, _, h3⟩ := rform_rows (zu HF);rw [rows_len h3 i (by rw [zu HCL]; exact hi)];omega
  replace HB := zh (Below.step (zu HB) hb1);clear hb1 hl ecl;by_cases hl2 : len0 < 2
  ·have hlI : (len0 : Int) < 2 := by omega
   clear h2
   go_wp2_with fail
   refine (awake13_any _).mono ?_;rintro e wv ⟨rfl, hb9⟩;go_wp2;go_ret;exact ⟨rfl, Below.step (zu HB) hb9⟩
  ·have hlI : ¬ (len0 : Int) < 2 := by omega
   go_wp2_with fail
   refine (refHnfK a2 len0 c2 cl 3 N _ (h2.ms (by omega)) (by omega) (zu HRL) (by omega) (by omega) (small_aS (by omega)) (small_bS (by omega))).mono ?_;rintro e w3 ⟨a3, m, c3, p, hs, rfl, h3, hf, hsm, hhl, hmn, hb9⟩;have HML := zh h3.len_eq;replace h2 := h2.za hb9;replace HB := zh (Below.step (zu HB) hb9);clear hb9 h3;by_cases hm : m = len0
   ·have HFR := zh ((indep_gramD (l := cl) (N := N) (rlen_le fun t ht => zu HRL t (by rw [zu HCL] at ht; exact ht))).2 (free_of_form hf.eform hsm (by rw [zu HML, zu HCL]; exact hm)));obtain ⟨z, ez⟩ : ∃ z, len0 = z + 1 := ⟨len0 - 1, by omega⟩;have EZ := zh ez;have hz1 : 1 ≤ z := by omega
    have hzn : z < len0 := by omega
    clear hf hsm hhl hmn HML ez;subst hm;have hw1 : IntKind.i64.wrap ((m : Int) - 1) = (z : Int) := by rw [IntKind.wrap_i64]; have := zu EZ; omega
    have hzI : (z : Int) < (m : Int) := by omega
    have hz0 : (0 : Int) ≤ (z : Int) := by omega
    have hmI : (0 : Int) < (m : Int) := by omega
    have hmN : 0 < m := by omega
    have hbn := below_new w3 (.cells #[] 39);have hemp := mo_empty (w := w3) (base := w3.heap.size) (k := 9) rfl (Nat.le_refl _);have h2' := mf_up (h2.za hbn) (show 3 ≤ 9 by omega);have hszn := hbn.size;have HBN := zh hbn;clear hbn
    go_wp2_with (at_builtin; (refine append_rows (R := fun w a l c zs => VF w a l c zs 9) (steadyMO 9) rfl (.tmp 38) (.tmp 39) 22 Tryz.underlying22 rfl w3.heap.size _ 0 0 [] rfl hemp _ m _ cl rfl h2' (by omega) hszn ?_))
    intro am cm w6 hown hgr7;have hbe : Below w3.heap.size w3 w6 := (zu HBN).grown hgr7 hszn (MO.ge hemp);replace hown : MO w6 w3.heap.size am m cm cl 9 := by unfold MO; simpa using hown
    obtain ⟨gm, rfl⟩ := mOwn_head (R := fun w a l c zs => VF w a l c zs 9) hown (by omega);have H23 := zh h2;have HS3 := zh (zu HB).size;replace h2 := h2.za hbe;replace HB := zh (Below.step (zu HB) hbe);have hsz36 := hbe.size;have HB36 := zh hbe;clear hgr7 hemp hszn HBN h2' hbe;have hgm := (show MOwn (fun w a l c zs => VF w a l c zs 9) w6 w3.heap.size (some ⟨gm, 0, none⟩) m cm cl from hown).base_le.2;have hgm1 := (show MOwn (fun w a l c zs => VF w a l c zs 9) w6 w3.heap.size (some ⟨gm, 0, none⟩) m cm cl from hown).base_le.1;obtain ⟨_, az, lz, cz, xz, vz⟩ := RowsOf.at (R := fun w a l c zs => VF w a l c zs 9) (MOwn.rows (R := fun w a l c zs => VF w a l c zs 9) hown) hzn;obtain ⟨_, a0r, l0r, c0r, x0, v0⟩ := RowsOf.at (R := fun w a l c zs => VF w a l c zs 9) (MOwn.rows (R := fun w a l c zs => VF w a l c zs 9) hown) (show 0 < m by omega);rw [Nat.zero_add] at xz x0;have e1 : N = lz := by rw [← vz.len_eq]; exact (zu HRL z hzn).symm
    have e2 : N = l0r := by rw [← v0.len_eq]; exact (zu HRL 0 (by omega)).symm
    subst e1;subst e2;obtain ⟨nv, env⟩ : ∃ nv, nv = vadd (vneg (cl.getD z [])) (vtimes (cl.getD 0 []) m2) := ⟨_, rfl⟩;have ENV := zh env;have HNV := zh (show nv.length = N by rw [env, vadd_len, vneg_len, vtimes_len, zu HRL z hzn, zu HRL 0 (by omega), Nat.max_self]);clear env;obtain ⟨base, eb⟩ : ∃ base, base = w3.heap.size := ⟨_, rfl⟩;rw [← eb] at hown hgm1;have HEB := zh eb;clear eb;have hk9 : Hid (∀ s, (nv.getD s 0).natAbs < Bp 9) := zh fun s => by
     have hz3 := mf_ent h2 z s;have h03 := mf_ent h2 0 s;rw [zu ENV, vadd_at, vneg_at, vtimes_at];have hx : m2.natAbs < Bp 1 := by rw [Bp_one]; omega
     have hmu := natAbs_mul_lt h03 hx;have h34 : Bp 3 ≤ Bp 4 := Bp_le (by omega);have h49 : Bp 4 + Bp 4 ≤ Bp 9 := by have := Bp_succ 4; have := Bp_le (show 4 + 1 ≤ 9 by omega); omega
     have hz3' : ((cl.getD z []).getD s 0).natAbs < Bp 3 := hz3;have hmu' : ((cl.getD 0 []).getD s 0 * m2).natAbs < Bp 4 := hmu;omega
    go_upto_region 7 with fail
    have HW : Below w6.heap.size w6 w6.drew := (Below.refl _ _).drew;have HS := zh fun w' (HW : Below w6.heap.size w6 w') => con2 ((HW.cell (p := ⟨gm, z, none⟩) hgm).trans xz) ((HW.cell (p := ⟨gm, 0, none⟩) hgm).trans x0);refine zst HS HW 20 (by kernel_rfl) fun zH => ?_;refine ztl (i := 0) [19, 20] rfl ?_;simp only [Act.put, aGet, aZero, aSet, aHead, aTail];refine ztl (i := 1) [2, 3, 19, 20] rfl ?_;simp only [Act.put, aAll];refine ztl (i := 2) [3, 19, 20] rfl ?_;simp only [Act.put, aAll];refine ztl (i := 3) [19, 20] rfl ?_;simp only [Act.put, aAll];refine ztl (i := 4) [8, 9, 10, 16, 17, 18, 19, 20] rfl ?_;simp only [Act.put, aAll];refine ztl (i := 5) [6, 7, 8, 9, 10, 16, 17, 18, 19, 20] rfl ?_;simp only [Act.put, aAll];refine ztl (i := 6) [7, 8, 9, 10, 16, 17, 18, 19, 20] rfl ?_;simp only [Act.put, aAll];refine ztl (i := 7) [8, 9, 10, 16, 17, 18, 19, 20] rfl ?_;simp only [Act.put, aAll];refine ztl (i := 8) [9, 10, 16, 17, 18, 19, 20] rfl ?_;simp only [Act.put, aAll];refine ztl (i := 9) [10, 16, 17, 18, 19, 20] rfl ?_;simp only [Act.put, aAll];refine ztl (i := 11) [12, 13, 17, 18, 19, 20] rfl ?_;simp only [Act.put, aAll];refine ztl (i := 12) [13, 17, 18, 19, 20] rfl ?_;simp only [Act.put, aAll];refine ztl (i := 13) [17, 18, 19, 20] rfl ?_;simp only [Act.put, aAll];refine ztl (i := 14) [15, 16, 17, 18, 19, 20] rfl ?_;simp only [Act.put, aAll];refine ztl (i := 15) [16, 17, 18, 19, 20] rfl ?_;simp only [Act.put, aAll];refine tin (i := 10) rfl fun K hK => ?_;go_simp;refine (vnegK az N cz (cl.getD z []) 9 _ ((vz.za HW).vk (by omega)) (by omega)).mono ?_;rintro e w9 ⟨a7, c7, rfl, h7, hb9⟩;replace HW := Below.step HW hb9;clear hb9;refine hK.out _ _ ?_ (fun zH => ?_)
    ·exact zu HS _ HW
    clear hK K
    try simp only [Act.put, aAll]
    refine tin (i := 16) rfl fun K hK => ?_;go_simp;refine (rofK m2 _ (by omega) (by omega)).mono ?_;rintro e w9 ⟨b8, a8, l8, c8, rfl, h8, hb9⟩;replace HW := Below.step HW hb9;replace h7 := h7.za hb9;clear hb9;refine hK.out _ _ ?_ (fun zH => ?_)
    ·exact zu HS _ HW
    clear hK K
    try simp only [Act.put, aAll]
    refine tin (i := 17) rfl fun K hK => ?_;go_simp;refine (vtimesK a0r N c0r (cl.getD 0 []) 9 b8 a8 l8 c8 m2 2 _ ((v0.za HW).vk (by omega)) (h8.ik (by omega)) (by omega)).mono ?_;rintro e w9 ⟨a9, c9, rfl, h9, hb9⟩;replace HW := Below.step HW hb9;replace h7 := h7.za hb9;clear hb9 h8;refine hK.out _ _ ?_ (fun zH => ?_)
    ·exact zu HS _ HW
    clear hK K
    try simp only [Act.put, aAll]
    refine tin (i := 18) rfl fun K hK => ?_;go_simp;refine (vaddK a7 N c7 (vneg (cl.getD z [])) 9 a9 N c9 (vtimes (cl.getD 0 []) m2) (9 + 2) _ (h7.vk (by omega)) (h9.vk (by omega)) (by omega) (by omega) (by omega) (by omega)).mono ?_;rintro e w9 ⟨a10, c10, rfl, h10, hb9⟩;replace HW := Below.step HW hb9;clear hb9 h7 h9;rw [Nat.max_self] at h10 ⊢;rw [← zu ENV] at h10;refine hK.out _ _ ?_ (fun zH => ?_)
    ·exact zu HS _ HW
    clear hK K
    try simp only [Act.put, aAll]
    refine ztl (i := 19) [20] rfl ?_;simp only [Act.put, aAll];obtain ⟨_, _, _, _, q1, _⟩ := RowsOf.at (R := fun w a l c zs => VF w a l c zs 9) (MOwn.rows (R := fun w a l c zs => VF w a l c zs 9) (hown.za HW)) hzn;rw [Nat.zero_add] at q1;have q2 := (show MOwn (fun w a l c zs => VF w a l c zs 9) w9 base (some ⟨gm, 0, none⟩) m cm cl from hown.za HW).free z;refine tout (i := 20) rfl fun K hK => ?_;go_simp;refine hK.out _ _ ?_;clear hK K
    try simp only [Act.put, aAll]
    refine till_done (by kernel_rfl) ?_ _;clear zH q1 q2 xz x0 vz v0;have hown9 : MO w9 base (some ⟨gm, 0, none⟩) m cm cl 9 := hown.za HW;have h10' : VF w9 a10 N c10 nv 9 := vf_tight h10 fun j _ => zu hk9 j;have hml : MO (w9.setCell ⟨gm, z, none⟩ (.slice a10 N c10)) base (some ⟨gm, 0, none⟩) m cm (cl.set z nv) 9 := MOwn.set (R := fun w a l c zs => VF w a l c zs 9) (steadyMO 9) hown9 hzn h10';have HB9 : Hid (Below w.heap.size w (w9.setCell ⟨gm, z, none⟩ (.slice a10 N c10))) := zh (((zu HB).trans (HW.mono (zu HB).size)).setCell (p := ⟨gm, z, none⟩) (show w.heap.size ≤ gm by have := zu HEB; have := zu HS3; omega) (.slice a10 N c10));have h2n : MF (w9.setCell ⟨gm, z, none⟩ (.slice a10 N c10)) a2 m c2 cl 3 := by
     have hb3 : Below w3.heap.size w3 (w9.setCell ⟨gm, z, none⟩ (.slice a10 N c10)) := (((zu HB36).trans (HW.mono hsz36)).setCell (p := ⟨gm, z, none⟩) (by rw [← zu HEB]; exact hgm1) (.slice a10 N c10));exact (zu H23).za hb3
    obtain ⟨wz, ewz⟩ : ∃ wz, wz = w9.setCell ⟨gm, z, none⟩ (.slice a10 N c10) := ⟨_, rfl⟩;rw [← ewz] at hml HB9 h2n ⊢;clear ewz hown hown9 h10 h10' HW HB h2 HB36 H23;have HB := HB9;have h2 := h2n;clear HB9 h2n;have hmk : MK wz a2 m c2 cl 3 := h2.mk (by omega);have HM9 := zh hml.mf;have hN64 : N ≤ 64 := by omega
    go_wp2_with fail
    refine (gramK a2 m c2 cl 3 N 7 100 _ hmk (by omega) (by omega) (fun i hi => Nat.le_of_eq (zu HRL i hi)) (by omega) (fun t ht => dotN_lt (a := 3) (by omega) (fun s _ => mf_ent h2 t s) fun s _ => mf_ent h2 t s) (by omega) (by omega) (by omega)).mono ?_;rintro e w7 ⟨gd, cd, gg, us, U, rfl, hd, hg, _, _, hb9⟩;replace h2 := h2.za hb9;replace HM9 := zh ((zu HM9).za hb9);replace HB := zh (Below.step (zu HB) hb9);clear hb9 hmk hml;obtain ⟨nd, e0nd⟩ : ∃ nd, nd = m + 1 := ⟨_, rfl⟩;have HND := zh e0nd;rw [← e0nd] at hd ⊢;clear e0nd;have HBK := zh (dots_back (N := N) (x := m2) (by rw [zu HCL]; exact zu EZ) (by omega) (fun k hk => by have := gramD_all (zu HFR) k (by rw [zu HCL, zu EZ]; exact hk); omega));have HM9L : Hid (∀ i, i < m → ((cl.set z nv).getD i []).length = N) := zh fun i hi => by
     by_cases c : i = z
     ·subst c; rw [gset_self (by rw [zu HCL]; exact hi)]; exact zu HNV
     ·rw [gset_other c]; exact zu HRL i hi
    go_wp2_with fail
    refine (gramK (some ⟨gm, 0, none⟩) m cm (cl.set z nv) 9 N 19 100 _ ((zu HM9).mk (by omega)) (by omega) (by omega) (fun i hi => Nat.le_of_eq (zu HM9L i hi)) (by omega) (fun t ht => dotN_lt (a := 9) (by omega) (fun s _ => mf_ent (zu HM9) t s) fun s _ => mf_ent (zu HM9) t s) (by omega) (by omega) (by omega)).mono ?_;rintro e w8 ⟨gf, cf, g9, us9, U9, rfl, hfd, _, _, _, hb9⟩;rw [zu EZ, zu ENV, zu HBK, ← zu EZ] at hfd;replace h2 := h2.za hb9;replace hd := hd.za hb9;replace hg := hg.za hb9;replace HB := zh (Below.step (zu HB) hb9);clear hb9 HM9 HM9L HBK ENV HNV hk9;rw [← zu HND] at hfd ⊢;have hwn : IntKind.i64.wrap ((m : Int) + 1) = (nd : Int) := by rw [IntKind.wrap_i64]; have := zu HND; omega
    have h1d : (1 : Int) < (nd : Int) := by have := zu HND; omega
    obtain ⟨u0, l0, cu, hu0, hgu, xg, _⟩ := hg.ex (show 0 < m by omega);have hl0 : l0 = 0 := by rw [hu0, gramGs_at (by omega), gramL_len]
    subst hl0;have hgg := hg.lt.2;obtain ⟨g2, o2, rfl⟩ := RowsOf.addr (R := fun w a l c zs => VF w a l c zs 3) h2 (by omega);obtain ⟨hg2, a0c, l0c, c0c, xc, vc⟩ := RowsOf.at (R := fun w a l c zs => VF w a l c zs 3) h2 (show 0 < m by omega);rw [Nat.add_zero] at xc;have e3 : N = l0c := by rw [← vc.len_eq]; exact (zu HRL 0 (by omega)).symm
    subst e3;obtain ⟨b5, a5, l5, c5, E1, y1⟩ := hd.vf.at (show 1 < nd by omega);rw [Nat.zero_add, Nat.one_mul] at E1;rw [gramDs_at (show 1 ≤ m by omega)] at y1;have HD1 : Hid (gramD N (ent cl) 1 = vdot (cl.getD 0 []) (cl.getD 0 [])) := zh (by
     rw [show (1 : Nat) = 0 + 1 from rfl, gramD_next (by rw [gramD_zero]; decide), gramM_zero];exact (vdot_ent (by rw [zu HRL 0 (by omega)]; exact Nat.le_refl _)).symm)
    clear hu0 hgu
    go_upto_region 10 with fail
    have HW : Below w8.heap.size w8 w8.drew := (Below.refl _ _).drew;have HS := zh fun w' (HW : Below w8.heap.size w8 w') => con4 ((HW.cell (p := ⟨gg, 0, none⟩) hgg).trans xg) (E1.za HW).zb.1 (E1.za HW).zb.2 ((HW.cell (p := ⟨g2, o2, none⟩) hg2).trans xc);refine zst HS HW 40 (by kernel_rfl) fun zH => ?_;refine ztl (i := 0) [1, 5, 6, 7, 8, 9, 10, 11, 12, 13, 14, 15, 16, 17, 18, 19, 20, 21, 22, 23, 24, 25, 26, 27, 28, 29, 30, 31, 32, 33, 34, 35, 36, 37, 38, 39, 40] rfl ?_;simp only [Act.put, aGet, aZero, aSet, aHead, aTail];refine ztl (i := 1) [5, 6, 7, 8, 9, 10, 11, 12, 13, 14, 15, 16, 17, 18, 19, 20, 21, 22, 23, 24, 25, 26, 27, 28, 29, 30, 31, 32, 33, 34, 35, 36, 37, 38, 39, 40] rfl ?_;simp only [Act.put, aAll];refine ztl (i := 2) [3, 4, 5, 6, 7, 8, 9, 10, 11, 12, 13, 14, 15, 16, 17, 18, 19, 20, 21, 22, 23, 24, 25, 26, 27, 28, 29, 30, 31, 32, 33, 34, 35, 36, 37, 38, 39, 40] rfl ?_;simp only [Act.put, aAll];refine ztl (i := 3) [4, 5, 6, 7, 8, 9, 10, 11, 12, 13, 14, 15, 16, 17, 18, 19, 20, 21, 22, 23, 24, 25, 26, 27, 28, 29, 30, 31, 32, 33, 34, 35, 36, 37, 38, 39, 40] rfl ?_;simp only [Act.put, aAll];refine ztl (i := 4) [5, 6, 7, 8, 9, 10, 11, 12, 13, 14, 15, 16, 17, 18, 19, 20, 21, 22, 23, 24, 25, 26, 27, 28, 29, 30, 31, 32, 33, 34, 35, 36, 37, 38, 39, 40] rfl ?_;simp only [Act.put, aAll];refine ztl (i := 5) [6, 7, 8, 9, 10, 11, 12, 13, 14, 15, 16, 17, 18, 19, 20, 21, 22, 23, 24, 25, 26, 27, 28, 29, 30, 31, 32, 33, 34, 35, 36, 37, 38, 39, 40] rfl ?_;simp only [Act.put, aAll];refine ztl (i := 6) [7, 8, 9, 10, 11, 12, 13, 14, 15, 16, 17, 18, 19, 20, 21, 22, 23, 24, 25, 26, 27, 28, 29, 30, 31, 32, 33, 34, 35, 36, 37, 38, 39, 40] rfl ?_;simp only [Act.put, aAll];refine ztl (i := 7) [8, 11, 12, 13, 14, 15, 16, 17, 18, 19, 20, 21, 22, 23, 24, 25, 26, 27, 28, 29, 30, 31, 32, 33, 34, 35, 36, 37, 38, 39, 40] rfl ?_;simp only [Act.put, aAll];refine ztl (i := 8) [11, 12, 13, 14, 15, 16, 17, 18, 19, 20, 21, 22, 23, 24, 25, 26, 27, 28, 29, 30, 31, 32, 33, 34, 35, 36, 37, 38, 39, 40] rfl ?_;simp only [Act.put, aAll];refine ztl (i := 9) [10, 11, 12, 13, 14, 15, 16, 17, 18, 19, 20, 21, 22, 23, 24, 25, 26, 27, 28, 29, 30, 31, 32, 33, 34, 35, 36, 37, 38, 39, 40] rfl ?_;simp only [Act.put, aAll];refine ztl (i := 10) [11, 12, 13, 14, 15, 16, 17, 18, 19, 20, 21, 22, 23, 24, 25, 26, 27, 28, 29, 30, 31, 32, 33, 34, 35, 36, 37, 38, 39, 40] rfl ?_;simp only [Act.put, aAll];refine ztl (i := 11) [12, 13, 14, 15, 16, 17, 18, 19, 20, 21, 22, 23, 24, 25, 26, 27, 28, 29, 30, 31, 32, 33, 34, 35, 36, 37, 38, 39, 40] rfl ?_;simp only [Act.put, aAll];refine ztl (i := 12) [13, 14, 15, 16, 17, 18, 19, 20, 21, 22, 23, 24, 25, 26, 27, 28, 29, 30, 31, 32, 33, 34, 35, 36, 37, 38, 39, 40] rfl ?_;simp only [Act.put, aAll];refine ztl (i := 13) [14, 15, 16, 17, 18, 19, 20, 21, 22, 23, 24, 25, 26, 27, 28, 29, 30, 31, 32, 33, 34, 35, 36, 37, 38, 39, 40] rfl ?_;simp only [Act.put, aAll];refine ztl (i := 14) [15, 18, 19, 20, 21, 22, 23, 24, 25, 26, 27, 28, 29, 30, 31, 32, 33, 34, 35, 36, 37, 38, 39, 40] rfl ?_;simp only [Act.put, aAll];refine ztl (i := 15) [18, 19, 20, 21, 22, 23, 24, 25, 26, 27, 28, 29, 30, 31, 32, 33, 34, 35, 36, 37, 38, 39, 40] rfl ?_;simp only [Act.put, aAll];refine ztl (i := 16) [17, 18, 19, 20, 21, 22, 23, 24, 25, 26, 27, 28, 29, 30, 31, 32, 33, 34, 35, 36, 37, 38, 39, 40] rfl ?_;simp only [Act.put, aAll];refine ztl (i := 17) [18, 19, 20, 21, 22, 23, 24, 25, 26, 27, 28, 29, 30, 31, 32, 33, 34, 35, 36, 37, 38, 39, 40] rfl ?_;simp only [Act.put, aAll];refine ztl (i := 18) [19, 20, 21, 22, 23, 24, 25, 26, 27, 28, 29, 30, 31, 32, 33, 34, 35, 36, 37, 38, 39, 40] rfl ?_;simp only [Act.put, aAll];refine ztl (i := 19) [20, 21, 22, 23, 24, 25, 26, 27, 28, 29, 30, 31, 32, 33, 34, 35, 36, 37, 38, 39, 40] rfl ?_;simp only [Act.put, aAll];refine ztl (i := 20) [21, 22, 23, 24, 25, 26, 27, 28, 29, 30, 31, 32, 33, 34, 35, 36, 37, 38, 39, 40] rfl ?_;simp only [Act.put, aAll];refine ztl (i := 21) [22, 23, 24, 25, 26, 27, 28, 29, 30, 31, 32, 33, 34, 35, 36, 37, 38, 39, 40] rfl ?_;simp only [Act.put, aAll];refine ztl (i := 22) [23, 24, 25, 26, 27, 28, 29, 30, 31, 32, 33, 34, 35, 36, 37, 38, 39, 40] rfl ?_;simp only [Act.put, aAll];refine ztl (i := 23) [24, 25, 26, 27, 28, 29, 30, 31, 32, 33, 34, 35, 36, 37, 38, 39, 40] rfl ?_;simp only [Act.put, aAll];refine ztl (i := 24) [25, 26, 27, 28, 29, 30, 31, 32, 33, 34, 35, 36, 37, 38, 39, 40] rfl ?_;simp only [Act.put, aAll];refine ztl (i := 25) [26, 27, 28, 29, 30, 31, 32, 33, 34, 35, 36, 37, 38, 39, 40] rfl ?_;simp only [Act.put, aAll];refine ztl (i := 26) [27, 28, 29, 30, 31, 32, 33, 34, 35, 36, 37, 38, 39, 40] rfl ?_;simp only [Act.put, aAll];refine ztl (i := 27) [28, 29, 30, 31, 32, 33, 34, 35, 36, 37, 38, 39, 40] rfl ?_;simp only [Act.put, aAll];refine ztl (i := 28) [29, 30, 38, 39, 40] rfl ?_;simp only [Act.put, aAll];refine ztl (i := 29) [30, 38, 39, 40] rfl ?_;simp only [Act.put, aAll];refine ztl (i := 30) [38, 39, 40] rfl ?_;simp only [Act.put, aAll];refine ztl (i := 31) [32, 33, 37, 38, 39, 40] rfl ?_;simp only [Act.put, aAll];refine ztl (i := 32) [33, 37, 38, 39, 40] rfl ?_;simp only [Act.put, aAll];refine ztl (i := 33) [37, 38, 39, 40] rfl ?_;simp only [Act.put, aAll];refine ztl (i := 34) [35, 36, 37, 38, 39, 40] rfl ?_;simp only [Act.put, aAll];refine ztl (i := 35) [36, 37, 38, 39, 40] rfl ?_;simp only [Act.put, aAll];refine ztl (i := 36) [37, 38, 39, 40] rfl ?_;simp only [Act.put, aAll];refine tin (i := 37) rfl fun K hK => ?_;go_simp;refine (vdotK a0c N c0c (cl.getD 0 []) 3 a0c N c0c (cl.getD 0 []) 3 _ ((vc.za HW).vk (by omega)) ((vc.za HW).vk (by omega)) (by omega) (by omega) (by omega) (by omega)).mono ?_;rintro e w9 ⟨b7, a7, l7, c7, rfl, h7, hb9⟩;replace HW := Below.step HW hb9;clear hb9;refine hK.out _ _ ?_ (fun zH => ?_)
    ·exact zu HS _ HW
    clear hK K
    try simp only [Act.put, aAll]
    refine tin (i := 38) rfl fun K hK => ?_;go_simp;refine (rsameK b5 a5 l5 c5 (gramD N (ent cl) 1) 100 b7 a7 l7 c7 (vdot (cl.getD 0 []) (cl.getD 0 [])) (3 + 3 + N) _ (y1.za HW) h7 (zu HD1)).mono ?_;rintro e w9 ⟨rfl, hb9⟩;replace HW := Below.step HW hb9;clear hb9 h7;refine hK.out _ _ ?_ (fun zH => ?_)
    ·exact zu HS _ HW
    clear hK K
    try simp only [Act.put, aAll]
    refine ztl (i := 39) [40] rfl ?_;simp only [Act.put, aAll];refine tout (i := 40) rfl fun K hK => ?_;go_simp;refine hK.out _ _ ?_;clear hK K
    try simp only [Act.put, aAll]
    refine till_done (by kernel_rfl) ?_ _;clear zH xg xc E1 y1 vc;replace hd := hd.za HW;replace hfd := hfd.za HW;replace HB := zh (Below.step (zu HB) HW);obtain ⟨wv, ewv⟩ : ∃ wv, wv = w9 := ⟨_, rfl⟩;rw [← ewv] at hd hfd HB ⊢;clear ewv HW hg h2;have hnd5 : nd ≤ 5 := by have := zu HND; omega
    go_wp2_with fail
    go_loopw [114] (fun t wr => ∃ i : Nat, i ≤ nd ∧ t = .int .i64 (i : Int) ∧ Below wv.heap.size wv wr) (fun t _ => nd - (intOf t).toNat)
    case atStart => exact ⟨0, Nat.zero_le _, by go_num, Below.refl _ _⟩
    case round =>
     obtain ⟨i, hi, rfl, hBw⟩ := hrel;have HC := zh hBw;clear hBw;by_cases hin : i < nd
     ·have hiI : (i : Int) < (nd : Int) := by omega
      have hi0 : (0 : Int) ≤ (i : Int) := by omega
      obtain ⟨b5, a5, l5, c5, E1, y1⟩ := (hd.za (zu HC)).vf.at hin;obtain ⟨b6, a6, l6, c6, E2, y2⟩ := (hfd.za (zu HC)).vf.at hin;rw [Nat.zero_add] at E1 E2;rw [gramDs_at (show i ≤ m by have := zu HND; omega)] at y1 y2;have HSG : Hid (1 = (gramD N (ent cl) i).sign) := zh (Int.sign_eq_one_of_pos (gramD_all (zu HFR) i (by rw [zu HCL]; have := zu HND; omega))).symm
      go_upto_region 15 with fail
      have HW : Below wr.heap.size wr wr.drew := (Below.refl _ _).drew;have HS := zh fun w' (HW : Below wr.heap.size wr w') => con4 (E1.za HW).zb.1 (E1.za HW).zb.2 (E2.za HW).zb.1 (E2.za HW).zb.2;refine zst HS HW 17 (by kernel_rfl) fun zH => ?_;refine ztl (i := 0) [2, 3, 8, 9, 10, 11, 12, 13, 14, 15, 16, 17] rfl ?_;simp only [Act.put, aGet, aZero, aSet, aHead, aTail];refine ztl (i := 1) [2, 3, 8, 9, 10, 11, 12, 13, 14, 15, 16, 17] rfl ?_;simp only [Act.put, aAll];refine ztl (i := 2) [3, 8, 9, 10, 11, 12, 13, 14, 15, 16, 17] rfl ?_;simp only [Act.put, aAll];refine ztl (i := 3) [8, 9, 10, 11, 12, 13, 14, 15, 16, 17] rfl ?_;simp only [Act.put, aAll];refine ztl (i := 4) [6, 7, 8, 9, 10, 11, 12, 13, 14, 15, 16, 17] rfl ?_;simp only [Act.put, aAll];refine ztl (i := 5) [6, 7, 8, 9, 10, 11, 12, 13, 14, 15, 16, 17] rfl ?_;simp only [Act.put, aAll];refine ztl (i := 6) [7, 8, 9, 10, 11, 12, 13, 14, 15, 16, 17] rfl ?_;simp only [Act.put, aAll];refine ztl (i := 7) [8, 9, 10, 11, 12, 13, 14, 15, 16, 17] rfl ?_;simp only [Act.put, aAll];refine tin (i := 8) rfl fun K hK => ?_;go_simp;refine (rsameK b5 a5 l5 c5 (gramD N (ent cl) i) 100 b6 a6 l6 c6 (gramD N (ent cl) i) 100 _ (y1.za HW) (y2.za HW) rfl).mono ?_;rintro e w9 ⟨rfl, hb9⟩;replace HW := Below.step HW hb9;clear hb9;refine hK.out _ _ ?_ (fun zH => ?_)
      ·exact zu HS _ HW
      clear hK K
      try simp only [Act.put, aAll]
      refine ztl (i := 9) [10, 11, 12, 13, 14, 15, 16, 17] rfl ?_;simp only [Act.put, aAll];refine ztl (i := 10) [11, 12, 13, 14, 15, 16, 17] rfl ?_;simp only [Act.put, aAll];refine ztl (i := 11) [13, 14, 15, 16, 17] rfl ?_;simp only [Act.put, aAll];refine ztl (i := 12) [13, 14, 15, 16, 17] rfl ?_;simp only [Act.put, aAll];refine ztl (i := 13) [14, 15, 16, 17] rfl ?_;simp only [Act.put, aAll];refine ztl (i := 14) [15, 16, 17] rfl ?_;simp only [Act.put, aAll];refine tin (i := 15) rfl fun K hK => ?_;go_simp;refine (rsignK b5 a5 l5 c5 (gramD N (ent cl) i) 100 1 _ ((y1.za HW).ik (by omega)) (zu HSG)).mono ?_;rintro e w9 ⟨rfl, hb9⟩;replace HW := Below.step HW hb9;clear hb9;refine hK.out _ _ ?_ (fun zH => ?_)
      ·exact zu HS _ HW
      clear hK K
      try simp only [Act.put, aAll]
      refine ztl (i := 16) [17] rfl ?_;simp only [Act.put, aAll];refine tout (i := 17) rfl fun K hK => ?_;go_simp;refine hK.out _ _ ?_;clear hK K
      try simp only [Act.put, aAll]
      refine till_done (by kernel_rfl) ?_ _;clear zH E1 E2 y1 y2;replace HC := zh (Below.step (zu HC) HW);clear HW;go_wp2;go_roundw
      case rel => exact ⟨i + 1, by omega, by go_num, zu HC⟩
      case measure => simp [intOf]; omega
     ·have hin2 : i = nd := by omega
      subst hin2;have hii : ¬ (i : Int) < (i : Int) := by omega
      replace HB := zh (Below.step (zu HB) (zu HC));clear HC hd hfd
      go_wp2_with fail
      refine (awake13_any _).mono ?_;rintro e wv ⟨rfl, hb9⟩;go_wp2;go_ret;exact ⟨rfl, Below.step (zu HB) hb9⟩
   ·have hmne : (m : Int) ≠ (len0 : Int) := by omega
    have hmb : ((m : Int) != (len0 : Int)) = true := by simpa using hmne
    clear hf hsm hhl HML h2
    go_wp2_with fail
    refine (awake13_any _).mono ?_;rintro e wv ⟨rfl, hb9⟩;go_wp2;go_ret;exact ⟨rfl, Below.step (zu HB) hb9⟩
 ·clear hlt hb1 r0
  go_wp2_with fail
  refine (awake13_any _).mono ?_;rintro e wv ⟨rfl, hb9⟩;go_wp2;go_ret;exact ⟨rfl, Below.step (zu HB) hb9⟩
end Go.Proofs.YtnpneloahajniaaGreat
