/-
 What depends, isLow, swapped and isLong of package lll tell of a basis.
-/
import Derived.Test.YtnpneloahajniaaGreatLBs
import Derived.Test.YtnpneloahajniaaGreatJE
namespace Go.Proofs.YtnpneloahajniaaGreat
open Go.RowKit Lb
set_option maxRecDepth 20000

theorem sign_zeroB (x : Int) : (x.sign == 0) = decide (x = 0) := by
 rw [Bool.eq_iff_iff];simp [Int.sign_eq_zero_iff_zero]
theorem sign_leB (x y : Int) : decide ((x - y).sign ≤ 0) = decide (x ≤ y) := by
 rw [Bool.eq_iff_iff, decide_eq_true_iff, decide_eq_true_iff, Int.sign_nonpos_iff];omega
theorem sign_geB (x y : Int) : decide (0 ≤ (x - y).sign) = decide (y ≤ x) := by
 rw [Bool.eq_iff_iff, decide_eq_true_iff, decide_eq_true_iff, Int.sign_nonneg_iff];omega
set_option maxRecDepth 40000 in
set_option maxHeartbeats 2000000 in
theorem dependsK (base gb n : Nat) (D : BD) (ls : List (List Int)) (ds : List Int) (gs : List (List Int)) (k : Nat) (w : World) (h : BS w base gb n D ls ds gs k) (hk : k ≤ 400000) (hn : n ≤ 1000) :
  Calls Tryz.prog 30 #[.pointer (some ⟨gb, 0, none⟩)] w fun e w' => e = .returned (.bool (decide (ds.getD n 0 = 0))) ∧ Below w.heap.size w w' := by
 rcases D with ⟨gl, cl, gd, cd, gg, cg, vs, us, V, U⟩;obtain ⟨nd, e0nd⟩ : ∃ nd, nd = n + 1 := ⟨_, rfl⟩;have hx1 : w.cell? ⟨gb, 1, none⟩ = some (.slice (some ⟨gd, 0, none⟩) nd cd) := by rw [e0nd]; exact h.box.zb.2.1
 have hbl := h.box.lt;have hd : OwnV w base (some ⟨gd, 0, none⟩) nd cd ds k := by rw [e0nd]; exact h.r.d
 have hx0 : w.cell? ⟨gb, 0, none⟩ = some (.slice (some ⟨gl, 0, none⟩) n cl) := h.box.zb.1;obtain ⟨b1, a1, l1, c1, E1, y1⟩ := hd.vf.at (show n < nd by omega);rw [Nat.zero_add] at E1;obtain ⟨z, ez⟩ : ∃ z, z = ds.getD n 0 := ⟨_, rfl⟩;rw [← ez] at y1 ⊢;obtain ⟨s, es⟩ : ∃ s, s = z.sign := ⟨_, rfl⟩;obtain ⟨q, eq⟩ : ∃ q, q = decide (z = 0) := ⟨_, rfl⟩;have hs : (s == 0) = q := by rw [es, eq]; exact sign_zeroB z
 rw [← eq];have ES := zh es;have hn0 : (0 : Int) ≤ (n : Int) := by omega
 have hn1 : (n : Int) < (nd : Int) := by omega
 clear eq ez es h hd e0nd;go_enter Tryz.func30, Tryz.ntmps30
 go_upto_region 1 with fail
 have HW : Below w.heap.size w w.drew := (Below.refl _ _).drew;have HS := zh fun w' (HW : Below w.heap.size w w') => con4 ((HW.cell (p := ⟨gb, 1, none⟩) hbl).trans hx1) ((HW.cell (p := ⟨gb, 0, none⟩) hbl).trans hx0) (E1.za HW).zb.1 (E1.za HW).zb.2;refine zst HS HW 13 (by kernel_rfl) fun zH => ?_;refine ztl 0 rfl ?_;simp only [Act.put, aGet, aZero, aSet, aHead, aTail];refine ztl 1 rfl ?_;simp only [zP];refine ztl 2 rfl ?_;simp only [zP];refine ztl 3 rfl ?_;simp only [zP];refine ztl 4 rfl ?_;simp only [zP];refine ztl 5 rfl ?_;simp only [zP];refine ztl 6 rfl ?_;simp only [zP];refine ztl 7 rfl ?_;simp only [zP];refine ztl 8 rfl ?_;simp only [zP];refine ztl 9 rfl ?_;simp only [zP];refine ztl 10 rfl ?_;simp only [zP];refine tin 11 rfl fun K hK => ?_;go_simp;refine (signK b1 a1 l1 c1 z k s _ ((y1.za HW).ik (by omega)) (zu ES)).mono ?_;rintro e w9 ⟨rfl, hb9⟩;replace HW := Below.step HW hb9;clear hb9;refine hK.out _ _ ?_ (fun zH => ?_)
 ·exact zu HS _ HW
 clear hK K
 try simp only [zP]
 refine ztl 12 rfl ?_;simp only [zP];refine tout 13 rfl fun K hK => ?_;go_simp;refine hK.out _ _ ?_;clear hK K
 try simp only [zP]
 refine zdn (by kernel_rfl) ?_ _;clear zH;go_wp2;go_ret;exact ⟨rfl, HW⟩
set_option maxRecDepth 40000 in
set_option maxHeartbeats 2000000 in
theorem isLowK (base gb n : Nat) (D : BD) (ls : List (List Int)) (ds : List Int) (gs : List (List Int)) (k : Nat) (i j : Nat) (w : World) (h : BS w base gb n D ls ds gs k) (hk : k ≤ 400000) (hn : n ≤ 1000) (hi : i < n) (hjn : j < n) (hj : j < (gs.getD i []).length) :
  Calls Tryz.prog 31 #[.pointer (some ⟨gb, 0, none⟩), .int .i64 (i : Int), .int .i64 (j : Int)] w fun e w' => e = .returned (.bool (decide (2 * (((gs.getD i []).getD j 0).natAbs : Int) ≤ ds.getD (j + 1) 0))) ∧ Below w.heap.size w w' := by
 rcases D with ⟨gl, cl, gd, cd, gg, cg, vs, us, V, U⟩;obtain ⟨nd, e0nd⟩ : ∃ nd, nd = n + 1 := ⟨_, rfl⟩;have hx1 : w.cell? ⟨gb, 1, none⟩ = some (.slice (some ⟨gd, 0, none⟩) nd cd) := by rw [e0nd]; exact h.box.zb.2.1
 have hbl := h.box.lt;have hd : OwnV w base (some ⟨gd, 0, none⟩) nd cd ds k := by rw [e0nd]; exact h.r.d
 have hx2 : w.cell? ⟨gb, 2, none⟩ = some (.slice (some ⟨gg, 0, none⟩) n cg) := h.box.zb.2.2.1;have hg : GRows w base gg n cg us U gs k n := h.r.g;obtain ⟨b1, a1, l1, c1, E1, y1⟩ := hd.vf.at (show j + 1 < nd by omega);rw [Nat.zero_add] at E1;obtain ⟨li, ci, hli, _, hx3, hu⟩ := hg.at hi;have hgl := hg.lt.2;obtain ⟨u, eu⟩ : ∃ u, u = U i := ⟨_, rfl⟩;rw [← eu] at hx3 hu;have hjl : j < li := by omega
 obtain ⟨b2, a2, l2, c2, E2, y2⟩ := hu.vf.at hjl;rw [Nat.zero_add] at E2;obtain ⟨z, ez⟩ : ∃ z, z = ds.getD (j + 1) 0 := ⟨_, rfl⟩;obtain ⟨y, ey⟩ : ∃ y, y = (gs.getD i []).getD j 0 := ⟨_, rfl⟩;rw [← ez] at y1 ⊢;rw [← ey] at y2 ⊢;obtain ⟨s, es⟩ : ∃ s, s = (2 * (y.natAbs : Int) - z).sign := ⟨_, rfl⟩;obtain ⟨q, eq⟩ : ∃ q, q = decide (2 * (y.natAbs : Int) ≤ z) := ⟨_, rfl⟩;have hs : decide (s ≤ 0) = q := by rw [es, eq]; exact sign_leB _ z
 rw [← eq];have ES := zh es;have hw1 : IntKind.i64.wrap ((j : Int) + 1) = ((j + 1 : Nat) : Int) := by rw [IntKind.wrap_i64]; omega
 have hj0 : (0 : Int) ≤ ((j + 1 : Nat) : Int) := by omega
 have hj1 : ((j + 1 : Nat) : Int) < (nd : Int) := by omega
 have hj2 : (0 : Int) ≤ (j : Int) := by omega
 have hj3 : (j : Int) < (li : Int) := by omega
 have hi0 : (0 : Int) ≤ (i : Int) := by omega
 have hi1 : (i : Int) < (n : Int) := by omega
 obtain ⟨j1, ej1⟩ : ∃ j1, j1 = j + 1 := ⟨_, rfl⟩;rw [← ej1] at E1 hw1 hj0 hj1;clear eq ez ey es eu h hd hg hu hli ej1 hj e0nd;go_enter Tryz.func31, Tryz.ntmps31
 go_upto_region 1 with fail
 have HW : Below w.heap.size w w.drew := (Below.refl _ _).drew;have HS := zh fun w' (HW : Below w.heap.size w w') => con7 ((HW.cell (p := ⟨gb, 1, none⟩) hbl).trans hx1) ((HW.cell (p := ⟨gb, 2, none⟩) hbl).trans hx2) ((HW.cell (p := ⟨gg, i, none⟩) hgl).trans hx3) (E1.za HW).zb.1 (E1.za HW).zb.2 (E2.za HW).zb.1 (E2.za HW).zb.2;refine zst HS HW 23 (by kernel_rfl) fun zH => ?_;refine ztl 1 rfl ?_;simp only [zP];refine ztl 2 rfl ?_;simp only [zP];refine ztl 3 rfl ?_;simp only [zP];refine ztl 4 rfl ?_;simp only [zP];refine ztl 5 rfl ?_;simp only [zP];refine ztl 6 rfl ?_;simp only [zP];refine ztl 7 rfl ?_;simp only [zP];refine ztl 8 rfl ?_;simp only [zP];refine ztl 9 rfl ?_;simp only [zP];refine ztl 10 rfl ?_;simp only [zP];refine ztl 13 rfl ?_;simp only [zP];refine ztl 14 rfl ?_;simp only [zP];refine ztl 15 rfl ?_;simp only [zP];refine ztl 16 rfl ?_;simp only [zP];refine ztl 17 rfl ?_;simp only [zP];refine ztl 18 rfl ?_;simp only [zP];refine ztl 19 rfl ?_;simp only [zP];refine ztl 20 rfl ?_;simp only [zP];refine tin 0 rfl fun K hK => ?_;go_simp;refine (ofK 2 _ (by omega) (by omega)).mono ?_;rintro e w9 ⟨b4, a4, l4, c4, rfl, h4, hb9⟩;replace HW := Below.step HW hb9;clear hb9;refine hK.out _ _ ?_ (fun zH => ?_)
 ·exact zu HS _ HW
 clear hK K
 try simp only [Act.put, aGet, aZero, aSet, aHead, aTail]
 refine tin 11 rfl fun K hK => ?_;go_simp;refine (absK b2 a2 l2 c2 y k _ ((y2.za HW).ik (by omega))).mono ?_;rintro e w9 ⟨b5, a5, l5, c5, rfl, h5, hb9⟩;replace HW := Below.step HW hb9;replace h4 := h4.za hb9;clear hb9;refine hK.out _ _ ?_ (fun zH => ?_)
 ·exact zu HS _ HW
 clear hK K
 try simp only [zP]
 refine tin 12 rfl fun K hK => ?_;go_simp;refine (mulK b4 a4 l4 c4 2 2 b5 a5 l5 c5 (y.natAbs : Int) k _ (h4.ik (by omega)) (h5.ik (by omega))).mono ?_;rintro e w9 ⟨b6, a6, l6, c6, rfl, h6, hb9⟩;replace HW := Below.step HW hb9;clear hb9 h4 h5;refine hK.out _ _ ?_ (fun zH => ?_)
 ·exact zu HS _ HW
 clear hK K
 try simp only [zP]
 refine tin 21 rfl fun K hK => ?_;go_simp;refine (cmpK b6 a6 l6 c6 (2 * (y.natAbs : Int)) (2 + k) b1 a1 l1 c1 z k s _ (h6.ik (by omega)) ((y1.za HW).ik (by omega)) (zu ES)).mono ?_;rintro e w9 ⟨rfl, hb9⟩;replace HW := Below.step HW hb9;clear hb9 h6;refine hK.out _ _ ?_ (fun zH => ?_)
 ·exact zu HS _ HW
 clear hK K
 try simp only [zP]
 refine ztl 22 rfl ?_;simp only [zP];refine tout 23 rfl fun K hK => ?_;go_simp;refine hK.out _ _ ?_;clear hK K
 try simp only [zP]
 refine zdn (by kernel_rfl) ?_ _;clear zH;go_wp2;go_ret;exact ⟨rfl, HW⟩
set_option maxRecDepth 40000 in
set_option maxHeartbeats 2000000 in
theorem swappedK (base gb n : Nat) (D : BD) (ls : List (List Int)) (ds : List Int) (gs : List (List Int)) (k : Nat) (m : Nat) (w : World) (h : BS w base gb n D ls ds gs k) (hk : k ≤ 400000) (hn : n ≤ 1000) (hi : m + 1 < n) (hj : m < (gs.getD (m + 1) []).length) :
  Calls Tryz.prog 64 #[.pointer (some ⟨gb, 0, none⟩), .int .i64 ((m + 1 : Nat) : Int)] w fun e w' => ∃ b1 a1 l1 c1, e = .returned (.agg #[.bool b1, .slice a1 l1 c1]) ∧ FK w' b1 a1 l1 c1 (ds.getD (m + 2) 0 * ds.getD m 0 + (gs.getD (m + 1) []).getD m 0 * (gs.getD (m + 1) []).getD m 0) (k + k + 1) ∧ Below w.heap.size w w' := by
 rcases D with ⟨gl, cl, gd, cd, gg, cg, vs, us, V, U⟩;obtain ⟨nd, e0nd⟩ : ∃ nd, nd = n + 1 := ⟨_, rfl⟩;have hx1 : w.cell? ⟨gb, 1, none⟩ = some (.slice (some ⟨gd, 0, none⟩) nd cd) := by rw [e0nd]; exact h.box.zb.2.1
 have hbl := h.box.lt;have hd : OwnV w base (some ⟨gd, 0, none⟩) nd cd ds k := by rw [e0nd]; exact h.r.d
 have hx2 : w.cell? ⟨gb, 2, none⟩ = some (.slice (some ⟨gg, 0, none⟩) n cg) := h.box.zb.2.2.1;have hg : GRows w base gg n cg us U gs k n := h.r.g;obtain ⟨b1, a1, l1, c1, E1, y1⟩ := hd.vf.at (show m + 2 < nd by omega);rw [Nat.zero_add] at E1;obtain ⟨b3, a3, l3, c3, E3, y3⟩ := hd.vf.at (show m < nd by omega);rw [Nat.zero_add] at E3;obtain ⟨li, ci, hli, _, hx3, hu⟩ := hg.at hi;have hgl := hg.lt.2;obtain ⟨u, eu⟩ : ∃ u, u = U (m + 1) := ⟨_, rfl⟩;rw [← eu] at hx3 hu;have hjl : m < li := by omega
 obtain ⟨b2, a2, l2, c2, E2, y2⟩ := hu.vf.at hjl;rw [Nat.zero_add] at E2;obtain ⟨z, ez⟩ : ∃ z, z = ds.getD (m + 2) 0 := ⟨_, rfl⟩;obtain ⟨x, ex⟩ : ∃ x, x = ds.getD m 0 := ⟨_, rfl⟩;obtain ⟨y, ey⟩ : ∃ y, y = (gs.getD (m + 1) []).getD m 0 := ⟨_, rfl⟩;rw [← ez] at y1 ⊢;rw [← ex] at y3 ⊢;rw [← ey] at y2 ⊢;obtain ⟨i, ei⟩ : ∃ i, i = m + 1 := ⟨_, rfl⟩;obtain ⟨i1, ei1⟩ : ∃ i1, i1 = m + 2 := ⟨_, rfl⟩;have hw1 : IntKind.i64.wrap ((i : Int) + 1) = (i1 : Int) := by rw [IntKind.wrap_i64]; omega
 have hw2 : IntKind.i64.wrap ((i : Int) - 1) = (m : Int) := by rw [IntKind.wrap_i64]; omega
 have hj0 : (0 : Int) ≤ (i1 : Int) := by omega
 have hj1 : (i1 : Int) < (nd : Int) := by omega
 have hj2 : (0 : Int) ≤ (m : Int) := by omega
 have hj3 : (m : Int) < (li : Int) := by omega
 have hj4 : (m : Int) < (nd : Int) := by omega
 have hi0 : (0 : Int) ≤ (i : Int) := by omega
 have hi1 : (i : Int) < (n : Int) := by omega
 rw [← ei1] at E1;rw [← ei] at hx3 ⊢;obtain ⟨f1, f2⟩ := E2.zb;have hul := E2.1;clear ez ex ey eu h hd hg hu hli ei ei1 hj e0nd;go_enter Tryz.func64, Tryz.ntmps64
 go_upto_region 2 with fail
 obtain ⟨W, hWe⟩ : ∃ W', W' = ((w.alloc (.cells #[.bool false, .slice none 0 0] 45)).alloc (.cells #[.bool b2, .slice a2 l2 c2] 45)) := ⟨_, rfl⟩;obtain ⟨B0, B1, hb0⟩ := boxes2 w false none 0 0 b2 a2 l2 c2 hWe;rw [← hWe];clear hWe f1 f2 hul;replace hx1 := (hb0.cell (p := ⟨gb, 1, none⟩) hbl).trans hx1;have hbl2 := Nat.lt_of_lt_of_le hbl hb0.size;replace E1 := E1.za hb0;replace E3 := E3.za hb0;replace y1 := y1.za hb0;replace y2 := y2.za hb0;replace y3 := y3.za hb0;have HB := zh hb0;clear hb0 hx2 hx3 E2;have HW : Below W.heap.size W W.drew := (Below.refl _ _).drew;have HS := zh fun w' (HW : Below W.heap.size W w') => con7 ((HW.cell (p := ⟨gb, 1, none⟩) hbl2).trans hx1) (E1.za HW).zb.1 (E1.za HW).zb.2 (E3.za HW).zb.1 (E3.za HW).zb.2 (B1.za HW).zb.1 (B1.za HW).zb.2.1;refine zst HS HW 21 (by kernel_rfl) fun zH => ?_;refine ztl 0 rfl ?_;simp only [Act.put, aGet, aZero, aSet, aHead, aTail];refine ztl 1 rfl ?_;simp only [zP];refine ztl 2 rfl ?_;simp only [zP];refine ztl 3 rfl ?_;simp only [zP];refine ztl 4 rfl ?_;simp only [zP];refine ztl 5 rfl ?_;simp only [zP];refine ztl 6 rfl ?_;simp only [zP];refine ztl 7 rfl ?_;simp only [zP];refine ztl 8 rfl ?_;simp only [zP];refine ztl 9 rfl ?_;simp only [zP];refine ztl 10 rfl ?_;simp only [zP];refine ztl 11 rfl ?_;simp only [zP];refine ztl 12 rfl ?_;simp only [zP];refine ztl 13 rfl ?_;simp only [zP];refine ztl 14 rfl ?_;simp only [zP];refine ztl 15 rfl ?_;simp only [zP];refine ztl 17 rfl ?_;simp only [zP];refine ztl 18 rfl ?_;simp only [zP];refine tin 16 rfl fun K hK => ?_;go_simp;refine (mulK b1 a1 l1 c1 z k b3 a3 l3 c3 x k _ ((y1.za HW).ik (by omega)) ((y3.za HW).ik (by omega))).mono ?_;rintro e w9 ⟨b4, a4, l4, c4, rfl, h4, hb9⟩;replace HW := Below.step HW hb9;clear hb9;refine hK.out _ _ ?_ (fun zH => ?_)
 ·exact zu HS _ HW
 clear hK K
 try simp only [zP]
 refine tin 19 rfl fun K hK => ?_;go_simp;refine (mulK b2 a2 l2 c2 y k b2 a2 l2 c2 y k _ ((y2.za HW).ik (by omega)) ((y2.za HW).ik (by omega))).mono ?_;rintro e w9 ⟨b5, a5, l5, c5, rfl, h5, hb9⟩;replace HW := Below.step HW hb9;replace h4 := h4.za hb9;clear hb9;refine hK.out _ _ ?_ (fun zH => ?_)
 ·exact zu HS _ HW
 clear hK K
 try simp only [zP]
 refine tin 20 rfl fun K hK => ?_;go_simp;refine (addK b4 a4 l4 c4 (z * x) (k + k) b5 a5 l5 c5 (y * y) (k + k) _ (h4.ik (by omega)) (h5.ik (by omega))).mono ?_;rintro e w9 ⟨b6, a6, l6, c6, rfl, h6, hb9⟩;replace HW := Below.step HW hb9;clear hb9 h4 h5;refine hK.out _ _ ?_ (fun zH => ?_)
 ·exact zu HS _ HW
 clear hK K
 try simp only [zP]
 obtain ⟨q1, q2, q3, q4⟩ := (B0.za HW).zb;have hs0 := (B0.za HW).lt;refine tout 21 rfl fun K hK => ?_;go_simp;refine hK.out _ _ ?_;clear hK K
 try simp only [zP]
 refine zdn (by kernel_rfl) ?_ _;have hnl := (B0.za HW).noLimb;clear zH q1 q2 q3 q4;have B9 := (B0.za HW).put b6 a6 l6 c6;have h9 := h6.put hnl b6 a6 l6 c6;have HB9 := zh (below_put (Below.step (zu HB) HW) (Nat.le_refl w.heap.size) b6 a6 l6 c6);have e9 : (w9.setCell ⟨w.heap.size, 0, none⟩ (.bool b6)).setCell ⟨w.heap.size, 1, none⟩ (.slice a6 l6 c6) = put w9 w.heap.size b6 a6 l6 c6 := rfl;rw [e9];obtain ⟨f1, f2, _, _⟩ := B9.zb;have hs9 := B9.lt;rw [Nat.max_self] at h9;clear HW B0 B1 E1 E3 e9 hnl h6 hs0 hx1 y1 y2 y3;go_wp2;refine bodyPost_ret (v := .agg #[.bool b6, .slice a6 l6 c6]) (by simp [results, Tryz.results64, go_sem, *]) rfl ?_;exact ⟨_, _, _, _, rfl, h9, zu HB9⟩
set_option maxRecDepth 40000 in
set_option maxHeartbeats 2000000 in
theorem isLongK (base gb n : Nat) (D : BD) (ls : List (List Int)) (ds : List Int) (gs : List (List Int)) (k : Nat) (m : Nat) (w : World) (h : BS w base gb n D ls ds gs k) (hk : k ≤ 400000) (hn : n ≤ 1000) (hi : m + 1 < n) (hj : m < (gs.getD (m + 1) []).length) :
  Calls Tryz.prog 32 #[.pointer (some ⟨gb, 0, none⟩), .int .i64 ((m + 1 : Nat) : Int)] w fun e w' => e = .returned (.bool (decide (3 * (ds.getD (m + 1) 0 * ds.getD (m + 1) 0) ≤ 4 * (ds.getD (m + 2) 0 * ds.getD m 0 + (gs.getD (m + 1) []).getD m 0 * (gs.getD (m + 1) []).getD m 0)))) ∧ Below w.heap.size w w' := by
 obtain ⟨z, ez⟩ : ∃ z, z = ds.getD (m + 2) 0 * ds.getD m 0 + (gs.getD (m + 1) []).getD m 0 * (gs.getD (m + 1) []).getD m 0 := ⟨_, rfl⟩;obtain ⟨x, ex⟩ : ∃ x, x = ds.getD (m + 1) 0 := ⟨_, rfl⟩;have HJ := zh hj;have HZ := zh ez;rw [← ez, ← ex];obtain ⟨s, es⟩ : ∃ s, s = (4 * z - 3 * (x * x)).sign := ⟨_, rfl⟩;obtain ⟨q, eq⟩ : ∃ q, q = decide (3 * (x * x) ≤ 4 * z) := ⟨_, rfl⟩;have hs : decide (0 ≤ s) = q := by rw [es, eq]; exact sign_geB _ _
 rw [← eq];have ES := zh es;have EX := zh ex;obtain ⟨i, ei⟩ : ∃ i, i = m + 1 := ⟨_, rfl⟩;have hi0 : (0 : Int) ≤ (i : Int) := by omega
 rw [← ei];have EI := zh ei;clear eq es ez ex hj ei;go_enter Tryz.func32, Tryz.ntmps32
 go_wp2_with fail
 refine (ofK 4 _ (by omega) (by omega)).mono ?_;rintro e w1 ⟨b1, a1, l1, c1, rfl, h1, hb1⟩;have HB := zh hb1;clear hb1
 go_wp2_with fail
 rw [zu EI];refine (swappedK base gb n D ls ds gs k m _ (h.za (zu HB)) hk hn hi (zu HJ)).mono ?_;rintro e w2 ⟨b2, a2, l2, c2, rfl, h2, hb1⟩;rw [← zu HZ] at h2;rw [← zu EI];replace h1 := h1.za hb1;replace HB := zh (Below.step (zu HB) hb1);clear hb1
 go_wp2_with fail
 refine (mulK b1 a1 l1 c1 4 2 b2 a2 l2 c2 z (k + k + 1) _ (h1.ik (by omega)) (h2.ik (by omega))).mono ?_;rintro e w3 ⟨b3, a3, l3, c3, rfl, h3, hb1⟩;replace HB := zh (Below.step (zu HB) hb1);clear hb1 h1 h2
 go_upto_region 2 with fail
 obtain ⟨W, hWe⟩ : ∃ W', W' = w3.alloc (.cells #[.bool b3, .slice a3 l3 c3] 45) := ⟨_, rfl⟩;obtain ⟨B3, hb1⟩ := boxes1 w3 b3 a3 l3 c3 hWe;rw [← hWe];clear hWe;replace h3 := h3.za hb1;replace HB := zh (Below.step (zu HB) hb1);clear hb1;replace h := h.za (zu HB);rcases D with ⟨gl, cl, gd, cd, gg, cg, vs, us, V, U⟩;obtain ⟨nd, e0nd⟩ : ∃ nd, nd = n + 1 := ⟨_, rfl⟩;have hx1 : W.cell? ⟨gb, 1, none⟩ = some (.slice (some ⟨gd, 0, none⟩) nd cd) := by rw [e0nd]; exact h.box.zb.2.1
 have hbl := h.box.lt;have hd : OwnV W base (some ⟨gd, 0, none⟩) nd cd ds k := by rw [e0nd]; exact h.r.d
 obtain ⟨b1, a1, l1, c1, E1, y1⟩ := hd.vf.at (show m + 1 < nd by omega);rw [Nat.zero_add] at E1;rw [← zu EX] at y1;rw [← zu EI] at E1;have hi1 : (i : Int) < (nd : Int) := by rw [zu EI]; omega
 clear h hd e0nd;have HW : Below W.heap.size W W.drew := (Below.refl _ _).drew;have HS := zh fun w' (HW : Below W.heap.size W w') => con5 ((HW.cell (p := ⟨gb, 1, none⟩) hbl).trans hx1) (E1.za HW).zb.1 (E1.za HW).zb.2 (B3.za HW).zb.1 (B3.za HW).zb.2.1;refine zst HS HW 20 (by kernel_rfl) fun zH => ?_;refine ztl 0 rfl ?_;simp only [Act.put, aGet, aZero, aSet, aHead, aTail];refine ztl 2 rfl ?_;simp only [zP];refine ztl 3 rfl ?_;simp only [zP];refine ztl 4 rfl ?_;simp only [zP];refine ztl 5 rfl ?_;simp only [zP];refine ztl 6 rfl ?_;simp only [zP];refine ztl 7 rfl ?_;simp only [zP];refine ztl 8 rfl ?_;simp only [zP];refine ztl 9 rfl ?_;simp only [zP];refine ztl 10 rfl ?_;simp only [zP];refine ztl 11 rfl ?_;simp only [zP];refine ztl 12 rfl ?_;simp only [zP];refine ztl 13 rfl ?_;simp only [zP];refine ztl 14 rfl ?_;simp only [zP];refine ztl 15 rfl ?_;simp only [zP];refine tin 1 rfl fun K hK => ?_;go_simp;refine (ofK 3 _ (by omega) (by omega)).mono ?_;rintro e w9 ⟨b4, a4, l4, c4, rfl, h4, hb9⟩;replace HW := Below.step HW hb9;clear hb9;refine hK.out _ _ ?_ (fun zH => ?_)
 ·exact zu HS _ HW
 clear hK K
 try simp only [zP]
 refine tin 16 rfl fun K hK => ?_;go_simp;refine (mulK b1 a1 l1 c1 x k b1 a1 l1 c1 x k _ ((y1.za HW).ik (by omega)) ((y1.za HW).ik (by omega))).mono ?_;rintro e w9 ⟨b5, a5, l5, c5, rfl, h5, hb9⟩;replace HW := Below.step HW hb9;replace h4 := h4.za hb9;clear hb9;refine hK.out _ _ ?_ (fun zH => ?_)
 ·exact zu HS _ HW
 clear hK K
 try simp only [zP]
 refine tin 17 rfl fun K hK => ?_;go_simp;refine (mulK b4 a4 l4 c4 3 2 b5 a5 l5 c5 (x * x) (k + k) _ (h4.ik (by omega)) (h5.ik (by omega))).mono ?_;rintro e w9 ⟨b6, a6, l6, c6, rfl, h6, hb9⟩;replace HW := Below.step HW hb9;clear hb9 h4 h5;refine hK.out _ _ ?_ (fun zH => ?_)
 ·exact zu HS _ HW
 clear hK K
 try simp only [zP]
 refine tin 18 rfl fun K hK => ?_;go_simp;refine (cmpK b3 a3 l3 c3 (4 * z) (2 + (k + k + 1)) b6 a6 l6 c6 (3 * (x * x)) (2 + (k + k)) s _ ((h3.za HW).ik (by omega)) (h6.ik (by omega)) (zu ES)).mono ?_;rintro e w9 ⟨rfl, hb9⟩;replace HW := Below.step HW hb9;clear hb9 h6;refine hK.out _ _ ?_ (fun zH => ?_)
 ·exact zu HS _ HW
 clear hK K
 try simp only [zP]
 refine ztl 19 rfl ?_;simp only [zP];refine tout 20 rfl fun K hK => ?_;go_simp;refine hK.out _ _ ?_;clear hK K
 try simp only [zP]
 refine zdn (by kernel_rfl) ?_ _;clear zH;go_wp2;go_ret;exact ⟨rfl, Below.step (zu HB) HW⟩
end Go.Proofs.YtnpneloahajniaaGreat
