/-
 What turned of package lll tells: a row's shares of two rows that change places.
-/
import Derived.Test.YtnpneloahajniaaGreatLRead
namespace Go.Proofs.YtnpneloahajniaaGreat
open Go.RowKit Lb
set_option maxRecDepth 20000

theorem tdiv_of {a b c : Int} (h : b ≠ 0) (e : b * c = a) : a.tdiv b = c := by rw [← e]; exact Int.mul_tdiv_cancel_left _ h
set_option maxRecDepth 40000 in
set_option maxHeartbeats 2000000 in
theorem lturnK (base gb n : Nat) (D : BD) (ls : List (List Int)) (ds : List Int) (gs : List (List Int)) (k : Nat) (gu ou nu cu : Nat) (zs : List Int) (p : Nat) (bn : Bool) (an : Option Addr) (ln cn : Nat) (nx : Int) (bb : Bool) (ab : Option Addr) (lb cb : Nat) (be S F : Int) (w : World) (h : BS w base gb n D ls ds gs k) (hu : VK w (some ⟨gu, ou, none⟩) nu cu zs k) (hn : FK w bn an ln cn nx k) (hb : FK w bb ab lb cb be k) (hk : k ≤ 200000) (hn9 : n ≤ 1000) (hp : p + 1 < n) (hpu : p + 1 < nu)
  (h2 : ds.getD (p + 1) 0 ≠ 0) (h1 : ds.getD (p + 2) 0 ≠ 0) (hS : ds.getD (p + 1) 0 * S = ds.getD (p + 2) 0 * zs.getD p 0 - be * zs.getD (p + 1) 0) (hF : ds.getD (p + 2) 0 * F = nx * zs.getD (p + 1) 0 + be * S) (hSk : S.natAbs < Bp k) (hFk : F.natAbs < Bp k) :
  Calls Tryz.prog 77 #[.pointer (some ⟨gb, 0, none⟩), .slice (some ⟨gu, ou, none⟩) nu cu, .int .i64 ((p + 1 : Nat) : Int), .agg #[.bool bn, .slice an ln cn], .agg #[.bool bb, .slice ab lb cb]] w fun e w' => ∃ b1 a1 l1 c1 b2 a2 l2 c2, e = .returned (.tuple #[.agg #[.bool b1, .slice a1 l1 c1], .agg #[.bool b2, .slice a2 l2 c2]]) ∧ FK w' b1 a1 l1 c1 F k ∧ FK w' b2 a2 l2 c2 S k ∧ Below w.heap.size w w' := by
 obtain ⟨i, ei⟩ : ∃ i, i = p + 1 := ⟨_, rfl⟩;obtain ⟨i1, ei1⟩ : ∃ i1, i1 = p + 2 := ⟨_, rfl⟩;rw [← ei] at h2 hS hF ⊢;rw [← ei1] at h1 hS hF;obtain ⟨nd, e0nd⟩ : ∃ nd, nd = n + 1 := ⟨_, rfl⟩;have hw1 : IntKind.i64.wrap ((i : Int) + 1) = (i1 : Int) := by rw [IntKind.wrap_i64]; omega
 have hw2 : IntKind.i64.wrap ((i : Int) - 1) = (p : Int) := by rw [IntKind.wrap_i64]; omega
 have hj0 : (0 : Int) ≤ (i1 : Int) := by omega
 have hj1 : (i1 : Int) < (nd : Int) := by omega
 have hj2 : (0 : Int) ≤ (p : Int) := by omega
 have hj3 : (p : Int) < (nu : Int) := by omega
 have hi0 : (0 : Int) ≤ (i : Int) := by omega
 have hi1 : (i : Int) < (nd : Int) := by omega
 have hi2 : (i : Int) < (nu : Int) := by omega
 have hid : i < nd := by omega
 have hi1d : i1 < nd := by omega
 have hpu1 : p < nu := by omega
 have hiu : i < nu := by omega
 obtain ⟨x1, ex1⟩ : ∃ x, x = ds.getD i1 0 := ⟨_, rfl⟩;obtain ⟨x2, ex2⟩ : ∃ x, x = ds.getD i 0 := ⟨_, rfl⟩;obtain ⟨y3, ey3⟩ : ∃ x, x = zs.getD p 0 := ⟨_, rfl⟩;obtain ⟨y4, ey4⟩ : ∃ x, x = zs.getD i 0 := ⟨_, rfl⟩;rw [← ex1, ← ex2, ← ey3, ← ey4] at hS;rw [← ex1, ← ey4] at hF;rw [← ex2] at h2;rw [← ex1] at h1;have h10 := h1;have h20 := h2;have TS := zh (tdiv_of h2 hS);have TF := zh (tdiv_of h1 hF);have HSK := zh hSk;have HFK := zh hFk;have EX1 := zh ex1;have EX2 := zh ex2;have EY3 := zh ey3;have EY4 := zh ey4;have HND := zh e0nd;clear hS hF h1 h2 hSk hFk ex1 ex2 ey3 ey4 ei ei1 e0nd hp hpu;rcases D with ⟨gl, cl, gd, cd, gg, cg, vs, us, V, U⟩;go_enter Tryz.func77, Tryz.ntmps77
 go_upto_region 1 with fail
 obtain ⟨W, hWe⟩ : ∃ W', W' = ((((w.alloc (.cells #[.bool bn, .slice an ln cn] 45)).alloc (.cells #[.bool bb, .slice ab lb cb] 45)).alloc (.cells #[.bool false, .slice none 0 0] 45)).alloc (.cells #[.bool false, .slice none 0 0] 45)) := ⟨_, rfl⟩;obtain ⟨BN, BB, BF9, BS9, hb0⟩ := boxes4 w bn an ln cn bb ab lb cb false none 0 0 false none 0 0 hWe;rw [← hWe];clear hWe;have HB := zh hb0;clear hb0;have hX := h.za (zu HB);have hx1 : W.cell? ⟨gb, 1, none⟩ = some (.slice (some ⟨gd, 0, none⟩) nd cd) := by rw [zu HND]; exact hX.box.zb.2.1
 have hbl := hX.box.lt;have hd : OwnV W base (some ⟨gd, 0, none⟩) nd cd ds k := by rw [zu HND]; exact hX.r.d
 have hU := hu.za (zu HB);have hnW := hn.za (zu HB);have hbW := hb.za (zu HB);obtain ⟨b1, a1, l1, c1, E1, k1⟩ := hd.vf.at hi1d;rw [Nat.zero_add] at E1;rw [← zu EX1] at k1;obtain ⟨b2, a2, l2, c2, E2, k2⟩ := hd.vf.at hid;rw [Nat.zero_add] at E2;rw [← zu EX2] at k2;obtain ⟨b3, a3, l3, c3, E3, k3⟩ := hU.at hpu1;rw [← zu EY3] at k3;obtain ⟨b4, a4, l4, c4, E4, k4⟩ := hU.at hiu;rw [← zu EY4] at k4;clear hX hd hU;have HW : Below W.heap.size W W.drew := (Below.refl _ _).drew;have HS := zh fun w' (HW : Below W.heap.size W w') => con11 ((HW.cell (p := ⟨gb, 1, none⟩) hbl).trans hx1) (E1.za HW).zb.1 (E1.za HW).zb.2 (E2.za HW).zb.1 (E2.za HW).zb.2 (E3.za HW).zb.1 (E3.za HW).zb.2 (E4.za HW).zb.1 (E4.za HW).zb.2 (BB.za HW).zb.1 (BB.za HW).zb.2.1;refine zst HS HW 33 (by kernel_rfl) fun zH => ?_;refine ztl 0 rfl ?_;simp only [Act.put, aGet, aZero, aSet, aHead, aTail];refine ztl 1 rfl ?_;simp only [zP];refine ztl 2 rfl ?_;simp only [zP];refine ztl 3 rfl ?_;simp only [zP];refine ztl 4 rfl ?_;simp only [zP];refine ztl 5 rfl ?_;simp only [zP];refine ztl 6 rfl ?_;simp only [zP];refine ztl 7 rfl ?_;simp only [zP];refine ztl 8 rfl ?_;simp only [zP];refine ztl 9 rfl ?_;simp only [zP];refine ztl 10 rfl ?_;simp only [zP];refine ztl 11 rfl ?_;simp only [zP];refine ztl 12 rfl ?_;simp only [zP];refine ztl 14 rfl ?_;simp only [zP];refine ztl 15 rfl ?_;simp only [zP];refine ztl 16 rfl ?_;simp only [zP];refine ztl 17 rfl ?_;simp only [zP];refine ztl 18 rfl ?_;simp only [zP];refine ztl 21 rfl ?_;simp only [zP];refine ztl 22 rfl ?_;simp only [zP];refine ztl 23 rfl ?_;simp only [zP];refine ztl 24 rfl ?_;simp only [zP];refine ztl 25 rfl ?_;simp only [zP];refine ztl 26 rfl ?_;simp only [zP];refine ztl 27 rfl ?_;simp only [zP];refine tin 13 rfl fun K hK => ?_;go_simp;refine (mulK b1 a1 l1 c1 x1 k b3 a3 l3 c3 y3 k _ ((k1.za HW).ik (by omega)) (k3.za HW)).mono ?_;rintro e w9 ⟨b6, a6, l6, c6, rfl, h6, hb9⟩;replace HW := Below.step HW hb9;clear hb9;refine hK.out _ _ ?_ (fun zH => ?_)
 ·exact zu HS _ HW
 clear hK K
 try simp only [zP]
 refine tin 19 rfl fun K hK => ?_;go_simp;refine (mulK bb ab lb cb be k b4 a4 l4 c4 y4 k _ ((hbW.za HW).ik (by omega)) (k4.za HW)).mono ?_;rintro e w9 ⟨b7, a7, l7, c7, rfl, h7, hb9⟩;replace HW := Below.step HW hb9;replace h6 := h6.za hb9;clear hb9;refine hK.out _ _ ?_ (fun zH => ?_)
 ·exact zu HS _ HW
 clear hK K
 try simp only [zP]
 refine tin 20 rfl fun K hK => ?_;go_simp;refine (subK b6 a6 l6 c6 (x1 * y3) (k + k) b7 a7 l7 c7 (be * y4) (k + k) _ (h6.ik (by omega)) (h7.ik (by omega))).mono ?_;rintro e w9 ⟨b8, a8, l8, c8, rfl, h8, hb9⟩;replace HW := Below.step HW hb9;clear hb9 h6 h7;rw [Nat.max_self] at h8;refine hK.out _ _ ?_ (fun zH => ?_)
 ·exact zu HS _ HW
 clear hK K
 try simp only [zP]
 refine tin 28 rfl fun K hK => ?_;go_simp;refine (quoK b8 a8 l8 c8 (x1 * y3 - be * y4) (k + k + 1) b2 a2 l2 c2 x2 k _ (h8.ik (by omega)) ((k2.za HW).ik (by omega)) h20).mono ?_;rintro e w9 ⟨bs, as1, ls1, cs1, bz, az, lz, cz, rfl, hs, hz, hb9⟩;replace HW := Below.step HW hb9;clear hb9 h8 hz;refine hK.out _ _ ?_ (fun zH => ?_)
 ·exact zu HS _ HW
 clear hK K
 try simp only [zP]
 refine ztl 29 rfl ?_;simp only [zP];refine ztl 30 rfl ?_;simp only [zP];refine till_fr (i := 31) (v := ?_) rfl (Or.inl ⟨by rfl, ?_⟩) ?_
 rotate_left
 ·(intro w hSw; (try dsimp only at hSw); go_simp; try with_reducible rfl)
 simp only [zP];refine till_fr (i := 32) (v := ?_) rfl (Or.inl ⟨by rfl, ?_⟩) ?_
 rotate_left
 ·(intro w hSw; (try dsimp only at hSw); go_simp; try with_reducible rfl)
 simp only [zP];obtain ⟨q1, q2, q3, q4⟩ := (BS9.za HW).zb;have hs0 := (BS9.za HW).lt;refine tout 33 rfl fun K hK => ?_;go_simp;refine hK.out _ _ ?_;clear hK K
 try simp only [zP]
 refine zdn (by kernel_rfl) ?_ _;rw [zu TS] at hs;replace hs : FK w9 bs as1 ls1 cs1 S k := ⟨hs.1, zu HSK⟩;have hnl := (BS9.za HW).noLimb;clear zH q1 q2 q3 q4 hs0;obtain ⟨W2, hWe⟩ : ∃ W', W' = ((w9.setCell ⟨w.heap.size + 3, 0, none⟩ (.bool bs)).setCell ⟨w.heap.size + 3, 1, none⟩ (.slice as1 ls1 cs1)) := ⟨_, rfl⟩;rw [← hWe];replace BS9 : Box W2 (w.heap.size + 3) bs as1 ls1 cs1 := by rw [hWe]; exact (BS9.za HW).put bs as1 ls1 cs1
 replace hs : FK W2 bs as1 ls1 cs1 S k := by rw [hWe]; exact hs.put hnl bs as1 ls1 cs1
 replace BN : Box W2 (w.heap.size) bn an ln cn := by rw [hWe]; exact (BN.za HW).other (g' := w.heap.size + 3) (by omega) bs as1 ls1 cs1
 replace BB : Box W2 (w.heap.size + 1) bb ab lb cb := by rw [hWe]; exact (BB.za HW).other (g' := w.heap.size + 3) (by omega) bs as1 ls1 cs1
 replace BF9 : Box W2 (w.heap.size + 2) false none 0 0 := by rw [hWe]; exact (BF9.za HW).other (g' := w.heap.size + 3) (by omega) bs as1 ls1 cs1
 replace HB := zh (show Below w.heap.size w W2 by rw [hWe]; exact below_put ((zu HB).trans (HW.mono (zu HB).size)) (by omega) bs as1 ls1 cs1);clear hWe HW hnl;clear hx1 hbl hnW hbW E1 k1 E2 k2 E3 k3 E4 k4
 go_upto_region 2 with fail
 have hX := h.za (zu HB);have hx1 : W2.cell? ⟨gb, 1, none⟩ = some (.slice (some ⟨gd, 0, none⟩) nd cd) := by rw [zu HND]; exact hX.box.zb.2.1
 have hbl := hX.box.lt;have hd : OwnV W2 base (some ⟨gd, 0, none⟩) nd cd ds k := by rw [zu HND]; exact hX.r.d
 have hU := hu.za (zu HB);have hnW := hn.za (zu HB);have hbW := hb.za (zu HB);obtain ⟨b1, a1, l1, c1, E1, k1⟩ := hd.vf.at hi1d;rw [Nat.zero_add] at E1;rw [← zu EX1] at k1;obtain ⟨b4, a4, l4, c4, E4, k4⟩ := hU.at hiu;rw [← zu EY4] at k4;clear hX hd hU;have HW : Below W2.heap.size W2 W2.drew := (Below.refl _ _).drew;have HS := zh fun w' (HW : Below W2.heap.size W2 w') => con11 (BN.za HW).zb.1 (BN.za HW).zb.2.1 (E4.za HW).zb.1 (E4.za HW).zb.2 (BB.za HW).zb.1 (BB.za HW).zb.2.1 (BS9.za HW).zb.1 (BS9.za HW).zb.2.1 ((HW.cell (p := ⟨gb, 1, none⟩) hbl).trans hx1) (E1.za HW).zb.1 (E1.za HW).zb.2;refine zst HS HW 23 (by kernel_rfl) fun zH => ?_;refine ztl 0 rfl ?_;simp only [Act.put, aGet, aZero, aSet, aHead, aTail];refine ztl 1 rfl ?_;simp only [zP];refine ztl 2 rfl ?_;simp only [zP];refine ztl 3 rfl ?_;simp only [zP];refine ztl 4 rfl ?_;simp only [zP];refine ztl 6 rfl ?_;simp only [zP];refine ztl 7 rfl ?_;simp only [zP];refine ztl 10 rfl ?_;simp only [zP];refine ztl 11 rfl ?_;simp only [zP];refine ztl 12 rfl ?_;simp only [zP];refine ztl 13 rfl ?_;simp only [zP];refine ztl 14 rfl ?_;simp only [zP];refine ztl 15 rfl ?_;simp only [zP];refine ztl 16 rfl ?_;simp only [zP];refine ztl 17 rfl ?_;simp only [zP];refine tin 5 rfl fun K hK => ?_;go_simp;refine (mulK bn an ln cn nx k b4 a4 l4 c4 y4 k _ ((hnW.za HW).ik (by omega)) (k4.za HW)).mono ?_;rintro e w9 ⟨b6, a6, l6, c6, rfl, h6, hb9⟩;replace HW := Below.step HW hb9;clear hb9;refine hK.out _ _ ?_ (fun zH => ?_)
 ·exact zu HS _ HW
 clear hK K
 try simp only [zP]
 refine tin 8 rfl fun K hK => ?_;go_simp;refine (mulK bb ab lb cb be k bs as1 ls1 cs1 S k _ ((hbW.za HW).ik (by omega)) ((hs.za HW).ik (by omega))).mono ?_;rintro e w9 ⟨b7, a7, l7, c7, rfl, h7, hb9⟩;replace HW := Below.step HW hb9;replace h6 := h6.za hb9;clear hb9;refine hK.out _ _ ?_ (fun zH => ?_)
 ·exact zu HS _ HW
 clear hK K
 try simp only [zP]
 refine tin 9 rfl fun K hK => ?_;go_simp;refine (addK b6 a6 l6 c6 (nx * y4) (k + k) b7 a7 l7 c7 (be * S) (k + k) _ (h6.ik (by omega)) (h7.ik (by omega))).mono ?_;rintro e w9 ⟨b8, a8, l8, c8, rfl, h8, hb9⟩;replace HW := Below.step HW hb9;clear hb9 h6 h7;rw [Nat.max_self] at h8;refine hK.out _ _ ?_ (fun zH => ?_)
 ·exact zu HS _ HW
 clear hK K
 try simp only [zP]
 refine tin 18 rfl fun K hK => ?_;go_simp;refine (quoK b8 a8 l8 c8 (nx * y4 + be * S) (k + k + 1) b1 a1 l1 c1 x1 k _ (h8.ik (by omega)) ((k1.za HW).ik (by omega)) h10).mono ?_;rintro e w9 ⟨bf, af, lf, cf, bz, az, lz, cz, rfl, hf, hz, hb9⟩;replace HW := Below.step HW hb9;clear hb9 h8 hz;refine hK.out _ _ ?_ (fun zH => ?_)
 ·exact zu HS _ HW
 clear hK K
 try simp only [zP]
 refine ztl 19 rfl ?_;simp only [zP];refine ztl 20 rfl ?_;simp only [zP];refine till_fr (i := 21) (v := ?_) rfl (Or.inl ⟨by rfl, ?_⟩) ?_
 rotate_left
 ·(intro w hSw; (try dsimp only at hSw); go_simp; try with_reducible rfl)
 simp only [zP];refine till_fr (i := 22) (v := ?_) rfl (Or.inl ⟨by rfl, ?_⟩) ?_
 rotate_left
 ·(intro w hSw; (try dsimp only at hSw); go_simp; try with_reducible rfl)
 simp only [zP];obtain ⟨q1, q2, q3, q4⟩ := (BF9.za HW).zb;have hs0 := (BF9.za HW).lt;refine tout 23 rfl fun K hK => ?_;go_simp;refine hK.out _ _ ?_;clear hK K
 try simp only [zP]
 refine zdn (by kernel_rfl) ?_ _;rw [zu TF] at hf;replace hf : FK w9 bf af lf cf F k := ⟨hf.1, zu HFK⟩;have hnl := (BF9.za HW).noLimb;clear zH q1 q2 q3 q4 hs0;obtain ⟨W3, hWe⟩ : ∃ W', W' = ((w9.setCell ⟨w.heap.size + 2, 0, none⟩ (.bool bf)).setCell ⟨w.heap.size + 2, 1, none⟩ (.slice af lf cf)) := ⟨_, rfl⟩;rw [← hWe];replace BF9 : Box W3 (w.heap.size + 2) bf af lf cf := by rw [hWe]; exact (BF9.za HW).put bf af lf cf
 replace hf : FK W3 bf af lf cf F k := by rw [hWe]; exact hf.put hnl bf af lf cf
 replace hs : FK W3 bs as1 ls1 cs1 S k := by rw [hWe]; exact (hs.za HW).put hnl bf af lf cf
 replace BS9 : Box W3 (w.heap.size + 3) bs as1 ls1 cs1 := by rw [hWe]; exact (BS9.za HW).other (g' := w.heap.size + 2) (by omega) bf af lf cf
 replace HB := zh (show Below w.heap.size w W3 by rw [hWe]; exact below_put ((zu HB).trans (HW.mono (zu HB).size)) (by omega) bf af lf cf);clear hWe HW hnl;clear hx1 hbl hnW hbW E1 k1 E4 k4
 go_upto_region 3 with fail
 have HW : Below W3.heap.size W3 W3.drew := (Below.refl _ _).drew;have HS := zh fun w' (HW : Below W3.heap.size W3 w') => con4 (BF9.za HW).zb.1 (BF9.za HW).zb.2.1 (BS9.za HW).zb.1 (BS9.za HW).zb.2.1;refine zst HS HW 3 (by kernel_rfl) fun zH => ?_;refine ztl 0 rfl ?_;simp only [Act.put, aGet, aZero, aSet, aHead, aTail];refine ztl 1 rfl ?_;simp only [zP];obtain ⟨q1, q2, q3, q4⟩ := BF9.zb;have hs0 := BF9.lt;refine tin 2 rfl fun K hK => ?_;go_simp;have B29 := (BF9.za HW).put bf af lf cf;have B39 := (BS9.za HW).other (g' := w.heap.size + 2) (by omega) bf af lf cf;refine hK.out _ _ ?_ (fun zH => ?_)
 ·exact ⟨B29.zb.1, B29.zb.2.1, B39.zb.1, B39.zb.2.1⟩
 clear hK K
 try simp only [zP]
 obtain ⟨r1, r2, r3, r4⟩ := (BS9.other (g' := w.heap.size + 2) (by omega) bf af lf cf).zb;have hs1 := (BS9.other (g' := w.heap.size + 2) (by omega) bf af lf cf).lt;unfold put at r1 r2 r3 r4 hs1;refine tout 3 rfl fun K hK => ?_;go_simp;refine hK.out _ _ ?_;clear hK K
 try simp only [zP]
 refine zdn (by kernel_rfl) ?_ _;have n1 := BF9.noLimb;have B3 := BS9.other (g' := w.heap.size + 2) (by omega) bf af lf cf;have n2 := B3.noLimb;have BFz := (BF9.put bf af lf cf).other (g' := w.heap.size + 3) (by omega) bs as1 ls1 cs1;have BSz := B3.put bs as1 ls1 cs1;have hfz := (hf.put n1 bf af lf cf).put n2 bs as1 ls1 cs1;have hsz := (hs.put n1 bf af lf cf).put n2 bs as1 ls1 cs1;have HBz := zh (below_put (below_put (zu HB) (show w.heap.size ≤ w.heap.size + 2 by omega) bf af lf cf) (show w.heap.size ≤ w.heap.size + 3 by omega) bs as1 ls1 cs1);obtain ⟨Wz, eWz⟩ : ∃ Wz, Wz = put (put W3 (w.heap.size + 2) bf af lf cf) (w.heap.size + 3) bs as1 ls1 cs1 := ⟨_, rfl⟩;have e8 : ((((W3.setCell ⟨w.heap.size + 1 + 1, 0, none⟩ (.bool bf)).setCell ⟨w.heap.size + 1 + 1, 1, none⟩ (.slice af lf cf)).setCell ⟨w.heap.size + 1 + 1 + 1, 0, none⟩ (.bool bs)).setCell ⟨w.heap.size + 1 + 1 + 1, 1, none⟩ (.slice as1 ls1 cs1)).drew = Wz.drew := by rw [eWz]; rfl
 rw [e8];rw [← eWz] at BFz BSz hfz hsz HBz;have HD : Below Wz.heap.size Wz Wz.drew := (Below.refl _ _).drew;replace BFz := BFz.za HD;replace BSz := BSz.za HD;replace hfz := hfz.za HD;replace hsz := hsz.za HD;replace HBz := zh (Below.step (zu HBz) HD);obtain ⟨Wy, eWy⟩ : ∃ Wy, Wy = Wz.drew := ⟨_, rfl⟩;rw [← eWy] at BFz BSz hfz hsz HBz ⊢;clear eWy HD eWz e8 q1 q2 q3 q4 r1 r2 r3 r4 hs0 hs1 zH HW n1 n2 B3 B29 B39 BF9 BS9 hf hs HB;obtain ⟨f1, f2, _, _⟩ := BFz.zb;have hl1 := BFz.lt;obtain ⟨f3, f4, _, _⟩ := BSz.zb;have hl2 := BSz.lt;go_wp2;refine bodyPost_ret (v := .tuple #[.agg #[.bool bf, .slice af lf cf], .agg #[.bool bs, .slice as1 ls1 cs1]]) (by simp [results, Tryz.results77, go_sem, *]) rfl ?_;exact ⟨_, _, _, _, _, _, _, _, rfl, hfz, hsz, zu HBz⟩
end Go.Proofs.YtnpneloahajniaaGreat
