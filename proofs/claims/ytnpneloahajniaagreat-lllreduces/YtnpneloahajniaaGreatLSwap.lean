/-
 What swap of package lll tells: two rows change places, and the d and g with them.
-/
import Derived.Test.YtnpneloahajniaaGreatLTurn
import Derived.Test.YtnpneloahajniaaGreatJL
namespace Go.Proofs.YtnpneloahajniaaGreat
open Go.RowKit Lb
set_option maxRecDepth 20000

theorem set2_len {gs : List (List Int)} {i j t : Nat} {z : Int} (hi : i < gs.length) : ((gs.set i ((gs.getD i []).set j z)).getD t []).length = (gs.getD t []).length := by
 by_cases c : t = i
 ·subst c; rw [gset_self hi, List.length_set]
 ·rw [gset_other c]
theorem set2_at {gs : List (List Int)} {i j : Nat} {z : Int} (hi : i < gs.length) (hj : j < (gs.getD i []).length) {t s : Nat} : ((gs.set i ((gs.getD i []).set j z)).getD t []).getD s 0 = if t = i ∧ s = j then z else (gs.getD t []).getD s 0 := by
 by_cases c : t = i
 ·subst c;rw [gset_self hi];by_cases c2 : s = j
  ·subst c2;rw [if_pos ⟨rfl, rfl⟩];simp only [List.getD_eq_getElem?_getD] at hj ⊢;rw [List.getElem?_set_self hj]; rfl
  ·rw [if_neg (fun e => c2 e.2)];simp only [List.getD_eq_getElem?_getD];rw [List.getElem?_set_ne (Ne.symm c2)]
 ·rw [gset_other c, if_neg (fun e => c e.1)]
def SwapTo (base gb n : Nat) (ls : List (List Int)) (ds : List Int) (gs : List (List Int)) (k p : Nat) (nx : Int) (F S : Nat → Int) (w : World) (e : Ending) (w' : World) : Prop := ∃ (D : BD) (gs2 : List (List Int)), e = .returned (.tuple #[]) ∧ BS w' base gb n D (swapL ls p (p + 1)) (ds.set (p + 1) nx) gs2 k ∧ (∀ t, t < n → (gs2.getD t []).length = t) ∧ (∀ t s, t < n → s < t → (gs2.getD t []).getD s 0 = if p + 1 < t then (if s = p then F t else if s = p + 1 then S t else (gs.getD t []).getD s 0) else if t = p then (gs.getD (p + 1) []).getD s 0 else if t = p + 1 then (if s = p then (gs.getD (p + 1) []).getD p 0 else (gs.getD p []).getD s 0) else (gs.getD t []).getD s 0) ∧ Below base w w'
set_option maxRecDepth 40000 in
set_option maxHeartbeats 10000000 in
theorem swapK (base gb n : Nat) (D : BD) (ls : List (List Int)) (ds : List Int) (gs : List (List Int)) (k p : Nat) (nx : Int) (F S : Nat → Int) (w : World) (h : BS w base gb n D ls ds gs k) (hbase : base ≤ w.heap.size) (hk : k ≤ 100000) (hn : n ≤ 1000) (hp : p + 1 < n) (hgl : ∀ t, t < n → (gs.getD t []).length = t) (hd1 : ds.getD (p + 1) 0 ≠ 0) (hd2 : ds.getD (p + 2) 0 ≠ 0)
  (hnx : ds.getD (p + 1) 0 * nx = ds.getD (p + 2) 0 * ds.getD p 0 + (gs.getD (p + 1) []).getD p 0 * (gs.getD (p + 1) []).getD p 0) (hnk : nx.natAbs < Bp k) (hFS : ∀ t, p + 1 < t → t < n → ds.getD (p + 1) 0 * S t = ds.getD (p + 2) 0 * (gs.getD t []).getD p 0 - (gs.getD (p + 1) []).getD p 0 * (gs.getD t []).getD (p + 1) 0 ∧ ds.getD (p + 2) 0 * F t = nx * (gs.getD t []).getD (p + 1) 0 + (gs.getD (p + 1) []).getD p 0 * S t ∧ (F t).natAbs < Bp k ∧ (S t).natAbs < Bp k) :
  Calls Tryz.prog 50 #[.pointer (some ⟨gb, 0, none⟩), .int .i64 ((p + 1 : Nat) : Int)] w fun e w' => SwapTo base gb n ls ds gs k p nx F S w e w' := by
 obtain ⟨be, ebe⟩ : ∃ be, be = (gs.getD (p + 1) []).getD p 0 := ⟨_, rfl⟩;rw [← ebe] at hnx hFS;obtain ⟨i, ei⟩ : ∃ i, i = p + 1 := ⟨_, rfl⟩;have EI := zh ei;obtain ⟨d1, ed1⟩ : ∃ d, d = ds.getD (p + 1) 0 := ⟨_, rfl⟩;have hd10 : d1 ≠ 0 := by rw [ed1]; exact hd1
 rw [← ed1] at hnx;have TN := zh (tdiv_of hd10 hnx);have HD10 := zh hd10;have HNK := zh hnk;have HP1 := zh hp;have HD1 := zh hd1;have HD2 := zh hd2;have HBA := zh hbase;have HGL := zh hgl;have HFR := zh h.r.fresh;have hin : i < n := by omega
 have hpn : p < n := by omega
 have HGLI := zh (hgl i hin);have EBE : Hid (be = (gs.getD i []).getD p 0) := zh (by rw [ei]; exact ebe);have HFS : Hid (∀ t, i < t → t < n → ds.getD i 0 * S t = ds.getD (p + 2) 0 * (gs.getD t []).getD p 0 - be * (gs.getD t []).getD i 0 ∧ ds.getD (p + 2) 0 * F t = nx * (gs.getD t []).getD i 0 + be * S t ∧ (F t).natAbs < Bp k ∧ (S t).natAbs < Bp k) := zh (by rw [ei]; exact hFS);have HSWD : Hid (∀ W', Below w.heap.size w W' → Calls Tryz.prog 64 #[.pointer (some ⟨gb, 0, none⟩), .int .i64 (i : Int)] W' fun e w' => ∃ b1 a1 l1 c1, e = .returned (.agg #[.bool b1, .slice a1 l1 c1]) ∧ FK w' b1 a1 l1 c1 (ds.getD (p + 2) 0 * ds.getD p 0 + be * be) (k + k + 1) ∧ Below W'.heap.size W' w') := zh fun W' hb => by
  have h1 := swappedK base gb n _ ls ds gs k p W' (h.za hb) (by omega) hn hp (by rw [hgl _ (by omega)]; omega);rw [← ebe, ← ei] at h1;exact h1
 obtain ⟨nd, e0nd⟩ : ∃ nd, nd = n + 1 := ⟨_, rfl⟩;have HND := zh e0nd;have hw2 : IntKind.i64.wrap ((i : Int) - 1) = (p : Int) := by rw [IntKind.wrap_i64]; omega
 have hw1 : IntKind.i64.wrap ((i : Int) + 1) = ((i + 1 : Nat) : Int) := by rw [IntKind.wrap_i64]; omega
 have hi0 : (0 : Int) ≤ (i : Int) := by omega
 have hi1 : (i : Int) < (n : Int) := by omega
 have hi2 : (i : Int) < (nd : Int) := by omega
 have hp0 : (0 : Int) ≤ (p : Int) := by omega
 have hp1 : (p : Int) < (n : Int) := by omega
 have hp2 : (p : Int) < (i : Int) := by omega
 have hid : i < nd := by omega
 have hpi : i = p + 1 := ei;have hpi2 : p < i := by omega
 have hpi3 : i ≤ p + 1 := by omega
 rcases D with ⟨gl, cl, gd, cd, gg, cg, vs, us, V, U⟩;have hx1 : w.cell? ⟨gb, 1, none⟩ = some (.slice (some ⟨gd, 0, none⟩) nd cd) := by rw [e0nd]; exact h.box.zb.2.1
 have hbl := h.box.lt;have hd : OwnV w base (some ⟨gd, 0, none⟩) nd cd ds k := by rw [e0nd]; exact h.r.d
 obtain ⟨b1, a1, l1, c1, E1, k1⟩ := hd.vf.at hid;rw [Nat.zero_add] at E1;rw [ei, ← ed1] at k1;rw [← ei];have hgl0 : gl < w.heap.size := h.r.l.lt.2;clear hnx hd1 hd2 hnk hFS hbase hgl ebe ei ed1 hd10 e0nd hp hpi;go_enter Tryz.func50, Tryz.ntmps50
 go_upto_region 0 with fail
 have hgl := hgl0;have hgg : gg < w.heap.size := h.r.g.lt.2;have HW : Below w.heap.size w w.drew := (Below.refl _ _).drew;have HS := zh fun w' (HW : Below w.heap.size w w') => con3 ((HW.cell (p := ⟨gb, 1, none⟩) hbl).trans hx1) (E1.za HW).zb.1 (E1.za HW).zb.2;refine zst HS HW 17 (by kernel_rfl) fun zH => ?_;obtain ⟨vd1, hvd⟩ : ∃ v, v = w.drew := ⟨_, rfl⟩;rw [← hvd] at HW zH ⊢;clear hvd;refine zfl 0 rfl ?_;simp only [Act.put, aGet, aZero, aSet, aHead, aTail];refine zfl 1 rfl ?_;simp only [zP];refine zfl 3 rfl ?_;simp only [zP];refine zfl 4 rfl ?_;simp only [zP];refine zfl 5 rfl ?_;simp only [zP];refine ztm 6 rfl ?_;simp only [zP];refine zfl 7 rfl ?_;simp only [zP];refine ztm 8 rfl ?_;simp only [zP];refine ztm 9 rfl ?_;simp only [zP];refine znm (fun act0 hact0 => ?_);have HA := zh hact0;clear hact0;refine zmd 3 #[tT, tT, tT, tT, tT, tT, tT, tT, tT, tT, tT, tT, tT, tT, tT, tT, tT, tF, tF, tF] (ι := Bool × Option Addr × Nat × Nat × Bool × Option Addr × Nat × Nat × Bool × Option Addr × Nat × Nat × Nat × Nat) (fun (b6, a6, l6, c6, bq, aq, lq, cq, br, ar, lr, cr, g4, g5) => ((((((((act0.put (some 13) (.agg #[.bool b6, .slice a6 l6 c6])).put (some 21) (.tuple #[.agg #[.bool bq, .slice aq lq cq], .agg #[.bool br, .slice ar lr cr], .bool true])).put (some 10) (.tuple #[.agg #[.bool bq, .slice aq lq cq], .agg #[.bool br, .slice ar lr cr], .bool true])).put (some 22) (.agg #[.bool bq, .slice aq lq cq])).put (some 23) (.agg #[.bool br, .slice ar lr cr])).put (some 24) (.bool true)).put (some 4) ((.pointer (some ⟨g4, 0, none⟩)))).put (some 5) ((.pointer (some ⟨g5, 0, none⟩))))) (fun (b6, a6, l6, c6, bq, aq, lq, cq, br, ar, lr, cr, g4, g5) wz => Below w.heap.size w wz ∧ FK wz bq aq lq cq ((ds.getD (p + 2) 0 * ds.getD p 0 + be * be).tdiv d1) (k + k + 1) ∧ FK wz br ar lr cr ((ds.getD (p + 2) 0 * ds.getD p 0 + be * be).tmod d1) k ∧ Box wz g4 false none 0 0 ∧ w.heap.size ≤ g4 ∧ Box wz g5 false none 0 0 ∧ w.heap.size ≤ g5 ∧ g4 ≠ g5) ?_ (fun J0 => ?_)
 ·rintro ⟨b6, a6, l6, c6, bq, aq, lq, cq, br, ar, lr, cr, g4, g5⟩ wj hI
  try dsimp only at hI ⊢
  obtain ⟨HW, hq, hr, B4, hg4, B5, hg5, hneg4g5⟩ := hI;have zH := zu HS _ HW;rw [zu HA];simp only [Act.put, aSet, aHead, aTail];obtain ⟨q1B4, q2B4, q3B4, q4B4⟩ := B4.zb;have hltB4 := B4.lt;obtain ⟨q1B5, q2B5, q3B5, q4B5⟩ := B5.zb;have hltB5 := B5.lt;refine tout 17 rfl fun K hK => ?_;go_simp;refine hK.out _ _ ?_;clear hK K
  try simp only [aSet, aHead, aTail]
  refine tout 18 rfl fun K hK => ?_;go_simp;refine hK.out _ _ ?_;clear hK K
  try simp only [aSet, aHead, aTail]
  refine tout 19 rfl fun K hK => ?_;go_simp;refine hK.out _ _ ?_;clear hK K
  try simp only [aSet, aHead, aTail]
  refine zdn (by kernel_rfl) ?_ _;have n4 := B4.noLimb;have n5 := (B5.other (g' := g4) (Ne.symm hneg4g5) bq aq lq cq).noLimb;obtain ⟨W1, hWe⟩ : ∃ W', W' = ((((wj.setCell ⟨g4, 0, none⟩ (.bool bq)).setCell ⟨g4, 1, none⟩ (.slice aq lq cq)).setCell ⟨g5, 0, none⟩ (.bool br)).setCell ⟨g5, 1, none⟩ (.slice ar lr cr)) := ⟨_, rfl⟩;rw [← hWe];replace B4 : Box W1 g4 bq aq lq cq := by rw [hWe]; exact (B4.put bq aq lq cq).other (g' := g5) hneg4g5 br ar lr cr
  rw [zu TN] at hq;replace hq : FK wj bq aq lq cq nx k := ⟨hq.1, zu HNK⟩;replace hq : FK W1 bq aq lq cq nx k := by rw [hWe]; exact (hq.put n4 bq aq lq cq).put n5 br ar lr cr
  have HC : Below w.heap.size w W1 := by rw [hWe]; exact below_put (below_put HW hg4 bq aq lq cq) hg5 br ar lr cr
  clear hWe HW zH n4 n5 B5 hr q1B4 q2B4 q3B4 q4B4 q1B5 q2B5 q3B5 q4B5 hltB4 hltB5 hx1 hbl hgl hgg E1 k1 hd;replace h := h.za HC;have hB4lt := B4.lt;have HB := zh (HC.mono (zu HBA));have hs1 := HC.size;clear HC;have hx0 : W1.cell? ⟨gb, 0, none⟩ = some (.slice (some ⟨gl, 0, none⟩) n cl) := h.box.zb.1;have hx2 : W1.cell? ⟨gb, 2, none⟩ = some (.slice (some ⟨gg, 0, none⟩) n cg) := h.box.zb.2.2.1;have hbl := h.box.lt;have hgl : gl < W1.heap.size := h.r.l.lt.2;have hgg : gg < W1.heap.size := h.r.g.lt.2;obtain ⟨lu, cu, hlu, _, x3, hu⟩ := (show GRows _ base gg n cg us U gs k n from h.r.g).at hin;obtain ⟨u, eu⟩ : ∃ u, u = U i := ⟨_, rfl⟩;rw [← eu] at x3 hu;have hli : lu = i := hlu.trans (zu HGLI);have hplu : p < lu := by omega
  have hplI : (p : Int) < (lu : Int) := by omega
  obtain ⟨be1, ae1, le1, ce1, E2, hb⟩ := hu.vf.at hplu;rw [Nat.zero_add] at E2;rw [← zu EBE] at hb;obtain ⟨f1, f2⟩ := E2.zb;have hul := E2.1;clear hli hlu hplu eu hu E2
  go_wp2_with fail
  obtain ⟨W2, hWe⟩ : ∃ W', W' = W1.alloc (.cells #[.bool be1, .slice ae1 le1 ce1] 45) := ⟨_, rfl⟩;obtain ⟨B7, hb9⟩ := boxes1 W1 be1 ae1 le1 ce1 hWe;rw [← hWe];clear hWe;replace h := h.za hb9;replace hq := hq.za hb9;replace hb := hb.za hb9;replace B4 := B4.za hb9;have hg47 : g4 ≠ W1.heap.size := by have := (show g4 < W1.heap.size from hB4lt); omega
  replace HB := zh ((zu HB).trans (hb9.mono (by have := zu HBA; omega)));clear hb9 f1 f2 hul x3 hx0 hx2 hbl hgl hgg;obtain ⟨g7, eg7⟩ : ∃ g7, g7 = W1.heap.size := ⟨_, rfl⟩;rw [← eg7] at B7 hg47 ⊢;have hg7 : w.heap.size ≤ g7 := by omega
  clear eg7;have HLEN1 : Hid (∀ t, t < n → (gs.getD t []).length = t) := HGL
  go_wp2_with fail
  go_loopw [8] (fun t wr => ∃ (kk : Nat) (gs1 : List (List Int)), i < kk ∧ kk ≤ n ∧ t = .int .i64 (kk : Int) ∧ BS wr base gb n ⟨gl, cl, gd, cd, gg, cg, vs, us, V, U⟩ ls ds gs1 k ∧ Box wr g4 bq aq lq cq ∧ FK wr bq aq lq cq nx k ∧ Box wr g7 be1 ae1 le1 ce1 ∧ FK wr be1 ae1 le1 ce1 be k ∧ (∀ t, t < n → (gs1.getD t []).length = t) ∧ (∀ t s, t < n → s < t → (gs1.getD t []).getD s 0 = if i < t ∧ t < kk then (if s = p then F t else if s = i then S t else (gs.getD t []).getD s 0) else (gs.getD t []).getD s 0) ∧ Below base w wr) (fun t _ => n - (intOf t).toNat)
  case atStart => exact ⟨i + 1, gs, by omega, by omega, by go_num, h, B4, hq, B7, hb, zu HGL, fun t s ht hs => by rw [if_neg (by omega)], zu HB⟩
  case round =>
   clear h B4 hq B7 hb HB HLEN1;obtain ⟨kk, gs1, hik, hkk, rfl, h, B4, hq, B7, hb, hlen, hent, hB⟩ := hrel;have HLEN := zh hlen;have HENT := zh hent;have HB := zh hB;clear hlen hent hB;have hx0 : wr.cell? ⟨gb, 0, none⟩ = some (.slice (some ⟨gl, 0, none⟩) n cl) := h.box.zb.1;have hx2 : wr.cell? ⟨gb, 2, none⟩ = some (.slice (some ⟨gg, 0, none⟩) n cg) := h.box.zb.2.2.1;have hbl := h.box.lt;have hgl : gl < wr.heap.size := h.r.l.lt.2;have hgg : gg < wr.heap.size := h.r.g.lt.2;by_cases hkn : kk < n
   ·have hkI : (kk : Int) < (n : Int) := by omega
    have hk0 : (0 : Int) ≤ (kk : Int) := by omega
    have hpk : (p : Int) < (kk : Int) := by omega
    have hik2 : (i : Int) < (kk : Int) := by omega
    have HLK := zh (zu HLEN kk hkn);have HGS1 := zh (show gs1.length = n from h.r.g.len);obtain ⟨lu, cu, hlu, _, x3, hu⟩ := (show GRows _ base gg n cg us U gs1 k n from h.r.g).at hkn;obtain ⟨u, eu⟩ : ∃ u, u = U kk := ⟨_, rfl⟩;rw [← eu] at x3 hu;have EU := zh eu;have hlk : kk = lu := (hlu.trans (zu HLK)).symm;subst hlk;have hug : u < w.heap.size := by rw [eu]; exact (zu HFR).U kk hkn
    have hS12 := zu HFS kk (by omega) hkn;have e1 : (gs1.getD kk []).getD p 0 = (gs.getD kk []).getD p 0 := by rw [zu HENT kk p hkn (by omega), if_neg (by omega)]
    have e2 : (gs1.getD kk []).getD i 0 = (gs.getD kk []).getD i 0 := by rw [zu HENT kk i hkn (by omega), if_neg (by omega)]
    have HS1 : Hid (ds.getD (p + 1) 0 * S kk = ds.getD (p + 2) 0 * (gs1.getD kk []).getD p 0 - be * (gs1.getD kk []).getD (p + 1) 0) := zh (by rw [← zu EI, e1, e2]; exact hS12.1);have HS2 : Hid (ds.getD (p + 2) 0 * F kk = nx * (gs1.getD kk []).getD (p + 1) 0 + be * S kk) := zh (by rw [← zu EI, e2]; exact hS12.2.1);have HS3 := zh hS12.2.2.1;have HS4 := zh hS12.2.2.2;clear hlu eu hS12 e1 e2
    go_upto_region 5 with fail
    have HW : Below wr.heap.size wr wr.drew := (Below.refl _ _).drew;have HS := zh fun w' (HW : Below wr.heap.size wr w') => con6 ((HW.cell (p := ⟨gb, 2, none⟩) hbl).trans hx2) ((HW.cell (p := ⟨gg, kk, none⟩) hgg).trans x3) (B4.za HW).zb.1 (B4.za HW).zb.2.1 (B7.za HW).zb.1 (B7.za HW).zb.2.1;refine zst HS HW 33 (by kernel_rfl) fun zH => ?_;refine ztl 0 rfl ?_;simp only [Act.put, aGet, aZero, aSet, aHead, aTail];refine ztl 1 rfl ?_;simp only [zP];refine ztl 2 rfl ?_;simp only [zP];refine ztl 3 rfl ?_;simp only [zP];refine ztl 4 rfl ?_;simp only [zP];refine ztl 5 rfl ?_;simp only [zP];refine ztl 6 rfl ?_;simp only [zP];refine ztl 7 rfl ?_;simp only [zP];refine ztl 8 rfl ?_;simp only [zP];refine ztl 9 rfl ?_;simp only [zP];refine ztl 10 rfl ?_;simp only [zP];refine ztl 11 rfl ?_;simp only [zP];refine ztl 12 rfl ?_;simp only [zP];refine ztl 13 rfl ?_;simp only [zP];refine ztl 14 rfl ?_;simp only [zP];refine ztl 15 rfl ?_;simp only [zP];refine ztl 17 rfl ?_;simp only [zP];refine ztl 18 rfl ?_;simp only [zP];refine ztl 19 rfl ?_;simp only [zP];refine ztl 20 rfl ?_;simp only [zP];refine ztl 21 rfl ?_;simp only [zP];refine ztl 22 rfl ?_;simp only [zP];refine ztl 23 rfl ?_;simp only [zP];refine ztl 24 rfl ?_;simp only [zP];refine ztl 25 rfl ?_;simp only [zP];refine ztl 26 rfl ?_;simp only [zP];refine ztl 27 rfl ?_;simp only [zP];refine till_fr (i := 16) (v := ?_) rfl (Or.inl ⟨by rfl, ?_⟩) ?_
    rotate_left
    ·(intro w hSw; (try dsimp only at hSw); go_simp; try with_reducible rfl)
    simp only [zP];refine tin 28 rfl fun K hK => ?_;go_simp;have hturn := lturnK base gb n _ ls ds gs1 k u 0 kk cu (gs1.getD kk []) p bq aq lq cq nx be1 ae1 le1 ce1 be (S kk) (F kk) wr.drew (h.za HW) ((hu.za HW).vf.vk (by omega)) (hq.za HW) (hb.za HW) (by omega) hn (zu HP1) (by omega) (zu HD1) (zu HD2) (zu HS1) (zu HS2) (zu HS4) (zu HS3);rw [← zu EI] at hturn;refine hturn.mono ?_;rintro e w9 ⟨b7, a7, l7, c7, b8, a8, l8, c8, rfl, hF, hS, hb9⟩;replace HW := Below.step HW hb9;clear hb9 hturn;refine hK.out _ _ ?_ (fun zH => ?_)
    ·exact zu HS _ HW
    clear hK K
    try simp only [zP]
    refine ztl 29 rfl ?_;simp only [zP];refine ztl 30 rfl ?_;simp only [zP];refine ztl 32 rfl ?_;simp only [zP];refine till_fr (i := 31) (v := ?_) rfl (Or.inl ⟨by rfl, ?_⟩) ?_
    rotate_left
    ·(intro w hSw; (try dsimp only at hSw); go_simp; try with_reducible rfl)
    simp only [zP];obtain ⟨_, _, _, _, E5, _⟩ := (hu.za HW).vf.at (show p < kk by omega);rw [Nat.zero_add] at E5;obtain ⟨q1, q2⟩ := E5.zb;have q3 := (hu.za HW).free (p * 2);have q4 := (hu.za HW).free (p * 2 + 1);have hlu := E5.1;refine tout 33 rfl fun K hK => ?_;go_simp;refine hK.out _ _ ?_;clear hK K
    try simp only [zP]
    refine tout 34 rfl fun K hK => ?_;go_simp;refine hK.out _ _ ?_;clear hK K
    try simp only [zP]
    have hh1 : BS ((w9.setCell ⟨(U kk), p * 2, none⟩ (.bool b7)).setCell ⟨(U kk), p * 2 + 1, none⟩ (.slice a7 l7 c7)) base gb n ⟨gl, cl, gd, cd, gg, cg, vs, us, V, U⟩ ls ds _ k := (h.za HW).setG (i := kk) (j := p) hkn (by rw [zu HLK]; omega) hF;rw [← zu EU] at hh1;obtain ⟨lu1, cu1, hlu1, _, _, hu1⟩ := (show GRows _ base gg n cg us U _ k n from hh1.r.g).at hkn;rw [← zu EU] at hu1;have hlk1 : i < lu1 := by rw [hlu1, set2_len (by rw [zu HGS1]; exact hkn), zu HLK]; omega
    obtain ⟨_, _, _, _, E6, _⟩ := hu1.vf.at hlk1;rw [Nat.zero_add] at E6;obtain ⟨r1, r2⟩ := E6.zb;have r3 := hu1.free (i * 2);have r4 := hu1.free (i * 2 + 1);have hlv := E6.1;clear hlu1 hlk1 E6 hu1 hh1 q1 q2 q3 q4;refine tout 35 rfl fun K hK => ?_;go_simp;refine hK.out _ _ ?_;clear hK K
    try simp only [zP]
    refine zdn (by kernel_rfl) ?_ _;clear zH r1 r2 r3 r4 hlu hlv hx0 hx2 hbl hgl hgg x3;have h9 := h.za HW;have hnu : NoLimb w9 u := (hu.za HW).noLimb;have hgr1 := grown_set2 w9 u (p * 2) (p * 2 + 1) (.bool b7) (.slice a7 l7 c7);have h1 : BS ((w9.setCell ⟨(U kk), p * 2, none⟩ (.bool b7)).setCell ⟨(U kk), p * 2 + 1, none⟩ (.slice a7 l7 c7)) base gb n ⟨gl, cl, gd, cd, gg, cg, vs, us, V, U⟩ ls ds _ k := h9.setG (i := kk) (j := p) hkn (by rw [zu HLK]; omega) hF;rw [← zu EU] at h1;have hS1 := hS.grown hgr1 (noLimb_some hnu);have h2 : BS ((((w9.setCell ⟨u, p * 2, none⟩ (.bool b7)).setCell ⟨u, p * 2 + 1, none⟩ (.slice a7 l7 c7)).setCell ⟨(U kk), i * 2, none⟩ (.bool b8)).setCell ⟨(U kk), i * 2 + 1, none⟩ (.slice a8 l8 c8)) base gb n ⟨gl, cl, gd, cd, gg, cg, vs, us, V, U⟩ ls ds _ k := h1.setG (i := kk) (j := i) hkn (by rw [set2_len (by rw [zu HGS1]; exact hkn), zu HLK]; omega) hS1;rw [← zu EU] at h2;have hnu2 : NoLimb ((w9.setCell ⟨u, p * 2, none⟩ (.bool b7)).setCell ⟨u, p * 2 + 1, none⟩ (.slice a7 l7 c7)) u := by
     obtain ⟨_, _, _, _, _, ho⟩ := (show GRows _ base gg n cg us U _ k n from h1.r.g).at hkn;rw [← zu EU] at ho;exact ho.noLimb
    have hgr2 := grown_set2 ((w9.setCell ⟨u, p * 2, none⟩ (.bool b7)).setCell ⟨u, p * 2 + 1, none⟩ (.slice a7 l7 c7)) u (i * 2) (i * 2 + 1) (.bool b8) (.slice a8 l8 c8);have hgr := hgr1.trans hgr2;have B42 := (B4.za HW).grown hgr (some_ne (show u ≠ g4 by omega));have B72 := (B7.za HW).grown hgr (some_ne (show u ≠ g7 by omega));have hq2 := (hq.za HW).grown hgr (noLimb_some hnu);have hb2 := (hb.za HW).grown hgr (noLimb_some hnu);have hub := hu.base_le.1;have HB2 := zh ((((((zu HB).trans (HW.mono (by have := (zu HB).size; have := zu HBA; omega))).setCell (p := ⟨u, p * 2, none⟩) hub (.bool b7)).setCell (p := ⟨u, p * 2 + 1, none⟩) hub (.slice a7 l7 c7)).setCell (p := ⟨u, i * 2, none⟩) hub (.bool b8)).setCell (p := ⟨u, i * 2 + 1, none⟩) hub (.slice a8 l8 c8));have HGS3 := zh (show ((gs1.set kk ((gs1.getD kk []).set p (F kk)))).length = n by rw [List.length_set]; exact zu HGS1);clear h h1 h9 hgr1 hgr2 hgr hS hS1 hF hnu hnu2 B4 B7 hq hb hu HB HW;obtain ⟨wz, ewz⟩ : ∃ wz, wz = ((((w9.setCell ⟨u, p * 2, none⟩ (.bool b7)).setCell ⟨u, p * 2 + 1, none⟩ (.slice a7 l7 c7)).setCell ⟨u, i * 2, none⟩ (.bool b8)).setCell ⟨u, i * 2 + 1, none⟩ (.slice a8 l8 c8)) := ⟨_, rfl⟩;rw [← ewz] at h2 B42 B72 hq2 hb2 HB2 ⊢;clear ewz;go_wp2;go_roundw
    case rel =>
     have hkl : kk < gs1.length := by rw [zu HGS1]; exact hkn
     have hkl3 : kk < (gs1.set kk ((gs1.getD kk []).set p (F kk))).length := by rw [zu HGS3]; exact hkn
     refine ⟨kk + 1, _, by omega, by omega, by go_num, h2, B42, hq2, B72, hb2, fun t ht => by rw [set2_len hkl3, set2_len hkl]; exact zu HLEN t ht, fun t s ht hs => ?_, zu HB2⟩;rw [set2_at hkl3 (by rw [set2_len hkl, zu HLK]; omega), set2_at hkl (by rw [zu HLK]; omega), zu HENT t s ht hs];by_cases c : t = kk
     ·subst c;rw [if_pos (show i < t ∧ t < t + 1 by omega)];by_cases c1 : s = p
      ·rw [if_neg (by omega), if_pos ⟨rfl, c1⟩, if_pos c1]
      ·by_cases c2 : s = i
       ·rw [if_pos ⟨rfl, c2⟩, if_neg c1, if_pos c2]
       ·rw [if_neg (by omega), if_neg (by omega), if_neg (by omega), if_neg c1, if_neg c2]
     ·rw [if_neg (by omega), if_neg (by omega)];by_cases c1 : i < t ∧ t < kk
      ·rw [if_pos c1, if_pos (show i < t ∧ t < kk + 1 by omega)]
      ·rw [if_neg c1, if_neg (show ¬ (i < t ∧ t < kk + 1) by omega)]
    case measure => simp [intOf]; omega
   ·have hkn2 : kk = n := by omega
    subst hkn2;have hkk' : ¬ (kk : Int) < (kk : Int) := by omega
    have HENT1 : Hid (∀ t s, t < kk → s < t → (gs1.getD t []).getD s 0 = if i < t then (if s = p then F t else if s = i then S t else (gs.getD t []).getD s 0) else (gs.getD t []).getD s 0) := zh fun t s ht hs => by
     rw [zu HENT t s ht hs];by_cases c : i < t
     ·rw [if_pos ⟨c, ht⟩, if_pos c]
     ·rw [if_neg (by omega), if_neg c]
    clear HENT B7 hb;obtain ⟨wq, ewq⟩ : ∃ wq, wq = wr := ⟨_, rfl⟩;rw [← ewq] at h B4 hq HB hx0 hbl hgl hgg hx2 ⊢;clear ewq
    go_wp2_with fail
    clear hx0 hx2 hbl hgl hgg;go_loopw [83] (fun t wr => ∃ (j : Nat) (gs2 : List (List Int)), j ≤ p ∧ t = .int .i64 (j : Int) ∧ BS wr base gb kk ⟨gl, cl, gd, cd, gg, cg, vs, us, V, U⟩ ls ds gs2 k ∧ Box wr g4 bq aq lq cq ∧ FK wr bq aq lq cq nx k ∧ (∀ t, t < kk → (gs2.getD t []).length = t) ∧ (∀ t s, t < kk → s < t → (gs2.getD t []).getD s 0 = if s < j ∧ t = p then (gs1.getD i []).getD s 0 else if s < j ∧ t = i then (gs1.getD p []).getD s 0 else (gs1.getD t []).getD s 0) ∧ Below base w wr) (fun t _ => p - (intOf t).toNat)
    case atStart => exact ⟨0, gs1, Nat.zero_le _, by go_num, h, B4, hq, zu HLEN, fun t s ht hs => by rw [if_neg (by omega), if_neg (by omega)], zu HB⟩
    case round =>
     clear h B4 hq HB;obtain ⟨j, gs2, hjp, rfl, h, B4, hq, hlen, hent, hB⟩ := hrel;have HLEN2 := zh hlen;have HENT := zh hent;have HB := zh hB;clear hlen hent hB;by_cases hjn : j < p
     ·have hjI : (j : Int) < (p : Int) := by omega
      have hjI2 : (j : Int) < (i : Int) := by omega
      have hj0 : (0 : Int) ≤ (j : Int) := by omega
      have HLP := zh (zu HLEN2 p hpn);have HLI := zh (zu HLEN2 i hin);have HGS2 := zh (show gs2.length = kk from h.r.g.len);have hx2 : wr.cell? ⟨gb, 2, none⟩ = some (.slice (some ⟨gg, 0, none⟩) kk cg) := h.box.zb.2.2.1;have hbl := h.box.lt;have hgl : gl < wr.heap.size := h.r.l.lt.2;have hgg : gg < wr.heap.size := h.r.g.lt.2;obtain ⟨lp, cp, hlp, _, xp, hup⟩ := (show GRows _ base gg kk cg us U gs2 k kk from h.r.g).at hpn;obtain ⟨li, ci, hli, _, xi, hui⟩ := (show GRows _ base gg kk cg us U gs2 k kk from h.r.g).at hin;obtain ⟨up, eup⟩ : ∃ u, u = U p := ⟨_, rfl⟩;obtain ⟨ui, eui⟩ : ∃ u, u = U i := ⟨_, rfl⟩;rw [← eup] at xp hup;rw [← eui] at xi hui;have EUP := zh eup;have EUI := zh eui;have hlp2 : p = lp := (hlp.trans (zu HLP)).symm;have hli2 : i = li := (hli.trans (zu HLI)).symm;subst hlp2;subst hli2;have hupw : up < w.heap.size := by rw [eup]; exact (zu HFR).U p hpn
      have huiw : ui < w.heap.size := by rw [eui]; exact (zu HFR).U i hin
      clear hlp hli eup eui;obtain ⟨b2, a2, l2, c2, EA, yA⟩ := hup.vf.at hjn;obtain ⟨b3, a3, l3, c3, EB, yB⟩ := hui.vf.at (show j < i by omega);rw [Nat.zero_add] at EA EB
      go_upto_region 9 with fail
      have HW : Below wr.heap.size wr wr.drew := (Below.refl _ _).drew;have HS := zh fun w' (HW : Below wr.heap.size wr w') => con7 ((HW.cell (p := ⟨gb, 2, none⟩) hbl).trans hx2) ((HW.cell (p := ⟨gg, p, none⟩) hgg).trans xp) ((HW.cell (p := ⟨gg, i, none⟩) hgg).trans xi) (EA.za HW).zb.1 (EA.za HW).zb.2 (EB.za HW).zb.1 (EB.za HW).zb.2;refine zst HS HW 39 (by kernel_rfl) fun zH => ?_;refine ztl 0 rfl ?_;simp only [Act.put, aGet, aZero, aSet, aHead, aTail];refine ztl 1 rfl ?_;simp only [zP];refine ztl 2 rfl ?_;simp only [zP];refine ztl 3 rfl ?_;simp only [zP];refine ztl 4 rfl ?_;simp only [zP];refine ztl 5 rfl ?_;simp only [zP];refine ztl 6 rfl ?_;simp only [zP];refine ztl 7 rfl ?_;simp only [zP];refine ztl 8 rfl ?_;simp only [zP];refine ztl 9 rfl ?_;simp only [zP];refine ztl 10 rfl ?_;simp only [zP];refine ztl 11 rfl ?_;simp only [zP];refine ztl 12 rfl ?_;simp only [zP];refine ztl 13 rfl ?_;simp only [zP];refine ztl 14 rfl ?_;simp only [zP];refine ztl 15 rfl ?_;simp only [zP];refine ztl 17 rfl ?_;simp only [zP];refine ztl 18 rfl ?_;simp only [zP];refine ztl 19 rfl ?_;simp only [zP];refine ztl 20 rfl ?_;simp only [zP];refine ztl 21 rfl ?_;simp only [zP];refine ztl 22 rfl ?_;simp only [zP];refine ztl 23 rfl ?_;simp only [zP];refine ztl 24 rfl ?_;simp only [zP];refine ztl 25 rfl ?_;simp only [zP];refine ztl 26 rfl ?_;simp only [zP];refine ztl 27 rfl ?_;simp only [zP];refine ztl 28 rfl ?_;simp only [zP];refine ztl 29 rfl ?_;simp only [zP];refine ztl 30 rfl ?_;simp only [zP];refine ztl 31 rfl ?_;simp only [zP];refine ztl 32 rfl ?_;simp only [zP];refine ztl 33 rfl ?_;simp only [zP];refine ztl 34 rfl ?_;simp only [zP];refine ztl 35 rfl ?_;simp only [zP];refine ztl 36 rfl ?_;simp only [zP];refine ztl 37 rfl ?_;simp only [zP];refine ztl 38 rfl ?_;simp only [zP];refine till_fr (i := 16) (v := ?_) rfl (Or.inl ⟨by rfl, ?_⟩) ?_
      rotate_left
      ·(intro w hSw; (try dsimp only at hSw); go_simp; try with_reducible rfl)
      simp only [zP];obtain ⟨q1, q2⟩ := EA.zb;have q3 := hup.free (j * 2);have q4 := hup.free (j * 2 + 1);have hlu := EA.1;refine tout 39 rfl fun K hK => ?_;go_simp;refine hK.out _ _ ?_;clear hK K
      try simp only [zP]
      refine tout 40 rfl fun K hK => ?_;go_simp;refine hK.out _ _ ?_;clear hK K
      try simp only [zP]
      have hh1 : BS ((wr.setCell ⟨(U p), j * 2, none⟩ (.bool b3)).setCell ⟨(U p), j * 2 + 1, none⟩ (.slice a3 l3 c3)) base gb kk ⟨gl, cl, gd, cd, gg, cg, vs, us, V, U⟩ ls ds _ k := h.setG (i := p) (j := j) hpn (by rw [zu HLP]; omega) yB;rw [← zu EUP] at hh1;obtain ⟨lu1, cu1, hlu1, _, _, hu1⟩ := (show GRows _ base gg kk cg us U _ k kk from hh1.r.g).at hin;rw [← zu EUI] at hu1;have hlk1 : j < lu1 := by rw [hlu1, set2_len (by rw [zu HGS2]; exact hpn), zu HLI]; omega
      obtain ⟨_, _, _, _, E6, _⟩ := hu1.vf.at hlk1;rw [Nat.zero_add] at E6;obtain ⟨r1, r2⟩ := E6.zb;have r3 := hu1.free (j * 2);have r4 := hu1.free (j * 2 + 1);have hlv := E6.1;clear hlu1 hlk1 E6 hu1 hh1 q1 q2 q3 q4;refine tout 41 rfl fun K hK => ?_;go_simp;refine hK.out _ _ ?_;clear hK K
      try simp only [zP]
      refine zdn (by kernel_rfl) ?_ _;clear zH r1 r2 r3 r4 hlu hlv hx2 hbl hgl hgg xp xi EA EB HW;have hnp : NoLimb wr up := hup.noLimb;have hgr1 := grown_set2 wr up (j * 2) (j * 2 + 1) (.bool b3) (.slice a3 l3 c3);have h1 : BS ((wr.setCell ⟨(U p), j * 2, none⟩ (.bool b3)).setCell ⟨(U p), j * 2 + 1, none⟩ (.slice a3 l3 c3)) base gb kk ⟨gl, cl, gd, cd, gg, cg, vs, us, V, U⟩ ls ds _ k := h.setG (i := p) (j := j) hpn (by rw [zu HLP]; omega) yB;rw [← zu EUP] at h1;have yA1 := yA.grown hgr1 (noLimb_some hnp);have h2 : BS ((((wr.setCell ⟨up, j * 2, none⟩ (.bool b3)).setCell ⟨up, j * 2 + 1, none⟩ (.slice a3 l3 c3)).setCell ⟨(U i), j * 2, none⟩ (.bool b2)).setCell ⟨(U i), j * 2 + 1, none⟩ (.slice a2 l2 c2)) base gb kk ⟨gl, cl, gd, cd, gg, cg, vs, us, V, U⟩ ls ds _ k := h1.setG (i := i) (j := j) hin (by rw [set2_len (by rw [zu HGS2]; exact hpn), zu HLI]; omega) yA1;rw [← zu EUI] at h2;have hni : NoLimb ((wr.setCell ⟨up, j * 2, none⟩ (.bool b3)).setCell ⟨up, j * 2 + 1, none⟩ (.slice a3 l3 c3)) ui := by
       obtain ⟨_, _, _, _, _, ho⟩ := (show GRows _ base gg kk cg us U _ k kk from h1.r.g).at hin;rw [← zu EUI] at ho;exact ho.noLimb
      have hgr2 := grown_set2 ((wr.setCell ⟨up, j * 2, none⟩ (.bool b3)).setCell ⟨up, j * 2 + 1, none⟩ (.slice a3 l3 c3)) ui (j * 2) (j * 2 + 1) (.bool b2) (.slice a2 l2 c2);have B42 := (B4.grown hgr1 (some_ne (show up ≠ g4 by omega))).grown hgr2 (some_ne (show ui ≠ g4 by omega));have hq2 := (hq.grown hgr1 (noLimb_some hnp)).grown hgr2 (noLimb_some hni);have hpb := hup.base_le.1;have hib := hui.base_le.1;have HB2 := zh (((((zu HB).setCell (p := ⟨up, j * 2, none⟩) hpb (.bool b3)).setCell (p := ⟨up, j * 2 + 1, none⟩) hpb (.slice a3 l3 c3)).setCell (p := ⟨ui, j * 2, none⟩) hib (.bool b2)).setCell (p := ⟨ui, j * 2 + 1, none⟩) hib (.slice a2 l2 c2));have HGS3 := zh (show ((gs2.set p ((gs2.getD p []).set j ((gs2.getD i []).getD j 0)))).length = kk by rw [List.length_set]; exact zu HGS2);clear h h1 hgr1 hgr2 yA yB yA1 hnp hni B4 hq hup hui HB;obtain ⟨wz, ewz⟩ : ∃ wz, wz = ((((wr.setCell ⟨up, j * 2, none⟩ (.bool b3)).setCell ⟨up, j * 2 + 1, none⟩ (.slice a3 l3 c3)).setCell ⟨ui, j * 2, none⟩ (.bool b2)).setCell ⟨ui, j * 2 + 1, none⟩ (.slice a2 l2 c2)) := ⟨_, rfl⟩;rw [← ewz] at h2 B42 hq2 HB2 ⊢;clear ewz;have HD : Below wz.heap.size wz wz.drew := (Below.refl _ _).drew;replace h2 := h2.za HD;replace B42 := B42.za HD;replace hq2 := hq2.za HD;replace HB2 := zh ((zu HB2).trans (HD.mono (by have := (zu HB2).size; have := zu HBA; omega)));clear HD;go_wp2;go_roundw
      case rel =>
       have hkl : p < gs2.length := by rw [zu HGS2]; exact hpn
       have hkl3 : i < (gs2.set p ((gs2.getD p []).set j ((gs2.getD i []).getD j 0))).length := by rw [zu HGS3]; exact hin
       refine ⟨j + 1, _, by omega, by go_num, h2, B42, hq2, fun t ht => by rw [set2_len hkl3, set2_len hkl]; exact zu HLEN2 t ht, fun t s ht hs => ?_, zu HB2⟩;rw [set2_at hkl3 (by rw [set2_len hkl, zu HLI]; omega), set2_at hkl (by rw [zu HLP]; omega)];by_cases c : s = j
       ·subst c;have e1 : (gs2.getD i []).getD s 0 = (gs1.getD i []).getD s 0 := by rw [zu HENT i s hin (by omega), if_neg (by omega), if_neg (by omega)]
        have e2 : (gs2.getD p []).getD s 0 = (gs1.getD p []).getD s 0 := by rw [zu HENT p s hpn hjn, if_neg (by omega), if_neg (by omega)]
        by_cases c1 : t = p
        ·subst c1;rw [if_neg (by omega), if_pos ⟨rfl, rfl⟩, if_pos (by omega), e1]
        ·by_cases c2 : t = i
         ·subst c2;rw [if_pos ⟨rfl, rfl⟩, if_neg (by omega), if_pos (by omega), e2]
         ·rw [if_neg (by omega), if_neg (by omega), if_neg (by omega), if_neg (by omega), zu HENT t s ht hs, if_neg (by omega), if_neg (by omega)]
       ·rw [if_neg (by omega), if_neg (by omega), zu HENT t s ht hs];by_cases c1 : s < j ∧ t = p
        ·rw [if_pos c1, if_pos (by omega)]
        ·rw [if_neg c1, if_neg (show ¬ (s < j + 1 ∧ t = p) by omega)];by_cases c2 : s < j ∧ t = i
         ·rw [if_pos c2, if_pos (show s < j + 1 ∧ t = i by omega)]
         ·rw [if_neg c2, if_neg (show ¬ (s < j + 1 ∧ t = i) by omega)]
      case measure => simp [intOf]; omega
     ·have hjp2 : j = p := by omega
      subst hjp2;have hjj : ¬ (j : Int) < (j : Int) := by omega
      have HFIN : Hid (∀ t s, t < kk → s < t → (gs2.getD t []).getD s 0 = if j + 1 < t then (if s = j then F t else if s = j + 1 then S t else (gs.getD t []).getD s 0) else if t = j then (gs.getD (j + 1) []).getD s 0 else if t = j + 1 then (if s = j then (gs.getD (j + 1) []).getD j 0 else (gs.getD j []).getD s 0) else (gs.getD t []).getD s 0) := zh fun t s ht hs => by
       rw [zu HENT t s ht hs, ← zu EI];by_cases c1 : t = j
       ·subst c1;rw [if_pos ⟨hs, rfl⟩, if_neg (by omega), if_pos rfl, zu HENT1 i s hin (by omega), if_neg (by omega)]
       ·by_cases c2 : t = i
        ·subst c2;by_cases c3 : s = j
         ·rw [if_neg (by omega), if_neg (by omega), if_neg (by omega), if_neg c1, if_pos rfl, if_pos c3, zu HENT1 t s ht hs, if_neg (by omega), c3]
         ·rw [if_neg (by omega), if_pos (by omega), if_neg (by omega), if_neg c1, if_pos rfl, if_neg c3, zu HENT1 j s hpn (by omega), if_neg (by omega)]
        ·rw [if_neg (by omega), if_neg (by omega), zu HENT1 t s ht hs];by_cases c3 : i < t
         ·rw [if_pos c3, if_pos c3]
         ·rw [if_neg c3, if_neg c3, if_neg c1, if_neg c2]
      clear HENT HENT1;obtain ⟨W8, eW8⟩ : ∃ W8, W8 = wr := ⟨_, rfl⟩;rw [← eW8] at h B4 hq HB ⊢;clear eW8;have hx0 : W8.cell? ⟨gb, 0, none⟩ = some (.slice (some ⟨gl, 0, none⟩) kk cl) := h.box.zb.1;have hbl := h.box.lt;have hgl : gl < W8.heap.size := h.r.l.lt.2;have hgg : gg < W8.heap.size := h.r.g.lt.2;obtain ⟨lp, cp, hlp, evp, xp, hvp⟩ := (show GRows _ base gl kk cl vs V ls k kk from h.r.l).at hpn;obtain ⟨li, ci, hli, evi, xi, hvi⟩ := (show GRows _ base gl kk cl vs V ls k kk from h.r.l).at hin;have hsw := h.swapL (l := lp) (c := cp) (l' := li) (c' := ci) hpn hin (show j ≠ i by omega) evp evi;obtain ⟨vp, evp2⟩ : ∃ u, u = V j := ⟨_, rfl⟩;obtain ⟨vi, evi2⟩ : ∃ u, u = V i := ⟨_, rfl⟩;have EVI : Hid (vs[i]? = some (some ⟨vi, 0, none⟩, li, ci)) := zh (by rw [evi2]; exact evi);have hsw2 : ∃ D2 : BD, BS ((W8.setCell ⟨gl, j, none⟩ (.slice (some ⟨vi, 0, none⟩) li ci)).setCell ⟨gl, i, none⟩ (.slice (some ⟨vp, 0, none⟩) lp cp)) base gb kk D2 (swapL ls j i) ds gs2 k ∧ D2.gd = gd ∧ D2.cd = cd := by
       rw [evp2, evi2]; exact ⟨_, hsw, rfl, rfl⟩
      rw [← evp2] at xp;rw [← evi2] at xi;have HSW := zh hsw2;clear hsw hsw2 evp evi hvp hvi hlp hli evp2 evi2
      go_upto_region 11 with fail
      have HW : Below W8.heap.size W8 W8.drew := (Below.refl _ _).drew;have HS := zh fun w' (HW : Below W8.heap.size W8 w') => con3 ((HW.cell (p := ⟨gb, 0, none⟩) hbl).trans hx0) ((HW.cell (p := ⟨gl, j, none⟩) hgl).trans xp) ((HW.cell (p := ⟨gl, i, none⟩) hgl).trans xi);refine zst HS HW 27 (by kernel_rfl) fun zH => ?_;refine ztl 0 rfl ?_;simp only [Act.put, aGet, aZero, aSet, aHead, aTail];refine ztl 1 rfl ?_;simp only [zP];refine ztl 2 rfl ?_;simp only [zP];refine ztl 3 rfl ?_;simp only [zP];refine ztl 4 rfl ?_;simp only [zP];refine ztl 5 rfl ?_;simp only [zP];refine ztl 6 rfl ?_;simp only [zP];refine ztl 7 rfl ?_;simp only [zP];refine ztl 8 rfl ?_;simp only [zP];refine ztl 9 rfl ?_;simp only [zP];refine ztl 11 rfl ?_;simp only [zP];refine ztl 12 rfl ?_;simp only [zP];refine ztl 13 rfl ?_;simp only [zP];refine ztl 14 rfl ?_;simp only [zP];refine ztl 15 rfl ?_;simp only [zP];refine ztl 16 rfl ?_;simp only [zP];refine ztl 17 rfl ?_;simp only [zP];refine ztl 18 rfl ?_;simp only [zP];refine ztl 19 rfl ?_;simp only [zP];refine ztl 20 rfl ?_;simp only [zP];refine ztl 21 rfl ?_;simp only [zP];refine ztl 22 rfl ?_;simp only [zP];refine ztl 23 rfl ?_;simp only [zP];refine ztl 24 rfl ?_;simp only [zP];refine ztl 25 rfl ?_;simp only [zP];refine ztl 26 rfl ?_;simp only [zP];refine till_fr (i := 10) (v := ?_) rfl (Or.inl ⟨by rfl, ?_⟩) ?_
      rotate_left
      ·(intro w hSw; (try dsimp only at hSw); go_simp; try with_reducible rfl)
      simp only [zP];have q1 := xp;have q2 : W8.frozen? ⟨gl, j, none⟩ = false := h.r.l.own.free j;refine tout 27 rfl fun K hK => ?_;go_simp;refine hK.out _ _ ?_;clear hK K
      try simp only [zP]
      refine tout 28 rfl fun K hK => ?_;go_simp;refine hK.out _ _ ?_;clear hK K
      try simp only [zP]
      have r1 : (W8.setCell ⟨gl, j, none⟩ (.slice (some ⟨vi, 0, none⟩) li ci)).cell? ⟨gl, i, none⟩ = some (.slice (some ⟨vi, 0, none⟩) li ci) := by show (W8.setCell ⟨gl, j, none⟩ (sv (some ⟨vi, 0, none⟩, li, ci))).cell? ⟨gl, i, none⟩ = _; rw [(((show GRows _ base gl kk cl vs V ls k kk from h.r.l).own.set j ⟨(some ⟨vi, 0, none⟩, li, ci), rfl⟩).cell (j := i) (by omega)), List.getElem?_set_ne (by omega), List.getElem?_map, zu EVI]; rfl
      have r2 := ((show GRows _ base gl kk cl vs V ls k kk from h.r.l).own.set j ⟨(some ⟨vi, 0, none⟩, li, ci), rfl⟩).free i;have r3 : W8.frozen? ⟨gl, i, none⟩ = false := h.r.l.own.free i;clear q1 q2;refine tout 29 rfl fun K hK => ?_;go_simp;refine hK.out _ _ ?_;clear hK K
      try simp only [zP]
      refine zdn (by kernel_rfl) ?_ _;clear zH r1 r2 r3 hx0 hbl hgg xp xi HW;have hnl := h.r.l.noLimb;have hglb := h.r.l.lt.1;have hgrl := grown_set2 W8 gl j i (.slice (some ⟨vi, 0, none⟩) li ci) (.slice (some ⟨vp, 0, none⟩) lp cp);have hglw : gl < w.heap.size := (zu HFR).gl;have B42 := B4.grown hgrl (some_ne (show gl ≠ g4 by omega));have hq2 := hq.grown hgrl (noLimb_some hnl);have HB2 := zh (((zu HB).setCell (p := ⟨gl, j, none⟩) hglb (.slice (some ⟨vi, 0, none⟩) li ci)).setCell (p := ⟨gl, i, none⟩) hglb (.slice (some ⟨vp, 0, none⟩) lp cp));obtain ⟨D2, h2, ed1, ed2⟩ := zu HSW;clear h hnl hgrl B4 hq HB HSW EVI hgl;obtain ⟨wz, ewz⟩ : ∃ wz, wz = (W8.setCell ⟨gl, j, none⟩ (.slice (some ⟨vi, 0, none⟩) li ci)).setCell ⟨gl, i, none⟩ (.slice (some ⟨vp, 0, none⟩) lp cp) := ⟨_, rfl⟩;rw [← ewz] at h2 B42 hq2 HB2 ⊢;clear ewz;have HD : Below wz.heap.size wz wz.drew := (Below.refl _ _).drew;have h := h2.za HD;have B4 := B42.za HD;have hq := hq2.za HD;have HB := zh ((zu HB2).trans (HD.mono (by have := (zu HB2).size; have := zu HBA; omega)));clear HD h2 B42 hq2 HB2;obtain ⟨W9, eW9⟩ : ∃ W9, W9 = wz.drew := ⟨_, rfl⟩;rw [← eW9] at h B4 hq HB ⊢;clear eW9;rcases D2 with ⟨gl2, cl2, gd2, cd2, gg2, cg2, vs2, us2, V2, U2⟩;dsimp only at ed1 ed2;subst ed1 ed2;have hx1 : W9.cell? ⟨gb, 1, none⟩ = some (.slice (some ⟨gd2, 0, none⟩) nd cd2) := by rw [zu HND]; exact h.box.zb.2.1
      have hbl := h.box.lt;have hd : OwnV W9 base (some ⟨gd2, 0, none⟩) nd cd2 ds k := by rw [zu HND]; exact h.r.d
      go_upto_region 12 with fail
      have HW : Below W9.heap.size W9 W9.drew := (Below.refl _ _).drew;have HS := zh fun w' (HW : Below W9.heap.size W9 w') => con3 ((HW.cell (p := ⟨gb, 1, none⟩) hbl).trans hx1) (B4.za HW).zb.1 (B4.za HW).zb.2.1;refine zst HS HW 7 (by kernel_rfl) fun zH => ?_;refine ztl 0 rfl ?_;simp only [Act.put, aGet, aZero, aSet, aHead, aTail];refine ztl 1 rfl ?_;simp only [zP];refine ztl 2 rfl ?_;simp only [zP];refine ztl 3 rfl ?_;simp only [zP];refine ztl 4 rfl ?_;simp only [zP];refine ztl 5 rfl ?_;simp only [zP];refine ztl 6 rfl ?_;simp only [zP];obtain ⟨_, _, _, _, E5, _⟩ := hd.vf.at hid;rw [Nat.zero_add] at E5;obtain ⟨q1, q2⟩ := E5.zb;have q3 := hd.free (i * 2);have q4 := hd.free (i * 2 + 1);have hlu := E5.1;refine tout 7 rfl fun K hK => ?_;go_simp;refine hK.out _ _ ?_;clear hK K
      try simp only [zP]
      refine zdn (by kernel_rfl) ?_ _;clear zH q1 q2 q3 q4 hlu hx1 hbl HW;have h2 := h.setD (i := i) (by have := zu HND; omega) hq;have hgdb := hd.base_le.1;have HB2 := zh (((zu HB).setCell (p := ⟨gd2, i * 2, none⟩) hgdb (.bool bq)).setCell (p := ⟨gd2, i * 2 + 1, none⟩) hgdb (.slice aq lq cq));clear h hd B4 hq HB;obtain ⟨wy, ewy⟩ : ∃ wy, wy = (W9.setCell ⟨gd2, i * 2, none⟩ (.bool bq)).setCell ⟨gd2, i * 2 + 1, none⟩ (.slice aq lq cq) := ⟨_, rfl⟩;have h3 : BS wy base gb kk ⟨gl2, cl2, gd2, cd2, gg2, cg2, vs2, us2, V2, U2⟩ (swapL ls j i) (ds.set i nx) gs2 k := by rw [ewy]; exact h2
      rw [← ewy] at HB2 ⊢;clear ewy h2;have HD : Below wy.heap.size wy wy.drew := (Below.refl _ _).drew;have h4 := h3.za HD;have HB4 := zh ((zu HB2).trans (HD.mono (by have := (zu HB2).size; have := zu HBA; omega)));clear HD h3 HB2;go_wp2
      first
       | go_end0
       | refine bodyPost_ret (results_none rfl _ _ _) rfl ?_
      exact ⟨_, gs2, rfl, by rw [← zu EI]; exact h4, zu HLEN2, zu HFIN, zu HB4⟩
 refine zmd 4 #[tT, tT, tT, tT, tT, tT, tT, tT, tT, tT, tT, tT, tT, tT, tT, tF, tT, tF, tF, tF] (ι := Bool × Option Addr × Nat × Nat × Bool × Option Addr × Nat × Nat × Bool × Option Addr × Nat × Nat × Nat) (fun (b6, a6, l6, c6, bq, aq, lq, cq, br, ar, lr, cr, g5) => (((((((act0.put (some 13) (.agg #[.bool b6, .slice a6 l6 c6])).put (some 21) (.tuple #[.agg #[.bool bq, .slice aq lq cq], .agg #[.bool br, .slice ar lr cr], .bool true])).put (some 10) (.tuple #[.agg #[.bool bq, .slice aq lq cq], .agg #[.bool br, .slice ar lr cr], .bool true])).put (some 22) (.agg #[.bool bq, .slice aq lq cq])).put (some 23) (.agg #[.bool br, .slice ar lr cr])).put (some 24) (.bool true)).put (some 5) ((.pointer (some ⟨g5, 0, none⟩))))) (fun (b6, a6, l6, c6, bq, aq, lq, cq, br, ar, lr, cr, g5) wz => Below w.heap.size w wz ∧ FK wz bq aq lq cq ((ds.getD (p + 2) 0 * ds.getD p 0 + be * be).tdiv d1) (k + k + 1) ∧ FK wz br ar lr cr ((ds.getD (p + 2) 0 * ds.getD p 0 + be * be).tmod d1) k ∧ Box wz g5 false none 0 0 ∧ w.heap.size ≤ g5) ?_ (fun J1 => ?_)
 ·rintro ⟨b6, a6, l6, c6, bq, aq, lq, cq, br, ar, lr, cr, g5⟩ wj hI
  try dsimp only at hI ⊢
  obtain ⟨HW, hq, hr, B5, hg5⟩ := hI;have zH := zu HS _ HW;rw [zu HA];simp only [Act.put, aSet, aHead, aTail];refine tin 15 rfl fun K hK => ?_;go_simp;have hwk : w.heap.size ≤ wj.heap.size := HW.size;have hxg5 := B5.lt;obtain ⟨wk, hWe⟩ := newB wj;obtain ⟨B4, hb9⟩ := boxes1 wj false none 0 0 hWe;rw [← hWe];clear hWe;replace HW := Below.step HW hb9;replace hq := hq.za hb9;replace hr := hr.za hb9;replace B5 := B5.za hb9;clear hb9;have hg4 := hwk;have hneg4g5 : wj.heap.size ≠ g5 := by omega
  refine hK.out _ _ ?_ (fun zH => ?_)
  ·exact zu HS _ HW
  clear hK K
  try simp only [aSet, aHead, aTail]
  exact tgo J0 (b6, a6, l6, c6, bq, aq, lq, cq, br, ar, lr, cr, wj.heap.size, g5) (by (try dsimp only); rw [zu HA]; simp only [Act.put, aSet, aHead, aTail]) (by (try dsimp only); exact ⟨HW, hq, hr, B4, hg4, B5, hg5, hneg4g5⟩)
 refine zmd 4 #[tT, tT, tT, tT, tT, tT, tT, tT, tT, tT, tT, tT, tT, tT, tT, tT, tF, tF, tF, tF] (ι := Bool × Option Addr × Nat × Nat × Bool × Option Addr × Nat × Nat × Bool × Option Addr × Nat × Nat × Nat) (fun (b6, a6, l6, c6, bq, aq, lq, cq, br, ar, lr, cr, g4) => (((((((act0.put (some 13) (.agg #[.bool b6, .slice a6 l6 c6])).put (some 21) (.tuple #[.agg #[.bool bq, .slice aq lq cq], .agg #[.bool br, .slice ar lr cr], .bool true])).put (some 10) (.tuple #[.agg #[.bool bq, .slice aq lq cq], .agg #[.bool br, .slice ar lr cr], .bool true])).put (some 22) (.agg #[.bool bq, .slice aq lq cq])).put (some 23) (.agg #[.bool br, .slice ar lr cr])).put (some 24) (.bool true)).put (some 4) ((.pointer (some ⟨g4, 0, none⟩))))) (fun (b6, a6, l6, c6, bq, aq, lq, cq, br, ar, lr, cr, g4) wz => Below w.heap.size w wz ∧ FK wz bq aq lq cq ((ds.getD (p + 2) 0 * ds.getD p 0 + be * be).tdiv d1) (k + k + 1) ∧ FK wz br ar lr cr ((ds.getD (p + 2) 0 * ds.getD p 0 + be * be).tmod d1) k ∧ Box wz g4 false none 0 0 ∧ w.heap.size ≤ g4) ?_ (fun J2 => ?_)
 ·rintro ⟨b6, a6, l6, c6, bq, aq, lq, cq, br, ar, lr, cr, g4⟩ wj hI
  try dsimp only at hI ⊢
  obtain ⟨HW, hq, hr, B4, hg4⟩ := hI;have zH := zu HS _ HW;rw [zu HA];simp only [Act.put, aSet, aHead, aTail];refine tin 16 rfl fun K hK => ?_;go_simp;have hwk : w.heap.size ≤ wj.heap.size := HW.size;have hxg4 := B4.lt;obtain ⟨wk, hWe⟩ := newB wj;obtain ⟨B5, hb9⟩ := boxes1 wj false none 0 0 hWe;rw [← hWe];clear hWe;replace HW := Below.step HW hb9;replace hq := hq.za hb9;replace hr := hr.za hb9;replace B4 := B4.za hb9;clear hb9;have hg5 := hwk;have hneg4g5 : g4 ≠ wj.heap.size := by omega
  refine hK.out _ _ ?_ (fun zH => ?_)
  ·exact zu HS _ HW
  clear hK K
  try simp only [aSet, aHead, aTail]
  exact tgo J0 (b6, a6, l6, c6, bq, aq, lq, cq, br, ar, lr, cr, g4, wj.heap.size) (by (try dsimp only); rw [zu HA]; simp only [Act.put, aSet, aHead, aTail]) (by (try dsimp only); exact ⟨HW, hq, hr, B4, hg4, B5, hg5, hneg4g5⟩)
 refine zmd 5 #[tT, tT, tT, tT, tT, tT, tT, tT, tT, tT, tT, tT, tT, tT, tT, tF, tF, tF, tF, tF] (ι := Bool × Option Addr × Nat × Nat × Bool × Option Addr × Nat × Nat × Bool × Option Addr × Nat × Nat) (fun (b6, a6, l6, c6, bq, aq, lq, cq, br, ar, lr, cr) => ((((((act0.put (some 13) (.agg #[.bool b6, .slice a6 l6 c6])).put (some 21) (.tuple #[.agg #[.bool bq, .slice aq lq cq], .agg #[.bool br, .slice ar lr cr], .bool true])).put (some 10) (.tuple #[.agg #[.bool bq, .slice aq lq cq], .agg #[.bool br, .slice ar lr cr], .bool true])).put (some 22) (.agg #[.bool bq, .slice aq lq cq])).put (some 23) (.agg #[.bool br, .slice ar lr cr])).put (some 24) (.bool true))) (fun (b6, a6, l6, c6, bq, aq, lq, cq, br, ar, lr, cr) wz => Below w.heap.size w wz ∧ FK wz bq aq lq cq ((ds.getD (p + 2) 0 * ds.getD p 0 + be * be).tdiv d1) (k + k + 1) ∧ FK wz br ar lr cr ((ds.getD (p + 2) 0 * ds.getD p 0 + be * be).tmod d1) k) ?_ (fun J3 => ?_)
 ·rintro ⟨b6, a6, l6, c6, bq, aq, lq, cq, br, ar, lr, cr⟩ wj hI
  try dsimp only at hI ⊢
  obtain ⟨HW, hq, hr⟩ := hI;have zH := zu HS _ HW;rw [zu HA];simp only [Act.put, aSet, aHead, aTail];refine ttwo 15 16 rfl rfl (fun K hK => ?_) (fun K hK => ?_)
  ·go_simp;have hwk : w.heap.size ≤ wj.heap.size := HW.size;obtain ⟨wk, hWe⟩ := newB wj;obtain ⟨B4, hb9⟩ := boxes1 wj false none 0 0 hWe;rw [← hWe];clear hWe;replace HW := Below.step HW hb9;replace hq := hq.za hb9;replace hr := hr.za hb9;clear hb9;have hg4 := hwk;refine hK.out _ _ ?_ (fun zH => ?_)
   ·exact zu HS _ HW
   clear hK K
   try simp only [aSet, aHead, aTail]
   exact tgo J2 (b6, a6, l6, c6, bq, aq, lq, cq, br, ar, lr, cr, wj.heap.size) (by (try dsimp only); rw [zu HA]; simp only [Act.put, aSet, aHead, aTail]) (by (try dsimp only); exact ⟨HW, hq, hr, B4, hg4⟩)
  ·go_simp;have hwk : w.heap.size ≤ wj.heap.size := HW.size;obtain ⟨wk, hWe⟩ := newB wj;obtain ⟨B5, hb9⟩ := boxes1 wj false none 0 0 hWe;rw [← hWe];clear hWe;replace HW := Below.step HW hb9;replace hq := hq.za hb9;replace hr := hr.za hb9;clear hb9;have hg5 := hwk;refine hK.out _ _ ?_ (fun zH => ?_)
   ·exact zu HS _ HW
   clear hK K
   try simp only [aSet, aHead, aTail]
   exact tgo J1 (b6, a6, l6, c6, bq, aq, lq, cq, br, ar, lr, cr, wj.heap.size) (by (try dsimp only); rw [zu HA]; simp only [Act.put, aSet, aHead, aTail]) (by (try dsimp only); exact ⟨HW, hq, hr, B5, hg5⟩)
 refine zmd 8 #[tT, tT, tT, tT, tT, tT, tT, tT, tT, tT, tF, tF, tF, tF, tF, tT, tT, tF, tF, tF] (ι := Bool × Option Addr × Nat × Nat × Nat × Nat) (fun (b6, a6, l6, c6, g4, g5) => (((act0.put (some 13) (.agg #[.bool b6, .slice a6 l6 c6])).put (some 4) ((.pointer (some ⟨g4, 0, none⟩)))).put (some 5) ((.pointer (some ⟨g5, 0, none⟩))))) (fun (b6, a6, l6, c6, g4, g5) wz => Below w.heap.size w wz ∧ FK wz b6 a6 l6 c6 (ds.getD (p + 2) 0 * ds.getD p 0 + be * be) (k + k + 1) ∧ Box wz g4 false none 0 0 ∧ w.heap.size ≤ g4 ∧ Box wz g5 false none 0 0 ∧ w.heap.size ≤ g5 ∧ g4 ≠ g5) ?_ (fun J4 => ?_)
 ·rintro ⟨b6, a6, l6, c6, g4, g5⟩ wj hI
  try dsimp only at hI ⊢
  obtain ⟨HW, h6, B4, hg4, B5, hg5, hneg4g5⟩ := hI;have zH := zu HS _ HW;rw [zu HA];simp only [Act.put, aSet, aHead, aTail];refine tin 10 rfl fun K hK => ?_;go_simp;refine (quoK b6 a6 l6 c6 (ds.getD (p + 2) 0 * ds.getD p 0 + be * be) (k + k + 1) b1 a1 l1 c1 d1 k _ (h6.ik (by omega)) ((k1.za HW).ik (by omega)) (zu HD10)).mono ?_;rintro e wk ⟨bq, aq, lq, cq, br, ar, lr, cr, rfl, hq, hr, hb9⟩;replace HW := Below.step HW hb9;replace B4 := B4.za hb9;replace B5 := B5.za hb9;clear hb9 h6;refine hK.out _ _ ?_ (fun zH => ?_)
  ·exact zu HS _ HW
  clear hK K
  try simp only [aSet, aHead, aTail]
  refine zfl 11 rfl ?_;simp only [zP];refine zfl 12 rfl ?_;simp only [zP];refine zfl 13 rfl ?_;simp only [zP];refine zfl 14 rfl ?_;simp only [zP];exact tgo J0 (b6, a6, l6, c6, bq, aq, lq, cq, br, ar, lr, cr, g4, g5) (by (try dsimp only); rw [zu HA]; simp only [Act.put, aSet, aHead, aTail]) (by (try dsimp only); exact ⟨HW, hq, hr, B4, hg4, B5, hg5, hneg4g5⟩)
 refine zmd 9 #[tT, tT, tF, tT, tT, tT, tT, tT, tT, tT, tF, tF, tF, tF, tF, tT, tT, tF, tF, tF] (ι := Nat × Nat) (fun (g4, g5) => ((act0.put (some 4) ((.pointer (some ⟨g4, 0, none⟩)))).put (some 5) ((.pointer (some ⟨g5, 0, none⟩))))) (fun (g4, g5) wz => Below w.heap.size w wz ∧ Box wz g4 false none 0 0 ∧ w.heap.size ≤ g4 ∧ Box wz g5 false none 0 0 ∧ w.heap.size ≤ g5 ∧ g4 ≠ g5) ?_ (fun J5 => ?_)
 ·rintro ⟨g4, g5⟩ wj hI
  try dsimp only at hI ⊢
  obtain ⟨HW, B4, hg4, B5, hg5, hneg4g5⟩ := hI;have zH := zu HS _ HW;rw [zu HA];simp only [Act.put, aSet, aHead, aTail];refine tin 2 rfl fun K hK => ?_;go_simp;refine (zu HSWD _ HW).mono ?_;rintro e wk ⟨b6, a6, l6, c6, rfl, h6, hb9⟩;replace HW := Below.step HW hb9;replace B4 := B4.za hb9;replace B5 := B5.za hb9;clear hb9;refine hK.out _ _ ?_ (fun zH => ?_)
  ·exact zu HS _ HW
  clear hK K
  try simp only [aSet, aHead, aTail]
  exact tgo J4 (b6, a6, l6, c6, g4, g5) (by (try dsimp only); rw [zu HA]; simp only [Act.put, aSet, aHead, aTail]) (by (try dsimp only); exact ⟨HW, h6, B4, hg4, B5, hg5, hneg4g5⟩)
 refine zmd 9 #[tT, tT, tT, tT, tT, tT, tT, tT, tT, tT, tF, tF, tF, tF, tF, tF, tT, tF, tF, tF] (ι := Bool × Option Addr × Nat × Nat × Nat) (fun (b6, a6, l6, c6, g5) => ((act0.put (some 13) (.agg #[.bool b6, .slice a6 l6 c6])).put (some 5) ((.pointer (some ⟨g5, 0, none⟩))))) (fun (b6, a6, l6, c6, g5) wz => Below w.heap.size w wz ∧ FK wz b6 a6 l6 c6 (ds.getD (p + 2) 0 * ds.getD p 0 + be * be) (k + k + 1) ∧ Box wz g5 false none 0 0 ∧ w.heap.size ≤ g5) ?_ (fun J6 => ?_)
 ·rintro ⟨b6, a6, l6, c6, g5⟩ wj hI
  try dsimp only at hI ⊢
  obtain ⟨HW, h6, B5, hg5⟩ := hI;have zH := zu HS _ HW;rw [zu HA];simp only [Act.put, aSet, aHead, aTail];refine ttwo 10 15 rfl rfl (fun K hK => ?_) (fun K hK => ?_)
  ·go_simp;refine (quoK b6 a6 l6 c6 (ds.getD (p + 2) 0 * ds.getD p 0 + be * be) (k + k + 1) b1 a1 l1 c1 d1 k _ (h6.ik (by omega)) ((k1.za HW).ik (by omega)) (zu HD10)).mono ?_;rintro e wk ⟨bq, aq, lq, cq, br, ar, lr, cr, rfl, hq, hr, hb9⟩;replace HW := Below.step HW hb9;replace B5 := B5.za hb9;clear hb9 h6;refine hK.out _ _ ?_ (fun zH => ?_)
   ·exact zu HS _ HW
   clear hK K
   try simp only [aSet, aHead, aTail]
   refine zfl 11 rfl ?_;simp only [zP];refine zfl 12 rfl ?_;simp only [zP];refine zfl 13 rfl ?_;simp only [zP];refine zfl 14 rfl ?_;simp only [zP];exact tgo J1 (b6, a6, l6, c6, bq, aq, lq, cq, br, ar, lr, cr, g5) (by (try dsimp only); rw [zu HA]; simp only [Act.put, aSet, aHead, aTail]) (by (try dsimp only); exact ⟨HW, hq, hr, B5, hg5⟩)
  ·go_simp;have hwk : w.heap.size ≤ wj.heap.size := HW.size;have hxg5 := B5.lt;obtain ⟨wk, hWe⟩ := newB wj;obtain ⟨B4, hb9⟩ := boxes1 wj false none 0 0 hWe;rw [← hWe];clear hWe;replace HW := Below.step HW hb9;replace h6 := h6.za hb9;replace B5 := B5.za hb9;clear hb9;have hg4 := hwk;have hneg4g5 : wj.heap.size ≠ g5 := by omega
   refine hK.out _ _ ?_ (fun zH => ?_)
   ·exact zu HS _ HW
   clear hK K
   try simp only [aSet, aHead, aTail]
   exact tgo J4 (b6, a6, l6, c6, wj.heap.size, g5) (by (try dsimp only); rw [zu HA]; simp only [Act.put, aSet, aHead, aTail]) (by (try dsimp only); exact ⟨HW, h6, B4, hg4, B5, hg5, hneg4g5⟩)
 refine zmd 9 #[tT, tT, tT, tT, tT, tT, tT, tT, tT, tT, tF, tF, tF, tF, tF, tT, tF, tF, tF, tF] (ι := Bool × Option Addr × Nat × Nat × Nat) (fun (b6, a6, l6, c6, g4) => ((act0.put (some 13) (.agg #[.bool b6, .slice a6 l6 c6])).put (some 4) ((.pointer (some ⟨g4, 0, none⟩))))) (fun (b6, a6, l6, c6, g4) wz => Below w.heap.size w wz ∧ FK wz b6 a6 l6 c6 (ds.getD (p + 2) 0 * ds.getD p 0 + be * be) (k + k + 1) ∧ Box wz g4 false none 0 0 ∧ w.heap.size ≤ g4) ?_ (fun J7 => ?_)
 ·rintro ⟨b6, a6, l6, c6, g4⟩ wj hI
  try dsimp only at hI ⊢
  obtain ⟨HW, h6, B4, hg4⟩ := hI;have zH := zu HS _ HW;rw [zu HA];simp only [Act.put, aSet, aHead, aTail];refine ttwo 10 16 rfl rfl (fun K hK => ?_) (fun K hK => ?_)
  ·go_simp;refine (quoK b6 a6 l6 c6 (ds.getD (p + 2) 0 * ds.getD p 0 + be * be) (k + k + 1) b1 a1 l1 c1 d1 k _ (h6.ik (by omega)) ((k1.za HW).ik (by omega)) (zu HD10)).mono ?_;rintro e wk ⟨bq, aq, lq, cq, br, ar, lr, cr, rfl, hq, hr, hb9⟩;replace HW := Below.step HW hb9;replace B4 := B4.za hb9;clear hb9 h6;refine hK.out _ _ ?_ (fun zH => ?_)
   ·exact zu HS _ HW
   clear hK K
   try simp only [aSet, aHead, aTail]
   refine zfl 11 rfl ?_;simp only [zP];refine zfl 12 rfl ?_;simp only [zP];refine zfl 13 rfl ?_;simp only [zP];refine zfl 14 rfl ?_;simp only [zP];exact tgo J2 (b6, a6, l6, c6, bq, aq, lq, cq, br, ar, lr, cr, g4) (by (try dsimp only); rw [zu HA]; simp only [Act.put, aSet, aHead, aTail]) (by (try dsimp only); exact ⟨HW, hq, hr, B4, hg4⟩)
  ·go_simp;have hwk : w.heap.size ≤ wj.heap.size := HW.size;have hxg4 := B4.lt;obtain ⟨wk, hWe⟩ := newB wj;obtain ⟨B5, hb9⟩ := boxes1 wj false none 0 0 hWe;rw [← hWe];clear hWe;replace HW := Below.step HW hb9;replace h6 := h6.za hb9;replace B4 := B4.za hb9;clear hb9;have hg5 := hwk;have hneg4g5 : g4 ≠ wj.heap.size := by omega
   refine hK.out _ _ ?_ (fun zH => ?_)
   ·exact zu HS _ HW
   clear hK K
   try simp only [aSet, aHead, aTail]
   exact tgo J4 (b6, a6, l6, c6, g4, wj.heap.size) (by (try dsimp only); rw [zu HA]; simp only [Act.put, aSet, aHead, aTail]) (by (try dsimp only); exact ⟨HW, h6, B4, hg4, B5, hg5, hneg4g5⟩)
 refine zmd 10 #[tT, tT, tF, tT, tT, tT, tT, tT, tT, tT, tF, tF, tF, tF, tF, tF, tT, tF, tF, tF] (ι := Nat) (fun g5 => (act0.put (some 5) ((.pointer (some ⟨g5, 0, none⟩))))) (fun g5 wz => Below w.heap.size w wz ∧ Box wz g5 false none 0 0 ∧ w.heap.size ≤ g5) ?_ (fun J8 => ?_)
 ·rintro g5 wj hI
  try dsimp only at hI ⊢
  obtain ⟨HW, B5, hg5⟩ := hI;have zH := zu HS _ HW;rw [zu HA];simp only [Act.put, aSet, aHead, aTail];refine ttwo 2 15 rfl rfl (fun K hK => ?_) (fun K hK => ?_)
  ·go_simp;refine (zu HSWD _ HW).mono ?_;rintro e wk ⟨b6, a6, l6, c6, rfl, h6, hb9⟩;replace HW := Below.step HW hb9;replace B5 := B5.za hb9;clear hb9;refine hK.out _ _ ?_ (fun zH => ?_)
   ·exact zu HS _ HW
   clear hK K
   try simp only [aSet, aHead, aTail]
   exact tgo J6 (b6, a6, l6, c6, g5) (by (try dsimp only); rw [zu HA]; simp only [Act.put, aSet, aHead, aTail]) (by (try dsimp only); exact ⟨HW, h6, B5, hg5⟩)
  ·go_simp;have hwk : w.heap.size ≤ wj.heap.size := HW.size;have hxg5 := B5.lt;obtain ⟨wk, hWe⟩ := newB wj;obtain ⟨B4, hb9⟩ := boxes1 wj false none 0 0 hWe;rw [← hWe];clear hWe;replace HW := Below.step HW hb9;replace B5 := B5.za hb9;clear hb9;have hg4 := hwk;have hneg4g5 : wj.heap.size ≠ g5 := by omega
   refine hK.out _ _ ?_ (fun zH => ?_)
   ·exact zu HS _ HW
   clear hK K
   try simp only [aSet, aHead, aTail]
   exact tgo J5 (wj.heap.size, g5) (by (try dsimp only); rw [zu HA]; simp only [Act.put, aSet, aHead, aTail]) (by (try dsimp only); exact ⟨HW, B4, hg4, B5, hg5, hneg4g5⟩)
 refine zmd 10 #[tT, tT, tF, tT, tT, tT, tT, tT, tT, tT, tF, tF, tF, tF, tF, tT, tF, tF, tF, tF] (ι := Nat) (fun g4 => (act0.put (some 4) ((.pointer (some ⟨g4, 0, none⟩))))) (fun g4 wz => Below w.heap.size w wz ∧ Box wz g4 false none 0 0 ∧ w.heap.size ≤ g4) ?_ (fun J9 => ?_)
 ·rintro g4 wj hI
  try dsimp only at hI ⊢
  obtain ⟨HW, B4, hg4⟩ := hI;have zH := zu HS _ HW;rw [zu HA];simp only [Act.put, aSet, aHead, aTail];refine ttwo 2 16 rfl rfl (fun K hK => ?_) (fun K hK => ?_)
  ·go_simp;refine (zu HSWD _ HW).mono ?_;rintro e wk ⟨b6, a6, l6, c6, rfl, h6, hb9⟩;replace HW := Below.step HW hb9;replace B4 := B4.za hb9;clear hb9;refine hK.out _ _ ?_ (fun zH => ?_)
   ·exact zu HS _ HW
   clear hK K
   try simp only [aSet, aHead, aTail]
   exact tgo J7 (b6, a6, l6, c6, g4) (by (try dsimp only); rw [zu HA]; simp only [Act.put, aSet, aHead, aTail]) (by (try dsimp only); exact ⟨HW, h6, B4, hg4⟩)
  ·go_simp;have hwk : w.heap.size ≤ wj.heap.size := HW.size;have hxg4 := B4.lt;obtain ⟨wk, hWe⟩ := newB wj;obtain ⟨B5, hb9⟩ := boxes1 wj false none 0 0 hWe;rw [← hWe];clear hWe;replace HW := Below.step HW hb9;replace B4 := B4.za hb9;clear hb9;have hg5 := hwk;have hneg4g5 : g4 ≠ wj.heap.size := by omega
   refine hK.out _ _ ?_ (fun zH => ?_)
   ·exact zu HS _ HW
   clear hK K
   try simp only [aSet, aHead, aTail]
   exact tgo J5 (g4, wj.heap.size) (by (try dsimp only); rw [zu HA]; simp only [Act.put, aSet, aHead, aTail]) (by (try dsimp only); exact ⟨HW, B4, hg4, B5, hg5, hneg4g5⟩)
 refine zmd 10 #[tT, tT, tT, tT, tT, tT, tT, tT, tT, tT, tF, tF, tF, tF, tF, tF, tF, tF, tF, tF] (ι := Bool × Option Addr × Nat × Nat) (fun (b6, a6, l6, c6) => (act0.put (some 13) (.agg #[.bool b6, .slice a6 l6 c6]))) (fun (b6, a6, l6, c6) wz => Below w.heap.size w wz ∧ FK wz b6 a6 l6 c6 (ds.getD (p + 2) 0 * ds.getD p 0 + be * be) (k + k + 1)) ?_ (fun J10 => ?_)
 ·rintro ⟨b6, a6, l6, c6⟩ wj hI
  try dsimp only at hI ⊢
  obtain ⟨HW, h6⟩ := hI;have zH := zu HS _ HW;rw [zu HA];simp only [Act.put, aSet, aHead, aTail];refine till_three (i := 10) (j := 15) (k := 16) (by kernel_rfl) rfl rfl rfl (fun K hK => ?_) (fun K hK => ?_) (fun K hK => ?_)
  ·go_simp;refine (quoK b6 a6 l6 c6 (ds.getD (p + 2) 0 * ds.getD p 0 + be * be) (k + k + 1) b1 a1 l1 c1 d1 k _ (h6.ik (by omega)) ((k1.za HW).ik (by omega)) (zu HD10)).mono ?_;rintro e wk ⟨bq, aq, lq, cq, br, ar, lr, cr, rfl, hq, hr, hb9⟩;replace HW := Below.step HW hb9;clear hb9 h6;refine hK.out _ _ ?_ (fun zH => ?_)
   ·exact zu HS _ HW
   clear hK K
   try simp only [aSet, aHead, aTail]
   refine zfl 11 rfl ?_;simp only [zP];refine zfl 12 rfl ?_;simp only [zP];refine zfl 13 rfl ?_;simp only [zP];refine zfl 14 rfl ?_;simp only [zP];exact tgo J3 (b6, a6, l6, c6, bq, aq, lq, cq, br, ar, lr, cr) (by (try dsimp only); rw [zu HA]; simp only [Act.put, aSet, aHead, aTail]) (by (try dsimp only); exact ⟨HW, hq, hr⟩)
  ·go_simp;have hwk : w.heap.size ≤ wj.heap.size := HW.size;obtain ⟨wk, hWe⟩ := newB wj;obtain ⟨B4, hb9⟩ := boxes1 wj false none 0 0 hWe;rw [← hWe];clear hWe;replace HW := Below.step HW hb9;replace h6 := h6.za hb9;clear hb9;have hg4 := hwk;refine hK.out _ _ ?_ (fun zH => ?_)
   ·exact zu HS _ HW
   clear hK K
   try simp only [aSet, aHead, aTail]
   exact tgo J7 (b6, a6, l6, c6, wj.heap.size) (by (try dsimp only); rw [zu HA]; simp only [Act.put, aSet, aHead, aTail]) (by (try dsimp only); exact ⟨HW, h6, B4, hg4⟩)
  ·go_simp;have hwk : w.heap.size ≤ wj.heap.size := HW.size;obtain ⟨wk, hWe⟩ := newB wj;obtain ⟨B5, hb9⟩ := boxes1 wj false none 0 0 hWe;rw [← hWe];clear hWe;replace HW := Below.step HW hb9;replace h6 := h6.za hb9;clear hb9;have hg5 := hwk;refine hK.out _ _ ?_ (fun zH => ?_)
   ·exact zu HS _ HW
   clear hK K
   try simp only [aSet, aHead, aTail]
   exact tgo J6 (b6, a6, l6, c6, wj.heap.size) (by (try dsimp only); rw [zu HA]; simp only [Act.put, aSet, aHead, aTail]) (by (try dsimp only); exact ⟨HW, h6, B5, hg5⟩)
 rw [zu HA];refine till_three (i := 2) (j := 15) (k := 16) (by kernel_rfl) rfl rfl rfl (fun K hK => ?_) (fun K hK => ?_) (fun K hK => ?_)
 ·go_simp;refine (zu HSWD _ HW).mono ?_;rintro e wk ⟨b6, a6, l6, c6, rfl, h6, hb9⟩;replace HW := Below.step HW hb9;clear hb9;refine hK.out _ _ ?_ (fun zH => ?_)
  ·exact zu HS _ HW
  clear hK K
  try simp only [aSet, aHead, aTail]
  exact tgo J10 (b6, a6, l6, c6) (by (try dsimp only); rw [zu HA]; simp only [Act.put, aSet, aHead, aTail]) (by (try dsimp only); exact ⟨HW, h6⟩)
 ·go_simp;have hwk : w.heap.size ≤ vd1.heap.size := HW.size;obtain ⟨wk, hWe⟩ := newB vd1;obtain ⟨B4, hb9⟩ := boxes1 vd1 false none 0 0 hWe;rw [← hWe];clear hWe;replace HW := Below.step HW hb9;clear hb9;have hg4 := hwk;refine hK.out _ _ ?_ (fun zH => ?_)
  ·exact zu HS _ HW
  clear hK K
  try simp only [aSet, aHead, aTail]
  exact tgo J9 vd1.heap.size (by (try dsimp only); rw [zu HA]; simp only [Act.put, aSet, aHead, aTail]) (by (try dsimp only); exact ⟨HW, B4, hg4⟩)
 ·go_simp;have hwk : w.heap.size ≤ vd1.heap.size := HW.size;obtain ⟨wk, hWe⟩ := newB vd1;obtain ⟨B5, hb9⟩ := boxes1 vd1 false none 0 0 hWe;rw [← hWe];clear hWe;replace HW := Below.step HW hb9;clear hb9;have hg5 := hwk;refine hK.out _ _ ?_ (fun zH => ?_)
  ·exact zu HS _ HW
  clear hK K
  try simp only [aSet, aHead, aTail]
  exact tgo J8 vd1.heap.size (by (try dsimp only); rw [zu HA]; simp only [Act.put, aSet, aHead, aTail]) (by (try dsimp only); exact ⟨HW, B5, hg5⟩)
end Go.Proofs.YtnpneloahajniaaGreat
