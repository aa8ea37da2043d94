/-
 What lower of package lll tells: a row less a multiple of one ahead of it, and its shares with it.
-/
import Derived.Test.YtnpneloahajniaaGreatLRead
import Derived.Test.YtnpneloahajniaaGreatVOwn
import Derived.Test.YtnpneloahajniaaGreatJP
import Derived.Test.YtnpneloahajniaaGreatGramRed
namespace Go.Proofs.YtnpneloahajniaaGreat
open Go.RowKit Lb
set_option maxRecDepth 20000

theorem GRows.ex {w : World} {base g n cap k m : Nat} {us : List (Option Addr × Nat × Nat)} {U : Nat → Nat} {gs : List (List Int)} (h : GRows w base g n cap us U gs k m) {i : Nat} (hi : i < m) : ∃ u l c, l = (gs.getD i []).length ∧ u < w.heap.size ∧ w.cell? ⟨g, i, none⟩ = some (.slice (some ⟨u, 0, none⟩) l c) ∧ OwnV w base (some ⟨u, 0, none⟩) l c (gs.getD i []) k := by
 obtain ⟨l, c, e, _, x, ho⟩ := h.at hi;exact ⟨_, l, c, e, ho.base_le.2, x, ho⟩
def LowTo (base gb n : Nat) (ls : List (List Int)) (ds : List Int) (gs : List (List Int)) (k i j : Nat) (w : World) (e : Ending) (w' : World) : Prop := ∃ (q : Int) (D : BD), e = .returned (.tuple #[]) ∧ 2 * (((gs.getD i []).getD j 0 - q * ds.getD (j + 1) 0).natAbs : Int) ≤ ds.getD (j + 1) 0 ∧ BS w' base gb n D (ls.set i (vsub (ls.getD i []) (vtimes (ls.getD j []) q))) ds (gs.set i (vsub (gs.getD i []) (vtimes (gs.getD j []) q ++ [ds.getD (j + 1) 0 * q]))) k ∧ Below base w w'
theorem set_getD_self {l : List (List Int)} {i : Nat} : l.set i (l.getD i []) = l := by
 refine List.ext_getElem (by simp) fun t h1 h2 => ?_;rw [List.getElem_set]
 split
 ·next e => subst e; simp [List.getD, h2]
 ·rfl
theorem snoc0_at (zs : List Int) (s : Nat) : (zs ++ [0]).getD s 0 = zs.getD s 0 := by
 by_cases c : s < zs.length
 ·simp [List.getD, List.getElem?_append_left c]
 ·rw [List.getD_eq_getElem?_getD, List.getElem?_append_right (by omega), List.getD_eq_getElem?_getD, List.getElem?_eq_none (l := zs) (by omega)];cases s - zs.length <;> simp
theorem vsub_nil {x y : List Int} (hl : y.length ≤ x.length) (h : ∀ j, y.getD j 0 = 0) : vsub x y = x := vec_ext (by rw [vsub_len]; omega) fun j _ => by rw [vsub_at, h j]; omega
set_option maxRecDepth 40000 in
set_option maxHeartbeats 2000000 in
theorem lowerK (base gb n : Nat) (D : BD) (ls : List (List Int)) (ds : List Int) (gs : List (List Int)) (k N i j : Nat) (w : World) (h : BS w base gb n D ls ds gs k) (hbase : base ≤ w.heap.size) (hk : k ≤ 100000) (hk2 : 2 ≤ k) (hn : n ≤ 1000) (hj : j < i) (hi : i < n) (hli : (ls.getD i []).length = N) (hlj : (ls.getD j []).length = N) (hgi : (gs.getD i []).length = i) (hgj : (gs.getD j []).length = j) (hd0 : 0 < ds.getD (j + 1) 0) (hN : N ≤ 1000)
  (hfit : ∀ q : Int, 2 * (((gs.getD i []).getD j 0 - q * ds.getD (j + 1) 0).natAbs : Int) ≤ ds.getD (j + 1) 0 → (∀ s, ((vsub (ls.getD i []) (vtimes (ls.getD j []) q)).getD s 0).natAbs < Bp k) ∧ ∀ s, ((vsub (gs.getD i []) (vtimes (gs.getD j []) q ++ [ds.getD (j + 1) 0 * q])).getD s 0).natAbs < Bp k) :
  Calls Tryz.prog 49 #[.pointer (some ⟨gb, 0, none⟩), .int .i64 (i : Int), .int .i64 (j : Int)] w fun e w' => LowTo base gb n ls ds gs k i j w e w' := by
 obtain ⟨x, ex⟩ : ∃ x, x = (gs.getD i []).getD j 0 := ⟨_, rfl⟩;obtain ⟨d, ed⟩ : ∃ d, d = ds.getD (j + 1) 0 := ⟨_, rfl⟩;rw [← ex, ← ed] at hfit;rw [← ed] at hd0;obtain ⟨b, eb⟩ : ∃ b, b = decide (2 * (x.natAbs : Int) ≤ d) := ⟨_, rfl⟩;have hlow := isLowK base gb n D ls ds gs k i j w h (by omega) hn hi (by omega) (by omega);rw [← ex, ← ed] at hlow;rw [← eb] at hlow;have HLOW := zh hlow;have HFIT := zh hfit;have HD0 := zh hd0;have EX := zh ex;have ED := zh ed;have HLI := zh hli;have HLJ := zh hlj;have HGI := zh hgi;have HGJ := zh hgj;have HBA := zh hbase;have hjn : j < n := by omega
 clear hlow hfit hd0 ex ed hli hlj hgi hgj;go_enter Tryz.func49, Tryz.ntmps49
 go_wp2_with fail
 refine (zu HLOW).mono ?_;rintro e w1 ⟨rfl, hb1⟩;replace h := h.za hb1;have HB := zh hb1;clear hb1 HLOW;by_cases hb : 2 * (x.natAbs : Int) ≤ d
 ·obtain rfl : b = true := by rw [eb]; exact decide_eq_true hb
  have e1 : vsub (ls.getD i []) (vtimes (ls.getD j []) 0) = ls.getD i [] := vsub_nil (by rw [show (vtimes (ls.getD j []) 0).length = (ls.getD j []).length by simp [vtimes], zu HLI, zu HLJ]; exact Nat.le_refl _) fun s => by rw [vtimes_at, Int.mul_zero]
  have e2 : vsub (gs.getD i []) (vtimes (gs.getD j []) 0 ++ [d * 0]) = gs.getD i [] := vsub_nil (by rw [List.length_append, show (vtimes (gs.getD j []) 0).length = (gs.getD j []).length by simp [vtimes], zu HGI, zu HGJ]; simp; omega) fun s => by
   rw [Int.mul_zero, snoc0_at, vtimes_at, Int.mul_zero]
  have hfin : 2 * ((x - 0 * d).natAbs : Int) ≤ d ∧ BS w1 base gb n D (ls.set i (vsub (ls.getD i []) (vtimes (ls.getD j []) 0))) ds (gs.set i (vsub (gs.getD i []) (vtimes (gs.getD j []) 0 ++ [d * 0]))) k := by
   rw [e1, e2, set_getD_self, set_getD_self, Int.zero_mul, Int.sub_zero];exact ⟨hb, h⟩
  have HF := zh hfin;clear e1 e2 hfin eb hb h;go_wp2
  first
   | go_end0
   | refine bodyPost_ret (results_none rfl _ _ _) rfl ?_
  exact ⟨0, D, rfl, by rw [← zu EX, ← zu ED]; exact (zu HF).1, by rw [← zu ED]; exact (zu HF).2, (zu HB).mono (zu HBA)⟩
 ·obtain rfl : b = false := by rw [eb]; exact decide_eq_false hb
  clear eb hb;rcases D with ⟨gl, cl, gd, cd, gg, cg, vs, us, V, U⟩;obtain ⟨nd, e0nd⟩ : ∃ nd, nd = n + 1 := ⟨_, rfl⟩;have HND := zh e0nd;obtain ⟨j1, ej1⟩ : ∃ j1, j1 = j + 1 := ⟨_, rfl⟩;have EJ := zh ej1;have hw1 : IntKind.i64.wrap ((j : Int) + 1) = (j1 : Int) := by rw [IntKind.wrap_i64]; omega
  have hj0 : (0 : Int) ≤ (j1 : Int) := by omega
  have hj1 : (j1 : Int) < (nd : Int) := by omega
  have hj2 : (0 : Int) ≤ (j : Int) := by omega
  have hj3 : (j : Int) < (n : Int) := by omega
  have hi0 : (0 : Int) ≤ (i : Int) := by omega
  have hi1 : (i : Int) < (n : Int) := by omega
  clear e0nd ej1;have hx0 : w1.cell? ⟨gb, 0, none⟩ = some (.slice (some ⟨gl, 0, none⟩) n cl) := h.box.zb.1;have hx1 : w1.cell? ⟨gb, 1, none⟩ = some (.slice (some ⟨gd, 0, none⟩) nd cd) := by rw [zu HND]; exact h.box.zb.2.1
  have hx2 : w1.cell? ⟨gb, 2, none⟩ = some (.slice (some ⟨gg, 0, none⟩) n cg) := h.box.zb.2.2.1;have hbl := h.box.lt;have hgl : gl < w1.heap.size := h.r.l.lt.2;have hgg : gg < w1.heap.size := h.r.g.lt.2;have hglw : gl < w1.heap.size := hgl;have hd : OwnV w1 base (some ⟨gd, 0, none⟩) nd cd ds k := by rw [zu HND]; exact h.r.d
  obtain ⟨b1, a1, l1, c1, E1, y1⟩ := hd.vf.at (show j1 < nd by have := zu HND; have := zu EJ; omega);rw [Nat.zero_add] at E1;rw [zu EJ, ← zu ED] at y1;obtain ⟨u, li, ci, hli, _, x3, hu⟩ := h.r.g.ex hi;have hli2 : li = i := hli.trans (zu HGI);have hjl : j < li := by omega
  have hj4 : (j : Int) < (li : Int) := by omega
  obtain ⟨b2, a2, l2, c2, E2, y2⟩ := hu.vf.at hjl;rw [Nat.zero_add] at E2;rw [← zu EX] at y2;clear hd hli hli2
  go_upto_region 1 with fail
  have HW : Below w1.heap.size w1 w1.drew := (Below.refl _ _).drew;have HS := zh fun w' (HW : Below w1.heap.size w1 w') => con7 ((HW.cell (p := ⟨gb, 2, none⟩) hbl).trans hx2) ((HW.cell (p := ⟨gg, i, none⟩) hgg).trans x3) ((HW.cell (p := ⟨gb, 1, none⟩) hbl).trans hx1) (E2.za HW).zb.1 (E2.za HW).zb.2 (E1.za HW).zb.1 (E1.za HW).zb.2;refine zst HS HW 23 (by kernel_rfl) fun zH => ?_;obtain ⟨vd1, hvd⟩ : ∃ v, v = w1.drew := ⟨_, rfl⟩;rw [← hvd] at HW zH ⊢;clear hvd;refine zfl 0 rfl ?_;simp only [Act.put, aGet, aZero, aSet, aHead, aTail];refine zfl 1 rfl ?_;simp only [zP];refine zfl 2 rfl ?_;simp only [zP];refine ztm 3 rfl ?_;simp only [zP];refine zfl 4 rfl ?_;simp only [zP];refine ztm 5 rfl ?_;simp only [zP];refine ztm 6 rfl ?_;simp only [zP];refine zfl 7 rfl ?_;simp only [zP];refine ztm 8 rfl ?_;simp only [zP];refine ztm 9 rfl ?_;simp only [zP];refine zfl 10 rfl ?_;simp only [zP];refine zfl 11 rfl ?_;simp only [zP];refine zfl 12 rfl ?_;simp only [zP];refine ztm 13 rfl ?_;simp only [zP];refine zfl 14 rfl ?_;simp only [zP];refine zfl 15 rfl ?_;simp only [zP];refine ztm 16 rfl ?_;simp only [zP];refine ztm 17 rfl ?_;simp only [zP];refine znm (fun act0 hact0 => ?_);have HA := zh hact0;clear hact0;refine zmd 2 #[tT, tT, tT, tT, tT, tT, tT, tT, tT, tT, tT, tT, tT, tT, tT, tT, tT, tT, tT, tT, tT, tT, tT, tF, tF] (ι := Bool × Option Addr × Nat × Nat × Nat) (fun (b6, a6, l6, c6, g6) => (((((act0.put (some 32) (.tuple #[.agg #[.bool b6, .slice a6 l6 c6], .bool true])).put (some 13) (.tuple #[.agg #[.bool b6, .slice a6 l6 c6], .bool true])).put (some 33) (.agg #[.bool b6, .slice a6 l6 c6])).put (some 34) (.bool true)).put (some 6) ((.pointer (some ⟨g6, 0, none⟩))))) (fun (b6, a6, l6, c6, g6) wz => Below w1.heap.size w1 wz ∧ FK wz b6 a6 l6 c6 (near x d) (max k 2 + 1) ∧ Box wz g6 false none 0 0 ∧ w1.heap.size ≤ g6) ?_ (fun J0 => ?_)
  ·rintro ⟨b6, a6, l6, c6, g6⟩ wj hI
   try dsimp only at hI ⊢
   obtain ⟨HW, h6, B6, hg6⟩ := hI;have zH := zu HS _ HW;rw [zu HA];simp only [Act.put, aSet, aHead, aTail];obtain ⟨q1B6, q2B6, q3B6, q4B6⟩ := B6.zb;have hltB6 := B6.lt;refine tout 23 rfl fun K hK => ?_;go_simp;refine hK.out _ _ ?_;clear hK K
   try simp only [aSet, aHead, aTail]
   refine tout 24 rfl fun K hK => ?_;go_simp;refine hK.out _ _ ?_;clear hK K
   try simp only [aSet, aHead, aTail]
   refine zdn (by kernel_rfl) ?_ _;rw [show max k 2 + 1 = k + 1 by omega] at h6;have n6 := B6.noLimb;obtain ⟨w2, hWe⟩ : ∃ W', W' = ((wj.setCell ⟨g6, 0, none⟩ (.bool b6)).setCell ⟨g6, 1, none⟩ (.slice a6 l6 c6)) := ⟨_, rfl⟩;rw [← hWe];replace B6 : Box w2 g6 b6 a6 l6 c6 := by rw [hWe]; exact B6.put b6 a6 l6 c6
   replace h6 : FK w2 b6 a6 l6 c6 (near x d) (k + 1) := by rw [hWe]; exact h6.put n6 b6 a6 l6 c6
   have HC : Below w1.heap.size w1 w2 := by rw [hWe]; exact below_put HW hg6 b6 a6 l6 c6
   clear hWe n6 HW zH q1B6 q2B6 q3B6 q4B6 hltB6;clear hx0 hx1 hx2 hbl hgl hgg x3 y1 y2 E1 E2 hu;obtain ⟨q, eq⟩ : ∃ q, q = near x d := ⟨_, rfl⟩;rw [← eq] at h6;have HQ : Hid (2 * ((x - q * d).natAbs : Int) ≤ d) := zh (by rw [eq]; exact near_half (zu HD0));clear eq;replace h := h.za HC;replace HB := zh (Below.step (zu HB) HC);clear HC;obtain ⟨hfl, hfg⟩ := zu HFIT q (zu HQ);have HFL := zh hfl;have HFG := zh hfg;clear hfl hfg;have hx0 : w2.cell? ⟨gb, 0, none⟩ = some (.slice (some ⟨gl, 0, none⟩) n cl) := h.box.zb.1;have hx1 : w2.cell? ⟨gb, 1, none⟩ = some (.slice (some ⟨gd, 0, none⟩) nd cd) := by rw [zu HND]; exact h.box.zb.2.1
   have hx2 : w2.cell? ⟨gb, 2, none⟩ = some (.slice (some ⟨gg, 0, none⟩) n cg) := h.box.zb.2.2.1;have hbl := h.box.lt;have hgl : gl < w2.heap.size := h.r.l.lt.2;have hgg : gg < w2.heap.size := h.r.g.lt.2;obtain ⟨u3, l3, c3, hl3, _, x4, y4⟩ := h.r.l.ex hi;rw [zu HLI] at hl3;replace hl3 := hl3.symm;subst hl3;obtain ⟨u4, l4, c4, hl4, _, x5, y5⟩ := h.r.l.ex hjn;rw [zu HLJ] at hl4;replace hl4 := hl4.symm;subst hl4
   go_upto_region 2 with fail
   have HW : Below w2.heap.size w2 w2.drew := (Below.refl _ _).drew;have HS := zh fun w' (HW : Below w2.heap.size w2 w') => con5 ((HW.cell (p := ⟨gb, 0, none⟩) hbl).trans hx0) ((HW.cell (p := ⟨gl, i, none⟩) hgl).trans x4) ((HW.cell (p := ⟨gl, j, none⟩) hgl).trans x5) (B6.za HW).zb.1 (B6.za HW).zb.2.1;refine zst HS HW 23 (by kernel_rfl) fun zH => ?_;refine ztl 0 rfl ?_;simp only [Act.put, aGet, aZero, aSet, aHead, aTail];refine ztl 1 rfl ?_;simp only [zP];refine ztl 2 rfl ?_;simp only [zP];refine ztl 3 rfl ?_;simp only [zP];refine ztl 4 rfl ?_;simp only [zP];refine ztl 5 rfl ?_;simp only [zP];refine ztl 6 rfl ?_;simp only [zP];refine ztl 7 rfl ?_;simp only [zP];refine ztl 8 rfl ?_;simp only [zP];refine ztl 9 rfl ?_;simp only [zP];refine ztl 10 rfl ?_;simp only [zP];refine ztl 11 rfl ?_;simp only [zP];refine ztl 12 rfl ?_;simp only [zP];refine ztl 13 rfl ?_;simp only [zP];refine ztl 14 rfl ?_;simp only [zP];refine ztl 15 rfl ?_;simp only [zP];refine ztl 16 rfl ?_;simp only [zP];refine ztl 17 rfl ?_;simp only [zP];refine ztl 18 rfl ?_;simp only [zP];refine ztl 19 rfl ?_;simp only [zP];refine tin 20 rfl fun K hK => ?_;go_simp;refine (vtimesO _ N c4 (ls.getD j []) k b6 a6 l6 c6 q (k + 1) _ ((y5.za HW).vf.vk (by omega)) ((h6.za HW).ik (by omega)) (by omega)).mono ?_;rintro e w9 ⟨ut, ct, rfl, ht, hb9⟩;replace HW := Below.step HW hb9;clear hb9;refine hK.out _ _ ?_ (fun zH => ?_)
   ·exact zu HS _ HW
   clear hK K
   try simp only [zP]
   refine tin 21 rfl fun K hK => ?_;go_simp;have hf0 := HW.size;refine (vsubO _ N c3 (ls.getD i []) k _ N ct (vtimes (ls.getD j []) q) (k + (k + 1)) _ ((y4.za HW).vf.vk (by omega)) (ht.vf.vk (by omega)) (by omega) (by omega) (by omega) (by omega)).mono ?_;rintro e w9 ⟨us0, cs, rfl, hs, hb9⟩;replace HW := Below.step HW hb9;clear hb9 ht;rw [Nat.max_self] at hs ⊢;replace hs := hs.from hf0;refine hK.out _ _ ?_ (fun zH => ?_)
   ·exact zu HS _ HW
   clear hK K
   try simp only [zP]
   refine ztl 22 rfl ?_;simp only [zP];have q1 := (HW.cell (p := ⟨gl, i, none⟩) hgl).trans x4;have q2 := (h.za HW).r.l.own.free i;refine tout 23 rfl fun K hK => ?_;go_simp;refine hK.out _ _ ?_;clear hK K
   try simp only [zP]
   refine zdn (by kernel_rfl) ?_ _;clear zH q1 q2;replace hs := hs.tight (k := k) fun s _ => zu HFL s;have h2 := h.putL HW (by have := (zu HB).size; have := zu HBA; omega) hi hs;have hnl := (h.za HW).r.l.noLimb;have hgr9 := grown_set1 w9 gl i (.slice (some ⟨us0, 0, none⟩) N cs);have B62 := (B6.za HW).grown hgr9 (some_ne (show gl ≠ g6 by omega));have h62 := (h6.za HW).grown hgr9 (noLimb_some hnl);have HB2 := zh (((zu HB).mono (zu HBA)).trans (HW.mono (by have := (zu HB).size; have := zu HBA; omega)) |>.setCell (p := ⟨gl, i, none⟩) (show base ≤ gl from h.r.l.lt.1) (.slice (some ⟨us0, 0, none⟩) N cs));have hs3 := HW.size;obtain ⟨w3, ew3⟩ : ∃ w3, w3 = w9.setCell ⟨gl, i, none⟩ (.slice (some ⟨us0, 0, none⟩) N cs) := ⟨_, rfl⟩;have hs9 : w3.heap.size = w9.heap.size := by rw [ew3]; simp [World.setCell]
   rw [← ew3] at h2 B62 h62 HB2 ⊢;clear ew3 hnl hgr9 hx0 hx1 hx2 hbl hgl hgg x4 x5 y4 y5 hs B6 h6 HW h HB HFL;obtain ⟨D2, eD2⟩ : ∃ D2, D2 = BD.setL ⟨gl, cl, gd, cd, gg, cg, vs, us, V, U⟩ i us0 N cs := ⟨_, rfl⟩;rw [← eD2] at h2;have ed1 : D2.gl = gl := by rw [eD2]; rfl
   have ed2 : D2.gd = gd := by rw [eD2]; rfl
   have ed3 : D2.gg = gg := by rw [eD2]; rfl
   have ed4 : D2.cl = cl := by rw [eD2]; rfl
   have ed5 : D2.cd = cd := by rw [eD2]; rfl
   have ed6 : D2.cg = cg := by rw [eD2]; rfl
   clear eD2;rcases D2 with ⟨gl, cl, gd, cd, gg, cg, vs, us, V, U⟩;dsimp only at ed1 ed2 ed3 ed4 ed5 ed6;subst ed1 ed2 ed3 ed4 ed5 ed6;have h := h2;have B6 := B62;have h6 := h62;have HB := HB2;clear h2 B62 h62 HB2;have hx0 : w3.cell? ⟨gb, 0, none⟩ = some (.slice (some ⟨gl, 0, none⟩) n cl) := h.box.zb.1;have hx1 : w3.cell? ⟨gb, 1, none⟩ = some (.slice (some ⟨gd, 0, none⟩) nd cd) := by rw [zu HND]; exact h.box.zb.2.1
   have hx2 : w3.cell? ⟨gb, 2, none⟩ = some (.slice (some ⟨gg, 0, none⟩) n cg) := h.box.zb.2.2.1;have hbl := h.box.lt;have hgl : gl < w3.heap.size := h.r.l.lt.2;have hgg : gg < w3.heap.size := h.r.g.lt.2;have hd : OwnV w3 base (some ⟨gd, 0, none⟩) nd cd ds k := by rw [zu HND]; exact h.r.d
   obtain ⟨b1, a1, l1, c1, E1, y1⟩ := hd.vf.at (show j1 < nd by have := zu HND; omega);rw [Nat.zero_add] at E1;rw [zu EJ, ← zu ED] at y1;obtain ⟨u5, lj, cj, hlj, _, x6, y6⟩ := h.r.g.ex hjn;have HLJ2 := zh (show lj = j from hlj.trans (zu HGJ));clear hlj;have hlj9 : lj ≤ 1000 := by have := zu HLJ2; omega
   go_upto_region 3 with fail
   have HW : Below w3.heap.size w3 w3.drew := (Below.refl _ _).drew;have HS := zh fun w' (HW : Below w3.heap.size w3 w') => con7 ((HW.cell (p := ⟨gb, 2, none⟩) hbl).trans hx2) ((HW.cell (p := ⟨gg, j, none⟩) hgg).trans x6) (B6.za HW).zb.1 (B6.za HW).zb.2.1 ((HW.cell (p := ⟨gb, 1, none⟩) hbl).trans hx1) (E1.za HW).zb.1 (E1.za HW).zb.2;refine zst HS HW 21 (by kernel_rfl) fun zH => ?_;refine ztl 0 rfl ?_;simp only [Act.put, aGet, aZero, aSet, aHead, aTail];refine ztl 1 rfl ?_;simp only [zP];refine ztl 2 rfl ?_;simp only [zP];refine ztl 3 rfl ?_;simp only [zP];refine ztl 4 rfl ?_;simp only [zP];refine ztl 5 rfl ?_;simp only [zP];refine ztl 6 rfl ?_;simp only [zP];refine ztl 7 rfl ?_;simp only [zP];refine ztl 9 rfl ?_;simp only [zP];refine ztl 10 rfl ?_;simp only [zP];refine ztl 11 rfl ?_;simp only [zP];refine ztl 12 rfl ?_;simp only [zP];refine ztl 13 rfl ?_;simp only [zP];refine ztl 14 rfl ?_;simp only [zP];refine ztl 15 rfl ?_;simp only [zP];refine ztl 16 rfl ?_;simp only [zP];refine ztl 17 rfl ?_;simp only [zP];refine tin 8 rfl fun K hK => ?_;go_simp;refine (vtimesO _ lj cj (gs.getD j []) k b6 a6 l6 c6 q (k + 1) _ ((y6.za HW).vf.vk (by omega)) ((h6.za HW).ik (by omega)) (by omega)).mono ?_;rintro e w9 ⟨ut, ct, rfl, ht, hb9⟩;replace HW := Below.step HW hb9;clear hb9;replace ht := ht.from (show w3.heap.size ≤ w3.drew.heap.size from Nat.le_refl _);refine hK.out _ _ ?_ (fun zH => ?_)
   ·exact zu HS _ HW
   clear hK K
   try simp only [zP]
   refine tin 18 rfl fun K hK => ?_;go_simp;refine (mulK b1 a1 l1 c1 d k b6 a6 l6 c6 q (k + 1) _ ((y1.za HW).ik (by omega)) ((h6.za HW).ik (by omega))).mono ?_;rintro e w9 ⟨b8, a8, l8, c8, rfl, h8, hb9⟩;replace HW := Below.step HW hb9;replace ht := ht.za hb9;clear hb9;refine hK.out _ _ ?_ (fun zH => ?_)
   ·exact zu HS _ HW
   clear hK K
   try simp only [zP]
   refine tin 19 rfl fun K hK => ?_;go_simp;obtain ⟨w10, hWe⟩ : ∃ W', W' = w9.alloc (.cells #[.bool b8, .slice a8 l8 c8] 45) := ⟨_, rfl⟩;obtain ⟨D8, hb9⟩ := boxes1 w9 b8 a8 l8 c8 hWe;rw [← hWe];clear hWe;have E8 : EltAt w10 w9.heap.size 0 b8 a8 l8 c8 := ⟨D8.lt, D8.zb.1, D8.zb.2.1⟩;replace h8 := h8.za hb9;replace ht := ht.za hb9;replace HW := Below.step HW hb9;clear hb9 D8;refine hK.out _ _ ?_ (fun zH => ?_)
   ·exact zu HS _ HW
   clear hK K
   try simp only [zP]
   refine tin 20 rfl fun K hK => ?_;have hf0 := HW.size;refine step_vec (by rfl) _ _ 39 Tryz.underlying39 (by rfl) w3.heap.size (some ⟨ut, 0, none⟩) lj ct (k + (k + 1)) (vtimes (gs.getD j []) q) (by rfl) ht (by omega) hf0 w9.heap.size 0 1 b8 a8 l8 c8 (d * q) (by rfl) E8 h8 ?_;intro up cp w11 hp hgr hat;replace HW := HW.grown hgr hf0 (own_ge ht);clear hgr hat ht E8 h8;refine hK.out _ _ ?_ (fun zH => ?_)
   ·exact zu HS _ HW
   clear hK K
   try simp only [zP]
   refine tout 21 rfl fun K hK => ?_;go_simp;refine hK.out _ _ ?_;clear hK K
   try simp only [zP]
   refine zdn (by kernel_rfl) ?_ _;clear zH;replace h := h.za HW;replace HB := zh ((zu HB).trans (HW.mono (by have := (zu HB).size; have := zu HBA; omega)));have hs5 := HW.size;clear hx0 hx1 hx2 hbl hgl hgg x6 y6 E1 y1 hd B6 h6 HW;obtain ⟨w4, ew4⟩ : ∃ w4, w4 = w11 := ⟨_, rfl⟩;rw [← ew4] at h HB hp ⊢;clear ew4;have hx0 : w4.cell? ⟨gb, 0, none⟩ = some (.slice (some ⟨gl, 0, none⟩) n cl) := h.box.zb.1;have hx1 : w4.cell? ⟨gb, 1, none⟩ = some (.slice (some ⟨gd, 0, none⟩) nd cd) := by rw [zu HND]; exact h.box.zb.2.1
   have hx2 : w4.cell? ⟨gb, 2, none⟩ = some (.slice (some ⟨gg, 0, none⟩) n cg) := h.box.zb.2.2.1;have hbl := h.box.lt;have hgl : gl < w4.heap.size := h.r.l.lt.2;have hgg : gg < w4.heap.size := h.r.g.lt.2;obtain ⟨u7, l7, ci, hl7, _, x7, y7⟩ := h.r.g.ex hi;obtain ⟨li, eli⟩ : ∃ li, li = l7 := ⟨_, rfl⟩;rw [← eli] at x7 y7;have HLI2 := zh (show li = i from eli.trans (hl7.trans (zu HGI)));clear eli hl7;have hli9 : li ≤ 1000 := by have := zu HLI2; omega
   have hmx : max li (lj + 1) = li := by have := zu HLI2; have := zu HLJ2; omega
   have HMX := zh hmx;clear hmx
   go_upto_region 4 with fail
   have HW : Below w4.heap.size w4 w4.drew := (Below.refl _ _).drew;have HS := zh fun w' (HW : Below w4.heap.size w4 w') => con2 ((HW.cell (p := ⟨gb, 2, none⟩) hbl).trans hx2) ((HW.cell (p := ⟨gg, i, none⟩) hgg).trans x7);refine zst HS HW 15 (by kernel_rfl) fun zH => ?_;refine ztl 0 rfl ?_;simp only [Act.put, aGet, aZero, aSet, aHead, aTail];refine ztl 1 rfl ?_;simp only [zP];refine ztl 2 rfl ?_;simp only [zP];refine ztl 3 rfl ?_;simp only [zP];refine ztl 4 rfl ?_;simp only [zP];refine ztl 5 rfl ?_;simp only [zP];refine ztl 6 rfl ?_;simp only [zP];refine ztl 7 rfl ?_;simp only [zP];refine ztl 8 rfl ?_;simp only [zP];refine ztl 9 rfl ?_;simp only [zP];refine ztl 10 rfl ?_;simp only [zP];refine ztl 11 rfl ?_;simp only [zP];refine ztl 12 rfl ?_;simp only [zP];refine tin 13 rfl fun K hK => ?_;go_simp;refine (vsubO _ li ci (gs.getD i []) k _ (lj + 1) cp (vtimes (gs.getD j []) q ++ [d * q]) (k + (k + 1)) _ ((y7.za HW).vf.vk (by omega)) ((hp.za HW).vf.vk (by omega)) (by omega) (by omega) (by omega) (by omega)).mono ?_;rintro e w9 ⟨us1, cs1, rfl, hs, hb9⟩;replace HW := Below.step HW hb9;clear hb9;rw [zu HMX] at hs ⊢;replace hs := hs.from (show w4.heap.size ≤ w4.drew.heap.size from Nat.le_refl _);refine hK.out _ _ ?_ (fun zH => ?_)
   ·exact zu HS _ HW
   clear hK K
   try simp only [zP]
   refine ztl 14 rfl ?_;simp only [zP];have q1 := (HW.cell (p := ⟨gg, i, none⟩) hgg).trans x7;have q2 := (h.za HW).r.g.own.free i;refine tout 15 rfl fun K hK => ?_;go_simp;refine hK.out _ _ ?_;clear hK K
   try simp only [zP]
   refine zdn (by kernel_rfl) ?_ _;clear zH q1 q2;replace hs := hs.tight (k := k) fun s _ => zu HFG s;have h2 := h.putG HW (by have := (zu HB).size; have := zu HBA; omega) hi hs;have HB2 := zh (((zu HB).trans (HW.mono (by have := (zu HB).size; have := zu HBA; omega))).setCell (p := ⟨gg, i, none⟩) (show base ≤ gg from h.r.g.lt.1) (.slice (some ⟨us1, 0, none⟩) li cs1));clear hx0 hx1 hx2 hbl hgl hgg x7 y7 hs HW h HB hp HFG;go_wp2
   first
    | go_end0
    | refine bodyPost_ret (results_none rfl _ _ _) rfl ?_
   exact ⟨q, _, rfl, by rw [← zu EX, ← zu ED]; exact zu HQ, by rw [← zu ED]; exact h2, zu HB2⟩
  refine zmd 3 #[tT, tT, tT, tT, tT, tT, tT, tT, tT, tT, tT, tT, tT, tT, tT, tT, tT, tT, tT, tT, tT, tT, tF, tF, tF] (ι := Bool × Option Addr × Nat × Nat) (fun (b6, a6, l6, c6) => ((((act0.put (some 32) (.tuple #[.agg #[.bool b6, .slice a6 l6 c6], .bool true])).put (some 13) (.tuple #[.agg #[.bool b6, .slice a6 l6 c6], .bool true])).put (some 33) (.agg #[.bool b6, .slice a6 l6 c6])).put (some 34) (.bool true))) (fun (b6, a6, l6, c6) wz => Below w1.heap.size w1 wz ∧ FK wz b6 a6 l6 c6 (near x d) (max k 2 + 1)) ?_ (fun J1 => ?_)
  ·rintro ⟨b6, a6, l6, c6⟩ wj hI
   try dsimp only at hI ⊢
   obtain ⟨HW, h6⟩ := hI;have zH := zu HS _ HW;rw [zu HA];simp only [Act.put, aSet, aHead, aTail];refine tin 22 rfl fun K hK => ?_;go_simp;have hwk : w1.heap.size ≤ wj.heap.size := HW.size;obtain ⟨wk, hWe⟩ := newB wj;obtain ⟨B6, hb9⟩ := boxes1 wj false none 0 0 hWe;rw [← hWe];clear hWe;replace HW := Below.step HW hb9;replace h6 := h6.za hb9;clear hb9;have hg6 := hwk;refine hK.out _ _ ?_ (fun zH => ?_)
   ·exact zu HS _ HW
   clear hK K
   try simp only [aSet, aHead, aTail]
   exact tgo J0 (b6, a6, l6, c6, wj.heap.size) (by (try dsimp only); rw [zu HA]; simp only [Act.put, aSet, aHead, aTail]) (by (try dsimp only); exact ⟨HW, h6, B6, hg6⟩)
  refine zmd 6 #[tT, tT, tT, tT, tT, tT, tT, tT, tT, tT, tT, tT, tT, tT, tT, tT, tT, tT, tF, tF, tF, tF, tT, tF, tF] (ι := Nat) (fun g6 => (act0.put (some 6) ((.pointer (some ⟨g6, 0, none⟩))))) (fun g6 wz => Below w1.heap.size w1 wz ∧ Box wz g6 false none 0 0 ∧ w1.heap.size ≤ g6) ?_ (fun J2 => ?_)
  ·rintro g6 wj hI
   try dsimp only at hI ⊢
   obtain ⟨HW, B6, hg6⟩ := hI;have zH := zu HS _ HW;rw [zu HA];simp only [Act.put, aSet, aHead, aTail];refine tin 18 rfl fun K hK => ?_;go_simp;refine (nearK b2 a2 l2 c2 x k b1 a1 l1 c1 d k _ ((y2.za HW).ik (by omega)) ((y1.za HW).ik (by omega)) (by have := zu HD0; omega) (by omega) (by omega)).mono ?_;rintro e wk ⟨b6, a6, l6, c6, rfl, h6, hb9⟩;replace HW := Below.step HW hb9;replace B6 := B6.za hb9;clear hb9;refine hK.out _ _ ?_ (fun zH => ?_)
   ·exact zu HS _ HW
   clear hK K
   try simp only [aSet, aHead, aTail]
   refine zfl 19 rfl ?_;simp only [zP];refine zfl 20 rfl ?_;simp only [zP];refine zfl 21 rfl ?_;simp only [zP];exact tgo J0 (b6, a6, l6, c6, g6) (by (try dsimp only); rw [zu HA]; simp only [Act.put, aSet, aHead, aTail]) (by (try dsimp only); exact ⟨HW, h6, B6, hg6⟩)
  rw [zu HA];refine ttwo 18 22 rfl rfl (fun K hK => ?_) (fun K hK => ?_)
  ·go_simp;refine (nearK b2 a2 l2 c2 x k b1 a1 l1 c1 d k _ ((y2.za HW).ik (by omega)) ((y1.za HW).ik (by omega)) (by have := zu HD0; omega) (by omega) (by omega)).mono ?_;rintro e wk ⟨b6, a6, l6, c6, rfl, h6, hb9⟩;replace HW := Below.step HW hb9;clear hb9;refine hK.out _ _ ?_ (fun zH => ?_)
   ·exact zu HS _ HW
   clear hK K
   try simp only [aSet, aHead, aTail]
   refine zfl 19 rfl ?_;simp only [zP];refine zfl 20 rfl ?_;simp only [zP];refine zfl 21 rfl ?_;simp only [zP];exact tgo J1 (b6, a6, l6, c6) (by (try dsimp only); rw [zu HA]; simp only [Act.put, aSet, aHead, aTail]) (by (try dsimp only); exact ⟨HW, h6⟩)
  ·go_simp;have hwk : w1.heap.size ≤ vd1.heap.size := HW.size;obtain ⟨wk, hWe⟩ := newB vd1;obtain ⟨B6, hb9⟩ := boxes1 vd1 false none 0 0 hWe;rw [← hWe];clear hWe;replace HW := Below.step HW hb9;clear hb9;have hg6 := hwk;refine hK.out _ _ ?_ (fun zH => ?_)
   ·exact zu HS _ HW
   clear hK K
   try simp only [aSet, aHead, aTail]
   exact tgo J2 vd1.heap.size (by (try dsimp only); rw [zu HA]; simp only [Act.put, aSet, aHead, aTail]) (by (try dsimp only); exact ⟨HW, B6, hg6⟩)
end Go.Proofs.YtnpneloahajniaaGreat
