/-
 Rows of three Ints (the struct row of package bezout): what a block of one holds, one written anew.
-/
import Derived.Test.YtnpneloahajniaaGreatJE
import Derived.Test.YtnpneloahajniaaGreatBLcm
import Derived.Test.YtnpneloahajniaaGreatBNum
namespace Go.Proofs.YtnpneloahajniaaGreat
open Go.RowKit Lb
set_option maxRecDepth 20000

def Box6 (w : World) (g : Nat) (bp0 : Bool) (ap0 : Option Addr) (lp0 cp0 : Nat) (bp1 : Bool) (ap1 : Option Addr) (lp1 cp1 : Nat) (bp2 : Bool) (ap2 : Option Addr) (lp2 cp2 : Nat) : Prop := w.heap[g]? = some (.cells #[.bool bp0, .slice ap0 lp0 cp0, .bool bp1, .slice ap1 lp1 cp1, .bool bp2, .slice ap2 lp2 cp2] 129)
theorem Box6.lt {w : World} {g : Nat} {bp0 : Bool} {ap0 : Option Addr} {lp0 cp0 : Nat} {bp1 : Bool} {ap1 : Option Addr} {lp1 cp1 : Nat} {bp2 : Bool} {ap2 : Option Addr} {lp2 cp2 : Nat} (h : Box6 w g bp0 ap0 lp0 cp0 bp1 ap1 lp1 cp1 bp2 ap2 lp2 cp2) : g < w.heap.size := lt_of_block h
theorem Box6.zb {w : World} {g : Nat} {bp0 : Bool} {ap0 : Option Addr} {lp0 cp0 : Nat} {bp1 : Bool} {ap1 : Option Addr} {lp1 cp1 : Nat} {bp2 : Bool} {ap2 : Option Addr} {lp2 cp2 : Nat} (h : Box6 w g bp0 ap0 lp0 cp0 bp1 ap1 lp1 cp1 bp2 ap2 lp2 cp2) : EltAt w g 0 bp0 ap0 lp0 cp0 ∧ EltAt w g 2 bp1 ap1 lp1 cp1 ∧ EltAt w g 4 bp2 ap2 lp2 cp2 := by
 have hl := h.lt;unfold Box6 at h;refine ⟨⟨hl, ?_, ?_⟩, ⟨hl, ?_, ?_⟩, ⟨hl, ?_, ?_⟩⟩ <;> simp [World.cell?, h]
theorem Box6.free {w : World} {g : Nat} {bp0 : Bool} {ap0 : Option Addr} {lp0 cp0 : Nat} {bp1 : Bool} {ap1 : Option Addr} {lp1 cp1 : Nat} {bp2 : Bool} {ap2 : Option Addr} {lp2 cp2 : Nat} (h : Box6 w g bp0 ap0 lp0 cp0 bp1 ap1 lp1 cp1 bp2 ap2 lp2 cp2) (j : Nat) : w.frozen? ⟨g, j, none⟩ = false := by
 unfold Box6 at h;simp [World.frozen?, h]
theorem Box6.noLimb {w : World} {g : Nat} {bp0 : Bool} {ap0 : Option Addr} {lp0 cp0 : Nat} {bp1 : Bool} {ap1 : Option Addr} {lp1 cp1 : Nat} {bp2 : Bool} {ap2 : Option Addr} {lp2 cp2 : Nat} (h : Box6 w g bp0 ap0 lp0 cp0 bp1 ap1 lp1 cp1 bp2 ap2 lp2 cp2) : NoLimb w g := by
 intro j k e;unfold Box6 at h
 match j with
 | 0 => simp [World.cell?, h] at e
 | 1 => simp [World.cell?, h] at e
 | 2 => simp [World.cell?, h] at e
 | 3 => simp [World.cell?, h] at e
 | 4 => simp [World.cell?, h] at e
 | 5 => simp [World.cell?, h] at e
 | j + 6 => simp [World.cell?, h] at e
theorem Box6.za {w w' : World} {g : Nat} {bp0 : Bool} {ap0 : Option Addr} {lp0 cp0 : Nat} {bp1 : Bool} {ap1 : Option Addr} {lp1 cp1 : Nat} {bp2 : Bool} {ap2 : Option Addr} {lp2 cp2 : Nat} (h : Box6 w g bp0 ap0 lp0 cp0 bp1 ap1 lp1 cp1 bp2 ap2 lp2 cp2) (hb : Below w.heap.size w w') : Box6 w' g bp0 ap0 lp0 cp0 bp1 ap1 lp1 cp1 bp2 ap2 lp2 cp2 := by
 unfold Box6 at *;rw [hb.block g (lt_of_block h)]; exact h
theorem Box6.grown {w w' : World} {g : Nat} {row : Option Nat} {bp0 : Bool} {ap0 : Option Addr} {lp0 cp0 : Nat} {bp1 : Bool} {ap1 : Option Addr} {lp1 cp1 : Nat} {bp2 : Bool} {ap2 : Option Addr} {lp2 cp2 : Nat} (h : Box6 w g bp0 ap0 lp0 cp0 bp1 ap1 lp1 cp1 bp2 ap2 lp2 cp2) (hg : w.grownBy w' row) (hr : row ≠ some g) : Box6 w' g bp0 ap0 lp0 cp0 bp1 ap1 lp1 cp1 bp2 ap2 lp2 cp2 := by
 unfold Box6 at *;rw [hg.block g (lt_of_block h) (fun e => hr e.symm)]; exact h
theorem box6_new (w : World) (bp0 : Bool) (ap0 : Option Addr) (lp0 cp0 : Nat) (bp1 : Bool) (ap1 : Option Addr) (lp1 cp1 : Nat) (bp2 : Bool) (ap2 : Option Addr) (lp2 cp2 : Nat) {W : World} (hW : W = w.alloc (.cells #[.bool bp0, .slice ap0 lp0 cp0, .bool bp1, .slice ap1 lp1 cp1, .bool bp2, .slice ap2 lp2 cp2] 129)) : Box6 W w.heap.size bp0 ap0 lp0 cp0 bp1 ap1 lp1 cp1 bp2 ap2 lp2 cp2 ∧ Below w.heap.size w W := by
 subst hW;refine ⟨?_, below_new w _⟩;unfold Box6;show (w.heap.push _)[w.heap.size]? = _;simp
def put6 (w : World) (g : Nat) (bp0 : Bool) (ap0 : Option Addr) (lp0 cp0 : Nat) (bp1 : Bool) (ap1 : Option Addr) (lp1 cp1 : Nat) (bp2 : Bool) (ap2 : Option Addr) (lp2 cp2 : Nat) : World := ((((((w.setCell ⟨g, 0, none⟩ (.bool bp0)).setCell ⟨g, 1, none⟩ (.slice ap0 lp0 cp0)).setCell ⟨g, 2, none⟩ (.bool bp1)).setCell ⟨g, 3, none⟩ (.slice ap1 lp1 cp1)).setCell ⟨g, 4, none⟩ (.bool bp2)).setCell ⟨g, 5, none⟩ (.slice ap2 lp2 cp2))
theorem Box6.put {w : World} {g : Nat} {bp0 : Bool} {ap0 : Option Addr} {lp0 cp0 : Nat} {bp1 : Bool} {ap1 : Option Addr} {lp1 cp1 : Nat} {bp2 : Bool} {ap2 : Option Addr} {lp2 cp2 : Nat} (h : Box6 w g bp0 ap0 lp0 cp0 bp1 ap1 lp1 cp1 bp2 ap2 lp2 cp2) (bq0 : Bool) (aq0 : Option Addr) (lq0 cq0 : Nat) (bq1 : Bool) (aq1 : Option Addr) (lq1 cq1 : Nat) (bq2 : Bool) (aq2 : Option Addr) (lq2 cq2 : Nat) : Box6 (put6 w g bq0 aq0 lq0 cq0 bq1 aq1 lq1 cq1 bq2 aq2 lq2 cq2) g bq0 aq0 lq0 cq0 bq1 aq1 lq1 cq1 bq2 aq2 lq2 cq2 := by
 unfold Box6 put6 at *;rw [Joins.block_setCell (Joins.block_setCell (Joins.block_setCell (Joins.block_setCell (Joins.block_setCell (Joins.block_setCell h _) _) _) _) _) _];simp
theorem grown_put6 (w : World) (g : Nat) (bp0 : Bool) (ap0 : Option Addr) (lp0 cp0 : Nat) (bp1 : Bool) (ap1 : Option Addr) (lp1 cp1 : Nat) (bp2 : Bool) (ap2 : Option Addr) (lp2 cp2 : Nat) : w.grownBy (put6 w g bp0 ap0 lp0 cp0 bp1 ap1 lp1 cp1 bp2 ap2 lp2 cp2) (some g) :=
 (((((grown_set1 w g 0 _).trans (grown_set1 _ g 1 _)).trans (grown_set1 _ g 2 _)).trans (grown_set1 _ g 3 _)).trans (grown_set1 _ g 4 _)).trans (grown_set1 _ g 5 _)
theorem Below.put6 {B : Nat} {w w2 : World} (h : Below B w w2) {g : Nat} (hB : B ≤ g) (bp0 : Bool) (ap0 : Option Addr) (lp0 cp0 : Nat) (bp1 : Bool) (ap1 : Option Addr) (lp1 cp1 : Nat) (bp2 : Bool) (ap2 : Option Addr) (lp2 cp2 : Nat) : Below B w (Go.Proofs.YtnpneloahajniaaGreat.put6 w2 g bp0 ap0 lp0 cp0 bp1 ap1 lp1 cp1 bp2 ap2 lp2 cp2) := (((((h.setCell (by simpa using hB) _).setCell (by simpa using hB) _).setCell (by simpa using hB) _).setCell (by simpa using hB) _).setCell (by simpa using hB) _).setCell (by simpa using hB) _
/-
 What step of package bezout tells: Euclid's rule, once.
-/

set_option maxHeartbeats 2000000 in
theorem stepK (bp0 : Bool) (ap0 : Option Addr) (lp0 cp0 : Nat) (bp1 : Bool) (ap1 : Option Addr) (lp1 cp1 : Nat) (bp2 : Bool) (ap2 : Option Addr) (lp2 cp2 : Nat) (bq0 : Bool) (aq0 : Option Addr) (lq0 cq0 : Nat) (bq1 : Bool) (aq1 : Option Addr) (lq1 cq1 : Nat) (bq2 : Bool) (aq2 : Option Addr) (lq2 cq2 : Nat) (p0 p1 p2 q0 q1 q2 : Int) (kk : Nat) (w : World) (hp0 : FK w bp0 ap0 lp0 cp0 p0 kk) (hq0 : FK w bq0 aq0 lq0 cq0 q0 kk) (hp1 : FK w bp1 ap1 lp1 cp1 p1 kk) (hq1 : FK w bq1 aq1 lq1 cq1 q1 kk) (hp2 : FK w bp2 ap2 lp2 cp2 p2 kk) (hq2 : FK w bq2 aq2 lq2 cq2 q2 kk) (hkk0 : kk ≤ 90000) (h0 : q0 ≠ 0) :
  Calls Tryz.prog 121 #[.agg #[.bool bp0, .slice ap0 lp0 cp0, .bool bp1, .slice ap1 lp1 cp1, .bool bp2, .slice ap2 lp2 cp2], .agg #[.bool bq0, .slice aq0 lq0 cq0, .bool bq1, .slice aq1 lq1 cq1, .bool bq2, .slice aq2 lq2 cq2]] w fun e w' => ∃ b0 a0 l0 c0 b1 a1 l1 c1 b2 a2 l2 c2, e = .returned (.agg #[.bool b0, .slice a0 l0 c0, .bool b1, .slice a1 l1 c1, .bool b2, .slice a2 l2 c2]) ∧
   FK w' b0 a0 l0 c0 (p0.tmod q0) kk ∧ FK w' b1 a1 l1 c1 (p1 - p0.tdiv q0 * q1) (max kk (kk + kk) + 1) ∧ FK w' b2 a2 l2 c2 (p2 - p0.tdiv q0 * q2) (max kk (kk + kk) + 1) ∧ Below w.heap.size w w' := by
 have hkk : kk ≤ 999990 := by omega
 go_enter Tryz.func121, Tryz.ntmps121
 go_wp2_with fail
 obtain ⟨W1, hW1⟩ : ∃ W1, W1 = w.alloc (.cells #[.bool bp0, .slice ap0 lp0 cp0, .bool bp1, .slice ap1 lp1 cp1, .bool bp2, .slice ap2 lp2 cp2] 129) := ⟨_, rfl⟩;obtain ⟨C0, hb1⟩ := box6_new w bp0 ap0 lp0 cp0 bp1 ap1 lp1 cp1 bp2 ap2 lp2 cp2 hW1;obtain ⟨W2, hW2⟩ : ∃ W2, W2 = W1.alloc (.cells #[.bool bq0, .slice aq0 lq0 cq0, .bool bq1, .slice aq1 lq1 cq1, .bool bq2, .slice aq2 lq2 cq2] 129) := ⟨_, rfl⟩;obtain ⟨C1, hb2⟩ := box6_new W1 bq0 aq0 lq0 cq0 bq1 aq1 lq1 cq1 bq2 aq2 lq2 cq2 hW2;obtain ⟨W3, hW3⟩ : ∃ W3, W3 = W2.alloc (.cells #[.bool false, .slice none 0 0, .bool false, .slice none 0 0, .bool false, .slice none 0 0] 129) := ⟨_, rfl⟩;obtain ⟨C2, hb3⟩ := box6_new W2 false none 0 0 false none 0 0 false none 0 0 hW3;have e1 : W1.heap.size = w.heap.size + 1 := by rw [hW1]; simp
 have e2 : W2.heap.size = w.heap.size + 1 + 1 := by rw [hW2]; simp [e1]
 rw [e1] at C1;rw [e2] at C2;rw [← hW1, ← hW2, ← hW3];clear hW1 hW2 hW3;replace C0 := (C0.za hb2).za hb3;replace C1 := C1.za hb3;have HB := zh (Below.step (Below.step hb1 hb2) hb3);clear hb1 hb2 hb3 e1 e2;replace hp0 := hp0.za (zu HB);replace hp1 := hp1.za (zu HB);replace hp2 := hp2.za (zu HB);replace hq0 := hq0.za (zu HB);replace hq1 := hq1.za (zu HB);replace hq2 := hq2.za (zu HB);refine (quoK bp0 ap0 lp0 cp0 p0 kk bq0 aq0 lq0 cq0 q0 kk _ (hp0.ik hkk) (hq0.ik hkk) h0).mono ?_;rintro e w4 ⟨bt, at', lt, ct, bl, al, ll, cl, rfl, ht, hl, hb9⟩;replace C0 := C0.za hb9;replace C1 := C1.za hb9;replace C2 := C2.za hb9;replace hp1 := hp1.za hb9;replace hp2 := hp2.za hb9;replace hq1 := hq1.za hb9;replace hq2 := hq2.za hb9;replace HB := zh (Below.step (zu HB) hb9);clear hb9 hp0 hq0
 go_upto_region 2 with fail
 obtain ⟨W5, hW5⟩ : ∃ W5, W5 = ((w4.alloc (.cells #[.bool bt, .slice at' lt ct] 45)).alloc (.cells #[.bool bl, .slice al ll cl] 45)) := ⟨_, rfl⟩;obtain ⟨D0, D1, hb9⟩ := boxes2 w4 bt at' lt ct bl al ll cl hW5;have hsz := C2.lt;rw [← hW5];clear hW5;replace C0 := C0.za hb9;replace C1 := C1.za hb9;replace C2 := C2.za hb9;replace hp1 := hp1.za hb9;replace hp2 := hp2.za hb9;replace hq1 := hq1.za hb9;replace hq2 := hq2.za hb9;replace ht := ht.za hb9;replace hl := hl.za hb9;replace HB := zh (Below.step (zu HB) hb9);clear hb9;obtain ⟨X0, X1, X2⟩ := C0.zb;obtain ⟨Y0, Y1, Y2⟩ := C1.zb;have HW : Below W5.heap.size W5 W5.drew := (Below.refl _ _).drew;have HS := zh fun w' (HW : Below W5.heap.size W5 w') => con12 (D1.za HW).zb.1 (D1.za HW).zb.2.1 (D0.za HW).zb.1 (D0.za HW).zb.2.1 (X1.za HW).zb.1 (X1.za HW).zb.2 (X2.za HW).zb.1 (X2.za HW).zb.2 (Y1.za HW).zb.1 (Y1.za HW).zb.2 (Y2.za HW).zb.1 (Y2.za HW).zb.2;refine zst HS HW 16 (by kernel_rfl) fun zH => ?_;refine ztl 0 rfl ?_;simp only [Act.put, aGet, aZero, aSet, aHead, aTail];refine ztl 1 rfl ?_;simp only [zP];refine ztl 2 rfl ?_;simp only [zP];refine ztl 3 rfl ?_;simp only [zP];refine ztl 4 rfl ?_;simp only [zP];refine ztl 5 rfl ?_;simp only [zP];refine ztl 8 rfl ?_;simp only [zP];refine ztl 9 rfl ?_;simp only [zP];refine ztl 10 rfl ?_;simp only [zP];refine ztl 11 rfl ?_;simp only [zP];refine ztl 12 rfl ?_;simp only [zP];refine tin 6 rfl fun K hK => ?_;go_simp;refine (mulK bt at' lt ct (p0.tdiv q0) kk bq1 aq1 lq1 cq1 q1 kk _ ((ht.za HW).ik hkk) ((hq1.za HW).ik hkk)).mono ?_;rintro e w9 ⟨bm, am, lm, cm, rfl, hm, hb9⟩;replace HW := Below.step HW hb9;clear hb9;refine hK.out _ _ ?_ (fun zH => ?_)
 ·exact zu HS _ HW
 clear hK K
 try simp only [zP]
 refine tin 7 rfl fun K hK => ?_;go_simp;refine (subK bp1 ap1 lp1 cp1 p1 kk bm am lm cm ((p0.tdiv q0) * q1) (kk + kk) _ ((hp1.za HW).ik hkk) (hm.ik (by omega))).mono ?_;rintro e w9 ⟨bu, au, lu, cu, rfl, hu, hb9⟩;replace HW := Below.step HW hb9;clear hb9;clear hm;refine hK.out _ _ ?_ (fun zH => ?_)
 ·exact zu HS _ HW
 clear hK K
 try simp only [zP]
 refine tin 13 rfl fun K hK => ?_;go_simp;refine (mulK bt at' lt ct (p0.tdiv q0) kk bq2 aq2 lq2 cq2 q2 kk _ ((ht.za HW).ik hkk) ((hq2.za HW).ik hkk)).mono ?_;rintro e w9 ⟨bn, an, ln, cn, rfl, hn, hb9⟩;replace HW := Below.step HW hb9;replace hu := hu.za hb9;clear hb9;refine hK.out _ _ ?_ (fun zH => ?_)
 ·exact zu HS _ HW
 clear hK K
 try simp only [zP]
 refine tin 14 rfl fun K hK => ?_;go_simp;refine (subK bp2 ap2 lp2 cp2 p2 kk bn an ln cn ((p0.tdiv q0) * q2) (kk + kk) _ ((hp2.za HW).ik hkk) (hn.ik (by omega))).mono ?_;rintro e w9 ⟨bv, av, lv, cv, rfl, hv, hb9⟩;replace HW := Below.step HW hb9;replace hu := hu.za hb9;clear hb9;clear hn;obtain ⟨⟨_, r0, r1⟩, ⟨_, r2, r3⟩, ⟨_, r4, r5⟩⟩ := (C2.za HW).zb;have fz := (C2.za HW).free;have hs9 := (C2.za HW).lt;refine hK.out _ _ ?_ (fun zH => ?_)
 ·exact zu HS _ HW
 clear hK K
 try simp only [zP]
 refine ztl 15 rfl ?_;simp only [zP];refine tout 16 rfl fun K hK => ?_;go_simp;refine hK.out _ _ ?_;clear hK K
 try simp only [zP]
 refine zdn (by kernel_rfl) ?_ _;go_wp2;refine bodyPost_ret (v := .agg #[.bool bl, .slice al ll cl, .bool bu, .slice au lu cu, .bool bv, .slice av lv cv]) (by simp [results, Tryz.results121, go_sem, *]) rfl ⟨_, _, _, _, _, _, _, _, _, _, _, _, rfl, ?_⟩;have hgr := grown_put6 w9 (w.heap.size + 1 + 1) bl al ll cl bu au lu cu bv av lv cv;have hnl := noLimb_some (C2.za HW).noLimb;exact ⟨(hl.za HW).grown hgr hnl, hu.grown hgr hnl, hv.grown hgr hnl, Below.put6 (Below.step (zu HB) HW) (by omega) bl al ll cl bu au lu cu bv av lv cv⟩

/-
 What Ext of package bezout tells.
-/

def RowK (w : World) (g : Nat) (p0 p1 p2 : Int) (kk : Nat) : Prop := ∃ bp0 ap0 lp0 cp0 bp1 ap1 lp1 cp1 bp2 ap2 lp2 cp2, Box6 w g bp0 ap0 lp0 cp0 bp1 ap1 lp1 cp1 bp2 ap2 lp2 cp2 ∧ FK w bp0 ap0 lp0 cp0 p0 kk ∧ FK w bp1 ap1 lp1 cp1 p1 kk ∧ FK w bp2 ap2 lp2 cp2 p2 kk
theorem Bp_more {n m l kk : Nat} (h : n < Bp l) (hm : m ≤ n + 1) (hl : l < kk) : m < Bp kk := by
 have h1 := Bp_le (show l + 1 ≤ kk by omega);have h2 := Bp_succ l;have h3 := Bp_pos l;omega
theorem ext_lt {a b p0 p1 p2 q0 q1 q2 : Int} {k l kk : Nat} (h : ExtIn a b p0 p1 p2 q0 q1 q2) (ha : a.natAbs < Bp k) (hb : b.natAbs < Bp l) (hk : k < kk) (hl : l < kk) :
  p0.natAbs < Bp kk ∧ p1.natAbs < Bp kk ∧ p2.natAbs < Bp kk ∧ q0.natAbs < Bp kk ∧ q1.natAbs < Bp kk ∧ q2.natAbs < Bp kk := by
 have ha' : a.natAbs < Bp kk := Bp_more ha (by omega) hk;have hb' : b.natAbs < Bp kk := Bp_more hb (by omega) hl;have h1 := h.np;have h2 := h.nq;exact ⟨by omega, Bp_more hb h.c1.2.2.1 hl, Bp_more ha h.c2.2.2.1 hk, by omega, Bp_more hb h.c1.2.2.2 hl, Bp_more ha h.c2.2.2.2 hk⟩
theorem EltAt.other {w : World} {g o g' : Nat} {b : Bool} {a : Option Addr} {l c : Nat} (h : EltAt w g o b a l c) (hne : g ≠ g') (b' : Bool) (a' : Option Addr) (l' c' : Nat) : EltAt (put w g' b' a' l' c') g o b a l c :=
 h.of_block (Nat.le_of_eq (put_size w g' b' a' l' c').symm) (put_other hne b' a' l' c')

set_option maxHeartbeats 8000000 in
theorem extK (b : Bool) (aa : Option Addr) (la ca : Nat) (x : Int) (k : Nat) (b' : Bool) (ab : Option Addr) (lb cb : Nat) (y : Int) (l : Nat) (w : World) (hx : IK w b aa la ca x k) (hy : IK w b' ab lb cb y l) (hk : k ≤ 80000) (hl : l ≤ 80000) :
  Calls Tryz.prog 115 #[.agg #[.bool b, .slice aa la ca], .agg #[.bool b', .slice ab lb cb]] w fun e w' => ∃ b1 a1 l1 c1 b2 a2 l2 c2 b3 a3 l3 c3, e = .returned (.tuple #[.agg #[.bool b1, .slice a1 l1 c1], .agg #[.bool b2, .slice a2 l2 c2], .agg #[.bool b3, .slice a3 l3 c3]]) ∧ FK w' b1 a1 l1 c1 (extG x y) (max k l + 1) ∧ FK w' b2 a2 l2 c2 (extX x y) (max k l + 1) ∧ FK w' b3 a3 l3 c3 (extY x y) (max k l + 1) ∧ Below w.heap.size w w' := by
 obtain ⟨kk, ek⟩ : ∃ kk, kk = max k l + 1 := ⟨_, rfl⟩;rw [← ek];have hk1 : k < kk := by omega
 have hl1 : l < kk := by omega
 have hkk0 : kk ≤ 90000 := by omega
 have hkk : kk ≤ 999990 := by omega
 have LX := zh hx.2.2;have LY := zh hy.2.2;clear ek;go_enter Tryz.func115, Tryz.ntmps115
 go_wp2_with fail
 obtain ⟨W, hWe⟩ : ∃ W, W = (((((w.alloc (.cells #[.bool b, .slice aa la ca] 45)).alloc (.cells #[.bool b', .slice ab lb cb] 45)).alloc (.cells #[.bool false, .slice none 0 0] 45)).alloc (.cells #[.bool false, .slice none 0 0] 45)).alloc (.cells #[.bool false, .slice none 0 0] 45)) := ⟨_, rfl⟩;obtain ⟨B0, B1, B2, B3, B4, hb0⟩ := boxes5 w b aa la ca b' ab lb cb false none 0 0 false none 0 0 false none 0 0 hWe;rw [← hWe];clear hWe B0;replace hx := hx.za hb0;replace hy := hy.za hb0;have HB := zh hb0;clear hb0;have hs4 := B4.lt;refine (formK _ _ _ _ x k _ hx).mono ?_;rintro e v1 ⟨b1, a1, l1, c1, rfl, h1, hb9⟩;replace B1 := B1.za hb9;replace B2 := B2.za hb9;replace B3 := B3.za hb9;replace B4 := B4.za hb9;replace hy := hy.za hb9;replace HB := zh (Below.step (zu HB) hb9);clear hb9 hx
 go_wp2_with fail
 refine (ofK 1 _ (by omega) (by omega)).mono ?_;rintro e v2 ⟨b2, a2, l2, c2, rfl, h2, hb9⟩;replace B1 := B1.za hb9;replace B2 := B2.za hb9;replace B3 := B3.za hb9;replace B4 := B4.za hb9;replace hy := hy.za hb9;replace h1 := h1.za hb9;replace HB := zh (Below.step (zu HB) hb9);clear hb9;obtain ⟨f1, f2, _, _⟩ := B1.zb;have hs1 := B1.lt
 go_wp2_with fail
 obtain ⟨W3, hW3⟩ : ∃ W3, W3 = v2.alloc (.cells #[.bool b1, .slice a1 l1 c1, .bool b2, .slice a2 l2 c2, .bool false, .slice none 0 0] 129) := ⟨_, rfl⟩;obtain ⟨C7, hb9⟩ := box6_new v2 b1 a1 l1 c1 b2 a2 l2 c2 false none 0 0 hW3;have hs7 := B4.lt;rw [← hW3];clear hW3 f1 f2 hs1;replace B1 := B1.za hb9;replace B2 := B2.za hb9;replace B3 := B3.za hb9;replace B4 := B4.za hb9;replace hy := hy.za hb9;replace h1 := h1.za hb9;replace h2 := h2.za hb9;replace HB := zh (Below.step (zu HB) hb9);clear hb9;refine (formK _ _ _ _ y l _ hy).mono ?_;rintro e v3 ⟨b3, a3, l3, c3, rfl, h3, hb9⟩;replace B1 := B1.za hb9;replace B2 := B2.za hb9;replace B3 := B3.za hb9;replace B4 := B4.za hb9;replace hy := hy.za hb9;replace h1 := h1.za hb9;replace h2 := h2.za hb9;replace C7 := C7.za hb9;replace HB := zh (Below.step (zu HB) hb9);clear hb9;clear hy
 go_wp2_with fail
 refine (ofK 1 _ (by omega) (by omega)).mono ?_;rintro e v4 ⟨b4, a4, l4, c4, rfl, h4, hb9⟩;replace B1 := B1.za hb9;replace B2 := B2.za hb9;replace B3 := B3.za hb9;replace B4 := B4.za hb9;replace h1 := h1.za hb9;replace h2 := h2.za hb9;replace C7 := C7.za hb9;replace h3 := h3.za hb9;replace HB := zh (Below.step (zu HB) hb9);clear hb9
 go_wp2_with fail
 obtain ⟨W5, hW5⟩ : ∃ W5, W5 = v4.alloc (.cells #[.bool b3, .slice a3 l3 c3, .bool false, .slice none 0 0, .bool b4, .slice a4 l4 c4] 129) := ⟨_, rfl⟩;obtain ⟨C8, hb9⟩ := box6_new v4 b3 a3 l3 c3 false none 0 0 b4 a4 l4 c4 hW5;have hs8 := C7.lt;rw [← hW5];clear hW5;replace B1 := B1.za hb9;replace B2 := B2.za hb9;replace B3 := B3.za hb9;replace B4 := B4.za hb9;replace h1 := h1.za hb9;replace h2 := h2.za hb9;replace C7 := C7.za hb9;replace h3 := h3.za hb9;replace h4 := h4.za hb9;replace HB := zh (Below.step (zu HB) hb9);clear hb9;obtain ⟨g7, e7⟩ : ∃ g, g = v2.heap.size := ⟨_, rfl⟩;obtain ⟨g8, e8⟩ : ∃ g, g = v4.heap.size := ⟨_, rfl⟩;rw [← e7] at C7 hs7 hs8;rw [← e8] at C8 hs8;rw [← e7, ← e8];clear e7 e8;have hne : ¬ g8 = g7 := by omega
 have hne' : ¬ g7 = g8 := by omega
 go_loopg [] (y.natAbs) (fun g wr => ∃ p0 p1 p2 q0 q1 q2, RowK wr g7 p0 p1 p2 kk ∧ RowK wr g8 q0 q1 q2 kk ∧ Box wr (w.heap.size + 2) false none 0 0 ∧ Box wr (w.heap.size + 3) false none 0 0 ∧ Box wr (w.heap.size + 4) false none 0 0 ∧ ExtIn x y p0 p1 p2 q0 q1 q2 ∧ extR p0 p1 p2 q0 q1 q2 = extR x 1 0 y 0 1 ∧ q0.natAbs = g ∧ Below w.heap.size w wr)
 case atStart =>
  have hE := extIn_start x y;obtain ⟨m0, m1, m2, m3, m4, m5⟩ := ext_lt hE (zu LX) (zu LY) hk1 hl1;exact ⟨x, 1, 0, y, 0, 1, ⟨_, _, _, _, _, _, _, _, _, _, _, _, C7, h1.le m0, h2.le m1, fk_zero _ _⟩, ⟨_, _, _, _, _, _, _, _, _, _, _, _, C8, h3.le m3, fk_zero _ _, h4.le m5⟩, B2, B3, B4, hE, rfl, rfl, zu HB⟩
 case round =>
  clear B1 B2 B3 B4 C7 C8 h1 h2 h3 h4 HB;obtain ⟨p0, p1, p2, q0, q1, q2, ⟨bp0, ap0, lp0, cp0, bp1, ap1, lp1, cp1, bp2, ap2, lp2, cp2, C7, hp0, hp1, hp2⟩, ⟨bq0, aq0, lq0, cq0, bq1, aq1, lq1, cq1, bq2, aq2, lq2, cq2, C8, hq0, hq1, hq2⟩, B2, B3, B4, hE, hR, hg, hB⟩ := hrel;have HE := zh hE;have HR := zh hR;have HG := zh hg;have HB := zh hB;clear hE hR hg hB;obtain ⟨X0, X1, X2⟩ := C7.zb;obtain ⟨Y0, Y1, Y2⟩ := C8.zb;obtain ⟨f1, f2⟩ := Y0.zb;by_cases h0 : q0 = 0
  ·subst h0
   go_wp2_with fail
   refine (signK bq0 aq0 lq0 cq0 0 kk 0 _ (hq0.ik hkk) rfl).mono ?_;rintro e w1 ⟨rfl, hb9⟩;replace B2 := B2.za hb9;replace B3 := B3.za hb9;replace B4 := B4.za hb9;replace C7 := C7.za hb9;replace X0 := X0.za hb9;replace X1 := X1.za hb9;replace X2 := X2.za hb9;replace hp0 := hp0.za hb9;replace hp1 := hp1.za hb9;replace hp2 := hp2.za hb9;replace HB := zh (Below.step (zu HB) hb9);clear hb9 f1 f2 Y0 Y1 Y2 C8 hq0 hq1 hq2;have hEnd : extR x 1 0 y 0 1 = (p0, p1, p2) := by rw [← zu HR, extR_zero]
   have HD := zh hEnd;clear hEnd HR HE HG;obtain ⟨s, es⟩ : ∃ s, s = p0.sign := ⟨_, rfl⟩;have ES := zh es;obtain ⟨f1, f2⟩ := X0.zb;by_cases hneg : p0 < 0
   ·have hs : s < 0 := by rw [es, Int.sign_eq_neg_one_of_neg hneg]; omega
    have EG : Hid (-p0 = extG x y ∧ -p1 = extX x y ∧ -p2 = extY x y) := by unfold Hid extG extX extY; rw [zu HD]; simp [extE, hneg]
    clear es hneg HD
    go_wp2_with fail
    refine (signK bp0 ap0 lp0 cp0 p0 kk s _ (hp0.ik hkk) (zu ES)).mono ?_;rintro e w2 ⟨rfl, hb9⟩;replace B2 := B2.za hb9;replace B3 := B3.za hb9;replace B4 := B4.za hb9;replace C7 := C7.za hb9;replace X0 := X0.za hb9;replace X1 := X1.za hb9;replace X2 := X2.za hb9;replace hp0 := hp0.za hb9;replace hp1 := hp1.za hb9;replace hp2 := hp2.za hb9;replace HB := zh (Below.step (zu HB) hb9);clear hb9 f1 f2
    go_upto_region 6 with fail
    have HW : Below w2.heap.size w2 w2.drew := (Below.refl _ _).drew;have HS := zh fun w' (HW : Below w2.heap.size w2 w') => con6 (X0.za HW).zb.1 (X0.za HW).zb.2 (X1.za HW).zb.1 (X1.za HW).zb.2 (X2.za HW).zb.1 (X2.za HW).zb.2;refine zst HS HW 9 (by kernel_rfl) fun zH => ?_;refine ztl 0 rfl ?_;simp only [Act.put, aGet, aZero, aSet, aHead, aTail];refine ztl 1 rfl ?_;simp only [zP];refine ztl 3 rfl ?_;simp only [zP];refine ztl 4 rfl ?_;simp only [zP];refine ztl 6 rfl ?_;simp only [zP];refine ztl 7 rfl ?_;simp only [zP];refine tin 2 rfl fun K hK => ?_;go_simp;refine (negK bp0 ap0 lp0 cp0 p0 kk _ ((hp0.za HW).ik hkk)).mono ?_;rintro e w9 ⟨b7, a7, l7, c7, rfl, hn7, hb9⟩;replace HW := Below.step HW hb9;clear hb9;refine hK.out _ _ ?_ (fun zH => ?_)
    ·exact zu HS _ HW
    clear hK K
    try simp only [zP]
    refine tin 5 rfl fun K hK => ?_;go_simp;refine (negK bp1 ap1 lp1 cp1 p1 kk _ ((hp1.za HW).ik hkk)).mono ?_;rintro e w9 ⟨b8, a8, l8, c8, rfl, hn8, hb9⟩;replace HW := Below.step HW hb9;replace hn7 := hn7.za hb9;clear hb9;refine hK.out _ _ ?_ (fun zH => ?_)
    ·exact zu HS _ HW
    clear hK K
    try simp only [zP]
    refine tin 8 rfl fun K hK => ?_;go_simp;refine (negK bp2 ap2 lp2 cp2 p2 kk _ ((hp2.za HW).ik hkk)).mono ?_;rintro e w9 ⟨b9, a9, l9, c9, rfl, hn9, hb9⟩;replace HW := Below.step HW hb9;replace hn7 := hn7.za hb9;replace hn8 := hn8.za hb9;clear hb9;obtain ⟨q1', q2', q3, q4⟩ := (B2.za HW).zb;obtain ⟨q5, q6, q7, q8⟩ := (B3.za HW).zb;obtain ⟨q9, q10, q11, q12⟩ := (B4.za HW).zb;have hs9 := (B4.za HW).lt;refine hK.out _ _ ?_ (fun zH => ?_)
    ·exact zu HS _ HW
    clear hK K
    try simp only [zP]
    refine tout 9 rfl fun K hK => ?_;go_simp;refine hK.out _ _ ?_;clear hK K
    try simp only [zP]
    refine tout 10 rfl fun K hK => ?_;go_simp;refine hK.out _ _ ?_;clear hK K
    try simp only [zP]
    refine tout 11 rfl fun K hK => ?_;go_simp;refine hK.out _ _ ?_;clear hK K
    try simp only [zP]
    refine zdn (by kernel_rfl) ?_ _;go_wp2;refine bodyPost_ret (v := .tuple #[.agg #[.bool b7, .slice a7 l7 c7], .agg #[.bool b8, .slice a8 l8 c8], .agg #[.bool b9, .slice a9 l9 c9]]) (by simp [results, Tryz.results115, go_sem, *]) rfl ⟨_, _, _, _, _, _, _, _, _, _, _, _, rfl, ?_⟩;have n2 := (B2.za HW).noLimb;have n3 := ((B3.za HW).other (g' := w.heap.size + 2) (by omega) b7 a7 l7 c7).noLimb;have n4 := (((B4.za HW).other (g' := w.heap.size + 2) (by omega) b7 a7 l7 c7).other (g' := w.heap.size + 3) (by omega) b8 a8 l8 c8).noLimb;exact ⟨(((hn7.put n2 b7 a7 l7 c7).put n3 b8 a8 l8 c8).put n4 b9 a9 l9 c9).eq (zu EG).1, (((hn8.put n2 b7 a7 l7 c7).put n3 b8 a8 l8 c8).put n4 b9 a9 l9 c9).eq (zu EG).2.1, (((hn9.put n2 b7 a7 l7 c7).put n3 b8 a8 l8 c8).put n4 b9 a9 l9 c9).eq (zu EG).2.2, below_put (below_put (below_put (Below.step (zu HB) HW) (by omega) b7 a7 l7 c7) (by omega) b8 a8 l8 c8) (by omega) b9 a9 l9 c9⟩
   ·have hs : ¬ s < 0 := by
     rw [es];rcases Int.lt_trichotomy p0 0 with h | h | h
     ·omega
     ·rw [h]; decide
     ·rw [Int.sign_eq_one_of_pos h]; omega
    have EG : Hid (p0 = extG x y ∧ p1 = extX x y ∧ p2 = extY x y) := by unfold Hid extG extX extY; rw [zu HD]; simp [extE, hneg]
    clear es hneg HD
    go_wp2_with fail
    refine (signK bp0 ap0 lp0 cp0 p0 kk s _ (hp0.ik hkk) (zu ES)).mono ?_;rintro e w2 ⟨rfl, hb9⟩;replace B2 := B2.za hb9;replace B3 := B3.za hb9;replace B4 := B4.za hb9;replace C7 := C7.za hb9;replace X0 := X0.za hb9;replace X1 := X1.za hb9;replace X2 := X2.za hb9;replace hp0 := hp0.za hb9;replace hp1 := hp1.za hb9;replace hp2 := hp2.za hb9;replace HB := zh (Below.step (zu HB) hb9);clear hb9 f1 f2
    go_upto_region 7 with fail
    have HW : Below w2.heap.size w2 w2.drew := (Below.refl _ _).drew;obtain ⟨q1', q2', q3, q4⟩ := (B2.za HW).zb;obtain ⟨q5, q6, q7, q8⟩ := (B3.za HW).zb;obtain ⟨q9, q10, q11, q12⟩ := (B4.za HW).zb;have hs9 := (B4.za HW).lt;obtain ⟨wd, hwd⟩ : ∃ wd, wd = w2.drew := ⟨_, rfl⟩;rw [← hwd] at HW q1' q2' q3 q4 q5 q6 q7 q8 q9 q10 q11 q12 hs9;refine zts (fun w' => w'.cell? ⟨g7, 0, none⟩ = some (.bool bp0) ∧ w'.cell? ⟨g7, 1, none⟩ = some (.slice ap0 lp0 cp0) ∧ w'.cell? ⟨g7, 2, none⟩ = some (.bool bp1) ∧ w'.cell? ⟨g7, 3, none⟩ = some (.slice ap1 lp1 cp1) ∧ w'.cell? ⟨g7, 4, none⟩ = some (.bool bp2) ∧ w'.cell? ⟨g7, 5, none⟩ = some (.slice ap2 lp2 cp2)) 8 (by kernel_rfl) ?_ (fun zH => ?_)
    ·rw [← hwd]; exact ⟨(X0.za HW).zb.1, (X0.za HW).zb.2, (X1.za HW).zb.1, (X1.za HW).zb.2, (X2.za HW).zb.1, (X2.za HW).zb.2⟩
    rw [← hwd] at zH ⊢;clear hwd;refine ztl 0 rfl ?_;simp only [Act.put, aGet, aZero, aSet, aHead, aTail];refine ztl 1 rfl ?_;simp only [zP];refine ztl 2 rfl ?_;simp only [zP];refine ztl 3 rfl ?_;simp only [zP];refine ztl 4 rfl ?_;simp only [zP];refine ztl 5 rfl ?_;simp only [zP];refine tin 6 rfl fun K hK => ?_;go_simp;refine hK.out _ _ ?_ (fun zH => ?_)
    ·exact ⟨((X0.za HW).other (g' := w.heap.size + 2) (by omega) bp0 ap0 lp0 cp0).zb.1, ((X0.za HW).other (g' := w.heap.size + 2) (by omega) bp0 ap0 lp0 cp0).zb.2, ((X1.za HW).other (g' := w.heap.size + 2) (by omega) bp0 ap0 lp0 cp0).zb.1, ((X1.za HW).other (g' := w.heap.size + 2) (by omega) bp0 ap0 lp0 cp0).zb.2, ((X2.za HW).other (g' := w.heap.size + 2) (by omega) bp0 ap0 lp0 cp0).zb.1, ((X2.za HW).other (g' := w.heap.size + 2) (by omega) bp0 ap0 lp0 cp0).zb.2⟩
    clear hK K
    try simp only [zP]
    refine tin 7 rfl fun K hK => ?_;go_simp;refine hK.out _ _ ?_ (fun zH => ?_)
    ·exact ⟨(((X0.za HW).other (g' := w.heap.size + 2) (by omega) bp0 ap0 lp0 cp0).other (g' := w.heap.size + 3) (by omega) bp1 ap1 lp1 cp1).zb.1, (((X0.za HW).other (g' := w.heap.size + 2) (by omega) bp0 ap0 lp0 cp0).other (g' := w.heap.size + 3) (by omega) bp1 ap1 lp1 cp1).zb.2, (((X1.za HW).other (g' := w.heap.size + 2) (by omega) bp0 ap0 lp0 cp0).other (g' := w.heap.size + 3) (by omega) bp1 ap1 lp1 cp1).zb.1, (((X1.za HW).other (g' := w.heap.size + 2) (by omega) bp0 ap0 lp0 cp0).other (g' := w.heap.size + 3) (by omega) bp1 ap1 lp1 cp1).zb.2, (((X2.za HW).other (g' := w.heap.size + 2) (by omega) bp0 ap0 lp0 cp0).other (g' := w.heap.size + 3) (by omega) bp1 ap1 lp1 cp1).zb.1, (((X2.za HW).other (g' := w.heap.size + 2) (by omega) bp0 ap0 lp0 cp0).other (g' := w.heap.size + 3) (by omega) bp1 ap1 lp1 cp1).zb.2⟩
    clear hK K
    try simp only [zP]
    refine tout 8 rfl fun K hK => ?_;go_simp;refine hK.out _ _ ?_;clear hK K
    try simp only [zP]
    refine zdn (by kernel_rfl) ?_ _;go_wp2;refine bodyPost_ret (v := .tuple #[.agg #[.bool bp0, .slice ap0 lp0 cp0], .agg #[.bool bp1, .slice ap1 lp1 cp1], .agg #[.bool bp2, .slice ap2 lp2 cp2]]) (by simp [results, Tryz.results115, go_sem, *]) rfl ⟨_, _, _, _, _, _, _, _, _, _, _, _, rfl, ?_⟩;have n2 := (B2.za HW).noLimb;have n3 := ((B3.za HW).other (g' := w.heap.size + 2) (by omega) bp0 ap0 lp0 cp0).noLimb;have n4 := (((B4.za HW).other (g' := w.heap.size + 2) (by omega) bp0 ap0 lp0 cp0).other (g' := w.heap.size + 3) (by omega) bp1 ap1 lp1 cp1).noLimb;exact ⟨((((hp0.za HW).put n2 bp0 ap0 lp0 cp0).put n3 bp1 ap1 lp1 cp1).put n4 bp2 ap2 lp2 cp2).eq (zu EG).1, ((((hp1.za HW).put n2 bp0 ap0 lp0 cp0).put n3 bp1 ap1 lp1 cp1).put n4 bp2 ap2 lp2 cp2).eq (zu EG).2.1, ((((hp2.za HW).put n2 bp0 ap0 lp0 cp0).put n3 bp1 ap1 lp1 cp1).put n4 bp2 ap2 lp2 cp2).eq (zu EG).2.2, below_put (below_put (below_put (Below.step (zu HB) HW) (by omega) bp0 ap0 lp0 cp0) (by omega) bp1 ap1 lp1 cp1) (by omega) bp2 ap2 lp2 cp2⟩
  ·obtain ⟨s, es⟩ : ∃ s, s = q0.sign := ⟨_, rfl⟩;have hs : (s == 0) = false := by rw [beq_eq_false_iff_ne, es]; exact fun e => h0 (Int.sign_eq_zero_iff_zero.1 e)
   have H0 := zh h0;have ES := zh es;clear h0 es
   go_wp2_with fail
   refine (signK bq0 aq0 lq0 cq0 q0 kk s _ (hq0.ik hkk) (zu ES)).mono ?_;rintro e w1 ⟨rfl, hb9⟩;replace B2 := B2.za hb9;replace B3 := B3.za hb9;replace B4 := B4.za hb9;replace C7 := C7.za hb9;replace C8 := C8.za hb9;replace X0 := X0.za hb9;replace X1 := X1.za hb9;replace X2 := X2.za hb9;replace Y0 := Y0.za hb9;replace Y1 := Y1.za hb9;replace Y2 := Y2.za hb9;replace hp0 := hp0.za hb9;replace hp1 := hp1.za hb9;replace hp2 := hp2.za hb9;replace hq0 := hq0.za hb9;replace hq1 := hq1.za hb9;replace hq2 := hq2.za hb9;replace HB := zh (Below.step (zu HB) hb9);clear hb9 f1 f2
   go_upto_region 4 with fail
   have HW : Below w1.heap.size w1 w1.drew := (Below.refl _ _).drew;have hE2 := (zu HE).step (zu H0);obtain ⟨m0, m1, m2, m3, m4, m5⟩ := ext_lt hE2 (zu LX) (zu LY) hk1 hl1;have M3 := zh m3;have M4 := zh m4;have M5 := zh m5;have HE2 := zh hE2;clear m0 m1 m2 m3 m4 m5 hE2 HE;have HS := zh fun w' (HW : Below w1.heap.size w1 w') => con12 (X0.za HW).zb.1 (X0.za HW).zb.2 (X1.za HW).zb.1 (X1.za HW).zb.2 (X2.za HW).zb.1 (X2.za HW).zb.2 (Y0.za HW).zb.1 (Y0.za HW).zb.2 (Y1.za HW).zb.1 (Y1.za HW).zb.2 (Y2.za HW).zb.1 (Y2.za HW).zb.2;refine zst HS HW 4 (by kernel_rfl) fun zH => ?_;refine ztl 0 rfl ?_;simp only [Act.put, aGet, aZero, aSet, aHead, aTail];refine ztl 1 rfl ?_;simp only [zP];refine ztl 2 rfl ?_;simp only [zP];refine tin 3 rfl fun K hK => ?_;go_simp;refine (stepK bp0 ap0 lp0 cp0 bp1 ap1 lp1 cp1 bp2 ap2 lp2 cp2 bq0 aq0 lq0 cq0 bq1 aq1 lq1 cq1 bq2 aq2 lq2 cq2 p0 p1 p2 q0 q1 q2 kk _ (hp0.za HW) (hq0.za HW) (hp1.za HW) (hq1.za HW) (hp2.za HW) (hq2.za HW) hkk0 (zu H0)).mono ?_;rintro e w9 ⟨br0, ar0, lr0, cr0, br1, ar1, lr1, cr1, br2, ar2, lr2, cr2, rfl, hr0, hr1, hr2, hb9⟩;replace HW := Below.step HW hb9;clear hb9;obtain ⟨⟨_, r0, r1⟩, ⟨_, r2, r3⟩, ⟨_, r4, r5⟩⟩ := (C7.za HW).zb;have fz := (C7.za HW).free;obtain ⟨⟨_, t0, t1⟩, ⟨_, t2, t3⟩, ⟨_, t4, t5⟩⟩ := (C8.za HW).zb;have fy := (C8.za HW).free;have hs9 := (C8.za HW).lt;have hs10 := (C7.za HW).lt;refine hK.out _ _ ?_ (fun zH => ?_)
   ·exact zu HS _ HW
   clear hK K
   try simp only [zP]
   refine tout 4 rfl fun K hK => ?_;go_simp;refine hK.out _ _ ?_;clear hK K
   try simp only [zP]
   refine tout 5 rfl fun K hK => ?_;go_simp;refine hK.out _ _ ?_;clear hK K
   try simp only [zP]
   refine zdn (by kernel_rfl) ?_ _;go_wp2
   go_roundg ((p0.tmod q0).natAbs)
   case measure => exact lt_of_abs (zu HG) (zu H0)
   case rel =>
    have u7 := grown_put6 w9 g7 bq0 aq0 lq0 cq0 bq1 aq1 lq1 cq1 bq2 aq2 lq2 cq2;have k7 := noLimb_some (C7.za HW).noLimb;have D8 := (C8.za HW).grown u7 (some_ne hne');have u8 := grown_put6 (put6 w9 g7 bq0 aq0 lq0 cq0 bq1 aq1 lq1 cq1 bq2 aq2 lq2 cq2) g8 br0 ar0 lr0 cr0 br1 ar1 lr1 cr1 br2 ar2 lr2 cr2;have k8 := noLimb_some D8.noLimb;refine ⟨q0, q1, q2, p0.tmod q0, p1 - p0.tdiv q0 * q1, p2 - p0.tdiv q0 * q2, ⟨_, _, _, _, _, _, _, _, _, _, _, _, ((C7.za HW).put bq0 aq0 lq0 cq0 bq1 aq1 lq1 cq1 bq2 aq2 lq2 cq2).grown u8 (some_ne hne), ((hq0.za HW).grown u7 k7).grown u8 k8, ((hq1.za HW).grown u7 k7).grown u8 k8, ((hq2.za HW).grown u7 k7).grown u8 k8⟩, ⟨_, _, _, _, _, _, _, _, _, _, _, _, D8.put br0 ar0 lr0 cr0 br1 ar1 lr1 cr1 br2 ar2 lr2 cr2, (hr0.grown u7 k7).grown u8 k8, ((hr1.grown u7 k7).grown u8 k8).le (zu M4), ((hr2.grown u7 k7).grown u8 k8).le (zu M5)⟩, ((B2.za HW).grown u7 (some_ne (by omega))).grown u8 (some_ne (by omega)), ((B3.za HW).grown u7 (some_ne (by omega))).grown u8 (some_ne (by omega)), ((B4.za HW).grown u7 (some_ne (by omega))).grown u8 (some_ne (by omega)), zu HE2, (extR_more (zu H0)).symm.trans (zu HR), rfl, Below.put6 (Below.put6 (Below.step (zu HB) HW) (by omega) bq0 aq0 lq0 cq0 bq1 aq1 lq1 cq1 bq2 aq2 lq2 cq2) (by omega) br0 ar0 lr0 cr0 br1 ar1 lr1 cr1 br2 ar2 lr2 cr2⟩

end Go.Proofs.YtnpneloahajniaaGreat
