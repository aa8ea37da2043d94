/-
 What share of package lll tells: by the way of determinants, each quotient whole.
-/
import Derived.Test.YtnpneloahajniaaGreatLBs
import Derived.Test.YtnpneloahajniaaGreatLRead
import Derived.Test.YtnpneloahajniaaGreatJE
namespace Go.Proofs.YtnpneloahajniaaGreat
open Go.RowKit Lb
set_option maxRecDepth 20000

set_option maxRecDepth 40000 in
set_option maxHeartbeats 4000000 in
theorem shareK (b2 : Bool) (a2 : Option Addr) (l2 c2 : Nat) (z : Int) (ax : Option Addr) (nx cx : Nat) (xs : List Int) (ay : Option Addr) (ny cy : Nat) (ys : List Int) (gd od m cd : Nat) (ds : List Int) (n : Nat) (F : Nat → Int) (k : Nat) (w : World) (hz : FK w b2 a2 l2 c2 z k) (hx : VK w ax nx cx xs k) (hy : VK w ay ny cy ys k) (hd : VK w (some ⟨gd, od, none⟩) m cd ds k)
  (hk : k ≤ 200000) (hn : n ≤ 1000) (hnx : n ≤ nx) (hny : n ≤ ny) (hm : m = n + 1) (hod : od = 0) (V : Int) (hV : V = if ds.getD n 0 = 0 then 0 else F n) (hU : ds.getD n 0 ≠ 0 → F 0 = z ∧ (∀ i, i < n → ds.getD i 0 ≠ 0 ∧ ds.getD i 0 * F (i + 1) = ds.getD (i + 1) 0 * F i - xs.getD i 0 * ys.getD i 0) ∧ ∀ i, i ≤ n → (F i).natAbs < Bp k) :
  Calls Tryz.prog 40 #[.agg #[.bool b2, .slice a2 l2 c2], .slice ax nx cx, .slice ay ny cy, .slice (some ⟨gd, od, none⟩) m cd] w fun e w' => ∃ b1 a1 l1 c1, e = .returned (.agg #[.bool b1, .slice a1 l1 c1]) ∧ FK w' b1 a1 l1 c1 V k ∧ Below w.heap.size w w' := by
 subst hod;have HM := zh hm;have HV := zh hV;obtain ⟨bv, av, lv, cv, EL, yL⟩ := hd.at (show n < m by omega);rw [Nat.zero_add] at EL;obtain ⟨s, es⟩ : ∃ s, s = (ds.getD n 0).sign := ⟨_, rfl⟩;have ES := zh es;have hw1 : IntKind.i64.wrap ((m : Int) - 1) = (n : Int) := by rw [IntKind.wrap_i64]; omega
 have hm0 : (0 : Int) ≤ (n : Int) := by omega
 have hm1 : (n : Int) < (m : Int) := by omega
 have HU := zh hU;clear hU hm hV;go_enter Tryz.func40, Tryz.ntmps40;obtain ⟨f1, f2⟩ := EL.zb;have hgl := EL.1
 go_upto_region 1 with fail
 obtain ⟨W, hWe⟩ : ∃ W', W' = ((w.alloc (.cells #[.bool b2, .slice a2 l2 c2] 45)).alloc (.cells #[.bool false, .slice none 0 0] 45)) := ⟨_, rfl⟩;obtain ⟨BZ, BO, hb0⟩ := boxes2 w b2 a2 l2 c2 false none 0 0 hWe;rw [← hWe];clear hWe;replace EL := EL.za hb0;replace yL := yL.za hb0;replace hz := hz.za hb0;have HB := zh hb0;clear hb0 f1 f2 hgl;obtain ⟨f1, f2⟩ := EL.zb;have hgl := EL.1
 go_wp2_with fail
 refine (signK bv av lv cv (ds.getD n 0) k s _ yL (zu ES)).mono ?_;rintro e w1 ⟨rfl, hb1⟩;replace BZ := BZ.za hb1;replace BO := BO.za hb1;replace hz := hz.za hb1;replace HB := zh (Below.step (zu HB) hb1);clear hb1 EL yL f1 f2 hgl;by_cases h0 : ds.getD n 0 = 0
 ·have hs : (s == 0) = true := by rw [es, h0]; rfl
  obtain rfl : V = 0 := by rw [zu HV, if_pos h0]
  clear es h0;obtain ⟨q1, q2, q3, q4⟩ := BO.zb;have hso := BO.lt;go_wp2;refine bodyPost_ret (v := .agg #[.bool false, .slice none 0 0]) (by simp [results, Tryz.results40, go_sem, *]) rfl ?_;exact ⟨_, _, _, _, rfl, fk_zero _ _, (below_put (zu HB) (show w.heap.size ≤ w.heap.size + 1 by omega) false none 0 0)⟩
 ·have hs : (s == 0) = false := by rw [es, sign_zeroB]; exact decide_eq_false h0
  obtain ⟨u0, u1, u2⟩ := zu HU h0;obtain rfl : V = F n := by rw [zu HV, if_neg h0]
  have U1 := zh u1;have U2 := zh u2;rw [← u0] at hz;clear es h0 u0 u1 u2
  go_wp2_with fail
  go_loopw [22] (fun t wr => ∃ (i : Nat) (b2 : Bool) (a2 : Option Addr) (l2 c2 : Nat), i ≤ n ∧ t = .int .i64 (i : Int) ∧ Box wr w.heap.size b2 a2 l2 c2 ∧ Box wr (w.heap.size + 1) false none 0 0 ∧ FK wr b2 a2 l2 c2 (F i) k ∧ Below w.heap.size w wr) (fun t _ => n - (intOf t).toNat)
  case atStart => exact ⟨0, _, _, _, _, Nat.zero_le _, rfl, BZ, BO, hz, zu HB⟩
  case round =>
   clear BZ BO hz HB hs;obtain ⟨i, b2, a2, l2, c2, hi, rfl, BZ, BO, hz, hB⟩ := hrel;have HB := zh hB;clear hB;by_cases hlt : i < n
   ·obtain ⟨gx, ox, rfl⟩ := hx.some (by omega);obtain ⟨gy, oy, rfl⟩ := hy.some (by omega);obtain ⟨b1, a1, l1, c1, E1, y1⟩ := (hd.za (zu HB)).at (show i + 1 < m by have := zu HM; omega);obtain ⟨b5, a5, l5, c5, E5, y5⟩ := (hd.za (zu HB)).at (show i < m by have := zu HM; omega);obtain ⟨b3, a3, l3, c3, E3, y3⟩ := (hx.za (zu HB)).at (show i < nx by omega);obtain ⟨b4, a4, l4, c4, E4, y4⟩ := (hy.za (zu HB)).at (show i < ny by omega);rw [Nat.zero_add] at E1 E5;obtain ⟨i1, ei1⟩ : ∃ i1, i1 = i + 1 := ⟨_, rfl⟩;rw [← ei1] at E1;have hw2 : IntKind.i64.wrap ((i : Int) + 1) = (i1 : Int) := by rw [IntKind.wrap_i64]; omega
    have hj0 : (0 : Int) ≤ (i1 : Int) := by omega
    have hj1 : (i1 : Int) < (m : Int) := by have := zu HM; omega
    have hj2 : (0 : Int) ≤ (i : Int) := by omega
    have hj3 : (i : Int) < (m : Int) := by omega
    have hj4 : (i : Int) < (n : Int) := by omega
    have hj5 : (i : Int) < (nx : Int) := by omega
    have hj6 : (i : Int) < (ny : Int) := by omega
    have HD0 := zh (zu U1 i hlt).1;have HQ := zh (zu U1 i hlt).2;have EI := zh ei1;clear ei1
    go_upto_region 6 with fail
    have HW : Below wr.heap.size wr wr.drew := (Below.refl _ _).drew;have HS := zh fun w' (HW : Below wr.heap.size wr w') => con10 (E1.za HW).zb.1 (E1.za HW).zb.2 (E5.za HW).zb.1 (E5.za HW).zb.2 (E3.za HW).zb.1 (E3.za HW).zb.2 (E4.za HW).zb.1 (E4.za HW).zb.2 (BZ.za HW).zb.1 (BZ.za HW).zb.2.1;refine zst HS HW 26 (by kernel_rfl) fun zH => ?_;refine ztl 0 rfl ?_;simp only [Act.put, aGet, aZero, aSet, aHead, aTail];refine ztl 1 rfl ?_;simp only [zP];refine ztl 2 rfl ?_;simp only [zP];refine ztl 3 rfl ?_;simp only [zP];refine ztl 4 rfl ?_;simp only [zP];refine ztl 5 rfl ?_;simp only [zP];refine ztl 7 rfl ?_;simp only [zP];refine ztl 8 rfl ?_;simp only [zP];refine ztl 9 rfl ?_;simp only [zP];refine ztl 10 rfl ?_;simp only [zP];refine ztl 11 rfl ?_;simp only [zP];refine ztl 12 rfl ?_;simp only [zP];refine ztl 13 rfl ?_;simp only [zP];refine ztl 14 rfl ?_;simp only [zP];refine ztl 17 rfl ?_;simp only [zP];refine ztl 18 rfl ?_;simp only [zP];refine ztl 19 rfl ?_;simp only [zP];refine ztl 20 rfl ?_;simp only [zP];refine tin 6 rfl fun K hK => ?_;go_simp;refine (mulK b1 a1 l1 c1 (ds.getD (i + 1) 0) k b2 a2 l2 c2 (F i) k _ (y1.za HW) ((hz.za HW).ik (by omega))).mono ?_;rintro e w9 ⟨b6, a6, l6, c6, rfl, h6, hb9⟩;replace HW := Below.step HW hb9;clear hb9;refine hK.out _ _ ?_ (fun zH => ?_)
    ·exact zu HS _ HW
    clear hK K
    try simp only [zP]
    refine tin 15 rfl fun K hK => ?_;go_simp;refine (mulK b3 a3 l3 c3 (xs.getD i 0) k b4 a4 l4 c4 (ys.getD i 0) k _ (y3.za HW) (y4.za HW)).mono ?_;rintro e w9 ⟨b7, a7, l7, c7, rfl, h7, hb9⟩;replace HW := Below.step HW hb9;replace h6 := h6.za hb9;clear hb9;refine hK.out _ _ ?_ (fun zH => ?_)
    ·exact zu HS _ HW
    clear hK K
    try simp only [zP]
    refine tin 16 rfl fun K hK => ?_;go_simp;refine (subK b6 a6 l6 c6 (ds.getD (i + 1) 0 * F i) (k + k) b7 a7 l7 c7 (xs.getD i 0 * ys.getD i 0) (k + k) _ (h6.ik (by omega)) (h7.ik (by omega))).mono ?_;rintro e w9 ⟨b8, a8, l8, c8, rfl, h8, hb9⟩;replace HW := Below.step HW hb9;clear hb9 h6 h7;rw [Nat.max_self] at h8;refine hK.out _ _ ?_ (fun zH => ?_)
    ·exact zu HS _ HW
    clear hK K
    try simp only [zP]
    refine tin 21 rfl fun K hK => ?_;go_simp;refine (quoK b8 a8 l8 c8 (ds.getD (i + 1) 0 * F i - xs.getD i 0 * ys.getD i 0) (k + k + 1) b5 a5 l5 c5 (ds.getD i 0) k _ (h8.ik (by omega)) (y5.za HW) (zu HD0)).mono ?_;rintro e w9 ⟨ba, aa, la, ca, bb, ab, lb, cb, rfl, ha, hbb, hb9⟩;replace HW := Below.step HW hb9;clear hb9 h8 hbb;refine hK.out _ _ ?_ (fun zH => ?_)
    ·exact zu HS _ HW
    clear hK K
    try simp only [zP]
    refine ztl 22 rfl ?_;simp only [zP];refine ztl 23 rfl ?_;simp only [zP];refine till_fr (i := 24) (v := ?_) rfl (Or.inl ⟨by rfl, ?_⟩) ?_
    rotate_left
    ·(intro w hSw; (try dsimp only at hSw); go_simp; try with_reducible rfl)
    simp only [zP];refine till_fr (i := 25) (v := ?_) rfl (Or.inl ⟨by rfl, ?_⟩) ?_
    rotate_left
    ·(intro w hSw; (try dsimp only at hSw); go_simp; try with_reducible rfl)
    simp only [zP];obtain ⟨q1, q2, q3, q4⟩ := (BZ.za HW).zb;have hs0 := (BZ.za HW).lt;refine tout 26 rfl fun K hK => ?_;go_simp;refine hK.out _ _ ?_;clear hK K
    try simp only [zP]
    refine zdn (by kernel_rfl) ?_ _;have hnl := (BZ.za HW).noLimb;clear zH q1 q2 q3 q4;have hF : (ds.getD (i + 1) 0 * F i - xs.getD i 0 * ys.getD i 0).tdiv (ds.getD i 0) = F (i + 1) := by rw [← zu HQ]; exact Int.mul_tdiv_cancel_left _ (zu HD0)
    rw [hF] at ha;replace ha : FK w9 ba aa la ca (F (i + 1)) k := ⟨ha.1, zu U2 (i + 1) (by omega)⟩;have BO9 : Box (put w9 w.heap.size ba aa la ca) (w.heap.size + 1) false none 0 0 := (BO.za HW).other (g' := w.heap.size) (by omega) ba aa la ca;have BZ9 := (BZ.za HW).put ba aa la ca;have h9 := ha.put hnl ba aa la ca;have HB9 := zh (below_put (Below.step (zu HB) HW) (Nat.le_refl w.heap.size) ba aa la ca);have e9 : (w9.setCell ⟨w.heap.size, 0, none⟩ (.bool ba)).setCell ⟨w.heap.size, 1, none⟩ (.slice aa la ca) = put w9 w.heap.size ba aa la ca := rfl;rw [e9];clear HW BZ BO E1 E3 E4 E5 e9 hnl ha hs0 hF y1 y3 y4 y5 hz HB;go_wp2;go_roundw
    case rel => exact ⟨i1, _, _, _, _, by have := zu EI; omega, by go_num, BZ9, BO9, by rw [zu EI]; exact h9, zu HB9⟩
    case measure => simp [intOf]; have := zu EI; omega
   ·have hin : i = n := by omega
    subst hin;have hin' : ¬ (i : Int) < (i : Int) := by omega
    obtain ⟨f1, f2, _, _⟩ := BZ.zb;have hsz := BZ.lt;obtain ⟨q1, q2, q3, q4⟩ := BO.zb;have hso := BO.lt;go_wp2;refine bodyPost_ret (v := .agg #[.bool b2, .slice a2 l2 c2]) (by simp [results, Tryz.results40, go_sem, *]) rfl ?_;have hz1 := hz.put BO.noLimb b2 a2 l2 c2;have hz2 := below_put (zu HB) (show w.heap.size ≤ w.heap.size + 1 by omega) b2 a2 l2 c2;cases b2 with
    | false => exact Or.inl ⟨_, _, _, rfl, hz1, hz2⟩
    | true => exact Or.inr ⟨_, _, _, rfl, hz1, hz2⟩
end Go.Proofs.YtnpneloahajniaaGreat
