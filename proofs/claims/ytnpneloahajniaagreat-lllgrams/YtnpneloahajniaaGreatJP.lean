/-
 What quot.Div tells (IN PARTS).
-/
import Derived.Test.YtnpneloahajniaaGreatJE
import Derived.Deep.CutRange
namespace Go.Proofs.YtnpneloahajniaaGreat
open Go.RowKit Lb
set_option maxRecDepth 20000

set_option maxHeartbeats 2000000 in
theorem divK (b : Bool) (aa : Option Addr) (la ca : Nat) (x : Int) (k : Nat) (b' : Bool) (ab : Option Addr) (lb cb : Nat) (y : Int) (l : Nat) (w : World) (hx : IK w b aa la ca x k) (hy : IK w b' ab lb cb y l) (h0 : y ≠ 0) (hk : k ≤ 900000) (hl : l ≤ 900000) :
  Calls Tryz.prog 93 #[.agg #[.bool b, .slice aa la ca], .agg #[.bool b', .slice ab lb cb]] w fun e w' => ∃ b1 a1 l1 c1 b2 a2 l2 c2, e = .returned (.tuple #[.agg #[.bool b1, .slice a1 l1 c1], .agg #[.bool b2, .slice a2 l2 c2], .bool true]) ∧ FK w' b1 a1 l1 c1 (x / y) k ∧ FK w' b2 a2 l2 c2 (x % y) l ∧ Below w.heap.size w w' := by
 have EQ := zh (ediv_of_tdiv x y);have ER := zh (emod_of_tmod x y);have LQ := zh (Nat.lt_of_le_of_lt (Int.natAbs_ediv_le_natAbs x y) hx.2.2);have LR := zh (Nat.lt_trans (emod_abs_lt (x := x) h0) hy.2.2);obtain ⟨s, es⟩ : ∃ s, s = (x.tmod y).sign := ⟨_, rfl⟩;have ES := zh es;by_cases ht : x.tmod y < 0
 ·rw [if_pos ht] at EQ ER;have hs : ¬ (0 ≤ s) := by rw [es, Int.sign_eq_neg_one_of_neg ht]; omega
  clear es ht;obtain ⟨s', es'⟩ : ∃ s', s' = y.sign := ⟨_, rfl⟩;have ES' := zh es';by_cases hp : 0 < y
  ·have hsp : 0 < s' := by rw [es', Int.sign_eq_one_of_pos hp]; omega
   rw [Int.sign_eq_one_of_pos hp] at EQ;rw [show (y.natAbs : Int) = y by omega] at ER;clear es' hp;go_enter Tryz.func93, Tryz.ntmps93
   go_wp2_with fail
   obtain ⟨W, hWe⟩ : ∃ W, W = ((((w.alloc (.cells #[.bool b, .slice aa la ca] 45)).alloc (.cells #[.bool b', .slice ab lb cb] 45)).alloc (.cells #[.bool false, .slice none 0 0] 45)).alloc (.cells #[.bool false, .slice none 0 0] 45)) := ⟨_, rfl⟩;obtain ⟨B0, B1, B2, B3, hb0⟩ := boxes4 w b aa la ca b' ab lb cb false none 0 0 false none 0 0 hWe;rw [← hWe];clear hWe;refine (quoK _ _ _ _ x k _ _ _ _ y l _ (hx.za hb0) (hy.za hb0) h0).mono ?_;rintro e w1 ⟨b1, a1, l1, c1, b2, a2, l2, c2, rfl, h1, h2, hb1⟩;have HB := zh (Below.step hb0 hb1);replace B0 := B0.za hb1;replace B1 := B1.za hb1;replace B2 := B2.za hb1;replace B3 := B3.za hb1;have hy1 := hy.za (Below.step hb0 hb1);clear hb0 hb1 hx hy;have hs2 : w.heap.size + 3 < w1.heap.size := B3.lt;obtain ⟨q1, q2, q3, q4⟩ := B2.zb;obtain ⟨q5, q6, q7, q8⟩ := B3.zb
   go_wp2_with fail
   obtain ⟨W2, hW2⟩ : ∃ W2, W2 = ((((w1.setCell ⟨w.heap.size + 1 + 1, 0, none⟩ (.bool b1)).setCell ⟨w.heap.size + 1 + 1, 1, none⟩ (.slice a1 l1 c1)).setCell ⟨w.heap.size + 1 + 1 + 1, 0, none⟩ (.bool b2)).setCell ⟨w.heap.size + 1 + 1 + 1, 1, none⟩ (.slice a2 l2 c2)) := ⟨_, rfl⟩;rw [← hW2];have n2 := B2.noLimb;have n3 := (B3.other (g' := w.heap.size + 2) (by omega) b1 a1 l1 c1).noLimb;have hc1 : FK W2 b1 a1 l1 c1 (x.tdiv y) k := by rw [hW2]; exact (h1.put n2 _ _ _ _).put n3 _ _ _ _
   have hc2 : FK W2 b2 a2 l2 c2 (x.tmod y) l := by rw [hW2]; exact (h2.put n2 _ _ _ _).put n3 _ _ _ _
   have hy2 : IK W2 b' ab lb cb y l := by rw [hW2]; exact (hy1.put n2 _ _ _ _).put n3 _ _ _ _
   have C1 : Box W2 (w.heap.size + 1) b' ab lb cb := by rw [hW2]; exact (B1.other (g' := w.heap.size + 2) (by omega) b1 a1 l1 c1).other (g' := w.heap.size + 3) (by omega) b2 a2 l2 c2
   clear h1 h2 hy1;have C2 : Box W2 (w.heap.size + 2) b1 a1 l1 c1 := by rw [hW2]; exact (B2.put b1 a1 l1 c1).other (g' := w.heap.size + 3) (by omega) b2 a2 l2 c2
   have C3 : Box W2 (w.heap.size + 3) b2 a2 l2 c2 := by rw [hW2]; exact (B3.other (g' := w.heap.size + 2) (by omega) b1 a1 l1 c1).put b2 a2 l2 c2
   have HB2 : Hid (Below w.heap.size w W2) := by rw [hW2]; exact below_put (below_put (zu HB) (by omega) b1 a1 l1 c1) (by omega) b2 a2 l2 c2
   have hs3 := C3.lt;clear hW2 B0 B1 B2 B3 n2 n3 q1 q2 q3 q4 q5 q6 q7 q8 HB hs2;refine (signK _ _ _ _ (x.tmod y) l s _ (hc2.ik (by omega)) (zu ES)).mono ?_;rintro e w3 ⟨rfl, hb3⟩;replace C1 := C1.za hb3;replace C2 := C2.za hb3;replace C3 := C3.za hb3;replace hc1 := hc1.za hb3;replace hc2 := hc2.za hb3;replace hy2 := hy2.za hb3;have HB3 := zh (Below.step (zu HB2) hb3);clear hb3 HB2 hs3;have hs3 := C3.lt;obtain ⟨r1, r2, _, _⟩ := C1.zb
   go_wp2_with fail
   refine (signK _ _ _ _ y l s' _ hy2 (zu ES')).mono ?_;rintro e w4 ⟨rfl, hb4⟩;replace C1 := C1.za hb4;replace C2 := C2.za hb4;replace C3 := C3.za hb4;replace hc1 := hc1.za hb4;replace hc2 := hc2.za hb4;have hy4 := hy2.za hb4;have HB4 := zh (Below.step (zu HB3) hb4);clear hb4 HB3 hy2 hs3 r1 r2;have hs4 := C3.lt
   go_wp2_with fail
   have HW : Below w4.heap.size w4 w4.drew := (Below.refl _ _).drew;have HS := zh fun w' (HW : Below w4.heap.size w4 w') => con6 (C1.za HW).zb.1 (C1.za HW).zb.2.1 (C2.za HW).zb.1 (C2.za HW).zb.2.1 (C3.za HW).zb.1 (C3.za HW).zb.2.1;refine zst HS HW 6 (by kernel_rfl) fun zH => ?_;refine ztl 0 rfl ?_;simp only [Act.put, aGet, aZero, aSet, aHead, aTail];refine ztl 3 rfl ?_;simp only [zP];refine ztl 4 rfl ?_;simp only [zP];refine tin 1 rfl fun K hK => ?_;go_simp;refine (ofK 1 _ (by omega) (by omega)).mono ?_;rintro e w9 ⟨b4, a4, l4, c4, rfl, h4, hb9⟩;replace HW := Below.step HW hb9;clear hb9;refine hK.out _ _ ?_ (fun zH => ?_)
   ·exact zu HS _ HW
   clear hK K
   try simp only [zP]
   refine tin 2 rfl fun K hK => ?_;go_simp;refine (subK _ _ _ _ (x.tdiv y) k _ _ _ _ 1 2 _ ((hc1.za HW).ik (by omega)) (h4.ik (by omega))).mono ?_;rintro e w9 ⟨b5, a5, l5, c5, rfl, h5, hb9⟩;replace HW := Below.step HW hb9;clear hb9 h4;refine hK.out _ _ ?_ (fun zH => ?_)
   ·exact zu HS _ HW
   clear hK K
   try simp only [zP]
   refine tin 5 rfl fun K hK => ?_;go_simp;refine (addK _ _ _ _ (x.tmod y) l _ _ _ _ y l _ ((hc2.za HW).ik (by omega)) (hy4.za HW)).mono ?_;rintro e w9 ⟨b6, a6, l6, c6, rfl, h6, hb9⟩;replace HW := Below.step HW hb9;replace h5 := h5.za hb9;clear hb9;obtain ⟨q1, q2, q3, q4⟩ := (C2.za HW).zb;obtain ⟨q5, q6, q7, q8⟩ := (C3.za HW).zb;have hs9 := (C3.za HW).lt;refine hK.out _ _ ?_ (fun zH => ?_)
   ·exact zu HS _ HW
   clear hK K
   try simp only [zP]
   refine tout 6 rfl fun K hK => ?_;go_simp;refine hK.out _ _ ?_;clear hK K
   try simp only [zP]
   refine tout 7 rfl fun K hK => ?_;go_simp;refine hK.out _ _ ?_;clear hK K
   try simp only [zP]
   refine tout 8 rfl fun K hK => ?_;go_simp;refine hK.out _ _ ?_;clear hK K
   try simp only [zP]
   refine zdn (by kernel_rfl) ?_ _;go_wp2;refine bodyPost_ret (v := .tuple #[.agg #[.bool b5, .slice a5 l5 c5], .agg #[.bool b6, .slice a6 l6 c6], .bool true]) (by simp [results, Tryz.results93, go_sem, *]) rfl ⟨_, _, _, _, _, _, _, _, rfl, ?_⟩;have n2 := (C2.za HW).noLimb;have n3 := ((C3.za HW).other (g' := w.heap.size + 2) (by omega) b5 a5 l5 c5).noLimb;refine ⟨(((h5.put n2 _ _ _ _).put n3 _ _ _ _).eq (zu EQ).symm).le (zu LQ), (((h6.put n2 _ _ _ _).put n3 _ _ _ _).eq (zu ER).symm).le (zu LR), below_put (below_put (Below.step (zu HB4) HW) (by omega) _ _ _ _) (by omega) _ _ _ _⟩
  ·have hsp : ¬ (0 < s') := by rw [es', Int.sign_eq_neg_one_of_neg (by omega)]; omega
   rw [Int.sign_eq_neg_one_of_neg (by omega)] at EQ;rw [show (y.natAbs : Int) = -y by omega] at ER;rw [Int.sub_neg] at EQ;rw [← Int.sub_eq_add_neg] at ER;clear es' hp;go_enter Tryz.func93, Tryz.ntmps93
   go_wp2_with fail
   obtain ⟨W, hWe⟩ : ∃ W, W = ((((w.alloc (.cells #[.bool b, .slice aa la ca] 45)).alloc (.cells #[.bool b', .slice ab lb cb] 45)).alloc (.cells #[.bool false, .slice none 0 0] 45)).alloc (.cells #[.bool false, .slice none 0 0] 45)) := ⟨_, rfl⟩;obtain ⟨B0, B1, B2, B3, hb0⟩ := boxes4 w b aa la ca b' ab lb cb false none 0 0 false none 0 0 hWe;rw [← hWe];clear hWe;refine (quoK _ _ _ _ x k _ _ _ _ y l _ (hx.za hb0) (hy.za hb0) h0).mono ?_;rintro e w1 ⟨b1, a1, l1, c1, b2, a2, l2, c2, rfl, h1, h2, hb1⟩;have HB := zh (Below.step hb0 hb1);replace B0 := B0.za hb1;replace B1 := B1.za hb1;replace B2 := B2.za hb1;replace B3 := B3.za hb1;have hy1 := hy.za (Below.step hb0 hb1);clear hb0 hb1 hx hy;have hs2 : w.heap.size + 3 < w1.heap.size := B3.lt;obtain ⟨q1, q2, q3, q4⟩ := B2.zb;obtain ⟨q5, q6, q7, q8⟩ := B3.zb
   go_wp2_with fail
   obtain ⟨W2, hW2⟩ : ∃ W2, W2 = ((((w1.setCell ⟨w.heap.size + 1 + 1, 0, none⟩ (.bool b1)).setCell ⟨w.heap.size + 1 + 1, 1, none⟩ (.slice a1 l1 c1)).setCell ⟨w.heap.size + 1 + 1 + 1, 0, none⟩ (.bool b2)).setCell ⟨w.heap.size + 1 + 1 + 1, 1, none⟩ (.slice a2 l2 c2)) := ⟨_, rfl⟩;rw [← hW2];have n2 := B2.noLimb;have n3 := (B3.other (g' := w.heap.size + 2) (by omega) b1 a1 l1 c1).noLimb;have hc1 : FK W2 b1 a1 l1 c1 (x.tdiv y) k := by rw [hW2]; exact (h1.put n2 _ _ _ _).put n3 _ _ _ _
   have hc2 : FK W2 b2 a2 l2 c2 (x.tmod y) l := by rw [hW2]; exact (h2.put n2 _ _ _ _).put n3 _ _ _ _
   have hy2 : IK W2 b' ab lb cb y l := by rw [hW2]; exact (hy1.put n2 _ _ _ _).put n3 _ _ _ _
   have C1 : Box W2 (w.heap.size + 1) b' ab lb cb := by rw [hW2]; exact (B1.other (g' := w.heap.size + 2) (by omega) b1 a1 l1 c1).other (g' := w.heap.size + 3) (by omega) b2 a2 l2 c2
   clear h1 h2 hy1;have C2 : Box W2 (w.heap.size + 2) b1 a1 l1 c1 := by rw [hW2]; exact (B2.put b1 a1 l1 c1).other (g' := w.heap.size + 3) (by omega) b2 a2 l2 c2
   have C3 : Box W2 (w.heap.size + 3) b2 a2 l2 c2 := by rw [hW2]; exact (B3.other (g' := w.heap.size + 2) (by omega) b1 a1 l1 c1).put b2 a2 l2 c2
   have HB2 : Hid (Below w.heap.size w W2) := by rw [hW2]; exact below_put (below_put (zu HB) (by omega) b1 a1 l1 c1) (by omega) b2 a2 l2 c2
   have hs3 := C3.lt;clear hW2 B0 B1 B2 B3 n2 n3 q1 q2 q3 q4 q5 q6 q7 q8 HB hs2;refine (signK _ _ _ _ (x.tmod y) l s _ (hc2.ik (by omega)) (zu ES)).mono ?_;rintro e w3 ⟨rfl, hb3⟩;replace C1 := C1.za hb3;replace C2 := C2.za hb3;replace C3 := C3.za hb3;replace hc1 := hc1.za hb3;replace hc2 := hc2.za hb3;replace hy2 := hy2.za hb3;have HB3 := zh (Below.step (zu HB2) hb3);clear hb3 HB2 hs3;have hs3 := C3.lt;obtain ⟨r1, r2, _, _⟩ := C1.zb
   go_wp2_with fail
   refine (signK _ _ _ _ y l s' _ hy2 (zu ES')).mono ?_;rintro e w4 ⟨rfl, hb4⟩;replace C1 := C1.za hb4;replace C2 := C2.za hb4;replace C3 := C3.za hb4;replace hc1 := hc1.za hb4;replace hc2 := hc2.za hb4;have hy4 := hy2.za hb4;have HB4 := zh (Below.step (zu HB3) hb4);clear hb4 HB3 hy2 hs3 r1 r2;have hs4 := C3.lt
   go_wp2_with fail
   have HW : Below w4.heap.size w4 w4.drew := (Below.refl _ _).drew;have HS := zh fun w' (HW : Below w4.heap.size w4 w') => con6 (C1.za HW).zb.1 (C1.za HW).zb.2.1 (C2.za HW).zb.1 (C2.za HW).zb.2.1 (C3.za HW).zb.1 (C3.za HW).zb.2.1;refine zst HS HW 6 (by kernel_rfl) fun zH => ?_;refine ztl 0 rfl ?_;simp only [Act.put, aGet, aZero, aSet, aHead, aTail];refine ztl 3 rfl ?_;simp only [zP];refine ztl 4 rfl ?_;simp only [zP];refine tin 1 rfl fun K hK => ?_;go_simp;refine (ofK 1 _ (by omega) (by omega)).mono ?_;rintro e w9 ⟨b4, a4, l4, c4, rfl, h4, hb9⟩;replace HW := Below.step HW hb9;clear hb9;refine hK.out _ _ ?_ (fun zH => ?_)
   ·exact zu HS _ HW
   clear hK K
   try simp only [zP]
   refine tin 2 rfl fun K hK => ?_;go_simp;refine (addK _ _ _ _ (x.tdiv y) k _ _ _ _ 1 2 _ ((hc1.za HW).ik (by omega)) (h4.ik (by omega))).mono ?_;rintro e w9 ⟨b5, a5, l5, c5, rfl, h5, hb9⟩;replace HW := Below.step HW hb9;clear hb9 h4;refine hK.out _ _ ?_ (fun zH => ?_)
   ·exact zu HS _ HW
   clear hK K
   try simp only [zP]
   refine tin 5 rfl fun K hK => ?_;go_simp;refine (subK _ _ _ _ (x.tmod y) l _ _ _ _ y l _ ((hc2.za HW).ik (by omega)) (hy4.za HW)).mono ?_;rintro e w9 ⟨b6, a6, l6, c6, rfl, h6, hb9⟩;replace HW := Below.step HW hb9;replace h5 := h5.za hb9;clear hb9;obtain ⟨q1, q2, q3, q4⟩ := (C2.za HW).zb;obtain ⟨q5, q6, q7, q8⟩ := (C3.za HW).zb;have hs9 := (C3.za HW).lt;refine hK.out _ _ ?_ (fun zH => ?_)
   ·exact zu HS _ HW
   clear hK K
   try simp only [zP]
   refine tout 6 rfl fun K hK => ?_;go_simp;refine hK.out _ _ ?_;clear hK K
   try simp only [zP]
   refine tout 7 rfl fun K hK => ?_;go_simp;refine hK.out _ _ ?_;clear hK K
   try simp only [zP]
   refine tout 8 rfl fun K hK => ?_;go_simp;refine hK.out _ _ ?_;clear hK K
   try simp only [zP]
   refine zdn (by kernel_rfl) ?_ _;go_wp2;refine bodyPost_ret (v := .tuple #[.agg #[.bool b5, .slice a5 l5 c5], .agg #[.bool b6, .slice a6 l6 c6], .bool true]) (by simp [results, Tryz.results93, go_sem, *]) rfl ⟨_, _, _, _, _, _, _, _, rfl, ?_⟩;have n2 := (C2.za HW).noLimb;have n3 := ((C3.za HW).other (g' := w.heap.size + 2) (by omega) b5 a5 l5 c5).noLimb;refine ⟨(((h5.put n2 _ _ _ _).put n3 _ _ _ _).eq (zu EQ).symm).le (zu LQ), (((h6.put n2 _ _ _ _).put n3 _ _ _ _).eq (zu ER).symm).le (zu LR), below_put (below_put (Below.step (zu HB4) HW) (by omega) _ _ _ _) (by omega) _ _ _ _⟩
 ·rw [if_neg ht] at EQ ER;rw [zu EQ, zu ER];have hs : 0 ≤ s := by
   rw [es];rcases sign_bd (x.tmod y) with ⟨_, _⟩;rcases Int.lt_trichotomy (x.tmod y) 0 with h | h | h
   ·omega
   ·rw [h]; decide
   ·rw [Int.sign_eq_one_of_pos h]; omega
  clear es ht;go_enter Tryz.func93, Tryz.ntmps93
  go_wp2_with fail
  obtain ⟨W, hWe⟩ : ∃ W, W = ((((w.alloc (.cells #[.bool b, .slice aa la ca] 45)).alloc (.cells #[.bool b', .slice ab lb cb] 45)).alloc (.cells #[.bool false, .slice none 0 0] 45)).alloc (.cells #[.bool false, .slice none 0 0] 45)) := ⟨_, rfl⟩;obtain ⟨B0, B1, B2, B3, hb0⟩ := boxes4 w b aa la ca b' ab lb cb false none 0 0 false none 0 0 hWe;rw [← hWe];clear hWe;refine (quoK _ _ _ _ x k _ _ _ _ y l _ (hx.za hb0) (hy.za hb0) h0).mono ?_;rintro e w1 ⟨b1, a1, l1, c1, b2, a2, l2, c2, rfl, h1, h2, hb1⟩;have HB := zh (Below.step hb0 hb1);replace B0 := B0.za hb1;replace B1 := B1.za hb1;replace B2 := B2.za hb1;replace B3 := B3.za hb1;have hy1 := hy.za (Below.step hb0 hb1);clear hb0 hb1 hx hy;have hs2 : w.heap.size + 3 < w1.heap.size := B3.lt;obtain ⟨q1, q2, q3, q4⟩ := B2.zb;obtain ⟨q5, q6, q7, q8⟩ := B3.zb
  go_wp2_with fail
  obtain ⟨W2, hW2⟩ : ∃ W2, W2 = ((((w1.setCell ⟨w.heap.size + 1 + 1, 0, none⟩ (.bool b1)).setCell ⟨w.heap.size + 1 + 1, 1, none⟩ (.slice a1 l1 c1)).setCell ⟨w.heap.size + 1 + 1 + 1, 0, none⟩ (.bool b2)).setCell ⟨w.heap.size + 1 + 1 + 1, 1, none⟩ (.slice a2 l2 c2)) := ⟨_, rfl⟩;rw [← hW2];have n2 := B2.noLimb;have n3 := (B3.other (g' := w.heap.size + 2) (by omega) b1 a1 l1 c1).noLimb;have hc1 : FK W2 b1 a1 l1 c1 (x.tdiv y) k := by rw [hW2]; exact (h1.put n2 _ _ _ _).put n3 _ _ _ _
  have hc2 : FK W2 b2 a2 l2 c2 (x.tmod y) l := by rw [hW2]; exact (h2.put n2 _ _ _ _).put n3 _ _ _ _
  have hy2 : IK W2 b' ab lb cb y l := by rw [hW2]; exact (hy1.put n2 _ _ _ _).put n3 _ _ _ _
  have C1 : Box W2 (w.heap.size + 1) b' ab lb cb := by rw [hW2]; exact (B1.other (g' := w.heap.size + 2) (by omega) b1 a1 l1 c1).other (g' := w.heap.size + 3) (by omega) b2 a2 l2 c2
  clear h1 h2 hy1;have C2 : Box W2 (w.heap.size + 2) b1 a1 l1 c1 := by rw [hW2]; exact (B2.put b1 a1 l1 c1).other (g' := w.heap.size + 3) (by omega) b2 a2 l2 c2
  have C3 : Box W2 (w.heap.size + 3) b2 a2 l2 c2 := by rw [hW2]; exact (B3.other (g' := w.heap.size + 2) (by omega) b1 a1 l1 c1).put b2 a2 l2 c2
  have HB2 : Hid (Below w.heap.size w W2) := by rw [hW2]; exact below_put (below_put (zu HB) (by omega) b1 a1 l1 c1) (by omega) b2 a2 l2 c2
  have hs3 := C3.lt;clear hW2 B0 B1 B2 B3 n2 n3 q1 q2 q3 q4 q5 q6 q7 q8 HB hs2;refine (signK _ _ _ _ (x.tmod y) l s _ (hc2.ik (by omega)) (zu ES)).mono ?_;rintro e w3 ⟨rfl, hb3⟩;replace C1 := C1.za hb3;replace C2 := C2.za hb3;replace C3 := C3.za hb3;replace hc1 := hc1.za hb3;replace hc2 := hc2.za hb3;replace hy2 := hy2.za hb3;have HB3 := zh (Below.step (zu HB2) hb3);clear hb3 HB2 hs3;have hs3 := C3.lt
  go_wp2_with fail
  have D2 := C2.put b1 a1 l1 c1;have D3 := C3.other (g' := w.heap.size + 2) (by omega) b1 a1 l1 c1;have E2 := D2.other (g' := w.heap.size + 3) (by omega) b2 a2 l2 c2;have E3 := D3.put b2 a2 l2 c2;obtain ⟨q1, q2, q3, q4⟩ := C2.zb;obtain ⟨q5, q6, q7, q8⟩ := C3.zb;refine zts (fun w' => w'.cell? ⟨w.heap.size + 2, 0, none⟩ = some (.bool b1) ∧ w'.cell? ⟨w.heap.size + 2, 1, none⟩ = some (.slice a1 l1 c1) ∧ w'.cell? ⟨w.heap.size + 3, 0, none⟩ = some (.bool b2) ∧ w'.cell? ⟨w.heap.size + 3, 1, none⟩ = some (.slice a2 l2 c2)) 5 (by kernel_rfl) ?_ (fun zH => ?_)
  ·exact ⟨C2.zb.1, C2.zb.2.1, C3.zb.1, C3.zb.2.1⟩
  refine ztl 0 rfl ?_;simp only [Act.put, aGet, aZero, aSet, aHead, aTail];refine ztl 1 rfl ?_;simp only [zP];refine ztl 2 rfl ?_;simp only [zP];refine tin 3 rfl fun K hK => ?_;go_simp;refine hK.out _ _ ?_ (fun zH => ?_)
  ·exact ⟨D2.zb.1, D2.zb.2.1, D3.zb.1, D3.zb.2.1⟩
  clear hK K
  try simp only [zP]
  refine tin 4 rfl fun K hK => ?_;go_simp;refine hK.out _ _ ?_ (fun zH => ?_)
  ·exact ⟨E2.zb.1, E2.zb.2.1, E3.zb.1, E3.zb.2.1⟩
  clear hK K
  try simp only [zP]
  refine tout 5 rfl fun K hK => ?_;go_simp;refine hK.out _ _ ?_;clear hK K
  try simp only [zP]
  refine zdn (by kernel_rfl) ?_ _;go_wp2
  (refine bodyPost_ret (v := .tuple #[.agg #[.bool b1, .slice a1 l1 c1], .agg #[.bool b2, .slice a2 l2 c2], .bool true]) (by simp [results, Tryz.results93, go_sem, *]) rfl ⟨_, _, _, _, _, _, _, _, rfl, ?_⟩)
  exact ⟨((hc1.put C2.noLimb _ _ _ _).put D3.noLimb _ _ _ _).za (Below.refl _ _).drew, ((hc2.put C2.noLimb _ _ _ _).put D3.noLimb _ _ _ _).za (Below.refl _ _).drew, (below_put (below_put (zu HB3) (by omega) _ _ _ _) (by omega) _ _ _ _).drew⟩

/-
 What quot.Near tells (IN PARTS).
-/

theorem near_code {x y : Int} (hy : 0 < y) : near x y = if x % y + x % y - y < 0 then x / y else x / y + 1 := by
 have h1 := Int.emod_nonneg x (show y ≠ 0 by omega);have h2 := Int.emod_lt_of_pos x hy;have h3 := Int.mul_ediv_add_emod x y
 split
 ·rw [near_pos hy];have : x / y * y = y * (x / y) := Int.mul_comm _ _;omega
 ·rw [near_pos hy];have : (x / y + 1) * y = y * (x / y) + y := by rw [Int.add_mul, Int.one_mul, Int.mul_comm]
  omega
theorem near_turn (x y : Int) : near x y = near (if y < 0 then -x else x) (if y < 0 then -y else y) := by
 by_cases c : y < 0
 ·rw [if_pos c, if_pos c]; exact near_neg c
 ·rw [if_neg c, if_neg c]

set_option maxHeartbeats 2000000 in
theorem nearK (b : Bool) (aa : Option Addr) (la ca : Nat) (x : Int) (k : Nat) (b' : Bool) (ab : Option Addr) (lb cb : Nat) (y : Int) (l : Nat) (w : World) (hx : IK w b aa la ca x k) (hy : IK w b' ab lb cb y l) (h0 : y ≠ 0) (hk : k ≤ 900000) (hl : l ≤ 900000) :
  Calls Tryz.prog 76 #[.agg #[.bool b, .slice aa la ca], .agg #[.bool b', .slice ab lb cb]] w fun e w' => ∃ b1 a1 l1 c1, e = .returned (.tuple #[.agg #[.bool b1, .slice a1 l1 c1], .bool true]) ∧ FK w' b1 a1 l1 c1 (near x y) (max k 2 + 1) ∧ Below w.heap.size w w' := by
 obtain ⟨s, es⟩ : ∃ s, s = y.sign := ⟨_, rfl⟩;have ES := zh es;rw [near_turn x y];obtain ⟨x', ex⟩ : ∃ x', x' = if y < 0 then -x else x := ⟨_, rfl⟩
 obtain ⟨y', ey⟩ : ∃ y', y' = if y < 0 then -y else y := ⟨_, rfl⟩
 rw [← ex, ← ey];have hp : 0 < y' := by rw [ey]; split <;> omega
 have H0 : Hid (y' ≠ 0) := fun e => by omega
 have hxa : x'.natAbs = x.natAbs := by rw [ex]; split <;> omega
 have LX : x'.natAbs < Bp k := by rw [hxa]; exact hx.2.2
 have hlq := Nat.lt_of_le_of_lt (Int.natAbs_ediv_le_natAbs x' y') LX;have LN0 := zh (Nat.lt_of_lt_of_le hlq (Bp_le (show k ≤ max k 2 + 1 by omega)));have ENC := zh (near_code (x := x') hp);clear hxa LX hlq hp;obtain ⟨s2, e2⟩ : ∃ s2, s2 = (x' % y' + x' % y' - y').sign := ⟨_, rfl⟩;have E2 := zh e2;have EX0 := zh ex;have EY0 := zh ey;clear e2 ex ey es;go_enter Tryz.func76, Tryz.ntmps76
 go_wp2_with fail
 obtain ⟨W, hWe⟩ : ∃ W, W = (((w.alloc (.cells #[.bool b, .slice aa la ca] 45)).alloc (.cells #[.bool b', .slice ab lb cb] 45)).alloc (.cells #[.bool false, .slice none 0 0] 45)) := ⟨_, rfl⟩;obtain ⟨B0, B1, B2, hb0⟩ := boxes3 w b aa la ca b' ab lb cb false none 0 0 hWe;rw [← hWe];clear hWe;refine (signK _ _ _ _ y l s _ (hy.za hb0) (zu ES)).mono ?_;rintro e w1 ⟨rfl, hb1⟩;replace B0 := B0.za hb1;replace B1 := B1.za hb1;replace B2 := B2.za hb1;have HB := zh (Below.step hb0 hb1);have hx1 := hx.za (zu HB);have hy1 := hy.za (zu HB);clear hb0 hb1 hx hy
 go_upto_if 11 with fail
 go_cut [] from 9 to 15 (fun wc => ∃ b1 a1 l1 c1 b2 a2 l2 c2, Box wc w.heap.size b1 a1 l1 c1 ∧ Box wc (w.heap.size + 1) b2 a2 l2 c2 ∧ Box wc (w.heap.size + 2) false none 0 0 ∧ IK wc b1 a1 l1 c1 x' k ∧ IK wc b2 a2 l2 c2 y' l ∧ Below w.heap.size w wc)
 case first =>
  have es := zu ES;have ex := zu EX0;have ey := zu EY0;by_cases hneg : y < 0
  ·have hs : s < 0 := by rw [es, Int.sign_eq_neg_one_of_neg hneg]; omega
   rw [if_pos hneg] at ex ey;have EX := zh ex;have EY := zh ey;clear ex ey es hneg
   go_wp2_with fail
   have HW : Below w1.heap.size w1 w1.drew := (Below.refl _ _).drew;have HS := zh fun w' (HW : Below w1.heap.size w1 w') => con4 (B0.za HW).zb.1 (B0.za HW).zb.2.1 (B1.za HW).zb.1 (B1.za HW).zb.2.1;refine zst HS HW 4 (by kernel_rfl) fun zH => ?_;refine ztl 0 rfl ?_;simp only [Act.put, aGet, aZero, aSet, aHead, aTail];refine ztl 2 rfl ?_;simp only [zP];refine tin 1 rfl fun K hK => ?_;go_simp;refine (negK _ _ _ _ x k _ (hx1.za HW)).mono ?_;rintro e w9 ⟨b1, a1, l1, c1, rfl, h1, hb9⟩;replace HW := Below.step HW hb9;clear hb9;refine hK.out _ _ ?_ (fun zH => ?_)
   ·exact zu HS _ HW
   clear hK K
   try simp only [zP]
   refine tin 3 rfl fun K hK => ?_;go_simp;refine (negK _ _ _ _ y l _ (hy1.za HW)).mono ?_;rintro e w9 ⟨b2, a2, l2, c2, rfl, h2, hb9⟩;replace HW := Below.step HW hb9;replace h1 := h1.za hb9;clear hb9;obtain ⟨q1, q2, q3, q4⟩ := (B0.za HW).zb;obtain ⟨q5, q6, q7, q8⟩ := (B1.za HW).zb;have hs9 := (B2.za HW).lt;refine hK.out _ _ ?_ (fun zH => ?_)
   ·exact zu HS _ HW
   clear hK K
   try simp only [zP]
   refine tout 4 rfl fun K hK => ?_;go_simp;refine hK.out _ _ ?_;clear hK K
   try simp only [zP]
   refine tout 5 rfl fun K hK => ?_;go_simp;refine hK.out _ _ ?_;clear hK K
   try simp only [zP]
   refine zdn (by kernel_rfl) ?_ _
   go_wp2_with fail
   go_meet
   case rel =>
    have n0 := (B0.za HW).noLimb;have n1 := ((B1.za HW).other (g' := w.heap.size) (by omega) b1 a1 l1 c1).noLimb;refine ⟨_, _, _, _, _, _, _, _, ((B0.za HW).put b1 a1 l1 c1).other (g' := w.heap.size + 1) (by omega) b2 a2 l2 c2, ((B1.za HW).other (g' := w.heap.size) (by omega) b1 a1 l1 c1).put b2 a2 l2 c2, ((B2.za HW).other (g' := w.heap.size) (by omega) b1 a1 l1 c1).other (g' := w.heap.size + 1) (by omega) b2 a2 l2 c2, ?_, ?_, below_put (below_put (Below.step (zu HB) HW) (by omega) b1 a1 l1 c1) (by omega) b2 a2 l2 c2⟩
    ·rw [zu EX]; exact ((h1.put n0 _ _ _ _).put n1 _ _ _ _).ik (by omega)
    ·rw [zu EY]; exact ((h2.put n0 _ _ _ _).put n1 _ _ _ _).ik (by omega)
  ·have hs : ¬ s < 0 := by
    rw [es];rcases Int.lt_trichotomy y 0 with h | h | h
    ·omega
    ·rw [h]; decide
    ·rw [Int.sign_eq_one_of_pos h]; omega
   rw [if_neg hneg] at ex ey;subst ex ey;clear es hneg
   go_wp2_with fail
   go_meet
   case rel => exact ⟨_, _, _, _, _, _, _, _, B0, B1, B2, hx1, hy1, zu HB⟩
 case rest =>
  clear EX0 EY0 B0 B1 B2 hx1 hy1 HB ES;obtain ⟨b1, a1, l1, c1, b2, a2, l2, c2, C0, C1, C2, hx2, hy2, hB2⟩ := hcut;have HB2 := zh hB2;clear hB2;obtain ⟨f1, f2, _, _⟩ := C0.zb;obtain ⟨f3, f4, _, _⟩ := C1.zb
  go_wp2_with fail
  refine (divK _ _ _ _ x' k _ _ _ _ y' l _ hx2 hy2 (zu H0) hk hl).mono ?_;rintro e wd ⟨b5, a5, l5, c5, b6, a6, l6, c6, rfl, h5, h6, hbd⟩;replace C1 := C1.za hbd;replace C2 := C2.za hbd;have hsz := C2.lt;have hy3 := hy2.za hbd;have HB3 := zh (Below.step (zu HB2) hbd);clear hbd HB2 hx2 hy2 C0 f1 f2 f3 f4
  go_upto_region 6 with fail
  obtain ⟨W3, hW3⟩ : ∃ W3, W3 = ((wd.alloc (.cells #[.bool b5, .slice a5 l5 c5] 45)).alloc (.cells #[.bool b6, .slice a6 l6 c6] 45)) := ⟨_, rfl⟩;obtain ⟨D0, D1, hbe⟩ := boxes2 wd b5 a5 l5 c5 b6 a6 l6 c6 hW3;rw [← hW3];clear hW3;replace C1 := C1.za hbe;replace C2 := C2.za hbe;replace h5 := h5.za hbe;replace h6 := h6.za hbe;have hy4 := hy3.za hbe;have HB4 := zh (Below.step (zu HB3) hbe);clear hbe HB3 hy3;have hs4 := C2.lt;have hsd := D1.lt;have HW : Below W3.heap.size W3 W3.drew := (Below.refl _ _).drew;by_cases hlt : x' % y' + x' % y' - y' < 0
  ·have hs2 : s2 < 0 := by rw [zu E2, Int.sign_eq_neg_one_of_neg hlt]; omega
   rw [if_pos hlt] at ENC;have EN := ENC;have LN : Hid ((near x' y').natAbs < Bp (max k 2 + 1)) := by rw [zu EN]; exact zu LN0
   clear hlt ENC LN0;have HS := zh fun w' (HW : Below W3.heap.size W3 w') => con4 (D1.za HW).zb.1 (D1.za HW).zb.2.1 (C1.za HW).zb.1 (C1.za HW).zb.2.1;refine zst HS HW 6 (by kernel_rfl) fun zH => ?_;refine ztl 0 rfl ?_;simp only [Act.put, aGet, aZero, aSet, aHead, aTail];refine ztl 1 rfl ?_;simp only [zP];refine ztl 3 rfl ?_;simp only [zP];refine tin 2 rfl fun K hK => ?_;go_simp;refine (addK _ _ _ _ (x' % y') l _ _ _ _ (x' % y') l _ ((h6.za HW).ik (by omega)) ((h6.za HW).ik (by omega))).mono ?_;rintro e w9 ⟨b7, a7, l7, c7, rfl, h7, hb9⟩;replace HW := Below.step HW hb9;clear hb9;refine hK.out _ _ ?_ (fun zH => ?_)
   ·exact zu HS _ HW
   clear hK K
   try simp only [zP]
   refine tin 4 rfl fun K hK => ?_;go_simp;refine (cmpK _ _ _ _ (x' % y' + x' % y') (max l l + 1) _ _ _ _ y' l s2 _ (h7.ik (by omega)) (hy4.za HW) (zu E2)).mono ?_;rintro e w9 ⟨rfl, hb9⟩;replace HW := Below.step HW hb9;clear hb9 h7;refine hK.out _ _ ?_ (fun zH => ?_)
   ·exact zu HS _ HW
   clear hK K
   try simp only [zP]
   refine ztl 5 rfl ?_;simp only [zP];refine tout 6 rfl fun K hK => ?_;go_simp;refine hK.out _ _ ?_;clear hK K
   try simp only [zP]
   refine zdn (by kernel_rfl) ?_ _;obtain ⟨q1, q2, q3, q4⟩ := (C2.za HW).zb;obtain ⟨q5, q6, _, _⟩ := (D0.za HW).zb;go_wp2;refine bodyPost_ret (v := .tuple #[.agg #[.bool b5, .slice a5 l5 c5], .bool true]) (by simp [results, Tryz.results76, go_sem, *]) rfl ⟨_, _, _, _, rfl, ?_⟩;exact ⟨(((h5.za HW).put (C2.za HW).noLimb _ _ _ _).eq (zu EN).symm).le (zu LN), below_put (Below.step (zu HB4) HW) (by omega) _ _ _ _⟩
  ·have hs2 : ¬ s2 < 0 := by
    rw [zu E2];rcases Int.lt_trichotomy (x' % y' + x' % y' - y') 0 with h | h | h
    ·omega
    ·rw [h]; decide
    ·rw [Int.sign_eq_one_of_pos h]; omega
   rw [if_neg hlt] at ENC;have EN := ENC;clear hlt ENC LN0;have HS := zh fun w' (HW : Below W3.heap.size W3 w') => con4 (D1.za HW).zb.1 (D1.za HW).zb.2.1 (C1.za HW).zb.1 (C1.za HW).zb.2.1;refine zst HS HW 6 (by kernel_rfl) fun zH => ?_;refine ztl 0 rfl ?_;simp only [Act.put, aGet, aZero, aSet, aHead, aTail];refine ztl 1 rfl ?_;simp only [zP];refine ztl 3 rfl ?_;simp only [zP];refine tin 2 rfl fun K hK => ?_;go_simp;refine (addK _ _ _ _ (x' % y') l _ _ _ _ (x' % y') l _ ((h6.za HW).ik (by omega)) ((h6.za HW).ik (by omega))).mono ?_;rintro e w9 ⟨b7, a7, l7, c7, rfl, h7, hb9⟩;replace HW := Below.step HW hb9;clear hb9;refine hK.out _ _ ?_ (fun zH => ?_)
   ·exact zu HS _ HW
   clear hK K
   try simp only [zP]
   refine tin 4 rfl fun K hK => ?_;go_simp;refine (cmpK _ _ _ _ (x' % y' + x' % y') (max l l + 1) _ _ _ _ y' l s2 _ (h7.ik (by omega)) (hy4.za HW) (zu E2)).mono ?_;rintro e w9 ⟨rfl, hb9⟩;replace HW := Below.step HW hb9;clear hb9 h7;refine hK.out _ _ ?_ (fun zH => ?_)
   ·exact zu HS _ HW
   clear hK K
   try simp only [zP]
   refine ztl 5 rfl ?_;simp only [zP];refine tout 6 rfl fun K hK => ?_;go_simp;refine hK.out _ _ ?_;clear hK K
   try simp only [zP]
   refine zdn (by kernel_rfl) ?_ _
   go_wp2_with fail
   replace HW := HW.drew;have HS := zh fun w' (HW : Below W3.heap.size W3 w') => con2 (D0.za HW).zb.1 (D0.za HW).zb.2.1;refine zst HS HW 3 (by kernel_rfl) fun zH => ?_;refine ztl 0 rfl ?_;simp only [Act.put, aGet, aZero, aSet, aHead, aTail];refine tin 1 rfl fun K hK => ?_;go_simp;refine (ofK 1 _ (by omega) (by omega)).mono ?_;rintro e w9 ⟨b8, a8, l8, c8, rfl, h8, hb9⟩;replace HW := Below.step HW hb9;clear hb9;refine hK.out _ _ ?_ (fun zH => ?_)
   ·exact zu HS _ HW
   clear hK K
   try simp only [zP]
   refine tin 2 rfl fun K hK => ?_;go_simp;refine (addK _ _ _ _ (x' / y') k _ _ _ _ 1 2 _ ((h5.za HW).ik (by omega)) (h8.ik (by omega))).mono ?_;rintro e w9 ⟨b9, a9, l9, c9, rfl, h9, hb9⟩;replace HW := Below.step HW hb9;clear hb9 h8;obtain ⟨q1, q2, q3, q4⟩ := (C2.za HW).zb;refine hK.out _ _ ?_ (fun zH => ?_)
   ·exact zu HS _ HW
   clear hK K
   try simp only [zP]
   refine tout 3 rfl fun K hK => ?_;go_simp;refine hK.out _ _ ?_;clear hK K
   try simp only [zP]
   refine tout 4 rfl fun K hK => ?_;go_simp;refine hK.out _ _ ?_;clear hK K
   try simp only [zP]
   refine zdn (by kernel_rfl) ?_ _;go_wp2;refine bodyPost_ret (v := .tuple #[.agg #[.bool b9, .slice a9 l9 c9], .bool true]) (by simp [results, Tryz.results76, go_sem, *]) rfl ⟨_, _, _, _, rfl, ?_⟩;exact ⟨((h9.put (C2.za HW).noLimb _ _ _ _).eq (zu EN).symm), below_put (Below.step (zu HB4) HW) (by omega) _ _ _ _⟩

/-
 What the reference's Quo and Div tell (IN PARTS).
-/

set_option maxHeartbeats 2000000 in
theorem rquoK (b : Bool) (aa : Option Addr) (la ca : Nat) (x : Int) (k : Nat) (b' : Bool) (ab : Option Addr) (lb cb : Nat) (y : Int) (l : Nat) (w : World) (hx : IK w b aa la ca x k) (hy : IK w b' ab lb cb y l) (h0 : y ≠ 0) :
  Calls Tryz.prog 34 #[.agg #[.bool b, .slice aa la ca], .agg #[.bool b', .slice ab lb cb]] w fun e w' => ∃ b1 a1 l1 c1 b2 a2 l2 c2, e = .returned (.tuple #[.agg #[.bool b1, .slice a1 l1 c1], .agg #[.bool b2, .slice a2 l2 c2]]) ∧ FK w' b1 a1 l1 c1 (x.tdiv y) k ∧ FK w' b2 a2 l2 c2 (x.tmod y) l ∧ Below w.heap.size w w' := by
 have LQ' := zh (Nat.lt_of_le_of_lt (tdiv_abs_le x y) hx.2.2);have LR' := zh (Nat.lt_trans (tmod_abs_lt (x := x) h0) hy.2.2);obtain ⟨⟨M, hM, ex⟩, hla, _⟩ := hx;obtain ⟨⟨N, hN, ey⟩, hlb, _⟩ := hy;have hla : la ≤ 1000000 := by omega
 have hlb : lb ≤ 1000000 := by omega
 have hN0 : 0 < N := by
  rcases Nat.eq_zero_or_pos N with h | h
  ·subst h; exact absurd (ey.trans (sgnd_zero b')) h0
  ·exact h
 have LQ := zh (Nat.lt_of_le_of_lt (Nat.div_le_self M N) (hM.lt (Nat.le_refl _)));have LR := zh (Nat.lt_trans (Nat.mod_lt M hN0) (hN.lt (Nat.le_refl _)));rw [ex, ey, tdiv_sgnd] at LQ';rw [ex, ey, tmod_sgnd] at LR';rw [ex, ey, tdiv_sgnd, tmod_sgnd];clear h0 ex ey;go_enter Tryz.func34, Tryz.ntmps34
 go_wp2_with fail
 obtain ⟨W, hWe⟩ : ∃ W, W = ((((w.alloc (.cells #[.bool b, .slice aa la ca] 45)).alloc (.cells #[.bool b', .slice ab lb cb] 45)).alloc (.cells #[.bool false, .slice none 0 0] 45)).alloc (.cells #[.bool false, .slice none 0 0] 45)) := ⟨_, rfl⟩;obtain ⟨B0, B1, B2, B3, hb0⟩ := boxes4 w b aa la ca b' ab lb cb false none 0 0 false none 0 0 hWe;rw [← hWe];clear hWe;refine (rdivmod_num _ _ _ M _ _ _ N _ (hM.za hb0) (hN.za hb0) hla hlb hN0).mono ?_;rintro e w1 ⟨a1, l1, c1, a2, l2, c2, rfl, h1, h2, hb1⟩;replace B0 := B0.za hb1;replace B1 := B1.za hb1;replace B2 := B2.za hb1;replace B3 := B3.za hb1;have HB := zh (Below.step hb0 hb1);clear hb0 hb1;have hl1 : l1 ≤ 1000000 := Nat.le_trans (h1.len_le (zu LQ)) hla;have hl2 : l2 ≤ 1000000 := Nat.le_trans (h2.len_le (zu LR)) hlb
 go_wp2_with fail
 have HW : Below w1.heap.size w1 w1.drew := (Below.refl _ _).drew;have HS := zh fun w' (HW : Below w1.heap.size w1 w') => con4 (B0.za HW).zb.1 (B0.za HW).zb.2.1 (B1.za HW).zb.1 (B1.za HW).zb.2.1;refine zst HS HW 13 (by kernel_rfl) fun zH => ?_;refine ztl 0 rfl ?_;simp only [Act.put, aGet, aZero, aSet, aHead, aTail];refine ztl 1 rfl ?_;simp only [zP];refine ztl 2 rfl ?_;simp only [zP];refine ztl 3 rfl ?_;simp only [zP];refine ztl 4 rfl ?_;simp only [zP];refine ztl 5 rfl ?_;simp only [zP];refine ztl 6 rfl ?_;simp only [zP];refine ztl 8 rfl ?_;simp only [zP];refine ztl 9 rfl ?_;simp only [zP];refine ztl 10 rfl ?_;simp only [zP];refine ztl 11 rfl ?_;simp only [zP];refine tin 7 rfl fun K hK => ?_;go_simp;refine (rform_num (b != b') _ _ _ _ _ ⟨M / N, (h1.za HW).val, rfl⟩ hl1).mono ?_;rintro e w9 ⟨b3, a3, l3, c3, rfl, h3, hb9⟩;replace HW := Below.step HW hb9;clear hb9;refine hK.out _ _ ?_ (fun zH => ?_)
 ·exact zu HS _ HW
 clear hK K
 try simp only [zP]
 refine tin 12 rfl fun K hK => ?_;go_simp;refine (rform_num b _ _ _ _ _ ⟨M % N, (h2.za HW).val, rfl⟩ hl2).mono ?_;rintro e w9 ⟨b4, a4, l4, c4, rfl, h4, hb9⟩;replace HW := Below.step HW hb9;replace h3 := h3.za hb9;clear hb9;obtain ⟨q1, q2, q3, q4⟩ := (B2.za HW).zb;obtain ⟨q5, q6, q7, q8⟩ := (B3.za HW).zb;have hs9 := (B3.za HW).lt;refine hK.out _ _ ?_ (fun zH => ?_)
 ·exact zu HS _ HW
 clear hK K
 try simp only [zP]
 refine tout 13 rfl fun K hK => ?_;go_simp;refine hK.out _ _ ?_;clear hK K
 try simp only [zP]
 refine tout 14 rfl fun K hK => ?_;go_simp;refine hK.out _ _ ?_;clear hK K
 try simp only [zP]
 refine zdn (by kernel_rfl) ?_ _;go_wp2;refine bodyPost_ret (v := .tuple #[.agg #[.bool b3, .slice a3 l3 c3], .agg #[.bool b4, .slice a4 l4 c4]]) (by simp [results, Tryz.results34, go_sem, *]) rfl ⟨_, _, _, _, _, _, _, _, rfl, ?_⟩;have he := int_end2 (Below.step (zu HB) HW) (g := w.heap.size + 2) (g' := w.heap.size + 3) (by omega) (by omega) (by omega) (B2.za HW).noLimb (B3.za HW).noLimb h3 h4 (.bool b3) (.slice a3 l3 c3) (.bool b4) (.slice a4 l4 c4);exact ⟨⟨he.1, zu LQ'⟩, ⟨he.2.1, zu LR'⟩, he.2.2⟩

set_option maxHeartbeats 4000000 in
theorem rdivK (b : Bool) (aa : Option Addr) (la ca : Nat) (x : Int) (k : Nat) (b' : Bool) (ab : Option Addr) (lb cb : Nat) (y : Int) (l : Nat) (w : World) (hx : IK w b aa la ca x k) (hy : IK w b' ab lb cb y l) (h0 : y ≠ 0) (hk : k ≤ 900000) (hl : l ≤ 900000) :
  Calls Tryz.prog 38 #[.agg #[.bool b, .slice aa la ca], .agg #[.bool b', .slice ab lb cb]] w fun e w' => ∃ b1 a1 l1 c1 b2 a2 l2 c2, e = .returned (.tuple #[.agg #[.bool b1, .slice a1 l1 c1], .agg #[.bool b2, .slice a2 l2 c2]]) ∧ FK w' b1 a1 l1 c1 (x / y) k ∧ FK w' b2 a2 l2 c2 (x % y) l ∧ Below w.heap.size w w' := by
 have EQ := zh (ediv_of_tdiv x y);have ER := zh (emod_of_tmod x y);have LQ := zh (Nat.lt_of_le_of_lt (Int.natAbs_ediv_le_natAbs x y) hx.2.2);have LR := zh (Nat.lt_trans (emod_abs_lt (x := x) h0) hy.2.2);obtain ⟨s, es⟩ : ∃ s, s = (x.tmod y).sign := ⟨_, rfl⟩;have ES := zh es;by_cases ht : x.tmod y < 0
 ·rw [if_pos ht] at EQ ER;have hs : s < 0 := by rw [es, Int.sign_eq_neg_one_of_neg ht]; omega
  obtain ⟨s', es'⟩ : ∃ s', s' = y.sign := ⟨_, rfl⟩;have ES' := zh es';have hbd : -1 ≤ s' ∧ s' ≤ 1 := by rw [es']; exact sign_bd y
  rw [← es'] at EQ;clear es ht es';obtain ⟨hbd1, hbd2⟩ := hbd;go_enter Tryz.func38, Tryz.ntmps38
  go_wp2_with fail
  obtain ⟨W, hWe⟩ : ∃ W, W = ((((w.alloc (.cells #[.bool b, .slice aa la ca] 45)).alloc (.cells #[.bool b', .slice ab lb cb] 45)).alloc (.cells #[.bool false, .slice none 0 0] 45)).alloc (.cells #[.bool false, .slice none 0 0] 45)) := ⟨_, rfl⟩;obtain ⟨B0, B1, B2, B3, hb0⟩ := boxes4 w b aa la ca b' ab lb cb false none 0 0 false none 0 0 hWe;rw [← hWe];clear hWe;refine (rquoK _ _ _ _ x k _ _ _ _ y l _ (hx.za hb0) (hy.za hb0) h0).mono ?_;rintro e wq ⟨b5, a5, l5, c5, b6, a6, l6, c6, rfl, h5, h6, hb1⟩;replace B1 := B1.za hb1;replace B2 := B2.za hb1;replace B3 := B3.za hb1;have HB := zh (Below.step hb0 hb1);have hy1 := hy.za (zu HB);have hsz := B3.lt;clear hb0 hb1 B0 hx hy
  go_wp2_with fail
  obtain ⟨W3, hW3⟩ : ∃ W3, W3 = ((wq.alloc (.cells #[.bool b5, .slice a5 l5 c5] 45)).alloc (.cells #[.bool b6, .slice a6 l6 c6] 45)) := ⟨_, rfl⟩;obtain ⟨D0, D1, hbe⟩ := boxes2 wq b5 a5 l5 c5 b6 a6 l6 c6 hW3;rw [← hW3];clear hW3;replace B1 := B1.za hbe;replace B2 := B2.za hbe;replace B3 := B3.za hbe;replace h5 := h5.za hbe;replace h6 := h6.za hbe;replace hy1 := hy1.za hbe;have HB2 := zh (Below.step (zu HB) hbe);clear hbe HB;refine (rsignK _ _ _ _ (x.tmod y) l s _ (h6.ik (by omega)) (zu ES)).mono ?_;rintro e w4 ⟨rfl, hb4⟩;replace B1 := B1.za hb4;replace B2 := B2.za hb4;replace B3 := B3.za hb4;replace D0 := D0.za hb4;replace D1 := D1.za hb4;replace h5 := h5.za hb4;replace h6 := h6.za hb4;replace hy1 := hy1.za hb4;have HB4 := zh (Below.step (zu HB2) hb4);clear hb4 HB2;have hsd := D1.lt
  go_wp2_with fail
  have HW : Below w4.heap.size w4 w4.drew := (Below.refl _ _).drew;have HS := zh fun w' (HW : Below w4.heap.size w4 w') => con4 (D1.za HW).zb.1 (D1.za HW).zb.2.1 (B1.za HW).zb.1 (B1.za HW).zb.2.1;refine zst HS HW 4 (by kernel_rfl) fun zH => ?_;refine ztl 0 rfl ?_;simp only [Act.put, aGet, aZero, aSet, aHead, aTail];refine ztl 1 rfl ?_;simp only [zP];refine tin 2 rfl fun K hK => ?_;go_simp;refine (rabsK _ _ _ _ y l _ (hy1.za HW)).mono ?_;rintro e w9 ⟨b7, a7, l7, c7, rfl, h7, hb9⟩;replace HW := Below.step HW hb9;clear hb9;refine hK.out _ _ ?_ (fun zH => ?_)
  ·exact zu HS _ HW
  clear hK K
  try simp only [zP]
  refine tin 3 rfl fun K hK => ?_;go_simp;refine (raddK _ _ _ _ (x.tmod y) l _ _ _ _ (y.natAbs : Int) l _ ((h6.za HW).ik (by omega)) (h7.ik (by omega))).mono ?_;rintro e w9 ⟨b8, a8, l8, c8, rfl, h8, hb9⟩;replace HW := Below.step HW hb9;clear hb9 h7;obtain ⟨q1, q2, q3, q4⟩ := (D1.za HW).zb;have hs9 := (D1.za HW).lt;refine hK.out _ _ ?_ (fun zH => ?_)
  ·exact zu HS _ HW
  clear hK K
  try simp only [zP]
  refine tout 4 rfl fun K hK => ?_;go_simp;refine hK.out _ _ ?_;clear hK K
  try simp only [zP]
  refine zdn (by kernel_rfl) ?_ _;clear q1 q2 q3 q4 h6
  go_wp2_with fail
  obtain ⟨W5, hWx⟩ : ∃ W', W' = ((w9.setCell ⟨wq.heap.size + 1, 0, none⟩ (.bool b8)).setCell ⟨wq.heap.size + 1, 1, none⟩ (.slice a8 l8 c8)) := ⟨_, rfl⟩;rw [← hWx];have nx := (D1.za HW).noLimb;replace B1 : Box W5 (w.heap.size + 1) b' ab lb cb := by rw [hWx]; exact (B1.za HW).other (g' := wq.heap.size + 1) (by omega) b8 a8 l8 c8
  replace B2 : Box W5 (w.heap.size + 2) false none 0 0 := by rw [hWx]; exact (B2.za HW).other (g' := wq.heap.size + 1) (by omega) b8 a8 l8 c8
  replace B3 : Box W5 (w.heap.size + 3) false none 0 0 := by rw [hWx]; exact (B3.za HW).other (g' := wq.heap.size + 1) (by omega) b8 a8 l8 c8
  replace D0 : Box W5 (wq.heap.size) b5 a5 l5 c5 := by rw [hWx]; exact (D0.za HW).other (g' := wq.heap.size + 1) (by omega) b8 a8 l8 c8
  replace D1 : Box W5 (wq.heap.size + 1) b8 a8 l8 c8 := by rw [hWx]; exact (D1.za HW).put b8 a8 l8 c8
  replace h5 : FK W5 b5 a5 l5 c5 (x.tdiv y) k := by rw [hWx]; exact (h5.za HW).put nx _ _ _ _
  replace hy1 : IK W5 b' ab lb cb y l := by rw [hWx]; exact (hy1.za HW).put nx _ _ _ _
  replace h8 : FK W5 b8 a8 l8 c8 (x.tmod y + (y.natAbs : Int)) (max l l + 1) := by rw [hWx]; exact h8.put nx _ _ _ _
  have HB5 : Hid (Below w.heap.size w W5) := by rw [hWx]; exact below_put (Below.step (zu HB4) HW) (by omega) b8 a8 l8 c8
  clear hWx nx HW;clear HB4;have hs5 := D1.lt;have HW : Below W5.heap.size W5 W5.drew := (Below.refl _ _).drew;have HS := zh fun w' (HW : Below W5.heap.size W5 w') => con4 (D0.za HW).zb.1 (D0.za HW).zb.2.1 (B1.za HW).zb.1 (B1.za HW).zb.2.1;refine zst HS HW 5 (by kernel_rfl) fun zH => ?_;refine ztl 0 rfl ?_;simp only [Act.put, aGet, aZero, aSet, aHead, aTail];refine ztl 1 rfl ?_;simp only [zP];refine tin 2 rfl fun K hK => ?_;go_simp;refine (rsignK _ _ _ _ y l s' _ (hy1.za HW) (zu ES')).mono ?_;rintro e w9 ⟨rfl, hb9⟩;replace HW := Below.step HW hb9;clear hb9;refine hK.out _ _ ?_ (fun zH => ?_)
  ·exact zu HS _ HW
  clear hK K
  try simp only [zP]
  refine tin 3 rfl fun K hK => ?_;go_simp;refine (rofK s' _ (by omega) (by omega)).mono ?_;rintro e w9 ⟨b7, a7, l7, c7, rfl, h7, hb9⟩;replace HW := Below.step HW hb9;clear hb9;refine hK.out _ _ ?_ (fun zH => ?_)
  ·exact zu HS _ HW
  clear hK K
  try simp only [zP]
  refine tin 4 rfl fun K hK => ?_;go_simp;refine (rsubK _ _ _ _ (x.tdiv y) k _ _ _ _ s' 2 _ ((h5.za HW).ik (by omega)) (h7.ik (by omega))).mono ?_;rintro e w9 ⟨b9, a9, l9, c9, rfl, h9, hb9⟩;replace HW := Below.step HW hb9;clear hb9 h7;obtain ⟨q1, q2, q3, q4⟩ := (D0.za HW).zb;refine hK.out _ _ ?_ (fun zH => ?_)
  ·exact zu HS _ HW
  clear hK K
  try simp only [zP]
  refine tout 5 rfl fun K hK => ?_;go_simp;refine hK.out _ _ ?_;clear hK K
  try simp only [zP]
  refine zdn (by kernel_rfl) ?_ _;clear q1 q2 q3 q4 h5
  go_wp2_with fail
  obtain ⟨W6, hWx⟩ : ∃ W', W' = ((w9.setCell ⟨wq.heap.size, 0, none⟩ (.bool b9)).setCell ⟨wq.heap.size, 1, none⟩ (.slice a9 l9 c9)) := ⟨_, rfl⟩;rw [← hWx];have nx := (D0.za HW).noLimb;replace B2 : Box W6 (w.heap.size + 2) false none 0 0 := by rw [hWx]; exact (B2.za HW).other (g' := wq.heap.size) (by omega) b9 a9 l9 c9
  replace B3 : Box W6 (w.heap.size + 3) false none 0 0 := by rw [hWx]; exact (B3.za HW).other (g' := wq.heap.size) (by omega) b9 a9 l9 c9
  replace D1 : Box W6 (wq.heap.size + 1) b8 a8 l8 c8 := by rw [hWx]; exact (D1.za HW).other (g' := wq.heap.size) (by omega) b9 a9 l9 c9
  replace D0 : Box W6 (wq.heap.size) b9 a9 l9 c9 := by rw [hWx]; exact (D0.za HW).put b9 a9 l9 c9
  replace h8 : FK W6 b8 a8 l8 c8 (x.tmod y + (y.natAbs : Int)) (max l l + 1) := by rw [hWx]; exact (h8.za HW).put nx _ _ _ _
  replace h9 : FK W6 b9 a9 l9 c9 (x.tdiv y - s') (max k 2 + 1) := by rw [hWx]; exact h9.put nx _ _ _ _
  have HB6 : Hid (Below w.heap.size w W6) := by rw [hWx]; exact below_put (Below.step (zu HB5) HW) (by omega) b9 a9 l9 c9
  clear hWx nx HW;clear HB5 B1 hy1;have hs6 := D1.lt;obtain ⟨q1, q2, q3, q4⟩ := B2.zb;obtain ⟨q5, q6, q7, q8⟩ := B3.zb;have HW : Below W6.heap.size W6 W6.drew := (Below.refl _ _).drew;have HS := zh fun w' (HW : Below W6.heap.size W6 w') => con4 (D0.za HW).zb.1 (D0.za HW).zb.2.1 (D1.za HW).zb.1 (D1.za HW).zb.2.1;refine zst HS HW 3 (by kernel_rfl) fun zH => ?_;refine ztl 0 rfl ?_;simp only [Act.put, aGet, aZero, aSet, aHead, aTail];refine ztl 1 rfl ?_;simp only [zP];refine tin 2 rfl fun K hK => ?_;go_simp;refine hK.out _ _ ?_ (fun zH => ?_)
  ·exact ⟨(((D0.za HW).other (g' := w.heap.size + 2) (by omega) b9 a9 l9 c9).zb).1, (((D0.za HW).other (g' := w.heap.size + 2) (by omega) b9 a9 l9 c9).zb).2.1, (((D1.za HW).other (g' := w.heap.size + 2) (by omega) b9 a9 l9 c9).zb).1, (((D1.za HW).other (g' := w.heap.size + 2) (by omega) b9 a9 l9 c9).zb).2.1⟩
  clear hK K
  try simp only [zP]
  refine tout 3 rfl fun K hK => ?_;go_simp;refine hK.out _ _ ?_;clear hK K
  try simp only [zP]
  refine zdn (by kernel_rfl) ?_ _;go_wp2;refine bodyPost_ret (v := .tuple #[.agg #[.bool b9, .slice a9 l9 c9], .agg #[.bool b8, .slice a8 l8 c8]]) (by simp [results, Tryz.results38, go_sem, *]) rfl ⟨_, _, _, _, _, _, _, _, rfl, ?_⟩;have n3 := (B3.other (g' := w.heap.size + 2) (by omega) b9 a9 l9 c9).noLimb;exact ⟨(((((h9).put B2.noLimb _ _ _ _).put n3 _ _ _ _).eq (zu EQ).symm).le (zu LQ)).za (Below.refl _ _).drew, (((((h8).put B2.noLimb _ _ _ _).put n3 _ _ _ _).eq (zu ER).symm).le (zu LR)).za (Below.refl _ _).drew, (below_put (below_put (zu HB6) (by omega) _ _ _ _) (by omega) _ _ _ _).drew⟩
 ·rw [if_neg ht] at EQ ER;have hs : ¬ s < 0 := by
   rw [es];rcases Int.lt_trichotomy (x.tmod y) 0 with h | h | h
   ·omega
   ·rw [h]; decide
   ·rw [Int.sign_eq_one_of_pos h]; omega
  clear es ht;go_enter Tryz.func38, Tryz.ntmps38
  go_wp2_with fail
  obtain ⟨W, hWe⟩ : ∃ W, W = ((((w.alloc (.cells #[.bool b, .slice aa la ca] 45)).alloc (.cells #[.bool b', .slice ab lb cb] 45)).alloc (.cells #[.bool false, .slice none 0 0] 45)).alloc (.cells #[.bool false, .slice none 0 0] 45)) := ⟨_, rfl⟩;obtain ⟨B0, B1, B2, B3, hb0⟩ := boxes4 w b aa la ca b' ab lb cb false none 0 0 false none 0 0 hWe;rw [← hWe];clear hWe;refine (rquoK _ _ _ _ x k _ _ _ _ y l _ (hx.za hb0) (hy.za hb0) h0).mono ?_;rintro e wq ⟨b5, a5, l5, c5, b6, a6, l6, c6, rfl, h5, h6, hb1⟩;replace B1 := B1.za hb1;replace B2 := B2.za hb1;replace B3 := B3.za hb1;have HB := zh (Below.step hb0 hb1);have hy1 := hy.za (zu HB);have hsz := B3.lt;clear hb0 hb1 B0 hx hy
  go_wp2_with fail
  obtain ⟨W3, hW3⟩ : ∃ W3, W3 = ((wq.alloc (.cells #[.bool b5, .slice a5 l5 c5] 45)).alloc (.cells #[.bool b6, .slice a6 l6 c6] 45)) := ⟨_, rfl⟩;obtain ⟨D0, D1, hbe⟩ := boxes2 wq b5 a5 l5 c5 b6 a6 l6 c6 hW3;rw [← hW3];clear hW3;replace B1 := B1.za hbe;replace B2 := B2.za hbe;replace B3 := B3.za hbe;replace h5 := h5.za hbe;replace h6 := h6.za hbe;replace hy1 := hy1.za hbe;have HB2 := zh (Below.step (zu HB) hbe);clear hbe HB;refine (rsignK _ _ _ _ (x.tmod y) l s _ (h6.ik (by omega)) (zu ES)).mono ?_;rintro e w4 ⟨rfl, hb4⟩;replace B1 := B1.za hb4;replace B2 := B2.za hb4;replace B3 := B3.za hb4;replace D0 := D0.za hb4;replace D1 := D1.za hb4;replace h5 := h5.za hb4;replace h6 := h6.za hb4;replace hy1 := hy1.za hb4;have HB4 := zh (Below.step (zu HB2) hb4);clear hb4 HB2;have hsd := D1.lt
  go_wp2_with fail
  obtain ⟨q1, q2, q3, q4⟩ := B2.zb;obtain ⟨q5, q6, q7, q8⟩ := B3.zb;have HW : Below w4.heap.size w4 w4.drew := (Below.refl _ _).drew;have HS := zh fun w' (HW : Below w4.heap.size w4 w') => con4 (D0.za HW).zb.1 (D0.za HW).zb.2.1 (D1.za HW).zb.1 (D1.za HW).zb.2.1;refine zst HS HW 3 (by kernel_rfl) fun zH => ?_;refine ztl 0 rfl ?_;simp only [Act.put, aGet, aZero, aSet, aHead, aTail];refine ztl 1 rfl ?_;simp only [zP];refine tin 2 rfl fun K hK => ?_;go_simp;refine hK.out _ _ ?_ (fun zH => ?_)
  ·exact ⟨(((D0.za HW).other (g' := w.heap.size + 2) (by omega) b5 a5 l5 c5).zb).1, (((D0.za HW).other (g' := w.heap.size + 2) (by omega) b5 a5 l5 c5).zb).2.1, (((D1.za HW).other (g' := w.heap.size + 2) (by omega) b5 a5 l5 c5).zb).1, (((D1.za HW).other (g' := w.heap.size + 2) (by omega) b5 a5 l5 c5).zb).2.1⟩
  clear hK K
  try simp only [zP]
  refine tout 3 rfl fun K hK => ?_;go_simp;refine hK.out _ _ ?_;clear hK K
  try simp only [zP]
  refine zdn (by kernel_rfl) ?_ _;go_wp2;refine bodyPost_ret (v := .tuple #[.agg #[.bool b5, .slice a5 l5 c5], .agg #[.bool b6, .slice a6 l6 c6]]) (by simp [results, Tryz.results38, go_sem, *]) rfl ⟨_, _, _, _, _, _, _, _, rfl, ?_⟩;have n3 := (B3.other (g' := w.heap.size + 2) (by omega) b5 a5 l5 c5).noLimb;exact ⟨(((((h5).put B2.noLimb _ _ _ _).put n3 _ _ _ _).eq (zu EQ).symm).le (zu LQ)).za (Below.refl _ _).drew, (((((h6).put B2.noLimb _ _ _ _).put n3 _ _ _ _).eq (zu ER).symm).le (zu LR)).za (Below.refl _ _).drew, (below_put (below_put (zu HB4) (by omega) _ _ _ _) (by omega) _ _ _ _).drew⟩

end Go.Proofs.YtnpneloahajniaaGreat
