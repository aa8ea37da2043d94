/-
 What quot.Div tells (IN PARTS).
-/
import Derived.Test.YtnpneloahajniaaJE
import Derived.Deep.CutRange
namespace Go.Proofs.Ytnpneloahajniaa
open Go.RowKit Lb
set_option maxRecDepth 20000

set_option maxHeartbeats 2000000 in
theorem divK (b : Bool) (aa : Option Addr) (la ca : Nat) (x : Int) (k : Nat) (b' : Bool) (ab : Option Addr) (lb cb : Nat) (y : Int) (l : Nat) (w : World) (hx : IK w b aa la ca x k) (hy : IK w b' ab lb cb y l) (h0 : y ≠ 0) (hk : k ≤ 900000) (hl : l ≤ 900000) :
  Calls Try.prog 60 #[.agg #[.bool b, .slice aa la ca], .agg #[.bool b', .slice ab lb cb]] w fun e w' => ∃ b1 a1 l1 c1 b2 a2 l2 c2, e = .returned (.tuple #[.agg #[.bool b1, .slice a1 l1 c1], .agg #[.bool b2, .slice a2 l2 c2], .bool true]) ∧ FK w' b1 a1 l1 c1 (x / y) k ∧ FK w' b2 a2 l2 c2 (x % y) l ∧ Below w.heap.size w w' := by
 have EQ := hide (ediv_of_tdiv x y)
 have ER := hide (emod_of_tmod x y)
 have LQ := hide (Nat.lt_of_le_of_lt (Int.natAbs_ediv_le_natAbs x y) hx.2.2)
 have LR := hide (Nat.lt_trans (emod_abs_lt (x := x) h0) hy.2.2)
 obtain ⟨s, es⟩ : ∃ s, s = (x.tmod y).sign := ⟨_, rfl⟩
 have ES := hide es
 by_cases ht : x.tmod y < 0
 ·rw [if_pos ht] at EQ ER
  have hs : ¬ (0 ≤ s) := by rw [es, Int.sign_eq_neg_one_of_neg ht]; omega
  clear es ht
  obtain ⟨s', es'⟩ : ∃ s', s' = y.sign := ⟨_, rfl⟩
  have ES' := hide es'
  by_cases hp : 0 < y
  ·have hsp : 0 < s' := by rw [es', Int.sign_eq_one_of_pos hp]; omega
   rw [Int.sign_eq_one_of_pos hp] at EQ
   rw [show (y.natAbs : Int) = y by omega] at ER
   clear es' hp
   go_enter Try.func60, Try.ntmps60
   go_wp2_with fail
   obtain ⟨W, hWe⟩ : ∃ W, W = ((((w.alloc (.cells #[.bool b, .slice aa la ca] 38)).alloc (.cells #[.bool b', .slice ab lb cb] 38)).alloc (.cells #[.bool false, .slice none 0 0] 38)).alloc (.cells #[.bool false, .slice none 0 0] 38)) := ⟨_, rfl⟩
   obtain ⟨B0, B1, B2, B3, hb0⟩ := boxes4 w b aa la ca b' ab lb cb false none 0 0 false none 0 0 hWe
   rw [← hWe]
   clear hWe
   refine (quoK _ _ _ _ x k _ _ _ _ y l _ (hx.later hb0) (hy.later hb0) h0).mono ?_
   rintro e w1 ⟨b1, a1, l1, c1, b2, a2, l2, c2, rfl, h1, h2, hb1⟩
   have HB := hide (Below.step hb0 hb1)
   replace B0 := B0.later hb1
   replace B1 := B1.later hb1
   replace B2 := B2.later hb1
   replace B3 := B3.later hb1
   have hy1 := hy.later (Below.step hb0 hb1)
   clear hb0 hb1 hx hy
   have hs2 : w.heap.size + 3 < w1.heap.size := B3.lt
   obtain ⟨q1, q2, q3, q4⟩ := B2.facts
   obtain ⟨q5, q6, q7, q8⟩ := B3.facts
   go_wp2_with fail
   obtain ⟨W2, hW2⟩ : ∃ W2, W2 = ((((w1.setCell ⟨w.heap.size + 1 + 1, 0, none⟩ (.bool b1)).setCell ⟨w.heap.size + 1 + 1, 1, none⟩ (.slice a1 l1 c1)).setCell ⟨w.heap.size + 1 + 1 + 1, 0, none⟩ (.bool b2)).setCell ⟨w.heap.size + 1 + 1 + 1, 1, none⟩ (.slice a2 l2 c2)) := ⟨_, rfl⟩
   rw [← hW2]
   have n2 := B2.noLimb
   have n3 := (B3.other (g' := w.heap.size + 2) (by omega) b1 a1 l1 c1).noLimb
   have hc1 : FK W2 b1 a1 l1 c1 (x.tdiv y) k := by rw [hW2]; exact (h1.put n2 _ _ _ _).put n3 _ _ _ _
   have hc2 : FK W2 b2 a2 l2 c2 (x.tmod y) l := by rw [hW2]; exact (h2.put n2 _ _ _ _).put n3 _ _ _ _
   have hy2 : IK W2 b' ab lb cb y l := by rw [hW2]; exact (hy1.put n2 _ _ _ _).put n3 _ _ _ _
   have C1 : Box W2 (w.heap.size + 1) b' ab lb cb := by rw [hW2]; exact (B1.other (g' := w.heap.size + 2) (by omega) b1 a1 l1 c1).other (g' := w.heap.size + 3) (by omega) b2 a2 l2 c2
   clear h1 h2 hy1
   have C2 : Box W2 (w.heap.size + 2) b1 a1 l1 c1 := by rw [hW2]; exact (B2.put b1 a1 l1 c1).other (g' := w.heap.size + 3) (by omega) b2 a2 l2 c2
   have C3 : Box W2 (w.heap.size + 3) b2 a2 l2 c2 := by rw [hW2]; exact (B3.other (g' := w.heap.size + 2) (by omega) b1 a1 l1 c1).put b2 a2 l2 c2
   have HB2 : Hid (Below w.heap.size w W2) := by rw [hW2]; exact below_put (below_put (unhide HB) (by omega) b1 a1 l1 c1) (by omega) b2 a2 l2 c2
   have hs3 := C3.lt
   clear hW2 B0 B1 B2 B3 n2 n3 q1 q2 q3 q4 q5 q6 q7 q8 HB hs2
   refine (signK _ _ _ _ (x.tmod y) l s _ (hc2.ik (by omega)) (unhide ES)).mono ?_
   rintro e w3 ⟨rfl, hb3⟩
   replace C1 := C1.later hb3
   replace C2 := C2.later hb3
   replace C3 := C3.later hb3
   replace hc1 := hc1.later hb3
   replace hc2 := hc2.later hb3
   replace hy2 := hy2.later hb3
   have HB3 := hide (Below.step (unhide HB2) hb3)
   clear hb3 HB2 hs3
   have hs3 := C3.lt
   obtain ⟨r1, r2, _, _⟩ := C1.facts
   go_wp2_with fail
   refine (signK _ _ _ _ y l s' _ hy2 (unhide ES')).mono ?_
   rintro e w4 ⟨rfl, hb4⟩
   replace C1 := C1.later hb4
   replace C2 := C2.later hb4
   replace C3 := C3.later hb4
   replace hc1 := hc1.later hb4
   replace hc2 := hc2.later hb4
   have hy4 := hy2.later hb4
   have HB4 := hide (Below.step (unhide HB3) hb4)
   clear hb4 HB3 hy2 hs3 r1 r2
   have hs4 := C3.lt
   go_wp2_with fail
   have HW : Below w4.heap.size w4 w4.drew := (Below.refl _ _).drew
   refine till_start (fun w' => w'.cell? ⟨w.heap.size + 1, 0, none⟩ = some (.bool b') ∧ w'.cell? ⟨w.heap.size + 1, 1, none⟩ = some (.slice ab lb cb) ∧ w'.cell? ⟨w.heap.size + 2, 0, none⟩ = some (.bool b1) ∧ w'.cell? ⟨w.heap.size + 2, 1, none⟩ = some (.slice a1 l1 c1) ∧ w'.cell? ⟨w.heap.size + 3, 0, none⟩ = some (.bool b2) ∧ w'.cell? ⟨w.heap.size + 3, 1, none⟩ = some (.slice a2 l2 c2)) 6 (by kernel_rfl) ?_ (fun hHeld => ?_)
   ·exact ⟨(C1.later HW).facts.1, (C1.later HW).facts.2.1, (C2.later HW).facts.1, (C2.later HW).facts.2.1, (C3.later HW).facts.1, (C3.later HW).facts.2.1⟩
   refine till_tl (i := 0) [2, 5, 6, 7, 8] rfl ?_
   simp only [Act.put, aGet, aZero, aSet, aHead, aTail]
   refine till_tl (i := 3) [5, 6, 7, 8] rfl ?_
   simp only [Act.put, aAll]
   refine till_tl (i := 4) [5, 6, 7, 8] rfl ?_
   simp only [Act.put, aAll]
   refine till_in (i := 1) (by kernel_rfl) rfl (fun K hK => ?_)
   go_simp
   refine (ofK 1 _ (by omega) (by omega)).mono ?_
   rintro e w9 ⟨b4, a4, l4, c4, rfl, h4, hb9⟩
   replace HW := Below.step HW hb9
   clear hb9
   refine hK.out _ _ ?_ (fun hHeld => ?_)
   ·exact ⟨(C1.later HW).facts.1, (C1.later HW).facts.2.1, (C2.later HW).facts.1, (C2.later HW).facts.2.1, (C3.later HW).facts.1, (C3.later HW).facts.2.1⟩
   clear hK K
   try simp only [Act.put, aAll]
   refine till_in (i := 2) (by kernel_rfl) rfl (fun K hK => ?_)
   go_simp
   refine (subK _ _ _ _ (x.tdiv y) k _ _ _ _ 1 2 _ ((hc1.later HW).ik (by omega)) (h4.ik (by omega))).mono ?_
   rintro e w9 ⟨b5, a5, l5, c5, rfl, h5, hb9⟩
   replace HW := Below.step HW hb9
   clear hb9 h4
   refine hK.out _ _ ?_ (fun hHeld => ?_)
   ·exact ⟨(C1.later HW).facts.1, (C1.later HW).facts.2.1, (C2.later HW).facts.1, (C2.later HW).facts.2.1, (C3.later HW).facts.1, (C3.later HW).facts.2.1⟩
   clear hK K
   try simp only [Act.put, aAll]
   refine till_in (i := 5) (by kernel_rfl) rfl (fun K hK => ?_)
   go_simp
   refine (addK _ _ _ _ (x.tmod y) l _ _ _ _ y l _ ((hc2.later HW).ik (by omega)) (hy4.later HW)).mono ?_
   rintro e w9 ⟨b6, a6, l6, c6, rfl, h6, hb9⟩
   replace HW := Below.step HW hb9
   replace h5 := h5.later hb9
   clear hb9
   obtain ⟨q1, q2, q3, q4⟩ := (C2.later HW).facts
   obtain ⟨q5, q6, q7, q8⟩ := (C3.later HW).facts
   have hs9 := (C3.later HW).lt
   refine hK.out _ _ ?_ (fun hHeld => ?_)
   ·exact ⟨(C1.later HW).facts.1, (C1.later HW).facts.2.1, (C2.later HW).facts.1, (C2.later HW).facts.2.1, (C3.later HW).facts.1, (C3.later HW).facts.2.1⟩
   clear hK K
   try simp only [Act.put, aAll]
   refine till_out (i := 6) (by kernel_rfl) rfl (by kernel_rfl) (fun K hK => ?_)
   go_simp
   refine hK.out _ _ ?_
   clear hK K
   try simp only [Act.put, aAll]
   refine till_out (i := 7) (by kernel_rfl) rfl (by kernel_rfl) (fun K hK => ?_)
   go_simp
   refine hK.out _ _ ?_
   clear hK K
   try simp only [Act.put, aAll]
   refine till_out (i := 8) (by kernel_rfl) rfl (by kernel_rfl) (fun K hK => ?_)
   go_simp
   refine hK.out _ _ ?_
   clear hK K
   try simp only [Act.put, aAll]
   refine till_done (by kernel_rfl) ?_ _
   go_wp2
   refine bodyPost_ret (v := .tuple #[.agg #[.bool b5, .slice a5 l5 c5], .agg #[.bool b6, .slice a6 l6 c6], .bool true]) (by simp [results, Try.results60, go_sem, *]) rfl ⟨_, _, _, _, _, _, _, _, rfl, ?_⟩
   have n2 := (C2.later HW).noLimb
   have n3 := ((C3.later HW).other (g' := w.heap.size + 2) (by omega) b5 a5 l5 c5).noLimb
   refine ⟨(((h5.put n2 _ _ _ _).put n3 _ _ _ _).eq (unhide EQ).symm).le (unhide LQ), (((h6.put n2 _ _ _ _).put n3 _ _ _ _).eq (unhide ER).symm).le (unhide LR), below_put (below_put (Below.step (unhide HB4) HW) (by omega) _ _ _ _) (by omega) _ _ _ _⟩
  ·have hsp : ¬ (0 < s') := by rw [es', Int.sign_eq_neg_one_of_neg (by omega)]; omega
   rw [Int.sign_eq_neg_one_of_neg (by omega)] at EQ
   rw [show (y.natAbs : Int) = -y by omega] at ER
   rw [Int.sub_neg] at EQ
   rw [← Int.sub_eq_add_neg] at ER
   clear es' hp
   go_enter Try.func60, Try.ntmps60
   go_wp2_with fail
   obtain ⟨W, hWe⟩ : ∃ W, W = ((((w.alloc (.cells #[.bool b, .slice aa la ca] 38)).alloc (.cells #[.bool b', .slice ab lb cb] 38)).alloc (.cells #[.bool false, .slice none 0 0] 38)).alloc (.cells #[.bool false, .slice none 0 0] 38)) := ⟨_, rfl⟩
   obtain ⟨B0, B1, B2, B3, hb0⟩ := boxes4 w b aa la ca b' ab lb cb false none 0 0 false none 0 0 hWe
   rw [← hWe]
   clear hWe
   refine (quoK _ _ _ _ x k _ _ _ _ y l _ (hx.later hb0) (hy.later hb0) h0).mono ?_
   rintro e w1 ⟨b1, a1, l1, c1, b2, a2, l2, c2, rfl, h1, h2, hb1⟩
   have HB := hide (Below.step hb0 hb1)
   replace B0 := B0.later hb1
   replace B1 := B1.later hb1
   replace B2 := B2.later hb1
   replace B3 := B3.later hb1
   have hy1 := hy.later (Below.step hb0 hb1)
   clear hb0 hb1 hx hy
   have hs2 : w.heap.size + 3 < w1.heap.size := B3.lt
   obtain ⟨q1, q2, q3, q4⟩ := B2.facts
   obtain ⟨q5, q6, q7, q8⟩ := B3.facts
   go_wp2_with fail
   obtain ⟨W2, hW2⟩ : ∃ W2, W2 = ((((w1.setCell ⟨w.heap.size + 1 + 1, 0, none⟩ (.bool b1)).setCell ⟨w.heap.size + 1 + 1, 1, none⟩ (.slice a1 l1 c1)).setCell ⟨w.heap.size + 1 + 1 + 1, 0, none⟩ (.bool b2)).setCell ⟨w.heap.size + 1 + 1 + 1, 1, none⟩ (.slice a2 l2 c2)) := ⟨_, rfl⟩
   rw [← hW2]
   have n2 := B2.noLimb
   have n3 := (B3.other (g' := w.heap.size + 2) (by omega) b1 a1 l1 c1).noLimb
   have hc1 : FK W2 b1 a1 l1 c1 (x.tdiv y) k := by rw [hW2]; exact (h1.put n2 _ _ _ _).put n3 _ _ _ _
   have hc2 : FK W2 b2 a2 l2 c2 (x.tmod y) l := by rw [hW2]; exact (h2.put n2 _ _ _ _).put n3 _ _ _ _
   have hy2 : IK W2 b' ab lb cb y l := by rw [hW2]; exact (hy1.put n2 _ _ _ _).put n3 _ _ _ _
   have C1 : Box W2 (w.heap.size + 1) b' ab lb cb := by rw [hW2]; exact (B1.other (g' := w.heap.size + 2) (by omega) b1 a1 l1 c1).other (g' := w.heap.size + 3) (by omega) b2 a2 l2 c2
   clear h1 h2 hy1
   have C2 : Box W2 (w.heap.size + 2) b1 a1 l1 c1 := by rw [hW2]; exact (B2.put b1 a1 l1 c1).other (g' := w.heap.size + 3) (by omega) b2 a2 l2 c2
   have C3 : Box W2 (w.heap.size + 3) b2 a2 l2 c2 := by rw [hW2]; exact (B3.other (g' := w.heap.size + 2) (by omega) b1 a1 l1 c1).put b2 a2 l2 c2
   have HB2 : Hid (Below w.heap.size w W2) := by rw [hW2]; exact below_put (below_put (unhide HB) (by omega) b1 a1 l1 c1) (by omega) b2 a2 l2 c2
   have hs3 := C3.lt
   clear hW2 B0 B1 B2 B3 n2 n3 q1 q2 q3 q4 q5 q6 q7 q8 HB hs2
   refine (signK _ _ _ _ (x.tmod y) l s _ (hc2.ik (by omega)) (unhide ES)).mono ?_
   rintro e w3 ⟨rfl, hb3⟩
   replace C1 := C1.later hb3
   replace C2 := C2.later hb3
   replace C3 := C3.later hb3
   replace hc1 := hc1.later hb3
   replace hc2 := hc2.later hb3
   replace hy2 := hy2.later hb3
   have HB3 := hide (Below.step (unhide HB2) hb3)
   clear hb3 HB2 hs3
   have hs3 := C3.lt
   obtain ⟨r1, r2, _, _⟩ := C1.facts
   go_wp2_with fail
   refine (signK _ _ _ _ y l s' _ hy2 (unhide ES')).mono ?_
   rintro e w4 ⟨rfl, hb4⟩
   replace C1 := C1.later hb4
   replace C2 := C2.later hb4
   replace C3 := C3.later hb4
   replace hc1 := hc1.later hb4
   replace hc2 := hc2.later hb4
   have hy4 := hy2.later hb4
   have HB4 := hide (Below.step (unhide HB3) hb4)
   clear hb4 HB3 hy2 hs3 r1 r2
   have hs4 := C3.lt
   go_wp2_with fail
   have HW : Below w4.heap.size w4 w4.drew := (Below.refl _ _).drew
   refine till_start (fun w' => w'.cell? ⟨w.heap.size + 1, 0, none⟩ = some (.bool b') ∧ w'.cell? ⟨w.heap.size + 1, 1, none⟩ = some (.slice ab lb cb) ∧ w'.cell? ⟨w.heap.size + 2, 0, none⟩ = some (.bool b1) ∧ w'.cell? ⟨w.heap.size + 2, 1, none⟩ = some (.slice a1 l1 c1) ∧ w'.cell? ⟨w.heap.size + 3, 0, none⟩ = some (.bool b2) ∧ w'.cell? ⟨w.heap.size + 3, 1, none⟩ = some (.slice a2 l2 c2)) 6 (by kernel_rfl) ?_ (fun hHeld => ?_)
   ·exact ⟨(C1.later HW).facts.1, (C1.later HW).facts.2.1, (C2.later HW).facts.1, (C2.later HW).facts.2.1, (C3.later HW).facts.1, (C3.later HW).facts.2.1⟩
   refine till_tl (i := 0) [2, 5, 6, 7, 8] rfl ?_
   simp only [Act.put, aGet, aZero, aSet, aHead, aTail]
   refine till_tl (i := 3) [5, 6, 7, 8] rfl ?_
   simp only [Act.put, aAll]
   refine till_tl (i := 4) [5, 6, 7, 8] rfl ?_
   simp only [Act.put, aAll]
   refine till_in (i := 1) (by kernel_rfl) rfl (fun K hK => ?_)
   go_simp
   refine (ofK 1 _ (by omega) (by omega)).mono ?_
   rintro e w9 ⟨b4, a4, l4, c4, rfl, h4, hb9⟩
   replace HW := Below.step HW hb9
   clear hb9
   refine hK.out _ _ ?_ (fun hHeld => ?_)
   ·exact ⟨(C1.later HW).facts.1, (C1.later HW).facts.2.1, (C2.later HW).facts.1, (C2.later HW).facts.2.1, (C3.later HW).facts.1, (C3.later HW).facts.2.1⟩
   clear hK K
   try simp only [Act.put, aAll]
   refine till_in (i := 2) (by kernel_rfl) rfl (fun K hK => ?_)
   go_simp
   refine (addK _ _ _ _ (x.tdiv y) k _ _ _ _ 1 2 _ ((hc1.later HW).ik (by omega)) (h4.ik (by omega))).mono ?_
   rintro e w9 ⟨b5, a5, l5, c5, rfl, h5, hb9⟩
   replace HW := Below.step HW hb9
   clear hb9 h4
   refine hK.out _ _ ?_ (fun hHeld => ?_)
   ·exact ⟨(C1.later HW).facts.1, (C1.later HW).facts.2.1, (C2.later HW).facts.1, (C2.later HW).facts.2.1, (C3.later HW).facts.1, (C3.later HW).facts.2.1⟩
   clear hK K
   try simp only [Act.put, aAll]
   refine till_in (i := 5) (by kernel_rfl) rfl (fun K hK => ?_)
   go_simp
   refine (subK _ _ _ _ (x.tmod y) l _ _ _ _ y l _ ((hc2.later HW).ik (by omega)) (hy4.later HW)).mono ?_
   rintro e w9 ⟨b6, a6, l6, c6, rfl, h6, hb9⟩
   replace HW := Below.step HW hb9
   replace h5 := h5.later hb9
   clear hb9
   obtain ⟨q1, q2, q3, q4⟩ := (C2.later HW).facts
   obtain ⟨q5, q6, q7, q8⟩ := (C3.later HW).facts
   have hs9 := (C3.later HW).lt
   refine hK.out _ _ ?_ (fun hHeld => ?_)
   ·exact ⟨(C1.later HW).facts.1, (C1.later HW).facts.2.1, (C2.later HW).facts.1, (C2.later HW).facts.2.1, (C3.later HW).facts.1, (C3.later HW).facts.2.1⟩
   clear hK K
   try simp only [Act.put, aAll]
   refine till_out (i := 6) (by kernel_rfl) rfl (by kernel_rfl) (fun K hK => ?_)
   go_simp
   refine hK.out _ _ ?_
   clear hK K
   try simp only [Act.put, aAll]
   refine till_out (i := 7) (by kernel_rfl) rfl (by kernel_rfl) (fun K hK => ?_)
   go_simp
   refine hK.out _ _ ?_
   clear hK K
   try simp only [Act.put, aAll]
   refine till_out (i := 8) (by kernel_rfl) rfl (by kernel_rfl) (fun K hK => ?_)
   go_simp
   refine hK.out _ _ ?_
   clear hK K
   try simp only [Act.put, aAll]
   refine till_done (by kernel_rfl) ?_ _
   go_wp2
   refine bodyPost_ret (v := .tuple #[.agg #[.bool b5, .slice a5 l5 c5], .agg #[.bool b6, .slice a6 l6 c6], .bool true]) (by simp [results, Try.results60, go_sem, *]) rfl ⟨_, _, _, _, _, _, _, _, rfl, ?_⟩
   have n2 := (C2.later HW).noLimb
   have n3 := ((C3.later HW).other (g' := w.heap.size + 2) (by omega) b5 a5 l5 c5).noLimb
   refine ⟨(((h5.put n2 _ _ _ _).put n3 _ _ _ _).eq (unhide EQ).symm).le (unhide LQ), (((h6.put n2 _ _ _ _).put n3 _ _ _ _).eq (unhide ER).symm).le (unhide LR), below_put (below_put (Below.step (unhide HB4) HW) (by omega) _ _ _ _) (by omega) _ _ _ _⟩
 ·rw [if_neg ht] at EQ ER
  rw [unhide EQ, unhide ER]
  have hs : 0 ≤ s := by
   rw [es]
   rcases sign_bd (x.tmod y) with ⟨_, _⟩
   rcases Int.lt_trichotomy (x.tmod y) 0 with h | h | h
   ·omega
   ·rw [h]; decide
   ·rw [Int.sign_eq_one_of_pos h]; omega
  clear es ht
  go_enter Try.func60, Try.ntmps60
  go_wp2_with fail
  obtain ⟨W, hWe⟩ : ∃ W, W = ((((w.alloc (.cells #[.bool b, .slice aa la ca] 38)).alloc (.cells #[.bool b', .slice ab lb cb] 38)).alloc (.cells #[.bool false, .slice none 0 0] 38)).alloc (.cells #[.bool false, .slice none 0 0] 38)) := ⟨_, rfl⟩
  obtain ⟨B0, B1, B2, B3, hb0⟩ := boxes4 w b aa la ca b' ab lb cb false none 0 0 false none 0 0 hWe
  rw [← hWe]
  clear hWe
  refine (quoK _ _ _ _ x k _ _ _ _ y l _ (hx.later hb0) (hy.later hb0) h0).mono ?_
  rintro e w1 ⟨b1, a1, l1, c1, b2, a2, l2, c2, rfl, h1, h2, hb1⟩
  have HB := hide (Below.step hb0 hb1)
  replace B0 := B0.later hb1
  replace B1 := B1.later hb1
  replace B2 := B2.later hb1
  replace B3 := B3.later hb1
  have hy1 := hy.later (Below.step hb0 hb1)
  clear hb0 hb1 hx hy
  have hs2 : w.heap.size + 3 < w1.heap.size := B3.lt
  obtain ⟨q1, q2, q3, q4⟩ := B2.facts
  obtain ⟨q5, q6, q7, q8⟩ := B3.facts
  go_wp2_with fail
  obtain ⟨W2, hW2⟩ : ∃ W2, W2 = ((((w1.setCell ⟨w.heap.size + 1 + 1, 0, none⟩ (.bool b1)).setCell ⟨w.heap.size + 1 + 1, 1, none⟩ (.slice a1 l1 c1)).setCell ⟨w.heap.size + 1 + 1 + 1, 0, none⟩ (.bool b2)).setCell ⟨w.heap.size + 1 + 1 + 1, 1, none⟩ (.slice a2 l2 c2)) := ⟨_, rfl⟩
  rw [← hW2]
  have n2 := B2.noLimb
  have n3 := (B3.other (g' := w.heap.size + 2) (by omega) b1 a1 l1 c1).noLimb
  have hc1 : FK W2 b1 a1 l1 c1 (x.tdiv y) k := by rw [hW2]; exact (h1.put n2 _ _ _ _).put n3 _ _ _ _
  have hc2 : FK W2 b2 a2 l2 c2 (x.tmod y) l := by rw [hW2]; exact (h2.put n2 _ _ _ _).put n3 _ _ _ _
  have hy2 : IK W2 b' ab lb cb y l := by rw [hW2]; exact (hy1.put n2 _ _ _ _).put n3 _ _ _ _
  have C1 : Box W2 (w.heap.size + 1) b' ab lb cb := by rw [hW2]; exact (B1.other (g' := w.heap.size + 2) (by omega) b1 a1 l1 c1).other (g' := w.heap.size + 3) (by omega) b2 a2 l2 c2
  clear h1 h2 hy1
  have C2 : Box W2 (w.heap.size + 2) b1 a1 l1 c1 := by rw [hW2]; exact (B2.put b1 a1 l1 c1).other (g' := w.heap.size + 3) (by omega) b2 a2 l2 c2
  have C3 : Box W2 (w.heap.size + 3) b2 a2 l2 c2 := by rw [hW2]; exact (B3.other (g' := w.heap.size + 2) (by omega) b1 a1 l1 c1).put b2 a2 l2 c2
  have HB2 : Hid (Below w.heap.size w W2) := by rw [hW2]; exact below_put (below_put (unhide HB) (by omega) b1 a1 l1 c1) (by omega) b2 a2 l2 c2
  have hs3 := C3.lt
  clear hW2 B0 B1 B2 B3 n2 n3 q1 q2 q3 q4 q5 q6 q7 q8 HB hs2
  refine (signK _ _ _ _ (x.tmod y) l s _ (hc2.ik (by omega)) (unhide ES)).mono ?_
  rintro e w3 ⟨rfl, hb3⟩
  replace C1 := C1.later hb3
  replace C2 := C2.later hb3
  replace C3 := C3.later hb3
  replace hc1 := hc1.later hb3
  replace hc2 := hc2.later hb3
  replace hy2 := hy2.later hb3
  have HB3 := hide (Below.step (unhide HB2) hb3)
  clear hb3 HB2 hs3
  have hs3 := C3.lt
  go_wp2_with fail
  have D2 := C2.put b1 a1 l1 c1
  have D3 := C3.other (g' := w.heap.size + 2) (by omega) b1 a1 l1 c1
  have E2 := D2.other (g' := w.heap.size + 3) (by omega) b2 a2 l2 c2
  have E3 := D3.put b2 a2 l2 c2
  obtain ⟨q1, q2, q3, q4⟩ := C2.facts
  obtain ⟨q5, q6, q7, q8⟩ := C3.facts
  refine till_start (fun w' => w'.cell? ⟨w.heap.size + 2, 0, none⟩ = some (.bool b1) ∧ w'.cell? ⟨w.heap.size + 2, 1, none⟩ = some (.slice a1 l1 c1) ∧ w'.cell? ⟨w.heap.size + 3, 0, none⟩ = some (.bool b2) ∧ w'.cell? ⟨w.heap.size + 3, 1, none⟩ = some (.slice a2 l2 c2)) 5 (by kernel_rfl) ?_ (fun hHeld => ?_)
  ·exact ⟨C2.facts.1, C2.facts.2.1, C3.facts.1, C3.facts.2.1⟩
  refine till_tl (i := 0) [3, 4, 5] rfl ?_
  simp only [Act.put, aGet, aZero, aSet, aHead, aTail]
  refine till_tl (i := 1) [4, 5] rfl ?_
  simp only [Act.put, aAll]
  refine till_tl (i := 2) [5] rfl ?_
  simp only [Act.put, aAll]
  refine till_in (i := 3) (by kernel_rfl) rfl (fun K hK => ?_)
  go_simp
  refine hK.out _ _ ?_ (fun hHeld => ?_)
  ·exact ⟨D2.facts.1, D2.facts.2.1, D3.facts.1, D3.facts.2.1⟩
  clear hK K
  try simp only [Act.put, aAll]
  refine till_in (i := 4) (by kernel_rfl) rfl (fun K hK => ?_)
  go_simp
  refine hK.out _ _ ?_ (fun hHeld => ?_)
  ·exact ⟨E2.facts.1, E2.facts.2.1, E3.facts.1, E3.facts.2.1⟩
  clear hK K
  try simp only [Act.put, aAll]
  refine till_out (i := 5) (by kernel_rfl) rfl (by kernel_rfl) (fun K hK => ?_)
  go_simp
  refine hK.out _ _ ?_
  clear hK K
  try simp only [Act.put, aAll]
  refine till_done (by kernel_rfl) ?_ _
  go_wp2
  (refine bodyPost_ret (v := .tuple #[.agg #[.bool b1, .slice a1 l1 c1], .agg #[.bool b2, .slice a2 l2 c2], .bool true]) (by simp [results, Try.results60, go_sem, *]) rfl ⟨_, _, _, _, _, _, _, _, rfl, ?_⟩)
  exact ⟨((hc1.put C2.noLimb _ _ _ _).put D3.noLimb _ _ _ _).later (Below.refl _ _).drew, ((hc2.put C2.noLimb _ _ _ _).put D3.noLimb _ _ _ _).later (Below.refl _ _).drew, (below_put (below_put (unhide HB3) (by omega) _ _ _ _) (by omega) _ _ _ _).drew⟩

/-
 What quot.Near tells (IN PARTS).
-/

theorem near_code {x y : Int} (hy : 0 < y) : near x y = if x % y + x % y - y < 0 then x / y else x / y + 1 := by
 have h1 := Int.emod_nonneg x (show y ≠ 0 by omega)
 have h2 := Int.emod_lt_of_pos x hy
 have h3 := Int.mul_ediv_add_emod x y
 split
 ·rw [near_pos hy]
  have : x / y * y = y * (x / y) := Int.mul_comm _ _
  omega
 ·rw [near_pos hy]
  have : (x / y + 1) * y = y * (x / y) + y := by rw [Int.add_mul, Int.one_mul, Int.mul_comm]
  omega
theorem near_turn (x y : Int) : near x y = near (if y < 0 then -x else x) (if y < 0 then -y else y) := by
 by_cases c : y < 0
 ·rw [if_pos c, if_pos c]; exact near_neg c
 ·rw [if_neg c, if_neg c]

set_option maxHeartbeats 2000000 in
theorem nearK (b : Bool) (aa : Option Addr) (la ca : Nat) (x : Int) (k : Nat) (b' : Bool) (ab : Option Addr) (lb cb : Nat) (y : Int) (l : Nat) (w : World) (hx : IK w b aa la ca x k) (hy : IK w b' ab lb cb y l) (h0 : y ≠ 0) (hk : k ≤ 900000) (hl : l ≤ 900000) :
  Calls Try.prog 41 #[.agg #[.bool b, .slice aa la ca], .agg #[.bool b', .slice ab lb cb]] w fun e w' => ∃ b1 a1 l1 c1, e = .returned (.tuple #[.agg #[.bool b1, .slice a1 l1 c1], .bool true]) ∧ FK w' b1 a1 l1 c1 (near x y) (max k 2 + 1) ∧ Below w.heap.size w w' := by
 obtain ⟨s, es⟩ : ∃ s, s = y.sign := ⟨_, rfl⟩
 have ES := hide es
 rw [near_turn x y]
 obtain ⟨x', ex⟩ : ∃ x', x' = if y < 0 then -x else x := ⟨_, rfl⟩
 obtain ⟨y', ey⟩ : ∃ y', y' = if y < 0 then -y else y := ⟨_, rfl⟩
 rw [← ex, ← ey]
 have hp : 0 < y' := by rw [ey]; split <;> omega
 have H0 : Hid (y' ≠ 0) := fun e => by omega
 have hxa : x'.natAbs = x.natAbs := by rw [ex]; split <;> omega
 have LX : x'.natAbs < Bp k := by rw [hxa]; exact hx.2.2
 have hlq := Nat.lt_of_le_of_lt (Int.natAbs_ediv_le_natAbs x' y') LX
 have LN0 := hide (Nat.lt_of_lt_of_le hlq (Bp_le (show k ≤ max k 2 + 1 by omega)))
 have ENC := hide (near_code (x := x') hp)
 clear hxa LX hlq hp
 obtain ⟨s2, e2⟩ : ∃ s2, s2 = (x' % y' + x' % y' - y').sign := ⟨_, rfl⟩
 have E2 := hide e2
 have EX0 := hide ex
 have EY0 := hide ey
 clear e2 ex ey es
 go_enter Try.func41, Try.ntmps41
 go_wp2_with fail
 obtain ⟨W, hWe⟩ : ∃ W, W = (((w.alloc (.cells #[.bool b, .slice aa la ca] 38)).alloc (.cells #[.bool b', .slice ab lb cb] 38)).alloc (.cells #[.bool false, .slice none 0 0] 38)) := ⟨_, rfl⟩
 obtain ⟨B0, B1, B2, hb0⟩ := boxes3 w b aa la ca b' ab lb cb false none 0 0 hWe
 rw [← hWe]
 clear hWe
 refine (signK _ _ _ _ y l s _ (hy.later hb0) (unhide ES)).mono ?_
 rintro e w1 ⟨rfl, hb1⟩
 replace B0 := B0.later hb1
 replace B1 := B1.later hb1
 replace B2 := B2.later hb1
 have HB := hide (Below.step hb0 hb1)
 have hx1 := hx.later (unhide HB)
 have hy1 := hy.later (unhide HB)
 clear hb0 hb1 hx hy
 go_upto_if 11 with fail
 go_cut [] from 9 to 15 (fun wc => ∃ b1 a1 l1 c1 b2 a2 l2 c2, Box wc w.heap.size b1 a1 l1 c1 ∧ Box wc (w.heap.size + 1) b2 a2 l2 c2 ∧ Box wc (w.heap.size + 2) false none 0 0 ∧ IK wc b1 a1 l1 c1 x' k ∧ IK wc b2 a2 l2 c2 y' l ∧ Below w.heap.size w wc)
 case first =>
  have es := unhide ES
  have ex := unhide EX0
  have ey := unhide EY0
  by_cases hneg : y < 0
  ·have hs : s < 0 := by rw [es, Int.sign_eq_neg_one_of_neg hneg]; omega
   rw [if_pos hneg] at ex ey
   have EX := hide ex
   have EY := hide ey
   clear ex ey es hneg
   go_wp2_with fail
   have HW : Below w1.heap.size w1 w1.drew := (Below.refl _ _).drew
   refine till_start (fun w' => w'.cell? ⟨w.heap.size, 0, none⟩ = some (.bool b) ∧ w'.cell? ⟨w.heap.size, 1, none⟩ = some (.slice aa la ca) ∧ w'.cell? ⟨w.heap.size + 1, 0, none⟩ = some (.bool b') ∧ w'.cell? ⟨w.heap.size + 1, 1, none⟩ = some (.slice ab lb cb)) 4 (by kernel_rfl) ?_ (fun hHeld => ?_)
   ·exact ⟨(B0.later HW).facts.1, (B0.later HW).facts.2.1, (B1.later HW).facts.1, (B1.later HW).facts.2.1⟩
   refine till_tl (i := 0) [1, 3, 4, 5] rfl ?_
   simp only [Act.put, aGet, aZero, aSet, aHead, aTail]
   refine till_tl (i := 2) [3, 4, 5] rfl ?_
   simp only [Act.put, aAll]
   refine till_in (i := 1) (by kernel_rfl) rfl (fun K hK => ?_)
   go_simp
   refine (negK _ _ _ _ x k _ (hx1.later HW)).mono ?_
   rintro e w9 ⟨b1, a1, l1, c1, rfl, h1, hb9⟩
   replace HW := Below.step HW hb9
   clear hb9
   refine hK.out _ _ ?_ (fun hHeld => ?_)
   ·exact ⟨(B0.later HW).facts.1, (B0.later HW).facts.2.1, (B1.later HW).facts.1, (B1.later HW).facts.2.1⟩
   clear hK K
   try simp only [Act.put, aAll]
   refine till_in (i := 3) (by kernel_rfl) rfl (fun K hK => ?_)
   go_simp
   refine (negK _ _ _ _ y l _ (hy1.later HW)).mono ?_
   rintro e w9 ⟨b2, a2, l2, c2, rfl, h2, hb9⟩
   replace HW := Below.step HW hb9
   replace h1 := h1.later hb9
   clear hb9
   obtain ⟨q1, q2, q3, q4⟩ := (B0.later HW).facts
   obtain ⟨q5, q6, q7, q8⟩ := (B1.later HW).facts
   have hs9 := (B2.later HW).lt
   refine hK.out _ _ ?_ (fun hHeld => ?_)
   ·exact ⟨(B0.later HW).facts.1, (B0.later HW).facts.2.1, (B1.later HW).facts.1, (B1.later HW).facts.2.1⟩
   clear hK K
   try simp only [Act.put, aAll]
   refine till_out (i := 4) (by kernel_rfl) rfl (by kernel_rfl) (fun K hK => ?_)
   go_simp
   refine hK.out _ _ ?_
   clear hK K
   try simp only [Act.put, aAll]
   refine till_out (i := 5) (by kernel_rfl) rfl (by kernel_rfl) (fun K hK => ?_)
   go_simp
   refine hK.out _ _ ?_
   clear hK K
   try simp only [Act.put, aAll]
   refine till_done (by kernel_rfl) ?_ _
   go_wp2_with fail
   go_meet
   case rel =>
    have n0 := (B0.later HW).noLimb
    have n1 := ((B1.later HW).other (g' := w.heap.size) (by omega) b1 a1 l1 c1).noLimb
    refine ⟨_, _, _, _, _, _, _, _, ((B0.later HW).put b1 a1 l1 c1).other (g' := w.heap.size + 1) (by omega) b2 a2 l2 c2, ((B1.later HW).other (g' := w.heap.size) (by omega) b1 a1 l1 c1).put b2 a2 l2 c2, ((B2.later HW).other (g' := w.heap.size) (by omega) b1 a1 l1 c1).other (g' := w.heap.size + 1) (by omega) b2 a2 l2 c2, ?_, ?_, below_put (below_put (Below.step (unhide HB) HW) (by omega) b1 a1 l1 c1) (by omega) b2 a2 l2 c2⟩
    ·rw [unhide EX]; exact ((h1.put n0 _ _ _ _).put n1 _ _ _ _).ik (by omega)
    ·rw [unhide EY]; exact ((h2.put n0 _ _ _ _).put n1 _ _ _ _).ik (by omega)
  ·have hs : ¬ s < 0 := by
    rw [es]
    rcases Int.lt_trichotomy y 0 with h | h | h
    ·omega
    ·rw [h]; decide
    ·rw [Int.sign_eq_one_of_pos h]; omega
   rw [if_neg hneg] at ex ey
   subst ex ey
   clear es hneg
   go_wp2_with fail
   go_meet
   case rel => exact ⟨_, _, _, _, _, _, _, _, B0, B1, B2, hx1, hy1, unhide HB⟩
 case rest =>
  clear EX0 EY0 B0 B1 B2 hx1 hy1 HB ES
  obtain ⟨b1, a1, l1, c1, b2, a2, l2, c2, C0, C1, C2, hx2, hy2, hB2⟩ := hcut
  have HB2 := hide hB2
  clear hB2
  obtain ⟨f1, f2, _, _⟩ := C0.facts
  obtain ⟨f3, f4, _, _⟩ := C1.facts
  go_wp2_with fail
  refine (divK _ _ _ _ x' k _ _ _ _ y' l _ hx2 hy2 (unhide H0) hk hl).mono ?_
  rintro e wd ⟨b5, a5, l5, c5, b6, a6, l6, c6, rfl, h5, h6, hbd⟩
  replace C1 := C1.later hbd
  replace C2 := C2.later hbd
  have hsz := C2.lt
  have hy3 := hy2.later hbd
  have HB3 := hide (Below.step (unhide HB2) hbd)
  clear hbd HB2 hx2 hy2 C0 f1 f2 f3 f4
  go_upto_region 6 with fail
  obtain ⟨W3, hW3⟩ : ∃ W3, W3 = ((wd.alloc (.cells #[.bool b5, .slice a5 l5 c5] 38)).alloc (.cells #[.bool b6, .slice a6 l6 c6] 38)) := ⟨_, rfl⟩
  obtain ⟨D0, D1, hbe⟩ := boxes2 wd b5 a5 l5 c5 b6 a6 l6 c6 hW3
  rw [← hW3]
  clear hW3
  replace C1 := C1.later hbe
  replace C2 := C2.later hbe
  replace h5 := h5.later hbe
  replace h6 := h6.later hbe
  have hy4 := hy3.later hbe
  have HB4 := hide (Below.step (unhide HB3) hbe)
  clear hbe HB3 hy3
  have hs4 := C2.lt
  have hsd := D1.lt
  have HW : Below W3.heap.size W3 W3.drew := (Below.refl _ _).drew
  by_cases hlt : x' % y' + x' % y' - y' < 0
  ·have hs2 : s2 < 0 := by rw [unhide E2, Int.sign_eq_neg_one_of_neg hlt]; omega
   rw [if_pos hlt] at ENC
   have EN := ENC
   have LN : Hid ((near x' y').natAbs < Bp (max k 2 + 1)) := by rw [unhide EN]; exact unhide LN0
   clear hlt ENC LN0
   refine till_start (fun w' => w'.cell? ⟨wd.heap.size + 1, 0, none⟩ = some (.bool b6) ∧ w'.cell? ⟨wd.heap.size + 1, 1, none⟩ = some (.slice a6 l6 c6) ∧ w'.cell? ⟨w.heap.size + 1, 0, none⟩ = some (.bool b2) ∧ w'.cell? ⟨w.heap.size + 1, 1, none⟩ = some (.slice a2 l2 c2)) 6 (by kernel_rfl) ?_ (fun hHeld => ?_)
   ·exact ⟨(D1.later HW).facts.1, (D1.later HW).facts.2.1, (C1.later HW).facts.1, (C1.later HW).facts.2.1⟩
   refine till_tl (i := 0) [2, 4, 5, 6] rfl ?_
   simp only [Act.put, aGet, aZero, aSet, aHead, aTail]
   refine till_tl (i := 1) [2, 4, 5, 6] rfl ?_
   simp only [Act.put, aAll]
   refine till_tl (i := 3) [4, 5, 6] rfl ?_
   simp only [Act.put, aAll]
   refine till_in (i := 2) (by kernel_rfl) rfl (fun K hK => ?_)
   go_simp
   refine (addK _ _ _ _ (x' % y') l _ _ _ _ (x' % y') l _ ((h6.later HW).ik (by omega)) ((h6.later HW).ik (by omega))).mono ?_
   rintro e w9 ⟨b7, a7, l7, c7, rfl, h7, hb9⟩
   replace HW := Below.step HW hb9
   clear hb9
   refine hK.out _ _ ?_ (fun hHeld => ?_)
   ·exact ⟨(D1.later HW).facts.1, (D1.later HW).facts.2.1, (C1.later HW).facts.1, (C1.later HW).facts.2.1⟩
   clear hK K
   try simp only [Act.put, aAll]
   refine till_in (i := 4) (by kernel_rfl) rfl (fun K hK => ?_)
   go_simp
   refine (cmpK _ _ _ _ (x' % y' + x' % y') (max l l + 1) _ _ _ _ y' l s2 _ (h7.ik (by omega)) (hy4.later HW) (unhide E2)).mono ?_
   rintro e w9 ⟨rfl, hb9⟩
   replace HW := Below.step HW hb9
   clear hb9 h7
   refine hK.out _ _ ?_ (fun hHeld => ?_)
   ·exact ⟨(D1.later HW).facts.1, (D1.later HW).facts.2.1, (C1.later HW).facts.1, (C1.later HW).facts.2.1⟩
   clear hK K
   try simp only [Act.put, aAll]
   refine till_tl (i := 5) [6] rfl ?_
   simp only [Act.put, aAll]
   refine till_out (i := 6) (by kernel_rfl) rfl (by kernel_rfl) (fun K hK => ?_)
   go_simp
   refine hK.out _ _ ?_
   clear hK K
   try simp only [Act.put, aAll]
   refine till_done (by kernel_rfl) ?_ _
   obtain ⟨q1, q2, q3, q4⟩ := (C2.later HW).facts
   obtain ⟨q5, q6, _, _⟩ := (D0.later HW).facts
   go_wp2
   refine bodyPost_ret (v := .tuple #[.agg #[.bool b5, .slice a5 l5 c5], .bool true]) (by simp [results, Try.results41, go_sem, *]) rfl ⟨_, _, _, _, rfl, ?_⟩
   exact ⟨(((h5.later HW).put (C2.later HW).noLimb _ _ _ _).eq (unhide EN).symm).le (unhide LN), below_put (Below.step (unhide HB4) HW) (by omega) _ _ _ _⟩
  ·have hs2 : ¬ s2 < 0 := by
    rw [unhide E2]
    rcases Int.lt_trichotomy (x' % y' + x' % y' - y') 0 with h | h | h
    ·omega
    ·rw [h]; decide
    ·rw [Int.sign_eq_one_of_pos h]; omega
   rw [if_neg hlt] at ENC
   have EN := ENC
   clear hlt ENC LN0
   refine till_start (fun w' => w'.cell? ⟨wd.heap.size + 1, 0, none⟩ = some (.bool b6) ∧ w'.cell? ⟨wd.heap.size + 1, 1, none⟩ = some (.slice a6 l6 c6) ∧ w'.cell? ⟨w.heap.size + 1, 0, none⟩ = some (.bool b2) ∧ w'.cell? ⟨w.heap.size + 1, 1, none⟩ = some (.slice a2 l2 c2)) 6 (by kernel_rfl) ?_ (fun hHeld => ?_)
   ·exact ⟨(D1.later HW).facts.1, (D1.later HW).facts.2.1, (C1.later HW).facts.1, (C1.later HW).facts.2.1⟩
   refine till_tl (i := 0) [2, 4, 5, 6] rfl ?_
   simp only [Act.put, aGet, aZero, aSet, aHead, aTail]
   refine till_tl (i := 1) [2, 4, 5, 6] rfl ?_
   simp only [Act.put, aAll]
   refine till_tl (i := 3) [4, 5, 6] rfl ?_
   simp only [Act.put, aAll]
   refine till_in (i := 2) (by kernel_rfl) rfl (fun K hK => ?_)
   go_simp
   refine (addK _ _ _ _ (x' % y') l _ _ _ _ (x' % y') l _ ((h6.later HW).ik (by omega)) ((h6.later HW).ik (by omega))).mono ?_
   rintro e w9 ⟨b7, a7, l7, c7, rfl, h7, hb9⟩
   replace HW := Below.step HW hb9
   clear hb9
   refine hK.out _ _ ?_ (fun hHeld => ?_)
   ·exact ⟨(D1.later HW).facts.1, (D1.later HW).facts.2.1, (C1.later HW).facts.1, (C1.later HW).facts.2.1⟩
   clear hK K
   try simp only [Act.put, aAll]
   refine till_in (i := 4) (by kernel_rfl) rfl (fun K hK => ?_)
   go_simp
   refine (cmpK _ _ _ _ (x' % y' + x' % y') (max l l + 1) _ _ _ _ y' l s2 _ (h7.ik (by omega)) (hy4.later HW) (unhide E2)).mono ?_
   rintro e w9 ⟨rfl, hb9⟩
   replace HW := Below.step HW hb9
   clear hb9 h7
   refine hK.out _ _ ?_ (fun hHeld => ?_)
   ·exact ⟨(D1.later HW).facts.1, (D1.later HW).facts.2.1, (C1.later HW).facts.1, (C1.later HW).facts.2.1⟩
   clear hK K
   try simp only [Act.put, aAll]
   refine till_tl (i := 5) [6] rfl ?_
   simp only [Act.put, aAll]
   refine till_out (i := 6) (by kernel_rfl) rfl (by kernel_rfl) (fun K hK => ?_)
   go_simp
   refine hK.out _ _ ?_
   clear hK K
   try simp only [Act.put, aAll]
   refine till_done (by kernel_rfl) ?_ _
   go_wp2_with fail
   replace HW := HW.drew
   refine till_start (fun w' => w'.cell? ⟨wd.heap.size, 0, none⟩ = some (.bool b5) ∧ w'.cell? ⟨wd.heap.size, 1, none⟩ = some (.slice a5 l5 c5)) 3 (by kernel_rfl) ?_ (fun hHeld => ?_)
   ·exact ⟨(D0.later HW).facts.1, (D0.later HW).facts.2.1⟩
   refine till_tl (i := 0) [2, 3, 4] rfl ?_
   simp only [Act.put, aGet, aZero, aSet, aHead, aTail]
   refine till_in (i := 1) (by kernel_rfl) rfl (fun K hK => ?_)
   go_simp
   refine (ofK 1 _ (by omega) (by omega)).mono ?_
   rintro e w9 ⟨b8, a8, l8, c8, rfl, h8, hb9⟩
   replace HW := Below.step HW hb9
   clear hb9
   refine hK.out _ _ ?_ (fun hHeld => ?_)
   ·exact ⟨(D0.later HW).facts.1, (D0.later HW).facts.2.1⟩
   clear hK K
   try simp only [Act.put, aAll]
   refine till_in (i := 2) (by kernel_rfl) rfl (fun K hK => ?_)
   go_simp
   refine (addK _ _ _ _ (x' / y') k _ _ _ _ 1 2 _ ((h5.later HW).ik (by omega)) (h8.ik (by omega))).mono ?_
   rintro e w9 ⟨b9, a9, l9, c9, rfl, h9, hb9⟩
   replace HW := Below.step HW hb9
   clear hb9 h8
   obtain ⟨q1, q2, q3, q4⟩ := (C2.later HW).facts
   refine hK.out _ _ ?_ (fun hHeld => ?_)
   ·exact ⟨(D0.later HW).facts.1, (D0.later HW).facts.2.1⟩
   clear hK K
   try simp only [Act.put, aAll]
   refine till_out (i := 3) (by kernel_rfl) rfl (by kernel_rfl) (fun K hK => ?_)
   go_simp
   refine hK.out _ _ ?_
   clear hK K
   try simp only [Act.put, aAll]
   refine till_out (i := 4) (by kernel_rfl) rfl (by kernel_rfl) (fun K hK => ?_)
   go_simp
   refine hK.out _ _ ?_
   clear hK K
   try simp only [Act.put, aAll]
   refine till_done (by kernel_rfl) ?_ _
   go_wp2
   refine bodyPost_ret (v := .tuple #[.agg #[.bool b9, .slice a9 l9 c9], .bool true]) (by simp [results, Try.results41, go_sem, *]) rfl ⟨_, _, _, _, rfl, ?_⟩
   exact ⟨((h9.put (C2.later HW).noLimb _ _ _ _).eq (unhide EN).symm), below_put (Below.step (unhide HB4) HW) (by omega) _ _ _ _⟩

/-
 What the reference's Quo and Div tell (IN PARTS).
-/

end Go.Proofs.Ytnpneloahajniaa
