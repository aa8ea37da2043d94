/-
 What euclid of package bezout and the reference's Gcd tell (IN PARTS).
-/
import Derived.Test.YtjebmlogchoehaaGreatJE
import Derived.Test.YtjebmlogchoehaaGreatBNum
import Derived.Test.YtjebmlogchoehaaGreatJP
import Derived.Deep.LoopGhost
namespace Go.Proofs.YtjebmlogchoehaaGreat
open Go.RowKit Lb
set_option maxRecDepth 20000


set_option maxHeartbeats 2000000 in
theorem rgcdK (b : Bool) (aa : Option Addr) (la ca : Nat) (x : Int) (k : Nat) (b' : Bool) (ab : Option Addr) (lb cb : Nat) (y : Int) (l : Nat) (w : World) (hx : IK w b aa la ca x k) (hy : IK w b' ab lb cb y l) (hk : k ≤ 900000) (hl : l ≤ 900000) :
  Calls Tryz.prog 24 #[.agg #[.bool b, .slice aa la ca], .agg #[.bool b', .slice ab lb cb]] w fun e w' => ∃ b1 a1 l1 c1, e = .returned (.agg #[.bool b1, .slice a1 l1 c1]) ∧ FK w' b1 a1 l1 c1 (Int.gcd x y : Int) (max k l) ∧ Below w.heap.size w w' := by
 obtain ⟨G, eG⟩ : ∃ G, G = Int.gcd x y := ⟨_, rfl⟩
 rw [← eG]
 have EG := hide eG
 obtain ⟨K, eK⟩ : ∃ K, K = max k l := ⟨_, rfl⟩
 rw [← eK]
 have hK : K ≤ 900000 := by omega
 have hkK : k ≤ K := by omega
 have hlK : l ≤ K := by omega
 clear eG eK
 go_enter Tryz.func24, Tryz.ntmps24
 go_wp2_with fail
 obtain ⟨W, hWe⟩ : ∃ W, W = (((w.alloc (.cells #[.bool b, .slice aa la ca] 39)).alloc (.cells #[.bool b', .slice ab lb cb] 39)).alloc (.cells #[.bool false, .slice none 0 0] 39)) := ⟨_, rfl⟩
 obtain ⟨B0, B1, B2, hb0⟩ := boxes3 w b aa la ca b' ab lb cb false none 0 0 hWe
 rw [← hWe]
 clear hWe
 go_loopg [] (y.natAbs) (fun g wr => ∃ b1 a1 l1 c1 X b2 a2 l2 c2 Y, Box wr w.heap.size b1 a1 l1 c1 ∧ Box wr (w.heap.size + 1) b2 a2 l2 c2 ∧ Box wr (w.heap.size + 2) false none 0 0 ∧ IK wr b1 a1 l1 c1 X K ∧ IK wr b2 a2 l2 c2 Y K ∧ Y.natAbs = g ∧ Int.gcd X Y = G ∧ Below w.heap.size w wr)
 case atStart => exact ⟨_, _, _, _, x, _, _, _, _, y, B0, B1, B2, (hx.later hb0).up (by omega), (hy.later hb0).up (by omega), rfl, (unhide EG).symm, hb0⟩
 case round =>
  clear B0 B1 B2 hb0 hx hy EG
  obtain ⟨b1, a1, l1, c1, X, b2, a2, l2, c2, Y, C0, C1, C2, hX, hY, hg, hG, hB⟩ := hrel
  have HG := hide hG
  have HE := hide hg
  have HB := hide hB
  clear hG hB hg
  obtain ⟨f1, f2, _, _⟩ := C1.facts
  by_cases h0 : Y = 0
  ·subst h0
   go_wp2_with fail
   refine (rsignK _ _ _ _ 0 K 0 _ hY rfl).mono ?_
   rintro e w1 ⟨rfl, hb1⟩
   replace C0 := C0.later hb1
   replace C2 := C2.later hb1
   replace hX := hX.later hb1
   replace HB := hide (Below.step (unhide HB) hb1)
   clear hb1 f1 f2 C1 hY
   replace HG : Hid (X.natAbs = G) := by have := unhide HG; rwa [Int.gcd_zero_right] at this
   obtain ⟨f1, f2, _, _⟩ := C0.facts
   go_wp2_with fail
   refine (rabsK _ _ _ _ X K _ hX).mono ?_
   rintro e w2 ⟨b3, a3, l3, c3, rfl, h3, hb1⟩
   replace C2 := C2.later hb1
   replace HB := hide (Below.step (unhide HB) hb1)
   clear hb1 f1 f2 C0 hX
   have hsz := C2.lt
   obtain ⟨q1, q2, q3, q4⟩ := C2.facts
   go_wp2
   refine bodyPost_ret (v := .agg #[.bool b3, .slice a3 l3 c3]) (by simp [results, Tryz.results24, go_sem, *]) rfl ⟨_, _, _, _, rfl, ?_⟩
   rw [unhide HG] at h3
   exact ⟨h3.put C2.noLimb _ _ _ _, below_put (unhide HB) (by omega) _ _ _ _⟩
  ·obtain ⟨s, es⟩ : ∃ s, s = Y.sign := ⟨_, rfl⟩
   have hs : (s == 0) = false := by rw [beq_eq_false_iff_ne, es]; exact fun e => h0 (Int.sign_eq_zero_iff_zero.1 e)
   have H0 := hide h0
   have ES := hide es
   clear h0 es
   go_wp2_with fail
   refine (rsignK _ _ _ _ Y K s _ hY (unhide ES)).mono ?_
   rintro e w1 ⟨rfl, hb1⟩
   replace C0 := C0.later hb1
   replace C1 := C1.later hb1
   replace C2 := C2.later hb1
   replace hX := hX.later hb1
   replace hY := hY.later hb1
   replace HB := hide (Below.step (unhide HB) hb1)
   clear hb1 f1 f2
   obtain ⟨f1, f2, _, _⟩ := C0.facts
   obtain ⟨f3, f4, _, _⟩ := C1.facts
   go_wp2_with fail
   refine (rquoK _ _ _ _ X K _ _ _ _ Y K _ hX hY (unhide H0)).mono ?_
   rintro e wq ⟨b5, a5, l5, c5, b6, a6, l6, c6, rfl, h5, h6, hb1⟩
   replace C0 := C0.later hb1
   replace C1 := C1.later hb1
   replace C2 := C2.later hb1
   replace hY := hY.later hb1
   replace HB := hide (Below.step (unhide HB) hb1)
   clear hb1 f1 f2 f3 f4 hX h5
   go_upto_region 3 with fail
   obtain ⟨W3, hW3⟩ : ∃ W3, W3 = ((wq.alloc (.cells #[.bool b5, .slice a5 l5 c5] 39)).alloc (.cells #[.bool b6, .slice a6 l6 c6] 39)) := ⟨_, rfl⟩
   obtain ⟨D0, D1, hb1⟩ := boxes2 wq b5 a5 l5 c5 b6 a6 l6 c6 hW3
   rw [← hW3]
   clear hW3 D0
   have hsz := C2.lt
   replace C0 := C0.later hb1
   replace C1 := C1.later hb1
   replace C2 := C2.later hb1
   replace hY := hY.later hb1
   replace h6 := h6.later hb1
   replace HB := hide (Below.step (unhide HB) hb1)
   clear hb1
   have hsd := D1.lt
   have HW : Below W3.heap.size W3 W3.drew := (Below.refl _ _).drew
   replace C0 := C0.later HW
   replace C1 := C1.later HW
   replace C2 := C2.later HW
   replace hY := hY.later HW
   replace h6 := h6.later HW
   replace D1 := D1.later HW
   replace HB := hide (Below.step (unhide HB) HW)
   clear HW
   obtain ⟨W4, hW4⟩ : ∃ W4, W4 = W3.drew := ⟨_, rfl⟩
   rw [← hW4] at C0 C1 C2 hY h6 D1 HB
   obtain ⟨q1, q2, q3, q4⟩ := C0.facts
   obtain ⟨q5, q6, q7, q8⟩ := C1.facts
   have hs4 : W4.heap.size = W3.heap.size := by rw [hW4]; rfl
   refine till_start (fun w' => w'.cell? ⟨w.heap.size + 1, 0, none⟩ = some (.bool b2) ∧ w'.cell? ⟨w.heap.size + 1, 1, none⟩ = some (.slice a2 l2 c2) ∧ w'.cell? ⟨wq.heap.size + 1, 0, none⟩ = some (.bool b6) ∧ w'.cell? ⟨wq.heap.size + 1, 1, none⟩ = some (.slice a6 l6 c6)) 3 (by kernel_rfl) ?_ (fun hHeld => ?_)
   ·rw [← hW4]; exact ⟨C1.facts.1, C1.facts.2.1, D1.facts.1, D1.facts.2.1⟩
   rw [← hW4] at hHeld ⊢
   clear hW4
   refine till_tl (i := 0) [2, 3] rfl ?_
   simp only [Act.put, aGet, aZero, aSet, aHead, aTail]
   refine till_tl (i := 1) [3] rfl ?_
   simp only [Act.put, aAll]
   refine till_in (i := 2) (by kernel_rfl) rfl (fun K hK => ?_)
   go_simp
   refine hK.out _ _ ?_ (fun hHeld => ?_)
   ·exact ⟨(C1.other (g' := w.heap.size) (by omega) b2 a2 l2 c2).facts.1, (C1.other (g' := w.heap.size) (by omega) b2 a2 l2 c2).facts.2.1, (D1.other (g' := w.heap.size) (by omega) b2 a2 l2 c2).facts.1, (D1.other (g' := w.heap.size) (by omega) b2 a2 l2 c2).facts.2.1⟩
   clear hK K
   try simp only [Act.put, aAll]
   refine till_out (i := 3) (by kernel_rfl) rfl (by kernel_rfl) (fun K hK => ?_)
   go_simp
   refine hK.out _ _ ?_
   clear hK K
   try simp only [Act.put, aAll]
   refine till_done (by kernel_rfl) ?_ _
   go_wp2
   go_roundg ((X.tmod Y).natAbs)
   case measure => exact lt_of_abs (unhide HE) (unhide H0)
   case rel =>
    have n0 := C0.noLimb
    have n1 := (C1.other (g' := w.heap.size) (by omega) b2 a2 l2 c2).noLimb
    refine ⟨_, _, _, _, Y, _, _, _, _, X.tmod Y, (C0.put b2 a2 l2 c2).other (g' := w.heap.size + 1) (by omega) b6 a6 l6 c6, (C1.other (g' := w.heap.size) (by omega) b2 a2 l2 c2).put b6 a6 l6 c6, (C2.other (g' := w.heap.size) (by omega) b2 a2 l2 c2).other (g' := w.heap.size + 1) (by omega) b6 a6 l6 c6, (hY.put n0 _ _ _ _).put n1 _ _ _ _, ((h6.put n0 _ _ _ _).put n1 _ _ _ _).ik (by omega), rfl, (gcd_tmod X Y).trans (unhide HG), below_put (below_put (unhide HB) (by omega) _ _ _ _) (by omega) _ _ _ _⟩

end Go.Proofs.YtjebmlogchoehaaGreat
