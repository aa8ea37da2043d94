/-
 What share of package lll tells: by the way of determinants, each quotient whole.
-/
import Derived.Test.YtnpneloahajniaaLBs
import Derived.Test.YtnpneloahajniaaLRead
import Derived.Test.YtnpneloahajniaaJE
namespace Go.Proofs.Ytnpneloahajniaa
open Go.RowKit Lb
set_option maxRecDepth 20000

set_option maxRecDepth 40000 in
set_option maxHeartbeats 4000000 in
theorem shareK (b2 : Bool) (a2 : Option Addr) (l2 c2 : Nat) (z : Int) (ax : Option Addr) (nx cx : Nat) (xs : List Int) (ay : Option Addr) (ny cy : Nat) (ys : List Int) (gd od m cd : Nat) (ds : List Int) (n : Nat) (F : Nat → Int) (k : Nat) (w : World) (hz : FK w b2 a2 l2 c2 z k) (hx : VK w ax nx cx xs k) (hy : VK w ay ny cy ys k) (hd : VK w (some ⟨gd, od, none⟩) m cd ds k)
  (hk : k ≤ 200000) (hn : n ≤ 1000) (hnx : n ≤ nx) (hny : n ≤ ny) (hm : m = n + 1) (hod : od = 0) (V : Int) (hV : V = if ds.getD n 0 = 0 then 0 else F n) (hU : ds.getD n 0 ≠ 0 → F 0 = z ∧ (∀ i, i < n → ds.getD i 0 ≠ 0 ∧ ds.getD i 0 * F (i + 1) = ds.getD (i + 1) 0 * F i - xs.getD i 0 * ys.getD i 0) ∧ ∀ i, i ≤ n → (F i).natAbs < Bp k) :
  Calls Try.prog 72 #[.agg #[.bool b2, .slice a2 l2 c2], .slice ax nx cx, .slice ay ny cy, .slice (some ⟨gd, od, none⟩) m cd] w fun e w' => ∃ b1 a1 l1 c1, e = .returned (.agg #[.bool b1, .slice a1 l1 c1]) ∧ FK w' b1 a1 l1 c1 V k ∧ Below w.heap.size w w' := by
 subst hod
 have HM := hide hm
 have HV := hide hV
 obtain ⟨bv, av, lv, cv, EL, yL⟩ := hd.at (show n < m by omega)
 rw [Nat.zero_add] at EL
 obtain ⟨s, es⟩ : ∃ s, s = (ds.getD n 0).sign := ⟨_, rfl⟩
 have ES := hide es
 have hw1 : IntKind.i64.wrap ((m : Int) - 1) = (n : Int) := by rw [IntKind.wrap_i64]; omega
 have hm0 : (0 : Int) ≤ (n : Int) := by omega
 have hm1 : (n : Int) < (m : Int) := by omega
 have HU := hide hU
 clear hU hm hV
 go_enter Try.func72, Try.ntmps72
 obtain ⟨f1, f2⟩ := EL.facts
 have hgl := EL.1
 go_upto_region 1 with fail
 obtain ⟨W, hWe⟩ : ∃ W', W' = ((w.alloc (.cells #[.bool b2, .slice a2 l2 c2] 38)).alloc (.cells #[.bool false, .slice none 0 0] 38)) := ⟨_, rfl⟩
 obtain ⟨BZ, BO, hb0⟩ := boxes2 w b2 a2 l2 c2 false none 0 0 hWe
 rw [← hWe]
 clear hWe
 replace EL := EL.later hb0
 replace yL := yL.later hb0
 replace hz := hz.later hb0
 have HB := hide hb0
 clear hb0 f1 f2 hgl
 obtain ⟨f1, f2⟩ := EL.facts
 have hgl := EL.1
 go_wp2_with fail
 refine (signK bv av lv cv (ds.getD n 0) k s _ yL (unhide ES)).mono ?_
 rintro e w1 ⟨rfl, hb1⟩
 replace BZ := BZ.later hb1
 replace BO := BO.later hb1
 replace hz := hz.later hb1
 replace HB := hide (Below.step (unhide HB) hb1)
 clear hb1 EL yL f1 f2 hgl
 by_cases h0 : ds.getD n 0 = 0
 ·have hs : (s == 0) = true := by rw [es, h0]; rfl
  obtain rfl : V = 0 := by rw [unhide HV, if_pos h0]
  clear es h0
  obtain ⟨q1, q2, q3, q4⟩ := BO.facts
  have hso := BO.lt
  go_wp2
  refine bodyPost_ret (v := .agg #[.bool false, .slice none 0 0]) (by simp [results, Try.results72, go_sem, *]) rfl ?_
  exact ⟨_, _, _, _, rfl, fk_zero _ _, (below_put (unhide HB) (show w.heap.size ≤ w.heap.size + 1 by omega) false none 0 0)⟩
 ·have hs : (s == 0) = false := by rw [es, sign_zeroB]; exact decide_eq_false h0
  obtain ⟨u0, u1, u2⟩ := unhide HU h0
  obtain rfl : V = F n := by rw [unhide HV, if_neg h0]
  have U1 := hide u1
  have U2 := hide u2
  rw [← u0] at hz
  clear es h0 u0 u1 u2
  go_wp2_with fail
  go_loopw [22] (fun t wr => ∃ (i : Nat) (b2 : Bool) (a2 : Option Addr) (l2 c2 : Nat), i ≤ n ∧ t = .int .i64 (i : Int) ∧ Box wr w.heap.size b2 a2 l2 c2 ∧ Box wr (w.heap.size + 1) false none 0 0 ∧ FK wr b2 a2 l2 c2 (F i) k ∧ Below w.heap.size w wr) (fun t _ => n - (intOf t).toNat)
  case atStart => exact ⟨0, _, _, _, _, Nat.zero_le _, rfl, BZ, BO, hz, unhide HB⟩
  case round =>
   clear BZ BO hz HB hs
   obtain ⟨i, b2, a2, l2, c2, hi, rfl, BZ, BO, hz, hB⟩ := hrel
   have HB := hide hB
   clear hB
   by_cases hlt : i < n
   ·obtain ⟨gx, ox, rfl⟩ := hx.some (by omega)
    obtain ⟨gy, oy, rfl⟩ := hy.some (by omega)
    obtain ⟨b1, a1, l1, c1, E1, y1⟩ := (hd.later (unhide HB)).at (show i + 1 < m by have := unhide HM; omega)
    obtain ⟨b5, a5, l5, c5, E5, y5⟩ := (hd.later (unhide HB)).at (show i < m by have := unhide HM; omega)
    obtain ⟨b3, a3, l3, c3, E3, y3⟩ := (hx.later (unhide HB)).at (show i < nx by omega)
    obtain ⟨b4, a4, l4, c4, E4, y4⟩ := (hy.later (unhide HB)).at (show i < ny by omega)
    rw [Nat.zero_add] at E1 E5
    obtain ⟨i1, ei1⟩ : ∃ i1, i1 = i + 1 := ⟨_, rfl⟩
    rw [← ei1] at E1
    have hw2 : IntKind.i64.wrap ((i : Int) + 1) = (i1 : Int) := by rw [IntKind.wrap_i64]; omega
    have hj0 : (0 : Int) ≤ (i1 : Int) := by omega
    have hj1 : (i1 : Int) < (m : Int) := by have := unhide HM; omega
    have hj2 : (0 : Int) ≤ (i : Int) := by omega
    have hj3 : (i : Int) < (m : Int) := by omega
    have hj4 : (i : Int) < (n : Int) := by omega
    have hj5 : (i : Int) < (nx : Int) := by omega
    have hj6 : (i : Int) < (ny : Int) := by omega
    have HD0 := hide (unhide U1 i hlt).1
    have HQ := hide (unhide U1 i hlt).2
    have EI := hide ei1
    clear ei1
    go_upto_region 6 with fail
    have HW : Below wr.heap.size wr wr.drew := (Below.refl _ _).drew
    refine till_start (fun w' => w'.cell? ⟨gd, i1 * 2, none⟩ = some (.bool b1) ∧ w'.cell? ⟨gd, i1 * 2 + 1, none⟩ = some (.slice a1 l1 c1) ∧ w'.cell? ⟨gd, i * 2, none⟩ = some (.bool b5) ∧ w'.cell? ⟨gd, i * 2 + 1, none⟩ = some (.slice a5 l5 c5) ∧ w'.cell? ⟨gx, ox + i * 2, none⟩ = some (.bool b3) ∧ w'.cell? ⟨gx, ox + i * 2 + 1, none⟩ = some (.slice a3 l3 c3) ∧ w'.cell? ⟨gy, oy + i * 2, none⟩ = some (.bool b4) ∧ w'.cell? ⟨gy, oy + i * 2 + 1, none⟩ = some (.slice a4 l4 c4) ∧ w'.cell? ⟨w.heap.size, 0, none⟩ = some (.bool b2) ∧ w'.cell? ⟨w.heap.size, 1, none⟩ = some (.slice a2 l2 c2)) 26 (by kernel_rfl) ?_ (fun hHeld => ?_)
    ·exact ⟨(E1.later HW).facts.1, (E1.later HW).facts.2, (E5.later HW).facts.1, (E5.later HW).facts.2, (E3.later HW).facts.1, (E3.later HW).facts.2, (E4.later HW).facts.1, (E4.later HW).facts.2, (BZ.later HW).facts.1, (BZ.later HW).facts.2.1⟩
    refine till_tl (i := 0) [3, 4, 6, 15, 16, 21, 22, 23, 24, 25, 26] rfl ?_
    simp only [Act.put, aGet, aZero, aSet, aHead, aTail]
    refine till_tl (i := 1) [2, 3, 4, 6, 15, 16, 21, 22, 23, 24, 25, 26] rfl ?_
    simp only [Act.put, aAll]
    refine till_tl (i := 2) [3, 4, 6, 15, 16, 21, 22, 23, 24, 25, 26] rfl ?_
    simp only [Act.put, aAll]
    refine till_tl (i := 3) [4, 6, 15, 16, 21, 22, 23, 24, 25, 26] rfl ?_
    simp only [Act.put, aAll]
    refine till_tl (i := 4) [6, 15, 16, 21, 22, 23, 24, 25, 26] rfl ?_
    simp only [Act.put, aAll]
    refine till_tl (i := 5) [6, 15, 16, 21, 22, 23, 24, 25, 26] rfl ?_
    simp only [Act.put, aAll]
    refine till_tl (i := 7) [9, 10, 15, 16, 21, 22, 23, 24, 25, 26] rfl ?_
    simp only [Act.put, aAll]
    refine till_tl (i := 8) [9, 10, 15, 16, 21, 22, 23, 24, 25, 26] rfl ?_
    simp only [Act.put, aAll]
    refine till_tl (i := 9) [10, 15, 16, 21, 22, 23, 24, 25, 26] rfl ?_
    simp only [Act.put, aAll]
    refine till_tl (i := 10) [15, 16, 21, 22, 23, 24, 25, 26] rfl ?_
    simp only [Act.put, aAll]
    refine till_tl (i := 11) [13, 14, 15, 16, 21, 22, 23, 24, 25, 26] rfl ?_
    simp only [Act.put, aAll]
    refine till_tl (i := 12) [13, 14, 15, 16, 21, 22, 23, 24, 25, 26] rfl ?_
    simp only [Act.put, aAll]
    refine till_tl (i := 13) [14, 15, 16, 21, 22, 23, 24, 25, 26] rfl ?_
    simp only [Act.put, aAll]
    refine till_tl (i := 14) [15, 16, 21, 22, 23, 24, 25, 26] rfl ?_
    simp only [Act.put, aAll]
    refine till_tl (i := 17) [19, 20, 21, 22, 23, 24, 25, 26] rfl ?_
    simp only [Act.put, aAll]
    refine till_tl (i := 18) [19, 20, 21, 22, 23, 24, 25, 26] rfl ?_
    simp only [Act.put, aAll]
    refine till_tl (i := 19) [20, 21, 22, 23, 24, 25, 26] rfl ?_
    simp only [Act.put, aAll]
    refine till_tl (i := 20) [21, 22, 23, 24, 25, 26] rfl ?_
    simp only [Act.put, aAll]
    refine till_in (i := 6) (by kernel_rfl) rfl (fun K hK => ?_)
    go_simp
    refine (mulK b1 a1 l1 c1 (ds.getD (i + 1) 0) k b2 a2 l2 c2 (F i) k _ (y1.later HW) ((hz.later HW).ik (by omega))).mono ?_
    rintro e w9 ⟨b6, a6, l6, c6, rfl, h6, hb9⟩
    replace HW := Below.step HW hb9
    clear hb9
    refine hK.out _ _ ?_ (fun hHeld => ?_)
    ·exact ⟨(E1.later HW).facts.1, (E1.later HW).facts.2, (E5.later HW).facts.1, (E5.later HW).facts.2, (E3.later HW).facts.1, (E3.later HW).facts.2, (E4.later HW).facts.1, (E4.later HW).facts.2, (BZ.later HW).facts.1, (BZ.later HW).facts.2.1⟩
    clear hK K
    try simp only [Act.put, aAll]
    refine till_in (i := 15) (by kernel_rfl) rfl (fun K hK => ?_)
    go_simp
    refine (mulK b3 a3 l3 c3 (xs.getD i 0) k b4 a4 l4 c4 (ys.getD i 0) k _ (y3.later HW) (y4.later HW)).mono ?_
    rintro e w9 ⟨b7, a7, l7, c7, rfl, h7, hb9⟩
    replace HW := Below.step HW hb9
    replace h6 := h6.later hb9
    clear hb9
    refine hK.out _ _ ?_ (fun hHeld => ?_)
    ·exact ⟨(E1.later HW).facts.1, (E1.later HW).facts.2, (E5.later HW).facts.1, (E5.later HW).facts.2, (E3.later HW).facts.1, (E3.later HW).facts.2, (E4.later HW).facts.1, (E4.later HW).facts.2, (BZ.later HW).facts.1, (BZ.later HW).facts.2.1⟩
    clear hK K
    try simp only [Act.put, aAll]
    refine till_in (i := 16) (by kernel_rfl) rfl (fun K hK => ?_)
    go_simp
    refine (subK b6 a6 l6 c6 (ds.getD (i + 1) 0 * F i) (k + k) b7 a7 l7 c7 (xs.getD i 0 * ys.getD i 0) (k + k) _ (h6.ik (by omega)) (h7.ik (by omega))).mono ?_
    rintro e w9 ⟨b8, a8, l8, c8, rfl, h8, hb9⟩
    replace HW := Below.step HW hb9
    clear hb9 h6 h7
    rw [Nat.max_self] at h8
    refine hK.out _ _ ?_ (fun hHeld => ?_)
    ·exact ⟨(E1.later HW).facts.1, (E1.later HW).facts.2, (E5.later HW).facts.1, (E5.later HW).facts.2, (E3.later HW).facts.1, (E3.later HW).facts.2, (E4.later HW).facts.1, (E4.later HW).facts.2, (BZ.later HW).facts.1, (BZ.later HW).facts.2.1⟩
    clear hK K
    try simp only [Act.put, aAll]
    refine till_in (i := 21) (by kernel_rfl) rfl (fun K hK => ?_)
    go_simp
    refine (quoK b8 a8 l8 c8 (ds.getD (i + 1) 0 * F i - xs.getD i 0 * ys.getD i 0) (k + k + 1) b5 a5 l5 c5 (ds.getD i 0) k _ (h8.ik (by omega)) (y5.later HW) (unhide HD0)).mono ?_
    rintro e w9 ⟨ba, aa, la, ca, bb, ab, lb, cb, rfl, ha, hbb, hb9⟩
    replace HW := Below.step HW hb9
    clear hb9 h8 hbb
    refine hK.out _ _ ?_ (fun hHeld => ?_)
    ·exact ⟨(E1.later HW).facts.1, (E1.later HW).facts.2, (E5.later HW).facts.1, (E5.later HW).facts.2, (E3.later HW).facts.1, (E3.later HW).facts.2, (E4.later HW).facts.1, (E4.later HW).facts.2, (BZ.later HW).facts.1, (BZ.later HW).facts.2.1⟩
    clear hK K
    try simp only [Act.put, aAll]
    refine till_tl (i := 22) [23, 24, 25, 26] rfl ?_
    simp only [Act.put, aAll]
    refine till_tl (i := 23) [26] rfl ?_
    simp only [Act.put, aAll]
    refine till_fr (i := 24) (v := ?_) rfl (Or.inl ⟨by rfl, ?_⟩) ?_
    rotate_left
    ·(intro w hSw; (try dsimp only at hSw); go_simp; try with_reducible rfl)
    simp only [Act.put, aAll]
    refine till_fr (i := 25) (v := ?_) rfl (Or.inl ⟨by rfl, ?_⟩) ?_
    rotate_left
    ·(intro w hSw; (try dsimp only at hSw); go_simp; try with_reducible rfl)
    simp only [Act.put, aAll]
    obtain ⟨q1, q2, q3, q4⟩ := (BZ.later HW).facts
    have hs0 := (BZ.later HW).lt
    refine till_out (i := 26) (by kernel_rfl) rfl (by kernel_rfl) (fun K hK => ?_)
    go_simp
    refine hK.out _ _ ?_
    clear hK K
    try simp only [Act.put, aAll]
    refine till_done (by kernel_rfl) ?_ _
    have hnl := (BZ.later HW).noLimb
    clear hHeld q1 q2 q3 q4
    have hF : (ds.getD (i + 1) 0 * F i - xs.getD i 0 * ys.getD i 0).tdiv (ds.getD i 0) = F (i + 1) := by rw [← unhide HQ]; exact Int.mul_tdiv_cancel_left _ (unhide HD0)
    rw [hF] at ha
    replace ha : FK w9 ba aa la ca (F (i + 1)) k := ⟨ha.1, unhide U2 (i + 1) (by omega)⟩
    have BO9 : Box (put w9 w.heap.size ba aa la ca) (w.heap.size + 1) false none 0 0 := (BO.later HW).other (g' := w.heap.size) (by omega) ba aa la ca
    have BZ9 := (BZ.later HW).put ba aa la ca
    have h9 := ha.put hnl ba aa la ca
    have HB9 := hide (below_put (Below.step (unhide HB) HW) (Nat.le_refl w.heap.size) ba aa la ca)
    have e9 : (w9.setCell ⟨w.heap.size, 0, none⟩ (.bool ba)).setCell ⟨w.heap.size, 1, none⟩ (.slice aa la ca) = put w9 w.heap.size ba aa la ca := rfl
    rw [e9]
    clear HW BZ BO E1 E3 E4 E5 e9 hnl ha hs0 hF y1 y3 y4 y5 hz HB
    go_wp2
    go_roundw
    case rel => exact ⟨i1, _, _, _, _, by have := unhide EI; omega, by go_num, BZ9, BO9, by rw [unhide EI]; exact h9, unhide HB9⟩
    case measure => simp [intOf]; have := unhide EI; omega
   ·have hin : i = n := by omega
    subst hin
    have hin' : ¬ (i : Int) < (i : Int) := by omega
    obtain ⟨f1, f2, _, _⟩ := BZ.facts
    have hsz := BZ.lt
    obtain ⟨q1, q2, q3, q4⟩ := BO.facts
    have hso := BO.lt
    go_wp2
    refine bodyPost_ret (v := .agg #[.bool b2, .slice a2 l2 c2]) (by simp [results, Try.results72, go_sem, *]) rfl ?_
    have hz1 := hz.put BO.noLimb b2 a2 l2 c2
    have hz2 := below_put (unhide HB) (show w.heap.size ≤ w.heap.size + 1 by omega) b2 a2 l2 c2
    cases b2 with
    | false => exact Or.inl ⟨_, _, _, rfl, hz1, hz2⟩
    | true => exact Or.inr ⟨_, _, _, rfl, hz1, hz2⟩
end Go.Proofs.Ytnpneloahajniaa
