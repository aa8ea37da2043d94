/-
  The walk of BezoutMakes: it tells true.
-/
import Derived.Test.YtobiogedknmijaaFew6
import Derived.Test.YtobiogedknmijaaAwake6
import Derived.Test.YtobiogedknmijaaLcmNum
namespace Go.Proofs.Ytobiogedknmijaa
open Go.RowKit Lb

set_option maxRecDepth 20000 in
set_option maxHeartbeats 16000000 in
theorem bezoutMakes_walk (b0 : Bool) (a0 : Option Addr) (len0 cap0 : Nat) (xs0 : List Nat) (b1 : Bool) (a1 : Option Addr) (len1 cap1 : Nat) (xs1 : List Nat) (b2 : Bool) (a2 : Option Addr) (len2 cap2 : Nat) (xs2 : List Nat) (w : World) (r0 : RowAt w a0 len0 cap0 xs0) (r1 : RowAt w a1 len1 cap1 xs1) (r2 : RowAt w a2 len2 cap2 xs2) :
    Calls Try.prog 5 #[.agg #[.bool b0, .slice a0 len0 cap0], .agg #[.bool b1, .slice a1 len1 cap1], .agg #[.bool b2, .slice a2 len2 cap2]] w fun e w' => e = .returned (.bool true) ∧ Below w.heap.size w w' := by
  have hx0 := r0.int b0
  obtain ⟨z0, ez0⟩ : ∃ z, z = sgnd b0 (Lb.val xs0) := ⟨_, rfl⟩
  rw [← ez0] at hx0
  clear ez0 r0
  have hx1 := r1.int b1
  obtain ⟨z1, ez1⟩ : ∃ z, z = sgnd b1 (Lb.val xs1) := ⟨_, rfl⟩
  rw [← ez1] at hx1
  clear ez1 r1
  have hx2 := r2.int b2
  obtain ⟨z2, ez2⟩ : ∃ z, z = sgnd b2 (Lb.val xs2) := ⟨_, rfl⟩
  rw [← ez2] at hx2
  clear ez2 r2
  go_enter Try.func5, Try.ntmps5
  go_wp2_with fail
  obtain ⟨W0, hWe⟩ : ∃ W', W' = (((w.alloc (.cells #[.bool b0, .slice a0 len0 cap0] 24)).alloc (.cells #[.bool b1, .slice a1 len1 cap1] 24)).alloc (.cells #[.bool b2, .slice a2 len2 cap2] 24)) := ⟨_, rfl⟩
  obtain ⟨P0, P1, P2, hb0⟩ := boxes3 w b0 a0 len0 cap0 b1 a1 len1 cap1 b2 a2 len2 cap2 hWe
  have hsW : w.heap.size + 3 = W0.heap.size := by rw [hWe]; simp
  have hbv := below_new W0 (.cells #[.bool b0, .slice a0 len0 cap0, .bool b1, .slice a1 len1 cap1, .bool b2, .slice a2 len2 cap2] 24)
  have hv := vec3 (w := W0) (R := IntAt) (n := w.heap.size + 3) hsW ((hx0.later hb0).later hbv) ((hx1.later hb0).later hbv) ((hx2.later hb0).later hbv)
  have he := elts_new3 (w := W0) (b0 := b0) (a0 := a0) (l0 := len0) (c0 := cap0) (b1 := b1) (a1 := a1) (l1 := len1) (c1 := cap1) (b2 := b2) (a2 := a2) (l2 := len2) (c2 := cap2) (n := w.heap.size + 3) hsW
  rw [← hWe]
  clear hWe hsW
  refine (few6_any _ _ _ _ _ hv).mono ?_
  rintro e w1 ⟨q, rfl, hq, hb1⟩
  have hb2 := Below.step hbv hb1
  clear hb1 hbv hv
  replace P0 := P0.later hb2
  replace P1 := P1.later hb2
  replace P2 := P2.later hb2
  have HB := hide (Below.step hb0 hb2)
  clear hb0 hb2
  by_cases hf : q = true
  · subst hf
    obtain ⟨_, _, hsix⟩ := hq rfl
    have e0 : len0 ≤ 6 := hsix 0 _ _ _ _ _ _ (by omega) rfl he.1
    have e1 : len1 ≤ 6 := hsix 1 _ _ _ _ _ _ (by omega) rfl he.2.1
    have e2 : len2 ≤ 6 := hsix 2 _ _ _ _ _ _ (by omega) rfl he.2.2
    have h0 := ik_of (hx0.later (unhide HB)) e0 (by omega)
    have h1 := ik_of (hx1.later (unhide HB)) e1 (by omega)
    have h2 := ik_of (hx2.later (unhide HB)) e2 (by omega)
    obtain ⟨kx, ekx⟩ : ∃ kx, kx = 6 := ⟨_, rfl⟩
    rw [← ekx] at h0 h1 h2
    have hkx : kx ≤ 6 := by omega
    clear ekx
    have L0 := hide e0
    have L1 := hide e1
    have L2 := hide e2
    clear hq hsix he hx0 e0 hx1 e1 hx2 e2
    by_cases hz2 : z2 = 0
    · have E0 := hide (show (0 : Int) = z2.sign by rw [hz2]; rfl)
      clear hz2
      obtain ⟨fP21, fP22, _, _⟩ := P2.facts
      go_wp2_with fail
      refine (signK b2 a2 len2 cap2 z2 kx 0 _ h2 (unhide E0)).mono ?_
      rintro e v61 ⟨rfl, hb9⟩
      clear fP21 fP22
      replace P0 := P0.later hb9
      replace P1 := P1.later hb9
      replace P2 := P2.later hb9
      replace h0 := h0.later hb9
      replace h1 := h1.later hb9
      replace h2 := h2.later hb9
      replace HB := hide (Below.step (unhide HB) hb9)
      clear hb9
      go_wp2_with fail
      refine (awake6_any _).mono ?_
      rintro e w2 ⟨rfl, hb2⟩
      go_wp2
      go_ret
      exact ⟨rfl, Below.step (unhide HB) hb2⟩
    obtain ⟨s2, es2⟩ : ∃ s, s = z2.sign := ⟨_, rfl⟩
    have hs2 : (s2 == 0) = false := by rw [beq_eq_false_iff_ne, es2]; exact fun e => hz2 (Int.sign_eq_zero_iff_zero.1 e)
    have E2 := hide es2
    clear es2 hz2
    obtain ⟨gg, eg⟩ : ∃ gg, gg = extG (z0 * z2) (z1 * z2) := ⟨_, rfl⟩
    obtain ⟨ex, ex'⟩ : ∃ ex, ex = extX (z0 * z2) (z1 * z2) := ⟨_, rfl⟩
    obtain ⟨ey, ey'⟩ : ∃ ey, ey = extY (z0 * z2) (z1 * z2) := ⟨_, rfl⟩
    obtain ⟨t1, t2, _, _⟩ := ext_tells (z0 * z2) (z1 * z2)
    rw [← eg] at t1
    rw [← ex', ← ey', ← t1] at t2
    have EG := hide eg.symm
    have EX := hide ex'.symm
    have EY := hide ey'.symm
    have EGG := hide t1
    have D0 := hide (show true = decide (z0 * z2 * ex + z1 * z2 * ey = gg) from (decide_eq_true t2).symm)
    have D1 := hide (show true = decide (gg ∣ z0 * z2) from (decide_eq_true (by rw [t1]; exact (gcd_dvd_both _ _).1)).symm)
    have D2 := hide (show true = decide (gg ∣ z1 * z2) from (decide_eq_true (by rw [t1]; exact (gcd_dvd_both _ _).2)).symm)
    have D3 := hide (show true = decide (z2 ∣ gg) from (decide_eq_true (by rw [t1]; exact dvd_gcd_scale _ _ _)).symm)
    have D4 := hide (show true = decide ((Int.gcd z0 z1 : Int) * (z2.natAbs : Int) = gg) from (decide_eq_true (by rw [t1]; exact gcd_scale _ _ _)).symm)
    obtain ⟨sg, es⟩ : ∃ s, s = gg.sign := ⟨_, rfl⟩
    have hsg : ¬ sg < 0 := by
      have h9 : 0 ≤ sg := by rw [es]; exact sign_ge (by rw [t1]; omega)
      omega
    have hsd : decide (sg < 0) = false := decide_eq_false hsg
    have ES := hide es
    clear eg ex' ey' t1 t2 es
    obtain ⟨fP21, fP22, _, _⟩ := P2.facts
    go_wp2_with fail
    refine (signK b2 a2 len2 cap2 z2 kx s2 _ h2 (unhide E2)).mono ?_
    rintro e v1 ⟨rfl, hb9⟩
    clear fP21 fP22
    replace P0 := P0.later hb9
    replace P1 := P1.later hb9
    replace P2 := P2.later hb9
    replace h0 := h0.later hb9
    replace h1 := h1.later hb9
    replace h2 := h2.later hb9
    replace HB := hide (Below.step (unhide HB) hb9)
    clear hb9
    go_upto_region 3 with fail
    have hsP := P2.lt
    have HW : Below v1.heap.size v1 v1.drew := (Below.refl _ _).drew
    refine till_start (fun w' => w'.cell? ⟨w.heap.size, 0, none⟩ = some (.bool b0) ∧ w'.cell? ⟨w.heap.size, 1, none⟩ = some (.slice a0 len0 cap0) ∧ w'.cell? ⟨w.heap.size + 1, 0, none⟩ = some (.bool b1) ∧ w'.cell? ⟨w.heap.size + 1, 1, none⟩ = some (.slice a1 len1 cap1) ∧ w'.cell? ⟨w.heap.size + 2, 0, none⟩ = some (.bool b2) ∧ w'.cell? ⟨w.heap.size + 2, 1, none⟩ = some (.slice a2 len2 cap2)) 8 (by kernel_rfl) ?_ (fun hHeld => ?_)
    · exact ⟨(P0.later HW).facts.1, (P0.later HW).facts.2.1, (P1.later HW).facts.1, (P1.later HW).facts.2.1, (P2.later HW).facts.1, (P2.later HW).facts.2.1⟩
    obtain ⟨vd2, hvd⟩ : ∃ v, v = v1.drew := ⟨_, rfl⟩
    rw [← hvd] at HW hHeld ⊢
    clear hvd
    refine till_take (i := 0) (v := ?_) [2, 5, 8, 9] rfl (by kernel_rfl) (by kernel_rfl) (by kernel_rfl) (by kernel_rfl) (fun _ _ _ h => h) (Or.inl ⟨by rfl, ?_⟩) (by assumption) ?_
    rotate_left
    · (intro wx hSw; (try dsimp only at hSw); go_simp; (try rw [if_neg (by omega)]); try with_reducible rfl)
    simp only [Act.put, List.getElem_toArray, List.getElem_cons_zero, List.setIfInBounds_toArray, List.set_cons_zero, List.set_cons_succ]
    refine till_take (i := 1) (v := ?_) [2, 5, 8, 9] rfl (by kernel_rfl) (by kernel_rfl) (by kernel_rfl) (by kernel_rfl) (fun _ _ _ h => h) (Or.inl ⟨by rfl, ?_⟩) (by assumption) ?_
    rotate_left
    · (intro wx hSw; (try dsimp only at hSw); go_simp; (try rw [if_neg (by omega)]); try with_reducible rfl)
    simp only [Act.put, List.getElem_toArray, List.getElem_cons_succ, List.getElem_cons_zero, List.setIfInBounds_toArray, List.set_cons_zero, List.set_cons_succ]
    refine till_take (i := 3) (v := ?_) [5, 8, 9] rfl (by kernel_rfl) (by kernel_rfl) (by kernel_rfl) (by kernel_rfl) (fun _ _ _ h => h) (Or.inl ⟨by rfl, ?_⟩) (by assumption) ?_
    rotate_left
    · (intro wx hSw; (try dsimp only at hSw); go_simp; (try rw [if_neg (by omega)]); try with_reducible rfl)
    simp only [Act.put, List.getElem_toArray, List.getElem_cons_succ, List.getElem_cons_zero, List.setIfInBounds_toArray, List.set_cons_zero, List.set_cons_succ]
    refine till_take (i := 4) (v := ?_) [5, 8, 9] rfl (by kernel_rfl) (by kernel_rfl) (by kernel_rfl) (by kernel_rfl) (fun _ _ _ h => h) (Or.inl ⟨by rfl, ?_⟩) (by assumption) ?_
    rotate_left
    · (intro wx hSw; (try dsimp only at hSw); go_simp; (try rw [if_neg (by omega)]); try with_reducible rfl)
    simp only [Act.put, List.getElem_toArray, List.getElem_cons_succ, List.getElem_cons_zero, List.setIfInBounds_toArray, List.set_cons_zero, List.set_cons_succ]
    refine till_name (fun act0 hact0 => ?_)
    have HA := hide hact0
    clear hact0
    refine till_mid 2 #[true, true, true, true, true, true, true, true, false, false] (ι := Bool × Option Addr × Nat × Nat × Bool × Option Addr × Nat × Nat × Nat × Nat) (fun (bp, ap, lp, cp, bq, aq, lq, cq, g7, g8) => ((((act0.put (some 26) (.agg #[.bool bp, .slice ap lp cp])).put (some 29) (.agg #[.bool bq, .slice aq lq cq])).put (some 7) ((.pointer (some ⟨g7, 0, none⟩)))).put (some 8) ((.pointer (some ⟨g8, 0, none⟩))))) (fun (bp, ap, lp, cp, bq, aq, lq, cq, g7, g8) w => Below v1.heap.size v1 w ∧ FK w bp ap lp cp (z0 * z2) (kx + kx) ∧ FK w bq aq lq cq (z1 * z2) (kx + kx) ∧ Box w g7 false none 0 0 ∧ v1.heap.size ≤ g7 ∧ Box w g8 false none 0 0 ∧ v1.heap.size ≤ g8 ∧ g7 ≠ g8) ?_ (fun J0 => ?_)
    · rintro ⟨bp, ap, lp, cp, bq, aq, lq, cq, g7, g8⟩ wj hI
      try dsimp only at hI ⊢
      obtain ⟨HW, hp, hq, B7, hg7, B8, hg8, hneg7g8⟩ := hI
      have hHeld : wj.cell? ⟨w.heap.size, 0, none⟩ = some (.bool b0) ∧ wj.cell? ⟨w.heap.size, 1, none⟩ = some (.slice a0 len0 cap0) ∧ wj.cell? ⟨w.heap.size + 1, 0, none⟩ = some (.bool b1) ∧ wj.cell? ⟨w.heap.size + 1, 1, none⟩ = some (.slice a1 len1 cap1) ∧ wj.cell? ⟨w.heap.size + 2, 0, none⟩ = some (.bool b2) ∧ wj.cell? ⟨w.heap.size + 2, 1, none⟩ = some (.slice a2 len2 cap2) := by exact ⟨(P0.later HW).facts.1, (P0.later HW).facts.2.1, (P1.later HW).facts.1, (P1.later HW).facts.2.1, (P2.later HW).facts.1, (P2.later HW).facts.2.1⟩
      rw [unhide HA]
      simp only [Act.put, List.setIfInBounds_toArray, List.set_cons_zero, List.set_cons_succ]
      obtain ⟨q1B7, q2B7, q3B7, q4B7⟩ := B7.facts
      have hltB7 := B7.lt
      obtain ⟨q1B8, q2B8, q3B8, q4B8⟩ := B8.facts
      have hltB8 := B8.lt
      refine till_out (i := 8) (by kernel_rfl) rfl (by kernel_rfl) (fun K hK => ?_)
      go_simp
      refine hK.out _ _ ?_
      clear hK K
      try simp only [List.setIfInBounds_toArray, List.set_cons_zero, List.set_cons_succ]
      refine till_out (i := 9) (by kernel_rfl) rfl (by kernel_rfl) (fun K hK => ?_)
      go_simp
      refine hK.out _ _ ?_
      clear hK K
      try simp only [List.setIfInBounds_toArray, List.set_cons_zero, List.set_cons_succ]
      refine till_done (by kernel_rfl) ?_ _
      have n7 := B7.noLimb
      have n8 := (B8.other (g' := g7) (Ne.symm hneg7g8) bp ap lp cp).noLimb
      obtain ⟨W8, hW8⟩ : ∃ W8, W8 = ((((wj.setCell ⟨g7, 0, none⟩ (.bool bp)).setCell ⟨g7, 1, none⟩ (.slice ap lp cp)).setCell ⟨g8, 0, none⟩ (.bool bq)).setCell ⟨g8, 1, none⟩ (.slice aq lq cq)) := ⟨_, rfl⟩
      rw [← hW8]
      have Bp : Box W8 g7 bp ap lp cp := by rw [hW8]; exact (B7.put bp ap lp cp).other (g' := g8) hneg7g8 bq aq lq cq
      have Bq : Box W8 g8 bq aq lq cq := by rw [hW8]; exact (B8.other (g' := g7) (Ne.symm hneg7g8) bp ap lp cp).put bq aq lq cq
      replace P0 : Box W8 (w.heap.size) b0 a0 len0 cap0 := by rw [hW8]; exact ((P0.later HW).other (g' := g7) (by omega) bp ap lp cp).other (g' := g8) (by omega) bq aq lq cq
      replace P1 : Box W8 (w.heap.size + 1) b1 a1 len1 cap1 := by rw [hW8]; exact ((P1.later HW).other (g' := g7) (by omega) bp ap lp cp).other (g' := g8) (by omega) bq aq lq cq
      replace P2 : Box W8 (w.heap.size + 2) b2 a2 len2 cap2 := by rw [hW8]; exact ((P2.later HW).other (g' := g7) (by omega) bp ap lp cp).other (g' := g8) (by omega) bq aq lq cq
      replace h0 : IK W8 b0 a0 len0 cap0 z0 kx := by rw [hW8]; exact ((h0.later HW).put n7 bp ap lp cp).put n8 bq aq lq cq
      replace h1 : IK W8 b1 a1 len1 cap1 z1 kx := by rw [hW8]; exact ((h1.later HW).put n7 bp ap lp cp).put n8 bq aq lq cq
      replace h2 : IK W8 b2 a2 len2 cap2 z2 kx := by rw [hW8]; exact ((h2.later HW).put n7 bp ap lp cp).put n8 bq aq lq cq
      replace hp : FK W8 bp ap lp cp (z0 * z2) (kx + kx) := by rw [hW8]; exact (hp.put n7 bp ap lp cp).put n8 bq aq lq cq
      replace hq : FK W8 bq aq lq cq (z1 * z2) (kx + kx) := by rw [hW8]; exact (hq.put n7 bp ap lp cp).put n8 bq aq lq cq
      replace HB : Hid (Below w.heap.size w W8) := by rw [hW8]; exact below_put (below_put (Below.step (unhide HB) HW) (by omega) _ _ _ _) (by omega) _ _ _ _
      clear hW8 HW hHeld B7 B8 n7 n8 q1B7 q2B7 q3B7 q4B7 q1B8 q2B8 q3B8 q4B8
      obtain ⟨fBp1, fBp2, _, _⟩ := Bp.facts
      obtain ⟨fBq1, fBq2, _, _⟩ := Bq.facts
      go_wp2_with fail
      refine (extK bp ap lp cp (z0 * z2) (kx + kx) bq aq lq cq (z1 * z2) (kx + kx) _ (hp.ik (by omega)) (hq.ik (by omega)) (by omega) (by omega)).mono ?_
      rintro e v101 ⟨bg, ag, lg, cg, bu, au, lu, cu, bv, av, lv, cv, rfl, hg, hu, hv, hb9⟩
      clear fBp1 fBp2 fBq1 fBq2
      replace P0 := P0.later hb9
      replace P1 := P1.later hb9
      replace P2 := P2.later hb9
      replace h0 := h0.later hb9
      replace h1 := h1.later hb9
      replace h2 := h2.later hb9
      replace Bp := Bp.later hb9
      replace hp := hp.later hb9
      replace Bq := Bq.later hb9
      replace hq := hq.later hb9
      replace HB := hide (Below.step (unhide HB) hb9)
      clear hb9
      rw [unhide EG] at hg
      rw [unhide EX] at hu
      rw [unhide EY] at hv
      go_upto_region 5 with fail
      obtain ⟨v102, hWe⟩ : ∃ W', W' = (((v101.alloc (.cells #[.bool bg, .slice ag lg cg] 24)).alloc (.cells #[.bool bu, .slice au lu cu] 24)).alloc (.cells #[.bool bv, .slice av lv cv] 24)) := ⟨_, rfl⟩
      obtain ⟨Bg, Bx, By, hb9⟩ := boxes3 v101 bg ag lg cg bu au lu cu bv av lv cv hWe
      rw [← hWe]
      clear hWe
      replace P0 := P0.later hb9
      replace P1 := P1.later hb9
      replace P2 := P2.later hb9
      replace h0 := h0.later hb9
      replace h1 := h1.later hb9
      replace h2 := h2.later hb9
      replace Bp := Bp.later hb9
      replace hp := hp.later hb9
      replace Bq := Bq.later hb9
      replace hq := hq.later hb9
      replace hg := hg.later hb9
      replace hu := hu.later hb9
      replace hv := hv.later hb9
      replace HB := hide (Below.step (unhide HB) hb9)
      clear hb9
      have HW : Below v102.heap.size v102 v102.drew := (Below.refl _ _).drew
      refine till_start (fun w' => w'.cell? ⟨g7, 0, none⟩ = some (.bool bp) ∧ w'.cell? ⟨g7, 1, none⟩ = some (.slice ap lp cp) ∧ w'.cell? ⟨g8, 0, none⟩ = some (.bool bq) ∧ w'.cell? ⟨g8, 1, none⟩ = some (.slice aq lq cq) ∧ w'.cell? ⟨v101.heap.size, 0, none⟩ = some (.bool bg) ∧ w'.cell? ⟨v101.heap.size, 1, none⟩ = some (.slice ag lg cg) ∧ w'.cell? ⟨v101.heap.size + 1, 0, none⟩ = some (.bool bu) ∧ w'.cell? ⟨v101.heap.size + 1, 1, none⟩ = some (.slice au lu cu) ∧ w'.cell? ⟨v101.heap.size + 2, 0, none⟩ = some (.bool bv) ∧ w'.cell? ⟨v101.heap.size + 2, 1, none⟩ = some (.slice av lv cv)) 22 (by kernel_rfl) ?_ (fun hHeld => ?_)
      · exact ⟨(Bp.later HW).facts.1, (Bp.later HW).facts.2.1, (Bq.later HW).facts.1, (Bq.later HW).facts.2.1, (Bg.later HW).facts.1, (Bg.later HW).facts.2.1, (Bx.later HW).facts.1, (Bx.later HW).facts.2.1, (By.later HW).facts.1, (By.later HW).facts.2.1⟩
      refine till_take (i := 0) (v := ?_) [2, 5, 6, 8, 9, 10, 11, 12, 13, 14, 15, 16, 17, 18, 19, 20, 21, 22] rfl (by kernel_rfl) (by kernel_rfl) (by kernel_rfl) (by kernel_rfl) (fun _ _ _ h => h) (Or.inl ⟨by rfl, ?_⟩) (by assumption) ?_
      rotate_left
      · (intro w hSw; (try dsimp only at hSw); go_simp; try with_reducible rfl)
      simp only [Act.put, List.getElem_toArray, List.getElem_cons_zero, List.setIfInBounds_toArray, List.set_cons_zero, List.set_cons_succ]
      refine till_take (i := 1) (v := ?_) [2, 5, 6, 8, 9, 10, 11, 12, 13, 14, 15, 16, 17, 18, 19, 20, 21, 22] rfl (by kernel_rfl) (by kernel_rfl) (by kernel_rfl) (by kernel_rfl) (fun _ _ _ h => h) (Or.inl ⟨by rfl, ?_⟩) (by assumption) ?_
      rotate_left
      · (intro w hSw; (try dsimp only at hSw); go_simp; try with_reducible rfl)
      simp only [Act.put, List.getElem_toArray, List.getElem_cons_succ, List.getElem_cons_zero, List.setIfInBounds_toArray, List.set_cons_zero, List.set_cons_succ]
      refine till_take (i := 3) (v := ?_) [5, 6, 8, 9, 10, 11, 12, 13, 14, 15, 16, 17, 18, 19, 20, 21, 22] rfl (by kernel_rfl) (by kernel_rfl) (by kernel_rfl) (by kernel_rfl) (fun _ _ _ h => h) (Or.inl ⟨by rfl, ?_⟩) (by assumption) ?_
      rotate_left
      · (intro w hSw; (try dsimp only at hSw); go_simp; try with_reducible rfl)
      simp only [Act.put, List.getElem_toArray, List.getElem_cons_succ, List.getElem_cons_zero, List.setIfInBounds_toArray, List.set_cons_zero, List.set_cons_succ]
      refine till_take (i := 4) (v := ?_) [5, 6, 8, 9, 10, 11, 12, 13, 14, 15, 16, 17, 18, 19, 20, 21, 22] rfl (by kernel_rfl) (by kernel_rfl) (by kernel_rfl) (by kernel_rfl) (fun _ _ _ h => h) (Or.inl ⟨by rfl, ?_⟩) (by assumption) ?_
      rotate_left
      · (intro w hSw; (try dsimp only at hSw); go_simp; try with_reducible rfl)
      simp only [Act.put, List.getElem_toArray, List.getElem_cons_succ, List.getElem_cons_zero, List.setIfInBounds_toArray, List.set_cons_zero, List.set_cons_succ]
      refine till_take (i := 7) (v := ?_) [8, 9, 10, 11, 12, 13, 14, 15, 16, 17, 18, 19, 20, 21, 22] rfl (by kernel_rfl) (by kernel_rfl) (by kernel_rfl) (by kernel_rfl) (fun _ _ _ h => h) (Or.inl ⟨by rfl, ?_⟩) (by assumption) ?_
      rotate_left
      · (intro w hSw; (try dsimp only at hSw); go_simp; try with_reducible rfl)
      simp only [Act.put, List.getElem_toArray, List.getElem_cons_succ, List.getElem_cons_zero, List.setIfInBounds_toArray, List.set_cons_zero, List.set_cons_succ]
      refine till_in (i := 2) (by kernel_rfl) rfl (fun K hK => ?_)
      go_simp
      refine (mulK bp ap lp cp (z0 * z2) (kx + kx) bu au lu cu ex (max (kx + kx) (kx + kx) + 1) _ ((hp.later HW).ik (by omega)) ((hu.later HW).ik (by omega))).mono ?_
      rintro e v103 ⟨bm, am, lm, cm, rfl, hm, hb9⟩
      replace HW := Below.step HW hb9
      clear hb9
      refine hK.out _ _ ?_ (fun hHeld => ?_)
      · exact ⟨(Bp.later HW).facts.1, (Bp.later HW).facts.2.1, (Bq.later HW).facts.1, (Bq.later HW).facts.2.1, (Bg.later HW).facts.1, (Bg.later HW).facts.2.1, (Bx.later HW).facts.1, (Bx.later HW).facts.2.1, (By.later HW).facts.1, (By.later HW).facts.2.1⟩
      clear hK K
      try simp only [Act.put, List.getElem_toArray, List.getElem_cons_succ, List.getElem_cons_zero, List.setIfInBounds_toArray, List.set_cons_zero, List.set_cons_succ]
      refine till_in (i := 5) (by kernel_rfl) rfl (fun K hK => ?_)
      go_simp
      refine (mulK bq aq lq cq (z1 * z2) (kx + kx) bv av lv cv ey (max (kx + kx) (kx + kx) + 1) _ ((hq.later HW).ik (by omega)) ((hv.later HW).ik (by omega))).mono ?_
      rintro e v104 ⟨bn, an, ln, cn, rfl, hn, hb9⟩
      replace HW := Below.step HW hb9
      replace hm := hm.later hb9
      clear hb9
      refine hK.out _ _ ?_ (fun hHeld => ?_)
      · exact ⟨(Bp.later HW).facts.1, (Bp.later HW).facts.2.1, (Bq.later HW).facts.1, (Bq.later HW).facts.2.1, (Bg.later HW).facts.1, (Bg.later HW).facts.2.1, (Bx.later HW).facts.1, (Bx.later HW).facts.2.1, (By.later HW).facts.1, (By.later HW).facts.2.1⟩
      clear hK K
      try simp only [Act.put, List.getElem_toArray, List.getElem_cons_succ, List.getElem_cons_zero, List.setIfInBounds_toArray, List.set_cons_zero, List.set_cons_succ]
      refine till_in (i := 6) (by kernel_rfl) rfl (fun K hK => ?_)
      go_simp
      refine (addK bm am lm cm (z0 * z2 * ex) ((kx + kx) + (max (kx + kx) (kx + kx) + 1)) bn an ln cn (z1 * z2 * ey) ((kx + kx) + (max (kx + kx) (kx + kx) + 1)) _ (hm.ik (by omega)) (hn.ik (by omega))).mono ?_
      rintro e v105 ⟨bs, as', ls, cs, rfl, hs, hb9⟩
      replace HW := Below.step HW hb9
      replace hm := hm.later hb9
      replace hn := hn.later hb9
      clear hb9 hm hn
      refine hK.out _ _ ?_ (fun hHeld => ?_)
      · exact ⟨(Bp.later HW).facts.1, (Bp.later HW).facts.2.1, (Bq.later HW).facts.1, (Bq.later HW).facts.2.1, (Bg.later HW).facts.1, (Bg.later HW).facts.2.1, (Bx.later HW).facts.1, (Bx.later HW).facts.2.1, (By.later HW).facts.1, (By.later HW).facts.2.1⟩
      clear hK K
      try simp only [Act.put, List.getElem_toArray, List.getElem_cons_succ, List.getElem_cons_zero, List.setIfInBounds_toArray, List.set_cons_zero, List.set_cons_succ]
      refine till_in (i := 8) (by kernel_rfl) rfl (fun K hK => ?_)
      go_simp
      refine (sameK bs as' ls cs (z0 * z2 * ex + z1 * z2 * ey) (max ((kx + kx) + (max (kx + kx) (kx + kx) + 1)) ((kx + kx) + (max (kx + kx) (kx + kx) + 1)) + 1) bg ag lg cg gg (max (kx + kx) (kx + kx) + 1) true _ (hs.ik (by omega)) ((hg.later HW).ik (by omega)) (unhide D0)).mono ?_
      rintro e v106 ⟨rfl, hb9⟩
      replace HW := Below.step HW hb9
      replace hs := hs.later hb9
      clear hb9 hs
      refine hK.out _ _ ?_ (fun hHeld => ?_)
      · exact ⟨(Bp.later HW).facts.1, (Bp.later HW).facts.2.1, (Bq.later HW).facts.1, (Bq.later HW).facts.2.1, (Bg.later HW).facts.1, (Bg.later HW).facts.2.1, (Bx.later HW).facts.1, (Bx.later HW).facts.2.1, (By.later HW).facts.1, (By.later HW).facts.2.1⟩
      clear hK K
      try simp only [Act.put, List.getElem_toArray, List.getElem_cons_succ, List.getElem_cons_zero, List.setIfInBounds_toArray, List.set_cons_zero, List.set_cons_succ]
      refine till_take (i := 9) (v := ?_) [10, 11, 12, 13, 14, 15, 16, 17, 18, 19, 20, 21, 22] rfl (by kernel_rfl) (by kernel_rfl) (by kernel_rfl) (by kernel_rfl) (fun _ _ _ h => h) (Or.inl ⟨by rfl, ?_⟩) (by assumption) ?_
      rotate_left
      · (intro w hSw; (try dsimp only at hSw); go_simp; try with_reducible rfl)
      simp only [Act.put, List.getElem_toArray, List.getElem_cons_succ, List.getElem_cons_zero, List.setIfInBounds_toArray, List.set_cons_zero, List.set_cons_succ]
      refine till_take (i := 10) (v := ?_) [11, 12, 13, 14, 15, 16, 17, 18, 19, 20, 21, 22] rfl (by kernel_rfl) (by kernel_rfl) (by kernel_rfl) (by kernel_rfl) (fun _ _ _ h => h) (Or.inl ⟨by rfl, ?_⟩) (by assumption) ?_
      rotate_left
      · (intro w hSw; (try dsimp only at hSw); go_simp; try with_reducible rfl)
      simp only [Act.put, List.getElem_toArray, List.getElem_cons_succ, List.getElem_cons_zero, List.setIfInBounds_toArray, List.set_cons_zero, List.set_cons_succ]
      refine till_take (i := 11) (v := ?_) [12, 13, 14, 15, 16, 17, 18, 19, 20, 21, 22] rfl (by kernel_rfl) (by kernel_rfl) (by kernel_rfl) (by kernel_rfl) (fun _ _ _ h => h) (Or.inl ⟨by rfl, ?_⟩) (by assumption) ?_
      rotate_left
      · (intro w hSw; (try dsimp only at hSw); go_simp; try with_reducible rfl)
      simp only [Act.put, List.getElem_toArray, List.getElem_cons_succ, List.getElem_cons_zero, List.setIfInBounds_toArray, List.set_cons_zero, List.set_cons_succ]
      refine till_in (i := 12) (by kernel_rfl) rfl (fun K hK => ?_)
      go_simp
      refine (signK bg ag lg cg gg (max (kx + kx) (kx + kx) + 1) sg _ ((hg.later HW).ik (by omega)) (unhide ES)).mono ?_
      rintro e v107 ⟨rfl, hb9⟩
      replace HW := Below.step HW hb9
      clear hb9
      refine hK.out _ _ ?_ (fun hHeld => ?_)
      · exact ⟨(Bp.later HW).facts.1, (Bp.later HW).facts.2.1, (Bq.later HW).facts.1, (Bq.later HW).facts.2.1, (Bg.later HW).facts.1, (Bg.later HW).facts.2.1, (Bx.later HW).facts.1, (Bx.later HW).facts.2.1, (By.later HW).facts.1, (By.later HW).facts.2.1⟩
      clear hK K
      try simp only [Act.put, List.getElem_toArray, List.getElem_cons_succ, List.getElem_cons_zero, List.setIfInBounds_toArray, List.set_cons_zero, List.set_cons_succ]
      refine till_take (i := 13) (v := ?_) [14, 15, 16, 17, 18, 19, 20, 21, 22] rfl (by kernel_rfl) (by kernel_rfl) (by kernel_rfl) (by kernel_rfl) (fun _ _ _ h => h) (Or.inl ⟨by rfl, ?_⟩) (by assumption) ?_
      rotate_left
      · (intro w hSw; (try dsimp only at hSw); go_simp; try with_reducible rfl)
      simp only [Act.put, List.getElem_toArray, List.getElem_cons_succ, List.getElem_cons_zero, List.setIfInBounds_toArray, List.set_cons_zero, List.set_cons_succ]
      refine till_take (i := 14) (v := ?_) [15, 16, 17, 18, 19, 20, 21, 22] rfl (by kernel_rfl) (by kernel_rfl) (by kernel_rfl) (by kernel_rfl) (fun _ _ _ h => h) (Or.inl ⟨by rfl, ?_⟩) (by assumption) ?_
      rotate_left
      · (intro w hSw; (try dsimp only at hSw); go_simp; try with_reducible rfl)
      simp only [Act.put, List.getElem_toArray, List.getElem_cons_succ, List.getElem_cons_zero, List.setIfInBounds_toArray, List.set_cons_zero, List.set_cons_succ]
      refine till_take (i := 15) (v := ?_) [16, 17, 18, 19, 20, 21, 22] rfl (by kernel_rfl) (by kernel_rfl) (by kernel_rfl) (by kernel_rfl) (fun _ _ _ h => h) (Or.inl ⟨by rfl, ?_⟩) (by assumption) ?_
      rotate_left
      · (intro w hSw; (try dsimp only at hSw); go_simp; try with_reducible rfl)
      simp only [Act.put, List.getElem_toArray, List.getElem_cons_succ, List.getElem_cons_zero, List.setIfInBounds_toArray, List.set_cons_zero, List.set_cons_succ]
      refine till_take (i := 16) (v := ?_) [20, 21, 22] rfl (by kernel_rfl) (by kernel_rfl) (by kernel_rfl) (by kernel_rfl) (fun _ _ _ h => h) (Or.inl ⟨by rfl, ?_⟩) (by assumption) ?_
      rotate_left
      · (intro w hSw; (try dsimp only at hSw); go_simp; try with_reducible rfl)
      simp only [Act.put, List.getElem_toArray, List.getElem_cons_succ, List.getElem_cons_zero, List.setIfInBounds_toArray, List.set_cons_zero, List.set_cons_succ]
      refine till_take (i := 17) (v := ?_) [19, 20, 21, 22] rfl (by kernel_rfl) (by kernel_rfl) (by kernel_rfl) (by kernel_rfl) (fun _ _ _ h => h) (Or.inl ⟨by rfl, ?_⟩) (by assumption) ?_
      rotate_left
      · (intro w hSw; (try dsimp only at hSw); go_simp; try with_reducible rfl)
      simp only [Act.put, List.getElem_toArray, List.getElem_cons_succ, List.getElem_cons_zero, List.setIfInBounds_toArray, List.set_cons_zero, List.set_cons_succ]
      refine till_take (i := 18) (v := ?_) [19, 20, 21, 22] rfl (by kernel_rfl) (by kernel_rfl) (by kernel_rfl) (by kernel_rfl) (fun _ _ _ h => h) (Or.inl ⟨by rfl, ?_⟩) (by assumption) ?_
      rotate_left
      · (intro w hSw; (try dsimp only at hSw); go_simp; try with_reducible rfl)
      simp only [Act.put, List.getElem_toArray, List.getElem_cons_succ, List.getElem_cons_zero, List.setIfInBounds_toArray, List.set_cons_zero, List.set_cons_succ]
      refine till_in (i := 19) (by kernel_rfl) rfl (fun K hK => ?_)
      go_simp
      refine (gcdK bp ap lp cp (z0 * z2) (kx + kx) bq aq lq cq (z1 * z2) (kx + kx) _ ((hp.later HW).ik (by omega)) ((hq.later HW).ik (by omega)) (by omega) (by omega)).mono ?_
      rintro e v108 ⟨bc, ac, lc, cc, rfl, hc, hb9⟩
      replace HW := Below.step HW hb9
      clear hb9
      refine hK.out _ _ ?_ (fun hHeld => ?_)
      · exact ⟨(Bp.later HW).facts.1, (Bp.later HW).facts.2.1, (Bq.later HW).facts.1, (Bq.later HW).facts.2.1, (Bg.later HW).facts.1, (Bg.later HW).facts.2.1, (Bx.later HW).facts.1, (Bx.later HW).facts.2.1, (By.later HW).facts.1, (By.later HW).facts.2.1⟩
      clear hK K
      try simp only [Act.put, List.getElem_toArray, List.getElem_cons_succ, List.getElem_cons_zero, List.setIfInBounds_toArray, List.set_cons_zero, List.set_cons_succ]
      refine till_in (i := 20) (by kernel_rfl) rfl (fun K hK => ?_)
      go_simp
      refine (rsameK bg ag lg cg gg (max (kx + kx) (kx + kx) + 1) bc ac lc cc (Int.gcd (z0 * z2) (z1 * z2) : Int) (max (kx + kx) (kx + kx)) _ (hg.later HW) hc (unhide EGG)).mono ?_
      rintro e v109 ⟨rfl, hb9⟩
      replace HW := Below.step HW hb9
      replace hc := hc.later hb9
      clear hb9 hc
      refine hK.out _ _ ?_ (fun hHeld => ?_)
      · exact ⟨(Bp.later HW).facts.1, (Bp.later HW).facts.2.1, (Bq.later HW).facts.1, (Bq.later HW).facts.2.1, (Bg.later HW).facts.1, (Bg.later HW).facts.2.1, (Bx.later HW).facts.1, (Bx.later HW).facts.2.1, (By.later HW).facts.1, (By.later HW).facts.2.1⟩
      clear hK K
      try simp only [Act.put, List.getElem_toArray, List.getElem_cons_succ, List.getElem_cons_zero, List.setIfInBounds_toArray, List.set_cons_zero, List.set_cons_succ]
      refine till_take (i := 21) (v := ?_) [22] rfl (by kernel_rfl) (by kernel_rfl) (by kernel_rfl) (by kernel_rfl) (fun _ _ _ h => h) (Or.inl ⟨by rfl, ?_⟩) (by assumption) ?_
      rotate_left
      · (intro w hSw; (try dsimp only at hSw); go_simp; try with_reducible rfl)
      simp only [Act.put, List.getElem_toArray, List.getElem_cons_succ, List.getElem_cons_zero, List.setIfInBounds_toArray, List.set_cons_zero, List.set_cons_succ]
      refine till_out (i := 22) (by kernel_rfl) rfl (by kernel_rfl) (fun K hK => ?_)
      go_simp
      refine hK.out _ _ ?_
      clear hK K
      try simp only [Act.put, List.getElem_toArray, List.getElem_cons_succ, List.getElem_cons_zero, List.setIfInBounds_toArray, List.set_cons_zero, List.set_cons_succ]
      refine till_done (by kernel_rfl) ?_ _
      replace P0 := P0.later HW
      replace P1 := P1.later HW
      replace P2 := P2.later HW
      replace h0 := h0.later HW
      replace h1 := h1.later HW
      replace h2 := h2.later HW
      replace Bp := Bp.later HW
      replace hp := hp.later HW
      replace Bq := Bq.later HW
      replace hq := hq.later HW
      replace hg := hg.later HW
      replace hu := hu.later HW
      replace hv := hv.later HW
      replace Bg := Bg.later HW
      replace Bx := Bx.later HW
      replace By := By.later HW
      replace HB := hide (Below.step (unhide HB) HW)
      clear HW
      clear hu hv Bx By
      go_wp2_with fail
      have HW : Below v109.heap.size v109 v109.drew := (Below.refl _ _).drew
      refine till_start (fun w' => w'.cell? ⟨w.heap.size, 0, none⟩ = some (.bool b0) ∧ w'.cell? ⟨w.heap.size, 1, none⟩ = some (.slice a0 len0 cap0) ∧ w'.cell? ⟨w.heap.size + 1, 0, none⟩ = some (.bool b1) ∧ w'.cell? ⟨w.heap.size + 1, 1, none⟩ = some (.slice a1 len1 cap1) ∧ w'.cell? ⟨w.heap.size + 2, 0, none⟩ = some (.bool b2) ∧ w'.cell? ⟨w.heap.size + 2, 1, none⟩ = some (.slice a2 len2 cap2) ∧ w'.cell? ⟨g7, 0, none⟩ = some (.bool bp) ∧ w'.cell? ⟨g7, 1, none⟩ = some (.slice ap lp cp) ∧ w'.cell? ⟨g8, 0, none⟩ = some (.bool bq) ∧ w'.cell? ⟨g8, 1, none⟩ = some (.slice aq lq cq) ∧ w'.cell? ⟨v101.heap.size, 0, none⟩ = some (.bool bg) ∧ w'.cell? ⟨v101.heap.size, 1, none⟩ = some (.slice ag lg cg)) 26 (by kernel_rfl) ?_ (fun hHeld => ?_)
      · exact ⟨(P0.later HW).facts.1, (P0.later HW).facts.2.1, (P1.later HW).facts.1, (P1.later HW).facts.2.1, (P2.later HW).facts.1, (P2.later HW).facts.2.1, (Bp.later HW).facts.1, (Bp.later HW).facts.2.1, (Bq.later HW).facts.1, (Bq.later HW).facts.2.1, (Bg.later HW).facts.1, (Bg.later HW).facts.2.1⟩
      refine till_take (i := 0) (v := ?_) [2, 3, 4, 5, 6, 7, 8, 9, 10, 11, 12, 13, 14, 15, 16, 17, 18, 19, 20, 21, 22, 23, 24, 25, 26] rfl (by kernel_rfl) (by kernel_rfl) (by kernel_rfl) (by kernel_rfl) (fun _ _ _ h => h) (Or.inl ⟨by rfl, ?_⟩) (by assumption) ?_
      rotate_left
      · (intro w hSw; (try dsimp only at hSw); go_simp; try with_reducible rfl)
      simp only [Act.put, List.getElem_toArray, List.getElem_cons_zero, List.setIfInBounds_toArray, List.set_cons_zero, List.set_cons_succ]
      refine till_take (i := 1) (v := ?_) [2, 3, 4, 5, 6, 7, 8, 9, 10, 11, 12, 13, 14, 15, 16, 17, 18, 19, 20, 21, 22, 23, 24, 25, 26] rfl (by kernel_rfl) (by kernel_rfl) (by kernel_rfl) (by kernel_rfl) (fun _ _ _ h => h) (Or.inl ⟨by rfl, ?_⟩) (by assumption) ?_
      rotate_left
      · (intro w hSw; (try dsimp only at hSw); go_simp; try with_reducible rfl)
      simp only [Act.put, List.getElem_toArray, List.getElem_cons_succ, List.getElem_cons_zero, List.setIfInBounds_toArray, List.set_cons_zero, List.set_cons_succ]
      refine till_in (i := 2) (by kernel_rfl) rfl (fun K hK => ?_)
      go_simp
      refine (dividesK bg ag lg cg gg (max (kx + kx) (kx + kx) + 1) bp ap lp cp (z0 * z2) (kx + kx) true _ ((hg.later HW).ik (by omega)) ((hp.later HW).ik (by omega)) (unhide D1)).mono ?_
      rintro e v110 ⟨rfl, hb9⟩
      replace HW := Below.step HW hb9
      clear hb9
      refine hK.out _ _ ?_ (fun hHeld => ?_)
      · exact ⟨(P0.later HW).facts.1, (P0.later HW).facts.2.1, (P1.later HW).facts.1, (P1.later HW).facts.2.1, (P2.later HW).facts.1, (P2.later HW).facts.2.1, (Bp.later HW).facts.1, (Bp.later HW).facts.2.1, (Bq.later HW).facts.1, (Bq.later HW).facts.2.1, (Bg.later HW).facts.1, (Bg.later HW).facts.2.1⟩
      clear hK K
      try simp only [Act.put, List.getElem_toArray, List.getElem_cons_succ, List.getElem_cons_zero, List.setIfInBounds_toArray, List.set_cons_zero, List.set_cons_succ]
      refine till_take (i := 3) (v := ?_) [4, 5, 6, 7, 8, 9, 10, 11, 12, 13, 14, 15, 16, 17, 18, 19, 20, 21, 22, 23, 24, 25, 26] rfl (by kernel_rfl) (by kernel_rfl) (by kernel_rfl) (by kernel_rfl) (fun _ _ _ h => h) (Or.inl ⟨by rfl, ?_⟩) (by assumption) ?_
      rotate_left
      · (intro w hSw; (try dsimp only at hSw); go_simp; try with_reducible rfl)
      simp only [Act.put, List.getElem_toArray, List.getElem_cons_succ, List.getElem_cons_zero, List.setIfInBounds_toArray, List.set_cons_zero, List.set_cons_succ]
      refine till_take (i := 4) (v := ?_) [6, 7, 8, 9, 10, 11, 12, 13, 14, 15, 16, 17, 18, 19, 20, 21, 22, 23, 24, 25, 26] rfl (by kernel_rfl) (by kernel_rfl) (by kernel_rfl) (by kernel_rfl) (fun _ _ _ h => h) (Or.inl ⟨by rfl, ?_⟩) (by assumption) ?_
      rotate_left
      · (intro w hSw; (try dsimp only at hSw); go_simp; try with_reducible rfl)
      simp only [Act.put, List.getElem_toArray, List.getElem_cons_succ, List.getElem_cons_zero, List.setIfInBounds_toArray, List.set_cons_zero, List.set_cons_succ]
      refine till_take (i := 5) (v := ?_) [6, 7, 8, 9, 10, 11, 12, 13, 14, 15, 16, 17, 18, 19, 20, 21, 22, 23, 24, 25, 26] rfl (by kernel_rfl) (by kernel_rfl) (by kernel_rfl) (by kernel_rfl) (fun _ _ _ h => h) (Or.inl ⟨by rfl, ?_⟩) (by assumption) ?_
      rotate_left
      · (intro w hSw; (try dsimp only at hSw); go_simp; try with_reducible rfl)
      simp only [Act.put, List.getElem_toArray, List.getElem_cons_succ, List.getElem_cons_zero, List.setIfInBounds_toArray, List.set_cons_zero, List.set_cons_succ]
      refine till_in (i := 6) (by kernel_rfl) rfl (fun K hK => ?_)
      go_simp
      refine (dividesK bg ag lg cg gg (max (kx + kx) (kx + kx) + 1) bq aq lq cq (z1 * z2) (kx + kx) true _ ((hg.later HW).ik (by omega)) ((hq.later HW).ik (by omega)) (unhide D2)).mono ?_
      rintro e v111 ⟨rfl, hb9⟩
      replace HW := Below.step HW hb9
      clear hb9
      refine hK.out _ _ ?_ (fun hHeld => ?_)
      · exact ⟨(P0.later HW).facts.1, (P0.later HW).facts.2.1, (P1.later HW).facts.1, (P1.later HW).facts.2.1, (P2.later HW).facts.1, (P2.later HW).facts.2.1, (Bp.later HW).facts.1, (Bp.later HW).facts.2.1, (Bq.later HW).facts.1, (Bq.later HW).facts.2.1, (Bg.later HW).facts.1, (Bg.later HW).facts.2.1⟩
      clear hK K
      try simp only [Act.put, List.getElem_toArray, List.getElem_cons_succ, List.getElem_cons_zero, List.setIfInBounds_toArray, List.set_cons_zero, List.set_cons_succ]
      refine till_take (i := 7) (v := ?_) [8, 9, 10, 11, 12, 13, 14, 15, 16, 17, 18, 19, 20, 21, 22, 23, 24, 25, 26] rfl (by kernel_rfl) (by kernel_rfl) (by kernel_rfl) (by kernel_rfl) (fun _ _ _ h => h) (Or.inl ⟨by rfl, ?_⟩) (by assumption) ?_
      rotate_left
      · (intro w hSw; (try dsimp only at hSw); go_simp; try with_reducible rfl)
      simp only [Act.put, List.getElem_toArray, List.getElem_cons_succ, List.getElem_cons_zero, List.setIfInBounds_toArray, List.set_cons_zero, List.set_cons_succ]
      refine till_take (i := 8) (v := ?_) [9, 10, 11, 12, 13, 14, 15, 16, 17, 18, 19, 20, 21, 22, 23, 24, 25, 26] rfl (by kernel_rfl) (by kernel_rfl) (by kernel_rfl) (by kernel_rfl) (fun _ _ _ h => h) (Or.inl ⟨by rfl, ?_⟩) (by assumption) ?_
      rotate_left
      · (intro w hSw; (try dsimp only at hSw); go_simp; try with_reducible rfl)
      simp only [Act.put, List.getElem_toArray, List.getElem_cons_succ, List.getElem_cons_zero, List.setIfInBounds_toArray, List.set_cons_zero, List.set_cons_succ]
      refine till_take (i := 9) (v := ?_) [11, 12, 13, 14, 15, 16, 17, 18, 19, 20, 21, 22, 23, 24, 25, 26] rfl (by kernel_rfl) (by kernel_rfl) (by kernel_rfl) (by kernel_rfl) (fun _ _ _ h => h) (Or.inl ⟨by rfl, ?_⟩) (by assumption) ?_
      rotate_left
      · (intro w hSw; (try dsimp only at hSw); go_simp; try with_reducible rfl)
      simp only [Act.put, List.getElem_toArray, List.getElem_cons_succ, List.getElem_cons_zero, List.setIfInBounds_toArray, List.set_cons_zero, List.set_cons_succ]
      refine till_take (i := 10) (v := ?_) [11, 12, 13, 14, 15, 16, 17, 18, 19, 20, 21, 22, 23, 24, 25, 26] rfl (by kernel_rfl) (by kernel_rfl) (by kernel_rfl) (by kernel_rfl) (fun _ _ _ h => h) (Or.inl ⟨by rfl, ?_⟩) (by assumption) ?_
      rotate_left
      · (intro w hSw; (try dsimp only at hSw); go_simp; try with_reducible rfl)
      simp only [Act.put, List.getElem_toArray, List.getElem_cons_succ, List.getElem_cons_zero, List.setIfInBounds_toArray, List.set_cons_zero, List.set_cons_succ]
      refine till_in (i := 11) (by kernel_rfl) rfl (fun K hK => ?_)
      go_simp
      refine (dividesK b2 a2 len2 cap2 z2 kx bg ag lg cg gg (max (kx + kx) (kx + kx) + 1) true _ (h2.later HW) ((hg.later HW).ik (by omega)) (unhide D3)).mono ?_
      rintro e v112 ⟨rfl, hb9⟩
      replace HW := Below.step HW hb9
      clear hb9
      refine hK.out _ _ ?_ (fun hHeld => ?_)
      · exact ⟨(P0.later HW).facts.1, (P0.later HW).facts.2.1, (P1.later HW).facts.1, (P1.later HW).facts.2.1, (P2.later HW).facts.1, (P2.later HW).facts.2.1, (Bp.later HW).facts.1, (Bp.later HW).facts.2.1, (Bq.later HW).facts.1, (Bq.later HW).facts.2.1, (Bg.later HW).facts.1, (Bg.later HW).facts.2.1⟩
      clear hK K
      try simp only [Act.put, List.getElem_toArray, List.getElem_cons_succ, List.getElem_cons_zero, List.setIfInBounds_toArray, List.set_cons_zero, List.set_cons_succ]
      refine till_take (i := 12) (v := ?_) [13, 14, 15, 16, 17, 18, 19, 20, 21, 22, 23, 24, 25, 26] rfl (by kernel_rfl) (by kernel_rfl) (by kernel_rfl) (by kernel_rfl) (fun _ _ _ h => h) (Or.inl ⟨by rfl, ?_⟩) (by assumption) ?_
      rotate_left
      · (intro w hSw; (try dsimp only at hSw); go_simp; try with_reducible rfl)
      simp only [Act.put, List.getElem_toArray, List.getElem_cons_succ, List.getElem_cons_zero, List.setIfInBounds_toArray, List.set_cons_zero, List.set_cons_succ]
      refine till_take (i := 13) (v := ?_) [14, 15, 16, 17, 18, 19, 20, 21, 22, 23, 24, 25, 26] rfl (by kernel_rfl) (by kernel_rfl) (by kernel_rfl) (by kernel_rfl) (fun _ _ _ h => h) (Or.inl ⟨by rfl, ?_⟩) (by assumption) ?_
      rotate_left
      · (intro w hSw; (try dsimp only at hSw); go_simp; try with_reducible rfl)
      simp only [Act.put, List.getElem_toArray, List.getElem_cons_succ, List.getElem_cons_zero, List.setIfInBounds_toArray, List.set_cons_zero, List.set_cons_succ]
      refine till_take (i := 14) (v := ?_) [16, 18, 19, 21, 22, 23, 24, 25, 26] rfl (by kernel_rfl) (by kernel_rfl) (by kernel_rfl) (by kernel_rfl) (fun _ _ _ h => h) (Or.inl ⟨by rfl, ?_⟩) (by assumption) ?_
      rotate_left
      · (intro w hSw; (try dsimp only at hSw); go_simp; try with_reducible rfl)
      simp only [Act.put, List.getElem_toArray, List.getElem_cons_succ, List.getElem_cons_zero, List.setIfInBounds_toArray, List.set_cons_zero, List.set_cons_succ]
      refine till_take (i := 15) (v := ?_) [16, 18, 19, 21, 22, 23, 24, 25, 26] rfl (by kernel_rfl) (by kernel_rfl) (by kernel_rfl) (by kernel_rfl) (fun _ _ _ h => h) (Or.inl ⟨by rfl, ?_⟩) (by assumption) ?_
      rotate_left
      · (intro w hSw; (try dsimp only at hSw); go_simp; try with_reducible rfl)
      simp only [Act.put, List.getElem_toArray, List.getElem_cons_succ, List.getElem_cons_zero, List.setIfInBounds_toArray, List.set_cons_zero, List.set_cons_succ]
      refine till_take (i := 17) (v := ?_) [18, 19, 21, 22, 23, 24, 25, 26] rfl (by kernel_rfl) (by kernel_rfl) (by kernel_rfl) (by kernel_rfl) (fun _ _ _ h => h) (Or.inl ⟨by rfl, ?_⟩) (by assumption) ?_
      rotate_left
      · (intro w hSw; (try dsimp only at hSw); go_simp; try with_reducible rfl)
      simp only [Act.put, List.getElem_toArray, List.getElem_cons_succ, List.getElem_cons_zero, List.setIfInBounds_toArray, List.set_cons_zero, List.set_cons_succ]
      refine till_take (i := 20) (v := ?_) [21, 22, 23, 24, 25, 26] rfl (by kernel_rfl) (by kernel_rfl) (by kernel_rfl) (by kernel_rfl) (fun _ _ _ h => h) (Or.inl ⟨by rfl, ?_⟩) (by assumption) ?_
      rotate_left
      · (intro w hSw; (try dsimp only at hSw); go_simp; try with_reducible rfl)
      simp only [Act.put, List.getElem_toArray, List.getElem_cons_succ, List.getElem_cons_zero, List.setIfInBounds_toArray, List.set_cons_zero, List.set_cons_succ]
      refine till_in (i := 16) (by kernel_rfl) rfl (fun K hK => ?_)
      go_simp
      refine (gcdK b0 a0 len0 cap0 z0 kx b1 a1 len1 cap1 z1 kx _ (h0.later HW) (h1.later HW) (by omega) (by omega)).mono ?_
      rintro e v113 ⟨be, ae, le, ce, rfl, he, hb9⟩
      replace HW := Below.step HW hb9
      clear hb9
      refine hK.out _ _ ?_ (fun hHeld => ?_)
      · exact ⟨(P0.later HW).facts.1, (P0.later HW).facts.2.1, (P1.later HW).facts.1, (P1.later HW).facts.2.1, (P2.later HW).facts.1, (P2.later HW).facts.2.1, (Bp.later HW).facts.1, (Bp.later HW).facts.2.1, (Bq.later HW).facts.1, (Bq.later HW).facts.2.1, (Bg.later HW).facts.1, (Bg.later HW).facts.2.1⟩
      clear hK K
      try simp only [Act.put, List.getElem_toArray, List.getElem_cons_succ, List.getElem_cons_zero, List.setIfInBounds_toArray, List.set_cons_zero, List.set_cons_succ]
      refine till_in (i := 18) (by kernel_rfl) rfl (fun K hK => ?_)
      go_simp
      refine (absK b2 a2 len2 cap2 z2 kx _ (h2.later HW)).mono ?_
      rintro e v114 ⟨bf, af, lf, cf, rfl, hf, hb9⟩
      replace HW := Below.step HW hb9
      replace he := he.later hb9
      clear hb9
      refine hK.out _ _ ?_ (fun hHeld => ?_)
      · exact ⟨(P0.later HW).facts.1, (P0.later HW).facts.2.1, (P1.later HW).facts.1, (P1.later HW).facts.2.1, (P2.later HW).facts.1, (P2.later HW).facts.2.1, (Bp.later HW).facts.1, (Bp.later HW).facts.2.1, (Bq.later HW).facts.1, (Bq.later HW).facts.2.1, (Bg.later HW).facts.1, (Bg.later HW).facts.2.1⟩
      clear hK K
      try simp only [Act.put, List.getElem_toArray, List.getElem_cons_succ, List.getElem_cons_zero, List.setIfInBounds_toArray, List.set_cons_zero, List.set_cons_succ]
      refine till_in (i := 19) (by kernel_rfl) rfl (fun K hK => ?_)
      go_simp
      refine (mulK be ae le ce (Int.gcd z0 z1 : Int) (max kx kx) bf af lf cf (z2.natAbs : Int) kx _ (he.ik (by omega)) (hf.ik (by omega))).mono ?_
      rintro e v115 ⟨bk, ak, lk, ck, rfl, hk, hb9⟩
      replace HW := Below.step HW hb9
      replace he := he.later hb9
      replace hf := hf.later hb9
      clear hb9 he hf
      refine hK.out _ _ ?_ (fun hHeld => ?_)
      · exact ⟨(P0.later HW).facts.1, (P0.later HW).facts.2.1, (P1.later HW).facts.1, (P1.later HW).facts.2.1, (P2.later HW).facts.1, (P2.later HW).facts.2.1, (Bp.later HW).facts.1, (Bp.later HW).facts.2.1, (Bq.later HW).facts.1, (Bq.later HW).facts.2.1, (Bg.later HW).facts.1, (Bg.later HW).facts.2.1⟩
      clear hK K
      try simp only [Act.put, List.getElem_toArray, List.getElem_cons_succ, List.getElem_cons_zero, List.setIfInBounds_toArray, List.set_cons_zero, List.set_cons_succ]
      refine till_in (i := 21) (by kernel_rfl) rfl (fun K hK => ?_)
      go_simp
      refine (sameK bk ak lk ck ((Int.gcd z0 z1 : Int) * (z2.natAbs : Int)) (max kx kx + kx) bg ag lg cg gg (max (kx + kx) (kx + kx) + 1) true _ (hk.ik (by omega)) ((hg.later HW).ik (by omega)) (unhide D4)).mono ?_
      rintro e v116 ⟨rfl, hb9⟩
      replace HW := Below.step HW hb9
      replace hk := hk.later hb9
      clear hb9 hk
      refine hK.out _ _ ?_ (fun hHeld => ?_)
      · exact ⟨(P0.later HW).facts.1, (P0.later HW).facts.2.1, (P1.later HW).facts.1, (P1.later HW).facts.2.1, (P2.later HW).facts.1, (P2.later HW).facts.2.1, (Bp.later HW).facts.1, (Bp.later HW).facts.2.1, (Bq.later HW).facts.1, (Bq.later HW).facts.2.1, (Bg.later HW).facts.1, (Bg.later HW).facts.2.1⟩
      clear hK K
      try simp only [Act.put, List.getElem_toArray, List.getElem_cons_succ, List.getElem_cons_zero, List.setIfInBounds_toArray, List.set_cons_zero, List.set_cons_succ]
      refine till_take (i := 22) (v := ?_) [23, 24, 25, 26] rfl (by kernel_rfl) (by kernel_rfl) (by kernel_rfl) (by kernel_rfl) (fun _ _ _ h => h) (Or.inl ⟨by rfl, ?_⟩) (by assumption) ?_
      rotate_left
      · (intro w hSw; (try dsimp only at hSw); go_simp; try with_reducible rfl)
      simp only [Act.put, List.getElem_toArray, List.getElem_cons_succ, List.getElem_cons_zero, List.setIfInBounds_toArray, List.set_cons_zero, List.set_cons_succ]
      refine till_take (i := 23) (v := ?_) [24, 25, 26] rfl (by kernel_rfl) (by kernel_rfl) (by kernel_rfl) (by kernel_rfl) (fun _ _ _ h => h) (Or.inl ⟨by rfl, ?_⟩) (by assumption) ?_
      rotate_left
      · (intro w hSw; (try dsimp only at hSw); go_simp; try with_reducible rfl)
      simp only [Act.put, List.getElem_toArray, List.getElem_cons_succ, List.getElem_cons_zero, List.setIfInBounds_toArray, List.set_cons_zero, List.set_cons_succ]
      refine till_in (i := 24) (by kernel_rfl) rfl (fun K hK => ?_)
      go_simp
      refine (awake6_any _).mono ?_
      rintro e v117 ⟨rfl, hb9⟩
      replace HW := Below.step HW hb9
      clear hb9
      refine hK.out _ _ ?_ (fun hHeld => ?_)
      · exact ⟨(P0.later HW).facts.1, (P0.later HW).facts.2.1, (P1.later HW).facts.1, (P1.later HW).facts.2.1, (P2.later HW).facts.1, (P2.later HW).facts.2.1, (Bp.later HW).facts.1, (Bp.later HW).facts.2.1, (Bq.later HW).facts.1, (Bq.later HW).facts.2.1, (Bg.later HW).facts.1, (Bg.later HW).facts.2.1⟩
      clear hK K
      try simp only [Act.put, List.getElem_toArray, List.getElem_cons_succ, List.getElem_cons_zero, List.setIfInBounds_toArray, List.set_cons_zero, List.set_cons_succ]
      refine till_take (i := 25) (v := ?_) [26] rfl (by kernel_rfl) (by kernel_rfl) (by kernel_rfl) (by kernel_rfl) (fun _ _ _ h => h) (Or.inl ⟨by rfl, ?_⟩) (by assumption) ?_
      rotate_left
      · (intro w hSw; (try dsimp only at hSw); go_simp; try with_reducible rfl)
      simp only [Act.put, List.getElem_toArray, List.getElem_cons_succ, List.getElem_cons_zero, List.setIfInBounds_toArray, List.set_cons_zero, List.set_cons_succ]
      refine till_out (i := 26) (by kernel_rfl) rfl (by kernel_rfl) (fun K hK => ?_)
      go_simp
      refine hK.out _ _ ?_
      clear hK K
      try simp only [Act.put, List.getElem_toArray, List.getElem_cons_succ, List.getElem_cons_zero, List.setIfInBounds_toArray, List.set_cons_zero, List.set_cons_succ]
      refine till_done (by kernel_rfl) ?_ _
      go_wp2
      go_ret
      exact ⟨rfl, Below.step (unhide HB) HW⟩
    refine till_mid 3 #[true, true, true, true, true, false, true, true, false, false] (ι := Bool × Option Addr × Nat × Nat × Nat × Nat) (fun (bp, ap, lp, cp, g7, g8) => (((act0.put (some 26) (.agg #[.bool bp, .slice ap lp cp])).put (some 7) ((.pointer (some ⟨g7, 0, none⟩)))).put (some 8) ((.pointer (some ⟨g8, 0, none⟩))))) (fun (bp, ap, lp, cp, g7, g8) w => Below v1.heap.size v1 w ∧ FK w bp ap lp cp (z0 * z2) (kx + kx) ∧ Box w g7 false none 0 0 ∧ v1.heap.size ≤ g7 ∧ Box w g8 false none 0 0 ∧ v1.heap.size ≤ g8 ∧ g7 ≠ g8) ?_ (fun J1 => ?_)
    · rintro ⟨bp, ap, lp, cp, g7, g8⟩ wj hI
      try dsimp only at hI ⊢
      obtain ⟨HW, hp, B7, hg7, B8, hg8, hneg7g8⟩ := hI
      have hHeld : wj.cell? ⟨w.heap.size, 0, none⟩ = some (.bool b0) ∧ wj.cell? ⟨w.heap.size, 1, none⟩ = some (.slice a0 len0 cap0) ∧ wj.cell? ⟨w.heap.size + 1, 0, none⟩ = some (.bool b1) ∧ wj.cell? ⟨w.heap.size + 1, 1, none⟩ = some (.slice a1 len1 cap1) ∧ wj.cell? ⟨w.heap.size + 2, 0, none⟩ = some (.bool b2) ∧ wj.cell? ⟨w.heap.size + 2, 1, none⟩ = some (.slice a2 len2 cap2) := by exact ⟨(P0.later HW).facts.1, (P0.later HW).facts.2.1, (P1.later HW).facts.1, (P1.later HW).facts.2.1, (P2.later HW).facts.1, (P2.later HW).facts.2.1⟩
      rw [unhide HA]
      simp only [Act.put, List.setIfInBounds_toArray, List.set_cons_zero, List.set_cons_succ]
      refine till_in (i := 5) (by kernel_rfl) rfl (fun K hK => ?_)
      go_simp
      refine (mulK b1 a1 len1 cap1 z1 kx b2 a2 len2 cap2 z2 kx _ (h1.later HW) (h2.later HW)).mono ?_
      rintro e wk ⟨bq, aq, lq, cq, rfl, hq, hb9⟩
      replace HW := Below.step HW hb9
      replace hp := hp.later hb9
      replace B7 := B7.later hb9
      replace B8 := B8.later hb9
      clear hb9
      refine hK.out _ _ ?_ (fun hHeld => ?_)
      · exact ⟨(P0.later HW).facts.1, (P0.later HW).facts.2.1, (P1.later HW).facts.1, (P1.later HW).facts.2.1, (P2.later HW).facts.1, (P2.later HW).facts.2.1⟩
      clear hK K
      try simp only [List.setIfInBounds_toArray, List.set_cons_zero, List.set_cons_succ]
      exact till_go J0 (bp, ap, lp, cp, bq, aq, lq, cq, g7, g8) rfl (by kernel_rfl) (by (try dsimp only); rw [unhide HA]; simp only [Act.put, List.setIfInBounds_toArray, List.set_cons_zero, List.set_cons_succ]) (by (try dsimp only); exact ⟨HW, hp, hq, B7, hg7, B8, hg8, hneg7g8⟩)
    refine till_mid 3 #[true, true, true, true, true, true, false, true, false, false] (ι := Bool × Option Addr × Nat × Nat × Bool × Option Addr × Nat × Nat × Nat) (fun (bp, ap, lp, cp, bq, aq, lq, cq, g8) => (((act0.put (some 26) (.agg #[.bool bp, .slice ap lp cp])).put (some 29) (.agg #[.bool bq, .slice aq lq cq])).put (some 8) ((.pointer (some ⟨g8, 0, none⟩))))) (fun (bp, ap, lp, cp, bq, aq, lq, cq, g8) w => Below v1.heap.size v1 w ∧ FK w bp ap lp cp (z0 * z2) (kx + kx) ∧ FK w bq aq lq cq (z1 * z2) (kx + kx) ∧ Box w g8 false none 0 0 ∧ v1.heap.size ≤ g8) ?_ (fun J2 => ?_)
    · rintro ⟨bp, ap, lp, cp, bq, aq, lq, cq, g8⟩ wj hI
      try dsimp only at hI ⊢
      obtain ⟨HW, hp, hq, B8, hg8⟩ := hI
      have hHeld : wj.cell? ⟨w.heap.size, 0, none⟩ = some (.bool b0) ∧ wj.cell? ⟨w.heap.size, 1, none⟩ = some (.slice a0 len0 cap0) ∧ wj.cell? ⟨w.heap.size + 1, 0, none⟩ = some (.bool b1) ∧ wj.cell? ⟨w.heap.size + 1, 1, none⟩ = some (.slice a1 len1 cap1) ∧ wj.cell? ⟨w.heap.size + 2, 0, none⟩ = some (.bool b2) ∧ wj.cell? ⟨w.heap.size + 2, 1, none⟩ = some (.slice a2 len2 cap2) := by exact ⟨(P0.later HW).facts.1, (P0.later HW).facts.2.1, (P1.later HW).facts.1, (P1.later HW).facts.2.1, (P2.later HW).facts.1, (P2.later HW).facts.2.1⟩
      rw [unhide HA]
      simp only [Act.put, List.setIfInBounds_toArray, List.set_cons_zero, List.set_cons_succ]
      refine till_in (i := 6) (by kernel_rfl) rfl (fun K hK => ?_)
      go_simp
      have hwk : v1.heap.size ≤ wj.heap.size := HW.size
      have hxg8 := B8.lt
      obtain ⟨wk, hWe⟩ : ∃ W', W' = wj.alloc (.cells #[.bool false, .slice none 0 0] 24) := ⟨_, rfl⟩
      obtain ⟨B7, hb9⟩ := boxes1 wj false none 0 0 hWe
      rw [← hWe]
      clear hWe
      replace HW := Below.step HW hb9
      replace hp := hp.later hb9
      replace hq := hq.later hb9
      replace B8 := B8.later hb9
      clear hb9
      have hg7 := hwk
      have hneg7g8 : wj.heap.size ≠ g8 := by omega
      refine hK.out _ _ ?_ (fun hHeld => ?_)
      · exact ⟨(P0.later HW).facts.1, (P0.later HW).facts.2.1, (P1.later HW).facts.1, (P1.later HW).facts.2.1, (P2.later HW).facts.1, (P2.later HW).facts.2.1⟩
      clear hK K
      try simp only [List.setIfInBounds_toArray, List.set_cons_zero, List.set_cons_succ]
      exact till_go J0 (bp, ap, lp, cp, bq, aq, lq, cq, wj.heap.size, g8) rfl (by kernel_rfl) (by (try dsimp only); rw [unhide HA]; simp only [Act.put, List.setIfInBounds_toArray, List.set_cons_zero, List.set_cons_succ]) (by (try dsimp only); exact ⟨HW, hp, hq, B7, hg7, B8, hg8, hneg7g8⟩)
    refine till_mid 3 #[true, true, true, true, true, true, true, false, false, false] (ι := Bool × Option Addr × Nat × Nat × Bool × Option Addr × Nat × Nat × Nat) (fun (bp, ap, lp, cp, bq, aq, lq, cq, g7) => (((act0.put (some 26) (.agg #[.bool bp, .slice ap lp cp])).put (some 29) (.agg #[.bool bq, .slice aq lq cq])).put (some 7) ((.pointer (some ⟨g7, 0, none⟩))))) (fun (bp, ap, lp, cp, bq, aq, lq, cq, g7) w => Below v1.heap.size v1 w ∧ FK w bp ap lp cp (z0 * z2) (kx + kx) ∧ FK w bq aq lq cq (z1 * z2) (kx + kx) ∧ Box w g7 false none 0 0 ∧ v1.heap.size ≤ g7) ?_ (fun J3 => ?_)
    · rintro ⟨bp, ap, lp, cp, bq, aq, lq, cq, g7⟩ wj hI
      try dsimp only at hI ⊢
      obtain ⟨HW, hp, hq, B7, hg7⟩ := hI
      have hHeld : wj.cell? ⟨w.heap.size, 0, none⟩ = some (.bool b0) ∧ wj.cell? ⟨w.heap.size, 1, none⟩ = some (.slice a0 len0 cap0) ∧ wj.cell? ⟨w.heap.size + 1, 0, none⟩ = some (.bool b1) ∧ wj.cell? ⟨w.heap.size + 1, 1, none⟩ = some (.slice a1 len1 cap1) ∧ wj.cell? ⟨w.heap.size + 2, 0, none⟩ = some (.bool b2) ∧ wj.cell? ⟨w.heap.size + 2, 1, none⟩ = some (.slice a2 len2 cap2) := by exact ⟨(P0.later HW).facts.1, (P0.later HW).facts.2.1, (P1.later HW).facts.1, (P1.later HW).facts.2.1, (P2.later HW).facts.1, (P2.later HW).facts.2.1⟩
      rw [unhide HA]
      simp only [Act.put, List.setIfInBounds_toArray, List.set_cons_zero, List.set_cons_succ]
      refine till_in (i := 7) (by kernel_rfl) rfl (fun K hK => ?_)
      go_simp
      have hwk : v1.heap.size ≤ wj.heap.size := HW.size
      have hxg7 := B7.lt
      obtain ⟨wk, hWe⟩ : ∃ W', W' = wj.alloc (.cells #[.bool false, .slice none 0 0] 24) := ⟨_, rfl⟩
      obtain ⟨B8, hb9⟩ := boxes1 wj false none 0 0 hWe
      rw [← hWe]
      clear hWe
      replace HW := Below.step HW hb9
      replace hp := hp.later hb9
      replace hq := hq.later hb9
      replace B7 := B7.later hb9
      clear hb9
      have hg8 := hwk
      have hneg7g8 : g7 ≠ wj.heap.size := by omega
      refine hK.out _ _ ?_ (fun hHeld => ?_)
      · exact ⟨(P0.later HW).facts.1, (P0.later HW).facts.2.1, (P1.later HW).facts.1, (P1.later HW).facts.2.1, (P2.later HW).facts.1, (P2.later HW).facts.2.1⟩
      clear hK K
      try simp only [List.setIfInBounds_toArray, List.set_cons_zero, List.set_cons_succ]
      exact till_go J0 (bp, ap, lp, cp, bq, aq, lq, cq, g7, wj.heap.size) rfl (by kernel_rfl) (by (try dsimp only); rw [unhide HA]; simp only [Act.put, List.setIfInBounds_toArray, List.set_cons_zero, List.set_cons_succ]) (by (try dsimp only); exact ⟨HW, hp, hq, B7, hg7, B8, hg8, hneg7g8⟩)
    refine till_mid 4 #[true, true, false, true, true, false, true, true, false, false] (ι := Nat × Nat) (fun (g7, g8) => ((act0.put (some 7) ((.pointer (some ⟨g7, 0, none⟩)))).put (some 8) ((.pointer (some ⟨g8, 0, none⟩))))) (fun (g7, g8) w => Below v1.heap.size v1 w ∧ Box w g7 false none 0 0 ∧ v1.heap.size ≤ g7 ∧ Box w g8 false none 0 0 ∧ v1.heap.size ≤ g8 ∧ g7 ≠ g8) ?_ (fun J4 => ?_)
    · rintro ⟨g7, g8⟩ wj hI
      try dsimp only at hI ⊢
      obtain ⟨HW, B7, hg7, B8, hg8, hneg7g8⟩ := hI
      have hHeld : wj.cell? ⟨w.heap.size, 0, none⟩ = some (.bool b0) ∧ wj.cell? ⟨w.heap.size, 1, none⟩ = some (.slice a0 len0 cap0) ∧ wj.cell? ⟨w.heap.size + 1, 0, none⟩ = some (.bool b1) ∧ wj.cell? ⟨w.heap.size + 1, 1, none⟩ = some (.slice a1 len1 cap1) ∧ wj.cell? ⟨w.heap.size + 2, 0, none⟩ = some (.bool b2) ∧ wj.cell? ⟨w.heap.size + 2, 1, none⟩ = some (.slice a2 len2 cap2) := by exact ⟨(P0.later HW).facts.1, (P0.later HW).facts.2.1, (P1.later HW).facts.1, (P1.later HW).facts.2.1, (P2.later HW).facts.1, (P2.later HW).facts.2.1⟩
      rw [unhide HA]
      simp only [Act.put, List.setIfInBounds_toArray, List.set_cons_zero, List.set_cons_succ]
      refine till_in (i := 2) (by kernel_rfl) rfl (fun K hK => ?_)
      go_simp
      refine (mulK b0 a0 len0 cap0 z0 kx b2 a2 len2 cap2 z2 kx _ (h0.later HW) (h2.later HW)).mono ?_
      rintro e wk ⟨bp, ap, lp, cp, rfl, hp, hb9⟩
      replace HW := Below.step HW hb9
      replace B7 := B7.later hb9
      replace B8 := B8.later hb9
      clear hb9
      refine hK.out _ _ ?_ (fun hHeld => ?_)
      · exact ⟨(P0.later HW).facts.1, (P0.later HW).facts.2.1, (P1.later HW).facts.1, (P1.later HW).facts.2.1, (P2.later HW).facts.1, (P2.later HW).facts.2.1⟩
      clear hK K
      try simp only [List.setIfInBounds_toArray, List.set_cons_zero, List.set_cons_succ]
      exact till_go J1 (bp, ap, lp, cp, g7, g8) rfl (by kernel_rfl) (by (try dsimp only); rw [unhide HA]; simp only [Act.put, List.setIfInBounds_toArray, List.set_cons_zero, List.set_cons_succ]) (by (try dsimp only); exact ⟨HW, hp, B7, hg7, B8, hg8, hneg7g8⟩)
    refine till_mid 4 #[true, true, true, true, true, false, false, true, false, false] (ι := Bool × Option Addr × Nat × Nat × Nat) (fun (bp, ap, lp, cp, g8) => ((act0.put (some 26) (.agg #[.bool bp, .slice ap lp cp])).put (some 8) ((.pointer (some ⟨g8, 0, none⟩))))) (fun (bp, ap, lp, cp, g8) w => Below v1.heap.size v1 w ∧ FK w bp ap lp cp (z0 * z2) (kx + kx) ∧ Box w g8 false none 0 0 ∧ v1.heap.size ≤ g8) ?_ (fun J5 => ?_)
    · rintro ⟨bp, ap, lp, cp, g8⟩ wj hI
      try dsimp only at hI ⊢
      obtain ⟨HW, hp, B8, hg8⟩ := hI
      have hHeld : wj.cell? ⟨w.heap.size, 0, none⟩ = some (.bool b0) ∧ wj.cell? ⟨w.heap.size, 1, none⟩ = some (.slice a0 len0 cap0) ∧ wj.cell? ⟨w.heap.size + 1, 0, none⟩ = some (.bool b1) ∧ wj.cell? ⟨w.heap.size + 1, 1, none⟩ = some (.slice a1 len1 cap1) ∧ wj.cell? ⟨w.heap.size + 2, 0, none⟩ = some (.bool b2) ∧ wj.cell? ⟨w.heap.size + 2, 1, none⟩ = some (.slice a2 len2 cap2) := by exact ⟨(P0.later HW).facts.1, (P0.later HW).facts.2.1, (P1.later HW).facts.1, (P1.later HW).facts.2.1, (P2.later HW).facts.1, (P2.later HW).facts.2.1⟩
      rw [unhide HA]
      simp only [Act.put, List.setIfInBounds_toArray, List.set_cons_zero, List.set_cons_succ]
      refine till_two (i := 5) (j := 6) (by kernel_rfl) rfl rfl (fun K hK => ?_) (fun K hK => ?_)
      · go_simp
        refine (mulK b1 a1 len1 cap1 z1 kx b2 a2 len2 cap2 z2 kx _ (h1.later HW) (h2.later HW)).mono ?_
        rintro e wk ⟨bq, aq, lq, cq, rfl, hq, hb9⟩
        replace HW := Below.step HW hb9
        replace hp := hp.later hb9
        replace B8 := B8.later hb9
        clear hb9
        refine hK.out _ _ ?_ (fun hHeld => ?_)
        · exact ⟨(P0.later HW).facts.1, (P0.later HW).facts.2.1, (P1.later HW).facts.1, (P1.later HW).facts.2.1, (P2.later HW).facts.1, (P2.later HW).facts.2.1⟩
        clear hK K
        try simp only [List.setIfInBounds_toArray, List.set_cons_zero, List.set_cons_succ]
        exact till_go J2 (bp, ap, lp, cp, bq, aq, lq, cq, g8) rfl (by kernel_rfl) (by (try dsimp only); rw [unhide HA]; simp only [Act.put, List.setIfInBounds_toArray, List.set_cons_zero, List.set_cons_succ]) (by (try dsimp only); exact ⟨HW, hp, hq, B8, hg8⟩)
      · go_simp
        have hwk : v1.heap.size ≤ wj.heap.size := HW.size
        have hxg8 := B8.lt
        obtain ⟨wk, hWe⟩ : ∃ W', W' = wj.alloc (.cells #[.bool false, .slice none 0 0] 24) := ⟨_, rfl⟩
        obtain ⟨B7, hb9⟩ := boxes1 wj false none 0 0 hWe
        rw [← hWe]
        clear hWe
        replace HW := Below.step HW hb9
        replace hp := hp.later hb9
        replace B8 := B8.later hb9
        clear hb9
        have hg7 := hwk
        have hneg7g8 : wj.heap.size ≠ g8 := by omega
        refine hK.out _ _ ?_ (fun hHeld => ?_)
        · exact ⟨(P0.later HW).facts.1, (P0.later HW).facts.2.1, (P1.later HW).facts.1, (P1.later HW).facts.2.1, (P2.later HW).facts.1, (P2.later HW).facts.2.1⟩
        clear hK K
        try simp only [List.setIfInBounds_toArray, List.set_cons_zero, List.set_cons_succ]
        exact till_go J1 (bp, ap, lp, cp, wj.heap.size, g8) rfl (by kernel_rfl) (by (try dsimp only); rw [unhide HA]; simp only [Act.put, List.setIfInBounds_toArray, List.set_cons_zero, List.set_cons_succ]) (by (try dsimp only); exact ⟨HW, hp, B7, hg7, B8, hg8, hneg7g8⟩)
    refine till_mid 4 #[true, true, true, true, true, false, true, false, false, false] (ι := Bool × Option Addr × Nat × Nat × Nat) (fun (bp, ap, lp, cp, g7) => ((act0.put (some 26) (.agg #[.bool bp, .slice ap lp cp])).put (some 7) ((.pointer (some ⟨g7, 0, none⟩))))) (fun (bp, ap, lp, cp, g7) w => Below v1.heap.size v1 w ∧ FK w bp ap lp cp (z0 * z2) (kx + kx) ∧ Box w g7 false none 0 0 ∧ v1.heap.size ≤ g7) ?_ (fun J6 => ?_)
    · rintro ⟨bp, ap, lp, cp, g7⟩ wj hI
      try dsimp only at hI ⊢
      obtain ⟨HW, hp, B7, hg7⟩ := hI
      have hHeld : wj.cell? ⟨w.heap.size, 0, none⟩ = some (.bool b0) ∧ wj.cell? ⟨w.heap.size, 1, none⟩ = some (.slice a0 len0 cap0) ∧ wj.cell? ⟨w.heap.size + 1, 0, none⟩ = some (.bool b1) ∧ wj.cell? ⟨w.heap.size + 1, 1, none⟩ = some (.slice a1 len1 cap1) ∧ wj.cell? ⟨w.heap.size + 2, 0, none⟩ = some (.bool b2) ∧ wj.cell? ⟨w.heap.size + 2, 1, none⟩ = some (.slice a2 len2 cap2) := by exact ⟨(P0.later HW).facts.1, (P0.later HW).facts.2.1, (P1.later HW).facts.1, (P1.later HW).facts.2.1, (P2.later HW).facts.1, (P2.later HW).facts.2.1⟩
      rw [unhide HA]
      simp only [Act.put, List.setIfInBounds_toArray, List.set_cons_zero, List.set_cons_succ]
      refine till_two (i := 5) (j := 7) (by kernel_rfl) rfl rfl (fun K hK => ?_) (fun K hK => ?_)
      · go_simp
        refine (mulK b1 a1 len1 cap1 z1 kx b2 a2 len2 cap2 z2 kx _ (h1.later HW) (h2.later HW)).mono ?_
        rintro e wk ⟨bq, aq, lq, cq, rfl, hq, hb9⟩
        replace HW := Below.step HW hb9
        replace hp := hp.later hb9
        replace B7 := B7.later hb9
        clear hb9
        refine hK.out _ _ ?_ (fun hHeld => ?_)
        · exact ⟨(P0.later HW).facts.1, (P0.later HW).facts.2.1, (P1.later HW).facts.1, (P1.later HW).facts.2.1, (P2.later HW).facts.1, (P2.later HW).facts.2.1⟩
        clear hK K
        try simp only [List.setIfInBounds_toArray, List.set_cons_zero, List.set_cons_succ]
        exact till_go J3 (bp, ap, lp, cp, bq, aq, lq, cq, g7) rfl (by kernel_rfl) (by (try dsimp only); rw [unhide HA]; simp only [Act.put, List.setIfInBounds_toArray, List.set_cons_zero, List.set_cons_succ]) (by (try dsimp only); exact ⟨HW, hp, hq, B7, hg7⟩)
      · go_simp
        have hwk : v1.heap.size ≤ wj.heap.size := HW.size
        have hxg7 := B7.lt
        obtain ⟨wk, hWe⟩ : ∃ W', W' = wj.alloc (.cells #[.bool false, .slice none 0 0] 24) := ⟨_, rfl⟩
        obtain ⟨B8, hb9⟩ := boxes1 wj false none 0 0 hWe
        rw [← hWe]
        clear hWe
        replace HW := Below.step HW hb9
        replace hp := hp.later hb9
        replace B7 := B7.later hb9
        clear hb9
        have hg8 := hwk
        have hneg7g8 : g7 ≠ wj.heap.size := by omega
        refine hK.out _ _ ?_ (fun hHeld => ?_)
        · exact ⟨(P0.later HW).facts.1, (P0.later HW).facts.2.1, (P1.later HW).facts.1, (P1.later HW).facts.2.1, (P2.later HW).facts.1, (P2.later HW).facts.2.1⟩
        clear hK K
        try simp only [List.setIfInBounds_toArray, List.set_cons_zero, List.set_cons_succ]
        exact till_go J1 (bp, ap, lp, cp, g7, wj.heap.size) rfl (by kernel_rfl) (by (try dsimp only); rw [unhide HA]; simp only [Act.put, List.setIfInBounds_toArray, List.set_cons_zero, List.set_cons_succ]) (by (try dsimp only); exact ⟨HW, hp, B7, hg7, B8, hg8, hneg7g8⟩)
    refine till_mid 4 #[true, true, true, true, true, true, false, false, false, false] (ι := Bool × Option Addr × Nat × Nat × Bool × Option Addr × Nat × Nat) (fun (bp, ap, lp, cp, bq, aq, lq, cq) => ((act0.put (some 26) (.agg #[.bool bp, .slice ap lp cp])).put (some 29) (.agg #[.bool bq, .slice aq lq cq]))) (fun (bp, ap, lp, cp, bq, aq, lq, cq) w => Below v1.heap.size v1 w ∧ FK w bp ap lp cp (z0 * z2) (kx + kx) ∧ FK w bq aq lq cq (z1 * z2) (kx + kx)) ?_ (fun J7 => ?_)
    · rintro ⟨bp, ap, lp, cp, bq, aq, lq, cq⟩ wj hI
      try dsimp only at hI ⊢
      obtain ⟨HW, hp, hq⟩ := hI
      have hHeld : wj.cell? ⟨w.heap.size, 0, none⟩ = some (.bool b0) ∧ wj.cell? ⟨w.heap.size, 1, none⟩ = some (.slice a0 len0 cap0) ∧ wj.cell? ⟨w.heap.size + 1, 0, none⟩ = some (.bool b1) ∧ wj.cell? ⟨w.heap.size + 1, 1, none⟩ = some (.slice a1 len1 cap1) ∧ wj.cell? ⟨w.heap.size + 2, 0, none⟩ = some (.bool b2) ∧ wj.cell? ⟨w.heap.size + 2, 1, none⟩ = some (.slice a2 len2 cap2) := by exact ⟨(P0.later HW).facts.1, (P0.later HW).facts.2.1, (P1.later HW).facts.1, (P1.later HW).facts.2.1, (P2.later HW).facts.1, (P2.later HW).facts.2.1⟩
      rw [unhide HA]
      simp only [Act.put, List.setIfInBounds_toArray, List.set_cons_zero, List.set_cons_succ]
      refine till_two (i := 6) (j := 7) (by kernel_rfl) rfl rfl (fun K hK => ?_) (fun K hK => ?_)
      · go_simp
        have hwk : v1.heap.size ≤ wj.heap.size := HW.size
        obtain ⟨wk, hWe⟩ : ∃ W', W' = wj.alloc (.cells #[.bool false, .slice none 0 0] 24) := ⟨_, rfl⟩
        obtain ⟨B7, hb9⟩ := boxes1 wj false none 0 0 hWe
        rw [← hWe]
        clear hWe
        replace HW := Below.step HW hb9
        replace hp := hp.later hb9
        replace hq := hq.later hb9
        clear hb9
        have hg7 := hwk
        refine hK.out _ _ ?_ (fun hHeld => ?_)
        · exact ⟨(P0.later HW).facts.1, (P0.later HW).facts.2.1, (P1.later HW).facts.1, (P1.later HW).facts.2.1, (P2.later HW).facts.1, (P2.later HW).facts.2.1⟩
        clear hK K
        try simp only [List.setIfInBounds_toArray, List.set_cons_zero, List.set_cons_succ]
        exact till_go J3 (bp, ap, lp, cp, bq, aq, lq, cq, wj.heap.size) rfl (by kernel_rfl) (by (try dsimp only); rw [unhide HA]; simp only [Act.put, List.setIfInBounds_toArray, List.set_cons_zero, List.set_cons_succ]) (by (try dsimp only); exact ⟨HW, hp, hq, B7, hg7⟩)
      · go_simp
        have hwk : v1.heap.size ≤ wj.heap.size := HW.size
        obtain ⟨wk, hWe⟩ : ∃ W', W' = wj.alloc (.cells #[.bool false, .slice none 0 0] 24) := ⟨_, rfl⟩
        obtain ⟨B8, hb9⟩ := boxes1 wj false none 0 0 hWe
        rw [← hWe]
        clear hWe
        replace HW := Below.step HW hb9
        replace hp := hp.later hb9
        replace hq := hq.later hb9
        clear hb9
        have hg8 := hwk
        refine hK.out _ _ ?_ (fun hHeld => ?_)
        · exact ⟨(P0.later HW).facts.1, (P0.later HW).facts.2.1, (P1.later HW).facts.1, (P1.later HW).facts.2.1, (P2.later HW).facts.1, (P2.later HW).facts.2.1⟩
        clear hK K
        try simp only [List.setIfInBounds_toArray, List.set_cons_zero, List.set_cons_succ]
        exact till_go J2 (bp, ap, lp, cp, bq, aq, lq, cq, wj.heap.size) rfl (by kernel_rfl) (by (try dsimp only); rw [unhide HA]; simp only [Act.put, List.setIfInBounds_toArray, List.set_cons_zero, List.set_cons_succ]) (by (try dsimp only); exact ⟨HW, hp, hq, B8, hg8⟩)
    refine till_mid 5 #[true, true, false, true, true, false, false, true, false, false] (ι := Nat) (fun g8 => (act0.put (some 8) ((.pointer (some ⟨g8, 0, none⟩))))) (fun g8 w => Below v1.heap.size v1 w ∧ Box w g8 false none 0 0 ∧ v1.heap.size ≤ g8) ?_ (fun J8 => ?_)
    · rintro g8 wj hI
      try dsimp only at hI ⊢
      obtain ⟨HW, B8, hg8⟩ := hI
      have hHeld : wj.cell? ⟨w.heap.size, 0, none⟩ = some (.bool b0) ∧ wj.cell? ⟨w.heap.size, 1, none⟩ = some (.slice a0 len0 cap0) ∧ wj.cell? ⟨w.heap.size + 1, 0, none⟩ = some (.bool b1) ∧ wj.cell? ⟨w.heap.size + 1, 1, none⟩ = some (.slice a1 len1 cap1) ∧ wj.cell? ⟨w.heap.size + 2, 0, none⟩ = some (.bool b2) ∧ wj.cell? ⟨w.heap.size + 2, 1, none⟩ = some (.slice a2 len2 cap2) := by exact ⟨(P0.later HW).facts.1, (P0.later HW).facts.2.1, (P1.later HW).facts.1, (P1.later HW).facts.2.1, (P2.later HW).facts.1, (P2.later HW).facts.2.1⟩
      rw [unhide HA]
      simp only [Act.put, List.setIfInBounds_toArray, List.set_cons_zero, List.set_cons_succ]
      refine till_two (i := 2) (j := 6) (by kernel_rfl) rfl rfl (fun K hK => ?_) (fun K hK => ?_)
      · go_simp
        refine (mulK b0 a0 len0 cap0 z0 kx b2 a2 len2 cap2 z2 kx _ (h0.later HW) (h2.later HW)).mono ?_
        rintro e wk ⟨bp, ap, lp, cp, rfl, hp, hb9⟩
        replace HW := Below.step HW hb9
        replace B8 := B8.later hb9
        clear hb9
        refine hK.out _ _ ?_ (fun hHeld => ?_)
        · exact ⟨(P0.later HW).facts.1, (P0.later HW).facts.2.1, (P1.later HW).facts.1, (P1.later HW).facts.2.1, (P2.later HW).facts.1, (P2.later HW).facts.2.1⟩
        clear hK K
        try simp only [List.setIfInBounds_toArray, List.set_cons_zero, List.set_cons_succ]
        exact till_go J5 (bp, ap, lp, cp, g8) rfl (by kernel_rfl) (by (try dsimp only); rw [unhide HA]; simp only [Act.put, List.setIfInBounds_toArray, List.set_cons_zero, List.set_cons_succ]) (by (try dsimp only); exact ⟨HW, hp, B8, hg8⟩)
      · go_simp
        have hwk : v1.heap.size ≤ wj.heap.size := HW.size
        have hxg8 := B8.lt
        obtain ⟨wk, hWe⟩ : ∃ W', W' = wj.alloc (.cells #[.bool false, .slice none 0 0] 24) := ⟨_, rfl⟩
        obtain ⟨B7, hb9⟩ := boxes1 wj false none 0 0 hWe
        rw [← hWe]
        clear hWe
        replace HW := Below.step HW hb9
        replace B8 := B8.later hb9
        clear hb9
        have hg7 := hwk
        have hneg7g8 : wj.heap.size ≠ g8 := by omega
        refine hK.out _ _ ?_ (fun hHeld => ?_)
        · exact ⟨(P0.later HW).facts.1, (P0.later HW).facts.2.1, (P1.later HW).facts.1, (P1.later HW).facts.2.1, (P2.later HW).facts.1, (P2.later HW).facts.2.1⟩
        clear hK K
        try simp only [List.setIfInBounds_toArray, List.set_cons_zero, List.set_cons_succ]
        exact till_go J4 (wj.heap.size, g8) rfl (by kernel_rfl) (by (try dsimp only); rw [unhide HA]; simp only [Act.put, List.setIfInBounds_toArray, List.set_cons_zero, List.set_cons_succ]) (by (try dsimp only); exact ⟨HW, B7, hg7, B8, hg8, hneg7g8⟩)
    refine till_mid 5 #[true, true, false, true, true, false, true, false, false, false] (ι := Nat) (fun g7 => (act0.put (some 7) ((.pointer (some ⟨g7, 0, none⟩))))) (fun g7 w => Below v1.heap.size v1 w ∧ Box w g7 false none 0 0 ∧ v1.heap.size ≤ g7) ?_ (fun J9 => ?_)
    · rintro g7 wj hI
      try dsimp only at hI ⊢
      obtain ⟨HW, B7, hg7⟩ := hI
      have hHeld : wj.cell? ⟨w.heap.size, 0, none⟩ = some (.bool b0) ∧ wj.cell? ⟨w.heap.size, 1, none⟩ = some (.slice a0 len0 cap0) ∧ wj.cell? ⟨w.heap.size + 1, 0, none⟩ = some (.bool b1) ∧ wj.cell? ⟨w.heap.size + 1, 1, none⟩ = some (.slice a1 len1 cap1) ∧ wj.cell? ⟨w.heap.size + 2, 0, none⟩ = some (.bool b2) ∧ wj.cell? ⟨w.heap.size + 2, 1, none⟩ = some (.slice a2 len2 cap2) := by exact ⟨(P0.later HW).facts.1, (P0.later HW).facts.2.1, (P1.later HW).facts.1, (P1.later HW).facts.2.1, (P2.later HW).facts.1, (P2.later HW).facts.2.1⟩
      rw [unhide HA]
      simp only [Act.put, List.setIfInBounds_toArray, List.set_cons_zero, List.set_cons_succ]
      refine till_two (i := 2) (j := 7) (by kernel_rfl) rfl rfl (fun K hK => ?_) (fun K hK => ?_)
      · go_simp
        refine (mulK b0 a0 len0 cap0 z0 kx b2 a2 len2 cap2 z2 kx _ (h0.later HW) (h2.later HW)).mono ?_
        rintro e wk ⟨bp, ap, lp, cp, rfl, hp, hb9⟩
        replace HW := Below.step HW hb9
        replace B7 := B7.later hb9
        clear hb9
        refine hK.out _ _ ?_ (fun hHeld => ?_)
        · exact ⟨(P0.later HW).facts.1, (P0.later HW).facts.2.1, (P1.later HW).facts.1, (P1.later HW).facts.2.1, (P2.later HW).facts.1, (P2.later HW).facts.2.1⟩
        clear hK K
        try simp only [List.setIfInBounds_toArray, List.set_cons_zero, List.set_cons_succ]
        exact till_go J6 (bp, ap, lp, cp, g7) rfl (by kernel_rfl) (by (try dsimp only); rw [unhide HA]; simp only [Act.put, List.setIfInBounds_toArray, List.set_cons_zero, List.set_cons_succ]) (by (try dsimp only); exact ⟨HW, hp, B7, hg7⟩)
      · go_simp
        have hwk : v1.heap.size ≤ wj.heap.size := HW.size
        have hxg7 := B7.lt
        obtain ⟨wk, hWe⟩ : ∃ W', W' = wj.alloc (.cells #[.bool false, .slice none 0 0] 24) := ⟨_, rfl⟩
        obtain ⟨B8, hb9⟩ := boxes1 wj false none 0 0 hWe
        rw [← hWe]
        clear hWe
        replace HW := Below.step HW hb9
        replace B7 := B7.later hb9
        clear hb9
        have hg8 := hwk
        have hneg7g8 : g7 ≠ wj.heap.size := by omega
        refine hK.out _ _ ?_ (fun hHeld => ?_)
        · exact ⟨(P0.later HW).facts.1, (P0.later HW).facts.2.1, (P1.later HW).facts.1, (P1.later HW).facts.2.1, (P2.later HW).facts.1, (P2.later HW).facts.2.1⟩
        clear hK K
        try simp only [List.setIfInBounds_toArray, List.set_cons_zero, List.set_cons_succ]
        exact till_go J4 (g7, wj.heap.size) rfl (by kernel_rfl) (by (try dsimp only); rw [unhide HA]; simp only [Act.put, List.setIfInBounds_toArray, List.set_cons_zero, List.set_cons_succ]) (by (try dsimp only); exact ⟨HW, B7, hg7, B8, hg8, hneg7g8⟩)
    refine till_mid 5 #[true, true, true, true, true, false, false, false, false, false] (ι := Bool × Option Addr × Nat × Nat) (fun (bp, ap, lp, cp) => (act0.put (some 26) (.agg #[.bool bp, .slice ap lp cp]))) (fun (bp, ap, lp, cp) w => Below v1.heap.size v1 w ∧ FK w bp ap lp cp (z0 * z2) (kx + kx)) ?_ (fun J10 => ?_)
    · rintro ⟨bp, ap, lp, cp⟩ wj hI
      try dsimp only at hI ⊢
      obtain ⟨HW, hp⟩ := hI
      have hHeld : wj.cell? ⟨w.heap.size, 0, none⟩ = some (.bool b0) ∧ wj.cell? ⟨w.heap.size, 1, none⟩ = some (.slice a0 len0 cap0) ∧ wj.cell? ⟨w.heap.size + 1, 0, none⟩ = some (.bool b1) ∧ wj.cell? ⟨w.heap.size + 1, 1, none⟩ = some (.slice a1 len1 cap1) ∧ wj.cell? ⟨w.heap.size + 2, 0, none⟩ = some (.bool b2) ∧ wj.cell? ⟨w.heap.size + 2, 1, none⟩ = some (.slice a2 len2 cap2) := by exact ⟨(P0.later HW).facts.1, (P0.later HW).facts.2.1, (P1.later HW).facts.1, (P1.later HW).facts.2.1, (P2.later HW).facts.1, (P2.later HW).facts.2.1⟩
      rw [unhide HA]
      simp only [Act.put, List.setIfInBounds_toArray, List.set_cons_zero, List.set_cons_succ]
      refine till_three (i := 5) (j := 6) (k := 7) (by kernel_rfl) rfl rfl rfl (fun K hK => ?_) (fun K hK => ?_) (fun K hK => ?_)
      · go_simp
        refine (mulK b1 a1 len1 cap1 z1 kx b2 a2 len2 cap2 z2 kx _ (h1.later HW) (h2.later HW)).mono ?_
        rintro e wk ⟨bq, aq, lq, cq, rfl, hq, hb9⟩
        replace HW := Below.step HW hb9
        replace hp := hp.later hb9
        clear hb9
        refine hK.out _ _ ?_ (fun hHeld => ?_)
        · exact ⟨(P0.later HW).facts.1, (P0.later HW).facts.2.1, (P1.later HW).facts.1, (P1.later HW).facts.2.1, (P2.later HW).facts.1, (P2.later HW).facts.2.1⟩
        clear hK K
        try simp only [List.setIfInBounds_toArray, List.set_cons_zero, List.set_cons_succ]
        exact till_go J7 (bp, ap, lp, cp, bq, aq, lq, cq) rfl (by kernel_rfl) (by (try dsimp only); rw [unhide HA]; simp only [Act.put, List.setIfInBounds_toArray, List.set_cons_zero, List.set_cons_succ]) (by (try dsimp only); exact ⟨HW, hp, hq⟩)
      · go_simp
        have hwk : v1.heap.size ≤ wj.heap.size := HW.size
        obtain ⟨wk, hWe⟩ : ∃ W', W' = wj.alloc (.cells #[.bool false, .slice none 0 0] 24) := ⟨_, rfl⟩
        obtain ⟨B7, hb9⟩ := boxes1 wj false none 0 0 hWe
        rw [← hWe]
        clear hWe
        replace HW := Below.step HW hb9
        replace hp := hp.later hb9
        clear hb9
        have hg7 := hwk
        refine hK.out _ _ ?_ (fun hHeld => ?_)
        · exact ⟨(P0.later HW).facts.1, (P0.later HW).facts.2.1, (P1.later HW).facts.1, (P1.later HW).facts.2.1, (P2.later HW).facts.1, (P2.later HW).facts.2.1⟩
        clear hK K
        try simp only [List.setIfInBounds_toArray, List.set_cons_zero, List.set_cons_succ]
        exact till_go J6 (bp, ap, lp, cp, wj.heap.size) rfl (by kernel_rfl) (by (try dsimp only); rw [unhide HA]; simp only [Act.put, List.setIfInBounds_toArray, List.set_cons_zero, List.set_cons_succ]) (by (try dsimp only); exact ⟨HW, hp, B7, hg7⟩)
      · go_simp
        have hwk : v1.heap.size ≤ wj.heap.size := HW.size
        obtain ⟨wk, hWe⟩ : ∃ W', W' = wj.alloc (.cells #[.bool false, .slice none 0 0] 24) := ⟨_, rfl⟩
        obtain ⟨B8, hb9⟩ := boxes1 wj false none 0 0 hWe
        rw [← hWe]
        clear hWe
        replace HW := Below.step HW hb9
        replace hp := hp.later hb9
        clear hb9
        have hg8 := hwk
        refine hK.out _ _ ?_ (fun hHeld => ?_)
        · exact ⟨(P0.later HW).facts.1, (P0.later HW).facts.2.1, (P1.later HW).facts.1, (P1.later HW).facts.2.1, (P2.later HW).facts.1, (P2.later HW).facts.2.1⟩
        clear hK K
        try simp only [List.setIfInBounds_toArray, List.set_cons_zero, List.set_cons_succ]
        exact till_go J5 (bp, ap, lp, cp, wj.heap.size) rfl (by kernel_rfl) (by (try dsimp only); rw [unhide HA]; simp only [Act.put, List.setIfInBounds_toArray, List.set_cons_zero, List.set_cons_succ]) (by (try dsimp only); exact ⟨HW, hp, B8, hg8⟩)
    rw [unhide HA]
    refine till_three (i := 2) (j := 6) (k := 7) (by kernel_rfl) rfl rfl rfl (fun K hK => ?_) (fun K hK => ?_) (fun K hK => ?_)
    · go_simp
      refine (mulK b0 a0 len0 cap0 z0 kx b2 a2 len2 cap2 z2 kx _ (h0.later HW) (h2.later HW)).mono ?_
      rintro e wk ⟨bp, ap, lp, cp, rfl, hp, hb9⟩
      replace HW := Below.step HW hb9
      clear hb9
      refine hK.out _ _ ?_ (fun hHeld => ?_)
      · exact ⟨(P0.later HW).facts.1, (P0.later HW).facts.2.1, (P1.later HW).facts.1, (P1.later HW).facts.2.1, (P2.later HW).facts.1, (P2.later HW).facts.2.1⟩
      clear hK K
      try simp only [List.setIfInBounds_toArray, List.set_cons_zero, List.set_cons_succ]
      exact till_go J10 (bp, ap, lp, cp) rfl (by kernel_rfl) (by (try dsimp only); rw [unhide HA]; simp only [Act.put, List.setIfInBounds_toArray, List.set_cons_zero, List.set_cons_succ]) (by (try dsimp only); exact ⟨HW, hp⟩)
    · go_simp
      have hwk : v1.heap.size ≤ vd2.heap.size := HW.size
      obtain ⟨wk, hWe⟩ : ∃ W', W' = vd2.alloc (.cells #[.bool false, .slice none 0 0] 24) := ⟨_, rfl⟩
      obtain ⟨B7, hb9⟩ := boxes1 vd2 false none 0 0 hWe
      rw [← hWe]
      clear hWe
      replace HW := Below.step HW hb9
      clear hb9
      have hg7 := hwk
      refine hK.out _ _ ?_ (fun hHeld => ?_)
      · exact ⟨(P0.later HW).facts.1, (P0.later HW).facts.2.1, (P1.later HW).facts.1, (P1.later HW).facts.2.1, (P2.later HW).facts.1, (P2.later HW).facts.2.1⟩
      clear hK K
      try simp only [List.setIfInBounds_toArray, List.set_cons_zero, List.set_cons_succ]
      exact till_go J9 vd2.heap.size rfl (by kernel_rfl) (by (try dsimp only); rw [unhide HA]; simp only [Act.put, List.setIfInBounds_toArray, List.set_cons_zero, List.set_cons_succ]) (by (try dsimp only); exact ⟨HW, B7, hg7⟩)
    · go_simp
      have hwk : v1.heap.size ≤ vd2.heap.size := HW.size
      obtain ⟨wk, hWe⟩ : ∃ W', W' = vd2.alloc (.cells #[.bool false, .slice none 0 0] 24) := ⟨_, rfl⟩
      obtain ⟨B8, hb9⟩ := boxes1 vd2 false none 0 0 hWe
      rw [← hWe]
      clear hWe
      replace HW := Below.step HW hb9
      clear hb9
      have hg8 := hwk
      refine hK.out _ _ ?_ (fun hHeld => ?_)
      · exact ⟨(P0.later HW).facts.1, (P0.later HW).facts.2.1, (P1.later HW).facts.1, (P1.later HW).facts.2.1, (P2.later HW).facts.1, (P2.later HW).facts.2.1⟩
      clear hK K
      try simp only [List.setIfInBounds_toArray, List.set_cons_zero, List.set_cons_succ]
      exact till_go J8 vd2.heap.size rfl (by kernel_rfl) (by (try dsimp only); rw [unhide HA]; simp only [Act.put, List.setIfInBounds_toArray, List.set_cons_zero, List.set_cons_succ]) (by (try dsimp only); exact ⟨HW, B8, hg8⟩)
  · have hf' : q = false := by simpa using hf
    subst hf'
    clear hq hf he
    go_wp2_with fail
    refine (awake6_any _).mono ?_
    rintro e w2 ⟨rfl, hb2⟩
    go_wp2
    go_ret
    exact ⟨rfl, Below.step (unhide HB) hb2⟩

#print axioms bezoutMakes_walk
end Go.Proofs.Ytobiogedknmijaa
