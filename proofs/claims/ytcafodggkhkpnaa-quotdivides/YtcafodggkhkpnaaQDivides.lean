/-
  The walk of QuotDivides: it tells true.
-/
import Derived.Test.YtcafodggkhkpnaaFew5
import Derived.Test.YtcafodggkhkpnaaAwake5
import Derived.Test.YtcafodggkhkpnaaQuo
namespace Go.Proofs.Ytcafodggkhkpnaa
open Go.RowKit Lb

theorem intsIn3 {w : World} (b0 : Bool) (a0 : Option Addr) (len0 cap0 : Nat) (b1 : Bool) (a1 : Option Addr) (len1 cap1 : Nat) (b2 : Bool) (a2 : Option Addr) (len2 cap2 : Nat) {n : Nat} (hn : n = w.heap.size) :
    IntsIn (w.alloc (.cells #[.bool b0, .slice a0 len0 cap0, .bool b1, .slice a1 len1 cap1, .bool b2, .slice a2 len2 cap2] 24)) n 3 (fun i => if i = 0 then b0 else if i = 1 then b1 else b2) (fun i => if i = 0 then a0 else if i = 1 then a1 else a2) (fun i => if i = 0 then len0 else if i = 1 then len1 else len2) (fun i => if i = 0 then cap0 else if i = 1 then cap1 else cap2) := by
  subst hn
  intro i hi
  match i with
  | 0 => simp
  | 1 => simp
  | 2 => simp

set_option maxRecDepth 20000 in
set_option maxHeartbeats 8000000 in
theorem quotDivides_walk (b0 : Bool) (a0 : Option Addr) (len0 cap0 : Nat) (xs0 : List Nat) (b1 : Bool) (a1 : Option Addr) (len1 cap1 : Nat) (xs1 : List Nat) (b2 : Bool) (a2 : Option Addr) (len2 cap2 : Nat) (xs2 : List Nat) (w : World) (r0 : RowAt w a0 len0 cap0 xs0) (r1 : RowAt w a1 len1 cap1 xs1) (r2 : RowAt w a2 len2 cap2 xs2) :
    Calls Try.prog 7 #[.agg #[.bool b0, .slice a0 len0 cap0], .agg #[.bool b1, .slice a1 len1 cap1], .agg #[.bool b2, .slice a2 len2 cap2]] w fun e w' => e = .returned (.bool true) ∧ Below w.heap.size w w' := by
  have hm0 := Nat.le_trans r0.cap_le r0.cap_max
  have hx0 := r0.int b0
  obtain ⟨z0, ez0⟩ : ∃ z, z = sgnd b0 (Lb.val xs0) := ⟨_, rfl⟩
  rw [← ez0] at hx0
  clear ez0 r0
  have hm1 := Nat.le_trans r1.cap_le r1.cap_max
  have hx1 := r1.int b1
  obtain ⟨z1, ez1⟩ : ∃ z, z = sgnd b1 (Lb.val xs1) := ⟨_, rfl⟩
  rw [← ez1] at hx1
  clear ez1 r1
  have hm2 := Nat.le_trans r2.cap_le r2.cap_max
  have hx2 := r2.int b2
  obtain ⟨z2, ez2⟩ : ∃ z, z = sgnd b2 (Lb.val xs2) := ⟨_, rfl⟩
  rw [← ez2] at hx2
  clear ez2 r2
  have HI := hide (intsIn3 (w := (((w.alloc (.cells #[.bool b0, .slice a0 len0 cap0] 24)).alloc (.cells #[.bool b1, .slice a1 len1 cap1] 24)).alloc (.cells #[.bool b2, .slice a2 len2 cap2] 24))) b0 a0 len0 cap0 b1 a1 len1 cap1 b2 a2 len2 cap2 (n := w.heap.size + 3) (by simp))
  go_enter Try.func7, Try.ntmps7
  go_wp2_with fail
  refine (few5_any _ _ _ _ _ _ _ (unhide HI) (by omega) (by simp <;> omega) (by intro i _; (first | assumption | (split <;> assumption) | (split <;> (first | assumption | (split <;> assumption)))))).mono ?_
  rintro e w1 ⟨⟨b, rfl, hb⟩, hb1⟩
  obtain ⟨W0, hWe⟩ : ∃ W', W' = (((w.alloc (.cells #[.bool b0, .slice a0 len0 cap0] 24)).alloc (.cells #[.bool b1, .slice a1 len1 cap1] 24)).alloc (.cells #[.bool b2, .slice a2 len2 cap2] 24)) := ⟨_, rfl⟩
  obtain ⟨P0, P1, P2, hb0⟩ := boxes3 w b0 a0 len0 cap0 b1 a1 len1 cap1 b2 a2 len2 cap2 hWe
  rw [← hWe] at hb1
  clear hWe HI
  have hb2 := Below.step (below_one W0 _) hb1
  clear hb1
  replace P0 := P0.later hb2
  replace P1 := P1.later hb2
  replace P2 := P2.later hb2
  have HB := hide (Below.step hb0 hb2)
  clear hb0 hb2
  by_cases hf : b = true
  · subst hf
    have e0 : len0 ≤ 20 := (hb.1 rfl) 0 (by omega)
    have e1 : len1 ≤ 20 := (hb.1 rfl) 1 (by omega)
    have e2 : len2 ≤ 20 := (hb.1 rfl) 2 (by omega)
    have h0 := ik_of (hx0.later (unhide HB)) e0 (by omega)
    have h1 := ik_of (hx1.later (unhide HB)) e1 (by omega)
    have h2 := ik_of (hx2.later (unhide HB)) e2 (by omega)
    clear hb hm0 hx0 e0 hm1 hx1 e1 hm2 hx2 e2
    by_cases hz0 : z0 = 0
    · have Ez0 := hide (show (0 : Int) = z0.sign by rw [hz0]; rfl)
      clear hz0
      obtain ⟨fP01, fP02, _, _⟩ := P0.facts
      go_wp2_with fail
      refine (signK b0 a0 len0 cap0 z0 20 0 _ h0 (unhide Ez0)).mono ?_
      rintro e v1 ⟨rfl, hb9⟩
      clear fP01 fP02
      replace P0 := P0.later hb9
      replace P1 := P1.later hb9
      replace P2 := P2.later hb9
      replace h0 := h0.later hb9
      replace h1 := h1.later hb9
      replace h2 := h2.later hb9
      replace HB := hide (Below.step (unhide HB) hb9)
      clear hb9
      go_wp2_with fail
      refine (awake5_any _).mono ?_
      rintro e w2 ⟨rfl, hb2⟩
      go_wp2
      go_ret
      exact ⟨rfl, Below.step (unhide HB) hb2⟩
    obtain ⟨s0, es0⟩ : ∃ s, s = z0.sign := ⟨_, rfl⟩
    have hs0 : (s0 == 0) = false := by rw [beq_eq_false_iff_ne, es0]; exact fun e => hz0 (Int.sign_eq_zero_iff_zero.1 e)
    have Ez0 := hide es0
    have N0 := hide hz0
    clear es0 hz0
    by_cases hz1 : z1 = 0
    · have Ez1 := hide (show (0 : Int) = z1.sign by rw [hz1]; rfl)
      clear hz1
      obtain ⟨fP01, fP02, _, _⟩ := P0.facts
      go_wp2_with fail
      refine (signK b0 a0 len0 cap0 z0 20 s0 _ h0 (unhide Ez0)).mono ?_
      rintro e v1 ⟨rfl, hb9⟩
      clear fP01 fP02
      replace P0 := P0.later hb9
      replace P1 := P1.later hb9
      replace P2 := P2.later hb9
      replace h0 := h0.later hb9
      replace h1 := h1.later hb9
      replace h2 := h2.later hb9
      replace HB := hide (Below.step (unhide HB) hb9)
      clear hb9
      obtain ⟨fP11, fP12, _, _⟩ := P1.facts
      go_wp2_with fail
      refine (signK b1 a1 len1 cap1 z1 20 0 _ h1 (unhide Ez1)).mono ?_
      rintro e v2 ⟨rfl, hb9⟩
      clear fP11 fP12
      replace P0 := P0.later hb9
      replace P1 := P1.later hb9
      replace P2 := P2.later hb9
      replace h0 := h0.later hb9
      replace h1 := h1.later hb9
      replace h2 := h2.later hb9
      replace HB := hide (Below.step (unhide HB) hb9)
      clear hb9
      go_wp2_with fail
      refine (awake5_any _).mono ?_
      rintro e w2 ⟨rfl, hb2⟩
      go_wp2
      go_ret
      exact ⟨rfl, Below.step (unhide HB) hb2⟩
    obtain ⟨s1, es1⟩ : ∃ s, s = z1.sign := ⟨_, rfl⟩
    have hs1 : (s1 == 0) = false := by rw [beq_eq_false_iff_ne, es1]; exact fun e => hz1 (Int.sign_eq_zero_iff_zero.1 e)
    have Ez1 := hide es1
    clear es1 hz1
    have EQ := hide (show z0 * z1 / z0 = z1 from Int.mul_ediv_cancel_left _ (unhide N0))
    have ER := hide (show z0 * z1 % z0 = 0 from Int.mul_emod_right z0 z1)
    have D1 := hide (show true = decide (z0 ∣ z0 * z1) from (decide_eq_true (Int.dvd_mul_right z0 z1)).symm)
    have D2 := hide (show true = decide (z1 ∣ z0 * z1) from (decide_eq_true (Int.dvd_mul_left z0 z1)).symm)
    have D3 := hide (show true = decide (z0 ∣ z0 * z1 * z2) from (decide_eq_true (Int.dvd_trans (Int.dvd_mul_right z0 z1) (Int.dvd_mul_right _ z2))).symm)
    obtain ⟨fP01, fP02, _, _⟩ := P0.facts
    go_wp2_with fail
    refine (signK b0 a0 len0 cap0 z0 20 s0 _ h0 (unhide Ez0)).mono ?_
    rintro e v1 ⟨rfl, hb9⟩
    clear fP01 fP02
    replace P0 := P0.later hb9
    replace P1 := P1.later hb9
    replace P2 := P2.later hb9
    replace h0 := h0.later hb9
    replace h1 := h1.later hb9
    replace h2 := h2.later hb9
    replace HB := hide (Below.step (unhide HB) hb9)
    clear hb9
    obtain ⟨fP11, fP12, _, _⟩ := P1.facts
    go_wp2_with fail
    refine (signK b1 a1 len1 cap1 z1 20 s1 _ h1 (unhide Ez1)).mono ?_
    rintro e v2 ⟨rfl, hb9⟩
    clear fP11 fP12
    replace P0 := P0.later hb9
    replace P1 := P1.later hb9
    replace P2 := P2.later hb9
    replace h0 := h0.later hb9
    replace h1 := h1.later hb9
    replace h2 := h2.later hb9
    replace HB := hide (Below.step (unhide HB) hb9)
    clear hb9
    obtain ⟨fP01, fP02, _, _⟩ := P0.facts
    obtain ⟨fP11, fP12, _, _⟩ := P1.facts
    go_wp2_with fail
    refine (mulK b0 a0 len0 cap0 z0 20 b1 a1 len1 cap1 z1 20 _ h0 h1).mono ?_
    rintro e v3 ⟨bp, ap, lp, cp, rfl, hp, hb9⟩
    clear fP01 fP02 fP11 fP12
    replace P0 := P0.later hb9
    replace P1 := P1.later hb9
    replace P2 := P2.later hb9
    replace h0 := h0.later hb9
    replace h1 := h1.later hb9
    replace h2 := h2.later hb9
    replace HB := hide (Below.step (unhide HB) hb9)
    clear hb9
    go_upto_region 4 with fail
    obtain ⟨v4, hWe⟩ : ∃ W', W' = (v3.alloc (.cells #[.bool bp, .slice ap lp cp] 24)) := ⟨_, rfl⟩
    obtain ⟨Bp, hb9⟩ := boxes1 v3 bp ap lp cp hWe
    rw [← hWe]
    clear hWe
    replace P0 := P0.later hb9
    replace P1 := P1.later hb9
    replace P2 := P2.later hb9
    replace h0 := h0.later hb9
    replace h1 := h1.later hb9
    replace h2 := h2.later hb9
    replace hp := hp.later hb9
    replace HB := hide (Below.step (unhide HB) hb9)
    clear hb9
    obtain ⟨fBp1, fBp2, _, _⟩ := Bp.facts
    obtain ⟨fP01, fP02, _, _⟩ := P0.facts
    go_wp2_with fail
    refine (divK bp ap lp cp (z0 * z1) (20 + 20) b0 a0 len0 cap0 z0 20 _ (hp.ik (by omega)) h0 (unhide N0) (by omega) (by omega)).mono ?_
    rintro e v5 ⟨bq, aq, lq, cq, br, ar, lr, cr, rfl, hq, hr, hb9⟩
    clear fBp1 fBp2 fP01 fP02
    replace P0 := P0.later hb9
    replace P1 := P1.later hb9
    replace P2 := P2.later hb9
    replace h0 := h0.later hb9
    replace h1 := h1.later hb9
    replace h2 := h2.later hb9
    replace hp := hp.later hb9
    replace Bp := Bp.later hb9
    replace HB := hide (Below.step (unhide HB) hb9)
    clear hb9
    replace hq := hq.eq (unhide EQ)
    replace hr := hr.eq (unhide ER)
    go_upto_region 5 with fail
    obtain ⟨v6, hWe⟩ : ∃ W', W' = ((v5.alloc (.cells #[.bool bq, .slice aq lq cq] 24)).alloc (.cells #[.bool br, .slice ar lr cr] 24)) := ⟨_, rfl⟩
    obtain ⟨Bq, Br, hb9⟩ := boxes2 v5 bq aq lq cq br ar lr cr hWe
    rw [← hWe]
    clear hWe
    replace P0 := P0.later hb9
    replace P1 := P1.later hb9
    replace P2 := P2.later hb9
    replace h0 := h0.later hb9
    replace h1 := h1.later hb9
    replace h2 := h2.later hb9
    replace hp := hp.later hb9
    replace Bp := Bp.later hb9
    replace hq := hq.later hb9
    replace hr := hr.later hb9
    replace HB := hide (Below.step (unhide HB) hb9)
    clear hb9
    by_cases hd : z0 * z1 ∣ z2
    · have D4 := hide (show true = decide (z0 * z1 ∣ z2) from (decide_eq_true hd).symm)
      have D5 := hide (show true = decide (z0 ∣ z2) from (decide_eq_true (Int.dvd_trans (Int.dvd_mul_right z0 z1) hd)).symm)
      clear hd
      have HW : Below v6.heap.size v6 v6.drew := (Below.refl _ _).drew
      refine till_start (fun w' => w'.cell? ⟨w.heap.size, 0, none⟩ = some (.bool b0) ∧ w'.cell? ⟨w.heap.size, 1, none⟩ = some (.slice a0 len0 cap0) ∧ w'.cell? ⟨w.heap.size + 1, 0, none⟩ = some (.bool b1) ∧ w'.cell? ⟨w.heap.size + 1, 1, none⟩ = some (.slice a1 len1 cap1) ∧ w'.cell? ⟨w.heap.size + 2, 0, none⟩ = some (.bool b2) ∧ w'.cell? ⟨w.heap.size + 2, 1, none⟩ = some (.slice a2 len2 cap2) ∧ w'.cell? ⟨v3.heap.size, 0, none⟩ = some (.bool bp) ∧ w'.cell? ⟨v3.heap.size, 1, none⟩ = some (.slice ap lp cp) ∧ w'.cell? ⟨v5.heap.size, 0, none⟩ = some (.bool bq) ∧ w'.cell? ⟨v5.heap.size, 1, none⟩ = some (.slice aq lq cq) ∧ w'.cell? ⟨v5.heap.size + 1, 0, none⟩ = some (.bool br) ∧ w'.cell? ⟨v5.heap.size + 1, 1, none⟩ = some (.slice ar lr cr)) 42 (by kernel_rfl) ?_ (fun hHeld => ?_)
      · exact ⟨(P0.later HW).facts.1, (P0.later HW).facts.2.1, (P1.later HW).facts.1, (P1.later HW).facts.2.1, (P2.later HW).facts.1, (P2.later HW).facts.2.1, (Bp.later HW).facts.1, (Bp.later HW).facts.2.1, (Bq.later HW).facts.1, (Bq.later HW).facts.2.1, (Br.later HW).facts.1, (Br.later HW).facts.2.1⟩
      refine till_take (i := 0) (v := ?_) [2, 3, 4, 5, 6, 7, 8, 9, 10, 11, 12, 13, 14, 15, 16, 17, 18, 19, 20, 21, 22, 23, 24, 25, 26, 27, 28, 29, 30, 31, 32, 33, 34, 35, 36, 37, 38, 39, 40, 41, 42] rfl (by kernel_rfl) (by kernel_rfl) (by kernel_rfl) (by kernel_rfl) (fun _ _ _ h => h) (Or.inl ⟨by rfl, ?_⟩) (by assumption) ?_
      rotate_left
      · (intro w hSw; (try dsimp only at hSw); go_simp; try with_reducible rfl)
      simp only [Act.put, List.getElem_toArray, List.getElem_cons_zero, List.setIfInBounds_toArray, List.set_cons_zero, List.set_cons_succ]
      refine till_take (i := 1) (v := ?_) [2, 3, 4, 5, 6, 7, 8, 9, 10, 11, 12, 13, 14, 15, 16, 17, 18, 19, 20, 21, 22, 23, 24, 25, 26, 27, 28, 29, 30, 31, 32, 33, 34, 35, 36, 37, 38, 39, 40, 41, 42] rfl (by kernel_rfl) (by kernel_rfl) (by kernel_rfl) (by kernel_rfl) (fun _ _ _ h => h) (Or.inl ⟨by rfl, ?_⟩) (by assumption) ?_
      rotate_left
      · (intro w hSw; (try dsimp only at hSw); go_simp; try with_reducible rfl)
      simp only [Act.put, List.getElem_toArray, List.getElem_cons_succ, List.getElem_cons_zero, List.setIfInBounds_toArray, List.set_cons_zero, List.set_cons_succ]
      refine till_in (i := 2) (by kernel_rfl) rfl (fun K hK => ?_)
      go_simp
      refine (dividesK b0 a0 len0 cap0 z0 20 bp ap lp cp (z0 * z1) (20 + 20) true _ (h0.later HW) ((hp.later HW).ik (by omega)) (unhide D1)).mono ?_
      rintro e w9 ⟨rfl, hb9⟩
      replace HW := Below.step HW hb9
      clear hb9
      refine hK.out _ _ ?_ (fun hHeld => ?_)
      · exact ⟨(P0.later HW).facts.1, (P0.later HW).facts.2.1, (P1.later HW).facts.1, (P1.later HW).facts.2.1, (P2.later HW).facts.1, (P2.later HW).facts.2.1, (Bp.later HW).facts.1, (Bp.later HW).facts.2.1, (Bq.later HW).facts.1, (Bq.later HW).facts.2.1, (Br.later HW).facts.1, (Br.later HW).facts.2.1⟩
      clear hK K
      try simp only [Act.put, List.getElem_toArray, List.getElem_cons_succ, List.getElem_cons_zero, List.setIfInBounds_toArray, List.set_cons_zero, List.set_cons_succ]
      refine till_take (i := 3) (v := ?_) [4, 5, 6, 7, 8, 9, 10, 11, 12, 13, 14, 15, 16, 17, 18, 19, 20, 21, 22, 23, 24, 25, 26, 27, 28, 29, 30, 31, 32, 33, 34, 35, 36, 37, 38, 39, 40, 41, 42] rfl (by kernel_rfl) (by kernel_rfl) (by kernel_rfl) (by kernel_rfl) (fun _ _ _ h => h) (Or.inl ⟨by rfl, ?_⟩) (by assumption) ?_
      rotate_left
      · (intro w hSw; (try dsimp only at hSw); go_simp; try with_reducible rfl)
      simp only [Act.put, List.getElem_toArray, List.getElem_cons_succ, List.getElem_cons_zero, List.setIfInBounds_toArray, List.set_cons_zero, List.set_cons_succ]
      refine till_take (i := 4) (v := ?_) [6, 7, 8, 9, 10, 11, 12, 13, 14, 15, 16, 17, 18, 19, 20, 21, 22, 23, 24, 25, 26, 27, 28, 29, 30, 31, 32, 33, 34, 35, 36, 37, 38, 39, 40, 41, 42] rfl (by kernel_rfl) (by kernel_rfl) (by kernel_rfl) (by kernel_rfl) (fun _ _ _ h => h) (Or.inl ⟨by rfl, ?_⟩) (by assumption) ?_
      rotate_left
      · (intro w hSw; (try dsimp only at hSw); go_simp; try with_reducible rfl)
      simp only [Act.put, List.getElem_toArray, List.getElem_cons_succ, List.getElem_cons_zero, List.setIfInBounds_toArray, List.set_cons_zero, List.set_cons_succ]
      refine till_take (i := 5) (v := ?_) [6, 7, 8, 9, 10, 11, 12, 13, 14, 15, 16, 17, 18, 19, 20, 21, 22, 23, 24, 25, 26, 27, 28, 29, 30, 31, 32, 33, 34, 35, 36, 37, 38, 39, 40, 41, 42] rfl (by kernel_rfl) (by kernel_rfl) (by kernel_rfl) (by kernel_rfl) (fun _ _ _ h => h) (Or.inl ⟨by rfl, ?_⟩) (by assumption) ?_
      rotate_left
      · (intro w hSw; (try dsimp only at hSw); go_simp; try with_reducible rfl)
      simp only [Act.put, List.getElem_toArray, List.getElem_cons_succ, List.getElem_cons_zero, List.setIfInBounds_toArray, List.set_cons_zero, List.set_cons_succ]
      refine till_in (i := 6) (by kernel_rfl) rfl (fun K hK => ?_)
      go_simp
      refine (dividesK b1 a1 len1 cap1 z1 20 bp ap lp cp (z0 * z1) (20 + 20) true _ (h1.later HW) ((hp.later HW).ik (by omega)) (unhide D2)).mono ?_
      rintro e w9 ⟨rfl, hb9⟩
      replace HW := Below.step HW hb9
      clear hb9
      refine hK.out _ _ ?_ (fun hHeld => ?_)
      · exact ⟨(P0.later HW).facts.1, (P0.later HW).facts.2.1, (P1.later HW).facts.1, (P1.later HW).facts.2.1, (P2.later HW).facts.1, (P2.later HW).facts.2.1, (Bp.later HW).facts.1, (Bp.later HW).facts.2.1, (Bq.later HW).facts.1, (Bq.later HW).facts.2.1, (Br.later HW).facts.1, (Br.later HW).facts.2.1⟩
      clear hK K
      try simp only [Act.put, List.getElem_toArray, List.getElem_cons_succ, List.getElem_cons_zero, List.setIfInBounds_toArray, List.set_cons_zero, List.set_cons_succ]
      refine till_take (i := 7) (v := ?_) [8, 9, 10, 11, 12, 13, 14, 15, 16, 17, 18, 19, 20, 21, 22, 23, 24, 25, 26, 27, 28, 29, 30, 31, 32, 33, 34, 35, 36, 37, 38, 39, 40, 41, 42] rfl (by kernel_rfl) (by kernel_rfl) (by kernel_rfl) (by kernel_rfl) (fun _ _ _ h => h) (Or.inl ⟨by rfl, ?_⟩) (by assumption) ?_
      rotate_left
      · (intro w hSw; (try dsimp only at hSw); go_simp; try with_reducible rfl)
      simp only [Act.put, List.getElem_toArray, List.getElem_cons_succ, List.getElem_cons_zero, List.setIfInBounds_toArray, List.set_cons_zero, List.set_cons_succ]
      refine till_take (i := 8) (v := ?_) [9, 10, 11, 12, 13, 14, 15, 16, 17, 18, 19, 20, 21, 22, 23, 24, 25, 26, 27, 28, 29, 30, 31, 32, 33, 34, 35, 36, 37, 38, 39, 40, 41, 42] rfl (by kernel_rfl) (by kernel_rfl) (by kernel_rfl) (by kernel_rfl) (fun _ _ _ h => h) (Or.inl ⟨by rfl, ?_⟩) (by assumption) ?_
      rotate_left
      · (intro w hSw; (try dsimp only at hSw); go_simp; try with_reducible rfl)
      simp only [Act.put, List.getElem_toArray, List.getElem_cons_succ, List.getElem_cons_zero, List.setIfInBounds_toArray, List.set_cons_zero, List.set_cons_succ]
      refine till_take (i := 9) (v := ?_) [10, 11, 12, 13, 14, 15, 16, 17, 18, 19, 20, 21, 22, 23, 24, 25, 26, 27, 28, 29, 30, 31, 32, 33, 34, 35, 36, 37, 38, 39, 40, 41, 42] rfl (by kernel_rfl) (by kernel_rfl) (by kernel_rfl) (by kernel_rfl) (fun _ _ _ h => h) (Or.inl ⟨by rfl, ?_⟩) (by assumption) ?_
      rotate_left
      · (intro w hSw; (try dsimp only at hSw); go_simp; try with_reducible rfl)
      simp only [Act.put, List.getElem_toArray, List.getElem_cons_succ, List.getElem_cons_zero, List.setIfInBounds_toArray, List.set_cons_zero, List.set_cons_succ]
      refine till_take (i := 10) (v := ?_) [11, 12, 13, 14, 15, 16, 17, 18, 19, 20, 21, 22, 23, 24, 25, 26, 27, 28, 29, 30, 31, 32, 33, 34, 35, 36, 37, 38, 39, 40, 41, 42] rfl (by kernel_rfl) (by kernel_rfl) (by kernel_rfl) (by kernel_rfl) (fun _ _ _ h => h) (Or.inl ⟨by rfl, ?_⟩) (by assumption) ?_
      rotate_left
      · (intro w hSw; (try dsimp only at hSw); go_simp; try with_reducible rfl)
      simp only [Act.put, List.getElem_toArray, List.getElem_cons_succ, List.getElem_cons_zero, List.setIfInBounds_toArray, List.set_cons_zero, List.set_cons_succ]
      refine till_take (i := 11) (v := ?_) [12, 13, 14, 15, 16, 17, 18, 19, 20, 21, 22, 23, 24, 25, 26, 27, 28, 29, 30, 31, 32, 33, 34, 35, 36, 37, 38, 39, 40, 41, 42] rfl (by kernel_rfl) (by kernel_rfl) (by kernel_rfl) (by kernel_rfl) (fun _ _ _ h => h) (Or.inl ⟨by rfl, ?_⟩) (by assumption) ?_
      rotate_left
      · (intro w hSw; (try dsimp only at hSw); go_simp; try with_reducible rfl)
      simp only [Act.put, List.getElem_toArray, List.getElem_cons_succ, List.getElem_cons_zero, List.setIfInBounds_toArray, List.set_cons_zero, List.set_cons_succ]
      refine till_take (i := 12) (v := ?_) [14, 15, 16, 17, 18, 19, 20, 21, 22, 23, 24, 25, 26, 27, 28, 29, 30, 31, 32, 33, 34, 35, 36, 37, 38, 39, 40, 41, 42] rfl (by kernel_rfl) (by kernel_rfl) (by kernel_rfl) (by kernel_rfl) (fun _ _ _ h => h) (Or.inl ⟨by rfl, ?_⟩) (by assumption) ?_
      rotate_left
      · (intro w hSw; (try dsimp only at hSw); go_simp; try with_reducible rfl)
      simp only [Act.put, List.getElem_toArray, List.getElem_cons_succ, List.getElem_cons_zero, List.setIfInBounds_toArray, List.set_cons_zero, List.set_cons_succ]
      refine till_take (i := 13) (v := ?_) [14, 15, 16, 17, 18, 19, 20, 21, 22, 23, 24, 25, 26, 27, 28, 29, 30, 31, 32, 33, 34, 35, 36, 37, 38, 39, 40, 41, 42] rfl (by kernel_rfl) (by kernel_rfl) (by kernel_rfl) (by kernel_rfl) (fun _ _ _ h => h) (Or.inl ⟨by rfl, ?_⟩) (by assumption) ?_
      rotate_left
      · (intro w hSw; (try dsimp only at hSw); go_simp; try with_reducible rfl)
      simp only [Act.put, List.getElem_toArray, List.getElem_cons_succ, List.getElem_cons_zero, List.setIfInBounds_toArray, List.set_cons_zero, List.set_cons_succ]
      refine till_in (i := 14) (by kernel_rfl) rfl (fun K hK => ?_)
      go_simp
      refine (sameK bq aq lq cq z1 (20 + 20) b1 a1 len1 cap1 z1 20 true _ ((hq.later HW).ik (by omega)) (h1.later HW) (by simp)).mono ?_
      rintro e w9 ⟨rfl, hb9⟩
      replace HW := Below.step HW hb9
      clear hb9
      refine hK.out _ _ ?_ (fun hHeld => ?_)
      · exact ⟨(P0.later HW).facts.1, (P0.later HW).facts.2.1, (P1.later HW).facts.1, (P1.later HW).facts.2.1, (P2.later HW).facts.1, (P2.later HW).facts.2.1, (Bp.later HW).facts.1, (Bp.later HW).facts.2.1, (Bq.later HW).facts.1, (Bq.later HW).facts.2.1, (Br.later HW).facts.1, (Br.later HW).facts.2.1⟩
      clear hK K
      try simp only [Act.put, List.getElem_toArray, List.getElem_cons_succ, List.getElem_cons_zero, List.setIfInBounds_toArray, List.set_cons_zero, List.set_cons_succ]
      refine till_take (i := 15) (v := ?_) [16, 17, 18, 19, 20, 21, 22, 23, 24, 25, 26, 27, 28, 29, 30, 31, 32, 33, 34, 35, 36, 37, 38, 39, 40, 41, 42] rfl (by kernel_rfl) (by kernel_rfl) (by kernel_rfl) (by kernel_rfl) (fun _ _ _ h => h) (Or.inl ⟨by rfl, ?_⟩) (by assumption) ?_
      rotate_left
      · (intro w hSw; (try dsimp only at hSw); go_simp; try with_reducible rfl)
      simp only [Act.put, List.getElem_toArray, List.getElem_cons_succ, List.getElem_cons_zero, List.setIfInBounds_toArray, List.set_cons_zero, List.set_cons_succ]
      refine till_take (i := 16) (v := ?_) [17, 18, 19, 20, 21, 22, 23, 24, 25, 26, 27, 28, 29, 30, 31, 32, 33, 34, 35, 36, 37, 38, 39, 40, 41, 42] rfl (by kernel_rfl) (by kernel_rfl) (by kernel_rfl) (by kernel_rfl) (fun _ _ _ h => h) (Or.inl ⟨by rfl, ?_⟩) (by assumption) ?_
      rotate_left
      · (intro w hSw; (try dsimp only at hSw); go_simp; try with_reducible rfl)
      simp only [Act.put, List.getElem_toArray, List.getElem_cons_succ, List.getElem_cons_zero, List.setIfInBounds_toArray, List.set_cons_zero, List.set_cons_succ]
      refine till_take (i := 17) (v := ?_) [18, 19, 20, 21, 22, 23, 24, 25, 26, 27, 28, 29, 30, 31, 32, 33, 34, 35, 36, 37, 38, 39, 40, 41, 42] rfl (by kernel_rfl) (by kernel_rfl) (by kernel_rfl) (by kernel_rfl) (fun _ _ _ h => h) (Or.inl ⟨by rfl, ?_⟩) (by assumption) ?_
      rotate_left
      · (intro w hSw; (try dsimp only at hSw); go_simp; try with_reducible rfl)
      simp only [Act.put, List.getElem_toArray, List.getElem_cons_succ, List.getElem_cons_zero, List.setIfInBounds_toArray, List.set_cons_zero, List.set_cons_succ]
      refine till_in (i := 18) (by kernel_rfl) rfl (fun K hK => ?_)
      go_simp
      refine (signK br ar lr cr 0 20 0 _ ((hr.later HW).ik (by omega)) (by simp)).mono ?_
      rintro e w9 ⟨rfl, hb9⟩
      replace HW := Below.step HW hb9
      clear hb9
      refine hK.out _ _ ?_ (fun hHeld => ?_)
      · exact ⟨(P0.later HW).facts.1, (P0.later HW).facts.2.1, (P1.later HW).facts.1, (P1.later HW).facts.2.1, (P2.later HW).facts.1, (P2.later HW).facts.2.1, (Bp.later HW).facts.1, (Bp.later HW).facts.2.1, (Bq.later HW).facts.1, (Bq.later HW).facts.2.1, (Br.later HW).facts.1, (Br.later HW).facts.2.1⟩
      clear hK K
      try simp only [Act.put, List.getElem_toArray, List.getElem_cons_succ, List.getElem_cons_zero, List.setIfInBounds_toArray, List.set_cons_zero, List.set_cons_succ]
      refine till_take (i := 19) (v := ?_) [20, 21, 22, 23, 24, 25, 26, 27, 28, 29, 30, 31, 32, 33, 34, 35, 36, 37, 38, 39, 40, 41, 42] rfl (by kernel_rfl) (by kernel_rfl) (by kernel_rfl) (by kernel_rfl) (fun _ _ _ h => h) (Or.inl ⟨by rfl, ?_⟩) (by assumption) ?_
      rotate_left
      · (intro w hSw; (try dsimp only at hSw); go_simp; try with_reducible rfl)
      simp only [Act.put, List.getElem_toArray, List.getElem_cons_succ, List.getElem_cons_zero, List.setIfInBounds_toArray, List.set_cons_zero, List.set_cons_succ]
      refine till_take (i := 20) (v := ?_) [21, 22, 23, 24, 25, 26, 27, 28, 29, 30, 31, 32, 33, 34, 35, 36, 37, 38, 39, 40, 41, 42] rfl (by kernel_rfl) (by kernel_rfl) (by kernel_rfl) (by kernel_rfl) (fun _ _ _ h => h) (Or.inl ⟨by rfl, ?_⟩) (by assumption) ?_
      rotate_left
      · (intro w hSw; (try dsimp only at hSw); go_simp; try with_reducible rfl)
      simp only [Act.put, List.getElem_toArray, List.getElem_cons_succ, List.getElem_cons_zero, List.setIfInBounds_toArray, List.set_cons_zero, List.set_cons_succ]
      refine till_take (i := 21) (v := ?_) [22, 23, 24, 25, 26, 27, 28, 29, 30, 31, 32, 33, 34, 35, 36, 37, 38, 39, 40, 41, 42] rfl (by kernel_rfl) (by kernel_rfl) (by kernel_rfl) (by kernel_rfl) (fun _ _ _ h => h) (Or.inl ⟨by rfl, ?_⟩) (by assumption) ?_
      rotate_left
      · (intro w hSw; (try dsimp only at hSw); go_simp; try with_reducible rfl)
      simp only [Act.put, List.getElem_toArray, List.getElem_cons_succ, List.getElem_cons_zero, List.setIfInBounds_toArray, List.set_cons_zero, List.set_cons_succ]
      refine till_take (i := 22) (v := ?_) [26, 27, 28, 29, 30, 31, 32, 33, 34, 35, 36, 37, 38, 39, 40, 41, 42] rfl (by kernel_rfl) (by kernel_rfl) (by kernel_rfl) (by kernel_rfl) (fun _ _ _ h => h) (Or.inl ⟨by rfl, ?_⟩) (by assumption) ?_
      rotate_left
      · (intro w hSw; (try dsimp only at hSw); go_simp; try with_reducible rfl)
      simp only [Act.put, List.getElem_toArray, List.getElem_cons_succ, List.getElem_cons_zero, List.setIfInBounds_toArray, List.set_cons_zero, List.set_cons_succ]
      refine till_take (i := 23) (v := ?_) [25, 26, 27, 28, 29, 30, 31, 32, 33, 34, 35, 36, 37, 38, 39, 40, 41, 42] rfl (by kernel_rfl) (by kernel_rfl) (by kernel_rfl) (by kernel_rfl) (fun _ _ _ h => h) (Or.inl ⟨by rfl, ?_⟩) (by assumption) ?_
      rotate_left
      · (intro w hSw; (try dsimp only at hSw); go_simp; try with_reducible rfl)
      simp only [Act.put, List.getElem_toArray, List.getElem_cons_succ, List.getElem_cons_zero, List.setIfInBounds_toArray, List.set_cons_zero, List.set_cons_succ]
      refine till_take (i := 24) (v := ?_) [25, 26, 27, 28, 29, 30, 31, 32, 33, 34, 35, 36, 37, 38, 39, 40, 41, 42] rfl (by kernel_rfl) (by kernel_rfl) (by kernel_rfl) (by kernel_rfl) (fun _ _ _ h => h) (Or.inl ⟨by rfl, ?_⟩) (by assumption) ?_
      rotate_left
      · (intro w hSw; (try dsimp only at hSw); go_simp; try with_reducible rfl)
      simp only [Act.put, List.getElem_toArray, List.getElem_cons_succ, List.getElem_cons_zero, List.setIfInBounds_toArray, List.set_cons_zero, List.set_cons_succ]
      refine till_in (i := 25) (by kernel_rfl) rfl (fun K hK => ?_)
      go_simp
      refine (mulK bp ap lp cp (z0 * z1) (20 + 20) b2 a2 len2 cap2 z2 20 _ ((hp.later HW).ik (by omega)) (h2.later HW)).mono ?_
      rintro e w9 ⟨bm, am, lm, cm, rfl, hm, hb9⟩
      replace HW := Below.step HW hb9
      clear hb9
      refine hK.out _ _ ?_ (fun hHeld => ?_)
      · exact ⟨(P0.later HW).facts.1, (P0.later HW).facts.2.1, (P1.later HW).facts.1, (P1.later HW).facts.2.1, (P2.later HW).facts.1, (P2.later HW).facts.2.1, (Bp.later HW).facts.1, (Bp.later HW).facts.2.1, (Bq.later HW).facts.1, (Bq.later HW).facts.2.1, (Br.later HW).facts.1, (Br.later HW).facts.2.1⟩
      clear hK K
      try simp only [Act.put, List.getElem_toArray, List.getElem_cons_succ, List.getElem_cons_zero, List.setIfInBounds_toArray, List.set_cons_zero, List.set_cons_succ]
      refine till_in (i := 26) (by kernel_rfl) rfl (fun K hK => ?_)
      go_simp
      refine (dividesK b0 a0 len0 cap0 z0 20 bm am lm cm (z0 * z1 * z2) (20 + 20 + 20) true _ (h0.later HW) (hm.ik (by omega)) (unhide D3)).mono ?_
      rintro e w9 ⟨rfl, hb9⟩
      replace HW := Below.step HW hb9
      replace hm := hm.later hb9
      clear hb9 hm
      refine hK.out _ _ ?_ (fun hHeld => ?_)
      · exact ⟨(P0.later HW).facts.1, (P0.later HW).facts.2.1, (P1.later HW).facts.1, (P1.later HW).facts.2.1, (P2.later HW).facts.1, (P2.later HW).facts.2.1, (Bp.later HW).facts.1, (Bp.later HW).facts.2.1, (Bq.later HW).facts.1, (Bq.later HW).facts.2.1, (Br.later HW).facts.1, (Br.later HW).facts.2.1⟩
      clear hK K
      try simp only [Act.put, List.getElem_toArray, List.getElem_cons_succ, List.getElem_cons_zero, List.setIfInBounds_toArray, List.set_cons_zero, List.set_cons_succ]
      refine till_take (i := 27) (v := ?_) [28, 29, 30, 31, 32, 33, 34, 35, 36, 37, 38, 39, 40, 41, 42] rfl (by kernel_rfl) (by kernel_rfl) (by kernel_rfl) (by kernel_rfl) (fun _ _ _ h => h) (Or.inl ⟨by rfl, ?_⟩) (by assumption) ?_
      rotate_left
      · (intro w hSw; (try dsimp only at hSw); go_simp; try with_reducible rfl)
      simp only [Act.put, List.getElem_toArray, List.getElem_cons_succ, List.getElem_cons_zero, List.setIfInBounds_toArray, List.set_cons_zero, List.set_cons_succ]
      refine till_take (i := 28) (v := ?_) [29, 30, 31, 32, 33, 34, 35, 36, 37, 38, 39, 40, 41, 42] rfl (by kernel_rfl) (by kernel_rfl) (by kernel_rfl) (by kernel_rfl) (fun _ _ _ h => h) (Or.inl ⟨by rfl, ?_⟩) (by assumption) ?_
      rotate_left
      · (intro w hSw; (try dsimp only at hSw); go_simp; try with_reducible rfl)
      simp only [Act.put, List.getElem_toArray, List.getElem_cons_succ, List.getElem_cons_zero, List.setIfInBounds_toArray, List.set_cons_zero, List.set_cons_succ]
      refine till_take (i := 29) (v := ?_) [31, 32, 33, 34, 35, 36, 37, 38, 39, 40, 41, 42] rfl (by kernel_rfl) (by kernel_rfl) (by kernel_rfl) (by kernel_rfl) (fun _ _ _ h => h) (Or.inl ⟨by rfl, ?_⟩) (by assumption) ?_
      rotate_left
      · (intro w hSw; (try dsimp only at hSw); go_simp; try with_reducible rfl)
      simp only [Act.put, List.getElem_toArray, List.getElem_cons_succ, List.getElem_cons_zero, List.setIfInBounds_toArray, List.set_cons_zero, List.set_cons_succ]
      refine till_take (i := 30) (v := ?_) [31, 32, 33, 34, 35, 36, 37, 38, 39, 40, 41, 42] rfl (by kernel_rfl) (by kernel_rfl) (by kernel_rfl) (by kernel_rfl) (fun _ _ _ h => h) (Or.inl ⟨by rfl, ?_⟩) (by assumption) ?_
      rotate_left
      · (intro w hSw; (try dsimp only at hSw); go_simp; try with_reducible rfl)
      simp only [Act.put, List.getElem_toArray, List.getElem_cons_succ, List.getElem_cons_zero, List.setIfInBounds_toArray, List.set_cons_zero, List.set_cons_succ]
      refine till_in (i := 31) (by kernel_rfl) rfl (fun K hK => ?_)
      go_simp
      refine (dividesK bp ap lp cp (z0 * z1) (20 + 20) b2 a2 len2 cap2 z2 20 true _ ((hp.later HW).ik (by omega)) (h2.later HW) (unhide D4)).mono ?_
      rintro e w9 ⟨rfl, hb9⟩
      replace HW := Below.step HW hb9
      clear hb9
      refine hK.out _ _ ?_ (fun hHeld => ?_)
      · exact ⟨(P0.later HW).facts.1, (P0.later HW).facts.2.1, (P1.later HW).facts.1, (P1.later HW).facts.2.1, (P2.later HW).facts.1, (P2.later HW).facts.2.1, (Bp.later HW).facts.1, (Bp.later HW).facts.2.1, (Bq.later HW).facts.1, (Bq.later HW).facts.2.1, (Br.later HW).facts.1, (Br.later HW).facts.2.1⟩
      clear hK K
      try simp only [Act.put, List.getElem_toArray, List.getElem_cons_succ, List.getElem_cons_zero, List.setIfInBounds_toArray, List.set_cons_zero, List.set_cons_succ]
      refine till_take (i := 32) (v := ?_) [33, 34, 35, 36, 37, 38, 39, 40, 41, 42] rfl (by kernel_rfl) (by kernel_rfl) (by kernel_rfl) (by kernel_rfl) (fun _ _ _ h => h) (Or.inl ⟨by rfl, ?_⟩) (by assumption) ?_
      rotate_left
      · (intro w hSw; (try dsimp only at hSw); go_simp; try with_reducible rfl)
      simp only [Act.put, List.getElem_toArray, List.getElem_cons_succ, List.getElem_cons_zero, List.setIfInBounds_toArray, List.set_cons_zero, List.set_cons_succ]
      refine till_take (i := 33) (v := ?_) [34, 35, 36, 37, 38, 39, 40, 41, 42] rfl (by kernel_rfl) (by kernel_rfl) (by kernel_rfl) (by kernel_rfl) (fun _ _ _ h => h) (Or.inl ⟨by rfl, ?_⟩) (by assumption) ?_
      rotate_left
      · (intro w hSw; (try dsimp only at hSw); go_simp; try with_reducible rfl)
      simp only [Act.put, List.getElem_toArray, List.getElem_cons_succ, List.getElem_cons_zero, List.setIfInBounds_toArray, List.set_cons_zero, List.set_cons_succ]
      refine till_take (i := 34) (v := ?_) [36, 37, 38, 39, 40, 41, 42] rfl (by kernel_rfl) (by kernel_rfl) (by kernel_rfl) (by kernel_rfl) (fun _ _ _ h => h) (Or.inl ⟨by rfl, ?_⟩) (by assumption) ?_
      rotate_left
      · (intro w hSw; (try dsimp only at hSw); go_simp; try with_reducible rfl)
      simp only [Act.put, List.getElem_toArray, List.getElem_cons_succ, List.getElem_cons_zero, List.setIfInBounds_toArray, List.set_cons_zero, List.set_cons_succ]
      refine till_take (i := 35) (v := ?_) [36, 37, 38, 39, 40, 41, 42] rfl (by kernel_rfl) (by kernel_rfl) (by kernel_rfl) (by kernel_rfl) (fun _ _ _ h => h) (Or.inl ⟨by rfl, ?_⟩) (by assumption) ?_
      rotate_left
      · (intro w hSw; (try dsimp only at hSw); go_simp; try with_reducible rfl)
      simp only [Act.put, List.getElem_toArray, List.getElem_cons_succ, List.getElem_cons_zero, List.setIfInBounds_toArray, List.set_cons_zero, List.set_cons_succ]
      refine till_in (i := 36) (by kernel_rfl) rfl (fun K hK => ?_)
      go_simp
      refine (dividesK b0 a0 len0 cap0 z0 20 b2 a2 len2 cap2 z2 20 true _ (h0.later HW) (h2.later HW) (unhide D5)).mono ?_
      rintro e w9 ⟨rfl, hb9⟩
      replace HW := Below.step HW hb9
      clear hb9
      refine hK.out _ _ ?_ (fun hHeld => ?_)
      · exact ⟨(P0.later HW).facts.1, (P0.later HW).facts.2.1, (P1.later HW).facts.1, (P1.later HW).facts.2.1, (P2.later HW).facts.1, (P2.later HW).facts.2.1, (Bp.later HW).facts.1, (Bp.later HW).facts.2.1, (Bq.later HW).facts.1, (Bq.later HW).facts.2.1, (Br.later HW).facts.1, (Br.later HW).facts.2.1⟩
      clear hK K
      try simp only [Act.put, List.getElem_toArray, List.getElem_cons_succ, List.getElem_cons_zero, List.setIfInBounds_toArray, List.set_cons_zero, List.set_cons_succ]
      refine till_take (i := 37) (v := ?_) [38, 39, 40, 41, 42] rfl (by kernel_rfl) (by kernel_rfl) (by kernel_rfl) (by kernel_rfl) (fun _ _ _ h => h) (Or.inl ⟨by rfl, ?_⟩) (by assumption) ?_
      rotate_left
      · (intro w hSw; (try dsimp only at hSw); go_simp; try with_reducible rfl)
      simp only [Act.put, List.getElem_toArray, List.getElem_cons_succ, List.getElem_cons_zero, List.setIfInBounds_toArray, List.set_cons_zero, List.set_cons_succ]
      refine till_take (i := 38) (v := ?_) [39, 40, 41, 42] rfl (by kernel_rfl) (by kernel_rfl) (by kernel_rfl) (by kernel_rfl) (fun _ _ _ h => h) (Or.inl ⟨by rfl, ?_⟩) (by assumption) ?_
      rotate_left
      · (intro w hSw; (try dsimp only at hSw); go_simp; try with_reducible rfl)
      simp only [Act.put, List.getElem_toArray, List.getElem_cons_succ, List.getElem_cons_zero, List.setIfInBounds_toArray, List.set_cons_zero, List.set_cons_succ]
      refine till_take (i := 39) (v := ?_) [40, 41, 42] rfl (by kernel_rfl) (by kernel_rfl) (by kernel_rfl) (by kernel_rfl) (fun _ _ _ h => h) (Or.inl ⟨by rfl, ?_⟩) (by assumption) ?_
      rotate_left
      · (intro w hSw; (try dsimp only at hSw); go_simp; try with_reducible rfl)
      simp only [Act.put, List.getElem_toArray, List.getElem_cons_succ, List.getElem_cons_zero, List.setIfInBounds_toArray, List.set_cons_zero, List.set_cons_succ]
      refine till_in (i := 40) (by kernel_rfl) rfl (fun K hK => ?_)
      go_simp
      refine (awake5_any _).mono ?_
      rintro e w9 ⟨rfl, hb9⟩
      replace HW := Below.step HW hb9
      clear hb9
      refine hK.out _ _ ?_ (fun hHeld => ?_)
      · exact ⟨(P0.later HW).facts.1, (P0.later HW).facts.2.1, (P1.later HW).facts.1, (P1.later HW).facts.2.1, (P2.later HW).facts.1, (P2.later HW).facts.2.1, (Bp.later HW).facts.1, (Bp.later HW).facts.2.1, (Bq.later HW).facts.1, (Bq.later HW).facts.2.1, (Br.later HW).facts.1, (Br.later HW).facts.2.1⟩
      clear hK K
      try simp only [Act.put, List.getElem_toArray, List.getElem_cons_succ, List.getElem_cons_zero, List.setIfInBounds_toArray, List.set_cons_zero, List.set_cons_succ]
      refine till_take (i := 41) (v := ?_) [42] rfl (by kernel_rfl) (by kernel_rfl) (by kernel_rfl) (by kernel_rfl) (fun _ _ _ h => h) (Or.inl ⟨by rfl, ?_⟩) (by assumption) ?_
      rotate_left
      · (intro w hSw; (try dsimp only at hSw); go_simp; try with_reducible rfl)
      simp only [Act.put, List.getElem_toArray, List.getElem_cons_succ, List.getElem_cons_zero, List.setIfInBounds_toArray, List.set_cons_zero, List.set_cons_succ]
      refine till_out (i := 42) (by kernel_rfl) rfl (by kernel_rfl) (fun K hK => ?_)
      go_simp
      refine hK.out _ _ ?_
      clear hK K
      try simp only [Act.put, List.getElem_toArray, List.getElem_cons_succ, List.getElem_cons_zero, List.setIfInBounds_toArray, List.set_cons_zero, List.set_cons_succ]
      refine till_done (by kernel_rfl) ?_ _
      go_wp2
      go_ret
      exact ⟨rfl, Below.step (unhide HB) HW⟩
    · have D4 := hide (show false = decide (z0 * z1 ∣ z2) from (decide_eq_false hd).symm)
      clear hd
      have HW : Below v6.heap.size v6 v6.drew := (Below.refl _ _).drew
      refine till_start (fun w' => w'.cell? ⟨w.heap.size, 0, none⟩ = some (.bool b0) ∧ w'.cell? ⟨w.heap.size, 1, none⟩ = some (.slice a0 len0 cap0) ∧ w'.cell? ⟨w.heap.size + 1, 0, none⟩ = some (.bool b1) ∧ w'.cell? ⟨w.heap.size + 1, 1, none⟩ = some (.slice a1 len1 cap1) ∧ w'.cell? ⟨w.heap.size + 2, 0, none⟩ = some (.bool b2) ∧ w'.cell? ⟨w.heap.size + 2, 1, none⟩ = some (.slice a2 len2 cap2) ∧ w'.cell? ⟨v3.heap.size, 0, none⟩ = some (.bool bp) ∧ w'.cell? ⟨v3.heap.size, 1, none⟩ = some (.slice ap lp cp) ∧ w'.cell? ⟨v5.heap.size, 0, none⟩ = some (.bool bq) ∧ w'.cell? ⟨v5.heap.size, 1, none⟩ = some (.slice aq lq cq) ∧ w'.cell? ⟨v5.heap.size + 1, 0, none⟩ = some (.bool br) ∧ w'.cell? ⟨v5.heap.size + 1, 1, none⟩ = some (.slice ar lr cr)) 42 (by kernel_rfl) ?_ (fun hHeld => ?_)
      · exact ⟨(P0.later HW).facts.1, (P0.later HW).facts.2.1, (P1.later HW).facts.1, (P1.later HW).facts.2.1, (P2.later HW).facts.1, (P2.later HW).facts.2.1, (Bp.later HW).facts.1, (Bp.later HW).facts.2.1, (Bq.later HW).facts.1, (Bq.later HW).facts.2.1, (Br.later HW).facts.1, (Br.later HW).facts.2.1⟩
      refine till_take (i := 0) (v := ?_) [2, 3, 4, 5, 6, 7, 8, 9, 10, 11, 12, 13, 14, 15, 16, 17, 18, 19, 20, 21, 22, 23, 24, 25, 26, 27, 28, 29, 30, 31, 32, 33, 34, 35, 36, 37, 38, 39, 40, 41, 42] rfl (by kernel_rfl) (by kernel_rfl) (by kernel_rfl) (by kernel_rfl) (fun _ _ _ h => h) (Or.inl ⟨by rfl, ?_⟩) (by assumption) ?_
      rotate_left
      · (intro w hSw; (try dsimp only at hSw); go_simp; try with_reducible rfl)
      simp only [Act.put, List.getElem_toArray, List.getElem_cons_zero, List.setIfInBounds_toArray, List.set_cons_zero, List.set_cons_succ]
      refine till_take (i := 1) (v := ?_) [2, 3, 4, 5, 6, 7, 8, 9, 10, 11, 12, 13, 14, 15, 16, 17, 18, 19, 20, 21, 22, 23, 24, 25, 26, 27, 28, 29, 30, 31, 32, 33, 34, 35, 36, 37, 38, 39, 40, 41, 42] rfl (by kernel_rfl) (by kernel_rfl) (by kernel_rfl) (by kernel_rfl) (fun _ _ _ h => h) (Or.inl ⟨by rfl, ?_⟩) (by assumption) ?_
      rotate_left
      · (intro w hSw; (try dsimp only at hSw); go_simp; try with_reducible rfl)
      simp only [Act.put, List.getElem_toArray, List.getElem_cons_succ, List.getElem_cons_zero, List.setIfInBounds_toArray, List.set_cons_zero, List.set_cons_succ]
      refine till_in (i := 2) (by kernel_rfl) rfl (fun K hK => ?_)
      go_simp
      refine (dividesK b0 a0 len0 cap0 z0 20 bp ap lp cp (z0 * z1) (20 + 20) true _ (h0.later HW) ((hp.later HW).ik (by omega)) (unhide D1)).mono ?_
      rintro e w9 ⟨rfl, hb9⟩
      replace HW := Below.step HW hb9
      clear hb9
      refine hK.out _ _ ?_ (fun hHeld => ?_)
      · exact ⟨(P0.later HW).facts.1, (P0.later HW).facts.2.1, (P1.later HW).facts.1, (P1.later HW).facts.2.1, (P2.later HW).facts.1, (P2.later HW).facts.2.1, (Bp.later HW).facts.1, (Bp.later HW).facts.2.1, (Bq.later HW).facts.1, (Bq.later HW).facts.2.1, (Br.later HW).facts.1, (Br.later HW).facts.2.1⟩
      clear hK K
      try simp only [Act.put, List.getElem_toArray, List.getElem_cons_succ, List.getElem_cons_zero, List.setIfInBounds_toArray, List.set_cons_zero, List.set_cons_succ]
      refine till_take (i := 3) (v := ?_) [4, 5, 6, 7, 8, 9, 10, 11, 12, 13, 14, 15, 16, 17, 18, 19, 20, 21, 22, 23, 24, 25, 26, 27, 28, 29, 30, 31, 32, 33, 34, 35, 36, 37, 38, 39, 40, 41, 42] rfl (by kernel_rfl) (by kernel_rfl) (by kernel_rfl) (by kernel_rfl) (fun _ _ _ h => h) (Or.inl ⟨by rfl, ?_⟩) (by assumption) ?_
      rotate_left
      · (intro w hSw; (try dsimp only at hSw); go_simp; try with_reducible rfl)
      simp only [Act.put, List.getElem_toArray, List.getElem_cons_succ, List.getElem_cons_zero, List.setIfInBounds_toArray, List.set_cons_zero, List.set_cons_succ]
      refine till_take (i := 4) (v := ?_) [6, 7, 8, 9, 10, 11, 12, 13, 14, 15, 16, 17, 18, 19, 20, 21, 22, 23, 24, 25, 26, 27, 28, 29, 30, 31, 32, 33, 34, 35, 36, 37, 38, 39, 40, 41, 42] rfl (by kernel_rfl) (by kernel_rfl) (by kernel_rfl) (by kernel_rfl) (fun _ _ _ h => h) (Or.inl ⟨by rfl, ?_⟩) (by assumption) ?_
      rotate_left
      · (intro w hSw; (try dsimp only at hSw); go_simp; try with_reducible rfl)
      simp only [Act.put, List.getElem_toArray, List.getElem_cons_succ, List.getElem_cons_zero, List.setIfInBounds_toArray, List.set_cons_zero, List.set_cons_succ]
      refine till_take (i := 5) (v := ?_) [6, 7, 8, 9, 10, 11, 12, 13, 14, 15, 16, 17, 18, 19, 20, 21, 22, 23, 24, 25, 26, 27, 28, 29, 30, 31, 32, 33, 34, 35, 36, 37, 38, 39, 40, 41, 42] rfl (by kernel_rfl) (by kernel_rfl) (by kernel_rfl) (by kernel_rfl) (fun _ _ _ h => h) (Or.inl ⟨by rfl, ?_⟩) (by assumption) ?_
      rotate_left
      · (intro w hSw; (try dsimp only at hSw); go_simp; try with_reducible rfl)
      simp only [Act.put, List.getElem_toArray, List.getElem_cons_succ, List.getElem_cons_zero, List.setIfInBounds_toArray, List.set_cons_zero, List.set_cons_succ]
      refine till_in (i := 6) (by kernel_rfl) rfl (fun K hK => ?_)
      go_simp
      refine (dividesK b1 a1 len1 cap1 z1 20 bp ap lp cp (z0 * z1) (20 + 20) true _ (h1.later HW) ((hp.later HW).ik (by omega)) (unhide D2)).mono ?_
      rintro e w9 ⟨rfl, hb9⟩
      replace HW := Below.step HW hb9
      clear hb9
      refine hK.out _ _ ?_ (fun hHeld => ?_)
      · exact ⟨(P0.later HW).facts.1, (P0.later HW).facts.2.1, (P1.later HW).facts.1, (P1.later HW).facts.2.1, (P2.later HW).facts.1, (P2.later HW).facts.2.1, (Bp.later HW).facts.1, (Bp.later HW).facts.2.1, (Bq.later HW).facts.1, (Bq.later HW).facts.2.1, (Br.later HW).facts.1, (Br.later HW).facts.2.1⟩
      clear hK K
      try simp only [Act.put, List.getElem_toArray, List.getElem_cons_succ, List.getElem_cons_zero, List.setIfInBounds_toArray, List.set_cons_zero, List.set_cons_succ]
      refine till_take (i := 7) (v := ?_) [8, 9, 10, 11, 12, 13, 14, 15, 16, 17, 18, 19, 20, 21, 22, 23, 24, 25, 26, 27, 28, 29, 30, 31, 32, 33, 34, 35, 36, 37, 38, 39, 40, 41, 42] rfl (by kernel_rfl) (by kernel_rfl) (by kernel_rfl) (by kernel_rfl) (fun _ _ _ h => h) (Or.inl ⟨by rfl, ?_⟩) (by assumption) ?_
      rotate_left
      · (intro w hSw; (try dsimp only at hSw); go_simp; try with_reducible rfl)
      simp only [Act.put, List.getElem_toArray, List.getElem_cons_succ, List.getElem_cons_zero, List.setIfInBounds_toArray, List.set_cons_zero, List.set_cons_succ]
      refine till_take (i := 8) (v := ?_) [9, 10, 11, 12, 13, 14, 15, 16, 17, 18, 19, 20, 21, 22, 23, 24, 25, 26, 27, 28, 29, 30, 31, 32, 33, 34, 35, 36, 37, 38, 39, 40, 41, 42] rfl (by kernel_rfl) (by kernel_rfl) (by kernel_rfl) (by kernel_rfl) (fun _ _ _ h => h) (Or.inl ⟨by rfl, ?_⟩) (by assumption) ?_
      rotate_left
      · (intro w hSw; (try dsimp only at hSw); go_simp; try with_reducible rfl)
      simp only [Act.put, List.getElem_toArray, List.getElem_cons_succ, List.getElem_cons_zero, List.setIfInBounds_toArray, List.set_cons_zero, List.set_cons_succ]
      refine till_take (i := 9) (v := ?_) [10, 11, 12, 13, 14, 15, 16, 17, 18, 19, 20, 21, 22, 23, 24, 25, 26, 27, 28, 29, 30, 31, 32, 33, 34, 35, 36, 37, 38, 39, 40, 41, 42] rfl (by kernel_rfl) (by kernel_rfl) (by kernel_rfl) (by kernel_rfl) (fun _ _ _ h => h) (Or.inl ⟨by rfl, ?_⟩) (by assumption) ?_
      rotate_left
      · (intro w hSw; (try dsimp only at hSw); go_simp; try with_reducible rfl)
      simp only [Act.put, List.getElem_toArray, List.getElem_cons_succ, List.getElem_cons_zero, List.setIfInBounds_toArray, List.set_cons_zero, List.set_cons_succ]
      refine till_take (i := 10) (v := ?_) [11, 12, 13, 14, 15, 16, 17, 18, 19, 20, 21, 22, 23, 24, 25, 26, 27, 28, 29, 30, 31, 32, 33, 34, 35, 36, 37, 38, 39, 40, 41, 42] rfl (by kernel_rfl) (by kernel_rfl) (by kernel_rfl) (by kernel_rfl) (fun _ _ _ h => h) (Or.inl ⟨by rfl, ?_⟩) (by assumption) ?_
      rotate_left
      · (intro w hSw; (try dsimp only at hSw); go_simp; try with_reducible rfl)
      simp only [Act.put, List.getElem_toArray, List.getElem_cons_succ, List.getElem_cons_zero, List.setIfInBounds_toArray, List.set_cons_zero, List.set_cons_succ]
      refine till_take (i := 11) (v := ?_) [12, 13, 14, 15, 16, 17, 18, 19, 20, 21, 22, 23, 24, 25, 26, 27, 28, 29, 30, 31, 32, 33, 34, 35, 36, 37, 38, 39, 40, 41, 42] rfl (by kernel_rfl) (by kernel_rfl) (by kernel_rfl) (by kernel_rfl) (fun _ _ _ h => h) (Or.inl ⟨by rfl, ?_⟩) (by assumption) ?_
      rotate_left
      · (intro w hSw; (try dsimp only at hSw); go_simp; try with_reducible rfl)
      simp only [Act.put, List.getElem_toArray, List.getElem_cons_succ, List.getElem_cons_zero, List.setIfInBounds_toArray, List.set_cons_zero, List.set_cons_succ]
      refine till_take (i := 12) (v := ?_) [14, 15, 16, 17, 18, 19, 20, 21, 22, 23, 24, 25, 26, 27, 28, 29, 30, 31, 32, 33, 34, 35, 36, 37, 38, 39, 40, 41, 42] rfl (by kernel_rfl) (by kernel_rfl) (by kernel_rfl) (by kernel_rfl) (fun _ _ _ h => h) (Or.inl ⟨by rfl, ?_⟩) (by assumption) ?_
      rotate_left
      · (intro w hSw; (try dsimp only at hSw); go_simp; try with_reducible rfl)
      simp only [Act.put, List.getElem_toArray, List.getElem_cons_succ, List.getElem_cons_zero, List.setIfInBounds_toArray, List.set_cons_zero, List.set_cons_succ]
      refine till_take (i := 13) (v := ?_) [14, 15, 16, 17, 18, 19, 20, 21, 22, 23, 24, 25, 26, 27, 28, 29, 30, 31, 32, 33, 34, 35, 36, 37, 38, 39, 40, 41, 42] rfl (by kernel_rfl) (by kernel_rfl) (by kernel_rfl) (by kernel_rfl) (fun _ _ _ h => h) (Or.inl ⟨by rfl, ?_⟩) (by assumption) ?_
      rotate_left
      · (intro w hSw; (try dsimp only at hSw); go_simp; try with_reducible rfl)
      simp only [Act.put, List.getElem_toArray, List.getElem_cons_succ, List.getElem_cons_zero, List.setIfInBounds_toArray, List.set_cons_zero, List.set_cons_succ]
      refine till_in (i := 14) (by kernel_rfl) rfl (fun K hK => ?_)
      go_simp
      refine (sameK bq aq lq cq z1 (20 + 20) b1 a1 len1 cap1 z1 20 true _ ((hq.later HW).ik (by omega)) (h1.later HW) (by simp)).mono ?_
      rintro e w9 ⟨rfl, hb9⟩
      replace HW := Below.step HW hb9
      clear hb9
      refine hK.out _ _ ?_ (fun hHeld => ?_)
      · exact ⟨(P0.later HW).facts.1, (P0.later HW).facts.2.1, (P1.later HW).facts.1, (P1.later HW).facts.2.1, (P2.later HW).facts.1, (P2.later HW).facts.2.1, (Bp.later HW).facts.1, (Bp.later HW).facts.2.1, (Bq.later HW).facts.1, (Bq.later HW).facts.2.1, (Br.later HW).facts.1, (Br.later HW).facts.2.1⟩
      clear hK K
      try simp only [Act.put, List.getElem_toArray, List.getElem_cons_succ, List.getElem_cons_zero, List.setIfInBounds_toArray, List.set_cons_zero, List.set_cons_succ]
      refine till_take (i := 15) (v := ?_) [16, 17, 18, 19, 20, 21, 22, 23, 24, 25, 26, 27, 28, 29, 30, 31, 32, 33, 34, 35, 36, 37, 38, 39, 40, 41, 42] rfl (by kernel_rfl) (by kernel_rfl) (by kernel_rfl) (by kernel_rfl) (fun _ _ _ h => h) (Or.inl ⟨by rfl, ?_⟩) (by assumption) ?_
      rotate_left
      · (intro w hSw; (try dsimp only at hSw); go_simp; try with_reducible rfl)
      simp only [Act.put, List.getElem_toArray, List.getElem_cons_succ, List.getElem_cons_zero, List.setIfInBounds_toArray, List.set_cons_zero, List.set_cons_succ]
      refine till_take (i := 16) (v := ?_) [17, 18, 19, 20, 21, 22, 23, 24, 25, 26, 27, 28, 29, 30, 31, 32, 33, 34, 35, 36, 37, 38, 39, 40, 41, 42] rfl (by kernel_rfl) (by kernel_rfl) (by kernel_rfl) (by kernel_rfl) (fun _ _ _ h => h) (Or.inl ⟨by rfl, ?_⟩) (by assumption) ?_
      rotate_left
      · (intro w hSw; (try dsimp only at hSw); go_simp; try with_reducible rfl)
      simp only [Act.put, List.getElem_toArray, List.getElem_cons_succ, List.getElem_cons_zero, List.setIfInBounds_toArray, List.set_cons_zero, List.set_cons_succ]
      refine till_take (i := 17) (v := ?_) [18, 19, 20, 21, 22, 23, 24, 25, 26, 27, 28, 29, 30, 31, 32, 33, 34, 35, 36, 37, 38, 39, 40, 41, 42] rfl (by kernel_rfl) (by kernel_rfl) (by kernel_rfl) (by kernel_rfl) (fun _ _ _ h => h) (Or.inl ⟨by rfl, ?_⟩) (by assumption) ?_
      rotate_left
      · (intro w hSw; (try dsimp only at hSw); go_simp; try with_reducible rfl)
      simp only [Act.put, List.getElem_toArray, List.getElem_cons_succ, List.getElem_cons_zero, List.setIfInBounds_toArray, List.set_cons_zero, List.set_cons_succ]
      refine till_in (i := 18) (by kernel_rfl) rfl (fun K hK => ?_)
      go_simp
      refine (signK br ar lr cr 0 20 0 _ ((hr.later HW).ik (by omega)) (by simp)).mono ?_
      rintro e w9 ⟨rfl, hb9⟩
      replace HW := Below.step HW hb9
      clear hb9
      refine hK.out _ _ ?_ (fun hHeld => ?_)
      · exact ⟨(P0.later HW).facts.1, (P0.later HW).facts.2.1, (P1.later HW).facts.1, (P1.later HW).facts.2.1, (P2.later HW).facts.1, (P2.later HW).facts.2.1, (Bp.later HW).facts.1, (Bp.later HW).facts.2.1, (Bq.later HW).facts.1, (Bq.later HW).facts.2.1, (Br.later HW).facts.1, (Br.later HW).facts.2.1⟩
      clear hK K
      try simp only [Act.put, List.getElem_toArray, List.getElem_cons_succ, List.getElem_cons_zero, List.setIfInBounds_toArray, List.set_cons_zero, List.set_cons_succ]
      refine till_take (i := 19) (v := ?_) [20, 21, 22, 23, 24, 25, 26, 27, 28, 29, 30, 31, 32, 33, 34, 35, 36, 37, 38, 39, 40, 41, 42] rfl (by kernel_rfl) (by kernel_rfl) (by kernel_rfl) (by kernel_rfl) (fun _ _ _ h => h) (Or.inl ⟨by rfl, ?_⟩) (by assumption) ?_
      rotate_left
      · (intro w hSw; (try dsimp only at hSw); go_simp; try with_reducible rfl)
      simp only [Act.put, List.getElem_toArray, List.getElem_cons_succ, List.getElem_cons_zero, List.setIfInBounds_toArray, List.set_cons_zero, List.set_cons_succ]
      refine till_take (i := 20) (v := ?_) [21, 22, 23, 24, 25, 26, 27, 28, 29, 30, 31, 32, 33, 34, 35, 36, 37, 38, 39, 40, 41, 42] rfl (by kernel_rfl) (by kernel_rfl) (by kernel_rfl) (by kernel_rfl) (fun _ _ _ h => h) (Or.inl ⟨by rfl, ?_⟩) (by assumption) ?_
      rotate_left
      · (intro w hSw; (try dsimp only at hSw); go_simp; try with_reducible rfl)
      simp only [Act.put, List.getElem_toArray, List.getElem_cons_succ, List.getElem_cons_zero, List.setIfInBounds_toArray, List.set_cons_zero, List.set_cons_succ]
      refine till_take (i := 21) (v := ?_) [22, 23, 24, 25, 26, 27, 28, 29, 30, 31, 32, 33, 34, 35, 36, 37, 38, 39, 40, 41, 42] rfl (by kernel_rfl) (by kernel_rfl) (by kernel_rfl) (by kernel_rfl) (fun _ _ _ h => h) (Or.inl ⟨by rfl, ?_⟩) (by assumption) ?_
      rotate_left
      · (intro w hSw; (try dsimp only at hSw); go_simp; try with_reducible rfl)
      simp only [Act.put, List.getElem_toArray, List.getElem_cons_succ, List.getElem_cons_zero, List.setIfInBounds_toArray, List.set_cons_zero, List.set_cons_succ]
      refine till_take (i := 22) (v := ?_) [26, 27, 28, 29, 30, 31, 32, 33, 34, 35, 36, 37, 38, 39, 40, 41, 42] rfl (by kernel_rfl) (by kernel_rfl) (by kernel_rfl) (by kernel_rfl) (fun _ _ _ h => h) (Or.inl ⟨by rfl, ?_⟩) (by assumption) ?_
      rotate_left
      · (intro w hSw; (try dsimp only at hSw); go_simp; try with_reducible rfl)
      simp only [Act.put, List.getElem_toArray, List.getElem_cons_succ, List.getElem_cons_zero, List.setIfInBounds_toArray, List.set_cons_zero, List.set_cons_succ]
      refine till_take (i := 23) (v := ?_) [25, 26, 27, 28, 29, 30, 31, 32, 33, 34, 35, 36, 37, 38, 39, 40, 41, 42] rfl (by kernel_rfl) (by kernel_rfl) (by kernel_rfl) (by kernel_rfl) (fun _ _ _ h => h) (Or.inl ⟨by rfl, ?_⟩) (by assumption) ?_
      rotate_left
      · (intro w hSw; (try dsimp only at hSw); go_simp; try with_reducible rfl)
      simp only [Act.put, List.getElem_toArray, List.getElem_cons_succ, List.getElem_cons_zero, List.setIfInBounds_toArray, List.set_cons_zero, List.set_cons_succ]
      refine till_take (i := 24) (v := ?_) [25, 26, 27, 28, 29, 30, 31, 32, 33, 34, 35, 36, 37, 38, 39, 40, 41, 42] rfl (by kernel_rfl) (by kernel_rfl) (by kernel_rfl) (by kernel_rfl) (fun _ _ _ h => h) (Or.inl ⟨by rfl, ?_⟩) (by assumption) ?_
      rotate_left
      · (intro w hSw; (try dsimp only at hSw); go_simp; try with_reducible rfl)
      simp only [Act.put, List.getElem_toArray, List.getElem_cons_succ, List.getElem_cons_zero, List.setIfInBounds_toArray, List.set_cons_zero, List.set_cons_succ]
      refine till_in (i := 25) (by kernel_rfl) rfl (fun K hK => ?_)
      go_simp
      refine (mulK bp ap lp cp (z0 * z1) (20 + 20) b2 a2 len2 cap2 z2 20 _ ((hp.later HW).ik (by omega)) (h2.later HW)).mono ?_
      rintro e w9 ⟨bm, am, lm, cm, rfl, hm, hb9⟩
      replace HW := Below.step HW hb9
      clear hb9
      refine hK.out _ _ ?_ (fun hHeld => ?_)
      · exact ⟨(P0.later HW).facts.1, (P0.later HW).facts.2.1, (P1.later HW).facts.1, (P1.later HW).facts.2.1, (P2.later HW).facts.1, (P2.later HW).facts.2.1, (Bp.later HW).facts.1, (Bp.later HW).facts.2.1, (Bq.later HW).facts.1, (Bq.later HW).facts.2.1, (Br.later HW).facts.1, (Br.later HW).facts.2.1⟩
      clear hK K
      try simp only [Act.put, List.getElem_toArray, List.getElem_cons_succ, List.getElem_cons_zero, List.setIfInBounds_toArray, List.set_cons_zero, List.set_cons_succ]
      refine till_in (i := 26) (by kernel_rfl) rfl (fun K hK => ?_)
      go_simp
      refine (dividesK b0 a0 len0 cap0 z0 20 bm am lm cm (z0 * z1 * z2) (20 + 20 + 20) true _ (h0.later HW) (hm.ik (by omega)) (unhide D3)).mono ?_
      rintro e w9 ⟨rfl, hb9⟩
      replace HW := Below.step HW hb9
      replace hm := hm.later hb9
      clear hb9 hm
      refine hK.out _ _ ?_ (fun hHeld => ?_)
      · exact ⟨(P0.later HW).facts.1, (P0.later HW).facts.2.1, (P1.later HW).facts.1, (P1.later HW).facts.2.1, (P2.later HW).facts.1, (P2.later HW).facts.2.1, (Bp.later HW).facts.1, (Bp.later HW).facts.2.1, (Bq.later HW).facts.1, (Bq.later HW).facts.2.1, (Br.later HW).facts.1, (Br.later HW).facts.2.1⟩
      clear hK K
      try simp only [Act.put, List.getElem_toArray, List.getElem_cons_succ, List.getElem_cons_zero, List.setIfInBounds_toArray, List.set_cons_zero, List.set_cons_succ]
      refine till_take (i := 27) (v := ?_) [28, 29, 30, 31, 32, 33, 34, 35, 36, 37, 38, 39, 40, 41, 42] rfl (by kernel_rfl) (by kernel_rfl) (by kernel_rfl) (by kernel_rfl) (fun _ _ _ h => h) (Or.inl ⟨by rfl, ?_⟩) (by assumption) ?_
      rotate_left
      · (intro w hSw; (try dsimp only at hSw); go_simp; try with_reducible rfl)
      simp only [Act.put, List.getElem_toArray, List.getElem_cons_succ, List.getElem_cons_zero, List.setIfInBounds_toArray, List.set_cons_zero, List.set_cons_succ]
      refine till_take (i := 28) (v := ?_) [29, 30, 31, 32, 33, 34, 35, 36, 37, 38, 39, 40, 41, 42] rfl (by kernel_rfl) (by kernel_rfl) (by kernel_rfl) (by kernel_rfl) (fun _ _ _ h => h) (Or.inl ⟨by rfl, ?_⟩) (by assumption) ?_
      rotate_left
      · (intro w hSw; (try dsimp only at hSw); go_simp; try with_reducible rfl)
      simp only [Act.put, List.getElem_toArray, List.getElem_cons_succ, List.getElem_cons_zero, List.setIfInBounds_toArray, List.set_cons_zero, List.set_cons_succ]
      refine till_take (i := 29) (v := ?_) [31, 32, 33, 34, 35, 36, 37, 38, 39, 40, 41, 42] rfl (by kernel_rfl) (by kernel_rfl) (by kernel_rfl) (by kernel_rfl) (fun _ _ _ h => h) (Or.inl ⟨by rfl, ?_⟩) (by assumption) ?_
      rotate_left
      · (intro w hSw; (try dsimp only at hSw); go_simp; try with_reducible rfl)
      simp only [Act.put, List.getElem_toArray, List.getElem_cons_succ, List.getElem_cons_zero, List.setIfInBounds_toArray, List.set_cons_zero, List.set_cons_succ]
      refine till_take (i := 30) (v := ?_) [31, 32, 33, 34, 35, 36, 37, 38, 39, 40, 41, 42] rfl (by kernel_rfl) (by kernel_rfl) (by kernel_rfl) (by kernel_rfl) (fun _ _ _ h => h) (Or.inl ⟨by rfl, ?_⟩) (by assumption) ?_
      rotate_left
      · (intro w hSw; (try dsimp only at hSw); go_simp; try with_reducible rfl)
      simp only [Act.put, List.getElem_toArray, List.getElem_cons_succ, List.getElem_cons_zero, List.setIfInBounds_toArray, List.set_cons_zero, List.set_cons_succ]
      refine till_in (i := 31) (by kernel_rfl) rfl (fun K hK => ?_)
      go_simp
      refine (dividesK bp ap lp cp (z0 * z1) (20 + 20) b2 a2 len2 cap2 z2 20 false _ ((hp.later HW).ik (by omega)) (h2.later HW) (unhide D4)).mono ?_
      rintro e w9 ⟨rfl, hb9⟩
      replace HW := Below.step HW hb9
      clear hb9
      refine hK.out _ _ ?_ (fun hHeld => ?_)
      · exact ⟨(P0.later HW).facts.1, (P0.later HW).facts.2.1, (P1.later HW).facts.1, (P1.later HW).facts.2.1, (P2.later HW).facts.1, (P2.later HW).facts.2.1, (Bp.later HW).facts.1, (Bp.later HW).facts.2.1, (Bq.later HW).facts.1, (Bq.later HW).facts.2.1, (Br.later HW).facts.1, (Br.later HW).facts.2.1⟩
      clear hK K
      try simp only [Act.put, List.getElem_toArray, List.getElem_cons_succ, List.getElem_cons_zero, List.setIfInBounds_toArray, List.set_cons_zero, List.set_cons_succ]
      refine till_take (i := 32) (v := ?_) [33, 34, 35, 36, 37, 38, 39, 40, 41, 42] rfl (by kernel_rfl) (by kernel_rfl) (by kernel_rfl) (by kernel_rfl) (fun _ _ _ h => h) (Or.inl ⟨by rfl, ?_⟩) (by assumption) ?_
      rotate_left
      · (intro w hSw; (try dsimp only at hSw); go_simp; try with_reducible rfl)
      simp only [Act.put, List.getElem_toArray, List.getElem_cons_succ, List.getElem_cons_zero, List.setIfInBounds_toArray, List.set_cons_zero, List.set_cons_succ]
      refine till_take (i := 33) (v := ?_) [34, 35, 36, 37, 38, 39, 40, 41, 42] rfl (by kernel_rfl) (by kernel_rfl) (by kernel_rfl) (by kernel_rfl) (fun _ _ _ h => h) (Or.inl ⟨by rfl, ?_⟩) (by assumption) ?_
      rotate_left
      · (intro w hSw; (try dsimp only at hSw); go_simp; try with_reducible rfl)
      simp only [Act.put, List.getElem_toArray, List.getElem_cons_succ, List.getElem_cons_zero, List.setIfInBounds_toArray, List.set_cons_zero, List.set_cons_succ]
      refine till_take (i := 34) (v := undef) [36, 37, 38, 39, 40, 41, 42] rfl (by kernel_rfl) (by kernel_rfl) (by kernel_rfl) (by kernel_rfl) (fun _ _ _ h => h) (Or.inr ⟨by rfl, rfl⟩) (by assumption) ?_
      simp only [Act.put, List.getElem_toArray, List.getElem_cons_succ, List.getElem_cons_zero, List.setIfInBounds_toArray, List.set_cons_zero, List.set_cons_succ]
      refine till_take (i := 35) (v := undef) [36, 37, 38, 39, 40, 41, 42] rfl (by kernel_rfl) (by kernel_rfl) (by kernel_rfl) (by kernel_rfl) (fun _ _ _ h => h) (Or.inr ⟨by rfl, rfl⟩) (by assumption) ?_
      simp only [Act.put, List.getElem_toArray, List.getElem_cons_succ, List.getElem_cons_zero, List.setIfInBounds_toArray, List.set_cons_zero, List.set_cons_succ]
      refine till_in (i := 36) (by kernel_rfl) rfl (fun K hK => ?_)
      go_simp
      refine hK.out _ _ ?_ (fun hHeld => ?_)
      · exact ⟨(P0.later HW).facts.1, (P0.later HW).facts.2.1, (P1.later HW).facts.1, (P1.later HW).facts.2.1, (P2.later HW).facts.1, (P2.later HW).facts.2.1, (Bp.later HW).facts.1, (Bp.later HW).facts.2.1, (Bq.later HW).facts.1, (Bq.later HW).facts.2.1, (Br.later HW).facts.1, (Br.later HW).facts.2.1⟩
      clear hK K
      try simp only [Act.put, List.getElem_toArray, List.getElem_cons_succ, List.getElem_cons_zero, List.setIfInBounds_toArray, List.set_cons_zero, List.set_cons_succ]
      refine till_take (i := 37) (v := ?_) [38, 39, 40, 41, 42] rfl (by kernel_rfl) (by kernel_rfl) (by kernel_rfl) (by kernel_rfl) (fun _ _ _ h => h) (Or.inl ⟨by rfl, ?_⟩) (by assumption) ?_
      rotate_left
      · (intro w hSw; (try dsimp only at hSw); go_simp; try with_reducible rfl)
      simp only [Act.put, List.getElem_toArray, List.getElem_cons_succ, List.getElem_cons_zero, List.setIfInBounds_toArray, List.set_cons_zero, List.set_cons_succ]
      refine till_take (i := 38) (v := ?_) [39, 40, 41, 42] rfl (by kernel_rfl) (by kernel_rfl) (by kernel_rfl) (by kernel_rfl) (fun _ _ _ h => h) (Or.inl ⟨by rfl, ?_⟩) (by assumption) ?_
      rotate_left
      · (intro w hSw; (try dsimp only at hSw); go_simp; try with_reducible rfl)
      simp only [Act.put, List.getElem_toArray, List.getElem_cons_succ, List.getElem_cons_zero, List.setIfInBounds_toArray, List.set_cons_zero, List.set_cons_succ]
      refine till_take (i := 39) (v := ?_) [40, 41, 42] rfl (by kernel_rfl) (by kernel_rfl) (by kernel_rfl) (by kernel_rfl) (fun _ _ _ h => h) (Or.inl ⟨by rfl, ?_⟩) (by assumption) ?_
      rotate_left
      · (intro w hSw; (try dsimp only at hSw); go_simp; try with_reducible rfl)
      simp only [Act.put, List.getElem_toArray, List.getElem_cons_succ, List.getElem_cons_zero, List.setIfInBounds_toArray, List.set_cons_zero, List.set_cons_succ]
      refine till_in (i := 40) (by kernel_rfl) rfl (fun K hK => ?_)
      go_simp
      refine (awake5_any _).mono ?_
      rintro e w9 ⟨rfl, hb9⟩
      replace HW := Below.step HW hb9
      clear hb9
      refine hK.out _ _ ?_ (fun hHeld => ?_)
      · exact ⟨(P0.later HW).facts.1, (P0.later HW).facts.2.1, (P1.later HW).facts.1, (P1.later HW).facts.2.1, (P2.later HW).facts.1, (P2.later HW).facts.2.1, (Bp.later HW).facts.1, (Bp.later HW).facts.2.1, (Bq.later HW).facts.1, (Bq.later HW).facts.2.1, (Br.later HW).facts.1, (Br.later HW).facts.2.1⟩
      clear hK K
      try simp only [Act.put, List.getElem_toArray, List.getElem_cons_succ, List.getElem_cons_zero, List.setIfInBounds_toArray, List.set_cons_zero, List.set_cons_succ]
      refine till_take (i := 41) (v := ?_) [42] rfl (by kernel_rfl) (by kernel_rfl) (by kernel_rfl) (by kernel_rfl) (fun _ _ _ h => h) (Or.inl ⟨by rfl, ?_⟩) (by assumption) ?_
      rotate_left
      · (intro w hSw; (try dsimp only at hSw); go_simp; try with_reducible rfl)
      simp only [Act.put, List.getElem_toArray, List.getElem_cons_succ, List.getElem_cons_zero, List.setIfInBounds_toArray, List.set_cons_zero, List.set_cons_succ]
      refine till_out (i := 42) (by kernel_rfl) rfl (by kernel_rfl) (fun K hK => ?_)
      go_simp
      refine hK.out _ _ ?_
      clear hK K
      try simp only [Act.put, List.getElem_toArray, List.getElem_cons_succ, List.getElem_cons_zero, List.setIfInBounds_toArray, List.set_cons_zero, List.set_cons_succ]
      refine till_done (by kernel_rfl) ?_ _
      go_wp2
      go_ret
      exact ⟨rfl, Below.step (unhide HB) HW⟩
  · have hf' : b = false := by simpa using hf
    subst hf'
    clear hb hf
    go_wp2_with fail
    refine (awake5_any _).mono ?_
    rintro e w2 ⟨rfl, hb2⟩
    go_wp2
    go_ret
    exact ⟨rfl, Below.step (unhide HB) hb2⟩

#print axioms quotDivides_walk
end Go.Proofs.Ytcafodggkhkpnaa
