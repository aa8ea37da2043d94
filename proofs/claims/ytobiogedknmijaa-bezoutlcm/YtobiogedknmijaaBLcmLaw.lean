/-
  The walk of BezoutLcm: it tells true.
-/
import Derived.Test.YtobiogedknmijaaFew6
import Derived.Test.YtobiogedknmijaaAwake6
import Derived.Test.YtobiogedknmijaaLcmNum
namespace Go.Proofs.Ytobiogedknmijaa
open Go.RowKit Lb

set_option maxRecDepth 20000 in
set_option maxHeartbeats 16000000 in
theorem bezoutLcm_walk (b0 : Bool) (a0 : Option Addr) (len0 cap0 : Nat) (xs0 : List Nat) (b1 : Bool) (a1 : Option Addr) (len1 cap1 : Nat) (xs1 : List Nat) (b2 : Bool) (a2 : Option Addr) (len2 cap2 : Nat) (xs2 : List Nat) (w : World) (r0 : RowAt w a0 len0 cap0 xs0) (r1 : RowAt w a1 len1 cap1 xs1) (r2 : RowAt w a2 len2 cap2 xs2) :
    Calls Try.prog 6 #[.agg #[.bool b0, .slice a0 len0 cap0], .agg #[.bool b1, .slice a1 len1 cap1], .agg #[.bool b2, .slice a2 len2 cap2]] w fun e w' => e = .returned (.bool true) ∧ Below w.heap.size w w' := by
  have hx0 := r0.int b0
  obtain ⟨z0, ez0⟩ : ∃ z, z = sgnd b0 (Lb.val xs0) := ⟨_, rfl⟩
  rw [← ez0] at hx0
  clear ez0 r0
  have hx1 := r1.int b1
  obtain ⟨z1, ez1⟩ : ∃ z, z = sgnd b1 (Lb.val xs1) := ⟨_, rfl⟩
  rw [← ez1] at hx1
  clear ez1 r1
  have hx2 := r2.int b2
  obtain ⟨z2, ez2⟩ : ∃ z, z = sgnd b2 (Lb.val xs2) := ⟨_, rfl⟩
  rw [← ez2] at hx2
  clear ez2 r2
  go_enter Try.func6, Try.ntmps6
  go_wp2_with fail
  obtain ⟨W0, hWe⟩ : ∃ W', W' = (((w.alloc (.cells #[.bool b0, .slice a0 len0 cap0] 24)).alloc (.cells #[.bool b1, .slice a1 len1 cap1] 24)).alloc (.cells #[.bool b2, .slice a2 len2 cap2] 24)) := ⟨_, rfl⟩
  obtain ⟨P0, P1, P2, hb0⟩ := boxes3 w b0 a0 len0 cap0 b1 a1 len1 cap1 b2 a2 len2 cap2 hWe
  have hsW : w.heap.size + 3 = W0.heap.size := by rw [hWe]; simp
  have hbv := below_new W0 (.cells #[.bool b0, .slice a0 len0 cap0, .bool b1, .slice a1 len1 cap1, .bool b2, .slice a2 len2 cap2] 24)
  have hv := vec3 (w := W0) (R := IntAt) (n := w.heap.size + 3) hsW ((hx0.later hb0).later hbv) ((hx1.later hb0).later hbv) ((hx2.later hb0).later hbv)
  have he := elts_new3 (w := W0) (b0 := b0) (a0 := a0) (l0 := len0) (c0 := cap0) (b1 := b1) (a1 := a1) (l1 := len1) (c1 := cap1) (b2 := b2) (a2 := a2) (l2 := len2) (c2 := cap2) (n := w.heap.size + 3) hsW
  rw [← hWe]
  clear hWe hsW
  refine (few6_any _ _ _ _ _ hv).mono ?_
  rintro e w1 ⟨q, rfl, hq, hb1⟩
  have hb2 := Below.step hbv hb1
  clear hb1 hbv hv
  replace P0 := P0.later hb2
  replace P1 := P1.later hb2
  replace P2 := P2.later hb2
  have HB := hide (Below.step hb0 hb2)
  clear hb0 hb2
  by_cases hf : q = true
  · subst hf
    obtain ⟨_, _, hsix⟩ := hq rfl
    have e0 : len0 ≤ 6 := hsix 0 _ _ _ _ _ _ (by omega) rfl he.1
    have e1 : len1 ≤ 6 := hsix 1 _ _ _ _ _ _ (by omega) rfl he.2.1
    have e2 : len2 ≤ 6 := hsix 2 _ _ _ _ _ _ (by omega) rfl he.2.2
    have h0 := ik_of (hx0.later (unhide HB)) e0 (by omega)
    have h1 := ik_of (hx1.later (unhide HB)) e1 (by omega)
    have h2 := ik_of (hx2.later (unhide HB)) e2 (by omega)
    obtain ⟨kx, ekx⟩ : ∃ kx, kx = 6 := ⟨_, rfl⟩
    rw [← ekx] at h0 h1 h2
    have hkx : kx ≤ 6 := by omega
    clear ekx
    have L0 := hide e0
    have L1 := hide e1
    have L2 := hide e2
    clear hq hsix he hx0 e0 hx1 e1 hx2 e2
    obtain ⟨mm, em⟩ : ∃ mm, mm = (((z0.tdiv (Int.gcd z0 z1 : Int) * z1).natAbs : Nat) : Int) := ⟨_, rfl⟩
    have EM := hide em.symm
    obtain ⟨d1, d2, d3, d4, d5⟩ := lcm_facts z0 z1 z2
    rw [← em] at d1 d2 d3 d4 d5
    have D1 := hide (show true = decide (z0 ∣ mm) from (decide_eq_true d1).symm)
    have D2 := hide (show true = decide (z1 ∣ mm) from (decide_eq_true d2).symm)
    have D3 := hide (show true = decide (mm ∣ z0 * z1 * z2) from (decide_eq_true d3).symm)
    have D4 := hide (show true = decide (mm * (Int.gcd z0 z1 : Int) = ((z0 * z1).natAbs : Int)) from (decide_eq_true d4).symm)
    obtain ⟨sm, es⟩ : ∃ s, s = mm.sign := ⟨_, rfl⟩
    have hsm : 0 ≤ sm := by rw [es]; exact sign_ge d5
    have ES := hide es
    clear em d1 d2 d3 d4 d5 es
    obtain ⟨fP01, fP02, _, _⟩ := P0.facts
    obtain ⟨fP11, fP12, _, _⟩ := P1.facts
    go_wp2_with fail
    refine (lcmK b0 a0 len0 cap0 z0 kx b1 a1 len1 cap1 z1 kx _ h0 h1 (by omega) (by omega)).mono ?_
    rintro e v1 ⟨bm, am, lm, cm, rfl, hm, hb9⟩
    clear fP01 fP02 fP11 fP12
    replace P0 := P0.later hb9
    replace P1 := P1.later hb9
    replace P2 := P2.later hb9
    replace h0 := h0.later hb9
    replace h1 := h1.later hb9
    replace h2 := h2.later hb9
    replace HB := hide (Below.step (unhide HB) hb9)
    clear hb9
    rw [unhide EM] at hm
    go_upto_region 4 with fail
    obtain ⟨v2, hWe⟩ : ∃ W', W' = (v1.alloc (.cells #[.bool bm, .slice am lm cm] 24)) := ⟨_, rfl⟩
    obtain ⟨Bm, hb9⟩ := boxes1 v1 bm am lm cm hWe
    rw [← hWe]
    clear hWe
    replace P0 := P0.later hb9
    replace P1 := P1.later hb9
    replace P2 := P2.later hb9
    replace h0 := h0.later hb9
    replace h1 := h1.later hb9
    replace h2 := h2.later hb9
    replace hm := hm.later hb9
    replace HB := hide (Below.step (unhide HB) hb9)
    clear hb9
    have hsP := P2.lt
    have hsB := Bm.lt
    have HW : Below v2.heap.size v2 v2.drew := (Below.refl _ _).drew
    refine till_start (fun w' => w'.cell? ⟨w.heap.size, 0, none⟩ = some (.bool b0) ∧ w'.cell? ⟨w.heap.size, 1, none⟩ = some (.slice a0 len0 cap0) ∧ w'.cell? ⟨w.heap.size + 1, 0, none⟩ = some (.bool b1) ∧ w'.cell? ⟨w.heap.size + 1, 1, none⟩ = some (.slice a1 len1 cap1) ∧ w'.cell? ⟨w.heap.size + 2, 0, none⟩ = some (.bool b2) ∧ w'.cell? ⟨w.heap.size + 2, 1, none⟩ = some (.slice a2 len2 cap2)) 6 (by kernel_rfl) ?_ (fun hHeld => ?_)
    · exact ⟨(P0.later HW).facts.1, (P0.later HW).facts.2.1, (P1.later HW).facts.1, (P1.later HW).facts.2.1, (P2.later HW).facts.1, (P2.later HW).facts.2.1⟩
    obtain ⟨vd3, hvd⟩ : ∃ v, v = v2.drew := ⟨_, rfl⟩
    rw [← hvd] at HW hHeld ⊢
    clear hvd
    refine till_take (i := 0) (v := ?_) [2, 4, 6] rfl (by kernel_rfl) (by kernel_rfl) (by kernel_rfl) (by kernel_rfl) (fun _ _ _ h => h) (Or.inl ⟨by rfl, ?_⟩) (by assumption) ?_
    rotate_left
    · (intro wx hSw; (try dsimp only at hSw); go_simp; (try rw [if_neg (by omega)]); try with_reducible rfl)
    simp only [Act.put, List.getElem_toArray, List.getElem_cons_zero, List.setIfInBounds_toArray, List.set_cons_zero, List.set_cons_succ]
    refine till_take (i := 1) (v := ?_) [2, 4, 6] rfl (by kernel_rfl) (by kernel_rfl) (by kernel_rfl) (by kernel_rfl) (fun _ _ _ h => h) (Or.inl ⟨by rfl, ?_⟩) (by assumption) ?_
    rotate_left
    · (intro wx hSw; (try dsimp only at hSw); go_simp; (try rw [if_neg (by omega)]); try with_reducible rfl)
    simp only [Act.put, List.getElem_toArray, List.getElem_cons_succ, List.getElem_cons_zero, List.setIfInBounds_toArray, List.set_cons_zero, List.set_cons_succ]
    refine till_take (i := 3) (v := ?_) [4, 6] rfl (by kernel_rfl) (by kernel_rfl) (by kernel_rfl) (by kernel_rfl) (fun _ _ _ h => h) (Or.inl ⟨by rfl, ?_⟩) (by assumption) ?_
    rotate_left
    · (intro wx hSw; (try dsimp only at hSw); go_simp; (try rw [if_neg (by omega)]); try with_reducible rfl)
    simp only [Act.put, List.getElem_toArray, List.getElem_cons_succ, List.getElem_cons_zero, List.setIfInBounds_toArray, List.set_cons_zero, List.set_cons_succ]
    refine till_name (fun act0 hact0 => ?_)
    have HA := hide hact0
    clear hact0
    refine till_mid 1 #[true, true, true, true, true, true, false] (ι := Bool × Option Addr × Nat × Nat × Bool × Option Addr × Nat × Nat × Nat) (fun (bp, ap, lp, cp, bk, ak, lk, ck, g8) => (((act0.put (some 21) (.agg #[.bool bp, .slice ap lp cp])).put (some 23) (.agg #[.bool bk, .slice ak lk ck])).put (some 8) ((.pointer (some ⟨g8, 0, none⟩))))) (fun (bp, ap, lp, cp, bk, ak, lk, ck, g8) w => Below v2.heap.size v2 w ∧ FK w bk ak lk ck (z0 * z1 * z2) (kx + kx + kx) ∧ Box w g8 false none 0 0 ∧ v2.heap.size ≤ g8) ?_ (fun J0 => ?_)
    · rintro ⟨bp, ap, lp, cp, bk, ak, lk, ck, g8⟩ wj hI
      try dsimp only at hI ⊢
      obtain ⟨HW, hk, B8, hg8⟩ := hI
      have hHeld : wj.cell? ⟨w.heap.size, 0, none⟩ = some (.bool b0) ∧ wj.cell? ⟨w.heap.size, 1, none⟩ = some (.slice a0 len0 cap0) ∧ wj.cell? ⟨w.heap.size + 1, 0, none⟩ = some (.bool b1) ∧ wj.cell? ⟨w.heap.size + 1, 1, none⟩ = some (.slice a1 len1 cap1) ∧ wj.cell? ⟨w.heap.size + 2, 0, none⟩ = some (.bool b2) ∧ wj.cell? ⟨w.heap.size + 2, 1, none⟩ = some (.slice a2 len2 cap2) := by exact ⟨(P0.later HW).facts.1, (P0.later HW).facts.2.1, (P1.later HW).facts.1, (P1.later HW).facts.2.1, (P2.later HW).facts.1, (P2.later HW).facts.2.1⟩
      rw [unhide HA]
      simp only [Act.put, List.setIfInBounds_toArray, List.set_cons_zero, List.set_cons_succ]
      obtain ⟨q1B8, q2B8, q3B8, q4B8⟩ := B8.facts
      have hltB8 := B8.lt
      refine till_out (i := 6) (by kernel_rfl) rfl (by kernel_rfl) (fun K hK => ?_)
      go_simp
      refine hK.out _ _ ?_
      clear hK K
      try simp only [List.setIfInBounds_toArray, List.set_cons_zero, List.set_cons_succ]
      refine till_done (by kernel_rfl) ?_ _
      have n8 := B8.noLimb
      obtain ⟨W8, hW8⟩ : ∃ W8, W8 = ((wj.setCell ⟨g8, 0, none⟩ (.bool bk)).setCell ⟨g8, 1, none⟩ (.slice ak lk ck)) := ⟨_, rfl⟩
      rw [← hW8]
      have Bk : Box W8 g8 bk ak lk ck := by rw [hW8]; exact B8.put bk ak lk ck
      replace P0 : Box W8 (w.heap.size) b0 a0 len0 cap0 := by rw [hW8]; exact (P0.later HW).other (g' := g8) (by omega) bk ak lk ck
      replace P1 : Box W8 (w.heap.size + 1) b1 a1 len1 cap1 := by rw [hW8]; exact (P1.later HW).other (g' := g8) (by omega) bk ak lk ck
      replace P2 : Box W8 (w.heap.size + 2) b2 a2 len2 cap2 := by rw [hW8]; exact (P2.later HW).other (g' := g8) (by omega) bk ak lk ck
      replace Bm : Box W8 (v1.heap.size) bm am lm cm := by rw [hW8]; exact (Bm.later HW).other (g' := g8) (by omega) bk ak lk ck
      replace h0 : IK W8 b0 a0 len0 cap0 z0 kx := by rw [hW8]; exact (h0.later HW).put n8 bk ak lk ck
      replace h1 : IK W8 b1 a1 len1 cap1 z1 kx := by rw [hW8]; exact (h1.later HW).put n8 bk ak lk ck
      replace h2 : IK W8 b2 a2 len2 cap2 z2 kx := by rw [hW8]; exact (h2.later HW).put n8 bk ak lk ck
      replace hm : FK W8 bm am lm cm mm (kx + kx) := by rw [hW8]; exact (hm.later HW).put n8 bk ak lk ck
      replace hk : FK W8 bk ak lk ck (z0 * z1 * z2) (kx + kx + kx) := by rw [hW8]; exact hk.put n8 bk ak lk ck
      replace HB : Hid (Below w.heap.size w W8) := by rw [hW8]; exact below_put (Below.step (unhide HB) HW) (by omega) _ _ _ _
      clear hW8 HW hHeld B8 n8 q1B8 q2B8 q3B8 q4B8
      go_wp2_with fail
      have HW : Below W8.heap.size W8 W8.drew := (Below.refl _ _).drew
      refine till_start (fun w' => w'.cell? ⟨w.heap.size, 0, none⟩ = some (.bool b0) ∧ w'.cell? ⟨w.heap.size, 1, none⟩ = some (.slice a0 len0 cap0) ∧ w'.cell? ⟨w.heap.size + 1, 0, none⟩ = some (.bool b1) ∧ w'.cell? ⟨w.heap.size + 1, 1, none⟩ = some (.slice a1 len1 cap1) ∧ w'.cell? ⟨v1.heap.size, 0, none⟩ = some (.bool bm) ∧ w'.cell? ⟨v1.heap.size, 1, none⟩ = some (.slice am lm cm) ∧ w'.cell? ⟨g8, 0, none⟩ = some (.bool bk) ∧ w'.cell? ⟨g8, 1, none⟩ = some (.slice ak lk ck)) 33 (by kernel_rfl) ?_ (fun hHeld => ?_)
      · exact ⟨(P0.later HW).facts.1, (P0.later HW).facts.2.1, (P1.later HW).facts.1, (P1.later HW).facts.2.1, (Bm.later HW).facts.1, (Bm.later HW).facts.2.1, (Bk.later HW).facts.1, (Bk.later HW).facts.2.1⟩
      refine till_take (i := 0) (v := ?_) [2, 3, 4, 5, 6, 7, 8, 9, 10, 11, 12, 13, 14, 15, 16, 17, 18, 19, 20, 21, 22, 23, 24, 25, 26, 27, 28, 29, 30, 31, 32, 33] rfl (by kernel_rfl) (by kernel_rfl) (by kernel_rfl) (by kernel_rfl) (fun _ _ _ h => h) (Or.inl ⟨by rfl, ?_⟩) (by assumption) ?_
      rotate_left
      · (intro w hSw; (try dsimp only at hSw); go_simp; try with_reducible rfl)
      simp only [Act.put, List.getElem_toArray, List.getElem_cons_zero, List.setIfInBounds_toArray, List.set_cons_zero, List.set_cons_succ]
      refine till_take (i := 1) (v := ?_) [2, 3, 4, 5, 6, 7, 8, 9, 10, 11, 12, 13, 14, 15, 16, 17, 18, 19, 20, 21, 22, 23, 24, 25, 26, 27, 28, 29, 30, 31, 32, 33] rfl (by kernel_rfl) (by kernel_rfl) (by kernel_rfl) (by kernel_rfl) (fun _ _ _ h => h) (Or.inl ⟨by rfl, ?_⟩) (by assumption) ?_
      rotate_left
      · (intro w hSw; (try dsimp only at hSw); go_simp; try with_reducible rfl)
      simp only [Act.put, List.getElem_toArray, List.getElem_cons_succ, List.getElem_cons_zero, List.setIfInBounds_toArray, List.set_cons_zero, List.set_cons_succ]
      refine till_in (i := 2) (by kernel_rfl) rfl (fun K hK => ?_)
      go_simp
      refine (dividesK b0 a0 len0 cap0 z0 kx bm am lm cm mm (kx + kx) true _ (h0.later HW) ((hm.later HW).ik (by omega)) (unhide D1)).mono ?_
      rintro e v101 ⟨rfl, hb9⟩
      replace HW := Below.step HW hb9
      clear hb9
      refine hK.out _ _ ?_ (fun hHeld => ?_)
      · exact ⟨(P0.later HW).facts.1, (P0.later HW).facts.2.1, (P1.later HW).facts.1, (P1.later HW).facts.2.1, (Bm.later HW).facts.1, (Bm.later HW).facts.2.1, (Bk.later HW).facts.1, (Bk.later HW).facts.2.1⟩
      clear hK K
      try simp only [Act.put, List.getElem_toArray, List.getElem_cons_succ, List.getElem_cons_zero, List.setIfInBounds_toArray, List.set_cons_zero, List.set_cons_succ]
      refine till_take (i := 3) (v := ?_) [4, 5, 6, 7, 8, 9, 10, 11, 12, 13, 14, 15, 16, 17, 18, 19, 20, 21, 22, 23, 24, 25, 26, 27, 28, 29, 30, 31, 32, 33] rfl (by kernel_rfl) (by kernel_rfl) (by kernel_rfl) (by kernel_rfl) (fun _ _ _ h => h) (Or.inl ⟨by rfl, ?_⟩) (by assumption) ?_
      rotate_left
      · (intro w hSw; (try dsimp only at hSw); go_simp; try with_reducible rfl)
      simp only [Act.put, List.getElem_toArray, List.getElem_cons_succ, List.getElem_cons_zero, List.setIfInBounds_toArray, List.set_cons_zero, List.set_cons_succ]
      refine till_take (i := 4) (v := ?_) [6, 7, 8, 9, 10, 11, 12, 13, 14, 15, 16, 17, 18, 19, 20, 21, 22, 23, 24, 25, 26, 27, 28, 29, 30, 31, 32, 33] rfl (by kernel_rfl) (by kernel_rfl) (by kernel_rfl) (by kernel_rfl) (fun _ _ _ h => h) (Or.inl ⟨by rfl, ?_⟩) (by assumption) ?_
      rotate_left
      · (intro w hSw; (try dsimp only at hSw); go_simp; try with_reducible rfl)
      simp only [Act.put, List.getElem_toArray, List.getElem_cons_succ, List.getElem_cons_zero, List.setIfInBounds_toArray, List.set_cons_zero, List.set_cons_succ]
      refine till_take (i := 5) (v := ?_) [6, 7, 8, 9, 10, 11, 12, 13, 14, 15, 16, 17, 18, 19, 20, 21, 22, 23, 24, 25, 26, 27, 28, 29, 30, 31, 32, 33] rfl (by kernel_rfl) (by kernel_rfl) (by kernel_rfl) (by kernel_rfl) (fun _ _ _ h => h) (Or.inl ⟨by rfl, ?_⟩) (by assumption) ?_
      rotate_left
      · (intro w hSw; (try dsimp only at hSw); go_simp; try with_reducible rfl)
      simp only [Act.put, List.getElem_toArray, List.getElem_cons_succ, List.getElem_cons_zero, List.setIfInBounds_toArray, List.set_cons_zero, List.set_cons_succ]
      refine till_in (i := 6) (by kernel_rfl) rfl (fun K hK => ?_)
      go_simp
      refine (dividesK b1 a1 len1 cap1 z1 kx bm am lm cm mm (kx + kx) true _ (h1.later HW) ((hm.later HW).ik (by omega)) (unhide D2)).mono ?_
      rintro e v102 ⟨rfl, hb9⟩
      replace HW := Below.step HW hb9
      clear hb9
      refine hK.out _ _ ?_ (fun hHeld => ?_)
      · exact ⟨(P0.later HW).facts.1, (P0.later HW).facts.2.1, (P1.later HW).facts.1, (P1.later HW).facts.2.1, (Bm.later HW).facts.1, (Bm.later HW).facts.2.1, (Bk.later HW).facts.1, (Bk.later HW).facts.2.1⟩
      clear hK K
      try simp only [Act.put, List.getElem_toArray, List.getElem_cons_succ, List.getElem_cons_zero, List.setIfInBounds_toArray, List.set_cons_zero, List.set_cons_succ]
      refine till_take (i := 7) (v := ?_) [8, 9, 10, 11, 12, 13, 14, 15, 16, 17, 18, 19, 20, 21, 22, 23, 24, 25, 26, 27, 28, 29, 30, 31, 32, 33] rfl (by kernel_rfl) (by kernel_rfl) (by kernel_rfl) (by kernel_rfl) (fun _ _ _ h => h) (Or.inl ⟨by rfl, ?_⟩) (by assumption) ?_
      rotate_left
      · (intro w hSw; (try dsimp only at hSw); go_simp; try with_reducible rfl)
      simp only [Act.put, List.getElem_toArray, List.getElem_cons_succ, List.getElem_cons_zero, List.setIfInBounds_toArray, List.set_cons_zero, List.set_cons_succ]
      refine till_take (i := 8) (v := ?_) [9, 10, 11, 12, 13, 14, 15, 16, 17, 18, 19, 20, 21, 22, 23, 24, 25, 26, 27, 28, 29, 30, 31, 32, 33] rfl (by kernel_rfl) (by kernel_rfl) (by kernel_rfl) (by kernel_rfl) (fun _ _ _ h => h) (Or.inl ⟨by rfl, ?_⟩) (by assumption) ?_
      rotate_left
      · (intro w hSw; (try dsimp only at hSw); go_simp; try with_reducible rfl)
      simp only [Act.put, List.getElem_toArray, List.getElem_cons_succ, List.getElem_cons_zero, List.setIfInBounds_toArray, List.set_cons_zero, List.set_cons_succ]
      refine till_take (i := 9) (v := ?_) [11, 12, 13, 14, 15, 16, 17, 18, 19, 20, 21, 22, 23, 24, 25, 26, 27, 28, 29, 30, 31, 32, 33] rfl (by kernel_rfl) (by kernel_rfl) (by kernel_rfl) (by kernel_rfl) (fun _ _ _ h => h) (Or.inl ⟨by rfl, ?_⟩) (by assumption) ?_
      rotate_left
      · (intro w hSw; (try dsimp only at hSw); go_simp; try with_reducible rfl)
      simp only [Act.put, List.getElem_toArray, List.getElem_cons_succ, List.getElem_cons_zero, List.setIfInBounds_toArray, List.set_cons_zero, List.set_cons_succ]
      refine till_take (i := 10) (v := ?_) [11, 12, 13, 14, 15, 16, 17, 18, 19, 20, 21, 22, 23, 24, 25, 26, 27, 28, 29, 30, 31, 32, 33] rfl (by kernel_rfl) (by kernel_rfl) (by kernel_rfl) (by kernel_rfl) (fun _ _ _ h => h) (Or.inl ⟨by rfl, ?_⟩) (by assumption) ?_
      rotate_left
      · (intro w hSw; (try dsimp only at hSw); go_simp; try with_reducible rfl)
      simp only [Act.put, List.getElem_toArray, List.getElem_cons_succ, List.getElem_cons_zero, List.setIfInBounds_toArray, List.set_cons_zero, List.set_cons_succ]
      refine till_in (i := 11) (by kernel_rfl) rfl (fun K hK => ?_)
      go_simp
      refine (dividesK bm am lm cm mm (kx + kx) bk ak lk ck (z0 * z1 * z2) (kx + kx + kx) true _ ((hm.later HW).ik (by omega)) ((hk.later HW).ik (by omega)) (unhide D3)).mono ?_
      rintro e v103 ⟨rfl, hb9⟩
      replace HW := Below.step HW hb9
      clear hb9
      refine hK.out _ _ ?_ (fun hHeld => ?_)
      · exact ⟨(P0.later HW).facts.1, (P0.later HW).facts.2.1, (P1.later HW).facts.1, (P1.later HW).facts.2.1, (Bm.later HW).facts.1, (Bm.later HW).facts.2.1, (Bk.later HW).facts.1, (Bk.later HW).facts.2.1⟩
      clear hK K
      try simp only [Act.put, List.getElem_toArray, List.getElem_cons_succ, List.getElem_cons_zero, List.setIfInBounds_toArray, List.set_cons_zero, List.set_cons_succ]
      refine till_take (i := 12) (v := ?_) [13, 14, 15, 16, 17, 18, 19, 20, 21, 22, 23, 24, 25, 26, 27, 28, 29, 30, 31, 32, 33] rfl (by kernel_rfl) (by kernel_rfl) (by kernel_rfl) (by kernel_rfl) (fun _ _ _ h => h) (Or.inl ⟨by rfl, ?_⟩) (by assumption) ?_
      rotate_left
      · (intro w hSw; (try dsimp only at hSw); go_simp; try with_reducible rfl)
      simp only [Act.put, List.getElem_toArray, List.getElem_cons_succ, List.getElem_cons_zero, List.setIfInBounds_toArray, List.set_cons_zero, List.set_cons_succ]
      refine till_take (i := 13) (v := ?_) [14, 15, 16, 17, 18, 19, 20, 21, 22, 23, 24, 25, 26, 27, 28, 29, 30, 31, 32, 33] rfl (by kernel_rfl) (by kernel_rfl) (by kernel_rfl) (by kernel_rfl) (fun _ _ _ h => h) (Or.inl ⟨by rfl, ?_⟩) (by assumption) ?_
      rotate_left
      · (intro w hSw; (try dsimp only at hSw); go_simp; try with_reducible rfl)
      simp only [Act.put, List.getElem_toArray, List.getElem_cons_succ, List.getElem_cons_zero, List.setIfInBounds_toArray, List.set_cons_zero, List.set_cons_succ]
      refine till_take (i := 14) (v := ?_) [15, 16, 17, 18, 19, 20, 21, 22, 23, 24, 25, 26, 27, 28, 29, 30, 31, 32, 33] rfl (by kernel_rfl) (by kernel_rfl) (by kernel_rfl) (by kernel_rfl) (fun _ _ _ h => h) (Or.inl ⟨by rfl, ?_⟩) (by assumption) ?_
      rotate_left
      · (intro w hSw; (try dsimp only at hSw); go_simp; try with_reducible rfl)
      simp only [Act.put, List.getElem_toArray, List.getElem_cons_succ, List.getElem_cons_zero, List.setIfInBounds_toArray, List.set_cons_zero, List.set_cons_succ]
      refine till_in (i := 15) (by kernel_rfl) rfl (fun K hK => ?_)
      go_simp
      refine (signK bm am lm cm mm (kx + kx) sm _ ((hm.later HW).ik (by omega)) (unhide ES)).mono ?_
      rintro e v104 ⟨rfl, hb9⟩
      replace HW := Below.step HW hb9
      clear hb9
      refine hK.out _ _ ?_ (fun hHeld => ?_)
      · exact ⟨(P0.later HW).facts.1, (P0.later HW).facts.2.1, (P1.later HW).facts.1, (P1.later HW).facts.2.1, (Bm.later HW).facts.1, (Bm.later HW).facts.2.1, (Bk.later HW).facts.1, (Bk.later HW).facts.2.1⟩
      clear hK K
      try simp only [Act.put, List.getElem_toArray, List.getElem_cons_succ, List.getElem_cons_zero, List.setIfInBounds_toArray, List.set_cons_zero, List.set_cons_succ]
      refine till_take (i := 16) (v := ?_) [17, 18, 19, 20, 21, 22, 23, 24, 25, 26, 27, 28, 29, 30, 31, 32, 33] rfl (by kernel_rfl) (by kernel_rfl) (by kernel_rfl) (by kernel_rfl) (fun _ _ _ h => h) (Or.inl ⟨by rfl, ?_⟩) (by assumption) ?_
      rotate_left
      · (intro w hSw; (try dsimp only at hSw); go_simp; try with_reducible rfl)
      simp only [Act.put, List.getElem_toArray, List.getElem_cons_succ, List.getElem_cons_zero, List.setIfInBounds_toArray, List.set_cons_zero, List.set_cons_succ]
      refine till_take (i := 17) (v := ?_) [18, 19, 20, 21, 22, 23, 24, 25, 26, 27, 28, 29, 30, 31, 32, 33] rfl (by kernel_rfl) (by kernel_rfl) (by kernel_rfl) (by kernel_rfl) (fun _ _ _ h => h) (Or.inl ⟨by rfl, ?_⟩) (by assumption) ?_
      rotate_left
      · (intro w hSw; (try dsimp only at hSw); go_simp; try with_reducible rfl)
      simp only [Act.put, List.getElem_toArray, List.getElem_cons_succ, List.getElem_cons_zero, List.setIfInBounds_toArray, List.set_cons_zero, List.set_cons_succ]
      refine till_take (i := 18) (v := ?_) [19, 20, 21, 22, 23, 24, 25, 26, 27, 28, 29, 30, 31, 32, 33] rfl (by kernel_rfl) (by kernel_rfl) (by kernel_rfl) (by kernel_rfl) (fun _ _ _ h => h) (Or.inl ⟨by rfl, ?_⟩) (by assumption) ?_
      rotate_left
      · (intro w hSw; (try dsimp only at hSw); go_simp; try with_reducible rfl)
      simp only [Act.put, List.getElem_toArray, List.getElem_cons_succ, List.getElem_cons_zero, List.setIfInBounds_toArray, List.set_cons_zero, List.set_cons_succ]
      refine till_take (i := 19) (v := ?_) [23, 26, 27, 28, 29, 30, 31, 32, 33] rfl (by kernel_rfl) (by kernel_rfl) (by kernel_rfl) (by kernel_rfl) (fun _ _ _ h => h) (Or.inl ⟨by rfl, ?_⟩) (by assumption) ?_
      rotate_left
      · (intro w hSw; (try dsimp only at hSw); go_simp; try with_reducible rfl)
      simp only [Act.put, List.getElem_toArray, List.getElem_cons_succ, List.getElem_cons_zero, List.setIfInBounds_toArray, List.set_cons_zero, List.set_cons_succ]
      refine till_take (i := 20) (v := ?_) [22, 23, 26, 27, 28, 29, 30, 31, 32, 33] rfl (by kernel_rfl) (by kernel_rfl) (by kernel_rfl) (by kernel_rfl) (fun _ _ _ h => h) (Or.inl ⟨by rfl, ?_⟩) (by assumption) ?_
      rotate_left
      · (intro w hSw; (try dsimp only at hSw); go_simp; try with_reducible rfl)
      simp only [Act.put, List.getElem_toArray, List.getElem_cons_succ, List.getElem_cons_zero, List.setIfInBounds_toArray, List.set_cons_zero, List.set_cons_succ]
      refine till_take (i := 21) (v := ?_) [22, 23, 26, 27, 28, 29, 30, 31, 32, 33] rfl (by kernel_rfl) (by kernel_rfl) (by kernel_rfl) (by kernel_rfl) (fun _ _ _ h => h) (Or.inl ⟨by rfl, ?_⟩) (by assumption) ?_
      rotate_left
      · (intro w hSw; (try dsimp only at hSw); go_simp; try with_reducible rfl)
      simp only [Act.put, List.getElem_toArray, List.getElem_cons_succ, List.getElem_cons_zero, List.setIfInBounds_toArray, List.set_cons_zero, List.set_cons_succ]
      refine till_take (i := 24) (v := ?_) [26, 27, 28, 29, 30, 31, 32, 33] rfl (by kernel_rfl) (by kernel_rfl) (by kernel_rfl) (by kernel_rfl) (fun _ _ _ h => h) (Or.inl ⟨by rfl, ?_⟩) (by assumption) ?_
      rotate_left
      · (intro w hSw; (try dsimp only at hSw); go_simp; try with_reducible rfl)
      simp only [Act.put, List.getElem_toArray, List.getElem_cons_succ, List.getElem_cons_zero, List.setIfInBounds_toArray, List.set_cons_zero, List.set_cons_succ]
      refine till_take (i := 25) (v := ?_) [26, 27, 28, 29, 30, 31, 32, 33] rfl (by kernel_rfl) (by kernel_rfl) (by kernel_rfl) (by kernel_rfl) (fun _ _ _ h => h) (Or.inl ⟨by rfl, ?_⟩) (by assumption) ?_
      rotate_left
      · (intro w hSw; (try dsimp only at hSw); go_simp; try with_reducible rfl)
      simp only [Act.put, List.getElem_toArray, List.getElem_cons_succ, List.getElem_cons_zero, List.setIfInBounds_toArray, List.set_cons_zero, List.set_cons_succ]
      refine till_in (i := 22) (by kernel_rfl) rfl (fun K hK => ?_)
      go_simp
      refine (gcdK b0 a0 len0 cap0 z0 kx b1 a1 len1 cap1 z1 kx _ (h0.later HW) (h1.later HW) (by omega) (by omega)).mono ?_
      rintro e v105 ⟨bg, ag, lg, cg, rfl, hg, hb9⟩
      replace HW := Below.step HW hb9
      clear hb9
      refine hK.out _ _ ?_ (fun hHeld => ?_)
      · exact ⟨(P0.later HW).facts.1, (P0.later HW).facts.2.1, (P1.later HW).facts.1, (P1.later HW).facts.2.1, (Bm.later HW).facts.1, (Bm.later HW).facts.2.1, (Bk.later HW).facts.1, (Bk.later HW).facts.2.1⟩
      clear hK K
      try simp only [Act.put, List.getElem_toArray, List.getElem_cons_succ, List.getElem_cons_zero, List.setIfInBounds_toArray, List.set_cons_zero, List.set_cons_succ]
      refine till_in (i := 23) (by kernel_rfl) rfl (fun K hK => ?_)
      go_simp
      refine (mulK bm am lm cm mm (kx + kx) bg ag lg cg (Int.gcd z0 z1 : Int) (max kx kx) _ ((hm.later HW).ik (by omega)) (hg.ik (by omega))).mono ?_
      rintro e v106 ⟨bn, an, ln, cn, rfl, hn, hb9⟩
      replace HW := Below.step HW hb9
      replace hg := hg.later hb9
      clear hb9 hg
      refine hK.out _ _ ?_ (fun hHeld => ?_)
      · exact ⟨(P0.later HW).facts.1, (P0.later HW).facts.2.1, (P1.later HW).facts.1, (P1.later HW).facts.2.1, (Bm.later HW).facts.1, (Bm.later HW).facts.2.1, (Bk.later HW).facts.1, (Bk.later HW).facts.2.1⟩
      clear hK K
      try simp only [Act.put, List.getElem_toArray, List.getElem_cons_succ, List.getElem_cons_zero, List.setIfInBounds_toArray, List.set_cons_zero, List.set_cons_succ]
      refine till_in (i := 26) (by kernel_rfl) rfl (fun K hK => ?_)
      go_simp
      refine (mulK b0 a0 len0 cap0 z0 kx b1 a1 len1 cap1 z1 kx _ (h0.later HW) (h1.later HW)).mono ?_
      rintro e v107 ⟨bc, ac, lc, cc, rfl, hc, hb9⟩
      replace HW := Below.step HW hb9
      replace hn := hn.later hb9
      clear hb9
      refine hK.out _ _ ?_ (fun hHeld => ?_)
      · exact ⟨(P0.later HW).facts.1, (P0.later HW).facts.2.1, (P1.later HW).facts.1, (P1.later HW).facts.2.1, (Bm.later HW).facts.1, (Bm.later HW).facts.2.1, (Bk.later HW).facts.1, (Bk.later HW).facts.2.1⟩
      clear hK K
      try simp only [Act.put, List.getElem_toArray, List.getElem_cons_succ, List.getElem_cons_zero, List.setIfInBounds_toArray, List.set_cons_zero, List.set_cons_succ]
      refine till_in (i := 27) (by kernel_rfl) rfl (fun K hK => ?_)
      go_simp
      refine (absK bc ac lc cc (z0 * z1) (kx + kx) _ (hc.ik (by omega))).mono ?_
      rintro e v108 ⟨bd, ad, ld, cd, rfl, hd, hb9⟩
      replace HW := Below.step HW hb9
      replace hn := hn.later hb9
      replace hc := hc.later hb9
      clear hb9 hc
      refine hK.out _ _ ?_ (fun hHeld => ?_)
      · exact ⟨(P0.later HW).facts.1, (P0.later HW).facts.2.1, (P1.later HW).facts.1, (P1.later HW).facts.2.1, (Bm.later HW).facts.1, (Bm.later HW).facts.2.1, (Bk.later HW).facts.1, (Bk.later HW).facts.2.1⟩
      clear hK K
      try simp only [Act.put, List.getElem_toArray, List.getElem_cons_succ, List.getElem_cons_zero, List.setIfInBounds_toArray, List.set_cons_zero, List.set_cons_succ]
      refine till_in (i := 28) (by kernel_rfl) rfl (fun K hK => ?_)
      go_simp
      refine (sameK bn an ln cn (mm * (Int.gcd z0 z1 : Int)) (kx + kx + max kx kx) bd ad ld cd ((z0 * z1).natAbs : Int) (kx + kx) true _ (hn.ik (by omega)) (hd.ik (by omega)) (unhide D4)).mono ?_
      rintro e v109 ⟨rfl, hb9⟩
      replace HW := Below.step HW hb9
      replace hn := hn.later hb9
      replace hd := hd.later hb9
      clear hb9 hn hd
      refine hK.out _ _ ?_ (fun hHeld => ?_)
      · exact ⟨(P0.later HW).facts.1, (P0.later HW).facts.2.1, (P1.later HW).facts.1, (P1.later HW).facts.2.1, (Bm.later HW).facts.1, (Bm.later HW).facts.2.1, (Bk.later HW).facts.1, (Bk.later HW).facts.2.1⟩
      clear hK K
      try simp only [Act.put, List.getElem_toArray, List.getElem_cons_succ, List.getElem_cons_zero, List.setIfInBounds_toArray, List.set_cons_zero, List.set_cons_succ]
      refine till_take (i := 29) (v := ?_) [30, 31, 32, 33] rfl (by kernel_rfl) (by kernel_rfl) (by kernel_rfl) (by kernel_rfl) (fun _ _ _ h => h) (Or.inl ⟨by rfl, ?_⟩) (by assumption) ?_
      rotate_left
      · (intro w hSw; (try dsimp only at hSw); go_simp; try with_reducible rfl)
      simp only [Act.put, List.getElem_toArray, List.getElem_cons_succ, List.getElem_cons_zero, List.setIfInBounds_toArray, List.set_cons_zero, List.set_cons_succ]
      refine till_take (i := 30) (v := ?_) [31, 32, 33] rfl (by kernel_rfl) (by kernel_rfl) (by kernel_rfl) (by kernel_rfl) (fun _ _ _ h => h) (Or.inl ⟨by rfl, ?_⟩) (by assumption) ?_
      rotate_left
      · (intro w hSw; (try dsimp only at hSw); go_simp; try with_reducible rfl)
      simp only [Act.put, List.getElem_toArray, List.getElem_cons_succ, List.getElem_cons_zero, List.setIfInBounds_toArray, List.set_cons_zero, List.set_cons_succ]
      refine till_in (i := 31) (by kernel_rfl) rfl (fun K hK => ?_)
      go_simp
      refine (awake6_any _).mono ?_
      rintro e v110 ⟨rfl, hb9⟩
      replace HW := Below.step HW hb9
      clear hb9
      refine hK.out _ _ ?_ (fun hHeld => ?_)
      · exact ⟨(P0.later HW).facts.1, (P0.later HW).facts.2.1, (P1.later HW).facts.1, (P1.later HW).facts.2.1, (Bm.later HW).facts.1, (Bm.later HW).facts.2.1, (Bk.later HW).facts.1, (Bk.later HW).facts.2.1⟩
      clear hK K
      try simp only [Act.put, List.getElem_toArray, List.getElem_cons_succ, List.getElem_cons_zero, List.setIfInBounds_toArray, List.set_cons_zero, List.set_cons_succ]
      refine till_take (i := 32) (v := ?_) [33] rfl (by kernel_rfl) (by kernel_rfl) (by kernel_rfl) (by kernel_rfl) (fun _ _ _ h => h) (Or.inl ⟨by rfl, ?_⟩) (by assumption) ?_
      rotate_left
      · (intro w hSw; (try dsimp only at hSw); go_simp; try with_reducible rfl)
      simp only [Act.put, List.getElem_toArray, List.getElem_cons_succ, List.getElem_cons_zero, List.setIfInBounds_toArray, List.set_cons_zero, List.set_cons_succ]
      refine till_out (i := 33) (by kernel_rfl) rfl (by kernel_rfl) (fun K hK => ?_)
      go_simp
      refine hK.out _ _ ?_
      clear hK K
      try simp only [Act.put, List.getElem_toArray, List.getElem_cons_succ, List.getElem_cons_zero, List.setIfInBounds_toArray, List.set_cons_zero, List.set_cons_succ]
      refine till_done (by kernel_rfl) ?_ _
      go_wp2
      go_ret
      exact ⟨rfl, Below.step (unhide HB) HW⟩
    refine till_mid 2 #[true, true, true, true, false, true, false] (ι := Bool × Option Addr × Nat × Nat × Nat) (fun (bp, ap, lp, cp, g8) => ((act0.put (some 21) (.agg #[.bool bp, .slice ap lp cp])).put (some 8) ((.pointer (some ⟨g8, 0, none⟩))))) (fun (bp, ap, lp, cp, g8) w => Below v2.heap.size v2 w ∧ FK w bp ap lp cp (z0 * z1) (kx + kx) ∧ Box w g8 false none 0 0 ∧ v2.heap.size ≤ g8) ?_ (fun J1 => ?_)
    · rintro ⟨bp, ap, lp, cp, g8⟩ wj hI
      try dsimp only at hI ⊢
      obtain ⟨HW, hp, B8, hg8⟩ := hI
      have hHeld : wj.cell? ⟨w.heap.size, 0, none⟩ = some (.bool b0) ∧ wj.cell? ⟨w.heap.size, 1, none⟩ = some (.slice a0 len0 cap0) ∧ wj.cell? ⟨w.heap.size + 1, 0, none⟩ = some (.bool b1) ∧ wj.cell? ⟨w.heap.size + 1, 1, none⟩ = some (.slice a1 len1 cap1) ∧ wj.cell? ⟨w.heap.size + 2, 0, none⟩ = some (.bool b2) ∧ wj.cell? ⟨w.heap.size + 2, 1, none⟩ = some (.slice a2 len2 cap2) := by exact ⟨(P0.later HW).facts.1, (P0.later HW).facts.2.1, (P1.later HW).facts.1, (P1.later HW).facts.2.1, (P2.later HW).facts.1, (P2.later HW).facts.2.1⟩
      rw [unhide HA]
      simp only [Act.put, List.setIfInBounds_toArray, List.set_cons_zero, List.set_cons_succ]
      refine till_in (i := 4) (by kernel_rfl) rfl (fun K hK => ?_)
      go_simp
      refine (mulK bp ap lp cp (z0 * z1) (kx + kx) b2 a2 len2 cap2 z2 kx _ (hp.ik (by omega)) (h2.later HW)).mono ?_
      rintro e wk ⟨bk, ak, lk, ck, rfl, hk, hb9⟩
      replace HW := Below.step HW hb9
      replace B8 := B8.later hb9
      clear hb9 hp
      refine hK.out _ _ ?_ (fun hHeld => ?_)
      · exact ⟨(P0.later HW).facts.1, (P0.later HW).facts.2.1, (P1.later HW).facts.1, (P1.later HW).facts.2.1, (P2.later HW).facts.1, (P2.later HW).facts.2.1⟩
      clear hK K
      try simp only [List.setIfInBounds_toArray, List.set_cons_zero, List.set_cons_succ]
      exact till_go J0 (bp, ap, lp, cp, bk, ak, lk, ck, g8) rfl (by kernel_rfl) (by (try dsimp only); rw [unhide HA]; simp only [Act.put, List.setIfInBounds_toArray, List.set_cons_zero, List.set_cons_succ]) (by (try dsimp only); exact ⟨HW, hk, B8, hg8⟩)
    refine till_mid 2 #[true, true, true, true, true, false, false] (ι := Bool × Option Addr × Nat × Nat × Bool × Option Addr × Nat × Nat) (fun (bp, ap, lp, cp, bk, ak, lk, ck) => ((act0.put (some 21) (.agg #[.bool bp, .slice ap lp cp])).put (some 23) (.agg #[.bool bk, .slice ak lk ck]))) (fun (bp, ap, lp, cp, bk, ak, lk, ck) w => Below v2.heap.size v2 w ∧ FK w bk ak lk ck (z0 * z1 * z2) (kx + kx + kx)) ?_ (fun J2 => ?_)
    · rintro ⟨bp, ap, lp, cp, bk, ak, lk, ck⟩ wj hI
      try dsimp only at hI ⊢
      obtain ⟨HW, hk⟩ := hI
      have hHeld : wj.cell? ⟨w.heap.size, 0, none⟩ = some (.bool b0) ∧ wj.cell? ⟨w.heap.size, 1, none⟩ = some (.slice a0 len0 cap0) ∧ wj.cell? ⟨w.heap.size + 1, 0, none⟩ = some (.bool b1) ∧ wj.cell? ⟨w.heap.size + 1, 1, none⟩ = some (.slice a1 len1 cap1) ∧ wj.cell? ⟨w.heap.size + 2, 0, none⟩ = some (.bool b2) ∧ wj.cell? ⟨w.heap.size + 2, 1, none⟩ = some (.slice a2 len2 cap2) := by exact ⟨(P0.later HW).facts.1, (P0.later HW).facts.2.1, (P1.later HW).facts.1, (P1.later HW).facts.2.1, (P2.later HW).facts.1, (P2.later HW).facts.2.1⟩
      rw [unhide HA]
      simp only [Act.put, List.setIfInBounds_toArray, List.set_cons_zero, List.set_cons_succ]
      refine till_in (i := 5) (by kernel_rfl) rfl (fun K hK => ?_)
      go_simp
      have hwk : v2.heap.size ≤ wj.heap.size := HW.size
      obtain ⟨wk, hWe⟩ : ∃ W', W' = wj.alloc (.cells #[.bool false, .slice none 0 0] 24) := ⟨_, rfl⟩
      obtain ⟨B8, hb9⟩ := boxes1 wj false none 0 0 hWe
      rw [← hWe]
      clear hWe
      replace HW := Below.step HW hb9
      replace hk := hk.later hb9
      clear hb9
      have hg8 := hwk
      refine hK.out _ _ ?_ (fun hHeld => ?_)
      · exact ⟨(P0.later HW).facts.1, (P0.later HW).facts.2.1, (P1.later HW).facts.1, (P1.later HW).facts.2.1, (P2.later HW).facts.1, (P2.later HW).facts.2.1⟩
      clear hK K
      try simp only [List.setIfInBounds_toArray, List.set_cons_zero, List.set_cons_succ]
      exact till_go J0 (bp, ap, lp, cp, bk, ak, lk, ck, wj.heap.size) rfl (by kernel_rfl) (by (try dsimp only); rw [unhide HA]; simp only [Act.put, List.setIfInBounds_toArray, List.set_cons_zero, List.set_cons_succ]) (by (try dsimp only); exact ⟨HW, hk, B8, hg8⟩)
    refine till_mid 3 #[true, true, false, true, false, true, false] (ι := Nat) (fun g8 => (act0.put (some 8) ((.pointer (some ⟨g8, 0, none⟩))))) (fun g8 w => Below v2.heap.size v2 w ∧ Box w g8 false none 0 0 ∧ v2.heap.size ≤ g8) ?_ (fun J3 => ?_)
    · rintro g8 wj hI
      try dsimp only at hI ⊢
      obtain ⟨HW, B8, hg8⟩ := hI
      have hHeld : wj.cell? ⟨w.heap.size, 0, none⟩ = some (.bool b0) ∧ wj.cell? ⟨w.heap.size, 1, none⟩ = some (.slice a0 len0 cap0) ∧ wj.cell? ⟨w.heap.size + 1, 0, none⟩ = some (.bool b1) ∧ wj.cell? ⟨w.heap.size + 1, 1, none⟩ = some (.slice a1 len1 cap1) ∧ wj.cell? ⟨w.heap.size + 2, 0, none⟩ = some (.bool b2) ∧ wj.cell? ⟨w.heap.size + 2, 1, none⟩ = some (.slice a2 len2 cap2) := by exact ⟨(P0.later HW).facts.1, (P0.later HW).facts.2.1, (P1.later HW).facts.1, (P1.later HW).facts.2.1, (P2.later HW).facts.1, (P2.later HW).facts.2.1⟩
      rw [unhide HA]
      simp only [Act.put, List.setIfInBounds_toArray, List.set_cons_zero, List.set_cons_succ]
      refine till_in (i := 2) (by kernel_rfl) rfl (fun K hK => ?_)
      go_simp
      refine (mulK b0 a0 len0 cap0 z0 kx b1 a1 len1 cap1 z1 kx _ (h0.later HW) (h1.later HW)).mono ?_
      rintro e wk ⟨bp, ap, lp, cp, rfl, hp, hb9⟩
      replace HW := Below.step HW hb9
      replace B8 := B8.later hb9
      clear hb9
      refine hK.out _ _ ?_ (fun hHeld => ?_)
      · exact ⟨(P0.later HW).facts.1, (P0.later HW).facts.2.1, (P1.later HW).facts.1, (P1.later HW).facts.2.1, (P2.later HW).facts.1, (P2.later HW).facts.2.1⟩
      clear hK K
      try simp only [List.setIfInBounds_toArray, List.set_cons_zero, List.set_cons_succ]
      exact till_go J1 (bp, ap, lp, cp, g8) rfl (by kernel_rfl) (by (try dsimp only); rw [unhide HA]; simp only [Act.put, List.setIfInBounds_toArray, List.set_cons_zero, List.set_cons_succ]) (by (try dsimp only); exact ⟨HW, hp, B8, hg8⟩)
    refine till_mid 3 #[true, true, true, true, false, false, false] (ι := Bool × Option Addr × Nat × Nat) (fun (bp, ap, lp, cp) => (act0.put (some 21) (.agg #[.bool bp, .slice ap lp cp]))) (fun (bp, ap, lp, cp) w => Below v2.heap.size v2 w ∧ FK w bp ap lp cp (z0 * z1) (kx + kx)) ?_ (fun J4 => ?_)
    · rintro ⟨bp, ap, lp, cp⟩ wj hI
      try dsimp only at hI ⊢
      obtain ⟨HW, hp⟩ := hI
      have hHeld : wj.cell? ⟨w.heap.size, 0, none⟩ = some (.bool b0) ∧ wj.cell? ⟨w.heap.size, 1, none⟩ = some (.slice a0 len0 cap0) ∧ wj.cell? ⟨w.heap.size + 1, 0, none⟩ = some (.bool b1) ∧ wj.cell? ⟨w.heap.size + 1, 1, none⟩ = some (.slice a1 len1 cap1) ∧ wj.cell? ⟨w.heap.size + 2, 0, none⟩ = some (.bool b2) ∧ wj.cell? ⟨w.heap.size + 2, 1, none⟩ = some (.slice a2 len2 cap2) := by exact ⟨(P0.later HW).facts.1, (P0.later HW).facts.2.1, (P1.later HW).facts.1, (P1.later HW).facts.2.1, (P2.later HW).facts.1, (P2.later HW).facts.2.1⟩
      rw [unhide HA]
      simp only [Act.put, List.setIfInBounds_toArray, List.set_cons_zero, List.set_cons_succ]
      refine till_two (i := 4) (j := 5) (by kernel_rfl) rfl rfl (fun K hK => ?_) (fun K hK => ?_)
      · go_simp
        refine (mulK bp ap lp cp (z0 * z1) (kx + kx) b2 a2 len2 cap2 z2 kx _ (hp.ik (by omega)) (h2.later HW)).mono ?_
        rintro e wk ⟨bk, ak, lk, ck, rfl, hk, hb9⟩
        replace HW := Below.step HW hb9
        clear hb9 hp
        refine hK.out _ _ ?_ (fun hHeld => ?_)
        · exact ⟨(P0.later HW).facts.1, (P0.later HW).facts.2.1, (P1.later HW).facts.1, (P1.later HW).facts.2.1, (P2.later HW).facts.1, (P2.later HW).facts.2.1⟩
        clear hK K
        try simp only [List.setIfInBounds_toArray, List.set_cons_zero, List.set_cons_succ]
        exact till_go J2 (bp, ap, lp, cp, bk, ak, lk, ck) rfl (by kernel_rfl) (by (try dsimp only); rw [unhide HA]; simp only [Act.put, List.setIfInBounds_toArray, List.set_cons_zero, List.set_cons_succ]) (by (try dsimp only); exact ⟨HW, hk⟩)
      · go_simp
        have hwk : v2.heap.size ≤ wj.heap.size := HW.size
        obtain ⟨wk, hWe⟩ : ∃ W', W' = wj.alloc (.cells #[.bool false, .slice none 0 0] 24) := ⟨_, rfl⟩
        obtain ⟨B8, hb9⟩ := boxes1 wj false none 0 0 hWe
        rw [← hWe]
        clear hWe
        replace HW := Below.step HW hb9
        replace hp := hp.later hb9
        clear hb9
        have hg8 := hwk
        refine hK.out _ _ ?_ (fun hHeld => ?_)
        · exact ⟨(P0.later HW).facts.1, (P0.later HW).facts.2.1, (P1.later HW).facts.1, (P1.later HW).facts.2.1, (P2.later HW).facts.1, (P2.later HW).facts.2.1⟩
        clear hK K
        try simp only [List.setIfInBounds_toArray, List.set_cons_zero, List.set_cons_succ]
        exact till_go J1 (bp, ap, lp, cp, wj.heap.size) rfl (by kernel_rfl) (by (try dsimp only); rw [unhide HA]; simp only [Act.put, List.setIfInBounds_toArray, List.set_cons_zero, List.set_cons_succ]) (by (try dsimp only); exact ⟨HW, hp, B8, hg8⟩)
    rw [unhide HA]
    refine till_two (i := 2) (j := 5) (by kernel_rfl) rfl rfl (fun K hK => ?_) (fun K hK => ?_)
    · go_simp
      refine (mulK b0 a0 len0 cap0 z0 kx b1 a1 len1 cap1 z1 kx _ (h0.later HW) (h1.later HW)).mono ?_
      rintro e wk ⟨bp, ap, lp, cp, rfl, hp, hb9⟩
      replace HW := Below.step HW hb9
      clear hb9
      refine hK.out _ _ ?_ (fun hHeld => ?_)
      · exact ⟨(P0.later HW).facts.1, (P0.later HW).facts.2.1, (P1.later HW).facts.1, (P1.later HW).facts.2.1, (P2.later HW).facts.1, (P2.later HW).facts.2.1⟩
      clear hK K
      try simp only [List.setIfInBounds_toArray, List.set_cons_zero, List.set_cons_succ]
      exact till_go J4 (bp, ap, lp, cp) rfl (by kernel_rfl) (by (try dsimp only); rw [unhide HA]; simp only [Act.put, List.setIfInBounds_toArray, List.set_cons_zero, List.set_cons_succ]) (by (try dsimp only); exact ⟨HW, hp⟩)
    · go_simp
      have hwk : v2.heap.size ≤ vd3.heap.size := HW.size
      obtain ⟨wk, hWe⟩ : ∃ W', W' = vd3.alloc (.cells #[.bool false, .slice none 0 0] 24) := ⟨_, rfl⟩
      obtain ⟨B8, hb9⟩ := boxes1 vd3 false none 0 0 hWe
      rw [← hWe]
      clear hWe
      replace HW := Below.step HW hb9
      clear hb9
      have hg8 := hwk
      refine hK.out _ _ ?_ (fun hHeld => ?_)
      · exact ⟨(P0.later HW).facts.1, (P0.later HW).facts.2.1, (P1.later HW).facts.1, (P1.later HW).facts.2.1, (P2.later HW).facts.1, (P2.later HW).facts.2.1⟩
      clear hK K
      try simp only [List.setIfInBounds_toArray, List.set_cons_zero, List.set_cons_succ]
      exact till_go J3 vd3.heap.size rfl (by kernel_rfl) (by (try dsimp only); rw [unhide HA]; simp only [Act.put, List.setIfInBounds_toArray, List.set_cons_zero, List.set_cons_succ]) (by (try dsimp only); exact ⟨HW, B8, hg8⟩)
  · have hf' : q = false := by simpa using hf
    subst hf'
    clear hq hf he
    go_wp2_with fail
    refine (awake6_any _).mono ?_
    rintro e w2 ⟨rfl, hb2⟩
    go_wp2
    go_ret
    exact ⟨rfl, Below.step (unhide HB) hb2⟩

#print axioms bezoutLcm_walk
end Go.Proofs.Ytobiogedknmijaa
