/-
  The walk of BezoutTells: it tells true.
-/
import Derived.Test.YtobiogedknmijaaFew6
import Derived.Test.YtobiogedknmijaaAwake6
import Derived.Test.YtobiogedknmijaaLcmNum
import Derived.Test.YtobiogedknmijaaRExt
import Derived.Deep.CutRange
namespace Go.Proofs.Ytobiogedknmijaa
open Go.RowKit Lb

set_option maxRecDepth 20000 in
set_option maxHeartbeats 16000000 in
theorem bezoutTells_walk (b0 : Bool) (a0 : Option Addr) (len0 cap0 : Nat) (xs0 : List Nat) (b1 : Bool) (a1 : Option Addr) (len1 cap1 : Nat) (xs1 : List Nat) (w : World) (r0 : RowAt w a0 len0 cap0 xs0) (r1 : RowAt w a1 len1 cap1 xs1) :
    Calls Try.prog 3 #[.agg #[.bool b0, .slice a0 len0 cap0], .agg #[.bool b1, .slice a1 len1 cap1]] w fun e w' => e = .returned (.bool true) ∧ Below w.heap.size w w' := by
  have hx0 := r0.int b0
  obtain ⟨z0, ez0⟩ : ∃ z, z = sgnd b0 (Lb.val xs0) := ⟨_, rfl⟩
  rw [← ez0] at hx0
  clear ez0 r0
  have hx1 := r1.int b1
  obtain ⟨z1, ez1⟩ : ∃ z, z = sgnd b1 (Lb.val xs1) := ⟨_, rfl⟩
  rw [← ez1] at hx1
  clear ez1 r1
  go_enter Try.func3, Try.ntmps3
  go_wp2_with fail
  obtain ⟨W0, hWe⟩ : ∃ W', W' = ((w.alloc (.cells #[.bool b0, .slice a0 len0 cap0] 24)).alloc (.cells #[.bool b1, .slice a1 len1 cap1] 24)) := ⟨_, rfl⟩
  obtain ⟨P0, P1, hb0⟩ := boxes2 w b0 a0 len0 cap0 b1 a1 len1 cap1 hWe
  have hsW : w.heap.size + 2 = W0.heap.size := by rw [hWe]; simp
  have hbv := below_new W0 (.cells #[.bool b0, .slice a0 len0 cap0, .bool b1, .slice a1 len1 cap1] 24)
  have hv := vec2 (w := W0) (R := IntAt) (n := w.heap.size + 2) hsW ((hx0.later hb0).later hbv) ((hx1.later hb0).later hbv)
  have he := elts_new2 (w := W0) (b0 := b0) (a0 := a0) (l0 := len0) (c0 := cap0) (b1 := b1) (a1 := a1) (l1 := len1) (c1 := cap1) (n := w.heap.size + 2) hsW
  rw [← hWe]
  clear hWe hsW
  refine (few6_any _ _ _ _ _ hv).mono ?_
  rintro e w1 ⟨q, rfl, hq, hb1⟩
  have hb2 := Below.step hbv hb1
  clear hb1 hbv hv
  replace P0 := P0.later hb2
  replace P1 := P1.later hb2
  have HB := hide (Below.step hb0 hb2)
  clear hb0 hb2
  by_cases hf : q = true
  · subst hf
    obtain ⟨_, _, hsix⟩ := hq rfl
    have e0 : len0 ≤ 6 := hsix 0 _ _ _ _ _ _ (by omega) rfl he.1
    have e1 : len1 ≤ 6 := hsix 1 _ _ _ _ _ _ (by omega) rfl he.2
    have h0 := ik_of (hx0.later (unhide HB)) e0 (by omega)
    have h1 := ik_of (hx1.later (unhide HB)) e1 (by omega)
    obtain ⟨kx, ekx⟩ : ∃ kx, kx = 6 := ⟨_, rfl⟩
    rw [← ekx] at h0 h1
    have hkx : kx ≤ 6 := by omega
    clear ekx
    have L0 := hide e0
    have L1 := hide e1
    clear hq hsix he hx0 e0 hx1 e1
    obtain ⟨sg, es⟩ : ∃ s, s = (Int.gcd z0 z1 : Int).sign := ⟨_, rfl⟩
    have ES := hide es
    have hlens : len0 + len1 ≤ 1000000 := by have h8 := unhide L0; have h9 := unhide L1; omega
    clear es
    obtain ⟨fP01, fP02, _, _⟩ := P0.facts
    obtain ⟨fP11, fP12, _, _⟩ := P1.facts
    go_wp2_with fail
    refine (rgcdK b0 a0 len0 cap0 z0 kx b1 a1 len1 cap1 z1 kx _ h0 h1 (by omega) (by omega)).mono ?_
    rintro e v1 ⟨bg, ag, lg, cg, rfl, hg, hb9⟩
    clear fP01 fP02 fP11 fP12
    replace P0 := P0.later hb9
    replace P1 := P1.later hb9
    replace h0 := h0.later hb9
    replace h1 := h1.later hb9
    replace HB := hide (Below.step (unhide HB) hb9)
    clear hb9
    have hsP1 := P1.lt
    go_wp2_with fail
    obtain ⟨v2, hWe⟩ : ∃ W', W' = ((v1.alloc (.cells #[.bool bg, .slice ag lg cg] 24)).alloc (.cells #[.bool false, .slice none 0 0] 24)) := ⟨_, rfl⟩
    obtain ⟨Bg, Bm, hb9⟩ := boxes2 v1 bg ag lg cg false none 0 0 hWe
    rw [← hWe]
    clear hWe
    replace P0 := P0.later hb9
    replace P1 := P1.later hb9
    replace h0 := h0.later hb9
    replace h1 := h1.later hb9
    replace hg := hg.later hb9
    replace HB := hide (Below.step (unhide HB) hb9)
    clear hb9
    refine (rsignK bg ag lg cg (Int.gcd z0 z1 : Int) (max kx kx) sg _ (hg.ik (by omega)) (unhide ES)).mono ?_
    rintro e v3 ⟨rfl, hb9⟩
    replace P0 := P0.later hb9
    replace P1 := P1.later hb9
    replace h0 := h0.later hb9
    replace h1 := h1.later hb9
    replace hg := hg.later hb9
    replace Bg := Bg.later hb9
    replace Bm := Bm.later hb9
    replace HB := hide (Below.step (unhide HB) hb9)
    clear hb9
    have hsM := Bm.lt
    have hsP := P1.lt
    go_upto_if 27 with fail
    go_cut [] from 15 to 82 (fun wc => ∃ bm am lm cm, Box wc (w.heap.size) b0 a0 len0 cap0 ∧ Box wc (w.heap.size + 1) b1 a1 len1 cap1 ∧ Box wc (v1.heap.size) bg ag lg cg ∧ Box wc (v1.heap.size + 1) bm am lm cm ∧ IK wc b0 a0 len0 cap0 z0 kx ∧ IK wc b1 a1 len1 cap1 z1 kx ∧ FK wc bg ag lg cg (Int.gcd z0 z1 : Int) (max kx kx) ∧ FK wc bm am lm cm (((z0 * z1).natAbs : Int).tdiv (Int.gcd z0 z1 : Int)) (kx + kx) ∧ Below w.heap.size w wc)
    case first =>
      by_cases hz : (Int.gcd z0 z1 : Int) = 0
      · have hs0 : sg = 0 := by rw [unhide ES, hz]; rfl
        have HZ := hide hz
        clear hz
        subst hs0
        have hz := unhide HZ
        clear HZ
        have HZ := hide hz
        clear hz
        go_wp2_with fail
        go_meet
        case rel =>
          refine ⟨_, _, _, _, P0, P1, Bg, Bm, h0, h1, hg, ?_, unhide HB⟩
          rw [show (Int.gcd z0 z1 : Int) = 0 from unhide HZ, Int.tdiv_zero]
          exact fk_zero _ _
      · have hs1 : (sg == 0) = false := by rw [beq_eq_false_iff_ne, unhide ES]; exact fun e => hz (Int.sign_eq_zero_iff_zero.1 e)
        have hs2 : (sg != 0) = true := by rw [bne, hs1]; rfl
        rw [hs2]
        have H0 := hide hz
        clear hz
        go_upto_region 6 with fail
        have HW : Below v3.heap.size v3 v3.drew := (Below.refl _ _).drew
        refine till_start (fun w' => w'.cell? ⟨w.heap.size, 0, none⟩ = some (.bool b0) ∧ w'.cell? ⟨w.heap.size, 1, none⟩ = some (.slice a0 len0 cap0) ∧ w'.cell? ⟨w.heap.size + 1, 0, none⟩ = some (.bool b1) ∧ w'.cell? ⟨w.heap.size + 1, 1, none⟩ = some (.slice a1 len1 cap1) ∧ w'.cell? ⟨v1.heap.size, 0, none⟩ = some (.bool bg) ∧ w'.cell? ⟨v1.heap.size, 1, none⟩ = some (.slice ag lg cg)) 11 (by kernel_rfl) ?_ (fun hHeld => ?_)
        · exact ⟨(P0.later HW).facts.1, (P0.later HW).facts.2.1, (P1.later HW).facts.1, (P1.later HW).facts.2.1, (Bg.later HW).facts.1, (Bg.later HW).facts.2.1⟩
        obtain ⟨vd101, hvd⟩ : ∃ v, v = v3.drew := ⟨_, rfl⟩
        rw [← hvd] at HW hHeld ⊢
        clear hvd
        refine till_take (i := 0) (v := ?_) [2, 3, 5, 6, 7, 8, 11, 12] rfl (by kernel_rfl) (by kernel_rfl) (by kernel_rfl) (by kernel_rfl) (fun _ _ _ h => h) (Or.inl ⟨by rfl, ?_⟩) (by assumption) ?_
        rotate_left
        · (intro wx hSw; (try dsimp only at hSw); go_simp; (try rw [if_neg (by omega)]); try with_reducible rfl)
        simp only [Act.put, List.getElem_toArray, List.getElem_cons_zero, List.setIfInBounds_toArray, List.set_cons_zero, List.set_cons_succ]
        refine till_take (i := 1) (v := ?_) [2, 3, 5, 6, 7, 8, 11, 12] rfl (by kernel_rfl) (by kernel_rfl) (by kernel_rfl) (by kernel_rfl) (fun _ _ _ h => h) (Or.inl ⟨by rfl, ?_⟩) (by assumption) ?_
        rotate_left
        · (intro wx hSw; (try dsimp only at hSw); go_simp; (try rw [if_neg (by omega)]); try with_reducible rfl)
        simp only [Act.put, List.getElem_toArray, List.getElem_cons_succ, List.getElem_cons_zero, List.setIfInBounds_toArray, List.set_cons_zero, List.set_cons_succ]
        refine till_take (i := 4) (v := ?_) [5, 6, 7, 8, 11, 12] rfl (by kernel_rfl) (by kernel_rfl) (by kernel_rfl) (by kernel_rfl) (fun _ _ _ h => h) (Or.inl ⟨by rfl, ?_⟩) (by assumption) ?_
        rotate_left
        · (intro wx hSw; (try dsimp only at hSw); go_simp; (try rw [if_neg (by omega)]); try with_reducible rfl)
        simp only [Act.put, List.getElem_toArray, List.getElem_cons_succ, List.getElem_cons_zero, List.setIfInBounds_toArray, List.set_cons_zero, List.set_cons_succ]
        refine till_name (fun act0 hact0 => ?_)
        have HA := hide hact0
        clear hact0
        refine till_mid 2 #[true, true, true, true, true, true, true, true, true, true, true, false, false] (ι := Bool × Option Addr × Nat × Nat × Bool × Option Addr × Nat × Nat × Bool × Option Addr × Nat × Nat × Bool × Option Addr × Nat × Nat × Nat × Nat) (fun (bp, ap, lp, cp, bd, ad, ld, cd, bq, aq, lq, cq, be, ae, le, ce, g7, g8) => ((((((((act0.put (some 31) (.agg #[.bool bp, .slice ap lp cp])).put (some 32) (.agg #[.bool bd, .slice ad ld cd])).put (some 34) (.tuple #[.agg #[.bool bq, .slice aq lq cq], .agg #[.bool be, .slice ae le ce]])).put (some 28) (.tuple #[.agg #[.bool bq, .slice aq lq cq], .agg #[.bool be, .slice ae le ce]])).put (some 35) (.agg #[.bool bq, .slice aq lq cq])).put (some 36) (.agg #[.bool be, .slice ae le ce])).put (some 7) ((.pointer (some ⟨g7, 0, none⟩)))).put (some 8) ((.pointer (some ⟨g8, 0, none⟩))))) (fun (bp, ap, lp, cp, bd, ad, ld, cd, bq, aq, lq, cq, be, ae, le, ce, g7, g8) w => Below v3.heap.size v3 w ∧ FK w bq aq lq cq (((z0 * z1).natAbs : Int).tdiv (Int.gcd z0 z1 : Int)) (kx + kx) ∧ FK w be ae le ce (((z0 * z1).natAbs : Int).tmod (Int.gcd z0 z1 : Int)) (max kx kx) ∧ Box w g7 false none 0 0 ∧ v3.heap.size ≤ g7 ∧ Box w g8 false none 0 0 ∧ v3.heap.size ≤ g8 ∧ g7 ≠ g8) ?_ (fun J0 => ?_)
        · rintro ⟨bp, ap, lp, cp, bd, ad, ld, cd, bq, aq, lq, cq, be, ae, le, ce, g7, g8⟩ wj hI
          try dsimp only at hI ⊢
          obtain ⟨HW, hq, he, B7, hg7, B8, hg8, hneg7g8⟩ := hI
          have hHeld : wj.cell? ⟨w.heap.size, 0, none⟩ = some (.bool b0) ∧ wj.cell? ⟨w.heap.size, 1, none⟩ = some (.slice a0 len0 cap0) ∧ wj.cell? ⟨w.heap.size + 1, 0, none⟩ = some (.bool b1) ∧ wj.cell? ⟨w.heap.size + 1, 1, none⟩ = some (.slice a1 len1 cap1) ∧ wj.cell? ⟨v1.heap.size, 0, none⟩ = some (.bool bg) ∧ wj.cell? ⟨v1.heap.size, 1, none⟩ = some (.slice ag lg cg) := by exact ⟨(P0.later HW).facts.1, (P0.later HW).facts.2.1, (P1.later HW).facts.1, (P1.later HW).facts.2.1, (Bg.later HW).facts.1, (Bg.later HW).facts.2.1⟩
          rw [unhide HA]
          simp only [Act.put, List.setIfInBounds_toArray, List.set_cons_zero, List.set_cons_succ]
          obtain ⟨q1B7, q2B7, q3B7, q4B7⟩ := B7.facts
          have hltB7 := B7.lt
          obtain ⟨q1B8, q2B8, q3B8, q4B8⟩ := B8.facts
          have hltB8 := B8.lt
          refine till_out (i := 11) (by kernel_rfl) rfl (by kernel_rfl) (fun K hK => ?_)
          go_simp
          refine hK.out _ _ ?_
          clear hK K
          try simp only [List.setIfInBounds_toArray, List.set_cons_zero, List.set_cons_succ]
          refine till_out (i := 12) (by kernel_rfl) rfl (by kernel_rfl) (fun K hK => ?_)
          go_simp
          refine hK.out _ _ ?_
          clear hK K
          try simp only [List.setIfInBounds_toArray, List.set_cons_zero, List.set_cons_succ]
          refine till_done (by kernel_rfl) ?_ _
          have n7 := B7.noLimb
          have n8 := (B8.other (g' := g7) (Ne.symm hneg7g8) bq aq lq cq).noLimb
          obtain ⟨W8, hW8⟩ : ∃ W8, W8 = ((((wj.setCell ⟨g7, 0, none⟩ (.bool bq)).setCell ⟨g7, 1, none⟩ (.slice aq lq cq)).setCell ⟨g8, 0, none⟩ (.bool be)).setCell ⟨g8, 1, none⟩ (.slice ae le ce)) := ⟨_, rfl⟩
          rw [← hW8]
          have Bq : Box W8 g7 bq aq lq cq := by rw [hW8]; exact (B7.put bq aq lq cq).other (g' := g8) hneg7g8 be ae le ce
          replace P0 : Box W8 (w.heap.size) b0 a0 len0 cap0 := by rw [hW8]; exact ((P0.later HW).other (g' := g7) (by omega) bq aq lq cq).other (g' := g8) (by omega) be ae le ce
          replace P1 : Box W8 (w.heap.size + 1) b1 a1 len1 cap1 := by rw [hW8]; exact ((P1.later HW).other (g' := g7) (by omega) bq aq lq cq).other (g' := g8) (by omega) be ae le ce
          replace Bg : Box W8 (v1.heap.size) bg ag lg cg := by rw [hW8]; exact ((Bg.later HW).other (g' := g7) (by omega) bq aq lq cq).other (g' := g8) (by omega) be ae le ce
          replace Bm : Box W8 (v1.heap.size + 1) false none 0 0 := by rw [hW8]; exact ((Bm.later HW).other (g' := g7) (by omega) bq aq lq cq).other (g' := g8) (by omega) be ae le ce
          replace h0 : IK W8 b0 a0 len0 cap0 z0 kx := by rw [hW8]; exact ((h0.later HW).put n7 bq aq lq cq).put n8 be ae le ce
          replace h1 : IK W8 b1 a1 len1 cap1 z1 kx := by rw [hW8]; exact ((h1.later HW).put n7 bq aq lq cq).put n8 be ae le ce
          replace hg : FK W8 bg ag lg cg (Int.gcd z0 z1 : Int) (max kx kx) := by rw [hW8]; exact ((hg.later HW).put n7 bq aq lq cq).put n8 be ae le ce
          replace hq : FK W8 bq aq lq cq (((z0 * z1).natAbs : Int).tdiv (Int.gcd z0 z1 : Int)) (kx + kx) := by rw [hW8]; exact (hq.put n7 bq aq lq cq).put n8 be ae le ce
          replace HB : Hid (Below w.heap.size w W8) := by rw [hW8]; exact below_put (below_put (Below.step (unhide HB) HW) (by omega) _ _ _ _) (by omega) _ _ _ _
          clear hW8 HW hHeld B7 B8 n7 n8 he q1B7 q2B7 q3B7 q4B7 q1B8 q2B8 q3B8 q4B8
          obtain ⟨f1, f2, _, _⟩ := Bq.facts
          obtain ⟨q1, q2, q3, q4⟩ := Bm.facts
          have hs9 := Bm.lt
          go_wp2_with fail
          go_meet
          case rel =>
            have nm := Bm.noLimb
            exact ⟨_, _, _, _, P0.other (g' := v1.heap.size + 1) (by omega) bq aq lq cq, P1.other (g' := v1.heap.size + 1) (by omega) bq aq lq cq, Bg.other (g' := v1.heap.size + 1) (by omega) bq aq lq cq, Bm.put bq aq lq cq, h0.put nm _ _ _ _, h1.put nm _ _ _ _, hg.put nm _ _ _ _, hq.put nm _ _ _ _, below_put (unhide HB) (by omega) _ _ _ _⟩
        refine till_mid 3 #[true, true, true, true, true, true, true, true, true, false, true, false, false] (ι := Bool × Option Addr × Nat × Nat × Bool × Option Addr × Nat × Nat × Bool × Option Addr × Nat × Nat × Bool × Option Addr × Nat × Nat × Nat) (fun (bp, ap, lp, cp, bd, ad, ld, cd, bq, aq, lq, cq, be, ae, le, ce, g8) => (((((((act0.put (some 31) (.agg #[.bool bp, .slice ap lp cp])).put (some 32) (.agg #[.bool bd, .slice ad ld cd])).put (some 34) (.tuple #[.agg #[.bool bq, .slice aq lq cq], .agg #[.bool be, .slice ae le ce]])).put (some 28) (.tuple #[.agg #[.bool bq, .slice aq lq cq], .agg #[.bool be, .slice ae le ce]])).put (some 35) (.agg #[.bool bq, .slice aq lq cq])).put (some 36) (.agg #[.bool be, .slice ae le ce])).put (some 8) ((.pointer (some ⟨g8, 0, none⟩))))) (fun (bp, ap, lp, cp, bd, ad, ld, cd, bq, aq, lq, cq, be, ae, le, ce, g8) w => Below v3.heap.size v3 w ∧ FK w bq aq lq cq (((z0 * z1).natAbs : Int).tdiv (Int.gcd z0 z1 : Int)) (kx + kx) ∧ FK w be ae le ce (((z0 * z1).natAbs : Int).tmod (Int.gcd z0 z1 : Int)) (max kx kx) ∧ Box w g8 false none 0 0 ∧ v3.heap.size ≤ g8) ?_ (fun J1 => ?_)
        · rintro ⟨bp, ap, lp, cp, bd, ad, ld, cd, bq, aq, lq, cq, be, ae, le, ce, g8⟩ wj hI
          try dsimp only at hI ⊢
          obtain ⟨HW, hq, he, B8, hg8⟩ := hI
          have hHeld : wj.cell? ⟨w.heap.size, 0, none⟩ = some (.bool b0) ∧ wj.cell? ⟨w.heap.size, 1, none⟩ = some (.slice a0 len0 cap0) ∧ wj.cell? ⟨w.heap.size + 1, 0, none⟩ = some (.bool b1) ∧ wj.cell? ⟨w.heap.size + 1, 1, none⟩ = some (.slice a1 len1 cap1) ∧ wj.cell? ⟨v1.heap.size, 0, none⟩ = some (.bool bg) ∧ wj.cell? ⟨v1.heap.size, 1, none⟩ = some (.slice ag lg cg) := by exact ⟨(P0.later HW).facts.1, (P0.later HW).facts.2.1, (P1.later HW).facts.1, (P1.later HW).facts.2.1, (Bg.later HW).facts.1, (Bg.later HW).facts.2.1⟩
          rw [unhide HA]
          simp only [Act.put, List.setIfInBounds_toArray, List.set_cons_zero, List.set_cons_succ]
          refine till_in (i := 9) (by kernel_rfl) rfl (fun K hK => ?_)
          go_simp
          have hwk : v3.heap.size ≤ wj.heap.size := HW.size
          have hxg8 := B8.lt
          obtain ⟨wk, hWe⟩ : ∃ W', W' = wj.alloc (.cells #[.bool false, .slice none 0 0] 24) := ⟨_, rfl⟩
          obtain ⟨B7, hb9⟩ := boxes1 wj false none 0 0 hWe
          rw [← hWe]
          clear hWe
          replace HW := Below.step HW hb9
          replace hq := hq.later hb9
          replace he := he.later hb9
          replace B8 := B8.later hb9
          clear hb9
          have hg7 := hwk
          have hneg7g8 : wj.heap.size ≠ g8 := by omega
          refine hK.out _ _ ?_ (fun hHeld => ?_)
          · exact ⟨(P0.later HW).facts.1, (P0.later HW).facts.2.1, (P1.later HW).facts.1, (P1.later HW).facts.2.1, (Bg.later HW).facts.1, (Bg.later HW).facts.2.1⟩
          clear hK K
          try simp only [List.setIfInBounds_toArray, List.set_cons_zero, List.set_cons_succ]
          exact till_go J0 (bp, ap, lp, cp, bd, ad, ld, cd, bq, aq, lq, cq, be, ae, le, ce, wj.heap.size, g8) rfl (by kernel_rfl) (by (try dsimp only); rw [unhide HA]; simp only [Act.put, List.setIfInBounds_toArray, List.set_cons_zero, List.set_cons_succ]) (by (try dsimp only); exact ⟨HW, hq, he, B7, hg7, B8, hg8, hneg7g8⟩)
        refine till_mid 3 #[true, true, true, true, true, true, true, true, true, true, false, false, false] (ι := Bool × Option Addr × Nat × Nat × Bool × Option Addr × Nat × Nat × Bool × Option Addr × Nat × Nat × Bool × Option Addr × Nat × Nat × Nat) (fun (bp, ap, lp, cp, bd, ad, ld, cd, bq, aq, lq, cq, be, ae, le, ce, g7) => (((((((act0.put (some 31) (.agg #[.bool bp, .slice ap lp cp])).put (some 32) (.agg #[.bool bd, .slice ad ld cd])).put (some 34) (.tuple #[.agg #[.bool bq, .slice aq lq cq], .agg #[.bool be, .slice ae le ce]])).put (some 28) (.tuple #[.agg #[.bool bq, .slice aq lq cq], .agg #[.bool be, .slice ae le ce]])).put (some 35) (.agg #[.bool bq, .slice aq lq cq])).put (some 36) (.agg #[.bool be, .slice ae le ce])).put (some 7) ((.pointer (some ⟨g7, 0, none⟩))))) (fun (bp, ap, lp, cp, bd, ad, ld, cd, bq, aq, lq, cq, be, ae, le, ce, g7) w => Below v3.heap.size v3 w ∧ FK w bq aq lq cq (((z0 * z1).natAbs : Int).tdiv (Int.gcd z0 z1 : Int)) (kx + kx) ∧ FK w be ae le ce (((z0 * z1).natAbs : Int).tmod (Int.gcd z0 z1 : Int)) (max kx kx) ∧ Box w g7 false none 0 0 ∧ v3.heap.size ≤ g7) ?_ (fun J2 => ?_)
        · rintro ⟨bp, ap, lp, cp, bd, ad, ld, cd, bq, aq, lq, cq, be, ae, le, ce, g7⟩ wj hI
          try dsimp only at hI ⊢
          obtain ⟨HW, hq, he, B7, hg7⟩ := hI
          have hHeld : wj.cell? ⟨w.heap.size, 0, none⟩ = some (.bool b0) ∧ wj.cell? ⟨w.heap.size, 1, none⟩ = some (.slice a0 len0 cap0) ∧ wj.cell? ⟨w.heap.size + 1, 0, none⟩ = some (.bool b1) ∧ wj.cell? ⟨w.heap.size + 1, 1, none⟩ = some (.slice a1 len1 cap1) ∧ wj.cell? ⟨v1.heap.size, 0, none⟩ = some (.bool bg) ∧ wj.cell? ⟨v1.heap.size, 1, none⟩ = some (.slice ag lg cg) := by exact ⟨(P0.later HW).facts.1, (P0.later HW).facts.2.1, (P1.later HW).facts.1, (P1.later HW).facts.2.1, (Bg.later HW).facts.1, (Bg.later HW).facts.2.1⟩
          rw [unhide HA]
          simp only [Act.put, List.setIfInBounds_toArray, List.set_cons_zero, List.set_cons_succ]
          refine till_in (i := 10) (by kernel_rfl) rfl (fun K hK => ?_)
          go_simp
          have hwk : v3.heap.size ≤ wj.heap.size := HW.size
          have hxg7 := B7.lt
          obtain ⟨wk, hWe⟩ : ∃ W', W' = wj.alloc (.cells #[.bool false, .slice none 0 0] 24) := ⟨_, rfl⟩
          obtain ⟨B8, hb9⟩ := boxes1 wj false none 0 0 hWe
          rw [← hWe]
          clear hWe
          replace HW := Below.step HW hb9
          replace hq := hq.later hb9
          replace he := he.later hb9
          replace B7 := B7.later hb9
          clear hb9
          have hg8 := hwk
          have hneg7g8 : g7 ≠ wj.heap.size := by omega
          refine hK.out _ _ ?_ (fun hHeld => ?_)
          · exact ⟨(P0.later HW).facts.1, (P0.later HW).facts.2.1, (P1.later HW).facts.1, (P1.later HW).facts.2.1, (Bg.later HW).facts.1, (Bg.later HW).facts.2.1⟩
          clear hK K
          try simp only [List.setIfInBounds_toArray, List.set_cons_zero, List.set_cons_succ]
          exact till_go J0 (bp, ap, lp, cp, bd, ad, ld, cd, bq, aq, lq, cq, be, ae, le, ce, g7, wj.heap.size) rfl (by kernel_rfl) (by (try dsimp only); rw [unhide HA]; simp only [Act.put, List.setIfInBounds_toArray, List.set_cons_zero, List.set_cons_succ]) (by (try dsimp only); exact ⟨HW, hq, he, B7, hg7, B8, hg8, hneg7g8⟩)
        refine till_mid 4 #[true, true, true, true, true, true, true, true, true, false, false, false, false] (ι := Bool × Option Addr × Nat × Nat × Bool × Option Addr × Nat × Nat × Bool × Option Addr × Nat × Nat × Bool × Option Addr × Nat × Nat) (fun (bp, ap, lp, cp, bd, ad, ld, cd, bq, aq, lq, cq, be, ae, le, ce) => ((((((act0.put (some 31) (.agg #[.bool bp, .slice ap lp cp])).put (some 32) (.agg #[.bool bd, .slice ad ld cd])).put (some 34) (.tuple #[.agg #[.bool bq, .slice aq lq cq], .agg #[.bool be, .slice ae le ce]])).put (some 28) (.tuple #[.agg #[.bool bq, .slice aq lq cq], .agg #[.bool be, .slice ae le ce]])).put (some 35) (.agg #[.bool bq, .slice aq lq cq])).put (some 36) (.agg #[.bool be, .slice ae le ce]))) (fun (bp, ap, lp, cp, bd, ad, ld, cd, bq, aq, lq, cq, be, ae, le, ce) w => Below v3.heap.size v3 w ∧ FK w bq aq lq cq (((z0 * z1).natAbs : Int).tdiv (Int.gcd z0 z1 : Int)) (kx + kx) ∧ FK w be ae le ce (((z0 * z1).natAbs : Int).tmod (Int.gcd z0 z1 : Int)) (max kx kx)) ?_ (fun J3 => ?_)
        · rintro ⟨bp, ap, lp, cp, bd, ad, ld, cd, bq, aq, lq, cq, be, ae, le, ce⟩ wj hI
          try dsimp only at hI ⊢
          obtain ⟨HW, hq, he⟩ := hI
          have hHeld : wj.cell? ⟨w.heap.size, 0, none⟩ = some (.bool b0) ∧ wj.cell? ⟨w.heap.size, 1, none⟩ = some (.slice a0 len0 cap0) ∧ wj.cell? ⟨w.heap.size + 1, 0, none⟩ = some (.bool b1) ∧ wj.cell? ⟨w.heap.size + 1, 1, none⟩ = some (.slice a1 len1 cap1) ∧ wj.cell? ⟨v1.heap.size, 0, none⟩ = some (.bool bg) ∧ wj.cell? ⟨v1.heap.size, 1, none⟩ = some (.slice ag lg cg) := by exact ⟨(P0.later HW).facts.1, (P0.later HW).facts.2.1, (P1.later HW).facts.1, (P1.later HW).facts.2.1, (Bg.later HW).facts.1, (Bg.later HW).facts.2.1⟩
          rw [unhide HA]
          simp only [Act.put, List.setIfInBounds_toArray, List.set_cons_zero, List.set_cons_succ]
          refine till_two (i := 9) (j := 10) (by kernel_rfl) rfl rfl (fun K hK => ?_) (fun K hK => ?_)
          · go_simp
            have hwk : v3.heap.size ≤ wj.heap.size := HW.size
            obtain ⟨wk, hWe⟩ : ∃ W', W' = wj.alloc (.cells #[.bool false, .slice none 0 0] 24) := ⟨_, rfl⟩
            obtain ⟨B7, hb9⟩ := boxes1 wj false none 0 0 hWe
            rw [← hWe]
            clear hWe
            replace HW := Below.step HW hb9
            replace hq := hq.later hb9
            replace he := he.later hb9
            clear hb9
            have hg7 := hwk
            refine hK.out _ _ ?_ (fun hHeld => ?_)
            · exact ⟨(P0.later HW).facts.1, (P0.later HW).facts.2.1, (P1.later HW).facts.1, (P1.later HW).facts.2.1, (Bg.later HW).facts.1, (Bg.later HW).facts.2.1⟩
            clear hK K
            try simp only [List.setIfInBounds_toArray, List.set_cons_zero, List.set_cons_succ]
            exact till_go J2 (bp, ap, lp, cp, bd, ad, ld, cd, bq, aq, lq, cq, be, ae, le, ce, wj.heap.size) rfl (by kernel_rfl) (by (try dsimp only); rw [unhide HA]; simp only [Act.put, List.setIfInBounds_toArray, List.set_cons_zero, List.set_cons_succ]) (by (try dsimp only); exact ⟨HW, hq, he, B7, hg7⟩)
          · go_simp
            have hwk : v3.heap.size ≤ wj.heap.size := HW.size
            obtain ⟨wk, hWe⟩ : ∃ W', W' = wj.alloc (.cells #[.bool false, .slice none 0 0] 24) := ⟨_, rfl⟩
            obtain ⟨B8, hb9⟩ := boxes1 wj false none 0 0 hWe
            rw [← hWe]
            clear hWe
            replace HW := Below.step HW hb9
            replace hq := hq.later hb9
            replace he := he.later hb9
            clear hb9
            have hg8 := hwk
            refine hK.out _ _ ?_ (fun hHeld => ?_)
            · exact ⟨(P0.later HW).facts.1, (P0.later HW).facts.2.1, (P1.later HW).facts.1, (P1.later HW).facts.2.1, (Bg.later HW).facts.1, (Bg.later HW).facts.2.1⟩
            clear hK K
            try simp only [List.setIfInBounds_toArray, List.set_cons_zero, List.set_cons_succ]
            exact till_go J1 (bp, ap, lp, cp, bd, ad, ld, cd, bq, aq, lq, cq, be, ae, le, ce, wj.heap.size) rfl (by kernel_rfl) (by (try dsimp only); rw [unhide HA]; simp only [Act.put, List.setIfInBounds_toArray, List.set_cons_zero, List.set_cons_succ]) (by (try dsimp only); exact ⟨HW, hq, he, B8, hg8⟩)
        refine till_mid 6 #[true, true, true, true, true, false, false, false, false, true, true, false, false] (ι := Bool × Option Addr × Nat × Nat × Bool × Option Addr × Nat × Nat × Nat × Nat) (fun (bp, ap, lp, cp, bd, ad, ld, cd, g7, g8) => ((((act0.put (some 31) (.agg #[.bool bp, .slice ap lp cp])).put (some 32) (.agg #[.bool bd, .slice ad ld cd])).put (some 7) ((.pointer (some ⟨g7, 0, none⟩)))).put (some 8) ((.pointer (some ⟨g8, 0, none⟩))))) (fun (bp, ap, lp, cp, bd, ad, ld, cd, g7, g8) w => Below v3.heap.size v3 w ∧ FK w bd ad ld cd ((z0 * z1).natAbs : Int) (kx + kx) ∧ Box w g7 false none 0 0 ∧ v3.heap.size ≤ g7 ∧ Box w g8 false none 0 0 ∧ v3.heap.size ≤ g8 ∧ g7 ≠ g8) ?_ (fun J4 => ?_)
        · rintro ⟨bp, ap, lp, cp, bd, ad, ld, cd, g7, g8⟩ wj hI
          try dsimp only at hI ⊢
          obtain ⟨HW, hd, B7, hg7, B8, hg8, hneg7g8⟩ := hI
          have hHeld : wj.cell? ⟨w.heap.size, 0, none⟩ = some (.bool b0) ∧ wj.cell? ⟨w.heap.size, 1, none⟩ = some (.slice a0 len0 cap0) ∧ wj.cell? ⟨w.heap.size + 1, 0, none⟩ = some (.bool b1) ∧ wj.cell? ⟨w.heap.size + 1, 1, none⟩ = some (.slice a1 len1 cap1) ∧ wj.cell? ⟨v1.heap.size, 0, none⟩ = some (.bool bg) ∧ wj.cell? ⟨v1.heap.size, 1, none⟩ = some (.slice ag lg cg) := by exact ⟨(P0.later HW).facts.1, (P0.later HW).facts.2.1, (P1.later HW).facts.1, (P1.later HW).facts.2.1, (Bg.later HW).facts.1, (Bg.later HW).facts.2.1⟩
          rw [unhide HA]
          simp only [Act.put, List.setIfInBounds_toArray, List.set_cons_zero, List.set_cons_succ]
          refine till_in (i := 5) (by kernel_rfl) rfl (fun K hK => ?_)
          go_simp
          refine (rquoK bd ad ld cd ((z0 * z1).natAbs : Int) (kx + kx) bg ag lg cg (Int.gcd z0 z1 : Int) (max kx kx) _ (hd.ik (by omega)) ((hg.later HW).ik (by omega)) (unhide H0)).mono ?_
          rintro e wk ⟨bq, aq, lq, cq, be, ae, le, ce, rfl, hq, he, hb9⟩
          replace HW := Below.step HW hb9
          replace B7 := B7.later hb9
          replace B8 := B8.later hb9
          clear hb9 hd
          refine hK.out _ _ ?_ (fun hHeld => ?_)
          · exact ⟨(P0.later HW).facts.1, (P0.later HW).facts.2.1, (P1.later HW).facts.1, (P1.later HW).facts.2.1, (Bg.later HW).facts.1, (Bg.later HW).facts.2.1⟩
          clear hK K
          try simp only [List.setIfInBounds_toArray, List.set_cons_zero, List.set_cons_succ]
          refine till_free (i := 6) (v := ?_) rfl (by kernel_rfl) (by kernel_rfl) (by kernel_rfl) (by kernel_rfl) (fun _ _ _ h => h) (Or.inl ⟨by rfl, ?_⟩) (by assumption) ?_
          rotate_left
          · (intro wx hSw; (try dsimp only at hSw); go_simp; (try rw [if_neg (by omega)]); try with_reducible rfl)
          simp only [Act.put, List.getElem_toArray, List.getElem_cons_succ, List.getElem_cons_zero, List.setIfInBounds_toArray, List.set_cons_zero, List.set_cons_succ]
          refine till_free (i := 7) (v := ?_) rfl (by kernel_rfl) (by kernel_rfl) (by kernel_rfl) (by kernel_rfl) (fun _ _ _ h => h) (Or.inl ⟨by rfl, ?_⟩) (by assumption) ?_
          rotate_left
          · (intro wx hSw; (try dsimp only at hSw); go_simp; (try rw [if_neg (by omega)]); try with_reducible rfl)
          simp only [Act.put, List.getElem_toArray, List.getElem_cons_succ, List.getElem_cons_zero, List.setIfInBounds_toArray, List.set_cons_zero, List.set_cons_succ]
          refine till_free (i := 8) (v := ?_) rfl (by kernel_rfl) (by kernel_rfl) (by kernel_rfl) (by kernel_rfl) (fun _ _ _ h => h) (Or.inl ⟨by rfl, ?_⟩) (by assumption) ?_
          rotate_left
          · (intro wx hSw; (try dsimp only at hSw); go_simp; (try rw [if_neg (by omega)]); try with_reducible rfl)
          simp only [Act.put, List.getElem_toArray, List.getElem_cons_succ, List.getElem_cons_zero, List.setIfInBounds_toArray, List.set_cons_zero, List.set_cons_succ]
          exact till_go J0 (bp, ap, lp, cp, bd, ad, ld, cd, bq, aq, lq, cq, be, ae, le, ce, g7, g8) rfl (by kernel_rfl) (by (try dsimp only); rw [unhide HA]; simp only [Act.put, List.setIfInBounds_toArray, List.set_cons_zero, List.set_cons_succ]) (by (try dsimp only); exact ⟨HW, hq, he, B7, hg7, B8, hg8, hneg7g8⟩)
        refine till_mid 7 #[true, true, true, false, true, false, false, false, false, true, true, false, false] (ι := Bool × Option Addr × Nat × Nat × Nat × Nat) (fun (bp, ap, lp, cp, g7, g8) => (((act0.put (some 31) (.agg #[.bool bp, .slice ap lp cp])).put (some 7) ((.pointer (some ⟨g7, 0, none⟩)))).put (some 8) ((.pointer (some ⟨g8, 0, none⟩))))) (fun (bp, ap, lp, cp, g7, g8) w => Below v3.heap.size v3 w ∧ FK w bp ap lp cp (z0 * z1) (kx + kx) ∧ Box w g7 false none 0 0 ∧ v3.heap.size ≤ g7 ∧ Box w g8 false none 0 0 ∧ v3.heap.size ≤ g8 ∧ g7 ≠ g8) ?_ (fun J5 => ?_)
        · rintro ⟨bp, ap, lp, cp, g7, g8⟩ wj hI
          try dsimp only at hI ⊢
          obtain ⟨HW, hp, B7, hg7, B8, hg8, hneg7g8⟩ := hI
          have hHeld : wj.cell? ⟨w.heap.size, 0, none⟩ = some (.bool b0) ∧ wj.cell? ⟨w.heap.size, 1, none⟩ = some (.slice a0 len0 cap0) ∧ wj.cell? ⟨w.heap.size + 1, 0, none⟩ = some (.bool b1) ∧ wj.cell? ⟨w.heap.size + 1, 1, none⟩ = some (.slice a1 len1 cap1) ∧ wj.cell? ⟨v1.heap.size, 0, none⟩ = some (.bool bg) ∧ wj.cell? ⟨v1.heap.size, 1, none⟩ = some (.slice ag lg cg) := by exact ⟨(P0.later HW).facts.1, (P0.later HW).facts.2.1, (P1.later HW).facts.1, (P1.later HW).facts.2.1, (Bg.later HW).facts.1, (Bg.later HW).facts.2.1⟩
          rw [unhide HA]
          simp only [Act.put, List.setIfInBounds_toArray, List.set_cons_zero, List.set_cons_succ]
          refine till_in (i := 3) (by kernel_rfl) rfl (fun K hK => ?_)
          go_simp
          refine (rabsK bp ap lp cp (z0 * z1) (kx + kx) _ (hp.ik (by omega))).mono ?_
          rintro e wk ⟨bd, ad, ld, cd, rfl, hd, hb9⟩
          replace HW := Below.step HW hb9
          replace B7 := B7.later hb9
          replace B8 := B8.later hb9
          clear hb9 hp
          refine hK.out _ _ ?_ (fun hHeld => ?_)
          · exact ⟨(P0.later HW).facts.1, (P0.later HW).facts.2.1, (P1.later HW).facts.1, (P1.later HW).facts.2.1, (Bg.later HW).facts.1, (Bg.later HW).facts.2.1⟩
          clear hK K
          try simp only [List.setIfInBounds_toArray, List.set_cons_zero, List.set_cons_succ]
          exact till_go J4 (bp, ap, lp, cp, bd, ad, ld, cd, g7, g8) rfl (by kernel_rfl) (by (try dsimp only); rw [unhide HA]; simp only [Act.put, List.setIfInBounds_toArray, List.set_cons_zero, List.set_cons_succ]) (by (try dsimp only); exact ⟨HW, hd, B7, hg7, B8, hg8, hneg7g8⟩)
        refine till_mid 7 #[true, true, true, true, true, false, false, false, false, false, true, false, false] (ι := Bool × Option Addr × Nat × Nat × Bool × Option Addr × Nat × Nat × Nat) (fun (bp, ap, lp, cp, bd, ad, ld, cd, g8) => (((act0.put (some 31) (.agg #[.bool bp, .slice ap lp cp])).put (some 32) (.agg #[.bool bd, .slice ad ld cd])).put (some 8) ((.pointer (some ⟨g8, 0, none⟩))))) (fun (bp, ap, lp, cp, bd, ad, ld, cd, g8) w => Below v3.heap.size v3 w ∧ FK w bd ad ld cd ((z0 * z1).natAbs : Int) (kx + kx) ∧ Box w g8 false none 0 0 ∧ v3.heap.size ≤ g8) ?_ (fun J6 => ?_)
        · rintro ⟨bp, ap, lp, cp, bd, ad, ld, cd, g8⟩ wj hI
          try dsimp only at hI ⊢
          obtain ⟨HW, hd, B8, hg8⟩ := hI
          have hHeld : wj.cell? ⟨w.heap.size, 0, none⟩ = some (.bool b0) ∧ wj.cell? ⟨w.heap.size, 1, none⟩ = some (.slice a0 len0 cap0) ∧ wj.cell? ⟨w.heap.size + 1, 0, none⟩ = some (.bool b1) ∧ wj.cell? ⟨w.heap.size + 1, 1, none⟩ = some (.slice a1 len1 cap1) ∧ wj.cell? ⟨v1.heap.size, 0, none⟩ = some (.bool bg) ∧ wj.cell? ⟨v1.heap.size, 1, none⟩ = some (.slice ag lg cg) := by exact ⟨(P0.later HW).facts.1, (P0.later HW).facts.2.1, (P1.later HW).facts.1, (P1.later HW).facts.2.1, (Bg.later HW).facts.1, (Bg.later HW).facts.2.1⟩
          rw [unhide HA]
          simp only [Act.put, List.setIfInBounds_toArray, List.set_cons_zero, List.set_cons_succ]
          refine till_two (i := 5) (j := 9) (by kernel_rfl) rfl rfl (fun K hK => ?_) (fun K hK => ?_)
          · go_simp
            refine (rquoK bd ad ld cd ((z0 * z1).natAbs : Int) (kx + kx) bg ag lg cg (Int.gcd z0 z1 : Int) (max kx kx) _ (hd.ik (by omega)) ((hg.later HW).ik (by omega)) (unhide H0)).mono ?_
            rintro e wk ⟨bq, aq, lq, cq, be, ae, le, ce, rfl, hq, he, hb9⟩
            replace HW := Below.step HW hb9
            replace B8 := B8.later hb9
            clear hb9 hd
            refine hK.out _ _ ?_ (fun hHeld => ?_)
            · exact ⟨(P0.later HW).facts.1, (P0.later HW).facts.2.1, (P1.later HW).facts.1, (P1.later HW).facts.2.1, (Bg.later HW).facts.1, (Bg.later HW).facts.2.1⟩
            clear hK K
            try simp only [List.setIfInBounds_toArray, List.set_cons_zero, List.set_cons_succ]
            refine till_free (i := 6) (v := ?_) rfl (by kernel_rfl) (by kernel_rfl) (by kernel_rfl) (by kernel_rfl) (fun _ _ _ h => h) (Or.inl ⟨by rfl, ?_⟩) (by assumption) ?_
            rotate_left
            · (intro wx hSw; (try dsimp only at hSw); go_simp; (try rw [if_neg (by omega)]); try with_reducible rfl)
            simp only [Act.put, List.getElem_toArray, List.getElem_cons_succ, List.getElem_cons_zero, List.setIfInBounds_toArray, List.set_cons_zero, List.set_cons_succ]
            refine till_free (i := 7) (v := ?_) rfl (by kernel_rfl) (by kernel_rfl) (by kernel_rfl) (by kernel_rfl) (fun _ _ _ h => h) (Or.inl ⟨by rfl, ?_⟩) (by assumption) ?_
            rotate_left
            · (intro wx hSw; (try dsimp only at hSw); go_simp; (try rw [if_neg (by omega)]); try with_reducible rfl)
            simp only [Act.put, List.getElem_toArray, List.getElem_cons_succ, List.getElem_cons_zero, List.setIfInBounds_toArray, List.set_cons_zero, List.set_cons_succ]
            refine till_free (i := 8) (v := ?_) rfl (by kernel_rfl) (by kernel_rfl) (by kernel_rfl) (by kernel_rfl) (fun _ _ _ h => h) (Or.inl ⟨by rfl, ?_⟩) (by assumption) ?_
            rotate_left
            · (intro wx hSw; (try dsimp only at hSw); go_simp; (try rw [if_neg (by omega)]); try with_reducible rfl)
            simp only [Act.put, List.getElem_toArray, List.getElem_cons_succ, List.getElem_cons_zero, List.setIfInBounds_toArray, List.set_cons_zero, List.set_cons_succ]
            exact till_go J1 (bp, ap, lp, cp, bd, ad, ld, cd, bq, aq, lq, cq, be, ae, le, ce, g8) rfl (by kernel_rfl) (by (try dsimp only); rw [unhide HA]; simp only [Act.put, List.setIfInBounds_toArray, List.set_cons_zero, List.set_cons_succ]) (by (try dsimp only); exact ⟨HW, hq, he, B8, hg8⟩)
          · go_simp
            have hwk : v3.heap.size ≤ wj.heap.size := HW.size
            have hxg8 := B8.lt
            obtain ⟨wk, hWe⟩ : ∃ W', W' = wj.alloc (.cells #[.bool false, .slice none 0 0] 24) := ⟨_, rfl⟩
            obtain ⟨B7, hb9⟩ := boxes1 wj false none 0 0 hWe
            rw [← hWe]
            clear hWe
            replace HW := Below.step HW hb9
            replace hd := hd.later hb9
            replace B8 := B8.later hb9
            clear hb9
            have hg7 := hwk
            have hneg7g8 : wj.heap.size ≠ g8 := by omega
            refine hK.out _ _ ?_ (fun hHeld => ?_)
            · exact ⟨(P0.later HW).facts.1, (P0.later HW).facts.2.1, (P1.later HW).facts.1, (P1.later HW).facts.2.1, (Bg.later HW).facts.1, (Bg.later HW).facts.2.1⟩
            clear hK K
            try simp only [List.setIfInBounds_toArray, List.set_cons_zero, List.set_cons_succ]
            exact till_go J4 (bp, ap, lp, cp, bd, ad, ld, cd, wj.heap.size, g8) rfl (by kernel_rfl) (by (try dsimp only); rw [unhide HA]; simp only [Act.put, List.setIfInBounds_toArray, List.set_cons_zero, List.set_cons_succ]) (by (try dsimp only); exact ⟨HW, hd, B7, hg7, B8, hg8, hneg7g8⟩)
        refine till_mid 7 #[true, true, true, true, true, false, false, false, false, true, false, false, false] (ι := Bool × Option Addr × Nat × Nat × Bool × Option Addr × Nat × Nat × Nat) (fun (bp, ap, lp, cp, bd, ad, ld, cd, g7) => (((act0.put (some 31) (.agg #[.bool bp, .slice ap lp cp])).put (some 32) (.agg #[.bool bd, .slice ad ld cd])).put (some 7) ((.pointer (some ⟨g7, 0, none⟩))))) (fun (bp, ap, lp, cp, bd, ad, ld, cd, g7) w => Below v3.heap.size v3 w ∧ FK w bd ad ld cd ((z0 * z1).natAbs : Int) (kx + kx) ∧ Box w g7 false none 0 0 ∧ v3.heap.size ≤ g7) ?_ (fun J7 => ?_)
        · rintro ⟨bp, ap, lp, cp, bd, ad, ld, cd, g7⟩ wj hI
          try dsimp only at hI ⊢
          obtain ⟨HW, hd, B7, hg7⟩ := hI
          have hHeld : wj.cell? ⟨w.heap.size, 0, none⟩ = some (.bool b0) ∧ wj.cell? ⟨w.heap.size, 1, none⟩ = some (.slice a0 len0 cap0) ∧ wj.cell? ⟨w.heap.size + 1, 0, none⟩ = some (.bool b1) ∧ wj.cell? ⟨w.heap.size + 1, 1, none⟩ = some (.slice a1 len1 cap1) ∧ wj.cell? ⟨v1.heap.size, 0, none⟩ = some (.bool bg) ∧ wj.cell? ⟨v1.heap.size, 1, none⟩ = some (.slice ag lg cg) := by exact ⟨(P0.later HW).facts.1, (P0.later HW).facts.2.1, (P1.later HW).facts.1, (P1.later HW).facts.2.1, (Bg.later HW).facts.1, (Bg.later HW).facts.2.1⟩
          rw [unhide HA]
          simp only [Act.put, List.setIfInBounds_toArray, List.set_cons_zero, List.set_cons_succ]
          refine till_two (i := 5) (j := 10) (by kernel_rfl) rfl rfl (fun K hK => ?_) (fun K hK => ?_)
          · go_simp
            refine (rquoK bd ad ld cd ((z0 * z1).natAbs : Int) (kx + kx) bg ag lg cg (Int.gcd z0 z1 : Int) (max kx kx) _ (hd.ik (by omega)) ((hg.later HW).ik (by omega)) (unhide H0)).mono ?_
            rintro e wk ⟨bq, aq, lq, cq, be, ae, le, ce, rfl, hq, he, hb9⟩
            replace HW := Below.step HW hb9
            replace B7 := B7.later hb9
            clear hb9 hd
            refine hK.out _ _ ?_ (fun hHeld => ?_)
            · exact ⟨(P0.later HW).facts.1, (P0.later HW).facts.2.1, (P1.later HW).facts.1, (P1.later HW).facts.2.1, (Bg.later HW).facts.1, (Bg.later HW).facts.2.1⟩
            clear hK K
            try simp only [List.setIfInBounds_toArray, List.set_cons_zero, List.set_cons_succ]
            refine till_free (i := 6) (v := ?_) rfl (by kernel_rfl) (by kernel_rfl) (by kernel_rfl) (by kernel_rfl) (fun _ _ _ h => h) (Or.inl ⟨by rfl, ?_⟩) (by assumption) ?_
            rotate_left
            · (intro wx hSw; (try dsimp only at hSw); go_simp; (try rw [if_neg (by omega)]); try with_reducible rfl)
            simp only [Act.put, List.getElem_toArray, List.getElem_cons_succ, List.getElem_cons_zero, List.setIfInBounds_toArray, List.set_cons_zero, List.set_cons_succ]
            refine till_free (i := 7) (v := ?_) rfl (by kernel_rfl) (by kernel_rfl) (by kernel_rfl) (by kernel_rfl) (fun _ _ _ h => h) (Or.inl ⟨by rfl, ?_⟩) (by assumption) ?_
            rotate_left
            · (intro wx hSw; (try dsimp only at hSw); go_simp; (try rw [if_neg (by omega)]); try with_reducible rfl)
            simp only [Act.put, List.getElem_toArray, List.getElem_cons_succ, List.getElem_cons_zero, List.setIfInBounds_toArray, List.set_cons_zero, List.set_cons_succ]
            refine till_free (i := 8) (v := ?_) rfl (by kernel_rfl) (by kernel_rfl) (by kernel_rfl) (by kernel_rfl) (fun _ _ _ h => h) (Or.inl ⟨by rfl, ?_⟩) (by assumption) ?_
            rotate_left
            · (intro wx hSw; (try dsimp only at hSw); go_simp; (try rw [if_neg (by omega)]); try with_reducible rfl)
            simp only [Act.put, List.getElem_toArray, List.getElem_cons_succ, List.getElem_cons_zero, List.setIfInBounds_toArray, List.set_cons_zero, List.set_cons_succ]
            exact till_go J2 (bp, ap, lp, cp, bd, ad, ld, cd, bq, aq, lq, cq, be, ae, le, ce, g7) rfl (by kernel_rfl) (by (try dsimp only); rw [unhide HA]; simp only [Act.put, List.setIfInBounds_toArray, List.set_cons_zero, List.set_cons_succ]) (by (try dsimp only); exact ⟨HW, hq, he, B7, hg7⟩)
          · go_simp
            have hwk : v3.heap.size ≤ wj.heap.size := HW.size
            have hxg7 := B7.lt
            obtain ⟨wk, hWe⟩ : ∃ W', W' = wj.alloc (.cells #[.bool false, .slice none 0 0] 24) := ⟨_, rfl⟩
            obtain ⟨B8, hb9⟩ := boxes1 wj false none 0 0 hWe
            rw [← hWe]
            clear hWe
            replace HW := Below.step HW hb9
            replace hd := hd.later hb9
            replace B7 := B7.later hb9
            clear hb9
            have hg8 := hwk
            have hneg7g8 : g7 ≠ wj.heap.size := by omega
            refine hK.out _ _ ?_ (fun hHeld => ?_)
            · exact ⟨(P0.later HW).facts.1, (P0.later HW).facts.2.1, (P1.later HW).facts.1, (P1.later HW).facts.2.1, (Bg.later HW).facts.1, (Bg.later HW).facts.2.1⟩
            clear hK K
            try simp only [List.setIfInBounds_toArray, List.set_cons_zero, List.set_cons_succ]
            exact till_go J4 (bp, ap, lp, cp, bd, ad, ld, cd, g7, wj.heap.size) rfl (by kernel_rfl) (by (try dsimp only); rw [unhide HA]; simp only [Act.put, List.setIfInBounds_toArray, List.set_cons_zero, List.set_cons_succ]) (by (try dsimp only); exact ⟨HW, hd, B7, hg7, B8, hg8, hneg7g8⟩)
        refine till_mid 8 #[true, true, false, false, true, false, false, false, false, true, true, false, false] (ι := Nat × Nat) (fun (g7, g8) => ((act0.put (some 7) ((.pointer (some ⟨g7, 0, none⟩)))).put (some 8) ((.pointer (some ⟨g8, 0, none⟩))))) (fun (g7, g8) w => Below v3.heap.size v3 w ∧ Box w g7 false none 0 0 ∧ v3.heap.size ≤ g7 ∧ Box w g8 false none 0 0 ∧ v3.heap.size ≤ g8 ∧ g7 ≠ g8) ?_ (fun J8 => ?_)
        · rintro ⟨g7, g8⟩ wj hI
          try dsimp only at hI ⊢
          obtain ⟨HW, B7, hg7, B8, hg8, hneg7g8⟩ := hI
          have hHeld : wj.cell? ⟨w.heap.size, 0, none⟩ = some (.bool b0) ∧ wj.cell? ⟨w.heap.size, 1, none⟩ = some (.slice a0 len0 cap0) ∧ wj.cell? ⟨w.heap.size + 1, 0, none⟩ = some (.bool b1) ∧ wj.cell? ⟨w.heap.size + 1, 1, none⟩ = some (.slice a1 len1 cap1) ∧ wj.cell? ⟨v1.heap.size, 0, none⟩ = some (.bool bg) ∧ wj.cell? ⟨v1.heap.size, 1, none⟩ = some (.slice ag lg cg) := by exact ⟨(P0.later HW).facts.1, (P0.later HW).facts.2.1, (P1.later HW).facts.1, (P1.later HW).facts.2.1, (Bg.later HW).facts.1, (Bg.later HW).facts.2.1⟩
          rw [unhide HA]
          simp only [Act.put, List.setIfInBounds_toArray, List.set_cons_zero, List.set_cons_succ]
          refine till_in (i := 2) (by kernel_rfl) rfl (fun K hK => ?_)
          go_simp
          refine (rmulK b0 a0 len0 cap0 z0 kx b1 a1 len1 cap1 z1 kx _ (h0.later HW) (h1.later HW) hlens).mono ?_
          rintro e wk ⟨bp, ap, lp, cp, rfl, hp, hb9⟩
          replace HW := Below.step HW hb9
          replace B7 := B7.later hb9
          replace B8 := B8.later hb9
          clear hb9
          refine hK.out _ _ ?_ (fun hHeld => ?_)
          · exact ⟨(P0.later HW).facts.1, (P0.later HW).facts.2.1, (P1.later HW).facts.1, (P1.later HW).facts.2.1, (Bg.later HW).facts.1, (Bg.later HW).facts.2.1⟩
          clear hK K
          try simp only [List.setIfInBounds_toArray, List.set_cons_zero, List.set_cons_succ]
          exact till_go J5 (bp, ap, lp, cp, g7, g8) rfl (by kernel_rfl) (by (try dsimp only); rw [unhide HA]; simp only [Act.put, List.setIfInBounds_toArray, List.set_cons_zero, List.set_cons_succ]) (by (try dsimp only); exact ⟨HW, hp, B7, hg7, B8, hg8, hneg7g8⟩)
        refine till_mid 8 #[true, true, true, false, true, false, false, false, false, false, true, false, false] (ι := Bool × Option Addr × Nat × Nat × Nat) (fun (bp, ap, lp, cp, g8) => ((act0.put (some 31) (.agg #[.bool bp, .slice ap lp cp])).put (some 8) ((.pointer (some ⟨g8, 0, none⟩))))) (fun (bp, ap, lp, cp, g8) w => Below v3.heap.size v3 w ∧ FK w bp ap lp cp (z0 * z1) (kx + kx) ∧ Box w g8 false none 0 0 ∧ v3.heap.size ≤ g8) ?_ (fun J9 => ?_)
        · rintro ⟨bp, ap, lp, cp, g8⟩ wj hI
          try dsimp only at hI ⊢
          obtain ⟨HW, hp, B8, hg8⟩ := hI
          have hHeld : wj.cell? ⟨w.heap.size, 0, none⟩ = some (.bool b0) ∧ wj.cell? ⟨w.heap.size, 1, none⟩ = some (.slice a0 len0 cap0) ∧ wj.cell? ⟨w.heap.size + 1, 0, none⟩ = some (.bool b1) ∧ wj.cell? ⟨w.heap.size + 1, 1, none⟩ = some (.slice a1 len1 cap1) ∧ wj.cell? ⟨v1.heap.size, 0, none⟩ = some (.bool bg) ∧ wj.cell? ⟨v1.heap.size, 1, none⟩ = some (.slice ag lg cg) := by exact ⟨(P0.later HW).facts.1, (P0.later HW).facts.2.1, (P1.later HW).facts.1, (P1.later HW).facts.2.1, (Bg.later HW).facts.1, (Bg.later HW).facts.2.1⟩
          rw [unhide HA]
          simp only [Act.put, List.setIfInBounds_toArray, List.set_cons_zero, List.set_cons_succ]
          refine till_two (i := 3) (j := 9) (by kernel_rfl) rfl rfl (fun K hK => ?_) (fun K hK => ?_)
          · go_simp
            refine (rabsK bp ap lp cp (z0 * z1) (kx + kx) _ (hp.ik (by omega))).mono ?_
            rintro e wk ⟨bd, ad, ld, cd, rfl, hd, hb9⟩
            replace HW := Below.step HW hb9
            replace B8 := B8.later hb9
            clear hb9 hp
            refine hK.out _ _ ?_ (fun hHeld => ?_)
            · exact ⟨(P0.later HW).facts.1, (P0.later HW).facts.2.1, (P1.later HW).facts.1, (P1.later HW).facts.2.1, (Bg.later HW).facts.1, (Bg.later HW).facts.2.1⟩
            clear hK K
            try simp only [List.setIfInBounds_toArray, List.set_cons_zero, List.set_cons_succ]
            exact till_go J6 (bp, ap, lp, cp, bd, ad, ld, cd, g8) rfl (by kernel_rfl) (by (try dsimp only); rw [unhide HA]; simp only [Act.put, List.setIfInBounds_toArray, List.set_cons_zero, List.set_cons_succ]) (by (try dsimp only); exact ⟨HW, hd, B8, hg8⟩)
          · go_simp
            have hwk : v3.heap.size ≤ wj.heap.size := HW.size
            have hxg8 := B8.lt
            obtain ⟨wk, hWe⟩ : ∃ W', W' = wj.alloc (.cells #[.bool false, .slice none 0 0] 24) := ⟨_, rfl⟩
            obtain ⟨B7, hb9⟩ := boxes1 wj false none 0 0 hWe
            rw [← hWe]
            clear hWe
            replace HW := Below.step HW hb9
            replace hp := hp.later hb9
            replace B8 := B8.later hb9
            clear hb9
            have hg7 := hwk
            have hneg7g8 : wj.heap.size ≠ g8 := by omega
            refine hK.out _ _ ?_ (fun hHeld => ?_)
            · exact ⟨(P0.later HW).facts.1, (P0.later HW).facts.2.1, (P1.later HW).facts.1, (P1.later HW).facts.2.1, (Bg.later HW).facts.1, (Bg.later HW).facts.2.1⟩
            clear hK K
            try simp only [List.setIfInBounds_toArray, List.set_cons_zero, List.set_cons_succ]
            exact till_go J5 (bp, ap, lp, cp, wj.heap.size, g8) rfl (by kernel_rfl) (by (try dsimp only); rw [unhide HA]; simp only [Act.put, List.setIfInBounds_toArray, List.set_cons_zero, List.set_cons_succ]) (by (try dsimp only); exact ⟨HW, hp, B7, hg7, B8, hg8, hneg7g8⟩)
        refine till_mid 8 #[true, true, true, false, true, false, false, false, false, true, false, false, false] (ι := Bool × Option Addr × Nat × Nat × Nat) (fun (bp, ap, lp, cp, g7) => ((act0.put (some 31) (.agg #[.bool bp, .slice ap lp cp])).put (some 7) ((.pointer (some ⟨g7, 0, none⟩))))) (fun (bp, ap, lp, cp, g7) w => Below v3.heap.size v3 w ∧ FK w bp ap lp cp (z0 * z1) (kx + kx) ∧ Box w g7 false none 0 0 ∧ v3.heap.size ≤ g7) ?_ (fun J10 => ?_)
        · rintro ⟨bp, ap, lp, cp, g7⟩ wj hI
          try dsimp only at hI ⊢
          obtain ⟨HW, hp, B7, hg7⟩ := hI
          have hHeld : wj.cell? ⟨w.heap.size, 0, none⟩ = some (.bool b0) ∧ wj.cell? ⟨w.heap.size, 1, none⟩ = some (.slice a0 len0 cap0) ∧ wj.cell? ⟨w.heap.size + 1, 0, none⟩ = some (.bool b1) ∧ wj.cell? ⟨w.heap.size + 1, 1, none⟩ = some (.slice a1 len1 cap1) ∧ wj.cell? ⟨v1.heap.size, 0, none⟩ = some (.bool bg) ∧ wj.cell? ⟨v1.heap.size, 1, none⟩ = some (.slice ag lg cg) := by exact ⟨(P0.later HW).facts.1, (P0.later HW).facts.2.1, (P1.later HW).facts.1, (P1.later HW).facts.2.1, (Bg.later HW).facts.1, (Bg.later HW).facts.2.1⟩
          rw [unhide HA]
          simp only [Act.put, List.setIfInBounds_toArray, List.set_cons_zero, List.set_cons_succ]
          refine till_two (i := 3) (j := 10) (by kernel_rfl) rfl rfl (fun K hK => ?_) (fun K hK => ?_)
          · go_simp
            refine (rabsK bp ap lp cp (z0 * z1) (kx + kx) _ (hp.ik (by omega))).mono ?_
            rintro e wk ⟨bd, ad, ld, cd, rfl, hd, hb9⟩
            replace HW := Below.step HW hb9
            replace B7 := B7.later hb9
            clear hb9 hp
            refine hK.out _ _ ?_ (fun hHeld => ?_)
            · exact ⟨(P0.later HW).facts.1, (P0.later HW).facts.2.1, (P1.later HW).facts.1, (P1.later HW).facts.2.1, (Bg.later HW).facts.1, (Bg.later HW).facts.2.1⟩
            clear hK K
            try simp only [List.setIfInBounds_toArray, List.set_cons_zero, List.set_cons_succ]
            exact till_go J7 (bp, ap, lp, cp, bd, ad, ld, cd, g7) rfl (by kernel_rfl) (by (try dsimp only); rw [unhide HA]; simp only [Act.put, List.setIfInBounds_toArray, List.set_cons_zero, List.set_cons_succ]) (by (try dsimp only); exact ⟨HW, hd, B7, hg7⟩)
          · go_simp
            have hwk : v3.heap.size ≤ wj.heap.size := HW.size
            have hxg7 := B7.lt
            obtain ⟨wk, hWe⟩ : ∃ W', W' = wj.alloc (.cells #[.bool false, .slice none 0 0] 24) := ⟨_, rfl⟩
            obtain ⟨B8, hb9⟩ := boxes1 wj false none 0 0 hWe
            rw [← hWe]
            clear hWe
            replace HW := Below.step HW hb9
            replace hp := hp.later hb9
            replace B7 := B7.later hb9
            clear hb9
            have hg8 := hwk
            have hneg7g8 : g7 ≠ wj.heap.size := by omega
            refine hK.out _ _ ?_ (fun hHeld => ?_)
            · exact ⟨(P0.later HW).facts.1, (P0.later HW).facts.2.1, (P1.later HW).facts.1, (P1.later HW).facts.2.1, (Bg.later HW).facts.1, (Bg.later HW).facts.2.1⟩
            clear hK K
            try simp only [List.setIfInBounds_toArray, List.set_cons_zero, List.set_cons_succ]
            exact till_go J5 (bp, ap, lp, cp, g7, wj.heap.size) rfl (by kernel_rfl) (by (try dsimp only); rw [unhide HA]; simp only [Act.put, List.setIfInBounds_toArray, List.set_cons_zero, List.set_cons_succ]) (by (try dsimp only); exact ⟨HW, hp, B7, hg7, B8, hg8, hneg7g8⟩)
        refine till_mid 8 #[true, true, true, true, true, false, false, false, false, false, false, false, false] (ι := Bool × Option Addr × Nat × Nat × Bool × Option Addr × Nat × Nat) (fun (bp, ap, lp, cp, bd, ad, ld, cd) => ((act0.put (some 31) (.agg #[.bool bp, .slice ap lp cp])).put (some 32) (.agg #[.bool bd, .slice ad ld cd]))) (fun (bp, ap, lp, cp, bd, ad, ld, cd) w => Below v3.heap.size v3 w ∧ FK w bd ad ld cd ((z0 * z1).natAbs : Int) (kx + kx)) ?_ (fun J11 => ?_)
        · rintro ⟨bp, ap, lp, cp, bd, ad, ld, cd⟩ wj hI
          try dsimp only at hI ⊢
          obtain ⟨HW, hd⟩ := hI
          have hHeld : wj.cell? ⟨w.heap.size, 0, none⟩ = some (.bool b0) ∧ wj.cell? ⟨w.heap.size, 1, none⟩ = some (.slice a0 len0 cap0) ∧ wj.cell? ⟨w.heap.size + 1, 0, none⟩ = some (.bool b1) ∧ wj.cell? ⟨w.heap.size + 1, 1, none⟩ = some (.slice a1 len1 cap1) ∧ wj.cell? ⟨v1.heap.size, 0, none⟩ = some (.bool bg) ∧ wj.cell? ⟨v1.heap.size, 1, none⟩ = some (.slice ag lg cg) := by exact ⟨(P0.later HW).facts.1, (P0.later HW).facts.2.1, (P1.later HW).facts.1, (P1.later HW).facts.2.1, (Bg.later HW).facts.1, (Bg.later HW).facts.2.1⟩
          rw [unhide HA]
          simp only [Act.put, List.setIfInBounds_toArray, List.set_cons_zero, List.set_cons_succ]
          refine till_three (i := 5) (j := 9) (k := 10) (by kernel_rfl) rfl rfl rfl (fun K hK => ?_) (fun K hK => ?_) (fun K hK => ?_)
          · go_simp
            refine (rquoK bd ad ld cd ((z0 * z1).natAbs : Int) (kx + kx) bg ag lg cg (Int.gcd z0 z1 : Int) (max kx kx) _ (hd.ik (by omega)) ((hg.later HW).ik (by omega)) (unhide H0)).mono ?_
            rintro e wk ⟨bq, aq, lq, cq, be, ae, le, ce, rfl, hq, he, hb9⟩
            replace HW := Below.step HW hb9
            clear hb9 hd
            refine hK.out _ _ ?_ (fun hHeld => ?_)
            · exact ⟨(P0.later HW).facts.1, (P0.later HW).facts.2.1, (P1.later HW).facts.1, (P1.later HW).facts.2.1, (Bg.later HW).facts.1, (Bg.later HW).facts.2.1⟩
            clear hK K
            try simp only [List.setIfInBounds_toArray, List.set_cons_zero, List.set_cons_succ]
            refine till_free (i := 6) (v := ?_) rfl (by kernel_rfl) (by kernel_rfl) (by kernel_rfl) (by kernel_rfl) (fun _ _ _ h => h) (Or.inl ⟨by rfl, ?_⟩) (by assumption) ?_
            rotate_left
            · (intro wx hSw; (try dsimp only at hSw); go_simp; (try rw [if_neg (by omega)]); try with_reducible rfl)
            simp only [Act.put, List.getElem_toArray, List.getElem_cons_succ, List.getElem_cons_zero, List.setIfInBounds_toArray, List.set_cons_zero, List.set_cons_succ]
            refine till_free (i := 7) (v := ?_) rfl (by kernel_rfl) (by kernel_rfl) (by kernel_rfl) (by kernel_rfl) (fun _ _ _ h => h) (Or.inl ⟨by rfl, ?_⟩) (by assumption) ?_
            rotate_left
            · (intro wx hSw; (try dsimp only at hSw); go_simp; (try rw [if_neg (by omega)]); try with_reducible rfl)
            simp only [Act.put, List.getElem_toArray, List.getElem_cons_succ, List.getElem_cons_zero, List.setIfInBounds_toArray, List.set_cons_zero, List.set_cons_succ]
            refine till_free (i := 8) (v := ?_) rfl (by kernel_rfl) (by kernel_rfl) (by kernel_rfl) (by kernel_rfl) (fun _ _ _ h => h) (Or.inl ⟨by rfl, ?_⟩) (by assumption) ?_
            rotate_left
            · (intro wx hSw; (try dsimp only at hSw); go_simp; (try rw [if_neg (by omega)]); try with_reducible rfl)
            simp only [Act.put, List.getElem_toArray, List.getElem_cons_succ, List.getElem_cons_zero, List.setIfInBounds_toArray, List.set_cons_zero, List.set_cons_succ]
            exact till_go J3 (bp, ap, lp, cp, bd, ad, ld, cd, bq, aq, lq, cq, be, ae, le, ce) rfl (by kernel_rfl) (by (try dsimp only); rw [unhide HA]; simp only [Act.put, List.setIfInBounds_toArray, List.set_cons_zero, List.set_cons_succ]) (by (try dsimp only); exact ⟨HW, hq, he⟩)
          · go_simp
            have hwk : v3.heap.size ≤ wj.heap.size := HW.size
            obtain ⟨wk, hWe⟩ : ∃ W', W' = wj.alloc (.cells #[.bool false, .slice none 0 0] 24) := ⟨_, rfl⟩
            obtain ⟨B7, hb9⟩ := boxes1 wj false none 0 0 hWe
            rw [← hWe]
            clear hWe
            replace HW := Below.step HW hb9
            replace hd := hd.later hb9
            clear hb9
            have hg7 := hwk
            refine hK.out _ _ ?_ (fun hHeld => ?_)
            · exact ⟨(P0.later HW).facts.1, (P0.later HW).facts.2.1, (P1.later HW).facts.1, (P1.later HW).facts.2.1, (Bg.later HW).facts.1, (Bg.later HW).facts.2.1⟩
            clear hK K
            try simp only [List.setIfInBounds_toArray, List.set_cons_zero, List.set_cons_succ]
            exact till_go J7 (bp, ap, lp, cp, bd, ad, ld, cd, wj.heap.size) rfl (by kernel_rfl) (by (try dsimp only); rw [unhide HA]; simp only [Act.put, List.setIfInBounds_toArray, List.set_cons_zero, List.set_cons_succ]) (by (try dsimp only); exact ⟨HW, hd, B7, hg7⟩)
          · go_simp
            have hwk : v3.heap.size ≤ wj.heap.size := HW.size
            obtain ⟨wk, hWe⟩ : ∃ W', W' = wj.alloc (.cells #[.bool false, .slice none 0 0] 24) := ⟨_, rfl⟩
            obtain ⟨B8, hb9⟩ := boxes1 wj false none 0 0 hWe
            rw [← hWe]
            clear hWe
            replace HW := Below.step HW hb9
            replace hd := hd.later hb9
            clear hb9
            have hg8 := hwk
            refine hK.out _ _ ?_ (fun hHeld => ?_)
            · exact ⟨(P0.later HW).facts.1, (P0.later HW).facts.2.1, (P1.later HW).facts.1, (P1.later HW).facts.2.1, (Bg.later HW).facts.1, (Bg.later HW).facts.2.1⟩
            clear hK K
            try simp only [List.setIfInBounds_toArray, List.set_cons_zero, List.set_cons_succ]
            exact till_go J6 (bp, ap, lp, cp, bd, ad, ld, cd, wj.heap.size) rfl (by kernel_rfl) (by (try dsimp only); rw [unhide HA]; simp only [Act.put, List.setIfInBounds_toArray, List.set_cons_zero, List.set_cons_succ]) (by (try dsimp only); exact ⟨HW, hd, B8, hg8⟩)
        refine till_mid 9 #[true, true, false, false, true, false, false, false, false, false, true, false, false] (ι := Nat) (fun g8 => (act0.put (some 8) ((.pointer (some ⟨g8, 0, none⟩))))) (fun g8 w => Below v3.heap.size v3 w ∧ Box w g8 false none 0 0 ∧ v3.heap.size ≤ g8) ?_ (fun J12 => ?_)
        · rintro g8 wj hI
          try dsimp only at hI ⊢
          obtain ⟨HW, B8, hg8⟩ := hI
          have hHeld : wj.cell? ⟨w.heap.size, 0, none⟩ = some (.bool b0) ∧ wj.cell? ⟨w.heap.size, 1, none⟩ = some (.slice a0 len0 cap0) ∧ wj.cell? ⟨w.heap.size + 1, 0, none⟩ = some (.bool b1) ∧ wj.cell? ⟨w.heap.size + 1, 1, none⟩ = some (.slice a1 len1 cap1) ∧ wj.cell? ⟨v1.heap.size, 0, none⟩ = some (.bool bg) ∧ wj.cell? ⟨v1.heap.size, 1, none⟩ = some (.slice ag lg cg) := by exact ⟨(P0.later HW).facts.1, (P0.later HW).facts.2.1, (P1.later HW).facts.1, (P1.later HW).facts.2.1, (Bg.later HW).facts.1, (Bg.later HW).facts.2.1⟩
          rw [unhide HA]
          simp only [Act.put, List.setIfInBounds_toArray, List.set_cons_zero, List.set_cons_succ]
          refine till_two (i := 2) (j := 9) (by kernel_rfl) rfl rfl (fun K hK => ?_) (fun K hK => ?_)
          · go_simp
            refine (rmulK b0 a0 len0 cap0 z0 kx b1 a1 len1 cap1 z1 kx _ (h0.later HW) (h1.later HW) hlens).mono ?_
            rintro e wk ⟨bp, ap, lp, cp, rfl, hp, hb9⟩
            replace HW := Below.step HW hb9
            replace B8 := B8.later hb9
            clear hb9
            refine hK.out _ _ ?_ (fun hHeld => ?_)
            · exact ⟨(P0.later HW).facts.1, (P0.later HW).facts.2.1, (P1.later HW).facts.1, (P1.later HW).facts.2.1, (Bg.later HW).facts.1, (Bg.later HW).facts.2.1⟩
            clear hK K
            try simp only [List.setIfInBounds_toArray, List.set_cons_zero, List.set_cons_succ]
            exact till_go J9 (bp, ap, lp, cp, g8) rfl (by kernel_rfl) (by (try dsimp only); rw [unhide HA]; simp only [Act.put, List.setIfInBounds_toArray, List.set_cons_zero, List.set_cons_succ]) (by (try dsimp only); exact ⟨HW, hp, B8, hg8⟩)
          · go_simp
            have hwk : v3.heap.size ≤ wj.heap.size := HW.size
            have hxg8 := B8.lt
            obtain ⟨wk, hWe⟩ : ∃ W', W' = wj.alloc (.cells #[.bool false, .slice none 0 0] 24) := ⟨_, rfl⟩
            obtain ⟨B7, hb9⟩ := boxes1 wj false none 0 0 hWe
            rw [← hWe]
            clear hWe
            replace HW := Below.step HW hb9
            replace B8 := B8.later hb9
            clear hb9
            have hg7 := hwk
            have hneg7g8 : wj.heap.size ≠ g8 := by omega
            refine hK.out _ _ ?_ (fun hHeld => ?_)
            · exact ⟨(P0.later HW).facts.1, (P0.later HW).facts.2.1, (P1.later HW).facts.1, (P1.later HW).facts.2.1, (Bg.later HW).facts.1, (Bg.later HW).facts.2.1⟩
            clear hK K
            try simp only [List.setIfInBounds_toArray, List.set_cons_zero, List.set_cons_succ]
            exact till_go J8 (wj.heap.size, g8) rfl (by kernel_rfl) (by (try dsimp only); rw [unhide HA]; simp only [Act.put, List.setIfInBounds_toArray, List.set_cons_zero, List.set_cons_succ]) (by (try dsimp only); exact ⟨HW, B7, hg7, B8, hg8, hneg7g8⟩)
        refine till_mid 9 #[true, true, false, false, true, false, false, false, false, true, false, false, false] (ι := Nat) (fun g7 => (act0.put (some 7) ((.pointer (some ⟨g7, 0, none⟩))))) (fun g7 w => Below v3.heap.size v3 w ∧ Box w g7 false none 0 0 ∧ v3.heap.size ≤ g7) ?_ (fun J13 => ?_)
        · rintro g7 wj hI
          try dsimp only at hI ⊢
          obtain ⟨HW, B7, hg7⟩ := hI
          have hHeld : wj.cell? ⟨w.heap.size, 0, none⟩ = some (.bool b0) ∧ wj.cell? ⟨w.heap.size, 1, none⟩ = some (.slice a0 len0 cap0) ∧ wj.cell? ⟨w.heap.size + 1, 0, none⟩ = some (.bool b1) ∧ wj.cell? ⟨w.heap.size + 1, 1, none⟩ = some (.slice a1 len1 cap1) ∧ wj.cell? ⟨v1.heap.size, 0, none⟩ = some (.bool bg) ∧ wj.cell? ⟨v1.heap.size, 1, none⟩ = some (.slice ag lg cg) := by exact ⟨(P0.later HW).facts.1, (P0.later HW).facts.2.1, (P1.later HW).facts.1, (P1.later HW).facts.2.1, (Bg.later HW).facts.1, (Bg.later HW).facts.2.1⟩
          rw [unhide HA]
          simp only [Act.put, List.setIfInBounds_toArray, List.set_cons_zero, List.set_cons_succ]
          refine till_two (i := 2) (j := 10) (by kernel_rfl) rfl rfl (fun K hK => ?_) (fun K hK => ?_)
          · go_simp
            refine (rmulK b0 a0 len0 cap0 z0 kx b1 a1 len1 cap1 z1 kx _ (h0.later HW) (h1.later HW) hlens).mono ?_
            rintro e wk ⟨bp, ap, lp, cp, rfl, hp, hb9⟩
            replace HW := Below.step HW hb9
            replace B7 := B7.later hb9
            clear hb9
            refine hK.out _ _ ?_ (fun hHeld => ?_)
            · exact ⟨(P0.later HW).facts.1, (P0.later HW).facts.2.1, (P1.later HW).facts.1, (P1.later HW).facts.2.1, (Bg.later HW).facts.1, (Bg.later HW).facts.2.1⟩
            clear hK K
            try simp only [List.setIfInBounds_toArray, List.set_cons_zero, List.set_cons_succ]
            exact till_go J10 (bp, ap, lp, cp, g7) rfl (by kernel_rfl) (by (try dsimp only); rw [unhide HA]; simp only [Act.put, List.setIfInBounds_toArray, List.set_cons_zero, List.set_cons_succ]) (by (try dsimp only); exact ⟨HW, hp, B7, hg7⟩)
          · go_simp
            have hwk : v3.heap.size ≤ wj.heap.size := HW.size
            have hxg7 := B7.lt
            obtain ⟨wk, hWe⟩ : ∃ W', W' = wj.alloc (.cells #[.bool false, .slice none 0 0] 24) := ⟨_, rfl⟩
            obtain ⟨B8, hb9⟩ := boxes1 wj false none 0 0 hWe
            rw [← hWe]
            clear hWe
            replace HW := Below.step HW hb9
            replace B7 := B7.later hb9
            clear hb9
            have hg8 := hwk
            have hneg7g8 : g7 ≠ wj.heap.size := by omega
            refine hK.out _ _ ?_ (fun hHeld => ?_)
            · exact ⟨(P0.later HW).facts.1, (P0.later HW).facts.2.1, (P1.later HW).facts.1, (P1.later HW).facts.2.1, (Bg.later HW).facts.1, (Bg.later HW).facts.2.1⟩
            clear hK K
            try simp only [List.setIfInBounds_toArray, List.set_cons_zero, List.set_cons_succ]
            exact till_go J8 (g7, wj.heap.size) rfl (by kernel_rfl) (by (try dsimp only); rw [unhide HA]; simp only [Act.put, List.setIfInBounds_toArray, List.set_cons_zero, List.set_cons_succ]) (by (try dsimp only); exact ⟨HW, B7, hg7, B8, hg8, hneg7g8⟩)
        refine till_mid 9 #[true, true, true, false, true, false, false, false, false, false, false, false, false] (ι := Bool × Option Addr × Nat × Nat) (fun (bp, ap, lp, cp) => (act0.put (some 31) (.agg #[.bool bp, .slice ap lp cp]))) (fun (bp, ap, lp, cp) w => Below v3.heap.size v3 w ∧ FK w bp ap lp cp (z0 * z1) (kx + kx)) ?_ (fun J14 => ?_)
        · rintro ⟨bp, ap, lp, cp⟩ wj hI
          try dsimp only at hI ⊢
          obtain ⟨HW, hp⟩ := hI
          have hHeld : wj.cell? ⟨w.heap.size, 0, none⟩ = some (.bool b0) ∧ wj.cell? ⟨w.heap.size, 1, none⟩ = some (.slice a0 len0 cap0) ∧ wj.cell? ⟨w.heap.size + 1, 0, none⟩ = some (.bool b1) ∧ wj.cell? ⟨w.heap.size + 1, 1, none⟩ = some (.slice a1 len1 cap1) ∧ wj.cell? ⟨v1.heap.size, 0, none⟩ = some (.bool bg) ∧ wj.cell? ⟨v1.heap.size, 1, none⟩ = some (.slice ag lg cg) := by exact ⟨(P0.later HW).facts.1, (P0.later HW).facts.2.1, (P1.later HW).facts.1, (P1.later HW).facts.2.1, (Bg.later HW).facts.1, (Bg.later HW).facts.2.1⟩
          rw [unhide HA]
          simp only [Act.put, List.setIfInBounds_toArray, List.set_cons_zero, List.set_cons_succ]
          refine till_three (i := 3) (j := 9) (k := 10) (by kernel_rfl) rfl rfl rfl (fun K hK => ?_) (fun K hK => ?_) (fun K hK => ?_)
          · go_simp
            refine (rabsK bp ap lp cp (z0 * z1) (kx + kx) _ (hp.ik (by omega))).mono ?_
            rintro e wk ⟨bd, ad, ld, cd, rfl, hd, hb9⟩
            replace HW := Below.step HW hb9
            clear hb9 hp
            refine hK.out _ _ ?_ (fun hHeld => ?_)
            · exact ⟨(P0.later HW).facts.1, (P0.later HW).facts.2.1, (P1.later HW).facts.1, (P1.later HW).facts.2.1, (Bg.later HW).facts.1, (Bg.later HW).facts.2.1⟩
            clear hK K
            try simp only [List.setIfInBounds_toArray, List.set_cons_zero, List.set_cons_succ]
            exact till_go J11 (bp, ap, lp, cp, bd, ad, ld, cd) rfl (by kernel_rfl) (by (try dsimp only); rw [unhide HA]; simp only [Act.put, List.setIfInBounds_toArray, List.set_cons_zero, List.set_cons_succ]) (by (try dsimp only); exact ⟨HW, hd⟩)
          · go_simp
            have hwk : v3.heap.size ≤ wj.heap.size := HW.size
            obtain ⟨wk, hWe⟩ : ∃ W', W' = wj.alloc (.cells #[.bool false, .slice none 0 0] 24) := ⟨_, rfl⟩
            obtain ⟨B7, hb9⟩ := boxes1 wj false none 0 0 hWe
            rw [← hWe]
            clear hWe
            replace HW := Below.step HW hb9
            replace hp := hp.later hb9
            clear hb9
            have hg7 := hwk
            refine hK.out _ _ ?_ (fun hHeld => ?_)
            · exact ⟨(P0.later HW).facts.1, (P0.later HW).facts.2.1, (P1.later HW).facts.1, (P1.later HW).facts.2.1, (Bg.later HW).facts.1, (Bg.later HW).facts.2.1⟩
            clear hK K
            try simp only [List.setIfInBounds_toArray, List.set_cons_zero, List.set_cons_succ]
            exact till_go J10 (bp, ap, lp, cp, wj.heap.size) rfl (by kernel_rfl) (by (try dsimp only); rw [unhide HA]; simp only [Act.put, List.setIfInBounds_toArray, List.set_cons_zero, List.set_cons_succ]) (by (try dsimp only); exact ⟨HW, hp, B7, hg7⟩)
          · go_simp
            have hwk : v3.heap.size ≤ wj.heap.size := HW.size
            obtain ⟨wk, hWe⟩ : ∃ W', W' = wj.alloc (.cells #[.bool false, .slice none 0 0] 24) := ⟨_, rfl⟩
            obtain ⟨B8, hb9⟩ := boxes1 wj false none 0 0 hWe
            rw [← hWe]
            clear hWe
            replace HW := Below.step HW hb9
            replace hp := hp.later hb9
            clear hb9
            have hg8 := hwk
            refine hK.out _ _ ?_ (fun hHeld => ?_)
            · exact ⟨(P0.later HW).facts.1, (P0.later HW).facts.2.1, (P1.later HW).facts.1, (P1.later HW).facts.2.1, (Bg.later HW).facts.1, (Bg.later HW).facts.2.1⟩
            clear hK K
            try simp only [List.setIfInBounds_toArray, List.set_cons_zero, List.set_cons_succ]
            exact till_go J9 (bp, ap, lp, cp, wj.heap.size) rfl (by kernel_rfl) (by (try dsimp only); rw [unhide HA]; simp only [Act.put, List.setIfInBounds_toArray, List.set_cons_zero, List.set_cons_succ]) (by (try dsimp only); exact ⟨HW, hp, B8, hg8⟩)
        rw [unhide HA]
        refine till_three (i := 2) (j := 9) (k := 10) (by kernel_rfl) rfl rfl rfl (fun K hK => ?_) (fun K hK => ?_) (fun K hK => ?_)
        · go_simp
          refine (rmulK b0 a0 len0 cap0 z0 kx b1 a1 len1 cap1 z1 kx _ (h0.later HW) (h1.later HW) hlens).mono ?_
          rintro e wk ⟨bp, ap, lp, cp, rfl, hp, hb9⟩
          replace HW := Below.step HW hb9
          clear hb9
          refine hK.out _ _ ?_ (fun hHeld => ?_)
          · exact ⟨(P0.later HW).facts.1, (P0.later HW).facts.2.1, (P1.later HW).facts.1, (P1.later HW).facts.2.1, (Bg.later HW).facts.1, (Bg.later HW).facts.2.1⟩
          clear hK K
          try simp only [List.setIfInBounds_toArray, List.set_cons_zero, List.set_cons_succ]
          exact till_go J14 (bp, ap, lp, cp) rfl (by kernel_rfl) (by (try dsimp only); rw [unhide HA]; simp only [Act.put, List.setIfInBounds_toArray, List.set_cons_zero, List.set_cons_succ]) (by (try dsimp only); exact ⟨HW, hp⟩)
        · go_simp
          have hwk : v3.heap.size ≤ vd101.heap.size := HW.size
          obtain ⟨wk, hWe⟩ : ∃ W', W' = vd101.alloc (.cells #[.bool false, .slice none 0 0] 24) := ⟨_, rfl⟩
          obtain ⟨B7, hb9⟩ := boxes1 vd101 false none 0 0 hWe
          rw [← hWe]
          clear hWe
          replace HW := Below.step HW hb9
          clear hb9
          have hg7 := hwk
          refine hK.out _ _ ?_ (fun hHeld => ?_)
          · exact ⟨(P0.later HW).facts.1, (P0.later HW).facts.2.1, (P1.later HW).facts.1, (P1.later HW).facts.2.1, (Bg.later HW).facts.1, (Bg.later HW).facts.2.1⟩
          clear hK K
          try simp only [List.setIfInBounds_toArray, List.set_cons_zero, List.set_cons_succ]
          exact till_go J13 vd101.heap.size rfl (by kernel_rfl) (by (try dsimp only); rw [unhide HA]; simp only [Act.put, List.setIfInBounds_toArray, List.set_cons_zero, List.set_cons_succ]) (by (try dsimp only); exact ⟨HW, B7, hg7⟩)
        · go_simp
          have hwk : v3.heap.size ≤ vd101.heap.size := HW.size
          obtain ⟨wk, hWe⟩ : ∃ W', W' = vd101.alloc (.cells #[.bool false, .slice none 0 0] 24) := ⟨_, rfl⟩
          obtain ⟨B8, hb9⟩ := boxes1 vd101 false none 0 0 hWe
          rw [← hWe]
          clear hWe
          replace HW := Below.step HW hb9
          clear hb9
          have hg8 := hwk
          refine hK.out _ _ ?_ (fun hHeld => ?_)
          · exact ⟨(P0.later HW).facts.1, (P0.later HW).facts.2.1, (P1.later HW).facts.1, (P1.later HW).facts.2.1, (Bg.later HW).facts.1, (Bg.later HW).facts.2.1⟩
          clear hK K
          try simp only [List.setIfInBounds_toArray, List.set_cons_zero, List.set_cons_succ]
          exact till_go J12 vd101.heap.size rfl (by kernel_rfl) (by (try dsimp only); rw [unhide HA]; simp only [Act.put, List.setIfInBounds_toArray, List.set_cons_zero, List.set_cons_succ]) (by (try dsimp only); exact ⟨HW, B8, hg8⟩)
    case rest =>
      clear P0 P1 Bg Bm h0 h1 hg HB
      obtain ⟨bm, am, lm, cm, P0, P1, Bg, Bm, h0, h1, hg, hm, hB⟩ := hcut
      have HB := hide hB
      clear hB
      obtain ⟨fP01, fP02, _, _⟩ := P0.facts
      obtain ⟨fP11, fP12, _, _⟩ := P1.facts
      go_wp2_with fail
      refine (extK b0 a0 len0 cap0 z0 kx b1 a1 len1 cap1 z1 kx _ h0 h1 (by omega) (by omega)).mono ?_
      rintro e v201 ⟨b1x, a1x, l1x, c1x, b2x, a2x, l2x, c2x, b3x, a3x, l3x, c3x, rfl, h1x, h2x, h3x, hb9⟩
      clear fP01 fP02 fP11 fP12
      replace P0 := P0.later hb9
      replace P1 := P1.later hb9
      replace Bg := Bg.later hb9
      replace Bm := Bm.later hb9
      replace h0 := h0.later hb9
      replace h1 := h1.later hb9
      replace hg := hg.later hb9
      replace hm := hm.later hb9
      replace HB := hide (Below.step (unhide HB) hb9)
      clear hb9
      go_upto_region 9 with fail
      obtain ⟨v202, hWe⟩ : ∃ W', W' = (((v201.alloc (.cells #[.bool b1x, .slice a1x l1x c1x] 24)).alloc (.cells #[.bool b2x, .slice a2x l2x c2x] 24)).alloc (.cells #[.bool b3x, .slice a3x l3x c3x] 24)) := ⟨_, rfl⟩
      obtain ⟨X1, X2, X3, hb9⟩ := boxes3 v201 b1x a1x l1x c1x b2x a2x l2x c2x b3x a3x l3x c3x hWe
      rw [← hWe]
      clear hWe
      replace P0 := P0.later hb9
      replace P1 := P1.later hb9
      replace Bg := Bg.later hb9
      replace Bm := Bm.later hb9
      replace h0 := h0.later hb9
      replace h1 := h1.later hb9
      replace hg := hg.later hb9
      replace hm := hm.later hb9
      replace h1x := h1x.later hb9
      replace h2x := h2x.later hb9
      replace h3x := h3x.later hb9
      replace HB := hide (Below.step (unhide HB) hb9)
      clear hb9
      obtain ⟨fP01, fP02, _, _⟩ := P0.facts
      obtain ⟨fP11, fP12, _, _⟩ := P1.facts
      go_wp2_with fail
      refine (rextK b0 a0 len0 cap0 z0 kx b1 a1 len1 cap1 z1 kx _ h0 h1 (by omega) (by omega)).mono ?_
      rintro e v203 ⟨b1y, a1y, l1y, c1y, b2y, a2y, l2y, c2y, b3y, a3y, l3y, c3y, rfl, h1y, h2y, h3y, hb9⟩
      clear fP01 fP02 fP11 fP12
      replace P0 := P0.later hb9
      replace P1 := P1.later hb9
      replace Bg := Bg.later hb9
      replace Bm := Bm.later hb9
      replace h0 := h0.later hb9
      replace h1 := h1.later hb9
      replace hg := hg.later hb9
      replace hm := hm.later hb9
      replace h1x := h1x.later hb9
      replace h2x := h2x.later hb9
      replace h3x := h3x.later hb9
      replace X1 := X1.later hb9
      replace X2 := X2.later hb9
      replace X3 := X3.later hb9
      replace HB := hide (Below.step (unhide HB) hb9)
      clear hb9
      go_upto_region 10 with fail
      obtain ⟨v204, hWe⟩ : ∃ W', W' = (((v203.alloc (.cells #[.bool b1y, .slice a1y l1y c1y] 24)).alloc (.cells #[.bool b2y, .slice a2y l2y c2y] 24)).alloc (.cells #[.bool b3y, .slice a3y l3y c3y] 24)) := ⟨_, rfl⟩
      obtain ⟨Y1, Y2, Y3, hb9⟩ := boxes3 v203 b1y a1y l1y c1y b2y a2y l2y c2y b3y a3y l3y c3y hWe
      rw [← hWe]
      clear hWe
      replace P0 := P0.later hb9
      replace P1 := P1.later hb9
      replace Bg := Bg.later hb9
      replace Bm := Bm.later hb9
      replace h0 := h0.later hb9
      replace h1 := h1.later hb9
      replace hg := hg.later hb9
      replace hm := hm.later hb9
      replace h1x := h1x.later hb9
      replace h2x := h2x.later hb9
      replace h3x := h3x.later hb9
      replace X1 := X1.later hb9
      replace X2 := X2.later hb9
      replace X3 := X3.later hb9
      replace h1y := h1y.later hb9
      replace h2y := h2y.later hb9
      replace h3y := h3y.later hb9
      replace HB := hide (Below.step (unhide HB) hb9)
      clear hb9
      have HW : Below v204.heap.size v204 v204.drew := (Below.refl _ _).drew
      refine till_start (fun w' => w'.cell? ⟨w.heap.size, 0, none⟩ = some (.bool b0) ∧ w'.cell? ⟨w.heap.size, 1, none⟩ = some (.slice a0 len0 cap0) ∧ w'.cell? ⟨w.heap.size + 1, 0, none⟩ = some (.bool b1) ∧ w'.cell? ⟨w.heap.size + 1, 1, none⟩ = some (.slice a1 len1 cap1) ∧ w'.cell? ⟨v1.heap.size, 0, none⟩ = some (.bool bg) ∧ w'.cell? ⟨v1.heap.size, 1, none⟩ = some (.slice ag lg cg) ∧ w'.cell? ⟨v1.heap.size + 1, 0, none⟩ = some (.bool bm) ∧ w'.cell? ⟨v1.heap.size + 1, 1, none⟩ = some (.slice am lm cm) ∧ w'.cell? ⟨v201.heap.size, 0, none⟩ = some (.bool b1x) ∧ w'.cell? ⟨v201.heap.size, 1, none⟩ = some (.slice a1x l1x c1x) ∧ w'.cell? ⟨v201.heap.size + 1, 0, none⟩ = some (.bool b2x) ∧ w'.cell? ⟨v201.heap.size + 1, 1, none⟩ = some (.slice a2x l2x c2x) ∧ w'.cell? ⟨v201.heap.size + 2, 0, none⟩ = some (.bool b3x) ∧ w'.cell? ⟨v201.heap.size + 2, 1, none⟩ = some (.slice a3x l3x c3x) ∧ w'.cell? ⟨v203.heap.size, 0, none⟩ = some (.bool b1y) ∧ w'.cell? ⟨v203.heap.size, 1, none⟩ = some (.slice a1y l1y c1y) ∧ w'.cell? ⟨v203.heap.size + 1, 0, none⟩ = some (.bool b2y) ∧ w'.cell? ⟨v203.heap.size + 1, 1, none⟩ = some (.slice a2y l2y c2y) ∧ w'.cell? ⟨v203.heap.size + 2, 0, none⟩ = some (.bool b3y) ∧ w'.cell? ⟨v203.heap.size + 2, 1, none⟩ = some (.slice a3y l3y c3y)) 31 (by kernel_rfl) ?_ (fun hHeld => ?_)
      · exact ⟨(P0.later HW).facts.1, (P0.later HW).facts.2.1, (P1.later HW).facts.1, (P1.later HW).facts.2.1, (Bg.later HW).facts.1, (Bg.later HW).facts.2.1, (Bm.later HW).facts.1, (Bm.later HW).facts.2.1, (X1.later HW).facts.1, (X1.later HW).facts.2.1, (X2.later HW).facts.1, (X2.later HW).facts.2.1, (X3.later HW).facts.1, (X3.later HW).facts.2.1, (Y1.later HW).facts.1, (Y1.later HW).facts.2.1, (Y2.later HW).facts.1, (Y2.later HW).facts.2.1, (Y3.later HW).facts.1, (Y3.later HW).facts.2.1⟩
      refine till_take (i := 0) (v := ?_) [2, 4, 5, 6, 7, 8, 9, 10, 11, 12, 13, 14, 15, 16, 17, 18, 19, 20, 21, 22, 23, 24, 25, 26, 27, 28, 29, 30, 31] rfl (by kernel_rfl) (by kernel_rfl) (by kernel_rfl) (by kernel_rfl) (fun _ _ _ h => h) (Or.inl ⟨by rfl, ?_⟩) (by assumption) ?_
      rotate_left
      · (intro w hSw; (try dsimp only at hSw); go_simp; try with_reducible rfl)
      simp only [Act.put, List.getElem_toArray, List.getElem_cons_zero, List.setIfInBounds_toArray, List.set_cons_zero, List.set_cons_succ]
      refine till_take (i := 1) (v := ?_) [2, 4, 5, 6, 7, 8, 9, 10, 11, 12, 13, 14, 15, 16, 17, 18, 19, 20, 21, 22, 23, 24, 25, 26, 27, 28, 29, 30, 31] rfl (by kernel_rfl) (by kernel_rfl) (by kernel_rfl) (by kernel_rfl) (fun _ _ _ h => h) (Or.inl ⟨by rfl, ?_⟩) (by assumption) ?_
      rotate_left
      · (intro w hSw; (try dsimp only at hSw); go_simp; try with_reducible rfl)
      simp only [Act.put, List.getElem_toArray, List.getElem_cons_succ, List.getElem_cons_zero, List.setIfInBounds_toArray, List.set_cons_zero, List.set_cons_succ]
      refine till_take (i := 3) (v := ?_) [4, 5, 6, 7, 8, 9, 10, 11, 12, 13, 14, 15, 16, 17, 18, 19, 20, 21, 22, 23, 24, 25, 26, 27, 28, 29, 30, 31] rfl (by kernel_rfl) (by kernel_rfl) (by kernel_rfl) (by kernel_rfl) (fun _ _ _ h => h) (Or.inl ⟨by rfl, ?_⟩) (by assumption) ?_
      rotate_left
      · (intro w hSw; (try dsimp only at hSw); go_simp; try with_reducible rfl)
      simp only [Act.put, List.getElem_toArray, List.getElem_cons_succ, List.getElem_cons_zero, List.setIfInBounds_toArray, List.set_cons_zero, List.set_cons_succ]
      refine till_in (i := 2) (by kernel_rfl) rfl (fun K hK => ?_)
      go_simp
      refine (gcdK b0 a0 len0 cap0 z0 kx b1 a1 len1 cap1 z1 kx _ (h0.later HW) (h1.later HW) (by omega) (by omega)).mono ?_
      rintro e v205 ⟨bc, ac, lc, cc, rfl, hc, hb9⟩
      replace HW := Below.step HW hb9
      clear hb9
      refine hK.out _ _ ?_ (fun hHeld => ?_)
      · exact ⟨(P0.later HW).facts.1, (P0.later HW).facts.2.1, (P1.later HW).facts.1, (P1.later HW).facts.2.1, (Bg.later HW).facts.1, (Bg.later HW).facts.2.1, (Bm.later HW).facts.1, (Bm.later HW).facts.2.1, (X1.later HW).facts.1, (X1.later HW).facts.2.1, (X2.later HW).facts.1, (X2.later HW).facts.2.1, (X3.later HW).facts.1, (X3.later HW).facts.2.1, (Y1.later HW).facts.1, (Y1.later HW).facts.2.1, (Y2.later HW).facts.1, (Y2.later HW).facts.2.1, (Y3.later HW).facts.1, (Y3.later HW).facts.2.1⟩
      clear hK K
      try simp only [Act.put, List.getElem_toArray, List.getElem_cons_succ, List.getElem_cons_zero, List.setIfInBounds_toArray, List.set_cons_zero, List.set_cons_succ]
      refine till_in (i := 4) (by kernel_rfl) rfl (fun K hK => ?_)
      go_simp
      refine (rsameK bc ac lc cc (Int.gcd z0 z1 : Int) (max kx kx) bg ag lg cg (Int.gcd z0 z1 : Int) (max kx kx) _ hc (hg.later HW) rfl).mono ?_
      rintro e v206 ⟨rfl, hb9⟩
      replace HW := Below.step HW hb9
      replace hc := hc.later hb9
      clear hb9 hc
      refine hK.out _ _ ?_ (fun hHeld => ?_)
      · exact ⟨(P0.later HW).facts.1, (P0.later HW).facts.2.1, (P1.later HW).facts.1, (P1.later HW).facts.2.1, (Bg.later HW).facts.1, (Bg.later HW).facts.2.1, (Bm.later HW).facts.1, (Bm.later HW).facts.2.1, (X1.later HW).facts.1, (X1.later HW).facts.2.1, (X2.later HW).facts.1, (X2.later HW).facts.2.1, (X3.later HW).facts.1, (X3.later HW).facts.2.1, (Y1.later HW).facts.1, (Y1.later HW).facts.2.1, (Y2.later HW).facts.1, (Y2.later HW).facts.2.1, (Y3.later HW).facts.1, (Y3.later HW).facts.2.1⟩
      clear hK K
      try simp only [Act.put, List.getElem_toArray, List.getElem_cons_succ, List.getElem_cons_zero, List.setIfInBounds_toArray, List.set_cons_zero, List.set_cons_succ]
      refine till_take (i := 5) (v := ?_) [6, 7, 8, 9, 10, 11, 12, 13, 14, 15, 16, 17, 18, 19, 20, 21, 22, 23, 24, 25, 26, 27, 28, 29, 30, 31] rfl (by kernel_rfl) (by kernel_rfl) (by kernel_rfl) (by kernel_rfl) (fun _ _ _ h => h) (Or.inl ⟨by rfl, ?_⟩) (by assumption) ?_
      rotate_left
      · (intro w hSw; (try dsimp only at hSw); go_simp; try with_reducible rfl)
      simp only [Act.put, List.getElem_toArray, List.getElem_cons_succ, List.getElem_cons_zero, List.setIfInBounds_toArray, List.set_cons_zero, List.set_cons_succ]
      refine till_take (i := 6) (v := ?_) [8, 10, 11, 12, 13, 14, 15, 16, 17, 18, 19, 20, 21, 22, 23, 24, 25, 26, 27, 28, 29, 30, 31] rfl (by kernel_rfl) (by kernel_rfl) (by kernel_rfl) (by kernel_rfl) (fun _ _ _ h => h) (Or.inl ⟨by rfl, ?_⟩) (by assumption) ?_
      rotate_left
      · (intro w hSw; (try dsimp only at hSw); go_simp; try with_reducible rfl)
      simp only [Act.put, List.getElem_toArray, List.getElem_cons_succ, List.getElem_cons_zero, List.setIfInBounds_toArray, List.set_cons_zero, List.set_cons_succ]
      refine till_take (i := 7) (v := ?_) [8, 10, 11, 12, 13, 14, 15, 16, 17, 18, 19, 20, 21, 22, 23, 24, 25, 26, 27, 28, 29, 30, 31] rfl (by kernel_rfl) (by kernel_rfl) (by kernel_rfl) (by kernel_rfl) (fun _ _ _ h => h) (Or.inl ⟨by rfl, ?_⟩) (by assumption) ?_
      rotate_left
      · (intro w hSw; (try dsimp only at hSw); go_simp; try with_reducible rfl)
      simp only [Act.put, List.getElem_toArray, List.getElem_cons_succ, List.getElem_cons_zero, List.setIfInBounds_toArray, List.set_cons_zero, List.set_cons_succ]
      refine till_take (i := 9) (v := ?_) [10, 11, 12, 13, 14, 15, 16, 17, 18, 19, 20, 21, 22, 23, 24, 25, 26, 27, 28, 29, 30, 31] rfl (by kernel_rfl) (by kernel_rfl) (by kernel_rfl) (by kernel_rfl) (fun _ _ _ h => h) (Or.inl ⟨by rfl, ?_⟩) (by assumption) ?_
      rotate_left
      · (intro w hSw; (try dsimp only at hSw); go_simp; try with_reducible rfl)
      simp only [Act.put, List.getElem_toArray, List.getElem_cons_succ, List.getElem_cons_zero, List.setIfInBounds_toArray, List.set_cons_zero, List.set_cons_succ]
      refine till_in (i := 8) (by kernel_rfl) rfl (fun K hK => ?_)
      go_simp
      refine (lcmK b0 a0 len0 cap0 z0 kx b1 a1 len1 cap1 z1 kx _ (h0.later HW) (h1.later HW) (by omega) (by omega)).mono ?_
      rintro e v207 ⟨bl, al, ll, cl, rfl, hl, hb9⟩
      replace HW := Below.step HW hb9
      clear hb9
      refine hK.out _ _ ?_ (fun hHeld => ?_)
      · exact ⟨(P0.later HW).facts.1, (P0.later HW).facts.2.1, (P1.later HW).facts.1, (P1.later HW).facts.2.1, (Bg.later HW).facts.1, (Bg.later HW).facts.2.1, (Bm.later HW).facts.1, (Bm.later HW).facts.2.1, (X1.later HW).facts.1, (X1.later HW).facts.2.1, (X2.later HW).facts.1, (X2.later HW).facts.2.1, (X3.later HW).facts.1, (X3.later HW).facts.2.1, (Y1.later HW).facts.1, (Y1.later HW).facts.2.1, (Y2.later HW).facts.1, (Y2.later HW).facts.2.1, (Y3.later HW).facts.1, (Y3.later HW).facts.2.1⟩
      clear hK K
      try simp only [Act.put, List.getElem_toArray, List.getElem_cons_succ, List.getElem_cons_zero, List.setIfInBounds_toArray, List.set_cons_zero, List.set_cons_succ]
      refine till_in (i := 10) (by kernel_rfl) rfl (fun K hK => ?_)
      go_simp
      refine (rformK bm am lm cm (((z0 * z1).natAbs : Int).tdiv (Int.gcd z0 z1 : Int)) (kx + kx) _ ((hm.later HW).ik (by omega))).mono ?_
      rintro e v208 ⟨bf, af, lf, cf, rfl, hf, hb9⟩
      replace HW := Below.step HW hb9
      replace hl := hl.later hb9
      clear hb9
      refine hK.out _ _ ?_ (fun hHeld => ?_)
      · exact ⟨(P0.later HW).facts.1, (P0.later HW).facts.2.1, (P1.later HW).facts.1, (P1.later HW).facts.2.1, (Bg.later HW).facts.1, (Bg.later HW).facts.2.1, (Bm.later HW).facts.1, (Bm.later HW).facts.2.1, (X1.later HW).facts.1, (X1.later HW).facts.2.1, (X2.later HW).facts.1, (X2.later HW).facts.2.1, (X3.later HW).facts.1, (X3.later HW).facts.2.1, (Y1.later HW).facts.1, (Y1.later HW).facts.2.1, (Y2.later HW).facts.1, (Y2.later HW).facts.2.1, (Y3.later HW).facts.1, (Y3.later HW).facts.2.1⟩
      clear hK K
      try simp only [Act.put, List.getElem_toArray, List.getElem_cons_succ, List.getElem_cons_zero, List.setIfInBounds_toArray, List.set_cons_zero, List.set_cons_succ]
      refine till_in (i := 11) (by kernel_rfl) rfl (fun K hK => ?_)
      go_simp
      refine (rsameK bl al ll cl (((z0.tdiv (Int.gcd z0 z1 : Int) * z1).natAbs : Nat) : Int) (kx + kx) bf af lf cf (((z0 * z1).natAbs : Int).tdiv (Int.gcd z0 z1 : Int)) (kx + kx) _ hl hf (lcm_eq z0 z1)).mono ?_
      rintro e v209 ⟨rfl, hb9⟩
      replace HW := Below.step HW hb9
      replace hl := hl.later hb9
      replace hf := hf.later hb9
      clear hb9 hl hf
      refine hK.out _ _ ?_ (fun hHeld => ?_)
      · exact ⟨(P0.later HW).facts.1, (P0.later HW).facts.2.1, (P1.later HW).facts.1, (P1.later HW).facts.2.1, (Bg.later HW).facts.1, (Bg.later HW).facts.2.1, (Bm.later HW).facts.1, (Bm.later HW).facts.2.1, (X1.later HW).facts.1, (X1.later HW).facts.2.1, (X2.later HW).facts.1, (X2.later HW).facts.2.1, (X3.later HW).facts.1, (X3.later HW).facts.2.1, (Y1.later HW).facts.1, (Y1.later HW).facts.2.1, (Y2.later HW).facts.1, (Y2.later HW).facts.2.1, (Y3.later HW).facts.1, (Y3.later HW).facts.2.1⟩
      clear hK K
      try simp only [Act.put, List.getElem_toArray, List.getElem_cons_succ, List.getElem_cons_zero, List.setIfInBounds_toArray, List.set_cons_zero, List.set_cons_succ]
      refine till_take (i := 12) (v := ?_) [13, 14, 15, 16, 17, 18, 19, 20, 21, 22, 23, 24, 25, 26, 27, 28, 29, 30, 31] rfl (by kernel_rfl) (by kernel_rfl) (by kernel_rfl) (by kernel_rfl) (fun _ _ _ h => h) (Or.inl ⟨by rfl, ?_⟩) (by assumption) ?_
      rotate_left
      · (intro w hSw; (try dsimp only at hSw); go_simp; try with_reducible rfl)
      simp only [Act.put, List.getElem_toArray, List.getElem_cons_succ, List.getElem_cons_zero, List.setIfInBounds_toArray, List.set_cons_zero, List.set_cons_succ]
      refine till_take (i := 13) (v := ?_) [14, 15, 16, 17, 18, 19, 20, 21, 22, 23, 24, 25, 26, 27, 28, 29, 30, 31] rfl (by kernel_rfl) (by kernel_rfl) (by kernel_rfl) (by kernel_rfl) (fun _ _ _ h => h) (Or.inl ⟨by rfl, ?_⟩) (by assumption) ?_
      rotate_left
      · (intro w hSw; (try dsimp only at hSw); go_simp; try with_reducible rfl)
      simp only [Act.put, List.getElem_toArray, List.getElem_cons_succ, List.getElem_cons_zero, List.setIfInBounds_toArray, List.set_cons_zero, List.set_cons_succ]
      refine till_take (i := 14) (v := ?_) [16, 17, 18, 19, 20, 21, 22, 23, 24, 25, 26, 27, 28, 29, 30, 31] rfl (by kernel_rfl) (by kernel_rfl) (by kernel_rfl) (by kernel_rfl) (fun _ _ _ h => h) (Or.inl ⟨by rfl, ?_⟩) (by assumption) ?_
      rotate_left
      · (intro w hSw; (try dsimp only at hSw); go_simp; try with_reducible rfl)
      simp only [Act.put, List.getElem_toArray, List.getElem_cons_succ, List.getElem_cons_zero, List.setIfInBounds_toArray, List.set_cons_zero, List.set_cons_succ]
      refine till_take (i := 15) (v := ?_) [16, 17, 18, 19, 20, 21, 22, 23, 24, 25, 26, 27, 28, 29, 30, 31] rfl (by kernel_rfl) (by kernel_rfl) (by kernel_rfl) (by kernel_rfl) (fun _ _ _ h => h) (Or.inl ⟨by rfl, ?_⟩) (by assumption) ?_
      rotate_left
      · (intro w hSw; (try dsimp only at hSw); go_simp; try with_reducible rfl)
      simp only [Act.put, List.getElem_toArray, List.getElem_cons_succ, List.getElem_cons_zero, List.setIfInBounds_toArray, List.set_cons_zero, List.set_cons_succ]
      refine till_in (i := 16) (by kernel_rfl) rfl (fun K hK => ?_)
      go_simp
      refine (rsameK b1x a1x l1x c1x (extG z0 z1) (max kx kx + 1) b1y a1y l1y c1y (extG z0 z1) (max kx kx + 1) _ (h1x.later HW) (h1y.later HW) rfl).mono ?_
      rintro e v210 ⟨rfl, hb9⟩
      replace HW := Below.step HW hb9
      clear hb9
      refine hK.out _ _ ?_ (fun hHeld => ?_)
      · exact ⟨(P0.later HW).facts.1, (P0.later HW).facts.2.1, (P1.later HW).facts.1, (P1.later HW).facts.2.1, (Bg.later HW).facts.1, (Bg.later HW).facts.2.1, (Bm.later HW).facts.1, (Bm.later HW).facts.2.1, (X1.later HW).facts.1, (X1.later HW).facts.2.1, (X2.later HW).facts.1, (X2.later HW).facts.2.1, (X3.later HW).facts.1, (X3.later HW).facts.2.1, (Y1.later HW).facts.1, (Y1.later HW).facts.2.1, (Y2.later HW).facts.1, (Y2.later HW).facts.2.1, (Y3.later HW).facts.1, (Y3.later HW).facts.2.1⟩
      clear hK K
      try simp only [Act.put, List.getElem_toArray, List.getElem_cons_succ, List.getElem_cons_zero, List.setIfInBounds_toArray, List.set_cons_zero, List.set_cons_succ]
      refine till_take (i := 17) (v := ?_) [18, 19, 20, 21, 22, 23, 24, 25, 26, 27, 28, 29, 30, 31] rfl (by kernel_rfl) (by kernel_rfl) (by kernel_rfl) (by kernel_rfl) (fun _ _ _ h => h) (Or.inl ⟨by rfl, ?_⟩) (by assumption) ?_
      rotate_left
      · (intro w hSw; (try dsimp only at hSw); go_simp; try with_reducible rfl)
      simp only [Act.put, List.getElem_toArray, List.getElem_cons_succ, List.getElem_cons_zero, List.setIfInBounds_toArray, List.set_cons_zero, List.set_cons_succ]
      refine till_take (i := 18) (v := ?_) [19, 20, 21, 22, 23, 24, 25, 26, 27, 28, 29, 30, 31] rfl (by kernel_rfl) (by kernel_rfl) (by kernel_rfl) (by kernel_rfl) (fun _ _ _ h => h) (Or.inl ⟨by rfl, ?_⟩) (by assumption) ?_
      rotate_left
      · (intro w hSw; (try dsimp only at hSw); go_simp; try with_reducible rfl)
      simp only [Act.put, List.getElem_toArray, List.getElem_cons_succ, List.getElem_cons_zero, List.setIfInBounds_toArray, List.set_cons_zero, List.set_cons_succ]
      refine till_take (i := 19) (v := ?_) [21, 22, 23, 24, 25, 26, 27, 28, 29, 30, 31] rfl (by kernel_rfl) (by kernel_rfl) (by kernel_rfl) (by kernel_rfl) (fun _ _ _ h => h) (Or.inl ⟨by rfl, ?_⟩) (by assumption) ?_
      rotate_left
      · (intro w hSw; (try dsimp only at hSw); go_simp; try with_reducible rfl)
      simp only [Act.put, List.getElem_toArray, List.getElem_cons_succ, List.getElem_cons_zero, List.setIfInBounds_toArray, List.set_cons_zero, List.set_cons_succ]
      refine till_take (i := 20) (v := ?_) [21, 22, 23, 24, 25, 26, 27, 28, 29, 30, 31] rfl (by kernel_rfl) (by kernel_rfl) (by kernel_rfl) (by kernel_rfl) (fun _ _ _ h => h) (Or.inl ⟨by rfl, ?_⟩) (by assumption) ?_
      rotate_left
      · (intro w hSw; (try dsimp only at hSw); go_simp; try with_reducible rfl)
      simp only [Act.put, List.getElem_toArray, List.getElem_cons_succ, List.getElem_cons_zero, List.setIfInBounds_toArray, List.set_cons_zero, List.set_cons_succ]
      refine till_in (i := 21) (by kernel_rfl) rfl (fun K hK => ?_)
      go_simp
      refine (rsameK b2x a2x l2x c2x (extX z0 z1) (max kx kx + 1) b2y a2y l2y c2y (extX z0 z1) (max kx kx + 1) _ (h2x.later HW) (h2y.later HW) rfl).mono ?_
      rintro e v211 ⟨rfl, hb9⟩
      replace HW := Below.step HW hb9
      clear hb9
      refine hK.out _ _ ?_ (fun hHeld => ?_)
      · exact ⟨(P0.later HW).facts.1, (P0.later HW).facts.2.1, (P1.later HW).facts.1, (P1.later HW).facts.2.1, (Bg.later HW).facts.1, (Bg.later HW).facts.2.1, (Bm.later HW).facts.1, (Bm.later HW).facts.2.1, (X1.later HW).facts.1, (X1.later HW).facts.2.1, (X2.later HW).facts.1, (X2.later HW).facts.2.1, (X3.later HW).facts.1, (X3.later HW).facts.2.1, (Y1.later HW).facts.1, (Y1.later HW).facts.2.1, (Y2.later HW).facts.1, (Y2.later HW).facts.2.1, (Y3.later HW).facts.1, (Y3.later HW).facts.2.1⟩
      clear hK K
      try simp only [Act.put, List.getElem_toArray, List.getElem_cons_succ, List.getElem_cons_zero, List.setIfInBounds_toArray, List.set_cons_zero, List.set_cons_succ]
      refine till_take (i := 22) (v := ?_) [23, 24, 25, 26, 27, 28, 29, 30, 31] rfl (by kernel_rfl) (by kernel_rfl) (by kernel_rfl) (by kernel_rfl) (fun _ _ _ h => h) (Or.inl ⟨by rfl, ?_⟩) (by assumption) ?_
      rotate_left
      · (intro w hSw; (try dsimp only at hSw); go_simp; try with_reducible rfl)
      simp only [Act.put, List.getElem_toArray, List.getElem_cons_succ, List.getElem_cons_zero, List.setIfInBounds_toArray, List.set_cons_zero, List.set_cons_succ]
      refine till_take (i := 23) (v := ?_) [24, 25, 26, 27, 28, 29, 30, 31] rfl (by kernel_rfl) (by kernel_rfl) (by kernel_rfl) (by kernel_rfl) (fun _ _ _ h => h) (Or.inl ⟨by rfl, ?_⟩) (by assumption) ?_
      rotate_left
      · (intro w hSw; (try dsimp only at hSw); go_simp; try with_reducible rfl)
      simp only [Act.put, List.getElem_toArray, List.getElem_cons_succ, List.getElem_cons_zero, List.setIfInBounds_toArray, List.set_cons_zero, List.set_cons_succ]
      refine till_take (i := 24) (v := ?_) [26, 27, 28, 29, 30, 31] rfl (by kernel_rfl) (by kernel_rfl) (by kernel_rfl) (by kernel_rfl) (fun _ _ _ h => h) (Or.inl ⟨by rfl, ?_⟩) (by assumption) ?_
      rotate_left
      · (intro w hSw; (try dsimp only at hSw); go_simp; try with_reducible rfl)
      simp only [Act.put, List.getElem_toArray, List.getElem_cons_succ, List.getElem_cons_zero, List.setIfInBounds_toArray, List.set_cons_zero, List.set_cons_succ]
      refine till_take (i := 25) (v := ?_) [26, 27, 28, 29, 30, 31] rfl (by kernel_rfl) (by kernel_rfl) (by kernel_rfl) (by kernel_rfl) (fun _ _ _ h => h) (Or.inl ⟨by rfl, ?_⟩) (by assumption) ?_
      rotate_left
      · (intro w hSw; (try dsimp only at hSw); go_simp; try with_reducible rfl)
      simp only [Act.put, List.getElem_toArray, List.getElem_cons_succ, List.getElem_cons_zero, List.setIfInBounds_toArray, List.set_cons_zero, List.set_cons_succ]
      refine till_in (i := 26) (by kernel_rfl) rfl (fun K hK => ?_)
      go_simp
      refine (rsameK b3x a3x l3x c3x (extY z0 z1) (max kx kx + 1) b3y a3y l3y c3y (extY z0 z1) (max kx kx + 1) _ (h3x.later HW) (h3y.later HW) rfl).mono ?_
      rintro e v212 ⟨rfl, hb9⟩
      replace HW := Below.step HW hb9
      clear hb9
      refine hK.out _ _ ?_ (fun hHeld => ?_)
      · exact ⟨(P0.later HW).facts.1, (P0.later HW).facts.2.1, (P1.later HW).facts.1, (P1.later HW).facts.2.1, (Bg.later HW).facts.1, (Bg.later HW).facts.2.1, (Bm.later HW).facts.1, (Bm.later HW).facts.2.1, (X1.later HW).facts.1, (X1.later HW).facts.2.1, (X2.later HW).facts.1, (X2.later HW).facts.2.1, (X3.later HW).facts.1, (X3.later HW).facts.2.1, (Y1.later HW).facts.1, (Y1.later HW).facts.2.1, (Y2.later HW).facts.1, (Y2.later HW).facts.2.1, (Y3.later HW).facts.1, (Y3.later HW).facts.2.1⟩
      clear hK K
      try simp only [Act.put, List.getElem_toArray, List.getElem_cons_succ, List.getElem_cons_zero, List.setIfInBounds_toArray, List.set_cons_zero, List.set_cons_succ]
      refine till_take (i := 27) (v := ?_) [28, 29, 30, 31] rfl (by kernel_rfl) (by kernel_rfl) (by kernel_rfl) (by kernel_rfl) (fun _ _ _ h => h) (Or.inl ⟨by rfl, ?_⟩) (by assumption) ?_
      rotate_left
      · (intro w hSw; (try dsimp only at hSw); go_simp; try with_reducible rfl)
      simp only [Act.put, List.getElem_toArray, List.getElem_cons_succ, List.getElem_cons_zero, List.setIfInBounds_toArray, List.set_cons_zero, List.set_cons_succ]
      refine till_take (i := 28) (v := ?_) [29, 30, 31] rfl (by kernel_rfl) (by kernel_rfl) (by kernel_rfl) (by kernel_rfl) (fun _ _ _ h => h) (Or.inl ⟨by rfl, ?_⟩) (by assumption) ?_
      rotate_left
      · (intro w hSw; (try dsimp only at hSw); go_simp; try with_reducible rfl)
      simp only [Act.put, List.getElem_toArray, List.getElem_cons_succ, List.getElem_cons_zero, List.setIfInBounds_toArray, List.set_cons_zero, List.set_cons_succ]
      refine till_in (i := 29) (by kernel_rfl) rfl (fun K hK => ?_)
      go_simp
      refine (awake6_any _).mono ?_
      rintro e v213 ⟨rfl, hb9⟩
      replace HW := Below.step HW hb9
      clear hb9
      refine hK.out _ _ ?_ (fun hHeld => ?_)
      · exact ⟨(P0.later HW).facts.1, (P0.later HW).facts.2.1, (P1.later HW).facts.1, (P1.later HW).facts.2.1, (Bg.later HW).facts.1, (Bg.later HW).facts.2.1, (Bm.later HW).facts.1, (Bm.later HW).facts.2.1, (X1.later HW).facts.1, (X1.later HW).facts.2.1, (X2.later HW).facts.1, (X2.later HW).facts.2.1, (X3.later HW).facts.1, (X3.later HW).facts.2.1, (Y1.later HW).facts.1, (Y1.later HW).facts.2.1, (Y2.later HW).facts.1, (Y2.later HW).facts.2.1, (Y3.later HW).facts.1, (Y3.later HW).facts.2.1⟩
      clear hK K
      try simp only [Act.put, List.getElem_toArray, List.getElem_cons_succ, List.getElem_cons_zero, List.setIfInBounds_toArray, List.set_cons_zero, List.set_cons_succ]
      refine till_take (i := 30) (v := ?_) [31] rfl (by kernel_rfl) (by kernel_rfl) (by kernel_rfl) (by kernel_rfl) (fun _ _ _ h => h) (Or.inl ⟨by rfl, ?_⟩) (by assumption) ?_
      rotate_left
      · (intro w hSw; (try dsimp only at hSw); go_simp; try with_reducible rfl)
      simp only [Act.put, List.getElem_toArray, List.getElem_cons_succ, List.getElem_cons_zero, List.setIfInBounds_toArray, List.set_cons_zero, List.set_cons_succ]
      refine till_out (i := 31) (by kernel_rfl) rfl (by kernel_rfl) (fun K hK => ?_)
      go_simp
      refine hK.out _ _ ?_
      clear hK K
      try simp only [Act.put, List.getElem_toArray, List.getElem_cons_succ, List.getElem_cons_zero, List.setIfInBounds_toArray, List.set_cons_zero, List.set_cons_succ]
      refine till_done (by kernel_rfl) ?_ _
      go_wp2
      go_ret
      exact ⟨rfl, Below.step (unhide HB) HW⟩
  · have hf' : q = false := by simpa using hf
    subst hf'
    clear hq hf he
    go_wp2_with fail
    refine (awake6_any _).mono ?_
    rintro e w2 ⟨rfl, hb2⟩
    go_wp2
    go_ret
    exact ⟨rfl, Below.step (unhide HB) hb2⟩

#print axioms bezoutTells_walk
end Go.Proofs.Ytobiogedknmijaa
