/-
  What the reference's Near tells (IN PARTS).
-/
import Derived.Test.YtcafodggkhkpnaaRQuo
import Derived.Test.YtcafodggkhkpnaaAwake5
import Derived.Test.YtcafodggkhkpnaaTill2
import Derived.Deep.CutRange
namespace Go.Proofs.Ytcafodggkhkpnaa
open Go.RowKit Lb

set_option maxHeartbeats 8000000 in
theorem rnearK (b : Bool) (aa : Option Addr) (la ca : Nat) (x : Int) (k : Nat) (b' : Bool) (ab : Option Addr) (lb cb : Nat) (y : Int) (l : Nat) (w : World) (hx : IK w b aa la ca x k) (hy : IK w b' ab lb cb y l) (h0 : y ≠ 0) (hk : k ≤ 90000) (hl : l ≤ 90000) :
    Calls Try.prog 18 #[.agg #[.bool b, .slice aa la ca], .agg #[.bool b', .slice ab lb cb]] w fun e w' => ∃ b1 a1 l1 c1, e = .returned (.agg #[.bool b1, .slice a1 l1 c1]) ∧ FK w' b1 a1 l1 c1 (near x y) (max (2 + k) l + 1) ∧ Below w.heap.size w w' := by
  obtain ⟨s, es⟩ : ∃ s, s = y.sign := ⟨_, rfl⟩
  have ES := hide es
  rw [near_turn x y]
  obtain ⟨x', ex⟩ : ∃ x', x' = if y < 0 then -x else x := ⟨_, rfl⟩
  obtain ⟨y', ey⟩ : ∃ y', y' = if y < 0 then -y else y := ⟨_, rfl⟩
  rw [← ex, ← ey]
  have hp : 0 < y' := by rw [ey]; split <;> omega
  have H0 : Hid (2 * y' ≠ 0) := fun e => by omega
  have EN : Hid (near x' y' = (2 * x' + y') / (2 * y')) := by unfold Hid near; rw [if_neg (by omega)]
  have EX0 := hide ex
  have EY0 := hide ey
  clear ex ey es hp
  go_enter Try.func18, Try.ntmps18
  go_wp2_with fail
  obtain ⟨W, hWe⟩ : ∃ W, W = (((w.alloc (.cells #[.bool b, .slice aa la ca] 24)).alloc (.cells #[.bool b', .slice ab lb cb] 24)).alloc (.cells #[.bool false, .slice none 0 0] 24)) := ⟨_, rfl⟩
  obtain ⟨B0, B1, B2, hb0⟩ := boxes3 w b aa la ca b' ab lb cb false none 0 0 hWe
  rw [← hWe]
  clear hWe
  refine (rsignK _ _ _ _ y l s _ (hy.later hb0) (unhide ES)).mono ?_
  rintro e w1 ⟨rfl, hb1⟩
  replace B0 := B0.later hb1
  replace B1 := B1.later hb1
  replace B2 := B2.later hb1
  have HB := hide (Below.step hb0 hb1)
  have hx1 := hx.later (unhide HB)
  have hy1 := hy.later (unhide HB)
  clear hb0 hb1 hx hy
  go_upto_if 10 with fail
  go_cut [] from 8 to 14 (fun wc => ∃ b1 a1 l1 c1 b2 a2 l2 c2, Box wc w.heap.size b1 a1 l1 c1 ∧ Box wc (w.heap.size + 1) b2 a2 l2 c2 ∧ Box wc (w.heap.size + 2) false none 0 0 ∧ IK wc b1 a1 l1 c1 x' k ∧ IK wc b2 a2 l2 c2 y' l ∧ Below w.heap.size w wc)
  case first =>
    have es := unhide ES
    have ex := unhide EX0
    have ey := unhide EY0
    by_cases hneg : y < 0
    · have hs : s < 0 := by rw [es, Int.sign_eq_neg_one_of_neg hneg]; omega
      rw [if_pos hneg] at ex ey
      have EX := hide ex
      have EY := hide ey
      clear ex ey es hneg
      go_wp2_with fail
      have HW : Below w1.heap.size w1 w1.drew := (Below.refl _ _).drew
      refine till_start (fun w' => w'.cell? ⟨w.heap.size, 0, none⟩ = some (.bool b) ∧ w'.cell? ⟨w.heap.size, 1, none⟩ = some (.slice aa la ca) ∧ w'.cell? ⟨w.heap.size + 1, 0, none⟩ = some (.bool b') ∧ w'.cell? ⟨w.heap.size + 1, 1, none⟩ = some (.slice ab lb cb)) 4 (by kernel_rfl) ?_ (fun hHeld => ?_)
      · exact ⟨(B0.later HW).facts.1, (B0.later HW).facts.2.1, (B1.later HW).facts.1, (B1.later HW).facts.2.1⟩
      refine till_take (i := 0) (v := ?_) [1, 3, 4, 5] rfl (by kernel_rfl) (by kernel_rfl) (by kernel_rfl) (by kernel_rfl) (fun _ _ _ h => h) (Or.inl ⟨by rfl, ?_⟩) (by assumption) ?_
      rotate_left
      · (intro w hSw; (try dsimp only at hSw); go_simp; try with_reducible rfl)
      simp only [Act.put, List.getElem_toArray, List.getElem_cons_zero, List.setIfInBounds_toArray, List.set_cons_zero, List.set_cons_succ]
      refine till_take (i := 2) (v := ?_) [3, 4, 5] rfl (by kernel_rfl) (by kernel_rfl) (by kernel_rfl) (by kernel_rfl) (fun _ _ _ h => h) (Or.inl ⟨by rfl, ?_⟩) (by assumption) ?_
      rotate_left
      · (intro w hSw; (try dsimp only at hSw); go_simp; try with_reducible rfl)
      simp only [Act.put, List.getElem_toArray, List.getElem_cons_succ, List.getElem_cons_zero, List.setIfInBounds_toArray, List.set_cons_zero, List.set_cons_succ]
      refine till_in (i := 1) (by kernel_rfl) rfl (fun K hK => ?_)
      go_simp
      refine (rnegK _ _ _ _ x k _ (hx1.later HW)).mono ?_
      rintro e w9 ⟨b1, a1, l1, c1, rfl, h1, hb9⟩
      replace HW := Below.step HW hb9
      clear hb9
      refine hK.out _ _ ?_ (fun hHeld => ?_)
      · exact ⟨(B0.later HW).facts.1, (B0.later HW).facts.2.1, (B1.later HW).facts.1, (B1.later HW).facts.2.1⟩
      clear hK K
      try simp only [Act.put, List.getElem_toArray, List.getElem_cons_succ, List.getElem_cons_zero, List.setIfInBounds_toArray, List.set_cons_zero, List.set_cons_succ]
      refine till_in (i := 3) (by kernel_rfl) rfl (fun K hK => ?_)
      go_simp
      refine (rnegK _ _ _ _ y l _ (hy1.later HW)).mono ?_
      rintro e w9 ⟨b2, a2, l2, c2, rfl, h2, hb9⟩
      replace HW := Below.step HW hb9
      replace h1 := h1.later hb9
      clear hb9
      obtain ⟨q1, q2, q3, q4⟩ := (B0.later HW).facts
      obtain ⟨q5, q6, q7, q8⟩ := (B1.later HW).facts
      have hs9 := (B2.later HW).lt
      refine hK.out _ _ ?_ (fun hHeld => ?_)
      · exact ⟨(B0.later HW).facts.1, (B0.later HW).facts.2.1, (B1.later HW).facts.1, (B1.later HW).facts.2.1⟩
      clear hK K
      try simp only [Act.put, List.getElem_toArray, List.getElem_cons_succ, List.getElem_cons_zero, List.setIfInBounds_toArray, List.set_cons_zero, List.set_cons_succ]
      refine till_out (i := 4) (by kernel_rfl) rfl (by kernel_rfl) (fun K hK => ?_)
      go_simp
      refine hK.out _ _ ?_
      clear hK K
      try simp only [Act.put, List.getElem_toArray, List.getElem_cons_succ, List.getElem_cons_zero, List.setIfInBounds_toArray, List.set_cons_zero, List.set_cons_succ]
      refine till_out (i := 5) (by kernel_rfl) rfl (by kernel_rfl) (fun K hK => ?_)
      go_simp
      refine hK.out _ _ ?_
      clear hK K
      try simp only [Act.put, List.getElem_toArray, List.getElem_cons_succ, List.getElem_cons_zero, List.setIfInBounds_toArray, List.set_cons_zero, List.set_cons_succ]
      refine till_done (by kernel_rfl) ?_ _
      go_wp2_with fail
      go_meet
      case rel =>
        have n0 := (B0.later HW).noLimb
        have n1 := ((B1.later HW).other (g' := w.heap.size) (by omega) b1 a1 l1 c1).noLimb
        refine ⟨_, _, _, _, _, _, _, _, ((B0.later HW).put b1 a1 l1 c1).other (g' := w.heap.size + 1) (by omega) b2 a2 l2 c2, ((B1.later HW).other (g' := w.heap.size) (by omega) b1 a1 l1 c1).put b2 a2 l2 c2, ((B2.later HW).other (g' := w.heap.size) (by omega) b1 a1 l1 c1).other (g' := w.heap.size + 1) (by omega) b2 a2 l2 c2, ?_, ?_, below_put (below_put (Below.step (unhide HB) HW) (by omega) b1 a1 l1 c1) (by omega) b2 a2 l2 c2⟩
        · rw [unhide EX]; exact ((h1.put n0 _ _ _ _).put n1 _ _ _ _).ik (by omega)
        · rw [unhide EY]; exact ((h2.put n0 _ _ _ _).put n1 _ _ _ _).ik (by omega)
    · have hs : ¬ s < 0 := by
        rw [es]
        rcases Int.lt_trichotomy y 0 with h | h | h
        · omega
        · rw [h]; decide
        · rw [Int.sign_eq_one_of_pos h]; omega
      rw [if_neg hneg] at ex ey
      subst ex ey
      clear es hneg
      go_wp2_with fail
      go_meet
      case rel => exact ⟨_, _, _, _, _, _, _, _, B0, B1, B2, hx1, hy1, unhide HB⟩
  case rest =>
    clear EX0 EY0 B0 B1 B2 hx1 hy1 HB ES h0
    obtain ⟨b1, a1, l1, c1, b2, a2, l2, c2, C0, C1, C2, hx2, hy2, hB2⟩ := hcut
    have HB2 := hide hB2
    clear hB2
    go_wp2_with fail
    refine (rofK 2 _ (by omega) (by omega)).mono ?_
    rintro e wo ⟨b3, a3, l3, c3, rfl, h3, hb9⟩
    replace C0 := C0.later hb9
    replace C1 := C1.later hb9
    replace C2 := C2.later hb9
    replace hx2 := hx2.later hb9
    replace hy2 := hy2.later hb9
    replace HB2 := hide (Below.step (unhide HB2) hb9)
    clear hb9
    go_upto_region 4 with fail
    obtain ⟨W3, hW3⟩ : ∃ W3, W3 = (wo.alloc (.cells #[.bool b3, .slice a3 l3 c3] 24)) := ⟨_, rfl⟩
    obtain ⟨D0, hbe⟩ := boxes1 wo b3 a3 l3 c3 hW3
    have hsz := C2.lt
    rw [← hW3]
    clear hW3
    replace C0 := C0.later hbe
    replace C1 := C1.later hbe
    replace C2 := C2.later hbe
    replace h3 := h3.later hbe
    replace hx2 := hx2.later hbe
    replace hy2 := hy2.later hbe
    have HB4 := hide (Below.step (unhide HB2) hbe)
    clear hbe HB2
    have LX1 : l3 + l1 ≤ 1000000 := by have h1 := hx2.2.1; have h2 : l3 ≤ 2 := h3.1.len_le h3.2; omega
    have LX2 : l3 + l2 ≤ 1000000 := by have h1 := hy2.2.1; have h2 : l3 ≤ 2 := h3.1.len_le h3.2; omega
    go_cut [6] from 7 to 27 (fun s wc => ∃ g b6 a6 l6 c6, s = .pointer (some ⟨g, 0, none⟩) ∧ Box wc g b6 a6 l6 c6 ∧ W3.heap.size ≤ g ∧ FK wc b6 a6 l6 c6 ((2 * x' + y') / (2 * y')) (max (2 + k) l + 1) ∧ Below W3.heap.size W3 wc)
    case first =>
      have HW : Below W3.heap.size W3 W3.drew := (Below.refl _ _).drew
      refine till_start (fun w' => w'.cell? ⟨wo.heap.size, 0, none⟩ = some (.bool b3) ∧ w'.cell? ⟨wo.heap.size, 1, none⟩ = some (.slice a3 l3 c3) ∧ w'.cell? ⟨w.heap.size, 0, none⟩ = some (.bool b1) ∧ w'.cell? ⟨w.heap.size, 1, none⟩ = some (.slice a1 l1 c1) ∧ w'.cell? ⟨w.heap.size + 1, 0, none⟩ = some (.bool b2) ∧ w'.cell? ⟨w.heap.size + 1, 1, none⟩ = some (.slice a2 l2 c2)) 14 (by kernel_rfl) ?_ (fun hHeld => ?_)
      · exact ⟨(D0.later HW).facts.1, (D0.later HW).facts.2.1, (C0.later HW).facts.1, (C0.later HW).facts.2.1, (C1.later HW).facts.1, (C1.later HW).facts.2.1⟩
      obtain ⟨v1, hvd⟩ : ∃ v, v = W3.drew := ⟨_, rfl⟩
      rw [← hvd] at HW hHeld ⊢
      clear hvd
      refine till_take (i := 0) (v := ?_) [2, 4, 7, 8, 9, 10, 11, 14, 15] rfl (by kernel_rfl) (by kernel_rfl) (by kernel_rfl) (by kernel_rfl) (fun _ _ _ h => h) (Or.inl ⟨by rfl, ?_⟩) (by assumption) ?_
      rotate_left
      · (intro wx hSw; (try dsimp only at hSw); go_simp; (try rw [if_neg (by omega)]); try with_reducible rfl)
      simp only [Act.put, List.getElem_toArray, List.getElem_cons_zero, List.setIfInBounds_toArray, List.set_cons_zero, List.set_cons_succ]
      refine till_take (i := 1) (v := ?_) [2, 4, 7, 8, 9, 10, 11, 14, 15] rfl (by kernel_rfl) (by kernel_rfl) (by kernel_rfl) (by kernel_rfl) (fun _ _ _ h => h) (Or.inl ⟨by rfl, ?_⟩) (by assumption) ?_
      rotate_left
      · (intro wx hSw; (try dsimp only at hSw); go_simp; (try rw [if_neg (by omega)]); try with_reducible rfl)
      simp only [Act.put, List.getElem_toArray, List.getElem_cons_succ, List.getElem_cons_zero, List.setIfInBounds_toArray, List.set_cons_zero, List.set_cons_succ]
      refine till_take (i := 3) (v := ?_) [4, 7, 8, 9, 10, 11, 14, 15] rfl (by kernel_rfl) (by kernel_rfl) (by kernel_rfl) (by kernel_rfl) (fun _ _ _ h => h) (Or.inl ⟨by rfl, ?_⟩) (by assumption) ?_
      rotate_left
      · (intro wx hSw; (try dsimp only at hSw); go_simp; (try rw [if_neg (by omega)]); try with_reducible rfl)
      simp only [Act.put, List.getElem_toArray, List.getElem_cons_succ, List.getElem_cons_zero, List.setIfInBounds_toArray, List.set_cons_zero, List.set_cons_succ]
      refine till_take (i := 5) (v := ?_) [7, 8, 9, 10, 11, 14, 15] rfl (by kernel_rfl) (by kernel_rfl) (by kernel_rfl) (by kernel_rfl) (fun _ _ _ h => h) (Or.inl ⟨by rfl, ?_⟩) (by assumption) ?_
      rotate_left
      · (intro wx hSw; (try dsimp only at hSw); go_simp; (try rw [if_neg (by omega)]); try with_reducible rfl)
      simp only [Act.put, List.getElem_toArray, List.getElem_cons_succ, List.getElem_cons_zero, List.setIfInBounds_toArray, List.set_cons_zero, List.set_cons_succ]
      refine till_take (i := 6) (v := ?_) [7, 8, 9, 10, 11, 14, 15] rfl (by kernel_rfl) (by kernel_rfl) (by kernel_rfl) (by kernel_rfl) (fun _ _ _ h => h) (Or.inl ⟨by rfl, ?_⟩) (by assumption) ?_
      rotate_left
      · (intro wx hSw; (try dsimp only at hSw); go_simp; (try rw [if_neg (by omega)]); try with_reducible rfl)
      simp only [Act.put, List.getElem_toArray, List.getElem_cons_succ, List.getElem_cons_zero, List.setIfInBounds_toArray, List.set_cons_zero, List.set_cons_succ]
      refine till_mid 2 #[true, true, true, true, true, true, true, true, true, true, true, true, true, true, false, false] (ι := Bool × Option Addr × Nat × Nat × Bool × Option Addr × Nat × Nat × Bool × Option Addr × Nat × Nat × Bool × Option Addr × Nat × Nat × Bool × Option Addr × Nat × Nat × Nat × Nat) (fun (b19, a19, l19, c19, b21, a21, l21, c21, b24, a24, l24, c24, b26, a26, l26, c26, b27, a27, l27, c27, g6, g7) => { tmps := #[Value.agg #[Value.bool b, Value.slice aa la ca], Value.agg #[Value.bool b', Value.slice ab lb cb], Value.pointer (some { block := w.heap.size, off := 0 }), Value.pointer (some { block := w.heap.size + 1, off := 0 }), Value.pointer (some { block := w.heap.size + 1 + 1, off := 0 }), Value.pointer (some { block := wo.heap.size, off := 0 }), .pointer (some ⟨g6, 0, none⟩), .pointer (some ⟨g7, 0, none⟩), u8, u9, u10, u11, u12, u13, u14, Value.agg #[Value.bool b3, Value.slice a3 l3 c3], .tuple #[.agg #[.bool b26, .slice a26 l26 c26], .agg #[.bool b27, .slice a27 l27 c27]], .agg #[.bool b3, .slice a3 l3 c3], .agg #[.bool b1, .slice a1 l1 c1], .agg #[.bool b19, .slice a19 l19 c19], .agg #[.bool b2, .slice a2 l2 c2], .agg #[.bool b21, .slice a21 l21 c21], .agg #[.bool b3, .slice a3 l3 c3], .agg #[.bool b2, .slice a2 l2 c2], .agg #[.bool b24, .slice a24 l24 c24], .tuple #[.agg #[.bool b26, .slice a26 l26 c26], .agg #[.bool b27, .slice a27 l27 c27]], .agg #[.bool b26, .slice a26 l26 c26], .agg #[.bool b27, .slice a27 l27 c27], undef], defers := [] }) (fun (b19, a19, l19, c19, b21, a21, l21, c21, b24, a24, l24, c24, b26, a26, l26, c26, b27, a27, l27, c27, g6, g7) w => Below W3.heap.size W3 w ∧ FK w b26 a26 l26 c26 ((2 * x' + y') / (2 * y')) (max (2 + k) l + 1) ∧ FK w b27 a27 l27 c27 ((2 * x' + y') % (2 * y')) (2 + l) ∧ Box w g6 false none 0 0 ∧ W3.heap.size ≤ g6 ∧ Box w g7 false none 0 0 ∧ W3.heap.size ≤ g7 ∧ g6 ≠ g7) ?_ (fun J0 => ?_)
      · rintro ⟨b19, a19, l19, c19, b21, a21, l21, c21, b24, a24, l24, c24, b26, a26, l26, c26, b27, a27, l27, c27, g6, g7⟩ wj hI
        try dsimp only at hI ⊢
        obtain ⟨HW, h26, h27, B6, hg6, B7, hg7, hne⟩ := hI
        have hHeld : wj.cell? ⟨wo.heap.size, 0, none⟩ = some (.bool b3) ∧ wj.cell? ⟨wo.heap.size, 1, none⟩ = some (.slice a3 l3 c3) ∧ wj.cell? ⟨w.heap.size, 0, none⟩ = some (.bool b1) ∧ wj.cell? ⟨w.heap.size, 1, none⟩ = some (.slice a1 l1 c1) ∧ wj.cell? ⟨w.heap.size + 1, 0, none⟩ = some (.bool b2) ∧ wj.cell? ⟨w.heap.size + 1, 1, none⟩ = some (.slice a2 l2 c2) := by exact ⟨(D0.later HW).facts.1, (D0.later HW).facts.2.1, (C0.later HW).facts.1, (C0.later HW).facts.2.1, (C1.later HW).facts.1, (C1.later HW).facts.2.1⟩
        obtain ⟨q1B6, q2B6, q3B6, q4B6⟩ := B6.facts
        have hltB6 := B6.lt
        obtain ⟨q1B7, q2B7, q3B7, q4B7⟩ := B7.facts
        have hltB7 := B7.lt
        refine till_out (i := 14) (by kernel_rfl) rfl (by kernel_rfl) (fun K hK => ?_)
        go_simp
        refine hK.out _ _ ?_
        clear hK K
        try simp only [List.setIfInBounds_toArray, List.set_cons_zero, List.set_cons_succ]
        refine till_out (i := 15) (by kernel_rfl) rfl (by kernel_rfl) (fun K hK => ?_)
        go_simp
        refine hK.out _ _ ?_
        clear hK K
        try simp only [List.setIfInBounds_toArray, List.set_cons_zero, List.set_cons_succ]
        refine till_done (by kernel_rfl) ?_ _
        go_wp2_with fail
        go_meet
        case rel =>
          have n6 := B6.noLimb
          have n7 := (B7.other (g' := g6) (Ne.symm hne) b26 a26 l26 c26).noLimb
          exact ⟨_, b26, a26, l26, c26, rfl, (B6.put b26 a26 l26 c26).other (g' := g7) hne b27 a27 l27 c27, hg6, (h26.put n6 b26 a26 l26 c26).put n7 b27 a27 l27 c27, below_put (below_put HW hg6 b26 a26 l26 c26) hg7 b27 a27 l27 c27⟩
      refine till_mid 3 #[true, true, true, true, true, true, true, true, true, true, true, true, false, true, false, false] (ι := Bool × Option Addr × Nat × Nat × Bool × Option Addr × Nat × Nat × Bool × Option Addr × Nat × Nat × Bool × Option Addr × Nat × Nat × Bool × Option Addr × Nat × Nat × Nat) (fun (b19, a19, l19, c19, b21, a21, l21, c21, b24, a24, l24, c24, b26, a26, l26, c26, b27, a27, l27, c27, g7) => { tmps := #[Value.agg #[Value.bool b, Value.slice aa la ca], Value.agg #[Value.bool b', Value.slice ab lb cb], Value.pointer (some { block := w.heap.size, off := 0 }), Value.pointer (some { block := w.heap.size + 1, off := 0 }), Value.pointer (some { block := w.heap.size + 1 + 1, off := 0 }), Value.pointer (some { block := wo.heap.size, off := 0 }), undef, .pointer (some ⟨g7, 0, none⟩), u8, u9, u10, u11, u12, u13, u14, Value.agg #[Value.bool b3, Value.slice a3 l3 c3], .tuple #[.agg #[.bool b26, .slice a26 l26 c26], .agg #[.bool b27, .slice a27 l27 c27]], .agg #[.bool b3, .slice a3 l3 c3], .agg #[.bool b1, .slice a1 l1 c1], .agg #[.bool b19, .slice a19 l19 c19], .agg #[.bool b2, .slice a2 l2 c2], .agg #[.bool b21, .slice a21 l21 c21], .agg #[.bool b3, .slice a3 l3 c3], .agg #[.bool b2, .slice a2 l2 c2], .agg #[.bool b24, .slice a24 l24 c24], .tuple #[.agg #[.bool b26, .slice a26 l26 c26], .agg #[.bool b27, .slice a27 l27 c27]], .agg #[.bool b26, .slice a26 l26 c26], .agg #[.bool b27, .slice a27 l27 c27], undef], defers := [] }) (fun (b19, a19, l19, c19, b21, a21, l21, c21, b24, a24, l24, c24, b26, a26, l26, c26, b27, a27, l27, c27, g7) w => Below W3.heap.size W3 w ∧ FK w b26 a26 l26 c26 ((2 * x' + y') / (2 * y')) (max (2 + k) l + 1) ∧ FK w b27 a27 l27 c27 ((2 * x' + y') % (2 * y')) (2 + l) ∧ Box w g7 false none 0 0 ∧ W3.heap.size ≤ g7) ?_ (fun J1 => ?_)
      · rintro ⟨b19, a19, l19, c19, b21, a21, l21, c21, b24, a24, l24, c24, b26, a26, l26, c26, b27, a27, l27, c27, g7⟩ wj hI
        try dsimp only at hI ⊢
        obtain ⟨HW, h26, h27, B7, hg7⟩ := hI
        have hHeld : wj.cell? ⟨wo.heap.size, 0, none⟩ = some (.bool b3) ∧ wj.cell? ⟨wo.heap.size, 1, none⟩ = some (.slice a3 l3 c3) ∧ wj.cell? ⟨w.heap.size, 0, none⟩ = some (.bool b1) ∧ wj.cell? ⟨w.heap.size, 1, none⟩ = some (.slice a1 l1 c1) ∧ wj.cell? ⟨w.heap.size + 1, 0, none⟩ = some (.bool b2) ∧ wj.cell? ⟨w.heap.size + 1, 1, none⟩ = some (.slice a2 l2 c2) := by exact ⟨(D0.later HW).facts.1, (D0.later HW).facts.2.1, (C0.later HW).facts.1, (C0.later HW).facts.2.1, (C1.later HW).facts.1, (C1.later HW).facts.2.1⟩
        refine till_in (i := 12) (by kernel_rfl) rfl (fun K hK => ?_)
        go_simp
        have hwk : W3.heap.size ≤ wj.heap.size := HW.size
        have hxg7 := B7.lt
        obtain ⟨wk, hWe⟩ : ∃ W', W' = wj.alloc (.cells #[.bool false, .slice none 0 0] 24) := ⟨_, rfl⟩
        obtain ⟨B6, hb9⟩ := boxes1 wj false none 0 0 hWe
        rw [← hWe]
        clear hWe
        replace HW := Below.step HW hb9
        replace h26 := h26.later hb9
        replace h27 := h27.later hb9
        replace B7 := B7.later hb9
        clear hb9
        have hg6 := hwk
        have hne : wj.heap.size ≠ g7 := by omega
        refine hK.out _ _ ?_ (fun hHeld => ?_)
        · exact ⟨(D0.later HW).facts.1, (D0.later HW).facts.2.1, (C0.later HW).facts.1, (C0.later HW).facts.2.1, (C1.later HW).facts.1, (C1.later HW).facts.2.1⟩
        clear hK K
        try simp only [List.setIfInBounds_toArray, List.set_cons_zero, List.set_cons_succ]
        exact till_go J0 (b19, a19, l19, c19, b21, a21, l21, c21, b24, a24, l24, c24, b26, a26, l26, c26, b27, a27, l27, c27, wj.heap.size, g7) rfl (by kernel_rfl) rfl (by (try dsimp only); exact ⟨HW, h26, h27, B6, hg6, B7, hg7, hne⟩)
      refine till_mid 3 #[true, true, true, true, true, true, true, true, true, true, true, true, true, false, false, false] (ι := Bool × Option Addr × Nat × Nat × Bool × Option Addr × Nat × Nat × Bool × Option Addr × Nat × Nat × Bool × Option Addr × Nat × Nat × Bool × Option Addr × Nat × Nat × Nat) (fun (b19, a19, l19, c19, b21, a21, l21, c21, b24, a24, l24, c24, b26, a26, l26, c26, b27, a27, l27, c27, g6) => { tmps := #[Value.agg #[Value.bool b, Value.slice aa la ca], Value.agg #[Value.bool b', Value.slice ab lb cb], Value.pointer (some { block := w.heap.size, off := 0 }), Value.pointer (some { block := w.heap.size + 1, off := 0 }), Value.pointer (some { block := w.heap.size + 1 + 1, off := 0 }), Value.pointer (some { block := wo.heap.size, off := 0 }), .pointer (some ⟨g6, 0, none⟩), undef, u8, u9, u10, u11, u12, u13, u14, Value.agg #[Value.bool b3, Value.slice a3 l3 c3], .tuple #[.agg #[.bool b26, .slice a26 l26 c26], .agg #[.bool b27, .slice a27 l27 c27]], .agg #[.bool b3, .slice a3 l3 c3], .agg #[.bool b1, .slice a1 l1 c1], .agg #[.bool b19, .slice a19 l19 c19], .agg #[.bool b2, .slice a2 l2 c2], .agg #[.bool b21, .slice a21 l21 c21], .agg #[.bool b3, .slice a3 l3 c3], .agg #[.bool b2, .slice a2 l2 c2], .agg #[.bool b24, .slice a24 l24 c24], .tuple #[.agg #[.bool b26, .slice a26 l26 c26], .agg #[.bool b27, .slice a27 l27 c27]], .agg #[.bool b26, .slice a26 l26 c26], .agg #[.bool b27, .slice a27 l27 c27], undef], defers := [] }) (fun (b19, a19, l19, c19, b21, a21, l21, c21, b24, a24, l24, c24, b26, a26, l26, c26, b27, a27, l27, c27, g6) w => Below W3.heap.size W3 w ∧ FK w b26 a26 l26 c26 ((2 * x' + y') / (2 * y')) (max (2 + k) l + 1) ∧ FK w b27 a27 l27 c27 ((2 * x' + y') % (2 * y')) (2 + l) ∧ Box w g6 false none 0 0 ∧ W3.heap.size ≤ g6) ?_ (fun J2 => ?_)
      · rintro ⟨b19, a19, l19, c19, b21, a21, l21, c21, b24, a24, l24, c24, b26, a26, l26, c26, b27, a27, l27, c27, g6⟩ wj hI
        try dsimp only at hI ⊢
        obtain ⟨HW, h26, h27, B6, hg6⟩ := hI
        have hHeld : wj.cell? ⟨wo.heap.size, 0, none⟩ = some (.bool b3) ∧ wj.cell? ⟨wo.heap.size, 1, none⟩ = some (.slice a3 l3 c3) ∧ wj.cell? ⟨w.heap.size, 0, none⟩ = some (.bool b1) ∧ wj.cell? ⟨w.heap.size, 1, none⟩ = some (.slice a1 l1 c1) ∧ wj.cell? ⟨w.heap.size + 1, 0, none⟩ = some (.bool b2) ∧ wj.cell? ⟨w.heap.size + 1, 1, none⟩ = some (.slice a2 l2 c2) := by exact ⟨(D0.later HW).facts.1, (D0.later HW).facts.2.1, (C0.later HW).facts.1, (C0.later HW).facts.2.1, (C1.later HW).facts.1, (C1.later HW).facts.2.1⟩
        refine till_in (i := 13) (by kernel_rfl) rfl (fun K hK => ?_)
        go_simp
        have hwk : W3.heap.size ≤ wj.heap.size := HW.size
        have hxg6 := B6.lt
        obtain ⟨wk, hWe⟩ : ∃ W', W' = wj.alloc (.cells #[.bool false, .slice none 0 0] 24) := ⟨_, rfl⟩
        obtain ⟨B7, hb9⟩ := boxes1 wj false none 0 0 hWe
        rw [← hWe]
        clear hWe
        replace HW := Below.step HW hb9
        replace h26 := h26.later hb9
        replace h27 := h27.later hb9
        replace B6 := B6.later hb9
        clear hb9
        have hg7 := hwk
        have hne : g6 ≠ wj.heap.size := by omega
        refine hK.out _ _ ?_ (fun hHeld => ?_)
        · exact ⟨(D0.later HW).facts.1, (D0.later HW).facts.2.1, (C0.later HW).facts.1, (C0.later HW).facts.2.1, (C1.later HW).facts.1, (C1.later HW).facts.2.1⟩
        clear hK K
        try simp only [List.setIfInBounds_toArray, List.set_cons_zero, List.set_cons_succ]
        exact till_go J0 (b19, a19, l19, c19, b21, a21, l21, c21, b24, a24, l24, c24, b26, a26, l26, c26, b27, a27, l27, c27, g6, wj.heap.size) rfl (by kernel_rfl) rfl (by (try dsimp only); exact ⟨HW, h26, h27, B6, hg6, B7, hg7, hne⟩)
      refine till_mid 4 #[true, true, true, true, true, true, true, true, true, true, true, true, false, false, false, false] (ι := Bool × Option Addr × Nat × Nat × Bool × Option Addr × Nat × Nat × Bool × Option Addr × Nat × Nat × Bool × Option Addr × Nat × Nat × Bool × Option Addr × Nat × Nat) (fun (b19, a19, l19, c19, b21, a21, l21, c21, b24, a24, l24, c24, b26, a26, l26, c26, b27, a27, l27, c27) => { tmps := #[Value.agg #[Value.bool b, Value.slice aa la ca], Value.agg #[Value.bool b', Value.slice ab lb cb], Value.pointer (some { block := w.heap.size, off := 0 }), Value.pointer (some { block := w.heap.size + 1, off := 0 }), Value.pointer (some { block := w.heap.size + 1 + 1, off := 0 }), Value.pointer (some { block := wo.heap.size, off := 0 }), undef, undef, u8, u9, u10, u11, u12, u13, u14, Value.agg #[Value.bool b3, Value.slice a3 l3 c3], .tuple #[.agg #[.bool b26, .slice a26 l26 c26], .agg #[.bool b27, .slice a27 l27 c27]], .agg #[.bool b3, .slice a3 l3 c3], .agg #[.bool b1, .slice a1 l1 c1], .agg #[.bool b19, .slice a19 l19 c19], .agg #[.bool b2, .slice a2 l2 c2], .agg #[.bool b21, .slice a21 l21 c21], .agg #[.bool b3, .slice a3 l3 c3], .agg #[.bool b2, .slice a2 l2 c2], .agg #[.bool b24, .slice a24 l24 c24], .tuple #[.agg #[.bool b26, .slice a26 l26 c26], .agg #[.bool b27, .slice a27 l27 c27]], .agg #[.bool b26, .slice a26 l26 c26], .agg #[.bool b27, .slice a27 l27 c27], undef], defers := [] }) (fun (b19, a19, l19, c19, b21, a21, l21, c21, b24, a24, l24, c24, b26, a26, l26, c26, b27, a27, l27, c27) w => Below W3.heap.size W3 w ∧ FK w b26 a26 l26 c26 ((2 * x' + y') / (2 * y')) (max (2 + k) l + 1) ∧ FK w b27 a27 l27 c27 ((2 * x' + y') % (2 * y')) (2 + l)) ?_ (fun J3 => ?_)
      · rintro ⟨b19, a19, l19, c19, b21, a21, l21, c21, b24, a24, l24, c24, b26, a26, l26, c26, b27, a27, l27, c27⟩ wj hI
        try dsimp only at hI ⊢
        obtain ⟨HW, h26, h27⟩ := hI
        have hHeld : wj.cell? ⟨wo.heap.size, 0, none⟩ = some (.bool b3) ∧ wj.cell? ⟨wo.heap.size, 1, none⟩ = some (.slice a3 l3 c3) ∧ wj.cell? ⟨w.heap.size, 0, none⟩ = some (.bool b1) ∧ wj.cell? ⟨w.heap.size, 1, none⟩ = some (.slice a1 l1 c1) ∧ wj.cell? ⟨w.heap.size + 1, 0, none⟩ = some (.bool b2) ∧ wj.cell? ⟨w.heap.size + 1, 1, none⟩ = some (.slice a2 l2 c2) := by exact ⟨(D0.later HW).facts.1, (D0.later HW).facts.2.1, (C0.later HW).facts.1, (C0.later HW).facts.2.1, (C1.later HW).facts.1, (C1.later HW).facts.2.1⟩
        refine till_two (i := 12) (j := 13) (by kernel_rfl) rfl rfl (fun K hK => ?_) (fun K hK => ?_)
        · go_simp
          have hwk : W3.heap.size ≤ wj.heap.size := HW.size
          obtain ⟨wk, hWe⟩ : ∃ W', W' = wj.alloc (.cells #[.bool false, .slice none 0 0] 24) := ⟨_, rfl⟩
          obtain ⟨B6, hb9⟩ := boxes1 wj false none 0 0 hWe
          rw [← hWe]
          clear hWe
          replace HW := Below.step HW hb9
          replace h26 := h26.later hb9
          replace h27 := h27.later hb9
          clear hb9
          have hg6 := hwk
          refine hK.out _ _ ?_ (fun hHeld => ?_)
          · exact ⟨(D0.later HW).facts.1, (D0.later HW).facts.2.1, (C0.later HW).facts.1, (C0.later HW).facts.2.1, (C1.later HW).facts.1, (C1.later HW).facts.2.1⟩
          clear hK K
          try simp only [List.setIfInBounds_toArray, List.set_cons_zero, List.set_cons_succ]
          exact till_go J2 (b19, a19, l19, c19, b21, a21, l21, c21, b24, a24, l24, c24, b26, a26, l26, c26, b27, a27, l27, c27, wj.heap.size) rfl (by kernel_rfl) rfl (by (try dsimp only); exact ⟨HW, h26, h27, B6, hg6⟩)
        · go_simp
          have hwk : W3.heap.size ≤ wj.heap.size := HW.size
          obtain ⟨wk, hWe⟩ : ∃ W', W' = wj.alloc (.cells #[.bool false, .slice none 0 0] 24) := ⟨_, rfl⟩
          obtain ⟨B7, hb9⟩ := boxes1 wj false none 0 0 hWe
          rw [← hWe]
          clear hWe
          replace HW := Below.step HW hb9
          replace h26 := h26.later hb9
          replace h27 := h27.later hb9
          clear hb9
          have hg7 := hwk
          refine hK.out _ _ ?_ (fun hHeld => ?_)
          · exact ⟨(D0.later HW).facts.1, (D0.later HW).facts.2.1, (C0.later HW).facts.1, (C0.later HW).facts.2.1, (C1.later HW).facts.1, (C1.later HW).facts.2.1⟩
          clear hK K
          try simp only [List.setIfInBounds_toArray, List.set_cons_zero, List.set_cons_succ]
          exact till_go J1 (b19, a19, l19, c19, b21, a21, l21, c21, b24, a24, l24, c24, b26, a26, l26, c26, b27, a27, l27, c27, wj.heap.size) rfl (by kernel_rfl) rfl (by (try dsimp only); exact ⟨HW, h26, h27, B7, hg7⟩)
      refine till_mid 6 #[true, true, true, true, true, true, true, true, false, false, false, false, true, true, false, false] (ι := Bool × Option Addr × Nat × Nat × Bool × Option Addr × Nat × Nat × Bool × Option Addr × Nat × Nat × Nat × Nat) (fun (b19, a19, l19, c19, b21, a21, l21, c21, b24, a24, l24, c24, g6, g7) => { tmps := #[Value.agg #[Value.bool b, Value.slice aa la ca], Value.agg #[Value.bool b', Value.slice ab lb cb], Value.pointer (some { block := w.heap.size, off := 0 }), Value.pointer (some { block := w.heap.size + 1, off := 0 }), Value.pointer (some { block := w.heap.size + 1 + 1, off := 0 }), Value.pointer (some { block := wo.heap.size, off := 0 }), .pointer (some ⟨g6, 0, none⟩), .pointer (some ⟨g7, 0, none⟩), u8, u9, u10, u11, u12, u13, u14, Value.agg #[Value.bool b3, Value.slice a3 l3 c3], undef, .agg #[.bool b3, .slice a3 l3 c3], .agg #[.bool b1, .slice a1 l1 c1], .agg #[.bool b19, .slice a19 l19 c19], .agg #[.bool b2, .slice a2 l2 c2], .agg #[.bool b21, .slice a21 l21 c21], .agg #[.bool b3, .slice a3 l3 c3], .agg #[.bool b2, .slice a2 l2 c2], .agg #[.bool b24, .slice a24 l24 c24], undef, undef, undef, undef], defers := [] }) (fun (b19, a19, l19, c19, b21, a21, l21, c21, b24, a24, l24, c24, g6, g7) w => Below W3.heap.size W3 w ∧ FK w b21 a21 l21 c21 (2 * x' + y') (max (2 + k) l + 1) ∧ FK w b24 a24 l24 c24 (2 * y') (2 + l) ∧ Box w g6 false none 0 0 ∧ W3.heap.size ≤ g6 ∧ Box w g7 false none 0 0 ∧ W3.heap.size ≤ g7 ∧ g6 ≠ g7) ?_ (fun J4 => ?_)
      · rintro ⟨b19, a19, l19, c19, b21, a21, l21, c21, b24, a24, l24, c24, g6, g7⟩ wj hI
        try dsimp only at hI ⊢
        obtain ⟨HW, h21, h24, B6, hg6, B7, hg7, hne⟩ := hI
        have hHeld : wj.cell? ⟨wo.heap.size, 0, none⟩ = some (.bool b3) ∧ wj.cell? ⟨wo.heap.size, 1, none⟩ = some (.slice a3 l3 c3) ∧ wj.cell? ⟨w.heap.size, 0, none⟩ = some (.bool b1) ∧ wj.cell? ⟨w.heap.size, 1, none⟩ = some (.slice a1 l1 c1) ∧ wj.cell? ⟨w.heap.size + 1, 0, none⟩ = some (.bool b2) ∧ wj.cell? ⟨w.heap.size + 1, 1, none⟩ = some (.slice a2 l2 c2) := by exact ⟨(D0.later HW).facts.1, (D0.later HW).facts.2.1, (C0.later HW).facts.1, (C0.later HW).facts.2.1, (C1.later HW).facts.1, (C1.later HW).facts.2.1⟩
        refine till_in (i := 8) (by kernel_rfl) rfl (fun K hK => ?_)
        go_simp
        refine (rdivK b21 a21 l21 c21 (2 * x' + y') (max (2 + k) l + 1) b24 a24 l24 c24 (2 * y') (2 + l) _ (h21.ik (by omega)) (h24.ik (by omega)) (unhide H0) (by omega) (by omega)).mono ?_
        rintro e wk ⟨b26, a26, l26, c26, b27, a27, l27, c27, rfl, h26, h27, hb9⟩
        replace HW := Below.step HW hb9
        replace B6 := B6.later hb9
        replace B7 := B7.later hb9
        clear hb9 h21 h24
        refine hK.out _ _ ?_ (fun hHeld => ?_)
        · exact ⟨(D0.later HW).facts.1, (D0.later HW).facts.2.1, (C0.later HW).facts.1, (C0.later HW).facts.2.1, (C1.later HW).facts.1, (C1.later HW).facts.2.1⟩
        clear hK K
        try simp only [List.setIfInBounds_toArray, List.set_cons_zero, List.set_cons_succ]
        refine till_free (i := 9) (v := ?_) rfl (by kernel_rfl) (by kernel_rfl) (by kernel_rfl) (by kernel_rfl) (fun _ _ _ h => h) (Or.inl ⟨by rfl, ?_⟩) (by assumption) ?_
        rotate_left
        · (intro wx hSw; (try dsimp only at hSw); go_simp; (try rw [if_neg (by omega)]); try with_reducible rfl)
        simp only [Act.put, List.getElem_toArray, List.getElem_cons_succ, List.getElem_cons_zero, List.setIfInBounds_toArray, List.set_cons_zero, List.set_cons_succ]
        refine till_free (i := 10) (v := ?_) rfl (by kernel_rfl) (by kernel_rfl) (by kernel_rfl) (by kernel_rfl) (fun _ _ _ h => h) (Or.inl ⟨by rfl, ?_⟩) (by assumption) ?_
        rotate_left
        · (intro wx hSw; (try dsimp only at hSw); go_simp; (try rw [if_neg (by omega)]); try with_reducible rfl)
        simp only [Act.put, List.getElem_toArray, List.getElem_cons_succ, List.getElem_cons_zero, List.setIfInBounds_toArray, List.set_cons_zero, List.set_cons_succ]
        refine till_free (i := 11) (v := ?_) rfl (by kernel_rfl) (by kernel_rfl) (by kernel_rfl) (by kernel_rfl) (fun _ _ _ h => h) (Or.inl ⟨by rfl, ?_⟩) (by assumption) ?_
        rotate_left
        · (intro wx hSw; (try dsimp only at hSw); go_simp; (try rw [if_neg (by omega)]); try with_reducible rfl)
        simp only [Act.put, List.getElem_toArray, List.getElem_cons_succ, List.getElem_cons_zero, List.setIfInBounds_toArray, List.set_cons_zero, List.set_cons_succ]
        exact till_go J0 (b19, a19, l19, c19, b21, a21, l21, c21, b24, a24, l24, c24, b26, a26, l26, c26, b27, a27, l27, c27, g6, g7) rfl (by kernel_rfl) rfl (by (try dsimp only); exact ⟨HW, h26, h27, B6, hg6, B7, hg7, hne⟩)
      refine till_mid 7 #[true, true, true, true, true, true, true, false, false, false, false, false, true, true, false, false] (ι := Bool × Option Addr × Nat × Nat × Bool × Option Addr × Nat × Nat × Nat × Nat) (fun (b19, a19, l19, c19, b21, a21, l21, c21, g6, g7) => { tmps := #[Value.agg #[Value.bool b, Value.slice aa la ca], Value.agg #[Value.bool b', Value.slice ab lb cb], Value.pointer (some { block := w.heap.size, off := 0 }), Value.pointer (some { block := w.heap.size + 1, off := 0 }), Value.pointer (some { block := w.heap.size + 1 + 1, off := 0 }), Value.pointer (some { block := wo.heap.size, off := 0 }), .pointer (some ⟨g6, 0, none⟩), .pointer (some ⟨g7, 0, none⟩), u8, u9, u10, u11, u12, u13, u14, Value.agg #[Value.bool b3, Value.slice a3 l3 c3], undef, .agg #[.bool b3, .slice a3 l3 c3], .agg #[.bool b1, .slice a1 l1 c1], .agg #[.bool b19, .slice a19 l19 c19], .agg #[.bool b2, .slice a2 l2 c2], .agg #[.bool b21, .slice a21 l21 c21], .agg #[.bool b3, .slice a3 l3 c3], .agg #[.bool b2, .slice a2 l2 c2], undef, undef, undef, undef, undef], defers := [] }) (fun (b19, a19, l19, c19, b21, a21, l21, c21, g6, g7) w => Below W3.heap.size W3 w ∧ FK w b21 a21 l21 c21 (2 * x' + y') (max (2 + k) l + 1) ∧ Box w g6 false none 0 0 ∧ W3.heap.size ≤ g6 ∧ Box w g7 false none 0 0 ∧ W3.heap.size ≤ g7 ∧ g6 ≠ g7) ?_ (fun J5 => ?_)
      · rintro ⟨b19, a19, l19, c19, b21, a21, l21, c21, g6, g7⟩ wj hI
        try dsimp only at hI ⊢
        obtain ⟨HW, h21, B6, hg6, B7, hg7, hne⟩ := hI
        have hHeld : wj.cell? ⟨wo.heap.size, 0, none⟩ = some (.bool b3) ∧ wj.cell? ⟨wo.heap.size, 1, none⟩ = some (.slice a3 l3 c3) ∧ wj.cell? ⟨w.heap.size, 0, none⟩ = some (.bool b1) ∧ wj.cell? ⟨w.heap.size, 1, none⟩ = some (.slice a1 l1 c1) ∧ wj.cell? ⟨w.heap.size + 1, 0, none⟩ = some (.bool b2) ∧ wj.cell? ⟨w.heap.size + 1, 1, none⟩ = some (.slice a2 l2 c2) := by exact ⟨(D0.later HW).facts.1, (D0.later HW).facts.2.1, (C0.later HW).facts.1, (C0.later HW).facts.2.1, (C1.later HW).facts.1, (C1.later HW).facts.2.1⟩
        refine till_in (i := 7) (by kernel_rfl) rfl (fun K hK => ?_)
        go_simp
        refine (rmulK b3 a3 l3 c3 2 2 b2 a2 l2 c2 y' l _ ((h3.later HW).ik (by omega)) (hy2.later HW) LX2).mono ?_
        rintro e wk ⟨b24, a24, l24, c24, rfl, h24, hb9⟩
        replace HW := Below.step HW hb9
        replace h21 := h21.later hb9
        replace B6 := B6.later hb9
        replace B7 := B7.later hb9
        clear hb9
        refine hK.out _ _ ?_ (fun hHeld => ?_)
        · exact ⟨(D0.later HW).facts.1, (D0.later HW).facts.2.1, (C0.later HW).facts.1, (C0.later HW).facts.2.1, (C1.later HW).facts.1, (C1.later HW).facts.2.1⟩
        clear hK K
        try simp only [List.setIfInBounds_toArray, List.set_cons_zero, List.set_cons_succ]
        exact till_go J4 (b19, a19, l19, c19, b21, a21, l21, c21, b24, a24, l24, c24, g6, g7) rfl (by kernel_rfl) rfl (by (try dsimp only); exact ⟨HW, h21, h24, B6, hg6, B7, hg7, hne⟩)
      refine till_mid 7 #[true, true, true, true, true, true, true, true, false, false, false, false, false, true, false, false] (ι := Bool × Option Addr × Nat × Nat × Bool × Option Addr × Nat × Nat × Bool × Option Addr × Nat × Nat × Nat) (fun (b19, a19, l19, c19, b21, a21, l21, c21, b24, a24, l24, c24, g7) => { tmps := #[Value.agg #[Value.bool b, Value.slice aa la ca], Value.agg #[Value.bool b', Value.slice ab lb cb], Value.pointer (some { block := w.heap.size, off := 0 }), Value.pointer (some { block := w.heap.size + 1, off := 0 }), Value.pointer (some { block := w.heap.size + 1 + 1, off := 0 }), Value.pointer (some { block := wo.heap.size, off := 0 }), undef, .pointer (some ⟨g7, 0, none⟩), u8, u9, u10, u11, u12, u13, u14, Value.agg #[Value.bool b3, Value.slice a3 l3 c3], undef, .agg #[.bool b3, .slice a3 l3 c3], .agg #[.bool b1, .slice a1 l1 c1], .agg #[.bool b19, .slice a19 l19 c19], .agg #[.bool b2, .slice a2 l2 c2], .agg #[.bool b21, .slice a21 l21 c21], .agg #[.bool b3, .slice a3 l3 c3], .agg #[.bool b2, .slice a2 l2 c2], .agg #[.bool b24, .slice a24 l24 c24], undef, undef, undef, undef], defers := [] }) (fun (b19, a19, l19, c19, b21, a21, l21, c21, b24, a24, l24, c24, g7) w => Below W3.heap.size W3 w ∧ FK w b21 a21 l21 c21 (2 * x' + y') (max (2 + k) l + 1) ∧ FK w b24 a24 l24 c24 (2 * y') (2 + l) ∧ Box w g7 false none 0 0 ∧ W3.heap.size ≤ g7) ?_ (fun J6 => ?_)
      · rintro ⟨b19, a19, l19, c19, b21, a21, l21, c21, b24, a24, l24, c24, g7⟩ wj hI
        try dsimp only at hI ⊢
        obtain ⟨HW, h21, h24, B7, hg7⟩ := hI
        have hHeld : wj.cell? ⟨wo.heap.size, 0, none⟩ = some (.bool b3) ∧ wj.cell? ⟨wo.heap.size, 1, none⟩ = some (.slice a3 l3 c3) ∧ wj.cell? ⟨w.heap.size, 0, none⟩ = some (.bool b1) ∧ wj.cell? ⟨w.heap.size, 1, none⟩ = some (.slice a1 l1 c1) ∧ wj.cell? ⟨w.heap.size + 1, 0, none⟩ = some (.bool b2) ∧ wj.cell? ⟨w.heap.size + 1, 1, none⟩ = some (.slice a2 l2 c2) := by exact ⟨(D0.later HW).facts.1, (D0.later HW).facts.2.1, (C0.later HW).facts.1, (C0.later HW).facts.2.1, (C1.later HW).facts.1, (C1.later HW).facts.2.1⟩
        refine till_two (i := 8) (j := 12) (by kernel_rfl) rfl rfl (fun K hK => ?_) (fun K hK => ?_)
        · go_simp
          refine (rdivK b21 a21 l21 c21 (2 * x' + y') (max (2 + k) l + 1) b24 a24 l24 c24 (2 * y') (2 + l) _ (h21.ik (by omega)) (h24.ik (by omega)) (unhide H0) (by omega) (by omega)).mono ?_
          rintro e wk ⟨b26, a26, l26, c26, b27, a27, l27, c27, rfl, h26, h27, hb9⟩
          replace HW := Below.step HW hb9
          replace B7 := B7.later hb9
          clear hb9 h21 h24
          refine hK.out _ _ ?_ (fun hHeld => ?_)
          · exact ⟨(D0.later HW).facts.1, (D0.later HW).facts.2.1, (C0.later HW).facts.1, (C0.later HW).facts.2.1, (C1.later HW).facts.1, (C1.later HW).facts.2.1⟩
          clear hK K
          try simp only [List.setIfInBounds_toArray, List.set_cons_zero, List.set_cons_succ]
          refine till_free (i := 9) (v := ?_) rfl (by kernel_rfl) (by kernel_rfl) (by kernel_rfl) (by kernel_rfl) (fun _ _ _ h => h) (Or.inl ⟨by rfl, ?_⟩) (by assumption) ?_
          rotate_left
          · (intro wx hSw; (try dsimp only at hSw); go_simp; (try rw [if_neg (by omega)]); try with_reducible rfl)
          simp only [Act.put, List.getElem_toArray, List.getElem_cons_succ, List.getElem_cons_zero, List.setIfInBounds_toArray, List.set_cons_zero, List.set_cons_succ]
          refine till_free (i := 10) (v := ?_) rfl (by kernel_rfl) (by kernel_rfl) (by kernel_rfl) (by kernel_rfl) (fun _ _ _ h => h) (Or.inl ⟨by rfl, ?_⟩) (by assumption) ?_
          rotate_left
          · (intro wx hSw; (try dsimp only at hSw); go_simp; (try rw [if_neg (by omega)]); try with_reducible rfl)
          simp only [Act.put, List.getElem_toArray, List.getElem_cons_succ, List.getElem_cons_zero, List.setIfInBounds_toArray, List.set_cons_zero, List.set_cons_succ]
          refine till_free (i := 11) (v := ?_) rfl (by kernel_rfl) (by kernel_rfl) (by kernel_rfl) (by kernel_rfl) (fun _ _ _ h => h) (Or.inl ⟨by rfl, ?_⟩) (by assumption) ?_
          rotate_left
          · (intro wx hSw; (try dsimp only at hSw); go_simp; (try rw [if_neg (by omega)]); try with_reducible rfl)
          simp only [Act.put, List.getElem_toArray, List.getElem_cons_succ, List.getElem_cons_zero, List.setIfInBounds_toArray, List.set_cons_zero, List.set_cons_succ]
          exact till_go J1 (b19, a19, l19, c19, b21, a21, l21, c21, b24, a24, l24, c24, b26, a26, l26, c26, b27, a27, l27, c27, g7) rfl (by kernel_rfl) rfl (by (try dsimp only); exact ⟨HW, h26, h27, B7, hg7⟩)
        · go_simp
          have hwk : W3.heap.size ≤ wj.heap.size := HW.size
          have hxg7 := B7.lt
          obtain ⟨wk, hWe⟩ : ∃ W', W' = wj.alloc (.cells #[.bool false, .slice none 0 0] 24) := ⟨_, rfl⟩
          obtain ⟨B6, hb9⟩ := boxes1 wj false none 0 0 hWe
          rw [← hWe]
          clear hWe
          replace HW := Below.step HW hb9
          replace h21 := h21.later hb9
          replace h24 := h24.later hb9
          replace B7 := B7.later hb9
          clear hb9
          have hg6 := hwk
          have hne : wj.heap.size ≠ g7 := by omega
          refine hK.out _ _ ?_ (fun hHeld => ?_)
          · exact ⟨(D0.later HW).facts.1, (D0.later HW).facts.2.1, (C0.later HW).facts.1, (C0.later HW).facts.2.1, (C1.later HW).facts.1, (C1.later HW).facts.2.1⟩
          clear hK K
          try simp only [List.setIfInBounds_toArray, List.set_cons_zero, List.set_cons_succ]
          exact till_go J4 (b19, a19, l19, c19, b21, a21, l21, c21, b24, a24, l24, c24, wj.heap.size, g7) rfl (by kernel_rfl) rfl (by (try dsimp only); exact ⟨HW, h21, h24, B6, hg6, B7, hg7, hne⟩)
      refine till_mid 7 #[true, true, true, true, true, true, true, true, false, false, false, false, true, false, false, false] (ι := Bool × Option Addr × Nat × Nat × Bool × Option Addr × Nat × Nat × Bool × Option Addr × Nat × Nat × Nat) (fun (b19, a19, l19, c19, b21, a21, l21, c21, b24, a24, l24, c24, g6) => { tmps := #[Value.agg #[Value.bool b, Value.slice aa la ca], Value.agg #[Value.bool b', Value.slice ab lb cb], Value.pointer (some { block := w.heap.size, off := 0 }), Value.pointer (some { block := w.heap.size + 1, off := 0 }), Value.pointer (some { block := w.heap.size + 1 + 1, off := 0 }), Value.pointer (some { block := wo.heap.size, off := 0 }), .pointer (some ⟨g6, 0, none⟩), undef, u8, u9, u10, u11, u12, u13, u14, Value.agg #[Value.bool b3, Value.slice a3 l3 c3], undef, .agg #[.bool b3, .slice a3 l3 c3], .agg #[.bool b1, .slice a1 l1 c1], .agg #[.bool b19, .slice a19 l19 c19], .agg #[.bool b2, .slice a2 l2 c2], .agg #[.bool b21, .slice a21 l21 c21], .agg #[.bool b3, .slice a3 l3 c3], .agg #[.bool b2, .slice a2 l2 c2], .agg #[.bool b24, .slice a24 l24 c24], undef, undef, undef, undef], defers := [] }) (fun (b19, a19, l19, c19, b21, a21, l21, c21, b24, a24, l24, c24, g6) w => Below W3.heap.size W3 w ∧ FK w b21 a21 l21 c21 (2 * x' + y') (max (2 + k) l + 1) ∧ FK w b24 a24 l24 c24 (2 * y') (2 + l) ∧ Box w g6 false none 0 0 ∧ W3.heap.size ≤ g6) ?_ (fun J7 => ?_)
      · rintro ⟨b19, a19, l19, c19, b21, a21, l21, c21, b24, a24, l24, c24, g6⟩ wj hI
        try dsimp only at hI ⊢
        obtain ⟨HW, h21, h24, B6, hg6⟩ := hI
        have hHeld : wj.cell? ⟨wo.heap.size, 0, none⟩ = some (.bool b3) ∧ wj.cell? ⟨wo.heap.size, 1, none⟩ = some (.slice a3 l3 c3) ∧ wj.cell? ⟨w.heap.size, 0, none⟩ = some (.bool b1) ∧ wj.cell? ⟨w.heap.size, 1, none⟩ = some (.slice a1 l1 c1) ∧ wj.cell? ⟨w.heap.size + 1, 0, none⟩ = some (.bool b2) ∧ wj.cell? ⟨w.heap.size + 1, 1, none⟩ = some (.slice a2 l2 c2) := by exact ⟨(D0.later HW).facts.1, (D0.later HW).facts.2.1, (C0.later HW).facts.1, (C0.later HW).facts.2.1, (C1.later HW).facts.1, (C1.later HW).facts.2.1⟩
        refine till_two (i := 8) (j := 13) (by kernel_rfl) rfl rfl (fun K hK => ?_) (fun K hK => ?_)
        · go_simp
          refine (rdivK b21 a21 l21 c21 (2 * x' + y') (max (2 + k) l + 1) b24 a24 l24 c24 (2 * y') (2 + l) _ (h21.ik (by omega)) (h24.ik (by omega)) (unhide H0) (by omega) (by omega)).mono ?_
          rintro e wk ⟨b26, a26, l26, c26, b27, a27, l27, c27, rfl, h26, h27, hb9⟩
          replace HW := Below.step HW hb9
          replace B6 := B6.later hb9
          clear hb9 h21 h24
          refine hK.out _ _ ?_ (fun hHeld => ?_)
          · exact ⟨(D0.later HW).facts.1, (D0.later HW).facts.2.1, (C0.later HW).facts.1, (C0.later HW).facts.2.1, (C1.later HW).facts.1, (C1.later HW).facts.2.1⟩
          clear hK K
          try simp only [List.setIfInBounds_toArray, List.set_cons_zero, List.set_cons_succ]
          refine till_free (i := 9) (v := ?_) rfl (by kernel_rfl) (by kernel_rfl) (by kernel_rfl) (by kernel_rfl) (fun _ _ _ h => h) (Or.inl ⟨by rfl, ?_⟩) (by assumption) ?_
          rotate_left
          · (intro wx hSw; (try dsimp only at hSw); go_simp; (try rw [if_neg (by omega)]); try with_reducible rfl)
          simp only [Act.put, List.getElem_toArray, List.getElem_cons_succ, List.getElem_cons_zero, List.setIfInBounds_toArray, List.set_cons_zero, List.set_cons_succ]
          refine till_free (i := 10) (v := ?_) rfl (by kernel_rfl) (by kernel_rfl) (by kernel_rfl) (by kernel_rfl) (fun _ _ _ h => h) (Or.inl ⟨by rfl, ?_⟩) (by assumption) ?_
          rotate_left
          · (intro wx hSw; (try dsimp only at hSw); go_simp; (try rw [if_neg (by omega)]); try with_reducible rfl)
          simp only [Act.put, List.getElem_toArray, List.getElem_cons_succ, List.getElem_cons_zero, List.setIfInBounds_toArray, List.set_cons_zero, List.set_cons_succ]
          refine till_free (i := 11) (v := ?_) rfl (by kernel_rfl) (by kernel_rfl) (by kernel_rfl) (by kernel_rfl) (fun _ _ _ h => h) (Or.inl ⟨by rfl, ?_⟩) (by assumption) ?_
          rotate_left
          · (intro wx hSw; (try dsimp only at hSw); go_simp; (try rw [if_neg (by omega)]); try with_reducible rfl)
          simp only [Act.put, List.getElem_toArray, List.getElem_cons_succ, List.getElem_cons_zero, List.setIfInBounds_toArray, List.set_cons_zero, List.set_cons_succ]
          exact till_go J2 (b19, a19, l19, c19, b21, a21, l21, c21, b24, a24, l24, c24, b26, a26, l26, c26, b27, a27, l27, c27, g6) rfl (by kernel_rfl) rfl (by (try dsimp only); exact ⟨HW, h26, h27, B6, hg6⟩)
        · go_simp
          have hwk : W3.heap.size ≤ wj.heap.size := HW.size
          have hxg6 := B6.lt
          obtain ⟨wk, hWe⟩ : ∃ W', W' = wj.alloc (.cells #[.bool false, .slice none 0 0] 24) := ⟨_, rfl⟩
          obtain ⟨B7, hb9⟩ := boxes1 wj false none 0 0 hWe
          rw [← hWe]
          clear hWe
          replace HW := Below.step HW hb9
          replace h21 := h21.later hb9
          replace h24 := h24.later hb9
          replace B6 := B6.later hb9
          clear hb9
          have hg7 := hwk
          have hne : g6 ≠ wj.heap.size := by omega
          refine hK.out _ _ ?_ (fun hHeld => ?_)
          · exact ⟨(D0.later HW).facts.1, (D0.later HW).facts.2.1, (C0.later HW).facts.1, (C0.later HW).facts.2.1, (C1.later HW).facts.1, (C1.later HW).facts.2.1⟩
          clear hK K
          try simp only [List.setIfInBounds_toArray, List.set_cons_zero, List.set_cons_succ]
          exact till_go J4 (b19, a19, l19, c19, b21, a21, l21, c21, b24, a24, l24, c24, g6, wj.heap.size) rfl (by kernel_rfl) rfl (by (try dsimp only); exact ⟨HW, h21, h24, B6, hg6, B7, hg7, hne⟩)
      refine till_mid 8 #[true, true, true, true, false, true, true, false, false, false, false, false, true, true, false, false] (ι := Bool × Option Addr × Nat × Nat × Nat × Nat) (fun (b19, a19, l19, c19, g6, g7) => { tmps := #[Value.agg #[Value.bool b, Value.slice aa la ca], Value.agg #[Value.bool b', Value.slice ab lb cb], Value.pointer (some { block := w.heap.size, off := 0 }), Value.pointer (some { block := w.heap.size + 1, off := 0 }), Value.pointer (some { block := w.heap.size + 1 + 1, off := 0 }), Value.pointer (some { block := wo.heap.size, off := 0 }), .pointer (some ⟨g6, 0, none⟩), .pointer (some ⟨g7, 0, none⟩), u8, u9, u10, u11, u12, u13, u14, Value.agg #[Value.bool b3, Value.slice a3 l3 c3], undef, .agg #[.bool b3, .slice a3 l3 c3], .agg #[.bool b1, .slice a1 l1 c1], .agg #[.bool b19, .slice a19 l19 c19], .agg #[.bool b2, .slice a2 l2 c2], undef, .agg #[.bool b3, .slice a3 l3 c3], .agg #[.bool b2, .slice a2 l2 c2], undef, undef, undef, undef, undef], defers := [] }) (fun (b19, a19, l19, c19, g6, g7) w => Below W3.heap.size W3 w ∧ FK w b19 a19 l19 c19 (2 * x') (2 + k) ∧ Box w g6 false none 0 0 ∧ W3.heap.size ≤ g6 ∧ Box w g7 false none 0 0 ∧ W3.heap.size ≤ g7 ∧ g6 ≠ g7) ?_ (fun J8 => ?_)
      · rintro ⟨b19, a19, l19, c19, g6, g7⟩ wj hI
        try dsimp only at hI ⊢
        obtain ⟨HW, h19, B6, hg6, B7, hg7, hne⟩ := hI
        have hHeld : wj.cell? ⟨wo.heap.size, 0, none⟩ = some (.bool b3) ∧ wj.cell? ⟨wo.heap.size, 1, none⟩ = some (.slice a3 l3 c3) ∧ wj.cell? ⟨w.heap.size, 0, none⟩ = some (.bool b1) ∧ wj.cell? ⟨w.heap.size, 1, none⟩ = some (.slice a1 l1 c1) ∧ wj.cell? ⟨w.heap.size + 1, 0, none⟩ = some (.bool b2) ∧ wj.cell? ⟨w.heap.size + 1, 1, none⟩ = some (.slice a2 l2 c2) := by exact ⟨(D0.later HW).facts.1, (D0.later HW).facts.2.1, (C0.later HW).facts.1, (C0.later HW).facts.2.1, (C1.later HW).facts.1, (C1.later HW).facts.2.1⟩
        refine till_in (i := 4) (by kernel_rfl) rfl (fun K hK => ?_)
        go_simp
        refine (raddK b19 a19 l19 c19 (2 * x') (2 + k) b2 a2 l2 c2 y' l _ (h19.ik (by omega)) (hy2.later HW)).mono ?_
        rintro e wk ⟨b21, a21, l21, c21, rfl, h21, hb9⟩
        replace HW := Below.step HW hb9
        replace B6 := B6.later hb9
        replace B7 := B7.later hb9
        clear hb9 h19
        refine hK.out _ _ ?_ (fun hHeld => ?_)
        · exact ⟨(D0.later HW).facts.1, (D0.later HW).facts.2.1, (C0.later HW).facts.1, (C0.later HW).facts.2.1, (C1.later HW).facts.1, (C1.later HW).facts.2.1⟩
        clear hK K
        try simp only [List.setIfInBounds_toArray, List.set_cons_zero, List.set_cons_succ]
        exact till_go J5 (b19, a19, l19, c19, b21, a21, l21, c21, g6, g7) rfl (by kernel_rfl) rfl (by (try dsimp only); exact ⟨HW, h21, B6, hg6, B7, hg7, hne⟩)
      refine till_mid 8 #[true, true, true, true, true, true, true, false, false, false, false, false, false, true, false, false] (ι := Bool × Option Addr × Nat × Nat × Bool × Option Addr × Nat × Nat × Nat) (fun (b19, a19, l19, c19, b21, a21, l21, c21, g7) => { tmps := #[Value.agg #[Value.bool b, Value.slice aa la ca], Value.agg #[Value.bool b', Value.slice ab lb cb], Value.pointer (some { block := w.heap.size, off := 0 }), Value.pointer (some { block := w.heap.size + 1, off := 0 }), Value.pointer (some { block := w.heap.size + 1 + 1, off := 0 }), Value.pointer (some { block := wo.heap.size, off := 0 }), undef, .pointer (some ⟨g7, 0, none⟩), u8, u9, u10, u11, u12, u13, u14, Value.agg #[Value.bool b3, Value.slice a3 l3 c3], undef, .agg #[.bool b3, .slice a3 l3 c3], .agg #[.bool b1, .slice a1 l1 c1], .agg #[.bool b19, .slice a19 l19 c19], .agg #[.bool b2, .slice a2 l2 c2], .agg #[.bool b21, .slice a21 l21 c21], .agg #[.bool b3, .slice a3 l3 c3], .agg #[.bool b2, .slice a2 l2 c2], undef, undef, undef, undef, undef], defers := [] }) (fun (b19, a19, l19, c19, b21, a21, l21, c21, g7) w => Below W3.heap.size W3 w ∧ FK w b21 a21 l21 c21 (2 * x' + y') (max (2 + k) l + 1) ∧ Box w g7 false none 0 0 ∧ W3.heap.size ≤ g7) ?_ (fun J9 => ?_)
      · rintro ⟨b19, a19, l19, c19, b21, a21, l21, c21, g7⟩ wj hI
        try dsimp only at hI ⊢
        obtain ⟨HW, h21, B7, hg7⟩ := hI
        have hHeld : wj.cell? ⟨wo.heap.size, 0, none⟩ = some (.bool b3) ∧ wj.cell? ⟨wo.heap.size, 1, none⟩ = some (.slice a3 l3 c3) ∧ wj.cell? ⟨w.heap.size, 0, none⟩ = some (.bool b1) ∧ wj.cell? ⟨w.heap.size, 1, none⟩ = some (.slice a1 l1 c1) ∧ wj.cell? ⟨w.heap.size + 1, 0, none⟩ = some (.bool b2) ∧ wj.cell? ⟨w.heap.size + 1, 1, none⟩ = some (.slice a2 l2 c2) := by exact ⟨(D0.later HW).facts.1, (D0.later HW).facts.2.1, (C0.later HW).facts.1, (C0.later HW).facts.2.1, (C1.later HW).facts.1, (C1.later HW).facts.2.1⟩
        refine till_two (i := 7) (j := 12) (by kernel_rfl) rfl rfl (fun K hK => ?_) (fun K hK => ?_)
        · go_simp
          refine (rmulK b3 a3 l3 c3 2 2 b2 a2 l2 c2 y' l _ ((h3.later HW).ik (by omega)) (hy2.later HW) LX2).mono ?_
          rintro e wk ⟨b24, a24, l24, c24, rfl, h24, hb9⟩
          replace HW := Below.step HW hb9
          replace h21 := h21.later hb9
          replace B7 := B7.later hb9
          clear hb9
          refine hK.out _ _ ?_ (fun hHeld => ?_)
          · exact ⟨(D0.later HW).facts.1, (D0.later HW).facts.2.1, (C0.later HW).facts.1, (C0.later HW).facts.2.1, (C1.later HW).facts.1, (C1.later HW).facts.2.1⟩
          clear hK K
          try simp only [List.setIfInBounds_toArray, List.set_cons_zero, List.set_cons_succ]
          exact till_go J6 (b19, a19, l19, c19, b21, a21, l21, c21, b24, a24, l24, c24, g7) rfl (by kernel_rfl) rfl (by (try dsimp only); exact ⟨HW, h21, h24, B7, hg7⟩)
        · go_simp
          have hwk : W3.heap.size ≤ wj.heap.size := HW.size
          have hxg7 := B7.lt
          obtain ⟨wk, hWe⟩ : ∃ W', W' = wj.alloc (.cells #[.bool false, .slice none 0 0] 24) := ⟨_, rfl⟩
          obtain ⟨B6, hb9⟩ := boxes1 wj false none 0 0 hWe
          rw [← hWe]
          clear hWe
          replace HW := Below.step HW hb9
          replace h21 := h21.later hb9
          replace B7 := B7.later hb9
          clear hb9
          have hg6 := hwk
          have hne : wj.heap.size ≠ g7 := by omega
          refine hK.out _ _ ?_ (fun hHeld => ?_)
          · exact ⟨(D0.later HW).facts.1, (D0.later HW).facts.2.1, (C0.later HW).facts.1, (C0.later HW).facts.2.1, (C1.later HW).facts.1, (C1.later HW).facts.2.1⟩
          clear hK K
          try simp only [List.setIfInBounds_toArray, List.set_cons_zero, List.set_cons_succ]
          exact till_go J5 (b19, a19, l19, c19, b21, a21, l21, c21, wj.heap.size, g7) rfl (by kernel_rfl) rfl (by (try dsimp only); exact ⟨HW, h21, B6, hg6, B7, hg7, hne⟩)
      refine till_mid 8 #[true, true, true, true, true, true, true, false, false, false, false, false, true, false, false, false] (ι := Bool × Option Addr × Nat × Nat × Bool × Option Addr × Nat × Nat × Nat) (fun (b19, a19, l19, c19, b21, a21, l21, c21, g6) => { tmps := #[Value.agg #[Value.bool b, Value.slice aa la ca], Value.agg #[Value.bool b', Value.slice ab lb cb], Value.pointer (some { block := w.heap.size, off := 0 }), Value.pointer (some { block := w.heap.size + 1, off := 0 }), Value.pointer (some { block := w.heap.size + 1 + 1, off := 0 }), Value.pointer (some { block := wo.heap.size, off := 0 }), .pointer (some ⟨g6, 0, none⟩), undef, u8, u9, u10, u11, u12, u13, u14, Value.agg #[Value.bool b3, Value.slice a3 l3 c3], undef, .agg #[.bool b3, .slice a3 l3 c3], .agg #[.bool b1, .slice a1 l1 c1], .agg #[.bool b19, .slice a19 l19 c19], .agg #[.bool b2, .slice a2 l2 c2], .agg #[.bool b21, .slice a21 l21 c21], .agg #[.bool b3, .slice a3 l3 c3], .agg #[.bool b2, .slice a2 l2 c2], undef, undef, undef, undef, undef], defers := [] }) (fun (b19, a19, l19, c19, b21, a21, l21, c21, g6) w => Below W3.heap.size W3 w ∧ FK w b21 a21 l21 c21 (2 * x' + y') (max (2 + k) l + 1) ∧ Box w g6 false none 0 0 ∧ W3.heap.size ≤ g6) ?_ (fun J10 => ?_)
      · rintro ⟨b19, a19, l19, c19, b21, a21, l21, c21, g6⟩ wj hI
        try dsimp only at hI ⊢
        obtain ⟨HW, h21, B6, hg6⟩ := hI
        have hHeld : wj.cell? ⟨wo.heap.size, 0, none⟩ = some (.bool b3) ∧ wj.cell? ⟨wo.heap.size, 1, none⟩ = some (.slice a3 l3 c3) ∧ wj.cell? ⟨w.heap.size, 0, none⟩ = some (.bool b1) ∧ wj.cell? ⟨w.heap.size, 1, none⟩ = some (.slice a1 l1 c1) ∧ wj.cell? ⟨w.heap.size + 1, 0, none⟩ = some (.bool b2) ∧ wj.cell? ⟨w.heap.size + 1, 1, none⟩ = some (.slice a2 l2 c2) := by exact ⟨(D0.later HW).facts.1, (D0.later HW).facts.2.1, (C0.later HW).facts.1, (C0.later HW).facts.2.1, (C1.later HW).facts.1, (C1.later HW).facts.2.1⟩
        refine till_two (i := 7) (j := 13) (by kernel_rfl) rfl rfl (fun K hK => ?_) (fun K hK => ?_)
        · go_simp
          refine (rmulK b3 a3 l3 c3 2 2 b2 a2 l2 c2 y' l _ ((h3.later HW).ik (by omega)) (hy2.later HW) LX2).mono ?_
          rintro e wk ⟨b24, a24, l24, c24, rfl, h24, hb9⟩
          replace HW := Below.step HW hb9
          replace h21 := h21.later hb9
          replace B6 := B6.later hb9
          clear hb9
          refine hK.out _ _ ?_ (fun hHeld => ?_)
          · exact ⟨(D0.later HW).facts.1, (D0.later HW).facts.2.1, (C0.later HW).facts.1, (C0.later HW).facts.2.1, (C1.later HW).facts.1, (C1.later HW).facts.2.1⟩
          clear hK K
          try simp only [List.setIfInBounds_toArray, List.set_cons_zero, List.set_cons_succ]
          exact till_go J7 (b19, a19, l19, c19, b21, a21, l21, c21, b24, a24, l24, c24, g6) rfl (by kernel_rfl) rfl (by (try dsimp only); exact ⟨HW, h21, h24, B6, hg6⟩)
        · go_simp
          have hwk : W3.heap.size ≤ wj.heap.size := HW.size
          have hxg6 := B6.lt
          obtain ⟨wk, hWe⟩ : ∃ W', W' = wj.alloc (.cells #[.bool false, .slice none 0 0] 24) := ⟨_, rfl⟩
          obtain ⟨B7, hb9⟩ := boxes1 wj false none 0 0 hWe
          rw [← hWe]
          clear hWe
          replace HW := Below.step HW hb9
          replace h21 := h21.later hb9
          replace B6 := B6.later hb9
          clear hb9
          have hg7 := hwk
          have hne : g6 ≠ wj.heap.size := by omega
          refine hK.out _ _ ?_ (fun hHeld => ?_)
          · exact ⟨(D0.later HW).facts.1, (D0.later HW).facts.2.1, (C0.later HW).facts.1, (C0.later HW).facts.2.1, (C1.later HW).facts.1, (C1.later HW).facts.2.1⟩
          clear hK K
          try simp only [List.setIfInBounds_toArray, List.set_cons_zero, List.set_cons_succ]
          exact till_go J5 (b19, a19, l19, c19, b21, a21, l21, c21, g6, wj.heap.size) rfl (by kernel_rfl) rfl (by (try dsimp only); exact ⟨HW, h21, B6, hg6, B7, hg7, hne⟩)
      refine till_mid 8 #[true, true, true, true, true, true, true, true, false, false, false, false, false, false, false, false] (ι := Bool × Option Addr × Nat × Nat × Bool × Option Addr × Nat × Nat × Bool × Option Addr × Nat × Nat) (fun (b19, a19, l19, c19, b21, a21, l21, c21, b24, a24, l24, c24) => { tmps := #[Value.agg #[Value.bool b, Value.slice aa la ca], Value.agg #[Value.bool b', Value.slice ab lb cb], Value.pointer (some { block := w.heap.size, off := 0 }), Value.pointer (some { block := w.heap.size + 1, off := 0 }), Value.pointer (some { block := w.heap.size + 1 + 1, off := 0 }), Value.pointer (some { block := wo.heap.size, off := 0 }), undef, undef, u8, u9, u10, u11, u12, u13, u14, Value.agg #[Value.bool b3, Value.slice a3 l3 c3], undef, .agg #[.bool b3, .slice a3 l3 c3], .agg #[.bool b1, .slice a1 l1 c1], .agg #[.bool b19, .slice a19 l19 c19], .agg #[.bool b2, .slice a2 l2 c2], .agg #[.bool b21, .slice a21 l21 c21], .agg #[.bool b3, .slice a3 l3 c3], .agg #[.bool b2, .slice a2 l2 c2], .agg #[.bool b24, .slice a24 l24 c24], undef, undef, undef, undef], defers := [] }) (fun (b19, a19, l19, c19, b21, a21, l21, c21, b24, a24, l24, c24) w => Below W3.heap.size W3 w ∧ FK w b21 a21 l21 c21 (2 * x' + y') (max (2 + k) l + 1) ∧ FK w b24 a24 l24 c24 (2 * y') (2 + l)) ?_ (fun J11 => ?_)
      · rintro ⟨b19, a19, l19, c19, b21, a21, l21, c21, b24, a24, l24, c24⟩ wj hI
        try dsimp only at hI ⊢
        obtain ⟨HW, h21, h24⟩ := hI
        have hHeld : wj.cell? ⟨wo.heap.size, 0, none⟩ = some (.bool b3) ∧ wj.cell? ⟨wo.heap.size, 1, none⟩ = some (.slice a3 l3 c3) ∧ wj.cell? ⟨w.heap.size, 0, none⟩ = some (.bool b1) ∧ wj.cell? ⟨w.heap.size, 1, none⟩ = some (.slice a1 l1 c1) ∧ wj.cell? ⟨w.heap.size + 1, 0, none⟩ = some (.bool b2) ∧ wj.cell? ⟨w.heap.size + 1, 1, none⟩ = some (.slice a2 l2 c2) := by exact ⟨(D0.later HW).facts.1, (D0.later HW).facts.2.1, (C0.later HW).facts.1, (C0.later HW).facts.2.1, (C1.later HW).facts.1, (C1.later HW).facts.2.1⟩
        refine till_three (i := 8) (j := 12) (k := 13) (by kernel_rfl) rfl rfl rfl (fun K hK => ?_) (fun K hK => ?_) (fun K hK => ?_)
        · go_simp
          refine (rdivK b21 a21 l21 c21 (2 * x' + y') (max (2 + k) l + 1) b24 a24 l24 c24 (2 * y') (2 + l) _ (h21.ik (by omega)) (h24.ik (by omega)) (unhide H0) (by omega) (by omega)).mono ?_
          rintro e wk ⟨b26, a26, l26, c26, b27, a27, l27, c27, rfl, h26, h27, hb9⟩
          replace HW := Below.step HW hb9
          clear hb9 h21 h24
          refine hK.out _ _ ?_ (fun hHeld => ?_)
          · exact ⟨(D0.later HW).facts.1, (D0.later HW).facts.2.1, (C0.later HW).facts.1, (C0.later HW).facts.2.1, (C1.later HW).facts.1, (C1.later HW).facts.2.1⟩
          clear hK K
          try simp only [List.setIfInBounds_toArray, List.set_cons_zero, List.set_cons_succ]
          refine till_free (i := 9) (v := ?_) rfl (by kernel_rfl) (by kernel_rfl) (by kernel_rfl) (by kernel_rfl) (fun _ _ _ h => h) (Or.inl ⟨by rfl, ?_⟩) (by assumption) ?_
          rotate_left
          · (intro wx hSw; (try dsimp only at hSw); go_simp; (try rw [if_neg (by omega)]); try with_reducible rfl)
          simp only [Act.put, List.getElem_toArray, List.getElem_cons_succ, List.getElem_cons_zero, List.setIfInBounds_toArray, List.set_cons_zero, List.set_cons_succ]
          refine till_free (i := 10) (v := ?_) rfl (by kernel_rfl) (by kernel_rfl) (by kernel_rfl) (by kernel_rfl) (fun _ _ _ h => h) (Or.inl ⟨by rfl, ?_⟩) (by assumption) ?_
          rotate_left
          · (intro wx hSw; (try dsimp only at hSw); go_simp; (try rw [if_neg (by omega)]); try with_reducible rfl)
          simp only [Act.put, List.getElem_toArray, List.getElem_cons_succ, List.getElem_cons_zero, List.setIfInBounds_toArray, List.set_cons_zero, List.set_cons_succ]
          refine till_free (i := 11) (v := ?_) rfl (by kernel_rfl) (by kernel_rfl) (by kernel_rfl) (by kernel_rfl) (fun _ _ _ h => h) (Or.inl ⟨by rfl, ?_⟩) (by assumption) ?_
          rotate_left
          · (intro wx hSw; (try dsimp only at hSw); go_simp; (try rw [if_neg (by omega)]); try with_reducible rfl)
          simp only [Act.put, List.getElem_toArray, List.getElem_cons_succ, List.getElem_cons_zero, List.setIfInBounds_toArray, List.set_cons_zero, List.set_cons_succ]
          exact till_go J3 (b19, a19, l19, c19, b21, a21, l21, c21, b24, a24, l24, c24, b26, a26, l26, c26, b27, a27, l27, c27) rfl (by kernel_rfl) rfl (by (try dsimp only); exact ⟨HW, h26, h27⟩)
        · go_simp
          have hwk : W3.heap.size ≤ wj.heap.size := HW.size
          obtain ⟨wk, hWe⟩ : ∃ W', W' = wj.alloc (.cells #[.bool false, .slice none 0 0] 24) := ⟨_, rfl⟩
          obtain ⟨B6, hb9⟩ := boxes1 wj false none 0 0 hWe
          rw [← hWe]
          clear hWe
          replace HW := Below.step HW hb9
          replace h21 := h21.later hb9
          replace h24 := h24.later hb9
          clear hb9
          have hg6 := hwk
          refine hK.out _ _ ?_ (fun hHeld => ?_)
          · exact ⟨(D0.later HW).facts.1, (D0.later HW).facts.2.1, (C0.later HW).facts.1, (C0.later HW).facts.2.1, (C1.later HW).facts.1, (C1.later HW).facts.2.1⟩
          clear hK K
          try simp only [List.setIfInBounds_toArray, List.set_cons_zero, List.set_cons_succ]
          exact till_go J7 (b19, a19, l19, c19, b21, a21, l21, c21, b24, a24, l24, c24, wj.heap.size) rfl (by kernel_rfl) rfl (by (try dsimp only); exact ⟨HW, h21, h24, B6, hg6⟩)
        · go_simp
          have hwk : W3.heap.size ≤ wj.heap.size := HW.size
          obtain ⟨wk, hWe⟩ : ∃ W', W' = wj.alloc (.cells #[.bool false, .slice none 0 0] 24) := ⟨_, rfl⟩
          obtain ⟨B7, hb9⟩ := boxes1 wj false none 0 0 hWe
          rw [← hWe]
          clear hWe
          replace HW := Below.step HW hb9
          replace h21 := h21.later hb9
          replace h24 := h24.later hb9
          clear hb9
          have hg7 := hwk
          refine hK.out _ _ ?_ (fun hHeld => ?_)
          · exact ⟨(D0.later HW).facts.1, (D0.later HW).facts.2.1, (C0.later HW).facts.1, (C0.later HW).facts.2.1, (C1.later HW).facts.1, (C1.later HW).facts.2.1⟩
          clear hK K
          try simp only [List.setIfInBounds_toArray, List.set_cons_zero, List.set_cons_succ]
          exact till_go J6 (b19, a19, l19, c19, b21, a21, l21, c21, b24, a24, l24, c24, wj.heap.size) rfl (by kernel_rfl) rfl (by (try dsimp only); exact ⟨HW, h21, h24, B7, hg7⟩)
      refine till_mid 9 #[true, true, false, true, false, true, true, false, false, false, false, false, true, true, false, false] (ι := Nat × Nat) (fun (g6, g7) => { tmps := #[Value.agg #[Value.bool b, Value.slice aa la ca], Value.agg #[Value.bool b', Value.slice ab lb cb], Value.pointer (some { block := w.heap.size, off := 0 }), Value.pointer (some { block := w.heap.size + 1, off := 0 }), Value.pointer (some { block := w.heap.size + 1 + 1, off := 0 }), Value.pointer (some { block := wo.heap.size, off := 0 }), .pointer (some ⟨g6, 0, none⟩), .pointer (some ⟨g7, 0, none⟩), u8, u9, u10, u11, u12, u13, u14, Value.agg #[Value.bool b3, Value.slice a3 l3 c3], undef, .agg #[.bool b3, .slice a3 l3 c3], .agg #[.bool b1, .slice a1 l1 c1], undef, .agg #[.bool b2, .slice a2 l2 c2], undef, .agg #[.bool b3, .slice a3 l3 c3], .agg #[.bool b2, .slice a2 l2 c2], undef, undef, undef, undef, undef], defers := [] }) (fun (g6, g7) w => Below W3.heap.size W3 w ∧ Box w g6 false none 0 0 ∧ W3.heap.size ≤ g6 ∧ Box w g7 false none 0 0 ∧ W3.heap.size ≤ g7 ∧ g6 ≠ g7) ?_ (fun J12 => ?_)
      · rintro ⟨g6, g7⟩ wj hI
        try dsimp only at hI ⊢
        obtain ⟨HW, B6, hg6, B7, hg7, hne⟩ := hI
        have hHeld : wj.cell? ⟨wo.heap.size, 0, none⟩ = some (.bool b3) ∧ wj.cell? ⟨wo.heap.size, 1, none⟩ = some (.slice a3 l3 c3) ∧ wj.cell? ⟨w.heap.size, 0, none⟩ = some (.bool b1) ∧ wj.cell? ⟨w.heap.size, 1, none⟩ = some (.slice a1 l1 c1) ∧ wj.cell? ⟨w.heap.size + 1, 0, none⟩ = some (.bool b2) ∧ wj.cell? ⟨w.heap.size + 1, 1, none⟩ = some (.slice a2 l2 c2) := by exact ⟨(D0.later HW).facts.1, (D0.later HW).facts.2.1, (C0.later HW).facts.1, (C0.later HW).facts.2.1, (C1.later HW).facts.1, (C1.later HW).facts.2.1⟩
        refine till_in (i := 2) (by kernel_rfl) rfl (fun K hK => ?_)
        go_simp
        refine (rmulK b3 a3 l3 c3 2 2 b1 a1 l1 c1 x' k _ ((h3.later HW).ik (by omega)) (hx2.later HW) LX1).mono ?_
        rintro e wk ⟨b19, a19, l19, c19, rfl, h19, hb9⟩
        replace HW := Below.step HW hb9
        replace B6 := B6.later hb9
        replace B7 := B7.later hb9
        clear hb9
        refine hK.out _ _ ?_ (fun hHeld => ?_)
        · exact ⟨(D0.later HW).facts.1, (D0.later HW).facts.2.1, (C0.later HW).facts.1, (C0.later HW).facts.2.1, (C1.later HW).facts.1, (C1.later HW).facts.2.1⟩
        clear hK K
        try simp only [List.setIfInBounds_toArray, List.set_cons_zero, List.set_cons_succ]
        exact till_go J8 (b19, a19, l19, c19, g6, g7) rfl (by kernel_rfl) rfl (by (try dsimp only); exact ⟨HW, h19, B6, hg6, B7, hg7, hne⟩)
      refine till_mid 9 #[true, true, true, true, false, true, true, false, false, false, false, false, false, true, false, false] (ι := Bool × Option Addr × Nat × Nat × Nat) (fun (b19, a19, l19, c19, g7) => { tmps := #[Value.agg #[Value.bool b, Value.slice aa la ca], Value.agg #[Value.bool b', Value.slice ab lb cb], Value.pointer (some { block := w.heap.size, off := 0 }), Value.pointer (some { block := w.heap.size + 1, off := 0 }), Value.pointer (some { block := w.heap.size + 1 + 1, off := 0 }), Value.pointer (some { block := wo.heap.size, off := 0 }), undef, .pointer (some ⟨g7, 0, none⟩), u8, u9, u10, u11, u12, u13, u14, Value.agg #[Value.bool b3, Value.slice a3 l3 c3], undef, .agg #[.bool b3, .slice a3 l3 c3], .agg #[.bool b1, .slice a1 l1 c1], .agg #[.bool b19, .slice a19 l19 c19], .agg #[.bool b2, .slice a2 l2 c2], undef, .agg #[.bool b3, .slice a3 l3 c3], .agg #[.bool b2, .slice a2 l2 c2], undef, undef, undef, undef, undef], defers := [] }) (fun (b19, a19, l19, c19, g7) w => Below W3.heap.size W3 w ∧ FK w b19 a19 l19 c19 (2 * x') (2 + k) ∧ Box w g7 false none 0 0 ∧ W3.heap.size ≤ g7) ?_ (fun J13 => ?_)
      · rintro ⟨b19, a19, l19, c19, g7⟩ wj hI
        try dsimp only at hI ⊢
        obtain ⟨HW, h19, B7, hg7⟩ := hI
        have hHeld : wj.cell? ⟨wo.heap.size, 0, none⟩ = some (.bool b3) ∧ wj.cell? ⟨wo.heap.size, 1, none⟩ = some (.slice a3 l3 c3) ∧ wj.cell? ⟨w.heap.size, 0, none⟩ = some (.bool b1) ∧ wj.cell? ⟨w.heap.size, 1, none⟩ = some (.slice a1 l1 c1) ∧ wj.cell? ⟨w.heap.size + 1, 0, none⟩ = some (.bool b2) ∧ wj.cell? ⟨w.heap.size + 1, 1, none⟩ = some (.slice a2 l2 c2) := by exact ⟨(D0.later HW).facts.1, (D0.later HW).facts.2.1, (C0.later HW).facts.1, (C0.later HW).facts.2.1, (C1.later HW).facts.1, (C1.later HW).facts.2.1⟩
        refine till_two (i := 4) (j := 12) (by kernel_rfl) rfl rfl (fun K hK => ?_) (fun K hK => ?_)
        · go_simp
          refine (raddK b19 a19 l19 c19 (2 * x') (2 + k) b2 a2 l2 c2 y' l _ (h19.ik (by omega)) (hy2.later HW)).mono ?_
          rintro e wk ⟨b21, a21, l21, c21, rfl, h21, hb9⟩
          replace HW := Below.step HW hb9
          replace B7 := B7.later hb9
          clear hb9 h19
          refine hK.out _ _ ?_ (fun hHeld => ?_)
          · exact ⟨(D0.later HW).facts.1, (D0.later HW).facts.2.1, (C0.later HW).facts.1, (C0.later HW).facts.2.1, (C1.later HW).facts.1, (C1.later HW).facts.2.1⟩
          clear hK K
          try simp only [List.setIfInBounds_toArray, List.set_cons_zero, List.set_cons_succ]
          exact till_go J9 (b19, a19, l19, c19, b21, a21, l21, c21, g7) rfl (by kernel_rfl) rfl (by (try dsimp only); exact ⟨HW, h21, B7, hg7⟩)
        · go_simp
          have hwk : W3.heap.size ≤ wj.heap.size := HW.size
          have hxg7 := B7.lt
          obtain ⟨wk, hWe⟩ : ∃ W', W' = wj.alloc (.cells #[.bool false, .slice none 0 0] 24) := ⟨_, rfl⟩
          obtain ⟨B6, hb9⟩ := boxes1 wj false none 0 0 hWe
          rw [← hWe]
          clear hWe
          replace HW := Below.step HW hb9
          replace h19 := h19.later hb9
          replace B7 := B7.later hb9
          clear hb9
          have hg6 := hwk
          have hne : wj.heap.size ≠ g7 := by omega
          refine hK.out _ _ ?_ (fun hHeld => ?_)
          · exact ⟨(D0.later HW).facts.1, (D0.later HW).facts.2.1, (C0.later HW).facts.1, (C0.later HW).facts.2.1, (C1.later HW).facts.1, (C1.later HW).facts.2.1⟩
          clear hK K
          try simp only [List.setIfInBounds_toArray, List.set_cons_zero, List.set_cons_succ]
          exact till_go J8 (b19, a19, l19, c19, wj.heap.size, g7) rfl (by kernel_rfl) rfl (by (try dsimp only); exact ⟨HW, h19, B6, hg6, B7, hg7, hne⟩)
      refine till_mid 9 #[true, true, true, true, false, true, true, false, false, false, false, false, true, false, false, false] (ι := Bool × Option Addr × Nat × Nat × Nat) (fun (b19, a19, l19, c19, g6) => { tmps := #[Value.agg #[Value.bool b, Value.slice aa la ca], Value.agg #[Value.bool b', Value.slice ab lb cb], Value.pointer (some { block := w.heap.size, off := 0 }), Value.pointer (some { block := w.heap.size + 1, off := 0 }), Value.pointer (some { block := w.heap.size + 1 + 1, off := 0 }), Value.pointer (some { block := wo.heap.size, off := 0 }), .pointer (some ⟨g6, 0, none⟩), undef, u8, u9, u10, u11, u12, u13, u14, Value.agg #[Value.bool b3, Value.slice a3 l3 c3], undef, .agg #[.bool b3, .slice a3 l3 c3], .agg #[.bool b1, .slice a1 l1 c1], .agg #[.bool b19, .slice a19 l19 c19], .agg #[.bool b2, .slice a2 l2 c2], undef, .agg #[.bool b3, .slice a3 l3 c3], .agg #[.bool b2, .slice a2 l2 c2], undef, undef, undef, undef, undef], defers := [] }) (fun (b19, a19, l19, c19, g6) w => Below W3.heap.size W3 w ∧ FK w b19 a19 l19 c19 (2 * x') (2 + k) ∧ Box w g6 false none 0 0 ∧ W3.heap.size ≤ g6) ?_ (fun J14 => ?_)
      · rintro ⟨b19, a19, l19, c19, g6⟩ wj hI
        try dsimp only at hI ⊢
        obtain ⟨HW, h19, B6, hg6⟩ := hI
        have hHeld : wj.cell? ⟨wo.heap.size, 0, none⟩ = some (.bool b3) ∧ wj.cell? ⟨wo.heap.size, 1, none⟩ = some (.slice a3 l3 c3) ∧ wj.cell? ⟨w.heap.size, 0, none⟩ = some (.bool b1) ∧ wj.cell? ⟨w.heap.size, 1, none⟩ = some (.slice a1 l1 c1) ∧ wj.cell? ⟨w.heap.size + 1, 0, none⟩ = some (.bool b2) ∧ wj.cell? ⟨w.heap.size + 1, 1, none⟩ = some (.slice a2 l2 c2) := by exact ⟨(D0.later HW).facts.1, (D0.later HW).facts.2.1, (C0.later HW).facts.1, (C0.later HW).facts.2.1, (C1.later HW).facts.1, (C1.later HW).facts.2.1⟩
        refine till_two (i := 4) (j := 13) (by kernel_rfl) rfl rfl (fun K hK => ?_) (fun K hK => ?_)
        · go_simp
          refine (raddK b19 a19 l19 c19 (2 * x') (2 + k) b2 a2 l2 c2 y' l _ (h19.ik (by omega)) (hy2.later HW)).mono ?_
          rintro e wk ⟨b21, a21, l21, c21, rfl, h21, hb9⟩
          replace HW := Below.step HW hb9
          replace B6 := B6.later hb9
          clear hb9 h19
          refine hK.out _ _ ?_ (fun hHeld => ?_)
          · exact ⟨(D0.later HW).facts.1, (D0.later HW).facts.2.1, (C0.later HW).facts.1, (C0.later HW).facts.2.1, (C1.later HW).facts.1, (C1.later HW).facts.2.1⟩
          clear hK K
          try simp only [List.setIfInBounds_toArray, List.set_cons_zero, List.set_cons_succ]
          exact till_go J10 (b19, a19, l19, c19, b21, a21, l21, c21, g6) rfl (by kernel_rfl) rfl (by (try dsimp only); exact ⟨HW, h21, B6, hg6⟩)
        · go_simp
          have hwk : W3.heap.size ≤ wj.heap.size := HW.size
          have hxg6 := B6.lt
          obtain ⟨wk, hWe⟩ : ∃ W', W' = wj.alloc (.cells #[.bool false, .slice none 0 0] 24) := ⟨_, rfl⟩
          obtain ⟨B7, hb9⟩ := boxes1 wj false none 0 0 hWe
          rw [← hWe]
          clear hWe
          replace HW := Below.step HW hb9
          replace h19 := h19.later hb9
          replace B6 := B6.later hb9
          clear hb9
          have hg7 := hwk
          have hne : g6 ≠ wj.heap.size := by omega
          refine hK.out _ _ ?_ (fun hHeld => ?_)
          · exact ⟨(D0.later HW).facts.1, (D0.later HW).facts.2.1, (C0.later HW).facts.1, (C0.later HW).facts.2.1, (C1.later HW).facts.1, (C1.later HW).facts.2.1⟩
          clear hK K
          try simp only [List.setIfInBounds_toArray, List.set_cons_zero, List.set_cons_succ]
          exact till_go J8 (b19, a19, l19, c19, g6, wj.heap.size) rfl (by kernel_rfl) rfl (by (try dsimp only); exact ⟨HW, h19, B6, hg6, B7, hg7, hne⟩)
      refine till_mid 9 #[true, true, true, true, true, true, true, false, false, false, false, false, false, false, false, false] (ι := Bool × Option Addr × Nat × Nat × Bool × Option Addr × Nat × Nat) (fun (b19, a19, l19, c19, b21, a21, l21, c21) => { tmps := #[Value.agg #[Value.bool b, Value.slice aa la ca], Value.agg #[Value.bool b', Value.slice ab lb cb], Value.pointer (some { block := w.heap.size, off := 0 }), Value.pointer (some { block := w.heap.size + 1, off := 0 }), Value.pointer (some { block := w.heap.size + 1 + 1, off := 0 }), Value.pointer (some { block := wo.heap.size, off := 0 }), undef, undef, u8, u9, u10, u11, u12, u13, u14, Value.agg #[Value.bool b3, Value.slice a3 l3 c3], undef, .agg #[.bool b3, .slice a3 l3 c3], .agg #[.bool b1, .slice a1 l1 c1], .agg #[.bool b19, .slice a19 l19 c19], .agg #[.bool b2, .slice a2 l2 c2], .agg #[.bool b21, .slice a21 l21 c21], .agg #[.bool b3, .slice a3 l3 c3], .agg #[.bool b2, .slice a2 l2 c2], undef, undef, undef, undef, undef], defers := [] }) (fun (b19, a19, l19, c19, b21, a21, l21, c21) w => Below W3.heap.size W3 w ∧ FK w b21 a21 l21 c21 (2 * x' + y') (max (2 + k) l + 1)) ?_ (fun J15 => ?_)
      · rintro ⟨b19, a19, l19, c19, b21, a21, l21, c21⟩ wj hI
        try dsimp only at hI ⊢
        obtain ⟨HW, h21⟩ := hI
        have hHeld : wj.cell? ⟨wo.heap.size, 0, none⟩ = some (.bool b3) ∧ wj.cell? ⟨wo.heap.size, 1, none⟩ = some (.slice a3 l3 c3) ∧ wj.cell? ⟨w.heap.size, 0, none⟩ = some (.bool b1) ∧ wj.cell? ⟨w.heap.size, 1, none⟩ = some (.slice a1 l1 c1) ∧ wj.cell? ⟨w.heap.size + 1, 0, none⟩ = some (.bool b2) ∧ wj.cell? ⟨w.heap.size + 1, 1, none⟩ = some (.slice a2 l2 c2) := by exact ⟨(D0.later HW).facts.1, (D0.later HW).facts.2.1, (C0.later HW).facts.1, (C0.later HW).facts.2.1, (C1.later HW).facts.1, (C1.later HW).facts.2.1⟩
        refine till_three (i := 7) (j := 12) (k := 13) (by kernel_rfl) rfl rfl rfl (fun K hK => ?_) (fun K hK => ?_) (fun K hK => ?_)
        · go_simp
          refine (rmulK b3 a3 l3 c3 2 2 b2 a2 l2 c2 y' l _ ((h3.later HW).ik (by omega)) (hy2.later HW) LX2).mono ?_
          rintro e wk ⟨b24, a24, l24, c24, rfl, h24, hb9⟩
          replace HW := Below.step HW hb9
          replace h21 := h21.later hb9
          clear hb9
          refine hK.out _ _ ?_ (fun hHeld => ?_)
          · exact ⟨(D0.later HW).facts.1, (D0.later HW).facts.2.1, (C0.later HW).facts.1, (C0.later HW).facts.2.1, (C1.later HW).facts.1, (C1.later HW).facts.2.1⟩
          clear hK K
          try simp only [List.setIfInBounds_toArray, List.set_cons_zero, List.set_cons_succ]
          exact till_go J11 (b19, a19, l19, c19, b21, a21, l21, c21, b24, a24, l24, c24) rfl (by kernel_rfl) rfl (by (try dsimp only); exact ⟨HW, h21, h24⟩)
        · go_simp
          have hwk : W3.heap.size ≤ wj.heap.size := HW.size
          obtain ⟨wk, hWe⟩ : ∃ W', W' = wj.alloc (.cells #[.bool false, .slice none 0 0] 24) := ⟨_, rfl⟩
          obtain ⟨B6, hb9⟩ := boxes1 wj false none 0 0 hWe
          rw [← hWe]
          clear hWe
          replace HW := Below.step HW hb9
          replace h21 := h21.later hb9
          clear hb9
          have hg6 := hwk
          refine hK.out _ _ ?_ (fun hHeld => ?_)
          · exact ⟨(D0.later HW).facts.1, (D0.later HW).facts.2.1, (C0.later HW).facts.1, (C0.later HW).facts.2.1, (C1.later HW).facts.1, (C1.later HW).facts.2.1⟩
          clear hK K
          try simp only [List.setIfInBounds_toArray, List.set_cons_zero, List.set_cons_succ]
          exact till_go J10 (b19, a19, l19, c19, b21, a21, l21, c21, wj.heap.size) rfl (by kernel_rfl) rfl (by (try dsimp only); exact ⟨HW, h21, B6, hg6⟩)
        · go_simp
          have hwk : W3.heap.size ≤ wj.heap.size := HW.size
          obtain ⟨wk, hWe⟩ : ∃ W', W' = wj.alloc (.cells #[.bool false, .slice none 0 0] 24) := ⟨_, rfl⟩
          obtain ⟨B7, hb9⟩ := boxes1 wj false none 0 0 hWe
          rw [← hWe]
          clear hWe
          replace HW := Below.step HW hb9
          replace h21 := h21.later hb9
          clear hb9
          have hg7 := hwk
          refine hK.out _ _ ?_ (fun hHeld => ?_)
          · exact ⟨(D0.later HW).facts.1, (D0.later HW).facts.2.1, (C0.later HW).facts.1, (C0.later HW).facts.2.1, (C1.later HW).facts.1, (C1.later HW).facts.2.1⟩
          clear hK K
          try simp only [List.setIfInBounds_toArray, List.set_cons_zero, List.set_cons_succ]
          exact till_go J9 (b19, a19, l19, c19, b21, a21, l21, c21, wj.heap.size) rfl (by kernel_rfl) rfl (by (try dsimp only); exact ⟨HW, h21, B7, hg7⟩)
      refine till_mid 10 #[true, true, false, true, false, true, true, false, false, false, false, false, false, true, false, false] (ι := Nat) (fun (g7) => { tmps := #[Value.agg #[Value.bool b, Value.slice aa la ca], Value.agg #[Value.bool b', Value.slice ab lb cb], Value.pointer (some { block := w.heap.size, off := 0 }), Value.pointer (some { block := w.heap.size + 1, off := 0 }), Value.pointer (some { block := w.heap.size + 1 + 1, off := 0 }), Value.pointer (some { block := wo.heap.size, off := 0 }), undef, .pointer (some ⟨g7, 0, none⟩), u8, u9, u10, u11, u12, u13, u14, Value.agg #[Value.bool b3, Value.slice a3 l3 c3], undef, .agg #[.bool b3, .slice a3 l3 c3], .agg #[.bool b1, .slice a1 l1 c1], undef, .agg #[.bool b2, .slice a2 l2 c2], undef, .agg #[.bool b3, .slice a3 l3 c3], .agg #[.bool b2, .slice a2 l2 c2], undef, undef, undef, undef, undef], defers := [] }) (fun (g7) w => Below W3.heap.size W3 w ∧ Box w g7 false none 0 0 ∧ W3.heap.size ≤ g7) ?_ (fun J16 => ?_)
      · rintro g7 wj hI
        try dsimp only at hI ⊢
        obtain ⟨HW, B7, hg7⟩ := hI
        have hHeld : wj.cell? ⟨wo.heap.size, 0, none⟩ = some (.bool b3) ∧ wj.cell? ⟨wo.heap.size, 1, none⟩ = some (.slice a3 l3 c3) ∧ wj.cell? ⟨w.heap.size, 0, none⟩ = some (.bool b1) ∧ wj.cell? ⟨w.heap.size, 1, none⟩ = some (.slice a1 l1 c1) ∧ wj.cell? ⟨w.heap.size + 1, 0, none⟩ = some (.bool b2) ∧ wj.cell? ⟨w.heap.size + 1, 1, none⟩ = some (.slice a2 l2 c2) := by exact ⟨(D0.later HW).facts.1, (D0.later HW).facts.2.1, (C0.later HW).facts.1, (C0.later HW).facts.2.1, (C1.later HW).facts.1, (C1.later HW).facts.2.1⟩
        refine till_two (i := 2) (j := 12) (by kernel_rfl) rfl rfl (fun K hK => ?_) (fun K hK => ?_)
        · go_simp
          refine (rmulK b3 a3 l3 c3 2 2 b1 a1 l1 c1 x' k _ ((h3.later HW).ik (by omega)) (hx2.later HW) LX1).mono ?_
          rintro e wk ⟨b19, a19, l19, c19, rfl, h19, hb9⟩
          replace HW := Below.step HW hb9
          replace B7 := B7.later hb9
          clear hb9
          refine hK.out _ _ ?_ (fun hHeld => ?_)
          · exact ⟨(D0.later HW).facts.1, (D0.later HW).facts.2.1, (C0.later HW).facts.1, (C0.later HW).facts.2.1, (C1.later HW).facts.1, (C1.later HW).facts.2.1⟩
          clear hK K
          try simp only [List.setIfInBounds_toArray, List.set_cons_zero, List.set_cons_succ]
          exact till_go J13 (b19, a19, l19, c19, g7) rfl (by kernel_rfl) rfl (by (try dsimp only); exact ⟨HW, h19, B7, hg7⟩)
        · go_simp
          have hwk : W3.heap.size ≤ wj.heap.size := HW.size
          have hxg7 := B7.lt
          obtain ⟨wk, hWe⟩ : ∃ W', W' = wj.alloc (.cells #[.bool false, .slice none 0 0] 24) := ⟨_, rfl⟩
          obtain ⟨B6, hb9⟩ := boxes1 wj false none 0 0 hWe
          rw [← hWe]
          clear hWe
          replace HW := Below.step HW hb9
          replace B7 := B7.later hb9
          clear hb9
          have hg6 := hwk
          have hne : wj.heap.size ≠ g7 := by omega
          refine hK.out _ _ ?_ (fun hHeld => ?_)
          · exact ⟨(D0.later HW).facts.1, (D0.later HW).facts.2.1, (C0.later HW).facts.1, (C0.later HW).facts.2.1, (C1.later HW).facts.1, (C1.later HW).facts.2.1⟩
          clear hK K
          try simp only [List.setIfInBounds_toArray, List.set_cons_zero, List.set_cons_succ]
          exact till_go J12 (wj.heap.size, g7) rfl (by kernel_rfl) rfl (by (try dsimp only); exact ⟨HW, B6, hg6, B7, hg7, hne⟩)
      refine till_mid 10 #[true, true, false, true, false, true, true, false, false, false, false, false, true, false, false, false] (ι := Nat) (fun (g6) => { tmps := #[Value.agg #[Value.bool b, Value.slice aa la ca], Value.agg #[Value.bool b', Value.slice ab lb cb], Value.pointer (some { block := w.heap.size, off := 0 }), Value.pointer (some { block := w.heap.size + 1, off := 0 }), Value.pointer (some { block := w.heap.size + 1 + 1, off := 0 }), Value.pointer (some { block := wo.heap.size, off := 0 }), .pointer (some ⟨g6, 0, none⟩), undef, u8, u9, u10, u11, u12, u13, u14, Value.agg #[Value.bool b3, Value.slice a3 l3 c3], undef, .agg #[.bool b3, .slice a3 l3 c3], .agg #[.bool b1, .slice a1 l1 c1], undef, .agg #[.bool b2, .slice a2 l2 c2], undef, .agg #[.bool b3, .slice a3 l3 c3], .agg #[.bool b2, .slice a2 l2 c2], undef, undef, undef, undef, undef], defers := [] }) (fun (g6) w => Below W3.heap.size W3 w ∧ Box w g6 false none 0 0 ∧ W3.heap.size ≤ g6) ?_ (fun J17 => ?_)
      · rintro g6 wj hI
        try dsimp only at hI ⊢
        obtain ⟨HW, B6, hg6⟩ := hI
        have hHeld : wj.cell? ⟨wo.heap.size, 0, none⟩ = some (.bool b3) ∧ wj.cell? ⟨wo.heap.size, 1, none⟩ = some (.slice a3 l3 c3) ∧ wj.cell? ⟨w.heap.size, 0, none⟩ = some (.bool b1) ∧ wj.cell? ⟨w.heap.size, 1, none⟩ = some (.slice a1 l1 c1) ∧ wj.cell? ⟨w.heap.size + 1, 0, none⟩ = some (.bool b2) ∧ wj.cell? ⟨w.heap.size + 1, 1, none⟩ = some (.slice a2 l2 c2) := by exact ⟨(D0.later HW).facts.1, (D0.later HW).facts.2.1, (C0.later HW).facts.1, (C0.later HW).facts.2.1, (C1.later HW).facts.1, (C1.later HW).facts.2.1⟩
        refine till_two (i := 2) (j := 13) (by kernel_rfl) rfl rfl (fun K hK => ?_) (fun K hK => ?_)
        · go_simp
          refine (rmulK b3 a3 l3 c3 2 2 b1 a1 l1 c1 x' k _ ((h3.later HW).ik (by omega)) (hx2.later HW) LX1).mono ?_
          rintro e wk ⟨b19, a19, l19, c19, rfl, h19, hb9⟩
          replace HW := Below.step HW hb9
          replace B6 := B6.later hb9
          clear hb9
          refine hK.out _ _ ?_ (fun hHeld => ?_)
          · exact ⟨(D0.later HW).facts.1, (D0.later HW).facts.2.1, (C0.later HW).facts.1, (C0.later HW).facts.2.1, (C1.later HW).facts.1, (C1.later HW).facts.2.1⟩
          clear hK K
          try simp only [List.setIfInBounds_toArray, List.set_cons_zero, List.set_cons_succ]
          exact till_go J14 (b19, a19, l19, c19, g6) rfl (by kernel_rfl) rfl (by (try dsimp only); exact ⟨HW, h19, B6, hg6⟩)
        · go_simp
          have hwk : W3.heap.size ≤ wj.heap.size := HW.size
          have hxg6 := B6.lt
          obtain ⟨wk, hWe⟩ : ∃ W', W' = wj.alloc (.cells #[.bool false, .slice none 0 0] 24) := ⟨_, rfl⟩
          obtain ⟨B7, hb9⟩ := boxes1 wj false none 0 0 hWe
          rw [← hWe]
          clear hWe
          replace HW := Below.step HW hb9
          replace B6 := B6.later hb9
          clear hb9
          have hg7 := hwk
          have hne : g6 ≠ wj.heap.size := by omega
          refine hK.out _ _ ?_ (fun hHeld => ?_)
          · exact ⟨(D0.later HW).facts.1, (D0.later HW).facts.2.1, (C0.later HW).facts.1, (C0.later HW).facts.2.1, (C1.later HW).facts.1, (C1.later HW).facts.2.1⟩
          clear hK K
          try simp only [List.setIfInBounds_toArray, List.set_cons_zero, List.set_cons_succ]
          exact till_go J12 (g6, wj.heap.size) rfl (by kernel_rfl) rfl (by (try dsimp only); exact ⟨HW, B6, hg6, B7, hg7, hne⟩)
      refine till_mid 10 #[true, true, true, true, false, true, true, false, false, false, false, false, false, false, false, false] (ι := Bool × Option Addr × Nat × Nat) (fun (b19, a19, l19, c19) => { tmps := #[Value.agg #[Value.bool b, Value.slice aa la ca], Value.agg #[Value.bool b', Value.slice ab lb cb], Value.pointer (some { block := w.heap.size, off := 0 }), Value.pointer (some { block := w.heap.size + 1, off := 0 }), Value.pointer (some { block := w.heap.size + 1 + 1, off := 0 }), Value.pointer (some { block := wo.heap.size, off := 0 }), undef, undef, u8, u9, u10, u11, u12, u13, u14, Value.agg #[Value.bool b3, Value.slice a3 l3 c3], undef, .agg #[.bool b3, .slice a3 l3 c3], .agg #[.bool b1, .slice a1 l1 c1], .agg #[.bool b19, .slice a19 l19 c19], .agg #[.bool b2, .slice a2 l2 c2], undef, .agg #[.bool b3, .slice a3 l3 c3], .agg #[.bool b2, .slice a2 l2 c2], undef, undef, undef, undef, undef], defers := [] }) (fun (b19, a19, l19, c19) w => Below W3.heap.size W3 w ∧ FK w b19 a19 l19 c19 (2 * x') (2 + k)) ?_ (fun J18 => ?_)
      · rintro ⟨b19, a19, l19, c19⟩ wj hI
        try dsimp only at hI ⊢
        obtain ⟨HW, h19⟩ := hI
        have hHeld : wj.cell? ⟨wo.heap.size, 0, none⟩ = some (.bool b3) ∧ wj.cell? ⟨wo.heap.size, 1, none⟩ = some (.slice a3 l3 c3) ∧ wj.cell? ⟨w.heap.size, 0, none⟩ = some (.bool b1) ∧ wj.cell? ⟨w.heap.size, 1, none⟩ = some (.slice a1 l1 c1) ∧ wj.cell? ⟨w.heap.size + 1, 0, none⟩ = some (.bool b2) ∧ wj.cell? ⟨w.heap.size + 1, 1, none⟩ = some (.slice a2 l2 c2) := by exact ⟨(D0.later HW).facts.1, (D0.later HW).facts.2.1, (C0.later HW).facts.1, (C0.later HW).facts.2.1, (C1.later HW).facts.1, (C1.later HW).facts.2.1⟩
        refine till_three (i := 4) (j := 12) (k := 13) (by kernel_rfl) rfl rfl rfl (fun K hK => ?_) (fun K hK => ?_) (fun K hK => ?_)
        · go_simp
          refine (raddK b19 a19 l19 c19 (2 * x') (2 + k) b2 a2 l2 c2 y' l _ (h19.ik (by omega)) (hy2.later HW)).mono ?_
          rintro e wk ⟨b21, a21, l21, c21, rfl, h21, hb9⟩
          replace HW := Below.step HW hb9
          clear hb9 h19
          refine hK.out _ _ ?_ (fun hHeld => ?_)
          · exact ⟨(D0.later HW).facts.1, (D0.later HW).facts.2.1, (C0.later HW).facts.1, (C0.later HW).facts.2.1, (C1.later HW).facts.1, (C1.later HW).facts.2.1⟩
          clear hK K
          try simp only [List.setIfInBounds_toArray, List.set_cons_zero, List.set_cons_succ]
          exact till_go J15 (b19, a19, l19, c19, b21, a21, l21, c21) rfl (by kernel_rfl) rfl (by (try dsimp only); exact ⟨HW, h21⟩)
        · go_simp
          have hwk : W3.heap.size ≤ wj.heap.size := HW.size
          obtain ⟨wk, hWe⟩ : ∃ W', W' = wj.alloc (.cells #[.bool false, .slice none 0 0] 24) := ⟨_, rfl⟩
          obtain ⟨B6, hb9⟩ := boxes1 wj false none 0 0 hWe
          rw [← hWe]
          clear hWe
          replace HW := Below.step HW hb9
          replace h19 := h19.later hb9
          clear hb9
          have hg6 := hwk
          refine hK.out _ _ ?_ (fun hHeld => ?_)
          · exact ⟨(D0.later HW).facts.1, (D0.later HW).facts.2.1, (C0.later HW).facts.1, (C0.later HW).facts.2.1, (C1.later HW).facts.1, (C1.later HW).facts.2.1⟩
          clear hK K
          try simp only [List.setIfInBounds_toArray, List.set_cons_zero, List.set_cons_succ]
          exact till_go J14 (b19, a19, l19, c19, wj.heap.size) rfl (by kernel_rfl) rfl (by (try dsimp only); exact ⟨HW, h19, B6, hg6⟩)
        · go_simp
          have hwk : W3.heap.size ≤ wj.heap.size := HW.size
          obtain ⟨wk, hWe⟩ : ∃ W', W' = wj.alloc (.cells #[.bool false, .slice none 0 0] 24) := ⟨_, rfl⟩
          obtain ⟨B7, hb9⟩ := boxes1 wj false none 0 0 hWe
          rw [← hWe]
          clear hWe
          replace HW := Below.step HW hb9
          replace h19 := h19.later hb9
          clear hb9
          have hg7 := hwk
          refine hK.out _ _ ?_ (fun hHeld => ?_)
          · exact ⟨(D0.later HW).facts.1, (D0.later HW).facts.2.1, (C0.later HW).facts.1, (C0.later HW).facts.2.1, (C1.later HW).facts.1, (C1.later HW).facts.2.1⟩
          clear hK K
          try simp only [List.setIfInBounds_toArray, List.set_cons_zero, List.set_cons_succ]
          exact till_go J13 (b19, a19, l19, c19, wj.heap.size) rfl (by kernel_rfl) rfl (by (try dsimp only); exact ⟨HW, h19, B7, hg7⟩)
      refine till_three (i := 2) (j := 12) (k := 13) (by kernel_rfl) rfl rfl rfl (fun K hK => ?_) (fun K hK => ?_) (fun K hK => ?_)
      · go_simp
        refine (rmulK b3 a3 l3 c3 2 2 b1 a1 l1 c1 x' k _ ((h3.later HW).ik (by omega)) (hx2.later HW) LX1).mono ?_
        rintro e wk ⟨b19, a19, l19, c19, rfl, h19, hb9⟩
        replace HW := Below.step HW hb9
        clear hb9
        refine hK.out _ _ ?_ (fun hHeld => ?_)
        · exact ⟨(D0.later HW).facts.1, (D0.later HW).facts.2.1, (C0.later HW).facts.1, (C0.later HW).facts.2.1, (C1.later HW).facts.1, (C1.later HW).facts.2.1⟩
        clear hK K
        try simp only [List.setIfInBounds_toArray, List.set_cons_zero, List.set_cons_succ]
        exact till_go J18 (b19, a19, l19, c19) rfl (by kernel_rfl) rfl (by (try dsimp only); exact ⟨HW, h19⟩)
      · go_simp
        have hwk : W3.heap.size ≤ v1.heap.size := HW.size
        obtain ⟨wk, hWe⟩ : ∃ W', W' = v1.alloc (.cells #[.bool false, .slice none 0 0] 24) := ⟨_, rfl⟩
        obtain ⟨B6, hb9⟩ := boxes1 v1 false none 0 0 hWe
        rw [← hWe]
        clear hWe
        replace HW := Below.step HW hb9
        clear hb9
        have hg6 := hwk
        refine hK.out _ _ ?_ (fun hHeld => ?_)
        · exact ⟨(D0.later HW).facts.1, (D0.later HW).facts.2.1, (C0.later HW).facts.1, (C0.later HW).facts.2.1, (C1.later HW).facts.1, (C1.later HW).facts.2.1⟩
        clear hK K
        try simp only [List.setIfInBounds_toArray, List.set_cons_zero, List.set_cons_succ]
        exact till_go J17 (v1.heap.size) rfl (by kernel_rfl) rfl (by (try dsimp only); exact ⟨HW, B6, hg6⟩)
      · go_simp
        have hwk : W3.heap.size ≤ v1.heap.size := HW.size
        obtain ⟨wk, hWe⟩ : ∃ W', W' = v1.alloc (.cells #[.bool false, .slice none 0 0] 24) := ⟨_, rfl⟩
        obtain ⟨B7, hb9⟩ := boxes1 v1 false none 0 0 hWe
        rw [← hWe]
        clear hWe
        replace HW := Below.step HW hb9
        clear hb9
        have hg7 := hwk
        refine hK.out _ _ ?_ (fun hHeld => ?_)
        · exact ⟨(D0.later HW).facts.1, (D0.later HW).facts.2.1, (C0.later HW).facts.1, (C0.later HW).facts.2.1, (C1.later HW).facts.1, (C1.later HW).facts.2.1⟩
        clear hK K
        try simp only [List.setIfInBounds_toArray, List.set_cons_zero, List.set_cons_succ]
        exact till_go J16 (v1.heap.size) rfl (by kernel_rfl) rfl (by (try dsimp only); exact ⟨HW, B7, hg7⟩)
    case rest =>
      obtain ⟨g, b6, a6, l6, c6, rfl, Bg, hge, h6, hb9⟩ := hcut
      have hs3 := C2.lt
      replace C2 := C2.later hb9
      have HB5 := Below.step (unhide HB4) hb9
      clear hb9 HB4 C0 C1 D0 h3 hx2 hy2
      obtain ⟨q1, q2, q3, q4⟩ := C2.facts
      obtain ⟨q5, q6, _, _⟩ := Bg.facts
      go_wp2
      refine bodyPost_ret (v := .agg #[.bool b6, .slice a6 l6 c6]) (by simp [results, Try.results18, go_sem, *]) rfl ⟨_, _, _, _, rfl, ?_⟩
      exact ⟨((h6.put C2.noLimb b6 a6 l6 c6).eq (unhide EN).symm), below_put HB5 (by omega) b6 a6 l6 c6⟩

#print axioms rnearK
end Go.Proofs.Ytcafodggkhkpnaa
