/-
  What Ext of the reference tells.
-/
import Derived.Test.YtobiogedknmijaaBExt
import Derived.Test.YtobiogedknmijaaBPrim
namespace Go.Proofs.Ytobiogedknmijaa
open Go.RowKit Lb

theorem VF.three {w : World} {g c k : Nat} {z0 z1 z2 : Int} (h : VF w (some ⟨g, 0, none⟩) 3 c [z0, z1, z2] k) : ∃ bp0 ap0 lp0 cp0 bp1 ap1 lp1 cp1 bp2 ap2 lp2 cp2, EltAt w g 0 bp0 ap0 lp0 cp0 ∧ EltAt w g 2 bp1 ap1 lp1 cp1 ∧ EltAt w g 4 bp2 ap2 lp2 cp2 ∧ FK w bp0 ap0 lp0 cp0 z0 k ∧ FK w bp1 ap1 lp1 cp1 z1 k ∧ FK w bp2 ap2 lp2 cp2 z2 k := by
  obtain ⟨b0, a0, l0, c0, e0, f0⟩ := h.at (i := 0) (by omega)
  obtain ⟨b1, a1, l1, c1, e1, f1⟩ := h.at (i := 1) (by omega)
  obtain ⟨b2, a2, l2, c2, e2, f2⟩ := h.at (i := 2) (by omega)
  exact ⟨_, _, _, _, _, _, _, _, _, _, _, _, e0, e1, e2, f0, f1, f2⟩
theorem own_ge {w : World} {base : Nat} {ao : Option Addr} {n cap k : Nat} {zs : List Int} (h : OwnV w base ao n cap zs k) : ∀ g, (Value.slice ao n cap).ownBlock = some g → base ≤ g := by
  obtain ⟨_, ⟨cs, h2⟩, _⟩ := h
  exact fun g e => (h2.lt g e).1
theorem snoc_each {rs : List Int} {j : Nat} {f : Nat → Int} (hl : rs.length = j) (h : ∀ i, i < j → rs.getD i 0 = f i) : ∀ i, i < j + 1 → (rs ++ [f j]).getD i 0 = f i := by
  intro i hi
  by_cases e : i = j
  · subst e
    simp [List.getD, ← hl]
  · rw [show (rs ++ [f j]).getD i 0 = rs.getD i 0 by simp [List.getD, List.getElem?_append_left (show i < rs.length by omega)]]
    exact h i (by omega)
theorem three_of {rs : List Int} {p0 p1 p2 q0 q1 q2 t : Int} (hl : rs.length = 3) (h : ∀ i, i < 3 → rs.getD i 0 = [p0, p1, p2].getD i 0 - t * [q0, q1, q2].getD i 0) : rs = [p0 - t * q0, p1 - t * q1, p2 - t * q2] := by
  match rs, hl with
  | [r0, r1, r2], _ =>
    have h0 := h 0 (by omega)
    have h1 := h 1 (by omega)
    have h2 := h 2 (by omega)
    simp at h0 h1 h2
    rw [h0, h1, h2]

set_option maxHeartbeats 16000000 in
theorem rextK (b : Bool) (aa : Option Addr) (la ca : Nat) (x : Int) (k : Nat) (b' : Bool) (ab : Option Addr) (lb cb : Nat) (y : Int) (l : Nat) (w : World) (hx : IK w b aa la ca x k) (hy : IK w b' ab lb cb y l) (hk : k ≤ 80000) (hl : l ≤ 80000) :
    Calls Try.prog 16 #[.agg #[.bool b, .slice aa la ca], .agg #[.bool b', .slice ab lb cb]] w fun e w' => ∃ b1 a1 l1 c1 b2 a2 l2 c2 b3 a3 l3 c3, e = .returned (.tuple #[.agg #[.bool b1, .slice a1 l1 c1], .agg #[.bool b2, .slice a2 l2 c2], .agg #[.bool b3, .slice a3 l3 c3]]) ∧ FK w' b1 a1 l1 c1 (extG x y) (max k l + 1) ∧ FK w' b2 a2 l2 c2 (extX x y) (max k l + 1) ∧ FK w' b3 a3 l3 c3 (extY x y) (max k l + 1) ∧ Below w.heap.size w w' := by
  obtain ⟨kk, ek⟩ : ∃ kk, kk = max k l + 1 := ⟨_, rfl⟩
  rw [← ek]
  have hk1 : k < kk := by omega
  have hl1 : l < kk := by omega
  have hkk0 : kk ≤ 90000 := by omega
  have hkk : kk ≤ 999990 := by omega
  have LX := hide hx.2.2
  have LY := hide hy.2.2
  clear ek
  go_enter Try.func16, Try.ntmps16
  go_wp2_with fail
  obtain ⟨W, hWe⟩ : ∃ W, W = (((((w.alloc (.cells #[.bool b, .slice aa la ca] 24)).alloc (.cells #[.bool b', .slice ab lb cb] 24)).alloc (.cells #[.bool false, .slice none 0 0] 24)).alloc (.cells #[.bool false, .slice none 0 0] 24)).alloc (.cells #[.bool false, .slice none 0 0] 24)) := ⟨_, rfl⟩
  obtain ⟨B0, B1, B2, B3, B4, hb0⟩ := boxes5 w b aa la ca b' ab lb cb false none 0 0 false none 0 0 false none 0 0 hWe
  rw [← hWe]
  clear hWe B0
  replace hx := hx.later hb0
  replace hy := hy.later hb0
  have HB := hide hb0
  clear hb0
  have hs4 := B4.lt
  refine (rformK _ _ _ _ x k _ hx).mono ?_
  rintro e v1 ⟨b1, a1, l1, c1, rfl, h1, hb9⟩
  replace B1 := B1.later hb9
  replace B2 := B2.later hb9
  replace B3 := B3.later hb9
  replace B4 := B4.later hb9
  replace hy := hy.later hb9
  replace HB := hide (Below.step (unhide HB) hb9)
  clear hb9 hx
  go_wp2_with fail
  refine (rofK 1 _ (by omega) (by omega)).mono ?_
  rintro e v2 ⟨b2, a2, l2, c2, rfl, h2, hb9⟩
  replace B1 := B1.later hb9
  replace B2 := B2.later hb9
  replace B3 := B3.later hb9
  replace B4 := B4.later hb9
  replace hy := hy.later hb9
  replace h1 := h1.later hb9
  replace HB := hide (Below.step (unhide HB) hb9)
  clear hb9
  go_wp2_with fail
  refine (rofK 0 _ (by omega) (by omega)).mono ?_
  rintro e v3 ⟨b3, a3, l3, c3, rfl, h3, hb9⟩
  replace B1 := B1.later hb9
  replace B2 := B2.later hb9
  replace B3 := B3.later hb9
  replace B4 := B4.later hb9
  replace hy := hy.later hb9
  replace h1 := h1.later hb9
  replace h2 := h2.later hb9
  replace HB := hide (Below.step (unhide HB) hb9)
  clear hb9
  obtain ⟨f1, f2, _, _⟩ := B1.facts
  have hs1 := B1.lt
  go_wp2_with fail
  have HS3 : w.heap.size + 5 ≤ v3.heap.size := B4.lt
  have hE0 := extIn_start x y
  obtain ⟨m0, m1, m2, m3, m4, m5⟩ := ext_lt hE0 (unhide LX) (unhide LY) hk1 hl1
  have M0 := hide m0
  have M1 := hide m1
  have M2 := hide m2
  have M3 := hide m3
  have M4 := hide m4
  have M5 := hide m5
  clear m0 m1 m2 m3 m4 m5 hE0
  obtain ⟨W3, hW3⟩ : ∃ W3, W3 = v3.alloc (.cells #[.bool b1, .slice a1 l1 c1, .bool b2, .slice a2 l2 c2, .bool b3, .slice a3 l3 c3] 24) := ⟨_, rfl⟩
  have hb9 := below_new v3 (.cells #[.bool b1, .slice a1 l1 c1, .bool b2, .slice a2 l2 c2, .bool b3, .slice a3 l3 c3] 24)
  have VP := vec3 (w := v3) (R := fun w b a l c z => FK w b a l c z kk) (n := v3.heap.size) rfl ((h1.later hb9).le (unhide M0)) ((h2.later hb9).le (unhide M1)) ((h3.later hb9).le (unhide M2))
  rw [← hW3] at VP hb9 ⊢
  clear hW3 f1 f2 hs1 h1 h2 h3
  replace VP : VF W3 _ 3 3 [x, 1, 0] kk := VP
  replace B1 := B1.later hb9
  replace B2 := B2.later hb9
  replace B3 := B3.later hb9
  replace B4 := B4.later hb9
  replace hy := hy.later hb9
  replace HB := hide (Below.step (unhide HB) hb9)
  clear hb9
  refine (rformK _ _ _ _ y l _ hy).mono ?_
  rintro e v4 ⟨b4, a4, l4, c4, rfl, h4, hb9⟩
  replace B1 := B1.later hb9
  replace B2 := B2.later hb9
  replace B3 := B3.later hb9
  replace B4 := B4.later hb9
  replace hy := hy.later hb9
  replace VP := VP.later hb9
  replace HB := hide (Below.step (unhide HB) hb9)
  clear hb9
  clear hy
  go_wp2_with fail
  refine (rofK 0 _ (by omega) (by omega)).mono ?_
  rintro e v5 ⟨b5, a5, l5, c5, rfl, h5, hb9⟩
  replace B1 := B1.later hb9
  replace B2 := B2.later hb9
  replace B3 := B3.later hb9
  replace B4 := B4.later hb9
  replace VP := VP.later hb9
  replace h4 := h4.later hb9
  replace HB := hide (Below.step (unhide HB) hb9)
  clear hb9
  go_wp2_with fail
  refine (rofK 1 _ (by omega) (by omega)).mono ?_
  rintro e v6 ⟨b6, a6, l6, c6, rfl, h6, hb9⟩
  replace B1 := B1.later hb9
  replace B2 := B2.later hb9
  replace B3 := B3.later hb9
  replace B4 := B4.later hb9
  replace VP := VP.later hb9
  replace h4 := h4.later hb9
  replace h5 := h5.later hb9
  replace HB := hide (Below.step (unhide HB) hb9)
  clear hb9
  go_wp2_with fail
  have HS6 : w.heap.size + 5 ≤ v6.heap.size := B4.lt
  obtain ⟨W5, hW5⟩ : ∃ W5, W5 = v6.alloc (.cells #[.bool b4, .slice a4 l4 c4, .bool b5, .slice a5 l5 c5, .bool b6, .slice a6 l6 c6] 24) := ⟨_, rfl⟩
  have hb9 := below_new v6 (.cells #[.bool b4, .slice a4 l4 c4, .bool b5, .slice a5 l5 c5, .bool b6, .slice a6 l6 c6] 24)
  have VQ := vec3 (w := v6) (R := fun w b a l c z => FK w b a l c z kk) (n := v6.heap.size) rfl ((h4.later hb9).le (unhide M3)) ((h5.later hb9).le (unhide M4)) ((h6.later hb9).le (unhide M5))
  rw [← hW5] at VQ hb9 ⊢
  clear hW5 h4 h5 h6
  replace VQ : VF W5 _ 3 3 [y, 0, 1] kk := VQ
  replace B1 := B1.later hb9
  replace B2 := B2.later hb9
  replace B3 := B3.later hb9
  replace B4 := B4.later hb9
  replace VP := VP.later hb9
  replace HB := hide (Below.step (unhide HB) hb9)
  clear hb9
  have hw5 : w.heap.size + 5 ≤ v3.heap.size := HS3
  have hw6 : w.heap.size + 5 ≤ v6.heap.size := HS6
  go_loopg [7, 8] (y.natAbs) (fun g u v wr => ∃ g7 cp g8 cq p0 p1 p2 q0 q1 q2, u = .slice (some ⟨g7, 0, none⟩) 3 cp ∧ v = .slice (some ⟨g8, 0, none⟩) 3 cq ∧ VF wr (some ⟨g7, 0, none⟩) 3 cp [p0, p1, p2] kk ∧ VF wr (some ⟨g8, 0, none⟩) 3 cq [q0, q1, q2] kk ∧ w.heap.size + 5 ≤ g7 ∧ Box wr (w.heap.size + 2) false none 0 0 ∧ Box wr (w.heap.size + 3) false none 0 0 ∧ Box wr (w.heap.size + 4) false none 0 0 ∧ ExtIn x y p0 p1 p2 q0 q1 q2 ∧ extR p0 p1 p2 q0 q1 q2 = extR x 1 0 y 0 1 ∧ q0.natAbs = g ∧ w.heap.size + 5 ≤ g8 ∧ Below w.heap.size w wr)
  case atStart => exact ⟨_, _, _, _, x, 1, 0, y, 0, 1, rfl, rfl, VP, VQ, hw5, B2, B3, B4, extIn_start x y, rfl, rfl, hw6, unhide HB⟩
  case round =>
    clear B1 B2 B3 B4 VP VQ HB HS3 HS6 hw5 hw6 M0 M1 M2 M3 M4 M5
    obtain ⟨g7, cp, g8, cq, p0, p1, p2, q0, q1, q2, rfl, rfl, VP, VQ, hg7, B2, B3, B4, hE, hR, hg, hg8, hB⟩ := hrel
    have HE := hide hE
    have HR := hide hR
    have HG := hide hg
    have HB := hide hB
    clear hE hR hg hB
    obtain ⟨bp0, ap0, lp0, cp0, bp1, ap1, lp1, cp1, bp2, ap2, lp2, cp2, X0, X1, X2, hp0, hp1, hp2⟩ := VP.three
    obtain ⟨bq0, aq0, lq0, cq0, bq1, aq1, lq1, cq1, bq2, aq2, lq2, cq2, Y0, Y1, Y2, hq0, hq1, hq2⟩ := VQ.three
    obtain ⟨f1, f2⟩ := Y0.facts
    have hcp := VP.cap_le
    have hcq := VQ.cap_le
    have hgl7 := X0.1
    have hgl8 := Y0.1
    by_cases h0 : q0 = 0
    · subst h0
      clear VP VQ
      go_wp2_with fail
      refine (rsignK bq0 aq0 lq0 cq0 0 kk 0 _ (hq0.ik hkk) rfl).mono ?_
      rintro e w1 ⟨rfl, hb9⟩
      replace B2 := B2.later hb9
      replace B3 := B3.later hb9
      replace B4 := B4.later hb9
      replace X0 := X0.later hb9
      replace X1 := X1.later hb9
      replace X2 := X2.later hb9
      replace hp0 := hp0.later hb9
      replace hp1 := hp1.later hb9
      replace hp2 := hp2.later hb9
      replace HB := hide (Below.step (unhide HB) hb9)
      clear hb9 f1 f2 Y0 Y1 Y2 hq0 hq1 hq2 hgl7 hgl8
      have hEnd : extR x 1 0 y 0 1 = (p0, p1, p2) := by rw [← unhide HR, extR_zero]
      have HD := hide hEnd
      clear hEnd HR HE HG
      obtain ⟨s, es⟩ : ∃ s, s = p0.sign := ⟨_, rfl⟩
      have ES := hide es
      obtain ⟨f1, f2⟩ := X0.facts
      by_cases hneg : p0 < 0
      · have hs : s < 0 := by rw [es, Int.sign_eq_neg_one_of_neg hneg]; omega
        have EG : Hid (-p0 = extG x y ∧ -p1 = extX x y ∧ -p2 = extY x y) := by unfold Hid extG extX extY; rw [unhide HD]; simp [extE, hneg]
        clear es hneg HD
        go_wp2_with fail
        refine (rsignK bp0 ap0 lp0 cp0 p0 kk s _ (hp0.ik hkk) (unhide ES)).mono ?_
        rintro e w2 ⟨rfl, hb9⟩
        replace B2 := B2.later hb9
        replace B3 := B3.later hb9
        replace B4 := B4.later hb9
        replace X0 := X0.later hb9
        replace X1 := X1.later hb9
        replace X2 := X2.later hb9
        replace hp0 := hp0.later hb9
        replace hp1 := hp1.later hb9
        replace hp2 := hp2.later hb9
        replace HB := hide (Below.step (unhide HB) hb9)
        clear hb9 f1 f2
        go_upto_region 12 with fail
        have HW : Below w2.heap.size w2 w2.drew := (Below.refl _ _).drew
        refine till_start (fun w' => w'.cell? ⟨g7, 0, none⟩ = some (.bool bp0) ∧ w'.cell? ⟨g7, 1, none⟩ = some (.slice ap0 lp0 cp0) ∧ w'.cell? ⟨g7, 2, none⟩ = some (.bool bp1) ∧ w'.cell? ⟨g7, 3, none⟩ = some (.slice ap1 lp1 cp1) ∧ w'.cell? ⟨g7, 4, none⟩ = some (.bool bp2) ∧ w'.cell? ⟨g7, 5, none⟩ = some (.slice ap2 lp2 cp2)) 12 (by kernel_rfl) ?_ (fun hHeld => ?_)
        · exact ⟨(X0.later HW).facts.1, (X0.later HW).facts.2, (X1.later HW).facts.1, (X1.later HW).facts.2, (X2.later HW).facts.1, (X2.later HW).facts.2⟩
        refine till_take (i := 0) (v := ?_) [1, 2, 3, 7, 11, 12, 13, 14] rfl (by kernel_rfl) (by kernel_rfl) (by kernel_rfl) (by kernel_rfl) (fun _ _ _ h => h) (Or.inl ⟨by rfl, ?_⟩) (by assumption) ?_
        rotate_left
        · (intro w hSw; (try dsimp only at hSw); go_simp; try with_reducible rfl)
        simp only [Act.put, List.getElem_toArray, List.getElem_cons_zero, List.setIfInBounds_toArray, List.set_cons_zero, List.set_cons_succ]
        refine till_take (i := 1) (v := ?_) [2, 3, 7, 11, 12, 13, 14] rfl (by kernel_rfl) (by kernel_rfl) (by kernel_rfl) (by kernel_rfl) (fun _ _ _ h => h) (Or.inl ⟨by rfl, ?_⟩) (by assumption) ?_
        rotate_left
        · (intro w hSw; (try dsimp only at hSw); go_simp; try with_reducible rfl)
        simp only [Act.put, List.getElem_toArray, List.getElem_cons_succ, List.getElem_cons_zero, List.setIfInBounds_toArray, List.set_cons_zero, List.set_cons_succ]
        refine till_take (i := 2) (v := ?_) [3, 7, 11, 12, 13, 14] rfl (by kernel_rfl) (by kernel_rfl) (by kernel_rfl) (by kernel_rfl) (fun _ _ _ h => h) (Or.inl ⟨by rfl, ?_⟩) (by assumption) ?_
        rotate_left
        · (intro w hSw; (try dsimp only at hSw); go_simp; try with_reducible rfl)
        simp only [Act.put, List.getElem_toArray, List.getElem_cons_succ, List.getElem_cons_zero, List.setIfInBounds_toArray, List.set_cons_zero, List.set_cons_succ]
        refine till_take (i := 4) (v := ?_) [5, 6, 7, 11, 12, 13, 14] rfl (by kernel_rfl) (by kernel_rfl) (by kernel_rfl) (by kernel_rfl) (fun _ _ _ h => h) (Or.inl ⟨by rfl, ?_⟩) (by assumption) ?_
        rotate_left
        · (intro w hSw; (try dsimp only at hSw); go_simp; try with_reducible rfl)
        simp only [Act.put, List.getElem_toArray, List.getElem_cons_succ, List.getElem_cons_zero, List.setIfInBounds_toArray, List.set_cons_zero, List.set_cons_succ]
        refine till_take (i := 5) (v := ?_) [6, 7, 11, 12, 13, 14] rfl (by kernel_rfl) (by kernel_rfl) (by kernel_rfl) (by kernel_rfl) (fun _ _ _ h => h) (Or.inl ⟨by rfl, ?_⟩) (by assumption) ?_
        rotate_left
        · (intro w hSw; (try dsimp only at hSw); go_simp; try with_reducible rfl)
        simp only [Act.put, List.getElem_toArray, List.getElem_cons_succ, List.getElem_cons_zero, List.setIfInBounds_toArray, List.set_cons_zero, List.set_cons_succ]
        refine till_take (i := 6) (v := ?_) [7, 11, 12, 13, 14] rfl (by kernel_rfl) (by kernel_rfl) (by kernel_rfl) (by kernel_rfl) (fun _ _ _ h => h) (Or.inl ⟨by rfl, ?_⟩) (by assumption) ?_
        rotate_left
        · (intro w hSw; (try dsimp only at hSw); go_simp; try with_reducible rfl)
        simp only [Act.put, List.getElem_toArray, List.getElem_cons_succ, List.getElem_cons_zero, List.setIfInBounds_toArray, List.set_cons_zero, List.set_cons_succ]
        refine till_take (i := 8) (v := ?_) [9, 10, 11, 12, 13, 14] rfl (by kernel_rfl) (by kernel_rfl) (by kernel_rfl) (by kernel_rfl) (fun _ _ _ h => h) (Or.inl ⟨by rfl, ?_⟩) (by assumption) ?_
        rotate_left
        · (intro w hSw; (try dsimp only at hSw); go_simp; try with_reducible rfl)
        simp only [Act.put, List.getElem_toArray, List.getElem_cons_succ, List.getElem_cons_zero, List.setIfInBounds_toArray, List.set_cons_zero, List.set_cons_succ]
        refine till_take (i := 9) (v := ?_) [10, 11, 12, 13, 14] rfl (by kernel_rfl) (by kernel_rfl) (by kernel_rfl) (by kernel_rfl) (fun _ _ _ h => h) (Or.inl ⟨by rfl, ?_⟩) (by assumption) ?_
        rotate_left
        · (intro w hSw; (try dsimp only at hSw); go_simp; try with_reducible rfl)
        simp only [Act.put, List.getElem_toArray, List.getElem_cons_succ, List.getElem_cons_zero, List.setIfInBounds_toArray, List.set_cons_zero, List.set_cons_succ]
        refine till_take (i := 10) (v := ?_) [11, 12, 13, 14] rfl (by kernel_rfl) (by kernel_rfl) (by kernel_rfl) (by kernel_rfl) (fun _ _ _ h => h) (Or.inl ⟨by rfl, ?_⟩) (by assumption) ?_
        rotate_left
        · (intro w hSw; (try dsimp only at hSw); go_simp; try with_reducible rfl)
        simp only [Act.put, List.getElem_toArray, List.getElem_cons_succ, List.getElem_cons_zero, List.setIfInBounds_toArray, List.set_cons_zero, List.set_cons_succ]
        refine till_in (i := 3) (by kernel_rfl) rfl (fun K hK => ?_)
        go_simp
        refine (rnegK bp0 ap0 lp0 cp0 p0 kk _ ((hp0.later HW).ik hkk)).mono ?_
        rintro e w9 ⟨b7, a7, l7, c7, rfl, hn7, hb9⟩
        replace HW := Below.step HW hb9
        clear hb9
        refine hK.out _ _ ?_ (fun hHeld => ?_)
        · exact ⟨(X0.later HW).facts.1, (X0.later HW).facts.2, (X1.later HW).facts.1, (X1.later HW).facts.2, (X2.later HW).facts.1, (X2.later HW).facts.2⟩
        clear hK K
        try simp only [Act.put, List.getElem_toArray, List.getElem_cons_succ, List.getElem_cons_zero, List.setIfInBounds_toArray, List.set_cons_zero, List.set_cons_succ]
        refine till_in (i := 7) (by kernel_rfl) rfl (fun K hK => ?_)
        go_simp
        refine (rnegK bp1 ap1 lp1 cp1 p1 kk _ ((hp1.later HW).ik hkk)).mono ?_
        rintro e w9 ⟨b8, a8, l8, c8, rfl, hn8, hb9⟩
        replace HW := Below.step HW hb9
        replace hn7 := hn7.later hb9
        clear hb9
        refine hK.out _ _ ?_ (fun hHeld => ?_)
        · exact ⟨(X0.later HW).facts.1, (X0.later HW).facts.2, (X1.later HW).facts.1, (X1.later HW).facts.2, (X2.later HW).facts.1, (X2.later HW).facts.2⟩
        clear hK K
        try simp only [Act.put, List.getElem_toArray, List.getElem_cons_succ, List.getElem_cons_zero, List.setIfInBounds_toArray, List.set_cons_zero, List.set_cons_succ]
        refine till_in (i := 11) (by kernel_rfl) rfl (fun K hK => ?_)
        go_simp
        refine (rnegK bp2 ap2 lp2 cp2 p2 kk _ ((hp2.later HW).ik hkk)).mono ?_
        rintro e w9 ⟨b9, a9, l9, c9, rfl, hn9, hb9⟩
        replace HW := Below.step HW hb9
        replace hn7 := hn7.later hb9
        replace hn8 := hn8.later hb9
        clear hb9
        obtain ⟨q1', q2', q3, q4⟩ := (B2.later HW).facts
        obtain ⟨q5, q6, q7, q8⟩ := (B3.later HW).facts
        obtain ⟨q9, q10, q11, q12⟩ := (B4.later HW).facts
        have hs9 := (B4.later HW).lt
        refine hK.out _ _ ?_ (fun hHeld => ?_)
        · exact ⟨(X0.later HW).facts.1, (X0.later HW).facts.2, (X1.later HW).facts.1, (X1.later HW).facts.2, (X2.later HW).facts.1, (X2.later HW).facts.2⟩
        clear hK K
        try simp only [Act.put, List.getElem_toArray, List.getElem_cons_succ, List.getElem_cons_zero, List.setIfInBounds_toArray, List.set_cons_zero, List.set_cons_succ]
        refine till_out (i := 12) (by kernel_rfl) rfl (by kernel_rfl) (fun K hK => ?_)
        go_simp
        refine hK.out _ _ ?_
        clear hK K
        try simp only [Act.put, List.getElem_toArray, List.getElem_cons_succ, List.getElem_cons_zero, List.setIfInBounds_toArray, List.set_cons_zero, List.set_cons_succ]
        refine till_out (i := 13) (by kernel_rfl) rfl (by kernel_rfl) (fun K hK => ?_)
        go_simp
        refine hK.out _ _ ?_
        clear hK K
        try simp only [Act.put, List.getElem_toArray, List.getElem_cons_succ, List.getElem_cons_zero, List.setIfInBounds_toArray, List.set_cons_zero, List.set_cons_succ]
        refine till_out (i := 14) (by kernel_rfl) rfl (by kernel_rfl) (fun K hK => ?_)
        go_simp
        refine hK.out _ _ ?_
        clear hK K
        try simp only [Act.put, List.getElem_toArray, List.getElem_cons_succ, List.getElem_cons_zero, List.setIfInBounds_toArray, List.set_cons_zero, List.set_cons_succ]
        refine till_done (by kernel_rfl) ?_ _
        go_wp2
        refine bodyPost_ret (v := .tuple #[.agg #[.bool b7, .slice a7 l7 c7], .agg #[.bool b8, .slice a8 l8 c8], .agg #[.bool b9, .slice a9 l9 c9]]) (by simp [results, Try.results16, go_sem, *]) rfl ⟨_, _, _, _, _, _, _, _, _, _, _, _, rfl, ?_⟩
        have n2 := (B2.later HW).noLimb
        have n3 := ((B3.later HW).other (g' := w.heap.size + 2) (by omega) b7 a7 l7 c7).noLimb
        have n4 := (((B4.later HW).other (g' := w.heap.size + 2) (by omega) b7 a7 l7 c7).other (g' := w.heap.size + 3) (by omega) b8 a8 l8 c8).noLimb
        exact ⟨(((hn7.put n2 b7 a7 l7 c7).put n3 b8 a8 l8 c8).put n4 b9 a9 l9 c9).eq (unhide EG).1, (((hn8.put n2 b7 a7 l7 c7).put n3 b8 a8 l8 c8).put n4 b9 a9 l9 c9).eq (unhide EG).2.1, (((hn9.put n2 b7 a7 l7 c7).put n3 b8 a8 l8 c8).put n4 b9 a9 l9 c9).eq (unhide EG).2.2, below_put (below_put (below_put (Below.step (unhide HB) HW) (by omega) b7 a7 l7 c7) (by omega) b8 a8 l8 c8) (by omega) b9 a9 l9 c9⟩
      · have hs : ¬ s < 0 := by
          rw [es]
          rcases Int.lt_trichotomy p0 0 with h | h | h
          · omega
          · rw [h]; decide
          · rw [Int.sign_eq_one_of_pos h]; omega
        have EG : Hid (p0 = extG x y ∧ p1 = extX x y ∧ p2 = extY x y) := by unfold Hid extG extX extY; rw [unhide HD]; simp [extE, hneg]
        clear es hneg HD
        go_wp2_with fail
        refine (rsignK bp0 ap0 lp0 cp0 p0 kk s _ (hp0.ik hkk) (unhide ES)).mono ?_
        rintro e w2 ⟨rfl, hb9⟩
        replace B2 := B2.later hb9
        replace B3 := B3.later hb9
        replace B4 := B4.later hb9
        replace X0 := X0.later hb9
        replace X1 := X1.later hb9
        replace X2 := X2.later hb9
        replace hp0 := hp0.later hb9
        replace hp1 := hp1.later hb9
        replace hp2 := hp2.later hb9
        replace HB := hide (Below.step (unhide HB) hb9)
        clear hb9 f1 f2
        go_upto_region 13 with fail
        have HW : Below w2.heap.size w2 w2.drew := (Below.refl _ _).drew
        obtain ⟨q1', q2', q3, q4⟩ := (B2.later HW).facts
        obtain ⟨q5, q6, q7, q8⟩ := (B3.later HW).facts
        obtain ⟨q9, q10, q11, q12⟩ := (B4.later HW).facts
        have hs9 := (B4.later HW).lt
        obtain ⟨wd, hwd⟩ : ∃ wd, wd = w2.drew := ⟨_, rfl⟩
        rw [← hwd] at HW q1' q2' q3 q4 q5 q6 q7 q8 q9 q10 q11 q12 hs9
        refine till_start (fun w' => w'.cell? ⟨g7, 0, none⟩ = some (.bool bp0) ∧ w'.cell? ⟨g7, 1, none⟩ = some (.slice ap0 lp0 cp0) ∧ w'.cell? ⟨g7, 2, none⟩ = some (.bool bp1) ∧ w'.cell? ⟨g7, 3, none⟩ = some (.slice ap1 lp1 cp1) ∧ w'.cell? ⟨g7, 4, none⟩ = some (.bool bp2) ∧ w'.cell? ⟨g7, 5, none⟩ = some (.slice ap2 lp2 cp2)) 11 (by kernel_rfl) ?_ (fun hHeld => ?_)
        · rw [← hwd]; exact ⟨(X0.later HW).facts.1, (X0.later HW).facts.2, (X1.later HW).facts.1, (X1.later HW).facts.2, (X2.later HW).facts.1, (X2.later HW).facts.2⟩
        rw [← hwd] at hHeld ⊢
        clear hwd
        refine till_take (i := 0) (v := ?_) [1, 2, 9, 10, 11] rfl (by kernel_rfl) (by kernel_rfl) (by kernel_rfl) (by kernel_rfl) (fun _ _ _ h => h) (Or.inl ⟨by rfl, ?_⟩) (by assumption) ?_
        rotate_left
        · (intro w hSw; (try dsimp only at hSw); go_simp; try with_reducible rfl)
        simp only [Act.put, List.getElem_toArray, List.getElem_cons_zero, List.setIfInBounds_toArray, List.set_cons_zero, List.set_cons_succ]
        refine till_take (i := 1) (v := ?_) [2, 9, 10, 11] rfl (by kernel_rfl) (by kernel_rfl) (by kernel_rfl) (by kernel_rfl) (fun _ _ _ h => h) (Or.inl ⟨by rfl, ?_⟩) (by assumption) ?_
        rotate_left
        · (intro w hSw; (try dsimp only at hSw); go_simp; try with_reducible rfl)
        simp only [Act.put, List.getElem_toArray, List.getElem_cons_succ, List.getElem_cons_zero, List.setIfInBounds_toArray, List.set_cons_zero, List.set_cons_succ]
        refine till_take (i := 2) (v := ?_) [9, 10, 11] rfl (by kernel_rfl) (by kernel_rfl) (by kernel_rfl) (by kernel_rfl) (fun _ _ _ h => h) (Or.inl ⟨by rfl, ?_⟩) (by assumption) ?_
        rotate_left
        · (intro w hSw; (try dsimp only at hSw); go_simp; try with_reducible rfl)
        simp only [Act.put, List.getElem_toArray, List.getElem_cons_succ, List.getElem_cons_zero, List.setIfInBounds_toArray, List.set_cons_zero, List.set_cons_succ]
        refine till_take (i := 3) (v := ?_) [4, 5, 10, 11] rfl (by kernel_rfl) (by kernel_rfl) (by kernel_rfl) (by kernel_rfl) (fun _ _ _ h => h) (Or.inl ⟨by rfl, ?_⟩) (by assumption) ?_
        rotate_left
        · (intro w hSw; (try dsimp only at hSw); go_simp; try with_reducible rfl)
        simp only [Act.put, List.getElem_toArray, List.getElem_cons_succ, List.getElem_cons_zero, List.setIfInBounds_toArray, List.set_cons_zero, List.set_cons_succ]
        refine till_take (i := 4) (v := ?_) [5, 10, 11] rfl (by kernel_rfl) (by kernel_rfl) (by kernel_rfl) (by kernel_rfl) (fun _ _ _ h => h) (Or.inl ⟨by rfl, ?_⟩) (by assumption) ?_
        rotate_left
        · (intro w hSw; (try dsimp only at hSw); go_simp; try with_reducible rfl)
        simp only [Act.put, List.getElem_toArray, List.getElem_cons_succ, List.getElem_cons_zero, List.setIfInBounds_toArray, List.set_cons_zero, List.set_cons_succ]
        refine till_take (i := 5) (v := ?_) [10, 11] rfl (by kernel_rfl) (by kernel_rfl) (by kernel_rfl) (by kernel_rfl) (fun _ _ _ h => h) (Or.inl ⟨by rfl, ?_⟩) (by assumption) ?_
        rotate_left
        · (intro w hSw; (try dsimp only at hSw); go_simp; try with_reducible rfl)
        simp only [Act.put, List.getElem_toArray, List.getElem_cons_succ, List.getElem_cons_zero, List.setIfInBounds_toArray, List.set_cons_zero, List.set_cons_succ]
        refine till_take (i := 6) (v := ?_) [7, 8, 11] rfl (by kernel_rfl) (by kernel_rfl) (by kernel_rfl) (by kernel_rfl) (fun _ _ _ h => h) (Or.inl ⟨by rfl, ?_⟩) (by assumption) ?_
        rotate_left
        · (intro w hSw; (try dsimp only at hSw); go_simp; try with_reducible rfl)
        simp only [Act.put, List.getElem_toArray, List.getElem_cons_succ, List.getElem_cons_zero, List.setIfInBounds_toArray, List.set_cons_zero, List.set_cons_succ]
        refine till_take (i := 7) (v := ?_) [8, 11] rfl (by kernel_rfl) (by kernel_rfl) (by kernel_rfl) (by kernel_rfl) (fun _ _ _ h => h) (Or.inl ⟨by rfl, ?_⟩) (by assumption) ?_
        rotate_left
        · (intro w hSw; (try dsimp only at hSw); go_simp; try with_reducible rfl)
        simp only [Act.put, List.getElem_toArray, List.getElem_cons_succ, List.getElem_cons_zero, List.setIfInBounds_toArray, List.set_cons_zero, List.set_cons_succ]
        refine till_take (i := 8) (v := ?_) [11] rfl (by kernel_rfl) (by kernel_rfl) (by kernel_rfl) (by kernel_rfl) (fun _ _ _ h => h) (Or.inl ⟨by rfl, ?_⟩) (by assumption) ?_
        rotate_left
        · (intro w hSw; (try dsimp only at hSw); go_simp; try with_reducible rfl)
        simp only [Act.put, List.getElem_toArray, List.getElem_cons_succ, List.getElem_cons_zero, List.setIfInBounds_toArray, List.set_cons_zero, List.set_cons_succ]
        refine till_in (i := 9) (by kernel_rfl) rfl (fun K hK => ?_)
        go_simp
        refine hK.out _ _ ?_ (fun hHeld => ?_)
        · exact ⟨((X0.later HW).other (g' := w.heap.size + 2) (by omega) bp0 ap0 lp0 cp0).facts.1, ((X0.later HW).other (g' := w.heap.size + 2) (by omega) bp0 ap0 lp0 cp0).facts.2, ((X1.later HW).other (g' := w.heap.size + 2) (by omega) bp0 ap0 lp0 cp0).facts.1, ((X1.later HW).other (g' := w.heap.size + 2) (by omega) bp0 ap0 lp0 cp0).facts.2, ((X2.later HW).other (g' := w.heap.size + 2) (by omega) bp0 ap0 lp0 cp0).facts.1, ((X2.later HW).other (g' := w.heap.size + 2) (by omega) bp0 ap0 lp0 cp0).facts.2⟩
        clear hK K
        try simp only [Act.put, List.getElem_toArray, List.getElem_cons_succ, List.getElem_cons_zero, List.setIfInBounds_toArray, List.set_cons_zero, List.set_cons_succ]
        refine till_in (i := 10) (by kernel_rfl) rfl (fun K hK => ?_)
        go_simp
        refine hK.out _ _ ?_ (fun hHeld => ?_)
        · exact ⟨(((X0.later HW).other (g' := w.heap.size + 2) (by omega) bp0 ap0 lp0 cp0).other (g' := w.heap.size + 3) (by omega) bp1 ap1 lp1 cp1).facts.1, (((X0.later HW).other (g' := w.heap.size + 2) (by omega) bp0 ap0 lp0 cp0).other (g' := w.heap.size + 3) (by omega) bp1 ap1 lp1 cp1).facts.2, (((X1.later HW).other (g' := w.heap.size + 2) (by omega) bp0 ap0 lp0 cp0).other (g' := w.heap.size + 3) (by omega) bp1 ap1 lp1 cp1).facts.1, (((X1.later HW).other (g' := w.heap.size + 2) (by omega) bp0 ap0 lp0 cp0).other (g' := w.heap.size + 3) (by omega) bp1 ap1 lp1 cp1).facts.2, (((X2.later HW).other (g' := w.heap.size + 2) (by omega) bp0 ap0 lp0 cp0).other (g' := w.heap.size + 3) (by omega) bp1 ap1 lp1 cp1).facts.1, (((X2.later HW).other (g' := w.heap.size + 2) (by omega) bp0 ap0 lp0 cp0).other (g' := w.heap.size + 3) (by omega) bp1 ap1 lp1 cp1).facts.2⟩
        clear hK K
        try simp only [Act.put, List.getElem_toArray, List.getElem_cons_succ, List.getElem_cons_zero, List.setIfInBounds_toArray, List.set_cons_zero, List.set_cons_succ]
        refine till_out (i := 11) (by kernel_rfl) rfl (by kernel_rfl) (fun K hK => ?_)
        go_simp
        refine hK.out _ _ ?_
        clear hK K
        try simp only [Act.put, List.getElem_toArray, List.getElem_cons_succ, List.getElem_cons_zero, List.setIfInBounds_toArray, List.set_cons_zero, List.set_cons_succ]
        refine till_done (by kernel_rfl) ?_ _
        go_wp2
        refine bodyPost_ret (v := .tuple #[.agg #[.bool bp0, .slice ap0 lp0 cp0], .agg #[.bool bp1, .slice ap1 lp1 cp1], .agg #[.bool bp2, .slice ap2 lp2 cp2]]) (by simp [results, Try.results16, go_sem, *]) rfl ⟨_, _, _, _, _, _, _, _, _, _, _, _, rfl, ?_⟩
        have n2 := (B2.later HW).noLimb
        have n3 := ((B3.later HW).other (g' := w.heap.size + 2) (by omega) bp0 ap0 lp0 cp0).noLimb
        have n4 := (((B4.later HW).other (g' := w.heap.size + 2) (by omega) bp0 ap0 lp0 cp0).other (g' := w.heap.size + 3) (by omega) bp1 ap1 lp1 cp1).noLimb
        exact ⟨((((hp0.later HW).put n2 bp0 ap0 lp0 cp0).put n3 bp1 ap1 lp1 cp1).put n4 bp2 ap2 lp2 cp2).eq (unhide EG).1, ((((hp1.later HW).put n2 bp0 ap0 lp0 cp0).put n3 bp1 ap1 lp1 cp1).put n4 bp2 ap2 lp2 cp2).eq (unhide EG).2.1, ((((hp2.later HW).put n2 bp0 ap0 lp0 cp0).put n3 bp1 ap1 lp1 cp1).put n4 bp2 ap2 lp2 cp2).eq (unhide EG).2.2, below_put (below_put (below_put (Below.step (unhide HB) HW) (by omega) bp0 ap0 lp0 cp0) (by omega) bp1 ap1 lp1 cp1) (by omega) bp2 ap2 lp2 cp2⟩
    · obtain ⟨s, es⟩ : ∃ s, s = q0.sign := ⟨_, rfl⟩
      have hs : (s == 0) = false := by rw [beq_eq_false_iff_ne, es]; exact fun e => h0 (Int.sign_eq_zero_iff_zero.1 e)
      have hs' : (s != 0) = true := by rw [bne, hs]; rfl
      have H0 := hide h0
      have ES := hide es
      clear h0 es X1 X2 Y1 Y2 hp1 hp2 hq1 hq2
      go_wp2_with fail
      refine (rsignK bq0 aq0 lq0 cq0 q0 kk s _ (hq0.ik hkk) (unhide ES)).mono ?_
      rintro e w1 ⟨rfl, hb9⟩
      replace B2 := B2.later hb9
      replace B3 := B3.later hb9
      replace B4 := B4.later hb9
      replace X0 := X0.later hb9
      replace Y0 := Y0.later hb9
      replace VP := VP.later hb9
      replace VQ := VQ.later hb9
      replace hp0 := hp0.later hb9
      replace hq0 := hq0.later hb9
      replace HB := hide (Below.step (unhide HB) hb9)
      clear hb9 f1 f2 hgl7 hgl8
      have hE2 := (unhide HE).step (unhide H0)
      obtain ⟨m0, m1, m2, m3, m4, m5⟩ := ext_lt hE2 (unhide LX) (unhide LY) hk1 hl1
      have M3 := hide m3
      have M4 := hide m4
      have M5 := hide m5
      have HE2 := hide hE2
      clear m0 m1 m2 m3 m4 m5 hE2 HE
      have hsB := B4.lt
      go_upto_region 4 with fail
      have HW : Below w1.heap.size w1 w1.drew := (Below.refl _ _).drew
      refine till_start (fun w' => w'.cell? ⟨g7, 0, none⟩ = some (.bool bp0) ∧ w'.cell? ⟨g7, 1, none⟩ = some (.slice ap0 lp0 cp0) ∧ w'.cell? ⟨g8, 0, none⟩ = some (.bool bq0) ∧ w'.cell? ⟨g8, 1, none⟩ = some (.slice aq0 lq0 cq0)) 12 (by kernel_rfl) ?_ (fun hHeld => ?_)
      · exact ⟨(X0.later HW).facts.1, (X0.later HW).facts.2, (Y0.later HW).facts.1, (Y0.later HW).facts.2⟩
      obtain ⟨vd1, hvd⟩ : ∃ v, v = w1.drew := ⟨_, rfl⟩
      rw [← hvd] at HW hHeld ⊢
      clear hvd
      refine till_free (i := 0) (v := ?_) rfl (by kernel_rfl) (by kernel_rfl) (by kernel_rfl) (by kernel_rfl) (fun _ _ _ h => h) (Or.inl ⟨by rfl, ?_⟩) (by assumption) ?_
      rotate_left
      · (intro wx hSw; (try dsimp only at hSw); go_simp; (try rw [if_neg (by omega)]); try with_reducible rfl)
      simp only [Act.put, List.getElem_toArray, List.getElem_cons_zero, List.setIfInBounds_toArray, List.set_cons_zero, List.set_cons_succ]
      refine till_take (i := 1) (v := ?_) [2, 6, 7, 8, 9, 12, 13] rfl (by kernel_rfl) (by kernel_rfl) (by kernel_rfl) (by kernel_rfl) (fun _ _ _ h => h) (Or.inl ⟨by rfl, ?_⟩) (by assumption) ?_
      rotate_left
      · (intro wx hSw; (try dsimp only at hSw); go_simp; (try rw [if_neg (by omega)]); try with_reducible rfl)
      simp only [Act.put, List.getElem_toArray, List.getElem_cons_succ, List.getElem_cons_zero, List.setIfInBounds_toArray, List.set_cons_zero, List.set_cons_succ]
      refine till_take (i := 2) (v := ?_) [6, 7, 8, 9, 12, 13] rfl (by kernel_rfl) (by kernel_rfl) (by kernel_rfl) (by kernel_rfl) (fun _ _ _ h => h) (Or.inl ⟨by rfl, ?_⟩) (by assumption) ?_
      rotate_left
      · (intro wx hSw; (try dsimp only at hSw); go_simp; (try rw [if_neg (by omega)]); try with_reducible rfl)
      simp only [Act.put, List.getElem_toArray, List.getElem_cons_succ, List.getElem_cons_zero, List.setIfInBounds_toArray, List.set_cons_zero, List.set_cons_succ]
      refine till_free (i := 3) (v := ?_) rfl (by kernel_rfl) (by kernel_rfl) (by kernel_rfl) (by kernel_rfl) (fun _ _ _ h => h) (Or.inl ⟨by rfl, ?_⟩) (by assumption) ?_
      rotate_left
      · (intro wx hSw; (try dsimp only at hSw); go_simp; (try rw [if_neg (by omega)]); try with_reducible rfl)
      simp only [Act.put, List.getElem_toArray, List.getElem_cons_succ, List.getElem_cons_zero, List.setIfInBounds_toArray, List.set_cons_zero, List.set_cons_succ]
      refine till_take (i := 4) (v := ?_) [5, 6, 7, 8, 9, 12, 13] rfl (by kernel_rfl) (by kernel_rfl) (by kernel_rfl) (by kernel_rfl) (fun _ _ _ h => h) (Or.inl ⟨by rfl, ?_⟩) (by assumption) ?_
      rotate_left
      · (intro wx hSw; (try dsimp only at hSw); go_simp; (try rw [if_neg (by omega)]); try with_reducible rfl)
      simp only [Act.put, List.getElem_toArray, List.getElem_cons_succ, List.getElem_cons_zero, List.setIfInBounds_toArray, List.set_cons_zero, List.set_cons_succ]
      refine till_take (i := 5) (v := ?_) [6, 7, 8, 9, 12, 13] rfl (by kernel_rfl) (by kernel_rfl) (by kernel_rfl) (by kernel_rfl) (fun _ _ _ h => h) (Or.inl ⟨by rfl, ?_⟩) (by assumption) ?_
      rotate_left
      · (intro wx hSw; (try dsimp only at hSw); go_simp; (try rw [if_neg (by omega)]); try with_reducible rfl)
      simp only [Act.put, List.getElem_toArray, List.getElem_cons_succ, List.getElem_cons_zero, List.setIfInBounds_toArray, List.set_cons_zero, List.set_cons_succ]
      refine till_name (fun a0 ha0 => ?_)
      have HA := hide ha0
      clear ha0
      refine till_mid 2 #[true, true, true, true, true, true, true, true, true, true, true, true, false, false] (ι := Bool × Option Addr × Nat × Nat × Bool × Option Addr × Nat × Nat × Nat × Nat) (fun (bk, ak, lk, ck, be, ae, le, ce, g9, g10) => ((((((a0.put (some 35) (.tuple #[.agg #[.bool bk, .slice ak lk ck], .agg #[.bool be, .slice ae le ce]])).put (some 28) (.tuple #[.agg #[.bool bk, .slice ak lk ck], .agg #[.bool be, .slice ae le ce]])).put (some 36) (.agg #[.bool bk, .slice ak lk ck])).put (some 37) (.agg #[.bool be, .slice ae le ce])).put (some 9) ((.pointer (some ⟨g9, 0, none⟩)))).put (some 10) ((.pointer (some ⟨g10, 0, none⟩))))) (fun (bk, ak, lk, ck, be, ae, le, ce, g9, g10) w => Below w1.heap.size w1 w ∧ FK w bk ak lk ck (p0.tdiv q0) kk ∧ FK w be ae le ce (p0.tmod q0) kk ∧ Box w g9 false none 0 0 ∧ w1.heap.size ≤ g9 ∧ Box w g10 false none 0 0 ∧ w1.heap.size ≤ g10 ∧ g9 ≠ g10) ?_ (fun J0 => ?_)
      · rintro ⟨bk, ak, lk, ck, be, ae, le, ce, g9, g10⟩ wj hI
        try dsimp only at hI ⊢
        obtain ⟨HW, hk, he, B9, hg9, B10, hg10, hneg9g10⟩ := hI
        have hHeld : wj.cell? ⟨g7, 0, none⟩ = some (.bool bp0) ∧ wj.cell? ⟨g7, 1, none⟩ = some (.slice ap0 lp0 cp0) ∧ wj.cell? ⟨g8, 0, none⟩ = some (.bool bq0) ∧ wj.cell? ⟨g8, 1, none⟩ = some (.slice aq0 lq0 cq0) := by exact ⟨(X0.later HW).facts.1, (X0.later HW).facts.2, (Y0.later HW).facts.1, (Y0.later HW).facts.2⟩
        rw [unhide HA]
        simp only [Act.put, List.setIfInBounds_toArray, List.set_cons_zero, List.set_cons_succ]
        obtain ⟨q1B9, q2B9, q3B9, q4B9⟩ := B9.facts
        have hltB9 := B9.lt
        obtain ⟨q1B10, q2B10, q3B10, q4B10⟩ := B10.facts
        have hltB10 := B10.lt
        refine till_out (i := 12) (by kernel_rfl) rfl (by kernel_rfl) (fun K hK => ?_)
        go_simp
        refine hK.out _ _ ?_
        clear hK K
        try simp only [List.setIfInBounds_toArray, List.set_cons_zero, List.set_cons_succ]
        refine till_out (i := 13) (by kernel_rfl) rfl (by kernel_rfl) (fun K hK => ?_)
        go_simp
        refine hK.out _ _ ?_
        clear hK K
        try simp only [List.setIfInBounds_toArray, List.set_cons_zero, List.set_cons_succ]
        refine till_done (by kernel_rfl) ?_ _
        have n9 := B9.noLimb
        have n10 := (B10.other (g' := g9) (Ne.symm hneg9g10) bk ak lk ck).noLimb
        have gr9 := grown_set2 wj g9 0 1 (.bool bk) (.slice ak lk ck)
        have gr10 := grown_set2 (put wj g9 bk ak lk ck) g10 0 1 (.bool be) (.slice ae le ce)
        obtain ⟨W0, hW0⟩ : ∃ W0, W0 = ((((wj.setCell ⟨g9, 0, none⟩ (.bool bk)).setCell ⟨g9, 1, none⟩ (.slice ak lk ck)).setCell ⟨g10, 0, none⟩ (.bool be)).setCell ⟨g10, 1, none⟩ (.slice ae le ce)) := ⟨_, rfl⟩
        rw [← hW0]
        have D9 : Box W0 g9 bk ak lk ck := by rw [hW0]; exact (B9.put bk ak lk ck).other (g' := g10) hneg9g10 be ae le ce
        replace B2 : Box W0 (w.heap.size + 2) false none 0 0 := by rw [hW0]; exact ((B2.later HW).other (g' := g9) (by omega) bk ak lk ck).other (g' := g10) (by omega) be ae le ce
        replace B3 : Box W0 (w.heap.size + 3) false none 0 0 := by rw [hW0]; exact ((B3.later HW).other (g' := g9) (by omega) bk ak lk ck).other (g' := g10) (by omega) be ae le ce
        replace B4 : Box W0 (w.heap.size + 4) false none 0 0 := by rw [hW0]; exact ((B4.later HW).other (g' := g9) (by omega) bk ak lk ck).other (g' := g10) (by omega) be ae le ce
        have hx7 := X0.1
        have hx8 := Y0.1
        replace VP := (VP.later HW).grown gr9 (noLimb_some n9) (fun g off e => some_ne (fun e' => by simp only [Option.some.injEq, Addr.mk.injEq, and_true] at e; omega))
        replace VQ := (VQ.later HW).grown gr9 (noLimb_some n9) (fun g off e => some_ne (fun e' => by simp only [Option.some.injEq, Addr.mk.injEq, and_true] at e; omega))
        replace VP : VF W0 (some ⟨g7, 0, none⟩) 3 cp [p0, p1, p2] kk := by rw [hW0]; exact VP.grown gr10 (noLimb_some n10) (fun g off e => some_ne (fun e' => by simp only [Option.some.injEq, Addr.mk.injEq, and_true] at e; omega))
        replace VQ : VF W0 (some ⟨g8, 0, none⟩) 3 cq [q0, q1, q2] kk := by rw [hW0]; exact VQ.grown gr10 (noLimb_some n10) (fun g off e => some_ne (fun e' => by simp only [Option.some.injEq, Addr.mk.injEq, and_true] at e; omega))
        replace hk : FK W0 bk ak lk ck (p0.tdiv q0) kk := by rw [hW0]; exact (hk.put n9 bk ak lk ck).put n10 be ae le ce
        replace HB : Hid (Below w.heap.size w W0) := by rw [hW0]; exact below_put (below_put (Below.step (unhide HB) HW) (by omega) _ _ _ _) (by omega) _ _ _ _
        clear hW0 HW hHeld B9 B10 n9 n10 gr9 gr10 hx7 hx8 he hp0 hq0 X0 Y0 q1B9 q2B9 q3B9 q4B9 q1B10 q2B10 q3B10 q4B10
        go_wp2_with fail
        go_loopw [11, 12] (fun r i wr => ∃ (j : Nat) (ao : Option Addr) (cap : Nat) (rs : List Int), j ≤ 3 ∧ i = .int .i64 (j : Int) ∧ r = .slice ao j cap ∧ OwnV wr W0.heap.size ao j cap rs (max kk (kk + kk) + 1) ∧ (∀ i, i < j → rs.getD i 0 = [p0, p1, p2].getD i 0 - (p0.tdiv q0) * [q0, q1, q2].getD i 0) ∧ Below W0.heap.size W0 wr) (fun _ i _ => 3 - (intOf i).toNat)
        case atStart => exact ⟨0, none, 0, [], by omega, rfl, rfl, ownV_nil _ _ _, fun i hi => absurd hi (by omega), Below.refl _ _⟩
        case round =>
          obtain ⟨j, ao, cap, rs, hj, rfl, rfl, hown, hall, hW⟩ := hrel
          have HA := hide hall
          clear hall
          by_cases hlt : j < 3
          · have hX := VP.at hlt
            have hY := VQ.at hlt
            rw [Nat.zero_add] at hX hY
            obtain ⟨bx, ax, lx, cx, XJ, hxj⟩ := hX
            obtain ⟨bz, az, lz, cz, YJ, hyj⟩ := hY
            have hj1 : (0 : Int) ≤ (j : Int) := by omega
            have hj2 : (j : Int) < 3 := by omega
            have hlens : lk + lz ≤ 1000000 := by have h1 := hk.1.len_le hk.2; have h2 := hyj.1.len_le hyj.2; omega
            have HW : Below W0.heap.size W0 wr.drew := hW.drew
            replace hown := hown.later (Below.refl wr.heap.size wr).drew
            go_upto_region 9 with fail
            refine till_start (fun w' => w'.cell? ⟨g9, 0, none⟩ = some (.bool bk) ∧ w'.cell? ⟨g9, 1, none⟩ = some (.slice ak lk ck) ∧ w'.cell? ⟨g7, j * 2, none⟩ = some (.bool bx) ∧ w'.cell? ⟨g7, j * 2 + 1, none⟩ = some (.slice ax lx cx) ∧ w'.cell? ⟨g8, j * 2, none⟩ = some (.bool bz) ∧ w'.cell? ⟨g8, j * 2 + 1, none⟩ = some (.slice az lz cz)) 14 (by kernel_rfl) ?_ (fun hHeld => ?_)
            · exact ⟨(D9.later HW).facts.1, (D9.later HW).facts.2.1, (XJ.later HW).facts.1, (XJ.later HW).facts.2, (YJ.later HW).facts.1, (YJ.later HW).facts.2⟩
            refine till_take (i := 0) (v := ?_) [13, 14] rfl (by kernel_rfl) (by kernel_rfl) (by kernel_rfl) (by kernel_rfl) (fun _ _ _ h => h) (Or.inl ⟨by rfl, ?_⟩) (by assumption) ?_
            rotate_left
            · (intro w hSw; (try dsimp only at hSw); go_simp; try with_reducible rfl)
            simp only [Act.put, List.getElem_toArray, List.getElem_cons_zero, List.setIfInBounds_toArray, List.set_cons_zero, List.set_cons_succ]
            refine till_take (i := 1) (v := ?_) [3, 4, 11, 12, 13, 14] rfl (by kernel_rfl) (by kernel_rfl) (by kernel_rfl) (by kernel_rfl) (fun _ _ _ h => h) (Or.inl ⟨by rfl, ?_⟩) (by assumption) ?_
            rotate_left
            · (intro w hSw; (try dsimp only at hSw); go_simp; try with_reducible rfl)
            simp only [Act.put, List.getElem_toArray, List.getElem_cons_succ, List.getElem_cons_zero, List.setIfInBounds_toArray, List.set_cons_zero, List.set_cons_succ]
            refine till_take (i := 2) (v := ?_) [3, 4, 11, 12, 13, 14] rfl (by kernel_rfl) (by kernel_rfl) (by kernel_rfl) (by kernel_rfl) (fun _ _ _ h => h) (Or.inl ⟨by rfl, ?_⟩) (by assumption) ?_
            rotate_left
            · (intro w hSw; (try dsimp only at hSw); go_simp; try with_reducible rfl)
            simp only [Act.put, List.getElem_toArray, List.getElem_cons_succ, List.getElem_cons_zero, List.setIfInBounds_toArray, List.set_cons_zero, List.set_cons_succ]
            refine till_take (i := 3) (v := ?_) [4, 11, 12, 13, 14] rfl (by kernel_rfl) (by kernel_rfl) (by kernel_rfl) (by kernel_rfl) (fun _ _ _ h => h) (Or.inl ⟨by rfl, ?_⟩) (by assumption) ?_
            rotate_left
            · (intro w hSw; (try dsimp only at hSw); go_simp; try with_reducible rfl)
            simp only [Act.put, List.getElem_toArray, List.getElem_cons_succ, List.getElem_cons_zero, List.setIfInBounds_toArray, List.set_cons_zero, List.set_cons_succ]
            refine till_take (i := 4) (v := ?_) [11, 12, 13, 14] rfl (by kernel_rfl) (by kernel_rfl) (by kernel_rfl) (by kernel_rfl) (fun _ _ _ h => h) (Or.inl ⟨by rfl, ?_⟩) (by assumption) ?_
            rotate_left
            · (intro w hSw; (try dsimp only at hSw); go_simp; try with_reducible rfl)
            simp only [Act.put, List.getElem_toArray, List.getElem_cons_succ, List.getElem_cons_zero, List.setIfInBounds_toArray, List.set_cons_zero, List.set_cons_succ]
            refine till_take (i := 5) (v := ?_) [10, 11, 12, 13, 14] rfl (by kernel_rfl) (by kernel_rfl) (by kernel_rfl) (by kernel_rfl) (fun _ _ _ h => h) (Or.inl ⟨by rfl, ?_⟩) (by assumption) ?_
            rotate_left
            · (intro w hSw; (try dsimp only at hSw); go_simp; try with_reducible rfl)
            simp only [Act.put, List.getElem_toArray, List.getElem_cons_succ, List.getElem_cons_zero, List.setIfInBounds_toArray, List.set_cons_zero, List.set_cons_succ]
            refine till_take (i := 6) (v := ?_) [8, 9, 10, 11, 12, 13, 14] rfl (by kernel_rfl) (by kernel_rfl) (by kernel_rfl) (by kernel_rfl) (fun _ _ _ h => h) (Or.inl ⟨by rfl, ?_⟩) (by assumption) ?_
            rotate_left
            · (intro w hSw; (try dsimp only at hSw); go_simp; try with_reducible rfl)
            simp only [Act.put, List.getElem_toArray, List.getElem_cons_succ, List.getElem_cons_zero, List.setIfInBounds_toArray, List.set_cons_zero, List.set_cons_succ]
            refine till_take (i := 7) (v := ?_) [8, 9, 10, 11, 12, 13, 14] rfl (by kernel_rfl) (by kernel_rfl) (by kernel_rfl) (by kernel_rfl) (fun _ _ _ h => h) (Or.inl ⟨by rfl, ?_⟩) (by assumption) ?_
            rotate_left
            · (intro w hSw; (try dsimp only at hSw); go_simp; try with_reducible rfl)
            simp only [Act.put, List.getElem_toArray, List.getElem_cons_succ, List.getElem_cons_zero, List.setIfInBounds_toArray, List.set_cons_zero, List.set_cons_succ]
            refine till_take (i := 8) (v := ?_) [9, 10, 11, 12, 13, 14] rfl (by kernel_rfl) (by kernel_rfl) (by kernel_rfl) (by kernel_rfl) (fun _ _ _ h => h) (Or.inl ⟨by rfl, ?_⟩) (by assumption) ?_
            rotate_left
            · (intro w hSw; (try dsimp only at hSw); go_simp; try with_reducible rfl)
            simp only [Act.put, List.getElem_toArray, List.getElem_cons_succ, List.getElem_cons_zero, List.setIfInBounds_toArray, List.set_cons_zero, List.set_cons_succ]
            refine till_take (i := 9) (v := ?_) [10, 11, 12, 13, 14] rfl (by kernel_rfl) (by kernel_rfl) (by kernel_rfl) (by kernel_rfl) (fun _ _ _ h => h) (Or.inl ⟨by rfl, ?_⟩) (by assumption) ?_
            rotate_left
            · (intro w hSw; (try dsimp only at hSw); go_simp; try with_reducible rfl)
            simp only [Act.put, List.getElem_toArray, List.getElem_cons_succ, List.getElem_cons_zero, List.setIfInBounds_toArray, List.set_cons_zero, List.set_cons_succ]
            refine till_in (i := 10) (by kernel_rfl) rfl (fun K hK => ?_)
            go_simp
            refine (rmulK bk ak lk ck (p0.tdiv q0) kk bz az lz cz ([q0, q1, q2].getD j 0) kk _ ((hk.later HW).ik hkk) ((hyj.later HW).ik hkk) hlens).mono ?_
            rintro e w9 ⟨bm, am, lm, cm, rfl, hm, hb9⟩
            replace HW := Below.step HW hb9
            replace hown := hown.later hb9
            clear hb9
            refine hK.out _ _ ?_ (fun hHeld => ?_)
            · exact ⟨(D9.later HW).facts.1, (D9.later HW).facts.2.1, (XJ.later HW).facts.1, (XJ.later HW).facts.2, (YJ.later HW).facts.1, (YJ.later HW).facts.2⟩
            clear hK K
            try simp only [Act.put, List.getElem_toArray, List.getElem_cons_succ, List.getElem_cons_zero, List.setIfInBounds_toArray, List.set_cons_zero, List.set_cons_succ]
            refine till_in (i := 11) (by kernel_rfl) rfl (fun K hK => ?_)
            go_simp
            refine (rsubK bx ax lx cx ([p0, p1, p2].getD j 0) kk bm am lm cm ((p0.tdiv q0) * ([q0, q1, q2].getD j 0)) (kk + kk) _ ((hxj.later HW).ik hkk) (hm.ik (by omega))).mono ?_
            rintro e w9 ⟨bu, au, lu, cu, rfl, hu, hb9⟩
            replace HW := Below.step HW hb9
            replace hown := hown.later hb9
            clear hb9
            clear hm
            refine hK.out _ _ ?_ (fun hHeld => ?_)
            · exact ⟨(D9.later HW).facts.1, (D9.later HW).facts.2.1, (XJ.later HW).facts.1, (XJ.later HW).facts.2, (YJ.later HW).facts.1, (YJ.later HW).facts.2⟩
            clear hK K
            try simp only [Act.put, List.getElem_toArray, List.getElem_cons_succ, List.getElem_cons_zero, List.setIfInBounds_toArray, List.set_cons_zero, List.set_cons_succ]
            refine till_in (i := 12) (by kernel_rfl) rfl (fun K hK => ?_)
            go_simp
            obtain ⟨wa, hWa⟩ : ∃ W', W' = w9.alloc (.cells #[.bool bu, .slice au lu cu] 24) := ⟨_, rfl⟩
            obtain ⟨Bu, hb9⟩ := boxes1 w9 bu au lu cu hWa
            rw [← hWa]
            clear hWa
            replace HW := Below.step HW hb9
            replace hu := hu.later hb9
            replace hown := hown.later hb9
            have hEu : EltAt wa w9.heap.size 0 bu au lu cu := ⟨Bu.lt, Bu.facts.1, Bu.facts.2.1⟩
            clear hb9 Bu
            have hsz := HW.size
            refine hK.out _ _ ?_ (fun hHeld => ?_)
            · exact ⟨(D9.later HW).facts.1, (D9.later HW).facts.2.1, (XJ.later HW).facts.1, (XJ.later HW).facts.2, (YJ.later HW).facts.1, (YJ.later HW).facts.2⟩
            clear hK K
            try simp only [Act.put, List.getElem_toArray, List.getElem_cons_succ, List.getElem_cons_zero, List.setIfInBounds_toArray, List.set_cons_zero, List.set_cons_succ]
            refine till_in (i := 13) (by kernel_rfl) rfl (fun K hK => ?_)
            refine step_vec (by rfl) _ _ 35 Try.underlying35 (by rfl) W0.heap.size ao j cap (max kk (kk + kk) + 1) rs (by rfl) hown (by omega) hsz w9.heap.size 0 1 bu au lu cu (([p0, p1, p2].getD j 0) - (p0.tdiv q0) * ([q0, q1, q2].getD j 0)) (by rfl) hEu hu ?_
            intro gn cn w9 hown2 hgr hat
            replace HW := HW.grown hgr hsz (own_ge hown)
            refine hK.out _ _ ?_ (fun hHeld => ?_)
            · exact ⟨(D9.later HW).facts.1, (D9.later HW).facts.2.1, (XJ.later HW).facts.1, (XJ.later HW).facts.2, (YJ.later HW).facts.1, (YJ.later HW).facts.2⟩
            clear hK K
            try simp only [Act.put, List.getElem_toArray, List.getElem_cons_succ, List.getElem_cons_zero, List.setIfInBounds_toArray, List.set_cons_zero, List.set_cons_succ]
            refine till_out (i := 14) (by kernel_rfl) rfl (by kernel_rfl) (fun K hK => ?_)
            go_simp
            refine hK.out _ _ ?_
            clear hK K
            try simp only [Act.put, List.getElem_toArray, List.getElem_cons_succ, List.getElem_cons_zero, List.setIfInBounds_toArray, List.set_cons_zero, List.set_cons_succ]
            refine till_done (by kernel_rfl) ?_ _
            go_wp2
            go_roundw
            case rel => exact ⟨j + 1, _, _, _, by omega, by go_num, rfl, hown2, snoc_each hown.len (unhide HA), HW⟩
            case measure => simp [intOf]; omega
          · obtain rfl : j = 3 := by omega
            obtain ⟨gn, rfl⟩ := hown.form (by omega)
            have hrs := three_of hown.len (unhide HA)
            rw [sub_tdiv] at hrs
            subst hrs
            have hbn := hown.base_le
            have hV := hown.vf.le (l := kk) (fun i hi => by
              match i with
              | 0 => exact unhide M3
              | 1 => exact unhide M4
              | 2 => exact unhide M5)
            have hsW := B4.lt
            go_wp2
            go_roundg ((p0.tmod q0).natAbs)
            case measure => exact lt_of_abs (unhide HG) (unhide H0)
            case rel => exact ⟨_, _, _, _, q0, q1, q2, _, _, _, rfl, rfl, VQ.later hW, hV, hg8, B2.later hW, B3.later hW, B4.later hW, unhide HE2, (extR_more (unhide H0)).symm.trans (unhide HR), rfl, by omega, Below.step (unhide HB) hW⟩
      refine till_mid 3 #[true, true, true, true, true, true, true, true, true, true, false, true, false, false] (ι := Bool × Option Addr × Nat × Nat × Bool × Option Addr × Nat × Nat × Nat) (fun (bk, ak, lk, ck, be, ae, le, ce, g10) => (((((a0.put (some 35) (.tuple #[.agg #[.bool bk, .slice ak lk ck], .agg #[.bool be, .slice ae le ce]])).put (some 28) (.tuple #[.agg #[.bool bk, .slice ak lk ck], .agg #[.bool be, .slice ae le ce]])).put (some 36) (.agg #[.bool bk, .slice ak lk ck])).put (some 37) (.agg #[.bool be, .slice ae le ce])).put (some 10) ((.pointer (some ⟨g10, 0, none⟩))))) (fun (bk, ak, lk, ck, be, ae, le, ce, g10) w => Below w1.heap.size w1 w ∧ FK w bk ak lk ck (p0.tdiv q0) kk ∧ FK w be ae le ce (p0.tmod q0) kk ∧ Box w g10 false none 0 0 ∧ w1.heap.size ≤ g10) ?_ (fun J1 => ?_)
      · rintro ⟨bk, ak, lk, ck, be, ae, le, ce, g10⟩ wj hI
        try dsimp only at hI ⊢
        obtain ⟨HW, hk, he, B10, hg10⟩ := hI
        have hHeld : wj.cell? ⟨g7, 0, none⟩ = some (.bool bp0) ∧ wj.cell? ⟨g7, 1, none⟩ = some (.slice ap0 lp0 cp0) ∧ wj.cell? ⟨g8, 0, none⟩ = some (.bool bq0) ∧ wj.cell? ⟨g8, 1, none⟩ = some (.slice aq0 lq0 cq0) := by exact ⟨(X0.later HW).facts.1, (X0.later HW).facts.2, (Y0.later HW).facts.1, (Y0.later HW).facts.2⟩
        rw [unhide HA]
        simp only [Act.put, List.setIfInBounds_toArray, List.set_cons_zero, List.set_cons_succ]
        refine till_in (i := 10) (by kernel_rfl) rfl (fun K hK => ?_)
        go_simp
        have hwk : w1.heap.size ≤ wj.heap.size := HW.size
        have hxg10 := B10.lt
        obtain ⟨wk, hWe⟩ : ∃ W', W' = wj.alloc (.cells #[.bool false, .slice none 0 0] 24) := ⟨_, rfl⟩
        obtain ⟨B9, hb9⟩ := boxes1 wj false none 0 0 hWe
        rw [← hWe]
        clear hWe
        replace HW := Below.step HW hb9
        replace hk := hk.later hb9
        replace he := he.later hb9
        replace B10 := B10.later hb9
        clear hb9
        have hg9 := hwk
        have hneg9g10 : wj.heap.size ≠ g10 := by omega
        refine hK.out _ _ ?_ (fun hHeld => ?_)
        · exact ⟨(X0.later HW).facts.1, (X0.later HW).facts.2, (Y0.later HW).facts.1, (Y0.later HW).facts.2⟩
        clear hK K
        try simp only [List.setIfInBounds_toArray, List.set_cons_zero, List.set_cons_succ]
        exact till_go J0 (bk, ak, lk, ck, be, ae, le, ce, wj.heap.size, g10) rfl (by kernel_rfl) (by (try dsimp only); rw [unhide HA]; simp only [Act.put, List.setIfInBounds_toArray, List.set_cons_zero, List.set_cons_succ]) (by (try dsimp only); exact ⟨HW, hk, he, B9, hg9, B10, hg10, hneg9g10⟩)
      refine till_mid 3 #[true, true, true, true, true, true, true, true, true, true, true, false, false, false] (ι := Bool × Option Addr × Nat × Nat × Bool × Option Addr × Nat × Nat × Nat) (fun (bk, ak, lk, ck, be, ae, le, ce, g9) => (((((a0.put (some 35) (.tuple #[.agg #[.bool bk, .slice ak lk ck], .agg #[.bool be, .slice ae le ce]])).put (some 28) (.tuple #[.agg #[.bool bk, .slice ak lk ck], .agg #[.bool be, .slice ae le ce]])).put (some 36) (.agg #[.bool bk, .slice ak lk ck])).put (some 37) (.agg #[.bool be, .slice ae le ce])).put (some 9) ((.pointer (some ⟨g9, 0, none⟩))))) (fun (bk, ak, lk, ck, be, ae, le, ce, g9) w => Below w1.heap.size w1 w ∧ FK w bk ak lk ck (p0.tdiv q0) kk ∧ FK w be ae le ce (p0.tmod q0) kk ∧ Box w g9 false none 0 0 ∧ w1.heap.size ≤ g9) ?_ (fun J2 => ?_)
      · rintro ⟨bk, ak, lk, ck, be, ae, le, ce, g9⟩ wj hI
        try dsimp only at hI ⊢
        obtain ⟨HW, hk, he, B9, hg9⟩ := hI
        have hHeld : wj.cell? ⟨g7, 0, none⟩ = some (.bool bp0) ∧ wj.cell? ⟨g7, 1, none⟩ = some (.slice ap0 lp0 cp0) ∧ wj.cell? ⟨g8, 0, none⟩ = some (.bool bq0) ∧ wj.cell? ⟨g8, 1, none⟩ = some (.slice aq0 lq0 cq0) := by exact ⟨(X0.later HW).facts.1, (X0.later HW).facts.2, (Y0.later HW).facts.1, (Y0.later HW).facts.2⟩
        rw [unhide HA]
        simp only [Act.put, List.setIfInBounds_toArray, List.set_cons_zero, List.set_cons_succ]
        refine till_in (i := 11) (by kernel_rfl) rfl (fun K hK => ?_)
        go_simp
        have hwk : w1.heap.size ≤ wj.heap.size := HW.size
        have hxg9 := B9.lt
        obtain ⟨wk, hWe⟩ : ∃ W', W' = wj.alloc (.cells #[.bool false, .slice none 0 0] 24) := ⟨_, rfl⟩
        obtain ⟨B10, hb9⟩ := boxes1 wj false none 0 0 hWe
        rw [← hWe]
        clear hWe
        replace HW := Below.step HW hb9
        replace hk := hk.later hb9
        replace he := he.later hb9
        replace B9 := B9.later hb9
        clear hb9
        have hg10 := hwk
        have hneg9g10 : g9 ≠ wj.heap.size := by omega
        refine hK.out _ _ ?_ (fun hHeld => ?_)
        · exact ⟨(X0.later HW).facts.1, (X0.later HW).facts.2, (Y0.later HW).facts.1, (Y0.later HW).facts.2⟩
        clear hK K
        try simp only [List.setIfInBounds_toArray, List.set_cons_zero, List.set_cons_succ]
        exact till_go J0 (bk, ak, lk, ck, be, ae, le, ce, g9, wj.heap.size) rfl (by kernel_rfl) (by (try dsimp only); rw [unhide HA]; simp only [Act.put, List.setIfInBounds_toArray, List.set_cons_zero, List.set_cons_succ]) (by (try dsimp only); exact ⟨HW, hk, he, B9, hg9, B10, hg10, hneg9g10⟩)
      refine till_mid 4 #[true, true, true, true, true, true, true, true, true, true, false, false, false, false] (ι := Bool × Option Addr × Nat × Nat × Bool × Option Addr × Nat × Nat) (fun (bk, ak, lk, ck, be, ae, le, ce) => ((((a0.put (some 35) (.tuple #[.agg #[.bool bk, .slice ak lk ck], .agg #[.bool be, .slice ae le ce]])).put (some 28) (.tuple #[.agg #[.bool bk, .slice ak lk ck], .agg #[.bool be, .slice ae le ce]])).put (some 36) (.agg #[.bool bk, .slice ak lk ck])).put (some 37) (.agg #[.bool be, .slice ae le ce]))) (fun (bk, ak, lk, ck, be, ae, le, ce) w => Below w1.heap.size w1 w ∧ FK w bk ak lk ck (p0.tdiv q0) kk ∧ FK w be ae le ce (p0.tmod q0) kk) ?_ (fun J3 => ?_)
      · rintro ⟨bk, ak, lk, ck, be, ae, le, ce⟩ wj hI
        try dsimp only at hI ⊢
        obtain ⟨HW, hk, he⟩ := hI
        have hHeld : wj.cell? ⟨g7, 0, none⟩ = some (.bool bp0) ∧ wj.cell? ⟨g7, 1, none⟩ = some (.slice ap0 lp0 cp0) ∧ wj.cell? ⟨g8, 0, none⟩ = some (.bool bq0) ∧ wj.cell? ⟨g8, 1, none⟩ = some (.slice aq0 lq0 cq0) := by exact ⟨(X0.later HW).facts.1, (X0.later HW).facts.2, (Y0.later HW).facts.1, (Y0.later HW).facts.2⟩
        rw [unhide HA]
        simp only [Act.put, List.setIfInBounds_toArray, List.set_cons_zero, List.set_cons_succ]
        refine till_two (i := 10) (j := 11) (by kernel_rfl) rfl rfl (fun K hK => ?_) (fun K hK => ?_)
        · go_simp
          have hwk : w1.heap.size ≤ wj.heap.size := HW.size
          obtain ⟨wk, hWe⟩ : ∃ W', W' = wj.alloc (.cells #[.bool false, .slice none 0 0] 24) := ⟨_, rfl⟩
          obtain ⟨B9, hb9⟩ := boxes1 wj false none 0 0 hWe
          rw [← hWe]
          clear hWe
          replace HW := Below.step HW hb9
          replace hk := hk.later hb9
          replace he := he.later hb9
          clear hb9
          have hg9 := hwk
          refine hK.out _ _ ?_ (fun hHeld => ?_)
          · exact ⟨(X0.later HW).facts.1, (X0.later HW).facts.2, (Y0.later HW).facts.1, (Y0.later HW).facts.2⟩
          clear hK K
          try simp only [List.setIfInBounds_toArray, List.set_cons_zero, List.set_cons_succ]
          exact till_go J2 (bk, ak, lk, ck, be, ae, le, ce, wj.heap.size) rfl (by kernel_rfl) (by (try dsimp only); rw [unhide HA]; simp only [Act.put, List.setIfInBounds_toArray, List.set_cons_zero, List.set_cons_succ]) (by (try dsimp only); exact ⟨HW, hk, he, B9, hg9⟩)
        · go_simp
          have hwk : w1.heap.size ≤ wj.heap.size := HW.size
          obtain ⟨wk, hWe⟩ : ∃ W', W' = wj.alloc (.cells #[.bool false, .slice none 0 0] 24) := ⟨_, rfl⟩
          obtain ⟨B10, hb9⟩ := boxes1 wj false none 0 0 hWe
          rw [← hWe]
          clear hWe
          replace HW := Below.step HW hb9
          replace hk := hk.later hb9
          replace he := he.later hb9
          clear hb9
          have hg10 := hwk
          refine hK.out _ _ ?_ (fun hHeld => ?_)
          · exact ⟨(X0.later HW).facts.1, (X0.later HW).facts.2, (Y0.later HW).facts.1, (Y0.later HW).facts.2⟩
          clear hK K
          try simp only [List.setIfInBounds_toArray, List.set_cons_zero, List.set_cons_succ]
          exact till_go J1 (bk, ak, lk, ck, be, ae, le, ce, wj.heap.size) rfl (by kernel_rfl) (by (try dsimp only); rw [unhide HA]; simp only [Act.put, List.setIfInBounds_toArray, List.set_cons_zero, List.set_cons_succ]) (by (try dsimp only); exact ⟨HW, hk, he, B10, hg10⟩)
      refine till_mid 6 #[true, true, true, true, true, true, false, false, false, false, true, true, false, false] (ι := Nat × Nat) (fun (g9, g10) => ((a0.put (some 9) ((.pointer (some ⟨g9, 0, none⟩)))).put (some 10) ((.pointer (some ⟨g10, 0, none⟩))))) (fun (g9, g10) w => Below w1.heap.size w1 w ∧ Box w g9 false none 0 0 ∧ w1.heap.size ≤ g9 ∧ Box w g10 false none 0 0 ∧ w1.heap.size ≤ g10 ∧ g9 ≠ g10) ?_ (fun J4 => ?_)
      · rintro ⟨g9, g10⟩ wj hI
        try dsimp only at hI ⊢
        obtain ⟨HW, B9, hg9, B10, hg10, hneg9g10⟩ := hI
        have hHeld : wj.cell? ⟨g7, 0, none⟩ = some (.bool bp0) ∧ wj.cell? ⟨g7, 1, none⟩ = some (.slice ap0 lp0 cp0) ∧ wj.cell? ⟨g8, 0, none⟩ = some (.bool bq0) ∧ wj.cell? ⟨g8, 1, none⟩ = some (.slice aq0 lq0 cq0) := by exact ⟨(X0.later HW).facts.1, (X0.later HW).facts.2, (Y0.later HW).facts.1, (Y0.later HW).facts.2⟩
        rw [unhide HA]
        simp only [Act.put, List.setIfInBounds_toArray, List.set_cons_zero, List.set_cons_succ]
        refine till_in (i := 6) (by kernel_rfl) rfl (fun K hK => ?_)
        go_simp
        refine (rquoK bp0 ap0 lp0 cp0 p0 kk bq0 aq0 lq0 cq0 q0 kk _ ((hp0.later HW).ik hkk) ((hq0.later HW).ik hkk) (unhide H0)).mono ?_
        rintro e wk ⟨bk, ak, lk, ck, be, ae, le, ce, rfl, hk, he, hb9⟩
        replace HW := Below.step HW hb9
        replace B9 := B9.later hb9
        replace B10 := B10.later hb9
        clear hb9
        refine hK.out _ _ ?_ (fun hHeld => ?_)
        · exact ⟨(X0.later HW).facts.1, (X0.later HW).facts.2, (Y0.later HW).facts.1, (Y0.later HW).facts.2⟩
        clear hK K
        try simp only [List.setIfInBounds_toArray, List.set_cons_zero, List.set_cons_succ]
        refine till_free (i := 7) (v := ?_) rfl (by kernel_rfl) (by kernel_rfl) (by kernel_rfl) (by kernel_rfl) (fun _ _ _ h => h) (Or.inl ⟨by rfl, ?_⟩) (by assumption) ?_
        rotate_left
        · (intro wx hSw; (try dsimp only at hSw); go_simp; (try rw [if_neg (by omega)]); try with_reducible rfl)
        simp only [Act.put, List.getElem_toArray, List.getElem_cons_succ, List.getElem_cons_zero, List.setIfInBounds_toArray, List.set_cons_zero, List.set_cons_succ]
        refine till_free (i := 8) (v := ?_) rfl (by kernel_rfl) (by kernel_rfl) (by kernel_rfl) (by kernel_rfl) (fun _ _ _ h => h) (Or.inl ⟨by rfl, ?_⟩) (by assumption) ?_
        rotate_left
        · (intro wx hSw; (try dsimp only at hSw); go_simp; (try rw [if_neg (by omega)]); try with_reducible rfl)
        simp only [Act.put, List.getElem_toArray, List.getElem_cons_succ, List.getElem_cons_zero, List.setIfInBounds_toArray, List.set_cons_zero, List.set_cons_succ]
        refine till_free (i := 9) (v := ?_) rfl (by kernel_rfl) (by kernel_rfl) (by kernel_rfl) (by kernel_rfl) (fun _ _ _ h => h) (Or.inl ⟨by rfl, ?_⟩) (by assumption) ?_
        rotate_left
        · (intro wx hSw; (try dsimp only at hSw); go_simp; (try rw [if_neg (by omega)]); try with_reducible rfl)
        simp only [Act.put, List.getElem_toArray, List.getElem_cons_succ, List.getElem_cons_zero, List.setIfInBounds_toArray, List.set_cons_zero, List.set_cons_succ]
        exact till_go J0 (bk, ak, lk, ck, be, ae, le, ce, g9, g10) rfl (by kernel_rfl) (by (try dsimp only); rw [unhide HA]; simp only [Act.put, List.setIfInBounds_toArray, List.set_cons_zero, List.set_cons_succ]) (by (try dsimp only); exact ⟨HW, hk, he, B9, hg9, B10, hg10, hneg9g10⟩)
      refine till_mid 7 #[true, true, true, true, true, true, false, false, false, false, false, true, false, false] (ι := Nat) (fun g10 => (a0.put (some 10) ((.pointer (some ⟨g10, 0, none⟩))))) (fun g10 w => Below w1.heap.size w1 w ∧ Box w g10 false none 0 0 ∧ w1.heap.size ≤ g10) ?_ (fun J5 => ?_)
      · rintro g10 wj hI
        try dsimp only at hI ⊢
        obtain ⟨HW, B10, hg10⟩ := hI
        have hHeld : wj.cell? ⟨g7, 0, none⟩ = some (.bool bp0) ∧ wj.cell? ⟨g7, 1, none⟩ = some (.slice ap0 lp0 cp0) ∧ wj.cell? ⟨g8, 0, none⟩ = some (.bool bq0) ∧ wj.cell? ⟨g8, 1, none⟩ = some (.slice aq0 lq0 cq0) := by exact ⟨(X0.later HW).facts.1, (X0.later HW).facts.2, (Y0.later HW).facts.1, (Y0.later HW).facts.2⟩
        rw [unhide HA]
        simp only [Act.put, List.setIfInBounds_toArray, List.set_cons_zero, List.set_cons_succ]
        refine till_two (i := 6) (j := 10) (by kernel_rfl) rfl rfl (fun K hK => ?_) (fun K hK => ?_)
        · go_simp
          refine (rquoK bp0 ap0 lp0 cp0 p0 kk bq0 aq0 lq0 cq0 q0 kk _ ((hp0.later HW).ik hkk) ((hq0.later HW).ik hkk) (unhide H0)).mono ?_
          rintro e wk ⟨bk, ak, lk, ck, be, ae, le, ce, rfl, hk, he, hb9⟩
          replace HW := Below.step HW hb9
          replace B10 := B10.later hb9
          clear hb9
          refine hK.out _ _ ?_ (fun hHeld => ?_)
          · exact ⟨(X0.later HW).facts.1, (X0.later HW).facts.2, (Y0.later HW).facts.1, (Y0.later HW).facts.2⟩
          clear hK K
          try simp only [List.setIfInBounds_toArray, List.set_cons_zero, List.set_cons_succ]
          refine till_free (i := 7) (v := ?_) rfl (by kernel_rfl) (by kernel_rfl) (by kernel_rfl) (by kernel_rfl) (fun _ _ _ h => h) (Or.inl ⟨by rfl, ?_⟩) (by assumption) ?_
          rotate_left
          · (intro wx hSw; (try dsimp only at hSw); go_simp; (try rw [if_neg (by omega)]); try with_reducible rfl)
          simp only [Act.put, List.getElem_toArray, List.getElem_cons_succ, List.getElem_cons_zero, List.setIfInBounds_toArray, List.set_cons_zero, List.set_cons_succ]
          refine till_free (i := 8) (v := ?_) rfl (by kernel_rfl) (by kernel_rfl) (by kernel_rfl) (by kernel_rfl) (fun _ _ _ h => h) (Or.inl ⟨by rfl, ?_⟩) (by assumption) ?_
          rotate_left
          · (intro wx hSw; (try dsimp only at hSw); go_simp; (try rw [if_neg (by omega)]); try with_reducible rfl)
          simp only [Act.put, List.getElem_toArray, List.getElem_cons_succ, List.getElem_cons_zero, List.setIfInBounds_toArray, List.set_cons_zero, List.set_cons_succ]
          refine till_free (i := 9) (v := ?_) rfl (by kernel_rfl) (by kernel_rfl) (by kernel_rfl) (by kernel_rfl) (fun _ _ _ h => h) (Or.inl ⟨by rfl, ?_⟩) (by assumption) ?_
          rotate_left
          · (intro wx hSw; (try dsimp only at hSw); go_simp; (try rw [if_neg (by omega)]); try with_reducible rfl)
          simp only [Act.put, List.getElem_toArray, List.getElem_cons_succ, List.getElem_cons_zero, List.setIfInBounds_toArray, List.set_cons_zero, List.set_cons_succ]
          exact till_go J1 (bk, ak, lk, ck, be, ae, le, ce, g10) rfl (by kernel_rfl) (by (try dsimp only); rw [unhide HA]; simp only [Act.put, List.setIfInBounds_toArray, List.set_cons_zero, List.set_cons_succ]) (by (try dsimp only); exact ⟨HW, hk, he, B10, hg10⟩)
        · go_simp
          have hwk : w1.heap.size ≤ wj.heap.size := HW.size
          have hxg10 := B10.lt
          obtain ⟨wk, hWe⟩ : ∃ W', W' = wj.alloc (.cells #[.bool false, .slice none 0 0] 24) := ⟨_, rfl⟩
          obtain ⟨B9, hb9⟩ := boxes1 wj false none 0 0 hWe
          rw [← hWe]
          clear hWe
          replace HW := Below.step HW hb9
          replace B10 := B10.later hb9
          clear hb9
          have hg9 := hwk
          have hneg9g10 : wj.heap.size ≠ g10 := by omega
          refine hK.out _ _ ?_ (fun hHeld => ?_)
          · exact ⟨(X0.later HW).facts.1, (X0.later HW).facts.2, (Y0.later HW).facts.1, (Y0.later HW).facts.2⟩
          clear hK K
          try simp only [List.setIfInBounds_toArray, List.set_cons_zero, List.set_cons_succ]
          exact till_go J4 (wj.heap.size, g10) rfl (by kernel_rfl) (by (try dsimp only); rw [unhide HA]; simp only [Act.put, List.setIfInBounds_toArray, List.set_cons_zero, List.set_cons_succ]) (by (try dsimp only); exact ⟨HW, B9, hg9, B10, hg10, hneg9g10⟩)
      refine till_mid 7 #[true, true, true, true, true, true, false, false, false, false, true, false, false, false] (ι := Nat) (fun g9 => (a0.put (some 9) ((.pointer (some ⟨g9, 0, none⟩))))) (fun g9 w => Below w1.heap.size w1 w ∧ Box w g9 false none 0 0 ∧ w1.heap.size ≤ g9) ?_ (fun J6 => ?_)
      · rintro g9 wj hI
        try dsimp only at hI ⊢
        obtain ⟨HW, B9, hg9⟩ := hI
        have hHeld : wj.cell? ⟨g7, 0, none⟩ = some (.bool bp0) ∧ wj.cell? ⟨g7, 1, none⟩ = some (.slice ap0 lp0 cp0) ∧ wj.cell? ⟨g8, 0, none⟩ = some (.bool bq0) ∧ wj.cell? ⟨g8, 1, none⟩ = some (.slice aq0 lq0 cq0) := by exact ⟨(X0.later HW).facts.1, (X0.later HW).facts.2, (Y0.later HW).facts.1, (Y0.later HW).facts.2⟩
        rw [unhide HA]
        simp only [Act.put, List.setIfInBounds_toArray, List.set_cons_zero, List.set_cons_succ]
        refine till_two (i := 6) (j := 11) (by kernel_rfl) rfl rfl (fun K hK => ?_) (fun K hK => ?_)
        · go_simp
          refine (rquoK bp0 ap0 lp0 cp0 p0 kk bq0 aq0 lq0 cq0 q0 kk _ ((hp0.later HW).ik hkk) ((hq0.later HW).ik hkk) (unhide H0)).mono ?_
          rintro e wk ⟨bk, ak, lk, ck, be, ae, le, ce, rfl, hk, he, hb9⟩
          replace HW := Below.step HW hb9
          replace B9 := B9.later hb9
          clear hb9
          refine hK.out _ _ ?_ (fun hHeld => ?_)
          · exact ⟨(X0.later HW).facts.1, (X0.later HW).facts.2, (Y0.later HW).facts.1, (Y0.later HW).facts.2⟩
          clear hK K
          try simp only [List.setIfInBounds_toArray, List.set_cons_zero, List.set_cons_succ]
          refine till_free (i := 7) (v := ?_) rfl (by kernel_rfl) (by kernel_rfl) (by kernel_rfl) (by kernel_rfl) (fun _ _ _ h => h) (Or.inl ⟨by rfl, ?_⟩) (by assumption) ?_
          rotate_left
          · (intro wx hSw; (try dsimp only at hSw); go_simp; (try rw [if_neg (by omega)]); try with_reducible rfl)
          simp only [Act.put, List.getElem_toArray, List.getElem_cons_succ, List.getElem_cons_zero, List.setIfInBounds_toArray, List.set_cons_zero, List.set_cons_succ]
          refine till_free (i := 8) (v := ?_) rfl (by kernel_rfl) (by kernel_rfl) (by kernel_rfl) (by kernel_rfl) (fun _ _ _ h => h) (Or.inl ⟨by rfl, ?_⟩) (by assumption) ?_
          rotate_left
          · (intro wx hSw; (try dsimp only at hSw); go_simp; (try rw [if_neg (by omega)]); try with_reducible rfl)
          simp only [Act.put, List.getElem_toArray, List.getElem_cons_succ, List.getElem_cons_zero, List.setIfInBounds_toArray, List.set_cons_zero, List.set_cons_succ]
          refine till_free (i := 9) (v := ?_) rfl (by kernel_rfl) (by kernel_rfl) (by kernel_rfl) (by kernel_rfl) (fun _ _ _ h => h) (Or.inl ⟨by rfl, ?_⟩) (by assumption) ?_
          rotate_left
          · (intro wx hSw; (try dsimp only at hSw); go_simp; (try rw [if_neg (by omega)]); try with_reducible rfl)
          simp only [Act.put, List.getElem_toArray, List.getElem_cons_succ, List.getElem_cons_zero, List.setIfInBounds_toArray, List.set_cons_zero, List.set_cons_succ]
          exact till_go J2 (bk, ak, lk, ck, be, ae, le, ce, g9) rfl (by kernel_rfl) (by (try dsimp only); rw [unhide HA]; simp only [Act.put, List.setIfInBounds_toArray, List.set_cons_zero, List.set_cons_succ]) (by (try dsimp only); exact ⟨HW, hk, he, B9, hg9⟩)
        · go_simp
          have hwk : w1.heap.size ≤ wj.heap.size := HW.size
          have hxg9 := B9.lt
          obtain ⟨wk, hWe⟩ : ∃ W', W' = wj.alloc (.cells #[.bool false, .slice none 0 0] 24) := ⟨_, rfl⟩
          obtain ⟨B10, hb9⟩ := boxes1 wj false none 0 0 hWe
          rw [← hWe]
          clear hWe
          replace HW := Below.step HW hb9
          replace B9 := B9.later hb9
          clear hb9
          have hg10 := hwk
          have hneg9g10 : g9 ≠ wj.heap.size := by omega
          refine hK.out _ _ ?_ (fun hHeld => ?_)
          · exact ⟨(X0.later HW).facts.1, (X0.later HW).facts.2, (Y0.later HW).facts.1, (Y0.later HW).facts.2⟩
          clear hK K
          try simp only [List.setIfInBounds_toArray, List.set_cons_zero, List.set_cons_succ]
          exact till_go J4 (g9, wj.heap.size) rfl (by kernel_rfl) (by (try dsimp only); rw [unhide HA]; simp only [Act.put, List.setIfInBounds_toArray, List.set_cons_zero, List.set_cons_succ]) (by (try dsimp only); exact ⟨HW, B9, hg9, B10, hg10, hneg9g10⟩)
      rw [unhide HA]
      refine till_three (i := 6) (j := 10) (k := 11) (by kernel_rfl) rfl rfl rfl (fun K hK => ?_) (fun K hK => ?_) (fun K hK => ?_)
      · go_simp
        refine (rquoK bp0 ap0 lp0 cp0 p0 kk bq0 aq0 lq0 cq0 q0 kk _ ((hp0.later HW).ik hkk) ((hq0.later HW).ik hkk) (unhide H0)).mono ?_
        rintro e wk ⟨bk, ak, lk, ck, be, ae, le, ce, rfl, hk, he, hb9⟩
        replace HW := Below.step HW hb9
        clear hb9
        refine hK.out _ _ ?_ (fun hHeld => ?_)
        · exact ⟨(X0.later HW).facts.1, (X0.later HW).facts.2, (Y0.later HW).facts.1, (Y0.later HW).facts.2⟩
        clear hK K
        try simp only [List.setIfInBounds_toArray, List.set_cons_zero, List.set_cons_succ]
        refine till_free (i := 7) (v := ?_) rfl (by kernel_rfl) (by kernel_rfl) (by kernel_rfl) (by kernel_rfl) (fun _ _ _ h => h) (Or.inl ⟨by rfl, ?_⟩) (by assumption) ?_
        rotate_left
        · (intro wx hSw; (try dsimp only at hSw); go_simp; (try rw [if_neg (by omega)]); try with_reducible rfl)
        simp only [Act.put, List.getElem_toArray, List.getElem_cons_succ, List.getElem_cons_zero, List.setIfInBounds_toArray, List.set_cons_zero, List.set_cons_succ]
        refine till_free (i := 8) (v := ?_) rfl (by kernel_rfl) (by kernel_rfl) (by kernel_rfl) (by kernel_rfl) (fun _ _ _ h => h) (Or.inl ⟨by rfl, ?_⟩) (by assumption) ?_
        rotate_left
        · (intro wx hSw; (try dsimp only at hSw); go_simp; (try rw [if_neg (by omega)]); try with_reducible rfl)
        simp only [Act.put, List.getElem_toArray, List.getElem_cons_succ, List.getElem_cons_zero, List.setIfInBounds_toArray, List.set_cons_zero, List.set_cons_succ]
        refine till_free (i := 9) (v := ?_) rfl (by kernel_rfl) (by kernel_rfl) (by kernel_rfl) (by kernel_rfl) (fun _ _ _ h => h) (Or.inl ⟨by rfl, ?_⟩) (by assumption) ?_
        rotate_left
        · (intro wx hSw; (try dsimp only at hSw); go_simp; (try rw [if_neg (by omega)]); try with_reducible rfl)
        simp only [Act.put, List.getElem_toArray, List.getElem_cons_succ, List.getElem_cons_zero, List.setIfInBounds_toArray, List.set_cons_zero, List.set_cons_succ]
        exact till_go J3 (bk, ak, lk, ck, be, ae, le, ce) rfl (by kernel_rfl) (by (try dsimp only); rw [unhide HA]; simp only [Act.put, List.setIfInBounds_toArray, List.set_cons_zero, List.set_cons_succ]) (by (try dsimp only); exact ⟨HW, hk, he⟩)
      · go_simp
        have hwk : w1.heap.size ≤ vd1.heap.size := HW.size
        obtain ⟨wk, hWe⟩ : ∃ W', W' = vd1.alloc (.cells #[.bool false, .slice none 0 0] 24) := ⟨_, rfl⟩
        obtain ⟨B9, hb9⟩ := boxes1 vd1 false none 0 0 hWe
        rw [← hWe]
        clear hWe
        replace HW := Below.step HW hb9
        clear hb9
        have hg9 := hwk
        refine hK.out _ _ ?_ (fun hHeld => ?_)
        · exact ⟨(X0.later HW).facts.1, (X0.later HW).facts.2, (Y0.later HW).facts.1, (Y0.later HW).facts.2⟩
        clear hK K
        try simp only [List.setIfInBounds_toArray, List.set_cons_zero, List.set_cons_succ]
        exact till_go J6 vd1.heap.size rfl (by kernel_rfl) (by (try dsimp only); rw [unhide HA]; simp only [Act.put, List.setIfInBounds_toArray, List.set_cons_zero, List.set_cons_succ]) (by (try dsimp only); exact ⟨HW, B9, hg9⟩)
      · go_simp
        have hwk : w1.heap.size ≤ vd1.heap.size := HW.size
        obtain ⟨wk, hWe⟩ : ∃ W', W' = vd1.alloc (.cells #[.bool false, .slice none 0 0] 24) := ⟨_, rfl⟩
        obtain ⟨B10, hb9⟩ := boxes1 vd1 false none 0 0 hWe
        rw [← hWe]
        clear hWe
        replace HW := Below.step HW hb9
        clear hb9
        have hg10 := hwk
        refine hK.out _ _ ?_ (fun hHeld => ?_)
        · exact ⟨(X0.later HW).facts.1, (X0.later HW).facts.2, (Y0.later HW).facts.1, (Y0.later HW).facts.2⟩
        clear hK K
        try simp only [List.setIfInBounds_toArray, List.set_cons_zero, List.set_cons_succ]
        exact till_go J5 vd1.heap.size rfl (by kernel_rfl) (by (try dsimp only); rw [unhide HA]; simp only [Act.put, List.setIfInBounds_toArray, List.set_cons_zero, List.set_cons_succ]) (by (try dsimp only); exact ⟨HW, B10, hg10⟩)

#print axioms rextK
end Go.Proofs.Ytobiogedknmijaa
