/-
  The walk of BezoutAll: it tells true.
-/
import Derived.Test.YtobiogedknmijaaFew6
import Derived.Test.YtobiogedknmijaaAwake6
import Derived.Test.YtobiogedknmijaaPrimNum
import Derived.Test.YtobiogedknmijaaRExt
import Derived.Deep.CutRange
namespace Go.Proofs.Ytobiogedknmijaa
open Go.RowKit Lb

set_option maxRecDepth 20000 in
set_option maxHeartbeats 16000000 in
theorem bezoutAll_walk (ao : Option Addr) (n cap : Nat) (zs : List Int) (w : World) (r0 : VI w ao n cap zs) :
    Calls Try.prog 4 #[.slice ao n cap] w fun e w' => e = .returned (.bool true) ∧ Below w.heap.size w w' := by
  have hcl := r0.cap_le
  have hcm := r0.cap_max
  unfold maxLen at hcm
  have HL := hide r0.len_eq
  go_enter Try.func4, Try.ntmps4
  go_wp2_with fail
  refine (few6_any _ _ _ _ _ r0).mono ?_
  rintro e w1 ⟨q, rfl, hq, hb1⟩
  have HB := hide hb1
  have hsw := hb1.size
  by_cases hf : q = true
  · subst hf
    obtain ⟨hn20, HV, hsix⟩ := hq rfl
    have HK := hide (vk_later r0 hsix)
    obtain ⟨kx, ekx⟩ : ∃ kx, kx = 6 := ⟨_, rfl⟩
    rw [← ekx] at HV HK
    have hkx : kx ≤ 6 := by omega
    clear ekx hq hsix hb1
    go_wp2_with fail
    obtain ⟨W2, hW2⟩ : ∃ W2, W2 = w1.alloc (.cells #[.bool false, .slice none 0 0] 24) := ⟨_, rfl⟩
    obtain ⟨B3, hb9⟩ := boxes1 w1 false none 0 0 hW2
    rw [← hW2]
    clear hW2
    replace HV := HV.later hb9
    replace HB := hide (Below.step (unhide HB) hb9)
    have hs1 : w1.heap.size < W2.heap.size := B3.lt
    clear hb9
    go_loopw [17] (fun t wr => ∃ (i : Nat) (b1 : Bool) (a1 : Option Addr) (l1 c1 : Nat), i ≤ n ∧ t = .int .i64 (i : Int) ∧ Box wr w1.heap.size b1 a1 l1 c1 ∧ FK wr b1 a1 l1 c1 (gcdL (zs.take i) : Int) kx ∧ Below w.heap.size w wr) (fun t _ => n - (intOf t).toNat)
    case atStart => exact ⟨0, _, _, _, _, Nat.zero_le _, rfl, B3, fk_zero _ _, unhide HB⟩
    case round =>
      obtain ⟨i, b1, a1, l1, c1, hi, rfl, C3, hg, hB⟩ := hrel
      clear B3 HB
      have HB := hide hB
      clear hB
      have HV' := r0.later (unhide HB)
      by_cases hlt : i < n
      · obtain ⟨g, off, rfl⟩ := r0.some (by omega)
        obtain ⟨b2, a2, l2, c2, he, hy⟩ := VK.at (unhide HK _ (unhide HB)) hlt
        obtain ⟨f1, f2⟩ := he.facts
        have hg1 := he.1
        obtain ⟨f3, f4, _, _⟩ := C3.facts
        have hs3 := C3.lt
        go_wp2_with fail
        obtain ⟨W4, hW4⟩ : ∃ W4, W4 = wr.alloc (.cells #[.bool b2, .slice a2 l2 c2] 24) := ⟨_, rfl⟩
        obtain ⟨D0, hb9⟩ := boxes1 wr b2 a2 l2 c2 hW4
        rw [← hW4]
        clear hW4 f1 f2 f3 f4 he
        replace C3 := C3.later hb9
        replace hg := hg.later hb9
        replace hy := hy.later hb9
        replace HB := hide (Below.step (unhide HB) hb9)
        clear hb9 D0
        refine (rgcdK _ _ _ _ (gcdL (zs.take i) : Int) kx _ _ _ _ (zs.getD i 0) kx _ (hg.ik (by omega)) hy (by omega) (by omega)).mono ?_
        rintro e w3 ⟨b3, a3, l3, c3, rfl, h3, hb9⟩
        rw [Nat.max_self, gcd_snoc, ← take_next (by rw [unhide HL]; exact hlt)] at h3
        replace C3 := C3.later hb9
        replace HB := hide (Below.step (unhide HB) hb9)
        clear hb9 hg hy
        obtain ⟨q1, q2, q3, q4⟩ := C3.facts
        have hs4 := C3.lt
        go_wp2
        go_roundw
        case rel => exact ⟨i + 1, _, _, _, _, by omega, by go_num, C3.put b3 a3 l3 c3, h3.put C3.noLimb _ _ _ _, below_put (unhide HB) (by omega) _ _ _ _⟩
        case measure => simp [intOf]; omega
      · obtain rfl : i = n := by omega
        rw [List.take_of_length_le (by rw [unhide HL]; omega)] at hg
        clear hlt hi
        go_wp2_with fail
        refine (primK _ _ _ zs kx _ (unhide HK _ (unhide HB)) (by omega) (by omega)).mono ?_
        rintro e w3 ⟨ap, cp, rfl, hp, hb9⟩
        replace C3 := C3.later hb9
        replace hg := hg.later hb9
        replace HB := hide (Below.step (unhide HB) hb9)
        clear hb9
        have hpl := hp.cap_le
        have hpm := hp.cap_max
        unfold maxLen at hpm
        go_upto_region 10 with fail
        have HW : Below w3.heap.size w3 w3.drew := (Below.refl _ _).drew
        refine till_start (fun w' => w'.cell? ⟨w1.heap.size, 0, none⟩ = some (.bool b1) ∧ w'.cell? ⟨w1.heap.size, 1, none⟩ = some (.slice a1 l1 c1)) 11 (by kernel_rfl) ?_ (fun hHeld => ?_)
        · exact ⟨(C3.later HW).facts.1, (C3.later HW).facts.2.1⟩
        refine till_take (i := 0) (v := ?_) [1, 3, 4, 5, 6, 7, 8, 9, 10, 11] rfl (by kernel_rfl) (by kernel_rfl) (by kernel_rfl) (by kernel_rfl) (fun _ _ _ h => h) (Or.inl ⟨by rfl, ?_⟩) (by assumption) ?_
        rotate_left
        · (intro w hSw; (try dsimp only at hSw); go_simp; try with_reducible rfl)
        simp only [Act.put, List.getElem_toArray, List.getElem_cons_zero, List.setIfInBounds_toArray, List.set_cons_zero, List.set_cons_succ]
        refine till_take (i := 2) (v := ?_) [3, 4, 5, 6, 7, 8, 9, 10, 11] rfl (by kernel_rfl) (by kernel_rfl) (by kernel_rfl) (by kernel_rfl) (fun _ _ _ h => h) (Or.inl ⟨by rfl, ?_⟩) (by assumption) ?_
        rotate_left
        · (intro w hSw; (try dsimp only at hSw); go_simp; try with_reducible rfl)
        simp only [Act.put, List.getElem_toArray, List.getElem_cons_succ, List.getElem_cons_zero, List.setIfInBounds_toArray, List.set_cons_zero, List.set_cons_succ]
        refine till_in (i := 1) (by kernel_rfl) rfl (fun K hK => ?_)
        go_simp
        refine (allK _ _ _ zs kx _ (unhide HK _ (Below.step (unhide HB) HW)) (by omega)).mono ?_
        rintro e w9 ⟨b4, a4, l4, c4, rfl, h4, hb9⟩
        replace HW := Below.step HW hb9
        clear hb9
        refine hK.out _ _ ?_ (fun hHeld => ?_)
        · exact ⟨(C3.later HW).facts.1, (C3.later HW).facts.2.1⟩
        clear hK K
        try simp only [Act.put, List.getElem_toArray, List.getElem_cons_succ, List.getElem_cons_zero, List.setIfInBounds_toArray, List.set_cons_zero, List.set_cons_succ]
        refine till_in (i := 3) (by kernel_rfl) rfl (fun K hK => ?_)
        go_simp
        refine (rsameK _ _ _ _ (gcdL zs : Int) kx _ _ _ _ (gcdL zs : Int) kx _ h4 (hg.later HW) rfl).mono ?_
        rintro e w9 ⟨rfl, hb9⟩
        replace HW := Below.step HW hb9
        clear hb9 h4
        refine hK.out _ _ ?_ (fun hHeld => ?_)
        · exact ⟨(C3.later HW).facts.1, (C3.later HW).facts.2.1⟩
        clear hK K
        try simp only [Act.put, List.getElem_toArray, List.getElem_cons_succ, List.getElem_cons_zero, List.setIfInBounds_toArray, List.set_cons_zero, List.set_cons_succ]
        refine till_take (i := 4) (v := ?_) [5, 6, 7, 8, 9, 10, 11] rfl (by kernel_rfl) (by kernel_rfl) (by kernel_rfl) (by kernel_rfl) (fun _ _ _ h => h) (Or.inl ⟨by rfl, ?_⟩) (by assumption) ?_
        rotate_left
        · (intro w hSw; (try dsimp only at hSw); go_simp; try with_reducible rfl)
        simp only [Act.put, List.getElem_toArray, List.getElem_cons_succ, List.getElem_cons_zero, List.setIfInBounds_toArray, List.set_cons_zero, List.set_cons_succ]
        refine till_take (i := 5) (v := ?_) [6, 7, 8, 9, 10, 11] rfl (by kernel_rfl) (by kernel_rfl) (by kernel_rfl) (by kernel_rfl) (fun _ _ _ h => h) (Or.inl ⟨by rfl, ?_⟩) (by assumption) ?_
        rotate_left
        · (intro w hSw; (try dsimp only at hSw); go_simp; try with_reducible rfl)
        simp only [Act.put, List.getElem_toArray, List.getElem_cons_succ, List.getElem_cons_zero, List.setIfInBounds_toArray, List.set_cons_zero, List.set_cons_succ]
        refine till_take (i := 6) (v := ?_) [7, 10, 11] rfl (by kernel_rfl) (by kernel_rfl) (by kernel_rfl) (by kernel_rfl) (fun _ _ _ h => h) (Or.inl ⟨by rfl, ?_⟩) (by assumption) ?_
        rotate_left
        · (intro w hSw; (try dsimp only at hSw); go_simp; try with_reducible rfl)
        simp only [Act.put, List.getElem_toArray, List.getElem_cons_succ, List.getElem_cons_zero, List.setIfInBounds_toArray, List.set_cons_zero, List.set_cons_succ]
        refine till_take (i := 7) (v := ?_) [10, 11] rfl (by kernel_rfl) (by kernel_rfl) (by kernel_rfl) (by kernel_rfl) (fun _ _ _ h => h) (Or.inl ⟨by rfl, ?_⟩) (by assumption) ?_
        rotate_left
        · (intro w hSw; (try dsimp only at hSw); go_simp; try with_reducible rfl)
        simp only [Act.put, List.getElem_toArray, List.getElem_cons_succ, List.getElem_cons_zero, List.setIfInBounds_toArray, List.set_cons_zero, List.set_cons_succ]
        refine till_take (i := 8) (v := ?_) [9, 10, 11] rfl (by kernel_rfl) (by kernel_rfl) (by kernel_rfl) (by kernel_rfl) (fun _ _ _ h => h) (Or.inl ⟨by rfl, ?_⟩) (by assumption) ?_
        rotate_left
        · (intro w hSw; (try dsimp only at hSw); go_simp; try with_reducible rfl)
        simp only [Act.put, List.getElem_toArray, List.getElem_cons_succ, List.getElem_cons_zero, List.setIfInBounds_toArray, List.set_cons_zero, List.set_cons_succ]
        refine till_take (i := 9) (v := ?_) [10, 11] rfl (by kernel_rfl) (by kernel_rfl) (by kernel_rfl) (by kernel_rfl) (fun _ _ _ h => h) (Or.inl ⟨by rfl, ?_⟩) (by assumption) ?_
        rotate_left
        · (intro w hSw; (try dsimp only at hSw); go_simp; try with_reducible rfl)
        simp only [Act.put, List.getElem_toArray, List.getElem_cons_succ, List.getElem_cons_zero, List.setIfInBounds_toArray, List.set_cons_zero, List.set_cons_succ]
        refine till_take (i := 10) (v := ?_) [11] rfl (by kernel_rfl) (by kernel_rfl) (by kernel_rfl) (by kernel_rfl) (fun _ _ _ h => h) (Or.inl ⟨by rfl, ?_⟩) (by assumption) ?_
        rotate_left
        · (intro w hSw; (try dsimp only at hSw); go_simp; try with_reducible rfl)
        simp only [Act.put, List.getElem_toArray, List.getElem_cons_succ, List.getElem_cons_zero, List.setIfInBounds_toArray, List.set_cons_zero, List.set_cons_succ]
        refine till_out (i := 11) (by kernel_rfl) rfl (by kernel_rfl) (fun K hK => ?_)
        go_simp
        refine hK.out _ _ ?_
        clear hK K
        try simp only [Act.put, List.getElem_toArray, List.getElem_cons_succ, List.getElem_cons_zero, List.setIfInBounds_toArray, List.set_cons_zero, List.set_cons_succ]
        refine till_done (by kernel_rfl) ?_ _
        replace C3 := C3.later HW
        replace hg := hg.later HW
        replace hp := hp.later HW
        replace HB := hide (Below.step (unhide HB) HW)
        clear HW
        go_wp2_with fail
        go_loopw [41] (fun t wr => ∃ (j : Nat), j ≤ i ∧ t = .int .i64 (j : Int) ∧ Below w9.heap.size w9 wr) (fun t _ => i - (intOf t).toNat)
        case atStart => exact ⟨0, Nat.zero_le _, rfl, Below.refl _ _⟩
        case round =>
          obtain ⟨j, hj, rfl, hW⟩ := hrel
          by_cases hlt : j < i
          · have HB2 := hide (Below.step (unhide HB) hW)
            obtain ⟨g, off, rfl⟩ := r0.some (by omega)
            obtain ⟨gp, offp, rfl⟩ := hp.some (by omega)
            obtain ⟨b2, a2, l2, c2, he, hy⟩ := VK.at (unhide HK _ (unhide HB2)) hlt
            obtain ⟨b6, a6, l6, c6, E6, h6⟩ := (hp.later hW).at hlt
            rw [getD_map _ (by rw [unhide HL]; exact hlt)] at h6
            have D3 := C3.later hW
            have hg2 := hg.later hW
            obtain ⟨f1, f2⟩ := he.facts
            have hg1 := he.1
            go_wp2_with fail
            obtain ⟨W4, hW4⟩ : ∃ W4, W4 = wr.alloc (.cells #[.bool b2, .slice a2 l2 c2] 24) := ⟨_, rfl⟩
            obtain ⟨D0, hb9⟩ := boxes1 wr b2 a2 l2 c2 hW4
            rw [← hW4]
            clear hW4 f1 f2 he
            replace hy := hy.later hb9
            replace E6 := E6.later hb9
            replace h6 := h6.later hb9
            replace D3 := D3.later hb9
            replace hg2 := hg2.later hb9
            replace HB2 := hide (Below.step (unhide HB2) hb9)
            have HC := hide (Below.step hW hb9)
            clear hb9
            refine (rformK _ _ _ _ (zs.getD j 0) kx _ hy).mono ?_
            rintro e w5 ⟨b5, a5, l5, c5, rfl, h5, hb9⟩
            replace hy := hy.later hb9
            replace E6 := E6.later hb9
            replace h6 := h6.later hb9
            replace D3 := D3.later hb9
            replace hg2 := hg2.later hb9
            replace D0 := D0.later hb9
            replace HB2 := hide (Below.step (unhide HB2) hb9)
            replace HC := hide (Below.step (unhide HC) hb9)
            clear hb9
            have hgp := E6.1
            have hs59 := (unhide HC).size
            go_upto_region 16 with fail
            obtain ⟨W6, hW6⟩ : ∃ W6, W6 = w5.alloc (.cells #[.bool b5, .slice a5 l5 c5] 24) := ⟨_, rfl⟩
            obtain ⟨D9, hb9⟩ := boxes1 w5 b5 a5 l5 c5 hW6
            have hs5 := D3.lt
            rw [← hW6]
            clear hW6
            replace hy := hy.later hb9
            replace E6 := E6.later hb9
            replace h6 := h6.later hb9
            replace D3 := D3.later hb9
            replace hg2 := hg2.later hb9
            replace D0 := D0.later hb9
            replace h5 := h5.later hb9
            replace HB2 := hide (Below.step (unhide HB2) hb9)
            replace HC := hide (Below.step (unhide HC) hb9)
            clear hb9
            obtain ⟨f3, f4, _, _⟩ := D3.facts
            go_wp2_with fail
            obtain ⟨s, es⟩ : ∃ s, s = (gcdL zs : Int).sign := ⟨_, rfl⟩
            have ES := hide es
            clear es
            refine (rsignK _ _ _ _ (gcdL zs : Int) kx s _ (hg2.ik (by omega)) (unhide ES)).mono ?_
            rintro e w7 ⟨rfl, hb9⟩
            replace hy := hy.later hb9
            replace E6 := E6.later hb9
            replace h6 := h6.later hb9
            replace D3 := D3.later hb9
            replace hg2 := hg2.later hb9
            replace D0 := D0.later hb9
            replace h5 := h5.later hb9
            replace D9 := D9.later hb9
            replace HB2 := hide (Below.step (unhide HB2) hb9)
            replace HC := hide (Below.step (unhide HC) hb9)
            clear hb9 f3 f4
            by_cases hz : gcdL zs = 0
            · have hs : s = 0 := by rw [unhide ES, hz]; rfl
              subst hs
              have EQ : Hid ((zs.getD j 0).tdiv (gcdL zs : Int) = zs.getD j 0) := by
                have := gcdL_zero hz (i := j) (by rw [unhide HL]; exact hlt)
                unfold Hid; rw [this]; simp
              clear hz
              have hj1 : (0 : Int) ≤ (j : Int) := by omega
              have hj2 : (j : Int) < (i : Int) := by omega
              go_upto_region 18 with fail
              have HW : Below w7.heap.size w7 w7.drew := (Below.refl _ _).drew
              refine till_start (fun w' => w'.cell? ⟨gp, offp + j * 2, none⟩ = some (.bool b6) ∧ w'.cell? ⟨gp, offp + j * 2 + 1, none⟩ = some (.slice a6 l6 c6) ∧ w'.cell? ⟨w5.heap.size, 0, none⟩ = some (.bool b5) ∧ w'.cell? ⟨w5.heap.size, 1, none⟩ = some (.slice a5 l5 c5)) 6 (by kernel_rfl) ?_ (fun hHeld => ?_)
              · exact ⟨(E6.later HW).facts.1, (E6.later HW).facts.2, (D9.later HW).facts.1, (D9.later HW).facts.2.1⟩
              refine till_take (i := 0) (v := ?_) [2, 3, 5, 6] rfl (by kernel_rfl) (by kernel_rfl) (by kernel_rfl) (by kernel_rfl) (fun _ _ _ h => h) (Or.inl ⟨by rfl, ?_⟩) (by assumption) ?_
              rotate_left
              · (intro w hSw; (try dsimp only at hSw); go_simp; try with_reducible rfl)
              simp only [Act.put, List.getElem_toArray, List.getElem_cons_zero, List.setIfInBounds_toArray, List.set_cons_zero, List.set_cons_succ]
              refine till_take (i := 1) (v := ?_) [2, 3, 5, 6] rfl (by kernel_rfl) (by kernel_rfl) (by kernel_rfl) (by kernel_rfl) (fun _ _ _ h => h) (Or.inl ⟨by rfl, ?_⟩) (by assumption) ?_
              rotate_left
              · (intro w hSw; (try dsimp only at hSw); go_simp; try with_reducible rfl)
              simp only [Act.put, List.getElem_toArray, List.getElem_cons_succ, List.getElem_cons_zero, List.setIfInBounds_toArray, List.set_cons_zero, List.set_cons_succ]
              refine till_take (i := 2) (v := ?_) [3, 5, 6] rfl (by kernel_rfl) (by kernel_rfl) (by kernel_rfl) (by kernel_rfl) (fun _ _ _ h => h) (Or.inl ⟨by rfl, ?_⟩) (by assumption) ?_
              rotate_left
              · (intro w hSw; (try dsimp only at hSw); go_simp; try with_reducible rfl)
              simp only [Act.put, List.getElem_toArray, List.getElem_cons_succ, List.getElem_cons_zero, List.setIfInBounds_toArray, List.set_cons_zero, List.set_cons_succ]
              refine till_take (i := 3) (v := ?_) [5, 6] rfl (by kernel_rfl) (by kernel_rfl) (by kernel_rfl) (by kernel_rfl) (fun _ _ _ h => h) (Or.inl ⟨by rfl, ?_⟩) (by assumption) ?_
              rotate_left
              · (intro w hSw; (try dsimp only at hSw); go_simp; try with_reducible rfl)
              simp only [Act.put, List.getElem_toArray, List.getElem_cons_succ, List.getElem_cons_zero, List.setIfInBounds_toArray, List.set_cons_zero, List.set_cons_succ]
              refine till_take (i := 4) (v := ?_) [5, 6] rfl (by kernel_rfl) (by kernel_rfl) (by kernel_rfl) (by kernel_rfl) (fun _ _ _ h => h) (Or.inl ⟨by rfl, ?_⟩) (by assumption) ?_
              rotate_left
              · (intro w hSw; (try dsimp only at hSw); go_simp; try with_reducible rfl)
              simp only [Act.put, List.getElem_toArray, List.getElem_cons_succ, List.getElem_cons_zero, List.setIfInBounds_toArray, List.set_cons_zero, List.set_cons_succ]
              refine till_in (i := 5) (by kernel_rfl) rfl (fun K hK => ?_)
              go_simp
              refine (rsameK _ _ _ _ ((zs.getD j 0).tdiv (gcdL zs : Int)) kx b5 a5 l5 c5 (zs.getD j 0) kx _ (h6.later HW) (h5.later HW) (unhide EQ)).mono ?_
              rintro e w9' ⟨rfl, hb9⟩
              replace HW := Below.step HW hb9
              clear hb9
              refine hK.out _ _ ?_ (fun hHeld => ?_)
              · exact ⟨(E6.later HW).facts.1, (E6.later HW).facts.2, (D9.later HW).facts.1, (D9.later HW).facts.2.1⟩
              clear hK K
              try simp only [Act.put, List.getElem_toArray, List.getElem_cons_succ, List.getElem_cons_zero, List.setIfInBounds_toArray, List.set_cons_zero, List.set_cons_succ]
              refine till_out (i := 6) (by kernel_rfl) rfl (by kernel_rfl) (fun K hK => ?_)
              go_simp
              refine hK.out _ _ ?_
              clear hK K
              try simp only [Act.put, List.getElem_toArray, List.getElem_cons_succ, List.getElem_cons_zero, List.setIfInBounds_toArray, List.set_cons_zero, List.set_cons_succ]
              refine till_done (by kernel_rfl) ?_ _
              go_wp2
              go_roundw
              case rel => exact ⟨j + 1, by omega, by go_num, Below.step (unhide HC) HW⟩
              case measure => simp [intOf]; omega
            · have hgz : (gcdL zs : Int) ≠ 0 := by omega
              have hs : (s == 0) = false := by rw [beq_eq_false_iff_ne, unhide ES]; exact fun e => hgz (Int.sign_eq_zero_iff_zero.1 e)
              have hs' : (s != 0) = true := by rw [bne, hs]; rfl
              have H0 := hide hgz
              clear hgz hz
              obtain ⟨f1, f2, _, _⟩ := D0.facts
              obtain ⟨f3, f4, _, _⟩ := D3.facts
              go_wp2_with fail
              refine (rquoK _ _ _ _ (zs.getD j 0) kx _ _ _ _ (gcdL zs : Int) kx _ hy (hg2.ik (by omega)) (unhide H0)).mono ?_
              rintro e w8 ⟨b8, a8, l8, c8, b7, a7, l7, c7, rfl, h8, _, hb9⟩
              replace E6 := E6.later hb9
              replace h6 := h6.later hb9
              replace D3 := D3.later hb9
              replace D9 := D9.later hb9
              replace HB2 := hide (Below.step (unhide HB2) hb9)
              replace HC := hide (Below.step (unhide HC) hb9)
              clear hb9 f1 f2 f3 f4 hy hg2 D0 h5
              obtain ⟨q1, q2, q3, q4⟩ := D9.facts
              have hs9 := D9.lt
              go_upto_region 18 with fail
              obtain ⟨W9, hW9⟩ : ∃ W9, W9 = ((w8.setCell ⟨w5.heap.size, 0, none⟩ (.bool b8)).setCell ⟨w5.heap.size, 1, none⟩ (.slice a8 l8 c8)) := ⟨_, rfl⟩
              rw [← hW9]
              have nd := D9.noLimb
              replace E6 : EltAt W9 gp (offp + j * 2) b6 a6 l6 c6 := by rw [hW9]; exact E6.other (by omega) b8 a8 l8 c8
              replace h6 : FK W9 b6 a6 l6 c6 ((zs.getD j 0).tdiv (gcdL zs : Int)) kx := by rw [hW9]; exact h6.put nd _ _ _ _
              replace h8 : FK W9 b8 a8 l8 c8 ((zs.getD j 0).tdiv (gcdL zs : Int)) kx := by rw [hW9]; exact h8.put nd _ _ _ _
              replace D9 : Box W9 w5.heap.size b8 a8 l8 c8 := by rw [hW9]; exact D9.put b8 a8 l8 c8
              replace HC : Hid (Below w9.heap.size w9 W9) := by rw [hW9]; exact below_put (unhide HC) (by omega) _ _ _ _
              clear hW9 nd q1 q2 q3 q4
              have hj1 : (0 : Int) ≤ (j : Int) := by omega
              have hj2 : (j : Int) < (i : Int) := by omega
              have HW : Below W9.heap.size W9 W9.drew := (Below.refl _ _).drew
              refine till_start (fun w' => w'.cell? ⟨gp, offp + j * 2, none⟩ = some (.bool b6) ∧ w'.cell? ⟨gp, offp + j * 2 + 1, none⟩ = some (.slice a6 l6 c6) ∧ w'.cell? ⟨w5.heap.size, 0, none⟩ = some (.bool b8) ∧ w'.cell? ⟨w5.heap.size, 1, none⟩ = some (.slice a8 l8 c8)) 6 (by kernel_rfl) ?_ (fun hHeld => ?_)
              · exact ⟨(E6.later HW).facts.1, (E6.later HW).facts.2, (D9.later HW).facts.1, (D9.later HW).facts.2.1⟩
              refine till_take (i := 0) (v := ?_) [2, 3, 5, 6] rfl (by kernel_rfl) (by kernel_rfl) (by kernel_rfl) (by kernel_rfl) (fun _ _ _ h => h) (Or.inl ⟨by rfl, ?_⟩) (by assumption) ?_
              rotate_left
              · (intro w hSw; (try dsimp only at hSw); go_simp; try with_reducible rfl)
              simp only [Act.put, List.getElem_toArray, List.getElem_cons_zero, List.setIfInBounds_toArray, List.set_cons_zero, List.set_cons_succ]
              refine till_take (i := 1) (v := ?_) [2, 3, 5, 6] rfl (by kernel_rfl) (by kernel_rfl) (by kernel_rfl) (by kernel_rfl) (fun _ _ _ h => h) (Or.inl ⟨by rfl, ?_⟩) (by assumption) ?_
              rotate_left
              · (intro w hSw; (try dsimp only at hSw); go_simp; try with_reducible rfl)
              simp only [Act.put, List.getElem_toArray, List.getElem_cons_succ, List.getElem_cons_zero, List.setIfInBounds_toArray, List.set_cons_zero, List.set_cons_succ]
              refine till_take (i := 2) (v := ?_) [3, 5, 6] rfl (by kernel_rfl) (by kernel_rfl) (by kernel_rfl) (by kernel_rfl) (fun _ _ _ h => h) (Or.inl ⟨by rfl, ?_⟩) (by assumption) ?_
              rotate_left
              · (intro w hSw; (try dsimp only at hSw); go_simp; try with_reducible rfl)
              simp only [Act.put, List.getElem_toArray, List.getElem_cons_succ, List.getElem_cons_zero, List.setIfInBounds_toArray, List.set_cons_zero, List.set_cons_succ]
              refine till_take (i := 3) (v := ?_) [5, 6] rfl (by kernel_rfl) (by kernel_rfl) (by kernel_rfl) (by kernel_rfl) (fun _ _ _ h => h) (Or.inl ⟨by rfl, ?_⟩) (by assumption) ?_
              rotate_left
              · (intro w hSw; (try dsimp only at hSw); go_simp; try with_reducible rfl)
              simp only [Act.put, List.getElem_toArray, List.getElem_cons_succ, List.getElem_cons_zero, List.setIfInBounds_toArray, List.set_cons_zero, List.set_cons_succ]
              refine till_take (i := 4) (v := ?_) [5, 6] rfl (by kernel_rfl) (by kernel_rfl) (by kernel_rfl) (by kernel_rfl) (fun _ _ _ h => h) (Or.inl ⟨by rfl, ?_⟩) (by assumption) ?_
              rotate_left
              · (intro w hSw; (try dsimp only at hSw); go_simp; try with_reducible rfl)
              simp only [Act.put, List.getElem_toArray, List.getElem_cons_succ, List.getElem_cons_zero, List.setIfInBounds_toArray, List.set_cons_zero, List.set_cons_succ]
              refine till_in (i := 5) (by kernel_rfl) rfl (fun K hK => ?_)
              go_simp
              refine (rsameK _ _ _ _ ((zs.getD j 0).tdiv (gcdL zs : Int)) kx b8 a8 l8 c8 ((zs.getD j 0).tdiv (gcdL zs : Int)) kx _ (h6.later HW) (h8.later HW) rfl).mono ?_
              rintro e w9' ⟨rfl, hb9⟩
              replace HW := Below.step HW hb9
              clear hb9
              refine hK.out _ _ ?_ (fun hHeld => ?_)
              · exact ⟨(E6.later HW).facts.1, (E6.later HW).facts.2, (D9.later HW).facts.1, (D9.later HW).facts.2.1⟩
              clear hK K
              try simp only [Act.put, List.getElem_toArray, List.getElem_cons_succ, List.getElem_cons_zero, List.setIfInBounds_toArray, List.set_cons_zero, List.set_cons_succ]
              refine till_out (i := 6) (by kernel_rfl) rfl (by kernel_rfl) (fun K hK => ?_)
              go_simp
              refine hK.out _ _ ?_
              clear hK K
              try simp only [Act.put, List.getElem_toArray, List.getElem_cons_succ, List.getElem_cons_zero, List.setIfInBounds_toArray, List.set_cons_zero, List.set_cons_succ]
              refine till_done (by kernel_rfl) ?_ _
              go_wp2
              go_roundw
              case rel => exact ⟨j + 1, by omega, by go_num, Below.step (unhide HC) HW⟩
              case measure => simp [intOf]; omega
          · replace HB := hide (Below.step (unhide HB) hW)
            clear hW
            go_wp2_with fail
            refine (awake6_any _).mono ?_
            rintro e w2 ⟨rfl, hb2⟩
            go_wp2
            go_ret
            exact ⟨rfl, Below.step (unhide HB) hb2⟩
  · have hf' : q = false := by simpa using hf
    subst hf'
    clear hq hf hb1
    go_wp2_with fail
    refine (awake6_any _).mono ?_
    rintro e w2 ⟨rfl, hb2⟩
    go_wp2
    go_ret
    exact ⟨rfl, Below.step (unhide HB) hb2⟩

#print axioms bezoutAll_walk
end Go.Proofs.Ytobiogedknmijaa
