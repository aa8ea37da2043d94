/-
  What Dot and Norm of package vec tell.
-/
import Derived.Test.YtdbimajopclndaaVAt
import Derived.Deep.CutRange
namespace Go.Proofs.Ytdbimajopclndaa
open Go.RowKit Lb

theorem vdot_min {zs ys : List Int} {n n' : Nat} (h : zs.length = n) (h' : ys.length = n') : (sumN (min n n') fun j => zs.getD j 0 * ys.getD j 0) = vdot zs ys := by
  subst h h'
  unfold vdot
  symm
  refine sumN_upto (fun i hi => ?_) (by omega)
  rcases (by omega : zs.length ≤ i ∨ ys.length ≤ i) with c | c
  · rw [getD_out c, Int.zero_mul]
  · rw [getD_out c, Int.mul_zero]
set_option maxHeartbeats 1600000 in
theorem vdotK (ao : Option Addr) (n cap : Nat) (zs : List Int) (k : Nat) (ao' : Option Addr) (n' cap' : Nat) (ys : List Int) (l : Nat) (w : World) (h : VK w ao n cap zs k) (h' : VK w ao' n' cap' ys l) (hk : k ≤ 400000) (hl : l ≤ 400000) (hn : n ≤ 100000) (hn' : n' ≤ 100000) :
    Calls Try.prog 26 #[.slice ao n cap, .slice ao' n' cap'] w fun e w' => ∃ b1 a1 l1 c1, e = .returned (.agg #[.bool b1, .slice a1 l1 c1]) ∧ FK w' b1 a1 l1 c1 (vdot zs ys) (k + l + n) ∧ Below w.heap.size w w' := by
  have HL := hide h.len_eq
  have HL' := hide h'.len_eq
  have hmin := min_len n n'
  have EM := hide (vdot_min h.len_eq h'.len_eq)
  obtain ⟨m, em⟩ : ∃ m, m = min n n' := ⟨_, rfl⟩
  rw [← em] at hmin EM
  have hmn : m ≤ n := by omega
  have hmn' : m ≤ n' := by omega
  clear em
  obtain ⟨F, eF⟩ : ∃ F : Nat → Int, F = fun j => zs.getD j 0 * ys.getD j 0 := ⟨_, rfl⟩
  obtain ⟨v, ev⟩ : ∃ v, v = vdot zs ys := ⟨_, rfl⟩
  rw [← ev]
  have EV := hide ev
  have EF := hide (show ∀ j, F j = zs.getD j 0 * ys.getD j 0 from fun j => by rw [eF])
  have EN := hide (show sumN m F = vdot zs ys by rw [eF]; exact unhide EM)
  clear ev eF
  go_enter Try.func26, Try.ntmps26
  go_wp2_with fail
  obtain ⟨W, hWe⟩ : ∃ W, W = ((w.alloc (.cells #[.bool false, .slice none 0 0] 26)).alloc (.cells #[.bool false, .slice none 0 0] 26)) := ⟨_, rfl⟩
  obtain ⟨B0, B1, hb0⟩ := boxes2 w false none 0 0 false none 0 0 hWe
  rw [← hWe]
  clear hWe
  go_loopw [12] (fun t wr => ∃ (i : Nat) (b1 : Bool) (a1 : Option Addr) (l1 c1 : Nat), i ≤ m ∧ t = .int .i64 (i : Int) ∧ Box wr w.heap.size false none 0 0 ∧ Box wr (w.heap.size + 1) b1 a1 l1 c1 ∧ FK wr b1 a1 l1 c1 (sumN i F) (k + l + i) ∧ Below w.heap.size w wr) (fun t _ => m - (intOf t).toNat)
  case atStart => exact ⟨0, _, _, _, _, Nat.zero_le _, rfl, B0, B1, fk_zero _ _, hb0⟩
  case round =>
    obtain ⟨i, b1, a1, l1, c1, hi, rfl, C0, C1, hs, hB⟩ := hrel
    have HB := hide hB
    clear hB B0 B1 hb0
    by_cases hlt : i < m
    · obtain ⟨g2, off2, rfl⟩ := h.some (by omega)
      obtain ⟨b2, a2, l2, c2, E2, hy2⟩ := (h.later (unhide HB)).at (show i < n by omega)
      obtain ⟨g3, off3, rfl⟩ := h'.some (by omega)
      obtain ⟨b3, a3, l3, c3, E3, hy3⟩ := (h'.later (unhide HB)).at (show i < n' by omega)
      have hi0 : (0 : Int) ≤ (i : Int) := by omega
      have hi1 : (i : Int) < (n : Int) := by omega
      have hi2 : (i : Int) < (n' : Int) := by omega
      have HW : Below wr.heap.size wr wr.drew := (Below.refl _ _).drew
      go_upto_region 5 with fail
      refine till_start (fun w' => w'.cell? ⟨w.heap.size + 1, 0, none⟩ = some (.bool b1) ∧ w'.cell? ⟨w.heap.size + 1, 1, none⟩ = some (.slice a1 l1 c1) ∧ w'.cell? ⟨g2, off2 + i * 2, none⟩ = some (.bool b2) ∧ w'.cell? ⟨g2, off2 + i * 2 + 1, none⟩ = some (.slice a2 l2 c2) ∧ w'.cell? ⟨g3, off3 + i * 2, none⟩ = some (.bool b3) ∧ w'.cell? ⟨g3, off3 + i * 2 + 1, none⟩ = some (.slice a3 l3 c3)) 11 (by kernel_rfl) ?_ (fun hHeld => ?_)
      · exact ⟨(C1.later HW).facts.1, (C1.later HW).facts.2.1, (E2.later HW).facts.1, (E2.later HW).facts.2, (E3.later HW).facts.1, (E3.later HW).facts.2⟩
      refine till_take (i := 0) (v := ?_) [10, 11] rfl (by kernel_rfl) (by kernel_rfl) (by kernel_rfl) (by kernel_rfl) (fun _ _ _ h => h) (Or.inl ⟨by rfl, ?_⟩) (by assumption) ?_
      rotate_left
      · (intro w hSw; (try dsimp only at hSw); go_simp; try with_reducible rfl)
      simp only [Act.put, List.getElem_toArray, List.getElem_cons_zero, List.setIfInBounds_toArray, List.set_cons_zero, List.set_cons_succ]
      refine till_take (i := 1) (v := ?_) [3, 4, 9, 10, 11] rfl (by kernel_rfl) (by kernel_rfl) (by kernel_rfl) (by kernel_rfl) (fun _ _ _ h => h) (Or.inl ⟨by rfl, ?_⟩) (by assumption) ?_
      rotate_left
      · (intro w hSw; (try dsimp only at hSw); go_simp; try with_reducible rfl)
      simp only [Act.put, List.getElem_toArray, List.getElem_cons_succ, List.getElem_cons_zero, List.setIfInBounds_toArray, List.set_cons_zero, List.set_cons_succ]
      refine till_take (i := 2) (v := ?_) [3, 4, 9, 10, 11] rfl (by kernel_rfl) (by kernel_rfl) (by kernel_rfl) (by kernel_rfl) (fun _ _ _ h => h) (Or.inl ⟨by rfl, ?_⟩) (by assumption) ?_
      rotate_left
      · (intro w hSw; (try dsimp only at hSw); go_simp; try with_reducible rfl)
      simp only [Act.put, List.getElem_toArray, List.getElem_cons_succ, List.getElem_cons_zero, List.setIfInBounds_toArray, List.set_cons_zero, List.set_cons_succ]
      refine till_take (i := 3) (v := ?_) [4, 9, 10, 11] rfl (by kernel_rfl) (by kernel_rfl) (by kernel_rfl) (by kernel_rfl) (fun _ _ _ h => h) (Or.inl ⟨by rfl, ?_⟩) (by assumption) ?_
      rotate_left
      · (intro w hSw; (try dsimp only at hSw); go_simp; try with_reducible rfl)
      simp only [Act.put, List.getElem_toArray, List.getElem_cons_succ, List.getElem_cons_zero, List.setIfInBounds_toArray, List.set_cons_zero, List.set_cons_succ]
      refine till_take (i := 4) (v := ?_) [9, 10, 11] rfl (by kernel_rfl) (by kernel_rfl) (by kernel_rfl) (by kernel_rfl) (fun _ _ _ h => h) (Or.inl ⟨by rfl, ?_⟩) (by assumption) ?_
      rotate_left
      · (intro w hSw; (try dsimp only at hSw); go_simp; try with_reducible rfl)
      simp only [Act.put, List.getElem_toArray, List.getElem_cons_succ, List.getElem_cons_zero, List.setIfInBounds_toArray, List.set_cons_zero, List.set_cons_succ]
      refine till_take (i := 5) (v := ?_) [7, 8, 9, 10, 11] rfl (by kernel_rfl) (by kernel_rfl) (by kernel_rfl) (by kernel_rfl) (fun _ _ _ h => h) (Or.inl ⟨by rfl, ?_⟩) (by assumption) ?_
      rotate_left
      · (intro w hSw; (try dsimp only at hSw); go_simp; try with_reducible rfl)
      simp only [Act.put, List.getElem_toArray, List.getElem_cons_succ, List.getElem_cons_zero, List.setIfInBounds_toArray, List.set_cons_zero, List.set_cons_succ]
      refine till_take (i := 6) (v := ?_) [7, 8, 9, 10, 11] rfl (by kernel_rfl) (by kernel_rfl) (by kernel_rfl) (by kernel_rfl) (fun _ _ _ h => h) (Or.inl ⟨by rfl, ?_⟩) (by assumption) ?_
      rotate_left
      · (intro w hSw; (try dsimp only at hSw); go_simp; try with_reducible rfl)
      simp only [Act.put, List.getElem_toArray, List.getElem_cons_succ, List.getElem_cons_zero, List.setIfInBounds_toArray, List.set_cons_zero, List.set_cons_succ]
      refine till_take (i := 7) (v := ?_) [8, 9, 10, 11] rfl (by kernel_rfl) (by kernel_rfl) (by kernel_rfl) (by kernel_rfl) (fun _ _ _ h => h) (Or.inl ⟨by rfl, ?_⟩) (by assumption) ?_
      rotate_left
      · (intro w hSw; (try dsimp only at hSw); go_simp; try with_reducible rfl)
      simp only [Act.put, List.getElem_toArray, List.getElem_cons_succ, List.getElem_cons_zero, List.setIfInBounds_toArray, List.set_cons_zero, List.set_cons_succ]
      refine till_take (i := 8) (v := ?_) [9, 10, 11] rfl (by kernel_rfl) (by kernel_rfl) (by kernel_rfl) (by kernel_rfl) (fun _ _ _ h => h) (Or.inl ⟨by rfl, ?_⟩) (by assumption) ?_
      rotate_left
      · (intro w hSw; (try dsimp only at hSw); go_simp; try with_reducible rfl)
      simp only [Act.put, List.getElem_toArray, List.getElem_cons_succ, List.getElem_cons_zero, List.setIfInBounds_toArray, List.set_cons_zero, List.set_cons_succ]
      refine till_in (i := 9) (by kernel_rfl) rfl (fun K hK => ?_)
      go_simp
      refine (mulK b2 a2 l2 c2 (zs.getD i 0) k b3 a3 l3 c3 (ys.getD i 0) l _ (hy2.later HW) (hy3.later HW)).mono ?_
      rintro e w9 ⟨b8, a8, l8, c8, rfl, h8, hb9⟩
      replace HW := Below.step HW hb9
      clear hb9
      refine hK.out _ _ ?_ (fun hHeld => ?_)
      · exact ⟨(C1.later HW).facts.1, (C1.later HW).facts.2.1, (E2.later HW).facts.1, (E2.later HW).facts.2, (E3.later HW).facts.1, (E3.later HW).facts.2⟩
      clear hK K
      try simp only [Act.put, List.getElem_toArray, List.getElem_cons_succ, List.getElem_cons_zero, List.setIfInBounds_toArray, List.set_cons_zero, List.set_cons_succ]
      refine till_in (i := 10) (by kernel_rfl) rfl (fun K hK => ?_)
      go_simp
      refine (addK b1 a1 l1 c1 (sumN i F) (k + l + i) b8 a8 l8 c8 _ (k + l) _ ((hs.later HW).ik (by omega)) (h8.ik (by omega))).mono ?_
      rintro e w9 ⟨b9, a9, l9, c9, rfl, h9, hb9⟩
      replace HW := Below.step HW hb9
      clear hb9
      clear h8
      obtain ⟨q1, q2, q3, q4⟩ := (C1.later HW).facts
      have hsz := (C1.later HW).lt
      refine hK.out _ _ ?_ (fun hHeld => ?_)
      · exact ⟨(C1.later HW).facts.1, (C1.later HW).facts.2.1, (E2.later HW).facts.1, (E2.later HW).facts.2, (E3.later HW).facts.1, (E3.later HW).facts.2⟩
      clear hK K
      try simp only [Act.put, List.getElem_toArray, List.getElem_cons_succ, List.getElem_cons_zero, List.setIfInBounds_toArray, List.set_cons_zero, List.set_cons_succ]
      refine till_out (i := 11) (by kernel_rfl) rfl (by kernel_rfl) (fun K hK => ?_)
      go_simp
      refine hK.out _ _ ?_
      clear hK K
      try simp only [Act.put, List.getElem_toArray, List.getElem_cons_succ, List.getElem_cons_zero, List.setIfInBounds_toArray, List.set_cons_zero, List.set_cons_succ]
      refine till_done (by kernel_rfl) ?_ _
      go_wp2
      go_roundw
      case rel =>
        refine ⟨i + 1, _, _, _, _, by omega, by go_num, (C0.later HW).other (g' := w.heap.size + 1) (by omega) b9 a9 l9 c9, (C1.later HW).put b9 a9 l9 c9, ?_, below_put (Below.step (unhide HB) HW) (by omega) _ _ _ _⟩
        have hput := (h9.put (C1.later HW).noLimb b9 a9 l9 c9).up (show _ ≤ k + l + (i + 1) by omega)
        exact hput.eq (by rw [sumN, unhide EF i])
      case measure => simp [intOf]; omega
    · have hin : i = m := by omega
      have hval : sumN i F = v := by rw [hin, unhide EN, unhide EV]
      rw [hval] at hs
      clear hval
      obtain ⟨f1, f2, _, _⟩ := C1.facts
      have hs1 := C1.lt
      have hsz := C0.lt
      obtain ⟨q1, q2, q3, q4⟩ := C0.facts
      go_wp2
      refine bodyPost_ret (v := .agg #[.bool b1, .slice a1 l1 c1]) (by simp [results, Try.results26, go_sem, *]) rfl ⟨_, _, _, _, rfl, ?_⟩
      exact ⟨(hs.put C0.noLimb _ _ _ _).up (by omega), below_put (unhide HB) (by omega) _ _ _ _⟩

set_option maxHeartbeats 1600000 in
theorem vnormK (ao : Option Addr) (n cap : Nat) (zs : List Int) (k : Nat) (w : World) (h : VK w ao n cap zs k) (hk : k ≤ 800000) (hn : n ≤ 100000) :
    Calls Try.prog 28 #[.slice ao n cap] w fun e w' => ∃ b1 a1 l1 c1, e = .returned (.agg #[.bool b1, .slice a1 l1 c1]) ∧ FK w' b1 a1 l1 c1 (vnorm zs) (k + n) ∧ Below w.heap.size w w' := by
  have HL := hide h.len_eq
  obtain ⟨F, eF⟩ : ∃ F : Nat → Int, F = fun j => ((zs.getD j 0).natAbs : Int) := ⟨_, rfl⟩
  obtain ⟨v, ev⟩ : ∃ v, v = vnorm zs := ⟨_, rfl⟩
  rw [← ev]
  have EV := hide ev
  have EF := hide (show ∀ j, F j = ((zs.getD j 0).natAbs : Int) from fun j => by rw [eF])
  have EN := hide (show sumN n F = vnorm zs by rw [eF]; unfold vnorm; rw [unhide HL])
  clear ev eF
  go_enter Try.func28, Try.ntmps28
  go_wp2_with fail
  obtain ⟨W, hWe⟩ : ∃ W, W = ((w.alloc (.cells #[.bool false, .slice none 0 0] 26)).alloc (.cells #[.bool false, .slice none 0 0] 26)) := ⟨_, rfl⟩
  obtain ⟨B0, B1, hb0⟩ := boxes2 w false none 0 0 false none 0 0 hWe
  rw [← hWe]
  clear hWe
  go_loopw [8] (fun t wr => ∃ (i : Nat) (b1 : Bool) (a1 : Option Addr) (l1 c1 : Nat), i ≤ n ∧ t = .int .i64 (i : Int) ∧ Box wr w.heap.size false none 0 0 ∧ Box wr (w.heap.size + 1) b1 a1 l1 c1 ∧ FK wr b1 a1 l1 c1 (sumN i F) (k + i) ∧ Below w.heap.size w wr) (fun t _ => n - (intOf t).toNat)
  case atStart => exact ⟨0, _, _, _, _, Nat.zero_le _, rfl, B0, B1, fk_zero _ _, hb0⟩
  case round =>
    obtain ⟨i, b1, a1, l1, c1, hi, rfl, C0, C1, hs, hB⟩ := hrel
    have HB := hide hB
    clear hB B0 B1 hb0
    by_cases hlt : i < n
    · obtain ⟨g2, off2, rfl⟩ := h.some (by omega)
      obtain ⟨b2, a2, l2, c2, E2, hy2⟩ := (h.later (unhide HB)).at (show i < n by omega)
      obtain ⟨f1, f2⟩ := E2.facts
      have hg2 := E2.1
      go_upto_region 5 with fail
      obtain ⟨W2, hW2⟩ : ∃ W2, W2 = wr.alloc (.cells #[.bool b2, .slice a2 l2 c2] 26) := ⟨_, rfl⟩
      obtain ⟨D0, hb1⟩ := boxes1 wr b2 a2 l2 c2 hW2
      rw [← hW2]
      clear hW2 f1 f2 E2
      replace C0 := C0.later hb1
      replace C1 := C1.later hb1
      replace hs := hs.later hb1
      replace hy2 := hy2.later hb1
      replace HB := hide (Below.step (unhide HB) hb1)
      clear hb1
      have HW : Below W2.heap.size W2 W2.drew := (Below.refl _ _).drew
      refine till_start (fun w' => w'.cell? ⟨w.heap.size + 1, 0, none⟩ = some (.bool b1) ∧ w'.cell? ⟨w.heap.size + 1, 1, none⟩ = some (.slice a1 l1 c1) ∧ w'.cell? ⟨wr.heap.size, 0, none⟩ = some (.bool b2) ∧ w'.cell? ⟨wr.heap.size, 1, none⟩ = some (.slice a2 l2 c2)) 4 (by kernel_rfl) ?_ (fun hHeld => ?_)
      · exact ⟨(C1.later HW).facts.1, (C1.later HW).facts.2.1, (D0.later HW).facts.1, (D0.later HW).facts.2.1⟩
      refine till_take (i := 0) (v := ?_) [3, 4] rfl (by kernel_rfl) (by kernel_rfl) (by kernel_rfl) (by kernel_rfl) (fun _ _ _ h => h) (Or.inl ⟨by rfl, ?_⟩) (by assumption) ?_
      rotate_left
      · (intro w hSw; (try dsimp only at hSw); go_simp; try with_reducible rfl)
      simp only [Act.put, List.getElem_toArray, List.getElem_cons_zero, List.setIfInBounds_toArray, List.set_cons_zero, List.set_cons_succ]
      refine till_take (i := 1) (v := ?_) [2, 3, 4] rfl (by kernel_rfl) (by kernel_rfl) (by kernel_rfl) (by kernel_rfl) (fun _ _ _ h => h) (Or.inl ⟨by rfl, ?_⟩) (by assumption) ?_
      rotate_left
      · (intro w hSw; (try dsimp only at hSw); go_simp; try with_reducible rfl)
      simp only [Act.put, List.getElem_toArray, List.getElem_cons_succ, List.getElem_cons_zero, List.setIfInBounds_toArray, List.set_cons_zero, List.set_cons_succ]
      refine till_in (i := 2) (by kernel_rfl) rfl (fun K hK => ?_)
      go_simp
      refine (absK b2 a2 l2 c2 (zs.getD i 0) k _ (hy2.later HW)).mono ?_
      rintro e w9 ⟨b8, a8, l8, c8, rfl, h8, hb9⟩
      replace HW := Below.step HW hb9
      clear hb9
      refine hK.out _ _ ?_ (fun hHeld => ?_)
      · exact ⟨(C1.later HW).facts.1, (C1.later HW).facts.2.1, (D0.later HW).facts.1, (D0.later HW).facts.2.1⟩
      clear hK K
      try simp only [Act.put, List.getElem_toArray, List.getElem_cons_succ, List.getElem_cons_zero, List.setIfInBounds_toArray, List.set_cons_zero, List.set_cons_succ]
      refine till_in (i := 3) (by kernel_rfl) rfl (fun K hK => ?_)
      go_simp
      refine (addK b1 a1 l1 c1 (sumN i F) (k + i) b8 a8 l8 c8 _ k _ ((hs.later HW).ik (by omega)) (h8.ik (by omega))).mono ?_
      rintro e w9 ⟨b9, a9, l9, c9, rfl, h9, hb9⟩
      replace HW := Below.step HW hb9
      clear hb9
      clear h8
      obtain ⟨q1, q2, q3, q4⟩ := (C1.later HW).facts
      have hsz := (C1.later HW).lt
      refine hK.out _ _ ?_ (fun hHeld => ?_)
      · exact ⟨(C1.later HW).facts.1, (C1.later HW).facts.2.1, (D0.later HW).facts.1, (D0.later HW).facts.2.1⟩
      clear hK K
      try simp only [Act.put, List.getElem_toArray, List.getElem_cons_succ, List.getElem_cons_zero, List.setIfInBounds_toArray, List.set_cons_zero, List.set_cons_succ]
      refine till_out (i := 4) (by kernel_rfl) rfl (by kernel_rfl) (fun K hK => ?_)
      go_simp
      refine hK.out _ _ ?_
      clear hK K
      try simp only [Act.put, List.getElem_toArray, List.getElem_cons_succ, List.getElem_cons_zero, List.setIfInBounds_toArray, List.set_cons_zero, List.set_cons_succ]
      refine till_done (by kernel_rfl) ?_ _
      go_wp2
      go_roundw
      case rel =>
        refine ⟨i + 1, _, _, _, _, by omega, by go_num, (C0.later HW).other (g' := w.heap.size + 1) (by omega) b9 a9 l9 c9, (C1.later HW).put b9 a9 l9 c9, ?_, below_put (Below.step (unhide HB) HW) (by omega) _ _ _ _⟩
        have hput := (h9.put (C1.later HW).noLimb b9 a9 l9 c9).up (show _ ≤ k + (i + 1) by omega)
        exact hput.eq (by rw [sumN, unhide EF i])
      case measure => simp [intOf]; omega
    · have hin : i = n := by omega
      have hval : sumN i F = v := by rw [hin, unhide EN, unhide EV]
      rw [hval] at hs
      clear hval
      obtain ⟨f1, f2, _, _⟩ := C1.facts
      have hs1 := C1.lt
      have hsz := C0.lt
      obtain ⟨q1, q2, q3, q4⟩ := C0.facts
      go_wp2
      refine bodyPost_ret (v := .agg #[.bool b1, .slice a1 l1 c1]) (by simp [results, Try.results28, go_sem, *]) rfl ⟨_, _, _, _, rfl, ?_⟩
      exact ⟨(hs.put C0.noLimb _ _ _ _).up (by omega), below_put (unhide HB) (by omega) _ _ _ _⟩

#print axioms vdotK
#print axioms vnormK
end Go.Proofs.Ytdbimajopclndaa
