/-
  What Agree of package shade tells. (IN PARTS)
-/
import Derived.Test.YtgppplhbhgfmkaaJF
import Derived.Test.YtgppplhbhgfmkaaSNum
import Derived.Test.YtgppplhbhgfmkaaSBel
import Derived.Deep.CutRange
namespace Go.Proofs.Ytgppplhbhgfmkaa
open Go.RowKit Lb

theorem agree_sign (x y : Int) : decide (x.sign * y.sign < 0) = !agrB x y := by
  rw [Bool.eq_iff_iff, decide_eq_true_iff, Bool.not_eq_true', ← Bool.not_eq_true, agrB_sign]
  exact ⟨fun h e => e h, fun h => Classical.byContradiction h⟩

set_option maxHeartbeats 1600000 in
theorem sagreeK (ao : Option Addr) (n cap : Nat) (zs : List Int) (k : Nat) (ao' : Option Addr) (n' cap' : Nat) (ys : List Int) (l : Nat) (w : World) (h : VK w ao n cap zs k) (h' : VK w ao' n' cap' ys l) :
    Calls Try.prog 15 #[.slice ao n cap, .slice ao' n' cap'] w fun e w' => e = .returned (.bool (vagree zs ys)) ∧ Below w.heap.size w w' := by
  have HL := hide h.len_eq
  have HL' := hide h'.len_eq
  have hm := Nat.le_trans h.cap_le h.cap_max
  unfold maxLen at hm
  obtain ⟨r, er⟩ : ∃ r, r = vagree zs ys := ⟨_, rfl⟩
  rw [← er]
  have ER := hide er
  clear er
  have hmin := min_len n n'
  obtain ⟨m, em⟩ : ∃ m, m = min n n' := ⟨_, rfl⟩
  rw [← em] at hmin
  have hmn : m ≤ n := by omega
  have hmn' : m ≤ n' := by omega
  have EM := hide em
  clear em
  go_enter Try.func15, Try.ntmps15
  go_wp2_with fail
  go_loopw [11] (fun t wr => ∃ (i : Nat), i ≤ m ∧ t = .int .i64 (i : Int) ∧ (∀ j, j < i → agrB (zs.getD j 0) (ys.getD j 0) = true) ∧ Below w.heap.size w wr) (fun t _ => m - (intOf t).toNat)
  case atStart => exact ⟨0, Nat.zero_le _, rfl, fun j hj => absurd hj (by omega), Below.refl _ _⟩
  case round =>
    obtain ⟨i, hi, rfl, hall, hB⟩ := hrel
    have HA := hide hall
    clear hall
    have HB := hide hB
    clear hB
    by_cases hlt : i < m
    · obtain ⟨g2, off2, rfl⟩ := h.some (by omega)
      obtain ⟨b2, a2, l2, c2, E2, hy2⟩ := (h.later (unhide HB)).at (show i < n by omega)
      obtain ⟨g3, off3, rfl⟩ := h'.some (by omega)
      obtain ⟨b3, a3, l3, c3, E3, hy3⟩ := (h'.later (unhide HB)).at (show i < n' by omega)
      obtain ⟨s1, es1⟩ : ∃ s, s = (zs.getD i 0).sign := ⟨_, rfl⟩
      obtain ⟨s2, es2⟩ : ∃ s, s = (ys.getD i 0).sign := ⟨_, rfl⟩
      obtain ⟨p, ep⟩ : ∃ p, p = s1 * s2 := ⟨_, rfl⟩
      have hw : IntKind.i64.wrap (s1 * s2) = p := by rw [ep, es1, es2]; exact sgn_wrap _ _
      have hp : decide (p < 0) = !agrB (zs.getD i 0) (ys.getD i 0) := by rw [ep, es1, es2]; exact agree_sign _ _
      obtain ⟨q, eq⟩ : ∃ q, q = agrB (zs.getD i 0) (ys.getD i 0) := ⟨_, rfl⟩
      rw [← eq] at hp
      have EQ := hide eq
      have ES1 := hide es1
      have ES2 := hide es2
      clear es1 es2 ep eq
      have hi0 : (0 : Int) ≤ (i : Int) := by omega
      have hi1 : (i : Int) < (n : Int) := by omega
      have hi2 : (i : Int) < (n' : Int) := by omega
      go_upto_region 4 with fail
      have HW : Below wr.heap.size wr wr.drew := (Below.refl _ _).drew
      refine till_start (fun w' => w'.cell? ⟨g2, off2 + i * 2, none⟩ = some (.bool b2) ∧ w'.cell? ⟨g2, off2 + i * 2 + 1, none⟩ = some (.slice a2 l2 c2) ∧ w'.cell? ⟨g3, off3 + i * 2, none⟩ = some (.bool b3) ∧ w'.cell? ⟨g3, off3 + i * 2 + 1, none⟩ = some (.slice a3 l3 c3)) 11 (by kernel_rfl) ?_ (fun hHeld => ?_)
      · exact ⟨(E2.later HW).facts.1, (E2.later HW).facts.2, (E3.later HW).facts.1, (E3.later HW).facts.2⟩
      refine till_take (i := 0) (v := ?_) [2, 3, 4, 9, 10, 11] rfl (by kernel_rfl) (by kernel_rfl) (by kernel_rfl) (by kernel_rfl) (fun _ _ _ h => h) (Or.inl ⟨by rfl, ?_⟩) (by assumption) ?_
      rotate_left
      · (intro w hSw; (try dsimp only at hSw); go_simp; try with_reducible rfl)
      simp only [Act.put, List.getElem_toArray, List.getElem_cons_zero, List.setIfInBounds_toArray, List.set_cons_zero, List.set_cons_succ]
      refine till_take (i := 1) (v := ?_) [2, 3, 4, 9, 10, 11] rfl (by kernel_rfl) (by kernel_rfl) (by kernel_rfl) (by kernel_rfl) (fun _ _ _ h => h) (Or.inl ⟨by rfl, ?_⟩) (by assumption) ?_
      rotate_left
      · (intro w hSw; (try dsimp only at hSw); go_simp; try with_reducible rfl)
      simp only [Act.put, List.getElem_toArray, List.getElem_cons_succ, List.getElem_cons_zero, List.setIfInBounds_toArray, List.set_cons_zero, List.set_cons_succ]
      refine till_take (i := 2) (v := ?_) [3, 4, 9, 10, 11] rfl (by kernel_rfl) (by kernel_rfl) (by kernel_rfl) (by kernel_rfl) (fun _ _ _ h => h) (Or.inl ⟨by rfl, ?_⟩) (by assumption) ?_
      rotate_left
      · (intro w hSw; (try dsimp only at hSw); go_simp; try with_reducible rfl)
      simp only [Act.put, List.getElem_toArray, List.getElem_cons_succ, List.getElem_cons_zero, List.setIfInBounds_toArray, List.set_cons_zero, List.set_cons_succ]
      refine till_take (i := 3) (v := ?_) [4, 9, 10, 11] rfl (by kernel_rfl) (by kernel_rfl) (by kernel_rfl) (by kernel_rfl) (fun _ _ _ h => h) (Or.inl ⟨by rfl, ?_⟩) (by assumption) ?_
      rotate_left
      · (intro w hSw; (try dsimp only at hSw); go_simp; try with_reducible rfl)
      simp only [Act.put, List.getElem_toArray, List.getElem_cons_succ, List.getElem_cons_zero, List.setIfInBounds_toArray, List.set_cons_zero, List.set_cons_succ]
      refine till_take (i := 5) (v := ?_) [7, 8, 9, 10, 11] rfl (by kernel_rfl) (by kernel_rfl) (by kernel_rfl) (by kernel_rfl) (fun _ _ _ h => h) (Or.inl ⟨by rfl, ?_⟩) (by assumption) ?_
      rotate_left
      · (intro w hSw; (try dsimp only at hSw); go_simp; try with_reducible rfl)
      simp only [Act.put, List.getElem_toArray, List.getElem_cons_succ, List.getElem_cons_zero, List.setIfInBounds_toArray, List.set_cons_zero, List.set_cons_succ]
      refine till_take (i := 6) (v := ?_) [7, 8, 9, 10, 11] rfl (by kernel_rfl) (by kernel_rfl) (by kernel_rfl) (by kernel_rfl) (fun _ _ _ h => h) (Or.inl ⟨by rfl, ?_⟩) (by assumption) ?_
      rotate_left
      · (intro w hSw; (try dsimp only at hSw); go_simp; try with_reducible rfl)
      simp only [Act.put, List.getElem_toArray, List.getElem_cons_succ, List.getElem_cons_zero, List.setIfInBounds_toArray, List.set_cons_zero, List.set_cons_succ]
      refine till_take (i := 7) (v := ?_) [8, 9, 10, 11] rfl (by kernel_rfl) (by kernel_rfl) (by kernel_rfl) (by kernel_rfl) (fun _ _ _ h => h) (Or.inl ⟨by rfl, ?_⟩) (by assumption) ?_
      rotate_left
      · (intro w hSw; (try dsimp only at hSw); go_simp; try with_reducible rfl)
      simp only [Act.put, List.getElem_toArray, List.getElem_cons_succ, List.getElem_cons_zero, List.setIfInBounds_toArray, List.set_cons_zero, List.set_cons_succ]
      refine till_take (i := 8) (v := ?_) [9, 10, 11] rfl (by kernel_rfl) (by kernel_rfl) (by kernel_rfl) (by kernel_rfl) (fun _ _ _ h => h) (Or.inl ⟨by rfl, ?_⟩) (by assumption) ?_
      rotate_left
      · (intro w hSw; (try dsimp only at hSw); go_simp; try with_reducible rfl)
      simp only [Act.put, List.getElem_toArray, List.getElem_cons_succ, List.getElem_cons_zero, List.setIfInBounds_toArray, List.set_cons_zero, List.set_cons_succ]
      refine till_in (i := 4) (by kernel_rfl) rfl (fun K hK => ?_)
      go_simp
      refine (signK b2 a2 l2 c2 (zs.getD i 0) k s1 _ (hy2.later HW) (unhide ES1)).mono ?_
      rintro e w9 ⟨rfl, hb9⟩
      replace HW := Below.step HW hb9
      clear hb9
      refine hK.out _ _ ?_ (fun hHeld => ?_)
      · exact ⟨(E2.later HW).facts.1, (E2.later HW).facts.2, (E3.later HW).facts.1, (E3.later HW).facts.2⟩
      clear hK K
      try simp only [Act.put, List.getElem_toArray, List.getElem_cons_succ, List.getElem_cons_zero, List.setIfInBounds_toArray, List.set_cons_zero, List.set_cons_succ]
      refine till_in (i := 9) (by kernel_rfl) rfl (fun K hK => ?_)
      go_simp
      refine (signK b3 a3 l3 c3 (ys.getD i 0) l s2 _ (hy3.later HW) (unhide ES2)).mono ?_
      rintro e w9 ⟨rfl, hb9⟩
      replace HW := Below.step HW hb9
      clear hb9
      refine hK.out _ _ ?_ (fun hHeld => ?_)
      · exact ⟨(E2.later HW).facts.1, (E2.later HW).facts.2, (E3.later HW).facts.1, (E3.later HW).facts.2⟩
      clear hK K
      try simp only [Act.put, List.getElem_toArray, List.getElem_cons_succ, List.getElem_cons_zero, List.setIfInBounds_toArray, List.set_cons_zero, List.set_cons_succ]
      refine till_take (i := 10) (v := ?_) [11] rfl (by kernel_rfl) (by kernel_rfl) (by kernel_rfl) (by kernel_rfl) (fun _ _ _ h => h) (Or.inl ⟨by rfl, ?_⟩) (by assumption) ?_
      rotate_left
      · (intro w hSw; (try dsimp only at hSw); go_simp; try with_reducible rfl)
      simp only [Act.put, List.getElem_toArray, List.getElem_cons_succ, List.getElem_cons_zero, List.setIfInBounds_toArray, List.set_cons_zero, List.set_cons_succ]
      refine till_out (i := 11) (by kernel_rfl) rfl (by kernel_rfl) (fun K hK => ?_)
      go_simp
      refine hK.out _ _ ?_
      clear hK K
      try simp only [Act.put, List.getElem_toArray, List.getElem_cons_succ, List.getElem_cons_zero, List.setIfInBounds_toArray, List.set_cons_zero, List.set_cons_succ]
      refine till_done (by kernel_rfl) ?_ _
      replace HB := hide (Below.step (unhide HB) HW)
      clear HW hy2 hy3 E2 E3
      by_cases hq : q = true
      · subst hq
        go_wp2
        go_roundw
        case rel =>
          refine ⟨i + 1, by omega, by go_num, fun j hj => ?_, unhide HB⟩
          by_cases e : j = i
          · subst e; exact (unhide EQ).symm
          · exact unhide HA j (by omega)
        case measure => simp [intOf]; omega
      · have hq' : q = false := by simpa using hq
        subst hq'
        have hr : r = false := by
          rw [unhide ER]
          exact vagree_no (unhide EQ).symm
        subst hr
        go_wp2
        go_ret
        exact ⟨rfl, unhide HB⟩
    · have hin : i = m := by omega
      have hr : r = true := by
        rw [unhide ER]
        refine vagree_yes fun j hj => ?_
        have := unhide EM
        have := unhide HL
        have := unhide HL'
        by_cases c : j < i
        · exact unhide HA j c
        · rw [getD_out (v := ys) (by omega), agrB_comm]; exact agrB_zero _
      subst hr
      go_wp2
      go_ret
      exact ⟨rfl, unhide HB⟩

#print axioms sagreeK
end Go.Proofs.Ytgppplhbhgfmkaa
