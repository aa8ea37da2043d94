/-
  What at, between and Below of package shade tell. (IN PARTS)
-/
import Derived.Test.YtgppplhbhgfmkaaJF
import Derived.Test.YtgppplhbhgfmkaaSNum
import Derived.Deep.CutRange
namespace Go.Proofs.Ytgppplhbhgfmkaa
open Go.RowKit Lb

theorem sgn_three (x : Int) : x.sign = -1 ∨ x.sign = 0 ∨ x.sign = 1 := by
  rcases Int.lt_trichotomy x 0 with hx | hx | hx
  · exact Or.inl (Int.sign_eq_neg_one_of_neg hx)
  · subst hx; exact Or.inr (Or.inl rfl)
  · exact Or.inr (Or.inr (Int.sign_eq_one_of_pos hx))
theorem sgn_wrap (x y : Int) : IntKind.i64.wrap (x.sign * y.sign) = x.sign * y.sign := by
  rcases sgn_three x with e | e | e <;> rcases sgn_three y with d | d | d <;> rw [e, d] <;> decide
theorem between_sign (x y : Int) : decide (x.sign * (x - y).sign ≤ 0) = belB x y := by
  rw [Bool.eq_iff_iff, decide_eq_true_iff, belB_iff]
  rcases Int.lt_trichotomy x 0 with hx | hx | hx <;> rcases Int.lt_trichotomy (x - y) 0 with hy | hy | hy
  all_goals
    first
      | rw [Int.sign_eq_neg_one_of_neg hx]
      | rw [Int.sign_eq_one_of_pos hx]
      | (rw [hx, Int.sign_zero]; rw [hx] at hy)
    first
      | rw [Int.sign_eq_neg_one_of_neg hy]
      | rw [Int.sign_eq_one_of_pos hy]
      | (rw [hy, Int.sign_zero])
    omega

set_option maxHeartbeats 800000 in
theorem satK (ao : Option Addr) (n cap : Nat) (zs : List Int) (k : Nat) (i : Nat) (w : World) (h : VK w ao n cap zs k) (hk : k ≤ 900000) (hi : i ≤ 1000000000) :
    Calls Try.prog 42 #[.slice ao n cap, .int .i64 (i : Int)] w fun e w' => ∃ b1 a1 l1 c1, e = .returned (.agg #[.bool b1, .slice a1 l1 c1]) ∧ IK w' b1 a1 l1 c1 (zs.getD i 0) k ∧ Below w.heap.size w w' := by
  have hm := Nat.le_trans h.cap_le h.cap_max
  have hl := h.len_eq
  unfold maxLen at hm
  go_enter Try.func42, Try.ntmps42
  go_upto_region 1 with fail
  obtain ⟨W, hWe⟩ : ∃ W, W = w.alloc (.cells #[.bool false, .slice none 0 0] 31) := ⟨_, rfl⟩
  obtain ⟨B0, hb0⟩ := boxes1 w false none 0 0 hWe
  rw [← hWe]
  clear hWe
  have hsz := B0.lt
  obtain ⟨q1, q2, q3, q4⟩ := B0.facts
  by_cases hlt : i < n
  · obtain ⟨g, off, rfl⟩ := h.some (by omega)
    obtain ⟨b2, a2, l2, c2, he, hy⟩ := (h.later hb0).at hlt
    obtain ⟨f1, f2⟩ := he.facts
    have hg1 := he.1
    go_wp2
    refine bodyPost_ret (v := .agg #[.bool b2, .slice a2 l2 c2]) (by simp [results, Try.results42, go_sem, *]) rfl ⟨_, _, _, _, rfl, ?_⟩
    exact ⟨hy.put B0.noLimb _ _ _ _, below_put hb0 (by omega) _ _ _ _⟩
  · go_wp2
    refine bodyPost_ret (v := .agg #[.bool false, .slice none 0 0]) (by simp [results, Try.results42, go_sem, *]) rfl ⟨_, _, _, _, rfl, ?_⟩
    rw [getD_out (by omega)]
    exact ⟨((fk_zero W k).ik (by omega)).put B0.noLimb _ _ _ _, below_put hb0 (by omega) _ _ _ _⟩
set_option maxHeartbeats 1600000 in
theorem sbetweenK (b : Bool) (aa : Option Addr) (la ca : Nat) (x : Int) (k : Nat) (b' : Bool) (ab : Option Addr) (lb cb : Nat) (y : Int) (l : Nat) (q : Bool) (w : World) (hx : IK w b aa la ca x k) (hy : IK w b' ab lb cb y l) (hq : q = belB x y) :
    Calls Try.prog 41 #[.agg #[.bool b, .slice aa la ca], .agg #[.bool b', .slice ab lb cb]] w fun e w' => e = .returned (.bool q) ∧ Below w.heap.size w w' := by
  obtain ⟨s1, es1⟩ : ∃ s, s = x.sign := ⟨_, rfl⟩
  obtain ⟨s2, es2⟩ : ∃ s, s = (x - y).sign := ⟨_, rfl⟩
  obtain ⟨p, ep⟩ : ∃ p, p = s1 * s2 := ⟨_, rfl⟩
  have hw : IntKind.i64.wrap (s1 * s2) = p := by rw [ep, es1, es2]; exact sgn_wrap _ _
  have hp : decide (p ≤ 0) = q := by rw [hq, ep, es1, es2]; exact between_sign x y
  have ES1 := hide es1
  have ES2 := hide es2
  clear es1 es2 ep hq
  go_enter Try.func41, Try.ntmps41
  go_upto_region 1 with fail
  obtain ⟨W, hWe⟩ : ∃ W, W = ((w.alloc (.cells #[.bool b, .slice aa la ca] 31)).alloc (.cells #[.bool b', .slice ab lb cb] 31)) := ⟨_, rfl⟩
  obtain ⟨B0, B1, hb0⟩ := boxes2 w b aa la ca b' ab lb cb hWe
  rw [← hWe]
  clear hWe
  replace hx := hx.later hb0
  replace hy := hy.later hb0
  have HW : Below W.heap.size W W.drew := (Below.refl _ _).drew
  refine till_start (fun w' => w'.cell? ⟨w.heap.size, 0, none⟩ = some (.bool b) ∧ w'.cell? ⟨w.heap.size, 1, none⟩ = some (.slice aa la ca) ∧ w'.cell? ⟨w.heap.size + 1, 0, none⟩ = some (.bool b') ∧ w'.cell? ⟨w.heap.size + 1, 1, none⟩ = some (.slice ab lb cb)) 7 (by kernel_rfl) ?_ (fun hHeld => ?_)
  · exact ⟨(B0.later HW).facts.1, (B0.later HW).facts.2.1, (B1.later HW).facts.1, (B1.later HW).facts.2.1⟩
  refine till_take (i := 0) (v := ?_) [1, 4, 5, 6, 7] rfl (by kernel_rfl) (by kernel_rfl) (by kernel_rfl) (by kernel_rfl) (fun _ _ _ h => h) (Or.inl ⟨by rfl, ?_⟩) (by assumption) ?_
  rotate_left
  · (intro w hSw; (try dsimp only at hSw); go_simp; try with_reducible rfl)
  simp only [Act.put, List.getElem_toArray, List.getElem_cons_zero, List.setIfInBounds_toArray, List.set_cons_zero, List.set_cons_succ]
  refine till_take (i := 2) (v := ?_) [4, 5, 6, 7] rfl (by kernel_rfl) (by kernel_rfl) (by kernel_rfl) (by kernel_rfl) (fun _ _ _ h => h) (Or.inl ⟨by rfl, ?_⟩) (by assumption) ?_
  rotate_left
  · (intro w hSw; (try dsimp only at hSw); go_simp; try with_reducible rfl)
  simp only [Act.put, List.getElem_toArray, List.getElem_cons_succ, List.getElem_cons_zero, List.setIfInBounds_toArray, List.set_cons_zero, List.set_cons_succ]
  refine till_take (i := 3) (v := ?_) [4, 5, 6, 7] rfl (by kernel_rfl) (by kernel_rfl) (by kernel_rfl) (by kernel_rfl) (fun _ _ _ h => h) (Or.inl ⟨by rfl, ?_⟩) (by assumption) ?_
  rotate_left
  · (intro w hSw; (try dsimp only at hSw); go_simp; try with_reducible rfl)
  simp only [Act.put, List.getElem_toArray, List.getElem_cons_succ, List.getElem_cons_zero, List.setIfInBounds_toArray, List.set_cons_zero, List.set_cons_succ]
  refine till_in (i := 1) (by kernel_rfl) rfl (fun K hK => ?_)
  go_simp
  refine (signK b aa la ca x k s1 _ (hx.later HW) (unhide ES1)).mono ?_
  rintro e w9 ⟨rfl, hb9⟩
  replace HW := Below.step HW hb9
  clear hb9
  refine hK.out _ _ ?_ (fun hHeld => ?_)
  · exact ⟨(B0.later HW).facts.1, (B0.later HW).facts.2.1, (B1.later HW).facts.1, (B1.later HW).facts.2.1⟩
  clear hK K
  try simp only [Act.put, List.getElem_toArray, List.getElem_cons_succ, List.getElem_cons_zero, List.setIfInBounds_toArray, List.set_cons_zero, List.set_cons_succ]
  refine till_in (i := 4) (by kernel_rfl) rfl (fun K hK => ?_)
  go_simp
  refine (cmpK b aa la ca x k b' ab lb cb y l s2 _ (hx.later HW) (hy.later HW) (unhide ES2)).mono ?_
  rintro e w9 ⟨rfl, hb9⟩
  replace HW := Below.step HW hb9
  clear hb9
  refine hK.out _ _ ?_ (fun hHeld => ?_)
  · exact ⟨(B0.later HW).facts.1, (B0.later HW).facts.2.1, (B1.later HW).facts.1, (B1.later HW).facts.2.1⟩
  clear hK K
  try simp only [Act.put, List.getElem_toArray, List.getElem_cons_succ, List.getElem_cons_zero, List.setIfInBounds_toArray, List.set_cons_zero, List.set_cons_succ]
  refine till_take (i := 5) (v := ?_) [6, 7] rfl (by kernel_rfl) (by kernel_rfl) (by kernel_rfl) (by kernel_rfl) (fun _ _ _ h => h) (Or.inl ⟨by rfl, ?_⟩) (by assumption) ?_
  rotate_left
  · (intro w hSw; (try dsimp only at hSw); go_simp; try with_reducible rfl)
  simp only [Act.put, List.getElem_toArray, List.getElem_cons_succ, List.getElem_cons_zero, List.setIfInBounds_toArray, List.set_cons_zero, List.set_cons_succ]
  refine till_take (i := 6) (v := ?_) [7] rfl (by kernel_rfl) (by kernel_rfl) (by kernel_rfl) (by kernel_rfl) (fun _ _ _ h => h) (Or.inl ⟨by rfl, ?_⟩) (by assumption) ?_
  rotate_left
  · (intro w hSw; (try dsimp only at hSw); go_simp; try with_reducible rfl)
  simp only [Act.put, List.getElem_toArray, List.getElem_cons_succ, List.getElem_cons_zero, List.setIfInBounds_toArray, List.set_cons_zero, List.set_cons_succ]
  refine till_out (i := 7) (by kernel_rfl) rfl (by kernel_rfl) (fun K hK => ?_)
  go_simp
  refine hK.out _ _ ?_
  clear hK K
  try simp only [Act.put, List.getElem_toArray, List.getElem_cons_succ, List.getElem_cons_zero, List.setIfInBounds_toArray, List.set_cons_zero, List.set_cons_succ]
  refine till_done (by kernel_rfl) ?_ _
  go_wp2
  go_ret
  exact ⟨rfl, Below.step hb0 HW⟩

set_option maxHeartbeats 1600000 in
theorem sbelowK (ao : Option Addr) (n cap : Nat) (zs : List Int) (k : Nat) (ao' : Option Addr) (n' cap' : Nat) (ys : List Int) (l : Nat) (w : World) (h : VK w ao n cap zs k) (h' : VK w ao' n' cap' ys l) (hl : l ≤ 900000) (hn : n ≤ 1000000) :
    Calls Try.prog 17 #[.slice ao n cap, .slice ao' n' cap'] w fun e w' => e = .returned (.bool (vbelow zs ys)) ∧ Below w.heap.size w w' := by
  have HL := hide h.len_eq
  have hm := Nat.le_trans h.cap_le h.cap_max
  unfold maxLen at hm
  obtain ⟨r, er⟩ : ∃ r, r = vbelow zs ys := ⟨_, rfl⟩
  rw [← er]
  have ER := hide er
  clear er
  go_enter Try.func17, Try.ntmps17
  go_wp2_with fail
  go_loopw [9] (fun t wr => ∃ (i : Nat), i ≤ n ∧ t = .int .i64 (i : Int) ∧ (∀ j, j < i → belB (zs.getD j 0) (ys.getD j 0) = true) ∧ Below w.heap.size w wr) (fun t _ => n - (intOf t).toNat)
  case atStart => exact ⟨0, Nat.zero_le _, rfl, fun j hj => absurd hj (by omega), Below.refl _ _⟩
  case round =>
    obtain ⟨i, hi, rfl, hall, hB⟩ := hrel
    have HA := hide hall
    clear hall
    have HB := hide hB
    clear hB
    by_cases hlt : i < n
    · obtain ⟨g2, off2, rfl⟩ := h.some (by omega)
      obtain ⟨b2, a2, l2, c2, E2, hy2⟩ := (h.later (unhide HB)).at (show i < n by omega)
      have he := E2
      obtain ⟨f1, f2⟩ := E2.facts
      have hg2 := E2.1
      clear E2
      obtain ⟨q, eq⟩ : ∃ q, q = belB (zs.getD i 0) (ys.getD i 0) := ⟨_, rfl⟩
      have EQ := hide eq
      clear eq
      go_upto_region 4 with fail
      obtain ⟨W2, hW2⟩ : ∃ W2, W2 = wr.alloc (.cells #[.bool b2, .slice a2 l2 c2] 31) := ⟨_, rfl⟩
      obtain ⟨D0, hb1⟩ := boxes1 wr b2 a2 l2 c2 hW2
      rw [← hW2]
      clear hW2 f1 f2 he
      replace hy2 := hy2.later hb1
      replace HB := hide (Below.step (unhide HB) hb1)
      clear hb1
      have HW : Below W2.heap.size W2 W2.drew := (Below.refl _ _).drew
      refine till_start (fun w' => w'.cell? ⟨wr.heap.size, 0, none⟩ = some (.bool b2) ∧ w'.cell? ⟨wr.heap.size, 1, none⟩ = some (.slice a2 l2 c2)) 5 (by kernel_rfl) ?_ (fun hHeld => ?_)
      · exact ⟨(D0.later HW).facts.1, (D0.later HW).facts.2.1⟩
      refine till_take (i := 0) (v := ?_) [4, 5] rfl (by kernel_rfl) (by kernel_rfl) (by kernel_rfl) (by kernel_rfl) (fun _ _ _ h => h) (Or.inl ⟨by rfl, ?_⟩) (by assumption) ?_
      rotate_left
      · (intro w hSw; (try dsimp only at hSw); go_simp; try with_reducible rfl)
      simp only [Act.put, List.getElem_toArray, List.getElem_cons_zero, List.setIfInBounds_toArray, List.set_cons_zero, List.set_cons_succ]
      refine till_take (i := 1) (v := ?_) [3, 4, 5] rfl (by kernel_rfl) (by kernel_rfl) (by kernel_rfl) (by kernel_rfl) (fun _ _ _ h => h) (Or.inl ⟨by rfl, ?_⟩) (by assumption) ?_
      rotate_left
      · (intro w hSw; (try dsimp only at hSw); go_simp; try with_reducible rfl)
      simp only [Act.put, List.getElem_toArray, List.getElem_cons_succ, List.getElem_cons_zero, List.setIfInBounds_toArray, List.set_cons_zero, List.set_cons_succ]
      refine till_take (i := 2) (v := ?_) [3, 4, 5] rfl (by kernel_rfl) (by kernel_rfl) (by kernel_rfl) (by kernel_rfl) (fun _ _ _ h => h) (Or.inl ⟨by rfl, ?_⟩) (by assumption) ?_
      rotate_left
      · (intro w hSw; (try dsimp only at hSw); go_simp; try with_reducible rfl)
      simp only [Act.put, List.getElem_toArray, List.getElem_cons_succ, List.getElem_cons_zero, List.setIfInBounds_toArray, List.set_cons_zero, List.set_cons_succ]
      refine till_in (i := 3) (by kernel_rfl) rfl (fun K hK => ?_)
      go_simp
      refine (satK ao' n' cap' ys l i _ ((h'.later (unhide HB)).later HW) hl (by omega)).mono ?_
      rintro e w9 ⟨b3, a3, l3, c3, rfl, h3, hb9⟩
      replace HW := Below.step HW hb9
      clear hb9
      refine hK.out _ _ ?_ (fun hHeld => ?_)
      · exact ⟨(D0.later HW).facts.1, (D0.later HW).facts.2.1⟩
      clear hK K
      try simp only [Act.put, List.getElem_toArray, List.getElem_cons_succ, List.getElem_cons_zero, List.setIfInBounds_toArray, List.set_cons_zero, List.set_cons_succ]
      refine till_in (i := 4) (by kernel_rfl) rfl (fun K hK => ?_)
      go_simp
      refine (sbetweenK b2 a2 l2 c2 (zs.getD i 0) k b3 a3 l3 c3 (ys.getD i 0) l q _ (hy2.later HW) h3 (unhide EQ)).mono ?_
      rintro e w9 ⟨rfl, hb9⟩
      replace HW := Below.step HW hb9
      clear hb9
      clear h3
      refine hK.out _ _ ?_ (fun hHeld => ?_)
      · exact ⟨(D0.later HW).facts.1, (D0.later HW).facts.2.1⟩
      clear hK K
      try simp only [Act.put, List.getElem_toArray, List.getElem_cons_succ, List.getElem_cons_zero, List.setIfInBounds_toArray, List.set_cons_zero, List.set_cons_succ]
      refine till_out (i := 5) (by kernel_rfl) rfl (by kernel_rfl) (fun K hK => ?_)
      go_simp
      refine hK.out _ _ ?_
      clear hK K
      try simp only [Act.put, List.getElem_toArray, List.getElem_cons_succ, List.getElem_cons_zero, List.setIfInBounds_toArray, List.set_cons_zero, List.set_cons_succ]
      refine till_done (by kernel_rfl) ?_ _
      replace HB := hide (Below.step (unhide HB) HW)
      clear HW hy2 D0
      by_cases hq : q = true
      · subst hq
        go_wp2
        go_roundw
        case rel =>
          refine ⟨i + 1, by omega, by go_num, fun j hj => ?_, unhide HB⟩
          by_cases e : j = i
          · subst e; exact (unhide EQ).symm
          · exact unhide HA j (by omega)
        case measure => simp [intOf]; omega
      · have hq' : q = false := by simpa using hq
        subst hq'
        have hr : r = false := by
          rw [unhide ER]
          exact vbelow_no (unhide EQ).symm
        subst hr
        go_wp2
        go_ret
        exact ⟨rfl, unhide HB⟩
    · have hin : i = n := by omega
      have hr : r = true := by
        rw [unhide ER]
        exact vbelow_yes fun j hj => unhide HA j (by rw [unhide HL] at hj; omega)
      subst hr
      go_wp2
      go_ret
      exact ⟨rfl, unhide HB⟩

#print axioms satK
#print axioms sbetweenK
#print axioms sbelowK
end Go.Proofs.Ytgppplhbhgfmkaa
