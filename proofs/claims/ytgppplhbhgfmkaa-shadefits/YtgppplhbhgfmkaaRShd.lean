/-
  What the reference's Agree and Below tell. (IN PARTS)
-/
import Derived.Test.YtgppplhbhgfmkaaJF
import Derived.Test.YtgppplhbhgfmkaaSNum
import Derived.Test.YtgppplhbhgfmkaaSBel
import Derived.Test.YtgppplhbhgfmkaaSAgr
import Derived.Deep.CutRange
namespace Go.Proofs.Ytgppplhbhgfmkaa
open Go.RowKit Lb

theorem below_signs (x y : Int) : belB x y = true ↔ x.sign = 0 ∨ x.sign = y.sign ∧ ¬ ((x.natAbs : Int) - (y.natAbs : Int)).sign > 0 := by
  rw [belB_sign]
  refine or_congr Iff.rfl (and_congr Iff.rfl ?_)
  rcases Int.lt_trichotomy ((x.natAbs : Int) - (y.natAbs : Int)) 0 with c | c | c
  · rw [Int.sign_eq_neg_one_of_neg c]; omega
  · rw [c, Int.sign_zero]; omega
  · rw [Int.sign_eq_one_of_pos c]; omega

set_option maxHeartbeats 1600000 in
theorem ragreeK (ao : Option Addr) (n cap : Nat) (zs : List Int) (k : Nat) (ao' : Option Addr) (n' cap' : Nat) (ys : List Int) (l : Nat) (w : World) (h : VK w ao n cap zs k) (h' : VK w ao' n' cap' ys l) (hl : l ≤ 900000) (hn : n ≤ 1000000) :
    Calls Try.prog 16 #[.slice ao n cap, .slice ao' n' cap'] w fun e w' => e = .returned (.bool (vagree zs ys)) ∧ Below w.heap.size w w' := by
  have HL := hide h.len_eq
  obtain ⟨r, er⟩ : ∃ r, r = vagree zs ys := ⟨_, rfl⟩
  rw [← er]
  have ER := hide er
  clear er
  go_enter Try.func16, Try.ntmps16
  go_wp2_with fail
  go_loopw [5] (fun t wr => ∃ (i : Nat), i ≤ n ∧ t = .int .i64 (i : Int) ∧ (∀ j, j < i → agrB (zs.getD j 0) (ys.getD j 0) = true) ∧ Below w.heap.size w wr) (fun t _ => n - (intOf t).toNat)
  case atStart => exact ⟨0, Nat.zero_le _, rfl, fun j hj => absurd hj (by omega), Below.refl _ _⟩
  case round =>
    obtain ⟨i, hi, rfl, hall, hB⟩ := hrel
    have HA := hide hall
    clear hall
    have HB := hide hB
    clear hB
    by_cases hlt : i < n
    · obtain ⟨g2, off2, rfl⟩ := h.some (by omega)
      obtain ⟨b2, a2, l2, c2, E2, hy2⟩ := (h.later (unhide HB)).at (show i < n by omega)
      obtain ⟨f1, f2⟩ := E2.facts
      have hg2 := E2.1
      have hi1 : (i : Int) < (n : Int) := by omega
      obtain ⟨s1, es1⟩ : ∃ s, s = (zs.getD i 0).sign := ⟨_, rfl⟩
      obtain ⟨s2, es2⟩ : ∃ s, s = (ys.getD i 0).sign := ⟨_, rfl⟩
      obtain ⟨p, ep⟩ : ∃ p, p = s1 * s2 := ⟨_, rfl⟩
      have hw : IntKind.i64.wrap (s1 * s2) = p := by rw [ep, es1, es2]; exact sgn_wrap _ _
      have hp : decide (p < 0) = !agrB (zs.getD i 0) (ys.getD i 0) := by rw [ep, es1, es2]; exact agree_sign _ _
      obtain ⟨q, eq⟩ : ∃ q, q = agrB (zs.getD i 0) (ys.getD i 0) := ⟨_, rfl⟩
      rw [← eq] at hp
      have EQ := hide eq
      have ES1 := hide es1
      have ES2 := hide es2
      clear es1 es2 ep eq
      go_wp2_with fail
      refine (rsignK b2 a2 l2 c2 (zs.getD i 0) k s1 _ hy2 (unhide ES1)).mono ?_
      rintro e w3 ⟨rfl, hb1⟩
      replace HB := hide (Below.step (unhide HB) hb1)
      clear hb1
      clear hy2 f1 f2 hg2 E2
      go_wp2_with fail
      refine (ratK ao' n' cap' ys l i _ (h'.later (unhide HB)) (by omega)).mono ?_
      rintro e w4 ⟨b3, a3, l3, c3, rfl, h3, hb1⟩
      replace HB := hide (Below.step (unhide HB) hb1)
      clear hb1
      go_wp2_with fail
      refine (rsignK b3 a3 l3 c3 (ys.getD i 0) l s2 _ (h3.ik (by omega)) (unhide ES2)).mono ?_
      rintro e w5 ⟨rfl, hb1⟩
      replace HB := hide (Below.step (unhide HB) hb1)
      clear hb1
      clear h3
      by_cases hq : q = true
      · subst hq
        have hp' : ¬ p < 0 := by simpa using hp
        clear hp
        go_wp2
        go_roundw
        case rel =>
          refine ⟨i + 1, by omega, by go_num, fun j hj => ?_, unhide HB⟩
          by_cases e : j = i
          · subst e; exact (unhide EQ).symm
          · exact unhide HA j (by omega)
        case measure => simp [intOf]; omega
      · have hq' : q = false := by simpa using hq
        subst hq'
        have hp' : p < 0 := by simpa using hp
        clear hp
        have hr : r = false := by
          rw [unhide ER]
          exact vagree_no (unhide EQ).symm
        subst hr
        go_wp2
        go_ret
        exact ⟨rfl, unhide HB⟩
    · have hin : i = n := by omega
      have hi1 : ¬ (i : Int) < (n : Int) := by omega
      have hr : r = true := by
        rw [unhide ER]
        exact vagree_yes fun j hj => unhide HA j (by rw [unhide HL] at hj; omega)
      subst hr
      go_wp2
      go_ret
      exact ⟨rfl, unhide HB⟩

set_option maxHeartbeats 2400000 in
theorem rbelowK (ao : Option Addr) (n cap : Nat) (zs : List Int) (k : Nat) (ao' : Option Addr) (n' cap' : Nat) (ys : List Int) (l : Nat) (w : World) (h : VK w ao n cap zs k) (h' : VK w ao' n' cap' ys l) (hk : k ≤ 900000) (hl : l ≤ 900000) (hn : n ≤ 1000000) :
    Calls Try.prog 18 #[.slice ao n cap, .slice ao' n' cap'] w fun e w' => e = .returned (.bool (vbelow zs ys)) ∧ Below w.heap.size w w' := by
  have HL := hide h.len_eq
  obtain ⟨r, er⟩ : ∃ r, r = vbelow zs ys := ⟨_, rfl⟩
  rw [← er]
  have ER := hide er
  clear er
  go_enter Try.func18, Try.ntmps18
  go_wp2_with fail
  go_loopw [5] (fun t wr => ∃ (i : Nat), i ≤ n ∧ t = .int .i64 (i : Int) ∧ (∀ j, j < i → belB (zs.getD j 0) (ys.getD j 0) = true) ∧ Below w.heap.size w wr) (fun t _ => n - (intOf t).toNat)
  case atStart => exact ⟨0, Nat.zero_le _, rfl, fun j hj => absurd hj (by omega), Below.refl _ _⟩
  case round =>
    obtain ⟨i, hi, rfl, hall, hB⟩ := hrel
    have HA := hide hall
    clear hall
    have HB := hide hB
    clear hB
    by_cases hlt : i < n
    · obtain ⟨g2, off2, rfl⟩ := h.some (by omega)
      obtain ⟨b2, a2, l2, c2, E2, hy2⟩ := (h.later (unhide HB)).at (show i < n by omega)
      obtain ⟨f1, f2⟩ := E2.facts
      have hg2 := E2.1
      have hi1 : (i : Int) < (n : Int) := by omega
      obtain ⟨z, ez⟩ : ∃ z, z = zs.getD i 0 := ⟨_, rfl⟩
      obtain ⟨y, ey⟩ : ∃ y, y = ys.getD i 0 := ⟨_, rfl⟩
      obtain ⟨q, eq⟩ : ∃ q, q = belB z y := ⟨_, rfl⟩
      have EQ := hide (show q = belB (zs.getD i 0) (ys.getD i 0) by rw [eq, ez, ey])
      rw [← ez] at hy2
      have EY := hide ey
      clear ez ey
      obtain ⟨s1, es1⟩ : ∃ s, s = z.sign := ⟨_, rfl⟩
      obtain ⟨s2, es2⟩ : ∃ s, s = y.sign := ⟨_, rfl⟩
      obtain ⟨d, ed⟩ : ∃ d, d = ((z.natAbs : Int) - (y.natAbs : Int)).sign := ⟨_, rfl⟩
      have HQ := hide (show q = true ↔ s1 = 0 ∨ s1 = s2 ∧ ¬ d > 0 by rw [eq, es1, es2, ed]; exact below_signs z y)
      have ES1 := hide es1
      have ES2 := hide es2
      have ED := hide ed
      clear es1 es2 ed eq
      go_wp2_with fail
      refine (rsignK b2 a2 l2 c2 z k s1 _ hy2 (unhide ES1)).mono ?_
      rintro e w3 ⟨rfl, hb1⟩
      replace E2 := E2.later hb1
      replace hy2 := hy2.later hb1
      replace HB := hide (Below.step (unhide HB) hb1)
      clear hb1
      clear f1 f2 hg2
      by_cases h0 : s1 = 0
      · have hs : (s1 != 0) = false := by rw [h0]; rfl
        have hq : q = true := (unhide HQ).2 (Or.inl h0)
        subst hq
        clear E2 hy2 h0
        go_wp2
        go_roundw
        case rel =>
          refine ⟨i + 1, by omega, by go_num, fun j hj => ?_, unhide HB⟩
          by_cases e : j = i
          · subst e; exact (unhide EQ).symm
          · exact unhide HA j (by omega)
        case measure => simp [intOf]; omega
      · have hs : (s1 != 0) = true := by rw [bne_iff_ne]; exact h0
        go_wp2_with fail
        refine (ratK ao' n' cap' ys l i _ (h'.later (unhide HB)) (by omega)).mono ?_
        rintro e w4 ⟨b3, a3, l3, c3, rfl, h3, hb1⟩
        rw [← unhide EY] at h3
        replace E2 := E2.later hb1
        replace hy2 := hy2.later hb1
        replace HB := hide (Below.step (unhide HB) hb1)
        clear hb1
        go_wp2_with fail
        refine (rsignK b3 a3 l3 c3 y l s2 _ (h3.ik (by omega)) (unhide ES2)).mono ?_
        rintro e w5 ⟨rfl, hb1⟩
        replace E2 := E2.later hb1
        replace hy2 := hy2.later hb1
        replace HB := hide (Below.step (unhide HB) hb1)
        clear hb1
        clear h3
        by_cases h1 : s1 = s2
        · have hs2 : (s1 != s2) = false := by rw [h1]; simp
          obtain ⟨f1, f2⟩ := E2.facts
          have hg2 := E2.1
          go_wp2_with fail
          refine (rabsK b2 a2 l2 c2 z k _ hy2).mono ?_
          rintro e w6 ⟨b4, a4, l4, c4, rfl, h4, hb1⟩
          replace HB := hide (Below.step (unhide HB) hb1)
          clear hb1
          clear f1 f2 hg2 E2 hy2
          go_wp2_with fail
          refine (ratK ao' n' cap' ys l i _ (h'.later (unhide HB)) (by omega)).mono ?_
          rintro e w7 ⟨b5, a5, l5, c5, rfl, h5, hb1⟩
          rw [← unhide EY] at h5
          replace h4 := h4.later hb1
          replace HB := hide (Below.step (unhide HB) hb1)
          clear hb1
          go_wp2_with fail
          refine (rabsK b5 a5 l5 c5 y l _ (h5.ik (by omega))).mono ?_
          rintro e w8 ⟨b6, a6, l6, c6, rfl, h6, hb1⟩
          replace h4 := h4.later hb1
          replace HB := hide (Below.step (unhide HB) hb1)
          clear hb1
          clear h5
          go_wp2_with fail
          refine (rcmpK b4 a4 l4 c4 _ k b6 a6 l6 c6 _ l d _ (h4.ik (by omega)) (h6.ik (by omega)) (unhide ED)).mono ?_
          rintro e w9 ⟨rfl, hb1⟩
          replace HB := hide (Below.step (unhide HB) hb1)
          clear hb1
          clear h4 h6
          by_cases h2 : d > 0
          · have hq : q = false := by
              rw [← Bool.not_eq_true, unhide HQ]
              omega
            subst hq
            have hr : r = false := by
              rw [unhide ER]
              exact vbelow_no (unhide EQ).symm
            subst hr
            go_wp2
            go_ret
            exact ⟨rfl, unhide HB⟩
          · have hq : q = true := (unhide HQ).2 (Or.inr ⟨h1, by omega⟩)
            subst hq
            go_wp2
            go_roundw
            case rel =>
              refine ⟨i + 1, by omega, by go_num, fun j hj => ?_, unhide HB⟩
              by_cases e : j = i
              · subst e; exact (unhide EQ).symm
              · exact unhide HA j (by omega)
            case measure => simp [intOf]; omega
        · have hs2 : (s1 != s2) = true := by rw [bne_iff_ne]; exact h1
          have hq : q = false := by
            rw [← Bool.not_eq_true, unhide HQ]
            omega
          subst hq
          clear E2 hy2
          have hr : r = false := by
            rw [unhide ER]
            exact vbelow_no (unhide EQ).symm
          subst hr
          go_wp2
          go_ret
          exact ⟨rfl, unhide HB⟩
    · have hin : i = n := by omega
      have hi1 : ¬ (i : Int) < (n : Int) := by omega
      have hr : r = true := by
        rw [unhide ER]
        exact vbelow_yes fun j hj => unhide HA j (by rw [unhide HL] at hj; omega)
      subst hr
      go_wp2
      go_ret
      exact ⟨rfl, unhide HB⟩

#print axioms ragreeK
#print axioms rbelowK
end Go.Proofs.Ytgppplhbhgfmkaa
