/-
  The law DigitOrder, walked.
-/
import Derived.Test.YtfjebgjhhojphaaAwake3
namespace Go.Proofs.Ytfjebgjhhojphaa
open Go.RowKit Lb

theorem int_lt_nat (n m : Nat) : decide (n < m) = decide ((n : Int) < (m : Int)) := by
  apply decide_eq_decide.2; omega
theorem list_lt_irrefl (l : List Nat) : ¬ l < l := List.lt_irrefl l
/-- What the walk asks of two texts. -/
theorem order_facts {N M n m : Nat} {s t : ByteArray} (hs : byts s = sgn N n) (ht : byts t = sgn M m) (hi : IsLen N n) (hj : IsLen M m) :
    (cmpI N M = -1 ∧ (s.toList == t.toList) = false ∧ ((n : Int) < (m : Int) ∨ (¬ (n : Int) < (m : Int) ∧ ((n : Int) == (m : Int)) = true ∧ Op.bytesLess s.toList t.toList = true))) ∨
    (cmpI N M = 0 ∧ (s.toList == t.toList) = true ∧ ¬ (n : Int) < (m : Int) ∧ ((n : Int) == (m : Int)) = true ∧ Op.bytesLess s.toList t.toList = false) ∨
    (cmpI N M = 1 ∧ (s.toList == t.toList) = false ∧ ¬ (n : Int) < (m : Int) ∧ (((n : Int) == (m : Int)) = false ∨ (((n : Int) == (m : Int)) = true ∧ Op.bytesLess s.toList t.toList = false))) := by
  have ho := order_sgn hi hj
  rw [byts_eql, byts_less, hs, ht]
  rcases Nat.lt_trichotomy N M with h | h | h
  · left
    have hne : ¬ (sgn N n = sgn M m) := fun e => by have := sgn_inj hi hj e; omega
    refine ⟨cmpI_lt h, by simpa using hne, ?_⟩
    rcases ho.1 h with c | ⟨c, c2⟩
    · left; omega
    · right
      exact ⟨by omega, by simp [c], by simpa using c2⟩
  · right; left
    subst h
    obtain rfl := isLen_inj hi hj
    exact ⟨cmpI_eq rfl, by simp, by omega, by simp, decide_eq_false (list_lt_irrefl _)⟩
  · right; right
    have hne : ¬ (sgn N n = sgn M m) := fun e => by have := sgn_inj hi hj e; omega
    have hno : ¬ (n < m ∨ (n = m ∧ sgn N n < sgn M m)) := fun e => by have := ho.2 e; omega
    refine ⟨cmpI_gt h, by simpa using hne, by omega, ?_⟩
    by_cases c : n = m
    · right
      exact ⟨by simp [c], by simpa using fun e => hno (Or.inr ⟨c, e⟩)⟩
    · left
      rw [beq_eq_false_iff_ne]; omega
/-- No nought ahead, but for 0 itself. -/
theorem nought_facts {N n : Nat} {s : ByteArray} (hs : byts s = sgn N n) (hi : IsLen N n) : (s.toList == [48]) = true ∨ ((s.toList == [48]) = false ∧ ((s.extract 0 1).toList == [48]) = false) := by
  by_cases h : N = 0
  · left
    subst h
    obtain rfl := isLen_inj hi isLen_zero
    rw [toList_of (l := [48]) (by rw [hs]; decide)]; rfl
  · right
    have hd := no_nought hi h
    have h1 := hi.1
    obtain ⟨k, rfl⟩ : ∃ k, n = k + 1 := ⟨n - 1, by omega⟩
    have hb : ∀ (x : ByteArray), (∃ l, byts x = (48 + dig N k) :: l) → (x.toList == [48]) = false := by
      rintro x ⟨l, hx⟩
      rw [beq_eq_false_iff_ne]
      intro e
      have : byts x = [48] := by unfold byts; rw [← ByteArray.toList_eq, e]; rfl
      rw [hx] at this
      simp only [List.cons.injEq] at this
      simp at hd
      omega
    refine ⟨hb s ⟨_, hs⟩, hb _ ⟨[], ?_⟩⟩
    rw [byts_extract, hs]
    rfl

set_option maxRecDepth 20000 in
set_option maxHeartbeats 2000000 in
theorem digitOrder_walk (a0 : Option Addr) (len0 cap0 : Nat) (xs0 : List Nat) (a1 : Option Addr) (len1 cap1 : Nat) (xs1 : List Nat) (w : World) (r0 : RowAt w a0 len0 cap0 xs0) (r1 : RowAt w a1 len1 cap1 xs1) :
    Calls Try.prog 6 #[.slice a0 len0 cap0, .slice a1 len1 cap1] w fun e w' => e = .returned (.bool true) ∧ Below w.heap.size w w' := by
  by_cases h0 : 20 < len0
  · have h0' : 20 < (len0 : Int) := by omega
    go_enter Try.func6, Try.ntmps6
    go_wp2_with (go_at_call 8; refine (awake_any _).mono ?_; rintro e w' ⟨rfl, hbel⟩)
    go_ret
    exact ⟨rfl, hbel⟩
  have h0' : ¬ (20 < (len0 : Int)) := by omega
  by_cases h1 : 20 < len1
  · have h1' : 20 < (len1 : Int) := by omega
    go_enter Try.func6, Try.ntmps6
    go_wp2_with (go_at_call 8; refine (awake_any _).mono ?_; rintro e w' ⟨rfl, hbel⟩)
    go_ret
    exact ⟨rfl, hbel⟩
  have h1' : ¬ (20 < (len1 : Int)) := by omega
  go_enter Try.func6, Try.ntmps6
  go_wp2_with fail
  refine (text_any _ _ _ _ _ r0.val (by omega)).mono ?_
  rintro e w1 ⟨n, s, rfl, hs, hi, hb1⟩
  go_wp2_with fail
  refine (text_any _ _ _ _ _ (r1.later hb1).val (by omega)).mono ?_
  rintro e w2 ⟨m, t, rfl, ht, hj, hb2⟩
  have hW2 := Below.step hb1 hb2
  have hsz : s.size = n := by rw [← byts_length, hs, sgn_length]
  have htz : t.size = m := by rw [← byts_length, ht, sgn_length]
  have hn1 : 1 ≤ n := hi.1
  have hn2 : ¬ ((n : Int) < 1) := by omega
  have F1 := order_facts hs ht hi hj
  have F2 := nought_facts hs hi
  obtain ⟨C, hC⟩ : ∃ C, C = cmpI (val xs0) (val xs1) := ⟨_, rfl⟩
  rw [← hC] at F1
  have HC := hide hC
  clear hs ht hi hj hb1 hb2 hC
  rcases F1 with ⟨rfl, f2, f3 | ⟨f3, f4, f5⟩⟩ | ⟨rfl, f2, f3, f4, f5⟩ | ⟨rfl, f2, f3, f4 | ⟨f4, f5⟩⟩
  all_goals
    have f6 := int_lt_nat n m
    simp only [f3] at f6
    rcases F2 with g1 | ⟨g1, g2⟩
  all_goals
    go_wp2_with fail
    refine (cmp_num _ _ _ _ _ _ _ _ _ (r0.later hW2).val (r1.later hW2).val).mono ?_
    rintro e w3 ⟨rfl, hb3⟩
    rw [← unhide HC]
    have hW3 := Below.step hW2 hb3
    clear hW2 hb3
    go_wp2_with fail
    refine (cmp_num _ _ _ _ _ _ _ _ _ (r0.later hW3).val (r1.later hW3).val).mono ?_
    rintro e w4 ⟨rfl, hb4⟩
    rw [← unhide HC]
    have hW4 := Below.step hW3 hb4
    clear hW3 hb4
    go_wp2_with fail
    refine (awake_any _).mono ?_
    rintro e w5 ⟨rfl, hb5⟩
    have hW5 := Below.step hW4 hb5
    clear hW4 hb5
    go_wp2
    go_ret
    exact ⟨rfl, hW5⟩
#print axioms digitOrder_walk
end Go.Proofs.Ytfjebgjhhojphaa
