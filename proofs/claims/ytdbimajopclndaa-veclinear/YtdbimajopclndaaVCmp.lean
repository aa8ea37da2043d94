/-
  What Nought, Cmp and Same of package vec tell.
-/
import Derived.Test.YtdbimajopclndaaVAt
import Derived.Deep.CutRange
namespace Go.Proofs.Ytdbimajopclndaa
open Go.RowKit Lb

theorem vnought_no {zs : List Int} {i : Nat} (h : zs.getD i 0 ≠ 0) : vnought zs = false := by
  rw [← Bool.not_eq_true, vnought_iff]
  exact fun e => h (e i)
theorem vnought_yes {zs : List Int} (h : ∀ j, j < zs.length → zs.getD j 0 = 0) : vnought zs = true := by
  unfold vnought
  exact decide_eq_true h
set_option maxHeartbeats 1600000 in
theorem vnoughtK (ao : Option Addr) (n cap : Nat) (zs : List Int) (k : Nat) (w : World) (h : VK w ao n cap zs k) :
    Calls Try.prog 30 #[.slice ao n cap] w fun e w' => e = .returned (.bool (vnought zs)) ∧ Below w.heap.size w w' := by
  have HL := hide h.len_eq
  have hm := Nat.le_trans h.cap_le h.cap_max
  unfold maxLen at hm
  obtain ⟨q, eq⟩ : ∃ q, q = vnought zs := ⟨_, rfl⟩
  rw [← eq]
  have EQ := hide eq
  clear eq
  go_enter Try.func30, Try.ntmps30
  go_wp2_with fail
  go_loopw [7] (fun t wr => ∃ (i : Nat), i ≤ n ∧ t = .int .i64 (i : Int) ∧ (∀ j, j < i → zs.getD j 0 = 0) ∧ Below w.heap.size w wr) (fun t _ => n - (intOf t).toNat)
  case atStart => exact ⟨0, Nat.zero_le _, rfl, fun j hj => absurd hj (by omega), Below.refl _ _⟩
  case round =>
    obtain ⟨i, hi, rfl, hall, hB⟩ := hrel
    have HA := hide hall
    clear hall
    have HB := hide hB
    clear hB
    by_cases hlt : i < n
    · obtain ⟨g, off, rfl⟩ := h.some (by omega)
      obtain ⟨b2, a2, l2, c2, he, hy⟩ := (h.later (unhide HB)).at hlt
      obtain ⟨f1, f2⟩ := he.facts
      have hg1 := he.1
      obtain ⟨z, ez⟩ : ∃ z, z = zs.getD i 0 := ⟨_, rfl⟩
      rw [← ez] at hy
      have EZ := hide ez
      clear ez
      obtain ⟨s, es⟩ : ∃ s, s = z.sign := ⟨_, rfl⟩
      have ES := hide es
      go_wp2_with fail
      obtain ⟨W2, hW2⟩ : ∃ W2, W2 = wr.alloc (.cells #[.bool b2, .slice a2 l2 c2] 26) := ⟨_, rfl⟩
      obtain ⟨D0, hb1⟩ := boxes1 wr b2 a2 l2 c2 hW2
      rw [← hW2]
      clear hW2 f1 f2 he D0
      replace hy := hy.later hb1
      replace HB := hide (Below.step (unhide HB) hb1)
      clear hb1
      refine (signK b2 a2 l2 c2 z k s _ hy (unhide ES)).mono ?_
      rintro e w3 ⟨rfl, hb1⟩
      replace HB := hide (Below.step (unhide HB) hb1)
      clear hb1 hy
      by_cases h0 : z = 0
      · have hs : (s != 0) = false := by rw [es, h0]; rfl
        clear es
        go_wp2
        go_roundw
        case rel =>
          refine ⟨i + 1, by omega, by go_num, fun j hj => ?_, unhide HB⟩
          by_cases e : j = i
          · subst e; rw [← unhide EZ]; exact h0
          · exact unhide HA j (by omega)
        case measure => simp [intOf]; omega
      · have hs : (s != 0) = true := by
          rw [bne_iff_ne, es]
          exact fun e => h0 (Int.sign_eq_zero_iff_zero.1 e)
        clear es
        have hq : q = false := by
          rw [unhide EQ]
          exact vnought_no (by rw [← unhide EZ]; exact h0)
        subst hq
        go_wp2
        go_ret
        exact ⟨rfl, unhide HB⟩
    · have hin : i = n := by omega
      have hq : q = true := by
        rw [unhide EQ]
        exact vnought_yes fun j hj => unhide HA j (by rw [unhide HL] at hj; omega)
      subst hq
      go_wp2
      go_ret
      exact ⟨rfl, unhide HB⟩

set_option maxHeartbeats 1600000 in
theorem vcmpK (ao : Option Addr) (n cap : Nat) (zs : List Int) (k : Nat) (ao' : Option Addr) (n' cap' : Nat) (ys : List Int) (l : Nat) (w : World) (h : VK w ao n cap zs k) (h' : VK w ao' n' cap' ys l) (hk : k ≤ 900000) (hl : l ≤ 900000) (hn : n ≤ 1000000) (hn' : n' ≤ 1000000) :
    Calls Try.prog 32 #[.slice ao n cap, .slice ao' n' cap'] w fun e w' => ∃ c, e = .returned (.int .i64 c) ∧ IsCmp zs ys c ∧ -1 ≤ c ∧ c ≤ 1 ∧ Below w.heap.size w w' := by
  have hmax := max_len n n'
  have HL := hide h.len_eq
  have HL' := hide h'.len_eq
  obtain ⟨m, em⟩ : ∃ m, m = max n n' := ⟨_, rfl⟩
  rw [← em] at hmax
  have hm : m ≤ 1000000 := by omega
  have EM := hide em
  clear em
  go_enter Try.func32, Try.ntmps32
  go_wp2_with fail
  go_loopw [12] (fun t wr => ∃ (i : Nat), i ≤ m ∧ t = .int .i64 (i : Int) ∧ (∀ j, j < i → zs.getD j 0 = ys.getD j 0) ∧ Below w.heap.size w wr) (fun t _ => m - (intOf t).toNat)
  case atStart => exact ⟨0, Nat.zero_le _, rfl, fun j hj => absurd hj (by omega), Below.refl _ _⟩
  case round =>
    obtain ⟨i, hi, rfl, hall, hB⟩ := hrel
    have HA := hide hall
    clear hall
    have HB := hide hB
    clear hB
    by_cases hlt : i < m
    · have hlt' : (i : Int) < (m : Int) := by omega
      go_wp2_with fail
      refine (atK _ _ _ zs k i _ (h.later (unhide HB)) hk (by omega)).mono ?_
      rintro e w3 ⟨b3, a3, l3, c3, rfl, h3, hb1⟩
      replace HB := hide (Below.step (unhide HB) hb1)
      clear hb1
      go_wp2_with fail
      refine (atK _ _ _ ys l i _ (h'.later (unhide HB)) hl (by omega)).mono ?_
      rintro e w4 ⟨b4, a4, l4, c4, rfl, h4, hb1⟩
      replace h3 := h3.later hb1
      replace HB := hide (Below.step (unhide HB) hb1)
      clear hb1
      obtain ⟨d, ed⟩ : ∃ d, d = zs.getD i 0 - ys.getD i 0 := ⟨_, rfl⟩
      obtain ⟨s, es⟩ : ∃ s, s = d.sign := ⟨_, rfl⟩
      have ED := hide ed
      have ES := hide (show s = (zs.getD i 0 - ys.getD i 0).sign by rw [es, ed])
      clear ed
      go_wp2_with fail
      refine (cmpK _ _ _ _ (zs.getD i 0) k _ _ _ _ (ys.getD i 0) l s _ h3 h4 (unhide ES)).mono ?_
      rintro e w5 ⟨rfl, hb1⟩
      replace HB := hide (Below.step (unhide HB) hb1)
      clear hb1 h3 h4
      by_cases h0 : d = 0
      · have hs : (s != 0) = false := by rw [es, h0]; rfl
        clear es
        go_wp2
        go_roundw
        case rel =>
          refine ⟨i + 1, by omega, by go_num, fun j hj => ?_, unhide HB⟩
          by_cases e : j = i
          · subst e
            have := unhide ED
            omega
          · exact unhide HA j (by omega)
        case measure => simp [intOf]; omega
      · have hs : (s != 0) = true := by
          rw [bne_iff_ne, es]
          exact fun e => h0 (Int.sign_eq_zero_iff_zero.1 e)
        have hsb : -1 ≤ s ∧ s ≤ 1 := by
          rcases sgn_cases h0 with ⟨_, e⟩ | ⟨_, e⟩ <;> rw [es, e] <;> omega
        have HS := hide hsb
        clear es hsb
        go_wp2
        go_ret
        refine ⟨_, rfl, Or.inr ⟨i, unhide HA, ?_, unhide ES⟩, (unhide HS).1, (unhide HS).2, unhide HB⟩
        have := unhide ED
        omega
    · have hlt' : ¬ (i : Int) < (m : Int) := by omega
      go_wp2
      go_ret
      refine ⟨0, rfl, Or.inl ⟨rfl, fun j => ?_⟩, by omega, by omega, unhide HB⟩
      have := unhide EM
      have := unhide HL
      have := unhide HL'
      by_cases c : j < i
      · exact unhide HA j c
      · rw [getD_out (by omega), getD_out (by omega)]

set_option maxHeartbeats 800000 in
theorem vsameK (ao : Option Addr) (n cap : Nat) (zs : List Int) (k : Nat) (ao' : Option Addr) (n' cap' : Nat) (ys : List Int) (l : Nat) (w : World) (h : VK w ao n cap zs k) (h' : VK w ao' n' cap' ys l) (hk : k ≤ 900000) (hl : l ≤ 900000) (hn : n ≤ 1000000) (hn' : n' ≤ 1000000) :
    Calls Try.prog 34 #[.slice ao n cap, .slice ao' n' cap'] w fun e w' => ∃ c, e = .returned (.bool (c == 0)) ∧ IsCmp zs ys c ∧ Below w.heap.size w w' := by
  go_enter Try.func34, Try.ntmps34
  go_wp2_with fail
  refine (vcmpK _ _ _ zs k _ _ _ ys l _ h h' hk hl hn hn').mono ?_
  rintro e w1 ⟨c, rfl, hc, _, _, hb1⟩
  go_wp2
  go_ret
  exact ⟨c, rfl, hc, hb1⟩

#print axioms vnoughtK
#print axioms vcmpK
#print axioms vsameK
end Go.Proofs.Ytdbimajopclndaa
