/-
  What the reference's Cmp of vectors tells.
-/
import Derived.Test.YtdbimajopclndaaVAt
import Derived.Test.YtdbimajopclndaaVCmp
import Derived.Deep.CutRange
namespace Go.Proofs.Ytdbimajopclndaa
open Go.RowKit Lb

set_option maxHeartbeats 1600000 in
theorem rvcmpK (ao : Option Addr) (n cap : Nat) (zs : List Int) (k : Nat) (ao' : Option Addr) (n' cap' : Nat) (ys : List Int) (l : Nat) (w : World) (h : VK w ao n cap zs k) (h' : VK w ao' n' cap' ys l) (hk : k ≤ 900000) (hl : l ≤ 900000) (hn : n ≤ 1000000) (hn' : n' ≤ 1000000) :
    Calls Try.prog 33 #[.slice ao n cap, .slice ao' n' cap'] w fun e w' => ∃ c, e = .returned (.int .i64 c) ∧ IsCmp zs ys c ∧ -1 ≤ c ∧ c ≤ 1 ∧ Below w.heap.size w w' := by
  have hmax := max_len n n'
  have HL := hide h.len_eq
  have HL' := hide h'.len_eq
  obtain ⟨m, em⟩ : ∃ m, m = max n n' := ⟨_, rfl⟩
  rw [← em] at hmax
  have hm : m ≤ 1000000 := by omega
  have EM := hide em
  clear em
  go_enter Try.func33, Try.ntmps33
  go_wp2_with fail
  go_loopw [5] (fun t wr => ∃ (i : Nat), i ≤ m ∧ t = .int .i64 (i : Int) ∧ (∀ j, j < i → zs.getD j 0 = ys.getD j 0) ∧ Below w.heap.size w wr) (fun t _ => m - (intOf t).toNat)
  case atStart => exact ⟨0, Nat.zero_le _, rfl, fun j hj => absurd hj (by omega), Below.refl _ _⟩
  case round =>
    obtain ⟨i, hi, rfl, hall, hB⟩ := hrel
    have HA := hide hall
    clear hall
    have HB := hide hB
    clear hB
    by_cases hlt : i < m
    · have hlt' : (i : Int) < (m : Int) := by omega
      go_wp2_with fail
      refine (ratK _ _ _ zs k i _ (h.later (unhide HB)) (by omega)).mono ?_
      rintro e w3 ⟨b3, a3, l3, c3, rfl, h3, hb1⟩
      replace HB := hide (Below.step (unhide HB) hb1)
      clear hb1
      go_wp2_with fail
      refine (ratK _ _ _ ys l i _ (h'.later (unhide HB)) (by omega)).mono ?_
      rintro e w4 ⟨b4, a4, l4, c4, rfl, h4, hb1⟩
      replace h3 := h3.later hb1
      replace HB := hide (Below.step (unhide HB) hb1)
      clear hb1
      obtain ⟨d, ed⟩ : ∃ d, d = zs.getD i 0 - ys.getD i 0 := ⟨_, rfl⟩
      obtain ⟨s, es⟩ : ∃ s, s = d.sign := ⟨_, rfl⟩
      have ED := hide ed
      have ES := hide (show s = (zs.getD i 0 - ys.getD i 0).sign by rw [es, ed])
      clear ed
      go_wp2_with fail
      refine (rcmpK _ _ _ _ (zs.getD i 0) k _ _ _ _ (ys.getD i 0) l s _ (h3.ik (by omega)) (h4.ik (by omega)) (unhide ES)).mono ?_
      rintro e w5 ⟨rfl, hb1⟩
      replace HB := hide (Below.step (unhide HB) hb1)
      clear hb1 h3 h4
      by_cases h0 : d = 0
      · have hs : (s != 0) = false := by rw [es, h0]; rfl
        clear es
        go_wp2
        go_roundw
        case rel =>
          refine ⟨i + 1, by omega, by go_num, fun j hj => ?_, unhide HB⟩
          by_cases e : j = i
          · subst e
            have := unhide ED
            omega
          · exact unhide HA j (by omega)
        case measure => simp [intOf]; omega
      · have hs : (s != 0) = true := by
          rw [bne_iff_ne, es]
          exact fun e => h0 (Int.sign_eq_zero_iff_zero.1 e)
        have hsb : -1 ≤ s ∧ s ≤ 1 := by
          rcases sgn_cases h0 with ⟨_, e⟩ | ⟨_, e⟩ <;> rw [es, e] <;> omega
        have HS := hide hsb
        clear es hsb
        go_wp2
        go_ret
        refine ⟨_, rfl, Or.inr ⟨i, unhide HA, ?_, unhide ES⟩, (unhide HS).1, (unhide HS).2, unhide HB⟩
        have := unhide ED
        omega
    · have hlt' : ¬ (i : Int) < (m : Int) := by omega
      go_wp2
      go_ret
      refine ⟨0, rfl, Or.inl ⟨rfl, fun j => ?_⟩, by omega, by omega, unhide HB⟩
      have := unhide EM
      have := unhide HL
      have := unhide HL'
      by_cases c : j < i
      · exact unhide HA j c
      · rw [getD_out (by omega), getD_out (by omega)]

#print axioms rvcmpK
end Go.Proofs.Ytdbimajopclndaa
