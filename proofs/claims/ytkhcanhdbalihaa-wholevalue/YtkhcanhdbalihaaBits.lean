/-
  What limb.Bits tells: how many bits a number has.
-/
import Derived.Test.YtkhcanhdbalihaaCut
namespace Go.Proofs.Ytkhcanhdbalihaa
open Go.RowKit Lb

set_option maxHeartbeats 400000 in
theorem bits_any (ao : Option Addr) (len cap : Nat) (xs : List Nat) (w : World) (h : RowAt w ao len cap xs) (hlen : len ≤ 10000000) :
    Calls Try.prog 33 #[.slice ao len cap] w fun e w' => ∃ n : Nat, e = .returned (.int .i64 (n : Int)) ∧ IsBits (val xs) n ∧ w = w' := by
  go_enter Try.func33, Try.ntmps33
  go_wp2_with fail
  refine (cut_any _ _ _ xs _ h).mono ?_
  rintro e w' ⟨⟨a1, l1, c1, rfl, ⟨xs1, hx1, nx1, vx1⟩, hl1⟩, rfl⟩
  have Vx := hide vx1
  have hm1 := hx1.cap_max
  have hc1 := hx1.cap_le
  have L1 := hide hx1.len_eq
  unfold maxLen at hm1
  clear vx1
  by_cases hz : l1 = 0
  · have hz' : ((l1 : Int) == 0) = true := by simp [hz]
    go_wp2
    go_ret
    refine ⟨0, by simp, Or.inl ⟨?_, rfl⟩, rfl⟩
    rw [← unhide Vx, List.eq_nil_of_length_eq_zero (show xs1.length = 0 by rw [unhide L1, hz])]; rfl
  · have hz' : ((l1 : Int) == 0) = false := by simp [hz]
    obtain ⟨b1, o1, rfl, hb1, hcx⟩ := hx1.cells (by omega)
    have cx : w.cell? ⟨b1, o1 + (l1 - 1), none⟩ = some (.int .u32 (lim xs1 (l1 - 1) : Int)) := hcx (l1 - 1) (by omega)
    have hbx := hx1.small (l1 - 1)
    have hn0 : lim xs1 (l1 - 1) ≠ 0 := by have := nx1 (by rw [hx1.len_eq]; omega); rwa [hx1.len_eq] at this
    have hp1 : (0 : Int) ≤ (l1 : Int) - 1 := by omega
    have hsm := hide hx1.small
    clear hcx h hx1 nx1
    go_wp2_with fail
    go_loop [3, 4] (fun n t => ∃ m : Nat, n = .int .i64 (((l1 : Int) - 1) * 32 + m) ∧ t = .int .u32 ((lim xs1 (l1 - 1) / 2 ^ m : Nat) : Int) ∧ (0 < m → 2 ^ (m - 1) ≤ lim xs1 (l1 - 1))) (fun _ t => (intOf t).toNat)
    case atStart => exact ⟨0, by simp, by simp, fun h => absurd h (by omega)⟩
    case round =>
      obtain ⟨m, rfl, rfl, hq⟩ := hrel
      have hm32 := half_le hbx hq
      have HQ := hide hq
      clear hq
      by_cases ht : lim xs1 (l1 - 1) / 2 ^ m = 0
      · obtain ⟨T, hT⟩ : ∃ T, T = lim xs1 (l1 - 1) / 2 ^ m := ⟨_, rfl⟩
        rw [← hT] at ht ⊢
        have HT := hide hT
        have ht' : ((T : Int) != 0) = false := by simp [ht]
        clear hT
        go_wp2
        go_ret
        have h0 := half_zero (show lim xs1 (l1 - 1) / 2 ^ m = 0 by rw [← unhide HT]; exact ht)
        have hm1 : 0 < m := by
          rcases Nat.eq_zero_or_pos m with e | e
          · subst e; simp at h0; omega
          · exact e
        refine ⟨32 * (l1 - 1) + m, ret_int (by omega), ?_, rfl⟩
        rw [← unhide Vx]
        have := bits_end (unhide hsm) (by rw [unhide L1]; omega) (m := m) hm1 (by rw [unhide L1]; exact unhide HQ hm1) (by rw [unhide L1]; exact h0)
        rwa [unhide L1] at this
      · obtain ⟨T, hT⟩ : ∃ T, T = lim xs1 (l1 - 1) / 2 ^ m := ⟨_, rfl⟩
        rw [← hT] at ht ⊢
        have hTb : T < 4294967296 := by rw [hT]; exact Nat.lt_of_le_of_lt (Nat.div_le_self _ _) hbx
        have HT := hide hT
        have ht' : ((T : Int) != 0) = true := by simp [ht]
        clear hT
        go_wp2
        go_round
        case rel =>
          refine ⟨m + 1, by go_num, ?_, fun _ => ?_⟩
          · rw [← half_more, ← unhide HT]; go_num
          · rw [Nat.add_sub_cancel]; exact half_pos (by rw [← unhide HT]; omega)
        case measure => simp [intOf]; omega

#print axioms bits_any
end Go.Proofs.Ytkhcanhdbalihaa
