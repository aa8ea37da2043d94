/-
  What the reference's functions that only read do: limb tells a limb, CmpL how two numbers compare, SameL whether two rows are one.
-/
import Derived.Test.YtkhcanhdbalihaaCut
namespace Go.Proofs.Ytkhcanhdbalihaa
open Go.RowKit Lb

theorem rlimb_any (ao : Option Addr) (len cap : Nat) (xs : List Nat) (i : Int) (k : Nat) (w : World) (h : RowAt w ao len cap xs) (hi : i = (k : Int)) :
    Calls Try.prog 47 #[.slice ao len cap, .int .i64 i] w fun e w' => e = .returned (.int .u64 (lim xs k : Int)) ∧ w = w' := by
  subst hi
  have hcm := h.cap_max
  have hcl := h.cap_le
  have hl := h.len_eq
  unfold maxLen at hcm
  by_cases hk : k < len
  · obtain ⟨b, off, rfl, hb, hc⟩ := h.cells (by omega)
    have hck := hc k hk
    have hbd := h.bound k
    clear hc
    go_enter Try.func47, Try.ntmps47
    go_wp2
    go_ret
    exact ⟨by simp, rfl⟩
  · go_enter Try.func47, Try.ntmps47
    go_wp2
    go_ret
    exact ⟨by rw [lim_out (by omega)]; rfl, rfl⟩

set_option maxHeartbeats 400000 in
theorem rcmp_any (aa : Option Addr) (la ca : Nat) (xs : List Nat) (ab : Option Addr) (lb cb : Nat) (ys : List Nat) (w : World) (ha : RowAt w aa la ca xs) (hb : RowAt w ab lb cb ys) :
    Calls Try.prog 41 #[.slice aa la ca, .slice ab lb cb] w fun e w' => e = .returned (.int .i64 (cmpI (val xs) (val ys))) ∧ w = w' := by
  have hm1 := ha.cap_max
  have hm2 := hb.cap_max
  have hc1 := ha.cap_le
  have hc2 := hb.cap_le
  have L1 := hide ha.len_eq
  have L2 := hide hb.len_eq
  unfold maxLen at hm1 hm2
  have P1 := hide (pre_len (xs := xs) (k := max la lb) (by rw [ha.len_eq]; omega))
  have P2 := hide (pre_len (xs := ys) (k := max la lb) (by rw [hb.len_eq]; omega))
  go_enter Try.func41, Try.ntmps41
  go_wp2_with fail
  all_goals
    go_loop [5] (fun i => ∃ k : Nat, k ≤ max la lb ∧ i = .int .i64 ((k : Int) - 1) ∧ (∀ j, k ≤ j → j < max la lb → lim xs j = lim ys j)) (fun i => (intOf i + 1).toNat)
    case atStart =>
      first
        | exact ⟨lb, by omega, rfl, fun j h1 h2 => by omega⟩
        | exact ⟨la, by omega, rfl, fun j h1 h2 => by omega⟩
    case round =>
      obtain ⟨k, hk, rfl, hz⟩ := hrel
      have HZ := hide hz
      clear hz
      by_cases hp : 0 < k
      · have hi1 : (0 : Int) ≤ (k : Int) - 1 := by omega
        by_cases hne : lim xs (k - 1) = lim ys (k - 1)
        · have hb0 : ((lim xs (k - 1) : Int) != (lim ys (k - 1) : Int)) = false := by simp [hne]
          have HN := hide hne
          clear hne
          go_wp2_with fail
          refine (rlimb_any _ _ _ xs _ (k - 1) _ ha (by omega)).mono ?_
          rintro e w' ⟨rfl, rfl⟩
          go_wp2_with fail
          refine (rlimb_any _ _ _ ys _ (k - 1) _ hb (by omega)).mono ?_
          rintro e w' ⟨rfl, rfl⟩
          go_wp2
          go_round
          case rel =>
            refine ⟨k - 1, by omega, by go_num, fun j h1 h2 => ?_⟩
            by_cases c : j = k - 1
            · subst c; exact unhide HN
            · exact unhide HZ j (by omega) h2
          case measure => simp [intOf]; omega
        · have hb0 : ((lim xs (k - 1) : Int) != (lim ys (k - 1) : Int)) = true := by simp; omega
          have HA := hide (fun i (h1 : k - 1 < i) h2 => unhide HZ i (by omega) h2)
          have HN := hide hne
          rcases Nat.lt_or_gt_of_ne hne with hd | hd
          · clear hne
            go_wp2_with fail
            refine (rlimb_any _ _ _ xs _ (k - 1) _ ha (by omega)).mono ?_
            rintro e w' ⟨rfl, rfl⟩
            go_wp2_with fail
            refine (rlimb_any _ _ _ ys _ (k - 1) _ hb (by omega)).mono ?_
            rintro e w' ⟨rfl, rfl⟩
            go_wp2_with fail
            refine (rlimb_any _ _ _ xs _ (k - 1) _ ha (by omega)).mono ?_
            rintro e w' ⟨rfl, rfl⟩
            go_wp2_with fail
            refine (rlimb_any _ _ _ ys _ (k - 1) _ hb (by omega)).mono ?_
            rintro e w' ⟨rfl, rfl⟩
            go_wp2
            go_ret
            have : pre xs (max la lb) < pre ys (max la lb) := pre_top ha.small (k := k - 1) (by omega) (unhide HA) hd
            rw [unhide P1, unhide P2] at this
            exact ⟨by rw [cmpI_lt this]; simp, rfl⟩
          · clear hne
            have hd' : decide (lim xs (k - 1) < lim ys (k - 1)) = false := by simp; omega
            go_wp2_with fail
            refine (rlimb_any _ _ _ xs _ (k - 1) _ ha (by omega)).mono ?_
            rintro e w' ⟨rfl, rfl⟩
            go_wp2_with fail
            refine (rlimb_any _ _ _ ys _ (k - 1) _ hb (by omega)).mono ?_
            rintro e w' ⟨rfl, rfl⟩
            go_wp2_with fail
            refine (rlimb_any _ _ _ xs _ (k - 1) _ ha (by omega)).mono ?_
            rintro e w' ⟨rfl, rfl⟩
            go_wp2_with fail
            refine (rlimb_any _ _ _ ys _ (k - 1) _ hb (by omega)).mono ?_
            rintro e w' ⟨rfl, rfl⟩
            go_wp2
            go_ret
            have : pre ys (max la lb) < pre xs (max la lb) := pre_top hb.small (k := k - 1) (by omega) (fun i h1 h2 => (unhide HA i h1 h2).symm) hd
            rw [unhide P1, unhide P2] at this
            exact ⟨by rw [cmpI_gt this]; simp, rfl⟩
      · go_wp2
        go_ret
        have hk0 : k = 0 := by omega
        subst hk0
        have : pre xs (max la lb) = pre ys (max la lb) := pre_congr (fun i hi => unhide HZ i (Nat.zero_le _) hi)
        rw [unhide P1, unhide P2] at this
        exact ⟨by rw [cmpI_eq this]; simp, rfl⟩

set_option maxHeartbeats 400000 in
theorem same_any (aa : Option Addr) (la ca : Nat) (xs : List Nat) (ab : Option Addr) (lb cb : Nat) (ys : List Nat) (w : World) (ha : RowAt w aa la ca xs) (hb : RowAt w ab lb cb ys) :
    Calls Try.prog 36 #[.slice aa la ca, .slice ab lb cb] w fun e w' => e = .returned (.bool (decide (xs = ys))) ∧ Below w.heap.size w w' := by
  have hm1 := ha.cap_max
  have hm2 := hb.cap_max
  have hc1 := ha.cap_le
  have hc2 := hb.cap_le
  have L1 := hide ha.len_eq
  have L2 := hide hb.len_eq
  unfold maxLen at hm1 hm2
  by_cases hll : la = lb
  · subst hll
    go_enter Try.func36, Try.ntmps36
    go_wp2_with fail
    go_loopw [5] (fun i wr => ∃ k : Nat, k ≤ la ∧ i = .int .i64 k ∧ (∀ j, j < k → lim xs j = lim ys j) ∧ Below w.heap.size w wr) (fun i _ => la - (intOf i).toNat)
    case atStart => exact ⟨0, Nat.zero_le _, rfl, fun j h => by omega, Below.refl _ _⟩
    case round =>
      obtain ⟨k, hk, rfl, hz, hbel⟩ := hrel
      have HZ := hide hz
      clear hz
      by_cases hp : k < la
      · obtain ⟨b1, o1, rfl, hb1, hcx⟩ := ha.cells (by omega)
        obtain ⟨b2, o2, rfl, hb2, hcy⟩ := hb.cells (by omega)
        have cx : wr.cell? ⟨b1, o1 + k, none⟩ = some (.int .u32 (lim xs k : Int)) := (hbel.cell (p := ⟨b1, o1 + k, none⟩) hb1).trans (hcx k (by omega))
        have cy : wr.cell? ⟨b2, o2 + k, none⟩ = some (.int .u32 (lim ys k : Int)) := (hbel.cell (p := ⟨b2, o2 + k, none⟩) hb2).trans (hcy k (by omega))
        have hi2 : (k : Int) < (la : Int) := by omega
        clear hcx hcy
        by_cases hne : lim xs k = lim ys k
        · have hb0 : ((lim xs k : Int) != (lim ys k : Int)) = false := by simp [hne]
          have HN := hide hne
          clear hne
          go_wp2
          go_quiet (fail)
          go_wp2
          go_roundw
          case rel =>
            refine ⟨k + 1, by omega, by go_num, fun j h1 => ?_, below_drewN hbel _⟩
            by_cases c : j = k
            · subst c; exact unhide HN
            · exact unhide HZ j (by omega)
          case measure => simp [intOf]; omega
        · have hb0 : ((lim xs k : Int) != (lim ys k : Int)) = true := by simp; omega
          go_wp2
          go_quiet (fail)
          go_wp2
          go_ret
          exact ⟨by rw [decide_eq_false (fun e => hne (by rw [e]))]; simp, below_drewN hbel _⟩
      · go_wp2
        go_ret
        have : xs = ys := ext_lim (by rw [unhide L1, unhide L2]) (fun i hi => unhide HZ i (by rw [unhide L1] at hi; omega))
        exact ⟨by rw [decide_eq_true this]; simp, hbel⟩
  · go_enter Try.func36, Try.ntmps36
    go_wp2_with fail
    go_ret
    exact ⟨by rw [decide_eq_false (fun e => hll (by rw [← unhide L1, ← unhide L2, e]))]; simp, Below.refl _ _⟩

#print axioms rlimb_any
#print axioms rcmp_any
#print axioms same_any
end Go.Proofs.Ytkhcanhdbalihaa
