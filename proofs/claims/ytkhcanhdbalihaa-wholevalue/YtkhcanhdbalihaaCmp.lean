/-
  What limb.Cmp and the reference's CmpL tell: how two numbers compare.
-/
import Derived.Test.YtkhcanhdbalihaaCut
namespace Go.Proofs.Ytkhcanhdbalihaa
open Go.RowKit Lb

theorem side_any (b : Bool) (w : World) :
    Calls Try.prog 46 #[.bool b] w fun e w' => e = .returned (.int .i64 (if b then -1 else 1)) ∧ w = w' := by
  cases b
  · go_enter Try.func46, Try.ntmps46
    go_wp2
    go_ret
    exact ⟨rfl, rfl⟩
  · go_enter Try.func46, Try.ntmps46
    go_wp2
    go_ret
    exact ⟨rfl, rfl⟩

theorem side_quiet (b : Bool) (w : World) :
    Calls Try.prog 46 #[.bool b] w fun e w' => e = .returned (.int .i64 (if b then -1 else 1)) ∧ w' = w := (side_any b w).mono fun _ _ h => ⟨h.1, h.2.symm⟩

set_option maxHeartbeats 400000 in
theorem cmp_any (aa : Option Addr) (la ca : Nat) (xs : List Nat) (ab : Option Addr) (lb cb : Nat) (ys : List Nat) (w : World) (ha : RowAt w aa la ca xs) (hb : RowAt w ab lb cb ys) :
    Calls Try.prog 37 #[.slice aa la ca, .slice ab lb cb] w fun e w' => e = .returned (.int .i64 (cmpI (val xs) (val ys))) ∧ Below w.heap.size w w' := by
  go_enter Try.func37, Try.ntmps37
  go_wp2_with fail
  refine (cut_any _ _ _ xs _ ha).mono ?_
  rintro e w' ⟨⟨a1, l1, c1, rfl, ⟨xs1, hx1, nx1, vx1⟩, hl1⟩, rfl⟩
  go_wp2_with fail
  refine (cut_any _ _ _ ys _ hb).mono ?_
  rintro e w' ⟨⟨a2, l2, c2, rfl, ⟨ys1, hy1, ny1, vy1⟩, hl2⟩, rfl⟩
  have Vx := hide vx1
  have Vy := hide vy1
  have hm1 := hx1.cap_max
  have hm2 := hy1.cap_max
  have hc1 := hx1.cap_le
  have hc2 := hy1.cap_le
  have L1 := hide hx1.len_eq
  have L2 := hide hy1.len_eq
  unfold maxLen at hm1 hm2
  clear vx1 vy1 hl1 hl2 ha hb
  rcases Nat.lt_trichotomy l1 l2 with hlt | heq | hgt
  · go_wp2_with (go_at_call 46; refine (side_any _ _).mono ?_; rintro e w' ⟨rfl, rfl⟩)
    go_ret
    have : val xs1 < val ys1 := norm_lt_len hx1.small ny1 (by rw [unhide L1, unhide L2]; exact hlt)
    rw [unhide Vx, unhide Vy] at this
    exact ⟨by rw [cmpI_lt this]; simp, Below.refl _ _⟩
  · subst heq
    go_wp2_with fail
    go_loopw [5] (fun i wr => ∃ k : Nat, k ≤ l1 ∧ i = .int .i64 ((k : Int) - 1) ∧ (∀ j, k ≤ j → j < l1 → lim xs1 j = lim ys1 j) ∧ Below w.heap.size w wr) (fun i _ => (intOf i + 1).toNat)
    case atStart => exact ⟨l1, Nat.le_refl _, rfl, fun j h1 h2 => by omega, Below.refl _ _⟩
    case round =>
      obtain ⟨k, hk, rfl, hz, hbel⟩ := hrel
      by_cases hp : 0 < k
      · obtain ⟨b1, o1, rfl, hb1, hcx⟩ := hx1.cells (by omega)
        obtain ⟨b2, o2, rfl, hb2, hcy⟩ := hy1.cells (by omega)
        have cx : wr.cell? ⟨b1, o1 + (k - 1), none⟩ = some (.int .u32 (lim xs1 (k - 1) : Int)) := (hbel.cell (p := ⟨b1, o1 + (k - 1), none⟩) hb1).trans (hcx (k - 1) (by omega))
        have cy : wr.cell? ⟨b2, o2 + (k - 1), none⟩ = some (.int .u32 (lim ys1 (k - 1) : Int)) := (hbel.cell (p := ⟨b2, o2 + (k - 1), none⟩) hb2).trans (hcy (k - 1) (by omega))
        have hi1 : (0 : Int) ≤ (k : Int) - 1 := by omega
        have hi2 : (k : Int) - 1 < (l1 : Int) := by omega
        clear hcx hcy
        have HZ := hide hz
        clear hz
        by_cases hne : lim xs1 (k - 1) = lim ys1 (k - 1)
        · have hb0 : ((lim xs1 (k - 1) : Int) != (lim ys1 (k - 1) : Int)) = false := by simp [hne]
          have HN := hide hne
          clear hne
          go_wp2
          go_quiet (fail)
          go_wp2
          go_roundw
          case rel =>
            refine ⟨k - 1, by omega, by go_num, fun j h1 h2 => ?_, ?_⟩
            · by_cases c : j = k - 1
              · subst c; exact unhide HN
              · exact unhide HZ j (by omega) h2
            · exact below_drewN hbel _
          case measure => simp [intOf]; omega
        · have hb0 : ((lim xs1 (k - 1) : Int) != (lim ys1 (k - 1) : Int)) = true := by simp; omega
          have HA := hide (fun i (h1 : k - 1 < i) h2 => unhide HZ i (by omega) h2)
          rcases Nat.lt_or_gt_of_ne hne with hd | hd
          · go_wp2
            go_quiet (fail)
            go_wp2
            go_quiet ((go_at_call 46; exact (side_quiet true _).mono fun _ _ h => ⟨h.1, _, h.2⟩))
            go_wp2
            go_ret
            have : val xs1 < val ys1 := by
              unfold val
              rw [unhide L1, unhide L2]
              exact pre_top hx1.small (k := k - 1) (by omega) (unhide HA) hd
            rw [unhide Vx, unhide Vy] at this
            exact ⟨by rw [cmpI_lt this]; simp, (by first | exact below_drewN hbel _ | exact below_drewN (below_drewN hbel _) _)⟩
          · have hd' : decide (lim xs1 (k - 1) < lim ys1 (k - 1)) = false := by simp; omega
            go_wp2
            go_quiet (fail)
            go_wp2
            go_quiet ((go_at_call 46; exact (side_quiet false _).mono fun _ _ h => ⟨h.1, _, h.2⟩))
            go_wp2
            go_ret
            have : val ys1 < val xs1 := by
              unfold val
              rw [unhide L1, unhide L2]
              exact pre_top hy1.small (k := k - 1) (by omega) (fun i h1 h2 => (unhide HA i h1 h2).symm) hd
            rw [unhide Vx, unhide Vy] at this
            exact ⟨by rw [cmpI_gt this]; simp, (by first | exact below_drewN hbel _ | exact below_drewN (below_drewN hbel _) _)⟩
      · go_wp2
        go_ret
        have hk0 : k = 0 := by omega
        subst hk0
        have : val xs1 = val ys1 := by
          unfold val
          rw [unhide L1, unhide L2]
          exact pre_congr (fun i hi => hz i (Nat.zero_le _) hi)
        rw [unhide Vx, unhide Vy] at this
        exact ⟨by rw [cmpI_eq this]; simp, hbel⟩
  · go_wp2_with (go_at_call 46; refine (side_any _ _).mono ?_; rintro e w' ⟨rfl, rfl⟩)
    go_ret
    have : val ys1 < val xs1 := norm_lt_len hy1.small nx1 (by rw [unhide L1, unhide L2]; exact hgt)
    rw [unhide Vx, unhide Vy] at this
    exact ⟨by rw [cmpI_gt this]; simp, Below.refl _ _⟩
#print axioms cmp_any
end Go.Proofs.Ytkhcanhdbalihaa
