/-
  What long.Mul does: the product, in a row of its own.
-/
import Derived.Test.YtkhcanhdbalihaaAddTimes
namespace Go.Proofs.Ytkhcanhdbalihaa
open Go.RowKit Lb

theorem mul_val_step {P U Z c x bk bb V : Nat} (h : U + c * bb = Z + x * V * bk) (hz : Z = P * V) : U + c * bb = (P + x * bk) * V := by
  rw [h, hz, Nat.add_mul, Nat.mul_assoc x V, Nat.mul_assoc x bk, Nat.mul_comm V bk]

set_option maxRecDepth 20000 in
set_option maxHeartbeats 1000000 in
theorem mul_any (aa : Option Addr) (la ca : Nat) (xs : List Nat) (ab : Option Addr) (lb cb : Nat) (ys : List Nat) (w : World) (ha : RowAt w aa la ca xs) (hb : RowAt w ab lb cb ys) (hla : la ≤ 10000000) (hlb : lb ≤ 10000000) :
    Calls Try.prog 43 #[.slice aa la ca, .slice ab lb cb] w fun e w' => ∃ ao' len' cap', e = .returned (.slice ao' len' cap') ∧ NumAt w' ao' len' cap' (val xs * val ys) ∧ Below w.heap.size w w' := by
  go_enter Try.func43, Try.ntmps43
  go_wp2_with fail
  refine (lcut_any _ _ _ xs _ ha).mono ?_
  rintro e w' ⟨⟨a1, l1, c1, rfl, ⟨xs1, hx1, nx1, vx1⟩, hl1⟩, rfl⟩
  go_wp2_with fail
  refine (lcut_any _ _ _ ys _ hb).mono ?_
  rintro e w' ⟨⟨a2, l2, c2, rfl, ⟨ys1, hy1, ny1, vy1⟩, hl2⟩, rfl⟩
  have Vx := hide vx1
  have Vy := hide vy1
  clear vx1 vy1 nx1 ny1 ha hb
  have hm1 := hx1.cap_max
  have hm2 := hy1.cap_max
  have hc1 := hx1.cap_le
  have hc2 := hy1.cap_le
  unfold maxLen at hm1 hm2
  go_wp2_with (at_make; refine make_row rfl _ _ rfl w.heap.size .i64 .i64 _ _ (l1 + l2) rfl rfl (by omega) (by omega) (by omega) (Nat.le_refl _) ?_)
  intro w1 hown1 hgrow1
  have hbel1 : Below w.heap.size w w1 := (Below.refl _ _).grown hgrow1 (Nat.le_refl _) (fun _ h => by simp at h)
  clear hgrow1
  go_wp2_with fail
  go_loopw [20] (fun i wr => ∃ (k : Nat) (zs : List Nat), k ≤ l1 ∧ i = .int .i64 k ∧ Own wr w.heap.size (.slice (some ⟨w.heap.size, 0, none⟩) (l1 + l2) (l1 + l2)) (l1 + l2) zs ∧ Small zs ∧ pre zs (k + l2) = pre xs1 k * val ys1 ∧ Below w.heap.size w wr) (fun i _ => l1 - (intOf i).toNat)
  case atStart =>
    refine ⟨0, _, by omega, rfl, hown1, small_replicate _, ?_, hbel1⟩
    rw [pre_zero, Nat.zero_mul]
    exact pre_zeros (fun i _ => lim_replicate _ _)
  case round =>
    obtain ⟨k, zs, hk, rfl, hown, hsm, hval, hbel⟩ := hrel
    have HV := hide hval
    clear hval hown1 hbel1
    by_cases hp : k < l1
    · obtain ⟨b1, o1, rfl, hb1, hcx⟩ := hx1.cells (by omega)
      have cx : wr.cell? ⟨b1, o1 + k, none⟩ = some (.int .u32 (lim xs1 k : Int)) := (hbel.cell (p := ⟨b1, o1 + k, none⟩) hb1).trans (hcx k (by omega))
      have hbx := hx1.small k
      have hyr := hy1.later hbel
      have hoff : Off w.heap.size a2 l2 := off_old hy1 (Nat.le_refl _)
      clear hcx
      go_wp2_with fail
      refine (addTimes_any w.heap.size w.heap.size (l1 + l2) (l1 + l2) zs k _ _ _ _ ys1 (lim xs1 k) _ hown hsm hyr hoff (by omega) hbx).mono ?_
      rintro e w2 ⟨c, us, rfl, hc, hown2, hsm2, hsame, hval2, honly⟩
      have hbel2 := Below.only hbel honly hbel.size (Nat.le_refl _)
      have HV2 := hide hval2
      have ulen := hide hown2.len
      have cs := hown2.cell (i := k + l2) (by omega)
      have cf := hown2.free (k + l2)
      clear hval2 hsame honly hown
      go_wp2
      go_roundw
      case rel =>
        refine ⟨k + 1, us.set (k + l2) c, by omega, by go_num, hown2.set _ _ rfl, small_set hsm2 hc, ?_, hbel2.setCell (by simp) _⟩
        rw [show k + 1 + l2 = k + l2 + 1 by omega, pre_succ, pre_set_lt _ _ _ _ (Nat.le_refl _) (by rw [unhide ulen]; omega), lim_set _ _ _ _ (by rw [unhide ulen]; omega), if_pos rfl, pre_succ]
        exact mul_val_step (unhide HV2) (unhide HV)
      case measure => simp [intOf]; omega
    · have hk1 : k = l1 := by omega
      have hr := rowAt_own hown hsm
      have hv : val zs = val xs * val ys := by
        have h1 := unhide HV
        rw [hk1, pre_len (xs := zs) (by rw [hown.len]; omega), pre_len (xs := xs1) (by rw [hx1.len_eq]; omega), unhide Vx, unhide Vy] at h1
        exact h1
      have HW := hide hv
      clear hv
      go_wp2_with fail
      refine (lcut_any _ _ _ zs _ hr).mono ?_
      rintro e w' ⟨⟨a3, l3, c3, rfl, hnum, hl3⟩, rfl⟩
      rw [unhide HW] at hnum
      go_wp2
      go_ret
      exact ⟨_, _, _, rfl, hnum, hbel⟩

#print axioms mul_any
end Go.Proofs.Ytkhcanhdbalihaa
