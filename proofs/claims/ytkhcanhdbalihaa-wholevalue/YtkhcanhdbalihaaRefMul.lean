/-
  What the reference's MulL does: the product.
-/
import Derived.Test.YtkhcanhdbalihaaRefTrim
import Derived.Test.YtkhcanhdbalihaaNum2
namespace Go.Proofs.Ytkhcanhdbalihaa
open Go.RowKit Lb

set_option maxRecDepth 20000 in
set_option maxHeartbeats 1000000 in
theorem rmul_any (aa : Option Addr) (la ca : Nat) (xs : List Nat) (ab : Option Addr) (lb cb : Nat) (ys : List Nat) (w : World) (ha : RowAt w aa la ca xs) (hb : RowAt w ab lb cb ys) (hla : la ≤ 10000000) (hlb : lb ≤ 10000000) :
    Calls Try.prog 44 #[.slice aa la ca, .slice ab lb cb] w fun e w' => ∃ ao' len' cap', e = .returned (.slice ao' len' cap') ∧ NumAt w' ao' len' cap' (val xs * val ys) ∧ Below w.heap.size w w' := by
  have hm1 := ha.cap_max
  have hm2 := hb.cap_max
  have hc1 := ha.cap_le
  have hc2 := hb.cap_le
  unfold maxLen at hm1 hm2
  have P2 := hide (pre_len (xs := ys) (k := lb + 1) (by rw [hb.len_eq]; omega))
  go_enter Try.func44, Try.ntmps44
  go_wp2_with (at_make; refine make_row rfl _ _ rfl w.heap.size .i64 .i64 _ _ (la + lb + 1) rfl rfl (by omega) (by omega) (by omega) (Nat.le_refl _) ?_)
  intro w1 hown1 hgrow1
  have hbel1 : Below w.heap.size w w1 := (Below.refl _ _).grown hgrow1 (Nat.le_refl _) (fun _ h => by simp at h)
  clear hgrow1
  go_wp2_with fail
  go_loopw [6] (fun i wr => ∃ (k : Nat) (zs : List Nat), k ≤ la ∧ i = .int .i64 k ∧ Own wr w.heap.size (.slice (some ⟨w.heap.size, 0, none⟩) (la + lb + 1) (la + lb + 1)) (la + lb + 1) zs ∧ Small zs ∧ pre zs (k + lb) = pre xs k * val ys ∧ (∀ t, k + lb ≤ t → lim zs t = 0) ∧ Below w.heap.size w wr) (fun i _ => la - (intOf i).toNat)
  case atStart =>
    refine ⟨0, _, by omega, rfl, hown1, small_replicate _, ?_, fun t _ => lim_replicate _ _, hbel1⟩
    rw [pre_zero, Nat.zero_mul]
    exact pre_zeros (fun i _ => lim_replicate _ _)
  case round =>
    obtain ⟨k, zs, hk, rfl, hown, hsm, hval, hzz, hbel⟩ := hrel
    have HV := hide hval
    have HZ := hide hzz
    clear hval hown1 hbel1 hzz
    have zlen := hide hown.len
    by_cases hp : k < la
    · obtain ⟨b1, o1, rfl, hb1, hcx⟩ := ha.cells (by omega)
      have hcxk := hide (hcx k (by omega))
      have hbx := ha.small k
      clear hcx
      go_wp2_with fail
      go_loopw [7, 8] (fun c j wq => ∃ (m n : Nat) (us : List Nat), m ≤ lb + 1 ∧ j = .int .i64 m ∧ c = .int .u64 n ∧ n < 4294967296 ∧ Own wq w.heap.size (.slice (some ⟨w.heap.size, 0, none⟩) (la + lb + 1) (la + lb + 1)) (la + lb + 1) us ∧ Small us ∧ pre us (k + m) + n * Bp (k + m) = pre zs (k + m) + lim xs k * pre ys m * Bp k ∧ (∀ t, k + m ≤ t → lim us t = lim zs t) ∧ Below w.heap.size w wq) (fun _ j _ => lb + 1 - (intOf j).toNat)
      case atStart => exact ⟨0, 0, zs, by omega, rfl, rfl, by omega, hown, hsm, by simp [pre_zero], fun t _ => rfl, hbel⟩
      case round =>
        obtain ⟨m, n, us, hm, rfl, rfl, hn, hown2, hsm2, hval2, hsame, hbel2⟩ := hrel
        have HV2 := hide hval2
        have HS := hide hsame
        clear hval2 hsame
        have ulen := hide hown2.len
        by_cases hq : m < lb + 1
        · have cx : wr.cell? ⟨b1, o1 + k, none⟩ = some (.int .u32 (lim xs k : Int)) := (hbel2.cell (p := ⟨b1, o1 + k, none⟩) hb1).trans (unhide hcxk)
          have cs := hown2.cell (i := k + m) (by omega)
          have cf := hown2.free (k + m)
          have hby := hb.small m
          have hbu := hsm2 (k + m)
          have hmul := mul_fits hbx hby
          have hbr := hb.later hbel2
          have hi1 : (k : Int) < (la : Int) := by omega
          have hi2 : (k : Int) + (m : Int) < (la : Int) + (lb : Int) + 1 := by omega
          go_wp2
          go_quiet ((go_at_call 47; exact (rlimb_any _ _ _ ys _ m _ (hbr.later (below_drewN (Below.refl _ _) _)) rfl).mono fun _ _ h => ⟨h.1, _, h.2.symm⟩))
          go_wp2
          go_roundw
          case rel =>
            rw [and_low32 _ (by omega) (by omega)]
            refine ⟨m + 1, (n + lim xs k * lim ys m + lim us (k + m)) / 4294967296, us.set (k + m) ((n + lim xs k * lim ys m + lim us (k + m)) % 4294967296), by omega, by go_num, by go_num, by omega, (hown2.drewN _).set _ _ (by omega), small_set hsm2 (by omega), ?_, fun t ht => ?_, (below_drewN hbel2 _).setCell (by simp) _⟩
            · rw [show k + (m + 1) = k + m + 1 by omega, pre_succ, pre_set_lt _ _ _ _ (Nat.le_refl _) (by rw [unhide ulen]; omega), lim_set _ _ _ _ (by rw [unhide ulen]; omega), if_pos rfl, Bp_succ, pre_succ, pre_succ, mul_step (Bp_add k m) (unhide HV2), unhide HS (k + m) (Nat.le_refl _), Nat.mul_add, Nat.add_mul]
              omega
            · rw [lim_set _ _ _ _ (by rw [unhide ulen]; omega), if_neg (by omega)]
              exact unhide HS t (by omega)
          case measure => simp [intOf]; omega
        · have hm1 : m = lb + 1 := by omega
          have hr := mul_round ha.small hb.small hb.len_eq (unhide HV) (unhide HZ (k + lb) (Nat.le_refl _)) (by rw [← hm1]; exact unhide HV2)
          have HR := hide hr
          clear hr
          go_wp2
          go_roundw
          case rel => exact ⟨k + 1, us, by omega, by go_num, hown2, hsm2, unhide HR, fun t ht => by rw [unhide HS t (by omega)]; exact unhide HZ t (by omega), hbel2⟩
          case measure => simp [intOf]; omega
    · have hk1 : k = la := by omega
      have hr := rowAt_own hown hsm
      have hv : val zs = val xs * val ys := by
        have h1 := unhide HV
        have e : val zs = pre zs (la + lb + 1) := by unfold val; rw [unhide zlen]
        rw [hk1] at h1
        rw [e, pre_succ, unhide HZ (la + lb) (by omega), h1, pre_len (by rw [ha.len_eq]; exact Nat.le_refl _), Nat.zero_mul, Nat.add_zero]
      have HW := hide hv
      clear hv
      go_wp2_with fail
      refine (rtrim_any _ _ _ zs _ hr (by omega)).mono ?_
      rintro e w' ⟨a3, l3, c3, rfl, hnum, hb3⟩
      rw [unhide HW] at hnum
      go_wp2
      go_ret
      exact ⟨_, _, _, rfl, hnum, hbel.trans (hb3.mono hbel.size)⟩

#print axioms rmul_any
end Go.Proofs.Ytkhcanhdbalihaa
