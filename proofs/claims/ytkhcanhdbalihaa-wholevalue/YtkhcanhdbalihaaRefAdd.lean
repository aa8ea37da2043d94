/-
  What the reference's AddL and SubL do: the sum, and what is left.
-/
import Derived.Test.YtkhcanhdbalihaaRefTrim
namespace Go.Proofs.Ytkhcanhdbalihaa
open Go.RowKit Lb

set_option maxRecDepth 20000 in
set_option maxHeartbeats 400000 in
theorem radd_any (aa : Option Addr) (la ca : Nat) (xs : List Nat) (ab : Option Addr) (lb cb : Nat) (ys : List Nat) (w : World) (ha : RowAt w aa la ca xs) (hb : RowAt w ab lb cb ys) (hla : la ≤ 10000000) (hlb : lb ≤ 10000000) :
    Calls Try.prog 40 #[.slice aa la ca, .slice ab lb cb] w fun e w' => ∃ ao' len' cap', e = .returned (.slice ao' len' cap') ∧ NumAt w' ao' len' cap' (val xs + val ys) ∧ Below w.heap.size w w' := by
  have hm1 := ha.cap_max
  have hm2 := hb.cap_max
  have hc1 := ha.cap_le
  have hc2 := hb.cap_le
  unfold maxLen at hm1 hm2
  obtain ⟨M, hM, P1, P2⟩ : ∃ M, ((la ≤ M ∧ M ≤ la ∧ lb ≤ la) ∨ (lb ≤ M ∧ M ≤ lb ∧ la < lb)) ∧ Hid (pre xs (M + 1) = val xs) ∧ Hid (pre ys (M + 1) = val ys) :=
    ⟨max la lb, by omega, pre_len (by rw [ha.len_eq]; omega), pre_len (by rw [hb.len_eq]; omega)⟩
  rcases hM with ⟨hM1, hM2, hM3⟩ | ⟨hM1, hM2, hM3⟩
  all_goals
    go_enter Try.func40, Try.ntmps40
    go_wp2_with fail
    go_loopw [5, 6, 7] (fun v c i wr => ∃ (k n : Nat) (zs : List Nat), k ≤ M + 1 ∧ i = .int .i64 k ∧ c = .int .u64 n ∧ n ≤ 1 ∧ Own wr w.heap.size v k zs ∧ Small zs ∧ val zs + n * Bp k = pre xs k + pre ys k ∧ Below w.heap.size w wr) (fun _ _ i _ => M + 1 - (intOf i).toNat)
    case atStart => exact ⟨0, 0, [], by omega, rfl, rfl, by omega, own_none _ _, small_nil, rfl, Below.refl _ _⟩
    case round =>
      obtain ⟨k, n, zs, hk, rfl, rfl, hn, hown, hsm, hval, hbel⟩ := hrel
      have HV := hide hval
      clear hval
      have hax := ha.later hbel
      have hbx2 := hb.later hbel
      by_cases hp : k < M + 1
      · go_wp2_with fail
        refine (rlimb_any _ _ _ xs _ k _ hax rfl).mono ?_
        rintro e w' ⟨rfl, rfl⟩
        go_wp2_with fail
        refine (rlimb_any _ _ _ ys _ k _ hbx2 rfl).mono ?_
        rintro e w' ⟨rfl, rfl⟩
        have hbx := ha.small k
        have hby := hb.small k
        go_wp2_with (at_builtin; refine append_row rfl _ _ rfl w.heap.size _ k zs rfl ?_ _ 1 1 [(n + lim xs k + lim ys k) % 4294967296] rfl ?_ (by omega) ?_ ?_)
        · exact hown.alloc _
        · exact rowAt_one (by rw [and_low32 _ (by omega) (by omega)]; omega) (by omega)
        · have := hbel.size
          simp; omega
        · intro v' w' hown' hgrow
          have hbel' : Below w.heap.size w w' := (hbel.alloc hbel.size _).grown hgrow (by have := hbel.size; simp; omega) (fun j hj => hown.block_ge j hj)
          go_wp2
          go_roundw
          case rel =>
            refine ⟨k + 1, (n + lim xs k + lim ys k) / 4294967296, _, by omega, by go_num, by go_num, by omega, hown', small_snoc hsm (by omega), ?_, hbel'⟩
            rw [val_snoc, hown.len, Bp_succ, pre_succ, pre_succ]
            have h1 := carry_eq (n + lim xs k + lim ys k) (Bp k)
            have h2 := unhide HV
            rw [Nat.add_mul, Nat.add_mul] at h1
            omega
          case measure => simp [intOf]; omega
      · have hk1 : k = M + 1 := by omega
        go_wp2_with fail
        obtain ⟨ao', cap', rfl, hr⟩ := rowAt_owned hown hsm
        refine (rtrim_any _ _ _ zs _ hr (by omega)).mono ?_
        rintro e w' ⟨a2, l2, c2, rfl, hnum, hb2⟩
        go_wp2
        go_ret
        refine ⟨_, _, _, rfl, ?_, hbel.trans (hb2.mono hbel.size)⟩
        have hz : n = 0 ∧ val zs = val xs + val ys := by
          have h2 := unhide HV
          subst hk1
          rw [unhide P1, unhide P2] at h2
          have h3 := val_lt ha.small
          have h4 := val_lt hb.small
          rw [ha.len_eq] at h3
          rw [hb.len_eq] at h4
          have h5 := Bp_le (show la ≤ M by omega)
          have h6 := Bp_le (show lb ≤ M by omega)
          rw [Bp_succ] at h2
          rcases Nat.eq_zero_or_pos n with e | e
          · subst e; omega
          · have h7 : 1 * (Bp M * 4294967296) ≤ n * (Bp M * 4294967296) := Nat.mul_le_mul_right _ e
            omega
        rw [← hz.2]
        exact hnum

#print axioms radd_any
end Go.Proofs.Ytkhcanhdbalihaa
