/-
  What the reference's SubL does: what is left, if no more is taken than there is.
-/
import Derived.Test.YtkhcanhdbalihaaRefAdd
namespace Go.Proofs.Ytkhcanhdbalihaa
open Go.RowKit Lb

set_option maxRecDepth 20000 in
set_option maxHeartbeats 400000 in
theorem rsub_new (aa : Option Addr) (la ca : Nat) (xs : List Nat) (ab : Option Addr) (lb cb : Nat) (ys : List Nat) (w : World) (ha : RowAt w aa la ca xs) (hb : RowAt w ab lb cb ys) (hla : la ≤ 10000000) (hlb : lb ≤ 10000000) (hle : val ys ≤ val xs) :
    Calls Try.prog 42 #[.slice aa la ca, .slice ab lb cb] w fun e w' => ∃ ao' len' cap', e = .returned (.slice ao' len' cap') ∧ NumAt w' ao' len' cap' (val xs - val ys) ∧ Below w.heap.size w w' ∧ New w.heap.size ao' len' := by
  have hm1 := ha.cap_max
  have hm2 := hb.cap_max
  have hc1 := ha.cap_le
  have hc2 := hb.cap_le
  unfold maxLen at hm1 hm2
  obtain ⟨M, hM, P1, P2⟩ : ∃ M, ((la ≤ M ∧ M ≤ la ∧ lb ≤ la) ∨ (lb ≤ M ∧ M ≤ lb ∧ la < lb)) ∧ Hid (pre xs M = val xs) ∧ Hid (pre ys M = val ys) :=
    ⟨max la lb, by omega, pre_len (by rw [ha.len_eq]; omega), pre_len (by rw [hb.len_eq]; omega)⟩
  have HLE := hide hle
  clear hle
  rcases hM with ⟨hM1, hM2, hM3⟩ | ⟨hM1, hM2, hM3⟩
  all_goals
    go_enter Try.func42, Try.ntmps42
    go_wp2_with fail
    go_loopw [5, 6, 7] (fun v c i wr => ∃ (k n : Nat) (zs : List Nat), k ≤ M ∧ i = .int .i64 k ∧ c = .int .u64 n ∧ n ≤ 1 ∧ Own wr w.heap.size v k zs ∧ Small zs ∧ val zs + pre ys k = pre xs k + n * Bp k ∧ Below w.heap.size w wr) (fun _ _ i _ => M - (intOf i).toNat)
    case atStart => exact ⟨0, 0, [], by omega, rfl, rfl, by omega, own_none _ _, small_nil, rfl, Below.refl _ _⟩
    case round =>
      obtain ⟨k, n, zs, hk, rfl, rfl, hn, hown, hsm, hval, hbel⟩ := hrel
      have HV := hide hval
      clear hval
      have hax := ha.later hbel
      have hbx2 := hb.later hbel
      by_cases hp : k < M
      · go_wp2_with fail
        refine (rlimb_any _ _ _ xs _ k _ hax rfl).mono ?_
        rintro e w' ⟨rfl, rfl⟩
        go_wp2_with fail
        refine (rlimb_any _ _ _ ys _ k _ hbx2 rfl).mono ?_
        rintro e w' ⟨rfl, rfl⟩
        have hbx := ha.small k
        have hby := hb.small k
        go_wp2_with (at_builtin; refine append_row rfl _ _ rfl w.heap.size _ k zs rfl ?_ _ 1 1 [(4294967296 + lim xs k - lim ys k - n) % 4294967296] rfl ?_ (by omega) ?_ ?_)
        · exact hown.alloc _
        · exact rowAt_one (by rw [and_low32 _ (by omega) (by omega)]; omega) (by omega)
        · have := hbel.size
          simp; omega
        · intro v' w' hown' hgrow
          have hbel' : Below w.heap.size w w' := (hbel.alloc hbel.size _).grown hgrow (by have := hbel.size; simp; omega) (fun j hj => hown.block_ge j hj)
          go_wp2
          go_roundw
          case rel =>
            refine ⟨k + 1, 1 - (4294967296 + lim xs k - lim ys k - n) / 4294967296, _, by omega, by go_num, by go_num, by omega, hown', small_snoc hsm (by omega), ?_, hbel'⟩
            rw [val_snoc, hown.len, Bp_succ, pre_succ, pre_succ]
            have h1 := borrow_eq (X := 4294967296 + lim xs k - lim ys k - n) (lx := lim xs k) (ly := lim ys k) (c := n) (d := 1 - (4294967296 + lim xs k - lim ys k - n) / 4294967296) (b := Bp k) (by omega) (by omega)
            have h2 := unhide HV
            omega
          case measure => simp [intOf]; omega
      · have hk1 : k = M := by omega
        go_wp2_with fail
        obtain ⟨ao', cap', rfl, hr⟩ := rowAt_owned hown hsm
        refine (rtrim_new _ _ _ zs _ hr (by omega)).mono ?_
        rintro e w' ⟨a2, l2, c2, rfl, hnum, hb2, hnew⟩
        go_wp2
        go_ret
        refine ⟨_, _, _, rfl, ?_, hbel.trans (hb2.mono hbel.size), hnew.mono hbel.size⟩
        have hz : n = 0 ∧ val zs = val xs - val ys := by
          have h2 := unhide HV
          have h0 := unhide HLE
          have h3 := val_lt hsm
          rw [hown.len] at h3
          subst hk1
          rw [unhide P1, unhide P2] at h2
          rcases Nat.eq_zero_or_pos n with e | e
          · subst e; omega
          · have h7 : 1 * Bp k ≤ n * Bp k := Nat.mul_le_mul_right _ e
            omega
        rw [← hz.2]
        exact hnum

theorem rsub_any (aa : Option Addr) (la ca : Nat) (xs : List Nat) (ab : Option Addr) (lb cb : Nat) (ys : List Nat) (w : World) (ha : RowAt w aa la ca xs) (hb : RowAt w ab lb cb ys) (hla : la ≤ 10000000) (hlb : lb ≤ 10000000) (hle : val ys ≤ val xs) :
    Calls Try.prog 42 #[.slice aa la ca, .slice ab lb cb] w fun e w' => ∃ ao' len' cap', e = .returned (.slice ao' len' cap') ∧ NumAt w' ao' len' cap' (val xs - val ys) ∧ Below w.heap.size w w' := by
  refine (rsub_new aa la ca xs ab lb cb ys w ha hb hla hlb hle).mono ?_
  rintro e w' ⟨a, l, c, h1, h2, h3, _⟩
  exact ⟨a, l, c, h1, h2, h3⟩
#print axioms rsub_any
end Go.Proofs.Ytkhcanhdbalihaa
