/-
  What limb.Left does: the number times a power of 2.
-/
import Derived.Test.YtfmdlbhgohmgbaaSteps
namespace Go.Proofs.Ytfmdlbhgohmgbaa
open Go.RowKit Lb

theorem left_digit {x r c : Nat} (hx : x < 4294967296) (hr : r < 32) (hc : c < 2 ^ r) : bits .or .u32 (c : Int) (IntKind.u64.wrap ((x : Int) * 2 ^ r) % 4294967296) = ((c + x * 2 ^ r % 4294967296 : Nat) : Int) ∧
    IntKind.u64.wrap ((x : Int) * 2 ^ r) / 4294967296 % 4294967296 = ((x * 2 ^ r / 4294967296 : Nat) : Int) := by
  obtain ⟨h1, h2, h3⟩ := pow_limb hr
  have h4 : x * 2 ^ r ≤ 4294967295 * 2147483648 := Nat.mul_le_mul (by omega) h1
  have e : IntKind.u64.wrap ((x : Int) * 2 ^ r) = ((x * 2 ^ r : Nat) : Int) := by
    rw [show ((x : Int) * 2 ^ r) = ((x * 2 ^ r : Nat) : Int) by simp, IntKind.wrap_u64]
    omega
  rw [e]
  refine ⟨?_, by omega⟩
  rw [show ((x * 2 ^ r : Nat) : Int) % 4294967296 = ((x * 2 ^ r % 4294967296 : Nat) : Int) by omega, u32_or_nat _ _ (by omega) (by omega), low_or hr hc]

set_option maxRecDepth 20000 in
set_option maxHeartbeats 1000000 in
theorem left_new (ao : Option Addr) (len cap : Nat) (xs : List Nat) (n : Int) (w : World) (h : RowAt w ao len cap xs) (hlen : len ≤ 10000000) :
    Calls Try.prog 26 #[.slice ao len cap, .int .i64 n] w fun e w' => ∃ ao' len' cap', e = .returned (.slice ao' len' cap') ∧ NumAt w' ao' len' cap' (val xs * 2 ^ cl n) ∧ New w.heap.size ao' len' ∧ Below w.heap.size w w' := by
  go_enter Try.func26, Try.ntmps26
  go_wp2_with fail
  refine (cut_any _ _ _ xs _ h).mono ?_
  rintro e w' ⟨⟨a1, l1, c1, rfl, ⟨xs1, hx1, nx1, vx1⟩, hl1⟩, rfl⟩
  have Vx := hide vx1
  have L1 := hide hx1.len_eq
  clear vx1 nx1 h
  have hm1 := hx1.cap_max
  have hc1 := hx1.cap_le
  unfold maxLen at hm1
  by_cases hz : l1 = 0
  · have hz' : ((l1 : Int) == 0) = true := by simp [hz]
    go_wp2
    go_ret
    refine ⟨_, _, _, rfl, ?_, fun h => absurd h (by omega), Below.refl _ _⟩
    rw [← unhide Vx, List.eq_nil_of_length_eq_zero (show xs1.length = 0 by rw [unhide L1, hz]), val_nil, Nat.zero_mul]
    exact numAt_nil _
  · have hz' : ((l1 : Int) == 0) = false := by simp [hz]
    go_wp2_with fail
    refine (steps_any n _).mono ?_
    rintro e w' ⟨q, r, rfl, hqr, hr, rfl⟩
    have hcl := cl_le n
    have HQ := hide hqr
    have hq : q ≤ 128 := by omega
    clear hcl hqr
    go_wp2_with (at_make; refine make_row rfl _ _ rfl w.heap.size .i64 .i64 _ _ (l1 + q + 1) rfl rfl (by omega) (by omega) (by omega) (Nat.le_refl _) ?_)
    intro w1 hown1 hgrow1
    have hbel1 : Below w.heap.size w w1 := (Below.refl _ _).grown hgrow1 (Nat.le_refl _) (fun _ h => by simp at h)
    clear hgrow1
    go_wp2_with fail
    go_loopw [29] (fun i wr => ∃ (k : Nat) (zs : List Nat), k ≤ l1 ∧ i = .int .i64 k ∧ Own wr w.heap.size (.slice (some ⟨w.heap.size, 0, none⟩) (l1 + q + 1) (l1 + q + 1)) (l1 + q + 1) zs ∧ Small zs ∧ lim zs (q + k) < 2 ^ r ∧ pre zs (q + k + 1) = pre xs1 k * 2 ^ r * Bp q ∧ Below w.heap.size w wr) (fun i _ => l1 - (intOf i).toNat)
    case atStart =>
      refine ⟨0, _, by omega, rfl, hown1, small_replicate _, by rw [lim_replicate]; exact Nat.pow_pos (by omega), ?_, hbel1⟩
      rw [pre_zero, Nat.zero_mul, Nat.zero_mul]
      exact pre_zeros (fun i _ => lim_replicate _ _)
    case round =>
      obtain ⟨k, zs, hk, rfl, hown, hsm, hcar, hval, hbel⟩ := hrel
      have HV := hide hval
      have HC := hide hcar
      clear hval hown1 hbel1 hcar
      have zlen := hide hown.len
      by_cases hp : k < l1
      · obtain ⟨b1, o1, rfl, hb1, hcx⟩ := hx1.cells (by omega)
        have cx : wr.cell? ⟨b1, o1 + k, none⟩ = some (.int .u32 (lim xs1 k : Int)) := (hbel.cell (p := ⟨b1, o1 + k, none⟩) hb1).trans (hcx k (by omega))
        have cs := hown.cell (i := q + k) (by omega)
        have cf := hown.free (q + k)
        have cs2 := hown.cell (i := q + k + 1) (by omega)
        have cf2 := hown.free (q + k + 1)
        have hbx := hx1.small k
        clear hcx
        go_wp2
        go_roundw
        case rel =>
          obtain ⟨h1, h2⟩ := left_digit hbx hr (unhide HC)
          rw [h1, h2]
          have hh := high_fits (r := r) (x := lim xs1 k) hr hbx
          have hll := low_fits (x := lim xs1 k) hr (unhide HC)
          have hpl := (pow_limb hr).1
          have hzl : q + k + 1 < zs.length := by rw [unhide zlen]; omega
          refine ⟨k + 1, (zs.set (q + k) (lim zs (q + k) + lim xs1 k * 2 ^ r % 4294967296)).set (q + k + 1) (lim xs1 k * 2 ^ r / 4294967296), by omega, by go_num, (hown.set _ _ rfl).set _ _ rfl, small_set (small_set hsm hll) (by omega), ?_, ?_, (hbel.setCell (by simp) _).setCell (by simp) _⟩
          · rw [show q + (k + 1) = q + k + 1 by omega, lim_set _ _ _ _ (by rw [List.length_set]; exact hzl), if_pos rfl]; exact hh
          · rw [show q + (k + 1) + 1 = q + k + 1 + 1 by omega, pre_succ, lim_set _ _ _ _ (by rw [List.length_set]; exact hzl), if_pos rfl, pre_set_lt _ _ _ _ (Nat.le_refl _) (by rw [List.length_set]; exact hzl), pre_succ, lim_set _ _ _ _ (by omega), if_pos rfl, pre_set_lt _ _ _ _ (Nat.le_refl _) (by omega), pre_succ, Bp_succ]
            exact left_step (Bp_add q k) (by rw [← pre_succ]; exact unhide HV)
        case measure => simp [intOf]; omega
      · have hk1 : k = l1 := by omega
        have hr := rowAt_own hown hsm
        have hv : val zs = val xs * 2 ^ cl n := by
          have h1 := unhide HV
          rw [hk1, pre_len (xs := xs1) (by rw [hx1.len_eq]; omega), pre_len (xs := zs) (by rw [unhide zlen]; omega), unhide Vx] at h1
          rw [h1, Nat.mul_assoc, Bp_two, ← Nat.pow_add, ← unhide HQ, Nat.add_comm]
        have HW := hide hv
        clear hv
        go_wp2_with fail
        refine (cut_same _ _ _ zs _ hr).mono ?_
        rintro e w' ⟨⟨a3, l3, c3, rfl, hnum, hl3, hsame⟩, rfl⟩
        rw [unhide HW] at hnum
        have HS := hide hsame
        clear hsame
        go_wp2
        go_ret
        exact ⟨_, _, _, rfl, hnum, fun h => ⟨_, _, unhide HS h, Nat.le_refl _⟩, hbel⟩

theorem left_any (ao : Option Addr) (len cap : Nat) (xs : List Nat) (n : Int) (w : World) (h : RowAt w ao len cap xs) (hlen : len ≤ 10000000) :
    Calls Try.prog 26 #[.slice ao len cap, .int .i64 n] w fun e w' => ∃ ao' len' cap', e = .returned (.slice ao' len' cap') ∧ NumAt w' ao' len' cap' (val xs * 2 ^ cl n) ∧ Below w.heap.size w w' := by
  refine (left_new ao len cap xs n w h hlen).mono ?_
  rintro e w' ⟨a, l, c, h1, h2, _, h3⟩
  exact ⟨a, l, c, h1, h2, h3⟩
#print axioms left_any
end Go.Proofs.Ytfmdlbhgohmgbaa
