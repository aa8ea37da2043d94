/-
  What limb.Times does: the product with one limb, in a row of its own.
-/
import Derived.Test.YtfjebgjhhojphaaCut
namespace Go.Proofs.Ytfjebgjhhojphaa
open Go.RowKit Lb

set_option maxRecDepth 20000 in
set_option maxHeartbeats 1000000 in
theorem times_any (ao : Option Addr) (len cap : Nat) (xs : List Nat) (x : Nat) (w : World) (h : RowAt w ao len cap xs) (hlen : len ≤ 10000000) (hx : x < 4294967296) :
    Calls Try.prog 17 #[.slice ao len cap, .int .u32 (x : Int)] w fun e w' => ∃ ao' len' cap', e = .returned (.slice ao' len' cap') ∧ NumAt w' ao' len' cap' (val xs * x) ∧ Below w.heap.size w w' := by
  go_enter Try.func17, Try.ntmps17
  go_wp2_with fail
  refine (cut_any _ _ _ xs _ h).mono ?_
  rintro e w' ⟨⟨a1, l1, c1, rfl, ⟨xs1, hx1, nx1, vx1⟩, hl1⟩, rfl⟩
  have Vx := hide vx1
  clear vx1 nx1 h
  have hm1 := hx1.cap_max
  have hc1 := hx1.cap_le
  unfold maxLen at hm1
  go_wp2_with (at_make; refine make_row rfl _ _ rfl w.heap.size .i64 .i64 _ _ (l1 + 1) rfl rfl (by omega) (by omega) (by omega) (Nat.le_refl _) ?_)
  intro w1 hown1 hgrow1
  have hbel1 : Below w.heap.size w w1 := (Below.refl _ _).grown hgrow1 (Nat.le_refl _) (fun _ h => by simp at h)
  clear hgrow1
  go_wp2_with fail
  go_loopw [6, 17] (fun c i wr => ∃ (k n : Nat) (zs : List Nat), k ≤ l1 ∧ i = .int .i64 k ∧ c = .int .u64 n ∧ n < 4294967296 ∧ Own wr w.heap.size (.slice (some ⟨w.heap.size, 0, none⟩) (l1 + 1) (l1 + 1)) (l1 + 1) zs ∧ Small zs ∧ pre zs k + n * Bp k = pre xs1 k * x ∧ Below w.heap.size w wr) (fun _ i _ => l1 - (intOf i).toNat)
  case atStart => exact ⟨0, 0, _, by omega, rfl, rfl, by omega, hown1, small_replicate _, by simp [pre_zero], hbel1⟩
  case round =>
    obtain ⟨k, n, zs, hk, rfl, rfl, hn, hown, hsm, hval, hbel⟩ := hrel
    have HV := hide hval
    clear hval hown1 hbel1
    have zlen := hide hown.len
    by_cases hp : k < l1
    · obtain ⟨b1, o1, rfl, hb1, hcx⟩ := hx1.cells (by omega)
      have cx : wr.cell? ⟨b1, o1 + k, none⟩ = some (.int .u32 (lim xs1 k : Int)) := (hbel.cell (p := ⟨b1, o1 + k, none⟩) hb1).trans (hcx k (by omega))
      have cs := hown.cell (i := k) (by omega)
      have cf := hown.free k
      have hbx := hx1.small k
      have hmul := mul_fits hbx hx
      clear hcx
      go_wp2
      go_roundw
      case rel =>
        refine ⟨k + 1, (n + lim xs1 k * x) / 4294967296, zs.set k ((n + lim xs1 k * x) % 4294967296), by omega, by go_num, by go_num, by omega, hown.set k _ (by omega), small_set hsm (by omega), ?_, hbel.setCell (by simp) _⟩
        rw [pre_succ, pre_set_lt _ _ _ _ (Nat.le_refl _) (by rw [unhide zlen]; omega), lim_set _ _ _ _ (by rw [unhide zlen]; omega), if_pos rfl, Bp_succ, pre_succ]
        exact times_step (unhide HV)
      case measure => simp [intOf]; omega
    · have hk1 : k = l1 := by omega
      have cs := hown.cell (i := l1) (by omega)
      have cf := hown.free l1
      go_wp2_with fail
      have hown2 := hown.set l1 n (e := (n : Int)) rfl
      have hr := rowAt_own hown2 (small_set hsm (by omega))
      have hbel2 : Below w.heap.size w (wr.setCell ⟨w.heap.size, l1, none⟩ (.int .u32 (n : Int))) := hbel.setCell (by simp) _
      have hv : val (zs.set l1 n) = val xs * x := by
        rw [val_set_end (unhide zlen), ← hk1, unhide HV, hk1, pre_len (by rw [hx1.len_eq]; omega), unhide Vx]
      refine (cut_any _ _ _ (zs.set l1 n) _ hr).mono ?_
      rintro e w' ⟨⟨a3, l3, c3, rfl, hnum, hl3⟩, rfl⟩
      rw [hv] at hnum
      clear hv
      go_wp2
      go_ret
      exact ⟨_, _, _, rfl, hnum, hbel2⟩

theorem times_int (ao : Option Addr) (len cap : Nat) (xs : List Nat) (xi : Int) (x : Nat) (w : World) (hxi : xi = (x : Int)) (h : RowAt w ao len cap xs) (hlen : len ≤ 10000000) (hx : x < 4294967296) :
    Calls Try.prog 17 #[.slice ao len cap, .int .u32 xi] w fun e w' => ∃ ao' len' cap', e = .returned (.slice ao' len' cap') ∧ NumAt w' ao' len' cap' (val xs * x) ∧ Below w.heap.size w w' := by
  subst hxi
  exact times_any ao len cap xs x w h hlen hx

#print axioms times_any
end Go.Proofs.Ytfjebgjhhojphaa
