/-
  What limb.Right does: the number by a power of 2, rounded down.
-/
import Derived.Test.YtfmdlbhgohmgbaaSteps
import Derived.Test.YtfmdlbhgohmgbaaOver
namespace Go.Proofs.Ytfmdlbhgohmgbaa
open Go.RowKit Lb

theorem or_shl {n l : Nat} (hn : n < 4294967296) (hl : l < 4294967296) : bits .or .u64 (l : Int) ((n : Int) * 4294967296) = ((l + n * 4294967296 : Nat) : Int) := by
  have e : ((n : Int) * 4294967296) = ((n * 4294967296 : Nat) : Int) := by omega
  rw [e, u64_or_nat _ _ (by omega) (by omega)]
  congr 1
  have := Nat.shiftLeft_add_eq_or_of_lt (b := l) (i := 32) (by omega) n
  rw [Nat.shiftLeft_eq] at this
  rw [Nat.or_comm, Nat.add_comm]
  exact this.symm
theorem cast_shr (S r : Nat) : ((S : Int) / 2 ^ r % 4294967296) = ((S / 2 ^ r % 4294967296 : Nat) : Int) := by simp

set_option maxRecDepth 20000 in
set_option maxHeartbeats 1000000 in
theorem right_any (ao : Option Addr) (len cap : Nat) (xs : List Nat) (n : Int) (w : World) (h : RowAt w ao len cap xs) (hlen : len ≤ 10000000) :
    Calls Try.prog 28 #[.slice ao len cap, .int .i64 n] w fun e w' => ∃ ao' len' cap', e = .returned (.slice ao' len' cap') ∧ NumAt w' ao' len' cap' (val xs / 2 ^ cl n) ∧ Below w.heap.size w w' := by
  go_enter Try.func28, Try.ntmps28
  go_wp2_with fail
  refine (cut_any _ _ _ xs _ h).mono ?_
  rintro e w' ⟨⟨a1, l1, c1, rfl, ⟨xs1, hx1, nx1, vx1⟩, hl1⟩, rfl⟩
  have Vx := hide vx1
  have L1 := hide hx1.len_eq
  clear vx1 nx1 h
  have hm1 := hx1.cap_max
  have hc1 := hx1.cap_le
  unfold maxLen at hm1
  go_wp2_with fail
  refine (steps_any n _).mono ?_
  rintro e w' ⟨q, r, rfl, hqr, hr, rfl⟩
  have hcl := cl_le n
  have hq : q ≤ 128 := by omega
  have hdiv : val xs / 2 ^ cl n = val (xs1.drop q) / 2 ^ r := by
    rw [val_drop_div hx1.small, unhide Vx, Bp_two, Nat.div_div_eq_div_mul, ← Nat.pow_add, hqr]
  have HD := hide hdiv
  clear hcl hqr hdiv
  by_cases hz : l1 ≤ q
  · go_wp2
    go_ret
    refine ⟨_, _, _, rfl, ?_, Below.refl _ _⟩
    rw [unhide HD, val_drop_end (by rw [unhide L1]; exact hz), Nat.zero_div]
    exact numAt_nil _
  · obtain ⟨b1, o1, rfl, hb1, hcx⟩ := hx1.cells (by omega)
    have hne : ¬ c1 = q := by omega
    have hd := hx1.drop (q := q) (by omega)
    obtain ⟨ds, hds⟩ : ∃ ds, ds = xs1.drop q := ⟨_, rfl⟩
    rw [← hds] at hd
    have HD2 := unhide HD
    rw [← hds] at HD2
    have HD3 := hide HD2
    clear hcx HD2 HD hds hx1
    go_wp2_with (at_make; refine make_row rfl _ _ rfl w.heap.size .i64 .i64 _ _ (l1 - q) rfl rfl (by omega) (by omega) (by omega) (Nat.le_refl _) ?_)
    intro w1 hown1 hgrow1
    have hbel1 : Below w.heap.size w w1 := (Below.refl _ _).grown hgrow1 (Nat.le_refl _) (fun _ h => by simp at h)
    clear hgrow1
    go_wp2_with fail
    go_loopw [30] (fun i wr => ∃ (k : Nat) (zs : List Nat), k ≤ l1 - q ∧ i = .int .i64 k ∧ Own wr w.heap.size (.slice (some ⟨w.heap.size, 0, none⟩) (l1 - q) (l1 - q)) (l1 - q) zs ∧ Small zs ∧ (∀ i, i < k → lim zs i = (lim ds i + lim ds (i + 1) * 4294967296) / 2 ^ r % 4294967296) ∧ Below w.heap.size w wr) (fun i _ => l1 - q - (intOf i).toNat)
    case atStart => exact ⟨0, _, by omega, rfl, hown1, small_replicate _, fun i hi => by omega, hbel1⟩
    case round =>
      obtain ⟨k, zs, hk, rfl, hown, hsm, hval, hbel⟩ := hrel
      have HV := hide hval
      clear hval hown1 hbel1
      have zlen := hide hown.len
      by_cases hp : k < l1 - q
      · obtain ⟨b2, o2, e2, hb2, hcx⟩ := hd.cells (by omega)
        simp only [Option.some.injEq, Addr.mk.injEq, and_true] at e2
        obtain ⟨rfl, rfl⟩ := e2
        have cx : wr.cell? ⟨b1, o1 + q + k, none⟩ = some (.int .u32 (lim ds k : Int)) := (hbel.cell (p := ⟨b1, o1 + q + k, none⟩) hb1).trans (hcx k (by omega))
        have cs := hown.cell (i := k) (by omega)
        have cf := hown.free k
        have hbx := hd.small k
        by_cases hq2 : k + 1 < l1 - q
        · have cy : wr.cell? ⟨b1, o1 + q + (k + 1), none⟩ = some (.int .u32 (lim ds (k + 1) : Int)) := (hbel.cell (p := ⟨b1, o1 + q + (k + 1), none⟩) hb1).trans (hcx (k + 1) (by omega))
          have hby := hd.small (k + 1)
          clear hcx
          go_wp2
          go_roundw
          case rel =>
            rw [or_shl hby hbx, cast_shr]
            refine ⟨k + 1, zs.set k ((lim ds k + lim ds (k + 1) * 4294967296) / 2 ^ r % 4294967296), by omega, by go_num, hown.set k _ rfl, small_set hsm (by omega), fun i hi => ?_, hbel.setCell (by simp) _⟩
            rw [lim_set _ _ _ _ (by rw [unhide zlen]; exact hp)]
            by_cases c : i = k
            · rw [if_pos c, c]
            · rw [if_neg c]; exact unhide HV i (by omega)
          case measure => simp [intOf]; omega
        · clear hcx
          go_wp2
          go_roundw
          case rel =>
            rw [cast_shr, show lim ds k = lim ds k + lim ds (k + 1) * 4294967296 by rw [lim_out (i := k + 1) (by rw [hd.len_eq]; omega)]; omega]
            refine ⟨k + 1, zs.set k ((lim ds k + lim ds (k + 1) * 4294967296) / 2 ^ r % 4294967296), by omega, by go_num, hown.set k _ rfl, small_set hsm (by omega), fun i hi => ?_, hbel.setCell (by simp) _⟩
            rw [lim_set _ _ _ _ (by rw [unhide zlen]; exact hp)]
            by_cases c : i = k
            · rw [if_pos c, c]
            · rw [if_neg c]; exact unhide HV i (by omega)
          case measure => simp [intOf]; omega
      · have hk1 : k = l1 - q := by omega
        have hrw := rowAt_own hown hsm
        have hv : val zs = val xs / 2 ^ cl n := by
          rw [unhide HD3]
          exact right_end hd.small hr (by rw [unhide zlen, hd.len_eq]) (fun i hi => unhide HV i (by rw [hd.len_eq] at hi; omega))
        have HW := hide hv
        clear hv
        go_wp2_with fail
        refine (cut_any _ _ _ zs _ hrw).mono ?_
        rintro e w' ⟨⟨a3, l3, c3, rfl, hnum, hl3⟩, rfl⟩
        rw [unhide HW] at hnum
        go_wp2
        go_ret
        exact ⟨_, _, _, rfl, hnum, hbel⟩

#print axioms right_any
end Go.Proofs.Ytfmdlbhgohmgbaa
