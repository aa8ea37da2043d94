/-
  What limb.Add does: the sum, in a row of its own.
-/
import Derived.Test.YtkhcanhdbalihaaCut
namespace Go.Proofs.Ytkhcanhdbalihaa
open Go.RowKit Lb

set_option maxRecDepth 20000 in
set_option maxHeartbeats 1000000 in
theorem add_any (aa : Option Addr) (la ca : Nat) (xs : List Nat) (ab : Option Addr) (lb cb : Nat) (ys : List Nat) (w : World) (ha : RowAt w aa la ca xs) (hb : RowAt w ab lb cb ys) (hla : la ≤ 10000000) (hlb : lb ≤ 10000000) :
    Calls Try.prog 38 #[.slice aa la ca, .slice ab lb cb] w fun e w' => ∃ ao' len' cap', e = .returned (.slice ao' len' cap') ∧ NumAt w' ao' len' cap' (val xs + val ys) ∧ Below w.heap.size w w' := by
  go_enter Try.func38, Try.ntmps38
  go_wp2_with fail
  refine (cut_any _ _ _ xs _ ha).mono ?_
  rintro e w' ⟨⟨a1, l1, c1, rfl, ⟨xs1, hx1, nx1, vx1⟩, hl1⟩, rfl⟩
  go_wp2_with fail
  refine (cut_any _ _ _ ys _ hb).mono ?_
  rintro e w' ⟨⟨a2, l2, c2, rfl, ⟨ys1, hy1, ny1, vy1⟩, hl2⟩, rfl⟩
  have Vx := hide vx1
  have Vy := hide vy1
  clear vx1 vy1 nx1 ny1 ha hb
  have hm1 := hx1.cap_max
  have hm2 := hy1.cap_max
  have hc1 := hx1.cap_le
  have hc2 := hy1.cap_le
  unfold maxLen at hm1 hm2
  rcases Nat.lt_or_ge l1 l2 with hlt | hlt
  · have hle : l1 ≤ l2 := by omega
    go_wp2_with (at_make; refine make_row rfl _ _ rfl w.heap.size .i64 .i64 _ _ (l2 + 1) rfl rfl (by omega) (by omega) (by omega) (Nat.le_refl _) ?_)
    intro w1 hown1 hgrow1
    have hbel1 : Below w.heap.size w w1 := (Below.refl _ _).grown hgrow1 (Nat.le_refl _) (fun _ h => by simp at h)
    clear hgrow1
    go_wp2_with fail
    go_loopw [6, 26] (fun c i wr => ∃ (k n : Nat) (zs : List Nat), k ≤ l2 ∧ i = .int .i64 k ∧ c = .int .u64 n ∧ n ≤ 1 ∧ Own wr w.heap.size (.slice (some ⟨w.heap.size, 0, none⟩) (l2 + 1) (l2 + 1)) (l2 + 1) zs ∧ Small zs ∧ pre zs k + n * Bp k = pre ys1 k + pre xs1 k ∧ Below w.heap.size w wr) (fun _ i _ => l2 - (intOf i).toNat)
    case atStart => exact ⟨0, 0, _, by omega, rfl, rfl, by omega, hown1, small_replicate _, rfl, hbel1⟩
    case round =>
      obtain ⟨k, n, zs, hk, rfl, rfl, hn, hown, hsm, hval, hbel⟩ := hrel
      have HV := hide hval
      clear hval hown1 hbel1
      have zlen := hide hown.len
      by_cases hp : k < l2
      · obtain ⟨b1, o1, rfl, hb1, hcx⟩ := hy1.cells (by omega)
        have cx : wr.cell? ⟨b1, o1 + k, none⟩ = some (.int .u32 (lim ys1 k : Int)) := (hbel.cell (p := ⟨b1, o1 + k, none⟩) hb1).trans (hcx k (by omega))
        have cs := hown.cell (i := k) (by omega)
        have cf := hown.free k
        have hbx := hy1.small k
        have hby := hx1.small k
        clear hcx
        by_cases hq : k < l1
        · obtain ⟨b2, o2, rfl, hb2, hcy⟩ := hx1.cells (by omega)
          have cy : wr.cell? ⟨b2, o2 + k, none⟩ = some (.int .u32 (lim xs1 k : Int)) := (hbel.cell (p := ⟨b2, o2 + k, none⟩) hb2).trans (hcy k (by omega))
          clear hcy
          go_wp2
          go_roundw
          case rel =>
            refine ⟨k + 1, (n + lim ys1 k + lim xs1 k) / 4294967296, zs.set k ((n + lim ys1 k + lim xs1 k) % 4294967296), by omega, by go_num, by go_num, by omega, hown.set k _ (by omega), small_set hsm (by omega), ?_, hbel.setCell (by simp) _⟩
            rw [pre_succ, pre_set_lt _ _ _ _ (Nat.le_refl _) (by rw [unhide zlen]; omega), lim_set _ _ _ _ (by rw [unhide zlen]; omega), if_pos rfl, Bp_succ, pre_succ, pre_succ]
            have h1 := carry_eq (n + lim ys1 k + lim xs1 k) (Bp k)
            have h2 := unhide HV
            rw [Nat.add_mul, Nat.add_mul] at h1
            omega
          case measure => simp [intOf]; omega
        · have hq0 : lim xs1 k = 0 := lim_out (by rw [hx1.len_eq]; omega)
          have HQ := hide hq0
          clear hq0
          go_wp2
          go_roundw
          case rel =>
            refine ⟨k + 1, (n + lim ys1 k) / 4294967296, zs.set k ((n + lim ys1 k) % 4294967296), by omega, by go_num, by go_num, by omega, hown.set k _ (by omega), small_set hsm (by omega), ?_, hbel.setCell (by simp) _⟩
            rw [pre_succ, pre_set_lt _ _ _ _ (Nat.le_refl _) (by rw [unhide zlen]; omega), lim_set _ _ _ _ (by rw [unhide zlen]; omega), if_pos rfl, Bp_succ, pre_succ, pre_succ, unhide HQ]
            have h1 := carry_eq (n + lim ys1 k) (Bp k)
            have h2 := unhide HV
            rw [Nat.add_mul] at h1
            omega
          case measure => simp [intOf]; omega
      · have hk1 : k = l2 := by omega
        have cs := hown.cell (i := l2) (by omega)
        have cf := hown.free l2
        go_wp2_with fail
        have hown2 := hown.set l2 n (e := (n : Int)) rfl
        have hr := rowAt_own hown2 (small_set hsm (by omega))
        have hbel2 : Below w.heap.size w (wr.setCell ⟨w.heap.size, l2, none⟩ (.int .u32 (n : Int))) := hbel.setCell (by simp) _
        have hv : val (zs.set l2 n) = val xs + val ys := by
          have h1 := add_end (unhide zlen) (by rw [hy1.len_eq]; omega) (by rw [hx1.len_eq]; omega) (by rw [← hk1]; exact unhide HV)
          have h2 := unhide Vx
          have h3 := unhide Vy
          omega
        refine (cut_any _ _ _ (zs.set l2 n) _ hr).mono ?_
        rintro e w' ⟨⟨a3, l3, c3, rfl, hnum, hl3⟩, rfl⟩
        rw [hv] at hnum
        clear hv
        go_wp2
        go_ret
        exact ⟨_, _, _, rfl, hnum, hbel2⟩
  · have hle : l2 ≤ l1 := by omega
    go_wp2_with (at_make; refine make_row rfl _ _ rfl w.heap.size .i64 .i64 _ _ (l1 + 1) rfl rfl (by omega) (by omega) (by omega) (Nat.le_refl _) ?_)
    intro w1 hown1 hgrow1
    have hbel1 : Below w.heap.size w w1 := (Below.refl _ _).grown hgrow1 (Nat.le_refl _) (fun _ h => by simp at h)
    clear hgrow1
    go_wp2_with fail
    go_loopw [6, 26] (fun c i wr => ∃ (k n : Nat) (zs : List Nat), k ≤ l1 ∧ i = .int .i64 k ∧ c = .int .u64 n ∧ n ≤ 1 ∧ Own wr w.heap.size (.slice (some ⟨w.heap.size, 0, none⟩) (l1 + 1) (l1 + 1)) (l1 + 1) zs ∧ Small zs ∧ pre zs k + n * Bp k = pre xs1 k + pre ys1 k ∧ Below w.heap.size w wr) (fun _ i _ => l1 - (intOf i).toNat)
    case atStart => exact ⟨0, 0, _, by omega, rfl, rfl, by omega, hown1, small_replicate _, rfl, hbel1⟩
    case round =>
      obtain ⟨k, n, zs, hk, rfl, rfl, hn, hown, hsm, hval, hbel⟩ := hrel
      have HV := hide hval
      clear hval hown1 hbel1
      have zlen := hide hown.len
      by_cases hp : k < l1
      · obtain ⟨b1, o1, rfl, hb1, hcx⟩ := hx1.cells (by omega)
        have cx : wr.cell? ⟨b1, o1 + k, none⟩ = some (.int .u32 (lim xs1 k : Int)) := (hbel.cell (p := ⟨b1, o1 + k, none⟩) hb1).trans (hcx k (by omega))
        have cs := hown.cell (i := k) (by omega)
        have cf := hown.free k
        have hbx := hx1.small k
        have hby := hy1.small k
        clear hcx
        by_cases hq : k < l2
        · obtain ⟨b2, o2, rfl, hb2, hcy⟩ := hy1.cells (by omega)
          have cy : wr.cell? ⟨b2, o2 + k, none⟩ = some (.int .u32 (lim ys1 k : Int)) := (hbel.cell (p := ⟨b2, o2 + k, none⟩) hb2).trans (hcy k (by omega))
          clear hcy
          go_wp2
          go_roundw
          case rel =>
            refine ⟨k + 1, (n + lim xs1 k + lim ys1 k) / 4294967296, zs.set k ((n + lim xs1 k + lim ys1 k) % 4294967296), by omega, by go_num, by go_num, by omega, hown.set k _ (by omega), small_set hsm (by omega), ?_, hbel.setCell (by simp) _⟩
            rw [pre_succ, pre_set_lt _ _ _ _ (Nat.le_refl _) (by rw [unhide zlen]; omega), lim_set _ _ _ _ (by rw [unhide zlen]; omega), if_pos rfl, Bp_succ, pre_succ, pre_succ]
            have h1 := carry_eq (n + lim xs1 k + lim ys1 k) (Bp k)
            have h2 := unhide HV
            rw [Nat.add_mul, Nat.add_mul] at h1
            omega
          case measure => simp [intOf]; omega
        · have hq0 : lim ys1 k = 0 := lim_out (by rw [hy1.len_eq]; omega)
          have HQ := hide hq0
          clear hq0
          go_wp2
          go_roundw
          case rel =>
            refine ⟨k + 1, (n + lim xs1 k) / 4294967296, zs.set k ((n + lim xs1 k) % 4294967296), by omega, by go_num, by go_num, by omega, hown.set k _ (by omega), small_set hsm (by omega), ?_, hbel.setCell (by simp) _⟩
            rw [pre_succ, pre_set_lt _ _ _ _ (Nat.le_refl _) (by rw [unhide zlen]; omega), lim_set _ _ _ _ (by rw [unhide zlen]; omega), if_pos rfl, Bp_succ, pre_succ, pre_succ, unhide HQ]
            have h1 := carry_eq (n + lim xs1 k) (Bp k)
            have h2 := unhide HV
            rw [Nat.add_mul] at h1
            omega
          case measure => simp [intOf]; omega
      · have hk1 : k = l1 := by omega
        have cs := hown.cell (i := l1) (by omega)
        have cf := hown.free l1
        go_wp2_with fail
        have hown2 := hown.set l1 n (e := (n : Int)) rfl
        have hr := rowAt_own hown2 (small_set hsm (by omega))
        have hbel2 : Below w.heap.size w (wr.setCell ⟨w.heap.size, l1, none⟩ (.int .u32 (n : Int))) := hbel.setCell (by simp) _
        have hv : val (zs.set l1 n) = val xs + val ys := by
          have h1 := add_end (unhide zlen) (by rw [hx1.len_eq]; omega) (by rw [hy1.len_eq]; omega) (by rw [← hk1]; exact unhide HV)
          have h2 := unhide Vx
          have h3 := unhide Vy
          omega
        refine (cut_any _ _ _ (zs.set l1 n) _ hr).mono ?_
        rintro e w' ⟨⟨a3, l3, c3, rfl, hnum, hl3⟩, rfl⟩
        rw [hv] at hnum
        clear hv
        go_wp2
        go_ret
        exact ⟨_, _, _, rfl, hnum, hbel2⟩

#print axioms add_any
end Go.Proofs.Ytkhcanhdbalihaa
