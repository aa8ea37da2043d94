/-
  What limb.Sub does: what is left, in a row of its own; or nothing, and false.
-/
import Derived.Test.YtkhcanhdbalihaaCmp
namespace Go.Proofs.Ytkhcanhdbalihaa
open Go.RowKit Lb

theorem sub_no (aa : Option Addr) (la ca : Nat) (xs : List Nat) (ab : Option Addr) (lb cb : Nat) (ys : List Nat) (w : World) (ha : RowAt w aa la ca xs) (hb : RowAt w ab lb cb ys) (hlt : val xs < val ys) :
    Calls Try.prog 39 #[.slice aa la ca, .slice ab lb cb] w fun e w' => e = .returned (.tuple #[.slice none 0 0, .bool false]) ∧ Below w.heap.size w w' := by
  go_enter Try.func39, Try.ntmps39
  go_wp2_with fail
  refine (cmp_any _ _ _ xs _ _ _ ys _ ha hb).mono ?_
  rw [cmpI_lt hlt]
  rintro e w1 ⟨rfl, hb1⟩
  go_wp2
  go_ret2
  exact ⟨rfl, hb1⟩

/-- One digit of a difference, as the walk spells it. -/
theorem sub_digit {lx ly n : Nat} (hx : lx < 4294967296) (hy : ly < 4294967296) (hn : n ≤ 1) : ∃ X d : Nat, IntKind.u64.wrap (IntKind.u64.wrap ((lx : Int) - (n : Int)) - (ly : Int)) % 4294967296 = ((X % 4294967296 : Nat) : Int) ∧
    IntKind.u64.wrap (IntKind.u64.wrap ((lx : Int) - (n : Int)) - (ly : Int)) / 9223372036854775808 = (d : Int) ∧ X + ly + n = 4294967296 + lx ∧ d + X / 4294967296 = 1 ∧ d ≤ 1 := by
  refine ⟨4294967296 + lx - ly - n, 1 - (4294967296 + lx - ly - n) / 4294967296, ?_⟩
  simp only [IntKind.wrap_u64]
  omega
theorem sub_digit0 {lx n : Nat} (hx : lx < 4294967296) (hn : n ≤ 1) : ∃ X d : Nat, IntKind.u64.wrap ((lx : Int) - (n : Int)) % 4294967296 = ((X % 4294967296 : Nat) : Int) ∧
    IntKind.u64.wrap ((lx : Int) - (n : Int)) / 9223372036854775808 = (d : Int) ∧ X + 0 + n = 4294967296 + lx ∧ d + X / 4294967296 = 1 ∧ d ≤ 1 := by
  refine ⟨4294967296 + lx - n, 1 - (4294967296 + lx - n) / 4294967296, ?_⟩
  simp only [IntKind.wrap_u64]
  omega

set_option maxRecDepth 20000 in
set_option maxHeartbeats 1000000 in
theorem sub_yes (aa : Option Addr) (la ca : Nat) (xs : List Nat) (ab : Option Addr) (lb cb : Nat) (ys : List Nat) (w : World) (ha : RowAt w aa la ca xs) (hb : RowAt w ab lb cb ys) (hla : la ≤ 10000000) (hle : val ys ≤ val xs) :
    Calls Try.prog 39 #[.slice aa la ca, .slice ab lb cb] w fun e w' => ∃ ao' len' cap', e = .returned (.tuple #[.slice ao' len' cap', .bool true]) ∧ NumAt w' ao' len' cap' (val xs - val ys) ∧ Below w.heap.size w w' := by
  go_enter Try.func39, Try.ntmps39
  go_wp2_with fail
  refine (cmp_any _ _ _ xs _ _ _ ys _ ha hb).mono ?_
  have hcmp : 0 ≤ cmpI (val xs) (val ys) := by
    unfold cmpI; rw [if_neg (by omega)]; split <;> omega
  rintro e w1 ⟨rfl, hb1⟩
  go_wp2_with fail
  refine (cut_any _ _ _ xs _ (ha.later hb1)).mono ?_
  rintro e w' ⟨⟨a1, l1, c1, rfl, ⟨xs1, hx1, nx1, vx1⟩, hl1⟩, rfl⟩
  go_wp2_with fail
  refine (cut_any _ _ _ ys _ (hb.later hb1)).mono ?_
  rintro e w' ⟨⟨a2, l2, c2, rfl, ⟨ys1, hy1, ny1, vy1⟩, hl2⟩, rfl⟩
  rw [← vx1, ← vy1] at hle
  have Vx := hide vx1
  have Vy := hide vy1
  have hll : l2 ≤ l1 := by
    rcases Nat.lt_or_ge l1 l2 with h | h
    · have := norm_lt_len hx1.small ny1 (by rw [hx1.len_eq, hy1.len_eq]; exact h)
      omega
    · exact h
  have HLE := hide hle
  clear vx1 vy1 nx1 ny1 ha hb hle hcmp
  have hm1 := hx1.cap_max
  have hm2 := hy1.cap_max
  have hc1 := hx1.cap_le
  have hc2 := hy1.cap_le
  unfold maxLen at hm1 hm2
  go_wp2_with (at_make; refine make_row rfl _ _ rfl w1.heap.size .i64 .i64 _ _ l1 rfl rfl (by omega) (by omega) (by omega) (Nat.le_refl _) ?_)
  intro w2 hown1 hgrow1
  have hbel1 : Below w1.heap.size w1 w2 := (Below.refl _ _).grown hgrow1 (Nat.le_refl _) (fun _ h => by simp at h)
  clear hgrow1
  go_wp2_with fail
  go_loopw [7, 24] (fun c i wr => ∃ (k n : Nat) (zs : List Nat), k ≤ l1 ∧ i = .int .i64 k ∧ c = .int .u64 n ∧ n ≤ 1 ∧ Own wr w1.heap.size (.slice (some ⟨w1.heap.size, 0, none⟩) l1 l1) l1 zs ∧ Small zs ∧ pre zs k + pre ys1 k = pre xs1 k + n * Bp k ∧ Below w1.heap.size w1 wr) (fun _ i _ => l1 - (intOf i).toNat)
  case atStart => exact ⟨0, 0, _, by omega, rfl, rfl, by omega, hown1, small_replicate _, rfl, hbel1⟩
  case round =>
    obtain ⟨k, n, zs, hk, rfl, rfl, hn, hown, hsm, hval, hbel⟩ := hrel
    have HV := hide hval
    clear hval hown1 hbel1
    have zlen := hide hown.len
    by_cases hp : k < l1
    · obtain ⟨b1, o1, rfl, hb1, hcx⟩ := hx1.cells (by omega)
      have cx : wr.cell? ⟨b1, o1 + k, none⟩ = some (.int .u32 (lim xs1 k : Int)) := (hbel.cell (p := ⟨b1, o1 + k, none⟩) hb1).trans (hcx k (by omega))
      have cs := hown.cell (i := k) (by omega)
      have cf := hown.free k
      have hbx := hx1.small k
      have hby := hy1.small k
      clear hcx
      by_cases hq : k < l2
      · obtain ⟨b2, o2, rfl, hb2, hcy⟩ := hy1.cells (by omega)
        have cy : wr.cell? ⟨b2, o2 + k, none⟩ = some (.int .u32 (lim ys1 k : Int)) := (hbel.cell (p := ⟨b2, o2 + k, none⟩) hb2).trans (hcy k (by omega))
        clear hcy
        have D := hide (sub_digit hbx hby hn)
        go_wp2
        go_roundw
        case rel =>
          obtain ⟨X, d, h1, h2, h3, h4, h5⟩ := unhide D
          rw [h1, h2]
          refine ⟨k + 1, d, zs.set k (X % 4294967296), by omega, by go_num, rfl, h5, hown.set k _ rfl, small_set hsm (by omega), ?_, hbel.setCell (by simp) _⟩
          rw [pre_succ, pre_set_lt _ _ _ _ (Nat.le_refl _) (by rw [unhide zlen]; omega), lim_set _ _ _ _ (by rw [unhide zlen]; omega), if_pos rfl, Bp_succ, pre_succ, pre_succ]
          have h6 := borrow_eq (b := Bp k) h3 h4
          have h7 := unhide HV
          omega
        case measure => simp [intOf]; omega
      · have hq0 : lim ys1 k = 0 := lim_out (by rw [hy1.len_eq]; omega)
        have HQ := hide hq0
        clear hq0
        have D := hide (sub_digit0 hbx hn)
        go_wp2
        go_roundw
        case rel =>
          obtain ⟨X, d, h1, h2, h3, h4, h5⟩ := unhide D
          rw [h1, h2]
          refine ⟨k + 1, d, zs.set k (X % 4294967296), by omega, by go_num, rfl, h5, hown.set k _ rfl, small_set hsm (by omega), ?_, hbel.setCell (by simp) _⟩
          rw [pre_succ, pre_set_lt _ _ _ _ (Nat.le_refl _) (by rw [unhide zlen]; omega), lim_set _ _ _ _ (by rw [unhide zlen]; omega), if_pos rfl, Bp_succ, pre_succ, pre_succ, unhide HQ]
          have h6 := borrow_eq (b := Bp k) h3 h4
          have h7 := unhide HV
          omega
        case measure => simp [intOf]; omega
    · have hk1 : k = l1 := by omega
      have hr := rowAt_own hown hsm
      have hv : val zs = val xs - val ys := by
        have h1 := unhide HV
        have h2 := unhide HLE
        have h3 := val_lt hsm
        rw [unhide zlen] at h3
        have e1 : val zs = pre zs k := by unfold val; rw [unhide zlen, hk1]
        rw [pre_len (xs := ys1) (by rw [hy1.len_eq]; omega), pre_len (xs := xs1) (by rw [hx1.len_eq]; omega), ← e1] at h1
        rw [← unhide Vx, ← unhide Vy]
        rcases Nat.eq_zero_or_pos n with e | e
        · subst e; omega
        · have h7 : 1 * Bp k ≤ n * Bp k := Nat.mul_le_mul_right _ e
          rw [hk1] at h1 h7
          omega
      have HW := hide hv
      clear hv
      go_wp2_with fail
      refine (cut_any _ _ _ zs _ hr).mono ?_
      rintro e w' ⟨⟨a3, l3, c3, rfl, hnum, hl3⟩, rfl⟩
      rw [unhide HW] at hnum
      go_wp2
      go_ret2
      exact ⟨_, _, _, rfl, hnum, hb1.trans (hbel.mono hb1.size)⟩

/-- Both ways of Sub in one. -/
theorem sub_all (aa : Option Addr) (la ca : Nat) (xs : List Nat) (ab : Option Addr) (lb cb : Nat) (ys : List Nat) (A B : Nat) (b : Bool) (w : World) (ha : RowAt w aa la ca xs) (hb : RowAt w ab lb cb ys) (hla : la ≤ 10000000) (hA : val xs = A) (hB : val ys = B) (hbb : b = decide (B ≤ A)) :
    Calls Try.prog 39 #[.slice aa la ca, .slice ab lb cb] w fun e w' => ∃ ao' len' cap', e = .returned (.tuple #[.slice ao' len' cap', .bool b]) ∧ NumAt w' ao' len' cap' (A - B) ∧ Below w.heap.size w w' := by
  subst hA hB hbb
  by_cases h : val ys ≤ val xs
  · rw [decide_eq_true h]
    exact sub_yes aa la ca xs ab lb cb ys w ha hb hla h
  · rw [decide_eq_false h]
    refine (sub_no aa la ca xs ab lb cb ys w ha hb (by omega)).mono ?_
    rintro e w' ⟨rfl, hbel⟩
    refine ⟨_, _, _, rfl, ?_, hbel⟩
    rw [Nat.sub_eq_zero_of_le (by omega)]
    exact numAt_nil _

#print axioms sub_no
#print axioms sub_yes
end Go.Proofs.Ytkhcanhdbalihaa
