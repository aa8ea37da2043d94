/-
  What long.addTimes does: b times x is added to a part of a row, in place; what is carried beyond it is told.
-/
import Derived.Test.YtkhcanhdbalihaaPart
namespace Go.Proofs.Ytkhcanhdbalihaa
open Go.RowKit Lb

set_option maxRecDepth 20000 in
set_option maxHeartbeats 1000000 in
theorem addTimes_any (base g N cap : Nat) (zs : List Nat) (o c' : Nat) (ab : Option Addr) (lb cb : Nat) (ys : List Nat) (x : Nat) (w : World)
    (hown0 : Own w base (.slice (some ⟨g, 0, none⟩) N cap) N zs) (hsm0 : Small zs) (hb : RowAt w ab lb cb ys) (hoff : Off g ab lb) (hfit : o + lb ≤ N) (hx : x < 4294967296) :
    Calls Try.prog 49 #[.slice (some ⟨g, o, none⟩) lb c', .slice ab lb cb, .int .u32 (x : Int)] w fun e w' => ∃ (c : Nat) (us : List Nat), e = .returned (.int .u32 (c : Int)) ∧ c < 4294967296 ∧ Own w' base (.slice (some ⟨g, 0, none⟩) N cap) N us ∧ Small us ∧ (∀ i, i < o ∨ o + lb ≤ i → lim us i = lim zs i) ∧ pre us (o + lb) + c * Bp (o + lb) = pre zs (o + lb) + x * val ys * Bp o ∧ Only g w w' := by
  go_enter Try.func49, Try.ntmps49
  have hm2 := hb.cap_max
  have hc2 := hb.cap_le
  unfold maxLen at hm2
  go_wp2_with fail
  go_loopw [7, 12] (fun v j wq => ∃ (m n : Nat) (us : List Nat), m ≤ lb ∧ j = .int .i64 m ∧ v = .int .u64 n ∧ n < 4294967296 ∧ Own wq base (.slice (some ⟨g, 0, none⟩) N cap) N us ∧ Small us ∧ pre us (o + m) + n * Bp (o + m) = pre zs (o + m) + x * pre ys m * Bp o ∧ (∀ i, i < o ∨ o + m ≤ i → lim us i = lim zs i) ∧ Only g w wq) (fun _ j _ => lb - (intOf j).toNat)
  case atStart => exact ⟨0, 0, zs, by omega, rfl, rfl, by omega, hown0, hsm0, by simp [pre_zero], fun _ _ => rfl, Only.refl _ _⟩
  case round =>
    obtain ⟨m, n, us, hm, rfl, rfl, hn, hown, hsm, hval, hsame, honly⟩ := hrel
    have HV := hide hval
    have HS := hide hsame
    clear hval hsame
    have ulen := hide hown.len
    by_cases hq : m < lb
    · obtain ⟨b1, o1, rfl, hb1, hcx⟩ := (hb.only hoff honly).cells (by omega)
      have cx := hcx m hq
      have cs := hown.cell (i := o + m) (by omega)
      have cf := hown.free (o + m)
      have hby := hb.small m
      have hbu := hsm (o + m)
      have hmul := mul_fits hx hby
      clear hcx
      go_wp2
      go_roundw
      case rel =>
        refine ⟨m + 1, (n + x * lim ys m + lim us (o + m)) / 4294967296, us.set (o + m) ((n + x * lim ys m + lim us (o + m)) % 4294967296), by omega, by go_num, by go_num, by omega, hown.set _ _ (by omega), small_set hsm (by omega), ?_, fun t ht => ?_, honly.setCell _ _⟩
        · rw [show o + (m + 1) = o + m + 1 by omega, pre_succ, pre_set_lt _ _ _ _ (Nat.le_refl _) (by rw [unhide ulen]; omega), lim_set _ _ _ _ (by rw [unhide ulen]; omega), if_pos rfl, Bp_succ, pre_succ, pre_succ, mul_step (Bp_add o m) (unhide HV), unhide HS (o + m) (Or.inr (Nat.le_refl _)), Nat.mul_add, Nat.add_mul]
          omega
        · rw [lim_set _ _ _ _ (by rw [unhide ulen]; omega), if_neg (by omega)]
          exact unhide HS t (by omega)
      case measure => simp [intOf]; omega
    · have hm1 : m = lb := by omega
      have hv : pre ys m = val ys := pre_len (by rw [hb.len_eq]; omega)
      have HW := hide hv
      clear hv
      go_wp2
      go_ret
      refine ⟨n, us, by simp, hn, hown, hsm, fun i hi => unhide HS i (by omega), ?_, honly⟩
      rw [← hm1, ← unhide HW]
      exact unhide HV

#print axioms addTimes_any
end Go.Proofs.Ytkhcanhdbalihaa
