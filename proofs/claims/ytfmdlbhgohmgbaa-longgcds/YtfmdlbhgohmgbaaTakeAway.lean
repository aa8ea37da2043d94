/-
  What long.takeAway does: b times x is taken from a part of a row, in place; true: it went round below 0.
-/
import Derived.Test.YtfmdlbhgohmgbaaPart
namespace Go.Proofs.Ytfmdlbhgohmgbaa
open Go.RowKit Lb

theorem take_step {U Z P n bo x y p c0 c1 r bo' b Y bk : Nat} (hb : b = bk * Y) (h : U + x * P * bk = Z + (n + bo) * b) (hc : n + x * y = c0 + c1 * 4294967296) (hd : r + c0 + bo = p + bo' * 4294967296) : U + r * b + x * (P + y * Y) * bk = Z + p * b + (c1 + bo') * (b * 4294967296) := by
  have e1 : (c1 + bo') * (b * 4294967296) = c1 * 4294967296 * b + bo' * 4294967296 * b := by
    rw [Nat.add_mul, Nat.mul_comm b, ← Nat.mul_assoc, ← Nat.mul_assoc]
  have e2 : x * (P + y * Y) * bk = x * P * bk + x * y * b := by
    rw [Nat.mul_add, Nat.add_mul, hb, ← Nat.mul_assoc x y, Nat.mul_assoc (x * y), Nat.mul_comm Y]
  have h1 : (n + x * y) * b = (c0 + c1 * 4294967296) * b := by rw [hc]
  have h2 : (r + c0 + bo) * b = (p + bo' * 4294967296) * b := by rw [hd]
  rw [Nat.add_mul] at h h1
  rw [Nat.add_mul] at h1 h2
  rw [Nat.add_mul, Nat.add_mul] at h2
  rw [e1, e2]
  omega

theorem sub_wrap {p c bo : Nat} (ci : Int) (hci : ci = (c : Int)) (hp : p < 4294967296) (hc : c < 4294967296) (hbo : bo ≤ 1) : ∃ r t : Nat, IntKind.u64.wrap (IntKind.u64.wrap ((p : Int) - ci) - (bo : Int)) / 9223372036854775808 = (t : Int) ∧ IntKind.u64.wrap (IntKind.u64.wrap ((p : Int) - ci) - (bo : Int)) % 4294967296 = (r : Int) ∧ t ≤ 1 ∧ r < 4294967296 ∧ r + c + bo = p + t * 4294967296 := by
  subst hci
  rw [IntKind.wrap_u64, IntKind.wrap_u64]
  rcases Nat.lt_or_ge p (c + bo) with h | h
  · exact ⟨p + 4294967296 - c - bo, 1, by omega, by omega, by omega, by omega, by omega⟩
  · exact ⟨p - c - bo, 0, by omega, by omega, by omega, by omega, by omega⟩

set_option maxRecDepth 20000 in
set_option maxHeartbeats 1000000 in
theorem takeAway_any (base g N cap : Nat) (zs : List Nat) (o c' : Nat) (ab : Option Addr) (lb cb : Nat) (ys : List Nat) (x : Nat) (w : World)
    (hown0 : Own w base (.slice (some ⟨g, 0, none⟩) N cap) N zs) (hsm0 : Small zs) (hb : RowAt w ab lb cb ys) (hoff : Off g ab lb) (hfit : o + lb + 1 ≤ N) (hx : x < 4294967296) :
    Calls Try.prog 43 #[.slice (some ⟨g, o, none⟩) (lb + 1) c', .slice ab lb cb, .int .u32 (x : Int)] w fun e w' => ∃ (c : Nat) (us : List Nat), e = .returned (.bool (decide (c = 1))) ∧ c ≤ 1 ∧ Own w' base (.slice (some ⟨g, 0, none⟩) N cap) N us ∧ Small us ∧ (∀ i, i < o ∨ o + lb + 1 ≤ i → lim us i = lim zs i) ∧ pre us (o + lb + 1) + x * val ys * Bp o = pre zs (o + lb + 1) + c * Bp (o + lb + 1) ∧ Only g w w' := by
  go_enter Try.func43, Try.ntmps43
  have hm2 := hb.cap_max
  have hc2 := hb.cap_le
  unfold maxLen at hm2
  go_wp2_with fail
  go_loopw [7, 8, 15] (fun v bv j wq => ∃ (m n bo : Nat) (us : List Nat), m ≤ lb ∧ j = .int .i64 m ∧ v = .int .u64 n ∧ bv = .int .u64 bo ∧ n < 4294967296 ∧ bo ≤ 1 ∧ Own wq base (.slice (some ⟨g, 0, none⟩) N cap) N us ∧ Small us ∧ pre us (o + m) + x * pre ys m * Bp o = pre zs (o + m) + (n + bo) * Bp (o + m) ∧ (∀ i, i < o ∨ o + m ≤ i → lim us i = lim zs i) ∧ Only g w wq) (fun _ _ j _ => lb - (intOf j).toNat)
  case atStart => exact ⟨0, 0, 0, zs, by omega, rfl, rfl, rfl, by omega, by omega, hown0, hsm0, by simp [pre_zero], fun _ _ => rfl, Only.refl _ _⟩
  case round =>
    obtain ⟨m, n, bo, us, hm, rfl, rfl, rfl, hn, hbo, hown, hsm, hval, hsame, honly⟩ := hrel
    have HV := hide hval
    have HS := hide hsame
    clear hval hsame
    have ulen := hide hown.len
    by_cases hq : m < lb
    · obtain ⟨b1, o1, rfl, hb1, hcx⟩ := (hb.only hoff honly).cells (by omega)
      have cx := hcx m hq
      have cs := hown.cell (i := o + m) (by omega)
      have cf := hown.free (o + m)
      have hby := hb.small m
      have hbu := hsm (o + m)
      have hmul := mul_fits hx hby
      clear hcx
      go_wp2
      go_roundw
      case rel =>
        obtain ⟨r, t, e1, e2, ht, hr, hrt⟩ := sub_wrap (p := lim us (o + m)) (c := (n + x * lim ys m) % 4294967296) (bo := bo) (((n : Int) + (x : Int) * (lim ys m : Int)) % 4294967296) (by simp) hbu (by omega) hbo
        rw [e1, e2]
        refine ⟨m + 1, (n + x * lim ys m) / 4294967296, t, us.set (o + m) r, by omega, by go_num, by simp, rfl, by omega, ht, hown.set _ _ rfl, small_set hsm hr, ?_, fun i hi => ?_, honly.setCell _ _⟩
        · rw [show o + (m + 1) = o + m + 1 by omega, pre_succ, pre_set_lt _ _ _ _ (Nat.le_refl _) (by rw [unhide ulen]; omega), lim_set _ _ _ _ (by rw [unhide ulen]; omega), if_pos rfl, Bp_succ, pre_succ, pre_succ, ← unhide HS (o + m) (Or.inr (Nat.le_refl _))]
          exact take_step (Bp_add o m) (unhide HV) (by omega) hrt
        · rw [lim_set _ _ _ _ (by rw [unhide ulen]; omega), if_neg (by omega)]
          exact unhide HS i (by omega)
      case measure => simp [intOf]; omega
    · have hm1 : m = lb := by omega
      have cs := hown.cell (i := o + lb) (by omega)
      have cf := hown.free (o + lb)
      have hbu := hsm (o + lb)
      have hv : pre ys m = val ys := pre_len (by rw [hb.len_eq]; omega)
      have HW := hide hv
      clear hv
      obtain ⟨r, t, e1, e2, ht, hr, hrt⟩ := sub_wrap (p := lim us (o + lb)) (c := n) (bo := bo) (n : Int) rfl hbu hn hbo
      go_wp2
      go_ret
      refine ⟨t, us.set (o + lb) r, ?_, ht, hown.set _ _ rfl, small_set hsm hr, fun i hi => ?_, ?_, honly.setCell _ _⟩
      · rcases (show t = 0 ∨ t = 1 by omega) with e | e <;> simp [e]
      · rw [lim_set _ _ _ _ (by rw [unhide ulen]; omega), if_neg (by omega)]
        exact unhide HS i (by omega)
      · have h1 := unhide HV
        rw [hm1] at h1
        rw [pre_succ, pre_set_lt _ _ _ _ (Nat.le_refl _) (by rw [unhide ulen]; omega), lim_set _ _ _ _ (by rw [unhide ulen]; omega), if_pos rfl, Bp_succ, pre_succ, ← unhide HS (o + lb) (Or.inr (by omega)), ← unhide HW, hm1]
        have h2 := take_step (x := x) (y := 0) (c1 := 0) (c0 := n) (Y := Bp lb) (Bp_add o lb) h1 (by omega) hrt
        rw [Nat.zero_mul, Nat.add_zero, Nat.zero_add] at h2
        exact h2

#print axioms takeAway_any
end Go.Proofs.Ytfmdlbhgohmgbaa
