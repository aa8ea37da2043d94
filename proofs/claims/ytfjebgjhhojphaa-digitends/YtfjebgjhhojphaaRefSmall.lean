/-
  What the reference's two, short, bit and PowL do.
-/
import Derived.Test.YtfjebgjhhojphaaRefTrim
import Derived.Test.YtfjebgjhhojphaaNum2
namespace Go.Proofs.Ytfjebgjhhojphaa
open Go.RowKit Lb

theorem rowAt_pair {w : World} {e f : Int} (a b : Nat) (he : e = (a : Int)) (hf : f = (b : Int)) (ha : a < 4294967296) (hb : b < 4294967296) : RowAt (w.alloc (.cells #[.int .u32 e, .int .u32 f] 36)) (some ⟨w.heap.size, 0, none⟩) 2 2 [a, b] := by
  subst he hf
  refine ⟨rfl, Nat.le_refl _, by unfold maxLen; omega, fun h => by simp at h, small_of_mem (by simp [ha, hb]), fun _ => ⟨_, _, rfl, by simp, fun i hi => ?_⟩⟩
  rcases (show i = 0 ∨ i = 1 by omega) with rfl | rfl <;> simp [lim]
theorem val_pair (a b : Nat) : val [a, b] = a + b * 4294967296 := by simp [val, pre, lim, Bp]

theorem rtwo_new (x : Nat) (w : World) (hx : x < 18446744073709551616) :
    Calls Try.prog 29 #[.int .u64 (x : Int)] w fun e w' => ∃ ao' len' cap', e = .returned (.slice ao' len' cap') ∧ NumAt w' ao' len' cap' x ∧ Below w.heap.size w w' := by
  go_enter Try.func29, Try.ntmps29
  go_wp2_with fail
  have r : RowAt _ _ 2 2 [x % 4294967296, x / 4294967296] := rowAt_pair (w := w) (e := bits BinOp.and IntKind.u64 (x : Int) 4294967295 % 4294967296) (f := (x : Int) / 4294967296) (x % 4294967296) (x / 4294967296) (by rw [and_low32 _ (by omega) (by omega)]; omega) (by omega) (by omega) (by omega)
  refine (rtrim_any _ _ _ _ _ r (by omega)).mono ?_
  rintro e w1 ⟨a1, l1, c1, rfl, hnum, hbel⟩
  rw [val_pair, show x % 4294967296 + x / 4294967296 * 4294967296 = x by omega] at hnum
  clear r
  go_wp2
  go_ret
  exact ⟨_, _, _, rfl, hnum, ((Below.refl _ _).alloc (Nat.le_refl _) _).trans (hbel.mono (by simp))⟩

theorem ret_ib {k : IntKind} {a b : Int} {c : Bool} (h : a = b) : Ending.returned (.tuple #[.int k a, .bool c]) = .returned (.tuple #[.int k b, .bool c]) := by rw [h]

theorem pre_two (xs : List Nat) : pre xs 2 = lim xs 0 + lim xs 1 * 4294967296 := by
  have h1 := pre_succ xs 1
  have h2 := pre_succ xs 0
  rw [h2, pre_zero, Bp_zero, Bp_one, Nat.zero_add, Nat.mul_one] at h1
  exact h1
theorem short_val {w : World} {ao : Option Addr} {l c : Nat} {xs : List Nat} (h : NumAt w ao l c (val xs)) (hl : l ≤ 2) : val xs = lim xs 0 + lim xs 1 * 4294967296 := by
  obtain ⟨zs, hz, nz, vz⟩ := h
  have h3 := val_lt hz.small
  rw [hz.len_eq, vz] at h3
  rw [val_first (Nat.lt_of_lt_of_le h3 (Bp_le hl)), pre_two]

theorem short_cast (a b : Nat) : (a : Int) + (b : Int) * 4294967296 = ((a + b * 4294967296 : Nat) : Int) := by omega

theorem rshort_any (ao : Option Addr) (len cap : Nat) (xs : List Nat) (w : World) (h : RowAt w ao len cap xs) (hlen : len ≤ 10000000) :
    Calls Try.prog 28 #[.slice ao len cap] w fun e w' => ∃ b : Bool, e = .returned (.tuple #[.int .u64 ((lim xs 0 + lim xs 1 * 4294967296 : Nat) : Int), .bool b]) ∧ (b = true → val xs = lim xs 0 + lim xs 1 * 4294967296) ∧ Below w.heap.size w w' := by
  have h0 := h.small 0
  have h1 := h.small 1
  go_enter Try.func28, Try.ntmps28
  go_wp2_with fail
  refine (rlimb_any _ _ _ xs _ 0 _ h rfl).mono ?_
  rintro e w' ⟨rfl, rfl⟩
  go_wp2_with fail
  refine (rlimb_any _ _ _ xs _ 1 _ h rfl).mono ?_
  rintro e w' ⟨rfl, rfl⟩
  go_wp2_with fail
  refine (rtrim_any _ _ _ xs _ h (by omega)).mono ?_
  rintro e w1 ⟨a1, l1, c1, rfl, hnum, hbel⟩
  have hv := short_val hnum
  have HV := hide hv
  clear hv hnum
  go_wp2
  go_ret2
  refine ⟨decide ((l1 : Int) ≤ 2), ?_, fun h => unhide HV (by simp at h; omega), hbel⟩
  exact ret_ib (short_cast _ _)

theorem rbit_any (ao : Option Addr) (len cap : Nat) (xs : List Nat) (i : Int) (k : Nat) (w : World) (h : RowAt w ao len cap xs) (hi : i = (k : Int)) (hk : k < 32 * len) (hlen : len ≤ 10000000) :
    Calls Try.prog 30 #[.slice ao len cap, .int .i64 i] w fun e w' => e = .returned (.int .u32 ((val xs / 2 ^ k % 2 : Nat) : Int)) ∧ w = w' := by
  subst hi
  obtain ⟨b, off, rfl, hb, hc⟩ := h.cells (by omega)
  have hck := hc (k / 32) (by omega)
  have hbx := h.small (k / 32)
  clear hc
  go_enter Try.func30, Try.ntmps30
  have hd : lim xs (k / 32) / 2 ^ (k % 32) < 4294967296 := Nat.lt_of_le_of_lt (Nat.div_le_self _ _) hbx
  go_wp2
  go_ret
  refine ⟨ret_int ?_, rfl⟩
  have e := bit_val h.small (q := k / 32) (r := k % 32) (by omega)
  rw [show 32 * (k / 32) + k % 32 = k by omega] at e
  rw [e, show ((lim xs (k / 32) : Int) / 2 ^ (k % 32)) = ((lim xs (k / 32) / 2 ^ (k % 32) : Nat) : Int) by simp, show (1 : Int) = ((1 : Nat) : Int) from rfl, u32_and_nat _ _ (by omega) (by omega), Nat.and_one_is_mod]

end Go.Proofs.Ytfjebgjhhojphaa
