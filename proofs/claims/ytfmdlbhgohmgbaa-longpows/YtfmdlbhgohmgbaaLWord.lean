/-
  What long.word and long.row do: a row of at most two limbs as one number of the machine, and back.
-/
import Derived.Test.YtfmdlbhgohmgbaaLCut
import Derived.Test.YtfmdlbhgohmgbaaRowIn
namespace Go.Proofs.Ytfmdlbhgohmgbaa
open Go.RowKit Lb

theorem or_next {a x k : Nat} (ha : a < Bp k) (hk : k ≤ 1) (hx : x < 4294967296) : bits .or .u64 (a : Int) (IntKind.u64.wrap ((x : Int) * 2 ^ (32 * k))) = ((a + x * Bp k : Nat) : Int) := by
  have hp : Bp k ≤ 4294967296 := by have := Bp_le hk; rwa [Bp_one] at this
  have h1 : x * Bp k ≤ 4294967295 * 4294967296 := Nat.mul_le_mul (by omega) hp
  have e : IntKind.u64.wrap ((x : Int) * 2 ^ (32 * k)) = ((x * Bp k : Nat) : Int) := by
    rw [show ((x : Int) * 2 ^ (32 * k)) = ((x * Bp k : Nat) : Int) by rw [Bp_two]; simp, IntKind.wrap_u64]
    omega
  rw [e, u64_or_nat _ _ (by omega) (by omega)]
  congr 1
  rw [Bp_two] at ha ⊢
  have := Nat.shiftLeft_add_eq_or_of_lt (b := a) (i := 32 * k) ha x
  rw [Nat.shiftLeft_eq] at this
  rw [Nat.or_comm, Nat.add_comm]
  exact this.symm

set_option maxHeartbeats 400000 in
theorem word_any (ao : Option Addr) (len cap : Nat) (xs : List Nat) (w : World) (h : RowAt w ao len cap xs) (hlen : len ≤ 2) :
    Calls Try.prog 22 #[.slice ao len cap] w fun e w' => e = .returned (.int .u64 (val xs : Int)) ∧ w = w' := by
  go_enter Try.func22, Try.ntmps22
  go_wp2
  go_loop [3, 8] (fun v i => ∃ k : Nat, k ≤ len ∧ i = .int .i64 k ∧ v = .int .u64 (pre xs k : Int)) (fun _ i => len - (intOf i).toNat)
  case atStart => exact ⟨0, by omega, rfl, rfl⟩
  case round =>
    obtain ⟨k, hk, rfl, rfl⟩ := hrel
    have hp := pre_lt h.small k
    by_cases hlt : k < len
    · obtain ⟨b, off, rfl, hb, hc⟩ := h.cells (by omega)
      have hck := hc k hlt
      have hx := h.small k
      have hor := hide (or_next hp (by omega) hx)
      have HL := hide h.len_eq
      clear hp hc h
      go_wp2
      go_round
      case rel => exact ⟨k + 1, by omega, by go_num, by rw [show k * 32 = 32 * k by omega, unhide hor, pre_succ]⟩
      case measure => simp [intOf]; omega
    · have hk0 : k = len := by omega
      have hv : pre xs len = val xs := pre_len (by rw [h.len_eq]; omega)
      have HV := hide hv
      clear hp hv h
      subst hk0
      go_wp2
      go_ret
      rw [unhide HV]
      exact ⟨rfl, rfl⟩

theorem row_any (x : Nat) (w : World) (hx : x < 18446744073709551616) :
    Calls Try.prog 23 #[.int .u64 (x : Int)] w fun e w' => ∃ ao' len' cap', e = .returned (.slice ao' len' cap') ∧ NumAt w' ao' len' cap' x ∧ Below w.heap.size w w' := by
  go_enter Try.func23, Try.ntmps23
  go_wp2_with fail
  have h2 := rowAt_two (w := w) (e := (x : Int) % 4294967296) (f := (x : Int) / 4294967296) (x % 4294967296) (x / 4294967296) (by omega) (by omega) (by omega) (by omega)
  refine (lcut_any _ _ _ _ _ h2).mono ?_
  rintro e w' ⟨⟨a1, l1, c1, rfl, hn1, hl1⟩, rfl⟩
  rw [val_two, show x % 4294967296 + x / 4294967296 * 4294967296 = x by omega] at hn1
  go_wp2
  go_ret
  exact ⟨_, _, _, rfl, hn1, (Below.refl _ _).alloc (Nat.le_refl _) _⟩

#print axioms word_any
#print axioms row_any
end Go.Proofs.Ytfmdlbhgohmgbaa
