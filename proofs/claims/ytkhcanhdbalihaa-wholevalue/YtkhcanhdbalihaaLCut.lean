/-
  What long.cut does: it tells the row without the noughts at its end.
-/
import Derived.Test.YtkhcanhdbalihaaRow
import Derived.BigQuiet
import Derived.Deep.QuietTactic
namespace Go.Proofs.Ytkhcanhdbalihaa
open Go.RowKit Lb

set_option maxHeartbeats 400000 in
theorem lcut_same (ao : Option Addr) (len cap : Nat) (xs : List Nat) (w : World) (h : RowAt w ao len cap xs) :
    Calls Try.prog 48 #[.slice ao len cap] w fun e w' => (∃ ao' len' cap', e = .returned (.slice ao' len' cap') ∧ NumAt w ao' len' cap' (val xs) ∧ len' ≤ len ∧ (0 < len' → ao' = ao)) ∧ w = w' := by
  have hcm := h.cap_max
  have hcl := h.cap_le
  have hl := h.len_eq
  unfold maxLen at hcm
  go_enter Try.func48, Try.ntmps48
  go_wp2
  go_loop [3] (fun i => ∃ k : Nat, k ≤ len ∧ i = .int .i64 k ∧ ∀ j, k ≤ j → j < len → lim xs j = 0) (fun i => (intOf i).toNat)
  case atStart => exact ⟨len, Nat.le_refl _, rfl, fun j h1 h2 => by omega⟩
  case round =>
    obtain ⟨k, hk, rfl, hz⟩ := hrel
    by_cases hp : 0 < k
    · obtain ⟨b, off, rfl, hb, hc⟩ := h.cells (by omega)
      have hck := hc (k - 1) (by omega)
      have e1 : off + ((k : Int) - 1).toNat = off + (k - 1) := by omega
      clear e1
      have hsm := h.small
      have T := fun n hn => h.take (n := n) hn
      have HT := hide T
      have HL := hide hl
      clear T hl
      go_wp2
      · have hne : (lim xs (k - 1) : Int) ≠ 0 := by simpa using ‹((lim xs (k - 1) : Int) != 0) = true›
        go_ret
        exact ⟨⟨_, _, _, rfl, ⟨xs.take k, by simpa using unhide HT k hk, norm_take (by rw [unhide HL]; exact hk) (fun _ => by omega), val_take (by rw [unhide HL]; exact hk) (fun i h1 h2 => hz i h1 (by rw [unhide HL] at h2; exact h2))⟩, by simpa using hk, fun _ => rfl⟩, rfl⟩
      · have heq : (lim xs (k - 1) : Int) = 0 := by simpa using ‹((lim xs (k - 1) : Int) != 0) = false›
        go_round
        case rel =>
          refine ⟨k - 1, by omega, by go_num, fun j h1 h2 => ?_⟩
          by_cases c : j = k - 1
          · subst c; omega
          · exact hz j (by omega) h2
        case measure => simp [intOf]; omega
    · have hk0 : k = 0 := by omega
      have HL := hide hl
      clear hl
      go_wp2
      go_ret
      refine ⟨⟨_, _, _, rfl, ⟨[], rowAt_nil w, fun h => absurd h (by simp), ?_⟩, by omega, fun h => absurd h (by omega)⟩, rfl⟩
      rw [← val_take (xs := xs) (n := 0) (Nat.zero_le _) (fun i h1 h2 => hz i (by omega) (by rw [unhide HL] at h2; exact h2))]
      simp

theorem lcut_any (ao : Option Addr) (len cap : Nat) (xs : List Nat) (w : World) (h : RowAt w ao len cap xs) :
    Calls Try.prog 48 #[.slice ao len cap] w fun e w' => (∃ ao' len' cap', e = .returned (.slice ao' len' cap') ∧ NumAt w ao' len' cap' (val xs) ∧ len' ≤ len) ∧ w = w' := by
  refine (lcut_same ao len cap xs w h).mono ?_
  rintro e w' ⟨⟨a, l, c, h1, h2, h3, _⟩, h4⟩
  exact ⟨⟨a, l, c, h1, h2, h3⟩, h4⟩
#print axioms lcut_any
end Go.Proofs.Ytkhcanhdbalihaa
