/-
  What the reference's trim does: a new row without the noughts at its end.
-/
import Derived.Test.YtkhcanhdbalihaaRefRead
namespace Go.Proofs.Ytkhcanhdbalihaa
open Go.RowKit Lb

set_option maxHeartbeats 400000 in
theorem rtrim_new (ao : Option Addr) (len cap : Nat) (xs : List Nat) (w : World) (h : RowAt w ao len cap xs) (hlen : len ≤ 100000000) :
    Calls Try.prog 35 #[.slice ao len cap] w fun e w' => ∃ ao' len' cap', e = .returned (.slice ao' len' cap') ∧ NumAt w' ao' len' cap' (val xs) ∧ Below w.heap.size w w' ∧ New w.heap.size ao' len' := by
  have hcm := h.cap_max
  have hcl := h.cap_le
  have HL := hide h.len_eq
  unfold maxLen at hcm
  go_enter Try.func35, Try.ntmps35
  go_wp2
  go_loop [3] (fun i => ∃ k : Nat, k ≤ len ∧ i = .int .i64 k ∧ ∀ j, k ≤ j → j < len → lim xs j = 0) (fun i => (intOf i).toNat)
  case atStart => exact ⟨len, Nat.le_refl _, rfl, fun j h1 h2 => by omega⟩
  case round =>
    obtain ⟨k, hk, rfl, hz⟩ := hrel
    have HZ := hide hz
    clear hz
    by_cases hp : 0 < k ∧ lim xs (k - 1) = 0
    · obtain ⟨hp, hq⟩ := hp
      obtain ⟨b, off, rfl, hb, hc⟩ := h.cells (by omega)
      have hck := hc (k - 1) (by omega)
      have hb0 : ((lim xs (k - 1) : Int) == 0) = true := by simp [hq]
      have HQ := hide hq
      clear hc hq
      go_wp2
      go_round
      case rel =>
        refine ⟨k - 1, by omega, by go_num, fun j h1 h2 => ?_⟩
        by_cases c : j = k - 1
        · subst c; exact unhide HQ
        · exact unhide HZ j (by omega) h2
      case measure => simp [intOf]; omega
    · by_cases hk0 : 0 < k
      · obtain ⟨b, off, rfl, hb, hc⟩ := h.cells (by omega)
        have hck := hc (k - 1) (by omega)
        have hb0 : ((lim xs (k - 1) : Int) == 0) = false := by simp; omega
        clear hc
        go_wp2_with (at_builtin; refine append_row rfl _ _ rfl w.heap.size _ 0 [] rfl ?_ _ k cap (xs.take k) rfl ?_ (by omega) ?_ ?_)
        · exact own_empty (Nat.le_refl _)
        · exact (h.take hk).later ((Below.refl _ _).alloc (Nat.le_refl _) _)
        · intro v' w' hown hgrow
          go_wp2
          go_ret
          obtain ⟨ao', cap', rfl, hr⟩ := rowAt_owned hown (small_take h.small k)
          refine ⟨ao', k, cap', rfl, ⟨xs.take k, hr, norm_take (by rw [unhide HL]; exact hk) (fun _ => by omega), val_take (by rw [unhide HL]; exact hk) (fun i h1 h2 => unhide HZ i h1 (by rw [unhide HL] at h2; exact h2))⟩, ?_, own_new hown⟩
          exact ((Below.refl _ _).alloc (Nat.le_refl _) _).grown hgrow (by simp) (fun k hk => by simp [Value.ownBlock] at hk; omega)
      · have hp' : ¬ (0 : Int) < (k : Int) := by omega
        go_wp2_with (at_builtin; refine append_row rfl _ _ rfl w.heap.size _ 0 [] rfl ?_ _ k cap (xs.take k) rfl ?_ (by omega) ?_ ?_)
        · exact own_empty (Nat.le_refl _)
        · exact (h.take hk).later ((Below.refl _ _).alloc (Nat.le_refl _) _)
        · intro v' w' hown hgrow
          go_wp2
          go_ret
          obtain ⟨ao', cap', rfl, hr⟩ := rowAt_owned hown (small_take h.small k)
          refine ⟨ao', k, cap', rfl, ⟨xs.take k, hr, norm_take (by rw [unhide HL]; exact hk) (fun _ => by omega), val_take (by rw [unhide HL]; exact hk) (fun i h1 h2 => unhide HZ i h1 (by rw [unhide HL] at h2; exact h2))⟩, ?_, own_new hown⟩
          exact ((Below.refl _ _).alloc (Nat.le_refl _) _).grown hgrow (by simp) (fun k hk => by simp [Value.ownBlock] at hk; omega)

theorem rtrim_any (ao : Option Addr) (len cap : Nat) (xs : List Nat) (w : World) (h : RowAt w ao len cap xs) (hlen : len ≤ 100000000) :
    Calls Try.prog 35 #[.slice ao len cap] w fun e w' => ∃ ao' len' cap', e = .returned (.slice ao' len' cap') ∧ NumAt w' ao' len' cap' (val xs) ∧ Below w.heap.size w w' := by
  refine (rtrim_new ao len cap xs w h hlen).mono ?_
  rintro e w' ⟨a, l, c, h1, h2, h3, _⟩
  exact ⟨a, l, c, h1, h2, h3⟩
#print axioms rtrim_any
end Go.Proofs.Ytkhcanhdbalihaa
