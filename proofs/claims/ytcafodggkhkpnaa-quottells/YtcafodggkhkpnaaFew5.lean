/-
  What few of the fifth stage's statements tells: no row is longer than 20 limbs.
-/
import Derived.Test.YtcafodggkhkpnaaJD
namespace Go.Proofs.Ytcafodggkhkpnaa
open Go.RowKit Lb

/-- The limbs' slices of n Ints that lie one behind the other from a block's beginning on. -/
def IntsIn (w : World) (g n : Nat) (bs : Nat → Bool) (aos : Nat → Option Addr) (ls cs : Nat → Nat) : Prop :=
  ∀ i, i < n → w.cell? ⟨g, i * 2, none⟩ = some (.bool (bs i)) ∧ w.cell? ⟨g, i * 2 + 1, none⟩ = some (.slice (aos i) (ls i) (cs i))

set_option maxHeartbeats 1000000 in
theorem few5_any (g n : Nat) (bs : Nat → Bool) (aos : Nat → Option Addr) (ls cs : Nat → Nat) (w : World) (h : IntsIn w g n bs aos ls cs) (hn : n ≤ 1000) (hg : g < w.heap.size) (hls : ∀ i, i < n → ls i ≤ maxLen) :
    Calls Try.prog 8 #[.slice (some ⟨g, 0, none⟩) n n] w fun e w' => (∃ b, e = .returned (.bool b) ∧ (b = true ↔ ∀ i, i < n → ls i ≤ 20)) ∧ Below w.heap.size w w' := by
  go_enter Try.func8, Try.ntmps8
  go_wp2
  go_loopw [7] (fun t wr => ∃ k : Nat, k ≤ n ∧ t = .int .i64 (k : Int) ∧ (∀ i, i < k → ls i ≤ 20) ∧ Below w.heap.size w wr) (fun t _ => n - (intOf t).toNat)
  case atStart => exact ⟨0, by omega, rfl, fun i hi => absurd hi (by omega), Below.refl _ _⟩
  case round =>
    obtain ⟨k, hk, rfl, hall, hbel⟩ := hrel
    by_cases hlt : k < n
    · have c0 := (hbel.cell (p := ⟨g, k * 2, none⟩) hg).trans (h k hlt).1
      have c1 := (hbel.cell (p := ⟨g, k * 2 + 1, none⟩) hg).trans (h k hlt).2
      have hm := hls k hlt
      unfold maxLen at hm
      by_cases h20 : ls k ≤ 20
      · have h20' : ¬ (20 < (ls k : Int)) := by omega
        go_wp2
        go_roundw
        case rel =>
          refine ⟨k + 1, by omega, by go_num, fun i hi => ?_, hbel.alloc hbel.size _⟩
          by_cases e : i = k
          · subst e; exact h20
          · exact hall i (by omega)
        case measure => simp [intOf]; omega
      · have h20' : 20 < (ls k : Int) := by omega
        go_wp2
        go_ret
        exact ⟨⟨false, rfl, by simp; exact ⟨k, hlt, by omega⟩⟩, hbel.alloc hbel.size _⟩
    · go_wp2
      go_ret
      exact ⟨⟨true, rfl, by simp; exact fun i hi => hall i (by omega)⟩, hbel⟩

#print axioms few5_any
end Go.Proofs.Ytcafodggkhkpnaa
