/-
  What limb.Trim does: the row without the noughts at its end, in memory of its own.
-/
import Derived.Test.YtkhcanhdbalihaaCut
namespace Go.Proofs.Ytkhcanhdbalihaa
open Go.RowKit Lb

set_option maxHeartbeats 400000 in
theorem trim_any (ao : Option Addr) (len cap : Nat) (xs : List Nat) (w : World) (h : RowAt w ao len cap xs) (hlen : len ≤ 10000000) :
    Calls Try.prog 32 #[.slice ao len cap] w fun e w' => ∃ ao' len' cap', e = .returned (.slice ao' len' cap') ∧ NumAt w' ao' len' cap' (val xs) ∧ Below w.heap.size w w' := by
  go_enter Try.func32, Try.ntmps32
  go_wp2_with fail
  refine (cut_any _ _ _ xs _ h).mono ?_
  rintro e w' ⟨⟨a1, l1, c1, rfl, ⟨xs1, hx1, nx1, vx1⟩, hl1⟩, rfl⟩
  have Vx := hide vx1
  have hm1 := hx1.cap_max
  have hc1 := hx1.cap_le
  have L1 := hide hx1.len_eq
  unfold maxLen at hm1
  clear vx1
  by_cases hz : l1 = 0
  · have hz' : ((l1 : Int) == 0) = true := by simp [hz]
    go_wp2
    go_ret
    refine ⟨_, _, _, rfl, ?_, Below.refl _ _⟩
    rw [← unhide Vx, List.eq_nil_of_length_eq_zero (show xs1.length = 0 by rw [unhide L1, hz])]
    exact numAt_nil _
  · have hz' : ((l1 : Int) == 0) = false := by simp [hz]
    go_wp2_with (at_make; refine make_row rfl _ _ rfl w.heap.size .i64 .i64 _ _ l1 rfl rfl (by omega) (by omega) (by omega) (Nat.le_refl _) ?_)
    intro w1 hown1 hgrow1
    have hbel1 : Below w.heap.size w w1 := (Below.refl _ _).grown hgrow1 (Nat.le_refl _) (fun _ h => by simp at h)
    have hx2 := hx1.later hbel1
    go_wp2_with (refine copy_row rfl (.tmp 12) (.tmp 13) rfl w.heap.size w.heap.size l1 l1 _ xs1 rfl hown1 _ _ rfl hx2 (by omega) ?_)
    intro w2 hown2 hgrow2
    have hbel2 : Below w.heap.size w w2 := hbel1.grown hgrow2 hbel1.size (fun j hj => by simp at hj; omega)
    clear hown1 hgrow1 hgrow2 hbel1
    go_wp2
    go_ret
    exact ⟨_, _, _, rfl, ⟨xs1, rowAt_own hown2 hx1.small, nx1, unhide Vx⟩, hbel2⟩

#print axioms trim_any
end Go.Proofs.Ytkhcanhdbalihaa
