/-
  What whole.Form and the reference's Form tell.
-/
import Derived.Test.YtkhcanhdbalihaaInts
import Derived.Test.YtkhcanhdbalihaaVals0
namespace Go.Proofs.Ytkhcanhdbalihaa
open Go.RowKit Lb

set_option maxHeartbeats 1000000 in
theorem form_num (b : Bool) (aa : Option Addr) (la ca : Nat) (z : Int) (w : World) (ha : IntAt w b aa la ca z) (hla : la ≤ 1000000) :
    Calls Try.prog 15 #[.agg #[.bool b, .slice aa la ca]] w fun e w' => ∃ b' ao' len' cap', e = .returned (.agg #[.bool b', .slice ao' len' cap']) ∧ FormAt w' b' ao' len' cap' z ∧ Below w.heap.size w w' := by
  obtain ⟨N, hN, rfl⟩ := ha
  go_enter Try.func15, Try.ntmps15
  go_wp2
  go_region_held3 (fun w' => w'.cell? ⟨w.heap.size, 0, none⟩ = some (.bool b) ∧ w'.cell? ⟨w.heap.size, 1, none⟩ = some (.slice aa la ca)) (first | exact held1 hb2 (by omega) (by assumption) | exact held1 hb1 (by simp <;> omega) (by assumption) | exact held1_set (by omega) (by assumption) | go_keep) (first | (go_at_call 32; refine (trim_num _ _ _ N _ (hN.later (below2 _ _ _).drew) hla).mono ?_; rintro e w1 ⟨a1, l1, c1, rfl, h1, hb1⟩; obtain ⟨hc1, hf1⟩ := bcell hb1; have hz1 : w.heap.size + 1 < w1.heap.size := bmore hb1 (by simp); have hy1 : w.heap.size < w1.heap.size := by omega) | (go_at_call 31; refine (signed_num _ _ _ _ N _ h1).mono ?_; rintro e w2 ⟨b2, rfl, h2, hb2⟩; obtain ⟨hc2, hf2⟩ := bcell hb2; have hz2 : w.heap.size + 1 < w2.heap.size := bmore hb2 hz1; have hy2 : w.heap.size < w2.heap.size := by omega))
  have hW := Below.step (Below.step (below2 w _ _).drew hb1) hb2
  have hNL := ((noLimb2 w _ _ _ _ _ _).drew.later hb1 (by simp)).later hb2 hz1
  go_wp2
  refine bodyPost_ret (v := .agg #[.bool b2, .slice a1 l1 c1]) (by simp [results, Try.results15, go_sem, *]) rfl ⟨_, _, _, _, rfl, ?_⟩
  exact int_end hW (by simp) hNL h2 _ _

set_option maxHeartbeats 1000000 in
theorem rform_num (b : Bool) (aa : Option Addr) (la ca : Nat) (z : Int) (w : World) (ha : IntAt w b aa la ca z) (hla : la ≤ 1000000) :
    Calls Try.prog 12 #[.agg #[.bool b, .slice aa la ca]] w fun e w' => ∃ b' ao' len' cap', e = .returned (.agg #[.bool b', .slice ao' len' cap']) ∧ FormAt w' b' ao' len' cap' z ∧ Below w.heap.size w w' := by
  obtain ⟨N, hN, rfl⟩ := ha
  cases b
  all_goals
    go_enter Try.func12, Try.ntmps12
    go_wp2_with fail
    refine (rtrim_num _ _ _ N _ (hN.later (below2 _ _ _)) hla).mono ?_
    rintro e w1 ⟨a1, l1, c1, rfl, h1, hb1⟩
    obtain ⟨hc1, hf1⟩ := bcell hb1
    have hz1 : w.heap.size + 1 < w1.heap.size := bmore hb1 (by simp)
    have hy1 : w.heap.size < w1.heap.size := by omega
    have hW := Below.step (below2 w _ _) hb1
    have hNL := (noLimb2 w _ _ _ _ _ _).later hb1 (by simp)
    have hm : l1 ≤ maxLen := by
      obtain ⟨xs, hx, _⟩ := h1
      exact Nat.le_trans hx.cap_le hx.cap_max
    unfold maxLen at hm
    by_cases hz : N = 0
    · subst hz
      obtain rfl := h1.len_zero
      go_wp2
      refine bodyPost_ret (v := .agg #[.bool false, .slice a1 0 c1]) (by simp [results, Try.results12, go_sem, *]) rfl ⟨_, _, _, _, rfl, ?_⟩
      exact int_end hW (by simp) hNL (formAt_of h1 (by simp)) _ _
    · have hp := h1.len_pos (by omega)
      have hp' : (0 : Int) < (l1 : Int) := by omega
      have hA : 0 < N := by omega
      go_wp2
      refine bodyPost_ret (v := .agg #[.bool _, .slice a1 l1 c1]) (by simp [results, Try.results12, go_sem, *]; rfl) rfl ⟨_, _, _, _, rfl, ?_⟩
      exact int_end hW (by simp) hNL (formAt_of h1 (by simp [hA])) _ _

#print axioms form_num
#print axioms rform_num
end Go.Proofs.Ytkhcanhdbalihaa
