/-
  What whole.Neg, whole.Abs, whole.Sign and their likes of the reference tell (IN PARTS).
-/
import Derived.Test.YtkhcanhdbalihaaWForm
namespace Go.Proofs.Ytkhcanhdbalihaa
open Go.RowKit Lb

theorem IntAt.abs {w : World} {b : Bool} {ao : Option Addr} {len cap : Nat} {z : Int} (h : IntAt w b ao len cap z) : IntAt w false ao len cap (z.natAbs : Int) := ⟨_, h.val, rfl⟩
theorem sign_of (b : Bool) {N : Nat} (h : 0 < N) : (sgnd b N).sign = if b then -1 else 1 := by
  cases b
  · exact Int.sign_eq_one_of_pos (by rw [sgnd_false]; omega)
  · exact Int.sign_eq_neg_one_of_neg (by rw [sgnd_true]; omega)
theorem sign_bd (z : Int) : -1 ≤ z.sign ∧ z.sign ≤ 1 := by
  rcases Int.lt_trichotomy z 0 with h | h | h
  · rw [Int.sign_eq_neg_one_of_neg h]; omega
  · subst h; decide
  · rw [Int.sign_eq_one_of_pos h]; omega

set_option maxHeartbeats 1000000 in
theorem neg_num (b : Bool) (aa : Option Addr) (la ca : Nat) (z : Int) (w : World) (ha : IntAt w b aa la ca z) (hla : la ≤ 1000000) :
    Calls Try.prog 18 #[.agg #[.bool b, .slice aa la ca]] w fun e w' => ∃ b' ao' len' cap', e = .returned (.agg #[.bool b', .slice ao' len' cap']) ∧ FormAt w' b' ao' len' cap' (-z) ∧ Below w.heap.size w w' := by
  go_enter Try.func18, Try.ntmps18
  go_wp2_with fail
  refine (form_num _ _ _ _ (-z) _ (ha.not.later (below2 _ _ _)) hla).mono ?_
  rintro e w1 ⟨b1, a1, l1, c1, rfl, h1, hb1⟩
  obtain ⟨hc1, hf1⟩ := bcell hb1
  have hz1 : w.heap.size + 1 < w1.heap.size := bmore hb1 (by simp)
  have hy1 : w.heap.size < w1.heap.size := by omega
  have hW := Below.step (below2 w _ _) hb1
  have hNL : NoLimb w1 (w.heap.size + 1) := NoLimb.later (noLimb2 w _ _ _ _ _ _) hb1 (by simp)
  go_wp2
  refine bodyPost_ret (v := .agg #[.bool b1, .slice a1 l1 c1]) (by simp [results, Try.results18, go_sem, *]) rfl ⟨_, _, _, _, rfl, ?_⟩
  exact int_end hW (by simp) hNL h1 _ _
set_option maxHeartbeats 1000000 in
theorem rneg_num (b : Bool) (aa : Option Addr) (la ca : Nat) (z : Int) (w : World) (ha : IntAt w b aa la ca z) (hla : la ≤ 1000000) :
    Calls Try.prog 19 #[.agg #[.bool b, .slice aa la ca]] w fun e w' => ∃ b' ao' len' cap', e = .returned (.agg #[.bool b', .slice ao' len' cap']) ∧ FormAt w' b' ao' len' cap' (-z) ∧ Below w.heap.size w w' := by
  go_enter Try.func19, Try.ntmps19
  go_wp2_with fail
  refine (rform_num _ _ _ _ (-z) _ (ha.not.later (below2 _ _ _)) hla).mono ?_
  rintro e w1 ⟨b1, a1, l1, c1, rfl, h1, hb1⟩
  obtain ⟨hc1, hf1⟩ := bcell hb1
  have hz1 : w.heap.size + 1 < w1.heap.size := bmore hb1 (by simp)
  have hy1 : w.heap.size < w1.heap.size := by omega
  have hW := Below.step (below2 w _ _) hb1
  have hNL : NoLimb w1 (w.heap.size + 1) := NoLimb.later (noLimb2 w _ _ _ _ _ _) hb1 (by simp)
  go_wp2
  refine bodyPost_ret (v := .agg #[.bool b1, .slice a1 l1 c1]) (by simp [results, Try.results19, go_sem, *]) rfl ⟨_, _, _, _, rfl, ?_⟩
  exact int_end hW (by simp) hNL h1 _ _
set_option maxHeartbeats 1000000 in
theorem abs_num (b : Bool) (aa : Option Addr) (la ca : Nat) (z : Int) (w : World) (ha : IntAt w b aa la ca z) (hla : la ≤ 1000000) :
    Calls Try.prog 20 #[.agg #[.bool b, .slice aa la ca]] w fun e w' => ∃ b' ao' len' cap', e = .returned (.agg #[.bool b', .slice ao' len' cap']) ∧ FormAt w' b' ao' len' cap' (z.natAbs : Int) ∧ Below w.heap.size w w' := by
  go_enter Try.func20, Try.ntmps20
  go_wp2_with fail
  refine (form_num _ _ _ _ (z.natAbs : Int) _ (ha.abs.later (below2 _ _ _)) hla).mono ?_
  rintro e w1 ⟨b1, a1, l1, c1, rfl, h1, hb1⟩
  obtain ⟨hc1, hf1⟩ := bcell hb1
  have hz1 : w.heap.size + 1 < w1.heap.size := bmore hb1 (by simp)
  have hy1 : w.heap.size < w1.heap.size := by omega
  have hW := Below.step (below2 w _ _) hb1
  have hNL : NoLimb w1 (w.heap.size + 1) := NoLimb.later (noLimb2 w _ _ _ _ _ _) hb1 (by simp)
  go_wp2
  refine bodyPost_ret (v := .agg #[.bool b1, .slice a1 l1 c1]) (by simp [results, Try.results20, go_sem, *]) rfl ⟨_, _, _, _, rfl, ?_⟩
  exact int_end hW (by simp) hNL h1 _ _
set_option maxHeartbeats 1000000 in
theorem rabs_num (b : Bool) (aa : Option Addr) (la ca : Nat) (z : Int) (w : World) (ha : IntAt w b aa la ca z) (hla : la ≤ 1000000) :
    Calls Try.prog 21 #[.agg #[.bool b, .slice aa la ca]] w fun e w' => ∃ b' ao' len' cap', e = .returned (.agg #[.bool b', .slice ao' len' cap']) ∧ FormAt w' b' ao' len' cap' (z.natAbs : Int) ∧ Below w.heap.size w w' := by
  go_enter Try.func21, Try.ntmps21
  go_wp2_with fail
  refine (rform_num _ _ _ _ (z.natAbs : Int) _ (ha.abs.later (below2 _ _ _)) hla).mono ?_
  rintro e w1 ⟨b1, a1, l1, c1, rfl, h1, hb1⟩
  obtain ⟨hc1, hf1⟩ := bcell hb1
  have hz1 : w.heap.size + 1 < w1.heap.size := bmore hb1 (by simp)
  have hy1 : w.heap.size < w1.heap.size := by omega
  have hW := Below.step (below2 w _ _) hb1
  have hNL : NoLimb w1 (w.heap.size + 1) := NoLimb.later (noLimb2 w _ _ _ _ _ _) hb1 (by simp)
  go_wp2
  refine bodyPost_ret (v := .agg #[.bool b1, .slice a1 l1 c1]) (by simp [results, Try.results21, go_sem, *]) rfl ⟨_, _, _, _, rfl, ?_⟩
  exact int_end hW (by simp) hNL h1 _ _
set_option maxHeartbeats 1000000 in
theorem sign_num (b : Bool) (aa : Option Addr) (la ca : Nat) (z : Int) (w : World) (ha : IntAt w b aa la ca z) (hla : la ≤ 1000000) :
    Calls Try.prog 16 #[.agg #[.bool b, .slice aa la ca]] w fun e w' => e = .returned (.int .i64 z.sign) ∧ Below w.heap.size w w' := by
  obtain ⟨N, hN, rfl⟩ := ha
  have hbox : Below w.heap.size w (w.alloc (.cells #[.bool b, .slice aa la ca] 24)) := (Below.refl _ _).alloc (Nat.le_refl _) _
  by_cases hz : N = 0
  · subst hz
    rw [sgnd_zero]
    go_enter Try.func16, Try.ntmps16
    go_wp2_with fail
    refine (bits_num _ _ _ 0 _ (hN.later hbox) hla).mono ?_
    rintro e w1 ⟨n, rfl, hn, rfl⟩
    have hn0 := isBits_inj hn (Or.inl ⟨rfl, rfl⟩)
    subst hn0
    go_wp2
    go_ret
    exact ⟨rfl, hbox⟩
  · rw [sign_of b (by omega)]
    cases b
    all_goals
      go_enter Try.func16, Try.ntmps16
      go_wp2_with fail
      refine (bits_num _ _ _ N _ (hN.later hbox) hla).mono ?_
      rintro e w1 ⟨n, rfl, hn, rfl⟩
      have hn0 : ((n : Int) == 0) = false := by
        rcases hn with ⟨h, _⟩ | ⟨h1, _⟩
        · exact absurd h hz
        · rw [beq_eq_false_iff_ne]; omega
      go_wp2
      go_ret
      exact ⟨rfl, hbox⟩
set_option maxHeartbeats 1000000 in
theorem rsign_num (b : Bool) (aa : Option Addr) (la ca : Nat) (z : Int) (w : World) (ha : IntAt w b aa la ca z) (hla : la ≤ 1000000) :
    Calls Try.prog 17 #[.agg #[.bool b, .slice aa la ca]] w fun e w' => e = .returned (.int .i64 z.sign) ∧ Below w.heap.size w w' := by
  have hbox : Below w.heap.size w (w.alloc (.cells #[.bool b, .slice aa la ca] 24)) := (Below.refl _ _).alloc (Nat.le_refl _) _
  rcases Int.lt_trichotomy z 0 with h | h | h
  · rw [Int.sign_eq_neg_one_of_neg h]
    go_enter Try.func17, Try.ntmps17
    go_wp2_with fail
    refine (rform_num _ _ _ _ z _ (ha.later hbox) hla).mono ?_
    rintro e w1 ⟨b1, a1, l1, c1, rfl, h1, hb1⟩
    have hb : b1 = true := by rw [h1.2]; exact decide_eq_true h
    have hl := h1.1.len_pos (by omega)
    have hl' : ((l1 : Int) == 0) = false := by rw [beq_eq_false_iff_ne]; omega
    have hW := Below.step hbox hb1
    clear h1
    subst hb
    go_wp2
    go_ret
    exact ⟨rfl, hW.alloc hW.size _⟩
  · subst h
    go_enter Try.func17, Try.ntmps17
    go_wp2_with fail
    refine (rform_num _ _ _ _ 0 _ (ha.later hbox) hla).mono ?_
    rintro e w1 ⟨b1, a1, l1, c1, rfl, h1, hb1⟩
    obtain rfl := NumAt.len_zero h1.1
    have hW := Below.step hbox hb1
    clear h1
    go_wp2
    go_ret
    exact ⟨rfl, hW.alloc hW.size _⟩
  · rw [Int.sign_eq_one_of_pos h]
    go_enter Try.func17, Try.ntmps17
    go_wp2_with fail
    refine (rform_num _ _ _ _ z _ (ha.later hbox) hla).mono ?_
    rintro e w1 ⟨b1, a1, l1, c1, rfl, h1, hb1⟩
    have hb : b1 = false := by rw [h1.2]; exact decide_eq_false (by omega)
    have hl := h1.1.len_pos (by omega)
    have hl' : ((l1 : Int) == 0) = false := by rw [beq_eq_false_iff_ne]; omega
    have hW := Below.step hbox hb1
    clear h1
    subst hb
    go_wp2
    go_ret
    exact ⟨rfl, hW.alloc hW.size _⟩

#print axioms neg_num
#print axioms rneg_num
#print axioms abs_num
#print axioms rabs_num
#print axioms sign_num
#print axioms rsign_num
end Go.Proofs.Ytkhcanhdbalihaa
