/-
  What whole.Of and the reference's Of tell (IN PARTS).
-/
import Derived.Test.YtkhcanhdbalihaaWForm
namespace Go.Proofs.Ytkhcanhdbalihaa
open Go.RowKit Lb

theorem two_val {W : World} {g N : Nat} (hN : N < 18446744073709551616) (h0 : W.cell? ⟨g, 0, none⟩ = some (.int .u32 ((N : Int) % 4294967296))) (h1 : W.cell? ⟨g, 0 + 1, none⟩ = some (.int .u32 ((N : Int) / 4294967296))) (_hg : True) (hlt : g < W.heap.size) : ValAt W (some ⟨g, 0, none⟩) 2 2 N := by
  refine ⟨[N % 4294967296, N / 4294967296], ⟨rfl, Nat.le_refl _, by unfold maxLen; decide, fun h => by simp at h, small_of_mem (by intro x hx; simp at hx; rcases hx with rfl | rfl <;> omega), fun _ => ⟨g, 0, rfl, hlt, fun i hi => ?_⟩⟩, ?_⟩
  · match i with
    | 0 => rw [Nat.zero_add, h0]; simp [lim]
    | 1 => rw [h1]; simp [lim]
  · simp [Lb.val, pre, lim, Bp]; omega

set_option maxHeartbeats 1000000 in
theorem of_num (n : Int) (w : World) (h1 : -9223372036854775808 ≤ n) (h2 : n ≤ 9223372036854775807) :
    Calls Try.prog 10 #[.int .i64 n] w fun e w' => ∃ b' ao' len' cap', e = .returned (.agg #[.bool b', .slice ao' len' cap']) ∧ FormAt w' b' ao' len' cap' n ∧ Below w.heap.size w w' := by
  obtain ⟨N, hNn⟩ : ∃ N : Nat, N = n.natAbs := ⟨_, rfl⟩
  have hN64 : N < 18446744073709551616 := by omega
  have hA32 : bits BinOp.and IntKind.u64 (N : Int) 4294967295 % 4294967296 = (N : Int) % 4294967296 := by rw [and_low32 _ (by omega) (by omega)]; omega
  by_cases hn : n < 0
  · have hS : IntKind.u64.wrap (-IntKind.u64.wrap n) = (N : Int) := by rw [IntKind.wrap_u64, IntKind.wrap_u64]; omega
    have e0 : n = sgnd true N := by rw [sgnd_true]; omega
    have E0 := hide e0
    have H1 := hide hNn
    clear e0 hNn
    go_enter Try.func10, Try.ntmps10
    go_wp2_with fail
    refine (trim_num _ _ _ N _ (two_val hN64 (by simp) (by simp) (by simp) (by simp <;> omega)) (by omega)).mono ?_
    rintro e w1 ⟨a1, l1, c1, rfl, g1, hb1⟩
    have hz1 : w.heap.size + 1 < w1.heap.size := bmore hb1 (by simp)
    have hy1 : w.heap.size < w1.heap.size := by omega
    have hNL := (noLimb_new w false none 0 0 24).alloc (by simp) (.cells #[.int .u32 ((N : Int) % 4294967296), .int .u32 ((N : Int) / 4294967296)] 31)
    have hNL1 := hNL.later hb1 (by simp <;> omega)
    have hW := Below.step (below2 w _ _) hb1
    clear hNL
    go_wp2_with fail
    refine (signed_num _ _ _ _ N _ g1).mono ?_
    rintro e w2 ⟨b2, rfl, g2, hb2⟩
    obtain ⟨q1, q2, q3, q4⟩ := ((((box_new w false none 0 0 rfl).alloc _).later hb1).later hb2).facts
    have hz2 : w.heap.size + 1 < w2.heap.size := bmore hb2 hz1
    have hy2 : w.heap.size < w2.heap.size := by omega
    have hNL2 := hNL1.later hb2 hy1
    have hW2 := Below.step hW hb2
    rw [← unhide E0] at g2
    go_wp2
    refine bodyPost_ret (v := .agg #[.bool b2, .slice a1 l1 c1]) (by simp [results, Try.results10, go_sem, *]) rfl ⟨_, _, _, _, rfl, ?_⟩
    exact int_end hW2 (Nat.le_refl _) hNL2 g2 _ _
  · have hS : IntKind.u64.wrap n = (N : Int) := by rw [IntKind.wrap_u64]; omega
    have e0 : n = sgnd false N := by rw [sgnd_false]; omega
    have E0 := hide e0
    have H1 := hide hNn
    clear e0 hNn
    go_enter Try.func10, Try.ntmps10
    go_wp2_with fail
    refine (trim_num _ _ _ N _ (two_val hN64 (by simp) (by simp) (by simp) (by simp <;> omega)) (by omega)).mono ?_
    rintro e w1 ⟨a1, l1, c1, rfl, g1, hb1⟩
    have hz1 : w.heap.size + 1 < w1.heap.size := bmore hb1 (by simp)
    have hy1 : w.heap.size < w1.heap.size := by omega
    have hNL := (noLimb_new w false none 0 0 24).alloc (by simp) (.cells #[.int .u32 ((N : Int) % 4294967296), .int .u32 ((N : Int) / 4294967296)] 31)
    have hNL1 := hNL.later hb1 (by simp <;> omega)
    have hW := Below.step (below2 w _ _) hb1
    clear hNL
    go_wp2_with fail
    refine (signed_num _ _ _ _ N _ g1).mono ?_
    rintro e w2 ⟨b2, rfl, g2, hb2⟩
    obtain ⟨q1, q2, q3, q4⟩ := ((((box_new w false none 0 0 rfl).alloc _).later hb1).later hb2).facts
    have hz2 : w.heap.size + 1 < w2.heap.size := bmore hb2 hz1
    have hy2 : w.heap.size < w2.heap.size := by omega
    have hNL2 := hNL1.later hb2 hy1
    have hW2 := Below.step hW hb2
    rw [← unhide E0] at g2
    go_wp2
    refine bodyPost_ret (v := .agg #[.bool b2, .slice a1 l1 c1]) (by simp [results, Try.results10, go_sem, *]) rfl ⟨_, _, _, _, rfl, ?_⟩
    exact int_end hW2 (Nat.le_refl _) hNL2 g2 _ _

set_option maxHeartbeats 1000000 in
theorem rof_num (n : Int) (w : World) (h1 : -9223372036854775808 ≤ n) (h2 : n ≤ 9223372036854775807) :
    Calls Try.prog 14 #[.int .i64 n] w fun e w' => ∃ b' ao' len' cap', e = .returned (.agg #[.bool b', .slice ao' len' cap']) ∧ FormAt w' b' ao' len' cap' n ∧ Below w.heap.size w w' := by
  obtain ⟨N, hNn⟩ : ∃ N : Nat, N = n.natAbs := ⟨_, rfl⟩
  have hN64 : N < 18446744073709551616 := by omega
  have hA32 : bits BinOp.and IntKind.u64 (N : Int) 4294967295 % 4294967296 = (N : Int) % 4294967296 := by rw [and_low32 _ (by omega) (by omega)]; omega
  by_cases hn : n < 0
  · have hS : IntKind.u64.wrap (-IntKind.u64.wrap n) = (N : Int) := by rw [IntKind.wrap_u64, IntKind.wrap_u64]; omega
    have hS2 : IntKind.u64.wrap (0 - IntKind.u64.wrap n) = (N : Int) := by rw [IntKind.wrap_u64, IntKind.wrap_u64]; omega
    have e0 : n = sgnd true N := by rw [sgnd_true]; omega
    have E0 := hide e0
    have H1 := hide hNn
    clear e0 hNn
    go_enter Try.func14, Try.ntmps14
    go_wp2_with fail
    refine (rform_num _ _ _ _ n _ ⟨N, two_val hN64 (by simp) (by simp) trivial (by simp <;> omega), unhide E0⟩ (by omega)).mono ?_
    rintro e w1 ⟨b1, a1, l1, c1, rfl, g1, hb1⟩
    have hz1 : w.heap.size + 1 < w1.heap.size := bmore hb1 (by simp)
    have hy1 : w.heap.size < w1.heap.size := by omega
    have hNL := (noLimb_new w false none 0 0 24).alloc (by simp) (.cells #[.int .u32 ((N : Int) % 4294967296), .int .u32 ((N : Int) / 4294967296)] 31)
    have hNL1 := hNL.later hb1 (by simp <;> omega)
    have hW := Below.step (below2 w _ _) hb1
    obtain ⟨q1, q2, q3, q4⟩ := (((box_new w false none 0 0 rfl).alloc _).later hb1).facts
    clear hNL
    go_wp2
    refine bodyPost_ret (v := .agg #[.bool b1, .slice a1 l1 c1]) (by simp [results, Try.results14, go_sem, *]) rfl ⟨_, _, _, _, rfl, ?_⟩
    exact int_end hW (Nat.le_refl _) hNL1 g1 _ _
  · have hS : IntKind.u64.wrap n = (N : Int) := by rw [IntKind.wrap_u64]; omega
    have e0 : n = sgnd false N := by rw [sgnd_false]; omega
    have E0 := hide e0
    have H1 := hide hNn
    clear e0 hNn
    go_enter Try.func14, Try.ntmps14
    go_wp2_with fail
    refine (rform_num _ _ _ _ n _ ⟨N, two_val hN64 (by simp) (by simp) trivial (by simp <;> omega), unhide E0⟩ (by omega)).mono ?_
    rintro e w1 ⟨b1, a1, l1, c1, rfl, g1, hb1⟩
    have hz1 : w.heap.size + 1 < w1.heap.size := bmore hb1 (by simp)
    have hy1 : w.heap.size < w1.heap.size := by omega
    have hNL := (noLimb_new w false none 0 0 24).alloc (by simp) (.cells #[.int .u32 ((N : Int) % 4294967296), .int .u32 ((N : Int) / 4294967296)] 31)
    have hNL1 := hNL.later hb1 (by simp <;> omega)
    have hW := Below.step (below2 w _ _) hb1
    obtain ⟨q1, q2, q3, q4⟩ := (((box_new w false none 0 0 rfl).alloc _).later hb1).facts
    clear hNL
    go_wp2
    refine bodyPost_ret (v := .agg #[.bool b1, .slice a1 l1 c1]) (by simp [results, Try.results14, go_sem, *]) rfl ⟨_, _, _, _, rfl, ?_⟩
    exact int_end hW (Nat.le_refl _) hNL1 g1 _ _

#print axioms rof_num
#print axioms of_num
end Go.Proofs.Ytkhcanhdbalihaa
