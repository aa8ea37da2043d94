/-
  What whole.Add, whole.Sub and their likes of the reference tell (IN PARTS).
-/
import Derived.Test.YtkhcanhdbalihaaWForm
namespace Go.Proofs.Ytkhcanhdbalihaa
open Go.RowKit Lb

theorem sgnd_add (b : Bool) (M N : Nat) : sgnd b (M + N) = sgnd b M + sgnd b N := by
  cases b <;> simp [sgnd] <;> omega
theorem sgnd_sub {b b' : Bool} (hb : b ≠ b') {M N : Nat} (h : N ≤ M) : sgnd b (M - N) = sgnd b M + sgnd b' N := by
  cases b <;> cases b' <;> simp_all [sgnd] <;> omega
theorem sgnd_sub' {b b' : Bool} (hb : b ≠ b') {M N : Nat} (h : M < N) : sgnd b' (N - M) = sgnd b M + sgnd b' N := by
  cases b <;> cases b' <;> simp_all [sgnd] <;> omega
theorem sum_lt {M N k l m : Nat} (hM : M < Bp k) (hN : N < Bp l) (h1 : k < m) (h2 : l < m) : M + N < Bp m := by
  have a1 := Bp_le (show k ≤ m - 1 by omega)
  have a2 := Bp_le (show l ≤ m - 1 by omega)
  have a3 : Bp m = Bp (m - 1) * 4294967296 := by rw [← Bp_succ]; congr 1; omega
  have := Bp_pos (m - 1)
  omega

set_option maxHeartbeats 1000000 in
theorem iadd_num (b : Bool) (aa : Option Addr) (la ca : Nat) (x : Int) (b' : Bool) (ab : Option Addr) (lb cb : Nat) (y : Int) (w : World) (ha : IntAt w b aa la ca x) (hb : IntAt w b' ab lb cb y) (hla : la ≤ 1000000) (hlb : lb ≤ 1000000) :
    Calls Try.prog 25 #[.agg #[.bool b, .slice aa la ca], .agg #[.bool b', .slice ab lb cb]] w fun e w' => ∃ b' ao' len' cap', e = .returned (.agg #[.bool b', .slice ao' len' cap']) ∧ FormAt w' b' ao' len' cap' (x + y) ∧ Below w.heap.size w w' := by
  obtain ⟨M, hM, rfl⟩ := ha
  obtain ⟨N, hN, rfl⟩ := hb
  by_cases hbb : b = b'
  · subst hbb
    rw [← sgnd_add]
    have hb0 : (b == b) = true := by simp
    go_enter Try.func25, Try.ntmps25
    go_wp2_with fail
    go_region_held3 (fun w' => w'.cell? ⟨w.heap.size, 0, none⟩ = some (.bool b) ∧ w'.cell? ⟨w.heap.size, 1, none⟩ = some (.slice aa la ca) ∧ w'.cell? ⟨w.heap.size + 1, 0, none⟩ = some (.bool b) ∧ w'.cell? ⟨w.heap.size + 1, 1, none⟩ = some (.slice ab lb cb)) (first | exact held2 hb2 (by omega) (by assumption) | exact held2 hb1 (by simp <;> omega) (by assumption) | exact held2_set (by omega) (by assumption) | go_keep) (first | (go_at_call 38; refine (add_num _ _ _ M _ _ _ N _ (hM.later (below3 _ _ _ _).drew) (hN.later (below3 _ _ _ _).drew) hla hlb).mono ?_; rintro e w1 ⟨a1, l1, c1, rfl, h1, hb1⟩; have hz1 : w.heap.size + 2 < w1.heap.size := bmore hb1 (by simp)) | (go_at_call 31; refine (signed_num _ _ _ _ (M + N) _ h1).mono ?_; rintro e w2 ⟨b2, rfl, h2, hb2⟩; have hz2 : w.heap.size + 2 < w2.heap.size := bmore hb2 hz1; obtain ⟨q1, q2, q3, q4⟩ := (((box_new ((w.alloc (.cells #[.bool b, .slice aa la ca] 24)).alloc (.cells #[.bool b, .slice ab lb cb] 24)) false none 0 0 (n := w.heap.size + 2) (by simp)).drew.later hb1).later hb2).facts))
    have hW := Below.step (Below.step (below3 w _ _ _).drew hb1) hb2
    have hNL := ((noLimb3 w _ _ _ _ _ _ _).drew.later hb1 (by simp)).later hb2 hz1
    go_wp2
    refine bodyPost_ret (v := .agg #[.bool b2, .slice a1 l1 c1]) (by simp [results, Try.results25, go_sem, *]) rfl ⟨_, _, _, _, rfl, ?_⟩
    exact int_end hW (by simp <;> omega) hNL h2 _ _
  · have hb0 : (b == b') = false := by simpa using hbb
    by_cases hle : N ≤ M
    · rw [← sgnd_sub hbb hle]
      have HB := hide hbb
      clear hbb
      go_enter Try.func25, Try.ntmps25
      go_wp2_with fail
      refine (sub_num _ _ _ M _ _ _ N _ (hM.later (below3 _ _ _ _)) (hN.later (below3 _ _ _ _)) hla hle).mono ?_
      rintro e w1 ⟨a1, l1, c1, rfl, h1, hb1⟩
      have hz1 : w.heap.size + 2 < w1.heap.size := bmore hb1 (by simp)
      obtain ⟨p1, p2, p3, p4⟩ := ((((box_new w b aa la ca rfl).alloc _).alloc _).later hb1).facts
      go_wp2_with fail
      refine (signed_num _ _ _ _ (M - N) _ h1).mono ?_
      rintro e w2 ⟨b2, rfl, h2, hb2⟩
      have hz2 : w.heap.size + 2 < w2.heap.size := bmore hb2 hz1
      obtain ⟨q1, q2, q3, q4⟩ := (((box_new ((w.alloc (.cells #[.bool b, .slice aa la ca] 24)).alloc (.cells #[.bool b', .slice ab lb cb] 24)) false none 0 0 (n := w.heap.size + 2) (by simp)).later hb1).later hb2).facts
      have hW := Below.step (Below.step (below3 w _ _ _) hb1) hb2
      have hNL := ((noLimb3 w _ _ _ _ _ _ _).later hb1 (by simp)).later hb2 hz1
      go_wp2
      refine bodyPost_ret (v := .agg #[.bool b2, .slice a1 l1 c1]) (by simp [results, Try.results25, go_sem, *]) rfl ⟨_, _, _, _, rfl, ?_⟩
      exact int_end hW (by simp <;> omega) hNL h2 _ _
    · have hlt : M < N := by omega
      rw [← sgnd_sub' hbb hlt]
      have HB := hide hbb
      clear hbb hle
      go_enter Try.func25, Try.ntmps25
      go_wp2_with fail
      refine (sub_none _ _ _ M _ _ _ N _ (hM.later (below3 _ _ _ _)) (hN.later (below3 _ _ _ _)) hlt).mono ?_
      rintro e w0 ⟨rfl, hb0'⟩
      have hz0 : w.heap.size + 2 < w0.heap.size := bmore hb0' (by simp)
      obtain ⟨p1, p2, p3, p4⟩ := ((((box_new w b aa la ca rfl).alloc _).alloc _).later hb0').facts
      obtain ⟨r1, r2, r3, r4⟩ := ((((box_new (w.alloc (.cells #[.bool b, .slice aa la ca] 24)) b' ab lb cb (n := w.heap.size + 1) (by simp)).alloc _)).later hb0').facts
      go_wp2_with fail
      refine (sub_num _ _ _ N _ _ _ M _ ((hN.later (below3 _ _ _ _)).later hb0') ((hM.later (below3 _ _ _ _)).later hb0') hlb (Nat.le_of_lt hlt)).mono ?_
      rintro e w1 ⟨a1, l1, c1, rfl, h1, hb1⟩
      have hz1 : w.heap.size + 2 < w1.heap.size := bmore hb1 hz0
      obtain ⟨r1, r2, r3, r4⟩ := (((((box_new (w.alloc (.cells #[.bool b, .slice aa la ca] 24)) b' ab lb cb (n := w.heap.size + 1) (by simp)).alloc _)).later hb0').later hb1).facts
      go_wp2_with fail
      refine (signed_num _ _ _ _ (N - M) _ h1).mono ?_
      rintro e w2 ⟨b2, rfl, h2, hb2⟩
      have hz2 : w.heap.size + 2 < w2.heap.size := bmore hb2 hz1
      obtain ⟨q1, q2, q3, q4⟩ := ((((box_new ((w.alloc (.cells #[.bool b, .slice aa la ca] 24)).alloc (.cells #[.bool b', .slice ab lb cb] 24)) false none 0 0 (n := w.heap.size + 2) (by simp)).later hb0').later hb1).later hb2).facts
      have hW := Below.step (Below.step (Below.step (below3 w _ _ _) hb0') hb1) hb2
      have hNL := (((noLimb3 w _ _ _ _ _ _ _).later hb0' (by simp)).later hb1 hz0).later hb2 hz1
      go_wp2
      refine bodyPost_ret (v := .agg #[.bool b2, .slice a1 l1 c1]) (by simp [results, Try.results25, go_sem, *]) rfl ⟨_, _, _, _, rfl, ?_⟩
      exact int_end hW (by simp <;> omega) hNL h2 _ _
set_option maxHeartbeats 1000000 in
theorem riadd_num (b : Bool) (aa : Option Addr) (la ca : Nat) (x : Int) (b' : Bool) (ab : Option Addr) (lb cb : Nat) (y : Int) (w : World) (ha : IntAt w b aa la ca x) (hb : IntAt w b' ab lb cb y) (hla : la ≤ 999999) (hlb : lb ≤ 999999) :
    Calls Try.prog 26 #[.agg #[.bool b, .slice aa la ca], .agg #[.bool b', .slice ab lb cb]] w fun e w' => ∃ b' ao' len' cap', e = .returned (.agg #[.bool b', .slice ao' len' cap']) ∧ FormAt w' b' ao' len' cap' (x + y) ∧ Below w.heap.size w w' := by
  obtain ⟨M, hM, rfl⟩ := ha
  obtain ⟨N, hN, rfl⟩ := hb
  have hkm : max la lb + 1 ≤ 1000000 := by omega
  have hS := sum_lt (m := max la lb + 1) (hM.lt (Nat.le_refl _)) (hN.lt (Nat.le_refl _)) (by omega) (by omega)
  have HS := hide hS
  have HM := hide hkm
  clear hS hkm
  by_cases hbb : b = b'
  · subst hbb
    rw [← sgnd_add]
    have hb0 : (b == b) = true := by simp
    go_enter Try.func26, Try.ntmps26
    go_wp2_with fail
    go_region_held3 (fun w' => w'.cell? ⟨w.heap.size, 0, none⟩ = some (.bool b) ∧ w'.cell? ⟨w.heap.size, 1, none⟩ = some (.slice aa la ca) ∧ w'.cell? ⟨w.heap.size + 1, 0, none⟩ = some (.bool b) ∧ w'.cell? ⟨w.heap.size + 1, 1, none⟩ = some (.slice ab lb cb)) (first | exact held2 hb2 (by omega) (by assumption) | exact held2 hb1 (by simp <;> omega) (by assumption) | exact held2_set (by omega) (by assumption) | go_keep) (first | (go_at_call 40; refine (radd_num _ _ _ M _ _ _ N _ (hM.later (below3 _ _ _ _).drew) (hN.later (below3 _ _ _ _).drew) (by omega) (by omega)).mono ?_; rintro e w1 ⟨a1, l1, c1, rfl, h1, hb1⟩; have hz1 : w.heap.size + 2 < w1.heap.size := bmore hb1 (by simp)) | (go_at_call 12; refine (rform_num _ _ _ _ _ _ ⟨M + N, h1.val, rfl⟩ (Nat.le_trans (h1.len_le (unhide HS)) (unhide HM))).mono ?_; rintro e w2 ⟨b2, a2, l2, c2, rfl, h2, hb2⟩; have hz2 : w.heap.size + 2 < w2.heap.size := bmore hb2 hz1; obtain ⟨q1, q2, q3, q4⟩ := (((box_new ((w.alloc (.cells #[.bool b, .slice aa la ca] 24)).alloc (.cells #[.bool b, .slice ab lb cb] 24)) false none 0 0 (n := w.heap.size + 2) (by simp)).drew.later hb1).later hb2).facts))
    have hW := Below.step (Below.step (below3 w _ _ _).drew hb1) hb2
    have hNL := ((noLimb3 w _ _ _ _ _ _ _).drew.later hb1 (by simp)).later hb2 hz1
    go_wp2
    refine bodyPost_ret (v := .agg #[.bool b2, .slice a2 l2 c2]) (by simp [results, Try.results26, go_sem, *]) rfl ⟨_, _, _, _, rfl, ?_⟩
    exact int_end hW (by simp <;> omega) hNL h2 _ _
  · have hb0 : (b == b') = false := by simpa using hbb
    by_cases hle : N ≤ M
    · rw [← sgnd_sub hbb hle]
      have HB := hide hbb
      clear hbb
      have hcm : 0 ≤ cmpI M N := by unfold cmpI; repeat' split <;> omega
      go_enter Try.func26, Try.ntmps26
      go_wp2_with fail
      refine (rcmp_num _ _ _ M _ _ _ N _ (hM.later (below3 _ _ _ _)) (hN.later (below3 _ _ _ _))).mono ?_
      rintro e w0 ⟨rfl, rfl⟩
      go_wp2_with fail
      go_region_held3 (fun w' => w'.cell? ⟨w.heap.size, 0, none⟩ = some (.bool b) ∧ w'.cell? ⟨w.heap.size, 1, none⟩ = some (.slice aa la ca) ∧ w'.cell? ⟨w.heap.size + 1, 0, none⟩ = some (.bool b') ∧ w'.cell? ⟨w.heap.size + 1, 1, none⟩ = some (.slice ab lb cb)) (first | exact held2 hb2 (by omega) (by assumption) | exact held2 hb1 (by simp <;> omega) (by assumption) | exact held2_set (by omega) (by assumption) | go_keep) (first | (go_at_call 42; refine (rsub_num _ _ _ M _ _ _ N _ (hM.later (below3 _ _ _ _).drew) (hN.later (below3 _ _ _ _).drew) (by omega) (by omega) hle).mono ?_; rintro e w1 ⟨a1, l1, c1, rfl, h1, hb1⟩; have hz1 : w.heap.size + 2 < w1.heap.size := bmore hb1 (by simp)) | (go_at_call 12; refine (rform_num _ _ _ _ _ _ ⟨M - N, h1.val, rfl⟩ (Nat.le_trans (h1.len_le (Nat.lt_of_le_of_lt (Nat.le_trans (Nat.sub_le _ _) (Nat.le_add_right M N)) (unhide HS))) (unhide HM))).mono ?_; rintro e w2 ⟨b2, a2, l2, c2, rfl, h2, hb2⟩; have hz2 : w.heap.size + 2 < w2.heap.size := bmore hb2 hz1; obtain ⟨q1, q2, q3, q4⟩ := (((box_new ((w.alloc (.cells #[.bool b, .slice aa la ca] 24)).alloc (.cells #[.bool b', .slice ab lb cb] 24)) false none 0 0 (n := w.heap.size + 2) (by simp)).drew.later hb1).later hb2).facts))
      have hW := Below.step (Below.step (below3 w _ _ _).drew hb1) hb2
      have hNL := ((noLimb3 w _ _ _ _ _ _ _).drew.later hb1 (by simp)).later hb2 hz1
      go_wp2
      refine bodyPost_ret (v := .agg #[.bool b2, .slice a2 l2 c2]) (by simp [results, Try.results26, go_sem, *]) rfl ⟨_, _, _, _, rfl, ?_⟩
      exact int_end hW (by simp <;> omega) hNL h2 _ _
    · have hlt : M < N := by omega
      rw [← sgnd_sub' hbb hlt]
      have HB := hide hbb
      clear hbb hle
      have hcm : cmpI M N < 0 := by unfold cmpI; repeat' split <;> omega
      go_enter Try.func26, Try.ntmps26
      go_wp2_with fail
      refine (rcmp_num _ _ _ M _ _ _ N _ (hM.later (below3 _ _ _ _)) (hN.later (below3 _ _ _ _))).mono ?_
      rintro e w0 ⟨rfl, rfl⟩
      go_wp2_with fail
      go_region_held3 (fun w' => w'.cell? ⟨w.heap.size, 0, none⟩ = some (.bool b) ∧ w'.cell? ⟨w.heap.size, 1, none⟩ = some (.slice aa la ca) ∧ w'.cell? ⟨w.heap.size + 1, 0, none⟩ = some (.bool b') ∧ w'.cell? ⟨w.heap.size + 1, 1, none⟩ = some (.slice ab lb cb)) (first | exact held2 hb2 (by omega) (by assumption) | exact held2 hb1 (by simp <;> omega) (by assumption) | exact held2_set (by omega) (by assumption) | go_keep) (first | (go_at_call 42; refine (rsub_num _ _ _ N _ _ _ M _ (hN.later (below3 _ _ _ _).drew) (hM.later (below3 _ _ _ _).drew) (by omega) (by omega) (Nat.le_of_lt hlt)).mono ?_; rintro e w1 ⟨a1, l1, c1, rfl, h1, hb1⟩; have hz1 : w.heap.size + 2 < w1.heap.size := bmore hb1 (by simp)) | (go_at_call 12; refine (rform_num _ _ _ _ _ _ ⟨N - M, h1.val, rfl⟩ (Nat.le_trans (h1.len_le (Nat.lt_of_le_of_lt (Nat.le_trans (Nat.sub_le _ _) (Nat.le_add_left N M)) (unhide HS))) (unhide HM))).mono ?_; rintro e w2 ⟨b2, a2, l2, c2, rfl, h2, hb2⟩; have hz2 : w.heap.size + 2 < w2.heap.size := bmore hb2 hz1; obtain ⟨q1, q2, q3, q4⟩ := (((box_new ((w.alloc (.cells #[.bool b, .slice aa la ca] 24)).alloc (.cells #[.bool b', .slice ab lb cb] 24)) false none 0 0 (n := w.heap.size + 2) (by simp)).drew.later hb1).later hb2).facts))
      have hW := Below.step (Below.step (below3 w _ _ _).drew hb1) hb2
      have hNL := ((noLimb3 w _ _ _ _ _ _ _).drew.later hb1 (by simp)).later hb2 hz1
      go_wp2
      refine bodyPost_ret (v := .agg #[.bool b2, .slice a2 l2 c2]) (by simp [results, Try.results26, go_sem, *]) rfl ⟨_, _, _, _, rfl, ?_⟩
      exact int_end hW (by simp <;> omega) hNL h2 _ _
set_option maxHeartbeats 1000000 in
theorem isub_num (b : Bool) (aa : Option Addr) (la ca : Nat) (x : Int) (b' : Bool) (ab : Option Addr) (lb cb : Nat) (y : Int) (w : World) (ha : IntAt w b aa la ca x) (hb : IntAt w b' ab lb cb y) (hla : la ≤ 1000000) (hlb : lb ≤ 1000000) :
    Calls Try.prog 27 #[.agg #[.bool b, .slice aa la ca], .agg #[.bool b', .slice ab lb cb]] w fun e w' => ∃ b' ao' len' cap', e = .returned (.agg #[.bool b', .slice ao' len' cap']) ∧ FormAt w' b' ao' len' cap' (x - y) ∧ Below w.heap.size w w' := by
  rw [Int.sub_eq_add_neg]
  go_enter Try.func27, Try.ntmps27
  go_wp2_with fail
  refine (iadd_num _ _ _ _ x _ _ _ _ (-y) _ (ha.later (below3 _ _ _ _)) (hb.not.later (below3 _ _ _ _)) hla hlb).mono ?_
  rintro e w2 ⟨b2, a1, l1, c1, rfl, h2, hb2⟩
  have hz2 : w.heap.size + 2 < w2.heap.size := bmore hb2 (by simp)
  have hW := Below.step (below3 w _ _ _) hb2
  have hNL := (noLimb3 w _ _ _ _ _ _ _).later hb2 (by simp)
  obtain ⟨hc2, hf2⟩ := bcell hb2
  go_wp2
  refine bodyPost_ret (v := .agg #[.bool b2, .slice a1 l1 c1]) (by simp [results, Try.results27, go_sem, *]) rfl ⟨_, _, _, _, rfl, ?_⟩
  exact int_end hW (by simp <;> omega) hNL h2 _ _
set_option maxHeartbeats 1000000 in
theorem risub_num (b : Bool) (aa : Option Addr) (la ca : Nat) (x : Int) (b' : Bool) (ab : Option Addr) (lb cb : Nat) (y : Int) (w : World) (ha : IntAt w b aa la ca x) (hb : IntAt w b' ab lb cb y) (hla : la ≤ 999999) (hlb : lb ≤ 999999) :
    Calls Try.prog 28 #[.agg #[.bool b, .slice aa la ca], .agg #[.bool b', .slice ab lb cb]] w fun e w' => ∃ b' ao' len' cap', e = .returned (.agg #[.bool b', .slice ao' len' cap']) ∧ FormAt w' b' ao' len' cap' (x - y) ∧ Below w.heap.size w w' := by
  rw [Int.sub_eq_add_neg]
  go_enter Try.func28, Try.ntmps28
  go_wp2_with fail
  refine (riadd_num _ _ _ _ x _ _ _ _ (-y) _ (ha.later (below3 _ _ _ _)) (hb.not.later (below3 _ _ _ _)) hla hlb).mono ?_
  rintro e w2 ⟨b2, a1, l1, c1, rfl, h2, hb2⟩
  have hz2 : w.heap.size + 2 < w2.heap.size := bmore hb2 (by simp)
  have hW := Below.step (below3 w _ _ _) hb2
  have hNL := (noLimb3 w _ _ _ _ _ _ _).later hb2 (by simp)
  obtain ⟨hc2, hf2⟩ := bcell hb2
  go_wp2
  refine bodyPost_ret (v := .agg #[.bool b2, .slice a1 l1 c1]) (by simp [results, Try.results28, go_sem, *]) rfl ⟨_, _, _, _, rfl, ?_⟩
  exact int_end hW (by simp <;> omega) hNL h2 _ _

#print axioms iadd_num
#print axioms riadd_num
#print axioms isub_num
#print axioms risub_num
end Go.Proofs.Ytkhcanhdbalihaa
