/-
  What whole.Mul and the reference's Mul tell (IN PARTS).
-/
import Derived.Test.YtkhcanhdbalihaaWForm
import Derived.Test.YtkhcanhdbalihaaVals
namespace Go.Proofs.Ytkhcanhdbalihaa
open Go.RowKit Lb

theorem sgnd_mul (b b' : Bool) (M N : Nat) : sgnd (b != b') (M * N) = sgnd b M * sgnd b' N := by
  cases b <;> cases b' <;> simp [sgnd, Int.neg_mul, Int.mul_neg, Int.neg_neg]

set_option maxHeartbeats 1000000 in
theorem imul_num (b : Bool) (aa : Option Addr) (la ca : Nat) (x : Int) (b' : Bool) (ab : Option Addr) (lb cb : Nat) (y : Int) (w : World) (ha : IntAt w b aa la ca x) (hb : IntAt w b' ab lb cb y) (hla : la ≤ 1000000) (hlb : lb ≤ 1000000) :
    Calls Try.prog 29 #[.agg #[.bool b, .slice aa la ca], .agg #[.bool b', .slice ab lb cb]] w fun e w' => ∃ b' ao' len' cap', e = .returned (.agg #[.bool b', .slice ao' len' cap']) ∧ FormAt w' b' ao' len' cap' (x * y) ∧ Below w.heap.size w w' := by
  obtain ⟨M, hM, rfl⟩ := ha
  obtain ⟨N, hN, rfl⟩ := hb
  rw [← sgnd_mul]
  go_enter Try.func29, Try.ntmps29
  go_wp2
  go_region_held3 (fun w' => w'.cell? ⟨w.heap.size, 0, none⟩ = some (.bool b) ∧ w'.cell? ⟨w.heap.size, 1, none⟩ = some (.slice aa la ca) ∧ w'.cell? ⟨w.heap.size + 1, 0, none⟩ = some (.bool b') ∧ w'.cell? ⟨w.heap.size + 1, 1, none⟩ = some (.slice ab lb cb)) (first | exact held2 hb2 (by omega) (by assumption) | exact held2 hb1 (by simp <;> omega) (by assumption) | exact held2_set (by omega) (by assumption) | go_keep) (first | (go_at_call 43; refine (mul_num _ _ _ M _ _ _ N _ (hM.later (below3 _ _ _ _).drew) (hN.later (below3 _ _ _ _).drew) hla hlb).mono ?_; rintro e w1 ⟨a1, l1, c1, rfl, h1, hb1⟩; have hz1 : w.heap.size + 2 < w1.heap.size := bmore hb1 (by simp)) | (go_at_call 31; refine (signed_num _ _ _ _ (M * N) _ h1).mono ?_; rintro e w2 ⟨b2, rfl, h2, hb2⟩; have hz2 : w.heap.size + 2 < w2.heap.size := bmore hb2 hz1; obtain ⟨q1, q2, q3, q4⟩ := (((box_new ((w.alloc (.cells #[.bool b, .slice aa la ca] 24)).alloc (.cells #[.bool b', .slice ab lb cb] 24)) false none 0 0 (n := w.heap.size + 2) (by simp)).drew.later hb1).later hb2).facts))
  have hW := Below.step (Below.step (below3 w _ _ _).drew hb1) hb2
  have hNL := ((noLimb3 w _ _ _ _ _ _ _).drew.later hb1 (by simp)).later hb2 hz1
  go_wp2
  refine bodyPost_ret (v := .agg #[.bool b2, .slice a1 l1 c1]) (by simp [results, Try.results29, go_sem, *]) rfl ⟨_, _, _, _, rfl, ?_⟩
  exact int_end hW (by simp <;> omega) hNL h2 _ _

set_option maxHeartbeats 1000000 in
theorem rimul_num (b : Bool) (aa : Option Addr) (la ca : Nat) (x : Int) (b' : Bool) (ab : Option Addr) (lb cb : Nat) (y : Int) (w : World) (ha : IntAt w b aa la ca x) (hb : IntAt w b' ab lb cb y) (hla : la ≤ 1000000) (hlb : lb ≤ 1000000) (hlen : la + lb ≤ 1000000) :
    Calls Try.prog 30 #[.agg #[.bool b, .slice aa la ca], .agg #[.bool b', .slice ab lb cb]] w fun e w' => ∃ b' ao' len' cap', e = .returned (.agg #[.bool b', .slice ao' len' cap']) ∧ FormAt w' b' ao' len' cap' (x * y) ∧ Below w.heap.size w w' := by
  obtain ⟨M, hM, rfl⟩ := ha
  obtain ⟨N, hN, rfl⟩ := hb
  rw [← sgnd_mul]
  have hMN := prod_lt (hM.lt (Nat.le_refl _)) (hN.lt (Nat.le_refl _))
  go_enter Try.func30, Try.ntmps30
  go_wp2
  go_region_held3 (fun w' => w'.cell? ⟨w.heap.size, 0, none⟩ = some (.bool b) ∧ w'.cell? ⟨w.heap.size, 1, none⟩ = some (.slice aa la ca) ∧ w'.cell? ⟨w.heap.size + 1, 0, none⟩ = some (.bool b') ∧ w'.cell? ⟨w.heap.size + 1, 1, none⟩ = some (.slice ab lb cb)) (first | exact held2 hb2 (by omega) (by assumption) | exact held2 hb1 (by simp <;> omega) (by assumption) | exact held2_set (by omega) (by assumption) | go_keep) (first | (go_at_call 44; refine (rmul_num _ _ _ M _ _ _ N _ (hM.later (below3 _ _ _ _).drew) (hN.later (below3 _ _ _ _).drew) hla hlb).mono ?_; rintro e w1 ⟨a1, l1, c1, rfl, h1, hb1⟩; have hz1 : w.heap.size + 2 < w1.heap.size := bmore hb1 (by simp)) | (go_at_call 12; refine (rform_num _ _ _ _ _ _ ⟨M * N, h1.val, rfl⟩ (Nat.le_trans (h1.len_le hMN) hlen)).mono ?_; rintro e w2 ⟨b2, a2, l2, c2, rfl, h2, hb2⟩; have hz2 : w.heap.size + 2 < w2.heap.size := bmore hb2 hz1; obtain ⟨q1, q2, q3, q4⟩ := (((box_new ((w.alloc (.cells #[.bool b, .slice aa la ca] 24)).alloc (.cells #[.bool b', .slice ab lb cb] 24)) false none 0 0 (n := w.heap.size + 2) (by simp)).drew.later hb1).later hb2).facts))
  have hW := Below.step (Below.step (below3 w _ _ _).drew hb1) hb2
  have hNL := ((noLimb3 w _ _ _ _ _ _ _).drew.later hb1 (by simp)).later hb2 hz1
  go_wp2
  refine bodyPost_ret (v := .agg #[.bool b2,   .slice a2 l2 c2]) (by simp [results, Try.results30, go_sem, *]) rfl ⟨_, _, _, _, rfl, ?_⟩
  exact int_end hW (by simp <;> omega) hNL h2 _ _

#print axioms imul_num
#print axioms rimul_num
end Go.Proofs.Ytkhcanhdbalihaa
