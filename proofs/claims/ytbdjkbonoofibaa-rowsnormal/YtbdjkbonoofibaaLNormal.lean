/-
  The walk of RowsNormal: it tells true.
-/
import Derived.Test.YtbdjkbonoofibaaFew9
import Derived.Test.YtbdjkbonoofibaaLBase
import Derived.Deep.CutRange
namespace Go.Proofs.Ytbdjkbonoofibaa
open Go.RowKit Lb
set_option maxRecDepth 20000

set_option maxRecDepth 40000 in
set_option maxHeartbeats 4000000 in
theorem rowsNormal_walk (a0 : Option Addr) (len0 cap0 : Nat) (zs0 : List Int) (w : World) (r0 : VI w a0 len0 cap0 zs0) :
    Calls Try.prog 7 #[.slice a0 len0 cap0] w fun e w' => e = .returned (.bool true) ∧ Below w.heap.size w w' := by
  have L0 := hide r0.len_eq
  go_enter Try.func7, Try.ntmps7
  go_wp2_with fail
  have hbA := Below.refl w.heap.size w
  obtain ⟨WL, hWL⟩ : ∃ W', W' = w.alloc (.cells #[.slice a0 len0 cap0] 24) := ⟨_, rfl⟩
  have hsL : WL.heap.size = w.heap.size + 1 := by rw [hWL]; simp
  have hml : MI WL (some ⟨w.heap.size, 0, none⟩) 1 1 [zs0] := by
    rw [hWL]
    refine rowsOf_new (vs := [(a0, len0, cap0)]) rfl rfl rfl (by simp) fun i a l c e => ?_
    match i with
    | 0 =>
      simp at e
      obtain ⟨rfl, rfl, rfl⟩ := e
      exact r0.later (below_new w _)
  have hcl0 : WL.cell? ⟨w.heap.size, 0, none⟩ = some (.slice a0 len0 cap0) := by rw [hWL]; simp
  have hbL : Below w.heap.size w WL := by rw [hWL]; exact below_new w _
  rw [← hWL]
  clear hWL
  obtain ⟨WM, hWM⟩ : ∃ W', W' = WL.alloc (.cells #[.slice (some ⟨w.heap.size, 0, none⟩) 1 1] 22) := ⟨_, rfl⟩
  have hbM : Below WL.heap.size WL WM := by rw [hWM]; exact below_new WL _
  have hgM : w.heap.size + 1 < WM.heap.size := by rw [hWM]; simp; omega
  have hcM0 : WM.cell? ⟨w.heap.size + 1, 0 + 0, none⟩ = some (.slice (some ⟨w.heap.size, 0, none⟩) 1 1) := by rw [hWM, show w.heap.size + 1 = WL.heap.size by omega]; simp
  have hbW : Below w.heap.size w WM := Below.step hbL hbM
  have hmats : MatsAt WM (some ⟨w.heap.size + 1, 0, none⟩) 1 := by
    refine ⟨by omega, fun _ => ⟨w.heap.size + 1, 0, rfl, hgM, fun i hi => ?_⟩⟩
    match i, hi with
    | 0, _ => exact ⟨_, _, _, _, hcM0, hml.later hbM⟩
  rw [← hWM]
  clear hWM
  refine (few9_any _ _ _ WM hmats).mono ?_
  rintro e v0 ⟨q, rfl, hq, hb1⟩
  have HB := hide (Below.step hbW hb1)
  by_cases hf : q = true
  · subst hf
    have F0 := hq rfl 0 (w.heap.size + 1) 0 _ _ _ (by omega) rfl hcM0
    obtain ⟨n0, s0⟩ := F0.2 0 w.heap.size 0 a0 len0 cap0 (by omega) rfl (by rw [Nat.zero_add, hbM.cell (p := ⟨w.heap.size, 0, none⟩) (by show w.heap.size < WL.heap.size; omega)]; exact hcl0)
    have S0 := hide (vs_later r0 hbW s0 _ (unhide HB))
    clear s0
    clear F0
    obtain ⟨kx, ekx⟩ : ∃ kx, kx = 12 := ⟨_, rfl⟩
    rw [← ekx] at S0
    have hkx : kx ≤ 12 := by omega
    clear ekx hq hb1 hbW hbM hgM hmats hcM0 hbL hml hsL hcl0 hbA r0
    go_wp2_with fail
    refine (normalK _ _ _ zs0 kx _ (unhide S0).vk (by omega) (by omega)).mono ?_
    rintro e v1 ⟨a11, c11, rfl, h11, hb9⟩
    replace S0 := hide ((unhide S0).later hb9)
    replace HB := hide (Below.step (unhide HB) hb9)
    clear hb9
    go_wp2_with fail
    refine (vnegK _ _ _ zs0 kx _ (unhide S0).vk (by omega)).mono ?_
    rintro e v2 ⟨a12, c12, rfl, h12, hb9⟩
    replace S0 := hide ((unhide S0).later hb9)
    replace h11 := h11.later hb9
    replace HB := hide (Below.step (unhide HB) hb9)
    clear hb9
    go_wp2_with fail
    refine (normalK _ _ _ (vneg zs0) kx _ (h12.vk (by omega)) (by omega) (by omega)).mono ?_
    rintro e v3 ⟨a13, c13, rfl, h13, hb9⟩
    replace S0 := hide ((unhide S0).later hb9)
    replace h11 := h11.later hb9
    replace HB := hide (Below.step (unhide HB) hb9)
    clear hb9
    clear h12
    go_wp2_with fail
    refine (vsameTT _ _ _ (vnormal zs0) kx _ _ _ (vnormal (vneg zs0)) kx _ (h11.vk (by omega)) (h13.vk (by omega)) (by omega) (by omega) (by omega) (by omega) (normal_turned zs0).symm).mono ?_
    rintro e v4 ⟨rfl, hb9⟩
    replace S0 := hide ((unhide S0).later hb9)
    replace h11 := h11.later hb9
    replace HB := hide (Below.step (unhide HB) hb9)
    clear hb9
    clear h13
    obtain ⟨q2, eq2⟩ : ∃ q2 : Bool, (q2 = true ↔ VSame (vnormal zs0) zs0) := bool_of _
    have E2 := hide eq2
    clear eq2
    go_wp2_with fail
    refine (vsameBB _ _ _ (vnormal zs0) kx _ _ _ zs0 kx q2 _ (h11.vk (by omega)) (unhide S0).vk (by omega) (by omega) (by omega) (by omega) (unhide E2)).mono ?_
    rintro e v5 ⟨rfl, hb9⟩
    replace S0 := hide ((unhide S0).later hb9)
    replace h11 := h11.later hb9
    replace HB := hide (Below.step (unhide HB) hb9)
    clear hb9
    by_cases hq2 : q2 = true
    · subst hq2
      obtain ⟨cN, ecN⟩ : ∃ c, c = cmpV (vnormal zs0) [] := ⟨_, rfl⟩
      have hcN : 0 ≤ cN := by
        have h0 := (cmpV_is (vnormal zs0) []).lt_iff
        rw [← ecN] at h0
        rcases Int.lt_or_le cN 0 with t | t
        · exact absurd (h0.1 t) (normal_not_neg zs0)
        · exact t
      obtain ⟨qN, eqN⟩ : ∃ q, q = vnought zs0 := ⟨_, rfl⟩
      have hqN : (cN == 0) = qN := by
        rw [ecN, eqN, Bool.eq_iff_iff, beq_iff_eq, (cmpV_is (vnormal zs0) []).zero_iff, nought_same]
        exact normal_nought_iff zs0
      have EN := hide ecN
      have EQN := hide eqN
      clear ecN eqN
      go_wp2_with fail
      refine (vcmpV _ _ _ (vnormal zs0) kx _ _ _ [] 0 cN _ (h11.vk (by omega)) (vk_nil _ 0) (by omega) (by omega) (by omega) (by omega) (unhide EN)).mono ?_
      rintro e v101 ⟨rfl, hb9⟩
      replace S0 := hide ((unhide S0).later hb9)
      replace h11 := h11.later hb9
      replace HB := hide (Below.step (unhide HB) hb9)
      clear hb9
      go_wp2_with fail
      refine (vcmpV _ _ _ (vnormal zs0) kx _ _ _ [] 0 cN _ (h11.vk (by omega)) (vk_nil _ 0) (by omega) (by omega) (by omega) (by omega) (unhide EN)).mono ?_
      rintro e v102 ⟨rfl, hb9⟩
      replace S0 := hide ((unhide S0).later hb9)
      replace h11 := h11.later hb9
      replace HB := hide (Below.step (unhide HB) hb9)
      clear hb9
      go_wp2_with fail
      refine (vnoughtB9 _ _ _ zs0 kx qN _ (unhide S0).vk (unhide EQN).symm).mono ?_
      rintro e v103 ⟨rfl, hb9⟩
      replace S0 := hide ((unhide S0).later hb9)
      replace h11 := h11.later hb9
      replace HB := hide (Below.step (unhide HB) hb9)
      clear hb9
      go_wp2_with fail
      refine (awake9_any _).mono ?_
      rintro e w2 ⟨rfl, hb2⟩
      go_wp2
      go_ret
      exact ⟨rfl, Below.step (unhide HB) hb2⟩
    · have hq2' : q2 = false := by simpa using hq2
      have HN := hide (fun e => by rw [(unhide E2).2 e] at hq2'; simp at hq2' : ¬ VSame (vnormal zs0) zs0)
      subst hq2'
      clear hq2
      go_wp2_with fail
      refine (vnegK _ _ _ zs0 kx _ (unhide S0).vk (by omega)).mono ?_
      rintro e v201 ⟨a14, c14, rfl, h14, hb9⟩
      replace S0 := hide ((unhide S0).later hb9)
      replace h11 := h11.later hb9
      replace HB := hide (Below.step (unhide HB) hb9)
      clear hb9
      go_wp2_with fail
      refine (vsameTT _ _ _ (vnormal zs0) kx _ _ _ (vneg zs0) kx _ (h11.vk (by omega)) (h14.vk (by omega)) (by omega) (by omega) (by omega) (by omega) (normal_or (unhide HN))).mono ?_
      rintro e v202 ⟨rfl, hb9⟩
      replace S0 := hide ((unhide S0).later hb9)
      replace h11 := h11.later hb9
      replace HB := hide (Below.step (unhide HB) hb9)
      clear hb9
      clear h14
      obtain ⟨cN, ecN⟩ : ∃ c, c = cmpV (vnormal zs0) [] := ⟨_, rfl⟩
      have hcN : 0 ≤ cN := by
        have h0 := (cmpV_is (vnormal zs0) []).lt_iff
        rw [← ecN] at h0
        rcases Int.lt_or_le cN 0 with t | t
        · exact absurd (h0.1 t) (normal_not_neg zs0)
        · exact t
      obtain ⟨qN, eqN⟩ : ∃ q, q = vnought zs0 := ⟨_, rfl⟩
      have hqN : (cN == 0) = qN := by
        rw [ecN, eqN, Bool.eq_iff_iff, beq_iff_eq, (cmpV_is (vnormal zs0) []).zero_iff, nought_same]
        exact normal_nought_iff zs0
      have EN := hide ecN
      have EQN := hide eqN
      clear ecN eqN
      go_wp2_with fail
      refine (vcmpV _ _ _ (vnormal zs0) kx _ _ _ [] 0 cN _ (h11.vk (by omega)) (vk_nil _ 0) (by omega) (by omega) (by omega) (by omega) (unhide EN)).mono ?_
      rintro e v203 ⟨rfl, hb9⟩
      replace S0 := hide ((unhide S0).later hb9)
      replace h11 := h11.later hb9
      replace HB := hide (Below.step (unhide HB) hb9)
      clear hb9
      go_wp2_with fail
      refine (vcmpV _ _ _ (vnormal zs0) kx _ _ _ [] 0 cN _ (h11.vk (by omega)) (vk_nil _ 0) (by omega) (by omega) (by omega) (by omega) (unhide EN)).mono ?_
      rintro e v204 ⟨rfl, hb9⟩
      replace S0 := hide ((unhide S0).later hb9)
      replace h11 := h11.later hb9
      replace HB := hide (Below.step (unhide HB) hb9)
      clear hb9
      go_wp2_with fail
      refine (vnoughtB9 _ _ _ zs0 kx qN _ (unhide S0).vk (unhide EQN).symm).mono ?_
      rintro e v205 ⟨rfl, hb9⟩
      replace S0 := hide ((unhide S0).later hb9)
      replace h11 := h11.later hb9
      replace HB := hide (Below.step (unhide HB) hb9)
      clear hb9
      go_wp2_with fail
      refine (awake9_any _).mono ?_
      rintro e w2 ⟨rfl, hb2⟩
      go_wp2
      go_ret
      exact ⟨rfl, Below.step (unhide HB) hb2⟩
  · have hf' : q = false := by simpa using hf
    subst hf'
    clear hf hq hb1 hbW hbM hgM hmats hcM0 hbL hml hsL hcl0 hbA r0
    go_wp2_with fail
    refine (awake9_any _).mono ?_
    rintro e w2 ⟨rfl, hb2⟩
    go_wp2
    go_ret
    exact ⟨rfl, Below.step (unhide HB) hb2⟩
#print axioms rowsNormal_walk
end Go.Proofs.Ytbdjkbonoofibaa
