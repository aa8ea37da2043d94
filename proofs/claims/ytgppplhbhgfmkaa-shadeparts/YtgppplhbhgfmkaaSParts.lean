/-
  The walk of ShadeParts: it tells true.
-/
import Derived.Test.YtgppplhbhgfmkaaJF
import Derived.Test.YtgppplhbhgfmkaaSLaw
import Derived.Deep.CutRange
namespace Go.Proofs.Ytgppplhbhgfmkaa
open Go.RowKit Lb

set_option maxRecDepth 20000 in
set_option maxHeartbeats 4000000 in
theorem shadeParts_walk (a0 : Option Addr) (len0 cap0 : Nat) (zs0 : List Int) (w : World) (r0 : VI w a0 len0 cap0 zs0) :
    Calls Try.prog 7 #[.slice a0 len0 cap0] w fun e w' => e = .returned (.bool true) ∧ Below w.heap.size w w' := by
  have L0 := hide r0.len_eq
  go_enter Try.func7, Try.ntmps7
  go_wp2_with fail
  have hbR := below_new w (.cells #[.slice a0 len0 cap0] 23)
  refine (few7_1 a0 len0 cap0 zs0 w w.heap.size rfl r0).mono ?_
  rintro e v0 ⟨q, rfl, hq01, hq, hb1⟩
  have HB := hide hb1
  by_cases hf : q = 0
  · subst hf
    have s0 := hq rfl
    have n0 := s0.1
    have S0 := hide (vs_later r0 hbR s0 _ hb1)
    obtain ⟨kx, ekx⟩ : ∃ kx, kx = 12 := ⟨_, rfl⟩
    rw [← ekx] at S0
    have hkx : kx ≤ 12 := by omega
    clear ekx hq01 hq hbR hb1 s0 r0
    go_wp2_with fail
    refine (splusK _ _ _ zs0 kx _ (unhide S0).vk (by omega)).mono ?_
    rintro e v1 ⟨a11, c11, rfl, h11, hb9⟩
    replace S0 := hide ((unhide S0).later hb9)
    replace HB := hide (Below.step (unhide HB) hb9)
    clear hb9
    go_wp2_with fail
    refine (sminusK _ _ _ zs0 kx _ (unhide S0).vk (by omega) (by omega)).mono ?_
    rintro e v2 ⟨a12, c12, rfl, h12, hb9⟩
    replace S0 := hide ((unhide S0).later hb9)
    replace h11 := h11.later hb9
    replace HB := hide (Below.step (unhide HB) hb9)
    clear hb9
    go_wp2_with fail
    refine (vsubK _ _ _ (vplus zs0) kx _ _ _ (vminus zs0) kx _ (h11.vk (by omega)) (h12.vk (by omega)) (by omega) (by omega) (by omega) (by omega)).mono ?_
    rintro e v3 ⟨a13, c13, rfl, h13, hb9⟩
    replace S0 := hide ((unhide S0).later hb9)
    replace h11 := h11.later hb9
    replace h12 := h12.later hb9
    replace HB := hide (Below.step (unhide HB) hb9)
    clear hb9
    rw [Nat.max_self len0] at h13 ⊢
    go_wp2_with fail
    refine (vsameT _ _ _ (vsub (vplus zs0) (vminus zs0)) (max kx kx + 1) _ _ _ zs0 kx _ (h13.vk (by omega)) (unhide S0).vk (by omega) (by omega) (by omega) (by omega) (parts_sub zs0)).mono ?_
    rintro e v4 ⟨rfl, hb9⟩
    replace S0 := hide ((unhide S0).later hb9)
    replace h11 := h11.later hb9
    replace h12 := h12.later hb9
    replace HB := hide (Below.step (unhide HB) hb9)
    clear hb9
    clear h13
    go_wp2_with fail
    refine (vdotK _ _ _ (vplus zs0) kx _ _ _ (vminus zs0) kx _ (h11.vk (by omega)) (h12.vk (by omega)) (by omega) (by omega) (by omega) (by omega)).mono ?_
    rintro e v5 ⟨b13, a13, l13, c13, rfl, h13, hb9⟩
    replace S0 := hide ((unhide S0).later hb9)
    replace h11 := h11.later hb9
    replace h12 := h12.later hb9
    replace HB := hide (Below.step (unhide HB) hb9)
    clear hb9
    go_wp2_with fail
    refine (rsignK _ _ _ _ (vdot (vplus zs0) (vminus zs0)) (kx + kx + len0) 0 _ (h13.ik (by omega)) (by rw [parts_dot]; rfl)).mono ?_
    rintro e v6 ⟨rfl, hb9⟩
    replace S0 := hide ((unhide S0).later hb9)
    replace h11 := h11.later hb9
    replace h12 := h12.later hb9
    replace HB := hide (Below.step (unhide HB) hb9)
    clear hb9
    clear h13
    go_wp2_with fail
    refine (sbelowB _ _ _ (vplus zs0) kx _ _ _ zs0 kx true _ (h11.vk (by omega)) (unhide S0).vk (by omega) (by omega) (plus_below zs0)).mono ?_
    rintro e v7 ⟨rfl, hb9⟩
    replace S0 := hide ((unhide S0).later hb9)
    replace h11 := h11.later hb9
    replace h12 := h12.later hb9
    replace HB := hide (Below.step (unhide HB) hb9)
    clear hb9
    go_wp2_with fail
    refine (vnegK _ _ _ (vminus zs0) kx _ (h12.vk (by omega)) (by omega)).mono ?_
    rintro e v8 ⟨a13, c13, rfl, h13, hb9⟩
    replace S0 := hide ((unhide S0).later hb9)
    replace h11 := h11.later hb9
    replace h12 := h12.later hb9
    replace HB := hide (Below.step (unhide HB) hb9)
    clear hb9
    go_wp2_with fail
    refine (sbelowB _ _ _ (vneg (vminus zs0)) kx _ _ _ zs0 kx true _ (h13.vk (by omega)) (unhide S0).vk (by omega) (by omega) (minus_below zs0)).mono ?_
    rintro e v9 ⟨rfl, hb9⟩
    replace S0 := hide ((unhide S0).later hb9)
    replace h11 := h11.later hb9
    replace h12 := h12.later hb9
    replace HB := hide (Below.step (unhide HB) hb9)
    clear hb9
    clear h13
    go_wp2_with fail
    refine (vnormK _ _ _ zs0 kx _ (unhide S0).vk (by omega) (by omega)).mono ?_
    rintro e v10 ⟨b13, a13, l13, c13, rfl, h13, hb9⟩
    replace S0 := hide ((unhide S0).later hb9)
    replace h11 := h11.later hb9
    replace h12 := h12.later hb9
    replace HB := hide (Below.step (unhide HB) hb9)
    clear hb9
    go_wp2_with fail
    refine (vnormK _ _ _ (vplus zs0) kx _ (h11.vk (by omega)) (by omega) (by omega)).mono ?_
    rintro e v11 ⟨b14, a14, l14, c14, rfl, h14, hb9⟩
    replace S0 := hide ((unhide S0).later hb9)
    replace h11 := h11.later hb9
    replace h12 := h12.later hb9
    replace h13 := h13.later hb9
    replace HB := hide (Below.step (unhide HB) hb9)
    clear hb9
    go_wp2_with fail
    refine (vnormK _ _ _ (vminus zs0) kx _ (h12.vk (by omega)) (by omega) (by omega)).mono ?_
    rintro e v12 ⟨b15, a15, l15, c15, rfl, h15, hb9⟩
    replace S0 := hide ((unhide S0).later hb9)
    replace h11 := h11.later hb9
    replace h12 := h12.later hb9
    replace h13 := h13.later hb9
    replace h14 := h14.later hb9
    replace HB := hide (Below.step (unhide HB) hb9)
    clear hb9
    go_wp2_with fail
    refine (raddK _ _ _ _ (vnorm (vplus zs0)) (kx + len0) _ _ _ _ (vnorm (vminus zs0)) (kx + len0) _ (h14.ik (by omega)) (h15.ik (by omega))).mono ?_
    rintro e v13 ⟨b16, a16, l16, c16, rfl, h16, hb9⟩
    replace S0 := hide ((unhide S0).later hb9)
    replace h11 := h11.later hb9
    replace h12 := h12.later hb9
    replace h13 := h13.later hb9
    replace HB := hide (Below.step (unhide HB) hb9)
    clear hb9
    clear h14 h15
    go_wp2_with fail
    refine (rsameK _ _ _ _ _ _ _ _ _ _ _ _ _ h13 h16 (parts_norm zs0)).mono ?_
    rintro e v14 ⟨rfl, hb9⟩
    replace S0 := hide ((unhide S0).later hb9)
    replace h11 := h11.later hb9
    replace h12 := h12.later hb9
    replace HB := hide (Below.step (unhide HB) hb9)
    clear hb9
    clear h13 h16
    go_wp2_with fail
    refine (awake8_any _).mono ?_
    rintro e w2 ⟨rfl, hb2⟩
    go_wp2
    go_ret
    exact ⟨rfl, Below.step (unhide HB) hb2⟩
  · have hf' : q = 1 := by omega
    subst hf'
    clear hq01 hq hf hbR hb1
    go_wp2_with fail
    refine (awake8_any _).mono ?_
    rintro e w2 ⟨rfl, hb2⟩
    go_wp2
    go_ret
    exact ⟨rfl, Below.step (unhide HB) hb2⟩
#print axioms shadeParts_walk
end Go.Proofs.Ytgppplhbhgfmkaa
