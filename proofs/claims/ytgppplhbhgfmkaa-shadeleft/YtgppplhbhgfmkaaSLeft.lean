/-
  The walk of ShadeLeft: it tells true.
-/
import Derived.Test.YtgppplhbhgfmkaaJF
import Derived.Test.YtgppplhbhgfmkaaSLaw
import Derived.Deep.CutRange
namespace Go.Proofs.Ytgppplhbhgfmkaa
open Go.RowKit Lb

set_option maxRecDepth 20000 in
set_option maxHeartbeats 4000000 in
theorem shadeLeft_walk (a0 : Option Addr) (len0 cap0 : Nat) (zs0 : List Int) (a1 : Option Addr) (len1 cap1 : Nat) (zs1 : List Int) (w : World) (r0 : VI w a0 len0 cap0 zs0) (r1 : VI w a1 len1 cap1 zs1) :
    Calls Try.prog 6 #[.slice a0 len0 cap0, .slice a1 len1 cap1] w fun e w' => e = .returned (.bool true) ∧ Below w.heap.size w w' := by
  have L0 := hide r0.len_eq
  have L1 := hide r1.len_eq
  go_enter Try.func6, Try.ntmps6
  go_wp2_with fail
  have hbR := below_new w (.cells #[.slice a0 len0 cap0, .slice a1 len1 cap1] 23)
  refine (few7_2 a0 len0 cap0 zs0 a1 len1 cap1 zs1 w w.heap.size rfl r0 r1).mono ?_
  rintro e v0 ⟨q, rfl, hq01, hq, hb1⟩
  have HB := hide hb1
  by_cases hf : q = 0
  · subst hf
    obtain ⟨s0, s1⟩ := hq rfl
    have n0 := s0.1
    have n1 := s1.1
    have S0 := hide (vs_later r0 hbR s0 _ hb1)
    have S1 := hide (vs_later r1 hbR s1 _ hb1)
    obtain ⟨kx, ekx⟩ : ∃ kx, kx = 12 := ⟨_, rfl⟩
    rw [← ekx] at S0 S1
    have hkx : kx ≤ 12 := by omega
    clear ekx hq01 hq hbR hb1 s0 r0 s1 r1
    obtain ⟨q1, eq1⟩ : ∃ q, q = vagree zs0 zs1 := ⟨_, rfl⟩
    obtain ⟨q2, eq2⟩ : ∃ q, q = vbelow zs0 zs1 := ⟨_, rfl⟩
    have E1 := hide eq1.symm
    have E2 := hide eq2.symm
    clear eq1 eq2
    go_wp2_with fail
    refine (vsubK _ _ _ zs1 kx _ _ _ zs0 kx _ (unhide S1).vk (unhide S0).vk (by omega) (by omega) (by omega) (by omega)).mono ?_
    rintro e v1 ⟨a11, c11, rfl, h11, hb9⟩
    replace S0 := hide ((unhide S0).later hb9)
    replace S1 := hide ((unhide S1).later hb9)
    replace HB := hide (Below.step (unhide HB) hb9)
    clear hb9
    obtain ⟨p1, ep1⟩ : ∃ p, p = max len1 len0 := ⟨_, rfl⟩
    rw [← ep1] at h11 ⊢
    have hp1 : p1 ≤ 70 := by omega
    clear ep1
    go_wp2_with fail
    refine (sbelowB _ _ _ zs0 kx _ _ _ zs1 kx q2 _ (unhide S0).vk (unhide S1).vk (by omega) (by omega) (unhide E2)).mono ?_
    rintro e v2 ⟨rfl, hb9⟩
    replace S0 := hide ((unhide S0).later hb9)
    replace S1 := hide ((unhide S1).later hb9)
    replace h11 := h11.later hb9
    replace HB := hide (Below.step (unhide HB) hb9)
    clear hb9
    go_wp2_with fail
    refine (sbelowB _ _ _ (vsub zs1 zs0) (max kx kx + 1) _ _ _ zs1 kx q2 _ (h11.vk (by omega)) (unhide S1).vk (by omega) (by omega) ((vbelow_left zs0 zs1).trans (unhide E2))).mono ?_
    rintro e v3 ⟨rfl, hb9⟩
    replace S0 := hide ((unhide S0).later hb9)
    replace S1 := hide ((unhide S1).later hb9)
    replace HB := hide (Below.step (unhide HB) hb9)
    clear hb9
    clear h11
    go_wp2_with fail
    refine (vaddK _ _ _ zs0 kx _ _ _ zs1 kx _ (unhide S0).vk (unhide S1).vk (by omega) (by omega) (by omega) (by omega)).mono ?_
    rintro e v4 ⟨a12, c12, rfl, h12, hb9⟩
    replace S0 := hide ((unhide S0).later hb9)
    replace S1 := hide ((unhide S1).later hb9)
    replace HB := hide (Below.step (unhide HB) hb9)
    clear hb9
    obtain ⟨p2, ep2⟩ : ∃ p, p = max len0 len1 := ⟨_, rfl⟩
    rw [← ep2] at h12 ⊢
    have hp2 : p2 ≤ 70 := by omega
    clear ep2
    go_wp2_with fail
    refine (vnormK _ _ _ (vadd zs0 zs1) (max kx kx + 1) _ (h12.vk (by omega)) (by omega) (by omega)).mono ?_
    rintro e v5 ⟨b13, a13, l13, c13, rfl, h13, hb9⟩
    replace S0 := hide ((unhide S0).later hb9)
    replace S1 := hide ((unhide S1).later hb9)
    replace h12 := h12.later hb9
    replace HB := hide (Below.step (unhide HB) hb9)
    clear hb9
    go_wp2_with fail
    refine (vnormK _ _ _ zs0 kx _ (unhide S0).vk (by omega) (by omega)).mono ?_
    rintro e v6 ⟨b14, a14, l14, c14, rfl, h14, hb9⟩
    replace S0 := hide ((unhide S0).later hb9)
    replace S1 := hide ((unhide S1).later hb9)
    replace h12 := h12.later hb9
    replace h13 := h13.later hb9
    replace HB := hide (Below.step (unhide HB) hb9)
    clear hb9
    go_wp2_with fail
    refine (vnormK _ _ _ zs1 kx _ (unhide S1).vk (by omega) (by omega)).mono ?_
    rintro e v7 ⟨b15, a15, l15, c15, rfl, h15, hb9⟩
    replace S0 := hide ((unhide S0).later hb9)
    replace S1 := hide ((unhide S1).later hb9)
    replace h12 := h12.later hb9
    replace h13 := h13.later hb9
    replace h14 := h14.later hb9
    replace HB := hide (Below.step (unhide HB) hb9)
    clear hb9
    go_wp2_with fail
    refine (raddK _ _ _ _ (vnorm zs0) (kx + len0) _ _ _ _ (vnorm zs1) (kx + len1) _ (h14.ik (by omega)) (h15.ik (by omega))).mono ?_
    rintro e v8 ⟨b16, a16, l16, c16, rfl, h16, hb9⟩
    replace S0 := hide ((unhide S0).later hb9)
    replace S1 := hide ((unhide S1).later hb9)
    replace h12 := h12.later hb9
    replace h13 := h13.later hb9
    replace HB := hide (Below.step (unhide HB) hb9)
    clear hb9
    clear h14 h15
    go_wp2_with fail
    refine (rsameB _ _ _ _ _ _ _ _ _ _ _ _ q1 _ h13 h16 ((unhide E1).symm.trans (vagree_norm zs0 zs1).symm)).mono ?_
    rintro e v9 ⟨rfl, hb9⟩
    replace S0 := hide ((unhide S0).later hb9)
    replace S1 := hide ((unhide S1).later hb9)
    replace h12 := h12.later hb9
    replace HB := hide (Below.step (unhide HB) hb9)
    clear hb9
    clear h13 h16
    go_wp2_with fail
    refine (sagreeB _ _ _ zs0 kx _ _ _ zs1 kx q1 _ (unhide S0).vk (unhide S1).vk  (unhide E1)).mono ?_
    rintro e v10 ⟨rfl, hb9⟩
    replace S0 := hide ((unhide S0).later hb9)
    replace S1 := hide ((unhide S1).later hb9)
    replace h12 := h12.later hb9
    replace HB := hide (Below.step (unhide HB) hb9)
    clear hb9
    by_cases hq1 : q1 = true
    · subst hq1
      go_wp2_with fail
      refine (sbelowB _ _ _ zs0 kx _ _ _ (vadd zs0 zs1) (max kx kx + 1) true _ (unhide S0).vk (h12.vk (by omega)) (by omega) (by omega) (vagree_below (unhide E1)).1).mono ?_
      rintro e v11 ⟨rfl, hb9⟩
      replace S0 := hide ((unhide S0).later hb9)
      replace S1 := hide ((unhide S1).later hb9)
      replace h12 := h12.later hb9
      replace HB := hide (Below.step (unhide HB) hb9)
      clear hb9
      go_wp2_with fail
      refine (sbelowB _ _ _ zs1 kx _ _ _ (vadd zs0 zs1) (max kx kx + 1) true _ (unhide S1).vk (h12.vk (by omega)) (by omega) (by omega) (vagree_below (unhide E1)).2).mono ?_
      rintro e v12 ⟨rfl, hb9⟩
      replace S0 := hide ((unhide S0).later hb9)
      replace S1 := hide ((unhide S1).later hb9)
      replace h12 := h12.later hb9
      replace HB := hide (Below.step (unhide HB) hb9)
      clear hb9
      go_wp2_with fail
      refine (awake8_any _).mono ?_
      rintro e w2 ⟨rfl, hb2⟩
      go_wp2
      go_ret
      exact ⟨rfl, Below.step (unhide HB) hb2⟩
    · have hq1' : q1 = false := by simpa using hq1
      subst hq1'
      clear hq1
      go_wp2_with fail
      refine (awake8_any _).mono ?_
      rintro e w2 ⟨rfl, hb2⟩
      go_wp2
      go_ret
      exact ⟨rfl, Below.step (unhide HB) hb2⟩
  · have hf' : q = 1 := by omega
    subst hf'
    clear hq01 hq hf hbR hb1
    go_wp2_with fail
    refine (awake8_any _).mono ?_
    rintro e w2 ⟨rfl, hb2⟩
    go_wp2
    go_ret
    exact ⟨rfl, Below.step (unhide HB) hb2⟩
#print axioms shadeLeft_walk
end Go.Proofs.Ytgppplhbhgfmkaa
