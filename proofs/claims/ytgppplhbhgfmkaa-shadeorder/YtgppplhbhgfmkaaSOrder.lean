/-
  The walk of ShadeOrder: it tells true.
-/
import Derived.Test.YtgppplhbhgfmkaaJF
import Derived.Test.YtgppplhbhgfmkaaSLaw
import Derived.Deep.CutRange
namespace Go.Proofs.Ytgppplhbhgfmkaa
open Go.RowKit Lb

set_option maxRecDepth 20000 in
set_option maxHeartbeats 4000000 in
theorem shadeOrder_walk (a0 : Option Addr) (len0 cap0 : Nat) (zs0 : List Int) (a1 : Option Addr) (len1 cap1 : Nat) (zs1 : List Int) (a2 : Option Addr) (len2 cap2 : Nat) (zs2 : List Int) (w : World) (r0 : VI w a0 len0 cap0 zs0) (r1 : VI w a1 len1 cap1 zs1) (r2 : VI w a2 len2 cap2 zs2) :
    Calls Try.prog 5 #[.slice a0 len0 cap0, .slice a1 len1 cap1, .slice a2 len2 cap2] w fun e w' => e = .returned (.bool true) ∧ Below w.heap.size w w' := by
  have L0 := hide r0.len_eq
  have L1 := hide r1.len_eq
  have L2 := hide r2.len_eq
  go_enter Try.func5, Try.ntmps5
  go_wp2_with fail
  have hbR := below_new w (.cells #[.slice a0 len0 cap0, .slice a1 len1 cap1, .slice a2 len2 cap2] 23)
  refine (few7_3 a0 len0 cap0 zs0 a1 len1 cap1 zs1 a2 len2 cap2 zs2 w w.heap.size rfl r0 r1 r2).mono ?_
  rintro e v0 ⟨q, rfl, hq01, hq, hb1⟩
  have HB := hide hb1
  by_cases hf : q = 0
  · subst hf
    obtain ⟨s0, s1, s2⟩ := hq rfl
    have n0 := s0.1
    have n1 := s1.1
    have n2 := s2.1
    have S0 := hide (vs_later r0 hbR s0 _ hb1)
    have S1 := hide (vs_later r1 hbR s1 _ hb1)
    have S2 := hide (vs_later r2 hbR s2 _ hb1)
    obtain ⟨kx, ekx⟩ : ∃ kx, kx = 12 := ⟨_, rfl⟩
    rw [← ekx] at S0 S1 S2
    have hkx : kx ≤ 12 := by omega
    clear ekx hq01 hq hbR hb1 s0 r0 s1 r1 s2 r2
    obtain ⟨q1, eq1⟩ : ∃ q, q = vbelow zs0 zs1 := ⟨_, rfl⟩
    obtain ⟨q2, eq2⟩ : ∃ q, q = vbelow zs1 zs2 := ⟨_, rfl⟩
    obtain ⟨q3, eq3⟩ : ∃ q, q = vbelow zs1 zs0 := ⟨_, rfl⟩
    have E1 := hide eq1.symm
    have E2 := hide eq2.symm
    have E3 := hide eq3.symm
    clear eq1 eq2 eq3
    go_wp2_with fail
    refine (sbelowB _ _ _ zs0 kx _ _ _ zs1 kx q1 _ (unhide S0).vk (unhide S1).vk (by omega) (by omega) (unhide E1)).mono ?_
    rintro e v1 ⟨rfl, hb9⟩
    replace S0 := hide ((unhide S0).later hb9)
    replace S1 := hide ((unhide S1).later hb9)
    replace S2 := hide ((unhide S2).later hb9)
    replace HB := hide (Below.step (unhide HB) hb9)
    clear hb9
    go_wp2_with fail
    refine (sbelowB _ _ _ zs1 kx _ _ _ zs2 kx q2 _ (unhide S1).vk (unhide S2).vk (by omega) (by omega) (unhide E2)).mono ?_
    rintro e v2 ⟨rfl, hb9⟩
    replace S0 := hide ((unhide S0).later hb9)
    replace S1 := hide ((unhide S1).later hb9)
    replace S2 := hide ((unhide S2).later hb9)
    replace HB := hide (Below.step (unhide HB) hb9)
    clear hb9
    go_wp2_with fail
    refine (sbelowB _ _ _ zs0 kx _ _ _ zs0 kx true _ (unhide S0).vk (unhide S0).vk (by omega) (by omega) (vbelow_refl zs0)).mono ?_
    rintro e v3 ⟨rfl, hb9⟩
    replace S0 := hide ((unhide S0).later hb9)
    replace S1 := hide ((unhide S1).later hb9)
    replace S2 := hide ((unhide S2).later hb9)
    replace HB := hide (Below.step (unhide HB) hb9)
    clear hb9
    by_cases hq1 : q1 = true
    · subst hq1
      go_wp2_with fail
      refine (sbelowB _ _ _ zs1 kx _ _ _ zs0 kx q3 _ (unhide S1).vk (unhide S0).vk (by omega) (by omega) (unhide E3)).mono ?_
      rintro e v201 ⟨rfl, hb9⟩
      replace S0 := hide ((unhide S0).later hb9)
      replace S1 := hide ((unhide S1).later hb9)
      replace S2 := hide ((unhide S2).later hb9)
      replace HB := hide (Below.step (unhide HB) hb9)
      clear hb9
      by_cases hq3 : q3 = true
      · subst hq3
        go_wp2_with fail
        refine (vsameT _ _ _ zs0 kx _ _ _ zs1 kx _ (unhide S0).vk (unhide S1).vk (by omega) (by omega) (by omega) (by omega) (vbelow_anti (unhide E1) (unhide E3))).mono ?_
        rintro e v301 ⟨rfl, hb9⟩
        replace S0 := hide ((unhide S0).later hb9)
        replace S1 := hide ((unhide S1).later hb9)
        replace S2 := hide ((unhide S2).later hb9)
        replace HB := hide (Below.step (unhide HB) hb9)
        clear hb9
        by_cases hq2 : q2 = true
        · subst hq2
          go_wp2_with fail
          refine (sbelowB _ _ _ zs0 kx _ _ _ zs2 kx true _ (unhide S0).vk (unhide S2).vk (by omega) (by omega) (vbelow_trans (unhide E1) (unhide E2))).mono ?_
          rintro e v322 ⟨rfl, hb9⟩
          replace S0 := hide ((unhide S0).later hb9)
          replace S1 := hide ((unhide S1).later hb9)
          replace S2 := hide ((unhide S2).later hb9)
          replace HB := hide (Below.step (unhide HB) hb9)
          clear hb9
          go_wp2_with fail
          refine (vnegK _ _ _ zs0 kx _ (unhide S0).vk (by omega)).mono ?_
          rintro e v323 ⟨a11, c11, rfl, h11, hb9⟩
          replace S0 := hide ((unhide S0).later hb9)
          replace S1 := hide ((unhide S1).later hb9)
          replace S2 := hide ((unhide S2).later hb9)
          replace HB := hide (Below.step (unhide HB) hb9)
          clear hb9
          go_wp2_with fail
          refine (vnegK _ _ _ zs1 kx _ (unhide S1).vk (by omega)).mono ?_
          rintro e v324 ⟨a12, c12, rfl, h12, hb9⟩
          replace S0 := hide ((unhide S0).later hb9)
          replace S1 := hide ((unhide S1).later hb9)
          replace S2 := hide ((unhide S2).later hb9)
          replace h11 := h11.later hb9
          replace HB := hide (Below.step (unhide HB) hb9)
          clear hb9
          go_wp2_with fail
          refine (sbelowB _ _ _ (vneg zs0) kx _ _ _ (vneg zs1) kx true _ (h11.vk (by omega)) (h12.vk (by omega)) (by omega) (by omega) ((vbelow_neg zs0 zs1).trans (unhide E1))).mono ?_
          rintro e v325 ⟨rfl, hb9⟩
          replace S0 := hide ((unhide S0).later hb9)
          replace S1 := hide ((unhide S1).later hb9)
          replace S2 := hide ((unhide S2).later hb9)
          replace HB := hide (Below.step (unhide HB) hb9)
          clear hb9
          clear h11 h12
          go_wp2_with fail
          refine (rofK 3 _ (by omega) (by omega)).mono ?_
          rintro e v326 ⟨b13, a13, l13, c13, rfl, h13, hb9⟩
          replace S0 := hide ((unhide S0).later hb9)
          replace S1 := hide ((unhide S1).later hb9)
          replace S2 := hide ((unhide S2).later hb9)
          replace HB := hide (Below.step (unhide HB) hb9)
          clear hb9
          go_wp2_with fail
          refine (vtimesK _ _ _ zs0 kx _ _ _ _ 3 2 _ (unhide S0).vk (h13.ik (by omega)) (by omega)).mono ?_
          rintro e v327 ⟨a14, c14, rfl, h14, hb9⟩
          replace S0 := hide ((unhide S0).later hb9)
          replace S1 := hide ((unhide S1).later hb9)
          replace S2 := hide ((unhide S2).later hb9)
          replace HB := hide (Below.step (unhide HB) hb9)
          clear hb9
          clear h13
          go_wp2_with fail
          refine (rofK 3 _ (by omega) (by omega)).mono ?_
          rintro e v328 ⟨b15, a15, l15, c15, rfl, h15, hb9⟩
          replace S0 := hide ((unhide S0).later hb9)
          replace S1 := hide ((unhide S1).later hb9)
          replace S2 := hide ((unhide S2).later hb9)
          replace h14 := h14.later hb9
          replace HB := hide (Below.step (unhide HB) hb9)
          clear hb9
          go_wp2_with fail
          refine (vtimesK _ _ _ zs1 kx _ _ _ _ 3 2 _ (unhide S1).vk (h15.ik (by omega)) (by omega)).mono ?_
          rintro e v329 ⟨a16, c16, rfl, h16, hb9⟩
          replace S0 := hide ((unhide S0).later hb9)
          replace S1 := hide ((unhide S1).later hb9)
          replace S2 := hide ((unhide S2).later hb9)
          replace h14 := h14.later hb9
          replace HB := hide (Below.step (unhide HB) hb9)
          clear hb9
          clear h15
          go_wp2_with fail
          refine (sbelowB _ _ _ (vtimes zs0 3) (kx + 2) _ _ _ (vtimes zs1 3) (kx + 2) true _ (h14.vk (by omega)) (h16.vk (by omega)) (by omega) (by omega) ((vbelow_three zs0 zs1).trans (unhide E1))).mono ?_
          rintro e v330 ⟨rfl, hb9⟩
          replace S0 := hide ((unhide S0).later hb9)
          replace S1 := hide ((unhide S1).later hb9)
          replace S2 := hide ((unhide S2).later hb9)
          replace HB := hide (Below.step (unhide HB) hb9)
          clear hb9
          clear h14 h16
          go_wp2_with fail
          refine (sagreeB _ _ _ zs0 kx _ _ _ zs1 kx true _ (unhide S0).vk (unhide S1).vk  (vbelow_agree (unhide E1))).mono ?_
          rintro e v331 ⟨rfl, hb9⟩
          replace S0 := hide ((unhide S0).later hb9)
          replace S1 := hide ((unhide S1).later hb9)
          replace S2 := hide ((unhide S2).later hb9)
          replace HB := hide (Below.step (unhide HB) hb9)
          clear hb9
          go_wp2_with fail
          refine (awake8_any _).mono ?_
          rintro e w2 ⟨rfl, hb2⟩
          go_wp2
          go_ret
          exact ⟨rfl, Below.step (unhide HB) hb2⟩
        · have hq2' : q2 = false := by simpa using hq2
          subst hq2'
          clear hq2
          go_wp2_with fail
          refine (vnegK _ _ _ zs0 kx _ (unhide S0).vk (by omega)).mono ?_
          rintro e v352 ⟨a11, c11, rfl, h11, hb9⟩
          replace S0 := hide ((unhide S0).later hb9)
          replace S1 := hide ((unhide S1).later hb9)
          replace S2 := hide ((unhide S2).later hb9)
          replace HB := hide (Below.step (unhide HB) hb9)
          clear hb9
          go_wp2_with fail
          refine (vnegK _ _ _ zs1 kx _ (unhide S1).vk (by omega)).mono ?_
          rintro e v353 ⟨a12, c12, rfl, h12, hb9⟩
          replace S0 := hide ((unhide S0).later hb9)
          replace S1 := hide ((unhide S1).later hb9)
          replace S2 := hide ((unhide S2).later hb9)
          replace h11 := h11.later hb9
          replace HB := hide (Below.step (unhide HB) hb9)
          clear hb9
          go_wp2_with fail
          refine (sbelowB _ _ _ (vneg zs0) kx _ _ _ (vneg zs1) kx true _ (h11.vk (by omega)) (h12.vk (by omega)) (by omega) (by omega) ((vbelow_neg zs0 zs1).trans (unhide E1))).mono ?_
          rintro e v354 ⟨rfl, hb9⟩
          replace S0 := hide ((unhide S0).later hb9)
          replace S1 := hide ((unhide S1).later hb9)
          replace S2 := hide ((unhide S2).later hb9)
          replace HB := hide (Below.step (unhide HB) hb9)
          clear hb9
          clear h11 h12
          go_wp2_with fail
          refine (rofK 3 _ (by omega) (by omega)).mono ?_
          rintro e v355 ⟨b13, a13, l13, c13, rfl, h13, hb9⟩
          replace S0 := hide ((unhide S0).later hb9)
          replace S1 := hide ((unhide S1).later hb9)
          replace S2 := hide ((unhide S2).later hb9)
          replace HB := hide (Below.step (unhide HB) hb9)
          clear hb9
          go_wp2_with fail
          refine (vtimesK _ _ _ zs0 kx _ _ _ _ 3 2 _ (unhide S0).vk (h13.ik (by omega)) (by omega)).mono ?_
          rintro e v356 ⟨a14, c14, rfl, h14, hb9⟩
          replace S0 := hide ((unhide S0).later hb9)
          replace S1 := hide ((unhide S1).later hb9)
          replace S2 := hide ((unhide S2).later hb9)
          replace HB := hide (Below.step (unhide HB) hb9)
          clear hb9
          clear h13
          go_wp2_with fail
          refine (rofK 3 _ (by omega) (by omega)).mono ?_
          rintro e v357 ⟨b15, a15, l15, c15, rfl, h15, hb9⟩
          replace S0 := hide ((unhide S0).later hb9)
          replace S1 := hide ((unhide S1).later hb9)
          replace S2 := hide ((unhide S2).later hb9)
          replace h14 := h14.later hb9
          replace HB := hide (Below.step (unhide HB) hb9)
          clear hb9
          go_wp2_with fail
          refine (vtimesK _ _ _ zs1 kx _ _ _ _ 3 2 _ (unhide S1).vk (h15.ik (by omega)) (by omega)).mono ?_
          rintro e v358 ⟨a16, c16, rfl, h16, hb9⟩
          replace S0 := hide ((unhide S0).later hb9)
          replace S1 := hide ((unhide S1).later hb9)
          replace S2 := hide ((unhide S2).later hb9)
          replace h14 := h14.later hb9
          replace HB := hide (Below.step (unhide HB) hb9)
          clear hb9
          clear h15
          go_wp2_with fail
          refine (sbelowB _ _ _ (vtimes zs0 3) (kx + 2) _ _ _ (vtimes zs1 3) (kx + 2) true _ (h14.vk (by omega)) (h16.vk (by omega)) (by omega) (by omega) ((vbelow_three zs0 zs1).trans (unhide E1))).mono ?_
          rintro e v359 ⟨rfl, hb9⟩
          replace S0 := hide ((unhide S0).later hb9)
          replace S1 := hide ((unhide S1).later hb9)
          replace S2 := hide ((unhide S2).later hb9)
          replace HB := hide (Below.step (unhide HB) hb9)
          clear hb9
          clear h14 h16
          go_wp2_with fail
          refine (sagreeB _ _ _ zs0 kx _ _ _ zs1 kx true _ (unhide S0).vk (unhide S1).vk  (vbelow_agree (unhide E1))).mono ?_
          rintro e v360 ⟨rfl, hb9⟩
          replace S0 := hide ((unhide S0).later hb9)
          replace S1 := hide ((unhide S1).later hb9)
          replace S2 := hide ((unhide S2).later hb9)
          replace HB := hide (Below.step (unhide HB) hb9)
          clear hb9
          go_wp2_with fail
          refine (awake8_any _).mono ?_
          rintro e w2 ⟨rfl, hb2⟩
          go_wp2
          go_ret
          exact ⟨rfl, Below.step (unhide HB) hb2⟩
      · have hq3' : q3 = false := by simpa using hq3
        subst hq3'
        clear hq3
        by_cases hq2 : q2 = true
        · subst hq2
          go_wp2_with fail
          refine (sbelowB _ _ _ zs0 kx _ _ _ zs2 kx true _ (unhide S0).vk (unhide S2).vk (by omega) (by omega) (vbelow_trans (unhide E1) (unhide E2))).mono ?_
          rintro e v521 ⟨rfl, hb9⟩
          replace S0 := hide ((unhide S0).later hb9)
          replace S1 := hide ((unhide S1).later hb9)
          replace S2 := hide ((unhide S2).later hb9)
          replace HB := hide (Below.step (unhide HB) hb9)
          clear hb9
          go_wp2_with fail
          refine (vnegK _ _ _ zs0 kx _ (unhide S0).vk (by omega)).mono ?_
          rintro e v522 ⟨a11, c11, rfl, h11, hb9⟩
          replace S0 := hide ((unhide S0).later hb9)
          replace S1 := hide ((unhide S1).later hb9)
          replace S2 := hide ((unhide S2).later hb9)
          replace HB := hide (Below.step (unhide HB) hb9)
          clear hb9
          go_wp2_with fail
          refine (vnegK _ _ _ zs1 kx _ (unhide S1).vk (by omega)).mono ?_
          rintro e v523 ⟨a12, c12, rfl, h12, hb9⟩
          replace S0 := hide ((unhide S0).later hb9)
          replace S1 := hide ((unhide S1).later hb9)
          replace S2 := hide ((unhide S2).later hb9)
          replace h11 := h11.later hb9
          replace HB := hide (Below.step (unhide HB) hb9)
          clear hb9
          go_wp2_with fail
          refine (sbelowB _ _ _ (vneg zs0) kx _ _ _ (vneg zs1) kx true _ (h11.vk (by omega)) (h12.vk (by omega)) (by omega) (by omega) ((vbelow_neg zs0 zs1).trans (unhide E1))).mono ?_
          rintro e v524 ⟨rfl, hb9⟩
          replace S0 := hide ((unhide S0).later hb9)
          replace S1 := hide ((unhide S1).later hb9)
          replace S2 := hide ((unhide S2).later hb9)
          replace HB := hide (Below.step (unhide HB) hb9)
          clear hb9
          clear h11 h12
          go_wp2_with fail
          refine (rofK 3 _ (by omega) (by omega)).mono ?_
          rintro e v525 ⟨b13, a13, l13, c13, rfl, h13, hb9⟩
          replace S0 := hide ((unhide S0).later hb9)
          replace S1 := hide ((unhide S1).later hb9)
          replace S2 := hide ((unhide S2).later hb9)
          replace HB := hide (Below.step (unhide HB) hb9)
          clear hb9
          go_wp2_with fail
          refine (vtimesK _ _ _ zs0 kx _ _ _ _ 3 2 _ (unhide S0).vk (h13.ik (by omega)) (by omega)).mono ?_
          rintro e v526 ⟨a14, c14, rfl, h14, hb9⟩
          replace S0 := hide ((unhide S0).later hb9)
          replace S1 := hide ((unhide S1).later hb9)
          replace S2 := hide ((unhide S2).later hb9)
          replace HB := hide (Below.step (unhide HB) hb9)
          clear hb9
          clear h13
          go_wp2_with fail
          refine (rofK 3 _ (by omega) (by omega)).mono ?_
          rintro e v527 ⟨b15, a15, l15, c15, rfl, h15, hb9⟩
          replace S0 := hide ((unhide S0).later hb9)
          replace S1 := hide ((unhide S1).later hb9)
          replace S2 := hide ((unhide S2).later hb9)
          replace h14 := h14.later hb9
          replace HB := hide (Below.step (unhide HB) hb9)
          clear hb9
          go_wp2_with fail
          refine (vtimesK _ _ _ zs1 kx _ _ _ _ 3 2 _ (unhide S1).vk (h15.ik (by omega)) (by omega)).mono ?_
          rintro e v528 ⟨a16, c16, rfl, h16, hb9⟩
          replace S0 := hide ((unhide S0).later hb9)
          replace S1 := hide ((unhide S1).later hb9)
          replace S2 := hide ((unhide S2).later hb9)
          replace h14 := h14.later hb9
          replace HB := hide (Below.step (unhide HB) hb9)
          clear hb9
          clear h15
          go_wp2_with fail
          refine (sbelowB _ _ _ (vtimes zs0 3) (kx + 2) _ _ _ (vtimes zs1 3) (kx + 2) true _ (h14.vk (by omega)) (h16.vk (by omega)) (by omega) (by omega) ((vbelow_three zs0 zs1).trans (unhide E1))).mono ?_
          rintro e v529 ⟨rfl, hb9⟩
          replace S0 := hide ((unhide S0).later hb9)
          replace S1 := hide ((unhide S1).later hb9)
          replace S2 := hide ((unhide S2).later hb9)
          replace HB := hide (Below.step (unhide HB) hb9)
          clear hb9
          clear h14 h16
          go_wp2_with fail
          refine (sagreeB _ _ _ zs0 kx _ _ _ zs1 kx true _ (unhide S0).vk (unhide S1).vk  (vbelow_agree (unhide E1))).mono ?_
          rintro e v530 ⟨rfl, hb9⟩
          replace S0 := hide ((unhide S0).later hb9)
          replace S1 := hide ((unhide S1).later hb9)
          replace S2 := hide ((unhide S2).later hb9)
          replace HB := hide (Below.step (unhide HB) hb9)
          clear hb9
          go_wp2_with fail
          refine (awake8_any _).mono ?_
          rintro e w2 ⟨rfl, hb2⟩
          go_wp2
          go_ret
          exact ⟨rfl, Below.step (unhide HB) hb2⟩
        · have hq2' : q2 = false := by simpa using hq2
          subst hq2'
          clear hq2
          go_wp2_with fail
          refine (vnegK _ _ _ zs0 kx _ (unhide S0).vk (by omega)).mono ?_
          rintro e v551 ⟨a11, c11, rfl, h11, hb9⟩
          replace S0 := hide ((unhide S0).later hb9)
          replace S1 := hide ((unhide S1).later hb9)
          replace S2 := hide ((unhide S2).later hb9)
          replace HB := hide (Below.step (unhide HB) hb9)
          clear hb9
          go_wp2_with fail
          refine (vnegK _ _ _ zs1 kx _ (unhide S1).vk (by omega)).mono ?_
          rintro e v552 ⟨a12, c12, rfl, h12, hb9⟩
          replace S0 := hide ((unhide S0).later hb9)
          replace S1 := hide ((unhide S1).later hb9)
          replace S2 := hide ((unhide S2).later hb9)
          replace h11 := h11.later hb9
          replace HB := hide (Below.step (unhide HB) hb9)
          clear hb9
          go_wp2_with fail
          refine (sbelowB _ _ _ (vneg zs0) kx _ _ _ (vneg zs1) kx true _ (h11.vk (by omega)) (h12.vk (by omega)) (by omega) (by omega) ((vbelow_neg zs0 zs1).trans (unhide E1))).mono ?_
          rintro e v553 ⟨rfl, hb9⟩
          replace S0 := hide ((unhide S0).later hb9)
          replace S1 := hide ((unhide S1).later hb9)
          replace S2 := hide ((unhide S2).later hb9)
          replace HB := hide (Below.step (unhide HB) hb9)
          clear hb9
          clear h11 h12
          go_wp2_with fail
          refine (rofK 3 _ (by omega) (by omega)).mono ?_
          rintro e v554 ⟨b13, a13, l13, c13, rfl, h13, hb9⟩
          replace S0 := hide ((unhide S0).later hb9)
          replace S1 := hide ((unhide S1).later hb9)
          replace S2 := hide ((unhide S2).later hb9)
          replace HB := hide (Below.step (unhide HB) hb9)
          clear hb9
          go_wp2_with fail
          refine (vtimesK _ _ _ zs0 kx _ _ _ _ 3 2 _ (unhide S0).vk (h13.ik (by omega)) (by omega)).mono ?_
          rintro e v555 ⟨a14, c14, rfl, h14, hb9⟩
          replace S0 := hide ((unhide S0).later hb9)
          replace S1 := hide ((unhide S1).later hb9)
          replace S2 := hide ((unhide S2).later hb9)
          replace HB := hide (Below.step (unhide HB) hb9)
          clear hb9
          clear h13
          go_wp2_with fail
          refine (rofK 3 _ (by omega) (by omega)).mono ?_
          rintro e v556 ⟨b15, a15, l15, c15, rfl, h15, hb9⟩
          replace S0 := hide ((unhide S0).later hb9)
          replace S1 := hide ((unhide S1).later hb9)
          replace S2 := hide ((unhide S2).later hb9)
          replace h14 := h14.later hb9
          replace HB := hide (Below.step (unhide HB) hb9)
          clear hb9
          go_wp2_with fail
          refine (vtimesK _ _ _ zs1 kx _ _ _ _ 3 2 _ (unhide S1).vk (h15.ik (by omega)) (by omega)).mono ?_
          rintro e v557 ⟨a16, c16, rfl, h16, hb9⟩
          replace S0 := hide ((unhide S0).later hb9)
          replace S1 := hide ((unhide S1).later hb9)
          replace S2 := hide ((unhide S2).later hb9)
          replace h14 := h14.later hb9
          replace HB := hide (Below.step (unhide HB) hb9)
          clear hb9
          clear h15
          go_wp2_with fail
          refine (sbelowB _ _ _ (vtimes zs0 3) (kx + 2) _ _ _ (vtimes zs1 3) (kx + 2) true _ (h14.vk (by omega)) (h16.vk (by omega)) (by omega) (by omega) ((vbelow_three zs0 zs1).trans (unhide E1))).mono ?_
          rintro e v558 ⟨rfl, hb9⟩
          replace S0 := hide ((unhide S0).later hb9)
          replace S1 := hide ((unhide S1).later hb9)
          replace S2 := hide ((unhide S2).later hb9)
          replace HB := hide (Below.step (unhide HB) hb9)
          clear hb9
          clear h14 h16
          go_wp2_with fail
          refine (sagreeB _ _ _ zs0 kx _ _ _ zs1 kx true _ (unhide S0).vk (unhide S1).vk  (vbelow_agree (unhide E1))).mono ?_
          rintro e v559 ⟨rfl, hb9⟩
          replace S0 := hide ((unhide S0).later hb9)
          replace S1 := hide ((unhide S1).later hb9)
          replace S2 := hide ((unhide S2).later hb9)
          replace HB := hide (Below.step (unhide HB) hb9)
          clear hb9
          go_wp2_with fail
          refine (awake8_any _).mono ?_
          rintro e w2 ⟨rfl, hb2⟩
          go_wp2
          go_ret
          exact ⟨rfl, Below.step (unhide HB) hb2⟩
    · have hq1' : q1 = false := by simpa using hq1
      subst hq1'
      clear hq1
      go_wp2_with fail
      refine (vnegK _ _ _ zs0 kx _ (unhide S0).vk (by omega)).mono ?_
      rintro e v101 ⟨a11, c11, rfl, h11, hb9⟩
      replace S0 := hide ((unhide S0).later hb9)
      replace S1 := hide ((unhide S1).later hb9)
      replace S2 := hide ((unhide S2).later hb9)
      replace HB := hide (Below.step (unhide HB) hb9)
      clear hb9
      go_wp2_with fail
      refine (vnegK _ _ _ zs1 kx _ (unhide S1).vk (by omega)).mono ?_
      rintro e v102 ⟨a12, c12, rfl, h12, hb9⟩
      replace S0 := hide ((unhide S0).later hb9)
      replace S1 := hide ((unhide S1).later hb9)
      replace S2 := hide ((unhide S2).later hb9)
      replace h11 := h11.later hb9
      replace HB := hide (Below.step (unhide HB) hb9)
      clear hb9
      go_wp2_with fail
      refine (sbelowB _ _ _ (vneg zs0) kx _ _ _ (vneg zs1) kx false _ (h11.vk (by omega)) (h12.vk (by omega)) (by omega) (by omega) ((vbelow_neg zs0 zs1).trans (unhide E1))).mono ?_
      rintro e v103 ⟨rfl, hb9⟩
      replace S0 := hide ((unhide S0).later hb9)
      replace S1 := hide ((unhide S1).later hb9)
      replace S2 := hide ((unhide S2).later hb9)
      replace HB := hide (Below.step (unhide HB) hb9)
      clear hb9
      clear h11 h12
      go_wp2_with fail
      refine (rofK 3 _ (by omega) (by omega)).mono ?_
      rintro e v104 ⟨b13, a13, l13, c13, rfl, h13, hb9⟩
      replace S0 := hide ((unhide S0).later hb9)
      replace S1 := hide ((unhide S1).later hb9)
      replace S2 := hide ((unhide S2).later hb9)
      replace HB := hide (Below.step (unhide HB) hb9)
      clear hb9
      go_wp2_with fail
      refine (vtimesK _ _ _ zs0 kx _ _ _ _ 3 2 _ (unhide S0).vk (h13.ik (by omega)) (by omega)).mono ?_
      rintro e v105 ⟨a14, c14, rfl, h14, hb9⟩
      replace S0 := hide ((unhide S0).later hb9)
      replace S1 := hide ((unhide S1).later hb9)
      replace S2 := hide ((unhide S2).later hb9)
      replace HB := hide (Below.step (unhide HB) hb9)
      clear hb9
      clear h13
      go_wp2_with fail
      refine (rofK 3 _ (by omega) (by omega)).mono ?_
      rintro e v106 ⟨b15, a15, l15, c15, rfl, h15, hb9⟩
      replace S0 := hide ((unhide S0).later hb9)
      replace S1 := hide ((unhide S1).later hb9)
      replace S2 := hide ((unhide S2).later hb9)
      replace h14 := h14.later hb9
      replace HB := hide (Below.step (unhide HB) hb9)
      clear hb9
      go_wp2_with fail
      refine (vtimesK _ _ _ zs1 kx _ _ _ _ 3 2 _ (unhide S1).vk (h15.ik (by omega)) (by omega)).mono ?_
      rintro e v107 ⟨a16, c16, rfl, h16, hb9⟩
      replace S0 := hide ((unhide S0).later hb9)
      replace S1 := hide ((unhide S1).later hb9)
      replace S2 := hide ((unhide S2).later hb9)
      replace h14 := h14.later hb9
      replace HB := hide (Below.step (unhide HB) hb9)
      clear hb9
      clear h15
      go_wp2_with fail
      refine (sbelowB _ _ _ (vtimes zs0 3) (kx + 2) _ _ _ (vtimes zs1 3) (kx + 2) false _ (h14.vk (by omega)) (h16.vk (by omega)) (by omega) (by omega) ((vbelow_three zs0 zs1).trans (unhide E1))).mono ?_
      rintro e v108 ⟨rfl, hb9⟩
      replace S0 := hide ((unhide S0).later hb9)
      replace S1 := hide ((unhide S1).later hb9)
      replace S2 := hide ((unhide S2).later hb9)
      replace HB := hide (Below.step (unhide HB) hb9)
      clear hb9
      clear h14 h16
      go_wp2_with fail
      refine (awake8_any _).mono ?_
      rintro e w2 ⟨rfl, hb2⟩
      go_wp2
      go_ret
      exact ⟨rfl, Below.step (unhide HB) hb2⟩
  · have hf' : q = 1 := by omega
    subst hf'
    clear hq01 hq hf hbR hb1
    go_wp2_with fail
    refine (awake8_any _).mono ?_
    rintro e w2 ⟨rfl, hb2⟩
    go_wp2
    go_ret
    exact ⟨rfl, Below.step (unhide HB) hb2⟩
#print axioms shadeOrder_walk
end Go.Proofs.Ytgppplhbhgfmkaa
