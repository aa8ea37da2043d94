/-
  The walk of ShadeTells: it tells true.
-/
import Derived.Test.YtgppplhbhgfmkaaJF
import Derived.Test.YtgppplhbhgfmkaaSLaw
import Derived.Deep.CutRange
namespace Go.Proofs.Ytgppplhbhgfmkaa
open Go.RowKit Lb

set_option maxRecDepth 20000 in
set_option maxHeartbeats 4000000 in
theorem shadeTells_walk (a0 : Option Addr) (len0 cap0 : Nat) (zs0 : List Int) (a1 : Option Addr) (len1 cap1 : Nat) (zs1 : List Int) (w : World) (r0 : VI w a0 len0 cap0 zs0) (r1 : VI w a1 len1 cap1 zs1) :
    Calls Try.prog 4 #[.slice a0 len0 cap0, .slice a1 len1 cap1] w fun e w' => e = .returned (.bool true) ∧ Below w.heap.size w w' := by
  have L0 := hide r0.len_eq
  have L1 := hide r1.len_eq
  go_enter Try.func4, Try.ntmps4
  go_wp2_with fail
  have hbR := below_new w (.cells #[.slice a0 len0 cap0, .slice a1 len1 cap1] 23)
  refine (few7_2 a0 len0 cap0 zs0 a1 len1 cap1 zs1 w w.heap.size rfl r0 r1).mono ?_
  rintro e v0 ⟨q, rfl, hq01, hq, hb1⟩
  have HB := hide hb1
  by_cases hf : q = 0
  · subst hf
    obtain ⟨s0, s1⟩ := hq rfl
    have n0 := s0.1
    have n1 := s1.1
    have S0 := hide (vs_later r0 hbR s0 _ hb1)
    have S1 := hide (vs_later r1 hbR s1 _ hb1)
    obtain ⟨kx, ekx⟩ : ∃ kx, kx = 12 := ⟨_, rfl⟩
    rw [← ekx] at S0 S1
    have hkx : kx ≤ 12 := by omega
    clear ekx hq01 hq hbR hb1 s0 r0 s1 r1
    obtain ⟨q1, eq1⟩ : ∃ q, q = vagree zs0 zs1 := ⟨_, rfl⟩
    obtain ⟨q2, eq2⟩ : ∃ q, q = vbelow zs0 zs1 := ⟨_, rfl⟩
    have E1 := hide eq1.symm
    have E2 := hide eq2.symm
    clear eq1 eq2
    go_wp2_with fail
    refine (sagreeB _ _ _ zs0 kx _ _ _ zs1 kx q1 _ (unhide S0).vk (unhide S1).vk  (unhide E1)).mono ?_
    rintro e v1 ⟨rfl, hb9⟩
    replace S0 := hide ((unhide S0).later hb9)
    replace S1 := hide ((unhide S1).later hb9)
    replace HB := hide (Below.step (unhide HB) hb9)
    clear hb9
    go_wp2_with fail
    refine (ragreeB _ _ _ zs0 kx _ _ _ zs1 kx q1 _ (unhide S0).vk (unhide S1).vk (by omega) (by omega) (unhide E1)).mono ?_
    rintro e v2 ⟨rfl, hb9⟩
    replace S0 := hide ((unhide S0).later hb9)
    replace S1 := hide ((unhide S1).later hb9)
    replace HB := hide (Below.step (unhide HB) hb9)
    clear hb9
    go_wp2_with fail
    refine (sbelowB _ _ _ zs0 kx _ _ _ zs1 kx q2 _ (unhide S0).vk (unhide S1).vk (by omega) (by omega) (unhide E2)).mono ?_
    rintro e v3 ⟨rfl, hb9⟩
    replace S0 := hide ((unhide S0).later hb9)
    replace S1 := hide ((unhide S1).later hb9)
    replace HB := hide (Below.step (unhide HB) hb9)
    clear hb9
    go_wp2_with fail
    refine (rbelowB _ _ _ zs0 kx _ _ _ zs1 kx q2 _ (unhide S0).vk (unhide S1).vk (by omega) (by omega) (by omega) (unhide E2)).mono ?_
    rintro e v4 ⟨rfl, hb9⟩
    replace S0 := hide ((unhide S0).later hb9)
    replace S1 := hide ((unhide S1).later hb9)
    replace HB := hide (Below.step (unhide HB) hb9)
    clear hb9
    go_wp2_with fail
    refine (splusK _ _ _ zs0 kx _ (unhide S0).vk (by omega)).mono ?_
    rintro e v5 ⟨a11, c11, rfl, h11, hb9⟩
    replace S0 := hide ((unhide S0).later hb9)
    replace S1 := hide ((unhide S1).later hb9)
    replace HB := hide (Below.step (unhide HB) hb9)
    clear hb9
    go_wp2_with fail
    refine (rplusK _ _ _ zs0 kx _ (unhide S0).vk (by omega) (by omega)).mono ?_
    rintro e v6 ⟨a12, c12, rfl, h12, hb9⟩
    replace S0 := hide ((unhide S0).later hb9)
    replace S1 := hide ((unhide S1).later hb9)
    replace h11 := h11.later hb9
    replace HB := hide (Below.step (unhide HB) hb9)
    clear hb9
    go_wp2_with fail
    refine (rvsameK _ _ _ _ _ _ _ _ _ _ _ h11 h12 rfl).mono ?_
    rintro e v7 ⟨rfl, hb9⟩
    replace S0 := hide ((unhide S0).later hb9)
    replace S1 := hide ((unhide S1).later hb9)
    replace HB := hide (Below.step (unhide HB) hb9)
    clear hb9
    clear h11 h12
    go_wp2_with fail
    refine (sminusK _ _ _ zs0 kx _ (unhide S0).vk (by omega) (by omega)).mono ?_
    rintro e v8 ⟨a11, c11, rfl, h11, hb9⟩
    replace S0 := hide ((unhide S0).later hb9)
    replace S1 := hide ((unhide S1).later hb9)
    replace HB := hide (Below.step (unhide HB) hb9)
    clear hb9
    go_wp2_with fail
    refine (rvnegK _ _ _ zs0 kx _ (unhide S0) (by omega) (by omega)).mono ?_
    rintro e v9 ⟨a12, c12, rfl, h12, hb9⟩
    replace S0 := hide ((unhide S0).later hb9)
    replace S1 := hide ((unhide S1).later hb9)
    replace h11 := h11.later hb9
    replace HB := hide (Below.step (unhide HB) hb9)
    clear hb9
    go_wp2_with fail
    refine (rplusK _ _ _ (vneg zs0) (kx + 2) _ (h12.vk (by omega)) (by omega) (by omega)).mono ?_
    rintro e v10 ⟨a13, c13, rfl, h13, hb9⟩
    replace S0 := hide ((unhide S0).later hb9)
    replace S1 := hide ((unhide S1).later hb9)
    replace h11 := h11.later hb9
    replace HB := hide (Below.step (unhide HB) hb9)
    clear hb9
    clear h12
    go_wp2_with fail
    refine (rvsameK _ _ _ _ _ _ _ _ _ _ _ h11 h13 rfl).mono ?_
    rintro e v11 ⟨rfl, hb9⟩
    replace S0 := hide ((unhide S0).later hb9)
    replace S1 := hide ((unhide S1).later hb9)
    replace HB := hide (Below.step (unhide HB) hb9)
    clear hb9
    clear h11 h13
    go_wp2_with fail
    refine (sfitsK _ _ _ zs0 kx _ _ _ zs1 kx _ (unhide S0).vk (unhide S1).vk (by omega) (by omega)).mono ?_
    rintro e v12 ⟨b11, a11, l11, c11, x11, rfl, h11, hf11, hb9⟩
    replace S0 := hide ((unhide S0).later hb9)
    replace S1 := hide ((unhide S1).later hb9)
    replace HB := hide (Below.step (unhide HB) hb9)
    clear hb9
    go_wp2_with fail
    refine (rfitsK _ _ _ zs0 kx _ _ _ zs1 kx _ (unhide S0).vk (unhide S1).vk (by omega) (by omega) (by omega) (by omega)).mono ?_
    rintro e v13 ⟨b12, a12, l12, c12, x12, rfl, h12, hf12, hb9⟩
    replace S0 := hide ((unhide S0).later hb9)
    replace S1 := hide ((unhide S1).later hb9)
    replace h11 := h11.later hb9
    replace HB := hide (Below.step (unhide HB) hb9)
    clear hb9
    go_wp2_with fail
    refine (rsameK _ _ _ _ _ _ _ _ _ _ _ _ _ h11 h12 (isFit_inj hf11 hf12)).mono ?_
    rintro e v14 ⟨rfl, hb9⟩
    replace S0 := hide ((unhide S0).later hb9)
    replace S1 := hide ((unhide S1).later hb9)
    replace HB := hide (Below.step (unhide HB) hb9)
    clear hb9
    clear h11 h12
    clear hf11 hf12
    go_wp2_with fail
    refine (awake8_any _).mono ?_
    rintro e w2 ⟨rfl, hb2⟩
    go_wp2
    go_ret
    exact ⟨rfl, Below.step (unhide HB) hb2⟩
  · have hf' : q = 1 := by omega
    subst hf'
    clear hq01 hq hf hbR hb1
    go_wp2_with fail
    refine (awake8_any _).mono ?_
    rintro e w2 ⟨rfl, hb2⟩
    go_wp2
    go_ret
    exact ⟨rfl, Below.step (unhide HB) hb2⟩
#print axioms shadeTells_walk
end Go.Proofs.Ytgppplhbhgfmkaa
