/-
  The walk of VecOrder: it tells true.
-/
import Derived.Test.YtdbimajopclndaaLaw7
import Derived.Deep.CutRange
namespace Go.Proofs.Ytdbimajopclndaa
open Go.RowKit Lb

set_option maxRecDepth 20000 in
set_option maxHeartbeats 4000000 in
theorem vecOrder_walk (a0 : Option Addr) (len0 cap0 : Nat) (zs0 : List Int) (a1 : Option Addr) (len1 cap1 : Nat) (zs1 : List Int) (a2 : Option Addr) (len2 cap2 : Nat) (zs2 : List Int) (w : World) (r0 : VI w a0 len0 cap0 zs0) (r1 : VI w a1 len1 cap1 zs1) (r2 : VI w a2 len2 cap2 zs2) :
    Calls Try.prog 7 #[.slice a0 len0 cap0, .slice a1 len1 cap1, .slice a2 len2 cap2] w fun e w' => e = .returned (.bool true) ∧ Below w.heap.size w w' := by
  have L0 := hide r0.len_eq
  have L1 := hide r1.len_eq
  have L2 := hide r2.len_eq
  go_enter Try.func7, Try.ntmps7
  go_wp2_with fail
  have hbR := below_new w (.cells #[.slice a0 len0 cap0, .slice a1 len1 cap1, .slice a2 len2 cap2] 23)
  refine (few7_3 a0 len0 cap0 zs0 a1 len1 cap1 zs1 a2 len2 cap2 zs2 w w.heap.size rfl r0 r1 r2).mono ?_
  rintro e v0 ⟨q, rfl, hq01, hq, hb1⟩
  have HB := hide hb1
  by_cases hf : q = 0
  · subst hf
    obtain ⟨s0, s1, s2⟩ := hq rfl
    have n0 := s0.1
    have n1 := s1.1
    have n2 := s2.1
    have S0 := hide (vs_later r0 hbR s0 _ hb1)
    have S1 := hide (vs_later r1 hbR s1 _ hb1)
    have S2 := hide (vs_later r2 hbR s2 _ hb1)
    obtain ⟨kx, ekx⟩ : ∃ kx, kx = 12 := ⟨_, rfl⟩
    rw [← ekx] at S0 S1 S2
    have hkx : kx ≤ 12 := by omega
    clear ekx hq01 hq hbR hb1 s0 r0 s1 r1 s2 r2
    go_wp2_with fail
    refine (vcmpK _ _ _ zs0 kx _ _ _ zs1 kx _ (unhide S0).vk (unhide S1).vk (by omega) (by omega) (by omega) (by omega)).mono ?_
    rintro e v1 ⟨x, rfl, hx, hxl, hxh, hb9⟩
    replace S0 := hide ((unhide S0).later hb9)
    replace S1 := hide ((unhide S1).later hb9)
    replace S2 := hide ((unhide S2).later hb9)
    replace HB := hide (Below.step (unhide HB) hb9)
    clear hb9
    go_wp2_with fail
    refine (vcmpK _ _ _ zs1 kx _ _ _ zs2 kx _ (unhide S1).vk (unhide S2).vk (by omega) (by omega) (by omega) (by omega)).mono ?_
    rintro e v2 ⟨y, rfl, hy, hyl, hyh, hb9⟩
    replace S0 := hide ((unhide S0).later hb9)
    replace S1 := hide ((unhide S1).later hb9)
    replace S2 := hide ((unhide S2).later hb9)
    replace HB := hide (Below.step (unhide HB) hb9)
    clear hb9
    go_wp2_with fail
    refine (vcmpK _ _ _ zs0 kx _ _ _ zs2 kx _ (unhide S0).vk (unhide S2).vk (by omega) (by omega) (by omega) (by omega)).mono ?_
    rintro e v3 ⟨z, rfl, hz, hzl, hzh, hb9⟩
    replace S0 := hide ((unhide S0).later hb9)
    replace S1 := hide ((unhide S1).later hb9)
    replace S2 := hide ((unhide S2).later hb9)
    replace HB := hide (Below.step (unhide HB) hb9)
    clear hb9
    have HX := hide hx
    have HX' := hide hx.swap
    have H1 := hide (hx.trans_le hy hz)
    have H2 := hide (hx.trans_eq hy hz)
    clear hx hy hz
    go_upto_region 4 with fail
    go_cut [55] from 26 to 55 (fun s wx => s = .bool false ∧ Below v3.heap.size v3 wx)
    case first =>
      go_wp2_with fail
      refine (vcmpK _ _ _ zs1 kx _ _ _ zs0 kx _ (unhide S1).vk (unhide S0).vk (by omega) (by omega) (by omega) (by omega)).mono ?_
      rintro e v9 ⟨c, rfl, hc, _, _, hb9⟩
      obtain rfl := isCmp_inj hc (unhide HX')
      clear hc HX HX' S0 S1 S2 HB
      rcases (by omega : x = -1 ∨ x = 0 ∨ x = 1) with rfl | rfl | rfl <;> rcases (by omega : y = -1 ∨ y = 0 ∨ y = 1) with rfl | rfl | rfl <;> rcases (by omega : z = -1 ∨ z = 0 ∨ z = 1) with rfl | rfl | rfl
      all_goals first | exact absurd (unhide H1 (by omega) (by omega)) (by omega) | exact absurd (unhide H2 rfl rfl) (by omega) | (clear H1 H2 hxl hxh hyl hyh hzl hzh; go_wp2; go_meet; exact ⟨rfl, hb9⟩)
    case rest =>
      obtain ⟨rfl, hb9⟩ := hcut
      replace S0 := hide ((unhide S0).later hb9)
      replace S1 := hide ((unhide S1).later hb9)
      replace S2 := hide ((unhide S2).later hb9)
      replace HB := hide (Below.step (unhide HB) hb9)
      clear hb9
      clear H1 H2 HX' hxl hxh hyl hyh hzl hzh
      go_wp2_with fail
      refine (vaddK _ _ _ zs0 kx _ _ _ zs2 kx _ (unhide S0).vk (unhide S2).vk (by omega) (by omega) (by omega) (by omega)).mono ?_
      rintro e v4 ⟨a1, c1, rfl, h1, hb9⟩
      replace S0 := hide ((unhide S0).later hb9)
      replace S1 := hide ((unhide S1).later hb9)
      replace S2 := hide ((unhide S2).later hb9)
      replace HB := hide (Below.step (unhide HB) hb9)
      clear hb9
      go_wp2_with fail
      refine (vaddK _ _ _ zs1 kx _ _ _ zs2 kx _ (unhide S1).vk (unhide S2).vk (by omega) (by omega) (by omega) (by omega)).mono ?_
      rintro e v5 ⟨a2, c2, rfl, h2, hb9⟩
      replace S0 := hide ((unhide S0).later hb9)
      replace S1 := hide ((unhide S1).later hb9)
      replace S2 := hide ((unhide S2).later hb9)
      replace h1 := h1.later hb9
      replace HB := hide (Below.step (unhide HB) hb9)
      clear hb9
      go_wp2_with fail
      refine (vcmpK _ _ _ (vadd zs0 zs2) (max kx kx + 1) _ _ _ (vadd zs1 zs2) (max kx kx + 1) _ (h1.vk (by omega)) (h2.vk (by omega)) (by omega) (by omega) (by omega) (by omega)).mono ?_
      rintro e v6 ⟨c, rfl, hc, _, _, hb9⟩
      replace S0 := hide ((unhide S0).later hb9)
      replace S1 := hide ((unhide S1).later hb9)
      replace S2 := hide ((unhide S2).later hb9)
      replace HB := hide (Below.step (unhide HB) hb9)
      clear hb9
      clear h1 h2
      obtain rfl := isCmp_inj hc ((unhide HX).add zs2)
      clear hc
      go_wp2_with fail
      refine (vsubK _ _ _ zs0 kx _ _ _ zs1 kx _ (unhide S0).vk (unhide S1).vk (by omega) (by omega) (by omega) (by omega)).mono ?_
      rintro e v7 ⟨a1, c1, rfl, h1, hb9⟩
      replace S0 := hide ((unhide S0).later hb9)
      replace S1 := hide ((unhide S1).later hb9)
      replace S2 := hide ((unhide S2).later hb9)
      replace HB := hide (Below.step (unhide HB) hb9)
      clear hb9
      have N1 := hide (vnoughtK _ _ _ (vsub zs0 zs1) (max kx kx + 1) _ (h1.vk (by omega)))
      rw [← (unhide HX).sub] at N1
      go_wp2_with fail
      refine (unhide N1).mono ?_
      rintro e v8 ⟨rfl, hb9⟩
      replace S0 := hide ((unhide S0).later hb9)
      replace S1 := hide ((unhide S1).later hb9)
      replace S2 := hide ((unhide S2).later hb9)
      replace HB := hide (Below.step (unhide HB) hb9)
      clear hb9
      clear h1
      clear N1 HX
      go_wp2_with fail
      refine (awake7_any _).mono ?_
      rintro e w2 ⟨rfl, hb2⟩
      go_wp2
      go_ret
      exact ⟨rfl, Below.step (unhide HB) hb2⟩
  · have hf' : q = 1 := by omega
    subst hf'
    clear hq01 hq hf hbR hb1
    go_wp2_with fail
    refine (awake7_any _).mono ?_
    rintro e w2 ⟨rfl, hb2⟩
    go_wp2
    go_ret
    exact ⟨rfl, Below.step (unhide HB) hb2⟩
#print axioms vecOrder_walk
end Go.Proofs.Ytdbimajopclndaa
