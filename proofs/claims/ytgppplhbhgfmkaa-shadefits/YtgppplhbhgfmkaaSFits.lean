/-
  The walk of ShadeFits: it tells true.
-/
import Derived.Test.YtgppplhbhgfmkaaJF
import Derived.Test.YtgppplhbhgfmkaaSLaw
import Derived.Deep.CutRange
namespace Go.Proofs.Ytgppplhbhgfmkaa
open Go.RowKit Lb

theorem IsFit.zero {a b : List Int} {q : Int} (h : IsFit a b q) (hn : vnought a = true) : q = 0 := by
  rcases h with ⟨_, h⟩ | ⟨e, _⟩
  · exact h
  · rw [e] at hn; simp at hn
theorem sgn_pos (q : Int) : q.sign > 0 ↔ 0 < q := by
  rcases Int.lt_trichotomy q 0 with c | c | c
  · rw [Int.sign_eq_neg_one_of_neg c]; omega
  · rw [c]; decide
  · rw [Int.sign_eq_one_of_pos c]; omega

set_option maxRecDepth 20000 in
set_option maxHeartbeats 4000000 in
theorem shadeFits_walk (a0 : Option Addr) (len0 cap0 : Nat) (zs0 : List Int) (a1 : Option Addr) (len1 cap1 : Nat) (zs1 : List Int) (m2 : Int) (w : World) (r0 : VI w a0 len0 cap0 zs0) (r1 : VI w a1 len1 cap1 zs1) (r2 : (Lit.int .u8 m2).wf = true) :
    Calls Try.prog 8 #[.slice a0 len0 cap0, .slice a1 len1 cap1, .int .u8 m2] w fun e w' => e = .returned (.bool true) ∧ Below w.heap.size w w' := by
  have L0 := hide r0.len_eq
  have L1 := hide r1.len_eq
  go_enter Try.func8, Try.ntmps8
  go_wp2_with fail
  have hbR := below_new w (.cells #[.slice a0 len0 cap0, .slice a1 len1 cap1] 23)
  refine (few7_2 a0 len0 cap0 zs0 a1 len1 cap1 zs1 w w.heap.size rfl r0 r1).mono ?_
  rintro e v0 ⟨q, rfl, hq01, hq, hb1⟩
  have HB := hide hb1
  by_cases hf : q = 0
  · subst hf
    obtain ⟨s0, s1⟩ := hq rfl
    have n0 := s0.1
    have n1 := s1.1
    have S0 := hide (vs_later r0 hbR s0 _ hb1)
    have S1 := hide (vs_later r1 hbR s1 _ hb1)
    obtain ⟨kx, ekx⟩ : ∃ kx, kx = 12 := ⟨_, rfl⟩
    rw [← ekx] at S0 S1
    have hkx : kx ≤ 12 := by omega
    clear ekx hq01 hq hbR hb1 s0 r0 s1 r1
    obtain ⟨M, eM⟩ : ∃ M : Nat, m2 = (M : Int) := ⟨m2.toNat, by have := bounds_u8 r2; omega⟩
    subst eM
    have hM : M ≤ 255 := by have := bounds_u8 r2; omega
    clear r2
    obtain ⟨Mk, eMk⟩ : ∃ Mk : Int, Mk = (M : Int) % 5 := ⟨_, rfl⟩
    have hMk : 0 ≤ Mk ∧ Mk ≤ 4 := by omega
    go_wp2_with fail
    rw [← eMk]
    have HM := hide hMk
    clear eMk hM hMk
    refine (rofK Mk _ (by have := unhide HM; omega) (by have := unhide HM; omega)).mono ?_
    rintro e v1 ⟨b11, a11, l11, c11, rfl, h11, hb9⟩
    replace S0 := hide ((unhide S0).later hb9)
    replace S1 := hide ((unhide S1).later hb9)
    replace HB := hide (Below.step (unhide HB) hb9)
    clear hb9
    go_wp2_with fail
    refine (vtimesK _ _ _ zs0 kx _ _ _ _ Mk 2 _ (unhide S0).vk (h11.ik (by omega)) (by omega)).mono ?_
    rintro e v2 ⟨a12, c12, rfl, h12, hb9⟩
    replace S0 := hide ((unhide S0).later hb9)
    replace S1 := hide ((unhide S1).later hb9)
    replace HB := hide (Below.step (unhide HB) hb9)
    clear hb9
    clear h11
    go_wp2_with fail
    refine (vaddK _ _ _ zs1 kx _ _ _ (vtimes zs0 Mk) (kx + 2) _ (unhide S1).vk (h12.vk (by omega)) (by omega) (by omega) (by omega) (by omega)).mono ?_
    rintro e v3 ⟨a13, c13, rfl, h13, hb9⟩
    replace S0 := hide ((unhide S0).later hb9)
    replace S1 := hide ((unhide S1).later hb9)
    replace HB := hide (Below.step (unhide HB) hb9)
    clear hb9
    clear h12
    obtain ⟨p, ep⟩ : ∃ p, p = max len1 len0 := ⟨_, rfl⟩
    rw [← ep] at h13 ⊢
    have hp : p ≤ 70 := by omega
    clear ep
    obtain ⟨ys, eys⟩ : ∃ ys, ys = vadd zs1 (vtimes zs0 Mk) := ⟨_, rfl⟩
    obtain ⟨K, eK⟩ : ∃ K, K = max kx (kx + 2) + 1 := ⟨_, rfl⟩
    rw [← eys, ← eK] at h13
    have hK : K ≤ 20 := by omega
    clear eys eK HM
    go_wp2_with fail
    refine (sfitsK _ _ _ zs0 kx _ _ _ ys K _ (unhide S0).vk (h13.vk (by omega)) (by omega) (by omega)).mono ?_
    rintro e v4 ⟨b14, a14, l14, c14, q, rfl, h14, hf, hb9⟩
    replace S0 := hide ((unhide S0).later hb9)
    replace S1 := hide ((unhide S1).later hb9)
    replace h13 := h13.later hb9
    replace HB := hide (Below.step (unhide HB) hb9)
    clear hb9
    have HF := hide hf
    clear hf
    obtain ⟨q1, eq1⟩ : ∃ q, q = vnought zs0 := ⟨_, rfl⟩
    have E1 := hide eq1.symm
    clear eq1
    go_upto_region 5 with fail
    obtain ⟨v5, hWe⟩ : ∃ W', W' = (v4.alloc (.cells #[.bool b14, .slice a14 l14 c14] 31)) := ⟨_, rfl⟩
    obtain ⟨BQ, hb9⟩ := boxes1 v4 b14 a14 l14 c14 hWe
    rw [← hWe]
    clear hWe
    replace S0 := hide ((unhide S0).later hb9)
    replace S1 := hide ((unhide S1).later hb9)
    replace h13 := h13.later hb9
    replace h14 := h14.later hb9
    replace HB := hide (Below.step (unhide HB) hb9)
    clear hb9
    go_wp2_with fail
    refine (vnoughtB _ _ _ zs0 kx q1 _ (unhide S0).vk (unhide E1)).mono ?_
    rintro e v6 ⟨rfl, hb9⟩
    replace S0 := hide ((unhide S0).later hb9)
    replace S1 := hide ((unhide S1).later hb9)
    replace h13 := h13.later hb9
    replace h14 := h14.later hb9
    replace BQ := BQ.later hb9
    replace HB := hide (Below.step (unhide HB) hb9)
    clear hb9
    by_cases hq1 : q1 = true
    · subst hq1
      obtain rfl : q = 0 := (unhide HF).zero (unhide E1)
      have hsB := BQ.lt
      obtain ⟨fBQ1, fBQ2, _, _⟩ := BQ.facts
      go_wp2_with fail
      refine (rsignK b14 a14 l14 c14 0 K 0 _ (h14.ik (by omega)) rfl).mono ?_
      rintro e v101 ⟨rfl, hb9⟩
      clear fBQ1 fBQ2
      replace S0 := hide ((unhide S0).later hb9)
      replace S1 := hide ((unhide S1).later hb9)
      replace h13 := h13.later hb9
      replace h14 := h14.later hb9
      replace BQ := BQ.later hb9
      replace HB := hide (Below.step (unhide HB) hb9)
      clear hb9
      go_wp2_with fail
      refine (awake8_any _).mono ?_
      rintro e w2 ⟨rfl, hb2⟩
      go_wp2
      go_ret
      exact ⟨rfl, Below.step (unhide HB) hb2⟩
    · have hq1' : q1 = false := by simpa using hq1
      subst hq1'
      clear hq1
      have h0q := (unhide HF).nonneg
      have H0 := hide h0q
      obtain ⟨s, es⟩ : ∃ s, s = q.sign := ⟨_, rfl⟩
      have ES := hide es
      have hs0 : s ≥ 0 := by
        have := sgn_ge h0q
        rw [es]
        omega
      obtain ⟨B, eB⟩ : ∃ B, B = vbelow zs0 ys := ⟨_, rfl⟩
      have EB := hide eB.symm
      have hsB : B = true ↔ s > 0 := by rw [eB, ← (unhide HF).pos_iff (unhide E1), decide_eq_true_iff, es]; exact (sgn_pos q).symm
      have HSB := hide hsB
      clear es eB h0q hsB
      have hsL := BQ.lt
      by_cases hB : B = true
      · have hsp : s = 1 := by
          have h1 := (unhide HSB).1 hB
          have h2 := unhide ES
          rcases sgn_three q with e | e | e <;> omega
        subst hB
        subst hsp
        clear hs0
        obtain ⟨fBQ1, fBQ2, _, _⟩ := BQ.facts
        go_wp2_with fail
        refine (vtimesK _ _ _ zs0 kx _ _ _ _ q K _ (unhide S0).vk (h14.ik (by omega)) (by omega)).mono ?_
        rintro e v301 ⟨a15, c15, rfl, h15, hb9⟩
        clear fBQ1 fBQ2
        replace S0 := hide ((unhide S0).later hb9)
        replace S1 := hide ((unhide S1).later hb9)
        replace h13 := h13.later hb9
        replace h14 := h14.later hb9
        replace BQ := BQ.later hb9
        replace HB := hide (Below.step (unhide HB) hb9)
        clear hb9
        have hsL2 := BQ.lt
        obtain ⟨fBQ1, fBQ2, _, _⟩ := BQ.facts
        go_wp2_with fail
        refine (rsignK b14 a14 l14 c14 q K 1 _ (h14.ik (by omega)) (unhide ES)).mono ?_
        rintro e v302 ⟨rfl, hb9⟩
        clear fBQ1 fBQ2
        replace S0 := hide ((unhide S0).later hb9)
        replace S1 := hide ((unhide S1).later hb9)
        replace h13 := h13.later hb9
        replace h14 := h14.later hb9
        replace BQ := BQ.later hb9
        replace h15 := h15.later hb9
        replace HB := hide (Below.step (unhide HB) hb9)
        clear hb9
        have hsL3 := BQ.lt
        obtain ⟨fBQ1, fBQ2, _, _⟩ := BQ.facts
        go_wp2_with fail
        refine (rsignK b14 a14 l14 c14 q K 1 _ (h14.ik (by omega)) (unhide ES)).mono ?_
        rintro e v303 ⟨rfl, hb9⟩
        clear fBQ1 fBQ2
        replace S0 := hide ((unhide S0).later hb9)
        replace S1 := hide ((unhide S1).later hb9)
        replace h13 := h13.later hb9
        replace h14 := h14.later hb9
        replace BQ := BQ.later hb9
        replace h15 := h15.later hb9
        replace HB := hide (Below.step (unhide HB) hb9)
        clear hb9
        go_wp2_with fail
        refine (sbelowB _ _ _ zs0 kx _ _ _ ys K true _ (unhide S0).vk (h13.vk (by omega)) (by omega) (by omega) (unhide EB)).mono ?_
        rintro e v304 ⟨rfl, hb9⟩
        replace S0 := hide ((unhide S0).later hb9)
        replace S1 := hide ((unhide S1).later hb9)
        replace h13 := h13.later hb9
        replace h14 := h14.later hb9
        replace BQ := BQ.later hb9
        replace h15 := h15.later hb9
        replace HB := hide (Below.step (unhide HB) hb9)
        clear hb9
        go_wp2_with fail
        refine (sbelowB _ _ _ (vtimes zs0 q) (kx + K) _ _ _ ys K true _ (h15.vk (by omega)) (h13.vk (by omega)) (by omega) (by omega) ((unhide HF).below (unhide E1)).1).mono ?_
        rintro e v305 ⟨rfl, hb9⟩
        replace S0 := hide ((unhide S0).later hb9)
        replace S1 := hide ((unhide S1).later hb9)
        replace h13 := h13.later hb9
        replace h14 := h14.later hb9
        replace BQ := BQ.later hb9
        replace h15 := h15.later hb9
        replace HB := hide (Below.step (unhide HB) hb9)
        clear hb9
        go_wp2_with fail
        refine (vsubK _ _ _ ys K _ _ _ (vtimes zs0 q) (kx + K) _ (h13.vk (by omega)) (h15.vk (by omega)) (by omega) (by omega) (by omega) (by omega)).mono ?_
        rintro e v306 ⟨a16, c16, rfl, h16, hb9⟩
        replace S0 := hide ((unhide S0).later hb9)
        replace S1 := hide ((unhide S1).later hb9)
        replace h13 := h13.later hb9
        replace h14 := h14.later hb9
        replace BQ := BQ.later hb9
        replace h15 := h15.later hb9
        replace HB := hide (Below.step (unhide HB) hb9)
        clear hb9
        obtain ⟨p2, ep2⟩ : ∃ p2, p2 = max p len0 := ⟨_, rfl⟩
        rw [← ep2] at h16 ⊢
        have hp2 : p2 ≤ 70 := by omega
        clear ep2
        go_wp2_with fail
        refine (sbelowB _ _ _ zs0 kx _ _ _ (vsub ys (vtimes zs0 q)) (max K (kx + K) + 1) false _ (unhide S0).vk (h16.vk (by omega)) (by omega) (by omega) ((unhide HF).below (unhide E1)).2).mono ?_
        rintro e v307 ⟨rfl, hb9⟩
        replace S0 := hide ((unhide S0).later hb9)
        replace S1 := hide ((unhide S1).later hb9)
        replace h13 := h13.later hb9
        replace h14 := h14.later hb9
        replace BQ := BQ.later hb9
        replace h15 := h15.later hb9
        replace HB := hide (Below.step (unhide HB) hb9)
        clear hb9
        clear h16
        go_wp2_with fail
        refine (awake8_any _).mono ?_
        rintro e w2 ⟨rfl, hb2⟩
        go_wp2
        go_ret
        exact ⟨rfl, Below.step (unhide HB) hb2⟩
      · have hsn : s = 0 := by
          have h1 : ¬ s > 0 := fun c => hB ((unhide HSB).2 c)
          omega
        have hB' : B = false := by simpa using hB
        subst hB'
        subst hsn
        clear hB hs0
        obtain ⟨fBQ1, fBQ2, _, _⟩ := BQ.facts
        go_wp2_with fail
        refine (vtimesK _ _ _ zs0 kx _ _ _ _ q K _ (unhide S0).vk (h14.ik (by omega)) (by omega)).mono ?_
        rintro e v401 ⟨a15, c15, rfl, h15, hb9⟩
        clear fBQ1 fBQ2
        replace S0 := hide ((unhide S0).later hb9)
        replace S1 := hide ((unhide S1).later hb9)
        replace h13 := h13.later hb9
        replace h14 := h14.later hb9
        replace BQ := BQ.later hb9
        replace HB := hide (Below.step (unhide HB) hb9)
        clear hb9
        have hsL2 := BQ.lt
        obtain ⟨fBQ1, fBQ2, _, _⟩ := BQ.facts
        go_wp2_with fail
        refine (rsignK b14 a14 l14 c14 q K 0 _ (h14.ik (by omega)) (unhide ES)).mono ?_
        rintro e v402 ⟨rfl, hb9⟩
        clear fBQ1 fBQ2
        replace S0 := hide ((unhide S0).later hb9)
        replace S1 := hide ((unhide S1).later hb9)
        replace h13 := h13.later hb9
        replace h14 := h14.later hb9
        replace BQ := BQ.later hb9
        replace h15 := h15.later hb9
        replace HB := hide (Below.step (unhide HB) hb9)
        clear hb9
        have hsL3 := BQ.lt
        obtain ⟨fBQ1, fBQ2, _, _⟩ := BQ.facts
        go_wp2_with fail
        refine (rsignK b14 a14 l14 c14 q K 0 _ (h14.ik (by omega)) (unhide ES)).mono ?_
        rintro e v403 ⟨rfl, hb9⟩
        clear fBQ1 fBQ2
        replace S0 := hide ((unhide S0).later hb9)
        replace S1 := hide ((unhide S1).later hb9)
        replace h13 := h13.later hb9
        replace h14 := h14.later hb9
        replace BQ := BQ.later hb9
        replace h15 := h15.later hb9
        replace HB := hide (Below.step (unhide HB) hb9)
        clear hb9
        go_wp2_with fail
        refine (sbelowB _ _ _ zs0 kx _ _ _ ys K false _ (unhide S0).vk (h13.vk (by omega)) (by omega) (by omega) (unhide EB)).mono ?_
        rintro e v404 ⟨rfl, hb9⟩
        replace S0 := hide ((unhide S0).later hb9)
        replace S1 := hide ((unhide S1).later hb9)
        replace h13 := h13.later hb9
        replace h14 := h14.later hb9
        replace BQ := BQ.later hb9
        replace h15 := h15.later hb9
        replace HB := hide (Below.step (unhide HB) hb9)
        clear hb9
        go_wp2_with fail
        refine (sbelowB _ _ _ (vtimes zs0 q) (kx + K) _ _ _ ys K true _ (h15.vk (by omega)) (h13.vk (by omega)) (by omega) (by omega) ((unhide HF).below (unhide E1)).1).mono ?_
        rintro e v405 ⟨rfl, hb9⟩
        replace S0 := hide ((unhide S0).later hb9)
        replace S1 := hide ((unhide S1).later hb9)
        replace h13 := h13.later hb9
        replace h14 := h14.later hb9
        replace BQ := BQ.later hb9
        replace h15 := h15.later hb9
        replace HB := hide (Below.step (unhide HB) hb9)
        clear hb9
        go_wp2_with fail
        refine (vsubK _ _ _ ys K _ _ _ (vtimes zs0 q) (kx + K) _ (h13.vk (by omega)) (h15.vk (by omega)) (by omega) (by omega) (by omega) (by omega)).mono ?_
        rintro e v406 ⟨a16, c16, rfl, h16, hb9⟩
        replace S0 := hide ((unhide S0).later hb9)
        replace S1 := hide ((unhide S1).later hb9)
        replace h13 := h13.later hb9
        replace h14 := h14.later hb9
        replace BQ := BQ.later hb9
        replace h15 := h15.later hb9
        replace HB := hide (Below.step (unhide HB) hb9)
        clear hb9
        obtain ⟨p2, ep2⟩ : ∃ p2, p2 = max p len0 := ⟨_, rfl⟩
        rw [← ep2] at h16 ⊢
        have hp2 : p2 ≤ 70 := by omega
        clear ep2
        go_wp2_with fail
        refine (sbelowB _ _ _ zs0 kx _ _ _ (vsub ys (vtimes zs0 q)) (max K (kx + K) + 1) false _ (unhide S0).vk (h16.vk (by omega)) (by omega) (by omega) ((unhide HF).below (unhide E1)).2).mono ?_
        rintro e v407 ⟨rfl, hb9⟩
        replace S0 := hide ((unhide S0).later hb9)
        replace S1 := hide ((unhide S1).later hb9)
        replace h13 := h13.later hb9
        replace h14 := h14.later hb9
        replace BQ := BQ.later hb9
        replace h15 := h15.later hb9
        replace HB := hide (Below.step (unhide HB) hb9)
        clear hb9
        clear h16
        go_wp2_with fail
        refine (awake8_any _).mono ?_
        rintro e w2 ⟨rfl, hb2⟩
        go_wp2
        go_ret
        exact ⟨rfl, Below.step (unhide HB) hb2⟩
  · have hf' : q = 1 := by omega
    subst hf'
    clear hq01 hq hf hbR hb1
    go_wp2_with fail
    refine (awake8_any _).mono ?_
    rintro e w2 ⟨rfl, hb2⟩
    go_wp2
    go_ret
    exact ⟨rfl, Below.step (unhide HB) hb2⟩
#print axioms shadeFits_walk
end Go.Proofs.Ytgppplhbhgfmkaa
