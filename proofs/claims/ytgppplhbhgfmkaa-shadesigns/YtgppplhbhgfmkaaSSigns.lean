/-
  The walk of ShadeSigns: it tells true.
-/
import Derived.Test.YtgppplhbhgfmkaaJF
import Derived.Test.YtgppplhbhgfmkaaSLaw
import Derived.Deep.CutRange
namespace Go.Proofs.Ytgppplhbhgfmkaa
open Go.RowKit Lb

set_option maxRecDepth 20000 in
set_option maxHeartbeats 4000000 in
theorem shadeSigns_walk (a0 : Option Addr) (len0 cap0 : Nat) (zs0 : List Int) (w : World) (r0 : VI w a0 len0 cap0 zs0) :
    Calls Try.prog 3 #[.slice a0 len0 cap0] w fun e w' => e = .returned (.bool true) ∧ Below w.heap.size w w' := by
  have L0 := hide r0.len_eq
  go_enter Try.func3, Try.ntmps3
  go_wp2_with fail
  have hbR := below_new w (.cells #[.slice a0 len0 cap0] 23)
  refine (few7_1 a0 len0 cap0 zs0 w w.heap.size rfl r0).mono ?_
  rintro e v0 ⟨q, rfl, hq01, hq, hb1⟩
  have HB := hide hb1
  by_cases hf : q = 0
  · subst hf
    have s0 := hq rfl
    have n0 := s0.1
    have S0 := hide (vs_later r0 hbR s0 _ hb1)
    obtain ⟨kx, ekx⟩ : ∃ kx, kx = 12 := ⟨_, rfl⟩
    rw [← ekx] at S0
    have hkx : kx ≤ 12 := by omega
    clear ekx hq01 hq hbR hb1 s0 r0
    go_wp2_with fail
    refine (ssignsK _ _ _ zs0 kx _ (unhide S0).vk (by omega)).mono ?_
    rintro e v1 ⟨a11, c11, rfl, h11, hb9⟩
    replace S0 := hide ((unhide S0).later hb9)
    replace HB := hide (Below.step (unhide HB) hb9)
    clear hb9
    go_wp2_with fail
    refine (ssuppK _ _ _ zs0 kx _ (unhide S0).vk (by omega)).mono ?_
    rintro e v2 ⟨a12, q, c12, rfl, hq, h12, hb9⟩
    replace S0 := hide ((unhide S0).later hb9)
    replace h11 := h11.later hb9
    replace HB := hide (Below.step (unhide HB) hb9)
    clear hb9
    have HQ := hide hq
    have hq70 : q ≤ 70 := by have := suppN_le zs0 len0; omega
    clear hq
    have h := (unhide S0).vk
    have hne : ((len0 : Int) != (len0 : Int)) = false := by simp
    go_wp2_with fail
    go_loopw [5, 6, 25] (fun u t3 t wr => ∃ (i kk X : Nat), i ≤ len0 ∧ t = .int .i64 (i : Int) ∧ t3 = .int .i64 (kk : Int) ∧ u = .int .u64 (X : Int) ∧ (kk = (suppN zs0 i).length ∧ X = bitsN zs0 i) ∧ Below v2.heap.size v2 wr) (fun _ _ t _ => len0 - (intOf t).toNat)
    case atStart => exact ⟨0, 0, 0, Nat.zero_le _, rfl, rfl, rfl, ⟨rfl, rfl⟩, Below.refl _ _⟩
    case round =>
      obtain ⟨i, kk, X, hi, rfl, rfl, rfl, hkx2, hB⟩ := hrel
      have hkk : kk ≤ 70 := by have := suppN_le zs0 i; omega
      have HK := hide hkx2
      clear hkx2
      have HC := hide hB
      clear hB
      by_cases hlt : i < len0
      · obtain ⟨g2, off2, rfl⟩ := h.some (by omega)
        obtain ⟨b2, a2, l2, c2, E2, hy2⟩ := (h.later (unhide HC)).at hlt
        obtain ⟨f1, f2⟩ := E2.facts
        have hg2 := E2.1
        obtain ⟨g5, off5, rfl⟩ := h11.addr (by omega)
        have h5 := h11.later (unhide HC)
        obtain ⟨z, ez⟩ : ∃ z, z = zs0.getD i 0 := ⟨_, rfl⟩
        rw [← ez] at hy2
        have EZ := hide ez
        obtain ⟨s, es⟩ : ∃ s, s = z.sign := ⟨_, rfl⟩
        have ES := hide es
        have HG := hide (show (zs0.map Int.sign).getD i 0 = s by rw [es, ez]; exact map_at zs0 Int.sign rfl i)
        clear ez
        go_upto_region 11 with fail
        obtain ⟨W2, hW2⟩ : ∃ W2, W2 = wr.alloc (.cells #[.bool b2, .slice a2 l2 c2] 31) := ⟨_, rfl⟩
        obtain ⟨D0, hb1⟩ := boxes1 wr b2 a2 l2 c2 hW2
        rw [← hW2]
        clear hW2 f1 f2 E2 hg2
        replace hy2 := hy2.later hb1
        replace h5 := h5.later hb1
        replace HC := hide (Below.step (unhide HC) hb1)
        clear hb1
        have hi0 : (0 : Int) ≤ (i : Int) := by omega
        have hi1 : (i : Int) < (len0 : Int) := by omega
        have HW : Below W2.heap.size W2 W2.drew := (Below.refl _ _).drew
        have hss : (s != s) = false := by simp
        refine till_start (fun w' => w'.cell? ⟨g5, off5 + i, none⟩ = some (.int .i64 s) ∧ w'.cell? ⟨wr.heap.size, 0, none⟩ = some (.bool b2) ∧ w'.cell? ⟨wr.heap.size, 1, none⟩ = some (.slice a2 l2 c2)) 6 (by kernel_rfl) ?_ (fun hHeld => ?_)
        · exact ⟨by have hc := ((h5.later HW).at hlt).2; rw [unhide HG] at hc; exact hc, (D0.later HW).facts.1, (D0.later HW).facts.2.1⟩
        refine till_take (i := 0) (v := ?_) [2, 3, 6] rfl (by kernel_rfl) (by kernel_rfl) (by kernel_rfl) (by kernel_rfl) (fun _ _ _ h => h) (Or.inl ⟨by rfl, ?_⟩) (by assumption) ?_
        rotate_left
        · (intro w hSw; (try dsimp only at hSw); go_simp; try with_reducible rfl)
        simp only [Act.put, List.getElem_toArray, List.getElem_cons_zero, List.setIfInBounds_toArray, List.set_cons_zero, List.set_cons_succ]
        refine till_take (i := 1) (v := ?_) [2, 3, 6] rfl (by kernel_rfl) (by kernel_rfl) (by kernel_rfl) (by kernel_rfl) (fun _ _ _ h => h) (Or.inl ⟨by rfl, ?_⟩) (by assumption) ?_
        rotate_left
        · (intro w hSw; (try dsimp only at hSw); go_simp; try with_reducible rfl)
        simp only [Act.put, List.getElem_toArray, List.getElem_cons_succ, List.getElem_cons_zero, List.setIfInBounds_toArray, List.set_cons_zero, List.set_cons_succ]
        refine till_take (i := 2) (v := ?_) [3, 6] rfl (by kernel_rfl) (by kernel_rfl) (by kernel_rfl) (by kernel_rfl) (fun _ _ _ h => h) (Or.inl ⟨by rfl, ?_⟩) (by assumption) ?_
        rotate_left
        · (intro w hSw; (try dsimp only at hSw); go_simp; try with_reducible rfl)
        simp only [Act.put, List.getElem_toArray, List.getElem_cons_succ, List.getElem_cons_zero, List.setIfInBounds_toArray, List.set_cons_zero, List.set_cons_succ]
        refine till_take (i := 3) (v := ?_) [6] rfl (by kernel_rfl) (by kernel_rfl) (by kernel_rfl) (by kernel_rfl) (fun _ _ _ h => h) (Or.inl ⟨by rfl, ?_⟩) (by assumption) ?_
        rotate_left
        · (intro w hSw; (try dsimp only at hSw); go_simp; try with_reducible rfl)
        simp only [Act.put, List.getElem_toArray, List.getElem_cons_succ, List.getElem_cons_zero, List.setIfInBounds_toArray, List.set_cons_zero, List.set_cons_succ]
        refine till_take (i := 4) (v := ?_) [5, 6] rfl (by kernel_rfl) (by kernel_rfl) (by kernel_rfl) (by kernel_rfl) (fun _ _ _ h => h) (Or.inl ⟨by rfl, ?_⟩) (by assumption) ?_
        rotate_left
        · (intro w hSw; (try dsimp only at hSw); go_simp; try with_reducible rfl)
        simp only [Act.put, List.getElem_toArray, List.getElem_cons_succ, List.getElem_cons_zero, List.setIfInBounds_toArray, List.set_cons_zero, List.set_cons_succ]
        refine till_in (i := 5) (by kernel_rfl) rfl (fun K hK => ?_)
        go_simp
        refine (rsignK b2 a2 l2 c2 z kx s _ (hy2.later HW) (unhide ES)).mono ?_
        rintro e w9 ⟨rfl, hb9⟩
        replace HW := Below.step HW hb9
        clear hb9
        refine hK.out _ _ ?_ (fun hHeld => ?_)
        · exact ⟨by have hc := ((h5.later HW).at hlt).2; rw [unhide HG] at hc; exact hc, (D0.later HW).facts.1, (D0.later HW).facts.2.1⟩
        clear hK K
        try simp only [Act.put, List.getElem_toArray, List.getElem_cons_succ, List.getElem_cons_zero, List.setIfInBounds_toArray, List.set_cons_zero, List.set_cons_succ]
        refine till_out (i := 6) (by kernel_rfl) rfl (by kernel_rfl) (fun K hK => ?_)
        go_simp
        refine hK.out _ _ ?_
        clear hK K
        try simp only [Act.put, List.getElem_toArray, List.getElem_cons_succ, List.getElem_cons_zero, List.setIfInBounds_toArray, List.set_cons_zero, List.set_cons_succ]
        refine till_done (by kernel_rfl) ?_ _
        replace D0 := D0.later HW
        replace hy2 := hy2.later HW
        replace HC := hide (Below.step (unhide HC) HW)
        clear HW h5 hss HG
        obtain ⟨f1, f2, _, _⟩ := D0.facts
        have hsD := D0.lt
        go_wp2_with fail
        refine (rsignK b2 a2 l2 c2 z kx s _ hy2 (unhide ES)).mono ?_
        rintro e w5 ⟨rfl, hb1⟩
        replace HC := hide (Below.step (unhide HC) hb1)
        clear hb1 hy2 f1 f2 D0 hsD
        by_cases h0 : z = 0
        · have hs : (s == 0) = true := by rw [es, h0]; rfl
          clear es
          go_wp2
          go_roundw
          case rel => exact ⟨i + 1, kk, X, by omega, by go_num, rfl, rfl, ⟨by rw [suppN_skip (by rw [← unhide EZ]; exact h0)]; exact (unhide HK).1, by rw [bitsN_skip (Or.inl (by rw [← unhide EZ]; exact h0))]; exact (unhide HK).2⟩, unhide HC⟩
          case measure => simp [intOf]; omega
        · have hs : (s == 0) = false := by
            rw [beq_eq_false_iff_ne, es]
            exact fun e => h0 (Int.sign_eq_zero_iff_zero.1 e)
          clear es
          have hz : zs0.getD i 0 ≠ 0 := by rw [← unhide EZ]; exact h0
          obtain ⟨hk1, hk2⟩ := suppN_at hlt hz
          rw [← (unhide HK).1] at hk1 hk2
          rw [← unhide HQ] at hk1
          obtain ⟨g6, off6, rfl⟩ := h12.addr (by omega)
          obtain ⟨hg6, f6⟩ := (h12.later (unhide HC)).at hk1
          rw [hk2] at f6
          have HK2 := hide (show kk + 1 = (suppN zs0 (i + 1)).length by rw [suppN_take hz, List.length_append, ← (unhide HK).1]; rfl)
          have hkq : (kk : Int) < (q : Int) := by omega
          have hkq' : ¬ ((kk : Int) ≥ (q : Int)) := by omega
          have hk0 : (0 : Int) ≤ (kk : Int) := by omega
          have hii : ((i : Int) != (i : Int)) = false := by simp
          clear hk2
          by_cases h64 : i < 64
          · have EB := hide (bitsN_or hz h64)
            rw [← (unhide HK).2] at EB
            have hX : X < 18446744073709551616 := by rw [(unhide HK).2]; exact bits_small zs0 i
            have hsh := shl_one i h64
            have HO := hide (or_u64 X i hX h64)
            clear hX
            have h64' : (i : Int) < 64 := by omega
            go_wp2
            go_roundw
            case rel => exact ⟨i + 1, kk + 1, X ||| 2 ^ i, by omega, by go_num, by go_num, by rw [unhide HO], ⟨unhide HK2, (unhide EB).symm⟩, unhide HC⟩
            case measure => simp [intOf]; omega
          · have h64' : ¬ (i : Int) < 64 := by omega
            go_wp2
            go_roundw
            case rel => exact ⟨i + 1, kk + 1, X, by omega, by go_num, by go_num, rfl, ⟨unhide HK2, by rw [bitsN_skip (Or.inr (by omega))]; exact (unhide HK).2⟩, unhide HC⟩
            case measure => simp [intOf]; omega
      · have hin : i = len0 := by omega
        subst hin
        obtain rfl : kk = q := (unhide HK).1.trans (unhide HQ).symm
        have N1 := sbitsK _ _ _ zs0 kx _ ((unhide S0).later (unhide HC)).vk (by omega)
        rw [← (unhide HK).2] at N1
        have N2 := hide N1
        clear N1
        have hqq : ((kk : Int) == (kk : Int)) = true := by simp
        go_wp2_with fail
        refine (unhide N2).mono ?_
        rintro e w5 ⟨rfl, hb1⟩
        replace HB := hide (Below.step (unhide HB) (Below.step (unhide HC) hb1))
        clear hb1 N2
        have hxx : ((X : Int) == (X : Int)) = true := by simp
        go_wp2_with fail
        refine (awake8_any _).mono ?_
        rintro e w2 ⟨rfl, hb2⟩
        go_wp2
        go_ret
        exact ⟨rfl, Below.step (unhide HB) hb2⟩
  · have hf' : q = 1 := by omega
    subst hf'
    clear hq01 hq hf hbR hb1
    go_wp2_with fail
    refine (awake8_any _).mono ?_
    rintro e w2 ⟨rfl, hb2⟩
    go_wp2
    go_ret
    exact ⟨rfl, Below.step (unhide HB) hb2⟩
#print axioms shadeSigns_walk
end Go.Proofs.Ytgppplhbhgfmkaa
