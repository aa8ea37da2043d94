/-
 The walk of KernelTells: it tells true.
-/
import Derived.Test.YtjebmlogchoehaaGreatLKAcross
import Derived.Test.YtjebmlogchoehaaGreatRKer
import Derived.Deep.CutRange
namespace Go.Proofs.YtjebmlogchoehaaGreat
open Go.RowKit Lb
set_option maxRecDepth 20000

theorem small9_aS {n : Nat} (hn : n ≤ 9) : ∀ d, d ≤ n → aS 3 n d ≤ 200000 := by
 have h : ∀ n, n < 10 → ∀ d, d < n + 1 → aS 3 n d ≤ 200000 := by decide
 intro d hd
 exact h n (by omega) d (by omega)
theorem small9_bS {n : Nat} (hn : n ≤ 9) : ∀ d, d ≤ n → bS 3 n d ≤ 200000 := by
 have h : ∀ n, n < 10 → ∀ d, d < n + 1 → bS 3 n d ≤ 200000 := by decide
 intro d hd
 exact h n (by omega) d (by omega)
theorem wide_nil (N : Nat) : wideOf (vturn [] N) N = unitL N :=
 (rows_of (f := fun j => (unitL N).getD j []) (by simp [wideOf]) fun j hj => by rw [wideOf_at hj, vturn_at _ hj]; rfl).trans (rows_of (unitL_len N) fun _ _ => rfl).symm
/-- The reference's Kernel of at most four rows of at most three limbs, of at most nine places, or of no rows at all. -/
theorem refKernelAny (ao : Option Addr) (n cap : Nat) (ls : List (List Int)) (N : Nat) (w : World) (h : MK w ao n cap ls 3) (hl : ∀ r ∈ ls, r.length = N) (h1 : 1 ≤ N) (h64 : N ≤ 64) (hn : n ≤ 4) (hc : N ≤ 9 ∨ n = 0) :
  Calls Tryz.prog 14 #[.slice ao n cap, .int .i64 (N : Int)] w fun e w' => ∃ a1 m c1 q K, e = .returned (.slice a1 m c1) ∧ MF w' a1 m c1 K 200000 ∧ HForm K q ∧ Ker K ls N ∧ (∀ r ∈ K, r.length = N) ∧ Below w.heap.size w w' := by
 by_cases h9 : N ≤ 9
 ·exact refKernelK ao n cap ls N (aS 3 N) (bS 3 N) w h hl h1 h64 (by omega) rfl (grows_of _ 3 N (n + N)) (small9_aS h9) (small9_bS h9)
 ·have hn0 : n = 0 := by omega
  have hls : ls = [] := List.eq_nil_of_length_eq_zero (h.len_eq.trans hn0)
  subst hls
  subst hn0
  refine refKernelK ao 0 cap [] N (fun _ => 3) (fun _ => 3) w h hl h1 h64 (by omega) rfl ?_ (fun _ _ => by omega) (fun _ _ => by omega)
  rw [wide_nil, Nat.zero_add]
  exact grows_unit (by omega)
set_option maxRecDepth 40000 in
set_option maxHeartbeats 4000000 in
theorem kernelTells_walk (a0 : Option Addr) (len0 cap0 : Nat) (rs0 : List (List Int)) (m1 : Int) (a2 : Option Addr) (len2 cap2 : Nat) (zs2 : List Int) (w : World) (r0 : MI w a0 len0 cap0 rs0) (r1 : (Lit.int .i64 m1).wf = true) (r2 : VI w a2 len2 cap2 zs2) :
  Calls Tryz.prog 3 #[.slice a0 len0 cap0, .int .i64 m1, .slice a2 len2 cap2] w fun e w' => e = .returned (.bool true) ∧ Below w.heap.size w w' := by
 have hm1 := bounds_i64 r1
 have HL2 := hide r2.len_eq
 clear r1
 go_enter Tryz.func3, Tryz.ntmps3
 go_wp2_with fail
 refine (heavyK a0 len0 cap0 rs0 4 9 _ r0 (by omega) (by omega)).mono ?_
 rintro e w1 ⟨q, rfl, hq, hlt, hb1⟩
 have HB := hide hb1
 rcases hq with rfl | rfl
 ·obtain ⟨hn3, hwd, hms⟩ := hlt rfl
  have HWD := hide hwd
  have HMS := hide hms
  have hr2 := r2.later hb1
  clear hms hlt hb1 hwd r0 r2
  obtain ⟨WA, hWA⟩ : ∃ WA, WA = w1.alloc (.cells #[.slice a2 len2 cap2] 24) := ⟨_, rfl⟩
  have hbA : Below w1.heap.size w1 WA := by rw [hWA]; exact below_new _ _
  have hcA : WA.cell? ⟨w1.heap.size, 0, none⟩ = some (.slice a2 len2 cap2) := by rw [hWA]; simp
  have hsA : w1.heap.size < WA.heap.size := by rw [hWA]; simp
  have hone : MI WA (some ⟨w1.heap.size, 0, none⟩) 1 1 [zs2] := by rw [hWA]; exact mi_one hr2
  have HCA := hide (show ∀ w', Below WA.heap.size WA w' → w'.cell? ⟨w1.heap.size, 0, none⟩ = some (.slice a2 len2 cap2) from fun w' hb => (hb.cell (p := ⟨w1.heap.size, 0, none⟩) hsA).trans hcA)
  have HBA := hide (Below.step (unhide HB) hbA)
  rw [hWA] at hone
  clear hcA hsA hbA hr2
  go_wp2_with fail
  refine (heavyK _ 1 1 [zs2] 1 9 _ hone (by omega) (by omega)).mono ?_
  rintro e w2 ⟨q, rfl, hq, hlt, hb1⟩
  rw [← hWA] at hb1
  rcases hq with rfl | rfl
  ·obtain ⟨_, hwd2, hms2⟩ := hlt rfl
   have hl2 : len2 ≤ 9 := by have := hwd2 0; rw [show [zs2].getD 0 [] = zs2 from rfl, unhide HL2] at this; exact this
   have hvs := vs_one (hms2 w2 (by rw [← hWA]; exact hb1)) (unhide HCA w2 hb1)
   have hl0 := unhide HMS w2 (Below.step (unhide HBA) hb1)
   replace HB := hide (Below.step (unhide HBA) hb1)
   clear hms2 hwd2 hlt hb1 hone HCA HBA hWA HMS
   go_wp2_with fail
   refine (cutsK a0 len0 cap0 rs0 3 m1 _ hl0.mk (by omega)).mono ?_
   rintro e w3 ⟨a3, c3, N, rfl, hN1, hN7, h2, hb1⟩
   obtain ⟨cl, ecl⟩ : ∃ cl, cl = rs0.map fun r => vcut r N := ⟨_, rfl⟩
   have HCW := hide (show ∀ i, (cl.getD i []).length ≤ 9 by rw [ecl]; exact lens_wide (cut_lens rs0 N) (by omega))
   rw [← ecl] at h2
   have HCS := hide (h2.ms (by omega))
   replace hl0 := hl0.later hb1
   replace hvs := hvs.later hb1
   replace HB := hide (Below.step (unhide HB) hb1)
   have hn4 := hn3
   clear hb1 ecl h2
   go_wp2_with fail
   go_loopw [0, 1, 33] (fun l n t wr => ∃ (i : Nat) (al : Option Addr) (cl' : Nat) (ls : List (List Int)) (x : Int), i ≤ 2 ∧ t = .int .i64 (i : Int) ∧ l = .slice al len0 cl' ∧ n = .int .i64 x ∧ -9223372036854775808 ≤ x ∧ x ≤ 9223372036854775807 ∧ MS wr al len0 cl' ls 3 ∧ (∀ j, (ls.getD j []).length ≤ 9) ∧ Below w3.heap.size w3 wr) (fun _ _ t _ => 2 - (intOf t).toNat)
   case atStart => exact ⟨0, _, _, rs0, m1, by omega, rfl, rfl, rfl, hm1.1, hm1.2, hl0, unhide HWD, Below.refl _ _⟩
   case round =>
    clear hl0 hm1 HWD
    obtain ⟨i, al, cl', ls, x, hi, rfl, rfl, rfl, hx1, hx2, hl, hw9, hB⟩ := hrel
    have HC := hide hB
    have HW9 := hide hw9
    clear hB hw9
    by_cases hlt : i < 2
    ·have hi1 : (i : Int) < 2 := by omega
     have HLEN := hide hl.len_eq
     by_cases hform : rform ls x = true
     ·have HFM := hide hform
      obtain ⟨M, rfl, hM1, hM2, hMr⟩ := rform_rows hform
      have HMR := hide hMr
      have hc : M ≤ 9 ∨ len0 = 0 := by
       rcases Nat.eq_zero_or_pos len0 with c | c
       ·exact Or.inr c
       ·left
        rw [← rows_len hMr 0 (by rw [unhide HLEN]; exact c)]
        exact unhide HW9 0
      have HMC := hide hc
      clear hMr hform hc
      go_wp2_with fail
      refine (kernelAny al len0 cl' ls M _ hl.mk (unhide HMR) hM1 hM2 hn4 (unhide HMC)).mono ?_
      rintro e w4 ⟨a5, m5, c5, p, K, rfl, h5, hf5, hk5, hl5, _, hb9⟩
      replace hl := hl.later hb9
      replace HC := hide (Below.step (unhide HC) hb9)
      clear hb9
      go_wp2_with fail
      refine (acrossK (kernelAny al len0 cl' ls M _ hl.mk (unhide HMR) hM1 hM2 hn4 (unhide HMC))).mono ?_
      rintro e w5 ⟨a6, m6, c6, p6, G, rfl, h6, hf6, hk6, hl6, _, hb9⟩
      have hGK : G = K := hnf_one hf6 hf5 (hk6.same hk5) hl6 hl5
      subst hGK
      have HF := hide hf5
      have HK := hide hk5
      have HL5 := hide hl5
      replace h5 := h5.later hb9
      clear hf6 hk6 hl6 hf5 hk5 hl5
      replace hl := hl.later hb9
      replace HC := hide (Below.step (unhide HC) hb9)
      clear hb9
      go_wp2_with fail
      refine (refFormK al len0 cl' ls (M : Int) _ hl.mk.ml (by omega) true (unhide HFM)).mono ?_
      rintro e w6 ⟨rfl, hb9⟩
      replace h5 := h5.later hb9
      replace h6 := h6.later hb9
      replace hl := hl.later hb9
      replace HC := hide (Below.step (unhide HC) hb9)
      clear hb9
      go_wp2_with fail
      refine (refKernelAny al len0 cl' ls M _ hl.mk (unhide HMR) hM1 hM2 hn4 (unhide HMC)).mono ?_
      rintro e w7 ⟨a7, m7, c7, p7, Q, rfl, h7, hf7, hk7, hl7, hb9⟩
      have HE := hide (hnf_one (unhide HF) hf7 ((unhide HK).same hk7) (unhide HL5) hl7)
      replace h5 := h5.later hb9
      replace h6 := h6.later hb9
      clear hf7 hk7 hl7
      replace hl := hl.later hb9
      replace HC := hide (Below.step (unhide HC) hb9)
      clear hb9
      go_wp2_with fail
      refine (refSameAllK _ _ _ G 76 _ _ _ Q 200000 _ h5 h7 (unhide HE)).mono ?_
      rintro e w8 ⟨rfl, hb9⟩
      replace h6 := h6.later hb9
      replace h7 := h7.later hb9
      clear h5
      replace hl := hl.later hb9
      replace HC := hide (Below.step (unhide HC) hb9)
      clear hb9
      go_wp2_with fail
      refine (refSameAllK _ _ _ G 76 _ _ _ Q 200000 _ h6 h7 (unhide HE)).mono ?_
      rintro e w9 ⟨rfl, hb9⟩
      clear h6 h7
      replace hl := hl.later hb9
      replace HC := hide (Below.step (unhide HC) hb9)
      clear hb9
      go_wp2_with fail
      refine (rankAny al len0 cl' ls M _ hl.mk (unhide HMR) hM1 hM2 hn4).mono ?_
      rintro e w10 ⟨m10, rfl, ⟨r, pr, hr1, hr2, _, hr4⟩, hb9⟩
      have HR := hide (And.intro hr1 (And.intro hr2 hr4))
      clear hr1 hr2 hr4
      replace hl := hl.later hb9
      replace HC := hide (Below.step (unhide HC) hb9)
      clear hb9
      go_wp2_with fail
      refine (refHnfK al len0 cl' ls 3 M _ hl (by omega) (fun t ht => rows_len (unhide HMR) t (by rw [unhide HLEN]; exact ht)) (by omega) (by omega) (small_aS (by omega)) (small_bS (by omega))).mono ?_
      rintro e w11 ⟨a11, m11, c11, p11, S, rfl, h11, hf11, hs11, _, hm11, hb9⟩
      have hmm : m10 = m11 := by
       have e1 := hform_same_len (unhide HR).1 hf11 ((unhide HR).2.1.symm.trans hs11)
       have e2 := (unhide HR).2.2
       have e3 := h11.len_eq
       omega
      subst hmm
      clear hf11 hs11 h11
      replace hl := hl.later hb9
      replace HC := hide (Below.step (unhide HC) hb9)
      clear hb9
      go_wp2_with fail
      go_loopw [14, 104] (fun s t wq => ∃ (j : Nat) (qn : Bool), j ≤ len0 ∧ t = .int .i64 (j : Int) ∧ s = .bool qn ∧ (qn = true ↔ ∀ t, t < j → vdot (ls.getD t []) zs2 = 0) ∧ Below w11.heap.size w11 wq) (fun _ t _ => len0 - (intOf t).toNat)
      case atStart => exact ⟨0, true, Nat.zero_le _, rfl, rfl, ⟨fun _ t ht => absurd ht (by omega), fun _ => rfl⟩, Below.refl _ _⟩
      case round =>
       obtain ⟨j, qn, hj, rfl, rfl, hq, hD⟩ := hrel
       have HQ := hide hq
       have HD := hide hD
       clear hq hD
       by_cases hjl : j < len0
       ·obtain ⟨g, off, rfl⟩ := hl.mk.addr (by omega)
        obtain ⟨hg, a12, l12, c12, hc12, hv12⟩ := RowsOf.at (R := fun w a l c zs => VS w a l c zs 3) hl hjl
        have f2 := ((unhide HD).cell (p := ⟨g, off + j, none⟩) hg).trans hc12
        have hgr := Nat.lt_of_lt_of_le hg (unhide HD).size
        have hj0 : (0 : Int) ≤ (j : Int) := by omega
        have hj1 : (j : Int) < (len0 : Int) := by omega
        have hl12 : l12 ≤ 9 := by rw [← hv12.len_eq]; exact unhide HW9 j
        replace hv12 := hv12.later (unhide HD)
        have hv2 := hvs.later (Below.step (unhide HC) (unhide HD))
        clear hc12 hg
        obtain ⟨d, ed⟩ : ∃ d, d = vdot (ls.getD j []) zs2 := ⟨_, rfl⟩
        have HED := hide ed
        cases qn with
        | false =>
         clear hv12 hv2 ed
         go_wp2
         go_roundw
         case rel =>
          refine ⟨j + 1, false, by omega, by go_num, rfl, ⟨fun e => by simp at e, fun hall => ?_⟩, unhide HD⟩
          exact (unhide HQ).2 fun t ht => hall t (by omega)
         case measure => simp [intOf]; omega
        | true =>
         obtain ⟨s, es⟩ : ∃ s, s = d.sign := ⟨_, rfl⟩
         have HES := hide es
         clear ed es
         go_wp2_with fail
         refine (rvdotK a12 l12 c12 (ls.getD j []) 3 a2 len2 cap2 zs2 3 _ hv12 hv2.vk (by omega) (by omega) (by omega)).mono ?_
         rintro e w13 ⟨b13, a13, l13, c13, rfl, h13, hb9⟩
         rw [← unhide HED] at h13
         replace HD := hide (Below.step (unhide HD) hb9)
         clear hb9 hv12 hv2 f2 hgr
         go_wp2_with fail
         refine (rsignK b13 a13 l13 c13 d (3 + 3 + l12) s _ (h13.ik (by omega)) (unhide HES)).mono ?_
         rintro e w14 ⟨rfl, hb9⟩
         replace HD := hide (Below.step (unhide HD) hb9)
         clear hb9 h13
         by_cases hd : d = 0
         ·have hs0 : s = 0 := by rw [unhide HES, hd]; rfl
          have hsb : (s == 0) = true := by rw [hs0]; rfl
          clear hs0
          go_wp2
          go_roundw
          case rel =>
           refine ⟨j + 1, true, by omega, by go_num, rfl, ⟨fun _ t ht => ?_, fun _ => rfl⟩, unhide HD⟩
           by_cases c : t = j
           ·subst c; rw [← unhide HED]; exact hd
           ·exact (unhide HQ).1 (by simp) t (by omega)
          case measure => simp [intOf]; omega
         ·have hs0 : s ≠ 0 := by rw [unhide HES]; exact fun e => hd (Int.sign_eq_zero_iff_zero.1 e)
          have hsb : (s == 0) = false := by simpa using hs0
          clear hs0
          go_wp2
          go_roundw
          case rel =>
           refine ⟨j + 1, false, by omega, by go_num, rfl, ⟨fun e => by simp at e, fun hall => ?_⟩, unhide HD⟩
           exact absurd ((unhide HED).trans (hall j (by omega))) hd
          case measure => simp [intOf]; omega
       ·have hjn : j = len0 := by omega
        have hj1 : ¬ (j : Int) < (len0 : Int) := by omega
        have hqq : (qn != qn) = false := by simp
        have HQ' : Hid (qn = true ↔ ∀ t, t < len0 → vdot (ls.getD t []) zs2 = 0) := hide (by rw [← hjn]; exact unhide HQ)
        have hv2 := hvs.later (Below.step (unhide HC) (unhide HD))
        replace hl := hl.later (unhide HD)
        clear HQ
        go_wp2_with fail
        refine (kHasK al len0 cl' ls 3 a2 len2 cap2 zs2 3 9 qn _ hl.mk hv2.vk (by omega) (by omega) (by omega) (unhide HW9) (by omega) (by omega) (by omega) (unhide HQ')).mono ?_
        rintro e w15 ⟨rfl, hb9⟩
        replace HD := hide (Below.step (unhide HD) hb9)
        clear hb9 hv2 hl
        go_wp2
        go_roundw
        case rel => exact ⟨i + 1, a3, c3, cl, (N : Int), by omega, by go_num, rfl, rfl, by omega, by omega, ((unhide HCS).later (Below.step (unhide HC) (unhide HD))), unhide HCW, Below.step (unhide HC) (unhide HD)⟩
        case measure => simp [intOf]; omega
     ·have hff : rform ls x = false := by simpa using hform
      have HFF := hide hff
      clear hff hform
      go_wp2_with fail
      refine (kernelNoK al len0 cl' ls 3 x _ hl.mk ⟨hx1, hx2⟩ (unhide HFF)).mono ?_
      rintro e w4 ⟨rfl, hb9⟩
      replace hl := hl.later hb9
      replace HC := hide (Below.step (unhide HC) hb9)
      clear hb9
      go_wp2_with fail
      refine (acrossNoK al len0 cl' ls 3 x _ hl.mk ⟨hx1, hx2⟩ (unhide HFF)).mono ?_
      rintro e w5 ⟨rfl, hb9⟩
      replace hl := hl.later hb9
      replace HC := hide (Below.step (unhide HC) hb9)
      clear hb9
      go_wp2_with fail
      refine (refFormK al len0 cl' ls x _ hl.mk.ml ⟨hx1, hx2⟩ false (unhide HFF)).mono ?_
      rintro e w6 ⟨rfl, hb9⟩
      replace hl := hl.later hb9
      replace HC := hide (Below.step (unhide HC) hb9)
      clear hb9
      go_wp2_with fail
      refine (rankNoK al len0 cl' ls 3 x _ hl.mk ⟨hx1, hx2⟩ (unhide HFF)).mono ?_
      rintro e w11 ⟨rfl, hb9⟩
      replace hl := hl.later hb9
      replace HC := hide (Below.step (unhide HC) hb9)
      clear hb9
      go_wp2_with fail
      go_loopw [14, 104] (fun s t wq => ∃ (j : Nat) (qn : Bool), j ≤ len0 ∧ t = .int .i64 (j : Int) ∧ s = .bool qn ∧ (qn = true ↔ ∀ t, t < j → vdot (ls.getD t []) zs2 = 0) ∧ Below w11.heap.size w11 wq) (fun _ t _ => len0 - (intOf t).toNat)
      case atStart => exact ⟨0, true, Nat.zero_le _, rfl, rfl, ⟨fun _ t ht => absurd ht (by omega), fun _ => rfl⟩, Below.refl _ _⟩
      case round =>
       obtain ⟨j, qn, hj, rfl, rfl, hq, hD⟩ := hrel
       have HQ := hide hq
       have HD := hide hD
       clear hq hD
       by_cases hjl : j < len0
       ·obtain ⟨g, off, rfl⟩ := hl.mk.addr (by omega)
        obtain ⟨hg, a12, l12, c12, hc12, hv12⟩ := RowsOf.at (R := fun w a l c zs => VS w a l c zs 3) hl hjl
        have f2 := ((unhide HD).cell (p := ⟨g, off + j, none⟩) hg).trans hc12
        have hgr := Nat.lt_of_lt_of_le hg (unhide HD).size
        have hj0 : (0 : Int) ≤ (j : Int) := by omega
        have hj1 : (j : Int) < (len0 : Int) := by omega
        have hl12 : l12 ≤ 9 := by rw [← hv12.len_eq]; exact unhide HW9 j
        replace hv12 := hv12.later (unhide HD)
        have hv2 := hvs.later (Below.step (unhide HC) (unhide HD))
        clear hc12 hg
        obtain ⟨d, ed⟩ : ∃ d, d = vdot (ls.getD j []) zs2 := ⟨_, rfl⟩
        have HED := hide ed
        cases qn with
        | false =>
         clear hv12 hv2 ed
         go_wp2
         go_roundw
         case rel =>
          refine ⟨j + 1, false, by omega, by go_num, rfl, ⟨fun e => by simp at e, fun hall => ?_⟩, unhide HD⟩
          exact (unhide HQ).2 fun t ht => hall t (by omega)
         case measure => simp [intOf]; omega
        | true =>
         obtain ⟨s, es⟩ : ∃ s, s = d.sign := ⟨_, rfl⟩
         have HES := hide es
         clear ed es
         go_wp2_with fail
         refine (rvdotK a12 l12 c12 (ls.getD j []) 3 a2 len2 cap2 zs2 3 _ hv12 hv2.vk (by omega) (by omega) (by omega)).mono ?_
         rintro e w13 ⟨b13, a13, l13, c13, rfl, h13, hb9⟩
         rw [← unhide HED] at h13
         replace HD := hide (Below.step (unhide HD) hb9)
         clear hb9 hv12 hv2 f2 hgr
         go_wp2_with fail
         refine (rsignK b13 a13 l13 c13 d (3 + 3 + l12) s _ (h13.ik (by omega)) (unhide HES)).mono ?_
         rintro e w14 ⟨rfl, hb9⟩
         replace HD := hide (Below.step (unhide HD) hb9)
         clear hb9 h13
         by_cases hd : d = 0
         ·have hs0 : s = 0 := by rw [unhide HES, hd]; rfl
          have hsb : (s == 0) = true := by rw [hs0]; rfl
          clear hs0
          go_wp2
          go_roundw
          case rel =>
           refine ⟨j + 1, true, by omega, by go_num, rfl, ⟨fun _ t ht => ?_, fun _ => rfl⟩, unhide HD⟩
           by_cases c : t = j
           ·subst c; rw [← unhide HED]; exact hd
           ·exact (unhide HQ).1 (by simp) t (by omega)
          case measure => simp [intOf]; omega
         ·have hs0 : s ≠ 0 := by rw [unhide HES]; exact fun e => hd (Int.sign_eq_zero_iff_zero.1 e)
          have hsb : (s == 0) = false := by simpa using hs0
          clear hs0
          go_wp2
          go_roundw
          case rel =>
           refine ⟨j + 1, false, by omega, by go_num, rfl, ⟨fun e => by simp at e, fun hall => ?_⟩, unhide HD⟩
           exact absurd ((unhide HED).trans (hall j (by omega))) hd
          case measure => simp [intOf]; omega
       ·have hjn : j = len0 := by omega
        have hj1 : ¬ (j : Int) < (len0 : Int) := by omega
        have hqq : (qn != qn) = false := by simp
        have HQ' : Hid (qn = true ↔ ∀ t, t < len0 → vdot (ls.getD t []) zs2 = 0) := hide (by rw [← hjn]; exact unhide HQ)
        have hv2 := hvs.later (Below.step (unhide HC) (unhide HD))
        replace hl := hl.later (unhide HD)
        clear HQ
        go_wp2_with fail
        refine (kHasK al len0 cl' ls 3 a2 len2 cap2 zs2 3 9 qn _ hl.mk hv2.vk (by omega) (by omega) (by omega) (unhide HW9) (by omega) (by omega) (by omega) (unhide HQ')).mono ?_
        rintro e w15 ⟨rfl, hb9⟩
        replace HD := hide (Below.step (unhide HD) hb9)
        clear hb9 hv2 hl
        go_wp2
        go_roundw
        case rel => exact ⟨i + 1, a3, c3, cl, (N : Int), by omega, by go_num, rfl, rfl, by omega, by omega, ((unhide HCS).later (Below.step (unhide HC) (unhide HD))), unhide HCW, Below.step (unhide HC) (unhide HD)⟩
        case measure => simp [intOf]; omega
    ·have hin : i = 2 := by omega
     subst hin
     have hi1 : ¬ ((2 : Nat) : Int) < 2 := by omega
     replace HB := hide (Below.step (unhide HB) (unhide HC))
     go_wp2_with fail
     refine (awake11_any _).mono ?_
     rintro e w15 ⟨rfl, hb9⟩
     go_wp2
     go_ret
     exact ⟨rfl, Below.step (unhide HB) hb9⟩
  ·replace HB := hide (Below.step (unhide HBA) hb1)
   clear hlt hb1 hone HCA HBA hWA HMS hn3 HWD
   go_wp2_with fail
   refine (awake11_any _).mono ?_
   rintro e w15 ⟨rfl, hb9⟩
   go_wp2
   go_ret
   exact ⟨rfl, Below.step (unhide HB) hb9⟩
 ·clear hlt hb1 r0 r2
  go_wp2_with fail
  refine (awake11_any _).mono ?_
  rintro e w15 ⟨rfl, hb9⟩
  go_wp2
  go_ret
  exact ⟨rfl, Below.step (unhide HB) hb9⟩
end Go.Proofs.YtjebmlogchoehaaGreat
