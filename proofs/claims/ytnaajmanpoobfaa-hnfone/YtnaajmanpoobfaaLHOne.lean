/-
  The walk of HnfOne: it tells true.
-/
import Derived.Test.YtnaajmanpoobfaaLHTimes
import Derived.Test.YtnaajmanpoobfaaHIs
import Derived.Test.YtnaajmanpoobfaaHTri
import Derived.Test.YtnaajmanpoobfaaJF
import Derived.Deep.CutRange
namespace Go.Proofs.Ytnaajmanpoobfaa
open Go.RowKit Lb
set_option maxRecDepth 20000

theorem mf_up {w : World} {ao : Option Addr} {n cap k l : Nat} {rs : List (List Int)} (h : MF w ao n cap rs k) (hl : k ≤ l) : MF w ao n cap rs l := RowsOf.imp (R := fun w a l c zs => VF w a l c zs k) h fun h => vf_up h hl
theorem mo_set {w : World} {base g n cap k : Nat} {rs : List (List Int)} (h : MO w base (some ⟨g, 0, none⟩) n cap rs k) {i : Nat} (hi : i < n) {a : Option Addr} {l c : Nat} {zs : List Int} (hz : VF w a l c zs k) : MO (w.setCell ⟨g, i, none⟩ (.slice a l c)) base (some ⟨g, 0, none⟩) n cap (rs.set i zs) k := MOwn.set (R := fun w a l c zs => VF w a l c zs k) (steadyMO k) h hi hz
theorem MO.free {w : World} {base g n cap k : Nat} {rs : List (List Int)} (h : MO w base (some ⟨g, 0, none⟩) n cap rs k) (j : Nat) : w.frozen? ⟨g, j, none⟩ = false := MOwn.free (R := fun w a l c zs => VF w a l c zs k) h j
theorem MO.base_le {w : World} {base g n cap k : Nat} {rs : List (List Int)} (h : MO w base (some ⟨g, 0, none⟩) n cap rs k) : base ≤ g ∧ g < w.heap.size := MOwn.base_le (R := fun w a l c zs => VF w a l c zs k) h
theorem MO.at {w : World} {base g n cap k : Nat} {rs : List (List Int)} (h : MO w base (some ⟨g, 0, none⟩) n cap rs k) {i : Nat} (hi : i < n) : ∃ a l c, w.cell? ⟨g, i, none⟩ = some (.slice a l c) ∧ VF w a l c (rs.getD i []) k := by
  obtain ⟨_, a, l, c, h1, h2⟩ := RowsOf.at (R := fun w a l c zs => VF w a l c zs k) h.mf hi
  rw [Nat.zero_add] at h1
  exact ⟨a, l, c, h1, h2⟩
theorem vf_after {w : World} {base g n cap k l0 : Nat} {rs : List (List Int)} (h : MO w base (some ⟨g, 0, none⟩) n cap rs k) {i : Nat} {v : Value} {a : Option Addr} {l c : Nat} {zs : List Int} (hz : VF w a l c zs l0) : VF (w.setCell ⟨g, i, none⟩ v) a l c zs l0 := steadyMO l0 hz (grown_set1 w g i v) (MOwn.onlySl (R := fun w a l c zs => VF w a l c zs k) h)
/-- How far the rows have been turned. -/
structure OneState (cl ml : List (List Int)) (s N n : Nat) : Prop where
  same : SameL cl ml
  len : ml.length = n
  lens : ∀ i, i < n → (ml.getD i []).length = N
  bd : ∀ i j, (ent ml i j).natAbs < 256 ^ s * Bp 3
theorem pow_up {x s : Nat} (h : x < 256 ^ s * Bp 3) : x < 256 ^ (s + 1) * Bp 3 := by
  rw [Nat.pow_succ, Nat.mul_comm (256 ^ s) 256, Nat.mul_assoc]
  omega
theorem pow_six {x s : Nat} (hs : s ≤ 12) (h : x < 256 ^ s * Bp 3) : x < Bp 6 := by
  have h1 : (256 : Nat) ^ s ≤ 256 ^ 12 := Nat.pow_le_pow_right (by omega) hs
  have h2 : (256 : Nat) ^ 12 = Bp 3 := by unfold Bp; decide
  have h3 : Bp 6 = Bp 3 * Bp 3 := bp_add 3 3
  have h4 : 256 ^ s * Bp 3 ≤ Bp 3 * Bp 3 := Nat.mul_le_mul_right _ (by omega)
  omega
theorem OneState.put {cl ml : List (List Int)} {s N n i : Nat} {r : List Int} (h : OneState cl ml s N n) (hi : i < n) (hs : SameL ml (ml.set i r)) (hl : r.length = N) (hb : ∀ j, (r.getD j 0).natAbs < 256 ^ (s + 1) * Bp 3) : OneState cl (ml.set i r) (s + 1) N n := by
  have hil : i < ml.length := by rw [h.len]; exact hi
  refine ⟨h.same.trans hs, by rw [List.length_set]; exact h.len, set_len_all h.lens hil hl, fun a b => ?_⟩
  by_cases c : a = i
  · subst c; rw [ent_same hil]; exact hb b
  · rw [ent_other hil c]; exact pow_up (h.bd a b)
theorem OneState.neg {cl ml : List (List Int)} {s N n i : Nat} (h : OneState cl ml s N n) (hi : i < n) : OneState cl (ml.set i (vneg (ml.getD i []))) (s + 1) N n :=
  h.put hi (sameL_neg (by rw [h.len]; exact hi) fun j => by rw [vneg_at]; rfl) (by rw [vneg_len]; exact h.lens i hi) fun j => by
    rw [vneg_at, Int.natAbs_neg]; exact pow_up (h.bd i j)
theorem OneState.add {cl ml : List (List Int)} {s N n i j : Nat} {x : Int} (h : OneState cl ml s N n) (hi : i < n) (hj : j < n) (hij : i ≠ j) (hx : -128 ≤ x ∧ x ≤ 127) : OneState cl (ml.set i (vadd (ml.getD i []) (vtimes (ml.getD j []) x))) (s + 1) N n :=
  h.put hi (sameL_add (p := j) (q := x) (by rw [h.len]; exact hi) (Ne.symm hij) fun t => by rw [vadd_at, vtimes_at, Int.mul_comm]; rfl) (by rw [vadd_len, vtimes_len, h.lens i hi, h.lens j hj, Nat.max_self]) fun t => by
    rw [vadd_at, vtimes_at]
    have h1 := h.bd i t
    have h2 := h.bd j t
    have e1 : (ml.getD i []).getD t 0 = ent ml i t := rfl
    have e2 : (ml.getD j []).getD t 0 = ent ml j t := rfl
    rw [e1, e2]
    have h3 : (ent ml j t * x).natAbs ≤ (256 ^ s * Bp 3) * 128 := by rw [Int.natAbs_mul]; exact Nat.mul_le_mul (by omega) (by omega)
    have h4 : 256 ^ (s + 1) * Bp 3 = 256 * (256 ^ s * Bp 3) := by rw [Nat.pow_succ, Nat.mul_comm (256 ^ s) 256, Nat.mul_assoc]
    rw [h4]
    generalize 256 ^ s * Bp 3 = X at *
    generalize ent ml j t * x = Y at *
    omega
theorem OneState.swap {cl ml : List (List Int)} {s N n i j : Nat} (h : OneState cl ml s N n) (hi : i < n) (hj : j < n) : OneState cl ((ml.set i (ml.getD j [])).set j (ml.getD i [])) (s + 1) N n := by
  have hil : i < ml.length := by rw [h.len]; exact hi
  have hjl : j < ml.length := by rw [h.len]; exact hj
  refine ⟨h.same.trans (sameL_swap hil hjl), by rw [List.length_set, List.length_set]; exact h.len, set_len_all (set_len_all h.lens hil (h.lens j hj)) (by rw [List.length_set]; exact hjl) (h.lens i hi), fun a b => ?_⟩
  have := ent_swap hil hjl a b
  unfold swapL at this
  rw [this]
  split
  · exact pow_up (h.bd i b)
  · split
    · exact pow_up (h.bd j b)
    · exact pow_up (h.bd a b)
theorem vadd_lenE (a b : List Int) : (vadd a b).length = max a.length b.length := by simp [vadd]
theorem bd_three {w : World} {ao : Option Addr} {n cap N : Nat} {cl : List (List Int)} (h : MF w ao n cap cl 3) (hl : ∀ i, i < n → (cl.getD i []).length = N) : OneState cl cl 0 N n := ⟨SameL.refl _, h.len_eq, hl, fun i j => by rw [Nat.pow_zero, Nat.one_mul]; exact mf_ent h i j⟩
theorem ent_two_more {ml : List (List Int)} {N : Nat} (i j : Nat) : (ent (ml ++ [ml.getD 0 [], List.replicate N 0]) i j).natAbs ≤ (ent ml i j).natAbs + (ent ml 0 j).natAbs := by
  unfold ent
  by_cases c : i < ml.length
  · rw [getD_left c]; omega
  · rw [getD_right (by omega)]
    match hk : i - ml.length with
    | 0 => simp
    | 1 => show ((List.replicate N (0 : Int)).getD j 0).natAbs ≤ _; rw [zerosR_at]; simp
    | k + 2 => simp
theorem one_more {cl ml : List (List Int)} {s N n : Nat} (h : OneState cl ml s N n) (hs : s ≤ 12) (hn : 0 < n) (hn5 : n ≤ 5) (hN1 : 1 ≤ N) (hN7 : N ≤ 7) : SameL cl (ml ++ [ml.getD 0 [], List.replicate N 0]) ∧ rform (ml ++ [ml.getD 0 [], List.replicate N 0]) (N : Int) = true ∧ Bounded (ml ++ [ml.getD 0 [], List.replicate N 0]) 1791 := by
  refine ⟨h.same.trans (sameL_more fun x hx => ?_), rform_yes (by omega) fun i hi => ?_, bounded_six (by simp [h.len]; omega) fun i j => ?_⟩
  · simp only [List.mem_cons, List.not_mem_nil, or_false] at hx
    rcases hx with rfl | rfl
    · exact inL_row 0
    · exact (inL_zero ml).eq fun j => zerosR_at N j
  · rw [List.length_append, h.len] at hi
    simp at hi
    by_cases c : i < n
    · rw [getD_left (by rw [h.len]; exact c), h.lens i c]
    · rw [getD_right (by rw [h.len]; omega), h.len]
      match hk : i - n with
      | 0 => rw [show [ml.getD 0 [], List.replicate N (0 : Int)].getD 0 [] = ml.getD 0 [] from rfl, h.lens 0 hn]
      | 1 => simp
      | k + 2 => omega
  · by_cases c : i < ml.length
    · refine pow_six hs ?_
      have : ent (ml ++ [ml.getD 0 [], List.replicate N 0]) i j = ent ml i j := by unfold ent; rw [getD_left c]
      rw [this]
      exact h.bd i j
    · refine pow_six hs ?_
      have h1 := ent_two_more (ml := ml) (N := N) i j
      rw [show ent ml i j = 0 from ent_out (by omega)] at h1
      have h2 := h.bd 0 j
      rw [Int.natAbs_zero, Nat.zero_add] at h1
      exact Nat.lt_of_le_of_lt h1 h2
theorem wrap_u8 {x : Int} (_h : -128 ≤ x ∧ x ≤ 127) : ∃ U : Nat, IntKind.u8.wrap x = (U : Int) ∧ U ≤ 255 := by
  refine ⟨(IntKind.u8.wrap x).toNat, ?_, ?_⟩ <;> simp [IntKind.wrap, IntKind.bits, IntKind.signed] <;> omega
theorem rem_of (U n : Nat) (hn : 0 < n) : ∃ i : Nat, i < n ∧ (U : Int) % (n : Int) = (i : Int) ∧ (U : Int).tmod (n : Int) = (i : Int) := ⟨U % n, Nat.mod_lt _ hn, by simp, by rw [Int.tmod_eq_emod_of_nonneg (by omega)]; simp⟩
set_option maxRecDepth 40000 in
set_option maxHeartbeats 4000000 in
theorem hnfOne_walk (a0 : Option Addr) (len0 cap0 : Nat) (rs0 : List (List Int)) (m1 : Int) (a2 : Option Addr) (len2 cap2 : Nat) (f2 : Nat → Nat → Int) (w : World) (r0 : MI w a0 len0 cap0 rs0) (_r1 : (Lit.int .i64 m1).wf = true) (r2 : TriAt w a2 len2 cap2 f2) :
    Calls Try.prog 3 #[.slice a0 len0 cap0, .int .i64 m1, .slice a2 len2 cap2] w fun e w' => e = .returned (.bool true) ∧ Below w.heap.size w w' := by
  have hm2 := Nat.le_trans r2.cap_le r2.cap_max
  unfold maxLen at hm2
  go_enter Try.func3, Try.ntmps3
  go_wp2_with fail
  refine (heavyK a0 len0 cap0 rs0 5 9 _ r0 (by omega) (by omega)).mono ?_
  rintro e w1 ⟨q, rfl, hq, hlt, hb1⟩
  have HB := hide hb1
  rcases hq with rfl | rfl
  · obtain ⟨hn5, _, hms⟩ := hlt rfl
    have hl := hms _ hb1
    clear hms hlt hb1 r0
    by_cases hs12 : len2 ≤ 12
    · have hs12' : ¬ (12 < (len2 : Int)) := by omega
      go_wp2_with fail
      refine (cutsK a0 len0 cap0 rs0 3 m1 _ hl.mk (by omega)).mono ?_
      rintro e w2 ⟨a3, c3, N, rfl, hN1, hN7, h2, hb1⟩
      have HF := hide (cut_form rs0 hN1 hN7)
      obtain ⟨cl, ecl⟩ : ∃ cl, cl = rs0.map fun r => vcut r N := ⟨_, rfl⟩
      rw [← ecl] at h2 HF
      have HCL := hide h2.len_eq
      have HCN : Hid (∀ i, i < len0 → (cl.getD i []).length = N) := hide fun i hi => by
        have hr : i < rs0.length := by
          have := h2.len_eq
          rw [ecl, List.length_map] at this
          omega
        rw [ecl, map_getD hr, vcut_len]
      replace HB := hide (Below.step (unhide HB) hb1)
      have HBC := hide (bounded_six (l := cl) (by rw [unhide HCL]; omega) fun a b => Nat.lt_of_lt_of_le (mf_ent h2 a b) (Bp_le (by omega)))
      have HRM := hide (room_nat10 (show N ≤ 64 by omega))
      clear hb1 hl ecl
      go_wp2_with fail
      refine (hnfK a3 len0 c3 cl 3 1791 4 (N : Int) _ (h2.mk (by omega)) (by omega) (unhide HF) (unhide HBC) (by omega) (by omega) (by omega) (by omega)).mono ?_
      rintro e w3 ⟨a5, m, c5, p, hs1, rfl, h5, hf, hs, hl, hm, hb9⟩
      have HF1 := hide hf
      have HS1 := hide hs
      have HL1 := hide hl
      have HBH := hide (bounded_form hf (mf_ent h5))
      have HFH := hide (rform_yes (rs := hs1) (n := (N : Int)) (by omega) fun i hi => by
        have := hl (hs1.getD i []) (by rw [show hs1.getD i [] = hs1[i] by simp [List.getD, hi]]; exact List.getElem_mem _)
        exact this)
      have h3 := h2.later hb9
      replace HB := hide (Below.step (unhide HB) hb9)
      clear hf hs hl hb9 h2
      go_wp2_with fail
      refine (isK a5 m c5 hs1 1791 (N : Int) true _ (h5.mk (by omega)) (by omega) (by omega) (by simp; exact ⟨unhide HFH, _, unhide HF1⟩)).mono ?_
      rintro e w4 ⟨rfl, hb9⟩
      replace h3 := h3.later hb9
      replace h5 := h5.later hb9
      replace HB := hide (Below.step (unhide HB) hb9)
      clear hb9
      have HST := hide (bd_three h3 (unhide HCN))
      have hbn := below_new w4 (.cells #[] 35)
      have hemp := mo_empty (w := w4) (base := w4.heap.size) (k := 6) rfl (Nat.le_refl _)
      have h3' := mf_up (h3.later hbn) (show 3 ≤ 6 by omega)
      have hszn := hbn.size
      have HBN := hide hbn
      clear hbn
      go_wp2_with (at_builtin; (refine append_rows (R := fun w a l c zs => VF w a l c zs 6) (steadyMO 6) rfl (.tmp 49) (.tmp 50) 22 Try.underlying22 rfl w4.heap.size _ 0 0 [] rfl hemp _ len0 _ cl rfl h3' (by omega) hszn ?_))
      intro am cm w6 hown hgr7
      have hbe : Below w4.heap.size w4 w6 := (unhide HBN).grown hgr7 hszn (MO.ge hemp)
      replace hown : MO w6 w4.heap.size am len0 cm cl 6 := hown
      have h54 := h5
      have HBA := HB
      replace h5 := h5.later hbe
      replace HB := hide (Below.step (unhide HB) hbe)
      have hsz46 := hbe.size
      have HBE := hide hbe
      clear hgr7 hemp hszn HBN h3' h3 hbe
      rcases Nat.eq_zero_or_pos len0 with hz0 | hz0
      · subst hz0
        have hmf : MF w6 am 0 cm cl 6 := hown.mf
        clear hown
        go_wp2_with fail
        go_loopw [54] (fun t wr => ∃ s : Nat, s ≤ len2 ∧ t = .int .i64 (s : Int) ∧ Below w6.heap.size w6 wr) (fun t _ => len2 - (intOf t).toNat)
        case atStart => exact ⟨0, Nat.zero_le _, rfl, Below.refl _ _⟩
        case round =>
          obtain ⟨s, hs, rfl, hB⟩ := hrel
          have HC := hide hB
          clear hB
          by_cases hlt : s < len2
          · obtain ⟨g2, o2, rfl⟩ := r2.some (by omega)
            obtain ⟨hg2, t0, t1, t2⟩ := (r2.later (unhide HB)).at hlt
            replace t0 := ((unhide HC).cell (p := ⟨g2, o2 + s * 3, none⟩) hg2).trans t0
            replace t1 := ((unhide HC).cell (p := ⟨g2, o2 + s * 3 + 1, none⟩) hg2).trans t1
            replace t2 := ((unhide HC).cell (p := ⟨g2, o2 + s * 3 + 2, none⟩) hg2).trans t2
            have hgr := Nat.lt_of_lt_of_le hg2 (unhide HC).size
            have hi0 : (0 : Int) ≤ (s : Int) := by omega
            have hi1 : (s : Int) < (len2 : Int) := by omega
            have hbx := below_new wr (.cells #[.int .i8 (f2 s 0), .int .i8 (f2 s 1), .int .i8 (f2 s 2)] 33)
            have hm := (hmf.later (unhide HC)).later hbx
            replace h5 := (h5.later (unhide HC)).later hbx
            replace HB := hide (Below.step (Below.step (unhide HB) (unhide HC)) hbx)
            have HSM := hide (SameL.refl cl)
            have HFM := HF
            have HBM := HBC
            clear hbx HC hmf HBE HST
            go_wp2_with fail
            refine (hnfK _ 0 _ cl 6 1791 6 (N : Int) _ (hm.mk (by omega)) (by omega) (unhide HFM) (unhide HBM) (by omega) (by omega) (by omega) (by omega)).mono ?_
            rintro e w11 ⟨a11, m11, c11, p11, hs11, rfl, h11, hf11, hsm11, hl11, hm11, hb9⟩
            have HE1 := hide (hnf_one (n := N) hf11 (unhide HF1) (hsm11.symm.trans ((unhide HSM).symm.trans (unhide HS1))) (fun r hr => by have := hl11 r hr; omega) (fun r hr => by have := unhide HL1 r hr; omega))
            replace h5 := h5.later hb9
            replace HB := hide (Below.step (unhide HB) hb9)
            clear hf11 hsm11 hl11 hm11 hb9 hm HFM HBM HSM
            go_wp2_with fail
            refine (hnfK a5 m c5 hs1 1791 1791 4 (N : Int) _ (h5.mk (by omega)) (by omega) (unhide HFH) (unhide HBH) (by omega) (by omega) (by omega) (by omega)).mono ?_
            rintro e w12 ⟨a12, m12, c12, p12, hs12, rfl, h12, hf12, hsm12, hl12, hm12, hb9⟩
            have HE2 := hide (hnf_one (n := N) hf12 (unhide HF1) hsm12.symm (fun r hr => by have := hl12 r hr; omega) (fun r hr => by have := unhide HL1 r hr; omega))
            replace h5 := h5.later hb9
            replace h11 := h11.later hb9
            replace HB := hide (Below.step (unhide HB) hb9)
            clear hf12 hsm12 hl12 hm12 hb9
            go_wp2_with fail
            refine (refSameAllK _ _ _ hs11 1791 _ _ _ hs1 1791 _ h11 h5 (unhide HE1)).mono ?_
            rintro e w13 ⟨rfl, hb9⟩
            replace h5 := h5.later hb9
            replace h12 := h12.later hb9
            replace HB := hide (Below.step (unhide HB) hb9)
            clear hb9 h11
            go_wp2_with fail
            refine (refSameAllK _ _ _ hs12 1791 _ _ _ hs1 1791 _ h12 h5 (unhide HE2)).mono ?_
            rintro e w14 ⟨rfl, hb9⟩
            replace HB := hide (Below.step (unhide HB) hb9)
            clear hb9 h12 h5
            go_wp2_with fail
            refine (awake10_any _).mono ?_
            rintro e w15 ⟨rfl, hb9⟩
            go_wp2
            go_ret
            exact ⟨rfl, Below.step (unhide HB) hb9⟩
          · have hin : s = len2 := by omega
            subst hin
            have hi1 : ¬ (s : Int) < (s : Int) := by omega
            have hm := hmf.later (unhide HC)
            replace h5 := h5.later (unhide HC)
            replace HB := hide (Below.step (unhide HB) (unhide HC))
            have HSM := hide (SameL.refl cl)
            have HFM := HF
            have HBM := HBC
            clear HC hmf HBE HST
            go_wp2_with fail
            refine (hnfK _ 0 _ cl 6 1791 6 (N : Int) _ (hm.mk (by omega)) (by omega) (unhide HFM) (unhide HBM) (by omega) (by omega) (by omega) (by omega)).mono ?_
            rintro e w11 ⟨a11, m11, c11, p11, hs11, rfl, h11, hf11, hsm11, hl11, hm11, hb9⟩
            have HE1 := hide (hnf_one (n := N) hf11 (unhide HF1) (hsm11.symm.trans ((unhide HSM).symm.trans (unhide HS1))) (fun r hr => by have := hl11 r hr; omega) (fun r hr => by have := unhide HL1 r hr; omega))
            replace h5 := h5.later hb9
            replace HB := hide (Below.step (unhide HB) hb9)
            clear hf11 hsm11 hl11 hm11 hb9 hm HFM HBM HSM
            go_wp2_with fail
            refine (hnfK a5 m c5 hs1 1791 1791 4 (N : Int) _ (h5.mk (by omega)) (by omega) (unhide HFH) (unhide HBH) (by omega) (by omega) (by omega) (by omega)).mono ?_
            rintro e w12 ⟨a12, m12, c12, p12, hs12, rfl, h12, hf12, hsm12, hl12, hm12, hb9⟩
            have HE2 := hide (hnf_one (n := N) hf12 (unhide HF1) hsm12.symm (fun r hr => by have := hl12 r hr; omega) (fun r hr => by have := unhide HL1 r hr; omega))
            replace h5 := h5.later hb9
            replace h11 := h11.later hb9
            replace HB := hide (Below.step (unhide HB) hb9)
            clear hf12 hsm12 hl12 hm12 hb9
            go_wp2_with fail
            refine (refSameAllK _ _ _ hs11 1791 _ _ _ hs1 1791 _ h11 h5 (unhide HE1)).mono ?_
            rintro e w13 ⟨rfl, hb9⟩
            replace h5 := h5.later hb9
            replace h12 := h12.later hb9
            replace HB := hide (Below.step (unhide HB) hb9)
            clear hb9 h11
            go_wp2_with fail
            refine (refSameAllK _ _ _ hs12 1791 _ _ _ hs1 1791 _ h12 h5 (unhide HE2)).mono ?_
            rintro e w14 ⟨rfl, hb9⟩
            replace HB := hide (Below.step (unhide HB) hb9)
            clear hb9 h12 h5
            go_wp2_with fail
            refine (awake10_any _).mono ?_
            rintro e w15 ⟨rfl, hb9⟩
            go_wp2
            go_ret
            exact ⟨rfl, Below.step (unhide HB) hb9⟩
      · obtain ⟨g, rfl⟩ : ∃ g, am = some ⟨g, 0, none⟩ := by
          rcases MO.nil_or hown with ⟨_, e, _⟩ | h
          · omega
          · exact h
        go_wp2_with fail
        go_loopw [54] (fun t wr => ∃ (s : Nat) (ml : List (List Int)), s ≤ len2 ∧ t = .int .i64 (s : Int) ∧ MO wr w4.heap.size (some ⟨g, 0, none⟩) len0 cm ml 6 ∧ OneState cl ml s N len0 ∧ Below w4.heap.size w4 wr) (fun t _ => len2 - (intOf t).toNat)
        case atStart => exact ⟨0, cl, Nat.zero_le _, rfl, hown, unhide HST, unhide HBE⟩
        case round =>
          clear hown
          obtain ⟨s, ml, hs, rfl, hown, hst, hB⟩ := hrel
          have HD := hide hB
          have HS := hide hst
          clear hB hst
          have hn0 : (len0 : Int) ≠ 0 := by omega
          have hn0' : ((len0 : Int) == 0) = false := by simp; omega
          have hn1 : (1 : Int) ≤ (len0 : Int) := by omega
          have hn2 : (0 : Int) < (len0 : Int) := by omega
          by_cases hlt : s < len2
          · obtain ⟨g2, o2, rfl⟩ := r2.some (by omega)
            obtain ⟨hg2, t0, t1, t2⟩ := r2.at hlt
            have HW0 := hide (Below.step (unhide HBA) (unhide HD))
            replace t0 := ((unhide HW0).cell (p := ⟨g2, o2 + s * 3, none⟩) hg2).trans t0
            replace t1 := ((unhide HW0).cell (p := ⟨g2, o2 + s * 3 + 1, none⟩) hg2).trans t1
            replace t2 := ((unhide HW0).cell (p := ⟨g2, o2 + s * 3 + 2, none⟩) hg2).trans t2
            have hgr := Nat.lt_of_lt_of_le hg2 (unhide HW0).size
            have hi0 : (0 : Int) ≤ (s : Int) := by omega
            have hi1 : (s : Int) < (len2 : Int) := by omega
            obtain ⟨x0, e0⟩ : ∃ x, x = f2 s 0 := ⟨_, rfl⟩
            obtain ⟨x1, e1⟩ : ∃ x, x = f2 s 1 := ⟨_, rfl⟩
            obtain ⟨x2, e2⟩ : ∃ x, x = f2 s 2 := ⟨_, rfl⟩
            rw [← e0] at t0
            rw [← e1] at t1
            rw [← e2] at t2
            have hx0 : -128 ≤ x0 ∧ x0 ≤ 127 := by rw [e0]; exact r2.small s 0
            have hx1 : -128 ≤ x1 ∧ x1 ≤ 127 := by rw [e1]; exact r2.small s 1
            have hx2 : -128 ≤ x2 ∧ x2 ≤ 127 := by rw [e2]; exact r2.small s 2
            obtain ⟨U0, hU0, hU0l⟩ := wrap_u8 hx0
            obtain ⟨U1, hU1, hU1l⟩ := wrap_u8 hx1
            obtain ⟨i, hi, hr0, hr0'⟩ := rem_of U0 len0 hz0
            obtain ⟨j, hj, hr1, hr1'⟩ := rem_of U1 len0 hz0
            have HX2 := hide hx2
            have hnn : ¬ len0 = 0 := by omega
            have hw0 : IntKind.i64.wrap ((U0 : Nat) : Int) = (U0 : Int) := wrap_natS U0 (by omega)
            have hw1 : IntKind.i64.wrap ((U1 : Nat) : Int) = (U1 : Int) := wrap_natS U1 (by omega)
            clear e0 e1 e2 HW0
            go_upto_region 12 with fail
            obtain ⟨W1, hW1⟩ : ∃ W1, W1 = wr.alloc (.cells #[.int .i8 x0, .int .i8 x1, .int .i8 x2] 33) := ⟨_, rfl⟩
            have hb0 : Below wr.heap.size wr W1 := by rw [hW1]; exact below_new _ _
            obtain ⟨gt, egt⟩ : ∃ gt, gt = wr.heap.size := ⟨_, rfl⟩
            have hgt : gt < W1.heap.size := by rw [hW1, egt]; simp
            replace t0 : W1.cell? ⟨gt, 0, none⟩ = some (.int .i8 x0) := by rw [hW1, egt]; simp
            replace t1 : W1.cell? ⟨gt, 1, none⟩ = some (.int .i8 x1) := by rw [hW1, egt]; simp
            replace t2 : W1.cell? ⟨gt, 2, none⟩ = some (.int .i8 x2) := by rw [hW1, egt]; simp
            rw [← hW1, ← egt]
            replace hown := hown.later hb0
            replace HD := hide (Below.step (unhide HD) hb0)
            clear hW1 egt hb0 hgr
            have HW : Below W1.heap.size W1 W1.drew := (Below.refl _ _).drew
            refine till_start (fun w' => w'.cell? ⟨gt, 0, none⟩ = some (.int .i8 x0) ∧ w'.cell? ⟨gt, 1, none⟩ = some (.int .i8 x1) ∧ w'.cell? ⟨gt, 2, none⟩ = some (.int .i8 x2)) 15 (by kernel_rfl) ?_ (fun hHeld => ?_)
            · exact ⟨(HW.cell (p := ⟨gt, 0, none⟩) hgt).trans t0, (HW.cell (p := ⟨gt, 1, none⟩) hgt).trans t1, (HW.cell (p := ⟨gt, 2, none⟩) hgt).trans t2⟩
            refine till_take (i := 0) (v := ?_) [1, 2, 3, 6, 14, 15] rfl (by kernel_rfl) (by kernel_rfl) (by kernel_rfl) (by kernel_rfl) (fun _ _ _ h => h) (Or.inl ⟨by rfl, ?_⟩) (by assumption) ?_
            rotate_left
            · (intro w hSw; (try dsimp only at hSw); go_simp; try with_reducible rfl)
            simp only [Act.put, List.getElem_toArray, List.getElem_cons_zero, List.setIfInBounds_toArray, List.set_cons_zero, List.set_cons_succ]
            refine till_take (i := 1) (v := ?_) [2, 3, 6, 14, 15] rfl (by kernel_rfl) (by kernel_rfl) (by kernel_rfl) (by kernel_rfl) (fun _ _ _ h => h) (Or.inl ⟨by rfl, ?_⟩) (by assumption) ?_
            rotate_left
            · (intro w hSw; (try dsimp only at hSw); go_simp; try with_reducible rfl)
            simp only [Act.put, List.getElem_toArray, List.getElem_cons_succ, List.getElem_cons_zero, List.setIfInBounds_toArray, List.set_cons_zero, List.set_cons_succ]
            refine till_take (i := 2) (v := ?_) [3, 6, 14, 15] rfl (by kernel_rfl) (by kernel_rfl) (by kernel_rfl) (by kernel_rfl) (fun _ _ _ h => h) (Or.inl ⟨by rfl, ?_⟩) (by assumption) ?_
            rotate_left
            · (intro w hSw; (try dsimp only at hSw); go_simp; try with_reducible rfl)
            simp only [Act.put, List.getElem_toArray, List.getElem_cons_succ, List.getElem_cons_zero, List.setIfInBounds_toArray, List.set_cons_zero, List.set_cons_succ]
            refine till_take (i := 3) (v := ?_) [6, 14, 15] rfl (by kernel_rfl) (by kernel_rfl) (by kernel_rfl) (by kernel_rfl) (fun _ _ _ h => h) (Or.inl ⟨by rfl, ?_⟩) (by assumption) ?_
            rotate_left
            · (intro w hSw; (try dsimp only at hSw); go_simp; try with_reducible rfl)
            simp only [Act.put, List.getElem_toArray, List.getElem_cons_succ, List.getElem_cons_zero, List.setIfInBounds_toArray, List.set_cons_zero, List.set_cons_succ]
            refine till_take (i := 4) (v := ?_) [5, 6, 14, 15] rfl (by kernel_rfl) (by kernel_rfl) (by kernel_rfl) (by kernel_rfl) (fun _ _ _ h => h) (Or.inl ⟨by rfl, ?_⟩) (by assumption) ?_
            rotate_left
            · (intro w hSw; (try dsimp only at hSw); go_simp; try with_reducible rfl)
            simp only [Act.put, List.getElem_toArray, List.getElem_cons_succ, List.getElem_cons_zero, List.setIfInBounds_toArray, List.set_cons_zero, List.set_cons_succ]
            refine till_take (i := 5) (v := ?_) [6, 14, 15] rfl (by kernel_rfl) (by kernel_rfl) (by kernel_rfl) (by kernel_rfl) (fun _ _ _ h => h) (Or.inl ⟨by rfl, ?_⟩) (by assumption) ?_
            rotate_left
            · (intro w hSw; (try dsimp only at hSw); go_simp; try with_reducible rfl)
            simp only [Act.put, List.getElem_toArray, List.getElem_cons_succ, List.getElem_cons_zero, List.setIfInBounds_toArray, List.set_cons_zero, List.set_cons_succ]
            refine till_take (i := 6) (v := ?_) [14, 15] rfl (by kernel_rfl) (by kernel_rfl) (by kernel_rfl) (by kernel_rfl) (fun _ _ _ h => h) (Or.inl ⟨by rfl, ?_⟩) (by assumption) ?_
            rotate_left
            · (intro w hSw; (try dsimp only at hSw); go_simp; try with_reducible rfl)
            simp only [Act.put, List.getElem_toArray, List.getElem_cons_succ, List.getElem_cons_zero, List.setIfInBounds_toArray, List.set_cons_zero, List.set_cons_succ]
            refine till_take (i := 7) (v := ?_) [8, 9, 10, 13, 15] rfl (by kernel_rfl) (by kernel_rfl) (by kernel_rfl) (by kernel_rfl) (fun _ _ _ h => h) (Or.inl ⟨by rfl, ?_⟩) (by assumption) ?_
            rotate_left
            · (intro w hSw; (try dsimp only at hSw); go_simp; try with_reducible rfl)
            simp only [Act.put, List.getElem_toArray, List.getElem_cons_succ, List.getElem_cons_zero, List.setIfInBounds_toArray, List.set_cons_zero, List.set_cons_succ]
            refine till_take (i := 8) (v := ?_) [9, 10, 13, 15] rfl (by kernel_rfl) (by kernel_rfl) (by kernel_rfl) (by kernel_rfl) (fun _ _ _ h => h) (Or.inl ⟨by rfl, ?_⟩) (by assumption) ?_
            rotate_left
            · (intro w hSw; (try dsimp only at hSw); go_simp; try with_reducible rfl)
            simp only [Act.put, List.getElem_toArray, List.getElem_cons_succ, List.getElem_cons_zero, List.setIfInBounds_toArray, List.set_cons_zero, List.set_cons_succ]
            refine till_take (i := 9) (v := ?_) [10, 13, 15] rfl (by kernel_rfl) (by kernel_rfl) (by kernel_rfl) (by kernel_rfl) (fun _ _ _ h => h) (Or.inl ⟨by rfl, ?_⟩) (by assumption) ?_
            rotate_left
            · (intro w hSw; (try dsimp only at hSw); go_simp; try with_reducible rfl)
            simp only [Act.put, List.getElem_toArray, List.getElem_cons_succ, List.getElem_cons_zero, List.setIfInBounds_toArray, List.set_cons_zero, List.set_cons_succ]
            refine till_take (i := 10) (v := ?_) [13, 15] rfl (by kernel_rfl) (by kernel_rfl) (by kernel_rfl) (by kernel_rfl) (fun _ _ _ h => h) (Or.inl ⟨by rfl, ?_⟩) (by assumption) ?_
            rotate_left
            · (intro w hSw; (try dsimp only at hSw); go_simp; try with_reducible rfl)
            simp only [Act.put, List.getElem_toArray, List.getElem_cons_succ, List.getElem_cons_zero, List.setIfInBounds_toArray, List.set_cons_zero, List.set_cons_succ]
            refine till_take (i := 11) (v := ?_) [12, 13, 15] rfl (by kernel_rfl) (by kernel_rfl) (by kernel_rfl) (by kernel_rfl) (fun _ _ _ h => h) (Or.inl ⟨by rfl, ?_⟩) (by assumption) ?_
            rotate_left
            · (intro w hSw; (try dsimp only at hSw); go_simp; try with_reducible rfl)
            simp only [Act.put, List.getElem_toArray, List.getElem_cons_succ, List.getElem_cons_zero, List.setIfInBounds_toArray, List.set_cons_zero, List.set_cons_succ]
            refine till_take (i := 12) (v := ?_) [13, 15] rfl (by kernel_rfl) (by kernel_rfl) (by kernel_rfl) (by kernel_rfl) (fun _ _ _ h => h) (Or.inl ⟨by rfl, ?_⟩) (by assumption) ?_
            rotate_left
            · (intro w hSw; (try dsimp only at hSw); go_simp; try with_reducible rfl)
            simp only [Act.put, List.getElem_toArray, List.getElem_cons_succ, List.getElem_cons_zero, List.setIfInBounds_toArray, List.set_cons_zero, List.set_cons_succ]
            refine till_take (i := 13) (v := ?_) [15] rfl (by kernel_rfl) (by kernel_rfl) (by kernel_rfl) (by kernel_rfl) (fun _ _ _ h => h) (Or.inl ⟨by rfl, ?_⟩) (by assumption) ?_
            rotate_left
            · (intro w hSw; (try dsimp only at hSw); go_simp; try with_reducible rfl)
            simp only [Act.put, List.getElem_toArray, List.getElem_cons_succ, List.getElem_cons_zero, List.setIfInBounds_toArray, List.set_cons_zero, List.set_cons_succ]
            refine till_in (i := 14) (by kernel_rfl) rfl (fun K hK => ?_)
            go_simp
            refine hK.out _ _ ?_ (fun hHeld => ?_)
            · exact ⟨(HW.cell (p := ⟨gt, 0, none⟩) hgt).trans t0, (HW.cell (p := ⟨gt, 1, none⟩) hgt).trans t1, (HW.cell (p := ⟨gt, 2, none⟩) hgt).trans t2⟩
            clear hK K
            try simp only [Act.put, List.getElem_toArray, List.getElem_cons_succ, List.getElem_cons_zero, List.setIfInBounds_toArray, List.set_cons_zero, List.set_cons_succ]
            refine till_out (i := 15) (by kernel_rfl) rfl (by kernel_rfl) (fun K hK => ?_)
            go_simp
            refine hK.out _ _ ?_
            clear hK K
            try simp only [Act.put, List.getElem_toArray, List.getElem_cons_succ, List.getElem_cons_zero, List.setIfInBounds_toArray, List.set_cons_zero, List.set_cons_succ]
            refine till_done (by kernel_rfl) ?_ _
            obtain ⟨wd, hwd⟩ : ∃ wd, wd = W1.drew := ⟨_, rfl⟩
            rw [← hwd] at HW ⊢
            clear hwd hHeld
            replace hown := hown.later HW
            replace HD := hide (Below.step (unhide HD) HW)
            replace t2 := (HW.cell (p := ⟨gt, 2, none⟩) hgt).trans t2
            replace hgt := Nat.lt_of_lt_of_le hgt HW.size
            clear HW t0 t1 hnn hw0 hw1 hU0 hU1 hr0 hr0' hr1 hr1' hx0 hx1
            obtain ⟨a5, l5, c5, u5, v5⟩ := hown.at hi
            obtain ⟨a6, l6, c6, u6, v6⟩ := hown.at hj
            have hl5 : N = l5 := by rw [← v5.len_eq]; exact ((unhide HS).lens i hi).symm
            have hl6 : N = l6 := by rw [← v6.len_eq]; exact ((unhide HS).lens j hj).symm
            subst hl5
            subst hl6
            have hbl := hown.base_le
            have hgm := hbl.2
            have hgmg : g ≠ gt ∨ g = gt := by omega
            have hj0 : (0 : Int) ≤ (i : Int) := by omega
            have hj1 : (i : Int) < (len0 : Int) := by omega
            have hj2 : (0 : Int) ≤ (j : Int) := by omega
            have hj3 : (j : Int) < (len0 : Int) := by omega
            by_cases hij : i = j
            · subst hij
              have HST2 := hide ((unhide HS).neg hi)
              have hb6 : ∀ t, ((vneg (ml.getD i [])).getD t 0).natAbs < Bp 6 := fun t => by
                have := (unhide HST2).bd i t
                rw [ent_same (by rw [(unhide HS).len]; exact hi)] at this
                exact pow_six (by omega) this
              have HB6 := hide hb6
              have hijq : ((i : Int) == (i : Int)) = true := by simp
              clear hb6 u6 v6
              go_wp2_with fail
              refine (vnegK _ _ _ (ml.getD i []) 6 _ (v5.vk (by omega)) (by omega)).mono ?_
              rintro e w8 ⟨a8, c8, rfl, h8, hb9⟩
              replace hown := hown.later hb9
              replace HD := hide (Below.step (unhide HD) hb9)
              replace u5 := (hb9.cell (p := ⟨g, i, none⟩) hgm).trans u5
              have q7 := hown.free i
              have hgm8 := hown.base_le.2
              clear hb9 v5 t2
              go_wp2
              go_roundw
              case rel => exact ⟨s + 1, _, by omega, by go_num, mo_set hown hi (vf_tight h8 fun t _ => unhide HB6 t), unhide HST2, (unhide HD).setCell (by simpa using hbl.1) _⟩
              case measure => simp [intOf]; omega
            · have hijq : ((i : Int) == (j : Int)) = false := by simp; omega
              have hijn : ¬ (i : Int) = (j : Int) := by omega
              by_cases hx : x2 = 0
              · subst hx
                have HST2 := hide ((unhide HS).swap hi hj)
                go_upto_region 17 with fail
                have HW : Below wd.heap.size wd wd.drew := (Below.refl _ _).drew
                refine till_start (fun w' => w'.cell? ⟨g, i, none⟩ = some (.slice a5 N c5) ∧ w'.cell? ⟨g, j, none⟩ = some (.slice a6 N c6)) 13 (by kernel_rfl) ?_ (fun hHeld => ?_)
                · exact ⟨(HW.cell (p := ⟨g, i, none⟩) hgm).trans u5, (HW.cell (p := ⟨g, j, none⟩) hgm).trans u6⟩
                refine till_take (i := 0) (v := ?_) [12, 13, 14, 15] rfl (by kernel_rfl) (by kernel_rfl) (by kernel_rfl) (by kernel_rfl) (fun _ _ _ h => h) (Or.inl ⟨by rfl, ?_⟩) (by assumption) ?_
                rotate_left
                · (intro w hSw; (try dsimp only at hSw); go_simp; try with_reducible rfl)
                simp only [Act.put, List.getElem_toArray, List.getElem_cons_zero, List.setIfInBounds_toArray, List.set_cons_zero, List.set_cons_succ]
                refine till_take (i := 1) (v := ?_) [12, 13, 14, 15] rfl (by kernel_rfl) (by kernel_rfl) (by kernel_rfl) (by kernel_rfl) (fun _ _ _ h => h) (Or.inl ⟨by rfl, ?_⟩) (by assumption) ?_
                rotate_left
                · (intro w hSw; (try dsimp only at hSw); go_simp; try with_reducible rfl)
                simp only [Act.put, List.getElem_toArray, List.getElem_cons_succ, List.getElem_cons_zero, List.setIfInBounds_toArray, List.set_cons_zero, List.set_cons_succ]
                refine till_take (i := 4) (v := ?_) [6, 7, 12, 13, 14, 15] rfl (by kernel_rfl) (by kernel_rfl) (by kernel_rfl) (by kernel_rfl) (fun _ _ _ h => h) (Or.inl ⟨by rfl, ?_⟩) (by assumption) ?_
                rotate_left
                · (intro w hSw; (try dsimp only at hSw); go_simp; try with_reducible rfl)
                simp only [Act.put, List.getElem_toArray, List.getElem_cons_succ, List.getElem_cons_zero, List.setIfInBounds_toArray, List.set_cons_zero, List.set_cons_succ]
                refine till_take (i := 5) (v := ?_) [6, 7, 12, 13, 14, 15] rfl (by kernel_rfl) (by kernel_rfl) (by kernel_rfl) (by kernel_rfl) (fun _ _ _ h => h) (Or.inl ⟨by rfl, ?_⟩) (by assumption) ?_
                rotate_left
                · (intro w hSw; (try dsimp only at hSw); go_simp; try with_reducible rfl)
                simp only [Act.put, List.getElem_toArray, List.getElem_cons_succ, List.getElem_cons_zero, List.setIfInBounds_toArray, List.set_cons_zero, List.set_cons_succ]
                refine till_take (i := 6) (v := ?_) [7, 12, 13, 14, 15] rfl (by kernel_rfl) (by kernel_rfl) (by kernel_rfl) (by kernel_rfl) (fun _ _ _ h => h) (Or.inl ⟨by rfl, ?_⟩) (by assumption) ?_
                rotate_left
                · (intro w hSw; (try dsimp only at hSw); go_simp; try with_reducible rfl)
                simp only [Act.put, List.getElem_toArray, List.getElem_cons_succ, List.getElem_cons_zero, List.setIfInBounds_toArray, List.set_cons_zero, List.set_cons_succ]
                refine till_take (i := 7) (v := ?_) [12, 13, 14, 15] rfl (by kernel_rfl) (by kernel_rfl) (by kernel_rfl) (by kernel_rfl) (fun _ _ _ h => h) (Or.inl ⟨by rfl, ?_⟩) (by assumption) ?_
                rotate_left
                · (intro w hSw; (try dsimp only at hSw); go_simp; try with_reducible rfl)
                simp only [Act.put, List.getElem_toArray, List.getElem_cons_succ, List.getElem_cons_zero, List.setIfInBounds_toArray, List.set_cons_zero, List.set_cons_succ]
                refine till_take (i := 8) (v := ?_) [10, 11, 12, 13, 14, 15] rfl (by kernel_rfl) (by kernel_rfl) (by kernel_rfl) (by kernel_rfl) (fun _ _ _ h => h) (Or.inl ⟨by rfl, ?_⟩) (by assumption) ?_
                rotate_left
                · (intro w hSw; (try dsimp only at hSw); go_simp; try with_reducible rfl)
                simp only [Act.put, List.getElem_toArray, List.getElem_cons_succ, List.getElem_cons_zero, List.setIfInBounds_toArray, List.set_cons_zero, List.set_cons_succ]
                refine till_take (i := 9) (v := ?_) [10, 11, 12, 13, 14, 15] rfl (by kernel_rfl) (by kernel_rfl) (by kernel_rfl) (by kernel_rfl) (fun _ _ _ h => h) (Or.inl ⟨by rfl, ?_⟩) (by assumption) ?_
                rotate_left
                · (intro w hSw; (try dsimp only at hSw); go_simp; try with_reducible rfl)
                simp only [Act.put, List.getElem_toArray, List.getElem_cons_succ, List.getElem_cons_zero, List.setIfInBounds_toArray, List.set_cons_zero, List.set_cons_succ]
                refine till_take (i := 10) (v := ?_) [11, 12, 13, 14, 15] rfl (by kernel_rfl) (by kernel_rfl) (by kernel_rfl) (by kernel_rfl) (fun _ _ _ h => h) (Or.inl ⟨by rfl, ?_⟩) (by assumption) ?_
                rotate_left
                · (intro w hSw; (try dsimp only at hSw); go_simp; try with_reducible rfl)
                simp only [Act.put, List.getElem_toArray, List.getElem_cons_succ, List.getElem_cons_zero, List.setIfInBounds_toArray, List.set_cons_zero, List.set_cons_succ]
                refine till_take (i := 11) (v := ?_) [12, 13, 14, 15] rfl (by kernel_rfl) (by kernel_rfl) (by kernel_rfl) (by kernel_rfl) (fun _ _ _ h => h) (Or.inl ⟨by rfl, ?_⟩) (by assumption) ?_
                rotate_left
                · (intro w hSw; (try dsimp only at hSw); go_simp; try with_reducible rfl)
                simp only [Act.put, List.getElem_toArray, List.getElem_cons_succ, List.getElem_cons_zero, List.setIfInBounds_toArray, List.set_cons_zero, List.set_cons_succ]
                refine till_take (i := 12) (v := ?_) [13, 14, 15] rfl (by kernel_rfl) (by kernel_rfl) (by kernel_rfl) (by kernel_rfl) (fun _ _ _ h => h) (Or.inl ⟨by rfl, ?_⟩) (by assumption) ?_
                rotate_left
                · (intro w hSw; (try dsimp only at hSw); go_simp; try with_reducible rfl)
                simp only [Act.put, List.getElem_toArray, List.getElem_cons_succ, List.getElem_cons_zero, List.setIfInBounds_toArray, List.set_cons_zero, List.set_cons_succ]
                refine till_free (i := 2) (v := ?_) rfl (by kernel_rfl) (by kernel_rfl) (by kernel_rfl) (by kernel_rfl) (fun _ _ _ h => h) (Or.inl ⟨by rfl, ?_⟩) (by assumption) ?_
                rotate_left
                · (intro w hSw; (try dsimp only at hSw); go_simp; try with_reducible rfl)
                simp only [Act.put, List.getElem_toArray, List.getElem_cons_succ, List.getElem_cons_zero, List.setIfInBounds_toArray, List.set_cons_zero, List.set_cons_succ]
                refine till_free (i := 3) (v := ?_) rfl (by kernel_rfl) (by kernel_rfl) (by kernel_rfl) (by kernel_rfl) (fun _ _ _ h => h) (Or.inl ⟨by rfl, ?_⟩) (by assumption) ?_
                rotate_left
                · (intro w hSw; (try dsimp only at hSw); go_simp; try with_reducible rfl)
                simp only [Act.put, List.getElem_toArray, List.getElem_cons_succ, List.getElem_cons_zero, List.setIfInBounds_toArray, List.set_cons_zero, List.set_cons_succ]
                have r5 := u5
                have r6 := u6
                have r7 := hown.free i
                have r8 := hown.free j
                have q5 := (HW.cell (p := ⟨g, i, none⟩) hgm).trans u5
                have q6 := (HW.cell (p := ⟨g, j, none⟩) hgm).trans u6
                have q7 := (hown.later HW).free i
                have q8 := (hown.later HW).free j
                refine till_out (i := 13) (by kernel_rfl) rfl (by kernel_rfl) (fun K hK => ?_)
                go_simp
                refine hK.out _ _ ?_
                clear hK K
                try simp only [Act.put, List.getElem_toArray, List.getElem_cons_succ, List.getElem_cons_zero, List.setIfInBounds_toArray, List.set_cons_zero, List.set_cons_succ]
                refine till_out (i := 14) (by kernel_rfl) rfl (by kernel_rfl) (fun K hK => ?_)
                go_simp
                refine hK.out _ _ ?_
                clear hK K
                try simp only [Act.put, List.getElem_toArray, List.getElem_cons_succ, List.getElem_cons_zero, List.setIfInBounds_toArray, List.set_cons_zero, List.set_cons_succ]
                refine till_out (i := 15) (by kernel_rfl) rfl (by kernel_rfl) (fun K hK => ?_)
                go_simp
                refine hK.out _ _ ?_
                clear hK K
                try simp only [Act.put, List.getElem_toArray, List.getElem_cons_succ, List.getElem_cons_zero, List.setIfInBounds_toArray, List.set_cons_zero, List.set_cons_succ]
                refine till_done (by kernel_rfl) ?_ _
                clear r5 r6 r7 r8 q5 q6 q7 q8 hHeld
                have ho1 := mo_set hown hi v6
                have hv5 := vf_after (i := i) (v := .slice a6 N c6) hown v5
                have ho2 := mo_set ho1 hj hv5
                have hbz := ((unhide HD).setCell (p := ⟨g, i, none⟩) (by simpa using hbl.1) (.slice a6 N c6)).setCell (p := ⟨g, j, none⟩) (by simpa using hbl.1) (.slice a5 N c5)
                have hdr : Below ((wd.setCell ⟨g, i, none⟩ (.slice a6 N c6)).setCell ⟨g, j, none⟩ (.slice a5 N c5)).heap.size ((wd.setCell ⟨g, i, none⟩ (.slice a6 N c6)).setCell ⟨g, j, none⟩ (.slice a5 N c5)) ((wd.setCell ⟨g, i, none⟩ (.slice a6 N c6)).setCell ⟨g, j, none⟩ (.slice a5 N c5)).drew := (Below.refl _ _).drew
                have ho3 := ho2.later hdr
                have HBZ := hide hbz.drew
                clear ho1 hv5 ho2 hbz hdr hown v5 v6 HW u5 u6 t2
                go_wp2
                go_roundw
                case rel => exact ⟨s + 1, _, by omega, by go_num, ho3, unhide HST2, unhide HBZ⟩
                case measure => simp [intOf]; omega
              · have hxq : (x2 == 0) = false := by simp; exact hx
                have hxr := unhide HX2
                have HST2 := hide ((unhide HS).add hi hj hij (unhide HX2))
                have hb6 : ∀ t, ((vadd (ml.getD i []) (vtimes (ml.getD j []) x2)).getD t 0).natAbs < Bp 6 := fun t => by
                  have := (unhide HST2).bd i t
                  rw [ent_same (by rw [(unhide HS).len]; exact hi)] at this
                  exact pow_six (by omega) this
                have HB6 := hide hb6
                have hwx : IntKind.i64.wrap x2 = x2 := by
                  simp [IntKind.wrap, IntKind.bits, IntKind.signed]
                  omega
                clear hb6
                go_upto_region 13 with fail
                have HW : Below wd.heap.size wd wd.drew := (Below.refl _ _).drew
                refine till_start (fun w' => w'.cell? ⟨g, i, none⟩ = some (.slice a5 N c5) ∧ w'.cell? ⟨g, j, none⟩ = some (.slice a6 N c6) ∧ w'.cell? ⟨gt, 2, none⟩ = some (.int .i8 x2)) 17 (by kernel_rfl) ?_ (fun hHeld => ?_)
                · exact ⟨(HW.cell (p := ⟨g, i, none⟩) hgm).trans u5, (HW.cell (p := ⟨g, j, none⟩) hgm).trans u6, (HW.cell (p := ⟨gt, 2, none⟩) hgt).trans t2⟩
                refine till_take (i := 0) (v := ?_) [16, 17] rfl (by kernel_rfl) (by kernel_rfl) (by kernel_rfl) (by kernel_rfl) (fun _ _ _ h => h) (Or.inl ⟨by rfl, ?_⟩) (by assumption) ?_
                rotate_left
                · (intro w hSw; (try dsimp only at hSw); go_simp; try with_reducible rfl)
                simp only [Act.put, List.getElem_toArray, List.getElem_cons_zero, List.setIfInBounds_toArray, List.set_cons_zero, List.set_cons_succ]
                refine till_take (i := 1) (v := ?_) [16, 17] rfl (by kernel_rfl) (by kernel_rfl) (by kernel_rfl) (by kernel_rfl) (fun _ _ _ h => h) (Or.inl ⟨by rfl, ?_⟩) (by assumption) ?_
                rotate_left
                · (intro w hSw; (try dsimp only at hSw); go_simp; try with_reducible rfl)
                simp only [Act.put, List.getElem_toArray, List.getElem_cons_succ, List.getElem_cons_zero, List.setIfInBounds_toArray, List.set_cons_zero, List.set_cons_succ]
                refine till_take (i := 2) (v := ?_) [4, 5, 15, 16, 17] rfl (by kernel_rfl) (by kernel_rfl) (by kernel_rfl) (by kernel_rfl) (fun _ _ _ h => h) (Or.inl ⟨by rfl, ?_⟩) (by assumption) ?_
                rotate_left
                · (intro w hSw; (try dsimp only at hSw); go_simp; try with_reducible rfl)
                simp only [Act.put, List.getElem_toArray, List.getElem_cons_succ, List.getElem_cons_zero, List.setIfInBounds_toArray, List.set_cons_zero, List.set_cons_succ]
                refine till_take (i := 3) (v := ?_) [4, 5, 15, 16, 17] rfl (by kernel_rfl) (by kernel_rfl) (by kernel_rfl) (by kernel_rfl) (fun _ _ _ h => h) (Or.inl ⟨by rfl, ?_⟩) (by assumption) ?_
                rotate_left
                · (intro w hSw; (try dsimp only at hSw); go_simp; try with_reducible rfl)
                simp only [Act.put, List.getElem_toArray, List.getElem_cons_succ, List.getElem_cons_zero, List.setIfInBounds_toArray, List.set_cons_zero, List.set_cons_succ]
                refine till_take (i := 4) (v := ?_) [5, 15, 16, 17] rfl (by kernel_rfl) (by kernel_rfl) (by kernel_rfl) (by kernel_rfl) (fun _ _ _ h => h) (Or.inl ⟨by rfl, ?_⟩) (by assumption) ?_
                rotate_left
                · (intro w hSw; (try dsimp only at hSw); go_simp; try with_reducible rfl)
                simp only [Act.put, List.getElem_toArray, List.getElem_cons_succ, List.getElem_cons_zero, List.setIfInBounds_toArray, List.set_cons_zero, List.set_cons_succ]
                refine till_take (i := 5) (v := ?_) [15, 16, 17] rfl (by kernel_rfl) (by kernel_rfl) (by kernel_rfl) (by kernel_rfl) (fun _ _ _ h => h) (Or.inl ⟨by rfl, ?_⟩) (by assumption) ?_
                rotate_left
                · (intro w hSw; (try dsimp only at hSw); go_simp; try with_reducible rfl)
                simp only [Act.put, List.getElem_toArray, List.getElem_cons_succ, List.getElem_cons_zero, List.setIfInBounds_toArray, List.set_cons_zero, List.set_cons_succ]
                refine till_take (i := 6) (v := ?_) [8, 9, 14, 15, 16, 17] rfl (by kernel_rfl) (by kernel_rfl) (by kernel_rfl) (by kernel_rfl) (fun _ _ _ h => h) (Or.inl ⟨by rfl, ?_⟩) (by assumption) ?_
                rotate_left
                · (intro w hSw; (try dsimp only at hSw); go_simp; try with_reducible rfl)
                simp only [Act.put, List.getElem_toArray, List.getElem_cons_succ, List.getElem_cons_zero, List.setIfInBounds_toArray, List.set_cons_zero, List.set_cons_succ]
                refine till_take (i := 7) (v := ?_) [8, 9, 14, 15, 16, 17] rfl (by kernel_rfl) (by kernel_rfl) (by kernel_rfl) (by kernel_rfl) (fun _ _ _ h => h) (Or.inl ⟨by rfl, ?_⟩) (by assumption) ?_
                rotate_left
                · (intro w hSw; (try dsimp only at hSw); go_simp; try with_reducible rfl)
                simp only [Act.put, List.getElem_toArray, List.getElem_cons_succ, List.getElem_cons_zero, List.setIfInBounds_toArray, List.set_cons_zero, List.set_cons_succ]
                refine till_take (i := 8) (v := ?_) [9, 14, 15, 16, 17] rfl (by kernel_rfl) (by kernel_rfl) (by kernel_rfl) (by kernel_rfl) (fun _ _ _ h => h) (Or.inl ⟨by rfl, ?_⟩) (by assumption) ?_
                rotate_left
                · (intro w hSw; (try dsimp only at hSw); go_simp; try with_reducible rfl)
                simp only [Act.put, List.getElem_toArray, List.getElem_cons_succ, List.getElem_cons_zero, List.setIfInBounds_toArray, List.set_cons_zero, List.set_cons_succ]
                refine till_take (i := 9) (v := ?_) [14, 15, 16, 17] rfl (by kernel_rfl) (by kernel_rfl) (by kernel_rfl) (by kernel_rfl) (fun _ _ _ h => h) (Or.inl ⟨by rfl, ?_⟩) (by assumption) ?_
                rotate_left
                · (intro w hSw; (try dsimp only at hSw); go_simp; try with_reducible rfl)
                simp only [Act.put, List.getElem_toArray, List.getElem_cons_succ, List.getElem_cons_zero, List.setIfInBounds_toArray, List.set_cons_zero, List.set_cons_succ]
                refine till_take (i := 10) (v := ?_) [11, 12, 13, 14, 15, 16, 17] rfl (by kernel_rfl) (by kernel_rfl) (by kernel_rfl) (by kernel_rfl) (fun _ _ _ h => h) (Or.inl ⟨by rfl, ?_⟩) (by assumption) ?_
                rotate_left
                · (intro w hSw; (try dsimp only at hSw); go_simp; try with_reducible rfl)
                simp only [Act.put, List.getElem_toArray, List.getElem_cons_succ, List.getElem_cons_zero, List.setIfInBounds_toArray, List.set_cons_zero, List.set_cons_succ]
                refine till_take (i := 11) (v := ?_) [12, 13, 14, 15, 16, 17] rfl (by kernel_rfl) (by kernel_rfl) (by kernel_rfl) (by kernel_rfl) (fun _ _ _ h => h) (Or.inl ⟨by rfl, ?_⟩) (by assumption) ?_
                rotate_left
                · (intro w hSw; (try dsimp only at hSw); go_simp; try with_reducible rfl)
                simp only [Act.put, List.getElem_toArray, List.getElem_cons_succ, List.getElem_cons_zero, List.setIfInBounds_toArray, List.set_cons_zero, List.set_cons_succ]
                refine till_take (i := 12) (v := ?_) [13, 14, 15, 16, 17] rfl (by kernel_rfl) (by kernel_rfl) (by kernel_rfl) (by kernel_rfl) (fun _ _ _ h => h) (Or.inl ⟨by rfl, ?_⟩) (by assumption) ?_
                rotate_left
                · (intro w hSw; (try dsimp only at hSw); go_simp; try with_reducible rfl)
                simp only [Act.put, List.getElem_toArray, List.getElem_cons_succ, List.getElem_cons_zero, List.setIfInBounds_toArray, List.set_cons_zero, List.set_cons_succ]
                refine till_in (i := 13) (by kernel_rfl) rfl (fun K hK => ?_)
                go_simp
                refine (rofK x2 _ (by omega) (by omega)).mono ?_
                rintro e w8 ⟨b8, a8, l8, c8, rfl, h8, hb9⟩
                replace HW := Below.step HW hb9
                clear hb9
                refine hK.out _ _ ?_ (fun hHeld => ?_)
                · exact ⟨(HW.cell (p := ⟨g, i, none⟩) hgm).trans u5, (HW.cell (p := ⟨g, j, none⟩) hgm).trans u6, (HW.cell (p := ⟨gt, 2, none⟩) hgt).trans t2⟩
                clear hK K
                try simp only [Act.put, List.getElem_toArray, List.getElem_cons_succ, List.getElem_cons_zero, List.setIfInBounds_toArray, List.set_cons_zero, List.set_cons_succ]
                refine till_in (i := 14) (by kernel_rfl) rfl (fun K hK => ?_)
                go_simp
                refine (vtimesK _ _ _ (ml.getD j []) 6 b8 a8 l8 c8 x2 2 _ ((v6.later HW).vk (by omega)) (h8.ik (by omega)) (by omega)).mono ?_
                rintro e w9 ⟨a9, c9, rfl, h9, hb9⟩
                replace HW := Below.step HW hb9
                clear hb9 h8
                refine hK.out _ _ ?_ (fun hHeld => ?_)
                · exact ⟨(HW.cell (p := ⟨g, i, none⟩) hgm).trans u5, (HW.cell (p := ⟨g, j, none⟩) hgm).trans u6, (HW.cell (p := ⟨gt, 2, none⟩) hgt).trans t2⟩
                clear hK K
                try simp only [Act.put, List.getElem_toArray, List.getElem_cons_succ, List.getElem_cons_zero, List.setIfInBounds_toArray, List.set_cons_zero, List.set_cons_succ]
                refine till_in (i := 15) (by kernel_rfl) rfl (fun K hK => ?_)
                go_simp
                refine (vaddK _ _ _ (ml.getD i []) 6 _ _ _ (vtimes (ml.getD j []) x2) (6 + 2) _ ((v5.later HW).vk (by omega)) (h9.vk (by omega)) (by omega) (by omega) (by omega) (by omega)).mono ?_
                rintro e w10 ⟨a10, c10, rfl, h10, hb9⟩
                rw [Nat.max_self] at h10
                (try rw [Nat.max_self])
                replace HW := Below.step HW hb9
                clear hb9 h9
                refine hK.out _ _ ?_ (fun hHeld => ?_)
                · exact ⟨(HW.cell (p := ⟨g, i, none⟩) hgm).trans u5, (HW.cell (p := ⟨g, j, none⟩) hgm).trans u6, (HW.cell (p := ⟨gt, 2, none⟩) hgt).trans t2⟩
                clear hK K
                try simp only [Act.put, List.getElem_toArray, List.getElem_cons_succ, List.getElem_cons_zero, List.setIfInBounds_toArray, List.set_cons_zero, List.set_cons_succ]
                refine till_take (i := 16) (v := ?_) [17] rfl (by kernel_rfl) (by kernel_rfl) (by kernel_rfl) (by kernel_rfl) (fun _ _ _ h => h) (Or.inl ⟨by rfl, ?_⟩) (by assumption) ?_
                rotate_left
                · (intro w hSw; (try dsimp only at hSw); go_simp; try with_reducible rfl)
                simp only [Act.put, List.getElem_toArray, List.getElem_cons_succ, List.getElem_cons_zero, List.setIfInBounds_toArray, List.set_cons_zero, List.set_cons_succ]
                have q5 := (HW.cell (p := ⟨g, i, none⟩) hgm).trans u5
                have q7 := (hown.later HW).free i
                refine till_out (i := 17) (by kernel_rfl) rfl (by kernel_rfl) (fun K hK => ?_)
                go_simp
                refine hK.out _ _ ?_
                clear hK K
                try simp only [Act.put, List.getElem_toArray, List.getElem_cons_succ, List.getElem_cons_zero, List.setIfInBounds_toArray, List.set_cons_zero, List.set_cons_succ]
                refine till_done (by kernel_rfl) ?_ _
                clear q5 q7 hHeld
                replace hown := hown.later HW
                replace HD := hide (Below.step (unhide HD) HW)
                clear HW v5 v6 u5 u6 t2
                go_wp2
                go_roundw
                case rel => exact ⟨s + 1, _, by omega, by go_num, mo_set hown hi (vf_tight h10 fun t _ => unhide HB6 t), unhide HST2, (unhide HD).setCell (by simpa using hbl.1) _⟩
                case measure => simp [intOf]; omega
          · have hin : s = len2 := by omega
            subst hin
            have hi1 : ¬ (s : Int) < (s : Int) := by omega
            obtain ⟨hsm, hfm, hbm⟩ := one_more (unhide HS) hs12 hz0 hn5 hN1 hN7
            have HSM := hide hsm
            have HFM := hide hfm
            have HBM := hide hbm
            obtain ⟨a5x, l5, c5x, u5, v5⟩ := hown.at hz0
            have hl5 : N = l5 := by rw [← v5.len_eq]; exact ((unhide HS).lens 0 hz0).symm
            subst hl5
            have hgm := hown.base_le.2
            clear hsm hfm hbm
            go_upto_region 20 with fail
            have HW : Below wr.heap.size wr wr.drew := (Below.refl _ _).drew
            refine till_start (fun w' => w'.cell? ⟨g, 0, none⟩ = some (.slice a5x N c5x)) 7 (by kernel_rfl) ?_ (fun hHeld => ?_)
            · exact (HW.cell (p := ⟨g, 0, none⟩) hgm).trans u5
            refine till_take (i := 0) (v := ?_) [7, 8] rfl (by kernel_rfl) (by kernel_rfl) (by kernel_rfl) (by kernel_rfl) (fun _ _ _ h => h) (Or.inl ⟨by rfl, ?_⟩) (by assumption) ?_
            rotate_left
            · (intro w hSw; (try dsimp only at hSw); go_simp; try with_reducible rfl)
            simp only [Act.put, List.getElem_toArray, List.getElem_cons_zero, List.setIfInBounds_toArray, List.set_cons_zero, List.set_cons_succ]
            refine till_take (i := 1) (v := ?_) [2, 3, 6, 7, 8] rfl (by kernel_rfl) (by kernel_rfl) (by kernel_rfl) (by kernel_rfl) (fun _ _ _ h => h) (Or.inl ⟨by rfl, ?_⟩) (by assumption) ?_
            rotate_left
            · (intro w hSw; (try dsimp only at hSw); go_simp; try with_reducible rfl)
            simp only [Act.put, List.getElem_toArray, List.getElem_cons_succ, List.getElem_cons_zero, List.setIfInBounds_toArray, List.set_cons_zero, List.set_cons_succ]
            refine till_take (i := 2) (v := ?_) [3, 6, 7, 8] rfl (by kernel_rfl) (by kernel_rfl) (by kernel_rfl) (by kernel_rfl) (fun _ _ _ h => h) (Or.inl ⟨by rfl, ?_⟩) (by assumption) ?_
            rotate_left
            · (intro w hSw; (try dsimp only at hSw); go_simp; try with_reducible rfl)
            simp only [Act.put, List.getElem_toArray, List.getElem_cons_succ, List.getElem_cons_zero, List.setIfInBounds_toArray, List.set_cons_zero, List.set_cons_succ]
            refine till_take (i := 3) (v := ?_) [6, 7, 8] rfl (by kernel_rfl) (by kernel_rfl) (by kernel_rfl) (by kernel_rfl) (fun _ _ _ h => h) (Or.inl ⟨by rfl, ?_⟩) (by assumption) ?_
            rotate_left
            · (intro w hSw; (try dsimp only at hSw); go_simp; try with_reducible rfl)
            simp only [Act.put, List.getElem_toArray, List.getElem_cons_succ, List.getElem_cons_zero, List.setIfInBounds_toArray, List.set_cons_zero, List.set_cons_succ]
            refine till_take (i := 4) (v := ?_) [5, 6, 7, 8] rfl (by kernel_rfl) (by kernel_rfl) (by kernel_rfl) (by kernel_rfl) (fun _ _ _ h => h) (Or.inl ⟨by rfl, ?_⟩) (by assumption) ?_
            rotate_left
            · (intro w hSw; (try dsimp only at hSw); go_simp; try with_reducible rfl)
            simp only [Act.put, List.getElem_toArray, List.getElem_cons_succ, List.getElem_cons_zero, List.setIfInBounds_toArray, List.set_cons_zero, List.set_cons_succ]
            refine till_in (i := 5) (by kernel_rfl) rfl (fun K hK => ?_)
            go_simp
            refine (vzeroK (N : Int) 6 _).mono ?_
            rintro e w8 ⟨gz, rfl, hz, hb9⟩
            rw [unhide HRM] at hz ⊢
            replace HW := Below.step HW hb9
            clear hb9
            refine hK.out _ _ ?_ (fun hHeld => ?_)
            · exact (HW.cell (p := ⟨g, 0, none⟩) hgm).trans u5
            clear hK K
            try simp only [Act.put, List.getElem_toArray, List.getElem_cons_succ, List.getElem_cons_zero, List.setIfInBounds_toArray, List.set_cons_zero, List.set_cons_succ]
            refine till_in (i := 6) (by kernel_rfl) rfl (fun K hK => ?_)
            go_simp
            obtain ⟨wk, hWe⟩ : ∃ W', W' = w8.alloc (.cells #[.slice a5x N c5x, .slice (some ⟨gz, 0, none⟩) N N] 35) := ⟨_, rfl⟩
            have hb9 : Below w8.heap.size w8 wk := by rw [hWe]; exact below_new _ _
            have htwo : MF wk (some ⟨w8.heap.size, 0, none⟩) 2 2 [ml.getD 0 [], List.replicate N 0] 6 := by rw [hWe]; exact mf_two (v5.later HW) hz.vf
            rw [← hWe]
            clear hWe
            replace HW := Below.step HW hb9
            clear hb9 hz
            have hbk : w4.heap.size ≤ wk.heap.size := Nat.le_trans (unhide HD).size HW.size
            refine hK.out _ _ ?_ (fun hHeld => ?_)
            · exact (HW.cell (p := ⟨g, 0, none⟩) hgm).trans u5
            clear hK K
            try simp only [Act.put, List.getElem_toArray, List.getElem_cons_succ, List.getElem_cons_zero, List.setIfInBounds_toArray, List.set_cons_zero, List.set_cons_succ]
            refine till_out (i := 7) (by kernel_rfl) rfl (by kernel_rfl) (fun K hK => ?_)
            refine step_rows (R := fun w a l c zs => VF w a l c zs 6) (steadyMO 6) (by rfl) _ _ 22 Try.underlying22 (by rfl) w4.heap.size _ len0 _ ml (by rfl) (hown.later HW) _ 2 2 [ml.getD 0 [], List.replicate N 0] (by rfl) htwo (by omega) hbk ?_
            intro an cn w9 hown2 hgr7
            refine hK.out _ _ ?_
            clear hK K
            try simp only [Act.put, List.getElem_toArray, List.getElem_cons_succ, List.getElem_cons_zero, List.setIfInBounds_toArray, List.set_cons_zero, List.set_cons_succ]
            refine till_out (i := 8) (by kernel_rfl) rfl (by kernel_rfl) (fun K hK => ?_)
            go_simp
            refine hK.out _ _ ?_
            clear hK K
            try simp only [Act.put, List.getElem_toArray, List.getElem_cons_succ, List.getElem_cons_zero, List.setIfInBounds_toArray, List.set_cons_zero, List.set_cons_succ]
            refine till_done (by kernel_rfl) ?_ _
            clear hHeld htwo
            have hb9 := ((unhide HD).trans (HW.mono (unhide HD).size)).grown hgr7 hbk (MO.ge (hown.later HW))
            have hm : MF w9 an (len0 + 2) cn (ml ++ [ml.getD 0 [], List.replicate N 0]) 6 := MO.mf hown2
            replace h5 := h54.later hb9
            replace HB := hide (Below.step (unhide HBA) hb9)
            clear hb9 hown2 hgr7 hown HD HW h54 v5 u5 hbk
            go_wp2_with fail
            refine (hnfK _ (len0 + 2) _ (ml ++ [ml.getD 0 [], List.replicate N 0]) 6 1791 6 (N : Int) _ (hm.mk (by omega)) (by omega) (unhide HFM) (unhide HBM) (by omega) (by omega) (by omega) (by omega)).mono ?_
            rintro e w11 ⟨a11, m11, c11, p11, hs11, rfl, h11, hf11, hsm11, hl11, hm11, hb9⟩
            have HE1 := hide (hnf_one (n := N) hf11 (unhide HF1) (hsm11.symm.trans ((unhide HSM).symm.trans (unhide HS1))) (fun r hr => by have := hl11 r hr; omega) (fun r hr => by have := unhide HL1 r hr; omega))
            replace h5 := h5.later hb9
            replace HB := hide (Below.step (unhide HB) hb9)
            clear hf11 hsm11 hl11 hm11 hb9 hm HFM HBM HSM
            go_wp2_with fail
            refine (hnfK a5 m c5 hs1 1791 1791 4 (N : Int) _ (h5.mk (by omega)) (by omega) (unhide HFH) (unhide HBH) (by omega) (by omega) (by omega) (by omega)).mono ?_
            rintro e w12 ⟨a12, m12, c12, p12, hs12, rfl, h12, hf12, hsm12, hl12, hm12, hb9⟩
            have HE2 := hide (hnf_one (n := N) hf12 (unhide HF1) hsm12.symm (fun r hr => by have := hl12 r hr; omega) (fun r hr => by have := unhide HL1 r hr; omega))
            replace h5 := h5.later hb9
            replace h11 := h11.later hb9
            replace HB := hide (Below.step (unhide HB) hb9)
            clear hf12 hsm12 hl12 hm12 hb9
            go_wp2_with fail
            refine (refSameAllK _ _ _ hs11 1791 _ _ _ hs1 1791 _ h11 h5 (unhide HE1)).mono ?_
            rintro e w13 ⟨rfl, hb9⟩
            replace h5 := h5.later hb9
            replace h12 := h12.later hb9
            replace HB := hide (Below.step (unhide HB) hb9)
            clear hb9 h11
            go_wp2_with fail
            refine (refSameAllK _ _ _ hs12 1791 _ _ _ hs1 1791 _ h12 h5 (unhide HE2)).mono ?_
            rintro e w14 ⟨rfl, hb9⟩
            replace HB := hide (Below.step (unhide HB) hb9)
            clear hb9 h12 h5
            go_wp2_with fail
            refine (awake10_any _).mono ?_
            rintro e w15 ⟨rfl, hb9⟩
            go_wp2
            go_ret
            exact ⟨rfl, Below.step (unhide HB) hb9⟩
    · have hs12' : 12 < (len2 : Int) := by omega
      go_wp2_with fail
      refine (awake10_any _).mono ?_
      rintro e w2 ⟨rfl, hb2⟩
      go_wp2
      go_ret
      exact ⟨rfl, Below.step (unhide HB) hb2⟩
  · clear hlt hb1 r0
    go_wp2_with fail
    refine (awake10_any _).mono ?_
    rintro e w2 ⟨rfl, hb2⟩
    go_wp2
    go_ret
    exact ⟨rfl, Below.step (unhide HB) hb2⟩

#print axioms hnfOne_walk
end Go.Proofs.Ytnaajmanpoobfaa
