/-
  The walk of WholeValue: it tells true.
-/
import Derived.Test.YtkhcanhdbalihaaFew4
import Derived.Test.YtkhcanhdbalihaaAwake4
import Derived.Test.YtkhcanhdbalihaaWK
import Derived.Test.YtkhcanhdbalihaaStepRow
import Derived.Deep.CutRange
namespace Go.Proofs.Ytkhcanhdbalihaa
open Go.RowKit Lb

theorem intsIn2v {w : World} (b0 : Bool) (a0 : Option Addr) (len0 cap0 : Nat) (b1 : Bool) (a1 : Option Addr) (len1 cap1 : Nat) {n : Nat} (hn : n = w.heap.size) :
    IntsIn (w.alloc (.cells #[.bool b0, .slice a0 len0 cap0, .bool b1, .slice a1 len1 cap1] 24)) n 2 (fun i => if i = 0 then b0 else b1) (fun i => if i = 0 then a0 else a1) (fun i => if i = 0 then len0 else len1) (fun i => if i = 0 then cap0 else cap1) := by
  subst hn
  intro i hi
  match i with
  | 0 => simp
  | 1 => simp
theorem tmod5 (n : Nat) : (n : Int).tmod 5 = ((n % 5 : Nat) : Int) := by rw [Int.tmod_eq_emod_of_nonneg (by omega)]; omega
theorem tmod4 (n : Nat) : (n : Int).tmod 4 = ((n % 4 : Nat) : Int) := by rw [Int.tmod_eq_emod_of_nonneg (by omega)]; omega
theorem small_zeros {xs : List Nat} (h : Small xs) (k : Nat) : Small (xs ++ List.replicate k 0) := fun i => by
  rw [lim_append]
  split
  · exact h i
  · rw [lim_replicate]; omega

set_option maxRecDepth 20000 in
set_option maxHeartbeats 8000000 in
theorem wholeValue_walk (b0 : Bool) (a0 : Option Addr) (len0 cap0 : Nat) (xs0 : List Nat) (b1 : Bool) (a1 : Option Addr) (len1 cap1 : Nat) (xs1 : List Nat) (ni : Int) (w : World) (r0 : RowAt w a0 len0 cap0 xs0) (r1 : RowAt w a1 len1 cap1 xs1) (w0 : (Lit.int .u8 ni).wf = true) :
    Calls Try.prog 7 #[.agg #[.bool b0, .slice a0 len0 cap0], .agg #[.bool b1, .slice a1 len1 cap1], .int .u8 ni] w fun e w' => e = .returned (.bool true) ∧ Below w.heap.size w w' := by
  obtain ⟨n, hn, rfl⟩ : ∃ n : Nat, n ≤ 255 ∧ ni = (n : Int) := ⟨ni.toNat, by have := bounds_u8 w0; omega, by have := bounds_u8 w0; omega⟩
  clear w0
  have hm0 := Nat.le_trans r0.cap_le r0.cap_max
  have hm1 := Nat.le_trans r1.cap_le r1.cap_max
  have HI := hide (intsIn2v (w := (w.alloc (.cells #[.bool b0, .slice a0 len0 cap0] 24)).alloc (.cells #[.bool b1, .slice a1 len1 cap1] 24)) b0 a0 len0 cap0 b1 a1 len1 cap1 (n := w.heap.size + 2) (by simp))
  go_enter Try.func7, Try.ntmps7
  go_wp2_with fail
  refine (few4_any _ _ _ _ _ _ _ (unhide HI) (by omega) (by simp <;> omega) (by intro i _; split <;> assumption)).mono ?_
  rintro e w1 ⟨⟨b, rfl, hb⟩, hb1⟩
  have HW := Below.step (below3 w _ _ _) hb1
  have B0 := (((box_new w b0 a0 len0 cap0 rfl).alloc (.cells #[.bool b1, .slice a1 len1 cap1] 24)).alloc _).later hb1
  have B1 := ((box_new (w.alloc (.cells #[.bool b0, .slice a0 len0 cap0] 24)) b1 a1 len1 cap1 (n := w.heap.size + 1) (by simp)).alloc _).later hb1
  clear HI hb1
  by_cases hf : b = true
  · subst hf
    have f0 : len0 ≤ 30 := (hb.1 rfl) 0 (by omega)
    have f1 : len1 ≤ 30 := (hb.1 rfl) 1 (by omega)
    clear hb hm0 hm1
    replace r0 := r0.later HW
    replace r1 := r1.later HW
    have HW0 := hide HW
    clear HW
    have HW : Below w1.heap.size w1 w1 := Below.refl _ _
    obtain ⟨s1, s2, _, _⟩ := B0.facts
    go_upto_region 3 with fail
    go_cut [7] from 9 (fun s wc => ∃ g ao cap, s = .pointer (some ⟨g, 0, none⟩) ∧ Box wc g b0 ao (len0 + n % 5) cap ∧ RowAt wc ao (len0 + n % 5) cap (xs0 ++ List.replicate (n % 5) 0) ∧ Below w1.heap.size w1 wc)
    case first =>
      have HK : Hid (∀ w', Below w1.heap.size w1 w' → w'.cell? ⟨w.heap.size, 0, none⟩ = some (.bool b0) ∧ w'.cell? ⟨w.heap.size, 1, none⟩ = some (.slice a0 len0 cap0)) := fun w' hb => ⟨(B0.later hb).facts.1, (B0.later hb).facts.2.1⟩
      have bA : Hid (Below w1.heap.size w1 (w1.alloc (.cells #[] 31)).drew) := ((Below.refl _ _).alloc (Nat.le_refl _) _).drew
      have bX : Hid (Below w1.heap.size w1 (w1.alloc (.cells #[.bool false, .slice none 0 0] 24)).drew) := ((Below.refl _ _).alloc (Nat.le_refl _) _).drew
      have bB : Hid (Below w1.heap.size w1 ((w1.alloc (.cells #[.bool false, .slice none 0 0] 24)).alloc (.cells #[] 31)).drew) := (below2 w1 _ _).drew
      have bC : Hid (Below w1.heap.size w1 ((w1.alloc (.cells #[] 31)).alloc (.cells #[.bool false, .slice none 0 0] 24)).drew) := (below2 w1 _ _).drew
      have OA : Hid (Own (w1.alloc (.cells #[] 31)).drew w1.heap.size (.slice (some ⟨w1.heap.size, 0, none⟩) 0 0) 0 []) := (own_empty (w := w1) (base := w1.heap.size) (Nat.le_refl _)).drewN 1
      have OB : Hid (Own ((w1.alloc (.cells #[.bool false, .slice none 0 0] 24)).alloc (.cells #[] 31)).drew w1.heap.size (.slice (some ⟨w1.heap.size + 1, 0, none⟩) 0 0) 0 []) := by
        have := own_empty (w := w1.alloc (.cells #[.bool false, .slice none 0 0] 24)) (base := w1.heap.size) (by simp)
        rw [show (w1.alloc (.cells #[.bool false, .slice none 0 0] 24)).heap.size = w1.heap.size + 1 by simp] at this
        exact hide (this.later (Below.refl _ _).drew)
      have OC : Hid (Own ((w1.alloc (.cells #[] 31)).alloc (.cells #[.bool false, .slice none 0 0] 24)).drew w1.heap.size (.slice (some ⟨w1.heap.size, 0, none⟩) 0 0) 0 []) := ((own_empty (w := w1) (base := w1.heap.size) (Nat.le_refl _)).alloc (.cells #[.bool false, .slice none 0 0] 24)).drewN 1
      have XB : Hid (Box ((w1.alloc (.cells #[.bool false, .slice none 0 0] 24)).alloc (.cells #[] 31)).drew w1.heap.size false none 0 0) := ((box_new w1 false none 0 0 rfl).alloc _).drew
      have XC : Hid (Box ((w1.alloc (.cells #[] 31)).alloc (.cells #[.bool false, .slice none 0 0] 24)).drew (w1.heap.size + 1) false none 0 0) := (box_new (w1.alloc (.cells #[] 31)) false none 0 0 (by simp)).drew
      clear B0 B1
      replace HW := HW.drew
      go_region_held3 (fun w' => w'.cell? ⟨w.heap.size, 0, none⟩ = some (.bool b0) ∧ w'.cell? ⟨w.heap.size, 1, none⟩ = some (.slice a0 len0 cap0)) (first | exact (unhide HK) _ HW | exact (unhide HK) _ (unhide bA) | exact (unhide HK) _ (unhide bB) | exact (unhide HK) _ (unhide bC) | exact (unhide HK) _ (unhide bX) | exact (unhide HK) _ (HW.alloc HW.size _) | exact (unhide HK) _ ((HW.setCell hgx _).setCell hgx _) | go_keep) (first | (refine step_row (by rfl) (.tmp 17) (.tmp 19) (by rfl) w1.heap.size _ 0 [] (by rfl) (unhide OA) a0 len0 cap0 xs0 (by rfl) (r0.later (unhide bA)) (by omega) (unhide bA).size ?_; intro v2 w2 hown2 hgrow2; simp only [Nat.zero_add, List.nil_append] at hown2; replace HW := Below.own (unhide bA) (unhide OA) hgrow2 (unhide bA).size; clear hgrow2) | (refine step_row (by rfl) (.tmp 17) (.tmp 19) (by rfl) w1.heap.size _ 0 [] (by rfl) (unhide OB) a0 len0 cap0 xs0 (by rfl) (r0.later (unhide bB)) (by omega) (unhide bB).size ?_; intro v2 w2 hown2 hgrow2; simp only [Nat.zero_add, List.nil_append] at hown2; replace HW := Below.own (unhide bB) (unhide OB) hgrow2 (unhide bB).size; have BX := (unhide XB).grown hgrow2 (by simp [Value.ownBlock]); have hgx : w1.heap.size ≤ w1.heap.size := (by omega); clear hgrow2) | (refine step_row (by rfl) (.tmp 17) (.tmp 19) (by rfl) w1.heap.size _ 0 [] (by rfl) (unhide OC) a0 len0 cap0 xs0 (by rfl) (r0.later (unhide bC)) (by omega) (unhide bC).size ?_; intro v2 w2 hown2 hgrow2; simp only [Nat.zero_add, List.nil_append] at hown2; replace HW := Below.own (unhide bC) (unhide OC) hgrow2 (unhide bC).size; have BX := (unhide XC).grown hgrow2 (by simp [Value.ownBlock]); have hgx : w1.heap.size ≤ w1.heap.size + 1 := (by omega); clear hgrow2) | (refine step_zeros (by rfl) (.tmp 20) (.tmp 22) _ (by rfl) .u8 .u8 Try.underlying5 w1.heap.size _ len0 xs0 (by rfl) hown2 _ (n % 5) (by rfl) (by first | exact tmod5 n | omega) (by omega) (by omega) HW.size ?_; intro v3 w3 hown3 hgrow3; replace HW := Below.own HW hown2 hgrow3 HW.size; obtain ⟨ao3, cap3, rfl, hr3⟩ := rowAt_owned hown3 (small_zeros r0.small _); (try replace BX := BX.grown hgrow3 (own_ne_box hown2 BX)); (try obtain ⟨q1, q2, q3, q4⟩ := BX.facts); clear hgrow3 hown3 hown2) | (refine step_zeros (by rfl) (.tmp 20) (.tmp 22) _ (by rfl) .u8 .u8 Try.underlying5 w1.heap.size _ len0 xs0 (by rfl) (hown2.alloc (.cells #[.bool false, .slice none 0 0] 24)) _ (n % 5) (by rfl) (by first | exact tmod5 n | omega) (by omega) (by omega) (HW.alloc HW.size (.cells #[.bool false, .slice none 0 0] 24)).size ?_; intro v3 w3 hown3 hgrow3; have hgx : w1.heap.size ≤ w2.heap.size := HW.size; replace HW := Below.own (HW.alloc HW.size (.cells #[.bool false, .slice none 0 0] 24)) (hown2.alloc (.cells #[.bool false, .slice none 0 0] 24)) hgrow3 (HW.alloc HW.size (.cells #[.bool false, .slice none 0 0] 24)).size; obtain ⟨ao3, cap3, rfl, hr3⟩ := rowAt_owned hown3 (small_zeros r0.small _); have BX := (box_new w2 false none 0 0 rfl).grown hgrow3 (own_ne_box (hown2.alloc (.cells #[.bool false, .slice none 0 0] 24)) (box_new w2 false none 0 0 rfl)); obtain ⟨q1, q2, q3, q4⟩ := BX.facts; clear hgrow3 hown3 hown2))
      all_goals
        go_wp2_with fail
        go_meet
        case rel => first | exact ⟨_, _, _, rfl, box_set BX, hr3.boxed BX.noLimb _ _, (HW.setCell hgx _).setCell hgx _⟩ | exact ⟨_, _, _, rfl, box_new w3 b0 ao3 _ cap3 rfl, hr3.later ((Below.refl _ _).alloc (Nat.le_refl _) _), HW.alloc HW.size _⟩
    case rest =>
      obtain ⟨gw, aw, capw, rfl, BW, rw', HWc⟩ := hcut
      replace B0 := B0.later HWc
      replace B1 := B1.later HWc
      replace r0 := r0.later HWc
      replace r1 := r1.later HWc
      replace HW0 := hide (Below.step (unhide HW0) HWc)
      clear HW HWc s1 s2
      go_wp2_with (at_make; refine make_row rfl _ _ rfl wc.heap.size .u8 .u8 _ _ (n % 4) rfl rfl (by first | exact tmod4 n | omega) (by first | exact tmod4 n | omega) (by omega) (Nat.le_refl _) ?_)
      intro w4 hown4 hgrow4
      have hb4 : Below wc.heap.size wc w4 := (Below.refl _ _).grown hgrow4 (Nat.le_refl _) (fun _ h => by simp at h)
      have r4 := rowAt_own hown4 (small_replicate _)
      replace B0 := B0.later hb4
      replace B1 := B1.later hb4
      replace BW := BW.later hb4
      replace r0 := r0.later hb4
      replace r1 := r1.later hb4
      replace rw' := rw'.later hb4
      replace HW0 := hide (Below.step (unhide HW0) hb4)
      clear hown4 hgrow4 hb4
      have BZ := box_new w4 true (some ⟨wc.heap.size, 0, none⟩) (n % 4) (n % 4) rfl
      have hb5 := (Below.refl w4.heap.size w4).alloc (Nat.le_refl _) (.cells #[.bool true, .slice (some ⟨wc.heap.size, 0, none⟩) (n % 4) (n % 4)] 24)
      replace B0 := B0.later hb5
      replace B1 := B1.later hb5
      replace BW := BW.later hb5
      replace r0 := r0.later hb5
      replace r1 := r1.later hb5
      replace rw' := rw'.later hb5
      replace r4 := r4.later hb5
      replace HW0 := hide (Below.step (unhide HW0) hb5)
      clear hb5
      obtain ⟨x, ex⟩ : ∃ x, x = sgnd b0 (Lb.val xs0) := ⟨_, rfl⟩
      obtain ⟨y, ey⟩ : ∃ y, y = sgnd b1 (Lb.val xs1) := ⟨_, rfl⟩
      have h0 := ik_of (r0.int b0) f0 (by omega)
      have h1 := ik_of (r1.int b1) f1 (by omega)
      have hw := ik_of (k := 40) (rw'.int b0) (by omega) (by omega)
      have hz := ik_of (k := 4) (r4.int true) (by omega) (by omega)
      have ez : sgnd true (Lb.val (List.replicate (n % 4) 0)) = 0 := by
        have := val_zeros [] (n % 4)
        rw [List.nil_append] at this
        rw [this]; rfl
      rw [val_zeros, ← ex] at hw
      rw [← ex] at h0
      rw [← ey] at h1
      rw [ez] at hz
      clear ex ey ez r0 r1 r4 rw' f0 f1
      go_upto_region 5 with fail
      obtain ⟨W, hWe⟩ : ∃ W, W = w4.alloc (.cells #[.bool true, .slice (some ⟨wc.heap.size, 0, none⟩) (n % 4) (n % 4)] 24) := ⟨_, rfl⟩
      rw [← hWe] at B0 B1 BW BZ h0 h1 hw hz HW0 ⊢
      clear hWe
      have HK : Hid (∀ w', Below W.heap.size W w' → w'.cell? ⟨w.heap.size, 0, none⟩ = some (.bool b0) ∧ w'.cell? ⟨w.heap.size, 1, none⟩ = some (.slice a0 len0 cap0) ∧ w'.cell? ⟨w.heap.size + 1, 0, none⟩ = some (.bool b1) ∧ w'.cell? ⟨w.heap.size + 1, 1, none⟩ = some (.slice a1 len1 cap1) ∧ w'.cell? ⟨gw, 0, none⟩ = some (.bool b0) ∧ w'.cell? ⟨gw, 1, none⟩ = some (.slice aw (len0 + n % 5) capw) ∧ w'.cell? ⟨w4.heap.size, 0, none⟩ = some (.bool true) ∧ w'.cell? ⟨w4.heap.size, 1, none⟩ = some (.slice (some ⟨wc.heap.size, 0, none⟩) (n % 4) (n % 4))) := fun w' hb => ⟨(B0.later hb).facts.1, (B0.later hb).facts.2.1, (B1.later hb).facts.1, (B1.later hb).facts.2.1, (BW.later hb).facts.1, (BW.later hb).facts.2.1, (BZ.later hb).facts.1, (BZ.later hb).facts.2.1⟩
      clear B0 B1 BW BZ
      have HW : Below W.heap.size W W.drew := (Below.refl _ _).drew
      have st0 := True.intro
      obtain ⟨s1, s2, s3, s4, s5, s6, s7, s8⟩ := (unhide HK) _ (Below.refl _ _)
      go_region_held3 (fun w' => w'.cell? ⟨w.heap.size, 0, none⟩ = some (.bool b0) ∧ w'.cell? ⟨w.heap.size, 1, none⟩ = some (.slice a0 len0 cap0) ∧ w'.cell? ⟨w.heap.size + 1, 0, none⟩ = some (.bool b1) ∧ w'.cell? ⟨w.heap.size + 1, 1, none⟩ = some (.slice a1 len1 cap1) ∧ w'.cell? ⟨gw, 0, none⟩ = some (.bool b0) ∧ w'.cell? ⟨gw, 1, none⟩ = some (.slice aw (len0 + n % 5) capw) ∧ w'.cell? ⟨w4.heap.size, 0, none⟩ = some (.bool true) ∧ w'.cell? ⟨w4.heap.size, 1, none⟩ = some (.slice (some ⟨wc.heap.size, 0, none⟩) (n % 4) (n % 4))) (first | exact (unhide HK) _ HW | go_keep) (first | (clear st0; go_at_call 24; with_reducible refine (sameK b0 aw (len0 + n % 5) capw x 40 b0 a0 len0 cap0 x 30 true _ (hw.later HW) (h0.later HW) (by simp)).mono ?_; rintro e w9 ⟨rfl, hb9⟩; replace HW := Below.step HW hb9; clear hb9; have st1 := True.intro) | (clear st1; go_at_call 15; with_reducible refine (formK b0 aw (len0 + n % 5) capw x 40 _ (hw.later HW)).mono ?_; rintro e w9 ⟨bt1, at1, lent1, capt1, rfl, ht1, hb9⟩; replace HW := Below.step HW hb9; clear hb9; have st2 := True.intro) | (clear st2; go_at_call 15; with_reducible refine (formK b0 a0 len0 cap0 x 30 _ (h0.later HW)).mono ?_; rintro e w9 ⟨bt2, at2, lent2, capt2, rfl, ht2, hb9⟩; replace HW := Below.step HW hb9; replace ht1 := ht1.later hb9; clear hb9; have st3 := True.intro) | (clear st3; go_at_call 13; with_reducible refine (rsameK bt1 at1 lent1 capt1 x 40 bt2 at2 lent2 capt2 x 30 _ ht1 ht2 rfl).mono ?_; rintro e w9 ⟨rfl, hb9⟩; replace HW := Below.step HW hb9; clear hb9 ht1 ht2; have st4 := True.intro) | (clear st4; go_at_call 29; with_reducible refine (mulK b0 aw (len0 + n % 5) capw x 40 b1 a1 len1 cap1 y 30 _ (hw.later HW) (h1.later HW)).mono ?_; rintro e w9 ⟨bt3, at3, lent3, capt3, rfl, ht3, hb9⟩; replace HW := Below.step HW hb9; clear hb9; have st5 := True.intro) | (clear st5; go_at_call 29; with_reducible refine (mulK b0 a0 len0 cap0 x 30 b1 a1 len1 cap1 y 30 _ (h0.later HW) (h1.later HW)).mono ?_; rintro e w9 ⟨bt4, at4, lent4, capt4, rfl, ht4, hb9⟩; replace HW := Below.step HW hb9; replace ht3 := ht3.later hb9; clear hb9; have st6 := True.intro) | (clear st6; go_at_call 13; with_reducible refine (rsameK bt3 at3 lent3 capt3 (x * y) (40 + 30) bt4 at4 lent4 capt4 (x * y) (30 + 30) _ ht3 ht4 rfl).mono ?_; rintro e w9 ⟨rfl, hb9⟩; replace HW := Below.step HW hb9; clear hb9 ht3 ht4; have st7 := True.intro) | (clear st7; go_at_call 16; with_reducible refine (signK true (some ⟨wc.heap.size, 0, none⟩) (n % 4) (n % 4) 0 4 0 _ (hz.later HW) rfl).mono ?_; rintro e w9 ⟨rfl, hb9⟩; replace HW := Below.step HW hb9; clear hb9; have st8 := True.intro) | (clear st8; go_at_call 25; with_reducible refine (addK true (some ⟨wc.heap.size, 0, none⟩) (n % 4) (n % 4) 0 4 b1 a1 len1 cap1 y 30 _ (hz.later HW) (h1.later HW)).mono ?_; rintro e w9 ⟨bt5, at5, lent5, capt5, rfl, ht5, hb9⟩; replace HW := Below.step HW hb9; clear hb9; have st9 := True.intro) | (clear st9; go_at_call 15; with_reducible refine (formK b1 a1 len1 cap1 y 30 _ (h1.later HW)).mono ?_; rintro e w9 ⟨bt6, at6, lent6, capt6, rfl, ht6, hb9⟩; replace HW := Below.step HW hb9; replace ht5 := ht5.later hb9; clear hb9; have st10 := True.intro) | (clear st10; go_at_call 13; with_reducible refine (rsameK bt5 at5 lent5 capt5 (0 + y) (max 4 30 + 1) bt6 at6 lent6 capt6 y 30 _ ht5 ht6 (Int.zero_add y)).mono ?_; rintro e w9 ⟨rfl, hb9⟩; replace HW := Below.step HW hb9; clear hb9 ht5 ht6; have st11 := True.intro) | (clear st11; go_at_call 27; with_reducible refine (subK b1 a1 len1 cap1 y 30 true (some ⟨wc.heap.size, 0, none⟩) (n % 4) (n % 4) 0 4 _ (h1.later HW) (hz.later HW)).mono ?_; rintro e w9 ⟨bt7, at7, lent7, capt7, rfl, ht7, hb9⟩; replace HW := Below.step HW hb9; clear hb9; have st12 := True.intro) | (clear st12; go_at_call 15; with_reducible refine (formK b1 a1 len1 cap1 y 30 _ (h1.later HW)).mono ?_; rintro e w9 ⟨bt8, at8, lent8, capt8, rfl, ht8, hb9⟩; replace HW := Below.step HW hb9; replace ht7 := ht7.later hb9; clear hb9; have st13 := True.intro) | (clear st13; go_at_call 13; with_reducible refine (rsameK bt7 at7 lent7 capt7 (y - 0) (max 30 4 + 1) bt8 at8 lent8 capt8 y 30 _ ht7 ht8 (Int.sub_zero y)).mono ?_; rintro e w9 ⟨rfl, hb9⟩; replace HW := Below.step HW hb9; clear hb9 ht7 ht8; have st14 := True.intro) | (clear st14; go_at_call 9; with_reducible refine (awake4_any _).mono ?_; rintro e w9 ⟨rfl, hb9⟩; replace HW := Below.step HW hb9; clear hb9; have st15 := True.intro))
      go_wp2
      go_ret
      exact ⟨rfl, Below.step (unhide HW0) HW⟩
  · have hf' : b = false := by simpa using hf
    subst hf'
    clear hb hf B0 B1
    go_wp2_with fail
    refine (awake4_any _).mono ?_
    rintro e w2 ⟨rfl, hb2⟩
    have hW := Below.step HW hb2
    go_wp2
    go_ret
    exact ⟨rfl, hW⟩

#print axioms wholeValue_walk
end Go.Proofs.Ytkhcanhdbalihaa
