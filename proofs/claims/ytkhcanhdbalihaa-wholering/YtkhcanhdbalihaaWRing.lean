/-
  The walk of WholeRing: it tells true.
-/
import Derived.Test.YtkhcanhdbalihaaFew4
import Derived.Test.YtkhcanhdbalihaaAwake4
import Derived.Test.YtkhcanhdbalihaaWK
import Derived.Deep.CutRange
namespace Go.Proofs.Ytkhcanhdbalihaa
open Go.RowKit Lb

theorem intsIn3 {w : World} (b0 : Bool) (a0 : Option Addr) (len0 cap0 : Nat) (b1 : Bool) (a1 : Option Addr) (len1 cap1 : Nat) (b2 : Bool) (a2 : Option Addr) (len2 cap2 : Nat) {n : Nat} (hn : n = w.heap.size) :
    IntsIn (w.alloc (.cells #[.bool b0, .slice a0 len0 cap0, .bool b1, .slice a1 len1 cap1, .bool b2, .slice a2 len2 cap2] 24)) n 3 (fun i => if i = 0 then b0 else if i = 1 then b1 else b2) (fun i => if i = 0 then a0 else if i = 1 then a1 else a2) (fun i => if i = 0 then len0 else if i = 1 then len1 else len2) (fun i => if i = 0 then cap0 else if i = 1 then cap1 else cap2) := by
  subst hn
  intro i hi
  match i with
  | 0 => simp
  | 1 => simp
  | 2 => simp
theorem sign_bd2 {s t : Int} (hs : -1 ≤ s ∧ s ≤ 1) (ht : -1 ≤ t ∧ t ≤ 1) : -1 ≤ s * t ∧ s * t ≤ 1 := by
  rcases (show s = -1 ∨ s = 0 ∨ s = 1 by omega) with rfl | rfl | rfl <;> omega
theorem wrap_sign {s t u : Int} (hs : -1 ≤ s ∧ s ≤ 1) (ht : -1 ≤ t ∧ t ≤ 1) (hu : u = s * t) : IntKind.i64.wrap (s * t) = u ∧ wrap64 (s * t) = u := by
  have h := sign_bd2 hs ht
  rw [← hu] at h ⊢
  refine ⟨?_, ?_⟩
  · rw [IntKind.wrap_i64]; omega
  · unfold wrap64; omega

set_option maxRecDepth 20000 in
set_option maxHeartbeats 8000000 in
theorem wholeRing_walk (b0 : Bool) (a0 : Option Addr) (len0 cap0 : Nat) (xs0 : List Nat) (b1 : Bool) (a1 : Option Addr) (len1 cap1 : Nat) (xs1 : List Nat) (b2 : Bool) (a2 : Option Addr) (len2 cap2 : Nat) (xs2 : List Nat) (w : World) (r0 : RowAt w a0 len0 cap0 xs0) (r1 : RowAt w a1 len1 cap1 xs1) (r2 : RowAt w a2 len2 cap2 xs2) :
    Calls Try.prog 5 #[.agg #[.bool b0, .slice a0 len0 cap0], .agg #[.bool b1, .slice a1 len1 cap1], .agg #[.bool b2, .slice a2 len2 cap2]] w fun e w' => e = .returned (.bool true) ∧ Below w.heap.size w w' := by
  have hm0 := Nat.le_trans r0.cap_le r0.cap_max
  have hm1 := Nat.le_trans r1.cap_le r1.cap_max
  have hm2 := Nat.le_trans r2.cap_le r2.cap_max
  have hx := r0.int b0
  have hy := r1.int b1
  have hz := r2.int b2
  obtain ⟨x, ex⟩ : ∃ x, x = sgnd b0 (Lb.val xs0) := ⟨_, rfl⟩
  obtain ⟨y, ey⟩ : ∃ y, y = sgnd b1 (Lb.val xs1) := ⟨_, rfl⟩
  obtain ⟨z, ez⟩ : ∃ z, z = sgnd b2 (Lb.val xs2) := ⟨_, rfl⟩
  rw [← ex] at hx
  rw [← ey] at hy
  rw [← ez] at hz
  clear ex ey ez r0 r1 r2
  have HI := hide (intsIn3 (w := ((w.alloc (.cells #[.bool b0, .slice a0 len0 cap0] 24)).alloc (.cells #[.bool b1, .slice a1 len1 cap1] 24)).alloc (.cells #[.bool b2, .slice a2 len2 cap2] 24)) b0 a0 len0 cap0 b1 a1 len1 cap1 b2 a2 len2 cap2 (n := w.heap.size + 3) (by simp))
  go_enter Try.func5, Try.ntmps5
  go_wp2_with fail
  refine (few4_any _ _ _ _ _ _ _ (unhide HI) (by omega) (by simp <;> omega) (by intro i _; split; assumption; split <;> assumption)).mono ?_
  rintro e w1 ⟨⟨b, rfl, hb⟩, hb1⟩
  have HW := Below.step ((below3 w _ _ _).alloc (by simp <;> omega) _) hb1
  have B0 := ((((box_new w b0 a0 len0 cap0 rfl).alloc (.cells #[.bool b1, .slice a1 len1 cap1] 24)).alloc (.cells #[.bool b2, .slice a2 len2 cap2] 24)).alloc _).later hb1
  have B1 := (((box_new (w.alloc (.cells #[.bool b0, .slice a0 len0 cap0] 24)) b1 a1 len1 cap1 (n := w.heap.size + 1) (by simp)).alloc (.cells #[.bool b2, .slice a2 len2 cap2] 24)).alloc _).later hb1
  have B2 := ((box_new ((w.alloc (.cells #[.bool b0, .slice a0 len0 cap0] 24)).alloc (.cells #[.bool b1, .slice a1 len1 cap1] 24)) b2 a2 len2 cap2 (n := w.heap.size + 2) (by simp)).alloc _).later hb1
  clear HI hb1
  by_cases hf : b = true
  · subst hf
    have f0 : len0 ≤ 30 := (hb.1 rfl) 0 (by omega)
    have f1 : len1 ≤ 30 := (hb.1 rfl) 1 (by omega)
    have f2 : len2 ≤ 30 := (hb.1 rfl) 2 (by omega)
    clear hb hm0 hm1 hm2
    have h0 := ik_of (hx.later HW) f0 (by omega)
    have h1 := ik_of (hy.later HW) f1 (by omega)
    have h2 := ik_of (hz.later HW) f2 (by omega)
    clear hx hy hz f0 f1 f2
    have HW0 := hide HW
    clear HW
    have HW : Below w1.heap.size w1 w1 := Below.refl _ _
    have HK : Hid (∀ w', Below w1.heap.size w1 w' → w'.cell? ⟨w.heap.size, 0, none⟩ = some (.bool b0) ∧ w'.cell? ⟨w.heap.size, 1, none⟩ = some (.slice a0 len0 cap0) ∧ w'.cell? ⟨w.heap.size + 1, 0, none⟩ = some (.bool b1) ∧ w'.cell? ⟨w.heap.size + 1, 1, none⟩ = some (.slice a1 len1 cap1) ∧ w'.cell? ⟨w.heap.size + 2, 0, none⟩ = some (.bool b2) ∧ w'.cell? ⟨w.heap.size + 2, 1, none⟩ = some (.slice a2 len2 cap2)) := fun w' hb => ⟨(B0.later hb).facts.1, (B0.later hb).facts.2.1, (B1.later hb).facts.1, (B1.later hb).facts.2.1, (B2.later hb).facts.1, (B2.later hb).facts.2.1⟩
    clear B0 B1 B2
    obtain ⟨s1, s2, s3, s4, s5, s6⟩ := (unhide HK) _ HW
    go_wp2_with fail
    dsimp only [List.append]
    go_cut [95] from 10 (fun s wc => s = .bool false ∧ Below w1.heap.size w1 wc)
    case first =>
      as_aux_lemma =>
      replace HW := HW.drew
      have st0 := True.intro
      go_region_held3 (fun w' => w'.cell? ⟨w.heap.size, 0, none⟩ = some (.bool b0) ∧ w'.cell? ⟨w.heap.size, 1, none⟩ = some (.slice a0 len0 cap0) ∧ w'.cell? ⟨w.heap.size + 1, 0, none⟩ = some (.bool b1) ∧ w'.cell? ⟨w.heap.size + 1, 1, none⟩ = some (.slice a1 len1 cap1) ∧ w'.cell? ⟨w.heap.size + 2, 0, none⟩ = some (.bool b2) ∧ w'.cell? ⟨w.heap.size + 2, 1, none⟩ = some (.slice a2 len2 cap2)) (first | exact (unhide HK) _ HW | go_keep) (first | (clear st0; go_at_call 25; with_reducible refine (addK b0 a0 len0 cap0 x 30 b1 a1 len1 cap1 y 30 _ (h0.later HW) (h1.later HW)).mono ?_; rintro e w9 ⟨bt1, at1, lent1, capt1, rfl, ht1, hb9⟩; replace HW := Below.step HW hb9; clear hb9; have st1 := True.intro) | (clear st1; go_at_call 25; with_reducible refine (addK b1 a1 len1 cap1 y 30 b0 a0 len0 cap0 x 30 _ (h1.later HW) (h0.later HW)).mono ?_; rintro e w9 ⟨bt2, at2, lent2, capt2, rfl, ht2, hb9⟩; replace HW := Below.step HW hb9; replace ht1 := ht1.later hb9; clear hb9; have st2 := True.intro) | (clear st2; go_at_call 13; with_reducible refine (rsameK bt1 at1 lent1 capt1 (x + y) (max 30 30 + 1) bt2 at2 lent2 capt2 (y + x) (max 30 30 + 1) _ ht1 ht2 (Int.add_comm x y)).mono ?_; rintro e w9 ⟨rfl, hb9⟩; replace HW := Below.step HW hb9; clear hb9 ht1 ht2; have st3 := True.intro) | (clear st3; go_at_call 25; with_reducible refine (addK b0 a0 len0 cap0 x 30 b1 a1 len1 cap1 y 30 _ (h0.later HW) (h1.later HW)).mono ?_; rintro e w9 ⟨bt3, at3, lent3, capt3, rfl, ht3, hb9⟩; replace HW := Below.step HW hb9; clear hb9; have st4 := True.intro) | (clear st4; go_at_call 25; with_reducible refine (addK bt3 at3 lent3 capt3 (x + y) (max 30 30 + 1) b2 a2 len2 cap2 z 30 _ (ht3.ik (by omega)) (h2.later HW)).mono ?_; rintro e w9 ⟨bt4, at4, lent4, capt4, rfl, ht4, hb9⟩; replace HW := Below.step HW hb9; clear hb9 ht3; have st5 := True.intro) | (clear st5; go_at_call 25; with_reducible refine (addK b1 a1 len1 cap1 y 30 b2 a2 len2 cap2 z 30 _ (h1.later HW) (h2.later HW)).mono ?_; rintro e w9 ⟨bt5, at5, lent5, capt5, rfl, ht5, hb9⟩; replace HW := Below.step HW hb9; replace ht4 := ht4.later hb9; clear hb9; have st6 := True.intro) | (clear st6; go_at_call 25; with_reducible refine (addK b0 a0 len0 cap0 x 30 bt5 at5 lent5 capt5 (y + z) (max 30 30 + 1) _ (h0.later HW) (ht5.ik (by omega))).mono ?_; rintro e w9 ⟨bt6, at6, lent6, capt6, rfl, ht6, hb9⟩; replace HW := Below.step HW hb9; replace ht4 := ht4.later hb9; clear hb9 ht5; have st7 := True.intro) | (clear st7; go_at_call 13; with_reducible refine (rsameK bt4 at4 lent4 capt4 ((x + y) + z) (max (max 30 30 + 1) 30 + 1) bt6 at6 lent6 capt6 (x + (y + z)) (max 30 (max 30 30 + 1) + 1) _ ht4 ht6 (Int.add_assoc x y z)).mono ?_; rintro e w9 ⟨rfl, hb9⟩; replace HW := Below.step HW hb9; clear hb9 ht4 ht6; have st8 := True.intro) | (clear st8; go_at_call 29; with_reducible refine (mulK b0 a0 len0 cap0 x 30 b1 a1 len1 cap1 y 30 _ (h0.later HW) (h1.later HW)).mono ?_; rintro e w9 ⟨bt7, at7, lent7, capt7, rfl, ht7, hb9⟩; replace HW := Below.step HW hb9; clear hb9; have st9 := True.intro) | (clear st9; go_at_call 29; with_reducible refine (mulK b1 a1 len1 cap1 y 30 b0 a0 len0 cap0 x 30 _ (h1.later HW) (h0.later HW)).mono ?_; rintro e w9 ⟨bt8, at8, lent8, capt8, rfl, ht8, hb9⟩; replace HW := Below.step HW hb9; replace ht7 := ht7.later hb9; clear hb9; have st10 := True.intro) | (clear st10; go_at_call 13; with_reducible refine (rsameK bt7 at7 lent7 capt7 (x * y) (30 + 30) bt8 at8 lent8 capt8 (y * x) (30 + 30) _ ht7 ht8 (Int.mul_comm x y)).mono ?_; rintro e w9 ⟨rfl, hb9⟩; replace HW := Below.step HW hb9; clear hb9 ht7 ht8; have st11 := True.intro) | (clear st11; go_at_call 29; with_reducible refine (mulK b0 a0 len0 cap0 x 30 b1 a1 len1 cap1 y 30 _ (h0.later HW) (h1.later HW)).mono ?_; rintro e w9 ⟨bt9, at9, lent9, capt9, rfl, ht9, hb9⟩; replace HW := Below.step HW hb9; clear hb9; have st12 := True.intro) | (clear st12; go_at_call 29; with_reducible refine (mulK bt9 at9 lent9 capt9 (x * y) (30 + 30) b2 a2 len2 cap2 z 30 _ (ht9.ik (by omega)) (h2.later HW)).mono ?_; rintro e w9 ⟨bt10, at10, lent10, capt10, rfl, ht10, hb9⟩; replace HW := Below.step HW hb9; clear hb9 ht9; have st13 := True.intro) | (clear st13; go_at_call 29; with_reducible refine (mulK b1 a1 len1 cap1 y 30 b2 a2 len2 cap2 z 30 _ (h1.later HW) (h2.later HW)).mono ?_; rintro e w9 ⟨bt11, at11, lent11, capt11, rfl, ht11, hb9⟩; replace HW := Below.step HW hb9; replace ht10 := ht10.later hb9; clear hb9; have st14 := True.intro) | (clear st14; go_at_call 29; with_reducible refine (mulK b0 a0 len0 cap0 x 30 bt11 at11 lent11 capt11 (y * z) (30 + 30) _ (h0.later HW) (ht11.ik (by omega))).mono ?_; rintro e w9 ⟨bt12, at12, lent12, capt12, rfl, ht12, hb9⟩; replace HW := Below.step HW hb9; replace ht10 := ht10.later hb9; clear hb9 ht11; have st15 := True.intro) | (clear st15; go_at_call 13; with_reducible refine (rsameK bt10 at10 lent10 capt10 ((x * y) * z) ((30 + 30) + 30) bt12 at12 lent12 capt12 (x * (y * z)) (30 + (30 + 30)) _ ht10 ht12 (Int.mul_assoc x y z)).mono ?_; rintro e w9 ⟨rfl, hb9⟩; replace HW := Below.step HW hb9; clear hb9 ht10 ht12; have st16 := True.intro) | (clear st16; go_at_call 25; with_reducible refine (addK b1 a1 len1 cap1 y 30 b2 a2 len2 cap2 z 30 _ (h1.later HW) (h2.later HW)).mono ?_; rintro e w9 ⟨bt13, at13, lent13, capt13, rfl, ht13, hb9⟩; replace HW := Below.step HW hb9; clear hb9; have st17 := True.intro) | (clear st17; go_at_call 29; with_reducible refine (mulK b0 a0 len0 cap0 x 30 bt13 at13 lent13 capt13 (y + z) (max 30 30 + 1) _ (h0.later HW) (ht13.ik (by omega))).mono ?_; rintro e w9 ⟨bt14, at14, lent14, capt14, rfl, ht14, hb9⟩; replace HW := Below.step HW hb9; clear hb9 ht13; have st18 := True.intro) | (clear st18; go_at_call 29; with_reducible refine (mulK b0 a0 len0 cap0 x 30 b1 a1 len1 cap1 y 30 _ (h0.later HW) (h1.later HW)).mono ?_; rintro e w9 ⟨bt15, at15, lent15, capt15, rfl, ht15, hb9⟩; replace HW := Below.step HW hb9; replace ht14 := ht14.later hb9; clear hb9; have st19 := True.intro) | (clear st19; go_at_call 29; with_reducible refine (mulK b0 a0 len0 cap0 x 30 b2 a2 len2 cap2 z 30 _ (h0.later HW) (h2.later HW)).mono ?_; rintro e w9 ⟨bt16, at16, lent16, capt16, rfl, ht16, hb9⟩; replace HW := Below.step HW hb9; replace ht14 := ht14.later hb9; replace ht15 := ht15.later hb9; clear hb9; have st20 := True.intro) | (clear st20; go_at_call 25; with_reducible refine (addK bt15 at15 lent15 capt15 (x * y) (30 + 30) bt16 at16 lent16 capt16 (x * z) (30 + 30) _ (ht15.ik (by omega)) (ht16.ik (by omega))).mono ?_; rintro e w9 ⟨bt17, at17, lent17, capt17, rfl, ht17, hb9⟩; replace HW := Below.step HW hb9; replace ht14 := ht14.later hb9; clear hb9 ht15 ht16; have st21 := True.intro) | (clear st21; go_at_call 13; with_reducible refine (rsameK bt14 at14 lent14 capt14 (x * (y + z)) (30 + (max 30 30 + 1)) bt17 at17 lent17 capt17 ((x * y) + (x * z)) (max (30 + 30) (30 + 30) + 1) _ ht14 ht17 (Int.mul_add x y z)).mono ?_; rintro e w9 ⟨rfl, hb9⟩; replace HW := Below.step HW hb9; clear hb9 ht14 ht17; have st22 := True.intro))
      go_wp2_with fail
      go_meet
      case rel => exact ⟨rfl, HW⟩
    case rest =>
    as_aux_lemma =>
    obtain ⟨rfl, HW2⟩ := hcut
    clear HW s1 s2 s3 s4 s5 s6
    have HW := HW2
    clear HW2
    obtain ⟨s1, s2, s3, s4, s5, s6⟩ := (unhide HK) _ HW
    obtain ⟨s, hs⟩ : ∃ s, s = (x - y).sign := ⟨_, rfl⟩
    obtain ⟨sz, hsz⟩ : ∃ s, s = z.sign := ⟨_, rfl⟩
    obtain ⟨sx, hsx⟩ : ∃ s, s = x.sign := ⟨_, rfl⟩
    obtain ⟨sy, hsy⟩ : ∃ s, s = y.sign := ⟨_, rfl⟩
    obtain ⟨u, hu⟩ : ∃ s, s = (x * z - y * z).sign := ⟨_, rfl⟩
    obtain ⟨v, hv⟩ : ∃ s, s = (x * y).sign := ⟨_, rfl⟩
    have e1 : u = s * sz := by rw [hu, hs, hsz, ← Int.sub_mul, Int.sign_mul]
    have e2 : v = sx * sy := by rw [hv, hsx, hsy, Int.sign_mul]
    obtain ⟨e3, e4⟩ := wrap_sign (by rw [hs]; exact sign_bd _) (by rw [hsz]; exact sign_bd _) e1
    obtain ⟨e5, e6⟩ := wrap_sign (by rw [hsx]; exact sign_bd _) (by rw [hsy]; exact sign_bd _) e2
    have HSS := hide hs
    have HSa := hide (show s = (x + z - (y + z)).sign by rw [hs]; congr 1; omega)
    have HU := hide hu
    have HZ := hide hsz
    have HX := hide hsx
    have HY := hide hsy
    have HV := hide hv
    have HN := hide (show 0 = (x + -x).sign by rw [Int.add_right_neg]; rfl)
    clear hs hsz hsx hsy hu hv e1 e2
    go_wp2_with fail
    refine (cmpK b0 a0 len0 cap0 x 30 b1 a1 len1 cap1 y 30 s _ (h0.later HW) (h1.later HW) (unhide HSS)).mono ?_
    rintro e w9 ⟨rfl, hb9⟩
    replace HW := Below.step HW hb9
    clear s1 s2 s3 s4 s5 s6
    obtain ⟨s1, s2, s3, s4, s5, s6⟩ := (unhide HK) _ HW
    go_wp2_with fail
    replace HW := HW.drew
    have st0 := True.intro
    go_region_held3 (fun w' => w'.cell? ⟨w.heap.size, 0, none⟩ = some (.bool b0) ∧ w'.cell? ⟨w.heap.size, 1, none⟩ = some (.slice a0 len0 cap0) ∧ w'.cell? ⟨w.heap.size + 1, 0, none⟩ = some (.bool b1) ∧ w'.cell? ⟨w.heap.size + 1, 1, none⟩ = some (.slice a1 len1 cap1) ∧ w'.cell? ⟨w.heap.size + 2, 0, none⟩ = some (.bool b2) ∧ w'.cell? ⟨w.heap.size + 2, 1, none⟩ = some (.slice a2 len2 cap2)) (first | exact (unhide HK) _ HW | go_keep) (first | (clear st0; go_at_call 25; with_reducible refine (addK b0 a0 len0 cap0 x 30 b2 a2 len2 cap2 z 30 _ (h0.later HW) (h2.later HW)).mono ?_; rintro e w9 ⟨bt1, at1, lent1, capt1, rfl, ht1, hb9⟩; replace HW := Below.step HW hb9; clear hb9; have st1 := True.intro) | (clear st1; go_at_call 25; with_reducible refine (addK b1 a1 len1 cap1 y 30 b2 a2 len2 cap2 z 30 _ (h1.later HW) (h2.later HW)).mono ?_; rintro e w9 ⟨bt2, at2, lent2, capt2, rfl, ht2, hb9⟩; replace HW := Below.step HW hb9; replace ht1 := ht1.later hb9; clear hb9; have st2 := True.intro) | (clear st2; go_at_call 22; with_reducible refine (cmpK bt1 at1 lent1 capt1 (x + z) (max 30 30 + 1) bt2 at2 lent2 capt2 (y + z) (max 30 30 + 1) s _ (ht1.ik (by omega)) (ht2.ik (by omega)) (unhide HSa)).mono ?_; rintro e w9 ⟨rfl, hb9⟩; replace HW := Below.step HW hb9; clear hb9 ht1 ht2; have st3 := True.intro) | (clear st3; go_at_call 29; with_reducible refine (mulK b0 a0 len0 cap0 x 30 b2 a2 len2 cap2 z 30 _ (h0.later HW) (h2.later HW)).mono ?_; rintro e w9 ⟨bt3, at3, lent3, capt3, rfl, ht3, hb9⟩; replace HW := Below.step HW hb9; clear hb9; have st4 := True.intro) | (clear st4; go_at_call 29; with_reducible refine (mulK b1 a1 len1 cap1 y 30 b2 a2 len2 cap2 z 30 _ (h1.later HW) (h2.later HW)).mono ?_; rintro e w9 ⟨bt4, at4, lent4, capt4, rfl, ht4, hb9⟩; replace HW := Below.step HW hb9; replace ht3 := ht3.later hb9; clear hb9; have st5 := True.intro) | (clear st5; go_at_call 22; with_reducible refine (cmpK bt3 at3 lent3 capt3 (x * z) (30 + 30) bt4 at4 lent4 capt4 (y * z) (30 + 30) u _ (ht3.ik (by omega)) (ht4.ik (by omega)) (unhide HU)).mono ?_; rintro e w9 ⟨rfl, hb9⟩; replace HW := Below.step HW hb9; clear hb9 ht3 ht4; have st6 := True.intro) | (clear st6; go_at_call 16; with_reducible refine (signK b2 a2 len2 cap2 z 30 sz _ (h2.later HW) (unhide HZ)).mono ?_; rintro e w9 ⟨rfl, hb9⟩; replace HW := Below.step HW hb9; clear hb9; have st7 := True.intro) | (clear st7; go_at_call 18; with_reducible refine (negK b0 a0 len0 cap0 x 30 _ (h0.later HW)).mono ?_; rintro e w9 ⟨bt5, at5, lent5, capt5, rfl, ht5, hb9⟩; replace HW := Below.step HW hb9; clear hb9; have st8 := True.intro) | (clear st8; go_at_call 25; with_reducible refine (addK b0 a0 len0 cap0 x 30 bt5 at5 lent5 capt5 (-x) 30 _ (h0.later HW) (ht5.ik (by omega))).mono ?_; rintro e w9 ⟨bt6, at6, lent6, capt6, rfl, ht6, hb9⟩; replace HW := Below.step HW hb9; clear hb9 ht5; have st9 := True.intro) | (clear st9; go_at_call 16; with_reducible refine (signK bt6 at6 lent6 capt6 (x + (-x)) (max 30 30 + 1) 0 _ (ht6.ik (by omega)) (unhide HN)).mono ?_; rintro e w9 ⟨rfl, hb9⟩; replace HW := Below.step HW hb9; clear hb9 ht6; have st10 := True.intro) | (clear st10; go_at_call 29; with_reducible refine (mulK b0 a0 len0 cap0 x 30 b1 a1 len1 cap1 y 30 _ (h0.later HW) (h1.later HW)).mono ?_; rintro e w9 ⟨bt7, at7, lent7, capt7, rfl, ht7, hb9⟩; replace HW := Below.step HW hb9; clear hb9; have st11 := True.intro) | (clear st11; go_at_call 16; with_reducible refine (signK bt7 at7 lent7 capt7 (x * y) (30 + 30) v _ (ht7.ik (by omega)) (unhide HV)).mono ?_; rintro e w9 ⟨rfl, hb9⟩; replace HW := Below.step HW hb9; clear hb9 ht7; have st12 := True.intro) | (clear st12; go_at_call 16; with_reducible refine (signK b0 a0 len0 cap0 x 30 sx _ (h0.later HW) (unhide HX)).mono ?_; rintro e w9 ⟨rfl, hb9⟩; replace HW := Below.step HW hb9; clear hb9; have st13 := True.intro) | (clear st13; go_at_call 16; with_reducible refine (signK b1 a1 len1 cap1 y 30 sy _ (h1.later HW) (unhide HY)).mono ?_; rintro e w9 ⟨rfl, hb9⟩; replace HW := Below.step HW hb9; clear hb9; have st14 := True.intro) | (clear st14; go_at_call 9; with_reducible refine (awake4_any _).mono ?_; rintro e w9 ⟨rfl, hb9⟩; replace HW := Below.step HW hb9; clear hb9; have st15 := True.intro))
    go_wp2
    go_ret
    exact ⟨rfl, Below.step (unhide HW0) HW⟩
  · have hf' : b = false := by simpa using hf
    subst hf'
    clear hb hf B0 B1 B2
    go_wp2_with fail
    refine (awake4_any _).mono ?_
    rintro e w2 ⟨rfl, hb2⟩
    have hW := Below.step HW hb2
    go_wp2
    go_ret
    exact ⟨rfl, hW⟩

#print axioms wholeRing_walk
end Go.Proofs.Ytkhcanhdbalihaa
