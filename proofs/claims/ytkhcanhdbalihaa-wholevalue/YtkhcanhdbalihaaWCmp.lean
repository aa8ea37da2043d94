/-
  What whole.Cmp, whole.Same and the reference's Cmp tell (IN PARTS).
-/
import Derived.Test.YtkhcanhdbalihaaWAdd
import Derived.Test.YtkhcanhdbalihaaWNeg
namespace Go.Proofs.Ytkhcanhdbalihaa
open Go.RowKit Lb

theorem sign_cases (x : Int) : (x < 0 ∧ x.sign = -1) ∨ (x = 0 ∧ x.sign = 0) ∨ (0 < x ∧ x.sign = 1) := by
  rcases Int.lt_trichotomy x 0 with h | h | h
  · exact Or.inl ⟨h, Int.sign_eq_neg_one_of_neg h⟩
  · subst h; exact Or.inr (Or.inl ⟨rfl, rfl⟩)
  · exact Or.inr (Or.inr ⟨h, Int.sign_eq_one_of_pos h⟩)
theorem cmp_less {x y : Int} (h : x.sign < y.sign) : (x - y).sign = -1 := by
  refine Int.sign_eq_neg_one_of_neg ?_
  rcases sign_cases x with h1 | h1 | h1 <;> rcases sign_cases y with h2 | h2 | h2 <;> omega
theorem cmp_more {x y : Int} (h : y.sign < x.sign) : (x - y).sign = 1 := by
  refine Int.sign_eq_one_of_pos ?_
  rcases sign_cases x with h1 | h1 | h1 <;> rcases sign_cases y with h2 | h2 | h2 <;> omega
theorem cmp_nat (M N : Nat) {z : Int} (h : z = (M : Int) - (N : Int)) : cmpI M N = z.sign := by
  unfold cmpI
  split
  · exact (Int.sign_eq_neg_one_of_neg (by omega)).symm
  · split
    · exact (Int.sign_eq_one_of_pos (by omega)).symm
    · rw [show z = 0 by omega]; rfl
theorem cmp_neg {x y : Int} (h : x.sign = y.sign) (h0 : x.sign < 0) : cmpI y.natAbs x.natAbs = (x - y).sign := by
  refine cmp_nat _ _ ?_
  rcases sign_cases x with h1 | h1 | h1 <;> rcases sign_cases y with h2 | h2 | h2 <;> omega
theorem cmp_pos {x y : Int} (h : x.sign = y.sign) (h0 : ¬ x.sign < 0) : cmpI x.natAbs y.natAbs = (x - y).sign := by
  refine cmp_nat _ _ ?_
  rcases sign_cases x with h1 | h1 | h1 <;> rcases sign_cases y with h2 | h2 | h2 <;> omega

theorem sign_is (b : Bool) (aa : Option Addr) (la ca : Nat) (z s : Int) (w : World) (ha : IntAt w b aa la ca z) (hla : la ≤ 1000000) (hs : s = z.sign) :
    Calls Try.prog 16 #[.agg #[.bool b, .slice aa la ca]] w fun e w' => e = .returned (.int .i64 s) ∧ Below w.heap.size w w' := by
  subst hs
  exact sign_num b aa la ca z w ha hla

set_option maxHeartbeats 1000000 in
theorem icmp_num (b : Bool) (aa : Option Addr) (la ca : Nat) (x : Int) (b' : Bool) (ab : Option Addr) (lb cb : Nat) (y : Int) (w : World) (ha : IntAt w b aa la ca x) (hb : IntAt w b' ab lb cb y) (hla : la ≤ 1000000) (hlb : lb ≤ 1000000) :
    Calls Try.prog 22 #[.agg #[.bool b, .slice aa la ca], .agg #[.bool b', .slice ab lb cb]] w fun e w' => e = .returned (.int .i64 (x - y).sign) ∧ Below w.heap.size w w' := by
  have HW := hide ((below2 w (.cells #[.bool b, .slice aa la ca] 24) (.cells #[.bool b', .slice ab lb cb] 24)).drew)
  have HA := hide (ha.later (unhide HW))
  have HB := hide (hb.later (unhide HW))
  have sx := sign_bd x
  have sy := sign_bd y
  obtain ⟨sX, hX⟩ : ∃ s, s = x.sign := ⟨_, rfl⟩
  obtain ⟨sY, hY⟩ : ∃ s, s = y.sign := ⟨_, rfl⟩
  rw [← hX] at sx
  rw [← hY] at sy
  obtain ⟨sx1, sx2⟩ := sx
  obtain ⟨sy1, sy2⟩ := sy
  have HX := hide hX
  have HY := hide hY
  clear hX hY ha hb
  by_cases h1 : sX < sY
  · have HR := hide (show (x - y).sign = -1 from cmp_less (by rw [← unhide HX, ← unhide HY]; exact h1))
    go_enter Try.func22, Try.ntmps22
    go_wp2_with fail
    go_region_held3 (fun w' => w'.cell? ⟨w.heap.size, 0, none⟩ = some (.bool b) ∧ w'.cell? ⟨w.heap.size, 1, none⟩ = some (.slice aa la ca) ∧ w'.cell? ⟨w.heap.size + 1, 0, none⟩ = some (.bool b') ∧ w'.cell? ⟨w.heap.size + 1, 1, none⟩ = some (.slice ab lb cb)) (first | exact held2 hb2 (by omega) (by assumption) | exact held2 hb1 (by simp <;> omega) (by assumption) | go_keep) (first | (go_at_call 16; with_reducible refine (sign_is b aa la ca x sX _ (unhide HA) hla (unhide HX)).mono ?_; rintro e w1 ⟨rfl, hb1⟩; have hz1 : w.heap.size + 1 < w1.heap.size := bmore hb1 (by simp)) | (go_at_call 16; with_reducible refine (sign_is b' ab lb cb y sY _ ((unhide HB).later hb1) hlb (unhide HY)).mono ?_; rintro e w2 ⟨rfl, hb2⟩; have hz2 : w.heap.size + 1 < w2.heap.size := bmore hb2 hz1))
    obtain ⟨p1, p2, p3, p4⟩ := ((((box_new w b aa la ca rfl).alloc (.cells #[.bool b', .slice ab lb cb] 24)).drew.later hb1).later hb2).facts
    obtain ⟨q1, q2, q3, q4⟩ := (((box_new (w.alloc (.cells #[.bool b, .slice aa la ca] 24)) b' ab lb cb (n := w.heap.size + 1) (by simp)).drew.later hb1).later hb2).facts
    have hW := Below.step (Below.step (unhide HW) hb1) hb2
    go_wp2
    go_ret
    exact ⟨ret_int (unhide HR).symm, hW⟩
  · by_cases h2 : sY < sX
    · have HR := hide (show (x - y).sign = 1 from cmp_more (by rw [← unhide HX, ← unhide HY]; exact h2))
      go_enter Try.func22, Try.ntmps22
      go_wp2_with fail
      go_region_held3 (fun w' => w'.cell? ⟨w.heap.size, 0, none⟩ = some (.bool b) ∧ w'.cell? ⟨w.heap.size, 1, none⟩ = some (.slice aa la ca) ∧ w'.cell? ⟨w.heap.size + 1, 0, none⟩ = some (.bool b') ∧ w'.cell? ⟨w.heap.size + 1, 1, none⟩ = some (.slice ab lb cb)) (first | exact held2 hb2 (by omega) (by assumption) | exact held2 hb1 (by simp <;> omega) (by assumption) | go_keep) (first | (go_at_call 16; with_reducible refine (sign_is b aa la ca x sX _ (unhide HA) hla (unhide HX)).mono ?_; rintro e w1 ⟨rfl, hb1⟩; have hz1 : w.heap.size + 1 < w1.heap.size := bmore hb1 (by simp)) | (go_at_call 16; with_reducible refine (sign_is b' ab lb cb y sY _ ((unhide HB).later hb1) hlb (unhide HY)).mono ?_; rintro e w2 ⟨rfl, hb2⟩; have hz2 : w.heap.size + 1 < w2.heap.size := bmore hb2 hz1))
      obtain ⟨p1, p2, p3, p4⟩ := ((((box_new w b aa la ca rfl).alloc (.cells #[.bool b', .slice ab lb cb] 24)).drew.later hb1).later hb2).facts
      obtain ⟨q1, q2, q3, q4⟩ := (((box_new (w.alloc (.cells #[.bool b, .slice aa la ca] 24)) b' ab lb cb (n := w.heap.size + 1) (by simp)).drew.later hb1).later hb2).facts
      have hW := Below.step (Below.step (unhide HW) hb1) hb2
      go_wp2
      go_ret
      exact ⟨ret_int (unhide HR).symm, hW⟩
    · obtain rfl : sX = sY := by omega
      have hE := hide ((unhide HX).symm.trans (unhide HY))
      by_cases h3 : sX < 0
      · have HR := hide (cmp_neg (unhide hE) (by rw [← unhide HX]; exact h3))
        clear h1 h2
        go_enter Try.func22, Try.ntmps22
        go_wp2_with fail
        go_region_held3 (fun w' => w'.cell? ⟨w.heap.size, 0, none⟩ = some (.bool b) ∧ w'.cell? ⟨w.heap.size, 1, none⟩ = some (.slice aa la ca) ∧ w'.cell? ⟨w.heap.size + 1, 0, none⟩ = some (.bool b') ∧ w'.cell? ⟨w.heap.size + 1, 1, none⟩ = some (.slice ab lb cb)) (first | exact held2 hb2 (by omega) (by assumption) | exact held2 hb1 (by simp <;> omega) (by assumption) | go_keep) (first | (go_at_call 16; with_reducible refine (sign_is b aa la ca x sX _ (unhide HA) hla (unhide HX)).mono ?_; rintro e w1 ⟨rfl, hb1⟩; have hz1 : w.heap.size + 1 < w1.heap.size := bmore hb1 (by simp)) | (go_at_call 16; with_reducible refine (sign_is b' ab lb cb y sX _ ((unhide HB).later hb1) hlb (unhide HY)).mono ?_; rintro e w2 ⟨rfl, hb2⟩; have hz2 : w.heap.size + 1 < w2.heap.size := bmore hb2 hz1))
        obtain ⟨p1, p2, p3, p4⟩ := ((((box_new w b aa la ca rfl).alloc (.cells #[.bool b', .slice ab lb cb] 24)).drew.later hb1).later hb2).facts
        obtain ⟨q1, q2, q3, q4⟩ := (((box_new (w.alloc (.cells #[.bool b, .slice aa la ca] 24)) b' ab lb cb (n := w.heap.size + 1) (by simp)).drew.later hb1).later hb2).facts
        have hW := Below.step (Below.step (unhide HW) hb1) hb2
        go_wp2_with fail
        refine (cmp_num _ _ _ y.natAbs _ _ _ x.natAbs _ (((unhide HB).later hb1).later hb2).val (((unhide HA).later hb1).later hb2).val).mono ?_
        rintro e w3 ⟨rfl, hb3⟩
        have hW3 := Below.step hW hb3
        go_wp2
        go_ret
        exact ⟨ret_int (unhide HR), hW3⟩
      · have HR := hide (cmp_pos (unhide hE) (by rw [← unhide HX]; exact h3))
        clear h1 h2
        go_enter Try.func22, Try.ntmps22
        go_wp2_with fail
        go_region_held3 (fun w' => w'.cell? ⟨w.heap.size, 0, none⟩ = some (.bool b) ∧ w'.cell? ⟨w.heap.size, 1, none⟩ = some (.slice aa la ca) ∧ w'.cell? ⟨w.heap.size + 1, 0, none⟩ = some (.bool b') ∧ w'.cell? ⟨w.heap.size + 1, 1, none⟩ = some (.slice ab lb cb)) (first | exact held2 hb2 (by omega) (by assumption) | exact held2 hb1 (by simp <;> omega) (by assumption) | go_keep) (first | (go_at_call 16; with_reducible refine (sign_is b aa la ca x sX _ (unhide HA) hla (unhide HX)).mono ?_; rintro e w1 ⟨rfl, hb1⟩; have hz1 : w.heap.size + 1 < w1.heap.size := bmore hb1 (by simp)) | (go_at_call 16; with_reducible refine (sign_is b' ab lb cb y sX _ ((unhide HB).later hb1) hlb (unhide HY)).mono ?_; rintro e w2 ⟨rfl, hb2⟩; have hz2 : w.heap.size + 1 < w2.heap.size := bmore hb2 hz1))
        obtain ⟨p1, p2, p3, p4⟩ := ((((box_new w b aa la ca rfl).alloc (.cells #[.bool b', .slice ab lb cb] 24)).drew.later hb1).later hb2).facts
        obtain ⟨q1, q2, q3, q4⟩ := (((box_new (w.alloc (.cells #[.bool b, .slice aa la ca] 24)) b' ab lb cb (n := w.heap.size + 1) (by simp)).drew.later hb1).later hb2).facts
        have hW := Below.step (Below.step (unhide HW) hb1) hb2
        go_wp2_with fail
        refine (cmp_num _ _ _ x.natAbs _ _ _ y.natAbs _ (((unhide HA).later hb1).later hb2).val (((unhide HB).later hb1).later hb2).val).mono ?_
        rintro e w3 ⟨rfl, hb3⟩
        have hW3 := Below.step hW hb3
        go_wp2
        go_ret
        exact ⟨ret_int (unhide HR), hW3⟩

theorem ret_bool {a b : Bool} (h : a = b) : Ending.returned (.bool a) = .returned (.bool b) := by rw [h]
theorem cmp_is (b : Bool) (aa : Option Addr) (la ca : Nat) (x : Int) (b' : Bool) (ab : Option Addr) (lb cb : Nat) (y s : Int) (w : World) (ha : IntAt w b aa la ca x) (hb : IntAt w b' ab lb cb y) (hla : la ≤ 1000000) (hlb : lb ≤ 1000000) (hs : s = (x - y).sign) :
    Calls Try.prog 22 #[.agg #[.bool b, .slice aa la ca], .agg #[.bool b', .slice ab lb cb]] w fun e w' => e = .returned (.int .i64 s) ∧ Below w.heap.size w w' := by
  subst hs
  exact icmp_num _ _ _ _ _ _ _ _ _ _ _ ha hb hla hlb
set_option maxHeartbeats 1000000 in
theorem isame_num (b : Bool) (aa : Option Addr) (la ca : Nat) (x : Int) (b' : Bool) (ab : Option Addr) (lb cb : Nat) (y : Int) (w : World) (ha : IntAt w b aa la ca x) (hb : IntAt w b' ab lb cb y) (hla : la ≤ 1000000) (hlb : lb ≤ 1000000) :
    Calls Try.prog 24 #[.agg #[.bool b, .slice aa la ca], .agg #[.bool b', .slice ab lb cb]] w fun e w' => e = .returned (.bool (decide (x = y))) ∧ Below w.heap.size w w' := by
  have hbox := below2 w (.cells #[.bool b, .slice aa la ca] 24) (.cells #[.bool b', .slice ab lb cb] 24)
  obtain ⟨s, hs⟩ : ∃ s, s = (x - y).sign := ⟨_, rfl⟩
  have HS := hide hs
  have HE := hide (show (s == 0) = decide (x = y) by
    rw [hs]
    by_cases h : x = y
    · rw [decide_eq_true h, h, Int.sub_self]; rfl
    · rw [decide_eq_false h, beq_eq_false_iff_ne]
      rcases sign_cases (x - y) with h1 | h1 | h1 <;> omega)
  clear hs
  go_enter Try.func24, Try.ntmps24
  go_wp2_with fail
  refine (cmp_is _ _ _ _ x _ _ _ _ y s _ (ha.later hbox) (hb.later hbox) hla hlb (unhide HS)).mono ?_
  rintro e w1 ⟨rfl, hb1⟩
  have hW := Below.step hbox hb1
  go_wp2
  go_ret
  exact ⟨ret_bool (unhide HE), hW⟩
set_option maxHeartbeats 1000000 in
theorem ricmp_num (b : Bool) (aa : Option Addr) (la ca : Nat) (x : Int) (b' : Bool) (ab : Option Addr) (lb cb : Nat) (y : Int) (w : World) (ha : IntAt w b aa la ca x) (hb : IntAt w b' ab lb cb y) (hla : la ≤ 999998) (hlb : lb ≤ 999998) :
    Calls Try.prog 23 #[.agg #[.bool b, .slice aa la ca], .agg #[.bool b', .slice ab lb cb]] w fun e w' => e = .returned (.int .i64 (x - y).sign) ∧ Below w.heap.size w w' := by
  have hbox := below2 w (.cells #[.bool b, .slice aa la ca] 24) (.cells #[.bool b', .slice ab lb cb] 24)
  have hlt := sum_lt (m := max la lb + 1) (ha.lt (Nat.le_refl _)) (hb.lt (Nat.le_refl _)) (by omega) (by omega)
  have HL := hide (show (x - y).natAbs < Bp (max la lb + 1) by omega)
  clear hlt
  go_enter Try.func23, Try.ntmps23
  go_wp2_with fail
  refine (risub_num _ _ _ _ x _ _ _ _ y _ (ha.later hbox) (hb.later hbox) (by omega) (by omega)).mono ?_
  rintro e w1 ⟨b1, a1, l1, c1, rfl, h1, hb1⟩
  go_wp2_with fail
  refine (rsign_num _ _ _ _ _ _ h1.int (Nat.le_trans (h1.len_le (unhide HL)) (by omega))).mono ?_
  rintro e w2 ⟨rfl, hb2⟩
  have hW := Below.step (Below.step hbox hb1) hb2
  go_wp2
  go_ret
  exact ⟨rfl, hW⟩
theorem isame_is (b : Bool) (aa : Option Addr) (la ca : Nat) (x : Int) (b' : Bool) (ab : Option Addr) (lb cb : Nat) (y : Int) (q : Bool) (w : World) (ha : IntAt w b aa la ca x) (hb : IntAt w b' ab lb cb y) (hla : la ≤ 1000000) (hlb : lb ≤ 1000000) (hq : q = decide (x = y)) :
    Calls Try.prog 24 #[.agg #[.bool b, .slice aa la ca], .agg #[.bool b', .slice ab lb cb]] w fun e w' => e = .returned (.bool q) ∧ Below w.heap.size w w' := by
  subst hq
  exact isame_num _ _ _ _ _ _ _ _ _ _ _ ha hb hla hlb
theorem ricmp_is (b : Bool) (aa : Option Addr) (la ca : Nat) (x : Int) (b' : Bool) (ab : Option Addr) (lb cb : Nat) (y : Int) (s : Int) (w : World) (ha : IntAt w b aa la ca x) (hb : IntAt w b' ab lb cb y) (hla : la ≤ 999998) (hlb : lb ≤ 999998) (hs : s = (x - y).sign) :
    Calls Try.prog 23 #[.agg #[.bool b, .slice aa la ca], .agg #[.bool b', .slice ab lb cb]] w fun e w' => e = .returned (.int .i64 s) ∧ Below w.heap.size w w' := by
  subst hs
  exact ricmp_num _ _ _ _ _ _ _ _ _ _ _ ha hb hla hlb
theorem sign_zero (x y : Int) : ((x - y).sign == 0) = decide (x = y) := by
  by_cases h : x = y
  · rw [decide_eq_true h, h, Int.sub_self]; rfl
  · rw [decide_eq_false h, beq_eq_false_iff_ne]
    rcases sign_cases (x - y) with h1 | h1 | h1 <;> omega

#print axioms icmp_num
#print axioms isame_num
#print axioms ricmp_num
end Go.Proofs.Ytkhcanhdbalihaa
