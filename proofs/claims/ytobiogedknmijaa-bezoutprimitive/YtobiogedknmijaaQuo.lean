/-
  What quot.Quo, quot.Divides and the reference's Quo tell (IN PARTS).
-/
import Derived.Test.YtobiogedknmijaaQNum
import Derived.Test.YtobiogedknmijaaJD
import Derived.Test.YtobiogedknmijaaJB
namespace Go.Proofs.Ytobiogedknmijaa
open Go.RowKit Lb

theorem NoLimb.boxed {w : World} {g g' : Nat} (h : NoLimb w g) (hne : g ≠ g') (x y : Value) : NoLimb ((w.setCell ⟨g', 0, none⟩ x).setCell ⟨g', 1, none⟩ y) g := fun j k => by
  have e : ((w.setCell ⟨g', 0, none⟩ x).setCell ⟨g', 1, none⟩ y).heap[g]? = w.heap[g]? := by
    rw [Below.heap_setCell _ _ _ _ (by simpa using hne), Below.heap_setCell _ _ _ _ (by simpa using hne)]
  rw [World.cell?_of_block (w := w) (a := ⟨g, j, none⟩) e]
  exact h j k
/-- Two Ints are stored as the call's results. -/
theorem int_end2 {B g g' : Nat} {w w2 : World} {b b' : Bool} {ao ao' : Option Addr} {len cap len' cap' : Nat} {z z' : Int} (hW : Below B w w2) (hB : B ≤ g) (hB' : B ≤ g') (hne : g' ≠ g) (hn : NoLimb w2 g) (hn' : NoLimb w2 g') (h : FormAt w2 b ao len cap z) (h' : FormAt w2 b' ao' len' cap' z') (x y x' y' : Value) :
    FormAt ((((w2.setCell ⟨g, 0, none⟩ x).setCell ⟨g, 1, none⟩ y).setCell ⟨g', 0, none⟩ x').setCell ⟨g', 1, none⟩ y') b ao len cap z ∧ FormAt ((((w2.setCell ⟨g, 0, none⟩ x).setCell ⟨g, 1, none⟩ y).setCell ⟨g', 0, none⟩ x').setCell ⟨g', 1, none⟩ y') b' ao' len' cap' z' ∧ Below B w ((((w2.setCell ⟨g, 0, none⟩ x).setCell ⟨g, 1, none⟩ y).setCell ⟨g', 0, none⟩ x').setCell ⟨g', 1, none⟩ y') :=
  ⟨(h.boxed hn x y).boxed (hn'.boxed hne x y) x' y', (h'.boxed hn x y).boxed (hn'.boxed hne x y) x' y', (((hW.setCell (by simpa using hB) _).setCell (by simpa using hB) _).setCell (by simpa using hB') _).setCell (by simpa using hB') _⟩
theorem below4 (w : World) (o1 o2 o3 o4 : Obj) : Below w.heap.size w ((((w.alloc o1).alloc o2).alloc o3).alloc o4) := (below3 w o1 o2 o3).alloc (by simp; omega) o4

theorem signK' (b : Bool) (aa : Option Addr) (la ca : Nat) (x : Int) (s : Int) (w : World) (hx : IntAt w b aa la ca x) (hla : la ≤ 1000000) (hs : s = x.sign) : Calls Try.prog 23 #[.agg #[.bool b, .slice aa la ca]] w fun e w' => e = .returned (.int .i64 s) ∧ Below w.heap.size w w' := by
  subst hs
  exact sign_num _ _ _ _ x _ hx hla

set_option maxHeartbeats 400000 in
theorem qsigned_num (b : Bool) (aa : Option Addr) (la ca A : Nat) (w : World) (ha : NumAt w aa la ca A) :
    Calls Try.prog 61 #[.bool b, .slice aa la ca] w fun e w' => ∃ b', e = .returned (.agg #[.bool b', .slice aa la ca]) ∧ FormAt w' b' aa la ca (sgnd b A) ∧ Below w.heap.size w w' := by
  have hm : la ≤ maxLen := by
    obtain ⟨xs, hx, _⟩ := ha
    exact Nat.le_trans hx.cap_le hx.cap_max
  unfold maxLen at hm
  have hL := ha
  by_cases hz : A = 0
  · subst hz
    obtain rfl := ha.len_zero
    cases b
    all_goals
      go_enter Try.func61, Try.ntmps61
      go_wp2
      refine bodyPost_ret (v := .agg #[.bool false, .slice aa 0 ca]) (by simp [results, Try.results61, go_sem]) rfl ⟨false, rfl, ?_, (Below.refl _ _).alloc (Nat.le_refl _) _⟩
      exact (formAt_of hL (by simp)).later ((Below.refl _ _).alloc (Nat.le_refl _) _)
  · have hp := ha.len_pos (by omega)
    have hp' : (0 : Int) < (la : Int) := by omega
    have hA : 0 < A := by omega
    cases b
    all_goals
      go_enter Try.func61, Try.ntmps61
      go_wp2
      refine bodyPost_ret (v := .agg #[.bool _, .slice aa la ca]) (by simp [results, Try.results61, go_sem]; rfl) rfl ⟨_, rfl, ?_, (Below.refl _ _).alloc (Nat.le_refl _) _⟩
      exact (formAt_of hL (by simp [hA])).later ((Below.refl _ _).alloc (Nat.le_refl _) _)

set_option maxHeartbeats 1000000 in
theorem quo_no (b : Bool) (aa : Option Addr) (la ca : Nat) (x : Int) (b' : Bool) (ab : Option Addr) (lb cb : Nat) (w : World) (ha : IntAt w b aa la ca x) (hb : IntAt w b' ab lb cb 0) :
    Calls Try.prog 40 #[.agg #[.bool b, .slice aa la ca], .agg #[.bool b', .slice ab lb cb]] w fun e w' => e = .returned (.tuple #[.agg #[.bool false, .slice none 0 0], .agg #[.bool false, .slice none 0 0], .bool false]) ∧ Below w.heap.size w w' := by
  have hM := ha.val
  have hN := hb.val
  go_enter Try.func40, Try.ntmps40
  go_wp2_with fail
  refine (divmod_none _ _ _ x.natAbs _ _ _ _ (hM.later (below4 _ _ _ _ _)) (hN.later (below4 _ _ _ _ _))).mono ?_
  rintro e w1 ⟨rfl, rfl⟩
  go_wp2
  refine bodyPost_ret (v := .tuple #[.agg #[.bool false, .slice none 0 0], .agg #[.bool false, .slice none 0 0], .bool false]) (by simp [results, Try.results40, go_sem]) rfl ⟨rfl, below4 _ _ _ _ _⟩

set_option maxHeartbeats 1000000 in
theorem quo_yes (b : Bool) (aa : Option Addr) (la ca : Nat) (x : Int) (b' : Bool) (ab : Option Addr) (lb cb : Nat) (y : Int) (w : World) (ha : IntAt w b aa la ca x) (hb : IntAt w b' ab lb cb y) (hla : la ≤ 1000000) (hlb : lb ≤ 1000000) (hy : y ≠ 0) :
    Calls Try.prog 40 #[.agg #[.bool b, .slice aa la ca], .agg #[.bool b', .slice ab lb cb]] w fun e w' => ∃ b1 a1 l1 c1 b2 a2 l2 c2, e = .returned (.tuple #[.agg #[.bool b1, .slice a1 l1 c1], .agg #[.bool b2, .slice a2 l2 c2], .bool true]) ∧ FormAt w' b1 a1 l1 c1 (x.tdiv y) ∧ FormAt w' b2 a2 l2 c2 (x.tmod y) ∧ Below w.heap.size w w' := by
  obtain ⟨M, hM, rfl⟩ := ha
  obtain ⟨N, hN, rfl⟩ := hb
  rw [tdiv_sgnd, tmod_sgnd]
  have hN0 : 0 < N := by
    rcases Nat.eq_zero_or_pos N with h | h
    · subst h; exact absurd (sgnd_zero b') hy
    · exact h
  go_enter Try.func40, Try.ntmps40
  go_wp2_with fail
  refine (divmod_num _ _ _ M _ _ _ N _ (hM.later (below4 _ _ _ _ _)) (hN.later (below4 _ _ _ _ _)) hla hlb hN0).mono ?_
  rintro e w1 ⟨a1, l1, c1, a2, l2, c2, rfl, h1, h2, hb1⟩
  go_wp2_with fail
  obtain ⟨W, hWe⟩ : ∃ W, W = ((((w.alloc (.cells #[.bool b, .slice aa la ca] 24)).alloc (.cells #[.bool b', .slice ab lb cb] 24)).alloc (.cells #[.bool false, .slice none 0 0] 24)).alloc (.cells #[.bool false, .slice none 0 0] 24)) := ⟨_, rfl⟩
  have B0 := (((box_new w b aa la ca rfl).alloc (.cells #[.bool b', .slice ab lb cb] 24)).alloc (.cells #[.bool false, .slice none 0 0] 24)).alloc (.cells #[.bool false, .slice none 0 0] 24)
  have B1 := ((box_new (w.alloc (.cells #[.bool b, .slice aa la ca] 24)) b' ab lb cb (n := w.heap.size + 1) (by simp)).alloc (.cells #[.bool false, .slice none 0 0] 24)).alloc (.cells #[.bool false, .slice none 0 0] 24)
  have B2 := (box_new ((w.alloc (.cells #[.bool b, .slice aa la ca] 24)).alloc (.cells #[.bool b', .slice ab lb cb] 24)) false none 0 0 (n := w.heap.size + 2) (by simp)).alloc (.cells #[.bool false, .slice none 0 0] 24)
  have B3 := box_new (((w.alloc (.cells #[.bool b, .slice aa la ca] 24)).alloc (.cells #[.bool b', .slice ab lb cb] 24)).alloc (.cells #[.bool false, .slice none 0 0] 24)) false none 0 0 (n := w.heap.size + 3) (by simp)
  have hb0 := below4 w (.cells #[.bool b, .slice aa la ca] 24) (.cells #[.bool b', .slice ab lb cb] 24) (.cells #[.bool false, .slice none 0 0] 24) (.cells #[.bool false, .slice none 0 0] 24)
  rw [← hWe] at B0 B1 B2 B3 hb0 hb1
  clear hWe
  have HB0 := hide (Below.step hb0 hb1)
  replace B0 := B0.later hb1
  replace B1 := B1.later hb1
  replace B2 := B2.later hb1
  replace B3 := B3.later hb1
  clear hb0 hb1
  have HW : Below w1.heap.size w1 w1.drew := (Below.refl _ _).drew
  have hx1 := (h1.later HW)
  have hx2 := (h2.later HW)
  clear h1 h2
  have hlt := B3.lt
  obtain ⟨s1, s2, _, _⟩ := B0.facts
  obtain ⟨s3, s4, _, _⟩ := B1.facts
  have st0 := True.intro
  go_region_held3 (fun w' => w'.cell? ⟨w.heap.size, 0, none⟩ = some (.bool b) ∧ w'.cell? ⟨w.heap.size, 1, none⟩ = some (.slice aa la ca) ∧ w'.cell? ⟨w.heap.size + 1, 0, none⟩ = some (.bool b') ∧ w'.cell? ⟨w.heap.size + 1, 1, none⟩ = some (.slice ab lb cb)) (first | exact ⟨(B0.later HW).facts.1, (B0.later HW).facts.2.1, (B1.later HW).facts.1, (B1.later HW).facts.2.1⟩ | exact held2_set (by omega) (by assumption) | go_keep) (first | (clear st0; go_at_call 61; refine (qsigned_num _ _ _ _ (M / N) _ hx1).mono ?_; rintro e w2 ⟨b2, rfl, hf1, hb9⟩; replace HW := Below.step HW hb9; replace hx2 := hx2.later hb9; clear hb9; have st1 := True.intro) | (clear st1; go_at_call 61; refine (qsigned_num _ _ _ _ (M % N) _ hx2).mono ?_; rintro e w3 ⟨b3, rfl, hf2, hb9⟩; replace HW := Below.step HW hb9; replace hf1 := hf1.later hb9; clear hb9; obtain ⟨q1, q2, q3, q4⟩ := (B2.later HW).facts; obtain ⟨q5, q6, q7, q8⟩ := (B3.later HW).facts; have st2 := True.intro))
  have hn2 := (B2.later HW).noLimb
  have hn3 := (B3.later HW).noLimb
  go_wp2
  refine bodyPost_ret (v := .tuple #[.agg #[.bool b2, .slice a1 l1 c1], .agg #[.bool b3, .slice a2 l2 c2], .bool true]) (by simp [results, Try.results40, go_sem, *]) rfl ⟨_, _, _, _, _, _, _, _, rfl, ?_⟩
  exact int_end2 (Below.step (unhide HB0) HW) (by omega) (by omega) (by omega) hn2 hn3 hf1 hf2 _ _ _ _

set_option maxHeartbeats 1000000 in
theorem divides_num (b : Bool) (aa : Option Addr) (la ca : Nat) (x : Int) (b' : Bool) (ab : Option Addr) (lb cb : Nat) (y : Int) (q : Bool) (w : World) (ha : IntAt w b aa la ca x) (hb : IntAt w b' ab lb cb y) (hla : la ≤ 1000000) (hlb : lb ≤ 1000000) (hq : q = decide (x ∣ y)) :
    Calls Try.prog 27 #[.agg #[.bool b, .slice aa la ca], .agg #[.bool b', .slice ab lb cb]] w fun e w' => e = .returned (.bool q) ∧ Below w.heap.size w w' := by
  have hM := ha.val
  have hN := hb.val
  by_cases hy : y = 0
  · obtain rfl : q = true := by rw [hq, hy]; simp
    clear hq
    go_enter Try.func27, Try.ntmps27
    go_wp2_with fail
    refine (sign_num _ _ _ _ y _ (hb.later (below2 _ _ _)) hlb).mono ?_
    rintro e w1 ⟨rfl, hb1⟩
    subst hy
    go_wp2
    go_ret
    exact ⟨rfl, Below.step (below2 _ _ _) hb1⟩
  · have hs : ((y.sign) == 0) = false := by rw [beq_eq_false_iff_ne]; intro e; exact hy (Int.sign_eq_zero_iff_zero.1 e)
    obtain ⟨s, es⟩ : ∃ s, s = y.sign := ⟨_, rfl⟩
    rw [← es] at hs
    have B0 := (box_new w b aa la ca rfl).alloc (.cells #[.bool b', .slice ab lb cb] 24)
    have B1 := (box_new (w.alloc (.cells #[.bool b, .slice aa la ca] 24)) b' ab lb cb (n := w.heap.size + 1) (by simp))
    by_cases hd : x ∣ y
    · obtain rfl : q = true := by rw [hq]; exact decide_eq_true hd
      have hz : y.natAbs % x.natAbs = 0 := Nat.dvd_iff_mod_eq_zero.1 (Int.natAbs_dvd_natAbs.2 hd)
      have hx0 : 0 < x.natAbs := by
        rcases Nat.eq_zero_or_pos x.natAbs with h | h
        · obtain rfl : x = 0 := by omega
          exact absurd (Int.zero_dvd.1 hd) hy
        · exact h
      clear hq hd
      have HZ := hide hz
      clear hz
      go_enter Try.func27, Try.ntmps27
      go_wp2_with fail
      refine (signK' _ _ _ _ y s _ (hb.later (below2 _ _ _)) hlb es).mono ?_
      rintro e w1 ⟨rfl, hb1⟩
      obtain ⟨s1, s2, _, _⟩ := (B0.later hb1).facts
      obtain ⟨s3, s4, _, _⟩ := (B1.later hb1).facts
      have HW := Below.step (below2 w _ _) hb1
      clear hb1
      go_wp2_with fail
      refine (exact_num _ _ _ y.natAbs _ _ _ x.natAbs _ (hN.later HW) (hM.later HW) hlb hla hx0 (unhide HZ)).mono ?_
      rintro e w2 ⟨a1, l1, c1, rfl, _, hb2⟩
      go_wp2
      go_ret
      exact ⟨rfl, Below.step HW hb2⟩
    · obtain rfl : q = false := by rw [hq]; exact decide_eq_false hd
      have hz : x.natAbs = 0 ∨ y.natAbs % x.natAbs ≠ 0 := Or.inr fun h => hd (Int.natAbs_dvd_natAbs.1 (Nat.dvd_iff_mod_eq_zero.2 h))
      clear hq hd
      have HZ := hide hz
      clear hz
      go_enter Try.func27, Try.ntmps27
      go_wp2_with fail
      refine (signK' _ _ _ _ y s _ (hb.later (below2 _ _ _)) hlb es).mono ?_
      rintro e w1 ⟨rfl, hb1⟩
      obtain ⟨s1, s2, _, _⟩ := (B0.later hb1).facts
      obtain ⟨s3, s4, _, _⟩ := (B1.later hb1).facts
      have HW := Below.step (below2 w _ _) hb1
      clear hb1
      go_wp2_with fail
      refine (exact_none _ _ _ y.natAbs _ _ _ x.natAbs _ (hN.later HW) (hM.later HW) hlb hla (unhide HZ)).mono ?_
      rintro e w2 ⟨rfl, hb2⟩
      go_wp2
      go_ret
      exact ⟨rfl, Below.step HW hb2⟩

#print axioms quo_no
#print axioms quo_yes
#print axioms divides_num
end Go.Proofs.Ytobiogedknmijaa
