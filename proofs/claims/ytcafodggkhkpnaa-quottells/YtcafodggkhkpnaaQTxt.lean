/-
  What quot.Text, quot.Parse and their likes of the reference tell (IN PARTS): texts of whole numbers.
-/
import Derived.Test.YtcafodggkhkpnaaQuo
import Derived.Test.YtcafodggkhkpnaaJC
namespace Go.Proofs.Ytcafodggkhkpnaa
open Go.RowKit Lb

/-- The text of a whole number. -/
def IsTxt (s : ByteArray) (z : Int) : Prop := ∃ n, IsLen z.natAbs n ∧ byts s = if z < 0 then 45 :: sgn z.natAbs n else sgn z.natAbs n
theorem isTxt_inj {s t : ByteArray} {z : Int} (h : IsTxt s z) (h' : IsTxt t z) : s = t := by
  obtain ⟨n, h1, h2⟩ := h
  obtain ⟨m, h3, h4⟩ := h'
  obtain rfl := isLen_inj h1 h3
  exact str_ext (h2.trans h4.symm)
/-- What a text tells: behind a '-', if there is one. -/
def isNeg (l : List Nat) : Bool := l.head? == some 45
def rest (l : List Nat) : List Nat := if isNeg l then l.drop 1 else l
def okI (l : List Nat) : Bool := okS (rest l)
def numI (l : List Nat) : Int := sgnd (isNeg l) (numS (rest l))
theorem numI_no {l : List Nat} (h : okI l = false) : numI l = 0 := by
  unfold numI
  rw [numS_no h, sgnd_zero]
theorem byts_minus : byts { data := #[45] } = [45] := rfl
theorem byts_cons (s : ByteArray) : byts ({ data := #[45] } ++ s) = 45 :: byts s := by rw [byts_append, byts_minus]; rfl
theorem rest_minus (l : List Nat) : rest (45 :: l) = l := by simp [rest, isNeg]
theorem isNeg_minus (l : List Nat) : isNeg (45 :: l) = true := by simp [isNeg]
/-- The text of a number, read: the number. -/
theorem read_txt {s : ByteArray} {z : Int} (h : IsTxt s z) (hz : z.natAbs < Bp 20) : okI (byts s) = true ∧ numI (byts s) = z := by
  obtain ⟨n, h1, h2⟩ := h
  have hn : n ≤ 200 := isLen_le h1 (by omega) (twenty_lt hz)
  have hok : okS (sgn z.natAbs n) = true := okS_of (by rw [sgn_length]; exact h1.1) (by rw [sgn_length]; omega) (sgn_ok _ _)
  have hnum : numS (sgn z.natAbs n) = z.natAbs := by rw [numS_of hok, ofS_sgn, Nat.mod_eq_of_lt h1.2.1]
  by_cases c : z < 0
  · rw [if_pos c] at h2
    unfold okI numI
    rw [h2, rest_minus, isNeg_minus, hok, hnum, sgnd_true]
    exact ⟨rfl, by omega⟩
  · rw [if_neg c] at h2
    have hng : isNeg (sgn z.natAbs n) = false := by
      match n, h1 with
      | k + 1, _ =>
        have := dig_lt z.natAbs k
        simp [isNeg, sgn]; omega
    have hr : rest (sgn z.natAbs n) = sgn z.natAbs n := by simp [rest, hng]
    unfold okI numI
    rw [h2, hr, hng, hok, hnum, sgnd_false]
    exact ⟨rfl, by omega⟩

theorem rsignK' (b : Bool) (aa : Option Addr) (la ca : Nat) (x : Int) (s : Int) (w : World) (hx : IntAt w b aa la ca x) (hla : la ≤ 1000000) (hs : s = x.sign) : Calls Try.prog 13 #[.agg #[.bool b, .slice aa la ca]] w fun e w' => e = .returned (.int .i64 s) ∧ Below w.heap.size w w' := by
  subst hs
  exact rsign_num _ _ _ _ x _ hx hla
theorem sign_ltB (z : Int) : decide (z.sign < 0) = decide (z < 0) := by
  rw [decide_eq_decide]
  rcases Int.lt_trichotomy z 0 with h | h | h
  · rw [Int.sign_eq_neg_one_of_neg h]; omega
  · subst h; simp
  · rw [Int.sign_eq_one_of_pos h]; omega

theorem txt_size {t : ByteArray} {N n la : Nat} (ht : byts t = sgn N n) (hn : IsLen N n) (hN : N < Bp la) (hla : la ≤ 100000) : t.size ≤ 1000001 := by
  rw [← byts_length, ht, sgn_length]
  have h1 : N < 10 ^ (10 * la + 1) := Nat.lt_of_lt_of_le hN (Nat.le_trans (ten_limbs la) (Nat.pow_le_pow_right (by omega) (by omega)))
  have := isLen_le hn (by omega) h1
  omega
set_option maxHeartbeats 1000000 in
theorem qtext_any (b : Bool) (aa : Option Addr) (la ca : Nat) (z : Int) (w : World) (ha : IntAt w b aa la ca z) (hla : la ≤ 100000) :
    Calls Try.prog 22 #[.agg #[.bool b, .slice aa la ca]] w fun e w' => ∃ s, e = .returned (.string s) ∧ IsTxt s z ∧ Below w.heap.size w w' := by
  have hv := ha.val
  have hb0 := below_one w (.cells #[.bool b, .slice aa la ca] 24)
  have B0 := box_new w b aa la ca rfl
  obtain ⟨s, es⟩ : ∃ s, s = z.sign := ⟨_, rfl⟩
  have ES := hide es
  by_cases hz : z < 0
  · have hs : s < 0 := by rw [es, Int.sign_eq_neg_one_of_neg hz]; omega
    clear es
    have HZ := hide hz
    clear hz
    go_enter Try.func22, Try.ntmps22
    go_wp2_with fail
    refine (text_any _ _ _ z.natAbs _ (hv.later hb0) (by omega)).mono ?_
    rintro e w1 ⟨n, t, rfl, ht, hn, hb1⟩
    have hsz := txt_size ht hn (hv.lt (Nat.le_refl _)) hla
    obtain ⟨f1, f2, _, _⟩ := (B0.later hb1).facts
    have HB := Below.step hb0 hb1
    go_wp2_with fail
    refine (signK' _ _ _ _ z s _ (ha.later HB) (by omega) (unhide ES)).mono ?_
    rintro e w2 ⟨rfl, hb2⟩
    go_wp2
    go_ret
    exact ⟨_, rfl, ⟨n, hn, by rw [if_pos (unhide HZ), byts_cons, ht]⟩, Below.step HB hb2⟩
  · have hs : ¬ s < 0 := by
      have h1 := sign_ltB z
      rw [← es, decide_eq_false hz] at h1
      exact of_decide_eq_false h1
    clear es
    have HZ := hide hz
    clear hz
    go_enter Try.func22, Try.ntmps22
    go_wp2_with fail
    refine (text_any _ _ _ z.natAbs _ (hv.later hb0) (by omega)).mono ?_
    rintro e w1 ⟨n, t, rfl, ht, hn, hb1⟩
    have hsz := txt_size ht hn (hv.lt (Nat.le_refl _)) hla
    obtain ⟨f1, f2, _, _⟩ := (B0.later hb1).facts
    have HB := Below.step hb0 hb1
    go_wp2_with fail
    refine (signK' _ _ _ _ z s _ (ha.later HB) (by omega) (unhide ES)).mono ?_
    rintro e w2 ⟨rfl, hb2⟩
    go_wp2
    go_ret
    exact ⟨_, rfl, ⟨n, hn, by rw [if_neg (by have := unhide HZ; omega), ht]⟩, Below.step HB hb2⟩
set_option maxHeartbeats 1000000 in
theorem rtext_any (b : Bool) (aa : Option Addr) (la ca : Nat) (z : Int) (w : World) (ha : IntAt w b aa la ca z) (hla : la ≤ 100000) :
    Calls Try.prog 19 #[.agg #[.bool b, .slice aa la ca]] w fun e w' => ∃ s, e = .returned (.string s) ∧ IsTxt s z ∧ Below w.heap.size w w' := by
  have hv := ha.val
  have hb0 := below_one w (.cells #[.bool b, .slice aa la ca] 24)
  have B0 := box_new w b aa la ca rfl
  obtain ⟨s, es⟩ : ∃ s, s = z.sign := ⟨_, rfl⟩
  have ES := hide es
  by_cases hz : z < 0
  · have hs : s < 0 := by rw [es, Int.sign_eq_neg_one_of_neg hz]; omega
    clear es
    have HZ := hide hz
    clear hz
    go_enter Try.func19, Try.ntmps19
    go_wp2_with fail
    refine (rsignK' _ _ _ _ z s _ (ha.later hb0) (by omega) (unhide ES)).mono ?_
    rintro e w1 ⟨rfl, hb1⟩
    obtain ⟨f1, f2, _, _⟩ := (B0.later hb1).facts
    have HB := Below.step hb0 hb1
    go_wp2_with fail
    refine (digits_any _ _ _ z.natAbs _ (hv.later HB) (by omega)).mono ?_
    rintro e w2 ⟨n, t, rfl, ht, hn, hb2⟩
    have hsz := txt_size ht hn (hv.lt (Nat.le_refl _)) hla
    go_wp2
    go_ret
    exact ⟨_, rfl, ⟨n, hn, by rw [if_pos (unhide HZ), byts_cons, ht]⟩, Below.step HB hb2⟩
  · have hs : ¬ s < 0 := by
      have h1 := sign_ltB z
      rw [← es, decide_eq_false hz] at h1
      exact of_decide_eq_false h1
    clear es
    have HZ := hide hz
    clear hz
    go_enter Try.func19, Try.ntmps19
    go_wp2_with fail
    refine (rsignK' _ _ _ _ z s _ (ha.later hb0) (by omega) (unhide ES)).mono ?_
    rintro e w1 ⟨rfl, hb1⟩
    obtain ⟨f1, f2, _, _⟩ := (B0.later hb1).facts
    have HB := Below.step hb0 hb1
    go_wp2_with fail
    refine (digits_any _ _ _ z.natAbs _ (hv.later HB) (by omega)).mono ?_
    rintro e w2 ⟨n, t, rfl, ht, hn, hb2⟩
    have hsz := txt_size ht hn (hv.lt (Nat.le_refl _)) hla
    go_wp2
    go_ret
    exact ⟨_, rfl, ⟨n, hn, by rw [if_neg (by have := unhide HZ; omega), ht]⟩, Below.step HB hb2⟩

set_option maxHeartbeats 1000000 in
theorem hasPrefix_any (s : ByteArray) (w : World) (hs : s.size ≤ 1000000) :
    Calls Try.prog 84 #[.string s, .string { data := #[45] }] w fun e w' => e = .returned (.bool (isNeg (byts s))) ∧ w = w' := by
  by_cases h0 : s.size = 0
  · have e0 : isNeg (byts s) = false := by
      have : byts s = [] := List.eq_nil_of_length_eq_zero (by rw [byts_length]; exact h0)
      rw [this]; rfl
    rw [e0]
    have h1 : ¬ (1 : Int) ≤ (s.size : Int) := by omega
    go_enter Try.func84, Try.ntmps84
    go_wp2
    go_ret
    exact ⟨rfl, rfl⟩
  · have h1 : (1 : Int) ≤ (s.size : Int) := by omega
    have e0 : ((s.extract 0 1).toList == [45]) = isNeg (byts s) := by
      have h2 := byts_eql (s.extract 0 1) { data := #[45] }
      rw [show (ByteArray.mk #[45]).toList = [45] by rw [ByteArray.toList_eq], byts_minus, byts_extract] at h2
      rw [h2]
      cases hb : byts s with
      | nil => exact absurd (by rw [← byts_length, hb]; rfl) h0
      | cons c l =>
        unfold isNeg
        by_cases hc : c = 45
        · subst hc; simp
        · simp [hc]
    go_enter Try.func84, Try.ntmps84
    go_wp2
    go_ret
    exact ⟨rfl, rfl⟩

theorem isNeg_size {s : ByteArray} (h : isNeg (byts s) = true) : 1 ≤ s.size := by
  rcases Nat.eq_zero_or_pos s.size with h0 | h0
  · have : byts s = [] := List.eq_nil_of_length_eq_zero (by rw [byts_length]; exact h0)
    rw [this] at h
    cases h
  · exact h0
theorem byts_rest1 {s : ByteArray} (h : isNeg (byts s) = true) : byts (s.extract 1 s.size) = rest (byts s) := by
  unfold rest
  rw [if_pos h, byts_extract, List.take_of_length_le (by rw [List.length_drop, byts_length]; omega)]
theorem byts_rest0 {s : ByteArray} (h : isNeg (byts s) = false) : byts s = rest (byts s) := by
  unfold rest
  rw [h]; simp

set_option maxHeartbeats 1000000 in
theorem cutP_any (s : ByteArray) (ng : Bool) (w : World) (hs : s.size ≤ 1000000) (hng : ng = isNeg (byts s)) :
    Calls Try.prog 73 #[.string s, .string { data := #[45] }] w fun e w' => ∃ t, e = .returned (.tuple #[.string t, .bool ng]) ∧ byts t = rest (byts s) ∧ t.size ≤ 1000000 ∧ w = w' := by
  have hp := hasPrefix_any s w hs
  rw [← hng] at hp
  cases ng
  · have HR := hide (byts_rest0 hng.symm)
    clear hng
    go_enter Try.func73, Try.ntmps73
    go_wp2_with fail
    refine hp.mono ?_
    rintro e w1 ⟨rfl, rfl⟩
    go_wp2
    go_ret2
    exact ⟨_, rfl, unhide HR, hs, rfl⟩
  · have HR := hide (byts_rest1 hng.symm)
    have h1 := isNeg_size hng.symm
    clear hng
    go_enter Try.func73, Try.ntmps73
    go_wp2_with fail
    refine hp.mono ?_
    rintro e w1 ⟨rfl, rfl⟩
    go_wp2
    go_ret2
    exact ⟨_, rfl, unhide HR, by have := congrArg List.length (unhide HR); rw [byts_length] at this; rw [this]; unfold rest; split <;> simp [byts_length] <;> omega, rfl⟩
set_option maxHeartbeats 1000000 in
theorem cut_prefix (s : ByteArray) (ng : Bool) (w : World) (hs : s.size ≤ 1000000) (hng : ng = isNeg (byts s)) :
    Calls Try.prog 46 #[.string s, .string { data := #[45] }] w fun e w' => ∃ t, e = .returned (.tuple #[.string t, .bool ng]) ∧ byts t = rest (byts s) ∧ t.size ≤ 1000000 ∧ w = w' := by
  have hp := cutP_any s ng w hs hng
  clear hng
  go_enter Try.func46, Try.ntmps46
  go_wp2_with fail
  refine hp.mono ?_
  rintro e w1 ⟨t, rfl, ht, hz, rfl⟩
  go_wp2
  go_ret2
  exact ⟨_, rfl, ht, hz, rfl⟩

set_option maxHeartbeats 1000000 in
theorem qparse_any (s : ByteArray) (q : Bool) (z : Int) (w : World) (hs : s.size ≤ 1000000) (hq : q = okI (byts s)) (hz : z = numI (byts s)) :
    Calls Try.prog 20 #[.string s] w fun e w' => ∃ b ao len cap, e = .returned (.tuple #[.agg #[.bool b, .slice ao len cap], .bool q]) ∧ FormAt w' b ao len cap z ∧ Below w.heap.size w w' := by
  obtain ⟨ng, hng⟩ : ∃ ng, ng = isNeg (byts s) := ⟨_, rfl⟩
  have hb0 := below_one w (.cells #[.bool false, .slice none 0 0] 24)
  have B0 := box_new w false none 0 0 rfl
  have hcp := cut_prefix s ng (w.alloc (.cells #[.bool false, .slice none 0 0] 24)) hs hng
  have HZ := hide (show z = sgnd ng (numS (rest (byts s))) by rw [hz, hng]; rfl)
  have HQ := hide (show q = okS (rest (byts s)) from hq)
  clear hq hz hng
  go_enter Try.func20, Try.ntmps20
  go_wp2_with fail
  refine hcp.mono ?_
  rintro e w1 ⟨t, rfl, ht, hts, rfl⟩
  have HT := hide ht
  clear ht hcp
  go_wp2_with fail
  refine (parse_any t q (numS (byts t)) _ hts (by rw [unhide HT]; exact unhide HQ) rfl).mono ?_
  rintro e w1 ⟨a1, l1, c1, rfl, h1, hb1⟩
  rw [unhide HT] at h1
  have HB := Below.step hb0 hb1
  replace B0 := B0.later hb1
  have hlt := B0.lt
  obtain ⟨q1, q2, q3, q4⟩ := B0.facts
  cases q
  · have ez : z = 0 := by rw [unhide HZ, numS_no (unhide HQ).symm, sgnd_zero]
    subst ez
    clear HZ HQ HT hb0 hb1 h1
    go_wp2
    refine bodyPost_ret (v := .tuple #[.agg #[.bool false, .slice none 0 0], .bool false]) (by simp [results, Try.results20, go_sem, *]) rfl ⟨_, _, _, _, rfl, ?_, (HB.setCell (by simp) _).setCell (by simp) _⟩
    exact ⟨⟨[], rowAt_nil _, fun h => absurd h (by simp), rfl⟩, rfl⟩
  · clear hb0 hb1 q1 q2 q3 q4
    go_wp2_with fail
    refine (qsigned_num ng _ _ _ _ _ h1).mono ?_
    rintro e w2 ⟨b2, rfl, h2, hb2⟩
    replace B0 := B0.later hb2
    obtain ⟨q1, q2, q3, q4⟩ := B0.facts
    have hn := B0.noLimb
    have HB2 := Below.step HB hb2
    rw [← unhide HZ] at h2
    clear HZ HQ HT hb2 h1
    go_wp2
    refine bodyPost_ret (v := .tuple #[.agg #[.bool b2, .slice a1 l1 c1], .bool true]) (by simp [results, Try.results20, go_sem, *]) rfl ⟨_, _, _, _, rfl, ?_⟩
    exact int_end HB2 (Nat.le_refl _) hn h2 _ _

theorem neg_at {s : ByteArray} (h : 0 < s.size) : (((s[0]'h).toNat : Int) == 45) = isNeg (byts s) := by
  have h1 := byts_at s 0 h
  cases hb : byts s with
  | nil => exact absurd (show s.size = 0 by rw [← byts_length, hb]; rfl) (by omega)
  | cons c l =>
    rw [hb] at h1
    have h2 : (s[0]'h).toNat = c := by rw [h1]; rfl
    rw [h2]
    unfold isNeg
    by_cases hc : c = 45
    · subst hc; simp
    · have h3 : ((c : Int) == 45) = false := by rw [beq_eq_false_iff_ne]; omega
      rw [h3]; simp [hc]
theorem numS_lt (l : List Nat) {j : Nat} (hj : 4096 ≤ j) : numS l < 10 ^ j := by
  by_cases h : okS l = true
  · rw [numS_of h]
    have h2 : l.length ≤ 4096 ∧ okD l = true := by
      unfold okS at h
      simp only [Bool.and_eq_true, decide_eq_true_eq] at h
      exact ⟨h.1.2, h.2⟩
    exact Nat.lt_of_lt_of_le (ofS_lt h2.2) (Nat.pow_le_pow_right (by omega) (by omega))
  · rw [numS_no (by simpa using h)]
    exact Nat.pow_pos (by omega)
theorem isNeg_nil {s : ByteArray} (h : s.size = 0) : isNeg (byts s) = false := by
  have : byts s = [] := List.eq_nil_of_length_eq_zero (by rw [byts_length]; exact h)
  rw [this]; rfl

set_option maxHeartbeats 1000000 in
theorem rparse_any (s : ByteArray) (q : Bool) (z : Int) (w : World) (hs : s.size ≤ 1000000) (hq : q = okI (byts s)) (hz : z = numI (byts s)) :
    Calls Try.prog 21 #[.string s] w fun e w' => ∃ b ao len cap, e = .returned (.tuple #[.agg #[.bool b, .slice ao len cap], .bool q]) ∧ FormAt w' b ao len cap z ∧ Below w.heap.size w w' := by
  obtain ⟨ng, hng⟩ : ∃ ng, ng = isNeg (byts s) := ⟨_, rfl⟩
  have hb0 := below_one w (.cells #[.bool false, .slice none 0 0] 24)
  have B0 := box_new w false none 0 0 rfl
  have HZ := hide (show z = sgnd ng (numS (rest (byts s))) by rw [hz, hng]; rfl)
  have HQ := hide (show q = okS (rest (byts s)) from hq)
  clear hq hz
  by_cases hg : ng = true
  · subst hg
    have h1 := isNeg_size hng.symm
    have h1' : (0 : Int) < (s.size : Int) := by omega
    have ha : (((s[0]'h1).toNat : Int) == 45) = true := (neg_at h1).trans hng.symm
    have HT := hide (byts_rest1 hng.symm)
    have hts : (s.extract 1 s.size).size ≤ 1000000 := by
      have := congrArg List.length (unhide HT)
      rw [byts_length] at this
      rw [this]; unfold rest; split <;> simp [byts_length] <;> omega
    clear hng
    go_enter Try.func21, Try.ntmps21
    go_wp2_with fail
    refine (ofDigits_any (s.extract 1 s.size) q (numS (byts (s.extract 1 s.size))) _ hts (by rw [unhide HT]; exact unhide HQ) rfl).mono ?_
    rintro e w1 ⟨a1, l1, c1, rfl, h1, hb1⟩
    have hl1 : l1 ≤ 1000000 := by
      obtain ⟨j, hj⟩ : ∃ j : Nat, j = 4096 := ⟨_, rfl⟩
      have := parse_len h1 (numS_lt _ (Nat.le_of_eq hj.symm))
      omega
    rw [unhide HT] at h1
    have HB := Below.step hb0 hb1
    replace B0 := B0.later hb1
    have hlt := B0.lt
    obtain ⟨q1, q2, q3, q4⟩ := B0.facts
    cases q
    · have ez : z = 0 := by rw [unhide HZ, numS_no (unhide HQ).symm, sgnd_zero]
      subst ez
      clear HZ HQ HT hb0 hb1 h1
      go_wp2
      refine bodyPost_ret (v := .tuple #[.agg #[.bool false, .slice none 0 0], .bool false]) (by simp [results, Try.results21, go_sem, *]) rfl ⟨_, _, _, _, rfl, ?_, (HB.setCell (by simp) _).setCell (by simp) _⟩
      exact ⟨⟨[], rowAt_nil _, fun h => absurd h (by simp), rfl⟩, rfl⟩
    · clear hb0 hb1 q1 q2 q3 q4
      go_wp2_with fail
      refine (rform_num true _ _ _ z _ ⟨_, h1.val, unhide HZ⟩ hl1).mono ?_
      rintro e w2 ⟨b2, a2, l2, c2, rfl, h2, hb2⟩
      replace B0 := B0.later hb2
      obtain ⟨q1, q2, q3, q4⟩ := B0.facts
      have hn := B0.noLimb
      have HB2 := Below.step HB hb2
      clear HZ HQ HT hb2 h1
      go_wp2
      refine bodyPost_ret (v := .tuple #[.agg #[.bool b2, .slice a2 l2 c2], .bool true]) (by simp [results, Try.results21, go_sem, *]) rfl ⟨_, _, _, _, rfl, ?_⟩
      exact int_end HB2 (Nat.le_refl _) hn h2 _ _
  · obtain rfl : ng = false := by simpa using hg
    have HT := hide (byts_rest0 hng.symm)
    have hts := hs
    clear hg
    by_cases h0 : s.size = 0
    · have h0' : ¬ (0 : Int) < (s.size : Int) := by omega
      clear hng
      go_enter Try.func21, Try.ntmps21
      go_wp2_with fail
      refine (ofDigits_any s q (numS (byts s)) _ hts (by rw [unhide HT]; exact unhide HQ) rfl).mono ?_
      rintro e w1 ⟨a1, l1, c1, rfl, h1, hb1⟩
      have hl1 : l1 ≤ 1000000 := by
        obtain ⟨j, hj⟩ : ∃ j : Nat, j = 4096 := ⟨_, rfl⟩
        have := parse_len h1 (numS_lt _ (Nat.le_of_eq hj.symm))
        omega
      rw [unhide HT] at h1
      have HB := Below.step hb0 hb1
      replace B0 := B0.later hb1
      have hlt := B0.lt
      obtain ⟨q1, q2, q3, q4⟩ := B0.facts
      cases q
      · have ez : z = 0 := by rw [unhide HZ, numS_no (unhide HQ).symm, sgnd_zero]
        subst ez
        clear HZ HQ HT hb0 hb1 h1
        go_wp2
        refine bodyPost_ret (v := .tuple #[.agg #[.bool false, .slice none 0 0], .bool false]) (by simp [results, Try.results21, go_sem, *]) rfl ⟨_, _, _, _, rfl, ?_, (HB.setCell (by simp) _).setCell (by simp) _⟩
        exact ⟨⟨[], rowAt_nil _, fun h => absurd h (by simp), rfl⟩, rfl⟩
      · clear hb0 hb1 q1 q2 q3 q4
        go_wp2_with fail
        refine (rform_num false _ _ _ z _ ⟨_, h1.val, unhide HZ⟩ hl1).mono ?_
        rintro e w2 ⟨b2, a2, l2, c2, rfl, h2, hb2⟩
        replace B0 := B0.later hb2
        obtain ⟨q1, q2, q3, q4⟩ := B0.facts
        have hn := B0.noLimb
        have HB2 := Below.step HB hb2
        clear HZ HQ HT hb2 h1
        go_wp2
        refine bodyPost_ret (v := .tuple #[.agg #[.bool b2, .slice a2 l2 c2], .bool true]) (by simp [results, Try.results21, go_sem, *]) rfl ⟨_, _, _, _, rfl, ?_⟩
        exact int_end HB2 (Nat.le_refl _) hn h2 _ _
    · have h0' : (0 : Int) < (s.size : Int) := by omega
      have h00 : 0 < s.size := by omega
      have ha : (((s[0]'h00).toNat : Int) == 45) = false := (neg_at h00).trans hng.symm
      clear hng
      go_enter Try.func21, Try.ntmps21
      go_wp2_with fail
      refine (ofDigits_any s q (numS (byts s)) _ hts (by rw [unhide HT]; exact unhide HQ) rfl).mono ?_
      rintro e w1 ⟨a1, l1, c1, rfl, h1, hb1⟩
      have hl1 : l1 ≤ 1000000 := by
        obtain ⟨j, hj⟩ : ∃ j : Nat, j = 4096 := ⟨_, rfl⟩
        have := parse_len h1 (numS_lt _ (Nat.le_of_eq hj.symm))
        omega
      rw [unhide HT] at h1
      have HB := Below.step hb0 hb1
      replace B0 := B0.later hb1
      have hlt := B0.lt
      obtain ⟨q1, q2, q3, q4⟩ := B0.facts
      cases q
      · have ez : z = 0 := by rw [unhide HZ, numS_no (unhide HQ).symm, sgnd_zero]
        subst ez
        clear HZ HQ HT hb0 hb1 h1
        go_wp2
        refine bodyPost_ret (v := .tuple #[.agg #[.bool false, .slice none 0 0], .bool false]) (by simp [results, Try.results21, go_sem, *]) rfl ⟨_, _, _, _, rfl, ?_, (HB.setCell (by simp) _).setCell (by simp) _⟩
        exact ⟨⟨[], rowAt_nil _, fun h => absurd h (by simp), rfl⟩, rfl⟩
      · clear hb0 hb1 q1 q2 q3 q4
        go_wp2_with fail
        refine (rform_num false _ _ _ z _ ⟨_, h1.val, unhide HZ⟩ hl1).mono ?_
        rintro e w2 ⟨b2, a2, l2, c2, rfl, h2, hb2⟩
        replace B0 := B0.later hb2
        obtain ⟨q1, q2, q3, q4⟩ := B0.facts
        have hn := B0.noLimb
        have HB2 := Below.step HB hb2
        clear HZ HQ HT hb2 h1
        go_wp2
        refine bodyPost_ret (v := .tuple #[.agg #[.bool b2, .slice a2 l2 c2], .bool true]) (by simp [results, Try.results21, go_sem, *]) rfl ⟨_, _, _, _, rfl, ?_⟩
        exact int_end HB2 (Nat.le_refl _) hn h2 _ _

#print axioms rparse_any
#print axioms cut_prefix
#print axioms qparse_any
#print axioms qtext_any
#print axioms rtext_any
end Go.Proofs.Ytcafodggkhkpnaa
