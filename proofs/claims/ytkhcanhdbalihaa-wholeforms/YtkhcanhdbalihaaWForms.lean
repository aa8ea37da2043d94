/-
  The walk of WholeForms: it tells true.
-/
import Derived.Test.YtkhcanhdbalihaaFew4
import Derived.Test.YtkhcanhdbalihaaAwake4
import Derived.Test.YtkhcanhdbalihaaWK
import Derived.Deep.CutRange
namespace Go.Proofs.Ytkhcanhdbalihaa
open Go.RowKit Lb

theorem intsIn1 {w : World} (b0 : Bool) (a0 : Option Addr) (len0 cap0 : Nat) {n : Nat} (hn : n = w.heap.size) :
    IntsIn (w.alloc (.cells #[.bool b0, .slice a0 len0 cap0] 24)) n 1 (fun _ => b0) (fun _ => a0) (fun _ => len0) (fun _ => cap0) := by
  subst hn
  intro i hi
  match i with
  | 0 => simp
/-- Is it an int of 64 bits? -/
def inR (x : Int) : Bool := decide (-9223372036854775808 ≤ x ∧ x ≤ 9223372036854775807)
theorem smallQ (b : Bool) (aa : Option Addr) (la ca : Nat) (x : Int) (k : Nat) (m : Int) (q : Bool) (w : World) (hx : IK w b aa la ca x k) (hq : q = inR x) (hm : m = if q then x else 0) : Calls Try.prog 11 #[.agg #[.bool b, .slice aa la ca]] w fun e w' => e = .returned (.tuple #[.int .i64 m, .bool q]) ∧ Below w.heap.size w w' := by
  subst hq hm
  by_cases h : -9223372036854775808 ≤ x ∧ x ≤ 9223372036854775807
  · rw [show inR x = true from decide_eq_true h]
    exact smallK _ _ _ _ _ _ _ hx h.1 h.2
  · rw [show inR x = false from decide_eq_false h]
    exact smallN _ _ _ _ _ _ _ hx (by omega)
theorem form_len (k : Nat) : Bp 2 ≤ Bp (k + 2) := Bp_le (by omega)
/-- What the limbs of a number's one form say of its being an int of 64 bits. -/
theorem fits_cases {w : World} {b : Bool} {ao : Option Addr} {len cap : Nat} {x : Int} (h : FormAt w b ao len cap x) :
    (len < 2 ∧ inR x = true) ∨ (2 < len ∧ inR x = false) ∨ (len = 2 ∧ ∃ (bl off m0 m1 : Nat), ao = some ⟨bl, off, none⟩ ∧ w.cell? ⟨bl, off, none⟩ = some (.int .u32 (m0 : Int)) ∧ w.cell? ⟨bl, off + 1, none⟩ = some (.int .u32 (m1 : Int)) ∧ m0 < 4294967296 ∧ m1 < 4294967296 ∧
      ((m1 < 2147483648 ∧ inR x = true) ∨ (m1 = 2147483648 ∧ b = true ∧ m0 = 0 ∧ inR x = true) ∨ (2147483648 ≤ m1 ∧ b = false ∧ inR x = false) ∨ (2147483648 < m1 ∧ b = true ∧ inR x = false) ∨ (m1 = 2147483648 ∧ b = true ∧ 0 < m0 ∧ inR x = false))) := by
  have hB2 : Bp 2 = 18446744073709551616 := rfl
  have hB1 : Bp 1 = 4294967296 := rfl
  obtain ⟨⟨xs, hx, nx, vx⟩, hb⟩ := h
  have hl := hx.len_eq
  rcases Nat.lt_trichotomy len 2 with c | c | c
  · left
    refine ⟨c, decide_eq_true ?_⟩
    have h1 := row_lt hx (k := 1) (by omega)
    rw [vx, hB1] at h1
    omega
  · right; right
    refine ⟨c, ?_⟩
    obtain ⟨bl, off, e, _, hc⟩ := hx.cells (by omega)
    have e0 := hc 0 (by omega)
    have e1 := hc 1 (by omega)
    rw [Nat.add_zero] at e0
    have s0 := hx.small 0
    have s1 := hx.small 1
    have hv : Lb.val xs = lim xs 0 + lim xs 1 * 4294967296 := by
      show pre xs xs.length = _
      rw [hl, c, pre_succ, pre_succ, pre_zero, Bp_zero, hB1]; omega
    refine ⟨bl, off, lim xs 0, lim xs 1, e, e0, e1, s0, s1, ?_⟩
    rw [vx] at hv
    generalize lim xs 0 = m0 at *
    generalize lim xs 1 = m1 at *
    unfold inR
    simp only [decide_eq_true_eq, decide_eq_false_iff_not]
    cases b
    · have hx0 : ¬ x < 0 := by simpa using hb.symm
      rcases Nat.lt_or_ge m1 2147483648 with d | d
      · left; omega
      · right; right; left; exact ⟨d, rfl, by omega⟩
    · have hx0 : x < 0 := by simpa using hb.symm
      rcases Nat.lt_trichotomy m1 2147483648 with d | d | d
      · left; omega
      · rcases Nat.eq_zero_or_pos m0 with e2 | e2
        · right; left; exact ⟨d, rfl, e2, by omega⟩
        · right; right; right; right; exact ⟨d, rfl, e2, by omega⟩
      · right; right; right; left; exact ⟨d, rfl, by omega⟩
  · right; left
    refine ⟨c, decide_eq_false ?_⟩
    have h1 := norm_ge nx (by omega)
    have h2 := Bp_le (show 2 ≤ xs.length - 1 by omega)
    rw [vx] at h1
    omega

set_option maxRecDepth 20000 in
set_option maxHeartbeats 8000000 in
theorem wholeForms_walk (k : Int) (b1 : Bool) (a1 : Option Addr) (len1 cap1 : Nat) (xs1 : List Nat) (w : World) (w0 : (Lit.int .i64 k).wf = true) (r1 : RowAt w a1 len1 cap1 xs1) :
    Calls Try.prog 3 #[.int .i64 k, .agg #[.bool b1, .slice a1 len1 cap1]] w fun e w' => e = .returned (.bool true) ∧ Below w.heap.size w w' := by
  obtain ⟨k1, k2⟩ := bounds_i64 w0
  have K1 := hide k1
  have K2 := hide k2
  clear k1 k2 w0
  have hm1 := Nat.le_trans r1.cap_le r1.cap_max
  have hx := r1.int b1
  obtain ⟨x, ex⟩ : ∃ x, x = sgnd b1 (Lb.val xs1) := ⟨_, rfl⟩
  rw [← ex] at hx
  clear ex r1
  have HI := hide (intsIn1 (w := w.alloc (.cells #[.bool b1, .slice a1 len1 cap1] 24)) b1 a1 len1 cap1 (n := w.heap.size + 1) (by simp))
  go_enter Try.func3, Try.ntmps3
  go_wp2_with fail
  refine (few4_any _ _ _ _ _ _ _ (unhide HI) (by omega) (by simp <;> omega) (by intro i _; exact hm1)).mono ?_
  rintro e w1 ⟨⟨b, rfl, hb⟩, hb1⟩
  have HW := Below.step (below2 w _ _) hb1
  have B0 := ((box_new w b1 a1 len1 cap1 rfl).alloc _).later hb1
  clear HI hb1
  by_cases hf : b = true
  · subst hf
    have f0 : len1 ≤ 30 := (hb.1 rfl) 0 (by omega)
    clear hb hm1
    have h1 := ik_of (hx.later HW) f0 (by omega)
    clear hx f0
    obtain ⟨q, hq⟩ : ∃ q, q = inR x := ⟨_, rfl⟩
    obtain ⟨m, hm⟩ : ∃ m, m = if q then x else 0 := ⟨_, rfl⟩
    have HQ := hide hq
    have HM := hide hm
    clear hq hm
    go_wp2_with fail
    refine (ofK k _ (unhide K1) (unhide K2)).mono ?_
    rintro e w2 ⟨bb, ab, lenb, capb, rfl, hbF, hb2⟩
    replace HW := Below.step HW hb2
    replace h1 := h1.later hb2
    replace B0 := B0.later hb2
    clear hb2
    have BB := box_new w2 bb ab lenb capb rfl
    replace B0 := B0.alloc (.cells #[.bool bb, .slice ab lenb capb] 24)
    have hb3 := (Below.refl w2.heap.size w2).alloc (Nat.le_refl _) (.cells #[.bool bb, .slice ab lenb capb] 24)
    replace HW := Below.step HW hb3
    replace h1 := h1.later hb3
    replace hbF := hbF.later hb3
    clear hb3
    go_wp2_with fail
    refine (smallK _ _ _ _ k _ _ (hbF.ik (by omega)) (unhide K1) (unhide K2)).mono ?_
    rintro e w3 ⟨rfl, hb3⟩
    replace HW := Below.step HW hb3
    replace h1 := h1.later hb3
    replace hbF := hbF.later hb3
    replace B0 := B0.later hb3
    replace BB := BB.later hb3
    clear hb3
    obtain ⟨s1, s2, _, _⟩ := B0.facts
    go_wp2_with fail
    refine (smallQ _ _ _ _ x _ m q _ h1 (unhide HQ) (unhide HM)).mono ?_
    rintro e w4 ⟨rfl, hb3⟩
    replace HW := Below.step HW hb3
    replace h1 := h1.later hb3
    replace hbF := hbF.later hb3
    replace B0 := B0.later hb3
    replace BB := BB.later hb3
    clear hb3 s1 s2
    obtain ⟨s1, s2, _, _⟩ := B0.facts
    go_wp2_with fail
    refine (rformK _ _ _ _ x _ _ h1).mono ?_
    rintro e w5 ⟨bf, af, lenf, capf, rfl, hfF, hb3⟩
    replace HW := Below.step HW hb3
    replace h1 := h1.later hb3
    replace hbF := hbF.later hb3
    replace B0 := B0.later hb3
    replace BB := BB.later hb3
    clear hb3 s1 s2
    have BF := box_new w5 bf af lenf capf rfl
    replace B0 := B0.alloc (.cells #[.bool bf, .slice af lenf capf] 24)
    replace BB := BB.alloc (.cells #[.bool bf, .slice af lenf capf] 24)
    have hb3 := (Below.refl w5.heap.size w5).alloc (Nat.le_refl _) (.cells #[.bool bf, .slice af lenf capf] 24)
    replace HW := Below.step HW hb3
    replace h1 := h1.later hb3
    replace hbF := hbF.later hb3
    replace hfF := hfF.later hb3
    clear hb3
    go_upto_region 7 with fail
    obtain ⟨W, hWe⟩ : ∃ W, W = w5.alloc (.cells #[.bool bf, .slice af lenf capf] 24) := ⟨_, rfl⟩
    rw [← hWe] at BF B0 BB HW h1 hbF hfF ⊢
    clear hWe
    have hFC := fits_cases hfF.1
    have HFC := hide hFC
    clear hFC
    obtain ⟨s1, s2, _, _⟩ := BF.facts
    have hlf : lenf ≤ 30 := hfF.1.len_le hfF.2
    go_cut [11] from 12 (fun s wc => s = .bool q ∧ wc = W)
    case first =>
      rcases unhide HFC with ⟨c, hR⟩ | ⟨c, hR⟩ | ⟨c, bl, off, m0, m1, rfl, e0, e1, k0, k1, hC⟩
      · obtain rfl : q = true := (unhide HQ).trans hR
        clear hR
        have c' : (lenf : Int) < 2 := by omega
        go_wp2
        go_meet
        case rel => exact ⟨rfl, rfl⟩
      · obtain rfl : q = false := (unhide HQ).trans hR
        clear hR
        have c' : ¬ (lenf : Int) < 2 := by omega
        have c2 : ((lenf : Int) == 2) = false := by rw [beq_eq_false_iff_ne]; omega
        go_wp2
        go_meet
        case rel => exact ⟨rfl, rfl⟩
      · subst c
        rcases hC with ⟨d, hR⟩ | ⟨d, rfl, d0, hR⟩ | ⟨d, rfl, hR⟩ | ⟨d, rfl, hR⟩ | ⟨d, rfl, d0, hR⟩
        · obtain rfl : q = true := (unhide HQ).trans hR
          clear hR
          have d' : (m1 : Int) < 2147483648 := by omega
          go_wp2
          go_meet
          case rel => exact ⟨rfl, rfl⟩
        · obtain rfl : q = true := (unhide HQ).trans hR
          clear hR
          subst d d0
          go_wp2
          go_meet
          case rel => exact ⟨rfl, rfl⟩
        · obtain rfl : q = false := (unhide HQ).trans hR
          clear hR
          have d' : ¬ (m1 : Int) < 2147483648 := by omega
          go_wp2
          go_meet
          case rel => exact ⟨rfl, rfl⟩
        · obtain rfl : q = false := (unhide HQ).trans hR
          clear hR
          have d' : ¬ (m1 : Int) < 2147483648 := by omega
          have d2 : ((m1 : Int) == 2147483648) = false := by rw [beq_eq_false_iff_ne]; omega
          go_wp2
          go_meet
          case rel => exact ⟨rfl, rfl⟩
        · obtain rfl : q = false := (unhide HQ).trans hR
          clear hR
          subst d
          have d2 : ((m0 : Int) == 0) = false := by rw [beq_eq_false_iff_ne]; omega
          go_wp2
          go_meet
          case rel => exact ⟨rfl, rfl⟩
    case rest =>
      obtain ⟨rfl, hwc⟩ := hcut
      replace hwc := hwc.symm
      subst hwc
      clear HFC s1 s2 hlf
      have HW0 := hide HW
      clear HW
      have HK : Hid (∀ w', Below W.heap.size W w' → w'.cell? ⟨w.heap.size, 0, none⟩ = some (.bool b1) ∧ w'.cell? ⟨w.heap.size, 1, none⟩ = some (.slice a1 len1 cap1) ∧ w'.cell? ⟨w2.heap.size, 0, none⟩ = some (.bool bb) ∧ w'.cell? ⟨w2.heap.size, 1, none⟩ = some (.slice ab lenb capb) ∧ w'.cell? ⟨w5.heap.size, 0, none⟩ = some (.bool bf) ∧ w'.cell? ⟨w5.heap.size, 1, none⟩ = some (.slice af lenf capf)) := fun w' hb => ⟨(B0.later hb).facts.1, (B0.later hb).facts.2.1, (BB.later hb).facts.1, (BB.later hb).facts.2.1, (BF.later hb).facts.1, (BF.later hb).facts.2.1⟩
      clear B0 BB BF
      have HW : Below W.heap.size W W := Below.refl _ _
      obtain ⟨s1, s2, s3, s4, s5, s6⟩ := (unhide HK) _ HW
      go_upto_region 8 with fail
      go_cut [102] from 12 (fun s wc => s = .bool false ∧ Below W.heap.size W wc)
      case first =>
        replace HW := HW.drew
        have st0 := True.intro
        cases q
        · obtain rfl : m = 0 := unhide HM
          refine wp_region_held_drew (S := fun w' => w'.cell? ⟨w.heap.size, 0, none⟩ = some (.bool b1) ∧ w'.cell? ⟨w.heap.size, 1, none⟩ = some (.slice a1 len1 cap1) ∧ w'.cell? ⟨w2.heap.size, 0, none⟩ = some (.bool bb) ∧ w'.cell? ⟨w2.heap.size, 1, none⟩ = some (.slice ab lenb capb) ∧ w'.cell? ⟨w5.heap.size, 0, none⟩ = some (.bool bf) ∧ w'.cell? ⟨w5.heap.size, 1, none⟩ = some (.slice af lenf capf)) (by kernel_rfl) ?_ (fun hHeld => ?_)
          · exact (unhide HK) _ HW
          refine wpAnyH_take (i := 0) (v := ?_) rfl (by kernel_rfl) (by kernel_rfl) (by kernel_rfl) (fun _ _ _ h => h) (Or.inl ⟨by rfl, ?_⟩) (by assumption) ?_
          rotate_left
          · (intro w hSw; (try dsimp only at hSw); go_simp; try with_reducible rfl)
          simp only [Act.put, List.getElem_toArray, List.getElem_cons_zero, List.setIfInBounds_toArray, List.set_cons_zero, List.set_cons_succ]
          refine wpAnyH_take (i := 1) (v := ?_) rfl (by kernel_rfl) (by kernel_rfl) (by kernel_rfl) (fun _ _ _ h => h) (Or.inl ⟨by rfl, ?_⟩) (by assumption) ?_
          rotate_left
          · (intro w hSw; (try dsimp only at hSw); go_simp; try with_reducible rfl)
          simp only [Act.put, List.getElem_toArray, List.getElem_cons_succ, List.getElem_cons_zero, List.setIfInBounds_toArray, List.set_cons_zero, List.set_cons_succ]
          refine wpAnyH_ready (rs := [2]) (by kernel_rfl) (by simp) ?_
          refine AllReadyH.cons rfl (fun K hK => ?_) AllReadyH.nil
          go_simp
          refine (rofK k _ (unhide K1) (unhide K2)).mono ?_
          rintro e w9 ⟨bt1, at1, lent1, capt1, rfl, ht1, hb9⟩
          replace HW := Below.step HW hb9
          clear hb9
          refine hK.out _ _ ?_ (fun hHeld => ?_)
          · exact (unhide HK) _ HW
          clear hK K
          try simp only [Act.put, List.getElem_toArray, List.getElem_cons_succ, List.getElem_cons_zero, List.setIfInBounds_toArray, List.set_cons_zero, List.set_cons_succ]
          refine wpAnyH_ready (rs := [3]) (by kernel_rfl) (by simp) ?_
          refine AllReadyH.cons rfl (fun K hK => ?_) AllReadyH.nil
          go_simp
          refine (rsameK bb ab lenb capb k 2 bt1 at1 lent1 capt1 k 2 _ (hbF.later HW) ht1 rfl).mono ?_
          rintro e w9 ⟨rfl, hb9⟩
          replace HW := Below.step HW hb9
          clear hb9 ht1
          refine hK.out _ _ ?_ (fun hHeld => ?_)
          · exact (unhide HK) _ HW
          clear hK K
          try simp only [Act.put, List.getElem_toArray, List.getElem_cons_succ, List.getElem_cons_zero, List.setIfInBounds_toArray, List.set_cons_zero, List.set_cons_succ]
          refine wpAnyH_take (i := 4) (v := ?_) rfl (by kernel_rfl) (by kernel_rfl) (by kernel_rfl) (fun _ _ _ h => h) (Or.inl ⟨by rfl, ?_⟩) (by assumption) ?_
          rotate_left
          · (intro w hSw; (try dsimp only at hSw); go_simp; try with_reducible rfl)
          simp only [Act.put, List.getElem_toArray, List.getElem_cons_succ, List.getElem_cons_zero, List.setIfInBounds_toArray, List.set_cons_zero, List.set_cons_succ]
          refine wpAnyH_take (i := 5) (v := ?_) rfl (by kernel_rfl) (by kernel_rfl) (by kernel_rfl) (fun _ _ _ h => h) (Or.inl ⟨by rfl, ?_⟩) (by assumption) ?_
          rotate_left
          · (intro w hSw; (try dsimp only at hSw); go_simp; try with_reducible rfl)
          simp only [Act.put, List.getElem_toArray, List.getElem_cons_succ, List.getElem_cons_zero, List.setIfInBounds_toArray, List.set_cons_zero, List.set_cons_succ]
          refine wpAnyH_take (i := 6) (v := ?_) rfl (by kernel_rfl) (by kernel_rfl) (by kernel_rfl) (fun _ _ _ h => h) (Or.inl ⟨by rfl, ?_⟩) (by assumption) ?_
          rotate_left
          · (intro w hSw; (try dsimp only at hSw); go_simp; try with_reducible rfl)
          simp only [Act.put, List.getElem_toArray, List.getElem_cons_succ, List.getElem_cons_zero, List.setIfInBounds_toArray, List.set_cons_zero, List.set_cons_succ]
          refine wpAnyH_take (i := 7) (v := ?_) rfl (by kernel_rfl) (by kernel_rfl) (by kernel_rfl) (fun _ _ _ h => h) (Or.inl ⟨by rfl, ?_⟩) (by assumption) ?_
          rotate_left
          · (intro w hSw; (try dsimp only at hSw); go_simp; try with_reducible rfl)
          simp only [Act.put, List.getElem_toArray, List.getElem_cons_succ, List.getElem_cons_zero, List.setIfInBounds_toArray, List.set_cons_zero, List.set_cons_succ]
          refine wpAnyH_take (i := 8) (v := ?_) rfl (by kernel_rfl) (by kernel_rfl) (by kernel_rfl) (fun _ _ _ h => h) (Or.inl ⟨by rfl, ?_⟩) (by assumption) ?_
          rotate_left
          · (intro w hSw; (try dsimp only at hSw); go_simp; try with_reducible rfl)
          simp only [Act.put, List.getElem_toArray, List.getElem_cons_succ, List.getElem_cons_zero, List.setIfInBounds_toArray, List.set_cons_zero, List.set_cons_succ]
          refine wpAnyH_take (i := 9) (v := ?_) rfl (by kernel_rfl) (by kernel_rfl) (by kernel_rfl) (fun _ _ _ h => h) (Or.inl ⟨by rfl, ?_⟩) (by assumption) ?_
          rotate_left
          · (intro w hSw; (try dsimp only at hSw); go_simp; try with_reducible rfl)
          simp only [Act.put, List.getElem_toArray, List.getElem_cons_succ, List.getElem_cons_zero, List.setIfInBounds_toArray, List.set_cons_zero, List.set_cons_succ]
          refine wpAnyH_take (i := 10) (v := ?_) rfl (by kernel_rfl) (by kernel_rfl) (by kernel_rfl) (fun _ _ _ h => h) (Or.inl ⟨by rfl, ?_⟩) (by assumption) ?_
          rotate_left
          · (intro w hSw; (try dsimp only at hSw); go_simp; try with_reducible rfl)
          simp only [Act.put, List.getElem_toArray, List.getElem_cons_succ, List.getElem_cons_zero, List.setIfInBounds_toArray, List.set_cons_zero, List.set_cons_succ]
          refine wpAnyH_take (i := 11) (v := ?_) rfl (by kernel_rfl) (by kernel_rfl) (by kernel_rfl) (fun _ _ _ h => h) (Or.inl ⟨by rfl, ?_⟩) (by assumption) ?_
          rotate_left
          · (intro w hSw; (try dsimp only at hSw); go_simp; try with_reducible rfl)
          simp only [Act.put, List.getElem_toArray, List.getElem_cons_succ, List.getElem_cons_zero, List.setIfInBounds_toArray, List.set_cons_zero, List.set_cons_succ]
          refine wpAnyH_take (i := 12) (v := ?_) rfl (by kernel_rfl) (by kernel_rfl) (by kernel_rfl) (fun _ _ _ h => h) (Or.inl ⟨by rfl, ?_⟩) (by assumption) ?_
          rotate_left
          · (intro w hSw; (try dsimp only at hSw); go_simp; try with_reducible rfl)
          simp only [Act.put, List.getElem_toArray, List.getElem_cons_succ, List.getElem_cons_zero, List.setIfInBounds_toArray, List.set_cons_zero, List.set_cons_succ]
          refine wpAnyH_take (i := 13) (v := ?_) rfl (by kernel_rfl) (by kernel_rfl) (by kernel_rfl) (fun _ _ _ h => h) (Or.inl ⟨by rfl, ?_⟩) (by assumption) ?_
          rotate_left
          · (intro w hSw; (try dsimp only at hSw); go_simp; try with_reducible rfl)
          simp only [Act.put, List.getElem_toArray, List.getElem_cons_succ, List.getElem_cons_zero, List.setIfInBounds_toArray, List.set_cons_zero, List.set_cons_succ]
          refine wpAnyH_take (i := 14) (v := ?_) rfl (by kernel_rfl) (by kernel_rfl) (by kernel_rfl) (fun _ _ _ h => h) (Or.inl ⟨by rfl, ?_⟩) (by assumption) ?_
          rotate_left
          · (intro w hSw; (try dsimp only at hSw); go_simp; try with_reducible rfl)
          simp only [Act.put, List.getElem_toArray, List.getElem_cons_succ, List.getElem_cons_zero, List.setIfInBounds_toArray, List.set_cons_zero, List.set_cons_succ]
          refine wpAnyH_take (i := 15) (v := ?_) rfl (by kernel_rfl) (by kernel_rfl) (by kernel_rfl) (fun _ _ _ h => h) (Or.inl ⟨by rfl, ?_⟩) (by assumption) ?_
          rotate_left
          · (intro w hSw; (try dsimp only at hSw); go_simp; try with_reducible rfl)
          simp only [Act.put, List.getElem_toArray, List.getElem_cons_succ, List.getElem_cons_zero, List.setIfInBounds_toArray, List.set_cons_zero, List.set_cons_succ]
          refine wpAnyH_take (i := 16) (v := ?_) rfl (by kernel_rfl) (by kernel_rfl) (by kernel_rfl) (fun _ _ _ h => h) (Or.inl ⟨by rfl, ?_⟩) (by assumption) ?_
          rotate_left
          · (intro w hSw; (try dsimp only at hSw); go_simp; try with_reducible rfl)
          simp only [Act.put, List.getElem_toArray, List.getElem_cons_succ, List.getElem_cons_zero, List.setIfInBounds_toArray, List.set_cons_zero, List.set_cons_succ]
          refine wpAnyH_take (i := 17) (v := ?_) rfl (by kernel_rfl) (by kernel_rfl) (by kernel_rfl) (fun _ _ _ h => h) (Or.inl ⟨by rfl, ?_⟩) (by assumption) ?_
          rotate_left
          · (intro w hSw; (try dsimp only at hSw); go_simp; try with_reducible rfl)
          simp only [Act.put, List.getElem_toArray, List.getElem_cons_succ, List.getElem_cons_zero, List.setIfInBounds_toArray, List.set_cons_zero, List.set_cons_succ]
          refine wpAnyH_take (i := 18) (v := ?_) rfl (by kernel_rfl) (by kernel_rfl) (by kernel_rfl) (fun _ _ _ h => h) (Or.inl ⟨by rfl, ?_⟩) (by assumption) ?_
          rotate_left
          · (intro w hSw; (try dsimp only at hSw); go_simp; try with_reducible rfl)
          simp only [Act.put, List.getElem_toArray, List.getElem_cons_succ, List.getElem_cons_zero, List.setIfInBounds_toArray, List.set_cons_zero, List.set_cons_succ]
          refine wpAnyH_take (i := 19) (v := ?_) rfl (by kernel_rfl) (by kernel_rfl) (by kernel_rfl) (fun _ _ _ h => h) (Or.inl ⟨by rfl, ?_⟩) (by assumption) ?_
          rotate_left
          · (intro w hSw; (try dsimp only at hSw); go_simp; try with_reducible rfl)
          simp only [Act.put, List.getElem_toArray, List.getElem_cons_succ, List.getElem_cons_zero, List.setIfInBounds_toArray, List.set_cons_zero, List.set_cons_succ]
          refine wpAnyH_take (i := 20) (v := ?_) rfl (by kernel_rfl) (by kernel_rfl) (by kernel_rfl) (fun _ _ _ h => h) (Or.inl ⟨by rfl, ?_⟩) (by assumption) ?_
          rotate_left
          · (intro w hSw; (try dsimp only at hSw); go_simp; try with_reducible rfl)
          simp only [Act.put, List.getElem_toArray, List.getElem_cons_succ, List.getElem_cons_zero, List.setIfInBounds_toArray, List.set_cons_zero, List.set_cons_succ]
          refine wpAnyH_take (i := 21) (v := ?_) rfl (by kernel_rfl) (by kernel_rfl) (by kernel_rfl) (fun _ _ _ h => h) (Or.inl ⟨by rfl, ?_⟩) (by assumption) ?_
          rotate_left
          · (intro w hSw; (try dsimp only at hSw); go_simp; try with_reducible rfl)
          simp only [Act.put, List.getElem_toArray, List.getElem_cons_succ, List.getElem_cons_zero, List.setIfInBounds_toArray, List.set_cons_zero, List.set_cons_succ]
          refine wpAnyH_take (i := 22) (v := undef) rfl (by kernel_rfl) (by kernel_rfl) (by kernel_rfl) (fun _ _ _ h => h) (Or.inr ⟨by rfl, rfl⟩) (by assumption) ?_
          simp only [Act.put, List.getElem_toArray, List.getElem_cons_succ, List.getElem_cons_zero, List.setIfInBounds_toArray, List.set_cons_zero, List.set_cons_succ]
          refine wpAnyH_take (i := 24) (v := undef) rfl (by kernel_rfl) (by kernel_rfl) (by kernel_rfl) (fun _ _ _ h => h) (Or.inr ⟨by rfl, rfl⟩) (by assumption) ?_
          simp only [Act.put, List.getElem_toArray, List.getElem_cons_succ, List.getElem_cons_zero, List.setIfInBounds_toArray, List.set_cons_zero, List.set_cons_succ]
          refine wpAnyH_ready (rs := [23]) (by kernel_rfl) (by simp) ?_
          refine AllReadyH.cons rfl (fun K hK => ?_) AllReadyH.nil
          go_simp
          refine hK.out _ _ ?_ (fun hHeld => ?_)
          · exact (unhide HK) _ HW
          clear hK K
          try simp only [Act.put, List.getElem_toArray, List.getElem_cons_succ, List.getElem_cons_zero, List.setIfInBounds_toArray, List.set_cons_zero, List.set_cons_succ]
          refine wpAnyH_ready (rs := [25]) (by kernel_rfl) (by simp) ?_
          refine AllReadyH.cons rfl (fun K hK => ?_) AllReadyH.nil
          go_simp
          refine hK.out _ _ ?_ (fun hHeld => ?_)
          · exact (unhide HK) _ HW
          clear hK K
          try simp only [Act.put, List.getElem_toArray, List.getElem_cons_succ, List.getElem_cons_zero, List.setIfInBounds_toArray, List.set_cons_zero, List.set_cons_succ]
          refine wpAnyH_take (i := 26) (v := undef) rfl (by kernel_rfl) (by kernel_rfl) (by kernel_rfl) (fun _ _ _ h => h) (Or.inr ⟨by rfl, rfl⟩) (by assumption) ?_
          simp only [Act.put, List.getElem_toArray, List.getElem_cons_succ, List.getElem_cons_zero, List.setIfInBounds_toArray, List.set_cons_zero, List.set_cons_succ]
          refine wpAnyH_take (i := 27) (v := ?_) rfl (by kernel_rfl) (by kernel_rfl) (by kernel_rfl) (fun _ _ _ h => h) (Or.inl ⟨by rfl, ?_⟩) (by assumption) ?_
          rotate_left
          · (intro w hSw; (try dsimp only at hSw); go_simp; try with_reducible rfl)
          simp only [Act.put, List.getElem_toArray, List.getElem_cons_succ, List.getElem_cons_zero, List.setIfInBounds_toArray, List.set_cons_zero, List.set_cons_succ]
          refine wpAnyH_take (i := 28) (v := ?_) rfl (by kernel_rfl) (by kernel_rfl) (by kernel_rfl) (fun _ _ _ h => h) (Or.inl ⟨by rfl, ?_⟩) (by assumption) ?_
          rotate_left
          · (intro w hSw; (try dsimp only at hSw); go_simp; try with_reducible rfl)
          simp only [Act.put, List.getElem_toArray, List.getElem_cons_succ, List.getElem_cons_zero, List.setIfInBounds_toArray, List.set_cons_zero, List.set_cons_succ]
          refine wpAnyH_take (i := 29) (v := ?_) rfl (by kernel_rfl) (by kernel_rfl) (by kernel_rfl) (fun _ _ _ h => h) (Or.inl ⟨by rfl, ?_⟩) (by assumption) ?_
          rotate_left
          · (intro w hSw; (try dsimp only at hSw); go_simp; try with_reducible rfl)
          simp only [Act.put, List.getElem_toArray, List.getElem_cons_succ, List.getElem_cons_zero, List.setIfInBounds_toArray, List.set_cons_zero, List.set_cons_succ]
          refine wpAnyH_take (i := 30) (v := ?_) rfl (by kernel_rfl) (by kernel_rfl) (by kernel_rfl) (fun _ _ _ h => h) (Or.inl ⟨by rfl, ?_⟩) (by assumption) ?_
          rotate_left
          · (intro w hSw; (try dsimp only at hSw); go_simp; try with_reducible rfl)
          simp only [Act.put, List.getElem_toArray, List.getElem_cons_succ, List.getElem_cons_zero, List.setIfInBounds_toArray, List.set_cons_zero, List.set_cons_succ]
          refine wpAnyH_take (i := 31) (v := ?_) rfl (by kernel_rfl) (by kernel_rfl) (by kernel_rfl) (fun _ _ _ h => h) (Or.inl ⟨by rfl, ?_⟩) (by assumption) ?_
          rotate_left
          · (intro w hSw; (try dsimp only at hSw); go_simp; try with_reducible rfl)
          simp only [Act.put, List.getElem_toArray, List.getElem_cons_succ, List.getElem_cons_zero, List.setIfInBounds_toArray, List.set_cons_zero, List.set_cons_succ]
          refine wpAnyH_take (i := 32) (v := ?_) rfl (by kernel_rfl) (by kernel_rfl) (by kernel_rfl) (fun _ _ _ h => h) (Or.inl ⟨by rfl, ?_⟩) (by assumption) ?_
          rotate_left
          · (intro w hSw; (try dsimp only at hSw); go_simp; try with_reducible rfl)
          simp only [Act.put, List.getElem_toArray, List.getElem_cons_succ, List.getElem_cons_zero, List.setIfInBounds_toArray, List.set_cons_zero, List.set_cons_succ]
          refine wpAnyH_take (i := 33) (v := ?_) rfl (by kernel_rfl) (by kernel_rfl) (by kernel_rfl) (fun _ _ _ h => h) (Or.inl ⟨by rfl, ?_⟩) (by assumption) ?_
          rotate_left
          · (intro w hSw; (try dsimp only at hSw); go_simp; try with_reducible rfl)
          simp only [Act.put, List.getElem_toArray, List.getElem_cons_succ, List.getElem_cons_zero, List.setIfInBounds_toArray, List.set_cons_zero, List.set_cons_succ]
          refine wpAnyH_take (i := 34) (v := ?_) rfl (by kernel_rfl) (by kernel_rfl) (by kernel_rfl) (fun _ _ _ h => h) (Or.inl ⟨by rfl, ?_⟩) (by assumption) ?_
          rotate_left
          · (intro w hSw; (try dsimp only at hSw); go_simp; try with_reducible rfl)
          simp only [Act.put, List.getElem_toArray, List.getElem_cons_succ, List.getElem_cons_zero, List.setIfInBounds_toArray, List.set_cons_zero, List.set_cons_succ]
          refine wpAnyH_take (i := 35) (v := ?_) rfl (by kernel_rfl) (by kernel_rfl) (by kernel_rfl) (fun _ _ _ h => h) (Or.inl ⟨by rfl, ?_⟩) (by assumption) ?_
          rotate_left
          · (intro w hSw; (try dsimp only at hSw); go_simp; try with_reducible rfl)
          simp only [Act.put, List.getElem_toArray, List.getElem_cons_succ, List.getElem_cons_zero, List.setIfInBounds_toArray, List.set_cons_zero, List.set_cons_succ]
          refine wpAnyH_take (i := 36) (v := ?_) rfl (by kernel_rfl) (by kernel_rfl) (by kernel_rfl) (fun _ _ _ h => h) (Or.inl ⟨by rfl, ?_⟩) (by assumption) ?_
          rotate_left
          · (intro w hSw; (try dsimp only at hSw); go_simp; try with_reducible rfl)
          simp only [Act.put, List.getElem_toArray, List.getElem_cons_succ, List.getElem_cons_zero, List.setIfInBounds_toArray, List.set_cons_zero, List.set_cons_succ]
          refine wpAnyH_done (by kernel_rfl) ?_ _
          go_wp2_with fail
          go_meet
          case rel => exact ⟨rfl, HW⟩
        · obtain rfl : m = x := unhide HM
          have hr : -9223372036854775808 ≤ m ∧ m ≤ 9223372036854775807 := of_decide_eq_true (unhide HQ).symm
          have X1 := hide hr.1
          have X2 := hide hr.2
          clear hr
          refine wp_region_held_drew (S := fun w' => w'.cell? ⟨w.heap.size, 0, none⟩ = some (.bool b1) ∧ w'.cell? ⟨w.heap.size, 1, none⟩ = some (.slice a1 len1 cap1) ∧ w'.cell? ⟨w2.heap.size, 0, none⟩ = some (.bool bb) ∧ w'.cell? ⟨w2.heap.size, 1, none⟩ = some (.slice ab lenb capb) ∧ w'.cell? ⟨w5.heap.size, 0, none⟩ = some (.bool bf) ∧ w'.cell? ⟨w5.heap.size, 1, none⟩ = some (.slice af lenf capf)) (by kernel_rfl) ?_ (fun hHeld => ?_)
          · exact (unhide HK) _ HW
          refine wpAnyH_take (i := 0) (v := ?_) rfl (by kernel_rfl) (by kernel_rfl) (by kernel_rfl) (fun _ _ _ h => h) (Or.inl ⟨by rfl, ?_⟩) (by assumption) ?_
          rotate_left
          · (intro w hSw; (try dsimp only at hSw); go_simp; try with_reducible rfl)
          simp only [Act.put, List.getElem_toArray, List.getElem_cons_zero, List.setIfInBounds_toArray, List.set_cons_zero, List.set_cons_succ]
          refine wpAnyH_take (i := 1) (v := ?_) rfl (by kernel_rfl) (by kernel_rfl) (by kernel_rfl) (fun _ _ _ h => h) (Or.inl ⟨by rfl, ?_⟩) (by assumption) ?_
          rotate_left
          · (intro w hSw; (try dsimp only at hSw); go_simp; try with_reducible rfl)
          simp only [Act.put, List.getElem_toArray, List.getElem_cons_succ, List.getElem_cons_zero, List.setIfInBounds_toArray, List.set_cons_zero, List.set_cons_succ]
          refine wpAnyH_ready (rs := [2]) (by kernel_rfl) (by simp) ?_
          refine AllReadyH.cons rfl (fun K hK => ?_) AllReadyH.nil
          go_simp
          refine (rofK k _ (unhide K1) (unhide K2)).mono ?_
          rintro e w9 ⟨bt1, at1, lent1, capt1, rfl, ht1, hb9⟩
          replace HW := Below.step HW hb9
          clear hb9
          refine hK.out _ _ ?_ (fun hHeld => ?_)
          · exact (unhide HK) _ HW
          clear hK K
          try simp only [Act.put, List.getElem_toArray, List.getElem_cons_succ, List.getElem_cons_zero, List.setIfInBounds_toArray, List.set_cons_zero, List.set_cons_succ]
          refine wpAnyH_ready (rs := [3]) (by kernel_rfl) (by simp) ?_
          refine AllReadyH.cons rfl (fun K hK => ?_) AllReadyH.nil
          go_simp
          refine (rsameK bb ab lenb capb k 2 bt1 at1 lent1 capt1 k 2 _ (hbF.later HW) ht1 rfl).mono ?_
          rintro e w9 ⟨rfl, hb9⟩
          replace HW := Below.step HW hb9
          clear hb9 ht1
          refine hK.out _ _ ?_ (fun hHeld => ?_)
          · exact (unhide HK) _ HW
          clear hK K
          try simp only [Act.put, List.getElem_toArray, List.getElem_cons_succ, List.getElem_cons_zero, List.setIfInBounds_toArray, List.set_cons_zero, List.set_cons_succ]
          refine wpAnyH_take (i := 4) (v := ?_) rfl (by kernel_rfl) (by kernel_rfl) (by kernel_rfl) (fun _ _ _ h => h) (Or.inl ⟨by rfl, ?_⟩) (by assumption) ?_
          rotate_left
          · (intro w hSw; (try dsimp only at hSw); go_simp; try with_reducible rfl)
          simp only [Act.put, List.getElem_toArray, List.getElem_cons_succ, List.getElem_cons_zero, List.setIfInBounds_toArray, List.set_cons_zero, List.set_cons_succ]
          refine wpAnyH_take (i := 5) (v := ?_) rfl (by kernel_rfl) (by kernel_rfl) (by kernel_rfl) (fun _ _ _ h => h) (Or.inl ⟨by rfl, ?_⟩) (by assumption) ?_
          rotate_left
          · (intro w hSw; (try dsimp only at hSw); go_simp; try with_reducible rfl)
          simp only [Act.put, List.getElem_toArray, List.getElem_cons_succ, List.getElem_cons_zero, List.setIfInBounds_toArray, List.set_cons_zero, List.set_cons_succ]
          refine wpAnyH_take (i := 6) (v := ?_) rfl (by kernel_rfl) (by kernel_rfl) (by kernel_rfl) (fun _ _ _ h => h) (Or.inl ⟨by rfl, ?_⟩) (by assumption) ?_
          rotate_left
          · (intro w hSw; (try dsimp only at hSw); go_simp; try with_reducible rfl)
          simp only [Act.put, List.getElem_toArray, List.getElem_cons_succ, List.getElem_cons_zero, List.setIfInBounds_toArray, List.set_cons_zero, List.set_cons_succ]
          refine wpAnyH_take (i := 7) (v := ?_) rfl (by kernel_rfl) (by kernel_rfl) (by kernel_rfl) (fun _ _ _ h => h) (Or.inl ⟨by rfl, ?_⟩) (by assumption) ?_
          rotate_left
          · (intro w hSw; (try dsimp only at hSw); go_simp; try with_reducible rfl)
          simp only [Act.put, List.getElem_toArray, List.getElem_cons_succ, List.getElem_cons_zero, List.setIfInBounds_toArray, List.set_cons_zero, List.set_cons_succ]
          refine wpAnyH_take (i := 8) (v := ?_) rfl (by kernel_rfl) (by kernel_rfl) (by kernel_rfl) (fun _ _ _ h => h) (Or.inl ⟨by rfl, ?_⟩) (by assumption) ?_
          rotate_left
          · (intro w hSw; (try dsimp only at hSw); go_simp; try with_reducible rfl)
          simp only [Act.put, List.getElem_toArray, List.getElem_cons_succ, List.getElem_cons_zero, List.setIfInBounds_toArray, List.set_cons_zero, List.set_cons_succ]
          refine wpAnyH_take (i := 9) (v := ?_) rfl (by kernel_rfl) (by kernel_rfl) (by kernel_rfl) (fun _ _ _ h => h) (Or.inl ⟨by rfl, ?_⟩) (by assumption) ?_
          rotate_left
          · (intro w hSw; (try dsimp only at hSw); go_simp; try with_reducible rfl)
          simp only [Act.put, List.getElem_toArray, List.getElem_cons_succ, List.getElem_cons_zero, List.setIfInBounds_toArray, List.set_cons_zero, List.set_cons_succ]
          refine wpAnyH_take (i := 10) (v := ?_) rfl (by kernel_rfl) (by kernel_rfl) (by kernel_rfl) (fun _ _ _ h => h) (Or.inl ⟨by rfl, ?_⟩) (by assumption) ?_
          rotate_left
          · (intro w hSw; (try dsimp only at hSw); go_simp; try with_reducible rfl)
          simp only [Act.put, List.getElem_toArray, List.getElem_cons_succ, List.getElem_cons_zero, List.setIfInBounds_toArray, List.set_cons_zero, List.set_cons_succ]
          refine wpAnyH_take (i := 11) (v := ?_) rfl (by kernel_rfl) (by kernel_rfl) (by kernel_rfl) (fun _ _ _ h => h) (Or.inl ⟨by rfl, ?_⟩) (by assumption) ?_
          rotate_left
          · (intro w hSw; (try dsimp only at hSw); go_simp; try with_reducible rfl)
          simp only [Act.put, List.getElem_toArray, List.getElem_cons_succ, List.getElem_cons_zero, List.setIfInBounds_toArray, List.set_cons_zero, List.set_cons_succ]
          refine wpAnyH_take (i := 12) (v := ?_) rfl (by kernel_rfl) (by kernel_rfl) (by kernel_rfl) (fun _ _ _ h => h) (Or.inl ⟨by rfl, ?_⟩) (by assumption) ?_
          rotate_left
          · (intro w hSw; (try dsimp only at hSw); go_simp; try with_reducible rfl)
          simp only [Act.put, List.getElem_toArray, List.getElem_cons_succ, List.getElem_cons_zero, List.setIfInBounds_toArray, List.set_cons_zero, List.set_cons_succ]
          refine wpAnyH_take (i := 13) (v := ?_) rfl (by kernel_rfl) (by kernel_rfl) (by kernel_rfl) (fun _ _ _ h => h) (Or.inl ⟨by rfl, ?_⟩) (by assumption) ?_
          rotate_left
          · (intro w hSw; (try dsimp only at hSw); go_simp; try with_reducible rfl)
          simp only [Act.put, List.getElem_toArray, List.getElem_cons_succ, List.getElem_cons_zero, List.setIfInBounds_toArray, List.set_cons_zero, List.set_cons_succ]
          refine wpAnyH_take (i := 14) (v := ?_) rfl (by kernel_rfl) (by kernel_rfl) (by kernel_rfl) (fun _ _ _ h => h) (Or.inl ⟨by rfl, ?_⟩) (by assumption) ?_
          rotate_left
          · (intro w hSw; (try dsimp only at hSw); go_simp; try with_reducible rfl)
          simp only [Act.put, List.getElem_toArray, List.getElem_cons_succ, List.getElem_cons_zero, List.setIfInBounds_toArray, List.set_cons_zero, List.set_cons_succ]
          refine wpAnyH_take (i := 15) (v := ?_) rfl (by kernel_rfl) (by kernel_rfl) (by kernel_rfl) (fun _ _ _ h => h) (Or.inl ⟨by rfl, ?_⟩) (by assumption) ?_
          rotate_left
          · (intro w hSw; (try dsimp only at hSw); go_simp; try with_reducible rfl)
          simp only [Act.put, List.getElem_toArray, List.getElem_cons_succ, List.getElem_cons_zero, List.setIfInBounds_toArray, List.set_cons_zero, List.set_cons_succ]
          refine wpAnyH_take (i := 16) (v := ?_) rfl (by kernel_rfl) (by kernel_rfl) (by kernel_rfl) (fun _ _ _ h => h) (Or.inl ⟨by rfl, ?_⟩) (by assumption) ?_
          rotate_left
          · (intro w hSw; (try dsimp only at hSw); go_simp; try with_reducible rfl)
          simp only [Act.put, List.getElem_toArray, List.getElem_cons_succ, List.getElem_cons_zero, List.setIfInBounds_toArray, List.set_cons_zero, List.set_cons_succ]
          refine wpAnyH_take (i := 17) (v := ?_) rfl (by kernel_rfl) (by kernel_rfl) (by kernel_rfl) (fun _ _ _ h => h) (Or.inl ⟨by rfl, ?_⟩) (by assumption) ?_
          rotate_left
          · (intro w hSw; (try dsimp only at hSw); go_simp; try with_reducible rfl)
          simp only [Act.put, List.getElem_toArray, List.getElem_cons_succ, List.getElem_cons_zero, List.setIfInBounds_toArray, List.set_cons_zero, List.set_cons_succ]
          refine wpAnyH_take (i := 18) (v := ?_) rfl (by kernel_rfl) (by kernel_rfl) (by kernel_rfl) (fun _ _ _ h => h) (Or.inl ⟨by rfl, ?_⟩) (by assumption) ?_
          rotate_left
          · (intro w hSw; (try dsimp only at hSw); go_simp; try with_reducible rfl)
          simp only [Act.put, List.getElem_toArray, List.getElem_cons_succ, List.getElem_cons_zero, List.setIfInBounds_toArray, List.set_cons_zero, List.set_cons_succ]
          refine wpAnyH_take (i := 19) (v := ?_) rfl (by kernel_rfl) (by kernel_rfl) (by kernel_rfl) (fun _ _ _ h => h) (Or.inl ⟨by rfl, ?_⟩) (by assumption) ?_
          rotate_left
          · (intro w hSw; (try dsimp only at hSw); go_simp; try with_reducible rfl)
          simp only [Act.put, List.getElem_toArray, List.getElem_cons_succ, List.getElem_cons_zero, List.setIfInBounds_toArray, List.set_cons_zero, List.set_cons_succ]
          refine wpAnyH_take (i := 20) (v := ?_) rfl (by kernel_rfl) (by kernel_rfl) (by kernel_rfl) (fun _ _ _ h => h) (Or.inl ⟨by rfl, ?_⟩) (by assumption) ?_
          rotate_left
          · (intro w hSw; (try dsimp only at hSw); go_simp; try with_reducible rfl)
          simp only [Act.put, List.getElem_toArray, List.getElem_cons_succ, List.getElem_cons_zero, List.setIfInBounds_toArray, List.set_cons_zero, List.set_cons_succ]
          refine wpAnyH_take (i := 21) (v := ?_) rfl (by kernel_rfl) (by kernel_rfl) (by kernel_rfl) (fun _ _ _ h => h) (Or.inl ⟨by rfl, ?_⟩) (by assumption) ?_
          rotate_left
          · (intro w hSw; (try dsimp only at hSw); go_simp; try with_reducible rfl)
          simp only [Act.put, List.getElem_toArray, List.getElem_cons_succ, List.getElem_cons_zero, List.setIfInBounds_toArray, List.set_cons_zero, List.set_cons_succ]
          refine wpAnyH_take (i := 22) (v := ?_) rfl (by kernel_rfl) (by kernel_rfl) (by kernel_rfl) (fun _ _ _ h => h) (Or.inl ⟨by rfl, ?_⟩) (by assumption) ?_
          rotate_left
          · (intro w hSw; (try dsimp only at hSw); go_simp; try with_reducible rfl)
          simp only [Act.put, List.getElem_toArray, List.getElem_cons_succ, List.getElem_cons_zero, List.setIfInBounds_toArray, List.set_cons_zero, List.set_cons_succ]
          refine wpAnyH_take (i := 24) (v := ?_) rfl (by kernel_rfl) (by kernel_rfl) (by kernel_rfl) (fun _ _ _ h => h) (Or.inl ⟨by rfl, ?_⟩) (by assumption) ?_
          rotate_left
          · (intro w hSw; (try dsimp only at hSw); go_simp; try with_reducible rfl)
          simp only [Act.put, List.getElem_toArray, List.getElem_cons_succ, List.getElem_cons_zero, List.setIfInBounds_toArray, List.set_cons_zero, List.set_cons_succ]
          refine wpAnyH_ready (rs := [23]) (by kernel_rfl) (by simp) ?_
          refine AllReadyH.cons rfl (fun K hK => ?_) AllReadyH.nil
          go_simp
          refine (rofK m _ (unhide X1) (unhide X2)).mono ?_
          rintro e w9 ⟨bt2, at2, lent2, capt2, rfl, ht2, hb9⟩
          replace HW := Below.step HW hb9
          clear hb9
          refine hK.out _ _ ?_ (fun hHeld => ?_)
          · exact (unhide HK) _ HW
          clear hK K
          try simp only [Act.put, List.getElem_toArray, List.getElem_cons_succ, List.getElem_cons_zero, List.setIfInBounds_toArray, List.set_cons_zero, List.set_cons_succ]
          refine wpAnyH_ready (rs := [25]) (by kernel_rfl) (by simp) ?_
          refine AllReadyH.cons rfl (fun K hK => ?_) AllReadyH.nil
          go_simp
          refine (rsameK bt2 at2 lent2 capt2 m 2 bf af lenf capf m 30 _ ht2 (hfF.later HW) rfl).mono ?_
          rintro e w9 ⟨rfl, hb9⟩
          replace HW := Below.step HW hb9
          clear hb9 ht2
          refine hK.out _ _ ?_ (fun hHeld => ?_)
          · exact (unhide HK) _ HW
          clear hK K
          try simp only [Act.put, List.getElem_toArray, List.getElem_cons_succ, List.getElem_cons_zero, List.setIfInBounds_toArray, List.set_cons_zero, List.set_cons_succ]
          refine wpAnyH_take (i := 26) (v := ?_) rfl (by kernel_rfl) (by kernel_rfl) (by kernel_rfl) (fun _ _ _ h => h) (Or.inl ⟨by rfl, ?_⟩) (by assumption) ?_
          rotate_left
          · (intro w hSw; (try dsimp only at hSw); go_simp; try with_reducible rfl)
          simp only [Act.put, List.getElem_toArray, List.getElem_cons_succ, List.getElem_cons_zero, List.setIfInBounds_toArray, List.set_cons_zero, List.set_cons_succ]
          refine wpAnyH_take (i := 27) (v := ?_) rfl (by kernel_rfl) (by kernel_rfl) (by kernel_rfl) (fun _ _ _ h => h) (Or.inl ⟨by rfl, ?_⟩) (by assumption) ?_
          rotate_left
          · (intro w hSw; (try dsimp only at hSw); go_simp; try with_reducible rfl)
          simp only [Act.put, List.getElem_toArray, List.getElem_cons_succ, List.getElem_cons_zero, List.setIfInBounds_toArray, List.set_cons_zero, List.set_cons_succ]
          refine wpAnyH_take (i := 28) (v := ?_) rfl (by kernel_rfl) (by kernel_rfl) (by kernel_rfl) (fun _ _ _ h => h) (Or.inl ⟨by rfl, ?_⟩) (by assumption) ?_
          rotate_left
          · (intro w hSw; (try dsimp only at hSw); go_simp; try with_reducible rfl)
          simp only [Act.put, List.getElem_toArray, List.getElem_cons_succ, List.getElem_cons_zero, List.setIfInBounds_toArray, List.set_cons_zero, List.set_cons_succ]
          refine wpAnyH_take (i := 29) (v := ?_) rfl (by kernel_rfl) (by kernel_rfl) (by kernel_rfl) (fun _ _ _ h => h) (Or.inl ⟨by rfl, ?_⟩) (by assumption) ?_
          rotate_left
          · (intro w hSw; (try dsimp only at hSw); go_simp; try with_reducible rfl)
          simp only [Act.put, List.getElem_toArray, List.getElem_cons_succ, List.getElem_cons_zero, List.setIfInBounds_toArray, List.set_cons_zero, List.set_cons_succ]
          refine wpAnyH_take (i := 30) (v := ?_) rfl (by kernel_rfl) (by kernel_rfl) (by kernel_rfl) (fun _ _ _ h => h) (Or.inl ⟨by rfl, ?_⟩) (by assumption) ?_
          rotate_left
          · (intro w hSw; (try dsimp only at hSw); go_simp; try with_reducible rfl)
          simp only [Act.put, List.getElem_toArray, List.getElem_cons_succ, List.getElem_cons_zero, List.setIfInBounds_toArray, List.set_cons_zero, List.set_cons_succ]
          refine wpAnyH_take (i := 31) (v := ?_) rfl (by kernel_rfl) (by kernel_rfl) (by kernel_rfl) (fun _ _ _ h => h) (Or.inl ⟨by rfl, ?_⟩) (by assumption) ?_
          rotate_left
          · (intro w hSw; (try dsimp only at hSw); go_simp; try with_reducible rfl)
          simp only [Act.put, List.getElem_toArray, List.getElem_cons_succ, List.getElem_cons_zero, List.setIfInBounds_toArray, List.set_cons_zero, List.set_cons_succ]
          refine wpAnyH_take (i := 32) (v := ?_) rfl (by kernel_rfl) (by kernel_rfl) (by kernel_rfl) (fun _ _ _ h => h) (Or.inl ⟨by rfl, ?_⟩) (by assumption) ?_
          rotate_left
          · (intro w hSw; (try dsimp only at hSw); go_simp; try with_reducible rfl)
          simp only [Act.put, List.getElem_toArray, List.getElem_cons_succ, List.getElem_cons_zero, List.setIfInBounds_toArray, List.set_cons_zero, List.set_cons_succ]
          refine wpAnyH_take (i := 33) (v := undef) rfl (by kernel_rfl) (by kernel_rfl) (by kernel_rfl) (fun _ _ _ h => h) (Or.inr ⟨by rfl, rfl⟩) (by assumption) ?_
          simp only [Act.put, List.getElem_toArray, List.getElem_cons_succ, List.getElem_cons_zero, List.setIfInBounds_toArray, List.set_cons_zero, List.set_cons_succ]
          refine wpAnyH_take (i := 34) (v := undef) rfl (by kernel_rfl) (by kernel_rfl) (by kernel_rfl) (fun _ _ _ h => h) (Or.inr ⟨by rfl, rfl⟩) (by assumption) ?_
          simp only [Act.put, List.getElem_toArray, List.getElem_cons_succ, List.getElem_cons_zero, List.setIfInBounds_toArray, List.set_cons_zero, List.set_cons_succ]
          refine wpAnyH_take (i := 35) (v := ?_) rfl (by kernel_rfl) (by kernel_rfl) (by kernel_rfl) (fun _ _ _ h => h) (Or.inl ⟨by rfl, ?_⟩) (by assumption) ?_
          rotate_left
          · (intro w hSw; (try dsimp only at hSw); go_simp; try with_reducible rfl)
          simp only [Act.put, List.getElem_toArray, List.getElem_cons_succ, List.getElem_cons_zero, List.setIfInBounds_toArray, List.set_cons_zero, List.set_cons_succ]
          refine wpAnyH_take (i := 36) (v := ?_) rfl (by kernel_rfl) (by kernel_rfl) (by kernel_rfl) (fun _ _ _ h => h) (Or.inl ⟨by rfl, ?_⟩) (by assumption) ?_
          rotate_left
          · (intro w hSw; (try dsimp only at hSw); go_simp; try with_reducible rfl)
          simp only [Act.put, List.getElem_toArray, List.getElem_cons_succ, List.getElem_cons_zero, List.setIfInBounds_toArray, List.set_cons_zero, List.set_cons_succ]
          refine wpAnyH_done (by kernel_rfl) ?_ _
          go_wp2_with fail
          go_meet
          case rel => exact ⟨rfl, HW⟩
      case rest =>
        obtain ⟨rfl, HW2⟩ := hcut
        clear HW s1 s2 s3 s4 s5 s6
        have HW := HW2
        clear HW2
        obtain ⟨s1, s2, s3, s4, s5, s6⟩ := (unhide HK) _ HW
        obtain ⟨s, hs⟩ : ∃ s, s = x.sign := ⟨_, rfl⟩
        have HS := hide hs
        clear hs
        go_wp2_with fail
        replace HW := HW.drew
        have st0 := True.intro
        go_region_held3 (fun w' => w'.cell? ⟨w.heap.size, 0, none⟩ = some (.bool b1) ∧ w'.cell? ⟨w.heap.size, 1, none⟩ = some (.slice a1 len1 cap1) ∧ w'.cell? ⟨w2.heap.size, 0, none⟩ = some (.bool bb) ∧ w'.cell? ⟨w2.heap.size, 1, none⟩ = some (.slice ab lenb capb) ∧ w'.cell? ⟨w5.heap.size, 0, none⟩ = some (.bool bf) ∧ w'.cell? ⟨w5.heap.size, 1, none⟩ = some (.slice af lenf capf)) (first | exact (unhide HK) _ HW | go_keep) (first | (clear st0; go_at_call 15; with_reducible refine (formK b1 a1 len1 cap1 x 30 _ (h1.later HW)).mono ?_; rintro e w9 ⟨bt1, at1, lent1, capt1, rfl, ht1, hb9⟩; replace HW := Below.step HW hb9; clear hb9; have st1 := True.intro) | (clear st1; go_at_call 13; with_reducible refine (rsameK bt1 at1 lent1 capt1 x 30 bf af lenf capf x 30 _ ht1 (hfF.later HW) rfl).mono ?_; rintro e w9 ⟨rfl, hb9⟩; replace HW := Below.step HW hb9; clear hb9 ht1; have st2 := True.intro) | (clear st2; go_at_call 16; with_reducible refine (signK b1 a1 len1 cap1 x 30 s _ (h1.later HW) (unhide HS)).mono ?_; rintro e w9 ⟨rfl, hb9⟩; replace HW := Below.step HW hb9; clear hb9; have st3 := True.intro) | (clear st3; go_at_call 17; with_reducible refine (rsignK b1 a1 len1 cap1 x 30 s _ (h1.later HW) (unhide HS)).mono ?_; rintro e w9 ⟨rfl, hb9⟩; replace HW := Below.step HW hb9; clear hb9; have st4 := True.intro) | (clear st4; go_at_call 18; with_reducible refine (negK b1 a1 len1 cap1 x 30 _ (h1.later HW)).mono ?_; rintro e w9 ⟨bt2, at2, lent2, capt2, rfl, ht2, hb9⟩; replace HW := Below.step HW hb9; clear hb9; have st5 := True.intro) | (clear st5; go_at_call 19; with_reducible refine (rnegK b1 a1 len1 cap1 x 30 _ (h1.later HW)).mono ?_; rintro e w9 ⟨bt3, at3, lent3, capt3, rfl, ht3, hb9⟩; replace HW := Below.step HW hb9; replace ht2 := ht2.later hb9; clear hb9; have st6 := True.intro) | (clear st6; go_at_call 13; with_reducible refine (rsameK bt2 at2 lent2 capt2 (-x) 30 bt3 at3 lent3 capt3 (-x) 30 _ ht2 ht3 rfl).mono ?_; rintro e w9 ⟨rfl, hb9⟩; replace HW := Below.step HW hb9; clear hb9 ht2 ht3; have st7 := True.intro) | (clear st7; go_at_call 20; with_reducible refine (absK b1 a1 len1 cap1 x 30 _ (h1.later HW)).mono ?_; rintro e w9 ⟨bt4, at4, lent4, capt4, rfl, ht4, hb9⟩; replace HW := Below.step HW hb9; clear hb9; have st8 := True.intro) | (clear st8; go_at_call 21; with_reducible refine (rabsK b1 a1 len1 cap1 x 30 _ (h1.later HW)).mono ?_; rintro e w9 ⟨bt5, at5, lent5, capt5, rfl, ht5, hb9⟩; replace HW := Below.step HW hb9; replace ht4 := ht4.later hb9; clear hb9; have st9 := True.intro) | (clear st9; go_at_call 13; with_reducible refine (rsameK bt4 at4 lent4 capt4 (x.natAbs : Int) 30 bt5 at5 lent5 capt5 (x.natAbs : Int) 30 _ ht4 ht5 rfl).mono ?_; rintro e w9 ⟨rfl, hb9⟩; replace HW := Below.step HW hb9; clear hb9 ht4 ht5; have st10 := True.intro) | (clear st10; go_at_call 9; with_reducible refine (awake4_any _).mono ?_; rintro e w9 ⟨rfl, hb9⟩; replace HW := Below.step HW hb9; clear hb9; have st11 := True.intro))
        go_wp2
        go_ret
        exact ⟨rfl, Below.step (unhide HW0) HW⟩
  · have hf' : b = false := by simpa using hf
    subst hf'
    clear hb hf B0
    go_wp2_with fail
    refine (awake4_any _).mono ?_
    rintro e w2 ⟨rfl, hb2⟩
    have hW := Below.step HW hb2
    go_wp2
    go_ret
    exact ⟨rfl, hW⟩

#print axioms wholeForms_walk
end Go.Proofs.Ytkhcanhdbalihaa
