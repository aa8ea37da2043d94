/-
  What limb.Cmp, whole.Sign, whole.Cmp, vec.at and vec.Cmp tell, and that no draw is taken back ('Up'): what a sort asks of its comparison.
-/
import Derived.Test.YtbdjkbonoofibaaJF
import Derived.Deep.CutRange
namespace Go.Proofs.Ytbdjkbonoofibaa
open Go.RowKit Lb
set_option maxRecDepth 20000

/-- What was there stays, and no draw is taken back. -/
structure Up (w w' : World) : Prop where
  b : Below w.heap.size w w'
  d : w.drawn ≤ w'.drawn
theorem Up.refl (w : World) : Up w w := ⟨Below.refl _ _, Nat.le_refl _⟩
theorem Up.step {w w1 w2 : World} (h : Up w w1) (k : Up w1 w2) : Up w w2 := ⟨Below.step h.b k.b, Nat.le_trans h.d k.d⟩
theorem up_drew {w w1 : World} (h : Up w w1) : Up w w1.drew := ⟨h.b.drew, Nat.le_trans h.d (Nat.le_succ _)⟩
theorem up_drewN {w w1 : World} (h : Up w w1) (n : Nat) : Up w (w1.drewN n) := ⟨below_drewN h.b n, Nat.le_trans h.d (Nat.le_add_right _ _)⟩
theorem up1 (w : World) (o1 : Obj) : Up w (w.alloc o1) := ⟨(Below.refl _ _).alloc (Nat.le_refl _) o1, Nat.le_refl _⟩
theorem up2 (w : World) (o1 o2 : Obj) : Up w ((w.alloc o1).alloc o2) := ⟨below2 w o1 o2, Nat.le_refl _⟩
set_option maxHeartbeats 400000 in
theorem cmp_up (aa : Option Addr) (la ca : Nat) (xs : List Nat) (ab : Option Addr) (lb cb : Nat) (ys : List Nat) (w : World) (ha : RowAt w aa la ca xs) (hb : RowAt w ab lb cb ys) :
    Calls Try.prog 81 #[.slice aa la ca, .slice ab lb cb] w fun e w' => e = .returned (.int .i64 (cmpI (val xs) (val ys))) ∧ Up w w' := by
  go_enter Try.func81, Try.ntmps81
  go_wp2_with fail
  refine (cut_any _ _ _ xs _ ha).mono ?_
  rintro e w' ⟨⟨a1, l1, c1, rfl, ⟨xs1, hx1, nx1, vx1⟩, hl1⟩, rfl⟩
  go_wp2_with fail
  refine (cut_any _ _ _ ys _ hb).mono ?_
  rintro e w' ⟨⟨a2, l2, c2, rfl, ⟨ys1, hy1, ny1, vy1⟩, hl2⟩, rfl⟩
  have Vx := hide vx1
  have Vy := hide vy1
  have hm1 := hx1.cap_max
  have hm2 := hy1.cap_max
  have hc1 := hx1.cap_le
  have hc2 := hy1.cap_le
  have L1 := hide hx1.len_eq
  have L2 := hide hy1.len_eq
  unfold maxLen at hm1 hm2
  clear vx1 vy1 hl1 hl2 ha hb
  rcases Nat.lt_trichotomy l1 l2 with hlt | heq | hgt
  · go_wp2_with (go_at_call 95; refine (side_any _ _).mono ?_; rintro e w' ⟨rfl, rfl⟩)
    go_ret
    have : val xs1 < val ys1 := norm_lt_len hx1.small ny1 (by rw [unhide L1, unhide L2]; exact hlt)
    rw [unhide Vx, unhide Vy] at this
    exact ⟨by rw [cmpI_lt this]; simp, Up.refl _⟩
  · subst heq
    go_wp2_with fail
    go_loopw [5] (fun i wr => ∃ k : Nat, k ≤ l1 ∧ i = .int .i64 ((k : Int) - 1) ∧ (∀ j, k ≤ j → j < l1 → lim xs1 j = lim ys1 j) ∧ Up w wr) (fun i _ => (intOf i + 1).toNat)
    case atStart => exact ⟨l1, Nat.le_refl _, rfl, fun j h1 h2 => by omega, Up.refl _⟩
    case round =>
      obtain ⟨k, hk, rfl, hz, hbel⟩ := hrel
      by_cases hp : 0 < k
      · obtain ⟨b1, o1, rfl, hb1, hcx⟩ := hx1.cells (by omega)
        obtain ⟨b2, o2, rfl, hb2, hcy⟩ := hy1.cells (by omega)
        have cx : wr.cell? ⟨b1, o1 + (k - 1), none⟩ = some (.int .u32 (lim xs1 (k - 1) : Int)) := (hbel.b.cell (p := ⟨b1, o1 + (k - 1), none⟩) hb1).trans (hcx (k - 1) (by omega))
        have cy : wr.cell? ⟨b2, o2 + (k - 1), none⟩ = some (.int .u32 (lim ys1 (k - 1) : Int)) := (hbel.b.cell (p := ⟨b2, o2 + (k - 1), none⟩) hb2).trans (hcy (k - 1) (by omega))
        have hi1 : (0 : Int) ≤ (k : Int) - 1 := by omega
        have hi2 : (k : Int) - 1 < (l1 : Int) := by omega
        clear hcx hcy
        have HZ := hide hz
        clear hz
        by_cases hne : lim xs1 (k - 1) = lim ys1 (k - 1)
        · have hb0 : ((lim xs1 (k - 1) : Int) != (lim ys1 (k - 1) : Int)) = false := by simp [hne]
          have HN := hide hne
          clear hne
          go_wp2
          go_quiet (fail)
          go_wp2
          go_roundw
          case rel =>
            refine ⟨k - 1, by omega, by go_num, fun j h1 h2 => ?_, ?_⟩
            · by_cases c : j = k - 1
              · subst c; exact unhide HN
              · exact unhide HZ j (by omega) h2
            · exact up_drewN hbel _
          case measure => simp [intOf]; omega
        · have hb0 : ((lim xs1 (k - 1) : Int) != (lim ys1 (k - 1) : Int)) = true := by simp; omega
          have HA := hide (fun i (h1 : k - 1 < i) h2 => unhide HZ i (by omega) h2)
          rcases Nat.lt_or_gt_of_ne hne with hd | hd
          · go_wp2
            go_quiet (fail)
            go_wp2
            go_quiet ((go_at_call 95; exact (side_quiet true _).mono fun _ _ h => ⟨h.1, _, h.2⟩))
            go_wp2
            go_ret
            have : val xs1 < val ys1 := by
              unfold val
              rw [unhide L1, unhide L2]
              exact pre_top hx1.small (k := k - 1) (by omega) (unhide HA) hd
            rw [unhide Vx, unhide Vy] at this
            exact ⟨by rw [cmpI_lt this]; simp, (by first | exact up_drewN hbel _ | exact up_drewN (up_drewN hbel _) _)⟩
          · have hd' : decide (lim xs1 (k - 1) < lim ys1 (k - 1)) = false := by simp; omega
            go_wp2
            go_quiet (fail)
            go_wp2
            go_quiet ((go_at_call 95; exact (side_quiet false _).mono fun _ _ h => ⟨h.1, _, h.2⟩))
            go_wp2
            go_ret
            have : val ys1 < val xs1 := by
              unfold val
              rw [unhide L1, unhide L2]
              exact pre_top hy1.small (k := k - 1) (by omega) (fun i h1 h2 => (unhide HA i h1 h2).symm) hd
            rw [unhide Vx, unhide Vy] at this
            exact ⟨by rw [cmpI_gt this]; simp, (by first | exact up_drewN hbel _ | exact up_drewN (up_drewN hbel _) _)⟩
      · go_wp2
        go_ret
        have hk0 : k = 0 := by omega
        subst hk0
        have : val xs1 = val ys1 := by
          unfold val
          rw [unhide L1, unhide L2]
          exact pre_congr (fun i hi => hz i (Nat.zero_le _) hi)
        rw [unhide Vx, unhide Vy] at this
        exact ⟨by rw [cmpI_eq this]; simp, hbel⟩
  · go_wp2_with (go_at_call 95; refine (side_any _ _).mono ?_; rintro e w' ⟨rfl, rfl⟩)
    go_ret
    have : val ys1 < val xs1 := norm_lt_len hy1.small nx1 (by rw [unhide L1, unhide L2]; exact hgt)
    rw [unhide Vx, unhide Vy] at this
    exact ⟨by rw [cmpI_gt this]; simp, Up.refl _⟩

set_option maxHeartbeats 1000000 in
theorem sign_up (b : Bool) (aa : Option Addr) (la ca : Nat) (z : Int) (w : World) (ha : IntAt w b aa la ca z) (hla : la ≤ 1000000) :
    Calls Try.prog 64 #[.agg #[.bool b, .slice aa la ca]] w fun e w' => e = .returned (.int .i64 z.sign) ∧ Up w w' := by
  obtain ⟨N, hN, rfl⟩ := ha
  have hbox : Below w.heap.size w (w.alloc (.cells #[.bool b, .slice aa la ca] 29)) := (Below.refl _ _).alloc (Nat.le_refl _) _
  by_cases hz : N = 0
  · subst hz
    rw [sgnd_zero]
    go_enter Try.func64, Try.ntmps64
    go_wp2_with fail
    refine (bits_num _ _ _ 0 _ (hN.later hbox) hla).mono ?_
    rintro e w1 ⟨n, rfl, hn, rfl⟩
    have hn0 := isBits_inj hn (Or.inl ⟨rfl, rfl⟩)
    subst hn0
    go_wp2
    go_ret
    exact ⟨rfl, hbox, Nat.le_refl _⟩
  · rw [sign_of b (by omega)]
    cases b
    all_goals
      go_enter Try.func64, Try.ntmps64
      go_wp2_with fail
      refine (bits_num _ _ _ N _ (hN.later hbox) hla).mono ?_
      rintro e w1 ⟨n, rfl, hn, rfl⟩
      have hn0 : ((n : Int) == 0) = false := by
        rcases hn with ⟨h, _⟩ | ⟨h1, _⟩
        · exact absurd h hz
        · rw [beq_eq_false_iff_ne]; omega
      go_wp2
      go_ret
      exact ⟨rfl, hbox, Nat.le_refl _⟩

theorem sign_is_up (b : Bool) (aa : Option Addr) (la ca : Nat) (z s : Int) (w : World) (ha : IntAt w b aa la ca z) (hla : la ≤ 1000000) (hs : s = z.sign) :
    Calls Try.prog 64 #[.agg #[.bool b, .slice aa la ca]] w fun e w' => e = .returned (.int .i64 s) ∧ Up w w' := by
  subst hs
  exact sign_up b aa la ca z w ha hla

theorem cmp_num_up (aa : Option Addr) (la ca A : Nat) (ab : Option Addr) (lb cb B : Nat) (w : World) (ha : ValAt w aa la ca A) (hb : ValAt w ab lb cb B) :
    Calls Try.prog 81 #[.slice aa la ca, .slice ab lb cb] w fun e w' => e = .returned (.int .i64 (cmpI A B)) ∧ Up w w' := by
  obtain ⟨xs, hx, rfl⟩ := ha
  obtain ⟨ys, hy, rfl⟩ := hb
  exact cmp_up _ _ _ xs _ _ _ ys w hx hy

set_option maxHeartbeats 1000000 in
theorem icmp_up (b : Bool) (aa : Option Addr) (la ca : Nat) (x : Int) (b' : Bool) (ab : Option Addr) (lb cb : Nat) (y : Int) (w : World) (ha : IntAt w b aa la ca x) (hb : IntAt w b' ab lb cb y) (hla : la ≤ 1000000) (hlb : lb ≤ 1000000) :
    Calls Try.prog 58 #[.agg #[.bool b, .slice aa la ca], .agg #[.bool b', .slice ab lb cb]] w fun e w' => e = .returned (.int .i64 (x - y).sign) ∧ Up w w' := by
  have HW := hide ((below2 w (.cells #[.bool b, .slice aa la ca] 29) (.cells #[.bool b', .slice ab lb cb] 29)).drew)
  have HU := hide (up_drew (up2 w (.cells #[.bool b, .slice aa la ca] 29) (.cells #[.bool b', .slice ab lb cb] 29)))
  have HA := hide (ha.later (unhide HW))
  have HB := hide (hb.later (unhide HW))
  have sx := sign_bd x
  have sy := sign_bd y
  obtain ⟨sX, hX⟩ : ∃ s, s = x.sign := ⟨_, rfl⟩
  obtain ⟨sY, hY⟩ : ∃ s, s = y.sign := ⟨_, rfl⟩
  rw [← hX] at sx
  rw [← hY] at sy
  obtain ⟨sx1, sx2⟩ := sx
  obtain ⟨sy1, sy2⟩ := sy
  have HX := hide hX
  have HY := hide hY
  clear hX hY ha hb
  by_cases h1 : sX < sY
  · have HR := hide (show (x - y).sign = -1 from cmp_less (by rw [← unhide HX, ← unhide HY]; exact h1))
    go_enter Try.func58, Try.ntmps58
    go_wp2_with fail
    go_region_held3 (fun w' => w'.cell? ⟨w.heap.size, 0, none⟩ = some (.bool b) ∧ w'.cell? ⟨w.heap.size, 1, none⟩ = some (.slice aa la ca) ∧ w'.cell? ⟨w.heap.size + 1, 0, none⟩ = some (.bool b') ∧ w'.cell? ⟨w.heap.size + 1, 1, none⟩ = some (.slice ab lb cb)) (first | exact held2 hb2 (by omega) (by assumption) | exact held2 hb1 (by simp <;> omega) (by assumption) | go_keep) (first | (go_at_call 64; with_reducible refine (sign_is_up b aa la ca x sX _ (unhide HA) hla (unhide HX)).mono ?_; rintro e w1 ⟨rfl, hu1⟩; have hb1 := hu1.b; have hz1 : w.heap.size + 1 < w1.heap.size := bmore hb1 (by simp)) | (go_at_call 64; with_reducible refine (sign_is_up b' ab lb cb y sY _ ((unhide HB).later hb1) hlb (unhide HY)).mono ?_; rintro e w2 ⟨rfl, hu2⟩; have hb2 := hu2.b; have hz2 : w.heap.size + 1 < w2.heap.size := bmore hb2 hz1))
    obtain ⟨p1, p2, p3, p4⟩ := ((((box_new w b aa la ca rfl).alloc (.cells #[.bool b', .slice ab lb cb] 29)).drew.later hb1).later hb2).facts
    obtain ⟨q1, q2, q3, q4⟩ := (((box_new (w.alloc (.cells #[.bool b, .slice aa la ca] 29)) b' ab lb cb (n := w.heap.size + 1) (by simp)).drew.later hb1).later hb2).facts
    have hW := Up.step (Up.step (unhide HU) hu1) hu2
    go_wp2
    go_ret
    exact ⟨ret_int (unhide HR).symm, hW⟩
  · by_cases h2 : sY < sX
    · have HR := hide (show (x - y).sign = 1 from cmp_more (by rw [← unhide HX, ← unhide HY]; exact h2))
      go_enter Try.func58, Try.ntmps58
      go_wp2_with fail
      go_region_held3 (fun w' => w'.cell? ⟨w.heap.size, 0, none⟩ = some (.bool b) ∧ w'.cell? ⟨w.heap.size, 1, none⟩ = some (.slice aa la ca) ∧ w'.cell? ⟨w.heap.size + 1, 0, none⟩ = some (.bool b') ∧ w'.cell? ⟨w.heap.size + 1, 1, none⟩ = some (.slice ab lb cb)) (first | exact held2 hb2 (by omega) (by assumption) | exact held2 hb1 (by simp <;> omega) (by assumption) | go_keep) (first | (go_at_call 64; with_reducible refine (sign_is_up b aa la ca x sX _ (unhide HA) hla (unhide HX)).mono ?_; rintro e w1 ⟨rfl, hu1⟩; have hb1 := hu1.b; have hz1 : w.heap.size + 1 < w1.heap.size := bmore hb1 (by simp)) | (go_at_call 64; with_reducible refine (sign_is_up b' ab lb cb y sY _ ((unhide HB).later hb1) hlb (unhide HY)).mono ?_; rintro e w2 ⟨rfl, hu2⟩; have hb2 := hu2.b; have hz2 : w.heap.size + 1 < w2.heap.size := bmore hb2 hz1))
      obtain ⟨p1, p2, p3, p4⟩ := ((((box_new w b aa la ca rfl).alloc (.cells #[.bool b', .slice ab lb cb] 29)).drew.later hb1).later hb2).facts
      obtain ⟨q1, q2, q3, q4⟩ := (((box_new (w.alloc (.cells #[.bool b, .slice aa la ca] 29)) b' ab lb cb (n := w.heap.size + 1) (by simp)).drew.later hb1).later hb2).facts
      have hW := Up.step (Up.step (unhide HU) hu1) hu2
      go_wp2
      go_ret
      exact ⟨ret_int (unhide HR).symm, hW⟩
    · obtain rfl : sX = sY := by omega
      have hE := hide ((unhide HX).symm.trans (unhide HY))
      by_cases h3 : sX < 0
      · have HR := hide (cmp_neg (unhide hE) (by rw [← unhide HX]; exact h3))
        clear h1 h2
        go_enter Try.func58, Try.ntmps58
        go_wp2_with fail
        go_region_held3 (fun w' => w'.cell? ⟨w.heap.size, 0, none⟩ = some (.bool b) ∧ w'.cell? ⟨w.heap.size, 1, none⟩ = some (.slice aa la ca) ∧ w'.cell? ⟨w.heap.size + 1, 0, none⟩ = some (.bool b') ∧ w'.cell? ⟨w.heap.size + 1, 1, none⟩ = some (.slice ab lb cb)) (first | exact held2 hb2 (by omega) (by assumption) | exact held2 hb1 (by simp <;> omega) (by assumption) | go_keep) (first | (go_at_call 64; with_reducible refine (sign_is_up b aa la ca x sX _ (unhide HA) hla (unhide HX)).mono ?_; rintro e w1 ⟨rfl, hu1⟩; have hb1 := hu1.b; have hz1 : w.heap.size + 1 < w1.heap.size := bmore hb1 (by simp)) | (go_at_call 64; with_reducible refine (sign_is_up b' ab lb cb y sX _ ((unhide HB).later hb1) hlb (unhide HY)).mono ?_; rintro e w2 ⟨rfl, hu2⟩; have hb2 := hu2.b; have hz2 : w.heap.size + 1 < w2.heap.size := bmore hb2 hz1))
        obtain ⟨p1, p2, p3, p4⟩ := ((((box_new w b aa la ca rfl).alloc (.cells #[.bool b', .slice ab lb cb] 29)).drew.later hb1).later hb2).facts
        obtain ⟨q1, q2, q3, q4⟩ := (((box_new (w.alloc (.cells #[.bool b, .slice aa la ca] 29)) b' ab lb cb (n := w.heap.size + 1) (by simp)).drew.later hb1).later hb2).facts
        have hW := Up.step (Up.step (unhide HU) hu1) hu2
        go_wp2_with fail
        refine (cmp_num_up _ _ _ y.natAbs _ _ _ x.natAbs _ (((unhide HB).later hb1).later hb2).val (((unhide HA).later hb1).later hb2).val).mono ?_
        rintro e w3 ⟨rfl, hb3⟩
        have hW3 := Up.step hW hb3
        go_wp2
        go_ret
        exact ⟨ret_int (unhide HR), hW3⟩
      · have HR := hide (cmp_pos (unhide hE) (by rw [← unhide HX]; exact h3))
        clear h1 h2
        go_enter Try.func58, Try.ntmps58
        go_wp2_with fail
        go_region_held3 (fun w' => w'.cell? ⟨w.heap.size, 0, none⟩ = some (.bool b) ∧ w'.cell? ⟨w.heap.size, 1, none⟩ = some (.slice aa la ca) ∧ w'.cell? ⟨w.heap.size + 1, 0, none⟩ = some (.bool b') ∧ w'.cell? ⟨w.heap.size + 1, 1, none⟩ = some (.slice ab lb cb)) (first | exact held2 hb2 (by omega) (by assumption) | exact held2 hb1 (by simp <;> omega) (by assumption) | go_keep) (first | (go_at_call 64; with_reducible refine (sign_is_up b aa la ca x sX _ (unhide HA) hla (unhide HX)).mono ?_; rintro e w1 ⟨rfl, hu1⟩; have hb1 := hu1.b; have hz1 : w.heap.size + 1 < w1.heap.size := bmore hb1 (by simp)) | (go_at_call 64; with_reducible refine (sign_is_up b' ab lb cb y sX _ ((unhide HB).later hb1) hlb (unhide HY)).mono ?_; rintro e w2 ⟨rfl, hu2⟩; have hb2 := hu2.b; have hz2 : w.heap.size + 1 < w2.heap.size := bmore hb2 hz1))
        obtain ⟨p1, p2, p3, p4⟩ := ((((box_new w b aa la ca rfl).alloc (.cells #[.bool b', .slice ab lb cb] 29)).drew.later hb1).later hb2).facts
        obtain ⟨q1, q2, q3, q4⟩ := (((box_new (w.alloc (.cells #[.bool b, .slice aa la ca] 29)) b' ab lb cb (n := w.heap.size + 1) (by simp)).drew.later hb1).later hb2).facts
        have hW := Up.step (Up.step (unhide HU) hu1) hu2
        go_wp2_with fail
        refine (cmp_num_up _ _ _ x.natAbs _ _ _ y.natAbs _ (((unhide HA).later hb1).later hb2).val (((unhide HB).later hb1).later hb2).val).mono ?_
        rintro e w3 ⟨rfl, hb3⟩
        have hW3 := Up.step hW hb3
        go_wp2
        go_ret
        exact ⟨ret_int (unhide HR), hW3⟩


theorem cmpK_up (b : Bool) (aa : Option Addr) (la ca : Nat) (x : Int) (k : Nat) (b' : Bool) (ab : Option Addr) (lb cb : Nat) (y : Int) (l : Nat) (s : Int) (w : World) (hx : IK w b aa la ca x k) (hy : IK w b' ab lb cb y l) (hs : s = (x - y).sign) : Calls Try.prog 58 #[.agg #[.bool b, .slice aa la ca], .agg #[.bool b', .slice ab lb cb]] w fun e w' => e = .returned (.int .i64 s) ∧ Up w w' := by
  subst hs
  exact icmp_up _ _ _ _ x _ _ _ _ y _ hx.1 hy.1 (Nat.le_trans hx.2.1 (by omega)) (Nat.le_trans hy.2.1 (by omega))

set_option maxHeartbeats 800000 in
theorem atK_up (ao : Option Addr) (n cap : Nat) (zs : List Int) (k : Nat) (i : Nat) (w : World) (h : VK w ao n cap zs k) (hk : k ≤ 900000) (hi : i ≤ 1000000000) :
    Calls Try.prog 59 #[.slice ao n cap, .int .i64 (i : Int)] w fun e w' => ∃ b1 a1 l1 c1, e = .returned (.agg #[.bool b1, .slice a1 l1 c1]) ∧ IK w' b1 a1 l1 c1 (zs.getD i 0) k ∧ Up w w' := by
  have hm := Nat.le_trans h.cap_le h.cap_max
  have hl := h.len_eq
  unfold maxLen at hm
  go_enter Try.func59, Try.ntmps59
  go_upto_region 1 with fail
  obtain ⟨W, hWe⟩ : ∃ W, W = w.alloc (.cells #[.bool false, .slice none 0 0] 29) := ⟨_, rfl⟩
  obtain ⟨B0, hb0⟩ := boxes1 w false none 0 0 hWe
  rw [← hWe]
  have hd0 : w.drawn ≤ W.drawn := by rw [hWe]; exact Nat.le_refl _
  clear hWe
  have hsz := B0.lt
  obtain ⟨q1, q2, q3, q4⟩ := B0.facts
  by_cases hlt : i < n
  · obtain ⟨g, off, rfl⟩ := h.some (by omega)
    obtain ⟨b2, a2, l2, c2, he, hy⟩ := (h.later hb0).at hlt
    obtain ⟨f1, f2⟩ := he.facts
    have hg1 := he.1
    go_wp2
    refine bodyPost_ret (v := .agg #[.bool b2, .slice a2 l2 c2]) (by simp [results, Try.results59, go_sem, *]) rfl ⟨_, _, _, _, rfl, ?_⟩
    exact ⟨hy.put B0.noLimb _ _ _ _, below_put hb0 (by omega) _ _ _ _, hd0⟩
  · go_wp2
    refine bodyPost_ret (v := .agg #[.bool false, .slice none 0 0]) (by simp [results, Try.results59, go_sem, *]) rfl ⟨_, _, _, _, rfl, ?_⟩
    rw [getD_out (by omega)]
    exact ⟨((fk_zero W k).ik (by omega)).put B0.noLimb _ _ _ _, below_put hb0 (by omega) _ _ _ _, hd0⟩

set_option maxHeartbeats 1600000 in
theorem vcmpK_up (ao : Option Addr) (n cap : Nat) (zs : List Int) (k : Nat) (ao' : Option Addr) (n' cap' : Nat) (ys : List Int) (l : Nat) (w : World) (h : VK w ao n cap zs k) (h' : VK w ao' n' cap' ys l) (hk : k ≤ 900000) (hl : l ≤ 900000) (hn : n ≤ 1000000) (hn' : n' ≤ 1000000) :
    Calls Try.prog 30 #[.slice ao n cap, .slice ao' n' cap'] w fun e w' => ∃ c, e = .returned (.int .i64 c) ∧ IsCmp zs ys c ∧ -1 ≤ c ∧ c ≤ 1 ∧ Up w w' := by
  have hmax := max_len n n'
  have HL := hide h.len_eq
  have HL' := hide h'.len_eq
  obtain ⟨m, em⟩ : ∃ m, m = max n n' := ⟨_, rfl⟩
  rw [← em] at hmax
  have hm : m ≤ 1000000 := by omega
  have EM := hide em
  clear em
  go_enter Try.func30, Try.ntmps30
  go_wp2_with fail
  go_loopw [12] (fun t wr => ∃ (i : Nat), i ≤ m ∧ t = .int .i64 (i : Int) ∧ (∀ j, j < i → zs.getD j 0 = ys.getD j 0) ∧ Up w wr) (fun t _ => m - (intOf t).toNat)
  case atStart => exact ⟨0, Nat.zero_le _, rfl, fun j hj => absurd hj (by omega), Up.refl _⟩
  case round =>
    obtain ⟨i, hi, rfl, hall, hB⟩ := hrel
    have HA := hide hall
    clear hall
    have HB := hide hB
    clear hB
    by_cases hlt : i < m
    · have hlt' : (i : Int) < (m : Int) := by omega
      go_wp2_with fail
      refine (atK_up _ _ _ zs k i _ (h.later (unhide HB).b) hk (by omega)).mono ?_
      rintro e w3 ⟨b3, a3, l3, c3, rfl, h3, hb1⟩
      replace HB := hide (Up.step (unhide HB) hb1)
      clear hb1
      go_wp2_with fail
      refine (atK_up _ _ _ ys l i _ (h'.later (unhide HB).b) hl (by omega)).mono ?_
      rintro e w4 ⟨b4, a4, l4, c4, rfl, h4, hb1⟩
      replace h3 := h3.later hb1.b
      replace HB := hide (Up.step (unhide HB) hb1)
      clear hb1
      obtain ⟨d, ed⟩ : ∃ d, d = zs.getD i 0 - ys.getD i 0 := ⟨_, rfl⟩
      obtain ⟨s, es⟩ : ∃ s, s = d.sign := ⟨_, rfl⟩
      have ED := hide ed
      have ES := hide (show s = (zs.getD i 0 - ys.getD i 0).sign by rw [es, ed])
      clear ed
      go_wp2_with fail
      refine (cmpK_up _ _ _ _ (zs.getD i 0) k _ _ _ _ (ys.getD i 0) l s _ h3 h4 (unhide ES)).mono ?_
      rintro e w5 ⟨rfl, hb1⟩
      replace HB := hide (Up.step (unhide HB) hb1)
      clear hb1 h3 h4
      by_cases h0 : d = 0
      · have hs : (s != 0) = false := by rw [es, h0]; rfl
        clear es
        go_wp2
        go_roundw
        case rel =>
          refine ⟨i + 1, by omega, by go_num, fun j hj => ?_, unhide HB⟩
          by_cases e : j = i
          · subst e
            have := unhide ED
            omega
          · exact unhide HA j (by omega)
        case measure => simp [intOf]; omega
      · have hs : (s != 0) = true := by
          rw [bne_iff_ne, es]
          exact fun e => h0 (Int.sign_eq_zero_iff_zero.1 e)
        have hsb : -1 ≤ s ∧ s ≤ 1 := by
          rcases sgn_cases h0 with ⟨_, e⟩ | ⟨_, e⟩ <;> rw [es, e] <;> omega
        have HS := hide hsb
        clear es hsb
        go_wp2
        go_ret
        refine ⟨_, rfl, Or.inr ⟨i, unhide HA, ?_, unhide ES⟩, (unhide HS).1, (unhide HS).2, unhide HB⟩
        have := unhide ED
        omega
    · have hlt' : ¬ (i : Int) < (m : Int) := by omega
      go_wp2
      go_ret
      refine ⟨0, rfl, Or.inl ⟨rfl, fun j => ?_⟩, by omega, by omega, unhide HB⟩
      have := unhide EM
      have := unhide HL
      have := unhide HL'
      by_cases c : j < i
      · exact unhide HA j c
      · rw [getD_out (by omega), getD_out (by omega)]


#print axioms vcmpK_up
end Go.Proofs.Ytbdjkbonoofibaa
