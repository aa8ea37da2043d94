/-
  What the reference's DivModL does: the quotient and what is left, of a b above 0.
-/
import Derived.Test.YtfjebgjhhojphaaRefSub
import Derived.Test.YtfjebgjhhojphaaRefSmall
import Derived.Deep.RegionWith
namespace Go.Proofs.Ytfjebgjhhojphaa
open Go.RowKit Lb

theorem quo_cast {X Y : Nat} (hX : X < 18446744073709551616) : IntKind.u64.wrap ((X : Int) / (Y : Int)) = ((X / Y : Nat) : Int) := by
  have h3 := Nat.div_le_self X Y
  rw [show (X : Int) / (Y : Int) = ((X / Y : Nat) : Int) by simp, IntKind.wrap_u64]
  generalize X / Y = q at *
  omega
theorem val_sing (a : Nat) : val [a] = a := by simp [val, pre, lim, Bp]
theorem bit_cast (A j : Nat) : (A : Int) / 2 ^ j % 2 = ((A / 2 ^ j % 2 : Nat) : Int) := by simp
theorem or_digit {a r : Nat} (ha : a < 4294967296) (hr : r < 32) (h : a / 2 ^ r % 2 = 0) : bits .or .u32 (a : Int) (2 ^ r % 4294967296) = ((a + 2 ^ r : Nat) : Int) := by
  have h1 := pow_limb hr
  rw [show ((2 : Int) ^ r % 4294967296) = ((2 ^ r : Nat) : Int) by rw [show ((2 : Int) ^ r) = ((2 ^ r : Nat) : Int) by simp]; omega, u32_or_nat _ _ (by omega) (by omega), or_bit h]
theorem rem_cast (X Y : Nat) : (X : Int).tmod (Y : Int) = ((X % Y : Nat) : Int) := by rw [Int.tmod_eq_emod_of_nonneg (by omega)]; rfl
theorem rem_cast2 (X Y : Nat) : (X : Int) % (Y : Int) = ((X % Y : Nat) : Int) := by simp
theorem rtwo_int (xi : Int) (x : Nat) (w : World) (h : xi = (x : Int)) (hx : x < 18446744073709551616) :
    Calls Try.prog 29 #[.int .u64 xi] w fun e w' => ∃ ao' len' cap', e = .returned (.slice ao' len' cap') ∧ NumAt w' ao' len' cap' x ∧ Below w.heap.size w w' := by
  subst h
  exact rtwo_new x w hx
theorem rshort_nat (ao : Option Addr) (len cap : Nat) (xs : List Nat) (w : World) (h : RowAt w ao len cap xs) (hlen : len ≤ 10000000) :
    Calls Try.prog 28 #[.slice ao len cap] w fun e w' => ∃ (b : Bool) (X : Nat), e = .returned (.tuple #[.int .u64 (X : Int), .bool b]) ∧ (b = true → val xs = X) ∧ X < 18446744073709551616 ∧ Below w.heap.size w w' := by
  refine (rshort_any ao len cap xs w h hlen).mono ?_
  rintro e w' ⟨b, rfl, h1, h2⟩
  have h3 := h.small 0
  have h4 := h.small 1
  exact ⟨b, _, rfl, h1, by omega, h2⟩

set_option maxRecDepth 20000 in
set_option maxHeartbeats 1000000 in
theorem rdivmod_any (aa : Option Addr) (la ca : Nat) (xs : List Nat) (ab : Option Addr) (lb cb : Nat) (ys : List Nat) (w : World) (ha : RowAt w aa la ca xs) (hb : RowAt w ab lb cb ys) (hla : la ≤ 1000000) (hlb : lb ≤ 1000000) (hD : 0 < val ys) :
    Calls Try.prog 20 #[.slice aa la ca, .slice ab lb cb] w fun e w' => ∃ a1 l1 c1 a2 l2 c2, e = .returned (.tuple #[.slice a1 l1 c1, .slice a2 l2 c2]) ∧ NumAt w' a1 l1 c1 (val xs / val ys) ∧ NumAt w' a2 l2 c2 (val xs % val ys) ∧ Below w.heap.size w w' := by
  have HD := hide hD
  clear hD
  go_enter Try.func20, Try.ntmps20
  go_wp2_with fail
  refine (rshort_nat _ _ _ xs _ ha (by omega)).mono ?_
  rintro e w1 ⟨bX, X, rfl, hX, hXl, hW1⟩
  go_wp2_with fail
  refine (rshort_nat _ _ _ ys _ (hb.later hW1) (by omega)).mono ?_
  rintro e w2 ⟨bY, Y, rfl, hY, hYl, hw2⟩
  have hW2 := hW1.trans (hw2.mono hW1.size)
  have HX := hide hX
  have HY := hide hY
  clear hX hY hw2 hW1
  by_cases hs : bX = true ∧ bY = true
  · obtain ⟨rfl, rfl⟩ := hs
    have eX := unhide HX rfl
    have eY := unhide HY rfl
    have hY0 : 0 < Y := by rw [← eY]; exact unhide HD
    have hY1 : (1 : Int) ≤ (Y : Int) := by omega
    have EX := hide eX
    have EY := hide eY
    clear eX eY HX HY HD
    have hq := hide (Nat.lt_of_le_of_lt (Nat.div_le_self X Y) hXl)
    have hr := hide (Nat.lt_of_le_of_lt (Nat.mod_le X Y) hXl)
    have hc := hide (quo_cast (Y := Y) hXl)
    have hc2 := hide (rem_cast X Y)
    have hc3 := hide (rem_cast2 X Y)
    clear hXl hYl
    have hYb : ((Y : Int) == 0) = false := by simp; omega
    go_wp2_with fail
    go_region_with (first | (go_at_call_of 29 (IntKind.u64.wrap ((X : Int) / (Y : Int))); refine (rtwo_int _ (X / Y) _ (unhide hc) (unhide hq)).mono ?_; rintro e w3 ⟨a3, l3, c3, rfl, hn3, hw3⟩) | (go_at_call_of 29 ((X : Int).tmod (Y : Int)); refine (rtwo_int _ (X % Y) _ (unhide hc2) (unhide hr)).mono ?_; rintro e w4 ⟨a4, l4, c4, rfl, hn4, hw4⟩) | (go_at_call_of 29 ((X : Int) % (Y : Int)); refine (rtwo_int _ (X % Y) _ (unhide hc3) (unhide hr)).mono ?_; rintro e w4 ⟨a4, l4, c4, rfl, hn4, hw4⟩))
    all_goals go_wp2
    all_goals
      go_ret2
      refine ⟨a3, l3, c3, a4, l4, c4, rfl, ?_, ?_, ?_⟩
      · rw [unhide EX, unhide EY]; exact hn3.later hw4
      · rw [unhide EX, unhide EY]; exact hn4
      · have hw23 : Below w2.heap.size w2 w3 := (Below.refl w2.heap.size w2).drew.trans hw3
        exact (hW2.trans (hw23.mono hW2.size)).trans (hw4.mono (Nat.le_trans hW2.size hw23.size))
  · have hcond : (bX && bY) = false := by
      cases bX <;> cases bY <;> simp_all
    have D0 := unhide HD
    have hdl : val ys < Bp lb := by
      have := val_lt hb.small
      rwa [hb.len_eq] at this
    have hAl : val xs / 2 ^ (32 * la) = 0 := by
      rw [← Bp_two]
      have := val_lt ha.small
      rw [ha.len_eq] at this
      exact Nat.div_eq_of_lt this
    have HAL := hide hAl
    have HDL := hide hdl
    clear hXl hYl HX HY hAl hdl D0
    have hfalse : bX = false ∨ (bX = true ∧ bY = false) := by cases bX <;> cases bY <;> simp_all
    clear hs hcond
    rcases hfalse with rfl | ⟨rfl, rfl⟩
    all_goals
      go_wp2_with (at_make; refine make_row rfl _ _ rfl w2.heap.size .i64 .i64 _ _ la rfl rfl (by omega) (by omega) (by omega) (Nat.le_refl _) ?_)
      intro w3 hown1 hgrow1
      have hbel1 : Below w2.heap.size w2 w3 := (Below.refl _ _).grown hgrow1 (Nat.le_refl _) (fun _ h => by simp at h)
      have hsz := hown1.base_le
      have hgl : w2.heap.size < w3.heap.size := by
        rcases hown1.2 with ⟨h', _⟩ | ⟨g', cap', cur, h', _, hg, _⟩
        · simp at h'
        · simp only [Value.slice.injEq, Option.some.injEq, Addr.mk.injEq, and_true, true_and] at h'
          obtain ⟨rfl, rfl⟩ := h'
          exact lt_of_block hg
      clear hgrow1 hsz
      go_wp2_with fail
      go_loopw [11, 12] (fun v i wr => ∃ (k : Nat) (ar : Option Addr) (lr cr : Nat) (zs : List Nat), k ≤ 32 * la ∧ v = .slice ar lr cr ∧ i = .int .i64 ((k : Int) - 1) ∧ NumAt wr ar lr cr (val xs / 2 ^ k % val ys) ∧ Own wr w2.heap.size (.slice (some ⟨w2.heap.size, 0, none⟩) la la) la zs ∧ Small zs ∧ val zs = val xs / 2 ^ k / val ys * 2 ^ k ∧ w2.heap.size < wr.heap.size ∧ Below w2.heap.size w2 wr) (fun _ i _ => (intOf i + 1).toNat)
      case atStart =>
        refine ⟨32 * la, none, 0, 0, _, Nat.le_refl _, rfl, by go_num, ?_, hown1, small_replicate _, ?_, hgl, hbel1⟩
        · rw [unhide HAL, Nat.zero_mod]; exact numAt_nil _
        · rw [unhide HAL, Nat.zero_div, Nat.zero_mul]; exact pre_zeros (fun i _ => lim_replicate _ _)
      case round =>
        obtain ⟨k, ar, lr, cr, zs, hk, rfl, rfl, hnum, hown, hsm, hval, hgl2, hbel⟩ := hrel
        have HV := hide hval
        clear hval hown1 hbel1 hgl
        have zlen := hide hown.len
        by_cases hp : 0 < k
        · obtain ⟨j, rfl⟩ : ∃ j, k = j + 1 := ⟨k - 1, by omega⟩
          have ej : ((j + 1 : Nat) : Int) - 1 = (j : Int) := by omega
          rw [ej]
          have hlr : lr ≤ lb := hnum.len_le (Nat.lt_trans (Nat.mod_lt _ (unhide HD)) (unhide HDL))
          have hlr2 : val xs / 2 ^ (j + 1) % val ys < val ys := Nat.mod_lt _ (unhide HD)
          have HLR := hide hlr2
          obtain ⟨rs, hrs, nrs, vrs⟩ := hnum
          have VR := hide vrs
          have hW := hW2.trans (hbel.mono hW2.size)
          clear vrs nrs hlr2 ej
          go_wp2_with fail
          have k1 := radd_any _ _ _ rs _ _ _ rs _ hrs hrs (by omega) (by omega)
          rw [unhide VR] at k1
          refine k1.mono ?_
          rintro e w4 ⟨a4, l4, c4, rfl, hn4, hw4⟩
          have hW4 := hW.trans (hw4.mono hW.size)
          clear k1 hrs VR
          go_wp2_with fail
          refine (rbit_any _ _ _ xs _ j _ (ha.later hW4) rfl (by omega) (by omega)).mono ?_
          rintro e w' ⟨rfl, rfl⟩
          go_wp2_with fail
          have r1 : RowAt (w4.alloc (.cells #[.int .u32 ((val xs : Int) / 2 ^ j % 2)] 36)) (some ⟨w4.heap.size, 0, none⟩) 1 1 [val xs / 2 ^ j % 2] := rowAt_one (bit_cast _ _) (by omega)
          have hl4 : l4 ≤ lb + 1 := hn4.len_le (by rw [Bp_succ]; have h1 := unhide HLR; have h2 := unhide HDL; omega)
          obtain ⟨ss, hss, nss, vss⟩ := hn4
          have hal := (Below.refl w4.heap.size w4).alloc (Nat.le_refl _) (.cells #[.int .u32 ((val xs : Int) / 2 ^ j % 2)] 36)
          have k2 := radd_any _ _ _ ss _ _ _ _ _ (hss.later hal) r1 (by omega) (by omega)
          rw [vss, val_sing] at k2
          refine k2.mono ?_
          rintro e w5 ⟨a5, l5, c5, rfl, hn5, hw5⟩
          have hB5 : Below wr.heap.size wr w5 := hw4.trans ((hal.trans (hw5.mono (by simp))).mono hw4.size)
          have hW5 := hW.trans (hB5.mono hW.size)
          have hl5 : l5 ≤ lb + 1 := hn5.len_le (by rw [Bp_succ]; have h1 := unhide HLR; have h2 := unhide HDL; omega)
          obtain ⟨hb0, hblt, hbge⟩ := bit_step (A := val xs) (D := val ys) (j := j) (unhide HD)
          obtain ⟨R, hR⟩ : ∃ R, R = val xs / 2 ^ (j + 1) % val ys := ⟨_, rfl⟩
          obtain ⟨t, htb⟩ : ∃ t, t = val xs / 2 ^ j % 2 := ⟨_, rfl⟩
          rw [← hR, ← htb] at hn5 hblt hbge
          have HLT := hide hblt
          have HGE := hide hbge
          have T2 := hide (show 2 * R + t = R + R + t by omega)
          obtain ⟨ts, hts, nts, vts⟩ := hn5
          have VT := hide vts
          clear k2 r1 vss nss hss hal hw4 hW4 hb0 hblt hbge hR htb
          go_wp2_with fail
          have k3 := rcmp_any _ _ _ ts _ _ _ ys _ hts (hb.later hW5)
          rw [unhide VT] at k3
          by_cases hcase : R + R + t < val ys
          · have hneg : cmpI (R + R + t) (val ys) < 0 := by rw [cmpI_lt hcase]; omega
            have HC := hide hcase
            clear hcase
            refine k3.mono ?_
            rintro e w' ⟨rfl, rfl⟩
            clear k3
            go_wp2
            go_roundw
            case rel =>
              obtain ⟨e1, e2⟩ := unhide HLT (by have h1 := unhide HC; omega)
              refine ⟨j, a5, l5, c5, zs, by omega, rfl, rfl, ⟨ts, hts, nts, ?_⟩, hown.later hB5, hsm, ?_, Nat.lt_of_lt_of_le hgl2 hB5.size, hbel.trans (hB5.mono hbel.size)⟩
              · rw [unhide VT, e1]; omega
              · rw [unhide HV, e2, Nat.pow_succ]; exact shift_eq _ _
            case measure => simp [intOf]
          · have hneg : 0 ≤ cmpI (R + R + t) (val ys) := by
              unfold cmpI; rw [if_neg (by omega)]; split <;> omega
            have HC := hide hcase
            clear hcase
            refine k3.mono ?_
            rintro e w' ⟨rfl, rfl⟩
            clear k3
            go_wp2_with fail
            have k4 := rsub_new _ _ _ ts _ _ _ ys _ hts (hb.later hW5) (by omega) (by omega) (by rw [unhide VT]; have := unhide HC; omega)
            rw [unhide VT] at k4
            refine k4.mono ?_
            rintro e w6 ⟨a6, l6, c6, rfl, hn6, hw6, hnew⟩
            have hB6 := hB5.trans (hw6.mono hB5.size)
            have hown6 := hown.later hB6
            have cs := hown6.cell (i := j / 32) (by omega)
            have cf := hown6.free (j / 32)
            clear k4
            go_wp2
            go_roundw
            case rel =>
              obtain ⟨e1, e2⟩ := unhide HGE (by have h1 := unhide HC; omega)
              have hbit : lim zs (j / 32) / 2 ^ (j % 32) % 2 = 0 := by
                have h1 := bit_val hsm (q := j / 32) (r := j % 32) (by omega)
                rw [show 32 * (j / 32) + j % 32 = j by omega, unhide HV, even_bit] at h1
                exact h1.symm
              have hlz := hsm (j / 32)
              rw [or_digit hlz (by omega) hbit]
              refine ⟨j, a6, l6, c6, zs.set (j / 32) (lim zs (j / 32) + 2 ^ (j % 32)), by omega, rfl, rfl, ?_, hown6.set _ _ rfl, small_set hsm (or_bit_fits hlz (by omega) hbit), ?_, ?_, (hbel.trans (hB6.mono hbel.size)).setCell (by simp) _⟩
              · have hn7 := hn6.other (hnew.mono (Nat.lt_of_lt_of_le hgl2 hB5.size)) (j / 32) (.int .u32 ((lim zs (j / 32) + 2 ^ (j % 32) : Nat) : Int))
                rw [show R + R + t - val ys = val xs / 2 ^ j % val ys by rw [e1]; omega] at hn7
                exact hn7
              · rw [val_set_add (by rw [unhide zlen]; omega), Bp_two, ← Nat.pow_add, show j % 32 + 32 * (j / 32) = j by omega, unhide HV, e2, Nat.pow_succ, shift_eq, Nat.add_mul, Nat.one_mul]
              · have := hB6.size
                simp [World.setCell]; omega
            case measure => simp [intOf]
        · have hk0 : k = 0 := by omega
          have hr := rowAt_own hown hsm
          have hv : val zs = val xs / val ys := by
            rw [unhide HV, hk0, Nat.pow_zero, Nat.div_one, Nat.mul_one]
          have HW := hide hv
          rw [hk0, Nat.pow_zero, Nat.div_one] at hnum
          have hW := hW2.trans (hbel.mono hW2.size)
          clear hv
          go_wp2_with fail
          refine (rtrim_any _ _ _ zs _ hr (by omega)).mono ?_
          rintro e w4 ⟨a4, l4, c4, rfl, hn4, hw4⟩
          rw [unhide HW] at hn4
          go_wp2
          go_ret2
          exact ⟨a4, l4, c4, ar, lr, cr, rfl, hn4, hnum.later hw4, hW.trans (hw4.mono hW.size)⟩

#print axioms rdivmod_any
end Go.Proofs.Ytfjebgjhhojphaa
