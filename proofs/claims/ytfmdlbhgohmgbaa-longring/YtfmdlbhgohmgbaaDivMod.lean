/-
  What long.DivMod does: the quotient, rounded down, and what is left; false, if b is 0.
-/
import Derived.Test.YtfmdlbhgohmgbaaDivide
import Derived.Test.YtfmdlbhgohmgbaaLWord
import Derived.Test.YtfmdlbhgohmgbaaTrim
import Derived.Test.YtfmdlbhgohmgbaaOver
import Derived.Test.YtfmdlbhgohmgbaaBits
import Derived.Test.YtfmdlbhgohmgbaaLeft
import Derived.Test.YtfmdlbhgohmgbaaRight
namespace Go.Proofs.Ytfmdlbhgohmgbaa
open Go.RowKit Lb

theorem row_int (xi : Int) (x : Nat) (w : World) (h : xi = (x : Int)) (hx : x < 18446744073709551616) :
    Calls Try.prog 23 #[.int .u64 xi] w fun e w' => ∃ ao' len' cap', e = .returned (.slice ao' len' cap') ∧ NumAt w' ao' len' cap' x ∧ Below w.heap.size w w' := by
  subst h
  exact row_any x w hx
theorem rem_castT (X Y : Nat) : (X : Int).tmod (Y : Int) = ((X % Y : Nat) : Int) := by rw [Int.tmod_eq_emod_of_nonneg (by omega)]; rfl
theorem rem_castE (X Y : Nat) : (X : Int) % (Y : Int) = ((X % Y : Nat) : Int) := by simp

theorem divmod_no (aa : Option Addr) (la ca : Nat) (xs : List Nat) (ab : Option Addr) (lb cb : Nat) (ys : List Nat) (w : World) (ha : RowAt w aa la ca xs) (hb : RowAt w ab lb cb ys) (hD : val ys = 0) :
    Calls Try.prog 9 #[.slice aa la ca, .slice ab lb cb] w fun e w' => e = .returned (.tuple #[.slice none 0 0, .slice none 0 0, .bool false]) ∧ w = w' := by
  go_enter Try.func9, Try.ntmps9
  go_wp2_with fail
  refine (lcut_any _ _ _ xs _ ha).mono ?_
  rintro e w' ⟨⟨a1, l1, c1, rfl, _, hl1⟩, rfl⟩
  go_wp2_with fail
  refine (lcut_any _ _ _ ys _ hb).mono ?_
  rintro e w' ⟨⟨a2, l2, c2, rfl, hny, hl2⟩, rfl⟩
  have h0 : l2 = 0 := by
    have := hny.len_le (k := 0) (by rw [hD]; exact Bp_pos 0)
    omega
  subst h0
  go_wp2
  go_ret3
  exact ⟨rfl, rfl⟩

set_option maxRecDepth 20000 in
set_option maxHeartbeats 2000000 in
theorem divmod_yes (aa : Option Addr) (la ca : Nat) (xs : List Nat) (ab : Option Addr) (lb cb : Nat) (ys : List Nat) (w : World) (ha : RowAt w aa la ca xs) (hb : RowAt w ab lb cb ys) (hla : la ≤ 10000000) (hlb : lb ≤ 10000000) (hD : 0 < val ys) :
    Calls Try.prog 9 #[.slice aa la ca, .slice ab lb cb] w fun e w' => ∃ a1 l1 c1 a2 l2 c2, e = .returned (.tuple #[.slice a1 l1 c1, .slice a2 l2 c2, .bool true]) ∧ NumAt w' a1 l1 c1 (val xs / val ys) ∧ NumAt w' a2 l2 c2 (val xs % val ys) ∧ Below w.heap.size w w' := by
  obtain ⟨A, hA⟩ : ∃ A, A = val xs := ⟨_, rfl⟩
  obtain ⟨D, hB⟩ : ∃ D, D = val ys := ⟨_, rfl⟩
  rw [← hA, ← hB]
  rw [← hB] at hD
  go_enter Try.func9, Try.ntmps9
  go_wp2_with fail
  refine (lcut_any _ _ _ xs _ ha).mono ?_
  rintro e w' ⟨⟨a1, l1, c1, rfl, ⟨xs1, hx1, nx1, vx1⟩, hl1⟩, rfl⟩
  go_wp2_with fail
  refine (lcut_any _ _ _ ys _ hb).mono ?_
  rintro e w' ⟨⟨a2, l2, c2, rfl, ⟨ys1, hy1, ny1, vy1⟩, hl2⟩, rfl⟩
  rw [← hA] at vx1
  rw [← hB] at vy1
  have hm1 := hx1.cap_max
  have hm2 := hy1.cap_max
  have hc1 := hx1.cap_le
  have hc2 := hy1.cap_le
  unfold maxLen at hm1 hm2
  have HX := hide nx1
  have HY := hide ny1
  have HD := hide hD
  have hl2p : 0 < l2 := by
    rcases Nat.eq_zero_or_pos l2 with e | e
    · exfalso
      rw [List.eq_nil_of_length_eq_zero (show ys1.length = 0 by rw [hy1.len_eq, e]), val_nil] at vy1
      omega
    · exact e
  have hz2 : ((l2 : Int) == 0) = false := by simp; omega
  have VX := hide vx1
  have VY := hide vy1
  clear vx1 vy1 nx1 ny1 ha hb hD hA hB
  by_cases hsh : l1 < l2
  · have hlt := norm_lt_len hx1.small (unhide HY) (by rw [hx1.len_eq, hy1.len_eq]; exact hsh)
    rw [unhide VX, unhide VY] at hlt
    have HLT := hide hlt
    clear hlt
    go_wp2_with fail
    refine (trim_any _ _ _ xs1 _ hx1 (by omega)).mono ?_
    rintro e w1 ⟨a4, l4, c4, rfl, hn4, hw4⟩
    go_wp2
    go_ret3
    refine ⟨_, _, _, _, _, _, rfl, ?_, ?_, hw4⟩
    · rw [Nat.div_eq_of_lt (unhide HLT)]; exact numAt_nil _
    · rw [Nat.mod_eq_of_lt (unhide HLT), ← unhide VX]; exact hn4
  by_cases hwd : l1 ≤ 2
  · have hXl : val xs1 < 18446744073709551616 := by
      have := Nat.lt_of_lt_of_le (val_lt hx1.small) (Bp_le (show xs1.length ≤ 2 by rw [hx1.len_eq]; exact hwd))
      rwa [show Bp 2 = 18446744073709551616 from rfl] at this
    rw [unhide VX] at hXl
    have HXL := hide hXl
    have k1 := word_any _ _ _ xs1 _ hx1 hwd
    have k2 := word_any _ _ _ ys1 _ hy1 (by omega)
    rw [unhide VX] at k1
    rw [unhide VY] at k2
    clear hXl
    go_wp2_with fail
    refine k1.mono ?_
    rintro e w' ⟨rfl, rfl⟩
    go_wp2_with fail
    refine k2.mono ?_
    rintro e w' ⟨rfl, rfl⟩
    clear k1 k2
    have hY0 : 0 < D := unhide HD
    have hY1 : (1 : Int) ≤ (D : Int) := by omega
    have hYb : ((D : Int) == 0) = false := by simp; omega
    have hXl := unhide HXL
    have hq := hide (Nat.lt_of_le_of_lt (Nat.div_le_self A D) hXl)
    have hr := hide (Nat.lt_of_le_of_lt (Nat.mod_le A D) hXl)
    have hcq := hide (quo_cast64 (Y := D) hXl)
    have hcT := hide (rem_castT A D)
    have hcE := hide (rem_castE A D)
    clear hXl
    go_wp2_with fail
    go_region_with (first | (go_at_call_of 23 (IntKind.u64.wrap ((A : Int) / (D : Int))); refine (row_int _ (A / D) _ (unhide hcq) (unhide hq)).mono ?_; rintro e w3 ⟨a3, l3, c3, rfl, hn3, hw3⟩) | (go_at_call_of 23 ((A : Int).tmod (D : Int)); refine (row_int _ (A % D) _ (unhide hcT) (unhide hr)).mono ?_; rintro e w4 ⟨a4, l4, c4, rfl, hn4, hw4⟩) | (go_at_call_of 23 ((A : Int) % (D : Int)); refine (row_int _ (A % D) _ (unhide hcE) (unhide hr)).mono ?_; rintro e w4 ⟨a4, l4, c4, rfl, hn4, hw4⟩))
    all_goals go_wp2
    all_goals
      go_ret3
      refine ⟨a3, l3, c3, a4, l4, c4, rfl, hn3.later hw4, hn4, ?_⟩
      have hw3' : Below w.heap.size w w3 := (Below.refl w.heap.size w).drew.trans hw3
      exact hw3'.trans (hw4.mono hw3'.size)
  by_cases hone : l2 = 1
  · subst hone
    obtain ⟨b2, o2, rfl, hb2, hcy⟩ := hy1.cells (by omega)
    have cy := hcy 0 (by omega)
    rw [Nat.add_zero] at cy
    have hy0 := hy1.small 0
    have hv : lim ys1 0 = D := by
      have e : val ys1 = pre ys1 1 := by unfold val; rw [hy1.len_eq]
      rw [← unhide VY, e, pre_succ, pre_zero, Bp_zero]
      omega
    rw [hv] at cy hy0
    have h0 := unhide HD
    have k := over_yes _ _ _ xs1 D _ hx1 (by omega) (by omega) hy0
    rw [unhide VX] at k
    have hml := Nat.mod_lt A h0
    clear hcy hv
    go_wp2_with fail
    refine k.mono ?_
    rintro e w1 ⟨a3, l3, c3, rfl, hn3, hw3⟩
    have kr := row_int ((A : Int) % (D : Int)) (A % D) w1 (rem_castE A D) (by omega)
    have KR := hide kr
    clear k kr
    go_wp2_with fail
    refine (unhide KR).mono ?_
    rintro e w2 ⟨a4, l4, c4, rfl, hn4, hw4⟩
    go_wp2
    go_ret3
    exact ⟨_, _, _, _, _, _, rfl, hn3.later hw4, hn4, Below.step hw3 hw4⟩
  have h1b : ((l2 : Int) == 1) = false := by simp; omega
  go_wp2_with fail
  refine (bits_any _ _ _ ys1 _ hy1 (by omega)).mono ?_
  rintro e w' ⟨nb, rfl, hnb, rfl⟩
  obtain ⟨s, hs32, hns, hsl, hsg⟩ := shift_bits hy1.small (unhide HY) (by rw [hy1.len_eq]; omega) hnb
  rw [hy1.len_eq] at hns hsl hsg
  rw [unhide VY] at hsl hsg
  have hAl : A < Bp l1 := by rw [← unhide VX, ← hx1.len_eq]; exact val_lt hx1.small
  have hsi : 32 * (l2 : Int) - (nb : Int) = (s : Int) := by omega
  have hcl : cl (s : Int) = s := cl_nat (by omega)
  have HSL := hide hsl
  have HSG := hide hsg
  have HAL := hide hAl
  have HCL := hide hcl
  clear hnb hsl hsg hAl hcl hns
  go_wp2_with (at_make; refine make_row rfl _ _ rfl w.heap.size .i64 .i64 _ _ (l1 + 1) rfl rfl (by omega) (by omega) (by omega) (Nat.le_refl _) ?_)
  intro w1 hown1 hgrow1
  have hbel1 : Below w.heap.size w w1 := (Below.refl _ _).grown hgrow1 (Nat.le_refl _) (fun _ h => by simp at h)
  clear hgrow1
  have kA := left_new _ _ _ xs1 (s : Int) w1 (hx1.later hbel1) (by omega)
  rw [unhide VX, unhide HCL] at kA
  have KA := hide kA
  clear kA
  go_wp2_with fail
  refine (unhide KA).mono ?_
  rintro e w2 ⟨a3, l3, c3, rfl, ⟨zs3, hz3, nz3, vz3⟩, _, hw2⟩
  have hl3 : l3 ≤ l1 + 1 := by
    rw [← hz3.len_eq]
    exact norm_len nz3 (by rw [vz3]; exact shift_fits (unhide HAL) hs32)
  have hown2 := hown1.later hw2
  have hbel2 := Below.step hbel1 hw2
  have VZ := hide vz3
  clear KA nz3 vz3 hown1 hw2
  go_wp2_with (refine copy_part rfl (.tmp 73) (.tmp 76) rfl w.heap.size w.heap.size (l1 + 1) (l1 + 1) (List.replicate (l1 + 1) 0) zs3 rfl hown2 _ l3 c3 rfl hz3 hl3 ?_)
  intro w3 hown3 hgrow3
  have hbel3 : Below w.heap.size w w3 := Below.only hbel2 hgrow3 hbel2.size (Nat.le_refl _)
  have hsm3 : Small (zs3 ++ List.replicate (l1 + 1 - l3) 0) := small_append hz3.small (small_replicate _)
  have hv3 : val (zs3 ++ List.replicate (l1 + 1 - l3) 0) = A * 2 ^ s := by rw [val_zeros]; exact unhide VZ
  have htp := shift_top hsm3 (unhide HAL) hs32 hv3 (show l2 ≤ l1 by omega) (unhide HSG)
  have HV3 := hide hv3
  have HTP := hide htp
  generalize zs3 ++ List.replicate (l1 + 1 - l3) 0 = us3 at *
  clear hgrow3 hown2 hz3 VZ hv3 htp hbel2
  have kB := left_new _ _ _ ys1 (s : Int) w3 (hy1.later hbel3) (by omega)
  rw [unhide VY, unhide HCL] at kB
  have KB := hide kB
  clear kB
  go_wp2_with fail
  refine (unhide KB).mono ?_
  rintro e w4 ⟨a5, l5, c5, rfl, ⟨ds, hd5, nd5, vd5⟩, hnew5, hw4⟩
  have hlen5 := shift_len hd5.small nd5 (l := l2) (by omega) (by rw [vd5]; exact unhide HSL) (by rw [vd5]; exact unhide HSG)
  rw [hd5.len_eq] at hlen5
  obtain ⟨rfl, htop5⟩ := hlen5
  have hown4 := hown3.later hw4
  have hbel4 := Below.step hbel3 hw4
  have hoff5 : Off w.heap.size a5 l5 := off_new hnew5 hown3.lt
  have kD := divide_any w.heap.size w.heap.size (l1 + 1) (l1 + 1) us3 a5 l5 c5 ds w4 hown4 hsm3 hd5 hoff5 (by omega) (by omega) (by omega) htop5 (by rw [vd5]; exact unhide HTP)
  rw [vd5, unhide HV3, shift_quo] at kD
  have KD := hide kD
  clear kD KB hown3 hnew5 hown4 hoff5 hbel3 nd5 vd5 htop5 hw4
  go_wp2_with fail
  refine (unhide KD).mono ?_
  rintro e w6 ⟨a6, l6, c6, us6, rfl, hn6, hown6, hsm6, hv6, ho6⟩
  have hbel6 : Below w.heap.size w w6 := Below.only hbel4 ho6 hbel4.size (Nat.le_refl _)
  have hr6 := (rowAt_own hown6 hsm6).take (n := l5) (by omega)
  have hvt : val (us6.take l5) = val us6 := by
    refine val_take (by rw [hown6.len]; omega) (fun i hi _ => zero_above (n := l5) ?_ i hi)
    rw [hv6]
    exact Nat.lt_trans (Nat.mod_lt _ (Nat.mul_pos (unhide HD) (Nat.pow_pos (by omega)))) (unhide HSL)
  have kR := right_any _ _ _ _ (s : Int) w6 hr6 (by omega)
  rw [hvt, hv6, unhide HCL, shift_rem] at kR
  have KR := hide kR
  clear kR KD hvt hv6 hr6 hown6 hsm6 ho6 hbel4
  go_wp2_with fail
  refine (unhide KR).mono ?_
  rintro e w7 ⟨a7, l7, c7, rfl, hn7, hw7⟩
  go_wp2
  go_ret3
  exact ⟨_, _, _, _, _, _, rfl, hn6.later hw7, hn7, Below.step hbel6 hw7⟩

#print axioms divmod_no
#print axioms divmod_yes
end Go.Proofs.Ytfmdlbhgohmgbaa
