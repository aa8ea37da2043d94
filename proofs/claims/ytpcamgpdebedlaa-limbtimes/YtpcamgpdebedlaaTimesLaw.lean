/-
  The walk of LimbTimes: products, quotients and shifts are as the reference tells them: it tells true.
-/
import Derived.Test.YtpcamgpdebedlaaBack
import Derived.Test.YtpcamgpdebedlaaRefMul
import Derived.Test.YtpcamgpdebedlaaRefDiv
namespace Go.Proofs.Ytpcamgpdebedlaa
open Go.RowKit Lb

theorem rpow_int (ni : Int) (n : Nat) (w : World) (h : ni = (n : Int)) (hn : n ≤ 1000000) :
    Calls Try.prog 22 #[.int .i64 ni] w fun e w' => ∃ ao' len' cap', e = .returned (.slice ao' len' cap') ∧ NumAt w' ao' len' cap' (2 ^ n) ∧ Below w.heap.size w w' := by
  subst h
  exact rpow_any n w hn
theorem pow_lt_Bp {m k : Nat} (h : m < 32 * k) : 2 ^ m < Bp k := by rw [Bp_two]; exact Nat.pow_lt_pow_right (by omega) h

set_option maxRecDepth 20000 in
set_option maxHeartbeats 4000000 in
theorem limbTimes_walk (aa : Option Addr) (la ca : Nat) (xs : List Nat) (x n : Int) (w : World) (ha : RowAt w aa la ca xs) (hx : (Lit.int .u32 x).wf = true) (_hn : (Lit.int .i64 n).wf = true) :
    Calls Try.prog 4 #[.slice aa la ca, .int .u32 x, .int .i64 n] w fun e w' => e = .returned (.bool true) ∧ Below w.heap.size w w' := by
  obtain ⟨hx0, hx1⟩ := bounds_u32 hx
  obtain ⟨x, rfl⟩ := Int.eq_ofNat_of_zero_le hx0
  have hxn : x < 4294967296 := by omega
  clear hx hx0 hx1
  by_cases h1 : 60 < la
  · go_enter Try.func4, Try.ntmps4
    go_wp2_with (go_at_call 8; refine (awake_any _).mono ?_; rintro e w' ⟨rfl, hbel⟩)
    go_ret
    exact ⟨rfl, hbel⟩
  have BX := hide (row_lt ha (k := 60) (by omega))
  by_cases hx0 : x = 0
  · have hxb : ((x : Int) != 0) = false := by simp [hx0]
    go_enter Try.func4, Try.ntmps4
    go_wp2_with fail
    refine (over_none _ _ _ _ _ (by omega)).mono ?_
    rintro e w' ⟨rfl, rfl⟩
    have hW1 := Below.refl w.heap.size w
    clear hx0
    have HCL := hide (cl_le n)
    go_wp2_with fail
    all_goals
      refine (rpow_int _ (cl n) _ (by unfold cl; split <;> (try split) <;> omega) (by have := unhide HCL; omega)).mono ?_
      rintro e w6 ⟨a6, l6, c6, rfl, hn6, hw6⟩
      have hW6 := Below.step hW1 hw6
      have hl6 := hn6.len_le (k := 129) (pow_lt_Bp (by have := unhide HCL; omega))
      obtain ⟨ps, hps, nps, vps⟩ := hn6
      have VP := hide vps
      clear vps nps hw6 hW1
      go_wp2_with fail
      have k7 := rdivmod_any _ _ _ xs _ _ _ ps _ (ha.later hW6) hps (by omega) (by omega) (by rw [unhide VP]; exact Nat.pow_pos (by omega))
      rw [unhide VP] at k7
      refine k7.mono ?_
      rintro e w7 ⟨a7, l7, c7, a8, l8, c8, rfl, hn7, hn8, hw7⟩
      have hW7 := Below.step hW6 hw7
      have hp7 := hps.later hw7
      clear k7 hps hw7 hn8 hW6
      go_wp2_with fail
      refine (times_any _ _ _ xs x _ (ha.later hW7) (by omega) hxn).mono ?_
      rintro e w8 ⟨a9, l9, c9, rfl, hn9, hw8⟩
      have hW8 := Below.step hW7 hw8
      have hp8 := hp7.later hw8
      have hd8 := hn7.later hw8
      clear hw8 hp7 hn7 hW7
      go_wp2_with fail
      have r1 : RowAt (w8.alloc (.cells #[.int .u32 (x : Int)] 31)) (some ⟨w8.heap.size, 0, none⟩) 1 1 [x] := rowAt_one rfl hxn
      have hal := (Below.refl w8.heap.size w8).alloc (Nat.le_refl _) (.cells #[.int .u32 (x : Int)] 31)
      have k9 := rmul_any _ _ _ xs _ _ _ [x] _ (ha.later (Below.step hW8 hal)) r1 (by omega) (by omega)
      rw [val_sing] at k9
      refine k9.mono ?_
      rintro e w9 ⟨a10, l10, c10, rfl, hn10, hw9⟩
      have hB9 := Below.step hal hw9
      have hW9 := Below.step hW8 hB9
      have hp9 := hp8.later hB9
      have hd9 := hd8.later hB9
      have ht9 := hn9.later hB9
      clear k9 r1 hal hw9 hB9 hp8 hd8 hn9 hW8
      go_wp2_with fail
      refine (same_true _ _ _ _ _ _ _ _ ht9 hn10).mono ?_
      rintro e w10 ⟨rfl, hw10⟩
      have hW10 := Below.step hW9 hw10
      have hp10 := hp9.later hw10
      have hd10 := hd9.later hw10
      clear hw10 hp9 hd9 ht9 hn10 hW9
      go_wp2_with fail
      refine (left_any _ _ _ xs n _ (ha.later hW10) (by omega)).mono ?_
      rintro e w11 ⟨a11, l11, c11, rfl, hn11, hw11⟩
      have hW11 := Below.step hW10 hw11
      have hp11 := hp10.later hw11
      have hd11 := hd10.later hw11
      clear hw11 hp10 hd10 hW10
      go_wp2_with fail
      have k12 := rmul_any _ _ _ xs _ _ _ ps _ (ha.later hW11) hp11 (by omega) (by omega)
      rw [unhide VP] at k12
      refine k12.mono ?_
      rintro e w12 ⟨a12, l12, c12, rfl, hn12, hw12⟩
      have hW12 := Below.step hW11 hw12
      have hd12 := hd11.later hw12
      have ht12 := hn11.later hw12
      clear k12 hw12 hd11 hn11 hW11 hp11
      go_wp2_with fail
      refine (same_true _ _ _ _ _ _ _ _ ht12 hn12).mono ?_
      rintro e w13 ⟨rfl, hw13⟩
      have hW13 := Below.step hW12 hw13
      have hd13 := hd12.later hw13
      clear hw13 hd12 ht12 hn12 hW12
      go_wp2_with fail
      refine (right_any _ _ _ xs n _ (ha.later hW13) (by omega)).mono ?_
      rintro e w14 ⟨a14, l14, c14, rfl, hn14, hw14⟩
      have hW14 := Below.step hW13 hw14
      have hd14 := hd13.later hw14
      clear hw14 hd13 hW13
      go_wp2_with fail
      refine (same_true _ _ _ _ _ _ _ _ hn14 hd14).mono ?_
      rintro e w15 ⟨rfl, hw15⟩
      have hW15 := Below.step hW14 hw15
      clear hw15 hd14 hn14 hW14
      go_wp2_with fail
      refine (awake_any _).mono ?_
      rintro e w16 ⟨rfl, hw16⟩
      go_wp2_with fail
      go_ret
      exact ⟨rfl, Below.step hW15 hw16⟩
  · have hxb : ((x : Int) != 0) = true := by simp; omega
    go_enter Try.func4, Try.ntmps4
    go_wp2_with fail
    refine (over_yes _ _ _ xs x _ ha (by omega) (by omega) hxn).mono ?_
    rintro e w1 ⟨a1, l1, c1, rfl, hn1, hw1⟩
    obtain ⟨yy, hyy⟩ : ∃ yy, yy = val xs % x := ⟨_, rfl⟩
    have hyl : yy < x := by rw [hyy]; exact Nat.mod_lt _ (by omega)
    rw [← hyy]
    have HY := hide hyy
    clear hyy
    go_wp2_with fail
    have r1 : RowAt (w1.alloc (.cells #[.int .u32 (x : Int)] 31)) (some ⟨w1.heap.size, 0, none⟩) 1 1 [x] := rowAt_one rfl hxn
    have hal := (Below.refl w1.heap.size w1).alloc (Nat.le_refl _) (.cells #[.int .u32 (x : Int)] 31)
    have hWa := Below.step hw1 hal
    have k2 := rdivmod_any _ _ _ xs _ _ _ [x] _ (ha.later hWa) r1 (by omega) (by omega) (by rw [val_sing]; omega)
    rw [val_sing, ← unhide HY] at k2
    refine k2.mono ?_
    rintro e w2 ⟨a2, l2, c2, a3, l3, c3, rfl, hn2, hn3, hw2⟩
    have hW2 := Below.step hWa hw2
    have hq2 := (hn1.later hal).later hw2
    clear k2 r1 hal hWa hw2 hn1 hw1
    go_wp2_with fail
    refine (same_true _ _ _ _ _ _ _ _ hq2 hn2).mono ?_
    rintro e w3 ⟨rfl, hw3⟩
    have hW3 := Below.step hW2 hw3
    have hz3 := hn3.later hw3
    clear hq2 hn2 hn3 hw3 hW2
    go_wp2_with fail
    have r2 : RowAt (w3.alloc (.cells #[.int .u32 (yy : Int)] 31)) (some ⟨w3.heap.size, 0, none⟩) 1 1 [yy] := rowAt_one rfl (by omega)
    have hal := (Below.refl w3.heap.size w3).alloc (Nat.le_refl _) (.cells #[.int .u32 (yy : Int)] 31)
    have k3 := rTrim_any _ _ _ [yy] _ r2 (by omega)
    rw [val_sing] at k3
    refine k3.mono ?_
    rintro e w4 ⟨a4, l4, c4, rfl, hn4, hw4⟩
    have hW4 := Below.step (Below.step hW3 hal) hw4
    have hz4 := (hz3.later hal).later hw4
    clear k3 r2 hal hw4 hz3 hW3
    go_wp2_with fail
    refine (same_true _ _ _ _ _ _ _ _ hn4 hz4).mono ?_
    rintro e w5 ⟨rfl, hw5⟩
    have hW1 := Below.step hW4 hw5
    clear hn4 hz4 hw5 hW4 hyl HY
    have HCL := hide (cl_le n)
    go_wp2_with fail
    all_goals
      refine (rpow_int _ (cl n) _ (by unfold cl; split <;> (try split) <;> omega) (by have := unhide HCL; omega)).mono ?_
      rintro e w6 ⟨a6, l6, c6, rfl, hn6, hw6⟩
      have hW6 := Below.step hW1 hw6
      have hl6 := hn6.len_le (k := 129) (pow_lt_Bp (by have := unhide HCL; omega))
      obtain ⟨ps, hps, nps, vps⟩ := hn6
      have VP := hide vps
      clear vps nps hw6 hW1
      go_wp2_with fail
      have k7 := rdivmod_any _ _ _ xs _ _ _ ps _ (ha.later hW6) hps (by omega) (by omega) (by rw [unhide VP]; exact Nat.pow_pos (by omega))
      rw [unhide VP] at k7
      refine k7.mono ?_
      rintro e w7 ⟨a7, l7, c7, a8, l8, c8, rfl, hn7, hn8, hw7⟩
      have hW7 := Below.step hW6 hw7
      have hp7 := hps.later hw7
      clear k7 hps hw7 hn8 hW6
      go_wp2_with fail
      refine (times_any _ _ _ xs x _ (ha.later hW7) (by omega) hxn).mono ?_
      rintro e w8 ⟨a9, l9, c9, rfl, hn9, hw8⟩
      have hW8 := Below.step hW7 hw8
      have hp8 := hp7.later hw8
      have hd8 := hn7.later hw8
      clear hw8 hp7 hn7 hW7
      go_wp2_with fail
      have r1 : RowAt (w8.alloc (.cells #[.int .u32 (x : Int)] 31)) (some ⟨w8.heap.size, 0, none⟩) 1 1 [x] := rowAt_one rfl hxn
      have hal := (Below.refl w8.heap.size w8).alloc (Nat.le_refl _) (.cells #[.int .u32 (x : Int)] 31)
      have k9 := rmul_any _ _ _ xs _ _ _ [x] _ (ha.later (Below.step hW8 hal)) r1 (by omega) (by omega)
      rw [val_sing] at k9
      refine k9.mono ?_
      rintro e w9 ⟨a10, l10, c10, rfl, hn10, hw9⟩
      have hB9 := Below.step hal hw9
      have hW9 := Below.step hW8 hB9
      have hp9 := hp8.later hB9
      have hd9 := hd8.later hB9
      have ht9 := hn9.later hB9
      clear k9 r1 hal hw9 hB9 hp8 hd8 hn9 hW8
      go_wp2_with fail
      refine (same_true _ _ _ _ _ _ _ _ ht9 hn10).mono ?_
      rintro e w10 ⟨rfl, hw10⟩
      have hW10 := Below.step hW9 hw10
      have hp10 := hp9.later hw10
      have hd10 := hd9.later hw10
      clear hw10 hp9 hd9 ht9 hn10 hW9
      go_wp2_with fail
      refine (left_any _ _ _ xs n _ (ha.later hW10) (by omega)).mono ?_
      rintro e w11 ⟨a11, l11, c11, rfl, hn11, hw11⟩
      have hW11 := Below.step hW10 hw11
      have hp11 := hp10.later hw11
      have hd11 := hd10.later hw11
      clear hw11 hp10 hd10 hW10
      go_wp2_with fail
      have k12 := rmul_any _ _ _ xs _ _ _ ps _ (ha.later hW11) hp11 (by omega) (by omega)
      rw [unhide VP] at k12
      refine k12.mono ?_
      rintro e w12 ⟨a12, l12, c12, rfl, hn12, hw12⟩
      have hW12 := Below.step hW11 hw12
      have hd12 := hd11.later hw12
      have ht12 := hn11.later hw12
      clear k12 hw12 hd11 hn11 hW11 hp11
      go_wp2_with fail
      refine (same_true _ _ _ _ _ _ _ _ ht12 hn12).mono ?_
      rintro e w13 ⟨rfl, hw13⟩
      have hW13 := Below.step hW12 hw13
      have hd13 := hd12.later hw13
      clear hw13 hd12 ht12 hn12 hW12
      go_wp2_with fail
      refine (right_any _ _ _ xs n _ (ha.later hW13) (by omega)).mono ?_
      rintro e w14 ⟨a14, l14, c14, rfl, hn14, hw14⟩
      have hW14 := Below.step hW13 hw14
      have hd14 := hd13.later hw14
      clear hw14 hd13 hW13
      go_wp2_with fail
      refine (same_true _ _ _ _ _ _ _ _ hn14 hd14).mono ?_
      rintro e w15 ⟨rfl, hw15⟩
      have hW15 := Below.step hW14 hw15
      clear hw15 hd14 hn14 hW14
      go_wp2_with fail
      refine (awake_any _).mono ?_
      rintro e w16 ⟨rfl, hw16⟩
      go_wp2_with fail
      go_ret
      exact ⟨rfl, Below.step hW15 hw16⟩
#print axioms limbTimes_walk
end Go.Proofs.Ytpcamgpdebedlaa
