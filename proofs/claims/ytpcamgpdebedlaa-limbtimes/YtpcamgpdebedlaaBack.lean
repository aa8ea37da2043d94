/-
  The walk of LimbBack: Sub undoes Add, Over undoes Times, Right undoes Left: it tells true.
-/
import Derived.Test.YtpcamgpdebedlaaSums
import Derived.Test.YtpcamgpdebedlaaTimes
import Derived.Test.YtpcamgpdebedlaaLeft
import Derived.Test.YtpcamgpdebedlaaRight
namespace Go.Proofs.Ytpcamgpdebedlaa
open Go.RowKit Lb

theorem left_len {N l : Nat} (n : Int) (h : N < Bp l) : N * 2 ^ cl n < Bp (l + 128) := by
  have h1 := cl_le n
  have h2 : 2 ^ cl n ≤ Bp 128 := pow_le_Bp (by omega)
  rw [Bp_add]
  exact Nat.mul_lt_mul_of_lt_of_le h h2 (Bp_pos _)
theorem add_len {M N k : Nat} (h : M < Bp k) (g : N < Bp k) : M + N < Bp (k + 1) := by
  rw [Bp_succ]; omega
theorem mul_len {M x k : Nat} (h : M < Bp k) (g : x < 4294967296) : M * x < Bp (k + 1) := by
  rw [Bp_succ]
  exact Nat.mul_lt_mul_of_lt_of_le h (Nat.le_of_lt g) (by omega)
theorem row_lt {w : World} {ao : Option Addr} {len cap : Nat} {xs : List Nat} (h : RowAt w ao len cap xs) {k : Nat} (hk : len ≤ k) : val xs < Bp k := by
  have h1 := val_lt h.small
  rw [h.len_eq] at h1
  exact Nat.lt_of_lt_of_le h1 (Bp_le hk)

set_option maxRecDepth 20000 in
set_option maxHeartbeats 2000000 in
theorem limbBack_walk (aa : Option Addr) (la ca : Nat) (xs : List Nat) (ab : Option Addr) (lb cb : Nat) (ys : List Nat) (x n : Int) (w : World) (ha : RowAt w aa la ca xs) (hb : RowAt w ab lb cb ys) (hx : (Lit.int .u32 x).wf = true) (_hn : (Lit.int .i64 n).wf = true) :
    Calls Try.prog 5 #[.slice aa la ca, .slice ab lb cb, .int .u32 x, .int .i64 n] w fun e w' => e = .returned (.bool true) ∧ Below w.heap.size w w' := by
  obtain ⟨hx0, hx1⟩ := bounds_u32 hx
  obtain ⟨x, rfl⟩ := Int.eq_ofNat_of_zero_le hx0
  have hxn : x < 4294967296 := by omega
  clear hx hx0 hx1
  by_cases h1 : 60 < la
  · go_enter Try.func5, Try.ntmps5
    go_wp2_with (go_at_call 8; refine (awake_any _).mono ?_; rintro e w' ⟨rfl, hbel⟩)
    go_ret
    exact ⟨rfl, hbel⟩
  · by_cases h2 : 60 < lb
    · go_enter Try.func5, Try.ntmps5
      go_wp2_with (go_at_call 8; refine (awake_any _).mono ?_; rintro e w' ⟨rfl, hbel⟩)
      go_ret
      exact ⟨rfl, hbel⟩
    · have bx : val xs < Bp 60 := row_lt ha (by omega)
      have bY : val ys < Bp 60 := row_lt hb (by omega)
      have BX := hide bx
      have BY := hide bY
      clear bx bY
      go_enter Try.func5, Try.ntmps5
      go_wp2_with fail
      refine (add_any _ _ _ xs _ _ _ ys _ ha hb (by omega) (by omega)).mono ?_
      rintro e w1 ⟨a1, l1, c1, rfl, hn1, hw1⟩
      have hl1 := hn1.len_le (add_len (unhide BX) (unhide BY))
      obtain ⟨zs, hz, nz, vz⟩ := hn1
      have VZ := hide vz
      clear vz nz
      go_wp2_with fail
      have ks := sub_yes _ _ _ zs _ _ _ ys _ hz (hb.later hw1) (by omega) (by rw [unhide VZ]; omega)
      rw [unhide VZ, Nat.add_sub_cancel] at ks
      refine ks.mono ?_
      rintro e w2 ⟨a2, l2, c2, rfl, hn2, hw2⟩
      have hW2 := Below.step hw1 hw2
      clear ks hz hw1 hw2 VZ
      go_wp2_with fail
      refine (times_any _ _ _ xs x _ (ha.later hW2) (by omega) hxn).mono ?_
      rintro e w3 ⟨a3, l3, c3, rfl, hn3, hw3⟩
      have hW3 := Below.step hW2 hw3
      have hs3 := hn2.later hw3
      have hl3 := hn3.len_le (mul_len (unhide BX) hxn)
      obtain ⟨us, hu, nu, vu⟩ := hn3
      have VU := hide vu
      clear vu nu hw3 hn2 hW2
      go_wp2_with fail
      by_cases hx0 : x = 0
      · have hxb : ((x : Int) != 0) = false := by simp [hx0]
        refine (over_none _ _ _ _ _ (by omega)).mono ?_
        rintro e w' ⟨rfl, rfl⟩
        have hs4 := hs3
        have hW4 := hW3
        clear hu VU hs3 hW3
        go_wp2_with fail
        refine (trim_any _ _ _ xs _ (ha.later hW4) (by omega)).mono ?_
        rintro e w5 ⟨a5, l5, c5, rfl, hn5, hw5⟩
        have hW5 := Below.step hW4 hw5
        have hs5 := hs4.later hw5
        clear hw5 hs4 hW4
        go_wp2_with fail
        refine (same_true _ _ _ _ _ _ _ _ hs5 hn5).mono ?_
        rintro e w6 ⟨rfl, hw6⟩
        have hW6 := Below.step hW5 hw6
        have ht6 := hn5.later hw6
        clear hw6 hn5 hs5 hW5
        go_wp2_with fail
        have hW7 := hW6
        have ht7 := ht6
        clear ht6 hW6
        refine (left_any _ _ _ xs n _ (ha.later hW7) (by omega)).mono ?_
        rintro e w8 ⟨a8, l8, c8, rfl, hn8, hw8⟩
        have hW8 := Below.step hW7 hw8
        have ht8 := ht7.later hw8
        have hl8 := hn8.len_le (left_len n (unhide BX))
        obtain ⟨vs, hv, nv, vv⟩ := hn8
        have VV := hide vv
        clear vv nv hw8 ht7 hW7
        go_wp2_with fail
        have kr := right_any _ _ _ vs n _ hv (by omega)
        rw [unhide VV, Nat.mul_div_cancel _ (Nat.pow_pos (show 0 < 2 by omega))] at kr
        refine kr.mono ?_
        rintro e w9 ⟨a9, l9, c9, rfl, hn9, hw9⟩
        have hW9 := Below.step hW8 hw9
        have ht9 := ht8.later hw9
        clear kr hv VV hw9 ht8 hW8
        go_wp2_with fail
        refine (same_true _ _ _ _ _ _ _ _ hn9 ht9).mono ?_
        rintro e w10 ⟨rfl, hw10⟩
        have hW10 := Below.step hW9 hw10
        clear hn9 ht9 hw10 hW9
        go_wp2_with fail
        refine (awake_any _).mono ?_
        rintro e w11 ⟨rfl, hw11⟩
        go_wp2_with fail
        go_ret
        exact ⟨rfl, Below.step hW10 hw11⟩
      · have hxb : ((x : Int) != 0) = true := by simp; omega
        have ko := over_yes _ _ _ us x _ hu (by omega) (by omega) hxn
        rw [unhide VU, Nat.mul_mod_left, Nat.mul_div_cancel _ (show 0 < x by omega)] at ko
        refine ko.mono ?_
        rintro e w4 ⟨a4, l4, c4, rfl, hn4, hw4⟩
        have hW4 := Below.step hW3 hw4
        have hs4 := hs3.later hw4
        clear ko hu VU hw4 hs3 hW3
        go_wp2_with fail
        refine (trim_any _ _ _ xs _ (ha.later hW4) (by omega)).mono ?_
        rintro e w5 ⟨a5, l5, c5, rfl, hn5, hw5⟩
        have hW5 := Below.step hW4 hw5
        have hs5 := hs4.later hw5
        have hq5 := hn4.later hw5
        clear hw5 hs4 hn4 hW4
        go_wp2_with fail
        refine (same_true _ _ _ _ _ _ _ _ hs5 hn5).mono ?_
        rintro e w6 ⟨rfl, hw6⟩
        have hW6 := Below.step hW5 hw6
        have hq6 := hq5.later hw6
        have ht6 := hn5.later hw6
        clear hw6 hq5 hn5 hs5 hW5
        go_wp2_with fail
        refine (same_true _ _ _ _ _ _ _ _ hq6 ht6).mono ?_
        rintro e w7 ⟨rfl, hw7⟩
        have hW7 := Below.step hW6 hw7
        have ht7 := ht6.later hw7
        clear hw7 hq6 ht6 hW6
        go_wp2_with fail
        refine (left_any _ _ _ xs n _ (ha.later hW7) (by omega)).mono ?_
        rintro e w8 ⟨a8, l8, c8, rfl, hn8, hw8⟩
        have hW8 := Below.step hW7 hw8
        have ht8 := ht7.later hw8
        have hl8 := hn8.len_le (left_len n (unhide BX))
        obtain ⟨vs, hv, nv, vv⟩ := hn8
        have VV := hide vv
        clear vv nv hw8 ht7 hW7
        go_wp2_with fail
        have kr := right_any _ _ _ vs n _ hv (by omega)
        rw [unhide VV, Nat.mul_div_cancel _ (Nat.pow_pos (show 0 < 2 by omega))] at kr
        refine kr.mono ?_
        rintro e w9 ⟨a9, l9, c9, rfl, hn9, hw9⟩
        have hW9 := Below.step hW8 hw9
        have ht9 := ht8.later hw9
        clear kr hv VV hw9 ht8 hW8
        go_wp2_with fail
        refine (same_true _ _ _ _ _ _ _ _ hn9 ht9).mono ?_
        rintro e w10 ⟨rfl, hw10⟩
        have hW10 := Below.step hW9 hw10
        clear hn9 ht9 hw10 hW9
        go_wp2_with fail
        refine (awake_any _).mono ?_
        rintro e w11 ⟨rfl, hw11⟩
        go_wp2_with fail
        go_ret
        exact ⟨rfl, Below.step hW10 hw11⟩

#print axioms limbBack_walk
end Go.Proofs.Ytpcamgpdebedlaa
