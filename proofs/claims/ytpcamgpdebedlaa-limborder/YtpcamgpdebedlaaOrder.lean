/-
  The walk of LimbOrder: sums keep the order, and bits tell between which powers of 2 a number is: it tells true.
-/
import Derived.Test.YtpcamgpdebedlaaBack
namespace Go.Proofs.Ytpcamgpdebedlaa
open Go.RowKit Lb

theorem cmpI_neg (a b : Nat) : cmpI b a = -cmpI a b := by
  rcases Nat.lt_trichotomy a b with h | h | h
  · rw [cmpI_lt h, cmpI_gt h]; rfl
  · rw [cmpI_eq h, cmpI_eq h.symm]; rfl
  · rw [cmpI_lt h, cmpI_gt h]
theorem cmpI_add (a b c : Nat) : cmpI (a + c) (b + c) = cmpI a b := by
  rcases Nat.lt_trichotomy a b with h | h | h
  · rw [cmpI_lt h, cmpI_lt (by omega)]
  · rw [cmpI_eq h, cmpI_eq (by omega)]
  · rw [cmpI_gt h, cmpI_gt (by omega)]
theorem cmpI_ge {a b : Nat} (h : b ≤ a) : 0 ≤ cmpI a b := by
  rcases Nat.eq_or_lt_of_le h with e | e
  · rw [cmpI_eq e.symm]; omega
  · rw [cmpI_gt e]; omega
theorem cmpI_le {a b : Nat} (h : a ≤ b) : cmpI a b ≤ 0 := by
  have := cmpI_ge h
  have e := cmpI_neg b a
  omega
theorem cl_nat {n : Nat} (h : n ≤ 4096) : cl (n : Int) = n := by
  rcases Nat.eq_zero_or_pos n with e | e
  · subst e; exact cl_lo (by omega)
  · rcases Nat.eq_or_lt_of_le h with e2 | e2
    · rw [cl_hi (by omega), e2]
    · rw [cl_mid (by omega) (by omega)]; omega

theorem bits_le {N n k : Nat} (h : IsBits N n) (hN : N < Bp k) : n ≤ 32 * k := by
  rcases h with ⟨_, h⟩ | ⟨h1, h2, _⟩
  · omega
  · rcases Nat.lt_or_ge (32 * k) n with c | c
    · have h3 : 2 ^ (32 * k) ≤ 2 ^ (n - 1) := Nat.pow_le_pow_right (by omega) (by omega)
      rw [← Bp_two] at h3
      omega
    · exact c

set_option maxRecDepth 20000 in
set_option maxHeartbeats 2000000 in
theorem limbOrder_walk (aa : Option Addr) (la ca : Nat) (xs : List Nat) (ab : Option Addr) (lb cb : Nat) (ys : List Nat) (ac : Option Addr) (lc cc : Nat) (zs : List Nat) (w : World) (ha : RowAt w aa la ca xs) (hb : RowAt w ab lb cb ys) (hc : RowAt w ac lc cc zs) :
    Calls Try.prog 7 #[.slice aa la ca, .slice ab lb cb, .slice ac lc cc] w fun e w' => e = .returned (.bool true) ∧ Below w.heap.size w w' := by
  by_cases h1 : 60 < la
  · go_enter Try.func7, Try.ntmps7
    go_wp2_with (go_at_call 8; refine (awake_any _).mono ?_; rintro e w' ⟨rfl, hbel⟩)
    go_ret
    exact ⟨rfl, hbel⟩
  by_cases h2 : 60 < lb
  · go_enter Try.func7, Try.ntmps7
    go_wp2_with (go_at_call 8; refine (awake_any _).mono ?_; rintro e w' ⟨rfl, hbel⟩)
    go_ret
    exact ⟨rfl, hbel⟩
  by_cases h3 : 60 < lc
  · go_enter Try.func7, Try.ntmps7
    go_wp2_with (go_at_call 8; refine (awake_any _).mono ?_; rintro e w' ⟨rfl, hbel⟩)
    go_ret
    exact ⟨rfl, hbel⟩
  have BX := hide (row_lt ha (k := 60) (by omega))
  have BY := hide (row_lt hb (k := 60) (by omega))
  have BZ := hide (row_lt hc (k := 60) (by omega))
  go_enter Try.func7, Try.ntmps7
  go_wp2_with fail
  refine (cmp_any _ _ _ xs _ _ _ ys _ ha hb).mono ?_
  rintro e w1 ⟨rfl, hW1⟩
  have hbd1 := (cmpI_bd (val xs) (val ys)).1
  have hbd2 := (cmpI_bd (val xs) (val ys)).2
  go_wp2_with fail
  have k1 := cmp_any _ _ _ ys _ _ _ xs _ (hb.later hW1) (ha.later hW1)
  rw [cmpI_neg] at k1
  refine k1.mono ?_
  rintro e w2 ⟨rfl, hw2⟩
  have hW2 := Below.step hW1 hw2
  clear k1 hw2 hW1
  go_wp2_with fail
  refine (add_any _ _ _ xs _ _ _ zs _ (ha.later hW2) (hc.later hW2) (by omega) (by omega)).mono ?_
  rintro e w3 ⟨a3, l3, c3, rfl, ⟨us, hu, nu, vu⟩, hw3⟩
  have hW3 := Below.step hW2 hw3
  have VU := hide vu
  clear vu nu hw3 hW2
  go_wp2_with fail
  refine (add_any _ _ _ ys _ _ _ zs _ (hb.later hW3) (hc.later hW3) (by omega) (by omega)).mono ?_
  rintro e w4 ⟨a4, l4, c4, rfl, ⟨vs, hv, nv, vv⟩, hw4⟩
  have hW4 := Below.step hW3 hw4
  have hu4 := hu.later hw4
  have VV := hide vv
  clear vv nv hw4 hW3 hu
  go_wp2_with fail
  have k2 := cmp_any _ _ _ us _ _ _ vs _ hu4 hv
  rw [unhide VU, unhide VV, cmpI_add] at k2
  refine k2.mono ?_
  rintro e w5 ⟨rfl, hw5⟩
  have hW5 := Below.step hW4 hw5
  clear k2 hw5 hW4 hu4 hv VU VV
  go_wp2_with fail
  refine (add_any _ _ _ xs _ _ _ ys _ (ha.later hW5) (hb.later hW5) (by omega) (by omega)).mono ?_
  rintro e w6 ⟨a6, l6, c6, rfl, ⟨us, hu, nu, vu⟩, hw6⟩
  have hW6 := Below.step hW5 hw6
  have VU := hide vu
  clear vu nu hw6 hW5
  go_wp2_with fail
  have k3 := cmp_any _ _ _ us _ _ _ xs _ hu (ha.later hW6)
  rw [unhide VU] at k3
  have hge := cmpI_ge (Nat.le_add_right (val xs) (val ys))
  refine k3.mono ?_
  rintro e w7 ⟨rfl, hw7⟩
  have hW7 := Below.step hW6 hw7
  clear k3 hw7 hW6 hu VU
  go_wp2_with fail
  refine (bits_any _ _ _ xs _ (ha.later hW7) (by omega)).mono ?_
  rintro e w' ⟨n, rfl, hn, rfl⟩
  clear hge hbd1 hbd2
  have hnle := bits_le hn (unhide BX)
  rcases hn with ⟨hA, hn0⟩ | ⟨hn1, hlo, hhi⟩
  · have hnb : ((n : Int) == 0) = true := by simp [hn0]
    have HA := hide hA
    clear hA hn0
    go_wp2_with fail
    refine (trim_any _ _ _ xs _ (ha.later hW7) (by omega)).mono ?_
    rintro e w8 ⟨a8, l8, c8, rfl, hn8, hw8⟩
    have hW8 := Below.step hW7 hw8
    have hl8 := hn8.len_le (k := 0) (by rw [unhide HA]; exact Bp_pos 0)
    have hlb8 : ((l8 : Int) == 0) = true := by simp; omega
    clear hn8 hw8 hW7 hl8
    go_wp2_with fail
    refine (awake_any _).mono ?_
    rintro e w9 ⟨rfl, hw9⟩
    go_wp2_with fail
    go_ret
    exact ⟨rfl, Below.step hW8 hw9⟩
  · have hnb : ((n : Int) == 0) = false := by simp; omega
    have hcl1 : cl (n : Int) = n := cl_nat (by omega)
    have hcl2 : cl ((n : Int) - 1) = n - 1 := by rw [show (n : Int) - 1 = ((n - 1 : Nat) : Int) by omega]; exact cl_nat (by omega)
    have C1 := hide hcl1
    have C2 := hide hcl2
    have HLO := hide hlo
    have HHI := hide hhi
    clear hcl1 hcl2 hlo hhi
    go_wp2_with fail
    have r1 : RowAt (w7.alloc (.cells #[.int .u32 1] 31)) (some ⟨w7.heap.size, 0, none⟩) 1 1 [1] := rowAt_one (v := 1) rfl (by omega)
    have kl := left_any _ _ _ [1] (n : Int) _ r1 (by omega)
    rw [val_one, Nat.one_mul, unhide C1] at kl
    refine kl.mono ?_
    rintro e w8 ⟨a8, l8, c8, rfl, ⟨us, hu, nu, vu⟩, hw8⟩
    have hW8 : Below w.heap.size w w8 := Below.step hW7 (((Below.refl _ _).alloc (Nat.le_refl _) _).trans (hw8.mono (by simp)))
    have VU := hide vu
    clear kl r1 vu nu hw8 hW7
    go_wp2_with fail
    have kc := cmp_any _ _ _ us _ _ _ xs _ hu (ha.later hW8)
    rw [unhide VU, cmpI_gt (unhide HHI)] at kc
    refine kc.mono ?_
    rintro e w9 ⟨rfl, hw9⟩
    have hW9 := Below.step hW8 hw9
    clear kc hu VU hw9 hW8
    go_wp2_with fail
    have r2 : RowAt (w9.alloc (.cells #[.int .u32 1] 31)) (some ⟨w9.heap.size, 0, none⟩) 1 1 [1] := rowAt_one (v := 1) rfl (by omega)
    have kl2 := left_any _ _ _ [1] ((n : Int) - 1) _ r2 (by omega)
    rw [val_one, Nat.one_mul, unhide C2] at kl2
    refine kl2.mono ?_
    rintro e w10 ⟨a10, l10, c10, rfl, ⟨us, hu, nu, vu⟩, hw10⟩
    have hW10 : Below w.heap.size w w10 := Below.step hW9 (((Below.refl _ _).alloc (Nat.le_refl _) _).trans (hw10.mono (by simp)))
    have VU := hide vu
    clear kl2 r2 vu nu hw10 hW9
    go_wp2_with fail
    have kc2 := cmp_any _ _ _ us _ _ _ xs _ hu (ha.later hW10)
    have hle := cmpI_le (unhide HLO)
    rw [unhide VU] at kc2
    generalize cmpI (2 ^ (n - 1)) (val xs) = cv at kc2 hle
    refine kc2.mono ?_
    rintro e w11 ⟨rfl, hw11⟩
    have hW11 := Below.step hW10 hw11
    clear kc2 hu VU hw11 hW10
    go_wp2_with fail
    refine (awake_any _).mono ?_
    rintro e w12 ⟨rfl, hw12⟩
    go_wp2_with fail
    go_ret
    exact ⟨rfl, Below.step hW11 hw12⟩

#print axioms limbOrder_walk
end Go.Proofs.Ytpcamgpdebedlaa
