/-
  What long.guess tells: the quotient's limb, or 1 more.
-/
import Derived.Test.YtfmdlbhgohmgbaaPart
import Derived.Test.YtfmdlbhgohmgbaaNumDiv
namespace Go.Proofs.Ytfmdlbhgohmgbaa
open Go.RowKit Lb

theorem or_top {n l : Nat} (hn : n < 4294967296) (hl : l < 4294967296) : bits .or .u64 ((n : Int) * 4294967296) (l : Int) = ((n * 4294967296 + l : Nat) : Int) := by
  have e : ((n : Int) * 4294967296) = ((n * 4294967296 : Nat) : Int) := by omega
  rw [e, u64_or_nat _ _ (by omega) (by omega)]
  congr 1
  have := Nat.shiftLeft_add_eq_or_of_lt (b := l) (i := 32) (by omega) n
  rw [Nat.shiftLeft_eq] at this
  exact this.symm

theorem quo_cast64 {X Y : Nat} (hX : X < 18446744073709551616) : IntKind.u64.wrap ((X : Int) / (Y : Int)) = ((X / Y : Nat) : Int) := by
  have h3 := Nat.div_le_self X Y
  rw [show (X : Int) / (Y : Int) = ((X / Y : Nat) : Int) by simp, IntKind.wrap_u64]
  generalize X / Y = q at *
  omega

set_option maxRecDepth 20000 in
set_option maxHeartbeats 1000000 in
theorem guess_any (ap : Option Addr) (cp : Nat) (ps : List Nat) (ab : Option Addr) (lb cb : Nat) (ys : List Nat) (w : World) (hp : RowAt w ap (lb + 1) cp ps) (hb : RowAt w ab lb cb ys)
    (hlb : 2 ≤ lb) (htop : 2147483648 ≤ lim ys (lb - 1)) (hlt : val ps < 4294967296 * val ys) :
    Calls Try.prog 42 #[.slice ap (lb + 1) cp, .slice ab lb cb] w fun e w' => ∃ T : Nat, e = .returned (.int .u32 (T : Int)) ∧ T < 4294967296 ∧ val ps < (T + 1) * val ys ∧ T * val ys < val ps + val ys ∧ ∃ k, w' = w.drewN k := by
  have hm1 := hp.cap_max
  have hm2 := hb.cap_max
  have hc1 := hp.cap_le
  have hc2 := hb.cap_le
  unfold maxLen at hm1 hm2
  obtain ⟨b1, o1, rfl, hb1, hcx⟩ := hp.cells (by omega)
  obtain ⟨b2, o2, rfl, hb2, hcy⟩ := hb.cells (by omega)
  have x2 := hcx lb (by omega)
  have x1 := hcx (lb - 1) (by omega)
  have x0 := hcx (lb - 2) (by omega)
  have y1 := hcy (lb - 1) (by omega)
  have y0 := hcy (lb - 2) (by omega)
  have kx2 := hp.small lb
  have kx1 := hp.small (lb - 1)
  have kx0 := hp.small (lb - 2)
  have ky1 := hb.small (lb - 1)
  have ky0 := hb.small (lb - 2)
  have i1 : (0 : Int) ≤ (lb : Int) - 1 := by omega
  have i2 : (0 : Int) ≤ (lb : Int) - 2 := by omega
  have hP : val ps = pre ps (lb - 2) + ((lim ps lb * 4294967296 + lim ps (lb - 1)) * 4294967296 + lim ps (lb - 2)) * Bp (lb - 2) := by
    have := top_three ps (lb - 2) (by rw [hp.len_eq]; omega)
    rwa [show lb - 2 + 2 = lb by omega, show lb - 2 + 1 = lb - 1 by omega] at this
  have hD : val ys = pre ys (lb - 2) + (lim ys (lb - 1) * 4294967296 + lim ys (lb - 2)) * Bp (lb - 2) := by
    have := top_two ys (lb - 2) (by rw [hb.len_eq]; omega)
    rwa [show lb - 2 + 1 = lb - 1 by omega] at this
  have hpb := pre_lt hp.small (lb - 2)
  have hdb := pre_lt hb.small (lb - 2)
  clear hcx hcy hp hb
  generalize lim ps lb = u2 at *
  generalize lim ps (lb - 1) = u1 at *
  generalize lim ps (lb - 2) = u0 at *
  generalize lim ys (lb - 1) = v1 at *
  generalize lim ys (lb - 2) = v0 at *
  generalize val ps = P at *
  generalize val ys = D at *
  generalize pre ps (lb - 2) = p at *
  generalize pre ys (lb - 2) = d at *
  generalize Bp (lb - 2) = b at *
  obtain ⟨X, hX⟩ : ∃ X : Nat, X = u2 * 4294967296 + u1 := ⟨_, rfl⟩
  have hor : bits .or .u64 ((u2 : Int) * 4294967296) (u1 : Int) = (X : Int) := by rw [hX]; exact or_top kx2 kx1
  have hXl : X < 18446744073709551616 := by omega
  have hv1 : ((v1 : Int) == 0) = false := by simp; omega
  rw [← hX] at hP
  have hXv : X < v1 * 4294967296 + 4294967296 := by
    have h1 : u2 ≤ v1 := guess_top (p := p + u0 * b) (u0 := u1) (b := b) (by rw [hP, ← hX, Nat.add_mul]; omega) hD hdb ky0 hlt
    omega
  have hst := g_start hP hD hpb kx0 (show 0 < v1 by omega)
  have htp := g_top hXv htop
  have hqc := quo_cast64 (Y := v1) hXl
  have HST := hide hst
  have HTP := hide htp
  have HP := hide hP
  have HD := hide hD
  have HLT := hide hlt
  have HXV := hide hXv
  have HPB := hide hpb
  have HDB := hide hdb
  clear hX hP hD hlt hXv hpb hdb hst htp
  go_enter Try.func42, Try.ntmps42
  go_wp2_with fail
  go_step3
  go_wp2_with fail
  go_quiet (fail)
  go_wp2_with fail
  go_quiet (fail)
  go_wp2_with fail
  go_quiet (fail)
  go_wp2_with fail
  go_step3
  go_wp2_with fail
  go_loop [9, 10] (fun t l => ∃ T L : Nat, t = .int .u64 T ∧ l = .int .u64 L ∧ T * v1 + L = X ∧ T ≤ 4294967297 ∧ P < (T + 1) * D) (fun t _ => (intOf t).toNat)
  case atStart =>
    refine ⟨X / v1, X % v1, by simp, by simp, ?_, unhide HTP, unhide HST⟩
    rw [Nat.mul_comm]; exact Nat.div_add_mod X v1
  case round =>
    obtain ⟨T, L, rfl, rfl, hTX, hTl, hPT⟩ := hrel
    have hLX : L ≤ X := by omega
    have hTXh := hide hTX
    have hPTh := hide hPT
    clear hTX hPT
    by_cases hL : L ≤ 4294967295
    · have hor2 : bits .or .u64 ((L : Int) * 4294967296) (u0 : Int) = ((L * 4294967296 + u0 : Nat) : Int) := or_top (by omega) kx0
      by_cases hT : 4294967295 < T
      · have hnew := hide (g_many (T := T) (by omega) (unhide HLT))
        have hdn := hide (g_down (unhide hTXh) (by omega))
        go_wp2
        go_round
        case rel => exact ⟨T - 1, by omega, L + v1, by omega, unhide hdn, by omega, by rw [show T - 1 + 1 = T by omega]; exact unhide hnew⟩
        case measure => simp [intOf]; omega
      · have hmul := mul_fits (a := T) (b := v0) (by omega) ky0
        by_cases hc : L * 4294967296 + u0 < T * v0
        · have hT0 : 0 < T := by
            rcases Nat.eq_zero_or_pos T with e | e
            · subst e; omega
            · exact e
          have hnew := hide (guess_lower (unhide HP) (unhide HD) (unhide HPB) (g_less (unhide hTXh) hc))
          have hdn := hide (g_down (unhide hTXh) hT0)
          go_wp2
          go_round
          case rel => exact ⟨T - 1, by omega, L + v1, by omega, unhide hdn, by omega, by rw [show T - 1 + 1 = T by omega]; exact unhide hnew⟩
          case measure => simp [intOf]; omega
        · have hend := hide (guess_end (unhide HP) (unhide HD) (unhide HDB) (show T < 4294967296 by omega) (by omega) (g_not (unhide hTXh) (by omega)))
          go_wp2
          try rw [Exit.noGoto_ret]
          go_ret
          exact ⟨T, by simp, by omega, unhide hPTh, unhide hend, _, rfl⟩
    · have hT := g_fits (unhide hTXh) (by omega) (unhide HXV)
      have hend := hide (guess_end (unhide HP) (unhide HD) (unhide HDB) hT (by omega) (g_not (unhide hTXh) (g_far hT ky0 (by omega))))
      go_wp2
      try rw [Exit.noGoto_ret]
      go_ret
      exact ⟨T, by simp, by omega, unhide hPTh, unhide hend, _, rfl⟩

#print axioms guess_any
end Go.Proofs.Ytfmdlbhgohmgbaa
