/-
  What long.Gcd does: the greatest number that divides both.
-/
import Derived.Test.YtfmdlbhgohmgbaaDivMod
import Derived.Deep.LoopGhost
namespace Go.Proofs.Ytfmdlbhgohmgbaa
open Go.RowKit Lb

theorem gcd_step (x y : Nat) : Nat.gcd y (x % y) = Nat.gcd x y := by rw [Nat.gcd_comm x y, Nat.gcd_rec y x, Nat.gcd_comm]

set_option maxHeartbeats 400000 in
theorem wordGcd_any (x y : Nat) (w : World) (hx : x < 18446744073709551616) (hy : y < 18446744073709551616) :
    Calls Try.prog 38 #[.int .u64 (x : Int), .int .u64 (y : Int)] w fun e w' => e = .returned (.int .u64 (Nat.gcd x y : Int)) ∧ Nat.gcd x y < 18446744073709551616 ∧ Below w.heap.size w w' := by
  obtain ⟨G, hG⟩ : ∃ G, G = Nat.gcd x y := ⟨_, rfl⟩
  rw [← hG]
  go_enter Try.func38, Try.ntmps38
  go_wp2_with fail
  go_loopw [0, 1] (fun u v wr => ∃ (X Y : Nat), u = .int .u64 (X : Int) ∧ v = .int .u64 (Y : Int) ∧ X < 18446744073709551616 ∧ Y < 18446744073709551616 ∧ Nat.gcd X Y = G ∧ Below w.heap.size w wr) (fun _ v _ => (intOf v).toNat)
  case atStart => exact ⟨x, y, rfl, rfl, hx, hy, hG.symm, Below.refl _ _⟩
  case round =>
    obtain ⟨X, Y, rfl, rfl, hX, hY, hGX, hw⟩ := hrel
    by_cases h0 : Y = 0
    · subst h0
      rw [Nat.gcd_zero_right] at hGX
      subst hGX
      clear hG
      go_wp2
      go_ret
      exact ⟨rfl, hX, hw⟩
    · have hstep := gcd_step X Y
      rw [hGX] at hstep
      have hlt := Nat.mod_lt X (show 0 < Y by omega)
      have HS := hide hstep
      have hY0 : 0 < Y := by omega
      have hY1 : (1 : Int) ≤ (Y : Int) := by omega
      have hYb : ((Y : Int) == 0) = false := by simp; omega
      clear hstep hGX hG
      go_wp2
      go_quiet (fail)
      go_wp2
      go_roundw
      case rel => exact ⟨Y, X % Y, rfl, by simp, hY, by omega, unhide HS, below_drewN hw _⟩
      case measure => simp [intOf]; omega

set_option maxRecDepth 20000 in
set_option maxHeartbeats 1000000 in
theorem lgcd_any (aa : Option Addr) (la ca : Nat) (xs : List Nat) (ab : Option Addr) (lb cb : Nat) (ys : List Nat) (w : World) (ha : RowAt w aa la ca xs) (hb : RowAt w ab lb cb ys) (hla : la ≤ 10000000) (hlb : lb ≤ 10000000) :
    Calls Try.prog 17 #[.slice aa la ca, .slice ab lb cb] w fun e w' => ∃ ao' len' cap', e = .returned (.slice ao' len' cap') ∧ NumAt w' ao' len' cap' (Nat.gcd (val xs) (val ys)) ∧ Below w.heap.size w w' := by
  obtain ⟨G, hG⟩ : ∃ G, G = Nat.gcd (val xs) (val ys) := ⟨_, rfl⟩
  rw [← hG]
  obtain ⟨K, hK1, hK2⟩ : ∃ K, 10000000 ≤ K ∧ K ≤ 10000000 := ⟨10000000, by omega, by omega⟩
  have hxl : val xs < Bp K := by
    have := val_lt ha.small
    rw [ha.len_eq] at this
    exact Nat.lt_of_lt_of_le this (Bp_le (by omega))
  have hyl : val ys < Bp K := by
    have := val_lt hb.small
    rw [hb.len_eq] at this
    exact Nat.lt_of_lt_of_le this (Bp_le (by omega))
  have HX := hide hxl
  have HY := hide hyl
  have HG := hide hG
  clear hxl hyl hG
  go_enter Try.func17, Try.ntmps17
  go_wp2_with fail
  refine (trim_any _ _ _ xs _ ha hla).mono ?_
  rintro e w1 ⟨a1, l1, c1, rfl, hn1, hw1⟩
  go_wp2_with fail
  refine (trim_any _ _ _ ys _ (hb.later hw1) hlb).mono ?_
  rintro e w2 ⟨a2, l2, c2, rfl, hn2, hw2⟩
  have hn1' := hn1.later hw2
  have hW := Below.step hw1 hw2
  clear hn1 hw1 hw2
  go_wp2_with fail
  go_loopg [0, 1] (val ys) (fun g u v wr => ∃ (X : Nat) (a1 : Option Addr) (l1 c1 : Nat) (a2 : Option Addr) (l2 c2 : Nat), u = .slice a1 l1 c1 ∧ v = .slice a2 l2 c2 ∧ NumAt wr a1 l1 c1 X ∧ NumAt wr a2 l2 c2 g ∧ X < Bp K ∧ g < Bp K ∧ Nat.gcd X g = G ∧ Below w.heap.size w wr)
  case atStart => exact ⟨val xs, a1, l1, c1, a2, l2, c2, rfl, rfl, hn1', hn2, unhide HX, unhide HY, (unhide HG).symm, hW⟩
  case round =>
    obtain ⟨X, a1, l1, c1, a2, l2, c2, rfl, rfl, hn1, hn2, hX, hY, hGX, hw⟩ := hrel
    have hl1 : l1 ≤ K := hn1.len_le hX
    have hl2 : l2 ≤ K := hn2.len_le hY
    have HXX := hide hX
    have HYY := hide hY
    have HGX := hide hGX
    clear hX hY hGX hn1' hW
    by_cases h0 : l2 = 0
    · subst h0
      have hg0 : gk = 0 := by
        obtain ⟨zs, hz, _, vz⟩ := hn2
        rw [← vz, List.eq_nil_of_length_eq_zero hz.len_eq, val_nil]
      subst hg0
      have hGe := unhide HGX
      rw [Nat.gcd_zero_right] at hGe
      have HGE := hide hGe
      clear hGe
      go_wp2
      go_ret
      exact ⟨_, _, _, rfl, by rw [← unhide HGE]; exact hn1, hw⟩
    · obtain ⟨zs1, hz1, nz1, vz1⟩ := hn1
      obtain ⟨zs2, hz2, nz2, vz2⟩ := hn2
      have hgp : 0 < gk := by
        have h1 := norm_ge nz2 (by rw [hz2.len_eq]; omega)
        have h2 := Bp_pos (zs2.length - 1)
        omega
      have hl2p : 0 < l2 := by omega
      by_cases hs : l1 ≤ 2 ∧ l2 ≤ 2
      · obtain ⟨hs1, hs2⟩ := hs
        have b1 : X < 18446744073709551616 := by
          have := Nat.lt_of_lt_of_le (val_lt hz1.small) (Bp_le (show zs1.length ≤ 2 by rw [hz1.len_eq]; exact hs1))
          rwa [show Bp 2 = 18446744073709551616 from rfl, vz1] at this
        have b2 : gk < 18446744073709551616 := by
          have := Nat.lt_of_lt_of_le (val_lt hz2.small) (Bp_le (show zs2.length ≤ 2 by rw [hz2.len_eq]; exact hs2))
          rwa [show Bp 2 = 18446744073709551616 from rfl, vz2] at this
        have k1 := word_any _ _ _ zs1 _ hz1 hs1
        have k2 := word_any _ _ _ zs2 _ hz2 hs2
        have k3 := wordGcd_any X gk wr b1 b2
        rw [vz1] at k1
        rw [vz2] at k2
        rw [unhide HGX] at k3
        have hmax : max l1 l2 ≤ 2 := by omega
        have K1 := hide k1
        have K2 := hide k2
        have K3 := hide k3
        clear k1 k2 k3 vz1 vz2 nz1 nz2 b1 b2
        go_wp2_with fail
        all_goals
          refine (unhide K1).mono ?_
          rintro e w' ⟨rfl, rfl⟩
          go_wp2_with fail
          refine (unhide K2).mono ?_
          rintro e w' ⟨rfl, rfl⟩
          go_wp2_with fail
          refine (unhide K3).mono ?_
          rintro e w3 ⟨rfl, hGl, hw3⟩
          go_wp2_with fail
          refine (row_any G w3 hGl).mono ?_
          rintro e w4 ⟨a4, l4, c4, rfl, hn4, hw4⟩
          go_wp2
          go_ret
          exact ⟨_, _, _, rfl, hn4, Below.step (Below.step hw hw3) hw4⟩
      · have k1 := divmod_yes _ _ _ zs1 _ _ _ zs2 wr hz1 hz2 (by omega) (by omega) (by rw [vz2]; exact hgp)
        rw [vz1, vz2] at k1
        have hstep := gcd_step X gk
        rw [unhide HGX] at hstep
        have hlt := Nat.mod_lt X hgp
        have HS := hide hstep
        have HLT := hide hlt
        have K1 := hide k1
        have hn2 : NumAt wr a2 l2 c2 gk := ⟨zs2, hz2, nz2, vz2⟩
        have hmax : 2 < l1 ∨ 2 < l2 := by omega
        clear k1 hstep hlt vz1 vz2 nz1 nz2 hz1 hz2 hs
        rcases hmax with hmax | hmax
        all_goals
          go_wp2_with fail
          all_goals
            refine (unhide K1).mono ?_
            rintro e w3 ⟨a3, l3, c3, a4, l4, c4, rfl, hn3, hn4, hw3⟩
            clear hn3
            have hn2' := hn2.later hw3
            go_wp2
            go_roundg (X % gk)
            case measure => exact unhide HLT
            case rel => exact ⟨gk, a2, l2, c2, a4, l4, c4, rfl, rfl, hn2', hn4, unhide HYY, Nat.lt_trans (unhide HLT) (unhide HYY), unhide HS, Below.step hw hw3⟩

#print axioms lgcd_any
#print axioms wordGcd_any
end Go.Proofs.Ytfmdlbhgohmgbaa
