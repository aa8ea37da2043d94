/-
  The walk of LongPows: whatever the two rows and the exponent, it tells true.
-/
import Derived.Test.YtfmdlbhgohmgbaaAwake2
import Derived.Test.YtfmdlbhgohmgbaaVals2
import Derived.Deep.LoopGhost
import Derived.Deep.CutRange
namespace Go.Proofs.Ytfmdlbhgohmgbaa
open Go.RowKit Lb

set_option maxRecDepth 20000 in
set_option maxHeartbeats 2000000 in
theorem longPows_walk (aa : Option Addr) (la ca : Nat) (xs : List Nat) (ab : Option Addr) (lb cb : Nat) (ys : List Nat) (n : Int) (w : World) (ha0 : RowAt w aa la ca xs) (hb0 : RowAt w ab lb cb ys) (_hn : (Lit.int .i64 n).wf = true) :
    Calls Try.prog 4 #[.slice aa la ca, .slice ab lb cb, .int .i64 n] w fun e w' => e = .returned (.bool true) ∧ Below w.heap.size w w' := by
  by_cases h1 : 8 < la
  · go_enter Try.func4, Try.ntmps4
    go_wp2_with (go_at_call 8; refine (awake_any _).mono ?_; rintro e w' ⟨rfl, hbel⟩)
    go_ret
    exact ⟨rfl, hbel⟩
  by_cases h2 : 8 < lb
  · go_enter Try.func4, Try.ntmps4
    go_wp2_with (go_at_call 8; refine (awake_any _).mono ?_; rintro e w' ⟨rfl, hbel⟩)
    go_ret
    exact ⟨rfl, hbel⟩
  have ha := ha0.val
  have hb := hb0.val
  clear ha0 hb0
  generalize val xs = A at ha
  generalize val ys = B at hb
  have hAl := hide (ha.lt (k := 8) (by omega))
  have hBl := hide (hb.lt (k := 8) (by omega))
  obtain ⟨p, hp⟩ : ∃ p, p = pw n := ⟨_, rfl⟩
  have hp64 := pw_le n
  have hmin := pw_min n
  rw [← hp] at hp64 hmin
  have HP := hide hp
  clear hp _hn
  go_enter Try.func4, Try.ntmps4
  go_wp2_with fail
  go_loopg [7, 8] p (fun g v i wr => ∃ (k : Nat) (ao : Option Addr) (len cap : Nat), k ≤ p ∧ g = p - k ∧ i = .int .i64 (k : Int) ∧ v = .slice ao len cap ∧ NumAt wr ao len cap (A ^ k) ∧ Below w.heap.size w wr)
  case atStart => exact ⟨0, _, _, _, by omega, by omega, rfl, rfl, ⟨[1], rowAt_one rfl (by omega), norm_one (by omega), by rw [val_one, Nat.pow_zero]⟩, (Below.refl _ _).alloc (Nat.le_refl _) _⟩
  case round =>
    obtain ⟨k, ao, len, cap, hk, hg, rfl, rfl, hnum, hW⟩ := hrel
    have hlen : len ≤ 513 := by
      refine hnum.len_le (Nat.lt_of_lt_of_le (pow_lt (unhide hAl) k) (Bp_le ?_))
      omega
    have HG := hide hg
    clear hg
    go_upto_region 5 with fail
    go_cut [27] from 23 to 32 (fun s wx => s = .bool (decide (k < p)) ∧ wx = wr)
    case first =>
      go_wp2
      all_goals
        go_meet
        refine ⟨?_, rfl⟩
        congr 1
        apply decide_eq_decide.2
        omega
    case rest =>
      obtain ⟨rfl, rfl⟩ := hcut
      by_cases hlt : k < p
      · have hd : decide (k < p) = true := by simpa using hlt
        clear hmin
        go_wp2_with fail
        refine (rmul_num _ _ _ _ _ _ _ _ _ hnum.val (ha.later hW) (by omega) (by omega)).mono ?_
        rintro e w2 ⟨a2, l2, c2, rfl, hn2, hw2⟩
        rw [show A ^ k * A = A ^ (k + 1) from (Nat.pow_succ _ _).symm] at hn2
        have HN2 := hide hn2
        clear hn2
        go_wp2
        go_roundg (p - (k + 1))
        case measure => have := unhide HG; omega
        case rel => exact ⟨k + 1, a2, l2, c2, by omega, rfl, by go_num, rfl, unhide HN2, Below.step hW hw2⟩
      · have hd : decide (k < p) = false := by simpa using hlt
        obtain rfl : k = p := by omega
        clear hmin HG
        go_wp2_with fail
        refine (rTrim_num _ _ _ _ _ (ha.later hW) (by omega)).mono ?_
        rintro e w2 ⟨a2, l2, c2, rfl, hn2, hw2⟩
        have hW2 := Below.step hW hw2
        have hnum2 := hnum.later hw2
        clear hW hw2 hnum
        go_wp2_with fail
        refine (rTrim_num _ _ _ _ _ (hb.later hW2) (by omega)).mono ?_
        rintro e w3 ⟨a3, l3, c3, rfl, hn3, hw3⟩
        have hW3 := Below.step hW2 hw3
        have hnum3 := hnum2.later hw3
        have hn2 := hn2.later hw3
        clear hW2 hw3 hnum2
        go_wp2_with fail
        go_loopg [9, 10] B (fun g u v wr => ∃ (X : Nat) (a1 : Option Addr) (l1 c1 : Nat) (a2 : Option Addr) (l2 c2 : Nat), u = .slice a1 l1 c1 ∧ v = .slice a2 l2 c2 ∧ NumAt wr a1 l1 c1 X ∧ NumAt wr a2 l2 c2 g ∧ X < Bp 8 ∧ g < Bp 8 ∧ Nat.gcd X g = Nat.gcd A B ∧ NumAt wr ao len cap (A ^ k) ∧ Below w.heap.size w wr)
        case atStart => exact ⟨A, a2, l2, c2, a3, l3, c3, rfl, rfl, hn2, hn3, unhide hAl, unhide hBl, rfl, hnum3, hW3⟩
        case round =>
          obtain ⟨X, a1, l1, c1, a2, l2, c2, rfl, rfl, hn1, hn2, hX, hY, hGX, hnum, hW⟩ := hrel
          have hl1 : l1 ≤ 8 := hn1.len_le hX
          have hl2 : l2 ≤ 8 := hn2.len_le hY
          have HXX := hide hX
          have HYY := hide hY
          have HGX := hide hGX
          clear hX hY hGX hnum3 hW3 hn3
          rcases Nat.eq_zero_or_pos gk with hg0 | hgp
          · subst hg0
            obtain rfl := hn2.len_zero
            have hGe := unhide HGX
            rw [Nat.gcd_zero_right] at hGe
            subst hGe
            clear HGX hn2
            go_wp2_with fail
            refine (pow_num _ _ _ _ _ _ (ha.later hW) (by omega)).mono ?_
            rintro e w4 ⟨a4, l4, c4, rfl, hn4, hw4⟩
            rw [← unhide HP] at hn4
            have hW4 := Below.step hW hw4
            have hnum := hnum.later hw4
            have hn1 := hn1.later hw4
            clear hW hw4
            go_wp2_with fail
            refine (same_true _ _ _ _ _ _ _ _ hn4 hnum).mono ?_
            rintro e w5 ⟨rfl, hw5⟩
            have hW5 := Below.step hW4 hw5
            have hn1 := hn1.later hw5
            clear hW4 hw5 hn4 hnum
            go_wp2_with fail
            refine (gcd_num _ _ _ _ _ _ _ _ _ (ha.later hW5) (hb.later hW5) (by omega) (by omega)).mono ?_
            rintro e w6 ⟨a6, l6, c6, rfl, hn6, hw6⟩
            have hW6 := Below.step hW5 hw6
            have hn1 := hn1.later hw6
            clear hW5 hw6
            go_wp2_with fail
            refine (same_true _ _ _ _ _ _ _ _ hn6 hn1).mono ?_
            rintro e w7 ⟨rfl, hw7⟩
            have hW7 := Below.step hW6 hw7
            have hn1 := hn1.later hw7
            clear hW6 hw7 hn6
            go_wp2_with fail
            refine (gcd_num _ _ _ _ _ _ _ _ _ (hb.later hW7) (ha.later hW7) (by omega) (by omega)).mono ?_
            rintro e w8 ⟨a8, l8, c8, rfl, hn8, hw8⟩
            rw [Nat.gcd_comm] at hn8
            have hW8 := Below.step hW7 hw8
            have hn1 := hn1.later hw8
            clear hW7 hw8
            go_wp2_with fail
            refine (same_true _ _ _ _ _ _ _ _ hn8 hn1).mono ?_
            rintro e w9 ⟨rfl, hw9⟩
            have hW9 := Below.step hW8 hw9
            clear hW8 hw9 hn8 hn1
            go_wp2_with fail
            refine (awake_any _).mono ?_
            rintro e w10 ⟨rfl, hw10⟩
            go_wp2_with fail
            go_ret
            exact ⟨rfl, Below.step hW9 hw10⟩
          · have hl2p := hn2.len_pos hgp
            have hstep := gcd_step X gk
            rw [unhide HGX] at hstep
            have hlt := Nat.mod_lt X hgp
            have HS := hide hstep
            have HLT := hide hlt
            have HGP := hide hgp
            clear hstep hlt hgp
            go_wp2_with fail
            refine (rdivmod_num _ _ _ _ _ _ _ _ _ hn1.val hn2.val (by omega) (by omega) (unhide HGP)).mono ?_
            rintro e w4 ⟨a4, l4, c4, a5, l5, c5, rfl, hn4, hn5, hw4⟩
            have hn2' := hn2.later hw4
            have hnum' := hnum.later hw4
            clear hn4 hn2 hnum hn1
            go_wp2
            go_roundg (X % gk)
            case measure => exact unhide HLT
            case rel => exact ⟨gk, a2, l2, c2, a5, l5, c5, rfl, rfl, hn2', hn5, unhide HYY, Nat.lt_trans (unhide HLT) (unhide HYY), unhide HS, hnum', Below.step hW hw4⟩

#print axioms longPows_walk
end Go.Proofs.Ytfmdlbhgohmgbaa
