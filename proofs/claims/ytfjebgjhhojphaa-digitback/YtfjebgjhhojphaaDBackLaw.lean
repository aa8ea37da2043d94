/-
  The law DigitBack, walked.
-/
import Derived.Test.YtfjebgjhhojphaaAwake3
namespace Go.Proofs.Ytfjebgjhhojphaa
open Go.RowKit Lb

theorem back_text {N n k : Nat} (hi : IsLen N n) (hn : n ≤ 200) (hk : k < 20) : okS (List.replicate k 48 ++ sgn N n) = true ∧ numS (List.replicate k 48 ++ sgn N n) = N := by
  have h1 := hi.1
  have hok : okS (List.replicate k 48 ++ sgn N n) = true := okS_of (by simp [sgn_length]; omega) (by simp [sgn_length]; omega) (by rw [okD_append, okD_zeros, sgn_ok]; rfl)
  exact ⟨hok, by rw [numS_of hok, ofS_zeros, ofS_sgn, Nat.mod_eq_of_lt hi.2.1]⟩
theorem back_more {N n k e : Nat} (hi : IsLen N n) (hn : n ≤ 200) (hk : k < 20) (he : e < 10) : okS (List.replicate k 48 ++ sgn N n ++ [48 + e]) = true ∧ numS (List.replicate k 48 ++ sgn N n ++ [48 + e]) = N * 10 + e := by
  have h1 := hi.1
  have hd : isD (48 + e) = true := by rw [isD_iff]; omega
  have hok : okS (List.replicate k 48 ++ sgn N n ++ [48 + e]) = true := okS_of (by simp; omega) (by simp [sgn_length]; omega) (by rw [okD_snoc, okD_append, okD_zeros, sgn_ok, hd]; rfl)
  refine ⟨hok, ?_⟩
  rw [numS_of hok, ofS_snoc, ofS_zeros, ofS_sgn, Nat.mod_eq_of_lt hi.2.1]
  omega

set_option maxRecDepth 20000 in
set_option maxHeartbeats 2000000 in
theorem digitBack_walk (a0 : Option Addr) (len0 cap0 : Nat) (xs0 : List Nat) (x d : Int) (w : World) (r0 : RowAt w a0 len0 cap0 xs0) (hx : (Lit.int .u8 x).wf = true) (hd : (Lit.int .u8 d).wf = true) :
    Calls Try.prog 5 #[.slice a0 len0 cap0, .int .u8 x, .int .u8 d] w fun e w' => e = .returned (.bool true) ∧ Below w.heap.size w w' := by
  obtain ⟨hx0, hx1⟩ := bounds_u8 hx
  obtain ⟨x, rfl⟩ := Int.eq_ofNat_of_zero_le hx0
  obtain ⟨hd0, hd1⟩ := bounds_u8 hd
  obtain ⟨d, rfl⟩ := Int.eq_ofNat_of_zero_le hd0
  clear hx hd hx0 hd0
  by_cases hlen : 20 < len0
  · go_enter Try.func5, Try.ntmps5
    go_wp2_with (go_at_call 8; refine (awake_any _).mono ?_; rintro e w' ⟨rfl, hbel⟩)
    go_ret
    exact ⟨rfl, hbel⟩
  have hl : ¬ (20 < (len0 : Int)) := by omega
  have hN := r0.val.lt (k := 20) (by omega)
  obtain ⟨N, hNe⟩ : ∃ N, N = val xs0 := ⟨_, rfl⟩
  rw [← hNe] at hN
  have hv0 : ValAt w a0 len0 cap0 N := ⟨xs0, r0, hNe.symm⟩
  have HN := hide hN
  clear hN hNe r0
  go_enter Try.func5, Try.ntmps5
  go_wp2_with fail
  refine (text_any _ _ _ _ _ hv0 (by omega)).mono ?_
  rintro e w1 ⟨n, s, rfl, hs, hi, hb1⟩
  have hn : n ≤ 200 := isLen_le hi (by omega) (twenty_lt (unhide HN))
  have HI := hide hi
  have HS := hide hs
  obtain ⟨m, hm⟩ : ∃ m, m = x % 20 := ⟨_, rfl⟩
  have hm20 : m < 20 := by omega
  have HM := hide hm
  clear hs hi hm
  go_wp2_with fail
  go_loop [7, 20] (fun t i => ∃ (k : Nat) (sr : ByteArray), k ≤ m ∧ i = .int .u8 k ∧ t = .string sr ∧ byts sr = List.replicate k 48 ++ sgn N n) (fun _ i => m - (intOf i).toNat)
  case atStart => exact ⟨0, s, by omega, rfl, rfl, unhide HS⟩
  case round =>
    obtain ⟨k, sr, hk, rfl, rfl, hsr⟩ := hrel
    have HR := hide hsr
    have hsz : sr.size = k + n := by rw [← byts_length, hsr, List.length_append, List.length_replicate, sgn_length]
    have HSZ := hide hsz
    have hsz2 : sr.size ≤ 300 := by omega
    clear hsr hsz
    by_cases hlt : k < m
    · have hlt2 : (k : Int) < (x : Int) % 20 := by have := unhide HM; omega
      go_wp2
      go_round
      case rel => exact ⟨k + 1, _, by omega, by go_num, rfl, by rw [byts_append, unhide HR, List.replicate_succ]; rfl⟩
      case measure => simp [intOf]; omega
    · have hlt2 : ¬ ((k : Int) < (x : Int) % 20) := by have := unhide HM; omega
      obtain ⟨p1, p2⟩ := back_text (unhide HI) hn (show k < 20 by omega)
      have P1 := hide p1
      have P2 := hide p2
      clear p1 p2
      go_wp2_with fail
      refine (parse_any sr true N _ (by omega) (by rw [unhide HR, unhide P1]) (by rw [unhide HR, unhide P2])).mono ?_
      rintro e w2 ⟨a2, l2, c2, rfl, hn2, hb2⟩
      have hrow := browAt_one (w := w2) (e := 48 + (d : Int) % 10) (48 + d % 10) (by omega) (by omega)
      have hcv := run_string _ _ _ _ _ hrow
      have hsz1 : (strB [48 + d % 10]).size = 1 := strB_size _
      have HBY := hide (byts_strB hrow.small)
      obtain ⟨q1, q2⟩ := back_more (e := d % 10) (unhide HI) hn (show k < 20 by omega) (by omega)
      have Q1 := hide q1
      have Q2 := hide q2
      have hB2 := Below.step hb1 hb2
      clear q1 q2 hrow hb1 hb2
      go_wp2_with fail
      refine (parse_any (sr ++ strB [48 + d % 10]) true (N * 10 + d % 10) _ (by rw [ByteArray.size_append', hsz1]; omega) (by rw [byts_append, unhide HBY, unhide HR, unhide Q1]) (by rw [byts_append, unhide HBY, unhide HR, unhide Q2])).mono ?_
      rintro e w3 ⟨a3, l3, c3, rfl, hn3, hb3⟩
      have hB23 := Below.step (below_one w2 _) hb3
      have hn2' := hn2.later hB23
      have hB3 := Below.step hB2 hB23
      clear hn2 hb3 hB23 hB2 hcv hsz1
      go_wp2_with fail
      refine (trim_num _ _ _ _ _ (hv0.later hB3) (by omega)).mono ?_
      rintro e w4 ⟨a4, l4, c4, rfl, hn4, hb4⟩
      go_wp2_with fail
      refine (same_true _ _ _ _ _ _ _ _ (hn2'.later hb4) hn4).mono ?_
      rintro e w5 ⟨rfl, hb5⟩
      have hB45 := Below.step hb4 hb5
      have hB5 := Below.step hB3 hB45
      have hn3' := hn3.later hB45
      clear hb4 hb5 hB45 hB3 hn3 hn4 hn2'
      go_wp2_with fail
      refine (times_num _ _ _ _ _ 10 _ rfl (hv0.later hB5) (by omega) (by omega)).mono ?_
      rintro e w6 ⟨a6, l6, c6, rfl, hn6, hb6⟩
      have hB6 := Below.step hB5 hb6
      have hn3'' := hn3'.later hb6
      have hl6 : l6 ≤ 21 := hn6.len_le (mul_len (unhide HN) (by omega))
      clear hb6 hn3' hB5
      go_wp2_with fail
      refine (add_num _ _ _ _ _ _ _ (d % 10) _ (hn6.val.later (below_one _ _)) ⟨[d % 10], rowAt_one (by omega) (by omega), val_one _⟩ (by omega) (by omega)).mono ?_
      rintro e w7 ⟨a7, l7, c7, rfl, hn7, hb7⟩
      have hB67 := Below.step (below_one w6 _) hb7
      go_wp2_with fail
      refine (same_true _ _ _ _ _ _ _ _ (hn3''.later hB67) hn7).mono ?_
      rintro e w8 ⟨rfl, hb8⟩
      have hB8 := Below.step hB6 (Below.step hB67 hb8)
      clear hb7 hb8 hB67 hB6 hn7 hn6 hn3''
      go_wp2_with fail
      refine (awake_any _).mono ?_
      rintro e w9 ⟨rfl, hb9⟩
      have hB9 := Below.step hB8 hb9
      clear hB8 hb9
      go_wp2
      go_ret
      exact ⟨rfl, hB9⟩
#print axioms digitBack_walk
end Go.Proofs.Ytfjebgjhhojphaa
