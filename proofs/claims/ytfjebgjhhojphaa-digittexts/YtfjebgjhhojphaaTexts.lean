/-
  The law DigitTexts, walked.
-/
import Derived.Test.YtfjebgjhhojphaaAwake3
import Derived.Test.YtfjebgjhhojphaaRefDig
namespace Go.Proofs.Ytfjebgjhhojphaa
open Go.RowKit Lb

set_option maxRecDepth 20000 in
set_option maxHeartbeats 1000000 in
theorem digitTexts_walk (a0 : Option Addr) (len0 cap0 : Nat) (xs0 : List Nat) (w : World) (r0 : RowAt w a0 len0 cap0 xs0) :
    Calls Try.prog 3 #[.slice a0 len0 cap0] w fun e w' => e = .returned (.bool true) ∧ Below w.heap.size w w' := by
  by_cases hlen : 20 < len0
  · go_enter Try.func3, Try.ntmps3
    go_wp2_with (go_at_call 8; refine (awake_any _).mono ?_; rintro e w' ⟨rfl, hbel⟩)
    go_ret
    exact ⟨rfl, hbel⟩
  · have hl : ¬ (20 < (len0 : Int)) := by omega
    go_enter Try.func3, Try.ntmps3
    go_wp2_with fail
    refine (digits_any _ _ _ _ _ r0.val (by omega)).mono ?_
    rintro e w1 ⟨n, s, rfl, hs, hi, hb1⟩
    go_wp2_with fail
    refine (text_any _ _ _ _ _ (r0.later hb1).val (by omega)).mono ?_
    rintro e w2 ⟨m, t, rfl, ht, hi2, hb2⟩
    obtain rfl := isLen_inj hi hi2
    have hts : t = s := str_ext (by rw [ht, hs])
    have hsz : s.size = n := by rw [← byts_length, hs, sgn_length]
    subst hts
    have HI := hide hi
    have hW := Below.step hb1 hb2
    clear hs hi ht hi2 hb1 hb2
    go_wp2_with fail
    refine (len_any _ _ _ _ n _ (r0.later hW).val (by omega) (unhide HI)).mono ?_
    rintro e w3 ⟨rfl, hb3⟩
    have hW3 := Below.step hW hb3
    clear hW hb3
    go_wp2_with fail
    refine (awake_any _).mono ?_
    rintro e w4 ⟨rfl, hb4⟩
    have hW4 := Below.step hW3 hb4
    clear hW3 hb4
    go_wp2
    go_ret
    exact ⟨rfl, hW4⟩
#print axioms digitTexts_walk
end Go.Proofs.Ytfjebgjhhojphaa
