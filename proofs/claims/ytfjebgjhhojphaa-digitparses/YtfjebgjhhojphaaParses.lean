/-
  The law DigitParses, walked.
-/
import Derived.Test.YtfjebgjhhojphaaAwake3
import Derived.Test.YtfjebgjhhojphaaRefOf
namespace Go.Proofs.Ytfjebgjhhojphaa
open Go.RowKit Lb

set_option maxRecDepth 20000 in
set_option maxHeartbeats 2000000 in
theorem digitParses_walk (a0 : ByteArray) (a1 : Option Addr) (len1 cap1 : Nat) (xs1 : List Nat) (w : World) (_w0 : a0.size ≤ maxLen) (r1 : BRowAt w a1 len1 cap1 xs1) :
    Calls Try.prog 4 #[.string a0, .slice a1 len1 cap1] w fun e w' => e = .returned (.bool true) ∧ Below w.heap.size w w' := by
  by_cases h0 : 200 < a0.size
  · have h0' : 200 < (a0.size : Int) := by omega
    go_enter Try.func4, Try.ntmps4
    go_wp2_with (go_at_call 8; refine (awake_any _).mono ?_; rintro e w' ⟨rfl, hbel⟩)
    go_ret
    exact ⟨rfl, hbel⟩
  have h0' : ¬ (200 < (a0.size : Int)) := by omega
  by_cases h1 : 200 < len1
  · have h1' : 200 < (len1 : Int) := by omega
    go_enter Try.func4, Try.ntmps4
    go_wp2_with (go_at_call 8; refine (awake_any _).mono ?_; rintro e w' ⟨rfl, hbel⟩)
    go_ret
    exact ⟨rfl, hbel⟩
  have h1' : ¬ (200 < (len1 : Int)) := by omega
  go_enter Try.func4, Try.ntmps4
  go_wp2_with fail
  go_loopw [5, 25] (fun t i wr => ∃ (k : Nat) (sr : ByteArray), k ≤ len1 ∧ i = .int .i64 k ∧ t = .string sr ∧ sr.size = k ∧ Below w.heap.size w wr) (fun _ i _ => len1 - (intOf i).toNat)
  case atStart => exact ⟨0, _, by omega, rfl, rfl, rfl, Below.refl _ _⟩
  case round =>
    obtain ⟨k, sr, hk, rfl, rfl, hsr, hbel⟩ := hrel
    have HR := hide hsr
    have hsr2 : sr.size ≤ 200 := by omega
    clear hsr
    by_cases hlt : k < len1
    · obtain ⟨b1, o1, rfl, hb1, hcx⟩ := r1.cells (by omega)
      have cx : wr.cell? ⟨b1, o1 + k, none⟩ = some (.int .u8 (lim xs1 k : Int)) := (hbel.cell (p := ⟨b1, o1 + k, none⟩) hb1).trans (hcx k hlt)
      have hsm := r1.small k
      obtain ⟨c, hc⟩ : ∃ c, c = lim xs1 k := ⟨_, rfl⟩
      rw [← hc] at cx hsm
      have hrow := browAt_one (w := wr) (e := 48 + (c : Int) % 10) (48 + c % 10) (by omega) (by omega)
      have hcv := run_string _ _ _ _ _ hrow
      have hsz1 : (strB [48 + c % 10]).size = 1 := strB_size _
      clear hc hcx hrow
      go_wp2
      go_roundw
      case rel => exact ⟨k + 1, _, by omega, by go_num, rfl, by rw [ByteArray.size_append', unhide HR, hsz1], hbel.alloc hbel.size _⟩
      case measure => simp [intOf]; omega
    · go_wp2_with fail
      have hW1 : Below w.heap.size w (wr.alloc (.cells #[.string a0, .string sr] 9)) := hbel.alloc hbel.size _
      have g0 : (wr.alloc (.cells #[.string a0, .string sr] 9)).cell? ⟨wr.heap.size, 0, none⟩ = some (.string a0) := by simp
      have g1 : (wr.alloc (.cells #[.string a0, .string sr] 9)).cell? ⟨wr.heap.size, 1, none⟩ = some (.string sr) := by simp
      have gs : wr.heap.size < (wr.alloc (.cells #[.string a0, .string sr] 9)).heap.size := by simp
      generalize wr.alloc (.cells #[.string a0, .string sr] 9) = W1 at *
      obtain ⟨B, hB⟩ : ∃ B, B = wr.heap.size := ⟨_, rfl⟩
      rw [← hB] at g0 g1 gs ⊢
      clear hB hbel
      go_loopw [41] (fun i wx => ∃ k : Nat, k ≤ 2 ∧ i = .int .i64 k ∧ Below W1.heap.size W1 wx) (fun i _ => 2 - (intOf i).toNat)
      case atStart => exact ⟨0, by omega, rfl, Below.refl _ _⟩
      case round =>
        obtain ⟨j, hj, rfl, hbx⟩ := hrel
        by_cases hj2 : j < 2
        · obtain ⟨x, hx, hx2⟩ : ∃ x, W1.cell? ⟨B, j, none⟩ = some (.string x) ∧ x.size ≤ 200 := by
            rcases Nat.lt_or_ge j 1 with c | c
            · obtain rfl : j = 0 := by omega
              exact ⟨a0, g0, by omega⟩
            · obtain rfl : j = 1 := by omega
              exact ⟨sr, g1, hsr2⟩
          have cx := (hbx.cell (p := ⟨B, j, none⟩) gs).trans hx
          obtain ⟨b, hb⟩ : ∃ b, b = okS (byts x) := ⟨_, rfl⟩
          obtain ⟨N, hN⟩ : ∃ N, N = numS (byts x) := ⟨_, rfl⟩
          have HB := hide hb
          have HN := hide hN
          clear hb hN hx
          go_wp2_with fail
          refine (parse_any x b N _ (by omega) (unhide HB) (unhide HN)).mono ?_
          rintro e w2 ⟨a2, l2, c2, rfl, hn2, hb2⟩
          go_wp2_with fail
          refine (ofDigits_any x b N _ (by omega) (unhide HB) (unhide HN)).mono ?_
          rintro e w3 ⟨a3, l3, c3, rfl, hn3, hb3⟩
          have hbb : (b != b) = false := by simp
          go_wp2_with fail
          refine (same_true _ _ _ _ _ _ _ _ (hn2.later hb3) hn3).mono ?_
          rintro e w4 ⟨rfl, hb4⟩
          have hbx4 := hbx.trans ((Below.step hb2 (Below.step hb3 hb4)).mono hbx.size)
          clear hn2 hn3 hb2 hb3 hb4 hbx cx
          go_wp2
          go_roundw
          case rel => exact ⟨j + 1, by omega, by go_num, hbx4⟩
          case measure => simp [intOf]; omega
        · go_wp2_with fail
          refine (awake_any _).mono ?_
          rintro e w4 ⟨rfl, hb4⟩
          have hW4 := Below.step (Below.step hW1 hbx) hb4
          clear hW1 hbx hb4
          go_wp2
          go_ret
          exact ⟨rfl, hW4⟩
#print axioms digitParses_walk
end Go.Proofs.Ytfjebgjhhojphaa
