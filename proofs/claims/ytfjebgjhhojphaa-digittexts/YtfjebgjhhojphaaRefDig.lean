/-
  What the reference's Digits does: the digits of a number.
-/
import Derived.Test.YtfjebgjhhojphaaDText
namespace Go.Proofs.Ytfjebgjhhojphaa
open Go.RowKit Lb

set_option maxRecDepth 20000 in
set_option maxHeartbeats 4000000 in
theorem digits_any (ao : Option Addr) (len cap N : Nat) (w : World) (h : ValAt w ao len cap N) (hlen : len ≤ 100000) :
    Calls Try.prog 9 #[.slice ao len cap] w fun e w' => ∃ n s, e = .returned (.string s) ∧ byts s = sgn N n ∧ IsLen N n ∧ Below w.heap.size w w' := by
  have hNl : N < Bp len := h.lt (Nat.le_refl _)
  have HN := hide hNl
  obtain ⟨xs, hx, hv⟩ := h
  have HV := hide hv
  clear hNl hv
  go_enter Try.func9, Try.ntmps9
  go_wp2_with fail
  refine (rtrim_any _ _ _ xs w hx (by omega)).mono ?_
  rintro e w1 ⟨a1, l1, c1, rfl, hnum, hb1⟩
  rw [unhide HV] at hnum
  clear hx
  have hl1 : l1 ≤ len := hnum.len_le (unhide HN)
  by_cases hz : l1 = 0
  · have hN0 : N = 0 := by
      have := hnum.val.lt (k := 0) (by omega)
      rw [Bp_zero] at this
      omega
    have hzb : ((l1 : Int) == 0) = true := by simp [hz]
    have HN0 := hide hN0
    clear hN0 hz
    go_wp2
    go_ret
    exact ⟨1, _, rfl, by rw [unhide HN0]; rfl, by rw [unhide HN0]; exact isLen_zero, hb1⟩
  · have hzb : ((l1 : Int) == 0) = false := by rw [beq_eq_false_iff_ne]; omega
    go_wp2
    go_loopg [3, 4] N (fun g x y wr => ∃ (a1 : Option Addr) (l1 c1 k A : Nat) (sr : ByteArray), x = .slice a1 l1 c1 ∧ NumAt wr a1 l1 c1 A ∧ A = N / 10 ^ k ∧ g = A ∧ y = .string sr ∧ byts sr = sgn N k ∧ l1 ≤ len ∧ (0 < l1 ∨ (0 < k ∧ 10 ^ (k - 1) ≤ N)) ∧ Below w.heap.size w wr)
    case atStart => exact ⟨a1, l1, c1, 0, N, _, rfl, hnum, by simp, rfl, rfl, rfl, hl1, Or.inl (by omega), hb1⟩
    case round =>
      obtain ⟨a2, l2, c2, k, A, sr, rfl, hnum2, hA, hg, rfl, hsr, hl2, hk, hb2⟩ := hrel
      have HA := hide hA
      have HG := hide hg
      have HR := hide hsr
      have HK := hide hk
      clear hA hg hsr hk hnum hb1
      by_cases hp : 0 < l2
      · have hA0 : 0 < A := by
          rcases Nat.eq_zero_or_pos A with e | e
          · rw [e] at hnum2
            have := hnum2.len_zero
            omega
          · exact e
        have hkN : 10 ^ k ≤ N := ge_of_div (by rw [← unhide HA]; omega)
        have hkl : k ≤ 10 * len := digits_le hkN (unhide HN)
        have hsz : sr.size = k := by rw [← byts_length, unhide HR, sgn_length]
        have HKN := hide hkN
        have HSZ := hide hsz
        have hsz2 : sr.size ≤ 1000000 := by omega
        have HA0 := hide hA0
        clear hkN hsz hA0
        go_wp2_with fail
        refine (rdivmod_num _ _ _ A _ _ _ 10 _ (hnum2.val.later (below_one _ _)) ⟨[10], rowAt_one rfl (by omega), val_one 10⟩ (by omega) (by omega) (by omega)).mono ?_
        rintro e w3 ⟨a3, l3, c3, a4, l4, c4, rfl, hn3, hn4, hb3⟩
        have hb4 := hb2.trans ((Below.step (below_one _ _) hb3).mono hb2.size)
        obtain ⟨ys, hy, ny, vy⟩ := hn4
        clear hb3 hb2 hnum2
        go_wp2_with fail
        refine (rlimb_any _ _ _ ys _ 0 _ hy rfl).mono ?_
        rintro e w4 ⟨rfl, rfl⟩
        obtain ⟨d, hd⟩ : ∃ d, d = lim ys 0 := ⟨_, rfl⟩
        rw [← hd]
        have hdA : d = A % 10 := by
          have h1 := val_first (xs := ys) (k := 1) (by rw [vy, Bp_one]; omega)
          rw [vy] at h1
          rw [hd, h1]
          simp [pre, Bp]
        have hdN : d = dig N k := by rw [hdA, unhide HA]; rfl
        have hd10 : d < 10 := by omega
        have HDN := hide hdN
        have hrow := browAt_one (w := w3) (e := 48 + (d : Int)) (48 + d) (by omega) (by omega)
        have hcv := run_string _ _ _ _ _ hrow
        have hsz1 : (strB [48 + d]).size = 1 := strB_size _
        have HBY := hide (byts_strB hrow.small)
        clear hd hdA hdN hy ny vy hrow
        go_wp2
        go_roundg (A / 10)
        case measure => rw [unhide HG]; exact Nat.div_lt_self (unhide HA0) (by omega)
        case rel =>
          refine ⟨a3, l3, c3, k + 1, A / 10, _, rfl, hn3.later (below_one _ _), ?_, rfl, rfl, ?_, ?_, ?_, hb4.alloc hb4.size _⟩
          · rw [unhide HA, div_more]
          · rw [byts_append, unhide HBY, unhide HR, unhide HDN]; rfl
          · refine hn3.len_le (Nat.lt_of_le_of_lt ?_ (unhide HN))
            rw [unhide HA]
            exact Nat.le_trans (Nat.div_le_self _ _) (Nat.div_le_self _ _)
          · exact Or.inr ⟨by omega, unhide HKN⟩
      · have hl0 : l2 = 0 := by omega
        have hA0 : A = 0 := by
          have := hnum2.val.lt (k := 0) (by omega)
          rw [Bp_zero] at this
          omega
        have hil : IsLen N k := by
          rcases unhide HK with h1 | ⟨h1, h2⟩
          · omega
          · exact ⟨h1, lt_of_div (by rw [← unhide HA]; exact hA0), Or.inr h2⟩
        have HIL := hide hil
        clear hA0 hil
        go_wp2
        go_ret
        exact ⟨k, sr, rfl, unhide HR, unhide HIL, hb2⟩
#print axioms digits_any
end Go.Proofs.Ytfjebgjhhojphaa
