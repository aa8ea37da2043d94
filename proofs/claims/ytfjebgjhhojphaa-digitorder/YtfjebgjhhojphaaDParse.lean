/-
  What digit.Parse does: the number of a text, and true; or nothing, and false.
-/
import Derived.Test.YtfjebgjhhojphaaDRead
import Derived.Test.YtfjebgjhhojphaaVals0
import Derived.Laws.DeepStrings4
namespace Go.Proofs.Ytfjebgjhhojphaa
open Go.RowKit Lb

def strLen : Value → Nat
  | .string s => s.size
  | _ => 0
theorem ten_le (j : Nat) : 10 ^ j ≤ Bp j := by unfold Bp; exact Nat.pow_le_pow_left (by omega) j
theorem parse_len {w : World} {ao : Option Addr} {len cap N j : Nat} (h : NumAt w ao len cap N) (hN : N < 10 ^ j) : len ≤ j := h.len_le (Nat.lt_of_lt_of_le hN (ten_le j))
/-- A group more. -/
theorem parse_more {l g r : List Nat} {j n : Nat} (hr : r = l.drop j) (hg : g = r.take n) (hn : n ≤ r.length) : l.take (j + n) = l.take j ++ g ∧ r.drop n = l.drop (j + n) ∧ g.length = n := by
  subst hr hg
  refine ⟨List.take_add, List.drop_drop, ?_⟩
  rw [List.length_take]; omega
theorem parse_no {l g r : List Nat} {j n : Nat} (hr : r = l.drop j) (hg : g = r.take n) (h : okD g = false) : okD l = false := by
  subst hr hg
  rw [← List.take_append_drop j l, okD_append, ← List.take_append_drop n (l.drop j), okD_append, h]; simp

set_option maxRecDepth 20000 in
set_option maxHeartbeats 2000000 in
theorem parse_any (s : ByteArray) (b : Bool) (N : Nat) (w : World) (hs : s.size ≤ 1000000) (hb : b = okS (byts s)) (hN : N = numS (byts s)) :
    Calls Try.prog 12 #[.string s] w fun e w' => ∃ ao len cap, e = .returned (.tuple #[.slice ao len cap, .bool b]) ∧ NumAt w' ao len cap N ∧ Below w.heap.size w w' := by
  have HB := hide hb
  have HN := hide hN
  have HL := hide (byts_length s)
  clear hb hN
  by_cases hbad : s.size = 0 ∨ 4096 < s.size
  · have hf : okS (byts s) = false := by
      unfold okS
      rw [unhide HL]
      rcases hbad with h | h
      · simp [h]
      · simp [show ¬ s.size ≤ 4096 by omega]
    have e1 : b = false := (unhide HB).trans hf
    have e2 : N = 0 := (unhide HN).trans (numS_no hf)
    clear hf
    subst e1 e2
    go_enter Try.func12, Try.ntmps12
    rcases hbad with h | h
    · have h' : ((s.size : Int) == 0) = true := by simp [h]
      go_wp2
      go_ret2
      exact ⟨_, _, _, rfl, numAt_nil _, Below.refl _ _⟩
    · have h' : ((s.size : Int) == 0) = false := by rw [beq_eq_false_iff_ne]; omega
      go_wp2
      go_ret2
      exact ⟨_, _, _, rfl, numAt_nil _, Below.refl _ _⟩
  · have h0 : ((s.size : Int) == 0) = false := by rw [beq_eq_false_iff_ne]; omega
    have h1 : ¬ (4096 < (s.size : Int)) := by omega
    go_enter Try.func12, Try.ntmps12
    go_wp2
    go_loopw [0, 4] (fun x a wr => ∃ (j : Nat) (sr : ByteArray) (a1 : Option Addr) (l1 c1 : Nat), j ≤ s.size ∧ x = .string sr ∧ byts sr = (byts s).drop j ∧ a = .slice a1 l1 c1 ∧ NumAt wr a1 l1 c1 (ofS ((byts s).take j)) ∧ okD ((byts s).take j) = true ∧ Below w.heap.size w wr) (fun x _ _ => strLen x)
    case atStart => exact ⟨0, s, none, 0, 0, by omega, rfl, rfl, rfl, numAt_nil _, rfl, Below.refl _ _⟩
    case round =>
      obtain ⟨j, sr, a1, l1, c1, hj, rfl, hsr, rfl, hnum, hok, hbel⟩ := hrel
      have HR := hide hsr
      have HO := hide hok
      have hlr : sr.size = s.size - j := by rw [← byts_length, hsr, List.length_drop, unhide HL]
      have hl1 : l1 ≤ j := parse_len hnum (by have := ofS_lt hok; rwa [List.length_take, unhide HL, Nat.min_eq_left hj] at this)
      have LR := hide hlr
      have hr9 : sr.size ≤ 4096 := by omega
      clear hsr hok hlr
      by_cases hp : 0 < sr.size
      · obtain ⟨n, hn⟩ : ∃ n : Nat, (n : Int) = if (sr.size : Int) < 9 then (sr.size : Int) else 9 := by
          by_cases c : (sr.size : Int) < 9
          · exact ⟨sr.size, by rw [if_pos c]⟩
          · exact ⟨9, by rw [if_neg c]; rfl⟩
        have hmin : ∀ (ts : Array TypeId) (t : TypeId) (W : World), (Builtin.min_ ts t #[.int .i64 9, .int .i64 (sr.size : Int)]).run Try.prog W = .ok (.int .i64 (n : Int)) W := fun ts t W => by
          rw [run_min_int2, hn]
        have hn9 : n ≤ 9 ∧ n ≤ sr.size ∧ 0 < n := by
          by_cases c : (sr.size : Int) < 9
          · rw [if_pos c] at hn; omega
          · rw [if_neg c] at hn; omega
        clear hn
        obtain ⟨hn1, hn2, hn3⟩ := hn9
        obtain ⟨g, hg⟩ : ∃ g, g = (byts sr).take n := ⟨_, rfl⟩
        have hgb : byts (sr.extract 0 n) = g := by rw [byts_extract, hg]; simp
        obtain ⟨m1, m2, m3⟩ := parse_more (unhide HR) hg (by rw [byts_length]; exact hn2)
        have hgs : (sr.extract 0 n).size = n := by rw [← byts_length, hgb, m3]
        have G0 := hide hg
        have G1 := hide hgb
        have G2 := hide hgs
        have M1 := hide m1
        have M2 := hide m2
        have M3 := hide m3
        clear hg hgb hgs m1 m2 m3
        obtain ⟨A, hA⟩ : ∃ A, A = ofS ((byts s).take j) := ⟨_, rfl⟩
        rw [← hA] at hnum
        have HA := hide hA
        clear hA
        go_wp2_with fail
        rcases hog : okD g with _ | _
        · refine (read_any _ false 0 0 wr (by rw [unhide G2]; exact hn1) (by rw [unhide G1, hog]) (by simp) (by simp)).mono ?_
          rintro e w' ⟨rfl, rfl⟩
          have hf : okS (byts s) = false := by unfold okS; rw [parse_no (unhide HR) (unhide G0) hog]; simp
          have e1 : b = false := (unhide HB).trans hf
          have e2 : N = 0 := (unhide HN).trans (numS_no hf)
          clear hf hog
          subst e1 e2
          go_wp2
          go_ret2
          exact ⟨_, _, _, rfl, numAt_nil _, hbel⟩
        · obtain ⟨p, hp'⟩ : ∃ p, p = ofS g := ⟨_, rfl⟩
          obtain ⟨q, hq⟩ : ∃ q, q = 10 ^ n := ⟨_, rfl⟩
          have hpq : p < q := by have := ofS_lt hog; rwa [unhide M3, ← hp', ← hq] at this
          have hq9 : q ≤ 1000000000 := by rw [hq]; exact Nat.pow_le_pow_right (n := 10) (by omega) hn1
          refine (read_any _ true p q wr (by rw [unhide G2]; exact hn1) (by rw [unhide G1, hog]) (by rw [unhide G1, hp']; rfl) (by rw [unhide G2, hq]; rfl)).mono ?_
          rintro e w' ⟨rfl, rfl⟩
          have hAq : A * q < 10 ^ (j + n) := by
            have h2 := ofS_lt (unhide HO)
            rw [List.length_take, unhide HL, Nat.min_eq_left hj, ← unhide HA] at h2
            rw [Nat.pow_add, ← hq]
            exact Nat.mul_lt_mul_of_lt_of_le h2 (Nat.le_refl _) (by omega)
          have HP := hide hp'
          have HQ := hide hq
          have HG := hide hog
          have HAq := hide hAq
          clear hp' hq hog hAq
          go_wp2_with fail
          refine (times_num _ _ _ _ _ q _ rfl hnum.val (by omega) (by omega)).mono ?_
          rintro e w2 ⟨a2, l2, c2, rfl, hnum2, hb2⟩
          have hl2 : l2 ≤ j + n := parse_len hnum2 (unhide HAq)
          have hB2 := hbel.trans (hb2.mono hbel.size)
          clear hnum hb2 hbel
          go_wp2_with fail
          have hb3 : Below w2.heap.size w2 (w2.alloc (.cells #[.int .u32 (p : Int)] 36)) := (Below.refl _ _).alloc (Nat.le_refl _) _
          refine (add_num _ _ _ _ _ _ _ p _ (hnum2.val.later hb3) ⟨[p], rowAt_one rfl (by omega), val_one p⟩ (by omega) (by omega)).mono ?_
          rintro e w3 ⟨a3, l3, c3, rfl, hnum3, hb4⟩
          have hB3 := hB2.trans ((Below.step hb3 hb4).mono hB2.size)
          clear hnum2 hb3 hb4 hB2
          go_wp2
          go_roundw
          case rel =>
            refine ⟨j + n, sr.extract n sr.size, _, _, _, by have := unhide LR; omega, rfl, ?_, rfl, ?_, ?_, hB3⟩
            · rw [byts_extract, ← unhide M2, List.take_of_length_le]
              rw [List.length_drop, byts_length]; omega
            · rw [unhide M1, ofS_append, unhide M3, ← unhide HA, ← unhide HP, ← unhide HQ]
              exact hnum3
            · rw [unhide M1, okD_append, unhide HO, unhide HG]; rfl
          case measure => simp [strLen]; omega
      · have hj1 : j = s.size := by have := unhide LR; omega
        have e0 : (byts s).take j = byts s := by rw [hj1, ← unhide HL]; exact List.take_length
        have ht : okS (byts s) = true := okS_of (by rw [unhide HL]; omega) (by rw [unhide HL]; omega) (by rw [← e0]; exact unhide HO)
        have e1 : b = true := (unhide HB).trans ht
        have e2 : N = ofS (byts s) := (unhide HN).trans (numS_of ht)
        rw [e0, ← e2] at hnum
        clear e0 ht e2
        subst e1
        go_wp2
        go_ret2
        exact ⟨_, _, _, rfl, hnum, hbel⟩
#print axioms parse_any
end Go.Proofs.Ytfjebgjhhojphaa
