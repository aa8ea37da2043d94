/-
  What digit.read does: the number of a group of signs, and ten to their count; or nothing, and false.
-/
import Derived.Test.YtfjebgjhhojphaaStrs
namespace Go.Proofs.Ytfjebgjhhojphaa
open Go.RowKit Lb

theorem take_snoc {l : List Nat} {k : Nat} (h : k < l.length) : l.take (k + 1) = l.take k ++ [lim l k] := by
  rw [List.take_add_one, List.getElem?_eq_getElem h, lim_get h]; rfl
theorem okD_at {l : List Nat} {k : Nat} (h : k < l.length) (hc : isD (lim l k) = false) : okD l = false := by
  rw [← List.take_append_drop (k + 1) l, take_snoc h, okD_append, okD_snoc, hc]; simp
theorem read_digit {l : List Nat} {k p q c : Nat} (hl : l.length ≤ 9) (hk : k < l.length) (hp : p = ofS (l.take k)) (hq : q = 10 ^ k) (hok : okD (l.take k) = true) (hc : c = lim l k) :
    p < q ∧ q ≤ 100000000 ∧ (48 ≤ c → c ≤ 57 → okD (l.take (k + 1)) = true ∧ p * 10 + (c - 48) = ofS (l.take (k + 1)) ∧ q * 10 = 10 ^ (k + 1)) := by
  have h1 := ofS_lt hok
  rw [List.length_take, Nat.min_eq_left (by omega), ← hp, ← hq] at h1
  have h2 : q ≤ 10 ^ 8 := by rw [hq]; exact Nat.pow_le_pow_right (by omega) (by omega)
  refine ⟨h1, by omega, fun h3 h4 => ?_⟩
  rw [take_snoc hk, okD_snoc, ofS_snoc, hok, ← hp, ← hc, hq, Nat.pow_succ, Bool.true_and, isD_iff]
  exact ⟨⟨h3, h4⟩, rfl, rfl⟩
theorem sign_cases (c : Nat) : c = 48 ∨ c = 49 ∨ c = 50 ∨ c = 51 ∨ c = 52 ∨ c = 53 ∨ c = 54 ∨ c = 55 ∨ c = 56 ∨ c = 57 ∨ isD c = false := by
  by_cases h : isD c = true
  · rw [isD_iff] at h; omega
  · simp at h; simp [h]

set_option maxRecDepth 20000 in
set_option maxHeartbeats 2000000 in
theorem read_any (s : ByteArray) (b : Bool) (P Q : Nat) (w : World) (hs : s.size ≤ 9) (hb : b = okD (byts s)) (hP : P = if b then ofS (byts s) else 0) (hQ : Q = if b then 10 ^ s.size else 0) :
    Calls Try.prog 23 #[.string s] w fun e w' => e = .returned (.tuple #[.int .u32 (P : Int), .int .u32 (Q : Int), .bool b]) ∧ w = w' := by
  have HB := hide hb
  have HP := hide hP
  have HQ := hide hQ
  clear hb hP hQ
  go_enter Try.func23, Try.ntmps23
  go_wp2
  go_loop [2, 3, 9] (fun p q i => ∃ k p0 q0 : Nat, k ≤ s.size ∧ i = .int .i64 k ∧ p = .int .u32 p0 ∧ q = .int .u32 q0 ∧ p0 = ofS ((byts s).take k) ∧ q0 = 10 ^ k ∧ okD ((byts s).take k) = true) (fun _ _ i => s.size - (intOf i).toNat)
  case atStart => exact ⟨0, 0, 1, by omega, rfl, rfl, rfl, rfl, rfl, rfl⟩
  case round =>
    obtain ⟨k, p, q, hk, rfl, rfl, rfl, hp, hq, hok⟩ := hrel
    have hl := hide (byts_length s)
    have KP := hide hp
    have KQ := hide hq
    have KO := hide hok
    clear hp hq hok
    by_cases hlt : k < s.size
    · obtain ⟨c, hc⟩ : ∃ c, c = lim (byts s) k := ⟨_, rfl⟩
      obtain ⟨h1, h2, h3⟩ := read_digit (by rw [unhide hl]; exact hs) (by rw [unhide hl]; exact hlt) (unhide KP) (unhide KQ) (unhide KO) hc
      have H3 := hide h3
      have hix : (s[k]'hlt).toNat = c := (byts_at s k hlt).trans hc.symm
      have HC := hide hc
      clear h3 hc
      rcases sign_cases c with rfl | rfl | rfl | rfl | rfl | rfl | rfl | rfl | rfl | rfl | hno
      case inr.inr.inr.inr.inr.inr.inr.inr.inr.inr =>
        have hf : okD (byts s) = false := okD_at (by rw [unhide hl]; exact hlt) (by rw [← unhide HC]; exact hno)
        have e1 : b = false := (unhide HB).trans hf
        have e2 : P = 0 := by rw [unhide HP, e1]; rfl
        have e3 : Q = 0 := by rw [unhide HQ, e1]; rfl
        obtain ⟨n0, n1, n2, n3, n4, n5, n6, n7, n8, n9⟩ : ((c : Int) == 48) = false ∧ ((c : Int) == 49) = false ∧ ((c : Int) == 50) = false ∧ ((c : Int) == 51) = false ∧ ((c : Int) == 52) = false ∧ ((c : Int) == 53) = false ∧ ((c : Int) == 54) = false ∧ ((c : Int) == 55) = false ∧ ((c : Int) == 56) = false ∧ ((c : Int) == 57) = false := by
          have : ¬ (48 ≤ c ∧ c ≤ 57) := by rw [← isD_iff, hno]; simp
          simp only [beq_eq_false_iff_ne]
          omega
        clear hno hf
        subst e1 e2 e3
        go_wp2
        go_ret3
        exact ⟨rfl, rfl⟩
      all_goals
        obtain ⟨h4, h5, h6⟩ := unhide H3 (by omega) (by omega)
        have H5 := hide h5
        have H6 := hide h6
        have H4 := hide h4
        clear h4 h5 h6
        go_wp2
        go_round
        case rel => exact ⟨k + 1, _, _, by omega, by go_num, by go_num, by go_num, unhide H5, unhide H6, unhide H4⟩
        case measure => simp [intOf]; omega
    · have hk1 : k = s.size := by omega
      have e0 : (byts s).take k = byts s := by rw [hk1, ← unhide hl]; exact List.take_length
      have e1 : b = true := by rw [unhide HB, ← e0]; exact unhide KO
      have e2 : P = p := by rw [unhide HP, e1, if_pos rfl, unhide KP, e0]
      have e3 : Q = q := by rw [unhide HQ, e1, if_pos rfl, unhide KQ, hk1]
      clear e0
      subst e1 e2 e3
      go_wp2
      go_ret3
      exact ⟨rfl, rfl⟩
#print axioms read_any
end Go.Proofs.Ytfjebgjhhojphaa
