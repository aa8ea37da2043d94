/-
  What long.Pow does: a to the n, n below 0 as 0, above 64 as that.
-/
import Derived.Test.YtfmdlbhgohmgbaaLMul
import Derived.Test.YtfmdlbhgohmgbaaLWord
import Derived.Deep.CutRange
namespace Go.Proofs.Ytfmdlbhgohmgbaa
open Go.RowKit Lb

/-- The exponent: below 0 as 0, above 64 as that. -/
def pw (n : Int) : Nat := if n ≤ 0 then 0 else if 64 ≤ n then 64 else n.toNat
theorem pw_le (n : Int) : pw n ≤ 64 := by unfold pw; split <;> (try split) <;> omega
theorem pw_min (n : Int) : min (max n 0) 64 = (pw n : Int) := by unfold pw; split <;> (try split) <;> omega

theorem pow_lt {A la : Nat} (hA : A < Bp la) : ∀ e, A ^ e < Bp (la * e + 1) := by
  intro e
  induction e with
  | zero => rw [Nat.pow_zero, Nat.mul_zero, Nat.zero_add, Bp_one]; omega
  | succ e ih =>
    rw [Nat.pow_succ, show la * (e + 1) + 1 = la * e + 1 + la by rw [Nat.mul_add]; omega, Bp_add]
    exact Nat.mul_lt_mul_of_lt_of_le ih (Nat.le_of_lt hA) (Bp_pos _)
theorem pow_bound {A la e : Nat} (hA : A < Bp la) (hl : la ≤ 50000) (he : e ≤ 64) : A ^ e < Bp 3200001 := by
  have h1 := pow_lt (Nat.lt_of_lt_of_le hA (Bp_le (b := 50000) hl)) e
  refine Nat.lt_of_lt_of_le h1 (Bp_le ?_)
  omega

theorem i64_and_small (a b : Nat) (ha : a < 1000) (hb : b < 1000) : bits .and .i64 (a : Int) (b : Int) = ((a &&& b : Nat) : Int) := by
  have hx : a &&& b ≤ a := Nat.and_le_left
  show IntKind.i64.wrap ((BitVec.ofInt 64 (a : Int) &&& BitVec.ofInt 64 (b : Int)).toNat : Int) = _
  have e : ∀ c : Nat, c < 1000 → (BitVec.ofInt 64 (c : Int)).toNat = c := by
    intro c hc
    rw [BitVec.toNat_ofInt]
    omega
  rw [BitVec.toNat_and, e a ha, e b hb, IntKind.wrap_i64]
  omega
theorem bit_of {p k : Nat} : p &&& 2 ^ k = (p / 2 ^ k % 2) * 2 ^ k := by
  rcases Nat.mod_two_eq_zero_or_one (p / 2 ^ k) with e | e
  · rw [e, Nat.zero_mul]
    apply Nat.eq_of_testBit_eq
    intro i
    rw [Nat.testBit_and, Nat.testBit_two_pow]
    by_cases h : k = i
    · subst h; simp [Nat.testBit_eq_decide_div_mod_eq, e]
    · simp [h]
  · rw [e, Nat.one_mul]
    apply Nat.eq_of_testBit_eq
    intro i
    rw [Nat.testBit_and, Nat.testBit_two_pow]
    by_cases h : k = i
    · subst h; simp [Nat.testBit_eq_decide_div_mod_eq, e]
    · simp [h]
theorem half_exp (p k : Nat) : p / 2 ^ k = 2 * (p / 2 ^ (k + 1)) + p / 2 ^ k % 2 := by
  rw [← half_more]; omega
theorem pow_sq (A e : Nat) : A ^ e * A ^ e = A ^ (2 * e) := by rw [← Nat.pow_add]; congr 1; omega
set_option maxRecDepth 20000 in
set_option maxHeartbeats 1000000 in
theorem lpow_any (aa : Option Addr) (la ca : Nat) (xs : List Nat) (n : Int) (w : World) (ha : RowAt w aa la ca xs) (hla : la ≤ 50000) :
    Calls Try.prog 16 #[.slice aa la ca, .int .i64 n] w fun e w' => ∃ ao' len' cap', e = .returned (.slice ao' len' cap') ∧ NumAt w' ao' len' cap' (val xs ^ pw n) ∧ Below w.heap.size w w' := by
  obtain ⟨p, hp⟩ : ∃ p, p = pw n := ⟨_, rfl⟩
  have hp64 := pw_le n
  have hmin := pw_min n
  rw [← hp] at hp64 hmin ⊢
  have hA : val xs < Bp la := by rw [← ha.len_eq]; exact val_lt ha.small
  have HA := hide hA
  clear hp hA
  go_enter Try.func16, Try.ntmps16
  go_upto_region 1 with fail
  go_cut [1] from 7 to 9 (fun s wx => s = .int .i64 (p : Int) ∧ wx = w)
  case first =>
    go_wp2
    all_goals
      go_meet
      exact ⟨by simp only [Value.int.injEq, true_and]; omega, rfl⟩
  case rest =>
    obtain ⟨rfl, rfl⟩ := hcut
    go_wp2_with fail
    refine (row_any 1 wc (by omega)).mono ?_
    rintro e w1 ⟨a1, l1, c1, rfl, hn1, hw1⟩
    clear hmin
    go_wp2_with fail
    go_loopw [5, 6] (fun v i wr => ∃ (k b : Nat) (ar : Option Addr) (lr cr : Nat), k ≤ 7 ∧ b = 2 ^ k / 2 ∧ v = .slice ar lr cr ∧ i = .int .i64 (b : Int) ∧ NumAt wr ar lr cr (val xs ^ (p / 2 ^ k)) ∧ Below wc.heap.size wc wr) (fun _ i _ => (intOf i).toNat)
    case atStart =>
      refine ⟨7, 64, _, _, _, Nat.le_refl _, rfl, rfl, rfl, ?_, hw1⟩
      rw [show p / 2 ^ 7 = 0 by omega, Nat.pow_zero]
      exact hn1
    case round =>
      obtain ⟨k, b, ar, lr, cr, hk, hb, rfl, rfl, hn, hw⟩ := hrel
      clear hn1 hw1
      by_cases hk0 : k = 0
      · subst hk0
        have hb0 : b = 0 := by simpa using hb
        have hfin : NumAt wr ar lr cr (val xs ^ p) := by rw [Nat.pow_zero, Nat.div_one] at hn; exact hn
        subst hb0
        clear hb hn
        go_wp2
        go_ret
        exact ⟨_, _, _, rfl, hfin, hw⟩
      · obtain ⟨j, rfl⟩ : ∃ j, k = j + 1 := ⟨k - 1, by omega⟩
        have hbj : b = 2 ^ j := by rw [hb, Nat.pow_succ, Nat.mul_div_cancel _ (by omega)]
        have hb1 : 1 ≤ b := by rw [hbj]; exact Nat.pow_pos (by omega)
        have hb64 : b ≤ 64 := by
          rw [hbj]
          have := Nat.pow_le_pow_right (n := 2) (by omega) (show j ≤ 6 by omega)
          omega
        have he := half_exp p j
        have hle : p / 2 ^ j ≤ p := Nat.div_le_self _ _
        have hand : bits .and .i64 (p : Int) (b : Int) = ((p / 2 ^ j % 2 * b : Nat) : Int) := by
          rw [i64_and_small _ _ (by omega) (by omega), hbj, bit_of]
        obtain ⟨zs, hz, nz, vz⟩ := hn
        have hl1 : lr ≤ 3200001 := by
          rw [← hz.len_eq]
          exact norm_len nz (by rw [vz]; exact pow_bound (unhide HA) hla (by omega))
        have k1 := mul_any ar lr cr zs ar lr cr zs wr hz hz (by omega) (by omega)
        rw [vz, pow_sq] at k1
        have hnext : b / 2 = 2 ^ j / 2 := by rw [hbj]
        have K1 := hide k1
        have HE := hide he
        have HN := hide hnext
        have hb2 : ((b : Int) / 2).toNat = b / 2 := by omega
        have har := ha.later hw
        clear k1 vz nz hz hnext hb hbj he
        rcases Nat.mod_two_eq_zero_or_one (p / 2 ^ j) with hm | hm
        · rw [hm, Nat.zero_mul] at hand
          have HM := hide hm
          clear hm hle
          go_wp2_with fail
          refine (unhide K1).mono ?_
          rintro e w2 ⟨a2, l2, c2, rfl, hn2, hw2⟩
          have hn3 : NumAt w2 a2 l2 c2 (val xs ^ (p / 2 ^ j)) := by rw [unhide HE, unhide HM]; exact hn2
          have HN3 := hide hn3
          clear hn2 hn3 K1
          go_wp2
          go_roundw
          case rel => exact ⟨j, b / 2, a2, l2, c2, by omega, unhide HN, rfl, by go_num, unhide HN3, Below.step hw hw2⟩
          case measure => simp [intOf]; omega
        · rw [hm, Nat.one_mul] at hand
          have HM := hide hm
          have hle2 := hide hle
          clear hm hle
          have hbne : ((b : Int) != 0) = true := by simp; omega
          go_wp2_with fail
          refine (unhide K1).mono ?_
          rintro e w2 ⟨a2, l2, c2, rfl, ⟨ts, ht, nt, vt⟩, hw2⟩
          have hl2 : l2 ≤ 3200001 := by
            rw [← ht.len_eq]
            have h1 := unhide HE
            have h2 := unhide hle2
            exact norm_len nt (by rw [vt]; exact pow_bound (unhide HA) hla (by omega))
          have k2 := mul_any a2 l2 c2 ts aa la ca xs w2 ht (har.later hw2) (by omega) (by omega)
          have hn3 : val ts * val xs = val xs ^ (p / 2 ^ j) := by rw [vt, unhide HE, unhide HM]; exact (Nat.pow_succ _ _).symm
          rw [hn3] at k2
          have K2 := hide k2
          clear K1 k2 hn3 vt nt ht
          go_wp2_with fail
          refine (unhide K2).mono ?_
          rintro e w3 ⟨a3, l3, c3, rfl, hn3, hw3⟩
          have HN3 := hide hn3
          clear hn3
          go_wp2
          go_roundw
          case rel => exact ⟨j, b / 2, a3, l3, c3, by omega, unhide HN, rfl, by go_num, unhide HN3, Below.step (Below.step hw hw2) hw3⟩
          case measure => simp [intOf]; omega

#print axioms lpow_any
end Go.Proofs.Ytfmdlbhgohmgbaa
