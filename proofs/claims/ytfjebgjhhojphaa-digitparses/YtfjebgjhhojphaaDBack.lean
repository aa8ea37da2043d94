/-
  What digit.backwards does: the signs of a number's digits, the lowest first.
-/
import Derived.Test.YtfjebgjhhojphaaStrs
import Derived.Test.YtfjebgjhhojphaaVals0
import Derived.Test.YtfjebgjhhojphaaOver
import Derived.Deep.LoopGhost
namespace Go.Proofs.Ytfjebgjhhojphaa
open Go.RowKit Lb

theorem RowAt.grown {w w' : World} {ao : Option Addr} {len cap : Nat} {xs : List Nat} {row : Option Nat} (h : RowAt w ao len cap xs) (hg : w.grownBy w' row) (hd : 0 < len → ∀ b off, ao = some ⟨b, off, none⟩ → some b ≠ row) : RowAt w' ao len cap xs := by
  refine ⟨h.len_eq, h.cap_le, h.cap_max, h.nil_cap, h.small, fun hp => ?_⟩
  obtain ⟨b, off, e, hlt, hc⟩ := h.cells hp
  exact ⟨b, off, e, Nat.lt_of_lt_of_le hlt hg.size, fun i hi => (World.cell?_of_block (a := ⟨b, off + i, none⟩) (hg.block b hlt (hd hp b off e))).trans (hc i hi)⟩
theorem NumAt.grown {w w' : World} {ao : Option Addr} {len cap N : Nat} {row : Option Nat} (h : NumAt w ao len cap N) (hg : w.grownBy w' row) (hd : 0 < len → ∀ b off, ao = some ⟨b, off, none⟩ → some b ≠ row) : NumAt w' ao len cap N := by
  obtain ⟨xs, h1, h2⟩ := h
  exact ⟨xs, h1.grown hg hd, h2⟩
theorem Typed.grown {w w' : World} {ao : Option Addr} {len : Nat} {row : Option Nat} (h : Typed w ao len) (hg : w.grownBy w' row) (hd : 0 < len → ∀ b off, ao = some ⟨b, off, none⟩ → some b ≠ row) : Typed w' ao len := by
  intro hp
  obtain ⟨b, off, cur, fr, e, hb⟩ := h hp
  exact ⟨b, off, cur, fr, e, (hg.block b (lt_of_block hb) (hd hp b off e)).trans hb⟩
theorem Typed.later {w w' : World} {ao : Option Addr} {len : Nat} (h : Typed w ao len) (hb : Below w.heap.size w w') : Typed w' ao len := by
  intro hp
  obtain ⟨b, off, cur, fr, e, hh⟩ := h hp
  exact ⟨b, off, cur, fr, e, (hb.block b (lt_of_block hh)).trans hh⟩
/-- A row of bytes and a row of limbs lie apart. -/
theorem BOwn.apart {w : World} {base n : Nat} {v : Value} {xs : List Nat} {ao : Option Addr} {len : Nat} (h : BOwn w base v n xs) (t : Typed w ao len) : 0 < len → ∀ b off, ao = some ⟨b, off, none⟩ → some b ≠ v.ownBlock := by
  intro hp b off e hcon
  obtain ⟨b', off', cur', fr', e', hb'⟩ := t hp
  rw [e] at e'
  simp only [Option.some.injEq, Addr.mk.injEq, and_true] at e'
  obtain ⟨rfl, rfl⟩ := e'
  rcases h.2 with ⟨h', _⟩ | ⟨g, cap, cur, h', _, hg, _⟩
  · subst h'; simp [Value.ownBlock] at hcon
  · subst h'
    simp only [Value.ownBlock, Option.some.injEq] at hcon
    subst hcon
    rw [hg] at hb'
    simp at hb'
theorem BOwn.block_ge {w : World} {base n : Nat} {v : Value} {xs : List Nat} (h : BOwn w base v n xs) : ∀ k, v.ownBlock = some k → base ≤ k := by
  intro k hk
  rcases h.2 with ⟨h', _⟩ | ⟨g', cap', cur, h', hb, _⟩
  · subst h'; simp [Value.ownBlock] at hk
  · subst h'; simp [Value.ownBlock] at hk; omega
theorem ten_limbs (k : Nat) : Bp k ≤ 10 ^ (10 * k) := by
  unfold Bp
  rw [Nat.pow_mul]
  exact Nat.pow_le_pow_left (by omega) k
theorem digits_le {N n k : Nat} (h1 : 10 ^ n ≤ N) (h2 : N < Bp k) : n ≤ 10 * k := by
  rcases Nat.lt_or_ge (10 * k) n with c | c
  · have h3 := ten_limbs k
    have h4 : 10 ^ (10 * k) ≤ 10 ^ n := Nat.pow_le_pow_right (by omega) (by omega)
    omega
  · exact c
/-- The signs so far. -/
def Signs (N n : Nat) (bs : List Nat) : Prop := bs.length = n ∧ ∀ i, i < n → lim bs i = 48 + dig N i
theorem signs_nil (N : Nat) : Signs N 0 [] := ⟨rfl, fun i h => absurd h (by omega)⟩
theorem Signs.more {N n : Nat} {bs : List Nat} (h : Signs N n bs) : Signs N (n + 1) (bs ++ [48 + dig N n]) := by
  refine ⟨by simp [h.1], fun i hi => ?_⟩
  rw [lim_snoc, h.1]
  split
  · next e => rw [e]
  · exact h.2 i (by omega)
theorem Signs.bytes {N n : Nat} {bs : List Nat} (h : Signs N n bs) : Bytes bs := by
  intro i
  rcases Nat.lt_or_ge i n with c | c
  · have := dig_lt N i
    rw [h.2 i c]; omega
  · rw [lim_out (by rw [h.1]; exact c)]; omega

set_option maxRecDepth 20000 in
set_option maxHeartbeats 4000000 in
theorem backwards_any (ao : Option Addr) (len cap N : Nat) (w : World) (h : ValAt w ao len cap N) (hlen : len ≤ 1000000) :
    Calls Try.prog 22 #[.slice ao len cap] w fun e w' => ∃ ao' n cap' bs, e = .returned (.slice ao' n cap') ∧ BRowAt w' ao' n cap' bs ∧ Signs N n bs ∧ N < 10 ^ n ∧ n ≤ 10000009 ∧ Below w.heap.size w w' := by
  have hNl : N < Bp len := h.lt (Nat.le_refl _)
  have HN := hide hNl
  clear hNl
  go_enter Try.func22, Try.ntmps22
  go_wp2
  go_loopg [0, 3] (N + len) (fun g x v wr => ∃ (a1 : Option Addr) (l1 c1 n A : Nat) (bs : List Nat), x = .slice a1 l1 c1 ∧ ValAt wr a1 l1 c1 A ∧ A = N / 10 ^ n ∧ g = A + l1 ∧ l1 ≤ len ∧ (n = 0 ∨ l1 = 0 ∨ 0 < A) ∧ n ≤ 10 * len + 9 ∧ BOwn wr w.heap.size v n bs ∧ Signs N n bs ∧ Below w.heap.size w wr)
  case atStart => exact ⟨ao, len, cap, 0, N, [], rfl, h, by simp, rfl, by omega, Or.inl rfl, by omega, bown_none _ _, signs_nil _, Below.refl _ _⟩
  case round =>
    obtain ⟨a1, l1, c1, n, A, bs, rfl, hval, hA, hg, hl1, hz, hn, hown, hsg, hbel⟩ := hrel
    have HA := hide hA
    have HG := hide hg
    have HZ := hide hz
    have HS := hide hsg
    clear hA hg hz hsg
    by_cases hp : 0 < l1
    · have hp' : (0 : Int) < (l1 : Int) := by omega
      obtain ⟨xs1, hx1, hv1⟩ := hval
      have HV := hide hv1
      have hAl : A < Bp l1 := by rw [← hv1]; exact row_lt hx1 (Nat.le_refl _)
      have HAl := hide hAl
      clear hv1 hAl
      go_wp2_with fail
      refine (over_typed _ _ _ xs1 1000000000 wr hx1 (by omega) (by omega) (by omega)).mono ?_
      rintro e w2 ⟨a2, l2, c2, rfl, hnum2, hb2, ht2⟩
      rw [unhide HV] at hnum2 ⊢
      obtain ⟨P, hP⟩ : ∃ P, P = A % 1000000000 := ⟨_, rfl⟩
      rw [← hP]
      have hP9 : P < 1000000000 := by rw [hP]; exact Nat.mod_lt _ (by omega)
      have HP := hide hP
      have hown2 := hown.later hb2
      have hbel2 := hbel.trans (hb2.mono hbel.size)
      clear hP hown hb2 hbel hx1
      have hn9 : n ≤ 10 * len := by
        rcases unhide HZ with h0 | h0 | h0
        · omega
        · omega
        · refine digits_le (ge_of_div (k := n) (N := N) ?_) (unhide HN)
          rw [← unhide HA]; omega
      go_wp2_with fail
      go_loopw [3, 4, 14] (fun v p i w3 => ∃ (j q : Nat) (bs' : List Nat), j ≤ 9 ∧ i = .int .i64 j ∧ p = .int .u32 q ∧ q = P / 10 ^ j ∧ BOwn w3 w.heap.size v (n + j) bs' ∧ Signs N (n + j) bs' ∧ NumAt w3 a2 l2 c2 (A / 1000000000) ∧ Typed w3 a2 l2 ∧ Below w.heap.size w w3) (fun _ _ i _ => 9 - (intOf i).toNat)
      case atStart => exact ⟨0, P, bs, by omega, rfl, rfl, by simp, hown2, unhide HS, hnum2, ht2, hbel2⟩
      case round =>
        obtain ⟨j, q, bs', hj, rfl, rfl, hq, hown3, hsg3, hnum3, ht3, hbel3⟩ := hrel
        have HQ := hide hq
        have HS3 := hide hsg3
        have hq9 : q < 1000000000 := by rw [hq]; exact Nat.lt_of_le_of_lt (Nat.div_le_self _ _) hP9
        clear hq hsg3 hown2 hnum2 ht2 hbel2
        by_cases hj9 : j < 9
        · have hqd : q % 10 = dig N (n + j) := by rw [unhide HQ, unhide HP, unhide HA]; exact dig_group N n j hj9
          have HD := hide hqd
          clear hqd
          have hyc : (48 + (q : Int) % 10) = ((48 + dig N (n + j) : Nat) : Int) := by rw [← unhide HD]; omega
          have HY := hide hyc
          clear hyc
          go_wp2_with (at_builtin; refine append_byte rfl _ _ rfl w.heap.size _ (n + j) bs' rfl ?_ wr.heap.size 1 (48 + dig N (n + j)) rfl ?_ (by omega) ?_ ?_)
          · exact hown3.later (below_one _ _)
          · rw [unhide HY]; simp
          · exact Nat.le_trans hbel3.size (by simp)
          · intro v' w4 hown4 hgrow4
            have hap := BOwn.apart (hown3.later (below_one wr (.cells #[.int .u8 (48 + (q : Int) % 10)] 5))) (ht3.later (below_one _ _))
            have hnum4 := (hnum3.later (below_one _ _)).grown hgrow4 hap
            have ht4 := (ht3.later (below_one _ _)).grown hgrow4 hap
            have hbel4 : Below w.heap.size w w4 := (hbel3.alloc hbel3.size _).grown hgrow4 (Nat.le_trans hbel3.size (by simp)) (fun k hk => hown3.block_ge k hk)
            clear hap hgrow4 hnum3 ht3 hbel3 hown3
            go_wp2
            go_roundw
            case rel =>
              refine ⟨j + 1, q / 10, _, by omega, by go_num, by go_num, ?_, hown4, (unhide HS3).more, hnum4, ht4, hbel4⟩
              rw [unhide HQ, div_more]
            case measure => simp [intOf]; omega
        · obtain rfl : j = 9 := by omega
          have hA2 : A / 1000000000 = N / 10 ^ (n + 9) := by rw [unhide HA, div_group]
          have hl2 : l2 ≤ l1 := hnum3.len_le (Nat.lt_of_le_of_lt (Nat.div_le_self _ _) (unhide HAl))
          have hz2 : l2 = 0 ∨ 0 < A / 1000000000 := by
            rcases Nat.eq_zero_or_pos (A / 1000000000) with e | e
            · left
              rw [e] at hnum3
              exact hnum3.len_zero
            · exact Or.inr e
          have hm : A / 1000000000 + l2 < A + l1 := by
            rcases Nat.eq_zero_or_pos A with e | e
            · have e2 : A / 1000000000 = 0 := by rw [e]
              rw [e2] at hz2
              omega
            · have := Nat.div_lt_self e (show 1 < 1000000000 by omega)
              omega
          have HA2 := hide hA2
          have HZ2 := hide hz2
          have HM := hide hm
          clear hA2 hz2 hm
          go_wp2
          go_roundg (A / 1000000000 + l2)
          case measure => rw [unhide HG]; exact unhide HM
          case rel => exact ⟨a2, l2, c2, n + 9, A / 1000000000, bs', rfl, hnum3.val, unhide HA2, rfl, by omega, Or.inr (unhide HZ2), by omega, hown3, unhide HS3, hbel3⟩
    · have hl0 : l1 = 0 := by omega
      have hA0 : A = 0 := by
        have := hval.lt (k := 0) (by omega)
        rw [Bp_zero] at this
        omega
      have hlt : N < 10 ^ n := lt_of_div (by rw [← unhide HA]; exact hA0)
      have HLT := hide hlt
      clear hA0 hlt
      go_wp2
      go_ret
      obtain ⟨a', c', rfl, hr⟩ := browAt_owned hown (unhide HS).bytes
      exact ⟨a', n, c', bs, rfl, hr, unhide HS, unhide HLT, by omega, hbel⟩
#print axioms backwards_any
end Go.Proofs.Ytfjebgjhhojphaa
