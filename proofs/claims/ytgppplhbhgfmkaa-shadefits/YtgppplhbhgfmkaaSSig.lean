/-
  What Signs, Support and Bits of package shade tell. (IN PARTS)
-/
import Derived.Test.YtgppplhbhgfmkaaJF
import Derived.Test.YtgppplhbhgfmkaaSNum
import Derived.Test.YtgppplhbhgfmkaaSBel
import Derived.Test.YtgppplhbhgfmkaaJE
import Derived.Deep.CutRange
namespace Go.Proofs.Ytgppplhbhgfmkaa
open Go.RowKit Lb

theorem sgn_small (x : Int) : In64' x.sign := by
  unfold In64'
  rcases sgn_three x with e | e | e <;> rw [e] <;> omega
theorem bits_min (v : List Int) (n : Nat) : bitsN v n = bitsN v (min n 64) := by
  by_cases h : n ≤ 64
  · rw [Nat.min_eq_left h]
  · obtain ⟨k, rfl⟩ : ∃ k, n = 64 + k := ⟨n - 64, by omega⟩
    rw [Nat.min_eq_right (by omega)]
    clear h
    induction k with
    | zero => rfl
    | succ k ih => rw [← Nat.add_assoc, bitsN_skip (Or.inr (by omega)), ih]
theorem bits_small (v : List Int) (n : Nat) : bitsN v n < 18446744073709551616 := by
  have h := bitsN_lt v n
  have h2 : 2 ^ min n 64 ≤ 2 ^ 64 := Nat.pow_le_pow_right (by omega) (by omega)
  have h3 : (2 : Nat) ^ 64 = 18446744073709551616 := by decide
  omega
theorem shl_one (i : Nat) (h : i < 64) : IntKind.u64.wrap (2 ^ i) = ((2 ^ i : Nat) : Int) := by
  have h3 : (2 : Nat) ^ 64 = 18446744073709551616 := by decide
  have h2 : (2 : Nat) ^ i < 2 ^ 64 := Nat.pow_lt_pow_right (by omega) h
  rw [IntKind.wrap_u64, show ((2 : Int) ^ i) = ((2 ^ i : Nat) : Int) by simp]
  obtain ⟨P, eP⟩ : ∃ P, P = (2 : Nat) ^ i := ⟨_, rfl⟩
  rw [← eP] at h2 ⊢
  omega
theorem or_u64 (X i : Nat) (hX : X < 18446744073709551616) (hi : i < 64) : bits .or .u64 (X : Int) (2 ^ i) = ((X ||| 2 ^ i : Nat) : Int) := by
  have h3 : (2 : Nat) ^ 64 = 18446744073709551616 := by decide
  have h2 : (2 : Nat) ^ i < 2 ^ 64 := Nat.pow_lt_pow_right (by omega) hi
  rw [show ((2 : Int) ^ i) = ((2 ^ i : Nat) : Int) by simp]
  exact u64_or_nat _ _ hX (by omega)

set_option maxHeartbeats 1600000 in
theorem ssignsK (ao : Option Addr) (n cap : Nat) (zs : List Int) (k : Nat) (w : World) (h : VK w ao n cap zs k) (hn : n ≤ 1000000) :
    Calls Try.prog 11 #[.slice ao n cap] w fun e w' => ∃ a1 c1, e = .returned (.slice a1 n c1) ∧ IRowAt w' a1 n c1 (zs.map Int.sign) ∧ Below w.heap.size w w' := by
  have HL := hide h.len_eq
  go_enter Try.func11, Try.ntmps11
  have HB := hide (Below.refl w.heap.size w)
  go_wp2_with (at_make; refine make_ints rfl _ _ 26 Try.underlying26 rfl w.heap.size .i64 .i64 _ _ n rfl rfl (by omega) (by omega) (by omega) (by omega) ?_)
  intro w2 hown hgrow
  have hbg : Below w.heap.size w w2 := (Below.refl _ _).grown hgrow (Nat.le_refl _) (fun _ h => by simp at h)
  replace HB := hide (Below.step (unhide HB) hbg)
  clear hgrow hbg
  obtain ⟨gv, egv⟩ : ∃ gv, gv = w.heap.size := ⟨_, rfl⟩
  rw [show (some ⟨w.heap.size, 0, none⟩ : Option Addr) = some ⟨gv, 0, none⟩ by rw [egv]] at hown ⊢
  clear egv
  go_wp2_with fail
  go_loopw [11] (fun t wr => ∃ (i : Nat) (ps : List Int), i ≤ n ∧ t = .int .i64 (i : Int) ∧ IOwn wr w.heap.size (some ⟨gv, 0, none⟩) n n ps ∧ (∀ j, j < i → ps.getD j 0 = (zs.getD j 0).sign) ∧ Below w.heap.size w wr) (fun t _ => n - (intOf t).toNat)
  case atStart => exact ⟨0, _, Nat.zero_le _, rfl, hown, fun j hj => absurd hj (by omega), unhide HB⟩
  case round =>
    clear hown HB
    obtain ⟨i, ps, hi, rfl, hv, hall, hB⟩ := hrel
    have HA := hide hall
    clear hall
    have HB := hide hB
    clear hB
    by_cases hlt : i < n
    · obtain ⟨g2, off2, rfl⟩ := h.some (by omega)
      obtain ⟨b2, a2, l2, c2, E2, hy2⟩ := (h.later (unhide HB)).at (show i < n by omega)
      have he := E2
      obtain ⟨f1, f2⟩ := E2.facts
      have hg2 := E2.1
      clear E2
      obtain ⟨s, es⟩ : ∃ s, s = (zs.getD i 0).sign := ⟨_, rfl⟩
      have ES := hide es
      clear es
      go_wp2_with fail
      obtain ⟨W2, hW2⟩ : ∃ W2, W2 = wr.alloc (.cells #[.bool b2, .slice a2 l2 c2] 31) := ⟨_, rfl⟩
      obtain ⟨D0, hb1⟩ := boxes1 wr b2 a2 l2 c2 hW2
      rw [← hW2]
      clear hW2 f1 f2 he
      replace hv := hv.later hb1
      replace hy2 := hy2.later hb1
      replace HB := hide (Below.step (unhide HB) hb1)
      clear hb1
      clear D0
      refine (signK b2 a2 l2 c2 (zs.getD i 0) k s _ hy2 (unhide ES)).mono ?_
      rintro e w5 ⟨rfl, hb1⟩
      replace hv := hv.later hb1
      replace HB := hide (Below.step (unhide HB) hb1)
      clear hb1 hy2
      obtain ⟨q0, q1⟩ := hv.irow.at (show i < n by omega)
      rw [Nat.zero_add] at q1
      have q3 := hv.free i
      have hbl := hv.base_le
      go_wp2
      go_roundw
      case rel =>
        refine ⟨i + 1, ps.set i s, by omega, by go_num, hv.set i (by rw [unhide ES]; exact sgn_small _), ?_, (unhide HB).setCell (by simpa using hbl.1) _⟩
        rw [unhide ES]
        exact put_each (f := fun j => (zs.getD j 0).sign) (by rw [hv.len]; omega) (unhide HA)
      case measure => simp [intOf]; omega
    · have hin : i = n := by omega
      subst hin
      have hps := map_of_each (f := Int.sign) (unhide HL) hv.len (unhide HA)
      subst hps
      go_wp2
      go_ret
      exact ⟨_, _, rfl, hv.irow, unhide HB⟩

set_option maxHeartbeats 1600000 in
theorem ssuppK (ao : Option Addr) (n cap : Nat) (zs : List Int) (k : Nat) (w : World) (h : VK w ao n cap zs k) (hn : n ≤ 1000000) :
    Calls Try.prog 12 #[.slice ao n cap] w fun e w' => ∃ a1 q c1, e = .returned (.slice a1 q c1) ∧ q = (suppN zs n).length ∧ IRowAt w' a1 q c1 (suppN zs n) ∧ Below w.heap.size w w' := by
  have HL := hide h.len_eq
  go_enter Try.func12, Try.ntmps12
  go_wp2_with fail
  go_loopw [3, 8] (fun u t wr => ∃ (i : Nat) (ao' : Option Addr) (q cap' : Nat), i ≤ n ∧ t = .int .i64 (i : Int) ∧ u = .slice ao' q cap' ∧ IOwn wr w.heap.size ao' q cap' (suppN zs i) ∧ Below w.heap.size w wr) (fun _ t _ => n - (intOf t).toNat)
  case atStart => exact ⟨0, none, 0, 0, Nat.zero_le _, rfl, rfl, iown_nil _ _, Below.refl _ _⟩
  case round =>
    obtain ⟨i, ao', q, cap', hi, rfl, rfl, hown, hB⟩ := hrel
    have HB := hide hB
    clear hB
    by_cases hlt : i < n
    · obtain ⟨g2, off2, rfl⟩ := h.some (by omega)
      obtain ⟨b2, a2, l2, c2, E2, hy2⟩ := (h.later (unhide HB)).at (show i < n by omega)
      have he := E2
      obtain ⟨f1, f2⟩ := E2.facts
      have hg2 := E2.1
      clear E2
      obtain ⟨z, ez⟩ : ∃ z, z = zs.getD i 0 := ⟨_, rfl⟩
      rw [← ez] at hy2
      have EZ := hide ez
      clear ez
      obtain ⟨s, es⟩ : ∃ s, s = z.sign := ⟨_, rfl⟩
      have ES := hide es
      go_wp2_with fail
      obtain ⟨W2, hW2⟩ : ∃ W2, W2 = wr.alloc (.cells #[.bool b2, .slice a2 l2 c2] 31) := ⟨_, rfl⟩
      obtain ⟨D0, hb1⟩ := boxes1 wr b2 a2 l2 c2 hW2
      rw [← hW2]
      clear hW2 f1 f2 he
      replace hown := hown.later hb1
      replace hy2 := hy2.later hb1
      replace HB := hide (Below.step (unhide HB) hb1)
      clear hb1
      clear D0
      refine (signK b2 a2 l2 c2 z k s _ hy2 (unhide ES)).mono ?_
      rintro e w5 ⟨rfl, hb1⟩
      replace hown := hown.later hb1
      replace HB := hide (Below.step (unhide HB) hb1)
      clear hb1 hy2
      by_cases h0 : z = 0
      · have hs : (s != 0) = false := by rw [es, h0]; rfl
        clear es
        go_wp2
        go_roundw
        case rel => exact ⟨i + 1, _, _, _, by omega, by go_num, rfl, by rw [suppN_skip (by rw [← unhide EZ]; exact h0)]; exact hown, unhide HB⟩
        case measure => simp [intOf]; omega
      · have hs : (s != 0) = true := by
          rw [bne_iff_ne, es]
          exact fun e => h0 (Int.sign_eq_zero_iff_zero.1 e)
        clear es
        have hql : q ≤ 1000000 := by
          have e1 := suppN_le zs i
          rw [hown.len] at e1
          omega
        have hsz := (unhide HB).size
        obtain ⟨W6, hW6⟩ : ∃ W6, W6 = w5.alloc (.cells #[.int .i64 (i : Int)] 3) := ⟨_, rfl⟩
        have hb9 : Below w5.heap.size w5 W6 := by rw [hW6]; exact below_new _ _
        replace hown := hown.later hb9
        replace HB := hide (Below.step (unhide HB) hb9)
        clear hb9
        have hcell : W6.cell? ⟨w5.heap.size, 0, none⟩ = some (.int .i64 (i : Int)) := by rw [hW6]; simp
        have hsz := (unhide HB).size
        rw [hW6] at hown hcell hsz
        go_wp2_with (at_builtin; refine append_int rfl (.tmp 16) (.tmp 18) 26 Try.underlying26 rfl w.heap.size ao' q cap' (suppN zs i) rfl hown hql hsz w5.heap.size 0 1 (i : Int) rfl (by unfold In64'; omega) hcell ?_)
        intro gn cn w7 hown2 hgr
        rw [← hW6] at hgr hown hsz
        clear hW6 hcell
        have HD := (unhide HB).grown hgr hsz hown.ge
        clear hgr
        go_wp2
        go_roundw
        case rel => exact ⟨i + 1, _, _, _, by omega, by go_num, rfl, by rw [suppN_take (by rw [← unhide EZ]; exact h0)]; exact hown2, HD⟩
        case measure => simp [intOf]; omega
    · have hin : i = n := by omega
      subst hin
      go_wp2
      go_ret
      exact ⟨_, _, _, rfl, hown.len.symm, hown.irow, unhide HB⟩

set_option maxHeartbeats 1600000 in
theorem sbitsK (ao : Option Addr) (n cap : Nat) (zs : List Int) (k : Nat) (w : World) (h : VK w ao n cap zs k) (hn : n ≤ 1000000) :
    Calls Try.prog 14 #[.slice ao n cap] w fun e w' => e = .returned (.int .u64 ((bitsN zs n : Nat) : Int)) ∧ Below w.heap.size w w' := by
  have HL := hide h.len_eq
  have hmin : ∀ (ts : Array TypeId) (t : TypeId) (W : World), (Builtin.min_ ts t #[.int .i64 (n : Int), .int .i64 64]).run Try.prog W = .ok (.int .i64 ((min n 64 : Nat) : Int)) W := min_len n 64
  obtain ⟨m, em⟩ : ∃ m, m = min n 64 := ⟨_, rfl⟩
  have ER := hide (bits_min zs n)
  rw [← em] at hmin ER
  have hmn : m ≤ n := by omega
  have hm4 : m ≤ 64 := by omega
  clear em
  obtain ⟨R, eR⟩ : ∃ R, R = bitsN zs n := ⟨_, rfl⟩
  rw [← eR] at ER ⊢
  clear eR
  go_enter Try.func14, Try.ntmps14
  go_wp2_with fail
  go_loopw [3, 8] (fun u t wr => ∃ (i : Nat), i ≤ m ∧ t = .int .i64 (i : Int) ∧ u = .int .u64 ((bitsN zs i : Nat) : Int) ∧ Below w.heap.size w wr) (fun _ t _ => m - (intOf t).toNat)
  case atStart => exact ⟨0, Nat.zero_le _, rfl, rfl, Below.refl _ _⟩
  case round =>
    obtain ⟨i, hi, rfl, rfl, hB⟩ := hrel
    have HB := hide hB
    clear hB
    by_cases hlt : i < m
    · obtain ⟨g2, off2, rfl⟩ := h.some (by omega)
      obtain ⟨b2, a2, l2, c2, E2, hy2⟩ := (h.later (unhide HB)).at (show i < n by omega)
      have he := E2
      obtain ⟨f1, f2⟩ := E2.facts
      have hg2 := E2.1
      clear E2
      have hi1 : (i : Int) < (n : Int) := by omega
      obtain ⟨z, ez⟩ : ∃ z, z = zs.getD i 0 := ⟨_, rfl⟩
      rw [← ez] at hy2
      have EZ := hide ez
      clear ez
      obtain ⟨s, es⟩ : ∃ s, s = z.sign := ⟨_, rfl⟩
      have ES := hide es
      go_wp2_with fail
      refine (signK b2 a2 l2 c2 z k s _ hy2 (unhide ES)).mono ?_
      rintro e w5 ⟨rfl, hb1⟩
      replace HB := hide (Below.step (unhide HB) hb1)
      clear hb1 hy2 f1 f2 he hg2
      by_cases h0 : z = 0
      · have hs : (s != 0) = false := by rw [es, h0]; rfl
        clear es
        go_wp2
        go_roundw
        case rel => exact ⟨i + 1, by omega, by go_num, by rw [bitsN_skip (Or.inl (by rw [← unhide EZ]; exact h0))], unhide HB⟩
        case measure => simp [intOf]; omega
      · have hs : (s != 0) = true := by
          rw [bne_iff_ne, es]
          exact fun e => h0 (Int.sign_eq_zero_iff_zero.1 e)
        clear es
        have EB := hide (bitsN_or (v := zs) (n := i) (by rw [← unhide EZ]; exact h0) (by omega))
        obtain ⟨X, eX⟩ : ∃ X, X = bitsN zs i := ⟨_, rfl⟩
        have hX : X < 18446744073709551616 := by rw [eX]; exact bits_small zs i
        rw [← eX] at EB ⊢
        clear eX
        have hsh := shl_one i (by omega)
        have HO := hide (or_u64 X i hX (by omega))
        clear hX
        go_wp2
        go_roundw
        case rel => exact ⟨i + 1, by omega, by go_num, by rw [unhide EB, unhide HO], unhide HB⟩
        case measure => simp [intOf]; omega
    · have hin : i = m := by omega
      subst hin
      have eR := unhide ER
      subst eR
      go_wp2
      go_ret
      exact ⟨rfl, unhide HB⟩

#print axioms ssignsK
#print axioms ssuppK
#print axioms sbitsK
end Go.Proofs.Ytgppplhbhgfmkaa
