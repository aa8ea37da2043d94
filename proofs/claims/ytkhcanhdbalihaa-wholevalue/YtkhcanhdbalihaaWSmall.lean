/-
  What whole.sizeOf and whole.Small tell.
-/
import Derived.Test.YtkhcanhdbalihaaWForm
namespace Go.Proofs.Ytkhcanhdbalihaa
open Go.RowKit Lb

theorem or_size {n l : Nat} (hn : n < 4294967296) (hl : l < 4294967296) : bits .or .u64 ((n : Int) * 4294967296) (l : Int) = ((n * 4294967296 + l : Nat) : Int) := by
  have e : ((n : Int) * 4294967296) = ((n * 4294967296 : Nat) : Int) := by omega
  rw [e, u64_or_nat _ _ (by omega) (by omega)]
  congr 1
  have := Nat.shiftLeft_add_eq_or_of_lt (b := l) (i := 32) (by omega) n
  rw [Nat.shiftLeft_eq] at this
  exact this.symm

set_option maxHeartbeats 1000000 in
theorem sizeOf_any (aa : Option Addr) (la ca : Nat) (xs : List Nat) (w : World) (ha : RowAt w aa la ca xs) (hv : Lb.val xs < 18446744073709551616) :
    Calls Try.prog 34 #[.slice aa la ca] w fun e w' => e = .returned (.int .u64 (Lb.val xs : Int)) ∧ w = w' := by
  have hm := ha.cap_max
  have hcl := ha.cap_le
  unfold maxLen at hm
  go_enter Try.func34, Try.ntmps34
  go_wp2
  go_loop [3, 4] (fun s i => ∃ k : Nat, k ≤ la ∧ i = .int .i64 ((k : Int) - 1) ∧ s = .int .u64 (Lb.val (xs.drop k) : Int)) (fun _ i => (intOf i + 1).toNat)
  case atStart => exact ⟨la, Nat.le_refl _, rfl, by rw [val_drop_end (by rw [ha.len_eq]; exact Nat.le_refl _)]; rfl⟩
  case round =>
    obtain ⟨k, hk, rfl, rfl⟩ := hrel
    by_cases hlt : 0 < k
    · obtain ⟨bl, off, rfl, hbl, hc⟩ := ha.cells (by omega)
      have hcell : w.cell? ⟨bl, off + (k - 1), none⟩ = some (.int .u32 (lim xs (k - 1) : Int)) := hc (k - 1) (by omega)
      have hsm := ha.small (k - 1)
      have hst := val_drop_step xs (k - 1)
      rw [show k - 1 + 1 = k by omega] at hst
      have hdiv : Lb.val (xs.drop (k - 1)) ≤ Lb.val xs := by rw [val_drop_div ha.small]; exact Nat.div_le_self _ _
      obtain ⟨V, hV⟩ : ∃ V, V = Lb.val (xs.drop k) := ⟨_, rfl⟩
      obtain ⟨l, hl⟩ : ∃ l, l = lim xs (k - 1) := ⟨_, rfl⟩
      rw [← hV] at hst ⊢
      rw [← hl] at hst hcell hsm
      have HV := hide hV
      have HL := hide hl
      have HS := hide hst
      have hVb : V < 4294967296 := by omega
      have hor : bits .or .u64 ((V : Int) * 4294967296) (l : Int) = ((V * 4294967296 + l : Nat) : Int) := or_size hVb hsm
      have HOR := hide hor
      clear hV hl hst hc hor
      go_wp2
      go_round
      case rel =>
        refine ⟨k - 1, by omega, by congr 1; omega, ?_⟩
        rw [unhide HOR, unhide HS, Nat.add_comm, Nat.mul_comm]
      case measure => simp [intOf]; omega
    · obtain rfl : k = 0 := by omega
      rw [List.drop_zero]
      go_wp2
      go_ret
      exact ⟨rfl, rfl⟩

theorem wrap64_eq {n : Int} (h1 : -9223372036854775808 ≤ n) (h2 : n ≤ 9223372036854775807) : wrap64 n = n := by
  unfold wrap64; omega
theorem wrap64_minus {N : Nat} (h : N ≤ 9223372036854775808) : wrap64 (IntKind.u64.wrap (-(N : Int))) = -(N : Int) := by
  rw [IntKind.wrap_u64]
  unfold wrap64; omega
theorem ret_i64b {a b : Int} {c : Bool} (h : a = b) : Ending.returned (.tuple #[.int .i64 a, .bool c]) = .returned (.tuple #[.int .i64 b, .bool c]) := by rw [h]
theorem bits_le {N n : Nat} (h : IsBits N n) (hN : N < 18446744073709551616) : n ≤ 64 := by
  rcases h with ⟨_, h⟩ | ⟨h1, h2, _⟩
  · omega
  · rcases Nat.lt_or_ge 64 n with c | c
    · exfalso
      have := Nat.pow_le_pow_right (show 0 < 2 by omega) (show 64 ≤ n - 1 by omega)
      omega
    · exact c
theorem bits_gt {N n : Nat} (h : IsBits N n) (hN : 18446744073709551616 ≤ N) : 64 < n := by
  rcases h with ⟨h, _⟩ | ⟨h1, _, h3⟩
  · omega
  · rcases Nat.lt_or_ge 64 n with c | c
    · exact c
    · exfalso
      have := Nat.pow_le_pow_right (show 0 < 2 by omega) c
      omega
theorem sizeOf_num (aa : Option Addr) (la ca N : Nat) (w : World) (ha : ValAt w aa la ca N) (hv : N < 18446744073709551616) :
    Calls Try.prog 34 #[.slice aa la ca] w fun e w' => e = .returned (.int .u64 (N : Int)) ∧ w = w' := by
  obtain ⟨xs, hx, rfl⟩ := ha
  exact sizeOf_any _ _ _ xs w hx hv

set_option maxRecDepth 20000 in
set_option maxHeartbeats 1000000 in
theorem small_yes (b : Bool) (aa : Option Addr) (la ca : Nat) (z : Int) (w : World) (ha : IntAt w b aa la ca z) (hla : la ≤ 1000000) (h1 : -9223372036854775808 ≤ z) (h2 : z ≤ 9223372036854775807) :
    Calls Try.prog 11 #[.agg #[.bool b, .slice aa la ca]] w fun e w' => e = .returned (.tuple #[.int .i64 z, .bool true]) ∧ Below w.heap.size w w' := by
  obtain ⟨N, hN, hz⟩ := ha
  have hbox : Below w.heap.size w (w.alloc (.cells #[.bool b, .slice aa la ca] 24)) := (Below.refl _ _).alloc (Nat.le_refl _) _
  have hN' := hN.later hbox
  cases b
  · rw [sgnd_false] at hz
    subst hz
    have HR := hide (show N < 18446744073709551616 by omega)
    have K1 := hide (show N ≤ 9223372036854775807 by omega)
    clear h1 h2
    go_enter Try.func11, Try.ntmps11
    go_wp2_with fail
    refine (bits_num _ _ _ N _ hN' hla).mono ?_
    rintro e w1 ⟨n, rfl, hn, rfl⟩
    have hn64 := bits_le hn (unhide HR)
    have hn' : ¬ (64 < (n : Int)) := by omega
    clear hn
    go_wp2_with fail
    refine (sizeOf_num _ _ _ N _ hN' (unhide HR)).mono ?_
    rintro e w1 ⟨rfl, rfl⟩
    have hd : decide ((N : Int) < 9223372036854775808) = true := by rw [decide_eq_true_eq]; have := unhide K1; omega
    go_wp2
    go_ret2
    exact ⟨ret_i64b (wrap64_eq (by omega) (by have := unhide K1; omega)), hbox⟩
  · rw [sgnd_true] at hz
    subst hz
    have HR := hide (show N < 18446744073709551616 by omega)
    have K2 := hide (show N ≤ 9223372036854775808 by omega)
    clear h1 h2
    by_cases hlt : N ≤ 9223372036854775807
    · have K1 := hide hlt
      clear hlt
      go_enter Try.func11, Try.ntmps11
      go_wp2_with fail
      refine (bits_num _ _ _ N _ hN' hla).mono ?_
      rintro e w1 ⟨n, rfl, hn, rfl⟩
      have hn64 := bits_le hn (unhide HR)
      have hn' : ¬ (64 < (n : Int)) := by omega
      clear hn
      go_wp2_with fail
      refine (sizeOf_num _ _ _ N _ hN' (unhide HR)).mono ?_
      rintro e w1 ⟨rfl, rfl⟩
      have hd : decide ((N : Int) < 9223372036854775808) = true := by rw [decide_eq_true_eq]; have := unhide K1; omega
      have hd2 : decide ((N : Int) ≤ 9223372036854775808) = true := by rw [decide_eq_true_eq]; have := unhide K2; omega
      go_wp2
      go_ret2
      exact ⟨ret_i64b (wrap64_minus (by have := unhide K2; omega)), hbox⟩
    · have K1 := hide (show 9223372036854775808 ≤ N by omega)
      clear hlt
      go_enter Try.func11, Try.ntmps11
      go_wp2_with fail
      refine (bits_num _ _ _ N _ hN' hla).mono ?_
      rintro e w1 ⟨n, rfl, hn, rfl⟩
      have hn64 := bits_le hn (unhide HR)
      have hn' : ¬ (64 < (n : Int)) := by omega
      clear hn
      go_wp2_with fail
      refine (sizeOf_num _ _ _ N _ hN' (unhide HR)).mono ?_
      rintro e w1 ⟨rfl, rfl⟩
      have hd : decide ((N : Int) < 9223372036854775808) = false := by rw [decide_eq_false_iff_not]; have := unhide K1; omega
      have hd2 : decide ((N : Int) ≤ 9223372036854775808) = true := by rw [decide_eq_true_eq]; have := unhide K2; omega
      go_wp2
      go_ret2
      exact ⟨ret_i64b (wrap64_minus (by have := unhide K2; omega)), hbox⟩

set_option maxRecDepth 20000 in
set_option maxHeartbeats 1000000 in
theorem small_no (b : Bool) (aa : Option Addr) (la ca : Nat) (z : Int) (w : World) (ha : IntAt w b aa la ca z) (hla : la ≤ 1000000) (h1 : z < -9223372036854775808 ∨ 9223372036854775807 < z) :
    Calls Try.prog 11 #[.agg #[.bool b, .slice aa la ca]] w fun e w' => e = .returned (.tuple #[.int .i64 0, .bool false]) ∧ Below w.heap.size w w' := by
  obtain ⟨N, hN, hz⟩ := ha
  have hbox : Below w.heap.size w (w.alloc (.cells #[.bool b, .slice aa la ca] 24)) := (Below.refl _ _).alloc (Nat.le_refl _) _
  have hN' := hN.later hbox
  by_cases hr : N < 18446744073709551616
  · have HR := hide hr
    clear hr
    cases b
    · rw [sgnd_false] at hz
      subst hz
      have K1 := hide (show 9223372036854775808 ≤ N by omega)
      clear h1
      by_cases hlt : N ≤ 9223372036854775808
      · have K2 := hide hlt
        clear hlt
        go_enter Try.func11, Try.ntmps11
        go_wp2_with fail
        refine (bits_num _ _ _ N _ hN' hla).mono ?_
        rintro e w1 ⟨n, rfl, hn, rfl⟩
        have hn64 := bits_le hn (unhide HR)
        have hn' : ¬ (64 < (n : Int)) := by omega
        clear hn
        go_wp2_with fail
        refine (sizeOf_num _ _ _ N _ hN' (unhide HR)).mono ?_
        rintro e w1 ⟨rfl, rfl⟩
        have hd : decide ((N : Int) < 9223372036854775808) = false := by rw [decide_eq_false_iff_not]; have := unhide K1; omega
        have hd2 : decide ((N : Int) ≤ 9223372036854775808) = true := by rw [decide_eq_true_eq]; have := unhide K2; omega
        go_wp2
        go_ret2
        exact ⟨rfl, hbox⟩
      · have K2 := hide (show 9223372036854775808 < N by omega)
        clear hlt
        go_enter Try.func11, Try.ntmps11
        go_wp2_with fail
        refine (bits_num _ _ _ N _ hN' hla).mono ?_
        rintro e w1 ⟨n, rfl, hn, rfl⟩
        have hn64 := bits_le hn (unhide HR)
        have hn' : ¬ (64 < (n : Int)) := by omega
        clear hn
        go_wp2_with fail
        refine (sizeOf_num _ _ _ N _ hN' (unhide HR)).mono ?_
        rintro e w1 ⟨rfl, rfl⟩
        have hd : decide ((N : Int) < 9223372036854775808) = false := by rw [decide_eq_false_iff_not]; have := unhide K1; omega
        have hd2 : decide ((N : Int) ≤ 9223372036854775808) = false := by rw [decide_eq_false_iff_not]; have := unhide K2; omega
        go_wp2
        go_ret2
        exact ⟨rfl, hbox⟩
    · rw [sgnd_true] at hz
      subst hz
      have K1 := hide (show 9223372036854775808 ≤ N by omega)
      have K2 := hide (show 9223372036854775808 < N by omega)
      clear h1
      go_enter Try.func11, Try.ntmps11
      go_wp2_with fail
      refine (bits_num _ _ _ N _ hN' hla).mono ?_
      rintro e w1 ⟨n, rfl, hn, rfl⟩
      have hn64 := bits_le hn (unhide HR)
      have hn' : ¬ (64 < (n : Int)) := by omega
      clear hn
      go_wp2_with fail
      refine (sizeOf_num _ _ _ N _ hN' (unhide HR)).mono ?_
      rintro e w1 ⟨rfl, rfl⟩
      have hd : decide ((N : Int) < 9223372036854775808) = false := by rw [decide_eq_false_iff_not]; have := unhide K1; omega
      have hd2 : decide ((N : Int) ≤ 9223372036854775808) = false := by rw [decide_eq_false_iff_not]; have := unhide K2; omega
      go_wp2
      go_ret2
      exact ⟨rfl, hbox⟩
  · have HR := hide (show 18446744073709551616 ≤ N by omega)
    clear hr h1
    go_enter Try.func11, Try.ntmps11
    go_wp2_with fail
    refine (bits_num _ _ _ N _ hN' hla).mono ?_
    rintro e w1 ⟨n, rfl, hn, rfl⟩
    have hn64 := bits_gt hn (unhide HR)
    have hn' : 64 < (n : Int) := by omega
    clear hn
    go_wp2
    go_ret2
    exact ⟨rfl, hbox⟩

#print axioms small_no
#print axioms small_yes
#print axioms sizeOf_any
end Go.Proofs.Ytkhcanhdbalihaa
