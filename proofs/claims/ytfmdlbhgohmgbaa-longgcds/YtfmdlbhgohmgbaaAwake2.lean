/-
  What awake of the second stage tells: true.
-/
import Derived.Test.YtfmdlbhgohmgbaaVals
namespace Go.Proofs.Ytfmdlbhgohmgbaa
open Go.RowKit Lb

theorem rowAt_three {w : World} {e f g : Int} (a b c : Nat) (he : e = (a : Int)) (hf : f = (b : Int)) (hg : g = (c : Int)) (ha : a < 4294967296) (hb : b < 4294967296) (hc : c < 4294967296) : RowAt (w.alloc (.cells #[.int .u32 e, .int .u32 f, .int .u32 g] 33)) (some ⟨w.heap.size, 0, none⟩) 3 3 [a, b, c] := by
  subst he hf hg
  exact rowAt_lit (cs := [a, b, c]) 3 rfl (by omega) (small_of_mem (by simp [ha, hb, hc]))
theorem val_three (a b c : Nat) : val [a, b, c] = a + b * 4294967296 + c * 18446744073709551616 := by simp [val, pre, lim, Bp]
theorem norm_three {a b c : Nat} (h : c ≠ 0) : Norm [a, b, c] := fun _ => by simpa [lim] using h

set_option maxRecDepth 20000 in
set_option maxHeartbeats 1000000 in
theorem awake_any (w : World) : Calls Try.prog 8 #[] w fun e w' => e = .returned (.bool true) ∧ Below w.heap.size w w' := by
  go_enter Try.func8, Try.ntmps8
  go_wp2_with fail
  have h1 : ValAt ((w.alloc (.cells #[.int .u32 0, .int .u32 0, .int .u32 1] 33)).alloc (.cells #[.int .u32 10] 33)) (some ⟨w.heap.size, 0, none⟩) 3 3 18446744073709551616 :=
    ⟨[0, 0, 1], (rowAt_three 0 0 1 rfl rfl rfl (by omega) (by omega) (by omega)).later ((Below.refl _ _).alloc (Nat.le_refl _) _), by rw [val_three]⟩
  have h2 : ValAt ((w.alloc (.cells #[.int .u32 0, .int .u32 0, .int .u32 1] 33)).alloc (.cells #[.int .u32 10] 33)) (some ⟨w.heap.size + 1, 0, none⟩) 1 1 10 := by
    have := rowAt_one (w := w.alloc (.cells #[.int .u32 0, .int .u32 0, .int .u32 1] 33)) (e := 10) (v := 10) rfl (by omega)
    exact ⟨[10], by simpa using this, val_one 10⟩
  have hb0 : Below w.heap.size w ((w.alloc (.cells #[.int .u32 0, .int .u32 0, .int .u32 1] 33)).alloc (.cells #[.int .u32 10] 33)) := ((Below.refl _ _).alloc (Nat.le_refl _) _).alloc (by simp) _
  refine (divmod_num _ _ _ _ _ _ _ _ _ h1 h2 (by omega) (by omega) (by omega)).mono ?_
  rintro e w1 ⟨a1, l1, c1, a2, l2, c2, rfl, hn1, hn2, hb1⟩
  have hl1 : l1 = 2 := hn1.len_is (k := 1) (by rw [Bp_one]; omega) (by rw [Bp_succ, Bp_one]; omega)
  rw [show 18446744073709551616 % 10 = 6 from rfl] at hn2
  subst hl1
  have hB1 := Below.step hb0 hb1
  clear h1 h2 hb0 hb1 hn1
  go_wp2_with fail
  have h3 : ValAt ((w1.alloc (.cells #[.int .u32 0, .int .u32 1] 33)).alloc (.cells #[.int .u32 0, .int .u32 1] 33)) (some ⟨w1.heap.size, 0, none⟩) 2 2 4294967296 :=
    ⟨[0, 1], (rowAt_two 0 1 rfl rfl (by omega) (by omega)).later ((Below.refl _ _).alloc (Nat.le_refl _) _), by rw [val_two]⟩
  have h4 : ValAt ((w1.alloc (.cells #[.int .u32 0, .int .u32 1] 33)).alloc (.cells #[.int .u32 0, .int .u32 1] 33)) (some ⟨w1.heap.size + 1, 0, none⟩) 2 2 4294967296 := by
    have := rowAt_two (w := w1.alloc (.cells #[.int .u32 0, .int .u32 1] 33)) (e := 0) (f := 1) 0 1 rfl rfl (by omega) (by omega)
    exact ⟨[0, 1], by simpa using this, by rw [val_two]⟩
  have hb2 : Below w1.heap.size w1 ((w1.alloc (.cells #[.int .u32 0, .int .u32 1] 33)).alloc (.cells #[.int .u32 0, .int .u32 1] 33)) := ((Below.refl _ _).alloc (Nat.le_refl _) _).alloc (by simp) _
  refine (mul_num _ _ _ _ _ _ _ _ _ h3 h4 (by omega) (by omega)).mono ?_
  rintro e w2 ⟨a3, l3, c3, rfl, hn3, hb3⟩
  rw [show 4294967296 * 4294967296 = 18446744073709551616 from rfl] at hn3
  have hB2 := Below.step hb2 hb3
  clear h3 h4 hb2 hb3
  go_wp2_with fail
  have h5 : NumAt (w2.alloc (.cells #[.int .u32 0, .int .u32 0, .int .u32 1] 33)) (some ⟨w2.heap.size, 0, none⟩) 3 3 18446744073709551616 :=
    ⟨[0, 0, 1], rowAt_three 0 0 1 rfl rfl rfl (by omega) (by omega) (by omega), norm_three (by omega), by rw [val_three]⟩
  have hb5 : Below w2.heap.size w2 (w2.alloc (.cells #[.int .u32 0, .int .u32 0, .int .u32 1] 33)) := (Below.refl _ _).alloc (Nat.le_refl _) _
  refine (same_true _ _ _ _ _ _ _ _ (hn3.later hb5) h5).mono ?_
  rintro e w3 ⟨rfl, hb6⟩
  have hn2' := (hn2.later hB2).later (Below.step hb5 hb6)
  have hB3 := Below.step (Below.step hB1 hB2) (Below.step hb5 hb6)
  clear h5 hb5 hb6 hn3 hn2 hB1 hB2
  go_wp2_with fail
  have h6 : NumAt (w3.alloc (.cells #[.int .u32 6] 33)) (some ⟨w3.heap.size, 0, none⟩) 1 1 6 := ⟨[6], rowAt_one rfl (by omega), norm_one (by omega), by rw [val_one]⟩
  have hb7 : Below w3.heap.size w3 (w3.alloc (.cells #[.int .u32 6] 33)) := (Below.refl _ _).alloc (Nat.le_refl _) _
  refine (same_true _ _ _ _ _ _ _ _ (hn2'.later hb7) h6).mono ?_
  rintro e w4 ⟨rfl, hb8⟩
  have hB4 := Below.step hB3 (Below.step hb7 hb8)
  clear h6 hb7 hb8 hn2' hB3
  go_wp2_with fail
  go_ret
  exact ⟨rfl, hB4⟩

#print axioms awake_any
end Go.Proofs.Ytfmdlbhgohmgbaa
