/-
 Package kernel's calls as the statements use them: of few rows of at most three limbs, of no rows, of rows in the form; what every program must know.
-/
import Derived.Test.YtjebmlogchoehaaGreatKOf
import Derived.Test.YtjebmlogchoehaaGreatJR
namespace Go.Proofs.YtjebmlogchoehaaGreat
open Go.RowKit Lb
set_option maxRecDepth 20000

/-- What Of and Across tell. -/
def KerTo (ls : List (List Int)) (N B : Nat) (w : World) (e : Ending) (w' : World) : Prop := ∃ a1 m c1 q K, e = .returned (.tuple #[.slice a1 m c1, .int .i64 0]) ∧ MF w' a1 m c1 K B ∧ HForm K q ∧ Ker K ls N ∧ (∀ r ∈ K, r.length = N) ∧ (∃ hs p, HForm hs p ∧ SameL ls hs ∧ (∀ r ∈ hs, r.length = N) ∧ hs.length + m = N) ∧ Below w.heap.size w w'
theorem acrossK {ls : List (List Int)} {N B : Nat} {ao : Option Addr} {n cap : Nat} {x : Int} {w : World} (h : Calls Tryz.prog 10 #[.slice ao n cap, .int .i64 x] w fun e w' => KerTo ls N B w e w') : Calls Tryz.prog 11 #[.slice ao n cap, .int .i64 x] w fun e w' => KerTo ls N B w e w' :=
 (acrossOf (R := fun a1 m c1 z w' => KerTo ls N B w (.returned (.tuple #[.slice a1 m c1, .int .i64 z])) w') (h.mono fun e w' hk => by
  have hk' := hk
  obtain ⟨a1, m, c1, q, K, rfl, r⟩ := hk'
  exact ⟨a1, m, c1, 0, rfl, hk⟩)).mono fun e w' hk => by
   obtain ⟨a1, m, c1, z, rfl, r⟩ := hk
   exact r
theorem few_bounded {ls : List (List Int)} (hn : ls.length ≤ 4) (hA : ∀ i j, (ent ls i j).natAbs < Bp 3) : Bounded ls 36 := (bounded_few (n := 4) (a := 3) hn (by omega) (by omega) hA).up (by omega)
theorem mk_ent {w : World} {ao : Option Addr} {n cap k : Nat} {rs : List (List Int)} (h : MK w ao n cap rs k) (i j : Nat) : (ent rs i j).natAbs < Bp k := by
 by_cases hi : i < n
 ·obtain ⟨g, off, rfl⟩ := h.addr (by omega)
  obtain ⟨_, a, l, c, _, hv⟩ := RowsOf.at (R := fun w a l c zs => VK w a l c zs k) h hi
  by_cases hj : j < l
  ·exact hv.lt hj
  ·unfold ent
   rw [List.getD_eq_getElem?_getD (l := rs.getD i []), List.getElem?_eq_none (by rw [hv.len_eq]; omega)]
   have := Bp_pos k
   simpa using this
 ·rw [ent_out (by rw [h.len_eq]; omega)]
  have := Bp_pos k
  simpa using this
/-- At most four rows of at most three limbs, of at most nine places, or no rows at all. -/
theorem kernelAny (ao : Option Addr) (n cap : Nat) (ls : List (List Int)) (N : Nat) (w : World) (h : MK w ao n cap ls 3) (hl : ∀ r ∈ ls, r.length = N) (h1 : 1 ≤ N) (h64 : N ≤ 64) (hn : n ≤ 4) (hc : N ≤ 9 ∨ n = 0) :
  Calls Tryz.prog 10 #[.slice ao n cap, .int .i64 (N : Int)] w fun e w' => KerTo ls N 76 w e w' := by
 have hlen := h.len_eq
 have hA := mk_ent h
 by_cases h9 : N ≤ 9
 ·refine (kernelOfK ao n cap ls 3 36 3 703 8 N w h hl h1 h64 (few_bounded (by omega) hA) (by omega) (by omega) (by omega) (by omega) (by omega) (fun hs p _ _ _ he _ M W hw => (wide_bounded hw (ent_turn_small he N) (by omega) (by omega)).up (by omega)) (by omega) (by omega) (by omega) (by omega)).mono ?_
  rintro e w' ⟨a1, m, c1, q, K, rfl, k1, k2, k3, k4, k5, k6⟩
  exact ⟨a1, m, c1, q, K, rfl, mf_low k1 fun i j => Nat.lt_of_lt_of_le (ker_small k2 k3 k4 hl (a := 3) (by omega) hA (by omega) i j) (Bp_le (by omega)), k2, k3, k4, k5, k6⟩
 ·have hn0 : n = 0 := by omega
  have hls : ls = [] := List.eq_nil_of_length_eq_zero (hlen.trans hn0)
  refine (kernelOfK ao n cap ls 3 36 3 1 63 N w h hl h1 h64 (few_bounded (by omega) hA) (by omega) (by omega) (by omega) (by omega) (by omega) (fun hs p _ _ _ _ hle M W hw => ?_) (by omega) (by omega) (by omega) (by omega)).mono ?_
  ·have hh : hs = [] := List.eq_nil_of_length_eq_zero (by omega)
   subst hh
   exact hw.zero_bounded (fun i j => by
    by_cases hi : i < N
    ·rw [ent_turn _ hi]; exact ent_out (Nat.zero_le _)
    ·exact ent_out (by rw [vturn_len]; omega)) (by omega)
  ·rintro e w' ⟨a1, m, c1, q, K, rfl, k1, k2, k3, k4, k5, k6⟩
   exact ⟨a1, m, c1, q, K, rfl, mf_up k1 (by omega), k2, k3, k4, k5, k6⟩
/-- At most seven rows in the form, of at most seven places. -/
theorem kernelForm (ao : Option Addr) (n cap : Nat) (ls : List (List Int)) (p : Nat → Nat) (N : Nat) (w : World) (h : MF w ao n cap ls 76) (hf : HForm ls p) (hl : ∀ r ∈ ls, r.length = N) (h1 : 1 ≤ N) (h7 : N ≤ 7) :
  Calls Tryz.prog 10 #[.slice ao n cap, .int .i64 (N : Int)] w fun e w' => KerTo ls N 1155 w e w' := by
 have hlen := h.len_eq
 have hnN : n ≤ N := by rw [← hlen]; exact hf.len_le fun r hr => by have := hl r hr; omega
 exact kernelOfK ao n cap ls 76 76 6 1155 6 N w (h.mk (by omega)) hl h1 (by omega) (bounded_form hf fun i j => mf_ent h i j) (by omega) (by omega) (by omega) (by omega) (by omega) (fun hs p _ _ _ he _ M W hw => (wide_bounded hw (ent_turn_small he N) (by omega) (by omega)).up (by omega)) (by omega) (by omega) (by omega) (by omega)
/-- Rank of at most four rows of at most three limbs. -/
theorem rankAny (ao : Option Addr) (n cap : Nat) (ls : List (List Int)) (N : Nat) (w : World) (h : MK w ao n cap ls 3) (hl : ∀ r ∈ ls, r.length = N) (h1 : 1 ≤ N) (h64 : N ≤ 64) (hn : n ≤ 4) :
  Calls Tryz.prog 13 #[.slice ao n cap, .int .i64 (N : Int)] w fun e w' => ∃ m, e = .returned (.int .i64 (m : Int)) ∧ (∃ hs p, HForm hs p ∧ SameL ls hs ∧ (∀ r ∈ hs, r.length = N) ∧ hs.length = m) ∧ Below w.heap.size w w' :=
 rankK ao n cap ls 3 36 3 N w h hl h1 h64 (few_bounded (by rw [h.len_eq]; omega) (mk_ent h)) (by omega) (by omega) (by omega) (by omega)

theorem aw_form : HForm [[1, 0, -1], [0, 1, -1]] (fun i => i) := by
 refine ⟨fun i k h1 _ => h1, fun i hi j hj => ?_, fun i hi => ?_, fun i k h1 h2 => ?_⟩
 ·match i, hi with
  | 0, _ => exact absurd hj (by omega)
  | 1, _ =>
   have hj : j < 1 := hj
   obtain rfl : j = 0 := by omega
   rfl
  | i + 2, h => exact absurd h (by simp)
 ·match i, hi with
  | 0, _ => decide
  | 1, _ => decide
  | i + 2, h => exact absurd h (by simp)
 ·match i, k, h1, h2 with
  | 0, 1, _, _ => decide
  | i + 1, 1, h, _ => omega
  | i, 0, h, _ => omega
  | i, k + 2, _, h => exact absurd h (by simp)
theorem aw_ker : Ker [[1, 0, -1], [0, 1, -1]] [[1, 1, 1]] 3 := by
 refine ⟨fun x hx j hj => ?_, fun x h0 hx => ?_, fun i => ?_⟩
 ·obtain ⟨c, hc⟩ := hx
  obtain rfl : j = 0 := by simpa using hj
  have e0 := hc 0
  have e1 := hc 1
  have e2 := hc 2
  simp [sumN, ent] at e0 e1 e2
  simp [sumN, ent]
  omega
 ·have h1 := hx 0 (by simp)
  simp [sumN, ent] at h1
  refine ⟨fun i => if i = 0 then x 0 else x 1, fun j => ?_⟩
  match j with
  | 0 => simp [sumN, ent]
  | 1 => simp [sumN, ent]
  | 2 => simp [sumN, ent]; omega
  | j + 3 => rw [h0 _ (by omega)]; simp [sumN, ent]
 ·match i with
  | 0 => simp
  | 1 => simp
  | i + 2 => simp
theorem aw_lens : ∀ r ∈ [[1, 0, -1], [0, 1, (-1 : Int)]], r.length = 3 := fun r hr => by
 simp at hr
 rcases hr with rfl | rfl <;> rfl
/-- One row of three ints, two of them, just built. -/
theorem lit_one3 (w : World) (a b c : Int) (h1 : ∀ z ∈ [a, b, c], -9223372036854775808 ≤ z ∧ z ≤ 9223372036854775807) {W : World} (hW : W = (w.alloc (.cells #[.int .i64 a, .int .i64 b, .int .i64 c] 3)).alloc (.cells #[.slice (some ⟨w.heap.size, 0, none⟩) 3 3] 57)) :
  RowsOf IRowAt W (some ⟨w.heap.size + 1, 0, none⟩) 1 1 [[a, b, c]] ∧ Below w.heap.size w W := by
 obtain ⟨W1, hW1⟩ : ∃ W', W' = w.alloc (.cells #[.int .i64 a, .int .i64 b, .int .i64 c] 3) := ⟨_, rfl⟩
 have hs1 : W1.heap.size = w.heap.size + 1 := by rw [hW1]; simp
 have hb1 : Below w.heap.size w W1 := by rw [hW1]; exact below_new _ _
 have hr1 : IRowAt W1 (some ⟨w.heap.size, 0, none⟩) 3 3 [a, b, c] := by rw [hW1]; exact irow_new (zs := [a, b, c]) rfl rfl (by simp) (small_all h1)
 rw [← hW1] at hW
 have hb4 := below_new W1 (.cells #[.slice (some ⟨w.heap.size, 0, none⟩) 3 3] 57)
 have hrows := intRows10 (w := W1) (vs := [(some ⟨w.heap.size, 0, none⟩, 3, 3)]) (rs := [[a, b, c]]) (n := w.heap.size + 1) (m := 1) (t := 57) rfl (by omega) rfl (by simp) (fun i a l c e => by
  match i with
  | 0 =>
   simp at e
   obtain ⟨rfl, rfl, rfl⟩ := e
   exact hr1.later hb4)
 subst hW
 exact ⟨hrows, Below.step hb1 hb4⟩
theorem lit_two3 (w : World) (a b c a' b' c' : Int) (h1 : ∀ z ∈ [a, b, c], -9223372036854775808 ≤ z ∧ z ≤ 9223372036854775807) (h2 : ∀ z ∈ [a', b', c'], -9223372036854775808 ≤ z ∧ z ≤ 9223372036854775807) {W : World} (hW : W = ((w.alloc (.cells #[.int .i64 a, .int .i64 b, .int .i64 c] 3)).alloc (.cells #[.int .i64 a', .int .i64 b', .int .i64 c'] 3)).alloc (.cells #[.slice (some ⟨w.heap.size, 0, none⟩) 3 3, .slice (some ⟨w.heap.size + 1, 0, none⟩) 3 3] 57)) :
  RowsOf IRowAt W (some ⟨w.heap.size + 1 + 1, 0, none⟩) 2 2 [[a, b, c], [a', b', c']] ∧ Below w.heap.size w W := by
 obtain ⟨W1, hW1⟩ : ∃ W', W' = w.alloc (.cells #[.int .i64 a, .int .i64 b, .int .i64 c] 3) := ⟨_, rfl⟩
 have hs1 : W1.heap.size = w.heap.size + 1 := by rw [hW1]; simp
 have hb1 : Below w.heap.size w W1 := by rw [hW1]; exact below_new _ _
 have hr1 : IRowAt W1 (some ⟨w.heap.size, 0, none⟩) 3 3 [a, b, c] := by rw [hW1]; exact irow_new (zs := [a, b, c]) rfl rfl (by simp) (small_all h1)
 rw [← hW1] at hW
 obtain ⟨W2, hW2⟩ : ∃ W', W' = W1.alloc (.cells #[.int .i64 a', .int .i64 b', .int .i64 c'] 3) := ⟨_, rfl⟩
 have hs2 : W2.heap.size = W1.heap.size + 1 := by rw [hW2]; simp
 have hb2 : Below W1.heap.size W1 W2 := by rw [hW2]; exact below_new _ _
 have hr2 : IRowAt W2 (some ⟨w.heap.size + 1, 0, none⟩) 3 3 [a', b', c'] := by rw [hW2, ← hs1]; exact irow_new (zs := [a', b', c']) rfl rfl (by simp) (small_all h2)
 rw [← hW2] at hW
 have hb4 := below_new W2 (.cells #[.slice (some ⟨w.heap.size, 0, none⟩) 3 3, .slice (some ⟨w.heap.size + 1, 0, none⟩) 3 3] 57)
 have hrows := intRows10 (w := W2) (vs := [(some ⟨w.heap.size, 0, none⟩, 3, 3), (some ⟨w.heap.size + 1, 0, none⟩, 3, 3)]) (rs := [[a, b, c], [a', b', c']]) (n := w.heap.size + 1 + 1) (m := 2) (t := 57) rfl (by omega) rfl (by simp) (fun i a l c e => by
  match i with
  | 0 =>
   simp at e
   obtain ⟨rfl, rfl, rfl⟩ := e
   exact (hr1.later hb2).later hb4
  | 1 =>
   simp at e
   obtain ⟨rfl, rfl, rfl⟩ := e
   exact hr2.later hb4)
 subst hW
 exact ⟨hrows, Below.step (Below.step hb1 hb2) hb4⟩
theorem wide_one3 {a b c : Int} (i : Nat) : ([[a, b, c]].getD i []).length ≤ 1000000 := by
 match i with
 | 0 => simp
 | i + 1 => simp
theorem wide_two3 {a b c a' b' c' : Int} (i : Nat) : ([[a, b, c], [a', b', c']].getD i []).length ≤ 1000000 := by
 match i with
 | 0 => simp
 | 1 => simp
 | i + 2 => simp
set_option maxRecDepth 20000 in
set_option maxHeartbeats 2000000 in
theorem awake11_any (w : World) : Calls Tryz.prog 8 #[] w fun e w' => e = .returned (.bool true) ∧ Below w.heap.size w w' := by
 go_enter Tryz.func8, Tryz.ntmps8
 go_wp2_with fail
 obtain ⟨hr, hb⟩ := lit_one3 w 1 1 1 (by simp) rfl
 refine (refOfAllK _ _ _ [[1, 1, 1]] _ hr wide_one3 (by omega)).mono ?_
 rintro e w1 ⟨a1, c1, rfl, h1, hb1⟩
 have HB := hide (Below.step hb hb1)
 clear hr hb hb1
 have h13 : MK w1 a1 1 c1 [[1, 1, 1]] 3 := (mf_up h1 (show 2 ≤ 3 by omega)).mk (by omega)
 clear h1
 go_wp2_with fail
 refine (kernelAny a1 1 c1 [[1, 1, 1]] 3 _ h13 (by simp) (by omega) (by omega) (by omega) (by omega)).mono ?_
 rintro e w2 ⟨a2, m, c2, q, K, rfl, h2, hf, hk, hl, _, hb1⟩
 obtain rfl : K = [[1, 0, -1], [0, 1, -1]] := hnf_one hf aw_form (hk.same aw_ker) hl aw_lens
 replace HB := hide (Below.step (unhide HB) hb1)
 have hm2 : m = 2 := h2.len_eq.symm
 subst hm2
 clear hb1 h13 hf hk hl
 go_wp2_with fail
 obtain ⟨hr, hb⟩ := lit_two3 w2 1 0 (-1) 0 1 (-1) (by simp) (by simp) rfl
 refine (refOfAllK _ _ _ [[1, 0, -1], [0, 1, -1]] _ hr wide_two3 (by omega)).mono ?_
 rintro e w3 ⟨a3, c3, rfl, h3, hb1⟩
 replace hb1 := Below.step hb hb1
 replace h2 := h2.later hb1
 replace HB := hide (Below.step (unhide HB) hb1)
 clear hr hb hb1
 go_wp2_with fail
 refine (refSameAllK _ _ _ [[1, 0, -1], [0, 1, -1]] _ _ _ _ [[1, 0, -1], [0, 1, -1]] _ _ h2 h3 rfl).mono ?_
 rintro e w4 ⟨rfl, hb1⟩
 go_wp2
 go_ret
 exact ⟨rfl, Below.step (unhide HB) hb1⟩

end Go.Proofs.YtjebmlogchoehaaGreat
