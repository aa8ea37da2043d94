/-
 What awake of the thirteenth stage's statements tells: true; what sums tells.
-/
import Derived.Test.YtnpneloahajniaaGreatLRed
import Derived.Test.YtnpneloahajniaaGreatJM
import Derived.Test.YtnpneloahajniaaGreatJR
namespace Go.Proofs.YtnpneloahajniaaGreat
open Go.RowKit Lb
set_option maxRecDepth 20000

theorem lit_two3 (w : World) (a b c a' b' c' : Int) (h1 : ∀ z ∈ [a, b, c], -9223372036854775808 ≤ z ∧ z ≤ 9223372036854775807) (h2 : ∀ z ∈ [a', b', c'], -9223372036854775808 ≤ z ∧ z ≤ 9223372036854775807) {W : World} (hW : W = ((w.alloc (.cells #[.int .i64 a, .int .i64 b, .int .i64 c] 3)).alloc (.cells #[.int .i64 a', .int .i64 b', .int .i64 c'] 3)).alloc (.cells #[.slice (some ⟨w.heap.size, 0, none⟩) 3 3, .slice (some ⟨w.heap.size + 1, 0, none⟩) 3 3] 53)) :
  RowsOf IRowAt W (some ⟨w.heap.size + 1 + 1, 0, none⟩) 2 2 [[a, b, c], [a', b', c']] ∧ Below w.heap.size w W := by
 obtain ⟨W1, hW1⟩ : ∃ W', W' = w.alloc (.cells #[.int .i64 a, .int .i64 b, .int .i64 c] 3) := ⟨_, rfl⟩;have hs1 : W1.heap.size = w.heap.size + 1 := by rw [hW1]; simp
 have hb1 : Below w.heap.size w W1 := by rw [hW1]; exact below_new _ _
 have hr1 : IRowAt W1 (some ⟨w.heap.size, 0, none⟩) 3 3 [a, b, c] := by rw [hW1]; exact irow_new (zs := [a, b, c]) rfl rfl (by simp) (small_all h1)
 rw [← hW1] at hW;obtain ⟨W2, hW2⟩ : ∃ W', W' = W1.alloc (.cells #[.int .i64 a', .int .i64 b', .int .i64 c'] 3) := ⟨_, rfl⟩;have hs2 : W2.heap.size = W1.heap.size + 1 := by rw [hW2]; simp
 have hb2 : Below W1.heap.size W1 W2 := by rw [hW2]; exact below_new _ _
 have hr2 : IRowAt W2 (some ⟨w.heap.size + 1, 0, none⟩) 3 3 [a', b', c'] := by rw [hW2, ← hs1]; exact irow_new (zs := [a', b', c']) rfl rfl (by simp) (small_all h2)
 rw [← hW2] at hW;have hb4 := below_new W2 (.cells #[.slice (some ⟨w.heap.size, 0, none⟩) 3 3, .slice (some ⟨w.heap.size + 1, 0, none⟩) 3 3] 53);have hrows := intRows10 (w := W2) (vs := [(some ⟨w.heap.size, 0, none⟩, 3, 3), (some ⟨w.heap.size + 1, 0, none⟩, 3, 3)]) (rs := [[a, b, c], [a', b', c']]) (n := w.heap.size + 1 + 1) (m := 2) (t := 53) rfl (by omega) rfl (by simp) (fun i a l c e => by
  match i with
  | 0 =>
   simp at e;obtain ⟨rfl, rfl, rfl⟩ := e;exact (hr1.za hb2).za hb4
  | 1 =>
   simp at e;obtain ⟨rfl, rfl, rfl⟩ := e;exact hr2.za hb4)
 subst hW;exact ⟨hrows, Below.step (Below.step hb1 hb2) hb4⟩
theorem wide_two3 {a b c a' b' c' : Int} (i : Nat) : ([[a, b, c], [a', b', c']].getD i []).length ≤ 1000000 := by
 match i with
 | 0 => simp
 | 1 => simp
 | i + 2 => simp
theorem indep_len {l h : List (List Int)} (h1 : Indep l.length (ent l)) (h2 : Indep h.length (ent h)) (hs : SameL l h) : l.length = h.length := by
 have a1 := h1.le (r := h.length) (H := ent h) fun k hk => ⟨1, by decide, (show InL h (ent l k) from (hs _).1 (inL_row k)).eq fun j => by omega⟩;have a2 := h2.le (r := l.length) (H := ent l) fun k hk => ⟨1, by decide, (show InL l (ent h k) from (hs _).2 (inL_row k)).eq fun j => by omega⟩;omega
theorem rlen_le {l : List (List Int)} {N : Nat} (h : ∀ t, t < l.length → (l.getD t []).length = N) : ∀ r, r ∈ l → r.length ≤ N := fun r hr => by
 obtain ⟨i, hi, rfl⟩ := List.mem_iff_getElem.1 hr;have := h i hi;rw [List.getD_eq_getElem?_getD, List.getElem?_eq_getElem hi] at this;simp only [Option.getD_some] at this;omega
theorem two_len {a b c a' b' c' : Int} (t : Nat) (h : t < 2) : ([[a, b, c], [a', b', c']].getD t []).length = 3 := by
 match t with
 | 0 => rfl
 | 1 => rfl
theorem aw_two : gramD 3 (ent [[1, 0, 9], [0, 1, 8]]) 2 ≠ 0 := by decide
theorem aw_two' : gramD 3 (ent [[1, -1, 1], [-2, 3, 6]]) 2 ≠ 0 := by decide
set_option maxHeartbeats 1000000 in
theorem awake13_any (w : World) : Calls Tryz.prog 7 #[] w fun e w' => e = .returned (.bool true) ∧ Below w.heap.size w w' := by
 go_enter Tryz.func7, Tryz.ntmps7
 go_wp2_with fail
 obtain ⟨hr, hb⟩ := lit_two3 w 1 0 9 0 1 8 (by simp) (by simp) rfl;refine (refOfAllK _ _ _ [[1, 0, 9], [0, 1, 8]] _ hr wide_two3 (by omega)).mono ?_;rintro e w1 ⟨a1, c1, rfl, h1, hb1⟩;have HB := zh (Below.step hb hb1);have hm := (mf_up h1 (show 2 ≤ 3 by omega)).mk (by omega);clear hr hb hb1 h1
 go_wp2_with fail
 refine (reduceK a1 2 c1 [[1, 0, 9], [0, 1, 8]] 3 _ hm (by omega) (fun i hi => two_len i hi) (by omega) (by omega)).mono ?_;rintro e w2 ⟨a2, m, c2, ms, rfl, hmf, hrl, hs, hd, _, _, _, hb1⟩;have hml : ms.length = m := hmf.len_eq;have hm2 : m = 2 := by
  subst hml;have e1 : ([[1, 0, 9], [0, 1, 8]] : List (List Int)).length = 2 := rfl;have := indep_len (l := [[1, 0, 9], [0, 1, 8]]) ((indep_gramD (N := 3) (rlen_le fun t ht => two_len t ht)).1 aw_two) ((indep_gramD (rlen_le hrl)).1 hd) hs;omega
 subst hm2;replace HB := zh (Below.step (zu HB) hb1);clear hm hb1 hmf hrl hs hd hml
 go_wp2_with fail
 obtain ⟨hr, hb⟩ := lit_two3 w2 1 (-1) 1 (-2) 3 6 (by simp) (by simp) rfl;refine (refOfAllK _ _ _ [[1, -1, 1], [-2, 3, 6]] _ hr wide_two3 (by omega)).mono ?_;rintro e w3 ⟨a3, c3, rfl, h3, hb1⟩;replace HB := zh (Below.step (zu HB) (Below.step hb hb1));have hm := (mf_up h3 (show 2 ≤ 3 by omega)).mk (by omega);clear hr hb hb1 h3
 go_wp2_with fail
 refine (lllIsK a3 2 c3 [[1, -1, 1], [-2, 3, 6]] 3 3 7 100 _ hm (by omega) (by omega) (fun i hi => two_len i hi) (by omega) (by omega) (fun t ht => dotN_lt (a := 3) (by omega) (fun s _ => mk_size hm t s) fun s _ => mk_size hm t s) (by omega) (by omega) (by omega) (by omega)).mono ?_;rintro e w4 ⟨c, rfl, hc, hb1⟩;obtain rfl : c = true := hc.2 ⟨aw_two', awake_reduced⟩;replace HB := zh (Below.step (zu HB) hb1);clear hm hb1 hc
 go_wp2_with fail
 obtain ⟨hr, hb⟩ := lit_two3 w4 1 0 9 0 1 8 (by simp) (by simp) rfl;refine (refOfAllK _ _ _ [[1, 0, 9], [0, 1, 8]] _ hr wide_two3 (by omega)).mono ?_;rintro e w5 ⟨a5, c5, rfl, h5, hb1⟩;replace HB := zh (Below.step (zu HB) (Below.step hb hb1));have hm := (mf_up h5 (show 2 ≤ 3 by omega)).mk (by omega);clear hr hb hb1 h5
 go_wp2_with fail
 refine (lllIsK a5 2 c5 [[1, 0, 9], [0, 1, 8]] 3 3 7 100 _ hm (by omega) (by omega) (fun i hi => two_len i hi) (by omega) (by omega) (fun t ht => dotN_lt (a := 3) (by omega) (fun s _ => mk_size hm t s) fun s _ => mk_size hm t s) (by omega) (by omega) (by omega) (by omega)).mono ?_;rintro e w6 ⟨c, rfl, hc, hb1⟩;obtain rfl : c = false := by
  cases c with
  | false => rfl
  | true => exact absurd (hc.1 rfl).2 awake_not
 clear hm hc;go_wp2;go_ret;exact ⟨rfl, Below.step (zu HB) hb1⟩
end Go.Proofs.YtnpneloahajniaaGreat
