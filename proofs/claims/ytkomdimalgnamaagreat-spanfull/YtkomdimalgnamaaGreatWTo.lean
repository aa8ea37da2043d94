/-
 Plain mathematics of Whole: what stands across what stands across is one; its numbers are small; of the rows times a number it is the same.
-/
import Derived.Test.YtkomdimalgnamaaGreatWNum
namespace Go.Proofs.YtkomdimalgnamaaGreat
open Go.RowKit Lb
set_option maxRecDepth 20000

theorem Ker.to_same {K G a : List (List Int)} {n : Nat} (h : Ker K a n) (hs : SameL K G) (hl : ∀ i, (G.getD i []).length ≤ n) : Ker G a n := ⟨fun x hx => h.yes x ((hs x).2 hx), fun x h0 hx => (hs x).1 (h.all x h0 hx), hl⟩
theorem Ker.of_nulls {K a b : List (List Int)} {n : Nat} (h : Ker K a n) (e : ∀ x, Nulls a n x ↔ Nulls b n x) : Ker K b n := ⟨fun x hx => (e x).1 (h.yes x hx), fun x h0 hx => h.all x h0 ((e x).2 hx), h.lens⟩
theorem nulls_times {h m : List (List Int)} {N : Nat} {y : Int} (hy : y ≠ 0) (hl : m.length = h.length) (he : ∀ i j, ent m i j = y * ent h i j) (x : Nat → Int) : Nulls h N x ↔ Nulls m N x := by
 have e1 : ∀ j, (sumN N fun t => x t * ent m j t) = y * sumN N fun t => x t * ent h j t := fun j => by
  rw [← sumN_mul];exact sumN_congr fun t _ => by rw [he, Int.mul_left_comm]
 exact ⟨fun hn j hj => by rw [e1, hn j (by omega), Int.mul_zero], fun hn j hj => by
  have h1 := hn j (by omega);rw [e1] at h1;rcases Int.mul_eq_zero.1 h1 with e | e
  ·exact absurd e hy
  ·exact e⟩
theorem ker_len {K hs : List (List Int)} {p q : Nat → Nat} {N : Nat} (hf : HForm hs p) (hl : ∀ r ∈ hs, r.length = N) (hK : HForm K q) (hk : Ker K hs N) : hs.length + K.length = N := by
 have hW := wideL_turn hs N;obtain ⟨W, eW⟩ : ∃ W, W = wideOf (vturn hs N) N := ⟨_, rfl⟩;rw [← eW] at hW;have hlW : ∀ r ∈ W, r.length = hs.length + N := len_rows hW.len fun i hi => by rw [eW, wideOf_at hi, List.length_append, turn_lens hs N i hi, unit_len hi]
 obtain ⟨H, pH, hH, hsH, hlH⟩ := hform_exists W (hs.length + N) (lens_zero hlW);have hHn := hW.count hH hsH;obtain ⟨m, hm, hp⟩ := front_rows hH hs.length N (by omega);obtain ⟨h1, h2, h3, h4, h5⟩ := hW.ker hH hsH hm hp (fun i hi => rows_len hlH i (by omega)) (lens_zero hl) hf.eform (SameL.refl _);have e := hform_same_len hK h1 (hk.same h2);omega
def IsWhole (W hs : List (List Int)) (N : Nat) : Prop := ∃ K, Ker K hs N ∧ Ker W K N
theorem IsWhole.one {W V hs : List (List Int)} {q q' : Nat → Nat} {N : Nat} (h : IsWhole W hs N) (h' : IsWhole V hs N) (hf : HForm W q) (hf' : HForm V q') (hl : ∀ r ∈ W, r.length = N) (hl' : ∀ r ∈ V, r.length = N) : W = V := by
 obtain ⟨K, h1, h2⟩ := h;obtain ⟨G, g1, g2⟩ := h';exact hnf_one hf hf' (h2.same (g2.of_same (g1.same h1))) hl hl'
theorem Ker.zero {K a : List (List Int)} {n : Nat} (h : Ker K a n) : ∀ i j, n ≤ j → ent K i j = 0 := fun i j hj => inL_out h.lens (inL_row (l := K) i) j hj
theorem IsWhole.len {W hs : List (List Int)} {p q : Nat → Nat} {N : Nat} (h : IsWhole W hs N) (hf : HForm hs p) (hl : ∀ r ∈ hs, r.length = N) (hW : HForm W q) : W.length = hs.length := by
 obtain ⟨K, h1, h2⟩ := h;obtain ⟨G, r, hG, hs1, hGl⟩ := hform_exists K N h1.zero;have e1 := ker_len hf hl hG (h1.to_same hs1 (all_len_le hGl));have e2 := ker_len hG hGl hW (h2.of_same hs1);omega
def Tame (hs : List (List Int)) (N : Nat) : Prop := (∀ K q, HForm K q → Ker K hs N → (∀ r ∈ K, r.length = N) → ∀ i j, (ent K i j).natAbs < Bp 13) ∧ ∀ W q, HForm W q → IsWhole W hs N → ∀ i j, (ent W i j).natAbs < Bp 36
theorem tame_small {hs cl : List (List Int)} {p : Nat → Nat} {N : Nat} (hf : HForm hs p) (hl : ∀ r ∈ hs, r.length = N) (hs1 : SameL cl hs) (hcl : ∀ r ∈ cl, r.length = N) (h4 : cl.length ≤ 4) (hA : ∀ i j, (ent cl i j).natAbs < Bp 3) (hN : N ≤ 400) : Tame hs N :=
 ⟨fun _ _ hK hk hKl => ker_thirteen hK (hk.of_same hs1.symm) hKl hf hs1 (ker_len hf hl hK hk) h4 hN hA, fun _ _ hW hw => by
  have hlen := hw.len hf hl hW;obtain ⟨K, g1, g2⟩ := hw;exact across_small (a := 3) (n := 4) (g1.of_same hs1.symm) g2 hW hf hs1 hlen hcl (by omega) hA h4 (by omega)⟩
theorem Tame.via {hs ms : List (List Int)} {N : Nat} (ht : Tame hs N) (key : ∀ G, Ker G ms N → Ker G hs N) : Tame ms N :=
 ⟨fun G q hG hk hl => ht.1 G q hG (key G hk) hl, fun V q hV ⟨G, g1, g2⟩ => ht.2 V q hV ⟨G, key G g1, g2⟩⟩
theorem IsWhole.key {W hs : List (List Int)} {N : Nat} (hw : IsWhole W hs N) (h0 : ∀ i j, N ≤ j → ent hs i j = 0) (G : List (List Int)) (hg : Ker G W N) : Ker G hs N := by
 obtain ⟨K, h1, h2⟩ := hw;exact h1.to_same (Ker.twice h1 h2 hg h0).symm hg.lens
theorem times_key {hs ms : List (List Int)} {N : Nat} {y : Int} (hy : y ≠ 0) (hl : ms.length = hs.length) (he : ∀ i j, ent ms i j = y * ent hs i j) (G : List (List Int)) (hg : Ker G ms N) : Ker G hs N := hg.of_nulls fun x => (nulls_times hy hl he x).symm
theorem IsWhole.via {V hs ms : List (List Int)} {N : Nat} (key : ∀ G, Ker G ms N → Ker G hs N) (hv : IsWhole V ms N) : IsWhole V hs N := by
 obtain ⟨G, g1, g2⟩ := hv;exact ⟨G, key G g1, g2⟩
theorem ker_unit (N : Nat) : Ker (unitL N) [] N := by
 refine ⟨fun x _ j hj => absurd hj (by simp), fun x h0 _ => ⟨x, fun j => ?_⟩, fun i => ?_⟩
 ·rw [unitL_len];by_cases hj : j < N
  ·rw [← sumN_single N j (x j) hj];refine sumN_congr fun t ht => ?_;rw [ent_unit ht];by_cases e : t = j
   ·subst e; rw [if_pos rfl, if_pos rfl, Int.mul_one]
   ·rw [if_neg e, if_neg (Ne.symm e), Int.mul_zero]
  ·rw [h0 j (by omega), ← sumN_nil0 N];refine sumN_congr fun t ht => ?_;rw [ent_unit ht, if_neg (by omega), Int.mul_zero]
 ·by_cases hi : i < N
  ·exact Nat.le_of_eq (unit_len hi)
  ·rw [List.getD_eq_getElem?_getD, List.getElem?_eq_none (by rw [unitL_len]; omega)]; simp
theorem unit_lens2 (n : Nat) : ∀ r ∈ unitL n, r.length = n := len_rows (unitL_len n) fun _ hi => unit_len hi
theorem ent_turn_unit {N i : Nat} (hi : i < N) (j : Nat) : ent (vturn (unitL N) N) i j = if j = i then 1 else 0 := by
 rw [ent_turn _ hi];by_cases hj : j < N
 ·rw [ent_unit hj];by_cases e : j = i
  ·subst e; rfl
  ·rw [if_neg e, if_neg (Ne.symm e)]
 ·rw [ent_out (by rw [unitL_len]; omega), if_neg (by omega)]
theorem wide_unit {N M : Nat} {W : List (List Int)} (h : WideL (vturn (unitL N) N) W M N) (hM : M = N) : Bounded W 1 := by
 subst hM;have hl := h.len;have he : ∀ i j, i < M → ent W i j = if j = i then 1 else if j = i + M then 1 else 0 := fun i j hi => by
  by_cases c : j < M
  ·rw [h.left i j hi c, ent_turn_unit hi, if_neg (show ¬ j = i + M by omega)]
  ·rw [show j = (j - M) + M by omega, h.right i (j - M) hi];by_cases d : j - M = i
   ·rw [if_pos d, if_neg (show ¬ j - M + M = i by omega), if_pos (by omega)]
   ·rw [if_neg d, if_neg (show ¬ j - M + M = i by omega), if_neg (by omega)]
 refine bounded_form (q := fun i => i) ⟨fun i k h1 _ => h1, fun i hi j hj => ?_, fun i hi => ?_, fun i k h1 h2 => ?_⟩ fun i j => ?_
 ·rw [hl] at hi;have hj : j < i := hj;rw [he i j hi, if_neg (by omega), if_neg (by omega)]
 ·rw [hl] at hi;show 0 < ent W i i;rw [he i i hi, if_pos rfl]; decide
 ·rw [hl] at h2;show 0 ≤ ent W i k ∧ ent W i k < ent W k k;rw [he i k (by omega), if_neg (by omega), if_neg (by omega), he k k h2, if_pos rfl]; decide
 ·have h1 : 4 < Bp 1 := by unfold Bp; decide
  by_cases hi : i < M
  ·rw [he i j hi]
   split
   ·simp; omega
   ·split <;> simp <;> omega
  ·rw [ent_out (by omega)]; simp; omega

end Go.Proofs.YtkomdimalgnamaaGreat
