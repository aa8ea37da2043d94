/-
 What the twelfth stage's walks share: made and awake, vec.Same told by a Bool.
-/
import Derived.Test.YtkomdimalgnamaaGreatSpan2
import Derived.Test.YtkomdimalgnamaaGreatRHnf
import Derived.Test.YtkomdimalgnamaaGreatJM
import Derived.Test.YtkomdimalgnamaaGreatJR
namespace Go.Proofs.YtkomdimalgnamaaGreat
open Go.RowKit Lb
set_option maxRecDepth 20000

theorem vsameQ (ao : Option Addr) (n cap : Nat) (zs : List Int) (k : Nat) (ao' : Option Addr) (n' cap' : Nat) (ys : List Int) (l : Nat) (q : Bool) (w : World) (h : VK w ao n cap zs k) (h' : VK w ao' n' cap' ys l) (hk : k ≤ 900000) (hl : l ≤ 900000) (hn : n ≤ 1000000) (hn' : n' ≤ 1000000) (hq : q = true ↔ ∀ i, zs.getD i 0 = ys.getD i 0) :
  Calls Tryz.prog 34 #[.slice ao n cap, .slice ao' n' cap'] w fun e w' => e = .returned (.bool q) ∧ Below w.heap.size w w' := by
 refine (vsameK _ _ _ zs k _ _ _ ys l w h h' hk hl hn hn').mono ?_;rintro e w' ⟨c, rfl, hc, hb⟩;refine ⟨?_, hb⟩;have : (c == 0) = q := by rw [Bool.eq_iff_iff, beq_iff_eq, hc.zero_iff]; exact hq.symm
 rw [this]
theorem vnoughtQ (ao : Option Addr) (n cap : Nat) (zs : List Int) (k : Nat) (q : Bool) (w : World) (h : VK w ao n cap zs k) (hq : vnought zs = q) :
  Calls Tryz.prog 35 #[.slice ao n cap] w fun e w' => e = .returned (.bool q) ∧ Below w.heap.size w w' := by
 subst hq;exact vnoughtK _ _ _ _ _ _ h
theorem cut_lens2 (rs : List (List Int)) (N : Nat) : ∀ r ∈ rs.map fun r => vcut r N, r.length = N := fun r hr => by
 obtain ⟨s, _, rfl⟩ := List.mem_map.1 hr;exact vcut_len s N
set_option maxHeartbeats 1000000 in
theorem madeK (ao : Option Addr) (n cap : Nat) (rs : List (List Int)) (x : Int) (w : World) (h : MS w ao n cap rs 3) (hn : n ≤ 4) :
  Calls Tryz.prog 10 #[.slice ao n cap, .int .i64 x] w fun e w' => ∃ a1 m c1, ∃ N : Nat, ∃ p hs, e = .returned (.tuple #[.slice a1 m c1, .int .i64 (N : Int)]) ∧ 1 ≤ N ∧ N ≤ 7 ∧ m ≤ 4 ∧ MF w' a1 m c1 hs 36 ∧ HForm hs p ∧ (∀ r ∈ hs, r.length = N) ∧ Tame hs N ∧ Below w.heap.size w w' := by
 go_enter Tryz.func10, Tryz.ntmps10
 go_wp2_with fail
 refine (cutsK ao n cap rs 3 x _ h.mk (by omega)).mono ?_;rintro e w1 ⟨a1, c1, N, rfl, hN1, hN7, h2, hb1⟩;have hcl := cut_lens2 rs N;obtain ⟨cl, ecl⟩ : ∃ cl, cl = rs.map fun r => vcut r N := ⟨_, rfl⟩;rw [← ecl] at h2 hcl;have HCL := zh hcl;have HLN := zh h2.len_eq;have HA := zh (mf_ent h2);have HB := zh hb1;clear hb1 hcl ecl h
 go_wp2_with fail
 refine (refHnfK a1 n c1 cl 3 N _ (h2.ms (by omega)) (by omega) (fun t ht => rows_len (zu HCL) t (by rw [zu HLN]; exact ht)) (by omega) (by omega) (small_aS (by omega)) (small_bS (by omega))).mono ?_;rintro e w2 ⟨a2, m, c2, p, hs, rfl, h3, hf, hs1, hl, hm, hb1⟩;have h4 : cl.length ≤ 4 := by rw [zu HLN]; exact hn
 have hbd := few_bounded h4 (zu HA);have h36 := mf_low h3 (l := 36) fun i j => by
  by_cases hi : i < hs.length
  ·exact hbd cl.length (Nat.le_refl _) hs p hf.eform (by rw [List.take_of_length_le (Nat.le_refl _)]; exact hs1) i hi (hf.lowAt i) j
  ·rw [ent_out (by omega)];have := Bp_pos 36;simpa using this
 have HX := zh (And.intro hf (And.intro hl (tame_small hf hl hs1 (zu HCL) h4 (zu HA) (by omega))));clear hf hl hs1 hbd h3 h2 h4;go_wp2;refine bodyPost_ret (v := .tuple #[.slice a2 m c2, .int .i64 (N : Int)]) (by simp [results, Tryz.results10, go_sem, *]) rfl ?_;exact ⟨a2, m, c2, N, p, hs, rfl, hN1, hN7, by omega, h36, (zu HX).1, (zu HX).2.1, (zu HX).2.2, Below.step (zu HB) hb1⟩
theorem aw_formA : HForm [[2, 4]] (fun i => i) := by
 refine ⟨fun i k h1 _ => h1, fun i hi j hj => ?_, fun i hi => ?_, fun i k h1 h2 => ?_⟩
 ·match i, hi with
  | 0, _ => exact absurd hj (by omega)
  | i + 1, h => exact absurd h (by simp)
 ·match i, hi with
  | 0, _ => decide
  | i + 1, h => exact absurd h (by simp)
 ·match i, k, h1, h2 with
  | i, 0, h, _ => omega
  | i, k + 1, _, h => exact absurd h (by simp)
theorem aw_formB : HForm [[1, 2]] (fun i => i) := by
 refine ⟨fun i k h1 _ => h1, fun i hi j hj => ?_, fun i hi => ?_, fun i k h1 h2 => ?_⟩
 ·match i, hi with
  | 0, _ => exact absurd hj (by omega)
  | i + 1, h => exact absurd h (by simp)
 ·match i, hi with
  | 0, _ => decide
  | i + 1, h => exact absurd h (by simp)
 ·match i, k, h1, h2 with
  | i, 0, h, _ => omega
  | i, k + 1, _, h => exact absurd h (by simp)
theorem aw_lensA : ∀ r ∈ [[2, (4 : Int)]], r.length = 2 := by simp
theorem aw_lensB : ∀ r ∈ [[1, (2 : Int)]], r.length = 2 := by simp
theorem aw_entA (i j : Nat) : (ent [[2, 4]] i j).natAbs < Bp 3 := by
 have h1 : 4 < Bp 1 := by unfold Bp; decide
 have h2 : Bp 1 ≤ Bp 3 := Bp_le (by omega)
 match i, j with
 | 0, 0 => show 2 < _; omega
 | 0, 1 => show 4 < _; omega
 | 0, j + 2 => simp [ent]; omega
 | i + 1, j => simp [ent]; omega
theorem aw_tame : Tame [[2, 4]] 2 := tame_small aw_formA aw_lensA (SameL.refl _) aw_lensA (by decide) aw_entA (by omega)
theorem aw_whole : IsWhole [[1, 2]] [[2, 4]] 2 := by
 refine ⟨[[2, -1]], ⟨fun x hx j hj => ?_, fun x h0 hx => ?_, fun i => ?_⟩, ⟨fun x hx j hj => ?_, fun x h0 hx => ?_, fun i => ?_⟩⟩
 ·obtain ⟨c, hc⟩ := hx;obtain rfl : j = 0 := by simpa using hj
  have e0 := hc 0;have e1 := hc 1;simp [sumN, ent] at e0 e1;simp [sumN, ent];omega
 ·have h1 := hx 0 (by simp);simp [sumN, ent] at h1;refine ⟨fun _ => -x 1, fun j => ?_⟩
  match j with
  | 0 => simp [sumN, ent]; omega
  | 1 => simp [sumN, ent]
  | j + 2 => rw [h0 _ (by omega)]; simp [sumN, ent]
 ·match i with
  | 0 => simp
  | i + 1 => simp
 ·obtain ⟨c, hc⟩ := hx;obtain rfl : j = 0 := by simpa using hj
  have e0 := hc 0;have e1 := hc 1;simp [sumN, ent] at e0 e1;simp [sumN, ent];omega
 ·have h1 := hx 0 (by simp);simp [sumN, ent] at h1;refine ⟨fun _ => x 0, fun j => ?_⟩
  match j with
  | 0 => simp [sumN, ent]
  | 1 => simp [sumN, ent]; omega
  | j + 2 => rw [h0 _ (by omega)]; simp [sumN, ent]
 ·match i with
  | 0 => simp
  | i + 1 => simp
theorem aw_index {V : List (List Int)} {q : Nat → Nat} (hf : HForm V q) (hw : IsWhole V [[2, 4]] 2) (hl : ∀ r ∈ V, r.length = 2) : (prodN 1 fun i => ent [[2, 4]] i i).tdiv (prodN 1 fun i => ent V i (q i)) = 2 := by
 obtain rfl : V = [[1, 2]] := hw.one aw_whole hf aw_formB hl aw_lensB;have h0 : q 0 = 0 := by
  have h1 := hf.isPivot (i := 0) (by decide);exact isPivot_inj h1 (aw_formB.isPivot (i := 0) (by decide))
 simp only [prodN, h0]
 decide
theorem aw_yes : InL [[2, 4]] fun j => [4, (8 : Int)].getD j 0 := ⟨fun _ => 2, fun j => by
 match j with
 | 0 => rfl
 | 1 => rfl
 | j + 2 => simp [sumN, ent]⟩
theorem aw_no : ¬ InL [[2, 4]] fun j => [1, (2 : Int)].getD j 0 := by
 rintro ⟨c, hc⟩;have := hc 0;simp [sumN, ent] at this;omega
theorem lit_one2 (w : World) (a b : Int) (h1 : ∀ z ∈ [a, b], -9223372036854775808 ≤ z ∧ z ≤ 9223372036854775807) {W : World} (hW : W = (w.alloc (.cells #[.int .i64 a, .int .i64 b] 3)).alloc (.cells #[.slice (some ⟨w.heap.size, 0, none⟩) 2 2] 38)) :
  RowsOf IRowAt W (some ⟨w.heap.size + 1, 0, none⟩) 1 1 [[a, b]] ∧ Below w.heap.size w W := by
 obtain ⟨W1, hW1⟩ : ∃ W', W' = w.alloc (.cells #[.int .i64 a, .int .i64 b] 3) := ⟨_, rfl⟩;have hs1 : W1.heap.size = w.heap.size + 1 := by rw [hW1]; simp
 have hb1 : Below w.heap.size w W1 := by rw [hW1]; exact below_new _ _
 have hr1 : IRowAt W1 (some ⟨w.heap.size, 0, none⟩) 2 2 [a, b] := by rw [hW1]; exact irow_new (zs := [a, b]) rfl rfl (by simp) (small_all h1)
 rw [← hW1] at hW;have hb4 := below_new W1 (.cells #[.slice (some ⟨w.heap.size, 0, none⟩) 2 2] 38);have hrows := intRows10 (w := W1) (vs := [(some ⟨w.heap.size, 0, none⟩, 2, 2)]) (rs := [[a, b]]) (n := w.heap.size + 1) (m := 1) (t := 38) rfl (by omega) rfl (by simp) (fun i a l c e => by
  match i with
  | 0 =>
   simp at e;obtain ⟨rfl, rfl, rfl⟩ := e;exact hr1.za hb4)
 subst hW;exact ⟨hrows, Below.step hb1 hb4⟩
theorem wide_one2 {a b : Int} (i : Nat) : ([[a, b]].getD i []).length ≤ 1000000 := by
 match i with
 | 0 => simp
 | i + 1 => simp
set_option maxHeartbeats 2000000 in
theorem awake12_any (w : World) : Calls Tryz.prog 9 #[] w fun e w' => e = .returned (.bool true) ∧ Below w.heap.size w w' := by
 go_enter Tryz.func9, Tryz.ntmps9
 go_wp2_with fail
 obtain ⟨hr, hb⟩ := lit_one2 w 2 4 (by simp) rfl;refine (refOfAllK _ _ _ [[2, 4]] _ hr wide_one2 (by omega)).mono ?_;rintro e w1 ⟨a1, c1, rfl, h1, hb1⟩;have HB := zh (Below.step hb hb1);have hm := (mf_up h1 (show 2 ≤ 3 by omega)).mk (by omega);clear hr hb hb1 h1;obtain ⟨LA, eLA⟩ : ∃ LA, LA = [[2, (4 : Int)]] := ⟨_, rfl⟩;rw [← eLA] at hm;have HF : Hid (HForm LA (fun i => i) ∧ (∀ r ∈ LA, r.length = 2) ∧ Tame LA 2) := zh (by rw [eLA]; exact ⟨aw_formA, aw_lensA, aw_tame⟩);have EL := zh eLA;clear eLA
 go_wp2_with fail
 refine (spIndexK a1 1 c1 LA (fun i => i) 3 2 _ hm (zu HF).1 (zu HF).2.1 (by omega) (by omega) (by omega) (by omega) (Or.inl ⟨by omega, (zu HF).2.2⟩)).mono ?_;rintro e w2 ⟨b2, a2, l2, c2, q, V, rfl, h2, hfv, hwv, hlv, hb1⟩;rw [zu EL] at h2 hwv;rw [aw_index hfv hwv hlv] at h2;replace hm := hm.za hb1;replace HB := zh (Below.step (zu HB) hb1);clear hb1 hfv hwv hlv
 go_wp2_with fail
 refine (rofK 2 _ (by omega) (by omega)).mono ?_;rintro e w3 ⟨b3, a3, l3, c3, rfl, h3, hb1⟩;replace hm := hm.za hb1;replace h2 := h2.za hb1;replace HB := zh (Below.step (zu HB) hb1);clear hb1
 go_wp2_with fail
 refine (rsameK b2 a2 l2 c2 2 _ b3 a3 l3 c3 2 2 _ h2 h3 rfl).mono ?_;rintro e w4 ⟨rfl, hb1⟩;replace hm := hm.za hb1;replace HB := zh (Below.step (zu HB) hb1);clear hb1 h2 h3
 go_wp2_with fail
 have hb9 := below_new w4 (.cells #[.int .i64 4, .int .i64 8] 3);refine (rvofK _ 2 2 [4, 8] _ (irow_new (zs := [4, 8]) rfl rfl (by simp) (small_all (by simp))) (by omega)).mono ?_;rintro e w5 ⟨a5, c5, rfl, h5, hb1⟩;replace hb1 := Below.step hb9 hb1;replace hm := hm.za hb1;replace HB := zh (Below.step (zu HB) hb1);clear hb1 hb9
 go_wp2_with fail
 refine (spHasK a1 1 c1 LA (fun i => i) 3 a5 2 c5 [4, 8] 2 _ hm (zu HF).1 (zu HF).2.1 (h5.vk (by omega)) true ⟨fun _ => by rw [zu EL]; exact aw_yes, fun _ => rfl⟩ (by omega) (by omega) (by omega) (by omega) (by omega)).mono ?_;rintro e w6 ⟨rfl, hb1⟩;replace hm := hm.za hb1;replace HB := zh (Below.step (zu HB) hb1);clear hb1 h5
 go_wp2_with fail
 have hb9 := below_new w6 (.cells #[.int .i64 1, .int .i64 2] 3);refine (rvofK _ 2 2 [1, 2] _ (irow_new (zs := [1, 2]) rfl rfl (by simp) (small_all (by simp))) (by omega)).mono ?_;rintro e w7 ⟨a7, c7, rfl, h7, hb1⟩;replace hb1 := Below.step hb9 hb1;replace hm := hm.za hb1;replace HB := zh (Below.step (zu HB) hb1);clear hb1 hb9
 go_wp2_with fail
 refine (spHasK a1 1 c1 LA (fun i => i) 3 a7 2 c7 [1, 2] 2 _ hm (zu HF).1 (zu HF).2.1 (h7.vk (by omega)) false ⟨fun e => by simp at e, fun e => absurd (by rw [zu EL] at e; exact e) aw_no⟩ (by omega) (by omega) (by omega) (by omega) (by omega)).mono ?_;rintro e w8 ⟨rfl, hb1⟩;go_wp2;go_ret;exact ⟨rfl, Below.step (zu HB) hb1⟩

end Go.Proofs.YtkomdimalgnamaaGreat
