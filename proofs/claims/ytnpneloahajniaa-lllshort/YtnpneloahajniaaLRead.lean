/-
 What depends, isLow, swapped and isLong of package lll tell of a basis.
-/
import Derived.Test.YtnpneloahajniaaLBs
import Derived.Test.YtnpneloahajniaaJE
namespace Go.Proofs.Ytnpneloahajniaa
open Go.RowKit Lb
set_option maxRecDepth 20000

theorem sign_zeroB (x : Int) : (x.sign == 0) = decide (x = 0) := by
 rw [Bool.eq_iff_iff]
 simp [Int.sign_eq_zero_iff_zero]
theorem sign_leB (x y : Int) : decide ((x - y).sign ≤ 0) = decide (x ≤ y) := by
 rw [Bool.eq_iff_iff, decide_eq_true_iff, decide_eq_true_iff, Int.sign_nonpos_iff]
 omega
theorem sign_geB (x y : Int) : decide (0 ≤ (x - y).sign) = decide (y ≤ x) := by
 rw [Bool.eq_iff_iff, decide_eq_true_iff, decide_eq_true_iff, Int.sign_nonneg_iff]
 omega
set_option maxRecDepth 40000 in
set_option maxHeartbeats 2000000 in
theorem dependsK (base gb n : Nat) (D : BD) (ls : List (List Int)) (ds : List Int) (gs : List (List Int)) (k : Nat) (w : World) (h : BS w base gb n D ls ds gs k) (hk : k ≤ 400000) (hn : n ≤ 1000) :
  Calls Try.prog 36 #[.pointer (some ⟨gb, 0, none⟩)] w fun e w' => e = .returned (.bool (decide (ds.getD n 0 = 0))) ∧ Below w.heap.size w w' := by
 rcases D with ⟨gl, cl, gd, cd, gg, cg, vs, us, V, U⟩
 obtain ⟨nd, e0nd⟩ : ∃ nd, nd = n + 1 := ⟨_, rfl⟩
 have hx1 : w.cell? ⟨gb, 1, none⟩ = some (.slice (some ⟨gd, 0, none⟩) nd cd) := by rw [e0nd]; exact h.box.facts.2.1
 have hbl := h.box.lt
 have hd : OwnV w base (some ⟨gd, 0, none⟩) nd cd ds k := by rw [e0nd]; exact h.r.d
 have hx0 : w.cell? ⟨gb, 0, none⟩ = some (.slice (some ⟨gl, 0, none⟩) n cl) := h.box.facts.1
 obtain ⟨b1, a1, l1, c1, E1, y1⟩ := hd.vf.at (show n < nd by omega)
 rw [Nat.zero_add] at E1
 obtain ⟨z, ez⟩ : ∃ z, z = ds.getD n 0 := ⟨_, rfl⟩
 rw [← ez] at y1 ⊢
 obtain ⟨s, es⟩ : ∃ s, s = z.sign := ⟨_, rfl⟩
 obtain ⟨q, eq⟩ : ∃ q, q = decide (z = 0) := ⟨_, rfl⟩
 have hs : (s == 0) = q := by rw [es, eq]; exact sign_zeroB z
 rw [← eq]
 have ES := hide es
 have hn0 : (0 : Int) ≤ (n : Int) := by omega
 have hn1 : (n : Int) < (nd : Int) := by omega
 clear eq ez es h hd e0nd
 go_enter Try.func36, Try.ntmps36
 go_upto_region 1 with fail
 have HW : Below w.heap.size w w.drew := (Below.refl _ _).drew
 refine till_start (fun w' => w'.cell? ⟨gb, 1, none⟩ = some (.slice (some ⟨gd, 0, none⟩) nd cd) ∧ w'.cell? ⟨gb, 0, none⟩ = some (.slice (some ⟨gl, 0, none⟩) n cl) ∧ w'.cell? ⟨gd, n * 2, none⟩ = some (.bool b1) ∧ w'.cell? ⟨gd, n * 2 + 1, none⟩ = some (.slice a1 l1 c1)) 13 (by kernel_rfl) ?_ (fun hHeld => ?_)
 ·exact ⟨(HW.cell (p := ⟨gb, 1, none⟩) hbl).trans hx1, (HW.cell (p := ⟨gb, 0, none⟩) hbl).trans hx0, (E1.later HW).facts.1, (E1.later HW).facts.2⟩
 refine till_tl (i := 0) [1, 2, 3, 9, 10, 11, 12, 13] rfl ?_
 simp only [Act.put, aGet, aZero, aSet, aHead, aTail]
 refine till_tl (i := 1) [2, 3, 9, 10, 11, 12, 13] rfl ?_
 simp only [Act.put, aAll]
 refine till_tl (i := 2) [3, 9, 10, 11, 12, 13] rfl ?_
 simp only [Act.put, aAll]
 refine till_tl (i := 3) [9, 10, 11, 12, 13] rfl ?_
 simp only [Act.put, aAll]
 refine till_tl (i := 4) [5, 6, 7, 8, 9, 10, 11, 12, 13] rfl ?_
 simp only [Act.put, aAll]
 refine till_tl (i := 5) [6, 7, 8, 9, 10, 11, 12, 13] rfl ?_
 simp only [Act.put, aAll]
 refine till_tl (i := 6) [7, 8, 9, 10, 11, 12, 13] rfl ?_
 simp only [Act.put, aAll]
 refine till_tl (i := 7) [8, 9, 10, 11, 12, 13] rfl ?_
 simp only [Act.put, aAll]
 refine till_tl (i := 8) [9, 10, 11, 12, 13] rfl ?_
 simp only [Act.put, aAll]
 refine till_tl (i := 9) [10, 11, 12, 13] rfl ?_
 simp only [Act.put, aAll]
 refine till_tl (i := 10) [11, 12, 13] rfl ?_
 simp only [Act.put, aAll]
 refine till_in (i := 11) (by kernel_rfl) rfl (fun K hK => ?_)
 go_simp
 refine (signK b1 a1 l1 c1 z k s _ ((y1.later HW).ik (by omega)) (unhide ES)).mono ?_
 rintro e w9 ⟨rfl, hb9⟩
 replace HW := Below.step HW hb9
 clear hb9
 refine hK.out _ _ ?_ (fun hHeld => ?_)
 ·exact ⟨(HW.cell (p := ⟨gb, 1, none⟩) hbl).trans hx1, (HW.cell (p := ⟨gb, 0, none⟩) hbl).trans hx0, (E1.later HW).facts.1, (E1.later HW).facts.2⟩
 clear hK K
 try simp only [Act.put, aAll]
 refine till_tl (i := 12) [13] rfl ?_
 simp only [Act.put, aAll]
 refine till_out (i := 13) (by kernel_rfl) rfl (by kernel_rfl) (fun K hK => ?_)
 go_simp
 refine hK.out _ _ ?_
 clear hK K
 try simp only [Act.put, aAll]
 refine till_done (by kernel_rfl) ?_ _
 clear hHeld
 go_wp2
 go_ret
 exact ⟨rfl, HW⟩
set_option maxRecDepth 40000 in
set_option maxHeartbeats 2000000 in
theorem isLowK (base gb n : Nat) (D : BD) (ls : List (List Int)) (ds : List Int) (gs : List (List Int)) (k : Nat) (i j : Nat) (w : World) (h : BS w base gb n D ls ds gs k) (hk : k ≤ 400000) (hn : n ≤ 1000) (hi : i < n) (hjn : j < n) (hj : j < (gs.getD i []).length) :
  Calls Try.prog 37 #[.pointer (some ⟨gb, 0, none⟩), .int .i64 (i : Int), .int .i64 (j : Int)] w fun e w' => e = .returned (.bool (decide (2 * (((gs.getD i []).getD j 0).natAbs : Int) ≤ ds.getD (j + 1) 0))) ∧ Below w.heap.size w w' := by
 rcases D with ⟨gl, cl, gd, cd, gg, cg, vs, us, V, U⟩
 obtain ⟨nd, e0nd⟩ : ∃ nd, nd = n + 1 := ⟨_, rfl⟩
 have hx1 : w.cell? ⟨gb, 1, none⟩ = some (.slice (some ⟨gd, 0, none⟩) nd cd) := by rw [e0nd]; exact h.box.facts.2.1
 have hbl := h.box.lt
 have hd : OwnV w base (some ⟨gd, 0, none⟩) nd cd ds k := by rw [e0nd]; exact h.r.d
 have hx2 : w.cell? ⟨gb, 2, none⟩ = some (.slice (some ⟨gg, 0, none⟩) n cg) := h.box.facts.2.2.1
 have hg : GRows w base gg n cg us U gs k n := h.r.g
 obtain ⟨b1, a1, l1, c1, E1, y1⟩ := hd.vf.at (show j + 1 < nd by omega)
 rw [Nat.zero_add] at E1
 obtain ⟨li, ci, hli, _, hx3, hu⟩ := hg.at hi
 have hgl := hg.lt.2
 obtain ⟨u, eu⟩ : ∃ u, u = U i := ⟨_, rfl⟩
 rw [← eu] at hx3 hu
 have hjl : j < li := by omega
 obtain ⟨b2, a2, l2, c2, E2, y2⟩ := hu.vf.at hjl
 rw [Nat.zero_add] at E2
 obtain ⟨z, ez⟩ : ∃ z, z = ds.getD (j + 1) 0 := ⟨_, rfl⟩
 obtain ⟨y, ey⟩ : ∃ y, y = (gs.getD i []).getD j 0 := ⟨_, rfl⟩
 rw [← ez] at y1 ⊢
 rw [← ey] at y2 ⊢
 obtain ⟨s, es⟩ : ∃ s, s = (2 * (y.natAbs : Int) - z).sign := ⟨_, rfl⟩
 obtain ⟨q, eq⟩ : ∃ q, q = decide (2 * (y.natAbs : Int) ≤ z) := ⟨_, rfl⟩
 have hs : decide (s ≤ 0) = q := by rw [es, eq]; exact sign_leB _ z
 rw [← eq]
 have ES := hide es
 have hw1 : IntKind.i64.wrap ((j : Int) + 1) = ((j + 1 : Nat) : Int) := by rw [IntKind.wrap_i64]; omega
 have hj0 : (0 : Int) ≤ ((j + 1 : Nat) : Int) := by omega
 have hj1 : ((j + 1 : Nat) : Int) < (nd : Int) := by omega
 have hj2 : (0 : Int) ≤ (j : Int) := by omega
 have hj3 : (j : Int) < (li : Int) := by omega
 have hi0 : (0 : Int) ≤ (i : Int) := by omega
 have hi1 : (i : Int) < (n : Int) := by omega
 obtain ⟨j1, ej1⟩ : ∃ j1, j1 = j + 1 := ⟨_, rfl⟩
 rw [← ej1] at E1 hw1 hj0 hj1
 clear eq ez ey es eu h hd hg hu hli ej1 hj e0nd
 go_enter Try.func37, Try.ntmps37
 go_upto_region 1 with fail
 have HW : Below w.heap.size w w.drew := (Below.refl _ _).drew
 refine till_start (fun w' => w'.cell? ⟨gb, 1, none⟩ = some (.slice (some ⟨gd, 0, none⟩) nd cd) ∧ w'.cell? ⟨gb, 2, none⟩ = some (.slice (some ⟨gg, 0, none⟩) n cg) ∧ w'.cell? ⟨gg, i, none⟩ = some (.slice (some ⟨u, 0, none⟩) li ci) ∧ w'.cell? ⟨gd, j1 * 2, none⟩ = some (.bool b1) ∧ w'.cell? ⟨gd, j1 * 2 + 1, none⟩ = some (.slice a1 l1 c1) ∧ w'.cell? ⟨u, j * 2, none⟩ = some (.bool b2) ∧ w'.cell? ⟨u, j * 2 + 1, none⟩ = some (.slice a2 l2 c2)) 23 (by kernel_rfl) ?_ (fun hHeld => ?_)
 ·exact ⟨(HW.cell (p := ⟨gb, 1, none⟩) hbl).trans hx1, (HW.cell (p := ⟨gb, 2, none⟩) hbl).trans hx2, (HW.cell (p := ⟨gg, i, none⟩) hgl).trans hx3, (E1.later HW).facts.1, (E1.later HW).facts.2, (E2.later HW).facts.1, (E2.later HW).facts.2⟩
 refine till_tl (i := 1) [2, 3, 4, 6, 7, 9, 10, 11, 12, 21, 22, 23] rfl ?_
 simp only [Act.put, aAll]
 refine till_tl (i := 2) [3, 4, 6, 7, 9, 10, 11, 12, 21, 22, 23] rfl ?_
 simp only [Act.put, aAll]
 refine till_tl (i := 3) [4, 6, 7, 9, 10, 11, 12, 21, 22, 23] rfl ?_
 simp only [Act.put, aAll]
 refine till_tl (i := 4) [6, 7, 9, 10, 11, 12, 21, 22, 23] rfl ?_
 simp only [Act.put, aAll]
 refine till_tl (i := 5) [6, 7, 9, 10, 11, 12, 21, 22, 23] rfl ?_
 simp only [Act.put, aAll]
 refine till_tl (i := 6) [7, 9, 10, 11, 12, 21, 22, 23] rfl ?_
 simp only [Act.put, aAll]
 refine till_tl (i := 7) [9, 10, 11, 12, 21, 22, 23] rfl ?_
 simp only [Act.put, aAll]
 refine till_tl (i := 8) [9, 10, 11, 12, 21, 22, 23] rfl ?_
 simp only [Act.put, aAll]
 refine till_tl (i := 9) [10, 11, 12, 21, 22, 23] rfl ?_
 simp only [Act.put, aAll]
 refine till_tl (i := 10) [11, 12, 21, 22, 23] rfl ?_
 simp only [Act.put, aAll]
 refine till_tl (i := 13) [14, 15, 16, 19, 20, 21, 22, 23] rfl ?_
 simp only [Act.put, aAll]
 refine till_tl (i := 14) [15, 16, 19, 20, 21, 22, 23] rfl ?_
 simp only [Act.put, aAll]
 refine till_tl (i := 15) [16, 19, 20, 21, 22, 23] rfl ?_
 simp only [Act.put, aAll]
 refine till_tl (i := 16) [19, 20, 21, 22, 23] rfl ?_
 simp only [Act.put, aAll]
 refine till_tl (i := 17) [18, 19, 20, 21, 22, 23] rfl ?_
 simp only [Act.put, aAll]
 refine till_tl (i := 18) [19, 20, 21, 22, 23] rfl ?_
 simp only [Act.put, aAll]
 refine till_tl (i := 19) [20, 21, 22, 23] rfl ?_
 simp only [Act.put, aAll]
 refine till_tl (i := 20) [21, 22, 23] rfl ?_
 simp only [Act.put, aAll]
 refine till_in (i := 0) (by kernel_rfl) rfl (fun K hK => ?_)
 go_simp
 refine (ofK 2 _ (by omega) (by omega)).mono ?_
 rintro e w9 ⟨b4, a4, l4, c4, rfl, h4, hb9⟩
 replace HW := Below.step HW hb9
 clear hb9
 refine hK.out _ _ ?_ (fun hHeld => ?_)
 ·exact ⟨(HW.cell (p := ⟨gb, 1, none⟩) hbl).trans hx1, (HW.cell (p := ⟨gb, 2, none⟩) hbl).trans hx2, (HW.cell (p := ⟨gg, i, none⟩) hgl).trans hx3, (E1.later HW).facts.1, (E1.later HW).facts.2, (E2.later HW).facts.1, (E2.later HW).facts.2⟩
 clear hK K
 try simp only [Act.put, aGet, aZero, aSet, aHead, aTail]
 refine till_in (i := 11) (by kernel_rfl) rfl (fun K hK => ?_)
 go_simp
 refine (absK b2 a2 l2 c2 y k _ ((y2.later HW).ik (by omega))).mono ?_
 rintro e w9 ⟨b5, a5, l5, c5, rfl, h5, hb9⟩
 replace HW := Below.step HW hb9
 replace h4 := h4.later hb9
 clear hb9
 refine hK.out _ _ ?_ (fun hHeld => ?_)
 ·exact ⟨(HW.cell (p := ⟨gb, 1, none⟩) hbl).trans hx1, (HW.cell (p := ⟨gb, 2, none⟩) hbl).trans hx2, (HW.cell (p := ⟨gg, i, none⟩) hgl).trans hx3, (E1.later HW).facts.1, (E1.later HW).facts.2, (E2.later HW).facts.1, (E2.later HW).facts.2⟩
 clear hK K
 try simp only [Act.put, aAll]
 refine till_in (i := 12) (by kernel_rfl) rfl (fun K hK => ?_)
 go_simp
 refine (mulK b4 a4 l4 c4 2 2 b5 a5 l5 c5 (y.natAbs : Int) k _ (h4.ik (by omega)) (h5.ik (by omega))).mono ?_
 rintro e w9 ⟨b6, a6, l6, c6, rfl, h6, hb9⟩
 replace HW := Below.step HW hb9
 clear hb9 h4 h5
 refine hK.out _ _ ?_ (fun hHeld => ?_)
 ·exact ⟨(HW.cell (p := ⟨gb, 1, none⟩) hbl).trans hx1, (HW.cell (p := ⟨gb, 2, none⟩) hbl).trans hx2, (HW.cell (p := ⟨gg, i, none⟩) hgl).trans hx3, (E1.later HW).facts.1, (E1.later HW).facts.2, (E2.later HW).facts.1, (E2.later HW).facts.2⟩
 clear hK K
 try simp only [Act.put, aAll]
 refine till_in (i := 21) (by kernel_rfl) rfl (fun K hK => ?_)
 go_simp
 refine (cmpK b6 a6 l6 c6 (2 * (y.natAbs : Int)) (2 + k) b1 a1 l1 c1 z k s _ (h6.ik (by omega)) ((y1.later HW).ik (by omega)) (unhide ES)).mono ?_
 rintro e w9 ⟨rfl, hb9⟩
 replace HW := Below.step HW hb9
 clear hb9 h6
 refine hK.out _ _ ?_ (fun hHeld => ?_)
 ·exact ⟨(HW.cell (p := ⟨gb, 1, none⟩) hbl).trans hx1, (HW.cell (p := ⟨gb, 2, none⟩) hbl).trans hx2, (HW.cell (p := ⟨gg, i, none⟩) hgl).trans hx3, (E1.later HW).facts.1, (E1.later HW).facts.2, (E2.later HW).facts.1, (E2.later HW).facts.2⟩
 clear hK K
 try simp only [Act.put, aAll]
 refine till_tl (i := 22) [23] rfl ?_
 simp only [Act.put, aAll]
 refine till_out (i := 23) (by kernel_rfl) rfl (by kernel_rfl) (fun K hK => ?_)
 go_simp
 refine hK.out _ _ ?_
 clear hK K
 try simp only [Act.put, aAll]
 refine till_done (by kernel_rfl) ?_ _
 clear hHeld
 go_wp2
 go_ret
 exact ⟨rfl, HW⟩
set_option maxRecDepth 40000 in
set_option maxHeartbeats 2000000 in
theorem swappedK (base gb n : Nat) (D : BD) (ls : List (List Int)) (ds : List Int) (gs : List (List Int)) (k : Nat) (m : Nat) (w : World) (h : BS w base gb n D ls ds gs k) (hk : k ≤ 400000) (hn : n ≤ 1000) (hi : m + 1 < n) (hj : m < (gs.getD (m + 1) []).length) :
  Calls Try.prog 44 #[.pointer (some ⟨gb, 0, none⟩), .int .i64 ((m + 1 : Nat) : Int)] w fun e w' => ∃ b1 a1 l1 c1, e = .returned (.agg #[.bool b1, .slice a1 l1 c1]) ∧ FK w' b1 a1 l1 c1 (ds.getD (m + 2) 0 * ds.getD m 0 + (gs.getD (m + 1) []).getD m 0 * (gs.getD (m + 1) []).getD m 0) (k + k + 1) ∧ Below w.heap.size w w' := by
 rcases D with ⟨gl, cl, gd, cd, gg, cg, vs, us, V, U⟩
 obtain ⟨nd, e0nd⟩ : ∃ nd, nd = n + 1 := ⟨_, rfl⟩
 have hx1 : w.cell? ⟨gb, 1, none⟩ = some (.slice (some ⟨gd, 0, none⟩) nd cd) := by rw [e0nd]; exact h.box.facts.2.1
 have hbl := h.box.lt
 have hd : OwnV w base (some ⟨gd, 0, none⟩) nd cd ds k := by rw [e0nd]; exact h.r.d
 have hx2 : w.cell? ⟨gb, 2, none⟩ = some (.slice (some ⟨gg, 0, none⟩) n cg) := h.box.facts.2.2.1
 have hg : GRows w base gg n cg us U gs k n := h.r.g
 obtain ⟨b1, a1, l1, c1, E1, y1⟩ := hd.vf.at (show m + 2 < nd by omega)
 rw [Nat.zero_add] at E1
 obtain ⟨b3, a3, l3, c3, E3, y3⟩ := hd.vf.at (show m < nd by omega)
 rw [Nat.zero_add] at E3
 obtain ⟨li, ci, hli, _, hx3, hu⟩ := hg.at hi
 have hgl := hg.lt.2
 obtain ⟨u, eu⟩ : ∃ u, u = U (m + 1) := ⟨_, rfl⟩
 rw [← eu] at hx3 hu
 have hjl : m < li := by omega
 obtain ⟨b2, a2, l2, c2, E2, y2⟩ := hu.vf.at hjl
 rw [Nat.zero_add] at E2
 obtain ⟨z, ez⟩ : ∃ z, z = ds.getD (m + 2) 0 := ⟨_, rfl⟩
 obtain ⟨x, ex⟩ : ∃ x, x = ds.getD m 0 := ⟨_, rfl⟩
 obtain ⟨y, ey⟩ : ∃ y, y = (gs.getD (m + 1) []).getD m 0 := ⟨_, rfl⟩
 rw [← ez] at y1 ⊢
 rw [← ex] at y3 ⊢
 rw [← ey] at y2 ⊢
 obtain ⟨i, ei⟩ : ∃ i, i = m + 1 := ⟨_, rfl⟩
 obtain ⟨i1, ei1⟩ : ∃ i1, i1 = m + 2 := ⟨_, rfl⟩
 have hw1 : IntKind.i64.wrap ((i : Int) + 1) = (i1 : Int) := by rw [IntKind.wrap_i64]; omega
 have hw2 : IntKind.i64.wrap ((i : Int) - 1) = (m : Int) := by rw [IntKind.wrap_i64]; omega
 have hj0 : (0 : Int) ≤ (i1 : Int) := by omega
 have hj1 : (i1 : Int) < (nd : Int) := by omega
 have hj2 : (0 : Int) ≤ (m : Int) := by omega
 have hj3 : (m : Int) < (li : Int) := by omega
 have hj4 : (m : Int) < (nd : Int) := by omega
 have hi0 : (0 : Int) ≤ (i : Int) := by omega
 have hi1 : (i : Int) < (n : Int) := by omega
 rw [← ei1] at E1
 rw [← ei] at hx3 ⊢
 obtain ⟨f1, f2⟩ := E2.facts
 have hul := E2.1
 clear ez ex ey eu h hd hg hu hli ei ei1 hj e0nd
 go_enter Try.func44, Try.ntmps44
 go_upto_region 2 with fail
 obtain ⟨W, hWe⟩ : ∃ W', W' = ((w.alloc (.cells #[.bool false, .slice none 0 0] 38)).alloc (.cells #[.bool b2, .slice a2 l2 c2] 38)) := ⟨_, rfl⟩
 obtain ⟨B0, B1, hb0⟩ := boxes2 w false none 0 0 b2 a2 l2 c2 hWe
 rw [← hWe]
 clear hWe f1 f2 hul
 replace hx1 := (hb0.cell (p := ⟨gb, 1, none⟩) hbl).trans hx1
 have hbl2 := Nat.lt_of_lt_of_le hbl hb0.size
 replace E1 := E1.later hb0
 replace E3 := E3.later hb0
 replace y1 := y1.later hb0
 replace y2 := y2.later hb0
 replace y3 := y3.later hb0
 have HB := hide hb0
 clear hb0 hx2 hx3 E2
 have HW : Below W.heap.size W W.drew := (Below.refl _ _).drew
 refine till_start (fun w' => w'.cell? ⟨gb, 1, none⟩ = some (.slice (some ⟨gd, 0, none⟩) nd cd) ∧ w'.cell? ⟨gd, i1 * 2, none⟩ = some (.bool b1) ∧ w'.cell? ⟨gd, i1 * 2 + 1, none⟩ = some (.slice a1 l1 c1) ∧ w'.cell? ⟨gd, m * 2, none⟩ = some (.bool b3) ∧ w'.cell? ⟨gd, m * 2 + 1, none⟩ = some (.slice a3 l3 c3) ∧ w'.cell? ⟨w.heap.size + 1, 0, none⟩ = some (.bool b2) ∧ w'.cell? ⟨w.heap.size + 1, 1, none⟩ = some (.slice a2 l2 c2)) 21 (by kernel_rfl) ?_ (fun hHeld => ?_)
 ·exact ⟨(HW.cell (p := ⟨gb, 1, none⟩) hbl2).trans hx1, (E1.later HW).facts.1, (E1.later HW).facts.2, (E3.later HW).facts.1, (E3.later HW).facts.2, (B1.later HW).facts.1, (B1.later HW).facts.2.1⟩
 refine till_tl (i := 0) [1, 2, 3, 6, 7, 16, 19, 20, 21] rfl ?_
 simp only [Act.put, aGet, aZero, aSet, aHead, aTail]
 refine till_tl (i := 1) [2, 3, 6, 7, 16, 19, 20, 21] rfl ?_
 simp only [Act.put, aAll]
 refine till_tl (i := 2) [3, 6, 7, 16, 19, 20, 21] rfl ?_
 simp only [Act.put, aAll]
 refine till_tl (i := 3) [6, 7, 16, 19, 20, 21] rfl ?_
 simp only [Act.put, aAll]
 refine till_tl (i := 4) [5, 6, 7, 16, 19, 20, 21] rfl ?_
 simp only [Act.put, aAll]
 refine till_tl (i := 5) [6, 7, 16, 19, 20, 21] rfl ?_
 simp only [Act.put, aAll]
 refine till_tl (i := 6) [7, 16, 19, 20, 21] rfl ?_
 simp only [Act.put, aAll]
 refine till_tl (i := 7) [16, 19, 20, 21] rfl ?_
 simp only [Act.put, aAll]
 refine till_tl (i := 8) [9, 10, 11, 14, 15, 16, 19, 20, 21] rfl ?_
 simp only [Act.put, aAll]
 refine till_tl (i := 9) [10, 11, 14, 15, 16, 19, 20, 21] rfl ?_
 simp only [Act.put, aAll]
 refine till_tl (i := 10) [11, 14, 15, 16, 19, 20, 21] rfl ?_
 simp only [Act.put, aAll]
 refine till_tl (i := 11) [14, 15, 16, 19, 20, 21] rfl ?_
 simp only [Act.put, aAll]
 refine till_tl (i := 12) [13, 14, 15, 16, 19, 20, 21] rfl ?_
 simp only [Act.put, aAll]
 refine till_tl (i := 13) [14, 15, 16, 19, 20, 21] rfl ?_
 simp only [Act.put, aAll]
 refine till_tl (i := 14) [15, 16, 19, 20, 21] rfl ?_
 simp only [Act.put, aAll]
 refine till_tl (i := 15) [16, 19, 20, 21] rfl ?_
 simp only [Act.put, aAll]
 refine till_tl (i := 17) [19, 20, 21] rfl ?_
 simp only [Act.put, aAll]
 refine till_tl (i := 18) [19, 20, 21] rfl ?_
 simp only [Act.put, aAll]
 refine till_in (i := 16) (by kernel_rfl) rfl (fun K hK => ?_)
 go_simp
 refine (mulK b1 a1 l1 c1 z k b3 a3 l3 c3 x k _ ((y1.later HW).ik (by omega)) ((y3.later HW).ik (by omega))).mono ?_
 rintro e w9 ⟨b4, a4, l4, c4, rfl, h4, hb9⟩
 replace HW := Below.step HW hb9
 clear hb9
 refine hK.out _ _ ?_ (fun hHeld => ?_)
 ·exact ⟨(HW.cell (p := ⟨gb, 1, none⟩) hbl2).trans hx1, (E1.later HW).facts.1, (E1.later HW).facts.2, (E3.later HW).facts.1, (E3.later HW).facts.2, (B1.later HW).facts.1, (B1.later HW).facts.2.1⟩
 clear hK K
 try simp only [Act.put, aAll]
 refine till_in (i := 19) (by kernel_rfl) rfl (fun K hK => ?_)
 go_simp
 refine (mulK b2 a2 l2 c2 y k b2 a2 l2 c2 y k _ ((y2.later HW).ik (by omega)) ((y2.later HW).ik (by omega))).mono ?_
 rintro e w9 ⟨b5, a5, l5, c5, rfl, h5, hb9⟩
 replace HW := Below.step HW hb9
 replace h4 := h4.later hb9
 clear hb9
 refine hK.out _ _ ?_ (fun hHeld => ?_)
 ·exact ⟨(HW.cell (p := ⟨gb, 1, none⟩) hbl2).trans hx1, (E1.later HW).facts.1, (E1.later HW).facts.2, (E3.later HW).facts.1, (E3.later HW).facts.2, (B1.later HW).facts.1, (B1.later HW).facts.2.1⟩
 clear hK K
 try simp only [Act.put, aAll]
 refine till_in (i := 20) (by kernel_rfl) rfl (fun K hK => ?_)
 go_simp
 refine (addK b4 a4 l4 c4 (z * x) (k + k) b5 a5 l5 c5 (y * y) (k + k) _ (h4.ik (by omega)) (h5.ik (by omega))).mono ?_
 rintro e w9 ⟨b6, a6, l6, c6, rfl, h6, hb9⟩
 replace HW := Below.step HW hb9
 clear hb9 h4 h5
 refine hK.out _ _ ?_ (fun hHeld => ?_)
 ·exact ⟨(HW.cell (p := ⟨gb, 1, none⟩) hbl2).trans hx1, (E1.later HW).facts.1, (E1.later HW).facts.2, (E3.later HW).facts.1, (E3.later HW).facts.2, (B1.later HW).facts.1, (B1.later HW).facts.2.1⟩
 clear hK K
 try simp only [Act.put, aAll]
 obtain ⟨q1, q2, q3, q4⟩ := (B0.later HW).facts
 have hs0 := (B0.later HW).lt
 refine till_out (i := 21) (by kernel_rfl) rfl (by kernel_rfl) (fun K hK => ?_)
 go_simp
 refine hK.out _ _ ?_
 clear hK K
 try simp only [Act.put, aAll]
 refine till_done (by kernel_rfl) ?_ _
 have hnl := (B0.later HW).noLimb
 clear hHeld q1 q2 q3 q4
 have B9 := (B0.later HW).put b6 a6 l6 c6
 have h9 := h6.put hnl b6 a6 l6 c6
 have HB9 := hide (below_put (Below.step (unhide HB) HW) (Nat.le_refl w.heap.size) b6 a6 l6 c6)
 have e9 : (w9.setCell ⟨w.heap.size, 0, none⟩ (.bool b6)).setCell ⟨w.heap.size, 1, none⟩ (.slice a6 l6 c6) = put w9 w.heap.size b6 a6 l6 c6 := rfl
 rw [e9]
 obtain ⟨f1, f2, _, _⟩ := B9.facts
 have hs9 := B9.lt
 rw [Nat.max_self] at h9
 clear HW B0 B1 E1 E3 e9 hnl h6 hs0 hx1 y1 y2 y3
 go_wp2
 refine bodyPost_ret (v := .agg #[.bool b6, .slice a6 l6 c6]) (by simp [results, Try.results44, go_sem, *]) rfl ?_
 exact ⟨_, _, _, _, rfl, h9, unhide HB9⟩
set_option maxRecDepth 40000 in
set_option maxHeartbeats 2000000 in
theorem isLongK (base gb n : Nat) (D : BD) (ls : List (List Int)) (ds : List Int) (gs : List (List Int)) (k : Nat) (m : Nat) (w : World) (h : BS w base gb n D ls ds gs k) (hk : k ≤ 400000) (hn : n ≤ 1000) (hi : m + 1 < n) (hj : m < (gs.getD (m + 1) []).length) :
  Calls Try.prog 23 #[.pointer (some ⟨gb, 0, none⟩), .int .i64 ((m + 1 : Nat) : Int)] w fun e w' => e = .returned (.bool (decide (3 * (ds.getD (m + 1) 0 * ds.getD (m + 1) 0) ≤ 4 * (ds.getD (m + 2) 0 * ds.getD m 0 + (gs.getD (m + 1) []).getD m 0 * (gs.getD (m + 1) []).getD m 0)))) ∧ Below w.heap.size w w' := by
 obtain ⟨z, ez⟩ : ∃ z, z = ds.getD (m + 2) 0 * ds.getD m 0 + (gs.getD (m + 1) []).getD m 0 * (gs.getD (m + 1) []).getD m 0 := ⟨_, rfl⟩
 obtain ⟨x, ex⟩ : ∃ x, x = ds.getD (m + 1) 0 := ⟨_, rfl⟩
 have HJ := hide hj
 have HZ := hide ez
 rw [← ez, ← ex]
 obtain ⟨s, es⟩ : ∃ s, s = (4 * z - 3 * (x * x)).sign := ⟨_, rfl⟩
 obtain ⟨q, eq⟩ : ∃ q, q = decide (3 * (x * x) ≤ 4 * z) := ⟨_, rfl⟩
 have hs : decide (0 ≤ s) = q := by rw [es, eq]; exact sign_geB _ _
 rw [← eq]
 have ES := hide es
 have EX := hide ex
 obtain ⟨i, ei⟩ : ∃ i, i = m + 1 := ⟨_, rfl⟩
 have hi0 : (0 : Int) ≤ (i : Int) := by omega
 rw [← ei]
 have EI := hide ei
 clear eq es ez ex hj ei
 go_enter Try.func23, Try.ntmps23
 go_wp2_with fail
 refine (ofK 4 _ (by omega) (by omega)).mono ?_
 rintro e w1 ⟨b1, a1, l1, c1, rfl, h1, hb1⟩
 have HB := hide hb1
 clear hb1
 go_wp2_with fail
 rw [unhide EI]
 refine (swappedK base gb n D ls ds gs k m _ (h.later (unhide HB)) hk hn hi (unhide HJ)).mono ?_
 rintro e w2 ⟨b2, a2, l2, c2, rfl, h2, hb1⟩
 rw [← unhide HZ] at h2
 rw [← unhide EI]
 replace h1 := h1.later hb1
 replace HB := hide (Below.step (unhide HB) hb1)
 clear hb1
 go_wp2_with fail
 refine (mulK b1 a1 l1 c1 4 2 b2 a2 l2 c2 z (k + k + 1) _ (h1.ik (by omega)) (h2.ik (by omega))).mono ?_
 rintro e w3 ⟨b3, a3, l3, c3, rfl, h3, hb1⟩
 replace HB := hide (Below.step (unhide HB) hb1)
 clear hb1 h1 h2
 go_upto_region 2 with fail
 obtain ⟨W, hWe⟩ : ∃ W', W' = w3.alloc (.cells #[.bool b3, .slice a3 l3 c3] 38) := ⟨_, rfl⟩
 obtain ⟨B3, hb1⟩ := boxes1 w3 b3 a3 l3 c3 hWe
 rw [← hWe]
 clear hWe
 replace h3 := h3.later hb1
 replace HB := hide (Below.step (unhide HB) hb1)
 clear hb1
 replace h := h.later (unhide HB)
 rcases D with ⟨gl, cl, gd, cd, gg, cg, vs, us, V, U⟩
 obtain ⟨nd, e0nd⟩ : ∃ nd, nd = n + 1 := ⟨_, rfl⟩
 have hx1 : W.cell? ⟨gb, 1, none⟩ = some (.slice (some ⟨gd, 0, none⟩) nd cd) := by rw [e0nd]; exact h.box.facts.2.1
 have hbl := h.box.lt
 have hd : OwnV W base (some ⟨gd, 0, none⟩) nd cd ds k := by rw [e0nd]; exact h.r.d
 obtain ⟨b1, a1, l1, c1, E1, y1⟩ := hd.vf.at (show m + 1 < nd by omega)
 rw [Nat.zero_add] at E1
 rw [← unhide EX] at y1
 rw [← unhide EI] at E1
 have hi1 : (i : Int) < (nd : Int) := by rw [unhide EI]; omega
 clear h hd e0nd
 have HW : Below W.heap.size W W.drew := (Below.refl _ _).drew
 refine till_start (fun w' => w'.cell? ⟨gb, 1, none⟩ = some (.slice (some ⟨gd, 0, none⟩) nd cd) ∧ w'.cell? ⟨gd, i * 2, none⟩ = some (.bool b1) ∧ w'.cell? ⟨gd, i * 2 + 1, none⟩ = some (.slice a1 l1 c1) ∧ w'.cell? ⟨w3.heap.size, 0, none⟩ = some (.bool b3) ∧ w'.cell? ⟨w3.heap.size, 1, none⟩ = some (.slice a3 l3 c3)) 20 (by kernel_rfl) ?_ (fun hHeld => ?_)
 ·exact ⟨(HW.cell (p := ⟨gb, 1, none⟩) hbl).trans hx1, (E1.later HW).facts.1, (E1.later HW).facts.2, (B3.later HW).facts.1, (B3.later HW).facts.2.1⟩
 refine till_tl (i := 0) [18, 19, 20] rfl ?_
 simp only [Act.put, aGet, aZero, aSet, aHead, aTail]
 refine till_tl (i := 2) [3, 4, 5, 7, 8, 16, 17, 18, 19, 20] rfl ?_
 simp only [Act.put, aAll]
 refine till_tl (i := 3) [4, 5, 7, 8, 16, 17, 18, 19, 20] rfl ?_
 simp only [Act.put, aAll]
 refine till_tl (i := 4) [5, 7, 8, 16, 17, 18, 19, 20] rfl ?_
 simp only [Act.put, aAll]
 refine till_tl (i := 5) [7, 8, 16, 17, 18, 19, 20] rfl ?_
 simp only [Act.put, aAll]
 refine till_tl (i := 6) [7, 8, 16, 17, 18, 19, 20] rfl ?_
 simp only [Act.put, aAll]
 refine till_tl (i := 7) [8, 16, 17, 18, 19, 20] rfl ?_
 simp only [Act.put, aAll]
 refine till_tl (i := 8) [16, 17, 18, 19, 20] rfl ?_
 simp only [Act.put, aAll]
 refine till_tl (i := 9) [10, 11, 12, 14, 15, 16, 17, 18, 19, 20] rfl ?_
 simp only [Act.put, aAll]
 refine till_tl (i := 10) [11, 12, 14, 15, 16, 17, 18, 19, 20] rfl ?_
 simp only [Act.put, aAll]
 refine till_tl (i := 11) [12, 14, 15, 16, 17, 18, 19, 20] rfl ?_
 simp only [Act.put, aAll]
 refine till_tl (i := 12) [14, 15, 16, 17, 18, 19, 20] rfl ?_
 simp only [Act.put, aAll]
 refine till_tl (i := 13) [14, 15, 16, 17, 18, 19, 20] rfl ?_
 simp only [Act.put, aAll]
 refine till_tl (i := 14) [15, 16, 17, 18, 19, 20] rfl ?_
 simp only [Act.put, aAll]
 refine till_tl (i := 15) [16, 17, 18, 19, 20] rfl ?_
 simp only [Act.put, aAll]
 refine till_in (i := 1) (by kernel_rfl) rfl (fun K hK => ?_)
 go_simp
 refine (ofK 3 _ (by omega) (by omega)).mono ?_
 rintro e w9 ⟨b4, a4, l4, c4, rfl, h4, hb9⟩
 replace HW := Below.step HW hb9
 clear hb9
 refine hK.out _ _ ?_ (fun hHeld => ?_)
 ·exact ⟨(HW.cell (p := ⟨gb, 1, none⟩) hbl).trans hx1, (E1.later HW).facts.1, (E1.later HW).facts.2, (B3.later HW).facts.1, (B3.later HW).facts.2.1⟩
 clear hK K
 try simp only [Act.put, aAll]
 refine till_in (i := 16) (by kernel_rfl) rfl (fun K hK => ?_)
 go_simp
 refine (mulK b1 a1 l1 c1 x k b1 a1 l1 c1 x k _ ((y1.later HW).ik (by omega)) ((y1.later HW).ik (by omega))).mono ?_
 rintro e w9 ⟨b5, a5, l5, c5, rfl, h5, hb9⟩
 replace HW := Below.step HW hb9
 replace h4 := h4.later hb9
 clear hb9
 refine hK.out _ _ ?_ (fun hHeld => ?_)
 ·exact ⟨(HW.cell (p := ⟨gb, 1, none⟩) hbl).trans hx1, (E1.later HW).facts.1, (E1.later HW).facts.2, (B3.later HW).facts.1, (B3.later HW).facts.2.1⟩
 clear hK K
 try simp only [Act.put, aAll]
 refine till_in (i := 17) (by kernel_rfl) rfl (fun K hK => ?_)
 go_simp
 refine (mulK b4 a4 l4 c4 3 2 b5 a5 l5 c5 (x * x) (k + k) _ (h4.ik (by omega)) (h5.ik (by omega))).mono ?_
 rintro e w9 ⟨b6, a6, l6, c6, rfl, h6, hb9⟩
 replace HW := Below.step HW hb9
 clear hb9 h4 h5
 refine hK.out _ _ ?_ (fun hHeld => ?_)
 ·exact ⟨(HW.cell (p := ⟨gb, 1, none⟩) hbl).trans hx1, (E1.later HW).facts.1, (E1.later HW).facts.2, (B3.later HW).facts.1, (B3.later HW).facts.2.1⟩
 clear hK K
 try simp only [Act.put, aAll]
 refine till_in (i := 18) (by kernel_rfl) rfl (fun K hK => ?_)
 go_simp
 refine (cmpK b3 a3 l3 c3 (4 * z) (2 + (k + k + 1)) b6 a6 l6 c6 (3 * (x * x)) (2 + (k + k)) s _ ((h3.later HW).ik (by omega)) (h6.ik (by omega)) (unhide ES)).mono ?_
 rintro e w9 ⟨rfl, hb9⟩
 replace HW := Below.step HW hb9
 clear hb9 h6
 refine hK.out _ _ ?_ (fun hHeld => ?_)
 ·exact ⟨(HW.cell (p := ⟨gb, 1, none⟩) hbl).trans hx1, (E1.later HW).facts.1, (E1.later HW).facts.2, (B3.later HW).facts.1, (B3.later HW).facts.2.1⟩
 clear hK K
 try simp only [Act.put, aAll]
 refine till_tl (i := 19) [20] rfl ?_
 simp only [Act.put, aAll]
 refine till_out (i := 20) (by kernel_rfl) rfl (by kernel_rfl) (fun K hK => ?_)
 go_simp
 refine hK.out _ _ ?_
 clear hK K
 try simp only [Act.put, aAll]
 refine till_done (by kernel_rfl) ?_ _
 clear hHeld
 go_wp2
 go_ret
 exact ⟨rfl, Below.step (unhide HB) HW⟩
end Go.Proofs.Ytnpneloahajniaa
