/-
 What joined of package hnf tells: two rows with one pivot, made of two by whole numbers that can be undone.
-/
import Derived.Test.YtnpneloahajniaaGreatHLow
import Derived.Test.YtnpneloahajniaaGreatJQ
import Derived.Test.YtnpneloahajniaaGreatJE
import Derived.Test.YtnpneloahajniaaGreatJI
namespace Go.Proofs.YtnpneloahajniaaGreat
open Go.RowKit Lb
set_option maxRecDepth 20000

theorem till_four {P : Program} {ops : Array Oper} {Q : Exit → Act → World → Prop} {S : World → Prop} {t i j k m : Nat} {oi oj ok om : Oper} {n : Nat} {l : Array Bool} {a : Act} {w : World} (hr : Region.ready .any ops l = [i, j, k, m]) (hi : ops[i]? = some oi) (hj : ops[j]? = some oj) (hk : ops[k]? = some ok) (hm' : ops[m]? = some om)
  (h1 : ∀ K' : Act → World → Prop, Shut (∀ a w, S w → (S w → Till P ops Q S t n (l.setIfInBounds i true) a w) → K' a w) → if Region.wanted oi (yielded ops a.tmps) = true then Oper.wp P oi a w K' Q else K' (a.put oi.dst undef) w)
  (h2 : ∀ K' : Act → World → Prop, Shut (∀ a w, S w → (S w → Till P ops Q S t n (l.setIfInBounds j true) a w) → K' a w) → if Region.wanted oj (yielded ops a.tmps) = true then Oper.wp P oj a w K' Q else K' (a.put oj.dst undef) w)
  (h3 : ∀ K' : Act → World → Prop, Shut (∀ a w, S w → (S w → Till P ops Q S t n (l.setIfInBounds k true) a w) → K' a w) → if Region.wanted ok (yielded ops a.tmps) = true then Oper.wp P ok a w K' Q else K' (a.put ok.dst undef) w)
  (h4 : ∀ K' : Act → World → Prop, Shut (∀ a w, S w → (S w → Till P ops Q S t n (l.setIfInBounds m true) a w) → K' a w) → if Region.wanted om (yielded ops a.tmps) = true then Oper.wp P om a w K' Q else K' (a.put om.dst undef) w) : Till P ops Q S t (n + 1) l a w :=
 till_all [i, j, k, m] hr (by simp) (fun m hm => by
  rcases List.mem_cons.1 hm with rfl | hm
  ·exact ⟨_, hi, h1⟩
  rcases List.mem_cons.1 hm with rfl | hm
  ·exact ⟨_, hj, h2⟩
  rcases List.mem_cons.1 hm with rfl | hm
  ·exact ⟨_, hk, h3⟩
  ·rw [List.mem_singleton] at hm;subst hm;exact ⟨_, hm', h4⟩)
theorem mf_two {w : World} {a a' : Option Addr} {l c l' c' k : Nat} {zs ys : List Int} (h : VF w a l c zs k) (h' : VF w a' l' c' ys k) : MF (w.alloc (.cells #[.slice a l c, .slice a' l' c'] 39)) (some ⟨w.heap.size, 0, none⟩) 2 2 [zs, ys] k := by
 refine rowsOf_new (R := fun w a l c zs => VF w a l c zs k) (vs := [(a, l, c), (a', l', c')]) rfl rfl rfl (by simp) fun i a2 l2 c2 e => ?_
 match i with
 | 0 =>
  simp at e;obtain ⟨rfl, rfl, rfl⟩ := e;exact h.za (below_new w _)
 | 1 =>
  simp at e;obtain ⟨rfl, rfl, rfl⟩ := e;exact h'.za (below_new w _)
theorem prod_two (x y : Int) (zs ys : List Int) (j : Nat) : (vprod [x, y] [zs, ys]).getD j 0 = x * zs.getD j 0 + y * ys.getD j 0 := by
 rw [vprod_at];simp [sumN]
theorem longest_two {zs ys : List Int} {N : Nat} (h : zs.length = N) (h' : ys.length = N) : longest [zs, ys] = N := by
 simp [longest, h, h']
theorem two_lt {x y z u : Int} {k b : Nat} (hx : x.natAbs ≤ Bp k) (hy : y.natAbs ≤ Bp b) (hz : z.natAbs < Bp b) (hu : u.natAbs < Bp k) : (x * z + y * u).natAbs < Bp (k + b + 1) := by
 have h1 : (x * z).natAbs ≤ Bp k * Bp b := by rw [Int.natAbs_mul]; exact Nat.mul_le_mul hx (by omega)
 have h2 : (y * u).natAbs ≤ Bp k * Bp b := by rw [Int.natAbs_mul, Nat.mul_comm (Bp k)]; exact Nat.mul_le_mul hy (by omega)
 have h3 : 0 < Bp k * Bp b := Nat.mul_pos (Bp_pos _) (Bp_pos _);have h4 : Bp (k + b + 1) = Bp k * Bp b * 4294967296 := by
  rw [bp_add, bp_add];have : Bp 1 = 4294967296 := by unfold Bp; decide
  rw [this]
 omega
set_option maxRecDepth 40000 in
set_option maxHeartbeats 4000000 in
theorem joinedK (ao : Option Addr) (N cap : Nat) (zs : List Int) (b : Nat) (ap : Option Addr) (cp : Nat) (ys : List Int) (k q : Nat) (w : World) (h : VF w ao N cap zs b) (h2 : VF w ap N cp ys k) (hqN : q < N) (hz : 0 < zs.getD q 0) (_hy : 0 < ys.getD q 0) (hz0 : ∀ j, j < q → zs.getD j 0 = 0) (hy0 : ∀ j, j < q → ys.getD j 0 = 0) (hb : b ≤ 80000) (hk : k ≤ 80000) (hN : N ≤ 1000) :
  Calls Tryz.prog 111 #[.slice ao N cap, .slice ap N cp, .int .i64 (q : Int)] w fun e w' => ∃ a1 c1 a2 c2 first rest, e = .returned (.tuple #[.slice a1 N c1, .slice a2 N c2]) ∧ VF w' a1 N c1 first (k + b + 1) ∧ VF w' a2 N c2 rest (k + b + 1) ∧ Joined zs ys q first rest ∧ Below w.heap.size w w' := by
 obtain ⟨t1, t2, t3, t4⟩ := ext_tells (zs.getD q 0) (ys.getD q 0);have hg0 : 0 < extG (zs.getD q 0) (ys.getD q 0) := by
  rw [t1];have := Int.gcd_pos_of_ne_zero_left (ys.getD q 0) (show zs.getD q 0 ≠ 0 by omega);omega
 have H0 := zh (show extG (zs.getD q 0) (ys.getD q 0) ≠ 0 by omega);have HLO := zh (longest_two h.len_eq h2.len_eq).symm;have HR1 : Hid (∀ i, ([[extX (zs.getD q 0) (ys.getD q 0), extY (zs.getD q 0) (ys.getD q 0)], [-((ys.getD q 0).tdiv (extG (zs.getD q 0) (ys.getD q 0))), (zs.getD q 0).tdiv (extG (zs.getD q 0) (ys.getD q 0))]].getD i []).length ≤ 1000) := zh fun i => by
  match i with
  | 0 => simp
  | 1 => simp
  | i + 2 => simp
 have HR2 : Hid (∀ i, ([zs, ys].getD i []).length ≤ 1000) := zh fun i => by
  match i with
  | 0 => have := h.len_eq; simp; omega
  | 1 => have := h2.len_eq; simp; omega
  | i + 2 => simp
 have hmk : max b k + 1 ≤ 80001 := by omega
 have hsz : ∀ j, (zs.getD j 0).natAbs < Bp b := vf_size h;have hsy : ∀ j, (ys.getD j 0).natAbs < Bp k := vf_size h2;have hd1 : (zs.getD q 0).tdiv (extG (zs.getD q 0) (ys.getD q 0)) * extG (zs.getD q 0) (ys.getD q 0) = zs.getD q 0 := Int.tdiv_mul_cancel (by rw [t1]; exact Int.gcd_dvd_left _ _);have hd2 : (ys.getD q 0).tdiv (extG (zs.getD q 0) (ys.getD q 0)) * extG (zs.getD q 0) (ys.getD q 0) = ys.getD q 0 := Int.tdiv_mul_cancel (by rw [t1]; exact Int.gcd_dvd_right _ _);have HS1 : Hid (∀ j, ((vprod [extX (zs.getD q 0) (ys.getD q 0), extY (zs.getD q 0) (ys.getD q 0)] [zs, ys]).getD j 0).natAbs < Bp (k + b + 1)) := zh fun j => by
  rw [prod_two];exact two_lt (by have := hsy q; omega) (by have := hsz q; omega) (hsz j) (hsy j)
 have HS2 : Hid (∀ j, ((vprod [-((ys.getD q 0).tdiv (extG (zs.getD q 0) (ys.getD q 0))), (zs.getD q 0).tdiv (extG (zs.getD q 0) (ys.getD q 0))] [zs, ys]).getD j 0).natAbs < Bp (k + b + 1)) := zh fun j => by
  rw [prod_two];have e1 := tdiv_abs_le (ys.getD q 0) (extG (zs.getD q 0) (ys.getD q 0));have e2 := tdiv_abs_le (zs.getD q 0) (extG (zs.getD q 0) (ys.getD q 0));exact two_lt (by rw [Int.natAbs_neg]; have := hsy q; omega) (by have := hsz q; omega) (hsz j) (hsy j)
 have HJ0 : Hid (Joined zs ys q (vprod [extX (zs.getD q 0) (ys.getD q 0), extY (zs.getD q 0) (ys.getD q 0)] [zs, ys]) (vprod [-((ys.getD q 0).tdiv (extG (zs.getD q 0) (ys.getD q 0))), (zs.getD q 0).tdiv (extG (zs.getD q 0) (ys.getD q 0))] [zs, ys])) := zh (joined_of hz0 hy0 hg0 hd1.symm hd2.symm (by rw [t2, t1]) (fun j => prod_two _ _ _ _ _) (fun j => prod_two _ _ _ _ _));clear t1 t2 t3 t4 hg0 hz _hy hz0 hy0 hd1 hd2 hsz hsy;obtain ⟨g1, o1, rfl⟩ := h.some (by omega);obtain ⟨g2, o2, rfl⟩ := h2.some (by omega);obtain ⟨b1, a1, l1, c1, E1, y1⟩ := h.at hqN;obtain ⟨b2, a2, l2, c2, E2, y2⟩ := h2.at hqN;have hk9 : b ≤ 999990 := by omega
 have hk8 : k ≤ 999990 := by omega
 replace y1 := y1.ik hk9;replace y2 := y2.ik hk8;have hp2 : (q : Int) < (N : Int) := by omega
 have hp0 : (0 : Int) ≤ (q : Int) := by omega
 have HB := zh (Below.refl w.heap.size w);go_enter Tryz.func111, Tryz.ntmps111
 go_upto_region 1 with fail
 have HW : Below w.heap.size w w.drew := (Below.refl _ _).drew;have HS := zh fun w' (HW : Below w.heap.size w w') => con4 (E1.za HW).zb.1 (E1.za HW).zb.2 (E2.za HW).zb.1 (E2.za HW).zb.2;refine zst HS HW 16 (by kernel_rfl) fun zH => ?_;obtain ⟨vd1, hvd⟩ : ∃ v, v = w.drew := ⟨_, rfl⟩;rw [← hvd] at HW zH ⊢;clear hvd;refine zfl 0 rfl ?_;simp only [Act.put, aGet, aZero, aSet, aHead, aTail];refine zfl 1 rfl ?_;simp only [zP];refine ztm 2 rfl ?_;simp only [zP];refine ztm 3 rfl ?_;simp only [zP];refine zfl 4 rfl ?_;simp only [zP];refine zfl 5 rfl ?_;simp only [zP];refine ztm 6 rfl ?_;simp only [zP];refine ztm 7 rfl ?_;simp only [zP];refine znm (fun act0 hact0 => ?_);have HA := zh hact0;clear hact0;refine zmd 3 #[tT, tT, tT, tT, tT, tT, tT, tT, tT, tT, tT, tT, tT, tT, tT, tT, tF, tF, tF] (ι := Bool × Option Addr × Nat × Nat × Bool × Option Addr × Nat × Nat × Bool × Option Addr × Nat × Nat × Nat × Nat × Nat) (fun (b3, a3, l3, c3, b4, a4, l4, c4, b5, a5, l5, c5, g7, g8, g9) => ((((((((act0.put (some 27) (.tuple #[.agg #[.bool b3, .slice a3 l3 c3], .agg #[.bool b4, .slice a4 l4 c4], .agg #[.bool b5, .slice a5 l5 c5]])).put (some 18) (.tuple #[.agg #[.bool b3, .slice a3 l3 c3], .agg #[.bool b4, .slice a4 l4 c4], .agg #[.bool b5, .slice a5 l5 c5]])).put (some 28) (.agg #[.bool b3, .slice a3 l3 c3])).put (some 29) (.agg #[.bool b4, .slice a4 l4 c4])).put (some 30) (.agg #[.bool b5, .slice a5 l5 c5])).put (some 8) ((.pointer (some ⟨g7, 0, none⟩)))).put (some 9) ((.pointer (some ⟨g8, 0, none⟩)))).put (some 10) ((.pointer (some ⟨g9, 0, none⟩))))) (fun (b3, a3, l3, c3, b4, a4, l4, c4, b5, a5, l5, c5, g7, g8, g9) wz => Below w.heap.size w wz ∧ FK wz b3 a3 l3 c3 (extG (zs.getD q 0) (ys.getD q 0)) (max b k + 1) ∧ FK wz b4 a4 l4 c4 (extX (zs.getD q 0) (ys.getD q 0)) (max b k + 1) ∧ FK wz b5 a5 l5 c5 (extY (zs.getD q 0) (ys.getD q 0)) (max b k + 1) ∧ Box wz g7 false none 0 0 ∧ w.heap.size ≤ g7 ∧ Box wz g8 false none 0 0 ∧ w.heap.size ≤ g8 ∧ Box wz g9 false none 0 0 ∧ w.heap.size ≤ g9 ∧ g7 ≠ g8 ∧ g7 ≠ g9 ∧ g8 ≠ g9) ?_ (fun J0 => ?_)
 ·rintro ⟨b3, a3, l3, c3, b4, a4, l4, c4, b5, a5, l5, c5, g7, g8, g9⟩ wj hI
  try dsimp only at hI ⊢
  obtain ⟨HW, h3, h4, h5, B7, hg7, B8, hg8, B9, hg9, hneg7g8, hneg7g9, hneg8g9⟩ := hI;have zH := zu HS _ HW;rw [zu HA];simp only [Act.put, aSet, aHead, aTail];obtain ⟨q1B7, q2B7, q3B7, q4B7⟩ := B7.zb;have hltB7 := B7.lt;obtain ⟨q1B8, q2B8, q3B8, q4B8⟩ := B8.zb;have hltB8 := B8.lt;obtain ⟨q1B9, q2B9, q3B9, q4B9⟩ := B9.zb;have hltB9 := B9.lt;refine tout 16 rfl fun K hK => ?_;go_simp;refine hK.out _ _ ?_;clear hK K
  try simp only [aSet, aHead, aTail]
  refine tout 17 rfl fun K hK => ?_;go_simp;refine hK.out _ _ ?_;clear hK K
  try simp only [aSet, aHead, aTail]
  refine tout 18 rfl fun K hK => ?_;go_simp;refine hK.out _ _ ?_;clear hK K
  try simp only [aSet, aHead, aTail]
  refine zdn (by kernel_rfl) ?_ _;have ng7 := B7.noLimb;have ng8 := (B8.other (g' := g7) (Ne.symm hneg7g8) b3 a3 l3 c3).noLimb;have ng9 := ((B9.other (g' := g7) (Ne.symm hneg7g9) b3 a3 l3 c3).other (g' := g8) (Ne.symm hneg8g9) b4 a4 l4 c4).noLimb;obtain ⟨W1, hWe⟩ : ∃ W', W' = ((((((wj.setCell ⟨g7, 0, none⟩ (.bool b3)).setCell ⟨g7, 1, none⟩ (.slice a3 l3 c3)).setCell ⟨g8, 0, none⟩ (.bool b4)).setCell ⟨g8, 1, none⟩ (.slice a4 l4 c4)).setCell ⟨g9, 0, none⟩ (.bool b5)).setCell ⟨g9, 1, none⟩ (.slice a5 l5 c5)) := ⟨_, rfl⟩;rw [← hWe];have Qg7 : Box W1 g7 b3 a3 l3 c3 := by rw [hWe]; exact (((B7.put b3 a3 l3 c3).other (g' := g8) hneg7g8 b4 a4 l4 c4).other (g' := g9) hneg7g9 b5 a5 l5 c5)
  have Qg8 : Box W1 g8 b4 a4 l4 c4 := by rw [hWe]; exact (((B8.other (g' := g7) (Ne.symm hneg7g8) b3 a3 l3 c3).put b4 a4 l4 c4).other (g' := g9) hneg8g9 b5 a5 l5 c5)
  have Qg9 : Box W1 g9 b5 a5 l5 c5 := by rw [hWe]; exact (((B9.other (g' := g7) (Ne.symm hneg7g9) b3 a3 l3 c3).other (g' := g8) (Ne.symm hneg8g9) b4 a4 l4 c4).put b5 a5 l5 c5)
  replace h3 : FK W1 b3 a3 l3 c3 (extG (zs.getD q 0) (ys.getD q 0)) (max b k + 1) := by rw [hWe]; exact (((h3.put ng7 b3 a3 l3 c3).put ng8 b4 a4 l4 c4).put ng9 b5 a5 l5 c5)
  replace h4 : FK W1 b4 a4 l4 c4 (extX (zs.getD q 0) (ys.getD q 0)) (max b k + 1) := by rw [hWe]; exact (((h4.put ng7 b3 a3 l3 c3).put ng8 b4 a4 l4 c4).put ng9 b5 a5 l5 c5)
  replace h5 : FK W1 b5 a5 l5 c5 (extY (zs.getD q 0) (ys.getD q 0)) (max b k + 1) := by rw [hWe]; exact (((h5.put ng7 b3 a3 l3 c3).put ng8 b4 a4 l4 c4).put ng9 b5 a5 l5 c5)
  have HC : Below w.heap.size w W1 := by rw [hWe]; exact (below_put (below_put (below_put HW hg7 _ _ _ _) hg8 _ _ _ _) hg9 _ _ _ _)
  clear hWe HW zH B7 B8 B9 ng7 ng8 ng9 q1B7  q2B7  q3B7  q4B7  q1B8  q2B8  q3B8  q4B8  q1B9  q2B9  q3B9  q4B9 hltB7 hltB8 hltB9;replace h := h.za HC;replace h2 := h2.za HC;replace E1 := E1.za HC;replace E2 := E2.za HC;replace y1 := y1.za HC;replace y2 := y2.za HC;replace HB := zh (Below.step (zu HB) HC);clear HC
  go_upto_region 2 with fail
  have HW : Below W1.heap.size W1 W1.drew := (Below.refl _ _).drew;have HS := zh fun w' (HW : Below W1.heap.size W1 w') => con4 (E1.za HW).zb.1 (E1.za HW).zb.2 (Qg7.za HW).zb.1 (Qg7.za HW).zb.2.1;refine zst HS HW 12 (by kernel_rfl) fun zH => ?_;obtain ⟨vd1, hvd⟩ : ∃ v, v = W1.drew := ⟨_, rfl⟩;rw [← hvd] at HW zH ⊢;clear hvd;refine zfl 0 rfl ?_;simp only [Act.put, aGet, aZero, aSet, aHead, aTail];refine zfl 1 rfl ?_;simp only [zP];refine ztm 2 rfl ?_;simp only [zP];refine ztm 3 rfl ?_;simp only [zP];refine ztm 4 rfl ?_;simp only [zP];refine znm (fun act0 hact0 => ?_);have HA := zh hact0;clear hact0;refine zmd 3 #[tT, tT, tT, tT, tT, tT, tT, tT, tT, tT, tT, tT, tF, tF, tF] (ι := Bool × Option Addr × Nat × Nat × Bool × Option Addr × Nat × Nat × Nat × Nat) (fun (b11, a11, l11, c11, b12, a12, l12, c12, g11, g12) => (((((((act0.put (some 37) (.tuple #[.agg #[.bool b11, .slice a11 l11 c11], .agg #[.bool b12, .slice a12 l12 c12], .bool true])).put (some 31) (.tuple #[.agg #[.bool b11, .slice a11 l11 c11], .agg #[.bool b12, .slice a12 l12 c12], .bool true])).put (some 38) (.agg #[.bool b11, .slice a11 l11 c11])).put (some 39) (.agg #[.bool b12, .slice a12 l12 c12])).put (some 40) (.bool true)).put (some 11) ((.pointer (some ⟨g11, 0, none⟩)))).put (some 12) ((.pointer (some ⟨g12, 0, none⟩))))) (fun (b11, a11, l11, c11, b12, a12, l12, c12, g11, g12) wz => Below W1.heap.size W1 wz ∧ FK wz b11 a11 l11 c11 ((zs.getD q 0).tdiv (extG (zs.getD q 0) (ys.getD q 0))) b ∧ FK wz b12 a12 l12 c12 ((zs.getD q 0).tmod (extG (zs.getD q 0) (ys.getD q 0))) (max b k + 1) ∧ Box wz g11 false none 0 0 ∧ W1.heap.size ≤ g11 ∧ Box wz g12 false none 0 0 ∧ W1.heap.size ≤ g12 ∧ g11 ≠ g12) ?_ (fun J0 => ?_)
  ·rintro ⟨b11, a11, l11, c11, b12, a12, l12, c12, g11, g12⟩ wj hI
   try dsimp only at hI ⊢
   obtain ⟨HW, h11, h12, B11, hg11, B12, hg12, hneg11g12⟩ := hI;have zH := zu HS _ HW;rw [zu HA];simp only [Act.put, aSet, aHead, aTail];obtain ⟨q1B11, q2B11, q3B11, q4B11⟩ := B11.zb;have hltB11 := B11.lt;obtain ⟨q1B12, q2B12, q3B12, q4B12⟩ := B12.zb;have hltB12 := B12.lt;refine tout 12 rfl fun K hK => ?_;go_simp;refine hK.out _ _ ?_;clear hK K
   try simp only [aSet, aHead, aTail]
   refine tout 13 rfl fun K hK => ?_;go_simp;refine hK.out _ _ ?_;clear hK K
   try simp only [aSet, aHead, aTail]
   refine tout 14 rfl fun K hK => ?_;go_simp;refine hK.out _ _ ?_;clear hK K
   try simp only [aSet, aHead, aTail]
   refine zdn (by kernel_rfl) ?_ _;have ng11 := B11.noLimb;have ng12 := (B12.other (g' := g11) (Ne.symm hneg11g12) b11 a11 l11 c11).noLimb;obtain ⟨W2, hWe⟩ : ∃ W', W' = ((((wj.setCell ⟨g11, 0, none⟩ (.bool b11)).setCell ⟨g11, 1, none⟩ (.slice a11 l11 c11)).setCell ⟨g12, 0, none⟩ (.bool b12)).setCell ⟨g12, 1, none⟩ (.slice a12 l12 c12)) := ⟨_, rfl⟩;rw [← hWe];have Qg11 : Box W2 g11 b11 a11 l11 c11 := by rw [hWe]; exact ((B11.put b11 a11 l11 c11).other (g' := g12) hneg11g12 b12 a12 l12 c12)
   have Qg12 : Box W2 g12 b12 a12 l12 c12 := by rw [hWe]; exact ((B12.other (g' := g11) (Ne.symm hneg11g12) b11 a11 l11 c11).put b12 a12 l12 c12)
   replace h11 : FK W2 b11 a11 l11 c11 ((zs.getD q 0).tdiv (extG (zs.getD q 0) (ys.getD q 0))) b := by rw [hWe]; exact ((h11.put ng11 b11 a11 l11 c11).put ng12 b12 a12 l12 c12)
   replace h12 : FK W2 b12 a12 l12 c12 ((zs.getD q 0).tmod (extG (zs.getD q 0) (ys.getD q 0))) (max b k + 1) := by rw [hWe]; exact ((h12.put ng11 b11 a11 l11 c11).put ng12 b12 a12 l12 c12)
   have HC : Below W1.heap.size W1 W2 := by rw [hWe]; exact (below_put (below_put HW hg11 _ _ _ _) hg12 _ _ _ _)
   clear hWe HW zH B11 B12 ng11 ng12 q1B11  q2B11  q3B11  q4B11  q1B12  q2B12  q3B12  q4B12 hltB11 hltB12;replace h := h.za HC;replace h2 := h2.za HC;replace E1 := E1.za HC;replace E2 := E2.za HC;replace y1 := y1.za HC;replace y2 := y2.za HC;replace Qg7 := Qg7.za HC;replace Qg8 := Qg8.za HC;replace Qg9 := Qg9.za HC;replace h3 := h3.za HC;replace h4 := h4.za HC;replace h5 := h5.za HC;replace HB := zh (Below.step (zu HB) HC);clear HC;clear Qg12 h12
   go_upto_region 3 with fail
   have HW : Below W2.heap.size W2 W2.drew := (Below.refl _ _).drew;have HS := zh fun w' (HW : Below W2.heap.size W2 w') => con4 (E2.za HW).zb.1 (E2.za HW).zb.2 (Qg7.za HW).zb.1 (Qg7.za HW).zb.2.1;refine zst HS HW 12 (by kernel_rfl) fun zH => ?_;obtain ⟨vd1, hvd⟩ : ∃ v, v = W2.drew := ⟨_, rfl⟩;rw [← hvd] at HW zH ⊢;clear hvd;refine zfl 0 rfl ?_;simp only [Act.put, aGet, aZero, aSet, aHead, aTail];refine zfl 1 rfl ?_;simp only [zP];refine ztm 2 rfl ?_;simp only [zP];refine ztm 3 rfl ?_;simp only [zP];refine ztm 4 rfl ?_;simp only [zP];refine znm (fun act0 hact0 => ?_);have HA := zh hact0;clear hact0;refine zmd 3 #[tT, tT, tT, tT, tT, tT, tT, tT, tT, tT, tT, tT, tF, tF, tF] (ι := Bool × Option Addr × Nat × Nat × Bool × Option Addr × Nat × Nat × Nat × Nat) (fun (b14, a14, l14, c14, b15, a15, l15, c15, g14, g15) => (((((((act0.put (some 47) (.tuple #[.agg #[.bool b14, .slice a14 l14 c14], .agg #[.bool b15, .slice a15 l15 c15], .bool true])).put (some 41) (.tuple #[.agg #[.bool b14, .slice a14 l14 c14], .agg #[.bool b15, .slice a15 l15 c15], .bool true])).put (some 48) (.agg #[.bool b14, .slice a14 l14 c14])).put (some 49) (.agg #[.bool b15, .slice a15 l15 c15])).put (some 50) (.bool true)).put (some 14) ((.pointer (some ⟨g14, 0, none⟩)))).put (some 15) ((.pointer (some ⟨g15, 0, none⟩))))) (fun (b14, a14, l14, c14, b15, a15, l15, c15, g14, g15) wz => Below W2.heap.size W2 wz ∧ FK wz b14 a14 l14 c14 ((ys.getD q 0).tdiv (extG (zs.getD q 0) (ys.getD q 0))) k ∧ FK wz b15 a15 l15 c15 ((ys.getD q 0).tmod (extG (zs.getD q 0) (ys.getD q 0))) (max b k + 1) ∧ Box wz g14 false none 0 0 ∧ W2.heap.size ≤ g14 ∧ Box wz g15 false none 0 0 ∧ W2.heap.size ≤ g15 ∧ g14 ≠ g15) ?_ (fun J0 => ?_)
   ·rintro ⟨b14, a14, l14, c14, b15, a15, l15, c15, g14, g15⟩ wj hI
    try dsimp only at hI ⊢
    obtain ⟨HW, h14, h15, B14, hg14, B15, hg15, hneg14g15⟩ := hI;have zH := zu HS _ HW;rw [zu HA];simp only [Act.put, aSet, aHead, aTail];obtain ⟨q1B14, q2B14, q3B14, q4B14⟩ := B14.zb;have hltB14 := B14.lt;obtain ⟨q1B15, q2B15, q3B15, q4B15⟩ := B15.zb;have hltB15 := B15.lt;refine tout 12 rfl fun K hK => ?_;go_simp;refine hK.out _ _ ?_;clear hK K
    try simp only [aSet, aHead, aTail]
    refine tout 13 rfl fun K hK => ?_;go_simp;refine hK.out _ _ ?_;clear hK K
    try simp only [aSet, aHead, aTail]
    refine tout 14 rfl fun K hK => ?_;go_simp;refine hK.out _ _ ?_;clear hK K
    try simp only [aSet, aHead, aTail]
    refine zdn (by kernel_rfl) ?_ _;have ng14 := B14.noLimb;have ng15 := (B15.other (g' := g14) (Ne.symm hneg14g15) b14 a14 l14 c14).noLimb;obtain ⟨W3, hWe⟩ : ∃ W', W' = ((((wj.setCell ⟨g14, 0, none⟩ (.bool b14)).setCell ⟨g14, 1, none⟩ (.slice a14 l14 c14)).setCell ⟨g15, 0, none⟩ (.bool b15)).setCell ⟨g15, 1, none⟩ (.slice a15 l15 c15)) := ⟨_, rfl⟩;rw [← hWe];have Qg14 : Box W3 g14 b14 a14 l14 c14 := by rw [hWe]; exact ((B14.put b14 a14 l14 c14).other (g' := g15) hneg14g15 b15 a15 l15 c15)
    have Qg15 : Box W3 g15 b15 a15 l15 c15 := by rw [hWe]; exact ((B15.other (g' := g14) (Ne.symm hneg14g15) b14 a14 l14 c14).put b15 a15 l15 c15)
    replace h14 : FK W3 b14 a14 l14 c14 ((ys.getD q 0).tdiv (extG (zs.getD q 0) (ys.getD q 0))) k := by rw [hWe]; exact ((h14.put ng14 b14 a14 l14 c14).put ng15 b15 a15 l15 c15)
    replace h15 : FK W3 b15 a15 l15 c15 ((ys.getD q 0).tmod (extG (zs.getD q 0) (ys.getD q 0))) (max b k + 1) := by rw [hWe]; exact ((h15.put ng14 b14 a14 l14 c14).put ng15 b15 a15 l15 c15)
    have HC : Below W2.heap.size W2 W3 := by rw [hWe]; exact (below_put (below_put HW hg14 _ _ _ _) hg15 _ _ _ _)
    clear hWe HW zH B14 B15 ng14 ng15 q1B14  q2B14  q3B14  q4B14  q1B15  q2B15  q3B15  q4B15 hltB14 hltB15;replace h := h.za HC;replace h2 := h2.za HC;replace E1 := E1.za HC;replace E2 := E2.za HC;replace y1 := y1.za HC;replace y2 := y2.za HC;replace Qg7 := Qg7.za HC;replace Qg8 := Qg8.za HC;replace Qg9 := Qg9.za HC;replace h3 := h3.za HC;replace h4 := h4.za HC;replace h5 := h5.za HC;replace Qg11 := Qg11.za HC;replace h11 := h11.za HC;replace HB := zh (Below.step (zu HB) HC);clear HC;clear Qg15 h15 h3 Qg7 E1 E2 y1 y2
    go_upto_region 4 with fail
    have HW : Below W3.heap.size W3 W3.drew := (Below.refl _ _).drew;have HS := zh fun w' (HW : Below W3.heap.size W3 w') => con8 (Qg8.za HW).zb.1 (Qg8.za HW).zb.2.1 (Qg9.za HW).zb.1 (Qg9.za HW).zb.2.1 (Qg14.za HW).zb.1 (Qg14.za HW).zb.2.1 (Qg11.za HW).zb.1 (Qg11.za HW).zb.2.1;refine zst HS HW 12 (by kernel_rfl) fun zH => ?_;obtain ⟨vd1, hvd⟩ : ∃ v, v = W3.drew := ⟨_, rfl⟩;rw [← hvd] at HW zH ⊢;clear hvd;refine ztm 0 rfl ?_;simp only [Act.put, aGet, aZero, aSet, aHead, aTail];refine ztm 1 rfl ?_;simp only [zP];refine ztm 3 rfl ?_;simp only [zP];refine ztm 5 rfl ?_;simp only [zP];refine zfl 8 rfl ?_;simp only [zP];refine zfl 9 rfl ?_;simp only [zP];refine znm (fun act0 hact0 => ?_);have HA := zh hact0;clear hact0;refine zmd 1 #[tT, tT, tT, tT, tT, tT, tT, tT, tT, tT, tT, tT, tF] (ι := Nat × Bool × Option Addr × Nat × Nat × Nat × Nat × Nat × Option Addr × Nat) (fun (g20, b16, a16, l16, c16, g21, g22, g23, a30, c30) => ((((((act0.put (some 53) ((.slice (some ⟨g20, 0, none⟩) 2 2))).put (some 55) (.agg #[.bool b16, .slice a16 l16 c16])).put (some 57) ((.slice (some ⟨g21, 0, none⟩) 2 2))).put (some 58) ((.slice (some ⟨g22, 0, none⟩) 2 2))).put (some 61) ((.slice (some ⟨g23, 0, none⟩) 2 2))).put (some 62) ((.slice a30 2 c30)))) (fun (g20, b16, a16, l16, c16, g21, g22, g23, a30, c30) wz => Below W3.heap.size W3 wz ∧ MF wz a30 2 c30 [vprod [extX (zs.getD q 0) (ys.getD q 0), extY (zs.getD q 0) (ys.getD q 0)] [zs, ys], vprod [-((ys.getD q 0).tdiv (extG (zs.getD q 0) (ys.getD q 0))), (zs.getD q 0).tdiv (extG (zs.getD q 0) (ys.getD q 0))] [zs, ys]] ((max b k + 1) + (max b k + 1) + 2)) ?_ (fun J0 => ?_)
    ·rintro ⟨g20, b16, a16, l16, c16, g21, g22, g23, a30, c30⟩ wj hI
     try dsimp only at hI ⊢
     obtain ⟨HW, m5⟩ := hI;have zH := zu HS _ HW;rw [zu HA];simp only [Act.put, aSet, aHead, aTail];refine tout 12 rfl fun K hK => ?_;go_simp;refine hK.out _ _ ?_;clear hK K
     try simp only [aSet, aHead, aTail]
     refine zdn (by kernel_rfl) ?_ _;replace HB := zh (Below.step (zu HB) HW);clear HW zH;obtain ⟨g30, o30, rfl⟩ := RowsOf.addr (R := fun w a l c zs => VF w a l c zs ((max b k + 1) + (max b k + 1) + 2)) m5 (by omega);obtain ⟨hg30, a31, l31, c31, x31, v31⟩ := RowsOf.at (R := fun w a l c zs => VF w a l c zs ((max b k + 1) + (max b k + 1) + 2)) m5 (show 0 < 2 by omega);obtain ⟨_, a32, l32, c32, x32, v32⟩ := RowsOf.at (R := fun w a l c zs => VF w a l c zs ((max b k + 1) + (max b k + 1) + 2)) m5 (show 1 < 2 by omega);rw [Nat.add_zero] at x31;have l31e : N = l31 := by rw [← v31.len_eq]; show N = (vprod _ [zs, ys]).length; rw [vprod_len]; exact zu HLO
     have l32e : N = l32 := by rw [← v32.len_eq]; show N = (vprod _ [zs, ys]).length; rw [vprod_len]; exact zu HLO
     subst l31e;subst l32e;clear m5;obtain ⟨first, efirst⟩ : ∃ v, v = vprod [extX (zs.getD q 0) (ys.getD q 0), extY (zs.getD q 0) (ys.getD q 0)] [zs, ys] := ⟨_, rfl⟩;obtain ⟨rest, erest⟩ : ∃ v, v = vprod [-((ys.getD q 0).tdiv (extG (zs.getD q 0) (ys.getD q 0))), (zs.getD q 0).tdiv (extG (zs.getD q 0) (ys.getD q 0))] [zs, ys] := ⟨_, rfl⟩;replace v31 := vf_tight (k := k + b + 1) (show VF _ _ _ _ first _ by rw [efirst]; exact v31) (fun j hj => by rw [efirst]; exact zu HS1 j);replace v32 := vf_tight (k := k + b + 1) (show VF _ _ _ _ rest _ by rw [erest]; exact v32) (fun j hj => by rw [erest]; exact zu HS2 j);have HJ := zh (show Joined zs ys q first rest by rw [efirst, erest]; exact zu HJ0);clear efirst erest;obtain ⟨w4, ew4⟩ : ∃ w4, w4 = wj := ⟨_, rfl⟩;rw [← ew4] at v31 v32 x31 x32 hg30 HB ⊢;clear ew4;have HC : Below w4.heap.size w4 w4.drew := (Below.refl _ _).drew
     go_upto_region 5 with fail
     refine zts (fun w' => w'.cell? ⟨g30, o30, none⟩ = some (.slice a31 N c31) ∧ w'.cell? ⟨g30, o30 + 1, none⟩ = some (.slice a32 N c32)) 7 (by kernel_rfl) ?_ (fun zH => ?_)
     ·exact ⟨(HC.cell (p := ⟨g30, o30, none⟩) hg30).trans x31, (HC.cell (p := ⟨g30, o30 + 1, none⟩) hg30).trans x32⟩
     refine ztl 0 rfl ?_;simp only [Act.put, aGet, aZero, aSet, aHead, aTail];refine ztl 1 rfl ?_;simp only [zP];refine ztl 2 rfl ?_;simp only [zP];refine ztl 3 rfl ?_;simp only [zP];refine ztl 4 rfl ?_;simp only [zP];refine ztl 5 rfl ?_;simp only [zP];refine tin 6 rfl fun K hK => ?_;go_simp;refine hK.out _ _ ?_ (fun zH => ?_)
     ·exact ⟨(HC.cell (p := ⟨g30, o30, none⟩) hg30).trans x31, (HC.cell (p := ⟨g30, o30 + 1, none⟩) hg30).trans x32⟩
     clear hK K
     try simp only [zP]
     refine tout 7 rfl fun K hK => ?_;go_simp;refine hK.out _ _ ?_;clear hK K
     try simp only [zP]
     refine zdn (by kernel_rfl) ?_ _;go_wp2;refine bodyPost_ret (v := .tuple #[.slice a31 N c31, .slice a32 N c32]) (by simp [results, Tryz.results111, go_sem, *]) rfl ?_;exact ⟨_, _, _, _, first, rest, rfl, v31.za HC, v32.za HC, zu HJ, Below.step (zu HB) HC⟩
    refine zmd 2 #[tT, tT, tT, tT, tT, tT, tT, tT, tT, tT, tT, tF, tF] (ι := Nat × Bool × Option Addr × Nat × Nat × Nat × Nat × Nat) (fun (g20, b16, a16, l16, c16, g21, g22, g23) => (((((act0.put (some 53) ((.slice (some ⟨g20, 0, none⟩) 2 2))).put (some 55) (.agg #[.bool b16, .slice a16 l16 c16])).put (some 57) ((.slice (some ⟨g21, 0, none⟩) 2 2))).put (some 58) ((.slice (some ⟨g22, 0, none⟩) 2 2))).put (some 61) ((.slice (some ⟨g23, 0, none⟩) 2 2)))) (fun (g20, b16, a16, l16, c16, g21, g22, g23) wz => Below W3.heap.size W3 wz ∧ MF wz (some ⟨g22, 0, none⟩) 2 2 [[extX (zs.getD q 0) (ys.getD q 0), extY (zs.getD q 0) (ys.getD q 0)], [-((ys.getD q 0).tdiv (extG (zs.getD q 0) (ys.getD q 0))), (zs.getD q 0).tdiv (extG (zs.getD q 0) (ys.getD q 0))]] (max b k + 1) ∧ MF wz (some ⟨g23, 0, none⟩) 2 2 [zs, ys] (max b k + 1)) ?_ (fun J1 => ?_)
    ·rintro ⟨g20, b16, a16, l16, c16, g21, g22, g23⟩ wj hI
     try dsimp only at hI ⊢
     obtain ⟨HW, m3, m4⟩ := hI;have zH := zu HS _ HW;rw [zu HA];simp only [Act.put, aSet, aHead, aTail];refine tin 11 rfl fun K hK => ?_;go_simp;refine (productK _ _ _ [[extX (zs.getD q 0) (ys.getD q 0), extY (zs.getD q 0) (ys.getD q 0)], [-((ys.getD q 0).tdiv (extG (zs.getD q 0) (ys.getD q 0))), (zs.getD q 0).tdiv (extG (zs.getD q 0) (ys.getD q 0))]] (max b k + 1) _ _ _ [zs, ys] (max b k + 1) 1000 _ (m3.mk (by omega)) (m4.mk (by omega)) (by omega) (by omega) (zu HR1) (zu HR2) (by omega) (by omega) (by omega)).mono ?_;rintro e wk ⟨a30, c30, rfl, m5, hb9⟩;replace HW := Below.step HW hb9;clear hb9 m3 m4;refine hK.out _ _ ?_ (fun zH => ?_)
     ·exact zu HS _ HW
     clear hK K
     try simp only [aSet, aHead, aTail]
     exact tgo J0 (g20, b16, a16, l16, c16, g21, g22, g23, a30, c30) (by (try dsimp only); rw [zu HA]; simp only [Act.put, aSet, aHead, aTail]) (by (try dsimp only); exact ⟨HW, m5⟩)
    refine zmd 3 #[tT, tT, tT, tT, tT, tT, tT, tF, tT, tT, tT, tF, tF] (ι := Nat × Bool × Option Addr × Nat × Nat × Nat × Nat) (fun (g20, b16, a16, l16, c16, g21, g23) => ((((act0.put (some 53) ((.slice (some ⟨g20, 0, none⟩) 2 2))).put (some 55) (.agg #[.bool b16, .slice a16 l16 c16])).put (some 57) ((.slice (some ⟨g21, 0, none⟩) 2 2))).put (some 61) ((.slice (some ⟨g23, 0, none⟩) 2 2)))) (fun (g20, b16, a16, l16, c16, g21, g23) wz => Below W3.heap.size W3 wz ∧ VF wz (some ⟨g20, 0, none⟩) 2 2 [extX (zs.getD q 0) (ys.getD q 0), extY (zs.getD q 0) (ys.getD q 0)] (max b k + 1) ∧ VF wz (some ⟨g21, 0, none⟩) 2 2 [-((ys.getD q 0).tdiv (extG (zs.getD q 0) (ys.getD q 0))), (zs.getD q 0).tdiv (extG (zs.getD q 0) (ys.getD q 0))] (max b k + 1) ∧ MF wz (some ⟨g23, 0, none⟩) 2 2 [zs, ys] (max b k + 1)) ?_ (fun J2 => ?_)
    ·rintro ⟨g20, b16, a16, l16, c16, g21, g23⟩ wj hI
     try dsimp only at hI ⊢
     obtain ⟨HW, m1, m2, m4⟩ := hI;have zH := zu HS _ HW;rw [zu HA];simp only [Act.put, aSet, aHead, aTail];refine tin 7 rfl fun K hK => ?_;go_simp;obtain ⟨wk, hWe⟩ : ∃ W', W' = wj.alloc (.cells #[.slice (some ⟨g20, 0, none⟩) 2 2, .slice (some ⟨g21, 0, none⟩) 2 2] 39) := ⟨_, rfl⟩;have hb9 : Below wj.heap.size wj wk := by rw [hWe]; exact below_new _ _
     have m3 : MF wk (some ⟨(wj.heap.size), 0, none⟩) 2 2 [[extX (zs.getD q 0) (ys.getD q 0), extY (zs.getD q 0) (ys.getD q 0)], [-((ys.getD q 0).tdiv (extG (zs.getD q 0) (ys.getD q 0))), (zs.getD q 0).tdiv (extG (zs.getD q 0) (ys.getD q 0))]] (max b k + 1) := by rw [hWe]; exact mf_two m1 m2
     rw [← hWe];clear hWe;replace HW := Below.step HW hb9;replace m4 := m4.za hb9;clear hb9 m1 m2;refine hK.out _ _ ?_ (fun zH => ?_)
     ·exact zu HS _ HW
     clear hK K
     try simp only [aSet, aHead, aTail]
     exact tgo J1 (g20, b16, a16, l16, c16, g21, wj.heap.size, g23) (by (try dsimp only); rw [zu HA]; simp only [Act.put, aSet, aHead, aTail]) (by (try dsimp only); exact ⟨HW, m3, m4⟩)
    refine zmd 3 #[tT, tT, tT, tT, tT, tT, tT, tT, tT, tT, tF, tF, tF] (ι := Nat × Bool × Option Addr × Nat × Nat × Nat × Nat) (fun (g20, b16, a16, l16, c16, g21, g22) => ((((act0.put (some 53) ((.slice (some ⟨g20, 0, none⟩) 2 2))).put (some 55) (.agg #[.bool b16, .slice a16 l16 c16])).put (some 57) ((.slice (some ⟨g21, 0, none⟩) 2 2))).put (some 58) ((.slice (some ⟨g22, 0, none⟩) 2 2)))) (fun (g20, b16, a16, l16, c16, g21, g22) wz => Below W3.heap.size W3 wz ∧ MF wz (some ⟨g22, 0, none⟩) 2 2 [[extX (zs.getD q 0) (ys.getD q 0), extY (zs.getD q 0) (ys.getD q 0)], [-((ys.getD q 0).tdiv (extG (zs.getD q 0) (ys.getD q 0))), (zs.getD q 0).tdiv (extG (zs.getD q 0) (ys.getD q 0))]] (max b k + 1)) ?_ (fun J3 => ?_)
    ·rintro ⟨g20, b16, a16, l16, c16, g21, g22⟩ wj hI
     try dsimp only at hI ⊢
     obtain ⟨HW, m3⟩ := hI;have zH := zu HS _ HW;rw [zu HA];simp only [Act.put, aSet, aHead, aTail];refine tin 10 rfl fun K hK => ?_;go_simp;obtain ⟨wk, hWe⟩ : ∃ W', W' = wj.alloc (.cells #[.slice (some ⟨g1, o1, none⟩) N cap, .slice (some ⟨g2, o2, none⟩) N cp] 39) := ⟨_, rfl⟩;have hb9 : Below wj.heap.size wj wk := by rw [hWe]; exact below_new _ _
     have m4 : MF wk (some ⟨(wj.heap.size), 0, none⟩) 2 2 [zs, ys] (max b k + 1) := by rw [hWe]; exact mf_two (vf_up (h.za HW) (by omega)) (vf_up (h2.za HW) (by omega))
     rw [← hWe];clear hWe;replace HW := Below.step HW hb9;replace m3 := m3.za hb9;clear hb9;refine hK.out _ _ ?_ (fun zH => ?_)
     ·exact zu HS _ HW
     clear hK K
     try simp only [aSet, aHead, aTail]
     exact tgo J1 (g20, b16, a16, l16, c16, g21, g22, wj.heap.size) (by (try dsimp only); rw [zu HA]; simp only [Act.put, aSet, aHead, aTail]) (by (try dsimp only); exact ⟨HW, m3, m4⟩)
    refine zmd 4 #[tT, tT, tF, tT, tT, tT, tT, tF, tT, tT, tT, tF, tF] (ι := Bool × Option Addr × Nat × Nat × Nat × Nat) (fun (b16, a16, l16, c16, g21, g23) => (((act0.put (some 55) (.agg #[.bool b16, .slice a16 l16 c16])).put (some 57) ((.slice (some ⟨g21, 0, none⟩) 2 2))).put (some 61) ((.slice (some ⟨g23, 0, none⟩) 2 2)))) (fun (b16, a16, l16, c16, g21, g23) wz => Below W3.heap.size W3 wz ∧ VF wz (some ⟨g21, 0, none⟩) 2 2 [-((ys.getD q 0).tdiv (extG (zs.getD q 0) (ys.getD q 0))), (zs.getD q 0).tdiv (extG (zs.getD q 0) (ys.getD q 0))] (max b k + 1) ∧ MF wz (some ⟨g23, 0, none⟩) 2 2 [zs, ys] (max b k + 1)) ?_ (fun J4 => ?_)
    ·rintro ⟨b16, a16, l16, c16, g21, g23⟩ wj hI
     try dsimp only at hI ⊢
     obtain ⟨HW, m2, m4⟩ := hI;have zH := zu HS _ HW;rw [zu HA];simp only [Act.put, aSet, aHead, aTail];refine tin 2 rfl fun K hK => ?_;go_simp;obtain ⟨wk, hWe⟩ : ∃ W', W' = wj.alloc (.cells #[.bool b4, .slice a4 l4 c4, .bool b5, .slice a5 l5 c5] 45) := ⟨_, rfl⟩;have hb9 : Below wj.heap.size wj wk := by rw [hWe]; exact below_new _ _
     have m1 : VF wk (some ⟨(wj.heap.size), 0, none⟩) 2 2 [extX (zs.getD q 0) (ys.getD q 0), extY (zs.getD q 0) (ys.getD q 0)] (max b k + 1) := by rw [hWe]; exact vec2 (R := fun wv dv av lv cv zv => FK wv dv av lv cv zv (max b k + 1)) rfl ((h4.za HW).za (below_new _ _)) ((h5.za HW).za (below_new _ _))
     rw [← hWe];clear hWe;replace HW := Below.step HW hb9;replace m2 := m2.za hb9;replace m4 := m4.za hb9;clear hb9;refine hK.out _ _ ?_ (fun zH => ?_)
     ·exact zu HS _ HW
     clear hK K
     try simp only [aSet, aHead, aTail]
     exact tgo J2 (wj.heap.size, b16, a16, l16, c16, g21, g23) (by (try dsimp only); rw [zu HA]; simp only [Act.put, aSet, aHead, aTail]) (by (try dsimp only); exact ⟨HW, m1, m2, m4⟩)
    refine zmd 4 #[tT, tT, tT, tT, tT, tT, tF, tF, tT, tT, tT, tF, tF] (ι := Nat × Bool × Option Addr × Nat × Nat × Nat) (fun (g20, b16, a16, l16, c16, g23) => (((act0.put (some 53) ((.slice (some ⟨g20, 0, none⟩) 2 2))).put (some 55) (.agg #[.bool b16, .slice a16 l16 c16])).put (some 61) ((.slice (some ⟨g23, 0, none⟩) 2 2)))) (fun (g20, b16, a16, l16, c16, g23) wz => Below W3.heap.size W3 wz ∧ VF wz (some ⟨g20, 0, none⟩) 2 2 [extX (zs.getD q 0) (ys.getD q 0), extY (zs.getD q 0) (ys.getD q 0)] (max b k + 1) ∧ FK wz b16 a16 l16 c16 (-((ys.getD q 0).tdiv (extG (zs.getD q 0) (ys.getD q 0)))) k ∧ MF wz (some ⟨g23, 0, none⟩) 2 2 [zs, ys] (max b k + 1)) ?_ (fun J5 => ?_)
    ·rintro ⟨g20, b16, a16, l16, c16, g23⟩ wj hI
     try dsimp only at hI ⊢
     obtain ⟨HW, m1, h16, m4⟩ := hI;have zH := zu HS _ HW;rw [zu HA];simp only [Act.put, aSet, aHead, aTail];refine tin 6 rfl fun K hK => ?_;go_simp;obtain ⟨wk, hWe⟩ : ∃ W', W' = wj.alloc (.cells #[.bool b16, .slice a16 l16 c16, .bool b11, .slice a11 l11 c11] 45) := ⟨_, rfl⟩;have hb9 : Below wj.heap.size wj wk := by rw [hWe]; exact below_new _ _
     have m2 : VF wk (some ⟨(wj.heap.size), 0, none⟩) 2 2 [-((ys.getD q 0).tdiv (extG (zs.getD q 0) (ys.getD q 0))), (zs.getD q 0).tdiv (extG (zs.getD q 0) (ys.getD q 0))] (max b k + 1) := by rw [hWe]; exact vec2 (R := fun wv dv av lv cv zv => FK wv dv av lv cv zv (max b k + 1)) rfl ((h16.za (below_new _ _)).up (by omega)) (((h11.za HW).za (below_new _ _)).up (by omega))
     rw [← hWe];clear hWe;replace HW := Below.step HW hb9;replace m1 := m1.za hb9;replace m4 := m4.za hb9;clear hb9 h16;refine hK.out _ _ ?_ (fun zH => ?_)
     ·exact zu HS _ HW
     clear hK K
     try simp only [aSet, aHead, aTail]
     exact tgo J2 (g20, b16, a16, l16, c16, wj.heap.size, g23) (by (try dsimp only); rw [zu HA]; simp only [Act.put, aSet, aHead, aTail]) (by (try dsimp only); exact ⟨HW, m1, m2, m4⟩)
    refine zmd 4 #[tT, tT, tT, tT, tT, tT, tT, tF, tT, tT, tF, tF, tF] (ι := Nat × Bool × Option Addr × Nat × Nat × Nat) (fun (g20, b16, a16, l16, c16, g21) => (((act0.put (some 53) ((.slice (some ⟨g20, 0, none⟩) 2 2))).put (some 55) (.agg #[.bool b16, .slice a16 l16 c16])).put (some 57) ((.slice (some ⟨g21, 0, none⟩) 2 2)))) (fun (g20, b16, a16, l16, c16, g21) wz => Below W3.heap.size W3 wz ∧ VF wz (some ⟨g20, 0, none⟩) 2 2 [extX (zs.getD q 0) (ys.getD q 0), extY (zs.getD q 0) (ys.getD q 0)] (max b k + 1) ∧ VF wz (some ⟨g21, 0, none⟩) 2 2 [-((ys.getD q 0).tdiv (extG (zs.getD q 0) (ys.getD q 0))), (zs.getD q 0).tdiv (extG (zs.getD q 0) (ys.getD q 0))] (max b k + 1)) ?_ (fun J6 => ?_)
    ·rintro ⟨g20, b16, a16, l16, c16, g21⟩ wj hI
     try dsimp only at hI ⊢
     obtain ⟨HW, m1, m2⟩ := hI;have zH := zu HS _ HW;rw [zu HA];simp only [Act.put, aSet, aHead, aTail];refine ttwo 7 10 rfl rfl (fun K hK => ?_) (fun K hK => ?_)
     ·go_simp;obtain ⟨wk, hWe⟩ : ∃ W', W' = wj.alloc (.cells #[.slice (some ⟨g20, 0, none⟩) 2 2, .slice (some ⟨g21, 0, none⟩) 2 2] 39) := ⟨_, rfl⟩;have hb9 : Below wj.heap.size wj wk := by rw [hWe]; exact below_new _ _
      have m3 : MF wk (some ⟨(wj.heap.size), 0, none⟩) 2 2 [[extX (zs.getD q 0) (ys.getD q 0), extY (zs.getD q 0) (ys.getD q 0)], [-((ys.getD q 0).tdiv (extG (zs.getD q 0) (ys.getD q 0))), (zs.getD q 0).tdiv (extG (zs.getD q 0) (ys.getD q 0))]] (max b k + 1) := by rw [hWe]; exact mf_two m1 m2
      rw [← hWe];clear hWe;replace HW := Below.step HW hb9;clear hb9 m1 m2;refine hK.out _ _ ?_ (fun zH => ?_)
      ·exact zu HS _ HW
      clear hK K
      try simp only [aSet, aHead, aTail]
      exact tgo J3 (g20, b16, a16, l16, c16, g21, wj.heap.size) (by (try dsimp only); rw [zu HA]; simp only [Act.put, aSet, aHead, aTail]) (by (try dsimp only); exact ⟨HW, m3⟩)
     ·go_simp;obtain ⟨wk, hWe⟩ : ∃ W', W' = wj.alloc (.cells #[.slice (some ⟨g1, o1, none⟩) N cap, .slice (some ⟨g2, o2, none⟩) N cp] 39) := ⟨_, rfl⟩;have hb9 : Below wj.heap.size wj wk := by rw [hWe]; exact below_new _ _
      have m4 : MF wk (some ⟨(wj.heap.size), 0, none⟩) 2 2 [zs, ys] (max b k + 1) := by rw [hWe]; exact mf_two (vf_up (h.za HW) (by omega)) (vf_up (h2.za HW) (by omega))
      rw [← hWe];clear hWe;replace HW := Below.step HW hb9;replace m1 := m1.za hb9;replace m2 := m2.za hb9;clear hb9;refine hK.out _ _ ?_ (fun zH => ?_)
      ·exact zu HS _ HW
      clear hK K
      try simp only [aSet, aHead, aTail]
      exact tgo J2 (g20, b16, a16, l16, c16, g21, wj.heap.size) (by (try dsimp only); rw [zu HA]; simp only [Act.put, aSet, aHead, aTail]) (by (try dsimp only); exact ⟨HW, m1, m2, m4⟩)
    refine zmd 5 #[tT, tT, tF, tT, tT, tT, tF, tF, tT, tT, tT, tF, tF] (ι := Bool × Option Addr × Nat × Nat × Nat) (fun (b16, a16, l16, c16, g23) => ((act0.put (some 55) (.agg #[.bool b16, .slice a16 l16 c16])).put (some 61) ((.slice (some ⟨g23, 0, none⟩) 2 2)))) (fun (b16, a16, l16, c16, g23) wz => Below W3.heap.size W3 wz ∧ FK wz b16 a16 l16 c16 (-((ys.getD q 0).tdiv (extG (zs.getD q 0) (ys.getD q 0)))) k ∧ MF wz (some ⟨g23, 0, none⟩) 2 2 [zs, ys] (max b k + 1)) ?_ (fun J7 => ?_)
    ·rintro ⟨b16, a16, l16, c16, g23⟩ wj hI
     try dsimp only at hI ⊢
     obtain ⟨HW, h16, m4⟩ := hI;have zH := zu HS _ HW;rw [zu HA];simp only [Act.put, aSet, aHead, aTail];refine ttwo 2 6 rfl rfl (fun K hK => ?_) (fun K hK => ?_)
     ·go_simp;obtain ⟨wk, hWe⟩ : ∃ W', W' = wj.alloc (.cells #[.bool b4, .slice a4 l4 c4, .bool b5, .slice a5 l5 c5] 45) := ⟨_, rfl⟩;have hb9 : Below wj.heap.size wj wk := by rw [hWe]; exact below_new _ _
      have m1 : VF wk (some ⟨(wj.heap.size), 0, none⟩) 2 2 [extX (zs.getD q 0) (ys.getD q 0), extY (zs.getD q 0) (ys.getD q 0)] (max b k + 1) := by rw [hWe]; exact vec2 (R := fun wv dv av lv cv zv => FK wv dv av lv cv zv (max b k + 1)) rfl ((h4.za HW).za (below_new _ _)) ((h5.za HW).za (below_new _ _))
      rw [← hWe];clear hWe;replace HW := Below.step HW hb9;replace h16 := h16.za hb9;replace m4 := m4.za hb9;clear hb9;refine hK.out _ _ ?_ (fun zH => ?_)
      ·exact zu HS _ HW
      clear hK K
      try simp only [aSet, aHead, aTail]
      exact tgo J5 (wj.heap.size, b16, a16, l16, c16, g23) (by (try dsimp only); rw [zu HA]; simp only [Act.put, aSet, aHead, aTail]) (by (try dsimp only); exact ⟨HW, m1, h16, m4⟩)
     ·go_simp;obtain ⟨wk, hWe⟩ : ∃ W', W' = wj.alloc (.cells #[.bool b16, .slice a16 l16 c16, .bool b11, .slice a11 l11 c11] 45) := ⟨_, rfl⟩;have hb9 : Below wj.heap.size wj wk := by rw [hWe]; exact below_new _ _
      have m2 : VF wk (some ⟨(wj.heap.size), 0, none⟩) 2 2 [-((ys.getD q 0).tdiv (extG (zs.getD q 0) (ys.getD q 0))), (zs.getD q 0).tdiv (extG (zs.getD q 0) (ys.getD q 0))] (max b k + 1) := by rw [hWe]; exact vec2 (R := fun wv dv av lv cv zv => FK wv dv av lv cv zv (max b k + 1)) rfl ((h16.za (below_new _ _)).up (by omega)) (((h11.za HW).za (below_new _ _)).up (by omega))
      rw [← hWe];clear hWe;replace HW := Below.step HW hb9;replace m4 := m4.za hb9;clear hb9 h16;refine hK.out _ _ ?_ (fun zH => ?_)
      ·exact zu HS _ HW
      clear hK K
      try simp only [aSet, aHead, aTail]
      exact tgo J4 (b16, a16, l16, c16, wj.heap.size, g23) (by (try dsimp only); rw [zu HA]; simp only [Act.put, aSet, aHead, aTail]) (by (try dsimp only); exact ⟨HW, m2, m4⟩)
    refine zmd 5 #[tT, tT, tT, tT, tF, tT, tF, tF, tT, tT, tT, tF, tF] (ι := Nat × Nat) (fun (g20, g23) => ((act0.put (some 53) ((.slice (some ⟨g20, 0, none⟩) 2 2))).put (some 61) ((.slice (some ⟨g23, 0, none⟩) 2 2)))) (fun (g20, g23) wz => Below W3.heap.size W3 wz ∧ VF wz (some ⟨g20, 0, none⟩) 2 2 [extX (zs.getD q 0) (ys.getD q 0), extY (zs.getD q 0) (ys.getD q 0)] (max b k + 1) ∧ MF wz (some ⟨g23, 0, none⟩) 2 2 [zs, ys] (max b k + 1)) ?_ (fun J8 => ?_)
    ·rintro ⟨g20, g23⟩ wj hI
     try dsimp only at hI ⊢
     obtain ⟨HW, m1, m4⟩ := hI;have zH := zu HS _ HW;rw [zu HA];simp only [Act.put, aSet, aHead, aTail];refine tin 4 rfl fun K hK => ?_;go_simp;refine (negK b14 a14 l14 c14 ((ys.getD q 0).tdiv (extG (zs.getD q 0) (ys.getD q 0))) k _ ((h14.za HW).ik (by omega))).mono ?_;rintro e wk ⟨b16, a16, l16, c16, rfl, h16, hb9⟩;replace HW := Below.step HW hb9;replace m1 := m1.za hb9;replace m4 := m4.za hb9;clear hb9;refine hK.out _ _ ?_ (fun zH => ?_)
     ·exact zu HS _ HW
     clear hK K
     try simp only [aSet, aHead, aTail]
     exact tgo J5 (g20, b16, a16, l16, c16, g23) (by (try dsimp only); rw [zu HA]; simp only [Act.put, aSet, aHead, aTail]) (by (try dsimp only); exact ⟨HW, m1, h16, m4⟩)
    refine zmd 5 #[tT, tT, tF, tT, tT, tT, tT, tF, tT, tT, tF, tF, tF] (ι := Bool × Option Addr × Nat × Nat × Nat) (fun (b16, a16, l16, c16, g21) => ((act0.put (some 55) (.agg #[.bool b16, .slice a16 l16 c16])).put (some 57) ((.slice (some ⟨g21, 0, none⟩) 2 2)))) (fun (b16, a16, l16, c16, g21) wz => Below W3.heap.size W3 wz ∧ VF wz (some ⟨g21, 0, none⟩) 2 2 [-((ys.getD q 0).tdiv (extG (zs.getD q 0) (ys.getD q 0))), (zs.getD q 0).tdiv (extG (zs.getD q 0) (ys.getD q 0))] (max b k + 1)) ?_ (fun J9 => ?_)
    ·rintro ⟨b16, a16, l16, c16, g21⟩ wj hI
     try dsimp only at hI ⊢
     obtain ⟨HW, m2⟩ := hI;have zH := zu HS _ HW;rw [zu HA];simp only [Act.put, aSet, aHead, aTail];refine ttwo 2 10 rfl rfl (fun K hK => ?_) (fun K hK => ?_)
     ·go_simp;obtain ⟨wk, hWe⟩ : ∃ W', W' = wj.alloc (.cells #[.bool b4, .slice a4 l4 c4, .bool b5, .slice a5 l5 c5] 45) := ⟨_, rfl⟩;have hb9 : Below wj.heap.size wj wk := by rw [hWe]; exact below_new _ _
      have m1 : VF wk (some ⟨(wj.heap.size), 0, none⟩) 2 2 [extX (zs.getD q 0) (ys.getD q 0), extY (zs.getD q 0) (ys.getD q 0)] (max b k + 1) := by rw [hWe]; exact vec2 (R := fun wv dv av lv cv zv => FK wv dv av lv cv zv (max b k + 1)) rfl ((h4.za HW).za (below_new _ _)) ((h5.za HW).za (below_new _ _))
      rw [← hWe];clear hWe;replace HW := Below.step HW hb9;replace m2 := m2.za hb9;clear hb9;refine hK.out _ _ ?_ (fun zH => ?_)
      ·exact zu HS _ HW
      clear hK K
      try simp only [aSet, aHead, aTail]
      exact tgo J6 (wj.heap.size, b16, a16, l16, c16, g21) (by (try dsimp only); rw [zu HA]; simp only [Act.put, aSet, aHead, aTail]) (by (try dsimp only); exact ⟨HW, m1, m2⟩)
     ·go_simp;obtain ⟨wk, hWe⟩ : ∃ W', W' = wj.alloc (.cells #[.slice (some ⟨g1, o1, none⟩) N cap, .slice (some ⟨g2, o2, none⟩) N cp] 39) := ⟨_, rfl⟩;have hb9 : Below wj.heap.size wj wk := by rw [hWe]; exact below_new _ _
      have m4 : MF wk (some ⟨(wj.heap.size), 0, none⟩) 2 2 [zs, ys] (max b k + 1) := by rw [hWe]; exact mf_two (vf_up (h.za HW) (by omega)) (vf_up (h2.za HW) (by omega))
      rw [← hWe];clear hWe;replace HW := Below.step HW hb9;replace m2 := m2.za hb9;clear hb9;refine hK.out _ _ ?_ (fun zH => ?_)
      ·exact zu HS _ HW
      clear hK K
      try simp only [aSet, aHead, aTail]
      exact tgo J4 (b16, a16, l16, c16, g21, wj.heap.size) (by (try dsimp only); rw [zu HA]; simp only [Act.put, aSet, aHead, aTail]) (by (try dsimp only); exact ⟨HW, m2, m4⟩)
    refine zmd 5 #[tT, tT, tT, tT, tT, tT, tF, tF, tT, tT, tF, tF, tF] (ι := Nat × Bool × Option Addr × Nat × Nat) (fun (g20, b16, a16, l16, c16) => ((act0.put (some 53) ((.slice (some ⟨g20, 0, none⟩) 2 2))).put (some 55) (.agg #[.bool b16, .slice a16 l16 c16]))) (fun (g20, b16, a16, l16, c16) wz => Below W3.heap.size W3 wz ∧ VF wz (some ⟨g20, 0, none⟩) 2 2 [extX (zs.getD q 0) (ys.getD q 0), extY (zs.getD q 0) (ys.getD q 0)] (max b k + 1) ∧ FK wz b16 a16 l16 c16 (-((ys.getD q 0).tdiv (extG (zs.getD q 0) (ys.getD q 0)))) k) ?_ (fun J10 => ?_)
    ·rintro ⟨g20, b16, a16, l16, c16⟩ wj hI
     try dsimp only at hI ⊢
     obtain ⟨HW, m1, h16⟩ := hI;have zH := zu HS _ HW;rw [zu HA];simp only [Act.put, aSet, aHead, aTail];refine ttwo 6 10 rfl rfl (fun K hK => ?_) (fun K hK => ?_)
     ·go_simp;obtain ⟨wk, hWe⟩ : ∃ W', W' = wj.alloc (.cells #[.bool b16, .slice a16 l16 c16, .bool b11, .slice a11 l11 c11] 45) := ⟨_, rfl⟩;have hb9 : Below wj.heap.size wj wk := by rw [hWe]; exact below_new _ _
      have m2 : VF wk (some ⟨(wj.heap.size), 0, none⟩) 2 2 [-((ys.getD q 0).tdiv (extG (zs.getD q 0) (ys.getD q 0))), (zs.getD q 0).tdiv (extG (zs.getD q 0) (ys.getD q 0))] (max b k + 1) := by rw [hWe]; exact vec2 (R := fun wv dv av lv cv zv => FK wv dv av lv cv zv (max b k + 1)) rfl ((h16.za (below_new _ _)).up (by omega)) (((h11.za HW).za (below_new _ _)).up (by omega))
      rw [← hWe];clear hWe;replace HW := Below.step HW hb9;replace m1 := m1.za hb9;clear hb9 h16;refine hK.out _ _ ?_ (fun zH => ?_)
      ·exact zu HS _ HW
      clear hK K
      try simp only [aSet, aHead, aTail]
      exact tgo J6 (g20, b16, a16, l16, c16, wj.heap.size) (by (try dsimp only); rw [zu HA]; simp only [Act.put, aSet, aHead, aTail]) (by (try dsimp only); exact ⟨HW, m1, m2⟩)
     ·go_simp;obtain ⟨wk, hWe⟩ : ∃ W', W' = wj.alloc (.cells #[.slice (some ⟨g1, o1, none⟩) N cap, .slice (some ⟨g2, o2, none⟩) N cp] 39) := ⟨_, rfl⟩;have hb9 : Below wj.heap.size wj wk := by rw [hWe]; exact below_new _ _
      have m4 : MF wk (some ⟨(wj.heap.size), 0, none⟩) 2 2 [zs, ys] (max b k + 1) := by rw [hWe]; exact mf_two (vf_up (h.za HW) (by omega)) (vf_up (h2.za HW) (by omega))
      rw [← hWe];clear hWe;replace HW := Below.step HW hb9;replace m1 := m1.za hb9;replace h16 := h16.za hb9;clear hb9;refine hK.out _ _ ?_ (fun zH => ?_)
      ·exact zu HS _ HW
      clear hK K
      try simp only [aSet, aHead, aTail]
      exact tgo J5 (g20, b16, a16, l16, c16, wj.heap.size) (by (try dsimp only); rw [zu HA]; simp only [Act.put, aSet, aHead, aTail]) (by (try dsimp only); exact ⟨HW, m1, h16, m4⟩)
    refine zmd 6 #[tT, tT, tF, tT, tF, tT, tF, tF, tT, tT, tT, tF, tF] (ι := Nat) (fun g23 => (act0.put (some 61) ((.slice (some ⟨g23, 0, none⟩) 2 2)))) (fun g23 wz => Below W3.heap.size W3 wz ∧ MF wz (some ⟨g23, 0, none⟩) 2 2 [zs, ys] (max b k + 1)) ?_ (fun J11 => ?_)
    ·rintro g23 wj hI
     try dsimp only at hI ⊢
     obtain ⟨HW, m4⟩ := hI;have zH := zu HS _ HW;rw [zu HA];simp only [Act.put, aSet, aHead, aTail];refine ttwo 2 4 rfl rfl (fun K hK => ?_) (fun K hK => ?_)
     ·go_simp;obtain ⟨wk, hWe⟩ : ∃ W', W' = wj.alloc (.cells #[.bool b4, .slice a4 l4 c4, .bool b5, .slice a5 l5 c5] 45) := ⟨_, rfl⟩;have hb9 : Below wj.heap.size wj wk := by rw [hWe]; exact below_new _ _
      have m1 : VF wk (some ⟨(wj.heap.size), 0, none⟩) 2 2 [extX (zs.getD q 0) (ys.getD q 0), extY (zs.getD q 0) (ys.getD q 0)] (max b k + 1) := by rw [hWe]; exact vec2 (R := fun wv dv av lv cv zv => FK wv dv av lv cv zv (max b k + 1)) rfl ((h4.za HW).za (below_new _ _)) ((h5.za HW).za (below_new _ _))
      rw [← hWe];clear hWe;replace HW := Below.step HW hb9;replace m4 := m4.za hb9;clear hb9;refine hK.out _ _ ?_ (fun zH => ?_)
      ·exact zu HS _ HW
      clear hK K
      try simp only [aSet, aHead, aTail]
      exact tgo J8 (wj.heap.size, g23) (by (try dsimp only); rw [zu HA]; simp only [Act.put, aSet, aHead, aTail]) (by (try dsimp only); exact ⟨HW, m1, m4⟩)
     ·go_simp;refine (negK b14 a14 l14 c14 ((ys.getD q 0).tdiv (extG (zs.getD q 0) (ys.getD q 0))) k _ ((h14.za HW).ik (by omega))).mono ?_;rintro e wk ⟨b16, a16, l16, c16, rfl, h16, hb9⟩;replace HW := Below.step HW hb9;replace m4 := m4.za hb9;clear hb9;refine hK.out _ _ ?_ (fun zH => ?_)
      ·exact zu HS _ HW
      clear hK K
      try simp only [aSet, aHead, aTail]
      exact tgo J7 (b16, a16, l16, c16, g23) (by (try dsimp only); rw [zu HA]; simp only [Act.put, aSet, aHead, aTail]) (by (try dsimp only); exact ⟨HW, h16, m4⟩)
    refine zmd 6 #[tT, tT, tF, tT, tT, tT, tF, tF, tT, tT, tF, tF, tF] (ι := Bool × Option Addr × Nat × Nat) (fun (b16, a16, l16, c16) => (act0.put (some 55) (.agg #[.bool b16, .slice a16 l16 c16]))) (fun (b16, a16, l16, c16) wz => Below W3.heap.size W3 wz ∧ FK wz b16 a16 l16 c16 (-((ys.getD q 0).tdiv (extG (zs.getD q 0) (ys.getD q 0)))) k) ?_ (fun J12 => ?_)
    ·rintro ⟨b16, a16, l16, c16⟩ wj hI
     try dsimp only at hI ⊢
     obtain ⟨HW, h16⟩ := hI;have zH := zu HS _ HW;rw [zu HA];simp only [Act.put, aSet, aHead, aTail];refine till_three (i := 2) (j := 6) (k := 10) (by kernel_rfl) rfl rfl rfl (fun K hK => ?_) (fun K hK => ?_) (fun K hK => ?_)
     ·go_simp;obtain ⟨wk, hWe⟩ : ∃ W', W' = wj.alloc (.cells #[.bool b4, .slice a4 l4 c4, .bool b5, .slice a5 l5 c5] 45) := ⟨_, rfl⟩;have hb9 : Below wj.heap.size wj wk := by rw [hWe]; exact below_new _ _
      have m1 : VF wk (some ⟨(wj.heap.size), 0, none⟩) 2 2 [extX (zs.getD q 0) (ys.getD q 0), extY (zs.getD q 0) (ys.getD q 0)] (max b k + 1) := by rw [hWe]; exact vec2 (R := fun wv dv av lv cv zv => FK wv dv av lv cv zv (max b k + 1)) rfl ((h4.za HW).za (below_new _ _)) ((h5.za HW).za (below_new _ _))
      rw [← hWe];clear hWe;replace HW := Below.step HW hb9;replace h16 := h16.za hb9;clear hb9;refine hK.out _ _ ?_ (fun zH => ?_)
      ·exact zu HS _ HW
      clear hK K
      try simp only [aSet, aHead, aTail]
      exact tgo J10 (wj.heap.size, b16, a16, l16, c16) (by (try dsimp only); rw [zu HA]; simp only [Act.put, aSet, aHead, aTail]) (by (try dsimp only); exact ⟨HW, m1, h16⟩)
     ·go_simp;obtain ⟨wk, hWe⟩ : ∃ W', W' = wj.alloc (.cells #[.bool b16, .slice a16 l16 c16, .bool b11, .slice a11 l11 c11] 45) := ⟨_, rfl⟩;have hb9 : Below wj.heap.size wj wk := by rw [hWe]; exact below_new _ _
      have m2 : VF wk (some ⟨(wj.heap.size), 0, none⟩) 2 2 [-((ys.getD q 0).tdiv (extG (zs.getD q 0) (ys.getD q 0))), (zs.getD q 0).tdiv (extG (zs.getD q 0) (ys.getD q 0))] (max b k + 1) := by rw [hWe]; exact vec2 (R := fun wv dv av lv cv zv => FK wv dv av lv cv zv (max b k + 1)) rfl ((h16.za (below_new _ _)).up (by omega)) (((h11.za HW).za (below_new _ _)).up (by omega))
      rw [← hWe];clear hWe;replace HW := Below.step HW hb9;clear hb9 h16;refine hK.out _ _ ?_ (fun zH => ?_)
      ·exact zu HS _ HW
      clear hK K
      try simp only [aSet, aHead, aTail]
      exact tgo J9 (b16, a16, l16, c16, wj.heap.size) (by (try dsimp only); rw [zu HA]; simp only [Act.put, aSet, aHead, aTail]) (by (try dsimp only); exact ⟨HW, m2⟩)
     ·go_simp;obtain ⟨wk, hWe⟩ : ∃ W', W' = wj.alloc (.cells #[.slice (some ⟨g1, o1, none⟩) N cap, .slice (some ⟨g2, o2, none⟩) N cp] 39) := ⟨_, rfl⟩;have hb9 : Below wj.heap.size wj wk := by rw [hWe]; exact below_new _ _
      have m4 : MF wk (some ⟨(wj.heap.size), 0, none⟩) 2 2 [zs, ys] (max b k + 1) := by rw [hWe]; exact mf_two (vf_up (h.za HW) (by omega)) (vf_up (h2.za HW) (by omega))
      rw [← hWe];clear hWe;replace HW := Below.step HW hb9;replace h16 := h16.za hb9;clear hb9;refine hK.out _ _ ?_ (fun zH => ?_)
      ·exact zu HS _ HW
      clear hK K
      try simp only [aSet, aHead, aTail]
      exact tgo J7 (b16, a16, l16, c16, wj.heap.size) (by (try dsimp only); rw [zu HA]; simp only [Act.put, aSet, aHead, aTail]) (by (try dsimp only); exact ⟨HW, h16, m4⟩)
    refine zmd 6 #[tT, tT, tT, tT, tF, tT, tF, tF, tT, tT, tF, tF, tF] (ι := Nat) (fun g20 => (act0.put (some 53) ((.slice (some ⟨g20, 0, none⟩) 2 2)))) (fun g20 wz => Below W3.heap.size W3 wz ∧ VF wz (some ⟨g20, 0, none⟩) 2 2 [extX (zs.getD q 0) (ys.getD q 0), extY (zs.getD q 0) (ys.getD q 0)] (max b k + 1)) ?_ (fun J13 => ?_)
    ·rintro g20 wj hI
     try dsimp only at hI ⊢
     obtain ⟨HW, m1⟩ := hI;have zH := zu HS _ HW;rw [zu HA];simp only [Act.put, aSet, aHead, aTail];refine ttwo 4 10 rfl rfl (fun K hK => ?_) (fun K hK => ?_)
     ·go_simp;refine (negK b14 a14 l14 c14 ((ys.getD q 0).tdiv (extG (zs.getD q 0) (ys.getD q 0))) k _ ((h14.za HW).ik (by omega))).mono ?_;rintro e wk ⟨b16, a16, l16, c16, rfl, h16, hb9⟩;replace HW := Below.step HW hb9;replace m1 := m1.za hb9;clear hb9;refine hK.out _ _ ?_ (fun zH => ?_)
      ·exact zu HS _ HW
      clear hK K
      try simp only [aSet, aHead, aTail]
      exact tgo J10 (g20, b16, a16, l16, c16) (by (try dsimp only); rw [zu HA]; simp only [Act.put, aSet, aHead, aTail]) (by (try dsimp only); exact ⟨HW, m1, h16⟩)
     ·go_simp;obtain ⟨wk, hWe⟩ : ∃ W', W' = wj.alloc (.cells #[.slice (some ⟨g1, o1, none⟩) N cap, .slice (some ⟨g2, o2, none⟩) N cp] 39) := ⟨_, rfl⟩;have hb9 : Below wj.heap.size wj wk := by rw [hWe]; exact below_new _ _
      have m4 : MF wk (some ⟨(wj.heap.size), 0, none⟩) 2 2 [zs, ys] (max b k + 1) := by rw [hWe]; exact mf_two (vf_up (h.za HW) (by omega)) (vf_up (h2.za HW) (by omega))
      rw [← hWe];clear hWe;replace HW := Below.step HW hb9;replace m1 := m1.za hb9;clear hb9;refine hK.out _ _ ?_ (fun zH => ?_)
      ·exact zu HS _ HW
      clear hK K
      try simp only [aSet, aHead, aTail]
      exact tgo J8 (g20, wj.heap.size) (by (try dsimp only); rw [zu HA]; simp only [Act.put, aSet, aHead, aTail]) (by (try dsimp only); exact ⟨HW, m1, m4⟩)
    rw [zu HA];refine till_three (i := 2) (j := 4) (k := 10) (by kernel_rfl) rfl rfl rfl (fun K hK => ?_) (fun K hK => ?_) (fun K hK => ?_)
    ·go_simp;obtain ⟨wk, hWe⟩ : ∃ W', W' = vd1.alloc (.cells #[.bool b4, .slice a4 l4 c4, .bool b5, .slice a5 l5 c5] 45) := ⟨_, rfl⟩;have hb9 : Below vd1.heap.size vd1 wk := by rw [hWe]; exact below_new _ _
     have m1 : VF wk (some ⟨(vd1.heap.size), 0, none⟩) 2 2 [extX (zs.getD q 0) (ys.getD q 0), extY (zs.getD q 0) (ys.getD q 0)] (max b k + 1) := by rw [hWe]; exact vec2 (R := fun wv dv av lv cv zv => FK wv dv av lv cv zv (max b k + 1)) rfl ((h4.za HW).za (below_new _ _)) ((h5.za HW).za (below_new _ _))
     rw [← hWe];clear hWe;replace HW := Below.step HW hb9;clear hb9;refine hK.out _ _ ?_ (fun zH => ?_)
     ·exact zu HS _ HW
     clear hK K
     try simp only [aSet, aHead, aTail]
     exact tgo J13 vd1.heap.size (by (try dsimp only); rw [zu HA]; simp only [Act.put, aSet, aHead, aTail]) (by (try dsimp only); exact ⟨HW, m1⟩)
    ·go_simp;refine (negK b14 a14 l14 c14 ((ys.getD q 0).tdiv (extG (zs.getD q 0) (ys.getD q 0))) k _ ((h14.za HW).ik (by omega))).mono ?_;rintro e wk ⟨b16, a16, l16, c16, rfl, h16, hb9⟩;replace HW := Below.step HW hb9;clear hb9;refine hK.out _ _ ?_ (fun zH => ?_)
     ·exact zu HS _ HW
     clear hK K
     try simp only [aSet, aHead, aTail]
     exact tgo J12 (b16, a16, l16, c16) (by (try dsimp only); rw [zu HA]; simp only [Act.put, aSet, aHead, aTail]) (by (try dsimp only); exact ⟨HW, h16⟩)
    ·go_simp;obtain ⟨wk, hWe⟩ : ∃ W', W' = vd1.alloc (.cells #[.slice (some ⟨g1, o1, none⟩) N cap, .slice (some ⟨g2, o2, none⟩) N cp] 39) := ⟨_, rfl⟩;have hb9 : Below vd1.heap.size vd1 wk := by rw [hWe]; exact below_new _ _
     have m4 : MF wk (some ⟨(vd1.heap.size), 0, none⟩) 2 2 [zs, ys] (max b k + 1) := by rw [hWe]; exact mf_two (vf_up (h.za HW) (by omega)) (vf_up (h2.za HW) (by omega))
     rw [← hWe];clear hWe;replace HW := Below.step HW hb9;clear hb9;refine hK.out _ _ ?_ (fun zH => ?_)
     ·exact zu HS _ HW
     clear hK K
     try simp only [aSet, aHead, aTail]
     exact tgo J11 vd1.heap.size (by (try dsimp only); rw [zu HA]; simp only [Act.put, aSet, aHead, aTail]) (by (try dsimp only); exact ⟨HW, m4⟩)
   refine zmd 4 #[tT, tT, tT, tT, tT, tT, tT, tT, tT, tT, tF, tT, tF, tF, tF] (ι := Bool × Option Addr × Nat × Nat × Bool × Option Addr × Nat × Nat × Nat) (fun (b14, a14, l14, c14, b15, a15, l15, c15, g15) => ((((((act0.put (some 47) (.tuple #[.agg #[.bool b14, .slice a14 l14 c14], .agg #[.bool b15, .slice a15 l15 c15], .bool true])).put (some 41) (.tuple #[.agg #[.bool b14, .slice a14 l14 c14], .agg #[.bool b15, .slice a15 l15 c15], .bool true])).put (some 48) (.agg #[.bool b14, .slice a14 l14 c14])).put (some 49) (.agg #[.bool b15, .slice a15 l15 c15])).put (some 50) (.bool true)).put (some 15) ((.pointer (some ⟨g15, 0, none⟩))))) (fun (b14, a14, l14, c14, b15, a15, l15, c15, g15) wz => Below W2.heap.size W2 wz ∧ FK wz b14 a14 l14 c14 ((ys.getD q 0).tdiv (extG (zs.getD q 0) (ys.getD q 0))) k ∧ FK wz b15 a15 l15 c15 ((ys.getD q 0).tmod (extG (zs.getD q 0) (ys.getD q 0))) (max b k + 1) ∧ Box wz g15 false none 0 0 ∧ W2.heap.size ≤ g15) ?_ (fun J1 => ?_)
   ·rintro ⟨b14, a14, l14, c14, b15, a15, l15, c15, g15⟩ wj hI
    try dsimp only at hI ⊢
    obtain ⟨HW, h14, h15, B15, hg15⟩ := hI;have zH := zu HS _ HW;rw [zu HA];simp only [Act.put, aSet, aHead, aTail];refine tin 10 rfl fun K hK => ?_;go_simp;have hwk : W2.heap.size ≤ wj.heap.size := HW.size;have hxg15 := B15.lt;obtain ⟨wk, hWe⟩ := newB wj;obtain ⟨B14, hb9⟩ := boxes1 wj false none 0 0 hWe;rw [← hWe];clear hWe;replace HW := Below.step HW hb9;replace h14 := h14.za hb9;replace h15 := h15.za hb9;replace B15 := B15.za hb9;clear hb9;have hg14 := hwk;have hneg14g15 : wj.heap.size ≠ g15 := by omega
    refine hK.out _ _ ?_ (fun zH => ?_)
    ·exact zu HS _ HW
    clear hK K
    try simp only [aSet, aHead, aTail]
    exact tgo J0 (b14, a14, l14, c14, b15, a15, l15, c15, wj.heap.size, g15) (by (try dsimp only); rw [zu HA]; simp only [Act.put, aSet, aHead, aTail]) (by (try dsimp only); exact ⟨HW, h14, h15, B14, hg14, B15, hg15, hneg14g15⟩)
   refine zmd 4 #[tT, tT, tT, tT, tT, tT, tT, tT, tT, tT, tT, tF, tF, tF, tF] (ι := Bool × Option Addr × Nat × Nat × Bool × Option Addr × Nat × Nat × Nat) (fun (b14, a14, l14, c14, b15, a15, l15, c15, g14) => ((((((act0.put (some 47) (.tuple #[.agg #[.bool b14, .slice a14 l14 c14], .agg #[.bool b15, .slice a15 l15 c15], .bool true])).put (some 41) (.tuple #[.agg #[.bool b14, .slice a14 l14 c14], .agg #[.bool b15, .slice a15 l15 c15], .bool true])).put (some 48) (.agg #[.bool b14, .slice a14 l14 c14])).put (some 49) (.agg #[.bool b15, .slice a15 l15 c15])).put (some 50) (.bool true)).put (some 14) ((.pointer (some ⟨g14, 0, none⟩))))) (fun (b14, a14, l14, c14, b15, a15, l15, c15, g14) wz => Below W2.heap.size W2 wz ∧ FK wz b14 a14 l14 c14 ((ys.getD q 0).tdiv (extG (zs.getD q 0) (ys.getD q 0))) k ∧ FK wz b15 a15 l15 c15 ((ys.getD q 0).tmod (extG (zs.getD q 0) (ys.getD q 0))) (max b k + 1) ∧ Box wz g14 false none 0 0 ∧ W2.heap.size ≤ g14) ?_ (fun J2 => ?_)
   ·rintro ⟨b14, a14, l14, c14, b15, a15, l15, c15, g14⟩ wj hI
    try dsimp only at hI ⊢
    obtain ⟨HW, h14, h15, B14, hg14⟩ := hI;have zH := zu HS _ HW;rw [zu HA];simp only [Act.put, aSet, aHead, aTail];refine tin 11 rfl fun K hK => ?_;go_simp;have hwk : W2.heap.size ≤ wj.heap.size := HW.size;have hxg14 := B14.lt;obtain ⟨wk, hWe⟩ := newB wj;obtain ⟨B15, hb9⟩ := boxes1 wj false none 0 0 hWe;rw [← hWe];clear hWe;replace HW := Below.step HW hb9;replace h14 := h14.za hb9;replace h15 := h15.za hb9;replace B14 := B14.za hb9;clear hb9;have hg15 := hwk;have hneg14g15 : g14 ≠ wj.heap.size := by omega
    refine hK.out _ _ ?_ (fun zH => ?_)
    ·exact zu HS _ HW
    clear hK K
    try simp only [aSet, aHead, aTail]
    exact tgo J0 (b14, a14, l14, c14, b15, a15, l15, c15, g14, wj.heap.size) (by (try dsimp only); rw [zu HA]; simp only [Act.put, aSet, aHead, aTail]) (by (try dsimp only); exact ⟨HW, h14, h15, B14, hg14, B15, hg15, hneg14g15⟩)
   refine zmd 5 #[tT, tT, tT, tT, tT, tT, tT, tT, tT, tT, tF, tF, tF, tF, tF] (ι := Bool × Option Addr × Nat × Nat × Bool × Option Addr × Nat × Nat) (fun (b14, a14, l14, c14, b15, a15, l15, c15) => (((((act0.put (some 47) (.tuple #[.agg #[.bool b14, .slice a14 l14 c14], .agg #[.bool b15, .slice a15 l15 c15], .bool true])).put (some 41) (.tuple #[.agg #[.bool b14, .slice a14 l14 c14], .agg #[.bool b15, .slice a15 l15 c15], .bool true])).put (some 48) (.agg #[.bool b14, .slice a14 l14 c14])).put (some 49) (.agg #[.bool b15, .slice a15 l15 c15])).put (some 50) (.bool true))) (fun (b14, a14, l14, c14, b15, a15, l15, c15) wz => Below W2.heap.size W2 wz ∧ FK wz b14 a14 l14 c14 ((ys.getD q 0).tdiv (extG (zs.getD q 0) (ys.getD q 0))) k ∧ FK wz b15 a15 l15 c15 ((ys.getD q 0).tmod (extG (zs.getD q 0) (ys.getD q 0))) (max b k + 1)) ?_ (fun J3 => ?_)
   ·rintro ⟨b14, a14, l14, c14, b15, a15, l15, c15⟩ wj hI
    try dsimp only at hI ⊢
    obtain ⟨HW, h14, h15⟩ := hI;have zH := zu HS _ HW;rw [zu HA];simp only [Act.put, aSet, aHead, aTail];refine ttwo 10 11 rfl rfl (fun K hK => ?_) (fun K hK => ?_)
    ·go_simp;have hwk : W2.heap.size ≤ wj.heap.size := HW.size;obtain ⟨wk, hWe⟩ := newB wj;obtain ⟨B14, hb9⟩ := boxes1 wj false none 0 0 hWe;rw [← hWe];clear hWe;replace HW := Below.step HW hb9;replace h14 := h14.za hb9;replace h15 := h15.za hb9;clear hb9;have hg14 := hwk;refine hK.out _ _ ?_ (fun zH => ?_)
     ·exact zu HS _ HW
     clear hK K
     try simp only [aSet, aHead, aTail]
     exact tgo J2 (b14, a14, l14, c14, b15, a15, l15, c15, wj.heap.size) (by (try dsimp only); rw [zu HA]; simp only [Act.put, aSet, aHead, aTail]) (by (try dsimp only); exact ⟨HW, h14, h15, B14, hg14⟩)
    ·go_simp;have hwk : W2.heap.size ≤ wj.heap.size := HW.size;obtain ⟨wk, hWe⟩ := newB wj;obtain ⟨B15, hb9⟩ := boxes1 wj false none 0 0 hWe;rw [← hWe];clear hWe;replace HW := Below.step HW hb9;replace h14 := h14.za hb9;replace h15 := h15.za hb9;clear hb9;have hg15 := hwk;refine hK.out _ _ ?_ (fun zH => ?_)
     ·exact zu HS _ HW
     clear hK K
     try simp only [aSet, aHead, aTail]
     exact tgo J1 (b14, a14, l14, c14, b15, a15, l15, c15, wj.heap.size) (by (try dsimp only); rw [zu HA]; simp only [Act.put, aSet, aHead, aTail]) (by (try dsimp only); exact ⟨HW, h14, h15, B15, hg15⟩)
   refine zmd 8 #[tT, tT, tT, tT, tT, tF, tF, tF, tF, tF, tT, tT, tF, tF, tF] (ι := Nat × Nat) (fun (g14, g15) => ((act0.put (some 14) ((.pointer (some ⟨g14, 0, none⟩)))).put (some 15) ((.pointer (some ⟨g15, 0, none⟩))))) (fun (g14, g15) wz => Below W2.heap.size W2 wz ∧ Box wz g14 false none 0 0 ∧ W2.heap.size ≤ g14 ∧ Box wz g15 false none 0 0 ∧ W2.heap.size ≤ g15 ∧ g14 ≠ g15) ?_ (fun J4 => ?_)
   ·rintro ⟨g14, g15⟩ wj hI
    try dsimp only at hI ⊢
    obtain ⟨HW, B14, hg14, B15, hg15, hneg14g15⟩ := hI;have zH := zu HS _ HW;rw [zu HA];simp only [Act.put, aSet, aHead, aTail];refine tin 5 rfl fun K hK => ?_;go_simp;refine (quoK b2 a2 l2 c2 (ys.getD q 0) k b3 a3 l3 c3 (extG (zs.getD q 0) (ys.getD q 0)) (max b k + 1) _ (y2.za HW) ((h3.za HW).ik (by omega)) (zu H0)).mono ?_;rintro e wk ⟨b14, a14, l14, c14, b15, a15, l15, c15, rfl, h14, h15, hb9⟩;replace HW := Below.step HW hb9;replace B14 := B14.za hb9;replace B15 := B15.za hb9;clear hb9;refine hK.out _ _ ?_ (fun zH => ?_)
    ·exact zu HS _ HW
    clear hK K
    try simp only [aSet, aHead, aTail]
    refine zfl 6 rfl ?_;simp only [zP];refine zfl 7 rfl ?_;simp only [zP];refine zfl 8 rfl ?_;simp only [zP];refine zfl 9 rfl ?_;simp only [zP];exact tgo J0 (b14, a14, l14, c14, b15, a15, l15, c15, g14, g15) (by (try dsimp only); rw [zu HA]; simp only [Act.put, aSet, aHead, aTail]) (by (try dsimp only); exact ⟨HW, h14, h15, B14, hg14, B15, hg15, hneg14g15⟩)
   refine zmd 9 #[tT, tT, tT, tT, tT, tF, tF, tF, tF, tF, tF, tT, tF, tF, tF] (ι := Nat) (fun g15 => (act0.put (some 15) ((.pointer (some ⟨g15, 0, none⟩))))) (fun g15 wz => Below W2.heap.size W2 wz ∧ Box wz g15 false none 0 0 ∧ W2.heap.size ≤ g15) ?_ (fun J5 => ?_)
   ·rintro g15 wj hI
    try dsimp only at hI ⊢
    obtain ⟨HW, B15, hg15⟩ := hI;have zH := zu HS _ HW;rw [zu HA];simp only [Act.put, aSet, aHead, aTail];refine ttwo 5 10 rfl rfl (fun K hK => ?_) (fun K hK => ?_)
    ·go_simp;refine (quoK b2 a2 l2 c2 (ys.getD q 0) k b3 a3 l3 c3 (extG (zs.getD q 0) (ys.getD q 0)) (max b k + 1) _ (y2.za HW) ((h3.za HW).ik (by omega)) (zu H0)).mono ?_;rintro e wk ⟨b14, a14, l14, c14, b15, a15, l15, c15, rfl, h14, h15, hb9⟩;replace HW := Below.step HW hb9;replace B15 := B15.za hb9;clear hb9;refine hK.out _ _ ?_ (fun zH => ?_)
     ·exact zu HS _ HW
     clear hK K
     try simp only [aSet, aHead, aTail]
     refine zfl 6 rfl ?_;simp only [zP];refine zfl 7 rfl ?_;simp only [zP];refine zfl 8 rfl ?_;simp only [zP];refine zfl 9 rfl ?_;simp only [zP];exact tgo J1 (b14, a14, l14, c14, b15, a15, l15, c15, g15) (by (try dsimp only); rw [zu HA]; simp only [Act.put, aSet, aHead, aTail]) (by (try dsimp only); exact ⟨HW, h14, h15, B15, hg15⟩)
    ·go_simp;have hwk : W2.heap.size ≤ wj.heap.size := HW.size;have hxg15 := B15.lt;obtain ⟨wk, hWe⟩ := newB wj;obtain ⟨B14, hb9⟩ := boxes1 wj false none 0 0 hWe;rw [← hWe];clear hWe;replace HW := Below.step HW hb9;replace B15 := B15.za hb9;clear hb9;have hg14 := hwk;have hneg14g15 : wj.heap.size ≠ g15 := by omega
     refine hK.out _ _ ?_ (fun zH => ?_)
     ·exact zu HS _ HW
     clear hK K
     try simp only [aSet, aHead, aTail]
     exact tgo J4 (wj.heap.size, g15) (by (try dsimp only); rw [zu HA]; simp only [Act.put, aSet, aHead, aTail]) (by (try dsimp only); exact ⟨HW, B14, hg14, B15, hg15, hneg14g15⟩)
   refine zmd 9 #[tT, tT, tT, tT, tT, tF, tF, tF, tF, tF, tT, tF, tF, tF, tF] (ι := Nat) (fun g14 => (act0.put (some 14) ((.pointer (some ⟨g14, 0, none⟩))))) (fun g14 wz => Below W2.heap.size W2 wz ∧ Box wz g14 false none 0 0 ∧ W2.heap.size ≤ g14) ?_ (fun J6 => ?_)
   ·rintro g14 wj hI
    try dsimp only at hI ⊢
    obtain ⟨HW, B14, hg14⟩ := hI;have zH := zu HS _ HW;rw [zu HA];simp only [Act.put, aSet, aHead, aTail];refine ttwo 5 11 rfl rfl (fun K hK => ?_) (fun K hK => ?_)
    ·go_simp;refine (quoK b2 a2 l2 c2 (ys.getD q 0) k b3 a3 l3 c3 (extG (zs.getD q 0) (ys.getD q 0)) (max b k + 1) _ (y2.za HW) ((h3.za HW).ik (by omega)) (zu H0)).mono ?_;rintro e wk ⟨b14, a14, l14, c14, b15, a15, l15, c15, rfl, h14, h15, hb9⟩;replace HW := Below.step HW hb9;replace B14 := B14.za hb9;clear hb9;refine hK.out _ _ ?_ (fun zH => ?_)
     ·exact zu HS _ HW
     clear hK K
     try simp only [aSet, aHead, aTail]
     refine zfl 6 rfl ?_;simp only [zP];refine zfl 7 rfl ?_;simp only [zP];refine zfl 8 rfl ?_;simp only [zP];refine zfl 9 rfl ?_;simp only [zP];exact tgo J2 (b14, a14, l14, c14, b15, a15, l15, c15, g14) (by (try dsimp only); rw [zu HA]; simp only [Act.put, aSet, aHead, aTail]) (by (try dsimp only); exact ⟨HW, h14, h15, B14, hg14⟩)
    ·go_simp;have hwk : W2.heap.size ≤ wj.heap.size := HW.size;have hxg14 := B14.lt;obtain ⟨wk, hWe⟩ := newB wj;obtain ⟨B15, hb9⟩ := boxes1 wj false none 0 0 hWe;rw [← hWe];clear hWe;replace HW := Below.step HW hb9;replace B14 := B14.za hb9;clear hb9;have hg15 := hwk;have hneg14g15 : g14 ≠ wj.heap.size := by omega
     refine hK.out _ _ ?_ (fun zH => ?_)
     ·exact zu HS _ HW
     clear hK K
     try simp only [aSet, aHead, aTail]
     exact tgo J4 (g14, wj.heap.size) (by (try dsimp only); rw [zu HA]; simp only [Act.put, aSet, aHead, aTail]) (by (try dsimp only); exact ⟨HW, B14, hg14, B15, hg15, hneg14g15⟩)
   rw [zu HA];refine till_three (i := 5) (j := 10) (k := 11) (by kernel_rfl) rfl rfl rfl (fun K hK => ?_) (fun K hK => ?_) (fun K hK => ?_)
   ·go_simp;refine (quoK b2 a2 l2 c2 (ys.getD q 0) k b3 a3 l3 c3 (extG (zs.getD q 0) (ys.getD q 0)) (max b k + 1) _ (y2.za HW) ((h3.za HW).ik (by omega)) (zu H0)).mono ?_;rintro e wk ⟨b14, a14, l14, c14, b15, a15, l15, c15, rfl, h14, h15, hb9⟩;replace HW := Below.step HW hb9;clear hb9;refine hK.out _ _ ?_ (fun zH => ?_)
    ·exact zu HS _ HW
    clear hK K
    try simp only [aSet, aHead, aTail]
    refine zfl 6 rfl ?_;simp only [zP];refine zfl 7 rfl ?_;simp only [zP];refine zfl 8 rfl ?_;simp only [zP];refine zfl 9 rfl ?_;simp only [zP];exact tgo J3 (b14, a14, l14, c14, b15, a15, l15, c15) (by (try dsimp only); rw [zu HA]; simp only [Act.put, aSet, aHead, aTail]) (by (try dsimp only); exact ⟨HW, h14, h15⟩)
   ·go_simp;have hwk : W2.heap.size ≤ vd1.heap.size := HW.size;obtain ⟨wk, hWe⟩ := newB vd1;obtain ⟨B14, hb9⟩ := boxes1 vd1 false none 0 0 hWe;rw [← hWe];clear hWe;replace HW := Below.step HW hb9;clear hb9;have hg14 := hwk;refine hK.out _ _ ?_ (fun zH => ?_)
    ·exact zu HS _ HW
    clear hK K
    try simp only [aSet, aHead, aTail]
    exact tgo J6 vd1.heap.size (by (try dsimp only); rw [zu HA]; simp only [Act.put, aSet, aHead, aTail]) (by (try dsimp only); exact ⟨HW, B14, hg14⟩)
   ·go_simp;have hwk : W2.heap.size ≤ vd1.heap.size := HW.size;obtain ⟨wk, hWe⟩ := newB vd1;obtain ⟨B15, hb9⟩ := boxes1 vd1 false none 0 0 hWe;rw [← hWe];clear hWe;replace HW := Below.step HW hb9;clear hb9;have hg15 := hwk;refine hK.out _ _ ?_ (fun zH => ?_)
    ·exact zu HS _ HW
    clear hK K
    try simp only [aSet, aHead, aTail]
    exact tgo J5 vd1.heap.size (by (try dsimp only); rw [zu HA]; simp only [Act.put, aSet, aHead, aTail]) (by (try dsimp only); exact ⟨HW, B15, hg15⟩)
  refine zmd 4 #[tT, tT, tT, tT, tT, tT, tT, tT, tT, tT, tF, tT, tF, tF, tF] (ι := Bool × Option Addr × Nat × Nat × Bool × Option Addr × Nat × Nat × Nat) (fun (b11, a11, l11, c11, b12, a12, l12, c12, g12) => ((((((act0.put (some 37) (.tuple #[.agg #[.bool b11, .slice a11 l11 c11], .agg #[.bool b12, .slice a12 l12 c12], .bool true])).put (some 31) (.tuple #[.agg #[.bool b11, .slice a11 l11 c11], .agg #[.bool b12, .slice a12 l12 c12], .bool true])).put (some 38) (.agg #[.bool b11, .slice a11 l11 c11])).put (some 39) (.agg #[.bool b12, .slice a12 l12 c12])).put (some 40) (.bool true)).put (some 12) ((.pointer (some ⟨g12, 0, none⟩))))) (fun (b11, a11, l11, c11, b12, a12, l12, c12, g12) wz => Below W1.heap.size W1 wz ∧ FK wz b11 a11 l11 c11 ((zs.getD q 0).tdiv (extG (zs.getD q 0) (ys.getD q 0))) b ∧ FK wz b12 a12 l12 c12 ((zs.getD q 0).tmod (extG (zs.getD q 0) (ys.getD q 0))) (max b k + 1) ∧ Box wz g12 false none 0 0 ∧ W1.heap.size ≤ g12) ?_ (fun J1 => ?_)
  ·rintro ⟨b11, a11, l11, c11, b12, a12, l12, c12, g12⟩ wj hI
   try dsimp only at hI ⊢
   obtain ⟨HW, h11, h12, B12, hg12⟩ := hI;have zH := zu HS _ HW;rw [zu HA];simp only [Act.put, aSet, aHead, aTail];refine tin 10 rfl fun K hK => ?_;go_simp;have hwk : W1.heap.size ≤ wj.heap.size := HW.size;have hxg12 := B12.lt;obtain ⟨wk, hWe⟩ := newB wj;obtain ⟨B11, hb9⟩ := boxes1 wj false none 0 0 hWe;rw [← hWe];clear hWe;replace HW := Below.step HW hb9;replace h11 := h11.za hb9;replace h12 := h12.za hb9;replace B12 := B12.za hb9;clear hb9;have hg11 := hwk;have hneg11g12 : wj.heap.size ≠ g12 := by omega
   refine hK.out _ _ ?_ (fun zH => ?_)
   ·exact zu HS _ HW
   clear hK K
   try simp only [aSet, aHead, aTail]
   exact tgo J0 (b11, a11, l11, c11, b12, a12, l12, c12, wj.heap.size, g12) (by (try dsimp only); rw [zu HA]; simp only [Act.put, aSet, aHead, aTail]) (by (try dsimp only); exact ⟨HW, h11, h12, B11, hg11, B12, hg12, hneg11g12⟩)
  refine zmd 4 #[tT, tT, tT, tT, tT, tT, tT, tT, tT, tT, tT, tF, tF, tF, tF] (ι := Bool × Option Addr × Nat × Nat × Bool × Option Addr × Nat × Nat × Nat) (fun (b11, a11, l11, c11, b12, a12, l12, c12, g11) => ((((((act0.put (some 37) (.tuple #[.agg #[.bool b11, .slice a11 l11 c11], .agg #[.bool b12, .slice a12 l12 c12], .bool true])).put (some 31) (.tuple #[.agg #[.bool b11, .slice a11 l11 c11], .agg #[.bool b12, .slice a12 l12 c12], .bool true])).put (some 38) (.agg #[.bool b11, .slice a11 l11 c11])).put (some 39) (.agg #[.bool b12, .slice a12 l12 c12])).put (some 40) (.bool true)).put (some 11) ((.pointer (some ⟨g11, 0, none⟩))))) (fun (b11, a11, l11, c11, b12, a12, l12, c12, g11) wz => Below W1.heap.size W1 wz ∧ FK wz b11 a11 l11 c11 ((zs.getD q 0).tdiv (extG (zs.getD q 0) (ys.getD q 0))) b ∧ FK wz b12 a12 l12 c12 ((zs.getD q 0).tmod (extG (zs.getD q 0) (ys.getD q 0))) (max b k + 1) ∧ Box wz g11 false none 0 0 ∧ W1.heap.size ≤ g11) ?_ (fun J2 => ?_)
  ·rintro ⟨b11, a11, l11, c11, b12, a12, l12, c12, g11⟩ wj hI
   try dsimp only at hI ⊢
   obtain ⟨HW, h11, h12, B11, hg11⟩ := hI;have zH := zu HS _ HW;rw [zu HA];simp only [Act.put, aSet, aHead, aTail];refine tin 11 rfl fun K hK => ?_;go_simp;have hwk : W1.heap.size ≤ wj.heap.size := HW.size;have hxg11 := B11.lt;obtain ⟨wk, hWe⟩ := newB wj;obtain ⟨B12, hb9⟩ := boxes1 wj false none 0 0 hWe;rw [← hWe];clear hWe;replace HW := Below.step HW hb9;replace h11 := h11.za hb9;replace h12 := h12.za hb9;replace B11 := B11.za hb9;clear hb9;have hg12 := hwk;have hneg11g12 : g11 ≠ wj.heap.size := by omega
   refine hK.out _ _ ?_ (fun zH => ?_)
   ·exact zu HS _ HW
   clear hK K
   try simp only [aSet, aHead, aTail]
   exact tgo J0 (b11, a11, l11, c11, b12, a12, l12, c12, g11, wj.heap.size) (by (try dsimp only); rw [zu HA]; simp only [Act.put, aSet, aHead, aTail]) (by (try dsimp only); exact ⟨HW, h11, h12, B11, hg11, B12, hg12, hneg11g12⟩)
  refine zmd 5 #[tT, tT, tT, tT, tT, tT, tT, tT, tT, tT, tF, tF, tF, tF, tF] (ι := Bool × Option Addr × Nat × Nat × Bool × Option Addr × Nat × Nat) (fun (b11, a11, l11, c11, b12, a12, l12, c12) => (((((act0.put (some 37) (.tuple #[.agg #[.bool b11, .slice a11 l11 c11], .agg #[.bool b12, .slice a12 l12 c12], .bool true])).put (some 31) (.tuple #[.agg #[.bool b11, .slice a11 l11 c11], .agg #[.bool b12, .slice a12 l12 c12], .bool true])).put (some 38) (.agg #[.bool b11, .slice a11 l11 c11])).put (some 39) (.agg #[.bool b12, .slice a12 l12 c12])).put (some 40) (.bool true))) (fun (b11, a11, l11, c11, b12, a12, l12, c12) wz => Below W1.heap.size W1 wz ∧ FK wz b11 a11 l11 c11 ((zs.getD q 0).tdiv (extG (zs.getD q 0) (ys.getD q 0))) b ∧ FK wz b12 a12 l12 c12 ((zs.getD q 0).tmod (extG (zs.getD q 0) (ys.getD q 0))) (max b k + 1)) ?_ (fun J3 => ?_)
  ·rintro ⟨b11, a11, l11, c11, b12, a12, l12, c12⟩ wj hI
   try dsimp only at hI ⊢
   obtain ⟨HW, h11, h12⟩ := hI;have zH := zu HS _ HW;rw [zu HA];simp only [Act.put, aSet, aHead, aTail];refine ttwo 10 11 rfl rfl (fun K hK => ?_) (fun K hK => ?_)
   ·go_simp;have hwk : W1.heap.size ≤ wj.heap.size := HW.size;obtain ⟨wk, hWe⟩ := newB wj;obtain ⟨B11, hb9⟩ := boxes1 wj false none 0 0 hWe;rw [← hWe];clear hWe;replace HW := Below.step HW hb9;replace h11 := h11.za hb9;replace h12 := h12.za hb9;clear hb9;have hg11 := hwk;refine hK.out _ _ ?_ (fun zH => ?_)
    ·exact zu HS _ HW
    clear hK K
    try simp only [aSet, aHead, aTail]
    exact tgo J2 (b11, a11, l11, c11, b12, a12, l12, c12, wj.heap.size) (by (try dsimp only); rw [zu HA]; simp only [Act.put, aSet, aHead, aTail]) (by (try dsimp only); exact ⟨HW, h11, h12, B11, hg11⟩)
   ·go_simp;have hwk : W1.heap.size ≤ wj.heap.size := HW.size;obtain ⟨wk, hWe⟩ := newB wj;obtain ⟨B12, hb9⟩ := boxes1 wj false none 0 0 hWe;rw [← hWe];clear hWe;replace HW := Below.step HW hb9;replace h11 := h11.za hb9;replace h12 := h12.za hb9;clear hb9;have hg12 := hwk;refine hK.out _ _ ?_ (fun zH => ?_)
    ·exact zu HS _ HW
    clear hK K
    try simp only [aSet, aHead, aTail]
    exact tgo J1 (b11, a11, l11, c11, b12, a12, l12, c12, wj.heap.size) (by (try dsimp only); rw [zu HA]; simp only [Act.put, aSet, aHead, aTail]) (by (try dsimp only); exact ⟨HW, h11, h12, B12, hg12⟩)
  refine zmd 8 #[tT, tT, tT, tT, tT, tF, tF, tF, tF, tF, tT, tT, tF, tF, tF] (ι := Nat × Nat) (fun (g11, g12) => ((act0.put (some 11) ((.pointer (some ⟨g11, 0, none⟩)))).put (some 12) ((.pointer (some ⟨g12, 0, none⟩))))) (fun (g11, g12) wz => Below W1.heap.size W1 wz ∧ Box wz g11 false none 0 0 ∧ W1.heap.size ≤ g11 ∧ Box wz g12 false none 0 0 ∧ W1.heap.size ≤ g12 ∧ g11 ≠ g12) ?_ (fun J4 => ?_)
  ·rintro ⟨g11, g12⟩ wj hI
   try dsimp only at hI ⊢
   obtain ⟨HW, B11, hg11, B12, hg12, hneg11g12⟩ := hI;have zH := zu HS _ HW;rw [zu HA];simp only [Act.put, aSet, aHead, aTail];refine tin 5 rfl fun K hK => ?_;go_simp;refine (quoK b1 a1 l1 c1 (zs.getD q 0) b b3 a3 l3 c3 (extG (zs.getD q 0) (ys.getD q 0)) (max b k + 1) _ (y1.za HW) ((h3.za HW).ik (by omega)) (zu H0)).mono ?_;rintro e wk ⟨b11, a11, l11, c11, b12, a12, l12, c12, rfl, h11, h12, hb9⟩;replace HW := Below.step HW hb9;replace B11 := B11.za hb9;replace B12 := B12.za hb9;clear hb9;refine hK.out _ _ ?_ (fun zH => ?_)
   ·exact zu HS _ HW
   clear hK K
   try simp only [aSet, aHead, aTail]
   refine zfl 6 rfl ?_;simp only [zP];refine zfl 7 rfl ?_;simp only [zP];refine zfl 8 rfl ?_;simp only [zP];refine zfl 9 rfl ?_;simp only [zP];exact tgo J0 (b11, a11, l11, c11, b12, a12, l12, c12, g11, g12) (by (try dsimp only); rw [zu HA]; simp only [Act.put, aSet, aHead, aTail]) (by (try dsimp only); exact ⟨HW, h11, h12, B11, hg11, B12, hg12, hneg11g12⟩)
  refine zmd 9 #[tT, tT, tT, tT, tT, tF, tF, tF, tF, tF, tF, tT, tF, tF, tF] (ι := Nat) (fun g12 => (act0.put (some 12) ((.pointer (some ⟨g12, 0, none⟩))))) (fun g12 wz => Below W1.heap.size W1 wz ∧ Box wz g12 false none 0 0 ∧ W1.heap.size ≤ g12) ?_ (fun J5 => ?_)
  ·rintro g12 wj hI
   try dsimp only at hI ⊢
   obtain ⟨HW, B12, hg12⟩ := hI;have zH := zu HS _ HW;rw [zu HA];simp only [Act.put, aSet, aHead, aTail];refine ttwo 5 10 rfl rfl (fun K hK => ?_) (fun K hK => ?_)
   ·go_simp;refine (quoK b1 a1 l1 c1 (zs.getD q 0) b b3 a3 l3 c3 (extG (zs.getD q 0) (ys.getD q 0)) (max b k + 1) _ (y1.za HW) ((h3.za HW).ik (by omega)) (zu H0)).mono ?_;rintro e wk ⟨b11, a11, l11, c11, b12, a12, l12, c12, rfl, h11, h12, hb9⟩;replace HW := Below.step HW hb9;replace B12 := B12.za hb9;clear hb9;refine hK.out _ _ ?_ (fun zH => ?_)
    ·exact zu HS _ HW
    clear hK K
    try simp only [aSet, aHead, aTail]
    refine zfl 6 rfl ?_;simp only [zP];refine zfl 7 rfl ?_;simp only [zP];refine zfl 8 rfl ?_;simp only [zP];refine zfl 9 rfl ?_;simp only [zP];exact tgo J1 (b11, a11, l11, c11, b12, a12, l12, c12, g12) (by (try dsimp only); rw [zu HA]; simp only [Act.put, aSet, aHead, aTail]) (by (try dsimp only); exact ⟨HW, h11, h12, B12, hg12⟩)
   ·go_simp;have hwk : W1.heap.size ≤ wj.heap.size := HW.size;have hxg12 := B12.lt;obtain ⟨wk, hWe⟩ := newB wj;obtain ⟨B11, hb9⟩ := boxes1 wj false none 0 0 hWe;rw [← hWe];clear hWe;replace HW := Below.step HW hb9;replace B12 := B12.za hb9;clear hb9;have hg11 := hwk;have hneg11g12 : wj.heap.size ≠ g12 := by omega
    refine hK.out _ _ ?_ (fun zH => ?_)
    ·exact zu HS _ HW
    clear hK K
    try simp only [aSet, aHead, aTail]
    exact tgo J4 (wj.heap.size, g12) (by (try dsimp only); rw [zu HA]; simp only [Act.put, aSet, aHead, aTail]) (by (try dsimp only); exact ⟨HW, B11, hg11, B12, hg12, hneg11g12⟩)
  refine zmd 9 #[tT, tT, tT, tT, tT, tF, tF, tF, tF, tF, tT, tF, tF, tF, tF] (ι := Nat) (fun g11 => (act0.put (some 11) ((.pointer (some ⟨g11, 0, none⟩))))) (fun g11 wz => Below W1.heap.size W1 wz ∧ Box wz g11 false none 0 0 ∧ W1.heap.size ≤ g11) ?_ (fun J6 => ?_)
  ·rintro g11 wj hI
   try dsimp only at hI ⊢
   obtain ⟨HW, B11, hg11⟩ := hI;have zH := zu HS _ HW;rw [zu HA];simp only [Act.put, aSet, aHead, aTail];refine ttwo 5 11 rfl rfl (fun K hK => ?_) (fun K hK => ?_)
   ·go_simp;refine (quoK b1 a1 l1 c1 (zs.getD q 0) b b3 a3 l3 c3 (extG (zs.getD q 0) (ys.getD q 0)) (max b k + 1) _ (y1.za HW) ((h3.za HW).ik (by omega)) (zu H0)).mono ?_;rintro e wk ⟨b11, a11, l11, c11, b12, a12, l12, c12, rfl, h11, h12, hb9⟩;replace HW := Below.step HW hb9;replace B11 := B11.za hb9;clear hb9;refine hK.out _ _ ?_ (fun zH => ?_)
    ·exact zu HS _ HW
    clear hK K
    try simp only [aSet, aHead, aTail]
    refine zfl 6 rfl ?_;simp only [zP];refine zfl 7 rfl ?_;simp only [zP];refine zfl 8 rfl ?_;simp only [zP];refine zfl 9 rfl ?_;simp only [zP];exact tgo J2 (b11, a11, l11, c11, b12, a12, l12, c12, g11) (by (try dsimp only); rw [zu HA]; simp only [Act.put, aSet, aHead, aTail]) (by (try dsimp only); exact ⟨HW, h11, h12, B11, hg11⟩)
   ·go_simp;have hwk : W1.heap.size ≤ wj.heap.size := HW.size;have hxg11 := B11.lt;obtain ⟨wk, hWe⟩ := newB wj;obtain ⟨B12, hb9⟩ := boxes1 wj false none 0 0 hWe;rw [← hWe];clear hWe;replace HW := Below.step HW hb9;replace B11 := B11.za hb9;clear hb9;have hg12 := hwk;have hneg11g12 : g11 ≠ wj.heap.size := by omega
    refine hK.out _ _ ?_ (fun zH => ?_)
    ·exact zu HS _ HW
    clear hK K
    try simp only [aSet, aHead, aTail]
    exact tgo J4 (g11, wj.heap.size) (by (try dsimp only); rw [zu HA]; simp only [Act.put, aSet, aHead, aTail]) (by (try dsimp only); exact ⟨HW, B11, hg11, B12, hg12, hneg11g12⟩)
  rw [zu HA];refine till_three (i := 5) (j := 10) (k := 11) (by kernel_rfl) rfl rfl rfl (fun K hK => ?_) (fun K hK => ?_) (fun K hK => ?_)
  ·go_simp;refine (quoK b1 a1 l1 c1 (zs.getD q 0) b b3 a3 l3 c3 (extG (zs.getD q 0) (ys.getD q 0)) (max b k + 1) _ (y1.za HW) ((h3.za HW).ik (by omega)) (zu H0)).mono ?_;rintro e wk ⟨b11, a11, l11, c11, b12, a12, l12, c12, rfl, h11, h12, hb9⟩;replace HW := Below.step HW hb9;clear hb9;refine hK.out _ _ ?_ (fun zH => ?_)
   ·exact zu HS _ HW
   clear hK K
   try simp only [aSet, aHead, aTail]
   refine zfl 6 rfl ?_;simp only [zP];refine zfl 7 rfl ?_;simp only [zP];refine zfl 8 rfl ?_;simp only [zP];refine zfl 9 rfl ?_;simp only [zP];exact tgo J3 (b11, a11, l11, c11, b12, a12, l12, c12) (by (try dsimp only); rw [zu HA]; simp only [Act.put, aSet, aHead, aTail]) (by (try dsimp only); exact ⟨HW, h11, h12⟩)
  ·go_simp;have hwk : W1.heap.size ≤ vd1.heap.size := HW.size;obtain ⟨wk, hWe⟩ := newB vd1;obtain ⟨B11, hb9⟩ := boxes1 vd1 false none 0 0 hWe;rw [← hWe];clear hWe;replace HW := Below.step HW hb9;clear hb9;have hg11 := hwk;refine hK.out _ _ ?_ (fun zH => ?_)
   ·exact zu HS _ HW
   clear hK K
   try simp only [aSet, aHead, aTail]
   exact tgo J6 vd1.heap.size (by (try dsimp only); rw [zu HA]; simp only [Act.put, aSet, aHead, aTail]) (by (try dsimp only); exact ⟨HW, B11, hg11⟩)
  ·go_simp;have hwk : W1.heap.size ≤ vd1.heap.size := HW.size;obtain ⟨wk, hWe⟩ := newB vd1;obtain ⟨B12, hb9⟩ := boxes1 vd1 false none 0 0 hWe;rw [← hWe];clear hWe;replace HW := Below.step HW hb9;clear hb9;have hg12 := hwk;refine hK.out _ _ ?_ (fun zH => ?_)
   ·exact zu HS _ HW
   clear hK K
   try simp only [aSet, aHead, aTail]
   exact tgo J5 vd1.heap.size (by (try dsimp only); rw [zu HA]; simp only [Act.put, aSet, aHead, aTail]) (by (try dsimp only); exact ⟨HW, B12, hg12⟩)
 refine zmd 4 #[tT, tT, tT, tT, tT, tT, tT, tT, tT, tT, tT, tT, tT, tF, tT, tT, tF, tF, tF] (ι := Bool × Option Addr × Nat × Nat × Bool × Option Addr × Nat × Nat × Bool × Option Addr × Nat × Nat × Nat × Nat) (fun (b3, a3, l3, c3, b4, a4, l4, c4, b5, a5, l5, c5, g8, g9) => (((((((act0.put (some 27) (.tuple #[.agg #[.bool b3, .slice a3 l3 c3], .agg #[.bool b4, .slice a4 l4 c4], .agg #[.bool b5, .slice a5 l5 c5]])).put (some 18) (.tuple #[.agg #[.bool b3, .slice a3 l3 c3], .agg #[.bool b4, .slice a4 l4 c4], .agg #[.bool b5, .slice a5 l5 c5]])).put (some 28) (.agg #[.bool b3, .slice a3 l3 c3])).put (some 29) (.agg #[.bool b4, .slice a4 l4 c4])).put (some 30) (.agg #[.bool b5, .slice a5 l5 c5])).put (some 9) ((.pointer (some ⟨g8, 0, none⟩)))).put (some 10) ((.pointer (some ⟨g9, 0, none⟩))))) (fun (b3, a3, l3, c3, b4, a4, l4, c4, b5, a5, l5, c5, g8, g9) wz => Below w.heap.size w wz ∧ FK wz b3 a3 l3 c3 (extG (zs.getD q 0) (ys.getD q 0)) (max b k + 1) ∧ FK wz b4 a4 l4 c4 (extX (zs.getD q 0) (ys.getD q 0)) (max b k + 1) ∧ FK wz b5 a5 l5 c5 (extY (zs.getD q 0) (ys.getD q 0)) (max b k + 1) ∧ Box wz g8 false none 0 0 ∧ w.heap.size ≤ g8 ∧ Box wz g9 false none 0 0 ∧ w.heap.size ≤ g9 ∧ g8 ≠ g9) ?_ (fun J1 => ?_)
 ·rintro ⟨b3, a3, l3, c3, b4, a4, l4, c4, b5, a5, l5, c5, g8, g9⟩ wj hI
  try dsimp only at hI ⊢
  obtain ⟨HW, h3, h4, h5, B8, hg8, B9, hg9, hneg8g9⟩ := hI;have zH := zu HS _ HW;rw [zu HA];simp only [Act.put, aSet, aHead, aTail];refine tin 13 rfl fun K hK => ?_;go_simp;have hwk : w.heap.size ≤ wj.heap.size := HW.size;have hxg8 := B8.lt;have hxg9 := B9.lt;obtain ⟨wk, hWe⟩ := newB wj;obtain ⟨B7, hb9⟩ := boxes1 wj false none 0 0 hWe;rw [← hWe];clear hWe;replace HW := Below.step HW hb9;replace h3 := h3.za hb9;replace h4 := h4.za hb9;replace h5 := h5.za hb9;replace B8 := B8.za hb9;replace B9 := B9.za hb9;clear hb9;have hg7 := hwk;have hneg7g8 : wj.heap.size ≠ g8 := by omega
  have hneg7g9 : wj.heap.size ≠ g9 := by omega
  refine hK.out _ _ ?_ (fun zH => ?_)
  ·exact zu HS _ HW
  clear hK K
  try simp only [aSet, aHead, aTail]
  exact tgo J0 (b3, a3, l3, c3, b4, a4, l4, c4, b5, a5, l5, c5, wj.heap.size, g8, g9) (by (try dsimp only); rw [zu HA]; simp only [Act.put, aSet, aHead, aTail]) (by (try dsimp only); exact ⟨HW, h3, h4, h5, B7, hg7, B8, hg8, B9, hg9, hneg7g8, hneg7g9, hneg8g9⟩)
 refine zmd 4 #[tT, tT, tT, tT, tT, tT, tT, tT, tT, tT, tT, tT, tT, tT, tF, tT, tF, tF, tF] (ι := Bool × Option Addr × Nat × Nat × Bool × Option Addr × Nat × Nat × Bool × Option Addr × Nat × Nat × Nat × Nat) (fun (b3, a3, l3, c3, b4, a4, l4, c4, b5, a5, l5, c5, g7, g9) => (((((((act0.put (some 27) (.tuple #[.agg #[.bool b3, .slice a3 l3 c3], .agg #[.bool b4, .slice a4 l4 c4], .agg #[.bool b5, .slice a5 l5 c5]])).put (some 18) (.tuple #[.agg #[.bool b3, .slice a3 l3 c3], .agg #[.bool b4, .slice a4 l4 c4], .agg #[.bool b5, .slice a5 l5 c5]])).put (some 28) (.agg #[.bool b3, .slice a3 l3 c3])).put (some 29) (.agg #[.bool b4, .slice a4 l4 c4])).put (some 30) (.agg #[.bool b5, .slice a5 l5 c5])).put (some 8) ((.pointer (some ⟨g7, 0, none⟩)))).put (some 10) ((.pointer (some ⟨g9, 0, none⟩))))) (fun (b3, a3, l3, c3, b4, a4, l4, c4, b5, a5, l5, c5, g7, g9) wz => Below w.heap.size w wz ∧ FK wz b3 a3 l3 c3 (extG (zs.getD q 0) (ys.getD q 0)) (max b k + 1) ∧ FK wz b4 a4 l4 c4 (extX (zs.getD q 0) (ys.getD q 0)) (max b k + 1) ∧ FK wz b5 a5 l5 c5 (extY (zs.getD q 0) (ys.getD q 0)) (max b k + 1) ∧ Box wz g7 false none 0 0 ∧ w.heap.size ≤ g7 ∧ Box wz g9 false none 0 0 ∧ w.heap.size ≤ g9 ∧ g7 ≠ g9) ?_ (fun J2 => ?_)
 ·rintro ⟨b3, a3, l3, c3, b4, a4, l4, c4, b5, a5, l5, c5, g7, g9⟩ wj hI
  try dsimp only at hI ⊢
  obtain ⟨HW, h3, h4, h5, B7, hg7, B9, hg9, hneg7g9⟩ := hI;have zH := zu HS _ HW;rw [zu HA];simp only [Act.put, aSet, aHead, aTail];refine tin 14 rfl fun K hK => ?_;go_simp;have hwk : w.heap.size ≤ wj.heap.size := HW.size;have hxg7 := B7.lt;have hxg9 := B9.lt;obtain ⟨wk, hWe⟩ := newB wj;obtain ⟨B8, hb9⟩ := boxes1 wj false none 0 0 hWe;rw [← hWe];clear hWe;replace HW := Below.step HW hb9;replace h3 := h3.za hb9;replace h4 := h4.za hb9;replace h5 := h5.za hb9;replace B7 := B7.za hb9;replace B9 := B9.za hb9;clear hb9;have hg8 := hwk;have hneg7g8 : g7 ≠ wj.heap.size := by omega
  have hneg8g9 : wj.heap.size ≠ g9 := by omega
  refine hK.out _ _ ?_ (fun zH => ?_)
  ·exact zu HS _ HW
  clear hK K
  try simp only [aSet, aHead, aTail]
  exact tgo J0 (b3, a3, l3, c3, b4, a4, l4, c4, b5, a5, l5, c5, g7, wj.heap.size, g9) (by (try dsimp only); rw [zu HA]; simp only [Act.put, aSet, aHead, aTail]) (by (try dsimp only); exact ⟨HW, h3, h4, h5, B7, hg7, B8, hg8, B9, hg9, hneg7g8, hneg7g9, hneg8g9⟩)
 refine zmd 4 #[tT, tT, tT, tT, tT, tT, tT, tT, tT, tT, tT, tT, tT, tT, tT, tF, tF, tF, tF] (ι := Bool × Option Addr × Nat × Nat × Bool × Option Addr × Nat × Nat × Bool × Option Addr × Nat × Nat × Nat × Nat) (fun (b3, a3, l3, c3, b4, a4, l4, c4, b5, a5, l5, c5, g7, g8) => (((((((act0.put (some 27) (.tuple #[.agg #[.bool b3, .slice a3 l3 c3], .agg #[.bool b4, .slice a4 l4 c4], .agg #[.bool b5, .slice a5 l5 c5]])).put (some 18) (.tuple #[.agg #[.bool b3, .slice a3 l3 c3], .agg #[.bool b4, .slice a4 l4 c4], .agg #[.bool b5, .slice a5 l5 c5]])).put (some 28) (.agg #[.bool b3, .slice a3 l3 c3])).put (some 29) (.agg #[.bool b4, .slice a4 l4 c4])).put (some 30) (.agg #[.bool b5, .slice a5 l5 c5])).put (some 8) ((.pointer (some ⟨g7, 0, none⟩)))).put (some 9) ((.pointer (some ⟨g8, 0, none⟩))))) (fun (b3, a3, l3, c3, b4, a4, l4, c4, b5, a5, l5, c5, g7, g8) wz => Below w.heap.size w wz ∧ FK wz b3 a3 l3 c3 (extG (zs.getD q 0) (ys.getD q 0)) (max b k + 1) ∧ FK wz b4 a4 l4 c4 (extX (zs.getD q 0) (ys.getD q 0)) (max b k + 1) ∧ FK wz b5 a5 l5 c5 (extY (zs.getD q 0) (ys.getD q 0)) (max b k + 1) ∧ Box wz g7 false none 0 0 ∧ w.heap.size ≤ g7 ∧ Box wz g8 false none 0 0 ∧ w.heap.size ≤ g8 ∧ g7 ≠ g8) ?_ (fun J3 => ?_)
 ·rintro ⟨b3, a3, l3, c3, b4, a4, l4, c4, b5, a5, l5, c5, g7, g8⟩ wj hI
  try dsimp only at hI ⊢
  obtain ⟨HW, h3, h4, h5, B7, hg7, B8, hg8, hneg7g8⟩ := hI;have zH := zu HS _ HW;rw [zu HA];simp only [Act.put, aSet, aHead, aTail];refine tin 15 rfl fun K hK => ?_;go_simp;have hwk : w.heap.size ≤ wj.heap.size := HW.size;have hxg7 := B7.lt;have hxg8 := B8.lt;obtain ⟨wk, hWe⟩ := newB wj;obtain ⟨B9, hb9⟩ := boxes1 wj false none 0 0 hWe;rw [← hWe];clear hWe;replace HW := Below.step HW hb9;replace h3 := h3.za hb9;replace h4 := h4.za hb9;replace h5 := h5.za hb9;replace B7 := B7.za hb9;replace B8 := B8.za hb9;clear hb9;have hg9 := hwk;have hneg7g9 : g7 ≠ wj.heap.size := by omega
  have hneg8g9 : g8 ≠ wj.heap.size := by omega
  refine hK.out _ _ ?_ (fun zH => ?_)
  ·exact zu HS _ HW
  clear hK K
  try simp only [aSet, aHead, aTail]
  exact tgo J0 (b3, a3, l3, c3, b4, a4, l4, c4, b5, a5, l5, c5, g7, g8, wj.heap.size) (by (try dsimp only); rw [zu HA]; simp only [Act.put, aSet, aHead, aTail]) (by (try dsimp only); exact ⟨HW, h3, h4, h5, B7, hg7, B8, hg8, B9, hg9, hneg7g8, hneg7g9, hneg8g9⟩)
 refine zmd 5 #[tT, tT, tT, tT, tT, tT, tT, tT, tT, tT, tT, tT, tT, tF, tF, tT, tF, tF, tF] (ι := Bool × Option Addr × Nat × Nat × Bool × Option Addr × Nat × Nat × Bool × Option Addr × Nat × Nat × Nat) (fun (b3, a3, l3, c3, b4, a4, l4, c4, b5, a5, l5, c5, g9) => ((((((act0.put (some 27) (.tuple #[.agg #[.bool b3, .slice a3 l3 c3], .agg #[.bool b4, .slice a4 l4 c4], .agg #[.bool b5, .slice a5 l5 c5]])).put (some 18) (.tuple #[.agg #[.bool b3, .slice a3 l3 c3], .agg #[.bool b4, .slice a4 l4 c4], .agg #[.bool b5, .slice a5 l5 c5]])).put (some 28) (.agg #[.bool b3, .slice a3 l3 c3])).put (some 29) (.agg #[.bool b4, .slice a4 l4 c4])).put (some 30) (.agg #[.bool b5, .slice a5 l5 c5])).put (some 10) ((.pointer (some ⟨g9, 0, none⟩))))) (fun (b3, a3, l3, c3, b4, a4, l4, c4, b5, a5, l5, c5, g9) wz => Below w.heap.size w wz ∧ FK wz b3 a3 l3 c3 (extG (zs.getD q 0) (ys.getD q 0)) (max b k + 1) ∧ FK wz b4 a4 l4 c4 (extX (zs.getD q 0) (ys.getD q 0)) (max b k + 1) ∧ FK wz b5 a5 l5 c5 (extY (zs.getD q 0) (ys.getD q 0)) (max b k + 1) ∧ Box wz g9 false none 0 0 ∧ w.heap.size ≤ g9) ?_ (fun J4 => ?_)
 ·rintro ⟨b3, a3, l3, c3, b4, a4, l4, c4, b5, a5, l5, c5, g9⟩ wj hI
  try dsimp only at hI ⊢
  obtain ⟨HW, h3, h4, h5, B9, hg9⟩ := hI;have zH := zu HS _ HW;rw [zu HA];simp only [Act.put, aSet, aHead, aTail];refine ttwo 13 14 rfl rfl (fun K hK => ?_) (fun K hK => ?_)
  ·go_simp;have hwk : w.heap.size ≤ wj.heap.size := HW.size;have hxg9 := B9.lt;obtain ⟨wk, hWe⟩ := newB wj;obtain ⟨B7, hb9⟩ := boxes1 wj false none 0 0 hWe;rw [← hWe];clear hWe;replace HW := Below.step HW hb9;replace h3 := h3.za hb9;replace h4 := h4.za hb9;replace h5 := h5.za hb9;replace B9 := B9.za hb9;clear hb9;have hg7 := hwk;have hneg7g9 : wj.heap.size ≠ g9 := by omega
   refine hK.out _ _ ?_ (fun zH => ?_)
   ·exact zu HS _ HW
   clear hK K
   try simp only [aSet, aHead, aTail]
   exact tgo J2 (b3, a3, l3, c3, b4, a4, l4, c4, b5, a5, l5, c5, wj.heap.size, g9) (by (try dsimp only); rw [zu HA]; simp only [Act.put, aSet, aHead, aTail]) (by (try dsimp only); exact ⟨HW, h3, h4, h5, B7, hg7, B9, hg9, hneg7g9⟩)
  ·go_simp;have hwk : w.heap.size ≤ wj.heap.size := HW.size;have hxg9 := B9.lt;obtain ⟨wk, hWe⟩ := newB wj;obtain ⟨B8, hb9⟩ := boxes1 wj false none 0 0 hWe;rw [← hWe];clear hWe;replace HW := Below.step HW hb9;replace h3 := h3.za hb9;replace h4 := h4.za hb9;replace h5 := h5.za hb9;replace B9 := B9.za hb9;clear hb9;have hg8 := hwk;have hneg8g9 : wj.heap.size ≠ g9 := by omega
   refine hK.out _ _ ?_ (fun zH => ?_)
   ·exact zu HS _ HW
   clear hK K
   try simp only [aSet, aHead, aTail]
   exact tgo J1 (b3, a3, l3, c3, b4, a4, l4, c4, b5, a5, l5, c5, wj.heap.size, g9) (by (try dsimp only); rw [zu HA]; simp only [Act.put, aSet, aHead, aTail]) (by (try dsimp only); exact ⟨HW, h3, h4, h5, B8, hg8, B9, hg9, hneg8g9⟩)
 refine zmd 5 #[tT, tT, tT, tT, tT, tT, tT, tT, tT, tT, tT, tT, tT, tF, tT, tF, tF, tF, tF] (ι := Bool × Option Addr × Nat × Nat × Bool × Option Addr × Nat × Nat × Bool × Option Addr × Nat × Nat × Nat) (fun (b3, a3, l3, c3, b4, a4, l4, c4, b5, a5, l5, c5, g8) => ((((((act0.put (some 27) (.tuple #[.agg #[.bool b3, .slice a3 l3 c3], .agg #[.bool b4, .slice a4 l4 c4], .agg #[.bool b5, .slice a5 l5 c5]])).put (some 18) (.tuple #[.agg #[.bool b3, .slice a3 l3 c3], .agg #[.bool b4, .slice a4 l4 c4], .agg #[.bool b5, .slice a5 l5 c5]])).put (some 28) (.agg #[.bool b3, .slice a3 l3 c3])).put (some 29) (.agg #[.bool b4, .slice a4 l4 c4])).put (some 30) (.agg #[.bool b5, .slice a5 l5 c5])).put (some 9) ((.pointer (some ⟨g8, 0, none⟩))))) (fun (b3, a3, l3, c3, b4, a4, l4, c4, b5, a5, l5, c5, g8) wz => Below w.heap.size w wz ∧ FK wz b3 a3 l3 c3 (extG (zs.getD q 0) (ys.getD q 0)) (max b k + 1) ∧ FK wz b4 a4 l4 c4 (extX (zs.getD q 0) (ys.getD q 0)) (max b k + 1) ∧ FK wz b5 a5 l5 c5 (extY (zs.getD q 0) (ys.getD q 0)) (max b k + 1) ∧ Box wz g8 false none 0 0 ∧ w.heap.size ≤ g8) ?_ (fun J5 => ?_)
 ·rintro ⟨b3, a3, l3, c3, b4, a4, l4, c4, b5, a5, l5, c5, g8⟩ wj hI
  try dsimp only at hI ⊢
  obtain ⟨HW, h3, h4, h5, B8, hg8⟩ := hI;have zH := zu HS _ HW;rw [zu HA];simp only [Act.put, aSet, aHead, aTail];refine ttwo 13 15 rfl rfl (fun K hK => ?_) (fun K hK => ?_)
  ·go_simp;have hwk : w.heap.size ≤ wj.heap.size := HW.size;have hxg8 := B8.lt;obtain ⟨wk, hWe⟩ := newB wj;obtain ⟨B7, hb9⟩ := boxes1 wj false none 0 0 hWe;rw [← hWe];clear hWe;replace HW := Below.step HW hb9;replace h3 := h3.za hb9;replace h4 := h4.za hb9;replace h5 := h5.za hb9;replace B8 := B8.za hb9;clear hb9;have hg7 := hwk;have hneg7g8 : wj.heap.size ≠ g8 := by omega
   refine hK.out _ _ ?_ (fun zH => ?_)
   ·exact zu HS _ HW
   clear hK K
   try simp only [aSet, aHead, aTail]
   exact tgo J3 (b3, a3, l3, c3, b4, a4, l4, c4, b5, a5, l5, c5, wj.heap.size, g8) (by (try dsimp only); rw [zu HA]; simp only [Act.put, aSet, aHead, aTail]) (by (try dsimp only); exact ⟨HW, h3, h4, h5, B7, hg7, B8, hg8, hneg7g8⟩)
  ·go_simp;have hwk : w.heap.size ≤ wj.heap.size := HW.size;have hxg8 := B8.lt;obtain ⟨wk, hWe⟩ := newB wj;obtain ⟨B9, hb9⟩ := boxes1 wj false none 0 0 hWe;rw [← hWe];clear hWe;replace HW := Below.step HW hb9;replace h3 := h3.za hb9;replace h4 := h4.za hb9;replace h5 := h5.za hb9;replace B8 := B8.za hb9;clear hb9;have hg9 := hwk;have hneg8g9 : g8 ≠ wj.heap.size := by omega
   refine hK.out _ _ ?_ (fun zH => ?_)
   ·exact zu HS _ HW
   clear hK K
   try simp only [aSet, aHead, aTail]
   exact tgo J1 (b3, a3, l3, c3, b4, a4, l4, c4, b5, a5, l5, c5, g8, wj.heap.size) (by (try dsimp only); rw [zu HA]; simp only [Act.put, aSet, aHead, aTail]) (by (try dsimp only); exact ⟨HW, h3, h4, h5, B8, hg8, B9, hg9, hneg8g9⟩)
 refine zmd 5 #[tT, tT, tT, tT, tT, tT, tT, tT, tT, tT, tT, tT, tT, tT, tF, tF, tF, tF, tF] (ι := Bool × Option Addr × Nat × Nat × Bool × Option Addr × Nat × Nat × Bool × Option Addr × Nat × Nat × Nat) (fun (b3, a3, l3, c3, b4, a4, l4, c4, b5, a5, l5, c5, g7) => ((((((act0.put (some 27) (.tuple #[.agg #[.bool b3, .slice a3 l3 c3], .agg #[.bool b4, .slice a4 l4 c4], .agg #[.bool b5, .slice a5 l5 c5]])).put (some 18) (.tuple #[.agg #[.bool b3, .slice a3 l3 c3], .agg #[.bool b4, .slice a4 l4 c4], .agg #[.bool b5, .slice a5 l5 c5]])).put (some 28) (.agg #[.bool b3, .slice a3 l3 c3])).put (some 29) (.agg #[.bool b4, .slice a4 l4 c4])).put (some 30) (.agg #[.bool b5, .slice a5 l5 c5])).put (some 8) ((.pointer (some ⟨g7, 0, none⟩))))) (fun (b3, a3, l3, c3, b4, a4, l4, c4, b5, a5, l5, c5, g7) wz => Below w.heap.size w wz ∧ FK wz b3 a3 l3 c3 (extG (zs.getD q 0) (ys.getD q 0)) (max b k + 1) ∧ FK wz b4 a4 l4 c4 (extX (zs.getD q 0) (ys.getD q 0)) (max b k + 1) ∧ FK wz b5 a5 l5 c5 (extY (zs.getD q 0) (ys.getD q 0)) (max b k + 1) ∧ Box wz g7 false none 0 0 ∧ w.heap.size ≤ g7) ?_ (fun J6 => ?_)
 ·rintro ⟨b3, a3, l3, c3, b4, a4, l4, c4, b5, a5, l5, c5, g7⟩ wj hI
  try dsimp only at hI ⊢
  obtain ⟨HW, h3, h4, h5, B7, hg7⟩ := hI;have zH := zu HS _ HW;rw [zu HA];simp only [Act.put, aSet, aHead, aTail];refine ttwo 14 15 rfl rfl (fun K hK => ?_) (fun K hK => ?_)
  ·go_simp;have hwk : w.heap.size ≤ wj.heap.size := HW.size;have hxg7 := B7.lt;obtain ⟨wk, hWe⟩ := newB wj;obtain ⟨B8, hb9⟩ := boxes1 wj false none 0 0 hWe;rw [← hWe];clear hWe;replace HW := Below.step HW hb9;replace h3 := h3.za hb9;replace h4 := h4.za hb9;replace h5 := h5.za hb9;replace B7 := B7.za hb9;clear hb9;have hg8 := hwk;have hneg7g8 : g7 ≠ wj.heap.size := by omega
   refine hK.out _ _ ?_ (fun zH => ?_)
   ·exact zu HS _ HW
   clear hK K
   try simp only [aSet, aHead, aTail]
   exact tgo J3 (b3, a3, l3, c3, b4, a4, l4, c4, b5, a5, l5, c5, g7, wj.heap.size) (by (try dsimp only); rw [zu HA]; simp only [Act.put, aSet, aHead, aTail]) (by (try dsimp only); exact ⟨HW, h3, h4, h5, B7, hg7, B8, hg8, hneg7g8⟩)
  ·go_simp;have hwk : w.heap.size ≤ wj.heap.size := HW.size;have hxg7 := B7.lt;obtain ⟨wk, hWe⟩ := newB wj;obtain ⟨B9, hb9⟩ := boxes1 wj false none 0 0 hWe;rw [← hWe];clear hWe;replace HW := Below.step HW hb9;replace h3 := h3.za hb9;replace h4 := h4.za hb9;replace h5 := h5.za hb9;replace B7 := B7.za hb9;clear hb9;have hg9 := hwk;have hneg7g9 : g7 ≠ wj.heap.size := by omega
   refine hK.out _ _ ?_ (fun zH => ?_)
   ·exact zu HS _ HW
   clear hK K
   try simp only [aSet, aHead, aTail]
   exact tgo J2 (b3, a3, l3, c3, b4, a4, l4, c4, b5, a5, l5, c5, g7, wj.heap.size) (by (try dsimp only); rw [zu HA]; simp only [Act.put, aSet, aHead, aTail]) (by (try dsimp only); exact ⟨HW, h3, h4, h5, B7, hg7, B9, hg9, hneg7g9⟩)
 refine zmd 6 #[tT, tT, tT, tT, tT, tT, tT, tT, tT, tT, tT, tT, tT, tF, tF, tF, tF, tF, tF] (ι := Bool × Option Addr × Nat × Nat × Bool × Option Addr × Nat × Nat × Bool × Option Addr × Nat × Nat) (fun (b3, a3, l3, c3, b4, a4, l4, c4, b5, a5, l5, c5) => (((((act0.put (some 27) (.tuple #[.agg #[.bool b3, .slice a3 l3 c3], .agg #[.bool b4, .slice a4 l4 c4], .agg #[.bool b5, .slice a5 l5 c5]])).put (some 18) (.tuple #[.agg #[.bool b3, .slice a3 l3 c3], .agg #[.bool b4, .slice a4 l4 c4], .agg #[.bool b5, .slice a5 l5 c5]])).put (some 28) (.agg #[.bool b3, .slice a3 l3 c3])).put (some 29) (.agg #[.bool b4, .slice a4 l4 c4])).put (some 30) (.agg #[.bool b5, .slice a5 l5 c5]))) (fun (b3, a3, l3, c3, b4, a4, l4, c4, b5, a5, l5, c5) wz => Below w.heap.size w wz ∧ FK wz b3 a3 l3 c3 (extG (zs.getD q 0) (ys.getD q 0)) (max b k + 1) ∧ FK wz b4 a4 l4 c4 (extX (zs.getD q 0) (ys.getD q 0)) (max b k + 1) ∧ FK wz b5 a5 l5 c5 (extY (zs.getD q 0) (ys.getD q 0)) (max b k + 1)) ?_ (fun J7 => ?_)
 ·rintro ⟨b3, a3, l3, c3, b4, a4, l4, c4, b5, a5, l5, c5⟩ wj hI
  try dsimp only at hI ⊢
  obtain ⟨HW, h3, h4, h5⟩ := hI;have zH := zu HS _ HW;rw [zu HA];simp only [Act.put, aSet, aHead, aTail];refine till_three (i := 13) (j := 14) (k := 15) (by kernel_rfl) rfl rfl rfl (fun K hK => ?_) (fun K hK => ?_) (fun K hK => ?_)
  ·go_simp;have hwk : w.heap.size ≤ wj.heap.size := HW.size;obtain ⟨wk, hWe⟩ := newB wj;obtain ⟨B7, hb9⟩ := boxes1 wj false none 0 0 hWe;rw [← hWe];clear hWe;replace HW := Below.step HW hb9;replace h3 := h3.za hb9;replace h4 := h4.za hb9;replace h5 := h5.za hb9;clear hb9;have hg7 := hwk;refine hK.out _ _ ?_ (fun zH => ?_)
   ·exact zu HS _ HW
   clear hK K
   try simp only [aSet, aHead, aTail]
   exact tgo J6 (b3, a3, l3, c3, b4, a4, l4, c4, b5, a5, l5, c5, wj.heap.size) (by (try dsimp only); rw [zu HA]; simp only [Act.put, aSet, aHead, aTail]) (by (try dsimp only); exact ⟨HW, h3, h4, h5, B7, hg7⟩)
  ·go_simp;have hwk : w.heap.size ≤ wj.heap.size := HW.size;obtain ⟨wk, hWe⟩ := newB wj;obtain ⟨B8, hb9⟩ := boxes1 wj false none 0 0 hWe;rw [← hWe];clear hWe;replace HW := Below.step HW hb9;replace h3 := h3.za hb9;replace h4 := h4.za hb9;replace h5 := h5.za hb9;clear hb9;have hg8 := hwk;refine hK.out _ _ ?_ (fun zH => ?_)
   ·exact zu HS _ HW
   clear hK K
   try simp only [aSet, aHead, aTail]
   exact tgo J5 (b3, a3, l3, c3, b4, a4, l4, c4, b5, a5, l5, c5, wj.heap.size) (by (try dsimp only); rw [zu HA]; simp only [Act.put, aSet, aHead, aTail]) (by (try dsimp only); exact ⟨HW, h3, h4, h5, B8, hg8⟩)
  ·go_simp;have hwk : w.heap.size ≤ wj.heap.size := HW.size;obtain ⟨wk, hWe⟩ := newB wj;obtain ⟨B9, hb9⟩ := boxes1 wj false none 0 0 hWe;rw [← hWe];clear hWe;replace HW := Below.step HW hb9;replace h3 := h3.za hb9;replace h4 := h4.za hb9;replace h5 := h5.za hb9;clear hb9;have hg9 := hwk;refine hK.out _ _ ?_ (fun zH => ?_)
   ·exact zu HS _ HW
   clear hK K
   try simp only [aSet, aHead, aTail]
   exact tgo J4 (b3, a3, l3, c3, b4, a4, l4, c4, b5, a5, l5, c5, wj.heap.size) (by (try dsimp only); rw [zu HA]; simp only [Act.put, aSet, aHead, aTail]) (by (try dsimp only); exact ⟨HW, h3, h4, h5, B9, hg9⟩)
 refine zmd 8 #[tT, tT, tT, tT, tT, tT, tT, tT, tF, tF, tF, tF, tF, tT, tT, tT, tF, tF, tF] (ι := Nat × Nat × Nat) (fun (g7, g8, g9) => (((act0.put (some 8) ((.pointer (some ⟨g7, 0, none⟩)))).put (some 9) ((.pointer (some ⟨g8, 0, none⟩)))).put (some 10) ((.pointer (some ⟨g9, 0, none⟩))))) (fun (g7, g8, g9) wz => Below w.heap.size w wz ∧ Box wz g7 false none 0 0 ∧ w.heap.size ≤ g7 ∧ Box wz g8 false none 0 0 ∧ w.heap.size ≤ g8 ∧ Box wz g9 false none 0 0 ∧ w.heap.size ≤ g9 ∧ g7 ≠ g8 ∧ g7 ≠ g9 ∧ g8 ≠ g9) ?_ (fun J8 => ?_)
 ·rintro ⟨g7, g8, g9⟩ wj hI
  try dsimp only at hI ⊢
  obtain ⟨HW, B7, hg7, B8, hg8, B9, hg9, hneg7g8, hneg7g9, hneg8g9⟩ := hI;have zH := zu HS _ HW;rw [zu HA];simp only [Act.put, aSet, aHead, aTail];refine tin 8 rfl fun K hK => ?_;go_simp;refine (extK b1 a1 l1 c1 (zs.getD q 0) b b2 a2 l2 c2 (ys.getD q 0) k _ (y1.za HW) (y2.za HW) (by omega) (by omega)).mono ?_;rintro e wk ⟨b3, a3, l3, c3, b4, a4, l4, c4, b5, a5, l5, c5, rfl, h3, h4, h5, hb9⟩;replace HW := Below.step HW hb9;replace B7 := B7.za hb9;replace B8 := B8.za hb9;replace B9 := B9.za hb9;clear hb9;refine hK.out _ _ ?_ (fun zH => ?_)
  ·exact zu HS _ HW
  clear hK K
  try simp only [aSet, aHead, aTail]
  refine zfl 9 rfl ?_;simp only [zP];refine zfl 10 rfl ?_;simp only [zP];refine zfl 11 rfl ?_;simp only [zP];refine zfl 12 rfl ?_;simp only [zP];exact tgo J0 (b3, a3, l3, c3, b4, a4, l4, c4, b5, a5, l5, c5, g7, g8, g9) (by (try dsimp only); rw [zu HA]; simp only [Act.put, aSet, aHead, aTail]) (by (try dsimp only); exact ⟨HW, h3, h4, h5, B7, hg7, B8, hg8, B9, hg9, hneg7g8, hneg7g9, hneg8g9⟩)
 refine zmd 9 #[tT, tT, tT, tT, tT, tT, tT, tT, tF, tF, tF, tF, tF, tF, tT, tT, tF, tF, tF] (ι := Nat × Nat) (fun (g8, g9) => ((act0.put (some 9) ((.pointer (some ⟨g8, 0, none⟩)))).put (some 10) ((.pointer (some ⟨g9, 0, none⟩))))) (fun (g8, g9) wz => Below w.heap.size w wz ∧ Box wz g8 false none 0 0 ∧ w.heap.size ≤ g8 ∧ Box wz g9 false none 0 0 ∧ w.heap.size ≤ g9 ∧ g8 ≠ g9) ?_ (fun J9 => ?_)
 ·rintro ⟨g8, g9⟩ wj hI
  try dsimp only at hI ⊢
  obtain ⟨HW, B8, hg8, B9, hg9, hneg8g9⟩ := hI;have zH := zu HS _ HW;rw [zu HA];simp only [Act.put, aSet, aHead, aTail];refine ttwo 8 13 rfl rfl (fun K hK => ?_) (fun K hK => ?_)
  ·go_simp;refine (extK b1 a1 l1 c1 (zs.getD q 0) b b2 a2 l2 c2 (ys.getD q 0) k _ (y1.za HW) (y2.za HW) (by omega) (by omega)).mono ?_;rintro e wk ⟨b3, a3, l3, c3, b4, a4, l4, c4, b5, a5, l5, c5, rfl, h3, h4, h5, hb9⟩;replace HW := Below.step HW hb9;replace B8 := B8.za hb9;replace B9 := B9.za hb9;clear hb9;refine hK.out _ _ ?_ (fun zH => ?_)
   ·exact zu HS _ HW
   clear hK K
   try simp only [aSet, aHead, aTail]
   refine zfl 9 rfl ?_;simp only [zP];refine zfl 10 rfl ?_;simp only [zP];refine zfl 11 rfl ?_;simp only [zP];refine zfl 12 rfl ?_;simp only [zP];exact tgo J1 (b3, a3, l3, c3, b4, a4, l4, c4, b5, a5, l5, c5, g8, g9) (by (try dsimp only); rw [zu HA]; simp only [Act.put, aSet, aHead, aTail]) (by (try dsimp only); exact ⟨HW, h3, h4, h5, B8, hg8, B9, hg9, hneg8g9⟩)
  ·go_simp;have hwk : w.heap.size ≤ wj.heap.size := HW.size;have hxg8 := B8.lt;have hxg9 := B9.lt;obtain ⟨wk, hWe⟩ := newB wj;obtain ⟨B7, hb9⟩ := boxes1 wj false none 0 0 hWe;rw [← hWe];clear hWe;replace HW := Below.step HW hb9;replace B8 := B8.za hb9;replace B9 := B9.za hb9;clear hb9;have hg7 := hwk;have hneg7g8 : wj.heap.size ≠ g8 := by omega
   have hneg7g9 : wj.heap.size ≠ g9 := by omega
   refine hK.out _ _ ?_ (fun zH => ?_)
   ·exact zu HS _ HW
   clear hK K
   try simp only [aSet, aHead, aTail]
   exact tgo J8 (wj.heap.size, g8, g9) (by (try dsimp only); rw [zu HA]; simp only [Act.put, aSet, aHead, aTail]) (by (try dsimp only); exact ⟨HW, B7, hg7, B8, hg8, B9, hg9, hneg7g8, hneg7g9, hneg8g9⟩)
 refine zmd 9 #[tT, tT, tT, tT, tT, tT, tT, tT, tF, tF, tF, tF, tF, tT, tF, tT, tF, tF, tF] (ι := Nat × Nat) (fun (g7, g9) => ((act0.put (some 8) ((.pointer (some ⟨g7, 0, none⟩)))).put (some 10) ((.pointer (some ⟨g9, 0, none⟩))))) (fun (g7, g9) wz => Below w.heap.size w wz ∧ Box wz g7 false none 0 0 ∧ w.heap.size ≤ g7 ∧ Box wz g9 false none 0 0 ∧ w.heap.size ≤ g9 ∧ g7 ≠ g9) ?_ (fun J10 => ?_)
 ·rintro ⟨g7, g9⟩ wj hI
  try dsimp only at hI ⊢
  obtain ⟨HW, B7, hg7, B9, hg9, hneg7g9⟩ := hI;have zH := zu HS _ HW;rw [zu HA];simp only [Act.put, aSet, aHead, aTail];refine ttwo 8 14 rfl rfl (fun K hK => ?_) (fun K hK => ?_)
  ·go_simp;refine (extK b1 a1 l1 c1 (zs.getD q 0) b b2 a2 l2 c2 (ys.getD q 0) k _ (y1.za HW) (y2.za HW) (by omega) (by omega)).mono ?_;rintro e wk ⟨b3, a3, l3, c3, b4, a4, l4, c4, b5, a5, l5, c5, rfl, h3, h4, h5, hb9⟩;replace HW := Below.step HW hb9;replace B7 := B7.za hb9;replace B9 := B9.za hb9;clear hb9;refine hK.out _ _ ?_ (fun zH => ?_)
   ·exact zu HS _ HW
   clear hK K
   try simp only [aSet, aHead, aTail]
   refine zfl 9 rfl ?_;simp only [zP];refine zfl 10 rfl ?_;simp only [zP];refine zfl 11 rfl ?_;simp only [zP];refine zfl 12 rfl ?_;simp only [zP];exact tgo J2 (b3, a3, l3, c3, b4, a4, l4, c4, b5, a5, l5, c5, g7, g9) (by (try dsimp only); rw [zu HA]; simp only [Act.put, aSet, aHead, aTail]) (by (try dsimp only); exact ⟨HW, h3, h4, h5, B7, hg7, B9, hg9, hneg7g9⟩)
  ·go_simp;have hwk : w.heap.size ≤ wj.heap.size := HW.size;have hxg7 := B7.lt;have hxg9 := B9.lt;obtain ⟨wk, hWe⟩ := newB wj;obtain ⟨B8, hb9⟩ := boxes1 wj false none 0 0 hWe;rw [← hWe];clear hWe;replace HW := Below.step HW hb9;replace B7 := B7.za hb9;replace B9 := B9.za hb9;clear hb9;have hg8 := hwk;have hneg7g8 : g7 ≠ wj.heap.size := by omega
   have hneg8g9 : wj.heap.size ≠ g9 := by omega
   refine hK.out _ _ ?_ (fun zH => ?_)
   ·exact zu HS _ HW
   clear hK K
   try simp only [aSet, aHead, aTail]
   exact tgo J8 (g7, wj.heap.size, g9) (by (try dsimp only); rw [zu HA]; simp only [Act.put, aSet, aHead, aTail]) (by (try dsimp only); exact ⟨HW, B7, hg7, B8, hg8, B9, hg9, hneg7g8, hneg7g9, hneg8g9⟩)
 refine zmd 9 #[tT, tT, tT, tT, tT, tT, tT, tT, tF, tF, tF, tF, tF, tT, tT, tF, tF, tF, tF] (ι := Nat × Nat) (fun (g7, g8) => ((act0.put (some 8) ((.pointer (some ⟨g7, 0, none⟩)))).put (some 9) ((.pointer (some ⟨g8, 0, none⟩))))) (fun (g7, g8) wz => Below w.heap.size w wz ∧ Box wz g7 false none 0 0 ∧ w.heap.size ≤ g7 ∧ Box wz g8 false none 0 0 ∧ w.heap.size ≤ g8 ∧ g7 ≠ g8) ?_ (fun J11 => ?_)
 ·rintro ⟨g7, g8⟩ wj hI
  try dsimp only at hI ⊢
  obtain ⟨HW, B7, hg7, B8, hg8, hneg7g8⟩ := hI;have zH := zu HS _ HW;rw [zu HA];simp only [Act.put, aSet, aHead, aTail];refine ttwo 8 15 rfl rfl (fun K hK => ?_) (fun K hK => ?_)
  ·go_simp;refine (extK b1 a1 l1 c1 (zs.getD q 0) b b2 a2 l2 c2 (ys.getD q 0) k _ (y1.za HW) (y2.za HW) (by omega) (by omega)).mono ?_;rintro e wk ⟨b3, a3, l3, c3, b4, a4, l4, c4, b5, a5, l5, c5, rfl, h3, h4, h5, hb9⟩;replace HW := Below.step HW hb9;replace B7 := B7.za hb9;replace B8 := B8.za hb9;clear hb9;refine hK.out _ _ ?_ (fun zH => ?_)
   ·exact zu HS _ HW
   clear hK K
   try simp only [aSet, aHead, aTail]
   refine zfl 9 rfl ?_;simp only [zP];refine zfl 10 rfl ?_;simp only [zP];refine zfl 11 rfl ?_;simp only [zP];refine zfl 12 rfl ?_;simp only [zP];exact tgo J3 (b3, a3, l3, c3, b4, a4, l4, c4, b5, a5, l5, c5, g7, g8) (by (try dsimp only); rw [zu HA]; simp only [Act.put, aSet, aHead, aTail]) (by (try dsimp only); exact ⟨HW, h3, h4, h5, B7, hg7, B8, hg8, hneg7g8⟩)
  ·go_simp;have hwk : w.heap.size ≤ wj.heap.size := HW.size;have hxg7 := B7.lt;have hxg8 := B8.lt;obtain ⟨wk, hWe⟩ := newB wj;obtain ⟨B9, hb9⟩ := boxes1 wj false none 0 0 hWe;rw [← hWe];clear hWe;replace HW := Below.step HW hb9;replace B7 := B7.za hb9;replace B8 := B8.za hb9;clear hb9;have hg9 := hwk;have hneg7g9 : g7 ≠ wj.heap.size := by omega
   have hneg8g9 : g8 ≠ wj.heap.size := by omega
   refine hK.out _ _ ?_ (fun zH => ?_)
   ·exact zu HS _ HW
   clear hK K
   try simp only [aSet, aHead, aTail]
   exact tgo J8 (g7, g8, wj.heap.size) (by (try dsimp only); rw [zu HA]; simp only [Act.put, aSet, aHead, aTail]) (by (try dsimp only); exact ⟨HW, B7, hg7, B8, hg8, B9, hg9, hneg7g8, hneg7g9, hneg8g9⟩)
 refine zmd 10 #[tT, tT, tT, tT, tT, tT, tT, tT, tF, tF, tF, tF, tF, tF, tF, tT, tF, tF, tF] (ι := Nat) (fun g9 => (act0.put (some 10) ((.pointer (some ⟨g9, 0, none⟩))))) (fun g9 wz => Below w.heap.size w wz ∧ Box wz g9 false none 0 0 ∧ w.heap.size ≤ g9) ?_ (fun J12 => ?_)
 ·rintro g9 wj hI
  try dsimp only at hI ⊢
  obtain ⟨HW, B9, hg9⟩ := hI;have zH := zu HS _ HW;rw [zu HA];simp only [Act.put, aSet, aHead, aTail];refine till_three (i := 8) (j := 13) (k := 14) (by kernel_rfl) rfl rfl rfl (fun K hK => ?_) (fun K hK => ?_) (fun K hK => ?_)
  ·go_simp;refine (extK b1 a1 l1 c1 (zs.getD q 0) b b2 a2 l2 c2 (ys.getD q 0) k _ (y1.za HW) (y2.za HW) (by omega) (by omega)).mono ?_;rintro e wk ⟨b3, a3, l3, c3, b4, a4, l4, c4, b5, a5, l5, c5, rfl, h3, h4, h5, hb9⟩;replace HW := Below.step HW hb9;replace B9 := B9.za hb9;clear hb9;refine hK.out _ _ ?_ (fun zH => ?_)
   ·exact zu HS _ HW
   clear hK K
   try simp only [aSet, aHead, aTail]
   refine zfl 9 rfl ?_;simp only [zP];refine zfl 10 rfl ?_;simp only [zP];refine zfl 11 rfl ?_;simp only [zP];refine zfl 12 rfl ?_;simp only [zP];exact tgo J4 (b3, a3, l3, c3, b4, a4, l4, c4, b5, a5, l5, c5, g9) (by (try dsimp only); rw [zu HA]; simp only [Act.put, aSet, aHead, aTail]) (by (try dsimp only); exact ⟨HW, h3, h4, h5, B9, hg9⟩)
  ·go_simp;have hwk : w.heap.size ≤ wj.heap.size := HW.size;have hxg9 := B9.lt;obtain ⟨wk, hWe⟩ := newB wj;obtain ⟨B7, hb9⟩ := boxes1 wj false none 0 0 hWe;rw [← hWe];clear hWe;replace HW := Below.step HW hb9;replace B9 := B9.za hb9;clear hb9;have hg7 := hwk;have hneg7g9 : wj.heap.size ≠ g9 := by omega
   refine hK.out _ _ ?_ (fun zH => ?_)
   ·exact zu HS _ HW
   clear hK K
   try simp only [aSet, aHead, aTail]
   exact tgo J10 (wj.heap.size, g9) (by (try dsimp only); rw [zu HA]; simp only [Act.put, aSet, aHead, aTail]) (by (try dsimp only); exact ⟨HW, B7, hg7, B9, hg9, hneg7g9⟩)
  ·go_simp;have hwk : w.heap.size ≤ wj.heap.size := HW.size;have hxg9 := B9.lt;obtain ⟨wk, hWe⟩ := newB wj;obtain ⟨B8, hb9⟩ := boxes1 wj false none 0 0 hWe;rw [← hWe];clear hWe;replace HW := Below.step HW hb9;replace B9 := B9.za hb9;clear hb9;have hg8 := hwk;have hneg8g9 : wj.heap.size ≠ g9 := by omega
   refine hK.out _ _ ?_ (fun zH => ?_)
   ·exact zu HS _ HW
   clear hK K
   try simp only [aSet, aHead, aTail]
   exact tgo J9 (wj.heap.size, g9) (by (try dsimp only); rw [zu HA]; simp only [Act.put, aSet, aHead, aTail]) (by (try dsimp only); exact ⟨HW, B8, hg8, B9, hg9, hneg8g9⟩)
 refine zmd 10 #[tT, tT, tT, tT, tT, tT, tT, tT, tF, tF, tF, tF, tF, tF, tT, tF, tF, tF, tF] (ι := Nat) (fun g8 => (act0.put (some 9) ((.pointer (some ⟨g8, 0, none⟩))))) (fun g8 wz => Below w.heap.size w wz ∧ Box wz g8 false none 0 0 ∧ w.heap.size ≤ g8) ?_ (fun J13 => ?_)
 ·rintro g8 wj hI
  try dsimp only at hI ⊢
  obtain ⟨HW, B8, hg8⟩ := hI;have zH := zu HS _ HW;rw [zu HA];simp only [Act.put, aSet, aHead, aTail];refine till_three (i := 8) (j := 13) (k := 15) (by kernel_rfl) rfl rfl rfl (fun K hK => ?_) (fun K hK => ?_) (fun K hK => ?_)
  ·go_simp;refine (extK b1 a1 l1 c1 (zs.getD q 0) b b2 a2 l2 c2 (ys.getD q 0) k _ (y1.za HW) (y2.za HW) (by omega) (by omega)).mono ?_;rintro e wk ⟨b3, a3, l3, c3, b4, a4, l4, c4, b5, a5, l5, c5, rfl, h3, h4, h5, hb9⟩;replace HW := Below.step HW hb9;replace B8 := B8.za hb9;clear hb9;refine hK.out _ _ ?_ (fun zH => ?_)
   ·exact zu HS _ HW
   clear hK K
   try simp only [aSet, aHead, aTail]
   refine zfl 9 rfl ?_;simp only [zP];refine zfl 10 rfl ?_;simp only [zP];refine zfl 11 rfl ?_;simp only [zP];refine zfl 12 rfl ?_;simp only [zP];exact tgo J5 (b3, a3, l3, c3, b4, a4, l4, c4, b5, a5, l5, c5, g8) (by (try dsimp only); rw [zu HA]; simp only [Act.put, aSet, aHead, aTail]) (by (try dsimp only); exact ⟨HW, h3, h4, h5, B8, hg8⟩)
  ·go_simp;have hwk : w.heap.size ≤ wj.heap.size := HW.size;have hxg8 := B8.lt;obtain ⟨wk, hWe⟩ := newB wj;obtain ⟨B7, hb9⟩ := boxes1 wj false none 0 0 hWe;rw [← hWe];clear hWe;replace HW := Below.step HW hb9;replace B8 := B8.za hb9;clear hb9;have hg7 := hwk;have hneg7g8 : wj.heap.size ≠ g8 := by omega
   refine hK.out _ _ ?_ (fun zH => ?_)
   ·exact zu HS _ HW
   clear hK K
   try simp only [aSet, aHead, aTail]
   exact tgo J11 (wj.heap.size, g8) (by (try dsimp only); rw [zu HA]; simp only [Act.put, aSet, aHead, aTail]) (by (try dsimp only); exact ⟨HW, B7, hg7, B8, hg8, hneg7g8⟩)
  ·go_simp;have hwk : w.heap.size ≤ wj.heap.size := HW.size;have hxg8 := B8.lt;obtain ⟨wk, hWe⟩ := newB wj;obtain ⟨B9, hb9⟩ := boxes1 wj false none 0 0 hWe;rw [← hWe];clear hWe;replace HW := Below.step HW hb9;replace B8 := B8.za hb9;clear hb9;have hg9 := hwk;have hneg8g9 : g8 ≠ wj.heap.size := by omega
   refine hK.out _ _ ?_ (fun zH => ?_)
   ·exact zu HS _ HW
   clear hK K
   try simp only [aSet, aHead, aTail]
   exact tgo J9 (g8, wj.heap.size) (by (try dsimp only); rw [zu HA]; simp only [Act.put, aSet, aHead, aTail]) (by (try dsimp only); exact ⟨HW, B8, hg8, B9, hg9, hneg8g9⟩)
 refine zmd 10 #[tT, tT, tT, tT, tT, tT, tT, tT, tF, tF, tF, tF, tF, tT, tF, tF, tF, tF, tF] (ι := Nat) (fun g7 => (act0.put (some 8) ((.pointer (some ⟨g7, 0, none⟩))))) (fun g7 wz => Below w.heap.size w wz ∧ Box wz g7 false none 0 0 ∧ w.heap.size ≤ g7) ?_ (fun J14 => ?_)
 ·rintro g7 wj hI
  try dsimp only at hI ⊢
  obtain ⟨HW, B7, hg7⟩ := hI;have zH := zu HS _ HW;rw [zu HA];simp only [Act.put, aSet, aHead, aTail];refine till_three (i := 8) (j := 14) (k := 15) (by kernel_rfl) rfl rfl rfl (fun K hK => ?_) (fun K hK => ?_) (fun K hK => ?_)
  ·go_simp;refine (extK b1 a1 l1 c1 (zs.getD q 0) b b2 a2 l2 c2 (ys.getD q 0) k _ (y1.za HW) (y2.za HW) (by omega) (by omega)).mono ?_;rintro e wk ⟨b3, a3, l3, c3, b4, a4, l4, c4, b5, a5, l5, c5, rfl, h3, h4, h5, hb9⟩;replace HW := Below.step HW hb9;replace B7 := B7.za hb9;clear hb9;refine hK.out _ _ ?_ (fun zH => ?_)
   ·exact zu HS _ HW
   clear hK K
   try simp only [aSet, aHead, aTail]
   refine zfl 9 rfl ?_;simp only [zP];refine zfl 10 rfl ?_;simp only [zP];refine zfl 11 rfl ?_;simp only [zP];refine zfl 12 rfl ?_;simp only [zP];exact tgo J6 (b3, a3, l3, c3, b4, a4, l4, c4, b5, a5, l5, c5, g7) (by (try dsimp only); rw [zu HA]; simp only [Act.put, aSet, aHead, aTail]) (by (try dsimp only); exact ⟨HW, h3, h4, h5, B7, hg7⟩)
  ·go_simp;have hwk : w.heap.size ≤ wj.heap.size := HW.size;have hxg7 := B7.lt;obtain ⟨wk, hWe⟩ := newB wj;obtain ⟨B8, hb9⟩ := boxes1 wj false none 0 0 hWe;rw [← hWe];clear hWe;replace HW := Below.step HW hb9;replace B7 := B7.za hb9;clear hb9;have hg8 := hwk;have hneg7g8 : g7 ≠ wj.heap.size := by omega
   refine hK.out _ _ ?_ (fun zH => ?_)
   ·exact zu HS _ HW
   clear hK K
   try simp only [aSet, aHead, aTail]
   exact tgo J11 (g7, wj.heap.size) (by (try dsimp only); rw [zu HA]; simp only [Act.put, aSet, aHead, aTail]) (by (try dsimp only); exact ⟨HW, B7, hg7, B8, hg8, hneg7g8⟩)
  ·go_simp;have hwk : w.heap.size ≤ wj.heap.size := HW.size;have hxg7 := B7.lt;obtain ⟨wk, hWe⟩ := newB wj;obtain ⟨B9, hb9⟩ := boxes1 wj false none 0 0 hWe;rw [← hWe];clear hWe;replace HW := Below.step HW hb9;replace B7 := B7.za hb9;clear hb9;have hg9 := hwk;have hneg7g9 : g7 ≠ wj.heap.size := by omega
   refine hK.out _ _ ?_ (fun zH => ?_)
   ·exact zu HS _ HW
   clear hK K
   try simp only [aSet, aHead, aTail]
   exact tgo J10 (g7, wj.heap.size) (by (try dsimp only); rw [zu HA]; simp only [Act.put, aSet, aHead, aTail]) (by (try dsimp only); exact ⟨HW, B7, hg7, B9, hg9, hneg7g9⟩)
 rw [zu HA];refine till_four (i := 8) (j := 13) (k := 14) (m := 15) (by kernel_rfl) rfl rfl rfl rfl (fun K hK => ?_) (fun K hK => ?_) (fun K hK => ?_) (fun K hK => ?_)
 ·go_simp;refine (extK b1 a1 l1 c1 (zs.getD q 0) b b2 a2 l2 c2 (ys.getD q 0) k _ (y1.za HW) (y2.za HW) (by omega) (by omega)).mono ?_;rintro e wk ⟨b3, a3, l3, c3, b4, a4, l4, c4, b5, a5, l5, c5, rfl, h3, h4, h5, hb9⟩;replace HW := Below.step HW hb9;clear hb9;refine hK.out _ _ ?_ (fun zH => ?_)
  ·exact zu HS _ HW
  clear hK K
  try simp only [aSet, aHead, aTail]
  refine zfl 9 rfl ?_;simp only [zP];refine zfl 10 rfl ?_;simp only [zP];refine zfl 11 rfl ?_;simp only [zP];refine zfl 12 rfl ?_;simp only [zP];exact tgo J7 (b3, a3, l3, c3, b4, a4, l4, c4, b5, a5, l5, c5) (by (try dsimp only); rw [zu HA]; simp only [Act.put, aSet, aHead, aTail]) (by (try dsimp only); exact ⟨HW, h3, h4, h5⟩)
 ·go_simp;have hwk : w.heap.size ≤ vd1.heap.size := HW.size;obtain ⟨wk, hWe⟩ := newB vd1;obtain ⟨B7, hb9⟩ := boxes1 vd1 false none 0 0 hWe;rw [← hWe];clear hWe;replace HW := Below.step HW hb9;clear hb9;have hg7 := hwk;refine hK.out _ _ ?_ (fun zH => ?_)
  ·exact zu HS _ HW
  clear hK K
  try simp only [aSet, aHead, aTail]
  exact tgo J14 vd1.heap.size (by (try dsimp only); rw [zu HA]; simp only [Act.put, aSet, aHead, aTail]) (by (try dsimp only); exact ⟨HW, B7, hg7⟩)
 ·go_simp;have hwk : w.heap.size ≤ vd1.heap.size := HW.size;obtain ⟨wk, hWe⟩ := newB vd1;obtain ⟨B8, hb9⟩ := boxes1 vd1 false none 0 0 hWe;rw [← hWe];clear hWe;replace HW := Below.step HW hb9;clear hb9;have hg8 := hwk;refine hK.out _ _ ?_ (fun zH => ?_)
  ·exact zu HS _ HW
  clear hK K
  try simp only [aSet, aHead, aTail]
  exact tgo J13 vd1.heap.size (by (try dsimp only); rw [zu HA]; simp only [Act.put, aSet, aHead, aTail]) (by (try dsimp only); exact ⟨HW, B8, hg8⟩)
 ·go_simp;have hwk : w.heap.size ≤ vd1.heap.size := HW.size;obtain ⟨wk, hWe⟩ := newB vd1;obtain ⟨B9, hb9⟩ := boxes1 vd1 false none 0 0 hWe;rw [← hWe];clear hWe;replace HW := Below.step HW hb9;clear hb9;have hg9 := hwk;refine hK.out _ _ ?_ (fun zH => ?_)
  ·exact zu HS _ HW
  clear hK K
  try simp only [aSet, aHead, aTail]
  exact tgo J12 vd1.heap.size (by (try dsimp only); rw [zu HA]; simp only [Act.put, aSet, aHead, aTail]) (by (try dsimp only); exact ⟨HW, B9, hg9⟩)

end Go.Proofs.YtnpneloahajniaaGreat
