/-
 Plain mathematics of chapter 13: rows do not depend on one another just if their lattice's form has as many rows; the Dots of a list's rows; steps of reduced rows keep the lattice.
-/
import Derived.Test.YtnpneloahajniaaGreatGramStep
import Derived.Test.YtnpneloahajniaaGreatJO
namespace Go.Proofs.YtnpneloahajniaaGreat
open Go.RowKit Lb
set_option maxRecDepth 20000

theorem sumN_skip {f : Nat → Int} : ∀ {n i : Nat}, i < n + 1 → sumN (n + 1) f = f i + sumN n fun t => f (if t < i then t else t + 1)
 | 0, i, h => by
  rw [show i = 0 by omega]; simp [sumN]
 | n + 1, i, h => by
  rw [sumN];by_cases e : i = n + 1
  ·rw [e, show (sumN (n + 1) fun t => f (if t < n + 1 then t else t + 1)) = sumN (n + 1) f from sumN_congr fun t ht => by rw [if_pos ht]];omega
  ·rw [sumN_skip (i := i) (by omega), sumN, if_neg (show ¬ n < i by omega)];omega
theorem spans_skip {n i : Nat} {F : Nat → Nat → Int} {x : Nat → Int} (hi : i < n + 1) (hx : x i ≠ 0) (h : ∀ j, (sumN (n + 1) fun t => x t * F t j) = 0) {v : Nat → Int} (hv : InF (n + 1) F v) : Spans n (fun t => F (if t < i then t else t + 1)) v := by
 obtain ⟨z, hz⟩ := hv;refine ⟨x i, hx, fun t => x i * z (if t < i then t else t + 1) - z i * x (if t < i then t else t + 1), fun j => ?_⟩;have e : x i * v j = sumN (n + 1) fun t => (x i * z t - z i * x t) * F t j := by
  have h1 : x i * v j = (sumN (n + 1) fun t => x i * (z t * F t j)) + sumN (n + 1) fun t => (- z i) * (x t * F t j) := by
   rw [sumN_mul, sumN_mul, h j, ← hz j]; omega
  rw [h1, ← sumN_add];exact sumN_congr fun t _ => by rw [Int.sub_mul, Int.neg_mul, Int.mul_assoc, Int.mul_assoc]; omega
 show x i * v j = _;rw [e, sumN_skip hi, Int.mul_comm (z i), Int.sub_self, Int.zero_mul, Int.zero_add]
theorem free_of_form {c h : List (List Int)} {p : Nat → Nat} (hf : EForm h p) (hs : SameL c h) (hl : h.length = c.length) : Indep c.length (ent c) := by
 intro x hx i hi;by_cases e : x i = 0
 ·exact e
 ·exfalso
  obtain ⟨n, hn⟩ : ∃ n, c.length = n + 1 := ⟨c.length - 1, by omega⟩;rw [hn] at hx hi;have := hf.indepF.le (r := n) (H := fun t => ent c (if t < i then t else t + 1)) fun k hk => by
   have hv : InL c (ent h k) := (hs _).2 (inL_row k);unfold InL at hv;rw [hn] at hv;exact spans_skip hi e hx hv
  omega
theorem vdot_ent {l : List (List Int)} {N i j : Nat} (h : (l.getD j []).length ≤ N) : vdot (l.getD i []) (l.getD j []) = dotN N (ent l i) (ent l j) := by
 rw [vdot_comm, ← vdot_upto h];exact sumN_congr fun s _ => Int.mul_comm _ _
theorem indep_pos {l : List (List Int)} {N : Nat} (hi : Indep l.length (ent l)) (hN : ∀ r, r ∈ l → r.length ≤ N) : ∀ k, k ≤ l.length → 0 < gramD N (ent l) k :=
 gramD_pos fun c hc t ht => hi c (fun j => by
  by_cases e : j < N
  ·exact hc j e
  ·rw [← sumN_nil0 l.length];exact sumN_congr fun i hl => by
    show _ * (l.getD i []).getD j 0 = 0;have : (l.getD i []).length ≤ N := hN _ (by rw [List.getD_eq_getElem?_getD, List.getElem?_eq_getElem hl]; exact List.getElem_mem hl);rw [getD_out (by omega), Int.mul_zero]) t ht
theorem inF_less {n i j : Nat} {b : Nat → Nat → Int} (q : Int) (hj : j < n) (hi : i < n) (hne : j ≠ i) {v : Nat → Int} (h : InF n b v) : InF n (lessR b i j q) v := by
 obtain ⟨c, hc⟩ := h;refine ⟨fun t => c t + if t = j then q * c i else 0, fun s => ?_⟩;rw [hc s];have e : (sumN n fun t => (c t + if t = j then q * c i else 0) * lessR b i j q t s) = (sumN n fun t => c t * b t s) + ((sumN n fun t => if t = i then -(q * c i * b j s) else 0) + sumN n fun t => if t = j then q * c i * b j s else 0) := by
  rw [← sumN_add, ← sumN_add];refine sumN_congr fun t ht => ?_;by_cases e : t = i
  ·rw [e, if_neg (fun e => hne e.symm), if_pos rfl, lessR_at, Int.add_zero, Int.mul_sub, Int.mul_left_comm, Int.mul_assoc]; omega
  ·rw [if_neg e, lessR_other e];by_cases e2 : t = j
   ·rw [if_pos e2, if_pos e2, e2, Int.add_mul]; omega
   ·rw [if_neg e2, if_neg e2, Int.add_zero]; omega
 rw [e, sumN_single n i _ hi, sumN_single n j _ hj];omega
theorem inF_less_iff {n i j : Nat} {b : Nat → Nat → Int} (q : Int) (hj : j < n) (hi : i < n) (hne : j ≠ i) (v : Nat → Int) : InF n (lessR b i j q) v ↔ InF n b v :=
 ⟨fun h => by have := inF_less (-q) hj hi hne h; rwa [lessR_back q hne] at this, inF_less q hj hi hne⟩
theorem inF_turn {n i : Nat} {b : Nat → Nat → Int} (hi : i + 1 < n) {v : Nat → Int} (h : InF n b v) : InF n (turnR b i) v := by
 obtain ⟨c, hc⟩ := h;refine ⟨fun t => if t = i then c (i + 1) else if t = i + 1 then c i else c t, fun s => ?_⟩;rw [hc s];have e : (sumN n fun t => (if t = i then c (i + 1) else if t = i + 1 then c i else c t) * turnR b i t s) = (sumN n fun t => c t * b t s) + sumN n fun t => (if t = i then c (i + 1) else if t = i + 1 then c i else c t) * turnR b i t s - c t * b t s := by
  rw [← sumN_add]; exact sumN_congr fun t _ => by omega
 rw [e, sumN_pair (f := fun t => (if t = i then c (i + 1) else if t = i + 1 then c i else c t) * turnR b i t s - c t * b t s) hi (fun t _ h1 h2 => by
  show (if t = i then c (i + 1) else if t = i + 1 then c i else c t) * turnR b i t s - c t * b t s = 0;rw [if_neg h1, if_neg h2, turnR_other h1 h2]; omega)]
 show _ = _ + (((if i = i then c (i + 1) else if i = i + 1 then c i else c i) * turnR b i i s - c i * b i s) + ((if i + 1 = i then c (i + 1) else if i + 1 = i + 1 then c i else c (i + 1)) * turnR b i (i + 1) s - c (i + 1) * b (i + 1) s));rw [if_pos rfl, if_neg (by omega), if_pos rfl, turnR_low, turnR_high];omega
theorem inF_turn_iff {n i : Nat} {b : Nat → Nat → Int} (hi : i + 1 < n) (v : Nat → Int) : InF n (turnR b i) v ↔ InF n b v :=
 ⟨fun h => by have := inF_turn hi h; rwa [turnR_back] at this, inF_turn hi⟩
theorem sameL_less {l m : List (List Int)} {i j : Nat} (q : Int) (hj : j < l.length) (hi : i < l.length) (hne : j ≠ i) (hl : m.length = l.length) (he : ∀ t s, ent m t s = lessR (ent l) i j q t s) : SameL l m := fun v => by
 have e : ent m = lessR (ent l) i j q := funext fun t => funext fun s => he t s;show InF l.length (ent l) v ↔ InF m.length (ent m) v;rw [hl, e]; exact (inF_less_iff q hj hi hne v).symm
theorem sameL_turn {l m : List (List Int)} {i : Nat} (hi : i + 1 < l.length) (hl : m.length = l.length) (he : ∀ t s, ent m t s = turnR (ent l) i t s) : SameL l m := fun v => by
 have e : ent m = turnR (ent l) i := funext fun t => funext fun s => he t s;show InF l.length (ent l) v ↔ InF m.length (ent m) v;rw [hl, e]; exact (inF_turn_iff hi v).symm
theorem awake_reduced : IsReduced 3 (ent [[1, -1, 1], [-2, 3, 6]]) 2 := by
 have d1 : gramD 3 (ent [[1, -1, 1], [-2, 3, 6]]) 1 = 3 := by decide
 have d2 : gramD 3 (ent [[1, -1, 1], [-2, 3, 6]]) 2 = 146 := by decide
 have m : gramM 3 (ent [[1, -1, 1], [-2, 3, 6]]) 0 1 0 = 1 := by decide
 refine ⟨fun i j hj hi => ?_, fun i hi => ?_⟩
 ·obtain rfl : i = 1 := by omega
  obtain rfl : j = 0 := by omega
  rw [m, d1]; decide
 ·obtain rfl : i = 0 := by omega
  rw [m, d1, d2, gramD_zero]; decide
theorem awake_not : ¬ IsReduced 3 (ent [[1, 0, 9], [0, 1, 8]]) 2 := fun h => by
 have d1 : gramD 3 (ent [[1, 0, 9], [0, 1, 8]]) 1 = 82 := by decide
 have m : gramM 3 (ent [[1, 0, 9], [0, 1, 8]]) 0 1 0 = 72 := by decide
 have := h.small 1 0 (by omega) (by omega);rw [m, d1] at this;exact absurd this (by decide)
end Go.Proofs.YtnpneloahajniaaGreat
