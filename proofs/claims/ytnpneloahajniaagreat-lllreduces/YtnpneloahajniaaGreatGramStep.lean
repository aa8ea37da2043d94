/-
 Plain mathematics of chapter 13: what becomes of d and g when a multiple of a row ahead is taken off a row, and when two rows behind one another are exchanged; the product of the d's gets less.
-/
import Derived.Test.YtnpneloahajniaaGreatGramNum
namespace Go.Proofs.YtnpneloahajniaaGreat
open Go.RowKit Lb
set_option maxRecDepth 20000

theorem gramC_linear (N : Nat) (b : Nat → Nat → Int) (k : Nat) (p q : Int) (x y : Nat → Int) (t : Nat) : gramC N b k (fun s => p * x s + q * y s) t = p * gramC N b k x t + q * gramC N b k y t := by
 unfold gramC;rw [← sumN_mul, ← sumN_mul, ← sumN_add];refine sumN_congr fun l _ => ?_;have e : dotN N (fun s => p * x s + q * y s) (b l) = p * dotN N x (b l) + q * dotN N y (b l) := by
  unfold dotN; rw [← sumN_mul, ← sumN_mul, ← sumN_add];exact sumN_congr fun s _ => by rw [Int.add_mul, Int.mul_assoc, Int.mul_assoc]
 rw [e, Int.add_mul, Int.mul_assoc, Int.mul_assoc]
theorem gramY_linear (N : Nat) (b : Nat → Nat → Int) (k : Nat) (p q : Int) (x y : Nat → Int) (s : Nat) : gramY N b k (fun s => p * x s + q * y s) s = p * gramY N b k x s + q * gramY N b k y s := by
 unfold gramY;rw [show (sumN k fun t => gramC N b k (fun s => p * x s + q * y s) t * b t s) = p * (sumN k fun t => gramC N b k x t * b t s) + q * sumN k fun t => gramC N b k y t * b t s from by
  rw [← sumN_mul, ← sumN_mul, ← sumN_add];exact sumN_congr fun t _ => by rw [gramC_linear, Int.add_mul, Int.mul_assoc, Int.mul_assoc]]
 simp only [Int.mul_sub, Int.mul_add, Int.mul_left_comm];omega
def SpanK (N : Nat) (b b' : Nat → Nat → Int) (k : Nat) : Prop := ∃ e : Nat → Nat → Int, ∀ t, t < k → ∀ s, s < N → b' t s = sumN k fun u => e t u * b u s
theorem SpanK.dot {N : Nat} {b b' : Nat → Nat → Int} {k : Nat} (h : SpanK N b b' k) {y : Nat → Int} (hy : ∀ j, j < k → dotN N y (b j) = 0) {j : Nat} (hj : j < k) : dotN N y (b' j) = 0 := by
 obtain ⟨e, he⟩ := h;rw [dotN_comm, dotN_congr (he j hj), dotN_sum];exact (sumN_congr fun t ht => by rw [dotN_comm, hy t ht, Int.mul_zero]).trans (sumN_nil0 k)
theorem SpanK.sum {N : Nat} {b b' : Nat → Nat → Int} {k : Nat} (h : SpanK N b b' k) (c : Nat → Int) : ∃ c' : Nat → Int, ∀ s, s < N → (sumN k fun t => c t * b' t s) = sumN k fun u => c' u * b u s := by
 obtain ⟨e, he⟩ := h;refine ⟨fun u => sumN k fun t => c t * e t u, fun s hs => ?_⟩;rw [show (sumN k fun t => c t * b' t s) = sumN k fun t => sumN k fun u => c t * e t u * b u s from
  sumN_congr fun t ht => by rw [he t ht s hs, ← sumN_mul]; exact sumN_congr fun u _ => (Int.mul_assoc _ _ _).symm, sumN_swap]
 exact sumN_congr fun u _ => sumN_mul_right _ _ _
theorem gramY_span {N : Nat} {b b' : Nat → Nat → Int} {k : Nat} (h : SpanK N b b' k) (h' : SpanK N b' b k) (hd : gramD N b' k = gramD N b k) (x : Nat → Int) : ∀ s, s < N → gramY N b' k x s = gramY N b k x s := by
 obtain ⟨c', hc'⟩ := h.sum (gramC N b' k x);refine across_one (b := b) (k := k) (c := fun t => gramC N b k x t - c' t) (fun s hs => ?_) (fun j hj => h'.dot (fun i hi => gramY_across x hi) hj) (fun j hj => gramY_across x hj);unfold gramY;rw [hc' s hs, hd, show (sumN k fun t => (gramC N b k x t - c' t) * b t s) = (sumN k fun t => gramC N b k x t * b t s) + (-1) * sumN k fun t => c' t * b t s from by
  rw [← sumN_mul, ← sumN_add];exact sumN_congr fun t _ => by rw [Int.sub_mul]; omega]
 omega
theorem SpanK.more {N : Nat} {b b' : Nat → Nat → Int} {k : Nat} (h : SpanK N b b' k) (e : ∀ s, s < N → b' k s = b k s) : SpanK N b b' (k + 1) := by
 obtain ⟨f, hf⟩ := h;refine ⟨fun t u => if t = k then (if u = k then 1 else 0) else if u = k then 0 else f t u, fun t ht s hs => ?_⟩;rw [sumN];by_cases h1 : t = k
 ·subst h1;simp only [if_true];rw [e s hs, show (sumN t fun u => (if u = t then (1 : Int) else 0) * b u s) = 0 from (sumN_congr fun u hu => by rw [if_neg (by omega), Int.zero_mul]).trans (sumN_nil0 t)];omega
 ·simp only [if_neg h1, if_true];rw [hf t (by omega) s hs, Int.zero_mul, Int.add_zero];exact sumN_congr fun u hu => by rw [if_neg (by omega)]
theorem gramY_arg {N : Nat} {b : Nat → Nat → Int} {k : Nat} {x x' : Nat → Int} (h : ∀ s, s < N → x s = x' s) : ∀ s, s < N → gramY N b k x s = gramY N b k x' s := fun s hs => by
 unfold gramY;rw [h s hs]
 congr 1
 refine sumN_congr fun t _ => ?_
 congr 1
 unfold gramC;exact sumN_congr fun l _ => by rw [dotN_congr h]
def lessR (b : Nat → Nat → Int) (i j : Nat) (q : Int) : Nat → Nat → Int := setR b i fun s => b i s - q * b j s
theorem lessR_other {b : Nat → Nat → Int} {i j t : Nat} {q : Int} (h : t ≠ i) : lessR b i j q t = b t := by
 funext s; unfold lessR setR; rw [if_neg h]
theorem lessR_at (b : Nat → Nat → Int) (i j : Nat) (q : Int) (s : Nat) : lessR b i j q i s = b i s - q * b j s := by
 unfold lessR setR; rw [if_pos rfl]
theorem lessR_back {b : Nat → Nat → Int} {i j : Nat} (q : Int) (h : j ≠ i) : lessR (lessR b i j q) i j (-q) = b := by
 funext t s
 by_cases e : t = i
 ·rw [e, lessR_at, lessR_at, lessR_other h, Int.neg_mul]; omega
 ·rw [lessR_other e, lessR_other e]
theorem lessR_span (N : Nat) {b : Nat → Nat → Int} {i j : Nat} (q : Int) (h : j < i) : SpanK N b (lessR b i j q) (i + 1) := by
 refine ⟨fun t u => if t = i then (if u = i then 1 else if u = j then - q else 0) else if u = t then 1 else 0, fun t ht s _ => ?_⟩;by_cases e : t = i
 ·subst e;simp only [if_true];rw [lessR_at, sumN, if_pos rfl, show (sumN t fun u => (if u = t then (1 : Int) else if u = j then -q else 0) * b u s) = -q * b j s from by
   rw [← sumN_single t j (-q * b j s) h];exact sumN_congr fun u hu => by
    rw [if_neg (by omega)];by_cases e2 : u = j
    ·rw [if_pos e2, if_pos e2, e2]
    ·rw [if_neg e2, if_neg e2, Int.zero_mul], Int.neg_mul]
  omega
 ·simp only [if_neg e];rw [lessR_other e, ← sumN_single (i + 1) t (b t s) ht];exact sumN_congr fun u _ => by
   by_cases e2 : u = t
   ·rw [if_pos e2, if_pos e2, e2, Int.one_mul]
   ·rw [if_neg e2, if_neg e2, Int.zero_mul]
theorem lessR_spans (N : Nat) {b : Nat → Nat → Int} {i j : Nat} (q : Int) (h : j < i) : SpanK N b (lessR b i j q) (i + 1) ∧ SpanK N (lessR b i j q) b (i + 1) :=
 ⟨lessR_span N q h, by have := lessR_span N (b := lessR b i j q) (-q) h; rwa [lessR_back q (by omega)] at this⟩
theorem lessR_first {N : Nat} {b : Nat → Nat → Int} {i j : Nat} (q : Int) : ∀ t, t < i → ∀ s, s < N → b t s = lessR b i j q t s := fun t ht s _ => by rw [lessR_other (by omega)]
theorem lessR_D {N : Nat} {b : Nat → Nat → Int} {i j : Nat} (q : Int) (h : j < i) (hp : ∀ m, m ≤ i + 1 → gramD N b m ≠ 0) (k : Nat) (hk : ∀ m, m < k → gramD N b m ≠ 0) : gramD N (lessR b i j q) k = gramD N b k := by
 have h0 : ∀ m, m ≤ i → gramD N (lessR b i j q) m = gramD N b m := fun m hm => (gramD_congr fun t ht s hs => lessR_first q t (by omega) s hs).symm;have hy : ∀ s, s < N → gramY N (lessR b i j q) i (lessR b i j q i) s = gramY N b i (b i) s := fun s hs => by
  rw [← gramY_congr (b := b) (lessR_first q) _ s hs, gramY_arg (x' := fun s => 1 * b i s + (-q) * b j s) (fun s _ => by rw [lessR_at, Int.neg_mul]; omega) s hs, gramY_linear, gramY_row h s hs]; omega
 have h1 : gramD N (lessR b i j q) (i + 1) = gramD N b (i + 1) := by
  rw [gramD_next (by rw [h0 i (by omega)]; exact hp i (by omega)), gramD_next (hp i (by omega))];unfold gramM;rw [dotN_congr hy, dotN_comm, dotN_congr (y := fun s => b i s - q * b j s) (fun s _ => lessR_at b i j q s), dotN_sub, dotN_times, dotN_comm N (b j), gramY_across _ h, dotN_comm];omega
 by_cases e : k ≤ i
 ·exact h0 k e
 ·obtain ⟨d, rfl⟩ := Nat.le.dest (show i + 1 ≤ k by omega);have hs := lessR_spans N (b := b) q h;clear hy
  induction d with
  | zero => exact h1
  | succ d ih =>
   have ih1 := ih (fun m hm => hk m (by omega)) (by omega);have hspan : ∀ d, SpanK N b (lessR b i j q) (i + 1 + d) ∧ SpanK N (lessR b i j q) b (i + 1 + d) := by
    intro d
    induction d with
    | zero => exact hs
    | succ d ih => exact ⟨ih.1.more fun s _ => by rw [lessR_other (by omega)], ih.2.more fun s _ => by rw [lessR_other (by omega)]⟩
   rw [← Nat.add_assoc, gramD_next (by rw [ih1]; exact hk _ (by omega)), gramD_next (hk _ (by omega))];unfold gramM;rw [lessR_other (by omega)];exact dotN_congr (gramY_span (hspan d).1 (hspan d).2 ih1 _)
theorem lessR_spanD {N : Nat} {b : Nat → Nat → Int} {i j : Nat} (q : Int) (h : j < i) : ∀ d, SpanK N b (lessR b i j q) (i + 1 + d) ∧ SpanK N (lessR b i j q) b (i + 1 + d)
 | 0 => lessR_spans N q h
 | d + 1 => ⟨(lessR_spanD q h d).1.more fun s _ => by rw [lessR_other (by omega)], (lessR_spanD q h d).2.more fun s _ => by rw [lessR_other (by omega)]⟩
theorem gramM_row {N : Nat} {b : Nat → Nat → Int} {k j : Nat} (hj : j < k) (l : Nat) : gramM N b k j l = 0 := by
 unfold gramM;exact (sumN_congr fun s hs => by rw [gramY_row hj s hs, Int.zero_mul]).trans (sumN_nil0 N)
theorem lessR_M {N : Nat} {b : Nat → Nat → Int} {i j k : Nat} (q : Int) (hk : k < i) : gramM N (lessR b i j q) k i k = gramM N b k i k - q * gramM N b k j k := by
 unfold gramM;rw [lessR_other (t := k) (by omega), dotN_congr (y := fun s => 1 * gramY N b k (b i) s + (-q) * gramY N b k (b j) s) (fun s hs => by
  rw [← gramY_congr (b := b) (fun t ht => lessR_first q t (by omega)) _ s hs, gramY_arg (x' := fun s => 1 * b i s + (-q) * b j s) (fun s _ => by rw [lessR_at, Int.neg_mul]; omega) s hs, gramY_linear])]
 have e : dotN N (fun s => 1 * gramY N b k (b i) s + -q * gramY N b k (b j) s) (b k) = dotN N (fun s => gramY N b k (b i) s - q * gramY N b k (b j) s) (b k) := dotN_congr fun s _ => by rw [Int.neg_mul]; omega
 rw [e, dotN_sub, dotN_times]
def turnR (b : Nat → Nat → Int) (i : Nat) : Nat → Nat → Int := setR (setR b i (b (i + 1))) (i + 1) (b i)
theorem turnR_other {b : Nat → Nat → Int} {i t : Nat} (h : t ≠ i) (h2 : t ≠ i + 1) : turnR b i t = b t := by
 funext s; unfold turnR setR; rw [if_neg h2, if_neg h]
theorem turnR_low (b : Nat → Nat → Int) (i : Nat) : turnR b i i = b (i + 1) := by
 funext s; unfold turnR setR; rw [if_neg (by omega), if_pos rfl]
theorem turnR_high (b : Nat → Nat → Int) (i : Nat) : turnR b i (i + 1) = b i := by
 funext s; unfold turnR setR; rw [if_pos rfl]
theorem turnR_back (b : Nat → Nat → Int) (i : Nat) : turnR (turnR b i) i = b := by
 funext t s
 by_cases e : t = i
 ·rw [e, turnR_low, turnR_high]
 ·by_cases e2 : t = i + 1
  ·rw [e2, turnR_high, turnR_low]
  ·rw [turnR_other e e2, turnR_other e e2]
theorem turnR_span (N : Nat) (b : Nat → Nat → Int) (i d : Nat) : SpanK N b (turnR b i) (i + 2 + d) := by
 refine ⟨fun t u => if u = (if t = i then i + 1 else if t = i + 1 then i else t) then 1 else 0, fun t ht s _ => ?_⟩;have e : turnR b i t = b (if t = i then i + 1 else if t = i + 1 then i else t) := by
  by_cases h : t = i
  ·rw [if_pos h, h, turnR_low]
  ·rw [if_neg h];by_cases h2 : t = i + 1
   ·rw [if_pos h2, h2, turnR_high]
   ·rw [if_neg h2, turnR_other h h2]
 rw [e];generalize hq : (if t = i then i + 1 else if t = i + 1 then i else t) = q;have hlt : q < i + 2 + d := by
  rw [← hq];by_cases h : t = i
  ·rw [if_pos h]; omega
  ·rw [if_neg h];by_cases h2 : t = i + 1
   ·rw [if_pos h2]; omega
   ·rw [if_neg h2]; exact ht
 rw [← sumN_single (i + 2 + d) q (b q s) hlt];exact sumN_congr fun u _ => by
  show _ = (if u = (if t = i then i + 1 else if t = i + 1 then i else t) then (1 : Int) else 0) * b u s;rw [hq];by_cases h : u = q
  ·rw [if_pos h, if_pos h, h, Int.one_mul]
  ·rw [if_neg h, if_neg h, Int.zero_mul]
theorem turnR_first {N : Nat} {b : Nat → Nat → Int} {i : Nat} : ∀ t, t < i → ∀ s, s < N → b t s = turnR b i t s := fun t ht s _ => by rw [turnR_other (by omega) (by omega)]
theorem turnR_D {N : Nat} {b : Nat → Nat → Int} {i : Nat} (h0 : gramD N b i ≠ 0) (h1 : gramD N b (i + 1) ≠ 0) :
  gramD N b (i + 1) * gramD N (turnR b i) (i + 1) = gramD N b (i + 2) * gramD N b i + gramM N b i (i + 1) i * gramM N b i (i + 1) i := by
 have hi : gramD N (turnR b i) i = gramD N b i := (gramD_congr fun t ht => turnR_first t ht).symm;have hm : gramD N (turnR b i) (i + 1) = gramM N b i (i + 1) (i + 1) := by
  rw [gramD_next (by rw [hi]; exact h0)];unfold gramM;rw [turnR_low];exact dotN_congr fun s hs => (gramY_congr (b := b) (fun t ht => turnR_first t ht) _ s hs).symm
 have h := gramM_next (N := N) (b := b) h0 (i + 1) (i + 1);rw [← gramD_next (k := i + 1) h1] at h;rw [hm, Int.mul_comm (gramD N b (i + 2)), h];omega
theorem turnR_D2 {N : Nat} {b : Nat → Nat → Int} {i : Nat} (h0 : gramD N b i ≠ 0) (h1 : gramD N b (i + 1) ≠ 0) (h2 : gramD N (turnR b i) (i + 1) ≠ 0) : gramD N (turnR b i) (i + 2) = gramD N b (i + 2) := by
 have hi : gramD N (turnR b i) i = gramD N b i := (gramD_congr fun t ht => turnR_first t ht).symm;have ha := turnR_D h0 h1;have hb := turnR_D (b := turnR b i) (by rw [hi]; exact h0) h2;rw [turnR_back, hi] at hb;have hm : gramM N (turnR b i) i (i + 1) i = gramM N b i (i + 1) i := by
  rw [gramM_comm h0];unfold gramM;rw [turnR_low, turnR_high];exact dotN_congr fun s hs => (gramY_congr (b := b) (fun t ht => turnR_first t ht) _ s hs).symm
 rw [hm, Int.mul_comm, ha] at hb;exact Int.eq_of_mul_eq_mul_right h0 (by omega)
theorem turnR_Dn {N : Nat} {b : Nat → Nat → Int} {i : Nat} (h0 : gramD N b i ≠ 0) (h1 : gramD N b (i + 1) ≠ 0) (h2 : gramD N (turnR b i) (i + 1) ≠ 0) :
  ∀ d, (∀ m, m < d → gramD N b (i + 2 + m) ≠ 0) → gramD N (turnR b i) (i + 2 + d) = gramD N b (i + 2 + d)
 | 0, _ => turnR_D2 h0 h1 h2
 | d + 1, hp => by
  have ih := turnR_Dn h0 h1 h2 d (fun m hm => hp m (by omega));have hn := hp d (by omega);rw [← Nat.add_assoc, gramD_next (by rw [ih]; exact hn), gramD_next hn];unfold gramM;rw [turnR_other (by omega) (by omega)];have hb := turnR_span N (turnR b i) i d;rw [turnR_back] at hb;exact dotN_congr (gramY_span (turnR_span N b i d) hb ih _)
theorem turnR_below {N : Nat} {b : Nat → Nat → Int} {i k : Nat} (h : k ≤ i) : gramD N (turnR b i) k = gramD N b k := (gramD_congr fun t ht => turnR_first t (by omega)).symm
theorem turnR_M {N : Nat} {b : Nat → Nat → Int} {i k : Nat} (h : k ≤ i) (l m : Nat) : gramM N (turnR b i) k l m = dotN N (gramY N b k (turnR b i l)) (turnR b i m) :=
 dotN_congr fun s hs => (gramY_congr (b := b) (fun t ht => turnR_first t (by omega)) _ s hs).symm
theorem turnR_Mlow {N : Nat} {b : Nat → Nat → Int} {i k : Nat} (h : k < i) : gramM N (turnR b i) k i k = gramM N b k (i + 1) k ∧ gramM N (turnR b i) k (i + 1) k = gramM N b k i k := by
 rw [turnR_M (by omega), turnR_M (by omega), turnR_low, turnR_high, turnR_other (t := k) (by omega) (by omega)];exact ⟨rfl, rfl⟩
theorem turnR_Mtwo {N : Nat} {b : Nat → Nat → Int} {i : Nat} (h0 : gramD N b i ≠ 0) : gramM N (turnR b i) i (i + 1) i = gramM N b i (i + 1) i := by
 rw [turnR_M (Nat.le_refl _), turnR_low, turnR_high];exact gramM_comm h0 _ _
theorem turnR_Mother {N : Nat} {b : Nat → Nat → Int} {i k l : Nat} (h : k < i) (h1 : l ≠ i) (h2 : l ≠ i + 1) : gramM N (turnR b i) k l k = gramM N b k l k := by
 rw [turnR_M (by omega), turnR_other h1 h2, turnR_other (t := k) (by omega) (by omega)]; rfl
theorem turnR_Mfirst {N : Nat} {b : Nat → Nat → Int} {i l : Nat} (h0 : gramD N b i ≠ 0) (hl : i + 1 < l) :
  gramD N b (i + 1) * gramM N (turnR b i) i l i = gramD N b i * gramM N b (i + 1) l (i + 1) + gramM N b i l i * gramM N b i (i + 1) i := by
 rw [turnR_M (Nat.le_refl _), turnR_other (t := l) (by omega) (by omega), turnR_low, gramM_next h0 l (i + 1)];show gramD N b (i + 1) * gramM N b i l (i + 1) = _;omega
theorem turnR_Msecond {N : Nat} {b : Nat → Nat → Int} {i l : Nat} (h0 : gramD N b i ≠ 0) (hl : i + 1 < l) :
  gramD N b i * gramM N (turnR b i) (i + 1) l (i + 1) = gramD N (turnR b i) (i + 1) * gramM N b i l i - gramM N (turnR b i) i l i * gramM N b i (i + 1) i := by
 have h := gramM_next (N := N) (b := turnR b i) (k := i) (by rw [turnR_below (Nat.le_refl _)]; exact h0) l (i + 1);rw [turnR_below (Nat.le_refl _), turnR_Mtwo h0] at h;rw [h]
 congr 2
 rw [turnR_M (Nat.le_refl _), turnR_other (t := l) (by omega) (by omega), turnR_high]; rfl
theorem turnR_Mbehind {N : Nat} {b : Nat → Nat → Int} {i k l : Nat} (h0 : gramD N b i ≠ 0) (h1 : gramD N b (i + 1) ≠ 0) (h2 : gramD N (turnR b i) (i + 1) ≠ 0) (hk : i + 2 ≤ k) (hkl : k < l) (hp : ∀ m, m < k → gramD N b m ≠ 0) :
  gramM N (turnR b i) k l k = gramM N b k l k := by
 obtain ⟨d, rfl⟩ := Nat.le.dest hk;unfold gramM;rw [turnR_other (t := l) (by omega) (by omega), turnR_other (t := i + 2 + d) (by omega) (by omega)];have hb := turnR_span N (turnR b i) i d;rw [turnR_back] at hb;exact dotN_congr (gramY_span (turnR_span N b i d) hb (turnR_Dn h0 h1 h2 d fun m hm => hp _ (by omega)) _)
def gramP (N : Nat) (b : Nat → Nat → Int) : Nat → Int
 | 0 => 1
 | k + 1 => gramP N b k * gramD N b k
theorem gramP_pos {N : Nat} {b : Nat → Nat → Int} : ∀ k, (∀ m, m < k → 0 < gramD N b m) → 0 < gramP N b k
 | 0, _ => by unfold gramP; omega
 | k + 1, h => by unfold gramP; exact Int.mul_pos (gramP_pos k fun m hm => h m (by omega)) (h k (by omega))
theorem gramP_congr {N : Nat} {b b' : Nat → Nat → Int} : ∀ k, (∀ m, m < k → gramD N b' m = gramD N b m) → gramP N b' k = gramP N b k
 | 0, _ => rfl
 | k + 1, h => by unfold gramP; rw [gramP_congr k fun m hm => h m (by omega), h k (by omega)]
theorem gramP_one {N : Nat} {b b' : Nat → Nat → Int} {i : Nat} : ∀ k, i < k → (∀ m, m < k → m ≠ i → gramD N b' m = gramD N b m) → gramP N b' k * gramD N b i = gramP N b k * gramD N b' i
 | 0, h, _ => by omega
 | k + 1, h, he => by
  unfold gramP;by_cases e : i = k
  ·subst e;rw [gramP_congr i fun m hm => he m (by omega) (by omega), Int.mul_assoc, Int.mul_assoc, Int.mul_comm (gramD N b' i)]
  ·have ih := gramP_one k (by omega) (fun m hm hne => he m (by omega) hne);rw [he k (by omega) (fun e2 => e e2.symm), Int.mul_right_comm, ih, Int.mul_right_comm]
theorem turnR_less {N n : Nat} {b : Nat → Nat → Int} {i : Nat} (hi : i + 1 < n) (hp : ∀ m, m ≤ n → 0 < gramD N b m) (hd : 0 < gramD N (turnR b i) (i + 1))
  (h : 4 * (gramD N b (i + 2) * gramD N b i + gramM N b i (i + 1) i * gramM N b i (i + 1) i) < 3 * (gramD N b (i + 1) * gramD N b (i + 1))) : gramP N (turnR b i) n < gramP N b n := by
 have p0 := hp i (by omega);have p1 := hp (i + 1) (by omega);rw [← turnR_D (by omega) (by omega)] at h;have hlt : gramD N (turnR b i) (i + 1) < gramD N b (i + 1) := by
  refine Int.lt_of_mul_lt_mul_left (a := gramD N b (i + 1)) ?_ (by omega);have := Int.mul_pos p1 p1;have := Int.mul_pos p1 hd;omega
 have he := gramP_one (N := N) (b := b) (b' := turnR b i) (i := i + 1) n hi fun m hm hne => by
  by_cases e : m ≤ i
  ·exact turnR_below e
  ·obtain ⟨d, rfl⟩ := Nat.le.dest (show i + 2 ≤ m by omega);exact turnR_Dn (by omega) (by omega) (by omega) d fun m' hm' => by have := hp (i + 2 + m') (by omega); omega
 have hP := gramP_pos (N := N) (b := b) n fun m hm => hp m (by omega);refine Int.lt_of_mul_lt_mul_right (a := gramD N b (i + 1)) ?_ (by omega);rw [he];exact Int.mul_lt_mul_of_pos_left hlt hP
theorem turnR_pos {N : Nat} {b : Nat → Nat → Int} {i : Nat} (h0 : 0 < gramD N b i) (h1 : 0 < gramD N b (i + 1)) (h2 : 0 < gramD N b (i + 2)) : 0 < gramD N (turnR b i) (i + 1) := by
 have h := turnR_D (N := N) (b := b) (i := i) (by omega) (by omega);have := Int.mul_pos h2 h0;have := square_nonneg (gramM N b i (i + 1) i);exact Int.pos_of_mul_pos_right (a := gramD N b (i + 1)) (by omega) h1
theorem lessR_P {N n : Nat} {b : Nat → Nat → Int} {i j : Nat} (q : Int) (h : j < i) (hi : i < n) (hp : ∀ m, m ≤ n → 0 < gramD N b m) : gramP N (lessR b i j q) n = gramP N b n :=
 gramP_congr n fun m hm => lessR_D q h (fun m hm => by have := hp m (by omega); omega) m fun m' hm' => by have := hp m' (by omega); omega
end Go.Proofs.YtnpneloahajniaaGreat
