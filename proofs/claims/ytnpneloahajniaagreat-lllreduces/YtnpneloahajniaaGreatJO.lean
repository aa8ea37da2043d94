/-
 Plain mathematics: a box has more places than its shadow (Siegel's lemma), and what that says of rows with rising pivots: their numbers have few limbs.
-/
import Derived.Test.YtnpneloahajniaaGreatJS
import Derived.Test.YtnpneloahajniaaGreatJT
import Derived.Test.YtnpneloahajniaaGreatJH
namespace Go.Proofs.YtnpneloahajniaaGreat
open Go.RowKit Lb
set_option maxRecDepth 20000

theorem pigeon : ∀ (N : Nat) (f : Nat → Nat), (∀ i, i ≤ N → f i < N) → ∃ i j, i < j ∧ j ≤ N ∧ f i = f j
 | 0, f, h => absurd (h 0 (Nat.le_refl _)) (by omega)
 | N + 1, f, h => by
  by_cases c : ∃ i, i ≤ N ∧ f i = f (N + 1)
  ·obtain ⟨i, hi, e⟩ := c;exact ⟨i, N + 1, by omega, Nat.le_refl _, e⟩
  ·have hne : ∀ i, i ≤ N → f i ≠ f (N + 1) := fun i hi e => c ⟨i, hi, e⟩;obtain ⟨i, j, hij, hj, e⟩ := pigeon N (fun i => if f i = N then f (N + 1) else f i) fun i hi => by
    have h1 := h i (by omega);have h2 := h (N + 1) (Nat.le_refl _);have h3 := hne i hi;show (if f i = N then f (N + 1) else f i) < N
    split <;> omega
   have h1 := hne i (by omega);have h2 := hne j hj;refine ⟨i, j, hij, by omega, ?_⟩;have e' : (if f i = N then f (N + 1) else f i) = (if f j = N then f (N + 1) else f j) := e
   split at e' <;> split at e' <;> omega
def codeN (b : Nat) (w : Nat → Nat) : Nat → Nat
 | 0 => 0
 | t + 1 => codeN b w t + w t * b ^ t
theorem codeN_lt {b : Nat} {w : Nat → Nat} (hb : 0 < b) : ∀ t, (∀ i, i < t → w i < b) → codeN b w t < b ^ t
 | 0, _ => by simp [codeN]
 | t + 1, h => by
  have h1 := codeN_lt hb t fun i hi => h i (by omega);have h2 := h t (by omega);have h3 : (w t + 1) * b ^ t ≤ b * b ^ t := Nat.mul_le_mul_right _ (by omega);rw [Nat.add_mul, Nat.one_mul] at h3;rw [codeN, Nat.pow_succ, Nat.mul_comm (b ^ t) b];omega
theorem codeN_inj {b : Nat} {w u : Nat → Nat} (hb : 0 < b) : ∀ t, (∀ i, i < t → w i < b) → (∀ i, i < t → u i < b) → codeN b w t = codeN b u t → ∀ i, i < t → w i = u i
 | 0, _, _, _, i, hi => absurd hi (by omega)
 | t + 1, h, h', e, i, hi => by
  rw [codeN, codeN] at e;have h1 := codeN_lt hb t fun i hi => h i (by omega);have h2 := codeN_lt hb t fun i hi => h' i (by omega);have hp : 0 < b ^ t := Nat.pow_pos hb;have e1 : codeN b w t = codeN b u t := by
   have := congrArg (· % b ^ t) e;simpa [Nat.add_mul_mod_self_right, Nat.mod_eq_of_lt h1, Nat.mod_eq_of_lt h2] using this
  have e2 : w t = u t := by
   rw [e1] at e;exact Nat.eq_of_mul_eq_mul_right hp (by omega)
  by_cases c : i = t
  ·subst c; exact e2
  ·exact codeN_inj hb t (fun i hi => h i (by omega)) (fun i hi => h' i (by omega)) e1 i (by omega)
theorem mod_same {b x y : Nat} : ∀ u, (∀ i, i < u → x / b ^ i % b = y / b ^ i % b) → x % b ^ u = y % b ^ u
 | 0, _ => by simp [Nat.mod_one]
 | u + 1, h => by rw [Nat.mod_pow_succ, Nat.mod_pow_succ, mod_same u fun i hi => h i (by omega), h u (by omega)]
theorem sumN_abs {n : Nat} {f : Nat → Int} {B : Nat} (h : ∀ i, i < n → (f i).natAbs ≤ B) : (sumN n f).natAbs ≤ n * B := by
 induction n with
 | zero => simp [sumN]
 | succ n ih =>
  have h1 := ih fun i hi => h i (by omega);have h2 := h n (by omega);rw [sumN, Nat.add_mul, Nat.one_mul];omega
theorem siegel {e u A M : Nat} {E : Nat → Nat → Int} (hE : ∀ t i, t < e → i < u → (E t i).natAbs ≤ A) (hM : (2 * (u * (A * M)) + 1) ^ e < (M + 1) ^ u) : ∃ c : Nat → Int, (∃ i, i < u ∧ c i ≠ 0) ∧ (∀ i, (c i).natAbs ≤ M) ∧ ∀ t, t < e → (sumN u fun i => E t i * c i) = 0 := by
 obtain ⟨K, eK⟩ : ∃ K, K = u * (A * M) := ⟨_, rfl⟩;rw [← eK] at hM;obtain ⟨dg, edg⟩ : ∃ dg : Nat → Nat → Nat, dg = fun x i => x / (M + 1) ^ i % (M + 1) := ⟨_, rfl⟩;have hdg : ∀ x i, dg x i ≤ M := fun x i => by rw [edg]; exact Nat.le_of_lt_succ (Nat.mod_lt _ (by omega))
 obtain ⟨val, ev⟩ : ∃ val : Nat → Nat → Int, val = fun x t => sumN u fun i => E t i * (dg x i : Int) := ⟨_, rfl⟩;have hval : ∀ x t, t < e → (val x t).natAbs ≤ K := fun x t ht => by
  rw [ev, eK];refine sumN_abs fun i hi => ?_;rw [Int.natAbs_mul, Int.natAbs_natCast];exact Nat.mul_le_mul (hE t i ht hi) (hdg x i)
 have hw : ∀ x t, t < e → (val x t + (K : Int)).toNat < 2 * K + 1 := fun x t ht => by have := hval x t ht; omega
 obtain ⟨x, y, hxy, hy, hc⟩ := pigeon ((2 * K + 1) ^ e) (fun x => codeN (2 * K + 1) (fun t => (val x t + (K : Int)).toNat) e) fun x _ => codeN_lt (by omega) e (hw x);have hsame : ∀ t, t < e → val x t = val y t := fun t ht => by
  have h1 := codeN_inj (b := 2 * K + 1) (by omega) e (hw x) (hw y) hc t ht;have h2 := hval x t ht;have h3 := hval y t ht;omega
 refine ⟨fun i => (dg x i : Int) - (dg y i : Int), ?_, fun i => ?_, fun t ht => ?_⟩
 ·by_cases c : ∃ i, i < u ∧ (dg x i : Int) - (dg y i : Int) ≠ 0
  ·exact c
  ·exfalso
   have h1 : x % (M + 1) ^ u = y % (M + 1) ^ u := mod_same u fun i hi => by
    have h2 : ¬ (dg x i : Int) - (dg y i : Int) ≠ 0 := fun h => c ⟨i, hi, h⟩;have h3 : dg x i = dg y i := by omega
    rw [edg] at h3;exact h3
   rw [Nat.mod_eq_of_lt (by omega), Nat.mod_eq_of_lt (by omega)] at h1;omega
 ·have h1 := hdg x i;have h2 := hdg y i;show ((dg x i : Int) - (dg y i : Int)).natAbs ≤ M;omega
 ·have h1 := hsame t ht;rw [ev] at h1;have h2 : (sumN u fun i => E t i * ((dg x i : Int) - (dg y i : Int))) = (sumN u fun i => E t i * (dg x i : Int)) + (-1) * sumN u fun i => E t i * (dg y i : Int) := by
   rw [← sumN_mul, ← sumN_add];exact sumN_congr fun i _ => by rw [Int.mul_sub]; omega
  show (sumN u fun i => E t i * ((dg x i : Int) - (dg y i : Int))) = 0;rw [h2];have h3 : (sumN u fun i => E t i * (dg x i : Int)) = sumN u fun i => E t i * (dg y i : Int) := h1;omega
def sieg (e A : Nat) : Nat := (2 * ((e + 1) * A)) ^ e
theorem siegel_one {e A : Nat} {E : Nat → Nat → Int} (hA : 1 ≤ A) (hE : ∀ t i, t < e → i < e + 1 → (E t i).natAbs ≤ A) : ∃ c : Nat → Int, (∃ i, i < e + 1 ∧ c i ≠ 0) ∧ (∀ i, (c i).natAbs ≤ sieg e A) ∧ ∀ t, t < e → (sumN (e + 1) fun i => E t i * c i) = 0 := by
 refine siegel hE ?_;obtain ⟨M, eM⟩ : ∃ M, M = sieg e A := ⟨_, rfl⟩;rw [← eM];have h0 : 1 ≤ (e + 1) * A := Nat.mul_le_mul (show 1 ≤ e + 1 by omega) hA;have h1 : 2 * ((e + 1) * (A * M)) + 1 ≤ 2 * ((e + 1) * A) * (M + 1) := by
  rw [← Nat.mul_assoc (e + 1) A M];generalize (e + 1) * A = P at h0 ⊢;rw [Nat.mul_add, Nat.mul_one, Nat.mul_assoc 2 P M];omega
 have h2 : (2 * ((e + 1) * (A * M)) + 1) ^ e ≤ M * (M + 1) ^ e := by
  refine Nat.le_trans (Nat.pow_le_pow_left h1 e) ?_;rw [Nat.mul_pow, eM];exact Nat.le_refl _
 have h3 : 0 < (M + 1) ^ e := Nat.pow_pos (by omega);have h4 : (M + 1) ^ (e + 1) = M * (M + 1) ^ e + (M + 1) ^ e := by rw [Nat.pow_succ, Nat.mul_comm, Nat.add_mul, Nat.one_mul]
 rw [h4];omega

/-
 Plain mathematics: rows of which none is a sum of the others, in fractions; numbers of rows with rising pivots: as many limbs as the rows' number times theirs, and a few.
-/

def Indep (q : Nat) (G : Nat → Nat → Int) : Prop := ∀ c : Nat → Int, (∀ j, (sumN q fun i => c i * G i j) = 0) → ∀ i, i < q → c i = 0
def Spans (q : Nat) (G : Nat → Nat → Int) (v : Nat → Int) : Prop := ∃ d : Int, d ≠ 0 ∧ InF q G fun j => d * v j
theorem spans_zero (q : Nat) (G : Nat → Nat → Int) : Spans q G fun _ => 0 := ⟨1, by decide, (inF_zero q G).eq fun _ => by simp⟩
theorem Spans.mul {q : Nat} {G : Nat → Nat → Int} {v : Nat → Int} (h : Spans q G v) (x : Int) : Spans q G fun j => x * v j := by
 obtain ⟨d, hd, hv⟩ := h;exact ⟨d, hd, (hv.mul x).eq fun j => by rw [← Int.mul_assoc, ← Int.mul_assoc, Int.mul_comm d x]⟩
theorem Spans.add {q : Nat} {G : Nat → Nat → Int} {v u : Nat → Int} (h : Spans q G v) (h' : Spans q G u) : Spans q G fun j => v j + u j := by
 obtain ⟨d, hd, hv⟩ := h;obtain ⟨e, he, hu⟩ := h';refine ⟨d * e, Int.mul_ne_zero hd he, ((hv.mul e).add (hu.mul d)).eq fun j => ?_⟩;show d * e * (v j + u j) = e * (d * v j) + d * (e * u j);rw [Int.mul_add, Int.mul_comm d e, Int.mul_assoc e d, Int.mul_comm e d, Int.mul_assoc d e]
theorem Spans.eq {q : Nat} {G : Nat → Nat → Int} {v u : Nat → Int} (h : Spans q G v) (e : ∀ j, u j = v j) : Spans q G u := by
 obtain ⟨d, hd, hv⟩ := h;exact ⟨d, hd, hv.eq fun j => by rw [e j]⟩
theorem spans_sum {q : Nat} {G : Nat → Nat → Int} (n : Nat) (f : Nat → Nat → Int) (h : ∀ i, i < n → Spans q G fun j => f i j) : Spans q G fun j => sumN n fun i => f i j := by
 induction n with
 | zero => exact spans_zero q G
 | succ n ih => exact (ih fun i hi => h i (by omega)).add (h n (by omega))
theorem spans_inF {q m : Nat} {G F : Nat → Nat → Int} {v : Nat → Int} (hv : InF m F v) (h : ∀ i, i < m → Spans q G (F i)) : Spans q G v := by
 obtain ⟨c, hc⟩ := hv;exact (spans_sum m (fun i j => c i * F i j) fun i hi => (h i hi).mul (c i)).eq hc
theorem inF_pad {q : Nat} {G G' : Nat → Nat → Int} {v : Nat → Int} (h : InF q G v) (e : ∀ i, i < q → ∀ j, G' i j = G i j) : InF (q + 1) G' v := by
 obtain ⟨c, hc⟩ := h;refine ⟨fun i => if i < q then c i else 0, fun j => ?_⟩;show v j = (sumN q fun i => (if i < q then c i else 0) * G' i j) + (if q < q then c q else 0) * G' q j;rw [if_neg (by omega), Int.zero_mul, Int.add_zero, hc j];exact sumN_congr fun i hi => by rw [if_pos hi, e i hi j]
theorem pick (F : Nat → Nat → Int) : ∀ m, ∃ (q : Nat) (s : Nat → Nat), (∀ i, i < q → s i < m) ∧ Indep q (fun i => F (s i)) ∧ ∀ i, i < m → Spans q (fun i => F (s i)) (F i)
 | 0 => ⟨0, fun i => i, fun i hi => absurd hi (by omega), fun _ _ i hi => absurd hi (by omega), fun i hi => absurd hi (by omega)⟩
 | m + 1 => by
  obtain ⟨q, s, h1, h2, h3⟩ := pick F m;by_cases c : Spans q (fun i => F (s i)) (F m)
  ·refine ⟨q, s, fun i hi => Nat.lt_succ_of_lt (h1 i hi), h2, fun i hi => ?_⟩;by_cases e : i = m
   ·rw [e]; exact c
   ·exact h3 i (by omega)
  ·have hs : ∀ i, i < q → ∀ j, F (if i = q then m else s i) j = F (s i) j := fun i hi j => by rw [if_neg (by omega)]
   refine ⟨q + 1, fun i => if i = q then m else s i, fun i hi => ?_, fun x hx => ?_, fun i hi => ?_⟩
   ·show (if i = q then m else s i) < m + 1
    split
    ·omega
    ·have := h1 i (by omega); omega
   ·have hx' : ∀ j, (sumN q fun i => x i * F (s i) j) + x q * F m j = 0 := fun j => by
     have this : (sumN q fun i => x i * F (if i = q then m else s i) j) + x q * F (if q = q then m else s q) j = 0 := hx j;rw [if_pos rfl] at this;rw [← this, sumN_congr (g := fun i => x i * F (if i = q then m else s i) j) fun i hi => by rw [hs i hi j]]
    have hq : x q = 0 := by
     by_cases e : x q = 0
     ·exact e
     ·exfalso
      refine c ⟨x q, e, fun i => -1 * x i, fun j => ?_⟩;have := hx' j;show x q * F m j = sumN q fun i => -1 * x i * F (s i) j;rw [sumN_congr (g := fun i => -1 * (x i * F (s i) j)) fun i _ => by rw [Int.mul_assoc], sumN_mul];omega
    have h0 := h2 x fun j => by have := hx' j; rw [hq, Int.zero_mul, Int.add_zero] at this; exact this
    intro i hi;by_cases e : i = q
    ·rw [e]; exact hq
    ·exact h0 i (by omega)
   ·by_cases e : i = m
    ·refine ⟨1, by decide, (inF_row (m := q + 1) (i := q) (by omega)).eq fun j => ?_⟩;show 1 * F i j = F (if q = q then m else s q) j;rw [if_pos rfl, e, Int.one_mul]
    ·obtain ⟨d, hd, hv⟩ := h3 i (by omega);exact ⟨d, hd, inF_pad hv hs⟩
theorem bound_one (n : Nat) (f : Nat → Int) : ∃ A, 1 ≤ A ∧ ∀ i, i < n → (f i).natAbs ≤ A := by
 induction n with
 | zero => exact ⟨1, Nat.le_refl _, fun i hi => absurd hi (by omega)⟩
 | succ n ih =>
  obtain ⟨A, h1, h2⟩ := ih;refine ⟨A + (f n).natAbs, by omega, fun i hi => ?_⟩;by_cases e : i = n
  ·subst e; omega
  ·have := h2 i (by omega); omega
theorem bound_two (u : Nat) (x : Nat → Nat → Int) : ∀ r, ∃ A, 1 ≤ A ∧ ∀ t i, t < r → i < u → (x t i).natAbs ≤ A
 | 0 => ⟨1, Nat.le_refl _, fun t _ ht => absurd ht (by omega)⟩
 | r + 1 => by
  obtain ⟨A, h1, h2⟩ := bound_two u x r;obtain ⟨B, h3, h4⟩ := bound_one u (x r);refine ⟨A + B, by omega, fun t i ht hi => ?_⟩;by_cases e : t = r
  ·subst e; have := h4 i hi; omega
  ·have := h2 t i (by omega) hi; omega
theorem indep_pad {q u : Nat} {G : Nat → Nat → Int} {c : Nat → Int} (hi : Indep q G) (hu : u ≤ q) (h : ∀ j, (sumN u fun i => c i * G i j) = 0) : ∀ i, i < u → c i = 0 := by
 intro i hiu;have h1 := hi (fun i => if i < u then c i else 0) (fun j => by
  show (sumN q fun i => (if i < u then c i else 0) * G i j) = 0;rw [sumN_upto (n := u) (m := q) (f := fun i => (if i < u then c i else 0) * G i j) (fun i h => by rw [if_neg (by omega), Int.zero_mul]) hu, ← h j];exact sumN_congr fun i h => by rw [if_pos h]) i (by omega)
 have h2 : (if i < u then c i else 0) = 0 := h1
 rwa [if_pos hiu] at h2
theorem Indep.le {q r : Nat} {G H : Nat → Nat → Int} (hi : Indep q G) (hs : ∀ i, i < q → Spans r H (G i)) : q ≤ r := by
 by_cases hq : q ≤ r
 ·exact hq
 ·exfalso
  have hx : ∀ i, ∃ (d : Int) (x : Nat → Int), i < q → d ≠ 0 ∧ ∀ j, d * G i j = sumN r fun t => x t * H t j := fun i => by
   by_cases c : i < q
   ·obtain ⟨d, hd, x, hx⟩ := hs i c;exact ⟨d, x, fun _ => ⟨hd, hx⟩⟩
   ·exact ⟨0, fun _ => 0, fun h => absurd h c⟩
  obtain ⟨d, hd⟩ := Classical.axiomOfChoice hx;obtain ⟨x, hdx⟩ := Classical.axiomOfChoice hd;obtain ⟨A, hA1, hA⟩ := bound_two (r + 1) (fun t i => x i t) r;obtain ⟨c, ⟨i0, hi0, hne⟩, _, hc⟩ := siegel_one (e := r) (A := A) (E := fun t i => x i t) hA1 fun t i ht hi => hA t i ht hi;have h0 := indep_pad (u := r + 1) (c := fun i => c i * d i) hi (by omega) fun j => by
   show (sumN (r + 1) fun i => c i * d i * G i j) = 0;rw [sumN_congr (g := fun i => sumN r fun t => c i * x i t * H t j) fun i hi => by
    rw [Int.mul_assoc, (hdx i (by omega)).2 j, ← sumN_mul];exact sumN_congr fun t _ => by rw [Int.mul_assoc]]
   rw [sumN_swap, ← sumN_nil0 r];refine sumN_congr fun t ht => ?_;have := hc t ht;rw [sumN_congr (g := fun i => x i t * c i * H t j) fun i _ => by rw [Int.mul_comm (c i)], sumN_mul_right (f := fun i => x i t * c i), this, Int.zero_mul]
  have h1 : c i0 * d i0 = 0 := h0 i0 hi0;rcases Int.mul_eq_zero.1 h1 with e | e
  ·exact hne e
  ·exact (hdx i0 (by omega)).1 e

/-
 Plain mathematics: the numbers of rows with rising pivots have few limbs: some twice the rows' number times the limbs of the rows that they come of.
-/

theorem int_zero {x y : Int} (h : x * y = 0) (hx : 0 < x) : y = 0 := by
 rcases Int.mul_eq_zero.1 h with e | e
 ·omega
 ·exact e
theorem over_inF {q u : Nat} {G : Nat → Nat → Int} {v : Nat → Int} {col : Nat → Nat} {c : Nat → Int} (hv : InF q G v) (h0 : ∀ t, t < q → (sumN u fun i => G t (col i) * c i) = 0) : (sumN u fun i => v (col i) * c i) = 0 := by
 obtain ⟨x, hx⟩ := hv;rw [sumN_congr (g := fun i => sumN q fun t => x t * (G t (col i) * c i)) fun i _ => by
  rw [hx (col i), ← sumN_mul_right];exact sumN_congr fun t _ => by rw [Int.mul_assoc], sumN_swap, ← sumN_nil0 q]
 exact sumN_congr fun t ht => by rw [sumN_mul, h0 t ht, Int.mul_zero]
theorem over_spans {q u : Nat} {G : Nat → Nat → Int} {v : Nat → Int} {col : Nat → Nat} {c : Nat → Int} (hv : Spans q G v) (h0 : ∀ t, t < q → (sumN u fun i => G t (col i) * c i) = 0) : (sumN u fun i => v (col i) * c i) = 0 := by
 obtain ⟨d, hd, hd2⟩ := hv;have h1 := over_inF (v := fun j => d * v j) hd2 h0;have h2 : (sumN u fun i => d * v (col i) * c i) = d * sumN u fun i => v (col i) * c i := by
  rw [← sumN_mul];exact sumN_congr fun i _ => by rw [Int.mul_assoc]
 have h3 : d * (sumN u fun i => v (col i) * c i) = 0 := by rw [← h2]; exact h1
 rcases Int.mul_eq_zero.1 h3 with e | e
 ·exact absurd e hd
 ·exact e
theorem EForm.pivot_zero {h : List (List Int)} {p : Nat → Nat} (hf : EForm h p) {i k : Nat} (hik : i < k) (hk : k < h.length) : ent h k (p i) = 0 := hf.ahead k hk (p i) (hf.rise i k hik hk)
theorem EForm.relation {l h : List (List Int)} {p : Nat → Nat} {A : Nat} (hf : EForm h p) (hs : SameL l h) (hA1 : 1 ≤ A) (hA : ∀ i j, (ent l i j).natAbs ≤ A) (j : Nat) : ∃ c : Nat → Int, c h.length ≠ 0 ∧ (∀ i, (c i).natAbs ≤ sieg h.length A) ∧ ∀ v, InL l v → (sumN h.length fun i => v (p i) * c i) + v j * c h.length = 0 := by
 obtain ⟨r, er⟩ : ∃ r, r = h.length := ⟨_, rfl⟩;rw [← er];obtain ⟨q, s, hsm, hind, hsp⟩ := pick (ent l) l.length;have hqr : q ≤ r := by
  rw [er];exact hind.le (H := ent h) fun i hi => ⟨1, by decide, by
   obtain ⟨c, hc⟩ := hs.row (s i);exact ⟨c, fun j => (Int.one_mul _).trans (hc j)⟩⟩
 obtain ⟨col, ecol⟩ : ∃ col : Nat → Nat, col = fun i => if i < r then p i else j := ⟨_, rfl⟩
 obtain ⟨c, ⟨i0, hi0, hne⟩, hcM, hc⟩ := siegel_one (e := r) (A := A) (E := fun t i => if t < q then ent l (s t) (col i) else 0) hA1 fun t i _ _ => by
  show (if t < q then ent l (s t) (col i) else 0).natAbs ≤ A
  split
  ·exact hA _ _
  ·simp
 have hR : ∀ v, InL l v → (sumN (r + 1) fun i => v (col i) * c i) = 0 := fun v hv => by
  refine over_spans (spans_inF (m := l.length) (F := ent l) hv hsp) fun t ht => ?_;have := hc t (by omega);rw [← this];exact sumN_congr fun i _ => by rw [if_pos ht]
 have hcol : ∀ i, i < r → col i = p i := fun i hi => by rw [ecol]; exact if_pos hi
 have hcr : col r = j := by rw [ecol]; exact if_neg (Nat.lt_irrefl r)
 have hcne : c r ≠ 0 := fun e0 => by
  have hall : ∀ n, n ≤ r → ∀ k, r - n ≤ k → k < r → c k = 0 := fun n => by
   induction n with
   | zero => intro _ k h1 h2; omega
   | succ n ih =>
    intro hn k h1 h2;by_cases e : r - n ≤ k
    ·exact ih (by omega) k e h2
    ·have hR' := hR (fun j => ent h k j) (hs.symm.row k);have hfst := sumN_first (n := r + 1) (i := k) (f := fun i => ent h k (col i) * c i) (by omega) (fun t ht => by rw [hcol t (by omega), hf.pivot_zero ht (by omega), Int.zero_mul]) (fun t h3 h4 => by
      by_cases e : t = r
      ·rw [e, e0, Int.mul_zero]
      ·rw [ih (by omega) t (by omega) (by omega), Int.mul_zero])
     rw [hfst, hcol k h2] at hR';exact int_zero hR' (hf.pos k (by omega))
  by_cases e : i0 = r
  ·rw [e] at hne; exact hne e0
  ·exact hne (hall r (Nat.le_refl _) i0 (by omega) (by omega))
 refine ⟨c, hcne, hcM, fun v hv => ?_⟩;have hR1 := hR v hv;rw [sumN, hcr, sumN_congr (g := fun i => v (p i) * c i) fun i hi => by rw [hcol i hi]] at hR1;exact hR1
theorem EForm.column {l h : List (List Int)} {p : Nat → Nat} {A : Nat} (hf : EForm h p) (hs : SameL l h) (hA1 : 1 ≤ A) (hA : ∀ i j, (ent l i j).natAbs ≤ A) {v : Nat → Int} (hv : InL l v) {T : Nat} (hT : ∀ i, i < h.length → (v (p i)).natAbs ≤ T) (j : Nat) : (v j).natAbs ≤ h.length * (T * sieg h.length A) := by
 obtain ⟨c, hcne, hcM, hc⟩ := hf.relation hs hA1 hA j;have hR1 := hc v hv;have hsum : (sumN h.length fun i => v (p i) * c i).natAbs ≤ h.length * (T * sieg h.length A) := sumN_abs fun i hi => by
  rw [Int.natAbs_mul];exact Nat.mul_le_mul (hT i hi) (hcM i)
 have h1 : (v j * c h.length).natAbs = (sumN h.length fun i => v (p i) * c i).natAbs := by omega
 rw [Int.natAbs_mul] at h1;have h2 : (v j).natAbs * 1 ≤ (v j).natAbs * (c h.length).natAbs := Nat.mul_le_mul_left _ (by omega);omega
theorem EForm.pivot_le {l h : List (List Int)} {p : Nat → Nat} {A : Nat} (hf : EForm h p) (hs : SameL l h) (hA1 : 1 ≤ A) (hA : ∀ i j, (ent l i j).natAbs ≤ A) {k : Nat} (hk : k < h.length) : (ent h k (p k)).natAbs ≤ (k + 1) * (sieg k A * A) := by
 obtain ⟨F, eF⟩ : ∃ F : Nat → Nat → Int, F = fun a t => if t ≤ k then ent l a (p t) else 0 := ⟨_, rfl⟩
 obtain ⟨H, eH⟩ : ∃ H : Nat → Nat → Int, H = fun i t => if t ≤ k then ent h i (p t) else 0 := ⟨_, rfl⟩
 have hF : ∀ a t, t ≤ k → F a t = ent l a (p t) := fun a t ht => by rw [eF]; exact if_pos ht
 have hF0 : ∀ a t, ¬ t ≤ k → F a t = 0 := fun a t ht => by rw [eF]; exact if_neg ht
 have hH : ∀ a t, t ≤ k → H a t = ent h a (p t) := fun a t ht => by rw [eH]; exact if_pos ht
 have hH0 : ∀ a t, ¬ t ≤ k → H a t = 0 := fun a t ht => by rw [eH]; exact if_neg ht
 obtain ⟨q, s, hsm, hind, hsp⟩ := pick F l.length;have hHind : Indep (k + 1) H := fun c hc i => by
  induction i using Nat.strongRecOn with
  | ind i ih =>
   intro hi;have h1 := hc i;rw [sumN_first (n := k + 1) (i := i) (f := fun a => c a * H a i) hi (fun t ht => by rw [ih t ht (by omega), Int.zero_mul]) (fun t h2 h3 => by rw [hH t i (by omega), hf.pivot_zero h2 (by omega), Int.mul_zero]), hH i i (by omega), Int.mul_comm] at h1;exact int_zero h1 (hf.pos i (by omega))
 have hkq : k + 1 ≤ q := hHind.le fun i hi => by
  obtain ⟨y, hy0⟩ := hs.symm.row i;have hy : ∀ j, ent h i j = sumN l.length fun a => y a * ent l a j := hy0;refine spans_inF (m := l.length) (F := F) ⟨y, fun t => ?_⟩ hsp;by_cases e : t ≤ k
  ·rw [hH i t e, hy (p t)];exact sumN_congr fun a _ => by rw [hF a t e]
  ·rw [hH0 i t e, ← sumN_nil0 l.length];exact sumN_congr fun a _ => by rw [hF0 a t e, Int.mul_zero]
 obtain ⟨c, ⟨i0, hi0, hne⟩, hcM, hc⟩ := siegel_one (e := k) (A := A) (E := fun t i => ent l (s i) (p t)) hA1 fun t i _ _ => hA _ _;have hw : InL l fun j => sumN (k + 1) fun i => c i * ent l (s i) j := inL_sum (k + 1) (fun i j => c i * ent l (s i) j) fun i _ => (inL_row (s i)).mul (c i);have hw0 : ∀ t, t < k → (sumN (k + 1) fun i => c i * ent l (s i) (p t)) = 0 := fun t ht => by
  rw [← hc t ht];exact sumN_congr fun i _ => Int.mul_comm _ _
 have hwk : (sumN (k + 1) fun i => c i * ent l (s i) (p k)) ≠ 0 := fun e => by
  refine hne (indep_pad (u := k + 1) (c := c) hind hkq (fun t => ?_) i0 hi0);by_cases ht : t ≤ k
  ·rw [sumN_congr (g := fun i => c i * ent l (s i) (p t)) fun i _ => by rw [hF (s i) t ht]];by_cases e2 : t = k
   ·rw [e2]; exact e
   ·exact hw0 t (by omega)
  ·rw [← sumN_nil0 (k + 1)];exact sumN_congr fun i _ => by rw [hF0 (s i) t ht, Int.mul_zero]
 obtain ⟨i, x, hi, hz, hp, hpn⟩ := hf.lead ((hs _).1 hw) fun e => hwk (e (p k));have hik : i = k := by
  rcases Nat.lt_trichotomy i k with e | e | e
  ·exact absurd (hw0 i e) hpn
  ·exact e
  ·exact absurd (hz (p k) (hf.rise k i e hi)) hwk
 subst hik;have hb : (sumN (i + 1) fun a => c a * ent l (s a) (p i)).natAbs ≤ (i + 1) * (sieg i A * A) := sumN_abs fun a _ => by
  rw [Int.natAbs_mul];exact Nat.mul_le_mul (hcM a) (hA _ _)
 rw [hp] at hb hpn;rw [Int.natAbs_mul] at hb;have hx : x ≠ 0 := fun e => hpn (by rw [e, Int.zero_mul]);have h2 : 1 * (ent h i (p i)).natAbs ≤ x.natAbs * (ent h i (p i)).natAbs := Nat.mul_le_mul_right _ (by omega);omega
theorem sieg_mono {k r A : Nat} (hk : k ≤ r) (hA : 1 ≤ A) : sieg k A ≤ sieg r A := by
 unfold sieg;have h1 : 2 * ((k + 1) * A) ≤ 2 * ((r + 1) * A) := Nat.mul_le_mul_left _ (Nat.mul_le_mul_right _ (by omega));have h2 : 1 ≤ (r + 1) * A := Nat.mul_le_mul (show 1 ≤ r + 1 by omega) hA;exact Nat.le_trans (Nat.pow_le_pow_left h1 k) (Nat.pow_le_pow_right (by omega) hk)
theorem EForm.linear {l h : List (List Int)} {p : Nat → Nat} {A : Nat} (hf : EForm h p) (hs : SameL l h) (hA1 : 1 ≤ A) (hA : ∀ i j, (ent l i j).natAbs ≤ A) {k : Nat} (hk : k < h.length) (hl : LowAt h p k) (j : Nat) : (ent h k j).natAbs ≤ h.length * (h.length * (sieg h.length A * A) * sieg h.length A) := by
 have hpiv : ∀ i, i < h.length → (ent h i (p i)).natAbs ≤ h.length * (sieg h.length A * A) := fun i hi =>
  Nat.le_trans (hf.pivot_le hs hA1 hA hi) (Nat.mul_le_mul (by omega) (Nat.mul_le_mul_right _ (sieg_mono (by omega) hA1)))
 refine hf.column hs hA1 hA (v := fun j => ent h k j) (hs.symm.row k) (fun i hi => ?_) j;show (ent h k (p i)).natAbs ≤ _;rcases Nat.lt_trichotomy i k with e | e | e
 ·rw [hf.pivot_zero e hk]; simp
 ·subst e; exact hpiv i hi
 ·have h1 := hl i e hi;have h2 := hpiv i hi;omega
theorem bp_mul (a r : Nat) : Bp a ^ r = Bp (a * r) := by unfold Bp; rw [Nat.pow_mul]
theorem sieg_bp {r A a : Nat} (hA : A < Bp a) (hr : r ≤ 1000000) : sieg r A ≤ Bp ((a + 1) * r) := by
 unfold sieg;rw [← bp_mul];refine Nat.pow_le_pow_left ?_ r;have h1 : Bp (a + 1) = Bp a * 4294967296 := by rw [bp_add]; unfold Bp; rfl
 have h2 : 2 * ((r + 1) * A) ≤ 4294967296 * Bp a := by
  rw [← Nat.mul_assoc];exact Nat.mul_le_mul (by omega) (Nat.le_of_lt hA)
 omega
theorem lin_bp {r n a A : Nat} (eA : A + 1 = Bp a) (hn : r ≤ n) (hn2 : n ≤ 60000) : r * (r * (sieg r A * A) * sieg r A) < Bp (2 * ((a + 1) * n) + a + 1) := by
 have h3 := sieg_bp (r := r) (A := A) (a := a) (by omega) (by omega);have h4 : Bp ((a + 1) * r) ≤ Bp ((a + 1) * n) := Bp_le (Nat.mul_le_mul_left _ hn);obtain ⟨X, eX⟩ : ∃ X, X = Bp ((a + 1) * n) := ⟨_, rfl⟩;rw [← eX] at h4;have h5 : sieg r A ≤ X := Nat.le_trans h3 h4;have h6 : r * (r * (sieg r A * A) * sieg r A) ≤ 60000 * (60000 * (X * A) * X) := Nat.mul_le_mul (by omega) (Nat.mul_le_mul (Nat.mul_le_mul (by omega) (Nat.mul_le_mul_right _ h5)) h5);have h7 : Bp (2 * ((a + 1) * n) + a + 1) = X * X * Bp a * 4294967296 := by
  rw [bp_add, bp_add, Nat.two_mul, bp_add, ← eX];rw [show Bp 1 = 4294967296 by unfold Bp; rfl]
 have h8 : 60000 * (60000 * (X * A) * X) = X * X * A * 3600000000 := by
  rw [show 3600000000 = 60000 * 60000 from rfl];simp only [Nat.mul_comm, Nat.mul_left_comm, Nat.mul_assoc]
 have hX : 0 < X := by rw [eX]; exact Bp_pos _
 have h9 : X * X * A < X * X * Bp a := Nat.mul_lt_mul_of_pos_left (by omega) (Nat.mul_pos hX hX);rw [h7];rw [h8] at h6;generalize X * X * A = u at *;generalize X * X * Bp a = v at *;omega
theorem EForm.few {l h : List (List Int)} {p : Nat → Nat} {a : Nat} (hf : EForm h p) (hs : SameL l h) (ha : 1 ≤ a) (hA : ∀ i j, (ent l i j).natAbs < Bp a) {n : Nat} (hn : h.length ≤ n) (hn2 : n ≤ 60000) {k : Nat} (hk : k < h.length) (hl : LowAt h p k) (j : Nat) : (ent h k j).natAbs < Bp (2 * ((a + 1) * n) + a + 1) := by
 obtain ⟨A, eA⟩ : ∃ A, A + 1 = Bp a := ⟨Bp a - 1, by have := Bp_pos a; omega⟩;have h1 : 1 ≤ A := by
  have : Bp 1 ≤ Bp a := Bp_le ha;have e : Bp 1 = 4294967296 := by unfold Bp; rfl
  omega
 exact Nat.lt_of_le_of_lt (hf.linear hs h1 (fun i j => by have := hA i j; omega) hk hl j) (lin_bp eA hn hn2)
theorem bounded_few {l : List (List Int)} {n a : Nat} (hm : l.length ≤ n) (hn : n ≤ 60000) (ha : 1 ≤ a) (hA : ∀ i j, (ent l i j).natAbs < Bp a) : Bounded l (2 * ((a + 1) * n) + a + 1) := by
 intro i hi h p hf hs k hk hl j;have hlen := hf.len_rows hs;rw [List.length_take] at hlen;refine hf.few hs ha (fun b c => ?_) (n := n) (by omega) hn hk hl j;by_cases e : b < i
 ·rw [ent_take e]; exact hA b c
 ·rw [ent_out (by rw [List.length_take]; omega)];have := Bp_pos a;simpa using this

theorem EForm.indepF {h : List (List Int)} {p : Nat → Nat} (hf : EForm h p) : Indep h.length (ent h) := fun c hc i => by
 induction i using Nat.strongRecOn with
 | ind i ih =>
  intro hi;have h1 := hc (p i);rw [sumN_first (n := h.length) (i := i) (f := fun a => c a * ent h a (p i)) hi (fun t ht => by rw [ih t ht (by omega), Int.zero_mul]) (fun t h2 h3 => by rw [hf.pivot_zero h2 h3, Int.mul_zero]), Int.mul_comm] at h1;exact int_zero h1 (hf.pos i hi)
end Go.Proofs.YtnpneloahajniaaGreat
