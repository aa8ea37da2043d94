/-
 A kernel's rows in the form are as small as the number of the given rows has it: each number is at most so many times what Siegel's lemma tells of these.
-/
import Derived.Test.YtkomdimalgnamaaGreatJO
namespace Go.Proofs.YtkomdimalgnamaaGreat
open Go.RowKit Lb
set_option maxRecDepth 20000

theorem nonpivots {q : Nat → Nat} {m : Nat} (hr : ∀ i k, i < k → k < m → q i < q k) : ∀ N, ∃ (k : Nat) (col : Nat → Nat), k ≤ m ∧ k ≤ N ∧ (∀ t, t < k → q t < N) ∧ (∀ t, k ≤ t → t < m → N ≤ q t) ∧ (∀ i, i < N - k → col i < N ∧ ∀ t, t < m → q t ≠ col i) ∧ ∀ i i', i < i' → i' < N - k → col i < col i'
 | 0 => ⟨0, fun i => i, Nat.zero_le _, Nat.le_refl _, fun t ht => absurd ht (by omega), fun t _ _ => Nat.zero_le _, fun i hi => absurd hi (by omega), fun i i' _ h => absurd h (by omega)⟩
 | N + 1 => by
  obtain ⟨k, col, h1, h2, h3, h4, h5, h6⟩ := nonpivots hr N;by_cases e : k < m ∧ q k = N
  ·refine ⟨k + 1, col, e.1, by omega, fun t ht => ?_, fun t h7 h8 => ?_, fun i hi => ?_, fun i i' h7 h8 => h6 i i' h7 (by omega)⟩
   ·by_cases c : t = k
    ·subst c; omega
    ·have := h3 t (by omega); omega
   ·have := hr k t (by omega) h8; omega
   ·obtain ⟨h7, h8⟩ := h5 i (by omega);exact ⟨by omega, h8⟩
  ·refine ⟨k, fun i => if i < N - k then col i else N, h1, by omega, fun t ht => by have := h3 t ht; omega, fun t h7 h8 => ?_, fun i hi => ?_, fun i i' h7 h8 => ?_⟩
   ·have := h4 t h7 h8;by_cases c : q t = N
    ·by_cases d : t = k
     ·subst d; exact absurd ⟨h8, c⟩ e
     ·have := hr k t (by omega) h8;have := h4 k (Nat.le_refl _) (by omega);omega
    ·omega
   ·by_cases c : i < N - k
    ·show (if i < N - k then col i else N) < N + 1 ∧ ∀ t, t < m → q t ≠ if i < N - k then col i else N
     rw [if_pos c];obtain ⟨h7, h8⟩ := h5 i c;exact ⟨by omega, h8⟩
    ·show (if i < N - k then col i else N) < N + 1 ∧ ∀ t, t < m → q t ≠ if i < N - k then col i else N
     rw [if_neg c];refine ⟨by omega, fun t ht e2 => ?_⟩;by_cases d : t < k
     ·have := h3 t d; omega
     ·by_cases f : t = k
      ·subst f; exact e ⟨ht, e2⟩
      ·have := hr k t (by omega) ht;have := h4 k (Nat.le_refl _) (by omega);omega
   ·show (if i < N - k then col i else N) < if i' < N - k then col i' else N
    rw [if_pos (show i < N - k by omega)];by_cases c : i' < N - k
    ·rw [if_pos c]; exact h6 i i' h7 c
    ·rw [if_neg c]; exact (h5 i (by omega)).1
theorem EForm.pivots_zero {h : List (List Int)} {p : Nat → Nat} (hf : EForm h p) {v : Nat → Int} (hv : InL h v) (h0 : ∀ i, i < h.length → v (p i) = 0) (j : Nat) : v j = 0 := by
 by_cases hn : ∀ j, v j = 0
 ·exact hn j
 ·obtain ⟨i, x, hi, _, _, hne⟩ := hf.lead hv hn;exact absurd (h0 i hi) hne
def spread (u : Nat) (col : Nat → Nat) (c : Nat → Int) (j : Nat) : Int := sumN u fun s => if col s = j then c s else 0
theorem spread_dot (u : Nat) (col : Nat → Nat) (c : Nat → Int) (f : Nat → Int) (N : Nat) (h : ∀ s, s < u → col s < N) : (sumN N fun t => spread u col c t * f t) = sumN u fun s => f (col s) * c s := by
 have e : ∀ t, spread u col c t * f t = sumN u fun s => (if col s = t then c s else 0) * f t := fun t => (sumN_mul_right u (fun s => if col s = t then c s else 0) (f t)).symm;rw [sumN_congr (g := fun t => sumN u fun s => (if col s = t then c s else 0) * f t) fun t _ => e t, sumN_swap];refine sumN_congr fun s hs => ?_;rw [← sumN_single N (col s) (f (col s) * c s) (h s hs)];refine sumN_congr fun t _ => ?_;by_cases d : t = col s
 ·subst d; rw [if_pos rfl, if_pos rfl, Int.mul_comm]
 ·rw [if_neg (Ne.symm d), if_neg d, Int.zero_mul]
theorem spread_at {u : Nat} {col : Nat → Nat} {c : Nat → Int} (hinj : ∀ s t, s < u → t < u → col s = col t → s = t) {s : Nat} (hs : s < u) : spread u col c (col s) = c s := by
 unfold spread;rw [← sumN_single u s (c s) hs];refine sumN_congr fun t ht => ?_;by_cases d : t = s
 ·subst d; rw [if_pos rfl, if_pos rfl]
 ·rw [if_neg d, if_neg fun e => d (hinj t s ht hs e)]
theorem spread_off {u : Nat} {col : Nat → Nat} {c : Nat → Int} {j : Nat} (h : ∀ s, s < u → col s ≠ j) : spread u col c j = 0 := by
 unfold spread;exact (sumN_congr (g := fun _ => (0 : Int)) fun s hs => if_neg (h s hs)).trans (sumN_nil0 u)
theorem common_multiple (m : Nat) (y : Nat → Int) (h : ∀ i, i < m → y i ≠ 0) : ∃ (D : Int) (e : Nat → Int), D ≠ 0 ∧ ∀ i, i < m → D = e i * y i := by
 induction m with
 | zero => exact ⟨1, fun _ => 0, by decide, fun i hi => absurd hi (by omega)⟩
 | succ m ih =>
  obtain ⟨D, e, h1, h2⟩ := ih fun i hi => h i (by omega);refine ⟨D * y m, fun i => if i < m then e i * y m else D, Int.mul_ne_zero h1 (h m (by omega)), fun i hi => ?_⟩;by_cases c : i < m
  ·show D * y m = (if i < m then e i * y m else D) * y i;rw [if_pos c, Int.mul_assoc, Int.mul_comm (y m), ← Int.mul_assoc, ← h2 i c]
  ·obtain rfl : i = m := by omega
   show D * y i = (if i < i then e i * y i else D) * y i;rw [if_neg (Nat.lt_irrefl _)]
theorem ker_at {K c r : List (List Int)} {q pr : Nat → Nat} {A N : Nat} (hK : HForm K q) (hk : Ker K c N) (hKl : ∀ s ∈ K, s.length = N) (_ : HForm r pr) (hs : SameL c r) (hsum : r.length + K.length = N) (hA1 : 1 ≤ A) (hA : ∀ i j, (ent c i j).natAbs ≤ A) {i : Nat} (hi : i < K.length) : ∃ y : Nat → Int, InL K y ∧ (∀ j, (y j).natAbs ≤ sieg r.length A) ∧ (∀ k, k < K.length → k ≠ i → y (q k) = 0) ∧ y (q i) ≠ 0 := by
 obtain ⟨ρ, eρ⟩ : ∃ ρ, ρ = r.length := ⟨_, rfl⟩;rw [← eρ];have hpN : ∀ t, t < K.length → q t < N := fun t ht => by
  have h1 := (hK.eform.isPivot ht).lt;rw [rows_len hKl t ht] at h1;exact h1
 obtain ⟨k, col0, h1, h2, h3, h4, h5, h6⟩ := nonpivots hK.rise N;obtain rfl : k = K.length := by
  rcases Nat.lt_or_ge k K.length with d | d
  ·have := h4 k (Nat.le_refl _) d; have := hpN k d; omega
  ·omega
 have hN : N - K.length = ρ := by omega
 rw [hN] at h5 h6;obtain ⟨w, sel, hsel, hind, hsp⟩ := pick (ent c) c.length;have hw : w ≤ ρ := by
  rw [eρ];exact hind.le (H := ent r) fun t ht => ⟨1, by decide, by
   obtain ⟨x, hx⟩ := hs.row (sel t);exact ⟨x, fun j => (Int.one_mul _).trans (hx j)⟩⟩
 obtain ⟨col, ecol⟩ : ∃ col : Nat → Nat, col = fun s => if s < ρ then col0 s else q i := ⟨_, rfl⟩
 have hc1 : ∀ s, s < ρ → col s = col0 s := fun s hs => by rw [ecol]; exact if_pos hs
 have hc2 : col ρ = q i := by rw [ecol]; exact if_neg (Nat.lt_irrefl _)
 have hcN : ∀ s, s < ρ + 1 → col s < N := fun s hs' => by
  by_cases d : s < ρ
  ·rw [hc1 s d]; exact (h5 s d).1
  ·obtain rfl : s = ρ := by omega
   rw [hc2]; exact hpN i hi
 have hinj : ∀ s t, s < ρ + 1 → t < ρ + 1 → col s = col t → s = t := fun s t hs' ht' e => by
  by_cases d : s < ρ
  ·by_cases f : t < ρ
   ·rw [hc1 s d, hc1 t f] at e;rcases Nat.lt_trichotomy s t with g | g | g
    ·have := h6 s t g f; omega
    ·exact g
    ·have := h6 t s g d; omega
   ·obtain rfl : t = ρ := by omega
    rw [hc1 s d, hc2] at e;exact absurd e.symm ((h5 s d).2 i hi)
  ·obtain rfl : s = ρ := by omega
   by_cases f : t < s
   ·rw [hc1 t f, hc2] at e;exact absurd e ((h5 t f).2 i hi)
   ·omega
 obtain ⟨x, ⟨i0, hi0, hne⟩, hxM, hx⟩ := siegel_one (e := ρ) (A := A) (E := fun t s => if t < w then ent c (sel t) (col s) else 0) hA1 fun t s _ _ => by
  show (if t < w then ent c (sel t) (col s) else 0).natAbs ≤ A
  split
  ·exact hA _ _
  ·simp
 have hR : ∀ a, a < c.length → (sumN (ρ + 1) fun s => ent c a (col s) * x s) = 0 := fun a ha => by
  refine over_spans (v := ent c a) (col := col) (hsp a ha) fun t ht => ?_;have := hx t (by omega);rw [← this];exact sumN_congr fun s _ => by rw [if_pos ht]
 obtain ⟨y, ey⟩ : ∃ y, y = spread (ρ + 1) col x := ⟨_, rfl⟩;have hyK : InL K y := hk.all _ (fun j hj => by rw [ey]; exact spread_off fun s hs' => by have := hcN s hs'; omega) fun a ha => by
  rw [ey, spread_dot (ρ + 1) col x (ent c a) N hcN];exact hR a ha
 have hyp : ∀ t, t < K.length → t ≠ i → y (q t) = 0 := fun t ht hti => by
  rw [ey];refine spread_off fun s hs' e => ?_;by_cases d : s < ρ
  ·rw [hc1 s d] at e; exact (h5 s d).2 t ht e.symm
  ·obtain rfl : s = ρ := by omega
   rw [hc2] at e;rcases Nat.lt_trichotomy t i with g | g | g
   ·have := hK.rise t i g hi; omega
   ·exact hti g
   ·have := hK.rise i t g ht; omega
 refine ⟨y, hyK, fun j => ?_, hyp, fun e0 => ?_⟩
 ·by_cases d : ∃ s, s < ρ + 1 ∧ col s = j
  ·obtain ⟨s, hs1, hs2⟩ := d;rw [← hs2, ey, spread_at hinj hs1];exact hxM s
  ·rw [ey, spread_off fun s hs' e => d ⟨s, hs', e⟩];simp
 ·have hz := hK.eform.pivots_zero hyK (fun t ht => by
   by_cases d : t = i
   ·subst d; exact e0
   ·exact hyp t ht d)
  refine hne ?_;rw [← spread_at (c := x) hinj hi0, ← ey];exact hz _
theorem ker_tiny {K c r : List (List Int)} {q pr : Nat → Nat} {A N : Nat} (hK : HForm K q) (hk : Ker K c N) (hKl : ∀ s ∈ K, s.length = N) (hr : HForm r pr) (hs : SameL c r) (hsum : r.length + K.length = N) (hA1 : 1 ≤ A) (hA : ∀ i j, (ent c i j).natAbs ≤ A) (i j : Nat) : (ent K i j).natAbs ≤ K.length * sieg r.length A := by
 by_cases hi : i < K.length
 ·have hx : ∀ k, ∃ y : Nat → Int, k < K.length → InL K y ∧ (∀ j, (y j).natAbs ≤ sieg r.length A) ∧ (∀ t, t < K.length → t ≠ k → y (q t) = 0) ∧ y (q k) ≠ 0 := fun k => by
   by_cases d : k < K.length
   ·obtain ⟨y, hy⟩ := ker_at hK hk hKl hr hs hsum hA1 hA d;exact ⟨y, fun _ => hy⟩
   ·exact ⟨fun _ => 0, fun h => absurd h d⟩
  obtain ⟨Y, hY⟩ := Classical.axiomOfChoice hx;obtain ⟨D, e, hD, he⟩ := common_multiple K.length (fun k => Y k (q k)) fun k hk' => (hY k hk').2.2.2;have hle : ∀ k, k < K.length → (ent K i (q k)).natAbs ≤ (Y k (q k)).natAbs := fun k hk' => by
   obtain ⟨g1, _, g3, g4⟩ := hY k hk';obtain ⟨k', x, hk1, _, hx1, hx2⟩ := hK.eform.lead g1 (fun h0 => g4 (h0 _));obtain rfl : k' = k := Classical.byContradiction fun hne => hx2 (g3 k' hk1 hne);have hpos := hK.pos k' hk1;have hxne : x ≠ 0 := fun h0 => by rw [h0, Int.zero_mul] at hx1; exact g4 hx1
   have h1 : (ent K k' (q k')).natAbs ≤ (Y k' (q k')).natAbs := by
    rw [hx1, Int.natAbs_mul];exact Nat.le_mul_of_pos_left _ (by omega)
   rcases Nat.lt_trichotomy i k' with g | g | g
   ·have := hK.low i k' g hk1; omega
   ·subst g; exact h1
   ·rw [hK.ahead i hi (q k') (hK.rise k' i g hi)]; simp
  have hsm : ∀ t, D * ent K i t = sumN K.length fun k => ent K i (q k) * e k * Y k t := by
   have hz := hK.eform.pivots_zero (v := fun t => D * ent K i t - sumN K.length fun k => ent K i (q k) * e k * Y k t) (((inL_row (l := K) i).mul D).sub (inL_sum K.length (fun k t => ent K i (q k) * e k * Y k t) fun k hk' => ((hY k hk').1.mul (ent K i (q k) * e k)))) fun k hk' => by
    show D * ent K i (q k) - (sumN K.length fun t => ent K i (q t) * e t * Y t (q k)) = 0;have h1 : (sumN K.length fun t => ent K i (q t) * e t * Y t (q k)) = ent K i (q k) * e k * Y k (q k) := by
     rw [← sumN_single K.length k (ent K i (q k) * e k * Y k (q k)) hk'];refine sumN_congr fun t ht => ?_;by_cases d : t = k
     ·subst d; rw [if_pos rfl]
     ·rw [if_neg d, (hY t ht).2.2.1 k hk' (Ne.symm d), Int.mul_zero]
    rw [h1, Int.mul_assoc, ← he k hk', Int.mul_comm];omega
   intro t;have := hz t;omega
  have h1 : (D * ent K i j).natAbs ≤ K.length * (D.natAbs * sieg r.length A) := by
   rw [hsm j];refine sumN_abs fun k hk' => ?_;rw [Int.natAbs_mul, Int.natAbs_mul];refine Nat.mul_le_mul ?_ ((hY k hk').2.1 j);rw [he k hk', Int.natAbs_mul, Nat.mul_comm];exact Nat.mul_le_mul_left _ (hle k hk')
  rw [Int.natAbs_mul, Nat.mul_left_comm] at h1;exact Nat.le_of_mul_le_mul_left h1 (by omega)
 ·rw [ent_out (by omega)]; simp
theorem ker_thirteen {K c r : List (List Int)} {q pr : Nat → Nat} {N : Nat} (hK : HForm K q) (hk : Ker K c N) (hKl : ∀ s ∈ K, s.length = N) (hr : HForm r pr) (hs : SameL c r) (hsum : r.length + K.length = N) (hc : c.length ≤ 4) (hN : N ≤ 400) (hA : ∀ i j, (ent c i j).natAbs < Bp 3) (i j : Nat) : (ent K i j).natAbs < Bp 13 := by
 obtain ⟨A, eA⟩ : ∃ A, A + 1 = Bp 3 := ⟨Bp 3 - 1, by have := Bp_pos 3; omega⟩;have hA1 : 1 ≤ A := by have := one_bp (a := 3) (by omega); omega
 have h1 := ker_tiny hK hk hKl hr hs hsum hA1 (fun i j => by have := hA i j; omega) i j;have hr4 : r.length ≤ 4 := Nat.le_trans (hr.eform.len_rows hs) hc;have h2 : sieg r.length A ≤ sieg 4 A := sieg_mono hr4 hA1;have h3 : sieg 4 A ≤ (10 * Bp 3) ^ 4 := by
  unfold sieg;refine Nat.pow_le_pow_left ?_ 4;omega
 have h4 : K.length * sieg r.length A ≤ 400 * (10 * Bp 3) ^ 4 := Nat.mul_le_mul (by omega) (Nat.le_trans h2 h3);have h5 : (10 * Bp 3) ^ 4 = 10000 * Bp 12 := by rw [Nat.mul_pow, bp_mul]
 have h6 : Bp 13 = Bp 12 * 4294967296 := by rw [show (13 : Nat) = 12 + 1 from rfl, bp_add, show Bp 1 = 4294967296 by unfold Bp; rfl]
 have h7 := Bp_pos 12;rw [h5] at h4;rw [h6];generalize Bp 12 = Z at *;omega

end Go.Proofs.YtkomdimalgnamaaGreat
