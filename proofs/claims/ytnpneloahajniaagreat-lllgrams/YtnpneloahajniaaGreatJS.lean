/-
 Plain mathematics of stage 10: rows with rising pivots (not yet lowered), and how great their numbers may be: by Gauss's and Jordan's way, of which nothing but the bound is kept.
-/
import Derived.Test.YtnpneloahajniaaGreatJL
import Derived.Test.YtnpneloahajniaaGreatJI
import Derived.Test.YtnpneloahajniaaGreatJM
import Derived.Test.YtnpneloahajniaaGreatJE
namespace Go.Proofs.YtnpneloahajniaaGreat
open Go.RowKit Lb
set_option maxRecDepth 20000

structure EForm (h : List (List Int)) (p : Nat → Nat) : Prop where
 rise : ∀ i k, i < k → k < h.length → p i < p k
 ahead : ∀ i, i < h.length → ∀ j, j < p i → ent h i j = 0
 pos : ∀ i, i < h.length → 0 < ent h i (p i)
def LowAt (h : List (List Int)) (p : Nat → Nat) (i : Nat) : Prop := ∀ k, i < k → k < h.length → 0 ≤ ent h i (p k) ∧ ent h i (p k) < ent h k (p k)
theorem EForm.form {h : List (List Int)} {p : Nat → Nat} (he : EForm h p) (hl : ∀ i, i < h.length → LowAt h p i) : HForm h p := ⟨he.rise, he.ahead, he.pos, fun i k h1 h2 => hl i (by omega) k h1 h2⟩
theorem HForm.eform {h : List (List Int)} {p : Nat → Nat} (hf : HForm h p) : EForm h p := ⟨hf.rise, hf.ahead, hf.pos⟩
theorem EForm.lead {h : List (List Int)} {p : Nat → Nat} (hf : EForm h p) {v : Nat → Int} (hv : InL h v) (hn : ¬ ∀ j, v j = 0) : ∃ i x, i < h.length ∧ (∀ j, j < p i → v j = 0) ∧ v (p i) = x * ent h i (p i) ∧ v (p i) ≠ 0 := by
 obtain ⟨c, hc⟩ := hv;rcases first_not c h.length with h0 | ⟨i, hi, hci, hlt⟩
 ·exfalso
  refine hn fun j => ?_;rw [hc j, ← sumN_nil0 h.length];exact sumN_congr fun i hi => by rw [h0 i hi, Int.zero_mul]
 ·have hz : ∀ j, j < p i → v j = 0 := fun j hj => by
   rw [hc j, ← sumN_nil0 h.length];refine sumN_congr fun t ht => ?_;rcases Nat.lt_trichotomy t i with d | d | d
   ·rw [hlt t d, Int.zero_mul]
   ·subst d; rw [hf.ahead t ht j hj, Int.mul_zero]
   ·have := hf.rise i t d ht;rw [hf.ahead t ht j (by omega), Int.mul_zero]
  have hp : v (p i) = c i * ent h i (p i) := by
   rw [hc (p i)];exact sumN_first (f := fun t => c t * ent h t (p i)) hi (fun t ht => by rw [hlt t ht, Int.zero_mul]) (fun t h1 h2 => by rw [hf.ahead t h2 (p i) (hf.rise i t h1 h2), Int.mul_zero])
  refine ⟨i, c i, hi, hz, hp, ?_⟩;rw [hp];have := hf.pos i hi;intro e;rcases Int.mul_eq_zero.1 e with d | d
  ·exact hci d
  ·omega
theorem EForm.isPivot {h : List (List Int)} {p : Nat → Nat} (hf : EForm h p) {i : Nat} (hi : i < h.length) : IsPivot (h.getD i []) (p i) := ⟨hf.ahead i hi, by have := hf.pos i hi; unfold ent at this; omega⟩

def InF (m : Nat) (F : Nat → Nat → Int) (v : Nat → Int) : Prop := ∃ c : Nat → Int, ∀ j, v j = sumN m fun i => c i * F i j
theorem inF_zero (m : Nat) (F : Nat → Nat → Int) : InF m F fun _ => 0 := ⟨fun _ => 0, fun j => by
 show (0 : Int) = sumN m fun i => (0 : Int) * F i j;rw [show (sumN m fun i => (0 : Int) * F i j) = sumN m fun _ => (0 : Int) from sumN_congr fun i _ => Int.zero_mul _, sumN_nil0]⟩
theorem InF.add {m : Nat} {F : Nat → Nat → Int} {v u : Nat → Int} (h : InF m F v) (h' : InF m F u) : InF m F fun j => v j + u j := by
 obtain ⟨c, hc⟩ := h;obtain ⟨d, hd⟩ := h';refine ⟨fun i => c i + d i, fun j => ?_⟩;show v j + u j = sumN m fun i => (c i + d i) * F i j;rw [hc j, hd j, ← sumN_add];exact sumN_congr fun i _ => by rw [Int.add_mul]
theorem InF.mul {m : Nat} {F : Nat → Nat → Int} {v : Nat → Int} (h : InF m F v) (x : Int) : InF m F fun j => x * v j := by
 obtain ⟨c, hc⟩ := h;refine ⟨fun i => x * c i, fun j => ?_⟩;show x * v j = sumN m fun i => x * c i * F i j;rw [hc j, ← sumN_mul];exact sumN_congr fun i _ => by rw [Int.mul_assoc]
theorem InF.eq {m : Nat} {F : Nat → Nat → Int} {v u : Nat → Int} (h : InF m F v) (e : ∀ j, u j = v j) : InF m F u := by
 obtain ⟨c, hc⟩ := h;exact ⟨c, fun j => (e j).trans (hc j)⟩
theorem inF_row {m : Nat} {F : Nat → Nat → Int} {i : Nat} (hi : i < m) : InF m F fun j => F i j := by
 refine ⟨fun t => if t = i then 1 else 0, fun j => ?_⟩;have e : (sumN m fun t => (if t = i then (1 : Int) else 0) * F t j) = sumN m fun t => if t = i then F i j else 0 := sumN_congr fun t _ => by
  by_cases c : t = i
  ·subst c; rw [if_pos rfl, if_pos rfl, Int.one_mul]
  ·rw [if_neg c, if_neg c, Int.zero_mul]
 show F i j = sumN m fun t => (if t = i then (1 : Int) else 0) * F t j;rw [e, sumN_single _ _ _ hi]
theorem inF_sum {m : Nat} {F : Nat → Nat → Int} (n : Nat) (f : Nat → Nat → Int) (h : ∀ i, i < n → InF m F fun j => f i j) : InF m F fun j => sumN n fun i => f i j := by
 induction n with
 | zero => exact inF_zero m F
 | succ n ih => exact (ih fun i hi => h i (by omega)).add (h n (by omega))
theorem sumN_not {n : Nat} {f : Nat → Int} (h : sumN n f ≠ 0) : ∃ i, i < n ∧ f i ≠ 0 := by
 rcases first_not f n with h0 | ⟨i, h1, h2, _⟩
 ·exfalso
  apply h;rw [← sumN_nil0 n];exact sumN_congr fun i hi => h0 i hi
 ·exact ⟨i, h1, h2⟩

structure JState (l : List (List Int)) (p : Nat → Nat) (t m A : Nat) (F : Nat → Nat → Int) : Prop where
 inL : ∀ i, i < m → InL l fun j => F i j
 size : ∀ i, i < m → ∀ j, (F i j).natAbs ≤ A
 zero : ∀ i, i < m → ∀ s, s < t → s ≠ i → F i (p s) = 0
 not0 : ∀ s, s < t → F s (p s) ≠ 0
 span : ∀ v, InL l v → ∃ c, c ≠ 0 ∧ InF m F fun j => c * v j
 tle : t ≤ m
theorem jstate_start {l : List (List Int)} (p : Nat → Nat) {A : Nat} (hA : ∀ i j, (ent l i j).natAbs ≤ A) : JState l p 0 l.length A (ent l) :=
 ⟨fun i _ => inL_row i, fun i _ j => hA i j, fun _ _ s hs => absurd hs (by omega), fun s hs => absurd hs (by omega), fun v hv => ⟨1, by omega, by obtain ⟨c, hc⟩ := hv; exact ⟨c, fun j => by show 1 * v j = _; rw [Int.one_mul]; exact hc j⟩⟩, Nat.zero_le _⟩
theorem JState.next {l h : List (List Int)} {p : Nat → Nat} {t m A : Nat} {F : Nat → Nat → Int} (hf : EForm h p) (hs : SameL l h) (hj : JState l p t m A F) (ht : t < h.length) : ∃ G, JState l p (t + 1) m (2 * (A * A)) G := by
 obtain ⟨g, hgt, hgm, hg0⟩ : ∃ g, t ≤ g ∧ g < m ∧ F g (p t) ≠ 0 := by
  obtain ⟨c, hc0, α, hα0⟩ := hj.span _ (hs.symm.row t);have hα : ∀ j, c * ent h t j = sumN m fun i => α i * F i j := hα0;clear hα0;have hα0 : ∀ s, s < t → α s = 0 := by
   intro s hst;have h1 := hα (p s);rw [hf.ahead t ht (p s) (hf.rise s t hst ht), Int.mul_zero, sumN_first (f := fun i => α i * F i (p s)) (show s < m by have := hj.tle; omega) (fun i hi => by rw [hj.zero i (by have := hj.tle; omega) s hst (by omega), Int.mul_zero]) (fun i h1 h2 => by rw [hj.zero i h2 s hst (by omega), Int.mul_zero])] at h1;rcases Int.mul_eq_zero.1 h1.symm with d | d
   ·exact d
   ·exact absurd d (hj.not0 s hst)
  have h2 := hα (p t);have hp := hf.pos t ht;obtain ⟨i, hi, hne⟩ := sumN_not (f := fun i => α i * F i (p t)) (n := m) (by
   rw [← h2];intro e;rcases Int.mul_eq_zero.1 e with d | d
   ·exact hc0 d
   ·omega)
  refine ⟨i, ?_, hi, fun e => hne (by show α i * F i (p t) = 0; rw [e, Int.mul_zero])⟩;rcases Nat.lt_or_ge i t with d | d
  ·exact absurd (show α i * F i (p t) = 0 by rw [hα0 i d, Int.zero_mul]) hne
  ·exact d
 have htm : t < m := by omega
 obtain ⟨E, hE⟩ : ∃ E : Nat → Nat → Int, ∀ i, E i = if i = t then F g else if i = g then F t else F i := ⟨_, fun _ => rfl⟩
 have hEt : E t = F g := by rw [hE, if_pos rfl]
 have hEs : ∀ s, s < t → E s = F s := fun s hst => by rw [hE, if_neg (by omega), if_neg (by omega)]
 have hEf : ∀ i, i < m → ∃ i', i' < m ∧ E i = F i' ∧ (∀ s, s < t → s ≠ i → s ≠ i') := fun i hi => by
  by_cases c : i = t
  ·exact ⟨g, hgm, by rw [c, hEt], fun s h1 _ => by omega⟩
  ·by_cases d : i = g
   ·exact ⟨t, htm, by rw [hE, if_neg c, if_pos d], fun s h1 _ => by omega⟩
   ·exact ⟨i, hi, by rw [hE, if_neg c, if_neg d], fun s _ h2 => h2⟩
 have hFe : ∀ i, i < m → ∃ i', i' < m ∧ F i = E i' := fun i hi => by
  by_cases c : i = t
  ·by_cases d : t = g
   ·exact ⟨t, htm, by rw [hEt, c, d]⟩
   ·exact ⟨g, hgm, by rw [hE, if_neg (Ne.symm d), if_pos rfl, c]⟩
  ·by_cases d : i = g
   ·exact ⟨t, htm, by rw [hEt, d]⟩
   ·exact ⟨i, hi, by rw [hE, if_neg c, if_neg d]⟩
 have hEin : ∀ i, i < m → InL l fun j => E i j := fun i hi => by
  obtain ⟨i', h1, h2, _⟩ := hEf i hi;rw [h2]; exact hj.inL i' h1
 have hEsz : ∀ i, i < m → ∀ j, (E i j).natAbs ≤ A := fun i hi j => by
  obtain ⟨i', h1, h2, _⟩ := hEf i hi;rw [h2]; exact hj.size i' h1 j
 have hEz : ∀ i, i < m → ∀ s, s < t → s ≠ i → E i (p s) = 0 := fun i hi s h1 h2 => by
  obtain ⟨i', h3, h4, h5⟩ := hEf i hi;rw [h4]; exact hj.zero i' h3 s h1 (h5 s h1 h2)
 have ha : E t (p t) ≠ 0 := by rw [hEt]; exact hg0
 have hA1 : 1 ≤ A := by
  have := hEsz t htm (p t);omega
 obtain ⟨G, hG⟩ : ∃ G : Nat → Nat → Int, ∀ i j, G i j = if i = t then E t j else E t (p t) * E i j - E i (p t) * E t j := ⟨fun i j => if i = t then E t j else E t (p t) * E i j - E i (p t) * E t j, fun _ _ => rfl⟩
 have hGt : ∀ j, G t j = E t j := fun j => by rw [hG, if_pos rfl]
 have hGo : ∀ i, i ≠ t → ∀ j, G i j = E t (p t) * E i j - E i (p t) * E t j := fun i hi j => by rw [hG, if_neg hi]
 refine ⟨G, fun i hi => ?_, fun i hi j => ?_, fun i hi s h1 h2 => ?_, fun s h1 => ?_, fun v hv => ?_, by omega⟩
 ·by_cases c : i = t
  ·exact (hEin t htm).eq fun j => by rw [c]; exact hGt j
  ·exact (((hEin i hi).mul (E t (p t))).sub ((hEin t htm).mul (E i (p t)))).eq fun j => hGo i c j
 ·have hAA : A * 1 ≤ A * A := Nat.mul_le_mul_left _ hA1;by_cases c : i = t
  ·rw [c, hGt];have := hEsz t htm j;omega
  ·rw [hGo i c];have h1 : (E t (p t) * E i j).natAbs ≤ A * A := by rw [Int.natAbs_mul]; exact Nat.mul_le_mul (hEsz t htm _) (hEsz i hi j)
   have h2 : (E i (p t) * E t j).natAbs ≤ A * A := by rw [Int.natAbs_mul]; exact Nat.mul_le_mul (hEsz i hi _) (hEsz t htm j)
   omega
 ·by_cases c : i = t
  ·subst c;rw [hGt];exact hEz i hi s (by omega) h2
  ·rw [hGo i c];by_cases d : s = t
   ·subst d;rw [Int.mul_comm]; omega
   ·rw [hEz i hi s (by omega) h2, hEz t htm s (by omega) d, Int.mul_zero, Int.mul_zero]; rfl
 ·by_cases c : s = t
  ·subst c;rw [hGt]; exact ha
  ·rw [hGo s c, hEz t htm s (by omega) c, Int.mul_zero, hEs s (by omega)];intro e;rcases Int.mul_eq_zero.1 (show E t (p t) * F s (p s) = 0 by omega) with d | d
   ·exact ha d
   ·exact hj.not0 s (by omega) d
 ·obtain ⟨c, hc0, α, hα0⟩ := hj.span v hv;have hα : ∀ j, c * v j = sumN m fun i => α i * F i j := hα0;clear hα0;have hrow : ∀ i, i < m → InF m G fun j => E t (p t) * E i j := fun i hi => by
   by_cases d : i = t
   ·exact ((inF_row (F := G) htm).mul (E t (p t))).eq fun j => by rw [d, hGt]
   ·exact ((inF_row (F := G) hi).add ((inF_row (F := G) htm).mul (E i (p t)))).eq fun j => by rw [hGo i d, hGt]; omega
  refine ⟨E t (p t) * c, fun e => ?_, ?_⟩
  ·rcases Int.mul_eq_zero.1 e with d | d
   ·exact ha d
   ·exact hc0 d
  ·refine (inF_sum m (fun i j => α i * (E t (p t) * F i j)) fun i hi => ?_).eq fun j => ?_
   ·obtain ⟨i', h1, h2⟩ := hFe i hi;rw [h2];exact (hrow i' h1).mul (α i)
   ·rw [Int.mul_assoc, hα j, ← sumN_mul];refine sumN_congr fun i _ => ?_;rw [← Int.mul_assoc, ← Int.mul_assoc, Int.mul_comm (α i)]
def bigA : Nat → Nat → Nat
 | 0, A => A
 | t + 1, A => 2 * (bigA t A * bigA t A)
theorem jstate_all {l h : List (List Int)} {p : Nat → Nat} {A : Nat} (hf : EForm h p) (hs : SameL l h) (hA : ∀ i j, (ent l i j).natAbs ≤ A) : ∀ t, t ≤ h.length → ∃ F, JState l p t l.length (bigA t A) F
 | 0, _ => ⟨_, jstate_start p hA⟩
 | t + 1, ht => by
  obtain ⟨F, hF⟩ := jstate_all hf hs hA t (by omega);exact hF.next hf hs (by omega)
theorem EForm.len_rows {l h : List (List Int)} {p : Nat → Nat} (hf : EForm h p) (hs : SameL l h) : h.length ≤ l.length := by
 have hex : ∀ k, ∃ A, ∀ i, i < k → ∀ j, (ent l i j).natAbs ≤ A := by
  have hrow : ∀ r : List Int, ∃ A, ∀ j, (r.getD j 0).natAbs ≤ A := by
   intro r
   induction r with
   | nil => exact ⟨0, fun j => by simp⟩
   | cons x r ih =>
    obtain ⟨A, hA⟩ := ih;refine ⟨A + x.natAbs, fun j => ?_⟩;cases j with
    | zero => simp
    | succ j => have := hA j; simp only [List.getD_cons_succ]; omega
  intro k
  induction k with
  | zero => exact ⟨0, fun i hi => absurd hi (by omega)⟩
  | succ k ih =>
   obtain ⟨A, hA⟩ := ih;obtain ⟨B, hB⟩ := hrow (l.getD k []);refine ⟨A + B, fun i hi j => ?_⟩;by_cases c : i = k
   ·subst c; have := hB j; unfold ent; omega
   ·have := hA i (by omega) j; omega
 obtain ⟨A, hA⟩ := hex l.length;obtain ⟨F, hF⟩ := jstate_all hf hs (A := A) (fun i j => by
  by_cases c : i < l.length
  ·exact hA i c j
  ·rw [ent_out (by omega)]; simp) h.length (Nat.le_refl _)
 exact hF.tle
/-
 Plain mathematics of stage 10: a row laid into rows with rising pivots, and what each step of it keeps; how they are lowered from the last one on.
-/

def PivZ (v : List Int) (z : Int) : Prop := (z = -1 ∧ ∀ j, v.getD j 0 = 0) ∨ ∃ q : Nat, z = (q : Int) ∧ IsPivot v q
def Hand (z : Int) (v : List Int) : Prop := (z = -1 ∧ ∀ j, v.getD j 0 = 0) ∨ ∃ q : Nat, z = (q : Int) ∧ (∀ j, j < q → v.getD j 0 = 0) ∧ 0 < v.getD q 0
theorem normal_sign (v : List Int) : ∃ s : Int, (s = 1 ∨ s = -1) ∧ ∀ j, (vnormal v).getD j 0 = s * v.getD j 0 := by
 rcases normal_cases v with ⟨_, e⟩ | ⟨_, e⟩ | ⟨_, e⟩
 ·exact ⟨-1, Or.inr rfl, fun j => by rw [e, vneg_at]; omega⟩
 ·exact ⟨1, Or.inl rfl, fun j => by rw [e]; omega⟩
 ·exact ⟨1, Or.inl rfl, fun j => by rw [e]; omega⟩
theorem hand_of {v : List Int} {z : Int} (h : PivZ v z) : Hand z (vnormal v) := by
 rcases h with ⟨e, h0⟩ | ⟨q, e, hq⟩
 ·left
  obtain ⟨s, _, hs⟩ := normal_sign v;exact ⟨e, fun j => by rw [hs, h0, Int.mul_zero]⟩
 ·right
  refine ⟨q, e, fun j hj => ?_, ?_⟩
  ·obtain ⟨s, _, hs⟩ := normal_sign v;rw [hs, hq.1 j hj, Int.mul_zero]
  ·rcases normal_cases v with ⟨t, e⟩ | ⟨t, e⟩ | ⟨t, e⟩
   ·rw [e, vneg_at];obtain ⟨m, h1, h2⟩ := t;have hnil : ∀ j, ([] : List Int).getD j 0 = 0 := fun j => by simp
    rw [hnil] at h2;have hm : q = m := lead_one (v := fun j => v.getD j 0) hq.1 (fun j hj => by have := h1 j hj; rw [hnil] at this; exact this) hq.2 (by show v.getD m 0 ≠ 0; omega);subst hm; omega
   ·exact absurd (t q) (by simpa using hq.2)
   ·rw [e];obtain ⟨m, h1, h2⟩ := t;have hnil : ∀ j, ([] : List Int).getD j 0 = 0 := fun j => by simp
    rw [hnil] at h2;have hm : q = m := lead_one (v := fun j => v.getD j 0) hq.1 (fun j hj => by have := h1 j hj; rw [hnil] at this; exact this.symm) hq.2 (by show v.getD m 0 ≠ 0; omega);subst hm; omega
theorem Hand.neg {z : Int} {v : List Int} (h : Hand z v) (hz : z < 0) : ∀ j, v.getD j 0 = 0 := by
 rcases h with ⟨_, h⟩ | ⟨q, e, _⟩
 ·exact h
 ·omega
theorem Hand.nat {z : Int} {v : List Int} (h : Hand z v) (hz : ¬ z < 0) : ∃ q : Nat, z = (q : Int) ∧ (∀ j, j < q → v.getD j 0 = 0) ∧ 0 < v.getD q 0 := by
 rcases h with ⟨e, _⟩ | h
 ·omega
 ·exact h

theorem ent_snoc (h : List (List Int)) (v : List Int) (t j : Nat) : ent (h ++ [v]) t j = if t < h.length then ent h t j else if t = h.length then v.getD j 0 else 0 := by
 unfold ent;by_cases c : t < h.length
 ·rw [if_pos c]; simp [List.getD, List.getElem?_append_left c]
 ·rw [if_neg c];by_cases d : t = h.length
  ·subst d; rw [if_pos rfl]; simp [List.getD]
  ·rw [if_neg d];have : (h ++ [v]).getD t [] = [] := by simp [List.getD, List.getElem?_eq_none (show (h ++ [v]).length ≤ t by simp; omega)]
   rw [this]; simp
theorem ent_at {h : List (List Int)} {v : List Int} (t j : Nat) (ht : t < h.length) : ent (h ++ [v]) t j = ent h t j := by rw [ent_snoc, if_pos ht]
theorem ent_last {h : List (List Int)} {v : List Int} (j : Nat) : ent (h ++ [v]) h.length j = v.getD j 0 := by rw [ent_snoc, if_neg (by omega), if_pos rfl]
theorem inL_left {h : List (List Int)} {v : List Int} {x : Nat → Int} (hx : InL h x) : InL (h ++ [v]) x := hx.trans fun i hi => (inL_row (l := h ++ [v]) i).eq fun j => (ent_at i j hi).symm
theorem inL_last (h : List (List Int)) (v : List Int) : InL (h ++ [v]) fun j => v.getD j 0 := (inL_row (l := h ++ [v]) h.length).eq fun j => (ent_last j).symm
theorem sameL_snoc {a b : List (List Int)} {v u : List Int} {s : Int} (h : SameL a b) (hs : s = 1 ∨ s = -1) (hd : InL b fun j => v.getD j 0 - s * u.getD j 0) : SameL (a ++ [v]) (b ++ [u]) := by
 have hss : s * s = 1 := by rcases hs with e | e <;> subst e <;> rfl
 refine sameL_of (fun t ht => ?_) (fun t ht => ?_)
 ·rw [List.length_append, List.length_singleton] at ht;by_cases c : t < a.length
  ·exact (inL_left (h.row t)).eq fun j => ent_at t j c
  ·obtain rfl : t = a.length := by omega
   refine ((inL_left hd).add ((inL_last b u).mul s)).eq fun j => ?_;rw [ent_last]; omega
 ·rw [List.length_append, List.length_singleton] at ht;by_cases c : t < b.length
  ·exact (inL_left (h.symm.row t)).eq fun j => ent_at t j c
  ·obtain rfl : t = b.length := by omega
   have hd' : InL a fun j => v.getD j 0 - s * u.getD j 0 := (h _).2 hd;refine ((inL_last a v).sub (inL_left hd')).mul s |>.eq fun j => ?_;rw [ent_last];show u.getD j 0 = s * (v.getD j 0 - (v.getD j 0 - s * u.getD j 0));rw [Int.sub_sub_self, ← Int.mul_assoc, hss, Int.one_mul]
theorem sameL_nought {h : List (List Int)} {v : List Int} (hv : ∀ j, v.getD j 0 = 0) : SameL (h ++ [v]) h := by
 refine sameL_of (fun t ht => ?_) (fun t ht => ?_)
 ·by_cases c : t < h.length
  ·exact (inL_row (l := h) t).eq fun j => ent_at t j c
  ·exact (inL_zero h).eq fun j => by
    rw [ent_snoc, if_neg c];by_cases d : t = h.length
    ·rw [if_pos d, hv]
    ·rw [if_neg d]
 ·exact (inL_left (inL_row (l := h) t))
theorem inL_drop {h : List (List Int)} {k : Nat} {x : Nat → Int} (hx : InL (h.drop k) x) : InL h x := hx.trans fun i _ => (inL_row (l := h) (k + i)).eq fun j => by
 unfold ent;rw [show (h.drop k).getD i [] = h.getD (k + i) [] by simp [List.getD]]
theorem ent_drop (h : List (List Int)) (k i j : Nat) : ent (h.drop k) i j = ent h (k + i) j := by
 unfold ent;rw [show (h.drop k).getD i [] = h.getD (k + i) [] by simp [List.getD]]
theorem inL_drop_set {h : List (List Int)} {i : Nat} {r : List Int} {x : Nat → Int} (hx : InL (h.drop (i + 1)) x) : InL (h.set i r) x := by
 refine inL_drop (k := i + 1) ?_;rw [List.drop_set_of_lt (by omega)];exact hx
theorem EForm.ahead_drop {h : List (List Int)} {p : Nat → Nat} (hf : EForm h p) {i : Nat} (hi : i < h.length) {x : Nat → Int} (hx : InL (h.drop (i + 1)) x) {j : Nat} (hj : j ≤ p i) : x j = 0 := by
 obtain ⟨c, hc⟩ := hx;rw [hc j, ← sumN_nil0 (h.drop (i + 1)).length];refine sumN_congr fun t ht => ?_;rw [List.length_drop] at ht;have := hf.rise i (i + 1 + t) (by omega) (by omega);rw [ent_drop, hf.ahead (i + 1 + t) (by omega) j (by omega), Int.mul_zero]
theorem EForm.drop {h : List (List Int)} {p : Nat → Nat} (hf : EForm h p) (k : Nat) : EForm (h.drop k) fun i => p (k + i) := by
 refine ⟨fun a b h1 h2 => ?_, fun a ha j hj => ?_, fun a ha => ?_⟩
 ·rw [List.length_drop] at h2; exact hf.rise _ _ (by omega) (by omega)
 ·rw [List.length_drop] at ha; rw [ent_drop]; exact hf.ahead _ (by omega) j hj
 ·rw [List.length_drop] at ha; rw [ent_drop]; exact hf.pos _ (by omega)
theorem EForm.set {h : List (List Int)} {p : Nat → Nat} (hf : EForm h p) {i q : Nat} {v : List Int} (hi : i < h.length) (h1 : ∀ t, t < i → p t < q) (h2 : ∀ t, i < t → t < h.length → q < p t) (h0 : ∀ j, j < q → v.getD j 0 = 0) (hp : 0 < v.getD q 0) : EForm (h.set i v) fun t => if t = i then q else p t := by
 refine ⟨fun a b h3 h4 => ?_, fun a ha j hj => ?_, fun a ha => ?_⟩
 ·rw [List.length_set] at h4;by_cases c : a = i
  ·subst c; rw [if_pos rfl, if_neg (by omega)]; exact h2 b h3 h4
  ·rw [if_neg c];by_cases d : b = i
   ·subst d; rw [if_pos rfl]; exact h1 a h3
   ·rw [if_neg d]; exact hf.rise a b h3 h4
 ·rw [List.length_set] at ha;by_cases c : a = i
  ·subst c; rw [if_pos rfl] at hj; rw [ent_same hi]; exact h0 j hj
  ·rw [if_neg c] at hj; rw [ent_other hi c]; exact hf.ahead a ha j hj
 ·rw [List.length_set] at ha;by_cases c : a = i
  ·subst c; rw [if_pos rfl, ent_same hi]; exact hp
  ·rw [if_neg c, ent_other hi c]; exact hf.pos a ha
theorem EForm.congr {h : List (List Int)} {p q : Nat → Nat} (hf : EForm h p) (e : ∀ i, i < h.length → q i = p i) : EForm h q := by
 refine ⟨fun a b h1 h2 => ?_, fun a ha j hj => ?_, fun a ha => ?_⟩
 ·rw [e a (by omega), e b h2]; exact hf.rise a b h1 h2
 ·rw [e a ha] at hj; exact hf.ahead a ha j hj
 ·rw [e a ha]; exact hf.pos a ha
theorem EForm.setSame {h : List (List Int)} {p : Nat → Nat} (hf : EForm h p) {i : Nat} {v : List Int} (hi : i < h.length) (h0 : ∀ j, j < p i → v.getD j 0 = 0) (hp : 0 < v.getD (p i) 0) : EForm (h.set i v) p :=
 (hf.set hi (fun t ht => hf.rise t i ht hi) (fun t h1 h2 => hf.rise i t h1 h2) h0 hp).congr fun t _ => by
  by_cases c : t = i
  ·rw [if_pos c, c]
  ·rw [if_neg c]
structure LState (l h : List (List Int)) (p : Nat → Nat) (z : Int) (v : List Int) (i : Nat) : Prop where
 form : EForm h p
 hand : Hand z v
 ahead : ∀ t, t < i → t < h.length → ¬ z < 0 → (p t : Int) < z
 same : SameL l (h ++ [v])
theorem LState.swap {l h : List (List Int)} {p : Nat → Nat} {z : Int} {v : List Int} {i : Nat} (hs : LState l h p z v i) (hi : i < h.length) {q : Nat} (hz : z = (q : Int)) (hlt : q < p i) : LState l (h.set i v) (fun t => if t = i then q else p t) (p i : Int) (h.getD i []) (i + 1) := by
 obtain ⟨q', e, h0, hp⟩ := hs.hand.nat (by omega);obtain rfl : q = q' := by omega
 have hf := hs.form;have hnew := hf.set hi (fun t ht => by have := hs.ahead t ht (by omega) (by omega); omega) (fun t h1 h2 => by have := hf.rise i t h1 h2; omega) h0 hp;refine ⟨hnew, Or.inr ⟨p i, rfl, hf.ahead i hi, hf.pos i hi⟩, fun t h1 h2 _ => ?_, hs.same.trans ?_⟩
 ·rw [List.length_set] at h2;by_cases c : t = i
  ·subst c; rw [if_pos rfl]; omega
  ·rw [if_neg c]; have := hf.rise t i (by omega) hi; omega
 ·refine sameL_of (fun t ht => ?_) (fun t ht => ?_)
  ·by_cases c : t < h.length
   ·by_cases d : t = i
    ·exact (inL_last (h.set i v) (h.getD i [])).eq fun j => by rw [ent_at t j c, d]; rfl
    ·exact (inL_left (inL_row (l := h.set i v) t)).eq fun j => by rw [ent_at t j c, ent_other hi d]
   ·rw [List.length_append, List.length_singleton] at ht;obtain rfl : t = h.length := by omega
    exact (inL_left (inL_row (l := h.set i v) i)).eq fun j => by rw [ent_last, ent_same hi]
  ·have hl : (h.set i v).length = h.length := List.length_set;by_cases c : t < (h.set i v).length
   ·by_cases d : t = i
    ·exact (inL_last h v).eq fun j => by rw [ent_at t j c, d, ent_same hi]
    ·exact (inL_left (inL_row (l := h) t)).eq fun j => by rw [ent_at t j c, ent_other hi d]
   ·rw [List.length_append, List.length_singleton] at ht;obtain rfl : t = (h.set i v).length := by omega
    exact (inL_left (inL_row (l := h) i)).eq fun j => by rw [ent_last]; rfl
theorem LState.pass {l h : List (List Int)} {p : Nat → Nat} {z : Int} {v : List Int} {i : Nat} (hs : LState l h p z v i) (hlt : (p i : Int) < z) : LState l h p z v (i + 1) := by
 refine ⟨hs.form, hs.hand, fun t h1 h2 h3 => ?_, hs.same⟩;by_cases c : t = i
 ·subst c; exact hlt
 ·exact hs.ahead t (by omega) h2 h3
structure Joined (a b : List Int) (q : Nat) (first rest : List Int) : Prop where
 zero1 : ∀ j, j < q → first.getD j 0 = 0
 pos : 0 < first.getD q 0
 zero2 : ∀ j, j ≤ q → rest.getD j 0 = 0
 nums : ∃ x y s t : Int, (∀ j, first.getD j 0 = x * a.getD j 0 + y * b.getD j 0) ∧ (∀ j, rest.getD j 0 = -t * a.getD j 0 + s * b.getD j 0) ∧ (∀ j, a.getD j 0 = s * first.getD j 0 - y * rest.getD j 0) ∧ ∀ j, b.getD j 0 = t * first.getD j 0 + x * rest.getD j 0
theorem joined_of {a b first rest : List Int} {q : Nat} {g x y s t : Int} (ha : ∀ j, j < q → a.getD j 0 = 0) (hb : ∀ j, j < q → b.getD j 0 = 0) (hg : 0 < g) (hs : a.getD q 0 = s * g) (ht : b.getD q 0 = t * g) (hxy : a.getD q 0 * x + b.getD q 0 * y = g) (h1 : ∀ j, first.getD j 0 = x * a.getD j 0 + y * b.getD j 0) (h2 : ∀ j, rest.getD j 0 = -t * a.getD j 0 + s * b.getD j 0) : Joined a b q first rest := by
 have hone : x * s + y * t = 1 := by
  have e : g * (x * s + y * t) = g * 1 := by
   rw [Int.mul_one, Int.mul_add, ← Int.mul_assoc, ← Int.mul_assoc, Int.mul_comm g x, Int.mul_comm g y, Int.mul_assoc, Int.mul_assoc, Int.mul_comm g s, Int.mul_comm g t, ← hs, ← ht, Int.mul_comm x, Int.mul_comm y];exact hxy
  exact Int.eq_of_mul_eq_mul_left (by omega) e
 refine ⟨fun j hj => by rw [h1, ha j hj, hb j hj, Int.mul_zero, Int.mul_zero]; rfl, ?_, fun j hj => ?_, x, y, s, t, h1, h2, fun j => ?_, fun j => ?_⟩
 ·rw [h1, Int.mul_comm x, Int.mul_comm y, hxy]; exact hg
 ·rw [h2];by_cases c : j = q
  ·subst c;rw [hs, ht, Int.neg_mul, ← Int.mul_assoc, ← Int.mul_assoc, Int.mul_comm t s]; omega
  ·rw [ha j (by omega), hb j (by omega), Int.mul_zero, Int.mul_zero]; rfl
 ·rw [h1, h2];generalize a.getD j 0 = A;generalize b.getD j 0 = B;have e1 : s * (x * A + y * B) = s * x * A + s * y * B := by rw [Int.mul_add, Int.mul_assoc, Int.mul_assoc]
  have e2 : y * (-t * A + s * B) = -(y * t * A) + s * y * B := by rw [Int.mul_add, Int.neg_mul, Int.mul_neg, Int.mul_assoc, ← Int.mul_assoc y s, Int.mul_comm y s]
  have e3 : (x * s + y * t) * A = x * s * A + y * t * A := Int.add_mul _ _ _;rw [hone, Int.one_mul] at e3;rw [e1, e2, Int.mul_comm s x]; omega
 ·rw [h1, h2];generalize a.getD j 0 = A;generalize b.getD j 0 = B;have e1 : t * (x * A + y * B) = t * x * A + y * t * B := by rw [Int.mul_add, Int.mul_assoc, ← Int.mul_assoc t y, Int.mul_comm t y]
  have e2 : x * (-t * A + s * B) = -(t * x * A) + x * s * B := by rw [Int.mul_add, Int.neg_mul, Int.mul_neg, ← Int.mul_assoc x t, Int.mul_comm x t, Int.mul_assoc x s]
  have e3 : (x * s + y * t) * B = x * s * B + y * t * B := Int.add_mul _ _ _;rw [hone, Int.one_mul] at e3;rw [e1, e2]; omega
theorem LState.join {l h : List (List Int)} {p : Nat → Nat} {z : Int} {v : List Int} {i : Nat} (hs : LState l h p z v i) (hi : i < h.length) (hz : z = (p i : Int)) {first rest low : List Int} (hj : Joined (h.getD i []) v (p i) first rest) (hl : InL (h.drop (i + 1)) fun j => rest.getD j 0 - low.getD j 0) {z' : Int} (hpz : PivZ low z') : LState l (h.set i first) p z' (vnormal low) (i + 1) := by
 have hf := hs.form;obtain ⟨s, hsg, hn⟩ := normal_sign low;have hss : s * s = 1 := by rcases hsg with e | e <;> subst e <;> rfl
 have hlow : ∀ j, j ≤ p i → low.getD j 0 = 0 := fun j hj' => by
  have h1 := hf.ahead_drop hi hl hj';have h2 := hj.zero2 j hj';have h1' : rest.getD j 0 - low.getD j 0 = 0 := h1;omega
 have hnew := hf.setSame hi hj.zero1 hj.pos;refine ⟨hnew, hand_of hpz, fun t h1 h2 h3 => ?_, hs.same.trans ?_⟩
 ·rw [List.length_set] at h2;rcases hpz with ⟨e, _⟩ | ⟨q, e, hq⟩
  ·omega
  ·have : p i < q := by
    rcases Nat.lt_or_ge (p i) q with c | c
    ·exact c
    ·exact absurd (hlow q c) hq.2
   by_cases c : t = i
   ·subst c; omega
   ·have := hf.rise t i (by omega) hi; omega
 ·obtain ⟨x, y, sa, tb, e1, e2, e3, e4⟩ := hj.nums;have hrest : InL (h.set i first ++ [vnormal low]) fun j => rest.getD j 0 := by
   refine ((inL_left (inL_drop_set hl)).add ((inL_last (h.set i first) (vnormal low)).mul s)).eq fun j => ?_;show rest.getD j 0 = rest.getD j 0 - low.getD j 0 + s * (vnormal low).getD j 0;rw [hn, ← Int.mul_assoc, hss, Int.one_mul]; omega
  have hfirst : InL (h.set i first ++ [vnormal low]) fun j => first.getD j 0 := (inL_left (inL_row (l := h.set i first) i)).eq fun j => (ent_same hi j).symm;refine sameL_of (fun t ht => ?_) (fun t ht => ?_)
  ·by_cases c : t < h.length
   ·by_cases d : t = i
    ·exact ((hfirst.mul sa).sub (hrest.mul y)).eq fun j => by rw [ent_at t j c, d]; exact e3 j
    ·exact (inL_left (inL_row (l := h.set i first) t)).eq fun j => by rw [ent_at t j c, ent_other hi d]
   ·rw [List.length_append, List.length_singleton] at ht;obtain rfl : t = h.length := by omega
    exact ((hfirst.mul tb).add (hrest.mul x)).eq fun j => by rw [ent_last]; exact e4 j
  ·have hl' : (h.set i first).length = h.length := List.length_set;have ha : InL (h ++ [v]) fun j => (h.getD i []).getD j 0 := (inL_left (inL_row (l := h) i)).eq fun j => rfl;have hb : InL (h ++ [v]) fun j => v.getD j 0 := inL_last h v;have hr : InL (h ++ [v]) fun j => rest.getD j 0 := ((ha.mul (-tb)).add (hb.mul sa)).eq e2;by_cases c : t < (h.set i first).length
   ·by_cases d : t = i
    ·exact ((ha.mul x).add (hb.mul y)).eq fun j => by rw [ent_at t j c, d, ent_same hi]; exact e1 j
    ·exact (inL_left (inL_row (l := h) t)).eq fun j => by rw [ent_at t j c, ent_other hi d]
   ·rw [List.length_append, List.length_singleton] at ht;obtain rfl : t = (h.set i first).length := by omega
    exact ((hr.sub (inL_left (inL_drop hl))).mul s).eq fun j => by
     rw [ent_last, hn];show s * low.getD j 0 = s * (rest.getD j 0 - (rest.getD j 0 - low.getD j 0));rw [Int.sub_sub_self]
theorem LState.start {l h : List (List Int)} {p : Nat → Nat} {v low : List Int} {z : Int} (hf : EForm h p) (hs : SameL l h) (hl : InL h fun j => v.getD j 0 - low.getD j 0) (hpz : PivZ low z) : LState (l ++ [v]) h p z (vnormal low) 0 := by
 obtain ⟨s, hsg, hn⟩ := normal_sign low;have hss : s * s = 1 := by rcases hsg with e | e <;> subst e <;> rfl
 refine ⟨hf, hand_of hpz, fun t h1 => absurd h1 (by omega), sameL_snoc hs hsg (hl.eq fun j => ?_)⟩;rw [hn, ← Int.mul_assoc, hss, Int.one_mul]
theorem LState.none {l h : List (List Int)} {p : Nat → Nat} {z : Int} {v : List Int} {i : Nat} (hs : LState l h p z v i) (hz : z < 0) : SameL l h := hs.same.trans (sameL_nought (hs.hand.neg hz))
theorem LState.snoc {l h : List (List Int)} {p : Nat → Nat} {v : List Int} {q : Nat} (hs : LState l h p (q : Int) v h.length) : EForm (h ++ [v]) fun t => if t = h.length then q else p t := by
 obtain ⟨q', e, h0, hp⟩ := hs.hand.nat (by omega);obtain rfl : q = q' := by omega
 have hf := hs.form;refine ⟨fun a b h3 h4 => ?_, fun a ha j hj => ?_, fun a ha => ?_⟩
 ·rw [List.length_append, List.length_singleton] at h4;rw [if_neg (by omega)];by_cases d : b = h.length
  ·rw [if_pos d]; have := hs.ahead a (by omega) (by omega) (by omega); omega
  ·rw [if_neg d]; exact hf.rise a b h3 (by omega)
 ·rw [List.length_append, List.length_singleton] at ha;by_cases c : a = h.length
  ·subst c; rw [if_pos rfl] at hj; rw [ent_last]; exact h0 j hj
  ·rw [if_neg c] at hj; rw [ent_at a j (by omega)]; exact hf.ahead a (by omega) j hj
 ·rw [List.length_append, List.length_singleton] at ha;by_cases c : a = h.length
  ·subst c; rw [if_pos rfl, ent_last]; exact hp
  ·rw [if_neg c, ent_at a _ (by omega)]; exact hf.pos a (by omega)

structure DState (h : List (List Int)) (p : Nat → Nat) (i : Nat) : Prop where
 form : EForm h p
 low : ∀ k, i ≤ k → k < h.length → LowAt h p k
theorem DState.step {h : List (List Int)} {p : Nat → Nat} {i : Nat} (hs : DState h p (i + 1)) (hi : i < h.length) {low : List Int} (hl : InL (h.drop (i + 1)) fun j => ent h i j - low.getD j 0) (hb : ∀ t, t < h.length - (i + 1) → 0 ≤ low.getD (p (i + 1 + t)) 0 ∧ low.getD (p (i + 1 + t)) 0 < ent (h.drop (i + 1)) t (p (i + 1 + t))) : DState (h.set i low) p i ∧ SameL h (h.set i low) := by
 have hf := hs.form;have heq : ∀ j, j ≤ p i → low.getD j 0 = ent h i j := fun j hj => by
  have h1 : ent h i j - low.getD j 0 = 0 := hf.ahead_drop hi hl hj;omega
 refine ⟨⟨hf.setSame hi (fun j hj => by rw [heq j (by omega)]; exact hf.ahead i hi j hj) (by rw [heq _ (Nat.le_refl _)]; exact hf.pos i hi), fun k h1 h2 => ?_⟩, ?_⟩
 ·rw [List.length_set] at h2;intro m h3 h4;rw [List.length_set] at h4;by_cases c : k = i
  ·subst c;obtain ⟨t, rfl⟩ : ∃ t, m = k + 1 + t := ⟨m - (k + 1), by omega⟩;have := hb t (by omega);rw [ent_drop] at this;rw [ent_same hi, ent_other hi (by omega)];exact this
  ·rw [ent_other hi c, ent_other hi (by omega)];exact hs.low k (by omega) h2 m h3 h4
 ·refine sameL_of (fun t ht => ?_) (fun t ht => ?_)
  ·by_cases c : t = i
   ·subst c;exact ((inL_drop_set hl).add (inL_row (l := h.set t low) t)).eq fun j => by rw [ent_same hi]; omega
   ·exact (inL_row (l := h.set i low) t).eq fun j => (ent_other hi c j).symm
  ·by_cases c : t = i
   ·subst c;exact ((inL_row (l := h) t).sub (inL_drop hl)).eq fun j => by rw [ent_same hi]; omega
   ·exact (inL_row (l := h) t).eq fun j => ent_other hi c j
theorem DState.start {h : List (List Int)} {p : Nat → Nat} (hf : EForm h p) : DState h p h.length := ⟨hf, fun k h1 h2 => absurd h1 (by omega)⟩
theorem DState.done {h : List (List Int)} {p : Nat → Nat} (hs : DState h p 0) : HForm h p := hs.form.form fun i hi => hs.low i (Nat.zero_le _) hi

def Bounded (l : List (List Int)) (B : Nat) : Prop := ∀ i, i ≤ l.length → ∀ h p, EForm h p → SameL (l.take i) h → ∀ k, k < h.length → LowAt h p k → ∀ j, (ent h k j).natAbs < Bp B
/-
 Steps (a pivot and a row each): what a slice of them reads as ('SRows'), one that the call itself made ('SOwn'), a block that holds one ('SBox').
-/

def stepCell (u : Value) : Prop := (∃ z, u = .int .i64 z) ∨ isSl u
def OnlyStep (w : World) (row : Option Nat) : Prop := ∀ g, row = some g → ∀ j u, w.cell? ⟨g, j, none⟩ = some u → stepCell u
theorem OnlyStep.noLimb {w : World} {row : Option Nat} (h : OnlyStep w row) : ∀ g, row = some g → NoLimb w g := by
 intro g hg j x e;rcases h g hg j _ e with ⟨z, hz⟩ | ⟨v, hv⟩
 ·simp at hz
 ·simp [sv] at hv
theorem vecOf_step {R : World → Bool → Option Addr → Nat → Nat → Int → Prop} (hR : Steady R) {w w' : World} {row : Option Nat} {ao : Option Addr} {n cap : Nat} {zs : List Int} (h : VecOf R w ao n cap zs) (hg : w.grownBy w' row) (hs : OnlyStep w row) : VecOf R w' ao n cap zs := by
 refine ⟨h.len_eq, h.cap_le, h.cap_max, h.nil_cap, fun hp => ?_⟩;obtain ⟨g, off, e, hlt, hc⟩ := h.elts hp;have hne : row ≠ some g := by
  intro er;obtain ⟨b, a, l, c, h1, _⟩ := hc 0 hp;rcases hs g er _ _ h1.zb.1 with ⟨z, hz⟩ | ⟨v, hv⟩
  ·simp at hz
  ·simp [sv] at hv
 refine ⟨g, off, e, Nat.lt_of_lt_of_le hlt hg.size, fun i hi => ?_⟩;obtain ⟨b, a, l, c, h1, h2⟩ := hc i hi;exact ⟨b, a, l, c, h1.of_block hg.size (hg.block g hlt (Ne.symm hne)), hR h2 hg hs.noLimb⟩
theorem vf_step {w w' : World} {row : Option Nat} {ao : Option Addr} {n cap k : Nat} {zs : List Int} (h : VF w ao n cap zs k) (hg : w.grownBy w' row) (hs : OnlyStep w row) : VF w' ao n cap zs k := vecOf_step (R := fun w b a l c z => FK w b a l c z k) (fun h hg hn => FK.grown h hg hn) h hg hs
structure SRows (w : World) (ao : Option Addr) (n cap : Nat) (p : Nat → Nat) (rs : List (List Int)) (k : Nat) : Prop where
 len_eq : rs.length = n
 cap_le : n ≤ cap
 cap_max : cap ≤ maxLen
 nil_cap : ao = none → cap = 0
 elts : 0 < n → ∃ g off, ao = some ⟨g, off, none⟩ ∧ g < w.heap.size ∧ ∀ i, i < n → ∃ a l c, w.cell? ⟨g, off + i * 2, none⟩ = some (.int .i64 (p i : Int)) ∧ w.cell? ⟨g, off + i * 2 + 1, none⟩ = some (.slice a l c) ∧ VF w a l c (rs.getD i []) k
theorem SRows.za {w w' : World} {ao : Option Addr} {n cap k : Nat} {p : Nat → Nat} {rs : List (List Int)} (h : SRows w ao n cap p rs k) (hb : Below w.heap.size w w') : SRows w' ao n cap p rs k := by
 refine ⟨h.len_eq, h.cap_le, h.cap_max, h.nil_cap, fun hp => ?_⟩;obtain ⟨g, off, e, hg, hc⟩ := h.elts hp;refine ⟨g, off, e, Nat.lt_of_lt_of_le hg hb.size, fun i hi => ?_⟩;obtain ⟨a, l, c, h1, h2, h3⟩ := hc i hi;exact ⟨a, l, c, (hb.cell (p := ⟨g, off + i * 2, none⟩) hg).trans h1, (hb.cell (p := ⟨g, off + i * 2 + 1, none⟩) hg).trans h2, h3.za hb⟩
theorem SRows.at {w : World} {g off n cap k : Nat} {p : Nat → Nat} {rs : List (List Int)} (h : SRows w (some ⟨g, off, none⟩) n cap p rs k) {i : Nat} (hi : i < n) : g < w.heap.size ∧ ∃ a l c, w.cell? ⟨g, off + i * 2, none⟩ = some (.int .i64 (p i : Int)) ∧ w.cell? ⟨g, off + i * 2 + 1, none⟩ = some (.slice a l c) ∧ VF w a l c (rs.getD i []) k := by
 obtain ⟨g', off', e, hg, hc⟩ := h.elts (by omega);simp only [Option.some.injEq, Addr.mk.injEq, and_true] at e;obtain ⟨rfl, rfl⟩ := e;exact ⟨hg, hc i hi⟩
theorem SRows.some {w : World} {ao : Option Addr} {n cap k : Nat} {p : Nat → Nat} {rs : List (List Int)} (h : SRows w ao n cap p rs k) (hp : 0 < n) : ∃ g off, ao = some ⟨g, off, none⟩ := by
 obtain ⟨g, off, e, _⟩ := h.elts hp;exact ⟨g, off, e⟩
theorem SRows.tight {w : World} {ao : Option Addr} {n cap K k : Nat} {p : Nat → Nat} {rs : List (List Int)} (h : SRows w ao n cap p rs K) (hb : ∀ i, i < n → ∀ j, (ent rs i j).natAbs < Bp k) : SRows w ao n cap p rs k := by
 refine ⟨h.len_eq, h.cap_le, h.cap_max, h.nil_cap, fun hp => ?_⟩;obtain ⟨g, off, e, hg, hc⟩ := h.elts hp;refine ⟨g, off, e, hg, fun i hi => ?_⟩;obtain ⟨a, l, c, h1, h2, h3⟩ := hc i hi;exact ⟨a, l, c, h1, h2, vf_tight h3 fun j _ => hb i hi j⟩
theorem SRows.size {w : World} {ao : Option Addr} {n cap k : Nat} {p : Nat → Nat} {rs : List (List Int)} (h : SRows w ao n cap p rs k) (i : Nat) (hi : i < n) (j : Nat) : (ent rs i j).natAbs < Bp k := by
 obtain ⟨g, off, e, hg, hc⟩ := h.elts (by omega);obtain ⟨a, l, c, _, _, h3⟩ := hc i hi;exact vf_size h3 j
theorem SRows.drop {w : World} {g off n cap k : Nat} {p : Nat → Nat} {rs : List (List Int)} (h : SRows w (.some ⟨g, off, none⟩) n cap p rs k) {q : Nat} (hq : q ≤ n) : SRows w (.some ⟨g, off + q * 2, none⟩) (n - q) (cap - q) (fun i => p (q + i)) (rs.drop q) k := by
 have h1 := h.cap_le;have h2 := h.cap_max;refine ⟨by rw [List.length_drop, h.len_eq], by omega, by omega, fun e => by simp at e, fun hp => ?_⟩;obtain ⟨g', off', e, hg, he⟩ := h.elts (by omega);simp only [Option.some.injEq, Addr.mk.injEq, and_true] at e;obtain ⟨rfl, rfl⟩ := e;refine ⟨g, off + q * 2, rfl, hg, fun i hi => ?_⟩;obtain ⟨a, l, c, h1, h2, h3⟩ := he (q + i) (by omega);refine ⟨a, l, c, ?_, ?_, ?_⟩
 ·rw [show off + q * 2 + i * 2 = off + (q + i) * 2 by omega]; exact h1
 ·rw [show off + q * 2 + i * 2 + 1 = off + (q + i) * 2 + 1 by omega]; exact h2
 ·rw [show (rs.drop q).getD i [] = rs.getD (q + i) [] by simp [List.getD]];exact h3
theorem srows_nil (w : World) (p : Nat → Nat) (k : Nat) : SRows w none 0 0 p [] k := ⟨rfl, Nat.le_refl _, Nat.zero_le _, fun _ => rfl, fun h => absurd h (by omega)⟩
theorem SRows.empty {w : World} {g off cap k : Nat} {p : Nat → Nat} (h : cap ≤ maxLen) : SRows w (.some ⟨g, off, none⟩) 0 cap p [] k := ⟨rfl, Nat.zero_le _, h, fun e => by simp at e, fun h => absurd h (by omega)⟩

structure SOwn (w : World) (base : Nat) (ao : Option Addr) (n cap : Nat) (p : Nat → Nat) (rs : List (List Int)) (k : Nat) : Prop where
 row : ∃ cs, OwnP stepCell w base 103 2 (.slice ao n cap) n cs ∧ ∀ i, i < n → ∃ a l c, cs[i * 2]? = some (.int .i64 (p i : Int)) ∧ cs[i * 2 + 1]? = some (.slice a l c) ∧ VF w a l c (rs.getD i []) k
 len : rs.length = n
theorem sOwn_nil (w : World) (base : Nat) (p : Nat → Nat) (k : Nat) : SOwn w base none 0 0 p [] k := ⟨⟨[], ownP_nil _ _ _ _ _, fun i h => absurd h (by omega)⟩, rfl⟩
theorem SOwn.rows {w : World} {base : Nat} {ao : Option Addr} {n cap k : Nat} {p : Nat → Nat} {rs : List (List Int)} (h : SOwn w base ao n cap p rs k) : SRows w ao n cap p rs k := by
 obtain ⟨⟨cs, hrow, hall⟩, hl⟩ := h;rcases hrow.form with ⟨e, e0⟩ | ⟨g, cap', e, hb, hg, hc, hm⟩
 ·simp only [Value.slice.injEq] at e;obtain ⟨rfl, rfl, rfl⟩ := e;exact ⟨hl, Nat.le_refl _, Nat.zero_le _, fun _ => rfl, fun h => absurd h (by omega)⟩
 ·simp only [Value.slice.injEq, true_and] at e;obtain ⟨rfl, rfl⟩ := e;refine ⟨hl, hc, hm, fun e => by simp at e, fun _ => ⟨g, 0, rfl, hg, fun i hi => ?_⟩⟩;obtain ⟨a, l, c, h1, h2, h3⟩ := hall i hi;refine ⟨a, l, c, ?_, ?_, h3⟩
  ·rw [Nat.zero_add, hrow.cell (j := i * 2) (by omega)]; exact h1
  ·rw [Nat.zero_add, hrow.cell (j := i * 2 + 1) (by omega)]; exact h2
theorem SOwn.za {w w' : World} {base : Nat} {ao : Option Addr} {n cap k : Nat} {p : Nat → Nat} {rs : List (List Int)} (h : SOwn w base ao n cap p rs k) (hb : Below w.heap.size w w') : SOwn w' base ao n cap p rs k := by
 obtain ⟨⟨cs, hrow, hall⟩, hl⟩ := h;refine ⟨⟨cs, hrow.za hb, fun i hi => ?_⟩, hl⟩;obtain ⟨a, l, c, h1, h2, h3⟩ := hall i hi;exact ⟨a, l, c, h1, h2, h3.za hb⟩
theorem SOwn.onlyStep {w : World} {base : Nat} {ao : Option Addr} {n cap k : Nat} {p : Nat → Nat} {rs : List (List Int)} (h : SOwn w base ao n cap p rs k) : OnlyStep w (Value.slice ao n cap).ownBlock := by
 obtain ⟨⟨cs, hrow, _⟩, _⟩ := h;exact fun g hg j u e => hrow.all g hg j u e
theorem SOwn.nil_or {w : World} {base : Nat} {ao : Option Addr} {n cap k : Nat} {p : Nat → Nat} {rs : List (List Int)} (h : SOwn w base ao n cap p rs k) : (ao = none ∧ n = 0 ∧ cap = 0) ∨ ∃ g, ao = some ⟨g, 0, none⟩ := by
 obtain ⟨⟨cs, hrow, _⟩, _⟩ := h;rcases hrow.form with ⟨e, e0⟩ | ⟨g, cap', e, _⟩
 ·simp only [Value.slice.injEq] at e;exact Or.inl e
 ·simp only [Value.slice.injEq, true_and] at e;exact Or.inr ⟨g, e.1⟩
theorem SOwn.tight {w : World} {base : Nat} {ao : Option Addr} {n cap K k : Nat} {p : Nat → Nat} {rs : List (List Int)} (h : SOwn w base ao n cap p rs K) (hb : ∀ i, i < n → ∀ j, (ent rs i j).natAbs < Bp k) : SOwn w base ao n cap p rs k := by
 obtain ⟨⟨cs, hrow, hall⟩, hl⟩ := h;refine ⟨⟨cs, hrow, fun i hi => ?_⟩, hl⟩;obtain ⟨a, l, c, h1, h2, h3⟩ := hall i hi;exact ⟨a, l, c, h1, h2, vf_tight h3 fun j _ => hb i hi j⟩
theorem SOwn.free {w : World} {base g n cap k : Nat} {p : Nat → Nat} {rs : List (List Int)} (h : SOwn w base (some ⟨g, 0, none⟩) n cap p rs k) (j : Nat) : w.frozen? ⟨g, j, none⟩ = false := by
 obtain ⟨⟨cs, hrow, _⟩, _⟩ := h;exact hrow.free j
theorem SOwn.base_le {w : World} {base g n cap k : Nat} {p : Nat → Nat} {rs : List (List Int)} (h : SOwn w base (some ⟨g, 0, none⟩) n cap p rs k) : base ≤ g ∧ g < w.heap.size := by
 obtain ⟨⟨cs, hrow, _⟩, _⟩ := h;exact hrow.own.lt g rfl
theorem SOwn.ge {w : World} {base : Nat} {ao : Option Addr} {n cap k : Nat} {p : Nat → Nat} {rs : List (List Int)} (h : SOwn w base ao n cap p rs k) : ∀ g, (Value.slice ao n cap).ownBlock = some g → base ≤ g := by
 obtain ⟨⟨cs, hrow, _⟩, _⟩ := h;exact fun g e => (hrow.own.lt g e).1
theorem SOwn.other {w w' : World} {base : Nat} {row : Option Nat} {ao : Option Addr} {n cap k : Nat} {p : Nat → Nat} {rs : List (List Int)} (h : SOwn w base ao n cap p rs k) (hg : w.grownBy w' row) (hs : OnlyStep w row) (hne : (Value.slice ao n cap).ownBlock = none ∨ (Value.slice ao n cap).ownBlock ≠ row) : SOwn w' base ao n cap p rs k := by
 obtain ⟨⟨cs, hrow, hall⟩, hl⟩ := h;refine ⟨⟨cs, hrow.grown hg hne, fun i hi => ?_⟩, hl⟩;obtain ⟨a, l, c, h1, h2, h3⟩ := hall i hi;exact ⟨a, l, c, h1, h2, vf_step h3 hg hs⟩
theorem SOwn.setRow {w : World} {base g n cap k : Nat} {p : Nat → Nat} {rs : List (List Int)} (h : SOwn w base (some ⟨g, 0, none⟩) n cap p rs k) {i : Nat} (hi : i < n) {a : Option Addr} {l c : Nat} {zs : List Int} (hz : VF w a l c zs k) : SOwn (w.setCell ⟨g, i * 2 + 1, none⟩ (.slice a l c)) base (some ⟨g, 0, none⟩) n cap p (rs.set i zs) k := by
 have hos := h.onlyStep;have hgr := grown_set1 w g (i * 2 + 1) (.slice a l c);obtain ⟨⟨cs, hrow, hall⟩, hl⟩ := h;have hcl := hrow.len;refine ⟨⟨_, hrow.set (i * 2 + 1) (Or.inr ⟨(a, l, c), rfl⟩), fun j hj => ?_⟩, by rw [List.length_set]; exact hl⟩;by_cases e : j = i
 ·subst e;obtain ⟨a0, l0, c0, h1, _, _⟩ := hall j hj;refine ⟨a, l, c, ?_, ?_, ?_⟩
  ·rw [List.getElem?_set_ne (by omega)]; exact h1
  ·rw [List.getElem?_set_self (by omega)]
  ·rw [show (rs.set j zs).getD j [] = zs by simp [List.getD, show j < rs.length by omega]];exact vf_step hz hgr hos
 ·obtain ⟨a0, l0, c0, h1, h2, h3⟩ := hall j hj;refine ⟨a0, l0, c0, ?_, ?_, ?_⟩
  ·rw [List.getElem?_set_ne (by omega)]; exact h1
  ·rw [List.getElem?_set_ne (by omega)]; exact h2
  ·rw [show (rs.set i zs).getD j [] = rs.getD j [] by simp [List.getD, List.getElem?_set_ne (Ne.symm e)]];exact vf_step h3 hgr hos
theorem SOwn.setStep {w : World} {base g n cap k : Nat} {p : Nat → Nat} {rs : List (List Int)} (h : SOwn w base (some ⟨g, 0, none⟩) n cap p rs k) {i : Nat} (hi : i < n) {q : Nat} {a : Option Addr} {l c : Nat} {zs : List Int} (hz : VF w a l c zs k) : SOwn ((w.setCell ⟨g, i * 2, none⟩ (.int .i64 (q : Int))).setCell ⟨g, i * 2 + 1, none⟩ (.slice a l c)) base (some ⟨g, 0, none⟩) n cap (fun t => if t = i then q else p t) (rs.set i zs) k := by
 have hos := h.onlyStep;have hgr := grown_set1 w g (i * 2) (.int .i64 (q : Int));have hz' := vf_step hz hgr hos;obtain ⟨⟨cs, hrow, hall⟩, hl⟩ := h;have hcl := hrow.len;have h' : SOwn (w.setCell ⟨g, i * 2, none⟩ (.int .i64 (q : Int))) base (some ⟨g, 0, none⟩) n cap (fun t => if t = i then q else p t) rs k := by
  refine ⟨⟨_, hrow.set (i * 2) (Or.inl ⟨_, rfl⟩), fun j hj => ?_⟩, hl⟩;obtain ⟨a0, l0, c0, h1, h2, h3⟩ := hall j hj;refine ⟨a0, l0, c0, ?_, ?_, vf_step h3 hgr hos⟩
  ·by_cases e : j = i
   ·subst e;rw [List.getElem?_set_self (by omega)];show _ = some (Value.int .i64 (((if j = j then q else p j : Nat)) : Int));rw [if_pos rfl]
   ·rw [List.getElem?_set_ne (by omega)];show _ = some (Value.int .i64 (((if j = i then q else p j : Nat)) : Int));rw [if_neg e]; exact h1
  ·rw [List.getElem?_set_ne (by omega)]; exact h2
 exact h'.setRow hi hz'
theorem info_step : (Tryz.prog.info? 103).map (fun i => (i.zero, i.size, i.bytes)) = some (some (.agg #[.int .i64 0, .slice none 0 0]), 2, 32) := by kernel_rfl
theorem step_zero : ∀ u ∈ (Value.agg #[.int .i64 0, .slice none 0 0]).cells, stepCell u := fun u hu => by
 simp [Value.cells] at hu;rcases hu with rfl | rfl
 ·exact Or.inl ⟨_, rfl⟩
 ·exact Or.inr ⟨(none, 0, 0), rfl⟩
set_option maxHeartbeats 1000000 in
theorem run_append_step (t ty : TypeId) (ht : Tryz.prog.underlying t = some (.slice 103)) (w : World) (base : Nat) (ao : Option Addr) (n cap k : Nat) (p : Nat → Nat) (rs : List (List Int)) (hown : SOwn w base ao n cap p rs k) (g q : Nat) (a : Option Addr) (l c : Nat) (zs : List Int) (h1 : w.cell? ⟨g, 0, none⟩ = some (.int .i64 (q : Int))) (h2 : w.cell? ⟨g, 1, none⟩ = some (.slice a l c)) (hz : VF w a l c zs k) (hn : n + 1 ≤ 1000000) (hbase : base ≤ w.heap.size) :
  ∃ ao' cap' w', (Builtin.append_ #[t, t] ty #[.slice ao n cap, .slice (some ⟨g, 0, none⟩) 1 1]).run Tryz.prog w = .ok (.slice ao' (n + 1) cap') w' ∧ SOwn w' base ao' (n + 1) cap' (fun t => if t = n then q else p t) (rs ++ [zs]) k ∧ w.grownBy w' (Value.slice ao n cap).ownBlock := by
 obtain ⟨i0, hi, hz0, hz1, hz2⟩ := info_parts info_step;have hos := hown.onlyStep;obtain ⟨⟨cs, hrow, hall⟩, hl⟩ := hown;have hcl := hrow.len;obtain ⟨v', w', hrun, hrow', hgr, hat⟩ := run_append_P (p := stepCell) w base t ty 103 i0 (.agg #[.int .i64 0, .slice none 0 0]) 2 32 ht hi hz0 hz1 hz2 rfl (by decide) step_zero _ n _ hrow ⟨g, 0, none⟩ 1 1 [.int .i64 (q : Int), .slice a l c] rfl (fun j u hj => by
   rw [Addr.add_lit, Nat.zero_add]
   match j with
   | 0 => simp at hj; subst hj; exact h1
   | 1 => simp at hj; subst hj; exact h2
   | j + 2 => simp at hj) (fun u hu => by
   simp at hu;rcases hu with rfl | rfl <;> rfl) (fun u hu => by
   simp at hu;rcases hu with rfl | rfl
   ·exact Or.inl ⟨_, rfl⟩
   ·exact Or.inr ⟨(a, l, c), rfl⟩) (by unfold maxLen; omega) (by omega) hbase
 rcases hrow'.form with ⟨_, h⟩ | ⟨g', cap', rfl, _⟩
 ·omega
 ·refine ⟨_, _, w', hrun, ⟨⟨_, hrow', fun i hi => ?_⟩, by simp [hl]⟩, hgr⟩;by_cases hin : i < n
  ·obtain ⟨a0, l0, c0, e1, e2, e3⟩ := hall i hin;refine ⟨a0, l0, c0, ?_, ?_, ?_⟩
   ·rw [List.getElem?_append_left (by omega), e1, if_neg (by omega)]
   ·rw [List.getElem?_append_left (by omega)]; exact e2
   ·rw [getD_left (by omega)]; exact vf_step e3 hgr hos
  ·obtain rfl : i = n := by omega
   refine ⟨a, l, c, ?_, ?_, ?_⟩
   ·rw [List.getElem?_append_right (by omega), hcl, if_pos rfl]; simp
   ·rw [List.getElem?_append_right (by omega), hcl]; simp [show i * 2 + 1 - i * 2 = 1 by omega]
   ·rw [getD_right (by omega), hl, Nat.sub_self]; exact vf_step hz hgr hos
theorem append_step {w : World} {ops : Array Oper} {rest : List Oper} {o : Oper} {ac : Act} {Q : Exit → Act → World → Prop} (hgd : o.guard = none) (s x : Operand) (t : TypeId) (ht : Tryz.prog.underlying t = some (.slice 103))
  (ho : o.op = .call { callee := .builtin .append, args := #[s, x], argTypes := #[t, t] }) (base : Nat) (ao : Option Addr) (n cap k : Nat) (p : Nat → Nat) (rs : List (List Int)) (hs : ac.eval s = .slice ao n cap) (hown : SOwn w base ao n cap p rs k) (g q : Nat) (a : Option Addr) (l c : Nat) (zs : List Int) (hx : ac.eval x = .slice (some ⟨g, 0, none⟩) 1 1) (h1 : w.cell? ⟨g, 0, none⟩ = some (.int .i64 (q : Int))) (h2 : w.cell? ⟨g, 1, none⟩ = some (.slice a l c)) (hz : VF w a l c zs k) (hn : n + 1 ≤ 1000000) (hbase : base ≤ w.heap.size)
  (h : ∀ ao' cap' w', SOwn w' base ao' (n + 1) cap' (fun t => if t = n then q else p t) (rs ++ [zs]) k → w.grownBy w' (Value.slice ao n cap).ownBlock → wpList Tryz.prog ops Q rest (ac.put o.dst (.slice ao' (n + 1) cap')) w') : wpList Tryz.prog ops Q (o :: rest) ac w := by
 refine wpList_plain hgd fun K hK => ?_;obtain ⟨ao', cap', w', hrun, h1, h2⟩ := run_append_step t o.type ht w base ao n cap k p rs hown g q a l c zs h1 h2 hz hn hbase;unfold Oper.wp;simp [execOp, ho, resolve, invoke, builtin, hs, hx, hrun, Result.andThen];exact hK _ _ (h ao' cap' w' h1 h2)

def SBox (w : World) (g : Nat) (z : Int) (ao : Option Addr) (len cap : Nat) : Prop := w.heap[g]? = some (.cells #[.int .i64 z, .slice ao len cap] 103)
theorem SBox.lt {w : World} {g : Nat} {z : Int} {ao : Option Addr} {len cap : Nat} (h : SBox w g z ao len cap) : g < w.heap.size := lt_of_block h
theorem SBox.zb {w : World} {g : Nat} {z : Int} {ao : Option Addr} {len cap : Nat} (h : SBox w g z ao len cap) : w.cell? ⟨g, 0, none⟩ = some (.int .i64 z) ∧ w.cell? ⟨g, 1, none⟩ = some (.slice ao len cap) ∧ w.frozen? ⟨g, 0, none⟩ = false ∧ w.frozen? ⟨g, 1, none⟩ = false := by
 unfold SBox at h;refine ⟨?_, ?_, ?_, ?_⟩ <;> simp [World.cell?, World.frozen?, h]
theorem SBox.onlyStep {w : World} {g : Nat} {z : Int} {ao : Option Addr} {len cap : Nat} (h : SBox w g z ao len cap) : OnlyStep w (some g) := by
 intro g' e j u hu;simp only [Option.some.injEq] at e;subst e;unfold SBox at h
 match j with
 | 0 => simp [World.cell?, h] at hu; exact Or.inl ⟨_, hu.symm⟩
 | 1 => simp [World.cell?, h] at hu; exact Or.inr ⟨(ao, len, cap), hu.symm⟩
 | j + 2 => simp [World.cell?, h] at hu
theorem SBox.za {w w' : World} {g : Nat} {z : Int} {ao : Option Addr} {len cap : Nat} (h : SBox w g z ao len cap) (hb : Below w.heap.size w w') : SBox w' g z ao len cap := by
 unfold SBox at *;rw [hb.block g (lt_of_block h)]; exact h
theorem sbox_new (w : World) (z : Int) (ao : Option Addr) (len cap : Nat) {n : Nat} (hn : n = w.heap.size) : SBox (w.alloc (.cells #[.int .i64 z, .slice ao len cap] 103)) n z ao len cap := by
 subst hn;unfold SBox;show (w.heap.push _)[w.heap.size]? = _;simp
def sput (w : World) (g : Nat) (z : Int) (ao : Option Addr) (len cap : Nat) : World := (w.setCell ⟨g, 0, none⟩ (.int .i64 z)).setCell ⟨g, 1, none⟩ (.slice ao len cap)
theorem SBox.put {w : World} {g : Nat} {z : Int} {ao : Option Addr} {len cap : Nat} (h : SBox w g z ao len cap) (z' : Int) (ao' : Option Addr) (len' cap' : Nat) : SBox (sput w g z' ao' len' cap') g z' ao' len' cap' := by
 have hl := h.lt;unfold SBox at *;unfold sput;have h' : w.heap[g]'hl = .cells #[.int .i64 z, .slice ao len cap] 103 := by
  rw [Array.getElem?_eq_getElem hl] at h;exact Option.some.inj h
 simp [World.setCell, Array.getElem_modify, h', hl]
theorem grown_sput (w : World) (g : Nat) (z : Int) (ao : Option Addr) (len cap : Nat) : w.grownBy (sput w g z ao len cap) (some g) := (grown_set1 w g 0 (.int .i64 z)).trans (grown_set1 _ g 1 (.slice ao len cap))
theorem SBox.other {w w' : World} {row : Option Nat} {g : Nat} {z : Int} {ao : Option Addr} {len cap : Nat} (h : SBox w g z ao len cap) (hg : w.grownBy w' row) (hne : row ≠ some g) : SBox w' g z ao len cap := by
 have hl := h.lt;unfold SBox at *;rw [hg.block g hl (Ne.symm hne)]; exact h
/-
 What isRest, pivot and stepOf of package hnf tell, and the library's IndexFunc, by which pivot goes.
-/

theorem sgn_geH {x : Int} (h : 0 ≤ x) : ¬ x.sign < 0 := by
 rcases Int.lt_trichotomy x 0 with c | c | c
 ·omega
 ·rw [c]; decide
 ·rw [Int.sign_eq_one_of_pos c]; decide
set_option maxHeartbeats 1000000 in
theorem isRestK (b : Bool) (aa : Option Addr) (la ca : Nat) (x : Int) (k : Nat) (b' : Bool) (ab : Option Addr) (lb cb : Nat) (y : Int) (l : Nat) (q : Bool) (w : World) (hx : IK w b aa la ca x k) (hy : IK w b' ab lb cb y l) (hq : q = decide (0 ≤ x ∧ x < y)) :
  Calls Tryz.prog 114 #[.agg #[.bool b, .slice aa la ca], .agg #[.bool b', .slice ab lb cb]] w fun e w' => e = .returned (.bool q) ∧ Below w.heap.size w w' := by
 have HQ := zh hq;clear hq;obtain ⟨s, es⟩ : ∃ s, s = x.sign := ⟨_, rfl⟩;have ES := zh es;obtain ⟨d, ed⟩ : ∃ d, d = (x - y).sign := ⟨_, rfl⟩;have ED := zh ed;clear ed;go_enter Tryz.func114, Tryz.ntmps114
 go_wp2_with fail
 obtain ⟨W, hWe⟩ : ∃ W, W = (w.alloc (.cells #[.bool b, .slice aa la ca] 45)).alloc (.cells #[.bool b', .slice ab lb cb] 45) := ⟨_, rfl⟩;obtain ⟨B0, B1, hb0⟩ := boxes2 w b aa la ca b' ab lb cb hWe;rw [← hWe];clear hWe;refine (signK b aa la ca x k s _ (hx.za hb0) (zu ES)).mono ?_;rintro e w1 ⟨rfl, hb1⟩;replace B0 := B0.za hb1;replace B1 := B1.za hb1;have HB := zh (Below.step hb0 hb1);clear hb0 hb1;by_cases h0 : 0 ≤ x
 ·have hs : ¬ s < 0 := by rw [es]; exact sgn_geH h0
  have hs' : 0 ≤ s := by omega
  clear es;obtain ⟨f1, f2, _, _⟩ := B0.zb;obtain ⟨f3, f4, _, _⟩ := B1.zb;have hl0 := B0.lt;have hl1 := B1.lt
  go_wp2_with fail
  refine (cmpK b aa la ca x k b' ab lb cb y l d _ (hx.za (zu HB)) (hy.za (zu HB)) (zu ED)).mono ?_;rintro e w2 ⟨rfl, hb1⟩;clear f1 f2 f3 f4 hl0 hl1;replace HB := zh (Below.step (zu HB) hb1);clear hb1;by_cases h1 : x < y
  ·have hd : d < 0 := by rw [zu ED, Int.sign_eq_neg_one_of_neg (by omega)]; omega
   have hqt : q = true := by rw [zu HQ]; exact decide_eq_true ⟨h0, h1⟩
   subst hqt;go_wp2;go_ret;exact ⟨rfl, zu HB⟩
  ·have hd : decide (d < 0) = false := decide_eq_false (by rw [zu ED]; exact sgn_geH (by omega));have hqt : q = false := by rw [zu HQ]; exact decide_eq_false (fun h => h1 h.2)
   subst hqt;go_wp2;go_ret;exact ⟨rfl, zu HB⟩
 ·have hs : s < 0 := by rw [es, Int.sign_eq_neg_one_of_neg (by omega)]; omega
  have hs' : ¬ 0 ≤ s := by omega
  clear es;have hqt : q = false := by rw [zu HQ]; exact decide_eq_false (fun h => h0 h.1)
  subst hqt;go_wp2;go_ret;exact ⟨rfl, zu HB⟩

set_option maxHeartbeats 1000000 in
theorem notZeroK (b : Bool) (aa : Option Addr) (la ca : Nat) (x : Int) (k : Nat) (q : Bool) (w : World) (hx : IK w b aa la ca x k) (hq : q = decide (x ≠ 0)) :
  Calls Tryz.prog 118 #[.agg #[.bool b, .slice aa la ca]] w fun e w' => e = .returned (.bool q) ∧ Below w.heap.size w w' := by
 have HQ := zh hq;clear hq;obtain ⟨s, es⟩ : ∃ s, s = x.sign := ⟨_, rfl⟩;have ES := zh es;go_enter Tryz.func118, Tryz.ntmps118
 go_wp2_with fail
 obtain ⟨W, hWe⟩ : ∃ W, W = w.alloc (.cells #[.bool b, .slice aa la ca] 45) := ⟨_, rfl⟩;obtain ⟨B0, hb0⟩ := boxes1 w b aa la ca hWe;rw [← hWe];clear hWe;refine (signK b aa la ca x k s _ (hx.za hb0) (zu ES)).mono ?_;rintro e w1 ⟨rfl, hb1⟩;have HB := zh (Below.step hb0 hb1);clear hb0 hb1 B0;by_cases h0 : x = 0
 ·have hs : (s != 0) = false := by rw [es, h0]; rfl
  clear es;have hqt : q = false := by rw [zu HQ]; exact decide_eq_false (fun h => h h0)
  subst hqt;go_wp2;go_ret;exact ⟨rfl, zu HB⟩
 ·have hs : (s != 0) = true := by
   rw [bne_iff_ne, es];exact fun e => h0 (Int.sign_eq_zero_iff_zero.1 e)
  clear es;have hqt : q = true := by rw [zu HQ]; exact decide_eq_true h0
  subst hqt;go_wp2;go_ret;exact ⟨rfl, zu HB⟩

theorem pivZ_at {v : List Int} {i : Nat} (h : ∀ j, j < i → v.getD j 0 = 0) (hi : v.getD i 0 ≠ 0) : PivZ v (i : Int) := Or.inr ⟨i, rfl, h, hi⟩
theorem pivZ_none {v : List Int} {n : Nat} (hl : v.length = n) (h : ∀ j, j < n → v.getD j 0 = 0) : PivZ v (-1) := Or.inl ⟨rfl, fun j => by
 rcases Nat.lt_or_ge j n with c | c
 ·exact h j c
 ·exact getD_out (by omega)⟩
set_option maxHeartbeats 1600000 in
theorem indexK (ao : Option Addr) (n cap : Nat) (zs : List Int) (k : Nat) (w : World) (h : VK w ao n cap zs k) :
  Calls Tryz.prog 117 #[.slice ao n cap, .func (.func 118) #[] #[]] w fun e w' => ∃ z, e = .returned (.int .i64 z) ∧ PivZ zs z ∧ Below w.heap.size w w' := by
 have HL := zh h.len_eq;have hm := Nat.le_trans h.cap_le h.cap_max;unfold maxLen at hm;go_enter Tryz.func117, Tryz.ntmps117
 go_wp2_with fail
 go_loopw [8] (fun t wr => ∃ (i : Nat), i ≤ n ∧ t = .int .i64 (i : Int) ∧ (∀ j, j < i → zs.getD j 0 = 0) ∧ Below w.heap.size w wr) (fun t _ => n - (intOf t).toNat)
 case atStart => exact ⟨0, Nat.zero_le _, rfl, fun j hj => absurd hj (by omega), Below.refl _ _⟩
 case round =>
  obtain ⟨i, hi, rfl, hall, hB⟩ := hrel;have HA := zh hall;clear hall;have HB := zh hB;clear hB;by_cases hlt : i < n
  ·obtain ⟨g, off, rfl⟩ := h.some (by omega);obtain ⟨b2, a2, l2, c2, he, hy⟩ := (h.za (zu HB)).at hlt;obtain ⟨f1, f2⟩ := he.zb;have hg1 := he.1;obtain ⟨z, ez⟩ : ∃ z, z = zs.getD i 0 := ⟨_, rfl⟩;rw [← ez] at hy;have EZ := zh ez;clear ez;obtain ⟨q, eq⟩ : ∃ q, q = decide (z ≠ 0) := ⟨_, rfl⟩;have EQ := zh eq;clear eq
   go_wp2_with fail
   refine (notZeroK b2 a2 l2 c2 z k q _ hy (zu EQ)).mono ?_;rintro e w3 ⟨rfl, hb1⟩;replace HB := zh (Below.step (zu HB) hb1);clear hb1 hy f1 f2 he hg1;by_cases h0 : z = 0
   ·have hq : q = false := by rw [zu EQ]; exact decide_eq_false (fun h => h h0)
    subst hq;go_wp2;go_roundw
    case rel =>
     refine ⟨i + 1, by omega, by go_num, fun j hj => ?_, zu HB⟩;by_cases c : j = i
     ·subst c; rw [← zu EZ]; exact h0
     ·exact zu HA j (by omega)
    case measure => simp [intOf]; omega
   ·have hq : q = true := by rw [zu EQ]; exact decide_eq_true h0
    subst hq;go_wp2;go_ret;exact ⟨_, rfl, pivZ_at (zu HA) (by rw [← zu EZ]; exact h0), zu HB⟩
  ·have hin : i = n := by omega
   subst hin;go_wp2;go_ret;exact ⟨_, rfl, pivZ_none (zu HL) (zu HA), zu HB⟩
theorem pivotK (ao : Option Addr) (n cap : Nat) (zs : List Int) (k : Nat) (w : World) (h : VK w ao n cap zs k) :
  Calls Tryz.prog 112 #[.slice ao n cap] w fun e w' => ∃ z, e = .returned (.int .i64 z) ∧ PivZ zs z ∧ Below w.heap.size w w' := by
 go_enter Tryz.func112, Tryz.ntmps112
 go_wp2_with fail
 refine (indexK ao n cap zs k _ h).mono ?_;rintro e w1 ⟨z, rfl, hp, hb1⟩;go_wp2;go_ret;exact ⟨_, rfl, hp, hb1⟩
set_option maxHeartbeats 1000000 in
theorem stepOfK (ao : Option Addr) (n cap : Nat) (zs : List Int) (k : Nat) (w : World) (h : VK w ao n cap zs k) (hk : k ≤ 900000) (hn : n ≤ 1000000) :
  Calls Tryz.prog 109 #[.slice ao n cap] w fun e w' => ∃ z a1 c1, e = .returned (.agg #[.int .i64 z, .slice a1 n c1]) ∧ PivZ zs z ∧ VF w' a1 n c1 (vnormal zs) k ∧ Below w.heap.size w w' := by
 go_enter Tryz.func109, Tryz.ntmps109
 go_wp2_with fail
 obtain ⟨W, hWe⟩ : ∃ W, W = w.alloc (.cells #[.int .i64 0, .slice none 0 0] 103) := ⟨_, rfl⟩;have B0 : SBox W w.heap.size 0 none 0 0 := by rw [hWe]; exact sbox_new w 0 none 0 0 rfl
 have hb0 : Below w.heap.size w W := by rw [hWe]; exact below_new _ _
 rw [← hWe];clear hWe;refine (pivotK ao n cap zs k _ (h.za hb0)).mono ?_;rintro e w1 ⟨z, rfl, hp, hb1⟩;replace B0 := B0.za hb1;have HB := zh (Below.step hb0 hb1);have HP := zh hp;clear hb0 hb1 hp
 go_wp2_with fail
 refine (normalK ao n cap zs k _ (h.za (zu HB)) hk hn).mono ?_;rintro e w2 ⟨a1, c1, rfl, h1, hb1⟩;replace B0 := B0.za hb1;replace HB := zh (Below.step (zu HB) hb1);clear hb1;obtain ⟨q1, q2, q3, q4⟩ := B0.zb;have hlt := B0.lt;go_wp2;refine bodyPost_ret (v := .agg #[.int .i64 z, .slice a1 n c1]) (by simp [results, Tryz.results109, go_sem, *]) rfl ?_;refine ⟨_, _, _, rfl, zu HP, vf_step h1 (grown_sput w2 w.heap.size z a1 n c1) B0.onlyStep, ?_⟩;exact ((zu HB).setCell (by simp) _).setCell (by simp) _

end Go.Proofs.YtnpneloahajniaaGreat
