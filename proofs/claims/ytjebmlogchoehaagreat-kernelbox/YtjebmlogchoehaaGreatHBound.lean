/-
  Plain mathematics of stage 10: rows with rising pivots (not yet lowered), and how great their numbers may be: by Gauss's and Jordan's way, of which nothing but the bound is kept.
-/
import Derived.Test.YtjebmlogchoehaaGreatJL
namespace Go.Proofs.YtjebmlogchoehaaGreat
open Go.RowKit Lb
set_option maxRecDepth 20000

/-- Rows with rising pivots, the number at each above 0. -/
structure EForm (h : List (List Int)) (p : Nat → Nat) : Prop where
  rise : ∀ i k, i < k → k < h.length → p i < p k
  ahead : ∀ i, i < h.length → ∀ j, j < p i → ent h i j = 0
  pos : ∀ i, i < h.length → 0 < ent h i (p i)
/-- Row i is lowered at the pivots behind its own. -/
def LowAt (h : List (List Int)) (p : Nat → Nat) (i : Nat) : Prop := ∀ k, i < k → k < h.length → 0 ≤ ent h i (p k) ∧ ent h i (p k) < ent h k (p k)
theorem EForm.form {h : List (List Int)} {p : Nat → Nat} (he : EForm h p) (hl : ∀ i, i < h.length → LowAt h p i) : HForm h p := ⟨he.rise, he.ahead, he.pos, fun i k h1 h2 => hl i (by omega) k h1 h2⟩
theorem HForm.eform {h : List (List Int)} {p : Nat → Nat} (hf : HForm h p) : EForm h p := ⟨hf.rise, hf.ahead, hf.pos⟩
theorem HForm.lowAt {h : List (List Int)} {p : Nat → Nat} (hf : HForm h p) (i : Nat) : LowAt h p i := fun k h1 h2 => hf.low i k h1 h2
theorem EForm.lead {h : List (List Int)} {p : Nat → Nat} (hf : EForm h p) {v : Nat → Int} (hv : InL h v) (hn : ¬ ∀ j, v j = 0) : ∃ i x, i < h.length ∧ (∀ j, j < p i → v j = 0) ∧ v (p i) = x * ent h i (p i) ∧ v (p i) ≠ 0 := by
  obtain ⟨c, hc⟩ := hv
  rcases first_not c h.length with h0 | ⟨i, hi, hci, hlt⟩
  · exfalso
    refine hn fun j => ?_
    rw [hc j, ← sumN_nil0 h.length]
    exact sumN_congr fun i hi => by rw [h0 i hi, Int.zero_mul]
  · have hz : ∀ j, j < p i → v j = 0 := fun j hj => by
      rw [hc j, ← sumN_nil0 h.length]
      refine sumN_congr fun t ht => ?_
      rcases Nat.lt_trichotomy t i with d | d | d
      · rw [hlt t d, Int.zero_mul]
      · subst d; rw [hf.ahead t ht j hj, Int.mul_zero]
      · have := hf.rise i t d ht
        rw [hf.ahead t ht j (by omega), Int.mul_zero]
    have hp : v (p i) = c i * ent h i (p i) := by
      rw [hc (p i)]
      exact sumN_first (f := fun t => c t * ent h t (p i)) hi (fun t ht => by rw [hlt t ht, Int.zero_mul]) (fun t h1 h2 => by rw [hf.ahead t h2 (p i) (hf.rise i t h1 h2), Int.mul_zero])
    refine ⟨i, c i, hi, hz, hp, ?_⟩
    rw [hp]
    have := hf.pos i hi
    intro e
    rcases Int.mul_eq_zero.1 e with d | d
    · exact hci d
    · omega
theorem EForm.isPivot {h : List (List Int)} {p : Nat → Nat} (hf : EForm h p) {i : Nat} (hi : i < h.length) : IsPivot (h.getD i []) (p i) := ⟨hf.ahead i hi, by have := hf.pos i hi; unfold ent at this; omega⟩

/-- A sum of whole numbers times m vectors. -/
def InF (m : Nat) (F : Nat → Nat → Int) (v : Nat → Int) : Prop := ∃ c : Nat → Int, ∀ j, v j = sumN m fun i => c i * F i j
theorem inF_zero (m : Nat) (F : Nat → Nat → Int) : InF m F fun _ => 0 := ⟨fun _ => 0, fun j => by
  show (0 : Int) = sumN m fun i => (0 : Int) * F i j
  rw [show (sumN m fun i => (0 : Int) * F i j) = sumN m fun _ => (0 : Int) from sumN_congr fun i _ => Int.zero_mul _, sumN_nil0]⟩
theorem InF.add {m : Nat} {F : Nat → Nat → Int} {v u : Nat → Int} (h : InF m F v) (h' : InF m F u) : InF m F fun j => v j + u j := by
  obtain ⟨c, hc⟩ := h
  obtain ⟨d, hd⟩ := h'
  refine ⟨fun i => c i + d i, fun j => ?_⟩
  show v j + u j = sumN m fun i => (c i + d i) * F i j
  rw [hc j, hd j, ← sumN_add]
  exact sumN_congr fun i _ => by rw [Int.add_mul]
theorem InF.mul {m : Nat} {F : Nat → Nat → Int} {v : Nat → Int} (h : InF m F v) (x : Int) : InF m F fun j => x * v j := by
  obtain ⟨c, hc⟩ := h
  refine ⟨fun i => x * c i, fun j => ?_⟩
  show x * v j = sumN m fun i => x * c i * F i j
  rw [hc j, ← sumN_mul]
  exact sumN_congr fun i _ => by rw [Int.mul_assoc]
theorem InF.eq {m : Nat} {F : Nat → Nat → Int} {v u : Nat → Int} (h : InF m F v) (e : ∀ j, u j = v j) : InF m F u := by
  obtain ⟨c, hc⟩ := h
  exact ⟨c, fun j => (e j).trans (hc j)⟩
theorem inF_row {m : Nat} {F : Nat → Nat → Int} {i : Nat} (hi : i < m) : InF m F fun j => F i j := by
  refine ⟨fun t => if t = i then 1 else 0, fun j => ?_⟩
  have e : (sumN m fun t => (if t = i then (1 : Int) else 0) * F t j) = sumN m fun t => if t = i then F i j else 0 := sumN_congr fun t _ => by
    by_cases c : t = i
    · subst c; rw [if_pos rfl, if_pos rfl, Int.one_mul]
    · rw [if_neg c, if_neg c, Int.zero_mul]
  show F i j = sumN m fun t => (if t = i then (1 : Int) else 0) * F t j
  rw [e, sumN_single _ _ _ hi]
theorem inF_sum {m : Nat} {F : Nat → Nat → Int} (n : Nat) (f : Nat → Nat → Int) (h : ∀ i, i < n → InF m F fun j => f i j) : InF m F fun j => sumN n fun i => f i j := by
  induction n with
  | zero => exact inF_zero m F
  | succ n ih => exact (ih fun i hi => h i (by omega)).add (h n (by omega))
theorem sumN_not {n : Nat} {f : Nat → Int} (h : sumN n f ≠ 0) : ∃ i, i < n ∧ f i ≠ 0 := by
  rcases first_not f n with h0 | ⟨i, h1, h2, _⟩
  · exfalso
    apply h
    rw [← sumN_nil0 n]
    exact sumN_congr fun i hi => h0 i hi
  · exact ⟨i, h1, h2⟩

/-- How far Jordan's elimination has come: t pivots are done. -/
structure JState (l : List (List Int)) (p : Nat → Nat) (t m A : Nat) (F : Nat → Nat → Int) : Prop where
  inL : ∀ i, i < m → InL l fun j => F i j
  size : ∀ i, i < m → ∀ j, (F i j).natAbs ≤ A
  zero : ∀ i, i < m → ∀ s, s < t → s ≠ i → F i (p s) = 0
  not0 : ∀ s, s < t → F s (p s) ≠ 0
  span : ∀ v, InL l v → ∃ c, c ≠ 0 ∧ InF m F fun j => c * v j
  tle : t ≤ m
theorem jstate_start {l : List (List Int)} (p : Nat → Nat) {A : Nat} (hA : ∀ i j, (ent l i j).natAbs ≤ A) : JState l p 0 l.length A (ent l) :=
  ⟨fun i _ => inL_row i, fun i _ j => hA i j, fun _ _ s hs => absurd hs (by omega), fun s hs => absurd hs (by omega), fun v hv => ⟨1, by omega, by obtain ⟨c, hc⟩ := hv; exact ⟨c, fun j => by show 1 * v j = _; rw [Int.one_mul]; exact hc j⟩⟩, Nat.zero_le _⟩
theorem JState.next {l h : List (List Int)} {p : Nat → Nat} {t m A : Nat} {F : Nat → Nat → Int} (hf : EForm h p) (hs : SameL l h) (hj : JState l p t m A F) (ht : t < h.length) : ∃ G, JState l p (t + 1) m (2 * (A * A)) G := by
  -- a row that is left has a number at the next pivot
  obtain ⟨g, hgt, hgm, hg0⟩ : ∃ g, t ≤ g ∧ g < m ∧ F g (p t) ≠ 0 := by
    obtain ⟨c, hc0, α, hα0⟩ := hj.span _ (hs.symm.row t)
    have hα : ∀ j, c * ent h t j = sumN m fun i => α i * F i j := hα0
    clear hα0
    have hα0 : ∀ s, s < t → α s = 0 := by
      intro s hst
      have h1 := hα (p s)
      rw [hf.ahead t ht (p s) (hf.rise s t hst ht), Int.mul_zero, sumN_first (f := fun i => α i * F i (p s)) (show s < m by have := hj.tle; omega) (fun i hi => by rw [hj.zero i (by have := hj.tle; omega) s hst (by omega), Int.mul_zero]) (fun i h1 h2 => by rw [hj.zero i h2 s hst (by omega), Int.mul_zero])] at h1
      rcases Int.mul_eq_zero.1 h1.symm with d | d
      · exact d
      · exact absurd d (hj.not0 s hst)
    have h2 := hα (p t)
    have hp := hf.pos t ht
    obtain ⟨i, hi, hne⟩ := sumN_not (f := fun i => α i * F i (p t)) (n := m) (by
      rw [← h2]
      intro e
      rcases Int.mul_eq_zero.1 e with d | d
      · exact hc0 d
      · omega)
    refine ⟨i, ?_, hi, fun e => hne (by show α i * F i (p t) = 0; rw [e, Int.mul_zero])⟩
    rcases Nat.lt_or_ge i t with d | d
    · exact absurd (show α i * F i (p t) = 0 by rw [hα0 i d, Int.zero_mul]) hne
    · exact d
  have htm : t < m := by omega
  -- exchanged
  obtain ⟨E, hE⟩ : ∃ E : Nat → Nat → Int, ∀ i, E i = if i = t then F g else if i = g then F t else F i := ⟨_, fun _ => rfl⟩
  have hEt : E t = F g := by rw [hE, if_pos rfl]
  have hEs : ∀ s, s < t → E s = F s := fun s hst => by rw [hE, if_neg (by omega), if_neg (by omega)]
  have hEf : ∀ i, i < m → ∃ i', i' < m ∧ E i = F i' ∧ (∀ s, s < t → s ≠ i → s ≠ i') := fun i hi => by
    by_cases c : i = t
    · exact ⟨g, hgm, by rw [c, hEt], fun s h1 _ => by omega⟩
    · by_cases d : i = g
      · exact ⟨t, htm, by rw [hE, if_neg c, if_pos d], fun s h1 _ => by omega⟩
      · exact ⟨i, hi, by rw [hE, if_neg c, if_neg d], fun s _ h2 => h2⟩
  have hFe : ∀ i, i < m → ∃ i', i' < m ∧ F i = E i' := fun i hi => by
    by_cases c : i = t
    · by_cases d : t = g
      · exact ⟨t, htm, by rw [hEt, c, d]⟩
      · exact ⟨g, hgm, by rw [hE, if_neg (Ne.symm d), if_pos rfl, c]⟩
    · by_cases d : i = g
      · exact ⟨t, htm, by rw [hEt, d]⟩
      · exact ⟨i, hi, by rw [hE, if_neg c, if_neg d]⟩
  have hEin : ∀ i, i < m → InL l fun j => E i j := fun i hi => by
    obtain ⟨i', h1, h2, _⟩ := hEf i hi
    rw [h2]; exact hj.inL i' h1
  have hEsz : ∀ i, i < m → ∀ j, (E i j).natAbs ≤ A := fun i hi j => by
    obtain ⟨i', h1, h2, _⟩ := hEf i hi
    rw [h2]; exact hj.size i' h1 j
  have hEz : ∀ i, i < m → ∀ s, s < t → s ≠ i → E i (p s) = 0 := fun i hi s h1 h2 => by
    obtain ⟨i', h3, h4, h5⟩ := hEf i hi
    rw [h4]; exact hj.zero i' h3 s h1 (h5 s h1 h2)
  have ha : E t (p t) ≠ 0 := by rw [hEt]; exact hg0
  have hA1 : 1 ≤ A := by
    have := hEsz t htm (p t)
    omega
  -- eliminated
  obtain ⟨G, hG⟩ : ∃ G : Nat → Nat → Int, ∀ i j, G i j = if i = t then E t j else E t (p t) * E i j - E i (p t) * E t j := ⟨fun i j => if i = t then E t j else E t (p t) * E i j - E i (p t) * E t j, fun _ _ => rfl⟩
  have hGt : ∀ j, G t j = E t j := fun j => by rw [hG, if_pos rfl]
  have hGo : ∀ i, i ≠ t → ∀ j, G i j = E t (p t) * E i j - E i (p t) * E t j := fun i hi j => by rw [hG, if_neg hi]
  refine ⟨G, fun i hi => ?_, fun i hi j => ?_, fun i hi s h1 h2 => ?_, fun s h1 => ?_, fun v hv => ?_, by omega⟩
  · by_cases c : i = t
    · exact (hEin t htm).eq fun j => by rw [c]; exact hGt j
    · exact (((hEin i hi).mul (E t (p t))).sub ((hEin t htm).mul (E i (p t)))).eq fun j => hGo i c j
  · have hAA : A * 1 ≤ A * A := Nat.mul_le_mul_left _ hA1
    by_cases c : i = t
    · rw [c, hGt]
      have := hEsz t htm j
      omega
    · rw [hGo i c]
      have h1 : (E t (p t) * E i j).natAbs ≤ A * A := by rw [Int.natAbs_mul]; exact Nat.mul_le_mul (hEsz t htm _) (hEsz i hi j)
      have h2 : (E i (p t) * E t j).natAbs ≤ A * A := by rw [Int.natAbs_mul]; exact Nat.mul_le_mul (hEsz i hi _) (hEsz t htm j)
      omega
  · by_cases c : i = t
    · subst c
      rw [hGt]
      exact hEz i hi s (by omega) h2
    · rw [hGo i c]
      by_cases d : s = t
      · subst d
        rw [Int.mul_comm]; omega
      · rw [hEz i hi s (by omega) h2, hEz t htm s (by omega) d, Int.mul_zero, Int.mul_zero]; rfl
  · by_cases c : s = t
    · subst c
      rw [hGt]; exact ha
    · rw [hGo s c, hEz t htm s (by omega) c, Int.mul_zero, hEs s (by omega)]
      intro e
      rcases Int.mul_eq_zero.1 (show E t (p t) * F s (p s) = 0 by omega) with d | d
      · exact ha d
      · exact hj.not0 s (by omega) d
  · obtain ⟨c, hc0, α, hα0⟩ := hj.span v hv
    have hα : ∀ j, c * v j = sumN m fun i => α i * F i j := hα0
    clear hα0
    have hrow : ∀ i, i < m → InF m G fun j => E t (p t) * E i j := fun i hi => by
      by_cases d : i = t
      · exact ((inF_row (F := G) htm).mul (E t (p t))).eq fun j => by rw [d, hGt]
      · exact ((inF_row (F := G) hi).add ((inF_row (F := G) htm).mul (E i (p t)))).eq fun j => by rw [hGo i d, hGt]; omega
    refine ⟨E t (p t) * c, fun e => ?_, ?_⟩
    · rcases Int.mul_eq_zero.1 e with d | d
      · exact ha d
      · exact hc0 d
    · refine (inF_sum m (fun i j => α i * (E t (p t) * F i j)) fun i hi => ?_).eq fun j => ?_
      · obtain ⟨i', h1, h2⟩ := hFe i hi
        rw [h2]
        exact (hrow i' h1).mul (α i)
      · rw [Int.mul_assoc, hα j, ← sumN_mul]
        refine sumN_congr fun i _ => ?_
        rw [← Int.mul_assoc, ← Int.mul_assoc, Int.mul_comm (α i)]
def bigA : Nat → Nat → Nat
  | 0, A => A
  | t + 1, A => 2 * (bigA t A * bigA t A)
theorem jstate_all {l h : List (List Int)} {p : Nat → Nat} {A : Nat} (hf : EForm h p) (hs : SameL l h) (hA : ∀ i j, (ent l i j).natAbs ≤ A) : ∀ t, t ≤ h.length → ∃ F, JState l p t l.length (bigA t A) F
  | 0, _ => ⟨_, jstate_start p hA⟩
  | t + 1, ht => by
    obtain ⟨F, hF⟩ := jstate_all hf hs hA t (by omega)
    exact hF.next hf hs (by omega)
/-- There are no more rows than there were. -/
theorem EForm.len_rows {l h : List (List Int)} {p : Nat → Nat} (hf : EForm h p) (hs : SameL l h) : h.length ≤ l.length := by
  have hex : ∀ k, ∃ A, ∀ i, i < k → ∀ j, (ent l i j).natAbs ≤ A := by
    have hrow : ∀ r : List Int, ∃ A, ∀ j, (r.getD j 0).natAbs ≤ A := by
      intro r
      induction r with
      | nil => exact ⟨0, fun j => by simp⟩
      | cons x r ih =>
        obtain ⟨A, hA⟩ := ih
        refine ⟨A + x.natAbs, fun j => ?_⟩
        cases j with
        | zero => simp
        | succ j => have := hA j; simp only [List.getD_cons_succ]; omega
    intro k
    induction k with
    | zero => exact ⟨0, fun i hi => absurd hi (by omega)⟩
    | succ k ih =>
      obtain ⟨A, hA⟩ := ih
      obtain ⟨B, hB⟩ := hrow (l.getD k [])
      refine ⟨A + B, fun i hi j => ?_⟩
      by_cases c : i = k
      · subst c; have := hB j; unfold ent; omega
      · have := hA i (by omega) j; omega
  obtain ⟨A, hA⟩ := hex l.length
  obtain ⟨F, hF⟩ := jstate_all hf hs (A := A) (fun i j => by
    by_cases c : i < l.length
    · exact hA i c j
    · rw [ent_out (by omega)]; simp) h.length (Nat.le_refl _)
  exact hF.tle
/-- The bound: a row that is lowered at the pivots. -/
theorem EForm.bound {l h : List (List Int)} {p : Nat → Nat} {A : Nat} (hf : EForm h p) (hs : SameL l h) (hA : ∀ i j, (ent l i j).natAbs ≤ A) {k : Nat} (hk : k < h.length) (hl : LowAt h p k) (j : Nat) : (ent h k j).natAbs ≤ h.length * (bigA h.length A * bigA h.length A) := by
  obtain ⟨F, hF⟩ := jstate_all hf hs hA h.length (Nat.le_refl _)
  obtain ⟨E, hE⟩ : ∃ E, E = bigA h.length A := ⟨_, rfl⟩
  rw [← hE] at hF ⊢
  have hm := hF.tle
  have hpiv : ∀ s, s < h.length → (ent h s (p s)).natAbs ≤ E := by
    intro s hs'
    obtain ⟨i, x, hi, _, he, hne⟩ := hf.lead ((hs _).1 (hF.inL s (by omega))) (fun e => hF.not0 s hs' (e (p s)))
    have his : i = s := by
      rcases Nat.lt_or_ge i s with c | c
      · exact absurd (hF.zero s (by omega) i hi (by omega)) hne
      · rcases Nat.eq_or_lt_of_le c with d | d
        · exact d.symm
        · exact absurd (hF.zero s (by omega) i hi (by omega)) hne
    subst his
    have h1 := hF.size i (by omega) (p i)
    rw [he, Int.natAbs_mul] at h1
    have hx : 1 ≤ x.natAbs := by
      rcases Nat.eq_zero_or_pos x.natAbs with c | c
      · exact absurd (show F i (p i) = 0 by rw [he, Int.natAbs_eq_zero.1 c, Int.zero_mul]) hne
      · exact c
    have := Nat.mul_le_mul_right (ent h i (p i)).natAbs hx
    omega
  have main : ∀ d t P, d + t = h.length → ∀ u : Nat → Int, InL l u → (∀ s, s < t → u (p s) = 0) → (∀ s, s < h.length → (u (p s)).natAbs ≤ P) → ∀ j, (u j).natAbs ≤ d * (P * E) := by
    intro d
    induction d with
    | zero =>
      intro t P hd u hu h0 _ j
      have : u j = 0 := by
        by_cases c : ∀ j, u j = 0
        · exact c j
        · obtain ⟨i, _, hi, _, _, hne⟩ := hf.lead ((hs u).1 hu) c
          exact absurd (h0 i (by omega)) hne
      rw [this]; simp
    | succ d ih =>
      intro t P hd u hu h0 hP j
      have htm : t < l.length := by omega
      obtain ⟨D, hD⟩ : ∃ D, D = F t (p t) := ⟨_, rfl⟩
      have hD0 : D ≠ 0 := by rw [hD]; exact hF.not0 t (by omega)
      have h1 := ih (t + 1) (D.natAbs * P) (by omega) (fun j => D * u j - u (p t) * F t j) ((hu.mul D).sub ((hF.inL t htm).mul (u (p t)))) (fun s hst => by
          show D * u (p s) - u (p t) * F t (p s) = 0
          by_cases c : s = t
          · subst c; rw [← hD, Int.mul_comm]; omega
          · rw [h0 s (by omega), hF.zero t htm s (by omega) c, Int.mul_zero, Int.mul_zero]; rfl) (fun s hst => by
          show (D * u (p s) - u (p t) * F t (p s)).natAbs ≤ D.natAbs * P
          by_cases c : s = t
          · subst c; rw [← hD, Int.mul_comm (u (p s))]
            rw [Int.sub_self]; exact Nat.zero_le _
          · rw [hF.zero t htm s hst c, Int.mul_zero, Int.sub_zero, Int.natAbs_mul]
            exact Nat.mul_le_mul_left _ (hP s hst)) j
      have h2 : (D * u j).natAbs ≤ d * (D.natAbs * P * E) + P * E := by
        have h3 : (u (p t) * F t j).natAbs ≤ P * E := by rw [Int.natAbs_mul]; exact Nat.mul_le_mul (hP t (by omega)) (hF.size t htm j)
        have h1' : (D * u j - u (p t) * F t j).natAbs ≤ d * (D.natAbs * P * E) := h1
        omega
      rw [Int.natAbs_mul] at h2
      have hD1 : 1 ≤ D.natAbs := by omega
      have h3 : d * (D.natAbs * P * E) + P * E ≤ D.natAbs * ((d + 1) * (P * E)) := by
        have e1 : D.natAbs * ((d + 1) * (P * E)) = d * (D.natAbs * P * E) + D.natAbs * (P * E) := by
          rw [Nat.add_mul, Nat.one_mul, Nat.mul_add, Nat.mul_left_comm, Nat.mul_assoc D.natAbs P E]
        rw [e1]
        have := Nat.mul_le_mul_right (P * E) hD1
        omega
      exact Nat.le_of_mul_le_mul_left (Nat.le_trans h2 h3) (by omega)
  have hfin := main h.length 0 E (by omega) (fun j => ent h k j) (hs.symm.row k) (fun s hs' => absurd hs' (by omega)) (fun s hs' => by
    show (ent h k (p s)).natAbs ≤ E
    rcases Nat.lt_trichotomy s k with c | c | c
    · rw [hf.ahead k hk (p s) (hf.rise s k c hk)]; simp
    · subst c; exact hpiv s hs'
    · have h1 := hl s c hs'
      have h2 := hpiv s hs'
      omega) j
  exact hfin

/-- .. told in limbs. -/
def limbsA : Nat → Nat → Nat
  | 0, a => a
  | t + 1, a => 2 * limbsA t a + 1
theorem bigA_lt {A a : Nat} (h : A < Bp a) : ∀ t, bigA t A < Bp (limbsA t a)
  | 0 => h
  | t + 1 => by
    have h1 := bigA_lt h t
    have h2 := bp_mul_lt h1 h1
    have h3 := bp_two (limbsA t a + limbsA t a)
    show 2 * (bigA t A * bigA t A) < Bp (2 * limbsA t a + 1)
    rw [show 2 * limbsA t a + 1 = limbsA t a + limbsA t a + 1 by omega]
    omega
theorem limbsA_eq (t a : Nat) : limbsA t a + 1 = 2 ^ t * (a + 1) := by
  induction t with
  | zero => simp [limbsA]
  | succ t ih => rw [limbsA, Nat.pow_succ, Nat.mul_comm (2 ^ t) 2, Nat.mul_assoc, ← ih]; omega
theorem limbsA_le {t a : Nat} (ht : t ≤ 7) (ha : a ≤ 6) : limbsA t a ≤ 895 := by
  have h1 := limbsA_eq t a
  have h2 : 2 ^ t ≤ 2 ^ 7 := Nat.pow_le_pow_right (by omega) ht
  have h3 : 2 ^ t * (a + 1) ≤ 2 ^ 7 * 7 := Nat.mul_le_mul h2 (by omega)
  have h4 : (2 : Nat) ^ 7 * 7 = 896 := by decide
  omega
theorem bp_le {a b : Nat} (h : a ≤ b) : Bp a ≤ Bp b := by unfold Bp; exact Nat.pow_le_pow_right (by omega) h
/-- Of 7 rows of at most 6 limbs. -/
theorem EForm.limbs {l h : List (List Int)} {p : Nat → Nat} (hf : EForm h p) (hs : SameL l h) (hm : l.length ≤ 7) (hA : ∀ i j, (ent l i j).natAbs < Bp 6) {k : Nat} (hk : k < h.length) (hl : LowAt h p k) (j : Nat) : (ent h k j).natAbs < Bp 1791 := by
  have hp6 : 0 < Bp 6 := Bp_pos 6
  obtain ⟨B, hB⟩ : ∃ B, B + 1 = Bp 6 := ⟨Bp 6 - 1, by omega⟩
  have hlen := hf.len_rows hs
  have h1 := hf.bound hs (A := B) (fun i j => by have := hA i j; omega) hk hl j
  have h2 : bigA h.length B < Bp 895 := Nat.lt_of_lt_of_le (bigA_lt (a := 6) (by omega) h.length) (bp_le (limbsA_le (by omega) (Nat.le_refl _)))
  have h3 := bp_mul_lt h2 h2
  have h4 : h.length * (bigA h.length B * bigA h.length B) < Bp (895 + 895 + 1) := by
    rw [bp_add (895 + 895) 1, Nat.mul_comm]
    exact Nat.mul_lt_mul'' h3 (by have : Bp 1 = 4294967296 := by unfold Bp; decide
                                  omega)
  exact Nat.lt_of_le_of_lt h1 h4

#print axioms EForm.limbs
#print axioms EForm.len_rows
end Go.Proofs.YtjebmlogchoehaaGreat
