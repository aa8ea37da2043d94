/-
  Plain mathematics of rows.Sort: rows' numbers in the order of the rows (of rows that are the same the lesser number ahead); walked through, those left out that are the same as the last one told, the rows come out sorted, of the same ones the first.
-/
import Derived.Test.YtbdjkbonoofibaaJH
import Derived.Sort.Statements
namespace Go.Proofs.Ytbdjkbonoofibaa
open Go.RowKit Lb
set_option maxRecDepth 20000

theorem IsCmp.zero_iff {a b : List Int} {c : Int} (h : IsCmp a b c) : c = 0 ↔ VSame a b := by
  constructor
  · intro e
    rcases vlt_tri a b with t | t | t
    · have := h.lt_iff.2 t; omega
    · exact t
    · have := h.gt_iff.2 t; omega
  · intro e
    rcases Int.lt_trichotomy c 0 with t | t | t
    · exact absurd e (vlt_ne (h.lt_iff.1 t))
    · exact t
    · exact absurd e.symm (vlt_ne (h.gt_iff.1 t))
/-- How vectors compare: -1, 0 or 1. -/
noncomputable def cmpV (a b : List Int) : Int := Classical.choose (isCmp_of a b)
theorem cmpV_is (a b : List Int) : IsCmp a b (cmpV a b) := Classical.choose_spec (isCmp_of a b)
theorem IsCmp.eq_cmpV {a b : List Int} {c : Int} (h : IsCmp a b c) (h1 : -1 ≤ c) (h2 : c ≤ 1) (g1 : -1 ≤ cmpV a b) (g2 : cmpV a b ≤ 1) : c = cmpV a b := by
  have hv := cmpV_is a b
  rcases vlt_tri a b with t | t | t
  · have := h.lt_iff.2 t; have := hv.lt_iff.2 t; omega
  · have := h.zero_iff.2 t; have := hv.zero_iff.2 t; omega
  · have := h.gt_iff.2 t; have := hv.gt_iff.2 t; omega
theorem cmpV_bd (a b : List Int) : -1 ≤ cmpV a b ∧ cmpV a b ≤ 1 := by
  rcases cmpV_is a b with ⟨e, _⟩ | ⟨k, _, h, e⟩
  · rw [e]; omega
  · rw [e]
    rcases sgn_cases (x := a.getD k 0 - b.getD k 0) (by omega) with ⟨_, e⟩ | ⟨_, e⟩ <;> rw [e] <;> omega

/-- Row i comes ahead of row j. -/
def ahead (rs : List (List Int)) (i j : Nat) : Prop := vlt (rs.getD i []) (rs.getD j []) ∨ VSame (rs.getD i []) (rs.getD j []) ∧ i < j
theorem ahead_irrefl (rs : List (List Int)) (i : Nat) : ¬ ahead rs i i := by
  rintro (h | ⟨_, h⟩)
  · exact vlt_ne h (VSame.refl _)
  · omega
theorem ahead_trans {rs : List (List Int)} {i j k : Nat} (h : ahead rs i j) (h' : ahead rs j k) : ahead rs i k := by
  rcases h with h | ⟨h, hi⟩ <;> rcases h' with h' | ⟨h', hj⟩
  · exact Or.inl (vlt_trans h h')
  · exact Or.inl (h.right h')
  · exact Or.inl (h'.left h.symm)
  · exact Or.inr ⟨h.trans h', by omega⟩
theorem ahead_tri (rs : List (List Int)) (i j : Nat) : ahead rs i j ∨ i = j ∨ ahead rs j i := by
  rcases vlt_tri (rs.getD i []) (rs.getD j []) with t | t | t
  · exact Or.inl (Or.inl t)
  · rcases Nat.lt_trichotomy i j with c | c | c
    · exact Or.inl (Or.inr ⟨t, c⟩)
    · exact Or.inr (Or.inl c)
    · exact Or.inr (Or.inr (Or.inr ⟨t.symm, c⟩))
  · exact Or.inr (Or.inr (Or.inl t))
/-- What the comparison of two numbers of rows tells. -/
noncomputable def rankC (rs : List (List Int)) (i j : Nat) : Int := if cmpV (rs.getD i []) (rs.getD j []) = 0 then (if i < j then -1 else if j < i then 1 else 0) else cmpV (rs.getD i []) (rs.getD j [])
theorem rankC_lt (rs : List (List Int)) (i j : Nat) : rankC rs i j < 0 ↔ ahead rs i j := by
  have hv := cmpV_is (rs.getD i []) (rs.getD j [])
  unfold rankC ahead
  split
  · next e =>
    have hs := hv.zero_iff.1 e
    split
    · next c => exact ⟨fun _ => Or.inr ⟨hs, c⟩, fun _ => by omega⟩
    · split
      · next c d => exact ⟨fun h => by omega, fun h => by
          rcases h with h | ⟨_, h⟩
          · exact absurd hs (vlt_ne h)
          · omega⟩
      · next c d => exact ⟨fun h => by omega, fun h => by
          rcases h with h | ⟨_, h⟩
          · exact absurd hs (vlt_ne h)
          · omega⟩
  · next e =>
    rw [hv.lt_iff]
    exact ⟨Or.inl, fun h => by
      rcases h with h | ⟨h, _⟩
      · exact h
      · exact absurd (hv.zero_iff.2 h) e⟩
theorem rank_swo {n : Nat} (rs : List (List Int)) : Go.Sort.SWO (fun i j : Fin n => decide (rankC rs i.1 j.1 < 0)) where
  irrefl x := by
    rw [decide_eq_false_iff_not, rankC_lt]
    exact ahead_irrefl rs x.1
  trans x y z h1 h2 := by
    rw [decide_eq_true_iff, rankC_lt] at *
    exact ahead_trans h1 h2
  ntrans x y z h1 h2 := by
    rw [decide_eq_false_iff_not, rankC_lt] at *
    intro h
    rcases ahead_tri rs x.1 y.1 with c | c | c
    · exact h1 c
    · rw [c] at h; exact h2 h
    · exact h2 (ahead_trans c h)

/-- Of the rows whose numbers qs are, each once, r is told so far. -/
structure Ded (rs : List (List Int)) (qs : List Nat) (r : List (List Int)) : Prop where
  asc : Asc r
  first : ∀ x ∈ r, IsFirst rs x
  all : ∀ q ∈ qs, ∃ y ∈ r, VSame (rs.getD q []) y
  last : ∀ q, qs.getLast? = some q → ∃ y, r.getLast? = some y ∧ VSame (rs.getD q []) y
  none : qs = [] → r = []
theorem ded_nil (rs : List (List Int)) : Ded rs [] [] := ⟨List.Pairwise.nil, fun x hx => by simp at hx, fun x hx => by simp at hx, fun q hq => by simp at hq, fun _ => rfl⟩
theorem last_mem {α : Type} {l : List α} {x : α} (h : l.getLast? = some x) : x ∈ l := List.mem_of_getLast? h
theorem Ded.skip {rs : List (List Int)} {qs : List Nat} {r : List (List Int)} (h : Ded rs qs r) {p : Nat} {y : List Int} (hy : r.getLast? = some y) (e : VSame y (rs.getD p [])) : Ded rs (qs ++ [p]) r := by
  refine ⟨h.asc, h.first, fun q hq => ?_, fun q hq => ?_, fun e => by simp at e⟩
  · rcases List.mem_append.1 hq with c | c
    · exact h.all q c
    · simp at c; subst c; exact ⟨y, last_mem hy, e.symm⟩
  · simp at hq
    subst hq
    exact ⟨y, hy, e.symm⟩
theorem asc_last {r : List (List Int)} (h : Asc r) {y : List Int} (hy : r.getLast? = some y) : ∀ z ∈ r, VSame z y ∨ vlt z y := by
  obtain ⟨p, rfl⟩ : ∃ p, r = p ++ [y] := by
    obtain ⟨p, e⟩ := List.getLast?_eq_some_iff.1 hy
    exact ⟨p, e⟩
  intro z hz
  rcases List.mem_append.1 hz with c | c
  · exact Or.inr ((List.pairwise_append.1 h).2.2 z c y (by simp))
  · simp at c; subst c; exact Or.inl (VSame.refl _)
theorem isFirst_at {rs : List (List Int)} {p : Nat} (hp : p < rs.length) (h : ∀ j, j < p → ¬ VSame (rs.getD j []) (rs.getD p [])) : IsFirst rs (rs.getD p []) := by
  refine ⟨rs.take p, rs.drop (p + 1), ?_, fun y hy => ?_⟩
  · rw [show rs.getD p [] = rs[p] by simp [List.getD, hp]]
    rw [← List.drop_eq_getElem_cons hp, List.take_append_drop]
  · obtain ⟨j, hj, e⟩ := List.getElem_of_mem hy
    have hj' : j < p := by rw [List.length_take] at hj; omega
    have e2 : rs.getD j [] = y := by
      rw [← e]
      simp [List.getD, show j < rs.length by omega]
    rw [← e2]
    exact h j hj'
theorem Ded.put {rs : List (List Int)} {qs : List Nat} {r : List (List Int)} (h : Ded rs qs r) {p : Nat} (hp : p < rs.length) (hs : ∀ q ∈ qs, ahead rs q p) (ha : ∀ j, j < rs.length → ahead rs j p → j ∈ qs) (hn : ∀ y, r.getLast? = some y → ¬ VSame y (rs.getD p [])) : Ded rs (qs ++ [p]) (r ++ [rs.getD p []]) := by
  have hlast : ∀ q, qs.getLast? = some q → vlt (rs.getD q []) (rs.getD p []) := by
    intro q hq
    rcases hs q (last_mem hq) with c | ⟨c, _⟩
    · exact c
    · obtain ⟨y, hy, e⟩ := h.last q hq
      exact absurd (e.symm.trans c) (hn y hy)
  have hbig : ∀ y ∈ r, vlt y (rs.getD p []) := by
    intro y hy
    cases hq : qs.getLast? with
    | none =>
      have := h.none (List.getLast?_eq_none_iff.1 hq)
      rw [this] at hy
      simp at hy
    | some q =>
      obtain ⟨z, hz, e⟩ := h.last q hq
      have hzp := (hlast q hq).left e
      rcases asc_last h.asc hz y hy with c | c
      · exact hzp.left c.symm
      · exact vlt_trans c hzp
  refine ⟨List.pairwise_append.2 ⟨h.asc, by simp, fun y hy z hz => ?_⟩, fun x hx => ?_, fun q hq => ?_, fun q hq => ?_, fun e => by simp at e⟩
  · simp at hz; subst hz; exact hbig y hy
  · rcases List.mem_append.1 hx with c | c
    · exact h.first x c
    · simp only [List.mem_singleton] at c
      rw [c]
      refine isFirst_at hp fun j hj e => ?_
      have hjq := ha j (by omega) (Or.inr ⟨e, hj⟩)
      obtain ⟨y, hy, ey⟩ := h.all j hjq
      exact vlt_ne (hbig y hy) (ey.symm.trans e)
  · rcases List.mem_append.1 hq with c | c
    · obtain ⟨y, hy, e⟩ := h.all q c
      exact ⟨y, List.mem_append.2 (Or.inl hy), e⟩
    · simp at c; subst c; exact ⟨_, List.mem_append.2 (Or.inr (List.mem_singleton.2 rfl)), VSame.refl _⟩
  · simp at hq
    subst hq
    exact ⟨_, by simp, VSame.refl _⟩
/-- The numbers of rows in the rows' order. -/
structure IsRank (rs : List (List Int)) (ps : List Nat) : Prop where
  perm : ps.Perm (List.range rs.length)
  asc : ps.Pairwise (ahead rs)
theorem IsRank.len {rs : List (List Int)} {ps : List Nat} (h : IsRank rs ps) : ps.length = rs.length := by rw [h.perm.length_eq, List.length_range]
theorem IsRank.lt {rs : List (List Int)} {ps : List Nat} (h : IsRank rs ps) {t : Nat} (ht : t < rs.length) : ps.getD t 0 < rs.length := by
  have hl := h.len
  have : ps.getD t 0 ∈ ps := by
    rw [show ps.getD t 0 = ps[t] by simp [List.getD, show t < ps.length by omega]]
    exact List.getElem_mem _
  have := h.perm.mem_iff.1 this
  simpa using this
theorem take_snoc {α : Type} (d : α) {ps : List α} {t : Nat} (ht : t < ps.length) : ps.take (t + 1) = ps.take t ++ [ps.getD t d] := by
  rw [List.take_add_one, show ps.getD t d = ps[t] by simp [List.getD, ht], List.getElem?_eq_getElem ht]
  rfl
/-- A row is told, or is there already. -/
theorem IsRank.skip {rs : List (List Int)} {ps : List Nat} (h : IsRank rs ps) {t : Nat} (ht : t < rs.length) {r : List (List Int)} (hd : Ded rs (ps.take t) r) {y : List Int} (hy : r.getLast? = some y) (e : VSame y (rs.getD (ps.getD t 0) [])) : Ded rs (ps.take (t + 1)) r := by
  have hl := h.len
  rw [take_snoc 0 (show t < ps.length by omega)]
  exact hd.skip hy e
theorem IsRank.put {rs : List (List Int)} {ps : List Nat} (h : IsRank rs ps) {t : Nat} (ht : t < rs.length) {r : List (List Int)} (hd : Ded rs (ps.take t) r) (hn : ∀ y, r.getLast? = some y → ¬ VSame y (rs.getD (ps.getD t 0) [])) : Ded rs (ps.take (t + 1)) (r ++ [rs.getD (ps.getD t 0) []]) := by
  have hl := h.len
  have htl : t < ps.length := by omega
  have hpt : ps.getD t 0 = ps[t] := by simp [List.getD, htl]
  have hsplit : ps = ps.take t ++ ps[t] :: ps.drop (t + 1) := by rw [← List.drop_eq_getElem_cons htl, List.take_append_drop]
  have hasc := h.asc
  rw [hsplit] at hasc
  obtain ⟨_, a2, a3⟩ := List.pairwise_append.1 hasc
  obtain ⟨b1, _⟩ := List.pairwise_cons.1 a2
  rw [take_snoc 0 htl]
  refine hd.put (h.lt ht) (fun q hq => ?_) (fun j hj hja => ?_) hn
  · rw [hpt]; exact a3 q hq _ (List.mem_cons_self ..)
  · rw [hpt] at hja
    have hjp : j ∈ ps := h.perm.mem_iff.2 (by simpa using hj)
    rw [hsplit] at hjp
    rcases List.mem_append.1 hjp with c | c
    · exact c
    · rcases List.mem_cons.1 c with c | c
      · rw [← c] at hja; exact absurd hja (ahead_irrefl rs j)
      · exact absurd (ahead_trans hja (b1 j c)) (ahead_irrefl rs j)
theorem IsRank.done {rs : List (List Int)} {ps : List Nat} (h : IsRank rs ps) {r : List (List Int)} (hd : Ded rs (ps.take rs.length) r) : IsSort rs r := by
  have hl := h.len
  rw [List.take_of_length_le (by omega)] at hd
  refine ⟨hd.asc, hd.first, fun x hx => ?_⟩
  obtain ⟨j, hj, e⟩ := List.getElem_of_mem hx
  obtain ⟨y, hy, e2⟩ := hd.all j (h.perm.mem_iff.2 (by simpa using hj))
  refine ⟨y, hy, ?_⟩
  rw [← e]
  rwa [show rs.getD j [] = rs[j] by simp [List.getD, hj]] at e2

#print axioms IsRank.put
#print axioms IsRank.done
#print axioms rank_swo
end Go.Proofs.Ytbdjkbonoofibaa
