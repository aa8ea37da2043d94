/-
  Plain mathematics: what stands across rows, told of the rows themselves; what stands across what stands across a kernel; one row more.
-/
import Derived.Test.YtjebmlogchoehaaGreatHKer
namespace Go.Proofs.YtjebmlogchoehaaGreat
open Go.RowKit Lb
set_option maxRecDepth 20000

/-- Each row's Dot with x is nought. -/
def Nulls (a : List (List Int)) (n : Nat) (x : Nat → Int) : Prop := ∀ j, j < a.length → (sumN n fun t => x t * ent a j t) = 0
theorem zeros_turn (a : List (List Int)) (n : Nat) (x : Nat → Int) : Zeros (vturn a n) n a.length x ↔ Nulls a n x := by
  have e : ∀ j, (sumN n fun t => x t * ent (vturn a n) t j) = sumN n fun t => x t * ent a j t := fun j => sumN_congr fun t ht => by rw [ent_turn a ht]
  exact ⟨fun h j hj => (e j).symm.trans (h j hj), fun h j hj => (e j).trans (h j hj)⟩
theorem Nulls.inL {a : List (List Int)} {n : Nat} {x v : Nat → Int} (h : Nulls a n x) (hv : InL a v) : (sumN n fun t => x t * v t) = 0 := by
  obtain ⟨c, hc⟩ := hv
  rw [sumN_congr (g := fun t => sumN a.length fun i => c i * (x t * ent a i t)) fun t _ => by
    rw [hc t, ← sumN_mul]
    exact sumN_congr fun i _ => Int.mul_left_comm _ _ _, sumN_swap, ← sumN_nil0 a.length]
  exact sumN_congr fun i hi => by rw [sumN_mul, h i hi, Int.mul_zero]
theorem Nulls.comm {a : List (List Int)} {n : Nat} {x : Nat → Int} {j : Nat} (h : Nulls a n x) (hj : j < a.length) : (sumN n fun t => ent a j t * x t) = 0 := by
  rw [← h j hj]
  exact sumN_congr fun t _ => Int.mul_comm _ _
/-- The sums of K's rows are what each of a's rows turns to nought. -/
structure Ker (K a : List (List Int)) (n : Nat) : Prop where
  yes : ∀ x, InL K x → Nulls a n x
  all : ∀ x : Nat → Int, (∀ j, n ≤ j → x j = 0) → Nulls a n x → InL K x
  lens : ∀ i, (K.getD i []).length ≤ n
theorem IsKer.ker {K a : List (List Int)} {n : Nat} (h : IsKer K (vturn a n) n a.length) (hl : ∀ i, (K.getD i []).length ≤ n) : Ker K a n := ⟨fun x hx => (zeros_turn a n x).1 (h.yes x hx), fun x h0 hx => h.all x h0 ((zeros_turn a n x).2 hx), hl⟩
theorem Ker.same {K G a : List (List Int)} {n : Nat} (h : Ker K a n) (h' : Ker G a n) : SameL K G := fun v =>
  ⟨fun hv => h'.all v (inL_out h.lens hv) (h.yes v hv), fun hv => h.all v (inL_out h'.lens hv) (h'.yes v hv)⟩
/-- A kernel of rows of one lattice. -/
theorem Ker.of_same {K a b : List (List Int)} {n : Nat} (h : Ker K a n) (hs : SameL a b) : Ker K b n := by
  have e : ∀ {a b : List (List Int)}, SameL a b → ∀ x, Nulls a n x → Nulls b n x := fun hs x hx j _ => hx.inL (hs.symm.row j)
  exact ⟨fun x hx => e hs x (h.yes x hx), fun x h0 hx => h.all x h0 (e hs.symm x hx), h.lens⟩
/-- What stands across what stands across a kernel. -/
theorem Ker.twice {h g o c : List (List Int)} {n : Nat} (hh : Ker h c n) (hg : Ker g h n) (ho : Ker o g n) (hc : ∀ i j, n ≤ j → ent c i j = 0) : SameL o h := by
  have hcg : ∀ j, j < c.length → InL g fun t => ent c j t := fun j hj => hg.all _ (fun t ht => hc j t ht) fun i hi => by
    have h1 := (hh.yes _ (inL_row i)).comm hj
    exact h1
  refine fun x => ⟨fun hx => hh.all x (inL_out ho.lens hx) fun j hj => (ho.yes x hx).inL (hcg j hj), fun hx => ho.all x (inL_out hh.lens hx) fun i hi => ?_⟩
  have h1 := (hg.yes _ (inL_row i)).inL hx
  rw [← h1]
  exact sumN_congr fun t _ => Int.mul_comm _ _
theorem Ker.more {h m c : List (List Int)} {v : List Int} {n : Nat} (hh : Ker h c n) (hm : Ker m (c ++ [v]) n) {x : Nat → Int} (hx : InL m x) : InL h x := by
  refine hh.all x (inL_out hm.lens hx) fun j hj => ?_
  have h1 := hm.yes x hx j (by rw [List.length_append]; omega)
  rw [← h1]
  refine sumN_congr fun t _ => ?_
  unfold ent
  rw [getD_left hj]
/-- One row more: one rank more at the most. -/
theorem rank_more {c h g : List (List Int)} {v : List Int} {p q : Nat → Nat} (hs : SameL c h) (hg : EForm g q) (hs' : SameL (c ++ [v]) g) (_ : EForm h p) : g.length ≤ h.length + 1 := by
  refine hg.indep.le (H := fun i => if i < h.length then ent h i else fun j => v.getD j 0) fun i _ => ?_
  refine spans_inF (m := (c ++ [v]).length) (F := ent (c ++ [v])) (hs'.symm.row i) fun j hj => ?_
  rw [List.length_append, List.length_singleton] at hj
  by_cases e : j < c.length
  · obtain ⟨y, hy⟩ := hs.row j
    refine ⟨1, by decide, (inF_pad (G := ent h) (v := fun t => ent c j t) ⟨y, hy⟩ fun i hi t => by rw [if_pos hi]).eq fun t => ?_⟩
    show 1 * ent (c ++ [v]) j t = ent c j t
    unfold ent
    rw [getD_left e, Int.one_mul]
  · have e2 : j = c.length := by omega
    refine ⟨1, by decide, (inF_row (m := h.length + 1) (i := h.length) (by omega)).eq fun t => ?_⟩
    show 1 * ent (c ++ [v]) j t = (if h.length < h.length then ent h h.length else fun j => v.getD j 0) t
    rw [if_neg (Nat.lt_irrefl _), Int.one_mul, e2]
    unfold ent
    rw [getD_right (Nat.le_refl _), Nat.sub_self]
    rfl
theorem all_len_le {K : List (List Int)} {n : Nat} (h : ∀ s ∈ K, s.length = n) (i : Nat) : (K.getD i []).length ≤ n := by
  by_cases c : i < K.length
  · rw [show K.getD i [] = K[i] by simp [List.getD, c]]
    exact Nat.le_of_eq (h _ (List.getElem_mem c))
  · simp [List.getD, List.getElem?_eq_none (Nat.le_of_not_lt c)]
/-- The kernel that lies behind the pivots of the wide rows' form: as many rows as the rank leaves. -/
theorem WideL.ker {a W H r : List (List Int)} {n m : Nat} {p q : Nat → Nat} (h : WideL (vturn a n) W a.length n) (hf : HForm H p) (hs : SameL W H) (hm : m ≤ n) (hp : ∀ i, i < n → (i < m ↔ p i < a.length)) (hlen : ∀ i, i < n → (H.getD i []).length = a.length + n) (hz : ∀ i j, n ≤ j → ent a i j = 0) (hr : EForm r q) (hsr : SameL a r) :
    HForm ((H.drop m).map fun s => s.drop a.length) (fun i => p (i + m) - a.length) ∧ Ker ((H.drop m).map fun s => s.drop a.length) a n ∧ (∀ s ∈ (H.drop m).map fun s => s.drop a.length, s.length = n) ∧ r.length = m ∧ ((H.drop m).map fun s => s.drop a.length).length + r.length = n := by
  have hl := h.count hf hs
  obtain ⟨h1, h2⟩ := h.kernel hf hs hm hp
  have h3 : ∀ s ∈ (H.drop m).map fun s => s.drop a.length, s.length = n := by
    intro s hs
    obtain ⟨y, hy, rfl⟩ := List.mem_map.1 hs
    have := len_rows hl hlen y (List.mem_of_mem_drop hy)
    rw [List.length_drop, this]; omega
  obtain ⟨f1, f2, _⟩ := h.front hf hs (m := m) (by omega) (by rw [hl]; exact hp)
  have h4 := rank_turn hz hr hsr f1.eform f2
  rw [List.length_map, List.length_take, hl, Nat.min_eq_left hm] at h4
  refine ⟨h1, h2.ker (all_len_le h3), h3, h4.symm, ?_⟩
  rw [List.length_map, List.length_drop, hl]
  omega

#print axioms Ker.twice
#print axioms rank_more
#print axioms WideL.ker
end Go.Proofs.YtjebmlogchoehaaGreat
