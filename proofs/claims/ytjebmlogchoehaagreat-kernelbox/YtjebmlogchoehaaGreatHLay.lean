/-
  Plain mathematics of stage 10: a row laid into rows with rising pivots, and what each step of it keeps; how they are lowered from the last one on.
-/
import Derived.Test.YtjebmlogchoehaaGreatHBound
namespace Go.Proofs.YtjebmlogchoehaaGreat
open Go.RowKit Lb
set_option maxRecDepth 20000

/-- The place told of a row: its pivot, or -1 of nought. -/
def PivZ (v : List Int) (z : Int) : Prop := (z = -1 ∧ ∀ j, v.getD j 0 = 0) ∨ ∃ q : Nat, z = (q : Int) ∧ IsPivot v q
/-- The row in hand: nought, or with a number above 0 at its pivot. -/
def Hand (z : Int) (v : List Int) : Prop := (z = -1 ∧ ∀ j, v.getD j 0 = 0) ∨ ∃ q : Nat, z = (q : Int) ∧ (∀ j, j < q → v.getD j 0 = 0) ∧ 0 < v.getD q 0
/-- v, or its negative. -/
theorem normal_sign (v : List Int) : ∃ s : Int, (s = 1 ∨ s = -1) ∧ ∀ j, (vnormal v).getD j 0 = s * v.getD j 0 := by
  rcases normal_cases v with ⟨_, e⟩ | ⟨_, e⟩ | ⟨_, e⟩
  · exact ⟨-1, Or.inr rfl, fun j => by rw [e, vneg_at]; omega⟩
  · exact ⟨1, Or.inl rfl, fun j => by rw [e]; omega⟩
  · exact ⟨1, Or.inl rfl, fun j => by rw [e]; omega⟩
theorem hand_of {v : List Int} {z : Int} (h : PivZ v z) : Hand z (vnormal v) := by
  rcases h with ⟨e, h0⟩ | ⟨q, e, hq⟩
  · left
    obtain ⟨s, _, hs⟩ := normal_sign v
    exact ⟨e, fun j => by rw [hs, h0, Int.mul_zero]⟩
  · right
    refine ⟨q, e, fun j hj => ?_, ?_⟩
    · obtain ⟨s, _, hs⟩ := normal_sign v
      rw [hs, hq.1 j hj, Int.mul_zero]
    · rcases normal_cases v with ⟨t, e⟩ | ⟨t, e⟩ | ⟨t, e⟩
      · rw [e, vneg_at]
        obtain ⟨m, h1, h2⟩ := t
        have hnil : ∀ j, ([] : List Int).getD j 0 = 0 := fun j => by simp
        rw [hnil] at h2
        have hm : q = m := lead_one (v := fun j => v.getD j 0) hq.1 (fun j hj => by have := h1 j hj; rw [hnil] at this; exact this) hq.2 (by show v.getD m 0 ≠ 0; omega)
        subst hm; omega
      · exact absurd (t q) (by simpa using hq.2)
      · rw [e]
        obtain ⟨m, h1, h2⟩ := t
        have hnil : ∀ j, ([] : List Int).getD j 0 = 0 := fun j => by simp
        rw [hnil] at h2
        have hm : q = m := lead_one (v := fun j => v.getD j 0) hq.1 (fun j hj => by have := h1 j hj; rw [hnil] at this; exact this.symm) hq.2 (by show v.getD m 0 ≠ 0; omega)
        subst hm; omega
theorem Hand.neg {z : Int} {v : List Int} (h : Hand z v) (hz : z < 0) : ∀ j, v.getD j 0 = 0 := by
  rcases h with ⟨_, h⟩ | ⟨q, e, _⟩
  · exact h
  · omega
theorem Hand.nat {z : Int} {v : List Int} (h : Hand z v) (hz : ¬ z < 0) : ∃ q : Nat, z = (q : Int) ∧ (∀ j, j < q → v.getD j 0 = 0) ∧ 0 < v.getD q 0 := by
  rcases h with ⟨e, _⟩ | h
  · omega
  · exact h

theorem ent_snoc (h : List (List Int)) (v : List Int) (t j : Nat) : ent (h ++ [v]) t j = if t < h.length then ent h t j else if t = h.length then v.getD j 0 else 0 := by
  unfold ent
  by_cases c : t < h.length
  · rw [if_pos c]; simp [List.getD, List.getElem?_append_left c]
  · rw [if_neg c]
    by_cases d : t = h.length
    · subst d; rw [if_pos rfl]; simp [List.getD]
    · rw [if_neg d]
      have : (h ++ [v]).getD t [] = [] := by simp [List.getD, List.getElem?_eq_none (show (h ++ [v]).length ≤ t by simp; omega)]
      rw [this]; simp
theorem ent_at {h : List (List Int)} {v : List Int} (t j : Nat) (ht : t < h.length) : ent (h ++ [v]) t j = ent h t j := by rw [ent_snoc, if_pos ht]
theorem ent_last {h : List (List Int)} {v : List Int} (j : Nat) : ent (h ++ [v]) h.length j = v.getD j 0 := by rw [ent_snoc, if_neg (by omega), if_pos rfl]
theorem inL_left {h : List (List Int)} {v : List Int} {x : Nat → Int} (hx : InL h x) : InL (h ++ [v]) x := hx.trans fun i hi => (inL_row (l := h ++ [v]) i).eq fun j => (ent_at i j hi).symm
theorem inL_last (h : List (List Int)) (v : List Int) : InL (h ++ [v]) fun j => v.getD j 0 := (inL_row (l := h ++ [v]) h.length).eq fun j => (ent_last j).symm
theorem sameL_snoc {a b : List (List Int)} {v u : List Int} {s : Int} (h : SameL a b) (hs : s = 1 ∨ s = -1) (hd : InL b fun j => v.getD j 0 - s * u.getD j 0) : SameL (a ++ [v]) (b ++ [u]) := by
  have hss : s * s = 1 := by rcases hs with e | e <;> subst e <;> rfl
  refine sameL_of (fun t ht => ?_) (fun t ht => ?_)
  · rw [List.length_append, List.length_singleton] at ht
    by_cases c : t < a.length
    · exact (inL_left (h.row t)).eq fun j => ent_at t j c
    · obtain rfl : t = a.length := by omega
      refine ((inL_left hd).add ((inL_last b u).mul s)).eq fun j => ?_
      rw [ent_last]; omega
  · rw [List.length_append, List.length_singleton] at ht
    by_cases c : t < b.length
    · exact (inL_left (h.symm.row t)).eq fun j => ent_at t j c
    · obtain rfl : t = b.length := by omega
      have hd' : InL a fun j => v.getD j 0 - s * u.getD j 0 := (h _).2 hd
      refine ((inL_last a v).sub (inL_left hd')).mul s |>.eq fun j => ?_
      rw [ent_last]
      show u.getD j 0 = s * (v.getD j 0 - (v.getD j 0 - s * u.getD j 0))
      rw [Int.sub_sub_self, ← Int.mul_assoc, hss, Int.one_mul]
theorem sameL_nought {h : List (List Int)} {v : List Int} (hv : ∀ j, v.getD j 0 = 0) : SameL (h ++ [v]) h := by
  refine sameL_of (fun t ht => ?_) (fun t ht => ?_)
  · by_cases c : t < h.length
    · exact (inL_row (l := h) t).eq fun j => ent_at t j c
    · exact (inL_zero h).eq fun j => by
        rw [ent_snoc, if_neg c]
        by_cases d : t = h.length
        · rw [if_pos d, hv]
        · rw [if_neg d]
  · exact (inL_left (inL_row (l := h) t))
theorem inL_drop {h : List (List Int)} {k : Nat} {x : Nat → Int} (hx : InL (h.drop k) x) : InL h x := hx.trans fun i _ => (inL_row (l := h) (k + i)).eq fun j => by
  unfold ent
  rw [show (h.drop k).getD i [] = h.getD (k + i) [] by simp [List.getD]]
theorem ent_drop (h : List (List Int)) (k i j : Nat) : ent (h.drop k) i j = ent h (k + i) j := by
  unfold ent
  rw [show (h.drop k).getD i [] = h.getD (k + i) [] by simp [List.getD]]
theorem inL_drop_set {h : List (List Int)} {i : Nat} {r : List Int} {x : Nat → Int} (hx : InL (h.drop (i + 1)) x) : InL (h.set i r) x := by
  refine inL_drop (k := i + 1) ?_
  rw [List.drop_set_of_lt (by omega)]
  exact hx
/-- A vector of the rows behind is nought up to the pivot. -/
theorem EForm.ahead_drop {h : List (List Int)} {p : Nat → Nat} (hf : EForm h p) {i : Nat} (hi : i < h.length) {x : Nat → Int} (hx : InL (h.drop (i + 1)) x) {j : Nat} (hj : j ≤ p i) : x j = 0 := by
  obtain ⟨c, hc⟩ := hx
  rw [hc j, ← sumN_nil0 (h.drop (i + 1)).length]
  refine sumN_congr fun t ht => ?_
  rw [List.length_drop] at ht
  have := hf.rise i (i + 1 + t) (by omega) (by omega)
  rw [ent_drop, hf.ahead (i + 1 + t) (by omega) j (by omega), Int.mul_zero]
/-- .. and so is a vector of all of them ahead of the first pivot. -/
theorem EForm.drop {h : List (List Int)} {p : Nat → Nat} (hf : EForm h p) (k : Nat) : EForm (h.drop k) fun i => p (k + i) := by
  refine ⟨fun a b h1 h2 => ?_, fun a ha j hj => ?_, fun a ha => ?_⟩
  · rw [List.length_drop] at h2; exact hf.rise _ _ (by omega) (by omega)
  · rw [List.length_drop] at ha; rw [ent_drop]; exact hf.ahead _ (by omega) j hj
  · rw [List.length_drop] at ha; rw [ent_drop]; exact hf.pos _ (by omega)
theorem EForm.set {h : List (List Int)} {p : Nat → Nat} (hf : EForm h p) {i q : Nat} {v : List Int} (hi : i < h.length) (h1 : ∀ t, t < i → p t < q) (h2 : ∀ t, i < t → t < h.length → q < p t) (h0 : ∀ j, j < q → v.getD j 0 = 0) (hp : 0 < v.getD q 0) : EForm (h.set i v) fun t => if t = i then q else p t := by
  refine ⟨fun a b h3 h4 => ?_, fun a ha j hj => ?_, fun a ha => ?_⟩
  · rw [List.length_set] at h4
    by_cases c : a = i
    · subst c; rw [if_pos rfl, if_neg (by omega)]; exact h2 b h3 h4
    · rw [if_neg c]
      by_cases d : b = i
      · subst d; rw [if_pos rfl]; exact h1 a h3
      · rw [if_neg d]; exact hf.rise a b h3 h4
  · rw [List.length_set] at ha
    by_cases c : a = i
    · subst c; rw [if_pos rfl] at hj; rw [ent_same hi]; exact h0 j hj
    · rw [if_neg c] at hj; rw [ent_other hi c]; exact hf.ahead a ha j hj
  · rw [List.length_set] at ha
    by_cases c : a = i
    · subst c; rw [if_pos rfl, ent_same hi]; exact hp
    · rw [if_neg c, ent_other hi c]; exact hf.pos a ha
theorem EForm.congr {h : List (List Int)} {p q : Nat → Nat} (hf : EForm h p) (e : ∀ i, i < h.length → q i = p i) : EForm h q := by
  refine ⟨fun a b h1 h2 => ?_, fun a ha j hj => ?_, fun a ha => ?_⟩
  · rw [e a (by omega), e b h2]; exact hf.rise a b h1 h2
  · rw [e a ha] at hj; exact hf.ahead a ha j hj
  · rw [e a ha]; exact hf.pos a ha
theorem EForm.setSame {h : List (List Int)} {p : Nat → Nat} (hf : EForm h p) {i : Nat} {v : List Int} (hi : i < h.length) (h0 : ∀ j, j < p i → v.getD j 0 = 0) (hp : 0 < v.getD (p i) 0) : EForm (h.set i v) p :=
  (hf.set hi (fun t ht => hf.rise t i ht hi) (fun t h1 h2 => hf.rise i t h1 h2) h0 hp).congr fun t _ => by
    by_cases c : t = i
    · rw [if_pos c, c]
    · rw [if_neg c]
theorem eform_nil (p : Nat → Nat) : EForm [] p := ⟨fun _ _ _ h => by simp at h, fun _ h => by simp at h, fun _ h => by simp at h⟩

/-- How far a row has been laid: the places up to row i lie ahead of its pivot. -/
structure LState (l h : List (List Int)) (p : Nat → Nat) (z : Int) (v : List Int) (i : Nat) : Prop where
  form : EForm h p
  hand : Hand z v
  ahead : ∀ t, t < i → t < h.length → ¬ z < 0 → (p t : Int) < z
  same : SameL l (h ++ [v])
theorem LState.swap {l h : List (List Int)} {p : Nat → Nat} {z : Int} {v : List Int} {i : Nat} (hs : LState l h p z v i) (hi : i < h.length) {q : Nat} (hz : z = (q : Int)) (hlt : q < p i) : LState l (h.set i v) (fun t => if t = i then q else p t) (p i : Int) (h.getD i []) (i + 1) := by
  obtain ⟨q', e, h0, hp⟩ := hs.hand.nat (by omega)
  obtain rfl : q = q' := by omega
  have hf := hs.form
  have hnew := hf.set hi (fun t ht => by have := hs.ahead t ht (by omega) (by omega); omega) (fun t h1 h2 => by have := hf.rise i t h1 h2; omega) h0 hp
  refine ⟨hnew, Or.inr ⟨p i, rfl, hf.ahead i hi, hf.pos i hi⟩, fun t h1 h2 _ => ?_, hs.same.trans ?_⟩
  · rw [List.length_set] at h2
    by_cases c : t = i
    · subst c; rw [if_pos rfl]; omega
    · rw [if_neg c]; have := hf.rise t i (by omega) hi; omega
  · refine sameL_of (fun t ht => ?_) (fun t ht => ?_)
    · by_cases c : t < h.length
      · by_cases d : t = i
        · exact (inL_last (h.set i v) (h.getD i [])).eq fun j => by rw [ent_at t j c, d]; rfl
        · exact (inL_left (inL_row (l := h.set i v) t)).eq fun j => by rw [ent_at t j c, ent_other hi d]
      · rw [List.length_append, List.length_singleton] at ht
        obtain rfl : t = h.length := by omega
        exact (inL_left (inL_row (l := h.set i v) i)).eq fun j => by rw [ent_last, ent_same hi]
    · have hl : (h.set i v).length = h.length := List.length_set
      by_cases c : t < (h.set i v).length
      · by_cases d : t = i
        · exact (inL_last h v).eq fun j => by rw [ent_at t j c, d, ent_same hi]
        · exact (inL_left (inL_row (l := h) t)).eq fun j => by rw [ent_at t j c, ent_other hi d]
      · rw [List.length_append, List.length_singleton] at ht
        obtain rfl : t = (h.set i v).length := by omega
        exact (inL_left (inL_row (l := h) i)).eq fun j => by rw [ent_last]; rfl
theorem LState.pass {l h : List (List Int)} {p : Nat → Nat} {z : Int} {v : List Int} {i : Nat} (hs : LState l h p z v i) (hlt : (p i : Int) < z) : LState l h p z v (i + 1) := by
  refine ⟨hs.form, hs.hand, fun t h1 h2 h3 => ?_, hs.same⟩
  by_cases c : t = i
  · subst c; exact hlt
  · exact hs.ahead t (by omega) h2 h3
/-- Two rows with one pivot, joined: a and b come of the two in whole numbers too. -/
structure Joined (a b : List Int) (q : Nat) (first rest : List Int) : Prop where
  zero1 : ∀ j, j < q → first.getD j 0 = 0
  pos : 0 < first.getD q 0
  zero2 : ∀ j, j ≤ q → rest.getD j 0 = 0
  nums : ∃ x y s t : Int, (∀ j, first.getD j 0 = x * a.getD j 0 + y * b.getD j 0) ∧ (∀ j, rest.getD j 0 = -t * a.getD j 0 + s * b.getD j 0) ∧ (∀ j, a.getD j 0 = s * first.getD j 0 - y * rest.getD j 0) ∧ ∀ j, b.getD j 0 = t * first.getD j 0 + x * rest.getD j 0
theorem joined_of {a b first rest : List Int} {q : Nat} {g x y s t : Int} (ha : ∀ j, j < q → a.getD j 0 = 0) (hb : ∀ j, j < q → b.getD j 0 = 0) (hg : 0 < g) (hs : a.getD q 0 = s * g) (ht : b.getD q 0 = t * g) (hxy : a.getD q 0 * x + b.getD q 0 * y = g) (h1 : ∀ j, first.getD j 0 = x * a.getD j 0 + y * b.getD j 0) (h2 : ∀ j, rest.getD j 0 = -t * a.getD j 0 + s * b.getD j 0) : Joined a b q first rest := by
  have hone : x * s + y * t = 1 := by
    have e : g * (x * s + y * t) = g * 1 := by
      rw [Int.mul_one, Int.mul_add, ← Int.mul_assoc, ← Int.mul_assoc, Int.mul_comm g x, Int.mul_comm g y, Int.mul_assoc, Int.mul_assoc, Int.mul_comm g s, Int.mul_comm g t, ← hs, ← ht, Int.mul_comm x, Int.mul_comm y]
      exact hxy
    exact Int.eq_of_mul_eq_mul_left (by omega) e
  refine ⟨fun j hj => by rw [h1, ha j hj, hb j hj, Int.mul_zero, Int.mul_zero]; rfl, ?_, fun j hj => ?_, x, y, s, t, h1, h2, fun j => ?_, fun j => ?_⟩
  · rw [h1, Int.mul_comm x, Int.mul_comm y, hxy]; exact hg
  · rw [h2]
    by_cases c : j = q
    · subst c
      rw [hs, ht, Int.neg_mul, ← Int.mul_assoc, ← Int.mul_assoc, Int.mul_comm t s]; omega
    · rw [ha j (by omega), hb j (by omega), Int.mul_zero, Int.mul_zero]; rfl
  · rw [h1, h2]
    generalize a.getD j 0 = A
    generalize b.getD j 0 = B
    have e1 : s * (x * A + y * B) = s * x * A + s * y * B := by rw [Int.mul_add, Int.mul_assoc, Int.mul_assoc]
    have e2 : y * (-t * A + s * B) = -(y * t * A) + s * y * B := by rw [Int.mul_add, Int.neg_mul, Int.mul_neg, Int.mul_assoc, ← Int.mul_assoc y s, Int.mul_comm y s]
    have e3 : (x * s + y * t) * A = x * s * A + y * t * A := Int.add_mul _ _ _
    rw [hone, Int.one_mul] at e3
    rw [e1, e2, Int.mul_comm s x]; omega
  · rw [h1, h2]
    generalize a.getD j 0 = A
    generalize b.getD j 0 = B
    have e1 : t * (x * A + y * B) = t * x * A + y * t * B := by rw [Int.mul_add, Int.mul_assoc, ← Int.mul_assoc t y, Int.mul_comm t y]
    have e2 : x * (-t * A + s * B) = -(t * x * A) + x * s * B := by rw [Int.mul_add, Int.neg_mul, Int.mul_neg, ← Int.mul_assoc x t, Int.mul_comm x t, Int.mul_assoc x s]
    have e3 : (x * s + y * t) * B = x * s * B + y * t * B := Int.add_mul _ _ _
    rw [hone, Int.one_mul] at e3
    rw [e1, e2]; omega
theorem LState.join {l h : List (List Int)} {p : Nat → Nat} {z : Int} {v : List Int} {i : Nat} (hs : LState l h p z v i) (hi : i < h.length) (hz : z = (p i : Int)) {first rest low : List Int} (hj : Joined (h.getD i []) v (p i) first rest) (hl : InL (h.drop (i + 1)) fun j => rest.getD j 0 - low.getD j 0) {z' : Int} (hpz : PivZ low z') : LState l (h.set i first) p z' (vnormal low) (i + 1) := by
  have hf := hs.form
  obtain ⟨s, hsg, hn⟩ := normal_sign low
  have hss : s * s = 1 := by rcases hsg with e | e <;> subst e <;> rfl
  have hlow : ∀ j, j ≤ p i → low.getD j 0 = 0 := fun j hj' => by
    have h1 := hf.ahead_drop hi hl hj'
    have h2 := hj.zero2 j hj'
    have h1' : rest.getD j 0 - low.getD j 0 = 0 := h1
    omega
  have hnew := hf.setSame hi hj.zero1 hj.pos
  refine ⟨hnew, hand_of hpz, fun t h1 h2 h3 => ?_, hs.same.trans ?_⟩
  · rw [List.length_set] at h2
    rcases hpz with ⟨e, _⟩ | ⟨q, e, hq⟩
    · omega
    · have : p i < q := by
        rcases Nat.lt_or_ge (p i) q with c | c
        · exact c
        · exact absurd (hlow q c) hq.2
      by_cases c : t = i
      · subst c; omega
      · have := hf.rise t i (by omega) hi; omega
  · obtain ⟨x, y, sa, tb, e1, e2, e3, e4⟩ := hj.nums
    -- what is left of rest is in the new rows
    have hrest : InL (h.set i first ++ [vnormal low]) fun j => rest.getD j 0 := by
      refine ((inL_left (inL_drop_set hl)).add ((inL_last (h.set i first) (vnormal low)).mul s)).eq fun j => ?_
      show rest.getD j 0 = rest.getD j 0 - low.getD j 0 + s * (vnormal low).getD j 0
      rw [hn, ← Int.mul_assoc, hss, Int.one_mul]; omega
    have hfirst : InL (h.set i first ++ [vnormal low]) fun j => first.getD j 0 := (inL_left (inL_row (l := h.set i first) i)).eq fun j => (ent_same hi j).symm
    refine sameL_of (fun t ht => ?_) (fun t ht => ?_)
    · by_cases c : t < h.length
      · by_cases d : t = i
        · exact ((hfirst.mul sa).sub (hrest.mul y)).eq fun j => by rw [ent_at t j c, d]; exact e3 j
        · exact (inL_left (inL_row (l := h.set i first) t)).eq fun j => by rw [ent_at t j c, ent_other hi d]
      · rw [List.length_append, List.length_singleton] at ht
        obtain rfl : t = h.length := by omega
        exact ((hfirst.mul tb).add (hrest.mul x)).eq fun j => by rw [ent_last]; exact e4 j
    · have hl' : (h.set i first).length = h.length := List.length_set
      have ha : InL (h ++ [v]) fun j => (h.getD i []).getD j 0 := (inL_left (inL_row (l := h) i)).eq fun j => rfl
      have hb : InL (h ++ [v]) fun j => v.getD j 0 := inL_last h v
      have hr : InL (h ++ [v]) fun j => rest.getD j 0 := ((ha.mul (-tb)).add (hb.mul sa)).eq e2
      by_cases c : t < (h.set i first).length
      · by_cases d : t = i
        · exact ((ha.mul x).add (hb.mul y)).eq fun j => by rw [ent_at t j c, d, ent_same hi]; exact e1 j
        · exact (inL_left (inL_row (l := h) t)).eq fun j => by rw [ent_at t j c, ent_other hi d]
      · rw [List.length_append, List.length_singleton] at ht
        obtain rfl : t = (h.set i first).length := by omega
        exact ((hr.sub (inL_left (inL_drop hl))).mul s).eq fun j => by
          rw [ent_last, hn]
          show s * low.getD j 0 = s * (rest.getD j 0 - (rest.getD j 0 - low.getD j 0))
          rw [Int.sub_sub_self]
theorem LState.start {l h : List (List Int)} {p : Nat → Nat} {v low : List Int} {z : Int} (hf : EForm h p) (hs : SameL l h) (hl : InL h fun j => v.getD j 0 - low.getD j 0) (hpz : PivZ low z) : LState (l ++ [v]) h p z (vnormal low) 0 := by
  obtain ⟨s, hsg, hn⟩ := normal_sign low
  have hss : s * s = 1 := by rcases hsg with e | e <;> subst e <;> rfl
  refine ⟨hf, hand_of hpz, fun t h1 => absurd h1 (by omega), sameL_snoc hs hsg (hl.eq fun j => ?_)⟩
  rw [hn, ← Int.mul_assoc, hss, Int.one_mul]
theorem LState.none {l h : List (List Int)} {p : Nat → Nat} {z : Int} {v : List Int} {i : Nat} (hs : LState l h p z v i) (hz : z < 0) : SameL l h := hs.same.trans (sameL_nought (hs.hand.neg hz))
theorem LState.snoc {l h : List (List Int)} {p : Nat → Nat} {v : List Int} {q : Nat} (hs : LState l h p (q : Int) v h.length) : EForm (h ++ [v]) fun t => if t = h.length then q else p t := by
  obtain ⟨q', e, h0, hp⟩ := hs.hand.nat (by omega)
  obtain rfl : q = q' := by omega
  have hf := hs.form
  refine ⟨fun a b h3 h4 => ?_, fun a ha j hj => ?_, fun a ha => ?_⟩
  · rw [List.length_append, List.length_singleton] at h4
    rw [if_neg (by omega)]
    by_cases d : b = h.length
    · rw [if_pos d]; have := hs.ahead a (by omega) (by omega) (by omega); omega
    · rw [if_neg d]; exact hf.rise a b h3 (by omega)
  · rw [List.length_append, List.length_singleton] at ha
    by_cases c : a = h.length
    · subst c; rw [if_pos rfl] at hj; rw [ent_last]; exact h0 j hj
    · rw [if_neg c] at hj; rw [ent_at a j (by omega)]; exact hf.ahead a (by omega) j hj
  · rw [List.length_append, List.length_singleton] at ha
    by_cases c : a = h.length
    · subst c; rw [if_pos rfl, ent_last]; exact hp
    · rw [if_neg c, ent_at a _ (by omega)]; exact hf.pos a (by omega)

/-- Rows with rising pivots, lowered from number i on. -/
structure DState (h : List (List Int)) (p : Nat → Nat) (i : Nat) : Prop where
  form : EForm h p
  low : ∀ k, i ≤ k → k < h.length → LowAt h p k
theorem DState.step {h : List (List Int)} {p : Nat → Nat} {i : Nat} (hs : DState h p (i + 1)) (hi : i < h.length) {low : List Int} (hl : InL (h.drop (i + 1)) fun j => ent h i j - low.getD j 0) (hb : ∀ t, t < h.length - (i + 1) → 0 ≤ low.getD (p (i + 1 + t)) 0 ∧ low.getD (p (i + 1 + t)) 0 < ent (h.drop (i + 1)) t (p (i + 1 + t))) : DState (h.set i low) p i ∧ SameL h (h.set i low) := by
  have hf := hs.form
  have heq : ∀ j, j ≤ p i → low.getD j 0 = ent h i j := fun j hj => by
    have h1 : ent h i j - low.getD j 0 = 0 := hf.ahead_drop hi hl hj
    omega
  refine ⟨⟨hf.setSame hi (fun j hj => by rw [heq j (by omega)]; exact hf.ahead i hi j hj) (by rw [heq _ (Nat.le_refl _)]; exact hf.pos i hi), fun k h1 h2 => ?_⟩, ?_⟩
  · rw [List.length_set] at h2
    intro m h3 h4
    rw [List.length_set] at h4
    by_cases c : k = i
    · subst c
      obtain ⟨t, rfl⟩ : ∃ t, m = k + 1 + t := ⟨m - (k + 1), by omega⟩
      have := hb t (by omega)
      rw [ent_drop] at this
      rw [ent_same hi, ent_other hi (by omega)]
      exact this
    · rw [ent_other hi c, ent_other hi (by omega)]
      exact hs.low k (by omega) h2 m h3 h4
  · refine sameL_of (fun t ht => ?_) (fun t ht => ?_)
    · by_cases c : t = i
      · subst c
        exact ((inL_drop_set hl).add (inL_row (l := h.set t low) t)).eq fun j => by rw [ent_same hi]; omega
      · exact (inL_row (l := h.set i low) t).eq fun j => (ent_other hi c j).symm
    · by_cases c : t = i
      · subst c
        exact ((inL_row (l := h) t).sub (inL_drop hl)).eq fun j => by rw [ent_same hi]; omega
      · exact (inL_row (l := h) t).eq fun j => ent_other hi c j
theorem DState.start {h : List (List Int)} {p : Nat → Nat} (hf : EForm h p) : DState h p h.length := ⟨hf, fun k h1 h2 => absurd h1 (by omega)⟩
theorem DState.done {h : List (List Int)} {p : Nat → Nat} (hs : DState h p 0) : HForm h p := hs.form.form fun i hi => hs.low i (Nat.zero_le _) hi

/-- Whoever is lowered in rows of one of these lattices is below this many limbs. -/
def Bounded (l : List (List Int)) (B : Nat) : Prop := ∀ i, i ≤ l.length → ∀ h p, EForm h p → SameL (l.take i) h → ∀ k, k < h.length → LowAt h p k → ∀ j, (ent h k j).natAbs < Bp B
theorem bounded_six {l : List (List Int)} (hm : l.length ≤ 7) (hA : ∀ i j, (ent l i j).natAbs < Bp 6) : Bounded l 1791 := by
  intro i hi h p hf hs k hk hl j
  refine hf.limbs hs (by rw [List.length_take]; omega) (fun a b => ?_) hk hl j
  by_cases c : a < i
  · rw [ent_take c]; exact hA a b
  · rw [ent_out (by rw [List.length_take]; omega)]
    show (0 : Int).natAbs < Bp 6
    have : 0 < Bp 6 := Bp_pos 6
    simpa using this
theorem HForm.same_low {l h : List (List Int)} {p q : Nat → Nat} (hg : HForm l q) (hf : EForm h p) (hs : SameL l h) : ∀ i, i < h.length → i < l.length ∧ p i = q i := by
  have lead1 : ∀ i, i < h.length → ∃ k x, k < l.length ∧ p i = q k ∧ ent h i (p i) = x * ent l k (q k) := by
    intro i hi
    have hpos := hf.pos i hi
    obtain ⟨k, x, hk, hz, he, hne⟩ := hg.lead (hs.symm.row i) (fun e => by have := e (p i); omega)
    have hpq : p i = q k := lead_one (v := fun j => ent h i j) (hf.ahead i hi) hz (by show ent h i (p i) ≠ 0; omega) hne
    exact ⟨k, x, hk, hpq, by rw [hpq]; exact he⟩
  have lead2 : ∀ i, i < l.length → ∃ k x, k < h.length ∧ q i = p k ∧ ent l i (q i) = x * ent h k (p k) := by
    intro i hi
    have hpos := hg.pos i hi
    obtain ⟨k, x, hk, hz, he, hne⟩ := hf.lead (hs.row i) (fun e => by have := e (q i); omega)
    have hpq : q i = p k := lead_one (v := fun j => ent l i j) (hg.ahead i hi) hz (by show ent l i (q i) ≠ 0; omega) hne
    exact ⟨k, x, hk, hpq, by rw [hpq]; exact he⟩
  intro i
  induction i using Nat.strongRecOn with
  | _ i ih =>
    intro hi
    obtain ⟨k, _, hk, hpq, _⟩ := lead1 i hi
    have hki : i ≤ k := by
      rcases Nat.lt_or_ge k i with c | c
      · have h1 := ih k c (by omega)
        have h2 := hf.rise k i c hi
        omega
      · exact c
    have hig : i < l.length := by omega
    refine ⟨hig, ?_⟩
    obtain ⟨t, _, ht, hqp, _⟩ := lead2 i hig
    have hti : i ≤ t := by
      rcases Nat.lt_or_ge t i with c | c
      · have h1 := ih t c (by omega)
        have h2 := hg.rise t i c hig
        omega
      · exact c
    have h1 : q i ≤ q k := by
      by_cases e : i = k
      · subst e; exact Nat.le_refl _
      · exact Nat.le_of_lt (hg.rise i k (by omega) hk)
    have h2 : p i ≤ p t := by
      by_cases e : i = t
      · subst e; exact Nat.le_refl _
      · exact Nat.le_of_lt (hf.rise i t (by omega) ht)
    omega
/-- Of rows in the form: whoever is lowered is the row itself. -/
theorem HForm.low_eq {l h : List (List Int)} {p q : Nat → Nat} (hg : HForm l q) (hf : EForm h p) (hs : SameL l h) {k : Nat} (hk : k < h.length) (hl : LowAt h p k) (j : Nat) : ent h k j = ent l k j := by
  have hpq := hg.same_low hf hs
  have hlen : l.length ≤ h.length := by
    rcases Nat.lt_or_ge h.length l.length with c | c
    · exfalso
      have hpos := hg.pos h.length c
      obtain ⟨t, x, ht, hz, he, hne⟩ := hf.lead (hs.row h.length) (fun e => by have := e (q h.length); omega)
      have : q h.length = p t := lead_one (v := fun j => ent l h.length j) (hg.ahead _ c) hz (by show ent l h.length (q h.length) ≠ 0; omega) hne
      have h2 := hg.rise t h.length ht c
      have h3 := (hpq t ht).2
      omega
    · exact c
  have piv : ∀ t, t < h.length → ent h t (p t) = ent l t (q t) := by
    intro t ht
    have e := (hpq t ht).2
    have htl := (hpq t ht).1
    obtain ⟨a, x, ha, hz, he, hne⟩ := hg.lead (hs.symm.row t) (fun e => by have := e (p t); have := hf.pos t ht; omega)
    have h1 : p t = q a := lead_one (v := fun j => ent h t j) (hf.ahead t ht) hz (by show ent h t (p t) ≠ 0; have := hf.pos t ht; omega) hne
    have hat : a = t := by
      rcases Nat.lt_trichotomy a t with c | c | c
      · have := hg.rise a t c htl; omega
      · exact c
      · have := hg.rise t a c ha; omega
    obtain ⟨b, y, hb, hz', he', hne'⟩ := hf.lead (hs.row t) (fun e => by have := e (q t); have := hg.pos t htl; omega)
    have h2 : q t = p b := lead_one (v := fun j => ent l t j) (hg.ahead t htl) hz' (by show ent l t (q t) ≠ 0; have := hg.pos t htl; omega) hne'
    have hbt : b = t := by
      rcases Nat.lt_trichotomy b t with c | c | c
      · have := hf.rise b t c ht; omega
      · exact c
      · have := hf.rise t b c hb; omega
    subst hat
    rw [hbt] at he' h2
    have p1 := hf.pos a ht
    have p2 := hg.pos a htl
    rw [e] at p1 ⊢
    rw [← h2] at he'
    exact mul_pos_one p1 p2 he he'
  by_cases hall : ∀ t, ent h k t - ent l k t = 0
  · have := hall j; omega
  · exfalso
    have hkl := (hpq k hk).1
    have hin : InL l fun t => ent h k t - ent l k t := (hs.symm.row k).sub (inL_row (l := l) k)
    obtain ⟨t, x, ht, hz, he, hne⟩ := hg.lead hin hall
    rcases Nat.lt_trichotomy t k with c | c | c
    · have h1 := hg.ahead k hkl (q t) (hg.rise t k c hkl)
      have h2 := hf.ahead k hk (q t) (by rw [(hpq k hk).2]; exact hg.rise t k c hkl)
      apply hne
      show ent h k (q t) - ent l k (q t) = 0
      omega
    · subst c
      have h1 := piv t hk
      have h2 := (hpq t hk).2
      apply hne
      show ent h t (q t) - ent l t (q t) = 0
      rw [← h1, h2]; omega
    · have hth : t < h.length := by omega
      have h1 := hl t c hth
      have h2 := hg.low k t c ht
      have h3 := piv t hth
      have h4 := (hpq t hth).2
      rw [h4] at h1 h3
      rw [h3] at h1
      exact hne (div_small (hg.pos t ht) he (by show -ent l t (q t) < ent h k (q t) - ent l k (q t); omega) (by show ent h k (q t) - ent l k (q t) < ent l t (q t); omega))
theorem bounded_form {l : List (List Int)} {q : Nat → Nat} {B : Nat} (hg : HForm l q) (hA : ∀ i j, (ent l i j).natAbs < Bp B) : Bounded l B := by
  intro i hi h p hf hs k hk hl j
  rw [(hg.take i).low_eq hf hs hk hl j]
  by_cases c : k < i
  · rw [ent_take c]; exact hA k j
  · rw [ent_out (by rw [List.length_take]; omega)]
    have : 0 < Bp B := Bp_pos B
    simpa using this

#print axioms LState.join
#print axioms DState.step
#print axioms bounded_six
#print axioms bounded_form
end Go.Proofs.YtjebmlogchoehaaGreat
