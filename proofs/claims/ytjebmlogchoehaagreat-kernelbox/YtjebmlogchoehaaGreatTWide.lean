/-
  Plain mathematics of Turned: rows with the unit rows beside them, and what their form tells.
-/
import Derived.Test.YtjebmlogchoehaaGreatRHOwn
import Derived.Test.YtjebmlogchoehaaGreatHHnf
namespace Go.Proofs.YtjebmlogchoehaaGreat
open Go.RowKit Lb
set_option maxRecDepth 20000

theorem limbsA_le5 {t a : Nat} (ht : t ≤ 5) (ha : a ≤ 3) : limbsA t a ≤ 127 := by
  have h1 := limbsA_eq t a
  have h2 : 2 ^ t ≤ 2 ^ 5 := Nat.pow_le_pow_right (by omega) ht
  have h3 : 2 ^ t * (a + 1) ≤ 2 ^ 5 * 4 := Nat.mul_le_mul h2 (by omega)
  omega
theorem EForm.limbs5 {l h : List (List Int)} {p : Nat → Nat} (hf : EForm h p) (hs : SameL l h) (hm : l.length ≤ 5) (hA : ∀ i j, (ent l i j).natAbs < Bp 3) {k : Nat} (hk : k < h.length) (hl : LowAt h p k) (j : Nat) : (ent h k j).natAbs < Bp 255 := by
  have hp6 : 0 < Bp 3 := Bp_pos 3
  obtain ⟨B, hB⟩ : ∃ B, B + 1 = Bp 3 := ⟨Bp 3 - 1, by omega⟩
  have hlen := hf.len_rows hs
  have h1 := hf.bound hs (A := B) (fun i j => by have := hA i j; omega) hk hl j
  have h2 : bigA h.length B < Bp 127 := Nat.lt_of_lt_of_le (bigA_lt (a := 3) (by omega) h.length) (bp_le (limbsA_le5 (by omega) (Nat.le_refl _)))
  have h3 := bp_mul_lt h2 h2
  have h4 : h.length * (bigA h.length B * bigA h.length B) < Bp (127 + 127 + 1) := by
    rw [bp_add (127 + 127) 1, Nat.mul_comm]
    exact Nat.mul_lt_mul'' h3 (by have : Bp 1 = 4294967296 := by unfold Bp; decide
                                  omega)
  exact Nat.lt_of_le_of_lt h1 h4
/-- Five rows of three limbs. -/
theorem bounded_three {l : List (List Int)} (hm : l.length ≤ 5) (hA : ∀ i j, (ent l i j).natAbs < Bp 3) : Bounded l 255 := by
  intro i hi h p hf hs k hk hl j
  refine hf.limbs5 hs (by rw [List.length_take]; omega) (fun a b => ?_) hk hl j
  by_cases c : a < i
  · rw [ent_take c]; exact hA a b
  · rw [ent_out (by rw [List.length_take]; omega)]
    show (0 : Int).natAbs < Bp 3
    have : 0 < Bp 3 := Bp_pos 3
    simpa using this
theorem wide_aS {n : Nat} (hn : n ≤ 5) : ∀ d, d ≤ n → aS 255 n d ≤ 200000 := by
  have h : ∀ n, n < 6 → ∀ d, d < n + 1 → aS 255 n d ≤ 200000 := by decide
  intro d hd
  exact h n (by omega) d (by omega)
theorem wide_bS {n : Nat} (hn : n ≤ 5) : ∀ d, d ≤ n → bS 255 n d ≤ 200000 := by
  have h : ∀ n, n < 6 → ∀ d, d < n + 1 → bS 255 n d ≤ 200000 := by decide
  intro d hd
  exact h n (by omega) d (by omega)
/-- The first k places alone. -/
theorem InL.mask {l m : List (List Int)} {v : Nat → Int} {k : Nat} (h : InL l v) (hl : m.length = l.length) (he : ∀ i j, ent m i j = if j < k then ent l i j else 0) : InL m fun j => if j < k then v j else 0 := by
  obtain ⟨c, hc⟩ := h
  refine ⟨c, fun j => ?_⟩
  show (if j < k then v j else 0) = _
  rw [hl]
  by_cases hj : j < k
  · rw [if_pos hj, hc j]
    exact sumN_congr fun i _ => by rw [he, if_pos hj]
  · rw [if_neg hj, ← sumN_nil0 l.length]
    exact sumN_congr fun i _ => by rw [he, if_neg hj, Int.mul_zero]
/-- The places from k on. -/
theorem InL.shift {l m : List (List Int)} {v : Nat → Int} {k : Nat} (h : InL l v) (hl : m.length = l.length) (he : ∀ i j, ent m i j = ent l i (j + k)) : InL m fun j => v (j + k) := by
  obtain ⟨c, hc⟩ := h
  refine ⟨c, fun j => ?_⟩
  show v (j + k) = _
  rw [hl, hc (j + k)]
  exact sumN_congr fun i _ => by rw [he]
theorem SameL.mask {l h l' h' : List (List Int)} {k : Nat} (hs : SameL l h) (hl : l'.length = l.length) (hel : ∀ i j, ent l' i j = if j < k then ent l i j else 0) (hh : h'.length = h.length) (heh : ∀ i j, ent h' i j = if j < k then ent h i j else 0) : SameL l' h' := by
  refine sameL_of (fun i _ => ?_) (fun i _ => ?_)
  · exact ((hs.row i).mask hh heh).eq fun j => hel i j
  · exact ((hs.symm.row i).mask hl hel).eq fun j => heh i j
theorem SameL.shift {l h l' h' : List (List Int)} {k : Nat} (hs : SameL l h) (hl : l'.length = l.length) (hel : ∀ i j, ent l' i j = ent l i (j + k)) (hh : h'.length = h.length) (heh : ∀ i j, ent h' i j = ent h i (j + k)) : SameL l' h' := by
  refine sameL_of (fun i _ => ?_) (fun i _ => ?_)
  · exact ((hs.row i).shift hh heh).eq fun j => hel i j
  · exact ((hs.symm.row i).shift hl hel).eq fun j => heh i j
theorem ent_map_take {l : List (List Int)} {k : Nat} (i j : Nat) : ent (l.map fun r => r.take k) i j = if j < k then ent l i j else 0 := by
  unfold ent
  by_cases c : i < l.length
  · rw [show (l.map fun r => r.take k).getD i [] = (l.getD i []).take k by simp [List.getD, c]]
    split
    · next h => rw [List.getD_eq_getElem?_getD, List.getElem?_take_of_lt h, ← List.getD_eq_getElem?_getD]
    · next h => rw [List.getD_eq_getElem?_getD, List.getElem?_eq_none (by rw [List.length_take]; omega)]; rfl
  · rw [show (l.map fun r => r.take k).getD i [] = [] by simp [List.getD, List.getElem?_eq_none (Nat.le_of_not_lt c)], show l.getD i [] = [] by simp [List.getD, List.getElem?_eq_none (Nat.le_of_not_lt c)]]
    simp
theorem ent_map_drop {l : List (List Int)} {k : Nat} (i j : Nat) : ent (l.map fun r => r.drop k) i j = ent l i (j + k) := by
  unfold ent
  by_cases c : i < l.length
  · rw [show (l.map fun r => r.drop k).getD i [] = (l.getD i []).drop k by simp [List.getD, c]]
    rw [List.getD_eq_getElem?_getD, List.getElem?_drop, Nat.add_comm, ← List.getD_eq_getElem?_getD]
  · rw [show (l.map fun r => r.drop k).getD i [] = [] by simp [List.getD, List.getElem?_eq_none (Nat.le_of_not_lt c)], show l.getD i [] = [] by simp [List.getD, List.getElem?_eq_none (Nat.le_of_not_lt c)]]
    simp
/-- Rows whose places ahead of k are cs, and the unit rows from k on. -/
structure WideL (cs W : List (List Int)) (k n : Nat) : Prop where
  len : W.length = n
  clen : cs.length = n
  left : ∀ i j, i < n → j < k → ent W i j = ent cs i j
  right : ∀ i j, i < n → ent W i (j + k) = if j = i then 1 else 0
  lens : ∀ i, i < n → (cs.getD i []).length = k
/-- A row of the wide rows' lattice tells by its end how its beginning is made of the rows. -/
theorem WideL.made {cs W : List (List Int)} {k n : Nat} (h : WideL cs W k n) {v : Nat → Int} (hv : InL W v) {j : Nat} (hj : j < k) : v j = sumN n fun i => v (i + k) * ent cs i j := by
  obtain ⟨c, hc⟩ := hv
  have e : ∀ i, i < n → v (i + k) = c i := fun i hi => by
    rw [hc (i + k), h.len]
    rw [← sumN_single n i (c i) hi]
    exact sumN_congr fun t ht => by
      rw [h.right t i ht]
      by_cases q : t = i
      · subst q; rw [if_pos rfl, if_pos rfl, Int.mul_one]
      · rw [if_neg (Ne.symm q), if_neg q, Int.mul_zero]
  rw [hc j, h.len]
  exact sumN_congr fun i hi => by rw [e i hi, h.left i j hi hj]
/-- The wide rows' form has as many rows; the unit rows' lattice is that of its ends; the rows' is that of its beginnings. -/
theorem WideL.parts {cs W H : List (List Int)} {k n : Nat} (h : WideL cs W k n) (hs : SameL W H) : SameL cs (H.map fun r => r.take k) ∧ SameL (W.map fun r => r.drop k) (H.map fun r => r.drop k) := by
  constructor
  · refine hs.mask (k := k) (by rw [h.clen, h.len]) (fun i j => ?_) (by simp) (fun i j => ent_map_take i j)
    by_cases hi : i < n
    · split
      · next hj => exact (h.left i j hi hj).symm
      · next hj =>
        unfold ent
        rw [List.getD_eq_getElem?_getD, List.getElem?_eq_none (by rw [h.lens i hi]; omega)]
        rfl
    · rw [ent_out (by rw [h.clen]; omega), ent_out (by rw [h.len]; omega)]
      simp
  · exact hs.shift (k := k) (by simp) (fun i j => ent_map_drop i j) (by simp) (fun i j => ent_map_drop i j)
theorem WideL.units {cs W : List (List Int)} {k n : Nat} (h : WideL cs W k n) : SameL (unitL n) (W.map fun r => r.drop k) := by
  have e : ∀ i j, ent (W.map fun r => r.drop k) i j = ent (unitL n) i j := fun i j => by
    rw [ent_map_drop]
    by_cases hi : i < n
    · rw [h.right i j hi, ent_unit hi]
    · rw [ent_out (by rw [h.len]; omega), ent_out (by rw [unitL_len]; omega)]
  refine sameL_of (fun i _ => ?_) (fun i _ => ?_)
  · exact (inL_row (l := W.map fun r => r.drop k) i).eq fun j => (e i j).symm
  · exact (inL_row (l := unitL n) i).eq fun j => e i j
theorem WideL.count {cs W H : List (List Int)} {k n : Nat} {p : Nat → Nat} (h : WideL cs W k n) (hf : HForm H p) (hs : SameL W H) : H.length = n := by
  have h1 := hf.eform.len_rows hs
  have h2 := (unit_form n).eform.len_rows ((h.units.trans (h.parts hs).2).symm)
  rw [unitL_len, List.length_map] at h2
  rw [h.len] at h1
  omega

/-- Up to row m the pivots lie in the first k places, from it on behind them. -/
theorem front_rows {H : List (List Int)} {p : Nat → Nat} (hf : HForm H p) (k : Nat) : ∀ q, q ≤ H.length → ∃ m, m ≤ q ∧ ∀ i, i < q → (i < m ↔ p i < k)
  | 0, _ => ⟨0, Nat.le_refl _, fun i hi => absurd hi (by omega)⟩
  | q + 1, hq => by
    obtain ⟨m, hm, h⟩ := front_rows hf k q (by omega)
    by_cases c : p q < k
    · refine ⟨q + 1, Nat.le_refl _, fun i hi => ⟨fun _ => ?_, fun _ => hi⟩⟩
      by_cases e : i = q
      · rw [e]; exact c
      · have := hf.rise i q (by omega) (by omega)
        omega
    · refine ⟨m, by omega, fun i hi => ?_⟩
      by_cases e : i = q
      · subst e; constructor <;> intro h2 <;> omega
      · exact h i (by omega)
/-- The beginnings of the rows ahead of m are the rows' form. -/
theorem WideL.front {cs W H : List (List Int)} {k n m : Nat} {p : Nat → Nat} (h : WideL cs W k n) (hf : HForm H p) (hs : SameL W H) (hm : m ≤ H.length) (hp : ∀ i, i < H.length → (i < m ↔ p i < k)) : HForm ((H.take m).map fun r => r.take k) p ∧ SameL cs ((H.take m).map fun r => r.take k) ∧ ∀ i, m ≤ i → ∀ j, j < k → ent H i j = 0 := by
  have hz : ∀ i, m ≤ i → ∀ j, j < k → ent H i j = 0 := fun i hi j hj => by
    by_cases c : i < H.length
    · exact hf.ahead i c j (by have := (hp i c).2; omega)
    · exact ent_out (by omega)
  have hl : ((H.take m).map fun r => r.take k).length = m := by rw [List.length_map, take_len hm]
  have he : ∀ i j, i < m → ent ((H.take m).map fun r => r.take k) i j = if j < k then ent H i j else 0 := fun i j hi => by rw [ent_map_take, ent_take hi]
  refine ⟨⟨fun a b h1 h2 => hf.rise a b h1 (by omega), fun a ha j hj => ?_, fun a ha => ?_, fun a b h1 h2 => ?_⟩, ?_, hz⟩
  · rw [hl] at ha
    rw [he a j ha, hf.ahead a (by omega) j hj]
    split <;> rfl
  · rw [hl] at ha
    rw [he a _ ha, if_pos ((hp a (by omega)).1 ha)]
    exact hf.pos a (by omega)
  · rw [hl] at h2
    have h3 := (hp b (by omega)).1 h2
    rw [he a _ (by omega), he b _ h2, if_pos h3, if_pos h3]
    exact hf.low a b h1 (by omega)
  · refine (h.parts hs).1.trans ?_
    rw [List.map_take]
    refine sameL_take fun i h1 h2 j => ?_
    rw [ent_map_take]
    split
    · next hj => exact hz i h1 j hj
    · rfl
/-- The ends times the rows are the beginnings. -/
theorem WideL.times {cs W H : List (List Int)} {k n : Nat} (h : WideL cs W k n) (hs : SameL W H) (i : Nat) {j : Nat} (hj : j < k) : ent H i j = sumN n fun t => ent (H.map fun r => r.drop k) i t * ent cs t j := by
  rw [h.made (hs.symm.row i) hj]
  exact sumN_congr fun t _ => by rw [ent_map_drop]

#print axioms WideL.front
#print axioms WideL.times
#print axioms WideL.count
#print axioms bounded_three
#print axioms wide_bS
#print axioms WideL.made
#print axioms WideL.parts
end Go.Proofs.YtjebmlogchoehaaGreat
