/-
  Plain mathematics: what turns rows to nought: its form lies behind the pivots of the wide rows' form; rows and the rows turned have forms of as many rows.
-/
import Derived.Test.YtjebmlogchoehaaGreatHFew
import Derived.Test.YtjebmlogchoehaaGreatTWide
import Derived.Test.YtjebmlogchoehaaGreatJH
namespace Go.Proofs.YtjebmlogchoehaaGreat
open Go.RowKit Lb
set_option maxRecDepth 20000

theorem sumN_split (m d : Nat) (f : Nat → Int) : sumN (m + d) f = sumN m f + sumN d fun i => f (i + m) := by
  induction d with
  | zero => simp [sumN]
  | succ d ih =>
    rw [← Nat.add_assoc, sumN, ih, sumN, Nat.add_comm d m]
    omega
/-- x times the rows (n of them) is nought at each of the first k places. -/
def Zeros (cs : List (List Int)) (n k : Nat) (x : Nat → Int) : Prop := ∀ j, j < k → (sumN n fun t => x t * ent cs t j) = 0
/-- The sums of K's rows are what turns the rows to nought. -/
structure IsKer (K cs : List (List Int)) (n k : Nat) : Prop where
  yes : ∀ x, InL K x → Zeros cs n k x
  all : ∀ x : Nat → Int, (∀ j, n ≤ j → x j = 0) → Zeros cs n k x → InL K x
theorem inL_out {K : List (List Int)} {n : Nat} (hl : ∀ i, (K.getD i []).length ≤ n) {x : Nat → Int} (hx : InL K x) : ∀ j, n ≤ j → x j = 0 := fun j hj => by
  obtain ⟨c, hc⟩ := hx
  rw [hc j, ← sumN_nil0 K.length]
  refine sumN_congr fun i _ => ?_
  unfold ent
  rw [getD_out (by have := hl i; omega), Int.mul_zero]
theorem IsKer.same {K G cs : List (List Int)} {n k : Nat} (h : IsKer K cs n k) (h' : IsKer G cs n k) (hl : ∀ i, (K.getD i []).length ≤ n) (hl' : ∀ i, (G.getD i []).length ≤ n) : SameL K G := fun v =>
  ⟨fun hv => h'.all v (inL_out hl hv) (h.yes v hv), fun hv => h.all v (inL_out hl' hv) (h'.yes v hv)⟩
/-- Rows that turn to nought the same. -/
theorem IsKer.of_zeros {K cs ds : List (List Int)} {n k k' : Nat} (h : IsKer K cs n k) (e : ∀ x, Zeros cs n k x ↔ Zeros ds n k' x) : IsKer K ds n k' :=
  ⟨fun x hx => (e x).1 (h.yes x hx), fun x h0 hx => h.all x h0 ((e x).2 hx)⟩
theorem kernel_ent (H : List (List Int)) (m k i j : Nat) : ent ((H.drop m).map fun r => r.drop k) i j = ent H (i + m) (j + k) := by rw [ent_map_drop, ent_drop, Nat.add_comm m i]
theorem WideL.kernel {cs W H : List (List Int)} {k n m : Nat} {p : Nat → Nat} (h : WideL cs W k n) (hf : HForm H p) (hs : SameL W H) (hm : m ≤ n) (hp : ∀ i, i < n → (i < m ↔ p i < k)) : HForm ((H.drop m).map fun r => r.drop k) (fun i => p (i + m) - k) ∧ IsKer ((H.drop m).map fun r => r.drop k) cs n k := by
  have hl := h.count hf hs
  have hKl : ((H.drop m).map fun r => r.drop k).length = n - m := by rw [List.length_map, List.length_drop, hl]
  have hpk : ∀ i, i + m < n → k ≤ p (i + m) := fun i hi => by
    have := hp (i + m) hi
    omega
  refine ⟨⟨fun a b h1 h2 => ?_, fun a ha j hj => ?_, fun a ha => ?_, fun a b h1 h2 => ?_⟩, fun x hx j hj => ?_, fun x hx0 hx => ?_⟩
  · rw [hKl] at h2
    have h3 := hf.rise (a + m) (b + m) (by omega) (by omega)
    have h4 := hpk a (by omega)
    show p (a + m) - k < p (b + m) - k
    omega
  · rw [hKl] at ha
    rw [kernel_ent]
    exact hf.ahead (a + m) (by omega) (j + k) (by omega)
  · rw [hKl] at ha
    rw [kernel_ent, Nat.sub_add_cancel (hpk a (by omega))]
    exact hf.pos (a + m) (by omega)
  · rw [hKl] at h2
    rw [kernel_ent, kernel_ent, Nat.sub_add_cancel (hpk b (by omega))]
    exact hf.low (a + m) (b + m) (by omega) (by omega)
  · obtain ⟨c, hc⟩ := hx
    rw [hKl] at hc
    rw [sumN_congr (g := fun t => sumN (n - m) fun i => c i * (ent (H.map fun r => r.drop k) (i + m) t * ent cs t j)) fun t _ => by
      rw [hc t, ← sumN_mul_right]
      exact sumN_congr fun i _ => by rw [kernel_ent, ent_map_drop, Int.mul_assoc], sumN_swap, ← sumN_nil0 (n - m)]
    refine sumN_congr fun i hi => ?_
    rw [sumN_mul, ← h.times hs (i + m) hj, hf.ahead (i + m) (by omega) j (by have := hpk i (by omega); omega), Int.mul_zero]
  · have hv : InL W fun j => sumN n fun t => x t * ent W t j := ⟨x, fun j => by rw [h.len]⟩
    obtain ⟨c, hc0⟩ := (hs _).1 hv
    have hc : ∀ j, (sumN n fun t => x t * ent W t j) = sumN n fun i => c i * ent H i j := fun j => by
      have := hc0 j
      rw [hl] at this
      exact this
    have hz : ∀ i, i < m → c i = 0 := fun i => by
      induction i using Nat.strongRecOn with
      | ind i ih =>
        intro hi
        have hpi := (hp i (by omega)).1 hi
        have h1 := hc (p i)
        rw [sumN_congr (g := fun t => x t * ent cs t (p i)) fun t ht => by rw [h.left t (p i) ht hpi], hx (p i) hpi, sumN_first (n := n) (i := i) (f := fun t => c t * ent H t (p i)) (by omega) (fun t ht => by rw [ih t ht (by omega), Int.zero_mul]) (fun t h2 h3 => by rw [hf.ahead t (by omega) (p i) (hf.rise i t h2 (by omega)), Int.mul_zero])] at h1
        have h2 := hf.pos i (by omega)
        rcases Int.mul_eq_zero.1 h1.symm with e | e
        · exact e
        · omega
    refine ⟨fun i => c (i + m), fun j => ?_⟩
    rw [hKl]
    have h1 := hc (j + k)
    have h2 : (sumN n fun t => x t * ent W t (j + k)) = x j := by
      rw [sumN_congr (g := fun t => if t = j then x j else 0) fun t ht => by
        rw [h.right t j ht]
        by_cases e : t = j
        · subst e; rw [if_pos rfl, if_pos rfl, Int.mul_one]
        · rw [if_neg (fun q => e q.symm), if_neg e, Int.mul_zero]]
      by_cases hj : j < n
      · exact sumN_single n j (x j) hj
      · rw [sumN_congr (g := fun _ => 0) fun t ht => by rw [if_neg (by omega)], sumN_nil0, hx0 j (by omega)]
    rw [h2] at h1
    rw [h1]
    have h3 := sumN_split m (n - m) (fun i => c i * ent H i (j + k))
    rw [show m + (n - m) = n by omega] at h3
    rw [h3, sumN_congr (n := m) (g := fun _ => 0) fun i hi => by rw [hz i hi, Int.zero_mul], sumN_nil0, Int.zero_add]
    exact sumN_congr fun i _ => by rw [kernel_ent]
theorem EForm.indep {h : List (List Int)} {p : Nat → Nat} (hf : EForm h p) : Indep h.length (ent h) := fun c hc i => by
  induction i using Nat.strongRecOn with
  | ind i ih =>
    intro hi
    have h1 := hc (p i)
    rw [sumN_first (n := h.length) (i := i) (f := fun a => c a * ent h a (p i)) hi (fun t ht => by rw [ih t ht (by omega), Int.zero_mul]) (fun t h2 h3 => by rw [hf.pivot_zero h2 h3, Int.mul_zero]), Int.mul_comm] at h1
    exact int_zero h1 (hf.pos i hi)
/-- The turned rows' form has no more rows. -/
theorem rank_le {a b h g : List (List Int)} {p q : Nat → Nat} {n : Nat} (hb : ∀ j t, j < b.length → ent b j t = ent a t j) (hz : ∀ i j, n ≤ j → ent a i j = 0) (hf : EForm h p) (hs : SameL a h) (hg : EForm g q) (hs' : SameL b g) : g.length ≤ h.length := by
  obtain ⟨A, hA1, hA2⟩ := bound_two n (ent a) a.length
  have hA : ∀ i j, (ent a i j).natAbs ≤ A := fun i j => by
    by_cases c : i < a.length
    · by_cases d : j < n
      · exact hA2 i j c d
      · rw [hz i j (by omega)]; simp
    · rw [ent_out (by omega)]; simp
  refine hg.indep.le (H := fun i t => ent a t (p i)) fun i _ => ?_
  refine spans_inF (m := b.length) (F := ent b) (hs'.symm.row i) fun j hj => ?_
  obtain ⟨c, hc0, _, hc⟩ := hf.relation hs hA1 hA j
  refine ⟨c h.length, hc0, fun i => -1 * c i, fun t => ?_⟩
  have h1 := hc (fun j => ent a t j) (inL_row t)
  show c h.length * ent b j t = sumN h.length fun i => -1 * c i * ent a t (p i)
  rw [hb j t hj, sumN_congr (g := fun i => -1 * (ent a t (p i) * c i)) fun i _ => by rw [Int.mul_assoc, Int.mul_comm (c i)], sumN_mul, Int.mul_comm (c h.length)]
  have h2 : (sumN h.length fun i => ent a t (p i) * c i) + ent a t j * c h.length = 0 := h1
  omega
theorem ent_turn (l : List (List Int)) {n i : Nat} (hi : i < n) (j : Nat) : ent (vturn l n) i j = ent l j i := by
  show ((vturn l n).getD i []).getD j 0 = (l.getD j []).getD i 0
  rw [vturn_at l hi]
  by_cases c : j < l.length
  · simp [List.getD, c]
  · simp [List.getD, List.getElem?_eq_none (Nat.le_of_not_lt c)]
/-- Rows and the rows turned: forms of as many rows. -/
theorem rank_turn {a h g : List (List Int)} {p q : Nat → Nat} {n : Nat} (hz : ∀ i j, n ≤ j → ent a i j = 0) (hf : EForm h p) (hs : SameL a h) (hg : EForm g q) (hs' : SameL (vturn a n) g) : g.length = h.length := by
  have e : ∀ j t, j < (vturn a n).length → ent (vturn a n) j t = ent a t j := fun j t hj => ent_turn a (by rwa [vturn_len] at hj) t
  refine Nat.le_antisymm (rank_le e hz hf hs hg hs') (rank_le (n := a.length) (a := vturn a n) (b := a) (fun j t hj => ?_) (fun i j hj => ?_) hg hs' hf hs)
  · by_cases c : t < n
    · exact (ent_turn a c j).symm
    · rw [hz j t (by omega), ent_out (by rw [vturn_len]; omega)]
  · by_cases c : i < n
    · rw [ent_turn a c, ent_out hj]
    · rw [ent_out (by rw [vturn_len]; omega)]

#print axioms WideL.kernel
#print axioms IsKer.same
#print axioms rank_turn
end Go.Proofs.YtjebmlogchoehaaGreat
