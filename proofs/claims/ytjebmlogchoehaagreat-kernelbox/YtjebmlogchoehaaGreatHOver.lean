/-
  Plain mathematics: rows with rising pivots whose lattice holds other rows' lattice of the same rank: their numbers are bounded by those other rows.
-/
import Derived.Test.YtjebmlogchoehaaGreatHFew
namespace Go.Proofs.YtjebmlogchoehaaGreat
open Go.RowKit Lb
set_option maxRecDepth 20000

/-- As many rows, one lattice in the other: the same pivots; the numbers there divide. -/
theorem EForm.under {h g : List (List Int)} {p q : Nat → Nat} (hf : EForm h p) (hg : EForm g q) (hsub : ∀ i, i < h.length → InL g fun j => ent h i j) (hlen : g.length = h.length) : ∀ i, i < h.length → p i = q i ∧ (ent g i (q i)).natAbs ≤ (ent h i (p i)).natAbs := by
  have hx : ∀ i, ∃ t, i < h.length → t < g.length ∧ q t = p i ∧ (ent g t (q t)).natAbs ≤ (ent h i (p i)).natAbs := fun i => by
    by_cases c : i < h.length
    · have hpos := hf.pos i c
      obtain ⟨t, x, ht, hz, hp, hn⟩ := hg.lead (hsub i c) fun e => by have := e (p i); omega
      have hqt : q t = p i := by
        rcases Nat.lt_trichotomy (q t) (p i) with e | e | e
        · exact absurd (hf.ahead i c (q t) e) hn
        · exact e
        · have := hz (p i) e; omega
      refine ⟨t, fun _ => ⟨ht, hqt, ?_⟩⟩
      have h1 : ent h i (q t) = x * ent g t (q t) := hp
      rw [hqt] at h1
      rw [hqt, h1, Int.natAbs_mul]
      have hx0 : x ≠ 0 := fun e => by rw [e, Int.zero_mul] at h1; omega
      have : 1 * (ent g t (p i)).natAbs ≤ x.natAbs * (ent g t (p i)).natAbs := Nat.mul_le_mul_right _ (by omega)
      omega
    · exact ⟨0, fun h => absurd h c⟩
  obtain ⟨t, ht⟩ := Classical.axiomOfChoice hx
  have hmono : ∀ i k, i < k → k < h.length → t i < t k := fun i k h1 h2 => by
    obtain ⟨a1, a2, _⟩ := ht i (by omega)
    obtain ⟨b1, b2, _⟩ := ht k h2
    have h3 := hf.rise i k h1 h2
    rcases Nat.lt_trichotomy (t i) (t k) with e | e | e
    · exact e
    · rw [e] at a2; omega
    · have := hg.rise (t k) (t i) e a1; omega
  have hge : ∀ i, i < h.length → i ≤ t i := fun i => by
    induction i with
    | zero => intro _; omega
    | succ i ih => intro hi; have := ih (by omega); have := hmono i (i + 1) (by omega) hi; omega
  have hle : ∀ n i, i + n + 1 = h.length → t i ≤ i := fun n => by
    induction n with
    | zero => intro i hi; have := (ht i (by omega)).1; omega
    | succ n ih => intro i hi; have := ih (i + 1) (by omega); have := hmono i (i + 1) (by omega) (by omega); omega
  intro i hi
  have h1 := hge i hi
  have h2 := hle (h.length - i - 1) i (by omega)
  obtain ⟨_, h3, h4⟩ := ht i hi
  rw [show t i = i by omega] at h3 h4
  exact ⟨h3.symm, h4⟩
theorem EForm.indepF {h : List (List Int)} {p : Nat → Nat} (hf : EForm h p) : Indep h.length (ent h) := fun c hc i => by
  induction i using Nat.strongRecOn with
  | ind i ih =>
    intro hi
    have h1 := hc (p i)
    rw [sumN_first (n := h.length) (i := i) (f := fun a => c a * ent h a (p i)) hi (fun t ht => by rw [ih t ht (by omega), Int.zero_mul]) (fun t h2 h3 => by rw [hf.pivot_zero h2 h3, Int.mul_zero]), Int.mul_comm] at h1
    exact int_zero h1 (hf.pos i hi)
/-- What lies in the greater lattice is a sum in fractions. -/
theorem EForm.spans {h g : List (List Int)} {p : Nat → Nat} (hf : EForm h p) (hsub : ∀ i, i < h.length → InL g fun j => ent h i j) (hlen : g.length = h.length) {v : Nat → Int} (hv : InL g v) : Spans h.length (ent h) v := by
  by_cases c : Spans h.length (ent h) v
  · exact c
  · exfalso
    have hle : h.length + 1 ≤ g.length := by
      refine Indep.le (G := fun i => if i < h.length then ent h i else v) (H := ent g) (fun x hx => ?_) fun i _ => ?_
      · have hx' : ∀ j, (sumN h.length fun i => x i * ent h i j) + x h.length * v j = 0 := fun j => by
          have this : (sumN h.length fun i => x i * (if i < h.length then ent h i else v) j) + x h.length * (if h.length < h.length then ent h h.length else v) j = 0 := hx j
          rw [if_neg (Nat.lt_irrefl _)] at this
          rw [← this, sumN_congr (g := fun i => x i * (if i < h.length then ent h i else v) j) fun i hi => by rw [if_pos hi]]
        have hq : x h.length = 0 := by
          by_cases e : x h.length = 0
          · exact e
          · exfalso
            refine c ⟨x h.length, e, fun i => -1 * x i, fun j => ?_⟩
            have := hx' j
            show x h.length * v j = sumN h.length fun i => -1 * x i * ent h i j
            rw [sumN_congr (g := fun i => -1 * (x i * ent h i j)) fun i _ => by rw [Int.mul_assoc], sumN_mul]
            omega
        have h0 := hf.indepF x fun j => by have := hx' j; rw [hq, Int.zero_mul, Int.add_zero] at this; exact this
        intro i hi
        by_cases e : i = h.length
        · rw [e]; exact hq
        · exact h0 i (by omega)
      · by_cases e : i < h.length
        · obtain ⟨y, hy⟩ := hsub i e
          refine ⟨1, by decide, y, fun j => ?_⟩
          show 1 * (if i < h.length then ent h i else v) j = _
          rw [if_pos e, Int.one_mul]
          exact hy j
        · obtain ⟨y, hy⟩ := hv
          refine ⟨1, by decide, y, fun j => ?_⟩
          show 1 * (if i < h.length then ent h i else v) j = _
          rw [if_neg e, Int.one_mul]
          exact hy j
    omega
theorem EForm.over {l h g : List (List Int)} {p q : Nat → Nat} {A : Nat} (hf : EForm h p) (hs : SameL l h) (hg : EForm g q) (hsub : ∀ i, i < l.length → InL g fun j => ent l i j) (hlen : g.length = h.length) (hA1 : 1 ≤ A) (hA : ∀ i j, (ent l i j).natAbs ≤ A) {k : Nat} (hk : k < g.length) (hl : LowAt g q k) (j : Nat) : (ent g k j).natAbs ≤ h.length * (h.length * (sieg h.length A * A) * sieg h.length A) := by
  have hsub' : ∀ i, i < h.length → InL g fun j => ent h i j := fun i _ => (hs.symm.row i).trans hsub
  have hu := hf.under hg hsub' hlen
  have hpiv : ∀ i, i < h.length → (ent g i (q i)).natAbs ≤ h.length * (sieg h.length A * A) := fun i hi =>
    Nat.le_trans (hu i hi).2 (Nat.le_trans (hf.pivot_le hs hA1 hA hi) (Nat.mul_le_mul (by omega) (Nat.mul_le_mul_right _ (sieg_mono (by omega) hA1))))
  obtain ⟨c, hcne, hcM, hc⟩ := hf.relation hs hA1 hA j
  obtain ⟨col, ecol⟩ : ∃ col : Nat → Nat, col = fun i => if i < h.length then p i else j := ⟨_, rfl⟩
  have hcol : ∀ v : Nat → Int, (sumN (h.length + 1) fun i => v (col i) * c i) = (sumN h.length fun i => v (p i) * c i) + v j * c h.length := fun v => by
    have e1 : ∀ i, i < h.length → col i = p i := fun i hi => by rw [ecol]; exact if_pos hi
    have e2 : col h.length = j := by rw [ecol]; exact if_neg (Nat.lt_irrefl _)
    rw [sumN, e2, sumN_congr (g := fun i => v (p i) * c i) fun i hi => by rw [e1 i hi]]
  have hR1 : (sumN h.length fun i => ent g k (p i) * c i) + ent g k j * c h.length = 0 := by
    have h1 := over_spans (u := h.length + 1) (col := col) (c := c) (hf.spans hsub' hlen (inL_row k)) fun t ht => by rw [hcol (ent h t)]; exact hc _ (hs.symm.row t)
    exact (hcol fun j => ent g k j).symm.trans h1
  have hsum : (sumN h.length fun i => ent g k (p i) * c i).natAbs ≤ h.length * (h.length * (sieg h.length A * A) * sieg h.length A) := sumN_abs fun i hi => by
    rw [Int.natAbs_mul]
    refine Nat.mul_le_mul ?_ (hcM i)
    rw [(hu i hi).1]
    rcases Nat.lt_trichotomy i k with e | e | e
    · rw [hg.pivot_zero e hk]; simp
    · subst e; exact hpiv i hi
    · have h1 := hl i e (by omega)
      have h2 := hpiv i hi
      omega
  have h1 : (ent g k j * c h.length).natAbs = (sumN h.length fun i => ent g k (p i) * c i).natAbs := by omega
  rw [Int.natAbs_mul] at h1
  have h2 : (ent g k j).natAbs * 1 ≤ (ent g k j).natAbs * (c h.length).natAbs := Nat.mul_le_mul_left _ (by omega)
  omega
/-- .. in limbs. -/
theorem EForm.over_few {l h g : List (List Int)} {p q : Nat → Nat} {a n : Nat} (hf : EForm h p) (hs : SameL l h) (hg : EForm g q) (hsub : ∀ i, i < l.length → InL g fun j => ent l i j) (hlen : g.length = h.length) (ha : 1 ≤ a) (hA : ∀ i j, (ent l i j).natAbs < Bp a) (hn : h.length ≤ n) (hn2 : n ≤ 60000) {k : Nat} (hk : k < g.length) (hl : LowAt g q k) (j : Nat) : (ent g k j).natAbs < Bp (2 * ((a + 1) * n) + a + 1) := by
  obtain ⟨A, eA⟩ : ∃ A, A + 1 = Bp a := ⟨Bp a - 1, by have := Bp_pos a; omega⟩
  have h1 : 1 ≤ A := by
    have : Bp 1 ≤ Bp a := Bp_le ha
    have e : Bp 1 = 4294967296 := by unfold Bp; rfl
    omega
  exact Nat.lt_of_le_of_lt (hf.over hs hg hsub hlen h1 (fun i j => by have := hA i j; omega) hk hl j) (lin_bp eA hn hn2)

#print axioms EForm.over_few
#print axioms EForm.over
end Go.Proofs.YtjebmlogchoehaaGreat
