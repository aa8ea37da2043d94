/-
  Plain mathematics: rows with rising pivots whose lattice is that of unit rows: no number is greater than 1.
-/
import Derived.Test.YtjebmlogchoehaaGreatHFew
namespace Go.Proofs.YtjebmlogchoehaaGreat
open Go.RowKit Lb
set_option maxRecDepth 20000

theorem unit_out {n i : Nat} {v : Nat → Int} (hv : InL ((unitL n).take i) v) {j : Nat} (hj : i ≤ j) : v j = 0 := by
  obtain ⟨c, hc⟩ := hv
  rw [hc j, ← sumN_nil0 ((unitL n).take i).length]
  refine sumN_congr fun t ht => ?_
  rw [List.length_take, unitL_len] at ht
  rw [ent_take (by omega), ent_unit (by omega), if_neg (by omega), Int.mul_zero]
/-- Each place ahead of i is a pivot, with 1. -/
theorem EForm.unit {h : List (List Int)} {p : Nat → Nat} {n i : Nat} (hf : EForm h p) (hi : i ≤ n) (hs : SameL ((unitL n).take i) h) {j : Nat} (hj : j < i) : ∃ k, k < h.length ∧ p k = j ∧ ent h k (p k) = 1 := by
  have he : ∀ t, ent ((unitL n).take i) j t = if t = j then 1 else 0 := fun t => by rw [ent_take hj, ent_unit (by omega)]
  obtain ⟨k, x, hk, hz, hp, hn⟩ := hf.lead (hs.row j) fun e => by
    have := e j
    rw [he j, if_pos rfl] at this
    exact absurd this (by decide)
  have hpk : p k = j := by
    have h1 : ent ((unitL n).take i) j (p k) ≠ 0 := hn
    rw [he] at h1
    by_cases c : p k = j
    · exact c
    · rw [if_neg c] at h1; exact absurd rfl h1
  have h1 : ent ((unitL n).take i) j (p k) = x * ent h k (p k) := hp
  rw [he, if_pos hpk] at h1
  have h2 := hf.pos k hk
  refine ⟨k, hk, hpk, ?_⟩
  have h3 : (ent h k (p k)).natAbs ∣ 1 := by
    rw [show (1 : Nat) = (x * ent h k (p k)).natAbs by rw [← h1]; rfl, Int.natAbs_mul]
    exact Nat.dvd_mul_left _ _
  have h4 := Nat.dvd_one.1 h3
  omega
theorem bounded_unit (n : Nat) : Bounded (unitL n) 1 := by
  intro i hi h p hf hs k hk hl j
  rw [unitL_len] at hi
  have h1 : 4 < Bp 1 := by unfold Bp; decide
  suffices h : (ent h k j).natAbs ≤ 1 by omega
  by_cases hj : j < i
  · obtain ⟨t, ht, hpt, ht1⟩ := hf.unit hi hs hj
    rcases Nat.lt_trichotomy t k with e | e | e
    · rw [← hpt, hf.pivot_zero e hk]; simp
    · subst e; rw [← hpt, ht1]; simp
    · have := hl t e ht
      rw [ht1, hpt] at this
      omega
  · have h0 : ent h k j = 0 := unit_out (hs.symm.row k) (by omega)
    rw [h0]; simp

#print axioms bounded_unit
end Go.Proofs.YtjebmlogchoehaaGreat
