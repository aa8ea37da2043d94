/-
 Plain mathematics of the whole vectors of a lattice's multiples: what stands across what stands across; pivots divide; products of pivots.
-/
import Derived.Test.YtkomdimalgnamaaGreatKTiny
namespace Go.Proofs.YtkomdimalgnamaaGreat
open Go.RowKit Lb
set_option maxRecDepth 20000

def prodN : Nat → (Nat → Int) → Int
 | 0, _ => 1
 | n + 1, f => prodN n f * f n
theorem prodN_congr {n : Nat} {f g : Nat → Int} (h : ∀ i, i < n → f i = g i) : prodN n f = prodN n g := by
 induction n with
 | zero => rfl
 | succ n ih => rw [prodN, prodN, ih fun i hi => h i (by omega), h n (by omega)]
theorem prodN_pos {n : Nat} {f : Nat → Int} (h : ∀ i, i < n → 0 < f i) : 0 < prodN n f := by
 induction n with
 | zero => exact Int.one_pos
 | succ n ih => exact Int.mul_pos (ih fun i hi => h i (by omega)) (h n (by omega))
theorem rest_one {h : List (List Int)} {p : Nat → Nat} (hf : EForm h p) {u t : Nat → Int} (hu : ∀ k, k < h.length → 0 ≤ u (p k) ∧ u (p k) < ent h k (p k)) (ht : ∀ k, k < h.length → 0 ≤ t (p k) ∧ t (p k) < ent h k (p k)) (hd : InL h fun j => u j - t j) (j : Nat) : u j = t j := by
 by_cases hn : ∀ j, u j - t j = 0
 ·have := hn j; omega
 ·exfalso
  obtain ⟨i, x, hi, _, hx, hne⟩ := hf.lead hd hn;have h1 := hu i hi;have h2 := ht i hi;have hx' : u (p i) - t (p i) = x * ent h i (p i) := hx;have hne' : u (p i) - t (p i) ≠ 0 := hne;have hx0 : x ≠ 0 := fun e => by rw [e, Int.zero_mul] at hx'; exact hne' hx'
  have h3 : (u (p i) - t (p i)).natAbs = x.natAbs * (ent h i (p i)).natAbs := by rw [hx', Int.natAbs_mul]
  have h4 : (ent h i (p i)).natAbs ≤ x.natAbs * (ent h i (p i)).natAbs := Nat.le_mul_of_pos_left _ (by omega);omega
end Go.Proofs.YtkomdimalgnamaaGreat
