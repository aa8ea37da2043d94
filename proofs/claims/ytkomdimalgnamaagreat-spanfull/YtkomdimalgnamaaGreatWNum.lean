/-
 Plain mathematics of the whole vectors of a lattice's multiples: what stands across what stands across; pivots divide; products of pivots.
-/
import Derived.Test.YtkomdimalgnamaaGreatKTiny
namespace Go.Proofs.YtkomdimalgnamaaGreat
open Go.RowKit Lb
set_option maxRecDepth 20000

theorem pivots_divide {h W : List (List Int)} {p q : Nat → Nat} (hf : HForm h p) (hg : HForm W q) (hsub : ∀ i, i < h.length → InL W fun j => ent h i j) (hlen : W.length = h.length) : ∀ i, i < h.length → p i = q i ∧ ent W i (q i) ∣ ent h i (p i) := fun i hi => by
 obtain ⟨e1, _⟩ := hf.eform.under hg.eform hsub hlen i hi;refine ⟨e1, ?_⟩;have hpos := hf.pos i hi;obtain ⟨k, x, hk, hz, hx, hne⟩ := hg.eform.lead (hsub i hi) fun e => by have := e (p i); omega
 have hpq : q i = q k := by
  rw [← e1];exact lead_one (v := fun j => ent h i j) (hf.ahead i hi) hz (by show ent h i (p i) ≠ 0; omega) hne
 have hik : i = k := by
  rcases Nat.lt_trichotomy i k with c | c | c
  ·have := hg.rise i k c hk; omega
  ·exact c
  ·have := hg.rise k i c (by omega); omega
 subst hik;rw [e1];exact ⟨x, by rw [hx, Int.mul_comm]⟩
def prodN : Nat → (Nat → Int) → Int
 | 0, _ => 1
 | n + 1, f => prodN n f * f n
theorem prodN_dvd {n : Nat} {f g : Nat → Int} (h : ∀ i, i < n → f i ∣ g i) : prodN n f ∣ prodN n g := by
 induction n with
 | zero => exact Int.dvd_refl _
 | succ n ih => exact Int.mul_dvd_mul (ih fun i hi => h i (by omega)) (h n (by omega))
theorem prodN_congr {n : Nat} {f g : Nat → Int} (h : ∀ i, i < n → f i = g i) : prodN n f = prodN n g := by
 induction n with
 | zero => rfl
 | succ n ih => rw [prodN, prodN, ih fun i hi => h i (by omega), h n (by omega)]
theorem prodN_times (n : Nat) (f : Nat → Int) (y : Int) : (prodN n fun i => y * f i) = y ^ n * prodN n f := by
 induction n with
 | zero => simp [prodN]
 | succ n ih =>
  rw [prodN, prodN, ih, Int.pow_succ];simp only [Int.mul_assoc, Int.mul_comm, Int.mul_left_comm]
theorem prodN_pos {n : Nat} {f : Nat → Int} (h : ∀ i, i < n → 0 < f i) : 0 < prodN n f := by
 induction n with
 | zero => exact Int.one_pos
 | succ n ih => exact Int.mul_pos (ih fun i hi => h i (by omega)) (h n (by omega))
theorem index_times {n : Nat} {f g : Nat → Int} {y : Int} (h : ∀ i, i < n → f i ∣ g i) (h0 : ∀ i, i < n → 0 < f i) : (prodN n fun i => y * g i).tdiv (prodN n f) = y ^ n * (prodN n g).tdiv (prodN n f) := by
 have hp := prodN_pos h0;obtain ⟨z, hz⟩ := prodN_dvd h;rw [prodN_times, hz, ← Int.mul_assoc, Int.mul_comm (y ^ n), Int.mul_assoc, Int.mul_tdiv_cancel_left _ (by omega), Int.mul_tdiv_cancel_left _ (by omega)]

theorem rest_one {h : List (List Int)} {p : Nat → Nat} (hf : EForm h p) {u t : Nat → Int} (hu : ∀ k, k < h.length → 0 ≤ u (p k) ∧ u (p k) < ent h k (p k)) (ht : ∀ k, k < h.length → 0 ≤ t (p k) ∧ t (p k) < ent h k (p k)) (hd : InL h fun j => u j - t j) (j : Nat) : u j = t j := by
 by_cases hn : ∀ j, u j - t j = 0
 ·have := hn j; omega
 ·exfalso
  obtain ⟨i, x, hi, _, hx, hne⟩ := hf.lead hd hn;have h1 := hu i hi;have h2 := ht i hi;have hx' : u (p i) - t (p i) = x * ent h i (p i) := hx;have hne' : u (p i) - t (p i) ≠ 0 := hne;have hx0 : x ≠ 0 := fun e => by rw [e, Int.zero_mul] at hx'; exact hne' hx'
  have h3 : (u (p i) - t (p i)).natAbs = x.natAbs * (ent h i (p i)).natAbs := by rw [hx', Int.natAbs_mul]
  have h4 : (ent h i (p i)).natAbs ≤ x.natAbs * (ent h i (p i)).natAbs := Nat.le_mul_of_pos_left _ (by omega);omega
theorem rest_class {h : List (List Int)} {p : Nat → Nat} (hf : EForm h p) {u v a b : Nat → Int} (hu : ∀ k, k < h.length → 0 ≤ u (p k) ∧ u (p k) < ent h k (p k)) (hv : ∀ k, k < h.length → 0 ≤ v (p k) ∧ v (p k) < ent h k (p k)) (ha : InL h fun j => a j - u j) (hb : InL h fun j => b j - v j) : (∀ j, u j = v j) ↔ InL h fun j => a j - b j :=
 ⟨fun e => (ha.sub hb).eq fun j => by rw [e j]; omega, fun hd => rest_one hf hu hv (((hd.sub ha).add hb).eq fun j => by omega)⟩

end Go.Proofs.YtkomdimalgnamaaGreat
