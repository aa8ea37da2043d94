/-
 Plain mathematics of chapter 13's Reduce: the shares of a row behind two that change places, as the program tells them; the lists behind it.
-/
import Derived.Test.YtnpneloahajniaaGreatGramTurn
namespace Go.Proofs.YtnpneloahajniaaGreat
open Go.RowKit Lb
set_option maxRecDepth 20000

theorem turn_shares {N : Nat} {b : Nat → Nat → Int} {p l : Nat} (h0 : gramD N b p ≠ 0) (h1 : gramD N b (p + 1) ≠ 0) (hl : p + 1 < l) :
  gramD N b (p + 1) * gramM N (turnR b p) (p + 1) l (p + 1) = gramD N b (p + 2) * gramM N b p l p - gramM N b p (p + 1) p * gramM N b (p + 1) l (p + 1) ∧
  gramD N b (p + 2) * gramM N (turnR b p) p l p = gramD N (turnR b p) (p + 1) * gramM N b (p + 1) l (p + 1) + gramM N b p (p + 1) p * gramM N (turnR b p) (p + 1) l (p + 1) := by
 have e1 := turnR_Mfirst (N := N) (b := b) (i := p) h0 hl;have e2 := turnR_Msecond (N := N) (b := b) (i := p) h0 hl;have e3 := turnR_D (N := N) (b := b) (i := p) h0 h1;generalize gramM N (turnR b p) (p + 1) l (p + 1) = S at *;generalize gramM N (turnR b p) p l p = F at *;generalize gramM N b (p + 1) l (p + 1) = y4 at *;generalize gramM N b p l p = y3 at *;generalize gramM N b p (p + 1) p = be at *;generalize gramD N (turnR b p) (p + 1) = x at *;generalize gramD N b (p + 2) = d2 at *;generalize gramD N b (p + 1) = d1 at *;generalize gramD N b p = d0 at *;have hS : d1 * S = d2 * y3 - be * y4 := by
  refine Int.eq_of_mul_eq_mul_left h0 ?_;have a1 : d0 * (d1 * S) = d1 * (d0 * S) := Int.mul_left_comm _ _ _;have a2 : d1 * (x * y3 - F * be) = (d1 * x) * y3 - (d1 * F) * be := by rw [Int.mul_sub, Int.mul_assoc, Int.mul_assoc]
  rw [a1, e2, a2, e3, e1, Int.add_mul, Int.add_mul, Int.mul_sub];have a3 : d2 * d0 * y3 = d0 * (d2 * y3) := by rw [Int.mul_comm d2 d0, Int.mul_assoc]
  have a4 : d0 * y4 * be = d0 * (be * y4) := by rw [Int.mul_assoc, Int.mul_comm y4 be]
  have a5 : be * be * y3 = y3 * be * be := by rw [Int.mul_comm (be * be) y3, Int.mul_assoc]
  rw [a3, a4, a5];omega
 refine ⟨hS, ?_⟩;refine Int.eq_of_mul_eq_mul_left h1 ?_;have b1 : d1 * (d2 * F) = d2 * (d1 * F) := Int.mul_left_comm _ _ _;have b2 : d1 * (x * y4 + be * S) = (d1 * x) * y4 + be * (d1 * S) := by rw [Int.mul_add, Int.mul_assoc, Int.mul_left_comm d1 be S]
 rw [b1, b2, e1, hS, e3, Int.mul_add, Int.add_mul, Int.mul_sub];have a3 : d2 * d0 * y4 = d2 * (d0 * y4) := Int.mul_assoc _ _ _;have a4 : be * be * y4 = be * (be * y4) := Int.mul_assoc _ _ _;have a5 : d2 * (y3 * be) = be * (d2 * y3) := by rw [Int.mul_comm y3 be, Int.mul_left_comm]
 rw [a3, a4, a5];omega
theorem turn_list {N m p : Nat} {b : Nat → Nat → Int} (hp : p + 1 < m) (hb : ∀ k, k ≤ m → gramD N b k ≠ 0) (hb' : gramD N (turnR b p) (p + 1) ≠ 0) {gs : List (List Int)} (hl : gs.length = m) (hr : ∀ t, t < m → (gs.getD t []).length = t)
  (h : ∀ t s, t < m → s < t → (gs.getD t []).getD s 0 = if p + 1 < t then (if s = p then gramM N (turnR b p) p t p else if s = p + 1 then gramM N (turnR b p) (p + 1) t (p + 1) else gramM N b s t s) else if t = p then gramM N b s (p + 1) s else if t = p + 1 then (if s = p then gramM N b p (p + 1) p else gramM N b s p s) else gramM N b s t s) : gs = gramGs N (turnR b p) m := by
 have hne : ∀ k, k ≤ m → gramD N (turnR b p) k ≠ 0 := fun k hk => by
  by_cases c : k ≤ p
  ·rw [turnR_below c]; exact hb k hk
  ·by_cases c2 : k = p + 1
   ·subst c2; exact hb'
   ·obtain ⟨d, rfl⟩ := Nat.le.dest (show p + 2 ≤ k by omega);rw [turnR_Dn (hb _ (by omega)) (hb _ (by omega)) hb' d fun a ha => hb _ (by omega)];exact hb _ hk
 refine mat_ext (by rw [hl, gramGs_len]) (fun t ht => by rw [hl] at ht; rw [hr t ht, gramGs_at ht, gramL_len]) fun t ht s hs => ?_;rw [hl] at ht;rw [hr t ht] at hs;rw [h t s ht hs, gramGs_at ht, gramL_at hs, gramV_pos (hne s (by omega))];by_cases c : p + 1 < t
 ·rw [if_pos c];by_cases c1 : s = p
  ·rw [if_pos c1, c1]
  ·rw [if_neg c1];by_cases c2 : s = p + 1
   ·rw [if_pos c2, c2]
   ·rw [if_neg c2];by_cases c3 : s < p
    ·exact (turnR_Mother c3 (by omega) (by omega)).symm
    ·exact (turnR_Mbehind (hb _ (by omega)) (hb _ (by omega)) hb' (by omega) hs fun a ha => hb _ (by omega)).symm
 ·rw [if_neg c];by_cases c1 : t = p
  ·subst c1;rw [if_pos rfl]; exact (turnR_Mlow hs).1.symm
  ·rw [if_neg c1];by_cases c2 : t = p + 1
   ·subst c2;rw [if_pos rfl];by_cases c3 : s = p
    ·subst c3;rw [if_pos rfl]; exact (turnR_Mtwo (hb _ (by omega))).symm
    ·rw [if_neg c3]; exact (turnR_Mlow (show s < p by omega)).2.symm
   ·rw [if_neg c2]; exact (turnR_Mother (by omega) c1 c2).symm
end Go.Proofs.YtnpneloahajniaaGreat
