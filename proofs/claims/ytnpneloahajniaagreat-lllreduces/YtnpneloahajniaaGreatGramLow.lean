/-
 Plain mathematics of chapter 13's Reduce: the lists of rows, d and g behind one step of lowering, and behind an exchange.
-/
import Derived.Test.YtnpneloahajniaaGreatGramSwap
namespace Go.Proofs.YtnpneloahajniaaGreat
open Go.RowKit Lb
set_option maxRecDepth 20000

theorem snoc_last {zs : List Int} {x : Int} {n : Nat} (h : zs.length = n) : (zs ++ [x]).getD n 0 = x := by subst h; simp [List.getD]
theorem snoc_ahead {zs : List Int} {x : Int} {s : Nat} (h : s < zs.length) : (zs ++ [x]).getD s 0 = zs.getD s 0 := by simp [List.getD, List.getElem?_append_left h]
theorem snoc_out {zs : List Int} {x : Int} {s : Nat} (h : zs.length < s) : (zs ++ [x]).getD s 0 = 0 := getD_out (by rw [List.length_append]; simp; omega)
structure LowStep (N m E X K : Nat) (l0 ms ls : List (List Int)) (gs : List (List Int)) (i j : Nat) (q : Int) : Prop where
 hand : RHand N m E X l0 ls i j
 dseq : gramDs N (ent ls) m = gramDs N (ent ms) m
 gseq : gs = gramGs N (ent ls) m
 pot : gramP N (ent ls) m = gramP N (ent ms) m
 d : ∀ k, k ≤ m → gramD N (ent ls) k = gramD N (ent ms) k
 keep : ∀ s, j < s → s < i → gramM N (ent ls) s i s = gramM N (ent ms) s i s
 lt : ∀ s, (ent ls i s).natAbs < Bp K
 glt : ∀ s, ((gs.getD i []).getD s 0).natAbs < Bp K
theorem rlow_step {N m E X K i j : Nat} {l0 ms : List (List Int)} (h : RHand N m E X l0 ms i (j + 1)) (hm : m ≤ 1000) (hEX : E + 1 ≤ X) (hj : j < i) (hi : i < m) (hK : E + (X + (m + m) * (3 * E + 2)) ≤ K) (q : Int) (hq : 2 * ((gramM N (ent ms) j i j - q * gramD N (ent ms) (j + 1)).natAbs : Int) ≤ gramD N (ent ms) (j + 1)) :
  LowStep N m E X K l0 ms (ms.set i (vsub (ms.getD i []) (vtimes (ms.getD j []) q))) ((gramGs N (ent ms) m).set i (vsub (gramL N (ent ms) i) (vtimes (gramL N (ent ms) j) q ++ [gramD N (ent ms) (j + 1) * q]))) i j q := by
 have hil : i < ms.length := by rw [h.len]; exact hi
 have he : ∀ t s, ent (ms.set i (vsub (ms.getD i []) (vtimes (ms.getD j []) q))) t s = lessR (ent ms) i j q t s := fun t s => by
  rw [ent_set _ _ _ _ _ hil];by_cases c : t = i
  ·subst c;rw [if_pos rfl, vsub_at, vtimes_at, lessR_at, Int.mul_comm]; rfl
  ·rw [if_neg c, lessR_other c]
 have hvl : (vsub (ms.getD i []) (vtimes (ms.getD j []) q)).length = N := by
  rw [vsub_len, show (vtimes (ms.getD j []) q).length = (ms.getD j []).length by simp [vtimes], h.rows i hi, h.rows j (by omega), Nat.max_self]
 obtain ⟨h1, h2, h3, h4⟩ := h.lower hm hEX hj hi q hq (by rw [List.length_set]; exact h.len) (fun t ht => by
  by_cases c : t = i
  ·subst c; rw [gset_self hil]; exact hvl
  ·rw [gset_other c]; exact h.rows t ht) he
 have hgl : (vsub (gramL N (ent ms) i) (vtimes (gramL N (ent ms) j) q ++ [gramD N (ent ms) (j + 1) * q])).length = i := by
  rw [vsub_len, List.length_append, show (vtimes (gramL N (ent ms) j) q).length = (gramL N (ent ms) j).length by simp [vtimes], gramL_len, gramL_len];simp; omega
 have hvt : (vtimes (gramL N (ent ms) j) q).length = j := by rw [show (vtimes (gramL N (ent ms) j) q).length = (gramL N (ent ms) j).length by simp [vtimes], gramL_len]
 have hg : ∀ s, s < i → (vsub (gramL N (ent ms) i) (vtimes (gramL N (ent ms) j) q ++ [gramD N (ent ms) (j + 1) * q])).getD s 0 = gramM N (ent ms) s i s - q * gramM N (ent ms) s j s := fun s hs => by
  rw [vsub_at, gramL_at hs, gramV_pos (h.ne s (by omega))]
  congr 1
  rcases Nat.lt_trichotomy s j with c | c | c
  ·rw [snoc_ahead (by rw [hvt]; exact c), vtimes_at, gramL_at c, gramV_pos (h.ne s (by omega)), Int.mul_comm]
  ·subst c;rw [snoc_last hvt, ← gramD_next (h.ne s (by omega)), Int.mul_comm]
  ·rw [snoc_out (by rw [hvt]; exact c), gramM_row c, Int.mul_zero]
 have hgs := gramGs_lower (N := N) (m := m) (i := i) (j := j) (b := ent ms) (b' := ent (ms.set i (vsub (ms.getD i []) (vtimes (ms.getD j []) q)))) (q := q) hi h.ne h1.ne h3 hgl hg;refine ⟨h1, gramDs_same h2, hgs, h4, h2, fun s hs hsi => ?_, fun s => ?_, fun s => ?_⟩
 ·rw [h3 i s hi hsi, if_pos rfl, gramM_row hs, Int.mul_zero, Int.sub_zero]
 ·exact Nat.lt_of_lt_of_le (h1.ent_lt hm hEX (by omega) hi) (Bp_le (by omega))
 ·rw [hgs, gramGs_at hi];by_cases c : s < i
  ·rw [gramL_at c, gramV_pos (h1.ne s (by omega))];exact Nat.lt_of_lt_of_le (h1.g_lt hm hEX (by omega) hi c) (Bp_le hK)
  ·rw [getD_out (by rw [gramL_len]; omega)]; exact Bp_pos _
structure TurnStep (N m E X K : Nat) (l0 ms : List (List Int)) (p : Nat) : Prop where
 hand : RHand N m E X l0 (swapL ms p (p + 1)) (max p 1) (max p 1)
 ent : ent (swapL ms p (p + 1)) = turnR (ent ms) p
 pot : gramP N (turnR (Go.Proofs.YtnpneloahajniaaGreat.ent ms) p) m < gramP N (Go.Proofs.YtnpneloahajniaaGreat.ent ms) m
 nx : (gramD N (turnR (Go.Proofs.YtnpneloahajniaaGreat.ent ms) p) (p + 1)).natAbs < Bp K
 nx0 : gramD N (turnR (Go.Proofs.YtnpneloahajniaaGreat.ent ms) p) (p + 1) ≠ 0
 f : ∀ t, p + 1 < t → t < m → (gramM N (turnR (Go.Proofs.YtnpneloahajniaaGreat.ent ms) p) p t p).natAbs < Bp K ∧ (gramM N (turnR (Go.Proofs.YtnpneloahajniaaGreat.ent ms) p) (p + 1) t (p + 1)).natAbs < Bp K
 ds : (gramDs N (Go.Proofs.YtnpneloahajniaaGreat.ent ms) m).set (p + 1) (gramD N (turnR (Go.Proofs.YtnpneloahajniaaGreat.ent ms) p) (p + 1)) = gramDs N (turnR (Go.Proofs.YtnpneloahajniaaGreat.ent ms) p) m
theorem rturn_step {N m E X K p : Nat} {l0 ms : List (List Int)} (h : RHand N m E X l0 ms (p + 1) p) (hm : m ≤ 1000) (hEX : E + 1 ≤ X) (hp : p + 1 < m) (hK : E + (X + (m + m) * (3 * E + 2)) ≤ K) (hq : 4 * (gramD N (ent ms) (p + 2) * gramD N (ent ms) p + gramM N (ent ms) p (p + 1) p * gramM N (ent ms) p (p + 1) p) < 3 * (gramD N (ent ms) (p + 1) * gramD N (ent ms) (p + 1))) : TurnStep N m E X K l0 ms p := by
 have hl : (swapL ms p (p + 1)).length = m := by rw [swapL_len]; exact h.len
 have he : ∀ t s, ent (swapL ms p (p + 1)) t s = turnR (ent ms) p t s := fun t s => by
  rw [ent_swap (by rw [h.len]; omega) (by rw [h.len]; exact hp)];by_cases c : t = p + 1
  ·subst c; rw [if_pos rfl, turnR_high]
  ·rw [if_neg c];by_cases c2 : t = p
   ·subst c2; rw [if_pos rfl, turnR_low]
   ·rw [if_neg c2, turnR_other c2 c]
 have e : ent (swapL ms p (p + 1)) = turnR (ent ms) p := funext fun t => funext fun s => he t s;have hr : ∀ t, t < m → ((swapL ms p (p + 1)).getD t []).length = N := fun t ht => by
  unfold swapL;by_cases c : t = p + 1
  ·subst c; rw [gset_self (by rw [List.length_set, h.len]; exact hp)]; exact h.rows p (by omega)
  ·rw [gset_other c];by_cases c2 : t = p
   ·subst c2; rw [gset_self (by rw [h.len]; omega)]; exact h.rows (t + 1) hp
   ·rw [gset_other c2]; exact h.rows t ht
 obtain ⟨h1, h2⟩ := h.turn hm hEX hp hq hl hr he;have hD : ∀ k, k ≤ m → k ≠ p + 1 → gramD N (turnR (ent ms) p) k = gramD N (ent ms) k := fun k hk hne => by
  have hd := turnR_pos (h.pos p (by omega)) (h.pos (p + 1) (by omega)) (h.pos (p + 2) (by omega));by_cases c : k ≤ p
  ·exact turnR_below c
  ·obtain ⟨d, rfl⟩ := Nat.le.dest (show p + 2 ≤ k by omega);exact turnR_Dn (h.ne _ (by omega)) (h.ne _ (by omega)) (by omega) d fun a ha => h.ne _ (by omega)
 have hE1 := h1.lt (p + 1) (by omega);have hE2 := h1.ne (p + 1) (by omega);rw [e] at hE1 hE2 h2;refine ⟨h1, e, h2, Nat.lt_of_lt_of_le hE1 (Bp_le (by omega)), hE2, fun t ht htm => ?_, gramDs_set fun k hk => ?_⟩
 ·have g1 := h1.g_lt hm hEX (Nat.le_refl _) htm (show p < t by omega);have g2 := h1.g_lt hm hEX (Nat.le_refl _) htm ht;rw [e] at g1 g2;exact ⟨Nat.lt_of_lt_of_le g1 (Bp_le hK), Nat.lt_of_lt_of_le g2 (Bp_le hK)⟩
 ·by_cases c : k = p + 1
  ·subst c; rw [if_pos rfl]
  ·rw [if_neg c]; exact hD k hk c
end Go.Proofs.YtnpneloahajniaaGreat
