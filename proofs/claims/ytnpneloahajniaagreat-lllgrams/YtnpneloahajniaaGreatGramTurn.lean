/-
 Plain mathematics of chapter 13's Reduce: two rows change places; the beginning and the end; the lists of d and g behind each step.
-/
import Derived.Test.YtnpneloahajniaaGreatGramRed
import Derived.Test.YtnpneloahajniaaGreatLBas
namespace Go.Proofs.YtnpneloahajniaaGreat
open Go.RowKit Lb
set_option maxRecDepth 20000

theorem RHand.turn {N m E X p : Nat} {l0 rs ms : List (List Int)} (h : RHand N m E X l0 rs (p + 1) p) (hm : m ≤ 1000) (hEX : E + 1 ≤ X) (hp : p + 1 < m) (hq : 4 * (gramD N (ent rs) (p + 2) * gramD N (ent rs) p + gramM N (ent rs) p (p + 1) p * gramM N (ent rs) p (p + 1) p) < 3 * (gramD N (ent rs) (p + 1) * gramD N (ent rs) (p + 1)))
  (hl : ms.length = m) (hr : ∀ t, t < m → (ms.getD t []).length = N) (he : ∀ t s, ent ms t s = turnR (ent rs) p t s) : RHand N m E X l0 ms (max p 1) (max p 1) ∧ gramP N (ent ms) m < gramP N (ent rs) m := by
 have e : ent ms = turnR (ent rs) p := funext fun t => funext fun s => he t s;have p0 := h.pos p (by omega);have p1 := h.pos (p + 1) (by omega);have p2 := h.pos (p + 2) (by omega);have hd := turnR_pos p0 p1 p2;have hlt := turnR_lt p0 p1 p2 hq;have hD : ∀ k, k ≤ m → k ≠ p + 1 → gramD N (ent ms) k = gramD N (ent rs) k := fun k hk hne => by
  rw [e];by_cases c : k ≤ p
  ·exact turnR_below c
  ·obtain ⟨d, rfl⟩ := Nat.le.dest (show p + 2 ≤ k by omega);exact turnR_Dn (by omega) (by omega) (by omega) d fun a ha => h.ne _ (by omega)
 have hD1 : gramD N (ent ms) (p + 1) = gramD N (turnR (ent rs) p) (p + 1) := by rw [e]
 have hrow : ∀ t, t ≠ p → t ≠ p + 1 → ent ms t = ent rs t := fun t h1 h2 => by rw [e, turnR_other h1 h2]
 have hlow : ent ms p = ent rs (p + 1) := by rw [e, turnR_low]
 have hhigh : ent ms (p + 1) = ent rs p := by rw [e, turnR_high]
 have hM : ∀ t s, s < p → t ≠ p → t ≠ p + 1 → gramM N (ent ms) s t s = gramM N (ent rs) s t s := fun t s hs h1 h2 => by rw [e]; exact turnR_Mother hs h1 h2
 have hrn := red_norm (show p < m by omega) hm h.pos h.lt fun s hs => h.low p s (by omega) hs;have hXe : Bp (E + 1) ≤ Bp X := Bp_le hEX;refine ⟨⟨hl, hr, fun k hk => ?_, fun k hk => ?_, ?_, fun t s ht hs => ?_, fun t ht => ?_, fun t ht htm => ?_, fun _ => ?_, fun s hs hsi => by omega⟩, ?_⟩
 ·by_cases c : k = p + 1
  ·subst c; rw [hD1]; exact hd
  ·rw [hD k hk c]; exact h.pos k hk
 ·by_cases c : k = p + 1
  ·subst c;have := h.lt (p + 1) (by omega);rw [hD1]; omega
  ·rw [hD k hk c]; exact h.lt k hk
 ·exact h.same.trans (sameL_turn (by rw [h.len]; exact hp) (by rw [hl, h.len]) he)
 ·have htp : t < p := by omega
  rw [hM t s (by omega) (by omega) (by omega), hD (s + 1) (by omega) (by omega)];exact h.low t s (by omega) hs
 ·have htp : t + 1 < p := by omega
  rw [hD _ (by omega) (by omega), hD _ (by omega) (by omega), hD _ (by omega) (by omega), hM _ _ (by omega) (by omega) (by omega)];exact h.step t (by omega)
 ·by_cases c : t = p + 1
  ·subst c; rw [hhigh]; omega
  ·rw [hrow t (by omega) c];exact h.big t (by omega) htm
 ·by_cases c : p = 0
  ·subst c;rw [show max 0 1 = 0 + 1 from rfl, hhigh];exact Nat.lt_of_lt_of_le hrn (Nat.le_trans hXe (Bp_le (by omega)))
  ·rw [show max p 1 = p by omega, hlow];have := h.hand hp
   rwa [show m - (p + 1) + (p + 1 - p) = m - p + (p - p) by omega] at this
 ·rw [e]; exact turnR_less hp h.pos hd hq
theorem RHand.next {N m E X i : Nat} {l0 rs : List (List Int)} (h : RHand N m E X l0 rs i 0) (hi1 : 1 ≤ i) (hi : i < m) (hq : 3 * (gramD N (ent rs) i * gramD N (ent rs) i) ≤ 4 * (gramD N (ent rs) (i + 1) * gramD N (ent rs) (i - 1) + gramM N (ent rs) (i - 1) i (i - 1) * gramM N (ent rs) (i - 1) i (i - 1))) : RHand N m E X l0 rs (i + 1) (i + 1) :=
 ⟨h.len, h.rows, h.pos, h.lt, h.same, fun t s ht hs => by
  by_cases c : t = i
  ·subst c; exact h.part s (Nat.zero_le _) hs
  ·exact h.low t s (by omega) hs, fun t ht => by
  by_cases c : t + 1 = i
  ·obtain rfl : t = i - 1 := by omega
   rw [show i - 1 + 1 = i by omega, show i - 1 + 2 = i + 1 by omega]; exact hq
  ·exact h.step t (by omega), fun t ht htm => h.big t (by omega) htm, fun hm => Nat.lt_of_lt_of_le (h.big (i + 1) (by omega) hm) (Bp_le (by omega)), fun s hs hsi => by omega⟩
theorem RHand.start {N m E X : Nat} {rs : List (List Int)} (hl : rs.length = m) (hr : ∀ t, t < m → (rs.getD t []).length = N) (hp : ∀ k, k ≤ m → 0 < gramD N (ent rs) k) (hE : ∀ k, k ≤ m → (gramD N (ent rs) k).natAbs < Bp E) (hX : ∀ t, t < m → (dotN N (ent rs t) (ent rs t)).natAbs < Bp X) : RHand N m E X rs rs 1 1 :=
 ⟨hl, hr, hp, hE, SameL.refl _, fun t s ht hs => by omega, fun t ht => by omega, fun t _ ht => hX t ht, fun hm => Nat.lt_of_lt_of_le (hX 1 hm) (Bp_le (by omega)), fun s hs hsi => by omega⟩
theorem RHand.done {N m E X i j : Nat} {l0 rs : List (List Int)} (h : RHand N m E X l0 rs i j) (hi : m ≤ i) : IsReduced N (ent rs) m :=
 ⟨fun t s hs ht => by have := h.low t s (by omega) hs; have := h.pos (s + 1) (by omega); omega, fun t ht => h.step t (by omega)⟩
theorem gramDs_set {N m : Nat} {b b' : Nat → Nat → Int} {x : Int} {i : Nat} (h : ∀ k, k ≤ m → gramD N b' k = if k = i then x else gramD N b k) : (gramDs N b m).set i x = gramDs N b' m := by
 refine vec_ext (by simp [gramDs]) fun j hj => ?_;rw [List.length_set, gramDs_len] at hj;rw [gramDs_at (by omega), h j (by omega)];by_cases c : j = i
 ·subst c;rw [if_pos rfl];simp [List.getD, gramDs_len, hj]
 ·rw [if_neg c, show ((gramDs N b m).set i x).getD j 0 = (gramDs N b m).getD j 0 by simp [List.getD, List.getElem?_set_ne (Ne.symm c)], gramDs_at (by omega)]
theorem gramDs_same {N m : Nat} {b b' : Nat → Nat → Int} (h : ∀ k, k ≤ m → gramD N b' k = gramD N b k) : gramDs N b' m = gramDs N b m := by
 refine vec_ext (by simp [gramDs]) fun j hj => ?_;rw [gramDs_len] at hj;rw [gramDs_at (by omega), gramDs_at (by omega), h j (by omega)]
theorem gramV_pos {N : Nat} {b : Nat → Nat → Int} {i j : Nat} (h : gramD N b j ≠ 0) : gramV N b i j = gramM N b j i j := by unfold gramV; rw [if_neg h]
theorem mat_ext {gs hs : List (List Int)} (hl : gs.length = hs.length) (hr : ∀ t, t < gs.length → (gs.getD t []).length = (hs.getD t []).length) (h : ∀ t, t < gs.length → ∀ s, s < (gs.getD t []).length → (gs.getD t []).getD s 0 = (hs.getD t []).getD s 0) : gs = hs := by
 refine List.ext_getElem hl fun t h1 h2 => ?_;have e1 : gs[t] = gs.getD t [] := by simp [List.getD, h1]
 have e2 : hs[t] = hs.getD t [] := by simp [List.getD, h2]
 rw [e1, e2];exact vec_ext (hr t h1) fun s hs => h t h1 s hs
theorem gramGs_lower {N m i j : Nat} {b b' : Nat → Nat → Int} {q : Int} {g : List Int} (hi : i < m) (hb : ∀ k, k ≤ m → gramD N b k ≠ 0) (hb' : ∀ k, k ≤ m → gramD N b' k ≠ 0) (h : ∀ t s, t < m → s < t → gramM N b' s t s = if t = i then gramM N b s i s - q * gramM N b s j s else gramM N b s t s) (hgl : g.length = i) (hg : ∀ s, s < i → g.getD s 0 = gramM N b s i s - q * gramM N b s j s) : (gramGs N b m).set i g = gramGs N b' m := by
 refine mat_ext (by simp [gramGs]) (fun t ht => ?_) fun t ht s hs => ?_
 ·rw [List.length_set, gramGs_len] at ht;rw [gramGs_at ht, gramL_len];by_cases c : t = i
  ·subst c; rw [gset_self (by rw [gramGs_len]; exact ht)]; exact hgl
  ·rw [gset_other c, gramGs_at ht, gramL_len]
 ·rw [List.length_set, gramGs_len] at ht;rw [gramGs_at (b := b') ht];by_cases c : t = i
  ·subst c;rw [gset_self (by rw [gramGs_len]; exact ht)] at hs ⊢;rw [hgl] at hs;rw [gramL_at hs, gramV_pos (hb' s (by omega)), h t s ht hs, if_pos rfl]; exact hg s hs
  ·rw [gset_other c, gramGs_at ht] at hs ⊢;rw [gramL_len] at hs;rw [gramL_at hs, gramL_at hs, gramV_pos (hb s (by omega)), gramV_pos (hb' s (by omega)), h t s ht hs, if_neg c]
end Go.Proofs.YtnpneloahajniaaGreat
