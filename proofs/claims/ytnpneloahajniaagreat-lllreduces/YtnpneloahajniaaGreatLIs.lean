/-
 What Is of package lll tells: whether rows do not depend on one another and are reduced.
-/
import Derived.Test.YtnpneloahajniaaGreatLNew
import Derived.Test.YtnpneloahajniaaGreatLRead
import Derived.Test.YtnpneloahajniaaGreatGramTurn
import Derived.Test.YtnpneloahajniaaGreatJR
namespace Go.Proofs.YtnpneloahajniaaGreat
open Go.RowKit Lb
set_option maxRecDepth 20000

theorem indep_places {l : List (List Int)} {N : Nat} (hN : ∀ t, t < l.length → (l.getD t []).length = N) (h : Indep l.length (ent l)) : l.length ≤ N :=
 h.le (r := N) (H := fun i j => if j = i then 1 else 0) fun t ht => ⟨1, by decide, fun i => ent l t i, fun j => by
  show 1 * ent l t j = sumN N fun i => ent l t i * (if j = i then 1 else 0);by_cases c : j < N
  ·rw [Int.one_mul, ← sumN_single N j (ent l t j) c];exact sumN_congr fun i _ => by
    by_cases e : i = j
    ·subst e; rw [if_pos rfl, if_pos rfl, Int.mul_one]
    ·rw [if_neg e, if_neg (Ne.symm e), Int.mul_zero]
  ·rw [show ent l t j = 0 from getD_out (by rw [hN t ht]; omega), Int.mul_zero];exact ((sumN_congr fun i hi => by rw [if_neg (by omega), Int.mul_zero]).trans (sumN_nil0 N)).symm⟩
theorem rows_dep {l : List (List Int)} {N n : Nat} (hl : l.length = n) (hN : ∀ t, t < n → (l.getD t []).length = N) (h : N < n) : gramD N (ent l) n = 0 := by
 subst hl;by_cases e : gramD N (ent l) l.length = 0
 ·exact e
 ·have := indep_places hN ((indep_gramD fun r hr => by
   obtain ⟨i, hi, rfl⟩ := List.mem_iff_getElem.1 hr;have := hN i hi;rw [List.getD_eq_getElem?_getD, List.getElem?_eq_getElem hi] at this;simp only [Option.getD_some] at this;omega).1 e)
  omega
def IsTo (N n : Nat) (rs : List (List Int)) (w : World) (e : Ending) (w' : World) : Prop := ∃ c : Bool, e = .returned (.bool c) ∧ (c = true ↔ gramD N (ent rs) n ≠ 0 ∧ IsReduced N (ent rs) n) ∧ Below w.heap.size w w'
set_option maxRecDepth 40000 in
set_option maxHeartbeats 3000000 in
theorem lllIsK (ao : Option Addr) (n cap : Nat) (rs : List (List Int)) (k N q Kc : Nat) (w : World) (h : MK w ao n cap rs k) (hk : k ≤ 9000) (hn : n ≤ 100) (hN : ∀ i, i < n → (rs.getD i []).length = N) (hN1 : 1 ≤ N) (hN9 : N ≤ 64) (hq : ∀ t, t < n → (dotN N (ent rs t) (ent rs t)).natAbs < Bp q) (hK : (n + 1) * q + 1 ≤ Kc) (hK2 : Kc ≤ 100000) (hkK : k + 1 ≤ Kc) (hk1 : 1 ≤ k) :
  Calls Tryz.prog 10 #[.slice ao n cap, .int .i64 (N : Int)] w fun e w' => IsTo N n rs w e w' := by
 have hL := h.len_eq;have HRF := zh (show rform rs (N : Int) = true from rform_yes (by omega) fun i hi => by rw [hN i (by omega)]);have HDP := zh (fun (c : N < n) => rows_dep hL hN c);have HNB := zh (newBasisK ao n cap rs k N q Kc) ;have HN := zh hN;have HQ := zh hq;have HK := zh hK;have hx : -9223372036854775808 ≤ (N : Int) ∧ (N : Int) ≤ 9223372036854775807 := by omega
 clear hN hq hK;by_cases hlt : N < n
 ·have hI : (N : Int) < (n : Int) := by omega
  go_enter Tryz.func10, Tryz.ntmps10
  go_wp2_with fail
  refine (rowsFormK ao n cap rs N w h.ml hx true (zu HRF)).mono ?_;rintro e w1 ⟨rfl, hb1⟩;go_wp2;go_ret;exact ⟨false, rfl, ⟨fun e => by simp at e, fun e => absurd (zu HDP hlt) e.1⟩, hb1⟩
 ·have hI : ¬ (N : Int) < (n : Int) := by omega
  go_enter Tryz.func10, Tryz.ntmps10
  go_wp2_with fail
  refine (rowsFormK ao n cap rs N w h.ml hx true (zu HRF)).mono ?_;rintro e w1 ⟨rfl, hb1⟩
  go_wp2_with fail
  refine (zu HNB w1 (h.za hb1) hk hn (fun i hi => Nat.le_of_eq (zu HN i hi)) (by omega) (zu HQ) (zu HK) hK2 hkK hk1).mono ?_;rintro e w2 ⟨D, rfl, hR, hb2⟩;have HB := zh (Below.step hb1 hb2);clear hb1 hb2
  go_wp2_with fail
  obtain ⟨W, hWe⟩ : ∃ W', W' = w2.alloc (.cells #[.slice (some ⟨D.gl, 0, none⟩) n D.cl, .slice (some ⟨D.gd, 0, none⟩) (n + 1) D.cd, .slice (some ⟨D.gg, 0, none⟩) n D.cg] 58) := ⟨_, rfl⟩;have hb9 : Below w2.heap.size w2 W := by rw [hWe]; exact below_new _ _
  have hS : BS W w1.heap.size w2.heap.size n D rs (gramDs N (ent rs) n) (gramGs N (ent rs) n) Kc := hR.box hb9 (Nat.le_refl _) (by rw [hWe]; exact bbox_new _ _ _ _ _ _ _ _ _ _);rw [← hWe];clear hWe hR;replace HB := zh (Below.step (zu HB) hb9);clear hb9;refine (dependsK _ _ n D rs _ _ Kc _ hS (by omega) (by omega)).mono ?_;rintro e w3 ⟨rfl, hb3⟩;rw [gramDs_at (Nat.le_refl n)];replace hS := hS.za hb3;replace HB := zh (Below.step (zu HB) hb3);clear hb3;by_cases h0 : gramD N (ent rs) n = 0
  ·have hdec : decide (gramD N (ent rs) n = 0) = true := decide_eq_true h0;rw [hdec];have H0 := zh h0;clear h0 hdec;go_wp2;go_ret;exact ⟨false, rfl, ⟨fun e => by simp at e, fun e => absurd (zu H0) e.1⟩, zu HB⟩
  ·have hdec : decide (gramD N (ent rs) n = 0) = false := decide_eq_false h0;rw [hdec];have H0 := zh h0;have HPOS := zh (gramD_all h0);clear h0 hdec;obtain ⟨gb, egb⟩ : ∃ gb, gb = w2.heap.size := ⟨_, rfl⟩;rw [← egb] at hS ⊢;clear egb;obtain ⟨base, eba⟩ : ∃ base, base = w1.heap.size := ⟨_, rfl⟩;rw [← eba] at hS;clear eba
   go_wp2_with fail
   go_loopw [23] (fun t wr => ∃ i : Nat, i ≤ n ∧ t = .int .i64 (i : Int) ∧ BS wr base gb n D rs (gramDs N (ent rs) n) (gramGs N (ent rs) n) Kc ∧ (∀ t s, t < i → s < t → 2 * (gramM N (ent rs) s t s).natAbs ≤ (gramD N (ent rs) (s + 1)).natAbs) ∧ (∀ t, t + 1 < i → 3 * (gramD N (ent rs) (t + 1) * gramD N (ent rs) (t + 1)) ≤ 4 * (gramD N (ent rs) (t + 2) * gramD N (ent rs) t + gramM N (ent rs) t (t + 1) t * gramM N (ent rs) t (t + 1) t)) ∧ Below w.heap.size w wr) (fun t _ => n - (intOf t).toNat)
   case atStart => exact ⟨0, Nat.zero_le _, rfl, hS, fun t s ht => absurd ht (by omega), fun t ht => absurd ht (by omega), zu HB⟩
   case round =>
    clear hS HB;obtain ⟨wo, ewo⟩ : ∃ x, x = wr := ⟨_, rfl⟩;rw [← ewo] at hrel ⊢;clear ewo;obtain ⟨i, hi, rfl, hS, hlow, hstep, hB⟩ := hrel;have HB := zh hB;have HLOW := zh hlow;have HSTEP := zh hstep;clear hB hlow hstep;by_cases hlt2 : i < n
    ·have hi1 : (i : Int) < (n : Int) := by omega
     go_wp2_with fail
     go_loopw [27] (fun t wr => ∃ j : Nat, j ≤ i ∧ t = .int .i64 (j : Int) ∧ BS wr base gb n D rs (gramDs N (ent rs) n) (gramGs N (ent rs) n) Kc ∧ (∀ s, s < j → 2 * (gramM N (ent rs) s i s).natAbs ≤ (gramD N (ent rs) (s + 1)).natAbs) ∧ Below w.heap.size w wr) (fun t _ => i - (intOf t).toNat)
     case atStart => exact ⟨0, Nat.zero_le _, rfl, hS, fun s hs => absurd hs (by omega), zu HB⟩
     case round =>
      clear hS HB;obtain ⟨j, hj, rfl, hS, hlo, hB⟩ := hrel;have HB := zh hB;have HLO := zh hlo;clear hB hlo;by_cases hji : j < i
      ·have hj1 : (j : Int) < (i : Int) := by omega
       have hpj := zu HPOS (j + 1) (by omega);have hlw := isLowK base gb n D rs _ _ Kc i j wr hS (by omega) (by omega) hlt2 (by omega) (by rw [gramGs_at hlt2, gramL_len]; exact hji);rw [gramGs_at hlt2, gramL_at hji, gramDs_at (show j + 1 ≤ n by omega), gramV_pos (by have := zu HPOS j (by omega); omega)] at hlw;obtain ⟨c, ec⟩ : ∃ c, c = decide (2 * ((gramM N (ent rs) j i j).natAbs : Int) ≤ gramD N (ent rs) (j + 1)) := ⟨_, rfl⟩;rw [← ec] at hlw;have HLW := zh hlw;have HPJ := zh hpj;clear hlw hpj
       go_wp2_with fail
       refine (zu HLW).mono ?_;rintro e w5 ⟨rfl, hb5⟩;replace hS := hS.za hb5;replace HB := zh (Below.step (zu HB) hb5);clear hb5 HLW;by_cases hc : 2 * ((gramM N (ent rs) j i j).natAbs : Int) ≤ gramD N (ent rs) (j + 1)
       ·obtain rfl : c = true := by rw [ec]; exact decide_eq_true hc
        have HC := zh hc;clear ec hc;go_wp2;go_roundw
        case rel =>
         refine ⟨j + 1, by omega, by go_num, hS, fun s hs => ?_, zu HB⟩;by_cases e : s = j
         ·subst e; have := zu HC; have := zu HPJ; omega
         ·exact zu HLO s (by omega)
        case measure => simp [intOf]; omega
       ·obtain rfl : c = false := by rw [ec]; exact decide_eq_false hc
        have HC := zh hc;clear ec hc;go_wp2;go_ret;exact ⟨false, rfl, ⟨fun e => by simp at e, fun e => absurd (e.2.small i j hji hlt2) (by have := zu HC; have := zu HPJ; omega)⟩, zu HB⟩
      ·have hji2 : j = i := by omega
       subst hji2;have hjj : ¬ (j : Int) < (j : Int) := by omega
       rcases Nat.eq_zero_or_pos j with hj0 | hj0
       ·subst hj0;go_wp2;go_roundw
        case rel =>
         refine ⟨1, by omega, by go_num, hS, fun t s ht hs => by omega, fun t ht => by omega, zu HB⟩
        case measure => simp [intOf]; omega
       ·obtain ⟨m, rfl⟩ : ∃ m, j = m + 1 := ⟨j - 1, by omega⟩;have hlg := isLongK base gb n D rs _ _ Kc m wr hS (by omega) (by omega) hlt2 (by rw [gramGs_at hlt2, gramL_len]; omega);rw [gramGs_at hlt2, gramL_at (show m < m + 1 by omega), gramDs_at (show m + 1 ≤ n by omega), gramDs_at (show m + 2 ≤ n by omega), gramDs_at (show m ≤ n by omega), gramV_pos (by have := zu HPOS m (by omega); omega)] at hlg;obtain ⟨i1, ei1⟩ : ∃ i1, i1 = m + 1 := ⟨_, rfl⟩;have hji0 : (0 : Int) < (i1 : Int) := by omega
        obtain ⟨c, ec⟩ : ∃ c, c = decide (3 * (gramD N (ent rs) (m + 1) * gramD N (ent rs) (m + 1)) ≤ 4 * (gramD N (ent rs) (m + 2) * gramD N (ent rs) m + gramM N (ent rs) m (m + 1) m * gramM N (ent rs) m (m + 1) m)) := ⟨_, rfl⟩;rw [← ec] at hlg;have HLG := zh hlg;have HLO2 : Hid (∀ s, s < i1 → 2 * (gramM N (ent rs) s i1 s).natAbs ≤ (gramD N (ent rs) (s + 1)).natAbs) := zh (by rw [ei1]; exact zu HLO);have HLOW2 : Hid (∀ t s, t < i1 → s < t → 2 * (gramM N (ent rs) s t s).natAbs ≤ (gramD N (ent rs) (s + 1)).natAbs) := zh (by rw [ei1]; exact zu HLOW);have HSTEP2 : Hid (∀ t, t + 1 < i1 → 3 * (gramD N (ent rs) (t + 1) * gramD N (ent rs) (t + 1)) ≤ 4 * (gramD N (ent rs) (t + 2) * gramD N (ent rs) t + gramM N (ent rs) t (t + 1) t * gramM N (ent rs) t (t + 1) t)) := zh (by rw [ei1]; exact zu HSTEP);have hi9 : i1 < n := by omega
        rw [← ei1] at hjj HLG hi1 ⊢;have EI := zh ei1;clear hlg HLO HLOW HSTEP ei1 hj0
        go_wp2_with fail
        refine (zu HLG).mono ?_;rintro e w5 ⟨rfl, hb5⟩;replace hS := hS.za hb5;replace HB := zh (Below.step (zu HB) hb5);clear hb5 HLG;by_cases hc : 3 * (gramD N (ent rs) (m + 1) * gramD N (ent rs) (m + 1)) ≤ 4 * (gramD N (ent rs) (m + 2) * gramD N (ent rs) m + gramM N (ent rs) m (m + 1) m * gramM N (ent rs) m (m + 1) m)
        ·obtain rfl : c = true := by rw [ec]; exact decide_eq_true hc
         have HC := zh hc;clear ec hc;go_wp2;go_roundw
         case rel =>
          refine ⟨i1 + 1, by omega, by go_num, hS, fun t s ht hs => ?_, fun t ht => ?_, zu HB⟩
          ·by_cases e : t = i1
           ·subst e; exact zu HLO2 s hs
           ·exact zu HLOW2 t s (by omega) hs
          ·by_cases e : t = m
           ·subst e; exact zu HC
           ·exact zu HSTEP2 t (by have := zu EI; omega)
         case measure => simp [intOf]; have := zu EI; omega
        ·obtain rfl : c = false := by rw [ec]; exact decide_eq_false hc
         have HC := zh hc;clear ec hc;go_wp2;go_ret;exact ⟨false, rfl, ⟨fun e => by simp at e, fun e => absurd (e.2.step m (by have := zu EI; omega)) (Int.not_le.2 (zu HC))⟩, zu HB⟩
    ·have hin : i = n := by omega
     subst hin;have hii : ¬ (i : Int) < (i : Int) := by omega
     go_wp2;go_ret;exact ⟨true, rfl, ⟨fun _ => ⟨zu H0, fun t s hs ht => zu HLOW t s ht hs, zu HSTEP⟩, fun _ => rfl⟩, zu HB⟩
end Go.Proofs.YtnpneloahajniaaGreat
