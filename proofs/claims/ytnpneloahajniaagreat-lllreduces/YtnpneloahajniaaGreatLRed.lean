/-
 What Reduce of package lll tells: reduced rows of the same lattice, of rows of three limbs, at most four.
-/
import Derived.Test.YtnpneloahajniaaGreatLInd
import Derived.Test.YtnpneloahajniaaGreatLLower
import Derived.Test.YtnpneloahajniaaGreatLSwap
import Derived.Test.YtnpneloahajniaaGreatGramLow
namespace Go.Proofs.YtnpneloahajniaaGreat
open Go.RowKit Lb
set_option maxRecDepth 20000

def RedTo (N : Nat) (rs : List (List Int)) (w : World) (e : Ending) (w' : World) : Prop := ∃ (a1 : Option Addr) (m c1 : Nat) (ms : List (List Int)), e = .returned (.tuple #[.slice a1 m c1, .int .i64 0]) ∧ MF w' a1 m c1 ms 294 ∧ (∀ t, t < m → (ms.getD t []).length = N) ∧ SameL rs ms ∧ gramD N (ent ms) m ≠ 0 ∧ IsReduced N (ent ms) m ∧ (∀ t, t < m → (dotN N (ent ms t) (ent ms t)).natAbs < Bp 294) ∧ m ≤ 4 ∧ Below w.heap.size w w'
set_option maxRecDepth 40000 in
set_option maxHeartbeats 2000000 in
theorem reduceNo (ao : Option Addr) (n cap : Nat) (rs : List (List Int)) (x : Int) (w : World) (h : ML w ao n cap rs) (hx : -9223372036854775808 ≤ x ∧ x ≤ 9223372036854775807) (hq : rform rs x = false) :
  Calls Tryz.prog 17 #[.slice ao n cap, .int .i64 x] w fun e w' => e = .returned (.tuple #[.slice none 0 0, .int .i64 1]) ∧ Below w.heap.size w w' := by
 go_enter Tryz.func17, Tryz.ntmps17
 go_wp2_with fail
 refine (rowsFormK ao n cap rs x w h hx false hq).mono ?_;rintro e w1 ⟨rfl, hb1⟩;go_wp2;refine bodyPost_ret (v := .tuple #[.slice none 0 0, .int .i64 1]) (by simp [results, Tryz.results17, go_sem, *]) rfl ?_;exact ⟨rfl, hb1⟩
structure RedAt (N m : Nat) (m0 : List (List Int)) (base gb : Nat) (w : World) (ms : List (List Int)) (i j : Nat) : Prop where
 hand : RHand N m 293 300 m0 ms i j
 bs : ∃ D, BS w base gb m D ms (gramDs N (ent ms) m) (gramGs N (ent ms) m) 8000
theorem red_K {m : Nat} (h : m ≤ 4) : 293 + (300 + (m + m) * (3 * 293 + 2)) ≤ 8000 := by
 have := Nat.mul_le_mul_right (3 * 293 + 2) (show m + m ≤ 8 by omega);omega
theorem red_lower {N m i j base gb : Nat} {m0 ms : List (List Int)} {w : World} (h : RedAt N m m0 base gb w ms i (j + 1)) (hm : m ≤ 4) (hN : N ≤ 64) (hbase : base ≤ w.heap.size) (hj : j < i) (hi : i < m) :
  Calls Tryz.prog 49 #[.pointer (some ⟨gb, 0, none⟩), .int .i64 (i : Int), .int .i64 (j : Int)] w fun e w' => ∃ ms2, e = .returned (.tuple #[]) ∧ RedAt N m m0 base gb w' ms2 i j ∧ gramP N (ent ms2) m = gramP N (ent ms) m ∧ (∀ k, k ≤ m → gramD N (ent ms2) k = gramD N (ent ms) k) ∧ (∀ s, j < s → s < i → gramM N (ent ms2) s i s = gramM N (ent ms) s i s) ∧ Below base w w' := by
 obtain ⟨hh, D, hS⟩ := h;have hK := red_K hm;have hgi : (gramGs N (ent ms) m).getD i [] = gramL N (ent ms) i := gramGs_at hi;have hgj : (gramGs N (ent ms) m).getD j [] = gramL N (ent ms) j := gramGs_at (by omega);have hdj : (gramDs N (ent ms) m).getD (j + 1) 0 = gramD N (ent ms) (j + 1) := gramDs_at (by omega);have hgv : (gramL N (ent ms) i).getD j 0 = gramM N (ent ms) j i j := by rw [gramL_at hj, gramV_pos (hh.ne j (by omega))]
 have hst := fun (q : Int) (hq : 2 * ((gramM N (ent ms) j i j - q * gramD N (ent ms) (j + 1)).natAbs : Int) ≤ gramD N (ent ms) (j + 1)) => rlow_step (K := 8000) hh (by omega) (by omega) hj hi hK q hq;refine (lowerK base gb m D ms _ _ 8000 N i j w hS hbase (by omega) (by omega) (by omega) hj hi (hh.rows i hi) (hh.rows j (by omega)) (by rw [hgi, gramL_len]) (by rw [hgj, gramL_len]) (by rw [hdj]; exact hh.pos _ (by omega)) (by omega) ?_).mono ?_
 ·intro q hq;rw [hgi, hgj, hdj] at *;rw [hgv] at hq;have h1 := hst q hq;refine ⟨fun s => ?_, fun s => ?_⟩
  ·have := h1.lt s
   rwa [ent_same (by rw [hh.len]; exact hi)] at this
  ·have := h1.glt s
   rwa [gset_self (by rw [gramGs_len]; exact hi)] at this
 ·rintro e w' ⟨q, D2, rfl, hq, hS2, hb⟩;rw [hgi, hgj, hdj] at *;rw [hgv] at hq;have h1 := hst q hq;rw [h1.gseq, ← h1.dseq] at hS2;exact ⟨_, rfl, ⟨h1.hand, D2, hS2⟩, h1.pot, h1.d, h1.keep, hb⟩
theorem red_swap {N m p base gb : Nat} {m0 ms : List (List Int)} {w : World} (h : RedAt N m m0 base gb w ms (p + 1) p) (hm : m ≤ 4) (hbase : base ≤ w.heap.size) (hp : p + 1 < m) (hq : 4 * (gramD N (ent ms) (p + 2) * gramD N (ent ms) p + gramM N (ent ms) p (p + 1) p * gramM N (ent ms) p (p + 1) p) < 3 * (gramD N (ent ms) (p + 1) * gramD N (ent ms) (p + 1))) :
  Calls Tryz.prog 50 #[.pointer (some ⟨gb, 0, none⟩), .int .i64 ((p + 1 : Nat) : Int)] w fun e w' => ∃ ms2, e = .returned (.tuple #[]) ∧ RedAt N m m0 base gb w' ms2 (max p 1) (max p 1) ∧ gramP N (ent ms2) m < gramP N (ent ms) m ∧ Below base w w' := by
 obtain ⟨hh, D, hS⟩ := h;have hK := red_K hm;have ht := rturn_step (K := 8000) hh (by omega) (by omega) hp hK hq;have hgt : ∀ t, t < m → (gramGs N (ent ms) m).getD t [] = gramL N (ent ms) t := fun t ht => gramGs_at ht;have hdt : ∀ t, t ≤ m → (gramDs N (ent ms) m).getD t 0 = gramD N (ent ms) t := fun t ht => gramDs_at ht;have hgv : ∀ t s, s < t → t < m → (gramL N (ent ms) t).getD s 0 = gramM N (ent ms) s t s := fun t s hs ht => by rw [gramL_at hs, gramV_pos (hh.ne s (by omega))]
 refine (swapK base gb m D ms _ _ 8000 p (gramD N (turnR (ent ms) p) (p + 1)) (fun t => gramM N (turnR (ent ms) p) p t p) (fun t => gramM N (turnR (ent ms) p) (p + 1) t (p + 1)) w hS hbase (by omega) (by omega) hp (fun t ht => by rw [hgt t ht, gramL_len]) (by rw [hdt _ (by omega)]; exact hh.ne _ (by omega)) (by rw [hdt _ (by omega)]; exact hh.ne _ (by omega)) ?_ ht.nx ?_).mono ?_
 ·rw [hdt _ (by omega), hdt _ (by omega), hdt _ (by omega), hgt _ hp, hgv _ _ (by omega) hp];exact turnR_D (hh.ne _ (by omega)) (hh.ne _ (by omega))
 ·intro t h1 h2;rw [hdt _ (by omega), hdt _ (by omega), hgt _ hp, hgt _ h2, hgv _ _ (by omega) hp, hgv _ _ (by omega) h2, hgv _ _ (by omega) h2];have hs := turn_shares (N := N) (b := ent ms) (p := p) (l := t) (hh.ne _ (by omega)) (hh.ne _ (by omega)) h1;exact ⟨hs.1, hs.2, (ht.f t h1 h2).1, (ht.f t h1 h2).2⟩
 ·rintro e w' ⟨D2, gs2, rfl, hS2, hl, hent, hb⟩;have hg2 : gs2 = gramGs N (turnR (ent ms) p) m := turn_list hp hh.ne ht.nx0 hS2.r.g.len hl fun t s h1 h2 => by
   rw [hent t s h1 h2];by_cases c : p + 1 < t
   ·rw [if_pos c, if_pos c];by_cases c1 : s = p
    ·rw [if_pos c1, if_pos c1]
    ·rw [if_neg c1, if_neg c1];by_cases c2 : s = p + 1
     ·rw [if_pos c2, if_pos c2]
     ·rw [if_neg c2, if_neg c2, hgt t h1, hgv t s h2 h1]
   ·rw [if_neg c, if_neg c];by_cases c1 : t = p
    ·rw [if_pos c1, if_pos c1, hgt _ hp, hgv _ _ (by omega) hp]
    ·rw [if_neg c1, if_neg c1];by_cases c2 : t = p + 1
     ·rw [if_pos c2, if_pos c2];by_cases c3 : s = p
      ·rw [if_pos c3, if_pos c3, hgt _ hp, hgv _ _ (by omega) hp]
      ·rw [if_neg c3, if_neg c3, hgt _ (by omega), hgv _ _ (by omega) (by omega)]
     ·rw [if_neg c2, if_neg c2, hgt t h1, hgv t s h2 h1]
  rw [hg2, ht.ds, ← ht.ent] at hS2;exact ⟨_, rfl, ⟨ht.hand, D2, hS2⟩, by rw [ht.ent]; exact ht.pot, hb⟩
theorem red_long {N m p base gb : Nat} {m0 ms : List (List Int)} {w : World} (h : RedAt N m m0 base gb w ms (p + 1) p) (hm : m ≤ 4) (hp : p + 1 < m) :
  Calls Tryz.prog 32 #[.pointer (some ⟨gb, 0, none⟩), .int .i64 ((p + 1 : Nat) : Int)] w fun e w' => e = .returned (.bool (decide (3 * (gramD N (ent ms) (p + 1) * gramD N (ent ms) (p + 1)) ≤ 4 * (gramD N (ent ms) (p + 2) * gramD N (ent ms) p + gramM N (ent ms) p (p + 1) p * gramM N (ent ms) p (p + 1) p)))) ∧ Below w.heap.size w w' := by
 obtain ⟨hh, D, hS⟩ := h;have h1 := isLongK base gb m D ms _ _ 8000 p w hS (by omega) (by omega) hp (by rw [gramGs_at hp, gramL_len]; omega)
 rwa [gramDs_at (by omega), gramDs_at (by omega), gramDs_at (by omega), gramGs_at hp, gramL_at (by omega), gramV_pos (hh.ne p (by omega))] at h1
theorem RedAt.za {N m i j base gb : Nat} {m0 ms : List (List Int)} {w w' : World} (h : RedAt N m m0 base gb w ms i j) (hb : Below w.heap.size w w') : RedAt N m m0 base gb w' ms i j := ⟨h.hand, by obtain ⟨D, hS⟩ := h.bs; exact ⟨D, hS.za hb⟩⟩
set_option maxRecDepth 40000 in
set_option maxHeartbeats 3000000 in
theorem reduceK (ao : Option Addr) (n cap : Nat) (rs : List (List Int)) (N : Nat) (w : World) (h : MK w ao n cap rs 3) (hn : n ≤ 4) (hN : ∀ i, i < n → (rs.getD i []).length = N) (hN1 : 1 ≤ N) (hN9 : N ≤ 64) :
  Calls Tryz.prog 17 #[.slice ao n cap, .int .i64 (N : Int)] w fun e w' => RedTo N rs w e w' := by
 have hL := h.len_eq;have HRF := zh (show rform rs (N : Int) = true from rform_yes (by omega) fun i hi => by rw [hN i (by omega)]);have hx : -9223372036854775808 ≤ (N : Int) ∧ (N : Int) ≤ 9223372036854775807 := by omega
 have HN := zh hN;clear hL hN;go_enter Tryz.func17, Tryz.ntmps17
 go_wp2_with fail
 refine (rowsFormK ao n cap rs N w h.ml hx true (zu HRF)).mono ?_;rintro e w1 ⟨rfl, hb1⟩
 go_wp2_with fail
 refine (independentK ao n cap rs N w1 (h.za hb1) hn (zu HN) hN1 hN9).mono ?_;rintro e w2 ⟨D, m, m0, rfl, hR, hml, hr0, hs0, hd0, hdt, hm4, hb2⟩;have hsz1 := hb1.size;have hsz2 := hb2.size;have HB0 := zh (Below.step hb1 hb2);have HD0 := zh hd0;have HS0 := zh hs0;have hh0 : RHand N m 293 300 m0 m0 1 1 := RHand.start hml hr0 (gramD_all hd0) (fun k hk => Nat.lt_of_lt_of_le (gramD_lt hdt k hk) (Bp_le (by have := Nat.mul_le_mul_right 73 (show k ≤ 4 by omega); omega))) fun t ht => Nat.lt_of_lt_of_le (hdt t ht) (Bp_le (by omega));have HH0 := zh hh0;clear hb1 hb2 hd0 hs0 hh0 hdt hr0 hml h HN
 go_wp2_with fail
 obtain ⟨W, hWe⟩ : ∃ W', W' = w2.alloc (.cells #[.slice (some ⟨D.gl, 0, none⟩) m D.cl, .slice (some ⟨D.gd, 0, none⟩) (m + 1) D.cd, .slice (some ⟨D.gg, 0, none⟩) m D.cg] 58) := ⟨_, rfl⟩;have hb9 : Below w2.heap.size w2 W := by rw [hWe]; exact below_new _ _
 have hA : RedAt N m m0 w1.heap.size w2.heap.size W m0 1 1 := ⟨zu HH0, D, hR.box hb9 (Nat.le_refl _) (by rw [hWe]; exact bbox_new _ _ _ _ _ _ _ _ _ _)⟩;rw [← hWe];clear hWe hR HH0;have HB := zh ((zu HB0).trans (hb9.mono (by omega)));clear hb9 HB0;obtain ⟨gb, egb⟩ : ∃ gb, gb = w2.heap.size := ⟨_, rfl⟩;rw [← egb] at hA ⊢;clear egb;obtain ⟨base, eba⟩ : ∃ base, base = w1.heap.size := ⟨_, rfl⟩;rw [← eba] at hA;have hbw : w.heap.size ≤ base := by omega
 have hbW : base ≤ W.heap.size := by
  obtain ⟨_, hS⟩ := hA.bs;have h1 := hS.r.l.lt;omega
 clear eba hsz1 hsz2
 go_loopg [7] ((gramP N (ent m0) m).toNat * 6 + 5) (fun g t wr => ∃ (i : Nat) (ms : List (List Int)), 1 ≤ i ∧ i ≤ m + 1 ∧ t = .int .i64 (i : Int) ∧ RedAt N m m0 base gb wr ms i i ∧ base ≤ wr.heap.size ∧ g = (gramP N (ent ms) m).toNat * 6 + (6 - i) ∧ Below w.heap.size w wr)
 case atStart => exact ⟨1, m0, by omega, by omega, by go_num, hA, hbW, rfl, zu HB⟩
 case round =>
  clear hA HB hbW;obtain ⟨i, ms, hi1, him, rfl, hA, hbW, hg, hB⟩ := hrel;have HB := zh hB;have HG := zh hg;clear hB hg;obtain ⟨D2, hS⟩ := hA.bs;have f0 : wr.cell? ⟨gb, 0, none⟩ = some (.slice (some ⟨D2.gl, 0, none⟩) m D2.cl) := hS.box.zb.1;have hgb := hS.box.lt;have HS := zh hS;clear hS;by_cases hlt : i < m
  ·obtain ⟨p, rfl⟩ : ∃ p, i = p + 1 := ⟨i - 1, by omega⟩;have hiI : ((p + 1 : Nat) : Int) < (m : Int) := by omega
   obtain ⟨i, ei⟩ : ∃ i, i = p + 1 := ⟨_, rfl⟩;rw [← ei] at hiI hA hlt ⊢;have EI := zh ei;have hw2 : IntKind.i64.wrap ((i : Int) - 1) = (p : Int) := by rw [IntKind.wrap_i64]; omega
   have hpi : p < i := by omega
   have hi6 : i < 4 := by omega
   clear ei hi1 him;have hA' : RedAt N m m0 base gb wr ms i (p + 1) := by have := hA; rw [← zu EI]; exact this
   have HA' := zh hA';clear hA'
   go_wp2_with fail
   refine (red_lower (zu HA') hm4 hN9 hbW hpi hlt).mono ?_;rintro e w3 ⟨ms2, rfl, hA2, hpo, hdk, hkp, hb3⟩;have hs3 := hb3.size;replace HB := zh ((zu HB).trans (hb3.mono hbw));replace HG : Hid (gk = (gramP N (ent ms2) m).toNat * 6 + (6 - i)) := zh (by rw [hpo, zu EI]; exact zu HG);clear hb3 hpo hdk hkp hA HA' f0 hgb HS;have hA3 : RedAt N m m0 base gb w3 ms2 (p + 1) p := by rw [← zu EI]; exact hA2
   have hlg := red_long hA3 hm4 (by rw [← zu EI]; exact hlt);obtain ⟨c, ec⟩ : ∃ c, c = decide (3 * (gramD N (ent ms2) (p + 1) * gramD N (ent ms2) (p + 1)) ≤ 4 * (gramD N (ent ms2) (p + 2) * gramD N (ent ms2) p + gramM N (ent ms2) p (p + 1) p * gramM N (ent ms2) p (p + 1) p)) := ⟨_, rfl⟩;rw [← ec] at hlg;rw [← zu EI] at hlg;have HLG := zh hlg;have HA3 := zh hA3;clear hlg hA3
   go_wp2_with fail
   refine (zu HLG).mono ?_;rintro e w4 ⟨rfl, hb4⟩;have hs4 := hb4.size;replace HA3 := zh ((zu HA3).za hb4);replace hA2 := hA2.za hb4;replace HB := zh (Below.step (zu HB) hb4);clear hb4 HLG;by_cases hc : 3 * (gramD N (ent ms2) (p + 1) * gramD N (ent ms2) (p + 1)) ≤ 4 * (gramD N (ent ms2) (p + 2) * gramD N (ent ms2) p + gramM N (ent ms2) p (p + 1) p * gramM N (ent ms2) p (p + 1) p)
   ·obtain rfl : c = true := by rw [ec]; exact decide_eq_true hc
    have HC := zh hc;clear ec hc HA3;have hw3 : IntKind.i64.wrap ((i : Int) - 2) = (p : Int) - 1 := by rw [IntKind.wrap_i64]; have := zu EI; omega
    have hbw4 : base ≤ w4.heap.size := by omega
    go_wp2_with fail
    go_loopw [8] (fun t wr => ∃ (j : Nat) (ms3 : List (List Int)), j ≤ p ∧ t = .int .i64 ((j : Int) - 1) ∧ RedAt N m m0 base gb wr ms3 i j ∧ base ≤ wr.heap.size ∧ gramP N (ent ms3) m = gramP N (ent ms2) m ∧ 3 * (gramD N (ent ms3) (p + 1) * gramD N (ent ms3) (p + 1)) ≤ 4 * (gramD N (ent ms3) (p + 2) * gramD N (ent ms3) p + gramM N (ent ms3) p (p + 1) p * gramM N (ent ms3) p (p + 1) p) ∧ Below w.heap.size w wr) (fun t _ => (intOf t + 1).toNat)
    case atStart => exact ⟨p, ms2, Nat.le_refl _, rfl, hA2, hbw4, rfl, zu HC, zu HB⟩
    case round =>
     clear hA2 HB HC hbw4;obtain ⟨j, ms3, hjp, rfl, hA3, hbw5, hpo, hlo, hB⟩ := hrel;have HB := zh hB;have HPO := zh hpo;have HLO := zh hlo;clear hB hpo hlo;rcases Nat.eq_zero_or_pos j with hj0 | hj0
     ·subst hj0;have hnx : RedAt N m m0 base gb wr ms3 (i + 1) (i + 1) := by
       obtain ⟨hh, hS⟩ := hA3;refine ⟨hh.next (by omega) hlt ?_, hS⟩;rw [show i - 1 = p by have := zu EI; omega, show i + 1 = p + 2 by have := zu EI; omega, zu EI];exact zu HLO
      have HNX := zh hnx;clear hnx hA3;go_wp2
      go_roundg ((gramP N (ent ms3) m).toNat * 6 + (6 - (i + 1)))
      case rel => exact ⟨i + 1, ms3, by omega, by omega, by go_num, zu HNX, hbw5, rfl, zu HB⟩
      case measure => rw [zu HG, zu HPO]; omega
     ·obtain ⟨jj, rfl⟩ : ∃ jj, j = jj + 1 := ⟨j - 1, by omega⟩;rw [show (((jj + 1 : Nat) : Int) - 1) = (jj : Int) by omega];have hjI : (0 : Int) ≤ (jj : Int) := by omega
      have HA3 := zh hA3;clear hA3
      go_wp2_with fail
      refine (red_lower (zu HA3) hm4 hN9 hbw5 (by omega) hlt).mono ?_;rintro e w6 ⟨ms4, rfl, hA4, hpo4, hdk, hkp, hb6⟩;have hs6 := hb6.size;replace HB := zh ((zu HB).trans (hb6.mono hbw));have HLO4 : Hid (3 * (gramD N (ent ms4) (p + 1) * gramD N (ent ms4) (p + 1)) ≤ 4 * (gramD N (ent ms4) (p + 2) * gramD N (ent ms4) p + gramM N (ent ms4) p (p + 1) p * gramM N (ent ms4) p (p + 1) p)) := zh (by
       have e1 := hkp p (by omega) hpi;rw [zu EI] at e1;rw [hdk _ (by omega), hdk _ (by have := zu EI; omega), hdk _ (by omega), e1];exact zu HLO)
      have HPO4 := zh (hpo4.trans (zu HPO));have HA4 := zh hA4;have hbw7 : base ≤ w6.heap.size := by omega
      clear hb6 hdk hkp hpo4 HLO HPO HA3 hA4;go_wp2;go_roundw
      case rel => exact ⟨jj, ms4, by omega, by go_num, zu HA4, hbw7, zu HPO4, zu HLO4, zu HB⟩
      case measure => simp [intOf]
   ·obtain rfl : c = false := by rw [ec]; exact decide_eq_false hc
    have hsw := red_swap (zu HA3) hm4 (show base ≤ w4.heap.size by omega) (by rw [← zu EI]; exact hlt) (by omega);rw [← zu EI] at hsw;have HSW := zh hsw;clear ec hc HA3 hA2 hsw;have hmax : ∀ ts t W, (Builtin.max_ ts t #[.int .i64 (p : Int), .int .i64 1]).run Tryz.prog W = .ok (.int .i64 ((max p 1 : Nat) : Int)) W := max_len p 1
    go_wp2_with fail
    refine (zu HSW).mono ?_;rintro e w5 ⟨ms3, rfl, hA5, hpl, hb5⟩;have hs5 := hb5.size;have hpos := gramP_pos (N := N) (b := ent ms3) m (fun a ha => hA5.hand.pos a (by omega));have hbw5 : base ≤ w5.heap.size := by omega
    replace HB := zh ((zu HB).trans (hb5.mono hbw));have HA5 := zh hA5;have HPL := zh hpl;have HPP := zh hpos;obtain ⟨i2, ei2⟩ : ∃ i2, i2 = max p 1 := ⟨_, rfl⟩;rw [← ei2] at hmax HA5;have EI2 := zh ei2;clear hb5 HSW hA5 hpl hpos ei2;go_wp2
    go_roundg ((gramP N (ent ms3) m).toNat * 6 + (6 - i2))
    case rel => exact ⟨i2, ms3, by have := zu EI2; omega, by have := zu EI2; omega, by go_num, zu HA5, hbw5, rfl, zu HB⟩
    case measure =>
     rw [zu HG];have h1 := zu HPL;have h2 := zu HPP;have h3 := zu EI2;omega
  ·have hge : m ≤ i := by omega
   have hiI : ¬ (i : Int) < (m : Int) := by omega
   have hred := hA.hand.done hge;have hnorm : ∀ t, t < m → (dotN N (ent ms t) (ent ms t)).natAbs < Bp 294 := fun t ht => red_norm ht (by omega) hA.hand.pos hA.hand.lt fun s hs => hA.hand.low t s (by omega) hs;have hmf : MF wr (some ⟨D2.gl, 0, none⟩) m D2.cl ms 294 := by
    have h1 := (zu HS).r.l.tight (k := 294) fun t ht s => by
     by_cases c : s < N
     ·exact Nat.lt_of_le_of_lt (ent_le_dot c) (hnorm t ht)
     ·rw [show ent ms t s = 0 from getD_out (by rw [hA.hand.rows t ht]; omega)]; exact Bp_pos _
    exact h1.mf
   have hfin : RedTo N rs w (.returned (.tuple #[.slice (some ⟨D2.gl, 0, none⟩) m D2.cl, .int .i64 0])) wr := ⟨_, m, _, ms, rfl, hmf, hA.hand.rows, (zu HS0).trans hA.hand.same, hA.hand.ne m (Nat.le_refl _), hred, hnorm, hm4, zu HB⟩;have HF := zh hfin;clear hred hnorm hmf hfin hA HS HG;go_wp2;refine bodyPost_ret (v := .tuple #[.slice (some ⟨D2.gl, 0, none⟩) m D2.cl, .int .i64 0]) (by simp [results, Tryz.results17, go_sem, *]) rfl ?_;exact zu HF
end Go.Proofs.YtnpneloahajniaaGreat
