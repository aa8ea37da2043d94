/-
 The walk of LllGrams: it tells true.
-/
import Derived.Test.YtnpneloahajniaaGreatLLBase
import Derived.Test.YtnpneloahajniaaGreatJR
import Derived.Test.YtnpneloahajniaaGreatRHnf
import Derived.Test.YtnpneloahajniaaGreatRRed
namespace Go.Proofs.YtnpneloahajniaaGreat
open Go.RowKit Lb
set_option maxRecDepth 20000

theorem sumsK (ao : Option Addr) (n cap : Nat) (zs : List Int) (k : Nat) (ao' : Option Addr) (n' cap' : Nat) (ys : List Int) (l : Nat) (w : World) (h : VF w ao n cap zs k) (h' : VF w ao' n' cap' ys l) (e0 : zs = ys) :
  Calls Tryz.prog 14 #[.slice ao n cap, .slice ao' n' cap'] w fun e w' => e = .returned (.bool true) ∧ Below w.heap.size w w' := by
 go_enter Tryz.func14, Tryz.ntmps14
 go_wp2_with fail
 refine (rvsameK ao n cap zs k ao' n' cap' ys l _ h h' e0).mono ?_;rintro e w1 ⟨rfl, hb1⟩;go_wp2;go_ret;exact ⟨rfl, hb1⟩
set_option maxRecDepth 40000 in
set_option maxHeartbeats 6000000 in
theorem lllGrams_walk (a0 : Option Addr) (len0 cap0 : Nat) (rs0 : List (List Int)) (m1 : Int) (w : World) (r0 : MI w a0 len0 cap0 rs0) (r1 : (Lit.int .i64 m1).wf = true) :
  Calls Tryz.prog 3 #[.slice a0 len0 cap0, .int .i64 m1] w fun e w' => e = .returned (.bool true) ∧ Below w.heap.size w w' := by
 have hm1 := bounds_i64 r1;clear r1;go_enter Tryz.func3, Tryz.ntmps3
 go_wp2_with fail
 refine (heavyK a0 len0 cap0 rs0 4 7 _ r0 (by omega) (by omega)).mono ?_;rintro e w1 ⟨q, rfl, hq, hlt, hb1⟩;have HB := zh hb1;rcases hq with rfl | rfl
 ·obtain ⟨hn4, _, hms⟩ := hlt rfl;have hl := hms _ hb1;clear hms hlt hb1 r0
  go_wp2_with fail
  refine (cutsK a0 len0 cap0 rs0 3 m1 _ hl.mk (by omega)).mono ?_;rintro e w2 ⟨a2, c2, N, rfl, hN1, hN7, h2, hb1⟩;have HF := zh (cut_form rs0 hN1 hN7);obtain ⟨cl, ecl⟩ : ∃ cl, cl = rs0.map fun r => vcut r N := ⟨_, rfl⟩;rw [← ecl] at h2 HF;have HCL := zh h2.len_eq;have HRL : Hid (∀ i, i < len0 → (cl.getD i []).length = N) := zh fun i hi => by
   obtain ⟨M, e, _, _, h3⟩ := rform_rows (zu HF);rw [rows_len h3 i (by rw [zu HCL]; exact hi)];omega
  replace hl := hl.za hb1;replace HB := zh (Below.step (zu HB) hb1);clear hb1 ecl;have HMN := zh hl.mk.ml;clear hl;obtain ⟨qf, eqf⟩ : ∃ q, rform rs0 m1 = q := ⟨_, rfl⟩
  go_wp2_with fail
  refine (refFormK a0 len0 cap0 rs0 m1 _ (zu HMN) hm1 qf eqf).mono ?_;rintro e w3 ⟨rfl, hb9⟩;replace HMN := zh ((zu HMN).za hb9);replace h2 := h2.za hb9;replace HB := zh (Below.step (zu HB) hb9);clear hb9;cases qf
  ·go_wp2_with fail
   refine (lllIsNo a0 len0 cap0 rs0 m1 _ (zu HMN) hm1 eqf).mono ?_;rintro e w4 ⟨rfl, hb9⟩;replace h2 := h2.za hb9;replace HB := zh (Below.step (zu HB) hb9);clear hb9 HMN eqf
   go_wp2_with fail
   refine (refHnfK a2 len0 c2 cl 3 N _ (h2.ms (by omega)) (by omega) (zu HRL) (by omega) (by omega) (small_aS (by omega)) (small_bS (by omega))).mono ?_;rintro e w5 ⟨a3, m, c3, p, hs, rfl, h3, hf, hsm, hhl, hmn, hb9⟩;have HML := zh h3.len_eq;replace h2 := h2.za hb9;replace HB := zh (Below.step (zu HB) hb9);clear hb9 h3;by_cases hm : m = len0
   ·have HD0 : Hid (gramD N (ent cl) len0 ≠ 0) := zh (by
     have := (indep_gramD (l := cl) (N := N) (rlen_le fun t ht => zu HRL t (by rw [zu HCL] at ht; exact ht))).2 (free_of_form hf.eform hsm (by rw [zu HML, zu HCL]; exact hm))
     rwa [zu HCL] at this)
    have HQ : Hid (∀ t, t < len0 → (dotN N (ent cl t) (ent cl t)).natAbs < Bp 7) := zh fun t ht => dotN_lt (a := 3) (by omega) (fun s _ => mf_ent h2 t s) fun s _ => mf_ent h2 t s;clear hf hsm hhl hmn HML;subst hm
    go_wp2_with fail
    refine (gramK a2 m c2 cl 3 N 7 100 _ (h2.mk (by omega)) (by omega) (by omega) (fun i hi => Nat.le_of_eq (zu HRL i hi)) (by omega) (zu HQ) (by omega) (by omega) (by omega)).mono ?_;rintro e w7 ⟨gd, cd, gg, us, U, rfl, hd, hg, _, _, hb9⟩;have HGD := zh hd.vf;have HGG := zh hg.mf;replace h2 := h2.za hb9;replace HB := zh (Below.step (zu HB) hb9);clear hb9 hd hg
    go_wp2_with fail
    refine (refGramK a2 m c2 cl 3 N 7 100 _ h2 (by omega) (by omega) (fun i hi => Nat.le_of_eq (zu HRL i hi)) (by omega) (zu HQ) (by omega) (by omega) (by omega) (zu HD0)).mono ?_;rintro e w8 ⟨gx, cx, ay, cy, rfl, hx, hy, hb9⟩;replace HGD := zh ((zu HGD).za hb9);replace HGG := zh ((zu HGG).za hb9);replace h2 := h2.za hb9;replace HB := zh (Below.step (zu HB) hb9);clear hb9
    go_wp2_with fail
    refine (sumsK _ _ _ (gramDs N (ent cl) m) 100 _ _ _ (gramDs N (ent cl) m) 100 _ (zu HGD) hx rfl).mono ?_;rintro e w9 ⟨rfl, hb9⟩;replace HGG := zh ((zu HGG).za hb9);replace hy := hy.za hb9;replace h2 := h2.za hb9;replace HB := zh (Below.step (zu HB) hb9);clear hb9 hx HGD
    go_wp2_with fail
    refine (refSameAllK _ _ _ (gramGs N (ent cl) m) 100 _ _ _ (gramGs N (ent cl) m) 100 _ (zu HGG) hy rfl).mono ?_;rintro e w10 ⟨rfl, hb9⟩;replace h2 := h2.za hb9;replace HB := zh (Below.step (zu HB) hb9);clear hb9 hy HGG
    go_wp2_with fail
    refine (lllIsK a2 m c2 cl 3 N 7 100 _ (h2.mk (by omega)) (by omega) (by omega) (zu HRL) (by omega) (by omega) (zu HQ) (by omega) (by omega) (by omega) (by omega)).mono ?_;rintro e w11 ⟨c, rfl, hc, hb9⟩;replace h2 := h2.za hb9;replace HB := zh (Below.step (zu HB) hb9);clear hb9
    go_wp2_with fail
    refine (refReducedK a2 m c2 cl 3 N 7 100 _ h2 (by omega) (by omega) (fun i hi => Nat.le_of_eq (zu HRL i hi)) (by omega) (zu HQ) (by omega) (by omega) (by omega) (zu HD0)).mono ?_;rintro e w12 ⟨c', rfl, hc', hb9⟩;have hcc : c = c' := by rw [Bool.eq_iff_iff, hc, hc']; exact ⟨fun h => h.2, fun h => ⟨zu HD0, h⟩⟩
    subst hcc;replace h2 := h2.za hb9;replace HB := zh (Below.step (zu HB) hb9);clear hb9 hc hc'
    go_wp2_with fail
    refine (awake13_any _).mono ?_;rintro e wv ⟨rfl, hb9⟩;go_wp2;go_ret;exact ⟨rfl, Below.step (zu HB) hb9⟩
   ·have hmI : ¬ (m : Int) = (len0 : Int) := by omega
    have HNF : Hid (gramD N (ent cl) len0 = 0) := zh (by
     by_cases e : gramD N (ent cl) len0 = 0
     ·exact e
     ·exfalso
      have := form_of_free hf.eform hsm ((indep_gramD (l := cl) (N := N) (rlen_le fun t ht => zu HRL t (by rw [zu HCL] at ht; exact ht))).1 (by rw [zu HCL]; exact e));rw [zu HML, zu HCL] at this;exact hm this)
    clear hf hsm hhl hmn HML
    go_wp2_with fail
    refine (lllIsK a2 len0 c2 cl 3 N 7 100 _ (h2.mk (by omega)) (by omega) (by omega) (zu HRL) (by omega) (by omega) (fun t ht => dotN_lt (a := 3) (by omega) (fun s _ => mf_ent h2 t s) fun s _ => mf_ent h2 t s) (by omega) (by omega) (by omega) (by omega)).mono ?_;rintro e w6 ⟨c, rfl, hc, hb9⟩;obtain rfl : c = false := by
     cases c with
     | false => rfl
     | true => exact absurd (zu HNF) (hc.1 rfl).1
    replace HB := zh (Below.step (zu HB) hb9);clear hb9 hc
    go_wp2_with fail
    refine (awake13_any _).mono ?_;rintro e wv ⟨rfl, hb9⟩;go_wp2;go_ret;exact ⟨rfl, Below.step (zu HB) hb9⟩;exact absurd ‹(!((m : Int) == (len0 : Int))) = false› (by simp [hmI])
  ·clear HMN eqf
   go_wp2_with fail
   refine (refHnfK a2 len0 c2 cl 3 N _ (h2.ms (by omega)) (by omega) (zu HRL) (by omega) (by omega) (small_aS (by omega)) (small_bS (by omega))).mono ?_;rintro e w5 ⟨a3, m, c3, p, hs, rfl, h3, hf, hsm, hhl, hmn, hb9⟩;have HML := zh h3.len_eq;replace h2 := h2.za hb9;replace HB := zh (Below.step (zu HB) hb9);clear hb9 h3;by_cases hm : m = len0
   ·have HD0 : Hid (gramD N (ent cl) len0 ≠ 0) := zh (by
     have := (indep_gramD (l := cl) (N := N) (rlen_le fun t ht => zu HRL t (by rw [zu HCL] at ht; exact ht))).2 (free_of_form hf.eform hsm (by rw [zu HML, zu HCL]; exact hm))
     rwa [zu HCL] at this)
    have HQ : Hid (∀ t, t < len0 → (dotN N (ent cl t) (ent cl t)).natAbs < Bp 7) := zh fun t ht => dotN_lt (a := 3) (by omega) (fun s _ => mf_ent h2 t s) fun s _ => mf_ent h2 t s;clear hf hsm hhl hmn HML;subst hm
    go_wp2_with fail
    refine (gramK a2 m c2 cl 3 N 7 100 _ (h2.mk (by omega)) (by omega) (by omega) (fun i hi => Nat.le_of_eq (zu HRL i hi)) (by omega) (zu HQ) (by omega) (by omega) (by omega)).mono ?_;rintro e w7 ⟨gd, cd, gg, us, U, rfl, hd, hg, _, _, hb9⟩;have HGD := zh hd.vf;have HGG := zh hg.mf;replace h2 := h2.za hb9;replace HB := zh (Below.step (zu HB) hb9);clear hb9 hd hg
    go_wp2_with fail
    refine (refGramK a2 m c2 cl 3 N 7 100 _ h2 (by omega) (by omega) (fun i hi => Nat.le_of_eq (zu HRL i hi)) (by omega) (zu HQ) (by omega) (by omega) (by omega) (zu HD0)).mono ?_;rintro e w8 ⟨gx, cx, ay, cy, rfl, hx, hy, hb9⟩;replace HGD := zh ((zu HGD).za hb9);replace HGG := zh ((zu HGG).za hb9);replace h2 := h2.za hb9;replace HB := zh (Below.step (zu HB) hb9);clear hb9
    go_wp2_with fail
    refine (sumsK _ _ _ (gramDs N (ent cl) m) 100 _ _ _ (gramDs N (ent cl) m) 100 _ (zu HGD) hx rfl).mono ?_;rintro e w9 ⟨rfl, hb9⟩;replace HGG := zh ((zu HGG).za hb9);replace hy := hy.za hb9;replace h2 := h2.za hb9;replace HB := zh (Below.step (zu HB) hb9);clear hb9 hx HGD
    go_wp2_with fail
    refine (refSameAllK _ _ _ (gramGs N (ent cl) m) 100 _ _ _ (gramGs N (ent cl) m) 100 _ (zu HGG) hy rfl).mono ?_;rintro e w10 ⟨rfl, hb9⟩;replace h2 := h2.za hb9;replace HB := zh (Below.step (zu HB) hb9);clear hb9 hy HGG
    go_wp2_with fail
    refine (lllIsK a2 m c2 cl 3 N 7 100 _ (h2.mk (by omega)) (by omega) (by omega) (zu HRL) (by omega) (by omega) (zu HQ) (by omega) (by omega) (by omega) (by omega)).mono ?_;rintro e w11 ⟨c, rfl, hc, hb9⟩;replace h2 := h2.za hb9;replace HB := zh (Below.step (zu HB) hb9);clear hb9
    go_wp2_with fail
    refine (refReducedK a2 m c2 cl 3 N 7 100 _ h2 (by omega) (by omega) (fun i hi => Nat.le_of_eq (zu HRL i hi)) (by omega) (zu HQ) (by omega) (by omega) (by omega) (zu HD0)).mono ?_;rintro e w12 ⟨c', rfl, hc', hb9⟩;have hcc : c = c' := by rw [Bool.eq_iff_iff, hc, hc']; exact ⟨fun h => h.2, fun h => ⟨zu HD0, h⟩⟩
    subst hcc;replace h2 := h2.za hb9;replace HB := zh (Below.step (zu HB) hb9);clear hb9 hc hc'
    go_wp2_with fail
    refine (awake13_any _).mono ?_;rintro e wv ⟨rfl, hb9⟩;go_wp2;go_ret;exact ⟨rfl, Below.step (zu HB) hb9⟩
   ·have hmI : ¬ (m : Int) = (len0 : Int) := by omega
    have HNF : Hid (gramD N (ent cl) len0 = 0) := zh (by
     by_cases e : gramD N (ent cl) len0 = 0
     ·exact e
     ·exfalso
      have := form_of_free hf.eform hsm ((indep_gramD (l := cl) (N := N) (rlen_le fun t ht => zu HRL t (by rw [zu HCL] at ht; exact ht))).1 (by rw [zu HCL]; exact e));rw [zu HML, zu HCL] at this;exact hm this)
    clear hf hsm hhl hmn HML
    go_wp2_with fail
    refine (lllIsK a2 len0 c2 cl 3 N 7 100 _ (h2.mk (by omega)) (by omega) (by omega) (zu HRL) (by omega) (by omega) (fun t ht => dotN_lt (a := 3) (by omega) (fun s _ => mf_ent h2 t s) fun s _ => mf_ent h2 t s) (by omega) (by omega) (by omega) (by omega)).mono ?_;rintro e w6 ⟨c, rfl, hc, hb9⟩;obtain rfl : c = false := by
     cases c with
     | false => rfl
     | true => exact absurd (zu HNF) (hc.1 rfl).1
    replace HB := zh (Below.step (zu HB) hb9);clear hb9 hc
    go_wp2_with fail
    refine (awake13_any _).mono ?_;rintro e wv ⟨rfl, hb9⟩;go_wp2;go_ret;exact ⟨rfl, Below.step (zu HB) hb9⟩;exact absurd ‹(!((m : Int) == (len0 : Int))) = false› (by simp [hmI])
 ·clear hlt hb1 r0
  go_wp2_with fail
  refine (awake13_any _).mono ?_;rintro e wv ⟨rfl, hb9⟩;go_wp2;go_ret;exact ⟨rfl, Below.step (zu HB) hb9⟩
end Go.Proofs.YtnpneloahajniaaGreat
