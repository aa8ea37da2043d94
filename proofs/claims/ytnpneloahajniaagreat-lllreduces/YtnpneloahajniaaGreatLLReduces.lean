/-
 The walk of LllReduces: it tells true.
-/
import Derived.Test.YtnpneloahajniaaGreatLLBase
import Derived.Test.YtnpneloahajniaaGreatJR
import Derived.Test.YtnpneloahajniaaGreatRHnf
import Derived.Test.YtnpneloahajniaaGreatRRed
namespace Go.Proofs.YtnpneloahajniaaGreat
open Go.RowKit Lb
set_option maxRecDepth 20000

theorem red_aS {n : Nat} (hn : n ≤ 4) : ∀ d, d ≤ n → aS 294 n d ≤ 222000 := by
 have h : ∀ n, n < 5 → ∀ d, d < n + 1 → aS 294 n d ≤ 222000 := by decide
 intro d hd;exact h n (by omega) d (by omega)
theorem red_bS {n : Nat} (hn : n ≤ 4) : ∀ d, d ≤ n → bS 294 n d ≤ 222000 := by
 have h : ∀ n, n < 5 → ∀ d, d < n + 1 → bS 294 n d ≤ 222000 := by decide
 intro d hd;exact h n (by omega) d (by omega)
set_option maxRecDepth 40000 in
set_option maxHeartbeats 6000000 in
theorem lllReduces_walk (a0 : Option Addr) (len0 cap0 : Nat) (rs0 : List (List Int)) (m1 : Int) (w : World) (r0 : MI w a0 len0 cap0 rs0) (r1 : (Lit.int .i64 m1).wf = true) :
  Calls Tryz.prog 4 #[.slice a0 len0 cap0, .int .i64 m1] w fun e w' => e = .returned (.bool true) ∧ Below w.heap.size w w' := by
 have hm1 := bounds_i64 r1;clear r1;go_enter Tryz.func4, Tryz.ntmps4
 go_wp2_with fail
 refine (heavyK a0 len0 cap0 rs0 4 7 _ r0 (by omega) (by omega)).mono ?_;rintro e w1 ⟨q, rfl, hq, hlt, hb1⟩;have HB := zh hb1;rcases hq with rfl | rfl
 ·obtain ⟨hn4, _, hms⟩ := hlt rfl;have hl := hms _ hb1;clear hms hlt hb1 r0;obtain ⟨qf, eqf⟩ : ∃ q, rform rs0 m1 = q := ⟨_, rfl⟩;cases qf
  ·go_wp2_with fail
   refine (reduceNo a0 len0 cap0 rs0 m1 _ hl.mk.ml hm1 eqf).mono ?_;rintro e w3 ⟨rfl, hb9⟩;replace hl := hl.za hb9;replace HB := zh (Below.step (zu HB) hb9);clear hb9
   go_wp2_with fail
   refine (refFormK a0 len0 cap0 rs0 m1 _ hl.mk.ml hm1 false eqf).mono ?_;rintro e w4 ⟨rfl, hb9⟩;replace hl := hl.za hb9;replace HB := zh (Below.step (zu HB) hb9);clear hb9 eqf hm1
   go_wp2_with fail
   refine (cutsK a0 len0 cap0 rs0 3 m1 _ hl.mk (by omega)).mono ?_;rintro e w2 ⟨a2, c2, N, rfl, hN1, hN7, h2, hb1⟩;have HF := zh (cut_form rs0 hN1 hN7);obtain ⟨cl, ecl⟩ : ∃ cl, cl = rs0.map fun r => vcut r N := ⟨_, rfl⟩;rw [← ecl] at h2 HF;have HCL := zh h2.len_eq;have HRL : Hid (∀ i, i < len0 → (cl.getD i []).length = N) := zh fun i hi => by
    obtain ⟨M, e, _, _, h3⟩ := rform_rows (zu HF);rw [rows_len h3 i (by rw [zu HCL]; exact hi)];omega
   replace hl := hl.za hb1;replace HB := zh (Below.step (zu HB) hb1);clear hb1 ecl;clear hl
   go_wp2_with fail
   refine (reduceK a2 len0 c2 cl N _ (h2.mk (by omega)) hn4 (zu HRL) (by omega) (by omega)).mono ?_;rintro e w5 ⟨ab, m, cb, ms, rfl, hmf, hrl, hsm, hd, hred, hq, hm4, hb9⟩;have HML := zh hmf.len_eq;have HRB := zh hrl;have HSM := zh hsm;have HD0 := zh hd;have HRED := zh hred;have HQ := zh hq;replace h2 := h2.za hb9;replace HB := zh (Below.step (zu HB) hb9);clear hb9 hrl hsm hd hred hq
   go_wp2_with fail
   refine (refHnfK a2 len0 c2 cl 3 N _ (h2.ms (by omega)) (by omega) (zu HRL) (by omega) (by omega) (small_aS (by omega)) (small_bS (by omega))).mono ?_;rintro e w6 ⟨a3, mh, c3, p, hs, rfl, h3, hf, hsh, hhl, hmn, hb9⟩;have hmm : m = mh := by
    have h1 := indep_len (l := ms) (h := hs) ((indep_gramD (rlen_le (by rw [zu HML]; exact zu HRB))).1 (by rw [zu HML]; exact zu HD0)) (free_of_form hf.eform (fun f => Iff.rfl) rfl) fun f => (zu HSM f).symm.trans (hsh f);rw [zu HML, h3.len_eq] at h1;exact h1
   subst hmm;have HHF := zh hf;have HSH := zh hsh;have HHL := zh hhl;replace hmf := hmf.za hb9;replace HB := zh (Below.step (zu HB) hb9);clear hb9 hf hsh hhl hmn h2
   go_wp2_with fail
   refine (refFormK ab m cb ms N _ hmf.ml (by omega) true (rform_yes (by omega) fun i hi => by rw [zu HRB i (by rw [zu HML] at hi; exact hi)])).mono ?_;rintro e w7 ⟨rfl, hb9⟩;replace hmf := hmf.za hb9;replace h3 := h3.za hb9;replace HB := zh (Below.step (zu HB) hb9);clear hb9
   go_wp2_with fail
   refine (refReducedK ab m cb ms 294 N 294 8000 _ hmf (by omega) (by omega) (fun i hi => Nat.le_of_eq (zu HRB i hi)) (by omega) (zu HQ) (by omega) (by omega) (by omega) (zu HD0)).mono ?_;rintro e w8 ⟨c, rfl, hc, hb9⟩;obtain rfl : c = true := hc.2 (zu HRED);replace hmf := hmf.za hb9;replace h3 := h3.za hb9;replace HB := zh (Below.step (zu HB) hb9);clear hb9 hc
   go_wp2_with fail
   refine (lllIsK ab m cb ms 294 N 294 8000 _ (hmf.mk (by omega)) (by omega) (by omega) (zu HRB) (by omega) (by omega) (zu HQ) (by omega) (by omega) (by omega) (by omega)).mono ?_;rintro e w9 ⟨c, rfl, hc, hb9⟩;obtain rfl : c = true := hc.2 ⟨zu HD0, zu HRED⟩;replace hmf := hmf.za hb9;replace h3 := h3.za hb9;replace HB := zh (Below.step (zu HB) hb9);clear hb9 hc
   go_wp2_with fail
   refine (refHnfK ab m cb ms 294 N _ (hmf.ms (by omega)) (by omega) (zu HRB) (by omega) (by omega) (red_aS hm4) (red_bS hm4)).mono ?_;rintro e w10 ⟨a5, mg, c5, p5, hs5, rfl, h5, hf5, hsm5, hhl5, hmn5, hb9⟩;have HEQ : Hid (hs5 = hs) := zh (hnf_one hf5 (zu HHF) (fun f => ((hsm5 f).symm.trans (zu HSM f).symm).trans (zu HSH f)) hhl5 (zu HHL));replace h3 := h3.za hb9;replace HB := zh (Below.step (zu HB) hb9);clear hb9 hf5 hsm5 hhl5 hmn5 hmf
   go_wp2_with fail
   refine (refSameAllK _ _ _ hs5 222000 _ _ _ hs 222000 _ h5 h3 (zu HEQ)).mono ?_;rintro e w11 ⟨rfl, hb9⟩;replace HB := zh (Below.step (zu HB) hb9);clear hb9 h3 h5
   go_wp2_with fail
   refine (awake13_any _).mono ?_;rintro e wv ⟨rfl, hb9⟩;go_wp2;go_ret;exact ⟨rfl, Below.step (zu HB) hb9⟩
  ·obtain ⟨M, rfl, hM1, hM9, hrr⟩ := rform_rows eqf;have HRR := zh (rows_len hrr);have HRN := zh hl.mk.len_eq;clear hrr
   go_wp2_with fail
   refine (reduceK a0 len0 cap0 rs0 M _ hl.mk hn4 (fun i hi => zu HRR i (by rw [zu HRN]; exact hi)) hM1 hM9).mono ?_;rintro e w3 ⟨ab0, m0, cb0, ms0, rfl, _, _, _, _, _, _, _, hb9⟩;replace hl := hl.za hb9;replace HB := zh (Below.step (zu HB) hb9);clear hb9
   go_wp2_with fail
   refine (refFormK a0 len0 cap0 rs0 (M : Int) _ hl.mk.ml hm1 true eqf).mono ?_;rintro e w4 ⟨rfl, hb9⟩;replace hl := hl.za hb9;replace HB := zh (Below.step (zu HB) hb9);clear hb9 eqf hm1
   go_wp2_with fail
   refine (cutsK a0 len0 cap0 rs0 3 (M : Int) _ hl.mk (by omega)).mono ?_;rintro e w2 ⟨a2, c2, N, rfl, hN1, hN7, h2, hb1⟩;have HF := zh (cut_form rs0 hN1 hN7);obtain ⟨cl, ecl⟩ : ∃ cl, cl = rs0.map fun r => vcut r N := ⟨_, rfl⟩;rw [← ecl] at h2 HF;have HCL := zh h2.len_eq;have HRL : Hid (∀ i, i < len0 → (cl.getD i []).length = N) := zh fun i hi => by
    obtain ⟨M, e, _, _, h3⟩ := rform_rows (zu HF);rw [rows_len h3 i (by rw [zu HCL]; exact hi)];omega
   replace hl := hl.za hb1;replace HB := zh (Below.step (zu HB) hb1);clear hb1 ecl;clear hl
   go_wp2_with fail
   refine (reduceK a2 len0 c2 cl N _ (h2.mk (by omega)) hn4 (zu HRL) (by omega) (by omega)).mono ?_;rintro e w5 ⟨ab, m, cb, ms, rfl, hmf, hrl, hsm, hd, hred, hq, hm4, hb9⟩;have HML := zh hmf.len_eq;have HRB := zh hrl;have HSM := zh hsm;have HD0 := zh hd;have HRED := zh hred;have HQ := zh hq;replace h2 := h2.za hb9;replace HB := zh (Below.step (zu HB) hb9);clear hb9 hrl hsm hd hred hq
   go_wp2_with fail
   refine (refHnfK a2 len0 c2 cl 3 N _ (h2.ms (by omega)) (by omega) (zu HRL) (by omega) (by omega) (small_aS (by omega)) (small_bS (by omega))).mono ?_;rintro e w6 ⟨a3, mh, c3, p, hs, rfl, h3, hf, hsh, hhl, hmn, hb9⟩;have hmm : m = mh := by
    have h1 := indep_len (l := ms) (h := hs) ((indep_gramD (rlen_le (by rw [zu HML]; exact zu HRB))).1 (by rw [zu HML]; exact zu HD0)) (free_of_form hf.eform (fun f => Iff.rfl) rfl) fun f => (zu HSM f).symm.trans (hsh f);rw [zu HML, h3.len_eq] at h1;exact h1
   subst hmm;have HHF := zh hf;have HSH := zh hsh;have HHL := zh hhl;replace hmf := hmf.za hb9;replace HB := zh (Below.step (zu HB) hb9);clear hb9 hf hsh hhl hmn h2
   go_wp2_with fail
   refine (refFormK ab m cb ms N _ hmf.ml (by omega) true (rform_yes (by omega) fun i hi => by rw [zu HRB i (by rw [zu HML] at hi; exact hi)])).mono ?_;rintro e w7 ⟨rfl, hb9⟩;replace hmf := hmf.za hb9;replace h3 := h3.za hb9;replace HB := zh (Below.step (zu HB) hb9);clear hb9
   go_wp2_with fail
   refine (refReducedK ab m cb ms 294 N 294 8000 _ hmf (by omega) (by omega) (fun i hi => Nat.le_of_eq (zu HRB i hi)) (by omega) (zu HQ) (by omega) (by omega) (by omega) (zu HD0)).mono ?_;rintro e w8 ⟨c, rfl, hc, hb9⟩;obtain rfl : c = true := hc.2 (zu HRED);replace hmf := hmf.za hb9;replace h3 := h3.za hb9;replace HB := zh (Below.step (zu HB) hb9);clear hb9 hc
   go_wp2_with fail
   refine (lllIsK ab m cb ms 294 N 294 8000 _ (hmf.mk (by omega)) (by omega) (by omega) (zu HRB) (by omega) (by omega) (zu HQ) (by omega) (by omega) (by omega) (by omega)).mono ?_;rintro e w9 ⟨c, rfl, hc, hb9⟩;obtain rfl : c = true := hc.2 ⟨zu HD0, zu HRED⟩;replace hmf := hmf.za hb9;replace h3 := h3.za hb9;replace HB := zh (Below.step (zu HB) hb9);clear hb9 hc
   go_wp2_with fail
   refine (refHnfK ab m cb ms 294 N _ (hmf.ms (by omega)) (by omega) (zu HRB) (by omega) (by omega) (red_aS hm4) (red_bS hm4)).mono ?_;rintro e w10 ⟨a5, mg, c5, p5, hs5, rfl, h5, hf5, hsm5, hhl5, hmn5, hb9⟩;have HEQ : Hid (hs5 = hs) := zh (hnf_one hf5 (zu HHF) (fun f => ((hsm5 f).symm.trans (zu HSM f).symm).trans (zu HSH f)) hhl5 (zu HHL));replace h3 := h3.za hb9;replace HB := zh (Below.step (zu HB) hb9);clear hb9 hf5 hsm5 hhl5 hmn5 hmf
   go_wp2_with fail
   refine (refSameAllK _ _ _ hs5 222000 _ _ _ hs 222000 _ h5 h3 (zu HEQ)).mono ?_;rintro e w11 ⟨rfl, hb9⟩;replace HB := zh (Below.step (zu HB) hb9);clear hb9 h3 h5
   go_wp2_with fail
   refine (awake13_any _).mono ?_;rintro e wv ⟨rfl, hb9⟩;go_wp2;go_ret;exact ⟨rfl, Below.step (zu HB) hb9⟩
 ·clear hlt hb1 r0
  go_wp2_with fail
  refine (awake13_any _).mono ?_;rintro e wv ⟨rfl, hb9⟩;go_wp2;go_ret;exact ⟨rfl, Below.step (zu HB) hb9⟩
end Go.Proofs.YtnpneloahajniaaGreat
