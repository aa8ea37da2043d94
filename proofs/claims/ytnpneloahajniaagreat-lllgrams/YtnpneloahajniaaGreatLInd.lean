/-
 What independent of package lll tells: rows of the same lattice that do not depend on one another, with their d and g.
-/
import Derived.Test.YtnpneloahajniaaGreatLIs
import Derived.Test.YtnpneloahajniaaGreatJO
namespace Go.Proofs.YtnpneloahajniaaGreat
open Go.RowKit Lb
set_option maxRecDepth 20000

theorem BR.kept {w w' : World} {base n k x : Nat} {D : BD} {ls gs : List (List Int)} {ds : List Int} (h : BR w base n D ls ds gs k) (hg : w.grownBy w' (some x)) (hn : NoLimb w x) (hx : x < base) : BR w' base n D ls ds gs k :=
 ⟨h.l.kept hg hn (by have := h.l.lt.1; omega) (fun t ht => by obtain ⟨_, _, _, ho⟩ := h.l.row t ht; have := ho.base_le.1; omega), h.g.kept hg hn (by have := h.g.lt.1; omega) (fun t ht => by obtain ⟨_, _, _, ho⟩ := h.g.row t ht; have := ho.base_le.1; omega), h.d.kept hg (noLimb_some hn) (some_ne (by have := h.d.base_le.1; omega)), h.n1, h.n2, h.n3, h.nV, h.nU, h.nVU⟩
theorem mf_size {w : World} {ao : Option Addr} {n cap k : Nat} {rs : List (List Int)} (h : MF w ao n cap rs k) (t s : Nat) : (ent rs t s).natAbs < Bp k := by
 by_cases c : t < n
 ·obtain ⟨g, off, rfl⟩ := RowsOf.addr (R := fun w a l c zs => VF w a l c zs k) h (by omega);obtain ⟨_, a, l, c2, _, hv⟩ := RowsOf.at (R := fun w a l c zs => VF w a l c zs k) h c;exact vf_size hv s
 ·rw [ent_out (by rw [h.len_eq]; omega)]; exact Bp_pos _
theorem mk_size {w : World} {ao : Option Addr} {n cap k : Nat} {rs : List (List Int)} (h : MK w ao n cap rs k) (t s : Nat) : (ent rs t s).natAbs < Bp k := by
 by_cases c : t < n
 ·obtain ⟨g, off, rfl⟩ := RowsOf.addr (R := fun w a l c zs => VK w a l c zs k) h (by omega);obtain ⟨_, a, l, c2, _, hv⟩ := RowsOf.at (R := fun w a l c zs => VK w a l c zs k) h c;by_cases c3 : s < l
  ·obtain ⟨g2, o2, rfl⟩ := hv.some (by omega);obtain ⟨_, _, _, _, _, hi⟩ := hv.at c3;exact hi.2.2
  ·rw [show ent rs t s = 0 from getD_out (by rw [hv.len_eq]; omega)]; exact Bp_pos _
 ·rw [ent_out (by rw [h.len_eq]; omega)]; exact Bp_pos _
theorem ind_hnf {hs : List (List Int)} {p : Nat → Nat} {N m : Nat} (hl : hs.length = m) (hf : HForm hs p) (hr : ∀ r ∈ hs, (r.length : Int) = (N : Int)) (hb : ∀ t s, t < m → (ent hs t s).natAbs < Bp 36) (hN : N ≤ 1000 := by omega) : (∀ t, t < m → (hs.getD t []).length = N) ∧ (hs.length = m ∧ gramD N (ent hs) m ≠ 0) ∧ ∀ t, t < m → (dotN N (ent hs t) (ent hs t)).natAbs < Bp 73 := by
 subst hl;refine ⟨fun t ht => ?_, ⟨rfl, (indep_gramD fun r h => by have := hr r h; omega).2 hf.eform.indepF⟩, fun t ht => Nat.lt_of_lt_of_le (dotN_lt (a := 36) hN (fun s _ => hb t s ht) fun s _ => hb t s ht) (Bp_le (by omega))⟩;have := hr (hs.getD t []) (by rw [List.getD_eq_getElem?_getD, List.getElem?_eq_getElem ht]; exact List.getElem_mem ht);omega
def IndTo (N : Nat) (rs : List (List Int)) (w : World) (e : Ending) (w' : World) : Prop := ∃ (D : BD) (m : Nat) (ms : List (List Int)), e = .returned (.agg #[.slice (some ⟨D.gl, 0, none⟩) m D.cl, .slice (some ⟨D.gd, 0, none⟩) (m + 1) D.cd, .slice (some ⟨D.gg, 0, none⟩) m D.cg]) ∧ BR w' w.heap.size m D ms (gramDs N (ent ms) m) (gramGs N (ent ms) m) 8000 ∧ ms.length = m ∧ (∀ t, t < m → (ms.getD t []).length = N) ∧ SameL rs ms ∧ gramD N (ent ms) m ≠ 0 ∧ (∀ t, t < m → (dotN N (ent ms t) (ent ms t)).natAbs < Bp 73) ∧ m ≤ 4 ∧ Below w.heap.size w w'
set_option maxRecDepth 40000 in
set_option maxHeartbeats 2000000 in
theorem independentK (ao : Option Addr) (n cap : Nat) (rs : List (List Int)) (N : Nat) (w : World) (h : MK w ao n cap rs 3) (hn : n ≤ 4) (hN : ∀ i, i < n → (rs.getD i []).length = N) (hN1 : 1 ≤ N) (hN9 : N ≤ 64) :
  Calls Tryz.prog 48 #[.slice ao n cap, .int .i64 (N : Int)] w fun e w' => IndTo N rs w e w' := by
 have hL := h.len_eq;have HRF := zh (show rform rs (N : Int) = true from rform_yes (by omega) fun i hi => by rw [hN i (by omega)]);have HBD : Hid (Bounded rs 36) := zh (by
  have := bounded_few (l := rs) (n := 4) (a := 3) (by omega) (by omega) (by omega) fun i j => mk_size h i j;exact this)
 have HDT : Hid (∀ t, t < n → (dotN N (ent rs t) (ent rs t)).natAbs < Bp 73) := zh fun t ht => Nat.lt_of_lt_of_le (dotN_lt (a := 3) (by omega) (fun s _ => mk_size h t s) fun s _ => mk_size h t s) (Bp_le (by omega));have HN := zh hN;have HL := zh hL;have hx : -9223372036854775808 ≤ (N : Int) ∧ (N : Int) ≤ 9223372036854775807 := by omega
 clear hN hL;by_cases hlt : n ≤ N
 ·have hI : (n : Int) ≤ (N : Int) := by omega
  go_enter Tryz.func48, Tryz.ntmps48
  go_upto_region 1 with fail
  obtain ⟨W0, hWe⟩ : ∃ W', W' = w.alloc (.cells #[.slice none 0 0, .slice none 0 0, .slice none 0 0] 58) := ⟨_, rfl⟩;have BB : BBox W0 w.heap.size none 0 0 none 0 0 none 0 0 := by rw [hWe]; exact bbox_new w none 0 0 none 0 0 none 0 0
  have hb0 : Below w.heap.size w W0 := by rw [hWe]; exact below_new _ _
  have hs0 := BB.lt;rw [← hWe];clear hWe;have HB := zh hb0;clear hb0
  go_wp2_with fail
  refine (newBasisK ao n cap rs 3 N 73 8000 W0 (h.za (zu HB)) (by omega) (by omega) (fun i hi => Nat.le_of_eq (zu HN i hi)) (by omega) (zu HDT) (by omega) (by omega) (by omega) (by omega)).mono ?_;rintro e w2 ⟨D, rfl, hR, hb2⟩;replace BB := BB.za hb2;replace HB := zh (Below.step (zu HB) hb2);clear hb2
  go_wp2_with fail
  obtain ⟨W, hWe⟩ : ∃ W', W' = w2.alloc (.cells #[.slice (some ⟨D.gl, 0, none⟩) n D.cl, .slice (some ⟨D.gd, 0, none⟩) (n + 1) D.cd, .slice (some ⟨D.gg, 0, none⟩) n D.cg] 58) := ⟨_, rfl⟩;have hb9 : Below w2.heap.size w2 W := by rw [hWe]; exact below_new _ _
  have hS : BS W W0.heap.size w2.heap.size n D rs (gramDs N (ent rs) n) (gramGs N (ent rs) n) 8000 := hR.box hb9 (Nat.le_refl _) (by rw [hWe]; exact bbox_new _ _ _ _ _ _ _ _ _ _);rw [← hWe];clear hWe hR;replace BB := BB.za hb9;replace HB := zh (Below.step (zu HB) hb9);clear hb9;refine (dependsK _ _ n D rs _ _ 8000 _ hS (by omega) (by omega)).mono ?_;rintro e w3 ⟨rfl, hb3⟩;rw [gramDs_at (Nat.le_refl n)];replace hS := hS.za hb3;replace BB := BB.za hb3;replace HB := zh (Below.step (zu HB) hb3);clear hb3;by_cases h0 : gramD N (ent rs) n = 0
  ·have hdec : decide (gramD N (ent rs) n = 0) = true := decide_eq_true h0;rw [hdec];clear h0 hdec hS
   go_wp2_with fail
   refine (hnfK ao n cap rs 3 36 3 (N : Int) _ (h.za (zu HB)) hx (zu HRF) (zu HBD) (by omega) (by omega) (by omega) (by omega)).mono ?_;rintro e w5 ⟨a5, m, c5, p, hs, rfl, hmf, hform, hsame, hrl, hmn, hb5⟩;have hfin := zh (ind_hnf hmf.len_eq hform hrl (show ∀ t s, t < m → (ent hs t s).natAbs < Bp 36 from fun t s _ => mf_size hmf t s));replace BB := BB.za hb5;replace HB := zh (Below.step (zu HB) hb5);have HSM := zh hsame;clear hb5 hform hsame hrl
   go_wp2_with fail
   refine (newBasisK a5 m c5 hs 36 N 73 8000 w5 (hmf.mk (by omega)) (by omega) (by omega) (fun i hi => Nat.le_of_eq ((zu hfin).1 i hi)) (by omega) (zu hfin).2.2 (by omega) (by omega) (by omega) (by omega)).mono ?_;rintro e w6 ⟨D, rfl, hR, hb6⟩;have hbq := BB.lt;replace BB := BB.za hb6;have hbs := (zu HB).size;replace HB := zh (Below.step (zu HB) hb6);have hb0 := BB.lt;clear hb6 hmf;obtain ⟨q1, q2, q3, q4, q5, q6⟩ := BB.zb;go_wp2;refine bodyPost_ret (v := .agg #[.slice (some ⟨D.gl, 0, none⟩) m D.cl, .slice (some ⟨D.gd, 0, none⟩) (m + 1) D.cd, .slice (some ⟨D.gg, 0, none⟩) m D.cg]) (by simp [results, Tryz.results48, go_sem, *]) rfl ?_;exact ⟨D, m, hs, rfl, (hR.kept (grown_bput w6 w.heap.size _ _ _ _ _ _ _ _ _) BB.noLimb (by omega)).from (by omega), (zu hfin).2.1.1, (zu hfin).1, zu HSM, (zu hfin).2.1.2, (zu hfin).2.2, by omega, (((zu HB).setCell (p := ⟨w.heap.size, 0, none⟩) (Nat.le_refl _) _).setCell (p := ⟨w.heap.size, 1, none⟩) (Nat.le_refl _) _).setCell (p := ⟨w.heap.size, 2, none⟩) (Nat.le_refl _) _⟩
  ·have hdec : decide (gramD N (ent rs) n = 0) = false := decide_eq_false h0;rw [hdec];have H0 := zh h0;clear h0 hdec;obtain ⟨f1, f2, f3, _, _, _⟩ := hS.box.zb;have hgb := hS.box.lt;obtain ⟨q1, q2, q3, q4, q5, q6⟩ := BB.zb;have hb0 := BB.lt;go_wp2;refine bodyPost_ret (v := .agg #[.slice (some ⟨D.gl, 0, none⟩) n D.cl, .slice (some ⟨D.gd, 0, none⟩) (n + 1) D.cd, .slice (some ⟨D.gg, 0, none⟩) n D.cg]) (by simp [results, Tryz.results48, go_sem, *]) rfl ?_;exact ⟨D, n, rs, rfl, (hS.r.kept (grown_bput w3 w.heap.size _ _ _ _ _ _ _ _ _) BB.noLimb (by omega)).from (by omega), zu HL, zu HN, SameL.refl _, zu H0, zu HDT, hn, (((zu HB).setCell (p := ⟨w.heap.size, 0, none⟩) (Nat.le_refl _) _).setCell (p := ⟨w.heap.size, 1, none⟩) (Nat.le_refl _) _).setCell (p := ⟨w.heap.size, 2, none⟩) (Nat.le_refl _) _⟩
 ·have hI : ¬ (n : Int) ≤ (N : Int) := by omega
  go_enter Tryz.func48, Tryz.ntmps48
  go_upto_region 1 with fail
  obtain ⟨W0, hWe⟩ : ∃ W', W' = w.alloc (.cells #[.slice none 0 0, .slice none 0 0, .slice none 0 0] 58) := ⟨_, rfl⟩;have BB : BBox W0 w.heap.size none 0 0 none 0 0 none 0 0 := by rw [hWe]; exact bbox_new w none 0 0 none 0 0 none 0 0
  have hb0 : Below w.heap.size w W0 := by rw [hWe]; exact below_new _ _
  rw [← hWe];clear hWe;have HB := zh hb0;clear hb0
  go_wp2_with fail
  refine (hnfK ao n cap rs 3 36 3 (N : Int) _ (h.za (zu HB)) hx (zu HRF) (zu HBD) (by omega) (by omega) (by omega) (by omega)).mono ?_;rintro e w5 ⟨a5, m, c5, p, hs, rfl, hmf, hform, hsame, hrl, hmn, hb5⟩;have hfin := zh (ind_hnf hmf.len_eq hform hrl (show ∀ t s, t < m → (ent hs t s).natAbs < Bp 36 from fun t s _ => mf_size hmf t s));replace BB := BB.za hb5;replace HB := zh (Below.step (zu HB) hb5);have HSM := zh hsame;clear hb5 hform hsame hrl
  go_wp2_with fail
  refine (newBasisK a5 m c5 hs 36 N 73 8000 w5 (hmf.mk (by omega)) (by omega) (by omega) (fun i hi => Nat.le_of_eq ((zu hfin).1 i hi)) (by omega) (zu hfin).2.2 (by omega) (by omega) (by omega) (by omega)).mono ?_;rintro e w6 ⟨D, rfl, hR, hb6⟩;have hbq := BB.lt;replace BB := BB.za hb6;have hbs := (zu HB).size;replace HB := zh (Below.step (zu HB) hb6);have hb0 := BB.lt;clear hb6 hmf;obtain ⟨q1, q2, q3, q4, q5, q6⟩ := BB.zb;go_wp2;refine bodyPost_ret (v := .agg #[.slice (some ⟨D.gl, 0, none⟩) m D.cl, .slice (some ⟨D.gd, 0, none⟩) (m + 1) D.cd, .slice (some ⟨D.gg, 0, none⟩) m D.cg]) (by simp [results, Tryz.results48, go_sem, *]) rfl ?_;exact ⟨D, m, hs, rfl, (hR.kept (grown_bput w6 w.heap.size _ _ _ _ _ _ _ _ _) BB.noLimb (by omega)).from (by omega), (zu hfin).2.1.1, (zu hfin).1, zu HSM, (zu hfin).2.1.2, (zu hfin).2.2, by omega, (((zu HB).setCell (p := ⟨w.heap.size, 0, none⟩) (Nat.le_refl _) _).setCell (p := ⟨w.heap.size, 1, none⟩) (Nat.le_refl _) _).setCell (p := ⟨w.heap.size, 2, none⟩) (Nat.le_refl _) _⟩
end Go.Proofs.YtnpneloahajniaaGreat
