/-
  The walk of RowsForms: it tells true.
-/
import Derived.Test.YtbdjkbonoofibaaFew9
import Derived.Test.YtbdjkbonoofibaaRMat
import Derived.Test.YtbdjkbonoofibaaRRProd
import Derived.Test.YtbdjkbonoofibaaJF
import Derived.Deep.CutRange
namespace Go.Proofs.Ytbdjkbonoofibaa
open Go.RowKit Lb
set_option maxRecDepth 20000

set_option maxRecDepth 40000 in
set_option maxHeartbeats 4000000 in
theorem rowsForms_walk (a0 : Option Addr) (len0 cap0 : Nat) (rs0 : List (List Int)) (a1 : Option Addr) (len1 cap1 : Nat) (rs1 : List (List Int)) (a2 : Option Addr) (len2 cap2 : Nat) (zs2 : List Int) (m3 : Int) (w : World) (r0 : MI w a0 len0 cap0 rs0) (r1 : MI w a1 len1 cap1 rs1) (r2 : VI w a2 len2 cap2 zs2) (r3 : (Lit.int .i64 m3).wf = true) :
    Calls Try.prog 3 #[.slice a0 len0 cap0, .slice a1 len1 cap1, .slice a2 len2 cap2, .int .i64 m3] w fun e w' => e = .returned (.bool true) ∧ Below w.heap.size w w' := by
  have L0 := hide r0.len_eq
  have L1 := hide r1.len_eq
  have L2 := hide r2.len_eq
  go_enter Try.func3, Try.ntmps3
  go_wp2_with fail
  have hbA := Below.refl w.heap.size w
  obtain ⟨WL, hWL⟩ : ∃ W', W' = w.alloc (.cells #[.slice a2 len2 cap2] 24) := ⟨_, rfl⟩
  have hsL : WL.heap.size = w.heap.size + 1 := by rw [hWL]; simp
  have hml : MI WL (some ⟨w.heap.size, 0, none⟩) 1 1 [zs2] := by
    rw [hWL]
    refine rowsOf_new (vs := [(a2, len2, cap2)]) rfl rfl rfl (by simp) fun i a l c e => ?_
    match i with
    | 0 =>
      simp at e
      obtain ⟨rfl, rfl, rfl⟩ := e
      exact r2.later (below_new w _)
  have hcl2 : WL.cell? ⟨w.heap.size, 0, none⟩ = some (.slice a2 len2 cap2) := by rw [hWL]; simp
  have hbL : Below w.heap.size w WL := by rw [hWL]; exact below_new w _
  rw [← hWL]
  clear hWL
  obtain ⟨WM, hWM⟩ : ∃ W', W' = WL.alloc (.cells #[.slice a0 len0 cap0, .slice a1 len1 cap1, .slice (some ⟨w.heap.size, 0, none⟩) 1 1] 22) := ⟨_, rfl⟩
  have hbM : Below WL.heap.size WL WM := by rw [hWM]; exact below_new WL _
  have hgM : w.heap.size + 1 < WM.heap.size := by rw [hWM]; simp; omega
  have hcM0 : WM.cell? ⟨w.heap.size + 1, 0 + 0, none⟩ = some (.slice a0 len0 cap0) := by rw [hWM, show w.heap.size + 1 = WL.heap.size by omega]; simp
  have hcM1 : WM.cell? ⟨w.heap.size + 1, 0 + 1, none⟩ = some (.slice a1 len1 cap1) := by rw [hWM, show w.heap.size + 1 = WL.heap.size by omega]; simp
  have hcM2 : WM.cell? ⟨w.heap.size + 1, 0 + 2, none⟩ = some (.slice (some ⟨w.heap.size, 0, none⟩) 1 1) := by rw [hWM, show w.heap.size + 1 = WL.heap.size by omega]; simp
  have hbW : Below w.heap.size w WM := Below.step hbL hbM
  have hmats : MatsAt WM (some ⟨w.heap.size + 1, 0, none⟩) 3 := by
    refine ⟨by omega, fun _ => ⟨w.heap.size + 1, 0, rfl, hgM, fun i hi => ?_⟩⟩
    match i, hi with
    | 0, _ => exact ⟨_, _, _, _, hcM0, r0.later hbW⟩
    | 1, _ => exact ⟨_, _, _, _, hcM1, r1.later hbW⟩
    | 2, _ => exact ⟨_, _, _, _, hcM2, hml.later hbM⟩
  rw [← hWM]
  clear hWM
  refine (few9_any _ _ _ WM hmats).mono ?_
  rintro e v0 ⟨q, rfl, hq, hb1⟩
  have HB := hide (Below.step hbW hb1)
  by_cases hf : q = true
  · subst hf
    have F0 := hq rfl 0 (w.heap.size + 1) 0 _ _ _ (by omega) rfl hcM0
    obtain ⟨n0, wd0, s0⟩ := ms_later r0 hbW F0
    have S0 := hide (s0 _ (unhide HB))
    have WD0 := hide wd0
    clear s0 wd0 F0
    have F1 := hq rfl 1 (w.heap.size + 1) 0 _ _ _ (by omega) rfl hcM1
    obtain ⟨n1, wd1, s1⟩ := ms_later r1 hbW F1
    have S1 := hide (s1 _ (unhide HB))
    have WD1 := hide wd1
    clear s1 wd1 F1
    have F2 := hq rfl 2 (w.heap.size + 1) 0 _ _ _ (by omega) rfl hcM2
    obtain ⟨n2, s2⟩ := F2.2 0 w.heap.size 0 a2 len2 cap2 (by omega) rfl (by rw [Nat.zero_add, hbM.cell (p := ⟨w.heap.size, 0, none⟩) (by show w.heap.size < WL.heap.size; omega)]; exact hcl2)
    have S2 := hide (vs_later r2 hbW s2 _ (unhide HB))
    clear s2
    clear F2
    obtain ⟨kx, ekx⟩ : ∃ kx, kx = 12 := ⟨_, rfl⟩
    rw [← ekx] at S0 S1 S2
    have hkx : kx ≤ 12 := by omega
    clear ekx hq hb1 hbW hbM hgM hmats hcM0 hcM1 hcM2 hbL hml hsL hcl2 hbA r0 r1 r2
    go_wp2_with fail
    go_loopw [9, 22] (fun s t wr => ∃ (i : Nat) (ao' : Option Addr) (cap' : Nat) (ps : List Int), i ≤ len0 ∧ t = .int .i64 (i : Int) ∧ s = .slice ao' i cap' ∧ OwnV wr v0.heap.size ao' i cap' ps (kx + kx + 14) ∧ (∀ j, j < i → ps.getD j 0 = vdot (rs0.getD j []) zs2) ∧ Below v0.heap.size v0 wr) (fun _ t _ => len0 - (intOf t).toNat)
    case atStart => exact ⟨0, _, _, [], Nat.zero_le _, rfl, rfl, ownV_nil _ _ _, fun j hj => absurd hj (by omega), Below.refl _ _⟩
    case round =>
      obtain ⟨i, ao', cap', ps, hi, rfl, rfl, hown, hall, hB⟩ := hrel
      have HA := hide hall
      have HC := hide hB
      clear hall hB
      by_cases hlt : i < len0
      · obtain ⟨g, off, rfl⟩ := (unhide S0).addr (by omega)
        obtain ⟨hg, a5, l5, c5, hc5, hv5⟩ := RowsOf.at (R := fun w a l c zs => VS w a l c zs kx) (unhide S0) hlt
        have hn5 : l5 ≤ 14 := by rw [← hv5.vk.len_eq]; exact (unhide WD0).at i
        replace hv5 := hv5.later (unhide HC)
        have f2 := ((unhide HC).cell (p := ⟨g, off + i, none⟩) hg).trans hc5
        have hgr := Nat.lt_of_lt_of_le hg (unhide HC).size
        clear hc5 hg
        go_wp2_with fail
        refine (rvdotK _ _ _ (rs0.getD i []) kx _ _ _ zs2 kx _ hv5 ((unhide S2).vk.later (unhide HC)) (by omega) (by omega) (by omega)).mono ?_
        rintro e w5 ⟨b7, a7, l7, c7, rfl, h7, hb9⟩
        replace h7 := h7.up (show kx + kx + l5 ≤ kx + kx + 14 by omega)
        replace hown := hown.later hb9
        replace HC := hide (Below.step (unhide HC) hb9)
        clear hb9 f2 hgr hv5
        obtain ⟨z, ez⟩ : ∃ z, z = vdot (rs0.getD i []) zs2 := ⟨_, rfl⟩
        rw [← ez] at h7
        have EZ := hide ez
        clear ez
        obtain ⟨W6, hW6⟩ : ∃ W6, W6 = w5.alloc (.cells #[.bool b7, .slice a7 l7 c7] 29) := ⟨_, rfl⟩
        obtain ⟨D5, hb9⟩ := boxes1 w5 b7 a7 l7 c7 hW6
        replace h7 := h7.later hb9
        replace hown := hown.later hb9
        replace HC := hide (Below.step (unhide HC) hb9)
        clear hb9
        have hE5 : EltAt W6 w5.heap.size 0 b7 a7 l7 c7 := ⟨D5.lt, D5.facts.1, D5.facts.2.1⟩
        have hsz := (unhide HC).size
        clear D5
        rw [hW6] at h7 hown hE5 hsz
        go_wp2_with (at_builtin; refine append_vec rfl (.tmp 26) (.tmp 30) 24 Try.underlying24 rfl v0.heap.size ao' i cap' (kx + kx + 14) ps rfl hown (by omega) hsz w5.heap.size 0 1 b7 a7 l7 c7 z rfl hE5 h7 ?_)
        intro gn cn w7 hown2 hgr hat
        rw [← hW6] at hgr hown hsz
        clear hW6
        have HD := (unhide HC).grown hgr hsz (own_ge hown)
        clear hgr hat
        go_wp2
        go_roundw
        case rel => exact ⟨i + 1, _, _, _, by omega, by go_num, rfl, hown2, by rw [unhide EZ]; exact snoc_each (f := fun j => vdot (rs0.getD j []) zs2) hown.len (unhide HA), HD⟩
        case measure => simp [intOf]; omega
      · have hin : i = len0 := by omega
        subst hin
        obtain ⟨x, ex⟩ : ∃ x, x = rs0.map fun r => vdot r zs2 := ⟨_, rfl⟩
        have hps : ps = x := by rw [ex]; exact map_rows_of (f := fun r => vdot r zs2) (unhide L0) hown.len (unhide HA)
        subst hps
        have EX := hide ex
        have h20 := hown.vf
        have hb9 := unhide HC
        clear ex HA hown HC
        replace S0 := hide ((unhide S0).later hb9)
        replace S1 := hide ((unhide S1).later hb9)
        replace S2 := hide ((unhide S2).later hb9)
        replace HB := hide (Below.step (unhide HB) hb9)
        clear hb9
        have hm3 := bounds_i64 r3
        obtain ⟨qF, eqF⟩ : ∃ q, q = rform rs0 m3 := ⟨_, rfl⟩
        have EF := hide eqF.symm
        have hqF : (qF == qF) = true := by simp
        clear eqF r3
        go_wp2_with fail
        refine (rowsFormK _ _ _ rs0 m3 _ (unhide S0).mk.ml hm3 qF (unhide EF)).mono ?_
        rintro e v1 ⟨rfl, hb9⟩
        replace S0 := hide ((unhide S0).later hb9)
        replace S1 := hide ((unhide S1).later hb9)
        replace S2 := hide ((unhide S2).later hb9)
        replace h20 := h20.later hb9
        replace HB := hide (Below.step (unhide HB) hb9)
        clear hb9
        go_wp2_with fail
        refine (refFormK _ _ _ rs0 m3 _ (unhide S0).mk.ml hm3 qF (unhide EF)).mono ?_
        rintro e v2 ⟨rfl, hb9⟩
        replace S0 := hide ((unhide S0).later hb9)
        replace S1 := hide ((unhide S1).later hb9)
        replace S2 := hide ((unhide S2).later hb9)
        replace h20 := h20.later hb9
        replace HB := hide (Below.step (unhide HB) hb9)
        clear hb9
        go_wp2_with fail
        refine (rowsMulK _ _ _ rs0 kx _ _ _ zs2 kx 14 _ (unhide S0).mk (unhide S2).vk (by omega) (by omega) (unhide WD0).at (by omega) (by omega) (by omega)).mono ?_
        rintro e v3 ⟨a21, c21, rfl, h21, hb9⟩
        replace S0 := hide ((unhide S0).later hb9)
        replace S1 := hide ((unhide S1).later hb9)
        replace S2 := hide ((unhide S2).later hb9)
        replace h20 := h20.later hb9
        replace HB := hide (Below.step (unhide HB) hb9)
        clear hb9
        go_wp2_with fail
        refine (rvsameK _ _ _ _ _ _ _ _ _ _ _ h21 h20 (unhide EX).symm).mono ?_
        rintro e v4 ⟨rfl, hb9⟩
        replace S0 := hide ((unhide S0).later hb9)
        replace S1 := hide ((unhide S1).later hb9)
        replace S2 := hide ((unhide S2).later hb9)
        replace HB := hide (Below.step (unhide HB) hb9)
        clear hb9
        clear h20 h21
        go_wp2_with fail
        refine (productK _ _ _ rs0 kx _ _ _ rs1 kx 14 _ (unhide S0).mk (unhide S1).mk (by omega) (by omega) (unhide WD0).at (unhide WD1).at (by omega) (by omega) (by omega)).mono ?_
        rintro e v5 ⟨a21, c21, rfl, h21, hb9⟩
        replace S0 := hide ((unhide S0).later hb9)
        replace S1 := hide ((unhide S1).later hb9)
        replace S2 := hide ((unhide S2).later hb9)
        replace HB := hide (Below.step (unhide HB) hb9)
        clear hb9
        go_wp2_with fail
        refine (refProductK _ _ _ rs0 kx _ _ _ rs1 kx 14 _ (unhide S0) (unhide S1) (by omega) (by omega) (unhide WD0).at (unhide WD1).at (by omega) (by omega) (by omega)).mono ?_
        rintro e v6 ⟨a22, c22, rfl, h22, hb9⟩
        replace S0 := hide ((unhide S0).later hb9)
        replace S1 := hide ((unhide S1).later hb9)
        replace S2 := hide ((unhide S2).later hb9)
        replace h21 := h21.later hb9
        replace HB := hide (Below.step (unhide HB) hb9)
        clear hb9
        go_wp2_with fail
        refine (refSameAllK _ _ _ _ _ _ _ _ _ _ _ h21 h22 rfl).mono ?_
        rintro e v7 ⟨rfl, hb9⟩
        replace S0 := hide ((unhide S0).later hb9)
        replace S1 := hide ((unhide S1).later hb9)
        replace S2 := hide ((unhide S2).later hb9)
        replace HB := hide (Below.step (unhide HB) hb9)
        clear hb9
        clear h21 h22
        go_wp2_with fail
        refine (turnK _ _ _ rs0 kx 14 m3 _ (unhide S0).mk (unhide WD0).at (by omega)).mono ?_
        rintro e v8 ⟨a21, c21, rfl, h21, hb9⟩
        replace S0 := hide ((unhide S0).later hb9)
        replace S1 := hide ((unhide S1).later hb9)
        replace S2 := hide ((unhide S2).later hb9)
        replace HB := hide (Below.step (unhide HB) hb9)
        clear hb9
        go_wp2_with fail
        refine (refTurnK _ _ _ rs0 kx m3 _ (unhide S0).mk (by omega)).mono ?_
        rintro e v9 ⟨a22, c22, rfl, h22, hb9⟩
        replace S0 := hide ((unhide S0).later hb9)
        replace S1 := hide ((unhide S1).later hb9)
        replace S2 := hide ((unhide S2).later hb9)
        replace h21 := h21.later hb9
        replace HB := hide (Below.step (unhide HB) hb9)
        clear hb9
        go_wp2_with fail
        refine (refSameAllK _ _ _ _ _ _ _ _ _ _ _ h21 h22 rfl).mono ?_
        rintro e v10 ⟨rfl, hb9⟩
        replace S0 := hide ((unhide S0).later hb9)
        replace S1 := hide ((unhide S1).later hb9)
        replace S2 := hide ((unhide S2).later hb9)
        replace HB := hide (Below.step (unhide HB) hb9)
        clear hb9
        clear h21 h22
        go_wp2_with fail
        refine (rowsSameK _ _ _ rs0 kx _ _ _ rs1 kx _ (unhide S0).mk (unhide S1).mk (by omega) (by omega) (fun j => Nat.le_trans ((unhide WD0).at j) (by omega)) (fun j => Nat.le_trans ((unhide WD1).at j) (by omega))).mono ?_
        rintro e v11 ⟨q1, rfl, hq1, hb9⟩
        replace S0 := hide ((unhide S0).later hb9)
        replace S1 := hide ((unhide S1).later hb9)
        replace S2 := hide ((unhide S2).later hb9)
        replace HB := hide (Below.step (unhide HB) hb9)
        clear hb9
        have HQ1 := hide hq1
        clear hq1
        go_wp2_with fail
        refine (likeAllK _ _ _ rs0 kx _ _ _ rs1 kx _ (unhide S0).mk (unhide S1).mk (by omega) (by omega) (fun j => Nat.le_trans ((unhide WD0).at j) (by omega)) (fun j => Nat.le_trans ((unhide WD1).at j) (by omega))).mono ?_
        rintro e v12 ⟨q2, rfl, hq2, hb9⟩
        replace S0 := hide ((unhide S0).later hb9)
        replace S1 := hide ((unhide S1).later hb9)
        replace S2 := hide ((unhide S2).later hb9)
        replace HB := hide (Below.step (unhide HB) hb9)
        clear hb9
        obtain rfl : q1 = q2 := by rw [Bool.eq_iff_iff]; exact (unhide HQ1).trans hq2.symm
        have hq12 : (q1 == q1) = true := by simp
        clear hq2 HQ1
        go_wp2_with fail
        refine (awake9_any _).mono ?_
        rintro e w2 ⟨rfl, hb2⟩
        go_wp2
        go_ret
        exact ⟨rfl, Below.step (unhide HB) hb2⟩
  · have hf' : q = false := by simpa using hf
    subst hf'
    clear hf hq hb1 hbW hbM hgM hmats hcM0 hcM1 hcM2 hbL hml hsL hcl2 hbA r0 r1 r2
    go_wp2_with fail
    refine (awake9_any _).mono ?_
    rintro e w2 ⟨rfl, hb2⟩
    go_wp2
    go_ret
    exact ⟨rfl, Below.step (unhide HB) hb2⟩
#print axioms rowsForms_walk
end Go.Proofs.Ytbdjkbonoofibaa
