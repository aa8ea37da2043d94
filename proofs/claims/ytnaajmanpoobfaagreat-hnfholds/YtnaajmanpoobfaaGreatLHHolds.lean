/-
  The walk of HnfHolds: it tells true.
-/
import Derived.Test.YtnaajmanpoobfaaGreatRHas
import Derived.Test.YtnaajmanpoobfaaGreatHIs
import Derived.Deep.CutRange
namespace Go.Proofs.YtnaajmanpoobfaaGreat
open Go.RowKit Lb
set_option maxRecDepth 20000

set_option maxRecDepth 40000 in
set_option maxHeartbeats 4000000 in
theorem hnfHolds_walk (a0 : Option Addr) (len0 cap0 : Nat) (rs0 : List (List Int)) (m1 : Int) (w : World) (r0 : MI w a0 len0 cap0 rs0) (_r1 : (Lit.int .i64 m1).wf = true) :
    Calls Tryz.prog 5 #[.slice a0 len0 cap0, .int .i64 m1] w fun e w' => e = .returned (.bool true) ∧ Below w.heap.size w w' := by
  go_enter Tryz.func5, Tryz.ntmps5
  go_wp2_with fail
  refine (heavyK a0 len0 cap0 rs0 6 9 _ r0 (by omega) (by omega)).mono ?_
  rintro e w1 ⟨q, rfl, hq, hlt, hb1⟩
  have HB := hide hb1
  rcases hq with rfl | rfl
  · obtain ⟨hn5, _, hms⟩ := hlt rfl
    have hl := hms _ hb1
    clear hms hlt hb1 r0
    go_wp2_with fail
    refine (cutsK a0 len0 cap0 rs0 3 m1 _ hl.mk (by omega)).mono ?_
    rintro e w2 ⟨a3, c3, N, rfl, hN1, hN7, h2, hb1⟩
    have HF := hide (cut_form rs0 hN1 hN7)
    obtain ⟨cl, ecl⟩ : ∃ cl, cl = rs0.map fun r => vcut r N := ⟨_, rfl⟩
    rw [← ecl] at h2 HF
    have HCL := hide h2.len_eq
    replace HB := hide (Below.step (unhide HB) hb1)
    have HBC := hide (bounded_six (l := cl) (by rw [unhide HCL]; omega) fun a b => Nat.lt_of_lt_of_le (mf_ent h2 a b) (Bp_le (by omega)))
    clear hb1 hl ecl
    go_wp2_with fail
    refine (hnfK a3 len0 c3 cl 3 1791 5 (N : Int) _ (h2.mk (by omega)) (by omega) (unhide HF) (unhide HBC) (by omega) (by omega) (by omega) (by omega)).mono ?_
    rintro e w3 ⟨a5, m, c5, p, hs1, rfl, h5, hf, hs, hl, hm, hb9⟩
    have hmN : m ≤ N := by
      rw [← h5.len_eq]
      exact hf.len_le fun r hr => by have := hl r hr; omega
    have HF1 := hide hf
    have HS1 := hide hs
    have HFH := hide (rform_yes (rs := hs1) (n := (N : Int)) (by omega) fun i hi => by
      have := hl (hs1.getD i []) (by rw [show hs1.getD i [] = hs1[i] by simp [List.getD, hi]]; exact List.getElem_mem _)
      exact this)
    have HLN : Hid (∀ i, i < m → (hs1.getD i []).length = N) := hide fun i hi => by
      have hi' : i < hs1.length := by rw [h5.len_eq]; exact hi
      have := hl (hs1.getD i []) (by rw [show hs1.getD i [] = hs1[i] by simp [List.getD, hi']]; exact List.getElem_mem _)
      omega
    replace h2 := h2.later hb9
    replace HB := hide (Below.step (unhide HB) hb9)
    obtain ⟨mn, emn⟩ : ∃ mn, mn = min len0 N := ⟨_, rfl⟩
    have hmn1 : m ≤ mn := by omega
    have hmin : ∀ ts t W, (Builtin.min_ ts t #[.int .i64 (len0 : Int), .int .i64 (N : Int)]).run Tryz.prog W = .ok (.int .i64 (mn : Int)) W := by
      rw [emn]; exact min_len len0 N
    have hgt : decide ((mn : Int) < (m : Int)) = false := decide_eq_false (by omega)
    have hgtN : decide (mn < m) = false := decide_eq_false (by omega)
    clear hf hs hl hb9 emn
    go_wp2_with fail
    refine (isK a5 m c5 hs1 1791 (N : Int) true _ (h5.mk (by omega)) (by omega) (by omega) (by simp; exact ⟨unhide HFH, _, unhide HF1⟩)).mono ?_
    rintro e w4 ⟨rfl, hb9⟩
    replace h2 := h2.later hb9
    replace h5 := h5.later hb9
    replace HB := hide (Below.step (unhide HB) hb9)
    clear hb9 hmin
    go_wp2_with fail
    go_loopw [46] (fun t wr => ∃ i : Nat, i ≤ len0 ∧ t = .int .i64 (i : Int) ∧ Below w4.heap.size w4 wr) (fun t _ => len0 - (intOf t).toNat)
    case atStart => exact ⟨0, Nat.zero_le _, rfl, Below.refl _ _⟩
    case round =>
      obtain ⟨i, hi, rfl, hB⟩ := hrel
      have HC := hide hB
      clear hB
      by_cases hlt : i < len0
      · obtain ⟨g, off, rfl⟩ := h2.addr (by omega)
        obtain ⟨hg, a6, l6, c6, hc6, hv6⟩ := RowsOf.at (R := fun w a l c zs => VF w a l c zs 3) h2 hlt
        have hl6 : N = l6 := by
          rw [← hv6.len_eq]
          obtain ⟨M, e, _, _, h3⟩ := rform_rows (unhide HF)
          rw [rows_len h3 i (by rw [unhide HCL]; exact hlt)]
          omega
        subst hl6
        replace hv6 := hv6.later (unhide HC)
        have f2 := ((unhide HC).cell (p := ⟨g, off + i, none⟩) hg).trans hc6
        have hgr := Nat.lt_of_lt_of_le hg (unhide HC).size
        have hi0 : (0 : Int) ≤ (i : Int) := by omega
        have hi1 : (i : Int) < (len0 : Int) := by omega
        have HIN := hide ((unhide HS1).row i)
        have hmk : 3 + m * (1791 + 3) ≤ 200000 := by
          have : m * (1791 + 3) ≤ 7 * (1791 + 3) := Nat.mul_le_mul_right _ (by omega)
          omega
        have HMK := hide hmk
        clear hmk
        clear hc6 hg
        go_wp2_with fail
        refine (hasK a5 m c5 hs1 p 1791 _ N _ (cl.getD i []) 3 _ (h5.later (unhide HC)) (unhide HF1) (unhide HLN) (hv6.vk (by omega)) (unhide HIN) (unhide HMK) (by omega) (by omega) (by omega)).mono ?_
        rintro e w6 ⟨rfl, hb9⟩
        replace HC := hide (Below.step (unhide HC) hb9)
        clear hb9 f2 hgr hv6
        go_wp2
        go_roundw
        case rel => exact ⟨i + 1, by omega, by go_num, unhide HC⟩
        case measure => simp [intOf]; omega
      · have hin : i = len0 := by omega
        subst hin
        have hi1 : ¬ (i : Int) < (i : Int) := by omega
        replace HB := hide (Below.step (unhide HB) (unhide HC))
        clear h2 h5 HC
        go_wp2_with fail
        refine (awake10_any _).mono ?_
        rintro e w6 ⟨rfl, hb2⟩
        go_wp2
        go_ret
        exact ⟨rfl, Below.step (unhide HB) hb2⟩
  · clear hlt hb1 r0
    go_wp2_with fail
    refine (awake10_any _).mono ?_
    rintro e w2 ⟨rfl, hb2⟩
    go_wp2
    go_ret
    exact ⟨rfl, Below.step (unhide HB) hb2⟩

#print axioms hnfHolds_walk
end Go.Proofs.YtnaajmanpoobfaaGreat
