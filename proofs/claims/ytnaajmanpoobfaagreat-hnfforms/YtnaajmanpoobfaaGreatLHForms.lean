/-
  The walk of HnfForms: it tells true.
-/
import Derived.Test.YtnaajmanpoobfaaGreatRHIs
import Derived.Test.YtnaajmanpoobfaaGreatRHnf
import Derived.Deep.CutRange
namespace Go.Proofs.YtnaajmanpoobfaaGreat
open Go.RowKit Lb
set_option maxRecDepth 20000

theorem pivZ_inj {v : List Int} {a b : Int} (h : PivZ v a) (h' : PivZ v b) : a = b := by
  rcases h with ⟨e, h0⟩ | ⟨q, e, hq⟩ <;> rcases h' with ⟨e', h0'⟩ | ⟨q', e', hq'⟩
  · omega
  · exact absurd (h0 _) hq'.2
  · exact absurd (h0' _) hq.2
  · rw [e, e', isPivot_inj hq hq']
theorem hnfNoK (ao : Option Addr) (n cap : Nat) (ls : List (List Int)) (k : Nat) (x : Int) (w : World) (h : MK w ao n cap ls k) (hx : -9223372036854775808 ≤ x ∧ x ≤ 9223372036854775807) (hq : rform ls x = false) :
    Calls Tryz.prog 9 #[.slice ao n cap, .int .i64 x] w fun e w' => e = .returned (.tuple #[.slice none 0 0, .int .i64 1]) ∧ Below w.heap.size w w' := by
  go_enter Tryz.func9, Tryz.ntmps9
  go_wp2_with fail
  refine (rowsFormK ao n cap ls x w h.ml hx false hq).mono ?_
  rintro e w1 ⟨rfl, hb1⟩
  go_wp2
  refine bodyPost_ret (v := .tuple #[.slice none 0 0, .int .i64 1]) (by simp [results, Tryz.results9, go_sem, *]) rfl ?_
  exact ⟨rfl, hb1⟩
set_option maxRecDepth 40000 in
set_option maxHeartbeats 4000000 in
theorem hnfForms_walk (a0 : Option Addr) (len0 cap0 : Nat) (rs0 : List (List Int)) (m1 : Int) (w : World) (r0 : MI w a0 len0 cap0 rs0) (r1 : (Lit.int .i64 m1).wf = true) :
    Calls Tryz.prog 3 #[.slice a0 len0 cap0, .int .i64 m1] w fun e w' => e = .returned (.bool true) ∧ Below w.heap.size w w' := by
  have hm1 := bounds_i64 r1
  go_enter Tryz.func3, Tryz.ntmps3
  go_wp2_with fail
  refine (heavyK a0 len0 cap0 rs0 6 9 _ r0 (by omega) (by omega)).mono ?_
  rintro e w1 ⟨q, rfl, hq, hlt, hb1⟩
  have HB := hide hb1
  rcases hq with rfl | rfl
  · obtain ⟨hn6, _, hms⟩ := hlt rfl
    have hl0 := hms _ hb1
    clear hms hlt hb1 r0 r1
    go_wp2_with fail
    refine (cutsK a0 len0 cap0 rs0 3 m1 _ hl0.mk (by omega)).mono ?_
    rintro e w2 ⟨a3, c3, N, rfl, hN1, hN7, h2, hb1⟩
    obtain ⟨cs, ecs⟩ : ∃ cs, cs = rs0.map fun r => vcut r N := ⟨_, rfl⟩
    rw [← ecs] at h2
    have HCS := hide (h2.ms (by omega))
    replace hl0 := hl0.later hb1
    replace HB := hide (Below.step (unhide HB) hb1)
    clear hb1 ecs h2
    go_wp2_with fail
    go_loopw [0, 1, 22] (fun l n t wr => ∃ (i : Nat) (al : Option Addr) (cl : Nat) (ls : List (List Int)) (x : Int), i ≤ 2 ∧ t = .int .i64 (i : Int) ∧ l = .slice al len0 cl ∧ n = .int .i64 x ∧ -9223372036854775808 ≤ x ∧ x ≤ 9223372036854775807 ∧ MS wr al len0 cl ls 3 ∧ Below w2.heap.size w2 wr) (fun _ _ t _ => 2 - (intOf t).toNat)
    case atStart => exact ⟨0, _, _, rs0, m1, by omega, rfl, rfl, rfl, hm1.1, hm1.2, hl0, Below.refl _ _⟩
    case round =>
      clear hl0 hm1
      obtain ⟨i, al, cl, ls, x, hi, rfl, rfl, rfl, hx1, hx2, hl, hB⟩ := hrel
      have HC := hide hB
      clear hB
      by_cases hlt : i < 2
      · have hi1 : (i : Int) < 2 := by omega
        obtain ⟨q0, hq0⟩ := bool_ofH (rform ls x = true ∧ ∃ p, HForm ls p)
        have HQ := hide hq0
        clear hq0
        have hqq : (q0 != q0) = false := by simp
        have HLEN := hide hl.len_eq
        by_cases hform : rform ls x = true
        · have HFM := hide hform
          obtain ⟨M, rfl, hM1, hM2, hMr⟩ := rform_rows hform
          have HM := hide (rows_len hMr)
          have HBD := hide (bounded_six (l := ls) (by rw [hl.len_eq]; omega) fun a b => Nat.lt_of_lt_of_le (ms_ent hl a b) (Bp_le (by omega)))
          clear hMr hform
          go_wp2_with fail
          refine (hnfK al len0 cl ls 3 1791 5 (M : Int) _ hl.mk (by omega) (unhide HFM) (unhide HBD) (by omega) (by omega) (by omega) (by omega)).mono ?_
          rintro e w3 ⟨a5, m, c5, p, hs1, rfl, h5, hf, hs, hlr, hm, hb9⟩
          have HF1 := hide hf
          have HS1 := hide hs
          have HLR := hide hlr
          have HFH := hide (rform_yes (rs := hs1) (n := (M : Int)) (by omega) fun i hi => by
            have := hlr (hs1.getD i []) (by rw [show hs1.getD i [] = hs1[i] by simp [List.getD, hi]]; exact List.getElem_mem _)
            exact this)
          clear hf hs hlr
          replace hl := hl.later hb9
          replace HC := hide (Below.step (unhide HC) hb9)
          clear hb9
          go_wp2_with fail
          refine (isK al len0 cl ls 3 (M : Int) q0 _ hl.mk (by omega) (by omega) (unhide HQ)).mono ?_
          rintro e w4 ⟨rfl, hb9⟩
          replace h5 := h5.later hb9
          replace hl := hl.later hb9
          replace HC := hide (Below.step (unhide HC) hb9)
          clear hb9
          go_wp2_with fail
          refine (refIsK al len0 cl ls 3 (M : Int) q0 _ hl.mk (by omega) (by omega) (unhide HQ)).mono ?_
          rintro e w5 ⟨rfl, hb9⟩
          replace h5 := h5.later hb9
          replace hl := hl.later hb9
          replace HC := hide (Below.step (unhide HC) hb9)
          clear hb9
          go_wp2_with fail
          refine (refFormK al len0 cl ls (M : Int) _ hl.mk.ml (by omega) true (unhide HFM)).mono ?_
          rintro e w6 ⟨rfl, hb9⟩
          replace h5 := h5.later hb9
          replace hl := hl.later hb9
          replace HC := hide (Below.step (unhide HC) hb9)
          clear hb9
          go_wp2_with fail
          refine (refHnfK al len0 cl ls 3 M _ hl (by omega) (by rw [← unhide HLEN]; exact unhide HM) (by omega) (by omega) (small_aS hn6) (small_bS hn6)).mono ?_
          rintro e w7 ⟨a8, m8, c8, p8, hs8, rfl, h8, hf8, hsm8, hl8, hm8, hb9⟩
          have HE := hide (hnf_one (n := M) (unhide HF1) hf8 ((unhide HS1).symm.trans hsm8) (fun r hr => by have := unhide HLR r hr; omega) hl8)
          replace h5 := h5.later hb9
          clear hf8 hsm8 hl8 hm8
          replace hl := hl.later hb9
          replace HC := hide (Below.step (unhide HC) hb9)
          clear hb9
          go_wp2_with fail
          refine (refSameAllK _ _ _ hs1 1791 _ _ _ hs8 200000 _ h5 h8 (unhide HE)).mono ?_
          rintro e w8 ⟨rfl, hb9⟩
          replace h5 := h5.later hb9
          replace hl := hl.later hb9
          replace HC := hide (Below.step (unhide HC) hb9)
          clear hb9
          go_wp2_with fail
          refine (isK a5 m c5 hs1 1791 (M : Int) true _ (h5.mk (by omega)) (by omega) (by omega) (by simp; exact ⟨unhide HFH, _, unhide HF1⟩)).mono ?_
          rintro e w8 ⟨rfl, hb9⟩
          replace hl := hl.later hb9
          replace HC := hide (Below.step (unhide HC) hb9)
          clear hb9
          clear h5 h8 HE
          go_wp2_with fail
          refine (pivotsK al len0 cl ls 3 _ hl.mk (by omega)).mono ?_
          rintro e w9 ⟨ap, cp, ps, rfl, hps, hpv, hb9⟩
          have HP := hide hpv
          replace hl := hl.later hb9
          replace HC := hide (Below.step (unhide HC) hb9)
          clear hb9 hpv
          go_wp2_with fail
          go_loopw [73] (fun t wr => ∃ j : Nat, j ≤ len0 ∧ t = .int .i64 (j : Int) ∧ Below w9.heap.size w9 wr) (fun t _ => len0 - (intOf t).toNat)
          case atStart => exact ⟨0, Nat.zero_le _, rfl, Below.refl _ _⟩
          case round =>
            obtain ⟨j, hj, rfl, hB⟩ := hrel
            have HD := hide hB
            clear hB
            by_cases hlt2 : j < len0
            · obtain ⟨g, off, rfl⟩ := hl.mk.addr (by omega)
              obtain ⟨hg, a5, l5, c5, hc5, hv5⟩ := RowsOf.at (R := fun w a l c zs => VS w a l c zs 3) hl hlt2
              obtain ⟨gp, op, rfl⟩ := hps.addr (by omega)
              obtain ⟨hgp, xp⟩ := hps.at hlt2
              obtain ⟨z, ez⟩ : ∃ z, z = ps.getD j 0 := ⟨_, rfl⟩
              have hpz := unhide HP j hlt2
              rw [← ez] at xp hpz
              have HPZ := hide hpz
              have fp := ((unhide HD).cell (p := ⟨gp, op + j, none⟩) hgp).trans xp
              have f2 := ((unhide HD).cell (p := ⟨g, off + j, none⟩) hg).trans hc5
              have hgpr := Nat.lt_of_lt_of_le hgp (unhide HD).size
              have hgr := Nat.lt_of_lt_of_le hg (unhide HD).size
              have hj0 : (0 : Int) ≤ (j : Int) := by omega
              have hj1 : (j : Int) < (len0 : Int) := by omega
              clear ez xp hpz hc5 hgp hg
              go_upto_region 20 with fail
              have HW : Below wr.heap.size wr wr.drew := (Below.refl _ _).drew
              refine till_start (fun w' => w'.cell? ⟨gp, op + j, none⟩ = some (.int .i64 z)) 6 (by kernel_rfl) ?_ (fun hHeld => ?_)
              · exact (HW.cell (p := ⟨gp, op + j, none⟩) hgpr).trans fp
              refine till_tk (i := 0) (v := ?_) [2, 3, 6] rfl (Or.inl ⟨by rfl, ?_⟩) ?_
              rotate_left
              · (intro w hSw; (try dsimp only at hSw); go_simp; try with_reducible rfl)
              simp only [Act.put, aGet, aZero, aSet, aHead, aTail]
              refine till_tk (i := 1) (v := ?_) [2, 3, 6] rfl (Or.inl ⟨by rfl, ?_⟩) ?_
              rotate_left
              · (intro w hSw; (try dsimp only at hSw); go_simp; try with_reducible rfl)
              simp only [Act.put, aGet, aSucc, aZero, aSet, aHead, aTail]
              refine till_tk (i := 2) (v := ?_) [3, 6] rfl (Or.inl ⟨by rfl, ?_⟩) ?_
              rotate_left
              · (intro w hSw; (try dsimp only at hSw); go_simp; try with_reducible rfl)
              simp only [Act.put, aGet, aSucc, aZero, aSet, aHead, aTail]
              refine till_tk (i := 3) (v := ?_) [6] rfl (Or.inl ⟨by rfl, ?_⟩) ?_
              rotate_left
              · (intro w hSw; (try dsimp only at hSw); go_simp; try with_reducible rfl)
              simp only [Act.put, aGet, aSucc, aZero, aSet, aHead, aTail]
              refine till_tk (i := 4) (v := ?_) [5, 6] rfl (Or.inl ⟨by rfl, ?_⟩) ?_
              rotate_left
              · (intro w hSw; (try dsimp only at hSw); go_simp; try with_reducible rfl)
              simp only [Act.put, aGet, aSucc, aZero, aSet, aHead, aTail]
              refine till_in (i := 5) (by kernel_rfl) rfl (fun K hK => ?_)
              go_simp
              refine (rpivotK a5 l5 c5 (ls.getD j []) 3 _ ((hv5.later (unhide HD)).later HW).vk).mono ?_
              rintro e w11 ⟨z2, rfl, hz2, hb9⟩
              obtain rfl : z = z2 := pivZ_inj (unhide HPZ) hz2
              replace HW := Below.step HW hb9
              clear hb9 hz2
              refine hK.out _ _ ?_ (fun hHeld => ?_)
              · exact (HW.cell (p := ⟨gp, op + j, none⟩) hgpr).trans fp
              clear hK K
              try simp only [Act.put, aGet, aSucc, aZero, aSet, aHead, aTail]
              refine till_out (i := 6) (by kernel_rfl) rfl (by kernel_rfl) (fun K hK => ?_)
              go_simp
              refine hK.out _ _ ?_
              clear hK K
              try simp only [Act.put, aGet, aSucc, aZero, aSet, aHead, aTail]
              refine till_done (by kernel_rfl) ?_ _
              clear hHeld fp f2
              go_wp2
              go_roundw
              case rel => exact ⟨j + 1, by omega, by go_num, Below.step (unhide HD) HW⟩
              case measure => simp [intOf]; omega
            · have hjn : j = len0 := by omega
              have hj1 : ¬ (j : Int) < (len0 : Int) := by omega
              go_wp2
              go_roundw
              case rel => exact ⟨i + 1, a3, c3, cs, (N : Int), by omega, by go_num, rfl, rfl, by omega, by omega, ((unhide HCS).later (Below.step (unhide HC) (unhide HD))), Below.step (unhide HC) (unhide HD)⟩
              case measure => simp [intOf]; omega
        · have hff : rform ls x = false := by simpa using hform
          have HFF := hide hff
          have hq0 : q0 = false := by
            rw [← Bool.not_eq_true, unhide HQ]
            exact fun e => hform e.1
          clear hff hform
          go_wp2_with fail
          refine (hnfNoK al len0 cl ls 3 x _ hl.mk ⟨hx1, hx2⟩ (unhide HFF)).mono ?_
          rintro e w3 ⟨rfl, hb9⟩
          replace hl := hl.later hb9
          replace HC := hide (Below.step (unhide HC) hb9)
          clear hb9
          go_wp2_with fail
          refine (isK al len0 cl ls 3 x q0 _ hl.mk ⟨hx1, hx2⟩ (by omega) (unhide HQ)).mono ?_
          rintro e w4 ⟨rfl, hb9⟩
          replace hl := hl.later hb9
          replace HC := hide (Below.step (unhide HC) hb9)
          clear hb9
          go_wp2_with fail
          refine (refIsK al len0 cl ls 3 x q0 _ hl.mk ⟨hx1, hx2⟩ (by omega) (unhide HQ)).mono ?_
          rintro e w5 ⟨rfl, hb9⟩
          replace hl := hl.later hb9
          replace HC := hide (Below.step (unhide HC) hb9)
          clear hb9
          go_wp2_with fail
          refine (refFormK al len0 cl ls x _ hl.mk.ml ⟨hx1, hx2⟩ false (unhide HFF)).mono ?_
          rintro e w6 ⟨rfl, hb9⟩
          replace hl := hl.later hb9
          replace HC := hide (Below.step (unhide HC) hb9)
          clear hb9
          go_wp2_with fail
          refine (pivotsK al len0 cl ls 3 _ hl.mk (by omega)).mono ?_
          rintro e w9 ⟨ap, cp, ps, rfl, hps, hpv, hb9⟩
          have HP := hide hpv
          replace hl := hl.later hb9
          replace HC := hide (Below.step (unhide HC) hb9)
          clear hb9 hpv
          go_wp2_with fail
          go_loopw [73] (fun t wr => ∃ j : Nat, j ≤ len0 ∧ t = .int .i64 (j : Int) ∧ Below w9.heap.size w9 wr) (fun t _ => len0 - (intOf t).toNat)
          case atStart => exact ⟨0, Nat.zero_le _, rfl, Below.refl _ _⟩
          case round =>
            obtain ⟨j, hj, rfl, hB⟩ := hrel
            have HD := hide hB
            clear hB
            by_cases hlt2 : j < len0
            · obtain ⟨g, off, rfl⟩ := hl.mk.addr (by omega)
              obtain ⟨hg, a5, l5, c5, hc5, hv5⟩ := RowsOf.at (R := fun w a l c zs => VS w a l c zs 3) hl hlt2
              obtain ⟨gp, op, rfl⟩ := hps.addr (by omega)
              obtain ⟨hgp, xp⟩ := hps.at hlt2
              obtain ⟨z, ez⟩ : ∃ z, z = ps.getD j 0 := ⟨_, rfl⟩
              have hpz := unhide HP j hlt2
              rw [← ez] at xp hpz
              have HPZ := hide hpz
              have fp := ((unhide HD).cell (p := ⟨gp, op + j, none⟩) hgp).trans xp
              have f2 := ((unhide HD).cell (p := ⟨g, off + j, none⟩) hg).trans hc5
              have hgpr := Nat.lt_of_lt_of_le hgp (unhide HD).size
              have hgr := Nat.lt_of_lt_of_le hg (unhide HD).size
              have hj0 : (0 : Int) ≤ (j : Int) := by omega
              have hj1 : (j : Int) < (len0 : Int) := by omega
              clear ez xp hpz hc5 hgp hg
              go_upto_region 20 with fail
              have HW : Below wr.heap.size wr wr.drew := (Below.refl _ _).drew
              refine till_start (fun w' => w'.cell? ⟨gp, op + j, none⟩ = some (.int .i64 z)) 6 (by kernel_rfl) ?_ (fun hHeld => ?_)
              · exact (HW.cell (p := ⟨gp, op + j, none⟩) hgpr).trans fp
              refine till_tk (i := 0) (v := ?_) [2, 3, 6] rfl (Or.inl ⟨by rfl, ?_⟩) ?_
              rotate_left
              · (intro w hSw; (try dsimp only at hSw); go_simp; try with_reducible rfl)
              simp only [Act.put, aGet, aZero, aSet, aHead, aTail]
              refine till_tk (i := 1) (v := ?_) [2, 3, 6] rfl (Or.inl ⟨by rfl, ?_⟩) ?_
              rotate_left
              · (intro w hSw; (try dsimp only at hSw); go_simp; try with_reducible rfl)
              simp only [Act.put, aGet, aSucc, aZero, aSet, aHead, aTail]
              refine till_tk (i := 2) (v := ?_) [3, 6] rfl (Or.inl ⟨by rfl, ?_⟩) ?_
              rotate_left
              · (intro w hSw; (try dsimp only at hSw); go_simp; try with_reducible rfl)
              simp only [Act.put, aGet, aSucc, aZero, aSet, aHead, aTail]
              refine till_tk (i := 3) (v := ?_) [6] rfl (Or.inl ⟨by rfl, ?_⟩) ?_
              rotate_left
              · (intro w hSw; (try dsimp only at hSw); go_simp; try with_reducible rfl)
              simp only [Act.put, aGet, aSucc, aZero, aSet, aHead, aTail]
              refine till_tk (i := 4) (v := ?_) [5, 6] rfl (Or.inl ⟨by rfl, ?_⟩) ?_
              rotate_left
              · (intro w hSw; (try dsimp only at hSw); go_simp; try with_reducible rfl)
              simp only [Act.put, aGet, aSucc, aZero, aSet, aHead, aTail]
              refine till_in (i := 5) (by kernel_rfl) rfl (fun K hK => ?_)
              go_simp
              refine (rpivotK a5 l5 c5 (ls.getD j []) 3 _ ((hv5.later (unhide HD)).later HW).vk).mono ?_
              rintro e w11 ⟨z2, rfl, hz2, hb9⟩
              obtain rfl : z = z2 := pivZ_inj (unhide HPZ) hz2
              replace HW := Below.step HW hb9
              clear hb9 hz2
              refine hK.out _ _ ?_ (fun hHeld => ?_)
              · exact (HW.cell (p := ⟨gp, op + j, none⟩) hgpr).trans fp
              clear hK K
              try simp only [Act.put, aGet, aSucc, aZero, aSet, aHead, aTail]
              refine till_out (i := 6) (by kernel_rfl) rfl (by kernel_rfl) (fun K hK => ?_)
              go_simp
              refine hK.out _ _ ?_
              clear hK K
              try simp only [Act.put, aGet, aSucc, aZero, aSet, aHead, aTail]
              refine till_done (by kernel_rfl) ?_ _
              clear hHeld fp f2
              go_wp2
              go_roundw
              case rel => exact ⟨j + 1, by omega, by go_num, Below.step (unhide HD) HW⟩
              case measure => simp [intOf]; omega
            · have hjn : j = len0 := by omega
              have hj1 : ¬ (j : Int) < (len0 : Int) := by omega
              go_wp2
              go_roundw
              case rel => exact ⟨i + 1, a3, c3, cs, (N : Int), by omega, by go_num, rfl, rfl, by omega, by omega, ((unhide HCS).later (Below.step (unhide HC) (unhide HD))), Below.step (unhide HC) (unhide HD)⟩
              case measure => simp [intOf]; omega
      · have hin : i = 2 := by omega
        subst hin
        have hi1 : ¬ ((2 : Nat) : Int) < 2 := by omega
        go_wp2_with fail
        refine (awake10_any _).mono ?_
        rintro e w15 ⟨rfl, hb9⟩
        go_wp2
        go_ret
        exact ⟨rfl, Below.step (Below.step (unhide HB) (unhide HC)) hb9⟩
  · go_wp2_with fail
    refine (awake10_any _).mono ?_
    rintro e w15 ⟨rfl, hb9⟩
    go_wp2
    go_ret
    exact ⟨rfl, Below.step (unhide HB) hb9⟩

end Go.Proofs.YtnaajmanpoobfaaGreat
