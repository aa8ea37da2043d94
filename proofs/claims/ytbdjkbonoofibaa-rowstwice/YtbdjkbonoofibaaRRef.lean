/-
  What the reference's SameAll, Normal, OfAll and Turn tell, and likeAll of the statements.
-/
import Derived.Test.YtbdjkbonoofibaaMOwn2
import Derived.Test.YtbdjkbonoofibaaRankNum
import Derived.Test.YtbdjkbonoofibaaJF
import Derived.Test.YtbdjkbonoofibaaJE
import Derived.Deep.CutRange
namespace Go.Proofs.Ytbdjkbonoofibaa
open Go.RowKit Lb
set_option maxRecDepth 20000

theorem vfn_up {w : World} {ao : Option Addr} {n cap k l : Nat} {zs : List Int} (h : VF w ao n cap zs k) (hl : k ≤ l) : VF w ao n cap zs l := VecOf.mono h (fun _ h => h.up hl)
theorem mapR_of {f : List Int → Int} {rs : List (List Int)} {ps : List Int} {n : Nat} (hl : rs.length = n) (hp : ps.length = n) (h : ∀ j, j < n → ps.getD j 0 = f (rs.getD j [])) : ps = rs.map f := by
  refine vec_ext (by rw [List.length_map, hl, hp]) fun j hj => ?_
  rw [h j (by omega)]
  simp [List.getD, show j < rs.length by omega]
theorem vturn_snoc (rs : List (List Int)) (i : Nat) : vturn rs (i + 1) = vturn rs i ++ [rs.map fun r => r.getD i 0] := by
  unfold vturn
  rw [List.range_succ, List.map_append]; rfl
set_option maxRecDepth 20000 in
set_option maxHeartbeats 2000000 in
theorem refSameAllK (ao : Option Addr) (n cap : Nat) (rs : List (List Int)) (k : Nat) (ap : Option Addr) (m cp : Nat) (ss : List (List Int)) (l : Nat) (w : World) (h : MF w ao n cap rs k) (h' : MF w ap m cp ss l) (he : rs = ss) :
    Calls Try.prog 15 #[.slice ao n cap, .slice ap m cp] w fun e w' => e = .returned (.bool true) ∧ Below w.heap.size w w' := by
  have hmn := Nat.le_trans h.cap_le h.cap_max
  unfold maxLen at hmn
  have hnm : n = m := by rw [← h.len_eq, ← h'.len_eq, he]
  subst hnm
  have HE := hide he
  clear he
  have hne' : ((n : Int) != (n : Int)) = false := by simp
  go_enter Try.func15, Try.ntmps15
  go_wp2_with fail
  go_loopw [5] (fun t wr => ∃ i : Nat, i ≤ n ∧ t = .int .i64 (i : Int) ∧ Below w.heap.size w wr) (fun t _ => n - (intOf t).toNat)
  case atStart => exact ⟨0, Nat.zero_le _, rfl, Below.refl _ _⟩
  case round =>
    obtain ⟨i, hi, rfl, hB⟩ := hrel
    have HB := hide hB
    clear hB
    by_cases hlt : i < n
    · obtain ⟨g, off, rfl⟩ := h.addr (by omega)
      obtain ⟨hg, a5, l5, c5, hc5, hv5⟩ := RowsOf.at (R := fun w a l c zs => VF w a l c zs k) h hlt
      obtain ⟨g2, off2, rfl⟩ := h'.addr (by omega)
      obtain ⟨hg2, a6, l6, c6, hc6, hv6⟩ := RowsOf.at (R := fun w a l' c zs => VF w a l' c zs l) h' hlt
      replace hv5 := hv5.later (unhide HB)
      replace hv6 := hv6.later (unhide HB)
      have f2 := ((unhide HB).cell (p := ⟨g, off + i, none⟩) hg).trans hc5
      have f3 := ((unhide HB).cell (p := ⟨g2, off2 + i, none⟩) hg2).trans hc6
      have hgr := Nat.lt_of_lt_of_le hg (unhide HB).size
      have hgr2 := Nat.lt_of_lt_of_le hg2 (unhide HB).size
      have hi0 : (0 : Int) ≤ (i : Int) := by omega
      have hi1 : (i : Int) < (n : Int) := by omega
      clear hc5 hg hc6 hg2
      have HW : Below wr.heap.size wr wr.drew := (Below.refl _ _).drew
      go_upto_region 6 with fail
      refine till_start (fun w' => w'.cell? ⟨g, off + i, none⟩ = some (.slice a5 l5 c5) ∧ w'.cell? ⟨g2, off2 + i, none⟩ = some (.slice a6 l6 c6)) 9 (by kernel_rfl) ?_ (fun hHeld => ?_)
      · exact ⟨(HW.cell (p := ⟨g, off + i, none⟩) hgr).trans f2, (HW.cell (p := ⟨g2, off2 + i, none⟩) hgr2).trans f3⟩
      refine till_take (i := 0) (v := ?_) [2, 3, 8, 9] rfl (by kernel_rfl) (by kernel_rfl) (by kernel_rfl) (by kernel_rfl) (fun _ _ _ h => h) (Or.inl ⟨by rfl, ?_⟩) (by assumption) ?_
      rotate_left
      · (intro w hSw; (try dsimp only at hSw); go_simp; try with_reducible rfl)
      simp only [Act.put, List.getElem_toArray, List.getElem_cons_zero, List.setIfInBounds_toArray, List.set_cons_zero, List.set_cons_succ]
      refine till_take (i := 1) (v := ?_) [2, 3, 8, 9] rfl (by kernel_rfl) (by kernel_rfl) (by kernel_rfl) (by kernel_rfl) (fun _ _ _ h => h) (Or.inl ⟨by rfl, ?_⟩) (by assumption) ?_
      rotate_left
      · (intro w hSw; (try dsimp only at hSw); go_simp; try with_reducible rfl)
      simp only [Act.put, List.getElem_toArray, List.getElem_cons_succ, List.getElem_cons_zero, List.setIfInBounds_toArray, List.set_cons_zero, List.set_cons_succ]
      refine till_take (i := 2) (v := ?_) [3, 8, 9] rfl (by kernel_rfl) (by kernel_rfl) (by kernel_rfl) (by kernel_rfl) (fun _ _ _ h => h) (Or.inl ⟨by rfl, ?_⟩) (by assumption) ?_
      rotate_left
      · (intro w hSw; (try dsimp only at hSw); go_simp; try with_reducible rfl)
      simp only [Act.put, List.getElem_toArray, List.getElem_cons_succ, List.getElem_cons_zero, List.setIfInBounds_toArray, List.set_cons_zero, List.set_cons_succ]
      refine till_take (i := 3) (v := ?_) [8, 9] rfl (by kernel_rfl) (by kernel_rfl) (by kernel_rfl) (by kernel_rfl) (fun _ _ _ h => h) (Or.inl ⟨by rfl, ?_⟩) (by assumption) ?_
      rotate_left
      · (intro w hSw; (try dsimp only at hSw); go_simp; try with_reducible rfl)
      simp only [Act.put, List.getElem_toArray, List.getElem_cons_succ, List.getElem_cons_zero, List.setIfInBounds_toArray, List.set_cons_zero, List.set_cons_succ]
      refine till_take (i := 4) (v := ?_) [6, 7, 8, 9] rfl (by kernel_rfl) (by kernel_rfl) (by kernel_rfl) (by kernel_rfl) (fun _ _ _ h => h) (Or.inl ⟨by rfl, ?_⟩) (by assumption) ?_
      rotate_left
      · (intro w hSw; (try dsimp only at hSw); go_simp; try with_reducible rfl)
      simp only [Act.put, List.getElem_toArray, List.getElem_cons_succ, List.getElem_cons_zero, List.setIfInBounds_toArray, List.set_cons_zero, List.set_cons_succ]
      refine till_take (i := 5) (v := ?_) [6, 7, 8, 9] rfl (by kernel_rfl) (by kernel_rfl) (by kernel_rfl) (by kernel_rfl) (fun _ _ _ h => h) (Or.inl ⟨by rfl, ?_⟩) (by assumption) ?_
      rotate_left
      · (intro w hSw; (try dsimp only at hSw); go_simp; try with_reducible rfl)
      simp only [Act.put, List.getElem_toArray, List.getElem_cons_succ, List.getElem_cons_zero, List.setIfInBounds_toArray, List.set_cons_zero, List.set_cons_succ]
      refine till_take (i := 6) (v := ?_) [7, 8, 9] rfl (by kernel_rfl) (by kernel_rfl) (by kernel_rfl) (by kernel_rfl) (fun _ _ _ h => h) (Or.inl ⟨by rfl, ?_⟩) (by assumption) ?_
      rotate_left
      · (intro w hSw; (try dsimp only at hSw); go_simp; try with_reducible rfl)
      simp only [Act.put, List.getElem_toArray, List.getElem_cons_succ, List.getElem_cons_zero, List.setIfInBounds_toArray, List.set_cons_zero, List.set_cons_succ]
      refine till_take (i := 7) (v := ?_) [8, 9] rfl (by kernel_rfl) (by kernel_rfl) (by kernel_rfl) (by kernel_rfl) (fun _ _ _ h => h) (Or.inl ⟨by rfl, ?_⟩) (by assumption) ?_
      rotate_left
      · (intro w hSw; (try dsimp only at hSw); go_simp; try with_reducible rfl)
      simp only [Act.put, List.getElem_toArray, List.getElem_cons_succ, List.getElem_cons_zero, List.setIfInBounds_toArray, List.set_cons_zero, List.set_cons_succ]
      refine till_in (i := 8) (by kernel_rfl) rfl (fun K hK => ?_)
      go_simp
      refine (rvsameK _ _ _ (rs.getD i []) k _ _ _ (ss.getD i []) l _ (hv5.later HW) (hv6.later HW) (by rw [unhide HE])).mono ?_
      rintro e w9 ⟨rfl, hb9⟩
      replace HW := Below.step HW hb9
      clear hb9
      refine hK.out _ _ ?_ (fun hHeld => ?_)
      · exact ⟨(HW.cell (p := ⟨g, off + i, none⟩) hgr).trans f2, (HW.cell (p := ⟨g2, off2 + i, none⟩) hgr2).trans f3⟩
      clear hK K
      try simp only [Act.put, List.getElem_toArray, List.getElem_cons_succ, List.getElem_cons_zero, List.setIfInBounds_toArray, List.set_cons_zero, List.set_cons_succ]
      refine till_out (i := 9) (by kernel_rfl) rfl (by kernel_rfl) (fun K hK => ?_)
      go_simp
      refine hK.out _ _ ?_
      clear hK K
      try simp only [Act.put, List.getElem_toArray, List.getElem_cons_succ, List.getElem_cons_zero, List.setIfInBounds_toArray, List.set_cons_zero, List.set_cons_succ]
      refine till_done (by kernel_rfl) ?_ _
      go_wp2
      go_roundw
      case rel => exact ⟨i + 1, by omega, by go_num, Below.step (unhide HB) HW⟩
      case measure => simp [intOf]; omega
    · have hin : ¬ (i : Int) < (n : Int) := by omega
      go_wp2
      go_ret
      exact ⟨rfl, unhide HB⟩

theorem not_alike_len' {a b : List (List Int)} (h : a.length ≠ b.length) : ¬ Alike a b := fun e => h e.len
theorem not_alike_at' {a b : List (List Int)} {i : Nat} (h : ¬ VSame (a.getD i []) (b.getD i [])) : ¬ Alike a b := fun e => h (e.at i)
set_option maxRecDepth 20000 in
set_option maxHeartbeats 2000000 in
theorem likeAllK (ao : Option Addr) (n cap : Nat) (rs : List (List Int)) (k : Nat) (ap : Option Addr) (m cp : Nat) (ss : List (List Int)) (l : Nat) (w : World) (h : MK w ao n cap rs k) (h' : MK w ap m cp ss l) (hk : k ≤ 900000) (hl : l ≤ 900000) (hr : ∀ i, (rs.getD i []).length ≤ 1000000) (hr' : ∀ i, (ss.getD i []).length ≤ 1000000) :
    Calls Try.prog 21 #[.slice ao n cap, .slice ap m cp] w fun e w' => ∃ q, e = .returned (.bool q) ∧ (q = true ↔ Alike rs ss) ∧ Below w.heap.size w w' := by
  have hmn := Nat.le_trans h.cap_le h.cap_max
  have hmm := Nat.le_trans h'.cap_le h'.cap_max
  unfold maxLen at hmn hmm
  have HL := hide h.len_eq
  have HL' := hide h'.len_eq
  by_cases hne : n = m
  · subst hne
    have hne' : ((n : Int) != (n : Int)) = false := by simp
    go_enter Try.func21, Try.ntmps21
    go_wp2_with fail
    go_loopw [13] (fun t wr => ∃ i : Nat, i ≤ n ∧ t = .int .i64 (i : Int) ∧ (∀ j, j < i → VSame (rs.getD j []) (ss.getD j [])) ∧ Below w.heap.size w wr) (fun t _ => n - (intOf t).toNat)
    case atStart => exact ⟨0, Nat.zero_le _, rfl, fun j hj => absurd hj (by omega), Below.refl _ _⟩
    case round =>
      obtain ⟨i, hi, rfl, hall, hB⟩ := hrel
      have HA := hide hall
      have HB := hide hB
      clear hall hB
      by_cases hlt : i < n
      · obtain ⟨g, off, rfl⟩ := h.addr (by omega)
        obtain ⟨hg, a5, l5, c5, hc5, hv5⟩ := RowsOf.at (R := fun w a l c zs => VK w a l c zs k) h hlt
        obtain ⟨g2, off2, rfl⟩ := h'.addr (by omega)
        obtain ⟨hg2, a6, l6, c6, hc6, hv6⟩ := RowsOf.at (R := fun w a l' c zs => VK w a l' c zs l) h' hlt
        have hn5 : l5 ≤ 1000000 := by rw [← hv5.len_eq]; exact hr i
        have hn6 : l6 ≤ 1000000 := by rw [← hv6.len_eq]; exact hr' i
        replace hv5 := hv5.later (unhide HB)
        replace hv6 := hv6.later (unhide HB)
        have f2 := ((unhide HB).cell (p := ⟨g, off + i, none⟩) hg).trans hc5
        have f3 := ((unhide HB).cell (p := ⟨g2, off2 + i, none⟩) hg2).trans hc6
        have hgr := Nat.lt_of_lt_of_le hg (unhide HB).size
        have hgr2 := Nat.lt_of_lt_of_le hg2 (unhide HB).size
        have hi0 : (0 : Int) ≤ (i : Int) := by omega
        have hi1 : (i : Int) < (n : Int) := by omega
        clear hc5 hg hc6 hg2
        have HW : Below wr.heap.size wr wr.drew := (Below.refl _ _).drew
        go_upto_region 6 with fail
        refine till_start (fun w' => w'.cell? ⟨g, off + i, none⟩ = some (.slice a5 l5 c5) ∧ w'.cell? ⟨g2, off2 + i, none⟩ = some (.slice a6 l6 c6)) 9 (by kernel_rfl) ?_ (fun hHeld => ?_)
        · exact ⟨(HW.cell (p := ⟨g, off + i, none⟩) hgr).trans f2, (HW.cell (p := ⟨g2, off2 + i, none⟩) hgr2).trans f3⟩
        refine till_take (i := 0) (v := ?_) [2, 3, 8, 9] rfl (by kernel_rfl) (by kernel_rfl) (by kernel_rfl) (by kernel_rfl) (fun _ _ _ h => h) (Or.inl ⟨by rfl, ?_⟩) (by assumption) ?_
        rotate_left
        · (intro w hSw; (try dsimp only at hSw); go_simp; try with_reducible rfl)
        simp only [Act.put, List.getElem_toArray, List.getElem_cons_zero, List.setIfInBounds_toArray, List.set_cons_zero, List.set_cons_succ]
        refine till_take (i := 1) (v := ?_) [2, 3, 8, 9] rfl (by kernel_rfl) (by kernel_rfl) (by kernel_rfl) (by kernel_rfl) (fun _ _ _ h => h) (Or.inl ⟨by rfl, ?_⟩) (by assumption) ?_
        rotate_left
        · (intro w hSw; (try dsimp only at hSw); go_simp; try with_reducible rfl)
        simp only [Act.put, List.getElem_toArray, List.getElem_cons_succ, List.getElem_cons_zero, List.setIfInBounds_toArray, List.set_cons_zero, List.set_cons_succ]
        refine till_take (i := 2) (v := ?_) [3, 8, 9] rfl (by kernel_rfl) (by kernel_rfl) (by kernel_rfl) (by kernel_rfl) (fun _ _ _ h => h) (Or.inl ⟨by rfl, ?_⟩) (by assumption) ?_
        rotate_left
        · (intro w hSw; (try dsimp only at hSw); go_simp; try with_reducible rfl)
        simp only [Act.put, List.getElem_toArray, List.getElem_cons_succ, List.getElem_cons_zero, List.setIfInBounds_toArray, List.set_cons_zero, List.set_cons_succ]
        refine till_take (i := 3) (v := ?_) [8, 9] rfl (by kernel_rfl) (by kernel_rfl) (by kernel_rfl) (by kernel_rfl) (fun _ _ _ h => h) (Or.inl ⟨by rfl, ?_⟩) (by assumption) ?_
        rotate_left
        · (intro w hSw; (try dsimp only at hSw); go_simp; try with_reducible rfl)
        simp only [Act.put, List.getElem_toArray, List.getElem_cons_succ, List.getElem_cons_zero, List.setIfInBounds_toArray, List.set_cons_zero, List.set_cons_succ]
        refine till_take (i := 4) (v := ?_) [6, 7, 8, 9] rfl (by kernel_rfl) (by kernel_rfl) (by kernel_rfl) (by kernel_rfl) (fun _ _ _ h => h) (Or.inl ⟨by rfl, ?_⟩) (by assumption) ?_
        rotate_left
        · (intro w hSw; (try dsimp only at hSw); go_simp; try with_reducible rfl)
        simp only [Act.put, List.getElem_toArray, List.getElem_cons_succ, List.getElem_cons_zero, List.setIfInBounds_toArray, List.set_cons_zero, List.set_cons_succ]
        refine till_take (i := 5) (v := ?_) [6, 7, 8, 9] rfl (by kernel_rfl) (by kernel_rfl) (by kernel_rfl) (by kernel_rfl) (fun _ _ _ h => h) (Or.inl ⟨by rfl, ?_⟩) (by assumption) ?_
        rotate_left
        · (intro w hSw; (try dsimp only at hSw); go_simp; try with_reducible rfl)
        simp only [Act.put, List.getElem_toArray, List.getElem_cons_succ, List.getElem_cons_zero, List.setIfInBounds_toArray, List.set_cons_zero, List.set_cons_succ]
        refine till_take (i := 6) (v := ?_) [7, 8, 9] rfl (by kernel_rfl) (by kernel_rfl) (by kernel_rfl) (by kernel_rfl) (fun _ _ _ h => h) (Or.inl ⟨by rfl, ?_⟩) (by assumption) ?_
        rotate_left
        · (intro w hSw; (try dsimp only at hSw); go_simp; try with_reducible rfl)
        simp only [Act.put, List.getElem_toArray, List.getElem_cons_succ, List.getElem_cons_zero, List.setIfInBounds_toArray, List.set_cons_zero, List.set_cons_succ]
        refine till_take (i := 7) (v := ?_) [8, 9] rfl (by kernel_rfl) (by kernel_rfl) (by kernel_rfl) (by kernel_rfl) (fun _ _ _ h => h) (Or.inl ⟨by rfl, ?_⟩) (by assumption) ?_
        rotate_left
        · (intro w hSw; (try dsimp only at hSw); go_simp; try with_reducible rfl)
        simp only [Act.put, List.getElem_toArray, List.getElem_cons_succ, List.getElem_cons_zero, List.setIfInBounds_toArray, List.set_cons_zero, List.set_cons_succ]
        refine till_in (i := 8) (by kernel_rfl) rfl (fun K hK => ?_)
        go_simp
        refine (rvcmpK _ _ _ (rs.getD i []) k _ _ _ (ss.getD i []) l _ (hv5.later HW) (hv6.later HW) hk hl hn5 hn6).mono ?_
        rintro e w9 ⟨c, rfl, hc, hcl, hch, hb9⟩
        replace HW := Below.step HW hb9
        have HC := hide hc
        clear hb9 hc
        refine hK.out _ _ ?_ (fun hHeld => ?_)
        · exact ⟨(HW.cell (p := ⟨g, off + i, none⟩) hgr).trans f2, (HW.cell (p := ⟨g2, off2 + i, none⟩) hgr2).trans f3⟩
        clear hK K
        try simp only [Act.put, List.getElem_toArray, List.getElem_cons_succ, List.getElem_cons_zero, List.setIfInBounds_toArray, List.set_cons_zero, List.set_cons_succ]
        refine till_out (i := 9) (by kernel_rfl) rfl (by kernel_rfl) (fun K hK => ?_)
        go_simp
        refine hK.out _ _ ?_
        clear hK K
        try simp only [Act.put, List.getElem_toArray, List.getElem_cons_succ, List.getElem_cons_zero, List.setIfInBounds_toArray, List.set_cons_zero, List.set_cons_succ]
        refine till_done (by kernel_rfl) ?_ _
        by_cases h0 : c = 0
        · have HV := hide ((unhide HC).zero_iff.1 h0)
          have hb0 : (c != 0) = false := by simp [h0]
          clear h0
          go_wp2
          go_roundw
          case rel =>
            refine ⟨i + 1, by omega, by go_num, fun j hj => ?_, Below.step (unhide HB) HW⟩
            by_cases e : j = i
            · subst e; exact unhide HV
            · exact unhide HA j (by omega)
          case measure => simp [intOf]; omega
        · have HV := hide (fun e => h0 ((unhide HC).zero_iff.2 e) : ¬ VSame (rs.getD i []) (ss.getD i []))
          have hb0 : (c != 0) = true := by simp [h0]
          clear h0
          go_wp2
          go_ret
          exact ⟨false, rfl, ⟨fun e => by simp at e, fun e => absurd e (not_alike_at' (unhide HV))⟩, Below.step (unhide HB) HW⟩
      · have hin : i = n := by omega
        subst hin
        have HR := hide (alike_of (show rs.length = ss.length by rw [unhide HL, unhide HL']) fun j hj => unhide HA j (by rw [unhide HL] at hj; exact hj))
        go_wp2
        go_ret
        exact ⟨true, rfl, ⟨fun _ => unhide HR, fun _ => rfl⟩, unhide HB⟩
  · have hne' : ((n : Int) != (m : Int)) = true := by simp; omega
    have HR := hide (not_alike_len' (show rs.length ≠ ss.length by rw [unhide HL, unhide HL']; exact hne))
    clear hne
    go_enter Try.func21, Try.ntmps21
    go_wp2
    go_ret
    exact ⟨false, rfl, ⟨fun e => by simp at e, fun e => absurd e (unhide HR)⟩, Below.refl _ _⟩

theorem all_nought {zs : List Int} (h : ∀ j, j < zs.length → zs.getD j 0 = 0) : VSame zs [] := fun i => by
  rw [nil_at]
  by_cases c : i < zs.length
  · exact h i c
  · exact getD_out (by omega)
set_option maxRecDepth 20000 in
set_option maxHeartbeats 2000000 in
theorem refNormalK (ao : Option Addr) (n cap : Nat) (zs : List Int) (k : Nat) (w : World) (h : VS w ao n cap zs k) (hk : k ≤ 300000) (hn : n ≤ 1000000) :
    Calls Try.prog 25 #[.slice ao n cap] w fun e w' => ∃ a1 c1, e = .returned (.slice a1 n c1) ∧ VF w' a1 n c1 (vnormal zs) (k + 4) ∧ Below w.heap.size w w' := by
  have HL := hide h.len_eq
  go_enter Try.func25, Try.ntmps25
  go_wp2_with fail
  go_loopw [3] (fun t wr => ∃ i : Nat, i ≤ n ∧ t = .int .i64 (i : Int) ∧ (∀ j, j < i → zs.getD j 0 = 0) ∧ Below w.heap.size w wr) (fun t _ => n - (intOf t).toNat)
  case atStart => exact ⟨0, Nat.zero_le _, rfl, fun j hj => absurd hj (by omega), Below.refl _ _⟩
  case round =>
    obtain ⟨i, hi, rfl, hall, hB⟩ := hrel
    have HA := hide hall
    have HB := hide hB
    clear hall hB
    by_cases hlt : i < n
    · obtain ⟨g2, off2, rfl⟩ := h.vk.some (by omega)
      obtain ⟨b3, a3, l3, c3, E3, hy3⟩ := (h.vk.later (unhide HB)).at hlt
      obtain ⟨f3, f4⟩ := E3.facts
      have hg3 := E3.1
      have hi0 : (0 : Int) ≤ (i : Int) := by omega
      have hi1 : (i : Int) < (n : Int) := by omega
      obtain ⟨z, ez⟩ : ∃ z, z = zs.getD i 0 := ⟨_, rfl⟩
      rw [← ez] at hy3
      have EZ := hide ez
      clear ez
      obtain ⟨sg, es⟩ : ∃ s, s = z.sign := ⟨_, rfl⟩
      have ES := hide es
      go_wp2_with fail
      refine (rsignK b3 a3 l3 c3 z k sg _ hy3 (unhide ES)).mono ?_
      rintro e w4 ⟨rfl, hb1⟩
      replace HB := hide (Below.step (unhide HB) hb1)
      clear hb1 f3 f4 hg3 E3 hy3
      rcases Int.lt_trichotomy z 0 with c | c | c
      · obtain rfl : sg = -1 := by rw [es]; exact Int.sign_eq_neg_one_of_neg c
        have HN := hide (normal_neg (v := zs) ⟨i, fun j hj => by rw [nil_at]; exact unhide HA j hj, by rw [nil_at, ← unhide EZ]; exact c⟩)
        clear es c
        go_wp2_with fail
        refine (rvnegK _ _ _ zs k _ (h.later (unhide HB)) (by omega) hn).mono ?_
        rintro e w5 ⟨a7, c7, rfl, h7, hb1⟩
        go_wp2
        go_ret
        exact ⟨_, _, rfl, by rw [unhide HN]; exact vfn_up h7 (by omega), Below.step (unhide HB) hb1⟩
      · obtain rfl : sg = 0 := by rw [es, c]; rfl
        have H0 := hide c
        clear es c
        go_wp2
        go_roundw
        case rel =>
          refine ⟨i + 1, by omega, by go_num, fun j hj => ?_, unhide HB⟩
          by_cases e : j = i
          · subst e; rw [← unhide EZ]; exact unhide H0
          · exact unhide HA j (by omega)
        case measure => simp [intOf]; omega
      · obtain rfl : sg = 1 := by rw [es]; exact Int.sign_eq_one_of_pos c
        have HN := hide (normal_pos (v := zs) ⟨i, fun j hj => by rw [nil_at]; exact (unhide HA j hj).symm, by rw [nil_at, ← unhide EZ]; exact c⟩)
        clear es c
        go_wp2_with fail
        refine (rvnegK _ _ _ zs k _ (h.later (unhide HB)) (by omega) hn).mono ?_
        rintro e w5 ⟨a7, c7, rfl, h7, hb1⟩
        replace HB := hide (Below.step (unhide HB) hb1)
        clear hb1
        go_wp2_with fail
        refine (rvnegK _ _ _ (vneg zs) (k + 2) _ (h7.vs (by omega)) (by omega) hn).mono ?_
        rintro e w6 ⟨a8, c8, rfl, h8, hb1⟩
        go_wp2
        go_ret
        exact ⟨_, _, rfl, by rw [unhide HN]; rw [vneg_neg] at h8; exact h8, Below.step (unhide HB) hb1⟩
    · have hin : i = n := by omega
      subst hin
      have hz := all_nought (zs := zs) fun j hj => unhide HA j (by rw [unhide HL] at hj; exact hj)
      have HN := hide ((normal_nought hz).trans (neg_nought hz).symm)
      clear hz
      go_wp2_with fail
      refine (rvnegK _ _ _ zs k _ (h.later (unhide HB)) (by omega) hn).mono ?_
      rintro e w5 ⟨a7, c7, rfl, h7, hb1⟩
      go_wp2
      go_ret
      exact ⟨_, _, rfl, by rw [unhide HN]; exact vfn_up h7 (by omega), Below.step (unhide HB) hb1⟩

set_option maxRecDepth 20000 in
set_option maxHeartbeats 2000000 in
theorem refOfAllK (ao : Option Addr) (n cap : Nat) (rs : List (List Int)) (w : World) (h : RowsOf IRowAt w ao n cap rs) (hr : ∀ i, (rs.getD i []).length ≤ 1000000) (hn : n ≤ 100000) :
    Calls Try.prog 38 #[.slice ao n cap] w fun e w' => ∃ a1 c1, e = .returned (.slice a1 n c1) ∧ MF w' a1 n c1 rs 2 ∧ Below w.heap.size w w' := by
  have HL := hide h.len_eq
  have HQ := hide hr
  clear hr
  go_enter Try.func38, Try.ntmps38
  go_wp2_with fail
  go_loopw [3, 4] (fun s t wr => ∃ (i : Nat) (ao' : Option Addr) (cap' : Nat), i ≤ n ∧ t = .int .i64 (i : Int) ∧ s = .slice ao' i cap' ∧ MO wr w.heap.size ao' i cap' (rs.take i) 2 ∧ Below w.heap.size w wr) (fun _ t _ => n - (intOf t).toNat)
  case atStart => exact ⟨0, _, _, Nat.zero_le _, rfl, rfl, mo_nil _ _ _, Below.refl _ _⟩
  case round =>
    obtain ⟨i, ao', cap', hi, rfl, rfl, hown, hB⟩ := hrel
    have HB := hide hB
    clear hB
    by_cases hlt : i < n
    · obtain ⟨g, off, rfl⟩ := h.addr (by omega)
      obtain ⟨hg, a5, l5, c5, hc5, hv5⟩ := RowsOf.at (R := IRowAt) h hlt
      have hn5 : l5 ≤ 1000000 := by rw [← hv5.len_eq]; exact unhide HQ i
      replace hv5 := hv5.later (unhide HB)
      have f2 := ((unhide HB).cell (p := ⟨g, off + i, none⟩) hg).trans hc5
      have hgr := Nat.lt_of_lt_of_le hg (unhide HB).size
      have hi0 : (0 : Int) ≤ (i : Int) := by omega
      have hi1 : (i : Int) < (n : Int) := by omega
      clear hc5 hg
      go_wp2_with fail
      refine (rvofK _ _ _ (rs.getD i []) _ hv5 hn5).mono ?_
      rintro e w5 ⟨a7, c7, rfl, h7, hb9⟩
      replace hown := hown.later hb9
      replace HB := hide (Below.step (unhide HB) hb9)
      clear hb9 f2 hgr
      obtain ⟨L, eL⟩ : ∃ L, L = rs.take i := ⟨_, rfl⟩
      obtain ⟨x, ex⟩ : ∃ x, x = rs.getD i [] := ⟨_, rfl⟩
      rw [← eL] at hown
      rw [← ex] at h7
      have EL := hide eL
      have EX := hide ex
      clear eL ex
      obtain ⟨W6, hW6⟩ : ∃ W6, W6 = w5.alloc (.cells #[.slice a7 l5 c7] 24) := ⟨_, rfl⟩
      have hb9 : Below w5.heap.size w5 W6 := by rw [hW6]; exact below_new _ _
      have hone := mf_one h7
      replace hown := hown.later hb9
      replace HB := hide (Below.step (unhide HB) hb9)
      clear hb9
      have hsz := (unhide HB).size
      rw [hW6] at hown hsz
      go_wp2_with (at_builtin; refine append_rows (R := fun w a l c zs => VF w a l c zs 2) (steadyMO 2) rfl (.tmp 11) (.tmp 17) 22 Try.underlying22 rfl w.heap.size ao' i cap' L rfl hown _ 1 1 [x] rfl hone (by omega) hsz ?_)
      intro an cn w7 hown2 hgr7
      rw [← hW6] at hgr7 hown hsz
      clear hW6 hone
      have HD := (unhide HB).grown hgr7 hsz (MO.ge hown)
      clear hgr7
      go_wp2
      go_roundw
      case rel => exact ⟨i + 1, _, _, by omega, by go_num, rfl, by rw [take_snoc [] (by rw [unhide HL]; exact hlt), ← unhide EL, ← unhide EX]; exact hown2, HD⟩
      case measure => simp [intOf]; omega
    · have hin : i = n := by omega
      subst hin
      rw [List.take_of_length_le (by rw [unhide HL]; exact Nat.le_refl _)] at hown
      have hin' : ¬ (i : Int) < (i : Int) := by omega
      go_wp2
      go_ret
      exact ⟨_, _, rfl, hown.mf, unhide HB⟩

set_option maxRecDepth 20000 in
set_option maxHeartbeats 2000000 in
theorem refTurnK (ao : Option Addr) (n cap : Nat) (rs : List (List Int)) (k : Nat) (x : Int) (w : World) (h : MK w ao n cap rs k) (hn : n ≤ 100000) :
    Calls Try.prog 19 #[.slice ao n cap, .int .i64 x] w fun e w' => ∃ a1 c1, e = .returned (.slice a1 (room x) c1) ∧ MF w' a1 (room x) c1 (vturn rs (room x)) k ∧ Below w.heap.size w w' := by
  have HL := hide h.len_eq
  have hrm := room_le x
  have hz := fun W => roomK x W
  obtain ⟨m, em⟩ : ∃ m, m = room x := ⟨_, rfl⟩
  rw [← em] at hrm hz ⊢
  have HZ := hide hz
  clear em hz
  go_enter Try.func19, Try.ntmps19
  go_wp2_with fail
  go_loopw [5, 6] (fun s t wr => ∃ (i : Nat) (ao' : Option Addr) (cap' : Nat), i ≤ m ∧ t = .int .i64 (i : Int) ∧ s = .slice ao' i cap' ∧ MO wr w.heap.size ao' i cap' (vturn rs i) k ∧ Below w.heap.size w wr) (fun _ t _ => m - (intOf t).toNat)
  case atStart => exact ⟨0, _, _, Nat.zero_le _, rfl, rfl, mo_nil _ _ _, Below.refl _ _⟩
  case round =>
    obtain ⟨i, ao', cap', hi, rfl, rfl, hown, hB⟩ := hrel
    have HB := hide hB
    clear hB
    go_wp2_with fail
    refine (unhide HZ _).mono ?_
    rintro e w2 ⟨rfl, hb9⟩
    replace hown := hown.later hb9
    replace HB := hide (Below.step (unhide HB) hb9)
    clear hb9
    by_cases hlt : i < m
    · have hi1 : (i : Int) < (m : Int) := by omega
      go_wp2_with fail
      go_loopw [7, 8] (fun s t wq => ∃ (j : Nat) (av : Option Addr) (cv : Nat) (ps : List Int), j ≤ n ∧ t = .int .i64 (j : Int) ∧ s = .slice av j cv ∧ OwnV wq w2.heap.size av j cv ps k ∧ (∀ t, t < j → ps.getD t 0 = (rs.getD t []).getD i 0) ∧ Below w2.heap.size w2 wq) (fun _ t _ => n - (intOf t).toNat)
      case atStart => exact ⟨0, _, _, [], Nat.zero_le _, rfl, rfl, ownV_nil _ _ _, fun t ht => absurd ht (by omega), Below.refl _ _⟩
      case round =>
        obtain ⟨j, av, cv, ps, hj, rfl, rfl, hov, hall, hBq⟩ := hrel
        have HA := hide hall
        have HC := hide hBq
        clear hall hBq
        by_cases hjn : j < n
        · obtain ⟨g, off, rfl⟩ := h.addr (by omega)
          obtain ⟨hg, a5, l5, c5, hc5, hv5⟩ := RowsOf.at (R := fun w a l c zs => VK w a l c zs k) h hjn
          have hbb := Below.step (unhide HB) (unhide HC)
          replace hv5 := hv5.later hbb
          have f2 := (hbb.cell (p := ⟨g, off + j, none⟩) hg).trans hc5
          have hgr := Nat.lt_of_lt_of_le hg hbb.size
          have hj0 : (0 : Int) ≤ (j : Int) := by omega
          have hj1 : (j : Int) < (n : Int) := by omega
          clear hc5 hg hbb
          go_wp2_with fail
          refine (ratK _ _ _ (rs.getD j []) k i _ hv5 (by omega)).mono ?_
          rintro e w5 ⟨b5, a7, l7, c7, rfl, h5, hb9⟩
          replace hov := hov.later hb9
          replace HC := hide (Below.step (unhide HC) hb9)
          clear hb9 f2 hgr hv5
          obtain ⟨z, ez⟩ : ∃ z, z = (rs.getD j []).getD i 0 := ⟨_, rfl⟩
          rw [← ez] at h5
          have EZ := hide ez
          clear ez
          obtain ⟨W6, hW6⟩ : ∃ W6, W6 = w5.alloc (.cells #[.bool b5, .slice a7 l7 c7] 29) := ⟨_, rfl⟩
          obtain ⟨D5, hb9⟩ := boxes1 w5 b5 a7 l7 c7 hW6
          replace h5 := h5.later hb9
          replace hov := hov.later hb9
          replace HC := hide (Below.step (unhide HC) hb9)
          clear hb9
          have hE5 : EltAt W6 w5.heap.size 0 b5 a7 l7 c7 := ⟨D5.lt, D5.facts.1, D5.facts.2.1⟩
          have hsz := (unhide HC).size
          clear D5
          rw [hW6] at h5 hov hE5 hsz
          go_wp2_with (at_builtin; refine append_vec rfl (.tmp 21) (.tmp 28) 24 Try.underlying24 rfl w2.heap.size av j cv k ps rfl hov (by omega) hsz w5.heap.size 0 1 b5 a7 l7 c7 z rfl hE5 h5 ?_)
          intro gn cn w7 hown2 hgr hat
          rw [← hW6] at hgr hov hsz
          clear hW6
          have HD := (unhide HC).grown hgr hsz (own_ge hov)
          clear hgr hat
          go_wp2
          go_roundw
          case rel => exact ⟨j + 1, _, _, _, by omega, by go_num, rfl, hown2, by rw [unhide EZ]; exact snoc_each (f := fun t => (rs.getD t []).getD i 0) hov.len (unhide HA), HD⟩
          case measure => simp [intOf]; omega
        · have hjn' : j = n := by omega
          subst hjn'
          have hin' : ¬ (j : Int) < (j : Int) := by omega
          obtain ⟨x1, ex1⟩ : ∃ x1, x1 = rs.map fun r => r.getD i 0 := ⟨_, rfl⟩
          have hps : ps = x1 := by rw [ex1]; exact mapR_of (f := fun r => r.getD i 0) (unhide HL) hov.len (unhide HA)
          subst hps
          obtain ⟨L, eL⟩ : ∃ L, L = vturn rs i := ⟨_, rfl⟩
          rw [← eL] at hown
          have EL := hide eL
          have EX := hide ex1
          clear eL ex1
          replace hown := hown.later (unhide HC)
          replace HB := hide (Below.step (unhide HB) (unhide HC))
          have hvf := hov.vf
          clear HC HA hov
          obtain ⟨W6, hW6⟩ : ∃ W6, W6 = wr.alloc (.cells #[.slice av j cv] 24) := ⟨_, rfl⟩
          have hb9 : Below wr.heap.size wr W6 := by rw [hW6]; exact below_new _ _
          have hone := mf_one hvf
          replace hown := hown.later hb9
          replace HB := hide (Below.step (unhide HB) hb9)
          clear hb9
          have hsz := (unhide HB).size
          rw [hW6] at hown hsz
          go_wp2_with (at_builtin; refine append_rows (R := fun w a l c zs => VF w a l c zs k) (steadyMO k) rfl (.tmp 30) (.tmp 32) 22 Try.underlying22 rfl w.heap.size ao' i cap' L rfl hown _ 1 1 [ps] rfl hone (by omega) hsz ?_)
          intro an cn w7 hown2 hgr7
          rw [← hW6] at hgr7 hown hsz
          clear hW6 hone
          have HD := (unhide HB).grown hgr7 hsz (MO.ge hown)
          clear hgr7
          go_wp2
          go_roundw
          case rel => exact ⟨i + 1, _, _, by omega, by go_num, rfl, by rw [vturn_snoc, ← unhide EL, ← unhide EX]; exact hown2, HD⟩
          case measure => simp [intOf]; omega
    · have hin : i = m := by omega
      subst hin
      have hin' : ¬ (i : Int) < (i : Int) := by omega
      go_wp2
      go_ret
      exact ⟨_, _, rfl, hown.mf, unhide HB⟩
#print axioms refSameAllK
#print axioms likeAllK
#print axioms refNormalK
#print axioms refOfAllK
#print axioms refTurnK
end Go.Proofs.Ytbdjkbonoofibaa
