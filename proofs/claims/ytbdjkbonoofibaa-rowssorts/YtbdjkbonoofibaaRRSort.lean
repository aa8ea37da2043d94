/-
  What the reference's Sort tells: the rows sorted, of the same ones the first.
-/
import Derived.Test.YtbdjkbonoofibaaRRSl
namespace Go.Proofs.Ytbdjkbonoofibaa
open Go.RowKit Lb
set_option maxRecDepth 20000

theorem put_at {l r : List (List Int)} {x : List Int} {q : Nat} (h : IsSort l r) (ha : ∀ j, j < q → vlt (r.getD j []) x) (hb : q < r.length → vlt x (r.getD q [])) : IsSort (l ++ [x]) (r.take q ++ ([x] ++ r.drop q)) := by
  have hr : IsSort l (r.take q ++ r.drop q) := by rw [List.take_append_drop]; exact h
  refine hr.put (fun y hy => ?_) (fun y hy => ?_)
  · obtain ⟨j, hj, e⟩ := List.getElem_of_mem hy
    rw [List.length_take] at hj
    have := ha j (by omega)
    rw [show r.getD j [] = y by rw [← e]; simp [List.getD, show j < r.length by omega]] at this
    exact this
  · obtain ⟨j, hj, e⟩ := List.getElem_of_mem hy
    rw [List.length_drop] at hj
    rw [List.getElem_drop] at e
    have h1 := hb (by omega)
    by_cases c : j = 0
    · subst c
      rw [show r.getD q [] = y by rw [← e]; simp [List.getD, show q < r.length by omega]] at h1
      exact h1
    · have h2 := (List.pairwise_iff_getElem.1 h.asc) q (q + j) (by omega) (by omega) (by omega)
      rw [e] at h2
      rw [show r.getD q [] = r[q] by simp [List.getD, show q < r.length by omega]] at h1
      exact vlt_trans h1 h2
theorem wideR {rs : List (List Int)} {M : Nat} (h : ∀ i, (rs.getD i []).length ≤ M) : ∀ x ∈ rs, x.length ≤ M := by
  intro x hx
  obtain ⟨i, hi, e⟩ := List.getElem_of_mem hx
  have := h i
  rwa [show rs.getD i [] = rs[i] by simp [List.getD, hi], e] at this
theorem skip_at {l r : List (List Int)} {x : List Int} {q : Nat} (h : IsSort l r) (hq : q < r.length) (e : VSame (r.getD q []) x) : IsSort (l ++ [x]) r := by
  refine h.skip (y := r.getD q []) ?_ e.symm
  rw [show r.getD q [] = r[q] by simp [List.getD, hq]]
  exact List.getElem_mem hq
set_option maxRecDepth 40000 in
set_option maxHeartbeats 4000000 in
theorem refSortK (ao : Option Addr) (n cap : Nat) (rs : List (List Int)) (k : Nat) (w : World) (h : MS w ao n cap rs k) (hk : k ≤ 300000) (hr : ∀ i, (rs.getD i []).length ≤ 1000000) (hn : n ≤ 100000) :
    Calls Try.prog 23 #[.slice ao n cap] w fun e w' => ∃ a1 m c1 r, e = .returned (.slice a1 m c1) ∧ m ≤ n ∧ IsSort rs r ∧ MO w' w.heap.size a1 m c1 r (k + 4) ∧ Below w.heap.size w w' := by
  have HL := hide h.len_eq
  have HQ := hide hr
  clear hr
  go_enter Try.func23, Try.ntmps23
  go_wp2_with fail
  go_loopw [3, 4] (fun s t wr => ∃ (i : Nat) (ao' : Option Addr) (m cap' : Nat) (r : List (List Int)), i ≤ n ∧ m ≤ i ∧ t = .int .i64 (i : Int) ∧ s = .slice ao' m cap' ∧ MO wr w.heap.size ao' m cap' r (k + 4) ∧ IsSort (rs.take i) r ∧ Below w.heap.size w wr) (fun _ t _ => n - (intOf t).toNat)
  case atStart => exact ⟨0, _, _, _, [], Nat.zero_le _, Nat.le_refl _, rfl, rfl, mo_nil _ _ _, isSort_nil, Below.refl _ _⟩
  case round =>
    obtain ⟨i, ao', m, cap', r, hi, hmi, rfl, rfl, hown0, hsrt, hB0⟩ := hrel
    have HS := hide hsrt
    clear hsrt
    by_cases hlt : i < n
    · obtain ⟨g, off, rfl⟩ := h.addr (by omega)
      obtain ⟨hg, a5, l5, c5, hc5, hv50⟩ := RowsOf.at (R := fun w a l c zs => VS w a l c zs k) h hlt
      have hn5 : l5 ≤ 1000000 := by rw [← hv50.vk.len_eq]; exact unhide HQ i
      obtain ⟨x, ex⟩ : ∃ x, x = rs.getD i [] := ⟨_, rfl⟩
      rw [← ex] at hv50
      have EX := hide ex
      have HRL := hide hown0.len
      have hi0 : (0 : Int) ≤ (i : Int) := by omega
      have hi1 : (i : Int) < (n : Int) := by omega
      clear ex
      go_wp2_with fail
      go_loopw [5] (fun t wq => ∃ (q : Nat), q ≤ m ∧ t = .int .i64 (q : Int) ∧ (∀ j, j < q → vlt (r.getD j []) x) ∧ MO wq w.heap.size ao' m cap' r (k + 4) ∧ Below w.heap.size w wq) (fun t _ => m - (intOf t).toNat)
      case atStart => exact ⟨0, Nat.zero_le _, rfl, fun j hj => absurd hj (by omega), hown0, hB0⟩
      case round =>
        clear hown0 hB0
        obtain ⟨q, hq, rfl, hall, hown, hB⟩ := hrel
        have HA := hide hall
        have HB := hide hB
        have hv5 := hv50.later hB
        have f2 := (hB.cell (p := ⟨g, off + i, none⟩) hg).trans hc5
        have hgr := Nat.lt_of_lt_of_le hg hB.size
        clear hall hB
        by_cases hqm : q < m
        · obtain ⟨g3, rfl⟩ : ∃ g3, ao' = some ⟨g3, 0, none⟩ := by
            rcases hown.nil_or with ⟨_, e, _⟩ | e
            · omega
            · exact e
          obtain ⟨hg3, a6, l6, c6, f3, hv6⟩ := RowsOf.at (R := fun w a l c zs => VF w a l c zs (k + 4)) hown.mf hqm
          rw [Nat.zero_add] at f3
          have hn6 : l6 ≤ 1000000 := by
            rw [← hv6.len_eq]
            have e1 : r.getD q [] ∈ r := by
              rw [show r.getD q [] = r[q]'(by rw [unhide HRL]; exact hqm) by simp [List.getD, show q < r.length by rw [unhide HRL]; exact hqm]]
              exact List.getElem_mem _
            exact wideR (unhide HQ) _ (List.mem_of_mem_take ((unhide HS).first _ e1).mem)
          have hq0 : (0 : Int) ≤ (q : Int) := by omega
          have hq1 : (q : Int) < (m : Int) := by omega
          have HW : Below wr.heap.size wr wr.drew := (Below.refl _ _).drew
          go_upto_region 6 with fail
          refine till_start (fun w' => w'.cell? ⟨g3, q, none⟩ = some (.slice a6 l6 c6) ∧ w'.cell? ⟨g, off + i, none⟩ = some (.slice a5 l5 c5)) 15 (by kernel_rfl) ?_ (fun hHeld => ?_)
          · exact ⟨(HW.cell (p := ⟨g3, q, none⟩) hg3).trans f3, (HW.cell (p := ⟨g, off + i, none⟩) hgr).trans f2⟩
          refine till_take (i := 0) (v := ?_) [3, 4, 5, 6, 7, 8, 9, 10, 11, 12, 13, 14, 15] rfl (by kernel_rfl) (by kernel_rfl) (by kernel_rfl) (by kernel_rfl) (fun _ _ _ h => h) (Or.inl ⟨by rfl, ?_⟩) (by assumption) ?_
          rotate_left
          · (intro w hSw; (try dsimp only at hSw); go_simp; try with_reducible rfl)
          simp only [Act.put, List.getElem_toArray, List.getElem_cons_zero, List.setIfInBounds_toArray, List.set_cons_zero, List.set_cons_succ]
          refine till_take (i := 1) (v := ?_) [2, 3, 4, 5, 6, 7, 8, 9, 10, 11, 12, 13, 14, 15] rfl (by kernel_rfl) (by kernel_rfl) (by kernel_rfl) (by kernel_rfl) (fun _ _ _ h => h) (Or.inl ⟨by rfl, ?_⟩) (by assumption) ?_
          rotate_left
          · (intro w hSw; (try dsimp only at hSw); go_simp; try with_reducible rfl)
          simp only [Act.put, List.getElem_toArray, List.getElem_cons_succ, List.getElem_cons_zero, List.setIfInBounds_toArray, List.set_cons_zero, List.set_cons_succ]
          refine till_take (i := 2) (v := ?_) [3, 4, 5, 6, 7, 8, 9, 10, 11, 12, 13, 14, 15] rfl (by kernel_rfl) (by kernel_rfl) (by kernel_rfl) (by kernel_rfl) (fun _ _ _ h => h) (Or.inl ⟨by rfl, ?_⟩) (by assumption) ?_
          rotate_left
          · (intro w hSw; (try dsimp only at hSw); go_simp; try with_reducible rfl)
          simp only [Act.put, List.getElem_toArray, List.getElem_cons_succ, List.getElem_cons_zero, List.setIfInBounds_toArray, List.set_cons_zero, List.set_cons_succ]
          refine till_take (i := 3) (v := ?_) [4, 5, 6, 7, 8, 9, 10, 11, 12, 13, 14, 15] rfl (by kernel_rfl) (by kernel_rfl) (by kernel_rfl) (by kernel_rfl) (fun _ _ _ h => h) (Or.inl ⟨by rfl, ?_⟩) (by assumption) ?_
          rotate_left
          · (intro w hSw; (try dsimp only at hSw); go_simp; try with_reducible rfl)
          simp only [Act.put, List.getElem_toArray, List.getElem_cons_succ, List.getElem_cons_zero, List.setIfInBounds_toArray, List.set_cons_zero, List.set_cons_succ]
          refine till_take (i := 4) (v := ?_) [5, 6, 7, 8, 9, 10, 11, 12, 13, 14, 15] rfl (by kernel_rfl) (by kernel_rfl) (by kernel_rfl) (by kernel_rfl) (fun _ _ _ h => h) (Or.inl ⟨by rfl, ?_⟩) (by assumption) ?_
          rotate_left
          · (intro w hSw; (try dsimp only at hSw); go_simp; try with_reducible rfl)
          simp only [Act.put, List.getElem_toArray, List.getElem_cons_succ, List.getElem_cons_zero, List.setIfInBounds_toArray, List.set_cons_zero, List.set_cons_succ]
          refine till_take (i := 5) (v := ?_) [7, 8, 13, 14, 15] rfl (by kernel_rfl) (by kernel_rfl) (by kernel_rfl) (by kernel_rfl) (fun _ _ _ h => h) (Or.inl ⟨by rfl, ?_⟩) (by assumption) ?_
          rotate_left
          · (intro w hSw; (try dsimp only at hSw); go_simp; try with_reducible rfl)
          simp only [Act.put, List.getElem_toArray, List.getElem_cons_succ, List.getElem_cons_zero, List.setIfInBounds_toArray, List.set_cons_zero, List.set_cons_succ]
          refine till_take (i := 6) (v := ?_) [7, 8, 13, 14, 15] rfl (by kernel_rfl) (by kernel_rfl) (by kernel_rfl) (by kernel_rfl) (fun _ _ _ h => h) (Or.inl ⟨by rfl, ?_⟩) (by assumption) ?_
          rotate_left
          · (intro w hSw; (try dsimp only at hSw); go_simp; try with_reducible rfl)
          simp only [Act.put, List.getElem_toArray, List.getElem_cons_succ, List.getElem_cons_zero, List.setIfInBounds_toArray, List.set_cons_zero, List.set_cons_succ]
          refine till_take (i := 7) (v := ?_) [8, 13, 14, 15] rfl (by kernel_rfl) (by kernel_rfl) (by kernel_rfl) (by kernel_rfl) (fun _ _ _ h => h) (Or.inl ⟨by rfl, ?_⟩) (by assumption) ?_
          rotate_left
          · (intro w hSw; (try dsimp only at hSw); go_simp; try with_reducible rfl)
          simp only [Act.put, List.getElem_toArray, List.getElem_cons_succ, List.getElem_cons_zero, List.setIfInBounds_toArray, List.set_cons_zero, List.set_cons_succ]
          refine till_take (i := 8) (v := ?_) [13, 14, 15] rfl (by kernel_rfl) (by kernel_rfl) (by kernel_rfl) (by kernel_rfl) (fun _ _ _ h => h) (Or.inl ⟨by rfl, ?_⟩) (by assumption) ?_
          rotate_left
          · (intro w hSw; (try dsimp only at hSw); go_simp; try with_reducible rfl)
          simp only [Act.put, List.getElem_toArray, List.getElem_cons_succ, List.getElem_cons_zero, List.setIfInBounds_toArray, List.set_cons_zero, List.set_cons_succ]
          refine till_take (i := 9) (v := ?_) [11, 12, 13, 14, 15] rfl (by kernel_rfl) (by kernel_rfl) (by kernel_rfl) (by kernel_rfl) (fun _ _ _ h => h) (Or.inl ⟨by rfl, ?_⟩) (by assumption) ?_
          rotate_left
          · (intro w hSw; (try dsimp only at hSw); go_simp; try with_reducible rfl)
          simp only [Act.put, List.getElem_toArray, List.getElem_cons_succ, List.getElem_cons_zero, List.setIfInBounds_toArray, List.set_cons_zero, List.set_cons_succ]
          refine till_take (i := 10) (v := ?_) [11, 12, 13, 14, 15] rfl (by kernel_rfl) (by kernel_rfl) (by kernel_rfl) (by kernel_rfl) (fun _ _ _ h => h) (Or.inl ⟨by rfl, ?_⟩) (by assumption) ?_
          rotate_left
          · (intro w hSw; (try dsimp only at hSw); go_simp; try with_reducible rfl)
          simp only [Act.put, List.getElem_toArray, List.getElem_cons_succ, List.getElem_cons_zero, List.setIfInBounds_toArray, List.set_cons_zero, List.set_cons_succ]
          refine till_take (i := 11) (v := ?_) [12, 13, 14, 15] rfl (by kernel_rfl) (by kernel_rfl) (by kernel_rfl) (by kernel_rfl) (fun _ _ _ h => h) (Or.inl ⟨by rfl, ?_⟩) (by assumption) ?_
          rotate_left
          · (intro w hSw; (try dsimp only at hSw); go_simp; try with_reducible rfl)
          simp only [Act.put, List.getElem_toArray, List.getElem_cons_succ, List.getElem_cons_zero, List.setIfInBounds_toArray, List.set_cons_zero, List.set_cons_succ]
          refine till_take (i := 12) (v := ?_) [13, 14, 15] rfl (by kernel_rfl) (by kernel_rfl) (by kernel_rfl) (by kernel_rfl) (fun _ _ _ h => h) (Or.inl ⟨by rfl, ?_⟩) (by assumption) ?_
          rotate_left
          · (intro w hSw; (try dsimp only at hSw); go_simp; try with_reducible rfl)
          simp only [Act.put, List.getElem_toArray, List.getElem_cons_succ, List.getElem_cons_zero, List.setIfInBounds_toArray, List.set_cons_zero, List.set_cons_succ]
          refine till_in (i := 13) (by kernel_rfl) rfl (fun K hK => ?_)
          go_simp
          refine (rvcmpK _ _ _ (r.getD q []) (k + 4) _ _ _ x k _ ((hv6.later HW).vk (by omega)) (hv5.later HW).vk (by omega) (by omega) hn6 hn5).mono ?_
          rintro e w9 ⟨c1, rfl, hc1, hcl1, hch1, hb9⟩
          replace HW := Below.step HW hb9
          have HC1 := hide hc1
          clear hb9 hc1
          refine hK.out _ _ ?_ (fun hHeld => ?_)
          · exact ⟨(HW.cell (p := ⟨g3, q, none⟩) hg3).trans f3, (HW.cell (p := ⟨g, off + i, none⟩) hgr).trans f2⟩
          clear hK K
          try simp only [Act.put, List.getElem_toArray, List.getElem_cons_succ, List.getElem_cons_zero, List.setIfInBounds_toArray, List.set_cons_zero, List.set_cons_succ]
          refine till_take (i := 14) (v := ?_) [15] rfl (by kernel_rfl) (by kernel_rfl) (by kernel_rfl) (by kernel_rfl) (fun _ _ _ h => h) (Or.inl ⟨by rfl, ?_⟩) (by assumption) ?_
          rotate_left
          · (intro w hSw; (try dsimp only at hSw); go_simp; try with_reducible rfl)
          simp only [Act.put, List.getElem_toArray, List.getElem_cons_succ, List.getElem_cons_zero, List.setIfInBounds_toArray, List.set_cons_zero, List.set_cons_succ]
          refine till_out (i := 15) (by kernel_rfl) rfl (by kernel_rfl) (fun K hK => ?_)
          go_simp
          refine hK.out _ _ ?_
          clear hK K
          try simp only [Act.put, List.getElem_toArray, List.getElem_cons_succ, List.getElem_cons_zero, List.setIfInBounds_toArray, List.set_cons_zero, List.set_cons_succ]
          refine till_done (by kernel_rfl) ?_ _
          by_cases hc : c1 < 0
          · have hcd : decide (c1 < 0) = true := decide_eq_true hc
            have HV := hide ((unhide HC1).lt_iff.1 hc)
            go_wp2
            go_roundw
            case rel =>
              refine ⟨q + 1, by omega, by go_num, fun j hj => ?_, hown.later HW, Below.step (unhide HB) HW⟩
              by_cases e : j = q
              · subst e; exact unhide HV
              · exact unhide HA j (by omega)
            case measure => simp [intOf]; omega
          · have hcd : decide (c1 < 0) = false := decide_eq_false hc
            have HN := hide hc
            replace hown := hown.later HW
            replace hv5 := hv5.later HW
            replace f2 := (HW.cell (p := ⟨g, off + i, none⟩) hgr).trans f2
            replace hv6 := hv6.later HW
            replace f3 := (HW.cell (p := ⟨g3, q, none⟩) hg3).trans f3
            replace HB := hide (Below.step (unhide HB) HW)
            replace hgr := Nat.lt_of_lt_of_le hgr HW.size
            replace hg3 := Nat.lt_of_lt_of_le hg3 HW.size
            clear HW
            have HW : Below w9.heap.size w9 w9.drew := (Below.refl _ _).drew
            go_upto_region 8 with fail
            refine till_start (fun w' => w'.cell? ⟨g3, q, none⟩ = some (.slice a6 l6 c6) ∧ w'.cell? ⟨g, off + i, none⟩ = some (.slice a5 l5 c5)) 15 (by kernel_rfl) ?_ (fun hHeld => ?_)
            · exact ⟨(HW.cell (p := ⟨g3, q, none⟩) hg3).trans f3, (HW.cell (p := ⟨g, off + i, none⟩) hgr).trans f2⟩
            refine till_take (i := 0) (v := ?_) [3, 4, 5, 6, 7, 8, 9, 10, 11, 12, 13, 14, 15] rfl (by kernel_rfl) (by kernel_rfl) (by kernel_rfl) (by kernel_rfl) (fun _ _ _ h => h) (Or.inl ⟨by rfl, ?_⟩) (by assumption) ?_
            rotate_left
            · (intro w hSw; (try dsimp only at hSw); go_simp; try with_reducible rfl)
            simp only [Act.put, List.getElem_toArray, List.getElem_cons_zero, List.setIfInBounds_toArray, List.set_cons_zero, List.set_cons_succ]
            refine till_take (i := 1) (v := ?_) [2, 3, 4, 5, 6, 7, 8, 9, 10, 11, 12, 13, 14, 15] rfl (by kernel_rfl) (by kernel_rfl) (by kernel_rfl) (by kernel_rfl) (fun _ _ _ h => h) (Or.inl ⟨by rfl, ?_⟩) (by assumption) ?_
            rotate_left
            · (intro w hSw; (try dsimp only at hSw); go_simp; try with_reducible rfl)
            simp only [Act.put, List.getElem_toArray, List.getElem_cons_succ, List.getElem_cons_zero, List.setIfInBounds_toArray, List.set_cons_zero, List.set_cons_succ]
            refine till_take (i := 2) (v := ?_) [3, 4, 5, 6, 7, 8, 9, 10, 11, 12, 13, 14, 15] rfl (by kernel_rfl) (by kernel_rfl) (by kernel_rfl) (by kernel_rfl) (fun _ _ _ h => h) (Or.inl ⟨by rfl, ?_⟩) (by assumption) ?_
            rotate_left
            · (intro w hSw; (try dsimp only at hSw); go_simp; try with_reducible rfl)
            simp only [Act.put, List.getElem_toArray, List.getElem_cons_succ, List.getElem_cons_zero, List.setIfInBounds_toArray, List.set_cons_zero, List.set_cons_succ]
            refine till_take (i := 3) (v := ?_) [4, 5, 6, 7, 8, 9, 10, 11, 12, 13, 14, 15] rfl (by kernel_rfl) (by kernel_rfl) (by kernel_rfl) (by kernel_rfl) (fun _ _ _ h => h) (Or.inl ⟨by rfl, ?_⟩) (by assumption) ?_
            rotate_left
            · (intro w hSw; (try dsimp only at hSw); go_simp; try with_reducible rfl)
            simp only [Act.put, List.getElem_toArray, List.getElem_cons_succ, List.getElem_cons_zero, List.setIfInBounds_toArray, List.set_cons_zero, List.set_cons_succ]
            refine till_take (i := 4) (v := ?_) [5, 6, 7, 8, 9, 10, 11, 12, 13, 14, 15] rfl (by kernel_rfl) (by kernel_rfl) (by kernel_rfl) (by kernel_rfl) (fun _ _ _ h => h) (Or.inl ⟨by rfl, ?_⟩) (by assumption) ?_
            rotate_left
            · (intro w hSw; (try dsimp only at hSw); go_simp; try with_reducible rfl)
            simp only [Act.put, List.getElem_toArray, List.getElem_cons_succ, List.getElem_cons_zero, List.setIfInBounds_toArray, List.set_cons_zero, List.set_cons_succ]
            refine till_take (i := 5) (v := ?_) [7, 8, 13, 14, 15] rfl (by kernel_rfl) (by kernel_rfl) (by kernel_rfl) (by kernel_rfl) (fun _ _ _ h => h) (Or.inl ⟨by rfl, ?_⟩) (by assumption) ?_
            rotate_left
            · (intro w hSw; (try dsimp only at hSw); go_simp; try with_reducible rfl)
            simp only [Act.put, List.getElem_toArray, List.getElem_cons_succ, List.getElem_cons_zero, List.setIfInBounds_toArray, List.set_cons_zero, List.set_cons_succ]
            refine till_take (i := 6) (v := ?_) [7, 8, 13, 14, 15] rfl (by kernel_rfl) (by kernel_rfl) (by kernel_rfl) (by kernel_rfl) (fun _ _ _ h => h) (Or.inl ⟨by rfl, ?_⟩) (by assumption) ?_
            rotate_left
            · (intro w hSw; (try dsimp only at hSw); go_simp; try with_reducible rfl)
            simp only [Act.put, List.getElem_toArray, List.getElem_cons_succ, List.getElem_cons_zero, List.setIfInBounds_toArray, List.set_cons_zero, List.set_cons_succ]
            refine till_take (i := 7) (v := ?_) [8, 13, 14, 15] rfl (by kernel_rfl) (by kernel_rfl) (by kernel_rfl) (by kernel_rfl) (fun _ _ _ h => h) (Or.inl ⟨by rfl, ?_⟩) (by assumption) ?_
            rotate_left
            · (intro w hSw; (try dsimp only at hSw); go_simp; try with_reducible rfl)
            simp only [Act.put, List.getElem_toArray, List.getElem_cons_succ, List.getElem_cons_zero, List.setIfInBounds_toArray, List.set_cons_zero, List.set_cons_succ]
            refine till_take (i := 8) (v := ?_) [13, 14, 15] rfl (by kernel_rfl) (by kernel_rfl) (by kernel_rfl) (by kernel_rfl) (fun _ _ _ h => h) (Or.inl ⟨by rfl, ?_⟩) (by assumption) ?_
            rotate_left
            · (intro w hSw; (try dsimp only at hSw); go_simp; try with_reducible rfl)
            simp only [Act.put, List.getElem_toArray, List.getElem_cons_succ, List.getElem_cons_zero, List.setIfInBounds_toArray, List.set_cons_zero, List.set_cons_succ]
            refine till_take (i := 9) (v := ?_) [11, 12, 13, 14, 15] rfl (by kernel_rfl) (by kernel_rfl) (by kernel_rfl) (by kernel_rfl) (fun _ _ _ h => h) (Or.inl ⟨by rfl, ?_⟩) (by assumption) ?_
            rotate_left
            · (intro w hSw; (try dsimp only at hSw); go_simp; try with_reducible rfl)
            simp only [Act.put, List.getElem_toArray, List.getElem_cons_succ, List.getElem_cons_zero, List.setIfInBounds_toArray, List.set_cons_zero, List.set_cons_succ]
            refine till_take (i := 10) (v := ?_) [11, 12, 13, 14, 15] rfl (by kernel_rfl) (by kernel_rfl) (by kernel_rfl) (by kernel_rfl) (fun _ _ _ h => h) (Or.inl ⟨by rfl, ?_⟩) (by assumption) ?_
            rotate_left
            · (intro w hSw; (try dsimp only at hSw); go_simp; try with_reducible rfl)
            simp only [Act.put, List.getElem_toArray, List.getElem_cons_succ, List.getElem_cons_zero, List.setIfInBounds_toArray, List.set_cons_zero, List.set_cons_succ]
            refine till_take (i := 11) (v := ?_) [12, 13, 14, 15] rfl (by kernel_rfl) (by kernel_rfl) (by kernel_rfl) (by kernel_rfl) (fun _ _ _ h => h) (Or.inl ⟨by rfl, ?_⟩) (by assumption) ?_
            rotate_left
            · (intro w hSw; (try dsimp only at hSw); go_simp; try with_reducible rfl)
            simp only [Act.put, List.getElem_toArray, List.getElem_cons_succ, List.getElem_cons_zero, List.setIfInBounds_toArray, List.set_cons_zero, List.set_cons_succ]
            refine till_take (i := 12) (v := ?_) [13, 14, 15] rfl (by kernel_rfl) (by kernel_rfl) (by kernel_rfl) (by kernel_rfl) (fun _ _ _ h => h) (Or.inl ⟨by rfl, ?_⟩) (by assumption) ?_
            rotate_left
            · (intro w hSw; (try dsimp only at hSw); go_simp; try with_reducible rfl)
            simp only [Act.put, List.getElem_toArray, List.getElem_cons_succ, List.getElem_cons_zero, List.setIfInBounds_toArray, List.set_cons_zero, List.set_cons_succ]
            refine till_in (i := 13) (by kernel_rfl) rfl (fun K hK => ?_)
            go_simp
            refine (rvcmpK _ _ _ (r.getD q []) (k + 4) _ _ _ x k _ ((hv6.later HW).vk (by omega)) (hv5.later HW).vk (by omega) (by omega) hn6 hn5).mono ?_
            rintro e w9 ⟨c2, rfl, hc2, hcl2, hch2, hb9⟩
            replace HW := Below.step HW hb9
            have HC2 := hide hc2
            clear hb9 hc2
            refine hK.out _ _ ?_ (fun hHeld => ?_)
            · exact ⟨(HW.cell (p := ⟨g3, q, none⟩) hg3).trans f3, (HW.cell (p := ⟨g, off + i, none⟩) hgr).trans f2⟩
            clear hK K
            try simp only [Act.put, List.getElem_toArray, List.getElem_cons_succ, List.getElem_cons_zero, List.setIfInBounds_toArray, List.set_cons_zero, List.set_cons_succ]
            refine till_take (i := 14) (v := ?_) [15] rfl (by kernel_rfl) (by kernel_rfl) (by kernel_rfl) (by kernel_rfl) (fun _ _ _ h => h) (Or.inl ⟨by rfl, ?_⟩) (by assumption) ?_
            rotate_left
            · (intro w hSw; (try dsimp only at hSw); go_simp; try with_reducible rfl)
            simp only [Act.put, List.getElem_toArray, List.getElem_cons_succ, List.getElem_cons_zero, List.setIfInBounds_toArray, List.set_cons_zero, List.set_cons_succ]
            refine till_out (i := 15) (by kernel_rfl) rfl (by kernel_rfl) (fun K hK => ?_)
            go_simp
            refine hK.out _ _ ?_
            clear hK K
            try simp only [Act.put, List.getElem_toArray, List.getElem_cons_succ, List.getElem_cons_zero, List.setIfInBounds_toArray, List.set_cons_zero, List.set_cons_succ]
            refine till_done (by kernel_rfl) ?_ _
            obtain rfl : c2 = c1 := isCmp_inj (unhide HC2) (unhide HC1)
            replace hown := hown.later HW
            replace hv5 := hv5.later HW
            replace f2 := (HW.cell (p := ⟨g, off + i, none⟩) hgr).trans f2
            replace hv6 := hv6.later HW
            replace f3 := (HW.cell (p := ⟨g3, q, none⟩) hg3).trans f3
            replace HB := hide (Below.step (unhide HB) HW)
            replace hgr := Nat.lt_of_lt_of_le hgr HW.size
            replace hg3 := Nat.lt_of_lt_of_le hg3 HW.size
            clear HW
            by_cases h0 : c2 = 0
            · have hb0 : (c2 == 0) = true := by simp [h0]
              have HV := hide ((unhide HC1).zero_iff.1 h0)
              clear h0
              go_wp2
              go_roundw
              case rel => exact ⟨i + 1, _, _, _, _, by omega, by omega, by go_num, rfl, hown, by rw [take_snoc [] (by rw [unhide HL]; exact hlt), ← unhide EX]; exact skip_at (unhide HS) (by rw [unhide HRL]; exact hqm) (unhide HV), unhide HB⟩
              case measure => simp [intOf]; omega
            · have hb0 : (c2 == 0) = false := by simp [h0]
              have HV := hide ((unhide HC1).gt_iff.1 (by have := unhide HN; omega))
              clear h0
              obtain ⟨at2, hst2, ht2⟩ := slice_tail hown (show q ≤ m by omega)
              have hst1 := slice_head hown.nil_or (show q ≤ m by omega) hown.mf.cap_le
              have HT2 := hide ht2
              have HT1 := hide (RowsOf.take (R := fun w a l c zs => VF w a l c zs (k + 4)) hown.mf (show q ≤ m by omega) (Nat.le_refl q) (Nat.le_trans (show q ≤ m by omega) hown.mf.cap_le))
              clear ht2
              have HP := hide (put_at (unhide HS) (unhide HA) fun _ => unhide HV)
              have HW : Below w9.heap.size w9 w9.drew := (Below.refl _ _).drew
              go_upto_region 9 with fail
              refine till_start (fun w' => w'.cell? ⟨g, off + i, none⟩ = some (.slice a5 l5 c5)) 16 (by kernel_rfl) ?_ (fun hHeld => ?_)
              · exact (HW.cell (p := ⟨g, off + i, none⟩) hgr).trans f2
              refine till_take (i := 0) (v := ?_) [3, 15, 16] rfl (by kernel_rfl) (by kernel_rfl) (by kernel_rfl) (by kernel_rfl) (fun _ _ _ h => h) (Or.inl ⟨by rfl, ?_⟩) (by assumption) ?_
              rotate_left
              · (intro w hSw; (try dsimp only at hSw); go_simp; try with_reducible rfl)
              simp only [Act.put, List.getElem_toArray, List.getElem_cons_zero, List.setIfInBounds_toArray, List.set_cons_zero, List.set_cons_succ]
              refine till_take (i := 1) (v := ?_) [3, 15, 16] rfl (by kernel_rfl) (by kernel_rfl) (by kernel_rfl) (by kernel_rfl) (fun _ _ _ h => h) (Or.inl ⟨by rfl, ?_⟩) (by assumption) ?_
              rotate_left
              · (intro w hSw; (try dsimp only at hSw); go_simp; try with_reducible rfl)
              simp only [Act.put, List.getElem_toArray, List.getElem_cons_succ, List.getElem_cons_zero, List.setIfInBounds_toArray, List.set_cons_zero, List.set_cons_succ]
              refine till_take (i := 2) (v := ?_) [3, 15, 16] rfl (by kernel_rfl) (by kernel_rfl) (by kernel_rfl) (by kernel_rfl) (fun _ _ _ h => h) (Or.inl ⟨by rfl, ?_⟩) (by assumption) ?_
              rotate_left
              · (intro w hSw; (try dsimp only at hSw); go_simp; try with_reducible rfl)
              simp only [Act.put, List.getElem_toArray, List.getElem_cons_succ, List.getElem_cons_zero, List.setIfInBounds_toArray, List.set_cons_zero, List.set_cons_succ]
              refine till_take (i := 3) (v := ?_) [15, 16] rfl (by kernel_rfl) (by kernel_rfl) (by kernel_rfl) (by kernel_rfl) (fun _ _ _ h => h) (Or.inl ⟨by rfl, ?_⟩) (by assumption) ?_
              rotate_left
              · (intro w hSw; (try dsimp only at hSw); go_simp; try with_reducible rfl)
              simp only [Act.put, List.getElem_toArray, List.getElem_cons_succ, List.getElem_cons_zero, List.setIfInBounds_toArray, List.set_cons_zero, List.set_cons_succ]
              refine till_take (i := 4) (v := ?_) [6, 7, 8, 9, 10, 14, 15, 16] rfl (by kernel_rfl) (by kernel_rfl) (by kernel_rfl) (by kernel_rfl) (fun _ _ _ h => h) (Or.inl ⟨by rfl, ?_⟩) (by assumption) ?_
              rotate_left
              · (intro w hSw; (try dsimp only at hSw); go_simp; try with_reducible rfl)
              simp only [Act.put, List.getElem_toArray, List.getElem_cons_succ, List.getElem_cons_zero, List.setIfInBounds_toArray, List.set_cons_zero, List.set_cons_succ]
              refine till_take (i := 5) (v := ?_) [6, 7, 8, 9, 10, 14, 15, 16] rfl (by kernel_rfl) (by kernel_rfl) (by kernel_rfl) (by kernel_rfl) (fun _ _ _ h => h) (Or.inl ⟨by rfl, ?_⟩) (by assumption) ?_
              rotate_left
              · (intro w hSw; (try dsimp only at hSw); go_simp; try with_reducible rfl)
              simp only [Act.put, List.getElem_toArray, List.getElem_cons_succ, List.getElem_cons_zero, List.setIfInBounds_toArray, List.set_cons_zero, List.set_cons_succ]
              refine till_take (i := 6) (v := ?_) [7, 8, 9, 10, 14, 15, 16] rfl (by kernel_rfl) (by kernel_rfl) (by kernel_rfl) (by kernel_rfl) (fun _ _ _ h => h) (Or.inl ⟨by rfl, ?_⟩) (by assumption) ?_
              rotate_left
              · (intro w hSw; (try dsimp only at hSw); go_simp; try with_reducible rfl)
              simp only [Act.put, List.getElem_toArray, List.getElem_cons_succ, List.getElem_cons_zero, List.setIfInBounds_toArray, List.set_cons_zero, List.set_cons_succ]
              refine till_take (i := 7) (v := ?_) [8, 9, 10, 14, 15, 16] rfl (by kernel_rfl) (by kernel_rfl) (by kernel_rfl) (by kernel_rfl) (fun _ _ _ h => h) (Or.inl ⟨by rfl, ?_⟩) (by assumption) ?_
              rotate_left
              · (intro w hSw; (try dsimp only at hSw); go_simp; try with_reducible rfl)
              simp only [Act.put, List.getElem_toArray, List.getElem_cons_succ, List.getElem_cons_zero, List.setIfInBounds_toArray, List.set_cons_zero, List.set_cons_succ]
              refine till_take (i := 11) (v := ?_) [13, 14, 15, 16] rfl (by kernel_rfl) (by kernel_rfl) (by kernel_rfl) (by kernel_rfl) (fun _ _ _ h => h) (Or.inl ⟨by rfl, ?_⟩) (by assumption) ?_
              rotate_left
              · (intro w hSw; (try dsimp only at hSw); go_simp; try with_reducible rfl)
              simp only [Act.put, List.getElem_toArray, List.getElem_cons_succ, List.getElem_cons_zero, List.setIfInBounds_toArray, List.set_cons_zero, List.set_cons_succ]
              refine till_take (i := 12) (v := ?_) [13, 14, 15, 16] rfl (by kernel_rfl) (by kernel_rfl) (by kernel_rfl) (by kernel_rfl) (fun _ _ _ h => h) (Or.inl ⟨by rfl, ?_⟩) (by assumption) ?_
              rotate_left
              · (intro w hSw; (try dsimp only at hSw); go_simp; try with_reducible rfl)
              simp only [Act.put, List.getElem_toArray, List.getElem_cons_succ, List.getElem_cons_zero, List.setIfInBounds_toArray, List.set_cons_zero, List.set_cons_succ]
              refine till_take (i := 13) (v := ?_) [14, 15, 16] rfl (by kernel_rfl) (by kernel_rfl) (by kernel_rfl) (by kernel_rfl) (fun _ _ _ h => h) (Or.inl ⟨by rfl, ?_⟩) (by assumption) ?_
              rotate_left
              · (intro w hSw; (try dsimp only at hSw); go_simp; try with_reducible rfl)
              simp only [Act.put, List.getElem_toArray, List.getElem_cons_succ, List.getElem_cons_zero, List.setIfInBounds_toArray, List.set_cons_zero, List.set_cons_succ]
              refine till_in (i := 8) (by kernel_rfl) rfl (fun K hK => ?_)
              go_simp
              refine (rvnegK _ _ _ x k _ (hv5.later HW) (by omega) hn5).mono ?_
              rintro e w9 ⟨a8, c8, rfl, h8, hb9⟩
              replace HW := Below.step HW hb9
              clear hb9
              refine hK.out _ _ ?_ (fun hHeld => ?_)
              · exact (HW.cell (p := ⟨g, off + i, none⟩) hgr).trans f2
              clear hK K
              try simp only [Act.put, List.getElem_toArray, List.getElem_cons_succ, List.getElem_cons_zero, List.setIfInBounds_toArray, List.set_cons_zero, List.set_cons_succ]
              refine till_in (i := 9) (by kernel_rfl) rfl (fun K hK => ?_)
              go_simp
              refine (rvnegK _ _ _ (vneg x) (k + 2) _ (h8.vs (by omega)) (by omega) hn5).mono ?_
              rintro e w10 ⟨a9, c9, rfl, h9, hb9⟩
              rw [vneg_neg] at h9
              replace HW := Below.step HW hb9
              clear hb9 h8
              refine hK.out _ _ ?_ (fun hHeld => ?_)
              · exact (HW.cell (p := ⟨g, off + i, none⟩) hgr).trans f2
              clear hK K
              try simp only [Act.put, List.getElem_toArray, List.getElem_cons_succ, List.getElem_cons_zero, List.setIfInBounds_toArray, List.set_cons_zero, List.set_cons_succ]
              refine till_in (i := 10) (by kernel_rfl) rfl (fun K hK => ?_)
              go_simp
              have HW10 := HW
              obtain ⟨W6, hW6⟩ : ∃ W6, W6 = w10.alloc (.cells #[.slice a9 l5 c9] 24) := ⟨_, rfl⟩
              have hb9 : Below w10.heap.size w10 W6 := by rw [hW6]; exact below_new _ _
              have hone : MO W6 w10.heap.size (some ⟨w10.heap.size, 0, none⟩) 1 1 [x] (k + 4) := by rw [hW6]; exact mo_one h9
              rw [← hW6]
              clear hW6 h9
              have hsz6 := hb9.size
              replace HW := Below.step HW hb9
              refine hK.out _ _ ?_ (fun hHeld => ?_)
              · exact (HW.cell (p := ⟨g, off + i, none⟩) hgr).trans f2
              clear hK K
              try simp only [Act.put, List.getElem_toArray, List.getElem_cons_succ, List.getElem_cons_zero, List.setIfInBounds_toArray, List.set_cons_zero, List.set_cons_succ]
              refine till_in (i := 14) (by kernel_rfl) rfl (fun K hK => ?_)
              refine step_rows (R := fun w a l c zs => VF w a l c zs (k + 4)) (steadyMO (k + 4)) (by rfl) _ _ 22 Try.underlying22 (by rfl) w10.heap.size _ 1 1 [x] (by rfl) hone at2 (m - q) (cap' - q) (r.drop q) (by rfl) (MF.later (unhide HT2) HW) (by omega) hsz6 ?_
              intro an cn w11 ho11 hgr11
              replace HW := Below.step HW10 (hb9.grown hgr11 hsz6 (MO.ge hone))
              clear hb9 HW10 hgr11 hone
              have hszb := Below.step (unhide HB) HW
              refine hK.out _ _ ?_ (fun hHeld => ?_)
              · exact (HW.cell (p := ⟨g, off + i, none⟩) hgr).trans f2
              clear hK K
              try simp only [Act.put, List.getElem_toArray, List.getElem_cons_succ, List.getElem_cons_zero, List.setIfInBounds_toArray, List.set_cons_zero, List.set_cons_succ]
              refine till_in (i := 15) (by kernel_rfl) rfl (fun K hK => ?_)
              have hsz7 := hszb.size
              refine step_part (R := fun w a l c zs => VF w a l c zs (k + 4)) (steadyMO (k + 4)) (by rfl) _ _ 22 Try.underlying22 (by rfl) w.heap.size (some ⟨g3, 0, none⟩) q (r.take q) (by rfl) (MF.later (unhide HT1) HW) an (1 + (m - q)) cn ([x] ++ r.drop q) (by rfl) (MO.mf ho11) (by omega) (by omega) hsz7 ?_
              intro cn2 w12 ho12 hgr12
              replace HW := Below.step HW ((Below.refl _ _).grown hgr12 (Nat.le_refl _) (fun _ h => by simp at h))
              clear hszb hsz7 ho11 hgr12
              refine hK.out _ _ ?_ (fun hHeld => ?_)
              · exact (HW.cell (p := ⟨g, off + i, none⟩) hgr).trans f2
              clear hK K
              try simp only [Act.put, List.getElem_toArray, List.getElem_cons_succ, List.getElem_cons_zero, List.setIfInBounds_toArray, List.set_cons_zero, List.set_cons_succ]
              refine till_out (i := 16) (by kernel_rfl) rfl (by kernel_rfl) (fun K hK => ?_)
              go_simp
              refine hK.out _ _ ?_
              clear hK K
              try simp only [Act.put, List.getElem_toArray, List.getElem_cons_succ, List.getElem_cons_zero, List.setIfInBounds_toArray, List.set_cons_zero, List.set_cons_succ]
              refine till_done (by kernel_rfl) ?_ _
              go_wp2
              go_roundw
              case rel =>
                refine ⟨i + 1, _, _, _, _, by omega, ?_, by go_num, rfl, ho12, by rw [take_snoc [] (by rw [unhide HL]; exact hlt), ← unhide EX]; exact unhide HP, Below.step (unhide HB) HW⟩
                omega
              case measure => simp [intOf]; omega
        · have hqe : q = m := by omega
          have hq1 : ¬ (q : Int) < (m : Int) := by omega
          have HQE := hide hqe
          clear hqe
          have HW : Below wr.heap.size wr wr.drew := (Below.refl _ _).drew
          go_upto_region 6 with fail
          refine till_start (fun w' => True) 15 (by kernel_rfl) ?_ (fun hHeld => ?_)
          · trivial
          refine till_take (i := 0) (v := ?_) [3, 4, 5, 6, 7, 8, 9, 10, 11, 12, 13, 14, 15] rfl (by kernel_rfl) (by kernel_rfl) (by kernel_rfl) (by kernel_rfl) (fun _ _ _ h => h) (Or.inl ⟨by rfl, ?_⟩) (by assumption) ?_
          rotate_left
          · (intro w hSw; (try dsimp only at hSw); go_simp; try with_reducible rfl)
          simp only [Act.put, List.getElem_toArray, List.getElem_cons_zero, List.setIfInBounds_toArray, List.set_cons_zero, List.set_cons_succ]
          refine till_take (i := 1) (v := ?_) [2, 3, 4, 5, 6, 7, 8, 9, 10, 11, 12, 13, 14, 15] rfl (by kernel_rfl) (by kernel_rfl) (by kernel_rfl) (by kernel_rfl) (fun _ _ _ h => h) (Or.inl ⟨by rfl, ?_⟩) (by assumption) ?_
          rotate_left
          · (intro w hSw; (try dsimp only at hSw); go_simp; try with_reducible rfl)
          simp only [Act.put, List.getElem_toArray, List.getElem_cons_succ, List.getElem_cons_zero, List.setIfInBounds_toArray, List.set_cons_zero, List.set_cons_succ]
          refine till_take (i := 2) (v := ?_) [3, 4, 5, 6, 7, 8, 9, 10, 11, 12, 13, 14, 15] rfl (by kernel_rfl) (by kernel_rfl) (by kernel_rfl) (by kernel_rfl) (fun _ _ _ h => h) (Or.inl ⟨by rfl, ?_⟩) (by assumption) ?_
          rotate_left
          · (intro w hSw; (try dsimp only at hSw); go_simp; try with_reducible rfl)
          simp only [Act.put, List.getElem_toArray, List.getElem_cons_succ, List.getElem_cons_zero, List.setIfInBounds_toArray, List.set_cons_zero, List.set_cons_succ]
          refine till_take (i := 3) (v := ?_) [4, 5, 6, 7, 8, 9, 10, 11, 12, 13, 14, 15] rfl (by kernel_rfl) (by kernel_rfl) (by kernel_rfl) (by kernel_rfl) (fun _ _ _ h => h) (Or.inl ⟨by rfl, ?_⟩) (by assumption) ?_
          rotate_left
          · (intro w hSw; (try dsimp only at hSw); go_simp; try with_reducible rfl)
          simp only [Act.put, List.getElem_toArray, List.getElem_cons_succ, List.getElem_cons_zero, List.setIfInBounds_toArray, List.set_cons_zero, List.set_cons_succ]
          refine till_take (i := 4) (v := ?_) [5, 6, 7, 8, 9, 10, 11, 12, 13, 14, 15] rfl (by kernel_rfl) (by kernel_rfl) (by kernel_rfl) (by kernel_rfl) (fun _ _ _ h => h) (Or.inl ⟨by rfl, ?_⟩) (by assumption) ?_
          rotate_left
          · (intro w hSw; (try dsimp only at hSw); go_simp; try with_reducible rfl)
          simp only [Act.put, List.getElem_toArray, List.getElem_cons_succ, List.getElem_cons_zero, List.setIfInBounds_toArray, List.set_cons_zero, List.set_cons_succ]
          refine till_take (i := 5) (v := undef) [7, 8, 13, 14, 15] rfl (by kernel_rfl) (by kernel_rfl) (by kernel_rfl) (by kernel_rfl) (fun _ _ _ h => h) (Or.inr ⟨by rfl, rfl⟩) (by assumption) ?_
          simp only [Act.put, List.getElem_toArray, List.getElem_cons_succ, List.getElem_cons_zero, List.setIfInBounds_toArray, List.set_cons_zero, List.set_cons_succ]
          refine till_take (i := 6) (v := undef) [7, 8, 13, 14, 15] rfl (by kernel_rfl) (by kernel_rfl) (by kernel_rfl) (by kernel_rfl) (fun _ _ _ h => h) (Or.inr ⟨by rfl, rfl⟩) (by assumption) ?_
          simp only [Act.put, List.getElem_toArray, List.getElem_cons_succ, List.getElem_cons_zero, List.setIfInBounds_toArray, List.set_cons_zero, List.set_cons_succ]
          refine till_take (i := 7) (v := undef) [8, 13, 14, 15] rfl (by kernel_rfl) (by kernel_rfl) (by kernel_rfl) (by kernel_rfl) (fun _ _ _ h => h) (Or.inr ⟨by rfl, rfl⟩) (by assumption) ?_
          simp only [Act.put, List.getElem_toArray, List.getElem_cons_succ, List.getElem_cons_zero, List.setIfInBounds_toArray, List.set_cons_zero, List.set_cons_succ]
          refine till_take (i := 8) (v := undef) [13, 14, 15] rfl (by kernel_rfl) (by kernel_rfl) (by kernel_rfl) (by kernel_rfl) (fun _ _ _ h => h) (Or.inr ⟨by rfl, rfl⟩) (by assumption) ?_
          simp only [Act.put, List.getElem_toArray, List.getElem_cons_succ, List.getElem_cons_zero, List.setIfInBounds_toArray, List.set_cons_zero, List.set_cons_succ]
          refine till_take (i := 9) (v := undef) [11, 12, 13, 14, 15] rfl (by kernel_rfl) (by kernel_rfl) (by kernel_rfl) (by kernel_rfl) (fun _ _ _ h => h) (Or.inr ⟨by rfl, rfl⟩) (by assumption) ?_
          simp only [Act.put, List.getElem_toArray, List.getElem_cons_succ, List.getElem_cons_zero, List.setIfInBounds_toArray, List.set_cons_zero, List.set_cons_succ]
          refine till_take (i := 10) (v := undef) [11, 12, 13, 14, 15] rfl (by kernel_rfl) (by kernel_rfl) (by kernel_rfl) (by kernel_rfl) (fun _ _ _ h => h) (Or.inr ⟨by rfl, rfl⟩) (by assumption) ?_
          simp only [Act.put, List.getElem_toArray, List.getElem_cons_succ, List.getElem_cons_zero, List.setIfInBounds_toArray, List.set_cons_zero, List.set_cons_succ]
          refine till_take (i := 11) (v := undef) [12, 13, 14, 15] rfl (by kernel_rfl) (by kernel_rfl) (by kernel_rfl) (by kernel_rfl) (fun _ _ _ h => h) (Or.inr ⟨by rfl, rfl⟩) (by assumption) ?_
          simp only [Act.put, List.getElem_toArray, List.getElem_cons_succ, List.getElem_cons_zero, List.setIfInBounds_toArray, List.set_cons_zero, List.set_cons_succ]
          refine till_take (i := 12) (v := undef) [13, 14, 15] rfl (by kernel_rfl) (by kernel_rfl) (by kernel_rfl) (by kernel_rfl) (fun _ _ _ h => h) (Or.inr ⟨by rfl, rfl⟩) (by assumption) ?_
          simp only [Act.put, List.getElem_toArray, List.getElem_cons_succ, List.getElem_cons_zero, List.setIfInBounds_toArray, List.set_cons_zero, List.set_cons_succ]
          refine till_in (i := 13) (by kernel_rfl) rfl (fun K hK => ?_)
          go_simp
          refine hK.out _ _ ?_ (fun hHeld => ?_)
          · trivial
          clear hK K
          try simp only [Act.put, List.getElem_toArray, List.getElem_cons_succ, List.getElem_cons_zero, List.setIfInBounds_toArray, List.set_cons_zero, List.set_cons_succ]
          refine till_take (i := 14) (v := undef) [15] rfl (by kernel_rfl) (by kernel_rfl) (by kernel_rfl) (by kernel_rfl) (fun _ _ _ h => h) (Or.inr ⟨by rfl, rfl⟩) (by assumption) ?_
          simp only [Act.put, List.getElem_toArray, List.getElem_cons_succ, List.getElem_cons_zero, List.setIfInBounds_toArray, List.set_cons_zero, List.set_cons_succ]
          refine till_out (i := 15) (by kernel_rfl) rfl (by kernel_rfl) (fun K hK => ?_)
          go_simp
          refine hK.out _ _ ?_
          clear hK K
          try simp only [Act.put, List.getElem_toArray, List.getElem_cons_succ, List.getElem_cons_zero, List.setIfInBounds_toArray, List.set_cons_zero, List.set_cons_succ]
          refine till_done (by kernel_rfl) ?_ _
          replace hown := hown.later HW
          replace hv5 := hv5.later HW
          replace f2 := (HW.cell (p := ⟨g, off + i, none⟩) hgr).trans f2
          replace HB := hide (Below.step (unhide HB) HW)
          replace hgr := Nat.lt_of_lt_of_le hgr HW.size
          clear HW
          have HW : Below wr.drew.heap.size wr.drew wr.drew.drew := (Below.refl _ _).drew
          go_upto_region 8 with fail
          refine till_start (fun w' => True) 15 (by kernel_rfl) ?_ (fun hHeld => ?_)
          · trivial
          refine till_take (i := 0) (v := ?_) [3, 4, 5, 6, 7, 8, 9, 10, 11, 12, 13, 14, 15] rfl (by kernel_rfl) (by kernel_rfl) (by kernel_rfl) (by kernel_rfl) (fun _ _ _ h => h) (Or.inl ⟨by rfl, ?_⟩) (by assumption) ?_
          rotate_left
          · (intro w hSw; (try dsimp only at hSw); go_simp; try with_reducible rfl)
          simp only [Act.put, List.getElem_toArray, List.getElem_cons_zero, List.setIfInBounds_toArray, List.set_cons_zero, List.set_cons_succ]
          refine till_take (i := 1) (v := ?_) [2, 3, 4, 5, 6, 7, 8, 9, 10, 11, 12, 13, 14, 15] rfl (by kernel_rfl) (by kernel_rfl) (by kernel_rfl) (by kernel_rfl) (fun _ _ _ h => h) (Or.inl ⟨by rfl, ?_⟩) (by assumption) ?_
          rotate_left
          · (intro w hSw; (try dsimp only at hSw); go_simp; try with_reducible rfl)
          simp only [Act.put, List.getElem_toArray, List.getElem_cons_succ, List.getElem_cons_zero, List.setIfInBounds_toArray, List.set_cons_zero, List.set_cons_succ]
          refine till_take (i := 2) (v := ?_) [3, 4, 5, 6, 7, 8, 9, 10, 11, 12, 13, 14, 15] rfl (by kernel_rfl) (by kernel_rfl) (by kernel_rfl) (by kernel_rfl) (fun _ _ _ h => h) (Or.inl ⟨by rfl, ?_⟩) (by assumption) ?_
          rotate_left
          · (intro w hSw; (try dsimp only at hSw); go_simp; try with_reducible rfl)
          simp only [Act.put, List.getElem_toArray, List.getElem_cons_succ, List.getElem_cons_zero, List.setIfInBounds_toArray, List.set_cons_zero, List.set_cons_succ]
          refine till_take (i := 3) (v := ?_) [4, 5, 6, 7, 8, 9, 10, 11, 12, 13, 14, 15] rfl (by kernel_rfl) (by kernel_rfl) (by kernel_rfl) (by kernel_rfl) (fun _ _ _ h => h) (Or.inl ⟨by rfl, ?_⟩) (by assumption) ?_
          rotate_left
          · (intro w hSw; (try dsimp only at hSw); go_simp; try with_reducible rfl)
          simp only [Act.put, List.getElem_toArray, List.getElem_cons_succ, List.getElem_cons_zero, List.setIfInBounds_toArray, List.set_cons_zero, List.set_cons_succ]
          refine till_take (i := 4) (v := ?_) [5, 6, 7, 8, 9, 10, 11, 12, 13, 14, 15] rfl (by kernel_rfl) (by kernel_rfl) (by kernel_rfl) (by kernel_rfl) (fun _ _ _ h => h) (Or.inl ⟨by rfl, ?_⟩) (by assumption) ?_
          rotate_left
          · (intro w hSw; (try dsimp only at hSw); go_simp; try with_reducible rfl)
          simp only [Act.put, List.getElem_toArray, List.getElem_cons_succ, List.getElem_cons_zero, List.setIfInBounds_toArray, List.set_cons_zero, List.set_cons_succ]
          refine till_take (i := 5) (v := undef) [7, 8, 13, 14, 15] rfl (by kernel_rfl) (by kernel_rfl) (by kernel_rfl) (by kernel_rfl) (fun _ _ _ h => h) (Or.inr ⟨by rfl, rfl⟩) (by assumption) ?_
          simp only [Act.put, List.getElem_toArray, List.getElem_cons_succ, List.getElem_cons_zero, List.setIfInBounds_toArray, List.set_cons_zero, List.set_cons_succ]
          refine till_take (i := 6) (v := undef) [7, 8, 13, 14, 15] rfl (by kernel_rfl) (by kernel_rfl) (by kernel_rfl) (by kernel_rfl) (fun _ _ _ h => h) (Or.inr ⟨by rfl, rfl⟩) (by assumption) ?_
          simp only [Act.put, List.getElem_toArray, List.getElem_cons_succ, List.getElem_cons_zero, List.setIfInBounds_toArray, List.set_cons_zero, List.set_cons_succ]
          refine till_take (i := 7) (v := undef) [8, 13, 14, 15] rfl (by kernel_rfl) (by kernel_rfl) (by kernel_rfl) (by kernel_rfl) (fun _ _ _ h => h) (Or.inr ⟨by rfl, rfl⟩) (by assumption) ?_
          simp only [Act.put, List.getElem_toArray, List.getElem_cons_succ, List.getElem_cons_zero, List.setIfInBounds_toArray, List.set_cons_zero, List.set_cons_succ]
          refine till_take (i := 8) (v := undef) [13, 14, 15] rfl (by kernel_rfl) (by kernel_rfl) (by kernel_rfl) (by kernel_rfl) (fun _ _ _ h => h) (Or.inr ⟨by rfl, rfl⟩) (by assumption) ?_
          simp only [Act.put, List.getElem_toArray, List.getElem_cons_succ, List.getElem_cons_zero, List.setIfInBounds_toArray, List.set_cons_zero, List.set_cons_succ]
          refine till_take (i := 9) (v := undef) [11, 12, 13, 14, 15] rfl (by kernel_rfl) (by kernel_rfl) (by kernel_rfl) (by kernel_rfl) (fun _ _ _ h => h) (Or.inr ⟨by rfl, rfl⟩) (by assumption) ?_
          simp only [Act.put, List.getElem_toArray, List.getElem_cons_succ, List.getElem_cons_zero, List.setIfInBounds_toArray, List.set_cons_zero, List.set_cons_succ]
          refine till_take (i := 10) (v := undef) [11, 12, 13, 14, 15] rfl (by kernel_rfl) (by kernel_rfl) (by kernel_rfl) (by kernel_rfl) (fun _ _ _ h => h) (Or.inr ⟨by rfl, rfl⟩) (by assumption) ?_
          simp only [Act.put, List.getElem_toArray, List.getElem_cons_succ, List.getElem_cons_zero, List.setIfInBounds_toArray, List.set_cons_zero, List.set_cons_succ]
          refine till_take (i := 11) (v := undef) [12, 13, 14, 15] rfl (by kernel_rfl) (by kernel_rfl) (by kernel_rfl) (by kernel_rfl) (fun _ _ _ h => h) (Or.inr ⟨by rfl, rfl⟩) (by assumption) ?_
          simp only [Act.put, List.getElem_toArray, List.getElem_cons_succ, List.getElem_cons_zero, List.setIfInBounds_toArray, List.set_cons_zero, List.set_cons_succ]
          refine till_take (i := 12) (v := undef) [13, 14, 15] rfl (by kernel_rfl) (by kernel_rfl) (by kernel_rfl) (by kernel_rfl) (fun _ _ _ h => h) (Or.inr ⟨by rfl, rfl⟩) (by assumption) ?_
          simp only [Act.put, List.getElem_toArray, List.getElem_cons_succ, List.getElem_cons_zero, List.setIfInBounds_toArray, List.set_cons_zero, List.set_cons_succ]
          refine till_in (i := 13) (by kernel_rfl) rfl (fun K hK => ?_)
          go_simp
          refine hK.out _ _ ?_ (fun hHeld => ?_)
          · trivial
          clear hK K
          try simp only [Act.put, List.getElem_toArray, List.getElem_cons_succ, List.getElem_cons_zero, List.setIfInBounds_toArray, List.set_cons_zero, List.set_cons_succ]
          refine till_take (i := 14) (v := undef) [15] rfl (by kernel_rfl) (by kernel_rfl) (by kernel_rfl) (by kernel_rfl) (fun _ _ _ h => h) (Or.inr ⟨by rfl, rfl⟩) (by assumption) ?_
          simp only [Act.put, List.getElem_toArray, List.getElem_cons_succ, List.getElem_cons_zero, List.setIfInBounds_toArray, List.set_cons_zero, List.set_cons_succ]
          refine till_out (i := 15) (by kernel_rfl) rfl (by kernel_rfl) (fun K hK => ?_)
          go_simp
          refine hK.out _ _ ?_
          clear hK K
          try simp only [Act.put, List.getElem_toArray, List.getElem_cons_succ, List.getElem_cons_zero, List.setIfInBounds_toArray, List.set_cons_zero, List.set_cons_succ]
          refine till_done (by kernel_rfl) ?_ _
          replace hown := hown.later HW
          replace hv5 := hv5.later HW
          replace f2 := (HW.cell (p := ⟨g, off + i, none⟩) hgr).trans f2
          replace HB := hide (Below.step (unhide HB) HW)
          replace hgr := Nat.lt_of_lt_of_le hgr HW.size
          clear HW
          obtain ⟨at2, hst2, ht2⟩ := slice_tail hown (show q ≤ m by omega)
          have hst1 := slice_head hown.nil_or (show q ≤ m by omega) hown.mf.cap_le
          have HT2 := hide ht2
          have HT1 := hide (RowsOf.take (R := fun w a l c zs => VF w a l c zs (k + 4)) hown.mf (show q ≤ m by omega) (Nat.le_refl q) (Nat.le_trans (show q ≤ m by omega) hown.mf.cap_le))
          clear ht2
          have HP := hide (put_at (unhide HS) (unhide HA) fun e => absurd e (by rw [unhide HRL]; exact hqm))
          have HW : Below wr.drew.drew.heap.size wr.drew.drew wr.drew.drew.drew := (Below.refl _ _).drew
          go_upto_region 9 with fail
          refine till_start (fun w' => w'.cell? ⟨g, off + i, none⟩ = some (.slice a5 l5 c5)) 16 (by kernel_rfl) ?_ (fun hHeld => ?_)
          · exact (HW.cell (p := ⟨g, off + i, none⟩) hgr).trans f2
          refine till_take (i := 0) (v := ?_) [3, 15, 16] rfl (by kernel_rfl) (by kernel_rfl) (by kernel_rfl) (by kernel_rfl) (fun _ _ _ h => h) (Or.inl ⟨by rfl, ?_⟩) (by assumption) ?_
          rotate_left
          · (intro w hSw; (try dsimp only at hSw); go_simp; try with_reducible rfl)
          simp only [Act.put, List.getElem_toArray, List.getElem_cons_zero, List.setIfInBounds_toArray, List.set_cons_zero, List.set_cons_succ]
          refine till_take (i := 1) (v := ?_) [3, 15, 16] rfl (by kernel_rfl) (by kernel_rfl) (by kernel_rfl) (by kernel_rfl) (fun _ _ _ h => h) (Or.inl ⟨by rfl, ?_⟩) (by assumption) ?_
          rotate_left
          · (intro w hSw; (try dsimp only at hSw); go_simp; try with_reducible rfl)
          simp only [Act.put, List.getElem_toArray, List.getElem_cons_succ, List.getElem_cons_zero, List.setIfInBounds_toArray, List.set_cons_zero, List.set_cons_succ]
          refine till_take (i := 2) (v := ?_) [3, 15, 16] rfl (by kernel_rfl) (by kernel_rfl) (by kernel_rfl) (by kernel_rfl) (fun _ _ _ h => h) (Or.inl ⟨by rfl, ?_⟩) (by assumption) ?_
          rotate_left
          · (intro w hSw; (try dsimp only at hSw); go_simp; try with_reducible rfl)
          simp only [Act.put, List.getElem_toArray, List.getElem_cons_succ, List.getElem_cons_zero, List.setIfInBounds_toArray, List.set_cons_zero, List.set_cons_succ]
          refine till_take (i := 3) (v := ?_) [15, 16] rfl (by kernel_rfl) (by kernel_rfl) (by kernel_rfl) (by kernel_rfl) (fun _ _ _ h => h) (Or.inl ⟨by rfl, ?_⟩) (by assumption) ?_
          rotate_left
          · (intro w hSw; (try dsimp only at hSw); go_simp; try with_reducible rfl)
          simp only [Act.put, List.getElem_toArray, List.getElem_cons_succ, List.getElem_cons_zero, List.setIfInBounds_toArray, List.set_cons_zero, List.set_cons_succ]
          refine till_take (i := 4) (v := ?_) [6, 7, 8, 9, 10, 14, 15, 16] rfl (by kernel_rfl) (by kernel_rfl) (by kernel_rfl) (by kernel_rfl) (fun _ _ _ h => h) (Or.inl ⟨by rfl, ?_⟩) (by assumption) ?_
          rotate_left
          · (intro w hSw; (try dsimp only at hSw); go_simp; try with_reducible rfl)
          simp only [Act.put, List.getElem_toArray, List.getElem_cons_succ, List.getElem_cons_zero, List.setIfInBounds_toArray, List.set_cons_zero, List.set_cons_succ]
          refine till_take (i := 5) (v := ?_) [6, 7, 8, 9, 10, 14, 15, 16] rfl (by kernel_rfl) (by kernel_rfl) (by kernel_rfl) (by kernel_rfl) (fun _ _ _ h => h) (Or.inl ⟨by rfl, ?_⟩) (by assumption) ?_
          rotate_left
          · (intro w hSw; (try dsimp only at hSw); go_simp; try with_reducible rfl)
          simp only [Act.put, List.getElem_toArray, List.getElem_cons_succ, List.getElem_cons_zero, List.setIfInBounds_toArray, List.set_cons_zero, List.set_cons_succ]
          refine till_take (i := 6) (v := ?_) [7, 8, 9, 10, 14, 15, 16] rfl (by kernel_rfl) (by kernel_rfl) (by kernel_rfl) (by kernel_rfl) (fun _ _ _ h => h) (Or.inl ⟨by rfl, ?_⟩) (by assumption) ?_
          rotate_left
          · (intro w hSw; (try dsimp only at hSw); go_simp; try with_reducible rfl)
          simp only [Act.put, List.getElem_toArray, List.getElem_cons_succ, List.getElem_cons_zero, List.setIfInBounds_toArray, List.set_cons_zero, List.set_cons_succ]
          refine till_take (i := 7) (v := ?_) [8, 9, 10, 14, 15, 16] rfl (by kernel_rfl) (by kernel_rfl) (by kernel_rfl) (by kernel_rfl) (fun _ _ _ h => h) (Or.inl ⟨by rfl, ?_⟩) (by assumption) ?_
          rotate_left
          · (intro w hSw; (try dsimp only at hSw); go_simp; try with_reducible rfl)
          simp only [Act.put, List.getElem_toArray, List.getElem_cons_succ, List.getElem_cons_zero, List.setIfInBounds_toArray, List.set_cons_zero, List.set_cons_succ]
          refine till_take (i := 11) (v := ?_) [13, 14, 15, 16] rfl (by kernel_rfl) (by kernel_rfl) (by kernel_rfl) (by kernel_rfl) (fun _ _ _ h => h) (Or.inl ⟨by rfl, ?_⟩) (by assumption) ?_
          rotate_left
          · (intro w hSw; (try dsimp only at hSw); go_simp; try with_reducible rfl)
          simp only [Act.put, List.getElem_toArray, List.getElem_cons_succ, List.getElem_cons_zero, List.setIfInBounds_toArray, List.set_cons_zero, List.set_cons_succ]
          refine till_take (i := 12) (v := ?_) [13, 14, 15, 16] rfl (by kernel_rfl) (by kernel_rfl) (by kernel_rfl) (by kernel_rfl) (fun _ _ _ h => h) (Or.inl ⟨by rfl, ?_⟩) (by assumption) ?_
          rotate_left
          · (intro w hSw; (try dsimp only at hSw); go_simp; try with_reducible rfl)
          simp only [Act.put, List.getElem_toArray, List.getElem_cons_succ, List.getElem_cons_zero, List.setIfInBounds_toArray, List.set_cons_zero, List.set_cons_succ]
          refine till_take (i := 13) (v := ?_) [14, 15, 16] rfl (by kernel_rfl) (by kernel_rfl) (by kernel_rfl) (by kernel_rfl) (fun _ _ _ h => h) (Or.inl ⟨by rfl, ?_⟩) (by assumption) ?_
          rotate_left
          · (intro w hSw; (try dsimp only at hSw); go_simp; try with_reducible rfl)
          simp only [Act.put, List.getElem_toArray, List.getElem_cons_succ, List.getElem_cons_zero, List.setIfInBounds_toArray, List.set_cons_zero, List.set_cons_succ]
          refine till_in (i := 8) (by kernel_rfl) rfl (fun K hK => ?_)
          go_simp
          refine (rvnegK _ _ _ x k _ (hv5.later HW) (by omega) hn5).mono ?_
          rintro e w9 ⟨a8, c8, rfl, h8, hb9⟩
          replace HW := Below.step HW hb9
          clear hb9
          refine hK.out _ _ ?_ (fun hHeld => ?_)
          · exact (HW.cell (p := ⟨g, off + i, none⟩) hgr).trans f2
          clear hK K
          try simp only [Act.put, List.getElem_toArray, List.getElem_cons_succ, List.getElem_cons_zero, List.setIfInBounds_toArray, List.set_cons_zero, List.set_cons_succ]
          refine till_in (i := 9) (by kernel_rfl) rfl (fun K hK => ?_)
          go_simp
          refine (rvnegK _ _ _ (vneg x) (k + 2) _ (h8.vs (by omega)) (by omega) hn5).mono ?_
          rintro e w10 ⟨a9, c9, rfl, h9, hb9⟩
          rw [vneg_neg] at h9
          replace HW := Below.step HW hb9
          clear hb9 h8
          refine hK.out _ _ ?_ (fun hHeld => ?_)
          · exact (HW.cell (p := ⟨g, off + i, none⟩) hgr).trans f2
          clear hK K
          try simp only [Act.put, List.getElem_toArray, List.getElem_cons_succ, List.getElem_cons_zero, List.setIfInBounds_toArray, List.set_cons_zero, List.set_cons_succ]
          refine till_in (i := 10) (by kernel_rfl) rfl (fun K hK => ?_)
          go_simp
          have HW10 := HW
          obtain ⟨W6, hW6⟩ : ∃ W6, W6 = w10.alloc (.cells #[.slice a9 l5 c9] 24) := ⟨_, rfl⟩
          have hb9 : Below w10.heap.size w10 W6 := by rw [hW6]; exact below_new _ _
          have hone : MO W6 w10.heap.size (some ⟨w10.heap.size, 0, none⟩) 1 1 [x] (k + 4) := by rw [hW6]; exact mo_one h9
          rw [← hW6]
          clear hW6 h9
          have hsz6 := hb9.size
          replace HW := Below.step HW hb9
          refine hK.out _ _ ?_ (fun hHeld => ?_)
          · exact (HW.cell (p := ⟨g, off + i, none⟩) hgr).trans f2
          clear hK K
          try simp only [Act.put, List.getElem_toArray, List.getElem_cons_succ, List.getElem_cons_zero, List.setIfInBounds_toArray, List.set_cons_zero, List.set_cons_succ]
          refine till_in (i := 14) (by kernel_rfl) rfl (fun K hK => ?_)
          refine step_rows (R := fun w a l c zs => VF w a l c zs (k + 4)) (steadyMO (k + 4)) (by rfl) _ _ 22 Try.underlying22 (by rfl) w10.heap.size _ 1 1 [x] (by rfl) hone at2 (m - q) (cap' - q) (r.drop q) (by rfl) (MF.later (unhide HT2) HW) (by omega) hsz6 ?_
          intro an cn w11 ho11 hgr11
          replace HW := Below.step HW10 (hb9.grown hgr11 hsz6 (MO.ge hone))
          clear hb9 HW10 hgr11 hone
          have hszb := Below.step (unhide HB) HW
          refine hK.out _ _ ?_ (fun hHeld => ?_)
          · exact (HW.cell (p := ⟨g, off + i, none⟩) hgr).trans f2
          clear hK K
          try simp only [Act.put, List.getElem_toArray, List.getElem_cons_succ, List.getElem_cons_zero, List.setIfInBounds_toArray, List.set_cons_zero, List.set_cons_succ]
          refine till_in (i := 15) (by kernel_rfl) rfl (fun K hK => ?_)
          have hsz7 := hszb.size
          refine step_part (R := fun w a l c zs => VF w a l c zs (k + 4)) (steadyMO (k + 4)) (by rfl) _ _ 22 Try.underlying22 (by rfl) w.heap.size ao' q (r.take q) (by rfl) (MF.later (unhide HT1) HW) an (1 + (m - q)) cn ([x] ++ r.drop q) (by rfl) (MO.mf ho11) (by omega) (by omega) hsz7 ?_
          intro cn2 w12 ho12 hgr12
          replace HW := Below.step HW ((Below.refl _ _).grown hgr12 (Nat.le_refl _) (fun _ h => by simp at h))
          clear hszb hsz7 ho11 hgr12
          refine hK.out _ _ ?_ (fun hHeld => ?_)
          · exact (HW.cell (p := ⟨g, off + i, none⟩) hgr).trans f2
          clear hK K
          try simp only [Act.put, List.getElem_toArray, List.getElem_cons_succ, List.getElem_cons_zero, List.setIfInBounds_toArray, List.set_cons_zero, List.set_cons_succ]
          refine till_out (i := 16) (by kernel_rfl) rfl (by kernel_rfl) (fun K hK => ?_)
          go_simp
          refine hK.out _ _ ?_
          clear hK K
          try simp only [Act.put, List.getElem_toArray, List.getElem_cons_succ, List.getElem_cons_zero, List.setIfInBounds_toArray, List.set_cons_zero, List.set_cons_succ]
          refine till_done (by kernel_rfl) ?_ _
          go_wp2
          go_roundw
          case rel =>
            refine ⟨i + 1, _, _, _, _, by omega, ?_, by go_num, rfl, ho12, by rw [take_snoc [] (by rw [unhide HL]; exact hlt), ← unhide EX]; exact unhide HP, Below.step (unhide HB) HW⟩
            omega
          case measure => simp [intOf]; omega
    · have hin : i = n := by omega
      subst hin
      have hin' : ¬ (i : Int) < (i : Int) := by omega
      rw [List.take_of_length_le (by rw [unhide HL]; exact Nat.le_refl _)] at HS
      go_wp2
      go_ret
      first | exact ⟨_, _, _, r, rfl, hmi, unhide HS, hown0, hB0⟩ | exact ⟨_, _, _, rfl, hmi, r, unhide HS, hown0, hB0⟩
#print axioms refSortK
end Go.Proofs.Ytbdjkbonoofibaa
