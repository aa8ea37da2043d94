/-
  The walk of QuotTells: it tells true.
-/
import Derived.Test.YtcafodggkhkpnaaFew5
import Derived.Test.YtcafodggkhkpnaaAwake5
import Derived.Test.YtcafodggkhkpnaaRNear
namespace Go.Proofs.Ytcafodggkhkpnaa
open Go.RowKit Lb

theorem fk_zero (w : World) : FK w false none 0 0 0 1 := ⟨⟨⟨[], rowAt_nil _, fun h => absurd h (by simp), rfl⟩, rfl⟩, by rw [Bp_one]; decide⟩

theorem intsIn2 {w : World} (b0 : Bool) (a0 : Option Addr) (len0 cap0 : Nat) (b1 : Bool) (a1 : Option Addr) (len1 cap1 : Nat) {n : Nat} (hn : n = w.heap.size) :
    IntsIn (w.alloc (.cells #[.bool b0, .slice a0 len0 cap0, .bool b1, .slice a1 len1 cap1] 24)) n 2 (fun i => if i = 0 then b0 else b1) (fun i => if i = 0 then a0 else a1) (fun i => if i = 0 then len0 else len1) (fun i => if i = 0 then cap0 else cap1) := by
  subst hn
  intro i hi
  match i with
  | 0 => simp
  | 1 => simp

set_option maxRecDepth 20000 in
set_option maxHeartbeats 8000000 in
theorem tells_zero (b0 : Bool) (a0 : Option Addr) (len0 cap0 : Nat) (xs0 : List Nat) (b1 : Bool) (a1 : Option Addr) (len1 cap1 : Nat) (xs1 : List Nat) (w : World) (r0 : RowAt w a0 len0 cap0 xs0) (r1 : RowAt w a1 len1 cap1 xs1) (hz1 : sgnd b1 (Lb.val xs1) = 0) :
    Calls Try.prog 3 #[.agg #[.bool b0, .slice a0 len0 cap0], .agg #[.bool b1, .slice a1 len1 cap1]] w fun e w' => e = .returned (.bool true) ∧ Below w.heap.size w w' := by
  have hm0 := Nat.le_trans r0.cap_le r0.cap_max
  have hx0 := r0.int b0
  obtain ⟨z0, ez0⟩ : ∃ z, z = sgnd b0 (Lb.val xs0) := ⟨_, rfl⟩
  rw [← ez0] at hx0
  clear ez0 r0
  have hm1 := Nat.le_trans r1.cap_le r1.cap_max
  have hx1 := r1.int b1
  obtain ⟨z1, ez1⟩ : ∃ z, z = sgnd b1 (Lb.val xs1) := ⟨_, rfl⟩
  rw [← ez1] at hx1
  clear r1
  rw [← ez1] at hz1
  clear ez1
  subst hz1
  have HI := hide (intsIn2 (w := ((w.alloc (.cells #[.bool b0, .slice a0 len0 cap0] 24)).alloc (.cells #[.bool b1, .slice a1 len1 cap1] 24))) b0 a0 len0 cap0 b1 a1 len1 cap1 (n := w.heap.size + 2) (by simp))
  go_enter Try.func3, Try.ntmps3
  go_wp2_with fail
  refine (few5_any _ _ _ _ _ _ _ (unhide HI) (by omega) (by simp <;> omega) (by intro i _; (first | assumption | (split <;> assumption) | (split <;> (first | assumption | (split <;> assumption)))))).mono ?_
  rintro e w1 ⟨⟨b, rfl, hb⟩, hb1⟩
  obtain ⟨W0, hWe⟩ : ∃ W', W' = ((w.alloc (.cells #[.bool b0, .slice a0 len0 cap0] 24)).alloc (.cells #[.bool b1, .slice a1 len1 cap1] 24)) := ⟨_, rfl⟩
  obtain ⟨P0, P1, hb0⟩ := boxes2 w b0 a0 len0 cap0 b1 a1 len1 cap1 hWe
  rw [← hWe] at hb1
  clear hWe HI
  have hb2 := Below.step (below_one W0 _) hb1
  clear hb1
  replace P0 := P0.later hb2
  replace P1 := P1.later hb2
  have HB := hide (Below.step hb0 hb2)
  clear hb0 hb2
  by_cases hf : b = true
  · subst hf
    have e0 : len0 ≤ 20 := (hb.1 rfl) 0 (by omega)
    have e1 : len1 ≤ 20 := (hb.1 rfl) 1 (by omega)
    have h0 := ik_of (hx0.later (unhide HB)) e0 (by omega)
    have h1 := ik_of (hx1.later (unhide HB)) e1 (by omega)
    have L0 := hide e0
    have L1 := hide e1
    clear hb hm0 hx0 e0 hm1 hx1 e1
    obtain ⟨fP01, fP02, _, _⟩ := P0.facts
    obtain ⟨fP11, fP12, _, _⟩ := P1.facts
    go_wp2_with fail
    refine (quoN b0 a0 len0 cap0 z0 20 b1 a1 len1 cap1 20 _ h0 h1).mono ?_
    rintro e v1 ⟨rfl, hb9⟩
    clear fP01 fP02 fP11 fP12
    replace P0 := P0.later hb9
    replace P1 := P1.later hb9
    replace h0 := h0.later hb9
    replace h1 := h1.later hb9
    replace HB := hide (Below.step (unhide HB) hb9)
    clear hb9
    go_upto_region 4 with fail
    obtain ⟨v2, hWe⟩ : ∃ W', W' = ((v1.alloc (.cells #[.bool false, .slice none 0 0] 24)).alloc (.cells #[.bool false, .slice none 0 0] 24)) := ⟨_, rfl⟩
    obtain ⟨Bq, Br, hb9⟩ := boxes2 v1 false none 0 0 false none 0 0 hWe
    rw [← hWe]
    clear hWe
    replace P0 := P0.later hb9
    replace P1 := P1.later hb9
    replace h0 := h0.later hb9
    replace h1 := h1.later hb9
    replace HB := hide (Below.step (unhide HB) hb9)
    clear hb9
    obtain ⟨fP01, fP02, _, _⟩ := P0.facts
    obtain ⟨fP11, fP12, _, _⟩ := P1.facts
    go_wp2_with fail
    refine (divN b0 a0 len0 cap0 z0 20 b1 a1 len1 cap1 20 _ h0 h1).mono ?_
    rintro e v3 ⟨rfl, hb9⟩
    clear fP01 fP02 fP11 fP12
    replace P0 := P0.later hb9
    replace P1 := P1.later hb9
    replace h0 := h0.later hb9
    replace h1 := h1.later hb9
    replace Bq := Bq.later hb9
    replace Br := Br.later hb9
    replace HB := hide (Below.step (unhide HB) hb9)
    clear hb9
    go_upto_region 5 with fail
    obtain ⟨v4, hWe⟩ : ∃ W', W' = ((v3.alloc (.cells #[.bool false, .slice none 0 0] 24)).alloc (.cells #[.bool false, .slice none 0 0] 24)) := ⟨_, rfl⟩
    obtain ⟨Bp, Bs, hb9⟩ := boxes2 v3 false none 0 0 false none 0 0 hWe
    rw [← hWe]
    clear hWe
    replace P0 := P0.later hb9
    replace P1 := P1.later hb9
    replace h0 := h0.later hb9
    replace h1 := h1.later hb9
    replace Bq := Bq.later hb9
    replace Br := Br.later hb9
    replace HB := hide (Below.step (unhide HB) hb9)
    clear hb9
    obtain ⟨fP01, fP02, _, _⟩ := P0.facts
    obtain ⟨fP11, fP12, _, _⟩ := P1.facts
    go_wp2_with fail
    refine (nearN b0 a0 len0 cap0 z0 20 b1 a1 len1 cap1 20 _ h0 h1).mono ?_
    rintro e v5 ⟨rfl, hb9⟩
    clear fP01 fP02 fP11 fP12
    replace P0 := P0.later hb9
    replace P1 := P1.later hb9
    replace h0 := h0.later hb9
    replace h1 := h1.later hb9
    replace Bq := Bq.later hb9
    replace Br := Br.later hb9
    replace Bp := Bp.later hb9
    replace Bs := Bs.later hb9
    replace HB := hide (Below.step (unhide HB) hb9)
    clear hb9
    go_upto_region 6 with fail
    obtain ⟨v6, hWe⟩ : ∃ W', W' = (v5.alloc (.cells #[.bool false, .slice none 0 0] 24)) := ⟨_, rfl⟩
    obtain ⟨Bn, hb9⟩ := boxes1 v5 false none 0 0 hWe
    rw [← hWe]
    clear hWe
    replace P0 := P0.later hb9
    replace P1 := P1.later hb9
    replace h0 := h0.later hb9
    replace h1 := h1.later hb9
    replace Bq := Bq.later hb9
    replace Br := Br.later hb9
    replace Bp := Bp.later hb9
    replace Bs := Bs.later hb9
    replace HB := hide (Below.step (unhide HB) hb9)
    clear hb9
    obtain ⟨fP11, fP12, _, _⟩ := P1.facts
    go_wp2_with fail
    refine (rsignK b1 a1 len1 cap1 0 20 0 _ h1 (by simp)).mono ?_
    rintro e v7 ⟨rfl, hb9⟩
    clear fP11 fP12
    replace P0 := P0.later hb9
    replace P1 := P1.later hb9
    replace h0 := h0.later hb9
    replace h1 := h1.later hb9
    replace Bq := Bq.later hb9
    replace Br := Br.later hb9
    replace Bp := Bp.later hb9
    replace Bs := Bs.later hb9
    replace Bn := Bn.later hb9
    replace HB := hide (Below.step (unhide HB) hb9)
    clear hb9
    go_upto_region 8 with fail
    obtain ⟨v8, hWe⟩ : ∃ W', W' = (v7.alloc (.cells #[.bool false, .slice none 0 0] 24)) := ⟨_, rfl⟩
    obtain ⟨Bz, hb9⟩ := boxes1 v7 false none 0 0 hWe
    rw [← hWe]
    clear hWe
    replace P0 := P0.later hb9
    replace P1 := P1.later hb9
    replace h0 := h0.later hb9
    replace h1 := h1.later hb9
    replace Bq := Bq.later hb9
    replace Br := Br.later hb9
    replace Bp := Bp.later hb9
    replace Bs := Bs.later hb9
    replace Bn := Bn.later hb9
    replace HB := hide (Below.step (unhide HB) hb9)
    clear hb9
    by_cases hz0 : z0 = 0
    · have D := hide (show true = decide ((0 : Int) ∣ z0) from (decide_eq_true (by rw [hz0]; exact Int.dvd_refl 0)).symm)
      have E := hide (show (0 : Int) = z0.sign by rw [hz0]; rfl)
      clear hz0
      have HW : Below v8.heap.size v8 v8.drew := (Below.refl _ _).drew
      refine till_start (fun w' => w'.cell? ⟨w.heap.size, 0, none⟩ = some (.bool b0) ∧ w'.cell? ⟨w.heap.size, 1, none⟩ = some (.slice a0 len0 cap0) ∧ w'.cell? ⟨w.heap.size + 1, 0, none⟩ = some (.bool b1) ∧ w'.cell? ⟨w.heap.size + 1, 1, none⟩ = some (.slice a1 len1 cap1) ∧ w'.cell? ⟨v1.heap.size, 0, none⟩ = some (.bool false) ∧ w'.cell? ⟨v1.heap.size, 1, none⟩ = some (.slice none 0 0) ∧ w'.cell? ⟨v1.heap.size + 1, 0, none⟩ = some (.bool false) ∧ w'.cell? ⟨v1.heap.size + 1, 1, none⟩ = some (.slice none 0 0) ∧ w'.cell? ⟨v3.heap.size, 0, none⟩ = some (.bool false) ∧ w'.cell? ⟨v3.heap.size, 1, none⟩ = some (.slice none 0 0) ∧ w'.cell? ⟨v3.heap.size + 1, 0, none⟩ = some (.bool false) ∧ w'.cell? ⟨v3.heap.size + 1, 1, none⟩ = some (.slice none 0 0) ∧ w'.cell? ⟨v5.heap.size, 0, none⟩ = some (.bool false) ∧ w'.cell? ⟨v5.heap.size, 1, none⟩ = some (.slice none 0 0) ∧ w'.cell? ⟨v7.heap.size, 0, none⟩ = some (.bool false) ∧ w'.cell? ⟨v7.heap.size, 1, none⟩ = some (.slice none 0 0)) 47 (by kernel_rfl) ?_ (fun hHeld => ?_)
      · exact ⟨(P0.later HW).facts.1, (P0.later HW).facts.2.1, (P1.later HW).facts.1, (P1.later HW).facts.2.1, (Bq.later HW).facts.1, (Bq.later HW).facts.2.1, (Br.later HW).facts.1, (Br.later HW).facts.2.1, (Bp.later HW).facts.1, (Bp.later HW).facts.2.1, (Bs.later HW).facts.1, (Bs.later HW).facts.2.1, (Bn.later HW).facts.1, (Bn.later HW).facts.2.1, (Bz.later HW).facts.1, (Bz.later HW).facts.2.1⟩
      refine till_take (i := 0) (v := ?_) [1, 2, 3, 4, 5, 6, 7, 8, 9, 10, 11, 12, 13, 14, 15, 16, 17, 18, 19, 20, 21, 22, 23, 24, 25, 26, 27, 28, 29, 30, 31, 32, 33, 34, 35, 36, 37, 38, 39, 40, 41, 42, 43, 44, 45, 46, 47] rfl (by kernel_rfl) (by kernel_rfl) (by kernel_rfl) (by kernel_rfl) (fun _ _ _ h => h) (Or.inl ⟨by rfl, ?_⟩) (by assumption) ?_
      rotate_left
      · (intro w hSw; (try dsimp only at hSw); go_simp; try with_reducible rfl)
      simp only [Act.put, List.getElem_toArray, List.getElem_cons_zero, List.setIfInBounds_toArray, List.set_cons_zero, List.set_cons_succ]
      refine till_take (i := 1) (v := ?_) [2, 3, 4, 5, 6, 7, 8, 9, 10, 11, 12, 13, 14, 15, 16, 17, 18, 19, 20, 21, 22, 23, 24, 25, 26, 27, 28, 29, 30, 31, 32, 33, 34, 35, 36, 37, 38, 39, 40, 41, 42, 43, 44, 45, 46, 47] rfl (by kernel_rfl) (by kernel_rfl) (by kernel_rfl) (by kernel_rfl) (fun _ _ _ h => h) (Or.inl ⟨by rfl, ?_⟩) (by assumption) ?_
      rotate_left
      · (intro w hSw; (try dsimp only at hSw); go_simp; try with_reducible rfl)
      simp only [Act.put, List.getElem_toArray, List.getElem_cons_succ, List.getElem_cons_zero, List.setIfInBounds_toArray, List.set_cons_zero, List.set_cons_succ]
      refine till_take (i := 2) (v := ?_) [3, 4, 5, 6, 7, 8, 9, 10, 11, 12, 13, 14, 15, 16, 17, 18, 19, 20, 21, 22, 23, 24, 25, 26, 27, 28, 29, 30, 31, 32, 33, 34, 35, 36, 37, 38, 39, 40, 41, 42, 43, 44, 45, 46, 47] rfl (by kernel_rfl) (by kernel_rfl) (by kernel_rfl) (by kernel_rfl) (fun _ _ _ h => h) (Or.inl ⟨by rfl, ?_⟩) (by assumption) ?_
      rotate_left
      · (intro w hSw; (try dsimp only at hSw); go_simp; try with_reducible rfl)
      simp only [Act.put, List.getElem_toArray, List.getElem_cons_succ, List.getElem_cons_zero, List.setIfInBounds_toArray, List.set_cons_zero, List.set_cons_succ]
      refine till_take (i := 3) (v := ?_) [4, 5, 6, 7, 8, 9, 10, 11, 12, 13, 14, 15, 16, 17, 18, 19, 20, 21, 22, 23, 24, 25, 26, 27, 28, 29, 30, 31, 32, 33, 34, 35, 36, 37, 38, 39, 40, 41, 42, 43, 44, 45, 46, 47] rfl (by kernel_rfl) (by kernel_rfl) (by kernel_rfl) (by kernel_rfl) (fun _ _ _ h => h) (Or.inl ⟨by rfl, ?_⟩) (by assumption) ?_
      rotate_left
      · (intro w hSw; (try dsimp only at hSw); go_simp; try with_reducible rfl)
      simp only [Act.put, List.getElem_toArray, List.getElem_cons_succ, List.getElem_cons_zero, List.setIfInBounds_toArray, List.set_cons_zero, List.set_cons_succ]
      refine till_take (i := 4) (v := ?_) [5, 6, 7, 8, 9, 10, 11, 12, 13, 14, 15, 16, 17, 18, 19, 20, 21, 22, 23, 24, 25, 26, 27, 28, 29, 30, 31, 32, 33, 34, 35, 36, 37, 38, 39, 40, 41, 42, 43, 44, 45, 46, 47] rfl (by kernel_rfl) (by kernel_rfl) (by kernel_rfl) (by kernel_rfl) (fun _ _ _ h => h) (Or.inl ⟨by rfl, ?_⟩) (by assumption) ?_
      rotate_left
      · (intro w hSw; (try dsimp only at hSw); go_simp; try with_reducible rfl)
      simp only [Act.put, List.getElem_toArray, List.getElem_cons_succ, List.getElem_cons_zero, List.setIfInBounds_toArray, List.set_cons_zero, List.set_cons_succ]
      refine till_take (i := 5) (v := ?_) [6, 7, 8, 9, 10, 11, 12, 13, 14, 15, 16, 17, 18, 19, 20, 21, 22, 23, 24, 25, 26, 27, 28, 29, 30, 31, 32, 33, 34, 35, 36, 37, 38, 39, 40, 41, 42, 43, 44, 45, 46, 47] rfl (by kernel_rfl) (by kernel_rfl) (by kernel_rfl) (by kernel_rfl) (fun _ _ _ h => h) (Or.inl ⟨by rfl, ?_⟩) (by assumption) ?_
      rotate_left
      · (intro w hSw; (try dsimp only at hSw); go_simp; try with_reducible rfl)
      simp only [Act.put, List.getElem_toArray, List.getElem_cons_succ, List.getElem_cons_zero, List.setIfInBounds_toArray, List.set_cons_zero, List.set_cons_succ]
      refine till_take (i := 6) (v := ?_) [7, 8, 9, 10, 11, 12, 13, 14, 15, 16, 17, 18, 19, 20, 21, 22, 23, 24, 25, 26, 27, 28, 29, 30, 31, 32, 33, 34, 35, 36, 37, 38, 39, 40, 41, 42, 43, 44, 45, 46, 47] rfl (by kernel_rfl) (by kernel_rfl) (by kernel_rfl) (by kernel_rfl) (fun _ _ _ h => h) (Or.inl ⟨by rfl, ?_⟩) (by assumption) ?_
      rotate_left
      · (intro w hSw; (try dsimp only at hSw); go_simp; try with_reducible rfl)
      simp only [Act.put, List.getElem_toArray, List.getElem_cons_succ, List.getElem_cons_zero, List.setIfInBounds_toArray, List.set_cons_zero, List.set_cons_succ]
      refine till_take (i := 7) (v := ?_) [8, 9, 10, 11, 12, 13, 14, 15, 16, 17, 18, 19, 20, 21, 22, 23, 24, 25, 26, 27, 28, 29, 30, 31, 32, 33, 34, 35, 36, 37, 38, 39, 40, 41, 42, 43, 44, 45, 46, 47] rfl (by kernel_rfl) (by kernel_rfl) (by kernel_rfl) (by kernel_rfl) (fun _ _ _ h => h) (Or.inl ⟨by rfl, ?_⟩) (by assumption) ?_
      rotate_left
      · (intro w hSw; (try dsimp only at hSw); go_simp; try with_reducible rfl)
      simp only [Act.put, List.getElem_toArray, List.getElem_cons_succ, List.getElem_cons_zero, List.setIfInBounds_toArray, List.set_cons_zero, List.set_cons_succ]
      refine till_take (i := 8) (v := ?_) [9, 10, 11, 12, 13, 14, 15, 16, 17, 18, 19, 20, 21, 22, 23, 24, 25, 26, 27, 28, 29, 30, 31, 32, 33, 34, 35, 36, 37, 38, 39, 40, 41, 42, 43, 44, 45, 46, 47] rfl (by kernel_rfl) (by kernel_rfl) (by kernel_rfl) (by kernel_rfl) (fun _ _ _ h => h) (Or.inl ⟨by rfl, ?_⟩) (by assumption) ?_
      rotate_left
      · (intro w hSw; (try dsimp only at hSw); go_simp; try with_reducible rfl)
      simp only [Act.put, List.getElem_toArray, List.getElem_cons_succ, List.getElem_cons_zero, List.setIfInBounds_toArray, List.set_cons_zero, List.set_cons_succ]
      refine till_take (i := 9) (v := ?_) [10, 11, 12, 13, 14, 15, 16, 17, 18, 19, 20, 21, 22, 23, 24, 25, 26, 27, 28, 29, 30, 31, 32, 33, 34, 35, 36, 37, 38, 39, 40, 41, 42, 43, 44, 45, 46, 47] rfl (by kernel_rfl) (by kernel_rfl) (by kernel_rfl) (by kernel_rfl) (fun _ _ _ h => h) (Or.inl ⟨by rfl, ?_⟩) (by assumption) ?_
      rotate_left
      · (intro w hSw; (try dsimp only at hSw); go_simp; try with_reducible rfl)
      simp only [Act.put, List.getElem_toArray, List.getElem_cons_succ, List.getElem_cons_zero, List.setIfInBounds_toArray, List.set_cons_zero, List.set_cons_succ]
      refine till_take (i := 10) (v := ?_) [11, 12, 13, 14, 15, 16, 17, 18, 19, 20, 21, 22, 23, 24, 25, 26, 27, 28, 29, 30, 31, 32, 33, 34, 35, 36, 37, 38, 39, 40, 41, 42, 43, 44, 45, 46, 47] rfl (by kernel_rfl) (by kernel_rfl) (by kernel_rfl) (by kernel_rfl) (fun _ _ _ h => h) (Or.inl ⟨by rfl, ?_⟩) (by assumption) ?_
      rotate_left
      · (intro w hSw; (try dsimp only at hSw); go_simp; try with_reducible rfl)
      simp only [Act.put, List.getElem_toArray, List.getElem_cons_succ, List.getElem_cons_zero, List.setIfInBounds_toArray, List.set_cons_zero, List.set_cons_succ]
      refine till_take (i := 11) (v := ?_) [13, 14, 15, 16, 17, 18, 19, 20, 21, 22, 23, 24, 25, 26, 27, 28, 29, 30, 31, 32, 33, 34, 35, 36, 37, 38, 39, 40, 41, 42, 43, 44, 45, 46, 47] rfl (by kernel_rfl) (by kernel_rfl) (by kernel_rfl) (by kernel_rfl) (fun _ _ _ h => h) (Or.inl ⟨by rfl, ?_⟩) (by assumption) ?_
      rotate_left
      · (intro w hSw; (try dsimp only at hSw); go_simp; try with_reducible rfl)
      simp only [Act.put, List.getElem_toArray, List.getElem_cons_succ, List.getElem_cons_zero, List.setIfInBounds_toArray, List.set_cons_zero, List.set_cons_succ]
      refine till_take (i := 12) (v := ?_) [13, 14, 15, 16, 17, 18, 19, 20, 21, 22, 23, 24, 25, 26, 27, 28, 29, 30, 31, 32, 33, 34, 35, 36, 37, 38, 39, 40, 41, 42, 43, 44, 45, 46, 47] rfl (by kernel_rfl) (by kernel_rfl) (by kernel_rfl) (by kernel_rfl) (fun _ _ _ h => h) (Or.inl ⟨by rfl, ?_⟩) (by assumption) ?_
      rotate_left
      · (intro w hSw; (try dsimp only at hSw); go_simp; try with_reducible rfl)
      simp only [Act.put, List.getElem_toArray, List.getElem_cons_succ, List.getElem_cons_zero, List.setIfInBounds_toArray, List.set_cons_zero, List.set_cons_succ]
      refine till_in (i := 13) (by kernel_rfl) rfl (fun K hK => ?_)
      go_simp
      refine (rsameK false none 0 0 0 1 false none 0 0 0 1 _ (fk_zero _) (fk_zero _) rfl).mono ?_
      rintro e v301 ⟨rfl, hb9⟩
      replace HW := Below.step HW hb9
      clear hb9
      refine hK.out _ _ ?_ (fun hHeld => ?_)
      · exact ⟨(P0.later HW).facts.1, (P0.later HW).facts.2.1, (P1.later HW).facts.1, (P1.later HW).facts.2.1, (Bq.later HW).facts.1, (Bq.later HW).facts.2.1, (Br.later HW).facts.1, (Br.later HW).facts.2.1, (Bp.later HW).facts.1, (Bp.later HW).facts.2.1, (Bs.later HW).facts.1, (Bs.later HW).facts.2.1, (Bn.later HW).facts.1, (Bn.later HW).facts.2.1, (Bz.later HW).facts.1, (Bz.later HW).facts.2.1⟩
      clear hK K
      try simp only [Act.put, List.getElem_toArray, List.getElem_cons_succ, List.getElem_cons_zero, List.setIfInBounds_toArray, List.set_cons_zero, List.set_cons_succ]
      refine till_take (i := 14) (v := ?_) [15, 16, 17, 18, 19, 20, 21, 22, 23, 24, 25, 26, 27, 28, 29, 30, 31, 32, 33, 34, 35, 36, 37, 38, 39, 40, 41, 42, 43, 44, 45, 46, 47] rfl (by kernel_rfl) (by kernel_rfl) (by kernel_rfl) (by kernel_rfl) (fun _ _ _ h => h) (Or.inl ⟨by rfl, ?_⟩) (by assumption) ?_
      rotate_left
      · (intro w hSw; (try dsimp only at hSw); go_simp; try with_reducible rfl)
      simp only [Act.put, List.getElem_toArray, List.getElem_cons_succ, List.getElem_cons_zero, List.setIfInBounds_toArray, List.set_cons_zero, List.set_cons_succ]
      refine till_take (i := 15) (v := ?_) [16, 17, 18, 19, 20, 21, 22, 23, 24, 25, 26, 27, 28, 29, 30, 31, 32, 33, 34, 35, 36, 37, 38, 39, 40, 41, 42, 43, 44, 45, 46, 47] rfl (by kernel_rfl) (by kernel_rfl) (by kernel_rfl) (by kernel_rfl) (fun _ _ _ h => h) (Or.inl ⟨by rfl, ?_⟩) (by assumption) ?_
      rotate_left
      · (intro w hSw; (try dsimp only at hSw); go_simp; try with_reducible rfl)
      simp only [Act.put, List.getElem_toArray, List.getElem_cons_succ, List.getElem_cons_zero, List.setIfInBounds_toArray, List.set_cons_zero, List.set_cons_succ]
      refine till_take (i := 16) (v := ?_) [18, 19, 20, 21, 22, 23, 24, 25, 26, 27, 28, 29, 30, 31, 32, 33, 34, 35, 36, 37, 38, 39, 40, 41, 42, 43, 44, 45, 46, 47] rfl (by kernel_rfl) (by kernel_rfl) (by kernel_rfl) (by kernel_rfl) (fun _ _ _ h => h) (Or.inl ⟨by rfl, ?_⟩) (by assumption) ?_
      rotate_left
      · (intro w hSw; (try dsimp only at hSw); go_simp; try with_reducible rfl)
      simp only [Act.put, List.getElem_toArray, List.getElem_cons_succ, List.getElem_cons_zero, List.setIfInBounds_toArray, List.set_cons_zero, List.set_cons_succ]
      refine till_take (i := 17) (v := ?_) [18, 19, 20, 21, 22, 23, 24, 25, 26, 27, 28, 29, 30, 31, 32, 33, 34, 35, 36, 37, 38, 39, 40, 41, 42, 43, 44, 45, 46, 47] rfl (by kernel_rfl) (by kernel_rfl) (by kernel_rfl) (by kernel_rfl) (fun _ _ _ h => h) (Or.inl ⟨by rfl, ?_⟩) (by assumption) ?_
      rotate_left
      · (intro w hSw; (try dsimp only at hSw); go_simp; try with_reducible rfl)
      simp only [Act.put, List.getElem_toArray, List.getElem_cons_succ, List.getElem_cons_zero, List.setIfInBounds_toArray, List.set_cons_zero, List.set_cons_succ]
      refine till_in (i := 18) (by kernel_rfl) rfl (fun K hK => ?_)
      go_simp
      refine (rsameK false none 0 0 0 1 false none 0 0 0 1 _ (fk_zero _) (fk_zero _) rfl).mono ?_
      rintro e v302 ⟨rfl, hb9⟩
      replace HW := Below.step HW hb9
      clear hb9
      refine hK.out _ _ ?_ (fun hHeld => ?_)
      · exact ⟨(P0.later HW).facts.1, (P0.later HW).facts.2.1, (P1.later HW).facts.1, (P1.later HW).facts.2.1, (Bq.later HW).facts.1, (Bq.later HW).facts.2.1, (Br.later HW).facts.1, (Br.later HW).facts.2.1, (Bp.later HW).facts.1, (Bp.later HW).facts.2.1, (Bs.later HW).facts.1, (Bs.later HW).facts.2.1, (Bn.later HW).facts.1, (Bn.later HW).facts.2.1, (Bz.later HW).facts.1, (Bz.later HW).facts.2.1⟩
      clear hK K
      try simp only [Act.put, List.getElem_toArray, List.getElem_cons_succ, List.getElem_cons_zero, List.setIfInBounds_toArray, List.set_cons_zero, List.set_cons_succ]
      refine till_take (i := 19) (v := ?_) [20, 21, 22, 23, 24, 25, 26, 27, 28, 29, 30, 31, 32, 33, 34, 35, 36, 37, 38, 39, 40, 41, 42, 43, 44, 45, 46, 47] rfl (by kernel_rfl) (by kernel_rfl) (by kernel_rfl) (by kernel_rfl) (fun _ _ _ h => h) (Or.inl ⟨by rfl, ?_⟩) (by assumption) ?_
      rotate_left
      · (intro w hSw; (try dsimp only at hSw); go_simp; try with_reducible rfl)
      simp only [Act.put, List.getElem_toArray, List.getElem_cons_succ, List.getElem_cons_zero, List.setIfInBounds_toArray, List.set_cons_zero, List.set_cons_succ]
      refine till_take (i := 20) (v := ?_) [21, 22, 23, 24, 25, 26, 27, 28, 29, 30, 31, 32, 33, 34, 35, 36, 37, 38, 39, 40, 41, 42, 43, 44, 45, 46, 47] rfl (by kernel_rfl) (by kernel_rfl) (by kernel_rfl) (by kernel_rfl) (fun _ _ _ h => h) (Or.inl ⟨by rfl, ?_⟩) (by assumption) ?_
      rotate_left
      · (intro w hSw; (try dsimp only at hSw); go_simp; try with_reducible rfl)
      simp only [Act.put, List.getElem_toArray, List.getElem_cons_succ, List.getElem_cons_zero, List.setIfInBounds_toArray, List.set_cons_zero, List.set_cons_succ]
      refine till_take (i := 21) (v := ?_) [23, 24, 25, 26, 27, 28, 29, 30, 31, 32, 33, 34, 35, 36, 37, 38, 39, 40, 41, 42, 43, 44, 45, 46, 47] rfl (by kernel_rfl) (by kernel_rfl) (by kernel_rfl) (by kernel_rfl) (fun _ _ _ h => h) (Or.inl ⟨by rfl, ?_⟩) (by assumption) ?_
      rotate_left
      · (intro w hSw; (try dsimp only at hSw); go_simp; try with_reducible rfl)
      simp only [Act.put, List.getElem_toArray, List.getElem_cons_succ, List.getElem_cons_zero, List.setIfInBounds_toArray, List.set_cons_zero, List.set_cons_succ]
      refine till_take (i := 22) (v := ?_) [23, 24, 25, 26, 27, 28, 29, 30, 31, 32, 33, 34, 35, 36, 37, 38, 39, 40, 41, 42, 43, 44, 45, 46, 47] rfl (by kernel_rfl) (by kernel_rfl) (by kernel_rfl) (by kernel_rfl) (fun _ _ _ h => h) (Or.inl ⟨by rfl, ?_⟩) (by assumption) ?_
      rotate_left
      · (intro w hSw; (try dsimp only at hSw); go_simp; try with_reducible rfl)
      simp only [Act.put, List.getElem_toArray, List.getElem_cons_succ, List.getElem_cons_zero, List.setIfInBounds_toArray, List.set_cons_zero, List.set_cons_succ]
      refine till_in (i := 23) (by kernel_rfl) rfl (fun K hK => ?_)
      go_simp
      refine (rsameK false none 0 0 0 1 false none 0 0 0 1 _ (fk_zero _) (fk_zero _) rfl).mono ?_
      rintro e v303 ⟨rfl, hb9⟩
      replace HW := Below.step HW hb9
      clear hb9
      refine hK.out _ _ ?_ (fun hHeld => ?_)
      · exact ⟨(P0.later HW).facts.1, (P0.later HW).facts.2.1, (P1.later HW).facts.1, (P1.later HW).facts.2.1, (Bq.later HW).facts.1, (Bq.later HW).facts.2.1, (Br.later HW).facts.1, (Br.later HW).facts.2.1, (Bp.later HW).facts.1, (Bp.later HW).facts.2.1, (Bs.later HW).facts.1, (Bs.later HW).facts.2.1, (Bn.later HW).facts.1, (Bn.later HW).facts.2.1, (Bz.later HW).facts.1, (Bz.later HW).facts.2.1⟩
      clear hK K
      try simp only [Act.put, List.getElem_toArray, List.getElem_cons_succ, List.getElem_cons_zero, List.setIfInBounds_toArray, List.set_cons_zero, List.set_cons_succ]
      refine till_take (i := 24) (v := ?_) [25, 26, 27, 28, 29, 30, 31, 32, 33, 34, 35, 36, 37, 38, 39, 40, 41, 42, 43, 44, 45, 46, 47] rfl (by kernel_rfl) (by kernel_rfl) (by kernel_rfl) (by kernel_rfl) (fun _ _ _ h => h) (Or.inl ⟨by rfl, ?_⟩) (by assumption) ?_
      rotate_left
      · (intro w hSw; (try dsimp only at hSw); go_simp; try with_reducible rfl)
      simp only [Act.put, List.getElem_toArray, List.getElem_cons_succ, List.getElem_cons_zero, List.setIfInBounds_toArray, List.set_cons_zero, List.set_cons_succ]
      refine till_take (i := 25) (v := ?_) [26, 27, 28, 29, 30, 31, 32, 33, 34, 35, 36, 37, 38, 39, 40, 41, 42, 43, 44, 45, 46, 47] rfl (by kernel_rfl) (by kernel_rfl) (by kernel_rfl) (by kernel_rfl) (fun _ _ _ h => h) (Or.inl ⟨by rfl, ?_⟩) (by assumption) ?_
      rotate_left
      · (intro w hSw; (try dsimp only at hSw); go_simp; try with_reducible rfl)
      simp only [Act.put, List.getElem_toArray, List.getElem_cons_succ, List.getElem_cons_zero, List.setIfInBounds_toArray, List.set_cons_zero, List.set_cons_succ]
      refine till_take (i := 26) (v := ?_) [28, 29, 30, 31, 32, 33, 34, 35, 36, 37, 38, 39, 40, 41, 42, 43, 44, 45, 46, 47] rfl (by kernel_rfl) (by kernel_rfl) (by kernel_rfl) (by kernel_rfl) (fun _ _ _ h => h) (Or.inl ⟨by rfl, ?_⟩) (by assumption) ?_
      rotate_left
      · (intro w hSw; (try dsimp only at hSw); go_simp; try with_reducible rfl)
      simp only [Act.put, List.getElem_toArray, List.getElem_cons_succ, List.getElem_cons_zero, List.setIfInBounds_toArray, List.set_cons_zero, List.set_cons_succ]
      refine till_take (i := 27) (v := ?_) [28, 29, 30, 31, 32, 33, 34, 35, 36, 37, 38, 39, 40, 41, 42, 43, 44, 45, 46, 47] rfl (by kernel_rfl) (by kernel_rfl) (by kernel_rfl) (by kernel_rfl) (fun _ _ _ h => h) (Or.inl ⟨by rfl, ?_⟩) (by assumption) ?_
      rotate_left
      · (intro w hSw; (try dsimp only at hSw); go_simp; try with_reducible rfl)
      simp only [Act.put, List.getElem_toArray, List.getElem_cons_succ, List.getElem_cons_zero, List.setIfInBounds_toArray, List.set_cons_zero, List.set_cons_succ]
      refine till_in (i := 28) (by kernel_rfl) rfl (fun K hK => ?_)
      go_simp
      refine (rsameK false none 0 0 0 1 false none 0 0 0 1 _ (fk_zero _) (fk_zero _) rfl).mono ?_
      rintro e v304 ⟨rfl, hb9⟩
      replace HW := Below.step HW hb9
      clear hb9
      refine hK.out _ _ ?_ (fun hHeld => ?_)
      · exact ⟨(P0.later HW).facts.1, (P0.later HW).facts.2.1, (P1.later HW).facts.1, (P1.later HW).facts.2.1, (Bq.later HW).facts.1, (Bq.later HW).facts.2.1, (Br.later HW).facts.1, (Br.later HW).facts.2.1, (Bp.later HW).facts.1, (Bp.later HW).facts.2.1, (Bs.later HW).facts.1, (Bs.later HW).facts.2.1, (Bn.later HW).facts.1, (Bn.later HW).facts.2.1, (Bz.later HW).facts.1, (Bz.later HW).facts.2.1⟩
      clear hK K
      try simp only [Act.put, List.getElem_toArray, List.getElem_cons_succ, List.getElem_cons_zero, List.setIfInBounds_toArray, List.set_cons_zero, List.set_cons_succ]
      refine till_take (i := 29) (v := ?_) [30, 31, 32, 33, 34, 35, 36, 37, 38, 39, 40, 41, 42, 43, 44, 45, 46, 47] rfl (by kernel_rfl) (by kernel_rfl) (by kernel_rfl) (by kernel_rfl) (fun _ _ _ h => h) (Or.inl ⟨by rfl, ?_⟩) (by assumption) ?_
      rotate_left
      · (intro w hSw; (try dsimp only at hSw); go_simp; try with_reducible rfl)
      simp only [Act.put, List.getElem_toArray, List.getElem_cons_succ, List.getElem_cons_zero, List.setIfInBounds_toArray, List.set_cons_zero, List.set_cons_succ]
      refine till_take (i := 30) (v := ?_) [31, 32, 33, 34, 35, 36, 37, 38, 39, 40, 41, 42, 43, 44, 45, 46, 47] rfl (by kernel_rfl) (by kernel_rfl) (by kernel_rfl) (by kernel_rfl) (fun _ _ _ h => h) (Or.inl ⟨by rfl, ?_⟩) (by assumption) ?_
      rotate_left
      · (intro w hSw; (try dsimp only at hSw); go_simp; try with_reducible rfl)
      simp only [Act.put, List.getElem_toArray, List.getElem_cons_succ, List.getElem_cons_zero, List.setIfInBounds_toArray, List.set_cons_zero, List.set_cons_succ]
      refine till_take (i := 31) (v := ?_) [33, 34, 35, 36, 37, 38, 39, 40, 41, 42, 43, 44, 45, 46, 47] rfl (by kernel_rfl) (by kernel_rfl) (by kernel_rfl) (by kernel_rfl) (fun _ _ _ h => h) (Or.inl ⟨by rfl, ?_⟩) (by assumption) ?_
      rotate_left
      · (intro w hSw; (try dsimp only at hSw); go_simp; try with_reducible rfl)
      simp only [Act.put, List.getElem_toArray, List.getElem_cons_succ, List.getElem_cons_zero, List.setIfInBounds_toArray, List.set_cons_zero, List.set_cons_succ]
      refine till_take (i := 32) (v := ?_) [33, 34, 35, 36, 37, 38, 39, 40, 41, 42, 43, 44, 45, 46, 47] rfl (by kernel_rfl) (by kernel_rfl) (by kernel_rfl) (by kernel_rfl) (fun _ _ _ h => h) (Or.inl ⟨by rfl, ?_⟩) (by assumption) ?_
      rotate_left
      · (intro w hSw; (try dsimp only at hSw); go_simp; try with_reducible rfl)
      simp only [Act.put, List.getElem_toArray, List.getElem_cons_succ, List.getElem_cons_zero, List.setIfInBounds_toArray, List.set_cons_zero, List.set_cons_succ]
      refine till_in (i := 33) (by kernel_rfl) rfl (fun K hK => ?_)
      go_simp
      refine (rsameK false none 0 0 0 1 false none 0 0 0 1 _ (fk_zero _) (fk_zero _) rfl).mono ?_
      rintro e v305 ⟨rfl, hb9⟩
      replace HW := Below.step HW hb9
      clear hb9
      refine hK.out _ _ ?_ (fun hHeld => ?_)
      · exact ⟨(P0.later HW).facts.1, (P0.later HW).facts.2.1, (P1.later HW).facts.1, (P1.later HW).facts.2.1, (Bq.later HW).facts.1, (Bq.later HW).facts.2.1, (Br.later HW).facts.1, (Br.later HW).facts.2.1, (Bp.later HW).facts.1, (Bp.later HW).facts.2.1, (Bs.later HW).facts.1, (Bs.later HW).facts.2.1, (Bn.later HW).facts.1, (Bn.later HW).facts.2.1, (Bz.later HW).facts.1, (Bz.later HW).facts.2.1⟩
      clear hK K
      try simp only [Act.put, List.getElem_toArray, List.getElem_cons_succ, List.getElem_cons_zero, List.setIfInBounds_toArray, List.set_cons_zero, List.set_cons_succ]
      refine till_take (i := 34) (v := ?_) [35, 36, 37, 38, 39, 40, 41, 42, 43, 44, 45, 46, 47] rfl (by kernel_rfl) (by kernel_rfl) (by kernel_rfl) (by kernel_rfl) (fun _ _ _ h => h) (Or.inl ⟨by rfl, ?_⟩) (by assumption) ?_
      rotate_left
      · (intro w hSw; (try dsimp only at hSw); go_simp; try with_reducible rfl)
      simp only [Act.put, List.getElem_toArray, List.getElem_cons_succ, List.getElem_cons_zero, List.setIfInBounds_toArray, List.set_cons_zero, List.set_cons_succ]
      refine till_take (i := 35) (v := ?_) [36, 37, 38, 39, 40, 41, 42, 43, 44, 45, 46, 47] rfl (by kernel_rfl) (by kernel_rfl) (by kernel_rfl) (by kernel_rfl) (fun _ _ _ h => h) (Or.inl ⟨by rfl, ?_⟩) (by assumption) ?_
      rotate_left
      · (intro w hSw; (try dsimp only at hSw); go_simp; try with_reducible rfl)
      simp only [Act.put, List.getElem_toArray, List.getElem_cons_succ, List.getElem_cons_zero, List.setIfInBounds_toArray, List.set_cons_zero, List.set_cons_succ]
      refine till_take (i := 36) (v := ?_) [38, 40, 41, 42, 43, 44, 45, 46, 47] rfl (by kernel_rfl) (by kernel_rfl) (by kernel_rfl) (by kernel_rfl) (fun _ _ _ h => h) (Or.inl ⟨by rfl, ?_⟩) (by assumption) ?_
      rotate_left
      · (intro w hSw; (try dsimp only at hSw); go_simp; try with_reducible rfl)
      simp only [Act.put, List.getElem_toArray, List.getElem_cons_succ, List.getElem_cons_zero, List.setIfInBounds_toArray, List.set_cons_zero, List.set_cons_succ]
      refine till_take (i := 37) (v := ?_) [38, 40, 41, 42, 43, 44, 45, 46, 47] rfl (by kernel_rfl) (by kernel_rfl) (by kernel_rfl) (by kernel_rfl) (fun _ _ _ h => h) (Or.inl ⟨by rfl, ?_⟩) (by assumption) ?_
      rotate_left
      · (intro w hSw; (try dsimp only at hSw); go_simp; try with_reducible rfl)
      simp only [Act.put, List.getElem_toArray, List.getElem_cons_succ, List.getElem_cons_zero, List.setIfInBounds_toArray, List.set_cons_zero, List.set_cons_succ]
      refine till_take (i := 39) (v := ?_) [40, 41, 42, 43, 44, 45, 46, 47] rfl (by kernel_rfl) (by kernel_rfl) (by kernel_rfl) (by kernel_rfl) (fun _ _ _ h => h) (Or.inl ⟨by rfl, ?_⟩) (by assumption) ?_
      rotate_left
      · (intro w hSw; (try dsimp only at hSw); go_simp; try with_reducible rfl)
      simp only [Act.put, List.getElem_toArray, List.getElem_cons_succ, List.getElem_cons_zero, List.setIfInBounds_toArray, List.set_cons_zero, List.set_cons_succ]
      refine till_in (i := 38) (by kernel_rfl) rfl (fun K hK => ?_)
      go_simp
      refine (dividesK b1 a1 len1 cap1 0 20 b0 a0 len0 cap0 z0 20 true _ (h1.later HW) (h0.later HW) (unhide D)).mono ?_
      rintro e v306 ⟨rfl, hb9⟩
      replace HW := Below.step HW hb9
      clear hb9
      refine hK.out _ _ ?_ (fun hHeld => ?_)
      · exact ⟨(P0.later HW).facts.1, (P0.later HW).facts.2.1, (P1.later HW).facts.1, (P1.later HW).facts.2.1, (Bq.later HW).facts.1, (Bq.later HW).facts.2.1, (Br.later HW).facts.1, (Br.later HW).facts.2.1, (Bp.later HW).facts.1, (Bp.later HW).facts.2.1, (Bs.later HW).facts.1, (Bs.later HW).facts.2.1, (Bn.later HW).facts.1, (Bn.later HW).facts.2.1, (Bz.later HW).facts.1, (Bz.later HW).facts.2.1⟩
      clear hK K
      try simp only [Act.put, List.getElem_toArray, List.getElem_cons_succ, List.getElem_cons_zero, List.setIfInBounds_toArray, List.set_cons_zero, List.set_cons_succ]
      refine till_in (i := 40) (by kernel_rfl) rfl (fun K hK => ?_)
      go_simp
      refine (rsignK b0 a0 len0 cap0 z0 20 0 _ (h0.later HW) (unhide E)).mono ?_
      rintro e v307 ⟨rfl, hb9⟩
      replace HW := Below.step HW hb9
      clear hb9
      refine hK.out _ _ ?_ (fun hHeld => ?_)
      · exact ⟨(P0.later HW).facts.1, (P0.later HW).facts.2.1, (P1.later HW).facts.1, (P1.later HW).facts.2.1, (Bq.later HW).facts.1, (Bq.later HW).facts.2.1, (Br.later HW).facts.1, (Br.later HW).facts.2.1, (Bp.later HW).facts.1, (Bp.later HW).facts.2.1, (Bs.later HW).facts.1, (Bs.later HW).facts.2.1, (Bn.later HW).facts.1, (Bn.later HW).facts.2.1, (Bz.later HW).facts.1, (Bz.later HW).facts.2.1⟩
      clear hK K
      try simp only [Act.put, List.getElem_toArray, List.getElem_cons_succ, List.getElem_cons_zero, List.setIfInBounds_toArray, List.set_cons_zero, List.set_cons_succ]
      refine till_take (i := 41) (v := ?_) [42, 43, 44, 45, 46, 47] rfl (by kernel_rfl) (by kernel_rfl) (by kernel_rfl) (by kernel_rfl) (fun _ _ _ h => h) (Or.inl ⟨by rfl, ?_⟩) (by assumption) ?_
      rotate_left
      · (intro w hSw; (try dsimp only at hSw); go_simp; try with_reducible rfl)
      simp only [Act.put, List.getElem_toArray, List.getElem_cons_succ, List.getElem_cons_zero, List.setIfInBounds_toArray, List.set_cons_zero, List.set_cons_succ]
      refine till_take (i := 42) (v := ?_) [43, 44, 45, 46, 47] rfl (by kernel_rfl) (by kernel_rfl) (by kernel_rfl) (by kernel_rfl) (fun _ _ _ h => h) (Or.inl ⟨by rfl, ?_⟩) (by assumption) ?_
      rotate_left
      · (intro w hSw; (try dsimp only at hSw); go_simp; try with_reducible rfl)
      simp only [Act.put, List.getElem_toArray, List.getElem_cons_succ, List.getElem_cons_zero, List.setIfInBounds_toArray, List.set_cons_zero, List.set_cons_succ]
      refine till_take (i := 43) (v := ?_) [44, 45, 46, 47] rfl (by kernel_rfl) (by kernel_rfl) (by kernel_rfl) (by kernel_rfl) (fun _ _ _ h => h) (Or.inl ⟨by rfl, ?_⟩) (by assumption) ?_
      rotate_left
      · (intro w hSw; (try dsimp only at hSw); go_simp; try with_reducible rfl)
      simp only [Act.put, List.getElem_toArray, List.getElem_cons_succ, List.getElem_cons_zero, List.setIfInBounds_toArray, List.set_cons_zero, List.set_cons_succ]
      refine till_take (i := 44) (v := ?_) [45, 46, 47] rfl (by kernel_rfl) (by kernel_rfl) (by kernel_rfl) (by kernel_rfl) (fun _ _ _ h => h) (Or.inl ⟨by rfl, ?_⟩) (by assumption) ?_
      rotate_left
      · (intro w hSw; (try dsimp only at hSw); go_simp; try with_reducible rfl)
      simp only [Act.put, List.getElem_toArray, List.getElem_cons_succ, List.getElem_cons_zero, List.setIfInBounds_toArray, List.set_cons_zero, List.set_cons_succ]
      refine till_in (i := 45) (by kernel_rfl) rfl (fun K hK => ?_)
      go_simp
      refine (awake5_any _).mono ?_
      rintro e v308 ⟨rfl, hb9⟩
      replace HW := Below.step HW hb9
      clear hb9
      refine hK.out _ _ ?_ (fun hHeld => ?_)
      · exact ⟨(P0.later HW).facts.1, (P0.later HW).facts.2.1, (P1.later HW).facts.1, (P1.later HW).facts.2.1, (Bq.later HW).facts.1, (Bq.later HW).facts.2.1, (Br.later HW).facts.1, (Br.later HW).facts.2.1, (Bp.later HW).facts.1, (Bp.later HW).facts.2.1, (Bs.later HW).facts.1, (Bs.later HW).facts.2.1, (Bn.later HW).facts.1, (Bn.later HW).facts.2.1, (Bz.later HW).facts.1, (Bz.later HW).facts.2.1⟩
      clear hK K
      try simp only [Act.put, List.getElem_toArray, List.getElem_cons_succ, List.getElem_cons_zero, List.setIfInBounds_toArray, List.set_cons_zero, List.set_cons_succ]
      refine till_take (i := 46) (v := ?_) [47] rfl (by kernel_rfl) (by kernel_rfl) (by kernel_rfl) (by kernel_rfl) (fun _ _ _ h => h) (Or.inl ⟨by rfl, ?_⟩) (by assumption) ?_
      rotate_left
      · (intro w hSw; (try dsimp only at hSw); go_simp; try with_reducible rfl)
      simp only [Act.put, List.getElem_toArray, List.getElem_cons_succ, List.getElem_cons_zero, List.setIfInBounds_toArray, List.set_cons_zero, List.set_cons_succ]
      refine till_out (i := 47) (by kernel_rfl) rfl (by kernel_rfl) (fun K hK => ?_)
      go_simp
      refine hK.out _ _ ?_
      clear hK K
      try simp only [Act.put, List.getElem_toArray, List.getElem_cons_succ, List.getElem_cons_zero, List.setIfInBounds_toArray, List.set_cons_zero, List.set_cons_succ]
      refine till_done (by kernel_rfl) ?_ _
      go_wp2
      go_ret
      exact ⟨rfl, Below.step (unhide HB) HW⟩
    · have D := hide (show false = decide ((0 : Int) ∣ z0) from (decide_eq_false (fun e => hz0 (Int.zero_dvd.1 e))).symm)
      obtain ⟨s0, es0⟩ : ∃ s, s = z0.sign := ⟨_, rfl⟩
      have hs0 : (s0 == 0) = false := by rw [beq_eq_false_iff_ne, es0]; exact fun e => hz0 (Int.sign_eq_zero_iff_zero.1 e)
      have E := hide es0
      clear hz0 es0
      have HW : Below v8.heap.size v8 v8.drew := (Below.refl _ _).drew
      refine till_start (fun w' => w'.cell? ⟨w.heap.size, 0, none⟩ = some (.bool b0) ∧ w'.cell? ⟨w.heap.size, 1, none⟩ = some (.slice a0 len0 cap0) ∧ w'.cell? ⟨w.heap.size + 1, 0, none⟩ = some (.bool b1) ∧ w'.cell? ⟨w.heap.size + 1, 1, none⟩ = some (.slice a1 len1 cap1) ∧ w'.cell? ⟨v1.heap.size, 0, none⟩ = some (.bool false) ∧ w'.cell? ⟨v1.heap.size, 1, none⟩ = some (.slice none 0 0) ∧ w'.cell? ⟨v1.heap.size + 1, 0, none⟩ = some (.bool false) ∧ w'.cell? ⟨v1.heap.size + 1, 1, none⟩ = some (.slice none 0 0) ∧ w'.cell? ⟨v3.heap.size, 0, none⟩ = some (.bool false) ∧ w'.cell? ⟨v3.heap.size, 1, none⟩ = some (.slice none 0 0) ∧ w'.cell? ⟨v3.heap.size + 1, 0, none⟩ = some (.bool false) ∧ w'.cell? ⟨v3.heap.size + 1, 1, none⟩ = some (.slice none 0 0) ∧ w'.cell? ⟨v5.heap.size, 0, none⟩ = some (.bool false) ∧ w'.cell? ⟨v5.heap.size, 1, none⟩ = some (.slice none 0 0) ∧ w'.cell? ⟨v7.heap.size, 0, none⟩ = some (.bool false) ∧ w'.cell? ⟨v7.heap.size, 1, none⟩ = some (.slice none 0 0)) 47 (by kernel_rfl) ?_ (fun hHeld => ?_)
      · exact ⟨(P0.later HW).facts.1, (P0.later HW).facts.2.1, (P1.later HW).facts.1, (P1.later HW).facts.2.1, (Bq.later HW).facts.1, (Bq.later HW).facts.2.1, (Br.later HW).facts.1, (Br.later HW).facts.2.1, (Bp.later HW).facts.1, (Bp.later HW).facts.2.1, (Bs.later HW).facts.1, (Bs.later HW).facts.2.1, (Bn.later HW).facts.1, (Bn.later HW).facts.2.1, (Bz.later HW).facts.1, (Bz.later HW).facts.2.1⟩
      refine till_take (i := 0) (v := ?_) [1, 2, 3, 4, 5, 6, 7, 8, 9, 10, 11, 12, 13, 14, 15, 16, 17, 18, 19, 20, 21, 22, 23, 24, 25, 26, 27, 28, 29, 30, 31, 32, 33, 34, 35, 36, 37, 38, 39, 40, 41, 42, 43, 44, 45, 46, 47] rfl (by kernel_rfl) (by kernel_rfl) (by kernel_rfl) (by kernel_rfl) (fun _ _ _ h => h) (Or.inl ⟨by rfl, ?_⟩) (by assumption) ?_
      rotate_left
      · (intro w hSw; (try dsimp only at hSw); go_simp; try with_reducible rfl)
      simp only [Act.put, List.getElem_toArray, List.getElem_cons_zero, List.setIfInBounds_toArray, List.set_cons_zero, List.set_cons_succ]
      refine till_take (i := 1) (v := ?_) [2, 3, 4, 5, 6, 7, 8, 9, 10, 11, 12, 13, 14, 15, 16, 17, 18, 19, 20, 21, 22, 23, 24, 25, 26, 27, 28, 29, 30, 31, 32, 33, 34, 35, 36, 37, 38, 39, 40, 41, 42, 43, 44, 45, 46, 47] rfl (by kernel_rfl) (by kernel_rfl) (by kernel_rfl) (by kernel_rfl) (fun _ _ _ h => h) (Or.inl ⟨by rfl, ?_⟩) (by assumption) ?_
      rotate_left
      · (intro w hSw; (try dsimp only at hSw); go_simp; try with_reducible rfl)
      simp only [Act.put, List.getElem_toArray, List.getElem_cons_succ, List.getElem_cons_zero, List.setIfInBounds_toArray, List.set_cons_zero, List.set_cons_succ]
      refine till_take (i := 2) (v := ?_) [3, 4, 5, 6, 7, 8, 9, 10, 11, 12, 13, 14, 15, 16, 17, 18, 19, 20, 21, 22, 23, 24, 25, 26, 27, 28, 29, 30, 31, 32, 33, 34, 35, 36, 37, 38, 39, 40, 41, 42, 43, 44, 45, 46, 47] rfl (by kernel_rfl) (by kernel_rfl) (by kernel_rfl) (by kernel_rfl) (fun _ _ _ h => h) (Or.inl ⟨by rfl, ?_⟩) (by assumption) ?_
      rotate_left
      · (intro w hSw; (try dsimp only at hSw); go_simp; try with_reducible rfl)
      simp only [Act.put, List.getElem_toArray, List.getElem_cons_succ, List.getElem_cons_zero, List.setIfInBounds_toArray, List.set_cons_zero, List.set_cons_succ]
      refine till_take (i := 3) (v := ?_) [4, 5, 6, 7, 8, 9, 10, 11, 12, 13, 14, 15, 16, 17, 18, 19, 20, 21, 22, 23, 24, 25, 26, 27, 28, 29, 30, 31, 32, 33, 34, 35, 36, 37, 38, 39, 40, 41, 42, 43, 44, 45, 46, 47] rfl (by kernel_rfl) (by kernel_rfl) (by kernel_rfl) (by kernel_rfl) (fun _ _ _ h => h) (Or.inl ⟨by rfl, ?_⟩) (by assumption) ?_
      rotate_left
      · (intro w hSw; (try dsimp only at hSw); go_simp; try with_reducible rfl)
      simp only [Act.put, List.getElem_toArray, List.getElem_cons_succ, List.getElem_cons_zero, List.setIfInBounds_toArray, List.set_cons_zero, List.set_cons_succ]
      refine till_take (i := 4) (v := ?_) [5, 6, 7, 8, 9, 10, 11, 12, 13, 14, 15, 16, 17, 18, 19, 20, 21, 22, 23, 24, 25, 26, 27, 28, 29, 30, 31, 32, 33, 34, 35, 36, 37, 38, 39, 40, 41, 42, 43, 44, 45, 46, 47] rfl (by kernel_rfl) (by kernel_rfl) (by kernel_rfl) (by kernel_rfl) (fun _ _ _ h => h) (Or.inl ⟨by rfl, ?_⟩) (by assumption) ?_
      rotate_left
      · (intro w hSw; (try dsimp only at hSw); go_simp; try with_reducible rfl)
      simp only [Act.put, List.getElem_toArray, List.getElem_cons_succ, List.getElem_cons_zero, List.setIfInBounds_toArray, List.set_cons_zero, List.set_cons_succ]
      refine till_take (i := 5) (v := ?_) [6, 7, 8, 9, 10, 11, 12, 13, 14, 15, 16, 17, 18, 19, 20, 21, 22, 23, 24, 25, 26, 27, 28, 29, 30, 31, 32, 33, 34, 35, 36, 37, 38, 39, 40, 41, 42, 43, 44, 45, 46, 47] rfl (by kernel_rfl) (by kernel_rfl) (by kernel_rfl) (by kernel_rfl) (fun _ _ _ h => h) (Or.inl ⟨by rfl, ?_⟩) (by assumption) ?_
      rotate_left
      · (intro w hSw; (try dsimp only at hSw); go_simp; try with_reducible rfl)
      simp only [Act.put, List.getElem_toArray, List.getElem_cons_succ, List.getElem_cons_zero, List.setIfInBounds_toArray, List.set_cons_zero, List.set_cons_succ]
      refine till_take (i := 6) (v := ?_) [7, 8, 9, 10, 11, 12, 13, 14, 15, 16, 17, 18, 19, 20, 21, 22, 23, 24, 25, 26, 27, 28, 29, 30, 31, 32, 33, 34, 35, 36, 37, 38, 39, 40, 41, 42, 43, 44, 45, 46, 47] rfl (by kernel_rfl) (by kernel_rfl) (by kernel_rfl) (by kernel_rfl) (fun _ _ _ h => h) (Or.inl ⟨by rfl, ?_⟩) (by assumption) ?_
      rotate_left
      · (intro w hSw; (try dsimp only at hSw); go_simp; try with_reducible rfl)
      simp only [Act.put, List.getElem_toArray, List.getElem_cons_succ, List.getElem_cons_zero, List.setIfInBounds_toArray, List.set_cons_zero, List.set_cons_succ]
      refine till_take (i := 7) (v := ?_) [8, 9, 10, 11, 12, 13, 14, 15, 16, 17, 18, 19, 20, 21, 22, 23, 24, 25, 26, 27, 28, 29, 30, 31, 32, 33, 34, 35, 36, 37, 38, 39, 40, 41, 42, 43, 44, 45, 46, 47] rfl (by kernel_rfl) (by kernel_rfl) (by kernel_rfl) (by kernel_rfl) (fun _ _ _ h => h) (Or.inl ⟨by rfl, ?_⟩) (by assumption) ?_
      rotate_left
      · (intro w hSw; (try dsimp only at hSw); go_simp; try with_reducible rfl)
      simp only [Act.put, List.getElem_toArray, List.getElem_cons_succ, List.getElem_cons_zero, List.setIfInBounds_toArray, List.set_cons_zero, List.set_cons_succ]
      refine till_take (i := 8) (v := ?_) [9, 10, 11, 12, 13, 14, 15, 16, 17, 18, 19, 20, 21, 22, 23, 24, 25, 26, 27, 28, 29, 30, 31, 32, 33, 34, 35, 36, 37, 38, 39, 40, 41, 42, 43, 44, 45, 46, 47] rfl (by kernel_rfl) (by kernel_rfl) (by kernel_rfl) (by kernel_rfl) (fun _ _ _ h => h) (Or.inl ⟨by rfl, ?_⟩) (by assumption) ?_
      rotate_left
      · (intro w hSw; (try dsimp only at hSw); go_simp; try with_reducible rfl)
      simp only [Act.put, List.getElem_toArray, List.getElem_cons_succ, List.getElem_cons_zero, List.setIfInBounds_toArray, List.set_cons_zero, List.set_cons_succ]
      refine till_take (i := 9) (v := ?_) [10, 11, 12, 13, 14, 15, 16, 17, 18, 19, 20, 21, 22, 23, 24, 25, 26, 27, 28, 29, 30, 31, 32, 33, 34, 35, 36, 37, 38, 39, 40, 41, 42, 43, 44, 45, 46, 47] rfl (by kernel_rfl) (by kernel_rfl) (by kernel_rfl) (by kernel_rfl) (fun _ _ _ h => h) (Or.inl ⟨by rfl, ?_⟩) (by assumption) ?_
      rotate_left
      · (intro w hSw; (try dsimp only at hSw); go_simp; try with_reducible rfl)
      simp only [Act.put, List.getElem_toArray, List.getElem_cons_succ, List.getElem_cons_zero, List.setIfInBounds_toArray, List.set_cons_zero, List.set_cons_succ]
      refine till_take (i := 10) (v := ?_) [11, 12, 13, 14, 15, 16, 17, 18, 19, 20, 21, 22, 23, 24, 25, 26, 27, 28, 29, 30, 31, 32, 33, 34, 35, 36, 37, 38, 39, 40, 41, 42, 43, 44, 45, 46, 47] rfl (by kernel_rfl) (by kernel_rfl) (by kernel_rfl) (by kernel_rfl) (fun _ _ _ h => h) (Or.inl ⟨by rfl, ?_⟩) (by assumption) ?_
      rotate_left
      · (intro w hSw; (try dsimp only at hSw); go_simp; try with_reducible rfl)
      simp only [Act.put, List.getElem_toArray, List.getElem_cons_succ, List.getElem_cons_zero, List.setIfInBounds_toArray, List.set_cons_zero, List.set_cons_succ]
      refine till_take (i := 11) (v := ?_) [13, 14, 15, 16, 17, 18, 19, 20, 21, 22, 23, 24, 25, 26, 27, 28, 29, 30, 31, 32, 33, 34, 35, 36, 37, 38, 39, 40, 41, 42, 43, 44, 45, 46, 47] rfl (by kernel_rfl) (by kernel_rfl) (by kernel_rfl) (by kernel_rfl) (fun _ _ _ h => h) (Or.inl ⟨by rfl, ?_⟩) (by assumption) ?_
      rotate_left
      · (intro w hSw; (try dsimp only at hSw); go_simp; try with_reducible rfl)
      simp only [Act.put, List.getElem_toArray, List.getElem_cons_succ, List.getElem_cons_zero, List.setIfInBounds_toArray, List.set_cons_zero, List.set_cons_succ]
      refine till_take (i := 12) (v := ?_) [13, 14, 15, 16, 17, 18, 19, 20, 21, 22, 23, 24, 25, 26, 27, 28, 29, 30, 31, 32, 33, 34, 35, 36, 37, 38, 39, 40, 41, 42, 43, 44, 45, 46, 47] rfl (by kernel_rfl) (by kernel_rfl) (by kernel_rfl) (by kernel_rfl) (fun _ _ _ h => h) (Or.inl ⟨by rfl, ?_⟩) (by assumption) ?_
      rotate_left
      · (intro w hSw; (try dsimp only at hSw); go_simp; try with_reducible rfl)
      simp only [Act.put, List.getElem_toArray, List.getElem_cons_succ, List.getElem_cons_zero, List.setIfInBounds_toArray, List.set_cons_zero, List.set_cons_succ]
      refine till_in (i := 13) (by kernel_rfl) rfl (fun K hK => ?_)
      go_simp
      refine (rsameK false none 0 0 0 1 false none 0 0 0 1 _ (fk_zero _) (fk_zero _) rfl).mono ?_
      rintro e v301 ⟨rfl, hb9⟩
      replace HW := Below.step HW hb9
      clear hb9
      refine hK.out _ _ ?_ (fun hHeld => ?_)
      · exact ⟨(P0.later HW).facts.1, (P0.later HW).facts.2.1, (P1.later HW).facts.1, (P1.later HW).facts.2.1, (Bq.later HW).facts.1, (Bq.later HW).facts.2.1, (Br.later HW).facts.1, (Br.later HW).facts.2.1, (Bp.later HW).facts.1, (Bp.later HW).facts.2.1, (Bs.later HW).facts.1, (Bs.later HW).facts.2.1, (Bn.later HW).facts.1, (Bn.later HW).facts.2.1, (Bz.later HW).facts.1, (Bz.later HW).facts.2.1⟩
      clear hK K
      try simp only [Act.put, List.getElem_toArray, List.getElem_cons_succ, List.getElem_cons_zero, List.setIfInBounds_toArray, List.set_cons_zero, List.set_cons_succ]
      refine till_take (i := 14) (v := ?_) [15, 16, 17, 18, 19, 20, 21, 22, 23, 24, 25, 26, 27, 28, 29, 30, 31, 32, 33, 34, 35, 36, 37, 38, 39, 40, 41, 42, 43, 44, 45, 46, 47] rfl (by kernel_rfl) (by kernel_rfl) (by kernel_rfl) (by kernel_rfl) (fun _ _ _ h => h) (Or.inl ⟨by rfl, ?_⟩) (by assumption) ?_
      rotate_left
      · (intro w hSw; (try dsimp only at hSw); go_simp; try with_reducible rfl)
      simp only [Act.put, List.getElem_toArray, List.getElem_cons_succ, List.getElem_cons_zero, List.setIfInBounds_toArray, List.set_cons_zero, List.set_cons_succ]
      refine till_take (i := 15) (v := ?_) [16, 17, 18, 19, 20, 21, 22, 23, 24, 25, 26, 27, 28, 29, 30, 31, 32, 33, 34, 35, 36, 37, 38, 39, 40, 41, 42, 43, 44, 45, 46, 47] rfl (by kernel_rfl) (by kernel_rfl) (by kernel_rfl) (by kernel_rfl) (fun _ _ _ h => h) (Or.inl ⟨by rfl, ?_⟩) (by assumption) ?_
      rotate_left
      · (intro w hSw; (try dsimp only at hSw); go_simp; try with_reducible rfl)
      simp only [Act.put, List.getElem_toArray, List.getElem_cons_succ, List.getElem_cons_zero, List.setIfInBounds_toArray, List.set_cons_zero, List.set_cons_succ]
      refine till_take (i := 16) (v := ?_) [18, 19, 20, 21, 22, 23, 24, 25, 26, 27, 28, 29, 30, 31, 32, 33, 34, 35, 36, 37, 38, 39, 40, 41, 42, 43, 44, 45, 46, 47] rfl (by kernel_rfl) (by kernel_rfl) (by kernel_rfl) (by kernel_rfl) (fun _ _ _ h => h) (Or.inl ⟨by rfl, ?_⟩) (by assumption) ?_
      rotate_left
      · (intro w hSw; (try dsimp only at hSw); go_simp; try with_reducible rfl)
      simp only [Act.put, List.getElem_toArray, List.getElem_cons_succ, List.getElem_cons_zero, List.setIfInBounds_toArray, List.set_cons_zero, List.set_cons_succ]
      refine till_take (i := 17) (v := ?_) [18, 19, 20, 21, 22, 23, 24, 25, 26, 27, 28, 29, 30, 31, 32, 33, 34, 35, 36, 37, 38, 39, 40, 41, 42, 43, 44, 45, 46, 47] rfl (by kernel_rfl) (by kernel_rfl) (by kernel_rfl) (by kernel_rfl) (fun _ _ _ h => h) (Or.inl ⟨by rfl, ?_⟩) (by assumption) ?_
      rotate_left
      · (intro w hSw; (try dsimp only at hSw); go_simp; try with_reducible rfl)
      simp only [Act.put, List.getElem_toArray, List.getElem_cons_succ, List.getElem_cons_zero, List.setIfInBounds_toArray, List.set_cons_zero, List.set_cons_succ]
      refine till_in (i := 18) (by kernel_rfl) rfl (fun K hK => ?_)
      go_simp
      refine (rsameK false none 0 0 0 1 false none 0 0 0 1 _ (fk_zero _) (fk_zero _) rfl).mono ?_
      rintro e v302 ⟨rfl, hb9⟩
      replace HW := Below.step HW hb9
      clear hb9
      refine hK.out _ _ ?_ (fun hHeld => ?_)
      · exact ⟨(P0.later HW).facts.1, (P0.later HW).facts.2.1, (P1.later HW).facts.1, (P1.later HW).facts.2.1, (Bq.later HW).facts.1, (Bq.later HW).facts.2.1, (Br.later HW).facts.1, (Br.later HW).facts.2.1, (Bp.later HW).facts.1, (Bp.later HW).facts.2.1, (Bs.later HW).facts.1, (Bs.later HW).facts.2.1, (Bn.later HW).facts.1, (Bn.later HW).facts.2.1, (Bz.later HW).facts.1, (Bz.later HW).facts.2.1⟩
      clear hK K
      try simp only [Act.put, List.getElem_toArray, List.getElem_cons_succ, List.getElem_cons_zero, List.setIfInBounds_toArray, List.set_cons_zero, List.set_cons_succ]
      refine till_take (i := 19) (v := ?_) [20, 21, 22, 23, 24, 25, 26, 27, 28, 29, 30, 31, 32, 33, 34, 35, 36, 37, 38, 39, 40, 41, 42, 43, 44, 45, 46, 47] rfl (by kernel_rfl) (by kernel_rfl) (by kernel_rfl) (by kernel_rfl) (fun _ _ _ h => h) (Or.inl ⟨by rfl, ?_⟩) (by assumption) ?_
      rotate_left
      · (intro w hSw; (try dsimp only at hSw); go_simp; try with_reducible rfl)
      simp only [Act.put, List.getElem_toArray, List.getElem_cons_succ, List.getElem_cons_zero, List.setIfInBounds_toArray, List.set_cons_zero, List.set_cons_succ]
      refine till_take (i := 20) (v := ?_) [21, 22, 23, 24, 25, 26, 27, 28, 29, 30, 31, 32, 33, 34, 35, 36, 37, 38, 39, 40, 41, 42, 43, 44, 45, 46, 47] rfl (by kernel_rfl) (by kernel_rfl) (by kernel_rfl) (by kernel_rfl) (fun _ _ _ h => h) (Or.inl ⟨by rfl, ?_⟩) (by assumption) ?_
      rotate_left
      · (intro w hSw; (try dsimp only at hSw); go_simp; try with_reducible rfl)
      simp only [Act.put, List.getElem_toArray, List.getElem_cons_succ, List.getElem_cons_zero, List.setIfInBounds_toArray, List.set_cons_zero, List.set_cons_succ]
      refine till_take (i := 21) (v := ?_) [23, 24, 25, 26, 27, 28, 29, 30, 31, 32, 33, 34, 35, 36, 37, 38, 39, 40, 41, 42, 43, 44, 45, 46, 47] rfl (by kernel_rfl) (by kernel_rfl) (by kernel_rfl) (by kernel_rfl) (fun _ _ _ h => h) (Or.inl ⟨by rfl, ?_⟩) (by assumption) ?_
      rotate_left
      · (intro w hSw; (try dsimp only at hSw); go_simp; try with_reducible rfl)
      simp only [Act.put, List.getElem_toArray, List.getElem_cons_succ, List.getElem_cons_zero, List.setIfInBounds_toArray, List.set_cons_zero, List.set_cons_succ]
      refine till_take (i := 22) (v := ?_) [23, 24, 25, 26, 27, 28, 29, 30, 31, 32, 33, 34, 35, 36, 37, 38, 39, 40, 41, 42, 43, 44, 45, 46, 47] rfl (by kernel_rfl) (by kernel_rfl) (by kernel_rfl) (by kernel_rfl) (fun _ _ _ h => h) (Or.inl ⟨by rfl, ?_⟩) (by assumption) ?_
      rotate_left
      · (intro w hSw; (try dsimp only at hSw); go_simp; try with_reducible rfl)
      simp only [Act.put, List.getElem_toArray, List.getElem_cons_succ, List.getElem_cons_zero, List.setIfInBounds_toArray, List.set_cons_zero, List.set_cons_succ]
      refine till_in (i := 23) (by kernel_rfl) rfl (fun K hK => ?_)
      go_simp
      refine (rsameK false none 0 0 0 1 false none 0 0 0 1 _ (fk_zero _) (fk_zero _) rfl).mono ?_
      rintro e v303 ⟨rfl, hb9⟩
      replace HW := Below.step HW hb9
      clear hb9
      refine hK.out _ _ ?_ (fun hHeld => ?_)
      · exact ⟨(P0.later HW).facts.1, (P0.later HW).facts.2.1, (P1.later HW).facts.1, (P1.later HW).facts.2.1, (Bq.later HW).facts.1, (Bq.later HW).facts.2.1, (Br.later HW).facts.1, (Br.later HW).facts.2.1, (Bp.later HW).facts.1, (Bp.later HW).facts.2.1, (Bs.later HW).facts.1, (Bs.later HW).facts.2.1, (Bn.later HW).facts.1, (Bn.later HW).facts.2.1, (Bz.later HW).facts.1, (Bz.later HW).facts.2.1⟩
      clear hK K
      try simp only [Act.put, List.getElem_toArray, List.getElem_cons_succ, List.getElem_cons_zero, List.setIfInBounds_toArray, List.set_cons_zero, List.set_cons_succ]
      refine till_take (i := 24) (v := ?_) [25, 26, 27, 28, 29, 30, 31, 32, 33, 34, 35, 36, 37, 38, 39, 40, 41, 42, 43, 44, 45, 46, 47] rfl (by kernel_rfl) (by kernel_rfl) (by kernel_rfl) (by kernel_rfl) (fun _ _ _ h => h) (Or.inl ⟨by rfl, ?_⟩) (by assumption) ?_
      rotate_left
      · (intro w hSw; (try dsimp only at hSw); go_simp; try with_reducible rfl)
      simp only [Act.put, List.getElem_toArray, List.getElem_cons_succ, List.getElem_cons_zero, List.setIfInBounds_toArray, List.set_cons_zero, List.set_cons_succ]
      refine till_take (i := 25) (v := ?_) [26, 27, 28, 29, 30, 31, 32, 33, 34, 35, 36, 37, 38, 39, 40, 41, 42, 43, 44, 45, 46, 47] rfl (by kernel_rfl) (by kernel_rfl) (by kernel_rfl) (by kernel_rfl) (fun _ _ _ h => h) (Or.inl ⟨by rfl, ?_⟩) (by assumption) ?_
      rotate_left
      · (intro w hSw; (try dsimp only at hSw); go_simp; try with_reducible rfl)
      simp only [Act.put, List.getElem_toArray, List.getElem_cons_succ, List.getElem_cons_zero, List.setIfInBounds_toArray, List.set_cons_zero, List.set_cons_succ]
      refine till_take (i := 26) (v := ?_) [28, 29, 30, 31, 32, 33, 34, 35, 36, 37, 38, 39, 40, 41, 42, 43, 44, 45, 46, 47] rfl (by kernel_rfl) (by kernel_rfl) (by kernel_rfl) (by kernel_rfl) (fun _ _ _ h => h) (Or.inl ⟨by rfl, ?_⟩) (by assumption) ?_
      rotate_left
      · (intro w hSw; (try dsimp only at hSw); go_simp; try with_reducible rfl)
      simp only [Act.put, List.getElem_toArray, List.getElem_cons_succ, List.getElem_cons_zero, List.setIfInBounds_toArray, List.set_cons_zero, List.set_cons_succ]
      refine till_take (i := 27) (v := ?_) [28, 29, 30, 31, 32, 33, 34, 35, 36, 37, 38, 39, 40, 41, 42, 43, 44, 45, 46, 47] rfl (by kernel_rfl) (by kernel_rfl) (by kernel_rfl) (by kernel_rfl) (fun _ _ _ h => h) (Or.inl ⟨by rfl, ?_⟩) (by assumption) ?_
      rotate_left
      · (intro w hSw; (try dsimp only at hSw); go_simp; try with_reducible rfl)
      simp only [Act.put, List.getElem_toArray, List.getElem_cons_succ, List.getElem_cons_zero, List.setIfInBounds_toArray, List.set_cons_zero, List.set_cons_succ]
      refine till_in (i := 28) (by kernel_rfl) rfl (fun K hK => ?_)
      go_simp
      refine (rsameK false none 0 0 0 1 false none 0 0 0 1 _ (fk_zero _) (fk_zero _) rfl).mono ?_
      rintro e v304 ⟨rfl, hb9⟩
      replace HW := Below.step HW hb9
      clear hb9
      refine hK.out _ _ ?_ (fun hHeld => ?_)
      · exact ⟨(P0.later HW).facts.1, (P0.later HW).facts.2.1, (P1.later HW).facts.1, (P1.later HW).facts.2.1, (Bq.later HW).facts.1, (Bq.later HW).facts.2.1, (Br.later HW).facts.1, (Br.later HW).facts.2.1, (Bp.later HW).facts.1, (Bp.later HW).facts.2.1, (Bs.later HW).facts.1, (Bs.later HW).facts.2.1, (Bn.later HW).facts.1, (Bn.later HW).facts.2.1, (Bz.later HW).facts.1, (Bz.later HW).facts.2.1⟩
      clear hK K
      try simp only [Act.put, List.getElem_toArray, List.getElem_cons_succ, List.getElem_cons_zero, List.setIfInBounds_toArray, List.set_cons_zero, List.set_cons_succ]
      refine till_take (i := 29) (v := ?_) [30, 31, 32, 33, 34, 35, 36, 37, 38, 39, 40, 41, 42, 43, 44, 45, 46, 47] rfl (by kernel_rfl) (by kernel_rfl) (by kernel_rfl) (by kernel_rfl) (fun _ _ _ h => h) (Or.inl ⟨by rfl, ?_⟩) (by assumption) ?_
      rotate_left
      · (intro w hSw; (try dsimp only at hSw); go_simp; try with_reducible rfl)
      simp only [Act.put, List.getElem_toArray, List.getElem_cons_succ, List.getElem_cons_zero, List.setIfInBounds_toArray, List.set_cons_zero, List.set_cons_succ]
      refine till_take (i := 30) (v := ?_) [31, 32, 33, 34, 35, 36, 37, 38, 39, 40, 41, 42, 43, 44, 45, 46, 47] rfl (by kernel_rfl) (by kernel_rfl) (by kernel_rfl) (by kernel_rfl) (fun _ _ _ h => h) (Or.inl ⟨by rfl, ?_⟩) (by assumption) ?_
      rotate_left
      · (intro w hSw; (try dsimp only at hSw); go_simp; try with_reducible rfl)
      simp only [Act.put, List.getElem_toArray, List.getElem_cons_succ, List.getElem_cons_zero, List.setIfInBounds_toArray, List.set_cons_zero, List.set_cons_succ]
      refine till_take (i := 31) (v := ?_) [33, 34, 35, 36, 37, 38, 39, 40, 41, 42, 43, 44, 45, 46, 47] rfl (by kernel_rfl) (by kernel_rfl) (by kernel_rfl) (by kernel_rfl) (fun _ _ _ h => h) (Or.inl ⟨by rfl, ?_⟩) (by assumption) ?_
      rotate_left
      · (intro w hSw; (try dsimp only at hSw); go_simp; try with_reducible rfl)
      simp only [Act.put, List.getElem_toArray, List.getElem_cons_succ, List.getElem_cons_zero, List.setIfInBounds_toArray, List.set_cons_zero, List.set_cons_succ]
      refine till_take (i := 32) (v := ?_) [33, 34, 35, 36, 37, 38, 39, 40, 41, 42, 43, 44, 45, 46, 47] rfl (by kernel_rfl) (by kernel_rfl) (by kernel_rfl) (by kernel_rfl) (fun _ _ _ h => h) (Or.inl ⟨by rfl, ?_⟩) (by assumption) ?_
      rotate_left
      · (intro w hSw; (try dsimp only at hSw); go_simp; try with_reducible rfl)
      simp only [Act.put, List.getElem_toArray, List.getElem_cons_succ, List.getElem_cons_zero, List.setIfInBounds_toArray, List.set_cons_zero, List.set_cons_succ]
      refine till_in (i := 33) (by kernel_rfl) rfl (fun K hK => ?_)
      go_simp
      refine (rsameK false none 0 0 0 1 false none 0 0 0 1 _ (fk_zero _) (fk_zero _) rfl).mono ?_
      rintro e v305 ⟨rfl, hb9⟩
      replace HW := Below.step HW hb9
      clear hb9
      refine hK.out _ _ ?_ (fun hHeld => ?_)
      · exact ⟨(P0.later HW).facts.1, (P0.later HW).facts.2.1, (P1.later HW).facts.1, (P1.later HW).facts.2.1, (Bq.later HW).facts.1, (Bq.later HW).facts.2.1, (Br.later HW).facts.1, (Br.later HW).facts.2.1, (Bp.later HW).facts.1, (Bp.later HW).facts.2.1, (Bs.later HW).facts.1, (Bs.later HW).facts.2.1, (Bn.later HW).facts.1, (Bn.later HW).facts.2.1, (Bz.later HW).facts.1, (Bz.later HW).facts.2.1⟩
      clear hK K
      try simp only [Act.put, List.getElem_toArray, List.getElem_cons_succ, List.getElem_cons_zero, List.setIfInBounds_toArray, List.set_cons_zero, List.set_cons_succ]
      refine till_take (i := 34) (v := ?_) [35, 36, 37, 38, 39, 40, 41, 42, 43, 44, 45, 46, 47] rfl (by kernel_rfl) (by kernel_rfl) (by kernel_rfl) (by kernel_rfl) (fun _ _ _ h => h) (Or.inl ⟨by rfl, ?_⟩) (by assumption) ?_
      rotate_left
      · (intro w hSw; (try dsimp only at hSw); go_simp; try with_reducible rfl)
      simp only [Act.put, List.getElem_toArray, List.getElem_cons_succ, List.getElem_cons_zero, List.setIfInBounds_toArray, List.set_cons_zero, List.set_cons_succ]
      refine till_take (i := 35) (v := ?_) [36, 37, 38, 39, 40, 41, 42, 43, 44, 45, 46, 47] rfl (by kernel_rfl) (by kernel_rfl) (by kernel_rfl) (by kernel_rfl) (fun _ _ _ h => h) (Or.inl ⟨by rfl, ?_⟩) (by assumption) ?_
      rotate_left
      · (intro w hSw; (try dsimp only at hSw); go_simp; try with_reducible rfl)
      simp only [Act.put, List.getElem_toArray, List.getElem_cons_succ, List.getElem_cons_zero, List.setIfInBounds_toArray, List.set_cons_zero, List.set_cons_succ]
      refine till_take (i := 36) (v := ?_) [38, 40, 41, 42, 43, 44, 45, 46, 47] rfl (by kernel_rfl) (by kernel_rfl) (by kernel_rfl) (by kernel_rfl) (fun _ _ _ h => h) (Or.inl ⟨by rfl, ?_⟩) (by assumption) ?_
      rotate_left
      · (intro w hSw; (try dsimp only at hSw); go_simp; try with_reducible rfl)
      simp only [Act.put, List.getElem_toArray, List.getElem_cons_succ, List.getElem_cons_zero, List.setIfInBounds_toArray, List.set_cons_zero, List.set_cons_succ]
      refine till_take (i := 37) (v := ?_) [38, 40, 41, 42, 43, 44, 45, 46, 47] rfl (by kernel_rfl) (by kernel_rfl) (by kernel_rfl) (by kernel_rfl) (fun _ _ _ h => h) (Or.inl ⟨by rfl, ?_⟩) (by assumption) ?_
      rotate_left
      · (intro w hSw; (try dsimp only at hSw); go_simp; try with_reducible rfl)
      simp only [Act.put, List.getElem_toArray, List.getElem_cons_succ, List.getElem_cons_zero, List.setIfInBounds_toArray, List.set_cons_zero, List.set_cons_succ]
      refine till_take (i := 39) (v := ?_) [40, 41, 42, 43, 44, 45, 46, 47] rfl (by kernel_rfl) (by kernel_rfl) (by kernel_rfl) (by kernel_rfl) (fun _ _ _ h => h) (Or.inl ⟨by rfl, ?_⟩) (by assumption) ?_
      rotate_left
      · (intro w hSw; (try dsimp only at hSw); go_simp; try with_reducible rfl)
      simp only [Act.put, List.getElem_toArray, List.getElem_cons_succ, List.getElem_cons_zero, List.setIfInBounds_toArray, List.set_cons_zero, List.set_cons_succ]
      refine till_in (i := 38) (by kernel_rfl) rfl (fun K hK => ?_)
      go_simp
      refine (dividesK b1 a1 len1 cap1 0 20 b0 a0 len0 cap0 z0 20 false _ (h1.later HW) (h0.later HW) (unhide D)).mono ?_
      rintro e v306 ⟨rfl, hb9⟩
      replace HW := Below.step HW hb9
      clear hb9
      refine hK.out _ _ ?_ (fun hHeld => ?_)
      · exact ⟨(P0.later HW).facts.1, (P0.later HW).facts.2.1, (P1.later HW).facts.1, (P1.later HW).facts.2.1, (Bq.later HW).facts.1, (Bq.later HW).facts.2.1, (Br.later HW).facts.1, (Br.later HW).facts.2.1, (Bp.later HW).facts.1, (Bp.later HW).facts.2.1, (Bs.later HW).facts.1, (Bs.later HW).facts.2.1, (Bn.later HW).facts.1, (Bn.later HW).facts.2.1, (Bz.later HW).facts.1, (Bz.later HW).facts.2.1⟩
      clear hK K
      try simp only [Act.put, List.getElem_toArray, List.getElem_cons_succ, List.getElem_cons_zero, List.setIfInBounds_toArray, List.set_cons_zero, List.set_cons_succ]
      refine till_in (i := 40) (by kernel_rfl) rfl (fun K hK => ?_)
      go_simp
      refine (rsignK b0 a0 len0 cap0 z0 20 s0 _ (h0.later HW) (unhide E)).mono ?_
      rintro e v307 ⟨rfl, hb9⟩
      replace HW := Below.step HW hb9
      clear hb9
      refine hK.out _ _ ?_ (fun hHeld => ?_)
      · exact ⟨(P0.later HW).facts.1, (P0.later HW).facts.2.1, (P1.later HW).facts.1, (P1.later HW).facts.2.1, (Bq.later HW).facts.1, (Bq.later HW).facts.2.1, (Br.later HW).facts.1, (Br.later HW).facts.2.1, (Bp.later HW).facts.1, (Bp.later HW).facts.2.1, (Bs.later HW).facts.1, (Bs.later HW).facts.2.1, (Bn.later HW).facts.1, (Bn.later HW).facts.2.1, (Bz.later HW).facts.1, (Bz.later HW).facts.2.1⟩
      clear hK K
      try simp only [Act.put, List.getElem_toArray, List.getElem_cons_succ, List.getElem_cons_zero, List.setIfInBounds_toArray, List.set_cons_zero, List.set_cons_succ]
      refine till_take (i := 41) (v := ?_) [42, 43, 44, 45, 46, 47] rfl (by kernel_rfl) (by kernel_rfl) (by kernel_rfl) (by kernel_rfl) (fun _ _ _ h => h) (Or.inl ⟨by rfl, ?_⟩) (by assumption) ?_
      rotate_left
      · (intro w hSw; (try dsimp only at hSw); go_simp; try with_reducible rfl)
      simp only [Act.put, List.getElem_toArray, List.getElem_cons_succ, List.getElem_cons_zero, List.setIfInBounds_toArray, List.set_cons_zero, List.set_cons_succ]
      refine till_take (i := 42) (v := ?_) [43, 44, 45, 46, 47] rfl (by kernel_rfl) (by kernel_rfl) (by kernel_rfl) (by kernel_rfl) (fun _ _ _ h => h) (Or.inl ⟨by rfl, ?_⟩) (by assumption) ?_
      rotate_left
      · (intro w hSw; (try dsimp only at hSw); go_simp; try with_reducible rfl)
      simp only [Act.put, List.getElem_toArray, List.getElem_cons_succ, List.getElem_cons_zero, List.setIfInBounds_toArray, List.set_cons_zero, List.set_cons_succ]
      refine till_take (i := 43) (v := ?_) [44, 45, 46, 47] rfl (by kernel_rfl) (by kernel_rfl) (by kernel_rfl) (by kernel_rfl) (fun _ _ _ h => h) (Or.inl ⟨by rfl, ?_⟩) (by assumption) ?_
      rotate_left
      · (intro w hSw; (try dsimp only at hSw); go_simp; try with_reducible rfl)
      simp only [Act.put, List.getElem_toArray, List.getElem_cons_succ, List.getElem_cons_zero, List.setIfInBounds_toArray, List.set_cons_zero, List.set_cons_succ]
      refine till_take (i := 44) (v := ?_) [45, 46, 47] rfl (by kernel_rfl) (by kernel_rfl) (by kernel_rfl) (by kernel_rfl) (fun _ _ _ h => h) (Or.inl ⟨by rfl, ?_⟩) (by assumption) ?_
      rotate_left
      · (intro w hSw; (try dsimp only at hSw); go_simp; try with_reducible rfl)
      simp only [Act.put, List.getElem_toArray, List.getElem_cons_succ, List.getElem_cons_zero, List.setIfInBounds_toArray, List.set_cons_zero, List.set_cons_succ]
      refine till_in (i := 45) (by kernel_rfl) rfl (fun K hK => ?_)
      go_simp
      refine (awake5_any _).mono ?_
      rintro e v308 ⟨rfl, hb9⟩
      replace HW := Below.step HW hb9
      clear hb9
      refine hK.out _ _ ?_ (fun hHeld => ?_)
      · exact ⟨(P0.later HW).facts.1, (P0.later HW).facts.2.1, (P1.later HW).facts.1, (P1.later HW).facts.2.1, (Bq.later HW).facts.1, (Bq.later HW).facts.2.1, (Br.later HW).facts.1, (Br.later HW).facts.2.1, (Bp.later HW).facts.1, (Bp.later HW).facts.2.1, (Bs.later HW).facts.1, (Bs.later HW).facts.2.1, (Bn.later HW).facts.1, (Bn.later HW).facts.2.1, (Bz.later HW).facts.1, (Bz.later HW).facts.2.1⟩
      clear hK K
      try simp only [Act.put, List.getElem_toArray, List.getElem_cons_succ, List.getElem_cons_zero, List.setIfInBounds_toArray, List.set_cons_zero, List.set_cons_succ]
      refine till_take (i := 46) (v := ?_) [47] rfl (by kernel_rfl) (by kernel_rfl) (by kernel_rfl) (by kernel_rfl) (fun _ _ _ h => h) (Or.inl ⟨by rfl, ?_⟩) (by assumption) ?_
      rotate_left
      · (intro w hSw; (try dsimp only at hSw); go_simp; try with_reducible rfl)
      simp only [Act.put, List.getElem_toArray, List.getElem_cons_succ, List.getElem_cons_zero, List.setIfInBounds_toArray, List.set_cons_zero, List.set_cons_succ]
      refine till_out (i := 47) (by kernel_rfl) rfl (by kernel_rfl) (fun K hK => ?_)
      go_simp
      refine hK.out _ _ ?_
      clear hK K
      try simp only [Act.put, List.getElem_toArray, List.getElem_cons_succ, List.getElem_cons_zero, List.setIfInBounds_toArray, List.set_cons_zero, List.set_cons_succ]
      refine till_done (by kernel_rfl) ?_ _
      go_wp2
      go_ret
      exact ⟨rfl, Below.step (unhide HB) HW⟩
  · have hf' : b = false := by simpa using hf
    subst hf'
    clear hb hf
    go_wp2_with fail
    refine (awake5_any _).mono ?_
    rintro e w2 ⟨rfl, hb2⟩
    go_wp2
    go_ret
    exact ⟨rfl, Below.step (unhide HB) hb2⟩

set_option maxRecDepth 20000 in
set_option maxHeartbeats 8000000 in
theorem tells_more (b0 : Bool) (a0 : Option Addr) (len0 cap0 : Nat) (xs0 : List Nat) (b1 : Bool) (a1 : Option Addr) (len1 cap1 : Nat) (xs1 : List Nat) (w : World) (r0 : RowAt w a0 len0 cap0 xs0) (r1 : RowAt w a1 len1 cap1 xs1) (hz1 : sgnd b1 (Lb.val xs1) ≠ 0) :
    Calls Try.prog 3 #[.agg #[.bool b0, .slice a0 len0 cap0], .agg #[.bool b1, .slice a1 len1 cap1]] w fun e w' => e = .returned (.bool true) ∧ Below w.heap.size w w' := by
  have hm0 := Nat.le_trans r0.cap_le r0.cap_max
  have hx0 := r0.int b0
  obtain ⟨z0, ez0⟩ : ∃ z, z = sgnd b0 (Lb.val xs0) := ⟨_, rfl⟩
  rw [← ez0] at hx0
  clear ez0 r0
  have hm1 := Nat.le_trans r1.cap_le r1.cap_max
  have hx1 := r1.int b1
  obtain ⟨z1, ez1⟩ : ∃ z, z = sgnd b1 (Lb.val xs1) := ⟨_, rfl⟩
  rw [← ez1] at hx1
  clear r1
  rw [← ez1] at hz1
  clear ez1
  have HI := hide (intsIn2 (w := ((w.alloc (.cells #[.bool b0, .slice a0 len0 cap0] 24)).alloc (.cells #[.bool b1, .slice a1 len1 cap1] 24))) b0 a0 len0 cap0 b1 a1 len1 cap1 (n := w.heap.size + 2) (by simp))
  go_enter Try.func3, Try.ntmps3
  go_wp2_with fail
  refine (few5_any _ _ _ _ _ _ _ (unhide HI) (by omega) (by simp <;> omega) (by intro i _; (first | assumption | (split <;> assumption) | (split <;> (first | assumption | (split <;> assumption)))))).mono ?_
  rintro e w1 ⟨⟨b, rfl, hb⟩, hb1⟩
  obtain ⟨W0, hWe⟩ : ∃ W', W' = ((w.alloc (.cells #[.bool b0, .slice a0 len0 cap0] 24)).alloc (.cells #[.bool b1, .slice a1 len1 cap1] 24)) := ⟨_, rfl⟩
  obtain ⟨P0, P1, hb0⟩ := boxes2 w b0 a0 len0 cap0 b1 a1 len1 cap1 hWe
  rw [← hWe] at hb1
  clear hWe HI
  have hb2 := Below.step (below_one W0 _) hb1
  clear hb1
  replace P0 := P0.later hb2
  replace P1 := P1.later hb2
  have HB := hide (Below.step hb0 hb2)
  clear hb0 hb2
  by_cases hf : b = true
  · subst hf
    have e0 : len0 ≤ 20 := (hb.1 rfl) 0 (by omega)
    have e1 : len1 ≤ 20 := (hb.1 rfl) 1 (by omega)
    have h0 := ik_of (hx0.later (unhide HB)) e0 (by omega)
    have h1 := ik_of (hx1.later (unhide HB)) e1 (by omega)
    have L0 := hide e0
    have L1 := hide e1
    clear hb hm0 hx0 e0 hm1 hx1 e1
    obtain ⟨s1, es1⟩ : ∃ s, s = z1.sign := ⟨_, rfl⟩
    have hs1 : (s1 == 0) = false := by rw [beq_eq_false_iff_ne, es1]; exact fun e => hz1 (Int.sign_eq_zero_iff_zero.1 e)
    have E1 := hide es1
    have N1 := hide hz1
    clear es1 hz1
    obtain ⟨fP01, fP02, _, _⟩ := P0.facts
    obtain ⟨fP11, fP12, _, _⟩ := P1.facts
    go_wp2_with fail
    refine (quoK b0 a0 len0 cap0 z0 20 b1 a1 len1 cap1 z1 20 _ h0 h1 (unhide N1)).mono ?_
    rintro e v1 ⟨bq, aq, lq, cq, br, ar, lr, cr, rfl, hq, hr, hb9⟩
    clear fP01 fP02 fP11 fP12
    replace P0 := P0.later hb9
    replace P1 := P1.later hb9
    replace h0 := h0.later hb9
    replace h1 := h1.later hb9
    replace HB := hide (Below.step (unhide HB) hb9)
    clear hb9
    go_upto_region 4 with fail
    obtain ⟨v2, hWe⟩ : ∃ W', W' = ((v1.alloc (.cells #[.bool bq, .slice aq lq cq] 24)).alloc (.cells #[.bool br, .slice ar lr cr] 24)) := ⟨_, rfl⟩
    obtain ⟨Bq, Br, hb9⟩ := boxes2 v1 bq aq lq cq br ar lr cr hWe
    rw [← hWe]
    clear hWe
    replace P0 := P0.later hb9
    replace P1 := P1.later hb9
    replace h0 := h0.later hb9
    replace h1 := h1.later hb9
    replace hq := hq.later hb9
    replace hr := hr.later hb9
    replace HB := hide (Below.step (unhide HB) hb9)
    clear hb9
    obtain ⟨fP01, fP02, _, _⟩ := P0.facts
    obtain ⟨fP11, fP12, _, _⟩ := P1.facts
    go_wp2_with fail
    refine (divK b0 a0 len0 cap0 z0 20 b1 a1 len1 cap1 z1 20 _ h0 h1 (unhide N1) (by omega) (by omega)).mono ?_
    rintro e v3 ⟨bp, ap, lp, cp, bs, as', ls, cs, rfl, hp, hs, hb9⟩
    clear fP01 fP02 fP11 fP12
    replace P0 := P0.later hb9
    replace P1 := P1.later hb9
    replace h0 := h0.later hb9
    replace h1 := h1.later hb9
    replace hq := hq.later hb9
    replace hr := hr.later hb9
    replace Bq := Bq.later hb9
    replace Br := Br.later hb9
    replace HB := hide (Below.step (unhide HB) hb9)
    clear hb9
    go_upto_region 5 with fail
    obtain ⟨v4, hWe⟩ : ∃ W', W' = ((v3.alloc (.cells #[.bool bp, .slice ap lp cp] 24)).alloc (.cells #[.bool bs, .slice as' ls cs] 24)) := ⟨_, rfl⟩
    obtain ⟨Bp, Bs, hb9⟩ := boxes2 v3 bp ap lp cp bs as' ls cs hWe
    rw [← hWe]
    clear hWe
    replace P0 := P0.later hb9
    replace P1 := P1.later hb9
    replace h0 := h0.later hb9
    replace h1 := h1.later hb9
    replace hq := hq.later hb9
    replace hr := hr.later hb9
    replace Bq := Bq.later hb9
    replace Br := Br.later hb9
    replace hp := hp.later hb9
    replace hs := hs.later hb9
    replace HB := hide (Below.step (unhide HB) hb9)
    clear hb9
    obtain ⟨fP01, fP02, _, _⟩ := P0.facts
    obtain ⟨fP11, fP12, _, _⟩ := P1.facts
    go_wp2_with fail
    refine (nearK b0 a0 len0 cap0 z0 20 b1 a1 len1 cap1 z1 20 _ h0 h1 (unhide N1) (by omega) (by omega)).mono ?_
    rintro e v5 ⟨bn, an, ln, cn, rfl, hn, hb9⟩
    clear fP01 fP02 fP11 fP12
    replace P0 := P0.later hb9
    replace P1 := P1.later hb9
    replace h0 := h0.later hb9
    replace h1 := h1.later hb9
    replace hq := hq.later hb9
    replace hr := hr.later hb9
    replace Bq := Bq.later hb9
    replace Br := Br.later hb9
    replace hp := hp.later hb9
    replace hs := hs.later hb9
    replace Bp := Bp.later hb9
    replace Bs := Bs.later hb9
    replace HB := hide (Below.step (unhide HB) hb9)
    clear hb9
    go_upto_region 6 with fail
    obtain ⟨v6, hWe⟩ : ∃ W', W' = (v5.alloc (.cells #[.bool bn, .slice an ln cn] 24)) := ⟨_, rfl⟩
    obtain ⟨Bn, hb9⟩ := boxes1 v5 bn an ln cn hWe
    rw [← hWe]
    clear hWe
    replace P0 := P0.later hb9
    replace P1 := P1.later hb9
    replace h0 := h0.later hb9
    replace h1 := h1.later hb9
    replace hq := hq.later hb9
    replace hr := hr.later hb9
    replace Bq := Bq.later hb9
    replace Br := Br.later hb9
    replace hp := hp.later hb9
    replace hs := hs.later hb9
    replace Bp := Bp.later hb9
    replace Bs := Bs.later hb9
    replace hn := hn.later hb9
    replace HB := hide (Below.step (unhide HB) hb9)
    clear hb9
    obtain ⟨fP11, fP12, _, _⟩ := P1.facts
    go_wp2_with fail
    refine (rsignK b1 a1 len1 cap1 z1 20 s1 _ h1 (unhide E1)).mono ?_
    rintro e v7 ⟨rfl, hb9⟩
    clear fP11 fP12
    replace P0 := P0.later hb9
    replace P1 := P1.later hb9
    replace h0 := h0.later hb9
    replace h1 := h1.later hb9
    replace hq := hq.later hb9
    replace hr := hr.later hb9
    replace Bq := Bq.later hb9
    replace Br := Br.later hb9
    replace hp := hp.later hb9
    replace hs := hs.later hb9
    replace Bp := Bp.later hb9
    replace Bs := Bs.later hb9
    replace hn := hn.later hb9
    replace Bn := Bn.later hb9
    replace HB := hide (Below.step (unhide HB) hb9)
    clear hb9
    obtain ⟨fP01, fP02, _, _⟩ := P0.facts
    obtain ⟨fP11, fP12, _, _⟩ := P1.facts
    go_wp2_with fail
    refine (rquoK b0 a0 len0 cap0 z0 20 b1 a1 len1 cap1 z1 20 _ h0 h1 (unhide N1)).mono ?_
    rintro e v8 ⟨bx, ax, lx, cx, byy, ayy, lyy, cyy, rfl, hx, hyy, hb9⟩
    clear fP01 fP02 fP11 fP12
    replace P0 := P0.later hb9
    replace P1 := P1.later hb9
    replace h0 := h0.later hb9
    replace h1 := h1.later hb9
    replace hq := hq.later hb9
    replace hr := hr.later hb9
    replace Bq := Bq.later hb9
    replace Br := Br.later hb9
    replace hp := hp.later hb9
    replace hs := hs.later hb9
    replace Bp := Bp.later hb9
    replace Bs := Bs.later hb9
    replace hn := hn.later hb9
    replace Bn := Bn.later hb9
    replace HB := hide (Below.step (unhide HB) hb9)
    clear hb9
    go_upto_region 10 with fail
    obtain ⟨v9, hWe⟩ : ∃ W', W' = ((v8.alloc (.cells #[.bool bx, .slice ax lx cx] 24)).alloc (.cells #[.bool byy, .slice ayy lyy cyy] 24)) := ⟨_, rfl⟩
    obtain ⟨Bx, By, hb9⟩ := boxes2 v8 bx ax lx cx byy ayy lyy cyy hWe
    rw [← hWe]
    clear hWe
    replace P0 := P0.later hb9
    replace P1 := P1.later hb9
    replace h0 := h0.later hb9
    replace h1 := h1.later hb9
    replace hq := hq.later hb9
    replace hr := hr.later hb9
    replace Bq := Bq.later hb9
    replace Br := Br.later hb9
    replace hp := hp.later hb9
    replace hs := hs.later hb9
    replace Bp := Bp.later hb9
    replace Bs := Bs.later hb9
    replace hn := hn.later hb9
    replace Bn := Bn.later hb9
    replace hx := hx.later hb9
    replace hyy := hyy.later hb9
    replace HB := hide (Below.step (unhide HB) hb9)
    clear hb9
    obtain ⟨fP01, fP02, _, _⟩ := P0.facts
    obtain ⟨fP11, fP12, _, _⟩ := P1.facts
    go_wp2_with fail
    refine (rdivK b0 a0 len0 cap0 z0 20 b1 a1 len1 cap1 z1 20 _ h0 h1 (unhide N1) (by omega) (by omega)).mono ?_
    rintro e v10 ⟨bu, au, lu, cu, bvv, avv, lvv, cvv, rfl, hu, hvv, hb9⟩
    clear fP01 fP02 fP11 fP12
    replace P0 := P0.later hb9
    replace P1 := P1.later hb9
    replace h0 := h0.later hb9
    replace h1 := h1.later hb9
    replace hq := hq.later hb9
    replace hr := hr.later hb9
    replace Bq := Bq.later hb9
    replace Br := Br.later hb9
    replace hp := hp.later hb9
    replace hs := hs.later hb9
    replace Bp := Bp.later hb9
    replace Bs := Bs.later hb9
    replace hn := hn.later hb9
    replace Bn := Bn.later hb9
    replace hx := hx.later hb9
    replace hyy := hyy.later hb9
    replace Bx := Bx.later hb9
    replace By := By.later hb9
    replace HB := hide (Below.step (unhide HB) hb9)
    clear hb9
    go_upto_region 11 with fail
    obtain ⟨v11, hWe⟩ : ∃ W', W' = ((v10.alloc (.cells #[.bool bu, .slice au lu cu] 24)).alloc (.cells #[.bool bvv, .slice avv lvv cvv] 24)) := ⟨_, rfl⟩
    obtain ⟨Bu, Bv, hb9⟩ := boxes2 v10 bu au lu cu bvv avv lvv cvv hWe
    rw [← hWe]
    clear hWe
    replace P0 := P0.later hb9
    replace P1 := P1.later hb9
    replace h0 := h0.later hb9
    replace h1 := h1.later hb9
    replace hq := hq.later hb9
    replace hr := hr.later hb9
    replace Bq := Bq.later hb9
    replace Br := Br.later hb9
    replace hp := hp.later hb9
    replace hs := hs.later hb9
    replace Bp := Bp.later hb9
    replace Bs := Bs.later hb9
    replace hn := hn.later hb9
    replace Bn := Bn.later hb9
    replace hx := hx.later hb9
    replace hyy := hyy.later hb9
    replace Bx := Bx.later hb9
    replace By := By.later hb9
    replace hu := hu.later hb9
    replace hvv := hvv.later hb9
    replace HB := hide (Below.step (unhide HB) hb9)
    clear hb9
    by_cases hd : z1 ∣ z0
    · have D := hide (show true = decide (z1 ∣ z0) from (decide_eq_true hd).symm)
      have E := hide (show (0 : Int) = (z0.tmod z1).sign by rw [Int.tmod_eq_zero_of_dvd hd]; rfl)
      clear hd
      have HW : Below v11.heap.size v11 v11.drew := (Below.refl _ _).drew
      refine till_start (fun w' => w'.cell? ⟨w.heap.size, 0, none⟩ = some (.bool b0) ∧ w'.cell? ⟨w.heap.size, 1, none⟩ = some (.slice a0 len0 cap0) ∧ w'.cell? ⟨w.heap.size + 1, 0, none⟩ = some (.bool b1) ∧ w'.cell? ⟨w.heap.size + 1, 1, none⟩ = some (.slice a1 len1 cap1) ∧ w'.cell? ⟨v1.heap.size, 0, none⟩ = some (.bool bq) ∧ w'.cell? ⟨v1.heap.size, 1, none⟩ = some (.slice aq lq cq) ∧ w'.cell? ⟨v1.heap.size + 1, 0, none⟩ = some (.bool br) ∧ w'.cell? ⟨v1.heap.size + 1, 1, none⟩ = some (.slice ar lr cr) ∧ w'.cell? ⟨v3.heap.size, 0, none⟩ = some (.bool bp) ∧ w'.cell? ⟨v3.heap.size, 1, none⟩ = some (.slice ap lp cp) ∧ w'.cell? ⟨v3.heap.size + 1, 0, none⟩ = some (.bool bs) ∧ w'.cell? ⟨v3.heap.size + 1, 1, none⟩ = some (.slice as' ls cs) ∧ w'.cell? ⟨v5.heap.size, 0, none⟩ = some (.bool bn) ∧ w'.cell? ⟨v5.heap.size, 1, none⟩ = some (.slice an ln cn) ∧ w'.cell? ⟨v8.heap.size, 0, none⟩ = some (.bool bx) ∧ w'.cell? ⟨v8.heap.size, 1, none⟩ = some (.slice ax lx cx) ∧ w'.cell? ⟨v8.heap.size + 1, 0, none⟩ = some (.bool byy) ∧ w'.cell? ⟨v8.heap.size + 1, 1, none⟩ = some (.slice ayy lyy cyy) ∧ w'.cell? ⟨v10.heap.size, 0, none⟩ = some (.bool bu) ∧ w'.cell? ⟨v10.heap.size, 1, none⟩ = some (.slice au lu cu) ∧ w'.cell? ⟨v10.heap.size + 1, 0, none⟩ = some (.bool bvv) ∧ w'.cell? ⟨v10.heap.size + 1, 1, none⟩ = some (.slice avv lvv cvv)) 46 (by kernel_rfl) ?_ (fun hHeld => ?_)
      · exact ⟨(P0.later HW).facts.1, (P0.later HW).facts.2.1, (P1.later HW).facts.1, (P1.later HW).facts.2.1, (Bq.later HW).facts.1, (Bq.later HW).facts.2.1, (Br.later HW).facts.1, (Br.later HW).facts.2.1, (Bp.later HW).facts.1, (Bp.later HW).facts.2.1, (Bs.later HW).facts.1, (Bs.later HW).facts.2.1, (Bn.later HW).facts.1, (Bn.later HW).facts.2.1, (Bx.later HW).facts.1, (Bx.later HW).facts.2.1, (By.later HW).facts.1, (By.later HW).facts.2.1, (Bu.later HW).facts.1, (Bu.later HW).facts.2.1, (Bv.later HW).facts.1, (Bv.later HW).facts.2.1⟩
      refine till_take (i := 0) (v := ?_) [1, 2, 3, 4, 5, 6, 7, 8, 9, 10, 11, 12, 13, 14, 15, 16, 17, 18, 19, 20, 21, 22, 23, 24, 25, 26, 27, 28, 29, 30, 31, 32, 33, 34, 35, 36, 37, 38, 39, 40, 41, 42, 43, 44, 45, 46] rfl (by kernel_rfl) (by kernel_rfl) (by kernel_rfl) (by kernel_rfl) (fun _ _ _ h => h) (Or.inl ⟨by rfl, ?_⟩) (by assumption) ?_
      rotate_left
      · (intro w hSw; (try dsimp only at hSw); go_simp; try with_reducible rfl)
      simp only [Act.put, List.getElem_toArray, List.getElem_cons_zero, List.setIfInBounds_toArray, List.set_cons_zero, List.set_cons_succ]
      refine till_take (i := 1) (v := ?_) [2, 3, 4, 5, 6, 7, 8, 9, 10, 11, 12, 13, 14, 15, 16, 17, 18, 19, 20, 21, 22, 23, 24, 25, 26, 27, 28, 29, 30, 31, 32, 33, 34, 35, 36, 37, 38, 39, 40, 41, 42, 43, 44, 45, 46] rfl (by kernel_rfl) (by kernel_rfl) (by kernel_rfl) (by kernel_rfl) (fun _ _ _ h => h) (Or.inl ⟨by rfl, ?_⟩) (by assumption) ?_
      rotate_left
      · (intro w hSw; (try dsimp only at hSw); go_simp; try with_reducible rfl)
      simp only [Act.put, List.getElem_toArray, List.getElem_cons_succ, List.getElem_cons_zero, List.setIfInBounds_toArray, List.set_cons_zero, List.set_cons_succ]
      refine till_take (i := 2) (v := ?_) [3, 4, 5, 6, 7, 8, 9, 10, 11, 12, 13, 14, 15, 16, 17, 18, 19, 20, 21, 22, 23, 24, 25, 26, 27, 28, 29, 30, 31, 32, 33, 34, 35, 36, 37, 38, 39, 40, 41, 42, 43, 44, 45, 46] rfl (by kernel_rfl) (by kernel_rfl) (by kernel_rfl) (by kernel_rfl) (fun _ _ _ h => h) (Or.inl ⟨by rfl, ?_⟩) (by assumption) ?_
      rotate_left
      · (intro w hSw; (try dsimp only at hSw); go_simp; try with_reducible rfl)
      simp only [Act.put, List.getElem_toArray, List.getElem_cons_succ, List.getElem_cons_zero, List.setIfInBounds_toArray, List.set_cons_zero, List.set_cons_succ]
      refine till_take (i := 3) (v := ?_) [4, 5, 6, 7, 8, 9, 10, 11, 12, 13, 14, 15, 16, 17, 18, 19, 20, 21, 22, 23, 24, 25, 26, 27, 28, 29, 30, 31, 32, 33, 34, 35, 36, 37, 38, 39, 40, 41, 42, 43, 44, 45, 46] rfl (by kernel_rfl) (by kernel_rfl) (by kernel_rfl) (by kernel_rfl) (fun _ _ _ h => h) (Or.inl ⟨by rfl, ?_⟩) (by assumption) ?_
      rotate_left
      · (intro w hSw; (try dsimp only at hSw); go_simp; try with_reducible rfl)
      simp only [Act.put, List.getElem_toArray, List.getElem_cons_succ, List.getElem_cons_zero, List.setIfInBounds_toArray, List.set_cons_zero, List.set_cons_succ]
      refine till_take (i := 4) (v := ?_) [5, 6, 7, 8, 9, 10, 11, 12, 13, 14, 15, 16, 17, 18, 19, 20, 21, 22, 23, 24, 25, 26, 27, 28, 29, 30, 31, 32, 33, 34, 35, 36, 37, 38, 39, 40, 41, 42, 43, 44, 45, 46] rfl (by kernel_rfl) (by kernel_rfl) (by kernel_rfl) (by kernel_rfl) (fun _ _ _ h => h) (Or.inl ⟨by rfl, ?_⟩) (by assumption) ?_
      rotate_left
      · (intro w hSw; (try dsimp only at hSw); go_simp; try with_reducible rfl)
      simp only [Act.put, List.getElem_toArray, List.getElem_cons_succ, List.getElem_cons_zero, List.setIfInBounds_toArray, List.set_cons_zero, List.set_cons_succ]
      refine till_take (i := 5) (v := ?_) [6, 7, 8, 9, 10, 11, 12, 13, 14, 15, 16, 17, 18, 19, 20, 21, 22, 23, 24, 25, 26, 27, 28, 29, 30, 31, 32, 33, 34, 35, 36, 37, 38, 39, 40, 41, 42, 43, 44, 45, 46] rfl (by kernel_rfl) (by kernel_rfl) (by kernel_rfl) (by kernel_rfl) (fun _ _ _ h => h) (Or.inl ⟨by rfl, ?_⟩) (by assumption) ?_
      rotate_left
      · (intro w hSw; (try dsimp only at hSw); go_simp; try with_reducible rfl)
      simp only [Act.put, List.getElem_toArray, List.getElem_cons_succ, List.getElem_cons_zero, List.setIfInBounds_toArray, List.set_cons_zero, List.set_cons_succ]
      refine till_take (i := 6) (v := ?_) [7, 8, 9, 10, 11, 12, 13, 14, 15, 16, 17, 18, 19, 20, 21, 22, 23, 24, 25, 26, 27, 28, 29, 30, 31, 32, 33, 34, 35, 36, 37, 38, 39, 40, 41, 42, 43, 44, 45, 46] rfl (by kernel_rfl) (by kernel_rfl) (by kernel_rfl) (by kernel_rfl) (fun _ _ _ h => h) (Or.inl ⟨by rfl, ?_⟩) (by assumption) ?_
      rotate_left
      · (intro w hSw; (try dsimp only at hSw); go_simp; try with_reducible rfl)
      simp only [Act.put, List.getElem_toArray, List.getElem_cons_succ, List.getElem_cons_zero, List.setIfInBounds_toArray, List.set_cons_zero, List.set_cons_succ]
      refine till_take (i := 7) (v := ?_) [8, 9, 10, 11, 12, 13, 14, 15, 16, 17, 18, 19, 20, 21, 22, 23, 24, 25, 26, 27, 28, 29, 30, 31, 32, 33, 34, 35, 36, 37, 38, 39, 40, 41, 42, 43, 44, 45, 46] rfl (by kernel_rfl) (by kernel_rfl) (by kernel_rfl) (by kernel_rfl) (fun _ _ _ h => h) (Or.inl ⟨by rfl, ?_⟩) (by assumption) ?_
      rotate_left
      · (intro w hSw; (try dsimp only at hSw); go_simp; try with_reducible rfl)
      simp only [Act.put, List.getElem_toArray, List.getElem_cons_succ, List.getElem_cons_zero, List.setIfInBounds_toArray, List.set_cons_zero, List.set_cons_succ]
      refine till_take (i := 8) (v := ?_) [10, 11, 12, 13, 14, 15, 16, 17, 18, 19, 20, 21, 22, 23, 24, 25, 26, 27, 28, 29, 30, 31, 32, 33, 34, 35, 36, 37, 38, 39, 40, 41, 42, 43, 44, 45, 46] rfl (by kernel_rfl) (by kernel_rfl) (by kernel_rfl) (by kernel_rfl) (fun _ _ _ h => h) (Or.inl ⟨by rfl, ?_⟩) (by assumption) ?_
      rotate_left
      · (intro w hSw; (try dsimp only at hSw); go_simp; try with_reducible rfl)
      simp only [Act.put, List.getElem_toArray, List.getElem_cons_succ, List.getElem_cons_zero, List.setIfInBounds_toArray, List.set_cons_zero, List.set_cons_succ]
      refine till_take (i := 9) (v := ?_) [10, 11, 12, 13, 14, 15, 16, 17, 18, 19, 20, 21, 22, 23, 24, 25, 26, 27, 28, 29, 30, 31, 32, 33, 34, 35, 36, 37, 38, 39, 40, 41, 42, 43, 44, 45, 46] rfl (by kernel_rfl) (by kernel_rfl) (by kernel_rfl) (by kernel_rfl) (fun _ _ _ h => h) (Or.inl ⟨by rfl, ?_⟩) (by assumption) ?_
      rotate_left
      · (intro w hSw; (try dsimp only at hSw); go_simp; try with_reducible rfl)
      simp only [Act.put, List.getElem_toArray, List.getElem_cons_succ, List.getElem_cons_zero, List.setIfInBounds_toArray, List.set_cons_zero, List.set_cons_succ]
      refine till_in (i := 10) (by kernel_rfl) rfl (fun K hK => ?_)
      go_simp
      refine (rsameK bq aq lq cq (z0.tdiv z1) 20 bx ax lx cx (z0.tdiv z1) 20 _ (hq.later HW) (hx.later HW) rfl).mono ?_
      rintro e v301 ⟨rfl, hb9⟩
      replace HW := Below.step HW hb9
      clear hb9
      refine hK.out _ _ ?_ (fun hHeld => ?_)
      · exact ⟨(P0.later HW).facts.1, (P0.later HW).facts.2.1, (P1.later HW).facts.1, (P1.later HW).facts.2.1, (Bq.later HW).facts.1, (Bq.later HW).facts.2.1, (Br.later HW).facts.1, (Br.later HW).facts.2.1, (Bp.later HW).facts.1, (Bp.later HW).facts.2.1, (Bs.later HW).facts.1, (Bs.later HW).facts.2.1, (Bn.later HW).facts.1, (Bn.later HW).facts.2.1, (Bx.later HW).facts.1, (Bx.later HW).facts.2.1, (By.later HW).facts.1, (By.later HW).facts.2.1, (Bu.later HW).facts.1, (Bu.later HW).facts.2.1, (Bv.later HW).facts.1, (Bv.later HW).facts.2.1⟩
      clear hK K
      try simp only [Act.put, List.getElem_toArray, List.getElem_cons_succ, List.getElem_cons_zero, List.setIfInBounds_toArray, List.set_cons_zero, List.set_cons_succ]
      refine till_take (i := 11) (v := ?_) [12, 13, 14, 15, 16, 17, 18, 19, 20, 21, 22, 23, 24, 25, 26, 27, 28, 29, 30, 31, 32, 33, 34, 35, 36, 37, 38, 39, 40, 41, 42, 43, 44, 45, 46] rfl (by kernel_rfl) (by kernel_rfl) (by kernel_rfl) (by kernel_rfl) (fun _ _ _ h => h) (Or.inl ⟨by rfl, ?_⟩) (by assumption) ?_
      rotate_left
      · (intro w hSw; (try dsimp only at hSw); go_simp; try with_reducible rfl)
      simp only [Act.put, List.getElem_toArray, List.getElem_cons_succ, List.getElem_cons_zero, List.setIfInBounds_toArray, List.set_cons_zero, List.set_cons_succ]
      refine till_take (i := 12) (v := ?_) [13, 14, 15, 16, 17, 18, 19, 20, 21, 22, 23, 24, 25, 26, 27, 28, 29, 30, 31, 32, 33, 34, 35, 36, 37, 38, 39, 40, 41, 42, 43, 44, 45, 46] rfl (by kernel_rfl) (by kernel_rfl) (by kernel_rfl) (by kernel_rfl) (fun _ _ _ h => h) (Or.inl ⟨by rfl, ?_⟩) (by assumption) ?_
      rotate_left
      · (intro w hSw; (try dsimp only at hSw); go_simp; try with_reducible rfl)
      simp only [Act.put, List.getElem_toArray, List.getElem_cons_succ, List.getElem_cons_zero, List.setIfInBounds_toArray, List.set_cons_zero, List.set_cons_succ]
      refine till_take (i := 13) (v := ?_) [15, 16, 17, 18, 19, 20, 21, 22, 23, 24, 25, 26, 27, 28, 29, 30, 31, 32, 33, 34, 35, 36, 37, 38, 39, 40, 41, 42, 43, 44, 45, 46] rfl (by kernel_rfl) (by kernel_rfl) (by kernel_rfl) (by kernel_rfl) (fun _ _ _ h => h) (Or.inl ⟨by rfl, ?_⟩) (by assumption) ?_
      rotate_left
      · (intro w hSw; (try dsimp only at hSw); go_simp; try with_reducible rfl)
      simp only [Act.put, List.getElem_toArray, List.getElem_cons_succ, List.getElem_cons_zero, List.setIfInBounds_toArray, List.set_cons_zero, List.set_cons_succ]
      refine till_take (i := 14) (v := ?_) [15, 16, 17, 18, 19, 20, 21, 22, 23, 24, 25, 26, 27, 28, 29, 30, 31, 32, 33, 34, 35, 36, 37, 38, 39, 40, 41, 42, 43, 44, 45, 46] rfl (by kernel_rfl) (by kernel_rfl) (by kernel_rfl) (by kernel_rfl) (fun _ _ _ h => h) (Or.inl ⟨by rfl, ?_⟩) (by assumption) ?_
      rotate_left
      · (intro w hSw; (try dsimp only at hSw); go_simp; try with_reducible rfl)
      simp only [Act.put, List.getElem_toArray, List.getElem_cons_succ, List.getElem_cons_zero, List.setIfInBounds_toArray, List.set_cons_zero, List.set_cons_succ]
      refine till_in (i := 15) (by kernel_rfl) rfl (fun K hK => ?_)
      go_simp
      refine (rsameK br ar lr cr (z0.tmod z1) 20 byy ayy lyy cyy (z0.tmod z1) 20 _ (hr.later HW) (hyy.later HW) rfl).mono ?_
      rintro e v302 ⟨rfl, hb9⟩
      replace HW := Below.step HW hb9
      clear hb9
      refine hK.out _ _ ?_ (fun hHeld => ?_)
      · exact ⟨(P0.later HW).facts.1, (P0.later HW).facts.2.1, (P1.later HW).facts.1, (P1.later HW).facts.2.1, (Bq.later HW).facts.1, (Bq.later HW).facts.2.1, (Br.later HW).facts.1, (Br.later HW).facts.2.1, (Bp.later HW).facts.1, (Bp.later HW).facts.2.1, (Bs.later HW).facts.1, (Bs.later HW).facts.2.1, (Bn.later HW).facts.1, (Bn.later HW).facts.2.1, (Bx.later HW).facts.1, (Bx.later HW).facts.2.1, (By.later HW).facts.1, (By.later HW).facts.2.1, (Bu.later HW).facts.1, (Bu.later HW).facts.2.1, (Bv.later HW).facts.1, (Bv.later HW).facts.2.1⟩
      clear hK K
      try simp only [Act.put, List.getElem_toArray, List.getElem_cons_succ, List.getElem_cons_zero, List.setIfInBounds_toArray, List.set_cons_zero, List.set_cons_succ]
      refine till_take (i := 16) (v := ?_) [17, 18, 19, 20, 21, 22, 23, 24, 25, 26, 27, 28, 29, 30, 31, 32, 33, 34, 35, 36, 37, 38, 39, 40, 41, 42, 43, 44, 45, 46] rfl (by kernel_rfl) (by kernel_rfl) (by kernel_rfl) (by kernel_rfl) (fun _ _ _ h => h) (Or.inl ⟨by rfl, ?_⟩) (by assumption) ?_
      rotate_left
      · (intro w hSw; (try dsimp only at hSw); go_simp; try with_reducible rfl)
      simp only [Act.put, List.getElem_toArray, List.getElem_cons_succ, List.getElem_cons_zero, List.setIfInBounds_toArray, List.set_cons_zero, List.set_cons_succ]
      refine till_take (i := 17) (v := ?_) [18, 19, 20, 21, 22, 23, 24, 25, 26, 27, 28, 29, 30, 31, 32, 33, 34, 35, 36, 37, 38, 39, 40, 41, 42, 43, 44, 45, 46] rfl (by kernel_rfl) (by kernel_rfl) (by kernel_rfl) (by kernel_rfl) (fun _ _ _ h => h) (Or.inl ⟨by rfl, ?_⟩) (by assumption) ?_
      rotate_left
      · (intro w hSw; (try dsimp only at hSw); go_simp; try with_reducible rfl)
      simp only [Act.put, List.getElem_toArray, List.getElem_cons_succ, List.getElem_cons_zero, List.setIfInBounds_toArray, List.set_cons_zero, List.set_cons_succ]
      refine till_take (i := 18) (v := ?_) [20, 21, 22, 23, 24, 25, 26, 27, 28, 29, 30, 31, 32, 33, 34, 35, 36, 37, 38, 39, 40, 41, 42, 43, 44, 45, 46] rfl (by kernel_rfl) (by kernel_rfl) (by kernel_rfl) (by kernel_rfl) (fun _ _ _ h => h) (Or.inl ⟨by rfl, ?_⟩) (by assumption) ?_
      rotate_left
      · (intro w hSw; (try dsimp only at hSw); go_simp; try with_reducible rfl)
      simp only [Act.put, List.getElem_toArray, List.getElem_cons_succ, List.getElem_cons_zero, List.setIfInBounds_toArray, List.set_cons_zero, List.set_cons_succ]
      refine till_take (i := 19) (v := ?_) [20, 21, 22, 23, 24, 25, 26, 27, 28, 29, 30, 31, 32, 33, 34, 35, 36, 37, 38, 39, 40, 41, 42, 43, 44, 45, 46] rfl (by kernel_rfl) (by kernel_rfl) (by kernel_rfl) (by kernel_rfl) (fun _ _ _ h => h) (Or.inl ⟨by rfl, ?_⟩) (by assumption) ?_
      rotate_left
      · (intro w hSw; (try dsimp only at hSw); go_simp; try with_reducible rfl)
      simp only [Act.put, List.getElem_toArray, List.getElem_cons_succ, List.getElem_cons_zero, List.setIfInBounds_toArray, List.set_cons_zero, List.set_cons_succ]
      refine till_in (i := 20) (by kernel_rfl) rfl (fun K hK => ?_)
      go_simp
      refine (rsameK bp ap lp cp (z0 / z1) 20 bu au lu cu (z0 / z1) 20 _ (hp.later HW) (hu.later HW) rfl).mono ?_
      rintro e v303 ⟨rfl, hb9⟩
      replace HW := Below.step HW hb9
      clear hb9
      refine hK.out _ _ ?_ (fun hHeld => ?_)
      · exact ⟨(P0.later HW).facts.1, (P0.later HW).facts.2.1, (P1.later HW).facts.1, (P1.later HW).facts.2.1, (Bq.later HW).facts.1, (Bq.later HW).facts.2.1, (Br.later HW).facts.1, (Br.later HW).facts.2.1, (Bp.later HW).facts.1, (Bp.later HW).facts.2.1, (Bs.later HW).facts.1, (Bs.later HW).facts.2.1, (Bn.later HW).facts.1, (Bn.later HW).facts.2.1, (Bx.later HW).facts.1, (Bx.later HW).facts.2.1, (By.later HW).facts.1, (By.later HW).facts.2.1, (Bu.later HW).facts.1, (Bu.later HW).facts.2.1, (Bv.later HW).facts.1, (Bv.later HW).facts.2.1⟩
      clear hK K
      try simp only [Act.put, List.getElem_toArray, List.getElem_cons_succ, List.getElem_cons_zero, List.setIfInBounds_toArray, List.set_cons_zero, List.set_cons_succ]
      refine till_take (i := 21) (v := ?_) [22, 23, 24, 25, 26, 27, 28, 29, 30, 31, 32, 33, 34, 35, 36, 37, 38, 39, 40, 41, 42, 43, 44, 45, 46] rfl (by kernel_rfl) (by kernel_rfl) (by kernel_rfl) (by kernel_rfl) (fun _ _ _ h => h) (Or.inl ⟨by rfl, ?_⟩) (by assumption) ?_
      rotate_left
      · (intro w hSw; (try dsimp only at hSw); go_simp; try with_reducible rfl)
      simp only [Act.put, List.getElem_toArray, List.getElem_cons_succ, List.getElem_cons_zero, List.setIfInBounds_toArray, List.set_cons_zero, List.set_cons_succ]
      refine till_take (i := 22) (v := ?_) [23, 24, 25, 26, 27, 28, 29, 30, 31, 32, 33, 34, 35, 36, 37, 38, 39, 40, 41, 42, 43, 44, 45, 46] rfl (by kernel_rfl) (by kernel_rfl) (by kernel_rfl) (by kernel_rfl) (fun _ _ _ h => h) (Or.inl ⟨by rfl, ?_⟩) (by assumption) ?_
      rotate_left
      · (intro w hSw; (try dsimp only at hSw); go_simp; try with_reducible rfl)
      simp only [Act.put, List.getElem_toArray, List.getElem_cons_succ, List.getElem_cons_zero, List.setIfInBounds_toArray, List.set_cons_zero, List.set_cons_succ]
      refine till_take (i := 23) (v := ?_) [25, 26, 27, 28, 29, 30, 31, 32, 33, 34, 35, 36, 37, 38, 39, 40, 41, 42, 43, 44, 45, 46] rfl (by kernel_rfl) (by kernel_rfl) (by kernel_rfl) (by kernel_rfl) (fun _ _ _ h => h) (Or.inl ⟨by rfl, ?_⟩) (by assumption) ?_
      rotate_left
      · (intro w hSw; (try dsimp only at hSw); go_simp; try with_reducible rfl)
      simp only [Act.put, List.getElem_toArray, List.getElem_cons_succ, List.getElem_cons_zero, List.setIfInBounds_toArray, List.set_cons_zero, List.set_cons_succ]
      refine till_take (i := 24) (v := ?_) [25, 26, 27, 28, 29, 30, 31, 32, 33, 34, 35, 36, 37, 38, 39, 40, 41, 42, 43, 44, 45, 46] rfl (by kernel_rfl) (by kernel_rfl) (by kernel_rfl) (by kernel_rfl) (fun _ _ _ h => h) (Or.inl ⟨by rfl, ?_⟩) (by assumption) ?_
      rotate_left
      · (intro w hSw; (try dsimp only at hSw); go_simp; try with_reducible rfl)
      simp only [Act.put, List.getElem_toArray, List.getElem_cons_succ, List.getElem_cons_zero, List.setIfInBounds_toArray, List.set_cons_zero, List.set_cons_succ]
      refine till_in (i := 25) (by kernel_rfl) rfl (fun K hK => ?_)
      go_simp
      refine (rsameK bs as' ls cs (z0 % z1) 20 bvv avv lvv cvv (z0 % z1) 20 _ (hs.later HW) (hvv.later HW) rfl).mono ?_
      rintro e v304 ⟨rfl, hb9⟩
      replace HW := Below.step HW hb9
      clear hb9
      refine hK.out _ _ ?_ (fun hHeld => ?_)
      · exact ⟨(P0.later HW).facts.1, (P0.later HW).facts.2.1, (P1.later HW).facts.1, (P1.later HW).facts.2.1, (Bq.later HW).facts.1, (Bq.later HW).facts.2.1, (Br.later HW).facts.1, (Br.later HW).facts.2.1, (Bp.later HW).facts.1, (Bp.later HW).facts.2.1, (Bs.later HW).facts.1, (Bs.later HW).facts.2.1, (Bn.later HW).facts.1, (Bn.later HW).facts.2.1, (Bx.later HW).facts.1, (Bx.later HW).facts.2.1, (By.later HW).facts.1, (By.later HW).facts.2.1, (Bu.later HW).facts.1, (Bu.later HW).facts.2.1, (Bv.later HW).facts.1, (Bv.later HW).facts.2.1⟩
      clear hK K
      try simp only [Act.put, List.getElem_toArray, List.getElem_cons_succ, List.getElem_cons_zero, List.setIfInBounds_toArray, List.set_cons_zero, List.set_cons_succ]
      refine till_take (i := 26) (v := ?_) [27, 28, 29, 30, 31, 32, 33, 34, 35, 36, 37, 38, 39, 40, 41, 42, 43, 44, 45, 46] rfl (by kernel_rfl) (by kernel_rfl) (by kernel_rfl) (by kernel_rfl) (fun _ _ _ h => h) (Or.inl ⟨by rfl, ?_⟩) (by assumption) ?_
      rotate_left
      · (intro w hSw; (try dsimp only at hSw); go_simp; try with_reducible rfl)
      simp only [Act.put, List.getElem_toArray, List.getElem_cons_succ, List.getElem_cons_zero, List.setIfInBounds_toArray, List.set_cons_zero, List.set_cons_succ]
      refine till_take (i := 27) (v := ?_) [28, 29, 30, 31, 32, 33, 34, 35, 36, 37, 38, 39, 40, 41, 42, 43, 44, 45, 46] rfl (by kernel_rfl) (by kernel_rfl) (by kernel_rfl) (by kernel_rfl) (fun _ _ _ h => h) (Or.inl ⟨by rfl, ?_⟩) (by assumption) ?_
      rotate_left
      · (intro w hSw; (try dsimp only at hSw); go_simp; try with_reducible rfl)
      simp only [Act.put, List.getElem_toArray, List.getElem_cons_succ, List.getElem_cons_zero, List.setIfInBounds_toArray, List.set_cons_zero, List.set_cons_succ]
      refine till_take (i := 28) (v := ?_) [32, 33, 34, 35, 36, 37, 38, 39, 40, 41, 42, 43, 44, 45, 46] rfl (by kernel_rfl) (by kernel_rfl) (by kernel_rfl) (by kernel_rfl) (fun _ _ _ h => h) (Or.inl ⟨by rfl, ?_⟩) (by assumption) ?_
      rotate_left
      · (intro w hSw; (try dsimp only at hSw); go_simp; try with_reducible rfl)
      simp only [Act.put, List.getElem_toArray, List.getElem_cons_succ, List.getElem_cons_zero, List.setIfInBounds_toArray, List.set_cons_zero, List.set_cons_succ]
      refine till_take (i := 29) (v := ?_) [31, 32, 33, 34, 35, 36, 37, 38, 39, 40, 41, 42, 43, 44, 45, 46] rfl (by kernel_rfl) (by kernel_rfl) (by kernel_rfl) (by kernel_rfl) (fun _ _ _ h => h) (Or.inl ⟨by rfl, ?_⟩) (by assumption) ?_
      rotate_left
      · (intro w hSw; (try dsimp only at hSw); go_simp; try with_reducible rfl)
      simp only [Act.put, List.getElem_toArray, List.getElem_cons_succ, List.getElem_cons_zero, List.setIfInBounds_toArray, List.set_cons_zero, List.set_cons_succ]
      refine till_take (i := 30) (v := ?_) [31, 32, 33, 34, 35, 36, 37, 38, 39, 40, 41, 42, 43, 44, 45, 46] rfl (by kernel_rfl) (by kernel_rfl) (by kernel_rfl) (by kernel_rfl) (fun _ _ _ h => h) (Or.inl ⟨by rfl, ?_⟩) (by assumption) ?_
      rotate_left
      · (intro w hSw; (try dsimp only at hSw); go_simp; try with_reducible rfl)
      simp only [Act.put, List.getElem_toArray, List.getElem_cons_succ, List.getElem_cons_zero, List.setIfInBounds_toArray, List.set_cons_zero, List.set_cons_succ]
      refine till_in (i := 31) (by kernel_rfl) rfl (fun K hK => ?_)
      go_simp
      refine (rnearK b0 a0 len0 cap0 z0 20 b1 a1 len1 cap1 z1 20 _ (h0.later HW) (h1.later HW) (unhide N1) (by omega) (by omega)).mono ?_
      rintro e v305 ⟨bk, ak, lk, ck, rfl, hk, hb9⟩
      replace HW := Below.step HW hb9
      clear hb9
      refine hK.out _ _ ?_ (fun hHeld => ?_)
      · exact ⟨(P0.later HW).facts.1, (P0.later HW).facts.2.1, (P1.later HW).facts.1, (P1.later HW).facts.2.1, (Bq.later HW).facts.1, (Bq.later HW).facts.2.1, (Br.later HW).facts.1, (Br.later HW).facts.2.1, (Bp.later HW).facts.1, (Bp.later HW).facts.2.1, (Bs.later HW).facts.1, (Bs.later HW).facts.2.1, (Bn.later HW).facts.1, (Bn.later HW).facts.2.1, (Bx.later HW).facts.1, (Bx.later HW).facts.2.1, (By.later HW).facts.1, (By.later HW).facts.2.1, (Bu.later HW).facts.1, (Bu.later HW).facts.2.1, (Bv.later HW).facts.1, (Bv.later HW).facts.2.1⟩
      clear hK K
      try simp only [Act.put, List.getElem_toArray, List.getElem_cons_succ, List.getElem_cons_zero, List.setIfInBounds_toArray, List.set_cons_zero, List.set_cons_succ]
      refine till_in (i := 32) (by kernel_rfl) rfl (fun K hK => ?_)
      go_simp
      refine (rsameK bn an ln cn (near z0 z1) (max 20 2 + 1) bk ak lk ck (near z0 z1) (max (2 + 20) 20 + 1) _ (hn.later HW) hk rfl).mono ?_
      rintro e v306 ⟨rfl, hb9⟩
      replace HW := Below.step HW hb9
      replace hk := hk.later hb9
      clear hb9 hk
      refine hK.out _ _ ?_ (fun hHeld => ?_)
      · exact ⟨(P0.later HW).facts.1, (P0.later HW).facts.2.1, (P1.later HW).facts.1, (P1.later HW).facts.2.1, (Bq.later HW).facts.1, (Bq.later HW).facts.2.1, (Br.later HW).facts.1, (Br.later HW).facts.2.1, (Bp.later HW).facts.1, (Bp.later HW).facts.2.1, (Bs.later HW).facts.1, (Bs.later HW).facts.2.1, (Bn.later HW).facts.1, (Bn.later HW).facts.2.1, (Bx.later HW).facts.1, (Bx.later HW).facts.2.1, (By.later HW).facts.1, (By.later HW).facts.2.1, (Bu.later HW).facts.1, (Bu.later HW).facts.2.1, (Bv.later HW).facts.1, (Bv.later HW).facts.2.1⟩
      clear hK K
      try simp only [Act.put, List.getElem_toArray, List.getElem_cons_succ, List.getElem_cons_zero, List.setIfInBounds_toArray, List.set_cons_zero, List.set_cons_succ]
      refine till_take (i := 33) (v := ?_) [34, 35, 36, 37, 38, 39, 40, 41, 42, 43, 44, 45, 46] rfl (by kernel_rfl) (by kernel_rfl) (by kernel_rfl) (by kernel_rfl) (fun _ _ _ h => h) (Or.inl ⟨by rfl, ?_⟩) (by assumption) ?_
      rotate_left
      · (intro w hSw; (try dsimp only at hSw); go_simp; try with_reducible rfl)
      simp only [Act.put, List.getElem_toArray, List.getElem_cons_succ, List.getElem_cons_zero, List.setIfInBounds_toArray, List.set_cons_zero, List.set_cons_succ]
      refine till_take (i := 34) (v := ?_) [35, 36, 37, 38, 39, 40, 41, 42, 43, 44, 45, 46] rfl (by kernel_rfl) (by kernel_rfl) (by kernel_rfl) (by kernel_rfl) (fun _ _ _ h => h) (Or.inl ⟨by rfl, ?_⟩) (by assumption) ?_
      rotate_left
      · (intro w hSw; (try dsimp only at hSw); go_simp; try with_reducible rfl)
      simp only [Act.put, List.getElem_toArray, List.getElem_cons_succ, List.getElem_cons_zero, List.setIfInBounds_toArray, List.set_cons_zero, List.set_cons_succ]
      refine till_take (i := 35) (v := ?_) [37, 39, 40, 41, 42, 43, 44, 45, 46] rfl (by kernel_rfl) (by kernel_rfl) (by kernel_rfl) (by kernel_rfl) (fun _ _ _ h => h) (Or.inl ⟨by rfl, ?_⟩) (by assumption) ?_
      rotate_left
      · (intro w hSw; (try dsimp only at hSw); go_simp; try with_reducible rfl)
      simp only [Act.put, List.getElem_toArray, List.getElem_cons_succ, List.getElem_cons_zero, List.setIfInBounds_toArray, List.set_cons_zero, List.set_cons_succ]
      refine till_take (i := 36) (v := ?_) [37, 39, 40, 41, 42, 43, 44, 45, 46] rfl (by kernel_rfl) (by kernel_rfl) (by kernel_rfl) (by kernel_rfl) (fun _ _ _ h => h) (Or.inl ⟨by rfl, ?_⟩) (by assumption) ?_
      rotate_left
      · (intro w hSw; (try dsimp only at hSw); go_simp; try with_reducible rfl)
      simp only [Act.put, List.getElem_toArray, List.getElem_cons_succ, List.getElem_cons_zero, List.setIfInBounds_toArray, List.set_cons_zero, List.set_cons_succ]
      refine till_take (i := 38) (v := ?_) [39, 40, 41, 42, 43, 44, 45, 46] rfl (by kernel_rfl) (by kernel_rfl) (by kernel_rfl) (by kernel_rfl) (fun _ _ _ h => h) (Or.inl ⟨by rfl, ?_⟩) (by assumption) ?_
      rotate_left
      · (intro w hSw; (try dsimp only at hSw); go_simp; try with_reducible rfl)
      simp only [Act.put, List.getElem_toArray, List.getElem_cons_succ, List.getElem_cons_zero, List.setIfInBounds_toArray, List.set_cons_zero, List.set_cons_succ]
      refine till_in (i := 37) (by kernel_rfl) rfl (fun K hK => ?_)
      go_simp
      refine (dividesK b1 a1 len1 cap1 z1 20 b0 a0 len0 cap0 z0 20 true _ (h1.later HW) (h0.later HW) (unhide D)).mono ?_
      rintro e v307 ⟨rfl, hb9⟩
      replace HW := Below.step HW hb9
      clear hb9
      refine hK.out _ _ ?_ (fun hHeld => ?_)
      · exact ⟨(P0.later HW).facts.1, (P0.later HW).facts.2.1, (P1.later HW).facts.1, (P1.later HW).facts.2.1, (Bq.later HW).facts.1, (Bq.later HW).facts.2.1, (Br.later HW).facts.1, (Br.later HW).facts.2.1, (Bp.later HW).facts.1, (Bp.later HW).facts.2.1, (Bs.later HW).facts.1, (Bs.later HW).facts.2.1, (Bn.later HW).facts.1, (Bn.later HW).facts.2.1, (Bx.later HW).facts.1, (Bx.later HW).facts.2.1, (By.later HW).facts.1, (By.later HW).facts.2.1, (Bu.later HW).facts.1, (Bu.later HW).facts.2.1, (Bv.later HW).facts.1, (Bv.later HW).facts.2.1⟩
      clear hK K
      try simp only [Act.put, List.getElem_toArray, List.getElem_cons_succ, List.getElem_cons_zero, List.setIfInBounds_toArray, List.set_cons_zero, List.set_cons_succ]
      refine till_in (i := 39) (by kernel_rfl) rfl (fun K hK => ?_)
      go_simp
      refine (rsignK byy ayy lyy cyy (z0.tmod z1) 20 0 _ ((hyy.later HW).ik (by omega)) (unhide E)).mono ?_
      rintro e v308 ⟨rfl, hb9⟩
      replace HW := Below.step HW hb9
      clear hb9
      refine hK.out _ _ ?_ (fun hHeld => ?_)
      · exact ⟨(P0.later HW).facts.1, (P0.later HW).facts.2.1, (P1.later HW).facts.1, (P1.later HW).facts.2.1, (Bq.later HW).facts.1, (Bq.later HW).facts.2.1, (Br.later HW).facts.1, (Br.later HW).facts.2.1, (Bp.later HW).facts.1, (Bp.later HW).facts.2.1, (Bs.later HW).facts.1, (Bs.later HW).facts.2.1, (Bn.later HW).facts.1, (Bn.later HW).facts.2.1, (Bx.later HW).facts.1, (Bx.later HW).facts.2.1, (By.later HW).facts.1, (By.later HW).facts.2.1, (Bu.later HW).facts.1, (Bu.later HW).facts.2.1, (Bv.later HW).facts.1, (Bv.later HW).facts.2.1⟩
      clear hK K
      try simp only [Act.put, List.getElem_toArray, List.getElem_cons_succ, List.getElem_cons_zero, List.setIfInBounds_toArray, List.set_cons_zero, List.set_cons_succ]
      refine till_take (i := 40) (v := ?_) [41, 42, 43, 44, 45, 46] rfl (by kernel_rfl) (by kernel_rfl) (by kernel_rfl) (by kernel_rfl) (fun _ _ _ h => h) (Or.inl ⟨by rfl, ?_⟩) (by assumption) ?_
      rotate_left
      · (intro w hSw; (try dsimp only at hSw); go_simp; try with_reducible rfl)
      simp only [Act.put, List.getElem_toArray, List.getElem_cons_succ, List.getElem_cons_zero, List.setIfInBounds_toArray, List.set_cons_zero, List.set_cons_succ]
      refine till_take (i := 41) (v := ?_) [42, 43, 44, 45, 46] rfl (by kernel_rfl) (by kernel_rfl) (by kernel_rfl) (by kernel_rfl) (fun _ _ _ h => h) (Or.inl ⟨by rfl, ?_⟩) (by assumption) ?_
      rotate_left
      · (intro w hSw; (try dsimp only at hSw); go_simp; try with_reducible rfl)
      simp only [Act.put, List.getElem_toArray, List.getElem_cons_succ, List.getElem_cons_zero, List.setIfInBounds_toArray, List.set_cons_zero, List.set_cons_succ]
      refine till_take (i := 42) (v := ?_) [43, 44, 45, 46] rfl (by kernel_rfl) (by kernel_rfl) (by kernel_rfl) (by kernel_rfl) (fun _ _ _ h => h) (Or.inl ⟨by rfl, ?_⟩) (by assumption) ?_
      rotate_left
      · (intro w hSw; (try dsimp only at hSw); go_simp; try with_reducible rfl)
      simp only [Act.put, List.getElem_toArray, List.getElem_cons_succ, List.getElem_cons_zero, List.setIfInBounds_toArray, List.set_cons_zero, List.set_cons_succ]
      refine till_take (i := 43) (v := ?_) [44, 45, 46] rfl (by kernel_rfl) (by kernel_rfl) (by kernel_rfl) (by kernel_rfl) (fun _ _ _ h => h) (Or.inl ⟨by rfl, ?_⟩) (by assumption) ?_
      rotate_left
      · (intro w hSw; (try dsimp only at hSw); go_simp; try with_reducible rfl)
      simp only [Act.put, List.getElem_toArray, List.getElem_cons_succ, List.getElem_cons_zero, List.setIfInBounds_toArray, List.set_cons_zero, List.set_cons_succ]
      refine till_in (i := 44) (by kernel_rfl) rfl (fun K hK => ?_)
      go_simp
      refine (awake5_any _).mono ?_
      rintro e v309 ⟨rfl, hb9⟩
      replace HW := Below.step HW hb9
      clear hb9
      refine hK.out _ _ ?_ (fun hHeld => ?_)
      · exact ⟨(P0.later HW).facts.1, (P0.later HW).facts.2.1, (P1.later HW).facts.1, (P1.later HW).facts.2.1, (Bq.later HW).facts.1, (Bq.later HW).facts.2.1, (Br.later HW).facts.1, (Br.later HW).facts.2.1, (Bp.later HW).facts.1, (Bp.later HW).facts.2.1, (Bs.later HW).facts.1, (Bs.later HW).facts.2.1, (Bn.later HW).facts.1, (Bn.later HW).facts.2.1, (Bx.later HW).facts.1, (Bx.later HW).facts.2.1, (By.later HW).facts.1, (By.later HW).facts.2.1, (Bu.later HW).facts.1, (Bu.later HW).facts.2.1, (Bv.later HW).facts.1, (Bv.later HW).facts.2.1⟩
      clear hK K
      try simp only [Act.put, List.getElem_toArray, List.getElem_cons_succ, List.getElem_cons_zero, List.setIfInBounds_toArray, List.set_cons_zero, List.set_cons_succ]
      refine till_take (i := 45) (v := ?_) [46] rfl (by kernel_rfl) (by kernel_rfl) (by kernel_rfl) (by kernel_rfl) (fun _ _ _ h => h) (Or.inl ⟨by rfl, ?_⟩) (by assumption) ?_
      rotate_left
      · (intro w hSw; (try dsimp only at hSw); go_simp; try with_reducible rfl)
      simp only [Act.put, List.getElem_toArray, List.getElem_cons_succ, List.getElem_cons_zero, List.setIfInBounds_toArray, List.set_cons_zero, List.set_cons_succ]
      refine till_out (i := 46) (by kernel_rfl) rfl (by kernel_rfl) (fun K hK => ?_)
      go_simp
      refine hK.out _ _ ?_
      clear hK K
      try simp only [Act.put, List.getElem_toArray, List.getElem_cons_succ, List.getElem_cons_zero, List.setIfInBounds_toArray, List.set_cons_zero, List.set_cons_succ]
      refine till_done (by kernel_rfl) ?_ _
      go_wp2
      go_ret
      exact ⟨rfl, Below.step (unhide HB) HW⟩
    · have D := hide (show false = decide (z1 ∣ z0) from (decide_eq_false hd).symm)
      obtain ⟨s2, es2⟩ : ∃ s, s = (z0.tmod z1).sign := ⟨_, rfl⟩
      have hs2 : (s2 == 0) = false := by rw [beq_eq_false_iff_ne, es2]; exact fun e => hd (Int.dvd_of_tmod_eq_zero (Int.sign_eq_zero_iff_zero.1 e))
      have E := hide es2
      clear hd es2
      have HW : Below v11.heap.size v11 v11.drew := (Below.refl _ _).drew
      refine till_start (fun w' => w'.cell? ⟨w.heap.size, 0, none⟩ = some (.bool b0) ∧ w'.cell? ⟨w.heap.size, 1, none⟩ = some (.slice a0 len0 cap0) ∧ w'.cell? ⟨w.heap.size + 1, 0, none⟩ = some (.bool b1) ∧ w'.cell? ⟨w.heap.size + 1, 1, none⟩ = some (.slice a1 len1 cap1) ∧ w'.cell? ⟨v1.heap.size, 0, none⟩ = some (.bool bq) ∧ w'.cell? ⟨v1.heap.size, 1, none⟩ = some (.slice aq lq cq) ∧ w'.cell? ⟨v1.heap.size + 1, 0, none⟩ = some (.bool br) ∧ w'.cell? ⟨v1.heap.size + 1, 1, none⟩ = some (.slice ar lr cr) ∧ w'.cell? ⟨v3.heap.size, 0, none⟩ = some (.bool bp) ∧ w'.cell? ⟨v3.heap.size, 1, none⟩ = some (.slice ap lp cp) ∧ w'.cell? ⟨v3.heap.size + 1, 0, none⟩ = some (.bool bs) ∧ w'.cell? ⟨v3.heap.size + 1, 1, none⟩ = some (.slice as' ls cs) ∧ w'.cell? ⟨v5.heap.size, 0, none⟩ = some (.bool bn) ∧ w'.cell? ⟨v5.heap.size, 1, none⟩ = some (.slice an ln cn) ∧ w'.cell? ⟨v8.heap.size, 0, none⟩ = some (.bool bx) ∧ w'.cell? ⟨v8.heap.size, 1, none⟩ = some (.slice ax lx cx) ∧ w'.cell? ⟨v8.heap.size + 1, 0, none⟩ = some (.bool byy) ∧ w'.cell? ⟨v8.heap.size + 1, 1, none⟩ = some (.slice ayy lyy cyy) ∧ w'.cell? ⟨v10.heap.size, 0, none⟩ = some (.bool bu) ∧ w'.cell? ⟨v10.heap.size, 1, none⟩ = some (.slice au lu cu) ∧ w'.cell? ⟨v10.heap.size + 1, 0, none⟩ = some (.bool bvv) ∧ w'.cell? ⟨v10.heap.size + 1, 1, none⟩ = some (.slice avv lvv cvv)) 46 (by kernel_rfl) ?_ (fun hHeld => ?_)
      · exact ⟨(P0.later HW).facts.1, (P0.later HW).facts.2.1, (P1.later HW).facts.1, (P1.later HW).facts.2.1, (Bq.later HW).facts.1, (Bq.later HW).facts.2.1, (Br.later HW).facts.1, (Br.later HW).facts.2.1, (Bp.later HW).facts.1, (Bp.later HW).facts.2.1, (Bs.later HW).facts.1, (Bs.later HW).facts.2.1, (Bn.later HW).facts.1, (Bn.later HW).facts.2.1, (Bx.later HW).facts.1, (Bx.later HW).facts.2.1, (By.later HW).facts.1, (By.later HW).facts.2.1, (Bu.later HW).facts.1, (Bu.later HW).facts.2.1, (Bv.later HW).facts.1, (Bv.later HW).facts.2.1⟩
      refine till_take (i := 0) (v := ?_) [1, 2, 3, 4, 5, 6, 7, 8, 9, 10, 11, 12, 13, 14, 15, 16, 17, 18, 19, 20, 21, 22, 23, 24, 25, 26, 27, 28, 29, 30, 31, 32, 33, 34, 35, 36, 37, 38, 39, 40, 41, 42, 43, 44, 45, 46] rfl (by kernel_rfl) (by kernel_rfl) (by kernel_rfl) (by kernel_rfl) (fun _ _ _ h => h) (Or.inl ⟨by rfl, ?_⟩) (by assumption) ?_
      rotate_left
      · (intro w hSw; (try dsimp only at hSw); go_simp; try with_reducible rfl)
      simp only [Act.put, List.getElem_toArray, List.getElem_cons_zero, List.setIfInBounds_toArray, List.set_cons_zero, List.set_cons_succ]
      refine till_take (i := 1) (v := ?_) [2, 3, 4, 5, 6, 7, 8, 9, 10, 11, 12, 13, 14, 15, 16, 17, 18, 19, 20, 21, 22, 23, 24, 25, 26, 27, 28, 29, 30, 31, 32, 33, 34, 35, 36, 37, 38, 39, 40, 41, 42, 43, 44, 45, 46] rfl (by kernel_rfl) (by kernel_rfl) (by kernel_rfl) (by kernel_rfl) (fun _ _ _ h => h) (Or.inl ⟨by rfl, ?_⟩) (by assumption) ?_
      rotate_left
      · (intro w hSw; (try dsimp only at hSw); go_simp; try with_reducible rfl)
      simp only [Act.put, List.getElem_toArray, List.getElem_cons_succ, List.getElem_cons_zero, List.setIfInBounds_toArray, List.set_cons_zero, List.set_cons_succ]
      refine till_take (i := 2) (v := ?_) [3, 4, 5, 6, 7, 8, 9, 10, 11, 12, 13, 14, 15, 16, 17, 18, 19, 20, 21, 22, 23, 24, 25, 26, 27, 28, 29, 30, 31, 32, 33, 34, 35, 36, 37, 38, 39, 40, 41, 42, 43, 44, 45, 46] rfl (by kernel_rfl) (by kernel_rfl) (by kernel_rfl) (by kernel_rfl) (fun _ _ _ h => h) (Or.inl ⟨by rfl, ?_⟩) (by assumption) ?_
      rotate_left
      · (intro w hSw; (try dsimp only at hSw); go_simp; try with_reducible rfl)
      simp only [Act.put, List.getElem_toArray, List.getElem_cons_succ, List.getElem_cons_zero, List.setIfInBounds_toArray, List.set_cons_zero, List.set_cons_succ]
      refine till_take (i := 3) (v := ?_) [4, 5, 6, 7, 8, 9, 10, 11, 12, 13, 14, 15, 16, 17, 18, 19, 20, 21, 22, 23, 24, 25, 26, 27, 28, 29, 30, 31, 32, 33, 34, 35, 36, 37, 38, 39, 40, 41, 42, 43, 44, 45, 46] rfl (by kernel_rfl) (by kernel_rfl) (by kernel_rfl) (by kernel_rfl) (fun _ _ _ h => h) (Or.inl ⟨by rfl, ?_⟩) (by assumption) ?_
      rotate_left
      · (intro w hSw; (try dsimp only at hSw); go_simp; try with_reducible rfl)
      simp only [Act.put, List.getElem_toArray, List.getElem_cons_succ, List.getElem_cons_zero, List.setIfInBounds_toArray, List.set_cons_zero, List.set_cons_succ]
      refine till_take (i := 4) (v := ?_) [5, 6, 7, 8, 9, 10, 11, 12, 13, 14, 15, 16, 17, 18, 19, 20, 21, 22, 23, 24, 25, 26, 27, 28, 29, 30, 31, 32, 33, 34, 35, 36, 37, 38, 39, 40, 41, 42, 43, 44, 45, 46] rfl (by kernel_rfl) (by kernel_rfl) (by kernel_rfl) (by kernel_rfl) (fun _ _ _ h => h) (Or.inl ⟨by rfl, ?_⟩) (by assumption) ?_
      rotate_left
      · (intro w hSw; (try dsimp only at hSw); go_simp; try with_reducible rfl)
      simp only [Act.put, List.getElem_toArray, List.getElem_cons_succ, List.getElem_cons_zero, List.setIfInBounds_toArray, List.set_cons_zero, List.set_cons_succ]
      refine till_take (i := 5) (v := ?_) [6, 7, 8, 9, 10, 11, 12, 13, 14, 15, 16, 17, 18, 19, 20, 21, 22, 23, 24, 25, 26, 27, 28, 29, 30, 31, 32, 33, 34, 35, 36, 37, 38, 39, 40, 41, 42, 43, 44, 45, 46] rfl (by kernel_rfl) (by kernel_rfl) (by kernel_rfl) (by kernel_rfl) (fun _ _ _ h => h) (Or.inl ⟨by rfl, ?_⟩) (by assumption) ?_
      rotate_left
      · (intro w hSw; (try dsimp only at hSw); go_simp; try with_reducible rfl)
      simp only [Act.put, List.getElem_toArray, List.getElem_cons_succ, List.getElem_cons_zero, List.setIfInBounds_toArray, List.set_cons_zero, List.set_cons_succ]
      refine till_take (i := 6) (v := ?_) [7, 8, 9, 10, 11, 12, 13, 14, 15, 16, 17, 18, 19, 20, 21, 22, 23, 24, 25, 26, 27, 28, 29, 30, 31, 32, 33, 34, 35, 36, 37, 38, 39, 40, 41, 42, 43, 44, 45, 46] rfl (by kernel_rfl) (by kernel_rfl) (by kernel_rfl) (by kernel_rfl) (fun _ _ _ h => h) (Or.inl ⟨by rfl, ?_⟩) (by assumption) ?_
      rotate_left
      · (intro w hSw; (try dsimp only at hSw); go_simp; try with_reducible rfl)
      simp only [Act.put, List.getElem_toArray, List.getElem_cons_succ, List.getElem_cons_zero, List.setIfInBounds_toArray, List.set_cons_zero, List.set_cons_succ]
      refine till_take (i := 7) (v := ?_) [8, 9, 10, 11, 12, 13, 14, 15, 16, 17, 18, 19, 20, 21, 22, 23, 24, 25, 26, 27, 28, 29, 30, 31, 32, 33, 34, 35, 36, 37, 38, 39, 40, 41, 42, 43, 44, 45, 46] rfl (by kernel_rfl) (by kernel_rfl) (by kernel_rfl) (by kernel_rfl) (fun _ _ _ h => h) (Or.inl ⟨by rfl, ?_⟩) (by assumption) ?_
      rotate_left
      · (intro w hSw; (try dsimp only at hSw); go_simp; try with_reducible rfl)
      simp only [Act.put, List.getElem_toArray, List.getElem_cons_succ, List.getElem_cons_zero, List.setIfInBounds_toArray, List.set_cons_zero, List.set_cons_succ]
      refine till_take (i := 8) (v := ?_) [10, 11, 12, 13, 14, 15, 16, 17, 18, 19, 20, 21, 22, 23, 24, 25, 26, 27, 28, 29, 30, 31, 32, 33, 34, 35, 36, 37, 38, 39, 40, 41, 42, 43, 44, 45, 46] rfl (by kernel_rfl) (by kernel_rfl) (by kernel_rfl) (by kernel_rfl) (fun _ _ _ h => h) (Or.inl ⟨by rfl, ?_⟩) (by assumption) ?_
      rotate_left
      · (intro w hSw; (try dsimp only at hSw); go_simp; try with_reducible rfl)
      simp only [Act.put, List.getElem_toArray, List.getElem_cons_succ, List.getElem_cons_zero, List.setIfInBounds_toArray, List.set_cons_zero, List.set_cons_succ]
      refine till_take (i := 9) (v := ?_) [10, 11, 12, 13, 14, 15, 16, 17, 18, 19, 20, 21, 22, 23, 24, 25, 26, 27, 28, 29, 30, 31, 32, 33, 34, 35, 36, 37, 38, 39, 40, 41, 42, 43, 44, 45, 46] rfl (by kernel_rfl) (by kernel_rfl) (by kernel_rfl) (by kernel_rfl) (fun _ _ _ h => h) (Or.inl ⟨by rfl, ?_⟩) (by assumption) ?_
      rotate_left
      · (intro w hSw; (try dsimp only at hSw); go_simp; try with_reducible rfl)
      simp only [Act.put, List.getElem_toArray, List.getElem_cons_succ, List.getElem_cons_zero, List.setIfInBounds_toArray, List.set_cons_zero, List.set_cons_succ]
      refine till_in (i := 10) (by kernel_rfl) rfl (fun K hK => ?_)
      go_simp
      refine (rsameK bq aq lq cq (z0.tdiv z1) 20 bx ax lx cx (z0.tdiv z1) 20 _ (hq.later HW) (hx.later HW) rfl).mono ?_
      rintro e v301 ⟨rfl, hb9⟩
      replace HW := Below.step HW hb9
      clear hb9
      refine hK.out _ _ ?_ (fun hHeld => ?_)
      · exact ⟨(P0.later HW).facts.1, (P0.later HW).facts.2.1, (P1.later HW).facts.1, (P1.later HW).facts.2.1, (Bq.later HW).facts.1, (Bq.later HW).facts.2.1, (Br.later HW).facts.1, (Br.later HW).facts.2.1, (Bp.later HW).facts.1, (Bp.later HW).facts.2.1, (Bs.later HW).facts.1, (Bs.later HW).facts.2.1, (Bn.later HW).facts.1, (Bn.later HW).facts.2.1, (Bx.later HW).facts.1, (Bx.later HW).facts.2.1, (By.later HW).facts.1, (By.later HW).facts.2.1, (Bu.later HW).facts.1, (Bu.later HW).facts.2.1, (Bv.later HW).facts.1, (Bv.later HW).facts.2.1⟩
      clear hK K
      try simp only [Act.put, List.getElem_toArray, List.getElem_cons_succ, List.getElem_cons_zero, List.setIfInBounds_toArray, List.set_cons_zero, List.set_cons_succ]
      refine till_take (i := 11) (v := ?_) [12, 13, 14, 15, 16, 17, 18, 19, 20, 21, 22, 23, 24, 25, 26, 27, 28, 29, 30, 31, 32, 33, 34, 35, 36, 37, 38, 39, 40, 41, 42, 43, 44, 45, 46] rfl (by kernel_rfl) (by kernel_rfl) (by kernel_rfl) (by kernel_rfl) (fun _ _ _ h => h) (Or.inl ⟨by rfl, ?_⟩) (by assumption) ?_
      rotate_left
      · (intro w hSw; (try dsimp only at hSw); go_simp; try with_reducible rfl)
      simp only [Act.put, List.getElem_toArray, List.getElem_cons_succ, List.getElem_cons_zero, List.setIfInBounds_toArray, List.set_cons_zero, List.set_cons_succ]
      refine till_take (i := 12) (v := ?_) [13, 14, 15, 16, 17, 18, 19, 20, 21, 22, 23, 24, 25, 26, 27, 28, 29, 30, 31, 32, 33, 34, 35, 36, 37, 38, 39, 40, 41, 42, 43, 44, 45, 46] rfl (by kernel_rfl) (by kernel_rfl) (by kernel_rfl) (by kernel_rfl) (fun _ _ _ h => h) (Or.inl ⟨by rfl, ?_⟩) (by assumption) ?_
      rotate_left
      · (intro w hSw; (try dsimp only at hSw); go_simp; try with_reducible rfl)
      simp only [Act.put, List.getElem_toArray, List.getElem_cons_succ, List.getElem_cons_zero, List.setIfInBounds_toArray, List.set_cons_zero, List.set_cons_succ]
      refine till_take (i := 13) (v := ?_) [15, 16, 17, 18, 19, 20, 21, 22, 23, 24, 25, 26, 27, 28, 29, 30, 31, 32, 33, 34, 35, 36, 37, 38, 39, 40, 41, 42, 43, 44, 45, 46] rfl (by kernel_rfl) (by kernel_rfl) (by kernel_rfl) (by kernel_rfl) (fun _ _ _ h => h) (Or.inl ⟨by rfl, ?_⟩) (by assumption) ?_
      rotate_left
      · (intro w hSw; (try dsimp only at hSw); go_simp; try with_reducible rfl)
      simp only [Act.put, List.getElem_toArray, List.getElem_cons_succ, List.getElem_cons_zero, List.setIfInBounds_toArray, List.set_cons_zero, List.set_cons_succ]
      refine till_take (i := 14) (v := ?_) [15, 16, 17, 18, 19, 20, 21, 22, 23, 24, 25, 26, 27, 28, 29, 30, 31, 32, 33, 34, 35, 36, 37, 38, 39, 40, 41, 42, 43, 44, 45, 46] rfl (by kernel_rfl) (by kernel_rfl) (by kernel_rfl) (by kernel_rfl) (fun _ _ _ h => h) (Or.inl ⟨by rfl, ?_⟩) (by assumption) ?_
      rotate_left
      · (intro w hSw; (try dsimp only at hSw); go_simp; try with_reducible rfl)
      simp only [Act.put, List.getElem_toArray, List.getElem_cons_succ, List.getElem_cons_zero, List.setIfInBounds_toArray, List.set_cons_zero, List.set_cons_succ]
      refine till_in (i := 15) (by kernel_rfl) rfl (fun K hK => ?_)
      go_simp
      refine (rsameK br ar lr cr (z0.tmod z1) 20 byy ayy lyy cyy (z0.tmod z1) 20 _ (hr.later HW) (hyy.later HW) rfl).mono ?_
      rintro e v302 ⟨rfl, hb9⟩
      replace HW := Below.step HW hb9
      clear hb9
      refine hK.out _ _ ?_ (fun hHeld => ?_)
      · exact ⟨(P0.later HW).facts.1, (P0.later HW).facts.2.1, (P1.later HW).facts.1, (P1.later HW).facts.2.1, (Bq.later HW).facts.1, (Bq.later HW).facts.2.1, (Br.later HW).facts.1, (Br.later HW).facts.2.1, (Bp.later HW).facts.1, (Bp.later HW).facts.2.1, (Bs.later HW).facts.1, (Bs.later HW).facts.2.1, (Bn.later HW).facts.1, (Bn.later HW).facts.2.1, (Bx.later HW).facts.1, (Bx.later HW).facts.2.1, (By.later HW).facts.1, (By.later HW).facts.2.1, (Bu.later HW).facts.1, (Bu.later HW).facts.2.1, (Bv.later HW).facts.1, (Bv.later HW).facts.2.1⟩
      clear hK K
      try simp only [Act.put, List.getElem_toArray, List.getElem_cons_succ, List.getElem_cons_zero, List.setIfInBounds_toArray, List.set_cons_zero, List.set_cons_succ]
      refine till_take (i := 16) (v := ?_) [17, 18, 19, 20, 21, 22, 23, 24, 25, 26, 27, 28, 29, 30, 31, 32, 33, 34, 35, 36, 37, 38, 39, 40, 41, 42, 43, 44, 45, 46] rfl (by kernel_rfl) (by kernel_rfl) (by kernel_rfl) (by kernel_rfl) (fun _ _ _ h => h) (Or.inl ⟨by rfl, ?_⟩) (by assumption) ?_
      rotate_left
      · (intro w hSw; (try dsimp only at hSw); go_simp; try with_reducible rfl)
      simp only [Act.put, List.getElem_toArray, List.getElem_cons_succ, List.getElem_cons_zero, List.setIfInBounds_toArray, List.set_cons_zero, List.set_cons_succ]
      refine till_take (i := 17) (v := ?_) [18, 19, 20, 21, 22, 23, 24, 25, 26, 27, 28, 29, 30, 31, 32, 33, 34, 35, 36, 37, 38, 39, 40, 41, 42, 43, 44, 45, 46] rfl (by kernel_rfl) (by kernel_rfl) (by kernel_rfl) (by kernel_rfl) (fun _ _ _ h => h) (Or.inl ⟨by rfl, ?_⟩) (by assumption) ?_
      rotate_left
      · (intro w hSw; (try dsimp only at hSw); go_simp; try with_reducible rfl)
      simp only [Act.put, List.getElem_toArray, List.getElem_cons_succ, List.getElem_cons_zero, List.setIfInBounds_toArray, List.set_cons_zero, List.set_cons_succ]
      refine till_take (i := 18) (v := ?_) [20, 21, 22, 23, 24, 25, 26, 27, 28, 29, 30, 31, 32, 33, 34, 35, 36, 37, 38, 39, 40, 41, 42, 43, 44, 45, 46] rfl (by kernel_rfl) (by kernel_rfl) (by kernel_rfl) (by kernel_rfl) (fun _ _ _ h => h) (Or.inl ⟨by rfl, ?_⟩) (by assumption) ?_
      rotate_left
      · (intro w hSw; (try dsimp only at hSw); go_simp; try with_reducible rfl)
      simp only [Act.put, List.getElem_toArray, List.getElem_cons_succ, List.getElem_cons_zero, List.setIfInBounds_toArray, List.set_cons_zero, List.set_cons_succ]
      refine till_take (i := 19) (v := ?_) [20, 21, 22, 23, 24, 25, 26, 27, 28, 29, 30, 31, 32, 33, 34, 35, 36, 37, 38, 39, 40, 41, 42, 43, 44, 45, 46] rfl (by kernel_rfl) (by kernel_rfl) (by kernel_rfl) (by kernel_rfl) (fun _ _ _ h => h) (Or.inl ⟨by rfl, ?_⟩) (by assumption) ?_
      rotate_left
      · (intro w hSw; (try dsimp only at hSw); go_simp; try with_reducible rfl)
      simp only [Act.put, List.getElem_toArray, List.getElem_cons_succ, List.getElem_cons_zero, List.setIfInBounds_toArray, List.set_cons_zero, List.set_cons_succ]
      refine till_in (i := 20) (by kernel_rfl) rfl (fun K hK => ?_)
      go_simp
      refine (rsameK bp ap lp cp (z0 / z1) 20 bu au lu cu (z0 / z1) 20 _ (hp.later HW) (hu.later HW) rfl).mono ?_
      rintro e v303 ⟨rfl, hb9⟩
      replace HW := Below.step HW hb9
      clear hb9
      refine hK.out _ _ ?_ (fun hHeld => ?_)
      · exact ⟨(P0.later HW).facts.1, (P0.later HW).facts.2.1, (P1.later HW).facts.1, (P1.later HW).facts.2.1, (Bq.later HW).facts.1, (Bq.later HW).facts.2.1, (Br.later HW).facts.1, (Br.later HW).facts.2.1, (Bp.later HW).facts.1, (Bp.later HW).facts.2.1, (Bs.later HW).facts.1, (Bs.later HW).facts.2.1, (Bn.later HW).facts.1, (Bn.later HW).facts.2.1, (Bx.later HW).facts.1, (Bx.later HW).facts.2.1, (By.later HW).facts.1, (By.later HW).facts.2.1, (Bu.later HW).facts.1, (Bu.later HW).facts.2.1, (Bv.later HW).facts.1, (Bv.later HW).facts.2.1⟩
      clear hK K
      try simp only [Act.put, List.getElem_toArray, List.getElem_cons_succ, List.getElem_cons_zero, List.setIfInBounds_toArray, List.set_cons_zero, List.set_cons_succ]
      refine till_take (i := 21) (v := ?_) [22, 23, 24, 25, 26, 27, 28, 29, 30, 31, 32, 33, 34, 35, 36, 37, 38, 39, 40, 41, 42, 43, 44, 45, 46] rfl (by kernel_rfl) (by kernel_rfl) (by kernel_rfl) (by kernel_rfl) (fun _ _ _ h => h) (Or.inl ⟨by rfl, ?_⟩) (by assumption) ?_
      rotate_left
      · (intro w hSw; (try dsimp only at hSw); go_simp; try with_reducible rfl)
      simp only [Act.put, List.getElem_toArray, List.getElem_cons_succ, List.getElem_cons_zero, List.setIfInBounds_toArray, List.set_cons_zero, List.set_cons_succ]
      refine till_take (i := 22) (v := ?_) [23, 24, 25, 26, 27, 28, 29, 30, 31, 32, 33, 34, 35, 36, 37, 38, 39, 40, 41, 42, 43, 44, 45, 46] rfl (by kernel_rfl) (by kernel_rfl) (by kernel_rfl) (by kernel_rfl) (fun _ _ _ h => h) (Or.inl ⟨by rfl, ?_⟩) (by assumption) ?_
      rotate_left
      · (intro w hSw; (try dsimp only at hSw); go_simp; try with_reducible rfl)
      simp only [Act.put, List.getElem_toArray, List.getElem_cons_succ, List.getElem_cons_zero, List.setIfInBounds_toArray, List.set_cons_zero, List.set_cons_succ]
      refine till_take (i := 23) (v := ?_) [25, 26, 27, 28, 29, 30, 31, 32, 33, 34, 35, 36, 37, 38, 39, 40, 41, 42, 43, 44, 45, 46] rfl (by kernel_rfl) (by kernel_rfl) (by kernel_rfl) (by kernel_rfl) (fun _ _ _ h => h) (Or.inl ⟨by rfl, ?_⟩) (by assumption) ?_
      rotate_left
      · (intro w hSw; (try dsimp only at hSw); go_simp; try with_reducible rfl)
      simp only [Act.put, List.getElem_toArray, List.getElem_cons_succ, List.getElem_cons_zero, List.setIfInBounds_toArray, List.set_cons_zero, List.set_cons_succ]
      refine till_take (i := 24) (v := ?_) [25, 26, 27, 28, 29, 30, 31, 32, 33, 34, 35, 36, 37, 38, 39, 40, 41, 42, 43, 44, 45, 46] rfl (by kernel_rfl) (by kernel_rfl) (by kernel_rfl) (by kernel_rfl) (fun _ _ _ h => h) (Or.inl ⟨by rfl, ?_⟩) (by assumption) ?_
      rotate_left
      · (intro w hSw; (try dsimp only at hSw); go_simp; try with_reducible rfl)
      simp only [Act.put, List.getElem_toArray, List.getElem_cons_succ, List.getElem_cons_zero, List.setIfInBounds_toArray, List.set_cons_zero, List.set_cons_succ]
      refine till_in (i := 25) (by kernel_rfl) rfl (fun K hK => ?_)
      go_simp
      refine (rsameK bs as' ls cs (z0 % z1) 20 bvv avv lvv cvv (z0 % z1) 20 _ (hs.later HW) (hvv.later HW) rfl).mono ?_
      rintro e v304 ⟨rfl, hb9⟩
      replace HW := Below.step HW hb9
      clear hb9
      refine hK.out _ _ ?_ (fun hHeld => ?_)
      · exact ⟨(P0.later HW).facts.1, (P0.later HW).facts.2.1, (P1.later HW).facts.1, (P1.later HW).facts.2.1, (Bq.later HW).facts.1, (Bq.later HW).facts.2.1, (Br.later HW).facts.1, (Br.later HW).facts.2.1, (Bp.later HW).facts.1, (Bp.later HW).facts.2.1, (Bs.later HW).facts.1, (Bs.later HW).facts.2.1, (Bn.later HW).facts.1, (Bn.later HW).facts.2.1, (Bx.later HW).facts.1, (Bx.later HW).facts.2.1, (By.later HW).facts.1, (By.later HW).facts.2.1, (Bu.later HW).facts.1, (Bu.later HW).facts.2.1, (Bv.later HW).facts.1, (Bv.later HW).facts.2.1⟩
      clear hK K
      try simp only [Act.put, List.getElem_toArray, List.getElem_cons_succ, List.getElem_cons_zero, List.setIfInBounds_toArray, List.set_cons_zero, List.set_cons_succ]
      refine till_take (i := 26) (v := ?_) [27, 28, 29, 30, 31, 32, 33, 34, 35, 36, 37, 38, 39, 40, 41, 42, 43, 44, 45, 46] rfl (by kernel_rfl) (by kernel_rfl) (by kernel_rfl) (by kernel_rfl) (fun _ _ _ h => h) (Or.inl ⟨by rfl, ?_⟩) (by assumption) ?_
      rotate_left
      · (intro w hSw; (try dsimp only at hSw); go_simp; try with_reducible rfl)
      simp only [Act.put, List.getElem_toArray, List.getElem_cons_succ, List.getElem_cons_zero, List.setIfInBounds_toArray, List.set_cons_zero, List.set_cons_succ]
      refine till_take (i := 27) (v := ?_) [28, 29, 30, 31, 32, 33, 34, 35, 36, 37, 38, 39, 40, 41, 42, 43, 44, 45, 46] rfl (by kernel_rfl) (by kernel_rfl) (by kernel_rfl) (by kernel_rfl) (fun _ _ _ h => h) (Or.inl ⟨by rfl, ?_⟩) (by assumption) ?_
      rotate_left
      · (intro w hSw; (try dsimp only at hSw); go_simp; try with_reducible rfl)
      simp only [Act.put, List.getElem_toArray, List.getElem_cons_succ, List.getElem_cons_zero, List.setIfInBounds_toArray, List.set_cons_zero, List.set_cons_succ]
      refine till_take (i := 28) (v := ?_) [32, 33, 34, 35, 36, 37, 38, 39, 40, 41, 42, 43, 44, 45, 46] rfl (by kernel_rfl) (by kernel_rfl) (by kernel_rfl) (by kernel_rfl) (fun _ _ _ h => h) (Or.inl ⟨by rfl, ?_⟩) (by assumption) ?_
      rotate_left
      · (intro w hSw; (try dsimp only at hSw); go_simp; try with_reducible rfl)
      simp only [Act.put, List.getElem_toArray, List.getElem_cons_succ, List.getElem_cons_zero, List.setIfInBounds_toArray, List.set_cons_zero, List.set_cons_succ]
      refine till_take (i := 29) (v := ?_) [31, 32, 33, 34, 35, 36, 37, 38, 39, 40, 41, 42, 43, 44, 45, 46] rfl (by kernel_rfl) (by kernel_rfl) (by kernel_rfl) (by kernel_rfl) (fun _ _ _ h => h) (Or.inl ⟨by rfl, ?_⟩) (by assumption) ?_
      rotate_left
      · (intro w hSw; (try dsimp only at hSw); go_simp; try with_reducible rfl)
      simp only [Act.put, List.getElem_toArray, List.getElem_cons_succ, List.getElem_cons_zero, List.setIfInBounds_toArray, List.set_cons_zero, List.set_cons_succ]
      refine till_take (i := 30) (v := ?_) [31, 32, 33, 34, 35, 36, 37, 38, 39, 40, 41, 42, 43, 44, 45, 46] rfl (by kernel_rfl) (by kernel_rfl) (by kernel_rfl) (by kernel_rfl) (fun _ _ _ h => h) (Or.inl ⟨by rfl, ?_⟩) (by assumption) ?_
      rotate_left
      · (intro w hSw; (try dsimp only at hSw); go_simp; try with_reducible rfl)
      simp only [Act.put, List.getElem_toArray, List.getElem_cons_succ, List.getElem_cons_zero, List.setIfInBounds_toArray, List.set_cons_zero, List.set_cons_succ]
      refine till_in (i := 31) (by kernel_rfl) rfl (fun K hK => ?_)
      go_simp
      refine (rnearK b0 a0 len0 cap0 z0 20 b1 a1 len1 cap1 z1 20 _ (h0.later HW) (h1.later HW) (unhide N1) (by omega) (by omega)).mono ?_
      rintro e v305 ⟨bk, ak, lk, ck, rfl, hk, hb9⟩
      replace HW := Below.step HW hb9
      clear hb9
      refine hK.out _ _ ?_ (fun hHeld => ?_)
      · exact ⟨(P0.later HW).facts.1, (P0.later HW).facts.2.1, (P1.later HW).facts.1, (P1.later HW).facts.2.1, (Bq.later HW).facts.1, (Bq.later HW).facts.2.1, (Br.later HW).facts.1, (Br.later HW).facts.2.1, (Bp.later HW).facts.1, (Bp.later HW).facts.2.1, (Bs.later HW).facts.1, (Bs.later HW).facts.2.1, (Bn.later HW).facts.1, (Bn.later HW).facts.2.1, (Bx.later HW).facts.1, (Bx.later HW).facts.2.1, (By.later HW).facts.1, (By.later HW).facts.2.1, (Bu.later HW).facts.1, (Bu.later HW).facts.2.1, (Bv.later HW).facts.1, (Bv.later HW).facts.2.1⟩
      clear hK K
      try simp only [Act.put, List.getElem_toArray, List.getElem_cons_succ, List.getElem_cons_zero, List.setIfInBounds_toArray, List.set_cons_zero, List.set_cons_succ]
      refine till_in (i := 32) (by kernel_rfl) rfl (fun K hK => ?_)
      go_simp
      refine (rsameK bn an ln cn (near z0 z1) (max 20 2 + 1) bk ak lk ck (near z0 z1) (max (2 + 20) 20 + 1) _ (hn.later HW) hk rfl).mono ?_
      rintro e v306 ⟨rfl, hb9⟩
      replace HW := Below.step HW hb9
      replace hk := hk.later hb9
      clear hb9 hk
      refine hK.out _ _ ?_ (fun hHeld => ?_)
      · exact ⟨(P0.later HW).facts.1, (P0.later HW).facts.2.1, (P1.later HW).facts.1, (P1.later HW).facts.2.1, (Bq.later HW).facts.1, (Bq.later HW).facts.2.1, (Br.later HW).facts.1, (Br.later HW).facts.2.1, (Bp.later HW).facts.1, (Bp.later HW).facts.2.1, (Bs.later HW).facts.1, (Bs.later HW).facts.2.1, (Bn.later HW).facts.1, (Bn.later HW).facts.2.1, (Bx.later HW).facts.1, (Bx.later HW).facts.2.1, (By.later HW).facts.1, (By.later HW).facts.2.1, (Bu.later HW).facts.1, (Bu.later HW).facts.2.1, (Bv.later HW).facts.1, (Bv.later HW).facts.2.1⟩
      clear hK K
      try simp only [Act.put, List.getElem_toArray, List.getElem_cons_succ, List.getElem_cons_zero, List.setIfInBounds_toArray, List.set_cons_zero, List.set_cons_succ]
      refine till_take (i := 33) (v := ?_) [34, 35, 36, 37, 38, 39, 40, 41, 42, 43, 44, 45, 46] rfl (by kernel_rfl) (by kernel_rfl) (by kernel_rfl) (by kernel_rfl) (fun _ _ _ h => h) (Or.inl ⟨by rfl, ?_⟩) (by assumption) ?_
      rotate_left
      · (intro w hSw; (try dsimp only at hSw); go_simp; try with_reducible rfl)
      simp only [Act.put, List.getElem_toArray, List.getElem_cons_succ, List.getElem_cons_zero, List.setIfInBounds_toArray, List.set_cons_zero, List.set_cons_succ]
      refine till_take (i := 34) (v := ?_) [35, 36, 37, 38, 39, 40, 41, 42, 43, 44, 45, 46] rfl (by kernel_rfl) (by kernel_rfl) (by kernel_rfl) (by kernel_rfl) (fun _ _ _ h => h) (Or.inl ⟨by rfl, ?_⟩) (by assumption) ?_
      rotate_left
      · (intro w hSw; (try dsimp only at hSw); go_simp; try with_reducible rfl)
      simp only [Act.put, List.getElem_toArray, List.getElem_cons_succ, List.getElem_cons_zero, List.setIfInBounds_toArray, List.set_cons_zero, List.set_cons_succ]
      refine till_take (i := 35) (v := ?_) [37, 39, 40, 41, 42, 43, 44, 45, 46] rfl (by kernel_rfl) (by kernel_rfl) (by kernel_rfl) (by kernel_rfl) (fun _ _ _ h => h) (Or.inl ⟨by rfl, ?_⟩) (by assumption) ?_
      rotate_left
      · (intro w hSw; (try dsimp only at hSw); go_simp; try with_reducible rfl)
      simp only [Act.put, List.getElem_toArray, List.getElem_cons_succ, List.getElem_cons_zero, List.setIfInBounds_toArray, List.set_cons_zero, List.set_cons_succ]
      refine till_take (i := 36) (v := ?_) [37, 39, 40, 41, 42, 43, 44, 45, 46] rfl (by kernel_rfl) (by kernel_rfl) (by kernel_rfl) (by kernel_rfl) (fun _ _ _ h => h) (Or.inl ⟨by rfl, ?_⟩) (by assumption) ?_
      rotate_left
      · (intro w hSw; (try dsimp only at hSw); go_simp; try with_reducible rfl)
      simp only [Act.put, List.getElem_toArray, List.getElem_cons_succ, List.getElem_cons_zero, List.setIfInBounds_toArray, List.set_cons_zero, List.set_cons_succ]
      refine till_take (i := 38) (v := ?_) [39, 40, 41, 42, 43, 44, 45, 46] rfl (by kernel_rfl) (by kernel_rfl) (by kernel_rfl) (by kernel_rfl) (fun _ _ _ h => h) (Or.inl ⟨by rfl, ?_⟩) (by assumption) ?_
      rotate_left
      · (intro w hSw; (try dsimp only at hSw); go_simp; try with_reducible rfl)
      simp only [Act.put, List.getElem_toArray, List.getElem_cons_succ, List.getElem_cons_zero, List.setIfInBounds_toArray, List.set_cons_zero, List.set_cons_succ]
      refine till_in (i := 37) (by kernel_rfl) rfl (fun K hK => ?_)
      go_simp
      refine (dividesK b1 a1 len1 cap1 z1 20 b0 a0 len0 cap0 z0 20 false _ (h1.later HW) (h0.later HW) (unhide D)).mono ?_
      rintro e v307 ⟨rfl, hb9⟩
      replace HW := Below.step HW hb9
      clear hb9
      refine hK.out _ _ ?_ (fun hHeld => ?_)
      · exact ⟨(P0.later HW).facts.1, (P0.later HW).facts.2.1, (P1.later HW).facts.1, (P1.later HW).facts.2.1, (Bq.later HW).facts.1, (Bq.later HW).facts.2.1, (Br.later HW).facts.1, (Br.later HW).facts.2.1, (Bp.later HW).facts.1, (Bp.later HW).facts.2.1, (Bs.later HW).facts.1, (Bs.later HW).facts.2.1, (Bn.later HW).facts.1, (Bn.later HW).facts.2.1, (Bx.later HW).facts.1, (Bx.later HW).facts.2.1, (By.later HW).facts.1, (By.later HW).facts.2.1, (Bu.later HW).facts.1, (Bu.later HW).facts.2.1, (Bv.later HW).facts.1, (Bv.later HW).facts.2.1⟩
      clear hK K
      try simp only [Act.put, List.getElem_toArray, List.getElem_cons_succ, List.getElem_cons_zero, List.setIfInBounds_toArray, List.set_cons_zero, List.set_cons_succ]
      refine till_in (i := 39) (by kernel_rfl) rfl (fun K hK => ?_)
      go_simp
      refine (rsignK byy ayy lyy cyy (z0.tmod z1) 20 s2 _ ((hyy.later HW).ik (by omega)) (unhide E)).mono ?_
      rintro e v308 ⟨rfl, hb9⟩
      replace HW := Below.step HW hb9
      clear hb9
      refine hK.out _ _ ?_ (fun hHeld => ?_)
      · exact ⟨(P0.later HW).facts.1, (P0.later HW).facts.2.1, (P1.later HW).facts.1, (P1.later HW).facts.2.1, (Bq.later HW).facts.1, (Bq.later HW).facts.2.1, (Br.later HW).facts.1, (Br.later HW).facts.2.1, (Bp.later HW).facts.1, (Bp.later HW).facts.2.1, (Bs.later HW).facts.1, (Bs.later HW).facts.2.1, (Bn.later HW).facts.1, (Bn.later HW).facts.2.1, (Bx.later HW).facts.1, (Bx.later HW).facts.2.1, (By.later HW).facts.1, (By.later HW).facts.2.1, (Bu.later HW).facts.1, (Bu.later HW).facts.2.1, (Bv.later HW).facts.1, (Bv.later HW).facts.2.1⟩
      clear hK K
      try simp only [Act.put, List.getElem_toArray, List.getElem_cons_succ, List.getElem_cons_zero, List.setIfInBounds_toArray, List.set_cons_zero, List.set_cons_succ]
      refine till_take (i := 40) (v := ?_) [41, 42, 43, 44, 45, 46] rfl (by kernel_rfl) (by kernel_rfl) (by kernel_rfl) (by kernel_rfl) (fun _ _ _ h => h) (Or.inl ⟨by rfl, ?_⟩) (by assumption) ?_
      rotate_left
      · (intro w hSw; (try dsimp only at hSw); go_simp; try with_reducible rfl)
      simp only [Act.put, List.getElem_toArray, List.getElem_cons_succ, List.getElem_cons_zero, List.setIfInBounds_toArray, List.set_cons_zero, List.set_cons_succ]
      refine till_take (i := 41) (v := ?_) [42, 43, 44, 45, 46] rfl (by kernel_rfl) (by kernel_rfl) (by kernel_rfl) (by kernel_rfl) (fun _ _ _ h => h) (Or.inl ⟨by rfl, ?_⟩) (by assumption) ?_
      rotate_left
      · (intro w hSw; (try dsimp only at hSw); go_simp; try with_reducible rfl)
      simp only [Act.put, List.getElem_toArray, List.getElem_cons_succ, List.getElem_cons_zero, List.setIfInBounds_toArray, List.set_cons_zero, List.set_cons_succ]
      refine till_take (i := 42) (v := ?_) [43, 44, 45, 46] rfl (by kernel_rfl) (by kernel_rfl) (by kernel_rfl) (by kernel_rfl) (fun _ _ _ h => h) (Or.inl ⟨by rfl, ?_⟩) (by assumption) ?_
      rotate_left
      · (intro w hSw; (try dsimp only at hSw); go_simp; try with_reducible rfl)
      simp only [Act.put, List.getElem_toArray, List.getElem_cons_succ, List.getElem_cons_zero, List.setIfInBounds_toArray, List.set_cons_zero, List.set_cons_succ]
      refine till_take (i := 43) (v := ?_) [44, 45, 46] rfl (by kernel_rfl) (by kernel_rfl) (by kernel_rfl) (by kernel_rfl) (fun _ _ _ h => h) (Or.inl ⟨by rfl, ?_⟩) (by assumption) ?_
      rotate_left
      · (intro w hSw; (try dsimp only at hSw); go_simp; try with_reducible rfl)
      simp only [Act.put, List.getElem_toArray, List.getElem_cons_succ, List.getElem_cons_zero, List.setIfInBounds_toArray, List.set_cons_zero, List.set_cons_succ]
      refine till_in (i := 44) (by kernel_rfl) rfl (fun K hK => ?_)
      go_simp
      refine (awake5_any _).mono ?_
      rintro e v309 ⟨rfl, hb9⟩
      replace HW := Below.step HW hb9
      clear hb9
      refine hK.out _ _ ?_ (fun hHeld => ?_)
      · exact ⟨(P0.later HW).facts.1, (P0.later HW).facts.2.1, (P1.later HW).facts.1, (P1.later HW).facts.2.1, (Bq.later HW).facts.1, (Bq.later HW).facts.2.1, (Br.later HW).facts.1, (Br.later HW).facts.2.1, (Bp.later HW).facts.1, (Bp.later HW).facts.2.1, (Bs.later HW).facts.1, (Bs.later HW).facts.2.1, (Bn.later HW).facts.1, (Bn.later HW).facts.2.1, (Bx.later HW).facts.1, (Bx.later HW).facts.2.1, (By.later HW).facts.1, (By.later HW).facts.2.1, (Bu.later HW).facts.1, (Bu.later HW).facts.2.1, (Bv.later HW).facts.1, (Bv.later HW).facts.2.1⟩
      clear hK K
      try simp only [Act.put, List.getElem_toArray, List.getElem_cons_succ, List.getElem_cons_zero, List.setIfInBounds_toArray, List.set_cons_zero, List.set_cons_succ]
      refine till_take (i := 45) (v := ?_) [46] rfl (by kernel_rfl) (by kernel_rfl) (by kernel_rfl) (by kernel_rfl) (fun _ _ _ h => h) (Or.inl ⟨by rfl, ?_⟩) (by assumption) ?_
      rotate_left
      · (intro w hSw; (try dsimp only at hSw); go_simp; try with_reducible rfl)
      simp only [Act.put, List.getElem_toArray, List.getElem_cons_succ, List.getElem_cons_zero, List.setIfInBounds_toArray, List.set_cons_zero, List.set_cons_succ]
      refine till_out (i := 46) (by kernel_rfl) rfl (by kernel_rfl) (fun K hK => ?_)
      go_simp
      refine hK.out _ _ ?_
      clear hK K
      try simp only [Act.put, List.getElem_toArray, List.getElem_cons_succ, List.getElem_cons_zero, List.setIfInBounds_toArray, List.set_cons_zero, List.set_cons_succ]
      refine till_done (by kernel_rfl) ?_ _
      go_wp2
      go_ret
      exact ⟨rfl, Below.step (unhide HB) HW⟩
  · have hf' : b = false := by simpa using hf
    subst hf'
    clear hb hf
    go_wp2_with fail
    refine (awake5_any _).mono ?_
    rintro e w2 ⟨rfl, hb2⟩
    go_wp2
    go_ret
    exact ⟨rfl, Below.step (unhide HB) hb2⟩

theorem quotTells_walk (b0 : Bool) (a0 : Option Addr) (len0 cap0 : Nat) (xs0 : List Nat) (b1 : Bool) (a1 : Option Addr) (len1 cap1 : Nat) (xs1 : List Nat) (w : World) (r0 : RowAt w a0 len0 cap0 xs0) (r1 : RowAt w a1 len1 cap1 xs1) :
    Calls Try.prog 3 #[.agg #[.bool b0, .slice a0 len0 cap0], .agg #[.bool b1, .slice a1 len1 cap1]] w fun e w' => e = .returned (.bool true) ∧ Below w.heap.size w w' := by
  by_cases h : sgnd b1 (Lb.val xs1) = 0
  · exact tells_zero b0 a0 len0 cap0 xs0 b1 a1 len1 cap1 xs1 w r0 r1 h
  · exact tells_more b0 a0 len0 cap0 xs0 b1 a1 len1 cap1 xs1 w r0 r1 h

#print axioms quotTells_walk
end Go.Proofs.Ytcafodggkhkpnaa
