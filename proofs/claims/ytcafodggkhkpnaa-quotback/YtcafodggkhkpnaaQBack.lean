/-
  The walk of QuotBack: it tells true.
-/
import Derived.Test.YtcafodggkhkpnaaFew5
import Derived.Test.YtcafodggkhkpnaaAwake5
import Derived.Test.YtcafodggkhkpnaaQTxtK
namespace Go.Proofs.Ytcafodggkhkpnaa
open Go.RowKit Lb

theorem cmp_neg1 {a b : Int} (h : a < b) : (-1 : Int) = (a - b).sign := (Int.sign_eq_neg_one_of_neg (by omega)).symm
theorem sign_prod (x y : Int) : 0 ≤ (x.tmod y).sign * x.sign ∧ (x.tmod y).sign * x.sign ≤ 1 := by
  rcases Int.lt_trichotomy x 0 with h | h | h
  · have h1 := Int.tmod_nonneg y (show 0 ≤ -x by omega)
    rw [Int.neg_tmod] at h1
    rw [Int.sign_eq_neg_one_of_neg h]
    rcases Int.lt_trichotomy (x.tmod y) 0 with c | c | c
    · rw [Int.sign_eq_neg_one_of_neg c]; decide
    · rw [c]; decide
    · omega
  · rw [h]; simp
  · have h1 := Int.tmod_nonneg y (show 0 ≤ x by omega)
    rw [Int.sign_eq_one_of_pos h]
    rcases Int.lt_trichotomy (x.tmod y) 0 with c | c | c
    · omega
    · rw [c]; decide
    · rw [Int.sign_eq_one_of_pos c]; decide

theorem intsIn2 {w : World} (b0 : Bool) (a0 : Option Addr) (len0 cap0 : Nat) (b1 : Bool) (a1 : Option Addr) (len1 cap1 : Nat) {n : Nat} (hn : n = w.heap.size) :
    IntsIn (w.alloc (.cells #[.bool b0, .slice a0 len0 cap0, .bool b1, .slice a1 len1 cap1] 24)) n 2 (fun i => if i = 0 then b0 else b1) (fun i => if i = 0 then a0 else a1) (fun i => if i = 0 then len0 else len1) (fun i => if i = 0 then cap0 else cap1) := by
  subst hn
  intro i hi
  match i with
  | 0 => simp
  | 1 => simp

set_option maxRecDepth 20000 in
set_option maxHeartbeats 8000000 in
theorem quotBack_walk (b0 : Bool) (a0 : Option Addr) (len0 cap0 : Nat) (xs0 : List Nat) (b1 : Bool) (a1 : Option Addr) (len1 cap1 : Nat) (xs1 : List Nat) (w : World) (r0 : RowAt w a0 len0 cap0 xs0) (r1 : RowAt w a1 len1 cap1 xs1) :
    Calls Try.prog 5 #[.agg #[.bool b0, .slice a0 len0 cap0], .agg #[.bool b1, .slice a1 len1 cap1]] w fun e w' => e = .returned (.bool true) ∧ Below w.heap.size w w' := by
  have hm0 := Nat.le_trans r0.cap_le r0.cap_max
  have hx0 := r0.int b0
  obtain ⟨z0, ez0⟩ : ∃ z, z = sgnd b0 (Lb.val xs0) := ⟨_, rfl⟩
  rw [← ez0] at hx0
  clear ez0 r0
  have hm1 := Nat.le_trans r1.cap_le r1.cap_max
  have hx1 := r1.int b1
  obtain ⟨z1, ez1⟩ : ∃ z, z = sgnd b1 (Lb.val xs1) := ⟨_, rfl⟩
  rw [← ez1] at hx1
  clear ez1 r1
  have HI := hide (intsIn2 (w := ((w.alloc (.cells #[.bool b0, .slice a0 len0 cap0] 24)).alloc (.cells #[.bool b1, .slice a1 len1 cap1] 24))) b0 a0 len0 cap0 b1 a1 len1 cap1 (n := w.heap.size + 2) (by simp))
  go_enter Try.func5, Try.ntmps5
  go_wp2_with fail
  refine (few5_any _ _ _ _ _ _ _ (unhide HI) (by omega) (by simp <;> omega) (by intro i _; (first | assumption | (split <;> assumption) | (split <;> (first | assumption | (split <;> assumption)))))).mono ?_
  rintro e w1 ⟨⟨b, rfl, hb⟩, hb1⟩
  obtain ⟨W0, hWe⟩ : ∃ W', W' = ((w.alloc (.cells #[.bool b0, .slice a0 len0 cap0] 24)).alloc (.cells #[.bool b1, .slice a1 len1 cap1] 24)) := ⟨_, rfl⟩
  obtain ⟨P0, P1, hb0⟩ := boxes2 w b0 a0 len0 cap0 b1 a1 len1 cap1 hWe
  rw [← hWe] at hb1
  clear hWe HI
  have hb2 := Below.step (below_one W0 _) hb1
  clear hb1
  replace P0 := P0.later hb2
  replace P1 := P1.later hb2
  have HB := hide (Below.step hb0 hb2)
  clear hb0 hb2
  by_cases hf : b = true
  · subst hf
    have e0 : len0 ≤ 20 := (hb.1 rfl) 0 (by omega)
    have e1 : len1 ≤ 20 := (hb.1 rfl) 1 (by omega)
    have h0 := ik_of (hx0.later (unhide HB)) e0 (by omega)
    have h1 := ik_of (hx1.later (unhide HB)) e1 (by omega)
    have L0 := hide e0
    have L1 := hide e1
    clear hb hm0 hx0 e0 hm1 hx1 e1
    obtain ⟨fP01, fP02, _, _⟩ := P0.facts
    go_wp2_with fail
    refine (textK _ _ _ _ z0 20 _ h0 (unhide L0)).mono ?_
    rintro e v1 ⟨tx, rfl, htx, hb9⟩
    clear fP01 fP02
    replace P0 := P0.later hb9
    replace P1 := P1.later hb9
    replace h0 := h0.later hb9
    replace h1 := h1.later hb9
    replace HB := hide (Below.step (unhide HB) hb9)
    clear hb9
    go_wp2_with fail
    refine (parseTxt tx z0 _ htx h0.2.2).mono ?_
    rintro e v2 ⟨bx, ax, lx, cx, rfl, hx, hb9⟩
    replace P0 := P0.later hb9
    replace P1 := P1.later hb9
    replace h0 := h0.later hb9
    replace h1 := h1.later hb9
    replace HB := hide (Below.step (unhide HB) hb9)
    clear hb9
    clear htx
    go_upto_region 4 with fail
    obtain ⟨v3, hWe⟩ : ∃ W', W' = (v2.alloc (.cells #[.bool bx, .slice ax lx cx] 24)) := ⟨_, rfl⟩
    obtain ⟨Bx, hb9⟩ := boxes1 v2 bx ax lx cx hWe
    rw [← hWe]
    clear hWe
    replace P0 := P0.later hb9
    replace P1 := P1.later hb9
    replace h0 := h0.later hb9
    replace h1 := h1.later hb9
    replace hx := hx.later hb9
    replace HB := hide (Below.step (unhide HB) hb9)
    clear hb9
    have HW : Below v3.heap.size v3 v3.drew := (Below.refl _ _).drew
    refine till_start (fun w' => w'.cell? ⟨w.heap.size, 0, none⟩ = some (.bool b0) ∧ w'.cell? ⟨w.heap.size, 1, none⟩ = some (.slice a0 len0 cap0) ∧ w'.cell? ⟨v2.heap.size, 0, none⟩ = some (.bool bx) ∧ w'.cell? ⟨v2.heap.size, 1, none⟩ = some (.slice ax lx cx)) 8 (by kernel_rfl) ?_ (fun hHeld => ?_)
    · exact ⟨(P0.later HW).facts.1, (P0.later HW).facts.2.1, (Bx.later HW).facts.1, (Bx.later HW).facts.2.1⟩
    refine till_take (i := 0) (v := ?_) [1, 2, 3, 4, 5, 6, 7, 8] rfl (by kernel_rfl) (by kernel_rfl) (by kernel_rfl) (by kernel_rfl) (fun _ _ _ h => h) (Or.inl ⟨by rfl, ?_⟩) (by assumption) ?_
    rotate_left
    · (intro w hSw; (try dsimp only at hSw); go_simp; try with_reducible rfl)
    simp only [Act.put, List.getElem_toArray, List.getElem_cons_zero, List.setIfInBounds_toArray, List.set_cons_zero, List.set_cons_succ]
    refine till_take (i := 1) (v := ?_) [2, 3, 4, 5, 6, 7, 8] rfl (by kernel_rfl) (by kernel_rfl) (by kernel_rfl) (by kernel_rfl) (fun _ _ _ h => h) (Or.inl ⟨by rfl, ?_⟩) (by assumption) ?_
    rotate_left
    · (intro w hSw; (try dsimp only at hSw); go_simp; try with_reducible rfl)
    simp only [Act.put, List.getElem_toArray, List.getElem_cons_succ, List.getElem_cons_zero, List.setIfInBounds_toArray, List.set_cons_zero, List.set_cons_succ]
    refine till_take (i := 2) (v := ?_) [3, 4, 5, 6, 7, 8] rfl (by kernel_rfl) (by kernel_rfl) (by kernel_rfl) (by kernel_rfl) (fun _ _ _ h => h) (Or.inl ⟨by rfl, ?_⟩) (by assumption) ?_
    rotate_left
    · (intro w hSw; (try dsimp only at hSw); go_simp; try with_reducible rfl)
    simp only [Act.put, List.getElem_toArray, List.getElem_cons_succ, List.getElem_cons_zero, List.setIfInBounds_toArray, List.set_cons_zero, List.set_cons_succ]
    refine till_take (i := 3) (v := ?_) [6, 7, 8] rfl (by kernel_rfl) (by kernel_rfl) (by kernel_rfl) (by kernel_rfl) (fun _ _ _ h => h) (Or.inl ⟨by rfl, ?_⟩) (by assumption) ?_
    rotate_left
    · (intro w hSw; (try dsimp only at hSw); go_simp; try with_reducible rfl)
    simp only [Act.put, List.getElem_toArray, List.getElem_cons_succ, List.getElem_cons_zero, List.setIfInBounds_toArray, List.set_cons_zero, List.set_cons_succ]
    refine till_take (i := 4) (v := ?_) [5, 6, 7, 8] rfl (by kernel_rfl) (by kernel_rfl) (by kernel_rfl) (by kernel_rfl) (fun _ _ _ h => h) (Or.inl ⟨by rfl, ?_⟩) (by assumption) ?_
    rotate_left
    · (intro w hSw; (try dsimp only at hSw); go_simp; try with_reducible rfl)
    simp only [Act.put, List.getElem_toArray, List.getElem_cons_succ, List.getElem_cons_zero, List.setIfInBounds_toArray, List.set_cons_zero, List.set_cons_succ]
    refine till_in (i := 5) (by kernel_rfl) rfl (fun K hK => ?_)
    go_simp
    refine (formK b0 a0 len0 cap0 z0 20 _ (h0.later HW)).mono ?_
    rintro e v4 ⟨bf, af, lf, cf, rfl, hf, hb9⟩
    replace HW := Below.step HW hb9
    clear hb9
    refine hK.out _ _ ?_ (fun hHeld => ?_)
    · exact ⟨(P0.later HW).facts.1, (P0.later HW).facts.2.1, (Bx.later HW).facts.1, (Bx.later HW).facts.2.1⟩
    clear hK K
    try simp only [Act.put, List.getElem_toArray, List.getElem_cons_succ, List.getElem_cons_zero, List.setIfInBounds_toArray, List.set_cons_zero, List.set_cons_succ]
    refine till_in (i := 6) (by kernel_rfl) rfl (fun K hK => ?_)
    go_simp
    refine (rsameK bx ax lx cx z0 20 bf af lf cf z0 20 _ (hx.later HW) hf rfl).mono ?_
    rintro e v5 ⟨rfl, hb9⟩
    replace HW := Below.step HW hb9
    replace hf := hf.later hb9
    clear hb9 hf
    refine hK.out _ _ ?_ (fun hHeld => ?_)
    · exact ⟨(P0.later HW).facts.1, (P0.later HW).facts.2.1, (Bx.later HW).facts.1, (Bx.later HW).facts.2.1⟩
    clear hK K
    try simp only [Act.put, List.getElem_toArray, List.getElem_cons_succ, List.getElem_cons_zero, List.setIfInBounds_toArray, List.set_cons_zero, List.set_cons_succ]
    refine till_take (i := 7) (v := ?_) [8] rfl (by kernel_rfl) (by kernel_rfl) (by kernel_rfl) (by kernel_rfl) (fun _ _ _ h => h) (Or.inl ⟨by rfl, ?_⟩) (by assumption) ?_
    rotate_left
    · (intro w hSw; (try dsimp only at hSw); go_simp; try with_reducible rfl)
    simp only [Act.put, List.getElem_toArray, List.getElem_cons_succ, List.getElem_cons_zero, List.setIfInBounds_toArray, List.set_cons_zero, List.set_cons_succ]
    refine till_out (i := 8) (by kernel_rfl) rfl (by kernel_rfl) (fun K hK => ?_)
    go_simp
    refine hK.out _ _ ?_
    clear hK K
    try simp only [Act.put, List.getElem_toArray, List.getElem_cons_succ, List.getElem_cons_zero, List.setIfInBounds_toArray, List.set_cons_zero, List.set_cons_succ]
    refine till_done (by kernel_rfl) ?_ _
    replace P0 := P0.later HW
    replace P1 := P1.later HW
    replace h0 := h0.later HW
    replace h1 := h1.later HW
    replace hx := hx.later HW
    replace Bx := Bx.later HW
    replace HB := hide (Below.step (unhide HB) HW)
    clear HW
    clear hx Bx
    by_cases hz1 : z1 = 0
    · have E0 := hide (show (0 : Int) = z1.sign by rw [hz1]; rfl)
      clear hz1
      obtain ⟨fP11, fP12, _, _⟩ := P1.facts
      go_wp2_with fail
      refine (signK b1 a1 len1 cap1 z1 20 0 _ h1 (unhide E0)).mono ?_
      rintro e v6 ⟨rfl, hb9⟩
      clear fP11 fP12
      replace P0 := P0.later hb9
      replace P1 := P1.later hb9
      replace h0 := h0.later hb9
      replace h1 := h1.later hb9
      replace HB := hide (Below.step (unhide HB) hb9)
      clear hb9
      go_wp2_with fail
      refine (awake5_any _).mono ?_
      rintro e w2 ⟨rfl, hb2⟩
      go_wp2
      go_ret
      exact ⟨rfl, Below.step (unhide HB) hb2⟩
    obtain ⟨s1, es1⟩ : ∃ s, s = z1.sign := ⟨_, rfl⟩
    have hs1 : (s1 == 0) = false := by rw [beq_eq_false_iff_ne, es1]; exact fun e => hz1 (Int.sign_eq_zero_iff_zero.1 e)
    have E1 := hide es1
    have N1 := hide hz1
    have EQ := hide (show true = decide (z0.tdiv z1 * z1 + z0.tmod z1 = z0) from (decide_eq_true (by rw [Int.mul_comm]; exact Int.mul_tdiv_add_tmod z0 z1)).symm)
    have ED := hide (show true = decide (z0 / z1 * z1 + z0 % z1 = z0) from (decide_eq_true (by rw [Int.mul_comm]; exact Int.mul_ediv_add_emod z0 z1)).symm)
    have C1 := hide (cmp_neg1 (a := ((z0.tmod z1).natAbs : Int)) (b := (z1.natAbs : Int)) (by have := tmod_abs_lt (x := z0) hz1; omega))
    have C2 := hide (cmp_neg1 (a := z0 % z1) (b := (z1.natAbs : Int)) (Int.emod_lt z0 hz1))
    obtain ⟨sr, er⟩ : ∃ s, s = (z0.tmod z1).sign := ⟨_, rfl⟩
    obtain ⟨sa, ea⟩ : ∃ s, s = z0.sign := ⟨_, rfl⟩
    obtain ⟨se, ee⟩ : ∃ s, s = (z0 % z1).sign := ⟨_, rfl⟩
    have hse : 0 ≤ se := by
      rw [ee]
      have := Int.emod_nonneg z0 hz1
      rcases Int.lt_trichotomy (z0 % z1) 0 with c | c | c
      · omega
      · rw [c]; decide
      · rw [Int.sign_eq_one_of_pos c]; decide
    have hsp : 0 ≤ sr * sa ∧ sr * sa ≤ 1 := by rw [er, ea]; exact sign_prod z0 z1
    obtain ⟨pm, hpm⟩ : ∃ pm, pm = sr * sa := ⟨_, rfl⟩
    rw [← hpm] at hsp
    have e1 : IntKind.i64.wrap (sr * sa) = pm := by rw [← hpm, IntKind.wrap_i64]; omega
    have e2 : wrap64 (sr * sa) = pm := by rw [← hpm]; unfold wrap64; omega
    have hpm0 := hsp.1
    have Er := hide er
    have Ea := hide ea
    have Ee := hide ee
    clear es1 hz1 er ea ee hpm hsp
    obtain ⟨fP11, fP12, _, _⟩ := P1.facts
    go_wp2_with fail
    refine (signK b1 a1 len1 cap1 z1 20 s1 _ h1 (unhide E1)).mono ?_
    rintro e v61 ⟨rfl, hb9⟩
    clear fP11 fP12
    replace P0 := P0.later hb9
    replace P1 := P1.later hb9
    replace h0 := h0.later hb9
    replace h1 := h1.later hb9
    replace HB := hide (Below.step (unhide HB) hb9)
    clear hb9
    obtain ⟨fP01, fP02, _, _⟩ := P0.facts
    obtain ⟨fP11, fP12, _, _⟩ := P1.facts
    go_wp2_with fail
    refine (quoK b0 a0 len0 cap0 z0 20 b1 a1 len1 cap1 z1 20 _ h0 h1 (unhide N1)).mono ?_
    rintro e v62 ⟨bq, aq, lq, cq, br, ar, lr, cr, rfl, hq, hr, hb9⟩
    clear fP01 fP02 fP11 fP12
    replace P0 := P0.later hb9
    replace P1 := P1.later hb9
    replace h0 := h0.later hb9
    replace h1 := h1.later hb9
    replace HB := hide (Below.step (unhide HB) hb9)
    clear hb9
    go_upto_region 9 with fail
    obtain ⟨v63, hWe⟩ : ∃ W', W' = ((v62.alloc (.cells #[.bool bq, .slice aq lq cq] 24)).alloc (.cells #[.bool br, .slice ar lr cr] 24)) := ⟨_, rfl⟩
    obtain ⟨Bq, Br, hb9⟩ := boxes2 v62 bq aq lq cq br ar lr cr hWe
    rw [← hWe]
    clear hWe
    replace P0 := P0.later hb9
    replace P1 := P1.later hb9
    replace h0 := h0.later hb9
    replace h1 := h1.later hb9
    replace hq := hq.later hb9
    replace hr := hr.later hb9
    replace HB := hide (Below.step (unhide HB) hb9)
    clear hb9
    obtain ⟨fP01, fP02, _, _⟩ := P0.facts
    obtain ⟨fP11, fP12, _, _⟩ := P1.facts
    go_wp2_with fail
    refine (divK b0 a0 len0 cap0 z0 20 b1 a1 len1 cap1 z1 20 _ h0 h1 (unhide N1) (by omega) (by omega)).mono ?_
    rintro e v64 ⟨bp, ap, lp, cp, bs, as', ls, cs, rfl, hp, hs, hb9⟩
    clear fP01 fP02 fP11 fP12
    replace P0 := P0.later hb9
    replace P1 := P1.later hb9
    replace h0 := h0.later hb9
    replace h1 := h1.later hb9
    replace hq := hq.later hb9
    replace hr := hr.later hb9
    replace Bq := Bq.later hb9
    replace Br := Br.later hb9
    replace HB := hide (Below.step (unhide HB) hb9)
    clear hb9
    go_upto_region 10 with fail
    obtain ⟨v65, hWe⟩ : ∃ W', W' = ((v64.alloc (.cells #[.bool bp, .slice ap lp cp] 24)).alloc (.cells #[.bool bs, .slice as' ls cs] 24)) := ⟨_, rfl⟩
    obtain ⟨Bp, Bs, hb9⟩ := boxes2 v64 bp ap lp cp bs as' ls cs hWe
    rw [← hWe]
    clear hWe
    replace P0 := P0.later hb9
    replace P1 := P1.later hb9
    replace h0 := h0.later hb9
    replace h1 := h1.later hb9
    replace hq := hq.later hb9
    replace hr := hr.later hb9
    replace Bq := Bq.later hb9
    replace Br := Br.later hb9
    replace hp := hp.later hb9
    replace hs := hs.later hb9
    replace HB := hide (Below.step (unhide HB) hb9)
    clear hb9
    have HW : Below v65.heap.size v65 v65.drew := (Below.refl _ _).drew
    refine till_start (fun w' => w'.cell? ⟨w.heap.size, 0, none⟩ = some (.bool b0) ∧ w'.cell? ⟨w.heap.size, 1, none⟩ = some (.slice a0 len0 cap0) ∧ w'.cell? ⟨w.heap.size + 1, 0, none⟩ = some (.bool b1) ∧ w'.cell? ⟨w.heap.size + 1, 1, none⟩ = some (.slice a1 len1 cap1) ∧ w'.cell? ⟨v62.heap.size, 0, none⟩ = some (.bool bq) ∧ w'.cell? ⟨v62.heap.size, 1, none⟩ = some (.slice aq lq cq) ∧ w'.cell? ⟨v62.heap.size + 1, 0, none⟩ = some (.bool br) ∧ w'.cell? ⟨v62.heap.size + 1, 1, none⟩ = some (.slice ar lr cr) ∧ w'.cell? ⟨v64.heap.size, 0, none⟩ = some (.bool bp) ∧ w'.cell? ⟨v64.heap.size, 1, none⟩ = some (.slice ap lp cp) ∧ w'.cell? ⟨v64.heap.size + 1, 0, none⟩ = some (.bool bs) ∧ w'.cell? ⟨v64.heap.size + 1, 1, none⟩ = some (.slice as' ls cs)) 25 (by kernel_rfl) ?_ (fun hHeld => ?_)
    · exact ⟨(P0.later HW).facts.1, (P0.later HW).facts.2.1, (P1.later HW).facts.1, (P1.later HW).facts.2.1, (Bq.later HW).facts.1, (Bq.later HW).facts.2.1, (Br.later HW).facts.1, (Br.later HW).facts.2.1, (Bp.later HW).facts.1, (Bp.later HW).facts.2.1, (Bs.later HW).facts.1, (Bs.later HW).facts.2.1⟩
    refine till_take (i := 0) (v := ?_) [1, 2, 3, 4, 5, 6, 7, 8, 9, 10, 11, 12, 13, 14, 15, 16, 17, 18, 19, 20, 21, 22, 23, 24, 25] rfl (by kernel_rfl) (by kernel_rfl) (by kernel_rfl) (by kernel_rfl) (fun _ _ _ h => h) (Or.inl ⟨by rfl, ?_⟩) (by assumption) ?_
    rotate_left
    · (intro w hSw; (try dsimp only at hSw); go_simp; try with_reducible rfl)
    simp only [Act.put, List.getElem_toArray, List.getElem_cons_zero, List.setIfInBounds_toArray, List.set_cons_zero, List.set_cons_succ]
    refine till_take (i := 1) (v := ?_) [2, 3, 4, 5, 6, 7, 8, 9, 10, 11, 12, 13, 14, 15, 16, 17, 18, 19, 20, 21, 22, 23, 24, 25] rfl (by kernel_rfl) (by kernel_rfl) (by kernel_rfl) (by kernel_rfl) (fun _ _ _ h => h) (Or.inl ⟨by rfl, ?_⟩) (by assumption) ?_
    rotate_left
    · (intro w hSw; (try dsimp only at hSw); go_simp; try with_reducible rfl)
    simp only [Act.put, List.getElem_toArray, List.getElem_cons_succ, List.getElem_cons_zero, List.setIfInBounds_toArray, List.set_cons_zero, List.set_cons_succ]
    refine till_take (i := 2) (v := ?_) [3, 4, 5, 6, 7, 8, 9, 10, 11, 12, 13, 14, 15, 16, 17, 18, 19, 20, 21, 22, 23, 24, 25] rfl (by kernel_rfl) (by kernel_rfl) (by kernel_rfl) (by kernel_rfl) (fun _ _ _ h => h) (Or.inl ⟨by rfl, ?_⟩) (by assumption) ?_
    rotate_left
    · (intro w hSw; (try dsimp only at hSw); go_simp; try with_reducible rfl)
    simp only [Act.put, List.getElem_toArray, List.getElem_cons_succ, List.getElem_cons_zero, List.setIfInBounds_toArray, List.set_cons_zero, List.set_cons_succ]
    refine till_take (i := 3) (v := ?_) [4, 5, 6, 7, 8, 9, 10, 11, 12, 13, 14, 15, 16, 17, 18, 19, 20, 21, 22, 23, 24, 25] rfl (by kernel_rfl) (by kernel_rfl) (by kernel_rfl) (by kernel_rfl) (fun _ _ _ h => h) (Or.inl ⟨by rfl, ?_⟩) (by assumption) ?_
    rotate_left
    · (intro w hSw; (try dsimp only at hSw); go_simp; try with_reducible rfl)
    simp only [Act.put, List.getElem_toArray, List.getElem_cons_succ, List.getElem_cons_zero, List.setIfInBounds_toArray, List.set_cons_zero, List.set_cons_succ]
    refine till_take (i := 4) (v := ?_) [5, 6, 7, 8, 9, 10, 11, 12, 13, 14, 15, 16, 17, 18, 19, 20, 21, 22, 23, 24, 25] rfl (by kernel_rfl) (by kernel_rfl) (by kernel_rfl) (by kernel_rfl) (fun _ _ _ h => h) (Or.inl ⟨by rfl, ?_⟩) (by assumption) ?_
    rotate_left
    · (intro w hSw; (try dsimp only at hSw); go_simp; try with_reducible rfl)
    simp only [Act.put, List.getElem_toArray, List.getElem_cons_succ, List.getElem_cons_zero, List.setIfInBounds_toArray, List.set_cons_zero, List.set_cons_succ]
    refine till_take (i := 5) (v := ?_) [6, 7, 8, 9, 10, 11, 12, 13, 14, 15, 16, 17, 18, 19, 20, 21, 22, 23, 24, 25] rfl (by kernel_rfl) (by kernel_rfl) (by kernel_rfl) (by kernel_rfl) (fun _ _ _ h => h) (Or.inl ⟨by rfl, ?_⟩) (by assumption) ?_
    rotate_left
    · (intro w hSw; (try dsimp only at hSw); go_simp; try with_reducible rfl)
    simp only [Act.put, List.getElem_toArray, List.getElem_cons_succ, List.getElem_cons_zero, List.setIfInBounds_toArray, List.set_cons_zero, List.set_cons_succ]
    refine till_take (i := 6) (v := ?_) [7, 8, 9, 10, 11, 12, 13, 14, 15, 16, 17, 18, 19, 20, 21, 22, 23, 24, 25] rfl (by kernel_rfl) (by kernel_rfl) (by kernel_rfl) (by kernel_rfl) (fun _ _ _ h => h) (Or.inl ⟨by rfl, ?_⟩) (by assumption) ?_
    rotate_left
    · (intro w hSw; (try dsimp only at hSw); go_simp; try with_reducible rfl)
    simp only [Act.put, List.getElem_toArray, List.getElem_cons_succ, List.getElem_cons_zero, List.setIfInBounds_toArray, List.set_cons_zero, List.set_cons_succ]
    refine till_take (i := 7) (v := ?_) [9, 11, 13, 14, 15, 16, 17, 18, 19, 20, 21, 22, 23, 24, 25] rfl (by kernel_rfl) (by kernel_rfl) (by kernel_rfl) (by kernel_rfl) (fun _ _ _ h => h) (Or.inl ⟨by rfl, ?_⟩) (by assumption) ?_
    rotate_left
    · (intro w hSw; (try dsimp only at hSw); go_simp; try with_reducible rfl)
    simp only [Act.put, List.getElem_toArray, List.getElem_cons_succ, List.getElem_cons_zero, List.setIfInBounds_toArray, List.set_cons_zero, List.set_cons_succ]
    refine till_take (i := 8) (v := ?_) [9, 11, 13, 14, 15, 16, 17, 18, 19, 20, 21, 22, 23, 24, 25] rfl (by kernel_rfl) (by kernel_rfl) (by kernel_rfl) (by kernel_rfl) (fun _ _ _ h => h) (Or.inl ⟨by rfl, ?_⟩) (by assumption) ?_
    rotate_left
    · (intro w hSw; (try dsimp only at hSw); go_simp; try with_reducible rfl)
    simp only [Act.put, List.getElem_toArray, List.getElem_cons_succ, List.getElem_cons_zero, List.setIfInBounds_toArray, List.set_cons_zero, List.set_cons_succ]
    refine till_take (i := 10) (v := ?_) [11, 13, 14, 15, 16, 17, 18, 19, 20, 21, 22, 23, 24, 25] rfl (by kernel_rfl) (by kernel_rfl) (by kernel_rfl) (by kernel_rfl) (fun _ _ _ h => h) (Or.inl ⟨by rfl, ?_⟩) (by assumption) ?_
    rotate_left
    · (intro w hSw; (try dsimp only at hSw); go_simp; try with_reducible rfl)
    simp only [Act.put, List.getElem_toArray, List.getElem_cons_succ, List.getElem_cons_zero, List.setIfInBounds_toArray, List.set_cons_zero, List.set_cons_succ]
    refine till_take (i := 12) (v := ?_) [13, 14, 15, 16, 17, 18, 19, 20, 21, 22, 23, 24, 25] rfl (by kernel_rfl) (by kernel_rfl) (by kernel_rfl) (by kernel_rfl) (fun _ _ _ h => h) (Or.inl ⟨by rfl, ?_⟩) (by assumption) ?_
    rotate_left
    · (intro w hSw; (try dsimp only at hSw); go_simp; try with_reducible rfl)
    simp only [Act.put, List.getElem_toArray, List.getElem_cons_succ, List.getElem_cons_zero, List.setIfInBounds_toArray, List.set_cons_zero, List.set_cons_succ]
    refine till_in (i := 9) (by kernel_rfl) rfl (fun K hK => ?_)
    go_simp
    refine (mulK bq aq lq cq (z0.tdiv z1) 20 b1 a1 len1 cap1 z1 20 _ ((hq.later HW).ik (by omega)) (h1.later HW)).mono ?_
    rintro e v66 ⟨bm, am, lm, cm, rfl, hm, hb9⟩
    replace HW := Below.step HW hb9
    clear hb9
    refine hK.out _ _ ?_ (fun hHeld => ?_)
    · exact ⟨(P0.later HW).facts.1, (P0.later HW).facts.2.1, (P1.later HW).facts.1, (P1.later HW).facts.2.1, (Bq.later HW).facts.1, (Bq.later HW).facts.2.1, (Br.later HW).facts.1, (Br.later HW).facts.2.1, (Bp.later HW).facts.1, (Bp.later HW).facts.2.1, (Bs.later HW).facts.1, (Bs.later HW).facts.2.1⟩
    clear hK K
    try simp only [Act.put, List.getElem_toArray, List.getElem_cons_succ, List.getElem_cons_zero, List.setIfInBounds_toArray, List.set_cons_zero, List.set_cons_succ]
    refine till_in (i := 11) (by kernel_rfl) rfl (fun K hK => ?_)
    go_simp
    refine (addK bm am lm cm (z0.tdiv z1 * z1) (20 + 20) br ar lr cr (z0.tmod z1) 20 _ (hm.ik (by omega)) ((hr.later HW).ik (by omega))).mono ?_
    rintro e v67 ⟨bd, ad, ld, cd, rfl, hd, hb9⟩
    replace HW := Below.step HW hb9
    replace hm := hm.later hb9
    clear hb9 hm
    refine hK.out _ _ ?_ (fun hHeld => ?_)
    · exact ⟨(P0.later HW).facts.1, (P0.later HW).facts.2.1, (P1.later HW).facts.1, (P1.later HW).facts.2.1, (Bq.later HW).facts.1, (Bq.later HW).facts.2.1, (Br.later HW).facts.1, (Br.later HW).facts.2.1, (Bp.later HW).facts.1, (Bp.later HW).facts.2.1, (Bs.later HW).facts.1, (Bs.later HW).facts.2.1⟩
    clear hK K
    try simp only [Act.put, List.getElem_toArray, List.getElem_cons_succ, List.getElem_cons_zero, List.setIfInBounds_toArray, List.set_cons_zero, List.set_cons_succ]
    refine till_in (i := 13) (by kernel_rfl) rfl (fun K hK => ?_)
    go_simp
    refine (sameK bd ad ld cd (z0.tdiv z1 * z1 + z0.tmod z1) (max (20 + 20) 20 + 1) b0 a0 len0 cap0 z0 20 true _ (hd.ik (by omega)) (h0.later HW) (unhide EQ)).mono ?_
    rintro e v68 ⟨rfl, hb9⟩
    replace HW := Below.step HW hb9
    replace hd := hd.later hb9
    clear hb9 hd
    refine hK.out _ _ ?_ (fun hHeld => ?_)
    · exact ⟨(P0.later HW).facts.1, (P0.later HW).facts.2.1, (P1.later HW).facts.1, (P1.later HW).facts.2.1, (Bq.later HW).facts.1, (Bq.later HW).facts.2.1, (Br.later HW).facts.1, (Br.later HW).facts.2.1, (Bp.later HW).facts.1, (Bp.later HW).facts.2.1, (Bs.later HW).facts.1, (Bs.later HW).facts.2.1⟩
    clear hK K
    try simp only [Act.put, List.getElem_toArray, List.getElem_cons_succ, List.getElem_cons_zero, List.setIfInBounds_toArray, List.set_cons_zero, List.set_cons_succ]
    refine till_take (i := 14) (v := ?_) [15, 16, 17, 18, 19, 20, 21, 22, 23, 24, 25] rfl (by kernel_rfl) (by kernel_rfl) (by kernel_rfl) (by kernel_rfl) (fun _ _ _ h => h) (Or.inl ⟨by rfl, ?_⟩) (by assumption) ?_
    rotate_left
    · (intro w hSw; (try dsimp only at hSw); go_simp; try with_reducible rfl)
    simp only [Act.put, List.getElem_toArray, List.getElem_cons_succ, List.getElem_cons_zero, List.setIfInBounds_toArray, List.set_cons_zero, List.set_cons_succ]
    refine till_take (i := 15) (v := ?_) [16, 17, 18, 19, 20, 21, 22, 23, 24, 25] rfl (by kernel_rfl) (by kernel_rfl) (by kernel_rfl) (by kernel_rfl) (fun _ _ _ h => h) (Or.inl ⟨by rfl, ?_⟩) (by assumption) ?_
    rotate_left
    · (intro w hSw; (try dsimp only at hSw); go_simp; try with_reducible rfl)
    simp only [Act.put, List.getElem_toArray, List.getElem_cons_succ, List.getElem_cons_zero, List.setIfInBounds_toArray, List.set_cons_zero, List.set_cons_succ]
    refine till_take (i := 16) (v := ?_) [17, 18, 19, 20, 21, 22, 23, 24, 25] rfl (by kernel_rfl) (by kernel_rfl) (by kernel_rfl) (by kernel_rfl) (fun _ _ _ h => h) (Or.inl ⟨by rfl, ?_⟩) (by assumption) ?_
    rotate_left
    · (intro w hSw; (try dsimp only at hSw); go_simp; try with_reducible rfl)
    simp only [Act.put, List.getElem_toArray, List.getElem_cons_succ, List.getElem_cons_zero, List.setIfInBounds_toArray, List.set_cons_zero, List.set_cons_succ]
    refine till_take (i := 17) (v := ?_) [19, 21, 23, 24, 25] rfl (by kernel_rfl) (by kernel_rfl) (by kernel_rfl) (by kernel_rfl) (fun _ _ _ h => h) (Or.inl ⟨by rfl, ?_⟩) (by assumption) ?_
    rotate_left
    · (intro w hSw; (try dsimp only at hSw); go_simp; try with_reducible rfl)
    simp only [Act.put, List.getElem_toArray, List.getElem_cons_succ, List.getElem_cons_zero, List.setIfInBounds_toArray, List.set_cons_zero, List.set_cons_succ]
    refine till_take (i := 18) (v := ?_) [19, 21, 23, 24, 25] rfl (by kernel_rfl) (by kernel_rfl) (by kernel_rfl) (by kernel_rfl) (fun _ _ _ h => h) (Or.inl ⟨by rfl, ?_⟩) (by assumption) ?_
    rotate_left
    · (intro w hSw; (try dsimp only at hSw); go_simp; try with_reducible rfl)
    simp only [Act.put, List.getElem_toArray, List.getElem_cons_succ, List.getElem_cons_zero, List.setIfInBounds_toArray, List.set_cons_zero, List.set_cons_succ]
    refine till_take (i := 20) (v := ?_) [21, 23, 24, 25] rfl (by kernel_rfl) (by kernel_rfl) (by kernel_rfl) (by kernel_rfl) (fun _ _ _ h => h) (Or.inl ⟨by rfl, ?_⟩) (by assumption) ?_
    rotate_left
    · (intro w hSw; (try dsimp only at hSw); go_simp; try with_reducible rfl)
    simp only [Act.put, List.getElem_toArray, List.getElem_cons_succ, List.getElem_cons_zero, List.setIfInBounds_toArray, List.set_cons_zero, List.set_cons_succ]
    refine till_take (i := 22) (v := ?_) [23, 24, 25] rfl (by kernel_rfl) (by kernel_rfl) (by kernel_rfl) (by kernel_rfl) (fun _ _ _ h => h) (Or.inl ⟨by rfl, ?_⟩) (by assumption) ?_
    rotate_left
    · (intro w hSw; (try dsimp only at hSw); go_simp; try with_reducible rfl)
    simp only [Act.put, List.getElem_toArray, List.getElem_cons_succ, List.getElem_cons_zero, List.setIfInBounds_toArray, List.set_cons_zero, List.set_cons_succ]
    refine till_in (i := 19) (by kernel_rfl) rfl (fun K hK => ?_)
    go_simp
    refine (mulK bp ap lp cp (z0 / z1) 20 b1 a1 len1 cap1 z1 20 _ ((hp.later HW).ik (by omega)) (h1.later HW)).mono ?_
    rintro e v69 ⟨bm, am, lm, cm, rfl, hm, hb9⟩
    replace HW := Below.step HW hb9
    clear hb9
    refine hK.out _ _ ?_ (fun hHeld => ?_)
    · exact ⟨(P0.later HW).facts.1, (P0.later HW).facts.2.1, (P1.later HW).facts.1, (P1.later HW).facts.2.1, (Bq.later HW).facts.1, (Bq.later HW).facts.2.1, (Br.later HW).facts.1, (Br.later HW).facts.2.1, (Bp.later HW).facts.1, (Bp.later HW).facts.2.1, (Bs.later HW).facts.1, (Bs.later HW).facts.2.1⟩
    clear hK K
    try simp only [Act.put, List.getElem_toArray, List.getElem_cons_succ, List.getElem_cons_zero, List.setIfInBounds_toArray, List.set_cons_zero, List.set_cons_succ]
    refine till_in (i := 21) (by kernel_rfl) rfl (fun K hK => ?_)
    go_simp
    refine (addK bm am lm cm (z0 / z1 * z1) (20 + 20) bs as' ls cs (z0 % z1) 20 _ (hm.ik (by omega)) ((hs.later HW).ik (by omega))).mono ?_
    rintro e v70 ⟨bd, ad, ld, cd, rfl, hd, hb9⟩
    replace HW := Below.step HW hb9
    replace hm := hm.later hb9
    clear hb9 hm
    refine hK.out _ _ ?_ (fun hHeld => ?_)
    · exact ⟨(P0.later HW).facts.1, (P0.later HW).facts.2.1, (P1.later HW).facts.1, (P1.later HW).facts.2.1, (Bq.later HW).facts.1, (Bq.later HW).facts.2.1, (Br.later HW).facts.1, (Br.later HW).facts.2.1, (Bp.later HW).facts.1, (Bp.later HW).facts.2.1, (Bs.later HW).facts.1, (Bs.later HW).facts.2.1⟩
    clear hK K
    try simp only [Act.put, List.getElem_toArray, List.getElem_cons_succ, List.getElem_cons_zero, List.setIfInBounds_toArray, List.set_cons_zero, List.set_cons_succ]
    refine till_in (i := 23) (by kernel_rfl) rfl (fun K hK => ?_)
    go_simp
    refine (sameK bd ad ld cd (z0 / z1 * z1 + z0 % z1) (max (20 + 20) 20 + 1) b0 a0 len0 cap0 z0 20 true _ (hd.ik (by omega)) (h0.later HW) (unhide ED)).mono ?_
    rintro e v71 ⟨rfl, hb9⟩
    replace HW := Below.step HW hb9
    replace hd := hd.later hb9
    clear hb9 hd
    refine hK.out _ _ ?_ (fun hHeld => ?_)
    · exact ⟨(P0.later HW).facts.1, (P0.later HW).facts.2.1, (P1.later HW).facts.1, (P1.later HW).facts.2.1, (Bq.later HW).facts.1, (Bq.later HW).facts.2.1, (Br.later HW).facts.1, (Br.later HW).facts.2.1, (Bp.later HW).facts.1, (Bp.later HW).facts.2.1, (Bs.later HW).facts.1, (Bs.later HW).facts.2.1⟩
    clear hK K
    try simp only [Act.put, List.getElem_toArray, List.getElem_cons_succ, List.getElem_cons_zero, List.setIfInBounds_toArray, List.set_cons_zero, List.set_cons_succ]
    refine till_take (i := 24) (v := ?_) [25] rfl (by kernel_rfl) (by kernel_rfl) (by kernel_rfl) (by kernel_rfl) (fun _ _ _ h => h) (Or.inl ⟨by rfl, ?_⟩) (by assumption) ?_
    rotate_left
    · (intro w hSw; (try dsimp only at hSw); go_simp; try with_reducible rfl)
    simp only [Act.put, List.getElem_toArray, List.getElem_cons_succ, List.getElem_cons_zero, List.setIfInBounds_toArray, List.set_cons_zero, List.set_cons_succ]
    refine till_out (i := 25) (by kernel_rfl) rfl (by kernel_rfl) (fun K hK => ?_)
    go_simp
    refine hK.out _ _ ?_
    clear hK K
    try simp only [Act.put, List.getElem_toArray, List.getElem_cons_succ, List.getElem_cons_zero, List.setIfInBounds_toArray, List.set_cons_zero, List.set_cons_succ]
    refine till_done (by kernel_rfl) ?_ _
    replace P0 := P0.later HW
    replace P1 := P1.later HW
    replace h0 := h0.later HW
    replace h1 := h1.later HW
    replace hq := hq.later HW
    replace hr := hr.later HW
    replace Bq := Bq.later HW
    replace Br := Br.later HW
    replace hp := hp.later HW
    replace hs := hs.later HW
    replace Bp := Bp.later HW
    replace Bs := Bs.later HW
    replace HB := hide (Below.step (unhide HB) HW)
    clear HW
    clear hq hp Bq Bp
    go_wp2_with fail
    have HW : Below v71.heap.size v71 v71.drew := (Below.refl _ _).drew
    refine till_start (fun w' => w'.cell? ⟨w.heap.size, 0, none⟩ = some (.bool b0) ∧ w'.cell? ⟨w.heap.size, 1, none⟩ = some (.slice a0 len0 cap0) ∧ w'.cell? ⟨w.heap.size + 1, 0, none⟩ = some (.bool b1) ∧ w'.cell? ⟨w.heap.size + 1, 1, none⟩ = some (.slice a1 len1 cap1) ∧ w'.cell? ⟨v62.heap.size + 1, 0, none⟩ = some (.bool br) ∧ w'.cell? ⟨v62.heap.size + 1, 1, none⟩ = some (.slice ar lr cr) ∧ w'.cell? ⟨v64.heap.size + 1, 0, none⟩ = some (.bool bs) ∧ w'.cell? ⟨v64.heap.size + 1, 1, none⟩ = some (.slice as' ls cs)) 29 (by kernel_rfl) ?_ (fun hHeld => ?_)
    · exact ⟨(P0.later HW).facts.1, (P0.later HW).facts.2.1, (P1.later HW).facts.1, (P1.later HW).facts.2.1, (Br.later HW).facts.1, (Br.later HW).facts.2.1, (Bs.later HW).facts.1, (Bs.later HW).facts.2.1⟩
    refine till_take (i := 0) (v := ?_) [1, 3, 4, 5, 6, 7, 8, 9, 10, 11, 12, 13, 14, 15, 16, 17, 18, 19, 20, 21, 22, 23, 24, 25, 26, 27, 28, 29] rfl (by kernel_rfl) (by kernel_rfl) (by kernel_rfl) (by kernel_rfl) (fun _ _ _ h => h) (Or.inl ⟨by rfl, ?_⟩) (by assumption) ?_
    rotate_left
    · (intro w hSw; (try dsimp only at hSw); go_simp; try with_reducible rfl)
    simp only [Act.put, List.getElem_toArray, List.getElem_cons_zero, List.setIfInBounds_toArray, List.set_cons_zero, List.set_cons_succ]
    refine till_take (i := 2) (v := ?_) [3, 4, 5, 6, 7, 8, 9, 10, 11, 12, 13, 14, 15, 16, 17, 18, 19, 20, 21, 22, 23, 24, 25, 26, 27, 28, 29] rfl (by kernel_rfl) (by kernel_rfl) (by kernel_rfl) (by kernel_rfl) (fun _ _ _ h => h) (Or.inl ⟨by rfl, ?_⟩) (by assumption) ?_
    rotate_left
    · (intro w hSw; (try dsimp only at hSw); go_simp; try with_reducible rfl)
    simp only [Act.put, List.getElem_toArray, List.getElem_cons_succ, List.getElem_cons_zero, List.setIfInBounds_toArray, List.set_cons_zero, List.set_cons_succ]
    refine till_in (i := 1) (by kernel_rfl) rfl (fun K hK => ?_)
    go_simp
    refine (absK br ar lr cr (z0.tmod z1) 20 _ ((hr.later HW).ik (by omega))).mono ?_
    rintro e v72 ⟨bg, ag, lg, cg, rfl, hg, hb9⟩
    replace HW := Below.step HW hb9
    clear hb9
    refine hK.out _ _ ?_ (fun hHeld => ?_)
    · exact ⟨(P0.later HW).facts.1, (P0.later HW).facts.2.1, (P1.later HW).facts.1, (P1.later HW).facts.2.1, (Br.later HW).facts.1, (Br.later HW).facts.2.1, (Bs.later HW).facts.1, (Bs.later HW).facts.2.1⟩
    clear hK K
    try simp only [Act.put, List.getElem_toArray, List.getElem_cons_succ, List.getElem_cons_zero, List.setIfInBounds_toArray, List.set_cons_zero, List.set_cons_succ]
    refine till_in (i := 3) (by kernel_rfl) rfl (fun K hK => ?_)
    go_simp
    refine (absK b1 a1 len1 cap1 z1 20 _ (h1.later HW)).mono ?_
    rintro e v73 ⟨bi, ai, li, ci, rfl, hi, hb9⟩
    replace HW := Below.step HW hb9
    replace hg := hg.later hb9
    clear hb9
    refine hK.out _ _ ?_ (fun hHeld => ?_)
    · exact ⟨(P0.later HW).facts.1, (P0.later HW).facts.2.1, (P1.later HW).facts.1, (P1.later HW).facts.2.1, (Br.later HW).facts.1, (Br.later HW).facts.2.1, (Bs.later HW).facts.1, (Bs.later HW).facts.2.1⟩
    clear hK K
    try simp only [Act.put, List.getElem_toArray, List.getElem_cons_succ, List.getElem_cons_zero, List.setIfInBounds_toArray, List.set_cons_zero, List.set_cons_succ]
    refine till_in (i := 4) (by kernel_rfl) rfl (fun K hK => ?_)
    go_simp
    refine (cmpK bg ag lg cg ((z0.tmod z1).natAbs : Int) 20 bi ai li ci (z1.natAbs : Int) 20 (-1) _ (hg.ik (by omega)) (hi.ik (by omega)) (unhide C1)).mono ?_
    rintro e v74 ⟨rfl, hb9⟩
    replace HW := Below.step HW hb9
    replace hg := hg.later hb9
    replace hi := hi.later hb9
    clear hb9 hg hi
    refine hK.out _ _ ?_ (fun hHeld => ?_)
    · exact ⟨(P0.later HW).facts.1, (P0.later HW).facts.2.1, (P1.later HW).facts.1, (P1.later HW).facts.2.1, (Br.later HW).facts.1, (Br.later HW).facts.2.1, (Bs.later HW).facts.1, (Bs.later HW).facts.2.1⟩
    clear hK K
    try simp only [Act.put, List.getElem_toArray, List.getElem_cons_succ, List.getElem_cons_zero, List.setIfInBounds_toArray, List.set_cons_zero, List.set_cons_succ]
    refine till_take (i := 5) (v := ?_) [6, 7, 8, 9, 10, 11, 12, 13, 14, 15, 16, 17, 18, 19, 20, 21, 22, 23, 24, 25, 26, 27, 28, 29] rfl (by kernel_rfl) (by kernel_rfl) (by kernel_rfl) (by kernel_rfl) (fun _ _ _ h => h) (Or.inl ⟨by rfl, ?_⟩) (by assumption) ?_
    rotate_left
    · (intro w hSw; (try dsimp only at hSw); go_simp; try with_reducible rfl)
    simp only [Act.put, List.getElem_toArray, List.getElem_cons_succ, List.getElem_cons_zero, List.setIfInBounds_toArray, List.set_cons_zero, List.set_cons_succ]
    refine till_take (i := 6) (v := ?_) [7, 8, 9, 10, 11, 12, 13, 14, 15, 16, 17, 18, 19, 20, 21, 22, 23, 24, 25, 26, 27, 28, 29] rfl (by kernel_rfl) (by kernel_rfl) (by kernel_rfl) (by kernel_rfl) (fun _ _ _ h => h) (Or.inl ⟨by rfl, ?_⟩) (by assumption) ?_
    rotate_left
    · (intro w hSw; (try dsimp only at hSw); go_simp; try with_reducible rfl)
    simp only [Act.put, List.getElem_toArray, List.getElem_cons_succ, List.getElem_cons_zero, List.setIfInBounds_toArray, List.set_cons_zero, List.set_cons_succ]
    refine till_take (i := 7) (v := ?_) [8, 10, 11, 12, 13, 14, 15, 16, 17, 18, 19, 20, 21, 22, 23, 24, 25, 26, 27, 28, 29] rfl (by kernel_rfl) (by kernel_rfl) (by kernel_rfl) (by kernel_rfl) (fun _ _ _ h => h) (Or.inl ⟨by rfl, ?_⟩) (by assumption) ?_
    rotate_left
    · (intro w hSw; (try dsimp only at hSw); go_simp; try with_reducible rfl)
    simp only [Act.put, List.getElem_toArray, List.getElem_cons_succ, List.getElem_cons_zero, List.setIfInBounds_toArray, List.set_cons_zero, List.set_cons_succ]
    refine till_take (i := 9) (v := ?_) [10, 11, 12, 13, 14, 15, 16, 17, 18, 19, 20, 21, 22, 23, 24, 25, 26, 27, 28, 29] rfl (by kernel_rfl) (by kernel_rfl) (by kernel_rfl) (by kernel_rfl) (fun _ _ _ h => h) (Or.inl ⟨by rfl, ?_⟩) (by assumption) ?_
    rotate_left
    · (intro w hSw; (try dsimp only at hSw); go_simp; try with_reducible rfl)
    simp only [Act.put, List.getElem_toArray, List.getElem_cons_succ, List.getElem_cons_zero, List.setIfInBounds_toArray, List.set_cons_zero, List.set_cons_succ]
    refine till_in (i := 8) (by kernel_rfl) rfl (fun K hK => ?_)
    go_simp
    refine (signK br ar lr cr (z0.tmod z1) 20 sr _ ((hr.later HW).ik (by omega)) (unhide Er)).mono ?_
    rintro e v75 ⟨rfl, hb9⟩
    replace HW := Below.step HW hb9
    clear hb9
    refine hK.out _ _ ?_ (fun hHeld => ?_)
    · exact ⟨(P0.later HW).facts.1, (P0.later HW).facts.2.1, (P1.later HW).facts.1, (P1.later HW).facts.2.1, (Br.later HW).facts.1, (Br.later HW).facts.2.1, (Bs.later HW).facts.1, (Bs.later HW).facts.2.1⟩
    clear hK K
    try simp only [Act.put, List.getElem_toArray, List.getElem_cons_succ, List.getElem_cons_zero, List.setIfInBounds_toArray, List.set_cons_zero, List.set_cons_succ]
    refine till_in (i := 10) (by kernel_rfl) rfl (fun K hK => ?_)
    go_simp
    refine (signK b0 a0 len0 cap0 z0 20 sa _ (h0.later HW) (unhide Ea)).mono ?_
    rintro e v76 ⟨rfl, hb9⟩
    replace HW := Below.step HW hb9
    clear hb9
    refine hK.out _ _ ?_ (fun hHeld => ?_)
    · exact ⟨(P0.later HW).facts.1, (P0.later HW).facts.2.1, (P1.later HW).facts.1, (P1.later HW).facts.2.1, (Br.later HW).facts.1, (Br.later HW).facts.2.1, (Bs.later HW).facts.1, (Bs.later HW).facts.2.1⟩
    clear hK K
    try simp only [Act.put, List.getElem_toArray, List.getElem_cons_succ, List.getElem_cons_zero, List.setIfInBounds_toArray, List.set_cons_zero, List.set_cons_succ]
    refine till_take (i := 11) (v := ?_) [12, 13, 14, 15, 16, 17, 18, 19, 20, 21, 22, 23, 24, 25, 26, 27, 28, 29] rfl (by kernel_rfl) (by kernel_rfl) (by kernel_rfl) (by kernel_rfl) (fun _ _ _ h => h) (Or.inl ⟨by rfl, ?_⟩) (by assumption) ?_
    rotate_left
    · (intro w hSw; (try dsimp only at hSw); go_simp; try with_reducible rfl)
    simp only [Act.put, List.getElem_toArray, List.getElem_cons_succ, List.getElem_cons_zero, List.setIfInBounds_toArray, List.set_cons_zero, List.set_cons_succ]
    refine till_take (i := 12) (v := ?_) [13, 14, 15, 16, 17, 18, 19, 20, 21, 22, 23, 24, 25, 26, 27, 28, 29] rfl (by kernel_rfl) (by kernel_rfl) (by kernel_rfl) (by kernel_rfl) (fun _ _ _ h => h) (Or.inl ⟨by rfl, ?_⟩) (by assumption) ?_
    rotate_left
    · (intro w hSw; (try dsimp only at hSw); go_simp; try with_reducible rfl)
    simp only [Act.put, List.getElem_toArray, List.getElem_cons_succ, List.getElem_cons_zero, List.setIfInBounds_toArray, List.set_cons_zero, List.set_cons_succ]
    refine till_take (i := 13) (v := ?_) [14, 15, 16, 17, 18, 19, 20, 21, 22, 23, 24, 25, 26, 27, 28, 29] rfl (by kernel_rfl) (by kernel_rfl) (by kernel_rfl) (by kernel_rfl) (fun _ _ _ h => h) (Or.inl ⟨by rfl, ?_⟩) (by assumption) ?_
    rotate_left
    · (intro w hSw; (try dsimp only at hSw); go_simp; try with_reducible rfl)
    simp only [Act.put, List.getElem_toArray, List.getElem_cons_succ, List.getElem_cons_zero, List.setIfInBounds_toArray, List.set_cons_zero, List.set_cons_succ]
    refine till_take (i := 14) (v := ?_) [15, 16, 17, 18, 19, 20, 21, 22, 23, 24, 25, 26, 27, 28, 29] rfl (by kernel_rfl) (by kernel_rfl) (by kernel_rfl) (by kernel_rfl) (fun _ _ _ h => h) (Or.inl ⟨by rfl, ?_⟩) (by assumption) ?_
    rotate_left
    · (intro w hSw; (try dsimp only at hSw); go_simp; try with_reducible rfl)
    simp only [Act.put, List.getElem_toArray, List.getElem_cons_succ, List.getElem_cons_zero, List.setIfInBounds_toArray, List.set_cons_zero, List.set_cons_succ]
    refine till_take (i := 15) (v := ?_) [16, 17, 18, 19, 20, 21, 22, 23, 24, 25, 26, 27, 28, 29] rfl (by kernel_rfl) (by kernel_rfl) (by kernel_rfl) (by kernel_rfl) (fun _ _ _ h => h) (Or.inl ⟨by rfl, ?_⟩) (by assumption) ?_
    rotate_left
    · (intro w hSw; (try dsimp only at hSw); go_simp; try with_reducible rfl)
    simp only [Act.put, List.getElem_toArray, List.getElem_cons_succ, List.getElem_cons_zero, List.setIfInBounds_toArray, List.set_cons_zero, List.set_cons_succ]
    refine till_in (i := 16) (by kernel_rfl) rfl (fun K hK => ?_)
    go_simp
    refine (signK bs as' ls cs (z0 % z1) 20 se _ ((hs.later HW).ik (by omega)) (unhide Ee)).mono ?_
    rintro e v77 ⟨rfl, hb9⟩
    replace HW := Below.step HW hb9
    clear hb9
    refine hK.out _ _ ?_ (fun hHeld => ?_)
    · exact ⟨(P0.later HW).facts.1, (P0.later HW).facts.2.1, (P1.later HW).facts.1, (P1.later HW).facts.2.1, (Br.later HW).facts.1, (Br.later HW).facts.2.1, (Bs.later HW).facts.1, (Bs.later HW).facts.2.1⟩
    clear hK K
    try simp only [Act.put, List.getElem_toArray, List.getElem_cons_succ, List.getElem_cons_zero, List.setIfInBounds_toArray, List.set_cons_zero, List.set_cons_succ]
    refine till_take (i := 17) (v := ?_) [18, 19, 20, 21, 22, 23, 24, 25, 26, 27, 28, 29] rfl (by kernel_rfl) (by kernel_rfl) (by kernel_rfl) (by kernel_rfl) (fun _ _ _ h => h) (Or.inl ⟨by rfl, ?_⟩) (by assumption) ?_
    rotate_left
    · (intro w hSw; (try dsimp only at hSw); go_simp; try with_reducible rfl)
    simp only [Act.put, List.getElem_toArray, List.getElem_cons_succ, List.getElem_cons_zero, List.setIfInBounds_toArray, List.set_cons_zero, List.set_cons_succ]
    refine till_take (i := 18) (v := ?_) [19, 20, 21, 22, 23, 24, 25, 26, 27, 28, 29] rfl (by kernel_rfl) (by kernel_rfl) (by kernel_rfl) (by kernel_rfl) (fun _ _ _ h => h) (Or.inl ⟨by rfl, ?_⟩) (by assumption) ?_
    rotate_left
    · (intro w hSw; (try dsimp only at hSw); go_simp; try with_reducible rfl)
    simp only [Act.put, List.getElem_toArray, List.getElem_cons_succ, List.getElem_cons_zero, List.setIfInBounds_toArray, List.set_cons_zero, List.set_cons_succ]
    refine till_take (i := 19) (v := ?_) [20, 21, 22, 23, 24, 25, 26, 27, 28, 29] rfl (by kernel_rfl) (by kernel_rfl) (by kernel_rfl) (by kernel_rfl) (fun _ _ _ h => h) (Or.inl ⟨by rfl, ?_⟩) (by assumption) ?_
    rotate_left
    · (intro w hSw; (try dsimp only at hSw); go_simp; try with_reducible rfl)
    simp only [Act.put, List.getElem_toArray, List.getElem_cons_succ, List.getElem_cons_zero, List.setIfInBounds_toArray, List.set_cons_zero, List.set_cons_succ]
    refine till_take (i := 20) (v := ?_) [23, 24, 25, 26, 27, 28, 29] rfl (by kernel_rfl) (by kernel_rfl) (by kernel_rfl) (by kernel_rfl) (fun _ _ _ h => h) (Or.inl ⟨by rfl, ?_⟩) (by assumption) ?_
    rotate_left
    · (intro w hSw; (try dsimp only at hSw); go_simp; try with_reducible rfl)
    simp only [Act.put, List.getElem_toArray, List.getElem_cons_succ, List.getElem_cons_zero, List.setIfInBounds_toArray, List.set_cons_zero, List.set_cons_succ]
    refine till_take (i := 21) (v := ?_) [22, 23, 24, 25, 26, 27, 28, 29] rfl (by kernel_rfl) (by kernel_rfl) (by kernel_rfl) (by kernel_rfl) (fun _ _ _ h => h) (Or.inl ⟨by rfl, ?_⟩) (by assumption) ?_
    rotate_left
    · (intro w hSw; (try dsimp only at hSw); go_simp; try with_reducible rfl)
    simp only [Act.put, List.getElem_toArray, List.getElem_cons_succ, List.getElem_cons_zero, List.setIfInBounds_toArray, List.set_cons_zero, List.set_cons_succ]
    refine till_in (i := 22) (by kernel_rfl) rfl (fun K hK => ?_)
    go_simp
    refine (absK b1 a1 len1 cap1 z1 20 _ (h1.later HW)).mono ?_
    rintro e v78 ⟨bj, aj, lj, cj, rfl, hj, hb9⟩
    replace HW := Below.step HW hb9
    clear hb9
    refine hK.out _ _ ?_ (fun hHeld => ?_)
    · exact ⟨(P0.later HW).facts.1, (P0.later HW).facts.2.1, (P1.later HW).facts.1, (P1.later HW).facts.2.1, (Br.later HW).facts.1, (Br.later HW).facts.2.1, (Bs.later HW).facts.1, (Bs.later HW).facts.2.1⟩
    clear hK K
    try simp only [Act.put, List.getElem_toArray, List.getElem_cons_succ, List.getElem_cons_zero, List.setIfInBounds_toArray, List.set_cons_zero, List.set_cons_succ]
    refine till_in (i := 23) (by kernel_rfl) rfl (fun K hK => ?_)
    go_simp
    refine (cmpK bs as' ls cs (z0 % z1) 20 bj aj lj cj (z1.natAbs : Int) 20 (-1) _ ((hs.later HW).ik (by omega)) (hj.ik (by omega)) (unhide C2)).mono ?_
    rintro e v79 ⟨rfl, hb9⟩
    replace HW := Below.step HW hb9
    replace hj := hj.later hb9
    clear hb9 hj
    refine hK.out _ _ ?_ (fun hHeld => ?_)
    · exact ⟨(P0.later HW).facts.1, (P0.later HW).facts.2.1, (P1.later HW).facts.1, (P1.later HW).facts.2.1, (Br.later HW).facts.1, (Br.later HW).facts.2.1, (Bs.later HW).facts.1, (Bs.later HW).facts.2.1⟩
    clear hK K
    try simp only [Act.put, List.getElem_toArray, List.getElem_cons_succ, List.getElem_cons_zero, List.setIfInBounds_toArray, List.set_cons_zero, List.set_cons_succ]
    refine till_take (i := 24) (v := ?_) [25, 26, 27, 28, 29] rfl (by kernel_rfl) (by kernel_rfl) (by kernel_rfl) (by kernel_rfl) (fun _ _ _ h => h) (Or.inl ⟨by rfl, ?_⟩) (by assumption) ?_
    rotate_left
    · (intro w hSw; (try dsimp only at hSw); go_simp; try with_reducible rfl)
    simp only [Act.put, List.getElem_toArray, List.getElem_cons_succ, List.getElem_cons_zero, List.setIfInBounds_toArray, List.set_cons_zero, List.set_cons_succ]
    refine till_take (i := 25) (v := ?_) [26, 27, 28, 29] rfl (by kernel_rfl) (by kernel_rfl) (by kernel_rfl) (by kernel_rfl) (fun _ _ _ h => h) (Or.inl ⟨by rfl, ?_⟩) (by assumption) ?_
    rotate_left
    · (intro w hSw; (try dsimp only at hSw); go_simp; try with_reducible rfl)
    simp only [Act.put, List.getElem_toArray, List.getElem_cons_succ, List.getElem_cons_zero, List.setIfInBounds_toArray, List.set_cons_zero, List.set_cons_succ]
    refine till_take (i := 26) (v := ?_) [27, 28, 29] rfl (by kernel_rfl) (by kernel_rfl) (by kernel_rfl) (by kernel_rfl) (fun _ _ _ h => h) (Or.inl ⟨by rfl, ?_⟩) (by assumption) ?_
    rotate_left
    · (intro w hSw; (try dsimp only at hSw); go_simp; try with_reducible rfl)
    simp only [Act.put, List.getElem_toArray, List.getElem_cons_succ, List.getElem_cons_zero, List.setIfInBounds_toArray, List.set_cons_zero, List.set_cons_succ]
    refine till_in (i := 27) (by kernel_rfl) rfl (fun K hK => ?_)
    go_simp
    refine (awake5_any _).mono ?_
    rintro e v80 ⟨rfl, hb9⟩
    replace HW := Below.step HW hb9
    clear hb9
    refine hK.out _ _ ?_ (fun hHeld => ?_)
    · exact ⟨(P0.later HW).facts.1, (P0.later HW).facts.2.1, (P1.later HW).facts.1, (P1.later HW).facts.2.1, (Br.later HW).facts.1, (Br.later HW).facts.2.1, (Bs.later HW).facts.1, (Bs.later HW).facts.2.1⟩
    clear hK K
    try simp only [Act.put, List.getElem_toArray, List.getElem_cons_succ, List.getElem_cons_zero, List.setIfInBounds_toArray, List.set_cons_zero, List.set_cons_succ]
    refine till_take (i := 28) (v := ?_) [29] rfl (by kernel_rfl) (by kernel_rfl) (by kernel_rfl) (by kernel_rfl) (fun _ _ _ h => h) (Or.inl ⟨by rfl, ?_⟩) (by assumption) ?_
    rotate_left
    · (intro w hSw; (try dsimp only at hSw); go_simp; try with_reducible rfl)
    simp only [Act.put, List.getElem_toArray, List.getElem_cons_succ, List.getElem_cons_zero, List.setIfInBounds_toArray, List.set_cons_zero, List.set_cons_succ]
    refine till_out (i := 29) (by kernel_rfl) rfl (by kernel_rfl) (fun K hK => ?_)
    go_simp
    refine hK.out _ _ ?_
    clear hK K
    try simp only [Act.put, List.getElem_toArray, List.getElem_cons_succ, List.getElem_cons_zero, List.setIfInBounds_toArray, List.set_cons_zero, List.set_cons_succ]
    refine till_done (by kernel_rfl) ?_ _
    go_wp2
    go_ret
    exact ⟨rfl, Below.step (unhide HB) HW⟩
  · have hf' : b = false := by simpa using hf
    subst hf'
    clear hb hf
    go_wp2_with fail
    refine (awake5_any _).mono ?_
    rintro e w2 ⟨rfl, hb2⟩
    go_wp2
    go_ret
    exact ⟨rfl, Below.step (unhide HB) hb2⟩

#print axioms quotBack_walk
end Go.Proofs.Ytcafodggkhkpnaa
