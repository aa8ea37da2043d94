/-
  The walk of QuotNear: it tells true.
-/
import Derived.Test.YtcafodggkhkpnaaFew5
import Derived.Test.YtcafodggkhkpnaaAwake5
import Derived.Test.YtcafodggkhkpnaaTill2
namespace Go.Proofs.Ytcafodggkhkpnaa
open Go.RowKit Lb

theorem cmp_neg1 {a b : Int} (h : a < b) : (-1 : Int) = (a - b).sign := (Int.sign_eq_neg_one_of_neg (by omega)).symm
theorem sign_ge {a : Int} (h : 0 ≤ a) : 0 ≤ a.sign := by
  rcases Int.lt_trichotomy a 0 with c | c | c
  · omega
  · rw [c]; decide
  · rw [Int.sign_eq_one_of_pos c]; decide

theorem intsIn2 {w : World} (b0 : Bool) (a0 : Option Addr) (len0 cap0 : Nat) (b1 : Bool) (a1 : Option Addr) (len1 cap1 : Nat) {n : Nat} (hn : n = w.heap.size) :
    IntsIn (w.alloc (.cells #[.bool b0, .slice a0 len0 cap0, .bool b1, .slice a1 len1 cap1] 24)) n 2 (fun i => if i = 0 then b0 else b1) (fun i => if i = 0 then a0 else a1) (fun i => if i = 0 then len0 else len1) (fun i => if i = 0 then cap0 else cap1) := by
  subst hn
  intro i hi
  match i with
  | 0 => simp
  | 1 => simp

set_option maxRecDepth 20000 in
set_option maxHeartbeats 8000000 in
theorem quotNear_walk (b0 : Bool) (a0 : Option Addr) (len0 cap0 : Nat) (xs0 : List Nat) (b1 : Bool) (a1 : Option Addr) (len1 cap1 : Nat) (xs1 : List Nat) (w : World) (r0 : RowAt w a0 len0 cap0 xs0) (r1 : RowAt w a1 len1 cap1 xs1) :
    Calls Try.prog 6 #[.agg #[.bool b0, .slice a0 len0 cap0], .agg #[.bool b1, .slice a1 len1 cap1]] w fun e w' => e = .returned (.bool true) ∧ Below w.heap.size w w' := by
  have hm0 := Nat.le_trans r0.cap_le r0.cap_max
  have hx0 := r0.int b0
  obtain ⟨z0, ez0⟩ : ∃ z, z = sgnd b0 (Lb.val xs0) := ⟨_, rfl⟩
  rw [← ez0] at hx0
  clear ez0 r0
  have hm1 := Nat.le_trans r1.cap_le r1.cap_max
  have hx1 := r1.int b1
  obtain ⟨z1, ez1⟩ : ∃ z, z = sgnd b1 (Lb.val xs1) := ⟨_, rfl⟩
  rw [← ez1] at hx1
  clear ez1 r1
  have HI := hide (intsIn2 (w := ((w.alloc (.cells #[.bool b0, .slice a0 len0 cap0] 24)).alloc (.cells #[.bool b1, .slice a1 len1 cap1] 24))) b0 a0 len0 cap0 b1 a1 len1 cap1 (n := w.heap.size + 2) (by simp))
  go_enter Try.func6, Try.ntmps6
  go_wp2_with fail
  refine (few5_any _ _ _ _ _ _ _ (unhide HI) (by omega) (by simp <;> omega) (by intro i _; (first | assumption | (split <;> assumption) | (split <;> (first | assumption | (split <;> assumption)))))).mono ?_
  rintro e w1 ⟨⟨b, rfl, hb⟩, hb1⟩
  obtain ⟨W0, hWe⟩ : ∃ W', W' = ((w.alloc (.cells #[.bool b0, .slice a0 len0 cap0] 24)).alloc (.cells #[.bool b1, .slice a1 len1 cap1] 24)) := ⟨_, rfl⟩
  obtain ⟨P0, P1, hb0⟩ := boxes2 w b0 a0 len0 cap0 b1 a1 len1 cap1 hWe
  rw [← hWe] at hb1
  clear hWe HI
  have hb2 := Below.step (below_one W0 _) hb1
  clear hb1
  replace P0 := P0.later hb2
  replace P1 := P1.later hb2
  have HB := hide (Below.step hb0 hb2)
  clear hb0 hb2
  by_cases hf : b = true
  · subst hf
    have e0 : len0 ≤ 20 := (hb.1 rfl) 0 (by omega)
    have e1 : len1 ≤ 20 := (hb.1 rfl) 1 (by omega)
    have h0 := ik_of (hx0.later (unhide HB)) e0 (by omega)
    have h1 := ik_of (hx1.later (unhide HB)) e1 (by omega)
    have L0 := hide e0
    have L1 := hide e1
    clear hb hm0 hx0 e0 hm1 hx1 e1
    by_cases hz1 : z1 = 0
    · have E0 := hide (show (0 : Int) = z1.sign by rw [hz1]; rfl)
      clear hz1
      obtain ⟨fP11, fP12, _, _⟩ := P1.facts
      go_wp2_with fail
      refine (signK b1 a1 len1 cap1 z1 20 0 _ h1 (unhide E0)).mono ?_
      rintro e v1 ⟨rfl, hb9⟩
      clear fP11 fP12
      replace P0 := P0.later hb9
      replace P1 := P1.later hb9
      replace h0 := h0.later hb9
      replace h1 := h1.later hb9
      replace HB := hide (Below.step (unhide HB) hb9)
      clear hb9
      go_wp2_with fail
      refine (awake5_any _).mono ?_
      rintro e w2 ⟨rfl, hb2⟩
      go_wp2
      go_ret
      exact ⟨rfl, Below.step (unhide HB) hb2⟩
    obtain ⟨s1, es1⟩ : ∃ s, s = z1.sign := ⟨_, rfl⟩
    have hs1 : (s1 == 0) = false := by rw [beq_eq_false_iff_ne, es1]; exact fun e => hz1 (Int.sign_eq_zero_iff_zero.1 e)
    have E1 := hide es1
    have N1 := hide hz1
    have HN := hide ((near_is (x := z0) (n := near z0 z1) hz1).1 rfl)
    clear es1 hz1
    obtain ⟨fP11, fP12, _, _⟩ := P1.facts
    go_wp2_with fail
    refine (signK b1 a1 len1 cap1 z1 20 s1 _ h1 (unhide E1)).mono ?_
    rintro e v1 ⟨rfl, hb9⟩
    clear fP11 fP12
    replace P0 := P0.later hb9
    replace P1 := P1.later hb9
    replace h0 := h0.later hb9
    replace h1 := h1.later hb9
    replace HB := hide (Below.step (unhide HB) hb9)
    clear hb9
    obtain ⟨fP01, fP02, _, _⟩ := P0.facts
    obtain ⟨fP11, fP12, _, _⟩ := P1.facts
    go_wp2_with fail
    refine (nearK b0 a0 len0 cap0 z0 20 b1 a1 len1 cap1 z1 20 _ h0 h1 (unhide N1) (by omega) (by omega)).mono ?_
    rintro e v2 ⟨bn, an, ln, cn, rfl, hn, hb9⟩
    clear fP01 fP02 fP11 fP12
    replace P0 := P0.later hb9
    replace P1 := P1.later hb9
    replace h0 := h0.later hb9
    replace h1 := h1.later hb9
    replace HB := hide (Below.step (unhide HB) hb9)
    clear hb9
    go_upto_region 4 with fail
    obtain ⟨v3, hWe⟩ : ∃ W', W' = (v2.alloc (.cells #[.bool bn, .slice an ln cn] 24)) := ⟨_, rfl⟩
    obtain ⟨Bn, hb9⟩ := boxes1 v2 bn an ln cn hWe
    rw [← hWe]
    clear hWe
    replace P0 := P0.later hb9
    replace P1 := P1.later hb9
    replace h0 := h0.later hb9
    replace h1 := h1.later hb9
    replace hn := hn.later hb9
    replace HB := hide (Below.step (unhide HB) hb9)
    clear hb9
    have hsz0 := P1.lt
    go_cut [7] from 25 to 31 (fun s wc => ∃ g b6 a6 l6 c6, s = .pointer (some ⟨g, 0, none⟩) ∧ Box wc g b6 a6 l6 c6 ∧ v3.heap.size ≤ g ∧ FK wc b6 a6 l6 c6 (2 * (z0 - near z0 z1 * z1)) (2 + (max 20 ((max 20 2 + 1) + 20) + 1)) ∧ Below v3.heap.size v3 wc)
    case first =>
      clear hs1 hsz0
      have HW : Below v3.heap.size v3 v3.drew := (Below.refl _ _).drew
      refine till_start (fun w' => w'.cell? ⟨w.heap.size, 0, none⟩ = some (.bool b0) ∧ w'.cell? ⟨w.heap.size, 1, none⟩ = some (.slice a0 len0 cap0) ∧ w'.cell? ⟨w.heap.size + 1, 0, none⟩ = some (.bool b1) ∧ w'.cell? ⟨w.heap.size + 1, 1, none⟩ = some (.slice a1 len1 cap1) ∧ w'.cell? ⟨v2.heap.size, 0, none⟩ = some (.bool bn) ∧ w'.cell? ⟨v2.heap.size, 1, none⟩ = some (.slice an ln cn)) 8 (by kernel_rfl) ?_ (fun hHeld => ?_)
      · exact ⟨(P0.later HW).facts.1, (P0.later HW).facts.2.1, (P1.later HW).facts.1, (P1.later HW).facts.2.1, (Bn.later HW).facts.1, (Bn.later HW).facts.2.1⟩
      obtain ⟨v51, hvd⟩ : ∃ v, v = v3.drew := ⟨_, rfl⟩
      rw [← hvd] at HW hHeld ⊢
      clear hvd
      refine till_take (i := 1) (v := ?_) [5, 6, 8] rfl (by kernel_rfl) (by kernel_rfl) (by kernel_rfl) (by kernel_rfl) (fun _ _ _ h => h) (Or.inl ⟨by rfl, ?_⟩) (by assumption) ?_
      rotate_left
      · (intro w hSw; (try dsimp only at hSw); go_simp; try with_reducible rfl)
      simp only [Act.put, List.getElem_toArray, List.getElem_cons_succ, List.getElem_cons_zero, List.setIfInBounds_toArray, List.set_cons_zero, List.set_cons_succ]
      refine till_take (i := 2) (v := ?_) [4, 5, 6, 8] rfl (by kernel_rfl) (by kernel_rfl) (by kernel_rfl) (by kernel_rfl) (fun _ _ _ h => h) (Or.inl ⟨by rfl, ?_⟩) (by assumption) ?_
      rotate_left
      · (intro w hSw; (try dsimp only at hSw); go_simp; try with_reducible rfl)
      simp only [Act.put, List.getElem_toArray, List.getElem_cons_succ, List.getElem_cons_zero, List.setIfInBounds_toArray, List.set_cons_zero, List.set_cons_succ]
      refine till_take (i := 3) (v := ?_) [4, 5, 6, 8] rfl (by kernel_rfl) (by kernel_rfl) (by kernel_rfl) (by kernel_rfl) (fun _ _ _ h => h) (Or.inl ⟨by rfl, ?_⟩) (by assumption) ?_
      rotate_left
      · (intro w hSw; (try dsimp only at hSw); go_simp; try with_reducible rfl)
      simp only [Act.put, List.getElem_toArray, List.getElem_cons_succ, List.getElem_cons_zero, List.setIfInBounds_toArray, List.set_cons_zero, List.set_cons_succ]
      refine till_two (i := 0) (j := 7) (by kernel_rfl) rfl rfl (fun K hK => ?_) (fun K hK => ?_)
      · go_simp
        refine (ofK 2 _ (by omega) (by omega)).mono ?_
        rintro e v52 ⟨bo, ao, lo, co, rfl, ho, hb9⟩
        replace HW := Below.step HW hb9
        clear hb9
        refine hK.out _ _ ?_ (fun hHeld => ?_)
        · exact ⟨(P0.later HW).facts.1, (P0.later HW).facts.2.1, (P1.later HW).facts.1, (P1.later HW).facts.2.1, (Bn.later HW).facts.1, (Bn.later HW).facts.2.1⟩
        clear hK K
        try simp only [Act.put, List.getElem_toArray, List.getElem_cons_zero, List.setIfInBounds_toArray, List.set_cons_zero, List.set_cons_succ]
        refine till_two (i := 4) (j := 7) (by kernel_rfl) rfl rfl (fun K hK => ?_) (fun K hK => ?_)
        · go_simp
          refine (mulK bn an ln cn (near z0 z1) (max 20 2 + 1) b1 a1 len1 cap1 z1 20 _ ((hn.later HW).ik (by omega)) (h1.later HW)).mono ?_
          rintro e v53 ⟨bm, am, lm, cm, rfl, hm, hb9⟩
          replace HW := Below.step HW hb9
          replace ho := ho.later hb9
          clear hb9
          refine hK.out _ _ ?_ (fun hHeld => ?_)
          · exact ⟨(P0.later HW).facts.1, (P0.later HW).facts.2.1, (P1.later HW).facts.1, (P1.later HW).facts.2.1, (Bn.later HW).facts.1, (Bn.later HW).facts.2.1⟩
          clear hK K
          try simp only [Act.put, List.getElem_toArray, List.getElem_cons_succ, List.getElem_cons_zero, List.setIfInBounds_toArray, List.set_cons_zero, List.set_cons_succ]
          refine till_two (i := 5) (j := 7) (by kernel_rfl) rfl rfl (fun K hK => ?_) (fun K hK => ?_)
          · go_simp
            refine (subK b0 a0 len0 cap0 z0 20 bm am lm cm (near z0 z1 * z1) ((max 20 2 + 1) + 20) _ (h0.later HW) (hm.ik (by omega))).mono ?_
            rintro e v54 ⟨bd, ad, ld, cd, rfl, hd, hb9⟩
            replace HW := Below.step HW hb9
            replace ho := ho.later hb9
            replace hm := hm.later hb9
            clear hb9 hm
            refine hK.out _ _ ?_ (fun hHeld => ?_)
            · exact ⟨(P0.later HW).facts.1, (P0.later HW).facts.2.1, (P1.later HW).facts.1, (P1.later HW).facts.2.1, (Bn.later HW).facts.1, (Bn.later HW).facts.2.1⟩
            clear hK K
            try simp only [Act.put, List.getElem_toArray, List.getElem_cons_succ, List.getElem_cons_zero, List.setIfInBounds_toArray, List.set_cons_zero, List.set_cons_succ]
            refine till_two (i := 6) (j := 7) (by kernel_rfl) rfl rfl (fun K hK => ?_) (fun K hK => ?_)
            · go_simp
              refine (mulK bo ao lo co 2 2 bd ad ld cd (z0 - near z0 z1 * z1) (max 20 ((max 20 2 + 1) + 20) + 1) _ (ho.ik (by omega)) (hd.ik (by omega))).mono ?_
              rintro e v55 ⟨be, ae, le, ce, rfl, he, hb9⟩
              replace HW := Below.step HW hb9
              replace ho := ho.later hb9
              replace hd := hd.later hb9
              clear hb9 ho hd
              refine hK.out _ _ ?_ (fun hHeld => ?_)
              · exact ⟨(P0.later HW).facts.1, (P0.later HW).facts.2.1, (P1.later HW).facts.1, (P1.later HW).facts.2.1, (Bn.later HW).facts.1, (Bn.later HW).facts.2.1⟩
              clear hK K
              try simp only [Act.put, List.getElem_toArray, List.getElem_cons_succ, List.getElem_cons_zero, List.setIfInBounds_toArray, List.set_cons_zero, List.set_cons_succ]
              refine till_in (i := 7) (by kernel_rfl) rfl (fun K hK => ?_)
              go_simp
              have hszv55 : v3.heap.size ≤ v55.heap.size := HW.size
              obtain ⟨v56, hWe⟩ : ∃ W', W' = v55.alloc (.cells #[.bool false, .slice none 0 0] 24) := ⟨_, rfl⟩
              obtain ⟨Bd, hb9⟩ := boxes1 v55 false none 0 0 hWe
              rw [← hWe]
              clear hWe
              replace HW := Below.step HW hb9
              replace he := he.later hb9
              clear hb9
              refine hK.out _ _ ?_ (fun hHeld => ?_)
              · exact ⟨(P0.later HW).facts.1, (P0.later HW).facts.2.1, (P1.later HW).facts.1, (P1.later HW).facts.2.1, (Bn.later HW).facts.1, (Bn.later HW).facts.2.1⟩
              clear hK K
              try simp only [Act.put, List.getElem_toArray, List.getElem_cons_succ, List.getElem_cons_zero, List.setIfInBounds_toArray, List.set_cons_zero, List.set_cons_succ]
              refine till_out (i := 8) (by kernel_rfl) rfl (by kernel_rfl) (fun K hK => ?_)
              obtain ⟨q1, q2, q3, q4⟩ := Bd.facts
              go_simp
              refine hK.out _ _ ?_
              clear hK K
              try simp only [Act.put, List.getElem_toArray, List.getElem_cons_succ, List.getElem_cons_zero, List.setIfInBounds_toArray, List.set_cons_zero, List.set_cons_succ]
              clear q1 q2 q3 q4
              refine till_done (by kernel_rfl) ?_ _
              go_wp2_with fail
              go_meet
              case rel =>
                have nl := Bd.noLimb
                have hge : v3.heap.size ≤ v55.heap.size := by (first | exact Nat.le_refl _ | exact hszv55)
                exact ⟨_, _, _, _, _, rfl, Bd.put be ae le ce, hge, he.put nl be ae le ce, below_put HW hge be ae le ce⟩
            · go_simp
              have hszv54 : v3.heap.size ≤ v54.heap.size := HW.size
              obtain ⟨v57, hWe⟩ : ∃ W', W' = v54.alloc (.cells #[.bool false, .slice none 0 0] 24) := ⟨_, rfl⟩
              obtain ⟨Bd, hb9⟩ := boxes1 v54 false none 0 0 hWe
              rw [← hWe]
              clear hWe
              replace HW := Below.step HW hb9
              replace ho := ho.later hb9
              replace hd := hd.later hb9
              clear hb9
              refine hK.out _ _ ?_ (fun hHeld => ?_)
              · exact ⟨(P0.later HW).facts.1, (P0.later HW).facts.2.1, (P1.later HW).facts.1, (P1.later HW).facts.2.1, (Bn.later HW).facts.1, (Bn.later HW).facts.2.1⟩
              clear hK K
              try simp only [Act.put, List.getElem_toArray, List.getElem_cons_succ, List.getElem_cons_zero, List.setIfInBounds_toArray, List.set_cons_zero, List.set_cons_succ]
              refine till_in (i := 6) (by kernel_rfl) rfl (fun K hK => ?_)
              go_simp
              refine (mulK bo ao lo co 2 2 bd ad ld cd (z0 - near z0 z1 * z1) (max 20 ((max 20 2 + 1) + 20) + 1) _ (ho.ik (by omega)) (hd.ik (by omega))).mono ?_
              rintro e v58 ⟨be, ae, le, ce, rfl, he, hb9⟩
              replace HW := Below.step HW hb9
              replace ho := ho.later hb9
              replace hd := hd.later hb9
              replace Bd := Bd.later hb9
              clear hb9 ho hd
              refine hK.out _ _ ?_ (fun hHeld => ?_)
              · exact ⟨(P0.later HW).facts.1, (P0.later HW).facts.2.1, (P1.later HW).facts.1, (P1.later HW).facts.2.1, (Bn.later HW).facts.1, (Bn.later HW).facts.2.1⟩
              clear hK K
              try simp only [Act.put, List.getElem_toArray, List.getElem_cons_succ, List.getElem_cons_zero, List.setIfInBounds_toArray, List.set_cons_zero, List.set_cons_succ]
              refine till_out (i := 8) (by kernel_rfl) rfl (by kernel_rfl) (fun K hK => ?_)
              obtain ⟨q1, q2, q3, q4⟩ := Bd.facts
              go_simp
              refine hK.out _ _ ?_
              clear hK K
              try simp only [Act.put, List.getElem_toArray, List.getElem_cons_succ, List.getElem_cons_zero, List.setIfInBounds_toArray, List.set_cons_zero, List.set_cons_succ]
              clear q1 q2 q3 q4
              refine till_done (by kernel_rfl) ?_ _
              go_wp2_with fail
              go_meet
              case rel =>
                have nl := Bd.noLimb
                have hge : v3.heap.size ≤ v54.heap.size := by (first | exact Nat.le_refl _ | exact hszv54)
                exact ⟨_, _, _, _, _, rfl, Bd.put be ae le ce, hge, he.put nl be ae le ce, below_put HW hge be ae le ce⟩
          · go_simp
            have hszv53 : v3.heap.size ≤ v53.heap.size := HW.size
            obtain ⟨v59, hWe⟩ : ∃ W', W' = v53.alloc (.cells #[.bool false, .slice none 0 0] 24) := ⟨_, rfl⟩
            obtain ⟨Bd, hb9⟩ := boxes1 v53 false none 0 0 hWe
            rw [← hWe]
            clear hWe
            replace HW := Below.step HW hb9
            replace ho := ho.later hb9
            replace hm := hm.later hb9
            clear hb9
            refine hK.out _ _ ?_ (fun hHeld => ?_)
            · exact ⟨(P0.later HW).facts.1, (P0.later HW).facts.2.1, (P1.later HW).facts.1, (P1.later HW).facts.2.1, (Bn.later HW).facts.1, (Bn.later HW).facts.2.1⟩
            clear hK K
            try simp only [Act.put, List.getElem_toArray, List.getElem_cons_succ, List.getElem_cons_zero, List.setIfInBounds_toArray, List.set_cons_zero, List.set_cons_succ]
            refine till_in (i := 5) (by kernel_rfl) rfl (fun K hK => ?_)
            go_simp
            refine (subK b0 a0 len0 cap0 z0 20 bm am lm cm (near z0 z1 * z1) ((max 20 2 + 1) + 20) _ (h0.later HW) (hm.ik (by omega))).mono ?_
            rintro e v60 ⟨bd, ad, ld, cd, rfl, hd, hb9⟩
            replace HW := Below.step HW hb9
            replace ho := ho.later hb9
            replace hm := hm.later hb9
            replace Bd := Bd.later hb9
            clear hb9 hm
            refine hK.out _ _ ?_ (fun hHeld => ?_)
            · exact ⟨(P0.later HW).facts.1, (P0.later HW).facts.2.1, (P1.later HW).facts.1, (P1.later HW).facts.2.1, (Bn.later HW).facts.1, (Bn.later HW).facts.2.1⟩
            clear hK K
            try simp only [Act.put, List.getElem_toArray, List.getElem_cons_succ, List.getElem_cons_zero, List.setIfInBounds_toArray, List.set_cons_zero, List.set_cons_succ]
            refine till_in (i := 6) (by kernel_rfl) rfl (fun K hK => ?_)
            go_simp
            refine (mulK bo ao lo co 2 2 bd ad ld cd (z0 - near z0 z1 * z1) (max 20 ((max 20 2 + 1) + 20) + 1) _ (ho.ik (by omega)) (hd.ik (by omega))).mono ?_
            rintro e v61 ⟨be, ae, le, ce, rfl, he, hb9⟩
            replace HW := Below.step HW hb9
            replace ho := ho.later hb9
            replace Bd := Bd.later hb9
            replace hd := hd.later hb9
            clear hb9 ho hd
            refine hK.out _ _ ?_ (fun hHeld => ?_)
            · exact ⟨(P0.later HW).facts.1, (P0.later HW).facts.2.1, (P1.later HW).facts.1, (P1.later HW).facts.2.1, (Bn.later HW).facts.1, (Bn.later HW).facts.2.1⟩
            clear hK K
            try simp only [Act.put, List.getElem_toArray, List.getElem_cons_succ, List.getElem_cons_zero, List.setIfInBounds_toArray, List.set_cons_zero, List.set_cons_succ]
            refine till_out (i := 8) (by kernel_rfl) rfl (by kernel_rfl) (fun K hK => ?_)
            obtain ⟨q1, q2, q3, q4⟩ := Bd.facts
            go_simp
            refine hK.out _ _ ?_
            clear hK K
            try simp only [Act.put, List.getElem_toArray, List.getElem_cons_succ, List.getElem_cons_zero, List.setIfInBounds_toArray, List.set_cons_zero, List.set_cons_succ]
            clear q1 q2 q3 q4
            refine till_done (by kernel_rfl) ?_ _
            go_wp2_with fail
            go_meet
            case rel =>
              have nl := Bd.noLimb
              have hge : v3.heap.size ≤ v53.heap.size := by (first | exact Nat.le_refl _ | exact hszv53)
              exact ⟨_, _, _, _, _, rfl, Bd.put be ae le ce, hge, he.put nl be ae le ce, below_put HW hge be ae le ce⟩
        · go_simp
          have hszv52 : v3.heap.size ≤ v52.heap.size := HW.size
          obtain ⟨v62, hWe⟩ : ∃ W', W' = v52.alloc (.cells #[.bool false, .slice none 0 0] 24) := ⟨_, rfl⟩
          obtain ⟨Bd, hb9⟩ := boxes1 v52 false none 0 0 hWe
          rw [← hWe]
          clear hWe
          replace HW := Below.step HW hb9
          replace ho := ho.later hb9
          clear hb9
          refine hK.out _ _ ?_ (fun hHeld => ?_)
          · exact ⟨(P0.later HW).facts.1, (P0.later HW).facts.2.1, (P1.later HW).facts.1, (P1.later HW).facts.2.1, (Bn.later HW).facts.1, (Bn.later HW).facts.2.1⟩
          clear hK K
          try simp only [Act.put, List.getElem_toArray, List.getElem_cons_succ, List.getElem_cons_zero, List.setIfInBounds_toArray, List.set_cons_zero, List.set_cons_succ]
          refine till_in (i := 4) (by kernel_rfl) rfl (fun K hK => ?_)
          go_simp
          refine (mulK bn an ln cn (near z0 z1) (max 20 2 + 1) b1 a1 len1 cap1 z1 20 _ ((hn.later HW).ik (by omega)) (h1.later HW)).mono ?_
          rintro e v63 ⟨bm, am, lm, cm, rfl, hm, hb9⟩
          replace HW := Below.step HW hb9
          replace ho := ho.later hb9
          replace Bd := Bd.later hb9
          clear hb9
          refine hK.out _ _ ?_ (fun hHeld => ?_)
          · exact ⟨(P0.later HW).facts.1, (P0.later HW).facts.2.1, (P1.later HW).facts.1, (P1.later HW).facts.2.1, (Bn.later HW).facts.1, (Bn.later HW).facts.2.1⟩
          clear hK K
          try simp only [Act.put, List.getElem_toArray, List.getElem_cons_succ, List.getElem_cons_zero, List.setIfInBounds_toArray, List.set_cons_zero, List.set_cons_succ]
          refine till_in (i := 5) (by kernel_rfl) rfl (fun K hK => ?_)
          go_simp
          refine (subK b0 a0 len0 cap0 z0 20 bm am lm cm (near z0 z1 * z1) ((max 20 2 + 1) + 20) _ (h0.later HW) (hm.ik (by omega))).mono ?_
          rintro e v64 ⟨bd, ad, ld, cd, rfl, hd, hb9⟩
          replace HW := Below.step HW hb9
          replace ho := ho.later hb9
          replace Bd := Bd.later hb9
          replace hm := hm.later hb9
          clear hb9 hm
          refine hK.out _ _ ?_ (fun hHeld => ?_)
          · exact ⟨(P0.later HW).facts.1, (P0.later HW).facts.2.1, (P1.later HW).facts.1, (P1.later HW).facts.2.1, (Bn.later HW).facts.1, (Bn.later HW).facts.2.1⟩
          clear hK K
          try simp only [Act.put, List.getElem_toArray, List.getElem_cons_succ, List.getElem_cons_zero, List.setIfInBounds_toArray, List.set_cons_zero, List.set_cons_succ]
          refine till_in (i := 6) (by kernel_rfl) rfl (fun K hK => ?_)
          go_simp
          refine (mulK bo ao lo co 2 2 bd ad ld cd (z0 - near z0 z1 * z1) (max 20 ((max 20 2 + 1) + 20) + 1) _ (ho.ik (by omega)) (hd.ik (by omega))).mono ?_
          rintro e v65 ⟨be, ae, le, ce, rfl, he, hb9⟩
          replace HW := Below.step HW hb9
          replace ho := ho.later hb9
          replace Bd := Bd.later hb9
          replace hd := hd.later hb9
          clear hb9 ho hd
          refine hK.out _ _ ?_ (fun hHeld => ?_)
          · exact ⟨(P0.later HW).facts.1, (P0.later HW).facts.2.1, (P1.later HW).facts.1, (P1.later HW).facts.2.1, (Bn.later HW).facts.1, (Bn.later HW).facts.2.1⟩
          clear hK K
          try simp only [Act.put, List.getElem_toArray, List.getElem_cons_succ, List.getElem_cons_zero, List.setIfInBounds_toArray, List.set_cons_zero, List.set_cons_succ]
          refine till_out (i := 8) (by kernel_rfl) rfl (by kernel_rfl) (fun K hK => ?_)
          obtain ⟨q1, q2, q3, q4⟩ := Bd.facts
          go_simp
          refine hK.out _ _ ?_
          clear hK K
          try simp only [Act.put, List.getElem_toArray, List.getElem_cons_succ, List.getElem_cons_zero, List.setIfInBounds_toArray, List.set_cons_zero, List.set_cons_succ]
          clear q1 q2 q3 q4
          refine till_done (by kernel_rfl) ?_ _
          go_wp2_with fail
          go_meet
          case rel =>
            have nl := Bd.noLimb
            have hge : v3.heap.size ≤ v52.heap.size := by (first | exact Nat.le_refl _ | exact hszv52)
            exact ⟨_, _, _, _, _, rfl, Bd.put be ae le ce, hge, he.put nl be ae le ce, below_put HW hge be ae le ce⟩
      · go_simp
        have hszv51 : v3.heap.size ≤ v51.heap.size := HW.size
        obtain ⟨v66, hWe⟩ : ∃ W', W' = v51.alloc (.cells #[.bool false, .slice none 0 0] 24) := ⟨_, rfl⟩
        obtain ⟨Bd, hb9⟩ := boxes1 v51 false none 0 0 hWe
        rw [← hWe]
        clear hWe
        replace HW := Below.step HW hb9
        clear hb9
        refine hK.out _ _ ?_ (fun hHeld => ?_)
        · exact ⟨(P0.later HW).facts.1, (P0.later HW).facts.2.1, (P1.later HW).facts.1, (P1.later HW).facts.2.1, (Bn.later HW).facts.1, (Bn.later HW).facts.2.1⟩
        clear hK K
        try simp only [Act.put, List.getElem_toArray, List.getElem_cons_succ, List.getElem_cons_zero, List.setIfInBounds_toArray, List.set_cons_zero, List.set_cons_succ]
        refine till_in (i := 0) (by kernel_rfl) rfl (fun K hK => ?_)
        go_simp
        refine (ofK 2 _ (by omega) (by omega)).mono ?_
        rintro e v67 ⟨bo, ao, lo, co, rfl, ho, hb9⟩
        replace HW := Below.step HW hb9
        replace Bd := Bd.later hb9
        clear hb9
        refine hK.out _ _ ?_ (fun hHeld => ?_)
        · exact ⟨(P0.later HW).facts.1, (P0.later HW).facts.2.1, (P1.later HW).facts.1, (P1.later HW).facts.2.1, (Bn.later HW).facts.1, (Bn.later HW).facts.2.1⟩
        clear hK K
        try simp only [Act.put, List.getElem_toArray, List.getElem_cons_zero, List.setIfInBounds_toArray, List.set_cons_zero, List.set_cons_succ]
        refine till_in (i := 4) (by kernel_rfl) rfl (fun K hK => ?_)
        go_simp
        refine (mulK bn an ln cn (near z0 z1) (max 20 2 + 1) b1 a1 len1 cap1 z1 20 _ ((hn.later HW).ik (by omega)) (h1.later HW)).mono ?_
        rintro e v68 ⟨bm, am, lm, cm, rfl, hm, hb9⟩
        replace HW := Below.step HW hb9
        replace Bd := Bd.later hb9
        replace ho := ho.later hb9
        clear hb9
        refine hK.out _ _ ?_ (fun hHeld => ?_)
        · exact ⟨(P0.later HW).facts.1, (P0.later HW).facts.2.1, (P1.later HW).facts.1, (P1.later HW).facts.2.1, (Bn.later HW).facts.1, (Bn.later HW).facts.2.1⟩
        clear hK K
        try simp only [Act.put, List.getElem_toArray, List.getElem_cons_succ, List.getElem_cons_zero, List.setIfInBounds_toArray, List.set_cons_zero, List.set_cons_succ]
        refine till_in (i := 5) (by kernel_rfl) rfl (fun K hK => ?_)
        go_simp
        refine (subK b0 a0 len0 cap0 z0 20 bm am lm cm (near z0 z1 * z1) ((max 20 2 + 1) + 20) _ (h0.later HW) (hm.ik (by omega))).mono ?_
        rintro e v69 ⟨bd, ad, ld, cd, rfl, hd, hb9⟩
        replace HW := Below.step HW hb9
        replace Bd := Bd.later hb9
        replace ho := ho.later hb9
        replace hm := hm.later hb9
        clear hb9 hm
        refine hK.out _ _ ?_ (fun hHeld => ?_)
        · exact ⟨(P0.later HW).facts.1, (P0.later HW).facts.2.1, (P1.later HW).facts.1, (P1.later HW).facts.2.1, (Bn.later HW).facts.1, (Bn.later HW).facts.2.1⟩
        clear hK K
        try simp only [Act.put, List.getElem_toArray, List.getElem_cons_succ, List.getElem_cons_zero, List.setIfInBounds_toArray, List.set_cons_zero, List.set_cons_succ]
        refine till_in (i := 6) (by kernel_rfl) rfl (fun K hK => ?_)
        go_simp
        refine (mulK bo ao lo co 2 2 bd ad ld cd (z0 - near z0 z1 * z1) (max 20 ((max 20 2 + 1) + 20) + 1) _ (ho.ik (by omega)) (hd.ik (by omega))).mono ?_
        rintro e v70 ⟨be, ae, le, ce, rfl, he, hb9⟩
        replace HW := Below.step HW hb9
        replace Bd := Bd.later hb9
        replace ho := ho.later hb9
        replace hd := hd.later hb9
        clear hb9 ho hd
        refine hK.out _ _ ?_ (fun hHeld => ?_)
        · exact ⟨(P0.later HW).facts.1, (P0.later HW).facts.2.1, (P1.later HW).facts.1, (P1.later HW).facts.2.1, (Bn.later HW).facts.1, (Bn.later HW).facts.2.1⟩
        clear hK K
        try simp only [Act.put, List.getElem_toArray, List.getElem_cons_succ, List.getElem_cons_zero, List.setIfInBounds_toArray, List.set_cons_zero, List.set_cons_succ]
        refine till_out (i := 8) (by kernel_rfl) rfl (by kernel_rfl) (fun K hK => ?_)
        obtain ⟨q1, q2, q3, q4⟩ := Bd.facts
        go_simp
        refine hK.out _ _ ?_
        clear hK K
        try simp only [Act.put, List.getElem_toArray, List.getElem_cons_succ, List.getElem_cons_zero, List.setIfInBounds_toArray, List.set_cons_zero, List.set_cons_succ]
        clear q1 q2 q3 q4
        refine till_done (by kernel_rfl) ?_ _
        go_wp2_with fail
        go_meet
        case rel =>
          have nl := Bd.noLimb
          have hge : v3.heap.size ≤ v51.heap.size := by (first | exact Nat.le_refl _ | exact hszv51)
          exact ⟨_, _, _, _, _, rfl, Bd.put be ae le ce, hge, he.put nl be ae le ce, below_put HW hge be ae le ce⟩
    case rest =>
      obtain ⟨g, b6, a6, l6, c6, rfl, Bd, hge, hd, hb9⟩ := hcut
      replace P0 := P0.later hb9
      replace P1 := P1.later hb9
      replace h0 := h0.later hb9
      replace h1 := h1.later hb9
      replace hn := hn.later hb9
      replace Bn := Bn.later hb9
      replace HB := hide (Below.step (unhide HB) hb9)
      clear hb9
      clear hn Bn
      have hlt1 := P1.lt
      obtain ⟨fP11, fP12, _, _⟩ := P1.facts
      go_wp2_with fail
      refine (signK b1 a1 len1 cap1 z1 20 s1 _ h1 (unhide E1)).mono ?_
      rintro e v201 ⟨rfl, hb9⟩
      clear fP11 fP12
      replace P0 := P0.later hb9
      replace P1 := P1.later hb9
      replace h0 := h0.later hb9
      replace h1 := h1.later hb9
      replace Bd := Bd.later hb9
      replace hd := hd.later hb9
      replace HB := hide (Below.step (unhide HB) hb9)
      clear hb9
      by_cases hneg : z1 < 0
      · have hsn : s1 < 0 := by rw [unhide E1, Int.sign_eq_neg_one_of_neg hneg]; omega
        have hN := unhide HN
        rw [Int.sign_eq_neg_one_of_neg hneg, Int.mul_neg, Int.mul_one] at hN
        obtain ⟨s2, e2⟩ : ∃ s, s = (-(2 * (z0 - near z0 z1 * z1)) - -(z1.natAbs : Int)).sign := ⟨_, rfl⟩
        have hs2 : 0 ≤ s2 := by rw [e2]; exact sign_ge (by omega)
        have C1 := hide (cmp_neg1 (a := -(2 * (z0 - near z0 z1 * z1))) (b := (z1.natAbs : Int)) (by omega))
        have C2 := hide e2
        clear e2 hN HN hneg
        obtain ⟨fBd1, fBd2, _, _⟩ := Bd.facts
        go_wp2_with fail
        refine (negK b6 a6 l6 c6 (2 * (z0 - near z0 z1 * z1)) (2 + (max 20 ((max 20 2 + 1) + 20) + 1)) _ (hd.ik (by omega))).mono ?_
        rintro e v301 ⟨bk, ak, lk, ck, rfl, hk, hb9⟩
        clear fBd1 fBd2
        replace P0 := P0.later hb9
        replace P1 := P1.later hb9
        replace h0 := h0.later hb9
        replace h1 := h1.later hb9
        replace Bd := Bd.later hb9
        replace hd := hd.later hb9
        replace HB := hide (Below.step (unhide HB) hb9)
        clear hb9
        obtain ⟨q1, q2, q3, q4⟩ := Bd.facts
        have hlg := Bd.lt
        go_wp2_with fail
        clear q1 q2 q3 q4
        obtain ⟨v400, hWx⟩ : ∃ W', W' = ((v301.setCell ⟨g, 0, none⟩ (.bool bk)).setCell ⟨g, 1, none⟩ (.slice ak lk ck)) := ⟨_, rfl⟩
        rw [← hWx]
        have nx := Bd.noLimb
        replace h1 : IK v400 b1 a1 len1 cap1 z1 20 := by rw [hWx]; exact h1.put nx bk ak lk ck
        replace hk : FK v400 bk ak lk ck (-(2 * (z0 - near z0 z1 * z1))) (2 + (max 20 ((max 20 2 + 1) + 20) + 1)) := by rw [hWx]; exact hk.put nx bk ak lk ck
        replace P1 : Box v400 (w.heap.size + 1) b1 a1 len1 cap1 := by rw [hWx]; exact P1.other (by omega) bk ak lk ck
        replace Bd : Box v400 g bk ak lk ck := by rw [hWx]; exact Bd.put bk ak lk ck
        replace HB : Hid (Below w.heap.size w v400) := by rw [hWx]; exact below_put (unhide HB) (by omega) bk ak lk ck
        clear hWx nx hd h0 P0
        have HW : Below v400.heap.size v400 v400.drew := (Below.refl _ _).drew
        refine till_start (fun w' => w'.cell? ⟨w.heap.size + 1, 0, none⟩ = some (.bool b1) ∧ w'.cell? ⟨w.heap.size + 1, 1, none⟩ = some (.slice a1 len1 cap1) ∧ w'.cell? ⟨g, 0, none⟩ = some (.bool bk) ∧ w'.cell? ⟨g, 1, none⟩ = some (.slice ak lk ck)) 19 (by kernel_rfl) ?_ (fun hHeld => ?_)
        · exact ⟨(P1.later HW).facts.1, (P1.later HW).facts.2.1, (Bd.later HW).facts.1, (Bd.later HW).facts.2.1⟩
        refine till_take (i := 0) (v := ?_) [1, 2, 3, 4, 5, 6, 7, 8, 9, 10, 11, 12, 13, 14, 15, 16, 17, 18, 19] rfl (by kernel_rfl) (by kernel_rfl) (by kernel_rfl) (by kernel_rfl) (fun _ _ _ h => h) (Or.inl ⟨by rfl, ?_⟩) (by assumption) ?_
        rotate_left
        · (intro w hSw; (try dsimp only at hSw); go_simp; try with_reducible rfl)
        simp only [Act.put, List.getElem_toArray, List.getElem_cons_zero, List.setIfInBounds_toArray, List.set_cons_zero, List.set_cons_succ]
        refine till_take (i := 1) (v := ?_) [2, 3, 4, 5, 6, 7, 8, 9, 10, 11, 12, 13, 14, 15, 16, 17, 18, 19] rfl (by kernel_rfl) (by kernel_rfl) (by kernel_rfl) (by kernel_rfl) (fun _ _ _ h => h) (Or.inl ⟨by rfl, ?_⟩) (by assumption) ?_
        rotate_left
        · (intro w hSw; (try dsimp only at hSw); go_simp; try with_reducible rfl)
        simp only [Act.put, List.getElem_toArray, List.getElem_cons_succ, List.getElem_cons_zero, List.setIfInBounds_toArray, List.set_cons_zero, List.set_cons_succ]
        refine till_take (i := 2) (v := ?_) [5, 6, 7, 8, 9, 10, 11, 12, 13, 14, 15, 16, 17, 18, 19] rfl (by kernel_rfl) (by kernel_rfl) (by kernel_rfl) (by kernel_rfl) (fun _ _ _ h => h) (Or.inl ⟨by rfl, ?_⟩) (by assumption) ?_
        rotate_left
        · (intro w hSw; (try dsimp only at hSw); go_simp; try with_reducible rfl)
        simp only [Act.put, List.getElem_toArray, List.getElem_cons_succ, List.getElem_cons_zero, List.setIfInBounds_toArray, List.set_cons_zero, List.set_cons_succ]
        refine till_take (i := 3) (v := ?_) [4, 5, 6, 7, 8, 9, 10, 11, 12, 13, 14, 15, 16, 17, 18, 19] rfl (by kernel_rfl) (by kernel_rfl) (by kernel_rfl) (by kernel_rfl) (fun _ _ _ h => h) (Or.inl ⟨by rfl, ?_⟩) (by assumption) ?_
        rotate_left
        · (intro w hSw; (try dsimp only at hSw); go_simp; try with_reducible rfl)
        simp only [Act.put, List.getElem_toArray, List.getElem_cons_succ, List.getElem_cons_zero, List.setIfInBounds_toArray, List.set_cons_zero, List.set_cons_succ]
        refine till_in (i := 4) (by kernel_rfl) rfl (fun K hK => ?_)
        go_simp
        refine (absK b1 a1 len1 cap1 z1 20 _ (h1.later HW)).mono ?_
        rintro e v302 ⟨bx, ax, lx, cx, rfl, hx, hb9⟩
        replace HW := Below.step HW hb9
        clear hb9
        refine hK.out _ _ ?_ (fun hHeld => ?_)
        · exact ⟨(P1.later HW).facts.1, (P1.later HW).facts.2.1, (Bd.later HW).facts.1, (Bd.later HW).facts.2.1⟩
        clear hK K
        try simp only [Act.put, List.getElem_toArray, List.getElem_cons_succ, List.getElem_cons_zero, List.setIfInBounds_toArray, List.set_cons_zero, List.set_cons_succ]
        refine till_in (i := 5) (by kernel_rfl) rfl (fun K hK => ?_)
        go_simp
        refine (cmpK bk ak lk ck (-(2 * (z0 - near z0 z1 * z1))) (2 + (max 20 ((max 20 2 + 1) + 20) + 1)) bx ax lx cx (z1.natAbs : Int) 20 (-1) _ ((hk.later HW).ik (by omega)) (hx.ik (by omega)) (unhide C1)).mono ?_
        rintro e v303 ⟨rfl, hb9⟩
        replace HW := Below.step HW hb9
        replace hx := hx.later hb9
        clear hb9 hx
        refine hK.out _ _ ?_ (fun hHeld => ?_)
        · exact ⟨(P1.later HW).facts.1, (P1.later HW).facts.2.1, (Bd.later HW).facts.1, (Bd.later HW).facts.2.1⟩
        clear hK K
        try simp only [Act.put, List.getElem_toArray, List.getElem_cons_succ, List.getElem_cons_zero, List.setIfInBounds_toArray, List.set_cons_zero, List.set_cons_succ]
        refine till_take (i := 6) (v := ?_) [7, 8, 9, 10, 11, 12, 13, 14, 15, 16, 17, 18, 19] rfl (by kernel_rfl) (by kernel_rfl) (by kernel_rfl) (by kernel_rfl) (fun _ _ _ h => h) (Or.inl ⟨by rfl, ?_⟩) (by assumption) ?_
        rotate_left
        · (intro w hSw; (try dsimp only at hSw); go_simp; try with_reducible rfl)
        simp only [Act.put, List.getElem_toArray, List.getElem_cons_succ, List.getElem_cons_zero, List.setIfInBounds_toArray, List.set_cons_zero, List.set_cons_succ]
        refine till_take (i := 7) (v := ?_) [8, 9, 10, 11, 12, 13, 14, 15, 16, 17, 18, 19] rfl (by kernel_rfl) (by kernel_rfl) (by kernel_rfl) (by kernel_rfl) (fun _ _ _ h => h) (Or.inl ⟨by rfl, ?_⟩) (by assumption) ?_
        rotate_left
        · (intro w hSw; (try dsimp only at hSw); go_simp; try with_reducible rfl)
        simp only [Act.put, List.getElem_toArray, List.getElem_cons_succ, List.getElem_cons_zero, List.setIfInBounds_toArray, List.set_cons_zero, List.set_cons_succ]
        refine till_take (i := 8) (v := ?_) [9, 10, 11, 12, 13, 14, 15, 16, 17, 18, 19] rfl (by kernel_rfl) (by kernel_rfl) (by kernel_rfl) (by kernel_rfl) (fun _ _ _ h => h) (Or.inl ⟨by rfl, ?_⟩) (by assumption) ?_
        rotate_left
        · (intro w hSw; (try dsimp only at hSw); go_simp; try with_reducible rfl)
        simp only [Act.put, List.getElem_toArray, List.getElem_cons_succ, List.getElem_cons_zero, List.setIfInBounds_toArray, List.set_cons_zero, List.set_cons_succ]
        refine till_take (i := 9) (v := ?_) [13, 14, 15, 16, 17, 18, 19] rfl (by kernel_rfl) (by kernel_rfl) (by kernel_rfl) (by kernel_rfl) (fun _ _ _ h => h) (Or.inl ⟨by rfl, ?_⟩) (by assumption) ?_
        rotate_left
        · (intro w hSw; (try dsimp only at hSw); go_simp; try with_reducible rfl)
        simp only [Act.put, List.getElem_toArray, List.getElem_cons_succ, List.getElem_cons_zero, List.setIfInBounds_toArray, List.set_cons_zero, List.set_cons_succ]
        refine till_take (i := 10) (v := ?_) [11, 12, 13, 14, 15, 16, 17, 18, 19] rfl (by kernel_rfl) (by kernel_rfl) (by kernel_rfl) (by kernel_rfl) (fun _ _ _ h => h) (Or.inl ⟨by rfl, ?_⟩) (by assumption) ?_
        rotate_left
        · (intro w hSw; (try dsimp only at hSw); go_simp; try with_reducible rfl)
        simp only [Act.put, List.getElem_toArray, List.getElem_cons_succ, List.getElem_cons_zero, List.setIfInBounds_toArray, List.set_cons_zero, List.set_cons_succ]
        refine till_in (i := 11) (by kernel_rfl) rfl (fun K hK => ?_)
        go_simp
        refine (absK b1 a1 len1 cap1 z1 20 _ (h1.later HW)).mono ?_
        rintro e v304 ⟨byy, ayy, lyy, cyy, rfl, hyy, hb9⟩
        replace HW := Below.step HW hb9
        clear hb9
        refine hK.out _ _ ?_ (fun hHeld => ?_)
        · exact ⟨(P1.later HW).facts.1, (P1.later HW).facts.2.1, (Bd.later HW).facts.1, (Bd.later HW).facts.2.1⟩
        clear hK K
        try simp only [Act.put, List.getElem_toArray, List.getElem_cons_succ, List.getElem_cons_zero, List.setIfInBounds_toArray, List.set_cons_zero, List.set_cons_succ]
        refine till_in (i := 12) (by kernel_rfl) rfl (fun K hK => ?_)
        go_simp
        refine (negK byy ayy lyy cyy (z1.natAbs : Int) 20 _ (hyy.ik (by omega))).mono ?_
        rintro e v305 ⟨bu, au, lu, cu, rfl, hu, hb9⟩
        replace HW := Below.step HW hb9
        replace hyy := hyy.later hb9
        clear hb9 hyy
        refine hK.out _ _ ?_ (fun hHeld => ?_)
        · exact ⟨(P1.later HW).facts.1, (P1.later HW).facts.2.1, (Bd.later HW).facts.1, (Bd.later HW).facts.2.1⟩
        clear hK K
        try simp only [Act.put, List.getElem_toArray, List.getElem_cons_succ, List.getElem_cons_zero, List.setIfInBounds_toArray, List.set_cons_zero, List.set_cons_succ]
        refine till_in (i := 13) (by kernel_rfl) rfl (fun K hK => ?_)
        go_simp
        refine (cmpK bk ak lk ck (-(2 * (z0 - near z0 z1 * z1))) (2 + (max 20 ((max 20 2 + 1) + 20) + 1)) bu au lu cu (-(z1.natAbs : Int)) 20 s2 _ ((hk.later HW).ik (by omega)) (hu.ik (by omega)) (unhide C2)).mono ?_
        rintro e v306 ⟨rfl, hb9⟩
        replace HW := Below.step HW hb9
        replace hu := hu.later hb9
        clear hb9 hu
        refine hK.out _ _ ?_ (fun hHeld => ?_)
        · exact ⟨(P1.later HW).facts.1, (P1.later HW).facts.2.1, (Bd.later HW).facts.1, (Bd.later HW).facts.2.1⟩
        clear hK K
        try simp only [Act.put, List.getElem_toArray, List.getElem_cons_succ, List.getElem_cons_zero, List.setIfInBounds_toArray, List.set_cons_zero, List.set_cons_succ]
        refine till_take (i := 14) (v := ?_) [15, 16, 17, 18, 19] rfl (by kernel_rfl) (by kernel_rfl) (by kernel_rfl) (by kernel_rfl) (fun _ _ _ h => h) (Or.inl ⟨by rfl, ?_⟩) (by assumption) ?_
        rotate_left
        · (intro w hSw; (try dsimp only at hSw); go_simp; try with_reducible rfl)
        simp only [Act.put, List.getElem_toArray, List.getElem_cons_succ, List.getElem_cons_zero, List.setIfInBounds_toArray, List.set_cons_zero, List.set_cons_succ]
        refine till_take (i := 15) (v := ?_) [16, 17, 18, 19] rfl (by kernel_rfl) (by kernel_rfl) (by kernel_rfl) (by kernel_rfl) (fun _ _ _ h => h) (Or.inl ⟨by rfl, ?_⟩) (by assumption) ?_
        rotate_left
        · (intro w hSw; (try dsimp only at hSw); go_simp; try with_reducible rfl)
        simp only [Act.put, List.getElem_toArray, List.getElem_cons_succ, List.getElem_cons_zero, List.setIfInBounds_toArray, List.set_cons_zero, List.set_cons_succ]
        refine till_take (i := 16) (v := ?_) [17, 18, 19] rfl (by kernel_rfl) (by kernel_rfl) (by kernel_rfl) (by kernel_rfl) (fun _ _ _ h => h) (Or.inl ⟨by rfl, ?_⟩) (by assumption) ?_
        rotate_left
        · (intro w hSw; (try dsimp only at hSw); go_simp; try with_reducible rfl)
        simp only [Act.put, List.getElem_toArray, List.getElem_cons_succ, List.getElem_cons_zero, List.setIfInBounds_toArray, List.set_cons_zero, List.set_cons_succ]
        refine till_in (i := 17) (by kernel_rfl) rfl (fun K hK => ?_)
        go_simp
        refine (awake5_any _).mono ?_
        rintro e v307 ⟨rfl, hb9⟩
        replace HW := Below.step HW hb9
        clear hb9
        refine hK.out _ _ ?_ (fun hHeld => ?_)
        · exact ⟨(P1.later HW).facts.1, (P1.later HW).facts.2.1, (Bd.later HW).facts.1, (Bd.later HW).facts.2.1⟩
        clear hK K
        try simp only [Act.put, List.getElem_toArray, List.getElem_cons_succ, List.getElem_cons_zero, List.setIfInBounds_toArray, List.set_cons_zero, List.set_cons_succ]
        refine till_take (i := 18) (v := ?_) [19] rfl (by kernel_rfl) (by kernel_rfl) (by kernel_rfl) (by kernel_rfl) (fun _ _ _ h => h) (Or.inl ⟨by rfl, ?_⟩) (by assumption) ?_
        rotate_left
        · (intro w hSw; (try dsimp only at hSw); go_simp; try with_reducible rfl)
        simp only [Act.put, List.getElem_toArray, List.getElem_cons_succ, List.getElem_cons_zero, List.setIfInBounds_toArray, List.set_cons_zero, List.set_cons_succ]
        refine till_out (i := 19) (by kernel_rfl) rfl (by kernel_rfl) (fun K hK => ?_)
        go_simp
        refine hK.out _ _ ?_
        clear hK K
        try simp only [Act.put, List.getElem_toArray, List.getElem_cons_succ, List.getElem_cons_zero, List.setIfInBounds_toArray, List.set_cons_zero, List.set_cons_succ]
        refine till_done (by kernel_rfl) ?_ _
        go_wp2
        go_ret
        exact ⟨rfl, Below.step (unhide HB) HW⟩
      · have hsn : ¬ s1 < 0 := by
          have := sign_ge (a := z1) (by omega)
          rw [unhide E1]; omega
        have hN := unhide HN
        have hp : 0 < z1 := by have := unhide N1; omega
        rw [Int.sign_eq_one_of_pos hp, Int.mul_one] at hN
        obtain ⟨s2, e2⟩ : ∃ s, s = ((2 * (z0 - near z0 z1 * z1)) - -(z1.natAbs : Int)).sign := ⟨_, rfl⟩
        have hs2 : 0 ≤ s2 := by rw [e2]; exact sign_ge (by omega)
        have C1 := hide (cmp_neg1 (a := (2 * (z0 - near z0 z1 * z1))) (b := (z1.natAbs : Int)) (by omega))
        have C2 := hide e2
        clear e2 hN HN hneg hp
        go_wp2_with fail
        have HW : Below v201.heap.size v201 v201.drew := (Below.refl _ _).drew
        refine till_start (fun w' => w'.cell? ⟨w.heap.size + 1, 0, none⟩ = some (.bool b1) ∧ w'.cell? ⟨w.heap.size + 1, 1, none⟩ = some (.slice a1 len1 cap1) ∧ w'.cell? ⟨g, 0, none⟩ = some (.bool b6) ∧ w'.cell? ⟨g, 1, none⟩ = some (.slice a6 l6 c6)) 19 (by kernel_rfl) ?_ (fun hHeld => ?_)
        · exact ⟨(P1.later HW).facts.1, (P1.later HW).facts.2.1, (Bd.later HW).facts.1, (Bd.later HW).facts.2.1⟩
        refine till_take (i := 0) (v := ?_) [1, 2, 3, 4, 5, 6, 7, 8, 9, 10, 11, 12, 13, 14, 15, 16, 17, 18, 19] rfl (by kernel_rfl) (by kernel_rfl) (by kernel_rfl) (by kernel_rfl) (fun _ _ _ h => h) (Or.inl ⟨by rfl, ?_⟩) (by assumption) ?_
        rotate_left
        · (intro w hSw; (try dsimp only at hSw); go_simp; try with_reducible rfl)
        simp only [Act.put, List.getElem_toArray, List.getElem_cons_zero, List.setIfInBounds_toArray, List.set_cons_zero, List.set_cons_succ]
        refine till_take (i := 1) (v := ?_) [2, 3, 4, 5, 6, 7, 8, 9, 10, 11, 12, 13, 14, 15, 16, 17, 18, 19] rfl (by kernel_rfl) (by kernel_rfl) (by kernel_rfl) (by kernel_rfl) (fun _ _ _ h => h) (Or.inl ⟨by rfl, ?_⟩) (by assumption) ?_
        rotate_left
        · (intro w hSw; (try dsimp only at hSw); go_simp; try with_reducible rfl)
        simp only [Act.put, List.getElem_toArray, List.getElem_cons_succ, List.getElem_cons_zero, List.setIfInBounds_toArray, List.set_cons_zero, List.set_cons_succ]
        refine till_take (i := 2) (v := ?_) [5, 6, 7, 8, 9, 10, 11, 12, 13, 14, 15, 16, 17, 18, 19] rfl (by kernel_rfl) (by kernel_rfl) (by kernel_rfl) (by kernel_rfl) (fun _ _ _ h => h) (Or.inl ⟨by rfl, ?_⟩) (by assumption) ?_
        rotate_left
        · (intro w hSw; (try dsimp only at hSw); go_simp; try with_reducible rfl)
        simp only [Act.put, List.getElem_toArray, List.getElem_cons_succ, List.getElem_cons_zero, List.setIfInBounds_toArray, List.set_cons_zero, List.set_cons_succ]
        refine till_take (i := 3) (v := ?_) [4, 5, 6, 7, 8, 9, 10, 11, 12, 13, 14, 15, 16, 17, 18, 19] rfl (by kernel_rfl) (by kernel_rfl) (by kernel_rfl) (by kernel_rfl) (fun _ _ _ h => h) (Or.inl ⟨by rfl, ?_⟩) (by assumption) ?_
        rotate_left
        · (intro w hSw; (try dsimp only at hSw); go_simp; try with_reducible rfl)
        simp only [Act.put, List.getElem_toArray, List.getElem_cons_succ, List.getElem_cons_zero, List.setIfInBounds_toArray, List.set_cons_zero, List.set_cons_succ]
        refine till_in (i := 4) (by kernel_rfl) rfl (fun K hK => ?_)
        go_simp
        refine (absK b1 a1 len1 cap1 z1 20 _ (h1.later HW)).mono ?_
        rintro e v202 ⟨bx, ax, lx, cx, rfl, hx, hb9⟩
        replace HW := Below.step HW hb9
        clear hb9
        refine hK.out _ _ ?_ (fun hHeld => ?_)
        · exact ⟨(P1.later HW).facts.1, (P1.later HW).facts.2.1, (Bd.later HW).facts.1, (Bd.later HW).facts.2.1⟩
        clear hK K
        try simp only [Act.put, List.getElem_toArray, List.getElem_cons_succ, List.getElem_cons_zero, List.setIfInBounds_toArray, List.set_cons_zero, List.set_cons_succ]
        refine till_in (i := 5) (by kernel_rfl) rfl (fun K hK => ?_)
        go_simp
        refine (cmpK b6 a6 l6 c6 (2 * (z0 - near z0 z1 * z1)) (2 + (max 20 ((max 20 2 + 1) + 20) + 1)) bx ax lx cx (z1.natAbs : Int) 20 (-1) _ ((hd.later HW).ik (by omega)) (hx.ik (by omega)) (unhide C1)).mono ?_
        rintro e v203 ⟨rfl, hb9⟩
        replace HW := Below.step HW hb9
        replace hx := hx.later hb9
        clear hb9 hx
        refine hK.out _ _ ?_ (fun hHeld => ?_)
        · exact ⟨(P1.later HW).facts.1, (P1.later HW).facts.2.1, (Bd.later HW).facts.1, (Bd.later HW).facts.2.1⟩
        clear hK K
        try simp only [Act.put, List.getElem_toArray, List.getElem_cons_succ, List.getElem_cons_zero, List.setIfInBounds_toArray, List.set_cons_zero, List.set_cons_succ]
        refine till_take (i := 6) (v := ?_) [7, 8, 9, 10, 11, 12, 13, 14, 15, 16, 17, 18, 19] rfl (by kernel_rfl) (by kernel_rfl) (by kernel_rfl) (by kernel_rfl) (fun _ _ _ h => h) (Or.inl ⟨by rfl, ?_⟩) (by assumption) ?_
        rotate_left
        · (intro w hSw; (try dsimp only at hSw); go_simp; try with_reducible rfl)
        simp only [Act.put, List.getElem_toArray, List.getElem_cons_succ, List.getElem_cons_zero, List.setIfInBounds_toArray, List.set_cons_zero, List.set_cons_succ]
        refine till_take (i := 7) (v := ?_) [8, 9, 10, 11, 12, 13, 14, 15, 16, 17, 18, 19] rfl (by kernel_rfl) (by kernel_rfl) (by kernel_rfl) (by kernel_rfl) (fun _ _ _ h => h) (Or.inl ⟨by rfl, ?_⟩) (by assumption) ?_
        rotate_left
        · (intro w hSw; (try dsimp only at hSw); go_simp; try with_reducible rfl)
        simp only [Act.put, List.getElem_toArray, List.getElem_cons_succ, List.getElem_cons_zero, List.setIfInBounds_toArray, List.set_cons_zero, List.set_cons_succ]
        refine till_take (i := 8) (v := ?_) [9, 10, 11, 12, 13, 14, 15, 16, 17, 18, 19] rfl (by kernel_rfl) (by kernel_rfl) (by kernel_rfl) (by kernel_rfl) (fun _ _ _ h => h) (Or.inl ⟨by rfl, ?_⟩) (by assumption) ?_
        rotate_left
        · (intro w hSw; (try dsimp only at hSw); go_simp; try with_reducible rfl)
        simp only [Act.put, List.getElem_toArray, List.getElem_cons_succ, List.getElem_cons_zero, List.setIfInBounds_toArray, List.set_cons_zero, List.set_cons_succ]
        refine till_take (i := 9) (v := ?_) [13, 14, 15, 16, 17, 18, 19] rfl (by kernel_rfl) (by kernel_rfl) (by kernel_rfl) (by kernel_rfl) (fun _ _ _ h => h) (Or.inl ⟨by rfl, ?_⟩) (by assumption) ?_
        rotate_left
        · (intro w hSw; (try dsimp only at hSw); go_simp; try with_reducible rfl)
        simp only [Act.put, List.getElem_toArray, List.getElem_cons_succ, List.getElem_cons_zero, List.setIfInBounds_toArray, List.set_cons_zero, List.set_cons_succ]
        refine till_take (i := 10) (v := ?_) [11, 12, 13, 14, 15, 16, 17, 18, 19] rfl (by kernel_rfl) (by kernel_rfl) (by kernel_rfl) (by kernel_rfl) (fun _ _ _ h => h) (Or.inl ⟨by rfl, ?_⟩) (by assumption) ?_
        rotate_left
        · (intro w hSw; (try dsimp only at hSw); go_simp; try with_reducible rfl)
        simp only [Act.put, List.getElem_toArray, List.getElem_cons_succ, List.getElem_cons_zero, List.setIfInBounds_toArray, List.set_cons_zero, List.set_cons_succ]
        refine till_in (i := 11) (by kernel_rfl) rfl (fun K hK => ?_)
        go_simp
        refine (absK b1 a1 len1 cap1 z1 20 _ (h1.later HW)).mono ?_
        rintro e v204 ⟨byy, ayy, lyy, cyy, rfl, hyy, hb9⟩
        replace HW := Below.step HW hb9
        clear hb9
        refine hK.out _ _ ?_ (fun hHeld => ?_)
        · exact ⟨(P1.later HW).facts.1, (P1.later HW).facts.2.1, (Bd.later HW).facts.1, (Bd.later HW).facts.2.1⟩
        clear hK K
        try simp only [Act.put, List.getElem_toArray, List.getElem_cons_succ, List.getElem_cons_zero, List.setIfInBounds_toArray, List.set_cons_zero, List.set_cons_succ]
        refine till_in (i := 12) (by kernel_rfl) rfl (fun K hK => ?_)
        go_simp
        refine (negK byy ayy lyy cyy (z1.natAbs : Int) 20 _ (hyy.ik (by omega))).mono ?_
        rintro e v205 ⟨bu, au, lu, cu, rfl, hu, hb9⟩
        replace HW := Below.step HW hb9
        replace hyy := hyy.later hb9
        clear hb9 hyy
        refine hK.out _ _ ?_ (fun hHeld => ?_)
        · exact ⟨(P1.later HW).facts.1, (P1.later HW).facts.2.1, (Bd.later HW).facts.1, (Bd.later HW).facts.2.1⟩
        clear hK K
        try simp only [Act.put, List.getElem_toArray, List.getElem_cons_succ, List.getElem_cons_zero, List.setIfInBounds_toArray, List.set_cons_zero, List.set_cons_succ]
        refine till_in (i := 13) (by kernel_rfl) rfl (fun K hK => ?_)
        go_simp
        refine (cmpK b6 a6 l6 c6 (2 * (z0 - near z0 z1 * z1)) (2 + (max 20 ((max 20 2 + 1) + 20) + 1)) bu au lu cu (-(z1.natAbs : Int)) 20 s2 _ ((hd.later HW).ik (by omega)) (hu.ik (by omega)) (unhide C2)).mono ?_
        rintro e v206 ⟨rfl, hb9⟩
        replace HW := Below.step HW hb9
        replace hu := hu.later hb9
        clear hb9 hu
        refine hK.out _ _ ?_ (fun hHeld => ?_)
        · exact ⟨(P1.later HW).facts.1, (P1.later HW).facts.2.1, (Bd.later HW).facts.1, (Bd.later HW).facts.2.1⟩
        clear hK K
        try simp only [Act.put, List.getElem_toArray, List.getElem_cons_succ, List.getElem_cons_zero, List.setIfInBounds_toArray, List.set_cons_zero, List.set_cons_succ]
        refine till_take (i := 14) (v := ?_) [15, 16, 17, 18, 19] rfl (by kernel_rfl) (by kernel_rfl) (by kernel_rfl) (by kernel_rfl) (fun _ _ _ h => h) (Or.inl ⟨by rfl, ?_⟩) (by assumption) ?_
        rotate_left
        · (intro w hSw; (try dsimp only at hSw); go_simp; try with_reducible rfl)
        simp only [Act.put, List.getElem_toArray, List.getElem_cons_succ, List.getElem_cons_zero, List.setIfInBounds_toArray, List.set_cons_zero, List.set_cons_succ]
        refine till_take (i := 15) (v := ?_) [16, 17, 18, 19] rfl (by kernel_rfl) (by kernel_rfl) (by kernel_rfl) (by kernel_rfl) (fun _ _ _ h => h) (Or.inl ⟨by rfl, ?_⟩) (by assumption) ?_
        rotate_left
        · (intro w hSw; (try dsimp only at hSw); go_simp; try with_reducible rfl)
        simp only [Act.put, List.getElem_toArray, List.getElem_cons_succ, List.getElem_cons_zero, List.setIfInBounds_toArray, List.set_cons_zero, List.set_cons_succ]
        refine till_take (i := 16) (v := ?_) [17, 18, 19] rfl (by kernel_rfl) (by kernel_rfl) (by kernel_rfl) (by kernel_rfl) (fun _ _ _ h => h) (Or.inl ⟨by rfl, ?_⟩) (by assumption) ?_
        rotate_left
        · (intro w hSw; (try dsimp only at hSw); go_simp; try with_reducible rfl)
        simp only [Act.put, List.getElem_toArray, List.getElem_cons_succ, List.getElem_cons_zero, List.setIfInBounds_toArray, List.set_cons_zero, List.set_cons_succ]
        refine till_in (i := 17) (by kernel_rfl) rfl (fun K hK => ?_)
        go_simp
        refine (awake5_any _).mono ?_
        rintro e v207 ⟨rfl, hb9⟩
        replace HW := Below.step HW hb9
        clear hb9
        refine hK.out _ _ ?_ (fun hHeld => ?_)
        · exact ⟨(P1.later HW).facts.1, (P1.later HW).facts.2.1, (Bd.later HW).facts.1, (Bd.later HW).facts.2.1⟩
        clear hK K
        try simp only [Act.put, List.getElem_toArray, List.getElem_cons_succ, List.getElem_cons_zero, List.setIfInBounds_toArray, List.set_cons_zero, List.set_cons_succ]
        refine till_take (i := 18) (v := ?_) [19] rfl (by kernel_rfl) (by kernel_rfl) (by kernel_rfl) (by kernel_rfl) (fun _ _ _ h => h) (Or.inl ⟨by rfl, ?_⟩) (by assumption) ?_
        rotate_left
        · (intro w hSw; (try dsimp only at hSw); go_simp; try with_reducible rfl)
        simp only [Act.put, List.getElem_toArray, List.getElem_cons_succ, List.getElem_cons_zero, List.setIfInBounds_toArray, List.set_cons_zero, List.set_cons_succ]
        refine till_out (i := 19) (by kernel_rfl) rfl (by kernel_rfl) (fun K hK => ?_)
        go_simp
        refine hK.out _ _ ?_
        clear hK K
        try simp only [Act.put, List.getElem_toArray, List.getElem_cons_succ, List.getElem_cons_zero, List.setIfInBounds_toArray, List.set_cons_zero, List.set_cons_succ]
        refine till_done (by kernel_rfl) ?_ _
        go_wp2
        go_ret
        exact ⟨rfl, Below.step (unhide HB) HW⟩
  · have hf' : b = false := by simpa using hf
    subst hf'
    clear hb hf
    go_wp2_with fail
    refine (awake5_any _).mono ?_
    rintro e w2 ⟨rfl, hb2⟩
    go_wp2
    go_ret
    exact ⟨rfl, Below.step (unhide HB) hb2⟩

#print axioms quotNear_walk
end Go.Proofs.Ytcafodggkhkpnaa
