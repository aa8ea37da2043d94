/-
  What rows.Sort tells: the rows sorted, of the same ones the first.
-/
import Derived.Test.YtbdjkbonoofibaaRanked2
import Derived.Test.YtbdjkbonoofibaaMOwn2
import Derived.Deep.CutRange
namespace Go.Proofs.Ytbdjkbonoofibaa
open Go.RowKit Lb
set_option maxRecDepth 20000

theorem wrap_nat (q : Nat) (h : q ≤ 9223372036854775807) : IntKind.i64.wrap (q : Int) = (q : Int) := by
  simp [IntKind.wrap, IntKind.bits, IntKind.signed]
  omega
theorem natsI_at {ps : List Nat} (i : Nat) : (natsI ps).getD i 0 = ((ps.getD i 0 : Nat) : Int) := by
  unfold natsI
  rw [List.getD_eq_getElem?_getD, List.getD_eq_getElem?_getD, List.getElem?_map]
  cases ps[i]? <;> rfl
theorem last_at {r : List (List Int)} {m : Nat} (h : r.length = m) (hp : 0 < m) : r.getLast? = some (r.getD (m - 1) []) := by
  rw [List.getLast?_eq_getElem?, h, List.getD_eq_getElem?_getD]
  obtain ⟨x, hx⟩ : ∃ x, r[m - 1]? = some x := ⟨r[m - 1], List.getElem?_eq_getElem (by omega)⟩
  rw [hx]; rfl
set_option maxRecDepth 20000 in
set_option maxHeartbeats 2000000 in
theorem sortK (ao : Option Addr) (n cap : Nat) (rs : List (List Int)) (k : Nat) (w : World) (h : MK w ao n cap rs k) (hk : k ≤ 900000) (hr : ∀ i, (rs.getD i []).length ≤ 1000000) (hn : n ≤ 100000) :
    Calls Try.prog 22 #[.slice ao n cap] w fun e w' => ∃ a1 m c1 r, e = .returned (.slice a1 m c1) ∧ m ≤ n ∧ IsSort rs r ∧ MO w' w.heap.size a1 m c1 r k ∧ Below w.heap.size w w' := by
  have HL := hide h.len_eq
  go_enter Try.func22, Try.ntmps22
  go_wp2_with fail
  refine (rankedK _ _ _ rs k _ h hk hr (by omega)).mono ?_
  rintro e w1 ⟨a1, c1, ps, rfl, hrank, hrow, hb1⟩
  have HR := hide hrank
  have HQ := hide hr
  clear hrank hr
  go_wp2_with fail
  go_loopw [3, 10] (fun s t wr => ∃ (i : Nat) (ao' : Option Addr) (m cap' : Nat) (r : List (List Int)), i ≤ n ∧ m ≤ i ∧ t = .int .i64 (i : Int) ∧ s = .slice ao' m cap' ∧ MO wr w1.heap.size ao' m cap' r k ∧ Ded rs (ps.take i) r ∧ Below w1.heap.size w1 wr) (fun _ t _ => n - (intOf t).toNat)
  case atStart => exact ⟨0, _, _, _, [], Nat.zero_le _, Nat.le_refl _, rfl, rfl, mo_nil _ _ _, ded_nil rs, Below.refl _ _⟩
  case round =>
    obtain ⟨i, ao', m, cap', r, hi, hmi, rfl, rfl, hown, hded, hB0⟩ := hrel
    have HD0 := hide hded
    clear hded
    have hrow1 := hrow.later hB0
    have HB := hide (Below.step hb1 hB0)
    have HB1 := hide hB0
    clear hB0
    by_cases hlt : i < n
    · obtain ⟨gp, op, rfl⟩ := hrow1.addr (by omega)
      obtain ⟨hgp, f1⟩ := hrow1.at hlt
      rw [natsI_at] at f1
      have hpl : ps.getD i 0 < rs.length := (unhide HR).lt (by rw [unhide HL]; exact hlt)
      obtain ⟨p, ep⟩ : ∃ p, p = ps.getD i 0 := ⟨_, rfl⟩
      rw [← ep] at f1 hpl
      have EP := hide ep
      rw [unhide HL] at hpl
      clear ep hrow1
      obtain ⟨g, off, rfl⟩ := h.addr (by omega)
      obtain ⟨hg, a5, l5, c5, hc5, hv5⟩ := RowsOf.at (R := fun w a l c zs => VK w a l c zs k) h hpl
      have hn5 : l5 ≤ 1000000 := by rw [← hv5.len_eq]; exact unhide HQ p
      replace hv5 := hv5.later (unhide HB)
      have f2 := ((unhide HB).cell (p := ⟨g, off + p, none⟩) hg).trans hc5
      have hgr := Nat.lt_of_lt_of_le hg (unhide HB).size
      have hp0 : (0 : Int) ≤ (p : Int) := by omega
      have hp1 : (p : Int) < (n : Int) := by omega
      clear hc5 hg HB
      by_cases hm0 : m = 0
      · subst hm0
        have hr0 : r = [] := List.eq_nil_of_length_eq_zero hown.len
        subst hr0
        have HW : Below wr.heap.size wr wr.drew := (Below.refl _ _).drew
        go_upto_region 6 with fail
        refine till_start (fun w' => True) 14 (by kernel_rfl) ?_ (fun hHeld => ?_)
        · trivial
        refine till_take (i := 0) (v := ?_) [1, 2, 3, 4, 5, 6, 7, 8, 9, 10, 11, 12, 13, 14] rfl (by kernel_rfl) (by kernel_rfl) (by kernel_rfl) (by kernel_rfl) (fun _ _ _ h => h) (Or.inl ⟨by rfl, ?_⟩) (by assumption) ?_
        rotate_left
        · (intro w hSw; (try dsimp only at hSw); go_simp; try with_reducible rfl)
        simp only [Act.put, List.getElem_toArray, List.getElem_cons_zero, List.setIfInBounds_toArray, List.set_cons_zero, List.set_cons_succ]
        refine till_take (i := 1) (v := ?_) [2, 3, 4, 5, 6, 7, 8, 9, 10, 11, 12, 13, 14] rfl (by kernel_rfl) (by kernel_rfl) (by kernel_rfl) (by kernel_rfl) (fun _ _ _ h => h) (Or.inl ⟨by rfl, ?_⟩) (by assumption) ?_
        rotate_left
        · (intro w hSw; (try dsimp only at hSw); go_simp; try with_reducible rfl)
        simp only [Act.put, List.getElem_toArray, List.getElem_cons_succ, List.getElem_cons_zero, List.setIfInBounds_toArray, List.set_cons_zero, List.set_cons_succ]
        refine till_take (i := 2) (v := ?_) [3, 4, 5, 6, 7, 8, 9, 10, 11, 12, 13, 14] rfl (by kernel_rfl) (by kernel_rfl) (by kernel_rfl) (by kernel_rfl) (fun _ _ _ h => h) (Or.inl ⟨by rfl, ?_⟩) (by assumption) ?_
        rotate_left
        · (intro w hSw; (try dsimp only at hSw); go_simp; try with_reducible rfl)
        simp only [Act.put, List.getElem_toArray, List.getElem_cons_succ, List.getElem_cons_zero, List.setIfInBounds_toArray, List.set_cons_zero, List.set_cons_succ]
        refine till_take (i := 3) (v := undef) [6, 7, 12, 13, 14] rfl (by kernel_rfl) (by kernel_rfl) (by kernel_rfl) (by kernel_rfl) (fun _ _ _ h => h) (Or.inr ⟨by rfl, rfl⟩) (by assumption) ?_
        simp only [Act.put, List.getElem_toArray, List.getElem_cons_succ, List.getElem_cons_zero, List.setIfInBounds_toArray, List.set_cons_zero, List.set_cons_succ]
        refine till_take (i := 4) (v := undef) [5, 6, 7, 12, 13, 14] rfl (by kernel_rfl) (by kernel_rfl) (by kernel_rfl) (by kernel_rfl) (fun _ _ _ h => h) (Or.inr ⟨by rfl, rfl⟩) (by assumption) ?_
        simp only [Act.put, List.getElem_toArray, List.getElem_cons_succ, List.getElem_cons_zero, List.setIfInBounds_toArray, List.set_cons_zero, List.set_cons_succ]
        refine till_take (i := 5) (v := undef) [6, 7, 12, 13, 14] rfl (by kernel_rfl) (by kernel_rfl) (by kernel_rfl) (by kernel_rfl) (fun _ _ _ h => h) (Or.inr ⟨by rfl, rfl⟩) (by assumption) ?_
        simp only [Act.put, List.getElem_toArray, List.getElem_cons_succ, List.getElem_cons_zero, List.setIfInBounds_toArray, List.set_cons_zero, List.set_cons_succ]
        refine till_take (i := 6) (v := undef) [7, 12, 13, 14] rfl (by kernel_rfl) (by kernel_rfl) (by kernel_rfl) (by kernel_rfl) (fun _ _ _ h => h) (Or.inr ⟨by rfl, rfl⟩) (by assumption) ?_
        simp only [Act.put, List.getElem_toArray, List.getElem_cons_succ, List.getElem_cons_zero, List.setIfInBounds_toArray, List.set_cons_zero, List.set_cons_succ]
        refine till_take (i := 7) (v := undef) [12, 13, 14] rfl (by kernel_rfl) (by kernel_rfl) (by kernel_rfl) (by kernel_rfl) (fun _ _ _ h => h) (Or.inr ⟨by rfl, rfl⟩) (by assumption) ?_
        simp only [Act.put, List.getElem_toArray, List.getElem_cons_succ, List.getElem_cons_zero, List.setIfInBounds_toArray, List.set_cons_zero, List.set_cons_succ]
        refine till_take (i := 8) (v := undef) [10, 11, 12, 13, 14] rfl (by kernel_rfl) (by kernel_rfl) (by kernel_rfl) (by kernel_rfl) (fun _ _ _ h => h) (Or.inr ⟨by rfl, rfl⟩) (by assumption) ?_
        simp only [Act.put, List.getElem_toArray, List.getElem_cons_succ, List.getElem_cons_zero, List.setIfInBounds_toArray, List.set_cons_zero, List.set_cons_succ]
        refine till_take (i := 9) (v := undef) [10, 11, 12, 13, 14] rfl (by kernel_rfl) (by kernel_rfl) (by kernel_rfl) (by kernel_rfl) (fun _ _ _ h => h) (Or.inr ⟨by rfl, rfl⟩) (by assumption) ?_
        simp only [Act.put, List.getElem_toArray, List.getElem_cons_succ, List.getElem_cons_zero, List.setIfInBounds_toArray, List.set_cons_zero, List.set_cons_succ]
        refine till_take (i := 10) (v := undef) [11, 12, 13, 14] rfl (by kernel_rfl) (by kernel_rfl) (by kernel_rfl) (by kernel_rfl) (fun _ _ _ h => h) (Or.inr ⟨by rfl, rfl⟩) (by assumption) ?_
        simp only [Act.put, List.getElem_toArray, List.getElem_cons_succ, List.getElem_cons_zero, List.setIfInBounds_toArray, List.set_cons_zero, List.set_cons_succ]
        refine till_take (i := 11) (v := undef) [12, 13, 14] rfl (by kernel_rfl) (by kernel_rfl) (by kernel_rfl) (by kernel_rfl) (fun _ _ _ h => h) (Or.inr ⟨by rfl, rfl⟩) (by assumption) ?_
        simp only [Act.put, List.getElem_toArray, List.getElem_cons_succ, List.getElem_cons_zero, List.setIfInBounds_toArray, List.set_cons_zero, List.set_cons_succ]
        refine till_in (i := 12) (by kernel_rfl) rfl (fun K hK => ?_)
        go_simp
        refine hK.out _ _ ?_ (fun hHeld => ?_)
        · trivial
        clear hK K
        try simp only [Act.put, List.getElem_toArray, List.getElem_cons_succ, List.getElem_cons_zero, List.setIfInBounds_toArray, List.set_cons_zero, List.set_cons_succ]
        refine till_take (i := 13) (v := undef) [14] rfl (by kernel_rfl) (by kernel_rfl) (by kernel_rfl) (by kernel_rfl) (fun _ _ _ h => h) (Or.inr ⟨by rfl, rfl⟩) (by assumption) ?_
        simp only [Act.put, List.getElem_toArray, List.getElem_cons_succ, List.getElem_cons_zero, List.setIfInBounds_toArray, List.set_cons_zero, List.set_cons_succ]
        refine till_out (i := 14) (by kernel_rfl) rfl (by kernel_rfl) (fun K hK => ?_)
        go_simp
        refine hK.out _ _ ?_
        clear hK K
        try simp only [Act.put, List.getElem_toArray, List.getElem_cons_succ, List.getElem_cons_zero, List.setIfInBounds_toArray, List.set_cons_zero, List.set_cons_succ]
        refine till_done (by kernel_rfl) ?_ _
        replace hown := hown.later HW
        replace hv5 := hv5.later HW
        replace f2 := (HW.cell (p := ⟨g, off + p, none⟩) hgr).trans f2
        replace HB1 := hide (Below.step (unhide HB1) HW)
        have hgr' := Nat.lt_of_lt_of_le hgr HW.size
        clear hgr HW
        go_wp2_with fail
        refine (formedK _ _ _ (rs.getD p []) k _ hv5 hn5).mono ?_
        rintro e w5 ⟨a7, c7, rfl, h7, hb9⟩
        replace hown := hown.later hb9
        replace HB1 := hide (Below.step (unhide HB1) hb9)
        clear hb9
        obtain ⟨W6, hW6⟩ : ∃ W6, W6 = w5.alloc (.cells #[.slice a7 l5 c7] 24) := ⟨_, rfl⟩
        have hb9 : Below w5.heap.size w5 W6 := by rw [hW6]; exact below_new _ _
        have hone := mf_one h7
        replace hown := hown.later hb9
        replace HB1 := hide (Below.step (unhide HB1) hb9)
        clear hb9
        have hsz := (unhide HB1).size
        rw [hW6] at hown hsz
        go_wp2_with (at_builtin; (refine append_rows (R := fun w a l c zs => VF w a l c zs k) (steadyMO k) rfl (.tmp 31) (.tmp 37) 22 Try.underlying22 rfl w1.heap.size ao' 0 cap' [] rfl hown _ 1 1 [rs.getD p []] rfl hone (by omega) hsz ?_))
        intro an cn w7 hown2 hgr7
        rw [← hW6] at hgr7 hown hsz
        clear hW6 hone
        have HD := (unhide HB1).grown hgr7 hsz (MO.ge hown)
        clear hgr7
        go_wp2
        go_roundw
        case rel => exact ⟨i + 1, _, _, _, _, by omega, by omega, by go_num, rfl, hown2, by rw [unhide EP]; exact (unhide HR).put (by rw [unhide HL]; exact hlt) (unhide HD0) fun y hy => by simp at hy, HD⟩
        case measure => simp [intOf]; omega
      · obtain ⟨g3, rfl⟩ : ∃ g3, ao' = some ⟨g3, 0, none⟩ := by
          obtain ⟨⟨vs, hrow3, _⟩, _⟩ := hown
          rcases hrow3.own.2 with ⟨_, e0⟩ | ⟨g3, c3, cur, e3, _⟩
          · omega
          · simp only [Value.slice.injEq, true_and] at e3
            exact ⟨g3, e3.1⟩
        obtain ⟨q, eq⟩ : ∃ q, q = m - 1 := ⟨_, rfl⟩
        obtain ⟨hg3, a6, l6, c6, f3, hv6⟩ := RowsOf.at (R := fun w a l c zs => VF w a l c zs k) hown.mf (show q < m by omega)
        rw [Nat.zero_add] at f3
        have hwr : IntKind.i64.wrap ((m : Int) - 1) = (q : Int) := by
          rw [show (m : Int) - 1 = (q : Int) by omega]
          exact wrap_nat q (by omega)
        have EQ := hide eq
        have hm1 : ((m : Int) == 0) = false := by rw [beq_eq_false_iff_ne]; omega
        have hm2 : (0 : Int) ≤ (q : Int) := by omega
        have hm3 : (q : Int) < (m : Int) := by omega
        have hn6 : l6 ≤ 1000000 := by
          have e1 := hv6.len_eq
          have e2 := last_at hown.len (show 0 < m by omega)
          rw [← eq] at e2
          have e3 := ((unhide HD0).first _ (last_mem e2)).mem
          obtain ⟨x, hx, e4⟩ := List.getElem_of_mem e3
          have e5 := unhide HQ x
          rw [show rs.getD x [] = rs[x] by simp [List.getD, hx], e4] at e5
          omega
        clear eq
        have HW : Below wr.heap.size wr wr.drew := (Below.refl _ _).drew
        go_upto_region 6 with fail
        refine till_start (fun w' => w'.cell? ⟨g3, q, none⟩ = some (.slice a6 l6 c6) ∧ w'.cell? ⟨g, off + p, none⟩ = some (.slice a5 l5 c5)) 14 (by kernel_rfl) ?_ (fun hHeld => ?_)
        · exact ⟨(HW.cell (p := ⟨g3, q, none⟩) hg3).trans f3, (HW.cell (p := ⟨g, off + p, none⟩) hgr).trans f2⟩
        refine till_take (i := 0) (v := ?_) [1, 2, 3, 4, 5, 6, 7, 8, 9, 10, 11, 12, 13, 14] rfl (by kernel_rfl) (by kernel_rfl) (by kernel_rfl) (by kernel_rfl) (fun _ _ _ h => h) (Or.inl ⟨by rfl, ?_⟩) (by assumption) ?_
        rotate_left
        · (intro w hSw; (try dsimp only at hSw); go_simp; try with_reducible rfl)
        simp only [Act.put, List.getElem_toArray, List.getElem_cons_zero, List.setIfInBounds_toArray, List.set_cons_zero, List.set_cons_succ]
        refine till_take (i := 1) (v := ?_) [2, 3, 4, 5, 6, 7, 8, 9, 10, 11, 12, 13, 14] rfl (by kernel_rfl) (by kernel_rfl) (by kernel_rfl) (by kernel_rfl) (fun _ _ _ h => h) (Or.inl ⟨by rfl, ?_⟩) (by assumption) ?_
        rotate_left
        · (intro w hSw; (try dsimp only at hSw); go_simp; try with_reducible rfl)
        simp only [Act.put, List.getElem_toArray, List.getElem_cons_succ, List.getElem_cons_zero, List.setIfInBounds_toArray, List.set_cons_zero, List.set_cons_succ]
        refine till_take (i := 2) (v := ?_) [3, 4, 5, 6, 7, 8, 9, 10, 11, 12, 13, 14] rfl (by kernel_rfl) (by kernel_rfl) (by kernel_rfl) (by kernel_rfl) (fun _ _ _ h => h) (Or.inl ⟨by rfl, ?_⟩) (by assumption) ?_
        rotate_left
        · (intro w hSw; (try dsimp only at hSw); go_simp; try with_reducible rfl)
        simp only [Act.put, List.getElem_toArray, List.getElem_cons_succ, List.getElem_cons_zero, List.setIfInBounds_toArray, List.set_cons_zero, List.set_cons_succ]
        refine till_take (i := 3) (v := ?_) [6, 7, 12, 13, 14] rfl (by kernel_rfl) (by kernel_rfl) (by kernel_rfl) (by kernel_rfl) (fun _ _ _ h => h) (Or.inl ⟨by rfl, ?_⟩) (by assumption) ?_
        rotate_left
        · (intro w hSw; (try dsimp only at hSw); go_simp; try with_reducible rfl)
        simp only [Act.put, List.getElem_toArray, List.getElem_cons_succ, List.getElem_cons_zero, List.setIfInBounds_toArray, List.set_cons_zero, List.set_cons_succ]
        refine till_take (i := 4) (v := ?_) [5, 6, 7, 12, 13, 14] rfl (by kernel_rfl) (by kernel_rfl) (by kernel_rfl) (by kernel_rfl) (fun _ _ _ h => h) (Or.inl ⟨by rfl, ?_⟩) (by assumption) ?_
        rotate_left
        · (intro w hSw; (try dsimp only at hSw); go_simp; try with_reducible rfl)
        simp only [Act.put, List.getElem_toArray, List.getElem_cons_succ, List.getElem_cons_zero, List.setIfInBounds_toArray, List.set_cons_zero, List.set_cons_succ]
        refine till_take (i := 5) (v := ?_) [6, 7, 12, 13, 14] rfl (by kernel_rfl) (by kernel_rfl) (by kernel_rfl) (by kernel_rfl) (fun _ _ _ h => h) (Or.inl ⟨by rfl, ?_⟩) (by assumption) ?_
        rotate_left
        · (intro w hSw; (try dsimp only at hSw); go_simp; try with_reducible rfl)
        simp only [Act.put, List.getElem_toArray, List.getElem_cons_succ, List.getElem_cons_zero, List.setIfInBounds_toArray, List.set_cons_zero, List.set_cons_succ]
        refine till_take (i := 6) (v := ?_) [7, 12, 13, 14] rfl (by kernel_rfl) (by kernel_rfl) (by kernel_rfl) (by kernel_rfl) (fun _ _ _ h => h) (Or.inl ⟨by rfl, ?_⟩) (by assumption) ?_
        rotate_left
        · (intro w hSw; (try dsimp only at hSw); go_simp; try with_reducible rfl)
        simp only [Act.put, List.getElem_toArray, List.getElem_cons_succ, List.getElem_cons_zero, List.setIfInBounds_toArray, List.set_cons_zero, List.set_cons_succ]
        refine till_take (i := 7) (v := ?_) [12, 13, 14] rfl (by kernel_rfl) (by kernel_rfl) (by kernel_rfl) (by kernel_rfl) (fun _ _ _ h => h) (Or.inl ⟨by rfl, ?_⟩) (by assumption) ?_
        rotate_left
        · (intro w hSw; (try dsimp only at hSw); go_simp; try with_reducible rfl)
        simp only [Act.put, List.getElem_toArray, List.getElem_cons_succ, List.getElem_cons_zero, List.setIfInBounds_toArray, List.set_cons_zero, List.set_cons_succ]
        refine till_take (i := 8) (v := ?_) [10, 11, 12, 13, 14] rfl (by kernel_rfl) (by kernel_rfl) (by kernel_rfl) (by kernel_rfl) (fun _ _ _ h => h) (Or.inl ⟨by rfl, ?_⟩) (by assumption) ?_
        rotate_left
        · (intro w hSw; (try dsimp only at hSw); go_simp; try with_reducible rfl)
        simp only [Act.put, List.getElem_toArray, List.getElem_cons_succ, List.getElem_cons_zero, List.setIfInBounds_toArray, List.set_cons_zero, List.set_cons_succ]
        refine till_take (i := 9) (v := ?_) [10, 11, 12, 13, 14] rfl (by kernel_rfl) (by kernel_rfl) (by kernel_rfl) (by kernel_rfl) (fun _ _ _ h => h) (Or.inl ⟨by rfl, ?_⟩) (by assumption) ?_
        rotate_left
        · (intro w hSw; (try dsimp only at hSw); go_simp; try with_reducible rfl)
        simp only [Act.put, List.getElem_toArray, List.getElem_cons_succ, List.getElem_cons_zero, List.setIfInBounds_toArray, List.set_cons_zero, List.set_cons_succ]
        refine till_take (i := 10) (v := ?_) [11, 12, 13, 14] rfl (by kernel_rfl) (by kernel_rfl) (by kernel_rfl) (by kernel_rfl) (fun _ _ _ h => h) (Or.inl ⟨by rfl, ?_⟩) (by assumption) ?_
        rotate_left
        · (intro w hSw; (try dsimp only at hSw); go_simp; try with_reducible rfl)
        simp only [Act.put, List.getElem_toArray, List.getElem_cons_succ, List.getElem_cons_zero, List.setIfInBounds_toArray, List.set_cons_zero, List.set_cons_succ]
        refine till_take (i := 11) (v := ?_) [12, 13, 14] rfl (by kernel_rfl) (by kernel_rfl) (by kernel_rfl) (by kernel_rfl) (fun _ _ _ h => h) (Or.inl ⟨by rfl, ?_⟩) (by assumption) ?_
        rotate_left
        · (intro w hSw; (try dsimp only at hSw); go_simp; try with_reducible rfl)
        simp only [Act.put, List.getElem_toArray, List.getElem_cons_succ, List.getElem_cons_zero, List.setIfInBounds_toArray, List.set_cons_zero, List.set_cons_succ]
        refine till_in (i := 12) (by kernel_rfl) rfl (fun K hK => ?_)
        go_simp
        refine (vsameK _ _ _ (r.getD q []) k _ _ _ (rs.getD p []) k _ ((hv6.later HW).vk (by omega)) (hv5.later HW) (by omega) (by omega) (by omega) (by omega)).mono ?_
        rintro e w9 ⟨c, rfl, hc, hb9⟩
        replace HW := Below.step HW hb9
        clear hb9
        obtain ⟨b, eb⟩ : ∃ b, b = (c == 0) := ⟨_, rfl⟩
        rw [← eb]
        have EB := hide (show b = true ↔ VSame (r.getD q []) (rs.getD p []) by rw [eb, beq_iff_eq]; exact hc.zero_iff)
        clear hc eb
        refine hK.out _ _ ?_ (fun hHeld => ?_)
        · exact ⟨(HW.cell (p := ⟨g3, q, none⟩) hg3).trans f3, (HW.cell (p := ⟨g, off + p, none⟩) hgr).trans f2⟩
        clear hK K
        try simp only [Act.put, List.getElem_toArray, List.getElem_cons_succ, List.getElem_cons_zero, List.setIfInBounds_toArray, List.set_cons_zero, List.set_cons_succ]
        refine till_take (i := 13) (v := ?_) [14] rfl (by kernel_rfl) (by kernel_rfl) (by kernel_rfl) (by kernel_rfl) (fun _ _ _ h => h) (Or.inl ⟨by rfl, ?_⟩) (by assumption) ?_
        rotate_left
        · (intro w hSw; (try dsimp only at hSw); go_simp; try with_reducible rfl)
        simp only [Act.put, List.getElem_toArray, List.getElem_cons_succ, List.getElem_cons_zero, List.setIfInBounds_toArray, List.set_cons_zero, List.set_cons_succ]
        refine till_out (i := 14) (by kernel_rfl) rfl (by kernel_rfl) (fun K hK => ?_)
        go_simp
        refine hK.out _ _ ?_
        clear hK K
        try simp only [Act.put, List.getElem_toArray, List.getElem_cons_succ, List.getElem_cons_zero, List.setIfInBounds_toArray, List.set_cons_zero, List.set_cons_succ]
        refine till_done (by kernel_rfl) ?_ _
        replace hown := hown.later HW
        replace hv5 := hv5.later HW
        replace f2 := (HW.cell (p := ⟨g, off + p, none⟩) hgr).trans f2
        replace HB1 := hide (Below.step (unhide HB1) HW)
        have hgr' := Nat.lt_of_lt_of_le hgr HW.size
        have hlast := last_at hown.len (show 0 < m by omega)
        rw [← unhide EQ] at hlast
        have HLA := hide hlast
        clear hgr HW f3 hv6 hlast
        by_cases hb : b = true
        · have HV := hide ((unhide EB).1 hb)
          subst hb
          go_wp2
          go_roundw
          case rel => exact ⟨i + 1, _, _, _, _, by omega, by omega, by go_num, rfl, hown, (unhide HR).skip (by rw [unhide HL]; exact hlt) (unhide HD0) (unhide HLA) (by rw [← unhide EP]; exact unhide HV), unhide HB1⟩
          case measure => simp [intOf]; omega
        · have HV := hide (fun e => hb ((unhide EB).2 e) : ¬ VSame (r.getD q []) (rs.getD p []))
          have hb' : b = false := by simpa using hb
          subst hb'
          clear hb
          go_wp2_with fail
          refine (formedK _ _ _ (rs.getD p []) k _ hv5 hn5).mono ?_
          rintro e w5 ⟨a7, c7, rfl, h7, hb9⟩
          replace hown := hown.later hb9
          replace HB1 := hide (Below.step (unhide HB1) hb9)
          clear hb9
          obtain ⟨W6, hW6⟩ : ∃ W6, W6 = w5.alloc (.cells #[.slice a7 l5 c7] 24) := ⟨_, rfl⟩
          have hb9 : Below w5.heap.size w5 W6 := by rw [hW6]; exact below_new _ _
          have hone := mf_one h7
          replace hown := hown.later hb9
          replace HB1 := hide (Below.step (unhide HB1) hb9)
          clear hb9
          have hsz := (unhide HB1).size
          rw [hW6] at hown hsz
          go_wp2_with (at_builtin; (refine append_rows (R := fun w a l c zs => VF w a l c zs k) (steadyMO k) rfl (.tmp 31) (.tmp 37) 22 Try.underlying22 rfl w1.heap.size (some ⟨g3, 0, none⟩) m cap' r rfl hown _ 1 1 [rs.getD p []] rfl hone (by omega) hsz ?_))
          intro an cn w7 hown2 hgr7
          rw [← hW6] at hgr7 hown hsz
          clear hW6 hone
          have HD := (unhide HB1).grown hgr7 hsz (MO.ge hown)
          clear hgr7
          go_wp2
          go_roundw
          case rel => exact ⟨i + 1, _, _, _, _, by omega, by omega, by go_num, rfl, hown2, by rw [unhide EP]; exact (unhide HR).put (by rw [unhide HL]; exact hlt) (unhide HD0) fun y hy e => unhide HV (by rw [unhide HLA] at hy; obtain rfl := Option.some.inj hy; rw [unhide EP]; exact e), HD⟩
          case measure => simp [intOf]; omega
    · have hin : i = n := by omega
      subst hin
      have hs : IsSort rs r := (unhide HR).done (by rw [unhide HL]; exact unhide HD0)
      clear HD0 hrow1
      go_wp2
      go_ret
      exact ⟨_, _, _, _, rfl, hmi, hs, hown.lower hb1.size, unhide HB⟩
#print axioms sortK
end Go.Proofs.Ytbdjkbonoofibaa
