/-
  The walk of QuotTexts: it tells true.
-/
import Derived.Test.YtcafodggkhkpnaaFew5
import Derived.Test.YtcafodggkhkpnaaAwake5
import Derived.Test.YtcafodggkhkpnaaQTxtK
import Derived.Test.YtcafodggkhkpnaaTill2
namespace Go.Proofs.Ytcafodggkhkpnaa
open Go.RowKit Lb

theorem intsIn1 {w : World} (b0 : Bool) (a0 : Option Addr) (len0 cap0 : Nat) {n : Nat} (hn : n = w.heap.size) :
    IntsIn (w.alloc (.cells #[.bool b0, .slice a0 len0 cap0] 24)) n 1 (fun _ => b0) (fun _ => a0) (fun _ => len0) (fun _ => cap0) := by
  subst hn
  intro i hi
  match i with
  | 0 => simp

set_option maxRecDepth 20000 in
set_option maxHeartbeats 8000000 in
theorem quotTexts_walk (b0 : Bool) (a0 : Option Addr) (len0 cap0 : Nat) (xs0 : List Nat) (st : ByteArray) (w : World) (r0 : RowAt w a0 len0 cap0 xs0) (hst : st.size ≤ maxLen) :
    Calls Try.prog 4 #[.agg #[.bool b0, .slice a0 len0 cap0], .string st] w fun e w' => e = .returned (.bool true) ∧ Below w.heap.size w w' := by
  have hm0 := Nat.le_trans r0.cap_le r0.cap_max
  have hx0 := r0.int b0
  unfold maxLen at hst
  obtain ⟨z0, ez0⟩ : ∃ z, z = sgnd b0 (Lb.val xs0) := ⟨_, rfl⟩
  rw [← ez0] at hx0
  clear ez0 r0
  have HI := hide (intsIn1 (w := (w.alloc (.cells #[.bool b0, .slice a0 len0 cap0] 24))) b0 a0 len0 cap0 (n := w.heap.size + 1) (by simp))
  go_enter Try.func4, Try.ntmps4
  go_wp2_with fail
  refine (few5_any _ _ _ _ _ _ _ (unhide HI) (by omega) (by simp <;> omega) (by intro i _; exact hm0)).mono ?_
  rintro e w1 ⟨⟨b, rfl, hb⟩, hb1⟩
  obtain ⟨W0, hWe⟩ : ∃ W', W' = (w.alloc (.cells #[.bool b0, .slice a0 len0 cap0] 24)) := ⟨_, rfl⟩
  obtain ⟨P0, hb0⟩ := boxes1 w b0 a0 len0 cap0 hWe
  rw [← hWe] at hb1
  clear hWe HI
  have hb2 := Below.step (below_one W0 _) hb1
  clear hb1
  replace P0 := P0.later hb2
  have HB := hide (Below.step hb0 hb2)
  clear hb0 hb2
  by_cases hf : b = true
  · subst hf
    have e0 : len0 ≤ 20 := (hb.1 rfl) 0 (by omega)
    have h0 := ik_of (hx0.later (unhide HB)) e0 (by omega)
    have L0 := hide e0
    clear hb hm0 hx0 e0
    by_cases hs : 300 < st.size
    · have hs' : (300 : Int) < (st.size : Int) := by omega
      go_wp2_with fail
      refine (awake5_any _).mono ?_
      rintro e w2 ⟨rfl, hb2⟩
      go_wp2
      go_ret
      exact ⟨rfl, Below.step (unhide HB) hb2⟩
    have hs' : ¬ (300 : Int) < (st.size : Int) := by omega
    have hs3 : st.size ≤ 300 := by omega
    clear hs hst
    go_wp2_with fail
    have HW : Below w1.heap.size w1 w1.drew := (Below.refl _ _).drew
    refine till_start (fun w' => w'.cell? ⟨w.heap.size, 0, none⟩ = some (.bool b0) ∧ w'.cell? ⟨w.heap.size, 1, none⟩ = some (.slice a0 len0 cap0)) 9 (by kernel_rfl) ?_ (fun hHeld => ?_)
    · exact ⟨(P0.later HW).facts.1, (P0.later HW).facts.2.1⟩
    obtain ⟨v21, hvd⟩ : ∃ v, v = w1.drew := ⟨_, rfl⟩
    rw [← hvd] at HW hHeld ⊢
    clear hvd
    refine till_free (i := 0) (v := ?_) rfl (by kernel_rfl) (by kernel_rfl) (by kernel_rfl) (by kernel_rfl) (fun _ _ _ h => h) (Or.inl ⟨by rfl, ?_⟩) (by assumption) ?_
    rotate_left
    · (intro wx hSw; (try dsimp only at hSw); go_simp; (try rw [if_neg (by omega)]); try with_reducible rfl)
    simp only [Act.put, List.getElem_toArray, List.getElem_cons_zero, List.setIfInBounds_toArray, List.set_cons_zero, List.set_cons_succ]
    refine till_free (i := 1) (v := ?_) rfl (by kernel_rfl) (by kernel_rfl) (by kernel_rfl) (by kernel_rfl) (fun _ _ _ h => h) (Or.inl ⟨by rfl, ?_⟩) (by assumption) ?_
    rotate_left
    · (intro wx hSw; (try dsimp only at hSw); go_simp; (try rw [if_neg (by omega)]); try with_reducible rfl)
    simp only [Act.put, List.getElem_toArray, List.getElem_cons_succ, List.getElem_cons_zero, List.setIfInBounds_toArray, List.set_cons_zero, List.set_cons_succ]
    refine till_free (i := 2) (v := ?_) rfl (by kernel_rfl) (by kernel_rfl) (by kernel_rfl) (by kernel_rfl) (fun _ _ _ h => h) (Or.inl ⟨by rfl, ?_⟩) (by assumption) ?_
    rotate_left
    · (intro wx hSw; (try dsimp only at hSw); go_simp; (try rw [if_neg (by omega)]); try with_reducible rfl)
    simp only [Act.put, List.getElem_toArray, List.getElem_cons_succ, List.getElem_cons_zero, List.setIfInBounds_toArray, List.set_cons_zero, List.set_cons_succ]
    refine till_take (i := 3) (v := ?_) [4, 6, 8, 9, 10] rfl (by kernel_rfl) (by kernel_rfl) (by kernel_rfl) (by kernel_rfl) (fun _ _ _ h => h) (Or.inl ⟨by rfl, ?_⟩) (by assumption) ?_
    rotate_left
    · (intro wx hSw; (try dsimp only at hSw); go_simp; (try rw [if_neg (by omega)]); try with_reducible rfl)
    simp only [Act.put, List.getElem_toArray, List.getElem_cons_succ, List.getElem_cons_zero, List.setIfInBounds_toArray, List.set_cons_zero, List.set_cons_succ]
    refine till_take (i := 5) (v := ?_) [6, 8, 9, 10] rfl (by kernel_rfl) (by kernel_rfl) (by kernel_rfl) (by kernel_rfl) (fun _ _ _ h => h) (Or.inl ⟨by rfl, ?_⟩) (by assumption) ?_
    rotate_left
    · (intro wx hSw; (try dsimp only at hSw); go_simp; (try rw [if_neg (by omega)]); try with_reducible rfl)
    simp only [Act.put, List.getElem_toArray, List.getElem_cons_succ, List.getElem_cons_zero, List.setIfInBounds_toArray, List.set_cons_zero, List.set_cons_succ]
    refine till_free (i := 7) (v := ?_) rfl (by kernel_rfl) (by kernel_rfl) (by kernel_rfl) (by kernel_rfl) (fun _ _ _ h => h) (Or.inl ⟨by rfl, ?_⟩) (by assumption) ?_
    rotate_left
    · (intro wx hSw; (try dsimp only at hSw); go_simp; (try rw [if_neg (by omega)]); try with_reducible rfl)
    simp only [Act.put, List.getElem_toArray, List.getElem_cons_succ, List.getElem_cons_zero, List.setIfInBounds_toArray, List.set_cons_zero, List.set_cons_succ]
    refine till_free (i := 11) (v := ?_) rfl (by kernel_rfl) (by kernel_rfl) (by kernel_rfl) (by kernel_rfl) (fun _ _ _ h => h) (Or.inl ⟨by rfl, ?_⟩) (by assumption) ?_
    rotate_left
    · (intro wx hSw; (try dsimp only at hSw); go_simp; (try rw [if_neg (by omega)]); try with_reducible rfl)
    simp only [Act.put, List.getElem_toArray, List.getElem_cons_succ, List.getElem_cons_zero, List.setIfInBounds_toArray, List.set_cons_zero, List.set_cons_succ]
    refine till_in (i := 4) (by kernel_rfl) rfl (fun K hK => ?_)
    go_simp
    refine (rtextK b0 a0 len0 cap0 z0 20 _ (h0.later HW) (unhide L0)).mono ?_
    rintro e v22 ⟨t1, rfl, ht1, hb9⟩
    replace HW := Below.step HW hb9
    clear hb9
    have hz1 := isTxt_size ht1 h0.2.2
    refine hK.out _ _ ?_ (fun hHeld => ?_)
    · exact ⟨(P0.later HW).facts.1, (P0.later HW).facts.2.1⟩
    clear hK K
    try simp only [Act.put, List.getElem_toArray, List.getElem_cons_succ, List.getElem_cons_zero, List.setIfInBounds_toArray, List.set_cons_zero, List.set_cons_succ]
    refine till_in (i := 6) (by kernel_rfl) rfl (fun K hK => ?_)
    go_simp
    refine (rtextK b0 a0 len0 cap0 z0 20 _ (h0.later HW) (unhide L0)).mono ?_
    rintro e v23 ⟨t2, rfl, ht2, hb9⟩
    replace HW := Below.step HW hb9
    clear hb9
    have hz2 := isTxt_size ht2 h0.2.2
    refine hK.out _ _ ?_ (fun hHeld => ?_)
    · exact ⟨(P0.later HW).facts.1, (P0.later HW).facts.2.1⟩
    clear hK K
    try simp only [Act.put, List.getElem_toArray, List.getElem_cons_succ, List.getElem_cons_zero, List.setIfInBounds_toArray, List.set_cons_zero, List.set_cons_succ]
    refine till_free (i := 8) (v := ?_) rfl (by kernel_rfl) (by kernel_rfl) (by kernel_rfl) (by kernel_rfl) (fun _ _ _ h => h) (Or.inl ⟨by rfl, ?_⟩) (by assumption) ?_
    rotate_left
    · (intro wx hSw; (try dsimp only at hSw); go_simp; (try rw [if_neg (by omega)]); try with_reducible rfl)
    simp only [Act.put, List.getElem_toArray, List.getElem_cons_succ, List.getElem_cons_zero, List.setIfInBounds_toArray, List.set_cons_zero, List.set_cons_succ]
    refine till_out (i := 9) (by kernel_rfl) rfl (by kernel_rfl) (fun K hK => ?_)
    go_simp
    refine hK.out _ _ ?_
    clear hK K
    try simp only [Act.put, List.getElem_toArray, List.getElem_cons_succ, List.getElem_cons_zero, List.setIfInBounds_toArray, List.set_cons_zero, List.set_cons_succ]
    refine till_out (i := 10) (by kernel_rfl) rfl (by kernel_rfl) (fun K hK => ?_)
    go_simp
    refine hK.out _ _ ?_
    clear hK K
    try simp only [Act.put, List.getElem_toArray, List.getElem_cons_succ, List.getElem_cons_zero, List.setIfInBounds_toArray, List.set_cons_zero, List.set_cons_succ]
    refine till_done (by kernel_rfl) ?_ _
    go_wp2_with fail
    obtain ⟨VV, hV⟩ : ∃ V, V = v23.alloc (.cells #[.string st, .string ({ data := #[45] } ++ st), .string t1, .string (t2 ++ st)] 9) := ⟨_, rfl⟩
    rw [← hV]
    obtain ⟨sv, hsv⟩ : ∃ sv : Nat → ByteArray, sv = (fun k => if k = 0 then st else if k = 1 then { data := #[45] } ++ st else if k = 2 then t1 else t2 ++ st) := ⟨_, rfl⟩
    have hcell : Hid (∀ k, k < 4 → VV.cell? ⟨v23.heap.size, k, none⟩ = some (.string (sv k))) := by
      rw [hV, hsv]
      intro k hk
      match k with
      | 0 => simp
      | 1 => simp
      | 2 => simp
      | 3 => simp
    have hsvz : Hid (∀ k, (sv k).size ≤ 1000000) := by
      rw [hsv]
      intro k
      dsimp only
      split
      · omega
      · split
        · rw [ByteArray.size_append, show (ByteArray.mk #[45]).size = 1 from rfl]; omega
        · split
          · omega
          · rw [ByteArray.size_append]; omega
    have hbV : Below v23.heap.size v23 VV := by rw [hV]; exact below_one _ _
    have hgV : v23.heap.size < VV.heap.size := by rw [hV]; simp
    clear hV hsv hHeld ht1 ht2 hz1 hz2 hs3 hs'
    have hbX := Below.step HW hbV
    replace P0 := P0.later hbX
    replace h0 := h0.later hbX
    replace HB := hide (Below.step (unhide HB) hbX)
    clear hbX hbV HW
    go_loopw [32] (fun t wr => ∃ k : Nat, k ≤ 4 ∧ t = .int .i64 (k : Int) ∧ Below VV.heap.size VV wr) (fun t _ => 4 - (intOf t).toNat)
    case atStart => exact ⟨0, by omega, rfl, Below.refl _ _⟩
    case round =>
      obtain ⟨k, hk, rfl, hbel⟩ := hrel
      by_cases hlt : k < 4
      · have hck := (hbel.cell (p := ⟨v23.heap.size, k, none⟩) hgV).trans ((unhide hcell) k hlt)
        have hzk := (unhide hsvz) k
        obtain ⟨q, hq⟩ : ∃ q, q = okI (byts (sv k)) := ⟨_, rfl⟩
        obtain ⟨z, hz⟩ : ∃ z, z = numI (byts (sv k)) := ⟨_, rfl⟩
        have HQ := hide hq
        have HZ := hide hz
        clear hq hz
        go_wp2_with fail
        refine (qparse_any (sv k) q z _ hzk (unhide HQ) (unhide HZ)).mono ?_
        rintro e u1 ⟨b1, a1, l1, c1, rfl, hf1, hb1⟩
        have hA1 := below_one u1 (.cells #[.bool b1, .slice a1 l1 c1] 24)
        go_wp2_with fail
        refine (rparse_any (sv k) q z _ hzk (unhide HQ) (unhide HZ)).mono ?_
        rintro e u2 ⟨b2, a2, l2, c2, rfl, hf2, hb2⟩
        have B1 := ((box_new u1 b1 a1 l1 c1 rfl).later hb2).alloc (.cells #[.bool b2, .slice a2 l2 c2] 24)
        have B2 := box_new u2 b2 a2 l2 c2 rfl
        have hA2 := below_one u2 (.cells #[.bool b2, .slice a2 l2 c2] 24)
        have g1 := ((hf1.later hA1).later hb2).later hA2
        have g2 := hf2.later hA2
        obtain ⟨f1, f2, _, _⟩ := B1.facts
        obtain ⟨f3, f4, _, _⟩ := B2.facts
        have hBB := Below.step (Below.step (Below.step (Below.step hbel hb1) hA1) hb2) hA2
        clear hf1 hf2 hb1 hb2 hA1 hA2 hck
        go_wp2_with fail
        refine (rsame_true _ _ _ _ z _ _ _ _ _ g1 g2).mono ?_
        rintro e u3 ⟨rfl, hb3⟩
        have hBC := Below.step hBB hb3
        clear hBB hb3 g1 g2 B1 B2 f1 f2 f3 f4
        go_wp2
        go_roundw
        case rel => exact ⟨k + 1, by omega, by go_num, hBC⟩
        case measure => simp [intOf]; omega
      · obtain rfl : k = 4 := by omega
        replace P0 := P0.later hbel
        replace h0 := h0.later hbel
        replace HB := hide (Below.step (unhide HB) hbel)
        clear hbel hcell hsvz hlt hk hgV
        go_wp2_with fail
        have HW : Below wr.heap.size wr wr.drew := (Below.refl _ _).drew
        refine till_start (fun w' => w'.cell? ⟨w.heap.size, 0, none⟩ = some (.bool b0) ∧ w'.cell? ⟨w.heap.size, 1, none⟩ = some (.slice a0 len0 cap0)) 8 (by kernel_rfl) ?_ (fun hHeld => ?_)
        · exact ⟨(P0.later HW).facts.1, (P0.later HW).facts.2.1⟩
        refine till_take (i := 0) (v := ?_) [1, 3, 4, 5, 6, 7, 8] rfl (by kernel_rfl) (by kernel_rfl) (by kernel_rfl) (by kernel_rfl) (fun _ _ _ h => h) (Or.inl ⟨by rfl, ?_⟩) (by assumption) ?_
        rotate_left
        · (intro w hSw; (try dsimp only at hSw); go_simp; try with_reducible rfl)
        simp only [Act.put, List.getElem_toArray, List.getElem_cons_zero, List.setIfInBounds_toArray, List.set_cons_zero, List.set_cons_succ]
        refine till_take (i := 2) (v := ?_) [3, 4, 5, 6, 7, 8] rfl (by kernel_rfl) (by kernel_rfl) (by kernel_rfl) (by kernel_rfl) (fun _ _ _ h => h) (Or.inl ⟨by rfl, ?_⟩) (by assumption) ?_
        rotate_left
        · (intro w hSw; (try dsimp only at hSw); go_simp; try with_reducible rfl)
        simp only [Act.put, List.getElem_toArray, List.getElem_cons_succ, List.getElem_cons_zero, List.setIfInBounds_toArray, List.set_cons_zero, List.set_cons_succ]
        refine till_in (i := 1) (by kernel_rfl) rfl (fun K hK => ?_)
        go_simp
        refine (textK b0 a0 len0 cap0 z0 20 _ (h0.later HW) (unhide L0)).mono ?_
        rintro e v101 ⟨t3, rfl, ht3, hb9⟩
        replace HW := Below.step HW hb9
        clear hb9
        refine hK.out _ _ ?_ (fun hHeld => ?_)
        · exact ⟨(P0.later HW).facts.1, (P0.later HW).facts.2.1⟩
        clear hK K
        try simp only [Act.put, List.getElem_toArray, List.getElem_cons_succ, List.getElem_cons_zero, List.setIfInBounds_toArray, List.set_cons_zero, List.set_cons_succ]
        refine till_in (i := 3) (by kernel_rfl) rfl (fun K hK => ?_)
        go_simp
        refine (rtextK b0 a0 len0 cap0 z0 20 _ (h0.later HW) (unhide L0)).mono ?_
        rintro e v102 ⟨t4, rfl, ht4, hb9⟩
        replace HW := Below.step HW hb9
        clear hb9
        obtain rfl := isTxt_inj ht3 ht4
        refine hK.out _ _ ?_ (fun hHeld => ?_)
        · exact ⟨(P0.later HW).facts.1, (P0.later HW).facts.2.1⟩
        clear hK K
        try simp only [Act.put, List.getElem_toArray, List.getElem_cons_succ, List.getElem_cons_zero, List.setIfInBounds_toArray, List.set_cons_zero, List.set_cons_succ]
        refine till_take (i := 4) (v := ?_) [5, 6, 7, 8] rfl (by kernel_rfl) (by kernel_rfl) (by kernel_rfl) (by kernel_rfl) (fun _ _ _ h => h) (Or.inl ⟨by rfl, ?_⟩) (by assumption) ?_
        rotate_left
        · (intro w hSw; (try dsimp only at hSw); go_simp; try with_reducible rfl)
        simp only [Act.put, List.getElem_toArray, List.getElem_cons_succ, List.getElem_cons_zero, List.setIfInBounds_toArray, List.set_cons_zero, List.set_cons_succ]
        refine till_take (i := 5) (v := ?_) [6, 7, 8] rfl (by kernel_rfl) (by kernel_rfl) (by kernel_rfl) (by kernel_rfl) (fun _ _ _ h => h) (Or.inl ⟨by rfl, ?_⟩) (by assumption) ?_
        rotate_left
        · (intro w hSw; (try dsimp only at hSw); go_simp; try with_reducible rfl)
        simp only [Act.put, List.getElem_toArray, List.getElem_cons_succ, List.getElem_cons_zero, List.setIfInBounds_toArray, List.set_cons_zero, List.set_cons_succ]
        refine till_in (i := 6) (by kernel_rfl) rfl (fun K hK => ?_)
        go_simp
        refine (awake5_any _).mono ?_
        rintro e v103 ⟨rfl, hb9⟩
        replace HW := Below.step HW hb9
        clear hb9
        refine hK.out _ _ ?_ (fun hHeld => ?_)
        · exact ⟨(P0.later HW).facts.1, (P0.later HW).facts.2.1⟩
        clear hK K
        try simp only [Act.put, List.getElem_toArray, List.getElem_cons_succ, List.getElem_cons_zero, List.setIfInBounds_toArray, List.set_cons_zero, List.set_cons_succ]
        refine till_take (i := 7) (v := ?_) [8] rfl (by kernel_rfl) (by kernel_rfl) (by kernel_rfl) (by kernel_rfl) (fun _ _ _ h => h) (Or.inl ⟨by rfl, ?_⟩) (by assumption) ?_
        rotate_left
        · (intro w hSw; (try dsimp only at hSw); go_simp; try with_reducible rfl)
        simp only [Act.put, List.getElem_toArray, List.getElem_cons_succ, List.getElem_cons_zero, List.setIfInBounds_toArray, List.set_cons_zero, List.set_cons_succ]
        refine till_out (i := 8) (by kernel_rfl) rfl (by kernel_rfl) (fun K hK => ?_)
        go_simp
        refine hK.out _ _ ?_
        clear hK K
        try simp only [Act.put, List.getElem_toArray, List.getElem_cons_succ, List.getElem_cons_zero, List.setIfInBounds_toArray, List.set_cons_zero, List.set_cons_succ]
        refine till_done (by kernel_rfl) ?_ _
        go_wp2
        go_ret
        exact ⟨rfl, Below.step (unhide HB) HW⟩
  · have hf' : b = false := by simpa using hf
    subst hf'
    clear hb hf
    go_wp2_with fail
    refine (awake5_any _).mono ?_
    rintro e w2 ⟨rfl, hb2⟩
    go_wp2
    go_ret
    exact ⟨rfl, Below.step (unhide HB) hb2⟩

#print axioms quotTexts_walk
end Go.Proofs.Ytcafodggkhkpnaa
