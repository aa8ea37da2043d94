/-
  What the reference's Dot and Norm tell; vectors of short numbers.
-/
import Derived.Test.YtdbimajopclndaaVAt
import Derived.Deep.CutRange
namespace Go.Proofs.Ytdbimajopclndaa
open Go.RowKit Lb

/-- An Int below k limbs that has no more than k. -/
def SK (w : World) (b : Bool) (ao : Option Addr) (len cap : Nat) (z : Int) (k : Nat) : Prop := IK w b ao len cap z k ∧ len ≤ k
theorem SK.later {w w' : World} {b : Bool} {ao : Option Addr} {len cap k : Nat} {z : Int} (h : SK w b ao len cap z k) (hb : Below w.heap.size w w') : SK w' b ao len cap z k := ⟨h.1.later hb, h.2⟩
theorem FK.sk {w : World} {b : Bool} {ao : Option Addr} {len cap k : Nat} {z : Int} (h : FK w b ao len cap z k) (hk : k ≤ 999990) : SK w b ao len cap z k := ⟨h.ik hk, h.1.len_le h.2⟩
/-- A vector of such. -/
def VS (w : World) (ao : Option Addr) (n cap : Nat) (zs : List Int) (k : Nat) : Prop := VecOf (fun w b a l c z => SK w b a l c z k) w ao n cap zs
theorem VS.later {w w' : World} {ao : Option Addr} {n cap k : Nat} {zs : List Int} (h : VS w ao n cap zs k) (hb : Below w.heap.size w w') : VS w' ao n cap zs k := VecOf.later (fun h hb => h.later hb) h hb
theorem VS.vk {w : World} {ao : Option Addr} {n cap k : Nat} {zs : List Int} (h : VS w ao n cap zs k) : VK w ao n cap zs k := VecOf.mono h (fun _ h => h.1)
theorem VF.vs {w : World} {ao : Option Addr} {n cap k : Nat} {zs : List Int} (h : VF w ao n cap zs k) (hk : k ≤ 999990) : VS w ao n cap zs k := VecOf.mono h (fun _ h => h.sk hk)
theorem VS.at {w : World} {g off n cap k : Nat} {zs : List Int} (h : VS w (some ⟨g, off, none⟩) n cap zs k) {i : Nat} (hi : i < n) : ∃ b a l c, EltAt w g (off + i * 2) b a l c ∧ SK w b a l c (zs.getD i 0) k := by
  obtain ⟨g', off', e, hg, hc⟩ := h.elts (by omega)
  simp only [Option.some.injEq, Addr.mk.injEq, and_true] at e
  obtain ⟨rfl, rfl⟩ := e
  exact hc i hi
theorem FK.len_le {w : World} {b : Bool} {ao : Option Addr} {len cap k : Nat} {z : Int} (h : FK w b ao len cap z k) : len ≤ k := h.1.len_le h.2

set_option maxHeartbeats 1600000 in
theorem rvdotK (ao : Option Addr) (n cap : Nat) (zs : List Int) (k : Nat) (ao' : Option Addr) (n' cap' : Nat) (ys : List Int) (l : Nat) (w : World) (h : VS w ao n cap zs k) (h' : VK w ao' n' cap' ys l) (hk : k ≤ 400000) (hl : l ≤ 400000) (hn : n ≤ 100000) :
    Calls Try.prog 27 #[.slice ao n cap, .slice ao' n' cap'] w fun e w' => ∃ b1 a1 l1 c1, e = .returned (.agg #[.bool b1, .slice a1 l1 c1]) ∧ FK w' b1 a1 l1 c1 (vdot zs ys) (k + l + n) ∧ Below w.heap.size w w' := by
  have HL := hide h.len_eq
  obtain ⟨F, eF⟩ : ∃ F : Nat → Int, F = fun j => zs.getD j 0 * ys.getD j 0 := ⟨_, rfl⟩
  obtain ⟨v, ev⟩ : ∃ v, v = vdot zs ys := ⟨_, rfl⟩
  rw [← ev]
  have EV := hide ev
  have EF := hide (show ∀ j, F j = zs.getD j 0 * ys.getD j 0 from fun j => by rw [eF])
  have EN := hide (show sumN n F = vdot zs ys by rw [eF]; unfold vdot; rw [unhide HL])
  clear ev eF
  go_enter Try.func27, Try.ntmps27
  go_wp2_with fail
  obtain ⟨W, hWe⟩ : ∃ W, W = ((w.alloc (.cells #[.bool false, .slice none 0 0] 26)).alloc (.cells #[.bool false, .slice none 0 0] 26)) := ⟨_, rfl⟩
  obtain ⟨B0, B1, hb0⟩ := boxes2 w false none 0 0 false none 0 0 hWe
  rw [← hWe]
  clear hWe
  go_loopw [6] (fun t wr => ∃ (i : Nat) (b1 : Bool) (a1 : Option Addr) (l1 c1 : Nat), i ≤ n ∧ t = .int .i64 (i : Int) ∧ Box wr w.heap.size false none 0 0 ∧ Box wr (w.heap.size + 1) b1 a1 l1 c1 ∧ FK wr b1 a1 l1 c1 (sumN i F) (k + l + i) ∧ Below w.heap.size w wr) (fun t _ => n - (intOf t).toNat)
  case atStart => exact ⟨0, _, _, _, _, Nat.zero_le _, rfl, B0, B1, fk_zero _ _, hb0⟩
  case round =>
    obtain ⟨i, b1, a1, l1, c1, hi, rfl, C0, C1, hs, hB⟩ := hrel
    have HB := hide hB
    clear hB B0 B1 hb0
    by_cases hlt : i < n
    · obtain ⟨g2, off2, rfl⟩ := h.some (by omega)
      obtain ⟨b2, a2, l2, c2, E2, hy2⟩ := (h.later (unhide HB)).at (show i < n by omega)
      have hi0 : (0 : Int) ≤ (i : Int) := by omega
      have hi1 : (i : Int) < (n : Int) := by omega
      have HW : Below wr.heap.size wr wr.drew := (Below.refl _ _).drew
      go_upto_region 5 with fail
      refine till_start (fun w' => w'.cell? ⟨w.heap.size + 1, 0, none⟩ = some (.bool b1) ∧ w'.cell? ⟨w.heap.size + 1, 1, none⟩ = some (.slice a1 l1 c1) ∧ w'.cell? ⟨g2, off2 + i * 2, none⟩ = some (.bool b2) ∧ w'.cell? ⟨g2, off2 + i * 2 + 1, none⟩ = some (.slice a2 l2 c2)) 10 (by kernel_rfl) ?_ (fun hHeld => ?_)
      · exact ⟨(C1.later HW).facts.1, (C1.later HW).facts.2.1, (E2.later HW).facts.1, (E2.later HW).facts.2⟩
      refine till_take (i := 0) (v := ?_) [9, 10] rfl (by kernel_rfl) (by kernel_rfl) (by kernel_rfl) (by kernel_rfl) (fun _ _ _ h => h) (Or.inl ⟨by rfl, ?_⟩) (by assumption) ?_
      rotate_left
      · (intro w hSw; (try dsimp only at hSw); go_simp; try with_reducible rfl)
      simp only [Act.put, List.getElem_toArray, List.getElem_cons_zero, List.setIfInBounds_toArray, List.set_cons_zero, List.set_cons_succ]
      refine till_take (i := 1) (v := ?_) [3, 4, 8, 9, 10] rfl (by kernel_rfl) (by kernel_rfl) (by kernel_rfl) (by kernel_rfl) (fun _ _ _ h => h) (Or.inl ⟨by rfl, ?_⟩) (by assumption) ?_
      rotate_left
      · (intro w hSw; (try dsimp only at hSw); go_simp; try with_reducible rfl)
      simp only [Act.put, List.getElem_toArray, List.getElem_cons_succ, List.getElem_cons_zero, List.setIfInBounds_toArray, List.set_cons_zero, List.set_cons_succ]
      refine till_take (i := 2) (v := ?_) [3, 4, 8, 9, 10] rfl (by kernel_rfl) (by kernel_rfl) (by kernel_rfl) (by kernel_rfl) (fun _ _ _ h => h) (Or.inl ⟨by rfl, ?_⟩) (by assumption) ?_
      rotate_left
      · (intro w hSw; (try dsimp only at hSw); go_simp; try with_reducible rfl)
      simp only [Act.put, List.getElem_toArray, List.getElem_cons_succ, List.getElem_cons_zero, List.setIfInBounds_toArray, List.set_cons_zero, List.set_cons_succ]
      refine till_take (i := 3) (v := ?_) [4, 8, 9, 10] rfl (by kernel_rfl) (by kernel_rfl) (by kernel_rfl) (by kernel_rfl) (fun _ _ _ h => h) (Or.inl ⟨by rfl, ?_⟩) (by assumption) ?_
      rotate_left
      · (intro w hSw; (try dsimp only at hSw); go_simp; try with_reducible rfl)
      simp only [Act.put, List.getElem_toArray, List.getElem_cons_succ, List.getElem_cons_zero, List.setIfInBounds_toArray, List.set_cons_zero, List.set_cons_succ]
      refine till_take (i := 4) (v := ?_) [8, 9, 10] rfl (by kernel_rfl) (by kernel_rfl) (by kernel_rfl) (by kernel_rfl) (fun _ _ _ h => h) (Or.inl ⟨by rfl, ?_⟩) (by assumption) ?_
      rotate_left
      · (intro w hSw; (try dsimp only at hSw); go_simp; try with_reducible rfl)
      simp only [Act.put, List.getElem_toArray, List.getElem_cons_succ, List.getElem_cons_zero, List.setIfInBounds_toArray, List.set_cons_zero, List.set_cons_succ]
      refine till_take (i := 5) (v := ?_) [7, 8, 9, 10] rfl (by kernel_rfl) (by kernel_rfl) (by kernel_rfl) (by kernel_rfl) (fun _ _ _ h => h) (Or.inl ⟨by rfl, ?_⟩) (by assumption) ?_
      rotate_left
      · (intro w hSw; (try dsimp only at hSw); go_simp; try with_reducible rfl)
      simp only [Act.put, List.getElem_toArray, List.getElem_cons_succ, List.getElem_cons_zero, List.setIfInBounds_toArray, List.set_cons_zero, List.set_cons_succ]
      refine till_take (i := 6) (v := ?_) [7, 8, 9, 10] rfl (by kernel_rfl) (by kernel_rfl) (by kernel_rfl) (by kernel_rfl) (fun _ _ _ h => h) (Or.inl ⟨by rfl, ?_⟩) (by assumption) ?_
      rotate_left
      · (intro w hSw; (try dsimp only at hSw); go_simp; try with_reducible rfl)
      simp only [Act.put, List.getElem_toArray, List.getElem_cons_succ, List.getElem_cons_zero, List.setIfInBounds_toArray, List.set_cons_zero, List.set_cons_succ]
      refine till_in (i := 7) (by kernel_rfl) rfl (fun K hK => ?_)
      go_simp
      refine (ratK _ _ _ ys l i _ (h'.later (Below.step (unhide HB) HW)) (by omega)).mono ?_
      rintro e w9 ⟨b7, a7, l7, c7, rfl, h7, hb9⟩
      replace HW := Below.step HW hb9
      clear hb9
      refine hK.out _ _ ?_ (fun hHeld => ?_)
      · exact ⟨(C1.later HW).facts.1, (C1.later HW).facts.2.1, (E2.later HW).facts.1, (E2.later HW).facts.2⟩
      clear hK K
      try simp only [Act.put, List.getElem_toArray, List.getElem_cons_succ, List.getElem_cons_zero, List.setIfInBounds_toArray, List.set_cons_zero, List.set_cons_succ]
      refine till_in (i := 8) (by kernel_rfl) rfl (fun K hK => ?_)
      go_simp
      refine (rmulK b2 a2 l2 c2 (zs.getD i 0) k b7 a7 l7 c7 (ys.getD i 0) l _ (hy2.1.later HW) (h7.ik (by omega)) (by have := hy2.2; have := h7.len_le; omega)).mono ?_
      rintro e w9 ⟨b8, a8, l8, c8, rfl, h8, hb9⟩
      replace HW := Below.step HW hb9
      clear hb9
      clear h7
      refine hK.out _ _ ?_ (fun hHeld => ?_)
      · exact ⟨(C1.later HW).facts.1, (C1.later HW).facts.2.1, (E2.later HW).facts.1, (E2.later HW).facts.2⟩
      clear hK K
      try simp only [Act.put, List.getElem_toArray, List.getElem_cons_succ, List.getElem_cons_zero, List.setIfInBounds_toArray, List.set_cons_zero, List.set_cons_succ]
      refine till_in (i := 9) (by kernel_rfl) rfl (fun K hK => ?_)
      go_simp
      refine (raddK b1 a1 l1 c1 (sumN i F) (k + l + i) b8 a8 l8 c8 _ (k + l) _ ((hs.later HW).ik (by omega)) (h8.ik (by omega))).mono ?_
      rintro e w9 ⟨b9, a9, l9, c9, rfl, h9, hb9⟩
      replace HW := Below.step HW hb9
      clear hb9
      clear h8
      obtain ⟨q1, q2, q3, q4⟩ := (C1.later HW).facts
      have hsz := (C1.later HW).lt
      refine hK.out _ _ ?_ (fun hHeld => ?_)
      · exact ⟨(C1.later HW).facts.1, (C1.later HW).facts.2.1, (E2.later HW).facts.1, (E2.later HW).facts.2⟩
      clear hK K
      try simp only [Act.put, List.getElem_toArray, List.getElem_cons_succ, List.getElem_cons_zero, List.setIfInBounds_toArray, List.set_cons_zero, List.set_cons_succ]
      refine till_out (i := 10) (by kernel_rfl) rfl (by kernel_rfl) (fun K hK => ?_)
      go_simp
      refine hK.out _ _ ?_
      clear hK K
      try simp only [Act.put, List.getElem_toArray, List.getElem_cons_succ, List.getElem_cons_zero, List.setIfInBounds_toArray, List.set_cons_zero, List.set_cons_succ]
      refine till_done (by kernel_rfl) ?_ _
      go_wp2
      go_roundw
      case rel =>
        refine ⟨i + 1, _, _, _, _, by omega, by go_num, (C0.later HW).other (g' := w.heap.size + 1) (by omega) b9 a9 l9 c9, (C1.later HW).put b9 a9 l9 c9, ?_, below_put (Below.step (unhide HB) HW) (by omega) _ _ _ _⟩
        have hput := (h9.put (C1.later HW).noLimb b9 a9 l9 c9).up (show _ ≤ k + l + (i + 1) by omega)
        exact hput.eq (by rw [sumN, unhide EF i])
      case measure => simp [intOf]; omega
    · have hin : i = n := by omega
      have hval : sumN i F = v := by rw [hin, unhide EN, unhide EV]
      rw [hval] at hs
      clear hval
      obtain ⟨f1, f2, _, _⟩ := C1.facts
      have hs1 := C1.lt
      go_wp2_with fail
      refine (rformK b1 a1 l1 c1 v (k + l + i) _ (hs.ik (by omega))).mono ?_
      rintro e w2 ⟨b9, a9, l9, c9, rfl, h9, hb1⟩
      replace C0 := C0.later hb1
      replace HB := hide (Below.step (unhide HB) hb1)
      clear hb1 f1 f2 C1 hs hs1
      have hsz := C0.lt
      obtain ⟨q1, q2, q3, q4⟩ := C0.facts
      go_wp2
      refine bodyPost_ret (v := .agg #[.bool b9, .slice a9 l9 c9]) (by simp [results, Try.results27, go_sem, *]) rfl ⟨_, _, _, _, rfl, ?_⟩
      exact ⟨(h9.put C0.noLimb _ _ _ _).up (by omega), below_put (unhide HB) (by omega) _ _ _ _⟩

set_option maxHeartbeats 1600000 in
theorem rvnormK (ao : Option Addr) (n cap : Nat) (zs : List Int) (k : Nat) (w : World) (h : VK w ao n cap zs k) (hk : k ≤ 800000) (hn : n ≤ 100000) :
    Calls Try.prog 29 #[.slice ao n cap] w fun e w' => ∃ b1 a1 l1 c1, e = .returned (.agg #[.bool b1, .slice a1 l1 c1]) ∧ FK w' b1 a1 l1 c1 (vnorm zs) (k + n) ∧ Below w.heap.size w w' := by
  have HL := hide h.len_eq
  obtain ⟨F, eF⟩ : ∃ F : Nat → Int, F = fun j => ((zs.getD j 0).natAbs : Int) := ⟨_, rfl⟩
  obtain ⟨v, ev⟩ : ∃ v, v = vnorm zs := ⟨_, rfl⟩
  rw [← ev]
  have EV := hide ev
  have EF := hide (show ∀ j, F j = ((zs.getD j 0).natAbs : Int) from fun j => by rw [eF])
  have EN := hide (show sumN n F = vnorm zs by rw [eF]; unfold vnorm; rw [unhide HL])
  clear ev eF
  go_enter Try.func29, Try.ntmps29
  go_wp2_with fail
  obtain ⟨W, hWe⟩ : ∃ W, W = ((w.alloc (.cells #[.bool false, .slice none 0 0] 26)).alloc (.cells #[.bool false, .slice none 0 0] 26)) := ⟨_, rfl⟩
  obtain ⟨B0, B1, hb0⟩ := boxes2 w false none 0 0 false none 0 0 hWe
  rw [← hWe]
  clear hWe
  go_loopw [4] (fun t wr => ∃ (i : Nat) (b1 : Bool) (a1 : Option Addr) (l1 c1 : Nat), i ≤ n ∧ t = .int .i64 (i : Int) ∧ Box wr w.heap.size false none 0 0 ∧ Box wr (w.heap.size + 1) b1 a1 l1 c1 ∧ FK wr b1 a1 l1 c1 (sumN i F) (k + i) ∧ Below w.heap.size w wr) (fun t _ => n - (intOf t).toNat)
  case atStart => exact ⟨0, _, _, _, _, Nat.zero_le _, rfl, B0, B1, fk_zero _ _, hb0⟩
  case round =>
    obtain ⟨i, b1, a1, l1, c1, hi, rfl, C0, C1, hs, hB⟩ := hrel
    have HB := hide hB
    clear hB B0 B1 hb0
    by_cases hlt : i < n
    · obtain ⟨g2, off2, rfl⟩ := h.some (by omega)
      obtain ⟨b2, a2, l2, c2, E2, hy2⟩ := (h.later (unhide HB)).at (show i < n by omega)
      have hi0 : (0 : Int) ≤ (i : Int) := by omega
      have hi1 : (i : Int) < (n : Int) := by omega
      have HW : Below wr.heap.size wr wr.drew := (Below.refl _ _).drew
      go_upto_region 5 with fail
      refine till_start (fun w' => w'.cell? ⟨w.heap.size + 1, 0, none⟩ = some (.bool b1) ∧ w'.cell? ⟨w.heap.size + 1, 1, none⟩ = some (.slice a1 l1 c1) ∧ w'.cell? ⟨g2, off2 + i * 2, none⟩ = some (.bool b2) ∧ w'.cell? ⟨g2, off2 + i * 2 + 1, none⟩ = some (.slice a2 l2 c2)) 7 (by kernel_rfl) ?_ (fun hHeld => ?_)
      · exact ⟨(C1.later HW).facts.1, (C1.later HW).facts.2.1, (E2.later HW).facts.1, (E2.later HW).facts.2⟩
      refine till_take (i := 0) (v := ?_) [6, 7] rfl (by kernel_rfl) (by kernel_rfl) (by kernel_rfl) (by kernel_rfl) (fun _ _ _ h => h) (Or.inl ⟨by rfl, ?_⟩) (by assumption) ?_
      rotate_left
      · (intro w hSw; (try dsimp only at hSw); go_simp; try with_reducible rfl)
      simp only [Act.put, List.getElem_toArray, List.getElem_cons_zero, List.setIfInBounds_toArray, List.set_cons_zero, List.set_cons_succ]
      refine till_take (i := 1) (v := ?_) [3, 4, 5, 6, 7] rfl (by kernel_rfl) (by kernel_rfl) (by kernel_rfl) (by kernel_rfl) (fun _ _ _ h => h) (Or.inl ⟨by rfl, ?_⟩) (by assumption) ?_
      rotate_left
      · (intro w hSw; (try dsimp only at hSw); go_simp; try with_reducible rfl)
      simp only [Act.put, List.getElem_toArray, List.getElem_cons_succ, List.getElem_cons_zero, List.setIfInBounds_toArray, List.set_cons_zero, List.set_cons_succ]
      refine till_take (i := 2) (v := ?_) [3, 4, 5, 6, 7] rfl (by kernel_rfl) (by kernel_rfl) (by kernel_rfl) (by kernel_rfl) (fun _ _ _ h => h) (Or.inl ⟨by rfl, ?_⟩) (by assumption) ?_
      rotate_left
      · (intro w hSw; (try dsimp only at hSw); go_simp; try with_reducible rfl)
      simp only [Act.put, List.getElem_toArray, List.getElem_cons_succ, List.getElem_cons_zero, List.setIfInBounds_toArray, List.set_cons_zero, List.set_cons_succ]
      refine till_take (i := 3) (v := ?_) [4, 5, 6, 7] rfl (by kernel_rfl) (by kernel_rfl) (by kernel_rfl) (by kernel_rfl) (fun _ _ _ h => h) (Or.inl ⟨by rfl, ?_⟩) (by assumption) ?_
      rotate_left
      · (intro w hSw; (try dsimp only at hSw); go_simp; try with_reducible rfl)
      simp only [Act.put, List.getElem_toArray, List.getElem_cons_succ, List.getElem_cons_zero, List.setIfInBounds_toArray, List.set_cons_zero, List.set_cons_succ]
      refine till_take (i := 4) (v := ?_) [5, 6, 7] rfl (by kernel_rfl) (by kernel_rfl) (by kernel_rfl) (by kernel_rfl) (fun _ _ _ h => h) (Or.inl ⟨by rfl, ?_⟩) (by assumption) ?_
      rotate_left
      · (intro w hSw; (try dsimp only at hSw); go_simp; try with_reducible rfl)
      simp only [Act.put, List.getElem_toArray, List.getElem_cons_succ, List.getElem_cons_zero, List.setIfInBounds_toArray, List.set_cons_zero, List.set_cons_succ]
      refine till_in (i := 5) (by kernel_rfl) rfl (fun K hK => ?_)
      go_simp
      refine (rabsK b2 a2 l2 c2 (zs.getD i 0) k _ (hy2.later HW)).mono ?_
      rintro e w9 ⟨b8, a8, l8, c8, rfl, h8, hb9⟩
      replace HW := Below.step HW hb9
      clear hb9
      refine hK.out _ _ ?_ (fun hHeld => ?_)
      · exact ⟨(C1.later HW).facts.1, (C1.later HW).facts.2.1, (E2.later HW).facts.1, (E2.later HW).facts.2⟩
      clear hK K
      try simp only [Act.put, List.getElem_toArray, List.getElem_cons_succ, List.getElem_cons_zero, List.setIfInBounds_toArray, List.set_cons_zero, List.set_cons_succ]
      refine till_in (i := 6) (by kernel_rfl) rfl (fun K hK => ?_)
      go_simp
      refine (raddK b1 a1 l1 c1 (sumN i F) (k + i) b8 a8 l8 c8 _ k _ ((hs.later HW).ik (by omega)) (h8.ik (by omega))).mono ?_
      rintro e w9 ⟨b9, a9, l9, c9, rfl, h9, hb9⟩
      replace HW := Below.step HW hb9
      clear hb9
      clear h8
      obtain ⟨q1, q2, q3, q4⟩ := (C1.later HW).facts
      have hsz := (C1.later HW).lt
      refine hK.out _ _ ?_ (fun hHeld => ?_)
      · exact ⟨(C1.later HW).facts.1, (C1.later HW).facts.2.1, (E2.later HW).facts.1, (E2.later HW).facts.2⟩
      clear hK K
      try simp only [Act.put, List.getElem_toArray, List.getElem_cons_succ, List.getElem_cons_zero, List.setIfInBounds_toArray, List.set_cons_zero, List.set_cons_succ]
      refine till_out (i := 7) (by kernel_rfl) rfl (by kernel_rfl) (fun K hK => ?_)
      go_simp
      refine hK.out _ _ ?_
      clear hK K
      try simp only [Act.put, List.getElem_toArray, List.getElem_cons_succ, List.getElem_cons_zero, List.setIfInBounds_toArray, List.set_cons_zero, List.set_cons_succ]
      refine till_done (by kernel_rfl) ?_ _
      go_wp2
      go_roundw
      case rel =>
        refine ⟨i + 1, _, _, _, _, by omega, by go_num, (C0.later HW).other (g' := w.heap.size + 1) (by omega) b9 a9 l9 c9, (C1.later HW).put b9 a9 l9 c9, ?_, below_put (Below.step (unhide HB) HW) (by omega) _ _ _ _⟩
        have hput := (h9.put (C1.later HW).noLimb b9 a9 l9 c9).up (show _ ≤ k + (i + 1) by omega)
        exact hput.eq (by rw [sumN, unhide EF i])
      case measure => simp [intOf]; omega
    · have hin : i = n := by omega
      have hval : sumN i F = v := by rw [hin, unhide EN, unhide EV]
      rw [hval] at hs
      clear hval
      obtain ⟨f1, f2, _, _⟩ := C1.facts
      have hs1 := C1.lt
      go_wp2_with fail
      refine (rformK b1 a1 l1 c1 v (k + i) _ (hs.ik (by omega))).mono ?_
      rintro e w2 ⟨b9, a9, l9, c9, rfl, h9, hb1⟩
      replace C0 := C0.later hb1
      replace HB := hide (Below.step (unhide HB) hb1)
      clear hb1 f1 f2 C1 hs hs1
      have hsz := C0.lt
      obtain ⟨q1, q2, q3, q4⟩ := C0.facts
      go_wp2
      refine bodyPost_ret (v := .agg #[.bool b9, .slice a9 l9 c9]) (by simp [results, Try.results29, go_sem, *]) rfl ⟨_, _, _, _, rfl, ?_⟩
      exact ⟨(h9.put C0.noLimb _ _ _ _).up (by omega), below_put (unhide HB) (by omega) _ _ _ _⟩

set_option maxHeartbeats 800000 in
theorem rvnoughtK (ao : Option Addr) (n cap : Nat) (zs : List Int) (k : Nat) (w : World) (h : VK w ao n cap zs k) (hk : k ≤ 800000) (hn : n ≤ 100000) :
    Calls Try.prog 31 #[.slice ao n cap] w fun e w' => e = .returned (.bool (vnought zs)) ∧ Below w.heap.size w w' := by
  obtain ⟨q, eq⟩ : ∃ q, q = vnought zs := ⟨_, rfl⟩
  rw [← eq]
  obtain ⟨s, es⟩ : ∃ s, s = (vnorm zs).sign := ⟨_, rfl⟩
  have hs : (s == 0) = q := by
    rw [eq, ← vnorm_zero, es, Bool.eq_iff_iff, beq_iff_eq, decide_eq_true_iff]
    exact Int.sign_eq_zero_iff_zero
  have ES := hide es
  clear es eq
  go_enter Try.func31, Try.ntmps31
  go_wp2_with fail
  refine (rvnormK _ _ _ zs k _ h hk hn).mono ?_
  rintro e w1 ⟨b1, a1, l1, c1, rfl, h1, hb1⟩
  go_wp2_with fail
  refine (rsignK _ _ _ _ (vnorm zs) (k + n) s _ (h1.ik (by omega)) (unhide ES)).mono ?_
  rintro e w2 ⟨rfl, hb2⟩
  go_wp2
  go_ret
  exact ⟨rfl, Below.step hb1 hb2⟩

#print axioms rvdotK
#print axioms rvnormK
#print axioms rvnoughtK
end Go.Proofs.Ytdbimajopclndaa
