/-
  What Fits of package shade tells. (IN PARTS)
-/
import Derived.Test.YtgppplhbhgfmkaaJF
import Derived.Test.YtgppplhbhgfmkaaSNum
import Derived.Test.YtgppplhbhgfmkaaSBel
import Derived.Test.YtgppplhbhgfmkaaSFMath
import Derived.Test.YtgppplhbhgfmkaaJE
import Derived.Deep.CutRange
namespace Go.Proofs.Ytgppplhbhgfmkaa
open Go.RowKit Lb

set_option maxHeartbeats 4000000 in
theorem sfitsK (ao : Option Addr) (n cap : Nat) (zs : List Int) (k : Nat) (ao' : Option Addr) (n' cap' : Nat) (ys : List Int) (l : Nat) (w : World) (h : VK w ao n cap zs k) (h' : VK w ao' n' cap' ys l) (hl : l ≤ 900000) (hn : n ≤ 1000000) :
    Calls Try.prog 25 #[.slice ao n cap, .slice ao' n' cap'] w fun e w' => ∃ b1 a1 l1 c1 q, e = .returned (.agg #[.bool b1, .slice a1 l1 c1]) ∧ FK w' b1 a1 l1 c1 q (l) ∧ IsFit zs ys q ∧ Below w.heap.size w w' := by
  have HL := hide h.len_eq
  obtain ⟨r, er⟩ : ∃ r, r = vbelow zs ys := ⟨_, rfl⟩
  have ER := hide er
  go_enter Try.func25, Try.ntmps25
  go_wp2_with fail
  obtain ⟨W, hWe⟩ : ∃ W, W = w.alloc (.cells #[.bool false, .slice none 0 0] 31) := ⟨_, rfl⟩
  obtain ⟨B0, hb0⟩ := boxes1 w false none 0 0 hWe
  rw [← hWe]
  clear hWe
  refine (sbelowK ao n cap zs k ao' n' cap' ys l _ (h.later hb0) (h'.later hb0) hl hn).mono ?_
  rintro e w1 ⟨rfl, hb1⟩
  rw [← er]
  clear er
  replace B0 := B0.later hb1
  have HB := hide (Below.step hb0 hb1)
  clear hb0 hb1
  by_cases hr : r = true
  · subst hr
    have hsB := B0.lt
    go_wp2_with fail
    obtain ⟨W1, hWe⟩ : ∃ W1, W1 = w1.alloc (.cells #[.bool false, .slice none 0 0] 31) := ⟨_, rfl⟩
    obtain ⟨B1, hb1⟩ := boxes1 w1 false none 0 0 hWe
    rw [← hWe]
    clear hWe
    replace B0 := B0.later hb1
    replace HB := hide (Below.step (unhide HB) hb1)
    clear hb1
    obtain ⟨gm, egm⟩ : ∃ gm, gm = w1.heap.size := ⟨_, rfl⟩
    rw [← egm] at B1 hsB ⊢
    clear egm
    go_loopw [18] (fun t wr => ∃ (i : Nat) (b1 : Bool) (a1 : Option Addr) (l1 c1 M : Nat), i ≤ n ∧ t = .int .i64 (i : Int) ∧ Box wr w.heap.size false none 0 0 ∧ Box wr gm b1 a1 l1 c1 ∧ FK wr b1 a1 l1 c1 (M : Int) l ∧ FIn zs ys i M ∧ Below w.heap.size w wr) (fun t _ => n - (intOf t).toNat)
    case atStart => exact ⟨0, _, _, _, _, 0, Nat.zero_le _, rfl, B0, B1, fk_zero _ _, fIn_start _ _, unhide HB⟩
    case round =>
      clear B0 B1 HB
      obtain ⟨i, b1, a1, l1, c1, M, hi, rfl, C0, C1, hM, hF, hB⟩ := hrel
      have HF := hide hF
      clear hF
      have HB := hide hB
      clear hB
      by_cases hlt : i < n
      · obtain ⟨g2, off2, rfl⟩ := h.some (by omega)
        obtain ⟨b2, a2, l2, c2, E2, hy2⟩ := (h.later (unhide HB)).at (show i < n by omega)
        obtain ⟨f1, f2⟩ := E2.facts
        have hg2 := E2.1
        have hbz : belB (zs.getD i 0) (ys.getD i 0) = true := (vbelow_iff _ _).1 (unhide ER).symm i
        have HZ := hide hbz
        clear hbz
        obtain ⟨z, ez⟩ : ∃ z, z = zs.getD i 0 := ⟨_, rfl⟩
        rw [← ez] at hy2
        have EZ := hide ez
        clear ez
        go_upto_region 7 with fail
        obtain ⟨W2, hW2⟩ : ∃ W2, W2 = wr.alloc (.cells #[.bool b2, .slice a2 l2 c2] 31) := ⟨_, rfl⟩
        obtain ⟨D0, hb1⟩ := boxes1 wr b2 a2 l2 c2 hW2
        rw [← hW2]
        clear hW2 f1 f2 E2
        replace C0 := C0.later hb1
        replace C1 := C1.later hb1
        replace hM := hM.later hb1
        replace hy2 := hy2.later hb1
        replace HB := hide (Below.step (unhide HB) hb1)
        clear hb1
        have hlC0 := C0.lt
        have hlC1 := C1.lt
        have hsB' := hsB
        by_cases h0 : z = 0
        · have h00 := h0
          rw [h00] at hy2
          clear h00
          have HW : Below W2.heap.size W2 W2.drew := (Below.refl _ _).drew
          refine till_start (fun w' => w'.cell? ⟨wr.heap.size, 0, none⟩ = some (.bool b2) ∧ w'.cell? ⟨wr.heap.size, 1, none⟩ = some (.slice a2 l2 c2)) 11 (by kernel_rfl) ?_ (fun hHeld => ?_)
          · exact ⟨(D0.later HW).facts.1, (D0.later HW).facts.2.1⟩
          obtain ⟨vd1, hvd⟩ : ∃ v, v = W2.drew := ⟨_, rfl⟩
          rw [← hvd] at HW hHeld ⊢
          clear hvd
          refine till_free (i := 0) (v := ?_) rfl (by kernel_rfl) (by kernel_rfl) (by kernel_rfl) (by kernel_rfl) (fun _ _ _ h => h) (Or.inl ⟨by rfl, ?_⟩) (by assumption) ?_
          rotate_left
          · (intro wx hSw; (try dsimp only at hSw); go_simp; (try rw [if_neg (by omega)]); try with_reducible rfl)
          simp only [Act.put, List.getElem_toArray, List.getElem_cons_zero, List.setIfInBounds_toArray, List.set_cons_zero, List.set_cons_succ]
          refine till_free (i := 1) (v := ?_) rfl (by kernel_rfl) (by kernel_rfl) (by kernel_rfl) (by kernel_rfl) (fun _ _ _ h => h) (Or.inl ⟨by rfl, ?_⟩) (by assumption) ?_
          rotate_left
          · (intro wx hSw; (try dsimp only at hSw); go_simp; (try rw [if_neg (by omega)]); try with_reducible rfl)
          simp only [Act.put, List.getElem_toArray, List.getElem_cons_succ, List.getElem_cons_zero, List.setIfInBounds_toArray, List.set_cons_zero, List.set_cons_succ]
          refine till_take (i := 3) (v := ?_) [4, 5, 6, 7, 8, 11, 12, 13] rfl (by kernel_rfl) (by kernel_rfl) (by kernel_rfl) (by kernel_rfl) (fun _ _ _ h => h) (Or.inl ⟨by rfl, ?_⟩) (by assumption) ?_
          rotate_left
          · (intro wx hSw; (try dsimp only at hSw); go_simp; (try rw [if_neg (by omega)]); try with_reducible rfl)
          simp only [Act.put, List.getElem_toArray, List.getElem_cons_succ, List.getElem_cons_zero, List.setIfInBounds_toArray, List.set_cons_zero, List.set_cons_succ]
          refine till_name (fun act0 hact0 => ?_)
          have HA := hide hact0
          clear hact0
          refine till_mid 3 #[true, true, true, true, true, true, true, true, true, true, true, false, false, false] (ι := Bool × Option Addr × Nat × Nat × Nat × Nat) (fun (b3, a3, l3, c3, g7, g8) => ((((((((act0.put (some 26) (.agg #[.bool b3, .slice a3 l3 c3])).put (some 28) (.tuple #[.agg #[.bool false, .slice none 0 0], .agg #[.bool false, .slice none 0 0], .bool false])).put (some 23) (.tuple #[.agg #[.bool false, .slice none 0 0], .agg #[.bool false, .slice none 0 0], .bool false])).put (some 29) (.agg #[.bool false, .slice none 0 0])).put (some 30) (.agg #[.bool false, .slice none 0 0])).put (some 31) (.bool false)).put (some 8) ((.pointer (some ⟨g7, 0, none⟩)))).put (some 9) ((.pointer (some ⟨g8, 0, none⟩))))) (fun (b3, a3, l3, c3, g7, g8) w => Below W2.heap.size W2 w ∧ Box w g7 false none 0 0 ∧ W2.heap.size ≤ g7 ∧ Box w g8 false none 0 0 ∧ W2.heap.size ≤ g8 ∧ g7 ≠ g8) ?_ (fun J0 => ?_)
          · rintro ⟨b3, a3, l3, c3, g7, g8⟩ wj hI
            try dsimp only at hI ⊢
            obtain ⟨HW, B7, hg7, B8, hg8, hneg7g8⟩ := hI
            have hHeld : wj.cell? ⟨wr.heap.size, 0, none⟩ = some (.bool b2) ∧ wj.cell? ⟨wr.heap.size, 1, none⟩ = some (.slice a2 l2 c2) := by exact ⟨(D0.later HW).facts.1, (D0.later HW).facts.2.1⟩
            rw [unhide HA]
            simp only [Act.put, List.setIfInBounds_toArray, List.set_cons_zero, List.set_cons_succ]
            obtain ⟨q1B7, q2B7, q3B7, q4B7⟩ := B7.facts
            have hltB7 := B7.lt
            obtain ⟨q1B8, q2B8, q3B8, q4B8⟩ := B8.facts
            have hltB8 := B8.lt
            refine till_out (i := 11) (by kernel_rfl) rfl (by kernel_rfl) (fun K hK => ?_)
            go_simp
            refine hK.out _ _ ?_
            clear hK K
            try simp only [List.setIfInBounds_toArray, List.set_cons_zero, List.set_cons_succ]
            refine till_out (i := 12) (by kernel_rfl) rfl (by kernel_rfl) (fun K hK => ?_)
            go_simp
            refine hK.out _ _ ?_
            clear hK K
            try simp only [List.setIfInBounds_toArray, List.set_cons_zero, List.set_cons_succ]
            refine till_out (i := 13) (by kernel_rfl) rfl (by kernel_rfl) (fun K hK => ?_)
            go_simp
            refine hK.out _ _ ?_
            clear hK K
            try simp only [List.setIfInBounds_toArray, List.set_cons_zero, List.set_cons_succ]
            refine till_done (by kernel_rfl) ?_ _
            have n7 := B7.noLimb
            have n8 := (B8.other (g' := g7) (Ne.symm hneg7g8) false none 0 0).noLimb
            obtain ⟨W8, hW8⟩ : ∃ W8, W8 = ((((wj.setCell ⟨g7, 0, none⟩ (.bool false)).setCell ⟨g7, 1, none⟩ (.slice none 0 0)).setCell ⟨g8, 0, none⟩ (.bool false)).setCell ⟨g8, 1, none⟩ (.slice none 0 0)) := ⟨_, rfl⟩
            rw [← hW8]
            have Bq : Box W8 g7 false none 0 0 := by rw [hW8]; exact (B7.put false none 0 0).other (g' := g8) hneg7g8 false none 0 0
            replace C0 : Box W8 (w.heap.size) false none 0 0 := by rw [hW8]; exact ((C0.later HW).other (g' := g7) (by omega) false none 0 0).other (g' := g8) (by omega) false none 0 0
            replace C1 : Box W8 (gm) b1 a1 l1 c1 := by rw [hW8]; exact ((C1.later HW).other (g' := g7) (by omega) false none 0 0).other (g' := g8) (by omega) false none 0 0
            replace hM : FK W8 b1 a1 l1 c1 (M : Int) l := by rw [hW8]; exact ((hM.later HW).put n7 false none 0 0).put n8 false none 0 0
            replace HB : Hid (Below w.heap.size w W8) := by rw [hW8]; exact below_put (below_put (Below.step (unhide HB) HW) (by omega) _ _ _ _) (by omega) _ _ _ _
            clear hW8 HW hHeld B7 B8 n7 n8 q1B7 q2B7 q3B7 q4B7 q1B8 q2B8 q3B8 q4B8
            go_wp2
            go_roundw
            case rel => exact ⟨i + 1, _, _, _, _, M, by omega, by go_num, C0, C1, hM, (unhide HF).skip (by rw [← unhide EZ]; exact h0), unhide HB⟩
            case measure => simp [intOf]; omega
          refine till_mid 4 #[true, true, true, true, true, true, true, true, true, false, true, false, false, false] (ι := Bool × Option Addr × Nat × Nat × Nat) (fun (b3, a3, l3, c3, g8) => (((((((act0.put (some 26) (.agg #[.bool b3, .slice a3 l3 c3])).put (some 28) (.tuple #[.agg #[.bool false, .slice none 0 0], .agg #[.bool false, .slice none 0 0], .bool false])).put (some 23) (.tuple #[.agg #[.bool false, .slice none 0 0], .agg #[.bool false, .slice none 0 0], .bool false])).put (some 29) (.agg #[.bool false, .slice none 0 0])).put (some 30) (.agg #[.bool false, .slice none 0 0])).put (some 31) (.bool false)).put (some 9) ((.pointer (some ⟨g8, 0, none⟩))))) (fun (b3, a3, l3, c3, g8) w => Below W2.heap.size W2 w ∧ Box w g8 false none 0 0 ∧ W2.heap.size ≤ g8) ?_ (fun J1 => ?_)
          · rintro ⟨b3, a3, l3, c3, g8⟩ wj hI
            try dsimp only at hI ⊢
            obtain ⟨HW, B8, hg8⟩ := hI
            have hHeld : wj.cell? ⟨wr.heap.size, 0, none⟩ = some (.bool b2) ∧ wj.cell? ⟨wr.heap.size, 1, none⟩ = some (.slice a2 l2 c2) := by exact ⟨(D0.later HW).facts.1, (D0.later HW).facts.2.1⟩
            rw [unhide HA]
            simp only [Act.put, List.setIfInBounds_toArray, List.set_cons_zero, List.set_cons_succ]
            refine till_in (i := 9) (by kernel_rfl) rfl (fun K hK => ?_)
            go_simp
            have hwk : W2.heap.size ≤ wj.heap.size := HW.size
            have hxg8 := B8.lt
            obtain ⟨wk, hWe⟩ : ∃ W', W' = wj.alloc (.cells #[.bool false, .slice none 0 0] 31) := ⟨_, rfl⟩
            obtain ⟨B7, hb9⟩ := boxes1 wj false none 0 0 hWe
            rw [← hWe]
            clear hWe
            replace HW := Below.step HW hb9
            replace B8 := B8.later hb9
            clear hb9
            have hg7 := hwk
            have hneg7g8 : wj.heap.size ≠ g8 := by omega
            refine hK.out _ _ ?_ (fun hHeld => ?_)
            · exact ⟨(D0.later HW).facts.1, (D0.later HW).facts.2.1⟩
            clear hK K
            try simp only [List.setIfInBounds_toArray, List.set_cons_zero, List.set_cons_succ]
            exact till_go J0 (b3, a3, l3, c3, wj.heap.size, g8) rfl (by kernel_rfl) (by (try dsimp only); rw [unhide HA]; simp only [Act.put, List.setIfInBounds_toArray, List.set_cons_zero, List.set_cons_succ]) (by (try dsimp only); exact ⟨HW, B7, hg7, B8, hg8, hneg7g8⟩)
          refine till_mid 4 #[true, true, true, true, true, true, true, true, true, true, false, false, false, false] (ι := Bool × Option Addr × Nat × Nat × Nat) (fun (b3, a3, l3, c3, g7) => (((((((act0.put (some 26) (.agg #[.bool b3, .slice a3 l3 c3])).put (some 28) (.tuple #[.agg #[.bool false, .slice none 0 0], .agg #[.bool false, .slice none 0 0], .bool false])).put (some 23) (.tuple #[.agg #[.bool false, .slice none 0 0], .agg #[.bool false, .slice none 0 0], .bool false])).put (some 29) (.agg #[.bool false, .slice none 0 0])).put (some 30) (.agg #[.bool false, .slice none 0 0])).put (some 31) (.bool false)).put (some 8) ((.pointer (some ⟨g7, 0, none⟩))))) (fun (b3, a3, l3, c3, g7) w => Below W2.heap.size W2 w ∧ Box w g7 false none 0 0 ∧ W2.heap.size ≤ g7) ?_ (fun J2 => ?_)
          · rintro ⟨b3, a3, l3, c3, g7⟩ wj hI
            try dsimp only at hI ⊢
            obtain ⟨HW, B7, hg7⟩ := hI
            have hHeld : wj.cell? ⟨wr.heap.size, 0, none⟩ = some (.bool b2) ∧ wj.cell? ⟨wr.heap.size, 1, none⟩ = some (.slice a2 l2 c2) := by exact ⟨(D0.later HW).facts.1, (D0.later HW).facts.2.1⟩
            rw [unhide HA]
            simp only [Act.put, List.setIfInBounds_toArray, List.set_cons_zero, List.set_cons_succ]
            refine till_in (i := 10) (by kernel_rfl) rfl (fun K hK => ?_)
            go_simp
            have hwk : W2.heap.size ≤ wj.heap.size := HW.size
            have hxg7 := B7.lt
            obtain ⟨wk, hWe⟩ : ∃ W', W' = wj.alloc (.cells #[.bool false, .slice none 0 0] 31) := ⟨_, rfl⟩
            obtain ⟨B8, hb9⟩ := boxes1 wj false none 0 0 hWe
            rw [← hWe]
            clear hWe
            replace HW := Below.step HW hb9
            replace B7 := B7.later hb9
            clear hb9
            have hg8 := hwk
            have hneg7g8 : g7 ≠ wj.heap.size := by omega
            refine hK.out _ _ ?_ (fun hHeld => ?_)
            · exact ⟨(D0.later HW).facts.1, (D0.later HW).facts.2.1⟩
            clear hK K
            try simp only [List.setIfInBounds_toArray, List.set_cons_zero, List.set_cons_succ]
            exact till_go J0 (b3, a3, l3, c3, g7, wj.heap.size) rfl (by kernel_rfl) (by (try dsimp only); rw [unhide HA]; simp only [Act.put, List.setIfInBounds_toArray, List.set_cons_zero, List.set_cons_succ]) (by (try dsimp only); exact ⟨HW, B7, hg7, B8, hg8, hneg7g8⟩)
          refine till_mid 5 #[true, true, true, true, true, true, true, true, true, false, false, false, false, false] (ι := Bool × Option Addr × Nat × Nat) (fun (b3, a3, l3, c3) => ((((((act0.put (some 26) (.agg #[.bool b3, .slice a3 l3 c3])).put (some 28) (.tuple #[.agg #[.bool false, .slice none 0 0], .agg #[.bool false, .slice none 0 0], .bool false])).put (some 23) (.tuple #[.agg #[.bool false, .slice none 0 0], .agg #[.bool false, .slice none 0 0], .bool false])).put (some 29) (.agg #[.bool false, .slice none 0 0])).put (some 30) (.agg #[.bool false, .slice none 0 0])).put (some 31) (.bool false))) (fun (b3, a3, l3, c3) w => Below W2.heap.size W2 w) ?_ (fun J3 => ?_)
          · rintro ⟨b3, a3, l3, c3⟩ wj hI
            try dsimp only at hI ⊢
            have HW := hI
            have hHeld : wj.cell? ⟨wr.heap.size, 0, none⟩ = some (.bool b2) ∧ wj.cell? ⟨wr.heap.size, 1, none⟩ = some (.slice a2 l2 c2) := by exact ⟨(D0.later HW).facts.1, (D0.later HW).facts.2.1⟩
            rw [unhide HA]
            simp only [Act.put, List.setIfInBounds_toArray, List.set_cons_zero, List.set_cons_succ]
            refine till_two (i := 9) (j := 10) (by kernel_rfl) rfl rfl (fun K hK => ?_) (fun K hK => ?_)
            · go_simp
              have hwk : W2.heap.size ≤ wj.heap.size := HW.size
              obtain ⟨wk, hWe⟩ : ∃ W', W' = wj.alloc (.cells #[.bool false, .slice none 0 0] 31) := ⟨_, rfl⟩
              obtain ⟨B7, hb9⟩ := boxes1 wj false none 0 0 hWe
              rw [← hWe]
              clear hWe
              replace HW := Below.step HW hb9
              clear hb9
              have hg7 := hwk
              refine hK.out _ _ ?_ (fun hHeld => ?_)
              · exact ⟨(D0.later HW).facts.1, (D0.later HW).facts.2.1⟩
              clear hK K
              try simp only [List.setIfInBounds_toArray, List.set_cons_zero, List.set_cons_succ]
              exact till_go J2 (b3, a3, l3, c3, wj.heap.size) rfl (by kernel_rfl) (by (try dsimp only); rw [unhide HA]; simp only [Act.put, List.setIfInBounds_toArray, List.set_cons_zero, List.set_cons_succ]) (by (try dsimp only); exact ⟨HW, B7, hg7⟩)
            · go_simp
              have hwk : W2.heap.size ≤ wj.heap.size := HW.size
              obtain ⟨wk, hWe⟩ : ∃ W', W' = wj.alloc (.cells #[.bool false, .slice none 0 0] 31) := ⟨_, rfl⟩
              obtain ⟨B8, hb9⟩ := boxes1 wj false none 0 0 hWe
              rw [← hWe]
              clear hWe
              replace HW := Below.step HW hb9
              clear hb9
              have hg8 := hwk
              refine hK.out _ _ ?_ (fun hHeld => ?_)
              · exact ⟨(D0.later HW).facts.1, (D0.later HW).facts.2.1⟩
              clear hK K
              try simp only [List.setIfInBounds_toArray, List.set_cons_zero, List.set_cons_succ]
              exact till_go J1 (b3, a3, l3, c3, wj.heap.size) rfl (by kernel_rfl) (by (try dsimp only); rw [unhide HA]; simp only [Act.put, List.setIfInBounds_toArray, List.set_cons_zero, List.set_cons_succ]) (by (try dsimp only); exact ⟨HW, B8, hg8⟩)
          refine till_mid 8 #[true, true, true, true, false, false, false, false, false, true, true, false, false, false] (ι := Bool × Option Addr × Nat × Nat × Nat × Nat) (fun (b3, a3, l3, c3, g7, g8) => (((act0.put (some 26) (.agg #[.bool b3, .slice a3 l3 c3])).put (some 8) ((.pointer (some ⟨g7, 0, none⟩)))).put (some 9) ((.pointer (some ⟨g8, 0, none⟩))))) (fun (b3, a3, l3, c3, g7, g8) w => Below W2.heap.size W2 w ∧ IK w b3 a3 l3 c3 (ys.getD i 0) l ∧ Box w g7 false none 0 0 ∧ W2.heap.size ≤ g7 ∧ Box w g8 false none 0 0 ∧ W2.heap.size ≤ g8 ∧ g7 ≠ g8) ?_ (fun J4 => ?_)
          · rintro ⟨b3, a3, l3, c3, g7, g8⟩ wj hI
            try dsimp only at hI ⊢
            obtain ⟨HW, h3, B7, hg7, B8, hg8, hneg7g8⟩ := hI
            have hHeld : wj.cell? ⟨wr.heap.size, 0, none⟩ = some (.bool b2) ∧ wj.cell? ⟨wr.heap.size, 1, none⟩ = some (.slice a2 l2 c2) := by exact ⟨(D0.later HW).facts.1, (D0.later HW).facts.2.1⟩
            rw [unhide HA]
            simp only [Act.put, List.setIfInBounds_toArray, List.set_cons_zero, List.set_cons_succ]
            refine till_in (i := 4) (by kernel_rfl) rfl (fun K hK => ?_)
            go_simp
            refine (quoN b3 a3 l3 c3 (ys.getD i 0) l b2 a2 l2 c2 k _ h3 (hy2.later HW)).mono ?_
            rintro e wk ⟨rfl, hb9⟩
            replace HW := Below.step HW hb9
            replace B7 := B7.later hb9
            replace B8 := B8.later hb9
            clear hb9 h3
            refine hK.out _ _ ?_ (fun hHeld => ?_)
            · exact ⟨(D0.later HW).facts.1, (D0.later HW).facts.2.1⟩
            clear hK K
            try simp only [List.setIfInBounds_toArray, List.set_cons_zero, List.set_cons_succ]
            refine till_free (i := 5) (v := ?_) rfl (by kernel_rfl) (by kernel_rfl) (by kernel_rfl) (by kernel_rfl) (fun _ _ _ h => h) (Or.inl ⟨by rfl, ?_⟩) (by assumption) ?_
            rotate_left
            · (intro wx hSw; (try dsimp only at hSw); go_simp; (try rw [if_neg (by omega)]); try with_reducible rfl)
            simp only [Act.put, List.getElem_toArray, List.getElem_cons_succ, List.getElem_cons_zero, List.setIfInBounds_toArray, List.set_cons_zero, List.set_cons_succ]
            refine till_free (i := 6) (v := ?_) rfl (by kernel_rfl) (by kernel_rfl) (by kernel_rfl) (by kernel_rfl) (fun _ _ _ h => h) (Or.inl ⟨by rfl, ?_⟩) (by assumption) ?_
            rotate_left
            · (intro wx hSw; (try dsimp only at hSw); go_simp; (try rw [if_neg (by omega)]); try with_reducible rfl)
            simp only [Act.put, List.getElem_toArray, List.getElem_cons_succ, List.getElem_cons_zero, List.setIfInBounds_toArray, List.set_cons_zero, List.set_cons_succ]
            refine till_free (i := 7) (v := ?_) rfl (by kernel_rfl) (by kernel_rfl) (by kernel_rfl) (by kernel_rfl) (fun _ _ _ h => h) (Or.inl ⟨by rfl, ?_⟩) (by assumption) ?_
            rotate_left
            · (intro wx hSw; (try dsimp only at hSw); go_simp; (try rw [if_neg (by omega)]); try with_reducible rfl)
            simp only [Act.put, List.getElem_toArray, List.getElem_cons_succ, List.getElem_cons_zero, List.setIfInBounds_toArray, List.set_cons_zero, List.set_cons_succ]
            refine till_free (i := 8) (v := ?_) rfl (by kernel_rfl) (by kernel_rfl) (by kernel_rfl) (by kernel_rfl) (fun _ _ _ h => h) (Or.inl ⟨by rfl, ?_⟩) (by assumption) ?_
            rotate_left
            · (intro wx hSw; (try dsimp only at hSw); go_simp; (try rw [if_neg (by omega)]); try with_reducible rfl)
            simp only [Act.put, List.getElem_toArray, List.getElem_cons_succ, List.getElem_cons_zero, List.setIfInBounds_toArray, List.set_cons_zero, List.set_cons_succ]
            exact till_go J0 (b3, a3, l3, c3, g7, g8) rfl (by kernel_rfl) (by (try dsimp only); rw [unhide HA]; simp only [Act.put, List.setIfInBounds_toArray, List.set_cons_zero, List.set_cons_succ]) (by (try dsimp only); exact ⟨HW, B7, hg7, B8, hg8, hneg7g8⟩)
          refine till_mid 9 #[true, true, false, true, false, false, false, false, false, true, true, false, false, false] (ι := Nat × Nat) (fun (g7, g8) => ((act0.put (some 8) ((.pointer (some ⟨g7, 0, none⟩)))).put (some 9) ((.pointer (some ⟨g8, 0, none⟩))))) (fun (g7, g8) w => Below W2.heap.size W2 w ∧ Box w g7 false none 0 0 ∧ W2.heap.size ≤ g7 ∧ Box w g8 false none 0 0 ∧ W2.heap.size ≤ g8 ∧ g7 ≠ g8) ?_ (fun J5 => ?_)
          · rintro ⟨g7, g8⟩ wj hI
            try dsimp only at hI ⊢
            obtain ⟨HW, B7, hg7, B8, hg8, hneg7g8⟩ := hI
            have hHeld : wj.cell? ⟨wr.heap.size, 0, none⟩ = some (.bool b2) ∧ wj.cell? ⟨wr.heap.size, 1, none⟩ = some (.slice a2 l2 c2) := by exact ⟨(D0.later HW).facts.1, (D0.later HW).facts.2.1⟩
            rw [unhide HA]
            simp only [Act.put, List.setIfInBounds_toArray, List.set_cons_zero, List.set_cons_succ]
            refine till_in (i := 2) (by kernel_rfl) rfl (fun K hK => ?_)
            go_simp
            refine (satK ao' n' cap' ys l i _ ((h'.later (unhide HB)).later HW) hl (by omega)).mono ?_
            rintro e wk ⟨b3, a3, l3, c3, rfl, h3, hb9⟩
            replace HW := Below.step HW hb9
            replace B7 := B7.later hb9
            replace B8 := B8.later hb9
            clear hb9
            refine hK.out _ _ ?_ (fun hHeld => ?_)
            · exact ⟨(D0.later HW).facts.1, (D0.later HW).facts.2.1⟩
            clear hK K
            try simp only [List.setIfInBounds_toArray, List.set_cons_zero, List.set_cons_succ]
            exact till_go J4 (b3, a3, l3, c3, g7, g8) rfl (by kernel_rfl) (by (try dsimp only); rw [unhide HA]; simp only [Act.put, List.setIfInBounds_toArray, List.set_cons_zero, List.set_cons_succ]) (by (try dsimp only); exact ⟨HW, h3, B7, hg7, B8, hg8, hneg7g8⟩)
          refine till_mid 9 #[true, true, true, true, false, false, false, false, false, false, true, false, false, false] (ι := Bool × Option Addr × Nat × Nat × Nat) (fun (b3, a3, l3, c3, g8) => ((act0.put (some 26) (.agg #[.bool b3, .slice a3 l3 c3])).put (some 9) ((.pointer (some ⟨g8, 0, none⟩))))) (fun (b3, a3, l3, c3, g8) w => Below W2.heap.size W2 w ∧ IK w b3 a3 l3 c3 (ys.getD i 0) l ∧ Box w g8 false none 0 0 ∧ W2.heap.size ≤ g8) ?_ (fun J6 => ?_)
          · rintro ⟨b3, a3, l3, c3, g8⟩ wj hI
            try dsimp only at hI ⊢
            obtain ⟨HW, h3, B8, hg8⟩ := hI
            have hHeld : wj.cell? ⟨wr.heap.size, 0, none⟩ = some (.bool b2) ∧ wj.cell? ⟨wr.heap.size, 1, none⟩ = some (.slice a2 l2 c2) := by exact ⟨(D0.later HW).facts.1, (D0.later HW).facts.2.1⟩
            rw [unhide HA]
            simp only [Act.put, List.setIfInBounds_toArray, List.set_cons_zero, List.set_cons_succ]
            refine till_two (i := 4) (j := 9) (by kernel_rfl) rfl rfl (fun K hK => ?_) (fun K hK => ?_)
            · go_simp
              refine (quoN b3 a3 l3 c3 (ys.getD i 0) l b2 a2 l2 c2 k _ h3 (hy2.later HW)).mono ?_
              rintro e wk ⟨rfl, hb9⟩
              replace HW := Below.step HW hb9
              replace B8 := B8.later hb9
              clear hb9 h3
              refine hK.out _ _ ?_ (fun hHeld => ?_)
              · exact ⟨(D0.later HW).facts.1, (D0.later HW).facts.2.1⟩
              clear hK K
              try simp only [List.setIfInBounds_toArray, List.set_cons_zero, List.set_cons_succ]
              refine till_free (i := 5) (v := ?_) rfl (by kernel_rfl) (by kernel_rfl) (by kernel_rfl) (by kernel_rfl) (fun _ _ _ h => h) (Or.inl ⟨by rfl, ?_⟩) (by assumption) ?_
              rotate_left
              · (intro wx hSw; (try dsimp only at hSw); go_simp; (try rw [if_neg (by omega)]); try with_reducible rfl)
              simp only [Act.put, List.getElem_toArray, List.getElem_cons_succ, List.getElem_cons_zero, List.setIfInBounds_toArray, List.set_cons_zero, List.set_cons_succ]
              refine till_free (i := 6) (v := ?_) rfl (by kernel_rfl) (by kernel_rfl) (by kernel_rfl) (by kernel_rfl) (fun _ _ _ h => h) (Or.inl ⟨by rfl, ?_⟩) (by assumption) ?_
              rotate_left
              · (intro wx hSw; (try dsimp only at hSw); go_simp; (try rw [if_neg (by omega)]); try with_reducible rfl)
              simp only [Act.put, List.getElem_toArray, List.getElem_cons_succ, List.getElem_cons_zero, List.setIfInBounds_toArray, List.set_cons_zero, List.set_cons_succ]
              refine till_free (i := 7) (v := ?_) rfl (by kernel_rfl) (by kernel_rfl) (by kernel_rfl) (by kernel_rfl) (fun _ _ _ h => h) (Or.inl ⟨by rfl, ?_⟩) (by assumption) ?_
              rotate_left
              · (intro wx hSw; (try dsimp only at hSw); go_simp; (try rw [if_neg (by omega)]); try with_reducible rfl)
              simp only [Act.put, List.getElem_toArray, List.getElem_cons_succ, List.getElem_cons_zero, List.setIfInBounds_toArray, List.set_cons_zero, List.set_cons_succ]
              refine till_free (i := 8) (v := ?_) rfl (by kernel_rfl) (by kernel_rfl) (by kernel_rfl) (by kernel_rfl) (fun _ _ _ h => h) (Or.inl ⟨by rfl, ?_⟩) (by assumption) ?_
              rotate_left
              · (intro wx hSw; (try dsimp only at hSw); go_simp; (try rw [if_neg (by omega)]); try with_reducible rfl)
              simp only [Act.put, List.getElem_toArray, List.getElem_cons_succ, List.getElem_cons_zero, List.setIfInBounds_toArray, List.set_cons_zero, List.set_cons_succ]
              exact till_go J1 (b3, a3, l3, c3, g8) rfl (by kernel_rfl) (by (try dsimp only); rw [unhide HA]; simp only [Act.put, List.setIfInBounds_toArray, List.set_cons_zero, List.set_cons_succ]) (by (try dsimp only); exact ⟨HW, B8, hg8⟩)
            · go_simp
              have hwk : W2.heap.size ≤ wj.heap.size := HW.size
              have hxg8 := B8.lt
              obtain ⟨wk, hWe⟩ : ∃ W', W' = wj.alloc (.cells #[.bool false, .slice none 0 0] 31) := ⟨_, rfl⟩
              obtain ⟨B7, hb9⟩ := boxes1 wj false none 0 0 hWe
              rw [← hWe]
              clear hWe
              replace HW := Below.step HW hb9
              replace h3 := h3.later hb9
              replace B8 := B8.later hb9
              clear hb9
              have hg7 := hwk
              have hneg7g8 : wj.heap.size ≠ g8 := by omega
              refine hK.out _ _ ?_ (fun hHeld => ?_)
              · exact ⟨(D0.later HW).facts.1, (D0.later HW).facts.2.1⟩
              clear hK K
              try simp only [List.setIfInBounds_toArray, List.set_cons_zero, List.set_cons_succ]
              exact till_go J4 (b3, a3, l3, c3, wj.heap.size, g8) rfl (by kernel_rfl) (by (try dsimp only); rw [unhide HA]; simp only [Act.put, List.setIfInBounds_toArray, List.set_cons_zero, List.set_cons_succ]) (by (try dsimp only); exact ⟨HW, h3, B7, hg7, B8, hg8, hneg7g8⟩)
          refine till_mid 9 #[true, true, true, true, false, false, false, false, false, true, false, false, false, false] (ι := Bool × Option Addr × Nat × Nat × Nat) (fun (b3, a3, l3, c3, g7) => ((act0.put (some 26) (.agg #[.bool b3, .slice a3 l3 c3])).put (some 8) ((.pointer (some ⟨g7, 0, none⟩))))) (fun (b3, a3, l3, c3, g7) w => Below W2.heap.size W2 w ∧ IK w b3 a3 l3 c3 (ys.getD i 0) l ∧ Box w g7 false none 0 0 ∧ W2.heap.size ≤ g7) ?_ (fun J7 => ?_)
          · rintro ⟨b3, a3, l3, c3, g7⟩ wj hI
            try dsimp only at hI ⊢
            obtain ⟨HW, h3, B7, hg7⟩ := hI
            have hHeld : wj.cell? ⟨wr.heap.size, 0, none⟩ = some (.bool b2) ∧ wj.cell? ⟨wr.heap.size, 1, none⟩ = some (.slice a2 l2 c2) := by exact ⟨(D0.later HW).facts.1, (D0.later HW).facts.2.1⟩
            rw [unhide HA]
            simp only [Act.put, List.setIfInBounds_toArray, List.set_cons_zero, List.set_cons_succ]
            refine till_two (i := 4) (j := 10) (by kernel_rfl) rfl rfl (fun K hK => ?_) (fun K hK => ?_)
            · go_simp
              refine (quoN b3 a3 l3 c3 (ys.getD i 0) l b2 a2 l2 c2 k _ h3 (hy2.later HW)).mono ?_
              rintro e wk ⟨rfl, hb9⟩
              replace HW := Below.step HW hb9
              replace B7 := B7.later hb9
              clear hb9 h3
              refine hK.out _ _ ?_ (fun hHeld => ?_)
              · exact ⟨(D0.later HW).facts.1, (D0.later HW).facts.2.1⟩
              clear hK K
              try simp only [List.setIfInBounds_toArray, List.set_cons_zero, List.set_cons_succ]
              refine till_free (i := 5) (v := ?_) rfl (by kernel_rfl) (by kernel_rfl) (by kernel_rfl) (by kernel_rfl) (fun _ _ _ h => h) (Or.inl ⟨by rfl, ?_⟩) (by assumption) ?_
              rotate_left
              · (intro wx hSw; (try dsimp only at hSw); go_simp; (try rw [if_neg (by omega)]); try with_reducible rfl)
              simp only [Act.put, List.getElem_toArray, List.getElem_cons_succ, List.getElem_cons_zero, List.setIfInBounds_toArray, List.set_cons_zero, List.set_cons_succ]
              refine till_free (i := 6) (v := ?_) rfl (by kernel_rfl) (by kernel_rfl) (by kernel_rfl) (by kernel_rfl) (fun _ _ _ h => h) (Or.inl ⟨by rfl, ?_⟩) (by assumption) ?_
              rotate_left
              · (intro wx hSw; (try dsimp only at hSw); go_simp; (try rw [if_neg (by omega)]); try with_reducible rfl)
              simp only [Act.put, List.getElem_toArray, List.getElem_cons_succ, List.getElem_cons_zero, List.setIfInBounds_toArray, List.set_cons_zero, List.set_cons_succ]
              refine till_free (i := 7) (v := ?_) rfl (by kernel_rfl) (by kernel_rfl) (by kernel_rfl) (by kernel_rfl) (fun _ _ _ h => h) (Or.inl ⟨by rfl, ?_⟩) (by assumption) ?_
              rotate_left
              · (intro wx hSw; (try dsimp only at hSw); go_simp; (try rw [if_neg (by omega)]); try with_reducible rfl)
              simp only [Act.put, List.getElem_toArray, List.getElem_cons_succ, List.getElem_cons_zero, List.setIfInBounds_toArray, List.set_cons_zero, List.set_cons_succ]
              refine till_free (i := 8) (v := ?_) rfl (by kernel_rfl) (by kernel_rfl) (by kernel_rfl) (by kernel_rfl) (fun _ _ _ h => h) (Or.inl ⟨by rfl, ?_⟩) (by assumption) ?_
              rotate_left
              · (intro wx hSw; (try dsimp only at hSw); go_simp; (try rw [if_neg (by omega)]); try with_reducible rfl)
              simp only [Act.put, List.getElem_toArray, List.getElem_cons_succ, List.getElem_cons_zero, List.setIfInBounds_toArray, List.set_cons_zero, List.set_cons_succ]
              exact till_go J2 (b3, a3, l3, c3, g7) rfl (by kernel_rfl) (by (try dsimp only); rw [unhide HA]; simp only [Act.put, List.setIfInBounds_toArray, List.set_cons_zero, List.set_cons_succ]) (by (try dsimp only); exact ⟨HW, B7, hg7⟩)
            · go_simp
              have hwk : W2.heap.size ≤ wj.heap.size := HW.size
              have hxg7 := B7.lt
              obtain ⟨wk, hWe⟩ : ∃ W', W' = wj.alloc (.cells #[.bool false, .slice none 0 0] 31) := ⟨_, rfl⟩
              obtain ⟨B8, hb9⟩ := boxes1 wj false none 0 0 hWe
              rw [← hWe]
              clear hWe
              replace HW := Below.step HW hb9
              replace h3 := h3.later hb9
              replace B7 := B7.later hb9
              clear hb9
              have hg8 := hwk
              have hneg7g8 : g7 ≠ wj.heap.size := by omega
              refine hK.out _ _ ?_ (fun hHeld => ?_)
              · exact ⟨(D0.later HW).facts.1, (D0.later HW).facts.2.1⟩
              clear hK K
              try simp only [List.setIfInBounds_toArray, List.set_cons_zero, List.set_cons_succ]
              exact till_go J4 (b3, a3, l3, c3, g7, wj.heap.size) rfl (by kernel_rfl) (by (try dsimp only); rw [unhide HA]; simp only [Act.put, List.setIfInBounds_toArray, List.set_cons_zero, List.set_cons_succ]) (by (try dsimp only); exact ⟨HW, h3, B7, hg7, B8, hg8, hneg7g8⟩)
          refine till_mid 10 #[true, true, false, true, false, false, false, false, false, false, true, false, false, false] (ι := Nat) (fun g8 => (act0.put (some 9) ((.pointer (some ⟨g8, 0, none⟩))))) (fun g8 w => Below W2.heap.size W2 w ∧ Box w g8 false none 0 0 ∧ W2.heap.size ≤ g8) ?_ (fun J8 => ?_)
          · rintro g8 wj hI
            try dsimp only at hI ⊢
            obtain ⟨HW, B8, hg8⟩ := hI
            have hHeld : wj.cell? ⟨wr.heap.size, 0, none⟩ = some (.bool b2) ∧ wj.cell? ⟨wr.heap.size, 1, none⟩ = some (.slice a2 l2 c2) := by exact ⟨(D0.later HW).facts.1, (D0.later HW).facts.2.1⟩
            rw [unhide HA]
            simp only [Act.put, List.setIfInBounds_toArray, List.set_cons_zero, List.set_cons_succ]
            refine till_two (i := 2) (j := 9) (by kernel_rfl) rfl rfl (fun K hK => ?_) (fun K hK => ?_)
            · go_simp
              refine (satK ao' n' cap' ys l i _ ((h'.later (unhide HB)).later HW) hl (by omega)).mono ?_
              rintro e wk ⟨b3, a3, l3, c3, rfl, h3, hb9⟩
              replace HW := Below.step HW hb9
              replace B8 := B8.later hb9
              clear hb9
              refine hK.out _ _ ?_ (fun hHeld => ?_)
              · exact ⟨(D0.later HW).facts.1, (D0.later HW).facts.2.1⟩
              clear hK K
              try simp only [List.setIfInBounds_toArray, List.set_cons_zero, List.set_cons_succ]
              exact till_go J6 (b3, a3, l3, c3, g8) rfl (by kernel_rfl) (by (try dsimp only); rw [unhide HA]; simp only [Act.put, List.setIfInBounds_toArray, List.set_cons_zero, List.set_cons_succ]) (by (try dsimp only); exact ⟨HW, h3, B8, hg8⟩)
            · go_simp
              have hwk : W2.heap.size ≤ wj.heap.size := HW.size
              have hxg8 := B8.lt
              obtain ⟨wk, hWe⟩ : ∃ W', W' = wj.alloc (.cells #[.bool false, .slice none 0 0] 31) := ⟨_, rfl⟩
              obtain ⟨B7, hb9⟩ := boxes1 wj false none 0 0 hWe
              rw [← hWe]
              clear hWe
              replace HW := Below.step HW hb9
              replace B8 := B8.later hb9
              clear hb9
              have hg7 := hwk
              have hneg7g8 : wj.heap.size ≠ g8 := by omega
              refine hK.out _ _ ?_ (fun hHeld => ?_)
              · exact ⟨(D0.later HW).facts.1, (D0.later HW).facts.2.1⟩
              clear hK K
              try simp only [List.setIfInBounds_toArray, List.set_cons_zero, List.set_cons_succ]
              exact till_go J5 (wj.heap.size, g8) rfl (by kernel_rfl) (by (try dsimp only); rw [unhide HA]; simp only [Act.put, List.setIfInBounds_toArray, List.set_cons_zero, List.set_cons_succ]) (by (try dsimp only); exact ⟨HW, B7, hg7, B8, hg8, hneg7g8⟩)
          refine till_mid 10 #[true, true, false, true, false, false, false, false, false, true, false, false, false, false] (ι := Nat) (fun g7 => (act0.put (some 8) ((.pointer (some ⟨g7, 0, none⟩))))) (fun g7 w => Below W2.heap.size W2 w ∧ Box w g7 false none 0 0 ∧ W2.heap.size ≤ g7) ?_ (fun J9 => ?_)
          · rintro g7 wj hI
            try dsimp only at hI ⊢
            obtain ⟨HW, B7, hg7⟩ := hI
            have hHeld : wj.cell? ⟨wr.heap.size, 0, none⟩ = some (.bool b2) ∧ wj.cell? ⟨wr.heap.size, 1, none⟩ = some (.slice a2 l2 c2) := by exact ⟨(D0.later HW).facts.1, (D0.later HW).facts.2.1⟩
            rw [unhide HA]
            simp only [Act.put, List.setIfInBounds_toArray, List.set_cons_zero, List.set_cons_succ]
            refine till_two (i := 2) (j := 10) (by kernel_rfl) rfl rfl (fun K hK => ?_) (fun K hK => ?_)
            · go_simp
              refine (satK ao' n' cap' ys l i _ ((h'.later (unhide HB)).later HW) hl (by omega)).mono ?_
              rintro e wk ⟨b3, a3, l3, c3, rfl, h3, hb9⟩
              replace HW := Below.step HW hb9
              replace B7 := B7.later hb9
              clear hb9
              refine hK.out _ _ ?_ (fun hHeld => ?_)
              · exact ⟨(D0.later HW).facts.1, (D0.later HW).facts.2.1⟩
              clear hK K
              try simp only [List.setIfInBounds_toArray, List.set_cons_zero, List.set_cons_succ]
              exact till_go J7 (b3, a3, l3, c3, g7) rfl (by kernel_rfl) (by (try dsimp only); rw [unhide HA]; simp only [Act.put, List.setIfInBounds_toArray, List.set_cons_zero, List.set_cons_succ]) (by (try dsimp only); exact ⟨HW, h3, B7, hg7⟩)
            · go_simp
              have hwk : W2.heap.size ≤ wj.heap.size := HW.size
              have hxg7 := B7.lt
              obtain ⟨wk, hWe⟩ : ∃ W', W' = wj.alloc (.cells #[.bool false, .slice none 0 0] 31) := ⟨_, rfl⟩
              obtain ⟨B8, hb9⟩ := boxes1 wj false none 0 0 hWe
              rw [← hWe]
              clear hWe
              replace HW := Below.step HW hb9
              replace B7 := B7.later hb9
              clear hb9
              have hg8 := hwk
              have hneg7g8 : g7 ≠ wj.heap.size := by omega
              refine hK.out _ _ ?_ (fun hHeld => ?_)
              · exact ⟨(D0.later HW).facts.1, (D0.later HW).facts.2.1⟩
              clear hK K
              try simp only [List.setIfInBounds_toArray, List.set_cons_zero, List.set_cons_succ]
              exact till_go J5 (g7, wj.heap.size) rfl (by kernel_rfl) (by (try dsimp only); rw [unhide HA]; simp only [Act.put, List.setIfInBounds_toArray, List.set_cons_zero, List.set_cons_succ]) (by (try dsimp only); exact ⟨HW, B7, hg7, B8, hg8, hneg7g8⟩)
          refine till_mid 10 #[true, true, true, true, false, false, false, false, false, false, false, false, false, false] (ι := Bool × Option Addr × Nat × Nat) (fun (b3, a3, l3, c3) => (act0.put (some 26) (.agg #[.bool b3, .slice a3 l3 c3]))) (fun (b3, a3, l3, c3) w => Below W2.heap.size W2 w ∧ IK w b3 a3 l3 c3 (ys.getD i 0) l) ?_ (fun J10 => ?_)
          · rintro ⟨b3, a3, l3, c3⟩ wj hI
            try dsimp only at hI ⊢
            obtain ⟨HW, h3⟩ := hI
            have hHeld : wj.cell? ⟨wr.heap.size, 0, none⟩ = some (.bool b2) ∧ wj.cell? ⟨wr.heap.size, 1, none⟩ = some (.slice a2 l2 c2) := by exact ⟨(D0.later HW).facts.1, (D0.later HW).facts.2.1⟩
            rw [unhide HA]
            simp only [Act.put, List.setIfInBounds_toArray, List.set_cons_zero, List.set_cons_succ]
            refine till_three (i := 4) (j := 9) (k := 10) (by kernel_rfl) rfl rfl rfl (fun K hK => ?_) (fun K hK => ?_) (fun K hK => ?_)
            · go_simp
              refine (quoN b3 a3 l3 c3 (ys.getD i 0) l b2 a2 l2 c2 k _ h3 (hy2.later HW)).mono ?_
              rintro e wk ⟨rfl, hb9⟩
              replace HW := Below.step HW hb9
              clear hb9 h3
              refine hK.out _ _ ?_ (fun hHeld => ?_)
              · exact ⟨(D0.later HW).facts.1, (D0.later HW).facts.2.1⟩
              clear hK K
              try simp only [List.setIfInBounds_toArray, List.set_cons_zero, List.set_cons_succ]
              refine till_free (i := 5) (v := ?_) rfl (by kernel_rfl) (by kernel_rfl) (by kernel_rfl) (by kernel_rfl) (fun _ _ _ h => h) (Or.inl ⟨by rfl, ?_⟩) (by assumption) ?_
              rotate_left
              · (intro wx hSw; (try dsimp only at hSw); go_simp; (try rw [if_neg (by omega)]); try with_reducible rfl)
              simp only [Act.put, List.getElem_toArray, List.getElem_cons_succ, List.getElem_cons_zero, List.setIfInBounds_toArray, List.set_cons_zero, List.set_cons_succ]
              refine till_free (i := 6) (v := ?_) rfl (by kernel_rfl) (by kernel_rfl) (by kernel_rfl) (by kernel_rfl) (fun _ _ _ h => h) (Or.inl ⟨by rfl, ?_⟩) (by assumption) ?_
              rotate_left
              · (intro wx hSw; (try dsimp only at hSw); go_simp; (try rw [if_neg (by omega)]); try with_reducible rfl)
              simp only [Act.put, List.getElem_toArray, List.getElem_cons_succ, List.getElem_cons_zero, List.setIfInBounds_toArray, List.set_cons_zero, List.set_cons_succ]
              refine till_free (i := 7) (v := ?_) rfl (by kernel_rfl) (by kernel_rfl) (by kernel_rfl) (by kernel_rfl) (fun _ _ _ h => h) (Or.inl ⟨by rfl, ?_⟩) (by assumption) ?_
              rotate_left
              · (intro wx hSw; (try dsimp only at hSw); go_simp; (try rw [if_neg (by omega)]); try with_reducible rfl)
              simp only [Act.put, List.getElem_toArray, List.getElem_cons_succ, List.getElem_cons_zero, List.setIfInBounds_toArray, List.set_cons_zero, List.set_cons_succ]
              refine till_free (i := 8) (v := ?_) rfl (by kernel_rfl) (by kernel_rfl) (by kernel_rfl) (by kernel_rfl) (fun _ _ _ h => h) (Or.inl ⟨by rfl, ?_⟩) (by assumption) ?_
              rotate_left
              · (intro wx hSw; (try dsimp only at hSw); go_simp; (try rw [if_neg (by omega)]); try with_reducible rfl)
              simp only [Act.put, List.getElem_toArray, List.getElem_cons_succ, List.getElem_cons_zero, List.setIfInBounds_toArray, List.set_cons_zero, List.set_cons_succ]
              exact till_go J3 (b3, a3, l3, c3) rfl (by kernel_rfl) (by (try dsimp only); rw [unhide HA]; simp only [Act.put, List.setIfInBounds_toArray, List.set_cons_zero, List.set_cons_succ]) (by (try dsimp only); exact HW)
            · go_simp
              have hwk : W2.heap.size ≤ wj.heap.size := HW.size
              obtain ⟨wk, hWe⟩ : ∃ W', W' = wj.alloc (.cells #[.bool false, .slice none 0 0] 31) := ⟨_, rfl⟩
              obtain ⟨B7, hb9⟩ := boxes1 wj false none 0 0 hWe
              rw [← hWe]
              clear hWe
              replace HW := Below.step HW hb9
              replace h3 := h3.later hb9
              clear hb9
              have hg7 := hwk
              refine hK.out _ _ ?_ (fun hHeld => ?_)
              · exact ⟨(D0.later HW).facts.1, (D0.later HW).facts.2.1⟩
              clear hK K
              try simp only [List.setIfInBounds_toArray, List.set_cons_zero, List.set_cons_succ]
              exact till_go J7 (b3, a3, l3, c3, wj.heap.size) rfl (by kernel_rfl) (by (try dsimp only); rw [unhide HA]; simp only [Act.put, List.setIfInBounds_toArray, List.set_cons_zero, List.set_cons_succ]) (by (try dsimp only); exact ⟨HW, h3, B7, hg7⟩)
            · go_simp
              have hwk : W2.heap.size ≤ wj.heap.size := HW.size
              obtain ⟨wk, hWe⟩ : ∃ W', W' = wj.alloc (.cells #[.bool false, .slice none 0 0] 31) := ⟨_, rfl⟩
              obtain ⟨B8, hb9⟩ := boxes1 wj false none 0 0 hWe
              rw [← hWe]
              clear hWe
              replace HW := Below.step HW hb9
              replace h3 := h3.later hb9
              clear hb9
              have hg8 := hwk
              refine hK.out _ _ ?_ (fun hHeld => ?_)
              · exact ⟨(D0.later HW).facts.1, (D0.later HW).facts.2.1⟩
              clear hK K
              try simp only [List.setIfInBounds_toArray, List.set_cons_zero, List.set_cons_succ]
              exact till_go J6 (b3, a3, l3, c3, wj.heap.size) rfl (by kernel_rfl) (by (try dsimp only); rw [unhide HA]; simp only [Act.put, List.setIfInBounds_toArray, List.set_cons_zero, List.set_cons_succ]) (by (try dsimp only); exact ⟨HW, h3, B8, hg8⟩)
          rw [unhide HA]
          refine till_three (i := 2) (j := 9) (k := 10) (by kernel_rfl) rfl rfl rfl (fun K hK => ?_) (fun K hK => ?_) (fun K hK => ?_)
          · go_simp
            refine (satK ao' n' cap' ys l i _ ((h'.later (unhide HB)).later HW) hl (by omega)).mono ?_
            rintro e wk ⟨b3, a3, l3, c3, rfl, h3, hb9⟩
            replace HW := Below.step HW hb9
            clear hb9
            refine hK.out _ _ ?_ (fun hHeld => ?_)
            · exact ⟨(D0.later HW).facts.1, (D0.later HW).facts.2.1⟩
            clear hK K
            try simp only [List.setIfInBounds_toArray, List.set_cons_zero, List.set_cons_succ]
            exact till_go J10 (b3, a3, l3, c3) rfl (by kernel_rfl) (by (try dsimp only); rw [unhide HA]; simp only [Act.put, List.setIfInBounds_toArray, List.set_cons_zero, List.set_cons_succ]) (by (try dsimp only); exact ⟨HW, h3⟩)
          · go_simp
            have hwk : W2.heap.size ≤ vd1.heap.size := HW.size
            obtain ⟨wk, hWe⟩ : ∃ W', W' = vd1.alloc (.cells #[.bool false, .slice none 0 0] 31) := ⟨_, rfl⟩
            obtain ⟨B7, hb9⟩ := boxes1 vd1 false none 0 0 hWe
            rw [← hWe]
            clear hWe
            replace HW := Below.step HW hb9
            clear hb9
            have hg7 := hwk
            refine hK.out _ _ ?_ (fun hHeld => ?_)
            · exact ⟨(D0.later HW).facts.1, (D0.later HW).facts.2.1⟩
            clear hK K
            try simp only [List.setIfInBounds_toArray, List.set_cons_zero, List.set_cons_succ]
            exact till_go J9 vd1.heap.size rfl (by kernel_rfl) (by (try dsimp only); rw [unhide HA]; simp only [Act.put, List.setIfInBounds_toArray, List.set_cons_zero, List.set_cons_succ]) (by (try dsimp only); exact ⟨HW, B7, hg7⟩)
          · go_simp
            have hwk : W2.heap.size ≤ vd1.heap.size := HW.size
            obtain ⟨wk, hWe⟩ : ∃ W', W' = vd1.alloc (.cells #[.bool false, .slice none 0 0] 31) := ⟨_, rfl⟩
            obtain ⟨B8, hb9⟩ := boxes1 vd1 false none 0 0 hWe
            rw [← hWe]
            clear hWe
            replace HW := Below.step HW hb9
            clear hb9
            have hg8 := hwk
            refine hK.out _ _ ?_ (fun hHeld => ?_)
            · exact ⟨(D0.later HW).facts.1, (D0.later HW).facts.2.1⟩
            clear hK K
            try simp only [List.setIfInBounds_toArray, List.set_cons_zero, List.set_cons_succ]
            exact till_go J8 vd1.heap.size rfl (by kernel_rfl) (by (try dsimp only); rw [unhide HA]; simp only [Act.put, List.setIfInBounds_toArray, List.set_cons_zero, List.set_cons_succ]) (by (try dsimp only); exact ⟨HW, B8, hg8⟩)
        · have hne : zs.getD i 0 ≠ 0 := by rw [← unhide EZ]; exact h0
          obtain ⟨Q, hQ⟩ : ∃ Q, Q = (ys.getD i 0).natAbs / (zs.getD i 0).natAbs := ⟨_, rfl⟩
          have eq := quo_nat (unhide HZ) hne
          rw [← hQ] at eq
          have HQ := hide (And.intro hQ eq.2)
          have EQ := hide (show (ys.getD i 0).tdiv z = (Q : Int) by rw [unhide EZ]; exact eq.1)
          have H0 := hide h0
          clear hne hQ eq
          have HW : Below W2.heap.size W2 W2.drew := (Below.refl _ _).drew
          refine till_start (fun w' => w'.cell? ⟨wr.heap.size, 0, none⟩ = some (.bool b2) ∧ w'.cell? ⟨wr.heap.size, 1, none⟩ = some (.slice a2 l2 c2)) 11 (by kernel_rfl) ?_ (fun hHeld => ?_)
          · exact ⟨(D0.later HW).facts.1, (D0.later HW).facts.2.1⟩
          obtain ⟨vd1, hvd⟩ : ∃ v, v = W2.drew := ⟨_, rfl⟩
          rw [← hvd] at HW hHeld ⊢
          clear hvd
          refine till_free (i := 0) (v := ?_) rfl (by kernel_rfl) (by kernel_rfl) (by kernel_rfl) (by kernel_rfl) (fun _ _ _ h => h) (Or.inl ⟨by rfl, ?_⟩) (by assumption) ?_
          rotate_left
          · (intro wx hSw; (try dsimp only at hSw); go_simp; (try rw [if_neg (by omega)]); try with_reducible rfl)
          simp only [Act.put, List.getElem_toArray, List.getElem_cons_zero, List.setIfInBounds_toArray, List.set_cons_zero, List.set_cons_succ]
          refine till_free (i := 1) (v := ?_) rfl (by kernel_rfl) (by kernel_rfl) (by kernel_rfl) (by kernel_rfl) (fun _ _ _ h => h) (Or.inl ⟨by rfl, ?_⟩) (by assumption) ?_
          rotate_left
          · (intro wx hSw; (try dsimp only at hSw); go_simp; (try rw [if_neg (by omega)]); try with_reducible rfl)
          simp only [Act.put, List.getElem_toArray, List.getElem_cons_succ, List.getElem_cons_zero, List.setIfInBounds_toArray, List.set_cons_zero, List.set_cons_succ]
          refine till_take (i := 3) (v := ?_) [4, 5, 6, 7, 8, 11, 12, 13] rfl (by kernel_rfl) (by kernel_rfl) (by kernel_rfl) (by kernel_rfl) (fun _ _ _ h => h) (Or.inl ⟨by rfl, ?_⟩) (by assumption) ?_
          rotate_left
          · (intro wx hSw; (try dsimp only at hSw); go_simp; (try rw [if_neg (by omega)]); try with_reducible rfl)
          simp only [Act.put, List.getElem_toArray, List.getElem_cons_succ, List.getElem_cons_zero, List.setIfInBounds_toArray, List.set_cons_zero, List.set_cons_succ]
          refine till_name (fun act0 hact0 => ?_)
          have HA := hide hact0
          clear hact0
          refine till_mid 3 #[true, true, true, true, true, true, true, true, true, true, true, false, false, false] (ι := Bool × Option Addr × Nat × Nat × Bool × Option Addr × Nat × Nat × Bool × Option Addr × Nat × Nat × Nat × Nat) (fun (b3, a3, l3, c3, b4, a4, l4, c4, b5, a5, l5, c5, g7, g8) => ((((((((act0.put (some 26) (.agg #[.bool b3, .slice a3 l3 c3])).put (some 28) (.tuple #[.agg #[.bool b4, .slice a4 l4 c4], .agg #[.bool b5, .slice a5 l5 c5], .bool true])).put (some 23) (.tuple #[.agg #[.bool b4, .slice a4 l4 c4], .agg #[.bool b5, .slice a5 l5 c5], .bool true])).put (some 29) (.agg #[.bool b4, .slice a4 l4 c4])).put (some 30) (.agg #[.bool b5, .slice a5 l5 c5])).put (some 31) (.bool true)).put (some 8) ((.pointer (some ⟨g7, 0, none⟩)))).put (some 9) ((.pointer (some ⟨g8, 0, none⟩))))) (fun (b3, a3, l3, c3, b4, a4, l4, c4, b5, a5, l5, c5, g7, g8) w => Below W2.heap.size W2 w ∧ FK w b4 a4 l4 c4 (Q : Int) l ∧ FK w b5 a5 l5 c5 ((ys.getD i 0).tmod z) k ∧ Box w g7 false none 0 0 ∧ W2.heap.size ≤ g7 ∧ Box w g8 false none 0 0 ∧ W2.heap.size ≤ g8 ∧ g7 ≠ g8) ?_ (fun J0 => ?_)
          · rintro ⟨b3, a3, l3, c3, b4, a4, l4, c4, b5, a5, l5, c5, g7, g8⟩ wj hI
            try dsimp only at hI ⊢
            obtain ⟨HW, h4, h5, B7, hg7, B8, hg8, hneg7g8⟩ := hI
            have hHeld : wj.cell? ⟨wr.heap.size, 0, none⟩ = some (.bool b2) ∧ wj.cell? ⟨wr.heap.size, 1, none⟩ = some (.slice a2 l2 c2) := by exact ⟨(D0.later HW).facts.1, (D0.later HW).facts.2.1⟩
            rw [unhide HA]
            simp only [Act.put, List.setIfInBounds_toArray, List.set_cons_zero, List.set_cons_succ]
            obtain ⟨q1B7, q2B7, q3B7, q4B7⟩ := B7.facts
            have hltB7 := B7.lt
            obtain ⟨q1B8, q2B8, q3B8, q4B8⟩ := B8.facts
            have hltB8 := B8.lt
            refine till_out (i := 11) (by kernel_rfl) rfl (by kernel_rfl) (fun K hK => ?_)
            go_simp
            refine hK.out _ _ ?_
            clear hK K
            try simp only [List.setIfInBounds_toArray, List.set_cons_zero, List.set_cons_succ]
            refine till_out (i := 12) (by kernel_rfl) rfl (by kernel_rfl) (fun K hK => ?_)
            go_simp
            refine hK.out _ _ ?_
            clear hK K
            try simp only [List.setIfInBounds_toArray, List.set_cons_zero, List.set_cons_succ]
            refine till_out (i := 13) (by kernel_rfl) rfl (by kernel_rfl) (fun K hK => ?_)
            go_simp
            refine hK.out _ _ ?_
            clear hK K
            try simp only [List.setIfInBounds_toArray, List.set_cons_zero, List.set_cons_succ]
            refine till_done (by kernel_rfl) ?_ _
            have n7 := B7.noLimb
            have n8 := (B8.other (g' := g7) (Ne.symm hneg7g8) b4 a4 l4 c4).noLimb
            obtain ⟨W8, hW8⟩ : ∃ W8, W8 = ((((wj.setCell ⟨g7, 0, none⟩ (.bool b4)).setCell ⟨g7, 1, none⟩ (.slice a4 l4 c4)).setCell ⟨g8, 0, none⟩ (.bool b5)).setCell ⟨g8, 1, none⟩ (.slice a5 l5 c5)) := ⟨_, rfl⟩
            rw [← hW8]
            have Bq : Box W8 g7 b4 a4 l4 c4 := by rw [hW8]; exact (B7.put b4 a4 l4 c4).other (g' := g8) hneg7g8 b5 a5 l5 c5
            replace C0 : Box W8 (w.heap.size) false none 0 0 := by rw [hW8]; exact ((C0.later HW).other (g' := g7) (by omega) b4 a4 l4 c4).other (g' := g8) (by omega) b5 a5 l5 c5
            replace C1 : Box W8 (gm) b1 a1 l1 c1 := by rw [hW8]; exact ((C1.later HW).other (g' := g7) (by omega) b4 a4 l4 c4).other (g' := g8) (by omega) b5 a5 l5 c5
            replace hM : FK W8 b1 a1 l1 c1 (M : Int) l := by rw [hW8]; exact ((hM.later HW).put n7 b4 a4 l4 c4).put n8 b5 a5 l5 c5
            replace h4 : FK W8 b4 a4 l4 c4 (Q : Int) l := by rw [hW8]; exact ((h4).put n7 b4 a4 l4 c4).put n8 b5 a5 l5 c5
            replace HB : Hid (Below w.heap.size w W8) := by rw [hW8]; exact below_put (below_put (Below.step (unhide HB) HW) (by omega) _ _ _ _) (by omega) _ _ _ _
            clear hW8 HW hHeld B7 B8 n7 n8 q1B7 q2B7 q3B7 q4B7 q1B8 q2B8 q3B8 q4B8
            obtain ⟨s, es⟩ : ∃ s, s = (M : Int).sign := ⟨_, rfl⟩
            have ES := hide es
            obtain ⟨f1, f2, _, _⟩ := C1.facts
            have hsC := C1.lt
            go_wp2_with fail
            refine (signK b1 a1 l1 c1 (M : Int) l s _ (hM.ik (by omega)) (unhide ES)).mono ?_
            rintro e w5 ⟨rfl, hb1⟩
            clear f1 f2 hsC
            replace C0 := C0.later hb1
            replace C1 := C1.later hb1
            replace Bq := Bq.later hb1
            replace hM := hM.later hb1
            replace h4 := h4.later hb1
            replace HB := hide (Below.step (unhide HB) hb1)
            clear hb1
            by_cases hM0 : M = 0
            · have hs : (s == 0) = true := by rw [es, hM0]; rfl
              clear es
              obtain ⟨f1, f2, _, _⟩ := Bq.facts
              obtain ⟨q1, q2, q3, q4⟩ := C1.facts
              have hsC := C1.lt
              have hsQ := Bq.lt
              go_wp2
              go_roundw
              case rel =>
                have nm := C1.noLimb
                exact ⟨i + 1, _, _, _, _, Q, by omega, by go_num, C0.other (g' := gm) (by omega) b4 a4 l4 c4, C1.put b4 a4 l4 c4, h4.put nm _ _ _ _, (unhide HF).less (by rw [← unhide EZ]; exact h0) (unhide HQ).1 (unhide HQ).2 (Or.inl hM0), below_put (unhide HB) (by omega) _ _ _ _⟩
              case measure => simp [intOf]; omega
            · have hs : (s == 0) = false := by
                rw [beq_eq_false_iff_ne, es, Int.sign_eq_one_of_pos (by omega)]
                decide
              clear es
              obtain ⟨d, ed⟩ : ∃ d, d = ((Q : Int) - (M : Int)).sign := ⟨_, rfl⟩
              have ED := hide ed
              clear ed
              obtain ⟨f1, f2, _, _⟩ := C1.facts
              obtain ⟨f3, f4, _, _⟩ := Bq.facts
              have hsC := C1.lt
              have hsQ := Bq.lt
              go_wp2_with fail
              refine (cmpK b4 a4 l4 c4 (Q : Int) l b1 a1 l1 c1 (M : Int) l d _ (h4.ik (by omega)) (hM.ik (by omega)) (unhide ED)).mono ?_
              rintro e w6 ⟨rfl, hb1⟩
              clear f1 f2 f3 f4 hsC hsQ
              replace C0 := C0.later hb1
              replace C1 := C1.later hb1
              replace Bq := Bq.later hb1
              replace hM := hM.later hb1
              replace h4 := h4.later hb1
              replace HB := hide (Below.step (unhide HB) hb1)
              clear hb1
              by_cases hd : Q < M
              · have hdd : d < 0 := by rw [unhide ED, Int.sign_eq_neg_one_of_neg (by omega)]; omega
                obtain ⟨f1, f2, _, _⟩ := Bq.facts
                obtain ⟨q1, q2, q3, q4⟩ := C1.facts
                have hsC := C1.lt
                have hsQ := Bq.lt
                go_wp2
                go_roundw
                case rel =>
                  have nm := C1.noLimb
                  exact ⟨i + 1, _, _, _, _, Q, by omega, by go_num, C0.other (g' := gm) (by omega) b4 a4 l4 c4, C1.put b4 a4 l4 c4, h4.put nm _ _ _ _, (unhide HF).less (by rw [← unhide EZ]; exact h0) (unhide HQ).1 (unhide HQ).2 (Or.inr hd), below_put (unhide HB) (by omega) _ _ _ _⟩
                case measure => simp [intOf]; omega
              · have hdd : ¬ d < 0 := by rw [unhide ED]; exact sgn_ge (by omega)
                go_wp2
                go_roundw
                case rel => exact ⟨i + 1, _, _, _, _, M, by omega, by go_num, C0, C1, hM, (unhide HF).keep (unhide HQ).1 hM0 (by omega), unhide HB⟩
                case measure => simp [intOf]; omega
          refine till_mid 4 #[true, true, true, true, true, true, true, true, true, false, true, false, false, false] (ι := Bool × Option Addr × Nat × Nat × Bool × Option Addr × Nat × Nat × Bool × Option Addr × Nat × Nat × Nat) (fun (b3, a3, l3, c3, b4, a4, l4, c4, b5, a5, l5, c5, g8) => (((((((act0.put (some 26) (.agg #[.bool b3, .slice a3 l3 c3])).put (some 28) (.tuple #[.agg #[.bool b4, .slice a4 l4 c4], .agg #[.bool b5, .slice a5 l5 c5], .bool true])).put (some 23) (.tuple #[.agg #[.bool b4, .slice a4 l4 c4], .agg #[.bool b5, .slice a5 l5 c5], .bool true])).put (some 29) (.agg #[.bool b4, .slice a4 l4 c4])).put (some 30) (.agg #[.bool b5, .slice a5 l5 c5])).put (some 31) (.bool true)).put (some 9) ((.pointer (some ⟨g8, 0, none⟩))))) (fun (b3, a3, l3, c3, b4, a4, l4, c4, b5, a5, l5, c5, g8) w => Below W2.heap.size W2 w ∧ FK w b4 a4 l4 c4 (Q : Int) l ∧ FK w b5 a5 l5 c5 ((ys.getD i 0).tmod z) k ∧ Box w g8 false none 0 0 ∧ W2.heap.size ≤ g8) ?_ (fun J1 => ?_)
          · rintro ⟨b3, a3, l3, c3, b4, a4, l4, c4, b5, a5, l5, c5, g8⟩ wj hI
            try dsimp only at hI ⊢
            obtain ⟨HW, h4, h5, B8, hg8⟩ := hI
            have hHeld : wj.cell? ⟨wr.heap.size, 0, none⟩ = some (.bool b2) ∧ wj.cell? ⟨wr.heap.size, 1, none⟩ = some (.slice a2 l2 c2) := by exact ⟨(D0.later HW).facts.1, (D0.later HW).facts.2.1⟩
            rw [unhide HA]
            simp only [Act.put, List.setIfInBounds_toArray, List.set_cons_zero, List.set_cons_succ]
            refine till_in (i := 9) (by kernel_rfl) rfl (fun K hK => ?_)
            go_simp
            have hwk : W2.heap.size ≤ wj.heap.size := HW.size
            have hxg8 := B8.lt
            obtain ⟨wk, hWe⟩ : ∃ W', W' = wj.alloc (.cells #[.bool false, .slice none 0 0] 31) := ⟨_, rfl⟩
            obtain ⟨B7, hb9⟩ := boxes1 wj false none 0 0 hWe
            rw [← hWe]
            clear hWe
            replace HW := Below.step HW hb9
            replace h4 := h4.later hb9
            replace h5 := h5.later hb9
            replace B8 := B8.later hb9
            clear hb9
            have hg7 := hwk
            have hneg7g8 : wj.heap.size ≠ g8 := by omega
            refine hK.out _ _ ?_ (fun hHeld => ?_)
            · exact ⟨(D0.later HW).facts.1, (D0.later HW).facts.2.1⟩
            clear hK K
            try simp only [List.setIfInBounds_toArray, List.set_cons_zero, List.set_cons_succ]
            exact till_go J0 (b3, a3, l3, c3, b4, a4, l4, c4, b5, a5, l5, c5, wj.heap.size, g8) rfl (by kernel_rfl) (by (try dsimp only); rw [unhide HA]; simp only [Act.put, List.setIfInBounds_toArray, List.set_cons_zero, List.set_cons_succ]) (by (try dsimp only); exact ⟨HW, h4, h5, B7, hg7, B8, hg8, hneg7g8⟩)
          refine till_mid 4 #[true, true, true, true, true, true, true, true, true, true, false, false, false, false] (ι := Bool × Option Addr × Nat × Nat × Bool × Option Addr × Nat × Nat × Bool × Option Addr × Nat × Nat × Nat) (fun (b3, a3, l3, c3, b4, a4, l4, c4, b5, a5, l5, c5, g7) => (((((((act0.put (some 26) (.agg #[.bool b3, .slice a3 l3 c3])).put (some 28) (.tuple #[.agg #[.bool b4, .slice a4 l4 c4], .agg #[.bool b5, .slice a5 l5 c5], .bool true])).put (some 23) (.tuple #[.agg #[.bool b4, .slice a4 l4 c4], .agg #[.bool b5, .slice a5 l5 c5], .bool true])).put (some 29) (.agg #[.bool b4, .slice a4 l4 c4])).put (some 30) (.agg #[.bool b5, .slice a5 l5 c5])).put (some 31) (.bool true)).put (some 8) ((.pointer (some ⟨g7, 0, none⟩))))) (fun (b3, a3, l3, c3, b4, a4, l4, c4, b5, a5, l5, c5, g7) w => Below W2.heap.size W2 w ∧ FK w b4 a4 l4 c4 (Q : Int) l ∧ FK w b5 a5 l5 c5 ((ys.getD i 0).tmod z) k ∧ Box w g7 false none 0 0 ∧ W2.heap.size ≤ g7) ?_ (fun J2 => ?_)
          · rintro ⟨b3, a3, l3, c3, b4, a4, l4, c4, b5, a5, l5, c5, g7⟩ wj hI
            try dsimp only at hI ⊢
            obtain ⟨HW, h4, h5, B7, hg7⟩ := hI
            have hHeld : wj.cell? ⟨wr.heap.size, 0, none⟩ = some (.bool b2) ∧ wj.cell? ⟨wr.heap.size, 1, none⟩ = some (.slice a2 l2 c2) := by exact ⟨(D0.later HW).facts.1, (D0.later HW).facts.2.1⟩
            rw [unhide HA]
            simp only [Act.put, List.setIfInBounds_toArray, List.set_cons_zero, List.set_cons_succ]
            refine till_in (i := 10) (by kernel_rfl) rfl (fun K hK => ?_)
            go_simp
            have hwk : W2.heap.size ≤ wj.heap.size := HW.size
            have hxg7 := B7.lt
            obtain ⟨wk, hWe⟩ : ∃ W', W' = wj.alloc (.cells #[.bool false, .slice none 0 0] 31) := ⟨_, rfl⟩
            obtain ⟨B8, hb9⟩ := boxes1 wj false none 0 0 hWe
            rw [← hWe]
            clear hWe
            replace HW := Below.step HW hb9
            replace h4 := h4.later hb9
            replace h5 := h5.later hb9
            replace B7 := B7.later hb9
            clear hb9
            have hg8 := hwk
            have hneg7g8 : g7 ≠ wj.heap.size := by omega
            refine hK.out _ _ ?_ (fun hHeld => ?_)
            · exact ⟨(D0.later HW).facts.1, (D0.later HW).facts.2.1⟩
            clear hK K
            try simp only [List.setIfInBounds_toArray, List.set_cons_zero, List.set_cons_succ]
            exact till_go J0 (b3, a3, l3, c3, b4, a4, l4, c4, b5, a5, l5, c5, g7, wj.heap.size) rfl (by kernel_rfl) (by (try dsimp only); rw [unhide HA]; simp only [Act.put, List.setIfInBounds_toArray, List.set_cons_zero, List.set_cons_succ]) (by (try dsimp only); exact ⟨HW, h4, h5, B7, hg7, B8, hg8, hneg7g8⟩)
          refine till_mid 5 #[true, true, true, true, true, true, true, true, true, false, false, false, false, false] (ι := Bool × Option Addr × Nat × Nat × Bool × Option Addr × Nat × Nat × Bool × Option Addr × Nat × Nat) (fun (b3, a3, l3, c3, b4, a4, l4, c4, b5, a5, l5, c5) => ((((((act0.put (some 26) (.agg #[.bool b3, .slice a3 l3 c3])).put (some 28) (.tuple #[.agg #[.bool b4, .slice a4 l4 c4], .agg #[.bool b5, .slice a5 l5 c5], .bool true])).put (some 23) (.tuple #[.agg #[.bool b4, .slice a4 l4 c4], .agg #[.bool b5, .slice a5 l5 c5], .bool true])).put (some 29) (.agg #[.bool b4, .slice a4 l4 c4])).put (some 30) (.agg #[.bool b5, .slice a5 l5 c5])).put (some 31) (.bool true))) (fun (b3, a3, l3, c3, b4, a4, l4, c4, b5, a5, l5, c5) w => Below W2.heap.size W2 w ∧ FK w b4 a4 l4 c4 (Q : Int) l ∧ FK w b5 a5 l5 c5 ((ys.getD i 0).tmod z) k) ?_ (fun J3 => ?_)
          · rintro ⟨b3, a3, l3, c3, b4, a4, l4, c4, b5, a5, l5, c5⟩ wj hI
            try dsimp only at hI ⊢
            obtain ⟨HW, h4, h5⟩ := hI
            have hHeld : wj.cell? ⟨wr.heap.size, 0, none⟩ = some (.bool b2) ∧ wj.cell? ⟨wr.heap.size, 1, none⟩ = some (.slice a2 l2 c2) := by exact ⟨(D0.later HW).facts.1, (D0.later HW).facts.2.1⟩
            rw [unhide HA]
            simp only [Act.put, List.setIfInBounds_toArray, List.set_cons_zero, List.set_cons_succ]
            refine till_two (i := 9) (j := 10) (by kernel_rfl) rfl rfl (fun K hK => ?_) (fun K hK => ?_)
            · go_simp
              have hwk : W2.heap.size ≤ wj.heap.size := HW.size
              obtain ⟨wk, hWe⟩ : ∃ W', W' = wj.alloc (.cells #[.bool false, .slice none 0 0] 31) := ⟨_, rfl⟩
              obtain ⟨B7, hb9⟩ := boxes1 wj false none 0 0 hWe
              rw [← hWe]
              clear hWe
              replace HW := Below.step HW hb9
              replace h4 := h4.later hb9
              replace h5 := h5.later hb9
              clear hb9
              have hg7 := hwk
              refine hK.out _ _ ?_ (fun hHeld => ?_)
              · exact ⟨(D0.later HW).facts.1, (D0.later HW).facts.2.1⟩
              clear hK K
              try simp only [List.setIfInBounds_toArray, List.set_cons_zero, List.set_cons_succ]
              exact till_go J2 (b3, a3, l3, c3, b4, a4, l4, c4, b5, a5, l5, c5, wj.heap.size) rfl (by kernel_rfl) (by (try dsimp only); rw [unhide HA]; simp only [Act.put, List.setIfInBounds_toArray, List.set_cons_zero, List.set_cons_succ]) (by (try dsimp only); exact ⟨HW, h4, h5, B7, hg7⟩)
            · go_simp
              have hwk : W2.heap.size ≤ wj.heap.size := HW.size
              obtain ⟨wk, hWe⟩ : ∃ W', W' = wj.alloc (.cells #[.bool false, .slice none 0 0] 31) := ⟨_, rfl⟩
              obtain ⟨B8, hb9⟩ := boxes1 wj false none 0 0 hWe
              rw [← hWe]
              clear hWe
              replace HW := Below.step HW hb9
              replace h4 := h4.later hb9
              replace h5 := h5.later hb9
              clear hb9
              have hg8 := hwk
              refine hK.out _ _ ?_ (fun hHeld => ?_)
              · exact ⟨(D0.later HW).facts.1, (D0.later HW).facts.2.1⟩
              clear hK K
              try simp only [List.setIfInBounds_toArray, List.set_cons_zero, List.set_cons_succ]
              exact till_go J1 (b3, a3, l3, c3, b4, a4, l4, c4, b5, a5, l5, c5, wj.heap.size) rfl (by kernel_rfl) (by (try dsimp only); rw [unhide HA]; simp only [Act.put, List.setIfInBounds_toArray, List.set_cons_zero, List.set_cons_succ]) (by (try dsimp only); exact ⟨HW, h4, h5, B8, hg8⟩)
          refine till_mid 8 #[true, true, true, true, false, false, false, false, false, true, true, false, false, false] (ι := Bool × Option Addr × Nat × Nat × Nat × Nat) (fun (b3, a3, l3, c3, g7, g8) => (((act0.put (some 26) (.agg #[.bool b3, .slice a3 l3 c3])).put (some 8) ((.pointer (some ⟨g7, 0, none⟩)))).put (some 9) ((.pointer (some ⟨g8, 0, none⟩))))) (fun (b3, a3, l3, c3, g7, g8) w => Below W2.heap.size W2 w ∧ IK w b3 a3 l3 c3 (ys.getD i 0) l ∧ Box w g7 false none 0 0 ∧ W2.heap.size ≤ g7 ∧ Box w g8 false none 0 0 ∧ W2.heap.size ≤ g8 ∧ g7 ≠ g8) ?_ (fun J4 => ?_)
          · rintro ⟨b3, a3, l3, c3, g7, g8⟩ wj hI
            try dsimp only at hI ⊢
            obtain ⟨HW, h3, B7, hg7, B8, hg8, hneg7g8⟩ := hI
            have hHeld : wj.cell? ⟨wr.heap.size, 0, none⟩ = some (.bool b2) ∧ wj.cell? ⟨wr.heap.size, 1, none⟩ = some (.slice a2 l2 c2) := by exact ⟨(D0.later HW).facts.1, (D0.later HW).facts.2.1⟩
            rw [unhide HA]
            simp only [Act.put, List.setIfInBounds_toArray, List.set_cons_zero, List.set_cons_succ]
            refine till_in (i := 4) (by kernel_rfl) rfl (fun K hK => ?_)
            go_simp
            refine (quoK b3 a3 l3 c3 (ys.getD i 0) l b2 a2 l2 c2 z k _ h3 (hy2.later HW) (unhide H0)).mono ?_
            rintro e wk ⟨b4, a4, l4, c4, b5, a5, l5, c5, rfl, h4, h5, hb9⟩
            replace h4 := h4.eq (unhide EQ)
            replace HW := Below.step HW hb9
            replace B7 := B7.later hb9
            replace B8 := B8.later hb9
            clear hb9 h3
            refine hK.out _ _ ?_ (fun hHeld => ?_)
            · exact ⟨(D0.later HW).facts.1, (D0.later HW).facts.2.1⟩
            clear hK K
            try simp only [List.setIfInBounds_toArray, List.set_cons_zero, List.set_cons_succ]
            refine till_free (i := 5) (v := ?_) rfl (by kernel_rfl) (by kernel_rfl) (by kernel_rfl) (by kernel_rfl) (fun _ _ _ h => h) (Or.inl ⟨by rfl, ?_⟩) (by assumption) ?_
            rotate_left
            · (intro wx hSw; (try dsimp only at hSw); go_simp; (try rw [if_neg (by omega)]); try with_reducible rfl)
            simp only [Act.put, List.getElem_toArray, List.getElem_cons_succ, List.getElem_cons_zero, List.setIfInBounds_toArray, List.set_cons_zero, List.set_cons_succ]
            refine till_free (i := 6) (v := ?_) rfl (by kernel_rfl) (by kernel_rfl) (by kernel_rfl) (by kernel_rfl) (fun _ _ _ h => h) (Or.inl ⟨by rfl, ?_⟩) (by assumption) ?_
            rotate_left
            · (intro wx hSw; (try dsimp only at hSw); go_simp; (try rw [if_neg (by omega)]); try with_reducible rfl)
            simp only [Act.put, List.getElem_toArray, List.getElem_cons_succ, List.getElem_cons_zero, List.setIfInBounds_toArray, List.set_cons_zero, List.set_cons_succ]
            refine till_free (i := 7) (v := ?_) rfl (by kernel_rfl) (by kernel_rfl) (by kernel_rfl) (by kernel_rfl) (fun _ _ _ h => h) (Or.inl ⟨by rfl, ?_⟩) (by assumption) ?_
            rotate_left
            · (intro wx hSw; (try dsimp only at hSw); go_simp; (try rw [if_neg (by omega)]); try with_reducible rfl)
            simp only [Act.put, List.getElem_toArray, List.getElem_cons_succ, List.getElem_cons_zero, List.setIfInBounds_toArray, List.set_cons_zero, List.set_cons_succ]
            refine till_free (i := 8) (v := ?_) rfl (by kernel_rfl) (by kernel_rfl) (by kernel_rfl) (by kernel_rfl) (fun _ _ _ h => h) (Or.inl ⟨by rfl, ?_⟩) (by assumption) ?_
            rotate_left
            · (intro wx hSw; (try dsimp only at hSw); go_simp; (try rw [if_neg (by omega)]); try with_reducible rfl)
            simp only [Act.put, List.getElem_toArray, List.getElem_cons_succ, List.getElem_cons_zero, List.setIfInBounds_toArray, List.set_cons_zero, List.set_cons_succ]
            exact till_go J0 (b3, a3, l3, c3, b4, a4, l4, c4, b5, a5, l5, c5, g7, g8) rfl (by kernel_rfl) (by (try dsimp only); rw [unhide HA]; simp only [Act.put, List.setIfInBounds_toArray, List.set_cons_zero, List.set_cons_succ]) (by (try dsimp only); exact ⟨HW, h4, h5, B7, hg7, B8, hg8, hneg7g8⟩)
          refine till_mid 9 #[true, true, false, true, false, false, false, false, false, true, true, false, false, false] (ι := Nat × Nat) (fun (g7, g8) => ((act0.put (some 8) ((.pointer (some ⟨g7, 0, none⟩)))).put (some 9) ((.pointer (some ⟨g8, 0, none⟩))))) (fun (g7, g8) w => Below W2.heap.size W2 w ∧ Box w g7 false none 0 0 ∧ W2.heap.size ≤ g7 ∧ Box w g8 false none 0 0 ∧ W2.heap.size ≤ g8 ∧ g7 ≠ g8) ?_ (fun J5 => ?_)
          · rintro ⟨g7, g8⟩ wj hI
            try dsimp only at hI ⊢
            obtain ⟨HW, B7, hg7, B8, hg8, hneg7g8⟩ := hI
            have hHeld : wj.cell? ⟨wr.heap.size, 0, none⟩ = some (.bool b2) ∧ wj.cell? ⟨wr.heap.size, 1, none⟩ = some (.slice a2 l2 c2) := by exact ⟨(D0.later HW).facts.1, (D0.later HW).facts.2.1⟩
            rw [unhide HA]
            simp only [Act.put, List.setIfInBounds_toArray, List.set_cons_zero, List.set_cons_succ]
            refine till_in (i := 2) (by kernel_rfl) rfl (fun K hK => ?_)
            go_simp
            refine (satK ao' n' cap' ys l i _ ((h'.later (unhide HB)).later HW) hl (by omega)).mono ?_
            rintro e wk ⟨b3, a3, l3, c3, rfl, h3, hb9⟩
            replace HW := Below.step HW hb9
            replace B7 := B7.later hb9
            replace B8 := B8.later hb9
            clear hb9
            refine hK.out _ _ ?_ (fun hHeld => ?_)
            · exact ⟨(D0.later HW).facts.1, (D0.later HW).facts.2.1⟩
            clear hK K
            try simp only [List.setIfInBounds_toArray, List.set_cons_zero, List.set_cons_succ]
            exact till_go J4 (b3, a3, l3, c3, g7, g8) rfl (by kernel_rfl) (by (try dsimp only); rw [unhide HA]; simp only [Act.put, List.setIfInBounds_toArray, List.set_cons_zero, List.set_cons_succ]) (by (try dsimp only); exact ⟨HW, h3, B7, hg7, B8, hg8, hneg7g8⟩)
          refine till_mid 9 #[true, true, true, true, false, false, false, false, false, false, true, false, false, false] (ι := Bool × Option Addr × Nat × Nat × Nat) (fun (b3, a3, l3, c3, g8) => ((act0.put (some 26) (.agg #[.bool b3, .slice a3 l3 c3])).put (some 9) ((.pointer (some ⟨g8, 0, none⟩))))) (fun (b3, a3, l3, c3, g8) w => Below W2.heap.size W2 w ∧ IK w b3 a3 l3 c3 (ys.getD i 0) l ∧ Box w g8 false none 0 0 ∧ W2.heap.size ≤ g8) ?_ (fun J6 => ?_)
          · rintro ⟨b3, a3, l3, c3, g8⟩ wj hI
            try dsimp only at hI ⊢
            obtain ⟨HW, h3, B8, hg8⟩ := hI
            have hHeld : wj.cell? ⟨wr.heap.size, 0, none⟩ = some (.bool b2) ∧ wj.cell? ⟨wr.heap.size, 1, none⟩ = some (.slice a2 l2 c2) := by exact ⟨(D0.later HW).facts.1, (D0.later HW).facts.2.1⟩
            rw [unhide HA]
            simp only [Act.put, List.setIfInBounds_toArray, List.set_cons_zero, List.set_cons_succ]
            refine till_two (i := 4) (j := 9) (by kernel_rfl) rfl rfl (fun K hK => ?_) (fun K hK => ?_)
            · go_simp
              refine (quoK b3 a3 l3 c3 (ys.getD i 0) l b2 a2 l2 c2 z k _ h3 (hy2.later HW) (unhide H0)).mono ?_
              rintro e wk ⟨b4, a4, l4, c4, b5, a5, l5, c5, rfl, h4, h5, hb9⟩
              replace h4 := h4.eq (unhide EQ)
              replace HW := Below.step HW hb9
              replace B8 := B8.later hb9
              clear hb9 h3
              refine hK.out _ _ ?_ (fun hHeld => ?_)
              · exact ⟨(D0.later HW).facts.1, (D0.later HW).facts.2.1⟩
              clear hK K
              try simp only [List.setIfInBounds_toArray, List.set_cons_zero, List.set_cons_succ]
              refine till_free (i := 5) (v := ?_) rfl (by kernel_rfl) (by kernel_rfl) (by kernel_rfl) (by kernel_rfl) (fun _ _ _ h => h) (Or.inl ⟨by rfl, ?_⟩) (by assumption) ?_
              rotate_left
              · (intro wx hSw; (try dsimp only at hSw); go_simp; (try rw [if_neg (by omega)]); try with_reducible rfl)
              simp only [Act.put, List.getElem_toArray, List.getElem_cons_succ, List.getElem_cons_zero, List.setIfInBounds_toArray, List.set_cons_zero, List.set_cons_succ]
              refine till_free (i := 6) (v := ?_) rfl (by kernel_rfl) (by kernel_rfl) (by kernel_rfl) (by kernel_rfl) (fun _ _ _ h => h) (Or.inl ⟨by rfl, ?_⟩) (by assumption) ?_
              rotate_left
              · (intro wx hSw; (try dsimp only at hSw); go_simp; (try rw [if_neg (by omega)]); try with_reducible rfl)
              simp only [Act.put, List.getElem_toArray, List.getElem_cons_succ, List.getElem_cons_zero, List.setIfInBounds_toArray, List.set_cons_zero, List.set_cons_succ]
              refine till_free (i := 7) (v := ?_) rfl (by kernel_rfl) (by kernel_rfl) (by kernel_rfl) (by kernel_rfl) (fun _ _ _ h => h) (Or.inl ⟨by rfl, ?_⟩) (by assumption) ?_
              rotate_left
              · (intro wx hSw; (try dsimp only at hSw); go_simp; (try rw [if_neg (by omega)]); try with_reducible rfl)
              simp only [Act.put, List.getElem_toArray, List.getElem_cons_succ, List.getElem_cons_zero, List.setIfInBounds_toArray, List.set_cons_zero, List.set_cons_succ]
              refine till_free (i := 8) (v := ?_) rfl (by kernel_rfl) (by kernel_rfl) (by kernel_rfl) (by kernel_rfl) (fun _ _ _ h => h) (Or.inl ⟨by rfl, ?_⟩) (by assumption) ?_
              rotate_left
              · (intro wx hSw; (try dsimp only at hSw); go_simp; (try rw [if_neg (by omega)]); try with_reducible rfl)
              simp only [Act.put, List.getElem_toArray, List.getElem_cons_succ, List.getElem_cons_zero, List.setIfInBounds_toArray, List.set_cons_zero, List.set_cons_succ]
              exact till_go J1 (b3, a3, l3, c3, b4, a4, l4, c4, b5, a5, l5, c5, g8) rfl (by kernel_rfl) (by (try dsimp only); rw [unhide HA]; simp only [Act.put, List.setIfInBounds_toArray, List.set_cons_zero, List.set_cons_succ]) (by (try dsimp only); exact ⟨HW, h4, h5, B8, hg8⟩)
            · go_simp
              have hwk : W2.heap.size ≤ wj.heap.size := HW.size
              have hxg8 := B8.lt
              obtain ⟨wk, hWe⟩ : ∃ W', W' = wj.alloc (.cells #[.bool false, .slice none 0 0] 31) := ⟨_, rfl⟩
              obtain ⟨B7, hb9⟩ := boxes1 wj false none 0 0 hWe
              rw [← hWe]
              clear hWe
              replace HW := Below.step HW hb9
              replace h3 := h3.later hb9
              replace B8 := B8.later hb9
              clear hb9
              have hg7 := hwk
              have hneg7g8 : wj.heap.size ≠ g8 := by omega
              refine hK.out _ _ ?_ (fun hHeld => ?_)
              · exact ⟨(D0.later HW).facts.1, (D0.later HW).facts.2.1⟩
              clear hK K
              try simp only [List.setIfInBounds_toArray, List.set_cons_zero, List.set_cons_succ]
              exact till_go J4 (b3, a3, l3, c3, wj.heap.size, g8) rfl (by kernel_rfl) (by (try dsimp only); rw [unhide HA]; simp only [Act.put, List.setIfInBounds_toArray, List.set_cons_zero, List.set_cons_succ]) (by (try dsimp only); exact ⟨HW, h3, B7, hg7, B8, hg8, hneg7g8⟩)
          refine till_mid 9 #[true, true, true, true, false, false, false, false, false, true, false, false, false, false] (ι := Bool × Option Addr × Nat × Nat × Nat) (fun (b3, a3, l3, c3, g7) => ((act0.put (some 26) (.agg #[.bool b3, .slice a3 l3 c3])).put (some 8) ((.pointer (some ⟨g7, 0, none⟩))))) (fun (b3, a3, l3, c3, g7) w => Below W2.heap.size W2 w ∧ IK w b3 a3 l3 c3 (ys.getD i 0) l ∧ Box w g7 false none 0 0 ∧ W2.heap.size ≤ g7) ?_ (fun J7 => ?_)
          · rintro ⟨b3, a3, l3, c3, g7⟩ wj hI
            try dsimp only at hI ⊢
            obtain ⟨HW, h3, B7, hg7⟩ := hI
            have hHeld : wj.cell? ⟨wr.heap.size, 0, none⟩ = some (.bool b2) ∧ wj.cell? ⟨wr.heap.size, 1, none⟩ = some (.slice a2 l2 c2) := by exact ⟨(D0.later HW).facts.1, (D0.later HW).facts.2.1⟩
            rw [unhide HA]
            simp only [Act.put, List.setIfInBounds_toArray, List.set_cons_zero, List.set_cons_succ]
            refine till_two (i := 4) (j := 10) (by kernel_rfl) rfl rfl (fun K hK => ?_) (fun K hK => ?_)
            · go_simp
              refine (quoK b3 a3 l3 c3 (ys.getD i 0) l b2 a2 l2 c2 z k _ h3 (hy2.later HW) (unhide H0)).mono ?_
              rintro e wk ⟨b4, a4, l4, c4, b5, a5, l5, c5, rfl, h4, h5, hb9⟩
              replace h4 := h4.eq (unhide EQ)
              replace HW := Below.step HW hb9
              replace B7 := B7.later hb9
              clear hb9 h3
              refine hK.out _ _ ?_ (fun hHeld => ?_)
              · exact ⟨(D0.later HW).facts.1, (D0.later HW).facts.2.1⟩
              clear hK K
              try simp only [List.setIfInBounds_toArray, List.set_cons_zero, List.set_cons_succ]
              refine till_free (i := 5) (v := ?_) rfl (by kernel_rfl) (by kernel_rfl) (by kernel_rfl) (by kernel_rfl) (fun _ _ _ h => h) (Or.inl ⟨by rfl, ?_⟩) (by assumption) ?_
              rotate_left
              · (intro wx hSw; (try dsimp only at hSw); go_simp; (try rw [if_neg (by omega)]); try with_reducible rfl)
              simp only [Act.put, List.getElem_toArray, List.getElem_cons_succ, List.getElem_cons_zero, List.setIfInBounds_toArray, List.set_cons_zero, List.set_cons_succ]
              refine till_free (i := 6) (v := ?_) rfl (by kernel_rfl) (by kernel_rfl) (by kernel_rfl) (by kernel_rfl) (fun _ _ _ h => h) (Or.inl ⟨by rfl, ?_⟩) (by assumption) ?_
              rotate_left
              · (intro wx hSw; (try dsimp only at hSw); go_simp; (try rw [if_neg (by omega)]); try with_reducible rfl)
              simp only [Act.put, List.getElem_toArray, List.getElem_cons_succ, List.getElem_cons_zero, List.setIfInBounds_toArray, List.set_cons_zero, List.set_cons_succ]
              refine till_free (i := 7) (v := ?_) rfl (by kernel_rfl) (by kernel_rfl) (by kernel_rfl) (by kernel_rfl) (fun _ _ _ h => h) (Or.inl ⟨by rfl, ?_⟩) (by assumption) ?_
              rotate_left
              · (intro wx hSw; (try dsimp only at hSw); go_simp; (try rw [if_neg (by omega)]); try with_reducible rfl)
              simp only [Act.put, List.getElem_toArray, List.getElem_cons_succ, List.getElem_cons_zero, List.setIfInBounds_toArray, List.set_cons_zero, List.set_cons_succ]
              refine till_free (i := 8) (v := ?_) rfl (by kernel_rfl) (by kernel_rfl) (by kernel_rfl) (by kernel_rfl) (fun _ _ _ h => h) (Or.inl ⟨by rfl, ?_⟩) (by assumption) ?_
              rotate_left
              · (intro wx hSw; (try dsimp only at hSw); go_simp; (try rw [if_neg (by omega)]); try with_reducible rfl)
              simp only [Act.put, List.getElem_toArray, List.getElem_cons_succ, List.getElem_cons_zero, List.setIfInBounds_toArray, List.set_cons_zero, List.set_cons_succ]
              exact till_go J2 (b3, a3, l3, c3, b4, a4, l4, c4, b5, a5, l5, c5, g7) rfl (by kernel_rfl) (by (try dsimp only); rw [unhide HA]; simp only [Act.put, List.setIfInBounds_toArray, List.set_cons_zero, List.set_cons_succ]) (by (try dsimp only); exact ⟨HW, h4, h5, B7, hg7⟩)
            · go_simp
              have hwk : W2.heap.size ≤ wj.heap.size := HW.size
              have hxg7 := B7.lt
              obtain ⟨wk, hWe⟩ : ∃ W', W' = wj.alloc (.cells #[.bool false, .slice none 0 0] 31) := ⟨_, rfl⟩
              obtain ⟨B8, hb9⟩ := boxes1 wj false none 0 0 hWe
              rw [← hWe]
              clear hWe
              replace HW := Below.step HW hb9
              replace h3 := h3.later hb9
              replace B7 := B7.later hb9
              clear hb9
              have hg8 := hwk
              have hneg7g8 : g7 ≠ wj.heap.size := by omega
              refine hK.out _ _ ?_ (fun hHeld => ?_)
              · exact ⟨(D0.later HW).facts.1, (D0.later HW).facts.2.1⟩
              clear hK K
              try simp only [List.setIfInBounds_toArray, List.set_cons_zero, List.set_cons_succ]
              exact till_go J4 (b3, a3, l3, c3, g7, wj.heap.size) rfl (by kernel_rfl) (by (try dsimp only); rw [unhide HA]; simp only [Act.put, List.setIfInBounds_toArray, List.set_cons_zero, List.set_cons_succ]) (by (try dsimp only); exact ⟨HW, h3, B7, hg7, B8, hg8, hneg7g8⟩)
          refine till_mid 10 #[true, true, false, true, false, false, false, false, false, false, true, false, false, false] (ι := Nat) (fun g8 => (act0.put (some 9) ((.pointer (some ⟨g8, 0, none⟩))))) (fun g8 w => Below W2.heap.size W2 w ∧ Box w g8 false none 0 0 ∧ W2.heap.size ≤ g8) ?_ (fun J8 => ?_)
          · rintro g8 wj hI
            try dsimp only at hI ⊢
            obtain ⟨HW, B8, hg8⟩ := hI
            have hHeld : wj.cell? ⟨wr.heap.size, 0, none⟩ = some (.bool b2) ∧ wj.cell? ⟨wr.heap.size, 1, none⟩ = some (.slice a2 l2 c2) := by exact ⟨(D0.later HW).facts.1, (D0.later HW).facts.2.1⟩
            rw [unhide HA]
            simp only [Act.put, List.setIfInBounds_toArray, List.set_cons_zero, List.set_cons_succ]
            refine till_two (i := 2) (j := 9) (by kernel_rfl) rfl rfl (fun K hK => ?_) (fun K hK => ?_)
            · go_simp
              refine (satK ao' n' cap' ys l i _ ((h'.later (unhide HB)).later HW) hl (by omega)).mono ?_
              rintro e wk ⟨b3, a3, l3, c3, rfl, h3, hb9⟩
              replace HW := Below.step HW hb9
              replace B8 := B8.later hb9
              clear hb9
              refine hK.out _ _ ?_ (fun hHeld => ?_)
              · exact ⟨(D0.later HW).facts.1, (D0.later HW).facts.2.1⟩
              clear hK K
              try simp only [List.setIfInBounds_toArray, List.set_cons_zero, List.set_cons_succ]
              exact till_go J6 (b3, a3, l3, c3, g8) rfl (by kernel_rfl) (by (try dsimp only); rw [unhide HA]; simp only [Act.put, List.setIfInBounds_toArray, List.set_cons_zero, List.set_cons_succ]) (by (try dsimp only); exact ⟨HW, h3, B8, hg8⟩)
            · go_simp
              have hwk : W2.heap.size ≤ wj.heap.size := HW.size
              have hxg8 := B8.lt
              obtain ⟨wk, hWe⟩ : ∃ W', W' = wj.alloc (.cells #[.bool false, .slice none 0 0] 31) := ⟨_, rfl⟩
              obtain ⟨B7, hb9⟩ := boxes1 wj false none 0 0 hWe
              rw [← hWe]
              clear hWe
              replace HW := Below.step HW hb9
              replace B8 := B8.later hb9
              clear hb9
              have hg7 := hwk
              have hneg7g8 : wj.heap.size ≠ g8 := by omega
              refine hK.out _ _ ?_ (fun hHeld => ?_)
              · exact ⟨(D0.later HW).facts.1, (D0.later HW).facts.2.1⟩
              clear hK K
              try simp only [List.setIfInBounds_toArray, List.set_cons_zero, List.set_cons_succ]
              exact till_go J5 (wj.heap.size, g8) rfl (by kernel_rfl) (by (try dsimp only); rw [unhide HA]; simp only [Act.put, List.setIfInBounds_toArray, List.set_cons_zero, List.set_cons_succ]) (by (try dsimp only); exact ⟨HW, B7, hg7, B8, hg8, hneg7g8⟩)
          refine till_mid 10 #[true, true, false, true, false, false, false, false, false, true, false, false, false, false] (ι := Nat) (fun g7 => (act0.put (some 8) ((.pointer (some ⟨g7, 0, none⟩))))) (fun g7 w => Below W2.heap.size W2 w ∧ Box w g7 false none 0 0 ∧ W2.heap.size ≤ g7) ?_ (fun J9 => ?_)
          · rintro g7 wj hI
            try dsimp only at hI ⊢
            obtain ⟨HW, B7, hg7⟩ := hI
            have hHeld : wj.cell? ⟨wr.heap.size, 0, none⟩ = some (.bool b2) ∧ wj.cell? ⟨wr.heap.size, 1, none⟩ = some (.slice a2 l2 c2) := by exact ⟨(D0.later HW).facts.1, (D0.later HW).facts.2.1⟩
            rw [unhide HA]
            simp only [Act.put, List.setIfInBounds_toArray, List.set_cons_zero, List.set_cons_succ]
            refine till_two (i := 2) (j := 10) (by kernel_rfl) rfl rfl (fun K hK => ?_) (fun K hK => ?_)
            · go_simp
              refine (satK ao' n' cap' ys l i _ ((h'.later (unhide HB)).later HW) hl (by omega)).mono ?_
              rintro e wk ⟨b3, a3, l3, c3, rfl, h3, hb9⟩
              replace HW := Below.step HW hb9
              replace B7 := B7.later hb9
              clear hb9
              refine hK.out _ _ ?_ (fun hHeld => ?_)
              · exact ⟨(D0.later HW).facts.1, (D0.later HW).facts.2.1⟩
              clear hK K
              try simp only [List.setIfInBounds_toArray, List.set_cons_zero, List.set_cons_succ]
              exact till_go J7 (b3, a3, l3, c3, g7) rfl (by kernel_rfl) (by (try dsimp only); rw [unhide HA]; simp only [Act.put, List.setIfInBounds_toArray, List.set_cons_zero, List.set_cons_succ]) (by (try dsimp only); exact ⟨HW, h3, B7, hg7⟩)
            · go_simp
              have hwk : W2.heap.size ≤ wj.heap.size := HW.size
              have hxg7 := B7.lt
              obtain ⟨wk, hWe⟩ : ∃ W', W' = wj.alloc (.cells #[.bool false, .slice none 0 0] 31) := ⟨_, rfl⟩
              obtain ⟨B8, hb9⟩ := boxes1 wj false none 0 0 hWe
              rw [← hWe]
              clear hWe
              replace HW := Below.step HW hb9
              replace B7 := B7.later hb9
              clear hb9
              have hg8 := hwk
              have hneg7g8 : g7 ≠ wj.heap.size := by omega
              refine hK.out _ _ ?_ (fun hHeld => ?_)
              · exact ⟨(D0.later HW).facts.1, (D0.later HW).facts.2.1⟩
              clear hK K
              try simp only [List.setIfInBounds_toArray, List.set_cons_zero, List.set_cons_succ]
              exact till_go J5 (g7, wj.heap.size) rfl (by kernel_rfl) (by (try dsimp only); rw [unhide HA]; simp only [Act.put, List.setIfInBounds_toArray, List.set_cons_zero, List.set_cons_succ]) (by (try dsimp only); exact ⟨HW, B7, hg7, B8, hg8, hneg7g8⟩)
          refine till_mid 10 #[true, true, true, true, false, false, false, false, false, false, false, false, false, false] (ι := Bool × Option Addr × Nat × Nat) (fun (b3, a3, l3, c3) => (act0.put (some 26) (.agg #[.bool b3, .slice a3 l3 c3]))) (fun (b3, a3, l3, c3) w => Below W2.heap.size W2 w ∧ IK w b3 a3 l3 c3 (ys.getD i 0) l) ?_ (fun J10 => ?_)
          · rintro ⟨b3, a3, l3, c3⟩ wj hI
            try dsimp only at hI ⊢
            obtain ⟨HW, h3⟩ := hI
            have hHeld : wj.cell? ⟨wr.heap.size, 0, none⟩ = some (.bool b2) ∧ wj.cell? ⟨wr.heap.size, 1, none⟩ = some (.slice a2 l2 c2) := by exact ⟨(D0.later HW).facts.1, (D0.later HW).facts.2.1⟩
            rw [unhide HA]
            simp only [Act.put, List.setIfInBounds_toArray, List.set_cons_zero, List.set_cons_succ]
            refine till_three (i := 4) (j := 9) (k := 10) (by kernel_rfl) rfl rfl rfl (fun K hK => ?_) (fun K hK => ?_) (fun K hK => ?_)
            · go_simp
              refine (quoK b3 a3 l3 c3 (ys.getD i 0) l b2 a2 l2 c2 z k _ h3 (hy2.later HW) (unhide H0)).mono ?_
              rintro e wk ⟨b4, a4, l4, c4, b5, a5, l5, c5, rfl, h4, h5, hb9⟩
              replace h4 := h4.eq (unhide EQ)
              replace HW := Below.step HW hb9
              clear hb9 h3
              refine hK.out _ _ ?_ (fun hHeld => ?_)
              · exact ⟨(D0.later HW).facts.1, (D0.later HW).facts.2.1⟩
              clear hK K
              try simp only [List.setIfInBounds_toArray, List.set_cons_zero, List.set_cons_succ]
              refine till_free (i := 5) (v := ?_) rfl (by kernel_rfl) (by kernel_rfl) (by kernel_rfl) (by kernel_rfl) (fun _ _ _ h => h) (Or.inl ⟨by rfl, ?_⟩) (by assumption) ?_
              rotate_left
              · (intro wx hSw; (try dsimp only at hSw); go_simp; (try rw [if_neg (by omega)]); try with_reducible rfl)
              simp only [Act.put, List.getElem_toArray, List.getElem_cons_succ, List.getElem_cons_zero, List.setIfInBounds_toArray, List.set_cons_zero, List.set_cons_succ]
              refine till_free (i := 6) (v := ?_) rfl (by kernel_rfl) (by kernel_rfl) (by kernel_rfl) (by kernel_rfl) (fun _ _ _ h => h) (Or.inl ⟨by rfl, ?_⟩) (by assumption) ?_
              rotate_left
              · (intro wx hSw; (try dsimp only at hSw); go_simp; (try rw [if_neg (by omega)]); try with_reducible rfl)
              simp only [Act.put, List.getElem_toArray, List.getElem_cons_succ, List.getElem_cons_zero, List.setIfInBounds_toArray, List.set_cons_zero, List.set_cons_succ]
              refine till_free (i := 7) (v := ?_) rfl (by kernel_rfl) (by kernel_rfl) (by kernel_rfl) (by kernel_rfl) (fun _ _ _ h => h) (Or.inl ⟨by rfl, ?_⟩) (by assumption) ?_
              rotate_left
              · (intro wx hSw; (try dsimp only at hSw); go_simp; (try rw [if_neg (by omega)]); try with_reducible rfl)
              simp only [Act.put, List.getElem_toArray, List.getElem_cons_succ, List.getElem_cons_zero, List.setIfInBounds_toArray, List.set_cons_zero, List.set_cons_succ]
              refine till_free (i := 8) (v := ?_) rfl (by kernel_rfl) (by kernel_rfl) (by kernel_rfl) (by kernel_rfl) (fun _ _ _ h => h) (Or.inl ⟨by rfl, ?_⟩) (by assumption) ?_
              rotate_left
              · (intro wx hSw; (try dsimp only at hSw); go_simp; (try rw [if_neg (by omega)]); try with_reducible rfl)
              simp only [Act.put, List.getElem_toArray, List.getElem_cons_succ, List.getElem_cons_zero, List.setIfInBounds_toArray, List.set_cons_zero, List.set_cons_succ]
              exact till_go J3 (b3, a3, l3, c3, b4, a4, l4, c4, b5, a5, l5, c5) rfl (by kernel_rfl) (by (try dsimp only); rw [unhide HA]; simp only [Act.put, List.setIfInBounds_toArray, List.set_cons_zero, List.set_cons_succ]) (by (try dsimp only); exact ⟨HW, h4, h5⟩)
            · go_simp
              have hwk : W2.heap.size ≤ wj.heap.size := HW.size
              obtain ⟨wk, hWe⟩ : ∃ W', W' = wj.alloc (.cells #[.bool false, .slice none 0 0] 31) := ⟨_, rfl⟩
              obtain ⟨B7, hb9⟩ := boxes1 wj false none 0 0 hWe
              rw [← hWe]
              clear hWe
              replace HW := Below.step HW hb9
              replace h3 := h3.later hb9
              clear hb9
              have hg7 := hwk
              refine hK.out _ _ ?_ (fun hHeld => ?_)
              · exact ⟨(D0.later HW).facts.1, (D0.later HW).facts.2.1⟩
              clear hK K
              try simp only [List.setIfInBounds_toArray, List.set_cons_zero, List.set_cons_succ]
              exact till_go J7 (b3, a3, l3, c3, wj.heap.size) rfl (by kernel_rfl) (by (try dsimp only); rw [unhide HA]; simp only [Act.put, List.setIfInBounds_toArray, List.set_cons_zero, List.set_cons_succ]) (by (try dsimp only); exact ⟨HW, h3, B7, hg7⟩)
            · go_simp
              have hwk : W2.heap.size ≤ wj.heap.size := HW.size
              obtain ⟨wk, hWe⟩ : ∃ W', W' = wj.alloc (.cells #[.bool false, .slice none 0 0] 31) := ⟨_, rfl⟩
              obtain ⟨B8, hb9⟩ := boxes1 wj false none 0 0 hWe
              rw [← hWe]
              clear hWe
              replace HW := Below.step HW hb9
              replace h3 := h3.later hb9
              clear hb9
              have hg8 := hwk
              refine hK.out _ _ ?_ (fun hHeld => ?_)
              · exact ⟨(D0.later HW).facts.1, (D0.later HW).facts.2.1⟩
              clear hK K
              try simp only [List.setIfInBounds_toArray, List.set_cons_zero, List.set_cons_succ]
              exact till_go J6 (b3, a3, l3, c3, wj.heap.size) rfl (by kernel_rfl) (by (try dsimp only); rw [unhide HA]; simp only [Act.put, List.setIfInBounds_toArray, List.set_cons_zero, List.set_cons_succ]) (by (try dsimp only); exact ⟨HW, h3, B8, hg8⟩)
          rw [unhide HA]
          refine till_three (i := 2) (j := 9) (k := 10) (by kernel_rfl) rfl rfl rfl (fun K hK => ?_) (fun K hK => ?_) (fun K hK => ?_)
          · go_simp
            refine (satK ao' n' cap' ys l i _ ((h'.later (unhide HB)).later HW) hl (by omega)).mono ?_
            rintro e wk ⟨b3, a3, l3, c3, rfl, h3, hb9⟩
            replace HW := Below.step HW hb9
            clear hb9
            refine hK.out _ _ ?_ (fun hHeld => ?_)
            · exact ⟨(D0.later HW).facts.1, (D0.later HW).facts.2.1⟩
            clear hK K
            try simp only [List.setIfInBounds_toArray, List.set_cons_zero, List.set_cons_succ]
            exact till_go J10 (b3, a3, l3, c3) rfl (by kernel_rfl) (by (try dsimp only); rw [unhide HA]; simp only [Act.put, List.setIfInBounds_toArray, List.set_cons_zero, List.set_cons_succ]) (by (try dsimp only); exact ⟨HW, h3⟩)
          · go_simp
            have hwk : W2.heap.size ≤ vd1.heap.size := HW.size
            obtain ⟨wk, hWe⟩ : ∃ W', W' = vd1.alloc (.cells #[.bool false, .slice none 0 0] 31) := ⟨_, rfl⟩
            obtain ⟨B7, hb9⟩ := boxes1 vd1 false none 0 0 hWe
            rw [← hWe]
            clear hWe
            replace HW := Below.step HW hb9
            clear hb9
            have hg7 := hwk
            refine hK.out _ _ ?_ (fun hHeld => ?_)
            · exact ⟨(D0.later HW).facts.1, (D0.later HW).facts.2.1⟩
            clear hK K
            try simp only [List.setIfInBounds_toArray, List.set_cons_zero, List.set_cons_succ]
            exact till_go J9 vd1.heap.size rfl (by kernel_rfl) (by (try dsimp only); rw [unhide HA]; simp only [Act.put, List.setIfInBounds_toArray, List.set_cons_zero, List.set_cons_succ]) (by (try dsimp only); exact ⟨HW, B7, hg7⟩)
          · go_simp
            have hwk : W2.heap.size ≤ vd1.heap.size := HW.size
            obtain ⟨wk, hWe⟩ : ∃ W', W' = vd1.alloc (.cells #[.bool false, .slice none 0 0] 31) := ⟨_, rfl⟩
            obtain ⟨B8, hb9⟩ := boxes1 vd1 false none 0 0 hWe
            rw [← hWe]
            clear hWe
            replace HW := Below.step HW hb9
            clear hb9
            have hg8 := hwk
            refine hK.out _ _ ?_ (fun hHeld => ?_)
            · exact ⟨(D0.later HW).facts.1, (D0.later HW).facts.2.1⟩
            clear hK K
            try simp only [List.setIfInBounds_toArray, List.set_cons_zero, List.set_cons_succ]
            exact till_go J8 vd1.heap.size rfl (by kernel_rfl) (by (try dsimp only); rw [unhide HA]; simp only [Act.put, List.setIfInBounds_toArray, List.set_cons_zero, List.set_cons_succ]) (by (try dsimp only); exact ⟨HW, B8, hg8⟩)
      · have hin : i = n := by omega
        obtain ⟨f1, f2, _, _⟩ := C1.facts
        have hs1 := C1.lt
        have hsz := C0.lt
        obtain ⟨q1, q2, q3, q4⟩ := C0.facts
        go_wp2
        refine bodyPost_ret (v := .agg #[.bool b1, .slice a1 l1 c1]) (by simp [results, Try.results25, go_sem, *]) rfl ⟨_, _, _, _, M, rfl, ?_⟩
        exact ⟨hM.put C0.noLimb _ _ _ _, (unhide HF).done (by have := unhide HL; omega) (unhide ER).symm, below_put (unhide HB) (by omega) _ _ _ _⟩
  · have hr' : r = false := by simpa using hr
    subst hr'
    obtain ⟨q1, q2, q3, q4⟩ := B0.facts
    have hsz := B0.lt
    go_wp2
    refine bodyPost_ret (v := .agg #[.bool false, .slice none 0 0]) (by simp [results, Try.results25, go_sem, *]) rfl ⟨_, _, _, _, 0, rfl, ?_⟩
    exact ⟨(fk_zero w1 l).put B0.noLimb _ _ _ _, isFit_none (unhide ER).symm, below_put (unhide HB) (by omega) _ _ _ _⟩

#print axioms sfitsK
end Go.Proofs.Ytgppplhbhgfmkaa
