/-
  What Lcm of package bezout tells.
-/
import Derived.Test.YtobiogedknmijaaBGcd
import Derived.Test.YtobiogedknmijaaTill2
import Derived.Deep.CutRange
namespace Go.Proofs.Ytobiogedknmijaa
open Go.RowKit Lb

/-- Quo by whatever number, 0 among them. -/
theorem quoA (b : Bool) (aa : Option Addr) (la ca : Nat) (x : Int) (k : Nat) (b' : Bool) (ab : Option Addr) (lb cb : Nat) (y : Int) (l : Nat) (w : World) (hx : IK w b aa la ca x k) (hy : IK w b' ab lb cb y l) :
    Calls Try.prog 40 #[.agg #[.bool b, .slice aa la ca], .agg #[.bool b', .slice ab lb cb]] w fun e w' => ∃ b1 a1 l1 c1 b2 a2 l2 c2 q, e = .returned (.tuple #[.agg #[.bool b1, .slice a1 l1 c1], .agg #[.bool b2, .slice a2 l2 c2], .bool q]) ∧ FK w' b1 a1 l1 c1 (x.tdiv y) k ∧ Below w.heap.size w w' := by
  by_cases h0 : y = 0
  · subst h0
    refine (quoN _ _ _ _ x k _ _ _ _ l _ hx hy).mono ?_
    rintro e w' ⟨rfl, hb⟩
    exact ⟨_, _, _, _, _, _, _, _, _, rfl, by rw [Int.tdiv_zero]; exact fk_zero _ _, hb⟩
  · refine (quoK _ _ _ _ x k _ _ _ _ y l _ hx hy h0).mono ?_
    rintro e w' ⟨b1, a1, l1, c1, b2, a2, l2, c2, rfl, h1, _, hb⟩
    exact ⟨_, _, _, _, _, _, _, _, _, rfl, h1, hb⟩

set_option maxHeartbeats 4000000 in
theorem lcmK (b : Bool) (aa : Option Addr) (la ca : Nat) (x : Int) (k : Nat) (b' : Bool) (ab : Option Addr) (lb cb : Nat) (y : Int) (l : Nat) (w : World) (hx : IK w b aa la ca x k) (hy : IK w b' ab lb cb y l) (hk : k ≤ 90000) (hl : l ≤ 90000) :
    Calls Try.prog 19 #[.agg #[.bool b, .slice aa la ca], .agg #[.bool b', .slice ab lb cb]] w fun e w' => ∃ b1 a1 l1 c1, e = .returned (.agg #[.bool b1, .slice a1 l1 c1]) ∧ FK w' b1 a1 l1 c1 ((x.tdiv (Int.gcd x y : Int) * y).natAbs : Int) (k + l) ∧ Below w.heap.size w w' := by
  go_enter Try.func19, Try.ntmps19
  go_upto_region 1 with fail
  obtain ⟨W, hWe⟩ : ∃ W, W = (((w.alloc (.cells #[.bool b, .slice aa la ca] 24)).alloc (.cells #[.bool b', .slice ab lb cb] 24)).alloc (.cells #[.bool false, .slice none 0 0] 24)) := ⟨_, rfl⟩
  obtain ⟨B0, B1, B2, hb0⟩ := boxes3 w b aa la ca b' ab lb cb false none 0 0 hWe
  rw [← hWe]
  clear hWe
  replace hx := hx.later hb0
  replace hy := hy.later hb0
  have HB := hide hb0
  clear hb0
  have hsW := B2.lt
  have HW : Below W.heap.size W W.drew := (Below.refl _ _).drew
  refine till_start (fun w' => w'.cell? ⟨w.heap.size, 0, none⟩ = some (.bool b) ∧ w'.cell? ⟨w.heap.size, 1, none⟩ = some (.slice aa la ca) ∧ w'.cell? ⟨w.heap.size + 1, 0, none⟩ = some (.bool b') ∧ w'.cell? ⟨w.heap.size + 1, 1, none⟩ = some (.slice ab lb cb)) 11 (by kernel_rfl) ?_ (fun hHeld => ?_)
  · exact ⟨(B0.later HW).facts.1, (B0.later HW).facts.2.1, (B1.later HW).facts.1, (B1.later HW).facts.2.1⟩
  obtain ⟨vd1, hvd⟩ : ∃ v, v = W.drew := ⟨_, rfl⟩
  rw [← hvd] at HW hHeld ⊢
  clear hvd
  refine till_take (i := 0) (v := ?_) [4, 5, 6, 7, 8, 11, 12, 13] rfl (by kernel_rfl) (by kernel_rfl) (by kernel_rfl) (by kernel_rfl) (fun _ _ _ h => h) (Or.inl ⟨by rfl, ?_⟩) (by assumption) ?_
  rotate_left
  · (intro wx hSw; (try dsimp only at hSw); go_simp; (try rw [if_neg (by omega)]); try with_reducible rfl)
  simp only [Act.put, List.getElem_toArray, List.getElem_cons_zero, List.setIfInBounds_toArray, List.set_cons_zero, List.set_cons_succ]
  refine till_take (i := 1) (v := ?_) [3, 4, 5, 6, 7, 8, 11, 12, 13] rfl (by kernel_rfl) (by kernel_rfl) (by kernel_rfl) (by kernel_rfl) (fun _ _ _ h => h) (Or.inl ⟨by rfl, ?_⟩) (by assumption) ?_
  rotate_left
  · (intro wx hSw; (try dsimp only at hSw); go_simp; (try rw [if_neg (by omega)]); try with_reducible rfl)
  simp only [Act.put, List.getElem_toArray, List.getElem_cons_succ, List.getElem_cons_zero, List.setIfInBounds_toArray, List.set_cons_zero, List.set_cons_succ]
  refine till_take (i := 2) (v := ?_) [3, 4, 5, 6, 7, 8, 11, 12, 13] rfl (by kernel_rfl) (by kernel_rfl) (by kernel_rfl) (by kernel_rfl) (fun _ _ _ h => h) (Or.inl ⟨by rfl, ?_⟩) (by assumption) ?_
  rotate_left
  · (intro wx hSw; (try dsimp only at hSw); go_simp; (try rw [if_neg (by omega)]); try with_reducible rfl)
  simp only [Act.put, List.getElem_toArray, List.getElem_cons_succ, List.getElem_cons_zero, List.setIfInBounds_toArray, List.set_cons_zero, List.set_cons_succ]
  refine till_name (fun a0 ha0 => ?_)
  have HA := hide ha0
  clear ha0
  refine till_mid 3 #[true, true, true, true, true, true, true, true, true, true, true, false, false, false] (ι := Bool × Option Addr × Nat × Nat × Bool × Option Addr × Nat × Nat × Bool × Option Addr × Nat × Nat × Bool × Nat × Nat) (fun (bg, ag, lg, cg, bq, aq, lq, cq, br, ar, lr, cr, qq, g5, g6) => ((((((((a0.put (some 12) (.agg #[.bool bg, .slice ag lg cg])).put (some 13) (.tuple #[.agg #[.bool bq, .slice aq lq cq], .agg #[.bool br, .slice ar lr cr], .bool qq])).put (some 8) (.tuple #[.agg #[.bool bq, .slice aq lq cq], .agg #[.bool br, .slice ar lr cr], .bool qq])).put (some 14) (.agg #[.bool bq, .slice aq lq cq])).put (some 15) (.agg #[.bool br, .slice ar lr cr])).put (some 16) (.bool qq)).put (some 5) ((.pointer (some ⟨g5, 0, none⟩)))).put (some 6) ((.pointer (some ⟨g6, 0, none⟩))))) (fun (bg, ag, lg, cg, bq, aq, lq, cq, br, ar, lr, cr, qq, g5, g6) w => Below W.heap.size W w ∧ FK w bq aq lq cq (x.tdiv (Int.gcd x y : Int)) k ∧ Box w g5 false none 0 0 ∧ W.heap.size ≤ g5 ∧ Box w g6 false none 0 0 ∧ W.heap.size ≤ g6 ∧ g5 ≠ g6) ?_ (fun J0 => ?_)
  · rintro ⟨bg, ag, lg, cg, bq, aq, lq, cq, br, ar, lr, cr, qq, g5, g6⟩ wj hI
    try dsimp only at hI ⊢
    obtain ⟨HW, hq, B5, hg5, B6, hg6, hneg5g6⟩ := hI
    have hHeld : wj.cell? ⟨w.heap.size, 0, none⟩ = some (.bool b) ∧ wj.cell? ⟨w.heap.size, 1, none⟩ = some (.slice aa la ca) ∧ wj.cell? ⟨w.heap.size + 1, 0, none⟩ = some (.bool b') ∧ wj.cell? ⟨w.heap.size + 1, 1, none⟩ = some (.slice ab lb cb) := by exact ⟨(B0.later HW).facts.1, (B0.later HW).facts.2.1, (B1.later HW).facts.1, (B1.later HW).facts.2.1⟩
    rw [unhide HA]
    simp only [Act.put, List.setIfInBounds_toArray, List.set_cons_zero, List.set_cons_succ]
    obtain ⟨q1B5, q2B5, q3B5, q4B5⟩ := B5.facts
    have hltB5 := B5.lt
    obtain ⟨q1B6, q2B6, q3B6, q4B6⟩ := B6.facts
    have hltB6 := B6.lt
    refine till_out (i := 11) (by kernel_rfl) rfl (by kernel_rfl) (fun K hK => ?_)
    go_simp
    refine hK.out _ _ ?_
    clear hK K
    try simp only [List.setIfInBounds_toArray, List.set_cons_zero, List.set_cons_succ]
    refine till_out (i := 12) (by kernel_rfl) rfl (by kernel_rfl) (fun K hK => ?_)
    go_simp
    refine hK.out _ _ ?_
    clear hK K
    try simp only [List.setIfInBounds_toArray, List.set_cons_zero, List.set_cons_succ]
    refine till_out (i := 13) (by kernel_rfl) rfl (by kernel_rfl) (fun K hK => ?_)
    go_simp
    refine hK.out _ _ ?_
    clear hK K
    try simp only [List.setIfInBounds_toArray, List.set_cons_zero, List.set_cons_succ]
    refine till_done (by kernel_rfl) ?_ _
    have n5 := B5.noLimb
    have n6 := (B6.other (g' := g5) (Ne.symm hneg5g6) bq aq lq cq).noLimb
    obtain ⟨W5, hW5⟩ : ∃ W5, W5 = ((((wj.setCell ⟨g5, 0, none⟩ (.bool bq)).setCell ⟨g5, 1, none⟩ (.slice aq lq cq)).setCell ⟨g6, 0, none⟩ (.bool br)).setCell ⟨g6, 1, none⟩ (.slice ar lr cr)) := ⟨_, rfl⟩
    rw [← hW5]
    have D5 : Box W5 g5 bq aq lq cq := by rw [hW5]; exact (B5.put bq aq lq cq).other (g' := g6) hneg5g6 br ar lr cr
    have h2 : Box W5 (w.heap.size + 2) false none 0 0 := by rw [hW5]; exact ((B2.later HW).other (g' := g5) (by omega) bq aq lq cq).other (g' := g6) (by omega) br ar lr cr
    have h1 : Box W5 (w.heap.size + 1) b' ab lb cb := by rw [hW5]; exact ((B1.later HW).other (g' := g5) (by omega) bq aq lq cq).other (g' := g6) (by omega) br ar lr cr
    have hq5 : FK W5 bq aq lq cq (x.tdiv (Int.gcd x y : Int)) k := by rw [hW5]; exact (hq.put n5 bq aq lq cq).put n6 br ar lr cr
    have hy5 : IK W5 b' ab lb cb y l := by rw [hW5]; exact ((hy.later HW).put n5 _ _ _ _).put n6 _ _ _ _
    have HB5 : Hid (Below w.heap.size w W5) := by rw [hW5]; exact below_put (below_put (Below.step (unhide HB) HW) (by omega) _ _ _ _) (by omega) _ _ _ _
    clear hW5 HW HB hx hy hq B0 B1 B2 B5 B6 n5 n6 hHeld q1B5 q2B5 q3B5 q4B5 q1B6 q2B6 q3B6 q4B6
    obtain ⟨f1, f2, _, _⟩ := D5.facts
    obtain ⟨f3, f4, _, _⟩ := h1.facts
    go_wp2_with fail
    refine (mulK bq aq lq cq (x.tdiv (Int.gcd x y : Int)) k b' ab lb cb y l _ (hq5.ik (by omega)) hy5).mono ?_
    rintro e w7 ⟨bm, am, lm, cm, rfl, hm, hb9⟩
    replace h2 := h2.later hb9
    replace HB5 := hide (Below.step (unhide HB5) hb9)
    clear hb9 f1 f2 f3 f4 D5 h1 hq5 hy5
    go_wp2_with fail
    refine (absK bm am lm cm ((x.tdiv (Int.gcd x y : Int)) * y) (k + l) _ (hm.ik (by omega))).mono ?_
    rintro e w8 ⟨bn, an, ln, cn, rfl, hn, hb9⟩
    replace h2 := h2.later hb9
    replace HB5 := hide (Below.step (unhide HB5) hb9)
    clear hb9 hm
    have hsz := h2.lt
    obtain ⟨q1, q2, q3, q4⟩ := h2.facts
    go_wp2
    refine bodyPost_ret (v := .agg #[.bool bn, .slice an ln cn]) (by simp [results, Try.results19, go_sem, *]) rfl ⟨_, _, _, _, rfl, ?_⟩
    exact ⟨hn.put h2.noLimb _ _ _ _, below_put (unhide HB5) (by omega) _ _ _ _⟩
  refine till_mid 4 #[true, true, true, true, true, true, true, true, true, false, true, false, false, false] (ι := Bool × Option Addr × Nat × Nat × Bool × Option Addr × Nat × Nat × Bool × Option Addr × Nat × Nat × Bool × Nat) (fun (bg, ag, lg, cg, bq, aq, lq, cq, br, ar, lr, cr, qq, g6) => (((((((a0.put (some 12) (.agg #[.bool bg, .slice ag lg cg])).put (some 13) (.tuple #[.agg #[.bool bq, .slice aq lq cq], .agg #[.bool br, .slice ar lr cr], .bool qq])).put (some 8) (.tuple #[.agg #[.bool bq, .slice aq lq cq], .agg #[.bool br, .slice ar lr cr], .bool qq])).put (some 14) (.agg #[.bool bq, .slice aq lq cq])).put (some 15) (.agg #[.bool br, .slice ar lr cr])).put (some 16) (.bool qq)).put (some 6) ((.pointer (some ⟨g6, 0, none⟩))))) (fun (bg, ag, lg, cg, bq, aq, lq, cq, br, ar, lr, cr, qq, g6) w => Below W.heap.size W w ∧ FK w bq aq lq cq (x.tdiv (Int.gcd x y : Int)) k ∧ Box w g6 false none 0 0 ∧ W.heap.size ≤ g6) ?_ (fun J1 => ?_)
  · rintro ⟨bg, ag, lg, cg, bq, aq, lq, cq, br, ar, lr, cr, qq, g6⟩ wj hI
    try dsimp only at hI ⊢
    obtain ⟨HW, hq, B6, hg6⟩ := hI
    have hHeld : wj.cell? ⟨w.heap.size, 0, none⟩ = some (.bool b) ∧ wj.cell? ⟨w.heap.size, 1, none⟩ = some (.slice aa la ca) ∧ wj.cell? ⟨w.heap.size + 1, 0, none⟩ = some (.bool b') ∧ wj.cell? ⟨w.heap.size + 1, 1, none⟩ = some (.slice ab lb cb) := by exact ⟨(B0.later HW).facts.1, (B0.later HW).facts.2.1, (B1.later HW).facts.1, (B1.later HW).facts.2.1⟩
    rw [unhide HA]
    simp only [Act.put, List.setIfInBounds_toArray, List.set_cons_zero, List.set_cons_succ]
    refine till_in (i := 9) (by kernel_rfl) rfl (fun K hK => ?_)
    go_simp
    have hwk : W.heap.size ≤ wj.heap.size := HW.size
    have hxg6 := B6.lt
    obtain ⟨wk, hWe⟩ : ∃ W', W' = wj.alloc (.cells #[.bool false, .slice none 0 0] 24) := ⟨_, rfl⟩
    obtain ⟨B5, hb9⟩ := boxes1 wj false none 0 0 hWe
    rw [← hWe]
    clear hWe
    replace HW := Below.step HW hb9
    replace hq := hq.later hb9
    replace B6 := B6.later hb9
    clear hb9
    have hg5 := hwk
    have hneg5g6 : wj.heap.size ≠ g6 := by omega
    refine hK.out _ _ ?_ (fun hHeld => ?_)
    · exact ⟨(B0.later HW).facts.1, (B0.later HW).facts.2.1, (B1.later HW).facts.1, (B1.later HW).facts.2.1⟩
    clear hK K
    try simp only [List.setIfInBounds_toArray, List.set_cons_zero, List.set_cons_succ]
    exact till_go J0 (bg, ag, lg, cg, bq, aq, lq, cq, br, ar, lr, cr, qq, wj.heap.size, g6) rfl (by kernel_rfl) (by (try dsimp only); rw [unhide HA]; rfl) (by (try dsimp only); exact ⟨HW, hq, B5, hg5, B6, hg6, hneg5g6⟩)
  refine till_mid 4 #[true, true, true, true, true, true, true, true, true, true, false, false, false, false] (ι := Bool × Option Addr × Nat × Nat × Bool × Option Addr × Nat × Nat × Bool × Option Addr × Nat × Nat × Bool × Nat) (fun (bg, ag, lg, cg, bq, aq, lq, cq, br, ar, lr, cr, qq, g5) => (((((((a0.put (some 12) (.agg #[.bool bg, .slice ag lg cg])).put (some 13) (.tuple #[.agg #[.bool bq, .slice aq lq cq], .agg #[.bool br, .slice ar lr cr], .bool qq])).put (some 8) (.tuple #[.agg #[.bool bq, .slice aq lq cq], .agg #[.bool br, .slice ar lr cr], .bool qq])).put (some 14) (.agg #[.bool bq, .slice aq lq cq])).put (some 15) (.agg #[.bool br, .slice ar lr cr])).put (some 16) (.bool qq)).put (some 5) ((.pointer (some ⟨g5, 0, none⟩))))) (fun (bg, ag, lg, cg, bq, aq, lq, cq, br, ar, lr, cr, qq, g5) w => Below W.heap.size W w ∧ FK w bq aq lq cq (x.tdiv (Int.gcd x y : Int)) k ∧ Box w g5 false none 0 0 ∧ W.heap.size ≤ g5) ?_ (fun J2 => ?_)
  · rintro ⟨bg, ag, lg, cg, bq, aq, lq, cq, br, ar, lr, cr, qq, g5⟩ wj hI
    try dsimp only at hI ⊢
    obtain ⟨HW, hq, B5, hg5⟩ := hI
    have hHeld : wj.cell? ⟨w.heap.size, 0, none⟩ = some (.bool b) ∧ wj.cell? ⟨w.heap.size, 1, none⟩ = some (.slice aa la ca) ∧ wj.cell? ⟨w.heap.size + 1, 0, none⟩ = some (.bool b') ∧ wj.cell? ⟨w.heap.size + 1, 1, none⟩ = some (.slice ab lb cb) := by exact ⟨(B0.later HW).facts.1, (B0.later HW).facts.2.1, (B1.later HW).facts.1, (B1.later HW).facts.2.1⟩
    rw [unhide HA]
    simp only [Act.put, List.setIfInBounds_toArray, List.set_cons_zero, List.set_cons_succ]
    refine till_in (i := 10) (by kernel_rfl) rfl (fun K hK => ?_)
    go_simp
    have hwk : W.heap.size ≤ wj.heap.size := HW.size
    have hxg5 := B5.lt
    obtain ⟨wk, hWe⟩ : ∃ W', W' = wj.alloc (.cells #[.bool false, .slice none 0 0] 24) := ⟨_, rfl⟩
    obtain ⟨B6, hb9⟩ := boxes1 wj false none 0 0 hWe
    rw [← hWe]
    clear hWe
    replace HW := Below.step HW hb9
    replace hq := hq.later hb9
    replace B5 := B5.later hb9
    clear hb9
    have hg6 := hwk
    have hneg5g6 : g5 ≠ wj.heap.size := by omega
    refine hK.out _ _ ?_ (fun hHeld => ?_)
    · exact ⟨(B0.later HW).facts.1, (B0.later HW).facts.2.1, (B1.later HW).facts.1, (B1.later HW).facts.2.1⟩
    clear hK K
    try simp only [List.setIfInBounds_toArray, List.set_cons_zero, List.set_cons_succ]
    exact till_go J0 (bg, ag, lg, cg, bq, aq, lq, cq, br, ar, lr, cr, qq, g5, wj.heap.size) rfl (by kernel_rfl) (by (try dsimp only); rw [unhide HA]; rfl) (by (try dsimp only); exact ⟨HW, hq, B5, hg5, B6, hg6, hneg5g6⟩)
  refine till_mid 5 #[true, true, true, true, true, true, true, true, true, false, false, false, false, false] (ι := Bool × Option Addr × Nat × Nat × Bool × Option Addr × Nat × Nat × Bool × Option Addr × Nat × Nat × Bool) (fun (bg, ag, lg, cg, bq, aq, lq, cq, br, ar, lr, cr, qq) => ((((((a0.put (some 12) (.agg #[.bool bg, .slice ag lg cg])).put (some 13) (.tuple #[.agg #[.bool bq, .slice aq lq cq], .agg #[.bool br, .slice ar lr cr], .bool qq])).put (some 8) (.tuple #[.agg #[.bool bq, .slice aq lq cq], .agg #[.bool br, .slice ar lr cr], .bool qq])).put (some 14) (.agg #[.bool bq, .slice aq lq cq])).put (some 15) (.agg #[.bool br, .slice ar lr cr])).put (some 16) (.bool qq))) (fun (bg, ag, lg, cg, bq, aq, lq, cq, br, ar, lr, cr, qq) w => Below W.heap.size W w ∧ FK w bq aq lq cq (x.tdiv (Int.gcd x y : Int)) k) ?_ (fun J3 => ?_)
  · rintro ⟨bg, ag, lg, cg, bq, aq, lq, cq, br, ar, lr, cr, qq⟩ wj hI
    try dsimp only at hI ⊢
    obtain ⟨HW, hq⟩ := hI
    have hHeld : wj.cell? ⟨w.heap.size, 0, none⟩ = some (.bool b) ∧ wj.cell? ⟨w.heap.size, 1, none⟩ = some (.slice aa la ca) ∧ wj.cell? ⟨w.heap.size + 1, 0, none⟩ = some (.bool b') ∧ wj.cell? ⟨w.heap.size + 1, 1, none⟩ = some (.slice ab lb cb) := by exact ⟨(B0.later HW).facts.1, (B0.later HW).facts.2.1, (B1.later HW).facts.1, (B1.later HW).facts.2.1⟩
    rw [unhide HA]
    simp only [Act.put, List.setIfInBounds_toArray, List.set_cons_zero, List.set_cons_succ]
    refine till_two (i := 9) (j := 10) (by kernel_rfl) rfl rfl (fun K hK => ?_) (fun K hK => ?_)
    · go_simp
      have hwk : W.heap.size ≤ wj.heap.size := HW.size
      obtain ⟨wk, hWe⟩ : ∃ W', W' = wj.alloc (.cells #[.bool false, .slice none 0 0] 24) := ⟨_, rfl⟩
      obtain ⟨B5, hb9⟩ := boxes1 wj false none 0 0 hWe
      rw [← hWe]
      clear hWe
      replace HW := Below.step HW hb9
      replace hq := hq.later hb9
      clear hb9
      have hg5 := hwk
      refine hK.out _ _ ?_ (fun hHeld => ?_)
      · exact ⟨(B0.later HW).facts.1, (B0.later HW).facts.2.1, (B1.later HW).facts.1, (B1.later HW).facts.2.1⟩
      clear hK K
      try simp only [List.setIfInBounds_toArray, List.set_cons_zero, List.set_cons_succ]
      exact till_go J2 (bg, ag, lg, cg, bq, aq, lq, cq, br, ar, lr, cr, qq, wj.heap.size) rfl (by kernel_rfl) (by (try dsimp only); rw [unhide HA]; rfl) (by (try dsimp only); exact ⟨HW, hq, B5, hg5⟩)
    · go_simp
      have hwk : W.heap.size ≤ wj.heap.size := HW.size
      obtain ⟨wk, hWe⟩ : ∃ W', W' = wj.alloc (.cells #[.bool false, .slice none 0 0] 24) := ⟨_, rfl⟩
      obtain ⟨B6, hb9⟩ := boxes1 wj false none 0 0 hWe
      rw [← hWe]
      clear hWe
      replace HW := Below.step HW hb9
      replace hq := hq.later hb9
      clear hb9
      have hg6 := hwk
      refine hK.out _ _ ?_ (fun hHeld => ?_)
      · exact ⟨(B0.later HW).facts.1, (B0.later HW).facts.2.1, (B1.later HW).facts.1, (B1.later HW).facts.2.1⟩
      clear hK K
      try simp only [List.setIfInBounds_toArray, List.set_cons_zero, List.set_cons_succ]
      exact till_go J1 (bg, ag, lg, cg, bq, aq, lq, cq, br, ar, lr, cr, qq, wj.heap.size) rfl (by kernel_rfl) (by (try dsimp only); rw [unhide HA]; rfl) (by (try dsimp only); exact ⟨HW, hq, B6, hg6⟩)
  refine till_mid 8 #[true, true, true, true, false, false, false, false, false, true, true, false, false, false] (ι := Bool × Option Addr × Nat × Nat × Nat × Nat) (fun (bg, ag, lg, cg, g5, g6) => (((a0.put (some 12) (.agg #[.bool bg, .slice ag lg cg])).put (some 5) ((.pointer (some ⟨g5, 0, none⟩)))).put (some 6) ((.pointer (some ⟨g6, 0, none⟩))))) (fun (bg, ag, lg, cg, g5, g6) w => Below W.heap.size W w ∧ FK w bg ag lg cg (Int.gcd x y : Int) (max k l) ∧ Box w g5 false none 0 0 ∧ W.heap.size ≤ g5 ∧ Box w g6 false none 0 0 ∧ W.heap.size ≤ g6 ∧ g5 ≠ g6) ?_ (fun J4 => ?_)
  · rintro ⟨bg, ag, lg, cg, g5, g6⟩ wj hI
    try dsimp only at hI ⊢
    obtain ⟨HW, hg, B5, hg5, B6, hg6, hneg5g6⟩ := hI
    have hHeld : wj.cell? ⟨w.heap.size, 0, none⟩ = some (.bool b) ∧ wj.cell? ⟨w.heap.size, 1, none⟩ = some (.slice aa la ca) ∧ wj.cell? ⟨w.heap.size + 1, 0, none⟩ = some (.bool b') ∧ wj.cell? ⟨w.heap.size + 1, 1, none⟩ = some (.slice ab lb cb) := by exact ⟨(B0.later HW).facts.1, (B0.later HW).facts.2.1, (B1.later HW).facts.1, (B1.later HW).facts.2.1⟩
    rw [unhide HA]
    simp only [Act.put, List.setIfInBounds_toArray, List.set_cons_zero, List.set_cons_succ]
    refine till_in (i := 4) (by kernel_rfl) rfl (fun K hK => ?_)
    go_simp
    refine (quoA b aa la ca x k bg ag lg cg (Int.gcd x y : Int) (max k l) _ (hx.later HW) (hg.ik (by omega))).mono ?_
    rintro e wk ⟨bq, aq, lq, cq, br, ar, lr, cr, qq, rfl, hq, hb9⟩
    replace HW := Below.step HW hb9
    replace B5 := B5.later hb9
    replace B6 := B6.later hb9
    clear hb9 hg
    refine hK.out _ _ ?_ (fun hHeld => ?_)
    · exact ⟨(B0.later HW).facts.1, (B0.later HW).facts.2.1, (B1.later HW).facts.1, (B1.later HW).facts.2.1⟩
    clear hK K
    try simp only [List.setIfInBounds_toArray, List.set_cons_zero, List.set_cons_succ]
    refine till_free (i := 5) (v := ?_) rfl (by kernel_rfl) (by kernel_rfl) (by kernel_rfl) (by kernel_rfl) (fun _ _ _ h => h) (Or.inl ⟨by rfl, ?_⟩) (by assumption) ?_
    rotate_left
    · (intro wx hSw; (try dsimp only at hSw); go_simp; (try rw [if_neg (by omega)]); try with_reducible rfl)
    simp only [Act.put, List.getElem_toArray, List.getElem_cons_succ, List.getElem_cons_zero, List.setIfInBounds_toArray, List.set_cons_zero, List.set_cons_succ]
    refine till_free (i := 6) (v := ?_) rfl (by kernel_rfl) (by kernel_rfl) (by kernel_rfl) (by kernel_rfl) (fun _ _ _ h => h) (Or.inl ⟨by rfl, ?_⟩) (by assumption) ?_
    rotate_left
    · (intro wx hSw; (try dsimp only at hSw); go_simp; (try rw [if_neg (by omega)]); try with_reducible rfl)
    simp only [Act.put, List.getElem_toArray, List.getElem_cons_succ, List.getElem_cons_zero, List.setIfInBounds_toArray, List.set_cons_zero, List.set_cons_succ]
    refine till_free (i := 7) (v := ?_) rfl (by kernel_rfl) (by kernel_rfl) (by kernel_rfl) (by kernel_rfl) (fun _ _ _ h => h) (Or.inl ⟨by rfl, ?_⟩) (by assumption) ?_
    rotate_left
    · (intro wx hSw; (try dsimp only at hSw); go_simp; (try rw [if_neg (by omega)]); try with_reducible rfl)
    simp only [Act.put, List.getElem_toArray, List.getElem_cons_succ, List.getElem_cons_zero, List.setIfInBounds_toArray, List.set_cons_zero, List.set_cons_succ]
    refine till_free (i := 8) (v := ?_) rfl (by kernel_rfl) (by kernel_rfl) (by kernel_rfl) (by kernel_rfl) (fun _ _ _ h => h) (Or.inl ⟨by rfl, ?_⟩) (by assumption) ?_
    rotate_left
    · (intro wx hSw; (try dsimp only at hSw); go_simp; (try rw [if_neg (by omega)]); try with_reducible rfl)
    simp only [Act.put, List.getElem_toArray, List.getElem_cons_succ, List.getElem_cons_zero, List.setIfInBounds_toArray, List.set_cons_zero, List.set_cons_succ]
    exact till_go J0 (bg, ag, lg, cg, bq, aq, lq, cq, br, ar, lr, cr, qq, g5, g6) rfl (by kernel_rfl) (by (try dsimp only); rw [unhide HA]; rfl) (by (try dsimp only); exact ⟨HW, hq, B5, hg5, B6, hg6, hneg5g6⟩)
  refine till_mid 9 #[true, true, true, false, false, false, false, false, false, true, true, false, false, false] (ι := Nat × Nat) (fun (g5, g6) => ((a0.put (some 5) ((.pointer (some ⟨g5, 0, none⟩)))).put (some 6) ((.pointer (some ⟨g6, 0, none⟩))))) (fun (g5, g6) w => Below W.heap.size W w ∧ Box w g5 false none 0 0 ∧ W.heap.size ≤ g5 ∧ Box w g6 false none 0 0 ∧ W.heap.size ≤ g6 ∧ g5 ≠ g6) ?_ (fun J5 => ?_)
  · rintro ⟨g5, g6⟩ wj hI
    try dsimp only at hI ⊢
    obtain ⟨HW, B5, hg5, B6, hg6, hneg5g6⟩ := hI
    have hHeld : wj.cell? ⟨w.heap.size, 0, none⟩ = some (.bool b) ∧ wj.cell? ⟨w.heap.size, 1, none⟩ = some (.slice aa la ca) ∧ wj.cell? ⟨w.heap.size + 1, 0, none⟩ = some (.bool b') ∧ wj.cell? ⟨w.heap.size + 1, 1, none⟩ = some (.slice ab lb cb) := by exact ⟨(B0.later HW).facts.1, (B0.later HW).facts.2.1, (B1.later HW).facts.1, (B1.later HW).facts.2.1⟩
    rw [unhide HA]
    simp only [Act.put, List.setIfInBounds_toArray, List.set_cons_zero, List.set_cons_succ]
    refine till_in (i := 3) (by kernel_rfl) rfl (fun K hK => ?_)
    go_simp
    refine (gcdK b aa la ca x k b' ab lb cb y l _ (hx.later HW) (hy.later HW) (by omega) (by omega)).mono ?_
    rintro e wk ⟨bg, ag, lg, cg, rfl, hg, hb9⟩
    replace HW := Below.step HW hb9
    replace B5 := B5.later hb9
    replace B6 := B6.later hb9
    clear hb9
    refine hK.out _ _ ?_ (fun hHeld => ?_)
    · exact ⟨(B0.later HW).facts.1, (B0.later HW).facts.2.1, (B1.later HW).facts.1, (B1.later HW).facts.2.1⟩
    clear hK K
    try simp only [List.setIfInBounds_toArray, List.set_cons_zero, List.set_cons_succ]
    exact till_go J4 (bg, ag, lg, cg, g5, g6) rfl (by kernel_rfl) (by (try dsimp only); rw [unhide HA]; rfl) (by (try dsimp only); exact ⟨HW, hg, B5, hg5, B6, hg6, hneg5g6⟩)
  refine till_mid 9 #[true, true, true, true, false, false, false, false, false, false, true, false, false, false] (ι := Bool × Option Addr × Nat × Nat × Nat) (fun (bg, ag, lg, cg, g6) => ((a0.put (some 12) (.agg #[.bool bg, .slice ag lg cg])).put (some 6) ((.pointer (some ⟨g6, 0, none⟩))))) (fun (bg, ag, lg, cg, g6) w => Below W.heap.size W w ∧ FK w bg ag lg cg (Int.gcd x y : Int) (max k l) ∧ Box w g6 false none 0 0 ∧ W.heap.size ≤ g6) ?_ (fun J6 => ?_)
  · rintro ⟨bg, ag, lg, cg, g6⟩ wj hI
    try dsimp only at hI ⊢
    obtain ⟨HW, hg, B6, hg6⟩ := hI
    have hHeld : wj.cell? ⟨w.heap.size, 0, none⟩ = some (.bool b) ∧ wj.cell? ⟨w.heap.size, 1, none⟩ = some (.slice aa la ca) ∧ wj.cell? ⟨w.heap.size + 1, 0, none⟩ = some (.bool b') ∧ wj.cell? ⟨w.heap.size + 1, 1, none⟩ = some (.slice ab lb cb) := by exact ⟨(B0.later HW).facts.1, (B0.later HW).facts.2.1, (B1.later HW).facts.1, (B1.later HW).facts.2.1⟩
    rw [unhide HA]
    simp only [Act.put, List.setIfInBounds_toArray, List.set_cons_zero, List.set_cons_succ]
    refine till_two (i := 4) (j := 9) (by kernel_rfl) rfl rfl (fun K hK => ?_) (fun K hK => ?_)
    · go_simp
      refine (quoA b aa la ca x k bg ag lg cg (Int.gcd x y : Int) (max k l) _ (hx.later HW) (hg.ik (by omega))).mono ?_
      rintro e wk ⟨bq, aq, lq, cq, br, ar, lr, cr, qq, rfl, hq, hb9⟩
      replace HW := Below.step HW hb9
      replace B6 := B6.later hb9
      clear hb9 hg
      refine hK.out _ _ ?_ (fun hHeld => ?_)
      · exact ⟨(B0.later HW).facts.1, (B0.later HW).facts.2.1, (B1.later HW).facts.1, (B1.later HW).facts.2.1⟩
      clear hK K
      try simp only [List.setIfInBounds_toArray, List.set_cons_zero, List.set_cons_succ]
      refine till_free (i := 5) (v := ?_) rfl (by kernel_rfl) (by kernel_rfl) (by kernel_rfl) (by kernel_rfl) (fun _ _ _ h => h) (Or.inl ⟨by rfl, ?_⟩) (by assumption) ?_
      rotate_left
      · (intro wx hSw; (try dsimp only at hSw); go_simp; (try rw [if_neg (by omega)]); try with_reducible rfl)
      simp only [Act.put, List.getElem_toArray, List.getElem_cons_succ, List.getElem_cons_zero, List.setIfInBounds_toArray, List.set_cons_zero, List.set_cons_succ]
      refine till_free (i := 6) (v := ?_) rfl (by kernel_rfl) (by kernel_rfl) (by kernel_rfl) (by kernel_rfl) (fun _ _ _ h => h) (Or.inl ⟨by rfl, ?_⟩) (by assumption) ?_
      rotate_left
      · (intro wx hSw; (try dsimp only at hSw); go_simp; (try rw [if_neg (by omega)]); try with_reducible rfl)
      simp only [Act.put, List.getElem_toArray, List.getElem_cons_succ, List.getElem_cons_zero, List.setIfInBounds_toArray, List.set_cons_zero, List.set_cons_succ]
      refine till_free (i := 7) (v := ?_) rfl (by kernel_rfl) (by kernel_rfl) (by kernel_rfl) (by kernel_rfl) (fun _ _ _ h => h) (Or.inl ⟨by rfl, ?_⟩) (by assumption) ?_
      rotate_left
      · (intro wx hSw; (try dsimp only at hSw); go_simp; (try rw [if_neg (by omega)]); try with_reducible rfl)
      simp only [Act.put, List.getElem_toArray, List.getElem_cons_succ, List.getElem_cons_zero, List.setIfInBounds_toArray, List.set_cons_zero, List.set_cons_succ]
      refine till_free (i := 8) (v := ?_) rfl (by kernel_rfl) (by kernel_rfl) (by kernel_rfl) (by kernel_rfl) (fun _ _ _ h => h) (Or.inl ⟨by rfl, ?_⟩) (by assumption) ?_
      rotate_left
      · (intro wx hSw; (try dsimp only at hSw); go_simp; (try rw [if_neg (by omega)]); try with_reducible rfl)
      simp only [Act.put, List.getElem_toArray, List.getElem_cons_succ, List.getElem_cons_zero, List.setIfInBounds_toArray, List.set_cons_zero, List.set_cons_succ]
      exact till_go J1 (bg, ag, lg, cg, bq, aq, lq, cq, br, ar, lr, cr, qq, g6) rfl (by kernel_rfl) (by (try dsimp only); rw [unhide HA]; rfl) (by (try dsimp only); exact ⟨HW, hq, B6, hg6⟩)
    · go_simp
      have hwk : W.heap.size ≤ wj.heap.size := HW.size
      have hxg6 := B6.lt
      obtain ⟨wk, hWe⟩ : ∃ W', W' = wj.alloc (.cells #[.bool false, .slice none 0 0] 24) := ⟨_, rfl⟩
      obtain ⟨B5, hb9⟩ := boxes1 wj false none 0 0 hWe
      rw [← hWe]
      clear hWe
      replace HW := Below.step HW hb9
      replace hg := hg.later hb9
      replace B6 := B6.later hb9
      clear hb9
      have hg5 := hwk
      have hneg5g6 : wj.heap.size ≠ g6 := by omega
      refine hK.out _ _ ?_ (fun hHeld => ?_)
      · exact ⟨(B0.later HW).facts.1, (B0.later HW).facts.2.1, (B1.later HW).facts.1, (B1.later HW).facts.2.1⟩
      clear hK K
      try simp only [List.setIfInBounds_toArray, List.set_cons_zero, List.set_cons_succ]
      exact till_go J4 (bg, ag, lg, cg, wj.heap.size, g6) rfl (by kernel_rfl) (by (try dsimp only); rw [unhide HA]; rfl) (by (try dsimp only); exact ⟨HW, hg, B5, hg5, B6, hg6, hneg5g6⟩)
  refine till_mid 9 #[true, true, true, true, false, false, false, false, false, true, false, false, false, false] (ι := Bool × Option Addr × Nat × Nat × Nat) (fun (bg, ag, lg, cg, g5) => ((a0.put (some 12) (.agg #[.bool bg, .slice ag lg cg])).put (some 5) ((.pointer (some ⟨g5, 0, none⟩))))) (fun (bg, ag, lg, cg, g5) w => Below W.heap.size W w ∧ FK w bg ag lg cg (Int.gcd x y : Int) (max k l) ∧ Box w g5 false none 0 0 ∧ W.heap.size ≤ g5) ?_ (fun J7 => ?_)
  · rintro ⟨bg, ag, lg, cg, g5⟩ wj hI
    try dsimp only at hI ⊢
    obtain ⟨HW, hg, B5, hg5⟩ := hI
    have hHeld : wj.cell? ⟨w.heap.size, 0, none⟩ = some (.bool b) ∧ wj.cell? ⟨w.heap.size, 1, none⟩ = some (.slice aa la ca) ∧ wj.cell? ⟨w.heap.size + 1, 0, none⟩ = some (.bool b') ∧ wj.cell? ⟨w.heap.size + 1, 1, none⟩ = some (.slice ab lb cb) := by exact ⟨(B0.later HW).facts.1, (B0.later HW).facts.2.1, (B1.later HW).facts.1, (B1.later HW).facts.2.1⟩
    rw [unhide HA]
    simp only [Act.put, List.setIfInBounds_toArray, List.set_cons_zero, List.set_cons_succ]
    refine till_two (i := 4) (j := 10) (by kernel_rfl) rfl rfl (fun K hK => ?_) (fun K hK => ?_)
    · go_simp
      refine (quoA b aa la ca x k bg ag lg cg (Int.gcd x y : Int) (max k l) _ (hx.later HW) (hg.ik (by omega))).mono ?_
      rintro e wk ⟨bq, aq, lq, cq, br, ar, lr, cr, qq, rfl, hq, hb9⟩
      replace HW := Below.step HW hb9
      replace B5 := B5.later hb9
      clear hb9 hg
      refine hK.out _ _ ?_ (fun hHeld => ?_)
      · exact ⟨(B0.later HW).facts.1, (B0.later HW).facts.2.1, (B1.later HW).facts.1, (B1.later HW).facts.2.1⟩
      clear hK K
      try simp only [List.setIfInBounds_toArray, List.set_cons_zero, List.set_cons_succ]
      refine till_free (i := 5) (v := ?_) rfl (by kernel_rfl) (by kernel_rfl) (by kernel_rfl) (by kernel_rfl) (fun _ _ _ h => h) (Or.inl ⟨by rfl, ?_⟩) (by assumption) ?_
      rotate_left
      · (intro wx hSw; (try dsimp only at hSw); go_simp; (try rw [if_neg (by omega)]); try with_reducible rfl)
      simp only [Act.put, List.getElem_toArray, List.getElem_cons_succ, List.getElem_cons_zero, List.setIfInBounds_toArray, List.set_cons_zero, List.set_cons_succ]
      refine till_free (i := 6) (v := ?_) rfl (by kernel_rfl) (by kernel_rfl) (by kernel_rfl) (by kernel_rfl) (fun _ _ _ h => h) (Or.inl ⟨by rfl, ?_⟩) (by assumption) ?_
      rotate_left
      · (intro wx hSw; (try dsimp only at hSw); go_simp; (try rw [if_neg (by omega)]); try with_reducible rfl)
      simp only [Act.put, List.getElem_toArray, List.getElem_cons_succ, List.getElem_cons_zero, List.setIfInBounds_toArray, List.set_cons_zero, List.set_cons_succ]
      refine till_free (i := 7) (v := ?_) rfl (by kernel_rfl) (by kernel_rfl) (by kernel_rfl) (by kernel_rfl) (fun _ _ _ h => h) (Or.inl ⟨by rfl, ?_⟩) (by assumption) ?_
      rotate_left
      · (intro wx hSw; (try dsimp only at hSw); go_simp; (try rw [if_neg (by omega)]); try with_reducible rfl)
      simp only [Act.put, List.getElem_toArray, List.getElem_cons_succ, List.getElem_cons_zero, List.setIfInBounds_toArray, List.set_cons_zero, List.set_cons_succ]
      refine till_free (i := 8) (v := ?_) rfl (by kernel_rfl) (by kernel_rfl) (by kernel_rfl) (by kernel_rfl) (fun _ _ _ h => h) (Or.inl ⟨by rfl, ?_⟩) (by assumption) ?_
      rotate_left
      · (intro wx hSw; (try dsimp only at hSw); go_simp; (try rw [if_neg (by omega)]); try with_reducible rfl)
      simp only [Act.put, List.getElem_toArray, List.getElem_cons_succ, List.getElem_cons_zero, List.setIfInBounds_toArray, List.set_cons_zero, List.set_cons_succ]
      exact till_go J2 (bg, ag, lg, cg, bq, aq, lq, cq, br, ar, lr, cr, qq, g5) rfl (by kernel_rfl) (by (try dsimp only); rw [unhide HA]; rfl) (by (try dsimp only); exact ⟨HW, hq, B5, hg5⟩)
    · go_simp
      have hwk : W.heap.size ≤ wj.heap.size := HW.size
      have hxg5 := B5.lt
      obtain ⟨wk, hWe⟩ : ∃ W', W' = wj.alloc (.cells #[.bool false, .slice none 0 0] 24) := ⟨_, rfl⟩
      obtain ⟨B6, hb9⟩ := boxes1 wj false none 0 0 hWe
      rw [← hWe]
      clear hWe
      replace HW := Below.step HW hb9
      replace hg := hg.later hb9
      replace B5 := B5.later hb9
      clear hb9
      have hg6 := hwk
      have hneg5g6 : g5 ≠ wj.heap.size := by omega
      refine hK.out _ _ ?_ (fun hHeld => ?_)
      · exact ⟨(B0.later HW).facts.1, (B0.later HW).facts.2.1, (B1.later HW).facts.1, (B1.later HW).facts.2.1⟩
      clear hK K
      try simp only [List.setIfInBounds_toArray, List.set_cons_zero, List.set_cons_succ]
      exact till_go J4 (bg, ag, lg, cg, g5, wj.heap.size) rfl (by kernel_rfl) (by (try dsimp only); rw [unhide HA]; rfl) (by (try dsimp only); exact ⟨HW, hg, B5, hg5, B6, hg6, hneg5g6⟩)
  refine till_mid 10 #[true, true, true, false, false, false, false, false, false, false, true, false, false, false] (ι := Nat) (fun g6 => (a0.put (some 6) ((.pointer (some ⟨g6, 0, none⟩))))) (fun g6 w => Below W.heap.size W w ∧ Box w g6 false none 0 0 ∧ W.heap.size ≤ g6) ?_ (fun J8 => ?_)
  · rintro g6 wj hI
    try dsimp only at hI ⊢
    obtain ⟨HW, B6, hg6⟩ := hI
    have hHeld : wj.cell? ⟨w.heap.size, 0, none⟩ = some (.bool b) ∧ wj.cell? ⟨w.heap.size, 1, none⟩ = some (.slice aa la ca) ∧ wj.cell? ⟨w.heap.size + 1, 0, none⟩ = some (.bool b') ∧ wj.cell? ⟨w.heap.size + 1, 1, none⟩ = some (.slice ab lb cb) := by exact ⟨(B0.later HW).facts.1, (B0.later HW).facts.2.1, (B1.later HW).facts.1, (B1.later HW).facts.2.1⟩
    rw [unhide HA]
    simp only [Act.put, List.setIfInBounds_toArray, List.set_cons_zero, List.set_cons_succ]
    refine till_two (i := 3) (j := 9) (by kernel_rfl) rfl rfl (fun K hK => ?_) (fun K hK => ?_)
    · go_simp
      refine (gcdK b aa la ca x k b' ab lb cb y l _ (hx.later HW) (hy.later HW) (by omega) (by omega)).mono ?_
      rintro e wk ⟨bg, ag, lg, cg, rfl, hg, hb9⟩
      replace HW := Below.step HW hb9
      replace B6 := B6.later hb9
      clear hb9
      refine hK.out _ _ ?_ (fun hHeld => ?_)
      · exact ⟨(B0.later HW).facts.1, (B0.later HW).facts.2.1, (B1.later HW).facts.1, (B1.later HW).facts.2.1⟩
      clear hK K
      try simp only [List.setIfInBounds_toArray, List.set_cons_zero, List.set_cons_succ]
      exact till_go J6 (bg, ag, lg, cg, g6) rfl (by kernel_rfl) (by (try dsimp only); rw [unhide HA]; rfl) (by (try dsimp only); exact ⟨HW, hg, B6, hg6⟩)
    · go_simp
      have hwk : W.heap.size ≤ wj.heap.size := HW.size
      have hxg6 := B6.lt
      obtain ⟨wk, hWe⟩ : ∃ W', W' = wj.alloc (.cells #[.bool false, .slice none 0 0] 24) := ⟨_, rfl⟩
      obtain ⟨B5, hb9⟩ := boxes1 wj false none 0 0 hWe
      rw [← hWe]
      clear hWe
      replace HW := Below.step HW hb9
      replace B6 := B6.later hb9
      clear hb9
      have hg5 := hwk
      have hneg5g6 : wj.heap.size ≠ g6 := by omega
      refine hK.out _ _ ?_ (fun hHeld => ?_)
      · exact ⟨(B0.later HW).facts.1, (B0.later HW).facts.2.1, (B1.later HW).facts.1, (B1.later HW).facts.2.1⟩
      clear hK K
      try simp only [List.setIfInBounds_toArray, List.set_cons_zero, List.set_cons_succ]
      exact till_go J5 (wj.heap.size, g6) rfl (by kernel_rfl) (by (try dsimp only); rw [unhide HA]; rfl) (by (try dsimp only); exact ⟨HW, B5, hg5, B6, hg6, hneg5g6⟩)
  refine till_mid 10 #[true, true, true, false, false, false, false, false, false, true, false, false, false, false] (ι := Nat) (fun g5 => (a0.put (some 5) ((.pointer (some ⟨g5, 0, none⟩))))) (fun g5 w => Below W.heap.size W w ∧ Box w g5 false none 0 0 ∧ W.heap.size ≤ g5) ?_ (fun J9 => ?_)
  · rintro g5 wj hI
    try dsimp only at hI ⊢
    obtain ⟨HW, B5, hg5⟩ := hI
    have hHeld : wj.cell? ⟨w.heap.size, 0, none⟩ = some (.bool b) ∧ wj.cell? ⟨w.heap.size, 1, none⟩ = some (.slice aa la ca) ∧ wj.cell? ⟨w.heap.size + 1, 0, none⟩ = some (.bool b') ∧ wj.cell? ⟨w.heap.size + 1, 1, none⟩ = some (.slice ab lb cb) := by exact ⟨(B0.later HW).facts.1, (B0.later HW).facts.2.1, (B1.later HW).facts.1, (B1.later HW).facts.2.1⟩
    rw [unhide HA]
    simp only [Act.put, List.setIfInBounds_toArray, List.set_cons_zero, List.set_cons_succ]
    refine till_two (i := 3) (j := 10) (by kernel_rfl) rfl rfl (fun K hK => ?_) (fun K hK => ?_)
    · go_simp
      refine (gcdK b aa la ca x k b' ab lb cb y l _ (hx.later HW) (hy.later HW) (by omega) (by omega)).mono ?_
      rintro e wk ⟨bg, ag, lg, cg, rfl, hg, hb9⟩
      replace HW := Below.step HW hb9
      replace B5 := B5.later hb9
      clear hb9
      refine hK.out _ _ ?_ (fun hHeld => ?_)
      · exact ⟨(B0.later HW).facts.1, (B0.later HW).facts.2.1, (B1.later HW).facts.1, (B1.later HW).facts.2.1⟩
      clear hK K
      try simp only [List.setIfInBounds_toArray, List.set_cons_zero, List.set_cons_succ]
      exact till_go J7 (bg, ag, lg, cg, g5) rfl (by kernel_rfl) (by (try dsimp only); rw [unhide HA]; rfl) (by (try dsimp only); exact ⟨HW, hg, B5, hg5⟩)
    · go_simp
      have hwk : W.heap.size ≤ wj.heap.size := HW.size
      have hxg5 := B5.lt
      obtain ⟨wk, hWe⟩ : ∃ W', W' = wj.alloc (.cells #[.bool false, .slice none 0 0] 24) := ⟨_, rfl⟩
      obtain ⟨B6, hb9⟩ := boxes1 wj false none 0 0 hWe
      rw [← hWe]
      clear hWe
      replace HW := Below.step HW hb9
      replace B5 := B5.later hb9
      clear hb9
      have hg6 := hwk
      have hneg5g6 : g5 ≠ wj.heap.size := by omega
      refine hK.out _ _ ?_ (fun hHeld => ?_)
      · exact ⟨(B0.later HW).facts.1, (B0.later HW).facts.2.1, (B1.later HW).facts.1, (B1.later HW).facts.2.1⟩
      clear hK K
      try simp only [List.setIfInBounds_toArray, List.set_cons_zero, List.set_cons_succ]
      exact till_go J5 (g5, wj.heap.size) rfl (by kernel_rfl) (by (try dsimp only); rw [unhide HA]; rfl) (by (try dsimp only); exact ⟨HW, B5, hg5, B6, hg6, hneg5g6⟩)
  refine till_mid 10 #[true, true, true, true, false, false, false, false, false, false, false, false, false, false] (ι := Bool × Option Addr × Nat × Nat) (fun (bg, ag, lg, cg) => (a0.put (some 12) (.agg #[.bool bg, .slice ag lg cg]))) (fun (bg, ag, lg, cg) w => Below W.heap.size W w ∧ FK w bg ag lg cg (Int.gcd x y : Int) (max k l)) ?_ (fun J10 => ?_)
  · rintro ⟨bg, ag, lg, cg⟩ wj hI
    try dsimp only at hI ⊢
    obtain ⟨HW, hg⟩ := hI
    have hHeld : wj.cell? ⟨w.heap.size, 0, none⟩ = some (.bool b) ∧ wj.cell? ⟨w.heap.size, 1, none⟩ = some (.slice aa la ca) ∧ wj.cell? ⟨w.heap.size + 1, 0, none⟩ = some (.bool b') ∧ wj.cell? ⟨w.heap.size + 1, 1, none⟩ = some (.slice ab lb cb) := by exact ⟨(B0.later HW).facts.1, (B0.later HW).facts.2.1, (B1.later HW).facts.1, (B1.later HW).facts.2.1⟩
    rw [unhide HA]
    simp only [Act.put, List.setIfInBounds_toArray, List.set_cons_zero, List.set_cons_succ]
    refine till_three (i := 4) (j := 9) (k := 10) (by kernel_rfl) rfl rfl rfl (fun K hK => ?_) (fun K hK => ?_) (fun K hK => ?_)
    · go_simp
      refine (quoA b aa la ca x k bg ag lg cg (Int.gcd x y : Int) (max k l) _ (hx.later HW) (hg.ik (by omega))).mono ?_
      rintro e wk ⟨bq, aq, lq, cq, br, ar, lr, cr, qq, rfl, hq, hb9⟩
      replace HW := Below.step HW hb9
      clear hb9 hg
      refine hK.out _ _ ?_ (fun hHeld => ?_)
      · exact ⟨(B0.later HW).facts.1, (B0.later HW).facts.2.1, (B1.later HW).facts.1, (B1.later HW).facts.2.1⟩
      clear hK K
      try simp only [List.setIfInBounds_toArray, List.set_cons_zero, List.set_cons_succ]
      refine till_free (i := 5) (v := ?_) rfl (by kernel_rfl) (by kernel_rfl) (by kernel_rfl) (by kernel_rfl) (fun _ _ _ h => h) (Or.inl ⟨by rfl, ?_⟩) (by assumption) ?_
      rotate_left
      · (intro wx hSw; (try dsimp only at hSw); go_simp; (try rw [if_neg (by omega)]); try with_reducible rfl)
      simp only [Act.put, List.getElem_toArray, List.getElem_cons_succ, List.getElem_cons_zero, List.setIfInBounds_toArray, List.set_cons_zero, List.set_cons_succ]
      refine till_free (i := 6) (v := ?_) rfl (by kernel_rfl) (by kernel_rfl) (by kernel_rfl) (by kernel_rfl) (fun _ _ _ h => h) (Or.inl ⟨by rfl, ?_⟩) (by assumption) ?_
      rotate_left
      · (intro wx hSw; (try dsimp only at hSw); go_simp; (try rw [if_neg (by omega)]); try with_reducible rfl)
      simp only [Act.put, List.getElem_toArray, List.getElem_cons_succ, List.getElem_cons_zero, List.setIfInBounds_toArray, List.set_cons_zero, List.set_cons_succ]
      refine till_free (i := 7) (v := ?_) rfl (by kernel_rfl) (by kernel_rfl) (by kernel_rfl) (by kernel_rfl) (fun _ _ _ h => h) (Or.inl ⟨by rfl, ?_⟩) (by assumption) ?_
      rotate_left
      · (intro wx hSw; (try dsimp only at hSw); go_simp; (try rw [if_neg (by omega)]); try with_reducible rfl)
      simp only [Act.put, List.getElem_toArray, List.getElem_cons_succ, List.getElem_cons_zero, List.setIfInBounds_toArray, List.set_cons_zero, List.set_cons_succ]
      refine till_free (i := 8) (v := ?_) rfl (by kernel_rfl) (by kernel_rfl) (by kernel_rfl) (by kernel_rfl) (fun _ _ _ h => h) (Or.inl ⟨by rfl, ?_⟩) (by assumption) ?_
      rotate_left
      · (intro wx hSw; (try dsimp only at hSw); go_simp; (try rw [if_neg (by omega)]); try with_reducible rfl)
      simp only [Act.put, List.getElem_toArray, List.getElem_cons_succ, List.getElem_cons_zero, List.setIfInBounds_toArray, List.set_cons_zero, List.set_cons_succ]
      exact till_go J3 (bg, ag, lg, cg, bq, aq, lq, cq, br, ar, lr, cr, qq) rfl (by kernel_rfl) (by (try dsimp only); rw [unhide HA]; rfl) (by (try dsimp only); exact ⟨HW, hq⟩)
    · go_simp
      have hwk : W.heap.size ≤ wj.heap.size := HW.size
      obtain ⟨wk, hWe⟩ : ∃ W', W' = wj.alloc (.cells #[.bool false, .slice none 0 0] 24) := ⟨_, rfl⟩
      obtain ⟨B5, hb9⟩ := boxes1 wj false none 0 0 hWe
      rw [← hWe]
      clear hWe
      replace HW := Below.step HW hb9
      replace hg := hg.later hb9
      clear hb9
      have hg5 := hwk
      refine hK.out _ _ ?_ (fun hHeld => ?_)
      · exact ⟨(B0.later HW).facts.1, (B0.later HW).facts.2.1, (B1.later HW).facts.1, (B1.later HW).facts.2.1⟩
      clear hK K
      try simp only [List.setIfInBounds_toArray, List.set_cons_zero, List.set_cons_succ]
      exact till_go J7 (bg, ag, lg, cg, wj.heap.size) rfl (by kernel_rfl) (by (try dsimp only); rw [unhide HA]; rfl) (by (try dsimp only); exact ⟨HW, hg, B5, hg5⟩)
    · go_simp
      have hwk : W.heap.size ≤ wj.heap.size := HW.size
      obtain ⟨wk, hWe⟩ : ∃ W', W' = wj.alloc (.cells #[.bool false, .slice none 0 0] 24) := ⟨_, rfl⟩
      obtain ⟨B6, hb9⟩ := boxes1 wj false none 0 0 hWe
      rw [← hWe]
      clear hWe
      replace HW := Below.step HW hb9
      replace hg := hg.later hb9
      clear hb9
      have hg6 := hwk
      refine hK.out _ _ ?_ (fun hHeld => ?_)
      · exact ⟨(B0.later HW).facts.1, (B0.later HW).facts.2.1, (B1.later HW).facts.1, (B1.later HW).facts.2.1⟩
      clear hK K
      try simp only [List.setIfInBounds_toArray, List.set_cons_zero, List.set_cons_succ]
      exact till_go J6 (bg, ag, lg, cg, wj.heap.size) rfl (by kernel_rfl) (by (try dsimp only); rw [unhide HA]; rfl) (by (try dsimp only); exact ⟨HW, hg, B6, hg6⟩)
  rw [unhide HA]
  refine till_three (i := 3) (j := 9) (k := 10) (by kernel_rfl) rfl rfl rfl (fun K hK => ?_) (fun K hK => ?_) (fun K hK => ?_)
  · go_simp
    refine (gcdK b aa la ca x k b' ab lb cb y l _ (hx.later HW) (hy.later HW) (by omega) (by omega)).mono ?_
    rintro e wk ⟨bg, ag, lg, cg, rfl, hg, hb9⟩
    replace HW := Below.step HW hb9
    clear hb9
    refine hK.out _ _ ?_ (fun hHeld => ?_)
    · exact ⟨(B0.later HW).facts.1, (B0.later HW).facts.2.1, (B1.later HW).facts.1, (B1.later HW).facts.2.1⟩
    clear hK K
    try simp only [List.setIfInBounds_toArray, List.set_cons_zero, List.set_cons_succ]
    exact till_go J10 (bg, ag, lg, cg) rfl (by kernel_rfl) (by (try dsimp only); rw [unhide HA]; rfl) (by (try dsimp only); exact ⟨HW, hg⟩)
  · go_simp
    have hwk : W.heap.size ≤ vd1.heap.size := HW.size
    obtain ⟨wk, hWe⟩ : ∃ W', W' = vd1.alloc (.cells #[.bool false, .slice none 0 0] 24) := ⟨_, rfl⟩
    obtain ⟨B5, hb9⟩ := boxes1 vd1 false none 0 0 hWe
    rw [← hWe]
    clear hWe
    replace HW := Below.step HW hb9
    clear hb9
    have hg5 := hwk
    refine hK.out _ _ ?_ (fun hHeld => ?_)
    · exact ⟨(B0.later HW).facts.1, (B0.later HW).facts.2.1, (B1.later HW).facts.1, (B1.later HW).facts.2.1⟩
    clear hK K
    try simp only [List.setIfInBounds_toArray, List.set_cons_zero, List.set_cons_succ]
    exact till_go J9 vd1.heap.size rfl (by kernel_rfl) (by (try dsimp only); rw [unhide HA]; rfl) (by (try dsimp only); exact ⟨HW, B5, hg5⟩)
  · go_simp
    have hwk : W.heap.size ≤ vd1.heap.size := HW.size
    obtain ⟨wk, hWe⟩ : ∃ W', W' = vd1.alloc (.cells #[.bool false, .slice none 0 0] 24) := ⟨_, rfl⟩
    obtain ⟨B6, hb9⟩ := boxes1 vd1 false none 0 0 hWe
    rw [← hWe]
    clear hWe
    replace HW := Below.step HW hb9
    clear hb9
    have hg6 := hwk
    refine hK.out _ _ ?_ (fun hHeld => ?_)
    · exact ⟨(B0.later HW).facts.1, (B0.later HW).facts.2.1, (B1.later HW).facts.1, (B1.later HW).facts.2.1⟩
    clear hK K
    try simp only [List.setIfInBounds_toArray, List.set_cons_zero, List.set_cons_succ]
    exact till_go J8 vd1.heap.size rfl (by kernel_rfl) (by (try dsimp only); rw [unhide HA]; rfl) (by (try dsimp only); exact ⟨HW, B6, hg6⟩)

#print axioms lcmK
end Go.Proofs.Ytobiogedknmijaa
