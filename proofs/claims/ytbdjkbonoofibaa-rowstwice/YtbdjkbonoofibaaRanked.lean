/-
  What cmp.Compare and cmp.Or of ints tell, what the comparison tells that rows.ranked hands to the sort, and what rows.ranked tells: the rows' numbers in the rows' order.
-/
import Derived.Test.YtbdjkbonoofibaaLaySort
import Derived.Test.YtbdjkbonoofibaaRankNum
import Derived.Test.YtbdjkbonoofibaaUpCmp
import Derived.Test.YtbdjkbonoofibaaROne
import Derived.Test.YtbdjkbonoofibaaJE
import Derived.Test.YtbdjkbonoofibaaJF
import Derived.Deep.CutRange
namespace Go.Proofs.Ytbdjkbonoofibaa
open Go.RowKit Lb
set_option maxRecDepth 20000

/-- What cmp.Compare tells of two ints. -/
def cmpT (x y : Int) : Int := if x < y then -1 else if y < x then 1 else 0
theorem cmpT_small (x y : Int) : -9223372036854775808 ≤ cmpT x y ∧ cmpT x y ≤ 9223372036854775807 := by
  unfold cmpT
  split
  · omega
  · split <;> omega
theorem isNaNK (x : Int) (w : World) : Calls Try.prog 92 #[.int .i64 x] w fun e w' => e = .returned (.bool false) ∧ w = w' := by
  have h : (x != x) = false := by simp
  go_enter Try.func92, Try.ntmps92
  go_wp2
  go_ret
  exact ⟨rfl, rfl⟩
set_option maxHeartbeats 1000000 in
theorem compareK (x y : Int) (w : World) : Calls Try.prog 79 #[.int .i64 x, .int .i64 y] w fun e w' => e = .returned (.int .i64 (cmpT x y)) ∧ w = w' := by
  rcases Int.lt_trichotomy x y with h | h | h
  · have e1 : decide (x < y) = true := decide_eq_true h
    have HR := hide (show cmpT x y = -1 by unfold cmpT; rw [if_pos h])
    clear h
    go_enter Try.func79, Try.ntmps79
    go_wp2_with fail
    refine (isNaNK x _).mono ?_
    rintro e w1 ⟨rfl, rfl⟩
    go_wp2_with fail
    refine (isNaNK y _).mono ?_
    rintro e w1 ⟨rfl, rfl⟩
    go_wp2
    go_ret
    exact ⟨by rw [unhide HR]; rfl, rfl⟩
  · subst h
    have e1 : decide (x < x) = false := by simp
    have HR := hide (show cmpT x x = 0 by unfold cmpT; simp)
    go_enter Try.func79, Try.ntmps79
    go_wp2_with fail
    refine (isNaNK x _).mono ?_
    rintro e w1 ⟨rfl, rfl⟩
    go_wp2_with fail
    refine (isNaNK x _).mono ?_
    rintro e w1 ⟨rfl, rfl⟩
    go_wp2
    go_ret
    exact ⟨by rw [unhide HR]; rfl, rfl⟩
  · have e1 : decide (x < y) = false := decide_eq_false (by omega)
    have e2 : decide (y < x) = true := decide_eq_true h
    have HR := hide (show cmpT x y = 1 by unfold cmpT; rw [if_neg (by omega), if_pos h])
    clear h
    go_enter Try.func79, Try.ntmps79
    go_wp2_with fail
    refine (isNaNK x _).mono ?_
    rintro e w1 ⟨rfl, rfl⟩
    go_wp2_with fail
    refine (isNaNK y _).mono ?_
    rintro e w1 ⟨rfl, rfl⟩
    go_wp2
    go_ret
    exact ⟨by rw [unhide HR]; rfl, rfl⟩
theorem compareS (x y s : Int) (w : World) (hs : s = cmpT x y) : Calls Try.prog 79 #[.int .i64 x, .int .i64 y] w fun e w' => e = .returned (.int .i64 s) ∧ w = w' := by
  subst hs
  exact compareK x y w
/-- The first that isn't 0; 0: there is none. -/
def IsOr (zs : List Int) (c : Int) : Prop := (c = 0 ∧ ∀ j, j < zs.length → zs.getD j 0 = 0) ∨ ∃ i, i < zs.length ∧ (∀ j, j < i → zs.getD j 0 = 0) ∧ zs.getD i 0 ≠ 0 ∧ c = zs.getD i 0
set_option maxHeartbeats 1000000 in
theorem orK (ao : Option Addr) (n cap : Nat) (zs : List Int) (w : World) (h : IRowAt w ao n cap zs) :
    Calls Try.prog 78 #[.slice ao n cap] w fun e w' => ∃ c, e = .returned (.int .i64 c) ∧ IsOr zs c ∧ Up w w' := by
  have hm := Nat.le_trans h.cap_le h.cap_max
  unfold maxLen at hm
  have HL := hide h.len_eq
  go_enter Try.func78, Try.ntmps78
  go_wp2_with fail
  go_loopw [8] (fun t wr => ∃ i : Nat, i ≤ n ∧ t = .int .i64 (i : Int) ∧ (∀ j, j < i → zs.getD j 0 = 0) ∧ Up w wr) (fun t _ => n - (intOf t).toNat)
  case atStart => exact ⟨0, Nat.zero_le _, rfl, fun j hj => absurd hj (by omega), Up.refl _⟩
  case round =>
    obtain ⟨i, hi, rfl, hall, hU⟩ := hrel
    have HA := hide hall
    clear hall
    by_cases hlt : i < n
    · obtain ⟨g, off, rfl⟩ := h.addr (by omega)
      obtain ⟨hg, hc⟩ := h.at hlt
      have f1 := (hU.b.cell (p := ⟨g, off + i, none⟩) hg).trans hc
      have hgr := Nat.lt_of_lt_of_le hg hU.b.size
      clear hc
      obtain ⟨z, ez⟩ : ∃ z, z = zs.getD i 0 := ⟨_, rfl⟩
      rw [← ez] at f1
      have EZ := hide ez
      clear ez
      by_cases h0 : z = 0
      · have hb0 : (z != 0) = false := by simp [h0]
        have H0 := hide h0
        clear h0
        go_wp2
        go_roundw
        case rel =>
          refine ⟨i + 1, by omega, by go_num, fun j hj => ?_, hU⟩
          by_cases e : j = i
          · subst e; rw [← unhide EZ]; exact unhide H0
          · exact unhide HA j (by omega)
        case measure => simp [intOf]; omega
      · have hb0 : (z != 0) = true := by simp [h0]
        have H0 := hide h0
        clear h0
        go_wp2
        go_ret
        exact ⟨z, rfl, Or.inr ⟨i, by rw [unhide HL]; exact hlt, unhide HA, by rw [← unhide EZ]; exact unhide H0, unhide EZ⟩, hU⟩
    · have hin : i = n := by omega
      subst hin
      go_wp2
      go_ret
      exact ⟨0, rfl, Or.inl ⟨rfl, fun j hj => unhide HA j (by rw [unhide HL] at hj; exact hj)⟩, hU⟩
theorem rank_or {rs : List (List Int)} {i j : Nat} {c : Int} (h : IsOr [cmpV (rs.getD i []) (rs.getD j []), cmpT (i : Int) (j : Int)] c) : c = rankC rs i j := by
  have e : cmpT (i : Int) (j : Int) = (if i < j then -1 else if j < i then 1 else 0) := by
    unfold cmpT
    by_cases c1 : i < j
    · rw [if_pos (by omega), if_pos c1]
    · by_cases c2 : j < i
      · rw [if_neg (by omega), if_pos (by omega), if_neg c1, if_pos c2]
      · rw [if_neg (by omega), if_neg (by omega), if_neg c1, if_neg c2]
  unfold rankC
  rw [← e]
  rcases h with ⟨h0, hall⟩ | ⟨t, ht, hall, hne, rfl⟩
  · have h1 := hall 0 (by simp)
    have h2 := hall 1 (by simp)
    simp only [List.getD_cons_zero, List.getD_cons_succ] at h1 h2
    rw [if_pos h1, h2, h0]
  · match t, ht with
    | 0, _ =>
      simp only [List.getD_cons_zero] at hne ⊢
      rw [if_neg hne]
    | 1, _ =>
      have h1 := hall 0 (by omega)
      simp only [List.getD_cons_zero, List.getD_cons_succ] at h1 hne ⊢
      rw [if_pos h1]

set_option maxHeartbeats 2000000 in
theorem closureK (g off n cap : Nat) (rs : List (List Int)) (k bx i j : Nat) (w : World) (h : MK w (some ⟨g, off, none⟩) n cap rs k) (hk : k ≤ 900000) (hr : ∀ i, (rs.getD i []).length ≤ 1000000) (hbx : bx < w.heap.size) (hB : w.cell? ⟨bx, 0, none⟩ = some (.slice (some ⟨g, off, none⟩) n cap)) (hi : i < n) (hj : j < n) :
    Calls Try.prog 77 #[.int .i64 (i : Int), .int .i64 (j : Int), .pointer (some ⟨bx, 0, none⟩)] w fun e w' => e = .returned (.int .i64 (rankC rs i j)) ∧ Up w w' := by
  obtain ⟨hg, a1, l1, c1, hc1, hv1⟩ := RowsOf.at (R := fun w a l c zs => VK w a l c zs k) h hi
  obtain ⟨_, a2, l2, c2, hc2, hv2⟩ := RowsOf.at (R := fun w a l c zs => VK w a l c zs k) h hj
  have hn1 : l1 ≤ 1000000 := by rw [← hv1.len_eq]; exact hr i
  have hn2 : l2 ≤ 1000000 := by rw [← hv2.len_eq]; exact hr j
  have hm := Nat.le_trans h.cap_le h.cap_max
  unfold maxLen at hm
  have hi0 : (0 : Int) ≤ (i : Int) := by omega
  have hi1 : (i : Int) < (n : Int) := by omega
  have hj0 : (0 : Int) ≤ (j : Int) := by omega
  have hj1 : (j : Int) < (n : Int) := by omega
  have hbd := cmpV_bd (rs.getD i []) (rs.getD j [])
  clear h hr
  obtain ⟨ct, ect⟩ : ∃ c, c = cmpT (i : Int) (j : Int) := ⟨_, rfl⟩
  have ht := cmpT_small (i : Int) (j : Int)
  rw [← ect] at ht
  obtain ⟨ht1, ht2⟩ := ht
  have ET := hide ect
  clear ect
  have HW : Below w.heap.size w w.drew := (Below.refl _ _).drew
  have HD : w.drawn ≤ w.drew.drawn := Nat.le_succ _
  go_enter Try.func77, Try.ntmps77
  go_upto_region 1 with fail
  refine till_start (fun w' => w'.cell? ⟨bx, 0, none⟩ = some (.slice (some ⟨g, off, none⟩) n cap) ∧ w'.cell? ⟨g, off + i, none⟩ = some (.slice a1 l1 c1) ∧ w'.cell? ⟨g, off + j, none⟩ = some (.slice a2 l2 c2)) 14 (by kernel_rfl) ?_ (fun hHeld => ?_)
  · exact ⟨(HW.cell (p := ⟨bx, 0, none⟩) hbx).trans hB, (HW.cell (p := ⟨g, off + i, none⟩) hg).trans hc1, (HW.cell (p := ⟨g, off + j, none⟩) hg).trans hc2⟩
  refine till_take (i := 0) (v := ?_) [2, 3, 8, 11, 12, 13, 14] rfl (by kernel_rfl) (by kernel_rfl) (by kernel_rfl) (by kernel_rfl) (fun _ _ _ h => h) (Or.inl ⟨by rfl, ?_⟩) (by assumption) ?_
  rotate_left
  · (intro w hSw; (try dsimp only at hSw); go_simp; try with_reducible rfl)
  simp only [Act.put, List.getElem_toArray, List.getElem_cons_zero, List.setIfInBounds_toArray, List.set_cons_zero, List.set_cons_succ]
  refine till_take (i := 1) (v := ?_) [2, 3, 8, 11, 12, 13, 14] rfl (by kernel_rfl) (by kernel_rfl) (by kernel_rfl) (by kernel_rfl) (fun _ _ _ h => h) (Or.inl ⟨by rfl, ?_⟩) (by assumption) ?_
  rotate_left
  · (intro w hSw; (try dsimp only at hSw); go_simp; try with_reducible rfl)
  simp only [Act.put, List.getElem_toArray, List.getElem_cons_succ, List.getElem_cons_zero, List.setIfInBounds_toArray, List.set_cons_zero, List.set_cons_succ]
  refine till_take (i := 2) (v := ?_) [3, 8, 11, 12, 13, 14] rfl (by kernel_rfl) (by kernel_rfl) (by kernel_rfl) (by kernel_rfl) (fun _ _ _ h => h) (Or.inl ⟨by rfl, ?_⟩) (by assumption) ?_
  rotate_left
  · (intro w hSw; (try dsimp only at hSw); go_simp; try with_reducible rfl)
  simp only [Act.put, List.getElem_toArray, List.getElem_cons_succ, List.getElem_cons_zero, List.setIfInBounds_toArray, List.set_cons_zero, List.set_cons_succ]
  refine till_take (i := 3) (v := ?_) [8, 11, 12, 13, 14] rfl (by kernel_rfl) (by kernel_rfl) (by kernel_rfl) (by kernel_rfl) (fun _ _ _ h => h) (Or.inl ⟨by rfl, ?_⟩) (by assumption) ?_
  rotate_left
  · (intro w hSw; (try dsimp only at hSw); go_simp; try with_reducible rfl)
  simp only [Act.put, List.getElem_toArray, List.getElem_cons_succ, List.getElem_cons_zero, List.setIfInBounds_toArray, List.set_cons_zero, List.set_cons_succ]
  refine till_take (i := 4) (v := ?_) [6, 7, 8, 11, 12, 13, 14] rfl (by kernel_rfl) (by kernel_rfl) (by kernel_rfl) (by kernel_rfl) (fun _ _ _ h => h) (Or.inl ⟨by rfl, ?_⟩) (by assumption) ?_
  rotate_left
  · (intro w hSw; (try dsimp only at hSw); go_simp; try with_reducible rfl)
  simp only [Act.put, List.getElem_toArray, List.getElem_cons_succ, List.getElem_cons_zero, List.setIfInBounds_toArray, List.set_cons_zero, List.set_cons_succ]
  refine till_take (i := 5) (v := ?_) [6, 7, 8, 11, 12, 13, 14] rfl (by kernel_rfl) (by kernel_rfl) (by kernel_rfl) (by kernel_rfl) (fun _ _ _ h => h) (Or.inl ⟨by rfl, ?_⟩) (by assumption) ?_
  rotate_left
  · (intro w hSw; (try dsimp only at hSw); go_simp; try with_reducible rfl)
  simp only [Act.put, List.getElem_toArray, List.getElem_cons_succ, List.getElem_cons_zero, List.setIfInBounds_toArray, List.set_cons_zero, List.set_cons_succ]
  refine till_take (i := 6) (v := ?_) [7, 8, 11, 12, 13, 14] rfl (by kernel_rfl) (by kernel_rfl) (by kernel_rfl) (by kernel_rfl) (fun _ _ _ h => h) (Or.inl ⟨by rfl, ?_⟩) (by assumption) ?_
  rotate_left
  · (intro w hSw; (try dsimp only at hSw); go_simp; try with_reducible rfl)
  simp only [Act.put, List.getElem_toArray, List.getElem_cons_succ, List.getElem_cons_zero, List.setIfInBounds_toArray, List.set_cons_zero, List.set_cons_succ]
  refine till_take (i := 7) (v := ?_) [8, 11, 12, 13, 14] rfl (by kernel_rfl) (by kernel_rfl) (by kernel_rfl) (by kernel_rfl) (fun _ _ _ h => h) (Or.inl ⟨by rfl, ?_⟩) (by assumption) ?_
  rotate_left
  · (intro w hSw; (try dsimp only at hSw); go_simp; try with_reducible rfl)
  simp only [Act.put, List.getElem_toArray, List.getElem_cons_succ, List.getElem_cons_zero, List.setIfInBounds_toArray, List.set_cons_zero, List.set_cons_succ]
  refine till_take (i := 9) (v := ?_) [11, 12, 13, 14] rfl (by kernel_rfl) (by kernel_rfl) (by kernel_rfl) (by kernel_rfl) (fun _ _ _ h => h) (Or.inl ⟨by rfl, ?_⟩) (by assumption) ?_
  rotate_left
  · (intro w hSw; (try dsimp only at hSw); go_simp; try with_reducible rfl)
  simp only [Act.put, List.getElem_toArray, List.getElem_cons_succ, List.getElem_cons_zero, List.setIfInBounds_toArray, List.set_cons_zero, List.set_cons_succ]
  refine till_take (i := 10) (v := ?_) [11, 12, 13, 14] rfl (by kernel_rfl) (by kernel_rfl) (by kernel_rfl) (by kernel_rfl) (fun _ _ _ h => h) (Or.inl ⟨by rfl, ?_⟩) (by assumption) ?_
  rotate_left
  · (intro w hSw; (try dsimp only at hSw); go_simp; try with_reducible rfl)
  simp only [Act.put, List.getElem_toArray, List.getElem_cons_succ, List.getElem_cons_zero, List.setIfInBounds_toArray, List.set_cons_zero, List.set_cons_succ]
  refine till_in (i := 8) (by kernel_rfl) rfl (fun K hK => ?_)
  go_simp
  refine (vcmpK_up _ _ _ (rs.getD i []) k _ _ _ (rs.getD j []) k _ (hv1.later HW) (hv2.later HW) hk hk hn1 hn2).mono ?_
  rintro e w9 ⟨c, rfl, hc, hcl, hch, hu9⟩
  have hb9 := hu9.b
  replace HW := Below.step HW hb9
  replace HD := Nat.le_trans HD hu9.d
  clear hb9 hu9
  have EV := hide (hc.eq_cmpV hcl hch hbd.1 hbd.2)
  clear hc
  refine hK.out _ _ ?_ (fun hHeld => ?_)
  · exact ⟨(HW.cell (p := ⟨bx, 0, none⟩) hbx).trans hB, (HW.cell (p := ⟨g, off + i, none⟩) hg).trans hc1, (HW.cell (p := ⟨g, off + j, none⟩) hg).trans hc2⟩
  clear hK K
  try simp only [Act.put, List.getElem_toArray, List.getElem_cons_succ, List.getElem_cons_zero, List.setIfInBounds_toArray, List.set_cons_zero, List.set_cons_succ]
  refine till_in (i := 11) (by kernel_rfl) rfl (fun K hK => ?_)
  go_simp
  refine (compareS (i : Int) (j : Int) ct _ (unhide ET)).mono ?_
  rintro e w10 ⟨rfl, rfl⟩
  refine hK.out _ _ ?_ (fun hHeld => ?_)
  · exact ⟨(HW.cell (p := ⟨bx, 0, none⟩) hbx).trans hB, (HW.cell (p := ⟨g, off + i, none⟩) hg).trans hc1, (HW.cell (p := ⟨g, off + j, none⟩) hg).trans hc2⟩
  clear hK K
  try simp only [Act.put, List.getElem_toArray, List.getElem_cons_succ, List.getElem_cons_zero, List.setIfInBounds_toArray, List.set_cons_zero, List.set_cons_succ]
  refine till_in (i := 12) (by kernel_rfl) rfl (fun K hK => ?_)
  go_simp
  obtain ⟨W5, hW5⟩ : ∃ W', W' = w9.alloc (.cells #[.int .i64 (c), .int .i64 (ct)] 3) := ⟨_, rfl⟩
  have hs5 : w9.heap.size = w9.heap.size := rfl
  have hb5 : Below w9.heap.size w9 W5 := by rw [hW5]; exact below_new w9 _
  have hr5 : IRowAt W5 (some ⟨w9.heap.size, 0, none⟩) 2 2 [c, ct] := by
    rw [hW5]
    exact irow_new (w := w9) (zs := [c, ct]) (t := 3) (n := w9.heap.size) (m := 2) rfl rfl (by simp) (small_all (by intro z hz; rcases List.mem_cons.1 hz with rfl | hz; exact ⟨by omega, by omega⟩; rcases List.mem_cons.1 hz with rfl | hz; exact ⟨by omega, by omega⟩; simp at hz))
  have hd5 : w9.drawn ≤ W5.drawn := by rw [hW5]; exact Nat.le_refl _
  rw [← hW5]
  clear hW5 hs5
  replace HW := Below.step HW hb5
  replace HD := Nat.le_trans HD hd5
  clear hb5 hd5
  refine hK.out _ _ ?_ (fun hHeld => ?_)
  · exact ⟨(HW.cell (p := ⟨bx, 0, none⟩) hbx).trans hB, (HW.cell (p := ⟨g, off + i, none⟩) hg).trans hc1, (HW.cell (p := ⟨g, off + j, none⟩) hg).trans hc2⟩
  clear hK K
  try simp only [Act.put, List.getElem_toArray, List.getElem_cons_succ, List.getElem_cons_zero, List.setIfInBounds_toArray, List.set_cons_zero, List.set_cons_succ]
  refine till_in (i := 13) (by kernel_rfl) rfl (fun K hK => ?_)
  go_simp
  refine (orK _ _ _ _ _ hr5).mono ?_
  rintro e w11 ⟨d, rfl, hc, hu9⟩
  have hb9 := hu9.b
  replace HW := Below.step HW hb9
  replace HD := Nat.le_trans HD hu9.d
  have EC := hide (rank_or (by rw [← unhide EV, ← unhide ET]; exact hc) : d = rankC rs i j)
  clear hb9 hu9 hr5 hc hcl hch
  refine hK.out _ _ ?_ (fun hHeld => ?_)
  · exact ⟨(HW.cell (p := ⟨bx, 0, none⟩) hbx).trans hB, (HW.cell (p := ⟨g, off + i, none⟩) hg).trans hc1, (HW.cell (p := ⟨g, off + j, none⟩) hg).trans hc2⟩
  clear hK K
  try simp only [Act.put, List.getElem_toArray, List.getElem_cons_succ, List.getElem_cons_zero, List.setIfInBounds_toArray, List.set_cons_zero, List.set_cons_succ]
  refine till_out (i := 14) (by kernel_rfl) rfl (by kernel_rfl) (fun K hK => ?_)
  go_simp
  refine hK.out _ _ ?_
  clear hK K
  try simp only [Act.put, List.getElem_toArray, List.getElem_cons_succ, List.getElem_cons_zero, List.setIfInBounds_toArray, List.set_cons_zero, List.set_cons_succ]
  refine till_done (by kernel_rfl) ?_ _
  go_wp2
  go_ret
  exact ⟨by rw [← unhide EC]; rfl, HW, HD⟩
#print axioms closureK
end Go.Proofs.Ytbdjkbonoofibaa
