/-
  What few and awake of the ninth stage's statements tell: no more than 14 rows, each of no more than 14 places, each number of no more than 12 limbs; true.
-/
import Derived.Test.YtbdjkbonoofibaaRHalf
import Derived.Test.YtbdjkbonoofibaaRRef
import Derived.Test.YtbdjkbonoofibaaJF
namespace Go.Proofs.Ytbdjkbonoofibaa
open Go.RowKit Lb
set_option maxRecDepth 20000

theorem Short.earlier {w w1 : World} {a : Option Addr} {l : Nat} (h : Short w1 a l) (hb : Below w.heap.size w w1) : Short w a l := ⟨h.1, fun j g off b a' l' c' hj e he => h.2 j g off b a' l' c' hj e (he.later hb)⟩
/-- At most 14 rows, each short. -/
def FewM (w : World) (a : Option Addr) (l : Nat) : Prop := l ≤ 14 ∧ ∀ j g off a' l' c', j < l → a = some ⟨g, off, none⟩ → w.cell? ⟨g, off + j, none⟩ = some (.slice a' l' c') → l' ≤ 14 ∧ Short w a' l'
/-- Slices of rows, one behind the other. -/
structure MatsAt (w : World) (ao : Option Addr) (n : Nat) : Prop where
  len : n ≤ 1000
  elts : 0 < n → ∃ g off, ao = some ⟨g, off, none⟩ ∧ g < w.heap.size ∧ ∀ i, i < n → ∃ a l c rs, w.cell? ⟨g, off + i, none⟩ = some (.slice a l c) ∧ MI w a l c rs
set_option maxRecDepth 20000 in
set_option maxHeartbeats 2000000 in
theorem few9_any (ao : Option Addr) (n cap : Nat) (w : World) (h : MatsAt w ao n) :
    Calls Try.prog 8 #[.slice ao n cap] w fun e w' => ∃ q, e = .returned (.bool q) ∧ (q = true → ∀ i g off a l c, i < n → ao = some ⟨g, off, none⟩ → w.cell? ⟨g, off + i, none⟩ = some (.slice a l c) → FewM w a l) ∧ Below w.heap.size w w' := by
  have hm := h.len
  go_enter Try.func8, Try.ntmps8
  go_wp2_with fail
  go_loopw [9] (fun t wr => ∃ i : Nat, i ≤ n ∧ t = .int .i64 (i : Int) ∧ (∀ i' g off a l c, i' < i → ao = some ⟨g, off, none⟩ → w.cell? ⟨g, off + i', none⟩ = some (.slice a l c) → FewM w a l) ∧ Below w.heap.size w wr) (fun t _ => n - (intOf t).toNat)
  case atStart => exact ⟨0, by omega, rfl, fun i' _ _ _ _ _ hi => absurd hi (by omega), Below.refl _ _⟩
  case round =>
    obtain ⟨i, hi, rfl, hall, hbel⟩ := hrel
    have HA := hide hall
    clear hall
    by_cases hlt : i < n
    · obtain ⟨g, off, rfl, hg, hmat⟩ := h.elts (by omega)
      obtain ⟨a2, l2, c2, rs, hc, hv⟩ := hmat i hlt
      have hml := Nat.le_trans hv.cap_le hv.cap_max
      unfold maxLen at hml
      have f1 := (hbel.cell (p := ⟨g, off + i, none⟩) hg).trans hc
      have HC := hide hc
      have hgr := Nat.lt_of_lt_of_le hg hbel.size
      clear hc hmat
      by_cases h14 : l2 ≤ 14
      · have h14' : ¬ (14 < (l2 : Int)) := by omega
        go_wp2_with fail
        clear f1 hgr
        go_loopw [18] (fun t wr => ∃ j : Nat, j ≤ l2 ∧ t = .int .i64 (j : Int) ∧ (∀ j' g' off' a l c, j' < j → a2 = some ⟨g', off', none⟩ → w.cell? ⟨g', off' + j', none⟩ = some (.slice a l c) → l ≤ 14 ∧ Short w a l) ∧ Below w.heap.size w wr) (fun t _ => l2 - (intOf t).toNat)
        case atStart => exact ⟨0, by omega, rfl, fun j' _ _ _ _ _ hj => absurd hj (by omega), hbel⟩
        case round =>
          clear hbel
          obtain ⟨j, hj, rfl, hall, hbel⟩ := hrel
          have HJ := hide hall
          clear hall
          by_cases hjl : j < l2
          · obtain ⟨g2, off2, rfl⟩ := hv.addr (by omega)
            obtain ⟨hg2, a3, l3, c3, hc3, hv3⟩ := RowsOf.at (R := VI) hv hjl
            have hml3 := Nat.le_trans hv3.cap_le hv3.cap_max
            unfold maxLen at hml3
            have f3 := (hbel.cell (p := ⟨g2, off2 + j, none⟩) hg2).trans hc3
            have hgr3 := Nat.lt_of_lt_of_le hg2 hbel.size
            have HC3 := hide hc3
            clear hc3
            by_cases h3 : l3 ≤ 14
            · have h3' : ¬ (14 < (l3 : Int)) := by omega
              have h3d : decide (14 < (l3 : Int)) = false := decide_eq_false h3'
              have HB := hide hbel
              clear hbel
              go_wp2_with fail
              refine (few7_1 a3 l3 c3 (rs.getD j []) _ _ rfl (VI.later hv3 (unhide HB))).mono ?_
              rintro e v0 ⟨q, rfl, hq01, hq, hb1⟩
              have hsh := fun e => (hq e).earlier (below_new _ _)
              have HSH := hide (fun e => (hsh e).earlier (unhide HB))
              have HB2 := hide (Below.step (unhide HB) hb1)
              clear hq hsh hb1 f3 hgr3
              rcases hq01 with rfl | rfl
              · go_wp2
                go_roundw
                case rel =>
                  refine ⟨j + 1, by omega, by go_num, fun j' g' off' a l c hj' e hc' => ?_, unhide HB2⟩
                  by_cases ej : j' = j
                  · subst ej
                    obtain ⟨rfl, rfl⟩ := addr_inj e
                    have e2 := hc'.symm.trans (unhide HC3)
                    simp only [Option.some.injEq, Value.slice.injEq] at e2
                    obtain ⟨rfl, rfl, rfl⟩ := e2
                    exact ⟨h3, unhide HSH (by first | rfl | trivial)⟩
                  · exact (unhide HJ) j' g' off' a l c (by omega) e hc'
                case measure => simp [intOf]; omega
              · go_wp2
                go_ret
                exact ⟨false, rfl, fun e => by simp at e, unhide HB2⟩
            · have h3' : 14 < (l3 : Int) := by omega
              have h3d : decide (14 < (l3 : Int)) = true := decide_eq_true h3'
              go_wp2
              go_ret
              exact ⟨false, rfl, fun e => by simp at e, hbel⟩
          · have hin : j = l2 := by omega
            subst hin
            go_wp2
            go_roundw
            case rel =>
              refine ⟨i + 1, by omega, by go_num, fun i' g' off' a l c hi' e hc' => ?_, hbel⟩
              by_cases ei : i' = i
              · subst ei
                obtain ⟨rfl, rfl⟩ := addr_inj e
                have e2 := hc'.symm.trans (unhide HC)
                simp only [Option.some.injEq, Value.slice.injEq] at e2
                obtain ⟨rfl, rfl, rfl⟩ := e2
                exact ⟨h14, fun j' g'' off'' a' l' c' hj' e' he' => (unhide HJ) j' g'' off'' a' l' c' hj' e' he'⟩
              · exact (unhide HA) i' g' off' a l c (by omega) e hc'
            case measure => simp [intOf]; omega
      · have h14' : 14 < (l2 : Int) := by omega
        go_wp2
        go_ret
        exact ⟨false, rfl, fun e => by simp at e, hbel⟩
    · have hin : i = n := by omega
      subst hin
      go_wp2
      go_ret
      exact ⟨true, rfl, fun _ => unhide HA, hbel⟩

/-- Rows that came in, told few in a later world: so they are in each later world. -/
theorem ms_later {w w1 : World} {ao : Option Addr} {n cap : Nat} {rs : List (List Int)} (h : MI w ao n cap rs) (hb1 : Below w.heap.size w w1) (hf : FewM w1 ao n) : n ≤ 14 ∧ Wide rs 14 ∧ ∀ w', Below w.heap.size w w' → MS w' ao n cap rs 12 := by
  refine ⟨hf.1, wide_of fun i => ?_, fun w' hb => ⟨h.len_eq, h.cap_le, h.cap_max, h.nil_cap, fun hp => ?_⟩⟩
  · by_cases hi : i < n
    · obtain ⟨g, off, rfl⟩ := h.addr (by omega)
      obtain ⟨hg, a, l, c, hc, hv⟩ := RowsOf.at (R := VI) h hi
      rw [hv.len_eq]
      exact (hf.2 i g off a l c hi rfl ((hb1.cell (p := ⟨g, off + i, none⟩) hg).trans hc)).1
    · rw [show rs.getD i [] = [] by simp [List.getD, List.getElem?_eq_none (show rs.length ≤ i by rw [h.len_eq]; omega)]]
      exact Nat.zero_le _
  · obtain ⟨g, off, e, hg, hc⟩ := h.elts hp
    refine ⟨g, off, e, Nat.lt_of_lt_of_le hg hb.size, fun i hi => ?_⟩
    obtain ⟨a, l, c, h1, h2⟩ := hc i hi
    have hs := (hf.2 i g off a l c hi e ((hb1.cell (p := ⟨g, off + i, none⟩) hg).trans h1)).2
    exact ⟨a, l, c, (hb.cell (p := ⟨g, off + i, none⟩) hg).trans h1, vs_later h2 hb1 hs w' hb⟩
/-- A vector of a literal, told few with it. -/
theorem fewM_at {w w1 : World} {n m i : Nat} {cs : Array Value} {t : TypeId} {a : Option Addr} {l c : Nat} (hn : n = w.heap.size) (hb : Below (w.alloc (.cells cs t)).heap.size (w.alloc (.cells cs t)) w1) (hf : FewM w1 (some ⟨n, 0, none⟩) m) (hi : i < m) (hc : cs[i]? = some (.slice a l c)) : l ≤ 14 ∧ Short w1 a l := by
  subst hn
  refine hf.2 i w.heap.size 0 a l c hi rfl ?_
  rw [Nat.zero_add, hb.cell (p := ⟨w.heap.size, i, none⟩) (by simp)]
  simp [hc]
/-- A literal of slices of ints. -/
theorem intRows_new {w : World} {vs : List (Option Addr × Nat × Nat)} {rs : List (List Int)} {n m : Nat} {t : TypeId} (hm : m = vs.length) (hn : n = w.heap.size) (hl : rs.length = vs.length) (hs : vs.length ≤ 1000)
    (h : ∀ i a l c, vs[i]? = some (a, l, c) → IRowAt (w.alloc (.cells (vs.map fun v => Value.slice v.1 v.2.1 v.2.2).toArray t)) a l c (rs.getD i [])) :
    RowsOf IRowAt (w.alloc (.cells (vs.map fun v => Value.slice v.1 v.2.1 v.2.2).toArray t)) (some ⟨n, 0, none⟩) m m rs := by
  subst hn hm
  refine ⟨hl, Nat.le_refl _, by unfold maxLen; omega, fun e => by simp at e, fun _ => ⟨w.heap.size, 0, rfl, by simp, fun i hi => ?_⟩⟩
  obtain ⟨v, hv⟩ : ∃ v, vs[i]? = some v := ⟨vs[i], List.getElem?_eq_getElem hi⟩
  obtain ⟨a, l, c⟩ := v
  refine ⟨a, l, c, ?_, h i a l c hv⟩
  rw [Nat.zero_add]
  simp [hv]
theorem awake_wide : Wide [[-1, 2], [1, -2], [0, 0]] 1000000 := by
  intro x hx
  simp at hx
  rcases hx with rfl | rfl | rfl <;> simp
theorem awake_half : IsSort (halfL [[-1, 2], [1, -2], [0, 0]]) [[1, -2]] := by
  rw [show halfL [[-1, 2], [1, -2], [0, 0]] = [[1, -2], [1, -2]] by decide]
  have h1 : IsSort ([] ++ [[1, -2]]) ([] ++ [1, -2] :: []) := IsSort.put (p := []) (q := []) isSort_nil (fun y hy => by simp at hy) (fun y hy => by simp at hy)
  exact IsSort.skip (x := [1, -2]) (y := [1, -2]) h1 (by simp) (VSame.refl _)
set_option maxRecDepth 20000 in
set_option maxHeartbeats 2000000 in
theorem awake9_any (w : World) : Calls Try.prog 9 #[] w fun e w' => e = .returned (.bool true) ∧ Below w.heap.size w w' := by
  go_enter Try.func9, Try.ntmps9
  go_wp2_with fail
  obtain ⟨W1, hW1⟩ : ∃ W', W' = w.alloc (.cells #[.int .i64 (-1), .int .i64 2] 3) := ⟨_, rfl⟩
  have hs1 : W1.heap.size = w.heap.size + 1 := by rw [hW1]; simp
  have hb1 : Below w.heap.size w W1 := by rw [hW1]; exact below_new _ _
  have hr1 : IRowAt W1 (some ⟨w.heap.size, 0, none⟩) 2 2 [-1, 2] := by rw [hW1]; exact irow_new (zs := [-1, 2]) rfl rfl (by simp) (small_all (by simp))
  rw [← hW1]
  clear hW1
  obtain ⟨W2, hW2⟩ : ∃ W', W' = W1.alloc (.cells #[.int .i64 1, .int .i64 (-2)] 3) := ⟨_, rfl⟩
  have hs2 : W2.heap.size = W1.heap.size + 1 := by rw [hW2]; simp
  have hb2 : Below W1.heap.size W1 W2 := by rw [hW2]; exact below_new _ _
  have hr2 : IRowAt W2 (some ⟨w.heap.size + 1, 0, none⟩) 2 2 [1, -2] := by rw [hW2, ← hs1]; exact irow_new (zs := [1, -2]) rfl rfl (by simp) (small_all (by simp))
  rw [← hW2]
  clear hW2
  obtain ⟨W3, hW3⟩ : ∃ W', W' = W2.alloc (.cells #[.int .i64 0, .int .i64 0] 3) := ⟨_, rfl⟩
  have hs3 : W3.heap.size = W2.heap.size + 1 := by rw [hW3]; simp
  have hb3 : Below W2.heap.size W2 W3 := by rw [hW3]; exact below_new _ _
  have hr3 : IRowAt W3 (some ⟨w.heap.size + 2, 0, none⟩) 2 2 [0, 0] := by rw [hW3, show w.heap.size + 2 = W2.heap.size by omega]; exact irow_new (zs := [0, 0]) rfl rfl (by simp) (small_all (by simp))
  rw [← hW3]
  clear hW3
  have hb4 := below_new W3 (.cells #[.slice (some ⟨w.heap.size, 0, none⟩) 2 2, .slice (some ⟨w.heap.size + 1, 0, none⟩) 2 2, .slice (some ⟨w.heap.size + 2, 0, none⟩) 2 2] 50)
  have hrows := intRows_new (w := W3) (vs := [(some ⟨w.heap.size, 0, none⟩, 2, 2), (some ⟨w.heap.size + 1, 0, none⟩, 2, 2), (some ⟨w.heap.size + 2, 0, none⟩, 2, 2)]) (rs := [[-1, 2], [1, -2], [0, 0]]) (n := w.heap.size + 3) (m := 3) (t := 50) rfl (by omega) rfl (by simp) (fun i a l c e => by
    match i with
    | 0 =>
      simp at e
      obtain ⟨rfl, rfl, rfl⟩ := e
      exact ((hr1.later hb2).later hb3).later hb4
    | 1 =>
      simp at e
      obtain ⟨rfl, rfl, rfl⟩ := e
      exact (hr2.later hb3).later hb4
    | 2 =>
      simp at e
      obtain ⟨rfl, rfl, rfl⟩ := e
      exact hr3.later hb4)
  refine (refOfAllK _ _ _ [[-1, 2], [1, -2], [0, 0]] _ hrows awake_wide.at (by omega)).mono ?_
  rintro e w5 ⟨a1, c1, rfl, h1, hb5⟩
  have HB := hide (Below.step (Below.step (Below.step (Below.step hb1 hb2) hb3) hb4) hb5)
  clear hrows hr1 hr2 hr3 hs1 hs2 hs3 hb1 hb2 hb3 hb4 hb5
  go_wp2_with fail
  refine (halfK _ _ _ [[-1, 2], [1, -2], [0, 0]] 2 _ (h1.mk (by omega)) (by omega) awake_wide.at (by omega)).mono ?_
  rintro e w6 ⟨a2, m, c2, r, rfl, _, hs, ho, hb6⟩
  obtain rfl := isSort_inj hs awake_half
  have hm1 : m = 1 := ho.len.symm
  subst hm1
  replace HB := hide (Below.step (unhide HB) hb6)
  have hmf := ho.mf
  clear hs ho hb6 h1
  obtain ⟨g, off, rfl⟩ := hmf.addr (by omega)
  obtain ⟨hgr, a5, l5, c5, f2, hv5⟩ := RowsOf.at (R := fun w a l c zs => VF w a l c zs 2) hmf (show 0 < 1 by omega)
  rw [Nat.add_zero] at f2
  have hl5 := hv5.len_eq
  simp only [List.getD_cons_zero] at hv5 hl5
  have hl5' : l5 = 2 := hl5.symm
  subst hl5'
  clear hl5
  have HW : Below w6.heap.size w6 w6.drew := (Below.refl _ _).drew
  go_upto_region 2 with fail
  refine till_start (fun w' => w'.cell? ⟨g, off, none⟩ = some (.slice a5 2 c5)) 19 (by kernel_rfl) ?_ (fun hHeld => ?_)
  · exact (HW.cell (p := ⟨g, off, none⟩) hgr).trans f2
  refine till_take (i := 0) (v := ?_) [1, 2, 3, 4, 5, 6, 7, 8, 9, 10, 11, 12, 13, 14, 15, 16, 17, 18, 19] rfl (by kernel_rfl) (by kernel_rfl) (by kernel_rfl) (by kernel_rfl) (fun _ _ _ h => h) (Or.inl ⟨by rfl, ?_⟩) (by assumption) ?_
  rotate_left
  · (intro w hSw; (try dsimp only at hSw); go_simp; try with_reducible rfl)
  simp only [Act.put, List.getElem_toArray, List.getElem_cons_zero, List.setIfInBounds_toArray, List.set_cons_zero, List.set_cons_succ]
  refine till_take (i := 1) (v := ?_) [2, 3, 4, 5, 6, 7, 8, 9, 10, 11, 12, 13, 14, 15, 16, 17, 18, 19] rfl (by kernel_rfl) (by kernel_rfl) (by kernel_rfl) (by kernel_rfl) (fun _ _ _ h => h) (Or.inl ⟨by rfl, ?_⟩) (by assumption) ?_
  rotate_left
  · (intro w hSw; (try dsimp only at hSw); go_simp; try with_reducible rfl)
  simp only [Act.put, List.getElem_toArray, List.getElem_cons_succ, List.getElem_cons_zero, List.setIfInBounds_toArray, List.set_cons_zero, List.set_cons_succ]
  refine till_take (i := 2) (v := ?_) [3, 4, 5, 6, 7, 8, 9, 10, 11, 12, 13, 14, 15, 16, 17, 18, 19] rfl (by kernel_rfl) (by kernel_rfl) (by kernel_rfl) (by kernel_rfl) (fun _ _ _ h => h) (Or.inl ⟨by rfl, ?_⟩) (by assumption) ?_
  rotate_left
  · (intro w hSw; (try dsimp only at hSw); go_simp; try with_reducible rfl)
  simp only [Act.put, List.getElem_toArray, List.getElem_cons_succ, List.getElem_cons_zero, List.setIfInBounds_toArray, List.set_cons_zero, List.set_cons_succ]
  refine till_take (i := 3) (v := ?_) [4, 5, 6, 7, 8, 9, 10, 11, 12, 13, 14, 15, 16, 17, 18, 19] rfl (by kernel_rfl) (by kernel_rfl) (by kernel_rfl) (by kernel_rfl) (fun _ _ _ h => h) (Or.inl ⟨by rfl, ?_⟩) (by assumption) ?_
  rotate_left
  · (intro w hSw; (try dsimp only at hSw); go_simp; try with_reducible rfl)
  simp only [Act.put, List.getElem_toArray, List.getElem_cons_succ, List.getElem_cons_zero, List.setIfInBounds_toArray, List.set_cons_zero, List.set_cons_succ]
  refine till_take (i := 4) (v := ?_) [5, 6, 9, 10, 11, 12, 13, 14, 15, 16, 17, 18, 19] rfl (by kernel_rfl) (by kernel_rfl) (by kernel_rfl) (by kernel_rfl) (fun _ _ _ h => h) (Or.inl ⟨by rfl, ?_⟩) (by assumption) ?_
  rotate_left
  · (intro w hSw; (try dsimp only at hSw); go_simp; try with_reducible rfl)
  simp only [Act.put, List.getElem_toArray, List.getElem_cons_succ, List.getElem_cons_zero, List.setIfInBounds_toArray, List.set_cons_zero, List.set_cons_succ]
  refine till_take (i := 5) (v := ?_) [6, 9, 10, 11, 12, 13, 14, 15, 16, 17, 18, 19] rfl (by kernel_rfl) (by kernel_rfl) (by kernel_rfl) (by kernel_rfl) (fun _ _ _ h => h) (Or.inl ⟨by rfl, ?_⟩) (by assumption) ?_
  rotate_left
  · (intro w hSw; (try dsimp only at hSw); go_simp; try with_reducible rfl)
  simp only [Act.put, List.getElem_toArray, List.getElem_cons_succ, List.getElem_cons_zero, List.setIfInBounds_toArray, List.set_cons_zero, List.set_cons_succ]
  refine till_take (i := 6) (v := ?_) [9, 10, 11, 12, 13, 14, 15, 16, 17, 18, 19] rfl (by kernel_rfl) (by kernel_rfl) (by kernel_rfl) (by kernel_rfl) (fun _ _ _ h => h) (Or.inl ⟨by rfl, ?_⟩) (by assumption) ?_
  rotate_left
  · (intro w hSw; (try dsimp only at hSw); go_simp; try with_reducible rfl)
  simp only [Act.put, List.getElem_toArray, List.getElem_cons_succ, List.getElem_cons_zero, List.setIfInBounds_toArray, List.set_cons_zero, List.set_cons_succ]
  refine till_in (i := 7) (by kernel_rfl) rfl (fun K hK => ?_)
  go_simp
  obtain ⟨W6, hW6⟩ : ∃ W6, W6 = (w6.alloc (.cells #[.int .i64 1, .int .i64 (-2)] 3)).drew := ⟨_, rfl⟩
  have hb9 : Below w6.heap.size w6 W6 := by rw [hW6]; exact (below_new _ _).drew
  have hr6 : IRowAt W6 (some ⟨w6.heap.size, 0, none⟩) 2 2 [1, -2] := by rw [hW6]; exact (irow_new (w := w6) (zs := [1, -2]) (t := 3) (n := w6.heap.size) (m := 2) rfl rfl (by simp) (small_all (by simp))).later ((Below.refl _ _).drew)
  rw [← hW6]
  clear hW6
  replace HW := hb9
  clear hb9
  refine hK.out _ _ ?_ (fun hHeld => ?_)
  · exact (HW.cell (p := ⟨g, off, none⟩) hgr).trans f2
  clear hK K
  try simp only [Act.put, List.getElem_toArray, List.getElem_cons_succ, List.getElem_cons_zero, List.setIfInBounds_toArray, List.set_cons_zero, List.set_cons_succ]
  refine till_in (i := 8) (by kernel_rfl) rfl (fun K hK => ?_)
  go_simp
  refine (rvofK _ _ _ [1, -2] _ hr6 (by omega)).mono ?_
  rintro e w7 ⟨a7, c7, rfl, h7, hb9⟩
  replace HW := Below.step HW hb9
  clear hb9 hr6
  refine hK.out _ _ ?_ (fun hHeld => ?_)
  · exact (HW.cell (p := ⟨g, off, none⟩) hgr).trans f2
  clear hK K
  try simp only [Act.put, List.getElem_toArray, List.getElem_cons_succ, List.getElem_cons_zero, List.setIfInBounds_toArray, List.set_cons_zero, List.set_cons_succ]
  refine till_in (i := 9) (by kernel_rfl) rfl (fun K hK => ?_)
  go_simp
  refine (rvsameK _ _ _ [1, -2] 2 _ _ _ [1, -2] 2 _ (hv5.later HW) h7 rfl).mono ?_
  rintro e w8 ⟨rfl, hb9⟩
  replace HW := Below.step HW hb9
  clear hb9 h7
  refine hK.out _ _ ?_ (fun hHeld => ?_)
  · exact (HW.cell (p := ⟨g, off, none⟩) hgr).trans f2
  clear hK K
  try simp only [Act.put, List.getElem_toArray, List.getElem_cons_succ, List.getElem_cons_zero, List.setIfInBounds_toArray, List.set_cons_zero, List.set_cons_succ]
  refine till_take (i := 10) (v := ?_) [11, 12, 13, 14, 15, 16, 17, 18, 19] rfl (by kernel_rfl) (by kernel_rfl) (by kernel_rfl) (by kernel_rfl) (fun _ _ _ h => h) (Or.inl ⟨by rfl, ?_⟩) (by assumption) ?_
  rotate_left
  · (intro w hSw; (try dsimp only at hSw); go_simp; try with_reducible rfl)
  simp only [Act.put, List.getElem_toArray, List.getElem_cons_succ, List.getElem_cons_zero, List.setIfInBounds_toArray, List.set_cons_zero, List.set_cons_succ]
  refine till_take (i := 11) (v := ?_) [12, 13, 14, 15, 16, 17, 18, 19] rfl (by kernel_rfl) (by kernel_rfl) (by kernel_rfl) (by kernel_rfl) (fun _ _ _ h => h) (Or.inl ⟨by rfl, ?_⟩) (by assumption) ?_
  rotate_left
  · (intro w hSw; (try dsimp only at hSw); go_simp; try with_reducible rfl)
  simp only [Act.put, List.getElem_toArray, List.getElem_cons_succ, List.getElem_cons_zero, List.setIfInBounds_toArray, List.set_cons_zero, List.set_cons_succ]
  refine till_take (i := 12) (v := ?_) [13, 14, 15, 16, 17, 18, 19] rfl (by kernel_rfl) (by kernel_rfl) (by kernel_rfl) (by kernel_rfl) (fun _ _ _ h => h) (Or.inl ⟨by rfl, ?_⟩) (by assumption) ?_
  rotate_left
  · (intro w hSw; (try dsimp only at hSw); go_simp; try with_reducible rfl)
  simp only [Act.put, List.getElem_toArray, List.getElem_cons_succ, List.getElem_cons_zero, List.setIfInBounds_toArray, List.set_cons_zero, List.set_cons_succ]
  refine till_in (i := 13) (by kernel_rfl) rfl (fun K hK => ?_)
  go_simp
  refine (rowsFormK _ _ _ [[1, -2]] 2 _ (MF.ml (MF.later hmf HW)) (by omega) true (by decide)).mono ?_
  rintro e w10 ⟨rfl, hb9⟩
  replace HW := Below.step HW hb9
  clear hb9
  refine hK.out _ _ ?_ (fun hHeld => ?_)
  · exact (HW.cell (p := ⟨g, off, none⟩) hgr).trans f2
  clear hK K
  try simp only [Act.put, List.getElem_toArray, List.getElem_cons_succ, List.getElem_cons_zero, List.setIfInBounds_toArray, List.set_cons_zero, List.set_cons_succ]
  refine till_take (i := 14) (v := ?_) [15, 16, 17, 18, 19] rfl (by kernel_rfl) (by kernel_rfl) (by kernel_rfl) (by kernel_rfl) (fun _ _ _ h => h) (Or.inl ⟨by rfl, ?_⟩) (by assumption) ?_
  rotate_left
  · (intro w hSw; (try dsimp only at hSw); go_simp; try with_reducible rfl)
  simp only [Act.put, List.getElem_toArray, List.getElem_cons_succ, List.getElem_cons_zero, List.setIfInBounds_toArray, List.set_cons_zero, List.set_cons_succ]
  refine till_take (i := 15) (v := ?_) [16, 17, 18, 19] rfl (by kernel_rfl) (by kernel_rfl) (by kernel_rfl) (by kernel_rfl) (fun _ _ _ h => h) (Or.inl ⟨by rfl, ?_⟩) (by assumption) ?_
  rotate_left
  · (intro w hSw; (try dsimp only at hSw); go_simp; try with_reducible rfl)
  simp only [Act.put, List.getElem_toArray, List.getElem_cons_succ, List.getElem_cons_zero, List.setIfInBounds_toArray, List.set_cons_zero, List.set_cons_succ]
  refine till_in (i := 16) (by kernel_rfl) rfl (fun K hK => ?_)
  go_simp
  refine (rowsFormK _ _ _ [] 0 _ (mf_nil _ 0).ml (by omega) false (by decide)).mono ?_
  rintro e w11 ⟨rfl, hb9⟩
  replace HW := Below.step HW hb9
  clear hb9
  refine hK.out _ _ ?_ (fun hHeld => ?_)
  · exact (HW.cell (p := ⟨g, off, none⟩) hgr).trans f2
  clear hK K
  try simp only [Act.put, List.getElem_toArray, List.getElem_cons_succ, List.getElem_cons_zero, List.setIfInBounds_toArray, List.set_cons_zero, List.set_cons_succ]
  refine till_take (i := 17) (v := ?_) [18, 19] rfl (by kernel_rfl) (by kernel_rfl) (by kernel_rfl) (by kernel_rfl) (fun _ _ _ h => h) (Or.inl ⟨by rfl, ?_⟩) (by assumption) ?_
  rotate_left
  · (intro w hSw; (try dsimp only at hSw); go_simp; try with_reducible rfl)
  simp only [Act.put, List.getElem_toArray, List.getElem_cons_succ, List.getElem_cons_zero, List.setIfInBounds_toArray, List.set_cons_zero, List.set_cons_succ]
  refine till_take (i := 18) (v := ?_) [19] rfl (by kernel_rfl) (by kernel_rfl) (by kernel_rfl) (by kernel_rfl) (fun _ _ _ h => h) (Or.inl ⟨by rfl, ?_⟩) (by assumption) ?_
  rotate_left
  · (intro w hSw; (try dsimp only at hSw); go_simp; try with_reducible rfl)
  simp only [Act.put, List.getElem_toArray, List.getElem_cons_succ, List.getElem_cons_zero, List.setIfInBounds_toArray, List.set_cons_zero, List.set_cons_succ]
  refine till_out (i := 19) (by kernel_rfl) rfl (by kernel_rfl) (fun K hK => ?_)
  go_simp
  refine hK.out _ _ ?_
  clear hK K
  try simp only [Act.put, List.getElem_toArray, List.getElem_cons_succ, List.getElem_cons_zero, List.setIfInBounds_toArray, List.set_cons_zero, List.set_cons_succ]
  refine till_done (by kernel_rfl) ?_ _
  go_wp2
  go_ret
  exact ⟨rfl, Below.step (unhide HB) HW⟩
#print axioms few9_any
#print axioms ms_later
#print axioms awake9_any
end Go.Proofs.Ytbdjkbonoofibaa
