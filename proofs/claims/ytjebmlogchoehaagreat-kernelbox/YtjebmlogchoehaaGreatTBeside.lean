/-
  What besideUnits of package hnf tells: the rows, the unit rows beside them.
-/
import Derived.Test.YtjebmlogchoehaaGreatTConcat
import Derived.Test.YtjebmlogchoehaaGreatRUnit
namespace Go.Proofs.YtjebmlogchoehaaGreat
open Go.RowKit Lb
set_option maxRecDepth 20000

theorem mk_two {w : World} {a a' : Option Addr} {l c l' c' k : Nat} {zs ys : List Int} (h : VK w a l c zs k) (h' : VK w a' l' c' ys k) : MK (w.alloc (.cells #[.slice a l c, .slice a' l' c'] 24)) (some ⟨w.heap.size, 0, none⟩) 2 2 [zs, ys] k := by
  refine rowsOf_new (R := fun w a l c zs => VK w a l c zs k) (vs := [(a, l, c), (a', l', c')]) rfl rfl rfl (by simp) fun i a2 l2 c2 e => ?_
  match i with
  | 0 =>
    simp at e
    obtain ⟨rfl, rfl, rfl⟩ := e
    exact h.later (below_new w _)
  | 1 =>
    simp at e
    obtain ⟨rfl, rfl, rfl⟩ := e
    exact h'.later (below_new w _)
theorem unit_len {n i : Nat} (hi : i < n) : ((unitL n).getD i []).length = n := by
  rw [← unit_row hi]; simp
theorem wideL_of {cs ws : List (List Int)} {N n : Nat} (hw : ws.length = n) (hc : cs.length = n) (hN : ∀ i, i < n → (cs.getD i []).length = N) (h : ∀ j, j < n → ws.getD j [] = cs.getD j [] ++ (unitL n).getD j []) : WideL cs ws N n := by
  refine ⟨hw, hc, fun i j hi hj => ?_, fun i j hi => ?_, hN⟩
  · unfold ent
    rw [h i hi, List.getD_eq_getElem?_getD, List.getElem?_append_left (by rw [hN i hi]; exact hj), ← List.getD_eq_getElem?_getD]
  · rw [← ent_unit hi]
    unfold ent
    rw [h i hi, List.getD_eq_getElem?_getD, List.getElem?_append_right (by rw [hN i hi]; omega), hN i hi, Nat.add_sub_cancel, ← List.getD_eq_getElem?_getD]
/-- The wide rows' numbers are no greater. -/
theorem WideL.small {cs W : List (List Int)} {k n b : Nat} (h : WideL cs W k n) (hb : ∀ i j, (ent cs i j).natAbs < Bp b) (h1 : 1 < Bp b) (i j : Nat) : (ent W i j).natAbs < Bp b := by
  by_cases hi : i < n
  · by_cases hj : j < k
    · rw [h.left i j hi hj]; exact hb i j
    · rw [show j = (j - k) + k by omega, h.right i (j - k) hi]
      split
      · simpa using h1
      · simp; omega
  · rw [ent_out (by rw [h.len]; omega)]
    simp; omega
set_option maxHeartbeats 2000000 in
theorem besideUnitsK (ao : Option Addr) (n cap : Nat) (cs : List (List Int)) (k N : Nat) (w : World) (h : MK w ao n cap cs k) (hk2 : 2 ≤ k) (hk : k ≤ 999990) (hN : ∀ i, i < n → (cs.getD i []).length = N) (hn : n ≤ 100) (hNl : N ≤ 100) :
    Calls Tryz.prog 82 #[.slice ao n cap] w fun e w' => ∃ a1 c1 W, e = .returned (.slice a1 n c1) ∧ MK w' a1 n c1 W k ∧ WideL cs W N n ∧ (∀ i, i < n → (W.getD i []).length = N + n) ∧ Below w.heap.size w w' := by
  have HL := hide h.len_eq
  have HN := hide hN
  clear hN
  go_enter Tryz.func82, Tryz.ntmps82
  go_wp2_with (at_make; refine make_rows (R := fun w a l c zs => VK w a l c zs k) (fun w => vk_nil w _) rfl _ _ 22 Tryz.underlying22 rfl w.heap.size .i64 .i64 _ _ n rfl rfl (by omega) (by omega) (by omega) (by omega) ?_)
  intro w2 hown hgrow
  have hbg : Below w.heap.size w w2 := (Below.refl _ _).grown hgrow (Nat.le_refl _) (fun _ h => by simp at h)
  have HB := hide hbg
  clear hgrow hbg
  obtain ⟨gv, egv⟩ : ∃ gv, gv = w.heap.size := ⟨_, rfl⟩
  rw [show (some ⟨w.heap.size, 0, none⟩ : Option Addr) = some ⟨gv, 0, none⟩ by rw [egv]] at hown ⊢
  clear egv
  go_wp2_with fail
  go_loopw [12] (fun t wr => ∃ (i : Nat) (ws : List (List Int)), i ≤ n ∧ t = .int .i64 (i : Int) ∧ MOwn (fun w a l c zs => VK w a l c zs k) wr w.heap.size (some ⟨gv, 0, none⟩) n n ws ∧ (∀ j, j < i → ws.getD j [] = cs.getD j [] ++ (unitL n).getD j []) ∧ Below w.heap.size w wr) (fun t _ => n - (intOf t).toNat)
  case atStart => exact ⟨0, _, Nat.zero_le _, rfl, hown, fun j hj => absurd hj (by omega), unhide HB⟩
  case round =>
    clear hown HB
    obtain ⟨i, ws, hi, rfl, hown, hall, hB⟩ := hrel
    have HA := hide hall
    have HB := hide hB
    clear hall hB
    by_cases hlt : i < n
    · obtain ⟨g, off, rfl⟩ := h.addr (by omega)
      obtain ⟨hg, a5, l5, c5, hc5, hv5⟩ := RowsOf.at (R := fun w a l c zs => VK w a l c zs k) h hlt
      have hl5 : N = l5 := by rw [← hv5.len_eq]; exact (unhide HN i hlt).symm
      subst hl5
      have f2 := ((unhide HB).cell (p := ⟨g, off + i, none⟩) hg).trans hc5
      have hgr := Nat.lt_of_lt_of_le hg (unhide HB).size
      have hi0 : (0 : Int) ≤ (i : Int) := by omega
      have hi1 : (i : Int) < (n : Int) := by omega
      replace hv5 := hv5.later (unhide HB)
      clear hc5 hg
      go_wp2_with (at_make; refine make_vec rfl _ _ 24 Tryz.underlying24 rfl wr.heap.size .i64 .i64 _ _ n 2 rfl rfl (by omega) (by omega) (by omega) (by omega) ?_)
      intro w3 hv hgrow
      have hbg : Below wr.heap.size wr w3 := (Below.refl _ _).grown hgrow (Nat.le_refl _) (fun _ h => by simp at h)
      have HC := hide hbg
      clear hgrow hbg f2 hgr
      obtain ⟨gu, egu⟩ : ∃ gu, gu = wr.heap.size := ⟨_, rfl⟩
      rw [show (some ⟨wr.heap.size, 0, none⟩ : Option Addr) = some ⟨gu, 0, none⟩ by rw [egu]] at hv ⊢
      clear egu
      go_wp2_with fail
      refine (ofK 1 _ (by omega) (by omega)).mono ?_
      rintro e w4 ⟨b6, a6, l6, c6, rfl, h6, hb1⟩
      replace hv := hv.later hb1
      replace HC := hide (Below.step (unhide HC) hb1)
      clear hb1
      obtain ⟨b8, a8, l8, c8, he8, _⟩ := hv.vf.at hlt
      rw [Nat.zero_add] at he8
      obtain ⟨q1, q2⟩ := he8.facts
      have q3 := hv.free (i * 2)
      have q4 := hv.free (i * 2 + 1)
      have hbl := hv.base_le
      have hv2 := hv.set hlt h6
      rw [unit_row hlt] at hv2
      have hz := ((unhide HC).setCell (p := ⟨gu, i * 2, none⟩) (by simpa using hbl.1) (.bool b6)).setCell (p := ⟨gu, i * 2 + 1, none⟩) (by simpa using hbl.1) (.slice a6 l6 c6)
      obtain ⟨x, ex⟩ : ∃ x, x = cs.getD i [] := ⟨_, rfl⟩
      obtain ⟨y, ey⟩ : ∃ y, y = (unitL n).getD i [] := ⟨_, rfl⟩
      rw [← ex] at hv5
      rw [← ey] at hv2
      have hx : x.length = N := by rw [ex]; exact unhide HN i hlt
      have hy : y.length = n := by rw [ey]; exact unit_len hlt
      have EX := hide ex
      have EY := hide ey
      have hfl : [x, y].flatten = x ++ y := by simp
      have hfn : [x, y].flatten.length = N + n := by rw [hfl, List.length_append, hx, hy]
      have htwo := mk_two (hv5.later hz) (VecOf.mono (hv2.vf.vk (by omega)) fun _ h => h.up hk2)
      rw [show ((w4.setCell ⟨gu, i * 2, none⟩ (.bool b6)).setCell ⟨gu, i * 2 + 1, none⟩ (.slice a6 l6 c6)).heap.size = w4.heap.size by simp] at htwo
      have hnw := below_new ((w4.setCell ⟨gu, i * 2, none⟩ (.bool b6)).setCell ⟨gu, i * 2 + 1, none⟩ (.slice a6 l6 c6)) (.cells #[.slice a5 N c5, .slice (some ⟨gu, 0, none⟩) n n] 24)
      have HZ := hide (Below.step hz hnw)
      clear ex ey hz hv hv2 hnw h6 HC hbl
      go_wp2_with fail
      refine (concatK _ 2 2 [x, y] k _ htwo hk (by omega) (by rw [hfn]; omega) (by rw [hfn]; omega)).mono ?_
      rintro e w6 ⟨a9, c9, rfl, h9, hb9⟩
      rw [hfn] at h9 ⊢
      rw [hfl] at h9
      have hup := Below.step (unhide HZ) hb9
      have hown2 := MOwn.later (R := fun w a l c zs => VK w a l c zs k) (fun h hb => VK.later h hb) hown hup
      have HD := hide (Below.step (unhide HB) hup)
      clear hb9 hup htwo hfl hfn hown q1 q2 q3 q4 he8
      obtain ⟨_, a10, l10, c10, q5, _⟩ := RowsOf.at (R := fun w a l c zs => VK w a l c zs k) hown2.rows hlt
      rw [Nat.zero_add] at q5
      have q7 := hown2.free i
      have hbl := hown2.base_le
      go_wp2
      go_roundw
      case rel =>
        refine ⟨i + 1, ws.set i (x ++ y), by omega, by go_num, MOwn.set (R := fun w a l c zs => VK w a l c zs k) (steadyV_vk k) hown2 hlt h9, fun j hj => ?_, (unhide HD).setCell (by simpa using hbl.1) _⟩
        by_cases c : j = i
        · subst c
          rw [← unhide EX, ← unhide EY]
          simp [List.getD, hown2.len, hlt]
        · rw [show (ws.set i (x ++ y)).getD j [] = ws.getD j [] by simp [List.getD, List.getElem?_set_ne (Ne.symm c)]]
          exact unhide HA j (by omega)
      case measure => simp [intOf]; omega
    · have hin : i = n := by omega
      subst hin
      have hi1 : ¬ (i : Int) < (i : Int) := by omega
      have hW := wideL_of hown.len (unhide HL) (unhide HN) (unhide HA)
      have HW := hide hW
      have HWL : Hid (∀ t, t < i → (ws.getD t []).length = N + i) := hide fun t ht => by rw [unhide HA t ht, List.length_append, unhide HN t ht, unit_len ht]
      clear hW
      go_wp2
      go_ret
      exact ⟨_, _, rfl, _, hown.rows, unhide HW, unhide HWL, unhide HB⟩

#print axioms besideUnitsK
end Go.Proofs.YtjebmlogchoehaaGreat
