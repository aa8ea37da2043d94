/-
 What the reference's SameAll, Normal, OfAll and Turn tell, and likeAll of the statements (IN PARTS).
-/
import Derived.Test.YtjebmlogchoehaaGreatJI
import Derived.Test.YtjebmlogchoehaaGreatJF
import Derived.Test.YtjebmlogchoehaaGreatJE
import Derived.Deep.CutRange
import Derived.Test.YtjebmlogchoehaaGreatJK
namespace Go.Proofs.YtjebmlogchoehaaGreat
open Go.RowKit Lb
set_option maxRecDepth 20000

theorem vfn_up {w : World} {ao : Option Addr} {n cap k l : Nat} {zs : List Int} (h : VF w ao n cap zs k) (hl : k ≤ l) : VF w ao n cap zs l := VecOf.mono h (fun _ h => h.up hl)
set_option maxRecDepth 20000 in
set_option maxHeartbeats 2000000 in
theorem refSameAllK (ao : Option Addr) (n cap : Nat) (rs : List (List Int)) (k : Nat) (ap : Option Addr) (m cp : Nat) (ss : List (List Int)) (l : Nat) (w : World) (h : MF w ao n cap rs k) (h' : MF w ap m cp ss l) (he : rs = ss) :
  Calls Tryz.prog 15 #[.slice ao n cap, .slice ap m cp] w fun e w' => e = .returned (.bool true) ∧ Below w.heap.size w w' := by
 have hmn := Nat.le_trans h.cap_le h.cap_max
 unfold maxLen at hmn
 have hnm : n = m := by rw [← h.len_eq, ← h'.len_eq, he]
 subst hnm
 have HE := hide he
 clear he
 have hne' : ((n : Int) != (n : Int)) = false := by simp
 go_enter Tryz.func15, Tryz.ntmps15
 go_wp2_with fail
 go_loopw [5] (fun t wr => ∃ i : Nat, i ≤ n ∧ t = .int .i64 (i : Int) ∧ Below w.heap.size w wr) (fun t _ => n - (intOf t).toNat)
 case atStart => exact ⟨0, Nat.zero_le _, rfl, Below.refl _ _⟩
 case round =>
  obtain ⟨i, hi, rfl, hB⟩ := hrel
  have HB := hide hB
  clear hB
  by_cases hlt : i < n
  ·obtain ⟨g, off, rfl⟩ := h.addr (by omega)
   obtain ⟨hg, a5, l5, c5, hc5, hv5⟩ := RowsOf.at (R := fun w a l c zs => VF w a l c zs k) h hlt
   obtain ⟨g2, off2, rfl⟩ := h'.addr (by omega)
   obtain ⟨hg2, a6, l6, c6, hc6, hv6⟩ := RowsOf.at (R := fun w a l' c zs => VF w a l' c zs l) h' hlt
   replace hv5 := hv5.later (unhide HB)
   replace hv6 := hv6.later (unhide HB)
   have f2 := ((unhide HB).cell (p := ⟨g, off + i, none⟩) hg).trans hc5
   have f3 := ((unhide HB).cell (p := ⟨g2, off2 + i, none⟩) hg2).trans hc6
   have hgr := Nat.lt_of_lt_of_le hg (unhide HB).size
   have hgr2 := Nat.lt_of_lt_of_le hg2 (unhide HB).size
   have hi0 : (0 : Int) ≤ (i : Int) := by omega
   have hi1 : (i : Int) < (n : Int) := by omega
   clear hc5 hg hc6 hg2
   have HW : Below wr.heap.size wr wr.drew := (Below.refl _ _).drew
   go_upto_region 6 with fail
   refine till_start (fun w' => w'.cell? ⟨g, off + i, none⟩ = some (.slice a5 l5 c5) ∧ w'.cell? ⟨g2, off2 + i, none⟩ = some (.slice a6 l6 c6)) 9 (by kernel_rfl) ?_ (fun hHeld => ?_)
   ·exact ⟨(HW.cell (p := ⟨g, off + i, none⟩) hgr).trans f2, (HW.cell (p := ⟨g2, off2 + i, none⟩) hgr2).trans f3⟩
   refine till_tl (i := 0) [2, 3, 8, 9] rfl ?_
   simp only [Act.put, aGet, aZero, aSet, aHead, aTail]
   refine till_tl (i := 1) [2, 3, 8, 9] rfl ?_
   simp only [Act.put, aAll]
   refine till_tl (i := 2) [3, 8, 9] rfl ?_
   simp only [Act.put, aAll]
   refine till_tl (i := 3) [8, 9] rfl ?_
   simp only [Act.put, aAll]
   refine till_tl (i := 4) [6, 7, 8, 9] rfl ?_
   simp only [Act.put, aAll]
   refine till_tl (i := 5) [6, 7, 8, 9] rfl ?_
   simp only [Act.put, aAll]
   refine till_tl (i := 6) [7, 8, 9] rfl ?_
   simp only [Act.put, aAll]
   refine till_tl (i := 7) [8, 9] rfl ?_
   simp only [Act.put, aAll]
   refine till_in (i := 8) (by kernel_rfl) rfl (fun K hK => ?_)
   go_simp
   refine (rvsameK _ _ _ (rs.getD i []) k _ _ _ (ss.getD i []) l _ (hv5.later HW) (hv6.later HW) (by rw [unhide HE])).mono ?_
   rintro e w9 ⟨rfl, hb9⟩
   replace HW := Below.step HW hb9
   clear hb9
   refine hK.out _ _ ?_ (fun hHeld => ?_)
   ·exact ⟨(HW.cell (p := ⟨g, off + i, none⟩) hgr).trans f2, (HW.cell (p := ⟨g2, off2 + i, none⟩) hgr2).trans f3⟩
   clear hK K
   try simp only [Act.put, aAll]
   refine till_out (i := 9) (by kernel_rfl) rfl (by kernel_rfl) (fun K hK => ?_)
   go_simp
   refine hK.out _ _ ?_
   clear hK K
   try simp only [Act.put, aAll]
   refine till_done (by kernel_rfl) ?_ _
   go_wp2
   go_roundw
   case rel => exact ⟨i + 1, by omega, by go_num, Below.step (unhide HB) HW⟩
   case measure => simp [intOf]; omega
  ·have hin : ¬ (i : Int) < (n : Int) := by omega
   go_wp2
   go_ret
   exact ⟨rfl, unhide HB⟩

set_option maxRecDepth 20000 in
set_option maxHeartbeats 2000000 in
theorem refOfAllK (ao : Option Addr) (n cap : Nat) (rs : List (List Int)) (w : World) (h : RowsOf IRowAt w ao n cap rs) (hr : ∀ i, (rs.getD i []).length ≤ 1000000) (hn : n ≤ 100000) :
  Calls Tryz.prog 30 #[.slice ao n cap] w fun e w' => ∃ a1 c1, e = .returned (.slice a1 n c1) ∧ MF w' a1 n c1 rs 2 ∧ Below w.heap.size w w' := by
 have HL := hide h.len_eq
 have HQ := hide hr
 clear hr
 go_enter Tryz.func30, Tryz.ntmps30
 go_wp2_with fail
 go_loopw [3, 4] (fun s t wr => ∃ (i : Nat) (ao' : Option Addr) (cap' : Nat), i ≤ n ∧ t = .int .i64 (i : Int) ∧ s = .slice ao' i cap' ∧ MO wr w.heap.size ao' i cap' (rs.take i) 2 ∧ Below w.heap.size w wr) (fun _ t _ => n - (intOf t).toNat)
 case atStart => exact ⟨0, _, _, Nat.zero_le _, rfl, rfl, mo_nil _ _ _, Below.refl _ _⟩
 case round =>
  obtain ⟨i, ao', cap', hi, rfl, rfl, hown, hB⟩ := hrel
  have HB := hide hB
  clear hB
  by_cases hlt : i < n
  ·obtain ⟨g, off, rfl⟩ := h.addr (by omega)
   obtain ⟨hg, a5, l5, c5, hc5, hv5⟩ := RowsOf.at (R := IRowAt) h hlt
   have hn5 : l5 ≤ 1000000 := by rw [← hv5.len_eq]; exact unhide HQ i
   replace hv5 := hv5.later (unhide HB)
   have f2 := ((unhide HB).cell (p := ⟨g, off + i, none⟩) hg).trans hc5
   have hgr := Nat.lt_of_lt_of_le hg (unhide HB).size
   have hi0 : (0 : Int) ≤ (i : Int) := by omega
   have hi1 : (i : Int) < (n : Int) := by omega
   clear hc5 hg
   go_wp2_with fail
   refine (rvofK _ _ _ (rs.getD i []) _ hv5 hn5).mono ?_
   rintro e w5 ⟨a7, c7, rfl, h7, hb9⟩
   replace hown := hown.later hb9
   replace HB := hide (Below.step (unhide HB) hb9)
   clear hb9 f2 hgr
   obtain ⟨L, eL⟩ : ∃ L, L = rs.take i := ⟨_, rfl⟩
   obtain ⟨x, ex⟩ : ∃ x, x = rs.getD i [] := ⟨_, rfl⟩
   rw [← eL] at hown
   rw [← ex] at h7
   have EL := hide eL
   have EX := hide ex
   clear eL ex
   obtain ⟨W6, hW6⟩ : ∃ W6, W6 = w5.alloc (.cells #[.slice a7 l5 c7] 24) := ⟨_, rfl⟩
   have hb9 : Below w5.heap.size w5 W6 := by rw [hW6]; exact below_new _ _
   have hone := mf_one h7
   replace hown := hown.later hb9
   replace HB := hide (Below.step (unhide HB) hb9)
   clear hb9
   have hsz := (unhide HB).size
   rw [hW6] at hown hsz
   go_wp2_with (at_builtin; refine append_rows (R := fun w a l c zs => VF w a l c zs 2) (steadyMO 2) rfl (.tmp 11) (.tmp 17) 22 Tryz.underlying22 rfl w.heap.size ao' i cap' L rfl hown _ 1 1 [x] rfl hone (by omega) hsz ?_)
   intro an cn w7 hown2 hgr7
   rw [← hW6] at hgr7 hown hsz
   clear hW6 hone
   have HD := (unhide HB).grown hgr7 hsz (MO.ge hown)
   clear hgr7
   go_wp2
   go_roundw
   case rel => exact ⟨i + 1, _, _, by omega, by go_num, rfl, by rw [take_snoc [] (by rw [unhide HL]; exact hlt), ← unhide EL, ← unhide EX]; exact hown2, HD⟩
   case measure => simp [intOf]; omega
  ·have hin : i = n := by omega
   subst hin
   rw [List.take_of_length_le (by rw [unhide HL]; exact Nat.le_refl _)] at hown
   have hin' : ¬ (i : Int) < (i : Int) := by omega
   go_wp2
   go_ret
   exact ⟨_, _, rfl, hown.mf, unhide HB⟩

theorem MO.nil_or {w : World} {base : Nat} {ao : Option Addr} {n cap k : Nat} {rs : List (List Int)} (h : MO w base ao n cap rs k) : (ao = none ∧ n = 0 ∧ cap = 0) ∨ ∃ g, ao = some ⟨g, 0, none⟩ := by
 obtain ⟨⟨vs, hrow, _⟩, _⟩ := h
 rcases hrow.own.2 with ⟨e, e0⟩ | ⟨g, c, cur, e, _⟩
 ·simp only [Value.slice.injEq] at e
  exact Or.inl ⟨e.1, e0, e.2.2⟩
 ·simp only [Value.slice.injEq, true_and] at e
  exact Or.inr ⟨g, e.1⟩
/-
 What the reference's Half and Both tell (IN PARTS).
-/

theorem MF.up {w : World} {ao : Option Addr} {n cap k l : Nat} {rs : List (List Int)} (h : MF w ao n cap rs k) (hl : k ≤ l) : MF w ao n cap rs l := RowsOf.imp (R := fun w a l c zs => VF w a l c zs k) h fun h => vfn_up h hl
/-
 What the reference's Product tells (IN PARTS).
-/

theorem VS.some {w : World} {ao : Option Addr} {n cap k : Nat} {zs : List Int} (h : VS w ao n cap zs k) (hp : 0 < n) : ∃ g off, ao = some ⟨g, off, none⟩ := h.vk.some hp
end Go.Proofs.YtjebmlogchoehaaGreat
