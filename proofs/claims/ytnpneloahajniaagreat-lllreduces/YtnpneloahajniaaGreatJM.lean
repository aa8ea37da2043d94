/-
 What the reference's SameAll, Normal, OfAll and Turn tell, and likeAll of the statements (IN PARTS).
-/
import Derived.Test.YtnpneloahajniaaGreatJI
import Derived.Test.YtnpneloahajniaaGreatJF
import Derived.Test.YtnpneloahajniaaGreatJE
import Derived.Deep.CutRange
import Derived.Test.YtnpneloahajniaaGreatJK
namespace Go.Proofs.YtnpneloahajniaaGreat
open Go.RowKit Lb
set_option maxRecDepth 20000

set_option maxRecDepth 20000 in
set_option maxHeartbeats 2000000 in
theorem refSameAllK (ao : Option Addr) (n cap : Nat) (rs : List (List Int)) (k : Nat) (ap : Option Addr) (m cp : Nat) (ss : List (List Int)) (l : Nat) (w : World) (h : MF w ao n cap rs k) (h' : MF w ap m cp ss l) (he : rs = ss) :
  Calls Tryz.prog 15 #[.slice ao n cap, .slice ap m cp] w fun e w' => e = .returned (.bool true) ∧ Below w.heap.size w w' := by
 have hmn := Nat.le_trans h.cap_le h.cap_max;unfold maxLen at hmn;have hnm : n = m := by rw [← h.len_eq, ← h'.len_eq, he]
 subst hnm;have HE := zh he;clear he;have hne' : ((n : Int) != (n : Int)) = false := by simp
 go_enter Tryz.func15, Tryz.ntmps15
 go_wp2_with fail
 go_loopw [5] (fun t wr => ∃ i : Nat, i ≤ n ∧ t = .int .i64 (i : Int) ∧ Below w.heap.size w wr) (fun t _ => n - (intOf t).toNat)
 case atStart => exact ⟨0, Nat.zero_le _, rfl, Below.refl _ _⟩
 case round =>
  obtain ⟨i, hi, rfl, hB⟩ := hrel;have HB := zh hB;clear hB;by_cases hlt : i < n
  ·obtain ⟨g, off, rfl⟩ := h.addr (by omega);obtain ⟨hg, a5, l5, c5, hc5, hv5⟩ := RowsOf.at (R := fun w a l c zs => VF w a l c zs k) h hlt;obtain ⟨g2, off2, rfl⟩ := h'.addr (by omega);obtain ⟨hg2, a6, l6, c6, hc6, hv6⟩ := RowsOf.at (R := fun w a l' c zs => VF w a l' c zs l) h' hlt;replace hv5 := hv5.za (zu HB);replace hv6 := hv6.za (zu HB);have f2 := ((zu HB).cell (p := ⟨g, off + i, none⟩) hg).trans hc5;have f3 := ((zu HB).cell (p := ⟨g2, off2 + i, none⟩) hg2).trans hc6;have hgr := Nat.lt_of_lt_of_le hg (zu HB).size;have hgr2 := Nat.lt_of_lt_of_le hg2 (zu HB).size;have hi0 : (0 : Int) ≤ (i : Int) := by omega
   have hi1 : (i : Int) < (n : Int) := by omega
   clear hc5 hg hc6 hg2;have HW : Below wr.heap.size wr wr.drew := (Below.refl _ _).drew
   go_upto_region 6 with fail
   have HS := zh fun w' (HW : Below wr.heap.size wr w') => con2 ((HW.cell (p := ⟨g, off + i, none⟩) hgr).trans f2) ((HW.cell (p := ⟨g2, off2 + i, none⟩) hgr2).trans f3);refine zst HS HW 9 (by kernel_rfl) fun zH => ?_;refine ztl 0 rfl ?_;simp only [Act.put, aGet, aZero, aSet, aHead, aTail];refine ztl 1 rfl ?_;simp only [zP];refine ztl 2 rfl ?_;simp only [zP];refine ztl 3 rfl ?_;simp only [zP];refine ztl 4 rfl ?_;simp only [zP];refine ztl 5 rfl ?_;simp only [zP];refine ztl 6 rfl ?_;simp only [zP];refine ztl 7 rfl ?_;simp only [zP];refine tin 8 rfl fun K hK => ?_;go_simp;refine (rvsameK _ _ _ (rs.getD i []) k _ _ _ (ss.getD i []) l _ (hv5.za HW) (hv6.za HW) (by rw [zu HE])).mono ?_;rintro e w9 ⟨rfl, hb9⟩;replace HW := Below.step HW hb9;clear hb9;refine hK.out _ _ ?_ (fun zH => ?_)
   ·exact zu HS _ HW
   clear hK K
   try simp only [zP]
   refine tout 9 rfl fun K hK => ?_;go_simp;refine hK.out _ _ ?_;clear hK K
   try simp only [zP]
   refine zdn (by kernel_rfl) ?_ _;go_wp2;go_roundw
   case rel => exact ⟨i + 1, by omega, by go_num, Below.step (zu HB) HW⟩
   case measure => simp [intOf]; omega
  ·have hin : ¬ (i : Int) < (n : Int) := by omega
   go_wp2;go_ret;exact ⟨rfl, zu HB⟩

set_option maxRecDepth 20000 in
set_option maxHeartbeats 2000000 in
theorem refOfAllK (ao : Option Addr) (n cap : Nat) (rs : List (List Int)) (w : World) (h : RowsOf IRowAt w ao n cap rs) (hr : ∀ i, (rs.getD i []).length ≤ 1000000) (hn : n ≤ 100000) :
  Calls Tryz.prog 26 #[.slice ao n cap] w fun e w' => ∃ a1 c1, e = .returned (.slice a1 n c1) ∧ MF w' a1 n c1 rs 2 ∧ Below w.heap.size w w' := by
 have HL := zh h.len_eq;have HQ := zh hr;clear hr;go_enter Tryz.func26, Tryz.ntmps26
 go_wp2_with fail
 go_loopw [3, 4] (fun s t wr => ∃ (i : Nat) (ao' : Option Addr) (cap' : Nat), i ≤ n ∧ t = .int .i64 (i : Int) ∧ s = .slice ao' i cap' ∧ MO wr w.heap.size ao' i cap' (rs.take i) 2 ∧ Below w.heap.size w wr) (fun _ t _ => n - (intOf t).toNat)
 case atStart => exact ⟨0, _, _, Nat.zero_le _, rfl, rfl, mo_nil _ _ _, Below.refl _ _⟩
 case round =>
  obtain ⟨i, ao', cap', hi, rfl, rfl, hown, hB⟩ := hrel;have HB := zh hB;clear hB;by_cases hlt : i < n
  ·obtain ⟨g, off, rfl⟩ := h.addr (by omega);obtain ⟨hg, a5, l5, c5, hc5, hv5⟩ := RowsOf.at (R := IRowAt) h hlt;have hn5 : l5 ≤ 1000000 := by rw [← hv5.len_eq]; exact zu HQ i
   replace hv5 := hv5.za (zu HB);have f2 := ((zu HB).cell (p := ⟨g, off + i, none⟩) hg).trans hc5;have hgr := Nat.lt_of_lt_of_le hg (zu HB).size;have hi0 : (0 : Int) ≤ (i : Int) := by omega
   have hi1 : (i : Int) < (n : Int) := by omega
   clear hc5 hg
   go_wp2_with fail
   refine (rvofK _ _ _ (rs.getD i []) _ hv5 hn5).mono ?_;rintro e w5 ⟨a7, c7, rfl, h7, hb9⟩;replace hown := hown.za hb9;replace HB := zh (Below.step (zu HB) hb9);clear hb9 f2 hgr;obtain ⟨L, eL⟩ : ∃ L, L = rs.take i := ⟨_, rfl⟩;obtain ⟨x, ex⟩ : ∃ x, x = rs.getD i [] := ⟨_, rfl⟩;rw [← eL] at hown;rw [← ex] at h7;have EL := zh eL;have EX := zh ex;clear eL ex;obtain ⟨W6, hW6⟩ : ∃ W6, W6 = w5.alloc (.cells #[.slice a7 l5 c7] 39) := ⟨_, rfl⟩;have hb9 : Below w5.heap.size w5 W6 := by rw [hW6]; exact below_new _ _
   have hone := mf_one h7;replace hown := hown.za hb9;replace HB := zh (Below.step (zu HB) hb9);clear hb9;have hsz := (zu HB).size;rw [hW6] at hown hsz
   go_wp2_with (at_builtin; refine append_rows (R := fun w a l c zs => VF w a l c zs 2) (steadyMO 2) rfl (.tmp 11) (.tmp 17) 22 Tryz.underlying22 rfl w.heap.size ao' i cap' L rfl hown _ 1 1 [x] rfl hone (by omega) hsz ?_)
   intro an cn w7 hown2 hgr7;rw [← hW6] at hgr7 hown hsz;clear hW6 hone;have HD := (zu HB).grown hgr7 hsz (MO.ge hown);clear hgr7;go_wp2;go_roundw
   case rel => exact ⟨i + 1, _, _, by omega, by go_num, rfl, by rw [take_snoc [] (by rw [zu HL]; exact hlt), ← zu EL, ← zu EX]; exact hown2, HD⟩
   case measure => simp [intOf]; omega
  ·have hin : i = n := by omega
   subst hin;rw [List.take_of_length_le (by rw [zu HL]; exact Nat.le_refl _)] at hown;have hin' : ¬ (i : Int) < (i : Int) := by omega
   go_wp2;go_ret;exact ⟨_, _, rfl, hown.mf, zu HB⟩

end Go.Proofs.YtnpneloahajniaaGreat
