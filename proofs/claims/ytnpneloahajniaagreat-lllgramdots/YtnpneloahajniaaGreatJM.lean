/-
 What the reference's SameAll, Normal, OfAll and Turn tell, and likeAll of the statements (IN PARTS).
-/
import Derived.Test.YtnpneloahajniaaGreatJI
import Derived.Test.YtnpneloahajniaaGreatJF
import Derived.Test.YtnpneloahajniaaGreatJE
import Derived.Deep.CutRange
import Derived.Test.YtnpneloahajniaaGreatJK
namespace Go.Proofs.YtnpneloahajniaaGreat
open Go.RowKit Lb
set_option maxRecDepth 20000

set_option maxRecDepth 20000 in
set_option maxHeartbeats 2000000 in
theorem refOfAllK (ao : Option Addr) (n cap : Nat) (rs : List (List Int)) (w : World) (h : RowsOf IRowAt w ao n cap rs) (hr : ∀ i, (rs.getD i []).length ≤ 1000000) (hn : n ≤ 100000) :
  Calls Tryz.prog 26 #[.slice ao n cap] w fun e w' => ∃ a1 c1, e = .returned (.slice a1 n c1) ∧ MF w' a1 n c1 rs 2 ∧ Below w.heap.size w w' := by
 have HL := zh h.len_eq;have HQ := zh hr;clear hr;go_enter Tryz.func26, Tryz.ntmps26
 go_wp2_with fail
 go_loopw [3, 4] (fun s t wr => ∃ (i : Nat) (ao' : Option Addr) (cap' : Nat), i ≤ n ∧ t = .int .i64 (i : Int) ∧ s = .slice ao' i cap' ∧ MO wr w.heap.size ao' i cap' (rs.take i) 2 ∧ Below w.heap.size w wr) (fun _ t _ => n - (intOf t).toNat)
 case atStart => exact ⟨0, _, _, Nat.zero_le _, rfl, rfl, mo_nil _ _ _, Below.refl _ _⟩
 case round =>
  obtain ⟨i, ao', cap', hi, rfl, rfl, hown, hB⟩ := hrel;have HB := zh hB;clear hB;by_cases hlt : i < n
  ·obtain ⟨g, off, rfl⟩ := h.addr (by omega);obtain ⟨hg, a5, l5, c5, hc5, hv5⟩ := RowsOf.at (R := IRowAt) h hlt;have hn5 : l5 ≤ 1000000 := by rw [← hv5.len_eq]; exact zu HQ i
   replace hv5 := hv5.za (zu HB);have f2 := ((zu HB).cell (p := ⟨g, off + i, none⟩) hg).trans hc5;have hgr := Nat.lt_of_lt_of_le hg (zu HB).size;have hi0 : (0 : Int) ≤ (i : Int) := by omega
   have hi1 : (i : Int) < (n : Int) := by omega
   clear hc5 hg
   go_wp2_with fail
   refine (rvofK _ _ _ (rs.getD i []) _ hv5 hn5).mono ?_;rintro e w5 ⟨a7, c7, rfl, h7, hb9⟩;replace hown := hown.za hb9;replace HB := zh (Below.step (zu HB) hb9);clear hb9 f2 hgr;obtain ⟨L, eL⟩ : ∃ L, L = rs.take i := ⟨_, rfl⟩;obtain ⟨x, ex⟩ : ∃ x, x = rs.getD i [] := ⟨_, rfl⟩;rw [← eL] at hown;rw [← ex] at h7;have EL := zh eL;have EX := zh ex;clear eL ex;obtain ⟨W6, hW6⟩ : ∃ W6, W6 = w5.alloc (.cells #[.slice a7 l5 c7] 39) := ⟨_, rfl⟩;have hb9 : Below w5.heap.size w5 W6 := by rw [hW6]; exact below_new _ _
   have hone := mf_one h7;replace hown := hown.za hb9;replace HB := zh (Below.step (zu HB) hb9);clear hb9;have hsz := (zu HB).size;rw [hW6] at hown hsz
   go_wp2_with (at_builtin; refine append_rows (R := fun w a l c zs => VF w a l c zs 2) (steadyMO 2) rfl (.tmp 11) (.tmp 17) 22 Tryz.underlying22 rfl w.heap.size ao' i cap' L rfl hown _ 1 1 [x] rfl hone (by omega) hsz ?_)
   intro an cn w7 hown2 hgr7;rw [← hW6] at hgr7 hown hsz;clear hW6 hone;have HD := (zu HB).grown hgr7 hsz (MO.ge hown);clear hgr7;go_wp2;go_roundw
   case rel => exact ⟨i + 1, _, _, by omega, by go_num, rfl, by rw [take_snoc [] (by rw [zu HL]; exact hlt), ← zu EL, ← zu EX]; exact hown2, HD⟩
   case measure => simp [intOf]; omega
  ·have hin : i = n := by omega
   subst hin;rw [List.take_of_length_le (by rw [zu HL]; exact Nat.le_refl _)] at hown;have hin' : ¬ (i : Int) < (i : Int) := by omega
   go_wp2;go_ret;exact ⟨_, _, rfl, hown.mf, zu HB⟩

end Go.Proofs.YtnpneloahajniaaGreat
