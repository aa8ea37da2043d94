/-
  What Unit of the reference tells: the unit rows.
-/
import Derived.Test.YtjebmlogchoehaaGreatTWide
import Derived.Test.YtjebmlogchoehaaGreatLHBase
import Derived.Test.YtjebmlogchoehaaGreatRVFresh
import Derived.Test.YtjebmlogchoehaaGreatRQuo
import Derived.Deep.CutRange
import Derived.Test.YtjebmlogchoehaaGreatJE
namespace Go.Proofs.YtjebmlogchoehaaGreat
open Go.RowKit Lb
set_option maxRecDepth 20000

theorem unit_row {k i : Nat} (hi : i < k) : (List.replicate k (0 : Int)).set i 1 = (unitL k).getD i [] := by
  have e : (unitL k).getD i [] = (List.range k).map fun j => if j = i then (1 : Int) else 0 := by simp [unitL, List.getD, hi]
  rw [e]
  refine List.ext_getElem (by simp) fun j h1 h2 => ?_
  simp only [List.getElem_map, List.getElem_range]
  by_cases c : j = i
  · subst c; simp
  · rw [List.getElem_set_ne (Ne.symm c), List.getElem_replicate, if_neg c]
set_option maxRecDepth 40000 in
set_option maxHeartbeats 2000000 in
theorem refUnitK (k : Nat) (w : World) (hk : k ≤ 1000) :
    Calls Tryz.prog 34 #[.int .i64 (k : Int)] w fun e w' => ∃ a1 c1, e = .returned (.slice a1 k c1) ∧ MF w' a1 k c1 (unitL k) 6 ∧ Below w.heap.size w w' := by
  go_enter Tryz.func34, Tryz.ntmps34
  go_wp2_with fail
  go_loopw [3, 4] (fun s t wr => ∃ (i : Nat) (ao' : Option Addr) (cap' : Nat), i ≤ k ∧ t = .int .i64 (i : Int) ∧ s = .slice ao' i cap' ∧ MO wr w.heap.size ao' i cap' ((unitL k).take i) 6 ∧ Below w.heap.size w wr) (fun _ t _ => k - (intOf t).toNat)
  case atStart => exact ⟨0, none, 0, Nat.zero_le _, rfl, rfl, mOwn_nil _ _ _, Below.refl _ _⟩
  case round =>
    obtain ⟨i, ao', cap', hi, rfl, rfl, hout, hB⟩ := hrel
    have HB := hide hB
    clear hB
    by_cases hlt : i < k
    · have hi0 : (0 : Int) ≤ (i : Int) := by omega
      have hi1 : (i : Int) < (k : Int) := by omega
      go_wp2_with (at_make; refine make_vec rfl _ _ 24 Tryz.underlying24 rfl wr.heap.size .i64 .i64 _ _ k 2 rfl rfl (by omega) (by omega) (by omega) (by omega) ?_)
      intro w2 hv hgrow
      have hbg : Below wr.heap.size wr w2 := (Below.refl _ _).grown hgrow (Nat.le_refl _) (fun _ h => by simp at h)
      have HC := hide hbg
      clear hgrow hbg
      obtain ⟨gv, egv⟩ : ∃ gv, gv = wr.heap.size := ⟨_, rfl⟩
      rw [show (some ⟨wr.heap.size, 0, none⟩ : Option Addr) = some ⟨gv, 0, none⟩ by rw [egv]] at hv ⊢
      clear egv
      go_wp2_with fail
      refine (rofK 1 _ (by omega) (by omega)).mono ?_
      rintro e w3 ⟨b5, a5, l5, c5, rfl, h5, hb1⟩
      replace hv := hv.later hb1
      replace HC := hide (Below.step (unhide HC) hb1)
      clear hb1
      obtain ⟨b6, a6, l6, c6, he6, _⟩ := hv.vf.at hlt
      rw [Nat.zero_add] at he6
      obtain ⟨q1, q2⟩ := he6.facts
      have q3 := hv.free (i * 2)
      have q4 := hv.free (i * 2 + 1)
      have hbl := hv.base_le
      have hv2 := hv.set hlt h5
      have hz := ((unhide HC).setCell (p := ⟨gv, i * 2, none⟩) (by simpa using hbl.1) (.bool b5)).setCell (p := ⟨gv, i * 2 + 1, none⟩) (by simpa using hbl.1) (.slice a5 l5 c5)
      have hout2 := hout.later hz
      have HC2 := hide (Below.step (unhide HB) hz)
      rw [unit_row hlt] at hv2
      clear hz HC hout HB
      go_wp2_with fail
      refine (rvnegK _ k k ((unitL k).getD i []) 2 _ (hv2.vf.vs (by omega)) (by omega) (by omega)).mono ?_
      rintro e w6 ⟨a7, c7, rfl, h7, hb9⟩
      replace hout2 := hout2.later hb9
      replace HC2 := hide (Below.step (unhide HC2) hb9)
      clear hb9 hv2 hv h5 q1 q2 q3 q4 he6 hbl
      go_wp2_with fail
      refine (rvnegK a7 k c7 (vneg ((unitL k).getD i [])) (2 + 2) _ (h7.vs (by omega)) (by omega) (by omega)).mono ?_
      rintro e w7 ⟨a8, c8, rfl, h8, hb9⟩
      replace hout2 := hout2.later hb9
      replace HC2 := hide (Below.step (unhide HC2) hb9)
      rw [vneg_neg] at h8
      obtain ⟨z, ez⟩ : ∃ z, z = (unitL k).getD i [] := ⟨_, rfl⟩
      obtain ⟨LL, eL⟩ : ∃ LL, LL = (unitL k).take i := ⟨_, rfl⟩
      rw [← ez] at h8
      rw [← eL] at hout2
      have EZ := hide ez
      have EL := hide eL
      clear hb9 h7 ez eL
      obtain ⟨W6, hW6⟩ : ∃ W6, W6 = w7.alloc (.cells #[.slice a8 k c8] 24) := ⟨_, rfl⟩
      have hb9 : Below w7.heap.size w7 W6 := by rw [hW6]; exact below_new _ _
      have hone := mf_one h8
      replace hout2 := hout2.later hb9
      have HD := hide (Below.step (unhide HC2) hb9)
      clear hb9 h8
      have hsz := (unhide HD).size
      rw [hW6] at hout2 hsz
      go_wp2_with (at_builtin; refine append_rows (R := fun w a l c zs => VF w a l c zs 6) (steadyMO 6) rfl (.tmp 17) (.tmp 21) 22 Tryz.underlying22 rfl w.heap.size ao' i cap' LL rfl hout2 _ 1 1 [z] rfl hone (by omega) hsz ?_)
      intro an cn w8 hout3 hgr7
      rw [← hW6] at hgr7 hout2 hsz
      clear hW6 hone
      have HE := (unhide HD).grown hgr7 hsz (MO.ge hout2)
      clear hgr7
      go_wp2
      go_roundw
      case rel => exact ⟨i + 1, _, _, by omega, by go_num, rfl, by rw [take_snoc [] (by rw [unitL_len]; exact hlt), ← unhide EL, ← unhide EZ]; exact hout3, HE⟩
      case measure => simp [intOf]; omega
    · have hin : i = k := by omega
      subst hin
      have hi1 : ¬ (i : Int) < (i : Int) := by omega
      rw [List.take_of_length_le (by rw [unitL_len]; exact Nat.le_refl _)] at hout
      go_wp2
      go_ret
      exact ⟨_, _, rfl, hout.mf, unhide HB⟩

#print axioms refUnitK
end Go.Proofs.YtjebmlogchoehaaGreat
