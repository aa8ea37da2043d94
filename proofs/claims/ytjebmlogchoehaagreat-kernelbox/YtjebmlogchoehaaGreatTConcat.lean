/-
  What slices.Concat of rows tells.
-/
import Derived.Test.YtjebmlogchoehaaGreatTGrow
namespace Go.Proofs.YtjebmlogchoehaaGreat
open Go.RowKit Lb
set_option maxRecDepth 20000

theorem flat_snoc {rs : List (List Int)} {i : Nat} (hi : i < rs.length) : (rs.take (i + 1)).flatten = (rs.take i).flatten ++ rs.getD i [] := by
  rw [take_all_snoc hi, List.flatten_append]
  simp
theorem flat_le {rs : List (List Int)} (i : Nat) : (rs.take i).flatten.length ≤ rs.flatten.length := by
  have h : rs.flatten = (rs.take i).flatten ++ (rs.drop i).flatten := by rw [← List.flatten_append, List.take_append_drop]
  rw [h, List.length_append]; omega
set_option maxHeartbeats 2000000 in
theorem concatK (ao : Option Addr) (n cap : Nat) (rs : List (List Int)) (k : Nat) (w : World) (h : MK w ao n cap rs k) (hk : k ≤ 999990) (hn : n ≤ 1000) (hp : 0 < rs.flatten.length) (hl : rs.flatten.length ≤ 1000) :
    Calls Tryz.prog 97 #[.slice ao n cap] w fun e w' => ∃ a1 c1, e = .returned (.slice a1 rs.flatten.length c1) ∧ VK w' a1 rs.flatten.length c1 rs.flatten k ∧ Below w.heap.size w w' := by
  have HL := hide h.len_eq
  obtain ⟨T, eT⟩ : ∃ T, T = rs.flatten.length := ⟨_, rfl⟩
  rw [← eT] at hp hl ⊢
  have HT := hide eT
  clear eT
  go_enter Tryz.func97, Tryz.ntmps97
  go_wp2_with fail
  go_loopw [3, 11] (fun s t wr => ∃ (i S : Nat), i ≤ n ∧ t = .int .i64 (i : Int) ∧ s = .int .i64 (S : Int) ∧ S = (rs.take i).flatten.length ∧ Below w.heap.size w wr) (fun _ t _ => n - (intOf t).toNat)
  case atStart => exact ⟨0, 0, Nat.zero_le _, rfl, rfl, by simp, Below.refl _ _⟩
  case round =>
    obtain ⟨i, S, hi, rfl, rfl, hS, hB⟩ := hrel
    have HB := hide hB
    have HS := hide hS
    clear hB hS
    by_cases hlt : i < n
    · obtain ⟨g, off, rfl⟩ := h.addr (by omega)
      obtain ⟨hg, a5, l5, c5, hc5, hv5⟩ := RowsOf.at (R := fun w a l c zs => VK w a l c zs k) h hlt
      have f2 := ((unhide HB).cell (p := ⟨g, off + i, none⟩) hg).trans hc5
      have hgr := Nat.lt_of_lt_of_le hg (unhide HB).size
      have hi0 : (0 : Int) ≤ (i : Int) := by omega
      have hi1 : (i : Int) < (n : Int) := by omega
      have hS2 : S + l5 = (rs.take (i + 1)).flatten.length := by
        rw [flat_snoc (by rw [unhide HL]; exact hlt), List.length_append, ← unhide HS, hv5.len_eq]
      have hS3 : S + l5 ≤ T := by rw [hS2, unhide HT]; exact flat_le _
      have hwr : IntKind.i64.wrap ((S : Int) + (l5 : Int)) = ((S + l5 : Nat) : Int) := by rw [show (S : Int) + (l5 : Int) = ((S + l5 : Nat) : Int) by omega]; exact wrap_natS _ (by omega)
      have HS2 := hide hS2
      obtain ⟨Q, eQ⟩ : ∃ Q, Q = S + l5 := ⟨_, rfl⟩
      rw [← eQ] at hwr hS3 HS2
      have hQ0 : ¬ (Q : Int) < 0 := by omega
      clear hS2 hc5 hg eQ hv5
      go_wp2
      go_roundw
      case rel => exact ⟨i + 1, Q, by omega, by go_num, rfl, unhide HS2, unhide HB⟩
      case measure => simp [intOf]; omega
    · have hin : i = n := by omega
      subst hin
      have hi1 : ¬ (i : Int) < (i : Int) := by omega
      have hST : S = T := by
        have := unhide HS
        rw [List.take_of_length_le (by rw [unhide HL]; exact Nat.le_refl _), ← unhide HT] at this
        exact this
      subst hST
      clear HS
      obtain ⟨w5, hw5⟩ : ∃ x, x = wr := ⟨_, rfl⟩
      subst hw5
      go_wp2_with fail
      refine (growK S k _ hp hl hk).mono ?_
      rintro e w6 ⟨g6, c6, rfl, hown, hb9⟩
      have HB5 := HB
      have hsz6 : w5.heap.size ≤ w6.heap.size := hb9.size
      have HD := hide hb9
      clear hb9
      go_wp2_with fail
      go_loopw [6, 27] (fun s t wr => ∃ (j S2 : Nat) (ao' : Option Addr) (cap' : Nat), j ≤ i ∧ t = .int .i64 (j : Int) ∧ s = .slice ao' S2 cap' ∧ S2 = (rs.take j).flatten.length ∧ OwnOf (fun w b a l c z => IK w b a l c z k) wr w5.heap.size ao' S2 cap' ((rs.take j).flatten) ∧ Below w5.heap.size w5 wr) (fun _ t _ => i - (intOf t).toNat)
      case atStart => exact ⟨0, 0, _, _, Nat.zero_le _, rfl, rfl, by simp, hown, unhide HD⟩
      case round =>
        clear hown
        obtain ⟨j, S2, ao', cap', hj, rfl, rfl, hS, hown, hB⟩ := hrel
        have HE := hide hB
        have HS := hide hS
        clear hB hS
        by_cases hlt2 : j < i
        · obtain ⟨g, off, rfl⟩ := h.addr (by omega)
          obtain ⟨hg, a5, l5, c5, hc5, hv5⟩ := RowsOf.at (R := fun w a l c zs => VK w a l c zs k) h hlt2
          have hbw := hide (Below.step (unhide HB5) (unhide HE))
          have f2 := ((unhide hbw).cell (p := ⟨g, off + j, none⟩) hg).trans hc5
          have hgr := Nat.lt_of_lt_of_le hg (unhide hbw).size
          have hj0 : (0 : Int) ≤ (j : Int) := by omega
          have hj1 : (j : Int) < (i : Int) := by omega
          have hS2 : S2 + l5 = (rs.take (j + 1)).flatten.length := by
            rw [flat_snoc (by rw [unhide HL]; exact hlt2), List.length_append, ← unhide HS, hv5.len_eq]
          have hS3 : S2 + l5 ≤ S := by rw [hS2, unhide HT]; exact flat_le _
          have HFS := hide (flat_snoc (rs := rs) (i := j) (by rw [unhide HL]; exact hlt2))
          have HS2 := hide hS2
          obtain ⟨LL, eL⟩ : ∃ LL, LL = (rs.take j).flatten := ⟨_, rfl⟩
          obtain ⟨z, ez⟩ : ∃ z, z = rs.getD j [] := ⟨_, rfl⟩
          have hv6 := hv5.later (unhide hbw)
          rw [← ez] at hv6
          rw [← eL] at hown
          rw [← eL, ← ez] at HFS
          have hszr := (unhide HE).size
          clear hS2 hc5 hg eL ez hv5
          go_wp2_with (at_builtin; (refine append_vecs (R := fun w b a l c z => IK w b a l c z k) (steady_ik k) rfl (.tmp 31) (.tmp 32) 24 Tryz.underlying24 rfl w5.heap.size ao' S2 cap' LL rfl hown a5 l5 c5 z rfl hv6 (by omega) hszr ?_))
          intro an cn w8 hown2 hgr7
          have hHF := (unhide HE).grown hgr7 hszr hown.ge
          clear hgr7 hown hv6 f2 hgr
          go_wp2
          go_roundw
          case rel => exact ⟨j + 1, S2 + l5, _, _, by omega, by go_num, rfl, unhide HS2, by rw [unhide HFS]; exact hown2, hHF⟩
          case measure => simp [intOf]; omega
        · have hjn : j = i := by omega
          subst hjn
          have hj1 : ¬ (j : Int) < (j : Int) := by omega
          rw [List.take_of_length_le (by rw [unhide HL]; exact Nat.le_refl _)] at hown HS
          have hSS : S2 = S := by rw [unhide HS, unhide HT]
          subst hSS
          go_wp2
          go_ret
          exact ⟨_, _, rfl, hown.vec, Below.step (unhide HB5) (unhide HE)⟩

#print axioms concatK
end Go.Proofs.YtjebmlogchoehaaGreat
