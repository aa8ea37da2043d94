/-
  What Plus and Minus of package shade tell. (IN PARTS)
-/
import Derived.Test.YtgppplhbhgfmkaaJF
import Derived.Test.YtgppplhbhgfmkaaSNum
import Derived.Test.YtgppplhbhgfmkaaSBel
import Derived.Deep.CutRange
namespace Go.Proofs.Ytgppplhbhgfmkaa
open Go.RowKit Lb

theorem rep_at (n j : Nat) : (List.replicate n (0 : Int)).getD j 0 = 0 := by
  by_cases h : j < n
  · simp [List.getD, h]
  · simp [List.getD, h]

set_option maxHeartbeats 1600000 in
theorem splusK (ao : Option Addr) (n cap : Nat) (zs : List Int) (k : Nat) (w : World) (h : VK w ao n cap zs k) (hn : n ≤ 1000000) :
    Calls Try.prog 20 #[.slice ao n cap] w fun e w' => ∃ a1 c1, e = .returned (.slice a1 n c1) ∧ VF w' a1 n c1 (vplus zs) k ∧ Below w.heap.size w w' := by
  have HL := hide h.len_eq
  go_enter Try.func20, Try.ntmps20
  have HB := hide (Below.refl w.heap.size w)
  go_wp2_with (at_make; refine make_vec rfl _ _ 23 Try.underlying23 rfl w.heap.size .i64 .i64 _ _ n k rfl rfl (by omega) (by omega) (by omega) (by omega) ?_)
  intro w2 hown hgrow
  have hbg : Below w.heap.size w w2 := (Below.refl _ _).grown hgrow (Nat.le_refl _) (fun _ h => by simp at h)
  replace HB := hide (Below.step (unhide HB) hbg)
  clear hgrow hbg
  obtain ⟨gv, egv⟩ : ∃ gv, gv = w.heap.size := ⟨_, rfl⟩
  rw [show (some ⟨w.heap.size, 0, none⟩ : Option Addr) = some ⟨gv, 0, none⟩ by rw [egv]] at hown ⊢
  clear egv
  go_wp2_with fail
  go_loopw [11] (fun t wr => ∃ (i : Nat) (ps : List Int), i ≤ n ∧ t = .int .i64 (i : Int) ∧ OwnV wr w.heap.size (some ⟨gv, 0, none⟩) n n ps k ∧ ((∀ j, j < i → ps.getD j 0 = pos (zs.getD j 0)) ∧ ∀ j, i ≤ j → ps.getD j 0 = 0) ∧ Below w.heap.size w wr) (fun t _ => n - (intOf t).toNat)
  case atStart => exact ⟨0, _, Nat.zero_le _, rfl, hown, ⟨fun j hj => absurd hj (by omega), fun j _ => rep_at n j⟩, unhide HB⟩
  case round =>
    clear hown HB
    obtain ⟨i, ps, hi, rfl, hv, hall, hB⟩ := hrel
    have HA := hide hall
    clear hall
    have HB := hide hB
    clear hB
    by_cases hlt : i < n
    · obtain ⟨g2, off2, rfl⟩ := h.some (by omega)
      obtain ⟨b2, a2, l2, c2, E2, hy2⟩ := (h.later (unhide HB)).at (show i < n by omega)
      have he := E2
      obtain ⟨f1, f2⟩ := E2.facts
      have hg2 := E2.1
      clear E2
      obtain ⟨z, ez⟩ : ∃ z, z = zs.getD i 0 := ⟨_, rfl⟩
      rw [← ez] at hy2
      have EZ := hide ez
      clear ez
      obtain ⟨s, es⟩ : ∃ s, s = z.sign := ⟨_, rfl⟩
      have ES := hide es
      go_wp2_with fail
      obtain ⟨W2, hW2⟩ : ∃ W2, W2 = wr.alloc (.cells #[.bool b2, .slice a2 l2 c2] 31) := ⟨_, rfl⟩
      obtain ⟨D0, hb1⟩ := boxes1 wr b2 a2 l2 c2 hW2
      rw [← hW2]
      clear hW2 f1 f2 he
      replace hv := hv.later hb1
      replace hy2 := hy2.later hb1
      replace HB := hide (Below.step (unhide HB) hb1)
      clear hb1
      refine (signK b2 a2 l2 c2 z k s _ hy2 (unhide ES)).mono ?_
      rintro e w5 ⟨rfl, hb1⟩
      replace hv := hv.later hb1
      replace hy2 := hy2.later hb1
      replace D0 := D0.later hb1
      replace HB := hide (Below.step (unhide HB) hb1)
      clear hb1
      by_cases h0 : 0 < z
      · have hs : s > 0 := by rw [es, Int.sign_eq_one_of_pos h0]; omega
        clear es
        obtain ⟨f1, f2, _, _⟩ := D0.facts
        have hsD := D0.lt
        go_wp2_with fail
        refine (formK b2 a2 l2 c2 z k _ hy2).mono ?_
        rintro e w6 ⟨b5, a5, l5, c5, rfl, h5, hb1⟩
        replace hv := hv.later hb1
        replace HB := hide (Below.step (unhide HB) hb1)
        clear hb1 hy2 f1 f2 D0 hsD
        obtain ⟨b6, a6, l6, c6, he6, _⟩ := hv.vf.at (show i < n by omega)
        rw [Nat.zero_add] at he6
        obtain ⟨q1, q2⟩ := he6.facts
        have q3 := hv.free (i * 2)
        have q4 := hv.free (i * 2 + 1)
        have hbl := hv.base_le
        go_wp2
        go_roundw
        case rel =>
          have hz : pos (zs.getD i 0) = z := by rw [← unhide EZ]; unfold pos; rw [if_neg (by omega)]
          rw [← hz] at h5
          refine ⟨i + 1, ps.set i (pos (zs.getD i 0)), by omega, by go_num, hv.set (by omega) h5, ⟨put_each (f := fun j => pos (zs.getD j 0)) (by rw [hv.len]; omega) (unhide HA).1, fun j hj => ?_⟩, ?_⟩
          · rw [show (ps.set i (pos (zs.getD i 0))).getD j 0 = ps.getD j 0 by simp [List.getD, List.getElem?_set_ne (show i ≠ j by omega)]]
            exact (unhide HA).2 j (by omega)
          · exact ((unhide HB).setCell (by simpa using hbl.1) _).setCell (by simpa using hbl.1) _
        case measure => simp [intOf]; omega
      · have hs : ¬ s > 0 := by
          rcases Int.lt_trichotomy z 0 with c | c | c
          · rw [es, Int.sign_eq_neg_one_of_neg c]; omega
          · rw [es, c]; decide
          · exact absurd c h0
        clear es D0 hy2
        go_wp2
        go_roundw
        case rel =>
          refine ⟨i + 1, ps, by omega, by go_num, hv, ⟨fun j hj => ?_, fun j hj => (unhide HA).2 j (by omega)⟩, unhide HB⟩
          by_cases e : j = i
          · subst e
            rw [(unhide HA).2 j (by omega), ← unhide EZ]
            unfold pos
            split <;> omega
          · exact (unhide HA).1 j (by omega)
        case measure => simp [intOf]; omega
    · have hin : i = n := by omega
      subst hin
      have hps := map_of_each (f := pos) (unhide HL) hv.len (unhide HA).1
      subst hps
      go_wp2
      go_ret
      exact ⟨_, _, rfl, hv.vf, unhide HB⟩

set_option maxHeartbeats 1600000 in
theorem sminusK (ao : Option Addr) (n cap : Nat) (zs : List Int) (k : Nat) (w : World) (h : VK w ao n cap zs k) (hn : n ≤ 1000000) (hk : k ≤ 900000) :
    Calls Try.prog 22 #[.slice ao n cap] w fun e w' => ∃ a1 c1, e = .returned (.slice a1 n c1) ∧ VF w' a1 n c1 (vminus zs) k ∧ Below w.heap.size w w' := by
  go_enter Try.func22, Try.ntmps22
  go_wp2_with fail
  refine (vnegK ao n cap zs k _ h hn).mono ?_
  rintro e w1 ⟨a1, c1, rfl, h1, hb1⟩
  go_wp2_with fail
  refine (splusK a1 n c1 (vneg zs) k _ (h1.vk (by omega)) hn).mono ?_
  rintro e w2 ⟨a2, c2, rfl, h2, hb2⟩
  go_wp2
  go_ret
  exact ⟨_, _, rfl, h2, Below.step hb1 hb2⟩

#print axioms splusK
#print axioms sminusK
end Go.Proofs.Ytgppplhbhgfmkaa
