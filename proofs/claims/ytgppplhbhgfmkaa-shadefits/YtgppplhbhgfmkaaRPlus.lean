/-
  What the reference's Plus tells. (IN PARTS)
-/
import Derived.Test.YtgppplhbhgfmkaaJF
import Derived.Test.YtgppplhbhgfmkaaSNum
import Derived.Test.YtgppplhbhgfmkaaSBel
import Derived.Deep.CutRange
namespace Go.Proofs.Ytgppplhbhgfmkaa
open Go.RowKit Lb

theorem OwnV.grown {w w' : World} {base : Nat} {ao : Option Addr} {n cap k : Nat} {zs : List Int} {row : Option Nat} (h : OwnV w base ao n cap zs k) (hg : w.grownBy w' row) (hn : ∀ g, row = some g → NoLimb w g) (ha : ∀ g off, ao = some ⟨g, off, none⟩ → row ≠ some g) : OwnV w' base ao n cap zs k := by
  obtain ⟨h1, ⟨cs, h2⟩, h3⟩ := h
  have hlt : ∀ g off, ao = some ⟨g, off, none⟩ → g < w.heap.size := fun g off e => by subst e; exact (h2.lt g rfl).2
  refine ⟨VF.grown h1 hg hn ha, ⟨cs, h2.kept hg ?_⟩, fun g off e j x => ?_⟩
  · rcases h2.2 with ⟨e, _⟩ | ⟨g, cap', cur, hv, _⟩
    · rw [e]; exact Or.inl rfl
    · right
      simp only [Value.slice.injEq] at hv
      rw [hv.1]
      exact fun e => ha g 0 hv.1 e.symm
  · rw [World.cell?_of_block (a := ⟨g, j, none⟩) (hg.block g (hlt g off e) (fun c => ha g off e c.symm))]
    exact h3 g off e j x
set_option maxHeartbeats 2400000 in
theorem rplusK (ao : Option Addr) (n cap : Nat) (zs : List Int) (k : Nat) (w : World) (h : VK w ao n cap zs k) (hn : n ≤ 1000000) (hk : k ≤ 900000) :
    Calls Try.prog 21 #[.slice ao n cap] w fun e w' => ∃ a1 c1, e = .returned (.slice a1 n c1) ∧ VF w' a1 n c1 (vplus zs) k ∧ Below w.heap.size w w' := by
  have HL := hide h.len_eq
  go_enter Try.func21, Try.ntmps21
  go_wp2_with fail
  go_loopw [3, 4] (fun u t wr => ∃ (i : Nat) (ao' : Option Addr) (cap' : Nat) (rs : List Int), i ≤ n ∧ t = .int .i64 (i : Int) ∧ u = .slice ao' i cap' ∧ OwnV wr w.heap.size ao' i cap' rs k ∧ (∀ j, j < i → rs.getD j 0 = pos (zs.getD j 0)) ∧ Below w.heap.size w wr) (fun _ t _ => n - (intOf t).toNat)
  case atStart => exact ⟨0, none, 0, [], Nat.zero_le _, rfl, rfl, ownV_nil _ _ _, fun j hj => absurd hj (by omega), Below.refl _ _⟩
  case round =>
    obtain ⟨i, ao', cap', rs, hi, rfl, rfl, hown, hall, hB⟩ := hrel
    have HA := hide hall
    clear hall
    have HB := hide hB
    clear hB
    by_cases hlt : i < n
    · obtain ⟨g2, off2, rfl⟩ := h.some (by omega)
      obtain ⟨b2, a2, l2, c2, E2, hy2⟩ := (h.later (unhide HB)).at (show i < n by omega)
      obtain ⟨f1, f2⟩ := E2.facts
      have hg2 := E2.1
      have hi1 : (i : Int) < (n : Int) := by omega
      obtain ⟨z, ez⟩ : ∃ z, z = zs.getD i 0 := ⟨_, rfl⟩
      rw [← ez] at hy2
      have EZ := hide ez
      clear ez
      obtain ⟨s, es⟩ : ∃ s, s = z.sign := ⟨_, rfl⟩
      have ES := hide es
      go_wp2_with fail
      refine (rformK b2 a2 l2 c2 z k _ hy2).mono ?_
      rintro e w3 ⟨b3, a3, l3, c3, rfl, h3, hb1⟩
      replace hown := hown.later hb1
      replace HB := hide (Below.step (unhide HB) hb1)
      clear hb1
      clear hy2 f1 f2 hg2 E2
      go_wp2_with fail
      obtain ⟨W4, hW4⟩ : ∃ W4, W4 = w3.alloc (.cells #[.bool b3, .slice a3 l3 c3] 31) := ⟨_, rfl⟩
      obtain ⟨D0, hb1⟩ := boxes1 w3 b3 a3 l3 c3 hW4
      have hgD : w.heap.size ≤ w3.heap.size := (unhide HB).size
      have hlt3 : ∀ g off, ao' = some ⟨g, off, none⟩ → g < w3.heap.size := fun g off e => by subst e; exact hown.base_le.2
      rw [← hW4]
      clear hW4
      replace hown := hown.later hb1
      replace h3 := h3.later hb1
      replace HB := hide (Below.step (unhide HB) hb1)
      clear hb1
      refine (rsignK b3 a3 l3 c3 z k s _ (h3.ik (by omega)) (unhide ES)).mono ?_
      rintro e w5 ⟨rfl, hb1⟩
      replace hown := hown.later hb1
      replace h3 := h3.later hb1
      replace D0 := D0.later hb1
      replace HB := hide (Below.step (unhide HB) hb1)
      clear hb1
      by_cases h0 : z < 0
      · have hs : s < 0 := by rw [es, Int.sign_eq_neg_one_of_neg h0]; omega
        clear es h3
        obtain ⟨q1, q2, q3, q4⟩ := D0.facts
        have hsD := D0.lt
        go_upto_region 8 with fail
        obtain ⟨w6, hw6⟩ : ∃ w6, w6 = put w5 w3.heap.size false none 0 0 := ⟨_, rfl⟩
        have hgr6 : w5.grownBy w6 (some w3.heap.size) := by rw [hw6]; exact grown_set2 _ _ _ _ _ _
        have D6 : Box w6 w3.heap.size false none 0 0 := by rw [hw6]; exact D0.put _ _ _ _
        have hB6 : Below w.heap.size w w6 := by rw [hw6]; exact below_put (unhide HB) hgD _ _ _ _
        unfold put at hw6
        rw [← hw6]
        replace hown := hown.grown hgr6 (noLimb_some D0.noLimb) (fun g off e e2 => by have := hlt3 g off e; simp only [Option.some.injEq] at e2; omega)
        replace HB := hide hB6
        clear hB6 hw6 hgr6 D0 q1 q2 q3 q4
        obtain ⟨q1, q2, _, _⟩ := D6.facts
        have hsD := D6.lt
        have h5 := fk_zero w6 k
        obtain ⟨W6, hW6⟩ : ∃ W6, W6 = w6.alloc (.cells #[.bool false, .slice none 0 0] 31) := ⟨_, rfl⟩
        obtain ⟨D5, hb9⟩ := boxes1 w6 false none 0 0 hW6
        replace h5 := h5.later hb9
        replace hown := hown.later hb9
        replace HB := hide (Below.step (unhide HB) hb9)
        clear hb9
        have hE5 : EltAt W6 w6.heap.size 0 false none 0 0 := ⟨D5.lt, D5.facts.1, D5.facts.2.1⟩
        have hsz := (unhide HB).size
        clear D5
        rw [hW6] at h5 hown hE5 hsz
        go_wp2_with (at_builtin; refine append_vec rfl (.tmp 21) (.tmp 23) 23 Try.underlying23 rfl w.heap.size ao' i cap' k rs rfl hown (by omega) hsz w6.heap.size 0 1 false none 0 0 (0) rfl hE5 h5 ?_)
        intro gn cn w7 hown2 hgr hat
        rw [← hW6] at hgr hown hsz
        clear hW6
        have HD := (unhide HB).grown hgr hsz (own_ge hown)
        clear hgr hat
        go_wp2
        go_roundw
        case rel =>
          refine ⟨i + 1, _, _, _, by omega, by go_num, rfl, hown2, ?_, HD⟩
          have hsn := snoc_each (f := fun j => pos (zs.getD j 0)) hown.len (unhide HA)
          rw [show pos (zs.getD i 0) = (0 : Int) by rw [← unhide EZ]; unfold pos; rw [if_pos h0]] at hsn
          exact hsn
        case measure => simp [intOf]; omega
      · have hs : ¬ s < 0 := by
          rcases Int.lt_trichotomy z 0 with c | c | c
          · exact absurd c h0
          · rw [es, c]; decide
          · rw [es, Int.sign_eq_one_of_pos c]; omega
        clear es
        have h5 := h3
        clear h3
        obtain ⟨q1, q2, _, _⟩ := D0.facts
        have hsD := D0.lt
        obtain ⟨W6, hW6⟩ : ∃ W6, W6 = w5.alloc (.cells #[.bool b3, .slice a3 l3 c3] 31) := ⟨_, rfl⟩
        obtain ⟨D5, hb9⟩ := boxes1 w5 b3 a3 l3 c3 hW6
        replace h5 := h5.later hb9
        replace hown := hown.later hb9
        replace HB := hide (Below.step (unhide HB) hb9)
        clear hb9
        have hE5 : EltAt W6 w5.heap.size 0 b3 a3 l3 c3 := ⟨D5.lt, D5.facts.1, D5.facts.2.1⟩
        have hsz := (unhide HB).size
        clear D5
        rw [hW6] at h5 hown hE5 hsz
        go_wp2_with (at_builtin; refine append_vec rfl (.tmp 21) (.tmp 23) 23 Try.underlying23 rfl w.heap.size ao' i cap' k rs rfl hown (by omega) hsz w5.heap.size 0 1 b3 a3 l3 c3 (z) rfl hE5 h5 ?_)
        intro gn cn w7 hown2 hgr hat
        rw [← hW6] at hgr hown hsz
        clear hW6
        have HD := (unhide HB).grown hgr hsz (own_ge hown)
        clear hgr hat
        go_wp2
        go_roundw
        case rel =>
          refine ⟨i + 1, _, _, _, by omega, by go_num, rfl, hown2, ?_, HD⟩
          have hsn := snoc_each (f := fun j => pos (zs.getD j 0)) hown.len (unhide HA)
          rw [show pos (zs.getD i 0) = (z : Int) by rw [← unhide EZ]; unfold pos; rw [if_neg (by omega)]] at hsn
          exact hsn
        case measure => simp [intOf]; omega
    · have hi1 : ¬ (i : Int) < (n : Int) := by omega
      have hin : i = n := by omega
      subst hin
      have hps := map_of_each (f := pos) (unhide HL) hown.len (unhide HA)
      subst hps
      go_wp2
      go_ret
      exact ⟨_, _, rfl, hown.vf, unhide HB⟩

#print axioms rplusK
end Go.Proofs.Ytgppplhbhgfmkaa
