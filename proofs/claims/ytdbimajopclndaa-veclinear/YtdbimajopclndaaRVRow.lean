/-
  What the reference's Same, Of, Add, Times, Neg, Sub and Cut of vectors tell.
-/
import Derived.Test.YtdbimajopclndaaRVDot
import Derived.Test.YtdbimajopclndaaIRow
import Derived.Deep.CutRange
namespace Go.Proofs.Ytdbimajopclndaa
open Go.RowKit Lb

theorem own_noLimb {w : World} {base : Nat} {ao : Option Addr} {n cap k : Nat} {zs : List Int} (h : OwnV w base ao n cap zs k) {g : Nat} (e : (Value.slice ao n cap).ownBlock = some g) : NoLimb w g := by
  rcases ao with _ | ⟨g', off, spot⟩
  · simp [Value.ownBlock] at e
  · simp only [Value.ownBlock, Option.some.injEq] at e
    subst e
    obtain ⟨_, ⟨cs, hrow⟩, hnl⟩ := h
    rcases hrow.2 with ⟨h', _⟩ | ⟨g1, cap1, cur, hv, _⟩
    · simp at h'
    · simp only [Value.slice.injEq, Option.some.injEq, Addr.mk.injEq] at hv
      obtain ⟨⟨rfl, rfl, rfl⟩, _⟩ := hv
      exact hnl _ _ rfl
set_option maxHeartbeats 1600000 in
theorem rvsameK (ao : Option Addr) (n cap : Nat) (zs : List Int) (k : Nat) (ao' : Option Addr) (n' cap' : Nat) (ys : List Int) (l : Nat) (w : World) (h : VF w ao n cap zs k) (h' : VF w ao' n' cap' ys l) (e0 : zs = ys) :
    Calls Try.prog 11 #[.slice ao n cap, .slice ao' n' cap'] w fun e w' => e = .returned (.bool true) ∧ Below w.heap.size w w' := by
  subst e0
  have hnn : n' = n := h'.len_eq.symm.trans h.len_eq
  subst hnn
  have hm := Nat.le_trans h.cap_le h.cap_max
  unfold maxLen at hm
  go_enter Try.func11, Try.ntmps11
  go_wp2_with fail
  go_loopw [5] (fun t wr => ∃ (i : Nat), i ≤ n' ∧ t = .int .i64 (i : Int) ∧ Below w.heap.size w wr) (fun t _ => n' - (intOf t).toNat)
  case atStart => exact ⟨0, Nat.zero_le _, rfl, Below.refl _ _⟩
  case round =>
    obtain ⟨i, hi, rfl, hB⟩ := hrel
    have HB := hide hB
    clear hB
    by_cases hlt : i < n'
    · obtain ⟨g2, off2, rfl⟩ := h.some (by omega)
      obtain ⟨b2, a2, l2, c2, E2, hy2⟩ := (h.later (unhide HB)).at hlt
      obtain ⟨g3, off3, rfl⟩ := h'.some (by omega)
      obtain ⟨b3, a3, l3, c3, E3, hy3⟩ := (h'.later (unhide HB)).at hlt
      have hi0 : (0 : Int) ≤ (i : Int) := by omega
      have hi1 : (i : Int) < (n' : Int) := by omega
      have HW : Below wr.heap.size wr wr.drew := (Below.refl _ _).drew
      go_upto_region 6 with fail
      refine till_start (fun w' => w'.cell? ⟨g2, off2 + i * 2, none⟩ = some (.bool b2) ∧ w'.cell? ⟨g2, off2 + i * 2 + 1, none⟩ = some (.slice a2 l2 c2) ∧ w'.cell? ⟨g3, off3 + i * 2, none⟩ = some (.bool b3) ∧ w'.cell? ⟨g3, off3 + i * 2 + 1, none⟩ = some (.slice a3 l3 c3)) 9 (by kernel_rfl) ?_ (fun hHeld => ?_)
      · exact ⟨(E2.later HW).facts.1, (E2.later HW).facts.2, (E3.later HW).facts.1, (E3.later HW).facts.2⟩
      refine till_take (i := 0) (v := ?_) [2, 3, 8, 9] rfl (by kernel_rfl) (by kernel_rfl) (by kernel_rfl) (by kernel_rfl) (fun _ _ _ h => h) (Or.inl ⟨by rfl, ?_⟩) (by assumption) ?_
      rotate_left
      · (intro w hSw; (try dsimp only at hSw); go_simp; try with_reducible rfl)
      simp only [Act.put, List.getElem_toArray, List.getElem_cons_zero, List.setIfInBounds_toArray, List.set_cons_zero, List.set_cons_succ]
      refine till_take (i := 1) (v := ?_) [2, 3, 8, 9] rfl (by kernel_rfl) (by kernel_rfl) (by kernel_rfl) (by kernel_rfl) (fun _ _ _ h => h) (Or.inl ⟨by rfl, ?_⟩) (by assumption) ?_
      rotate_left
      · (intro w hSw; (try dsimp only at hSw); go_simp; try with_reducible rfl)
      simp only [Act.put, List.getElem_toArray, List.getElem_cons_succ, List.getElem_cons_zero, List.setIfInBounds_toArray, List.set_cons_zero, List.set_cons_succ]
      refine till_take (i := 2) (v := ?_) [3, 8, 9] rfl (by kernel_rfl) (by kernel_rfl) (by kernel_rfl) (by kernel_rfl) (fun _ _ _ h => h) (Or.inl ⟨by rfl, ?_⟩) (by assumption) ?_
      rotate_left
      · (intro w hSw; (try dsimp only at hSw); go_simp; try with_reducible rfl)
      simp only [Act.put, List.getElem_toArray, List.getElem_cons_succ, List.getElem_cons_zero, List.setIfInBounds_toArray, List.set_cons_zero, List.set_cons_succ]
      refine till_take (i := 3) (v := ?_) [8, 9] rfl (by kernel_rfl) (by kernel_rfl) (by kernel_rfl) (by kernel_rfl) (fun _ _ _ h => h) (Or.inl ⟨by rfl, ?_⟩) (by assumption) ?_
      rotate_left
      · (intro w hSw; (try dsimp only at hSw); go_simp; try with_reducible rfl)
      simp only [Act.put, List.getElem_toArray, List.getElem_cons_succ, List.getElem_cons_zero, List.setIfInBounds_toArray, List.set_cons_zero, List.set_cons_succ]
      refine till_take (i := 4) (v := ?_) [6, 7, 8, 9] rfl (by kernel_rfl) (by kernel_rfl) (by kernel_rfl) (by kernel_rfl) (fun _ _ _ h => h) (Or.inl ⟨by rfl, ?_⟩) (by assumption) ?_
      rotate_left
      · (intro w hSw; (try dsimp only at hSw); go_simp; try with_reducible rfl)
      simp only [Act.put, List.getElem_toArray, List.getElem_cons_succ, List.getElem_cons_zero, List.setIfInBounds_toArray, List.set_cons_zero, List.set_cons_succ]
      refine till_take (i := 5) (v := ?_) [6, 7, 8, 9] rfl (by kernel_rfl) (by kernel_rfl) (by kernel_rfl) (by kernel_rfl) (fun _ _ _ h => h) (Or.inl ⟨by rfl, ?_⟩) (by assumption) ?_
      rotate_left
      · (intro w hSw; (try dsimp only at hSw); go_simp; try with_reducible rfl)
      simp only [Act.put, List.getElem_toArray, List.getElem_cons_succ, List.getElem_cons_zero, List.setIfInBounds_toArray, List.set_cons_zero, List.set_cons_succ]
      refine till_take (i := 6) (v := ?_) [7, 8, 9] rfl (by kernel_rfl) (by kernel_rfl) (by kernel_rfl) (by kernel_rfl) (fun _ _ _ h => h) (Or.inl ⟨by rfl, ?_⟩) (by assumption) ?_
      rotate_left
      · (intro w hSw; (try dsimp only at hSw); go_simp; try with_reducible rfl)
      simp only [Act.put, List.getElem_toArray, List.getElem_cons_succ, List.getElem_cons_zero, List.setIfInBounds_toArray, List.set_cons_zero, List.set_cons_succ]
      refine till_take (i := 7) (v := ?_) [8, 9] rfl (by kernel_rfl) (by kernel_rfl) (by kernel_rfl) (by kernel_rfl) (fun _ _ _ h => h) (Or.inl ⟨by rfl, ?_⟩) (by assumption) ?_
      rotate_left
      · (intro w hSw; (try dsimp only at hSw); go_simp; try with_reducible rfl)
      simp only [Act.put, List.getElem_toArray, List.getElem_cons_succ, List.getElem_cons_zero, List.setIfInBounds_toArray, List.set_cons_zero, List.set_cons_succ]
      refine till_in (i := 8) (by kernel_rfl) rfl (fun K hK => ?_)
      go_simp
      refine (rsameK b2 a2 l2 c2 (zs.getD i 0) k b3 a3 l3 c3 (zs.getD i 0) l _ (hy2.later HW) (hy3.later HW) rfl).mono ?_
      rintro e w9 ⟨rfl, hb9⟩
      replace HW := Below.step HW hb9
      clear hb9
      refine hK.out _ _ ?_ (fun hHeld => ?_)
      · exact ⟨(E2.later HW).facts.1, (E2.later HW).facts.2, (E3.later HW).facts.1, (E3.later HW).facts.2⟩
      clear hK K
      try simp only [Act.put, List.getElem_toArray, List.getElem_cons_succ, List.getElem_cons_zero, List.setIfInBounds_toArray, List.set_cons_zero, List.set_cons_succ]
      refine till_out (i := 9) (by kernel_rfl) rfl (by kernel_rfl) (fun K hK => ?_)
      go_simp
      refine hK.out _ _ ?_
      clear hK K
      try simp only [Act.put, List.getElem_toArray, List.getElem_cons_succ, List.getElem_cons_zero, List.setIfInBounds_toArray, List.set_cons_zero, List.set_cons_succ]
      refine till_done (by kernel_rfl) ?_ _
      go_wp2
      go_roundw
      case rel => exact ⟨i + 1, by omega, by go_num, Below.step (unhide HB) HW⟩
      case measure => simp [intOf]; omega
    · have hi1 : ¬ (i : Int) < (n' : Int) := by omega
      go_wp2
      go_ret
      exact ⟨rfl, unhide HB⟩

set_option maxHeartbeats 1600000 in
theorem rvofK (ao : Option Addr) (n cap : Nat) (zs : List Int) (w : World) (h : IRowAt w ao n cap zs) (hn : n ≤ 1000000) :
    Calls Try.prog 13 #[.slice ao n cap] w fun e w' => ∃ a1 c1, e = .returned (.slice a1 n c1) ∧ VF w' a1 n c1 zs 2 ∧ Below w.heap.size w w' := by
  have HL := hide h.len_eq
  go_enter Try.func13, Try.ntmps13
  go_wp2_with fail
  go_loopw [3, 4] (fun u t wr => ∃ (i : Nat) (ao' : Option Addr) (cap' : Nat) (rs : List Int), i ≤ n ∧ t = .int .i64 (i : Int) ∧ u = .slice ao' i cap' ∧ OwnV wr w.heap.size ao' i cap' rs 2 ∧ (∀ j, j < i → rs.getD j 0 = zs.getD j 0) ∧ Below w.heap.size w wr) (fun _ t _ => n - (intOf t).toNat)
  case atStart => exact ⟨0, none, 0, [], Nat.zero_le _, rfl, rfl, ownV_nil _ _ _, fun j hj => absurd hj (by omega), Below.refl _ _⟩
  case round =>
    obtain ⟨i, ao', cap', rs, hi, rfl, rfl, hown, hall, hB⟩ := hrel
    have HA := hide hall
    clear hall
    have HB := hide hB
    clear hB
    by_cases hlt : i < n
    · obtain ⟨g, off, rfl⟩ := h.addr (by omega)
      obtain ⟨hg1, f1⟩ := (h.later (unhide HB)).at hlt
      obtain ⟨hs1, hs2⟩ := h.small i
      obtain ⟨z, ez⟩ : ∃ z, z = zs.getD i 0 := ⟨_, rfl⟩
      rw [← ez] at f1 hs1 hs2
      have EZ := hide ez
      clear ez
      have hi1 : (i : Int) < (n : Int) := by omega
      go_wp2_with fail
      refine (rofK z _ hs1 hs2).mono ?_
      rintro e w5 ⟨b5, a5, l5, c5, rfl, h5, hb9⟩
      replace hown := hown.later hb9
      replace HB := hide (Below.step (unhide HB) hb9)
      clear hb9
      clear f1 hg1 hs1 hs2 hi1
      rw [unhide EZ] at h5
      obtain ⟨W6, hW6⟩ : ∃ W6, W6 = w5.alloc (.cells #[.bool b5, .slice a5 l5 c5] 26) := ⟨_, rfl⟩
      obtain ⟨D5, hb9⟩ := boxes1 w5 b5 a5 l5 c5 hW6
      replace h5 := h5.later hb9
      replace hown := hown.later hb9
      replace HB := hide (Below.step (unhide HB) hb9)
      clear hb9
      have hE5 : EltAt W6 w5.heap.size 0 b5 a5 l5 c5 := ⟨D5.lt, D5.facts.1, D5.facts.2.1⟩
      have hsz := (unhide HB).size
      clear D5
      rw [hW6] at h5 hown hE5 hsz
      go_wp2_with (at_builtin; refine append_vec rfl (.tmp 11) (.tmp 17) 23 Try.underlying23 rfl w.heap.size ao' i cap' 2 rs rfl hown (by omega) hsz w5.heap.size 0 1 b5 a5 l5 c5 (zs.getD i 0) rfl hE5 h5 ?_)
      intro gn cn w7 hown2 hgr hat
      rw [← hW6] at hgr hown hsz
      clear hW6
      have HD := (unhide HB).grown hgr hsz (own_ge hown)
      clear hgr hat
      go_wp2
      go_roundw
      case rel => exact ⟨i + 1, _, _, _, by omega, by go_num, rfl, hown2, snoc_each (f := fun j => zs.getD j 0) hown.len (unhide HA), HD⟩
      case measure => simp [intOf]; omega
    · have hi1 : ¬ (i : Int) < (n : Int) := by omega
      have hin : i = n := by omega
      subst hin
      have hps : rs = zs := vec_ext (by rw [hown.len, unhide HL]) fun j hj => unhide HA j (by rw [hown.len] at hj; exact hj)
      subst hps
      go_wp2
      go_ret
      exact ⟨_, _, rfl, hown.vf, unhide HB⟩

set_option maxHeartbeats 1600000 in
theorem rvaddK (ao : Option Addr) (n cap : Nat) (zs : List Int) (k : Nat) (ap : Option Addr) (n' cp : Nat) (ys : List Int) (l : Nat) (w : World) (h : VK w ao n cap zs k) (h' : VK w ap n' cp ys l) (hk : k ≤ 900000) (hl : l ≤ 900000) (hn : n ≤ 1000000) (hn' : n' ≤ 1000000) :
    Calls Try.prog 17 #[.slice ao n cap, .slice ap n' cp] w fun e w' => ∃ a1 c1, e = .returned (.slice a1 (max n n') c1) ∧ VF w' a1 (max n n') c1 (vadd zs ys) (max k l + 1) ∧ Below w.heap.size w w' := by
  have hmax := max_len n n'
  have HL := hide h.len_eq
  have HL' := hide h'.len_eq
  obtain ⟨m, em⟩ : ∃ m, m = max n n' := ⟨_, rfl⟩
  rw [← em] at hmax ⊢
  have hm : m ≤ 1000000 := by omega
  have EM := hide em
  clear em
  obtain ⟨K, eK⟩ : ∃ K, K = max k l + 1 := ⟨_, rfl⟩
  rw [← eK]
  have EK := hide eK
  clear eK
  go_enter Try.func17, Try.ntmps17
  go_wp2_with fail
  go_loopw [5, 6] (fun u t wr => ∃ (i : Nat) (ao' : Option Addr) (cap' : Nat) (rs : List Int), i ≤ m ∧ t = .int .i64 (i : Int) ∧ u = .slice ao' i cap' ∧ OwnV wr w.heap.size ao' i cap' rs K ∧ (∀ j, j < i → rs.getD j 0 = zs.getD j 0 + ys.getD j 0) ∧ Below w.heap.size w wr) (fun _ t _ => m - (intOf t).toNat)
  case atStart => exact ⟨0, none, 0, [], Nat.zero_le _, rfl, rfl, ownV_nil _ _ _, fun j hj => absurd hj (by omega), Below.refl _ _⟩
  case round =>
    obtain ⟨i, ao', cap', rs, hi, rfl, rfl, hown, hall, hB⟩ := hrel
    have HA := hide hall
    clear hall
    have HB := hide hB
    clear hB
    by_cases hlt : i < m
    · have hi1 : (i : Int) < (m : Int) := by omega
      go_wp2_with fail
      refine (ratK _ _ _ zs k i _ (h.later (unhide HB)) (by omega)).mono ?_
      rintro e w3 ⟨b3, a3, l3, c3, rfl, h3, hb9⟩
      replace hown := hown.later hb9
      replace HB := hide (Below.step (unhide HB) hb9)
      clear hb9
      go_wp2_with fail
      refine (ratK _ _ _ ys l i _ (h'.later (unhide HB)) (by omega)).mono ?_
      rintro e w4 ⟨b4, a4, l4, c4, rfl, h4, hb9⟩
      replace hown := hown.later hb9
      replace h3 := h3.later hb9
      replace HB := hide (Below.step (unhide HB) hb9)
      clear hb9
      go_wp2_with fail
      refine (raddK _ _ _ _ (zs.getD i 0) k _ _ _ _ (ys.getD i 0) l _ (h3.ik (by omega)) (h4.ik (by omega))).mono ?_
      rintro e w5 ⟨b5, a5, l5, c5, rfl, h5, hb9⟩
      rw [← unhide EK] at h5
      replace hown := hown.later hb9
      replace HB := hide (Below.step (unhide HB) hb9)
      clear hb9
      clear h3 h4
      obtain ⟨W6, hW6⟩ : ∃ W6, W6 = w5.alloc (.cells #[.bool b5, .slice a5 l5 c5] 26) := ⟨_, rfl⟩
      obtain ⟨D5, hb9⟩ := boxes1 w5 b5 a5 l5 c5 hW6
      replace h5 := h5.later hb9
      replace hown := hown.later hb9
      replace HB := hide (Below.step (unhide HB) hb9)
      clear hb9
      have hE5 : EltAt W6 w5.heap.size 0 b5 a5 l5 c5 := ⟨D5.lt, D5.facts.1, D5.facts.2.1⟩
      have hsz := (unhide HB).size
      clear D5
      rw [hW6] at h5 hown hE5 hsz
      go_wp2_with (at_builtin; refine append_vec rfl (.tmp 16) (.tmp 24) 23 Try.underlying23 rfl w.heap.size ao' i cap' K rs rfl hown (by omega) hsz w5.heap.size 0 1 b5 a5 l5 c5 (zs.getD i 0 + ys.getD i 0) rfl hE5 h5 ?_)
      intro gn cn w7 hown2 hgr hat
      rw [← hW6] at hgr hown hsz
      clear hW6
      have HD := (unhide HB).grown hgr hsz (own_ge hown)
      clear hgr hat
      go_wp2
      go_roundw
      case rel => exact ⟨i + 1, _, _, _, by omega, by go_num, rfl, hown2, snoc_each (f := fun j => zs.getD j 0 + ys.getD j 0) hown.len (unhide HA), HD⟩
      case measure => simp [intOf]; omega
    · have hi1 : ¬ (i : Int) < (m : Int) := by omega
      have hin : i = m := by omega
      subst hin
      have hps : rs = vadd zs ys := vec_ext (by rw [hown.len, vadd_len, unhide HL, unhide HL', unhide EM]) fun j hj => by rw [vadd_at]; exact unhide HA j (by rw [hown.len] at hj; exact hj)
      subst hps
      go_wp2
      go_ret
      exact ⟨_, _, rfl, hown.vf, unhide HB⟩

set_option maxHeartbeats 1600000 in
theorem rvcutK (ao : Option Addr) (n cap : Nat) (zs : List Int) (k : Nat) (x : Int) (w : World) (h : VK w ao n cap zs k) :
    Calls Try.prog 15 #[.slice ao n cap, .int .i64 x] w fun e w' => ∃ a1 c1, e = .returned (.slice a1 (room x) c1) ∧ VF w' a1 (room x) c1 (vcut zs (room x)) k ∧ Below w.heap.size w w' := by
  have hr := room_le x
  have hz := roomK x
  obtain ⟨p, ep⟩ : ∃ p, p = room x := ⟨_, rfl⟩
  rw [← ep] at hr hz ⊢
  have HZ := hide hz
  clear ep hz
  go_enter Try.func15, Try.ntmps15
  go_wp2_with fail
  go_loopw [5, 6] (fun u t wr => ∃ (i : Nat) (ao' : Option Addr) (cap' : Nat) (rs : List Int), i ≤ p ∧ t = .int .i64 (i : Int) ∧ u = .slice ao' i cap' ∧ OwnV wr w.heap.size ao' i cap' rs k ∧ (∀ j, j < i → rs.getD j 0 = zs.getD j 0) ∧ Below w.heap.size w wr) (fun _ t _ => p - (intOf t).toNat)
  case atStart => exact ⟨0, none, 0, [], Nat.zero_le _, rfl, rfl, ownV_nil _ _ _, fun j hj => absurd hj (by omega), Below.refl _ _⟩
  case round =>
    obtain ⟨i, ao', cap', rs, hi, rfl, rfl, hown, hall, hB⟩ := hrel
    have HA := hide hall
    clear hall
    have HB := hide hB
    clear hB
    go_wp2_with fail
    refine (unhide HZ _).mono ?_
    rintro e w2 ⟨rfl, hb9⟩
    replace hown := hown.later hb9
    replace HB := hide (Below.step (unhide HB) hb9)
    clear hb9
    by_cases hlt : i < p
    · have hi1 : (i : Int) < (p : Int) := by omega
      go_wp2_with fail
      refine (ratK _ _ _ zs k i _ (h.later (unhide HB)) (by omega)).mono ?_
      rintro e w5 ⟨b5, a5, l5, c5, rfl, h5, hb9⟩
      replace hown := hown.later hb9
      replace HB := hide (Below.step (unhide HB) hb9)
      clear hb9
      obtain ⟨W6, hW6⟩ : ∃ W6, W6 = w5.alloc (.cells #[.bool b5, .slice a5 l5 c5] 26) := ⟨_, rfl⟩
      obtain ⟨D5, hb9⟩ := boxes1 w5 b5 a5 l5 c5 hW6
      replace h5 := h5.later hb9
      replace hown := hown.later hb9
      replace HB := hide (Below.step (unhide HB) hb9)
      clear hb9
      have hE5 : EltAt W6 w5.heap.size 0 b5 a5 l5 c5 := ⟨D5.lt, D5.facts.1, D5.facts.2.1⟩
      have hsz := (unhide HB).size
      clear D5
      rw [hW6] at h5 hown hE5 hsz
      go_wp2_with (at_builtin; refine append_vec rfl (.tmp 13) (.tmp 17) 23 Try.underlying23 rfl w.heap.size ao' i cap' k rs rfl hown (by omega) hsz w5.heap.size 0 1 b5 a5 l5 c5 (zs.getD i 0) rfl hE5 h5 ?_)
      intro gn cn w7 hown2 hgr hat
      rw [← hW6] at hgr hown hsz
      clear hW6
      have HD := (unhide HB).grown hgr hsz (own_ge hown)
      clear hgr hat
      go_wp2
      go_roundw
      case rel => exact ⟨i + 1, _, _, _, by omega, by go_num, rfl, hown2, snoc_each (f := fun j => zs.getD j 0) hown.len (unhide HA), HD⟩
      case measure => simp [intOf]; omega
    · have hi1 : ¬ (i : Int) < (p : Int) := by omega
      have hin : i = p := by omega
      subst hin
      have hps : rs = vcut zs i := vec_ext (by rw [hown.len, vcut_len]) fun j hj => by
          rw [hown.len] at hj
          rw [vcut_at, if_pos hj]
          exact unhide HA j hj
      subst hps
      go_wp2
      go_ret
      exact ⟨_, _, rfl, hown.vf, unhide HB⟩

set_option maxHeartbeats 1600000 in
theorem rvtimesK (ao : Option Addr) (n cap : Nat) (zs : List Int) (k : Nat) (b0 : Bool) (a0 : Option Addr) (l0 c0 : Nat) (x : Int) (l : Nat) (w : World) (h : VS w ao n cap zs k) (hx : SK w b0 a0 l0 c0 x l) (hk : k ≤ 400000) (hl : l ≤ 400000) (hn : n ≤ 1000000) :
    Calls Try.prog 23 #[.slice ao n cap, .agg #[.bool b0, .slice a0 l0 c0]] w fun e w' => ∃ a1 c1, e = .returned (.slice a1 n c1) ∧ VF w' a1 n c1 (vtimes zs x) (k + l) ∧ Below w.heap.size w w' := by
  have HL := hide h.len_eq
  go_enter Try.func23, Try.ntmps23
  go_upto_region 1 with fail
  obtain ⟨W, hWe⟩ : ∃ W, W = w.alloc (.cells #[.bool b0, .slice a0 l0 c0] 26) := ⟨_, rfl⟩
  have hsW : W.heap.size = w.heap.size + 1 := by rw [hWe]; simp
  obtain ⟨B0, hb0⟩ := boxes1 w b0 a0 l0 c0 hWe
  rw [← hWe]
  clear hWe
  replace hx := hx.later hb0
  go_wp2_with fail
  go_loopw [5, 6] (fun u t wr => ∃ (i : Nat) (ao' : Option Addr) (cap' : Nat) (rs : List Int), i ≤ n ∧ t = .int .i64 (i : Int) ∧ u = .slice ao' i cap' ∧ Box wr w.heap.size b0 a0 l0 c0 ∧ SK wr b0 a0 l0 c0 x l ∧ W.heap.size ≤ wr.heap.size ∧ OwnV wr W.heap.size ao' i cap' rs (k + l) ∧ (∀ j, j < i → rs.getD j 0 = zs.getD j 0 * x) ∧ Below w.heap.size w wr) (fun _ t _ => n - (intOf t).toNat)
  case atStart => exact ⟨0, none, 0, [], Nat.zero_le _, rfl, rfl, B0, hx, Nat.le_refl _, ownV_nil _ _ _, fun j hj => absurd hj (by omega), hb0⟩
  case round =>
    clear hx B0 hb0
    obtain ⟨i, ao', cap', rs, hi, rfl, rfl, B0, hx, hWr, hown, hall, hB⟩ := hrel
    have HA := hide hall
    clear hall
    have HB := hide hB
    clear hB
    by_cases hlt : i < n
    · obtain ⟨g2, off2, rfl⟩ := h.some (by omega)
      obtain ⟨b2, a2, l2, c2, E2, hy2⟩ := (h.later (unhide HB)).at hlt
      have hi0 : (0 : Int) ≤ (i : Int) := by omega
      have hi1 : (i : Int) < (n : Int) := by omega
      have hsz0 := (unhide HB).size
      have HW : Below wr.heap.size wr wr.drew := (Below.refl _ _).drew
      replace hown := hown.later HW
      go_upto_region 5 with fail
      refine till_start (fun w' => w'.cell? ⟨g2, off2 + i * 2, none⟩ = some (.bool b2) ∧ w'.cell? ⟨g2, off2 + i * 2 + 1, none⟩ = some (.slice a2 l2 c2) ∧ w'.cell? ⟨w.heap.size, 0, none⟩ = some (.bool b0) ∧ w'.cell? ⟨w.heap.size, 1, none⟩ = some (.slice a0 l0 c0)) 8 (by kernel_rfl) ?_ (fun hHeld => ?_)
      · exact ⟨(E2.later HW).facts.1, (E2.later HW).facts.2, (B0.later HW).facts.1, (B0.later HW).facts.2.1⟩
      refine till_take (i := 0) (v := ?_) [8, 9] rfl (by kernel_rfl) (by kernel_rfl) (by kernel_rfl) (by kernel_rfl) (fun _ _ _ h => h) (Or.inl ⟨by rfl, ?_⟩) (by assumption) ?_
      rotate_left
      · (intro w hSw; (try dsimp only at hSw); go_simp; try with_reducible rfl)
      simp only [Act.put, List.getElem_toArray, List.getElem_cons_zero, List.setIfInBounds_toArray, List.set_cons_zero, List.set_cons_succ]
      refine till_take (i := 1) (v := ?_) [3, 4, 6, 7, 8, 9] rfl (by kernel_rfl) (by kernel_rfl) (by kernel_rfl) (by kernel_rfl) (fun _ _ _ h => h) (Or.inl ⟨by rfl, ?_⟩) (by assumption) ?_
      rotate_left
      · (intro w hSw; (try dsimp only at hSw); go_simp; try with_reducible rfl)
      simp only [Act.put, List.getElem_toArray, List.getElem_cons_succ, List.getElem_cons_zero, List.setIfInBounds_toArray, List.set_cons_zero, List.set_cons_succ]
      refine till_take (i := 2) (v := ?_) [3, 4, 6, 7, 8, 9] rfl (by kernel_rfl) (by kernel_rfl) (by kernel_rfl) (by kernel_rfl) (fun _ _ _ h => h) (Or.inl ⟨by rfl, ?_⟩) (by assumption) ?_
      rotate_left
      · (intro w hSw; (try dsimp only at hSw); go_simp; try with_reducible rfl)
      simp only [Act.put, List.getElem_toArray, List.getElem_cons_succ, List.getElem_cons_zero, List.setIfInBounds_toArray, List.set_cons_zero, List.set_cons_succ]
      refine till_take (i := 3) (v := ?_) [4, 6, 7, 8, 9] rfl (by kernel_rfl) (by kernel_rfl) (by kernel_rfl) (by kernel_rfl) (fun _ _ _ h => h) (Or.inl ⟨by rfl, ?_⟩) (by assumption) ?_
      rotate_left
      · (intro w hSw; (try dsimp only at hSw); go_simp; try with_reducible rfl)
      simp only [Act.put, List.getElem_toArray, List.getElem_cons_succ, List.getElem_cons_zero, List.setIfInBounds_toArray, List.set_cons_zero, List.set_cons_succ]
      refine till_take (i := 4) (v := ?_) [6, 7, 8, 9] rfl (by kernel_rfl) (by kernel_rfl) (by kernel_rfl) (by kernel_rfl) (fun _ _ _ h => h) (Or.inl ⟨by rfl, ?_⟩) (by assumption) ?_
      rotate_left
      · (intro w hSw; (try dsimp only at hSw); go_simp; try with_reducible rfl)
      simp only [Act.put, List.getElem_toArray, List.getElem_cons_succ, List.getElem_cons_zero, List.setIfInBounds_toArray, List.set_cons_zero, List.set_cons_succ]
      refine till_take (i := 5) (v := ?_) [6, 7, 8, 9] rfl (by kernel_rfl) (by kernel_rfl) (by kernel_rfl) (by kernel_rfl) (fun _ _ _ h => h) (Or.inl ⟨by rfl, ?_⟩) (by assumption) ?_
      rotate_left
      · (intro w hSw; (try dsimp only at hSw); go_simp; try with_reducible rfl)
      simp only [Act.put, List.getElem_toArray, List.getElem_cons_succ, List.getElem_cons_zero, List.setIfInBounds_toArray, List.set_cons_zero, List.set_cons_succ]
      refine till_in (i := 6) (by kernel_rfl) rfl (fun K hK => ?_)
      go_simp
      refine (rmulK b2 a2 l2 c2 (zs.getD i 0) k b0 a0 l0 c0 x l _ (hy2.1.later HW) (hx.1.later HW) (by have := hy2.2; have := hx.2; omega)).mono ?_
      rintro e w9 ⟨b5, a5, l5, c5, rfl, h5, hb9⟩
      replace HW := Below.step HW hb9
      replace hown := hown.later hb9
      clear hb9
      refine hK.out _ _ ?_ (fun hHeld => ?_)
      · exact ⟨(E2.later HW).facts.1, (E2.later HW).facts.2, (B0.later HW).facts.1, (B0.later HW).facts.2.1⟩
      clear hK K
      try simp only [Act.put, List.getElem_toArray, List.getElem_cons_succ, List.getElem_cons_zero, List.setIfInBounds_toArray, List.set_cons_zero, List.set_cons_succ]
      refine till_in (i := 7) (by kernel_rfl) rfl (fun K hK => ?_)
      go_simp
      obtain ⟨wa, hWa⟩ : ∃ W', W' = w9.alloc (.cells #[.bool b5, .slice a5 l5 c5] 26) := ⟨_, rfl⟩
      obtain ⟨D5, hb9⟩ := boxes1 w9 b5 a5 l5 c5 hWa
      rw [← hWa]
      clear hWa
      replace HW := Below.step HW hb9
      replace h5 := h5.later hb9
      replace hown := hown.later hb9
      have hE5 : EltAt wa w9.heap.size 0 b5 a5 l5 c5 := ⟨D5.lt, D5.facts.1, D5.facts.2.1⟩
      clear hb9 D5
      have hsz := HW.size
      have hsz2 := (unhide HB).size
      refine hK.out _ _ ?_ (fun hHeld => ?_)
      · exact ⟨(E2.later HW).facts.1, (E2.later HW).facts.2, (B0.later HW).facts.1, (B0.later HW).facts.2.1⟩
      clear hK K
      try simp only [Act.put, List.getElem_toArray, List.getElem_cons_succ, List.getElem_cons_zero, List.setIfInBounds_toArray, List.set_cons_zero, List.set_cons_succ]
      refine till_out (i := 8) (by kernel_rfl) rfl (by kernel_rfl) (fun K hK => ?_)
      refine step_vec (by rfl) _ _ 23 Try.underlying23 (by rfl) W.heap.size ao' i cap' (k + l) rs (by rfl) hown (by omega) (Nat.le_trans hWr hsz) w9.heap.size 0 1 b5 a5 l5 c5 (zs.getD i 0 * x) (by rfl) hE5 h5 ?_
      intro gn cn w8 hown2 hgr hat
      have hge := own_ge hown
      have hnl := hown.2.2
      have HBW := hide (Below.step (unhide HB) HW)
      have B1 := B0.later HW
      have hx1 := hx.1.later HW
      clear HW hsz2
      refine hK.out _ _ ?_
      clear hK K
      try simp only [Act.put, List.getElem_toArray, List.getElem_cons_succ, List.getElem_cons_zero, List.setIfInBounds_toArray, List.set_cons_zero, List.set_cons_succ]
      refine till_out (i := 9) (by kernel_rfl) rfl (by kernel_rfl) (fun K hK => ?_)
      go_simp
      refine hK.out _ _ ?_
      clear hK K
      try simp only [Act.put, List.getElem_toArray, List.getElem_cons_succ, List.getElem_cons_zero, List.setIfInBounds_toArray, List.set_cons_zero, List.set_cons_succ]
      refine till_done (by kernel_rfl) ?_ _
      have hgz := hgr.size
      have hB8 : Below w.heap.size w w8 := (unhide HBW).grown hgr (Nat.le_trans hsz0 hsz) (fun g e => Nat.le_trans (by omega) (hge g e))
      have B8 := B1.grown hgr (fun e => by have := hge _ e; omega)
      have hx8 : SK w8 b0 a0 l0 c0 x l := ⟨hx1.grown hgr (fun g e => own_noLimb hown e), hx.2⟩
      go_wp2
      go_roundw
      case rel => exact ⟨i + 1, _, _, _, by omega, by go_num, rfl, B8, hx8, by omega, hown2, snoc_each (f := fun j => zs.getD j 0 * x) hown.len (unhide HA), hB8⟩
      case measure => simp [intOf]; omega
    · have hi1 : ¬ (i : Int) < (n : Int) := by omega
      have hin : i = n := by omega
      subst hin
      have hps : rs = vtimes zs x := map_of_each (f := fun z => z * x) (unhide HL) hown.len (unhide HA)
      subst hps
      go_wp2
      go_ret
      exact ⟨_, _, rfl, hown.vf, unhide HB⟩

set_option maxHeartbeats 800000 in
theorem rvnegK (ao : Option Addr) (n cap : Nat) (zs : List Int) (k : Nat) (w : World) (h : VS w ao n cap zs k) (hk : k ≤ 400000) (hn : n ≤ 1000000) :
    Calls Try.prog 21 #[.slice ao n cap] w fun e w' => ∃ a1 c1, e = .returned (.slice a1 n c1) ∧ VF w' a1 n c1 (vneg zs) (k + 2) ∧ Below w.heap.size w w' := by
  go_enter Try.func21, Try.ntmps21
  go_wp2_with fail
  refine (rofK (-1) _ (by omega) (by omega)).mono ?_
  rintro e w1 ⟨b1, a1, l1, c1, rfl, h1, hb1⟩
  go_wp2_with fail
  refine (rvtimesK _ _ _ zs k _ _ _ _ (-1) 2 _ (h.later hb1) (h1.sk (by omega)) hk (by omega) hn).mono ?_
  rintro e w2 ⟨a2, c2, rfl, h2, hb2⟩
  rw [← vneg_times] at h2
  go_wp2
  go_ret
  exact ⟨_, _, rfl, h2, Below.step hb1 hb2⟩

set_option maxHeartbeats 800000 in
theorem rvsubK (ao : Option Addr) (n cap : Nat) (zs : List Int) (k : Nat) (ap : Option Addr) (n' cp : Nat) (ys : List Int) (l : Nat) (w : World) (h : VK w ao n cap zs k) (h' : VS w ap n' cp ys l) (hk : k ≤ 900000) (hl : l ≤ 400000) (hn : n ≤ 1000000) (hn' : n' ≤ 1000000) :
    Calls Try.prog 19 #[.slice ao n cap, .slice ap n' cp] w fun e w' => ∃ a1 c1, e = .returned (.slice a1 (max n n') c1) ∧ VF w' a1 (max n n') c1 (vsub zs ys) (max k (l + 2) + 1) ∧ Below w.heap.size w w' := by
  go_enter Try.func19, Try.ntmps19
  go_wp2_with fail
  refine (rvnegK _ _ _ ys l _ h' hl hn').mono ?_
  rintro e w1 ⟨a1, c1, rfl, h1, hb1⟩
  go_wp2_with fail
  refine (rvaddK _ _ _ zs k _ _ _ (vneg ys) (l + 2) _ (h.later hb1) (h1.vk (by omega)) (by omega) (by omega) hn hn').mono ?_
  rintro e w2 ⟨a2, c2, rfl, h2, hb2⟩
  rw [← vsub_neg] at h2
  go_wp2
  go_ret
  exact ⟨_, _, rfl, h2, Below.step hb1 hb2⟩

#print axioms rvsameK
#print axioms rvofK
#print axioms rvaddK
#print axioms rvcutK
#print axioms rvtimesK
#print axioms rvnegK
#print axioms rvsubK
end Go.Proofs.Ytdbimajopclndaa
