/-
  What Of, Zero and Cut of package vec tell.
-/
import Derived.Test.YtdbimajopclndaaVAt
import Derived.Test.YtdbimajopclndaaIRow
import Derived.Deep.CutRange
namespace Go.Proofs.Ytdbimajopclndaa
open Go.RowKit Lb

set_option maxHeartbeats 1600000 in
theorem vofK (ao : Option Addr) (n cap : Nat) (zs : List Int) (w : World) (h : IRowAt w ao n cap zs) (hn : n ≤ 1000000) :
    Calls Try.prog 12 #[.slice ao n cap] w fun e w' => ∃ a1 c1, e = .returned (.slice a1 n c1) ∧ VF w' a1 n c1 zs 2 ∧ Below w.heap.size w w' := by
  have HL := hide h.len_eq
  go_enter Try.func12, Try.ntmps12
  have HB := hide (Below.refl w.heap.size w)
  go_wp2_with (at_make; refine make_vec rfl _ _ 23 Try.underlying23 rfl w.heap.size .i64 .i64 _ _ n 2 rfl rfl (by omega) (by omega) (by omega) (by omega) ?_)
  intro w2 hown hgrow
  have hbg : Below w.heap.size w w2 := (Below.refl _ _).grown hgrow (Nat.le_refl _) (fun _ h => by simp at h)
  replace HB := hide (Below.step (unhide HB) hbg)
  clear hgrow hbg
  obtain ⟨gv, egv⟩ : ∃ gv, gv = w.heap.size := ⟨_, rfl⟩
  rw [show (some ⟨w.heap.size, 0, none⟩ : Option Addr) = some ⟨gv, 0, none⟩ by rw [egv]] at hown ⊢
  clear egv
  go_wp2_with fail
  go_loopw [11] (fun t wr => ∃ (i : Nat) (ps : List Int), i ≤ n ∧ t = .int .i64 (i : Int) ∧ OwnV wr w.heap.size (some ⟨gv, 0, none⟩) n n ps 2 ∧ (∀ j, j < i → ps.getD j 0 = zs.getD j 0) ∧ Below w.heap.size w wr) (fun t _ => n - (intOf t).toNat)
  case atStart => exact ⟨0, _, Nat.zero_le _, rfl, hown, fun j hj => absurd hj (by omega), unhide HB⟩
  case round =>
    clear hown HB
    obtain ⟨i, ps, hi, rfl, hv, hall, hB⟩ := hrel
    have HA := hide hall
    clear hall
    have HB := hide hB
    clear hB
    by_cases hlt : i < n
    · obtain ⟨g, off, rfl⟩ := h.addr (by omega)
      obtain ⟨hg1, f1⟩ := (h.later (unhide HB)).at hlt
      obtain ⟨hs1, hs2⟩ := h.small i
      obtain ⟨z, ez⟩ : ∃ z, z = zs.getD i 0 := ⟨_, rfl⟩
      rw [← ez] at f1 hs1 hs2
      have EZ := hide ez
      clear ez
      go_wp2_with fail
      refine (ofK z _ hs1 hs2).mono ?_
      rintro e w5 ⟨b5, a5, l5, c5, rfl, h5, hb1⟩
      replace hv := hv.later hb1
      replace HB := hide (Below.step (unhide HB) hb1)
      clear hb1 f1 hg1 hs1 hs2
      rw [unhide EZ] at h5
      obtain ⟨b6, a6, l6, c6, he6, _⟩ := hv.vf.at (show i < n by omega)
      rw [Nat.zero_add] at he6
      obtain ⟨q1, q2⟩ := he6.facts
      have q3 := hv.free (i * 2)
      have q4 := hv.free (i * 2 + 1)
      have hbl := hv.base_le
      go_wp2
      go_roundw
      case rel =>
        refine ⟨i + 1, ps.set i (zs.getD i 0), by omega, by go_num, hv.set (by omega) h5, put_each (f := fun j => zs.getD j 0) (by rw [hv.len]; omega) (unhide HA), ?_⟩
        exact ((unhide HB).setCell (by simpa using hbl.1) _).setCell (by simpa using hbl.1) _
      case measure => simp [intOf]; omega
    · have hin : i = n := by omega
      subst hin
      have hps : ps = zs := vec_ext (by rw [hv.len, unhide HL]) fun j hj => unhide HA j (by rw [hv.len] at hj; exact hj)
      subst hps
      go_wp2
      go_ret
      exact ⟨_, _, rfl, hv.vf, unhide HB⟩

set_option maxHeartbeats 800000 in
theorem vzeroK (n : Int) (k : Nat) (w : World) : Calls Try.prog 14 #[.int .i64 n] w fun e w' => ∃ g, e = .returned (.slice (some ⟨g, 0, none⟩) (room n) (room n)) ∧ OwnV w' w.heap.size (some ⟨g, 0, none⟩) (room n) (room n) (List.replicate (room n) 0) k ∧ Below w.heap.size w w' := by
  have hr := room_le n
  obtain ⟨m, em⟩ : ∃ m, m = room n := ⟨_, rfl⟩
  have hp := placesK n w
  rw [← em] at hr hp ⊢
  have HP := hide hp
  clear em hp
  go_enter Try.func14, Try.ntmps14
  go_wp2_with fail
  refine (unhide HP).mono ?_
  rintro e w1 ⟨rfl, hb1⟩
  have hsz := hb1.size
  go_wp2_with (at_make; refine make_vec rfl _ _ 23 Try.underlying23 rfl w.heap.size .i64 .i64 _ _ m k rfl rfl (by omega) (by omega) (by omega) (by omega) ?_)
  intro w2 hown hgrow
  have hbg : Below w1.heap.size w1 w2 := (Below.refl _ _).grown hgrow (Nat.le_refl _) (fun _ h => by simp at h)
  go_wp2
  go_ret
  exact ⟨_, rfl, hown, Below.step hb1 hbg⟩

theorem cut_each {ps zs : List Int} {i : Nat} (hi : i < ps.length) (h : ∀ j, ps.getD j 0 = if j < i then zs.getD j 0 else 0) : ∀ j, (ps.set i (zs.getD i 0)).getD j 0 = if j < i + 1 then zs.getD j 0 else 0 := by
  intro j
  by_cases e : j = i
  · subst e
    rw [if_pos (by omega)]
    simp [List.getD, hi]
  · rw [show (ps.set i (zs.getD i 0)).getD j 0 = ps.getD j 0 by simp [List.getD, List.getElem?_set_ne (Ne.symm e)], h j]
    by_cases c : j < i
    · rw [if_pos c, if_pos (by omega)]
    · rw [if_neg c, if_neg (by omega)]
set_option maxHeartbeats 1600000 in
theorem vcutK (ao : Option Addr) (n cap : Nat) (zs : List Int) (k : Nat) (x : Int) (w : World) (h : VK w ao n cap zs k) :
    Calls Try.prog 24 #[.slice ao n cap, .int .i64 x] w fun e w' => ∃ a1 c1, e = .returned (.slice a1 (room x) c1) ∧ VF w' a1 (room x) c1 (vcut zs (room x)) k ∧ Below w.heap.size w w' := by
  have HL := hide h.len_eq
  have hr := room_le x
  have hz := vzeroK x k w
  have hmin := min_len n (room x)
  have hp0 : ∀ j, (List.replicate (room x) (0 : Int)).getD j 0 = if j < 0 then zs.getD j 0 else 0 := fun j => by
    rw [if_neg (by omega)]
    rcases Nat.lt_or_ge j (room x) with c | c
    · simp [List.getD, c]
    · exact getD_out (by simp; exact c)
  obtain ⟨p, ep⟩ : ∃ p, p = room x := ⟨_, rfl⟩
  rw [← ep] at hr hmin hz hp0 ⊢
  have HZ := hide hz
  have HP := hide hp0
  clear ep hz hp0
  obtain ⟨m, em⟩ : ∃ m, m = min n p := ⟨_, rfl⟩
  rw [← em] at hmin
  have hmn : m ≤ n := by omega
  have hmp : m ≤ p := by omega
  have EM := hide em
  clear em
  go_enter Try.func24, Try.ntmps24
  go_wp2_with fail
  refine (unhide HZ).mono ?_
  rintro e w2 ⟨gv, rfl, hown, hb1⟩
  have HB := hide hb1
  clear hb1 HZ
  go_wp2_with fail
  go_loopw [14] (fun t wr => ∃ (i : Nat) (ps : List Int), i ≤ m ∧ t = .int .i64 (i : Int) ∧ OwnV wr w.heap.size (some ⟨gv, 0, none⟩) p p ps k ∧ (∀ j, ps.getD j 0 = if j < i then zs.getD j 0 else 0) ∧ Below w.heap.size w wr) (fun t _ => m - (intOf t).toNat)
  case atStart => exact ⟨0, _, Nat.zero_le _, rfl, hown, unhide HP, unhide HB⟩
  case round =>
    clear hown HB hmin
    obtain ⟨i, ps, hi, rfl, hv, hall, hB⟩ := hrel
    have HA := hide hall
    clear hall
    have HB := hide hB
    clear hB
    by_cases hlt : i < m
    · obtain ⟨g, off, rfl⟩ := h.some (by omega)
      obtain ⟨b2, a2, l2, c2, he, hy⟩ := (h.later (unhide HB)).at (show i < n by omega)
      obtain ⟨f1, f2⟩ := he.facts
      have hg1 := he.1
      have hi1 : (i : Int) < (n : Int) := by omega
      go_wp2_with fail
      refine (formK b2 a2 l2 c2 (zs.getD i 0) k _ hy).mono ?_
      rintro e w5 ⟨b5, a5, l5, c5, rfl, h5, hb1⟩
      replace hv := hv.later hb1
      replace HB := hide (Below.step (unhide HB) hb1)
      clear hb1 hy he f1 f2 hg1 hi1
      have hi2 : (i : Int) < (p : Int) := by omega
      obtain ⟨b6, a6, l6, c6, he6, _⟩ := hv.vf.at (show i < p by omega)
      rw [Nat.zero_add] at he6
      obtain ⟨q1, q2⟩ := he6.facts
      have q3 := hv.free (i * 2)
      have q4 := hv.free (i * 2 + 1)
      have hbl := hv.base_le
      go_wp2
      go_roundw
      case rel =>
        refine ⟨i + 1, ps.set i (zs.getD i 0), by omega, by go_num, hv.set (by omega) h5, cut_each (by rw [hv.len]; omega) (unhide HA), ?_⟩
        exact ((unhide HB).setCell (by simpa using hbl.1) _).setCell (by simpa using hbl.1) _
      case measure => simp [intOf]; omega
    · have hin : i = m := by omega
      have hps : ps = vcut zs p := vec_ext (by rw [hv.len, vcut_len]) fun j hj => by
        rw [hv.len] at hj
        rw [vcut_at, if_pos hj, unhide HA j]
        have := unhide EM
        have := unhide HL
        by_cases c : j < i
        · rw [if_pos c]
        · rw [if_neg c, getD_out (by omega)]
      subst hps
      go_wp2
      go_ret
      exact ⟨_, _, rfl, hv.vf, unhide HB⟩

#print axioms vofK
#print axioms vzeroK
#print axioms vcutK
end Go.Proofs.Ytdbimajopclndaa
