/-
  What at and places of package vec tell, and the reference's At and Room; how many places there may be; what max of two lengths is.
-/
import Derived.Test.YtdbimajopclndaaBx
import Derived.Test.YtdbimajopclndaaVNum
import Derived.Test.YtdbimajopclndaaTill2
import Derived.Deep.CutRange
namespace Go.Proofs.Ytdbimajopclndaa
open Go.RowKit Lb

/-- How many places there are, if n are asked for. -/
def room (n : Int) : Nat := if n < 0 then 0 else if 64 < n then 64 else n.toNat
theorem room_le (n : Int) : room n ≤ 64 := by unfold room; split <;> (try split) <;> omega
theorem max_room (n : Int) (ts : Array TypeId) (t : TypeId) (W : World) : (Builtin.max_ ts t #[.int .i64 n, .int .i64 0]).run Try.prog W = .ok (.int .i64 (max n 0)) W := by
  rw [run_max_int2]; congr 2; split <;> omega
theorem min_room (n : Int) (ts : Array TypeId) (t : TypeId) (W : World) : (Builtin.min_ ts t #[.int .i64 (max n 0), .int .i64 64]).run Try.prog W = .ok (.int .i64 (room n : Int)) W := by
  rw [run_min_int2]; congr 2; unfold room; split <;> split <;> (try split) <;> omega
/-- max and min of two lengths. -/
theorem max_len (n m : Nat) (ts : Array TypeId) (t : TypeId) (W : World) : (Builtin.max_ ts t #[.int .i64 (n : Int), .int .i64 (m : Int)]).run Try.prog W = .ok (.int .i64 ((max n m : Nat) : Int)) W := by
  rw [run_max_int2]; congr 2; split <;> omega
theorem min_len (n m : Nat) (ts : Array TypeId) (t : TypeId) (W : World) : (Builtin.min_ ts t #[.int .i64 (n : Int), .int .i64 (m : Int)]).run Try.prog W = .ok (.int .i64 ((min n m : Nat) : Int)) W := by
  rw [run_min_int2]; congr 2; split <;> omega
/-- A place is written: each place as f tells. -/
theorem put_each {ps : List Int} {i : Nat} {f : Nat → Int} (hi : i < ps.length) (h : ∀ j, j < i → ps.getD j 0 = f j) : ∀ j, j < i + 1 → (ps.set i (f i)).getD j 0 = f j := by
  intro j hj
  by_cases e : j = i
  · subst e
    simp [List.getD, hi]
  · rw [show (ps.set i (f i)).getD j 0 = ps.getD j 0 by simp [List.getD, List.getElem?_set_ne (Ne.symm e)]]
    exact h j (by omega)

set_option maxHeartbeats 800000 in
theorem placesK (n : Int) (w : World) : Calls Try.prog 41 #[.int .i64 n] w fun e w' => e = .returned (.int .i64 (room n : Int)) ∧ Below w.heap.size w w' := by
  have hmax := max_room n
  have hmin := min_room n
  obtain ⟨m, em⟩ : ∃ m, m = max n 0 := ⟨_, rfl⟩
  rw [← em] at hmax hmin
  clear em
  go_enter Try.func41, Try.ntmps41
  go_wp2
  go_ret
  exact ⟨rfl, Below.refl _ _⟩
set_option maxHeartbeats 800000 in
theorem atK (ao : Option Addr) (n cap : Nat) (zs : List Int) (k : Nat) (i : Nat) (w : World) (h : VK w ao n cap zs k) (hk : k ≤ 900000) (hi : i ≤ 1000000000) :
    Calls Try.prog 45 #[.slice ao n cap, .int .i64 (i : Int)] w fun e w' => ∃ b1 a1 l1 c1, e = .returned (.agg #[.bool b1, .slice a1 l1 c1]) ∧ IK w' b1 a1 l1 c1 (zs.getD i 0) k ∧ Below w.heap.size w w' := by
  have hm := Nat.le_trans h.cap_le h.cap_max
  have hl := h.len_eq
  unfold maxLen at hm
  go_enter Try.func45, Try.ntmps45
  go_upto_region 1 with fail
  obtain ⟨W, hWe⟩ : ∃ W, W = w.alloc (.cells #[.bool false, .slice none 0 0] 26) := ⟨_, rfl⟩
  obtain ⟨B0, hb0⟩ := boxes1 w false none 0 0 hWe
  rw [← hWe]
  clear hWe
  have hsz := B0.lt
  obtain ⟨q1, q2, q3, q4⟩ := B0.facts
  by_cases hlt : i < n
  · obtain ⟨g, off, rfl⟩ := h.some (by omega)
    obtain ⟨b2, a2, l2, c2, he, hy⟩ := (h.later hb0).at hlt
    obtain ⟨f1, f2⟩ := he.facts
    have hg1 := he.1
    go_wp2
    refine bodyPost_ret (v := .agg #[.bool b2, .slice a2 l2 c2]) (by simp [results, Try.results45, go_sem, *]) rfl ⟨_, _, _, _, rfl, ?_⟩
    exact ⟨hy.put B0.noLimb _ _ _ _, below_put hb0 (by omega) _ _ _ _⟩
  · go_wp2
    refine bodyPost_ret (v := .agg #[.bool false, .slice none 0 0]) (by simp [results, Try.results45, go_sem, *]) rfl ⟨_, _, _, _, rfl, ?_⟩
    rw [getD_out (by omega)]
    exact ⟨((fk_zero W k).ik (by omega)).put B0.noLimb _ _ _ _, below_put hb0 (by omega) _ _ _ _⟩
set_option maxHeartbeats 800000 in
theorem roomK (n : Int) (w : World) : Calls Try.prog 42 #[.int .i64 n] w fun e w' => e = .returned (.int .i64 (room n : Int)) ∧ Below w.heap.size w w' := by
  have hmax := max_room n
  have hmin := min_room n
  obtain ⟨m, em⟩ : ∃ m, m = max n 0 := ⟨_, rfl⟩
  rw [← em] at hmax hmin
  clear em
  go_enter Try.func42, Try.ntmps42
  go_wp2
  go_ret
  exact ⟨rfl, Below.refl _ _⟩
set_option maxHeartbeats 800000 in
theorem ratK (ao : Option Addr) (n cap : Nat) (zs : List Int) (k : Nat) (i : Nat) (w : World) (h : VK w ao n cap zs k) (hi : i ≤ 1000000000) :
    Calls Try.prog 43 #[.slice ao n cap, .int .i64 (i : Int)] w fun e w' => ∃ b1 a1 l1 c1, e = .returned (.agg #[.bool b1, .slice a1 l1 c1]) ∧ FK w' b1 a1 l1 c1 (zs.getD i 0) k ∧ Below w.heap.size w w' := by
  have hm := Nat.le_trans h.cap_le h.cap_max
  have hl := h.len_eq
  unfold maxLen at hm
  go_enter Try.func43, Try.ntmps43
  obtain ⟨z, ez⟩ : ∃ z, z = zs.getD i 0 := ⟨_, rfl⟩
  rw [← ez]
  have EZ := hide ez
  clear ez
  go_upto_region 1 with fail
  obtain ⟨W, hWe⟩ : ∃ W, W = w.alloc (.cells #[.bool false, .slice none 0 0] 26) := ⟨_, rfl⟩
  obtain ⟨B0, hb0⟩ := boxes1 w false none 0 0 hWe
  rw [← hWe]
  clear hWe
  by_cases hlt : i < n
  · obtain ⟨g, off, rfl⟩ := h.some (by omega)
    obtain ⟨b2, a2, l2, c2, he, hy⟩ := (h.later hb0).at hlt
    obtain ⟨f1, f2⟩ := he.facts
    have hg1 := he.1
    have hi1 : (i : Int) < (n : Int) := by omega
    go_wp2_with fail
    refine (rformK _ _ _ _ (zs.getD i 0) k _ hy).mono ?_
    rintro e w2 ⟨b3, a3, l3, c3, rfl, h3, hb1⟩
    rw [← unhide EZ] at h3
    replace B0 := B0.later hb1
    have HB := Below.step hb0 hb1
    clear hb0 hb1 f1 f2 hg1 he hy
    have hsz := B0.lt
    obtain ⟨q1, q2, q3, q4⟩ := B0.facts
    go_wp2
    refine bodyPost_ret (v := .agg #[.bool b3, .slice a3 l3 c3]) (by simp [results, Try.results43, go_sem, *]) rfl ⟨_, _, _, _, rfl, ?_⟩
    exact ⟨h3.put B0.noLimb _ _ _ _, below_put HB (by omega) _ _ _ _⟩
  · have hsz := B0.lt
    obtain ⟨q1, q2, q3, q4⟩ := B0.facts
    have hi1 : ¬ (i : Int) < (n : Int) := by omega
    go_wp2
    refine bodyPost_ret (v := .agg #[.bool false, .slice none 0 0]) (by simp [results, Try.results43, go_sem, *]) rfl (Or.inl ⟨_, _, _, rfl, ?_⟩)
    rw [unhide EZ, getD_out (by omega)]
    exact ⟨(fk_zero W k).put B0.noLimb _ _ _ _, below_put hb0 (by omega) _ _ _ _⟩

#print axioms placesK
#print axioms atK
#print axioms roomK
#print axioms ratK
end Go.Proofs.Ytdbimajopclndaa
