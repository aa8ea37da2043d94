/-
  A part of a row that the caller owns, written in place: the world behind it has that one block changed.
-/
import Derived.Test.YtkhcanhdbalihaaLCut
import Derived.Test.YtkhcanhdbalihaaRowIn
import Derived.Test.YtkhcanhdbalihaaNum2
import Derived.Maps.AppendAt
namespace Go.Proofs.Ytkhcanhdbalihaa
open Go.RowKit Lb

/-- The slice leads to no block g. -/
def Off (g : Nat) (ao : Option Addr) (len : Nat) : Prop := 0 < len → ∃ b off, ao = some ⟨b, off, none⟩ ∧ b ≠ g
theorem off_old {w : World} {ao : Option Addr} {len cap g : Nat} {xs : List Nat} (h : RowAt w ao len cap xs) (hg : w.heap.size ≤ g) : Off g ao len := fun hp => by
  obtain ⟨b, off, e, hlt, _⟩ := h.cells hp
  exact ⟨b, off, e, by omega⟩
theorem off_new {g B : Nat} {ao : Option Addr} {len : Nat} (h : New B ao len) (hg : g < B) : Off g ao len := fun hp => by
  obtain ⟨b, off, e, hlt⟩ := h hp
  exact ⟨b, off, e, by omega⟩
/-- Only block g has changed (and new ones may have been made). -/
def Only (g : Nat) (w w' : World) : Prop := w.grownBy w' (some g)
theorem Only.refl (g : Nat) (w : World) : Only g w w := World.grownBy.refl _ _
theorem Only.then {g : Nat} {a b c : World} (h : Only g a b) (k : Only g b c) : Only g a c := World.grownBy.trans h k
theorem Only.setCell {g : Nat} {a b : World} (h : Only g a b) (j : Nat) (u : Value) : Only g a (b.setCell ⟨g, j, none⟩ u) :=
  h.then ⟨rfl, rfl, rfl, by simp [World.setCell], fun k _ hk => Below.heap_setCell _ _ _ _ (fun e => hk (by simp [e]))⟩
/-- A store into a block made since. -/
theorem Only.above {g g' : Nat} {a b : World} (h : Only g a b) (hg : a.heap.size ≤ g') (j : Nat) (u : Value) : Only g a (b.setCell ⟨g', j, none⟩ u) :=
  ⟨h.os, h.tape, h.output, Nat.le_trans h.size (by simp [World.setCell]), fun k hk hne => (Below.heap_setCell _ _ _ _ (by simp; omega)).trans (h.block k hk hne)⟩
theorem Only.drewN {g : Nat} {a b : World} (h : Only g a b) (n : Nat) : Only g a (b.drewN n) := h.then ⟨rfl, rfl, rfl, Nat.le_refl _, fun _ _ _ => rfl⟩
theorem Only.below {g : Nat} {a b : World} (h : Below a.heap.size a b) : Only g a b := ⟨h.os, h.tape, h.output, h.size, fun k hk _ => h.block k hk⟩
theorem Below.only {B g : Nat} {a w w' : World} (h : Below B a w) (ho : Only g w w') (hB : B ≤ w.heap.size) (hg : B ≤ g) : Below B a w' := h.grown ho hB (fun k e => by simp at e; omega)
theorem RowAt.only {w w' : World} {ao : Option Addr} {len cap g : Nat} {xs : List Nat} (h : RowAt w ao len cap xs) (hn : Off g ao len) (ho : Only g w w') : RowAt w' ao len cap xs := by
  refine ⟨h.len_eq, h.cap_le, h.cap_max, h.nil_cap, h.small, fun hp => ?_⟩
  obtain ⟨b, off, e, hlt, hc⟩ := h.cells hp
  obtain ⟨b', off', e', hb⟩ := hn hp
  rw [e] at e'
  simp only [Option.some.injEq, Addr.mk.injEq, and_true] at e'
  obtain ⟨rfl, rfl⟩ := e'
  exact ⟨b, off, e, Nat.lt_of_lt_of_le hlt ho.size, fun i hi => ho.cell (hc i hi) (by simpa using hb)⟩
theorem NumAt.only {w w' : World} {ao : Option Addr} {len cap g N : Nat} (h : NumAt w ao len cap N) (hn : Off g ao len) (ho : Only g w w') : NumAt w' ao len cap N := by
  obtain ⟨xs, h1, h2⟩ := h
  exact ⟨xs, h1.only hn ho, h2⟩
theorem Own.only {w w' : World} {base n cap g g' : Nat} {xs : List Nat} (h : Own w base (.slice (some ⟨g', 0, none⟩) n cap) n xs) (hne : g' ≠ g) (ho : Only g w w') : Own w' base (.slice (some ⟨g', 0, none⟩) n cap) n xs :=
  World.ownsRow.kept h ho (Or.inr (by simpa [Value.ownBlock] using hne))
theorem Own.lt {w : World} {base g n cap : Nat} {xs : List Nat} (h : Own w base (.slice (some ⟨g, 0, none⟩) n cap) n xs) : g < w.heap.size := (World.ownsRow.lt h g rfl).2
theorem Own.cap {w : World} {base g n cap : Nat} {xs : List Nat} (h : Own w base (.slice (some ⟨g, 0, none⟩) n cap) n xs) : n ≤ cap ∧ cap ≤ maxLen := by
  rcases h.2 with ⟨h', _⟩ | ⟨g', cap', cur, h', hb, hg, h1, h2, _⟩
  · simp at h'
  · simp only [Value.slice.injEq, Option.some.injEq, Addr.mk.injEq, and_true, true_and] at h'
    obtain ⟨rfl, rfl⟩ := h'
    exact ⟨h1, h2⟩
/-- The part of an owned row from o on, of m limbs. -/
theorem Own.part {w : World} {base g n cap : Nat} {xs : List Nat} (h : Own w base (.slice (some ⟨g, 0, none⟩) n cap) n xs) (hs : Small xs) {o m c : Nat} (hm : 0 < m) (hfit : o + m ≤ n) (hc : m ≤ c) (hc2 : c ≤ maxLen) : RowAt w (some ⟨g, o, none⟩) m c ((xs.drop o).take m) := by
  have hl := h.len
  refine ⟨by simp; omega, hc, hc2, fun e => by simp at e, small_take (small_drop hs o) m, fun _ => ⟨g, o, rfl, h.lt, fun i hi => ?_⟩⟩
  rw [lim_take, if_pos hi, lim_drop]
  exact h.cell (by omega)
theorem val_part (xs : List Nat) {o m : Nat} (hfit : o + m ≤ xs.length) : pre xs (o + m) = pre xs o + val ((xs.drop o).take m) * Bp o := by
  have hl : ((xs.drop o).take m).length = m := by simp; omega
  have : ∀ k, k ≤ m → pre xs (o + k) = pre xs o + pre ((xs.drop o).take m) k * Bp o := by
    intro k
    induction k with
    | zero => intro _; rw [pre_zero, Nat.zero_mul]; rfl
    | succ k ih =>
      intro hk
      rw [show o + (k + 1) = o + k + 1 by omega, pre_succ, ih (by omega), pre_succ, lim_take, if_pos (by omega), lim_drop, Nat.add_mul, Bp_add, Nat.mul_assoc, Nat.mul_comm (Bp k)]
      omega
  rw [this m (Nat.le_refl _)]
  unfold val
  rw [hl]
/-- copy(own row, a row of no more limbs). -/
theorem copy_part {w : World} {ops : Array Oper} {rest : List Oper} {o : Oper} {a : Act} {Q : Exit → Act → World → Prop} (hgd : o.guard = none) (d s : Operand)
    (ho : o.op = .call { callee := .builtin .copy, args := #[d, s], argTypes := #[22, 22] }) (base g n cap : Nat) (zs ys : List Nat) (hd : a.eval d = .slice (some ⟨g, 0, none⟩) n cap) (hown : Own w base (.slice (some ⟨g, 0, none⟩) n cap) n zs)
    (ao : Option Addr) (m c : Nat) (hs : a.eval s = .slice ao m c) (hrow : RowAt w ao m c ys) (hm : m ≤ n)
    (h : ∀ w', Own w' base (.slice (some ⟨g, 0, none⟩) n cap) n (ys ++ zs.drop m) → w.grownBy w' (some g) → wpList Try.prog ops Q rest (a.put o.dst (goInt (ys.map lv).length)) w') : wpList Try.prog ops Q (o :: rest) a w := by
  obtain ⟨i0, hi, hz0, hz1, hz2⟩ := info_parts info_u32
  have hl := hrow.len_eq
  have hzl := hown.len
  rcases Nat.eq_zero_or_pos m with e | hp
  · obtain rfl : ys = [] := List.eq_nil_of_length_eq_zero (by omega)
    subst e
    refine wpList_copy_nothing hgd d s _ _ ho 31 Try.underlying22 (by rw [hi]; simp [hz1]) _ _ _ _ _ _ hd hs (by simp) ?_
    exact h w (by simpa using hown) (World.grownBy.refl _ _)
  · obtain ⟨b, off, rfl, hb, hc⟩ := hrow.cells hp
    rcases hown.2 with ⟨h', _⟩ | ⟨g', cap', cur, h', hbg, hg, hnc, hcm, hcs, htake⟩
    · simp at h'
    · simp only [Value.slice.injEq, Option.some.injEq, Addr.mk.injEq, and_true, true_and] at h'
      obtain ⟨rfl, rfl⟩ := h'
      refine wpList_copy_own hgd d s _ _ ho 31 Try.underlying22 (by rw [hi]; simp [hz1]) g 0 n cap ⟨b, off, none⟩ m c hd hs cur 31 hg (ys.map lv) (by rw [List.length_map, hl]; exact (Nat.min_eq_left hm).symm) ?_ (by simp [hl]; omega) ?_ ?_
      · intro j v hj
        have hjl : j < m := by
          have := (List.getElem?_eq_some_iff.1 hj).1
          simpa [hl] using this
        rw [Addr.add_lit, hc j hjl, ← hj]
        simp [lim, lv, show j < ys.length by omega]
      · intro u hu
        obtain ⟨_, _, rfl⟩ := List.mem_map.1 hu
        rfl
      · refine h _ ⟨by simp [hl, hzl]; omega, Or.inr ⟨g, cap, _, rfl, hbg, setRow_heap w g cur _ 31 _ hg, hnc, hcm, ?_, ?_⟩⟩ ⟨rfl, rfl, rfl, by simp [World.setRow], fun k _ hk => setRow_other w g k _ (fun e => hk (by simp [e]))⟩
        · simp [hl]; omega
        · have e1 : (cur.toList.drop m).take (n - m) = (zs.drop m).map lv := by
            rw [List.map_drop, ← htake, Nat.mul_one, List.drop_take]
          simp [hl, List.take_append]
          rw [List.take_of_length_le (by simp [hl]; omega), e1, List.map_drop]
#print axioms copy_part
#print axioms Own.part
#print axioms val_part
end Go.Proofs.Ytkhcanhdbalihaa
