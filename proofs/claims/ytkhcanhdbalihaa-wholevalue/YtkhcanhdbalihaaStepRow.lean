/-
  append(own row, a row ..) and append(own row, make([]uint32, k)...) as steps of a region that draws its order; boxes of Ints beside rows that the call itself makes.
-/
import Derived.Test.YtkhcanhdbalihaaRowZeros
import Derived.Test.YtkhcanhdbalihaaInts
import Derived.Lib.SmallJoins
namespace Go.Proofs.Ytkhcanhdbalihaa
open Go.RowKit Lb

theorem run_append_row (w : World) (ty : TypeId) (base : Nat) (v : Value) (n : Nat) (xs : List Nat) (hown : Own w base v n xs) (ao : Option Addr) (m c : Nat) (ys : List Nat) (hrow : RowAt w ao m c ys) (hb : n + m ≤ 1000000000) (hbase : base ≤ w.heap.size) :
    ∃ v' w', (Builtin.append_ #[22, 22] ty #[v, .slice ao m c]).run Try.prog w = .ok v' w' ∧ Own w' base v' (n + m) (xs ++ ys) ∧ w.grownBy w' v.ownBlock := by
  obtain ⟨i0, hi, hz0, hz1, hz2⟩ := info_parts info_u32
  have hl := hrow.len_eq
  cases ao with
  | none =>
    have hc := hrow.nil_cap rfl
    have hcl := hrow.cap_le
    obtain rfl : c = 0 := hc
    obtain rfl : m = 0 := by omega
    obtain rfl := List.eq_nil_of_length_eq_zero hl
    exact ⟨v, w, run_append_owned_none (P := Try.prog) (w := w) base 22 ty 31 i0 1 Try.underlying22 hi v n (xs.map lv) hown, by rw [List.append_nil]; exact hown, World.grownBy.refl _ _⟩
  | some ad =>
    obtain ⟨v', w', h1, h2, h3, _⟩ := run_append_own (P := Try.prog) w base 22 ty 31 i0 (.int .u32 0) 1 4 Try.underlying22 hi hz0 hz1 hz2 rfl (by decide) v n (xs.map lv) hown ad m c (ys.map lv) (by simp [hl]) (by
      intro j u hj
      have hjl : j < m := by
        have := (List.getElem?_eq_some_iff.1 hj).1
        simpa [hl] using this
      obtain ⟨b, off, e, _, hc⟩ := hrow.cells (by omega)
      obtain rfl := Option.some.inj e
      rw [Addr.add_lit, hc j hjl]
      rw [← hj]
      simp [lim, lv, show j < ys.length by omega]) (by
      intro u hu
      obtain ⟨_, _, rfl⟩ := List.mem_map.1 hu
      rfl) (by unfold maxLen; omega) (by omega) hbase
    rw [← List.map_append] at h2
    exact ⟨v', w', h1, h2, h3⟩

theorem step_row {w : World} {ops : Array Oper} {o : Oper} {a : Act} {K : Act → World → Prop} {Q : Exit → Act → World → Prop} {E : Prop} (hgd : o.guard = none) (s x : Operand)
    (ho : o.op = .call { callee := .builtin .append, args := #[s, x], argTypes := #[22, 22] }) (base : Nat) (v : Value) (n : Nat) (xs : List Nat) (hs : a.eval s = v) (hown : Own w base v n xs)
    (ao : Option Addr) (m c : Nat) (ys : List Nat) (hx : a.eval x = .slice ao m c) (hrow : RowAt w ao m c ys) (hb : n + m ≤ 1000000000) (hbase : base ≤ w.heap.size)
    (h : ∀ v' w', Own w' base v' (n + m) (xs ++ ys) → w.grownBy w' v.ownBlock → K (a.put o.dst v') w') : if Region.wanted o (yielded ops a.tmps) = true then Oper.wp Try.prog o a w K Q else E := by
  have hw : Region.wanted o (yielded ops a.tmps) = true := by simp [Region.wanted, hgd]
  rw [if_pos hw]
  obtain ⟨v', w', hrun, h1, h2⟩ := run_append_row w o.type base v n xs hown ao m c ys hrow hb hbase
  unfold Oper.wp
  simp [execOp, ho, resolve, invoke, builtin, hs, hx, hrun, Result.andThen]
  exact h v' w' h1 h2
theorem step_zeros {w : World} {ops : Array Oper} {o : Oper} {a : Act} {K : Act → World → Prop} {Q : Exit → Act → World → Prop} {E : Prop} (hgd : o.guard = none) (s x : Operand) (tn : TypeId)
    (ho : o.op = .call { callee := .builtin .append, args := #[s, x], argTypes := #[22, tn] }) (kn kq : IntKind) (htn : Try.prog.underlying tn = some (.int kn)) (base : Nat) (v : Value) (n : Nat) (xs : List Nat) (hs : a.eval s = v) (hown : Own w base v n xs)
    (I : Int) (k : Nat) (hx : a.eval x = .int kq I) (hI : I = (k : Int)) (hn : n ≤ 1000000) (hk : k ≤ 1000000) (hbase : base ≤ w.heap.size)
    (h : ∀ v' w', Own w' base v' (n + k) (xs ++ List.replicate k 0) → w.grownBy w' v.ownBlock → K (a.put o.dst v') w') : if Region.wanted o (yielded ops a.tmps) = true then Oper.wp Try.prog o a w K Q else E := by
  subst hI
  have hw : Region.wanted o (yielded ops a.tmps) = true := by simp [Region.wanted, hgd]
  rw [if_pos hw]
  obtain ⟨v', w', hrun, h1, h2⟩ := run_append_zeros w tn o.type kn kq htn base v n xs hown k hn hk hbase
  unfold Oper.wp
  simp [execOp, ho, resolve, invoke, builtin, hs, hx, hrun, Result.andThen]
  exact h v' w' h1 h2

theorem Box.grown {w w' : World} {g : Nat} {b : Bool} {ao : Option Addr} {len cap : Nat} {row : Option Nat} (h : Box w g b ao len cap) (hg : w.grownBy w' row) (hr : row ≠ some g) : Box w' g b ao len cap := by
  unfold Box at *
  rw [hg.block g (lt_of_block h) (fun e => hr e.symm)]; exact h
theorem own_ne_box {w : World} {base n : Nat} {v : Value} {xs : List Nat} {g : Nat} {b : Bool} {ao : Option Addr} {len cap : Nat} (h : Own w base v n xs) (hB : Box w g b ao len cap) : v.ownBlock ≠ some g := by
  intro e
  rcases h.2 with ⟨h', _⟩ | ⟨g', cap', cur, h', _, hh, _⟩
  · subst h'; simp [Value.ownBlock] at e
  · subst h'
    simp [Value.ownBlock] at e
    subst e
    unfold Box at hB
    rw [hB] at hh
    simp at hh
theorem box_set {w : World} {g : Nat} {b b' : Bool} {ao ao' : Option Addr} {len cap len' cap' : Nat} (h : Box w g b ao len cap) : Box ((w.setCell ⟨g, 0, none⟩ (.bool b')).setCell ⟨g, 1, none⟩ (.slice ao' len' cap')) g b' ao' len' cap' := by
  unfold Box at *
  rw [Joins.block_setCell (Joins.block_setCell h _) _]
  simp
theorem Below.own {w w1 w2 : World} {base n : Nat} {v : Value} {xs : List Nat} (hb : Below base w w1) (hown : Own w1 base v n xs) (hg : w1.grownBy w2 v.ownBlock) (hB : base ≤ w1.heap.size) : Below base w w2 := hb.grown hg hB (hown.block_ge)

#print axioms step_row
#print axioms step_zeros
#print axioms own_ne_box
#print axioms box_set
end Go.Proofs.Ytkhcanhdbalihaa
