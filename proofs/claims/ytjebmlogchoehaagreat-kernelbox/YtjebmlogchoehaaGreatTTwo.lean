/-
  Two own rows side by side: where append leaves the one that it writes, and that the other stays.
-/
import Derived.Test.YtjebmlogchoehaaGreatTBeside
namespace Go.Proofs.YtjebmlogchoehaaGreat
open Go.RowKit Lb
set_option maxRecDepth 20000

/-- Own rows stay while another block of slices is written. -/
theorem MOwn.other {R : World → Option Addr → Nat → Nat → List Int → Prop} (hR : SteadyV R) {w w' : World} {base : Nat} {ao : Option Addr} {n cap : Nat} {rs : List (List Int)} {row : Option Nat} (h : MOwn R w base ao n cap rs) (hg : w.grownBy w' row) (hs : OnlySl w row) (hne : (Value.slice ao n cap).ownBlock = none ∨ (Value.slice ao n cap).ownBlock ≠ row) : MOwn R w' base ao n cap rs := by
  obtain ⟨⟨vs, hrow, hall⟩, hl⟩ := h
  exact ⟨⟨vs, hrow.grown hg hne, fun i v hv => hR (hall i v hv) hg hs⟩, hl⟩
/-- append(own rows, one row or more...): they stay in their block, or lie in a new one. -/
theorem run_append_at {R : World → Option Addr → Nat → Nat → List Int → Prop} (hR : SteadyV R) (t ty : TypeId) (ht : Tryz.prog.underlying t = some (.slice 24)) (w : World) (base : Nat) (ao : Option Addr) (n cap : Nat) (rs : List (List Int)) (hown : MOwn R w base ao n cap rs) (as' : Option Addr) (m c' : Nat) (ss : List (List Int)) (hsrc : RowsOf R w as' m c' ss) (hm : 0 < m) (hn : n + m ≤ 1000000) (hbase : base ≤ w.heap.size) :
    ∃ ao' cap' w', (Builtin.append_ #[t, t] ty #[.slice ao n cap, .slice as' m c']).run Tryz.prog w = .ok (.slice ao' (n + m) cap') w' ∧ MOwn R w' base ao' (n + m) cap' (rs ++ ss) ∧ w.grownBy w' (Value.slice ao n cap).ownBlock ∧ ((Value.slice ao' (n + m) cap').ownBlock = (Value.slice ao n cap).ownBlock ∨ (Value.slice ao' (n + m) cap').ownBlock = some w.heap.size) := by
  obtain ⟨i0, hi, hz0, hz1, hz2⟩ := info_parts info_vec
  have hos := hown.onlySl
  obtain ⟨us, hul, hur, huc⟩ := hsrc.list
  obtain ⟨⟨vs, hrow, hall⟩, hl⟩ := hown
  have hvl := hrow.len
  rw [List.length_map, Nat.mul_one] at hvl
  have hsl := hsrc.len_eq
  obtain ⟨g, off, rfl, hg, hcell⟩ := huc (by omega)
  obtain ⟨v', w', hrun, hrow', hgr, hat⟩ := run_append_P (p := isSl) w base t ty 24 i0 (.slice none 0 0) 1 24 ht hi hz0 hz1 hz2 rfl (by decide) sl_zero _ n _ hrow ⟨g, off, none⟩ m c' (us.map sv) (by rw [List.length_map]; omega) (sl_at hcell) (sl_one us) (sl_all us) (by unfold maxLen; omega) (by omega) hbase
  rw [← List.map_append] at hrow'
  rcases hrow'.form with ⟨_, h⟩ | ⟨g', cap', rfl, _⟩
  · omega
  · refine ⟨_, _, w', hrun, ⟨⟨vs ++ us, hrow', ?_⟩, by rw [List.length_append]; omega⟩, hgr, hat⟩
    exact both_lists (by omega) (fun i v hv => hR (hall i v hv) hgr hos) (fun i v hv => hR (hur i v hv) hgr hos)
theorem append_at {R : World → Option Addr → Nat → Nat → List Int → Prop} (hR : SteadyV R) {w : World} {ops : Array Oper} {rest : List Oper} {o : Oper} {a : Act} {Q : Exit → Act → World → Prop} (hgd : o.guard = none) (s x : Operand) (t : TypeId) (ht : Tryz.prog.underlying t = some (.slice 24))
    (ho : o.op = .call { callee := .builtin .append, args := #[s, x], argTypes := #[t, t] }) (base : Nat) (ao : Option Addr) (n cap : Nat) (rs : List (List Int)) (hs : a.eval s = .slice ao n cap) (hown : MOwn R w base ao n cap rs) (as' : Option Addr) (m c' : Nat) (ss : List (List Int)) (hx : a.eval x = .slice as' m c') (hsrc : RowsOf R w as' m c' ss) (hm : 0 < m) (hn : n + m ≤ 1000000) (hbase : base ≤ w.heap.size)
    (h : ∀ ao' cap' w', MOwn R w' base ao' (n + m) cap' (rs ++ ss) → w.grownBy w' (Value.slice ao n cap).ownBlock → ((Value.slice ao' (n + m) cap').ownBlock = (Value.slice ao n cap).ownBlock ∨ (Value.slice ao' (n + m) cap').ownBlock = some w.heap.size) → wpList Tryz.prog ops Q rest (a.put o.dst (.slice ao' (n + m) cap')) w') : wpList Tryz.prog ops Q (o :: rest) a w := by
  refine wpList_plain hgd fun K hK => ?_
  obtain ⟨ao', cap', w', hrun, h1, h2, h3⟩ := run_append_at @hR t o.type ht w base ao n cap rs hown as' m c' ss hsrc hm hn hbase
  unfold Oper.wp
  simp [execOp, ho, resolve, invoke, builtin, hs, hx, hrun, Result.andThen]
  exact hK _ _ (h ao' cap' w' h1 h2 h3)

#print axioms append_at
#print axioms MOwn.other
end Go.Proofs.YtjebmlogchoehaaGreat
