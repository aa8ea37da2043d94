/-
  Rows of vectors in their forms that the call itself made ('MO'): append of one row, what stood ahead of it stays; the literal without rows.
-/
import Derived.Test.YtbdjkbonoofibaaROne
namespace Go.Proofs.Ytbdjkbonoofibaa
open Go.RowKit Lb
set_option maxRecDepth 20000

/-- Rows of vectors in their forms, below k limbs, that the call itself made. -/
def MO (w : World) (base : Nat) (ao : Option Addr) (n cap : Nat) (rs : List (List Int)) (k : Nat) : Prop := MOwn (fun w a l c zs => VF w a l c zs k) w base ao n cap rs
theorem MO.later {w w' : World} {base : Nat} {ao : Option Addr} {n cap k : Nat} {rs : List (List Int)} (h : MO w base ao n cap rs k) (hb : Below w.heap.size w w') : MO w' base ao n cap rs k := MOwn.later (R := fun w a l c zs => VF w a l c zs k) (fun h hb => VF.later h hb) h hb
theorem MO.mf {w : World} {base : Nat} {ao : Option Addr} {n cap k : Nat} {rs : List (List Int)} (h : MO w base ao n cap rs k) : MF w ao n cap rs k := MOwn.rows (R := fun w a l c zs => VF w a l c zs k) h
theorem MO.len {w : World} {base : Nat} {ao : Option Addr} {n cap k : Nat} {rs : List (List Int)} (h : MO w base ao n cap rs k) : rs.length = n := MOwn.len (R := fun w a l c zs => VF w a l c zs k) h
theorem MO.ge {w : World} {base : Nat} {ao : Option Addr} {n cap k : Nat} {rs : List (List Int)} (h : MO w base ao n cap rs k) : ∀ g, (Value.slice ao n cap).ownBlock = some g → base ≤ g := MOwn.ge (R := fun w a l c zs => VF w a l c zs k) h
theorem mo_nil (w : World) (base k : Nat) : MO w base none 0 0 [] k := mOwn_nil _ w base
theorem MOwn.lower {R : World → Option Addr → Nat → Nat → List Int → Prop} {w : World} {base b : Nat} {ao : Option Addr} {n cap : Nat} {rs : List (List Int)} (h : MOwn R w base ao n cap rs) (hb : b ≤ base) : MOwn R w b ao n cap rs := by
  obtain ⟨⟨vs, hrow, hall⟩, hl⟩ := h
  refine ⟨⟨vs, ⟨⟨hrow.own.1, ?_⟩, hrow.all⟩, hall⟩, hl⟩
  rcases hrow.own.2 with h | ⟨g, c, cur, h1, h2, h3⟩
  · exact Or.inl h
  · exact Or.inr ⟨g, c, cur, h1, Nat.le_trans hb h2, h3⟩
theorem MO.lower {w : World} {base b : Nat} {ao : Option Addr} {n cap k : Nat} {rs : List (List Int)} (h : MO w base ao n cap rs k) (hb : b ≤ base) : MO w b ao n cap rs k := MOwn.lower (R := fun w a l c zs => VF w a l c zs k) h hb
/-- One row that was just built. -/
theorem mf_one {w : World} {a : Option Addr} {l c k : Nat} {zs : List Int} (h : VF w a l c zs k) : MF (w.alloc (.cells #[.slice a l c] 24)) (some ⟨w.heap.size, 0, none⟩) 1 1 [zs] k := by
  refine rowsOf_new (R := fun w a l c zs => VF w a l c zs k) (vs := [(a, l, c)]) rfl rfl rfl (by simp) fun i a' l' c' e => ?_
  match i with
  | 0 =>
    simp at e
    obtain ⟨rfl, rfl, rfl⟩ := e
    exact h.later (below_new w _)
set_option maxHeartbeats 1000000 in
/-- What stood in the own row's block ahead of its end stays there. -/
theorem run_append_kept {R : World → Option Addr → Nat → Nat → List Int → Prop} (hR : SteadyV R) (t ty : TypeId) (ht : Try.prog.underlying t = some (.slice 24)) (w : World) (base : Nat) (ao : Option Addr) (n cap : Nat) (rs : List (List Int)) (hown : MOwn R w base ao n cap rs) (as' : Option Addr) (m c' : Nat) (ss : List (List Int)) (hsrc : RowsOf R w as' m c' ss) (hm : 0 < m) (hn : n + m ≤ 1000000) (hbase : base ≤ w.heap.size) :
    ∃ ao' cap' w', (Builtin.append_ #[t, t] ty #[.slice ao n cap, .slice as' m c']).run Try.prog w = .ok (.slice ao' (n + m) cap') w' ∧ MOwn R w' base ao' (n + m) cap' (rs ++ ss) ∧ w.grownBy w' (Value.slice ao n cap).ownBlock ∧ ∀ g j, ao = some ⟨g, 0, none⟩ → j < n → w'.cell? ⟨g, j, none⟩ = w.cell? ⟨g, j, none⟩ := by
  obtain ⟨ao', cap', w', hrun, hown', hgr⟩ := run_append_rows @hR t ty ht w base ao n cap rs hown as' m c' ss hsrc hn hbase
  refine ⟨ao', cap', w', hrun, hown', hgr, fun g j eg hj => ?_⟩
  obtain ⟨i0, hi, hz0, hz1, hz2⟩ := info_parts info_vec
  obtain ⟨us, hul, hur, huc⟩ := hsrc.list
  obtain ⟨⟨vs, hrow, hall⟩, hl⟩ := hown
  have hvl := hrow.len
  rw [List.length_map, Nat.mul_one] at hvl
  obtain ⟨gs, off, rfl, hgs, hcell⟩ := huc hm
  rcases hrow.own.2 with ⟨e, e0⟩ | ⟨g0, cap0, cur, e, hbg, hg0, hnc, hcm, hcu, htake⟩
  · omega
  simp only [Value.slice.injEq, true_and] at e
  obtain ⟨e, rfl⟩ := e
  rw [e] at eg
  simp only [Option.some.injEq, Addr.mk.injEq, and_true] at eg
  subst eg
  subst e
  have hglt : g0 < w.heap.size := by
    rcases Nat.lt_or_ge g0 w.heap.size with c | c
    · exact c
    · simp [Array.getElem?_eq_none c] at hg0
  by_cases hroom : n + m ≤ cap
  · have hr := run_append_room (P := Try.prog) w t ty 24 i0 ht hi g0 n cap cur hg0 ⟨gs, off, none⟩ m c' (us.map sv) (by rw [List.length_map, hz1]; omega) (sl_at hcell) (sl_one us) hroom (by rw [hz1, List.length_map, hcu, Nat.mul_one]; omega)
    rw [hr] at hrun
    injection hrun with e1 e2
    subst e2
    have hlt : j < cur.size := by rw [hcu]; omega
    rw [hz1, Nat.mul_one]
    simp only [World.cell?, World.setRow, Array.getElem?_modify, if_pos, hg0]
    simp only [Option.map_some, Option.isSome_none, Bool.false_eq_true, if_false]
    rw [List.getElem?_toArray, List.append_assoc, List.getElem?_append_left (by rw [List.length_take]; simp; omega), List.getElem?_take, if_pos hj, Array.getElem?_toList]
  · have hr := run_append_grow (P := Try.prog) w t ty 24 i0 (.slice none 0 0) ht hi hz0 ⟨g0, 0, none⟩ n cap (vs.map sv) (by rw [List.length_map, hz1]; omega) (hrow.own.cells (g := g0) rfl) ⟨gs, off, none⟩ m c' (us.map sv) (by rw [List.length_map, hz1]; omega) (sl_at hcell) (by omega) (by omega) (growslice_fits (by omega) (by rw [hz2]; omega))
    rw [hr] at hrun
    injection hrun with e1 e2
    subst e2
    exact (((Below.refl w.heap.size w).drew).alloc (Nat.le_refl _) _).cell (p := ⟨g0, j, none⟩) hglt
theorem append_kept {R : World → Option Addr → Nat → Nat → List Int → Prop} (hR : SteadyV R) {w : World} {ops : Array Oper} {rest : List Oper} {o : Oper} {a : Act} {Q : Exit → Act → World → Prop} (hgd : o.guard = none) (s x : Operand) (t : TypeId) (ht : Try.prog.underlying t = some (.slice 24))
    (ho : o.op = .call { callee := .builtin .append, args := #[s, x], argTypes := #[t, t] }) (base : Nat) (ao : Option Addr) (n cap : Nat) (rs : List (List Int)) (hs : a.eval s = .slice ao n cap) (hown : MOwn R w base ao n cap rs) (as' : Option Addr) (m c' : Nat) (ss : List (List Int)) (hx : a.eval x = .slice as' m c') (hsrc : RowsOf R w as' m c' ss) (hm : 0 < m) (hn : n + m ≤ 1000000) (hbase : base ≤ w.heap.size)
    (h : ∀ ao' cap' w', MOwn R w' base ao' (n + m) cap' (rs ++ ss) → w.grownBy w' (Value.slice ao n cap).ownBlock → (∀ g j, ao = some ⟨g, 0, none⟩ → j < n → w'.cell? ⟨g, j, none⟩ = w.cell? ⟨g, j, none⟩) → wpList Try.prog ops Q rest (a.put o.dst (.slice ao' (n + m) cap')) w') : wpList Try.prog ops Q (o :: rest) a w := by
  refine wpList_plain hgd fun K hK => ?_
  obtain ⟨ao', cap', w', hrun, h1, h2, h3⟩ := run_append_kept @hR t o.type ht w base ao n cap rs hown as' m c' ss hsrc hm hn hbase
  unfold Oper.wp
  simp [execOp, ho, resolve, invoke, builtin, hs, hx, hrun, Result.andThen]
  exact hK _ _ (h ao' cap' w' h1 h2 h3)
/-- Rows that lie at the head of own rows' block, or elsewhere, go on reading while those are appended to. -/
theorem RowsOf.beside {R : World → Option Addr → Nat → Nat → List Int → Prop} (hR : SteadyV R) {w w' : World} {base g0 m0 c0 : Nat} {hs : List (List Int)} (h : RowsOf R w (some ⟨g0, 0, none⟩) m0 c0 hs) {ao : Option Addr} {n cap : Nat} {rs : List (List Int)} (hown : MOwn R w base ao n cap rs) (hle : m0 ≤ n) (hgr : w.grownBy w' (Value.slice ao n cap).ownBlock) (hk : ∀ g j, ao = some ⟨g, 0, none⟩ → j < n → w'.cell? ⟨g, j, none⟩ = w.cell? ⟨g, j, none⟩) : RowsOf R w' (some ⟨g0, 0, none⟩) m0 c0 hs := by
  have hos := hown.onlySl
  refine ⟨h.len_eq, h.cap_le, h.cap_max, h.nil_cap, fun hp => ?_⟩
  obtain ⟨g, off, e, hg, hc⟩ := h.elts hp
  simp only [Option.some.injEq, Addr.mk.injEq, and_true] at e
  obtain ⟨rfl, rfl⟩ := e
  refine ⟨g0, 0, rfl, Nat.lt_of_lt_of_le hg hgr.size, fun i hi => ?_⟩
  obtain ⟨a, l, c, h1, h2⟩ := hc i hi
  refine ⟨a, l, c, ?_, hR h2 hgr hos⟩
  rw [← h1]
  rw [Nat.zero_add]
  by_cases e : ao = some ⟨g0, 0, none⟩
  · exact hk g0 i e (by omega)
  · have hb := hgr.block g0 hg (by
      obtain ⟨⟨vs, hrow, _⟩, _⟩ := hown
      rcases hrow.own.2 with ⟨e1, _⟩ | ⟨g1, c1, cur, e1, _⟩
      · rw [e1]; simp [Value.ownBlock]
      · simp only [Value.slice.injEq, true_and] at e1
        rw [e1.1] at e ⊢
        simp only [Value.ownBlock]
        intro e2
        apply e
        simp only [Option.some.injEq] at e2
        rw [e2])
    simp only [World.cell?, hb]
/-- The literal without rows. -/
theorem mo_empty {w : World} {base n k : Nat} (hn : n = w.heap.size) (hb : base ≤ w.heap.size) : MO (w.alloc (.cells #[] 24)) base (some ⟨n, 0, none⟩) 0 0 [] k := by
  subst hn
  refine ⟨⟨[], ⟨World.ownsRow_lit (size := 1) w #[] 0 hb (by unfold maxLen; omega) rfl, fun g hg j u hc => ?_⟩, fun i v h => by simp at h⟩, rfl⟩
  simp only [Value.ownBlock, Option.some.injEq] at hg
  subst hg
  simp at hc
theorem steadyMO (k : Nat) : SteadyV (fun w a l c zs => VF w a l c zs k) := steadyV_vf k

#print axioms append_kept
#print axioms RowsOf.beside
#print axioms mo_empty
end Go.Proofs.Ytbdjkbonoofibaa
