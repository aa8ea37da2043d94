/-
  What a slice of limbs reads as in a world ('RowAt'), and that it goes on reading so while nothing that was there is written.
-/
import Derived.Test.YtkhcanhdbalihaaNum
import Derived.Test.YtkhcanhdbalihaaProg
import Derived.WalkKit
import Derived.WalkSpells
import Derived.WalkLawsBesides
import Derived.Laws.AppendOwnNone
import Derived.Laws.CopyOwn
namespace Go.Proofs.Ytkhcanhdbalihaa
open Go.RowKit Lb

/-- A fact kept from the walk, and given back. -/
theorem hide {p : Prop} (h : p) : Hid p := h
theorem unhide {p : Prop} (h : Hid p) : p := h
theorem ret_int {k : IntKind} {a b : Int} (h : a = b) : Ending.returned (.int k a) = .returned (.int k b) := by rw [h]
/-- A limb as a value. -/
def lv (x : Nat) : Value := .int .u32 (x : Int)
theorem map_set_lv (xs : List Nat) (j v : Nat) {e : Int} (h : e = (v : Int)) : (xs.map lv).set j (.int .u32 e) = (xs.set j v).map lv := by
  rw [List.map_set, h]; rfl
theorem map_snoc_lv (xs : List Nat) (v : Nat) {e : Int} (h : e = (v : Int)) : xs.map lv ++ [.int .u32 e] = (xs ++ [v]).map lv := by
  rw [List.map_append, h]; rfl

/-- The slice reads as the limbs xs. -/
structure RowAt (w : World) (ao : Option Addr) (len cap : Nat) (xs : List Nat) : Prop where
  len_eq : xs.length = len
  cap_le : len ≤ cap
  cap_max : cap ≤ maxLen
  nil_cap : ao = none → cap = 0
  small : Small xs
  cells : 0 < len → ∃ b off, ao = some ⟨b, off, none⟩ ∧ b < w.heap.size ∧ ∀ i, i < len → w.cell? ⟨b, off + i, none⟩ = some (.int .u32 (lim xs i : Int))

/-- The slice reads as the number N, with no nought at its end. -/
def NumAt (w : World) (ao : Option Addr) (len cap : Nat) (N : Nat) : Prop := ∃ xs, RowAt w ao len cap xs ∧ Norm xs ∧ val xs = N

theorem RowAt.later {w w' : World} {ao : Option Addr} {len cap : Nat} {xs : List Nat} (h : RowAt w ao len cap xs) (hb : Below w.heap.size w w') : RowAt w' ao len cap xs := by
  refine ⟨h.len_eq, h.cap_le, h.cap_max, h.nil_cap, h.small, fun hp => ?_⟩
  obtain ⟨b, off, e, hlt, hc⟩ := h.cells hp
  exact ⟨b, off, e, Nat.lt_of_lt_of_le hlt hb.size, fun i hi => (hb.cell (p := ⟨b, off + i, none⟩) hlt).trans (hc i hi)⟩
theorem NumAt.later {w w' : World} {ao : Option Addr} {len cap N : Nat} (h : NumAt w ao len cap N) (hb : Below w.heap.size w w') : NumAt w' ao len cap N := by
  obtain ⟨xs, h1, h2⟩ := h
  exact ⟨xs, h1.later hb, h2⟩
theorem rowAt_nil (w : World) : RowAt w none 0 0 [] :=
  ⟨rfl, Nat.le_refl _, Nat.zero_le _, fun _ => rfl, small_nil, fun h => absurd h (by omega)⟩
theorem numAt_nil (w : World) : NumAt w none 0 0 0 := ⟨[], rowAt_nil w, fun h => absurd h (by simp), rfl⟩

theorem NumAt.len_le {w : World} {ao : Option Addr} {len cap N k : Nat} (h : NumAt w ao len cap N) (hk : N < Bp k) : len ≤ k := by
  obtain ⟨xs, hx, nx, vx⟩ := h
  rw [← hx.len_eq]
  exact norm_len nx (by rw [vx]; exact hk)

/-- A limb fits 32 bits, in the walk's own form. -/
theorem RowAt.bound {w : World} {ao : Option Addr} {len cap : Nat} {xs : List Nat} (h : RowAt w ao len cap xs) (i : Nat) : (lim xs i : Int) < 4294967296 := by
  have := h.small i
  omega

/-- The first n of a row. -/
theorem RowAt.take {w : World} {ao : Option Addr} {len cap : Nat} {xs : List Nat} (h : RowAt w ao len cap xs) {n : Nat} (hn : n ≤ len) : RowAt w ao n cap (xs.take n) := by
  have hl := h.len_eq
  refine ⟨by rw [List.length_take]; omega, Nat.le_trans hn h.cap_le, h.cap_max, h.nil_cap, small_take h.small n, fun hp => ?_⟩
  obtain ⟨b, off, e, hlt, hc⟩ := h.cells (by omega)
  refine ⟨b, off, e, hlt, fun i hi => ?_⟩
  rw [lim_take, if_pos hi]
  exact hc i (by omega)

/-- A row from limb q on, q before its end. -/
theorem RowAt.drop {w : World} {b off len cap : Nat} {xs : List Nat} (h : RowAt w (some ⟨b, off, none⟩) len cap xs) {q : Nat} (hq : q < len) : RowAt w (some ⟨b, off + q, none⟩) (len - q) (cap - q) (xs.drop q) := by
  have hl := h.len_eq
  have hc := h.cap_le
  have hm := h.cap_max
  refine ⟨by rw [List.length_drop]; omega, by omega, by omega, fun e => by simp at e, small_drop h.small q, fun _ => ?_⟩
  obtain ⟨b', off', e, hlt, hcell⟩ := h.cells (by omega)
  simp only [Option.some.injEq, Addr.mk.injEq, and_true] at e
  obtain ⟨rfl, rfl⟩ := e
  refine ⟨_, _, rfl, hlt, fun i hi => ?_⟩
  rw [lim_drop, Nat.add_assoc]
  exact hcell (q + i) (by omega)

/-- The slice is a row that the call itself made, from block 'base' on, with the limbs xs. -/
def Own (w : World) (base : Nat) (v : Value) (n : Nat) (xs : List Nat) : Prop := w.ownsRow base 31 1 v n (xs.map lv)
theorem Own.len {w : World} {base n : Nat} {v : Value} {xs : List Nat} (h : Own w base v n xs) : xs.length = n := by simpa using h.1
theorem Own.alloc {w : World} {base n : Nat} {v : Value} {xs : List Nat} (h : Own w base v n xs) (o : Obj) : Own (w.alloc o) base v n xs := World.ownsRow.alloc h o
theorem Own.drewN {w : World} {base n : Nat} {v : Value} {xs : List Nat} (h : Own w base v n xs) (k : Nat) : Own (w.drewN k) base v n xs := h
theorem Own.later {w w' : World} {base n : Nat} {v : Value} {xs : List Nat} (h : Own w base v n xs) (hb : Below w.heap.size w w') : Own w' base v n xs := by
  refine ⟨h.1, ?_⟩
  rcases h.2 with h' | ⟨g, cap, cur, hv, hg, hh, r⟩
  · exact Or.inl h'
  · exact Or.inr ⟨g, cap, cur, hv, hg, by rw [hb.block g (lt_of_block hh)]; exact hh, r⟩
theorem own_none (w : World) (base : Nat) : Own w base (.slice none 0 0) 0 [] := ⟨rfl, Or.inl ⟨rfl, rfl⟩⟩
theorem own_empty {w : World} {base : Nat} (hb : base ≤ w.heap.size) : Own (w.alloc (.cells #[] 31)) base (.slice (some ⟨w.heap.size, 0, none⟩) 0 0) 0 [] :=
  World.ownsRow_lit (size := 1) w #[] 0 hb (by unfold maxLen; omega) rfl
theorem Own.cell {w : World} {base g n cap : Nat} {xs : List Nat} (h : Own w base (.slice (some ⟨g, 0, none⟩) n cap) n xs) {i : Nat} (hi : i < n) : w.cell? ⟨g, i, none⟩ = some (.int .u32 (lim xs i : Int)) := by
  have hl := h.len
  rw [World.ownsRow.cellAt h i (by omega)]
  simp [lim, lv, show i < xs.length by omega]
theorem Own.free {w : World} {base g n cap : Nat} {xs : List Nat} (h : Own w base (.slice (some ⟨g, 0, none⟩) n cap) n xs) (i : Nat) : w.frozen? ⟨g, i, none⟩ = false := World.ownsRow.frozenAt h i
theorem Own.set {w : World} {base g n cap : Nat} {xs : List Nat} (h : Own w base (.slice (some ⟨g, 0, none⟩) n cap) n xs) (j v : Nat) {e : Int} (he : e = (v : Int)) : Own (w.setCell ⟨g, j, none⟩ (.int .u32 e)) base (.slice (some ⟨g, 0, none⟩) n cap) n (xs.set j v) := by
  unfold Own
  rw [← map_set_lv xs j v he]
  exact (World.ownsRow.stored h j _).1
theorem Own.base_le {w : World} {base g n cap : Nat} {xs : List Nat} (h : Own w base (.slice (some ⟨g, 0, none⟩) n cap) n xs) : base ≤ g := by
  rcases h.2 with ⟨h', _⟩ | ⟨g', cap', cur, h', hb, _⟩
  · simp at h'
  · simp only [Value.slice.injEq, Option.some.injEq, Addr.mk.injEq, and_true, true_and] at h'
    obtain ⟨rfl, rfl⟩ := h'
    exact hb
theorem Own.block_ge {w : World} {base n : Nat} {v : Value} {xs : List Nat} (h : Own w base v n xs) : ∀ k, v.ownBlock = some k → base ≤ k := by
  intro k hk
  rcases h.2 with ⟨h', _⟩ | ⟨g', cap', cur, h', hb, _⟩
  · subst h'; simp [Value.ownBlock] at hk
  · subst h'; simp [Value.ownBlock] at hk; omega
/-- A row that the call itself made. -/
theorem rowAt_own {w : World} {base g n cap : Nat} {xs : List Nat} (h : Own w base (.slice (some ⟨g, 0, none⟩) n cap) n xs) (hs : Small xs) : RowAt w (some ⟨g, 0, none⟩) n cap xs := by
  have hl : xs.length = n := by simpa using h.1
  have hcell := fun j hj => World.ownsRow.cellAt h j hj
  rcases h.2 with ⟨h', _⟩ | ⟨g', cap', cur, h', _, hg, hnc, hcm, hcs, htake⟩
  · simp at h'
  · simp only [Value.slice.injEq, Option.some.injEq, Addr.mk.injEq, and_true, true_and] at h'
    obtain ⟨rfl, rfl⟩ := h'
    refine ⟨hl, hnc, hcm, fun e => by simp at e, hs, fun _ => ⟨g, 0, rfl, lt_of_block hg, fun i hi => ?_⟩⟩
    rw [Nat.zero_add, hcell i (by omega)]
    simp [lim, lv, show i < xs.length by omega]
theorem rowAt_owned {w : World} {base n : Nat} {v : Value} {xs : List Nat} (h : Own w base v n xs) (hs : Small xs) : ∃ ao cap, v = .slice ao n cap ∧ RowAt w ao n cap xs := by
  have hl : xs.length = n := by simpa using h.1
  rcases h.2 with ⟨h', hx⟩ | ⟨g', cap', cur, h', _⟩
  · have hn : n = 0 := by simpa using hx
    subst hn h'
    obtain rfl := List.eq_nil_of_length_eq_zero hl
    exact ⟨none, 0, rfl, rowAt_nil w⟩
  · subst h'
    exact ⟨_, _, rfl, rowAt_own h hs⟩

theorem info_u32 : (Try.prog.info? 31).map (fun i => (i.zero, i.size, i.bytes)) = some (some (.int .u32 0), 1, 4) := by kernel_rfl
/-- What the slice leads to lies from block B on. -/
def New (B : Nat) (ao : Option Addr) (len : Nat) : Prop := 0 < len → ∃ b off, ao = some ⟨b, off, none⟩ ∧ B ≤ b
theorem New.mono {B B' : Nat} {ao : Option Addr} {len : Nat} (h : New B ao len) (hb : B' ≤ B) : New B' ao len := fun hp => by
  obtain ⟨b, off, e, h1⟩ := h hp
  exact ⟨b, off, e, Nat.le_trans hb h1⟩
theorem own_new {w : World} {base n cap : Nat} {ao : Option Addr} {xs : List Nat} (h : Own w base (.slice ao n cap) n xs) : New base ao n := by
  intro hp
  rcases h.2 with ⟨h', hn⟩ | ⟨g', cap', cur, h', hb, _⟩
  · omega
  · simp only [Value.slice.injEq, true_and] at h'
    exact ⟨g', 0, h'.1, hb⟩
/-- A row goes on reading so while a cell of another block, made before it, is written. -/
theorem RowAt.other {w : World} {ao : Option Addr} {len cap g : Nat} {xs : List Nat} (h : RowAt w ao len cap xs) (hn : New (g + 1) ao len) (j : Nat) (u : Value) : RowAt (w.setCell ⟨g, j, none⟩ u) ao len cap xs := by
  refine ⟨h.len_eq, h.cap_le, h.cap_max, h.nil_cap, h.small, fun hp => ?_⟩
  obtain ⟨b, off, e, hlt, hc⟩ := h.cells hp
  obtain ⟨b', off', e', hb⟩ := hn hp
  rw [e] at e'
  simp only [Option.some.injEq, Addr.mk.injEq, and_true] at e'
  obtain ⟨rfl, rfl⟩ := e'
  refine ⟨b, off, e, by simpa [World.setCell] using hlt, fun i hi => ?_⟩
  rw [← hc i hi]
  exact World.cell?_of_block (w := w) (Below.heap_setCell w ⟨g, j, none⟩ u b (by simp; omega))
theorem NumAt.other {w : World} {ao : Option Addr} {len cap g N : Nat} (h : NumAt w ao len cap N) (hn : New (g + 1) ao len) (j : Nat) (u : Value) : NumAt (w.setCell ⟨g, j, none⟩ u) ao len cap N := by
  obtain ⟨xs, h1, h2⟩ := h
  exact ⟨xs, h1.other hn j u, h2⟩

/-- append(own row, any row ..). -/
theorem append_row {w : World} {ops : Array Oper} {rest : List Oper} {o : Oper} {a : Act} {Q : Exit → Act → World → Prop} (hgd : o.guard = none) (s x : Operand)
    (ho : o.op = .call { callee := .builtin .append, args := #[s, x], argTypes := #[22, 22] }) (base : Nat) (v : Value) (n : Nat) (xs : List Nat) (hs : a.eval s = v) (hown : Own w base v n xs)
    (ao : Option Addr) (m c : Nat) (ys : List Nat) (hx : a.eval x = .slice ao m c) (hrow : RowAt w ao m c ys) (hb : n + m ≤ 1000000000) (hbase : base ≤ w.heap.size)
    (h : ∀ v' w', Own w' base v' (n + m) (xs ++ ys) → w.grownBy w' v.ownBlock → wpList Try.prog ops Q rest (a.put o.dst v') w') : wpList Try.prog ops Q (o :: rest) a w := by
  obtain ⟨i0, hi, hz0, hz1, hz2⟩ := info_parts info_u32
  have hl := hrow.len_eq
  cases ao with
  | none =>
    have hc := hrow.nil_cap rfl
    have hcl := hrow.cap_le
    obtain rfl : c = 0 := hc
    obtain rfl : m = 0 := by omega
    obtain rfl := List.eq_nil_of_length_eq_zero hl
    refine wpList_append_own_none hgd s x _ ho base 31 i0 1 Try.underlying22 hi v n (xs.map lv) hs hown hx ?_
    have := h v w (by rw [List.append_nil]; exact hown) (World.grownBy.refl _ _)
    exact this
  | some ad =>
    refine wpList_append_own w hgd s x _ ho base 31 i0 (.int .u32 0) 1 4 Try.underlying22 hi hz0 hz1 hz2 rfl (by decide) v n (xs.map lv) hs hown ad m c (ys.map lv) hx (by simp [hl]) ?_ ?_ ?_ ?_ hbase ?_
    · intro j u hj
      have hjl : j < m := by
        have := (List.getElem?_eq_some_iff.1 hj).1
        simpa [hl] using this
      obtain ⟨b, off, e, _, hc⟩ := hrow.cells (by omega)
      obtain rfl := Option.some.inj e
      rw [Addr.add_lit, hc j hjl]
      rw [← hj]
      simp [lim, lv, show j < ys.length by omega]
    · intro u hu
      obtain ⟨_, _, rfl⟩ := List.mem_map.1 hu
      rfl
    · unfold maxLen; omega
    · omega
    · intro v' w' h1 h2 _
      rw [← List.map_append] at h1
      exact h v' w' h1 h2

/-- make([]uint32, n). -/
theorem make_row {w : World} {ops : Array Oper} {rest : List Oper} {o : Oper} {a : Act} {Q : Exit → Act → World → Prop} (hg : o.guard = none) (l c : Operand) (hop : o.op = Op.makeSlice 22 l c)
    (base : Nat) (kl kc : IntKind) (L C : Int) (n : Nat) (hl : a.eval l = .int kl L) (hc : a.eval c = .int kc C) (hL : L = (n : Int)) (hC : C = (n : Int)) (hn : n ≤ 1000000000) (hbase : base ≤ w.heap.size)
    (hK : ∀ w', Own w' base (.slice (some ⟨w.heap.size, 0, none⟩) n n) n (List.replicate n 0) → w.grownBy w' none → wpList Try.prog ops Q rest (a.put o.dst (.slice (some ⟨w.heap.size, 0, none⟩) n n)) w') :
    wpList Try.prog ops Q (o :: rest) a w := by
  obtain ⟨i0, hi, hz0, hz1, hz2⟩ := info_parts info_u32
  refine wpList_make_full w hg l c _ hop base 31 i0 (.int .u32 0) 1 Try.underlying22 hi hz0 hz1 kl kc L C n hl hc hL hC (by rw [hz2]; omega) (by unfold maxLen; omega) hbase ?_
  intro w' h1 h2
  refine hK w' ?_ h2
  unfold Own
  have e : (madeCells (Value.int .u32 0).cells (n * 1)).toList = (List.replicate n 0).map lv := by
    show (madeCells #[.int .u32 0] (n * 1)).toList = _
    rw [toList_madeCells_one, Nat.mul_one, List.map_replicate]
    rfl
  rw [← e]
  exact h1

/-- copy(own row, a row of as many limbs). -/
theorem copy_row {w : World} {ops : Array Oper} {rest : List Oper} {o : Oper} {a : Act} {Q : Exit → Act → World → Prop} (hgd : o.guard = none) (d s : Operand)
    (ho : o.op = .call { callee := .builtin .copy, args := #[d, s], argTypes := #[22, 22] }) (base g n cap : Nat) (zs ys : List Nat) (hd : a.eval d = .slice (some ⟨g, 0, none⟩) n cap) (hown : Own w base (.slice (some ⟨g, 0, none⟩) n cap) n zs)
    (ao : Option Addr) (c : Nat) (hs : a.eval s = .slice ao n c) (hrow : RowAt w ao n c ys) (hn : 0 < n)
    (h : ∀ w', Own w' base (.slice (some ⟨g, 0, none⟩) n cap) n ys → w.grownBy w' (some g) → wpList Try.prog ops Q rest (a.put o.dst (goInt (ys.map lv).length)) w') : wpList Try.prog ops Q (o :: rest) a w := by
  obtain ⟨i0, hi, hz0, hz1, hz2⟩ := info_parts info_u32
  obtain ⟨b, off, rfl, hb, hc⟩ := hrow.cells hn
  have hl := hrow.len_eq
  rcases hown.2 with ⟨h', _⟩ | ⟨g', cap', cur, h', hbg, hg, hnc, hcm, hcs, htake⟩
  · simp at h'
  · simp only [Value.slice.injEq, Option.some.injEq, Addr.mk.injEq, and_true, true_and] at h'
    obtain ⟨rfl, rfl⟩ := h'
    refine wpList_copy_own hgd d s _ _ ho 31 Try.underlying22 (by rw [hi]; simp [hz1]) g 0 n cap ⟨b, off, none⟩ n c hd hs cur 31 hg (ys.map lv) (by simp [hl]) ?_ (by simp [hl]; omega) ?_ ?_
    · intro j v hj
      have hjl : j < n := by
        have := (List.getElem?_eq_some_iff.1 hj).1
        simpa [hl] using this
      rw [Addr.add_lit, hc j hjl, ← hj]
      simp [lim, lv, show j < ys.length by omega]
    · intro u hu
      obtain ⟨_, _, rfl⟩ := List.mem_map.1 hu
      rfl
    · refine h _ ⟨by simp [hl], Or.inr ⟨g, cap, _, rfl, hbg, setRow_heap w g cur _ 31 _ hg, hnc, hcm, ?_, ?_⟩⟩ ⟨rfl, rfl, rfl, by simp [World.setRow], fun k _ hk => setRow_other w g k _ (fun e => hk (by simp [e]))⟩
      · simp [hl]; omega
      · simp [hl]

theorem rowAt_one {w : World} {e : Int} {v : Nat} (he : e = (v : Int)) (hv : v < 4294967296) : RowAt (w.alloc (.cells #[.int .u32 e] 31)) (some ⟨w.heap.size, 0, none⟩) 1 1 [v] := by
  subst he
  refine ⟨rfl, Nat.le_refl _, by unfold maxLen; omega, fun h => by simp at h, small_of_mem (by simpa using hv), fun _ => ⟨_, _, rfl, by simp, fun i hi => ?_⟩⟩
  obtain rfl : i = 0 := by omega
  simp [lim]
#print axioms rowAt_owned
#print axioms append_row
#print axioms rowAt_one
end Go.Proofs.Ytkhcanhdbalihaa
