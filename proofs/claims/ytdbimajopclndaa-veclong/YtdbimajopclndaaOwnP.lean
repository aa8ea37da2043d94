/-
  A row of whatever elements that the call itself made, every cell of whose block meets p (also behind the row's end): what append, append of noughts, make and a store do to it.
-/
import Derived.Test.YtdbimajopclndaaJA
import Derived.Maps.AppendAt
import Derived.Lib.AppendZerosOnto
import Derived.Lib.SmallJoins
namespace Go.Proofs.Ytdbimajopclndaa
open Go.RowKit Lb

def AllP (p : Value → Prop) (w : World) (v : Value) : Prop := ∀ g, v.ownBlock = some g → ∀ j u, w.cell? ⟨g, j, none⟩ = some u → p u
structure OwnP (p : Value → Prop) (w : World) (base : Nat) (e : TypeId) (size : Nat) (v : Value) (n : Nat) (cs : List Value) : Prop where
  own : w.ownsRow base e size v n cs
  all : AllP p w v
theorem ownP_nil (p : Value → Prop) (w : World) (base : Nat) (e : TypeId) (size : Nat) : OwnP p w base e size (.slice none 0 0) 0 [] := ⟨World.ownsRow_nil w base e size, fun g h => by simp [Value.ownBlock] at h⟩
theorem OwnP.later {p : Value → Prop} {w w' : World} {base : Nat} {e : TypeId} {size : Nat} {v : Value} {n : Nat} {cs : List Value} (h : OwnP p w base e size v n cs) (hb : Below w.heap.size w w') : OwnP p w' base e size v n cs := by
  refine ⟨⟨h.own.1, ?_⟩, fun g hg j u hc => ?_⟩
  · rcases h.own.2 with h' | ⟨g, cap, cur, hv, hg, hh, r⟩
    · exact Or.inl h'
    · exact Or.inr ⟨g, cap, cur, hv, hg, by rw [hb.block g (lt_of_block hh)]; exact hh, r⟩
  · rw [hb.cell (p := ⟨g, j, none⟩) (h.own.lt g hg).2] at hc
    exact h.all g hg j u hc
/-- .. while another block is written. -/
theorem OwnP.grown {p : Value → Prop} {w w' : World} {row : Option Nat} {base : Nat} {e : TypeId} {size : Nat} {v : Value} {n : Nat} {cs : List Value} (h : OwnP p w base e size v n cs) (hg : w.grownBy w' row) (hne : v.ownBlock = none ∨ v.ownBlock ≠ row) : OwnP p w' base e size v n cs := by
  refine ⟨h.own.kept hg hne, fun g hgv j u hc => ?_⟩
  have hlt := (h.own.lt g hgv).2
  have hr : some g ≠ row := by
    rcases hne with h' | h'
    · rw [hgv] at h'; simp at h'
    · rw [hgv] at h'; exact h'
  rw [World.cell?_of_block (a := ⟨g, j, none⟩) (hg.block g hlt hr)] at hc
  exact h.all g hgv j u hc
theorem OwnP.form {p : Value → Prop} {w : World} {base : Nat} {e : TypeId} {size : Nat} {v : Value} {n : Nat} {cs : List Value} (h : OwnP p w base e size v n cs) : (v = .slice none 0 0 ∧ n = 0) ∨ ∃ g cap, v = .slice (some ⟨g, 0, none⟩) n cap ∧ base ≤ g ∧ g < w.heap.size ∧ n ≤ cap ∧ cap ≤ maxLen := by
  rcases h.own.2 with h' | ⟨g, cap, cur, hv, hg, hh, h1, h2, _⟩
  · exact Or.inl h'
  · exact Or.inr ⟨g, cap, hv, hg, lt_of_block hh, h1, h2⟩
theorem OwnP.len {p : Value → Prop} {w : World} {base : Nat} {e : TypeId} {size : Nat} {v : Value} {n : Nat} {cs : List Value} (h : OwnP p w base e size v n cs) : cs.length = n * size := h.own.1
theorem OwnP.cell {p : Value → Prop} {w : World} {base : Nat} {e : TypeId} {size g n cap : Nat} {cs : List Value} (h : OwnP p w base e size (.slice (some ⟨g, 0, none⟩) n cap) n cs) {j : Nat} (hj : j < n * size) : w.cell? ⟨g, j, none⟩ = cs[j]? := h.own.cellAt j hj
theorem OwnP.free {p : Value → Prop} {w : World} {base : Nat} {e : TypeId} {size g n cap : Nat} {cs : List Value} (h : OwnP p w base e size (.slice (some ⟨g, 0, none⟩) n cap) n cs) (j : Nat) : w.frozen? ⟨g, j, none⟩ = false := h.own.frozenAt j
theorem zeroCells_in {z : Array Value} {q : Nat} {u : Value} (h : u ∈ Builtin.zeroCells z q) : u ∈ z := by
  obtain ⟨j, hj⟩ := Array.mem_iff_getElem?.1 h
  unfold Builtin.zeroCells at hj
  simp only [Array.getElem?_map, Array.getElem?_range] at hj
  split at hj
  · rename_i hlt
    have hp : 0 < z.size := by
      rcases Nat.eq_zero_or_pos z.size with h0 | h0
      · rw [h0] at hlt; omega
      · exact h0
    simp only [Option.map_some, Option.some.injEq] at hj
    rw [getElem!_pos z (j % z.size) (Nat.mod_lt _ hp)] at hj
    rw [← hj]
    exact Array.getElem_mem _
  · simp at hj
theorem madeCells_in {z : Array Value} {q : Nat} {u : Value} (h : u ∈ madeCells z q) (hp : 0 < z.size) : u ∈ z := by
  obtain ⟨j, hj⟩ := Array.mem_iff_getElem?.1 h
  unfold madeCells at hj
  simp only [Array.getElem?_map, Array.getElem?_range] at hj
  split at hj
  · simp only [Option.map_some, Option.some.injEq] at hj
    rw [getElem!_pos z (j % z.size) (Nat.mod_lt _ hp)] at hj
    rw [← hj]
    exact Array.getElem_mem _
  · simp at hj
theorem all_new {p : Value → Prop} {w : World} {C : Array Value} {e : TypeId} (h : ∀ u ∈ C, p u) : ∀ j u, (w.drew.alloc (.cells C e)).cell? ⟨w.heap.size, j, none⟩ = some u → p u := by
  intro j u hc
  have hh : (w.drew.alloc (.cells C e)).heap[w.heap.size]? = some (.cells C e) := heap_alloc_new w.drew _
  rw [Joins.cell_of_block hh j] at hc
  exact h u (Array.mem_of_getElem? hc)
theorem all_row {p : Value → Prop} {w : World} {g : Nat} {cur : Array Value} {e : TypeId} {l : List Value} (hg : w.heap[g]? = some (.cells cur e (0, 0))) (h : ∀ u ∈ l, p u) : ∀ j u, (w.setRow g l.toArray).cell? ⟨g, j, none⟩ = some u → p u := by
  intro j u hc
  rw [Joins.cell_of_block (setRow_heap w g cur _ _ _ hg) j] at hc
  exact h u (by simpa using Array.mem_of_getElem? hc)
theorem cur_all {p : Value → Prop} {w : World} {g n cap : Nat} {cur : Array Value} {e : TypeId} (hg : w.heap[g]? = some (.cells cur e (0, 0))) (h : AllP p w (.slice (some ⟨g, 0, none⟩) n cap)) : ∀ u ∈ cur.toList, p u := by
  intro u hu
  obtain ⟨j, hj⟩ := List.mem_iff_getElem?.1 hu
  refine h g rfl j u ?_
  rw [Joins.cell_of_block hg j, ← Array.getElem?_toList, hj]

set_option maxHeartbeats 1000000 in
/-- append(own row, what stands at an address ..). -/
theorem run_append_P {p : Value → Prop} (w : World) (base : Nat) (t ty e : TypeId) (i : TypeInfo) (z : Value) (size bytes : Nat) (ht : Try.prog.underlying t = some (.slice e)) (hi : Try.prog.info? e = some i) (hz : i.zero = some z)
    (hsize : i.size = size) (hby : i.bytes = bytes) (hzs : z.cells.size = size) (hsz : 0 < size) (hpz : ∀ u ∈ z.cells, p u)
    (v : Value) (n : Nat) (cs : List Value) (hown : OwnP p w base e size v n cs) (a : Addr) (m c : Nat) (news : List Value) (hl : news.length = m * size) (hnews : ∀ j u, news[j]? = some u → w.cell? (a.add j) = some u) (h1 : ∀ u ∈ news, u.oneCell' = true) (hpn : ∀ u ∈ news, p u)
    (h63 : n + m ≤ maxLen) (hbytes : (n + m) * bytes ≤ 140737488355328) (hbase : base ≤ w.heap.size) :
    ∃ v' w', (Builtin.append_ #[t, t] ty #[v, .slice (some a) m c]).run Try.prog w = .ok v' w' ∧ OwnP p w' base e size v' (n + m) (cs ++ news) ∧ w.grownBy w' v.ownBlock ∧ (v'.ownBlock = v.ownBlock ∨ v'.ownBlock = some w.heap.size) := by
  obtain ⟨v', w', hrun, hrow', hgr, hnil, hat⟩ := run_append_own_at (P := Try.prog) w base t ty e i z size bytes ht hi hz hsize hby hzs hsz v n cs hown.own a m c news hl hnews h1 h63 hbytes hbase
  refine ⟨v', w', hrun, ⟨hrow', ?_⟩, hgr, hat⟩
  have hcs : ∀ u ∈ cs, p u := by
    intro u hu
    obtain ⟨j, hj⟩ := List.mem_iff_getElem?.1 hu
    rcases hown.own.2 with ⟨_, h0⟩ | ⟨g0, cap0, cur, hv0, _⟩
    · have := hown.own.1
      rw [h0, Nat.zero_mul] at this
      rw [List.eq_nil_of_length_eq_zero this] at hu
      simp at hu
    · have := hown.own.cells (g := g0) (by rw [hv0]; rfl) j u hj
      rw [Addr.add_lit, Nat.zero_add] at this
      exact hown.all g0 (by rw [hv0]; rfl) j u this
  have h64 : n + m ≤ 9223372036854775807 := by unfold maxLen at h63; omega
  rcases hown.own.2 with ⟨rfl, rfl⟩ | ⟨g0, cap0, cur, rfl, hbg, hg0, hnc, hcm, hcu, htake⟩
  · by_cases hm : m = 0
    · rw [hnil.2 ⟨rfl, hm⟩]
      exact fun g hg => by simp [Value.ownBlock] at hg
    have hr := run_append_nil (P := Try.prog) w t ty e i z ht hi hz a m c news (by rw [hsize]; exact hl) hnews (by omega) (by omega) (by rw [hby]; rw [Nat.zero_add] at hbytes; omega)
    rw [hr] at hrun
    injection hrun with e1 e2
    subst e1 e2
    intro g hg
    simp only [Value.ownBlock, Option.some.injEq] at hg
    subst hg
    refine all_new fun u hu => ?_
    rcases Array.mem_append.1 hu with h | h
    · exact hpn u (by simpa using h)
    · exact hpz u (zeroCells_in h)
  · by_cases hroom : n + m ≤ cap0
    · have hr := run_append_room (P := Try.prog) w t ty e i ht hi g0 n cap0 cur hg0 a m c news (by rw [hsize]; exact hl) hnews h1 hroom (by rw [hsize, hl, hcu, ← Nat.add_mul]; exact Nat.mul_le_mul_right _ hroom)
      rw [hr] at hrun
      injection hrun with e1 e2
      subst e1 e2
      intro g hg
      simp only [Value.ownBlock, Option.some.injEq] at hg
      subst hg
      refine all_row hg0 fun u hu => ?_
      rw [List.mem_append, List.mem_append] at hu
      rcases hu with (h | h) | h
      · exact cur_all hg0 hown.all u (List.mem_of_mem_take h)
      · exact hpn u h
      · exact cur_all hg0 hown.all u (List.mem_of_mem_drop h)
    · have hr := run_append_grow (P := Try.prog) w t ty e i z ht hi hz ⟨g0, 0, none⟩ n cap0 cs (by rw [hsize]; exact hown.own.1) (hown.own.cells (g := g0) rfl) a m c news (by rw [hsize]; exact hl) hnews (by omega) (by omega) (growslice_fits (by omega) (by rw [hby]; exact hbytes))
      rw [hr] at hrun
      injection hrun with e1 e2
      subst e1 e2
      intro g hg
      simp only [Value.ownBlock, Option.some.injEq] at hg
      subst hg
      refine all_new fun u hu => ?_
      rw [Array.mem_append, Array.mem_append] at hu
      rcases hu with (h | h) | h
      · exact hcs u (by simpa using h)
      · exact hpn u (by simpa using h)
      · exact hpz u (zeroCells_in h)

set_option maxHeartbeats 1000000 in
/-- append(own row, make([]T, k)...), something. -/
theorem run_zeros_P {p : Value → Prop} (w : World) (base : Nat) (t tn ty e : TypeId) (kn kq : IntKind) (i : TypeInfo) (z : Value) (size bytes : Nat) (ht : Try.prog.underlying t = some (.slice e)) (htn : Try.prog.underlying tn = some (.int kn)) (hi : Try.prog.info? e = some i) (hz : i.zero = some z)
    (hsize : i.size = size) (hby : i.bytes = bytes) (hzs : z.cells.size = size) (hsz : 0 < size) (hpz : ∀ u ∈ z.cells, p u) (h1 : ∀ u ∈ z.cells, u.oneCell' = true)
    (v : Value) (n : Nat) (cs : List Value) (hown : OwnP p w base e size v n cs) (k : Nat) (hk : 0 < k) (hn : n ≤ 1000000) (hk2 : k ≤ 1000000) (hb2 : bytes ≤ 1000) (hbase : base ≤ w.heap.size) :
    ∃ v' w', (Builtin.append_ #[t, tn] ty #[v, .int kq (k : Int)]).run Try.prog w = .ok v' w' ∧ OwnP p w' base e size v' (n + k) (cs ++ (Builtin.zeroCells z.cells k).toList) ∧ w.grownBy w' v.ownBlock ∧ (v'.ownBlock = v.ownBlock ∨ v'.ownBlock = some w.heap.size) := by
  have hw : IntKind.i64.wrap (k : Int) = k := by rw [IntKind.wrap_i64]; omega
  have hneg : ¬ ((k : Int) < 0) := by omega
  have hkb : k * bytes ≤ 1000000000 := Nat.le_trans (Nat.mul_le_mul hk2 hb2) (by omega)
  have h48i : ¬ (281474976710656 < (k : Int) * (i.bytes : Int)) := by rw [hby, ← Int.natCast_mul]; omega
  have hnb : (n + k) * bytes ≤ 2000000000 := Nat.le_trans (Nat.mul_le_mul (show n + k ≤ 2000000 by omega) hb2) (by omega)
  have hzl : (Builtin.zeroCells z.cells k).toList.length = k * size := by rw [Array.length_toList, size_zeroCells, hzs]
  have hlen : (cs ++ (Builtin.zeroCells z.cells k).toList).length = (n + k) * size := by rw [List.length_append, hown.own.1, hzl, Nat.add_mul]
  have hcs : ∀ u ∈ cs, p u := by
    intro u hu
    obtain ⟨j, hj⟩ := List.mem_iff_getElem?.1 hu
    rcases hown.own.2 with ⟨_, h0⟩ | ⟨g0, cap0, cur, hv0, _⟩
    · have := hown.own.1
      rw [h0, Nat.zero_mul] at this
      rw [List.eq_nil_of_length_eq_zero this] at hu
      simp at hu
    · have := hown.own.cells (g := g0) (by rw [hv0]; rfl) j u hj
      rw [Addr.add_lit, Nat.zero_add] at this
      exact hown.all g0 (by rw [hv0]; rfl) j u this
  have grown : ∀ (old : Nat) (row : Option Nat),
      OwnP p (w.drew.alloc (.cells (cs.toArray ++ Builtin.zeroCells z.cells k ++ Builtin.zeroCells z.cells (grownCap w (n + k) old e - (n + k))) e)) base e size (.slice (some ⟨w.heap.size, 0, none⟩) (n + k) (grownCap w (n + k) old e)) (n + k) (cs ++ (Builtin.zeroCells z.cells k).toList) ∧
      w.grownBy (w.drew.alloc (.cells (cs.toArray ++ Builtin.zeroCells z.cells k ++ Builtin.zeroCells z.cells (grownCap w (n + k) old e - (n + k))) e)) row := by
    intro old row
    have hge := grownCap_ge w (n + k) old e
    have hcm : grownCap w (n + k) old e ≤ maxLen := grownCap_le_maxLen w (n + k) old e (by unfold maxLen; omega)
    refine ⟨⟨⟨hlen, .inr ⟨w.heap.size, _, _, rfl, hbase, heap_alloc_new w.drew _, hge, hcm, ?_, ?_⟩⟩, fun g hg => ?_⟩, ⟨rfl, rfl, rfl, by simp, fun k hk _ => Below.heap_alloc w.drew _ k hk⟩⟩
    · rw [Array.size_append, Array.size_append, size_zeroCells, size_zeroCells, hzs, List.size_toArray, hown.own.1, ← Nat.add_mul, ← Nat.add_mul]
      congr 1; omega
    · simp only [Array.toList_append]
      rw [← hlen]
      exact List.take_left
    · simp only [Value.ownBlock, Option.some.injEq] at hg
      subst hg
      refine all_new fun u hu => ?_
      rw [Array.mem_append, Array.mem_append] at hu
      rcases hu with (h | h) | h
      · exact hcs u (by simpa using h)
      · exact hpz u (zeroCells_in h)
      · exact hpz u (zeroCells_in h)
  rcases hown.own.2 with ⟨rfl, rfl⟩ | ⟨g, cap, cur, rfl, hbg, hg, hnc, hcm, hcu, htake⟩
  · have hnil : cs = [] := List.eq_nil_of_length_eq_zero (by have := hown.own.1; rwa [Nat.zero_mul] at this)
    subst hnil
    have hr := Lib.run_append_nil_zeros (P := Try.prog) w t tn ty e i z kq kn ht htn hi hz k hk (by omega) (by omega) (by rw [hby]; omega)
    have hgr := grown 0 (Value.ownBlock (.slice none 0 0))
    rw [hr]
    refine ⟨_, _, rfl, ?_, ?_, Or.inr rfl⟩
    · have := hgr.1
      simpa only [Nat.zero_add, Array.empty_append] using this
    · have := hgr.2
      simpa only [Nat.zero_add, Array.empty_append] using this
  · by_cases hroom : n + k ≤ cap
    · have hst := run_storeCells_at Try.prog g (n * size) e (Builtin.zeroCells z.cells k).toList 0 cur w hg (by rw [hzl, hcu, Nat.add_zero, ← Nat.add_mul]; exact Nat.mul_le_mul_right _ hroom) (fun u hu => h1 u (zeroCells_in (Array.mem_toList_iff.1 hu)))
      rw [Nat.add_zero, htake, hzl, ← Nat.add_mul] at hst
      refine ⟨.slice (some ⟨g, 0, none⟩) (n + k) cap, w.setRow g (cs ++ (Builtin.zeroCells z.cells k).toList ++ cur.toList.drop ((n + k) * size)).toArray, ?_, ⟨⟨hlen, .inr ⟨g, cap, _, rfl, hbg, setRow_heap w g cur _ e _ hg, hroom, hcm, ?_, ?_⟩⟩, fun g' hg' => ?_⟩, ⟨rfl, rfl, rfl, by simp, fun j _ hj => setRow_other w g j _ (fun e => hj (by simp [Value.ownBlock, e]))⟩, Or.inl rfl⟩
      · have hk0 : ¬ k * size = 0 := by have := Nat.mul_pos hk hsz; omega
        simp [Builtin.append_, run_underlying ht, run_underlying htn, sizeOf, typeInfo, zeroValue, hi, hz, asInt, asIntOf, hw, hneg, h48i, hroom, hsize, hk0, Addr.add_lit]
        rw [hst]
        simp [Result.andThen]
      · rw [List.size_toArray, List.length_append, hlen, List.length_drop, Array.length_toList, hcu]
        have := Nat.mul_le_mul_right size hroom
        omega
      · rw [← hlen]
        exact List.take_left
      · simp only [Value.ownBlock, Option.some.injEq] at hg'
        subst hg'
        refine all_row hg fun u hu => ?_
        rw [List.mem_append, List.mem_append] at hu
        rcases hu with (h | h) | h
        · exact hcs u h
        · exact hpz u (zeroCells_in (Array.mem_toList_iff.1 h))
        · exact cur_all hg hown.all u (List.mem_of_mem_drop h)
    · have holds : ∀ j u, cs[j]? = some u → w.drew.cell? ((⟨g, 0, none⟩ : Addr).add j) = some u := hown.own.cells (g := g) rfl
      have hold := run_firstCells_some (P := Try.prog) w.drew i.size n ⟨g, 0, none⟩ n cap cs (by rw [hsize]; exact hown.own.1) holds
      have hr := Lib.run_append_grow_zeros (P := Try.prog) w t tn ty e i z kq kn ht htn hi hz (some ⟨g, 0, none⟩) n cap cs hold k hk (by omega) (by omega) (by omega) (by rw [hby]; omega) (by rw [hby]; exact growslice_fits (by omega) (by omega))
      have hgr := grown cap (Value.ownBlock (.slice (some ⟨g, 0, none⟩) n cap))
      exact ⟨_, _, hr, hgr.1, hgr.2, Or.inr rfl⟩

/-- make([]T, n). -/
theorem make_P {p : Value → Prop} {w : World} {ops : Array Oper} {rest : List Oper} {o : Oper} {a : Act} {Q : Exit → Act → World → Prop} (hg : o.guard = none) (l c : Operand) (t e : TypeId) (i : TypeInfo) (z : Value) (size bytes : Nat) (ht : Try.prog.underlying t = some (.slice e)) (hi : Try.prog.info? e = some i) (hz : i.zero = some z)
    (hsize : i.size = size) (hby : i.bytes = bytes) (hzs : z.cells.size = size) (hsz : 0 < size) (hpz : ∀ u ∈ z.cells, p u) (hop : o.op = Op.makeSlice t l c)
    (base : Nat) (kl kc : IntKind) (L C : Int) (n : Nat) (hl : a.eval l = .int kl L) (hc : a.eval c = .int kc C) (hL : L = (n : Int)) (hC : C = (n : Int)) (hn : n ≤ 1000000) (hb2 : bytes ≤ 1000) (hbase : base ≤ w.heap.size)
    (hK : ∀ w', OwnP p w' base e size (.slice (some ⟨w.heap.size, 0, none⟩) n n) n (madeCells z.cells (n * size)).toList → w.grownBy w' none → wpList Try.prog ops Q rest (a.put o.dst (.slice (some ⟨w.heap.size, 0, none⟩) n n)) w') :
    wpList Try.prog ops Q (o :: rest) a w := by
  refine wpList_make_full w hg l c _ hop base e i z size ht hi hz hsize kl kc L C n hl hc hL hC (by rw [hby]; have := Nat.mul_le_mul hb2 hn; omega) (by unfold maxLen; omega) hbase ?_
  intro w' h1 h2
  refine hK w' ⟨h1, fun g hg' j u hu => ?_⟩ h2
  simp only [Value.ownBlock, Option.some.injEq] at hg'
  subst hg'
  rcases h1.2 with ⟨h, _⟩ | ⟨g, cap, cur, h, _, hh, hnc, _, hs, htake⟩
  · simp at h
  · simp only [Value.slice.injEq, Option.some.injEq, Addr.mk.injEq, and_true, true_and] at h
    obtain ⟨rfl, rfl⟩ := h
    rw [Joins.cell_of_block hh j, ← Array.getElem?_toList] at hu
    rw [List.take_of_length_le (by rw [Array.length_toList, hs]; exact Nat.le_refl _)] at htake
    rw [htake] at hu
    exact hpz u (madeCells_in (Array.mem_toList_iff.1 (List.mem_of_getElem? hu)) (by rw [hzs]; exact hsz))
/-- A cell of the row is written. -/
theorem OwnP.set {p : Value → Prop} {w : World} {base : Nat} {e : TypeId} {size g n cap : Nat} {cs : List Value} (h : OwnP p w base e size (.slice (some ⟨g, 0, none⟩) n cap) n cs) (j : Nat) {u : Value} (hu : p u) : OwnP p (w.setCell ⟨g, j, none⟩ u) base e size (.slice (some ⟨g, 0, none⟩) n cap) n (cs.set j u) := by
  refine ⟨(World.ownsRow.stored h.own j u).1, fun g' hg' j' u' hc => ?_⟩
  simp only [Value.ownBlock, Option.some.injEq] at hg'
  subst hg'
  rcases h.own.2 with ⟨h', _⟩ | ⟨g', cap', cur, h', _, hh, _⟩
  · simp at h'
  · simp only [Value.slice.injEq, Option.some.injEq, Addr.mk.injEq, and_true, true_and] at h'
    obtain ⟨rfl, rfl⟩ := h'
    rw [Joins.cell_of_block (Joins.block_setCell hh _) j', Array.getElem?_setIfInBounds] at hc
    split at hc
    · split at hc
      · simp only [Option.some.injEq] at hc; rw [← hc]; exact hu
      · simp at hc
    · exact h.all g rfl j' u' (by rw [Joins.cell_of_block hh j']; exact hc)

#print axioms run_append_P
#print axioms run_zeros_P
#print axioms make_P
#print axioms OwnP.set
end Go.Proofs.Ytdbimajopclndaa
