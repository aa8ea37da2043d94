/-
  append(own row, make([]uint32, k)...): the row with k noughts more.
-/
import Derived.Test.YtkhcanhdbalihaaRow
import Derived.Lib.AppendZerosOnto
namespace Go.Proofs.Ytkhcanhdbalihaa
open Go.RowKit Lb

theorem zeros_lv (k : Nat) : (Builtin.zeroCells #[.int .u32 0] k).toList = (List.replicate k 0).map lv := by
  rw [List.map_replicate]
  apply List.ext_getElem?
  intro j
  by_cases hj : j < k
  · simp [Builtin.zeroCells, lv, hj, Nat.mod_one]
  · simp [Builtin.zeroCells, hj]

theorem run_append_zeros (w : World) (tn ty : TypeId) (kn kq : IntKind) (htn : Try.prog.underlying tn = some (.int kn)) (base : Nat) (v : Value) (n : Nat) (xs : List Nat) (hown : Own w base v n xs) (k : Nat) (hn : n ≤ 1000000) (hk : k ≤ 1000000) (hbase : base ≤ w.heap.size) :
    ∃ v' w', (Builtin.append_ #[22, tn] ty #[v, .int kq (k : Int)]).run Try.prog w = .ok v' w' ∧ Own w' base v' (n + k) (xs ++ List.replicate k 0) ∧ w.grownBy w' v.ownBlock := by
  obtain ⟨i, hi, hz, hs, hby⟩ := info_parts info_u32
  have ht := Try.underlying22
  have hw : IntKind.i64.wrap (k : Int) = k := by rw [IntKind.wrap_i64]; omega
  have hneg : ¬ ((k : Int) < 0) := by omega
  have h48i : ¬ (281474976710656 < (k : Int) * (i.bytes : Int)) := by rw [hby]; omega
  have hlen : ((xs ++ List.replicate k 0).map lv).length = (n + k) * 1 := by simp [hown.len]
  have grown : ∀ (old : Nat), ∀ (row : Option Nat),
      Own (w.drew.alloc (.cells ((xs.map lv).toArray ++ Builtin.zeroCells #[.int .u32 0] k ++ Builtin.zeroCells #[.int .u32 0] (grownCap w (n + k) old 31 - (n + k))) 31)) base
        (.slice (some ⟨w.heap.size, 0, none⟩) (n + k) (grownCap w (n + k) old 31)) (n + k) (xs ++ List.replicate k 0) ∧
      w.grownBy (w.drew.alloc (.cells ((xs.map lv).toArray ++ Builtin.zeroCells #[.int .u32 0] k ++ Builtin.zeroCells #[.int .u32 0] (grownCap w (n + k) old 31 - (n + k))) 31)) row := by
    intro old row
    have hge := grownCap_ge w (n + k) old 31
    have hcm : grownCap w (n + k) old 31 ≤ maxLen := grownCap_le_maxLen w (n + k) old 31 (by unfold maxLen; omega)
    refine ⟨⟨hlen, .inr ⟨w.heap.size, _, _, rfl, hbase, heap_alloc_new w.drew _, hge, hcm, ?_, ?_⟩⟩, ⟨rfl, rfl, rfl, by simp, fun k hk _ => Below.heap_alloc w.drew _ k hk⟩⟩
    · simp [size_zeroCells, hown.len]; omega
    · simp only [Array.toList_append, zeros_lv, List.append_assoc]
      rw [← List.append_assoc, ← List.map_append, ← hlen]
      exact List.take_left
  have hw0 : IntKind.i64.wrap 0 = 0 := by rw [IntKind.wrap_i64]; rfl
  have h48z : ¬ (281474976710656 < (0 : Int) * (i.bytes : Int)) := by omega
  by_cases hk0 : k = 0
  · subst hk0
    rcases hown.2 with ⟨rfl, rfl⟩ | ⟨g, cap, cur, rfl, hbg, hg, hnc, hcm, hcs, htake⟩
    · refine ⟨.slice none 0 0, w, ?_, by simpa using hown, World.grownBy.refl _ _⟩
      simp [Builtin.append_, run_underlying ht, run_underlying htn, sizeOf, typeInfo, hi, asInt, asIntOf, hw0]
    · refine ⟨_, w, ?_, by simpa using hown, World.grownBy.refl _ _⟩
      simp [Builtin.append_, run_underlying ht, run_underlying htn, sizeOf, typeInfo, hi, asInt, asIntOf, hw0, hnc, storeCells]
  · have hns : ¬ (k * i.size = 0) := by rw [hs]; omega
    rcases hown.2 with ⟨rfl, rfl⟩ | ⟨g, cap, cur, rfl, hbg, hg, hnc, hcm, hcs, htake⟩
    · obtain rfl : xs = [] := List.eq_nil_of_length_eq_zero hown.len
      have hr := Lib.run_append_nil_zeros (P := Try.prog) w 22 tn ty 31 i (.int .u32 0) kq kn ht htn hi hz k (by omega) (by omega) (by omega) (by rw [hby]; omega)
      have hgr := grown 0 (Value.ownBlock (.slice none 0 0))
      simp only [Nat.zero_add, List.map_nil, List.nil_append, Array.empty_append] at hgr hr ⊢
      exact ⟨_, _, hr, hgr.1, hgr.2⟩
    · by_cases hroom : n + k ≤ cap
      · have hst := run_storeCells_at Try.prog g (n * 1) 31 ((List.replicate k 0).map lv) 0 cur w hg (by simp; omega) (fun u hu => by obtain ⟨_, _, rfl⟩ := List.mem_map.1 hu; rfl)
        have e1 : cur.toList.take (n * 1 + 0) ++ (List.replicate k 0).map lv ++ cur.toList.drop (n * 1 + 0 + ((List.replicate k 0).map lv).length) = (xs ++ List.replicate k 0).map lv ++ cur.toList.drop (n + k) := by
          rw [Nat.add_zero, htake, List.map_append]
          simp
        rw [e1, ← zeros_lv] at hst
        refine ⟨.slice (some ⟨g, 0, none⟩) (n + k) cap, w.setRow g ((xs ++ List.replicate k 0).map lv ++ cur.toList.drop (n + k)).toArray, ?_, ⟨hlen, .inr ⟨g, cap, _, rfl, hbg, setRow_heap w g cur _ 31 _ hg, hroom, hcm, ?_, ?_⟩⟩, ⟨rfl, rfl, rfl, by simp, fun j _ hj => setRow_other w g j _ (fun e => hj (by simp [Value.ownBlock, e]))⟩⟩
        · simp only [Nat.mul_one] at hst
          simp [Builtin.append_, run_underlying ht, run_underlying htn, sizeOf, typeInfo, zeroValue, hi, hz, asInt, asIntOf, hw, hneg, h48i, hroom, hs, hk0, Addr.add_lit]
          rw [show (Value.int IntKind.u32 0).cells = #[.int .u32 0] from rfl, hst]
          simp [Result.andThen]
        · simp [hown.len]; omega
        · rw [← hlen]
          exact List.take_left
      · have holds : ∀ j u, (xs.map lv)[j]? = some u → w.drew.cell? ((⟨g, 0, none⟩ : Addr).add j) = some u := World.ownsRow.cells hown (g := g) rfl
        have hold := run_firstCells_some (P := Try.prog) w.drew i.size n ⟨g, 0, none⟩ n cap (xs.map lv) (by rw [hs]; simp [hown.len]) holds
        have hr := Lib.run_append_grow_zeros (P := Try.prog) w 22 tn ty 31 i (.int .u32 0) kq kn ht htn hi hz (some ⟨g, 0, none⟩) n cap (xs.map lv) hold k (by omega) (by omega) (by omega) (by omega) (by rw [hby]; omega) (by rw [hby]; exact growslice_fits (by omega) (by omega))
        have hgr := grown cap (Value.ownBlock (.slice (some ⟨g, 0, none⟩) n cap))
        exact ⟨_, _, hr, hgr.1, hgr.2⟩

/-- The same at the walk. -/
theorem zeros_row {w : World} {ops : Array Oper} {rest : List Oper} {o : Oper} {a : Act} {Q : Exit → Act → World → Prop} (hgd : o.guard = none) (s x : Operand) (tn : TypeId)
    (ho : o.op = .call { callee := .builtin .append, args := #[s, x], argTypes := #[22, tn] }) (kn kq : IntKind) (htn : Try.prog.underlying tn = some (.int kn)) (base : Nat) (v : Value) (n : Nat) (xs : List Nat) (hs : a.eval s = v) (hown : Own w base v n xs)
    (K : Int) (k : Nat) (hx : a.eval x = .int kq K) (hK : K = (k : Int)) (hn : n ≤ 1000000) (hk : k ≤ 1000000) (hbase : base ≤ w.heap.size)
    (h : ∀ v' w', Own w' base v' (n + k) (xs ++ List.replicate k 0) → w.grownBy w' v.ownBlock → wpList Try.prog ops Q rest (a.put o.dst v') w') : wpList Try.prog ops Q (o :: rest) a w := by
  subst hK
  obtain ⟨v', w', hr, h1, h2⟩ := run_append_zeros w tn o.type kn kq htn base v n xs hown k hn hk hbase
  exact Lib.wpList_append_run w hgd s x _ tn ho v _ hs hx v' w' hr (h v' w' h1 h2)
#print axioms run_append_zeros
#print axioms zeros_row
end Go.Proofs.Ytkhcanhdbalihaa
