/-
  Steps (a pivot and a row each): what a slice of them reads as ('SRows'), one that the call itself made ('SOwn'), a block that holds one ('SBox').
-/
import Derived.Test.YtjebmlogchoehaaGreatJI
import Derived.Test.YtjebmlogchoehaaGreatJL
import Derived.Test.YtjebmlogchoehaaGreatJM
namespace Go.Proofs.YtjebmlogchoehaaGreat
open Go.RowKit Lb
set_option maxRecDepth 20000

def stepCell (u : Value) : Prop := (∃ z, u = .int .i64 z) ∨ isSl u
/-- The block that is written holds steps alone. -/
def OnlyStep (w : World) (row : Option Nat) : Prop := ∀ g, row = some g → ∀ j u, w.cell? ⟨g, j, none⟩ = some u → stepCell u
theorem OnlyStep.noLimb {w : World} {row : Option Nat} (h : OnlyStep w row) : ∀ g, row = some g → NoLimb w g := by
  intro g hg j x e
  rcases h g hg j _ e with ⟨z, hz⟩ | ⟨v, hv⟩
  · simp at hz
  · simp [sv] at hv
theorem vecOf_step {R : World → Bool → Option Addr → Nat → Nat → Int → Prop} (hR : Steady R) {w w' : World} {row : Option Nat} {ao : Option Addr} {n cap : Nat} {zs : List Int} (h : VecOf R w ao n cap zs) (hg : w.grownBy w' row) (hs : OnlyStep w row) : VecOf R w' ao n cap zs := by
  refine ⟨h.len_eq, h.cap_le, h.cap_max, h.nil_cap, fun hp => ?_⟩
  obtain ⟨g, off, e, hlt, hc⟩ := h.elts hp
  have hne : row ≠ some g := by
    intro er
    obtain ⟨b, a, l, c, h1, _⟩ := hc 0 hp
    rcases hs g er _ _ h1.facts.1 with ⟨z, hz⟩ | ⟨v, hv⟩
    · simp at hz
    · simp [sv] at hv
  refine ⟨g, off, e, Nat.lt_of_lt_of_le hlt hg.size, fun i hi => ?_⟩
  obtain ⟨b, a, l, c, h1, h2⟩ := hc i hi
  exact ⟨b, a, l, c, h1.of_block hg.size (hg.block g hlt (Ne.symm hne)), hR h2 hg hs.noLimb⟩
theorem vf_step {w w' : World} {row : Option Nat} {ao : Option Addr} {n cap k : Nat} {zs : List Int} (h : VF w ao n cap zs k) (hg : w.grownBy w' row) (hs : OnlyStep w row) : VF w' ao n cap zs k := vecOf_step (R := fun w b a l c z => FK w b a l c z k) (fun h hg hn => FK.grown h hg hn) h hg hs
theorem vk_step {w w' : World} {row : Option Nat} {ao : Option Addr} {n cap k : Nat} {zs : List Int} (h : VK w ao n cap zs k) (hg : w.grownBy w' row) (hs : OnlyStep w row) : VK w' ao n cap zs k := vecOf_step (R := fun w b a l c z => IK w b a l c z k) (fun h hg hn => IK.grown h hg hn) h hg hs

/-- The slice reads as steps with pivots p and rows rs. -/
structure SRows (w : World) (ao : Option Addr) (n cap : Nat) (p : Nat → Nat) (rs : List (List Int)) (k : Nat) : Prop where
  len_eq : rs.length = n
  cap_le : n ≤ cap
  cap_max : cap ≤ maxLen
  nil_cap : ao = none → cap = 0
  elts : 0 < n → ∃ g off, ao = some ⟨g, off, none⟩ ∧ g < w.heap.size ∧ ∀ i, i < n → ∃ a l c, w.cell? ⟨g, off + i * 2, none⟩ = some (.int .i64 (p i : Int)) ∧ w.cell? ⟨g, off + i * 2 + 1, none⟩ = some (.slice a l c) ∧ VF w a l c (rs.getD i []) k
theorem SRows.later {w w' : World} {ao : Option Addr} {n cap k : Nat} {p : Nat → Nat} {rs : List (List Int)} (h : SRows w ao n cap p rs k) (hb : Below w.heap.size w w') : SRows w' ao n cap p rs k := by
  refine ⟨h.len_eq, h.cap_le, h.cap_max, h.nil_cap, fun hp => ?_⟩
  obtain ⟨g, off, e, hg, hc⟩ := h.elts hp
  refine ⟨g, off, e, Nat.lt_of_lt_of_le hg hb.size, fun i hi => ?_⟩
  obtain ⟨a, l, c, h1, h2, h3⟩ := hc i hi
  exact ⟨a, l, c, (hb.cell (p := ⟨g, off + i * 2, none⟩) hg).trans h1, (hb.cell (p := ⟨g, off + i * 2 + 1, none⟩) hg).trans h2, h3.later hb⟩
theorem SRows.at {w : World} {g off n cap k : Nat} {p : Nat → Nat} {rs : List (List Int)} (h : SRows w (some ⟨g, off, none⟩) n cap p rs k) {i : Nat} (hi : i < n) : g < w.heap.size ∧ ∃ a l c, w.cell? ⟨g, off + i * 2, none⟩ = some (.int .i64 (p i : Int)) ∧ w.cell? ⟨g, off + i * 2 + 1, none⟩ = some (.slice a l c) ∧ VF w a l c (rs.getD i []) k := by
  obtain ⟨g', off', e, hg, hc⟩ := h.elts (by omega)
  simp only [Option.some.injEq, Addr.mk.injEq, and_true] at e
  obtain ⟨rfl, rfl⟩ := e
  exact ⟨hg, hc i hi⟩
theorem SRows.some {w : World} {ao : Option Addr} {n cap k : Nat} {p : Nat → Nat} {rs : List (List Int)} (h : SRows w ao n cap p rs k) (hp : 0 < n) : ∃ g off, ao = some ⟨g, off, none⟩ := by
  obtain ⟨g, off, e, _⟩ := h.elts hp
  exact ⟨g, off, e⟩
theorem ent_row (rs : List (List Int)) (i j : Nat) : (rs.getD i []).getD j 0 = ent rs i j := rfl
theorem SRows.tight {w : World} {ao : Option Addr} {n cap K k : Nat} {p : Nat → Nat} {rs : List (List Int)} (h : SRows w ao n cap p rs K) (hb : ∀ i, i < n → ∀ j, (ent rs i j).natAbs < Bp k) : SRows w ao n cap p rs k := by
  refine ⟨h.len_eq, h.cap_le, h.cap_max, h.nil_cap, fun hp => ?_⟩
  obtain ⟨g, off, e, hg, hc⟩ := h.elts hp
  refine ⟨g, off, e, hg, fun i hi => ?_⟩
  obtain ⟨a, l, c, h1, h2, h3⟩ := hc i hi
  exact ⟨a, l, c, h1, h2, vf_tight h3 fun j _ => hb i hi j⟩
theorem SRows.size {w : World} {ao : Option Addr} {n cap k : Nat} {p : Nat → Nat} {rs : List (List Int)} (h : SRows w ao n cap p rs k) (i : Nat) (hi : i < n) (j : Nat) : (ent rs i j).natAbs < Bp k := by
  obtain ⟨g, off, e, hg, hc⟩ := h.elts (by omega)
  obtain ⟨a, l, c, _, _, h3⟩ := hc i hi
  exact vf_size h3 j
theorem SRows.drop {w : World} {g off n cap k : Nat} {p : Nat → Nat} {rs : List (List Int)} (h : SRows w (.some ⟨g, off, none⟩) n cap p rs k) {q : Nat} (hq : q ≤ n) : SRows w (.some ⟨g, off + q * 2, none⟩) (n - q) (cap - q) (fun i => p (q + i)) (rs.drop q) k := by
  have h1 := h.cap_le
  have h2 := h.cap_max
  refine ⟨by rw [List.length_drop, h.len_eq], by omega, by omega, fun e => by simp at e, fun hp => ?_⟩
  obtain ⟨g', off', e, hg, he⟩ := h.elts (by omega)
  simp only [Option.some.injEq, Addr.mk.injEq, and_true] at e
  obtain ⟨rfl, rfl⟩ := e
  refine ⟨g, off + q * 2, rfl, hg, fun i hi => ?_⟩
  obtain ⟨a, l, c, h1, h2, h3⟩ := he (q + i) (by omega)
  refine ⟨a, l, c, ?_, ?_, ?_⟩
  · rw [show off + q * 2 + i * 2 = off + (q + i) * 2 by omega]; exact h1
  · rw [show off + q * 2 + i * 2 + 1 = off + (q + i) * 2 + 1 by omega]; exact h2
  · rw [show (rs.drop q).getD i [] = rs.getD (q + i) [] by simp [List.getD]]
    exact h3
theorem srows_nil (w : World) (p : Nat → Nat) (k : Nat) : SRows w none 0 0 p [] k := ⟨rfl, Nat.le_refl _, Nat.zero_le _, fun _ => rfl, fun h => absurd h (by omega)⟩
theorem SRows.empty {w : World} {g off cap k : Nat} {p : Nat → Nat} (h : cap ≤ maxLen) : SRows w (.some ⟨g, off, none⟩) 0 cap p [] k := ⟨rfl, Nat.zero_le _, h, fun e => by simp at e, fun h => absurd h (by omega)⟩

/-- Steps that the call itself made. -/
structure SOwn (w : World) (base : Nat) (ao : Option Addr) (n cap : Nat) (p : Nat → Nat) (rs : List (List Int)) (k : Nat) : Prop where
  row : ∃ cs, OwnP stepCell w base 79 2 (.slice ao n cap) n cs ∧ ∀ i, i < n → ∃ a l c, cs[i * 2]? = some (.int .i64 (p i : Int)) ∧ cs[i * 2 + 1]? = some (.slice a l c) ∧ VF w a l c (rs.getD i []) k
  len : rs.length = n
theorem sOwn_nil (w : World) (base : Nat) (p : Nat → Nat) (k : Nat) : SOwn w base none 0 0 p [] k := ⟨⟨[], ownP_nil _ _ _ _ _, fun i h => absurd h (by omega)⟩, rfl⟩
theorem SOwn.rows {w : World} {base : Nat} {ao : Option Addr} {n cap k : Nat} {p : Nat → Nat} {rs : List (List Int)} (h : SOwn w base ao n cap p rs k) : SRows w ao n cap p rs k := by
  obtain ⟨⟨cs, hrow, hall⟩, hl⟩ := h
  rcases hrow.form with ⟨e, e0⟩ | ⟨g, cap', e, hb, hg, hc, hm⟩
  · simp only [Value.slice.injEq] at e
    obtain ⟨rfl, rfl, rfl⟩ := e
    exact ⟨hl, Nat.le_refl _, Nat.zero_le _, fun _ => rfl, fun h => absurd h (by omega)⟩
  · simp only [Value.slice.injEq, true_and] at e
    obtain ⟨rfl, rfl⟩ := e
    refine ⟨hl, hc, hm, fun e => by simp at e, fun _ => ⟨g, 0, rfl, hg, fun i hi => ?_⟩⟩
    obtain ⟨a, l, c, h1, h2, h3⟩ := hall i hi
    refine ⟨a, l, c, ?_, ?_, h3⟩
    · rw [Nat.zero_add, hrow.cell (j := i * 2) (by omega)]; exact h1
    · rw [Nat.zero_add, hrow.cell (j := i * 2 + 1) (by omega)]; exact h2
theorem SOwn.later {w w' : World} {base : Nat} {ao : Option Addr} {n cap k : Nat} {p : Nat → Nat} {rs : List (List Int)} (h : SOwn w base ao n cap p rs k) (hb : Below w.heap.size w w') : SOwn w' base ao n cap p rs k := by
  obtain ⟨⟨cs, hrow, hall⟩, hl⟩ := h
  refine ⟨⟨cs, hrow.later hb, fun i hi => ?_⟩, hl⟩
  obtain ⟨a, l, c, h1, h2, h3⟩ := hall i hi
  exact ⟨a, l, c, h1, h2, h3.later hb⟩
theorem SOwn.onlyStep {w : World} {base : Nat} {ao : Option Addr} {n cap k : Nat} {p : Nat → Nat} {rs : List (List Int)} (h : SOwn w base ao n cap p rs k) : OnlyStep w (Value.slice ao n cap).ownBlock := by
  obtain ⟨⟨cs, hrow, _⟩, _⟩ := h
  exact fun g hg j u e => hrow.all g hg j u e
theorem SOwn.nil_or {w : World} {base : Nat} {ao : Option Addr} {n cap k : Nat} {p : Nat → Nat} {rs : List (List Int)} (h : SOwn w base ao n cap p rs k) : (ao = none ∧ n = 0 ∧ cap = 0) ∨ ∃ g, ao = some ⟨g, 0, none⟩ := by
  obtain ⟨⟨cs, hrow, _⟩, _⟩ := h
  rcases hrow.form with ⟨e, e0⟩ | ⟨g, cap', e, _⟩
  · simp only [Value.slice.injEq] at e
    exact Or.inl e
  · simp only [Value.slice.injEq, true_and] at e
    exact Or.inr ⟨g, e.1⟩
theorem SOwn.tight {w : World} {base : Nat} {ao : Option Addr} {n cap K k : Nat} {p : Nat → Nat} {rs : List (List Int)} (h : SOwn w base ao n cap p rs K) (hb : ∀ i, i < n → ∀ j, (ent rs i j).natAbs < Bp k) : SOwn w base ao n cap p rs k := by
  obtain ⟨⟨cs, hrow, hall⟩, hl⟩ := h
  refine ⟨⟨cs, hrow, fun i hi => ?_⟩, hl⟩
  obtain ⟨a, l, c, h1, h2, h3⟩ := hall i hi
  exact ⟨a, l, c, h1, h2, vf_tight h3 fun j _ => hb i hi j⟩
theorem SOwn.pivots {w : World} {base : Nat} {ao : Option Addr} {n cap k : Nat} {p q : Nat → Nat} {rs : List (List Int)} (h : SOwn w base ao n cap p rs k) (hq : ∀ i, i < n → q i = p i) : SOwn w base ao n cap q rs k := by
  obtain ⟨⟨cs, hrow, hall⟩, hl⟩ := h
  refine ⟨⟨cs, hrow, fun i hi => ?_⟩, hl⟩
  rw [hq i hi]; exact hall i hi
theorem SOwn.free {w : World} {base g n cap k : Nat} {p : Nat → Nat} {rs : List (List Int)} (h : SOwn w base (some ⟨g, 0, none⟩) n cap p rs k) (j : Nat) : w.frozen? ⟨g, j, none⟩ = false := by
  obtain ⟨⟨cs, hrow, _⟩, _⟩ := h
  exact hrow.free j
theorem SOwn.base_le {w : World} {base g n cap k : Nat} {p : Nat → Nat} {rs : List (List Int)} (h : SOwn w base (some ⟨g, 0, none⟩) n cap p rs k) : base ≤ g ∧ g < w.heap.size := by
  obtain ⟨⟨cs, hrow, _⟩, _⟩ := h
  exact hrow.own.lt g rfl
theorem SOwn.ge {w : World} {base : Nat} {ao : Option Addr} {n cap k : Nat} {p : Nat → Nat} {rs : List (List Int)} (h : SOwn w base ao n cap p rs k) : ∀ g, (Value.slice ao n cap).ownBlock = some g → base ≤ g := by
  obtain ⟨⟨cs, hrow, _⟩, _⟩ := h
  exact fun g e => (hrow.own.lt g e).1
/-- Another block is written. -/
theorem SOwn.other {w w' : World} {base : Nat} {row : Option Nat} {ao : Option Addr} {n cap k : Nat} {p : Nat → Nat} {rs : List (List Int)} (h : SOwn w base ao n cap p rs k) (hg : w.grownBy w' row) (hs : OnlyStep w row) (hne : (Value.slice ao n cap).ownBlock = none ∨ (Value.slice ao n cap).ownBlock ≠ row) : SOwn w' base ao n cap p rs k := by
  obtain ⟨⟨cs, hrow, hall⟩, hl⟩ := h
  refine ⟨⟨cs, hrow.grown hg hne, fun i hi => ?_⟩, hl⟩
  obtain ⟨a, l, c, h1, h2, h3⟩ := hall i hi
  exact ⟨a, l, c, h1, h2, vf_step h3 hg hs⟩
/-- A row is written. -/
theorem SOwn.setRow {w : World} {base g n cap k : Nat} {p : Nat → Nat} {rs : List (List Int)} (h : SOwn w base (some ⟨g, 0, none⟩) n cap p rs k) {i : Nat} (hi : i < n) {a : Option Addr} {l c : Nat} {zs : List Int} (hz : VF w a l c zs k) : SOwn (w.setCell ⟨g, i * 2 + 1, none⟩ (.slice a l c)) base (some ⟨g, 0, none⟩) n cap p (rs.set i zs) k := by
  have hos := h.onlyStep
  have hgr := grown_set1 w g (i * 2 + 1) (.slice a l c)
  obtain ⟨⟨cs, hrow, hall⟩, hl⟩ := h
  have hcl := hrow.len
  refine ⟨⟨_, hrow.set (i * 2 + 1) (Or.inr ⟨(a, l, c), rfl⟩), fun j hj => ?_⟩, by rw [List.length_set]; exact hl⟩
  by_cases e : j = i
  · subst e
    obtain ⟨a0, l0, c0, h1, _, _⟩ := hall j hj
    refine ⟨a, l, c, ?_, ?_, ?_⟩
    · rw [List.getElem?_set_ne (by omega)]; exact h1
    · rw [List.getElem?_set_self (by omega)]
    · rw [show (rs.set j zs).getD j [] = zs by simp [List.getD, show j < rs.length by omega]]
      exact vf_step hz hgr hos
  · obtain ⟨a0, l0, c0, h1, h2, h3⟩ := hall j hj
    refine ⟨a0, l0, c0, ?_, ?_, ?_⟩
    · rw [List.getElem?_set_ne (by omega)]; exact h1
    · rw [List.getElem?_set_ne (by omega)]; exact h2
    · rw [show (rs.set i zs).getD j [] = rs.getD j [] by simp [List.getD, List.getElem?_set_ne (Ne.symm e)]]
      exact vf_step h3 hgr hos
/-- A step is written. -/
theorem SOwn.setStep {w : World} {base g n cap k : Nat} {p : Nat → Nat} {rs : List (List Int)} (h : SOwn w base (some ⟨g, 0, none⟩) n cap p rs k) {i : Nat} (hi : i < n) {q : Nat} {a : Option Addr} {l c : Nat} {zs : List Int} (hz : VF w a l c zs k) : SOwn ((w.setCell ⟨g, i * 2, none⟩ (.int .i64 (q : Int))).setCell ⟨g, i * 2 + 1, none⟩ (.slice a l c)) base (some ⟨g, 0, none⟩) n cap (fun t => if t = i then q else p t) (rs.set i zs) k := by
  have hos := h.onlyStep
  have hgr := grown_set1 w g (i * 2) (.int .i64 (q : Int))
  have hz' := vf_step hz hgr hos
  obtain ⟨⟨cs, hrow, hall⟩, hl⟩ := h
  have hcl := hrow.len
  have h' : SOwn (w.setCell ⟨g, i * 2, none⟩ (.int .i64 (q : Int))) base (some ⟨g, 0, none⟩) n cap (fun t => if t = i then q else p t) rs k := by
    refine ⟨⟨_, hrow.set (i * 2) (Or.inl ⟨_, rfl⟩), fun j hj => ?_⟩, hl⟩
    obtain ⟨a0, l0, c0, h1, h2, h3⟩ := hall j hj
    refine ⟨a0, l0, c0, ?_, ?_, vf_step h3 hgr hos⟩
    · by_cases e : j = i
      · subst e
        rw [List.getElem?_set_self (by omega)]
        show _ = some (Value.int .i64 (((if j = j then q else p j : Nat)) : Int))
        rw [if_pos rfl]
      · rw [List.getElem?_set_ne (by omega)]
        show _ = some (Value.int .i64 (((if j = i then q else p j : Nat)) : Int))
        rw [if_neg e]; exact h1
    · rw [List.getElem?_set_ne (by omega)]; exact h2
  exact h'.setRow hi hz'
theorem info_step : (Tryz.prog.info? 79).map (fun i => (i.zero, i.size, i.bytes)) = some (some (.agg #[.int .i64 0, .slice none 0 0]), 2, 32) := by kernel_rfl
theorem step_zero : ∀ u ∈ (Value.agg #[.int .i64 0, .slice none 0 0]).cells, stepCell u := fun u hu => by
  simp [Value.cells] at hu
  rcases hu with rfl | rfl
  · exact Or.inl ⟨_, rfl⟩
  · exact Or.inr ⟨(none, 0, 0), rfl⟩
set_option maxHeartbeats 1000000 in
/-- append(own steps, a step). -/
theorem run_append_step (t ty : TypeId) (ht : Tryz.prog.underlying t = some (.slice 79)) (w : World) (base : Nat) (ao : Option Addr) (n cap k : Nat) (p : Nat → Nat) (rs : List (List Int)) (hown : SOwn w base ao n cap p rs k) (g q : Nat) (a : Option Addr) (l c : Nat) (zs : List Int) (h1 : w.cell? ⟨g, 0, none⟩ = some (.int .i64 (q : Int))) (h2 : w.cell? ⟨g, 1, none⟩ = some (.slice a l c)) (hz : VF w a l c zs k) (hn : n + 1 ≤ 1000000) (hbase : base ≤ w.heap.size) :
    ∃ ao' cap' w', (Builtin.append_ #[t, t] ty #[.slice ao n cap, .slice (some ⟨g, 0, none⟩) 1 1]).run Tryz.prog w = .ok (.slice ao' (n + 1) cap') w' ∧ SOwn w' base ao' (n + 1) cap' (fun t => if t = n then q else p t) (rs ++ [zs]) k ∧ w.grownBy w' (Value.slice ao n cap).ownBlock := by
  obtain ⟨i0, hi, hz0, hz1, hz2⟩ := info_parts info_step
  have hos := hown.onlyStep
  obtain ⟨⟨cs, hrow, hall⟩, hl⟩ := hown
  have hcl := hrow.len
  obtain ⟨v', w', hrun, hrow', hgr, hat⟩ := run_append_P (p := stepCell) w base t ty 79 i0 (.agg #[.int .i64 0, .slice none 0 0]) 2 32 ht hi hz0 hz1 hz2 rfl (by decide) step_zero _ n _ hrow ⟨g, 0, none⟩ 1 1 [.int .i64 (q : Int), .slice a l c] rfl (fun j u hj => by
      rw [Addr.add_lit, Nat.zero_add]
      match j with
      | 0 => simp at hj; subst hj; exact h1
      | 1 => simp at hj; subst hj; exact h2
      | j + 2 => simp at hj) (fun u hu => by
      simp at hu
      rcases hu with rfl | rfl <;> rfl) (fun u hu => by
      simp at hu
      rcases hu with rfl | rfl
      · exact Or.inl ⟨_, rfl⟩
      · exact Or.inr ⟨(a, l, c), rfl⟩) (by unfold maxLen; omega) (by omega) hbase
  rcases hrow'.form with ⟨_, h⟩ | ⟨g', cap', rfl, _⟩
  · omega
  · refine ⟨_, _, w', hrun, ⟨⟨_, hrow', fun i hi => ?_⟩, by simp [hl]⟩, hgr⟩
    by_cases hin : i < n
    · obtain ⟨a0, l0, c0, e1, e2, e3⟩ := hall i hin
      refine ⟨a0, l0, c0, ?_, ?_, ?_⟩
      · rw [List.getElem?_append_left (by omega), e1, if_neg (by omega)]
      · rw [List.getElem?_append_left (by omega)]; exact e2
      · rw [getD_left (by omega)]; exact vf_step e3 hgr hos
    · obtain rfl : i = n := by omega
      refine ⟨a, l, c, ?_, ?_, ?_⟩
      · rw [List.getElem?_append_right (by omega), hcl, if_pos rfl]; simp
      · rw [List.getElem?_append_right (by omega), hcl]; simp [show i * 2 + 1 - i * 2 = 1 by omega]
      · rw [getD_right (by omega), hl, Nat.sub_self]; exact vf_step hz hgr hos
theorem append_step {w : World} {ops : Array Oper} {rest : List Oper} {o : Oper} {ac : Act} {Q : Exit → Act → World → Prop} (hgd : o.guard = none) (s x : Operand) (t : TypeId) (ht : Tryz.prog.underlying t = some (.slice 79))
    (ho : o.op = .call { callee := .builtin .append, args := #[s, x], argTypes := #[t, t] }) (base : Nat) (ao : Option Addr) (n cap k : Nat) (p : Nat → Nat) (rs : List (List Int)) (hs : ac.eval s = .slice ao n cap) (hown : SOwn w base ao n cap p rs k) (g q : Nat) (a : Option Addr) (l c : Nat) (zs : List Int) (hx : ac.eval x = .slice (some ⟨g, 0, none⟩) 1 1) (h1 : w.cell? ⟨g, 0, none⟩ = some (.int .i64 (q : Int))) (h2 : w.cell? ⟨g, 1, none⟩ = some (.slice a l c)) (hz : VF w a l c zs k) (hn : n + 1 ≤ 1000000) (hbase : base ≤ w.heap.size)
    (h : ∀ ao' cap' w', SOwn w' base ao' (n + 1) cap' (fun t => if t = n then q else p t) (rs ++ [zs]) k → w.grownBy w' (Value.slice ao n cap).ownBlock → wpList Tryz.prog ops Q rest (ac.put o.dst (.slice ao' (n + 1) cap')) w') : wpList Tryz.prog ops Q (o :: rest) ac w := by
  refine wpList_plain hgd fun K hK => ?_
  obtain ⟨ao', cap', w', hrun, h1, h2⟩ := run_append_step t o.type ht w base ao n cap k p rs hown g q a l c zs h1 h2 hz hn hbase
  unfold Oper.wp
  simp [execOp, ho, resolve, invoke, builtin, hs, hx, hrun, Result.andThen]
  exact hK _ _ (h ao' cap' w' h1 h2)

/-- A block that holds a step. -/
def SBox (w : World) (g : Nat) (z : Int) (ao : Option Addr) (len cap : Nat) : Prop := w.heap[g]? = some (.cells #[.int .i64 z, .slice ao len cap] 79)
theorem SBox.lt {w : World} {g : Nat} {z : Int} {ao : Option Addr} {len cap : Nat} (h : SBox w g z ao len cap) : g < w.heap.size := lt_of_block h
theorem SBox.facts {w : World} {g : Nat} {z : Int} {ao : Option Addr} {len cap : Nat} (h : SBox w g z ao len cap) : w.cell? ⟨g, 0, none⟩ = some (.int .i64 z) ∧ w.cell? ⟨g, 1, none⟩ = some (.slice ao len cap) ∧ w.frozen? ⟨g, 0, none⟩ = false ∧ w.frozen? ⟨g, 1, none⟩ = false := by
  unfold SBox at h
  refine ⟨?_, ?_, ?_, ?_⟩ <;> simp [World.cell?, World.frozen?, h]
theorem SBox.onlyStep {w : World} {g : Nat} {z : Int} {ao : Option Addr} {len cap : Nat} (h : SBox w g z ao len cap) : OnlyStep w (some g) := by
  intro g' e j u hu
  simp only [Option.some.injEq] at e
  subst e
  unfold SBox at h
  match j with
  | 0 => simp [World.cell?, h] at hu; exact Or.inl ⟨_, hu.symm⟩
  | 1 => simp [World.cell?, h] at hu; exact Or.inr ⟨(ao, len, cap), hu.symm⟩
  | j + 2 => simp [World.cell?, h] at hu
theorem SBox.later {w w' : World} {g : Nat} {z : Int} {ao : Option Addr} {len cap : Nat} (h : SBox w g z ao len cap) (hb : Below w.heap.size w w') : SBox w' g z ao len cap := by
  unfold SBox at *
  rw [hb.block g (lt_of_block h)]; exact h
theorem sbox_new (w : World) (z : Int) (ao : Option Addr) (len cap : Nat) {n : Nat} (hn : n = w.heap.size) : SBox (w.alloc (.cells #[.int .i64 z, .slice ao len cap] 79)) n z ao len cap := by
  subst hn
  unfold SBox
  show (w.heap.push _)[w.heap.size]? = _
  simp
/-- A world in which the step in block g was written anew. -/
def sput (w : World) (g : Nat) (z : Int) (ao : Option Addr) (len cap : Nat) : World := (w.setCell ⟨g, 0, none⟩ (.int .i64 z)).setCell ⟨g, 1, none⟩ (.slice ao len cap)
theorem SBox.put {w : World} {g : Nat} {z : Int} {ao : Option Addr} {len cap : Nat} (h : SBox w g z ao len cap) (z' : Int) (ao' : Option Addr) (len' cap' : Nat) : SBox (sput w g z' ao' len' cap') g z' ao' len' cap' := by
  have hl := h.lt
  unfold SBox at *
  unfold sput
  have h' : w.heap[g]'hl = .cells #[.int .i64 z, .slice ao len cap] 79 := by
    rw [Array.getElem?_eq_getElem hl] at h
    exact Option.some.inj h
  simp [World.setCell, Array.getElem_modify, h', hl]
theorem grown_sput (w : World) (g : Nat) (z : Int) (ao : Option Addr) (len cap : Nat) : w.grownBy (sput w g z ao len cap) (some g) := (grown_set1 w g 0 (.int .i64 z)).trans (grown_set1 _ g 1 (.slice ao len cap))
theorem SBox.other {w w' : World} {row : Option Nat} {g : Nat} {z : Int} {ao : Option Addr} {len cap : Nat} (h : SBox w g z ao len cap) (hg : w.grownBy w' row) (hne : row ≠ some g) : SBox w' g z ao len cap := by
  have hl := h.lt
  unfold SBox at *
  rw [hg.block g hl (Ne.symm hne)]; exact h
theorem sput_size (w : World) (g : Nat) (z : Int) (ao : Option Addr) (len cap : Nat) : (sput w g z ao len cap).heap.size = w.heap.size := by
  unfold sput
  simp [World.setCell]

#print axioms SOwn.setStep
#print axioms run_append_step
#print axioms SBox.put
end Go.Proofs.YtjebmlogchoehaaGreat
