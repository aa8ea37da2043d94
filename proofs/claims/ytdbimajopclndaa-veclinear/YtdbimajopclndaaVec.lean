/-
  What a slice of Ints reads as in a world ('VecOf': each element meets R), a vector that the call itself made ('OwnV'), and what append, make and a store into it do.
-/
import Derived.Test.YtdbimajopclndaaQK
import Derived.Maps.AppendAt
import Derived.Lib.SmallJoins
namespace Go.Proofs.Ytdbimajopclndaa
open Go.RowKit Lb

/-- Two cells that hold an Int. -/
def EltAt (w : World) (g o : Nat) (b : Bool) (a : Option Addr) (l c : Nat) : Prop := g < w.heap.size ∧ w.cell? ⟨g, o, none⟩ = some (.bool b) ∧ w.cell? ⟨g, o + 1, none⟩ = some (.slice a l c)
theorem EltAt.later {w w' : World} {g o : Nat} {b : Bool} {a : Option Addr} {l c : Nat} (h : EltAt w g o b a l c) (hb : Below w.heap.size w w') : EltAt w' g o b a l c :=
  ⟨Nat.lt_of_lt_of_le h.1 hb.size, (hb.cell (p := ⟨g, o, none⟩) h.1).trans h.2.1, (hb.cell (p := ⟨g, o + 1, none⟩) h.1).trans h.2.2⟩
theorem EltAt.facts {w : World} {g o : Nat} {b : Bool} {a : Option Addr} {l c : Nat} (h : EltAt w g o b a l c) : w.cell? ⟨g, o, none⟩ = some (.bool b) ∧ w.cell? ⟨g, o + 1, none⟩ = some (.slice a l c) := h.2
theorem EltAt.of_block {w w' : World} {g o : Nat} {b : Bool} {a : Option Addr} {l c : Nat} (h : EltAt w g o b a l c) (hs : w.heap.size ≤ w'.heap.size) (e : w'.heap[g]? = w.heap[g]?) : EltAt w' g o b a l c :=
  ⟨Nat.lt_of_lt_of_le h.1 hs, (World.cell?_of_block (a := ⟨g, o, none⟩) e).trans h.2.1, (World.cell?_of_block (a := ⟨g, o + 1, none⟩) e).trans h.2.2⟩
/-- The slice reads as the whole numbers zs: each element meets R. -/
structure VecOf (R : World → Bool → Option Addr → Nat → Nat → Int → Prop) (w : World) (ao : Option Addr) (n cap : Nat) (zs : List Int) : Prop where
  len_eq : zs.length = n
  cap_le : n ≤ cap
  cap_max : cap ≤ maxLen
  nil_cap : ao = none → cap = 0
  elts : 0 < n → ∃ g off, ao = some ⟨g, off, none⟩ ∧ g < w.heap.size ∧ ∀ i, i < n → ∃ b a l c, EltAt w g (off + i * 2) b a l c ∧ R w b a l c (zs.getD i 0)
/-- .. whatever their forms. -/
def VI (w : World) (ao : Option Addr) (n cap : Nat) (zs : List Int) : Prop := VecOf IntAt w ao n cap zs
/-- .. each below k limbs. -/
def VK (w : World) (ao : Option Addr) (n cap : Nat) (zs : List Int) (k : Nat) : Prop := VecOf (fun w b a l c z => IK w b a l c z k) w ao n cap zs
/-- .. each in its one form. -/
def VF (w : World) (ao : Option Addr) (n cap : Nat) (zs : List Int) (k : Nat) : Prop := VecOf (fun w b a l c z => FK w b a l c z k) w ao n cap zs
theorem VecOf.later {R : World → Bool → Option Addr → Nat → Nat → Int → Prop} (hR : ∀ {w w' : World} {b a l c z}, R w b a l c z → Below w.heap.size w w' → R w' b a l c z) {w w' : World} {ao : Option Addr} {n cap : Nat} {zs : List Int} (h : VecOf R w ao n cap zs) (hb : Below w.heap.size w w') : VecOf R w' ao n cap zs := by
  refine ⟨h.len_eq, h.cap_le, h.cap_max, h.nil_cap, fun hp => ?_⟩
  obtain ⟨g, off, e, hg, hc⟩ := h.elts hp
  refine ⟨g, off, e, Nat.lt_of_lt_of_le hg hb.size, fun i hi => ?_⟩
  obtain ⟨b, a, l, c, h1, h2⟩ := hc i hi
  exact ⟨b, a, l, c, h1.later hb, hR h2 hb⟩
theorem VI.later {w w' : World} {ao : Option Addr} {n cap : Nat} {zs : List Int} (h : VI w ao n cap zs) (hb : Below w.heap.size w w') : VI w' ao n cap zs := VecOf.later (fun h hb => h.later hb) h hb
theorem VK.later {w w' : World} {ao : Option Addr} {n cap k : Nat} {zs : List Int} (h : VK w ao n cap zs k) (hb : Below w.heap.size w w') : VK w' ao n cap zs k := VecOf.later (fun h hb => h.later hb) h hb
theorem VF.later {w w' : World} {ao : Option Addr} {n cap k : Nat} {zs : List Int} (h : VF w ao n cap zs k) (hb : Below w.heap.size w w') : VF w' ao n cap zs k := VecOf.later (fun h hb => h.later hb) h hb
theorem VecOf.mono {R R' : World → Bool → Option Addr → Nat → Nat → Int → Prop} {w : World} {ao : Option Addr} {n cap : Nat} {zs : List Int} (h : VecOf R w ao n cap zs) (hR : ∀ {i b a l c}, i < n → R w b a l c (zs.getD i 0) → R' w b a l c (zs.getD i 0)) : VecOf R' w ao n cap zs := by
  refine ⟨h.len_eq, h.cap_le, h.cap_max, h.nil_cap, fun hp => ?_⟩
  obtain ⟨g, off, e, hg, hc⟩ := h.elts hp
  refine ⟨g, off, e, hg, fun i hi => ?_⟩
  obtain ⟨b, a, l, c, h1, h2⟩ := hc i hi
  exact ⟨b, a, l, c, h1, hR hi h2⟩
theorem VF.vk {w : World} {ao : Option Addr} {n cap k : Nat} {zs : List Int} (h : VF w ao n cap zs k) (hk : k ≤ 999990) : VK w ao n cap zs k := VecOf.mono h (fun _ h => h.ik hk)
theorem VK.vi {w : World} {ao : Option Addr} {n cap k : Nat} {zs : List Int} (h : VK w ao n cap zs k) : VI w ao n cap zs := VecOf.mono h (fun _ h => h.1)
theorem VF.le {w : World} {ao : Option Addr} {n cap k l : Nat} {zs : List Int} (h : VF w ao n cap zs k) (hl : ∀ i, i < n → (zs.getD i 0).natAbs < Bp l) : VF w ao n cap zs l := VecOf.mono h (fun hi h => h.le (hl _ hi))
theorem VF.eq {w : World} {ao : Option Addr} {n cap k : Nat} {zs zs' : List Int} (h : VF w ao n cap zs k) (e : zs = zs') : VF w ao n cap zs' k := e ▸ h
theorem VK.lt {w : World} {ao : Option Addr} {n cap k : Nat} {zs : List Int} (h : VK w ao n cap zs k) {i : Nat} (hi : i < n) : (zs.getD i 0).natAbs < Bp k := by
  obtain ⟨g, off, e, hg, hc⟩ := h.elts (by omega)
  obtain ⟨b, a, l, c, h1, h2⟩ := hc i hi
  exact h2.2.2
theorem VF.lt {w : World} {ao : Option Addr} {n cap k : Nat} {zs : List Int} (h : VF w ao n cap zs k) {i : Nat} (hi : i < n) : (zs.getD i 0).natAbs < Bp k := by
  obtain ⟨g, off, e, hg, hc⟩ := h.elts (by omega)
  obtain ⟨b, a, l, c, h1, h2⟩ := hc i hi
  exact h2.2
/-- Element i, with its place. -/
theorem VK.at {w : World} {g off n cap k : Nat} {zs : List Int} (h : VK w (some ⟨g, off, none⟩) n cap zs k) {i : Nat} (hi : i < n) : ∃ b a l c, EltAt w g (off + i * 2) b a l c ∧ IK w b a l c (zs.getD i 0) k := by
  obtain ⟨g', off', e, hg, hc⟩ := h.elts (by omega)
  simp only [Option.some.injEq, Addr.mk.injEq, and_true] at e
  obtain ⟨rfl, rfl⟩ := e
  exact hc i hi
theorem VF.at {w : World} {g off n cap k : Nat} {zs : List Int} (h : VF w (some ⟨g, off, none⟩) n cap zs k) {i : Nat} (hi : i < n) : ∃ b a l c, EltAt w g (off + i * 2) b a l c ∧ FK w b a l c (zs.getD i 0) k := by
  obtain ⟨g', off', e, hg, hc⟩ := h.elts (by omega)
  simp only [Option.some.injEq, Addr.mk.injEq, and_true] at e
  obtain ⟨rfl, rfl⟩ := e
  exact hc i hi
theorem VI.at {w : World} {g off n cap : Nat} {zs : List Int} (h : VI w (some ⟨g, off, none⟩) n cap zs) {i : Nat} (hi : i < n) : ∃ b a l c, EltAt w g (off + i * 2) b a l c ∧ IntAt w b a l c (zs.getD i 0) := by
  obtain ⟨g', off', e, hg, hc⟩ := h.elts (by omega)
  simp only [Option.some.injEq, Addr.mk.injEq, and_true] at e
  obtain ⟨rfl, rfl⟩ := e
  exact hc i hi
theorem VecOf.some {R : World → Bool → Option Addr → Nat → Nat → Int → Prop} {w : World} {ao : Option Addr} {n cap : Nat} {zs : List Int} (h : VecOf R w ao n cap zs) (hp : 0 < n) : ∃ g off, ao = some ⟨g, off, none⟩ := by
  obtain ⟨g, off, e, _⟩ := h.elts hp
  exact ⟨g, off, e⟩
theorem vf_nil (w : World) (k : Nat) : VF w none 0 0 [] k := ⟨rfl, Nat.le_refl _, Nat.zero_le _, fun _ => rfl, fun h => absurd h (by omega)⟩

theorem info_int : (Try.prog.info? 26).map (fun i => (i.zero, i.size, i.bytes)) = some (some (.agg #[.bool false, .slice none 0 0]), 2, 32) := by kernel_rfl
/-- A vector that the call itself made, from block 'base' on; no cell of its block is a limb. -/
def OwnV (w : World) (base : Nat) (ao : Option Addr) (n cap : Nat) (zs : List Int) (k : Nat) : Prop :=
  VF w ao n cap zs k ∧ (∃ cs, w.ownsRow base 26 2 (.slice ao n cap) n cs) ∧ ∀ g off, ao = some ⟨g, off, none⟩ → NoLimb w g
theorem ownV_nil (w : World) (base k : Nat) : OwnV w base none 0 0 [] k := ⟨vf_nil w k, ⟨[], World.ownsRow_nil w base _ 2⟩, fun _ _ e => by simp at e⟩
theorem OwnV.later {w w' : World} {base : Nat} {ao : Option Addr} {n cap k : Nat} {zs : List Int} (h : OwnV w base ao n cap zs k) (hb : Below w.heap.size w w') : OwnV w' base ao n cap zs k := by
  obtain ⟨h1, ⟨cs, h2⟩, h3⟩ := h
  have h2' := h2
  refine ⟨h1.later hb, ⟨cs, h2.1, ?_⟩, ?_⟩
  · rcases h2.2 with h' | ⟨g, cap, cur, hv, hg, hh, r⟩
    · exact Or.inl h'
    · exact Or.inr ⟨g, cap, cur, hv, hg, by rw [hb.block g (lt_of_block hh)]; exact hh, r⟩
  · intro g off e
    subst e
    exact (h3 g off rfl).later hb (h2'.lt g rfl).2
theorem OwnV.base_le {w : World} {base g off : Nat} {n cap k : Nat} {zs : List Int} (h : OwnV w base (some ⟨g, off, none⟩) n cap zs k) : base ≤ g ∧ g < w.heap.size := by
  obtain ⟨h1, ⟨cs, h2⟩, h3⟩ := h
  exact h2.lt g rfl
theorem OwnV.form {w : World} {base : Nat} {ao : Option Addr} {n cap k : Nat} {zs : List Int} (h : OwnV w base ao n cap zs k) (hn : 0 < n) : ∃ g, ao = some ⟨g, 0, none⟩ := by
  obtain ⟨h1, ⟨cs, h2⟩, h3⟩ := h
  rcases h2.2 with ⟨_, h'⟩ | ⟨g, cap', cur, hv, _⟩
  · omega
  · simp only [Value.slice.injEq] at hv
    exact ⟨g, hv.1⟩
/-- The cells of Ints. -/
def ecells (es : List (Bool × Option Addr × Nat × Nat)) : List Value := es.flatMap fun e => [.bool e.1, .slice e.2.1 e.2.2.1 e.2.2.2]
theorem RowAt.grown {w w' : World} {ao : Option Addr} {len cap : Nat} {xs : List Nat} {row : Option Nat} (h : RowAt w ao len cap xs) (hg : w.grownBy w' row) (hn : ∀ g, row = some g → NoLimb w g) : RowAt w' ao len cap xs := by
  refine ⟨h.len_eq, h.cap_le, h.cap_max, h.nil_cap, h.small, fun hp => ?_⟩
  obtain ⟨b, off, e, hlt, hc⟩ := h.cells hp
  refine ⟨b, off, e, Nat.lt_of_lt_of_le hlt hg.size, fun i hi => ?_⟩
  refine (World.cell?_of_block (a := ⟨b, off + i, none⟩) (hg.block b hlt fun e' => ?_)).trans (hc i hi)
  exact hn b e'.symm _ _ (hc i hi)
theorem FK.grown {w w' : World} {b : Bool} {ao : Option Addr} {len cap k : Nat} {z : Int} {row : Option Nat} (h : FK w b ao len cap z k) (hg : w.grownBy w' row) (hn : ∀ g, row = some g → NoLimb w g) : FK w' b ao len cap z k := by
  obtain ⟨⟨⟨xs, h1, h2⟩, h3⟩, h4⟩ := h
  exact ⟨⟨⟨xs, h1.grown hg hn, h2⟩, h3⟩, h4⟩
theorem IK.grown {w w' : World} {b : Bool} {ao : Option Addr} {len cap k : Nat} {z : Int} {row : Option Nat} (h : IK w b ao len cap z k) (hg : w.grownBy w' row) (hn : ∀ g, row = some g → NoLimb w g) : IK w' b ao len cap z k := by
  obtain ⟨⟨N, ⟨xs, h1, h2⟩, h3⟩, h4⟩ := h
  exact ⟨⟨N, ⟨xs, h1.grown hg hn, h2⟩, h3⟩, h4⟩

theorem fk_zero (w : World) (k : Nat) : FK w false none 0 0 0 k := ⟨⟨numAt_nil w, rfl⟩, Bp_pos k⟩
theorem OwnV.parts {w : World} {base : Nat} {ao : Option Addr} {n cap k : Nat} {zs : List Int} (h : OwnV w base ao n cap zs k) : ∃ cs, w.ownsRow base 26 2 (.slice ao n cap) n cs ∧ ∀ i, i < n → ∃ b a l c, cs[i * 2]? = some (.bool b) ∧ cs[i * 2 + 1]? = some (.slice a l c) ∧ FK w b a l c (zs.getD i 0) k := by
  obtain ⟨hv, ⟨cs, hrow⟩, hnl⟩ := h
  refine ⟨cs, hrow, fun i hi => ?_⟩
  obtain ⟨g1, off1, e1, hg1, hc1⟩ := hv.elts (by omega)
  obtain ⟨b1, a1, l1, c1, h1, h2⟩ := hc1 i hi
  rcases hrow.2 with ⟨_, h⟩ | ⟨g0, cap0, cur, hv0, _⟩
  · omega
  · simp only [Value.slice.injEq] at hv0
    obtain ⟨e0, _, rfl⟩ := hv0
    rw [e0] at e1
    simp only [Option.some.injEq, Addr.mk.injEq, and_true] at e1
    obtain ⟨rfl, rfl⟩ := e1
    subst e0
    refine ⟨b1, a1, l1, c1, ?_, ?_, h2⟩
    · rw [← hrow.cellAt (i * 2) (by omega)]; simpa using h1.2.1
    · rw [← hrow.cellAt (i * 2 + 1) (by omega)]; simpa using h1.2.2
theorem ownV_of {w : World} {base g : Nat} {n cap k : Nat} {zs : List Int} {cs : List Value} (hrow : w.ownsRow base 26 2 (.slice (some ⟨g, 0, none⟩) n cap) n cs) (hl : zs.length = n) (hnl : NoLimb w g)
    (he : ∀ i, i < n → ∃ b a l c, cs[i * 2]? = some (.bool b) ∧ cs[i * 2 + 1]? = some (.slice a l c) ∧ FK w b a l c (zs.getD i 0) k) : OwnV w base (some ⟨g, 0, none⟩) n cap zs k := by
  have hlt := (hrow.lt g rfl).2
  have hc : n ≤ cap ∧ cap ≤ maxLen := by
    rcases hrow.2 with ⟨h, _⟩ | ⟨_, _, _, h, _, _, h3, h4, _⟩
    · simp at h
    · simp only [Value.slice.injEq, true_and] at h; omega
  refine ⟨⟨hl, hc.1, hc.2, fun e => by simp at e, fun _ => ⟨g, 0, rfl, hlt, fun i hi => ?_⟩⟩, ⟨cs, hrow⟩, fun g1 off1 e => ?_⟩
  · obtain ⟨b1, a1, l1, c1, h1, h2, h3⟩ := he i hi
    rw [Nat.zero_add]
    exact ⟨b1, a1, l1, c1, ⟨hlt, (hrow.cellAt (i * 2) (by omega)).trans h1, (hrow.cellAt (i * 2 + 1) (by omega)).trans h2⟩, h3⟩
  · simp only [Option.some.injEq, Addr.mk.injEq, and_true] at e
    obtain ⟨rfl, rfl⟩ := e
    exact hnl

theorem zero_cells {q : Nat} {x : Int} (h : Value.int .u32 x ∈ Builtin.zeroCells #[.bool false, .slice none 0 0] q) : False := by
  obtain ⟨j, hj⟩ := Array.mem_iff_getElem?.1 h
  unfold Builtin.zeroCells at hj
  simp only [Array.getElem?_map, Array.getElem?_range] at hj
  split at hj
  · have : j % 2 < 2 := Nat.mod_lt _ (by omega)
    rcases (by omega : j % 2 = 0 ∨ j % 2 = 1) with e | e <;> simp [e] at hj
  · simp at hj
set_option maxHeartbeats 2000000 in
/-- append(own vector, one Int), with the Int's cells in a block of its own. -/
theorem run_append_vec (t ty : TypeId) (ht : Try.prog.underlying t = some (.slice 26)) (w : World) (base : Nat) (ao : Option Addr) (n cap k : Nat) (zs : List Int) (hown : OwnV w base ao n cap zs k) (hn : n ≤ 1000000000) (hbase : base ≤ w.heap.size)
    (g o c' : Nat) (b : Bool) (a : Option Addr) (l c : Nat) (z : Int) (he : EltAt w g o b a l c) (hz : FK w b a l c z k) :
    ∃ g' cap' w', (Builtin.append_ #[t, t] ty #[.slice ao n cap, .slice (some ⟨g, o, none⟩) 1 c']).run Try.prog w = .ok (.slice (some ⟨g', 0, none⟩) (n + 1) cap') w' ∧ OwnV w' base (some ⟨g', 0, none⟩) (n + 1) cap' (zs ++ [z]) k ∧
      w.grownBy w' (Value.slice ao n cap).ownBlock ∧ (ao = some ⟨g', 0, none⟩ ∨ g' = w.heap.size) := by
  obtain ⟨cs, hrow, hcellOld⟩ := hown.parts
  obtain ⟨hv, _, hnl⟩ := hown
  obtain ⟨i0, hi, hz0, hz1, hz2⟩ := info_parts info_int
  have hnews : ∀ j u, [Value.bool b, .slice a l c][j]? = some u → w.cell? ((⟨g, o, none⟩ : Addr).add j) = some u := by
    intro j u hj
    rw [Addr.add_lit]
    match j with
    | 0 => simp at hj; rw [← hj]; exact he.2.1
    | 1 => simp at hj; rw [← hj]; exact he.2.2
    | j + 2 => simp at hj
  have h1c : ∀ u ∈ [Value.bool b, .slice a l c], u.oneCell' = true := by
    intro u hu
    simp at hu
    rcases hu with rfl | rfl <;> rfl
  have hn63 : n + 1 ≤ maxLen := by unfold maxLen; omega
  obtain ⟨v', w', hrun, hrow', hgr, _, hat⟩ := run_append_own_at (P := Try.prog) w base t ty 26 i0 (.agg #[.bool false, .slice none 0 0]) 2 32 ht hi hz0 hz1 hz2 rfl (by decide) _ n cs hrow ⟨g, o, none⟩ 1 c' [.bool b, .slice a l c] rfl hnews h1c hn63 (by omega) hbase
  -- no cell of the new row's block is a limb
  have hNo : ∀ g', v'.ownBlock = some g' → NoLimb w' g' := by
    have hnew : ∀ (C : Array Value) (q : Nat), w' = w.drew.alloc (.cells (C ++ #[.bool b, .slice a l c] ++ Builtin.zeroCells #[.bool false, .slice none 0 0] q) 26) → (∀ (j : Nat) (x : Int), C[j]? ≠ some (Value.int .u32 x)) → v'.ownBlock = some w.heap.size → ∀ g', v'.ownBlock = some g' → NoLimb w' g' := by
      intro C q hw hC hvb g' hg' j x hcell
      rw [hvb] at hg'
      simp only [Option.some.injEq] at hg'
      subst hg'
      have hh : w'.heap[w.heap.size]? = some (.cells (C ++ #[.bool b, .slice a l c] ++ Builtin.zeroCells #[.bool false, .slice none 0 0] q) 26) := by
        rw [hw]; exact heap_alloc_new w.drew _
      have hcell' : (C ++ #[.bool b, .slice a l c] ++ Builtin.zeroCells #[.bool false, .slice none 0 0] q)[j]? = some (.int .u32 x) := by
        rw [← Joins.cell_of_block hh j]; exact hcell
      have hmem := Array.mem_of_getElem? hcell'
      rw [Array.mem_append, Array.mem_append] at hmem
      rcases hmem with (h | h) | h
      · obtain ⟨j', hj'⟩ := Array.mem_iff_getElem?.1 h
        exact hC j' x hj'
      · simp at h
      · exact zero_cells h
    rcases hrow.2 with ⟨hv0, hn0⟩ | ⟨g0, cap0, cur, hv0, hbg, hg0, hnc, hcm, hcs, htake⟩
    · simp only [Value.slice.injEq] at hv0
      obtain ⟨rfl, rfl, rfl⟩ := hv0
      have hr := run_append_nil (P := Try.prog) w t ty 26 i0 (.agg #[.bool false, .slice none 0 0]) ht hi hz0 ⟨g, o, none⟩ 1 c' [.bool b, .slice a l c] (by rw [hz1]; rfl) hnews (by omega) (by omega) (by rw [hz2]; omega)
      rw [hr] at hrun
      injection hrun with e1 e2
      refine hnew #[] (grownCap w 1 0 26 - 1) ?_ (by simp) (by rw [← e1]; rfl)
      rw [← e2, Array.empty_append]
      rfl
    · have hv1 := hv0
      simp only [Value.slice.injEq] at hv0
      obtain ⟨rfl, _, rfl⟩ := hv0
      have hnl0 := hnl g0 0 rfl
      by_cases hroom : n + 1 ≤ cap
      · have hr := run_append_room (P := Try.prog) w t ty 26 i0 ht hi g0 n cap cur hg0 ⟨g, o, none⟩ 1 c' [.bool b, .slice a l c] (by rw [hz1]; rfl) hnews h1c hroom (by rw [hz1, hcs]; simp; omega)
        rw [hr] at hrun
        injection hrun with e1 e2
        intro g' hg' j x hcell
        rw [← e1] at hg'
        simp only [Value.ownBlock, Option.some.injEq] at hg'
        subst hg'
        rw [← e2, Joins.cell_of_block (setRow_heap w g0 cur _ _ _ hg0) j] at hcell
        have hmem := Array.mem_of_getElem? hcell
        rw [List.mem_toArray, List.mem_append, List.mem_append] at hmem
        have hcur : ∀ u ∈ cur.toList, u ≠ .int .u32 x := by
          intro u hu e
          obtain ⟨j', hj'⟩ := List.mem_iff_getElem?.1 hu
          refine hnl0 j' x ?_
          rw [Joins.cell_of_block hg0 j', ← Array.getElem?_toList, hj', e]
        rcases hmem with (h | h) | h
        · exact hcur _ (List.mem_of_mem_take h) rfl
        · simp at h
        · exact hcur _ (List.mem_of_mem_drop h) rfl
      · have hr := run_append_grow (P := Try.prog) w t ty 26 i0 (.agg #[.bool false, .slice none 0 0]) ht hi hz0 ⟨g0, 0, none⟩ n cap cs (by rw [hz1]; exact hrow.1) (hrow.cells (g := g0) rfl) ⟨g, o, none⟩ 1 c' [.bool b, .slice a l c] (by rw [hz1]; rfl) hnews (by omega) (by omega) (growslice_fits (by omega) (by rw [hz2]; omega))
        rw [hr] at hrun
        injection hrun with e1 e2
        refine hnew cs.toArray (grownCap w (n + 1) cap 26 - (n + 1)) ?_ ?_ (by rw [← e1]; rfl)
        · rw [← e2]; rfl
        · intro j x hj
          rw [List.getElem?_toArray] at hj
          have := hrow.cells (g := g0) rfl j _ hj
          rw [Addr.add_lit] at this
          exact hnl0 _ _ this
  obtain ⟨g', cap', hv'⟩ : ∃ g' cap', v' = .slice (some ⟨g', 0, none⟩) (n + 1) cap' := by
    rcases hrow'.2 with ⟨_, h⟩ | ⟨g', cap', cur, h, _⟩
    · omega
    · exact ⟨g', cap', h⟩
  subst hv'
  have hl := hv.len_eq
  have hcl := hrow.1
  have hkeep : ∀ gg, (Value.slice ao n cap).ownBlock = some gg → NoLimb w gg := by
    intro gg hgg
    rcases hrow.2 with ⟨h, _⟩ | ⟨g0, cap0, cur, h, _⟩
    · rw [h] at hgg; simp [Value.ownBlock] at hgg
    · rw [h] at hgg
      simp only [Value.ownBlock, Option.some.injEq] at hgg
      subst hgg
      simp only [Value.slice.injEq] at h
      exact hnl _ _ h.1
  refine ⟨g', cap', w', hrun, ownV_of hrow' (by simp [hl]) (hNo _ rfl) fun i hi => ?_, hgr, ?_⟩
  · by_cases hin : i < n
    · obtain ⟨b1, a1, l1, c1, h1, h2, h3⟩ := hcellOld i hin
      refine ⟨b1, a1, l1, c1, ?_, ?_, ?_⟩
      · rw [List.getElem?_append_left (by omega)]; exact h1
      · rw [List.getElem?_append_left (by omega)]; exact h2
      · rw [show (zs ++ [z]).getD i 0 = zs.getD i 0 by simp [List.getD, List.getElem?_append_left (show i < zs.length by omega)]]
        exact h3.grown hgr hkeep
    · obtain rfl : i = n := by omega
      refine ⟨b, a, l, c, ?_, ?_, ?_⟩
      · rw [List.getElem?_append_right (by omega), hcl]; simp
      · rw [List.getElem?_append_right (by omega), hcl]; simp [show i * 2 + 1 - i * 2 = 1 by omega]
      · rw [show (zs ++ [z]).getD i 0 = z by simp [List.getD, ← hl]]
        exact hz.grown hgr hkeep
  · rcases hat with h | h
    · rcases hrow.2 with ⟨h0, _⟩ | ⟨g0, cap0, cur, h0, _⟩
      · rw [h0] at h; simp [Value.ownBlock] at h
      · rw [h0] at h
        simp only [Value.ownBlock, Option.some.injEq] at h
        subst h
        simp only [Value.slice.injEq] at h0
        exact Or.inl h0.1
    · right
      simpa [Value.ownBlock] using h

/-- .. as a step of a region that draws its order. -/
theorem step_vec {w : World} {ops : Array Oper} {o : Oper} {a : Act} {K : Act → World → Prop} {Q : Exit → Act → World → Prop} {E : Prop} (hgd : o.guard = none) (s x : Operand) (t : TypeId) (ht : Try.prog.underlying t = some (.slice 26))
    (ho : o.op = .call { callee := .builtin .append, args := #[s, x], argTypes := #[t, t] }) (base : Nat) (ao : Option Addr) (n cap k : Nat) (zs : List Int) (hs : a.eval s = .slice ao n cap) (hown : OwnV w base ao n cap zs k) (hn : n ≤ 1000000000) (hbase : base ≤ w.heap.size)
    (g p c' : Nat) (b : Bool) (aa : Option Addr) (l c : Nat) (z : Int) (hx : a.eval x = .slice (some ⟨g, p, none⟩) 1 c') (he : EltAt w g p b aa l c) (hz : FK w b aa l c z k)
    (h : ∀ g' cap' w', OwnV w' base (some ⟨g', 0, none⟩) (n + 1) cap' (zs ++ [z]) k → w.grownBy w' (Value.slice ao n cap).ownBlock → (ao = some ⟨g', 0, none⟩ ∨ g' = w.heap.size) → K (a.put o.dst (.slice (some ⟨g', 0, none⟩) (n + 1) cap')) w') : if Region.wanted o (yielded ops a.tmps) = true then Oper.wp Try.prog o a w K Q else E := by
  have hw : Region.wanted o (yielded ops a.tmps) = true := by simp [Region.wanted, hgd]
  rw [if_pos hw]
  obtain ⟨g', cap', w', hrun, h1, h2, h3⟩ := run_append_vec t o.type ht w base ao n cap k zs hown hn hbase g p c' b aa l c z he hz
  unfold Oper.wp
  simp [execOp, ho, resolve, invoke, builtin, hs, hx, hrun, Result.andThen]
  exact h g' cap' w' h1 h2 h3
/-- .. in a plain region. -/
theorem append_vec {w : World} {ops : Array Oper} {rest : List Oper} {o : Oper} {a : Act} {Q : Exit → Act → World → Prop} (hgd : o.guard = none) (s x : Operand) (t : TypeId) (ht : Try.prog.underlying t = some (.slice 26))
    (ho : o.op = .call { callee := .builtin .append, args := #[s, x], argTypes := #[t, t] }) (base : Nat) (ao : Option Addr) (n cap k : Nat) (zs : List Int) (hs : a.eval s = .slice ao n cap) (hown : OwnV w base ao n cap zs k) (hn : n ≤ 1000000000) (hbase : base ≤ w.heap.size)
    (g p c' : Nat) (b : Bool) (aa : Option Addr) (l c : Nat) (z : Int) (hx : a.eval x = .slice (some ⟨g, p, none⟩) 1 c') (he : EltAt w g p b aa l c) (hz : FK w b aa l c z k)
    (h : ∀ g' cap' w', OwnV w' base (some ⟨g', 0, none⟩) (n + 1) cap' (zs ++ [z]) k → w.grownBy w' (Value.slice ao n cap).ownBlock → (ao = some ⟨g', 0, none⟩ ∨ g' = w.heap.size) → wpList Try.prog ops Q rest (a.put o.dst (.slice (some ⟨g', 0, none⟩) (n + 1) cap')) w') : wpList Try.prog ops Q (o :: rest) a w := by
  refine wpList_plain hgd fun K hK => ?_
  obtain ⟨g', cap', w', hrun, h1, h2, h3⟩ := run_append_vec t o.type ht w base ao n cap k zs hown hn hbase g p c' b aa l c z he hz
  unfold Oper.wp
  simp [execOp, ho, resolve, invoke, builtin, hs, hx, hrun, Result.andThen]
  exact hK _ _ (h g' cap' w' h1 h2 h3)
/-- make(api.Vec, n). -/
theorem make_vec {w : World} {ops : Array Oper} {rest : List Oper} {o : Oper} {a : Act} {Q : Exit → Act → World → Prop} (hg : o.guard = none) (l c : Operand) (t : TypeId) (ht : Try.prog.underlying t = some (.slice 26)) (hop : o.op = Op.makeSlice t l c)
    (base : Nat) (kl kc : IntKind) (L C : Int) (n k : Nat) (hl : a.eval l = .int kl L) (hc : a.eval c = .int kc C) (hL : L = (n : Int)) (hC : C = (n : Int)) (hn : n ≤ 1000000000) (hbase : base ≤ w.heap.size)
    (hK : ∀ w', OwnV w' base (some ⟨w.heap.size, 0, none⟩) n n (List.replicate n 0) k → w.grownBy w' none → wpList Try.prog ops Q rest (a.put o.dst (.slice (some ⟨w.heap.size, 0, none⟩) n n)) w') :
    wpList Try.prog ops Q (o :: rest) a w := by
  obtain ⟨i0, hi, hz0, hz1, hz2⟩ := info_parts info_int
  refine wpList_make_full w hg l c _ hop base 26 i0 (.agg #[.bool false, .slice none 0 0]) 2 ht hi hz0 hz1 kl kc L C n hl hc hL hC (by rw [hz2]; omega) (by unfold maxLen; omega) hbase ?_
  intro w' h1 h2
  have hcell : ∀ j, j < n * 2 → (madeCells (Value.agg #[.bool false, .slice none 0 0]).cells (n * 2)).toList[j]? = some (if j % 2 = 0 then .bool false else .slice none 0 0) := by
    intro j hj
    have : j % 2 < 2 := Nat.mod_lt _ (by omega)
    rw [Array.getElem?_toList]
    simp only [madeCells, Value.cells]
    rw [Array.getElem?_map, Array.getElem?_range]
    rcases (by omega : j % 2 = 0 ∨ j % 2 = 1) with e | e <;> simp [e, hj]
  refine hK w' (ownV_of h1 (by simp) ?_ fun i hi => ?_) h2
  · intro j x e
    by_cases hj : j < n * 2
    · rw [h1.cellAt j hj, hcell j hj] at e
      split at e <;> simp at e
    · rcases h1.2 with ⟨h, _⟩ | ⟨g, cap, cur, h, _, hh, _, _, hs, _⟩
      · simp at h
      · simp only [Value.slice.injEq, Option.some.injEq, Addr.mk.injEq, and_true, true_and] at h
        obtain ⟨rfl, rfl⟩ := h
        rw [Joins.cell_of_block hh j, Array.getElem?_eq_none (by omega)] at e
        simp at e
  · refine ⟨false, none, 0, 0, ?_, ?_, ?_⟩
    · rw [hcell _ (by omega), if_pos (by omega)]
    · rw [hcell _ (by omega), if_neg (by omega)]
    · rw [show (List.replicate n (0 : Int)).getD i 0 = 0 by simp [List.getD, hi]]
      exact fk_zero w' k
/-- An Int is stored into a vector that the call itself made. -/
theorem OwnV.set {w : World} {base g : Nat} {n cap k : Nat} {zs : List Int} (h : OwnV w base (some ⟨g, 0, none⟩) n cap zs k) {i : Nat} (hi : i < n) {b : Bool} {a : Option Addr} {l c : Nat} {z : Int} (hz : FK w b a l c z k) :
    OwnV ((w.setCell ⟨g, i * 2, none⟩ (.bool b)).setCell ⟨g, i * 2 + 1, none⟩ (.slice a l c)) base (some ⟨g, 0, none⟩) n cap (zs.set i z) k := by
  obtain ⟨cs, hrow, hcell⟩ := h.parts
  obtain ⟨hv, _, hnl⟩ := h
  have hnl0 := hnl g 0 rfl
  have h1 := (World.ownsRow.stored hrow (i * 2) (.bool b)).1
  have h2 := (World.ownsRow.stored h1 (i * 2 + 1) (.slice a l c)).1
  have hl := hv.len_eq
  have hcl := hrow.1
  have hF : ∀ {b' a' l' c' z'}, FK w b' a' l' c' z' k → FK ((w.setCell ⟨g, i * 2, none⟩ (.bool b)).setCell ⟨g, i * 2 + 1, none⟩ (.slice a l c)) b' a' l' c' z' k := by
    intro b' a' l' c' z' hf
    refine hf.grown (row := some g) ⟨rfl, rfl, rfl, by simp [World.setCell], fun j hj hne => ?_⟩ (fun g' e => by simp only [Option.some.injEq] at e; subst e; exact hnl0)
    have hne' : j ≠ g := fun e => hne (by rw [e])
    rw [Below.heap_setCell _ _ _ _ (by simpa using hne'), Below.heap_setCell _ _ _ _ (by simpa using hne')]
  refine ownV_of h2 (by simp [hl]) ?_ fun j hj => ?_
  · intro j x e
    rcases hrow.2 with ⟨h, _⟩ | ⟨g', cap', cur, h, _, hh, _⟩
    · simp at h
    · simp only [Value.slice.injEq, Option.some.injEq, Addr.mk.injEq, and_true, true_and] at h
      obtain ⟨rfl, rfl⟩ := h
      rw [Joins.cell_of_block (Joins.block_setCell (Joins.block_setCell hh _) _) j] at e
      have e0 : ∀ (j : Nat), cur[j]? ≠ some (Value.int .u32 x) := fun j e => hnl0 j x (by rw [Joins.cell_of_block hh j]; exact e)
      rw [Array.getElem?_setIfInBounds] at e
      split at e
      · split at e <;> simp at e
      · rw [Array.getElem?_setIfInBounds] at e
        split at e
        · split at e <;> simp at e
        · exact e0 _ e
  · by_cases hji : j = i
    · subst hji
      refine ⟨b, a, l, c, ?_, ?_, ?_⟩
      · rw [List.getElem?_set_ne (by omega), List.getElem?_set_self (by omega)]
      · rw [List.getElem?_set_self (by simp; omega)]
      · rw [show (zs.set j z).getD j 0 = z by simp [List.getD, show j < zs.length by omega]]
        exact hF hz
    · obtain ⟨b1, a1, l1, c1, e1, e2, e3⟩ := hcell j hj
      refine ⟨b1, a1, l1, c1, ?_, ?_, ?_⟩
      · rw [List.getElem?_set_ne (by omega), List.getElem?_set_ne (by omega)]; exact e1
      · rw [List.getElem?_set_ne (by omega), List.getElem?_set_ne (by omega)]; exact e2
      · rw [show (zs.set i z).getD j 0 = zs.getD j 0 by simp [List.getD, List.getElem?_set_ne (Ne.symm hji)]]
        exact hF e3
theorem OwnV.free {w : World} {base g : Nat} {n cap k : Nat} {zs : List Int} (h : OwnV w base (some ⟨g, 0, none⟩) n cap zs k) (j : Nat) : w.frozen? ⟨g, j, none⟩ = false := by
  obtain ⟨cs, hrow, _⟩ := h.parts
  exact World.ownsRow.frozenAt hrow j
theorem OwnV.noLimb {w : World} {base g off : Nat} {n cap k : Nat} {zs : List Int} (h : OwnV w base (some ⟨g, off, none⟩) n cap zs k) : NoLimb w g := h.2.2 g off rfl
theorem OwnV.vf {w : World} {base : Nat} {ao : Option Addr} {n cap k : Nat} {zs : List Int} (h : OwnV w base ao n cap zs k) : VF w ao n cap zs k := h.1
/-- What stands in other blocks stays, while a vector of the call's own is written. -/
theorem VK.grown {w w' : World} {ao : Option Addr} {n cap k : Nat} {zs : List Int} {row : Option Nat} (h : VK w ao n cap zs k) (hg : w.grownBy w' row) (hn : ∀ g, row = some g → NoLimb w g) (ha : ∀ g off, ao = some ⟨g, off, none⟩ → row ≠ some g) : VK w' ao n cap zs k := by
  refine ⟨h.len_eq, h.cap_le, h.cap_max, h.nil_cap, fun hp => ?_⟩
  obtain ⟨g, off, e, hlt, hc⟩ := h.elts hp
  refine ⟨g, off, e, Nat.lt_of_lt_of_le hlt hg.size, fun i hi => ?_⟩
  obtain ⟨b, a, l, c, h1, h2⟩ := hc i hi
  exact ⟨b, a, l, c, h1.of_block hg.size (hg.block g hlt (Ne.symm (ha g off e))), h2.grown hg hn⟩
theorem VF.grown {w w' : World} {ao : Option Addr} {n cap k : Nat} {zs : List Int} {row : Option Nat} (h : VF w ao n cap zs k) (hg : w.grownBy w' row) (hn : ∀ g, row = some g → NoLimb w g) (ha : ∀ g off, ao = some ⟨g, off, none⟩ → row ≠ some g) : VF w' ao n cap zs k := by
  refine ⟨h.len_eq, h.cap_le, h.cap_max, h.nil_cap, fun hp => ?_⟩
  obtain ⟨g, off, e, hlt, hc⟩ := h.elts hp
  refine ⟨g, off, e, Nat.lt_of_lt_of_le hlt hg.size, fun i hi => ?_⟩
  obtain ⟨b, a, l, c, h1, h2⟩ := hc i hi
  exact ⟨b, a, l, c, h1.of_block hg.size (hg.block g hlt (Ne.symm (ha g off e))), h2.grown hg hn⟩
/-- Ints handed on one behind the other: a call with '...', a literal. -/
theorem vec1 {w : World} {b0 : Bool} {a0 : Option Addr} {l0 c0 : Nat} {R : World → Bool → Option Addr → Nat → Nat → Int → Prop} {z0 : Int} {n : Nat} (hn : n = w.heap.size) (h0 : R (w.alloc (.cells #[.bool b0, .slice a0 l0 c0] 26)) b0 a0 l0 c0 z0) :
    VecOf R (w.alloc (.cells #[.bool b0, .slice a0 l0 c0] 26)) (some ⟨n, 0, none⟩) 1 1 [z0] := by
  subst hn
  refine ⟨rfl, Nat.le_refl _, by unfold maxLen; omega, fun e => by simp at e, fun _ => ⟨w.heap.size, 0, rfl, by simp, fun i hi => ?_⟩⟩
  match i with
  | 0 => exact ⟨b0, a0, l0, c0, ⟨by simp, by simp, by simp⟩, h0⟩
theorem vec2 {w : World} {b0 b1 : Bool} {a0 a1 : Option Addr} {l0 c0 l1 c1 : Nat} {R : World → Bool → Option Addr → Nat → Nat → Int → Prop} {z0 z1 : Int} {n : Nat} (hn : n = w.heap.size) (h0 : R (w.alloc (.cells #[.bool b0, .slice a0 l0 c0, .bool b1, .slice a1 l1 c1] 26)) b0 a0 l0 c0 z0) (h1 : R (w.alloc (.cells #[.bool b0, .slice a0 l0 c0, .bool b1, .slice a1 l1 c1] 26)) b1 a1 l1 c1 z1) :
    VecOf R (w.alloc (.cells #[.bool b0, .slice a0 l0 c0, .bool b1, .slice a1 l1 c1] 26)) (some ⟨n, 0, none⟩) 2 2 [z0, z1] := by
  subst hn
  refine ⟨rfl, Nat.le_refl _, by unfold maxLen; omega, fun e => by simp at e, fun _ => ⟨w.heap.size, 0, rfl, by simp, fun i hi => ?_⟩⟩
  match i with
  | 0 => exact ⟨b0, a0, l0, c0, ⟨by simp, by simp, by simp⟩, h0⟩
  | 1 => exact ⟨b1, a1, l1, c1, ⟨by simp, by simp, by simp⟩, h1⟩
theorem vec3 {w : World} {b0 b1 b2 : Bool} {a0 a1 a2 : Option Addr} {l0 c0 l1 c1 l2 c2 : Nat} {R : World → Bool → Option Addr → Nat → Nat → Int → Prop} {z0 z1 z2 : Int} {n : Nat} (hn : n = w.heap.size) (h0 : R (w.alloc (.cells #[.bool b0, .slice a0 l0 c0, .bool b1, .slice a1 l1 c1, .bool b2, .slice a2 l2 c2] 26)) b0 a0 l0 c0 z0) (h1 : R (w.alloc (.cells #[.bool b0, .slice a0 l0 c0, .bool b1, .slice a1 l1 c1, .bool b2, .slice a2 l2 c2] 26)) b1 a1 l1 c1 z1) (h2 : R (w.alloc (.cells #[.bool b0, .slice a0 l0 c0, .bool b1, .slice a1 l1 c1, .bool b2, .slice a2 l2 c2] 26)) b2 a2 l2 c2 z2) :
    VecOf R (w.alloc (.cells #[.bool b0, .slice a0 l0 c0, .bool b1, .slice a1 l1 c1, .bool b2, .slice a2 l2 c2] 26)) (some ⟨n, 0, none⟩) 3 3 [z0, z1, z2] := by
  subst hn
  refine ⟨rfl, Nat.le_refl _, by unfold maxLen; omega, fun e => by simp at e, fun _ => ⟨w.heap.size, 0, rfl, by simp, fun i hi => ?_⟩⟩
  match i with
  | 0 => exact ⟨b0, a0, l0, c0, ⟨by simp, by simp, by simp⟩, h0⟩
  | 1 => exact ⟨b1, a1, l1, c1, ⟨by simp, by simp, by simp⟩, h1⟩
  | 2 => exact ⟨b2, a2, l2, c2, ⟨by simp, by simp, by simp⟩, h2⟩

#print axioms run_append_vec
#print axioms make_vec
#print axioms OwnV.set
#print axioms vec3
end Go.Proofs.Ytdbimajopclndaa
