/-
  What a slice of vectors reads as in a world ('RowsOf': each row meets R); vectors handed on one behind the other; one that came in, opened.
-/
import Derived.Test.YtdbimajopclndaaVecIn
namespace Go.Proofs.Ytdbimajopclndaa
open Go.ChangeShapes Go.WideShapes Go.ChangeAt Go.RowKit Go.Joins Lb

/-- The slice reads as the vectors rs: each row meets R. -/
structure RowsOf (R : World → Option Addr → Nat → Nat → List Int → Prop) (w : World) (ao : Option Addr) (n cap : Nat) (rs : List (List Int)) : Prop where
  len_eq : rs.length = n
  cap_le : n ≤ cap
  cap_max : cap ≤ maxLen
  nil_cap : ao = none → cap = 0
  elts : 0 < n → ∃ g off, ao = some ⟨g, off, none⟩ ∧ g < w.heap.size ∧ ∀ i, i < n → ∃ a l c, w.cell? ⟨g, off + i, none⟩ = some (.slice a l c) ∧ R w a l c (rs.getD i [])
def MI (w : World) (ao : Option Addr) (n cap : Nat) (rs : List (List Int)) : Prop := RowsOf VI w ao n cap rs
def MK (w : World) (ao : Option Addr) (n cap : Nat) (rs : List (List Int)) (k : Nat) : Prop := RowsOf (fun w a l c zs => VK w a l c zs k) w ao n cap rs
def MF (w : World) (ao : Option Addr) (n cap : Nat) (rs : List (List Int)) (k : Nat) : Prop := RowsOf (fun w a l c zs => VF w a l c zs k) w ao n cap rs
theorem RowsOf.later {R : World → Option Addr → Nat → Nat → List Int → Prop} (hR : ∀ {w w' : World} {a l c zs}, R w a l c zs → Below w.heap.size w w' → R w' a l c zs) {w w' : World} {ao : Option Addr} {n cap : Nat} {rs : List (List Int)} (h : RowsOf R w ao n cap rs) (hb : Below w.heap.size w w') : RowsOf R w' ao n cap rs := by
  refine ⟨h.len_eq, h.cap_le, h.cap_max, h.nil_cap, fun hp => ?_⟩
  obtain ⟨g, off, e, hg, hc⟩ := h.elts hp
  refine ⟨g, off, e, Nat.lt_of_lt_of_le hg hb.size, fun i hi => ?_⟩
  obtain ⟨a, l, c, h1, h2⟩ := hc i hi
  exact ⟨a, l, c, (hb.cell (p := ⟨g, off + i, none⟩) hg).trans h1, hR h2 hb⟩
theorem MI.later {w w' : World} {ao : Option Addr} {n cap : Nat} {rs : List (List Int)} (h : MI w ao n cap rs) (hb : Below w.heap.size w w') : MI w' ao n cap rs := RowsOf.later (R := VI) (fun h hb => VI.later h hb) h hb
theorem MK.later {w w' : World} {ao : Option Addr} {n cap k : Nat} {rs : List (List Int)} (h : MK w ao n cap rs k) (hb : Below w.heap.size w w') : MK w' ao n cap rs k := RowsOf.later (R := fun w a l c zs => VK w a l c zs k) (fun h hb => VK.later h hb) h hb
theorem MF.later {w w' : World} {ao : Option Addr} {n cap k : Nat} {rs : List (List Int)} (h : MF w ao n cap rs k) (hb : Below w.heap.size w w') : MF w' ao n cap rs k := RowsOf.later (R := fun w a l c zs => VF w a l c zs k) (fun h hb => VF.later h hb) h hb
theorem RowsOf.addr {R : World → Option Addr → Nat → Nat → List Int → Prop} {w : World} {ao : Option Addr} {n cap : Nat} {rs : List (List Int)} (h : RowsOf R w ao n cap rs) (hp : 0 < n) : ∃ g off, ao = some ⟨g, off, none⟩ := by
  obtain ⟨g, off, e, _⟩ := h.elts hp
  exact ⟨g, off, e⟩
theorem RowsOf.at {R : World → Option Addr → Nat → Nat → List Int → Prop} {w : World} {g off n cap : Nat} {rs : List (List Int)} (h : RowsOf R w (some ⟨g, off, none⟩) n cap rs) {i : Nat} (hi : i < n) : g < w.heap.size ∧ ∃ a l c, w.cell? ⟨g, off + i, none⟩ = some (.slice a l c) ∧ R w a l c (rs.getD i []) := by
  obtain ⟨g', off', e, hg, hc⟩ := h.elts (by omega)
  simp only [Option.some.injEq, Addr.mk.injEq, and_true] at e
  obtain ⟨rfl, rfl⟩ := e
  exact ⟨hg, hc i hi⟩
/-- Vectors handed on one behind the other, in a block of their own: a call with '...', a literal. -/
theorem rowsOf_new {R : World → Option Addr → Nat → Nat → List Int → Prop} {w : World} {vs : List (Option Addr × Nat × Nat)} {rs : List (List Int)} {n m : Nat} (hm : m = vs.length) (hn : n = w.heap.size) (hl : rs.length = vs.length) (hs : vs.length ≤ 1000)
    (h : ∀ i a l c, vs[i]? = some (a, l, c) → R (w.alloc (.cells (vs.map fun v => Value.slice v.1 v.2.1 v.2.2).toArray 23)) a l c (rs.getD i [])) :
    RowsOf R (w.alloc (.cells (vs.map fun v => Value.slice v.1 v.2.1 v.2.2).toArray 23)) (some ⟨n, 0, none⟩) m m rs := by
  subst hn hm
  refine ⟨hl, Nat.le_refl _, by unfold maxLen; omega, fun e => by simp at e, fun _ => ⟨w.heap.size, 0, rfl, by simp, fun i hi => ?_⟩⟩
  obtain ⟨v, hv⟩ : ∃ v, vs[i]? = some v := ⟨vs[i], List.getElem?_eq_getElem hi⟩
  obtain ⟨a, l, c⟩ := v
  refine ⟨a, l, c, ?_, h i a l c hv⟩
  rw [Nat.zero_add]
  simp [hv]

theorem matIn_cells {H : Type} {enc : TypeId × Value → H} {W : World} {base : Nat} {held : Bool} {fuel : Nat} {t e : TypeId} (ht : Try.prog.underlying t = some (.slice e)) (he : Try.prog.underlying e = some (.slice 26)) (hc : Try.prog.cellsOf e = 1) {ao : Option Addr} {len cap : Nat} {y : DataW H × List MemPlace}
    (hf : DataW.trod enc Try.prog W base (fun _ => true) held fuel t [.slice ao len cap] = some y) : ∃ rs, MI W ao len cap rs := by
  rcases Deep.open_slice1 ht hc hf with ⟨hcs, _⟩ | ⟨⟨b, off, spot⟩, l, c, m, n, V, D, P, hcs, _, hl, hm, hmm, _, hx⟩
  · simp at hcs
    obtain ⟨rfl, rfl, rfl⟩ := hcs
    exact ⟨[], rfl, Nat.le_refl _, Nat.zero_le _, fun _ => rfl, fun h => absurd h (by omega)⟩
  · simp at hcs
    obtain ⟨rfl, rfl, rfl⟩ := hcs
    have hlm : len ≤ m := by rw [hmm]; simp; exact hl
    by_cases hp0 : len = 0
    · subst hp0
      exact ⟨[], rfl, hl, hm, fun e => by simp at e, fun h => absurd h (by omega)⟩
    obtain rfl : spot = none := by simpa [Addr.add] using World.cell?_spot (hx 0 (by omega)).1
    have each : ∀ i, i < len → ∃ zs : List Int, b < W.heap.size ∧ ∃ a' l' c', W.cell? ⟨b, off + i, none⟩ = some (.slice a' l' c') ∧ VI W a' l' c' zs := by
      intro i hi
      obtain ⟨e0, t0⟩ := hx i (by omega)
      obtain ⟨a', l', c', es⟩ := slice_form he t0
      simp at es
      rw [es] at t0 e0
      obtain ⟨zs, hzs⟩ := vecIn_cells he t0
      rw [Addr.add_lit] at e0
      have hlt : b < W.heap.size := by
        rcases Nat.lt_or_ge b W.heap.size with c | c
        · exact c
        · simp [World.cell?, Array.getElem?_eq_none c] at e0
      exact ⟨_, hlt, a', l', c', e0, hzs⟩
    obtain ⟨zf, hz⟩ := Deep.choose_lt each
    refine ⟨(List.range len).map zf, by simp, hl, hm, fun e => by simp at e, fun hp => ?_⟩
    obtain ⟨hlt, _⟩ := hz 0 hp
    refine ⟨b, off, rfl, hlt, fun i hi => ?_⟩
    obtain ⟨_, a', l', c', h1, h2⟩ := hz i hi
    refine ⟨a', l', c', h1, ?_⟩
    rw [show ((List.range len).map zf).getD i [] = zf i by simp [List.getD, hi]]
    exact h2
theorem matIn_of {H : Type} {enc : TypeId × Value → H} {W : World} {r : Reach} {b0 base : Nat} {held : Bool} {t e : TypeId} (ht : Try.prog.underlying t = some (.slice e)) (he : Try.prog.underlying e = some (.slice 26)) (hc : Try.prog.cellsOf e = 1) {v : Value} {d : DataW H} {p : List MemPlace}
    (hv : Value.okWide Try.prog W r b0 t v) (h : DataW.Trod enc Try.prog W base (fun _ => true) held t v d p) :
    ∃ ao len cap rs, v = .slice ao len cap ∧ MI W ao len cap rs := by
  obtain ⟨a, l, c, rfl⟩ := okWide_slice ht hv
  obtain ⟨fuel, hf⟩ := h
  obtain ⟨zs, hz⟩ := matIn_cells ht he hc (by simpa [Value.cells] using hf)
  exact ⟨a, l, c, zs, rfl, hz⟩

#print axioms matIn_of
#print axioms rowsOf_new
end Go.Proofs.Ytdbimajopclndaa
