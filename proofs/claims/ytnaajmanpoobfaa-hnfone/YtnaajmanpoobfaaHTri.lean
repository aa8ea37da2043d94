/-
  A slice of arrays of three int8 that came in.
-/
import Derived.Test.YtnaajmanpoobfaaJD
import Derived.Deep.Slices
import Derived.OpenShut
namespace Go.Proofs.Ytnaajmanpoobfaa
open Go.ChangeShapes Go.WideShapes Go.ChangeAt Go.RowKit Go.Joins Lb
set_option maxRecDepth 20000

/-- The slice reads as triples of small numbers. -/
structure TriAt (w : World) (ao : Option Addr) (len cap : Nat) (f : Nat → Nat → Int) : Prop where
  cap_le : len ≤ cap
  cap_max : cap ≤ maxLen
  small : ∀ i j, -128 ≤ f i j ∧ f i j ≤ 127
  elts : 0 < len → ∃ g off, ao = some ⟨g, off, none⟩ ∧ g < w.heap.size ∧ ∀ i, i < len → ∀ j, j < 3 → w.cell? ⟨g, off + i * 3 + j, none⟩ = some (.int .i8 (f i j))
theorem TriAt.later {w w' : World} {ao : Option Addr} {len cap : Nat} {f : Nat → Nat → Int} (h : TriAt w ao len cap f) (hb : Below w.heap.size w w') : TriAt w' ao len cap f := by
  refine ⟨h.cap_le, h.cap_max, h.small, fun hp => ?_⟩
  obtain ⟨g, off, e, hg, hc⟩ := h.elts hp
  exact ⟨g, off, e, Nat.lt_of_lt_of_le hg hb.size, fun i hi j hj => (hb.cell (p := ⟨g, off + i * 3 + j, none⟩) hg).trans (hc i hi j hj)⟩
theorem TriAt.some {w : World} {ao : Option Addr} {len cap : Nat} {f : Nat → Nat → Int} (h : TriAt w ao len cap f) (hp : 0 < len) : ∃ g off, ao = some ⟨g, off, none⟩ := by
  obtain ⟨g, off, e, _⟩ := h.elts hp
  exact ⟨g, off, e⟩
theorem TriAt.at {w : World} {g off len cap : Nat} {f : Nat → Nat → Int} (h : TriAt w (.some ⟨g, off, none⟩) len cap f) {i : Nat} (hi : i < len) : g < w.heap.size ∧ w.cell? ⟨g, off + i * 3, none⟩ = .some (.int .i8 (f i 0)) ∧ w.cell? ⟨g, off + i * 3 + 1, none⟩ = .some (.int .i8 (f i 1)) ∧ w.cell? ⟨g, off + i * 3 + 2, none⟩ = .some (.int .i8 (f i 2)) := by
  obtain ⟨g', off', e, hg, hc⟩ := h.elts (by omega)
  simp only [Option.some.injEq, Addr.mk.injEq, and_true] at e
  obtain ⟨rfl, rfl⟩ := e
  exact ⟨hg, hc i hi 0 (by omega), hc i hi 1 (by omega), hc i hi 2 (by omega)⟩
theorem triIn_cells {H : Type} {enc : TypeId × Value → H} {W : World} {base : Nat} {held : Bool} {fuel : Nat} {t e e8 : TypeId} (ht : Try.prog.underlying t = some (.slice e)) (he : Try.prog.underlying e = some (.array 3 e8)) (h8 : Try.prog.underlying e8 = some (.int .i8)) (hc : Try.prog.cellsOf e = 3) (hc8 : Try.prog.cellsOf e8 = 1) {ao : Option Addr} {len cap : Nat} {y : DataW H × List MemPlace}
    (hf : DataW.trod enc Try.prog W base (fun _ => true) held fuel t [.slice ao len cap] = some y) : ∃ f, TriAt W ao len cap f := by
  rcases Deep.open_slice ht hf with ⟨hcs, _⟩ | ⟨⟨b, off, spot⟩, l, c, m, n, D, Pl, hcs, _, hl, hm, hmm, _, hx⟩
  · simp at hcs
    obtain ⟨rfl, rfl, rfl⟩ := hcs
    exact ⟨fun _ _ => 0, Nat.le_refl _, Nat.zero_le _, fun _ _ => by omega, fun h => absurd h (by omega)⟩
  · simp at hcs
    obtain ⟨rfl, rfl, rfl⟩ := hcs
    have hlm : len ≤ m := by rw [hmm]; simp; exact hl
    by_cases hp0 : len = 0
    · subst hp0
      exact ⟨fun _ _ => 0, hl, hm, fun _ _ => by omega, fun h => absurd h (by omega)⟩
    have each : ∀ i, i < len → ∃ v : Nat → Int, (∀ j, -128 ≤ v j ∧ v j ≤ 127) ∧ ∀ j, j < 3 → W.cell? ((⟨b, off, spot⟩ : Addr).add (i * 3 + j)) = some (.int .i8 (v j)) := by
      intro i hi
      obtain ⟨cs', h1, h2⟩ := hx i (by omega)
      rw [hc] at h1
      obtain ⟨_, hlen, hcell⟩ := World.cells?_some h1
      obtain ⟨xs, m', _, _, _, hxl, hel⟩ := DataW.trod_array he h2
      have one : ∀ j, j < 3 → ∃ z : Int, (-128 ≤ z ∧ z ≤ 127) ∧ W.cell? ((⟨b, off, spot⟩ : Addr).add (i * 3 + j)) = some (.int .i8 z) := by
        intro j hj
        have h4 := hel j hj
        rw [hc8, Nat.mul_one] at h4
        obtain ⟨y, hy⟩ : ∃ y, xs[j]? = some y := ⟨xs[j], List.getElem?_eq_getElem (by omega)⟩
        rw [hy] at h4
        obtain ⟨z, hz, _, hw⟩ := DataW.trod_int h8 h4
        have hb8 := bounds_i8 hw
        refine ⟨z, by omega, ?_⟩
        have h5 := hcell j hj
        rw [Deep.add_add] at h5
        rw [h5]
        have h6 : (List.take 1 (List.drop j cs'))[0]? = some (Value.int .i8 z) := by rw [hz]; rfl
        rw [List.getElem?_take_of_lt (by omega), List.getElem?_drop] at h6
        simpa using h6
      obtain ⟨v, hv⟩ := Deep.choose_lt one
      refine ⟨fun j => if j < 3 then v j else 0, fun j => ?_, fun j hj => ?_⟩
      · by_cases c : j < 3
        · show -128 ≤ (if j < 3 then v j else 0) ∧ (if j < 3 then v j else 0) ≤ 127
          rw [if_pos c]; exact (hv j c).1
        · show -128 ≤ (if j < 3 then v j else 0) ∧ (if j < 3 then v j else 0) ≤ 127
          rw [if_neg c]; omega
      · show _ = some (Value.int .i8 (if j < 3 then v j else 0))
        rw [if_pos hj]; exact (hv j hj).2
    obtain ⟨f, hf2⟩ := Deep.choose_lt each
    have h0 := (hf2 0 (by omega)).2 0 (by omega)
    obtain rfl : spot = none := by simpa [Addr.add] using World.cell?_spot h0
    refine ⟨fun i j => if i < len then f i j else 0, hl, hm, fun i j => ?_, fun hp => ⟨b, off, rfl, ?_, fun i hi j hj => ?_⟩⟩
    · by_cases c : i < len
      · show -128 ≤ (if i < len then f i j else 0) ∧ (if i < len then f i j else 0) ≤ 127
        rw [if_pos c]; exact (hf2 i c).1 j
      · show -128 ≤ (if i < len then f i j else 0) ∧ (if i < len then f i j else 0) ≤ 127
        rw [if_neg c]; omega
    · rcases Nat.lt_or_ge b W.heap.size with c | c
      · exact c
      · simp [Addr.add, World.cell?, Array.getElem?_eq_none c] at h0
    · have h1 := (hf2 i hi).2 j hj
      rw [Addr.add_lit, ← Nat.add_assoc] at h1
      show _ = some (Value.int .i8 (if i < len then f i j else 0))
      rw [if_pos hi]; exact h1

#print axioms triIn_cells
end Go.Proofs.Ytnaajmanpoobfaa
