/-
  A vector of Ints that came in, opened: each element's sign, and its limbs as a row.
-/
import Derived.Test.YtdbimajopclndaaJD
import Derived.Test.YtdbimajopclndaaVec
import Derived.Deep.SlicePairs
namespace Go.Proofs.Ytdbimajopclndaa
open Go.ChangeShapes Go.WideShapes Go.ChangeAt Go.RowKit Go.Joins Lb

theorem vecIn_cells {H : Type} {enc : TypeId × Value → H} {W : World} {base : Nat} {held : Bool} {fuel : Nat} {t : TypeId} (ht : Try.prog.underlying t = some (.slice 26)) {ao : Option Addr} {len cap : Nat} {y : DataW H × List MemPlace}
    (hf : DataW.trod enc Try.prog W base (fun _ => true) held fuel t [.slice ao len cap] = some y) : ∃ zs, VI W ao len cap zs := by
  rcases Deep.open_slice_pairs ht Try.underlying26 cellsInt rfl rfl (by kernel_rfl) (by kernel_rfl) hf with ⟨hcs, _⟩ | ⟨⟨b, off, spot⟩, l, c, m, n, V0, V1, D0, D1, P0, P1, hcs, _, hl, hm, hmm, _, hx⟩
  · simp at hcs
    obtain ⟨rfl, rfl, rfl⟩ := hcs
    exact ⟨[], rfl, Nat.le_refl _, Nat.zero_le _, fun _ => rfl, fun h => absurd h (by omega)⟩
  · simp at hcs
    obtain ⟨rfl, rfl, rfl⟩ := hcs
    have hlm : len ≤ m := by rw [hmm]; simp; exact hl
    by_cases hp0 : len = 0
    · subst hp0
      exact ⟨[], rfl, hl, hm, fun e => by simp at e, fun h => absurd h (by omega)⟩
    obtain rfl : spot = none := by simpa [Addr.add] using World.cell?_spot (hx 0 (by omega)).1
    have each : ∀ i, i < len → ∃ z : Int, b < W.heap.size ∧ ∃ b' a' l' c', EltAt W b (off + i * 2) b' a' l' c' ∧ IntAt W b' a' l' c' z := by
      intro i hi
      obtain ⟨e0, e1, t0, t1⟩ := hx i (by omega)
      obtain ⟨b', eb, _⟩ := DataW.trod_bool Try.underlying4 t0
      obtain ⟨a', l', c', es⟩ := slice_form Try.underlying24 t1
      simp at eb es
      rw [es] at t1 e1
      rw [eb] at e0
      obtain ⟨xs, hxs⟩ := intIn_cells t1
      rw [Addr.add_lit] at e0 e1
      have hlt : b < W.heap.size := by
        rcases Nat.lt_or_ge b W.heap.size with c | c
        · exact c
        · simp [World.cell?, Array.getElem?_eq_none c] at e0
      exact ⟨_, hlt, b', a', l', c', ⟨hlt, e0, by rw [← e1]; congr 2⟩, hxs.int b'⟩
    obtain ⟨zf, hz⟩ := Deep.choose_lt each
    refine ⟨(List.range len).map zf, by simp, hl, hm, fun e => by simp at e, fun hp => ?_⟩
    obtain ⟨hlt, _⟩ := hz 0 hp
    refine ⟨b, off, rfl, hlt, fun i hi => ?_⟩
    obtain ⟨_, b', a', l', c', h1, h2⟩ := hz i hi
    refine ⟨b', a', l', c', h1, ?_⟩
    rw [show ((List.range len).map zf).getD i 0 = zf i by simp [List.getD, hi]]
    exact h2

theorem vecIn_of {H : Type} {enc : TypeId × Value → H} {W : World} {r : Reach} {b0 base : Nat} {held : Bool} {t : TypeId} (ht : Try.prog.underlying t = some (.slice 26)) {v : Value} {d : DataW H} {p : List MemPlace}
    (hv : Value.okWide Try.prog W r b0 t v) (h : DataW.Trod enc Try.prog W base (fun _ => true) held t v d p) :
    ∃ ao len cap zs, v = .slice ao len cap ∧ VI W ao len cap zs := by
  obtain ⟨a, l, c, rfl⟩ := okWide_slice ht hv
  obtain ⟨fuel, hf⟩ := h
  obtain ⟨zs, hz⟩ := vecIn_cells ht (by simpa [Value.cells] using hf)
  exact ⟨a, l, c, zs, rfl, hz⟩

#print axioms vecIn_of
end Go.Proofs.Ytdbimajopclndaa
