/-
 What a slice of int8 reads as in a world; one that came in, opened.
-/
import Derived.Test.YtnpneloahajniaaJD
namespace Go.Proofs.Ytnpneloahajniaa
open Go.ChangeShapes Go.WideShapes Go.ChangeAt Go.RowKit Go.Joins Lb
set_option maxRecDepth 20000

/-- The slice reads as the ints zs. -/
structure I8RowAt (w : World) (ao : Option Addr) (len cap : Nat) (zs : List Int) : Prop where
 len_eq : zs.length = len
 cap_le : len ≤ cap
 cap_max : cap ≤ maxLen
 nil_cap : ao = none → cap = 0
 small : ∀ i, -128 ≤ zs.getD i 0 ∧ zs.getD i 0 ≤ 127
 cells : 0 < len → ∃ b off, ao = some ⟨b, off, none⟩ ∧ b < w.heap.size ∧ ∀ i, i < len → w.cell? ⟨b, off + i, none⟩ = some (.int .i8 (zs.getD i 0))
theorem I8RowAt.later {w w' : World} {ao : Option Addr} {len cap : Nat} {zs : List Int} (h : I8RowAt w ao len cap zs) (hb : Below w.heap.size w w') : I8RowAt w' ao len cap zs := by
 refine ⟨h.len_eq, h.cap_le, h.cap_max, h.nil_cap, h.small, fun hp => ?_⟩
 obtain ⟨b, off, e, hlt, hc⟩ := h.cells hp
 exact ⟨b, off, e, Nat.lt_of_lt_of_le hlt hb.size, fun i hi => (hb.cell (p := ⟨b, off + i, none⟩) hlt).trans (hc i hi)⟩
theorem I8RowAt.addr {w : World} {ao : Option Addr} {len cap : Nat} {zs : List Int} (h : I8RowAt w ao len cap zs) (hp : 0 < len) : ∃ b off, ao = some ⟨b, off, none⟩ := by
 obtain ⟨b, off, e, _⟩ := h.cells hp
 exact ⟨b, off, e⟩
theorem I8RowAt.at {w : World} {b off len cap : Nat} {zs : List Int} (h : I8RowAt w (some ⟨b, off, none⟩) len cap zs) {i : Nat} (hi : i < len) : b < w.heap.size ∧ w.cell? ⟨b, off + i, none⟩ = some (.int .i8 (zs.getD i 0)) := by
 obtain ⟨b', off', e, hlt, hc⟩ := h.cells (by omega)
 simp only [Option.some.injEq, Addr.mk.injEq, and_true] at e
 obtain ⟨rfl, rfl⟩ := e
 exact ⟨hlt, hc i hi⟩
/-- A slice of ints that came in. -/
theorem i8In_cells {H : Type} {enc : TypeId × Value → H} {W : World} {base : Nat} {held : Bool} {fuel : Nat} {t e : TypeId} (ht : Try.prog.underlying t = some (.slice e)) (he : Try.prog.underlying e = some (.int .i8)) (hc : Try.prog.cellsOf e = 1) {ao : Option Addr} {len cap : Nat} {y : DataW H × List MemPlace}
  (hf : DataW.trod enc Try.prog W base (fun _ => true) held fuel t [.slice ao len cap] = some y) : ∃ zs, I8RowAt W ao len cap zs := by
 rcases open_ints ht he hc hf with ⟨hcs, _⟩ | ⟨⟨b, off, spot⟩, l, c, zs, hcs, _, hl, hm, hz, _, hcell, hwz⟩
 ·simp at hcs
  obtain ⟨rfl, rfl, rfl⟩ := hcs
  exact ⟨[], rfl, Nat.le_refl _, Nat.zero_le _, fun _ => rfl, fun i => by simp [List.getD], fun h => absurd h (by omega)⟩
 ·simp at hcs
  obtain ⟨rfl, rfl, rfl⟩ := hcs
  have hzl : zs.length = cap := by simpa using hz
  have hb : ∀ i, -128 ≤ zs.getD i 0 ∧ zs.getD i 0 ≤ 127 := by
   intro i
   by_cases hi : i < zs.length
   ·exact bounds_i8 (hwz (zs.getD i 0) (by simp [List.getD, hi]))
   ·simp [List.getD, List.getElem?_eq_none (show zs.length ≤ i by omega)]
  have htake : ∀ i, i < len → (zs.take len).getD i 0 = zs.getD i 0 := fun i hi => by simp [List.getD, hi]
  refine ⟨zs.take len, by simp; omega, hl, hm, fun e => by simp at e, fun i => ?_, fun hp => ?_⟩
  ·by_cases hi : i < len
   ·rw [htake i hi]; exact hb i
   ·simp [List.getD, List.getElem?_eq_none (show (zs.take len).length ≤ i by simp; omega)]
  ·have h0 := hcell 0 (by omega)
   obtain rfl : spot = none := by simpa [Addr.add] using World.cell?_spot h0
   refine ⟨b, off, rfl, ?_, fun i hi => ?_⟩
   ·rcases Nat.lt_or_ge b W.heap.size with c | c
    ·exact c
    ·simp [Addr.add, World.cell?, Array.getElem?_eq_none c] at h0
   ·have h1 := hcell i (by omega)
    rw [Addr.add_lit] at h1
    rw [h1, htake i hi]

end Go.Proofs.Ytnpneloahajniaa
