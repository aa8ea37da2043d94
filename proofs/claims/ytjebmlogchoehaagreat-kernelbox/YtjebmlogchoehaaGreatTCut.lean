/-
  The beginning and the end of a vector, as vectors; slicing to them.
-/
import Derived.Test.YtjebmlogchoehaaGreatTTwo
namespace Go.Proofs.YtjebmlogchoehaaGreat
open Go.RowKit Lb
set_option maxRecDepth 20000

theorem vf_take {w : World} {g off n cap k q : Nat} {zs : List Int} (h : VF w (some ⟨g, off, none⟩) n cap zs k) (hq : q ≤ n) : VF w (some ⟨g, off, none⟩) q cap (zs.take q) k := by
  refine ⟨by rw [List.length_take, h.len_eq]; omega, Nat.le_trans hq h.cap_le, h.cap_max, fun e => by simp at e, fun hp => ?_⟩
  obtain ⟨g', off', e, hg, hc⟩ := h.elts (by omega)
  refine ⟨g', off', e, hg, fun i hi => ?_⟩
  obtain ⟨b, a, l, c, h1, h2⟩ := hc i (by omega)
  refine ⟨b, a, l, c, h1, ?_⟩
  rw [List.getD_eq_getElem?_getD, List.getElem?_take_of_lt hi, ← List.getD_eq_getElem?_getD]
  exact h2
theorem vf_drop {w : World} {g off n cap k q : Nat} {zs : List Int} (h : VF w (some ⟨g, off, none⟩) n cap zs k) (hq : q ≤ n) : VF w (some ⟨g, off + q * 2, none⟩) (n - q) (cap - q) (zs.drop q) k := by
  have h1 := h.cap_le
  have h2 := h.cap_max
  refine ⟨by rw [List.length_drop, h.len_eq], by omega, by omega, fun e => by simp at e, fun hp => ?_⟩
  obtain ⟨g', off', e, hg, hc⟩ := h.elts (by omega)
  simp only [Option.some.injEq, Addr.mk.injEq, and_true] at e
  obtain ⟨rfl, rfl⟩ := e
  refine ⟨g, off + q * 2, rfl, hg, fun i hi => ?_⟩
  obtain ⟨b, a, l, c, h3, h4⟩ := hc (q + i) (by omega)
  refine ⟨b, a, l, c, by rw [show off + q * 2 + i * 2 = off + (q + i) * 2 by omega]; exact h3, ?_⟩
  rw [List.getD_eq_getElem?_getD, List.getElem?_drop, ← List.getD_eq_getElem?_getD]
  exact h4
theorem slice_headV {g off n cap q : Nat} (hq : q ≤ n) (hc : n ≤ cap) : ∀ W, (Instr.sliceAt 24 (.slice (some ⟨g, off, none⟩) n cap) none (some (.int .i64 (q : Int))) none).run Tryz.prog W = .ok (.slice (some ⟨g, off, none⟩) q cap) W := by
  intro W
  have h0 : (0 : Int) ≤ (q : Int) := by omega
  simp [Instr.sliceAt, Instr.slice, Instr.sliceBounds, Instr.sliceBound, run_underlying Tryz.underlying24, go_sem, h0]
  exact fun e => absurd e (by omega)
theorem slice_tailV {g off n cap q : Nat} (hq : q < n) (hc : n ≤ cap) : ∀ W, (Instr.sliceAt 24 (.slice (some ⟨g, off, none⟩) n cap) (some (.int .i64 (q : Int))) none none).run Tryz.prog W = .ok (.slice (some ⟨g, off + q * 2, none⟩) (n - q) (cap - q)) W := by
  intro W
  have h0 : (0 : Int) ≤ (q : Int) := by omega
  have c : ¬ cap = q := by omega
  simp [Instr.sliceAt, Instr.slice, Instr.sliceBounds, Instr.sliceBound, run_underlying Tryz.underlying24, go_sem, h0, c]
  exact fun e => absurd e (by omega)

#print axioms slice_tailV
#print axioms vf_take
#print axioms vf_drop
#print axioms slice_headV
end Go.Proofs.YtjebmlogchoehaaGreat
