/-
 The walk of KernelAcross: it tells true.
-/
import Derived.Test.YtjebmlogchoehaaGreatLKBase
import Derived.Test.YtjebmlogchoehaaGreatJI
import Derived.Deep.CutRange
namespace Go.Proofs.YtjebmlogchoehaaGreat
open Go.RowKit Lb
set_option maxRecDepth 20000

theorem mi_one {w : World} {a : Option Addr} {l c : Nat} {zs : List Int} (h : VI w a l c zs) : MI (w.alloc (.cells #[.slice a l c] 24)) (some ⟨w.heap.size, 0, none⟩) 1 1 [zs] := by
 refine rowsOf_new (R := VI) (vs := [(a, l, c)]) rfl rfl rfl (by simp) fun i a2 l2 c2 e => ?_
 match i with
 | 0 =>
  simp at e
  obtain ⟨rfl, rfl, rfl⟩ := e
  exact h.later (below_new w _)
 | i + 1 => simp at e
theorem vs_one {w : World} {g c1 : Nat} {a : Option Addr} {l c : Nat} {zs : List Int} (h : MS w (some ⟨g, 0, none⟩) 1 c1 [zs] 3) (hc : w.cell? ⟨g, 0, none⟩ = some (.slice a l c)) : VS w a l c zs 3 := by
 obtain ⟨_, a', l', c', h1, h2⟩ := RowsOf.at (R := fun w a l c zs => VS w a l c zs 3) h (i := 0) (by omega)
 rw [Nat.zero_add, hc] at h1
 simp only [Option.some.injEq, Value.slice.injEq] at h1
 obtain ⟨rfl, rfl, rfl⟩ := h1
 exact h2
end Go.Proofs.YtjebmlogchoehaaGreat
