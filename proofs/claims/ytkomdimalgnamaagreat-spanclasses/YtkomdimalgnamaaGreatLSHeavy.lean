/-
 Heavy of one vector, of two: short ones of small numbers.
-/
import Derived.Test.YtkomdimalgnamaaGreatJR
import Derived.Test.YtkomdimalgnamaaGreatJI
namespace Go.Proofs.YtkomdimalgnamaaGreat
open Go.RowKit Lb
set_option maxRecDepth 20000

theorem vs_at {w : World} {g i n c1 : Nat} {a : Option Addr} {l c : Nat} {rs : List (List Int)} (h : MS w (some ⟨g, 0, none⟩) n c1 rs 3) (hi : i < n) (hc : w.cell? ⟨g, i, none⟩ = some (.slice a l c)) : VS w a l c (rs.getD i []) 3 := by
 obtain ⟨_, a', l', c', h1, h2⟩ := RowsOf.at (R := fun w a l c zs => VS w a l c zs 3) h hi;rw [Nat.zero_add, hc] at h1;simp only [Option.some.injEq, Value.slice.injEq] at h1;obtain ⟨rfl, rfl, rfl⟩ := h1;exact h2
theorem mi_1 {w : World} {a : Option Addr} {l c : Nat} {zs : List Int} (h : VI w a l c zs) : MI (w.alloc (.cells #[.slice a l c] 24)) (some ⟨w.heap.size, 0, none⟩) 1 1 [zs] := by
 refine rowsOf_new (R := VI) (vs := [(a, l, c)]) rfl rfl rfl (by simp) fun i a2 l2 c2 e => ?_
 match i with
 | 0 =>
  simp at e;obtain ⟨rfl, rfl, rfl⟩ := e;exact h.za (below_new w _)
 | i + 1 => simp at e
theorem mi_2 {w : World} {a a' : Option Addr} {l c l' c' : Nat} {zs ys : List Int} (h : VI w a l c zs) (h' : VI w a' l' c' ys) : MI (w.alloc (.cells #[.slice a l c, .slice a' l' c'] 24)) (some ⟨w.heap.size, 0, none⟩) 2 2 [zs, ys] := by
 refine rowsOf_new (R := VI) (vs := [(a, l, c), (a', l', c')]) rfl rfl rfl (by simp) fun i a2 l2 c2 e => ?_
 match i with
 | 0 =>
  simp at e;obtain ⟨rfl, rfl, rfl⟩ := e;exact h.za (below_new w _)
 | 1 =>
  simp at e;obtain ⟨rfl, rfl, rfl⟩ := e;exact h'.za (below_new w _)
 | i + 2 => simp at e
theorem heavyOneK (a : Option Addr) (len cap : Nat) (zs : List Int) (w : World) (h : VI w a len cap zs) :
  Calls Tryz.prog 8 #[.slice (some ⟨w.heap.size, 0, none⟩) 1 1, .int .i64 1, .int .i64 9] (w.alloc (.cells #[.slice a len cap] 24)) fun e w' => ∃ q, e = .returned (.int .i64 q) ∧ (q = 0 ∨ q = 1) ∧ (q = 0 → len ≤ 9 ∧ VS w' a len cap zs 3) ∧ Below w.heap.size w w' := by
 obtain ⟨WA, hWA⟩ : ∃ WA, WA = w.alloc (.cells #[.slice a len cap] 24) := ⟨_, rfl⟩;have hbA : Below w.heap.size w WA := by rw [hWA]; exact below_new _ _
 have hcA : WA.cell? ⟨w.heap.size, 0, none⟩ = some (.slice a len cap) := by rw [hWA]; simp
 have hsA : w.heap.size < WA.heap.size := by rw [hWA]; simp
 have hone : MI WA (some ⟨w.heap.size, 0, none⟩) 1 1 [zs] := by rw [hWA]; exact mi_1 h
 have hl := h.len_eq;rw [← hWA];refine (heavyK _ 1 1 [zs] 1 9 WA hone (by omega) (by omega)).mono ?_;rintro e w' ⟨q, rfl, hq, hlt, hb⟩;refine ⟨q, rfl, hq, fun e0 => ?_, Below.step hbA hb⟩;obtain ⟨_, hwd, hms⟩ := hlt e0;exact ⟨by have := hwd 0; rw [show [zs].getD 0 [] = zs from rfl, hl] at this; exact this, vs_at (i := 0) (hms w' hb) (by omega) ((hb.cell (p := ⟨w.heap.size, 0, none⟩) hsA).trans hcA)⟩
theorem heavyTwoK (a : Option Addr) (len cap : Nat) (zs : List Int) (a' : Option Addr) (len' cap' : Nat) (ys : List Int) (w : World) (h : VI w a len cap zs) (h' : VI w a' len' cap' ys) :
  Calls Tryz.prog 8 #[.slice (some ⟨w.heap.size, 0, none⟩) 2 2, .int .i64 2, .int .i64 9] (w.alloc (.cells #[.slice a len cap, .slice a' len' cap'] 24)) fun e w' => ∃ q, e = .returned (.int .i64 q) ∧ (q = 0 ∨ q = 1) ∧ (q = 0 → VS w' a len cap zs 3 ∧ VS w' a' len' cap' ys 3) ∧ Below w.heap.size w w' := by
 obtain ⟨WA, hWA⟩ : ∃ WA, WA = w.alloc (.cells #[.slice a len cap, .slice a' len' cap'] 24) := ⟨_, rfl⟩;have hbA : Below w.heap.size w WA := by rw [hWA]; exact below_new _ _
 have hcA : WA.cell? ⟨w.heap.size, 0, none⟩ = some (.slice a len cap) := by rw [hWA]; simp
 have hcB : WA.cell? ⟨w.heap.size, 1, none⟩ = some (.slice a' len' cap') := by rw [hWA]; simp
 have hsA : w.heap.size < WA.heap.size := by rw [hWA]; simp
 have htwo : MI WA (some ⟨w.heap.size, 0, none⟩) 2 2 [zs, ys] := by rw [hWA]; exact mi_2 h h'
 rw [← hWA];refine (heavyK _ 2 2 [zs, ys] 2 9 WA htwo (by omega) (by omega)).mono ?_;rintro e w' ⟨q, rfl, hq, hlt, hb⟩;refine ⟨q, rfl, hq, fun e0 => ?_, Below.step hbA hb⟩;obtain ⟨_, _, hms⟩ := hlt e0;exact ⟨vs_at (i := 0) (hms w' hb) (by omega) ((hb.cell (p := ⟨w.heap.size, 0, none⟩) hsA).trans hcA), vs_at (i := 1) (hms w' hb) (by omega) ((hb.cell (p := ⟨w.heap.size, 1, none⟩) hsA).trans hcB)⟩

end Go.Proofs.YtkomdimalgnamaaGreat
