/-
  What awake of the fourth stage tells: true.
-/
import Derived.Test.YtkhcanhdbalihaaWOf
import Derived.Test.YtkhcanhdbalihaaWSmall
import Derived.Test.YtkhcanhdbalihaaWSame
namespace Go.Proofs.Ytkhcanhdbalihaa
open Go.RowKit Lb

theorem form_lit1 {w : World} {e : Int} (v : Nat) (he : e = (v : Int)) (hv : v < 4294967296) (h0 : v ≠ 0) (b : Bool) : FormAt (w.alloc (.cells #[.int .u32 e] 31)) b (some ⟨w.heap.size, 0, none⟩) 1 1 (sgnd b v) :=
  formAt_of ⟨[v], rowAt_one he hv, fun _ => by simpa [lim] using h0, by simp [Lb.val, pre, lim, Bp]⟩ (by simp; intro _; omega)

set_option maxRecDepth 20000 in
set_option maxHeartbeats 1000000 in
theorem awake4_any (w : World) : Calls Try.prog 9 #[] w fun e w' => e = .returned (.bool true) ∧ Below w.heap.size w w' := by
  go_enter Try.func9, Try.ntmps9
  go_wp2_with fail
  refine (of_num _ _ (by omega) (by omega)).mono ?_
  rintro e w1 ⟨b1, a1, l1, c1, rfl, h1, hb1⟩
  have hl1 := h1.len_le (k := 2) (by rw [Bp_succ, Bp_one]; decide)
  go_wp2_with fail
  refine (small_yes _ _ _ _ _ _ h1.int (by omega) (by omega) (by omega)).mono ?_
  rintro e w2 ⟨rfl, hb2⟩
  have hW2 := Below.step hb1 hb2
  clear h1 hl1 hb1 hb2
  go_wp2_with fail
  refine (of_num _ _ (by omega) (by omega)).mono ?_
  rintro e w3 ⟨b3, a3, l3, c3, rfl, h3, hb3⟩
  have hW3 := Below.step hW2 hb3
  clear hW2 hb3
  go_wp2_with fail
  have hb4 : Below w3.heap.size w3 (w3.alloc (.cells #[.int .u32 1] 31)) := (Below.refl _ _).alloc (Nat.le_refl _) _
  refine (rsame_true _ _ _ _ (-1) _ _ _ _ _ (h3.later hb4) (form_lit1 1 rfl (by omega) (by omega) true)).mono ?_
  rintro e w4 ⟨rfl, hb5⟩
  have hW4 := Below.step hW3 (Below.step hb4 hb5)
  clear h3 hb4 hb5 hW3
  go_wp2_with fail
  go_ret
  exact ⟨rfl, hW4⟩

#print axioms awake4_any
end Go.Proofs.Ytkhcanhdbalihaa
