/-
  What Lcm of package bezout tells (IN PARTS).
-/
import Derived.Test.YtnpneloahajniaaJE
import Derived.Deep.CutRange
namespace Go.Proofs.Ytnpneloahajniaa
open Go.RowKit Lb
set_option maxRecDepth 20000

/-- Quo by whatever number, 0 among them. -/
theorem quoA (b : Bool) (aa : Option Addr) (la ca : Nat) (x : Int) (k : Nat) (b' : Bool) (ab : Option Addr) (lb cb : Nat) (y : Int) (l : Nat) (w : World) (hx : IK w b aa la ca x k) (hy : IK w b' ab lb cb y l) :
    Calls Try.prog 46 #[.agg #[.bool b, .slice aa la ca], .agg #[.bool b', .slice ab lb cb]] w fun e w' => ∃ b1 a1 l1 c1 b2 a2 l2 c2 q, e = .returned (.tuple #[.agg #[.bool b1, .slice a1 l1 c1], .agg #[.bool b2, .slice a2 l2 c2], .bool q]) ∧ FK w' b1 a1 l1 c1 (x.tdiv y) k ∧ Below w.heap.size w w' := by
  by_cases h0 : y = 0
  · subst h0
    refine (quoN _ _ _ _ x k _ _ _ _ l _ hx hy).mono ?_
    rintro e w' ⟨rfl, hb⟩
    exact ⟨_, _, _, _, _, _, _, _, _, rfl, by rw [Int.tdiv_zero]; exact fk_zero _ _, hb⟩
  · refine (quoK _ _ _ _ x k _ _ _ _ y l _ hx hy h0).mono ?_
    rintro e w' ⟨b1, a1, l1, c1, b2, a2, l2, c2, rfl, h1, _, hb⟩
    exact ⟨_, _, _, _, _, _, _, _, _, rfl, h1, hb⟩

end Go.Proofs.Ytnpneloahajniaa
