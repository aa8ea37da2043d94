/-
  SameL of two rows of one number, told without noughts at the end: true.
-/
import Derived.Test.YtkhcanhdbalihaaRefRead
import Derived.Test.YtkhcanhdbalihaaRowIn
namespace Go.Proofs.Ytkhcanhdbalihaa
open Go.RowKit Lb

theorem same_true (aa : Option Addr) (la ca : Nat) (ab : Option Addr) (lb cb : Nat) (N : Nat) (w : World) (ha : NumAt w aa la ca N) (hb : NumAt w ab lb cb N) :
    Calls Try.prog 36 #[.slice aa la ca, .slice ab lb cb] w fun e w' => e = .returned (.bool true) ∧ Below w.heap.size w w' := by
  obtain ⟨xs, hx, nx, vx⟩ := ha
  obtain ⟨ys, hy, ny, vy⟩ := hb
  refine (same_any aa la ca xs ab lb cb ys w hx hy).mono ?_
  rintro e w' ⟨rfl, hbel⟩
  refine ⟨?_, hbel⟩
  rw [decide_eq_true (norm_inj hx.small hy.small nx ny (vx.trans vy.symm))]

#print axioms same_true
end Go.Proofs.Ytkhcanhdbalihaa
