/-
  What the reference's Same tells of two Ints, each in its one form.
-/
import Derived.Test.YtkhcanhdbalihaaWForm
namespace Go.Proofs.Ytkhcanhdbalihaa
open Go.RowKit Lb

theorem numAt_same (aa : Option Addr) (la ca : Nat) (ab : Option Addr) (lb cb : Nat) (M N : Nat) (w : World) (ha : NumAt w aa la ca M) (hb : NumAt w ab lb cb N) :
    Calls Try.prog 36 #[.slice aa la ca, .slice ab lb cb] w fun e w' => e = .returned (.bool (decide (M = N))) ∧ Below w.heap.size w w' := by
  obtain ⟨xs, hx, nx, vx⟩ := ha
  obtain ⟨ys, hy, ny, vy⟩ := hb
  refine (same_any aa la ca xs ab lb cb ys w hx hy).mono ?_
  rintro e w' ⟨rfl, hbel⟩
  refine ⟨?_, hbel⟩
  have e : decide (xs = ys) = decide (M = N) := by
    rw [decide_eq_decide]
    constructor
    · rintro rfl; rw [← vx, ← vy]
    · intro h; exact norm_inj hx.small hy.small nx ny (by rw [vx, vy, h])
  rw [e]

set_option maxHeartbeats 1000000 in
theorem rsame_num (b : Bool) (aa : Option Addr) (la ca : Nat) (z : Int) (b' : Bool) (aa' : Option Addr) (la' ca' : Nat) (z' : Int) (w : World) (ha : FormAt w b aa la ca z) (ha' : FormAt w b' aa' la' ca' z') :
    Calls Try.prog 13 #[.agg #[.bool b, .slice aa la ca], .agg #[.bool b', .slice aa' la' ca']] w fun e w' => e = .returned (.bool (decide (z = z'))) ∧ Below w.heap.size w w' := by
  have hbox := below2 w (.cells #[.bool b, .slice aa la ca] 24) (.cells #[.bool b', .slice aa' la' ca'] 24)
  by_cases hb : b = b'
  · have e0 : decide (z = z') = decide (z.natAbs = z'.natAbs) := by
      have e1 := ha.2
      rw [hb, ha'.2] at e1
      rw [decide_eq_decide] at e1 ⊢
      omega
    rw [e0]
    have n1 := ha.1.later hbox
    have n2 := ha'.1.later hbox
    clear ha ha'
    subst hb
    have hbb : (b == b) = true := by simp
    go_enter Try.func13, Try.ntmps13
    go_wp2_with fail
    refine (numAt_same _ _ _ _ _ _ _ _ _ n1 n2).mono ?_
    rintro e w1 ⟨rfl, hb1⟩
    have hW := Below.step hbox hb1
    go_wp2
    go_ret
    exact ⟨rfl, hW⟩
  · have e0 : decide (z = z') = false := by
      refine decide_eq_false (fun e => hb ?_)
      rw [ha.2, ha'.2, e]
    rw [e0]
    clear ha ha'
    have hbb : (b == b') = false := by simpa using hb
    go_enter Try.func13, Try.ntmps13
    go_wp2
    go_ret
    exact ⟨rfl, hbox⟩
theorem rsame_true (b : Bool) (aa : Option Addr) (la ca : Nat) (z : Int) (b' : Bool) (aa' : Option Addr) (la' ca' : Nat) (w : World) (ha : FormAt w b aa la ca z) (ha' : FormAt w b' aa' la' ca' z) :
    Calls Try.prog 13 #[.agg #[.bool b, .slice aa la ca], .agg #[.bool b', .slice aa' la' ca']] w fun e w' => e = .returned (.bool true) ∧ Below w.heap.size w w' := by
  have := rsame_num _ _ _ _ _ _ _ _ _ _ _ ha ha'
  rwa [decide_eq_true (rfl : z = z)] at this

#print axioms rsame_num
#print axioms rsame_true
end Go.Proofs.Ytkhcanhdbalihaa
