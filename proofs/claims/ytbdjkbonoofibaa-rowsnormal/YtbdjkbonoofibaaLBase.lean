/-
  The contracts of stage 9 as the statements use them.
-/
import Derived.Test.YtbdjkbonoofibaaFew9
namespace Go.Proofs.Ytbdjkbonoofibaa
open Go.RowKit Lb
set_option maxRecDepth 20000

theorem bool_of (p : Prop) : ∃ q : Bool, (q = true ↔ p) := by
  by_cases h : p
  · exact ⟨true, by simp [h]⟩
  · exact ⟨false, by simp [h]⟩
theorem vsameTT (ao : Option Addr) (n cap : Nat) (zs : List Int) (k : Nat) (ao' : Option Addr) (n' cap' : Nat) (ys : List Int) (l : Nat) (w : World) (h : VK w ao n cap zs k) (h' : VK w ao' n' cap' ys l) (hk : k ≤ 900000) (hl : l ≤ 900000) (hn : n ≤ 1000000) (hn' : n' ≤ 1000000) (e0 : VSame zs ys) :
    Calls Try.prog 34 #[.slice ao n cap, .slice ao' n' cap'] w fun e w' => e = .returned (.bool true) ∧ Below w.heap.size w w' := by
  refine (vsameK _ _ _ zs k _ _ _ ys l w h h' hk hl hn hn').mono ?_
  rintro e w' ⟨c, rfl, hc, hb⟩
  obtain rfl := hc.zero_iff.2 e0
  exact ⟨rfl, hb⟩
theorem vsameBB (ao : Option Addr) (n cap : Nat) (zs : List Int) (k : Nat) (ao' : Option Addr) (n' cap' : Nat) (ys : List Int) (l : Nat) (q : Bool) (w : World) (h : VK w ao n cap zs k) (h' : VK w ao' n' cap' ys l) (hk : k ≤ 900000) (hl : l ≤ 900000) (hn : n ≤ 1000000) (hn' : n' ≤ 1000000) (hq : q = true ↔ VSame zs ys) :
    Calls Try.prog 34 #[.slice ao n cap, .slice ao' n' cap'] w fun e w' => e = .returned (.bool q) ∧ Below w.heap.size w w' := by
  refine (vsameK _ _ _ zs k _ _ _ ys l w h h' hk hl hn hn').mono ?_
  rintro e w' ⟨c, rfl, hc, hb⟩
  refine ⟨?_, hb⟩
  have : (c == 0) = q := by rw [Bool.eq_iff_iff, beq_iff_eq, hc.zero_iff]; exact hq.symm
  rw [this]
theorem vcmpV (ao : Option Addr) (n cap : Nat) (zs : List Int) (k : Nat) (ao' : Option Addr) (n' cap' : Nat) (ys : List Int) (l : Nat) (c : Int) (w : World) (h : VK w ao n cap zs k) (h' : VK w ao' n' cap' ys l) (hk : k ≤ 900000) (hl : l ≤ 900000) (hn : n ≤ 1000000) (hn' : n' ≤ 1000000) (hc : c = cmpV zs ys) :
    Calls Try.prog 30 #[.slice ao n cap, .slice ao' n' cap'] w fun e w' => e = .returned (.int .i64 c) ∧ Below w.heap.size w w' := by
  refine (vcmpK _ _ _ zs k _ _ _ ys l w h h' hk hl hn hn').mono ?_
  rintro e w' ⟨d, rfl, hd, h1, h2, hb⟩
  have hbd := cmpV_bd zs ys
  rw [hd.eq_cmpV h1 h2 hbd.1 hbd.2, ← hc]
  exact ⟨rfl, hb⟩
theorem vnoughtB9 (ao : Option Addr) (n cap : Nat) (zs : List Int) (k : Nat) (q : Bool) (w : World) (h : VK w ao n cap zs k) (hq : vnought zs = q) :
    Calls Try.prog 36 #[.slice ao n cap] w fun e w' => e = .returned (.bool q) ∧ Below w.heap.size w w' := by
  subst hq
  exact vnoughtK _ _ _ _ _ _ h
theorem normal_not_neg (v : List Int) : ¬ vlt (vnormal v) [] := by
  rcases normal_cases v with ⟨c, e⟩ | ⟨c, e⟩ | ⟨c, e⟩
  · rw [e]
    have := vlt_neg c
    rw [vneg_nil] at this
    exact fun t => vlt_asymm t this
  · rw [e]; exact fun t => vlt_ne t c
  · rw [e]; exact fun t => vlt_asymm t c
theorem normal_nought_iff (v : List Int) : VSame (vnormal v) [] ↔ VSame v [] := by
  rcases normal_cases v with ⟨c, e⟩ | ⟨c, e⟩ | ⟨c, e⟩
  · rw [e]
    constructor
    · intro t
      have := t.neg
      rwa [vneg_neg, vneg_nil] at this
    · intro t
      exact absurd t (vlt_ne c)
  · rw [e]
  · rw [e]
theorem normal_or {v : List Int} (h : ¬ VSame (vnormal v) v) : VSame (vnormal v) (vneg v) := by
  rcases normal_cases v with ⟨_, e⟩ | ⟨_, e⟩ | ⟨_, e⟩
  · rw [e]; exact VSame.refl _
  · rw [e] at h; exact absurd (VSame.refl _) h
  · rw [e] at h; exact absurd (VSame.refl _) h
#print axioms vcmpV
end Go.Proofs.Ytbdjkbonoofibaa
