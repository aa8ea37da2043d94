/-
  What long.Exact does: the quotient; false, if b is 0, or something is left.
-/
import Derived.Test.YtfmdlbhgohmgbaaDivMod
namespace Go.Proofs.Ytfmdlbhgohmgbaa
open Go.RowKit Lb

set_option maxHeartbeats 400000 in
theorem exact_yes (aa : Option Addr) (la ca : Nat) (xs : List Nat) (ab : Option Addr) (lb cb : Nat) (ys : List Nat) (w : World) (ha : RowAt w aa la ca xs) (hb : RowAt w ab lb cb ys) (hla : la ≤ 10000000) (hlb : lb ≤ 10000000) (hD : 0 < val ys) (hz : val xs % val ys = 0) :
    Calls Try.prog 10 #[.slice aa la ca, .slice ab lb cb] w fun e w' => ∃ a1 l1 c1, e = .returned (.tuple #[.slice a1 l1 c1, .bool true]) ∧ NumAt w' a1 l1 c1 (val xs / val ys) ∧ Below w.heap.size w w' := by
  have k := divmod_yes aa la ca xs ab lb cb ys w ha hb hla hlb hD
  rw [hz] at k
  generalize val xs / val ys = Q at *
  clear hz hD
  go_enter Try.func10, Try.ntmps10
  go_wp2_with fail
  refine k.mono ?_
  rintro e w1 ⟨a1, l1, c1, a2, l2, c2, rfl, hn1, hn2, hw⟩
  have h0 : l2 = 0 := by
    have := hn2.len_le (k := 0) (Bp_pos 0)
    omega
  subst h0
  clear k
  go_wp2
  go_ret2
  exact ⟨_, _, _, rfl, hn1, hw⟩

set_option maxHeartbeats 400000 in
theorem exact_no (aa : Option Addr) (la ca : Nat) (xs : List Nat) (ab : Option Addr) (lb cb : Nat) (ys : List Nat) (w : World) (ha : RowAt w aa la ca xs) (hb : RowAt w ab lb cb ys) (hla : la ≤ 10000000) (hlb : lb ≤ 10000000) (hno : val ys = 0 ∨ val xs % val ys ≠ 0) :
    Calls Try.prog 10 #[.slice aa la ca, .slice ab lb cb] w fun e w' => e = .returned (.tuple #[.slice none 0 0, .bool false]) ∧ Below w.heap.size w w' := by
  rcases Nat.eq_zero_or_pos (val ys) with h0 | hD
  · have k := divmod_no aa la ca xs ab lb cb ys w ha hb h0
    clear hno h0
    go_enter Try.func10, Try.ntmps10
    go_wp2_with fail
    refine k.mono ?_
    rintro e w1 ⟨rfl, rfl⟩
    clear k
    go_wp2
    go_ret2
    exact ⟨rfl, Below.refl _ _⟩
  · have k := divmod_yes aa la ca xs ab lb cb ys w ha hb hla hlb hD
    have hr : 0 < val xs % val ys := by omega
    generalize val xs % val ys = R at *
    clear hno hD
    have HR := hide hr
    clear hr
    go_enter Try.func10, Try.ntmps10
    go_wp2_with fail
    refine k.mono ?_
    rintro e w1 ⟨a1, l1, c1, a2, l2, c2, rfl, hn1, hn2, hw⟩
    have h0 : 0 < l2 := by
      obtain ⟨zs, hz, _, vz⟩ := hn2
      rcases Nat.eq_zero_or_pos l2 with e | e
      · exfalso
        rw [List.eq_nil_of_length_eq_zero (show zs.length = 0 by rw [hz.len_eq, e]), val_nil] at vz
        have := unhide HR
        omega
      · exact e
    clear k
    go_wp2
    go_ret2
    exact ⟨rfl, hw⟩

#print axioms exact_yes
#print axioms exact_no
end Go.Proofs.Ytfmdlbhgohmgbaa
