/-
  What long.giveBack does: b is added to a part of a row, in place; what is carried beyond the part is lost.
-/
import Derived.Test.YtfmdlbhgohmgbaaAddTimes
import Derived.Deep.RegionWith
namespace Go.Proofs.Ytfmdlbhgohmgbaa
open Go.RowKit Lb

/-- b itself, added to a part: the limb above the part stays, and can be read and written. -/
theorem addTimes_one (base g N cap : Nat) (zs : List Nat) (o c' : Nat) (ab : Option Addr) (lb cb : Nat) (ys : List Nat) (w : World)
    (hown0 : Own w base (.slice (some ⟨g, 0, none⟩) N cap) N zs) (hsm0 : Small zs) (hb : RowAt w ab lb cb ys) (hoff : Off g ab lb) (hfit : o + lb + 1 ≤ N) :
    Calls Try.prog 30 #[.slice (some ⟨g, o, none⟩) lb c', .slice ab lb cb, .int .u32 1] w fun e w' => ∃ (c : Nat) (us : List Nat), e = .returned (.int .u32 (c : Int)) ∧ c < 4294967296 ∧ w'.cell? ⟨g, o + lb, none⟩ = some (.int .u32 (lim zs (o + lb) : Int)) ∧ w'.frozen? ⟨g, o + lb, none⟩ = false ∧ Hid (Own w' base (.slice (some ⟨g, 0, none⟩) N cap) N us ∧ Small us ∧ (∀ i, i < o ∨ o + lb ≤ i → lim us i = lim zs i) ∧ pre us (o + lb) + c * Bp (o + lb) = pre zs (o + lb) + val ys * Bp o ∧ Only g w w') := by
  refine (addTimes_any base g N cap zs o c' ab lb cb ys 1 w hown0 hsm0 hb hoff (by omega) (by omega)).mono ?_
  rintro e w' ⟨c, us, h1, h2, h3, h4, h5, h6, h7⟩
  refine ⟨c, us, h1, h2, ?_, h3.free _, h3, h4, h5, ?_, h7⟩
  · rw [← h5 (o + lb) (Or.inr (Nat.le_refl _))]
    exact h3.cell (by omega)
  · rw [Nat.one_mul] at h6
    exact h6
theorem give_end {U Z c p b V k : Nat} (h : U + c * b = Z + V * k) : U + (p + c) % 4294967296 * b + (p + c) / 4294967296 * (b * 4294967296) = Z + p * b + V * k := by
  have h1 := carry_eq (p + c) b
  rw [Nat.add_mul] at h1
  omega

set_option maxRecDepth 20000 in
set_option maxHeartbeats 1000000 in
theorem giveBack_any (base g N cap : Nat) (zs : List Nat) (o c' : Nat) (ab : Option Addr) (lb cb : Nat) (ys : List Nat) (w : World)
    (hown0 : Own w base (.slice (some ⟨g, 0, none⟩) N cap) N zs) (hsm0 : Small zs) (hb : RowAt w ab lb cb ys) (hoff : Off g ab lb) (hfit : o + lb + 1 ≤ N) (hc : lb + 1 ≤ c') :
    Calls Try.prog 44 #[.slice (some ⟨g, o, none⟩) (lb + 1) c', .slice ab lb cb] w fun e w' => ∃ (c : Nat) (us : List Nat), e = .returned (.tuple #[]) ∧ Own w' base (.slice (some ⟨g, 0, none⟩) N cap) N us ∧ Small us ∧ (∀ i, i < o ∨ o + lb + 1 ≤ i → lim us i = lim zs i) ∧ pre us (o + lb + 1) + c * Bp (o + lb + 1) = pre zs (o + lb + 1) + val ys * Bp o ∧ Only g w w' := by
  have hm2 := hb.cap_max
  have hc2 := hb.cap_le
  unfold maxLen at hm2
  have cs := hown0.cell (i := o + lb) (by omega)
  have cf := hown0.free (o + lb)
  have hbu := hsm0 (o + lb)
  go_enter Try.func44, Try.ntmps44
  go_wp2_with fail
  have hownD : Own w.drew base (.slice (some ⟨g, 0, none⟩) N cap) N zs := hown0
  have hbD : RowAt w.drew ab lb cb ys := hb.later (Below.refl _ _).drew
  have HOD := hide hownD
  have HBD := hide hbD
  clear hownD hbD
  go_region_with (go_at_call 30; refine (addTimes_one base g N cap zs o _ ab lb cb ys _ (unhide HOD) hsm0 (unhide HBD) hoff hfit).mono ?_; rintro e w2 ⟨c, us, rfl, hcl, cs2, cf2, hall⟩)
  all_goals go_wp2
  all_goals
    first | go_end0 | refine bodyPost_ret (results_none rfl _ _ _) rfl ?_
    obtain ⟨h3, h4, h5, h6, h7⟩ := unhide hall
    have ulen := h3.len
    have e : ((lim zs (o + lb) : Int) + (c : Int)) % 4294967296 = (((lim zs (o + lb) + c) % 4294967296 : Nat) : Int) := by simp
    refine ⟨(lim zs (o + lb) + c) / 4294967296, us.set (o + lb) ((lim zs (o + lb) + c) % 4294967296), rfl, h3.set _ _ e, small_set h4 (by omega), fun i hi => ?_, ?_, ?_⟩
    · rw [lim_set _ _ _ _ (by rw [ulen]; omega), if_neg (by omega)]
      exact h5 i (by omega)
    · rw [pre_succ, pre_set_lt _ _ _ _ (Nat.le_refl _) (by rw [ulen]; omega), lim_set _ _ _ _ (by rw [ulen]; omega), if_pos rfl, Bp_succ, pre_succ]
      exact give_end h6
    · exact ((Only.refl g w).drewN 1 |>.then h7).setCell _ _

#print axioms giveBack_any
end Go.Proofs.Ytfmdlbhgohmgbaa
