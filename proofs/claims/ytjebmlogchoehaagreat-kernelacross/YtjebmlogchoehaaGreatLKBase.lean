/-
 What the eleventh stage's walks share: each row's Dot is 0 just of what the kernel has.
-/
import Derived.Test.YtjebmlogchoehaaGreatKFew
import Derived.Test.YtjebmlogchoehaaGreatRHas
namespace Go.Proofs.YtjebmlogchoehaaGreat
open Go.RowKit Lb
set_option maxRecDepth 20000

theorem nulls_dots {c : List (List Int)} {N n : Nat} {v : List Int} (hn : c.length = n) (hc : ∀ r ∈ c, r.length = N) : Nulls c N (fun j => v.getD j 0) ↔ ∀ i, i < n → vdot (c.getD i []) v = 0 := by
 have e : ∀ i, (sumN N fun t => v.getD t 0 * ent c i t) = vdot (c.getD i []) v := fun i => by
  rw [← vdot_upto (n := N) (all_len_le hc i)]
  exact sumN_congr fun t _ => Int.mul_comm _ _
 subst hn
 exact ⟨fun h i hi => (e i).symm.trans (h i hi), fun h i hi => (e i).trans (h i hi)⟩
theorem ker_dots {K c : List (List Int)} {N n : Nat} {v : List Int} (hk : Ker K c N) (hn : c.length = n) (hc : ∀ r ∈ c, r.length = N) (hv : v.length ≤ N) : InL K (fun j => v.getD j 0) ↔ ∀ i, i < n → vdot (c.getD i []) v = 0 := by
 rw [← nulls_dots hn hc]
 exact ⟨fun h => hk.yes _ h, fun h => hk.all _ (fun j hj => by
  show v.getD j 0 = 0
  rw [List.getD_eq_getElem?_getD, List.getElem?_eq_none (by omega)]; rfl) h⟩
theorem cut_lens (rs : List (List Int)) (N : Nat) : ∀ r ∈ rs.map fun r => vcut r N, r.length = N := fun r hr => by
 obtain ⟨s, _, rfl⟩ := List.mem_map.1 hr
 exact vcut_len s N
theorem bool_is (p : Prop) : ∃ q : Bool, (q = true ↔ p) := by
 by_cases h : p
 ·exact ⟨true, by simp [h]⟩
 ·exact ⟨false, by simp [h]⟩
theorem lens_wide {c : List (List Int)} {N M : Nat} (h : ∀ r ∈ c, r.length = N) (hM : N ≤ M) (i : Nat) : (c.getD i []).length ≤ M := Nat.le_trans (all_len_le h i) hM

end Go.Proofs.YtjebmlogchoehaaGreat
