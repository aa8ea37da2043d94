/-
 What rows.Sort tells: the rows sorted, of the same ones the first (IN PARTS).
-/
import Derived.Test.YtnpneloahajniaaJI
import Derived.Deep.CutRange
namespace Go.Proofs.Ytnpneloahajniaa
open Go.RowKit Lb
set_option maxRecDepth 20000

/-
 What Half, Both and Same of package rows tell (IN PARTS).
-/

/-- No row has more than M places. -/
def Wide (rs : List (List Int)) (M : Nat) : Prop := ∀ x ∈ rs, x.length ≤ M
theorem Wide.at {rs : List (List Int)} {M : Nat} (h : Wide rs M) (i : Nat) : (rs.getD i []).length ≤ M := by
 by_cases hi : i < rs.length
 ·rw [show rs.getD i [] = rs[i] by simp [List.getD, hi]]
  exact h _ (List.getElem_mem hi)
 ·rw [show rs.getD i [] = [] by simp [List.getD, List.getElem?_eq_none (show rs.length ≤ i by omega)]]
  exact Nat.zero_le _
theorem Wide.half {l : List (List Int)} {M : Nat} (h : Wide l M) : Wide (halfL l) M := fun x hx => by
 obtain ⟨v, hv, _, rfl⟩ := mem_half.1 hx
 rw [vnormal_len]
 exact h v hv
theorem Wide.both {l : List (List Int)} {M : Nat} (h : Wide l M) : Wide (bothL l) M := fun x hx => by
 unfold bothL at hx
 rcases List.mem_append.1 hx with c | c
 ·exact h x c
 ·obtain ⟨v, hv, rfl⟩ := List.mem_map.1 c
  rw [vneg_len]
  exact h v hv
end Go.Proofs.Ytnpneloahajniaa
