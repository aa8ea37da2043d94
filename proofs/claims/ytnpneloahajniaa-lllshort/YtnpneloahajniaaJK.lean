/-
  What rows.Sort tells: the rows sorted, of the same ones the first (IN PARTS).
-/
import Derived.Test.YtnpneloahajniaaJI
import Derived.Deep.CutRange
namespace Go.Proofs.Ytnpneloahajniaa
open Go.RowKit Lb
set_option maxRecDepth 20000

theorem wrap_nat (q : Nat) (h : q ≤ 9223372036854775807) : IntKind.i64.wrap (q : Int) = (q : Int) := by
  simp [IntKind.wrap, IntKind.bits, IntKind.signed]
  omega
theorem last_at {r : List (List Int)} {m : Nat} (h : r.length = m) (hp : 0 < m) : r.getLast? = some (r.getD (m - 1) []) := by
  rw [List.getLast?_eq_getElem?, h, List.getD_eq_getElem?_getD]
  obtain ⟨x, hx⟩ : ∃ x, r[m - 1]? = some x := ⟨r[m - 1], List.getElem?_eq_getElem (by omega)⟩
  rw [hx]; rfl
/-
  What Half, Both and Same of package rows tell (IN PARTS).
-/

/-- No row has more than M places. -/
def Wide (rs : List (List Int)) (M : Nat) : Prop := ∀ x ∈ rs, x.length ≤ M
theorem Wide.at {rs : List (List Int)} {M : Nat} (h : Wide rs M) (i : Nat) : (rs.getD i []).length ≤ M := by
  by_cases hi : i < rs.length
  · rw [show rs.getD i [] = rs[i] by simp [List.getD, hi]]
    exact h _ (List.getElem_mem hi)
  · rw [show rs.getD i [] = [] by simp [List.getD, List.getElem?_eq_none (show rs.length ≤ i by omega)]]
    exact Nat.zero_le _
theorem wide_of {rs : List (List Int)} {M : Nat} (h : ∀ i, (rs.getD i []).length ≤ M) : Wide rs M := by
  intro x hx
  obtain ⟨i, hi, e⟩ := List.getElem_of_mem hx
  have := h i
  rwa [show rs.getD i [] = rs[i] by simp [List.getD, hi], e] at this
theorem Wide.sort {l r : List (List Int)} {M : Nat} (h : Wide l M) (hs : IsSort l r) : Wide r M := fun x hx => h x (hs.first x hx).mem
theorem Wide.half {l : List (List Int)} {M : Nat} (h : Wide l M) : Wide (halfL l) M := fun x hx => by
  obtain ⟨v, hv, _, rfl⟩ := mem_half.1 hx
  rw [vnormal_len]
  exact h v hv
theorem Wide.both {l : List (List Int)} {M : Nat} (h : Wide l M) : Wide (bothL l) M := fun x hx => by
  unfold bothL at hx
  rcases List.mem_append.1 hx with c | c
  · exact h x c
  · obtain ⟨v, hv, rfl⟩ := List.mem_map.1 c
    rw [vneg_len]
    exact h v hv
theorem half_take_yes {rs : List (List Int)} {i : Nat} (hi : i < rs.length) (h : vnought (rs.getD i []) = false) : halfL (rs.take (i + 1)) = halfL (rs.take i) ++ [vnormal (rs.getD i [])] := by
  rw [take_snoc [] hi]; exact half_snoc_yes h
theorem half_take_no {rs : List (List Int)} {i : Nat} (hi : i < rs.length) (h : vnought (rs.getD i []) = true) : halfL (rs.take (i + 1)) = halfL (rs.take i) := by
  rw [take_snoc [] hi]; exact half_snoc_no h
theorem both_take {h : List (List Int)} {i : Nat} (hi : i < h.length) : h ++ (h.take (i + 1)).map vneg = (h ++ (h.take i).map vneg) ++ [vneg (h.getD i [])] := by
  rw [take_snoc [] hi, List.map_append, List.append_assoc]; rfl
theorem not_alike_len {a b : List (List Int)} (h : a.length ≠ b.length) : ¬ Alike a b := fun e => h e.len
theorem not_alike_at {a b : List (List Int)} {i : Nat} (h : ¬ VSame (a.getD i []) (b.getD i [])) : ¬ Alike a b := fun e => h (e.at i)
end Go.Proofs.Ytnpneloahajniaa
