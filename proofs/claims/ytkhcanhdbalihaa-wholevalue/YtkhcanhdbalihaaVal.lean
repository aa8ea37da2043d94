/-
  What a slice reads as, as a number, noughts at its end or not ('ValAt').
-/
import Derived.Test.YtkhcanhdbalihaaRowIn
import Derived.Test.YtkhcanhdbalihaaNum2
namespace Go.Proofs.Ytkhcanhdbalihaa
open Go.RowKit Lb

/-- The slice reads as the number N. -/
def ValAt (w : World) (ao : Option Addr) (len cap : Nat) (N : Nat) : Prop := ∃ xs, RowAt w ao len cap xs ∧ val xs = N
theorem ValAt.later {w w' : World} {ao : Option Addr} {len cap N : Nat} (h : ValAt w ao len cap N) (hb : Below w.heap.size w w') : ValAt w' ao len cap N := by
  obtain ⟨xs, h1, h2⟩ := h
  exact ⟨xs, h1.later hb, h2⟩
theorem NumAt.val {w : World} {ao : Option Addr} {len cap N : Nat} (h : NumAt w ao len cap N) : ValAt w ao len cap N := by
  obtain ⟨xs, h1, _, h2⟩ := h
  exact ⟨xs, h1, h2⟩
theorem RowAt.val {w : World} {ao : Option Addr} {len cap : Nat} {xs : List Nat} (h : RowAt w ao len cap xs) : ValAt w ao len cap (val xs) := ⟨xs, h, rfl⟩
theorem ValAt.lt {w : World} {ao : Option Addr} {len cap N k : Nat} (h : ValAt w ao len cap N) (hk : len ≤ k) : N < Bp k := by
  obtain ⟨xs, h1, h2⟩ := h
  rw [← h2]
  exact row_lt h1 hk
theorem NumAt.len_zero {w : World} {ao : Option Addr} {len cap : Nat} (h : NumAt w ao len cap 0) : len = 0 := by
  have := h.len_le (k := 0) (Bp_pos 0)
  omega
theorem NumAt.len_pos {w : World} {ao : Option Addr} {len cap N : Nat} (h : NumAt w ao len cap N) (hN : 0 < N) : 0 < len := by
  obtain ⟨zs, hz, _, vz⟩ := h
  rcases Nat.eq_zero_or_pos len with e | e
  · exfalso
    rw [List.eq_nil_of_length_eq_zero (show zs.length = 0 by rw [hz.len_eq, e]), val_nil] at vz
    omega
  · exact e
theorem NumAt.len_is {w : World} {ao : Option Addr} {len cap N k : Nat} (h : NumAt w ao len cap N) (h1 : Bp k ≤ N) (h2 : N < Bp (k + 1)) : len = k + 1 := by
  have h3 := h.len_le h2
  rcases Nat.lt_or_ge len (k + 1) with c | c
  · exfalso
    have := h.val.lt (k := k) (by omega)
    omega
  · omega
theorem prod_lt {A B k l : Nat} (hA : A < Bp k) (hB : B < Bp l) : A * B < Bp (k + l) := by
  rw [Bp_add]
  exact Nat.mul_lt_mul_of_lt_of_le hA (Nat.le_of_lt hB) (Bp_pos _)

#print axioms NumAt.len_is
#print axioms prod_lt
end Go.Proofs.Ytkhcanhdbalihaa
