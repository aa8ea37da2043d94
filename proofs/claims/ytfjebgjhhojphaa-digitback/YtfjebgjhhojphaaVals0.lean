/-
  The contracts of package limb and of the reference, told of numbers: a row that reads as a number, with or without noughts at its end.
-/
import Derived.Test.YtfjebgjhhojphaaTrim
import Derived.Test.YtfjebgjhhojphaaAdd
import Derived.Test.YtfjebgjhhojphaaTimes
import Derived.Test.YtfjebgjhhojphaaCmp
import Derived.Test.YtfjebgjhhojphaaSame
import Derived.Test.YtfjebgjhhojphaaRefMul
import Derived.Test.YtfjebgjhhojphaaRefDiv
namespace Go.Proofs.Ytfjebgjhhojphaa
open Go.RowKit Lb

/-- The slice reads as the number N. -/
def ValAt (w : World) (ao : Option Addr) (len cap : Nat) (N : Nat) : Prop := ∃ xs, RowAt w ao len cap xs ∧ val xs = N
theorem ValAt.later {w w' : World} {ao : Option Addr} {len cap N : Nat} (h : ValAt w ao len cap N) (hb : Below w.heap.size w w') : ValAt w' ao len cap N := by
  obtain ⟨xs, h1, h2⟩ := h
  exact ⟨xs, h1.later hb, h2⟩
theorem NumAt.val {w : World} {ao : Option Addr} {len cap N : Nat} (h : NumAt w ao len cap N) : ValAt w ao len cap N := by
  obtain ⟨xs, h1, _, h2⟩ := h
  exact ⟨xs, h1, h2⟩
theorem RowAt.val {w : World} {ao : Option Addr} {len cap : Nat} {xs : List Nat} (h : RowAt w ao len cap xs) : ValAt w ao len cap (val xs) := ⟨xs, h, rfl⟩
theorem ValAt.lt {w : World} {ao : Option Addr} {len cap N k : Nat} (h : ValAt w ao len cap N) (hk : len ≤ k) : N < Bp k := by
  obtain ⟨xs, h1, h2⟩ := h
  rw [← h2]
  exact row_lt h1 hk
theorem NumAt.len_zero {w : World} {ao : Option Addr} {len cap : Nat} (h : NumAt w ao len cap 0) : len = 0 := by
  have := h.len_le (k := 0) (Bp_pos 0)
  omega
theorem NumAt.len_pos {w : World} {ao : Option Addr} {len cap N : Nat} (h : NumAt w ao len cap N) (hN : 0 < N) : 0 < len := by
  obtain ⟨zs, hz, _, vz⟩ := h
  rcases Nat.eq_zero_or_pos len with e | e
  · exfalso
    rw [List.eq_nil_of_length_eq_zero (show zs.length = 0 by rw [hz.len_eq, e]), val_nil] at vz
    omega
  · exact e
theorem NumAt.len_is {w : World} {ao : Option Addr} {len cap N k : Nat} (h : NumAt w ao len cap N) (h1 : Bp k ≤ N) (h2 : N < Bp (k + 1)) : len = k + 1 := by
  have h3 := h.len_le h2
  rcases Nat.lt_or_ge len (k + 1) with c | c
  · exfalso
    have := h.val.lt (k := k) (by omega)
    omega
  · omega
theorem prod_lt {A B k l : Nat} (hA : A < Bp k) (hB : B < Bp l) : A * B < Bp (k + l) := by
  rw [Bp_add]
  exact Nat.mul_lt_mul_of_lt_of_le hA (Nat.le_of_lt hB) (Bp_pos _)

theorem trim_num (aa : Option Addr) (la ca A : Nat) (w : World) (ha : ValAt w aa la ca A) (hla : la ≤ 1000000) : Calls Try.prog 15 #[.slice aa la ca] w fun e w' => ∃ ao' len' cap', e = .returned (.slice ao' len' cap') ∧ NumAt w' ao' len' cap' A ∧ Below w.heap.size w w' := by
  obtain ⟨xs, hx, rfl⟩ := ha
  exact trim_any _ _ _ xs w hx (by omega)
theorem add_num (aa : Option Addr) (la ca A : Nat) (ab : Option Addr) (lb cb B : Nat) (w : World) (ha : ValAt w aa la ca A) (hb : ValAt w ab lb cb B) (hla : la ≤ 1000000) (hlb : lb ≤ 1000000) : Calls Try.prog 16 #[.slice aa la ca, .slice ab lb cb] w fun e w' => ∃ ao' len' cap', e = .returned (.slice ao' len' cap') ∧ NumAt w' ao' len' cap' (A + B) ∧ Below w.heap.size w w' := by
  obtain ⟨xs, hx, rfl⟩ := ha
  obtain ⟨ys, hy, rfl⟩ := hb
  exact add_any _ _ _ xs _ _ _ ys w hx hy (by omega) (by omega)
theorem rmul_num (aa : Option Addr) (la ca A : Nat) (ab : Option Addr) (lb cb B : Nat) (w : World) (ha : ValAt w aa la ca A) (hb : ValAt w ab lb cb B) (hla : la ≤ 1000000) (hlb : lb ≤ 1000000) : Calls Try.prog 25 #[.slice aa la ca, .slice ab lb cb] w fun e w' => ∃ ao' len' cap', e = .returned (.slice ao' len' cap') ∧ NumAt w' ao' len' cap' (A * B) ∧ Below w.heap.size w w' := by
  obtain ⟨xs, hx, rfl⟩ := ha
  obtain ⟨ys, hy, rfl⟩ := hb
  exact rmul_any _ _ _ xs _ _ _ ys w hx hy (by omega) (by omega)
theorem rdivmod_num (aa : Option Addr) (la ca A : Nat) (ab : Option Addr) (lb cb B : Nat) (w : World) (ha : ValAt w aa la ca A) (hb : ValAt w ab lb cb B) (hla : la ≤ 1000000) (hlb : lb ≤ 1000000) (hB : 0 < B) : Calls Try.prog 20 #[.slice aa la ca, .slice ab lb cb] w fun e w' => ∃ a1 l1 c1 a2 l2 c2, e = .returned (.tuple #[.slice a1 l1 c1, .slice a2 l2 c2]) ∧ NumAt w' a1 l1 c1 (A / B) ∧ NumAt w' a2 l2 c2 (A % B) ∧ Below w.heap.size w w' := by
  obtain ⟨xs, hx, rfl⟩ := ha
  obtain ⟨ys, hy, rfl⟩ := hb
  exact rdivmod_any _ _ _ xs _ _ _ ys w hx hy (by omega) (by omega) hB
theorem cmp_num (aa : Option Addr) (la ca A : Nat) (ab : Option Addr) (lb cb B : Nat) (w : World) (ha : ValAt w aa la ca A) (hb : ValAt w ab lb cb B) :
    Calls Try.prog 18 #[.slice aa la ca, .slice ab lb cb] w fun e w' => e = .returned (.int .i64 (cmpI A B)) ∧ Below w.heap.size w w' := by
  obtain ⟨xs, hx, rfl⟩ := ha
  obtain ⟨ys, hy, rfl⟩ := hb
  exact cmp_any _ _ _ xs _ _ _ ys w hx hy

theorem times_num (aa : Option Addr) (la ca A : Nat) (xi : Int) (x : Nat) (w : World) (hxi : xi = (x : Int)) (ha : ValAt w aa la ca A) (hla : la ≤ 1000000) (hx : x < 4294967296) : Calls Try.prog 17 #[.slice aa la ca, .int .u32 xi] w fun e w' => ∃ ao' len' cap', e = .returned (.slice ao' len' cap') ∧ NumAt w' ao' len' cap' (A * x) ∧ Below w.heap.size w w' := by
  obtain ⟨xs, hx', rfl⟩ := ha
  exact times_int _ _ _ xs xi x w hxi hx' (by omega) hx
theorem radd_num (aa : Option Addr) (la ca A : Nat) (ab : Option Addr) (lb cb B : Nat) (w : World) (ha : ValAt w aa la ca A) (hb : ValAt w ab lb cb B) (hla : la ≤ 1000000) (hlb : lb ≤ 1000000) : Calls Try.prog 24 #[.slice aa la ca, .slice ab lb cb] w fun e w' => ∃ ao' len' cap', e = .returned (.slice ao' len' cap') ∧ NumAt w' ao' len' cap' (A + B) ∧ Below w.heap.size w w' := by
  obtain ⟨xs, hx, rfl⟩ := ha
  obtain ⟨ys, hy, rfl⟩ := hb
  exact radd_any _ _ _ xs _ _ _ ys w hx hy (by omega) (by omega)

#print axioms rmul_num
#print axioms times_num
#print axioms cmp_num
end Go.Proofs.Ytfjebgjhhojphaa
