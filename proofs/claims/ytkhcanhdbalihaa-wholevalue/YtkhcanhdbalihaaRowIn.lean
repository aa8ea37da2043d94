/-
  Rows that come in, rows typed out, and how great what they hold may be.
-/
import Derived.Test.YtkhcanhdbalihaaRow
import Derived.OpenShut
namespace Go.Proofs.Ytkhcanhdbalihaa
open Go.RowKit Lb

theorem Below.step {w w1 w2 : World} (h : Below w.heap.size w w1) (k : Below w1.heap.size w1 w2) : Below w.heap.size w w2 := h.trans (k.mono h.size)

/-- A slice of limbs that came in. -/
theorem rowAt_of {w : World} {a : Option Addr} {len cap : Nat} {zs : List Int} (h : (a = none ∧ len = 0 ∧ cap = 0 ∧ zs = []) ∨
    ∃ x, a = some x ∧ len ≤ cap ∧ cap ≤ maxLen ∧ zs.length = cap ∧ (∀ i, i < zs.length → w.cell? (x.add i) = some (.int .u32 (zs.getD i 0))) ∧ ∀ n ∈ zs, (Lit.int .u32 n).wf = true) : ∃ xs, RowAt w a len cap xs := by
  rcases h with ⟨rfl, rfl, rfl, rfl⟩ | ⟨⟨b, off, spot⟩, rfl, hl, hm, hz, hcell, hwz⟩
  · exact ⟨[], rowAt_nil w⟩
  · have hbd : ∀ n ∈ zs, 0 ≤ n ∧ n ≤ 4294967295 := fun n hn => bounds_u32 (hwz n hn)
    refine ⟨(zs.take len).map Int.toNat, ⟨by simp; omega, hl, hm, fun e => by simp at e, small_of_mem ?_, fun hp => ?_⟩⟩
    · intro x hx
      obtain ⟨y, hy, rfl⟩ := List.mem_map.1 hx
      have := hbd y (List.mem_of_mem_take hy)
      omega
    · have hc := hcell 0 (by omega)
      obtain rfl : spot = none := by simpa [Addr.add] using World.cell?_spot hc
      refine ⟨b, off, rfl, ?_, fun i hi => ?_⟩
      · rcases Nat.lt_or_ge b w.heap.size with c | c
        · exact c
        · simp [Addr.add, World.cell?, Array.getElem?_eq_none c] at hc
      · have h1 := hcell i (by omega)
        rw [Addr.add_lit] at h1
        rw [h1]
        have h2 : i < zs.length := by omega
        have h3 := hbd (zs[i]) (List.getElem_mem h2)
        have e : lim ((zs.take len).map Int.toNat) i = (zs[i]).toNat := by simp [lim, hi, h2]
        rw [e]
        simp only [List.getD_eq_getElem?_getD, List.getElem?_eq_getElem h2, Option.getD_some]
        congr 2
        omega

theorem rowAt_lit {w : World} {cs : List Nat} (n : Nat) (hn : cs.length = n) (hn2 : n ≤ 1000) (hs : Small cs) : RowAt (w.alloc (.cells (cs.map lv).toArray 31)) (some ⟨w.heap.size, 0, none⟩) n n cs := by
  refine ⟨hn, Nat.le_refl _, by unfold maxLen; omega, fun h => by simp at h, hs, fun _ => ⟨_, _, rfl, by simp, fun i hi => ?_⟩⟩
  simp [lim, lv, show i < cs.length by omega]

theorem rowAt_two {w : World} {e f : Int} (a b : Nat) (he : e = (a : Int)) (hf : f = (b : Int)) (ha : a < 4294967296) (hb : b < 4294967296) : RowAt (w.alloc (.cells #[.int .u32 e, .int .u32 f] 31)) (some ⟨w.heap.size, 0, none⟩) 2 2 [a, b] := by
  subst he hf
  exact rowAt_lit (cs := [a, b]) 2 rfl (by omega) (small_of_mem (by simp [ha, hb]))

theorem val_one (a : Nat) : val [a] = a := by simp [val, pre, lim, Bp]
theorem val_two (a b : Nat) : val [a, b] = a + b * 4294967296 := by simp [val, pre, lim, Bp]
theorem norm_one {a : Nat} (h : a ≠ 0) : Norm [a] := fun _ => by simpa [lim] using h
theorem norm_two {a b : Nat} (h : b ≠ 0) : Norm [a, b] := fun _ => by simpa [lim] using h

theorem add_len {M N k : Nat} (h : M < Bp k) (g : N < Bp k) : M + N < Bp (k + 1) := by
  rw [Bp_succ]; omega
theorem mul_len {M x k : Nat} (h : M < Bp k) (g : x < 4294967296) : M * x < Bp (k + 1) := by
  rw [Bp_succ]
  exact Nat.mul_lt_mul_of_lt_of_le h (Nat.le_of_lt g) (by omega)
theorem row_lt {w : World} {ao : Option Addr} {len cap : Nat} {xs : List Nat} (h : RowAt w ao len cap xs) {k : Nat} (hk : len ≤ k) : val xs < Bp k := by
  have h1 := val_lt h.small
  rw [h.len_eq] at h1
  exact Nat.lt_of_lt_of_le h1 (Bp_le hk)

theorem val_zeros (xs : List Nat) (k : Nat) : val (xs ++ List.replicate k 0) = val xs := by
  induction k with
  | zero => simp
  | succ k ih => rw [List.replicate_succ', ← List.append_assoc, val_snoc, ih, Nat.zero_mul, Nat.add_zero]
theorem small_append {xs ys : List Nat} (h : Small xs) (g : Small ys) : Small (xs ++ ys) := fun i => by
  rw [lim_append]; split
  · exact h i
  · exact g _

#print axioms rowAt_of
end Go.Proofs.Ytkhcanhdbalihaa
