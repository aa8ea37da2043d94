/-
  Few of two, three and four vectors that are handed on one behind the other.
-/
import Derived.Test.YtdbimajopclndaaFew7
import Derived.Test.YtdbimajopclndaaVNeg
import Derived.Test.YtdbimajopclndaaVCut
import Derived.Test.YtdbimajopclndaaVDot
import Derived.Test.YtdbimajopclndaaRVCmp
namespace Go.Proofs.Ytdbimajopclndaa
open Go.RowKit Lb

theorem kx_sk {w : World} {b : Bool} {ao : Option Addr} {len cap k : Nat} {z : Int} (h : IntAt w b ao len cap z) (hl : len ≤ k) (hk : k ≤ 999990) : SK w b ao len cap z k := ⟨ik_of h hl hk, hl⟩
/-- The one Int of a vector that is told short. -/
theorem short_one {w w' : World} {n l c : Nat} {b : Bool} {a : Option Addr} (hn : n = w.heap.size) (hb : Below (w.alloc (.cells #[.bool b, .slice a l c] 26)).heap.size (w.alloc (.cells #[.bool b, .slice a l c] 26)) w') (hs : Short w' (some ⟨n, 0, none⟩) 1) : l ≤ 12 := by
  subst hn
  refine hs.2 0 w.heap.size 0 b a l c (by omega) rfl ?_
  have h : EltAt (w.alloc (.cells #[.bool b, .slice a l c] 26)) w.heap.size 0 b a l c := ⟨by simp, by simp, by simp⟩
  exact h.later hb
theorem few7_2 (a0 : Option Addr) (l0 c0 : Nat) (zs0 : List Int) (a1 : Option Addr) (l1 c1 : Nat) (zs1 : List Int) (w : World) (n : Nat) (hn : n = w.heap.size) (h0 : VI w a0 l0 c0 zs0) (h1 : VI w a1 l1 c1 zs1) :
    Calls Try.prog 9 #[.slice (some ⟨n, 0, none⟩) 2 2] (w.alloc (.cells #[.slice a0 l0 c0, .slice a1 l1 c1] 23)) fun e w' => ∃ q, e = .returned (.int .i64 q) ∧ (q = 0 ∨ q = 1) ∧ (q = 0 → Short (w.alloc (.cells #[.slice a0 l0 c0, .slice a1 l1 c1] 23)) a0 l0 ∧ Short (w.alloc (.cells #[.slice a0 l0 c0, .slice a1 l1 c1] 23)) a1 l1) ∧ Below w.heap.size w w' := by
  have hb := below_new w (.cells #[.slice a0 l0 c0, .slice a1 l1 c1] 23)
  have hm : MI (w.alloc (.cells #[.slice a0 l0 c0, .slice a1 l1 c1] 23)) (some ⟨n, 0, none⟩) 2 2 [zs0, zs1] := by
    refine rowsOf_new (vs := [(a0, l0, c0), (a1, l1, c1)]) rfl hn rfl (by simp) fun i a l c e => ?_
    match i with
    | 0 =>
      simp at e
      obtain ⟨rfl, rfl, rfl⟩ := e
      exact h0.later hb
    | 1 =>
      simp at e
      obtain ⟨rfl, rfl, rfl⟩ := e
      exact h1.later hb
  refine (few7_any _ _ _ _ _ hm).mono ?_
  rintro e w' ⟨q, rfl, h01, hq, hb1⟩
  refine ⟨q, rfl, h01, fun e => ?_, Below.step hb hb1⟩
  subst hn
  exact ⟨hq e 0 w.heap.size 0 a0 l0 c0 (by omega) rfl (by simp), hq e 1 w.heap.size 0 a1 l1 c1 (by omega) rfl (by simp)⟩
theorem few7_3 (a0 : Option Addr) (l0 c0 : Nat) (zs0 : List Int) (a1 : Option Addr) (l1 c1 : Nat) (zs1 : List Int) (a2 : Option Addr) (l2 c2 : Nat) (zs2 : List Int) (w : World) (n : Nat) (hn : n = w.heap.size) (h0 : VI w a0 l0 c0 zs0) (h1 : VI w a1 l1 c1 zs1) (h2 : VI w a2 l2 c2 zs2) :
    Calls Try.prog 9 #[.slice (some ⟨n, 0, none⟩) 3 3] (w.alloc (.cells #[.slice a0 l0 c0, .slice a1 l1 c1, .slice a2 l2 c2] 23)) fun e w' => ∃ q, e = .returned (.int .i64 q) ∧ (q = 0 ∨ q = 1) ∧ (q = 0 → Short (w.alloc (.cells #[.slice a0 l0 c0, .slice a1 l1 c1, .slice a2 l2 c2] 23)) a0 l0 ∧ Short (w.alloc (.cells #[.slice a0 l0 c0, .slice a1 l1 c1, .slice a2 l2 c2] 23)) a1 l1 ∧ Short (w.alloc (.cells #[.slice a0 l0 c0, .slice a1 l1 c1, .slice a2 l2 c2] 23)) a2 l2) ∧ Below w.heap.size w w' := by
  have hb := below_new w (.cells #[.slice a0 l0 c0, .slice a1 l1 c1, .slice a2 l2 c2] 23)
  have hm : MI (w.alloc (.cells #[.slice a0 l0 c0, .slice a1 l1 c1, .slice a2 l2 c2] 23)) (some ⟨n, 0, none⟩) 3 3 [zs0, zs1, zs2] := by
    refine rowsOf_new (vs := [(a0, l0, c0), (a1, l1, c1), (a2, l2, c2)]) rfl hn rfl (by simp) fun i a l c e => ?_
    match i with
    | 0 =>
      simp at e
      obtain ⟨rfl, rfl, rfl⟩ := e
      exact h0.later hb
    | 1 =>
      simp at e
      obtain ⟨rfl, rfl, rfl⟩ := e
      exact h1.later hb
    | 2 =>
      simp at e
      obtain ⟨rfl, rfl, rfl⟩ := e
      exact h2.later hb
  refine (few7_any _ _ _ _ _ hm).mono ?_
  rintro e w' ⟨q, rfl, h01, hq, hb1⟩
  refine ⟨q, rfl, h01, fun e => ?_, Below.step hb hb1⟩
  subst hn
  exact ⟨hq e 0 w.heap.size 0 a0 l0 c0 (by omega) rfl (by simp), hq e 1 w.heap.size 0 a1 l1 c1 (by omega) rfl (by simp), hq e 2 w.heap.size 0 a2 l2 c2 (by omega) rfl (by simp)⟩
theorem few7_4 (a0 : Option Addr) (l0 c0 : Nat) (zs0 : List Int) (a1 : Option Addr) (l1 c1 : Nat) (zs1 : List Int) (a2 : Option Addr) (l2 c2 : Nat) (zs2 : List Int) (a3 : Option Addr) (l3 c3 : Nat) (zs3 : List Int) (w : World) (n : Nat) (hn : n = w.heap.size) (h0 : VI w a0 l0 c0 zs0) (h1 : VI w a1 l1 c1 zs1) (h2 : VI w a2 l2 c2 zs2) (h3 : VI w a3 l3 c3 zs3) :
    Calls Try.prog 9 #[.slice (some ⟨n, 0, none⟩) 4 4] (w.alloc (.cells #[.slice a0 l0 c0, .slice a1 l1 c1, .slice a2 l2 c2, .slice a3 l3 c3] 23)) fun e w' => ∃ q, e = .returned (.int .i64 q) ∧ (q = 0 ∨ q = 1) ∧ (q = 0 → Short (w.alloc (.cells #[.slice a0 l0 c0, .slice a1 l1 c1, .slice a2 l2 c2, .slice a3 l3 c3] 23)) a0 l0 ∧ Short (w.alloc (.cells #[.slice a0 l0 c0, .slice a1 l1 c1, .slice a2 l2 c2, .slice a3 l3 c3] 23)) a1 l1 ∧ Short (w.alloc (.cells #[.slice a0 l0 c0, .slice a1 l1 c1, .slice a2 l2 c2, .slice a3 l3 c3] 23)) a2 l2 ∧ Short (w.alloc (.cells #[.slice a0 l0 c0, .slice a1 l1 c1, .slice a2 l2 c2, .slice a3 l3 c3] 23)) a3 l3) ∧ Below w.heap.size w w' := by
  have hb := below_new w (.cells #[.slice a0 l0 c0, .slice a1 l1 c1, .slice a2 l2 c2, .slice a3 l3 c3] 23)
  have hm : MI (w.alloc (.cells #[.slice a0 l0 c0, .slice a1 l1 c1, .slice a2 l2 c2, .slice a3 l3 c3] 23)) (some ⟨n, 0, none⟩) 4 4 [zs0, zs1, zs2, zs3] := by
    refine rowsOf_new (vs := [(a0, l0, c0), (a1, l1, c1), (a2, l2, c2), (a3, l3, c3)]) rfl hn rfl (by simp) fun i a l c e => ?_
    match i with
    | 0 =>
      simp at e
      obtain ⟨rfl, rfl, rfl⟩ := e
      exact h0.later hb
    | 1 =>
      simp at e
      obtain ⟨rfl, rfl, rfl⟩ := e
      exact h1.later hb
    | 2 =>
      simp at e
      obtain ⟨rfl, rfl, rfl⟩ := e
      exact h2.later hb
    | 3 =>
      simp at e
      obtain ⟨rfl, rfl, rfl⟩ := e
      exact h3.later hb
  refine (few7_any _ _ _ _ _ hm).mono ?_
  rintro e w' ⟨q, rfl, h01, hq, hb1⟩
  refine ⟨q, rfl, h01, fun e => ?_, Below.step hb hb1⟩
  subst hn
  exact ⟨hq e 0 w.heap.size 0 a0 l0 c0 (by omega) rfl (by simp), hq e 1 w.heap.size 0 a1 l1 c1 (by omega) rfl (by simp), hq e 2 w.heap.size 0 a2 l2 c2 (by omega) rfl (by simp), hq e 3 w.heap.size 0 a3 l3 c3 (by omega) rfl (by simp)⟩

#print axioms few7_4
#print axioms short_one
end Go.Proofs.Ytdbimajopclndaa
