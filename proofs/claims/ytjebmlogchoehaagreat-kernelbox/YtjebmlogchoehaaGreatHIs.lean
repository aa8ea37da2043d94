/-
 What Pivots and Is of package hnf tell (IN PARTS).
-/
import Derived.Test.YtjebmlogchoehaaGreatJR
import Derived.Test.YtjebmlogchoehaaGreatJE
import Derived.Deep.CutRange
namespace Go.Proofs.YtjebmlogchoehaaGreat
open Go.RowKit Lb
set_option maxRecDepth 20000

theorem HForm.nought {hs : List (List Int)} {p : Nat → Nat} (hf : HForm hs p) {i : Nat} (hi : i < hs.length) (h0 : ∀ j, (hs.getD i []).getD j 0 = 0) : False := (hf.isPivot hi).2 (h0 _)
theorem HForm.take_agree {hs : List (List Int)} {p q : Nat → Nat} {i : Nat} (hf : HForm hs p) (hg : HForm (hs.take i) q) {t : Nat} (ht : t < i) (hi : i ≤ hs.length) : p t = q t := hform_agree (hf.take i) hg (by rw [take_len hi]; exact ht)
/-- The last pivot: -1 ahead of the first row. -/
def LastIs (p : Nat → Nat) (i : Nat) (L : Int) : Prop := (i = 0 ∧ L = -1) ∨ ∃ m, i = m + 1 ∧ L = (p m : Int)
end Go.Proofs.YtjebmlogchoehaaGreat
