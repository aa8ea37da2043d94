/-
 What the reference's Times, Neg and Unit tell: in memory of their own.
-/
import Derived.Test.YtkomdimalgnamaaGreatJN
import Derived.Test.YtkomdimalgnamaaGreatRVFresh
import Derived.Deep.CutRange
namespace Go.Proofs.YtkomdimalgnamaaGreat
open Go.RowKit Lb
set_option maxRecDepth 20000

def VFF (base k : Nat) (w : World) (a : Option Addr) (l c : Nat) (zs : List Int) : Prop := VF w a l c zs k ∧ ∀ g off, a = some ⟨g, off, none⟩ → base ≤ g
theorem steadyFF (base k : Nat) : SteadyV (VFF base k) := fun h hg hs => ⟨steadyV_vf k h.1 hg hs, h.2⟩
theorem VFF.za {base k : Nat} {w w' : World} {a : Option Addr} {l c : Nat} {zs : List Int} (h : VFF base k w a l c zs) (hb : Below w.heap.size w w') : VFF base k w' a l c zs := ⟨h.1.za hb, h.2⟩
theorem MOwn.laterF {base k : Nat} {w w' : World} {b0 : Nat} {ao : Option Addr} {n cap : Nat} {rs : List (List Int)} (h : MOwn (VFF base k) w b0 ao n cap rs) (hb : Below w.heap.size w w') : MOwn (VFF base k) w' b0 ao n cap rs := MOwn.za (R := VFF base k) (fun h hb => h.za hb) h hb
theorem ff_one {base k : Nat} {w : World} {a : Option Addr} {l c : Nat} {zs : List Int} (h : VFF base k w a l c zs) : RowsOf (VFF base k) (w.alloc (.cells #[.slice a l c] 24)) (some ⟨w.heap.size, 0, none⟩) 1 1 [zs] := by
 refine rowsOf_new (R := VFF base k) (vs := [(a, l, c)]) rfl rfl rfl (by simp) fun i a2 l2 c2 e => ?_
 match i with
 | 0 =>
  simp at e;obtain ⟨rfl, rfl, rfl⟩ := e;exact h.za (below_new w _)
 | i + 1 => simp at e
end Go.Proofs.YtkomdimalgnamaaGreat
