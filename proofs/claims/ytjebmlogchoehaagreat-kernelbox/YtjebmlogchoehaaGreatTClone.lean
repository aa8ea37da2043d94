/-
  What slices.Clone of a vector tells.
-/
import Derived.Test.YtjebmlogchoehaaGreatTWide
import Derived.Test.YtjebmlogchoehaaGreatJE
import Derived.Lib.SliceRun
namespace Go.Proofs.YtjebmlogchoehaaGreat
open Go.RowKit Lb
set_option maxRecDepth 20000

theorem cloneK (ao : Option Addr) (n cap : Nat) (zs : List Int) (k : Nat) (w : World) (h : VF w ao n cap zs k) (hp : 0 < n) (hn : n ≤ 1000) :
    Calls Tryz.prog 83 #[.slice ao n cap] w fun e w' => ∃ a1 c1, e = .returned (.slice a1 n c1) ∧ VF w' a1 n c1 zs k ∧ Below w.heap.size w w' := by
  obtain ⟨g, off, rfl⟩ := h.some hp
  go_enter Tryz.func83, Tryz.ntmps83
  have hnil : ∀ W, (binOp .eql 24 (.slice (some ⟨g, off, none⟩) n cap) (.slice none 0 0)).run Tryz.prog W = .ok (.bool false) W := fun W => Lib.run_eql_slice_nil W _ _ _ _ _ _ _ Tryz.underlying24
  have hbn := below_new w (.cells #[] 39)
  have hemp : OwnOf (fun w b a l c z => FK w b a l c z k) (w.alloc (.cells #[] 39)) w.heap.size (some ⟨w.heap.size, 0, none⟩) 0 0 [] := ownOf_empty _ rfl (Nat.le_refl _)
  have h2 := h.later hbn
  have hszn := hbn.size
  have HBN := hide hbn
  clear hbn
  go_wp2_with (at_builtin; (refine append_vecs (R := fun w b a l c z => FK w b a l c z k) (steady_fk k) rfl (.tmp 5) (.tmp 6) 24 Tryz.underlying24 rfl w.heap.size _ 0 0 [] rfl hemp _ n cap zs rfl h2 (by omega) hszn ?_))
  intro al cl w1 hown hgr1
  have hb1 : Below w.heap.size w w1 := (unhide HBN).grown hgr1 hszn hemp.ge
  clear hgr1 hemp hszn HBN h2
  go_wp2
  go_ret
  exact ⟨_, _, rfl, (OwnV.of hown).vf, hb1⟩

#print axioms cloneK
end Go.Proofs.YtjebmlogchoehaaGreat
