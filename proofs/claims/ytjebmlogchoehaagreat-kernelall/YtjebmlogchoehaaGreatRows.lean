/-
  No cell of these rows narrows 'for every input' (looked for: loops, veiled, ifaces, maps, wideKeys, modest, calm, conditions, laid).
  DERIVED. THE GIVEN ROWS OF THIS SEAT. 4 by the template 'for every input the law returns true; each argument reads behind the call as it read before'; 0 by the template 'total and deterministic' (their statements: YtjebmlogchoehaaGreatTotals.lean).
  GIVEN WITH THE SEED: the statements are not yours to turn. If you find one false, say at which input.
  Laid BY PROGRAM, IN A SANDBOX (cutbox-rows.mjs): the forced cells as the released guide's own fill.sh prints them over the translation e5f1b132224e36bb… (all of the seat's roots in one cut). By AI agents, Wed Nov 11 2026. No macro, syntax, notation, axiom, sorry.
-/
import Derived.Test.YtjebmlogchoehaaGreatChecked
import GoSem.Claim
import GoSem.ClaimJoined
import GoSem.ClaimMapViews
import Derived.JoinedTies
import Derived.KernelRfl
namespace Go.Proofs.YtjebmlogchoehaaGreat
/- THE CELL 'sum', in the pinned program and in every row, IS THE sha256 OF THE DUMP (.gsa) THAT YtjebmlogchoehaaGreatProg.lean LOADS. Nothing in Lean hashes anything: it is a label: what it is worth is what the hold of that sum in a sandbox is worth. -/
noncomputable def Tryz.pinned : Pinned := { name := "ytjebmlogchoehaagreat", sum := "e5f1b132224e36bbf8ff5cdf434ba7394dc8c2211bb1ba1e15e67e6599f2e204", checked := Tryz.checked }
namespace Rows
def none {H : Type} : Left H := { results := [], args := [] }

/-- 'quincunxlaw11.KernelTells': WHATEVER THE INPUT: true; the input reads as it did. -/
def kernelTellsSpec : ChangeSpec := { name := "kernelTells", fn := fun _ => fun
  | [d1, d2, d3] => { results := [.lit (.bool true)], args := [d1, d2, d3] }
  | _ => none }
def kernelTellsRow : OpenClaim := { program := "ytjebmlogchoehaagreat", sum := "e5f1b132224e36bbf8ff5cdf434ba7394dc8c2211bb1ba1e15e67e6599f2e204", func := "quincunx/quincunxlaw11.KernelTells", spec := "kernelTells", unfollowed := true, recurses := true, apart := false }
def KernelTellsSaid : Prop := kernelTellsRow.holds Tryz.pinned (OpenSpec.ofChange kernelTellsSpec)

/-- ITS FALSE NEIGHBOUR: 'it returns false'. Refute it at one input. -/
def kernelTellsWrong : ChangeSpec := { name := "kernelTells", fn := fun _ => fun
  | [d1, d2, d3] => { results := [.lit (.bool false)], args := [d1, d2, d3] }
  | _ => none }
def KernelTellsWrongFalsely : Prop := kernelTellsRow.holds Tryz.pinned (OpenSpec.ofChange kernelTellsWrong)

/-- 'quincunxlaw11.KernelAll': WHATEVER THE INPUT: true; the input reads as it did. -/
def kernelAllSpec : ChangeSpec := { name := "kernelAll", fn := fun _ => fun
  | [d1, d2, d3] => { results := [.lit (.bool true)], args := [d1, d2, d3] }
  | _ => none }
def kernelAllRow : OpenClaim := { program := "ytjebmlogchoehaagreat", sum := "e5f1b132224e36bbf8ff5cdf434ba7394dc8c2211bb1ba1e15e67e6599f2e204", func := "quincunx/quincunxlaw11.KernelAll", spec := "kernelAll", unfollowed := true, recurses := true, apart := false }
def KernelAllSaid : Prop := kernelAllRow.holds Tryz.pinned (OpenSpec.ofChange kernelAllSpec)

/-- ITS FALSE NEIGHBOUR: 'it returns false'. Refute it at one input. -/
def kernelAllWrong : ChangeSpec := { name := "kernelAll", fn := fun _ => fun
  | [d1, d2, d3] => { results := [.lit (.bool false)], args := [d1, d2, d3] }
  | _ => none }
def KernelAllWrongFalsely : Prop := kernelAllRow.holds Tryz.pinned (OpenSpec.ofChange kernelAllWrong)

/-- 'quincunxlaw11.KernelBox': WHATEVER THE INPUT: true; the input reads as it did. -/
def kernelBoxSpec : ChangeSpec := { name := "kernelBox", fn := fun _ => fun
  | [d1, d2] => { results := [.lit (.bool true)], args := [d1, d2] }
  | _ => none }
def kernelBoxRow : OpenClaim := { program := "ytjebmlogchoehaagreat", sum := "e5f1b132224e36bbf8ff5cdf434ba7394dc8c2211bb1ba1e15e67e6599f2e204", func := "quincunx/quincunxlaw11.KernelBox", spec := "kernelBox", unfollowed := true, recurses := true, apart := false }
def KernelBoxSaid : Prop := kernelBoxRow.holds Tryz.pinned (OpenSpec.ofChange kernelBoxSpec)

/-- ITS FALSE NEIGHBOUR: 'it returns false'. Refute it at one input. -/
def kernelBoxWrong : ChangeSpec := { name := "kernelBox", fn := fun _ => fun
  | [d1, d2] => { results := [.lit (.bool false)], args := [d1, d2] }
  | _ => none }
def KernelBoxWrongFalsely : Prop := kernelBoxRow.holds Tryz.pinned (OpenSpec.ofChange kernelBoxWrong)

/-- 'quincunxlaw11.KernelAcross': WHATEVER THE INPUT: true; the input reads as it did. -/
def kernelAcrossSpec : ChangeSpec := { name := "kernelAcross", fn := fun _ => fun
  | [d1, d2, d3] => { results := [.lit (.bool true)], args := [d1, d2, d3] }
  | _ => none }
def kernelAcrossRow : OpenClaim := { program := "ytjebmlogchoehaagreat", sum := "e5f1b132224e36bbf8ff5cdf434ba7394dc8c2211bb1ba1e15e67e6599f2e204", func := "quincunx/quincunxlaw11.KernelAcross", spec := "kernelAcross", unfollowed := true, recurses := true, apart := false }
def KernelAcrossSaid : Prop := kernelAcrossRow.holds Tryz.pinned (OpenSpec.ofChange kernelAcrossSpec)

/-- ITS FALSE NEIGHBOUR: 'it returns false'. Refute it at one input. -/
def kernelAcrossWrong : ChangeSpec := { name := "kernelAcross", fn := fun _ => fun
  | [d1, d2, d3] => { results := [.lit (.bool false)], args := [d1, d2, d3] }
  | _ => none }
def KernelAcrossWrongFalsely : Prop := kernelAcrossRow.holds Tryz.pinned (OpenSpec.ofChange kernelAcrossWrong)

/- THE SECOND FORM. 'bulk': how many values and letters a reading holds, each counted each time it is reached (what is shared counts as often as it is met; a slice's spare places count too). A statement '..UptoSaid' is the law's where the arguments, and the package variables that the reading takes, are together of bulk at most 1048576: NARROWER than '..Said'. Prove '..Said' where nothing that the law and all that it calls make is longer than what came in: it says more and counts as full. Else prove '..UptoSaid'. A law counts once. -/
mutual
def uptoBulk {H : Type} : DataW H → Nat
  | .lit (.string bytes) => bytes.length + 1
  | .lit _ => 1
  | .nil => 1
  | .ptr d => uptoBulk d + 1
  | .slice elems spare => uptoBulkAll elems + uptoBulkAll spare + 1
  | .agg parts => uptoBulkAll parts + 1
  | .iface _ d => uptoBulk d + 1
  | .map entries => uptoBulkEntries entries + 1
  | .held _ => 1
def uptoBulkAll {H : Type} : List (DataW H) → Nat
  | [] => 0
  | d :: r => uptoBulk d + uptoBulkAll r
def uptoBulkEntries {H : Type} : List (Lit × DataW H) → Nat
  | [] => 0
  | x :: r => uptoBulkEntry x + uptoBulkEntries r
def uptoBulkEntry {H : Type} : Lit × DataW H → Nat
  | (.string bytes, d) => bytes.length + uptoBulk d + 1
  | (_, d) => uptoBulk d + 1
 end
def uptoSmall : (H : Type) → List (DataW H) → Bool := fun _ ds => decide (uptoBulkAll ds ≤ 1048576)
def OpenSpec.upto (s : _root_.Go.ChangeSpec) : _root_.Go.OpenSpec := { _root_.Go.OpenSpec.ofChange s with cond := some uptoSmall }

/-- 'quincunxlaw11.KernelTells', WHERE WHAT IT READS IS OF BULK AT MOST 1048576: true; the input reads as it did. -/
def kernelTellsUptoRow : OpenClaim := { program := "ytjebmlogchoehaagreat", sum := "e5f1b132224e36bbf8ff5cdf434ba7394dc8c2211bb1ba1e15e67e6599f2e204", func := "quincunx/quincunxlaw11.KernelTells", spec := "kernelTells", unfollowed := true, recurses := true, apart := false, narrowed := true }
def KernelTellsUptoSaid : Prop := kernelTellsUptoRow.holds Tryz.pinned (OpenSpec.upto kernelTellsSpec)

/-- 'quincunxlaw11.KernelAll', WHERE WHAT IT READS IS OF BULK AT MOST 1048576: true; the input reads as it did. -/
def kernelAllUptoRow : OpenClaim := { program := "ytjebmlogchoehaagreat", sum := "e5f1b132224e36bbf8ff5cdf434ba7394dc8c2211bb1ba1e15e67e6599f2e204", func := "quincunx/quincunxlaw11.KernelAll", spec := "kernelAll", unfollowed := true, recurses := true, apart := false, narrowed := true }
def KernelAllUptoSaid : Prop := kernelAllUptoRow.holds Tryz.pinned (OpenSpec.upto kernelAllSpec)

/-- 'quincunxlaw11.KernelBox', WHERE WHAT IT READS IS OF BULK AT MOST 1048576: true; the input reads as it did. -/
def kernelBoxUptoRow : OpenClaim := { program := "ytjebmlogchoehaagreat", sum := "e5f1b132224e36bbf8ff5cdf434ba7394dc8c2211bb1ba1e15e67e6599f2e204", func := "quincunx/quincunxlaw11.KernelBox", spec := "kernelBox", unfollowed := true, recurses := true, apart := false, narrowed := true }
def KernelBoxUptoSaid : Prop := kernelBoxUptoRow.holds Tryz.pinned (OpenSpec.upto kernelBoxSpec)

/-- 'quincunxlaw11.KernelAcross', WHERE WHAT IT READS IS OF BULK AT MOST 1048576: true; the input reads as it did. -/
def kernelAcrossUptoRow : OpenClaim := { program := "ytjebmlogchoehaagreat", sum := "e5f1b132224e36bbf8ff5cdf434ba7394dc8c2211bb1ba1e15e67e6599f2e204", func := "quincunx/quincunxlaw11.KernelAcross", spec := "kernelAcross", unfollowed := true, recurses := true, apart := false, narrowed := true }
def KernelAcrossUptoSaid : Prop := kernelAcrossUptoRow.holds Tryz.pinned (OpenSpec.upto kernelAcrossSpec)

end Rows
end Go.Proofs.YtjebmlogchoehaaGreat
