/-
  No cell of these rows narrows 'for every input' (looked for: loops, veiled, ifaces, maps, wideKeys, modest, calm, conditions, laid).
  DERIVED. THE GIVEN ROWS OF THIS SEAT. 5 by the template 'for every input the law returns true; each argument reads behind the call as it read before'; 0 by the template 'total and deterministic' (their statements: YtobiogedknmijaaTotals.lean).
  GIVEN WITH THE SEED: the statements are not yours to turn. If you find one false, say at which input.
  Laid BY PROGRAM, IN A SANDBOX (cutbox-rows.mjs): the forced cells as the released guide's own fill.sh prints them over the translation 21be08891a625b93… (all of the seat's roots in one cut). By AI agents, Wed Nov 11 2026. No macro, syntax, notation, axiom, sorry.
-/
import Derived.Test.YtobiogedknmijaaChecked
import GoSem.Claim
import GoSem.ClaimJoined
import GoSem.ClaimMapViews
import Derived.JoinedTies
import Derived.KernelRfl
namespace Go.Proofs.Ytobiogedknmijaa
/- THE CELL 'sum', in the pinned program and in every row, IS THE sha256 OF THE DUMP (.gsa) THAT YtobiogedknmijaaProg.lean LOADS. Nothing in Lean hashes anything: it is a label: what it is worth is what the hold of that sum in a sandbox is worth. -/
noncomputable def Try.pinned : Pinned := { name := "ytobiogedknmijaa", sum := "21be08891a625b9302991c078b9193b13b7196551a9dfe35592db48129556a23", checked := Try.checked }
namespace Rows
def none {H : Type} : Left H := { results := [], args := [] }

/-- 'quincunxlaw6.BezoutTells': WHATEVER THE INPUT: true; the input reads as it did. -/
def bezoutTellsSpec : ChangeSpec := { name := "bezoutTells", fn := fun _ => fun
  | [d1, d2] => { results := [.lit (.bool true)], args := [d1, d2] }
  | _ => none }
def bezoutTellsRow : OpenClaim := { program := "ytobiogedknmijaa", sum := "21be08891a625b9302991c078b9193b13b7196551a9dfe35592db48129556a23", func := "quincunx/quincunxlaw6.BezoutTells", spec := "bezoutTells", apart := false }
def BezoutTellsSaid : Prop := bezoutTellsRow.holds Try.pinned (OpenSpec.ofChange bezoutTellsSpec)

/-- ITS FALSE NEIGHBOUR: 'it returns false'. Refute it at one input. -/
def bezoutTellsWrong : ChangeSpec := { name := "bezoutTells", fn := fun _ => fun
  | [d1, d2] => { results := [.lit (.bool false)], args := [d1, d2] }
  | _ => none }
def BezoutTellsWrongFalsely : Prop := bezoutTellsRow.holds Try.pinned (OpenSpec.ofChange bezoutTellsWrong)

/-- 'quincunxlaw6.BezoutAll': WHATEVER THE INPUT: true; the input reads as it did. -/
def bezoutAllSpec : ChangeSpec := { name := "bezoutAll", fn := fun _ => fun
  | [d] => { results := [.lit (.bool true)], args := [d] }
  | _ => none }
def bezoutAllRow : OpenClaim := { program := "ytobiogedknmijaa", sum := "21be08891a625b9302991c078b9193b13b7196551a9dfe35592db48129556a23", func := "quincunx/quincunxlaw6.BezoutAll", spec := "bezoutAll", apart := false }
def BezoutAllSaid : Prop := bezoutAllRow.holds Try.pinned (OpenSpec.ofChange bezoutAllSpec)

/-- ITS FALSE NEIGHBOUR: 'it returns false'. Refute it at one input. -/
def bezoutAllWrong : ChangeSpec := { name := "bezoutAll", fn := fun _ => fun
  | [d] => { results := [.lit (.bool false)], args := [d] }
  | _ => none }
def BezoutAllWrongFalsely : Prop := bezoutAllRow.holds Try.pinned (OpenSpec.ofChange bezoutAllWrong)

/-- 'quincunxlaw6.BezoutMakes': WHATEVER THE INPUT: true; the input reads as it did. -/
def bezoutMakesSpec : ChangeSpec := { name := "bezoutMakes", fn := fun _ => fun
  | [d1, d2, d3] => { results := [.lit (.bool true)], args := [d1, d2, d3] }
  | _ => none }
def bezoutMakesRow : OpenClaim := { program := "ytobiogedknmijaa", sum := "21be08891a625b9302991c078b9193b13b7196551a9dfe35592db48129556a23", func := "quincunx/quincunxlaw6.BezoutMakes", spec := "bezoutMakes", apart := false }
def BezoutMakesSaid : Prop := bezoutMakesRow.holds Try.pinned (OpenSpec.ofChange bezoutMakesSpec)

/-- ITS FALSE NEIGHBOUR: 'it returns false'. Refute it at one input. -/
def bezoutMakesWrong : ChangeSpec := { name := "bezoutMakes", fn := fun _ => fun
  | [d1, d2, d3] => { results := [.lit (.bool false)], args := [d1, d2, d3] }
  | _ => none }
def BezoutMakesWrongFalsely : Prop := bezoutMakesRow.holds Try.pinned (OpenSpec.ofChange bezoutMakesWrong)

/-- 'quincunxlaw6.BezoutLcm': WHATEVER THE INPUT: true; the input reads as it did. -/
def bezoutLcmSpec : ChangeSpec := { name := "bezoutLcm", fn := fun _ => fun
  | [d1, d2, d3] => { results := [.lit (.bool true)], args := [d1, d2, d3] }
  | _ => none }
def bezoutLcmRow : OpenClaim := { program := "ytobiogedknmijaa", sum := "21be08891a625b9302991c078b9193b13b7196551a9dfe35592db48129556a23", func := "quincunx/quincunxlaw6.BezoutLcm", spec := "bezoutLcm", apart := false }
def BezoutLcmSaid : Prop := bezoutLcmRow.holds Try.pinned (OpenSpec.ofChange bezoutLcmSpec)

/-- ITS FALSE NEIGHBOUR: 'it returns false'. Refute it at one input. -/
def bezoutLcmWrong : ChangeSpec := { name := "bezoutLcm", fn := fun _ => fun
  | [d1, d2, d3] => { results := [.lit (.bool false)], args := [d1, d2, d3] }
  | _ => none }
def BezoutLcmWrongFalsely : Prop := bezoutLcmRow.holds Try.pinned (OpenSpec.ofChange bezoutLcmWrong)

/-- 'quincunxlaw6.BezoutPrimitive': WHATEVER THE INPUT: true; the input reads as it did. -/
def bezoutPrimitiveSpec : ChangeSpec := { name := "bezoutPrimitive", fn := fun _ => fun
  | [d1, d2] => { results := [.lit (.bool true)], args := [d1, d2] }
  | _ => none }
def bezoutPrimitiveRow : OpenClaim := { program := "ytobiogedknmijaa", sum := "21be08891a625b9302991c078b9193b13b7196551a9dfe35592db48129556a23", func := "quincunx/quincunxlaw6.BezoutPrimitive", spec := "bezoutPrimitive", apart := false }
def BezoutPrimitiveSaid : Prop := bezoutPrimitiveRow.holds Try.pinned (OpenSpec.ofChange bezoutPrimitiveSpec)

/-- ITS FALSE NEIGHBOUR: 'it returns false'. Refute it at one input. -/
def bezoutPrimitiveWrong : ChangeSpec := { name := "bezoutPrimitive", fn := fun _ => fun
  | [d1, d2] => { results := [.lit (.bool false)], args := [d1, d2] }
  | _ => none }
def BezoutPrimitiveWrongFalsely : Prop := bezoutPrimitiveRow.holds Try.pinned (OpenSpec.ofChange bezoutPrimitiveWrong)

/- THE SECOND FORM. 'bulk': how many values and letters a reading holds, each counted each time it is reached (what is shared counts as often as it is met; a slice's spare places count too). A statement '..UptoSaid' is the law's where the arguments, and the package variables that the reading takes, are together of bulk at most 1048576: NARROWER than '..Said'. Prove '..Said' where nothing that the law and all that it calls make is longer than what came in: it says more and counts as full. Else prove '..UptoSaid'. A law counts once. -/
mutual
def uptoBulk {H : Type} : DataW H → Nat
  | .lit (.string bytes) => bytes.length + 1
  | .lit _ => 1
  | .nil => 1
  | .ptr d => uptoBulk d + 1
  | .slice elems spare => uptoBulkAll elems + uptoBulkAll spare + 1
  | .agg parts => uptoBulkAll parts + 1
  | .iface _ d => uptoBulk d + 1
  | .map entries => uptoBulkEntries entries + 1
  | .held _ => 1
def uptoBulkAll {H : Type} : List (DataW H) → Nat
  | [] => 0
  | d :: r => uptoBulk d + uptoBulkAll r
def uptoBulkEntries {H : Type} : List (Lit × DataW H) → Nat
  | [] => 0
  | x :: r => uptoBulkEntry x + uptoBulkEntries r
def uptoBulkEntry {H : Type} : Lit × DataW H → Nat
  | (.string bytes, d) => bytes.length + uptoBulk d + 1
  | (_, d) => uptoBulk d + 1
 end
def uptoSmall : (H : Type) → List (DataW H) → Bool := fun _ ds => decide (uptoBulkAll ds ≤ 1048576)
def OpenSpec.upto (s : _root_.Go.ChangeSpec) : _root_.Go.OpenSpec := { _root_.Go.OpenSpec.ofChange s with cond := some uptoSmall }

/-- 'quincunxlaw6.BezoutTells', WHERE WHAT IT READS IS OF BULK AT MOST 1048576: true; the input reads as it did. -/
def bezoutTellsUptoRow : OpenClaim := { program := "ytobiogedknmijaa", sum := "21be08891a625b9302991c078b9193b13b7196551a9dfe35592db48129556a23", func := "quincunx/quincunxlaw6.BezoutTells", spec := "bezoutTells", apart := false, narrowed := true }
def BezoutTellsUptoSaid : Prop := bezoutTellsUptoRow.holds Try.pinned (OpenSpec.upto bezoutTellsSpec)

/-- 'quincunxlaw6.BezoutAll', WHERE WHAT IT READS IS OF BULK AT MOST 1048576: true; the input reads as it did. -/
def bezoutAllUptoRow : OpenClaim := { program := "ytobiogedknmijaa", sum := "21be08891a625b9302991c078b9193b13b7196551a9dfe35592db48129556a23", func := "quincunx/quincunxlaw6.BezoutAll", spec := "bezoutAll", apart := false, narrowed := true }
def BezoutAllUptoSaid : Prop := bezoutAllUptoRow.holds Try.pinned (OpenSpec.upto bezoutAllSpec)

/-- 'quincunxlaw6.BezoutMakes', WHERE WHAT IT READS IS OF BULK AT MOST 1048576: true; the input reads as it did. -/
def bezoutMakesUptoRow : OpenClaim := { program := "ytobiogedknmijaa", sum := "21be08891a625b9302991c078b9193b13b7196551a9dfe35592db48129556a23", func := "quincunx/quincunxlaw6.BezoutMakes", spec := "bezoutMakes", apart := false, narrowed := true }
def BezoutMakesUptoSaid : Prop := bezoutMakesUptoRow.holds Try.pinned (OpenSpec.upto bezoutMakesSpec)

/-- 'quincunxlaw6.BezoutLcm', WHERE WHAT IT READS IS OF BULK AT MOST 1048576: true; the input reads as it did. -/
def bezoutLcmUptoRow : OpenClaim := { program := "ytobiogedknmijaa", sum := "21be08891a625b9302991c078b9193b13b7196551a9dfe35592db48129556a23", func := "quincunx/quincunxlaw6.BezoutLcm", spec := "bezoutLcm", apart := false, narrowed := true }
def BezoutLcmUptoSaid : Prop := bezoutLcmUptoRow.holds Try.pinned (OpenSpec.upto bezoutLcmSpec)

/-- 'quincunxlaw6.BezoutPrimitive', WHERE WHAT IT READS IS OF BULK AT MOST 1048576: true; the input reads as it did. -/
def bezoutPrimitiveUptoRow : OpenClaim := { program := "ytobiogedknmijaa", sum := "21be08891a625b9302991c078b9193b13b7196551a9dfe35592db48129556a23", func := "quincunx/quincunxlaw6.BezoutPrimitive", spec := "bezoutPrimitive", apart := false, narrowed := true }
def BezoutPrimitiveUptoSaid : Prop := bezoutPrimitiveUptoRow.holds Try.pinned (OpenSpec.upto bezoutPrimitiveSpec)

end Rows
end Go.Proofs.Ytobiogedknmijaa
