/-
  No cell of these rows narrows 'for every input' (looked for: loops, veiled, ifaces, maps, wideKeys, modest, calm, conditions, laid).
  DERIVED. THE GIVEN ROWS OF THIS SEAT. 5 by the template 'for every input the law returns true; each argument reads behind the call as it read before'; 0 by the template 'total and deterministic' (their statements: YtbdjkbonoofibaaTotals.lean).
  GIVEN WITH THE SEED: the statements are not yours to turn. If you find one false, say at which input.
  Laid BY PROGRAM, IN A SANDBOX (cutbox-rows.mjs): the forced cells as the released guide's own fill.sh prints them over the translation 0deab4f3d80258c0… (all of the seat's roots in one cut). By AI agents, Wed Nov 11 2026. No macro, syntax, notation, axiom, sorry.
-/
import Derived.Test.YtbdjkbonoofibaaChecked
import GoSem.Claim
import GoSem.ClaimJoined
import GoSem.ClaimMapViews
import Derived.JoinedTies
import Derived.KernelRfl
namespace Go.Proofs.Ytbdjkbonoofibaa
/- THE CELL 'sum', in the pinned program and in every row, IS THE sha256 OF THE DUMP (.gsa) THAT YtbdjkbonoofibaaProg.lean LOADS. Nothing in Lean hashes anything: it is a label: what it is worth is what the hold of that sum in a sandbox is worth. -/
noncomputable def Try.pinned : Pinned := { name := "ytbdjkbonoofibaa", sum := "0deab4f3d80258c096ffc246828a9b2abe1bc6101118aca1cf1764509cad7514", checked := Try.checked }
namespace Rows
def none {H : Type} : Left H := { results := [], args := [] }

/-- 'quincunxlaw9.RowsForms': WHATEVER THE INPUT: true; the input reads as it did. -/
def rowsFormsSpec : ChangeSpec := { name := "rowsForms", fn := fun _ => fun
  | [d1, d2, d3, d4] => { results := [.lit (.bool true)], args := [d1, d2, d3, d4] }
  | _ => none }
def rowsFormsRow : OpenClaim := { program := "ytbdjkbonoofibaa", sum := "0deab4f3d80258c096ffc246828a9b2abe1bc6101118aca1cf1764509cad7514", func := "quincunx/quincunxlaw9.RowsForms", spec := "rowsForms", unfollowed := true, recurses := true, apart := false }
def RowsFormsSaid : Prop := rowsFormsRow.holds Try.pinned (OpenSpec.ofChange rowsFormsSpec)

/-- ITS FALSE NEIGHBOUR: 'it returns false'. Refute it at one input. -/
def rowsFormsWrong : ChangeSpec := { name := "rowsForms", fn := fun _ => fun
  | [d1, d2, d3, d4] => { results := [.lit (.bool false)], args := [d1, d2, d3, d4] }
  | _ => none }
def RowsFormsWrongFalsely : Prop := rowsFormsRow.holds Try.pinned (OpenSpec.ofChange rowsFormsWrong)

/-- 'quincunxlaw9.RowsSorts': WHATEVER THE INPUT: true; the input reads as it did. -/
def rowsSortsSpec : ChangeSpec := { name := "rowsSorts", fn := fun _ => fun
  | [d1, d2] => { results := [.lit (.bool true)], args := [d1, d2] }
  | _ => none }
def rowsSortsRow : OpenClaim := { program := "ytbdjkbonoofibaa", sum := "0deab4f3d80258c096ffc246828a9b2abe1bc6101118aca1cf1764509cad7514", func := "quincunx/quincunxlaw9.RowsSorts", spec := "rowsSorts", unfollowed := true, recurses := true, apart := false }
def RowsSortsSaid : Prop := rowsSortsRow.holds Try.pinned (OpenSpec.ofChange rowsSortsSpec)

/-- ITS FALSE NEIGHBOUR: 'it returns false'. Refute it at one input. -/
def rowsSortsWrong : ChangeSpec := { name := "rowsSorts", fn := fun _ => fun
  | [d1, d2] => { results := [.lit (.bool false)], args := [d1, d2] }
  | _ => none }
def RowsSortsWrongFalsely : Prop := rowsSortsRow.holds Try.pinned (OpenSpec.ofChange rowsSortsWrong)

/-- 'quincunxlaw9.RowsTwice': WHATEVER THE INPUT: true; the input reads as it did. -/
def rowsTwiceSpec : ChangeSpec := { name := "rowsTwice", fn := fun _ => fun
  | [d1, d2] => { results := [.lit (.bool true)], args := [d1, d2] }
  | _ => none }
def rowsTwiceRow : OpenClaim := { program := "ytbdjkbonoofibaa", sum := "0deab4f3d80258c096ffc246828a9b2abe1bc6101118aca1cf1764509cad7514", func := "quincunx/quincunxlaw9.RowsTwice", spec := "rowsTwice", unfollowed := true, recurses := true, apart := false }
def RowsTwiceSaid : Prop := rowsTwiceRow.holds Try.pinned (OpenSpec.ofChange rowsTwiceSpec)

/-- ITS FALSE NEIGHBOUR: 'it returns false'. Refute it at one input. -/
def rowsTwiceWrong : ChangeSpec := { name := "rowsTwice", fn := fun _ => fun
  | [d1, d2] => { results := [.lit (.bool false)], args := [d1, d2] }
  | _ => none }
def RowsTwiceWrongFalsely : Prop := rowsTwiceRow.holds Try.pinned (OpenSpec.ofChange rowsTwiceWrong)

/-- 'quincunxlaw9.RowsTurns': WHATEVER THE INPUT: true; the input reads as it did. -/
def rowsTurnsSpec : ChangeSpec := { name := "rowsTurns", fn := fun _ => fun
  | [d1, d2, d3, d4] => { results := [.lit (.bool true)], args := [d1, d2, d3, d4] }
  | _ => none }
def rowsTurnsRow : OpenClaim := { program := "ytbdjkbonoofibaa", sum := "0deab4f3d80258c096ffc246828a9b2abe1bc6101118aca1cf1764509cad7514", func := "quincunx/quincunxlaw9.RowsTurns", spec := "rowsTurns", unfollowed := true, recurses := true, apart := false }
def RowsTurnsSaid : Prop := rowsTurnsRow.holds Try.pinned (OpenSpec.ofChange rowsTurnsSpec)

/-- ITS FALSE NEIGHBOUR: 'it returns false'. Refute it at one input. -/
def rowsTurnsWrong : ChangeSpec := { name := "rowsTurns", fn := fun _ => fun
  | [d1, d2, d3, d4] => { results := [.lit (.bool false)], args := [d1, d2, d3, d4] }
  | _ => none }
def RowsTurnsWrongFalsely : Prop := rowsTurnsRow.holds Try.pinned (OpenSpec.ofChange rowsTurnsWrong)

/-- 'quincunxlaw9.RowsNormal': WHATEVER THE INPUT: true; the input reads as it did. -/
def rowsNormalSpec : ChangeSpec := { name := "rowsNormal", fn := fun _ => fun
  | [d] => { results := [.lit (.bool true)], args := [d] }
  | _ => none }
def rowsNormalRow : OpenClaim := { program := "ytbdjkbonoofibaa", sum := "0deab4f3d80258c096ffc246828a9b2abe1bc6101118aca1cf1764509cad7514", func := "quincunx/quincunxlaw9.RowsNormal", spec := "rowsNormal", unfollowed := true, recurses := true, apart := false }
def RowsNormalSaid : Prop := rowsNormalRow.holds Try.pinned (OpenSpec.ofChange rowsNormalSpec)

/-- ITS FALSE NEIGHBOUR: 'it returns false'. Refute it at one input. -/
def rowsNormalWrong : ChangeSpec := { name := "rowsNormal", fn := fun _ => fun
  | [d] => { results := [.lit (.bool false)], args := [d] }
  | _ => none }
def RowsNormalWrongFalsely : Prop := rowsNormalRow.holds Try.pinned (OpenSpec.ofChange rowsNormalWrong)

/- THE SECOND FORM. 'bulk': how many values and letters a reading holds, each counted each time it is reached (what is shared counts as often as it is met; a slice's spare places count too). A statement '..UptoSaid' is the law's where the arguments, and the package variables that the reading takes, are together of bulk at most 1048576: NARROWER than '..Said'. Prove '..Said' where nothing that the law and all that it calls make is longer than what came in: it says more and counts as full. Else prove '..UptoSaid'. A law counts once. -/
mutual
def uptoBulk {H : Type} : DataW H → Nat
  | .lit (.string bytes) => bytes.length + 1
  | .lit _ => 1
  | .nil => 1
  | .ptr d => uptoBulk d + 1
  | .slice elems spare => uptoBulkAll elems + uptoBulkAll spare + 1
  | .agg parts => uptoBulkAll parts + 1
  | .iface _ d => uptoBulk d + 1
  | .map entries => uptoBulkEntries entries + 1
  | .held _ => 1
def uptoBulkAll {H : Type} : List (DataW H) → Nat
  | [] => 0
  | d :: r => uptoBulk d + uptoBulkAll r
def uptoBulkEntries {H : Type} : List (Lit × DataW H) → Nat
  | [] => 0
  | x :: r => uptoBulkEntry x + uptoBulkEntries r
def uptoBulkEntry {H : Type} : Lit × DataW H → Nat
  | (.string bytes, d) => bytes.length + uptoBulk d + 1
  | (_, d) => uptoBulk d + 1
 end
def uptoSmall : (H : Type) → List (DataW H) → Bool := fun _ ds => decide (uptoBulkAll ds ≤ 1048576)
def OpenSpec.upto (s : _root_.Go.ChangeSpec) : _root_.Go.OpenSpec := { _root_.Go.OpenSpec.ofChange s with cond := some uptoSmall }

/-- 'quincunxlaw9.RowsForms', WHERE WHAT IT READS IS OF BULK AT MOST 1048576: true; the input reads as it did. -/
def rowsFormsUptoRow : OpenClaim := { program := "ytbdjkbonoofibaa", sum := "0deab4f3d80258c096ffc246828a9b2abe1bc6101118aca1cf1764509cad7514", func := "quincunx/quincunxlaw9.RowsForms", spec := "rowsForms", unfollowed := true, recurses := true, apart := false, narrowed := true }
def RowsFormsUptoSaid : Prop := rowsFormsUptoRow.holds Try.pinned (OpenSpec.upto rowsFormsSpec)

/-- 'quincunxlaw9.RowsSorts', WHERE WHAT IT READS IS OF BULK AT MOST 1048576: true; the input reads as it did. -/
def rowsSortsUptoRow : OpenClaim := { program := "ytbdjkbonoofibaa", sum := "0deab4f3d80258c096ffc246828a9b2abe1bc6101118aca1cf1764509cad7514", func := "quincunx/quincunxlaw9.RowsSorts", spec := "rowsSorts", unfollowed := true, recurses := true, apart := false, narrowed := true }
def RowsSortsUptoSaid : Prop := rowsSortsUptoRow.holds Try.pinned (OpenSpec.upto rowsSortsSpec)

/-- 'quincunxlaw9.RowsTwice', WHERE WHAT IT READS IS OF BULK AT MOST 1048576: true; the input reads as it did. -/
def rowsTwiceUptoRow : OpenClaim := { program := "ytbdjkbonoofibaa", sum := "0deab4f3d80258c096ffc246828a9b2abe1bc6101118aca1cf1764509cad7514", func := "quincunx/quincunxlaw9.RowsTwice", spec := "rowsTwice", unfollowed := true, recurses := true, apart := false, narrowed := true }
def RowsTwiceUptoSaid : Prop := rowsTwiceUptoRow.holds Try.pinned (OpenSpec.upto rowsTwiceSpec)

/-- 'quincunxlaw9.RowsTurns', WHERE WHAT IT READS IS OF BULK AT MOST 1048576: true; the input reads as it did. -/
def rowsTurnsUptoRow : OpenClaim := { program := "ytbdjkbonoofibaa", sum := "0deab4f3d80258c096ffc246828a9b2abe1bc6101118aca1cf1764509cad7514", func := "quincunx/quincunxlaw9.RowsTurns", spec := "rowsTurns", unfollowed := true, recurses := true, apart := false, narrowed := true }
def RowsTurnsUptoSaid : Prop := rowsTurnsUptoRow.holds Try.pinned (OpenSpec.upto rowsTurnsSpec)

/-- 'quincunxlaw9.RowsNormal', WHERE WHAT IT READS IS OF BULK AT MOST 1048576: true; the input reads as it did. -/
def rowsNormalUptoRow : OpenClaim := { program := "ytbdjkbonoofibaa", sum := "0deab4f3d80258c096ffc246828a9b2abe1bc6101118aca1cf1764509cad7514", func := "quincunx/quincunxlaw9.RowsNormal", spec := "rowsNormal", unfollowed := true, recurses := true, apart := false, narrowed := true }
def RowsNormalUptoSaid : Prop := rowsNormalUptoRow.holds Try.pinned (OpenSpec.upto rowsNormalSpec)

end Rows
end Go.Proofs.Ytbdjkbonoofibaa
