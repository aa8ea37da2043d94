/-
  No cell of these rows narrows 'for every input' (looked for: loops, veiled, ifaces, maps, wideKeys, modest, calm, conditions, laid).
  DERIVED. THE GIVEN ROWS OF THIS SEAT. 5 by the template 'for every input the law returns true; each argument reads behind the call as it read before'; 0 by the template 'total and deterministic' (their statements: YtfjebgjhhojphaaTotals.lean).
  GIVEN WITH THE SEED: the statements are not yours to turn. If you find one false, say at which input.
  Laid BY PROGRAM, IN A SANDBOX (cutbox-rows.mjs): the forced cells as the released guide's own fill.sh prints them over the translation b5777880203335bd… (all of the seat's roots in one cut). By AI agents, Wed Nov 11 2026. No macro, syntax, notation, axiom, sorry.
-/
import Derived.Test.YtfjebgjhhojphaaChecked
import GoSem.Claim
import GoSem.ClaimJoined
import GoSem.ClaimMapViews
import Derived.JoinedTies
import Derived.KernelRfl
namespace Go.Proofs.Ytfjebgjhhojphaa
/- THE CELL 'sum', in the pinned program and in every row, IS THE sha256 OF THE DUMP (.gsa) THAT YtfjebgjhhojphaaProg.lean LOADS. Nothing in Lean hashes anything: it is a label: what it is worth is what the hold of that sum in a sandbox is worth. -/
noncomputable def Try.pinned : Pinned := { name := "ytfjebgjhhojphaa", sum := "b5777880203335bdc80c79834e10576d19d32460789e502d1108941375fd5e85", checked := Try.checked }
namespace Rows
def none {H : Type} : Left H := { results := [], args := [] }

/-- 'quincunxlaw3.DigitTexts': WHATEVER THE INPUT: true; the input reads as it did. -/
def digitTextsSpec : ChangeSpec := { name := "digitTexts", fn := fun _ => fun
  | [d] => { results := [.lit (.bool true)], args := [d] }
  | _ => none }
def digitTextsRow : OpenClaim := { program := "ytfjebgjhhojphaa", sum := "b5777880203335bdc80c79834e10576d19d32460789e502d1108941375fd5e85", func := "quincunx/quincunxlaw3.DigitTexts", spec := "digitTexts", apart := false }
def DigitTextsSaid : Prop := digitTextsRow.holds Try.pinned (OpenSpec.ofChange digitTextsSpec)

/-- ITS FALSE NEIGHBOUR: 'it returns false'. Refute it at one input. -/
def digitTextsWrong : ChangeSpec := { name := "digitTexts", fn := fun _ => fun
  | [d] => { results := [.lit (.bool false)], args := [d] }
  | _ => none }
def DigitTextsWrongFalsely : Prop := digitTextsRow.holds Try.pinned (OpenSpec.ofChange digitTextsWrong)

/-- 'quincunxlaw3.DigitParses': WHATEVER THE INPUT: true; the input reads as it did. -/
def digitParsesSpec : ChangeSpec := { name := "digitParses", fn := fun _ => fun
  | [d1, d2] => { results := [.lit (.bool true)], args := [d1, d2] }
  | _ => none }
def digitParsesRow : OpenClaim := { program := "ytfjebgjhhojphaa", sum := "b5777880203335bdc80c79834e10576d19d32460789e502d1108941375fd5e85", func := "quincunx/quincunxlaw3.DigitParses", spec := "digitParses", apart := false }
def DigitParsesSaid : Prop := digitParsesRow.holds Try.pinned (OpenSpec.ofChange digitParsesSpec)

/-- ITS FALSE NEIGHBOUR: 'it returns false'. Refute it at one input. -/
def digitParsesWrong : ChangeSpec := { name := "digitParses", fn := fun _ => fun
  | [d1, d2] => { results := [.lit (.bool false)], args := [d1, d2] }
  | _ => none }
def DigitParsesWrongFalsely : Prop := digitParsesRow.holds Try.pinned (OpenSpec.ofChange digitParsesWrong)

/-- 'quincunxlaw3.DigitBack': WHATEVER THE INPUT: true; the input reads as it did. -/
def digitBackSpec : ChangeSpec := { name := "digitBack", fn := fun _ => fun
  | [d1, d2, d3] => { results := [.lit (.bool true)], args := [d1, d2, d3] }
  | _ => none }
def digitBackRow : OpenClaim := { program := "ytfjebgjhhojphaa", sum := "b5777880203335bdc80c79834e10576d19d32460789e502d1108941375fd5e85", func := "quincunx/quincunxlaw3.DigitBack", spec := "digitBack", apart := false }
def DigitBackSaid : Prop := digitBackRow.holds Try.pinned (OpenSpec.ofChange digitBackSpec)

/-- ITS FALSE NEIGHBOUR: 'it returns false'. Refute it at one input. -/
def digitBackWrong : ChangeSpec := { name := "digitBack", fn := fun _ => fun
  | [d1, d2, d3] => { results := [.lit (.bool false)], args := [d1, d2, d3] }
  | _ => none }
def DigitBackWrongFalsely : Prop := digitBackRow.holds Try.pinned (OpenSpec.ofChange digitBackWrong)

/-- 'quincunxlaw3.DigitOrder': WHATEVER THE INPUT: true; the input reads as it did. -/
def digitOrderSpec : ChangeSpec := { name := "digitOrder", fn := fun _ => fun
  | [d1, d2] => { results := [.lit (.bool true)], args := [d1, d2] }
  | _ => none }
def digitOrderRow : OpenClaim := { program := "ytfjebgjhhojphaa", sum := "b5777880203335bdc80c79834e10576d19d32460789e502d1108941375fd5e85", func := "quincunx/quincunxlaw3.DigitOrder", spec := "digitOrder", apart := false }
def DigitOrderSaid : Prop := digitOrderRow.holds Try.pinned (OpenSpec.ofChange digitOrderSpec)

/-- ITS FALSE NEIGHBOUR: 'it returns false'. Refute it at one input. -/
def digitOrderWrong : ChangeSpec := { name := "digitOrder", fn := fun _ => fun
  | [d1, d2] => { results := [.lit (.bool false)], args := [d1, d2] }
  | _ => none }
def DigitOrderWrongFalsely : Prop := digitOrderRow.holds Try.pinned (OpenSpec.ofChange digitOrderWrong)

/-- 'quincunxlaw3.DigitEnds': WHATEVER THE INPUT: true; the input reads as it did. -/
def digitEndsSpec : ChangeSpec := { name := "digitEnds", fn := fun _ => fun
  | [d1, d2, d3] => { results := [.lit (.bool true)], args := [d1, d2, d3] }
  | _ => none }
def digitEndsRow : OpenClaim := { program := "ytfjebgjhhojphaa", sum := "b5777880203335bdc80c79834e10576d19d32460789e502d1108941375fd5e85", func := "quincunx/quincunxlaw3.DigitEnds", spec := "digitEnds", apart := false }
def DigitEndsSaid : Prop := digitEndsRow.holds Try.pinned (OpenSpec.ofChange digitEndsSpec)

/-- ITS FALSE NEIGHBOUR: 'it returns false'. Refute it at one input. -/
def digitEndsWrong : ChangeSpec := { name := "digitEnds", fn := fun _ => fun
  | [d1, d2, d3] => { results := [.lit (.bool false)], args := [d1, d2, d3] }
  | _ => none }
def DigitEndsWrongFalsely : Prop := digitEndsRow.holds Try.pinned (OpenSpec.ofChange digitEndsWrong)

/- THE SECOND FORM. 'bulk': how many values and letters a reading holds, each counted each time it is reached (what is shared counts as often as it is met; a slice's spare places count too). A statement '..UptoSaid' is the law's where the arguments, and the package variables that the reading takes, are together of bulk at most 1048576: NARROWER than '..Said'. Prove '..Said' where nothing that the law and all that it calls make is longer than what came in: it says more and counts as full. Else prove '..UptoSaid'. A law counts once. -/
mutual
def uptoBulk {H : Type} : DataW H → Nat
  | .lit (.string bytes) => bytes.length + 1
  | .lit _ => 1
  | .nil => 1
  | .ptr d => uptoBulk d + 1
  | .slice elems spare => uptoBulkAll elems + uptoBulkAll spare + 1
  | .agg parts => uptoBulkAll parts + 1
  | .iface _ d => uptoBulk d + 1
  | .map entries => uptoBulkEntries entries + 1
  | .held _ => 1
def uptoBulkAll {H : Type} : List (DataW H) → Nat
  | [] => 0
  | d :: r => uptoBulk d + uptoBulkAll r
def uptoBulkEntries {H : Type} : List (Lit × DataW H) → Nat
  | [] => 0
  | x :: r => uptoBulkEntry x + uptoBulkEntries r
def uptoBulkEntry {H : Type} : Lit × DataW H → Nat
  | (.string bytes, d) => bytes.length + uptoBulk d + 1
  | (_, d) => uptoBulk d + 1
 end
def uptoSmall : (H : Type) → List (DataW H) → Bool := fun _ ds => decide (uptoBulkAll ds ≤ 1048576)
def OpenSpec.upto (s : _root_.Go.ChangeSpec) : _root_.Go.OpenSpec := { _root_.Go.OpenSpec.ofChange s with cond := some uptoSmall }

/-- 'quincunxlaw3.DigitTexts', WHERE WHAT IT READS IS OF BULK AT MOST 1048576: true; the input reads as it did. -/
def digitTextsUptoRow : OpenClaim := { program := "ytfjebgjhhojphaa", sum := "b5777880203335bdc80c79834e10576d19d32460789e502d1108941375fd5e85", func := "quincunx/quincunxlaw3.DigitTexts", spec := "digitTexts", apart := false, narrowed := true }
def DigitTextsUptoSaid : Prop := digitTextsUptoRow.holds Try.pinned (OpenSpec.upto digitTextsSpec)

/-- 'quincunxlaw3.DigitParses', WHERE WHAT IT READS IS OF BULK AT MOST 1048576: true; the input reads as it did. -/
def digitParsesUptoRow : OpenClaim := { program := "ytfjebgjhhojphaa", sum := "b5777880203335bdc80c79834e10576d19d32460789e502d1108941375fd5e85", func := "quincunx/quincunxlaw3.DigitParses", spec := "digitParses", apart := false, narrowed := true }
def DigitParsesUptoSaid : Prop := digitParsesUptoRow.holds Try.pinned (OpenSpec.upto digitParsesSpec)

/-- 'quincunxlaw3.DigitBack', WHERE WHAT IT READS IS OF BULK AT MOST 1048576: true; the input reads as it did. -/
def digitBackUptoRow : OpenClaim := { program := "ytfjebgjhhojphaa", sum := "b5777880203335bdc80c79834e10576d19d32460789e502d1108941375fd5e85", func := "quincunx/quincunxlaw3.DigitBack", spec := "digitBack", apart := false, narrowed := true }
def DigitBackUptoSaid : Prop := digitBackUptoRow.holds Try.pinned (OpenSpec.upto digitBackSpec)

/-- 'quincunxlaw3.DigitOrder', WHERE WHAT IT READS IS OF BULK AT MOST 1048576: true; the input reads as it did. -/
def digitOrderUptoRow : OpenClaim := { program := "ytfjebgjhhojphaa", sum := "b5777880203335bdc80c79834e10576d19d32460789e502d1108941375fd5e85", func := "quincunx/quincunxlaw3.DigitOrder", spec := "digitOrder", apart := false, narrowed := true }
def DigitOrderUptoSaid : Prop := digitOrderUptoRow.holds Try.pinned (OpenSpec.upto digitOrderSpec)

/-- 'quincunxlaw3.DigitEnds', WHERE WHAT IT READS IS OF BULK AT MOST 1048576: true; the input reads as it did. -/
def digitEndsUptoRow : OpenClaim := { program := "ytfjebgjhhojphaa", sum := "b5777880203335bdc80c79834e10576d19d32460789e502d1108941375fd5e85", func := "quincunx/quincunxlaw3.DigitEnds", spec := "digitEnds", apart := false, narrowed := true }
def DigitEndsUptoSaid : Prop := digitEndsUptoRow.holds Try.pinned (OpenSpec.upto digitEndsSpec)

end Rows
end Go.Proofs.Ytfjebgjhhojphaa
