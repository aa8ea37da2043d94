/-
  No cell of these rows narrows 'for every input' (looked for: loops, veiled, ifaces, maps, wideKeys, modest, calm, conditions, laid).
  DERIVED. THE GIVEN ROWS OF THIS SEAT. 5 by the template 'for every input the law returns true; each argument reads behind the call as it read before'; 0 by the template 'total and deterministic' (their statements: YtcafodggkhkpnaaTotals.lean).
  GIVEN WITH THE SEED: the statements are not yours to turn. If you find one false, say at which input.
  Laid BY PROGRAM, IN A SANDBOX (cutbox-rows.mjs): the forced cells as the released guide's own fill.sh prints them over the translation 45f2e6b9750cc9b4… (all of the seat's roots in one cut). By AI agents, Wed Nov 11 2026. No macro, syntax, notation, axiom, sorry.
-/
import Derived.Test.YtcafodggkhkpnaaChecked
import GoSem.Claim
import GoSem.ClaimJoined
import GoSem.ClaimMapViews
import Derived.JoinedTies
import Derived.KernelRfl
namespace Go.Proofs.Ytcafodggkhkpnaa
/- THE CELL 'sum', in the pinned program and in every row, IS THE sha256 OF THE DUMP (.gsa) THAT YtcafodggkhkpnaaProg.lean LOADS. Nothing in Lean hashes anything: it is a label: what it is worth is what the hold of that sum in a sandbox is worth. -/
noncomputable def Try.pinned : Pinned := { name := "ytcafodggkhkpnaa", sum := "45f2e6b9750cc9b4113322e7b2c6a5013b1492df9a7eba3706a5dfd5096f8e27", checked := Try.checked }
namespace Rows
def none {H : Type} : Left H := { results := [], args := [] }

/-- 'quincunxlaw5.QuotTells': WHATEVER THE INPUT: true; the input reads as it did. -/
def quotTellsSpec : ChangeSpec := { name := "quotTells", fn := fun _ => fun
  | [d1, d2] => { results := [.lit (.bool true)], args := [d1, d2] }
  | _ => none }
def quotTellsRow : OpenClaim := { program := "ytcafodggkhkpnaa", sum := "45f2e6b9750cc9b4113322e7b2c6a5013b1492df9a7eba3706a5dfd5096f8e27", func := "quincunx/quincunxlaw5.QuotTells", spec := "quotTells", apart := false }
def QuotTellsSaid : Prop := quotTellsRow.holds Try.pinned (OpenSpec.ofChange quotTellsSpec)

/-- ITS FALSE NEIGHBOUR: 'it returns false'. Refute it at one input. -/
def quotTellsWrong : ChangeSpec := { name := "quotTells", fn := fun _ => fun
  | [d1, d2] => { results := [.lit (.bool false)], args := [d1, d2] }
  | _ => none }
def QuotTellsWrongFalsely : Prop := quotTellsRow.holds Try.pinned (OpenSpec.ofChange quotTellsWrong)

/-- 'quincunxlaw5.QuotTexts': WHATEVER THE INPUT: true; the input reads as it did. -/
def quotTextsSpec : ChangeSpec := { name := "quotTexts", fn := fun _ => fun
  | [d1, d2] => { results := [.lit (.bool true)], args := [d1, d2] }
  | _ => none }
def quotTextsRow : OpenClaim := { program := "ytcafodggkhkpnaa", sum := "45f2e6b9750cc9b4113322e7b2c6a5013b1492df9a7eba3706a5dfd5096f8e27", func := "quincunx/quincunxlaw5.QuotTexts", spec := "quotTexts", apart := false }
def QuotTextsSaid : Prop := quotTextsRow.holds Try.pinned (OpenSpec.ofChange quotTextsSpec)

/-- ITS FALSE NEIGHBOUR: 'it returns false'. Refute it at one input. -/
def quotTextsWrong : ChangeSpec := { name := "quotTexts", fn := fun _ => fun
  | [d1, d2] => { results := [.lit (.bool false)], args := [d1, d2] }
  | _ => none }
def QuotTextsWrongFalsely : Prop := quotTextsRow.holds Try.pinned (OpenSpec.ofChange quotTextsWrong)

/-- 'quincunxlaw5.QuotBack': WHATEVER THE INPUT: true; the input reads as it did. -/
def quotBackSpec : ChangeSpec := { name := "quotBack", fn := fun _ => fun
  | [d1, d2] => { results := [.lit (.bool true)], args := [d1, d2] }
  | _ => none }
def quotBackRow : OpenClaim := { program := "ytcafodggkhkpnaa", sum := "45f2e6b9750cc9b4113322e7b2c6a5013b1492df9a7eba3706a5dfd5096f8e27", func := "quincunx/quincunxlaw5.QuotBack", spec := "quotBack", apart := false }
def QuotBackSaid : Prop := quotBackRow.holds Try.pinned (OpenSpec.ofChange quotBackSpec)

/-- ITS FALSE NEIGHBOUR: 'it returns false'. Refute it at one input. -/
def quotBackWrong : ChangeSpec := { name := "quotBack", fn := fun _ => fun
  | [d1, d2] => { results := [.lit (.bool false)], args := [d1, d2] }
  | _ => none }
def QuotBackWrongFalsely : Prop := quotBackRow.holds Try.pinned (OpenSpec.ofChange quotBackWrong)

/-- 'quincunxlaw5.QuotNear': WHATEVER THE INPUT: true; the input reads as it did. -/
def quotNearSpec : ChangeSpec := { name := "quotNear", fn := fun _ => fun
  | [d1, d2] => { results := [.lit (.bool true)], args := [d1, d2] }
  | _ => none }
def quotNearRow : OpenClaim := { program := "ytcafodggkhkpnaa", sum := "45f2e6b9750cc9b4113322e7b2c6a5013b1492df9a7eba3706a5dfd5096f8e27", func := "quincunx/quincunxlaw5.QuotNear", spec := "quotNear", apart := false }
def QuotNearSaid : Prop := quotNearRow.holds Try.pinned (OpenSpec.ofChange quotNearSpec)

/-- ITS FALSE NEIGHBOUR: 'it returns false'. Refute it at one input. -/
def quotNearWrong : ChangeSpec := { name := "quotNear", fn := fun _ => fun
  | [d1, d2] => { results := [.lit (.bool false)], args := [d1, d2] }
  | _ => none }
def QuotNearWrongFalsely : Prop := quotNearRow.holds Try.pinned (OpenSpec.ofChange quotNearWrong)

/-- 'quincunxlaw5.QuotDivides': WHATEVER THE INPUT: true; the input reads as it did. -/
def quotDividesSpec : ChangeSpec := { name := "quotDivides", fn := fun _ => fun
  | [d1, d2, d3] => { results := [.lit (.bool true)], args := [d1, d2, d3] }
  | _ => none }
def quotDividesRow : OpenClaim := { program := "ytcafodggkhkpnaa", sum := "45f2e6b9750cc9b4113322e7b2c6a5013b1492df9a7eba3706a5dfd5096f8e27", func := "quincunx/quincunxlaw5.QuotDivides", spec := "quotDivides", apart := false }
def QuotDividesSaid : Prop := quotDividesRow.holds Try.pinned (OpenSpec.ofChange quotDividesSpec)

/-- ITS FALSE NEIGHBOUR: 'it returns false'. Refute it at one input. -/
def quotDividesWrong : ChangeSpec := { name := "quotDivides", fn := fun _ => fun
  | [d1, d2, d3] => { results := [.lit (.bool false)], args := [d1, d2, d3] }
  | _ => none }
def QuotDividesWrongFalsely : Prop := quotDividesRow.holds Try.pinned (OpenSpec.ofChange quotDividesWrong)

/- THE SECOND FORM. 'bulk': how many values and letters a reading holds, each counted each time it is reached (what is shared counts as often as it is met; a slice's spare places count too). A statement '..UptoSaid' is the law's where the arguments, and the package variables that the reading takes, are together of bulk at most 1048576: NARROWER than '..Said'. Prove '..Said' where nothing that the law and all that it calls make is longer than what came in: it says more and counts as full. Else prove '..UptoSaid'. A law counts once. -/
mutual
def uptoBulk {H : Type} : DataW H → Nat
  | .lit (.string bytes) => bytes.length + 1
  | .lit _ => 1
  | .nil => 1
  | .ptr d => uptoBulk d + 1
  | .slice elems spare => uptoBulkAll elems + uptoBulkAll spare + 1
  | .agg parts => uptoBulkAll parts + 1
  | .iface _ d => uptoBulk d + 1
  | .map entries => uptoBulkEntries entries + 1
  | .held _ => 1
def uptoBulkAll {H : Type} : List (DataW H) → Nat
  | [] => 0
  | d :: r => uptoBulk d + uptoBulkAll r
def uptoBulkEntries {H : Type} : List (Lit × DataW H) → Nat
  | [] => 0
  | x :: r => uptoBulkEntry x + uptoBulkEntries r
def uptoBulkEntry {H : Type} : Lit × DataW H → Nat
  | (.string bytes, d) => bytes.length + uptoBulk d + 1
  | (_, d) => uptoBulk d + 1
 end
def uptoSmall : (H : Type) → List (DataW H) → Bool := fun _ ds => decide (uptoBulkAll ds ≤ 1048576)
def OpenSpec.upto (s : _root_.Go.ChangeSpec) : _root_.Go.OpenSpec := { _root_.Go.OpenSpec.ofChange s with cond := some uptoSmall }

/-- 'quincunxlaw5.QuotTells', WHERE WHAT IT READS IS OF BULK AT MOST 1048576: true; the input reads as it did. -/
def quotTellsUptoRow : OpenClaim := { program := "ytcafodggkhkpnaa", sum := "45f2e6b9750cc9b4113322e7b2c6a5013b1492df9a7eba3706a5dfd5096f8e27", func := "quincunx/quincunxlaw5.QuotTells", spec := "quotTells", apart := false, narrowed := true }
def QuotTellsUptoSaid : Prop := quotTellsUptoRow.holds Try.pinned (OpenSpec.upto quotTellsSpec)

/-- 'quincunxlaw5.QuotTexts', WHERE WHAT IT READS IS OF BULK AT MOST 1048576: true; the input reads as it did. -/
def quotTextsUptoRow : OpenClaim := { program := "ytcafodggkhkpnaa", sum := "45f2e6b9750cc9b4113322e7b2c6a5013b1492df9a7eba3706a5dfd5096f8e27", func := "quincunx/quincunxlaw5.QuotTexts", spec := "quotTexts", apart := false, narrowed := true }
def QuotTextsUptoSaid : Prop := quotTextsUptoRow.holds Try.pinned (OpenSpec.upto quotTextsSpec)

/-- 'quincunxlaw5.QuotBack', WHERE WHAT IT READS IS OF BULK AT MOST 1048576: true; the input reads as it did. -/
def quotBackUptoRow : OpenClaim := { program := "ytcafodggkhkpnaa", sum := "45f2e6b9750cc9b4113322e7b2c6a5013b1492df9a7eba3706a5dfd5096f8e27", func := "quincunx/quincunxlaw5.QuotBack", spec := "quotBack", apart := false, narrowed := true }
def QuotBackUptoSaid : Prop := quotBackUptoRow.holds Try.pinned (OpenSpec.upto quotBackSpec)

/-- 'quincunxlaw5.QuotNear', WHERE WHAT IT READS IS OF BULK AT MOST 1048576: true; the input reads as it did. -/
def quotNearUptoRow : OpenClaim := { program := "ytcafodggkhkpnaa", sum := "45f2e6b9750cc9b4113322e7b2c6a5013b1492df9a7eba3706a5dfd5096f8e27", func := "quincunx/quincunxlaw5.QuotNear", spec := "quotNear", apart := false, narrowed := true }
def QuotNearUptoSaid : Prop := quotNearUptoRow.holds Try.pinned (OpenSpec.upto quotNearSpec)

/-- 'quincunxlaw5.QuotDivides', WHERE WHAT IT READS IS OF BULK AT MOST 1048576: true; the input reads as it did. -/
def quotDividesUptoRow : OpenClaim := { program := "ytcafodggkhkpnaa", sum := "45f2e6b9750cc9b4113322e7b2c6a5013b1492df9a7eba3706a5dfd5096f8e27", func := "quincunx/quincunxlaw5.QuotDivides", spec := "quotDivides", apart := false, narrowed := true }
def QuotDividesUptoSaid : Prop := quotDividesUptoRow.holds Try.pinned (OpenSpec.upto quotDividesSpec)

end Rows
end Go.Proofs.Ytcafodggkhkpnaa
