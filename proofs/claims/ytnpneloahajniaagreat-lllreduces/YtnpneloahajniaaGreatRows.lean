/-
  No cell of these rows narrows 'for every input' (looked for: loops, veiled, ifaces, maps, wideKeys, modest, calm, conditions, laid).
  DERIVED. THE GIVEN ROWS OF THIS SEAT. 3 by the template 'for every input the law returns true; each argument reads behind the call as it read before'; 0 by the template 'total and deterministic' (their statements: YtnpneloahajniaaGreatTotals.lean).
  GIVEN WITH THE SEED: the statements are not yours to turn. If you find one false, say at which input.
  Laid BY PROGRAM, IN A SANDBOX (cutbox-rows.mjs): the forced cells as the released guide's own fill.sh prints them over the translation b58ecfc32524fce0… (all of the seat's roots in one cut). By AI agents, Wed Nov 11 2026. No macro, syntax, notation, axiom, sorry.
-/
import Derived.Test.YtnpneloahajniaaGreatChecked
import GoSem.Claim
import GoSem.ClaimJoined
import GoSem.ClaimMapViews
import Derived.JoinedTies
import Derived.KernelRfl
namespace Go.Proofs.YtnpneloahajniaaGreat
/- THE CELL 'sum', in the pinned program and in every row, IS THE sha256 OF THE DUMP (.gsa) THAT YtnpneloahajniaaGreatProg.lean LOADS. Nothing in Lean hashes anything: it is a label: what it is worth is what the hold of that sum in a sandbox is worth. -/
noncomputable def Tryz.pinned : Pinned := { name := "ytnpneloahajniaagreat", sum := "b58ecfc32524fce053ae68a65970b43a72ddf53853087eed238b30c0275edbd4", checked := Tryz.checked }
namespace Rows
def none {H : Type} : Left H := { results := [], args := [] }

/-- 'quincunxlaw13.LllGrams': WHATEVER THE INPUT: true; the input reads as it did. -/
def lllGramsSpec : ChangeSpec := { name := "lllGrams", fn := fun _ => fun
  | [d1, d2] => { results := [.lit (.bool true)], args := [d1, d2] }
  | _ => none }
def lllGramsRow : OpenClaim := { program := "ytnpneloahajniaagreat", sum := "b58ecfc32524fce053ae68a65970b43a72ddf53853087eed238b30c0275edbd4", func := "quincunx/quincunxlaw13.LllGrams", spec := "lllGrams", unfollowed := true, recurses := true, apart := false }
def LllGramsSaid : Prop := lllGramsRow.holds Tryz.pinned (OpenSpec.ofChange lllGramsSpec)

/-- ITS FALSE NEIGHBOUR: 'it returns false'. Refute it at one input. -/
def lllGramsWrong : ChangeSpec := { name := "lllGrams", fn := fun _ => fun
  | [d1, d2] => { results := [.lit (.bool false)], args := [d1, d2] }
  | _ => none }
def LllGramsWrongFalsely : Prop := lllGramsRow.holds Tryz.pinned (OpenSpec.ofChange lllGramsWrong)

/-- 'quincunxlaw13.LllReduces': WHATEVER THE INPUT: true; the input reads as it did. -/
def lllReducesSpec : ChangeSpec := { name := "lllReduces", fn := fun _ => fun
  | [d1, d2] => { results := [.lit (.bool true)], args := [d1, d2] }
  | _ => none }
def lllReducesRow : OpenClaim := { program := "ytnpneloahajniaagreat", sum := "b58ecfc32524fce053ae68a65970b43a72ddf53853087eed238b30c0275edbd4", func := "quincunx/quincunxlaw13.LllReduces", spec := "lllReduces", unfollowed := true, recurses := true, apart := false }
def LllReducesSaid : Prop := lllReducesRow.holds Tryz.pinned (OpenSpec.ofChange lllReducesSpec)

/-- ITS FALSE NEIGHBOUR: 'it returns false'. Refute it at one input. -/
def lllReducesWrong : ChangeSpec := { name := "lllReduces", fn := fun _ => fun
  | [d1, d2] => { results := [.lit (.bool false)], args := [d1, d2] }
  | _ => none }
def LllReducesWrongFalsely : Prop := lllReducesRow.holds Tryz.pinned (OpenSpec.ofChange lllReducesWrong)

/-- 'quincunxlaw13.LllGramDots': WHATEVER THE INPUT: true; the input reads as it did. -/
def lllGramDotsSpec : ChangeSpec := { name := "lllGramDots", fn := fun _ => fun
  | [d1, d2, d3] => { results := [.lit (.bool true)], args := [d1, d2, d3] }
  | _ => none }
def lllGramDotsRow : OpenClaim := { program := "ytnpneloahajniaagreat", sum := "b58ecfc32524fce053ae68a65970b43a72ddf53853087eed238b30c0275edbd4", func := "quincunx/quincunxlaw13.LllGramDots", spec := "lllGramDots", unfollowed := true, recurses := true, apart := false }
def LllGramDotsSaid : Prop := lllGramDotsRow.holds Tryz.pinned (OpenSpec.ofChange lllGramDotsSpec)

/-- ITS FALSE NEIGHBOUR: 'it returns false'. Refute it at one input. -/
def lllGramDotsWrong : ChangeSpec := { name := "lllGramDots", fn := fun _ => fun
  | [d1, d2, d3] => { results := [.lit (.bool false)], args := [d1, d2, d3] }
  | _ => none }
def LllGramDotsWrongFalsely : Prop := lllGramDotsRow.holds Tryz.pinned (OpenSpec.ofChange lllGramDotsWrong)

/- THE SECOND FORM. 'bulk': how many values and letters a reading holds, each counted each time it is reached (what is shared counts as often as it is met; a slice's spare places count too). A statement '..UptoSaid' is the law's where the arguments, and the package variables that the reading takes, are together of bulk at most 1048576: NARROWER than '..Said'. Prove '..Said' where nothing that the law and all that it calls make is longer than what came in: it says more and counts as full. Else prove '..UptoSaid'. A law counts once. -/
mutual
def uptoBulk {H : Type} : DataW H → Nat
  | .lit (.string bytes) => bytes.length + 1
  | .lit _ => 1
  | .nil => 1
  | .ptr d => uptoBulk d + 1
  | .slice elems spare => uptoBulkAll elems + uptoBulkAll spare + 1
  | .agg parts => uptoBulkAll parts + 1
  | .iface _ d => uptoBulk d + 1
  | .map entries => uptoBulkEntries entries + 1
  | .held _ => 1
def uptoBulkAll {H : Type} : List (DataW H) → Nat
  | [] => 0
  | d :: r => uptoBulk d + uptoBulkAll r
def uptoBulkEntries {H : Type} : List (Lit × DataW H) → Nat
  | [] => 0
  | x :: r => uptoBulkEntry x + uptoBulkEntries r
def uptoBulkEntry {H : Type} : Lit × DataW H → Nat
  | (.string bytes, d) => bytes.length + uptoBulk d + 1
  | (_, d) => uptoBulk d + 1
 end
def uptoSmall : (H : Type) → List (DataW H) → Bool := fun _ ds => decide (uptoBulkAll ds ≤ 1048576)
def OpenSpec.upto (s : _root_.Go.ChangeSpec) : _root_.Go.OpenSpec := { _root_.Go.OpenSpec.ofChange s with cond := some uptoSmall }

/-- 'quincunxlaw13.LllGrams', WHERE WHAT IT READS IS OF BULK AT MOST 1048576: true; the input reads as it did. -/
def lllGramsUptoRow : OpenClaim := { program := "ytnpneloahajniaagreat", sum := "b58ecfc32524fce053ae68a65970b43a72ddf53853087eed238b30c0275edbd4", func := "quincunx/quincunxlaw13.LllGrams", spec := "lllGrams", unfollowed := true, recurses := true, apart := false, narrowed := true }
def LllGramsUptoSaid : Prop := lllGramsUptoRow.holds Tryz.pinned (OpenSpec.upto lllGramsSpec)

/-- 'quincunxlaw13.LllReduces', WHERE WHAT IT READS IS OF BULK AT MOST 1048576: true; the input reads as it did. -/
def lllReducesUptoRow : OpenClaim := { program := "ytnpneloahajniaagreat", sum := "b58ecfc32524fce053ae68a65970b43a72ddf53853087eed238b30c0275edbd4", func := "quincunx/quincunxlaw13.LllReduces", spec := "lllReduces", unfollowed := true, recurses := true, apart := false, narrowed := true }
def LllReducesUptoSaid : Prop := lllReducesUptoRow.holds Tryz.pinned (OpenSpec.upto lllReducesSpec)

/-- 'quincunxlaw13.LllGramDots', WHERE WHAT IT READS IS OF BULK AT MOST 1048576: true; the input reads as it did. -/
def lllGramDotsUptoRow : OpenClaim := { program := "ytnpneloahajniaagreat", sum := "b58ecfc32524fce053ae68a65970b43a72ddf53853087eed238b30c0275edbd4", func := "quincunx/quincunxlaw13.LllGramDots", spec := "lllGramDots", unfollowed := true, recurses := true, apart := false, narrowed := true }
def LllGramDotsUptoSaid : Prop := lllGramDotsUptoRow.holds Tryz.pinned (OpenSpec.upto lllGramDotsSpec)

end Rows
end Go.Proofs.YtnpneloahajniaaGreat
