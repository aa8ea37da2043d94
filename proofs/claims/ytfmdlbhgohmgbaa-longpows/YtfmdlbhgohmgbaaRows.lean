/-
  No cell of these rows narrows 'for every input' (looked for: loops, veiled, ifaces, maps, wideKeys, modest, calm, conditions, laid).
  DERIVED. THE GIVEN ROWS OF THIS SEAT. 5 by the template 'for every input the law returns true; each argument reads behind the call as it read before'; 0 by the template 'total and deterministic' (their statements: YtfmdlbhgohmgbaaTotals.lean).
  GIVEN WITH THE SEED: the statements are not yours to turn. If you find one false, say at which input.
  Laid BY PROGRAM, IN A SANDBOX (cutbox-rows.mjs): the forced cells as the released guide's own fill.sh prints them over the translation 18137f8003554134… (all of the seat's roots in one cut). By AI agents, Wed Nov 11 2026. No macro, syntax, notation, axiom, sorry.
-/
import Derived.Test.YtfmdlbhgohmgbaaChecked
import GoSem.Claim
import GoSem.ClaimJoined
import GoSem.ClaimMapViews
import Derived.JoinedTies
import Derived.KernelRfl
namespace Go.Proofs.Ytfmdlbhgohmgbaa
/- THE CELL 'sum', in the pinned program and in every row, IS THE sha256 OF THE DUMP (.gsa) THAT YtfmdlbhgohmgbaaProg.lean LOADS. Nothing in Lean hashes anything: it is a label: what it is worth is what the hold of that sum in a sandbox is worth. -/
noncomputable def Try.pinned : Pinned := { name := "ytfmdlbhgohmgbaa", sum := "18137f8003554134d0c07bbf4b107dbc45be3218002c2f2f6885a418dee6cc7c", checked := Try.checked }
namespace Rows
def none {H : Type} : Left H := { results := [], args := [] }

/-- 'quincunxlaw2.LongMuls': WHATEVER THE INPUT: true; the input reads as it did. -/
def longMulsSpec : ChangeSpec := { name := "longMuls", fn := fun _ => fun
  | [d1, d2] => { results := [.lit (.bool true)], args := [d1, d2] }
  | _ => none }
def longMulsRow : OpenClaim := { program := "ytfmdlbhgohmgbaa", sum := "18137f8003554134d0c07bbf4b107dbc45be3218002c2f2f6885a418dee6cc7c", func := "quincunx/quincunxlaw2.LongMuls", spec := "longMuls", apart := false }
def LongMulsSaid : Prop := longMulsRow.holds Try.pinned (OpenSpec.ofChange longMulsSpec)

/-- ITS FALSE NEIGHBOUR: 'it returns false'. Refute it at one input. -/
def longMulsWrong : ChangeSpec := { name := "longMuls", fn := fun _ => fun
  | [d1, d2] => { results := [.lit (.bool false)], args := [d1, d2] }
  | _ => none }
def LongMulsWrongFalsely : Prop := longMulsRow.holds Try.pinned (OpenSpec.ofChange longMulsWrong)

/-- 'quincunxlaw2.LongPows': WHATEVER THE INPUT: true; the input reads as it did. -/
def longPowsSpec : ChangeSpec := { name := "longPows", fn := fun _ => fun
  | [d1, d2, d3] => { results := [.lit (.bool true)], args := [d1, d2, d3] }
  | _ => none }
def longPowsRow : OpenClaim := { program := "ytfmdlbhgohmgbaa", sum := "18137f8003554134d0c07bbf4b107dbc45be3218002c2f2f6885a418dee6cc7c", func := "quincunx/quincunxlaw2.LongPows", spec := "longPows", apart := false }
def LongPowsSaid : Prop := longPowsRow.holds Try.pinned (OpenSpec.ofChange longPowsSpec)

/-- ITS FALSE NEIGHBOUR: 'it returns false'. Refute it at one input. -/
def longPowsWrong : ChangeSpec := { name := "longPows", fn := fun _ => fun
  | [d1, d2, d3] => { results := [.lit (.bool false)], args := [d1, d2, d3] }
  | _ => none }
def LongPowsWrongFalsely : Prop := longPowsRow.holds Try.pinned (OpenSpec.ofChange longPowsWrong)

/-- 'quincunxlaw2.LongBack': WHATEVER THE INPUT: true; the input reads as it did. -/
def longBackSpec : ChangeSpec := { name := "longBack", fn := fun _ => fun
  | [d1, d2] => { results := [.lit (.bool true)], args := [d1, d2] }
  | _ => none }
def longBackRow : OpenClaim := { program := "ytfmdlbhgohmgbaa", sum := "18137f8003554134d0c07bbf4b107dbc45be3218002c2f2f6885a418dee6cc7c", func := "quincunx/quincunxlaw2.LongBack", spec := "longBack", apart := false }
def LongBackSaid : Prop := longBackRow.holds Try.pinned (OpenSpec.ofChange longBackSpec)

/-- ITS FALSE NEIGHBOUR: 'it returns false'. Refute it at one input. -/
def longBackWrong : ChangeSpec := { name := "longBack", fn := fun _ => fun
  | [d1, d2] => { results := [.lit (.bool false)], args := [d1, d2] }
  | _ => none }
def LongBackWrongFalsely : Prop := longBackRow.holds Try.pinned (OpenSpec.ofChange longBackWrong)

/-- 'quincunxlaw2.LongRing': WHATEVER THE INPUT: true; the input reads as it did. -/
def longRingSpec : ChangeSpec := { name := "longRing", fn := fun _ => fun
  | [d1, d2, d3, d4] => { results := [.lit (.bool true)], args := [d1, d2, d3, d4] }
  | _ => none }
def longRingRow : OpenClaim := { program := "ytfmdlbhgohmgbaa", sum := "18137f8003554134d0c07bbf4b107dbc45be3218002c2f2f6885a418dee6cc7c", func := "quincunx/quincunxlaw2.LongRing", spec := "longRing", unfollowed := true, recurses := true, apart := false }
def LongRingSaid : Prop := longRingRow.holds Try.pinned (OpenSpec.ofChange longRingSpec)

/-- ITS FALSE NEIGHBOUR: 'it returns false'. Refute it at one input. -/
def longRingWrong : ChangeSpec := { name := "longRing", fn := fun _ => fun
  | [d1, d2, d3, d4] => { results := [.lit (.bool false)], args := [d1, d2, d3, d4] }
  | _ => none }
def LongRingWrongFalsely : Prop := longRingRow.holds Try.pinned (OpenSpec.ofChange longRingWrong)

/-- 'quincunxlaw2.LongGcds': WHATEVER THE INPUT: true; the input reads as it did. -/
def longGcdsSpec : ChangeSpec := { name := "longGcds", fn := fun _ => fun
  | [d1, d2, d3] => { results := [.lit (.bool true)], args := [d1, d2, d3] }
  | _ => none }
def longGcdsRow : OpenClaim := { program := "ytfmdlbhgohmgbaa", sum := "18137f8003554134d0c07bbf4b107dbc45be3218002c2f2f6885a418dee6cc7c", func := "quincunx/quincunxlaw2.LongGcds", spec := "longGcds", apart := false }
def LongGcdsSaid : Prop := longGcdsRow.holds Try.pinned (OpenSpec.ofChange longGcdsSpec)

/-- ITS FALSE NEIGHBOUR: 'it returns false'. Refute it at one input. -/
def longGcdsWrong : ChangeSpec := { name := "longGcds", fn := fun _ => fun
  | [d1, d2, d3] => { results := [.lit (.bool false)], args := [d1, d2, d3] }
  | _ => none }
def LongGcdsWrongFalsely : Prop := longGcdsRow.holds Try.pinned (OpenSpec.ofChange longGcdsWrong)

/- THE SECOND FORM. 'bulk': how many values and letters a reading holds, each counted each time it is reached (what is shared counts as often as it is met; a slice's spare places count too). A statement '..UptoSaid' is the law's where the arguments, and the package variables that the reading takes, are together of bulk at most 1048576: NARROWER than '..Said'. Prove '..Said' where nothing that the law and all that it calls make is longer than what came in: it says more and counts as full. Else prove '..UptoSaid'. A law counts once. -/
mutual
def uptoBulk {H : Type} : DataW H → Nat
  | .lit (.string bytes) => bytes.length + 1
  | .lit _ => 1
  | .nil => 1
  | .ptr d => uptoBulk d + 1
  | .slice elems spare => uptoBulkAll elems + uptoBulkAll spare + 1
  | .agg parts => uptoBulkAll parts + 1
  | .iface _ d => uptoBulk d + 1
  | .map entries => uptoBulkEntries entries + 1
  | .held _ => 1
def uptoBulkAll {H : Type} : List (DataW H) → Nat
  | [] => 0
  | d :: r => uptoBulk d + uptoBulkAll r
def uptoBulkEntries {H : Type} : List (Lit × DataW H) → Nat
  | [] => 0
  | x :: r => uptoBulkEntry x + uptoBulkEntries r
def uptoBulkEntry {H : Type} : Lit × DataW H → Nat
  | (.string bytes, d) => bytes.length + uptoBulk d + 1
  | (_, d) => uptoBulk d + 1
 end
def uptoSmall : (H : Type) → List (DataW H) → Bool := fun _ ds => decide (uptoBulkAll ds ≤ 1048576)
def OpenSpec.upto (s : _root_.Go.ChangeSpec) : _root_.Go.OpenSpec := { _root_.Go.OpenSpec.ofChange s with cond := some uptoSmall }

/-- 'quincunxlaw2.LongMuls', WHERE WHAT IT READS IS OF BULK AT MOST 1048576: true; the input reads as it did. -/
def longMulsUptoRow : OpenClaim := { program := "ytfmdlbhgohmgbaa", sum := "18137f8003554134d0c07bbf4b107dbc45be3218002c2f2f6885a418dee6cc7c", func := "quincunx/quincunxlaw2.LongMuls", spec := "longMuls", apart := false, narrowed := true }
def LongMulsUptoSaid : Prop := longMulsUptoRow.holds Try.pinned (OpenSpec.upto longMulsSpec)

/-- 'quincunxlaw2.LongPows', WHERE WHAT IT READS IS OF BULK AT MOST 1048576: true; the input reads as it did. -/
def longPowsUptoRow : OpenClaim := { program := "ytfmdlbhgohmgbaa", sum := "18137f8003554134d0c07bbf4b107dbc45be3218002c2f2f6885a418dee6cc7c", func := "quincunx/quincunxlaw2.LongPows", spec := "longPows", apart := false, narrowed := true }
def LongPowsUptoSaid : Prop := longPowsUptoRow.holds Try.pinned (OpenSpec.upto longPowsSpec)

/-- 'quincunxlaw2.LongBack', WHERE WHAT IT READS IS OF BULK AT MOST 1048576: true; the input reads as it did. -/
def longBackUptoRow : OpenClaim := { program := "ytfmdlbhgohmgbaa", sum := "18137f8003554134d0c07bbf4b107dbc45be3218002c2f2f6885a418dee6cc7c", func := "quincunx/quincunxlaw2.LongBack", spec := "longBack", apart := false, narrowed := true }
def LongBackUptoSaid : Prop := longBackUptoRow.holds Try.pinned (OpenSpec.upto longBackSpec)

/-- 'quincunxlaw2.LongRing', WHERE WHAT IT READS IS OF BULK AT MOST 1048576: true; the input reads as it did. -/
def longRingUptoRow : OpenClaim := { program := "ytfmdlbhgohmgbaa", sum := "18137f8003554134d0c07bbf4b107dbc45be3218002c2f2f6885a418dee6cc7c", func := "quincunx/quincunxlaw2.LongRing", spec := "longRing", unfollowed := true, recurses := true, apart := false, narrowed := true }
def LongRingUptoSaid : Prop := longRingUptoRow.holds Try.pinned (OpenSpec.upto longRingSpec)

/-- 'quincunxlaw2.LongGcds', WHERE WHAT IT READS IS OF BULK AT MOST 1048576: true; the input reads as it did. -/
def longGcdsUptoRow : OpenClaim := { program := "ytfmdlbhgohmgbaa", sum := "18137f8003554134d0c07bbf4b107dbc45be3218002c2f2f6885a418dee6cc7c", func := "quincunx/quincunxlaw2.LongGcds", spec := "longGcds", apart := false, narrowed := true }
def LongGcdsUptoSaid : Prop := longGcdsUptoRow.holds Try.pinned (OpenSpec.upto longGcdsSpec)

end Rows
end Go.Proofs.Ytfmdlbhgohmgbaa
