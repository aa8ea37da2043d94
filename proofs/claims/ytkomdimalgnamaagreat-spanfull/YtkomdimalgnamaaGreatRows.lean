/-
  No cell of these rows narrows 'for every input' (looked for: loops, veiled, ifaces, maps, wideKeys, modest, calm, conditions, laid).
  DERIVED. THE GIVEN ROWS OF THIS SEAT. 5 by the template 'for every input the law returns true; each argument reads behind the call as it read before'; 0 by the template 'total and deterministic' (their statements: YtkomdimalgnamaaGreatTotals.lean).
  GIVEN WITH THE SEED: the statements are not yours to turn. If you find one false, say at which input.
  Laid BY PROGRAM, IN A SANDBOX (cutbox-rows.mjs): the forced cells as the released guide's own fill.sh prints them over the translation cef75886882cbb92… (all of the seat's roots in one cut). By AI agents, Wed Nov 11 2026. No macro, syntax, notation, axiom, sorry.
-/
import Derived.Test.YtkomdimalgnamaaGreatChecked
import GoSem.Claim
import GoSem.ClaimJoined
import GoSem.ClaimMapViews
import Derived.JoinedTies
import Derived.KernelRfl
namespace Go.Proofs.YtkomdimalgnamaaGreat
/- THE CELL 'sum', in the pinned program and in every row, IS THE sha256 OF THE DUMP (.gsa) THAT YtkomdimalgnamaaGreatProg.lean LOADS. Nothing in Lean hashes anything: it is a label: what it is worth is what the hold of that sum in a sandbox is worth. -/
noncomputable def Tryz.pinned : Pinned := { name := "ytkomdimalgnamaagreat", sum := "cef75886882cbb923048d936cf29d338ea0986f1673846c529a005e5b64858f4", checked := Tryz.checked }
namespace Rows
def none {H : Type} : Left H := { results := [], args := [] }

/-- 'quincunxlaw12.SpanTells': WHATEVER THE INPUT: true; the input reads as it did. -/
def spanTellsSpec : ChangeSpec := { name := "spanTells", fn := fun _ => fun
  | [d1, d2, d3] => { results := [.lit (.bool true)], args := [d1, d2, d3] }
  | _ => none }
def spanTellsRow : OpenClaim := { program := "ytkomdimalgnamaagreat", sum := "cef75886882cbb923048d936cf29d338ea0986f1673846c529a005e5b64858f4", func := "quincunx/quincunxlaw12.SpanTells", spec := "spanTells", unfollowed := true, recurses := true, apart := false }
def SpanTellsSaid : Prop := spanTellsRow.holds Tryz.pinned (OpenSpec.ofChange spanTellsSpec)

/-- ITS FALSE NEIGHBOUR: 'it returns false'. Refute it at one input. -/
def spanTellsWrong : ChangeSpec := { name := "spanTells", fn := fun _ => fun
  | [d1, d2, d3] => { results := [.lit (.bool false)], args := [d1, d2, d3] }
  | _ => none }
def SpanTellsWrongFalsely : Prop := spanTellsRow.holds Tryz.pinned (OpenSpec.ofChange spanTellsWrong)

/-- 'quincunxlaw12.SpanWhole': WHATEVER THE INPUT: true; the input reads as it did. -/
def spanWholeSpec : ChangeSpec := { name := "spanWhole", fn := fun _ => fun
  | [d1, d2, d3] => { results := [.lit (.bool true)], args := [d1, d2, d3] }
  | _ => none }
def spanWholeRow : OpenClaim := { program := "ytkomdimalgnamaagreat", sum := "cef75886882cbb923048d936cf29d338ea0986f1673846c529a005e5b64858f4", func := "quincunx/quincunxlaw12.SpanWhole", spec := "spanWhole", unfollowed := true, recurses := true, apart := false }
def SpanWholeSaid : Prop := spanWholeRow.holds Tryz.pinned (OpenSpec.ofChange spanWholeSpec)

/-- ITS FALSE NEIGHBOUR: 'it returns false'. Refute it at one input. -/
def spanWholeWrong : ChangeSpec := { name := "spanWhole", fn := fun _ => fun
  | [d1, d2, d3] => { results := [.lit (.bool false)], args := [d1, d2, d3] }
  | _ => none }
def SpanWholeWrongFalsely : Prop := spanWholeRow.holds Tryz.pinned (OpenSpec.ofChange spanWholeWrong)

/-- 'quincunxlaw12.SpanMakes': WHATEVER THE INPUT: true; the input reads as it did. -/
def spanMakesSpec : ChangeSpec := { name := "spanMakes", fn := fun _ => fun
  | [d1, d2, d3, d4] => { results := [.lit (.bool true)], args := [d1, d2, d3, d4] }
  | _ => none }
def spanMakesRow : OpenClaim := { program := "ytkomdimalgnamaagreat", sum := "cef75886882cbb923048d936cf29d338ea0986f1673846c529a005e5b64858f4", func := "quincunx/quincunxlaw12.SpanMakes", spec := "spanMakes", unfollowed := true, recurses := true, apart := false }
def SpanMakesSaid : Prop := spanMakesRow.holds Tryz.pinned (OpenSpec.ofChange spanMakesSpec)

/-- ITS FALSE NEIGHBOUR: 'it returns false'. Refute it at one input. -/
def spanMakesWrong : ChangeSpec := { name := "spanMakes", fn := fun _ => fun
  | [d1, d2, d3, d4] => { results := [.lit (.bool false)], args := [d1, d2, d3, d4] }
  | _ => none }
def SpanMakesWrongFalsely : Prop := spanMakesRow.holds Tryz.pinned (OpenSpec.ofChange spanMakesWrong)

/-- 'quincunxlaw12.SpanClasses': WHATEVER THE INPUT: true; the input reads as it did. -/
def spanClassesSpec : ChangeSpec := { name := "spanClasses", fn := fun _ => fun
  | [d1, d2, d3, d4] => { results := [.lit (.bool true)], args := [d1, d2, d3, d4] }
  | _ => none }
def spanClassesRow : OpenClaim := { program := "ytkomdimalgnamaagreat", sum := "cef75886882cbb923048d936cf29d338ea0986f1673846c529a005e5b64858f4", func := "quincunx/quincunxlaw12.SpanClasses", spec := "spanClasses", unfollowed := true, recurses := true, apart := false }
def SpanClassesSaid : Prop := spanClassesRow.holds Tryz.pinned (OpenSpec.ofChange spanClassesSpec)

/-- ITS FALSE NEIGHBOUR: 'it returns false'. Refute it at one input. -/
def spanClassesWrong : ChangeSpec := { name := "spanClasses", fn := fun _ => fun
  | [d1, d2, d3, d4] => { results := [.lit (.bool false)], args := [d1, d2, d3, d4] }
  | _ => none }
def SpanClassesWrongFalsely : Prop := spanClassesRow.holds Tryz.pinned (OpenSpec.ofChange spanClassesWrong)

/-- 'quincunxlaw12.SpanFull': WHATEVER THE INPUT: true; the input reads as it did. -/
def spanFullSpec : ChangeSpec := { name := "spanFull", fn := fun _ => fun
  | [d1, d2, d3] => { results := [.lit (.bool true)], args := [d1, d2, d3] }
  | _ => none }
def spanFullRow : OpenClaim := { program := "ytkomdimalgnamaagreat", sum := "cef75886882cbb923048d936cf29d338ea0986f1673846c529a005e5b64858f4", func := "quincunx/quincunxlaw12.SpanFull", spec := "spanFull", unfollowed := true, recurses := true, apart := false }
def SpanFullSaid : Prop := spanFullRow.holds Tryz.pinned (OpenSpec.ofChange spanFullSpec)

/-- ITS FALSE NEIGHBOUR: 'it returns false'. Refute it at one input. -/
def spanFullWrong : ChangeSpec := { name := "spanFull", fn := fun _ => fun
  | [d1, d2, d3] => { results := [.lit (.bool false)], args := [d1, d2, d3] }
  | _ => none }
def SpanFullWrongFalsely : Prop := spanFullRow.holds Tryz.pinned (OpenSpec.ofChange spanFullWrong)

/- THE SECOND FORM. 'bulk': how many values and letters a reading holds, each counted each time it is reached (what is shared counts as often as it is met; a slice's spare places count too). A statement '..UptoSaid' is the law's where the arguments, and the package variables that the reading takes, are together of bulk at most 1048576: NARROWER than '..Said'. Prove '..Said' where nothing that the law and all that it calls make is longer than what came in: it says more and counts as full. Else prove '..UptoSaid'. A law counts once. -/
mutual
def uptoBulk {H : Type} : DataW H → Nat
  | .lit (.string bytes) => bytes.length + 1
  | .lit _ => 1
  | .nil => 1
  | .ptr d => uptoBulk d + 1
  | .slice elems spare => uptoBulkAll elems + uptoBulkAll spare + 1
  | .agg parts => uptoBulkAll parts + 1
  | .iface _ d => uptoBulk d + 1
  | .map entries => uptoBulkEntries entries + 1
  | .held _ => 1
def uptoBulkAll {H : Type} : List (DataW H) → Nat
  | [] => 0
  | d :: r => uptoBulk d + uptoBulkAll r
def uptoBulkEntries {H : Type} : List (Lit × DataW H) → Nat
  | [] => 0
  | x :: r => uptoBulkEntry x + uptoBulkEntries r
def uptoBulkEntry {H : Type} : Lit × DataW H → Nat
  | (.string bytes, d) => bytes.length + uptoBulk d + 1
  | (_, d) => uptoBulk d + 1
 end
def uptoSmall : (H : Type) → List (DataW H) → Bool := fun _ ds => decide (uptoBulkAll ds ≤ 1048576)
def OpenSpec.upto (s : _root_.Go.ChangeSpec) : _root_.Go.OpenSpec := { _root_.Go.OpenSpec.ofChange s with cond := some uptoSmall }

/-- 'quincunxlaw12.SpanTells', WHERE WHAT IT READS IS OF BULK AT MOST 1048576: true; the input reads as it did. -/
def spanTellsUptoRow : OpenClaim := { program := "ytkomdimalgnamaagreat", sum := "cef75886882cbb923048d936cf29d338ea0986f1673846c529a005e5b64858f4", func := "quincunx/quincunxlaw12.SpanTells", spec := "spanTells", unfollowed := true, recurses := true, apart := false, narrowed := true }
def SpanTellsUptoSaid : Prop := spanTellsUptoRow.holds Tryz.pinned (OpenSpec.upto spanTellsSpec)

/-- 'quincunxlaw12.SpanWhole', WHERE WHAT IT READS IS OF BULK AT MOST 1048576: true; the input reads as it did. -/
def spanWholeUptoRow : OpenClaim := { program := "ytkomdimalgnamaagreat", sum := "cef75886882cbb923048d936cf29d338ea0986f1673846c529a005e5b64858f4", func := "quincunx/quincunxlaw12.SpanWhole", spec := "spanWhole", unfollowed := true, recurses := true, apart := false, narrowed := true }
def SpanWholeUptoSaid : Prop := spanWholeUptoRow.holds Tryz.pinned (OpenSpec.upto spanWholeSpec)

/-- 'quincunxlaw12.SpanMakes', WHERE WHAT IT READS IS OF BULK AT MOST 1048576: true; the input reads as it did. -/
def spanMakesUptoRow : OpenClaim := { program := "ytkomdimalgnamaagreat", sum := "cef75886882cbb923048d936cf29d338ea0986f1673846c529a005e5b64858f4", func := "quincunx/quincunxlaw12.SpanMakes", spec := "spanMakes", unfollowed := true, recurses := true, apart := false, narrowed := true }
def SpanMakesUptoSaid : Prop := spanMakesUptoRow.holds Tryz.pinned (OpenSpec.upto spanMakesSpec)

/-- 'quincunxlaw12.SpanClasses', WHERE WHAT IT READS IS OF BULK AT MOST 1048576: true; the input reads as it did. -/
def spanClassesUptoRow : OpenClaim := { program := "ytkomdimalgnamaagreat", sum := "cef75886882cbb923048d936cf29d338ea0986f1673846c529a005e5b64858f4", func := "quincunx/quincunxlaw12.SpanClasses", spec := "spanClasses", unfollowed := true, recurses := true, apart := false, narrowed := true }
def SpanClassesUptoSaid : Prop := spanClassesUptoRow.holds Tryz.pinned (OpenSpec.upto spanClassesSpec)

/-- 'quincunxlaw12.SpanFull', WHERE WHAT IT READS IS OF BULK AT MOST 1048576: true; the input reads as it did. -/
def spanFullUptoRow : OpenClaim := { program := "ytkomdimalgnamaagreat", sum := "cef75886882cbb923048d936cf29d338ea0986f1673846c529a005e5b64858f4", func := "quincunx/quincunxlaw12.SpanFull", spec := "spanFull", unfollowed := true, recurses := true, apart := false, narrowed := true }
def SpanFullUptoSaid : Prop := spanFullUptoRow.holds Tryz.pinned (OpenSpec.upto spanFullSpec)

end Rows
end Go.Proofs.YtkomdimalgnamaaGreat
