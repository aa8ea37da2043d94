/-
  No cell of these rows narrows 'for every input' (looked for: loops, veiled, ifaces, maps, wideKeys, modest, calm, conditions, laid).
  DERIVED. THE GIVEN ROWS OF THIS SEAT. 3 by the template 'for every input the law returns true; each argument reads behind the call as it read before'; 0 by the template 'total and deterministic' (their statements: YtnaajmanpoobfaaGreatTotals.lean).
  GIVEN WITH THE SEED: the statements are not yours to turn. If you find one false, say at which input.
  Laid BY PROGRAM, IN A SANDBOX (cutbox-rows.mjs): the forced cells as the released guide's own fill.sh prints them over the translation 691a4919657589cb… (all of the seat's roots in one cut). By AI agents, Wed Nov 11 2026. No macro, syntax, notation, axiom, sorry.
-/
import Derived.Test.YtnaajmanpoobfaaGreatChecked
import GoSem.Claim
import GoSem.ClaimJoined
import GoSem.ClaimMapViews
import Derived.JoinedTies
import Derived.KernelRfl
namespace Go.Proofs.YtnaajmanpoobfaaGreat
/- THE CELL 'sum', in the pinned program and in every row, IS THE sha256 OF THE DUMP (.gsa) THAT YtnaajmanpoobfaaGreatProg.lean LOADS. Nothing in Lean hashes anything: it is a label: what it is worth is what the hold of that sum in a sandbox is worth. -/
noncomputable def Tryz.pinned : Pinned := { name := "ytnaajmanpoobfaagreat", sum := "691a4919657589cb889d6c8e8ee1fe9b020e257fa379e83c1924491f200de6df", checked := Tryz.checked }
namespace Rows
def none {H : Type} : Left H := { results := [], args := [] }

/-- 'quincunxlaw10.HnfForms': WHATEVER THE INPUT: true; the input reads as it did. -/
def hnfFormsSpec : ChangeSpec := { name := "hnfForms", fn := fun _ => fun
  | [d1, d2] => { results := [.lit (.bool true)], args := [d1, d2] }
  | _ => none }
def hnfFormsRow : OpenClaim := { program := "ytnaajmanpoobfaagreat", sum := "691a4919657589cb889d6c8e8ee1fe9b020e257fa379e83c1924491f200de6df", func := "quincunx/quincunxlaw10.HnfForms", spec := "hnfForms", unfollowed := true, recurses := true, apart := false }
def HnfFormsSaid : Prop := hnfFormsRow.holds Tryz.pinned (OpenSpec.ofChange hnfFormsSpec)

/-- ITS FALSE NEIGHBOUR: 'it returns false'. Refute it at one input. -/
def hnfFormsWrong : ChangeSpec := { name := "hnfForms", fn := fun _ => fun
  | [d1, d2] => { results := [.lit (.bool false)], args := [d1, d2] }
  | _ => none }
def HnfFormsWrongFalsely : Prop := hnfFormsRow.holds Tryz.pinned (OpenSpec.ofChange hnfFormsWrong)

/-- 'quincunxlaw10.HnfTurned': WHATEVER THE INPUT: true; the input reads as it did. -/
def hnfTurnedSpec : ChangeSpec := { name := "hnfTurned", fn := fun _ => fun
  | [d1, d2] => { results := [.lit (.bool true)], args := [d1, d2] }
  | _ => none }
def hnfTurnedRow : OpenClaim := { program := "ytnaajmanpoobfaagreat", sum := "691a4919657589cb889d6c8e8ee1fe9b020e257fa379e83c1924491f200de6df", func := "quincunx/quincunxlaw10.HnfTurned", spec := "hnfTurned", unfollowed := true, recurses := true, apart := false }
def HnfTurnedSaid : Prop := hnfTurnedRow.holds Tryz.pinned (OpenSpec.ofChange hnfTurnedSpec)

/-- ITS FALSE NEIGHBOUR: 'it returns false'. Refute it at one input. -/
def hnfTurnedWrong : ChangeSpec := { name := "hnfTurned", fn := fun _ => fun
  | [d1, d2] => { results := [.lit (.bool false)], args := [d1, d2] }
  | _ => none }
def HnfTurnedWrongFalsely : Prop := hnfTurnedRow.holds Tryz.pinned (OpenSpec.ofChange hnfTurnedWrong)

/-- 'quincunxlaw10.HnfHolds': WHATEVER THE INPUT: true; the input reads as it did. -/
def hnfHoldsSpec : ChangeSpec := { name := "hnfHolds", fn := fun _ => fun
  | [d1, d2] => { results := [.lit (.bool true)], args := [d1, d2] }
  | _ => none }
def hnfHoldsRow : OpenClaim := { program := "ytnaajmanpoobfaagreat", sum := "691a4919657589cb889d6c8e8ee1fe9b020e257fa379e83c1924491f200de6df", func := "quincunx/quincunxlaw10.HnfHolds", spec := "hnfHolds", unfollowed := true, recurses := true, apart := false }
def HnfHoldsSaid : Prop := hnfHoldsRow.holds Tryz.pinned (OpenSpec.ofChange hnfHoldsSpec)

/-- ITS FALSE NEIGHBOUR: 'it returns false'. Refute it at one input. -/
def hnfHoldsWrong : ChangeSpec := { name := "hnfHolds", fn := fun _ => fun
  | [d1, d2] => { results := [.lit (.bool false)], args := [d1, d2] }
  | _ => none }
def HnfHoldsWrongFalsely : Prop := hnfHoldsRow.holds Tryz.pinned (OpenSpec.ofChange hnfHoldsWrong)

/- THE SECOND FORM. 'bulk': how many values and letters a reading holds, each counted each time it is reached (what is shared counts as often as it is met; a slice's spare places count too). A statement '..UptoSaid' is the law's where the arguments, and the package variables that the reading takes, are together of bulk at most 1048576: NARROWER than '..Said'. Prove '..Said' where nothing that the law and all that it calls make is longer than what came in: it says more and counts as full. Else prove '..UptoSaid'. A law counts once. -/
mutual
def uptoBulk {H : Type} : DataW H → Nat
  | .lit (.string bytes) => bytes.length + 1
  | .lit _ => 1
  | .nil => 1
  | .ptr d => uptoBulk d + 1
  | .slice elems spare => uptoBulkAll elems + uptoBulkAll spare + 1
  | .agg parts => uptoBulkAll parts + 1
  | .iface _ d => uptoBulk d + 1
  | .map entries => uptoBulkEntries entries + 1
  | .held _ => 1
def uptoBulkAll {H : Type} : List (DataW H) → Nat
  | [] => 0
  | d :: r => uptoBulk d + uptoBulkAll r
def uptoBulkEntries {H : Type} : List (Lit × DataW H) → Nat
  | [] => 0
  | x :: r => uptoBulkEntry x + uptoBulkEntries r
def uptoBulkEntry {H : Type} : Lit × DataW H → Nat
  | (.string bytes, d) => bytes.length + uptoBulk d + 1
  | (_, d) => uptoBulk d + 1
 end
def uptoSmall : (H : Type) → List (DataW H) → Bool := fun _ ds => decide (uptoBulkAll ds ≤ 1048576)
def OpenSpec.upto (s : _root_.Go.ChangeSpec) : _root_.Go.OpenSpec := { _root_.Go.OpenSpec.ofChange s with cond := some uptoSmall }

/-- 'quincunxlaw10.HnfForms', WHERE WHAT IT READS IS OF BULK AT MOST 1048576: true; the input reads as it did. -/
def hnfFormsUptoRow : OpenClaim := { program := "ytnaajmanpoobfaagreat", sum := "691a4919657589cb889d6c8e8ee1fe9b020e257fa379e83c1924491f200de6df", func := "quincunx/quincunxlaw10.HnfForms", spec := "hnfForms", unfollowed := true, recurses := true, apart := false, narrowed := true }
def HnfFormsUptoSaid : Prop := hnfFormsUptoRow.holds Tryz.pinned (OpenSpec.upto hnfFormsSpec)

/-- 'quincunxlaw10.HnfTurned', WHERE WHAT IT READS IS OF BULK AT MOST 1048576: true; the input reads as it did. -/
def hnfTurnedUptoRow : OpenClaim := { program := "ytnaajmanpoobfaagreat", sum := "691a4919657589cb889d6c8e8ee1fe9b020e257fa379e83c1924491f200de6df", func := "quincunx/quincunxlaw10.HnfTurned", spec := "hnfTurned", unfollowed := true, recurses := true, apart := false, narrowed := true }
def HnfTurnedUptoSaid : Prop := hnfTurnedUptoRow.holds Tryz.pinned (OpenSpec.upto hnfTurnedSpec)

/-- 'quincunxlaw10.HnfHolds', WHERE WHAT IT READS IS OF BULK AT MOST 1048576: true; the input reads as it did. -/
def hnfHoldsUptoRow : OpenClaim := { program := "ytnaajmanpoobfaagreat", sum := "691a4919657589cb889d6c8e8ee1fe9b020e257fa379e83c1924491f200de6df", func := "quincunx/quincunxlaw10.HnfHolds", spec := "hnfHolds", unfollowed := true, recurses := true, apart := false, narrowed := true }
def HnfHoldsUptoSaid : Prop := hnfHoldsUptoRow.holds Tryz.pinned (OpenSpec.upto hnfHoldsSpec)

end Rows
end Go.Proofs.YtnaajmanpoobfaaGreat
