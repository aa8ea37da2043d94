/-
  No cell of these rows narrows 'for every input' (looked for: loops, veiled, ifaces, maps, wideKeys, modest, calm, conditions, laid).
  DERIVED. THE GIVEN ROWS OF THIS SEAT. 6 by the template 'for every input the law returns true; each argument reads behind the call as it read before'; 0 by the template 'total and deterministic' (their statements: YtgppplhbhgfmkaaTotals.lean).
  GIVEN WITH THE SEED: the statements are not yours to turn. If you find one false, say at which input.
  Laid BY PROGRAM, IN A SANDBOX (cutbox-rows.mjs): the forced cells as the released guide's own fill.sh prints them over the translation b31531037e9e3876… (all of the seat's roots in one cut). By AI agents, Wed Nov 11 2026. No macro, syntax, notation, axiom, sorry.
-/
import Derived.Test.YtgppplhbhgfmkaaChecked
import GoSem.Claim
import GoSem.ClaimJoined
import GoSem.ClaimMapViews
import Derived.JoinedTies
import Derived.KernelRfl
namespace Go.Proofs.Ytgppplhbhgfmkaa
/- THE CELL 'sum', in the pinned program and in every row, IS THE sha256 OF THE DUMP (.gsa) THAT YtgppplhbhgfmkaaProg.lean LOADS. Nothing in Lean hashes anything: it is a label: what it is worth is what the hold of that sum in a sandbox is worth. -/
noncomputable def Try.pinned : Pinned := { name := "ytgppplhbhgfmkaa", sum := "b31531037e9e3876141cbe83b75ec2c362b8bd4d69434baf15ad065cbe00e594", checked := Try.checked }
namespace Rows
def none {H : Type} : Left H := { results := [], args := [] }

/-- 'quincunxlaw8.ShadeSigns': WHATEVER THE INPUT: true; the input reads as it did. -/
def shadeSignsSpec : ChangeSpec := { name := "shadeSigns", fn := fun _ => fun
  | [d] => { results := [.lit (.bool true)], args := [d] }
  | _ => none }
def shadeSignsRow : OpenClaim := { program := "ytgppplhbhgfmkaa", sum := "b31531037e9e3876141cbe83b75ec2c362b8bd4d69434baf15ad065cbe00e594", func := "quincunx/quincunxlaw8.ShadeSigns", spec := "shadeSigns", apart := false }
def ShadeSignsSaid : Prop := shadeSignsRow.holds Try.pinned (OpenSpec.ofChange shadeSignsSpec)

/-- ITS FALSE NEIGHBOUR: 'it returns false'. Refute it at one input. -/
def shadeSignsWrong : ChangeSpec := { name := "shadeSigns", fn := fun _ => fun
  | [d] => { results := [.lit (.bool false)], args := [d] }
  | _ => none }
def ShadeSignsWrongFalsely : Prop := shadeSignsRow.holds Try.pinned (OpenSpec.ofChange shadeSignsWrong)

/-- 'quincunxlaw8.ShadeTells': WHATEVER THE INPUT: true; the input reads as it did. -/
def shadeTellsSpec : ChangeSpec := { name := "shadeTells", fn := fun _ => fun
  | [d1, d2] => { results := [.lit (.bool true)], args := [d1, d2] }
  | _ => none }
def shadeTellsRow : OpenClaim := { program := "ytgppplhbhgfmkaa", sum := "b31531037e9e3876141cbe83b75ec2c362b8bd4d69434baf15ad065cbe00e594", func := "quincunx/quincunxlaw8.ShadeTells", spec := "shadeTells", apart := false }
def ShadeTellsSaid : Prop := shadeTellsRow.holds Try.pinned (OpenSpec.ofChange shadeTellsSpec)

/-- ITS FALSE NEIGHBOUR: 'it returns false'. Refute it at one input. -/
def shadeTellsWrong : ChangeSpec := { name := "shadeTells", fn := fun _ => fun
  | [d1, d2] => { results := [.lit (.bool false)], args := [d1, d2] }
  | _ => none }
def ShadeTellsWrongFalsely : Prop := shadeTellsRow.holds Try.pinned (OpenSpec.ofChange shadeTellsWrong)

/-- 'quincunxlaw8.ShadeOrder': WHATEVER THE INPUT: true; the input reads as it did. -/
def shadeOrderSpec : ChangeSpec := { name := "shadeOrder", fn := fun _ => fun
  | [d1, d2, d3] => { results := [.lit (.bool true)], args := [d1, d2, d3] }
  | _ => none }
def shadeOrderRow : OpenClaim := { program := "ytgppplhbhgfmkaa", sum := "b31531037e9e3876141cbe83b75ec2c362b8bd4d69434baf15ad065cbe00e594", func := "quincunx/quincunxlaw8.ShadeOrder", spec := "shadeOrder", apart := false }
def ShadeOrderSaid : Prop := shadeOrderRow.holds Try.pinned (OpenSpec.ofChange shadeOrderSpec)

/-- ITS FALSE NEIGHBOUR: 'it returns false'. Refute it at one input. -/
def shadeOrderWrong : ChangeSpec := { name := "shadeOrder", fn := fun _ => fun
  | [d1, d2, d3] => { results := [.lit (.bool false)], args := [d1, d2, d3] }
  | _ => none }
def ShadeOrderWrongFalsely : Prop := shadeOrderRow.holds Try.pinned (OpenSpec.ofChange shadeOrderWrong)

/-- 'quincunxlaw8.ShadeLeft': WHATEVER THE INPUT: true; the input reads as it did. -/
def shadeLeftSpec : ChangeSpec := { name := "shadeLeft", fn := fun _ => fun
  | [d1, d2] => { results := [.lit (.bool true)], args := [d1, d2] }
  | _ => none }
def shadeLeftRow : OpenClaim := { program := "ytgppplhbhgfmkaa", sum := "b31531037e9e3876141cbe83b75ec2c362b8bd4d69434baf15ad065cbe00e594", func := "quincunx/quincunxlaw8.ShadeLeft", spec := "shadeLeft", apart := false }
def ShadeLeftSaid : Prop := shadeLeftRow.holds Try.pinned (OpenSpec.ofChange shadeLeftSpec)

/-- ITS FALSE NEIGHBOUR: 'it returns false'. Refute it at one input. -/
def shadeLeftWrong : ChangeSpec := { name := "shadeLeft", fn := fun _ => fun
  | [d1, d2] => { results := [.lit (.bool false)], args := [d1, d2] }
  | _ => none }
def ShadeLeftWrongFalsely : Prop := shadeLeftRow.holds Try.pinned (OpenSpec.ofChange shadeLeftWrong)

/-- 'quincunxlaw8.ShadeParts': WHATEVER THE INPUT: true; the input reads as it did. -/
def shadePartsSpec : ChangeSpec := { name := "shadeParts", fn := fun _ => fun
  | [d] => { results := [.lit (.bool true)], args := [d] }
  | _ => none }
def shadePartsRow : OpenClaim := { program := "ytgppplhbhgfmkaa", sum := "b31531037e9e3876141cbe83b75ec2c362b8bd4d69434baf15ad065cbe00e594", func := "quincunx/quincunxlaw8.ShadeParts", spec := "shadeParts", apart := false }
def ShadePartsSaid : Prop := shadePartsRow.holds Try.pinned (OpenSpec.ofChange shadePartsSpec)

/-- ITS FALSE NEIGHBOUR: 'it returns false'. Refute it at one input. -/
def shadePartsWrong : ChangeSpec := { name := "shadeParts", fn := fun _ => fun
  | [d] => { results := [.lit (.bool false)], args := [d] }
  | _ => none }
def ShadePartsWrongFalsely : Prop := shadePartsRow.holds Try.pinned (OpenSpec.ofChange shadePartsWrong)

/-- 'quincunxlaw8.ShadeFits': WHATEVER THE INPUT: true; the input reads as it did. -/
def shadeFitsSpec : ChangeSpec := { name := "shadeFits", fn := fun _ => fun
  | [d1, d2, d3] => { results := [.lit (.bool true)], args := [d1, d2, d3] }
  | _ => none }
def shadeFitsRow : OpenClaim := { program := "ytgppplhbhgfmkaa", sum := "b31531037e9e3876141cbe83b75ec2c362b8bd4d69434baf15ad065cbe00e594", func := "quincunx/quincunxlaw8.ShadeFits", spec := "shadeFits", apart := false }
def ShadeFitsSaid : Prop := shadeFitsRow.holds Try.pinned (OpenSpec.ofChange shadeFitsSpec)

/-- ITS FALSE NEIGHBOUR: 'it returns false'. Refute it at one input. -/
def shadeFitsWrong : ChangeSpec := { name := "shadeFits", fn := fun _ => fun
  | [d1, d2, d3] => { results := [.lit (.bool false)], args := [d1, d2, d3] }
  | _ => none }
def ShadeFitsWrongFalsely : Prop := shadeFitsRow.holds Try.pinned (OpenSpec.ofChange shadeFitsWrong)

/- THE SECOND FORM. 'bulk': how many values and letters a reading holds, each counted each time it is reached (what is shared counts as often as it is met; a slice's spare places count too). A statement '..UptoSaid' is the law's where the arguments, and the package variables that the reading takes, are together of bulk at most 1048576: NARROWER than '..Said'. Prove '..Said' where nothing that the law and all that it calls make is longer than what came in: it says more and counts as full. Else prove '..UptoSaid'. A law counts once. -/
mutual
def uptoBulk {H : Type} : DataW H → Nat
  | .lit (.string bytes) => bytes.length + 1
  | .lit _ => 1
  | .nil => 1
  | .ptr d => uptoBulk d + 1
  | .slice elems spare => uptoBulkAll elems + uptoBulkAll spare + 1
  | .agg parts => uptoBulkAll parts + 1
  | .iface _ d => uptoBulk d + 1
  | .map entries => uptoBulkEntries entries + 1
  | .held _ => 1
def uptoBulkAll {H : Type} : List (DataW H) → Nat
  | [] => 0
  | d :: r => uptoBulk d + uptoBulkAll r
def uptoBulkEntries {H : Type} : List (Lit × DataW H) → Nat
  | [] => 0
  | x :: r => uptoBulkEntry x + uptoBulkEntries r
def uptoBulkEntry {H : Type} : Lit × DataW H → Nat
  | (.string bytes, d) => bytes.length + uptoBulk d + 1
  | (_, d) => uptoBulk d + 1
 end
def uptoSmall : (H : Type) → List (DataW H) → Bool := fun _ ds => decide (uptoBulkAll ds ≤ 1048576)
def OpenSpec.upto (s : _root_.Go.ChangeSpec) : _root_.Go.OpenSpec := { _root_.Go.OpenSpec.ofChange s with cond := some uptoSmall }

/-- 'quincunxlaw8.ShadeSigns', WHERE WHAT IT READS IS OF BULK AT MOST 1048576: true; the input reads as it did. -/
def shadeSignsUptoRow : OpenClaim := { program := "ytgppplhbhgfmkaa", sum := "b31531037e9e3876141cbe83b75ec2c362b8bd4d69434baf15ad065cbe00e594", func := "quincunx/quincunxlaw8.ShadeSigns", spec := "shadeSigns", apart := false, narrowed := true }
def ShadeSignsUptoSaid : Prop := shadeSignsUptoRow.holds Try.pinned (OpenSpec.upto shadeSignsSpec)

/-- 'quincunxlaw8.ShadeTells', WHERE WHAT IT READS IS OF BULK AT MOST 1048576: true; the input reads as it did. -/
def shadeTellsUptoRow : OpenClaim := { program := "ytgppplhbhgfmkaa", sum := "b31531037e9e3876141cbe83b75ec2c362b8bd4d69434baf15ad065cbe00e594", func := "quincunx/quincunxlaw8.ShadeTells", spec := "shadeTells", apart := false, narrowed := true }
def ShadeTellsUptoSaid : Prop := shadeTellsUptoRow.holds Try.pinned (OpenSpec.upto shadeTellsSpec)

/-- 'quincunxlaw8.ShadeOrder', WHERE WHAT IT READS IS OF BULK AT MOST 1048576: true; the input reads as it did. -/
def shadeOrderUptoRow : OpenClaim := { program := "ytgppplhbhgfmkaa", sum := "b31531037e9e3876141cbe83b75ec2c362b8bd4d69434baf15ad065cbe00e594", func := "quincunx/quincunxlaw8.ShadeOrder", spec := "shadeOrder", apart := false, narrowed := true }
def ShadeOrderUptoSaid : Prop := shadeOrderUptoRow.holds Try.pinned (OpenSpec.upto shadeOrderSpec)

/-- 'quincunxlaw8.ShadeLeft', WHERE WHAT IT READS IS OF BULK AT MOST 1048576: true; the input reads as it did. -/
def shadeLeftUptoRow : OpenClaim := { program := "ytgppplhbhgfmkaa", sum := "b31531037e9e3876141cbe83b75ec2c362b8bd4d69434baf15ad065cbe00e594", func := "quincunx/quincunxlaw8.ShadeLeft", spec := "shadeLeft", apart := false, narrowed := true }
def ShadeLeftUptoSaid : Prop := shadeLeftUptoRow.holds Try.pinned (OpenSpec.upto shadeLeftSpec)

/-- 'quincunxlaw8.ShadeParts', WHERE WHAT IT READS IS OF BULK AT MOST 1048576: true; the input reads as it did. -/
def shadePartsUptoRow : OpenClaim := { program := "ytgppplhbhgfmkaa", sum := "b31531037e9e3876141cbe83b75ec2c362b8bd4d69434baf15ad065cbe00e594", func := "quincunx/quincunxlaw8.ShadeParts", spec := "shadeParts", apart := false, narrowed := true }
def ShadePartsUptoSaid : Prop := shadePartsUptoRow.holds Try.pinned (OpenSpec.upto shadePartsSpec)

/-- 'quincunxlaw8.ShadeFits', WHERE WHAT IT READS IS OF BULK AT MOST 1048576: true; the input reads as it did. -/
def shadeFitsUptoRow : OpenClaim := { program := "ytgppplhbhgfmkaa", sum := "b31531037e9e3876141cbe83b75ec2c362b8bd4d69434baf15ad065cbe00e594", func := "quincunx/quincunxlaw8.ShadeFits", spec := "shadeFits", apart := false, narrowed := true }
def ShadeFitsUptoSaid : Prop := shadeFitsUptoRow.holds Try.pinned (OpenSpec.upto shadeFitsSpec)

end Rows
end Go.Proofs.Ytgppplhbhgfmkaa
