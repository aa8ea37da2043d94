/-
  What quot.Near tells (IN PARTS).
-/
import Derived.Test.YtnaajmanpoobfaaGreatJE
import Derived.Test.YtnaajmanpoobfaaGreatQDiv
import Derived.Deep.CutRange
namespace Go.Proofs.YtnaajmanpoobfaaGreat
open Go.RowKit Lb
set_option maxRecDepth 20000

end Go.Proofs.YtnaajmanpoobfaaGreat
