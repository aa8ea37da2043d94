/-
  What the reference's Add and Sub tell, and that they tell it in memory of their own.
-/
import Derived.Test.YtnaajmanpoobfaaGreatJF
import Derived.Test.YtnaajmanpoobfaaGreatJE
namespace Go.Proofs.YtnaajmanpoobfaaGreat
open Go.RowKit Lb
set_option maxRecDepth 20000

end Go.Proofs.YtnaajmanpoobfaaGreat
