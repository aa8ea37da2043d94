/-
 What the reference's Add and Sub tell, and that they tell it in memory of their own.
-/
import Derived.Test.YtnpneloahajniaaGreatJF
import Derived.Test.YtnpneloahajniaaGreatJE
namespace Go.Proofs.YtnpneloahajniaaGreat
open Go.RowKit Lb
set_option maxRecDepth 20000

end Go.Proofs.YtnpneloahajniaaGreat
