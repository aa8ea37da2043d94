/-
 What Lcm of package bezout tells (IN PARTS).
-/
import Derived.Test.YtnpneloahajniaaGreatJE
import Derived.Deep.CutRange
namespace Go.Proofs.YtnpneloahajniaaGreat
open Go.RowKit Lb
set_option maxRecDepth 20000

end Go.Proofs.YtnpneloahajniaaGreat
