/-
 What Lcm of package bezout tells (IN PARTS).
-/
import Derived.Test.YtnpneloahajniaaJE
import Derived.Deep.CutRange
namespace Go.Proofs.Ytnpneloahajniaa
open Go.RowKit Lb
set_option maxRecDepth 20000

end Go.Proofs.Ytnpneloahajniaa
