/-
 What Lcm of package bezout tells (IN PARTS).
-/
import Derived.Test.YtkomdimalgnamaaGreatJE
import Derived.Deep.CutRange
namespace Go.Proofs.YtkomdimalgnamaaGreat
open Go.RowKit Lb
set_option maxRecDepth 20000

end Go.Proofs.YtkomdimalgnamaaGreat
