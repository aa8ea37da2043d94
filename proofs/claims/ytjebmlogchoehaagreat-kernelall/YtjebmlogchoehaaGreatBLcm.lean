/-
 What Lcm of package bezout tells (IN PARTS).
-/
import Derived.Test.YtjebmlogchoehaaGreatJE
import Derived.Deep.CutRange
namespace Go.Proofs.YtjebmlogchoehaaGreat
open Go.RowKit Lb
set_option maxRecDepth 20000

end Go.Proofs.YtjebmlogchoehaaGreat
