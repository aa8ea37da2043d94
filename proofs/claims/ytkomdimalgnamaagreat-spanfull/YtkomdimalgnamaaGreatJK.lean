/-
 What rows.Sort tells: the rows sorted, of the same ones the first (IN PARTS).
-/
import Derived.Test.YtkomdimalgnamaaGreatJI
import Derived.Deep.CutRange
namespace Go.Proofs.YtkomdimalgnamaaGreat
open Go.RowKit Lb
set_option maxRecDepth 20000

end Go.Proofs.YtkomdimalgnamaaGreat
