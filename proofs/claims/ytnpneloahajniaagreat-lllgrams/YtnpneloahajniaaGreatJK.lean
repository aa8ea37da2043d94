/-
 What rows.Sort tells: the rows sorted, of the same ones the first (IN PARTS).
-/
import Derived.Test.YtnpneloahajniaaGreatJI
import Derived.Deep.CutRange
namespace Go.Proofs.YtnpneloahajniaaGreat
open Go.RowKit Lb
set_option maxRecDepth 20000

end Go.Proofs.YtnpneloahajniaaGreat
