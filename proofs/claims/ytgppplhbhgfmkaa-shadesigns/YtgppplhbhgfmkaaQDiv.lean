/-
  What quot.Div tells (IN PARTS).
-/
import Derived.Test.YtgppplhbhgfmkaaJE
namespace Go.Proofs.Ytgppplhbhgfmkaa
open Go.RowKit Lb

end Go.Proofs.Ytgppplhbhgfmkaa
