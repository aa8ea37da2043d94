/-
 What the reference's Add and Sub tell, and that they tell it in memory of their own.
-/
import Derived.Test.YtkomdimalgnamaaGreatJF
import Derived.Test.YtkomdimalgnamaaGreatJE
namespace Go.Proofs.YtkomdimalgnamaaGreat
open Go.RowKit Lb
set_option maxRecDepth 20000

theorem own_fresh {w : World} {base : Nat} {ao : Option Addr} {n cap k : Nat} {zs : List Int} (h : OwnV w base ao n cap zs k) {g off : Nat} (e : ao = some ⟨g, off, none⟩) : base ≤ g := by
 subst e;exact own_ge h g (by simp [Value.ownBlock])
end Go.Proofs.YtkomdimalgnamaaGreat
