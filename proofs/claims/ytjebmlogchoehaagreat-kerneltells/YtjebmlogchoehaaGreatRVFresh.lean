/-
 What the reference's Add and Sub tell, and that they tell it in memory of their own.
-/
import Derived.Test.YtjebmlogchoehaaGreatJF
import Derived.Test.YtjebmlogchoehaaGreatJE
namespace Go.Proofs.YtjebmlogchoehaaGreat
open Go.RowKit Lb
set_option maxRecDepth 20000

theorem own_fresh {w : World} {base : Nat} {ao : Option Addr} {n cap k : Nat} {zs : List Int} (h : OwnV w base ao n cap zs k) {g off : Nat} (e : ao = some ⟨g, off, none⟩) : base ≤ g := by
 subst e
 exact own_ge h g (by simp [Value.ownBlock])
end Go.Proofs.YtjebmlogchoehaaGreat
