/-
 Own rows each of which lies in a block of its own, told by tags: what append to one of them leaves of the others.
-/
import Derived.Test.YtkomdimalgnamaaGreatRVFresh2
namespace Go.Proofs.YtkomdimalgnamaaGreat
open Go.RowKit Lb
set_option maxRecDepth 20000

theorem ff_kept {base k b0 : Nat} {w w' : World} {ao : Option Addr} {n cap : Nat} {rs : List (List Int)} {row : Option Nat} (h : MOwn (VFF base k) w b0 ao n cap rs) (hb : base ≤ b0) (hg : w.grownBy w' row) (hn : ∀ g, row = some g → g < base ∧ NoLimb w g) : MOwn (VFF base k) w' b0 ao n cap rs := by
 have hge := h.ge;obtain ⟨⟨vs, hrow, hall⟩, hl⟩ := h;refine ⟨⟨vs, hrow.grown hg ?_, fun i v hv => ?_⟩, hl⟩
 ·by_cases e : (Value.slice ao n cap).ownBlock = none
  ·exact Or.inl e
  ·right
   intro er;obtain ⟨g, eg⟩ := Option.ne_none_iff_exists'.1 e;have h1 := hge g eg;have h2 := hn g (by rw [← er]; exact eg);omega
 ·obtain ⟨h1, h2⟩ := hall i v hv;exact ⟨h1.grown hg (fun g e => (hn g e).2) (fun g off e er => by
   have h3 := h2 g off e;have h4 := (hn g er).1;omega), h2⟩

end Go.Proofs.YtkomdimalgnamaaGreat
