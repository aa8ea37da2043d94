/-
  The contracts of stage 8 as the statements use them (IN PARTS).
-/
import Derived.Test.YtgppplhbhgfmkaaAwake8
import Derived.Test.YtgppplhbhgfmkaaSBel
import Derived.Test.YtgppplhbhgfmkaaSAgr
import Derived.Test.YtgppplhbhgfmkaaSSig
import Derived.Test.YtgppplhbhgfmkaaSPlus
import Derived.Test.YtgppplhbhgfmkaaSFit
import Derived.Test.YtgppplhbhgfmkaaRShd
import Derived.Test.YtgppplhbhgfmkaaRPlus
import Derived.Test.YtgppplhbhgfmkaaRFit
import Derived.Test.YtgppplhbhgfmkaaJF
namespace Go.Proofs.Ytgppplhbhgfmkaa
open Go.RowKit Lb

theorem sbelowB (ao : Option Addr) (n cap : Nat) (zs : List Int) (k : Nat) (ao' : Option Addr) (n' cap' : Nat) (ys : List Int) (l : Nat) (q : Bool) (w : World) (h : VK w ao n cap zs k) (h' : VK w ao' n' cap' ys l) (hl : l ≤ 900000) (hn : n ≤ 1000000) (hq : vbelow zs ys = q) :
    Calls Try.prog 17 #[.slice ao n cap, .slice ao' n' cap'] w fun e w' => e = .returned (.bool q) ∧ Below w.heap.size w w' := by
  subst hq
  exact sbelowK _ _ _ _ _ _ _ _ _ _ _ h h' hl hn
theorem rbelowB (ao : Option Addr) (n cap : Nat) (zs : List Int) (k : Nat) (ao' : Option Addr) (n' cap' : Nat) (ys : List Int) (l : Nat) (q : Bool) (w : World) (h : VK w ao n cap zs k) (h' : VK w ao' n' cap' ys l) (hk : k ≤ 900000) (hl : l ≤ 900000) (hn : n ≤ 1000000) (hq : vbelow zs ys = q) :
    Calls Try.prog 18 #[.slice ao n cap, .slice ao' n' cap'] w fun e w' => e = .returned (.bool q) ∧ Below w.heap.size w w' := by
  subst hq
  exact rbelowK _ _ _ _ _ _ _ _ _ _ _ h h' hk hl hn
theorem sagreeB (ao : Option Addr) (n cap : Nat) (zs : List Int) (k : Nat) (ao' : Option Addr) (n' cap' : Nat) (ys : List Int) (l : Nat) (q : Bool) (w : World) (h : VK w ao n cap zs k) (h' : VK w ao' n' cap' ys l)  (hq : vagree zs ys = q) :
    Calls Try.prog 15 #[.slice ao n cap, .slice ao' n' cap'] w fun e w' => e = .returned (.bool q) ∧ Below w.heap.size w w' := by
  subst hq
  exact sagreeK _ _ _ _ _ _ _ _ _ _ _ h h' 
theorem ragreeB (ao : Option Addr) (n cap : Nat) (zs : List Int) (k : Nat) (ao' : Option Addr) (n' cap' : Nat) (ys : List Int) (l : Nat) (q : Bool) (w : World) (h : VK w ao n cap zs k) (h' : VK w ao' n' cap' ys l) (hl : l ≤ 900000) (hn : n ≤ 1000000) (hq : vagree zs ys = q) :
    Calls Try.prog 16 #[.slice ao n cap, .slice ao' n' cap'] w fun e w' => e = .returned (.bool q) ∧ Below w.heap.size w w' := by
  subst hq
  exact ragreeK _ _ _ _ _ _ _ _ _ _ _ h h' hl hn
theorem vsameT (ao : Option Addr) (n cap : Nat) (zs : List Int) (k : Nat) (ao' : Option Addr) (n' cap' : Nat) (ys : List Int) (l : Nat) (w : World) (h : VK w ao n cap zs k) (h' : VK w ao' n' cap' ys l) (hk : k ≤ 900000) (hl : l ≤ 900000) (hn : n ≤ 1000000) (hn' : n' ≤ 1000000) (e0 : ∀ i, zs.getD i 0 = ys.getD i 0) :
    Calls Try.prog 27 #[.slice ao n cap, .slice ao' n' cap'] w fun e w' => e = .returned (.bool true) ∧ Below w.heap.size w w' := by
  refine (vsameK _ _ _ zs k _ _ _ ys l w h h' hk hl hn hn').mono ?_
  rintro e w' ⟨c, rfl, hc, hb⟩
  obtain rfl := isCmp_inj hc (isCmp_same e0)
  exact ⟨rfl, hb⟩
theorem vnoughtB (ao : Option Addr) (n cap : Nat) (zs : List Int) (k : Nat) (q : Bool) (w : World) (h : VK w ao n cap zs k) (hq : vnought zs = q) :
    Calls Try.prog 36 #[.slice ao n cap] w fun e w' => e = .returned (.bool q) ∧ Below w.heap.size w w' := by
  subst hq
  exact vnoughtK _ _ _ _ _ _ h
#print axioms sbelowB
#print axioms vsameT
end Go.Proofs.Ytgppplhbhgfmkaa
