/-
  What quot.Near tells (IN PARTS).
-/
import Derived.Test.YtjebmlogchoehaaGreatJE
import Derived.Test.YtjebmlogchoehaaGreatQDiv
import Derived.Deep.CutRange
namespace Go.Proofs.YtjebmlogchoehaaGreat
open Go.RowKit Lb
set_option maxRecDepth 20000

theorem near_code {x y : Int} (hy : 0 < y) : near x y = if x % y + x % y - y < 0 then x / y else x / y + 1 := by
  have h1 := Int.emod_nonneg x (show y ≠ 0 by omega)
  have h2 := Int.emod_lt_of_pos x hy
  have h3 := Int.mul_ediv_add_emod x y
  split
  · rw [near_pos hy]
    have : x / y * y = y * (x / y) := Int.mul_comm _ _
    omega
  · rw [near_pos hy]
    have : (x / y + 1) * y = y * (x / y) + y := by rw [Int.add_mul, Int.one_mul, Int.mul_comm]
    omega
theorem near_turn (x y : Int) : near x y = near (if y < 0 then -x else x) (if y < 0 then -y else y) := by
  by_cases c : y < 0
  · rw [if_pos c, if_pos c]; exact near_neg c
  · rw [if_neg c, if_neg c]

end Go.Proofs.YtjebmlogchoehaaGreat
