/-
 What the eleventh stage's walks share: each row's Dot is 0 just of what the kernel has.
-/
import Derived.Test.YtjebmlogchoehaaGreatKFew
import Derived.Test.YtjebmlogchoehaaGreatRHas
namespace Go.Proofs.YtjebmlogchoehaaGreat
open Go.RowKit Lb
set_option maxRecDepth 20000

theorem cut_lens (rs : List (List Int)) (N : Nat) : ∀ r ∈ rs.map fun r => vcut r N, r.length = N := fun r hr => by
 obtain ⟨s, _, rfl⟩ := List.mem_map.1 hr
 exact vcut_len s N
theorem lens_wide {c : List (List Int)} {N M : Nat} (h : ∀ r ∈ c, r.length = N) (hM : N ≤ M) (i : Nat) : (c.getD i []).length ≤ M := Nat.le_trans (all_len_le h i) hM

end Go.Proofs.YtjebmlogchoehaaGreat
