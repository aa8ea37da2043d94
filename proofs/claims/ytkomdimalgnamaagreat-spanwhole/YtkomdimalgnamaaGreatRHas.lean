/-
 What Pivot, Coords and Has of the reference tell. (IN PARTS)
-/
import Derived.Test.YtkomdimalgnamaaGreatJR
import Derived.Test.YtkomdimalgnamaaGreatRVFresh
import Derived.Test.YtkomdimalgnamaaGreatJP
import Derived.Deep.CutRange
namespace Go.Proofs.YtkomdimalgnamaaGreat
open Go.RowKit Lb
set_option maxRecDepth 20000

def MadeOf (h : List (List Int)) (v : Nat → Int) (i : Nat) (cs us : List Int) : Prop := ∀ j, v j = us.getD j 0 + sumN i fun t => cs.getD t 0 * ent h t j
set_option maxHeartbeats 1600000 in
theorem rpivotK (ao : Option Addr) (n cap : Nat) (zs : List Int) (k : Nat) (w : World) (h : VK w ao n cap zs k) :
  Calls Tryz.prog 47 #[.slice ao n cap] w fun e w' => ∃ z, e = .returned (.int .i64 z) ∧ PivZ zs z ∧ Below w.heap.size w w' := by
 have HL := zh h.len_eq;have hm := Nat.le_trans h.cap_le h.cap_max;unfold maxLen at hm;go_enter Tryz.func47, Tryz.ntmps47
 go_wp2_with fail
 go_loopw [3] (fun t wr => ∃ (i : Nat), i ≤ n ∧ t = .int .i64 (i : Int) ∧ (∀ j, j < i → zs.getD j 0 = 0) ∧ Below w.heap.size w wr) (fun t _ => n - (intOf t).toNat)
 case atStart => exact ⟨0, Nat.zero_le _, rfl, fun j hj => absurd hj (by omega), Below.refl _ _⟩
 case round =>
  obtain ⟨i, hi, rfl, hall, hB⟩ := hrel;have HA := zh hall;clear hall;have HB := zh hB;clear hB;by_cases hlt : i < n
  ·obtain ⟨g, off, rfl⟩ := h.some (by omega);obtain ⟨b2, a2, l2, c2, he, hy⟩ := (h.za (zu HB)).at hlt;obtain ⟨f1, f2⟩ := he.zb;have hg1 := he.1;have hi0 : (0 : Int) ≤ (i : Int) := by omega
   have hi1 : (i : Int) < (n : Int) := by omega
   obtain ⟨z, ez⟩ : ∃ z, z = zs.getD i 0 := ⟨_, rfl⟩;rw [← ez] at hy;have EZ := zh ez;clear ez;obtain ⟨s, es⟩ : ∃ s, s = z.sign := ⟨_, rfl⟩;have ES := zh es
   go_wp2_with fail
   refine (rsignK b2 a2 l2 c2 z k s _ hy (zu ES)).mono ?_;rintro e w3 ⟨rfl, hb1⟩;replace HB := zh (Below.step (zu HB) hb1);clear hb1 hy f1 f2 he hg1;by_cases h0 : z = 0
   ·have hs : (s != 0) = false := by rw [es, h0]; rfl
    clear es;go_wp2;go_roundw
    case rel =>
     refine ⟨i + 1, by omega, by go_num, fun j hj => ?_, zu HB⟩;by_cases c : j = i
     ·subst c; rw [← zu EZ]; exact h0
     ·exact zu HA j (by omega)
    case measure => simp [intOf]; omega
   ·have hs : (s != 0) = true := by
     rw [bne_iff_ne, es];exact fun e => h0 (Int.sign_eq_zero_iff_zero.1 e)
    clear es;go_wp2;go_ret;exact ⟨_, rfl, pivZ_at (zu HA) (by rw [← zu EZ]; exact h0), zu HB⟩
  ·have hin : i = n := by omega
   subst hin;have hi1 : ¬ (i : Int) < (i : Int) := by omega
   go_wp2;go_ret;exact ⟨_, rfl, pivZ_none (zu HL) (zu HA), zu HB⟩
end Go.Proofs.YtkomdimalgnamaaGreat
