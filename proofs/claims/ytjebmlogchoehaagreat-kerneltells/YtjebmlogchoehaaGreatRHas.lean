/-
 What Pivot, Coords and Has of the reference tell.
-/
import Derived.Test.YtjebmlogchoehaaGreatJR
import Derived.Test.YtjebmlogchoehaaGreatRVFresh
import Derived.Test.YtjebmlogchoehaaGreatJP
import Derived.Deep.CutRange
namespace Go.Proofs.YtjebmlogchoehaaGreat
open Go.RowKit Lb
set_option maxRecDepth 20000

theorem InTail.eq {h : List (List Int)} {i : Nat} {v u : Nat → Int} (hv : InTail h i v) (e : ∀ j, u j = v j) : InTail h i u := by
 obtain ⟨c, h0, hc⟩ := hv
 exact ⟨c, h0, fun j => (e j).trans (hc j)⟩
/-- What is left of v behind i rows. -/
def RestOf (h : List (List Int)) (v : Nat → Int) (i : Nat) (u : Nat → Int) : Prop := (InL h v → InTail h i u) ∧ InL h fun j => v j - u j
theorem RestOf.eq {h : List (List Int)} {v : Nat → Int} {i : Nat} {u t : Nat → Int} (hr : RestOf h v i u) (e : ∀ j, t j = u j) : RestOf h v i t := ⟨fun hv => (hr.1 hv).eq e, hr.2.eq fun j => by rw [e]⟩
theorem RestOf.step {h : List (List Int)} {v : Nat → Int} {i : Nat} {u : Nat → Int} {p : Nat → Nat} (hr : RestOf h v i u) (hf : HForm h p) (hi : i < h.length) (h0 : ent h i (p i) ≠ 0) : RestOf h v (i + 1) fun j => u j - ent h i j * (u (p i) / ent h i (p i)) := by
 refine ⟨fun hv => ?_, (hr.2.add ((inL_row (l := h) i).mul (u (p i) / ent h i (p i)))).eq fun j => ?_⟩
 ·obtain ⟨x, hx1, hx2⟩ := HForm.tail hf hi (hr.1 hv)
  have hx : u (p i) / ent h i (p i) = x := by rw [hx1]; exact Int.mul_ediv_cancel _ h0
  exact hx2.eq fun j => by rw [hx, Int.mul_comm x]
 ·dsimp only; rw [Int.mul_comm (u (p i) / ent h i (p i))]; omega
theorem RestOf.done {h : List (List Int)} {v u : Nat → Int} (hr : RestOf h v h.length u) : (∀ j, u j = 0) ↔ InL h v :=
 ⟨fun e => hr.2.eq fun j => by rw [e j]; omega, fun hv j => (hr.1 hv).none j⟩
set_option maxHeartbeats 1600000 in
theorem rpivotK (ao : Option Addr) (n cap : Nat) (zs : List Int) (k : Nat) (w : World) (h : VK w ao n cap zs k) :
  Calls Tryz.prog 35 #[.slice ao n cap] w fun e w' => ∃ z, e = .returned (.int .i64 z) ∧ PivZ zs z ∧ Below w.heap.size w w' := by
 have HL := hide h.len_eq
 have hm := Nat.le_trans h.cap_le h.cap_max
 unfold maxLen at hm
 go_enter Tryz.func35, Tryz.ntmps35
 go_wp2_with fail
 go_loopw [3] (fun t wr => ∃ (i : Nat), i ≤ n ∧ t = .int .i64 (i : Int) ∧ (∀ j, j < i → zs.getD j 0 = 0) ∧ Below w.heap.size w wr) (fun t _ => n - (intOf t).toNat)
 case atStart => exact ⟨0, Nat.zero_le _, rfl, fun j hj => absurd hj (by omega), Below.refl _ _⟩
 case round =>
  obtain ⟨i, hi, rfl, hall, hB⟩ := hrel
  have HA := hide hall
  clear hall
  have HB := hide hB
  clear hB
  by_cases hlt : i < n
  ·obtain ⟨g, off, rfl⟩ := h.some (by omega)
   obtain ⟨b2, a2, l2, c2, he, hy⟩ := (h.later (unhide HB)).at hlt
   obtain ⟨f1, f2⟩ := he.facts
   have hg1 := he.1
   have hi0 : (0 : Int) ≤ (i : Int) := by omega
   have hi1 : (i : Int) < (n : Int) := by omega
   obtain ⟨z, ez⟩ : ∃ z, z = zs.getD i 0 := ⟨_, rfl⟩
   rw [← ez] at hy
   have EZ := hide ez
   clear ez
   obtain ⟨s, es⟩ : ∃ s, s = z.sign := ⟨_, rfl⟩
   have ES := hide es
   go_wp2_with fail
   refine (rsignK b2 a2 l2 c2 z k s _ hy (unhide ES)).mono ?_
   rintro e w3 ⟨rfl, hb1⟩
   replace HB := hide (Below.step (unhide HB) hb1)
   clear hb1 hy f1 f2 he hg1
   by_cases h0 : z = 0
   ·have hs : (s != 0) = false := by rw [es, h0]; rfl
    clear es
    go_wp2
    go_roundw
    case rel =>
     refine ⟨i + 1, by omega, by go_num, fun j hj => ?_, unhide HB⟩
     by_cases c : j = i
     ·subst c; rw [← unhide EZ]; exact h0
     ·exact unhide HA j (by omega)
    case measure => simp [intOf]; omega
   ·have hs : (s != 0) = true := by
     rw [bne_iff_ne, es]
     exact fun e => h0 (Int.sign_eq_zero_iff_zero.1 e)
    clear es
    go_wp2
    go_ret
    exact ⟨_, rfl, pivZ_at (unhide HA) (by rw [← unhide EZ]; exact h0), unhide HB⟩
  ·have hin : i = n := by omega
   subst hin
   have hi1 : ¬ (i : Int) < (i : Int) := by omega
   go_wp2
   go_ret
   exact ⟨_, rfl, pivZ_none (unhide HL) (unhide HA), unhide HB⟩
end Go.Proofs.YtjebmlogchoehaaGreat
