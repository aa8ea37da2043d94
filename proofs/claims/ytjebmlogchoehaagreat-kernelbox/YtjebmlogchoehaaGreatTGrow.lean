/-
  What slices.Grow of no vector tells: room.
-/
import Derived.Test.YtjebmlogchoehaaGreatTClone
namespace Go.Proofs.YtjebmlogchoehaaGreat
open Go.RowKit Lb
set_option maxRecDepth 20000

theorem ownOf_cut0 {R : World → Bool → Option Addr → Nat → Nat → Int → Prop} {w : World} {base g n cap : Nat} {zs : List Int} (h : OwnOf R w base (some ⟨g, 0, none⟩) n cap zs) : OwnOf R w base (some ⟨g, 0, none⟩) 0 cap [] := by
  obtain ⟨hv, cs, hown, hall⟩ := h
  refine ⟨⟨rfl, Nat.zero_le _, hv.cap_max, fun e => by simp at e, fun h => absurd h (by omega)⟩, [], ⟨⟨by simp, ?_⟩, fun g' hg' => hall g' hg'⟩⟩
  rcases hown.2 with ⟨e, _⟩ | ⟨g1, c1, cur, e, h1, h2, h3, h4, h5, h6⟩
  · simp at e
  · simp only [Value.slice.injEq, Option.some.injEq, Addr.mk.injEq, and_true, true_and] at e
    obtain ⟨rfl, rfl⟩ := e
    exact Or.inr ⟨g, cap, cur, rfl, h1, h2, Nat.zero_le _, h4, h5, by simp⟩
set_option maxHeartbeats 1000000 in
theorem growK (n k : Nat) (w : World) (hp : 0 < n) (hn : n ≤ 1000) (hk : k ≤ 999990) :
    Calls Tryz.prog 110 #[.slice none 0 0, .int .i64 (n : Int)] w fun e w' => ∃ g cap, e = .returned (.slice (some ⟨g, 0, none⟩) 0 cap) ∧ OwnOf (fun w b a l c z => IK w b a l c z k) w' w.heap.size (some ⟨g, 0, none⟩) 0 cap [] ∧ Below w.heap.size w w' := by
  have hs0 : ∀ W, (Instr.sliceAt 24 (.slice none 0 0) none (some (.int .i64 0)) none).run Tryz.prog W = .ok (.slice none 0 0) W := by
    intro W
    simp [Instr.sliceAt, Instr.slice, Instr.sliceBounds, Instr.sliceBound, run_underlying Tryz.underlying24, go_sem]
  have hn0 : ¬ (n : Int) < 0 := by omega
  have hn1 : (0 : Int) < (n : Int) := by omega
  have hw1 : IntKind.i64.wrap (n : Int) = (n : Int) := wrap_natS n (by omega)
  have hown : OwnOf (fun w b a l c z => IK w b a l c z k) w w.heap.size none 0 0 [] := ownOf_nil _ _ _
  go_enter Tryz.func110, Tryz.ntmps110
  go_wp2_with (at_builtin; refine zeros_vec (R := fun w b a l c z => IK w b a l c z k) (steady_ik k) (fun w => (fk_zero w k).ik hk) rfl (.tmp 20) (.tmp 21) 24 3 .i64 .i64 Tryz.underlying24 Tryz.underlying3 rfl w.heap.size _ 0 0 [] rfl hown _ n rfl (by omega) (by omega) (by omega) (Nat.le_refl _) ?_)
  intro al cl w1 hown1 hgr1
  have hb1 : Below w.heap.size w w1 := (Below.refl _ _).grown hgr1 (Nat.le_refl _) hown.ge
  obtain ⟨g, rfl⟩ := hown1.form (by omega)
  have hcut := ownOf_cut0 hown1
  have hcl := hown1.vec.cap_le
  have hs1 : ∀ W, (Instr.sliceAt 24 (.slice (some ⟨g, 0, none⟩) (0 + n) cl) none (some (.int .i64 0)) none).run Tryz.prog W = .ok (.slice (some ⟨g, 0, none⟩) 0 cl) W := by
    intro W
    simp [Instr.sliceAt, Instr.slice, Instr.sliceBounds, Instr.sliceBound, run_underlying Tryz.underlying24, go_sem]
  (try simp only [Nat.zero_add] at hs1)
  clear hown1 hgr1 hown
  go_wp2
  go_ret
  exact ⟨_, _, rfl, hcut, hb1⟩

#print axioms growK
end Go.Proofs.YtjebmlogchoehaaGreat
