/-
  What awake of the statements of stage 8 tells: true.
-/
import Derived.Test.YtgppplhbhgfmkaaSFit
import Derived.Test.YtgppplhbhgfmkaaSBel
import Derived.Test.YtgppplhbhgfmkaaJF
namespace Go.Proofs.Ytgppplhbhgfmkaa
open Go.RowKit Lb

theorem vk_none (w : World) : VK w none 0 0 [] 2 := (vf_nil w 2).vk (by omega)
set_option maxHeartbeats 1600000 in
theorem awake8_any (w : World) : Calls Try.prog 10 #[] w fun e w' => e = .returned (.bool true) ∧ Below w.heap.size w w' := by
  have HB := hide (Below.refl w.heap.size w)
  have N1 := hide (fun w => sbelowK none 0 0 [] 2 none 0 0 [] 2 w (vk_none w) (vk_none w) (by omega) (by omega))
  rw [show vbelow [] [] = true from by decide] at N1
  have N2 := hide (fun w a c h => sbelowK a 1 c [1] 2 none 0 0 [] 2 w h (vk_none w) (by omega) (by omega))
  rw [show vbelow [1] [] = false from by decide] at N2
  go_enter Try.func10, Try.ntmps10
  go_wp2_with fail
  have hbv := below_new w (.cells #[.int .i64 1, .int .i64 0, .int .i64 (-2)] 3)
  have r1 := irow_new (w := w) (zs := [1, 0, -2]) (t := 3) (n := w.heap.size) (m := 3) rfl rfl (by simp) (small_all (by simp))
  refine (rvofK _ _ _ [1, 0, -2] _ r1 (by omega)).mono ?_
  rintro e w1 ⟨a1, c1, rfl, h1, hb1⟩
  replace hb1 := Below.step hbv hb1
  replace HB := hide (Below.step (unhide HB) hb1)
  clear hbv hb1 r1
  go_wp2_with fail
  have hbv := below_new w1 (.cells #[.int .i64 3, .int .i64 5, .int .i64 (-5)] 3)
  have r1 := irow_new (w := w1) (zs := [3, 5, -5]) (t := 3) (n := w1.heap.size) (m := 3) rfl rfl (by simp) (small_all (by simp))
  refine (rvofK _ _ _ [3, 5, -5] _ r1 (by omega)).mono ?_
  rintro e w2 ⟨a2, c2, rfl, h2, hb1⟩
  replace hb1 := Below.step hbv hb1
  replace h1 := h1.later hb1
  replace HB := hide (Below.step (unhide HB) hb1)
  clear hbv hb1 r1
  go_wp2_with fail
  refine (sfitsK _ _ _ [1, 0, -2] 2 _ _ _ [3, 5, -5] 2 _ (h1.vk (by omega)) (h2.vk (by omega)) (by omega) (by omega)).mono ?_
  rintro e w3 ⟨b3, a3, l3, c3, q, rfl, h3, hq, hb1⟩
  replace HB := hide (Below.step (unhide HB) hb1)
  clear hb1 h1 h2
  obtain rfl : q = 2 := isFit_inj hq (Or.inr (by decide))
  clear hq
  go_wp2_with fail
  refine (rofK 2 _ (by omega) (by omega)).mono ?_
  rintro e w4 ⟨b4, a4, l4, c4, rfl, h4, hb1⟩
  replace h3 := h3.later hb1
  replace HB := hide (Below.step (unhide HB) hb1)
  clear hb1 
  go_wp2_with fail
  refine (rsameK _ _ _ _ _ _ _ _ _ _ _ _ _ h3 h4 rfl).mono ?_
  rintro e w5 ⟨rfl, hb1⟩
  replace HB := hide (Below.step (unhide HB) hb1)
  clear hb1 h3 h4
  go_wp2_with fail
  refine (unhide N1 _).mono ?_
  rintro e w6 ⟨rfl, hb1⟩
  replace HB := hide (Below.step (unhide HB) hb1)
  clear hb1 
  go_wp2_with fail
  have hbv := below_new w6 (.cells #[.int .i64 1] 3)
  have r1 := irow_new (w := w6) (zs := [1]) (t := 3) (n := w6.heap.size) (m := 1) rfl rfl (by simp) (small_all (by simp))
  refine (rvofK _ _ _ [1] _ r1 (by omega)).mono ?_
  rintro e w7 ⟨a7, c7, rfl, h7, hb1⟩
  replace hb1 := Below.step hbv hb1
  replace HB := hide (Below.step (unhide HB) hb1)
  clear hbv hb1 r1
  go_wp2_with fail
  refine (unhide N2 _ _ _ (h7.vk (by omega))).mono ?_
  rintro e w8 ⟨rfl, hb1⟩
  go_wp2
  go_ret
  exact ⟨rfl, Below.step (unhide HB) hb1⟩

#print axioms awake8_any
end Go.Proofs.Ytgppplhbhgfmkaa
