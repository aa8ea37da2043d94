/-
  The walk of LimbSums: whatever the two rows, it tells true.
-/
import Derived.Test.YtpcamgpdebedlaaAwake
import Derived.Test.YtpcamgpdebedlaaSub
import Derived.Test.YtpcamgpdebedlaaRefSub
import Derived.Test.YtpcamgpdebedlaaTrim
import Derived.Test.YtpcamgpdebedlaaBits
namespace Go.Proofs.Ytpcamgpdebedlaa
open Go.RowKit Lb

theorem Below.step {w w1 w2 : World} (h : Below w.heap.size w w1) (k : Below w1.heap.size w1 w2) : Below w.heap.size w w2 := h.trans (k.mono h.size)

set_option maxRecDepth 20000 in
set_option maxHeartbeats 2000000 in
theorem limbSums_walk (aa : Option Addr) (la ca : Nat) (xs : List Nat) (ab : Option Addr) (lb cb : Nat) (ys : List Nat) (w : World) (ha : RowAt w aa la ca xs) (hb : RowAt w ab lb cb ys) :
    Calls Try.prog 3 #[.slice aa la ca, .slice ab lb cb] w fun e w' => e = .returned (.bool true) ∧ Below w.heap.size w w' := by
  by_cases h1 : 60 < la
  · go_enter Try.func3, Try.ntmps3
    go_wp2_with (go_at_call 8; refine (awake_any _).mono ?_; rintro e w' ⟨rfl, hbel⟩)
    go_ret
    exact ⟨rfl, hbel⟩
  · by_cases h2 : 60 < lb
    · go_enter Try.func3, Try.ntmps3
      go_wp2_with (go_at_call 8; refine (awake_any _).mono ?_; rintro e w' ⟨rfl, hbel⟩)
      go_ret
      exact ⟨rfl, hbel⟩
    · by_cases hle : val ys ≤ val xs
      · have hge : 0 ≤ cmpI (val xs) (val ys) := by
          unfold cmpI; rw [if_neg (by omega)]; split <;> omega
        have HLE := hide hle
        clear hle
        go_enter Try.func3, Try.ntmps3
        go_wp2_with fail
        refine (sub_yes _ _ _ xs _ _ _ ys _ ha hb (by omega) (unhide HLE)).mono ?_
        rintro e w1 ⟨a1, l1, c1, rfl, hn1, hw1⟩
        go_wp2_with fail
        refine (rcmp_any _ _ _ xs _ _ _ ys _ (ha.later hw1) (hb.later hw1)).mono ?_
        rintro e w' ⟨rfl, rfl⟩
        go_wp2_with fail
        refine (rsub_any _ _ _ xs _ _ _ ys _ (ha.later hw1) (hb.later hw1) (by omega) (by omega) (unhide HLE)).mono ?_
        rintro e w2 ⟨a2, l2, c2, rfl, hn2, hw2⟩
        go_wp2_with fail
        refine (same_true _ _ _ _ _ _ _ _ (hn1.later hw2) hn2).mono ?_
        rintro e w3 ⟨rfl, hw3⟩
        have hW3 := Below.step (Below.step hw1 hw2) hw3
        clear hw1 hw2 hw3 hn1 hn2
        go_wp2_with fail
        refine (trim_any _ _ _ xs _ (ha.later hW3) (by omega)).mono ?_
        rintro e w4 ⟨a4, l4, c4, rfl, hn4, hw4⟩
        have hW4 := Below.step hW3 hw4
        go_wp2_with fail
        refine (rTrim_any _ _ _ xs _ (ha.later hW4) (by omega)).mono ?_
        rintro e w5 ⟨a5, l5, c5, rfl, hn5, hw5⟩
        have hW5 := Below.step hW4 hw5
        go_wp2_with fail
        refine (same_true _ _ _ _ _ _ _ _ (hn4.later hw5) hn5).mono ?_
        rintro e w6 ⟨rfl, hw6⟩
        have hW6 := Below.step hW5 hw6
        clear hn4 hn5 hw4 hw5 hw6 hW3 hW4 hW5
        go_wp2_with fail
        refine (cmp_any _ _ _ xs _ _ _ ys _ (ha.later hW6) (hb.later hW6)).mono ?_
        rintro e w7 ⟨rfl, hw7⟩
        have hW7 := Below.step hW6 hw7
        go_wp2_with fail
        refine (rcmp_any _ _ _ xs _ _ _ ys _ (ha.later hW7) (hb.later hW7)).mono ?_
        rintro e w' ⟨rfl, rfl⟩
        clear hw7 hW6
        go_wp2_with fail
        refine (bits_any _ _ _ xs _ (ha.later hW7) (by omega)).mono ?_
        rintro e w' ⟨n8, rfl, hn8, rfl⟩
        go_wp2_with fail
        refine (rbits_any _ _ _ xs _ (ha.later hW7) (by omega)).mono ?_
        rintro e w8 ⟨n9, rfl, hn9, hw8⟩
        have hW8 := Below.step hW7 hw8
        obtain rfl := isBits_inj hn8 hn9
        clear hn8 hn9 hw8 hW7
        go_wp2_with fail
        refine (add_any _ _ _ xs _ _ _ ys _ (ha.later hW8) (hb.later hW8) (by omega) (by omega)).mono ?_
        rintro e w10 ⟨a10, l10, c10, rfl, hn10, hw10⟩
        have hW10 := Below.step hW8 hw10
        go_wp2_with fail
        refine (radd_any _ _ _ xs _ _ _ ys _ (ha.later hW10) (hb.later hW10) (by omega) (by omega)).mono ?_
        rintro e w11 ⟨a11, l11, c11, rfl, hn11, hw11⟩
        have hW11 := Below.step hW10 hw11
        go_wp2_with fail
        refine (same_true _ _ _ _ _ _ _ _ (hn10.later hw11) hn11).mono ?_
        rintro e w12 ⟨rfl, hw12⟩
        have hW12 := Below.step hW11 hw12
        clear hn10 hn11 hw10 hw11 hw12 hW8 hW10 hW11
        go_wp2_with fail
        refine (awake_any _).mono ?_
        rintro e w13 ⟨rfl, hw13⟩
        go_wp2_with fail
        go_ret
        exact ⟨rfl, Below.step hW12 hw13⟩
      · have hlt : cmpI (val xs) (val ys) < 0 := by rw [cmpI_lt (by omega)]; omega
        have HLE := hide hle
        clear hle
        go_enter Try.func3, Try.ntmps3
        go_wp2_with fail
        refine (sub_no _ _ _ xs _ _ _ ys _ ha hb (by have := unhide HLE; omega)).mono ?_
        rintro e w1 ⟨rfl, hw1⟩
        go_wp2_with fail
        refine (rcmp_any _ _ _ xs _ _ _ ys _ (ha.later hw1) (hb.later hw1)).mono ?_
        rintro e w' ⟨rfl, rfl⟩
        have hW3 := hw1
        clear hw1
        go_wp2_with fail
        refine (trim_any _ _ _ xs _ (ha.later hW3) (by omega)).mono ?_
        rintro e w4 ⟨a4, l4, c4, rfl, hn4, hw4⟩
        have hW4 := Below.step hW3 hw4
        go_wp2_with fail
        refine (rTrim_any _ _ _ xs _ (ha.later hW4) (by omega)).mono ?_
        rintro e w5 ⟨a5, l5, c5, rfl, hn5, hw5⟩
        have hW5 := Below.step hW4 hw5
        go_wp2_with fail
        refine (same_true _ _ _ _ _ _ _ _ (hn4.later hw5) hn5).mono ?_
        rintro e w6 ⟨rfl, hw6⟩
        have hW6 := Below.step hW5 hw6
        clear hn4 hn5 hw4 hw5 hw6 hW3 hW4 hW5
        go_wp2_with fail
        refine (cmp_any _ _ _ xs _ _ _ ys _ (ha.later hW6) (hb.later hW6)).mono ?_
        rintro e w7 ⟨rfl, hw7⟩
        have hW7 := Below.step hW6 hw7
        go_wp2_with fail
        refine (rcmp_any _ _ _ xs _ _ _ ys _ (ha.later hW7) (hb.later hW7)).mono ?_
        rintro e w' ⟨rfl, rfl⟩
        clear hw7 hW6
        go_wp2_with fail
        refine (bits_any _ _ _ xs _ (ha.later hW7) (by omega)).mono ?_
        rintro e w' ⟨n8, rfl, hn8, rfl⟩
        go_wp2_with fail
        refine (rbits_any _ _ _ xs _ (ha.later hW7) (by omega)).mono ?_
        rintro e w8 ⟨n9, rfl, hn9, hw8⟩
        have hW8 := Below.step hW7 hw8
        obtain rfl := isBits_inj hn8 hn9
        clear hn8 hn9 hw8 hW7
        go_wp2_with fail
        refine (add_any _ _ _ xs _ _ _ ys _ (ha.later hW8) (hb.later hW8) (by omega) (by omega)).mono ?_
        rintro e w10 ⟨a10, l10, c10, rfl, hn10, hw10⟩
        have hW10 := Below.step hW8 hw10
        go_wp2_with fail
        refine (radd_any _ _ _ xs _ _ _ ys _ (ha.later hW10) (hb.later hW10) (by omega) (by omega)).mono ?_
        rintro e w11 ⟨a11, l11, c11, rfl, hn11, hw11⟩
        have hW11 := Below.step hW10 hw11
        go_wp2_with fail
        refine (same_true _ _ _ _ _ _ _ _ (hn10.later hw11) hn11).mono ?_
        rintro e w12 ⟨rfl, hw12⟩
        have hW12 := Below.step hW11 hw12
        clear hn10 hn11 hw10 hw11 hw12 hW8 hW10 hW11
        go_wp2_with fail
        refine (awake_any _).mono ?_
        rintro e w13 ⟨rfl, hw13⟩
        go_wp2_with fail
        go_ret
        exact ⟨rfl, Below.step hW12 hw13⟩

#print axioms limbSums_walk
end Go.Proofs.Ytpcamgpdebedlaa
