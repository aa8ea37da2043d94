/-
  What awake of the third stage tells: true.
-/
import Derived.Test.YtfjebgjhhojphaaDParse
import Derived.Test.YtfjebgjhhojphaaDText
namespace Go.Proofs.Ytfjebgjhhojphaa
open Go.RowKit Lb

theorem toList_of {s : ByteArray} {l : List UInt8} (h : byts s = l.map UInt8.toNat) : s.toList = l := by
  rw [ByteArray.toList_eq]
  exact map_toNat_inj h

set_option maxRecDepth 20000 in
set_option maxHeartbeats 1000000 in
theorem awake_any (w : World) : Calls Try.prog 8 #[] w fun e w' => e = .returned (.bool true) ∧ Below w.heap.size w w' := by
  go_enter Try.func8, Try.ntmps8
  go_wp2_with fail
  refine (parse_any _ true 7 w (by decide) (by decide) (by decide)).mono ?_
  rintro e w1 ⟨a1, l1, c1, rfl, hn1, hb1⟩
  go_wp2_with fail
  have h1 : ValAt (w1.alloc (.cells #[.int .u32 0, .int .u32 1] 36)) (some ⟨w1.heap.size, 0, none⟩) 2 2 4294967296 :=
    ⟨[0, 1], rowAt_two 0 1 rfl rfl (by omega) (by omega), by rw [val_two]⟩
  refine (text_any _ _ _ _ _ h1 (by omega)).mono ?_
  rintro e w2 ⟨n, s, rfl, hs, hi, hb2⟩
  obtain rfl : n = 10 := isLen_inj hi ⟨by omega, by decide, Or.inr (by decide)⟩
  have hq : s.toList = [52, 50, 57, 52, 57, 54, 55, 50, 57, 54] := toList_of (by rw [hs]; decide)
  have hB2 := Below.step (below_one w1 _) hb2
  have hn2 := hn1.later hB2
  have hB3 := Below.step hb1 hB2
  clear hs hi h1 hn1 hb1 hb2 hB2
  go_wp2_with fail
  have h6 : NumAt (w2.alloc (.cells #[.int .u32 7] 36)) (some ⟨w2.heap.size, 0, none⟩) 1 1 7 := ⟨[7], rowAt_one rfl (by omega), norm_one (by omega), by rw [val_one]⟩
  refine (same_true _ _ _ _ _ _ _ _ (hn2.later (below_one _ _)) h6).mono ?_
  rintro e w3 ⟨rfl, hb8⟩
  have hB4 := Below.step hB3 (Below.step (below_one _ _) hb8)
  clear h6 hb8 hn2 hB3
  go_wp2_with fail
  go_ret
  exact ⟨rfl, hB4⟩

#print axioms awake_any
end Go.Proofs.Ytfjebgjhhojphaa
