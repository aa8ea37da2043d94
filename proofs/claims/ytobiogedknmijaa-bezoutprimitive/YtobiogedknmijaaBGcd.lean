/-
  What common, Gcd, All of package bezout tell.
-/
import Derived.Test.YtobiogedknmijaaVec
import Derived.Test.YtobiogedknmijaaEuclid
namespace Go.Proofs.Ytobiogedknmijaa
open Go.RowKit Lb

/-- The greatest number that divides all. -/
def gcdL (l : List Int) : Nat := l.foldl (fun g z => Nat.gcd g z.natAbs) 0
theorem gcdL_nil : gcdL [] = 0 := rfl
theorem gcdL_snoc (l : List Int) (z : Int) : gcdL (l ++ [z]) = Nat.gcd (gcdL l) z.natAbs := by simp [gcdL, List.foldl_append]
theorem gcdL_two (x y : Int) : gcdL [x, y] = Int.gcd x y := by simp [gcdL, Int.gcd]
theorem take_next {zs : List Int} {i : Nat} (h : i < zs.length) : zs.take (i + 1) = zs.take i ++ [zs.getD i 0] := by
  rw [List.take_succ_eq_append_getElem h]
  simp [List.getD, h]
theorem gcdL_next {zs : List Int} {i : Nat} {z : Int} {g : Nat} (h : i < zs.length) (hg : g = gcdL (zs.take i)) (hz : z.natAbs = Nat.gcd (zs.getD i 0).natAbs g) : z.natAbs = gcdL (zs.take (i + 1)) := by
  rw [take_next h, gcdL_snoc, hz, hg, Nat.gcd_comm]

set_option maxHeartbeats 2000000 in
theorem commonK (ao : Option Addr) (n cap : Nat) (zs : List Int) (k : Nat) (w : World) (h : VK w ao n cap zs k) (hk : k ≤ 900000) :
    Calls Try.prog 39 #[.slice ao n cap] w fun e w' => ∃ b1 a1 l1 c1, e = .returned (.agg #[.bool b1, .slice a1 l1 c1]) ∧ FK w' b1 a1 l1 c1 (gcdL zs : Int) k ∧ Below w.heap.size w w' := by
  have hm := Nat.le_trans h.cap_le h.cap_max
  have hl := h.len_eq
  have HL := hide hl
  unfold maxLen at hm
  obtain ⟨G, eG⟩ : ∃ G, G = gcdL zs := ⟨_, rfl⟩
  rw [← eG]
  have EG := hide eG
  clear eG hl
  go_enter Try.func39, Try.ntmps39
  go_wp2_with fail
  obtain ⟨W, hWe⟩ : ∃ W, W = ((w.alloc (.cells #[.bool false, .slice none 0 0] 24)).alloc (.cells #[.bool false, .slice none 0 0] 24)) := ⟨_, rfl⟩
  obtain ⟨B0, B1, hb0⟩ := boxes2 w false none 0 0 false none 0 0 hWe
  rw [← hWe]
  clear hWe
  go_loopw [8] (fun t wr => ∃ (i : Nat) (b1 : Bool) (a1 : Option Addr) (l1 c1 : Nat) (z : Int), i ≤ n ∧ t = .int .i64 (i : Int) ∧ Box wr w.heap.size false none 0 0 ∧ Box wr (w.heap.size + 1) b1 a1 l1 c1 ∧ IK wr b1 a1 l1 c1 z k ∧ z.natAbs = gcdL (zs.take i) ∧ Below w.heap.size w wr) (fun t _ => n - (intOf t).toNat)
  case atStart => exact ⟨0, _, _, _, _, 0, Nat.zero_le _, rfl, B0, B1, (fk_zero _ k).ik (by omega), rfl, hb0⟩
  case round =>
    obtain ⟨i, b1, a1, l1, c1, z, hi, rfl, C0, C1, hz, hg, hB⟩ := hrel
    have HB := hide hB
    have HG := hide hg
    clear hB hg B0 B1 hb0
    by_cases hlt : i < n
    · obtain ⟨g, off, rfl⟩ := h.some (by omega)
      obtain ⟨b2, a2, l2, c2, he, hy⟩ := (h.later (unhide HB)).at hlt
      obtain ⟨f1, f2⟩ := he.facts
      have hg1 := he.1
      obtain ⟨f3, f4, _, _⟩ := C1.facts
      have hs1 := C1.lt
      go_wp2_with fail
      obtain ⟨W2, hW2⟩ : ∃ W2, W2 = wr.alloc (.cells #[.bool b2, .slice a2 l2 c2] 24) := ⟨_, rfl⟩
      obtain ⟨D0, hb1⟩ := boxes1 wr b2 a2 l2 c2 hW2
      rw [← hW2]
      clear hW2 f1 f2 f3 f4 he
      replace C0 := C0.later hb1
      replace C1 := C1.later hb1
      replace hz := hz.later hb1
      replace hy := hy.later hb1
      replace HB := hide (Below.step (unhide HB) hb1)
      clear hb1
      refine (euclidK _ _ _ _ (zs.getD i 0) k _ _ _ _ z k _ hy hz hk hk).mono ?_
      rintro e w2 ⟨b3, a3, l3, c3, z3, rfl, h3, hz3, hb1⟩
      rw [Nat.max_self] at h3
      have HZ := hide hz3
      replace C0 := C0.later hb1
      replace C1 := C1.later hb1
      replace HB := hide (Below.step (unhide HB) hb1)
      clear hb1 hy hz D0 hz3
      obtain ⟨q1, q2, q3, q4⟩ := C1.facts
      have hsz := C1.lt
      go_wp2
      go_roundw
      case rel =>
        refine ⟨i + 1, _, _, _, _, z3, by omega, by go_num, C0.other (g' := w.heap.size + 1) (by omega) b3 a3 l3 c3, C1.put b3 a3 l3 c3, h3.put C1.noLimb _ _ _ _, ?_, below_put (unhide HB) (by omega) _ _ _ _⟩
        exact gcdL_next (by rw [unhide HL]; exact hlt) (unhide HG) (unhide HZ)
      case measure => simp [intOf]; omega
    · have hin : i = n := by omega
      have hgz : z.natAbs = G := by rw [unhide HG, unhide EG, List.take_of_length_le (by rw [unhide HL]; omega)]
      have HGZ := hide hgz
      clear hgz HG EG
      obtain ⟨f1, f2, _, _⟩ := C1.facts
      go_wp2_with fail
      refine (absK _ _ _ _ z k _ hz).mono ?_
      rintro e w2 ⟨b3, a3, l3, c3, rfl, h3, hb1⟩
      rw [unhide HGZ] at h3
      replace C0 := C0.later hb1
      replace HB := hide (Below.step (unhide HB) hb1)
      clear hb1 f1 f2 C1 hz
      have hsz := C0.lt
      obtain ⟨q1, q2, q3, q4⟩ := C0.facts
      go_wp2
      refine bodyPost_ret (v := .agg #[.bool b3, .slice a3 l3 c3]) (by simp [results, Try.results39, go_sem, *]) rfl ⟨_, _, _, _, rfl, ?_⟩
      exact ⟨h3.put C0.noLimb _ _ _ _, below_put (unhide HB) (by omega) _ _ _ _⟩

set_option maxHeartbeats 1000000 in
theorem gcdK (b : Bool) (aa : Option Addr) (la ca : Nat) (x : Int) (k : Nat) (b' : Bool) (ab : Option Addr) (lb cb : Nat) (y : Int) (l : Nat) (w : World) (hx : IK w b aa la ca x k) (hy : IK w b' ab lb cb y l) (hk : k ≤ 900000) (hl : l ≤ 900000) :
    Calls Try.prog 18 #[.agg #[.bool b, .slice aa la ca], .agg #[.bool b', .slice ab lb cb]] w fun e w' => ∃ b1 a1 l1 c1, e = .returned (.agg #[.bool b1, .slice a1 l1 c1]) ∧ FK w' b1 a1 l1 c1 (Int.gcd x y : Int) (max k l) ∧ Below w.heap.size w w' := by
  obtain ⟨K, eK⟩ : ∃ K, K = max k l := ⟨_, rfl⟩
  rw [← eK]
  have hK : K ≤ 900000 := by omega
  have hkK : k ≤ K := by omega
  have hlK : l ≤ K := by omega
  clear eK
  rw [← gcdL_two]
  go_enter Try.func18, Try.ntmps18
  go_wp2_with fail
  obtain ⟨W, hWe⟩ : ∃ W, W = (((w.alloc (.cells #[.bool b, .slice aa la ca] 24)).alloc (.cells #[.bool b', .slice ab lb cb] 24)).alloc (.cells #[.bool false, .slice none 0 0] 24)) := ⟨_, rfl⟩
  obtain ⟨B0, B1, B2, hb0⟩ := boxes3 w b aa la ca b' ab lb cb false none 0 0 hWe
  have hb2 := below_new W (.cells #[.bool b, .slice aa la ca, .bool b', .slice ab lb cb] 24)
  have hsW : W.heap.size = w.heap.size + 3 := by rw [hWe]; simp
  have hv := vec2 (w := W) (R := fun w b a l c z => IK w b a l c z K) (n := w.heap.size + 3) hsW.symm (((hx.later hb0).later hb2).up hkK) (((hy.later hb0).later hb2).up hlK)
  rw [← hWe]
  clear hWe
  refine (commonK _ _ _ _ K _ hv hK).mono ?_
  rintro e w2 ⟨b3, a3, l3, c3, rfl, h3, hb1⟩
  have HB := Below.step (Below.step hb0 hb2) hb1
  replace B2 := (B2.later hb2).later hb1
  clear hb0 hb1 hb2 B0 B1 hx hy hv
  have hsz := B2.lt
  obtain ⟨q1, q2, q3, q4⟩ := B2.facts
  go_wp2
  refine bodyPost_ret (v := .agg #[.bool b3, .slice a3 l3 c3]) (by simp [results, Try.results18, go_sem, *]) rfl ⟨_, _, _, _, rfl, ?_⟩
  exact ⟨h3.put B2.noLimb _ _ _ _, below_put HB (by omega) _ _ _ _⟩
set_option maxHeartbeats 1000000 in
theorem allK (ao : Option Addr) (n cap : Nat) (zs : List Int) (k : Nat) (w : World) (h : VK w ao n cap zs k) (hk : k ≤ 900000) :
    Calls Try.prog 22 #[.slice ao n cap] w fun e w' => ∃ b1 a1 l1 c1, e = .returned (.agg #[.bool b1, .slice a1 l1 c1]) ∧ FK w' b1 a1 l1 c1 (gcdL zs : Int) k ∧ Below w.heap.size w w' := by
  go_enter Try.func22, Try.ntmps22
  go_wp2_with fail
  obtain ⟨W, hWe⟩ : ∃ W, W = w.alloc (.cells #[.bool false, .slice none 0 0] 24) := ⟨_, rfl⟩
  obtain ⟨B2, hb0⟩ := boxes1 w false none 0 0 hWe
  rw [← hWe]
  clear hWe
  refine (commonK _ _ _ _ k _ (h.later hb0) hk).mono ?_
  rintro e w2 ⟨b3, a3, l3, c3, rfl, h3, hb1⟩
  have HB := Below.step hb0 hb1
  replace B2 := B2.later hb1
  clear hb0 hb1 h
  have hsz := B2.lt
  obtain ⟨q1, q2, q3, q4⟩ := B2.facts
  go_wp2
  refine bodyPost_ret (v := .agg #[.bool b3, .slice a3 l3 c3]) (by simp [results, Try.results22, go_sem, *]) rfl ⟨_, _, _, _, rfl, ?_⟩
  exact ⟨h3.put B2.noLimb _ _ _ _, below_put HB (by omega) _ _ _ _⟩

#print axioms commonK
#print axioms gcdK
#print axioms allK
end Go.Proofs.Ytobiogedknmijaa
