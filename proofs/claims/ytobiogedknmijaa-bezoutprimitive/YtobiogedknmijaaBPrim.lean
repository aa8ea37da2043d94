/-
  What Primitive of package bezout tells.
-/
import Derived.Test.YtobiogedknmijaaBLcm
namespace Go.Proofs.Ytobiogedknmijaa
open Go.RowKit Lb

theorem grown_set2 (w : World) (g o o' : Nat) (x y : Value) : w.grownBy ((w.setCell ⟨g, o, none⟩ x).setCell ⟨g, o', none⟩ y) (some g) := by
  refine ⟨rfl, rfl, rfl, by simp [World.setCell], fun j hj hne => ?_⟩
  have hne' : j ≠ g := fun e => hne (by rw [e])
  rw [Below.heap_setCell _ _ _ _ (by simpa using hne'), Below.heap_setCell _ _ _ _ (by simpa using hne')]
theorem OwnV.len {w : World} {base : Nat} {ao : Option Addr} {n cap k : Nat} {zs : List Int} (h : OwnV w base ao n cap zs k) : zs.length = n := h.1.len_eq
theorem map_of_each {f : Int → Int} {zs ps : List Int} {n : Nat} (h1 : zs.length = n) (h2 : ps.length = n) (h : ∀ j, j < n → ps.getD j 0 = f (zs.getD j 0)) : ps = zs.map f := by
  apply List.ext_getElem (by simp [h1, h2])
  intro j hj1 hj2
  have := h j (by omega)
  simp [List.getD, show j < ps.length by omega, show j < zs.length by omega] at this
  simpa using this
theorem set_each {f : Int → Int} {zs ps : List Int} {i : Nat} {z : Int} (hi : i < ps.length) (h : ∀ j, j < i → ps.getD j 0 = f (zs.getD j 0)) (hz : z = f (zs.getD i 0)) : ∀ j, j < i + 1 → (ps.set i z).getD j 0 = f (zs.getD j 0) := by
  intro j hj
  by_cases e : j = i
  · subst e
    rw [show (ps.set j z).getD j 0 = z by simp [List.getD, hi]]
    exact hz
  · rw [show (ps.set i z).getD j 0 = ps.getD j 0 by simp [List.getD, List.getElem?_set_ne (Ne.symm e)]]
    exact h j (by omega)

set_option maxHeartbeats 2000000 in
theorem primK (ao : Option Addr) (n cap : Nat) (zs : List Int) (k : Nat) (w : World) (h : VK w ao n cap zs k) (hk : k ≤ 900000) (hn : n ≤ 1000000) :
    Calls Try.prog 21 #[.slice ao n cap] w fun e w' => ∃ a1 c1, e = .returned (.slice a1 n c1) ∧ VF w' a1 n c1 (zs.map fun z => z.tdiv (gcdL zs : Int)) k ∧ Below w.heap.size w w' := by
  have hm := h.cap_max
  have hl := h.len_eq
  have HL := hide hl
  unfold maxLen at hm
  obtain ⟨G, eG⟩ : ∃ G : Int, G = (gcdL zs : Int) := ⟨_, rfl⟩
  rw [← eG]
  have EG := hide eG
  clear eG hl
  go_enter Try.func21, Try.ntmps21
  go_wp2_with fail
  refine (allK _ _ _ zs k _ h hk).mono ?_
  rintro e w1 ⟨b1, a1, l1, c1, rfl, h1, hb1⟩
  rw [← unhide EG] at h1
  obtain ⟨W, hWe⟩ : ∃ W, W = w1.alloc (.cells #[.bool b1, .slice a1 l1 c1] 24) := ⟨_, rfl⟩
  obtain ⟨B0, hb0⟩ := boxes1 w1 b1 a1 l1 c1 hWe
  have hsz := hb1.size
  have HB := hide (Below.step hb1 hb0)
  have hB0 := (unhide HB).size
  replace h1 := h1.later hb0
  go_wp2_with (at_make; refine make_vec rfl _ _ 36 Try.underlying36 rfl w.heap.size .i64 .i64 _ _ n k rfl rfl (by omega) (by omega) (by omega) (by simp; omega) ?_)
  intro w2 hown hgrow
  rw [← hWe] at hgrow
  have hb2 : Below W.heap.size W w2 := (Below.refl _ _).grown hgrow (Nat.le_refl _) (fun _ h => by simp at h)
  replace HB := hide (Below.step (unhide HB) hb2)
  replace B0 := B0.later hb2
  replace h1 := h1.later hb2
  clear hgrow hb2 hb0 hWe hb1
  obtain ⟨gv, egv⟩ : ∃ gv, gv = w1.heap.size + 1 := ⟨_, rfl⟩
  rw [← egv] at hown ⊢
  have hgb : w1.heap.size < gv := by omega
  clear egv hB0
  go_wp2_with fail
  go_loopw [14] (fun t wr => ∃ (i : Nat) (ps : List Int), i ≤ n ∧ t = .int .i64 (i : Int) ∧ Box wr w1.heap.size b1 a1 l1 c1 ∧ FK wr b1 a1 l1 c1 G k ∧ OwnV wr w.heap.size (some ⟨gv, 0, none⟩) n n ps k ∧ (∀ j, j < i → ps.getD j 0 = (zs.getD j 0).tdiv G) ∧ Below w.heap.size w wr) (fun t _ => n - (intOf t).toNat)
  case atStart => exact ⟨0, _, Nat.zero_le _, rfl, B0, h1, hown, fun j hj => absurd hj (by omega), unhide HB⟩
  case round =>
    obtain ⟨i, ps, hi, rfl, C0, h2, hv, hall, hB⟩ := hrel
    have HA := hide hall
    clear hall hown h1 B0 HB
    have HB := hide hB
    clear hB
    by_cases hlt : i < n
    · obtain ⟨g, off, rfl⟩ := h.some (by omega)
      obtain ⟨b2, a2, l2, c2, he, hy⟩ := (h.later (unhide HB)).at hlt
      obtain ⟨f1, f2⟩ := he.facts
      have hg1 := he.1
      obtain ⟨f3, f4, _, _⟩ := C0.facts
      have hs1 := C0.lt
      go_wp2_with fail
      obtain ⟨W2, hW2⟩ : ∃ W2, W2 = wr.alloc (.cells #[.bool b2, .slice a2 l2 c2] 24) := ⟨_, rfl⟩
      obtain ⟨D0, hb1⟩ := boxes1 wr b2 a2 l2 c2 hW2
      rw [← hW2]
      clear hW2 f1 f2 f3 f4 he
      replace C0 := C0.later hb1
      replace hv := hv.later hb1
      replace h2 := h2.later hb1
      replace hy := hy.later hb1
      replace HB := hide (Below.step (unhide HB) hb1)
      clear hb1 D0
      refine (quoA _ _ _ _ (zs.getD i 0) k _ _ _ _ G k _ hy (h2.ik (by omega))).mono ?_
      rintro e w3 ⟨b3, a3, l3, c3, b4, a4, l4, c4, q, rfl, h3, hb1⟩
      replace C0 := C0.later hb1
      replace hv := hv.later hb1
      replace h2 := h2.later hb1
      replace HB := hide (Below.step (unhide HB) hb1)
      clear hb1 hy
      have hcell := hv.vf.at hlt
      obtain ⟨b5, a5, l5, c5, he5, _⟩ := hcell
      rw [Nat.zero_add] at he5
      obtain ⟨q1, q2⟩ := he5.facts
      have q3 := hv.free (i * 2)
      have q4 := hv.free (i * 2 + 1)
      have hbl := hv.base_le
      go_wp2
      go_roundw
      case rel =>
        have hgr := grown_set2 w3 gv (i * 2) (i * 2 + 1) (.bool b3) (.slice a3 l3 c3)
        have hnl : ∀ g', some gv = some g' → NoLimb w3 g' := fun g' e => by
          simp only [Option.some.injEq] at e
          subst e
          exact hv.noLimb
        refine ⟨i + 1, ps.set i ((zs.getD i 0).tdiv G), by omega, by go_num, C0.grown hgr (fun e => by simp only [Option.some.injEq] at e; omega), h2.grown hgr hnl, hv.set hlt h3, set_each (f := fun z => z.tdiv G) (zs := zs) (by rw [hv.len]; exact hlt) (unhide HA) rfl, ?_⟩
        exact ((unhide HB).setCell (by simpa using hbl.1) _).setCell (by simpa using hbl.1) _
      case measure => simp [intOf]; omega
    · have hin : i = n := by omega
      subst hin
      have hps := map_of_each (f := fun z => z.tdiv G) (unhide HL) hv.len (unhide HA)
      subst hps
      go_wp2
      go_ret
      exact ⟨_, _, rfl, hv.vf, unhide HB⟩

#print axioms primK
end Go.Proofs.Ytobiogedknmijaa
