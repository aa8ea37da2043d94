/-
  What Few of the seventh stage's statements tells: no vector has more than 70 places, no number more than 12 limbs; what awake tells: true.
-/
import Derived.Test.YtdbimajopclndaaMat
import Derived.Test.YtdbimajopclndaaVAdd
import Derived.Test.YtdbimajopclndaaRVRow
namespace Go.Proofs.Ytdbimajopclndaa
open Go.RowKit Lb

/-- At most 70 places, each of at most 12 limbs. -/
def Short (w : World) (a : Option Addr) (l : Nat) : Prop := l ≤ 70 ∧ ∀ j g off b a' l' c', j < l → a = some ⟨g, off, none⟩ → EltAt w g (off + j * 2) b a' l' c' → l' ≤ 12
theorem elt_len {w : World} {g o : Nat} {b b' : Bool} {a a' : Option Addr} {l l' c c' : Nat} (h : EltAt w g o b a l c) (h' : EltAt w g o b' a' l' c') : l = l' := by
  have e := h.2.2.symm.trans h'.2.2
  simp only [Option.some.injEq, Value.slice.injEq] at e
  exact e.2.1
theorem addr_inj {g g' o o' : Nat} (e : (some ⟨g, o, none⟩ : Option Addr) = some ⟨g', o', none⟩) : g = g' ∧ o = o' := by
  simp only [Option.some.injEq, Addr.mk.injEq, and_true] at e
  exact e
/-- A vector that came in, told short in a later world: so it is in each later world. -/
theorem vs_later {w w1 : World} {ao : Option Addr} {n cap : Nat} {zs : List Int} (h : VI w ao n cap zs) (hb1 : Below w.heap.size w w1) (hs : Short w1 ao n) : ∀ w', Below w.heap.size w w' → VS w' ao n cap zs 12 := by
  intro w' hb
  refine ⟨h.len_eq, h.cap_le, h.cap_max, h.nil_cap, fun hp => ?_⟩
  obtain ⟨g, off, e, hg, hc⟩ := h.elts hp
  refine ⟨g, off, e, Nat.lt_of_lt_of_le hg hb.size, fun i hi => ?_⟩
  obtain ⟨b, a, l, c, h1, h2⟩ := hc i hi
  have hl := hs.2 i g off b a l c hi e (h1.later hb1)
  exact ⟨b, a, l, c, h1.later hb, ik_of (h2.later hb) hl (by omega), hl⟩

set_option maxHeartbeats 1600000 in
theorem few7_any (ao : Option Addr) (n cap : Nat) (rs : List (List Int)) (w : World) (h : MI w ao n cap rs) :
    Calls Try.prog 9 #[.slice ao n cap] w fun e w' => ∃ q, e = .returned (.int .i64 q) ∧ (q = 0 ∨ q = 1) ∧ (q = 0 → ∀ i g off a l c, i < n → ao = some ⟨g, off, none⟩ → w.cell? ⟨g, off + i, none⟩ = some (.slice a l c) → Short w a l) ∧ Below w.heap.size w w' := by
  have hm := Nat.le_trans h.cap_le h.cap_max
  unfold maxLen at hm
  go_enter Try.func9, Try.ntmps9
  go_wp2_with fail
  go_loopw [9] (fun t wr => ∃ i : Nat, i ≤ n ∧ t = .int .i64 (i : Int) ∧ (∀ i' g off a l c, i' < i → ao = some ⟨g, off, none⟩ → w.cell? ⟨g, off + i', none⟩ = some (.slice a l c) → Short w a l) ∧ Below w.heap.size w wr) (fun t _ => n - (intOf t).toNat)
  case atStart => exact ⟨0, by omega, rfl, fun i' _ _ _ _ _ hi => absurd hi (by omega), Below.refl _ _⟩
  case round =>
    obtain ⟨i, hi, rfl, hall, hbel⟩ := hrel
    have HA := hide hall
    clear hall
    by_cases hlt : i < n
    · obtain ⟨g, off, rfl⟩ := h.addr (by omega)
      obtain ⟨hg, a2, l2, c2, hc, hv⟩ := RowsOf.at (R := VI) h hlt
      have hml := Nat.le_trans hv.cap_le hv.cap_max
      unfold maxLen at hml
      have f1 := (hbel.cell (p := ⟨g, off + i, none⟩) hg).trans hc
      have HC := hide hc
      have hgr := Nat.lt_of_lt_of_le hg hbel.size
      clear hc
      by_cases h70 : l2 ≤ 70
      · have h70' : ¬ (70 < (l2 : Int)) := by omega
        go_wp2_with fail
        clear f1 hgr
        go_loopw [18] (fun t wr => ∃ j : Nat, j ≤ l2 ∧ t = .int .i64 (j : Int) ∧ (∀ j' g' off' b a l c, j' < j → a2 = some ⟨g', off', none⟩ → EltAt w g' (off' + j' * 2) b a l c → l ≤ 12) ∧ Below w.heap.size w wr) (fun t _ => l2 - (intOf t).toNat)
        case atStart => exact ⟨0, by omega, rfl, fun j' _ _ _ _ _ _ hj => absurd hj (by omega), hbel⟩
        case round =>
          clear hbel
          obtain ⟨j, hj, rfl, hall, hbel⟩ := hrel
          have HJ := hide hall
          clear hall
          by_cases hjl : j < l2
          · obtain ⟨g2, off2, rfl⟩ := hv.some (by omega)
            obtain ⟨b3, a3, l3, c3, he0, hy⟩ := VI.at hv hjl
            have hml3 := hy.cap_max
            unfold maxLen at hml3
            have he := he0.later hbel
            obtain ⟨f1, f2⟩ := he.facts
            have hg1 := he.1
            by_cases h12 : l3 ≤ 12
            · have h12' : ¬ (12 < (l3 : Int)) := by omega
              go_wp2
              go_roundw
              case rel =>
                refine ⟨j + 1, by omega, by go_num, fun j' g' off' b a l c hj' e he' => ?_, hbel.alloc hbel.size _⟩
                by_cases ej : j' = j
                · subst ej
                  obtain ⟨rfl, rfl⟩ := addr_inj e
                  rw [elt_len he' he0]
                  exact h12
                · exact (unhide HJ) j' g' off' b a l c (by omega) e he'
              case measure => simp [intOf]; omega
            · have h12' : 12 < (l3 : Int) := by omega
              go_wp2
              go_ret
              exact ⟨1, rfl, Or.inr rfl, fun e => absurd e (by omega), hbel.alloc hbel.size _⟩
          · have hin : j = l2 := by omega
            subst hin
            go_wp2
            go_roundw
            case rel =>
              refine ⟨i + 1, by omega, by go_num, fun i' g' off' a l c hi' e hc' => ?_, hbel⟩
              by_cases ei : i' = i
              · subst ei
                obtain ⟨rfl, rfl⟩ := addr_inj e
                have e2 := hc'.symm.trans (unhide HC)
                simp only [Option.some.injEq, Value.slice.injEq] at e2
                obtain ⟨rfl, rfl, rfl⟩ := e2
                exact ⟨h70, fun j' g'' off'' b a' l' c' hj' e' he' => (unhide HJ) j' g'' off'' b a' l' c' hj' e' he'⟩
              · exact (unhide HA) i' g' off' a l c (by omega) e hc'
            case measure => simp [intOf]; omega
      · have h70' : 70 < (l2 : Int) := by omega
        go_wp2
        go_ret
        exact ⟨1, rfl, Or.inr rfl, fun e => absurd e (by omega), hbel⟩
    · have hin : i = n := by omega
      subst hin
      go_wp2
      go_ret
      exact ⟨0, rfl, Or.inl rfl, fun _ => unhide HA, hbel⟩

/-- A slice of ints that was just made. -/
theorem irow_new {w : World} {zs : List Int} {t : TypeId} {n m : Nat} (hm : m = zs.length) (hn : n = w.heap.size) (hs : zs.length ≤ 1000) (hr : ∀ i, -9223372036854775808 ≤ zs.getD i 0 ∧ zs.getD i 0 ≤ 9223372036854775807) :
    IRowAt (w.alloc (.cells (zs.map fun z => Value.int .i64 z).toArray t)) (some ⟨n, 0, none⟩) m m zs := by
  subst hn hm
  refine ⟨rfl, Nat.le_refl _, by unfold maxLen; omega, fun e => by simp at e, hr, fun _ => ⟨w.heap.size, 0, rfl, by simp, fun i hi => ?_⟩⟩
  rw [Nat.zero_add]
  simp [List.getD, hi]
theorem small_all {zs : List Int} (h : ∀ z ∈ zs, -9223372036854775808 ≤ z ∧ z ≤ 9223372036854775807) (i : Nat) : -9223372036854775808 ≤ zs.getD i 0 ∧ zs.getD i 0 ≤ 9223372036854775807 := by
  by_cases hi : i < zs.length
  · have e : zs.getD i 0 = zs[i] := by simp [List.getD, hi]
    rw [e]
    exact h _ (List.getElem_mem hi)
  · rw [getD_out (by omega)]; omega

set_option maxHeartbeats 1600000 in
theorem awake7_any (w : World) : Calls Try.prog 10 #[] w fun e w' => e = .returned (.bool true) ∧ Below w.heap.size w w' := by
  have HB := hide (Below.refl w.heap.size w)
  go_enter Try.func10, Try.ntmps10
  go_wp2_with fail
  have hbv := below_new w (.cells #[.int .i64 1] 3)
  have r1 := irow_new (w := w) (zs := [1]) (t := 3) (n := w.heap.size) (m := 1) rfl rfl (by simp) (small_all (by simp))
  refine (rvofK _ _ _ [1] _ r1 (by omega)).mono ?_
  rintro e w1 ⟨a1, c1, rfl, h1, hb1⟩
  replace HB := hide (Below.step (unhide HB) (Below.step hbv hb1))
  clear hbv hb1 r1
  go_wp2_with fail
  have hbv := below_new w1 (.cells #[.int .i64 2, .int .i64 3] 3)
  have r1 := irow_new (w := w1) (zs := [2, 3]) (t := 3) (n := w1.heap.size) (m := 2) rfl rfl (by simp) (small_all (by simp))
  refine (rvofK _ _ _ [2, 3] _ r1 (by omega)).mono ?_
  rintro e w2 ⟨a2, c2, rfl, h2, hb1⟩
  replace hb1 := Below.step hbv hb1
  replace h1 := h1.later hb1
  replace HB := hide (Below.step (unhide HB) hb1)
  clear hbv hb1 r1
  go_wp2_with fail
  refine (vaddK _ _ _ [1] 2 _ _ _ [2, 3] 2 _ (h1.vk (by omega)) (h2.vk (by omega)) (by omega) (by omega) (by omega) (by omega)).mono ?_
  rintro e w3 ⟨a3, c3, rfl, h3, hb1⟩
  replace HB := hide (Below.step (unhide HB) hb1)
  clear hb1 h1 h2
  obtain ⟨n3, e3⟩ : ∃ n3, n3 = max 1 2 := ⟨_, rfl⟩
  rw [← e3] at h3 ⊢
  clear e3
  go_wp2_with fail
  have hbv := below_new w3 (.cells #[.int .i64 3, .int .i64 3] 3)
  have r1 := irow_new (w := w3) (zs := [3, 3]) (t := 3) (n := w3.heap.size) (m := 2) rfl rfl (by simp) (small_all (by simp))
  refine (rvofK _ _ _ [3, 3] _ r1 (by omega)).mono ?_
  rintro e w4 ⟨a4, c4, rfl, h4, hb1⟩
  replace hb1 := Below.step hbv hb1
  replace h3 := h3.later hb1
  replace HB := hide (Below.step (unhide HB) hb1)
  clear hbv hb1 r1
  go_wp2_with fail
  refine (rvsameK _ _ _ (vadd [1] [2, 3]) _ _ _ _ [3, 3] _ _ h3 h4 (by decide)).mono ?_
  rintro e w5 ⟨rfl, hb1⟩
  go_wp2
  go_ret
  exact ⟨rfl, Below.step (unhide HB) hb1⟩

#print axioms few7_any
#print axioms awake7_any
end Go.Proofs.Ytdbimajopclndaa
