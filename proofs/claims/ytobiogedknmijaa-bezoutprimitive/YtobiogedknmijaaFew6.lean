/-
  What few of the sixth stage's statements tells: no number has more than 6 limbs, and there are at most 20.
-/
import Derived.Test.YtobiogedknmijaaVec
namespace Go.Proofs.Ytobiogedknmijaa
open Go.RowKit Lb

set_option maxHeartbeats 1000000 in
theorem few6_any (ao : Option Addr) (n cap : Nat) (zs : List Int) (w : World) (h : VI w ao n cap zs) :
    Calls Try.prog 8 #[.slice ao n cap] w fun e w' => ∃ q, e = .returned (.bool q) ∧ (q = true → n ≤ 20 ∧ VK w' ao n cap zs 6 ∧ ∀ i g off b a l c, i < n → ao = some ⟨g, off, none⟩ → EltAt w g (off + i * 2) b a l c → l ≤ 6) ∧ Below w.heap.size w w' := by
  have hm := Nat.le_trans h.cap_le h.cap_max
  unfold maxLen at hm
  go_enter Try.func8, Try.ntmps8
  go_wp2
  go_loopw [7] (fun t wr => ∃ i : Nat, i ≤ n ∧ t = .int .i64 (i : Int) ∧ (∀ j, j < i → ∃ g off b a l c, ao = some ⟨g, off, none⟩ ∧ EltAt w g (off + j * 2) b a l c ∧ l ≤ 6) ∧ Below w.heap.size w wr) (fun t _ => n - (intOf t).toNat)
  case atStart => exact ⟨0, by omega, rfl, fun i hi => absurd hi (by omega), Below.refl _ _⟩
  case round =>
    obtain ⟨i, hi, rfl, hall, hbel⟩ := hrel
    have HA := hide hall
    clear hall
    by_cases hlt : i < n
    · obtain ⟨g, off, rfl⟩ := h.some (by omega)
      obtain ⟨b2, a2, l2, c2, he0, hy⟩ := h.at hlt
      have hml := hy.cap_max
      unfold maxLen at hml
      have he := he0.later hbel
      obtain ⟨f1, f2⟩ := he.facts
      have hg1 := he.1
      by_cases h20 : l2 ≤ 6
      · have h20' : ¬ (6 < (l2 : Int)) := by omega
        go_wp2
        go_roundw
        case rel =>
          refine ⟨i + 1, by omega, by go_num, fun j hj => ?_, hbel.alloc hbel.size _⟩
          by_cases e : j = i
          · subst e; exact ⟨g, off, b2, a2, l2, c2, rfl, he0, h20⟩
          · exact (unhide HA) j (by omega)
        case measure => simp [intOf]; omega
      · have h20' : 6 < (l2 : Int) := by omega
        go_wp2
        go_ret
        exact ⟨false, rfl, fun e => by simp at e, hbel.alloc hbel.size _⟩
    · have hin : i = n := by omega
      subst hin
      go_wp2
      go_ret
      refine ⟨_, rfl, fun hq => ?_, hbel⟩
      have hq' : i ≤ 20 := by
        have hq2 : (i : Int) ≤ 20 := by simpa using hq
        omega
      have hsix : ∀ i' g off b a l c, i' < i → ao = some ⟨g, off, none⟩ → EltAt w g (off + i' * 2) b a l c → l ≤ 6 := by
        intro i' g off b a l c hi' e he
        obtain ⟨g', off', b', a', l', c', e1, he', hl'⟩ := (unhide HA) i' hi'
        rw [e] at e1
        simp only [Option.some.injEq, Addr.mk.injEq, and_true] at e1
        obtain ⟨rfl, rfl⟩ := e1
        have e2 := he.2.2.symm.trans he'.2.2
        simp only [Option.some.injEq, Value.slice.injEq] at e2
        obtain ⟨_, rfl, _⟩ := e2
        exact hl'
      refine ⟨hq', ⟨h.len_eq, h.cap_le, h.cap_max, h.nil_cap, fun hp => ?_⟩, hsix⟩
      obtain ⟨g, off, rfl⟩ := h.some hp
      obtain ⟨_, _, e0, hg, _⟩ := h.elts hp
      simp only [Option.some.injEq, Addr.mk.injEq, and_true] at e0
      obtain ⟨rfl, rfl⟩ := e0
      refine ⟨_, _, rfl, Nat.lt_of_lt_of_le hg hbel.size, fun j hj => ?_⟩
      obtain ⟨b2, a2, l2, c2, he, hy⟩ := h.at hj
      exact ⟨_, _, _, _, he.later hbel, ik_of (hy.later hbel) (hsix _ _ _ _ _ _ _ hj rfl he) (by omega)⟩
/-- A vector that came in, told short: so it is in each later world. -/
theorem vk_later {w : World} {ao : Option Addr} {n cap : Nat} {zs : List Int} (h : VI w ao n cap zs) (hsix : ∀ i g off b a l c, i < n → ao = some ⟨g, off, none⟩ → EltAt w g (off + i * 2) b a l c → l ≤ 6) : ∀ w', Below w.heap.size w w' → VK w' ao n cap zs 6 := by
  intro w' hb
  refine ⟨h.len_eq, h.cap_le, h.cap_max, h.nil_cap, fun hp => ?_⟩
  obtain ⟨g, off, e, hg, hc⟩ := h.elts hp
  refine ⟨g, off, e, Nat.lt_of_lt_of_le hg hb.size, fun i hi => ?_⟩
  obtain ⟨b, a, l, c, h1, h2⟩ := hc i hi
  exact ⟨b, a, l, c, h1.later hb, ik_of (h2.later hb) (hsix i g off b a l c hi e h1) (by omega)⟩
theorem elts_new1 {w : World} {b0 : Bool} {a0 : Option Addr} {l0 c0 n : Nat} (hn : n = w.heap.size) : EltAt (w.alloc (.cells #[.bool b0, .slice a0 l0 c0] 24)) n 0 b0 a0 l0 c0 := by
  subst hn
  exact ⟨by simp, by simp, by simp⟩
theorem elts_new2 {w : World} {b0 b1 : Bool} {a0 a1 : Option Addr} {l0 c0 l1 c1 n : Nat} (hn : n = w.heap.size) : EltAt (w.alloc (.cells #[.bool b0, .slice a0 l0 c0, .bool b1, .slice a1 l1 c1] 24)) n 0 b0 a0 l0 c0 ∧ EltAt (w.alloc (.cells #[.bool b0, .slice a0 l0 c0, .bool b1, .slice a1 l1 c1] 24)) n 2 b1 a1 l1 c1 := by
  subst hn
  exact ⟨⟨by simp, by simp, by simp⟩, ⟨by simp, by simp, by simp⟩⟩
theorem elts_new3 {w : World} {b0 b1 b2 : Bool} {a0 a1 a2 : Option Addr} {l0 c0 l1 c1 l2 c2 n : Nat} (hn : n = w.heap.size) : EltAt (w.alloc (.cells #[.bool b0, .slice a0 l0 c0, .bool b1, .slice a1 l1 c1, .bool b2, .slice a2 l2 c2] 24)) n 0 b0 a0 l0 c0 ∧ EltAt (w.alloc (.cells #[.bool b0, .slice a0 l0 c0, .bool b1, .slice a1 l1 c1, .bool b2, .slice a2 l2 c2] 24)) n 2 b1 a1 l1 c1 ∧ EltAt (w.alloc (.cells #[.bool b0, .slice a0 l0 c0, .bool b1, .slice a1 l1 c1, .bool b2, .slice a2 l2 c2] 24)) n 4 b2 a2 l2 c2 := by
  subst hn
  exact ⟨⟨by simp, by simp, by simp⟩, ⟨by simp, by simp, by simp⟩, ⟨by simp, by simp, by simp⟩⟩

#print axioms few6_any
end Go.Proofs.Ytobiogedknmijaa
