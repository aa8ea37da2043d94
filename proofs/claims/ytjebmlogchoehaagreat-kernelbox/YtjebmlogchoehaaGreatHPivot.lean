/-
  What isRest, pivot and stepOf of package hnf tell, and the library's IndexFunc, by which pivot goes.
-/
import Derived.Test.YtjebmlogchoehaaGreatHLay
import Derived.Test.YtjebmlogchoehaaGreatHSteps
import Derived.Test.YtjebmlogchoehaaGreatJE
namespace Go.Proofs.YtjebmlogchoehaaGreat
open Go.RowKit Lb
set_option maxRecDepth 20000

theorem sgn_geH {x : Int} (h : 0 ≤ x) : ¬ x.sign < 0 := by
  rcases Int.lt_trichotomy x 0 with c | c | c
  · omega
  · rw [c]; decide
  · rw [Int.sign_eq_one_of_pos c]; decide
set_option maxHeartbeats 1000000 in
theorem isRestK (b : Bool) (aa : Option Addr) (la ca : Nat) (x : Int) (k : Nat) (b' : Bool) (ab : Option Addr) (lb cb : Nat) (y : Int) (l : Nat) (q : Bool) (w : World) (hx : IK w b aa la ca x k) (hy : IK w b' ab lb cb y l) (hq : q = decide (0 ≤ x ∧ x < y)) :
    Calls Tryz.prog 102 #[.agg #[.bool b, .slice aa la ca], .agg #[.bool b', .slice ab lb cb]] w fun e w' => e = .returned (.bool q) ∧ Below w.heap.size w w' := by
  have HQ := hide hq
  clear hq
  obtain ⟨s, es⟩ : ∃ s, s = x.sign := ⟨_, rfl⟩
  have ES := hide es
  obtain ⟨d, ed⟩ : ∃ d, d = (x - y).sign := ⟨_, rfl⟩
  have ED := hide ed
  clear ed
  go_enter Tryz.func102, Tryz.ntmps102
  go_wp2_with fail
  obtain ⟨W, hWe⟩ : ∃ W, W = (w.alloc (.cells #[.bool b, .slice aa la ca] 39)).alloc (.cells #[.bool b', .slice ab lb cb] 39) := ⟨_, rfl⟩
  obtain ⟨B0, B1, hb0⟩ := boxes2 w b aa la ca b' ab lb cb hWe
  rw [← hWe]
  clear hWe
  refine (signK b aa la ca x k s _ (hx.later hb0) (unhide ES)).mono ?_
  rintro e w1 ⟨rfl, hb1⟩
  replace B0 := B0.later hb1
  replace B1 := B1.later hb1
  have HB := hide (Below.step hb0 hb1)
  clear hb0 hb1
  by_cases h0 : 0 ≤ x
  · have hs : ¬ s < 0 := by rw [es]; exact sgn_geH h0
    have hs' : 0 ≤ s := by omega
    clear es
    obtain ⟨f1, f2, _, _⟩ := B0.facts
    obtain ⟨f3, f4, _, _⟩ := B1.facts
    have hl0 := B0.lt
    have hl1 := B1.lt
    go_wp2_with fail
    refine (cmpK b aa la ca x k b' ab lb cb y l d _ (hx.later (unhide HB)) (hy.later (unhide HB)) (unhide ED)).mono ?_
    rintro e w2 ⟨rfl, hb1⟩
    clear f1 f2 f3 f4 hl0 hl1
    replace HB := hide (Below.step (unhide HB) hb1)
    clear hb1
    by_cases h1 : x < y
    · have hd : d < 0 := by rw [unhide ED, Int.sign_eq_neg_one_of_neg (by omega)]; omega
      have hqt : q = true := by rw [unhide HQ]; exact decide_eq_true ⟨h0, h1⟩
      subst hqt
      go_wp2
      go_ret
      exact ⟨rfl, unhide HB⟩
    · have hd : decide (d < 0) = false := decide_eq_false (by rw [unhide ED]; exact sgn_geH (by omega))
      have hqt : q = false := by rw [unhide HQ]; exact decide_eq_false (fun h => h1 h.2)
      subst hqt
      go_wp2
      go_ret
      exact ⟨rfl, unhide HB⟩
  · have hs : s < 0 := by rw [es, Int.sign_eq_neg_one_of_neg (by omega)]; omega
    have hs' : ¬ 0 ≤ s := by omega
    clear es
    have hqt : q = false := by rw [unhide HQ]; exact decide_eq_false (fun h => h0 h.1)
    subst hqt
    go_wp2
    go_ret
    exact ⟨rfl, unhide HB⟩

set_option maxHeartbeats 1000000 in
theorem notZeroK (b : Bool) (aa : Option Addr) (la ca : Nat) (x : Int) (k : Nat) (q : Bool) (w : World) (hx : IK w b aa la ca x k) (hq : q = decide (x ≠ 0)) :
    Calls Tryz.prog 112 #[.agg #[.bool b, .slice aa la ca]] w fun e w' => e = .returned (.bool q) ∧ Below w.heap.size w w' := by
  have HQ := hide hq
  clear hq
  obtain ⟨s, es⟩ : ∃ s, s = x.sign := ⟨_, rfl⟩
  have ES := hide es
  go_enter Tryz.func112, Tryz.ntmps112
  go_wp2_with fail
  obtain ⟨W, hWe⟩ : ∃ W, W = w.alloc (.cells #[.bool b, .slice aa la ca] 39) := ⟨_, rfl⟩
  obtain ⟨B0, hb0⟩ := boxes1 w b aa la ca hWe
  rw [← hWe]
  clear hWe
  refine (signK b aa la ca x k s _ (hx.later hb0) (unhide ES)).mono ?_
  rintro e w1 ⟨rfl, hb1⟩
  have HB := hide (Below.step hb0 hb1)
  clear hb0 hb1 B0
  by_cases h0 : x = 0
  · have hs : (s != 0) = false := by rw [es, h0]; rfl
    clear es
    have hqt : q = false := by rw [unhide HQ]; exact decide_eq_false (fun h => h h0)
    subst hqt
    go_wp2
    go_ret
    exact ⟨rfl, unhide HB⟩
  · have hs : (s != 0) = true := by
      rw [bne_iff_ne, es]
      exact fun e => h0 (Int.sign_eq_zero_iff_zero.1 e)
    clear es
    have hqt : q = true := by rw [unhide HQ]; exact decide_eq_true h0
    subst hqt
    go_wp2
    go_ret
    exact ⟨rfl, unhide HB⟩

theorem pivZ_at {v : List Int} {i : Nat} (h : ∀ j, j < i → v.getD j 0 = 0) (hi : v.getD i 0 ≠ 0) : PivZ v (i : Int) := Or.inr ⟨i, rfl, h, hi⟩
theorem pivZ_none {v : List Int} {n : Nat} (hl : v.length = n) (h : ∀ j, j < n → v.getD j 0 = 0) : PivZ v (-1) := Or.inl ⟨rfl, fun j => by
  rcases Nat.lt_or_ge j n with c | c
  · exact h j c
  · exact getD_out (by omega)⟩
set_option maxHeartbeats 1600000 in
theorem indexK (ao : Option Addr) (n cap : Nat) (zs : List Int) (k : Nat) (w : World) (h : VK w ao n cap zs k) :
    Calls Tryz.prog 111 #[.slice ao n cap, .func (.func 112) #[] #[]] w fun e w' => ∃ z, e = .returned (.int .i64 z) ∧ PivZ zs z ∧ Below w.heap.size w w' := by
  have HL := hide h.len_eq
  have hm := Nat.le_trans h.cap_le h.cap_max
  unfold maxLen at hm
  go_enter Tryz.func111, Tryz.ntmps111
  go_wp2_with fail
  go_loopw [8] (fun t wr => ∃ (i : Nat), i ≤ n ∧ t = .int .i64 (i : Int) ∧ (∀ j, j < i → zs.getD j 0 = 0) ∧ Below w.heap.size w wr) (fun t _ => n - (intOf t).toNat)
  case atStart => exact ⟨0, Nat.zero_le _, rfl, fun j hj => absurd hj (by omega), Below.refl _ _⟩
  case round =>
    obtain ⟨i, hi, rfl, hall, hB⟩ := hrel
    have HA := hide hall
    clear hall
    have HB := hide hB
    clear hB
    by_cases hlt : i < n
    · obtain ⟨g, off, rfl⟩ := h.some (by omega)
      obtain ⟨b2, a2, l2, c2, he, hy⟩ := (h.later (unhide HB)).at hlt
      obtain ⟨f1, f2⟩ := he.facts
      have hg1 := he.1
      obtain ⟨z, ez⟩ : ∃ z, z = zs.getD i 0 := ⟨_, rfl⟩
      rw [← ez] at hy
      have EZ := hide ez
      clear ez
      obtain ⟨q, eq⟩ : ∃ q, q = decide (z ≠ 0) := ⟨_, rfl⟩
      have EQ := hide eq
      clear eq
      go_wp2_with fail
      refine (notZeroK b2 a2 l2 c2 z k q _ hy (unhide EQ)).mono ?_
      rintro e w3 ⟨rfl, hb1⟩
      replace HB := hide (Below.step (unhide HB) hb1)
      clear hb1 hy f1 f2 he hg1
      by_cases h0 : z = 0
      · have hq : q = false := by rw [unhide EQ]; exact decide_eq_false (fun h => h h0)
        subst hq
        go_wp2
        go_roundw
        case rel =>
          refine ⟨i + 1, by omega, by go_num, fun j hj => ?_, unhide HB⟩
          by_cases c : j = i
          · subst c; rw [← unhide EZ]; exact h0
          · exact unhide HA j (by omega)
        case measure => simp [intOf]; omega
      · have hq : q = true := by rw [unhide EQ]; exact decide_eq_true h0
        subst hq
        go_wp2
        go_ret
        exact ⟨_, rfl, pivZ_at (unhide HA) (by rw [← unhide EZ]; exact h0), unhide HB⟩
    · have hin : i = n := by omega
      subst hin
      go_wp2
      go_ret
      exact ⟨_, rfl, pivZ_none (unhide HL) (unhide HA), unhide HB⟩
theorem pivotK (ao : Option Addr) (n cap : Nat) (zs : List Int) (k : Nat) (w : World) (h : VK w ao n cap zs k) :
    Calls Tryz.prog 100 #[.slice ao n cap] w fun e w' => ∃ z, e = .returned (.int .i64 z) ∧ PivZ zs z ∧ Below w.heap.size w w' := by
  go_enter Tryz.func100, Tryz.ntmps100
  go_wp2_with fail
  refine (indexK ao n cap zs k _ h).mono ?_
  rintro e w1 ⟨z, rfl, hp, hb1⟩
  go_wp2
  go_ret
  exact ⟨_, rfl, hp, hb1⟩
set_option maxHeartbeats 1000000 in
theorem stepOfK (ao : Option Addr) (n cap : Nat) (zs : List Int) (k : Nat) (w : World) (h : VK w ao n cap zs k) (hk : k ≤ 900000) (hn : n ≤ 1000000) :
    Calls Tryz.prog 93 #[.slice ao n cap] w fun e w' => ∃ z a1 c1, e = .returned (.agg #[.int .i64 z, .slice a1 n c1]) ∧ PivZ zs z ∧ VF w' a1 n c1 (vnormal zs) k ∧ Below w.heap.size w w' := by
  go_enter Tryz.func93, Tryz.ntmps93
  go_wp2_with fail
  obtain ⟨W, hWe⟩ : ∃ W, W = w.alloc (.cells #[.int .i64 0, .slice none 0 0] 79) := ⟨_, rfl⟩
  have B0 : SBox W w.heap.size 0 none 0 0 := by rw [hWe]; exact sbox_new w 0 none 0 0 rfl
  have hb0 : Below w.heap.size w W := by rw [hWe]; exact below_new _ _
  rw [← hWe]
  clear hWe
  refine (pivotK ao n cap zs k _ (h.later hb0)).mono ?_
  rintro e w1 ⟨z, rfl, hp, hb1⟩
  replace B0 := B0.later hb1
  have HB := hide (Below.step hb0 hb1)
  have HP := hide hp
  clear hb0 hb1 hp
  go_wp2_with fail
  refine (normalK ao n cap zs k _ (h.later (unhide HB)) hk hn).mono ?_
  rintro e w2 ⟨a1, c1, rfl, h1, hb1⟩
  replace B0 := B0.later hb1
  replace HB := hide (Below.step (unhide HB) hb1)
  clear hb1
  obtain ⟨q1, q2, q3, q4⟩ := B0.facts
  have hlt := B0.lt
  go_wp2
  refine bodyPost_ret (v := .agg #[.int .i64 z, .slice a1 n c1]) (by simp [results, Tryz.results93, go_sem, *]) rfl ?_
  refine ⟨_, _, _, rfl, unhide HP, vf_step h1 (grown_sput w2 w.heap.size z a1 n c1) B0.onlyStep, ?_⟩
  exact ((unhide HB).setCell (by simp) _).setCell (by simp) _

#print axioms isRestK
#print axioms stepOfK
end Go.Proofs.YtjebmlogchoehaaGreat
