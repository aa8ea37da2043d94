/-
  The walk of WholeSums: it tells true.
-/
import Derived.Test.YtkhcanhdbalihaaFew4
import Derived.Test.YtkhcanhdbalihaaAwake4
import Derived.Test.YtkhcanhdbalihaaWCmp
import Derived.Test.YtkhcanhdbalihaaWMul
namespace Go.Proofs.Ytkhcanhdbalihaa
open Go.RowKit Lb

theorem intsIn2 {w : World} (b0 : Bool) (a0 : Option Addr) (len0 cap0 : Nat) (b1 : Bool) (a1 : Option Addr) (len1 cap1 : Nat) {n : Nat} (hn : n = w.heap.size) :
    IntsIn (w.alloc (.cells #[.bool b0, .slice a0 len0 cap0, .bool b1, .slice a1 len1 cap1] 24)) n 2 (fun i => if i = 0 then b0 else b1) (fun i => if i = 0 then a0 else a1) (fun i => if i = 0 then len0 else len1) (fun i => if i = 0 then cap0 else cap1) := by
  subst hn
  intro i hi
  match i with
  | 0 => simp
  | 1 => simp

set_option maxRecDepth 20000 in
set_option maxHeartbeats 4000000 in
theorem wholeSums_walk (b0 : Bool) (a0 : Option Addr) (len0 cap0 : Nat) (xs0 : List Nat) (b1 : Bool) (a1 : Option Addr) (len1 cap1 : Nat) (xs1 : List Nat) (w : World) (r0 : RowAt w a0 len0 cap0 xs0) (r1 : RowAt w a1 len1 cap1 xs1) :
    Calls Try.prog 4 #[.agg #[.bool b0, .slice a0 len0 cap0], .agg #[.bool b1, .slice a1 len1 cap1]] w fun e w' => e = .returned (.bool true) ∧ Below w.heap.size w w' := by
  have hm0 := Nat.le_trans r0.cap_le r0.cap_max
  have hm1 := Nat.le_trans r1.cap_le r1.cap_max
  have hx := r0.int b0
  have hy := r1.int b1
  obtain ⟨x, ex⟩ : ∃ x, x = sgnd b0 (Lb.val xs0) := ⟨_, rfl⟩
  obtain ⟨y, ey⟩ : ∃ y, y = sgnd b1 (Lb.val xs1) := ⟨_, rfl⟩
  rw [← ex] at hx
  rw [← ey] at hy
  clear ex ey r0 r1
  have HI := hide (intsIn2 (w := (w.alloc (.cells #[.bool b0, .slice a0 len0 cap0] 24)).alloc (.cells #[.bool b1, .slice a1 len1 cap1] 24)) b0 a0 len0 cap0 b1 a1 len1 cap1 (n := w.heap.size + 2) (by simp))
  go_enter Try.func4, Try.ntmps4
  go_wp2_with fail
  refine (few4_any _ _ _ _ _ _ _ (unhide HI) (by omega) (by simp <;> omega) (by intro i _; split <;> assumption)).mono ?_
  rintro e w1 ⟨⟨b, rfl, hb⟩, hb1⟩
  have HW := Below.step (below3 w _ _ _) hb1
  have B0 := (((box_new w b0 a0 len0 cap0 rfl).alloc (.cells #[.bool b1, .slice a1 len1 cap1] 24)).alloc _).later hb1
  have B1 := ((box_new (w.alloc (.cells #[.bool b0, .slice a0 len0 cap0] 24)) b1 a1 len1 cap1 (n := w.heap.size + 1) (by simp)).alloc _).later hb1
  clear HI hb1
  by_cases hf : b = true
  · subst hf
    have f0 : len0 ≤ 30 := (hb.1 rfl) 0 (by omega)
    have f1 : len1 ≤ 30 := (hb.1 rfl) 1 (by omega)
    clear hb hm0 hm1
    replace hx := hx.later HW
    replace hy := hy.later HW
    have HW0 := hide HW
    clear HW
    have HW : Below w1.heap.size w1 w1.drew := (Below.refl _ _).drew
    have hS : w1.cell? ⟨w.heap.size, 0, none⟩ = some (.bool b0) ∧ w1.cell? ⟨w.heap.size, 1, none⟩ = some (.slice a0 len0 cap0) ∧ w1.cell? ⟨w.heap.size + 1, 0, none⟩ = some (.bool b1) ∧ w1.cell? ⟨w.heap.size + 1, 1, none⟩ = some (.slice a1 len1 cap1) := ⟨B0.facts.1, B0.facts.2.1, B1.facts.1, B1.facts.2.1⟩
    have hlt := B1.lt
    have HK : Hid (∀ w', Below w1.heap.size w1 w' → w'.cell? ⟨w.heap.size, 0, none⟩ = some (.bool b0) ∧ w'.cell? ⟨w.heap.size, 1, none⟩ = some (.slice a0 len0 cap0) ∧ w'.cell? ⟨w.heap.size + 1, 0, none⟩ = some (.bool b1) ∧ w'.cell? ⟨w.heap.size + 1, 1, none⟩ = some (.slice a1 len1 cap1)) := fun w' hb => held2 hb hlt hS
    obtain ⟨s1, s2, s3, s4⟩ := hS
    obtain ⟨s, hs⟩ : ∃ s, s = (x - y).sign := ⟨_, rfl⟩
    obtain ⟨q, hq⟩ : ∃ q, q = decide (x = y) := ⟨_, rfl⟩
    have hsq : (s == 0) = q := by rw [hs, hq]; exact sign_zero x y
    have HS := hide hs
    have HQ := hide hq
    clear hs hq
    go_wp2_with fail
    go_region_held3 (fun w' => w'.cell? ⟨w.heap.size, 0, none⟩ = some (.bool b0) ∧ w'.cell? ⟨w.heap.size, 1, none⟩ = some (.slice a0 len0 cap0) ∧ w'.cell? ⟨w.heap.size + 1, 0, none⟩ = some (.bool b1) ∧ w'.cell? ⟨w.heap.size + 1, 1, none⟩ = some (.slice a1 len1 cap1)) (first | exact (unhide HK) _ HW | go_keep) (first | (go_at_call 22; with_reducible refine (cmp_is _ _ _ _ x _ _ _ _ y s _ (hx.later HW) (hy.later HW) (by omega) (by omega) (unhide HS)).mono ?_; rintro e w9 ⟨rfl, hb9⟩; replace HW := Below.step HW hb9) | (go_at_call 23; with_reducible refine (ricmp_is _ _ _ _ x _ _ _ _ y s _ (hx.later HW) (hy.later HW) (by omega) (by omega) (unhide HS)).mono ?_; rintro e w9 ⟨rfl, hb9⟩; replace HW := Below.step HW hb9) | (go_at_call 24; with_reducible refine (isame_is _ _ _ _ x _ _ _ _ y q _ (hx.later HW) (hy.later HW) (by omega) (by omega) (unhide HQ)).mono ?_; rintro e w9 ⟨rfl, hb9⟩; replace HW := Below.step HW hb9) | (go_at_call 25; with_reducible refine (iadd_num _ _ _ _ x _ _ _ _ y _ (hx.later HW) (hy.later HW) (by omega) (by omega)).mono ?_; rintro e w9 ⟨baq, aaq, laq, caq, rfl, haq, hb9⟩; replace HW := Below.step HW hb9) | (go_at_call 26; with_reducible refine (riadd_num _ _ _ _ x _ _ _ _ y _ (hx.later HW) (hy.later HW) (by omega) (by omega)).mono ?_; rintro e w9 ⟨bap, aap, lap, cap, rfl, hap, hb9⟩; replace HW := Below.step HW hb9; replace haq := haq.later hb9) | (go_at_call 13; with_reducible refine (rsame_true _ _ _ _ _ _ _ _ _ _ haq hap).mono ?_; rintro e w9 ⟨rfl, hb9⟩; replace HW := Below.step HW hb9; clear haq hap) | (go_at_call 27; with_reducible refine (isub_num _ _ _ _ x _ _ _ _ y _ (hx.later HW) (hy.later HW) (by omega) (by omega)).mono ?_; rintro e w9 ⟨bsq, asq, lsq, csq, rfl, hsq, hb9⟩; replace HW := Below.step HW hb9) | (go_at_call 28; with_reducible refine (risub_num _ _ _ _ x _ _ _ _ y _ (hx.later HW) (hy.later HW) (by omega) (by omega)).mono ?_; rintro e w9 ⟨bsp, asp, lsp, csp, rfl, hsp, hb9⟩; replace HW := Below.step HW hb9; replace hsq := hsq.later hb9) | (go_at_call 13; with_reducible refine (rsame_true _ _ _ _ _ _ _ _ _ _ hsq hsp).mono ?_; rintro e w9 ⟨rfl, hb9⟩; replace HW := Below.step HW hb9; clear hsq hsp) | (go_at_call 29; with_reducible refine (imul_num _ _ _ _ x _ _ _ _ y _ (hx.later HW) (hy.later HW) (by omega) (by omega)).mono ?_; rintro e w9 ⟨bmq, amq, lmq, cmq, rfl, hmq, hb9⟩; replace HW := Below.step HW hb9) | (go_at_call 30; with_reducible refine (rimul_num _ _ _ _ x _ _ _ _ y _ (hx.later HW) (hy.later HW) (by omega) (by omega) (by omega)).mono ?_; rintro e w9 ⟨bmp, amp, lmp, cmp, rfl, hmp, hb9⟩; replace HW := Below.step HW hb9; replace hmq := hmq.later hb9) | (go_at_call 13; with_reducible refine (rsame_true _ _ _ _ _ _ _ _ _ _ hmq hmp).mono ?_; rintro e w9 ⟨rfl, hb9⟩; replace HW := Below.step HW hb9; clear hmq hmp) | (go_at_call 9; with_reducible refine (awake4_any _).mono ?_; rintro e w9 ⟨rfl, hb9⟩; replace HW := Below.step HW hb9))
    go_wp2
    go_ret
    exact ⟨rfl, Below.step (unhide HW0) HW⟩
  · have hf' : b = false := by simpa using hf
    subst hf'
    clear hb hf B0 B1
    go_wp2_with fail
    refine (awake4_any _).mono ?_
    rintro e w2 ⟨rfl, hb2⟩
    have hW := Below.step HW hb2
    go_wp2
    go_ret
    exact ⟨rfl, hW⟩

#print axioms wholeSums_walk
end Go.Proofs.Ytkhcanhdbalihaa
