/-
  What the reference's OfDigits does: the number of a text, and true; or nothing, and false.
-/
import Derived.Test.YtfjebgjhhojphaaDParse
import Derived.Deep.RegionWith
import Derived.Deep.CutRange
namespace Go.Proofs.Ytfjebgjhhojphaa
open Go.RowKit Lb

theorem lit_val {W : World} {b v : Nat} (hc : W.cell? ⟨b, 0, none⟩ = some (.int .u32 (v : Int))) (hb : b < W.heap.size) (hv : v < 4294967296) : ValAt W (some ⟨b, 0, none⟩) 1 1 v := by
  refine ⟨[v], ⟨rfl, Nat.le_refl _, by unfold maxLen; omega, fun h => by simp at h, small_of_mem (by simpa using hv), fun _ => ⟨b, 0, rfl, hb, fun i hi => ?_⟩⟩, val_one v⟩
  obtain rfl : i = 0 := by omega
  simpa [lim] using hc

theorem lit_one {w : World} {e : Int} {v : Nat} (he : e = (v : Int)) (hv : v < 4294967296) : ValAt (w.alloc (.cells #[.int .u32 e] 36)) (some ⟨w.heap.size, 0, none⟩) 1 1 v := ⟨[v], rowAt_one he hv, val_one v⟩

set_option maxRecDepth 20000 in
set_option maxHeartbeats 4000000 in
theorem ofDigits_any (s : ByteArray) (b : Bool) (N : Nat) (w : World) (hs : s.size ≤ 1000000) (hb : b = okS (byts s)) (hN : N = numS (byts s)) :
    Calls Try.prog 13 #[.string s] w fun e w' => ∃ ao len cap, e = .returned (.tuple #[.slice ao len cap, .bool b]) ∧ NumAt w' ao len cap N ∧ Below w.heap.size w w' := by
  have HB := hide hb
  have HN := hide hN
  have HL := hide (byts_length s)
  clear hb hN
  by_cases hbad : s.size = 0 ∨ 4096 < s.size
  · have hf : okS (byts s) = false := by
      unfold okS
      rw [unhide HL]
      rcases hbad with h | h
      · simp [h]
      · simp [show ¬ s.size ≤ 4096 by omega]
    have e1 : b = false := (unhide HB).trans hf
    have e2 : N = 0 := (unhide HN).trans (numS_no hf)
    clear hf
    subst e1 e2
    go_enter Try.func13, Try.ntmps13
    rcases hbad with h | h
    · have h' : (s.size : Int) < 1 := by omega
      go_wp2
      go_ret2
      exact ⟨_, _, _, rfl, numAt_nil _, Below.refl _ _⟩
    · have h' : ¬ (s.size : Int) < 1 := by omega
      go_wp2
      go_ret2
      exact ⟨_, _, _, rfl, numAt_nil _, Below.refl _ _⟩
  · have h0 : ¬ ((s.size : Int) < 1) := by omega
    have h1 : ¬ (4096 < (s.size : Int)) := by omega
    go_enter Try.func13, Try.ntmps13
    go_wp2
    go_loopw [4, 5] (fun a i wr => ∃ (k : Nat) (a1 : Option Addr) (l1 c1 : Nat), k ≤ s.size ∧ i = .int .i64 k ∧ a = .slice a1 l1 c1 ∧ NumAt wr a1 l1 c1 (ofS ((byts s).take k)) ∧ okD ((byts s).take k) = true ∧ Below w.heap.size w wr) (fun _ i _ => s.size - (intOf i).toNat)
    case atStart => exact ⟨0, none, 0, 0, by omega, rfl, rfl, numAt_nil _, rfl, Below.refl _ _⟩
    case round =>
      obtain ⟨k, a1, l1, c1, hk, rfl, rfl, hnum, hok, hbel⟩ := hrel
      have HO := hide hok
      have hl1 : l1 ≤ k := parse_len hnum (by have := ofS_lt hok; rwa [List.length_take, unhide HL, Nat.min_eq_left hk] at this)
      clear hok
      by_cases hlt : k < s.size
      · obtain ⟨c, hc⟩ : ∃ c, c = lim (byts s) k := ⟨_, rfl⟩
        have hix : (s[k]'hlt).toNat = c := (byts_at s k hlt).trans hc.symm
        obtain ⟨A, hA⟩ : ∃ A, A = ofS ((byts s).take k) := ⟨_, rfl⟩
        rw [← hA] at hnum
        have HA := hide hA
        have HC := hide hc
        clear hA hc
        by_cases hd : 48 ≤ c ∧ c ≤ 57
        · obtain ⟨hd1, hd2⟩ := hd
          have hisd : isD c = true := (isD_iff c).2 ⟨hd1, hd2⟩
          have HD := hide (show IntKind.u32.wrap (IntKind.u8.wrap ((c : Int) - 48)) = ((c - 48 : Nat) : Int) by rw [IntKind.wrap_u8, IntKind.wrap_u32]; omega)
          have HAq := hide (show A * 10 < 10 ^ (k + 1) by
            have h2 := ofS_lt (unhide HO)
            rw [List.length_take, unhide HL, Nat.min_eq_left hk, ← unhide HA] at h2
            rw [Nat.pow_succ]; omega)
          have HI := hide hisd
          have hc4 : c - 48 < 4294967296 := by omega
          have hk2 : k + 1 ≤ 1000000 := by omega
          clear hisd
          have hn1 : ¬ ((c : Int) < 48) := by omega
          have hn2 : ¬ (57 < (c : Int)) := by omega
          have t1 : Below wr.heap.size wr (wr.alloc (.cells #[.int .u32 10] 36)).drew := ((Below.refl _ _).alloc (Nat.le_refl _) _).drew
          have t2 : ValAt (wr.alloc (.cells #[.int .u32 10] 36)).drew (some ⟨wr.heap.size, 0, none⟩) 1 1 10 := by
            refine lit_val ?_ ?_ ?_ <;> simp
          obtain ⟨d, hd0⟩ : ∃ d : Int, d = IntKind.u32.wrap (IntKind.u8.wrap ((c : Int) - 48)) := ⟨_, rfl⟩
          have hd1 : d = ((c - 48 : Nat) : Int) := hd0.trans (unhide HD)
          have t3 : Below wr.heap.size wr ((wr.alloc (.cells #[.int .u32 10] 36)).alloc (.cells #[.int .u32 d] 36)).drew := (((Below.refl _ _).alloc (Nat.le_refl _) _).alloc (by simp) _).drew
          have t4 : ValAt ((wr.alloc (.cells #[.int .u32 10] 36)).alloc (.cells #[.int .u32 d] 36)).drew (some ⟨wr.heap.size, 0, none⟩) 1 1 10 := by
            refine lit_val ?_ ?_ ?_ <;> simp <;> omega
          have t5 : ValAt ((wr.alloc (.cells #[.int .u32 10] 36)).alloc (.cells #[.int .u32 d] 36)).drew (some ⟨wr.heap.size + 1, 0, none⟩) 1 1 (c - 48) := by
            refine lit_val ?_ ?_ hc4
            · rw [← hd1]; simp
            · simp
          have t6 : Below wr.heap.size wr ((wr.alloc (.cells #[.int .u32 d] 36)).alloc (.cells #[.int .u32 10] 36)).drew := (((Below.refl _ _).alloc (Nat.le_refl _) _).alloc (by simp) _).drew
          have t7 : ValAt ((wr.alloc (.cells #[.int .u32 d] 36)).alloc (.cells #[.int .u32 10] 36)).drew (some ⟨wr.heap.size + 1, 0, none⟩) 1 1 10 := by
            refine lit_val ?_ ?_ ?_ <;> simp
          have t8 : ValAt ((wr.alloc (.cells #[.int .u32 d] 36)).alloc (.cells #[.int .u32 10] 36)).drew (some ⟨wr.heap.size, 0, none⟩) 1 1 (c - 48) := by
            refine lit_val ?_ ?_ hc4
            · rw [← hd1]; simp
            · simp; omega
          rw [hd0] at t3 t4 t5 t6 t7 t8
          have hl6 : l1 ≤ 1000000 := by omega
          have h1m : (1 : Nat) ≤ 1000000 := by omega
          have M1 := hide (rmul_num _ _ _ A _ _ _ 10 _ (hnum.val.later t1) t2 hl6 h1m)
          have M3 := hide (rmul_num _ _ _ A _ _ _ 10 _ (hnum.val.later t3) t4 hl6 h1m)
          have M6 := hide (rmul_num _ _ _ A _ _ _ 10 _ (hnum.val.later t6) t7 hl6 h1m)
          have T1 := hide t1
          have T3 := hide t3
          have T5 := hide t5
          have T6 := hide t6
          have T8 := hide t8
          clear t1 t2 t3 t4 t5 t6 t7 t8 hd0 hd1
          go_wp2_with fail
          go_region_with (first | (go_at_call 25; with_reducible refine (unhide M1).mono ?_; rintro e w2 ⟨a2, l2, c2, rfl, hnum2, hb2⟩) | (go_at_call 25; with_reducible refine (unhide M3).mono ?_; rintro e w2 ⟨a2, l2, c2, rfl, hnum2, hb2⟩) | (go_at_call 25; with_reducible refine (unhide M6).mono ?_; rintro e w2 ⟨a2, l2, c2, rfl, hnum2, hb2⟩) | (go_at_call 24; with_reducible refine (radd_num _ _ _ (A * 10) _ _ _ (c - 48) _ hnum2.val ((unhide T5).later hb2) (Nat.le_trans (parse_len hnum2 (unhide HAq)) hk2) h1m).mono ?_; rintro e w3 ⟨a3, l3, c3, rfl, hnum3, hb3⟩; have hW3 := Below.step (Below.step (unhide T3) hb2) hb3) | (go_at_call 24; with_reducible refine (radd_num _ _ _ (A * 10) _ _ _ (c - 48) _ hnum2.val ((unhide T8).later hb2) (Nat.le_trans (parse_len hnum2 (unhide HAq)) hk2) h1m).mono ?_; rintro e w3 ⟨a3, l3, c3, rfl, hnum3, hb3⟩; have hW3 := Below.step (Below.step (unhide T6) hb2) hb3) | (go_at_call 24; with_reducible refine (radd_num _ _ _ (A * 10) _ _ _ (c - 48) _ (hnum2.val.later (below_one _ _)) (lit_one (unhide HD) hc4) (Nat.le_trans (parse_len hnum2 (unhide HAq)) hk2) h1m).mono ?_; rintro e w3 ⟨a3, l3, c3, rfl, hnum3, hb3⟩; have hW3 := Below.step (Below.step (unhide T1) hb2) (Below.step (below_one _ _) hb3)))
          all_goals go_wp2
          all_goals
            go_roundw
            case rel =>
              refine ⟨k + 1, a3, l3, c3, by omega, by go_num, rfl, ?_, ?_, ?_⟩
              · rw [take_snoc (by rw [unhide HL]; exact hlt), ofS_snoc, ← unhide HA, ← unhide HC]; exact hnum3
              · rw [take_snoc (by rw [unhide HL]; exact hlt), okD_snoc, ← unhide HC, unhide HO, unhide HI]; rfl
              · exact hbel.trans (hW3.mono hbel.size)
            case measure => simp [intOf]; omega
        · have hcb : (decide ((c : Int) < 48) || decide (57 < (c : Int))) = true := by simp; omega
          have hno : isD c = false := by rw [← Bool.not_eq_true, isD_iff]; exact hd
          have hf : okS (byts s) = false := by unfold okS; rw [okD_at (by rw [unhide HL]; exact hlt) (by rw [← unhide HC]; exact hno)]; simp
          have e1 : b = false := (unhide HB).trans hf
          have e2 : N = 0 := (unhide HN).trans (numS_no hf)
          clear hf hno
          subst e1 e2
          by_cases hc48 : (c : Int) < 48
          · go_wp2
            go_ret2
            exact ⟨_, _, _, rfl, numAt_nil _, hbel⟩
          · have hc57 : 57 < (c : Int) := by omega
            go_wp2
            go_ret2
            exact ⟨_, _, _, rfl, numAt_nil _, hbel⟩
      · have hj1 : k = s.size := by omega
        have e0 : (byts s).take k = byts s := by rw [hj1, ← unhide HL]; exact List.take_length
        have ht : okS (byts s) = true := okS_of (by rw [unhide HL]; omega) (by rw [unhide HL]; omega) (by rw [← e0]; exact unhide HO)
        have e1 : b = true := (unhide HB).trans ht
        have e2 : N = ofS (byts s) := (unhide HN).trans (numS_of ht)
        rw [e0, ← e2] at hnum
        clear e0 ht e2
        subst e1
        go_wp2
        go_ret2
        exact ⟨_, _, _, rfl, hnum, hbel⟩
#print axioms ofDigits_any
end Go.Proofs.Ytfjebgjhhojphaa
