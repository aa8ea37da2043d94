/-
 The walk of KernelBox: it tells true.
-/
import Derived.Test.YtjebmlogchoehaaGreatLKBase
import Derived.Test.YtjebmlogchoehaaGreatRHIs
import Derived.Deep.CutRange
namespace Go.Proofs.YtjebmlogchoehaaGreat
open Go.RowKit Lb
set_option maxRecDepth 20000

def lenOfV : Value → Nat
 | .slice _ n _ => n
 | _ => 0
set_option maxRecDepth 40000 in
set_option maxHeartbeats 4000000 in
theorem kernelBox_walk (a0 : Option Addr) (len0 cap0 : Nat) (rs0 : List (List Int)) (m1 : Int) (w : World) (r0 : MI w a0 len0 cap0 rs0) (_r1 : (Lit.int .i64 m1).wf = true) :
  Calls Tryz.prog 5 #[.slice a0 len0 cap0, .int .i64 m1] w fun e w' => e = .returned (.bool true) ∧ Below w.heap.size w w' := by
 obtain ⟨M, hM⟩ : ∃ M : Nat, IntKind.u64.wrap m1 = (M : Int) := by
  refine ⟨(IntKind.u64.wrap m1).toNat, ?_⟩
  simp [IntKind.wrap, IntKind.bits, IntKind.signed]
  omega
 obtain ⟨N, eN⟩ : ∃ N : Nat, N = 1 + M % 4 := ⟨_, rfl⟩
 have hN1 : 1 ≤ N := by omega
 have hN4 : N ≤ 4 := by omega
 have hNI : (1 : Int) + (M : Int) % 4 = (N : Int) := by omega
 have hr0 : (0 : Int) ≤ (M : Int) % 4 := by omega
 have hr1 : (M : Int) % 4 < 4 := by omega
 have HRM := hide (room_nat10 (show N ≤ 64 by omega))
 obtain ⟨cl, ecl⟩ : ∃ cl, cl = rs0.map fun r => vcut r N := ⟨_, rfl⟩
 have HLL := hide (show ∀ r ∈ cl, r.length = N by rw [ecl]; exact cut_lens rs0 N)
 have HCL := hide (show cl.length = len0 by rw [ecl, List.length_map]; exact r0.len_eq)
 have HCA : Hid (∀ i, i < len0 → cl.getD i [] = vcut (rs0.getD i []) N) := hide fun i hi => by
  have : i < rs0.length := by rw [r0.len_eq]; exact hi
  rw [ecl]; simp [List.getD, this]
 clear eN ecl
 go_enter Tryz.func5, Tryz.ntmps5
 go_wp2_with fail
 refine (heavyK a0 len0 cap0 rs0 3 9 _ r0 (by omega) (by omega)).mono ?_
 rintro e w1 ⟨q, rfl, hq, hlt, hb1⟩
 have HB := hide hb1
 rcases hq with rfl | rfl
 ·obtain ⟨hn3, _, hms⟩ := hlt rfl
  have h := (hms _ hb1).mk
  clear hms hlt hb1 r0
  go_wp2_with fail
  go_loopw [6, 26] (fun s t wr => ∃ (i : Nat) (ah : Option Addr) (ch : Nat), i ≤ len0 ∧ t = .int .i64 (i : Int) ∧ s = .slice ah i ch ∧ MO wr w1.heap.size ah i ch (cl.take i) 3 ∧ Below w1.heap.size w1 wr) (fun _ t _ => len0 - (intOf t).toNat)
  case atStart => exact ⟨0, none, 0, Nat.zero_le _, rfl, rfl, mo_nil _ _ _, Below.refl _ _⟩
  case round =>
   obtain ⟨i, ah, ch, hi, rfl, rfl, hown, hC⟩ := hrel
   have HC := hide hC
   clear hC
   by_cases hlt : i < len0
   ·obtain ⟨g, off, rfl⟩ := h.addr (by omega)
    obtain ⟨hg, a5, l5, c5, hc5, hv5⟩ := RowsOf.at (R := fun w a l c zs => VK w a l c zs 3) h hlt
    replace hv5 := hv5.later (unhide HC)
    have f2 := ((unhide HC).cell (p := ⟨g, off + i, none⟩) hg).trans hc5
    have hgr := Nat.lt_of_lt_of_le hg (unhide HC).size
    have hi0 : (0 : Int) ≤ (i : Int) := by omega
    have hi1 : (i : Int) < (len0 : Int) := by omega
    clear hc5 hg
    go_wp2_with fail
    refine (rvcutK a5 l5 c5 (rs0.getD i []) 3 (N : Int) _ hv5).mono ?_
    rintro e w5 ⟨a7, c7, rfl, h7, hb9⟩
    rw [unhide HRM] at h7 ⊢
    replace hown := hown.later hb9
    replace HC := hide (Below.step (unhide HC) hb9)
    clear hb9 f2 hgr hv5
    obtain ⟨W6, hW6⟩ : ∃ W6, W6 = w5.alloc (.cells #[.slice a7 N c7] 24) := ⟨_, rfl⟩
    have hb9 : Below w5.heap.size w5 W6 := by rw [hW6]; exact below_new _ _
    have hone := mf_one h7
    replace hown := hown.later hb9
    replace HC := hide (Below.step (unhide HC) hb9)
    clear hb9
    have hsz := (unhide HC).size
    rw [hW6] at hown hsz
    go_wp2_with (at_builtin; (refine append_rows (R := fun w a l c zs => VF w a l c zs 3) (steadyMO 3) rfl (.tmp 30) (.tmp 34) 22 Tryz.underlying22 rfl w1.heap.size ah i ch (cl.take i) rfl hown _ 1 1 [vcut (rs0.getD i []) N] rfl hone (by omega) hsz ?_))
    intro an cn w7 hown2 hgr7
    rw [← hW6] at hgr7 hown hsz
    clear hW6 hone
    have HD := hide ((unhide HC).grown hgr7 hsz (MO.ge hown))
    clear hgr7
    have hown3 : MO w7 w1.heap.size an (i + 1) cn (cl.take (i + 1)) 3 := by
     rw [take_all_snoc (by rw [unhide HCL]; exact hlt), unhide HCA i hlt]
     exact hown2
    clear hown2 hown
    go_wp2
    go_roundw
    case rel => exact ⟨i + 1, _, _, by omega, by go_num, rfl, hown3, unhide HD⟩
    case measure => simp [intOf]; omega
   ·have hin : i = len0 := by omega
    subst hin
    have hi1 : ¬ (i : Int) < (i : Int) := by omega
    rw [List.take_of_length_le (by rw [unhide HCL]; exact Nat.le_refl _)] at hown
    have h2 := hown.mf
    replace HB := hide (Below.step (unhide HB) (unhide HC))
    clear hown HC h
    go_wp2_with fail
    refine (kernelAny ah i ch cl N _ (h2.mk (by omega)) (unhide HLL) hN1 (by omega) (by omega) (Or.inl (by omega))).mono ?_
    rintro e w3 ⟨a5, m5, c5, p, K, rfl, h5, hf5, hk5, hl5, _, hb9⟩
    have HF := hide hf5
    have HK := hide hk5
    have HL5 := hide hl5
    have HFM := hide (rform_yes (rs := K) (n := (N : Int)) (by omega) fun j hj => by rw [rows_len hl5 j hj])
    have HLN := hide h5.len_eq
    have hm5 : m5 ≤ N := by
     rw [← h5.len_eq]
     exact hf5.len_le fun r hr => by have := hl5 r hr; omega
    replace h2 := h2.later hb9
    replace HB := hide (Below.step (unhide HB) hb9)
    clear hb9 hf5 hk5 hl5
    go_wp2_with fail
    refine (refIsK a5 m5 c5 K 76 (N : Int) true _ (h5.mk (by omega)) (by omega) (by omega) (by simp; exact ⟨unhide HFM, _, unhide HF⟩)).mono ?_
    rintro e w4 ⟨rfl, hb9⟩
    replace h2 := h2.later hb9
    replace h5 := h5.later hb9
    replace HB := hide (Below.step (unhide HB) hb9)
    clear hb9
    go_wp2_with fail
    go_loopw [11, 52] (fun s t wr => ∃ j A : Nat, j ≤ N ∧ t = .int .i64 (j : Int) ∧ s = .int .i64 (A : Int) ∧ A ≤ 5 ^ j ∧ Below w4.heap.size w4 wr) (fun _ t _ => N - (intOf t).toNat)
    case atStart => exact ⟨0, 1, Nat.zero_le _, rfl, rfl, Nat.le_refl _, Below.refl _ _⟩
    case round =>
     obtain ⟨j, A, hj, rfl, rfl, hA, hC⟩ := hrel
     have h54 : (5 : Nat) ^ j ≤ 5 ^ 4 := Nat.pow_le_pow_right (by omega) (by omega)
     have hA4 : A ≤ 625 := Nat.le_trans hA h54
     have HA := hide hA
     have HC := hide hC
     clear hA hC h54
     by_cases hlt : j < N
     ·have hj1 : (j : Int) < (N : Int) := by omega
      go_wp2
      go_roundw
      case rel => exact ⟨j + 1, A * 5, by omega, by go_num, by go_num, by rw [Nat.pow_succ]; exact Nat.mul_le_mul_right _ (unhide HA), unhide HC⟩
      case measure => simp [intOf]; omega
     ·have hjn : j = N := by omega
      have hj1 : ¬ (j : Int) < (N : Int) := by omega
      replace HB := hide (Below.step (unhide HB) (unhide HC))
      replace h2 := h2.later (unhide HC)
      replace h5 := h5.later (unhide HC)
      clear HA HC
      have hs4 := wr
      obtain ⟨W0, eW0⟩ : ∃ W0, W0 = wr := ⟨_, rfl⟩
      clear hs4
      subst eW0
      go_wp2_with fail
      go_loopw [58] (fun t wq => ∃ x : Nat, x ≤ A ∧ t = .int .i64 (x : Int) ∧ Below W0.heap.size W0 wq) (fun t _ => A - (intOf t).toNat)
      case atStart => exact ⟨0, Nat.zero_le _, rfl, Below.refl _ _⟩
      case round =>
       obtain ⟨x, hx, rfl, hC⟩ := hrel
       have HC := hide hC
       clear hC
       by_cases hlx : x < A
       ·have hx1 : (x : Int) < (A : Int) := by omega
        obtain ⟨W1, eW1⟩ : ∃ W1, W1 = wr := ⟨_, rfl⟩
        subst eW1
        go_wp2_with fail
        go_loopw [13, 14] (fun s t wq => ∃ (j : Nat) (av : Option Addr) (cv : Nat) (ps : List Int) (y : Nat), j ≤ N ∧ s = .slice av j cv ∧ t = .int .i64 (y : Int) ∧ y ≤ 625 ∧ OwnV wq W1.heap.size av j cv ps 2 ∧ Below W1.heap.size W1 wq) (fun s _ _ => N - lenOfV s)
        case atStart => exact ⟨0, none, 0, [], x, Nat.zero_le _, rfl, rfl, by omega, ownV_nil _ _ _, Below.refl _ _⟩
        case round =>
         obtain ⟨j2, av, cv, ps, y, hj2, rfl, rfl, hy, hov, hD⟩ := hrel
         have HD := hide hD
         clear hD
         by_cases hl2 : j2 < N
         ·have hl2' : (j2 : Int) < (N : Int) := by omega
          obtain ⟨r, er⟩ : ∃ r : Nat, r = y % 5 := ⟨_, rfl⟩
          obtain ⟨y5, ey⟩ : ∃ y5 : Nat, y5 = y / 5 := ⟨_, rfl⟩
          have hr5 : r ≤ 4 := by omega
          have hy5 : y5 ≤ 625 := by omega
          have e1 : (y : Int) % 5 = (r : Int) := by omega
          have e2 : (y : Int).tmod 5 = (r : Int) := by rw [Int.tmod_eq_emod_of_nonneg (by omega)]; exact e1
          have e3 : (y : Int) / 5 = (y5 : Int) := by omega
          have e4 : (y : Int).tdiv 5 = (y5 : Int) := by rw [Int.tdiv_eq_ediv_of_nonneg (by omega)]; exact e3
          clear er ey
          go_wp2_with fail
          refine (rofK _ _ (by omega) (by omega)).mono ?_
          rintro e w6 ⟨b6, a6, l6, c6, rfl, h6, hb9⟩
          replace hov := hov.later hb9
          replace HD := hide (Below.step (unhide HD) hb9)
          clear hb9
          obtain ⟨W6, hW6⟩ : ∃ W6, W6 = w6.alloc (.cells #[.bool b6, .slice a6 l6 c6] 39) := ⟨_, rfl⟩
          obtain ⟨D5, hb9⟩ := boxes1 w6 b6 a6 l6 c6 hW6
          replace h6 := h6.later hb9
          replace hov := hov.later hb9
          replace HD := hide (Below.step (unhide HD) hb9)
          clear hb9
          have hE5 : EltAt W6 w6.heap.size 0 b6 a6 l6 c6 := ⟨D5.lt, D5.facts.1, D5.facts.2.1⟩
          have hsz := (unhide HD).size
          clear D5
          rw [hW6] at h6 hov hE5 hsz
          go_wp2_with (at_builtin; refine append_vec rfl (.tmp 68) (.tmp 73) 24 Tryz.underlying24 rfl W1.heap.size av j2 cv 2 ps rfl hov (by omega) hsz w6.heap.size 0 1 b6 a6 l6 c6 _ rfl hE5 h6 ?_)
          intro gn cn w7 hown2 hgr hat
          rw [← hW6] at hgr hov hsz
          clear hW6
          have HE := hide ((unhide HD).grown hgr hsz (own_ge hov))
          clear hgr hat
          go_wp2
          go_roundw
          case rel => exact ⟨j2 + 1, _, _, _, y5, by omega, rfl, by go_num, hy5, hown2, unhide HE⟩
          case measure => simp [lenOfV]; omega
         ·have hj2n : j2 = N := by omega
          subst hj2n
          have hl2' : ¬ (j2 : Int) < (j2 : Int) := by omega
          have hlen := hov.len
          have hvf := hov.vf
          obtain ⟨q0, hq0⟩ := bool_is (∀ t, t < i → vdot (cl.getD t []) ps = 0)
          have HQ := hide hq0
          have HQ2 := hide (hq0.trans (ker_dots (unhide HK) (unhide HCL) (unhide HLL) (v := ps) (by omega)).symm)
          have hqq : (q0 != q0) = false := by simp
          have HCD := hide (Below.step (unhide HC) (unhide HD))
          have HM5 := hide (show 2 + m5 * (76 + 3) ≤ 200000 from by
           have : m5 * (76 + 3) ≤ 7 * (76 + 3) := Nat.mul_le_mul_right _ (by omega)
           omega)
          clear hq0 hov hlen
          go_wp2_with fail
          refine (kHasK ah i ch cl 3 av j2 cv ps 2 9 q0 _ ((h2.later (unhide HCD)).mk (by omega)) (hvf.vk (by omega)) (by omega) (by omega) (by omega) (lens_wide (unhide HLL) (by omega)) (by omega) (by omega) (by omega) (unhide HQ)).mono ?_
          rintro e w8 ⟨rfl, hb9⟩
          replace hvf := hvf.later hb9
          replace HCD := hide (Below.step (unhide HCD) hb9)
          clear hb9
          go_wp2_with fail
          refine (hasB a5 m5 c5 K p 76 av j2 cv ps 2 _ (h5.later (unhide HCD)) (unhide HF) (fun t ht => rows_len (unhide HL5) t (by rw [unhide HLN]; exact ht)) (hvf.vk (by omega)) q0 (unhide HQ2) (unhide HM5) (by omega) (by omega) (by omega)).mono ?_
          rintro e w9 ⟨rfl, hb9⟩
          replace HCD := hide (Below.step (unhide HCD) hb9)
          clear hb9 hvf
          go_wp2
          go_roundw
          case rel => exact ⟨x + 1, by omega, by go_num, unhide HCD⟩
          case measure => simp [intOf]; omega
       ·have hxA : x = A := by omega
        have hx1 : ¬ (x : Int) < (A : Int) := by omega
        replace HB := hide (Below.step (unhide HB) (unhide HC))
        clear h2 h5 HC
        go_wp2_with fail
        refine (awake11_any _).mono ?_
        rintro e w6 ⟨rfl, hb2⟩
        go_wp2
        go_ret
        exact ⟨rfl, Below.step (unhide HB) hb2⟩
 ·clear hlt hb1 r0
  go_wp2_with fail
  refine (awake11_any _).mono ?_
  rintro e w2 ⟨rfl, hb2⟩
  go_wp2
  go_ret
  exact ⟨rfl, Below.step (unhide HB) hb2⟩

end Go.Proofs.YtjebmlogchoehaaGreat
