/-
 The walk of KernelAll: it tells true.
-/
import Derived.Test.YtjebmlogchoehaaGreatLKBase
import Derived.Test.YtjebmlogchoehaaGreatIRow8
import Derived.Test.YtjebmlogchoehaaGreatVAddF
import Derived.Test.YtjebmlogchoehaaGreatEuclid
import Derived.Deep.CutRange
namespace Go.Proofs.YtjebmlogchoehaaGreat
open Go.RowKit Lb
set_option maxRecDepth 20000

/-- A vector of a kernel by what divides all its numbers is in the kernel. -/
theorem ker_split {K cl : List (List Int)} {N : Nat} {z : Int} {xs ws : List Int} (hk : Ker K cl N) (hx : InL K fun j => xs.getD j 0) (hz : z ≠ 0) (hd : ∀ t, t < N → z ∣ xs.getD t 0) (hw : ∀ t, t < N → ws.getD t 0 = (xs.getD t 0).tdiv z) (hl : ws.length ≤ N) : InL K fun j => ws.getD j 0 := by
 refine hk.all _ (fun j hj => ?_) fun j hj => ?_
 ·show ws.getD j 0 = 0
  rw [List.getD_eq_getElem?_getD, List.getElem?_eq_none (by omega)]; rfl
 ·have h1 := hk.yes _ hx j hj
  have h2 : (sumN N fun t => xs.getD t 0 * ent cl j t) = z * sumN N fun t => ws.getD t 0 * ent cl j t := by
   rw [← sumN_mul]
   exact sumN_congr fun t ht => by rw [← Int.mul_assoc, hw t ht, Int.mul_tdiv_cancel' (hd t ht)]
  rw [h2] at h1
  rcases Int.mul_eq_zero.1 h1 with e | e
  ·exact absurd e hz
  ·exact e
set_option maxRecDepth 40000 in
set_option maxHeartbeats 4000000 in
theorem kernelAll_walk (a0 : Option Addr) (len0 cap0 : Nat) (rs0 : List (List Int)) (m1 : Int) (a2 : Option Addr) (len2 cap2 : Nat) (zs2 : List Int) (w : World) (r0 : MI w a0 len0 cap0 rs0) (_r1 : (Lit.int .i64 m1).wf = true) (r2 : I8RowAt w a2 len2 cap2 zs2) :
  Calls Tryz.prog 4 #[.slice a0 len0 cap0, .int .i64 m1, .slice a2 len2 cap2] w fun e w' => e = .returned (.bool true) ∧ Below w.heap.size w w' := by
 have hml2 := Nat.le_trans r2.cap_le r2.cap_max
 unfold maxLen at hml2
 go_enter Tryz.func4, Tryz.ntmps4
 go_wp2_with fail
 refine (heavyK a0 len0 cap0 rs0 3 9 _ r0 (by omega) (by omega)).mono ?_
 rintro e w1 ⟨q, rfl, hq, hlt, hb1⟩
 have HB := hide hb1
 rcases hq with rfl | rfl
 ·obtain ⟨hn3, _, hms⟩ := hlt rfl
  have hl0 := hms _ hb1
  clear hms hlt hb1 r0
  by_cases h8 : len2 ≤ 8
  ·have h8' : ¬ (8 : Int) < (len2 : Int) := by omega
   have h8b : decide ((8 : Int) < (len2 : Int)) = false := decide_eq_false h8'
   go_wp2_with fail
   refine (cutsK a0 len0 cap0 rs0 3 m1 _ hl0.mk (by omega)).mono ?_
   rintro e w2 ⟨a3, c3, N, rfl, hN1, hN7, h2, hb1⟩
   have HRM := hide (room_nat10 (show N ≤ 64 by omega))
   obtain ⟨cl, ecl⟩ : ∃ cl, cl = rs0.map fun r => vcut r N := ⟨_, rfl⟩
   have HLL := hide (show ∀ r ∈ cl, r.length = N by rw [ecl]; exact cut_lens rs0 N)
   rw [← ecl] at h2
   have HCL := hide h2.len_eq
   replace HB := hide (Below.step (unhide HB) hb1)
   clear hb1 ecl hl0 h8' h8b
   go_wp2_with fail
   refine (kernelAny a3 len0 c3 cl N _ (h2.mk (by omega)) (unhide HLL) hN1 (by omega) (by omega) (Or.inl (by omega))).mono ?_
   rintro e w3 ⟨a5, m5, c5, p, K, rfl, h5, hf5, hk5, hl5, hr5, hb9⟩
   obtain ⟨r, pr, hr1, hr2, _, hr4⟩ := hr5
   have HF := hide hf5
   have HK := hide hk5
   have HL5 := hide hl5
   have HLN := hide h5.len_eq
   have HR := hide (And.intro hr1 (And.intro hr2 hr4))
   replace h2 := h2.later hb9
   replace HB := hide (Below.step (unhide HB) hb9)
   clear hb9 hf5 hk5 hl5 hr1 hr2 hr4
   go_wp2_with fail
   refine (rankAny a3 len0 c3 cl N _ (h2.mk (by omega)) (unhide HLL) hN1 (by omega) (by omega)).mono ?_
   rintro e w4 ⟨m6, rfl, ⟨r', pr', hs1, hs2, _, hs4⟩, hb9⟩
   have hsum : m6 + m5 = N := by
    have e1 := hform_same_len hs1 (unhide HR).1 (hs2.symm.trans (unhide HR).2.1)
    have e2 := (unhide HR).2.2
    omega
   have hsumI : (m6 : Int) + (m5 : Int) = (N : Int) := by omega
   have hm6 : m6 ≤ 7 := by omega
   have hm5 : m5 ≤ 7 := by omega
   replace h2 := h2.later hb9
   replace h5 := h5.later hb9
   replace HB := hide (Below.step (unhide HB) hb9)
   clear hb9 hs1 hs2 hs4 hsum
   go_wp2_with fail
   refine (vzeroK (N : Int) 79 _).mono ?_
   rintro e w5 ⟨gx, rfl, hxo, hb9⟩
   rw [unhide HRM] at hxo ⊢
   have hx0 := hxo.vf
   have hgx := hxo.base_le.2
   have HX0 := hide (show InL K fun j => (List.replicate N (0 : Int)).getD j 0 from (inL_zero K).eq fun j => zerosR_at N j)
   replace h2 := h2.later hb9
   replace h5 := h5.later hb9
   replace HB := hide (Below.step (unhide HB) hb9)
   obtain ⟨X0, eX0⟩ : ∃ X0, X0 = List.replicate N (0 : Int) := ⟨_, rfl⟩
   rw [← eX0] at hx0 HX0
   clear hb9 hxo eX0 hsumI
   go_wp2_with fail
   obtain ⟨W2, hW2⟩ : ∃ W2, W2 = w5.alloc (.cells #[.bool false, .slice none 0 0] 39) := ⟨_, rfl⟩
   obtain ⟨B3, hb9⟩ := boxes1 w5 false none 0 0 hW2
   rw [← hW2]
   clear hW2
   replace hx0 := hx0.later hb9
   have HC0 := hide hb9
   clear hb9
   go_loopw [11, 60] (fun s t wr => ∃ (i : Nat) (ax : Option Addr) (cx : Nat) (xs : List Int), i ≤ m5 ∧ t = .int .i64 (i : Int) ∧ s = .slice ax N cx ∧ VF wr ax N cx xs (79 + i) ∧ (∀ g off, ax = some ⟨g, off, none⟩ → g ≠ w5.heap.size) ∧ InL K (fun j => xs.getD j 0) ∧ Box wr w5.heap.size false none 0 0 ∧ Below w5.heap.size w5 wr) (fun _ t _ => m5 - (intOf t).toNat)
   case atStart => exact ⟨0, _, _, X0, Nat.zero_le _, rfl, rfl, hx0, fun g off e => by simp at e; omega, unhide HX0, B3, unhide HC0⟩
   case round =>
    clear hx0 HX0 B3 HC0
    obtain ⟨i, ax, cx, xs, hi, rfl, rfl, hx, hfr, hin, C3, hC⟩ := hrel
    have HC := hide hC
    have HFR := hide hfr
    have HIN := hide hin
    clear hC hfr hin
    by_cases hlt : i < m5
    ·obtain ⟨g, off, rfl⟩ := h5.addr (by omega)
     obtain ⟨hg, a9, l9, c9, hc9, hv9⟩ := RowsOf.at (R := fun w a l c zs => VF w a l c zs 76) h5 hlt
     have hl9 : N = l9 := by rw [← hv9.len_eq]; exact (rows_len (unhide HL5) i (by rw [unhide HLN]; exact hlt)).symm
     subst hl9
     replace hv9 := hv9.later (unhide HC)
     have f2 := ((unhide HC).cell (p := ⟨g, off + i, none⟩) hg).trans hc9
     have hgr := Nat.lt_of_lt_of_le hg (unhide HC).size
     have hi0 : (0 : Int) ≤ (i : Int) := by omega
     have hi1 : (i : Int) < (m5 : Int) := by omega
     have HD1 := hide ((ker_dots (unhide HK) (unhide HCL) (unhide HLL) (v := K.getD i []) (by rw [hv9.len_eq]; exact Nat.le_refl _)).1 (inL_row (l := K) i))
     have hrow := hide (inL_row (l := K) i)
     obtain ⟨row, erow⟩ : ∃ row, row = K.getD i [] := ⟨_, rfl⟩
     have hrow2 : Hid (InL K fun j => row.getD j 0) := hide (by rw [erow]; exact unhide hrow)
     rw [← erow] at hv9 HD1
     clear hc9 hg erow hrow
     go_wp2_with fail
     refine (kHasK a3 len0 c3 cl 3 a9 N c9 row 76 9 true _ ((h2.later (unhide HC)).mk (by omega)) (hv9.vk (by omega)) (by omega) (by omega) (by omega) (lens_wide (unhide HLL) (by omega)) (by omega) (by omega) (by omega) ⟨fun _ => unhide HD1, fun _ => rfl⟩).mono ?_
     rintro e w6 ⟨rfl, hb9⟩
     replace hx := hx.later hb9
     replace hv9 := hv9.later hb9
     replace C3 := C3.later hb9
     replace HC := hide (Below.step (unhide HC) hb9)
     clear hb9 f2 hgr HD1
     by_cases hit : i < len2
     ·have hi2 : (i : Int) < (len2 : Int) := by omega
      obtain ⟨g8, o8, rfl⟩ := r2.addr (by omega)
      obtain ⟨hg8, hc8⟩ := r2.at hit
      have hbb := Below.step (unhide HB) (unhide HC)
      have f3 := (hbb.cell (p := ⟨g8, o8 + i, none⟩) hg8).trans hc8
      have hgr8 := Nat.lt_of_lt_of_le hg8 hbb.size
      have hsm := r2.small i
      obtain ⟨z, ez⟩ : ∃ z, z = zs2.getD i 0 := ⟨_, rfl⟩
      rw [← ez] at f3 hsm
      have hz1 : -128 ≤ z := hsm.1
      have hz2 : z ≤ 127 := hsm.2
      have hzw : IntKind.i64.wrap z = z := by rw [IntKind.wrap_i64]; omega
      clear hg8 hc8 hbb hsm ez
      go_wp2_with fail
      refine (rofK z _ (by omega) (by omega)).mono ?_
      rintro e w7 ⟨b10, a10, l10, c10, rfl, h10, hb9⟩
      replace hx := hx.later hb9
      replace hv9 := hv9.later hb9
      replace C3 := C3.later hb9
      replace HC := hide (Below.step (unhide HC) hb9)
      clear hb9 f3 hgr8
      go_wp2_with fail
      refine (vtimesK a9 N c9 row 76 b10 a10 l10 c10 z 2 _ (hv9.vk (by omega)) (h10.ik (by omega)) (by omega)).mono ?_
      rintro e w8 ⟨a11, c11, rfl, h11, hb9⟩
      replace hx := hx.later hb9
      replace C3 := C3.later hb9
      replace HC := hide (Below.step (unhide HC) hb9)
      clear hb9 h10 hv9
      go_wp2_with fail
      refine (vaddF ax N cx xs (79 + i) a11 N c11 (vtimes row z) (76 + 2) _ (hx.vk (by omega)) (h11.vk (by omega)) (by omega) (by omega) (by omega) (by omega)).mono ?_
      rintro e w9 ⟨a12, c12, rfl, h12, hfr12, hb9⟩
      rw [Nat.max_self] at h12 ⊢
      rw [show max (79 + i) (76 + 2) + 1 = 79 + (i + 1) by omega] at h12
      have hlt8 := C3.lt
      have HFR12 := hide (show ∀ g off, a12 = some ⟨g, off, none⟩ → g ≠ w5.heap.size from fun g off e => by have := hfr12 g off e; omega)
      replace C3 := C3.later hb9
      replace HC := hide (Below.step (unhide HC) hb9)
      have HIN2 := hide (((unhide HIN).add ((unhide hrow2).mul z)).eq (u := fun j => (vadd xs (vtimes row z)).getD j 0) fun j => by rw [vadd_at, vtimes_at, Int.mul_comm z])
      obtain ⟨xs2, exs2⟩ : ∃ xs2, xs2 = vadd xs (vtimes row z) := ⟨_, rfl⟩
      rw [← exs2] at h12 HIN2
      clear hb9 hx h11 hfr12 exs2 hlt8
      go_wp2
      go_roundw
      case rel => exact ⟨i + 1, _, _, xs2, by omega, by go_num, rfl, h12, unhide HFR12, unhide HIN2, C3, unhide HC⟩
      case measure => simp [intOf]; omega
     ·have hi2 : ¬ (i : Int) < (len2 : Int) := by omega
      go_wp2
      go_roundw
      case rel => exact ⟨i + 1, _, _, xs, by omega, by go_num, rfl, vf_up hx (by omega), unhide HFR, unhide HIN, C3, unhide HC⟩
      case measure => simp [intOf]; omega
    ·have him : i = m5 := by omega
     subst him
     have hi1 : ¬ (i : Int) < (i : Int) := by omega
     replace hx := vf_up hx (show 79 + i ≤ 90 by omega)
     go_wp2_with fail
     go_loopw [92] (fun t wq => ∃ (j : Nat) (b1 : Bool) (a1 : Option Addr) (l1 c1 : Nat) (z : Int), j ≤ N ∧ t = .int .i64 (j : Int) ∧ Box wq w5.heap.size b1 a1 l1 c1 ∧ FK wq b1 a1 l1 c1 z 100 ∧ (∀ t, t < j → z ∣ xs.getD t 0) ∧ VF wq ax N cx xs 90 ∧ Below w5.heap.size w5 wq) (fun t _ => N - (intOf t).toNat)
     case atStart => exact ⟨0, _, _, _, _, 0, Nat.zero_le _, rfl, C3, fk_zero _ _, fun t ht => absurd ht (by omega), hx, unhide HC⟩
     case round =>
      clear C3 hx HC
      obtain ⟨j, b1, a1, l1, c1, z, hj, rfl, C3, hz, hdv, hx, hC⟩ := hrel
      have HC := hide hC
      have HDV := hide hdv
      clear hC hdv
      by_cases hjn : j < N
      ·have hj0 : (0 : Int) ≤ (j : Int) := by omega
       have hj1 : (j : Int) < (N : Int) := by omega
       obtain ⟨gv, ov, rfl⟩ := hx.some (by omega)
       obtain ⟨b2, a2', l2, c2, he, hy⟩ := hx.at hjn
       obtain ⟨f1, f2⟩ := he.facts
       have hg1 := he.1
       obtain ⟨f3, f4, _, _⟩ := C3.facts
       have hs3 := C3.lt
       go_wp2_with fail
       obtain ⟨W4, hW4⟩ : ∃ W4, W4 = wr.alloc (.cells #[.bool b2, .slice a2' l2 c2] 39) := ⟨_, rfl⟩
       obtain ⟨D0, hb9⟩ := boxes1 wr b2 a2' l2 c2 hW4
       rw [← hW4]
       clear hW4 f1 f2 f3 f4 he
       replace C3 := C3.later hb9
       replace hz := hz.later hb9
       replace hy := hy.later hb9
       replace hx := hx.later hb9
       replace HC := hide (Below.step (unhide HC) hb9)
       clear hb9 D0
       refine (rgcdK b1 a1 l1 c1 z 100 b2 a2' l2 c2 (xs.getD j 0) 90 _ (hz.ik (by omega)) (hy.ik (by omega)) (by omega) (by omega)).mono ?_
       rintro e w6 ⟨b3, a3', l3, c3', rfl, h3, hb9⟩
       rw [show max 100 90 = 100 from rfl] at h3
       replace C3 := C3.later hb9
       replace hx := hx.later hb9
       replace HC := hide (Below.step (unhide HC) hb9)
       have HDV2 := hide (show ∀ t, t < j + 1 → (Int.gcd z (xs.getD j 0) : Int) ∣ xs.getD t 0 from fun t ht => by
        by_cases c : t = j
        ·subst c; exact Int.gcd_dvd_right ..
        ·exact Int.dvd_trans (Int.gcd_dvd_left ..) (unhide HDV t (by omega)))
       obtain ⟨G, eG⟩ : ∃ G : Int, G = (Int.gcd z (xs.getD j 0) : Int) := ⟨_, rfl⟩
       rw [← eG] at h3 HDV2
       clear hb9 hz hy eG
       obtain ⟨q1, q2, q3, q4⟩ := C3.facts
       have hs4 := C3.lt
       have hx' : VF (put w6 w5.heap.size b3 a3' l3 c3') (some ⟨gv, ov, none⟩) N cx xs 90 := VF.grown hx (grown_set2 w6 w5.heap.size 0 1 _ _) (fun g e => by simp only [Option.some.injEq] at e; subst e; exact C3.noLimb) (fun g off e er => by
        simp only [Option.some.injEq] at er
        exact unhide HFR g off e er.symm)
       go_wp2
       go_roundw
       case rel => exact ⟨j + 1, _, _, _, _, G, by omega, by go_num, C3.put b3 a3' l3 c3', h3.put C3.noLimb _ _ _ _, unhide HDV2, hx', below_put (unhide HC) (Nat.le_refl _) _ _ _ _⟩
       case measure => simp [intOf]; omega
      ·obtain rfl : j = N := by omega
       have hj1 : ¬ (j : Int) < (j : Int) := by omega
       obtain ⟨s, es⟩ : ∃ s, s = z.sign := ⟨_, rfl⟩
       have HES := hide es
       obtain ⟨f3, f4, _, _⟩ := C3.facts
       have hs3 := C3.lt
       clear es
       go_wp2_with fail
       refine (rsignK b1 a1 l1 c1 z 100 s _ (hz.ik (by omega)) (unhide HES)).mono ?_
       rintro e w6 ⟨rfl, hb9⟩
       replace C3 := C3.later hb9
       replace hz := hz.later hb9
       replace hx := hx.later hb9
       replace HC := hide (Below.step (unhide HC) hb9)
       clear hb9 f3 f4 hs3
       by_cases hz0 : z = 0
       ·have hs0 : s = 0 := by rw [unhide HES, hz0]; rfl
        have hsb : (s == 0) = true := by rw [hs0]; rfl
        replace HB := hide (Below.step (unhide HB) (unhide HC))
        clear hs0 hz hx C3 HC
        go_wp2_with fail
        refine (awake11_any _).mono ?_
        rintro e w7 ⟨rfl, hb9⟩
        go_wp2
        go_ret
        exact ⟨rfl, Below.step (unhide HB) hb9⟩
       ·have hs0 : s ≠ 0 := by rw [unhide HES]; exact fun e => hz0 (Int.sign_eq_zero_iff_zero.1 e)
        have hsb : (s == 0) = false := by simpa using hs0
        have HZ0 := hide hz0
        clear hs0 hz0
        go_wp2_with fail
        go_loopw [17, 106] (fun s t wq => ∃ (k : Nat) (aw : Option Addr) (cw : Nat) (ws : List Int), k ≤ j ∧ t = .int .i64 (k : Int) ∧ s = .slice aw k cw ∧ OwnV wq w6.heap.size aw k cw ws 90 ∧ (∀ t, t < k → ws.getD t 0 = (xs.getD t 0).tdiv z) ∧ Below w6.heap.size w6 wq) (fun _ t _ => j - (intOf t).toNat)
        case atStart => exact ⟨0, none, 0, [], Nat.zero_le _, rfl, rfl, ownV_nil _ _ _, fun t ht => absurd ht (by omega), Below.refl _ _⟩
        case round =>
         obtain ⟨k, aw, cw, ws, hk, rfl, rfl, hov, hall, hD⟩ := hrel
         have HD := hide hD
         have HA := hide hall
         clear hD hall
         by_cases hkn : k < j
         ·have hk0 : (0 : Int) ≤ (k : Int) := by omega
          have hk1 : (k : Int) < (j : Int) := by omega
          obtain ⟨gv, ov, rfl⟩ := hx.some (by omega)
          obtain ⟨b2, a2', l2, c2, he, hy⟩ := (hx.later (unhide HD)).at hkn
          have C4 := C3.later (unhide HD)
          obtain ⟨f1, f2⟩ := he.facts
          have hg1 := he.1
          obtain ⟨f3, f4, _, _⟩ := C4.facts
          have hs3 := C4.lt
          have hz4 := hz.later (unhide HD)
          go_wp2_with fail
          obtain ⟨W4, hW4⟩ : ∃ W4, W4 = wr.alloc (.cells #[.bool b2, .slice a2' l2 c2] 39) := ⟨_, rfl⟩
          obtain ⟨D0, hb9⟩ := boxes1 wr b2 a2' l2 c2 hW4
          rw [← hW4]
          clear hW4 f1 f2 f3 f4 he C4
          replace hz4 := hz4.later hb9
          replace hy := hy.later hb9
          replace hov := hov.later hb9
          replace HD := hide (Below.step (unhide HD) hb9)
          clear hb9 D0
          refine (rquoK b2 a2' l2 c2 (xs.getD k 0) 90 b1 a1 l1 c1 z 100 _ (hy.ik (by omega)) (hz4.ik (by omega)) (unhide HZ0)).mono ?_
          rintro e w9 ⟨b3, a3', l3, c3', b4, a4, l4, c4, rfl, h3, _, hb9⟩
          replace hov := hov.later hb9
          replace HD := hide (Below.step (unhide HD) hb9)
          clear hb9 hz4 hy
          obtain ⟨qv, eqv⟩ : ∃ qv, qv = (xs.getD k 0).tdiv z := ⟨_, rfl⟩
          rw [← eqv] at h3
          have EQV := hide eqv
          clear eqv
          go_upto_region 29 with fail
          obtain ⟨W5, hW5⟩ : ∃ W5, W5 = ((w9.alloc (.cells #[.bool b3, .slice a3' l3 c3'] 39)).alloc (.cells #[.bool b4, .slice a4 l4 c4] 39)) := ⟨_, rfl⟩
          obtain ⟨D1, _, hb9⟩ := boxes2 w9 b3 a3' l3 c3' b4 a4 l4 c4 hW5
          rw [← hW5]
          clear hW5
          replace hov := hov.later hb9
          replace h3 := h3.later hb9
          replace HD := hide (Below.step (unhide HD) hb9)
          obtain ⟨f1, f2, _, _⟩ := D1.facts
          have hs5 := D1.lt
          clear hb9
          obtain ⟨W6, hW6⟩ : ∃ W6, W6 = W5.alloc (.cells #[.bool b3, .slice a3' l3 c3'] 39) := ⟨_, rfl⟩
          obtain ⟨D5, hb9⟩ := boxes1 W5 b3 a3' l3 c3' hW6
          replace h3 := h3.later hb9
          replace hov := hov.later hb9
          replace HD := hide (Below.step (unhide HD) hb9)
          clear hb9
          have hE5 : EltAt W6 W5.heap.size 0 b3 a3' l3 c3' := ⟨D5.lt, D5.facts.1, D5.facts.2.1⟩
          have hsz := (unhide HD).size
          clear D5
          rw [hW6] at h3 hov hE5 hsz
          go_wp2_with (at_builtin; refine append_vec rfl (.tmp 116) (.tmp 118) 24 Tryz.underlying24 rfl w6.heap.size aw k cw 90 ws rfl hov (by omega) hsz W5.heap.size 0 1 b3 a3' l3 c3' qv rfl hE5 h3 ?_)
          intro gn cn w10 hown2 hgr hat
          rw [← hW6] at hgr hov hsz
          clear hW6
          have HE := hide ((unhide HD).grown hgr hsz (own_ge hov))
          have HA2 := hide (snoc_each (f := fun t => (xs.getD t 0).tdiv z) hov.len (unhide HA))
          rw [unhide EQV] at hown2
          clear hgr hat f1 f2 hs5
          go_wp2
          go_roundw
          case rel => exact ⟨k + 1, _, _, _, by omega, by go_num, rfl, hown2, unhide HA2, unhide HE⟩
          case measure => simp [intOf]; omega
         ·obtain rfl : k = j := by omega
          have hk1 : ¬ (k : Int) < (k : Int) := by omega
          have hwl := hov.len
          have hvf := hov.vf
          have HIW := hide (ker_split (unhide HK) (unhide HIN) (unhide HZ0) (unhide HDV) (unhide HA) (by omega))
          have HD1 := hide ((ker_dots (unhide HK) (unhide HCL) (unhide HLL) (v := ws) (by omega)).1 (unhide HIW))
          replace HC := hide (Below.step (unhide HC) (unhide HD))
          have HM5 := hide (show 90 + i * (76 + 3) ≤ 200000 from by
           have : i * (76 + 3) ≤ 7 * (76 + 3) := Nat.mul_le_mul_right _ (by omega)
           omega)
          clear hov hx hz C3 hwl HD
          go_wp2_with fail
          refine (kHasK a3 len0 c3 cl 3 aw k cw ws 90 9 true _ ((h2.later (unhide HC)).mk (by omega)) (hvf.vk (by omega)) (by omega) (by omega) (by omega) (lens_wide (unhide HLL) (by omega)) (by omega) (by omega) (by omega) ⟨fun _ => unhide HD1, fun _ => rfl⟩).mono ?_
          rintro e w7 ⟨rfl, hb9⟩
          replace hvf := hvf.later hb9
          replace HC := hide (Below.step (unhide HC) hb9)
          clear hb9
          go_wp2_with fail
          refine (hasK a5 i c5 K p 76 aw k cw ws 90 _ (h5.later (unhide HC)) (unhide HF) (fun t ht => rows_len (unhide HL5) t (by rw [unhide HLN]; exact ht)) (hvf.vk (by omega)) (unhide HIW) (unhide HM5) (by omega) (by omega) (by omega)).mono ?_
          rintro e w8 ⟨rfl, hb9⟩
          replace HB := hide (Below.step (Below.step (unhide HB) (unhide HC)) hb9)
          clear hb9 hvf h2 h5 HC
          go_wp2_with fail
          refine (awake11_any _).mono ?_
          rintro e w15 ⟨rfl, hb9⟩
          go_wp2
          go_ret
          exact ⟨rfl, Below.step (unhide HB) hb9⟩
  ·have h8' : (8 : Int) < (len2 : Int) := by omega
   clear hl0
   go_wp2_with fail
   refine (awake11_any _).mono ?_
   rintro e w15 ⟨rfl, hb9⟩
   go_wp2
   go_ret
   exact ⟨rfl, Below.step (unhide HB) hb9⟩
 ·clear hlt hb1 r0
  go_wp2_with fail
  refine (awake11_any _).mono ?_
  rintro e w15 ⟨rfl, hb9⟩
  go_wp2
  go_ret
  exact ⟨rfl, Below.step (unhide HB) hb9⟩

end Go.Proofs.YtjebmlogchoehaaGreat
