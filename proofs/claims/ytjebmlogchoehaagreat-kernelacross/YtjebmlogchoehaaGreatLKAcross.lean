/-
 The walk of KernelAcross: it tells true.
-/
import Derived.Test.YtjebmlogchoehaaGreatLKBase
import Derived.Test.YtjebmlogchoehaaGreatJI
import Derived.Deep.CutRange
namespace Go.Proofs.YtjebmlogchoehaaGreat
open Go.RowKit Lb
set_option maxRecDepth 20000

theorem mi_one {w : World} {a : Option Addr} {l c : Nat} {zs : List Int} (h : VI w a l c zs) : MI (w.alloc (.cells #[.slice a l c] 24)) (some ⟨w.heap.size, 0, none⟩) 1 1 [zs] := by
 refine rowsOf_new (R := VI) (vs := [(a, l, c)]) rfl rfl rfl (by simp) fun i a2 l2 c2 e => ?_
 match i with
 | 0 =>
  simp at e
  obtain ⟨rfl, rfl, rfl⟩ := e
  exact h.later (below_new w _)
 | i + 1 => simp at e
theorem vs_one {w : World} {g c1 : Nat} {a : Option Addr} {l c : Nat} {zs : List Int} (h : MS w (some ⟨g, 0, none⟩) 1 c1 [zs] 3) (hc : w.cell? ⟨g, 0, none⟩ = some (.slice a l c)) : VS w a l c zs 3 := by
 obtain ⟨_, a', l', c', h1, h2⟩ := RowsOf.at (R := fun w a l c zs => VS w a l c zs 3) h (i := 0) (by omega)
 rw [Nat.zero_add, hc] at h1
 simp only [Option.some.injEq, Value.slice.injEq] at h1
 obtain ⟨rfl, rfl, rfl⟩ := h1
 exact h2
theorem ker_twice_eq {h g o c : List (List Int)} {p q : Nat → Nat} {N : Nat} (hh : Ker h c N) (hg : Ker g h N) (ho : Ker o g N) (hc : ∀ r ∈ c, r.length = N) (hf : HForm h p) (hfo : HForm o q) (hl : ∀ r ∈ h, r.length = N) (hlo : ∀ r ∈ o, r.length = N) : o = h :=
 hnf_one hfo hf (hh.twice hg ho (lens_zero hc)) hlo hl
set_option maxRecDepth 40000 in
set_option maxHeartbeats 4000000 in
theorem kernelAcross_walk (a0 : Option Addr) (len0 cap0 : Nat) (rs0 : List (List Int)) (m1 : Int) (a2 : Option Addr) (len2 cap2 : Nat) (zs2 : List Int) (w : World) (r0 : MI w a0 len0 cap0 rs0) (r1 : (Lit.int .i64 m1).wf = true) (r2 : VI w a2 len2 cap2 zs2) :
  Calls Tryz.prog 6 #[.slice a0 len0 cap0, .int .i64 m1, .slice a2 len2 cap2] w fun e w' => e = .returned (.bool true) ∧ Below w.heap.size w w' := by
 have hm1 := bounds_i64 r1
 have HL2 := hide r2.len_eq
 clear r1
 go_enter Tryz.func6, Tryz.ntmps6
 go_wp2_with fail
 refine (heavyK a0 len0 cap0 rs0 3 9 _ r0 (by omega) (by omega)).mono ?_
 rintro e w1 ⟨q, rfl, hq, hlt, hb1⟩
 have HB := hide hb1
 rcases hq with rfl | rfl
 ·obtain ⟨hn3, hwd, hms⟩ := hlt rfl
  have HWD := hide hwd
  have HMS := hide hms
  have hr2 := r2.later hb1
  clear hms hlt hb1 hwd r0 r2
  obtain ⟨WA, hWA⟩ : ∃ WA, WA = w1.alloc (.cells #[.slice a2 len2 cap2] 24) := ⟨_, rfl⟩
  have hbA : Below w1.heap.size w1 WA := by rw [hWA]; exact below_new _ _
  have hcA : WA.cell? ⟨w1.heap.size, 0, none⟩ = some (.slice a2 len2 cap2) := by rw [hWA]; simp
  have hsA : w1.heap.size < WA.heap.size := by rw [hWA]; simp
  have hone : MI WA (some ⟨w1.heap.size, 0, none⟩) 1 1 [zs2] := by rw [hWA]; exact mi_one hr2
  have HCA := hide (show ∀ w', Below WA.heap.size WA w' → w'.cell? ⟨w1.heap.size, 0, none⟩ = some (.slice a2 len2 cap2) from fun w' hb => (hb.cell (p := ⟨w1.heap.size, 0, none⟩) hsA).trans hcA)
  have HBA := hide (Below.step (unhide HB) hbA)
  rw [hWA] at hone
  clear hcA hsA hbA hr2
  go_wp2_with fail
  refine (heavyK _ 1 1 [zs2] 1 9 _ hone (by omega) (by omega)).mono ?_
  rintro e w2 ⟨q, rfl, hq, hlt, hb1⟩
  rw [← hWA] at hb1
  rcases hq with rfl | rfl
  ·obtain ⟨_, hwd2, hms2⟩ := hlt rfl
   have hl2 : len2 ≤ 9 := by have := hwd2 0; rw [show [zs2].getD 0 [] = zs2 from rfl, unhide HL2] at this; exact this
   have hvs := vs_one (hms2 w2 (by rw [← hWA]; exact hb1)) (unhide HCA w2 hb1)
   have hl0 := unhide HMS w2 (Below.step (unhide HBA) hb1)
   replace HB := hide (Below.step (unhide HBA) hb1)
   clear hms2 hwd2 hlt hb1 hone HCA HBA hWA HMS
   go_wp2_with fail
   refine (cutsK a0 len0 cap0 rs0 3 m1 _ hl0.mk (by omega)).mono ?_
   rintro e w3 ⟨a3, c3, N, rfl, hN1, hN7, h2, hb1⟩
   have HRM := hide (room_nat10 (show N ≤ 64 by omega))
   obtain ⟨cl, ecl⟩ : ∃ cl, cl = rs0.map fun r => vcut r N := ⟨_, rfl⟩
   have HLL := hide (show ∀ r ∈ cl, r.length = N by rw [ecl]; exact cut_lens rs0 N)
   rw [← ecl] at h2
   have HCL := hide h2.len_eq
   have HEN := hide (fun i j => mf_ent h2 i j)
   replace hvs := hvs.later hb1
   replace HB := hide (Below.step (unhide HB) hb1)
   clear hb1 ecl hl0 hm1
   go_wp2_with fail
   refine (kernelAny a3 len0 c3 cl N _ (h2.mk (by omega)) (unhide HLL) hN1 (by omega) (by omega) (Or.inl (by omega))).mono ?_
   rintro e w4 ⟨a5, m5, c5, p, K, rfl, h5, hf5, hk5, hl5, hr5, hb9⟩
   obtain ⟨r, pr, hr1, hr2, _, hr4⟩ := hr5
   have HF := hide hf5
   have HK := hide hk5
   have HL5 := hide hl5
   have HLN := hide h5.len_eq
   have HR := hide (And.intro hr1 (And.intro hr2 hr4))
   replace h2 := h2.later hb9
   replace hvs := hvs.later hb9
   replace HB := hide (Below.step (unhide HB) hb9)
   clear hb9 hf5 hk5 hl5 hr1 hr2 hr4
   go_wp2_with fail
   refine (acrossK (kernelForm a5 m5 c5 K p N _ h5 (unhide HF) (unhide HL5) hN1 hN7)).mono ?_
   rintro e w5 ⟨a6, m6, c6, p6, G, rfl, h6, hf6, hk6, hl6, hr6, hb9⟩
   obtain ⟨r2, pr2, hs1, hs2, _, hs4⟩ := hr6
   have hlen2 : r2.length = K.length := hform_same_len hs1 (unhide HF) hs2.symm
   have hgl := h6.len_eq
   have hkl := unhide HLN
   have hrl := (unhide HR).2.2
   have hsum : m6 + m5 = N := by omega
   have hG28 := across_small (a := 3) (n := 3) (unhide HK) hk6 hf6 (unhide HR).1 (unhide HR).2.1 (by omega) (unhide HLL) (by omega) (unhide HEN) (by rw [unhide HCL]; omega) (by omega)
   have h6' : MF w5 a6 m6 c6 G 76 := mf_up (mf_low h6 hG28) (by omega)
   have HF6 := hide hf6
   have HK6 := hide hk6
   have HL6 := hide hl6
   replace h2 := h2.later hb9
   replace hvs := hvs.later hb9
   replace h5 := h5.later hb9
   replace HB := hide (Below.step (unhide HB) hb9)
   clear hb9 hf6 hk6 hl6 hs1 hs2 hs4 hlen2 hgl hkl hrl hG28 h6
   go_wp2_with fail
   refine (acrossK (kernelForm a6 m6 c6 G p6 N _ h6' (unhide HF6) (unhide HL6) hN1 hN7)).mono ?_
   rintro e w6 ⟨a7, m7, c7, p7, O, rfl, h7, hf7, hk7, hl7, _, hb9⟩
   have HE := hide (ker_twice_eq (unhide HK) (unhide HK6) hk7 (unhide HLL) (unhide HF) hf7 (unhide HL5) hl7)
   replace h2 := h2.later hb9
   replace hvs := hvs.later hb9
   replace h5 := h5.later hb9
   replace HB := hide (Below.step (unhide HB) hb9)
   have hsumI : (m6 : Int) + (m5 : Int) = (N : Int) := by omega
   have hm6 : m6 ≤ 7 := by omega
   have hm5 : m5 ≤ 7 := by omega
   clear hb9 hf7 hk7 hl7 h6'
   go_wp2_with fail
   refine (refSameAllK _ _ _ O 1155 _ _ _ K 76 _ h7 h5 (unhide HE)).mono ?_
   rintro e w7 ⟨rfl, hb9⟩
   replace h2 := h2.later hb9
   replace hvs := hvs.later hb9
   replace h5 := h5.later hb9
   replace HB := hide (Below.step (unhide HB) hb9)
   clear hb9 h7 HE
   have hbn := below_new w7 (.cells #[] 24)
   have hemp := mo_empty (w := w7) (base := w7.heap.size) (k := 3) rfl (Nat.le_refl _)
   have h2' := h2.later hbn
   have hszn := hbn.size
   have HBN := hide hbn
   clear hbn
   go_wp2_with (at_builtin; (refine append_rows (R := fun w a l c zs => VF w a l c zs 3) (steadyMO 3) rfl (.tmp 79) (.tmp 80) 22 Tryz.underlying22 rfl w7.heap.size _ 0 0 [] rfl hemp _ len0 _ cl rfl h2' (by omega) hszn ?_))
   intro am cm w8 hown hgr7
   have hbe : Below w7.heap.size w7 w8 := (unhide HBN).grown hgr7 hszn (MO.ge hemp)
   replace hown : MO w8 w7.heap.size am len0 cm cl 3 := hown
   have h50 := h5
   replace hvs := hvs.later hbe
   have HBE := hide hbe
   clear hgr7 hemp hszn HBN h2' h2 hbe
   go_wp2_with fail
   refine (rvcutK a2 len2 cap2 zs2 3 (N : Int) _ hvs.vk).mono ?_
   rintro e w9 ⟨a9, c9, rfl, h9, hb9⟩
   rw [unhide HRM] at h9 ⊢
   obtain ⟨vc, evc⟩ : ∃ vc, vc = vcut zs2 N := ⟨_, rfl⟩
   have hvl : vc.length = N := by rw [evc]; exact vcut_len zs2 N
   have HVL := hide hvl
   rw [← evc] at h9
   replace hown := hown.later hb9
   replace HBE := hide (Below.step (unhide HBE) hb9)
   clear hb9 hvs evc hvl
   obtain ⟨W6, hW6⟩ : ∃ W6, W6 = w9.alloc (.cells #[.slice a9 N c9] 24) := ⟨_, rfl⟩
   have hb9 : Below w9.heap.size w9 W6 := by rw [hW6]; exact below_new _ _
   have hone := mf_one h9
   replace hown := hown.later hb9
   replace HBE := hide (Below.step (unhide HBE) hb9)
   clear hb9
   have hsz := (unhide HBE).size
   rw [hW6] at hown hsz
   go_wp2_with (at_builtin; (refine append_rows (R := fun w a l c zs => VF w a l c zs 3) (steadyMO 3) rfl (.tmp 81) (.tmp 85) 22 Tryz.underlying22 rfl w7.heap.size am len0 cm cl rfl hown _ 1 1 [vc] rfl hone (by omega) hsz ?_))
   intro an cn w10 hown2 hgr7
   rw [← hW6] at hgr7 hown hsz
   have HD := hide ((unhide HBE).grown hgr7 hsz (MO.ge hown))
   clear hW6 hone hgr7 h9
   have h5' := h50.later (unhide HD)
   have hml := MO.mf hown2
   replace HB := hide (Below.step (unhide HB) (unhide HD))
   have HLC : Hid (∀ r ∈ cl ++ [vc], r.length = N) := hide fun r hr => by
    rcases List.mem_append.1 hr with e | e
    ·exact unhide HLL r e
    ·rw [List.mem_singleton.1 e]; exact unhide HVL
   clear hown hown2 hsz HBE HD h50 h5
   go_wp2_with fail
   refine (kernelAny an (len0 + 1) cn (cl ++ [vc]) N _ (hml.mk (by omega)) (unhide HLC) hN1 (by omega) (by omega) (Or.inl (by omega))).mono ?_
   rintro e w11 ⟨a11, m11, c11, p11, P, rfl, h11, hf11, hk11, hl11, hr11, hb9⟩
   obtain ⟨r3, pr3, ht1, ht2, _, ht4⟩ := hr11
   have hmore := rank_more (unhide HR).2.1 ht1.eform ht2 (unhide HR).1.eform
   have hrl := (unhide HR).2.2
   have HM := hide (fun i => (unhide HK).more hk11 (inL_row (l := P) i))
   have HL11 := hide hl11
   have HLN11 := hide h11.len_eq
   have hge : m5 ≤ m11 + 1 := by omega
   have hgeI : (m5 : Int) - 1 ≤ (m11 : Int) := by omega
   have hm11 : m11 ≤ 7 := by omega
   replace h5 := h5'.later hb9
   replace HB := hide (Below.step (unhide HB) hb9)
   clear hb9 hml h5' hf11 hk11 hl11 ht1 ht2 ht4 hmore hrl
   have HM5 := hide (show 76 + m5 * (76 + 3) ≤ 200000 from by
    have : m5 * (76 + 3) ≤ 7 * (76 + 3) := Nat.mul_le_mul_right _ (by omega)
    omega)
   go_wp2_with fail
   go_loopw [93] (fun t wr => ∃ i : Nat, i ≤ m11 ∧ t = .int .i64 (i : Int) ∧ Below w11.heap.size w11 wr) (fun t _ => m11 - (intOf t).toNat)
   case atStart => exact ⟨0, Nat.zero_le _, rfl, Below.refl _ _⟩
   case round =>
    obtain ⟨i, hi, rfl, hC⟩ := hrel
    have HC := hide hC
    clear hC
    by_cases hlt : i < m11
    ·obtain ⟨g, off, rfl⟩ := h11.addr (by omega)
     obtain ⟨hg, a12, l12, c12, hc12, hv12⟩ := RowsOf.at (R := fun w a l c zs => VF w a l c zs 76) h11 hlt
     have hl12 : N = l12 := by rw [← hv12.len_eq]; exact (rows_len (unhide HL11) i (by rw [unhide HLN11]; exact hlt)).symm
     subst hl12
     replace hv12 := hv12.later (unhide HC)
     have f2 := ((unhide HC).cell (p := ⟨g, off + i, none⟩) hg).trans hc12
     have hgr := Nat.lt_of_lt_of_le hg (unhide HC).size
     have hi0 : (0 : Int) ≤ (i : Int) := by omega
     have hi1 : (i : Int) < (m11 : Int) := by omega
     clear hc12 hg
     go_wp2_with fail
     refine (hasK a5 m5 c5 K p 76 _ N _ (P.getD i []) 76 _ (h5.later (unhide HC)) (unhide HF) (fun t ht => rows_len (unhide HL5) t (by rw [unhide HLN]; exact ht)) (hv12.vk (by omega)) (unhide HM i) (unhide HM5) (by omega) (by omega) (by omega)).mono ?_
     rintro e w12 ⟨rfl, hb9⟩
     replace HC := hide (Below.step (unhide HC) hb9)
     clear hb9 f2 hgr hv12
     go_wp2
     go_roundw
     case rel => exact ⟨i + 1, by omega, by go_num, unhide HC⟩
     case measure => simp [intOf]; omega
    ·have hin : i = m11 := by omega
     subst hin
     have hi1 : ¬ (i : Int) < (i : Int) := by omega
     replace HB := hide (Below.step (unhide HB) (unhide HC))
     clear h11 h5 HC
     go_wp2_with fail
     refine (awake11_any _).mono ?_
     rintro e w15 ⟨rfl, hb9⟩
     go_wp2
     go_ret
     exact ⟨rfl, Below.step (unhide HB) hb9⟩
  ·replace HB := hide (Below.step (unhide HBA) hb1)
   clear hlt hb1 hone HCA HBA hWA HMS hn3 HWD
   go_wp2_with fail
   refine (awake11_any _).mono ?_
   rintro e w15 ⟨rfl, hb9⟩
   go_wp2
   go_ret
   exact ⟨rfl, Below.step (unhide HB) hb9⟩
 ·clear hlt hb1 r0 r2
  go_wp2_with fail
  refine (awake11_any _).mono ?_
  rintro e w15 ⟨rfl, hb9⟩
  go_wp2
  go_ret
  exact ⟨rfl, Below.step (unhide HB) hb9⟩
end Go.Proofs.YtjebmlogchoehaaGreat
