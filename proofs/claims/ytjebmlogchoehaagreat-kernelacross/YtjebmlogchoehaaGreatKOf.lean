/-
 What package kernel tells.
-/
import Derived.Test.YtjebmlogchoehaaGreatJN
import Derived.Test.YtjebmlogchoehaaGreatJO
import Derived.Test.YtjebmlogchoehaaGreatJI
import Derived.Test.YtjebmlogchoehaaGreatJR
namespace Go.Proofs.YtjebmlogchoehaaGreat
open Go.RowKit Lb
set_option maxRecDepth 20000

/-- rows[q:], of rows that lie anywhere. -/
theorem slice_tailM {w : World} {ao : Option Addr} {m cap k q : Nat} {r : List (List Int)} (h : MF w ao m cap r k) (hp : 0 < m) (hq : q ≤ m) : ∃ at2, (∀ W, (Instr.sliceAt 22 (.slice ao m cap) (some (.int .i64 (q : Int))) none none).run Tryz.prog W = .ok (.slice at2 (m - q) (cap - q)) W) ∧ MF w at2 (m - q) (cap - q) (r.drop q) k := by
 have h0 : (0 : Int) ≤ (q : Int) := by omega
 have hc := h.cap_le
 have hmx := h.cap_max
 have hl := h.len_eq
 obtain ⟨g, off, rfl⟩ := h.addr hp
 by_cases c : cap = q
 ·have hqm : q = m := by omega
  subst hqm
  refine ⟨some ⟨g, off, none⟩, fun W => ?_, ?_⟩
  ·simp [Instr.sliceAt, Instr.slice, Instr.sliceBounds, Instr.sliceBound, run_underlying Tryz.underlying22, go_sem, h0, c]
  ·rw [Nat.sub_self, List.drop_of_length_le (by omega)]
   exact ⟨rfl, Nat.zero_le _, by omega, fun e => by simp at e, fun e => absurd e (by omega)⟩
 ·refine ⟨some ⟨g, off + q, none⟩, fun W => ?_, RowsOf.drop (R := fun w a l c zs => VF w a l c zs k) h hq⟩
  simp [Instr.sliceAt, Instr.slice, Instr.sliceBounds, Instr.sliceBound, run_underlying Tryz.underlying22, go_sem, h0, c]
  exact fun e => absurd e (by omega)
theorem turn_form (c : List (List Int)) {N m : Nat} (hm : c.length = m) (h1 : 1 ≤ m) (h2 : m ≤ 64) : rform (vturn c N) (m : Int) = true := rform_yes (by omega) fun i hi => by
 rw [vturn_len] at hi
 rw [turn_lens c N i hi, hm]
theorem sameL_nil {hs : List (List Int)} (h : hs.length = 0) : hs = [] := List.eq_nil_of_length_eq_zero h
set_option maxRecDepth 40000 in
set_option maxHeartbeats 4000000 in
theorem toNoughtK (ao : Option Addr) (n cap : Nat) (hs : List (List Int)) (p : Nat → Nat) (b B R N : Nat) (w : World) (h : MF w ao n cap hs b) (hf : HForm hs p) (hN : ∀ r ∈ hs, r.length = N) (h1 : 1 ≤ N) (h64 : N ≤ 64) (hb2 : 2 ≤ b) (hbd : ∀ M W, WideL (vturn hs N) W M N → Bounded W B) (hB1 : 1 ≤ B) (hnR : N ≤ R + 1) (hK : b + (R + 1) * (R * (B + 1)) ≤ 80000) (hB8 : B ≤ 80000) :
  Calls Tryz.prog 32 #[.slice ao n cap, .int .i64 (N : Int)] w fun e w' => ∃ a1 m c1 q K, e = .returned (.slice a1 m c1) ∧ MF w' a1 m c1 K B ∧ HForm K q ∧ Ker K hs N ∧ (∀ r ∈ K, r.length = N) ∧ n + m = N ∧ Below w.heap.size w w' := by
 have hlen := h.len_eq
 have hb8 : b ≤ 80000 := Nat.le_trans (Nat.le_add_right b _) hK
 have hnN : n ≤ N := by rw [← hlen]; exact hf.len_le fun r hr => by have := hN r hr; omega
 by_cases hn0 : n = 0
 ·obtain rfl := sameL_nil (hlen.trans hn0)
  have HBD : Hid (∀ M W, WideL (vturn [List.replicate N (0 : Int)] N) W M N → Bounded W B) := hide fun M W hw => hw.zero_bounded (turn_nought N N) hB1
  have HZN : Hid (∀ r ∈ [List.replicate N (0 : Int)], r.length = N) := hide fun r hr => by rw [List.mem_singleton.1 hr]; simp
  have HR := hide (show HForm [] (fun i => i) ∧ SameL [List.replicate N (0 : Int)] [] from ⟨hform_nil _, sameL_noughts N⟩)
  have HFM := hide (show rform (vturn [List.replicate N (0 : Int)] N) (1 : Int) = true from turn_form [List.replicate N (0 : Int)] (N := N) (m := 1) rfl (by omega) (by omega))
  have HZL : Hid ([List.replicate N (0 : Int)].length = 1) := hide rfl
  subst hn0
  clear hbd hf hN hlen
  go_enter Tryz.func32, Tryz.ntmps32
  go_wp2_with fail
  refine (vzeroK (N : Int) b _).mono ?_
  rintro e w2 ⟨g2, rfl, h2o, hb1⟩
  rw [room_nat10 h64] at h2o ⊢
  have h2 := h2o.vf
  clear h2o
  obtain ⟨ZZ, eZ⟩ : ∃ ZZ, ZZ = List.replicate N (0 : Int) := ⟨_, rfl⟩
  rw [← eZ] at HBD HZN HR HFM HZL h2
  obtain ⟨W3, hW3⟩ : ∃ W3, W3 = w2.alloc (.cells #[.slice (some ⟨g2, 0, none⟩) N N] 24) := ⟨_, rfl⟩
  have hz0 : MF W3 (some ⟨w2.heap.size, 0, none⟩) 1 1 [ZZ] b := by rw [hW3]; exact mf_one h2
  have HB := hide (Below.step hb1 (show Below w2.heap.size w2 W3 by rw [hW3]; exact below_new _ _))
  have EZ := hide eZ
  rw [hW3] at hz0 HB
  clear hW3 hb1 h2 eZ
  go_wp2_with fail
  refine (turnK _ 1 1 [ZZ] b N (N : Int) _ (hz0.mk (by omega)) (all_len_le (unhide HZN)) (by omega)).mono ?_
  rintro e w3 ⟨a3, c3, rfl, h3, hb9⟩
  rw [room_nat10 h64] at h3 ⊢
  replace HB := hide (Below.step (unhide HB) hb9)
  clear hb9 hz0
  go_wp2_with fail
  refine (turnedG a3 N c3 (vturn [ZZ] N) b B R (1 : Int) _ (h3.mk (by omega)) (by omega) (unhide HFM) (unhide HBD) hb2 hnR hK hB8 (by omega)).mono ?_
  rintro e w4 ⟨a4, m4, c4, a5, c5, rfl, M, p4, W, H, eM, hk4, ht4, hf4, hs4, hw4, hm4, hp4, hl4, hb9⟩
  obtain rfl : M = 1 := by omega
  have hcount := hw4.count hf4 hs4
  have hw5 : WideL (vturn [ZZ] N) W ([ZZ]).length N := by rw [unhide HZL]; exact hw4
  have hker := hw5.ker hf4 hs4 hm4 (by rw [unhide HZL]; exact hp4) (fun j hj => by rw [unhide HZL]; exact hl4 j hj) (lens_zero (unhide HZN)) (unhide HR).1.eform (unhide HR).2
  rw [unhide HZL] at hker
  have HKR := hide hker
  replace HB := hide (Below.step (unhide HB) hb9)
  obtain ⟨aq, hsl, hmf⟩ := slice_tailM ht4 (by omega) hm4
  clear hb9 hk4 hf4 hs4 hw4 hp4 hl4 hcount hw5 hker ht4 eM h3
  rw [← List.map_drop] at hmf
  have HMF := hide hmf
  clear hmf
  go_wp2
  go_ret
  obtain ⟨k1, k2, k3, k4, k5⟩ := unhide HKR
  have hm0 : m4 = 0 := by rw [← k4]; rfl
  subst hm0
  exact ⟨_, _, _, _, _, rfl, unhide HMF, k1, k2.of_same (unhide HR).2, k3, by omega, unhide HB⟩
 ·have HBD := hide (hbd)
  have HZN := hide hN
  have HR := hide (show HForm hs p ∧ SameL hs hs from ⟨hf, SameL.refl _⟩)
  have HFM := hide (turn_form hs (N := N) hlen (by omega) (by omega))
  have HZL := hide hlen
  have hn1 : ¬ (n : Int) = 0 := by omega
  have hn2 : ((n : Int) == 0) = false := by simpa using hn0
  have hlz : ∀ i, (hs.getD i []).length ≤ N := all_len_le hN
  have HLZ := hide hlz
  have HB := hide (Below.refl w.heap.size w)
  have hz0 := h
  clear hbd hf hN hlen hlz h
  go_enter Tryz.func32, Tryz.ntmps32
  go_wp2_with fail
  refine (turnK ao n cap hs b N (N : Int) _ (hz0.mk (by omega)) (unhide HLZ) (by omega)).mono ?_
  rintro e w3 ⟨a3, c3, rfl, h3, hb9⟩
  rw [room_nat10 h64] at h3 ⊢
  replace HB := hide (Below.step (unhide HB) hb9)
  clear hb9 hz0
  go_wp2_with fail
  refine (turnedG a3 N c3 (vturn hs N) b B R (n : Int) _ (h3.mk (by omega)) (by omega) (unhide HFM) (unhide HBD) hb2 hnR hK hB8 (by omega)).mono ?_
  rintro e w4 ⟨a4, m4, c4, a5, c5, rfl, M, p4, W, H, eM, hk4, ht4, hf4, hs4, hw4, hm4, hp4, hl4, hb9⟩
  obtain rfl : M = n := by omega
  have hcount := hw4.count hf4 hs4
  have hw5 : WideL (vturn hs N) W (hs).length N := by rw [unhide HZL]; exact hw4
  have hker := hw5.ker hf4 hs4 hm4 (by rw [unhide HZL]; exact hp4) (fun j hj => by rw [unhide HZL]; exact hl4 j hj) (lens_zero (unhide HZN)) (unhide HR).1.eform (unhide HR).2
  rw [unhide HZL] at hker
  have HKR := hide hker
  replace HB := hide (Below.step (unhide HB) hb9)
  obtain ⟨aq, hsl, hmf⟩ := slice_tailM ht4 (by omega) hm4
  clear hb9 hk4 hf4 hs4 hw4 hp4 hl4 hcount hw5 hker ht4 eM h3
  rw [← List.map_drop] at hmf
  have HMF := hide hmf
  clear hmf
  go_wp2
  go_ret
  obtain ⟨k1, k2, k3, k4, k5⟩ := unhide HKR
  subst k4
  exact ⟨_, _, _, _, _, rfl, unhide HMF, k1, k2, k3, by omega, unhide HB⟩
set_option maxHeartbeats 2000000 in
/-- Of: the rows in the form whose sums are what each row turns to nought. -/
theorem kernelOfK (ao : Option Addr) (n cap : Nat) (ls : List (List Int)) (k B1 R1 B2 R2 N : Nat) (w : World) (h : MK w ao n cap ls k) (hl : ∀ r ∈ ls, r.length = N) (h1 : 1 ≤ N) (h64 : N ≤ 64) (hbd : Bounded ls B1) (hnR : n ≤ R1 + 1) (hK : k + (R1 + 1) * (R1 * (B1 + 1)) ≤ 80000) (hB8 : B1 ≤ 80000) (hn : n ≤ 100) (hB2 : 2 ≤ B1)
  (hbd2 : ∀ hs p, HForm hs p → SameL ls hs → (∀ r ∈ hs, r.length = N) → (∀ i j, (ent hs i j).natAbs < Bp B1) → hs.length ≤ n → ∀ M W, WideL (vturn hs N) W M N → Bounded W B2) (hB21 : 1 ≤ B2) (hNR : N ≤ R2 + 1) (hK2 : B1 + (R2 + 1) * (R2 * (B2 + 1)) ≤ 80000) (hK3 : B2 + (R2 + 1) * (R2 * (B2 + 1)) ≤ 80000) :
  Calls Tryz.prog 10 #[.slice ao n cap, .int .i64 (N : Int)] w fun e w' => ∃ a1 m c1 q K, e = .returned (.tuple #[.slice a1 m c1, .int .i64 0]) ∧ MF w' a1 m c1 K B2 ∧ HForm K q ∧ Ker K ls N ∧ (∀ r ∈ K, r.length = N) ∧ (∃ hs p, HForm hs p ∧ SameL ls hs ∧ (∀ r ∈ hs, r.length = N) ∧ hs.length + m = N) ∧ Below w.heap.size w w' := by
 have HQ : Hid (rform ls (N : Int) = true) := hide (rform_yes (by omega) fun i hi => by rw [rows_len hl i hi])
 have HBD := hide hbd
 have HBD2 := hide hbd2
 clear hbd hbd2 hl
 go_enter Tryz.func10, Tryz.ntmps10
 go_wp2_with fail
 refine (hnfK ao n cap ls k B1 R1 (N : Int) _ h (by omega) (unhide HQ) (unhide HBD) hnR hK hB8 hn).mono ?_
 rintro e w1 ⟨a1, m, c1, p, hs, rfl, h3, hf, hsm, hl3, hm, hb1⟩
 have hl3' : ∀ r ∈ hs, r.length = N := fun r hr => by have := hl3 r hr; omega
 have hlen := h3.len_eq
 have HF := hide hf
 have HS := hide hsm
 have HL := hide hl3'
 have HLN := hide hlen
 have HBW := hide (unhide HBD2 hs p hf hsm hl3' (fun i j => mf_ent h3 i j) (by omega))
 have HB := hide hb1
 clear hf hsm hl3 hl3' hb1 HBD2 hlen
 go_wp2_with fail
 refine (toNoughtK a1 m c1 hs p B1 B2 R2 N _ h3 (unhide HF) (unhide HL) h1 h64 hB2 (unhide HBW) hB21 hNR hK2 (Nat.le_trans (Nat.le_add_right B2 _) hK3)).mono ?_
 rintro e w2 ⟨a2, m2, c2, q, K, rfl, h4, hf4, hk4, hl4, hm4, hb1⟩
 have HF4 := hide hf4
 have HK4 := hide (hk4.of_same (unhide HS).symm)
 have HL4 := hide hl4
 have HQ4 : Hid (rform K (N : Int) = true) := hide (rform_yes (by omega) fun i hi => by rw [rows_len hl4 i hi])
 have HBD4 := hide (bounded_form hf4 fun i j => mf_ent h4 i j)
 have hlen4 := h4.len_eq
 have HLN4 := hide hlen4
 have hB28 : B2 ≤ 80000 := Nat.le_trans (Nat.le_add_right B2 _) hK3
 replace HB := hide (Below.step (unhide HB) hb1)
 clear hf4 hk4 hl4 hb1 h3 hlen4
 go_wp2_with fail
 refine (hnfK a2 m2 c2 K B2 B2 R2 (N : Int) _ (h4.mk (by omega)) (by omega) (unhide HQ4) (unhide HBD4) (by omega) hK3 hB28 (by omega)).mono ?_
 rintro e w3 ⟨a5, m5, c5, q5, K5, rfl, h5, hf5, hsm5, hl5, hm5, hb1⟩
 have hl5' : ∀ r ∈ K5, r.length = N := fun r hr => by have := hl5 r hr; omega
 have e5 : K5 = K := hnf_one hf5 (unhide HF4) hsm5.symm hl5' (unhide HL4)
 subst e5
 have e6 : m5 = m2 := by rw [← h5.len_eq, unhide HLN4]
 subst e6
 have HB5 := hide (Below.step (unhide HB) hb1)
 have HMF := hide h5
 clear hf5 hsm5 hl5 hl5' hb1 h5 h4
 go_wp2
 refine bodyPost_ret (v := .tuple #[.slice a5 m5 c5, .int .i64 0]) (by simp [results, Tryz.results10, go_sem, *]) rfl ?_
 exact ⟨_, _, _, _, _, rfl, unhide HMF, unhide HF4, unhide HK4, unhide HL4, ⟨hs, p, unhide HF, unhide HS, unhide HL, by rw [unhide HLN]; exact hm4⟩, unhide HB5⟩
/-- Across tells what Of tells. -/
theorem acrossOf {w : World} {ao : Option Addr} {n cap : Nat} {x : Int} {R : Option Addr → Nat → Nat → Int → World → Prop} (h : Calls Tryz.prog 10 #[.slice ao n cap, .int .i64 x] w fun e w' => ∃ a1 m c1 z, e = .returned (.tuple #[.slice a1 m c1, .int .i64 z]) ∧ R a1 m c1 z w') : Calls Tryz.prog 11 #[.slice ao n cap, .int .i64 x] w fun e w' => ∃ a1 m c1 z, e = .returned (.tuple #[.slice a1 m c1, .int .i64 z]) ∧ R a1 m c1 z w' := by
 go_enter Tryz.func11, Tryz.ntmps11
 go_wp2_with fail
 refine h.mono ?_
 rintro e w1 ⟨a1, m, c1, z, rfl, hp⟩
 go_wp2
 refine bodyPost_ret (v := .tuple #[.slice a1 m c1, .int .i64 z]) (by simp [results, Tryz.results11, go_sem, *]) rfl ?_
 exact ⟨a1, m, c1, z, rfl, hp⟩
/-- Rank: how many rows the form has. -/
theorem rankK (ao : Option Addr) (n cap : Nat) (ls : List (List Int)) (k B1 R1 N : Nat) (w : World) (h : MK w ao n cap ls k) (hl : ∀ r ∈ ls, r.length = N) (h1 : 1 ≤ N) (h64 : N ≤ 64) (hbd : Bounded ls B1) (hnR : n ≤ R1 + 1) (hK : k + (R1 + 1) * (R1 * (B1 + 1)) ≤ 80000) (hB8 : B1 ≤ 80000) (hn : n ≤ 100) :
  Calls Tryz.prog 13 #[.slice ao n cap, .int .i64 (N : Int)] w fun e w' => ∃ m, e = .returned (.int .i64 (m : Int)) ∧ (∃ hs p, HForm hs p ∧ SameL ls hs ∧ (∀ r ∈ hs, r.length = N) ∧ hs.length = m) ∧ Below w.heap.size w w' := by
 have HQ : Hid (rform ls (N : Int) = true) := hide (rform_yes (by omega) fun i hi => by rw [rows_len hl i hi])
 have HBD := hide hbd
 clear hbd hl
 go_enter Tryz.func13, Tryz.ntmps13
 go_wp2_with fail
 refine (hnfK ao n cap ls k B1 R1 (N : Int) _ h (by omega) (unhide HQ) (unhide HBD) hnR hK hB8 hn).mono ?_
 rintro e w1 ⟨a1, m, c1, p, hs, rfl, h3, hf, hsm, hl3, hm, hb1⟩
 have HX := hide (show ∃ hs p, HForm hs p ∧ SameL ls hs ∧ (∀ r ∈ hs, r.length = N) ∧ hs.length = m from ⟨hs, p, hf, hsm, fun r hr => by have := hl3 r hr; omega, h3.len_eq⟩)
 clear hf hsm hl3 h3
 go_wp2
 go_ret
 exact ⟨m, rfl, by obtain ⟨hs, p, g1, g2, g3, g4⟩ := unhide HX; exact ⟨hs, p, g1, g2, g3, by omega⟩, hb1⟩
/-- Has: is each row's Dot with x 0? -/
theorem kHasK (ao : Option Addr) (n cap : Nat) (rs : List (List Int)) (k : Nat) (ap : Option Addr) (n' cp : Nat) (ys : List Int) (l M : Nat) (q : Bool) (w : World) (h : MK w ao n cap rs k) (h' : VK w ap n' cp ys l) (hk : k ≤ 400000) (hl : l ≤ 400000) (hkl : k + l + M ≤ 900000) (hr : ∀ i, (rs.getD i []).length ≤ M) (hM : M ≤ 100000) (hn : n ≤ 1000000) (hn' : n' ≤ 100000) (hq : q = true ↔ ∀ i, i < n → vdot (rs.getD i []) ys = 0) :
  Calls Tryz.prog 19 #[.slice ao n cap, .slice ap n' cp] w fun e w' => e = .returned (.bool q) ∧ Below w.heap.size w w' := by
 have HQ : Hid (vnought (rs.map fun r => vdot r ys) = q) := hide (by
  rw [Bool.eq_iff_iff, hq, vnought_iff]
  have hlen := h.len_eq
  constructor
  ·intro e i hi
   have := e i
   rw [mapR_at (by omega)] at this
   exact this
  ·intro e j
   by_cases c : j < n
   ·rw [mapR_at (by omega)]; exact e j c
   ·rw [List.getD_eq_getElem?_getD, List.getElem?_eq_none (by rw [List.length_map]; omega)]; rfl)
 clear hq
 go_enter Tryz.func19, Tryz.ntmps19
 go_wp2_with fail
 refine (rowsMulK ao n cap rs k ap n' cp ys l M _ h h' hk hl hr hM hn hn').mono ?_
 rintro e w1 ⟨a1, c1, rfl, h3, hb1⟩
 obtain ⟨D, eD⟩ : ∃ D, D = rs.map fun r => vdot r ys := ⟨_, rfl⟩
 rw [← eD] at h3 HQ
 clear eD
 go_wp2_with fail
 refine (vnoughtK a1 n c1 D (k + l + M) _ (h3.vk (by omega))).mono ?_
 rintro e w2 ⟨rfl, hb2⟩
 rw [unhide HQ]
 go_wp2
 go_ret
 exact ⟨rfl, Below.step hb1 hb2⟩

end Go.Proofs.YtjebmlogchoehaaGreat
