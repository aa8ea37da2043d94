/-
 What package kernel tells. (IN PARTS)
-/
import Derived.Test.YtkomdimalgnamaaGreatJN
import Derived.Test.YtkomdimalgnamaaGreatJO
import Derived.Test.YtkomdimalgnamaaGreatJI
import Derived.Test.YtkomdimalgnamaaGreatJR
namespace Go.Proofs.YtkomdimalgnamaaGreat
open Go.RowKit Lb
set_option maxRecDepth 20000

theorem slice_tailM {w : World} {ao : Option Addr} {m cap k q : Nat} {r : List (List Int)} (h : MF w ao m cap r k) (hp : 0 < m) (hq : q ≤ m) : ∃ at2, (∀ W, (Instr.sliceAt 22 (.slice ao m cap) (some (.int .i64 (q : Int))) none none).run Tryz.prog W = .ok (.slice at2 (m - q) (cap - q)) W) ∧ MF w at2 (m - q) (cap - q) (r.drop q) k := by
 have h0 : (0 : Int) ≤ (q : Int) := by omega
 have hc := h.cap_le;have hmx := h.cap_max;have hl := h.len_eq;obtain ⟨g, off, rfl⟩ := h.addr hp;by_cases c : cap = q
 ·have hqm : q = m := by omega
  subst hqm;refine ⟨some ⟨g, off, none⟩, fun W => ?_, ?_⟩
  ·simp [Instr.sliceAt, Instr.slice, Instr.sliceBounds, Instr.sliceBound, run_underlying Tryz.underlying22, go_sem, h0, c]
  ·rw [Nat.sub_self, List.drop_of_length_le (by omega)];exact ⟨rfl, Nat.zero_le _, by omega, fun e => by simp at e, fun e => absurd e (by omega)⟩
 ·refine ⟨some ⟨g, off + q, none⟩, fun W => ?_, RowsOf.drop (R := fun w a l c zs => VF w a l c zs k) h hq⟩;simp [Instr.sliceAt, Instr.slice, Instr.sliceBounds, Instr.sliceBound, run_underlying Tryz.underlying22, go_sem, h0, c];exact fun e => absurd e (by omega)
theorem turn_form (c : List (List Int)) {N m : Nat} (hm : c.length = m) (h1 : 1 ≤ m) (h2 : m ≤ 64) : rform (vturn c N) (m : Int) = true := rform_yes (by omega) fun i hi => by
 rw [vturn_len] at hi;rw [turn_lens c N i hi, hm]
theorem sameL_nil {hs : List (List Int)} (h : hs.length = 0) : hs = [] := List.eq_nil_of_length_eq_zero h
set_option maxRecDepth 40000 in
set_option maxHeartbeats 4000000 in
theorem toNoughtK (ao : Option Addr) (n cap : Nat) (hs : List (List Int)) (p : Nat → Nat) (b B R N : Nat) (w : World) (h : MF w ao n cap hs b) (hf : HForm hs p) (hN : ∀ r ∈ hs, r.length = N) (h1 : 1 ≤ N) (h64 : N ≤ 64) (hb2 : 2 ≤ b) (hbd : ∀ M W, WideL (vturn hs N) W M N → Bounded W B) (hB1 : 1 ≤ B) (hnR : N ≤ R + 1) (hK : b + (R + 1) * (R * (B + 1)) ≤ 80000) (hB8 : B ≤ 80000) :
  Calls Tryz.prog 103 #[.slice ao n cap, .int .i64 (N : Int)] w fun e w' => ∃ a1 m c1 q K, e = .returned (.slice a1 m c1) ∧ MF w' a1 m c1 K B ∧ HForm K q ∧ Ker K hs N ∧ (∀ r ∈ K, r.length = N) ∧ n + m = N ∧ Below w.heap.size w w' := by
 have hlen := h.len_eq;have hb8 : b ≤ 80000 := Nat.le_trans (Nat.le_add_right b _) hK;have hnN : n ≤ N := by rw [← hlen]; exact hf.len_le fun r hr => by have := hN r hr; omega
 by_cases hn0 : n = 0
 ·obtain rfl := sameL_nil (hlen.trans hn0);have HBD : Hid (∀ M W, WideL (vturn [List.replicate N (0 : Int)] N) W M N → Bounded W B) := zh fun M W hw => hw.zero_bounded (turn_nought N N) hB1;have HZN : Hid (∀ r ∈ [List.replicate N (0 : Int)], r.length = N) := zh fun r hr => by rw [List.mem_singleton.1 hr]; simp
  have HR := zh (show HForm [] (fun i => i) ∧ SameL [List.replicate N (0 : Int)] [] from ⟨hform_nil _, sameL_noughts N⟩);have HFM := zh (show rform (vturn [List.replicate N (0 : Int)] N) (1 : Int) = true from turn_form [List.replicate N (0 : Int)] (N := N) (m := 1) rfl (by omega) (by omega));have HZL : Hid ([List.replicate N (0 : Int)].length = 1) := zh rfl;subst hn0;clear hbd hf hN hlen;go_enter Tryz.func103, Tryz.ntmps103
  go_wp2_with fail
  refine (vzeroK (N : Int) b _).mono ?_;rintro e w2 ⟨g2, rfl, h2o, hb1⟩;rw [room_nat10 h64] at h2o ⊢;have h2 := h2o.vf;clear h2o;obtain ⟨ZZ, eZ⟩ : ∃ ZZ, ZZ = List.replicate N (0 : Int) := ⟨_, rfl⟩;rw [← eZ] at HBD HZN HR HFM HZL h2;obtain ⟨W3, hW3⟩ : ∃ W3, W3 = w2.alloc (.cells #[.slice (some ⟨g2, 0, none⟩) N N] 24) := ⟨_, rfl⟩;have hz0 : MF W3 (some ⟨w2.heap.size, 0, none⟩) 1 1 [ZZ] b := by rw [hW3]; exact mf_one h2
  have HB := zh (Below.step hb1 (show Below w2.heap.size w2 W3 by rw [hW3]; exact below_new _ _));have EZ := zh eZ;rw [hW3] at hz0 HB;clear hW3 hb1 h2 eZ
  go_wp2_with fail
  refine (turnK _ 1 1 [ZZ] b N (N : Int) _ (hz0.mk (by omega)) (all_len_le (zu HZN)) (by omega)).mono ?_;rintro e w3 ⟨a3, c3, rfl, h3, hb9⟩;rw [room_nat10 h64] at h3 ⊢;replace HB := zh (Below.step (zu HB) hb9);clear hb9 hz0
  go_wp2_with fail
  refine (turnedG a3 N c3 (vturn [ZZ] N) b B R (1 : Int) _ (h3.mk (by omega)) (by omega) (zu HFM) (zu HBD) hb2 hnR hK hB8 (by omega)).mono ?_;rintro e w4 ⟨a4, m4, c4, a5, c5, rfl, M, p4, W, H, eM, hk4, ht4, hf4, hs4, hw4, hm4, hp4, hl4, hb9⟩;obtain rfl : M = 1 := by omega
  have hcount := hw4.count hf4 hs4;have hw5 : WideL (vturn [ZZ] N) W ([ZZ]).length N := by rw [zu HZL]; exact hw4
  have hker := hw5.ker hf4 hs4 hm4 (by rw [zu HZL]; exact hp4) (fun j hj => by rw [zu HZL]; exact hl4 j hj) (lens_zero (zu HZN)) (zu HR).1.eform (zu HR).2;rw [zu HZL] at hker;have HKR := zh hker;replace HB := zh (Below.step (zu HB) hb9);obtain ⟨aq, hsl, hmf⟩ := slice_tailM ht4 (by omega) hm4;clear hb9 hk4 hf4 hs4 hw4 hp4 hl4 hcount hw5 hker ht4 eM h3;rw [← List.map_drop] at hmf;have HMF := zh hmf;clear hmf;go_wp2;go_ret;obtain ⟨k1, k2, k3, k4, k5⟩ := zu HKR;have hm0 : m4 = 0 := by rw [← k4]; rfl
  subst hm0;exact ⟨_, _, _, _, _, rfl, zu HMF, k1, k2.of_same (zu HR).2, k3, by omega, zu HB⟩
 ·have HBD := zh (hbd);have HZN := zh hN;have HR := zh (show HForm hs p ∧ SameL hs hs from ⟨hf, SameL.refl _⟩);have HFM := zh (turn_form hs (N := N) hlen (by omega) (by omega));have HZL := zh hlen;have hn1 : ¬ (n : Int) = 0 := by omega
  have hn2 : ((n : Int) == 0) = false := by simpa using hn0
  have hlz : ∀ i, (hs.getD i []).length ≤ N := all_len_le hN;have HLZ := zh hlz;have HB := zh (Below.refl w.heap.size w);have hz0 := h;clear hbd hf hN hlen hlz h;go_enter Tryz.func103, Tryz.ntmps103
  go_wp2_with fail
  refine (turnK ao n cap hs b N (N : Int) _ (hz0.mk (by omega)) (zu HLZ) (by omega)).mono ?_;rintro e w3 ⟨a3, c3, rfl, h3, hb9⟩;rw [room_nat10 h64] at h3 ⊢;replace HB := zh (Below.step (zu HB) hb9);clear hb9 hz0
  go_wp2_with fail
  refine (turnedG a3 N c3 (vturn hs N) b B R (n : Int) _ (h3.mk (by omega)) (by omega) (zu HFM) (zu HBD) hb2 hnR hK hB8 (by omega)).mono ?_;rintro e w4 ⟨a4, m4, c4, a5, c5, rfl, M, p4, W, H, eM, hk4, ht4, hf4, hs4, hw4, hm4, hp4, hl4, hb9⟩;obtain rfl : M = n := by omega
  have hcount := hw4.count hf4 hs4;have hw5 : WideL (vturn hs N) W (hs).length N := by rw [zu HZL]; exact hw4
  have hker := hw5.ker hf4 hs4 hm4 (by rw [zu HZL]; exact hp4) (fun j hj => by rw [zu HZL]; exact hl4 j hj) (lens_zero (zu HZN)) (zu HR).1.eform (zu HR).2;rw [zu HZL] at hker;have HKR := zh hker;replace HB := zh (Below.step (zu HB) hb9);obtain ⟨aq, hsl, hmf⟩ := slice_tailM ht4 (by omega) hm4;clear hb9 hk4 hf4 hs4 hw4 hp4 hl4 hcount hw5 hker ht4 eM h3;rw [← List.map_drop] at hmf;have HMF := zh hmf;clear hmf;go_wp2;go_ret;obtain ⟨k1, k2, k3, k4, k5⟩ := zu HKR;subst k4;exact ⟨_, _, _, _, _, rfl, zu HMF, k1, k2, k3, by omega, zu HB⟩
set_option maxHeartbeats 2000000 in
theorem kernelOfK (ao : Option Addr) (n cap : Nat) (ls : List (List Int)) (k B1 R1 B2 R2 N : Nat) (w : World) (h : MK w ao n cap ls k) (hl : ∀ r ∈ ls, r.length = N) (h1 : 1 ≤ N) (h64 : N ≤ 64) (hbd : Bounded ls B1) (hnR : n ≤ R1 + 1) (hK : k + (R1 + 1) * (R1 * (B1 + 1)) ≤ 80000) (hB8 : B1 ≤ 80000) (hn : n ≤ 100) (hB2 : 2 ≤ B1)
  (hbd2 : ∀ hs p, HForm hs p → SameL ls hs → (∀ r ∈ hs, r.length = N) → (∀ i j, (ent hs i j).natAbs < Bp B1) → hs.length ≤ n → ∀ M W, WideL (vturn hs N) W M N → Bounded W B2) (hB21 : 1 ≤ B2) (hNR : N ≤ R2 + 1) (hK2 : B1 + (R2 + 1) * (R2 * (B2 + 1)) ≤ 80000) (hK3 : B2 + (R2 + 1) * (R2 * (B2 + 1)) ≤ 80000) :
  Calls Tryz.prog 82 #[.slice ao n cap, .int .i64 (N : Int)] w fun e w' => ∃ a1 m c1 q K, e = .returned (.tuple #[.slice a1 m c1, .int .i64 0]) ∧ MF w' a1 m c1 K B2 ∧ HForm K q ∧ Ker K ls N ∧ (∀ r ∈ K, r.length = N) ∧ (∃ hs p, HForm hs p ∧ SameL ls hs ∧ (∀ r ∈ hs, r.length = N) ∧ hs.length + m = N) ∧ Below w.heap.size w w' := by
 have HQ : Hid (rform ls (N : Int) = true) := zh (rform_yes (by omega) fun i hi => by rw [rows_len hl i hi]);have HBD := zh hbd;have HBD2 := zh hbd2;clear hbd hbd2 hl;go_enter Tryz.func82, Tryz.ntmps82
 go_wp2_with fail
 refine (hnfK ao n cap ls k B1 R1 (N : Int) _ h (by omega) (zu HQ) (zu HBD) hnR hK hB8 hn).mono ?_;rintro e w1 ⟨a1, m, c1, p, hs, rfl, h3, hf, hsm, hl3, hm, hb1⟩;have hl3' : ∀ r ∈ hs, r.length = N := fun r hr => by have := hl3 r hr; omega
 have hlen := h3.len_eq;have HF := zh hf;have HS := zh hsm;have HL := zh hl3';have HLN := zh hlen;have HBW := zh (zu HBD2 hs p hf hsm hl3' (fun i j => mf_ent h3 i j) (by omega));have HB := zh hb1;clear hf hsm hl3 hl3' hb1 HBD2 hlen
 go_wp2_with fail
 refine (toNoughtK a1 m c1 hs p B1 B2 R2 N _ h3 (zu HF) (zu HL) h1 h64 hB2 (zu HBW) hB21 hNR hK2 (Nat.le_trans (Nat.le_add_right B2 _) hK3)).mono ?_;rintro e w2 ⟨a2, m2, c2, q, K, rfl, h4, hf4, hk4, hl4, hm4, hb1⟩;have HF4 := zh hf4;have HK4 := zh (hk4.of_same (zu HS).symm);have HL4 := zh hl4;have HQ4 : Hid (rform K (N : Int) = true) := zh (rform_yes (by omega) fun i hi => by rw [rows_len hl4 i hi]);have HBD4 := zh (bounded_form hf4 fun i j => mf_ent h4 i j);have hlen4 := h4.len_eq;have HLN4 := zh hlen4;have hB28 : B2 ≤ 80000 := Nat.le_trans (Nat.le_add_right B2 _) hK3;replace HB := zh (Below.step (zu HB) hb1);clear hf4 hk4 hl4 hb1 h3 hlen4
 go_wp2_with fail
 refine (hnfK a2 m2 c2 K B2 B2 R2 (N : Int) _ (h4.mk (by omega)) (by omega) (zu HQ4) (zu HBD4) (by omega) hK3 hB28 (by omega)).mono ?_;rintro e w3 ⟨a5, m5, c5, q5, K5, rfl, h5, hf5, hsm5, hl5, hm5, hb1⟩;have hl5' : ∀ r ∈ K5, r.length = N := fun r hr => by have := hl5 r hr; omega
 have e5 : K5 = K := hnf_one hf5 (zu HF4) hsm5.symm hl5' (zu HL4);subst e5;have e6 : m5 = m2 := by rw [← h5.len_eq, zu HLN4]
 subst e6;have HB5 := zh (Below.step (zu HB) hb1);have HMF := zh h5;clear hf5 hsm5 hl5 hl5' hb1 h5 h4;go_wp2;refine bodyPost_ret (v := .tuple #[.slice a5 m5 c5, .int .i64 0]) (by simp [results, Tryz.results82, go_sem, *]) rfl ?_;exact ⟨_, _, _, _, _, rfl, zu HMF, zu HF4, zu HK4, zu HL4, ⟨hs, p, zu HF, zu HS, zu HL, by rw [zu HLN]; exact hm4⟩, zu HB5⟩
theorem acrossOf {w : World} {ao : Option Addr} {n cap : Nat} {x : Int} {R : Option Addr → Nat → Nat → Int → World → Prop} (h : Calls Tryz.prog 82 #[.slice ao n cap, .int .i64 x] w fun e w' => ∃ a1 m c1 z, e = .returned (.tuple #[.slice a1 m c1, .int .i64 z]) ∧ R a1 m c1 z w') : Calls Tryz.prog 54 #[.slice ao n cap, .int .i64 x] w fun e w' => ∃ a1 m c1 z, e = .returned (.tuple #[.slice a1 m c1, .int .i64 z]) ∧ R a1 m c1 z w' := by
 go_enter Tryz.func54, Tryz.ntmps54
 go_wp2_with fail
 refine h.mono ?_;rintro e w1 ⟨a1, m, c1, z, rfl, hp⟩;go_wp2;refine bodyPost_ret (v := .tuple #[.slice a1 m c1, .int .i64 z]) (by simp [results, Tryz.results54, go_sem, *]) rfl ?_;exact ⟨a1, m, c1, z, rfl, hp⟩
end Go.Proofs.YtkomdimalgnamaaGreat
