/-
  The walk of HnfTurned: it tells true.
-/
import Derived.Test.YtnaajmanpoobfaaGreatTProd
import Derived.Test.YtnaajmanpoobfaaGreatRHnf
namespace Go.Proofs.YtnaajmanpoobfaaGreat
open Go.RowKit Lb
set_option maxRecDepth 20000

theorem lens_le {rs : List (List Int)} {n L : Nat} (h : ∀ i, i < n → (rs.getD i []).length = L) (hl : rs.length = n) (i : Nat) : (rs.getD i []).length ≤ L := by
  by_cases c : i < n
  · exact Nat.le_of_eq (h i c)
  · simp [List.getD, List.getElem?_eq_none (show rs.length ≤ i by omega)]
theorem len_at {rs : List (List Int)} {L i : Nat} (h : ∀ r ∈ rs, r.length = L) (hi : i < rs.length) : (rs.getD i []).length = L := by
  rw [show rs.getD i [] = rs[i] by simp [List.getD, hi]]
  exact h _ (List.getElem_mem hi)
theorem vsameL (ao : Option Addr) (n cap : Nat) (zs : List Int) (k : Nat) (ao' : Option Addr) (n' cap' : Nat) (ys : List Int) (l : Nat) (w : World) (h : VK w ao n cap zs k) (h' : VK w ao' n' cap' ys l) (hk : k ≤ 900000) (hl : l ≤ 900000) (hn : n ≤ 1000000) (hn' : n' ≤ 1000000) (e0 : VSame zs ys) :
    Calls Tryz.prog 20 #[.slice ao n cap, .slice ao' n' cap'] w fun e w' => e = .returned (.bool true) ∧ Below w.heap.size w w' := by
  refine (vsameK _ _ _ zs k _ _ _ ys l w h h' hk hl hn hn').mono ?_
  rintro e w' ⟨c, rfl, hc, hb⟩
  obtain rfl := hc.zero_iff.2 e0
  exact ⟨rfl, hb⟩
theorem vnoughtL (ao : Option Addr) (n cap : Nat) (zs : List Int) (k : Nat) (w : World) (h : VK w ao n cap zs k) (hq : vnought zs = true) :
    Calls Tryz.prog 21 #[.slice ao n cap] w fun e w' => e = .returned (.bool true) ∧ Below w.heap.size w w' := by
  have := vnoughtK _ _ _ _ _ _ h
  rw [hq] at this
  exact this
set_option maxRecDepth 40000 in
set_option maxHeartbeats 2000000 in
theorem hnfTurned_walk (a0 : Option Addr) (len0 cap0 : Nat) (rs0 : List (List Int)) (m1 : Int) (w : World) (r0 : MI w a0 len0 cap0 rs0) (r1 : (Lit.int .i64 m1).wf = true) :
    Calls Tryz.prog 4 #[.slice a0 len0 cap0, .int .i64 m1] w fun e w' => e = .returned (.bool true) ∧ Below w.heap.size w w' := by
  have hm1 := bounds_i64 r1
  go_enter Tryz.func4, Tryz.ntmps4
  go_wp2_with fail
  refine (heavyK a0 len0 cap0 rs0 5 9 _ r0 (by omega) (by omega)).mono ?_
  rintro e w1 ⟨q, rfl, hq, hlt, hb1⟩
  have HB := hide hb1
  rcases hq with rfl | rfl
  · obtain ⟨hn5, _, hms⟩ := hlt rfl
    have hl0 := hms _ hb1
    clear hms hlt hb1 r0 r1
    go_wp2_with fail
    by_cases hform : rform rs0 m1 = true
    · refine (turnedK a0 len0 cap0 rs0 m1 _ hl0.mk (fun i j => ms_ent hl0 i j) hm1 hform hn5).mono ?_
      rintro e w2 ⟨a1, m2, c1, a2, c2, rfl, N2, p2, W2, H2, -, -, -, -, -, -, -, -, -, hb9⟩
      clear p2 W2 H2 N2
      replace hl0 := hl0.later hb9
      replace HB := hide (Below.step (unhide HB) hb9)
      clear hb9
      go_wp2_with fail
      refine (refFormK a0 len0 cap0 rs0 m1 _ hl0.mk.ml hm1 true hform).mono ?_
      rintro e w3 ⟨rfl, hb9⟩
      replace hl0 := hl0.later hb9
      clear hform
      replace HB := hide (Below.step (unhide HB) hb9)
      clear hb9
      go_wp2_with fail
      refine (cutsK a0 len0 cap0 rs0 3 m1 _ hl0.mk (by omega)).mono ?_
      rintro e w4 ⟨a3, c3, N, rfl, hN1, hN7, h2, hb9⟩
      have hcf := cut_form rs0 hN1 hN7
      obtain ⟨cs, ecs⟩ : ∃ cs, cs = rs0.map fun r => vcut r N := ⟨_, rfl⟩
      rw [← ecs] at h2 hcf
      have HCF := hide hcf
      have HA : Hid (∀ i j, (ent cs i j).natAbs < Bp 3) := hide fun i j => mf_ent h2 i j
      clear ecs hl0 hcf
      replace HB := hide (Below.step (unhide HB) hb9)
      clear hb9
      go_wp2_with fail
      refine (turnedK a3 len0 c3 cs (N : Int) _ (h2.mk (by omega)) (unhide HA) (by omega) (unhide HCF) hn5).mono ?_
      rintro e w5 ⟨a4, m, c4, a5, c5, rfl, N', p, W, H, eN, h4, h5, hf, hs, hw, hm, hp, hHl, hb9⟩
      obtain rfl : N = N' := by omega
      have hHL : H.length = len0 := hw.count hf hs
      have HF := hide hf
      have HS := hide hs
      have HWD := hide hw
      have HP := hide hp
      have HHL := hide hHl
      have HLN := hide hHL
      replace h2 := h2.later hb9
      clear hf hs hw hp hHl hHL eN
      replace HB := hide (Below.step (unhide HB) hb9)
      clear hb9
      obtain ⟨hh, ehh⟩ : ∃ hh, hh = (H.take m).map (List.take N) := ⟨_, rfl⟩
      obtain ⟨tt, ett⟩ : ∃ tt, tt = H.map (List.drop N) := ⟨_, rfl⟩
      rw [← ehh] at h4
      rw [← ett] at h5
      have HTL : Hid (∀ i, i < len0 → (tt.getD i []).length = len0) := hide (by rw [ett]; exact back_len (unhide HLN) (unhide HHL))
      have EHH := hide ehh
      have ETT := hide ett
      clear ehh ett
      go_wp2_with fail
      refine (refHnfK a3 len0 c3 cs 3 N _ (h2.ms (by omega)) (by omega) (unhide HWD).lens (by omega) (by omega) (small_aS (by omega)) (small_bS (by omega))).mono ?_
      rintro e w6 ⟨a8, m8, c8, p8, hs8, rfl, h8, hf8, hsm8, hl8, hm8, hb9⟩
      have he : hh = hs8 := by rw [unhide EHH]; exact front_want (unhide HWD) (unhide HF) (unhide HS) (unhide HLN) (unhide HHL) hm (unhide HP) hf8 hsm8 hl8
      obtain rfl : m = m8 := by rw [← h8.len_eq, ← he]; exact h4.len_eq.symm
      have HE := hide he
      have HL8 := hide hl8
      replace h2 := h2.later hb9
      replace h4 := h4.later hb9
      replace h5 := h5.later hb9
      clear hf8 hsm8 hl8 he
      replace HB := hide (Below.step (unhide HB) hb9)
      clear hb9
      go_wp2_with fail
      refine (refSameAllK _ _ _ hh 255 _ _ _ hs8 200000 _ h4 h8 (unhide HE)).mono ?_
      rintro e w7 ⟨rfl, hb9⟩
      replace h2 := h2.later hb9
      replace h5 := h5.later hb9
      replace h8 := h8.later hb9
      clear h4
      replace HB := hide (Below.step (unhide HB) hb9)
      clear hb9
      by_cases hz : len0 = 0
      · have hz1 : ¬ (0 : Int) < (len0 : Int) := by omega
        have HZ := hide hz
        clear hz
        go_wp2_with fail
        have hz := unhide HZ
        clear hz1
        have hmt : ∀ i, (tt.getD i []).length ≤ 12 := fun i => Nat.le_trans (lens_le (unhide HTL) h5.len_eq i) (by omega)
        have hmc : ∀ i, (cs.getD i []).length ≤ 12 := fun i => Nat.le_trans (lens_le (unhide HWD).lens h2.len_eq i) (by omega)
        refine (productK a5 len0 c5 tt 255 a3 len0 c3 cs 3 12 _ (h5.mk (by omega)) (h2.mk (by omega)) (by omega) (by omega) hmt hmc (by omega) (by omega) (by omega)).mono ?_
        rintro e w9 ⟨a9, c9, rfl, h9, hb9⟩
        have HPS : Hid (∀ i, i < len0 → i < m → VSame ((tt.map fun r => vprod r cs).getD i []) (hs8.getD i [])) := hide fun i h1 h2 => by
          rw [← unhide HE, unhide EHH, unhide ETT]
          exact prod_same (unhide HWD) (unhide HS) (unhide HLN) h1 h2
        have HPN : Hid (∀ i, i < len0 → m ≤ i → vnought ((tt.map fun r => vprod r cs).getD i []) = true) := hide fun i h1 h2 => by
          rw [unhide ETT]
          exact prod_nought (unhide HWD) (unhide HF) (unhide HS) (unhide HLN) hm (unhide HP) h1 h2
        have HPL : Hid (∀ i, i < len0 → ((tt.map fun r => vprod r cs).getD i []).length ≤ 12) := hide fun i hi => by
          rw [map_getD (by rw [h5.len_eq]; exact hi), vprod_len]
          exact longest_le fun r hr => by rw [len_rows h2.len_eq (unhide HWD).lens r hr]; omega
        obtain ⟨P, eP⟩ : ∃ P, P = tt.map fun r => vprod r cs := ⟨_, rfl⟩
        rw [← eP] at h9 HPS HPN HPL
        replace h2 := h2.later hb9
        replace h5 := h5.later hb9
        replace h8 := h8.later hb9
        clear hmt hmc eP
        replace HB := hide (Below.step (unhide HB) hb9)
        clear hb9
        go_wp2_with fail
        go_loopw [87] (fun t wr => ∃ i : Nat, i ≤ len0 ∧ t = .int .i64 (i : Int) ∧ Below w9.heap.size w9 wr) (fun t _ => len0 - (intOf t).toNat)
        case atStart => exact ⟨0, Nat.zero_le _, rfl, Below.refl _ _⟩
        case round =>
          obtain ⟨i, hi, rfl, hB⟩ := hrel
          have HD := hide hB
          clear hB
          have hin : i = len0 := by omega
          have hi1 : ¬ (i : Int) < (len0 : Int) := by omega
          have hz0 : (len0 : Int) = 0 := by omega
          replace HB := hide (Below.step (unhide HB) (unhide HD))
          go_wp2_with fail
          refine (awake10_any _).mono ?_
          rintro e w14 ⟨rfl, hb9⟩
          go_wp2
          go_ret
          exact ⟨rfl, Below.step (unhide HB) hb9⟩
      · have hz1 : (0 : Int) < (len0 : Int) := by omega
        have HTF : Hid (rform tt (len0 : Int) = true) := hide (rform_yes (by omega) fun i hi => by rw [unhide HTL i (by rw [← h5.len_eq]; exact hi)])
        go_wp2_with fail
        refine (rowsFormK a5 len0 c5 tt (len0 : Int) _ (h5.mk (by omega)).ml (by omega) true (unhide HTF)).mono ?_
        rintro e w8 ⟨rfl, hb9⟩
        replace h2 := h2.later hb9
        replace h5 := h5.later hb9
        replace h8 := h8.later hb9
        replace HB := hide (Below.step (unhide HB) hb9)
        clear hb9
        go_wp2_with fail
        have hmt : ∀ i, (tt.getD i []).length ≤ 12 := fun i => Nat.le_trans (lens_le (unhide HTL) h5.len_eq i) (by omega)
        have hmc : ∀ i, (cs.getD i []).length ≤ 12 := fun i => Nat.le_trans (lens_le (unhide HWD).lens h2.len_eq i) (by omega)
        refine (productK a5 len0 c5 tt 255 a3 len0 c3 cs 3 12 _ (h5.mk (by omega)) (h2.mk (by omega)) (by omega) (by omega) hmt hmc (by omega) (by omega) (by omega)).mono ?_
        rintro e w9 ⟨a9, c9, rfl, h9, hb9⟩
        have HPS : Hid (∀ i, i < len0 → i < m → VSame ((tt.map fun r => vprod r cs).getD i []) (hs8.getD i [])) := hide fun i h1 h2 => by
          rw [← unhide HE, unhide EHH, unhide ETT]
          exact prod_same (unhide HWD) (unhide HS) (unhide HLN) h1 h2
        have HPN : Hid (∀ i, i < len0 → m ≤ i → vnought ((tt.map fun r => vprod r cs).getD i []) = true) := hide fun i h1 h2 => by
          rw [unhide ETT]
          exact prod_nought (unhide HWD) (unhide HF) (unhide HS) (unhide HLN) hm (unhide HP) h1 h2
        have HPL : Hid (∀ i, i < len0 → ((tt.map fun r => vprod r cs).getD i []).length ≤ 12) := hide fun i hi => by
          rw [map_getD (by rw [h5.len_eq]; exact hi), vprod_len]
          exact longest_le fun r hr => by rw [len_rows h2.len_eq (unhide HWD).lens r hr]; omega
        obtain ⟨P, eP⟩ : ∃ P, P = tt.map fun r => vprod r cs := ⟨_, rfl⟩
        rw [← eP] at h9 HPS HPN HPL
        replace h2 := h2.later hb9
        replace h5 := h5.later hb9
        replace h8 := h8.later hb9
        clear hmt hmc eP
        replace HB := hide (Below.step (unhide HB) hb9)
        clear hb9
        go_wp2_with fail
        go_loopw [87] (fun t wr => ∃ i : Nat, i ≤ len0 ∧ t = .int .i64 (i : Int) ∧ Below w9.heap.size w9 wr) (fun t _ => len0 - (intOf t).toNat)
        case atStart => exact ⟨0, Nat.zero_le _, rfl, Below.refl _ _⟩
        case round =>
          obtain ⟨i, hi, rfl, hB⟩ := hrel
          have HD := hide hB
          clear hB
          by_cases hlt2 : i < len0
          · obtain ⟨g, off, rfl⟩ := h9.addr (by omega)
            obtain ⟨hg, a11, l11, c11, hc11, hv11⟩ := RowsOf.at (R := fun w a l c zs => VF w a l c zs (255 + 3 + len0)) h9 hlt2
            have f2 := ((unhide HD).cell (p := ⟨g, off + i, none⟩) hg).trans hc11
            have hgr := Nat.lt_of_lt_of_le hg (unhide HD).size
            have hi0 : (0 : Int) ≤ (i : Int) := by omega
            have hi1 : (i : Int) < (len0 : Int) := by omega
            replace hv11 := hv11.later (unhide HD)
            have hl11 : l11 ≤ 1000000 := by rw [← hv11.len_eq]; exact Nat.le_trans (unhide HPL i hlt2) (by omega)
            clear hc11 hg
            by_cases him : i < m
            · obtain ⟨g8, o8, rfl⟩ := h8.addr (by omega)
              obtain ⟨hg8, a12, l12, c12, hc12, hv12⟩ := RowsOf.at (R := fun w a l c zs => VF w a l c zs 200000) h8 him
              have f3 := ((unhide HD).cell (p := ⟨g8, o8 + i, none⟩) hg8).trans hc12
              have hgr8 := Nat.lt_of_lt_of_le hg8 (unhide HD).size
              have hi2 : (i : Int) < (m : Int) := by omega
              replace hv12 := hv12.later (unhide HD)
              have hl12 : l12 ≤ 1000000 := by rw [← hv12.len_eq, len_at (unhide HL8) (by rw [h8.len_eq]; exact him)]; omega
              clear hc12 hg8
              go_wp2_with fail
              refine (vsameL a11 l11 c11 (P.getD i []) (255 + 3 + len0) a12 l12 c12 (hs8.getD i []) 200000 _ (hv11.vk (by omega)) (hv12.vk (by omega)) (by omega) (by omega) hl11 hl12 (unhide HPS i hlt2 him)).mono ?_
              rintro e w10 ⟨rfl, hb9⟩
              go_wp2
              go_roundw
              case rel => exact ⟨i + 1, by omega, by go_num, Below.step (unhide HD) hb9⟩
              case measure => simp [intOf]; omega
            · have hi2 : ¬ (i : Int) < (m : Int) := by omega
              have hi3 : (m : Int) ≤ (i : Int) := by omega
              go_wp2_with fail
              refine (vnoughtL a11 l11 c11 (P.getD i []) (255 + 3 + len0) _ (hv11.vk (by omega)) (unhide HPN i hlt2 (by omega))).mono ?_
              rintro e w10 ⟨rfl, hb9⟩
              go_wp2
              go_roundw
              case rel => exact ⟨i + 1, by omega, by go_num, Below.step (unhide HD) hb9⟩
              case measure => simp [intOf]; omega
          · have hin : i = len0 := by omega
            have hi1 : ¬ (i : Int) < (len0 : Int) := by omega
            have hz0 : (len0 : Int) ≠ 0 := by omega
            replace h5 := h5.later (unhide HD)
            replace HB := hide (Below.step (unhide HB) (unhide HD))
            go_wp2_with fail
            refine (refHnfK a5 len0 c5 tt 255 len0 _ (h5.ms (by omega)) (by omega) (unhide HTL) (by omega) (by omega) (wide_aS hn5) (wide_bS hn5)).mono ?_
            rintro e w11 ⟨a13, m13, c13, p13, hs13, rfl, h13, hf13, hsm13, hl13, hm13, hb9⟩
            have HE2 : Hid (hs13 = unitL len0) := hide (back_unit (unhide HWD) (unhide HS) hf13 (by rw [← unhide ETT]; exact hsm13) hl13)
            clear hf13 hsm13 hl13
            replace HB := hide (Below.step (unhide HB) hb9)
            clear hb9
            go_wp2_with fail
            refine (refUnitK len0 _ (by omega)).mono ?_
            rintro e w12 ⟨a14, c14, rfl, h14, hb9⟩
            replace h13 := h13.later hb9
            replace HB := hide (Below.step (unhide HB) hb9)
            clear hb9
            go_wp2_with fail
            refine (refSameAllK _ _ _ hs13 200000 _ _ _ (unitL len0) 6 _ h13 h14 (unhide HE2)).mono ?_
            rintro e w13 ⟨rfl, hb9⟩
            replace HB := hide (Below.step (unhide HB) hb9)
            clear hb9
            go_wp2_with fail
            refine (awake10_any _).mono ?_
            rintro e w14 ⟨rfl, hb9⟩
            go_wp2
            go_ret
            exact ⟨rfl, Below.step (unhide HB) hb9⟩
    · have hff : rform rs0 m1 = false := by simpa using hform
      refine (turnedNoK a0 len0 cap0 rs0 3 m1 _ hl0.mk hm1 hff).mono ?_
      rintro e w2 ⟨rfl, hb9⟩
      replace hl0 := hl0.later hb9
      replace HB := hide (Below.step (unhide HB) hb9)
      clear hb9
      go_wp2_with fail
      refine (refFormK a0 len0 cap0 rs0 m1 _ hl0.mk.ml hm1 false hff).mono ?_
      rintro e w3 ⟨rfl, hb9⟩
      replace hl0 := hl0.later hb9
      clear hform hff
      replace HB := hide (Below.step (unhide HB) hb9)
      clear hb9
      go_wp2_with fail
      refine (cutsK a0 len0 cap0 rs0 3 m1 _ hl0.mk (by omega)).mono ?_
      rintro e w4 ⟨a3, c3, N, rfl, hN1, hN7, h2, hb9⟩
      have hcf := cut_form rs0 hN1 hN7
      obtain ⟨cs, ecs⟩ : ∃ cs, cs = rs0.map fun r => vcut r N := ⟨_, rfl⟩
      rw [← ecs] at h2 hcf
      have HCF := hide hcf
      have HA : Hid (∀ i j, (ent cs i j).natAbs < Bp 3) := hide fun i j => mf_ent h2 i j
      clear ecs hl0 hcf
      replace HB := hide (Below.step (unhide HB) hb9)
      clear hb9
      go_wp2_with fail
      refine (turnedK a3 len0 c3 cs (N : Int) _ (h2.mk (by omega)) (unhide HA) (by omega) (unhide HCF) hn5).mono ?_
      rintro e w5 ⟨a4, m, c4, a5, c5, rfl, N', p, W, H, eN, h4, h5, hf, hs, hw, hm, hp, hHl, hb9⟩
      obtain rfl : N = N' := by omega
      have hHL : H.length = len0 := hw.count hf hs
      have HF := hide hf
      have HS := hide hs
      have HWD := hide hw
      have HP := hide hp
      have HHL := hide hHl
      have HLN := hide hHL
      replace h2 := h2.later hb9
      clear hf hs hw hp hHl hHL eN
      replace HB := hide (Below.step (unhide HB) hb9)
      clear hb9
      obtain ⟨hh, ehh⟩ : ∃ hh, hh = (H.take m).map (List.take N) := ⟨_, rfl⟩
      obtain ⟨tt, ett⟩ : ∃ tt, tt = H.map (List.drop N) := ⟨_, rfl⟩
      rw [← ehh] at h4
      rw [← ett] at h5
      have HTL : Hid (∀ i, i < len0 → (tt.getD i []).length = len0) := hide (by rw [ett]; exact back_len (unhide HLN) (unhide HHL))
      have EHH := hide ehh
      have ETT := hide ett
      clear ehh ett
      go_wp2_with fail
      refine (refHnfK a3 len0 c3 cs 3 N _ (h2.ms (by omega)) (by omega) (unhide HWD).lens (by omega) (by omega) (small_aS (by omega)) (small_bS (by omega))).mono ?_
      rintro e w6 ⟨a8, m8, c8, p8, hs8, rfl, h8, hf8, hsm8, hl8, hm8, hb9⟩
      have he : hh = hs8 := by rw [unhide EHH]; exact front_want (unhide HWD) (unhide HF) (unhide HS) (unhide HLN) (unhide HHL) hm (unhide HP) hf8 hsm8 hl8
      obtain rfl : m = m8 := by rw [← h8.len_eq, ← he]; exact h4.len_eq.symm
      have HE := hide he
      have HL8 := hide hl8
      replace h2 := h2.later hb9
      replace h4 := h4.later hb9
      replace h5 := h5.later hb9
      clear hf8 hsm8 hl8 he
      replace HB := hide (Below.step (unhide HB) hb9)
      clear hb9
      go_wp2_with fail
      refine (refSameAllK _ _ _ hh 255 _ _ _ hs8 200000 _ h4 h8 (unhide HE)).mono ?_
      rintro e w7 ⟨rfl, hb9⟩
      replace h2 := h2.later hb9
      replace h5 := h5.later hb9
      replace h8 := h8.later hb9
      clear h4
      replace HB := hide (Below.step (unhide HB) hb9)
      clear hb9
      by_cases hz : len0 = 0
      · have hz1 : ¬ (0 : Int) < (len0 : Int) := by omega
        have HZ := hide hz
        clear hz
        go_wp2_with fail
        have hz := unhide HZ
        clear hz1
        have hmt : ∀ i, (tt.getD i []).length ≤ 12 := fun i => Nat.le_trans (lens_le (unhide HTL) h5.len_eq i) (by omega)
        have hmc : ∀ i, (cs.getD i []).length ≤ 12 := fun i => Nat.le_trans (lens_le (unhide HWD).lens h2.len_eq i) (by omega)
        refine (productK a5 len0 c5 tt 255 a3 len0 c3 cs 3 12 _ (h5.mk (by omega)) (h2.mk (by omega)) (by omega) (by omega) hmt hmc (by omega) (by omega) (by omega)).mono ?_
        rintro e w9 ⟨a9, c9, rfl, h9, hb9⟩
        have HPS : Hid (∀ i, i < len0 → i < m → VSame ((tt.map fun r => vprod r cs).getD i []) (hs8.getD i [])) := hide fun i h1 h2 => by
          rw [← unhide HE, unhide EHH, unhide ETT]
          exact prod_same (unhide HWD) (unhide HS) (unhide HLN) h1 h2
        have HPN : Hid (∀ i, i < len0 → m ≤ i → vnought ((tt.map fun r => vprod r cs).getD i []) = true) := hide fun i h1 h2 => by
          rw [unhide ETT]
          exact prod_nought (unhide HWD) (unhide HF) (unhide HS) (unhide HLN) hm (unhide HP) h1 h2
        have HPL : Hid (∀ i, i < len0 → ((tt.map fun r => vprod r cs).getD i []).length ≤ 12) := hide fun i hi => by
          rw [map_getD (by rw [h5.len_eq]; exact hi), vprod_len]
          exact longest_le fun r hr => by rw [len_rows h2.len_eq (unhide HWD).lens r hr]; omega
        obtain ⟨P, eP⟩ : ∃ P, P = tt.map fun r => vprod r cs := ⟨_, rfl⟩
        rw [← eP] at h9 HPS HPN HPL
        replace h2 := h2.later hb9
        replace h5 := h5.later hb9
        replace h8 := h8.later hb9
        clear hmt hmc eP
        replace HB := hide (Below.step (unhide HB) hb9)
        clear hb9
        go_wp2_with fail
        go_loopw [87] (fun t wr => ∃ i : Nat, i ≤ len0 ∧ t = .int .i64 (i : Int) ∧ Below w9.heap.size w9 wr) (fun t _ => len0 - (intOf t).toNat)
        case atStart => exact ⟨0, Nat.zero_le _, rfl, Below.refl _ _⟩
        case round =>
          obtain ⟨i, hi, rfl, hB⟩ := hrel
          have HD := hide hB
          clear hB
          have hin : i = len0 := by omega
          have hi1 : ¬ (i : Int) < (len0 : Int) := by omega
          have hz0 : (len0 : Int) = 0 := by omega
          replace HB := hide (Below.step (unhide HB) (unhide HD))
          go_wp2_with fail
          refine (awake10_any _).mono ?_
          rintro e w14 ⟨rfl, hb9⟩
          go_wp2
          go_ret
          exact ⟨rfl, Below.step (unhide HB) hb9⟩
      · have hz1 : (0 : Int) < (len0 : Int) := by omega
        have HTF : Hid (rform tt (len0 : Int) = true) := hide (rform_yes (by omega) fun i hi => by rw [unhide HTL i (by rw [← h5.len_eq]; exact hi)])
        go_wp2_with fail
        refine (rowsFormK a5 len0 c5 tt (len0 : Int) _ (h5.mk (by omega)).ml (by omega) true (unhide HTF)).mono ?_
        rintro e w8 ⟨rfl, hb9⟩
        replace h2 := h2.later hb9
        replace h5 := h5.later hb9
        replace h8 := h8.later hb9
        replace HB := hide (Below.step (unhide HB) hb9)
        clear hb9
        go_wp2_with fail
        have hmt : ∀ i, (tt.getD i []).length ≤ 12 := fun i => Nat.le_trans (lens_le (unhide HTL) h5.len_eq i) (by omega)
        have hmc : ∀ i, (cs.getD i []).length ≤ 12 := fun i => Nat.le_trans (lens_le (unhide HWD).lens h2.len_eq i) (by omega)
        refine (productK a5 len0 c5 tt 255 a3 len0 c3 cs 3 12 _ (h5.mk (by omega)) (h2.mk (by omega)) (by omega) (by omega) hmt hmc (by omega) (by omega) (by omega)).mono ?_
        rintro e w9 ⟨a9, c9, rfl, h9, hb9⟩
        have HPS : Hid (∀ i, i < len0 → i < m → VSame ((tt.map fun r => vprod r cs).getD i []) (hs8.getD i [])) := hide fun i h1 h2 => by
          rw [← unhide HE, unhide EHH, unhide ETT]
          exact prod_same (unhide HWD) (unhide HS) (unhide HLN) h1 h2
        have HPN : Hid (∀ i, i < len0 → m ≤ i → vnought ((tt.map fun r => vprod r cs).getD i []) = true) := hide fun i h1 h2 => by
          rw [unhide ETT]
          exact prod_nought (unhide HWD) (unhide HF) (unhide HS) (unhide HLN) hm (unhide HP) h1 h2
        have HPL : Hid (∀ i, i < len0 → ((tt.map fun r => vprod r cs).getD i []).length ≤ 12) := hide fun i hi => by
          rw [map_getD (by rw [h5.len_eq]; exact hi), vprod_len]
          exact longest_le fun r hr => by rw [len_rows h2.len_eq (unhide HWD).lens r hr]; omega
        obtain ⟨P, eP⟩ : ∃ P, P = tt.map fun r => vprod r cs := ⟨_, rfl⟩
        rw [← eP] at h9 HPS HPN HPL
        replace h2 := h2.later hb9
        replace h5 := h5.later hb9
        replace h8 := h8.later hb9
        clear hmt hmc eP
        replace HB := hide (Below.step (unhide HB) hb9)
        clear hb9
        go_wp2_with fail
        go_loopw [87] (fun t wr => ∃ i : Nat, i ≤ len0 ∧ t = .int .i64 (i : Int) ∧ Below w9.heap.size w9 wr) (fun t _ => len0 - (intOf t).toNat)
        case atStart => exact ⟨0, Nat.zero_le _, rfl, Below.refl _ _⟩
        case round =>
          obtain ⟨i, hi, rfl, hB⟩ := hrel
          have HD := hide hB
          clear hB
          by_cases hlt2 : i < len0
          · obtain ⟨g, off, rfl⟩ := h9.addr (by omega)
            obtain ⟨hg, a11, l11, c11, hc11, hv11⟩ := RowsOf.at (R := fun w a l c zs => VF w a l c zs (255 + 3 + len0)) h9 hlt2
            have f2 := ((unhide HD).cell (p := ⟨g, off + i, none⟩) hg).trans hc11
            have hgr := Nat.lt_of_lt_of_le hg (unhide HD).size
            have hi0 : (0 : Int) ≤ (i : Int) := by omega
            have hi1 : (i : Int) < (len0 : Int) := by omega
            replace hv11 := hv11.later (unhide HD)
            have hl11 : l11 ≤ 1000000 := by rw [← hv11.len_eq]; exact Nat.le_trans (unhide HPL i hlt2) (by omega)
            clear hc11 hg
            by_cases him : i < m
            · obtain ⟨g8, o8, rfl⟩ := h8.addr (by omega)
              obtain ⟨hg8, a12, l12, c12, hc12, hv12⟩ := RowsOf.at (R := fun w a l c zs => VF w a l c zs 200000) h8 him
              have f3 := ((unhide HD).cell (p := ⟨g8, o8 + i, none⟩) hg8).trans hc12
              have hgr8 := Nat.lt_of_lt_of_le hg8 (unhide HD).size
              have hi2 : (i : Int) < (m : Int) := by omega
              replace hv12 := hv12.later (unhide HD)
              have hl12 : l12 ≤ 1000000 := by rw [← hv12.len_eq, len_at (unhide HL8) (by rw [h8.len_eq]; exact him)]; omega
              clear hc12 hg8
              go_wp2_with fail
              refine (vsameL a11 l11 c11 (P.getD i []) (255 + 3 + len0) a12 l12 c12 (hs8.getD i []) 200000 _ (hv11.vk (by omega)) (hv12.vk (by omega)) (by omega) (by omega) hl11 hl12 (unhide HPS i hlt2 him)).mono ?_
              rintro e w10 ⟨rfl, hb9⟩
              go_wp2
              go_roundw
              case rel => exact ⟨i + 1, by omega, by go_num, Below.step (unhide HD) hb9⟩
              case measure => simp [intOf]; omega
            · have hi2 : ¬ (i : Int) < (m : Int) := by omega
              have hi3 : (m : Int) ≤ (i : Int) := by omega
              go_wp2_with fail
              refine (vnoughtL a11 l11 c11 (P.getD i []) (255 + 3 + len0) _ (hv11.vk (by omega)) (unhide HPN i hlt2 (by omega))).mono ?_
              rintro e w10 ⟨rfl, hb9⟩
              go_wp2
              go_roundw
              case rel => exact ⟨i + 1, by omega, by go_num, Below.step (unhide HD) hb9⟩
              case measure => simp [intOf]; omega
          · have hin : i = len0 := by omega
            have hi1 : ¬ (i : Int) < (len0 : Int) := by omega
            have hz0 : (len0 : Int) ≠ 0 := by omega
            replace h5 := h5.later (unhide HD)
            replace HB := hide (Below.step (unhide HB) (unhide HD))
            go_wp2_with fail
            refine (refHnfK a5 len0 c5 tt 255 len0 _ (h5.ms (by omega)) (by omega) (unhide HTL) (by omega) (by omega) (wide_aS hn5) (wide_bS hn5)).mono ?_
            rintro e w11 ⟨a13, m13, c13, p13, hs13, rfl, h13, hf13, hsm13, hl13, hm13, hb9⟩
            have HE2 : Hid (hs13 = unitL len0) := hide (back_unit (unhide HWD) (unhide HS) hf13 (by rw [← unhide ETT]; exact hsm13) hl13)
            clear hf13 hsm13 hl13
            replace HB := hide (Below.step (unhide HB) hb9)
            clear hb9
            go_wp2_with fail
            refine (refUnitK len0 _ (by omega)).mono ?_
            rintro e w12 ⟨a14, c14, rfl, h14, hb9⟩
            replace h13 := h13.later hb9
            replace HB := hide (Below.step (unhide HB) hb9)
            clear hb9
            go_wp2_with fail
            refine (refSameAllK _ _ _ hs13 200000 _ _ _ (unitL len0) 6 _ h13 h14 (unhide HE2)).mono ?_
            rintro e w13 ⟨rfl, hb9⟩
            replace HB := hide (Below.step (unhide HB) hb9)
            clear hb9
            go_wp2_with fail
            refine (awake10_any _).mono ?_
            rintro e w14 ⟨rfl, hb9⟩
            go_wp2
            go_ret
            exact ⟨rfl, Below.step (unhide HB) hb9⟩
  · go_wp2_with fail
    refine (awake10_any _).mono ?_
    rintro e w15 ⟨rfl, hb9⟩
    go_wp2
    go_ret
    exact ⟨rfl, Below.step (unhide HB) hb9⟩

end Go.Proofs.YtnaajmanpoobfaaGreat
