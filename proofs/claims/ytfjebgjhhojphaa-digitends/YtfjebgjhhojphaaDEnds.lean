/-
  The law DigitEnds, walked.
-/
import Derived.Test.YtfjebgjhhojphaaAwake3
namespace Go.Proofs.Ytfjebgjhhojphaa
open Go.RowKit Lb

theorem lim_rep (n c i : Nat) : lim (List.replicate n c) i = if i < n then c else 0 := by
  unfold lim
  by_cases h : i < n
  · simp [h]
  · simp [h]
theorem ends_row {ts : List Nat} {L : Nat} (hL : 0 < L) (hl : ts.length = L) (h : ∀ i, i < L → lim ts i = 48) : ts.set (L - 1) 55 = List.replicate (L - 1) 48 ++ [55] := by
  apply ext_lim
  · simp; omega
  · intro i hi
    rw [List.length_set, hl] at hi
    rw [lim_set _ _ _ _ (by omega), lim_append, List.length_replicate]
    by_cases c : i = L - 1
    · rw [if_pos c, if_neg (by omega), c]; simp [lim]
    · rw [if_neg c, if_pos (by omega), h i hi, lim_rep, if_pos (by omega)]
theorem bytes_ends (L : Nat) : Bytes (List.replicate (L - 1) 48 ++ [55]) := by
  intro i
  rw [lim_append, lim_rep]
  split
  · split <;> omega
  · cases i - (List.replicate (L - 1) 48).length with
    | zero => simp [lim]
    | succ k => simp [lim]
theorem ends_ok {L : Nat} (h : L ≤ 4096) : okS (List.replicate (L - 1) 48 ++ [55]) = true ∧ numS (List.replicate (L - 1) 48 ++ [55]) = 7 := by
  have hd : isD 55 = true := rfl
  have hok : okS (List.replicate (L - 1) 48 ++ [55]) = true := okS_of (by simp) (by simp; omega) (by rw [okD_snoc, okD_zeros, hd]; rfl)
  exact ⟨hok, by rw [numS_of hok, ofS_zeros]; rfl⟩
theorem ends_no {L : Nat} (h : 4096 < L) : okS (List.replicate (L - 1) 48 ++ [55]) = false ∧ numS (List.replicate (L - 1) 48 ++ [55]) = 0 := by
  have hok : okS (List.replicate (L - 1) 48 ++ [55]) = false := by
    unfold okS
    have : ¬ ((List.replicate (L - 1) 48 ++ [55]).length ≤ 4096) := by simp; omega
    rw [decide_eq_false this]; simp
  exact ⟨hok, numS_no hok⟩
theorem ends_cut {L j c : Nat} (hL : 31 ≤ L) : ((List.replicate (L - 1) 48 ++ [55]).set j c).take 30 = (List.replicate 30 48).set j c := by
  rw [List.take_set, List.take_append_of_le_length (by simp; omega), List.take_replicate, Nat.min_eq_left (by omega)]
theorem ends_sign {j c : Nat} (hj : j < 30) : okS ((List.replicate 30 48).set j c) = isD c := by
  have h1 : okS ((List.replicate 30 48).set j c) = okD ((List.replicate 30 48).set j c) := by simp [okS]
  rw [h1, List.set_eq_take_append_cons_drop]
  rw [if_pos (by simpa using hj), okD_append, okD_cons, List.take_replicate, List.drop_replicate, okD_zeros, okD_zeros]
  simp
theorem bytes_set {l : List Nat} {j c : Nat} (h : Bytes l) (hc : c < 256) : Bytes (l.set j c) := by
  intro i
  by_cases hj : j < l.length
  · rw [lim_set _ _ _ _ hj]
    split
    · exact hc
    · exact h i
  · rw [List.set_eq_of_length_le (by omega)]; exact h i
/-- The first n of a row of bytes. -/
theorem BRowAt.take {w : World} {ao : Option Addr} {len cap : Nat} {xs : List Nat} (h : BRowAt w ao len cap xs) {n : Nat} (hn : n ≤ len) : BRowAt w ao n cap (xs.take n) := by
  have hl := h.len_eq
  refine ⟨by rw [List.length_take]; omega, Nat.le_trans hn h.cap_le, h.cap_max, h.nil_cap, fun i => ?_, fun hp => ?_⟩
  · rw [lim_take]
    split
    · exact h.small i
    · omega
  · obtain ⟨b, off, e, hlt, hc⟩ := h.cells (by omega)
    refine ⟨b, off, e, hlt, fun i hi => ?_⟩
    rw [lim_take, if_pos hi]
    exact hc i (by omega)

set_option maxRecDepth 20000 in
set_option maxHeartbeats 2000000 in
theorem digitEnds_walk (x y c : Int) (w : World) (hx : (Lit.int .u16 x).wf = true) (hy : (Lit.int .u16 y).wf = true) (hc : (Lit.int .u8 c).wf = true) :
    Calls Try.prog 7 #[.int .u16 x, .int .u16 y, .int .u8 c] w fun e w' => e = .returned (.bool true) ∧ Below w.heap.size w w' := by
  obtain ⟨hx0, hx1⟩ := bounds_u16 hx
  obtain ⟨x, rfl⟩ := Int.eq_ofNat_of_zero_le hx0
  obtain ⟨hy0, hy1⟩ := bounds_u16 hy
  obtain ⟨y, rfl⟩ := Int.eq_ofNat_of_zero_le hy0
  obtain ⟨hc0, hc1⟩ := bounds_u8 hc
  obtain ⟨c, rfl⟩ := Int.eq_ofNat_of_zero_le hc0
  clear hx hy hc hx0 hy0 hc0
  obtain ⟨L, hL⟩ : ∃ L, L = 4090 + x % 12 := ⟨_, rfl⟩
  have hL1 : 4090 ≤ L := by omega
  have hL2 : L ≤ 4101 := by omega
  have hLi : (4090 + (x : Int) % 12) = (L : Int) := by omega
  have HL := hide hL
  clear hL
  go_enter Try.func7, Try.ntmps7
  go_wp2_with (at_make; refine make_bytes rfl _ _ rfl w.heap.size .i64 .i64 _ _ L rfl rfl (by omega) (by omega) (by omega) (Nat.le_refl _) ?_)
  intro w1 hown1 hgrow1
  have hb1 : Below w.heap.size w w1 := (Below.refl _ _).grown hgrow1 (Nat.le_refl _) (fun _ h => by simp at h)
  clear hgrow1
  go_wp2_with fail
  go_loopw [18] (fun i wr => ∃ (m : Nat) (ts : List Nat), m ≤ L ∧ i = .int .i64 m ∧ BOwn wr w.heap.size (.slice (some ⟨w.heap.size, 0, none⟩) L L) L ts ∧ (∀ i, i < m → lim ts i = 48) ∧ Below w.heap.size w wr) (fun i _ => L - (intOf i).toNat)
  case atStart => exact ⟨0, _, by omega, rfl, hown1, fun i hi => absurd hi (by omega), hb1⟩
  case round =>
    obtain ⟨m, ts, hm, rfl, hown, hts, hbw⟩ := hrel
    have HTS := hide hts
    clear hts hown1 hb1
    by_cases hmL : m < L
    · have hcs := hown.cell (i := m) hmL
      have hcf := hown.free m
      go_wp2
      go_roundw
      case rel =>
        refine ⟨m + 1, ts.set m 48, by omega, by go_num, hown.set m 48 rfl, fun i hi => ?_, hbw.setCell (by simp) _⟩
        rw [lim_set _ _ _ _ (by rw [hown.len]; exact hmL)]
        split
        · rfl
        · exact unhide HTS i (by omega)
      case measure => simp [intOf]; omega
    · obtain rfl : m = L := by omega
      have hcs := hown.cell (i := m - 1) (by omega)
      have hcf := hown.free (m - 1)
      have hown2 := hown.set (m - 1) 55 (e := 55) rfl
      rw [ends_row (by omega) hown.len (unhide HTS)] at hown2
      have hcv := run_string _ _ _ _ _ (browAt_own hown2 (bytes_ends m))
      have hbw2 : Below w.heap.size w (wr.setCell ⟨w.heap.size, m - 1, none⟩ (.int .u8 55)) := hbw.setCell (by simp) _
      have HO2 := hide hown2
      clear hown2
      obtain ⟨S1, hS1⟩ : ∃ S1, S1 = strB (List.replicate (m - 1) 48 ++ [55]) := ⟨_, rfl⟩
      have hS1b : byts S1 = List.replicate (m - 1) 48 ++ [55] := by rw [hS1]; exact byts_strB (bytes_ends m)
      have hS1z : S1.size ≤ 1000000 := by rw [hS1, strB_size]; simp; omega
      rw [← hS1] at hcv
      have HS1 := hide hS1b
      clear hS1 hS1b
      go_wp2_with fail
      obtain ⟨j, hj⟩ : ∃ j, j = y % 30 := ⟨_, rfl⟩
      have hj30 : j < 30 := by omega
      have hji : (y : Int) % 30 = (j : Int) := by omega
      have HJ := hide hj
      clear hj
      by_cases hm6 : m ≤ 4096
      · obtain ⟨p1, p2⟩ := ends_ok hm6
        refine (parse_any S1 true 7 _ hS1z (by rw [unhide HS1, p1]) (by rw [unhide HS1, p2])).mono ?_
        rintro e w3 ⟨a3, l3, c3, rfl, hn3, hb3⟩
        have hO3 := (unhide HO2).later hb3
        have hB3 := hbw2.trans (hb3.mono hbw2.size)
        clear p1 p2 hb3 hcv hcs hcf hown HO2 hbw2 hbw
        have hm7 : (m : Int) ≤ 4096 := by omega
        go_wp2_with fail
        refine (same_true _ _ _ _ _ _ 7 _ (hn3.later (below_one _ _)) ⟨[7], rowAt_one rfl (by omega), norm_one (by omega), by rw [val_one]⟩).mono ?_
        rintro e w5 ⟨rfl, hb5⟩
        have hB5 := hB3.trans ((Below.step (below_one w3 _) hb5).mono hB3.size)
        have hO5 := hO3.later (Below.step (below_one w3 _) hb5)
        clear hO3 hB3 hb5 hn3
        have hcs5 := hO5.cell (i := j) (by omega)
        have hcf5 := hO5.free j
        have hO6 := hO5.set j c (e := (c : Int)) rfl
        have hr6 := (browAt_own hO6 (bytes_set (bytes_ends m) (by omega))).take (n := 30) (by omega)
        rw [ends_cut (by omega)] at hr6
        have hcv6 := run_string _ _ _ _ _ hr6
        have hB6 : Below w.heap.size w (w5.setCell ⟨w.heap.size, j, none⟩ (.int .u8 (c : Int))) := hB5.setCell (by simp) _
        obtain ⟨S2, hS2⟩ : ∃ S2, S2 = strB ((List.replicate 30 48).set j c) := ⟨_, rfl⟩
        have hS2b : byts S2 = (List.replicate 30 48).set j c := by rw [hS2]; exact byts_strB hr6.small
        have hS2z : S2.size ≤ 1000000 := by rw [hS2, strB_size, List.length_set, List.length_replicate]; omega
        rw [← hS2] at hcv6
        have HS2 := hide hS2b
        clear hO6 hr6 hB5 hS2 hS2b hO5
        go_wp2_with fail
        refine (parse_any S2 (isD c) (numS (byts S2)) _ hS2z (by rw [unhide HS2, ends_sign hj30]) rfl).mono ?_
        rintro e w7 ⟨a7, l7, c7, rfl, hn7, hb7⟩
        have hB7 := hB6.trans (hb7.mono hB6.size)
        clear hn7 hb7 hB6 hcv6 hcs5 hcf5
        by_cases hd : 48 ≤ c ∧ c ≤ 57
        · have e1 : isD c = true := (isD_iff c).2 hd
          have e2 : (48 : Int) ≤ (c : Int) := by omega
          have e3 : (c : Int) ≤ 57 := by omega
          rw [e1]
          go_wp2_with fail
          refine (awake_any _).mono ?_
          rintro e w8 ⟨rfl, hb8⟩
          have hB8 := Below.step hB7 hb8
          go_wp2
          go_ret
          exact ⟨rfl, hB8⟩
        · have e1 : isD c = false := by rw [← Bool.not_eq_true, isD_iff]; exact hd
          rw [e1]
          by_cases e2 : (48 : Int) ≤ (c : Int)
          · have e3 : decide ((c : Int) ≤ 57) = false := decide_eq_false (by omega)
            go_wp2_with fail
            refine (awake_any _).mono ?_
            rintro e w8 ⟨rfl, hb8⟩
            have hB8 := Below.step hB7 hb8
            go_wp2
            go_ret
            exact ⟨rfl, hB8⟩
          · go_wp2_with fail
            refine (awake_any _).mono ?_
            rintro e w8 ⟨rfl, hb8⟩
            have hB8 := Below.step hB7 hb8
            go_wp2
            go_ret
            exact ⟨rfl, hB8⟩
      · obtain ⟨p1, p2⟩ := ends_no (L := m) (by omega)
        refine (parse_any S1 false 0 _ hS1z (by rw [unhide HS1, p1]) (by rw [unhide HS1, p2])).mono ?_
        rintro e w5 ⟨a3, l3, c3, rfl, hn3, hb3⟩
        obtain rfl := hn3.len_zero
        have hO5 := (unhide HO2).later hb3
        have hB5 := hbw2.trans (hb3.mono hbw2.size)
        clear p1 p2 hb3 hcv hcs hcf hown HO2 hbw2 hbw hn3
        have hm7 : ¬ ((m : Int) ≤ 4096) := by omega
        have hcs5 := hO5.cell (i := j) (by omega)
        have hcf5 := hO5.free j
        have hO6 := hO5.set j c (e := (c : Int)) rfl
        have hr6 := (browAt_own hO6 (bytes_set (bytes_ends m) (by omega))).take (n := 30) (by omega)
        rw [ends_cut (by omega)] at hr6
        have hcv6 := run_string _ _ _ _ _ hr6
        have hB6 : Below w.heap.size w (w5.setCell ⟨w.heap.size, j, none⟩ (.int .u8 (c : Int))) := hB5.setCell (by simp) _
        obtain ⟨S2, hS2⟩ : ∃ S2, S2 = strB ((List.replicate 30 48).set j c) := ⟨_, rfl⟩
        have hS2b : byts S2 = (List.replicate 30 48).set j c := by rw [hS2]; exact byts_strB hr6.small
        have hS2z : S2.size ≤ 1000000 := by rw [hS2, strB_size, List.length_set, List.length_replicate]; omega
        rw [← hS2] at hcv6
        have HS2 := hide hS2b
        clear hO6 hr6 hB5 hS2 hS2b hO5
        go_wp2_with fail
        refine (parse_any S2 (isD c) (numS (byts S2)) _ hS2z (by rw [unhide HS2, ends_sign hj30]) rfl).mono ?_
        rintro e w7 ⟨a7, l7, c7, rfl, hn7, hb7⟩
        have hB7 := hB6.trans (hb7.mono hB6.size)
        clear hn7 hb7 hB6 hcv6 hcs5 hcf5
        by_cases hd : 48 ≤ c ∧ c ≤ 57
        · have e1 : isD c = true := (isD_iff c).2 hd
          have e2 : (48 : Int) ≤ (c : Int) := by omega
          have e3 : (c : Int) ≤ 57 := by omega
          rw [e1]
          go_wp2_with fail
          refine (awake_any _).mono ?_
          rintro e w8 ⟨rfl, hb8⟩
          have hB8 := Below.step hB7 hb8
          go_wp2
          go_ret
          exact ⟨rfl, hB8⟩
        · have e1 : isD c = false := by rw [← Bool.not_eq_true, isD_iff]; exact hd
          rw [e1]
          by_cases e2 : (48 : Int) ≤ (c : Int)
          · have e3 : decide ((c : Int) ≤ 57) = false := decide_eq_false (by omega)
            go_wp2_with fail
            refine (awake_any _).mono ?_
            rintro e w8 ⟨rfl, hb8⟩
            have hB8 := Below.step hB7 hb8
            go_wp2
            go_ret
            exact ⟨rfl, hB8⟩
          · go_wp2_with fail
            refine (awake_any _).mono ?_
            rintro e w8 ⟨rfl, hb8⟩
            have hB8 := Below.step hB7 hb8
            go_wp2
            go_ret
            exact ⟨rfl, hB8⟩
#print axioms digitEnds_walk
end Go.Proofs.Ytfjebgjhhojphaa
