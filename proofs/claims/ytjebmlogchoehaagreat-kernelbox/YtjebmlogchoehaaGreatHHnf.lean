/-
  What stairs and Hnf of package hnf tell: the rows in the form whose lattice is the one of the rows that were handed in.
-/
import Derived.Test.YtjebmlogchoehaaGreatHLaid
import Derived.Test.YtjebmlogchoehaaGreatHSettle
import Derived.Test.YtjebmlogchoehaaGreatJI
import Derived.Test.YtjebmlogchoehaaGreatJE
namespace Go.Proofs.YtjebmlogchoehaaGreat
open Go.RowKit Lb
set_option maxRecDepth 20000

theorem sameL_snoc_same {a b : List (List Int)} (v : List Int) (h : SameL a b) : SameL (a ++ [v]) (b ++ [v]) := sameL_snoc (s := 1) h (Or.inl rfl) ((inL_zero b).eq fun j => by omega)
theorem take_all_snoc {ls : List (List Int)} {i : Nat} (h : i < ls.length) : ls.take (i + 1) = ls.take i ++ [ls.getD i []] := take_snoc [] h
theorem six_le {n m B k : Nat} (hm : m ≤ n) (h : k + (n + 1) * (n * (B + 1)) ≤ 80000) : k + (m + 1) * (m * (B + 1)) ≤ 80000 :=
  Nat.le_trans (Nat.add_le_add_left (Nat.mul_le_mul (by omega) (Nat.mul_le_mul_right _ hm)) _) h
theorem hform_len {h : List (List Int)} {p : Nat → Nat} {l : List (List Int)} (hf : HForm h p) (hs : SameL l h) : h.length ≤ l.length := hf.eform.len_rows hs
set_option maxRecDepth 40000 in
set_option maxHeartbeats 4000000 in
theorem stairsK (ao : Option Addr) (n cap : Nat) (ls : List (List Int)) (k N B R : Nat) (w : World) (h : MK w ao n cap ls k) (hN : ∀ i, i < n → (ls.getD i []).length = N) (hbd : Bounded ls B) (hnR : n ≤ R + 1) (hK : k + (R + 1) * (R * (B + 1)) ≤ 80000) (hB8 : B ≤ 80000) (hn : n ≤ 100) (hNl : N ≤ 1000) :
    Calls Tryz.prog 59 #[.slice ao n cap] w fun e w' => ∃ a1 m c1 p hs, e = .returned (.slice a1 m c1) ∧ SOwn w' w.heap.size a1 m c1 p hs B ∧ HForm hs p ∧ SameL ls hs ∧ (∀ i, i < m → (hs.getD i []).length = N) ∧ m ≤ n ∧ Below w.heap.size w w' := by
  have HL := hide h.len_eq
  have HN := hide hN
  have HBD := hide hbd
  clear hN hbd
  go_enter Tryz.func59, Tryz.ntmps59
  go_wp2_with fail
  go_loopw [3, 8] (fun s t wr => ∃ (i m : Nat) (ah : Option Addr) (ch : Nat) (p : Nat → Nat) (hs : List (List Int)), i ≤ n ∧ m ≤ i ∧ t = .int .i64 (i : Int) ∧ s = .slice ah m ch ∧ SOwn wr w.heap.size ah m ch p hs B ∧ HForm hs p ∧ SameL (ls.take i) hs ∧ (∀ i, i < m → (hs.getD i []).length = N) ∧ Below w.heap.size w wr) (fun _ t _ => n - (intOf t).toNat)
  case atStart => exact ⟨0, 0, none, 0, fun i => i, [], Nat.zero_le _, Nat.zero_le _, rfl, rfl, sOwn_nil _ _ _ _, hform_nil _, SameL.refl _, fun i hi => absurd hi (by omega), Below.refl _ _⟩
  case round =>
    obtain ⟨i, m, ah, ch, p, hs, hi, hmi, rfl, rfl, hown, hf, hs1, hNs, hB⟩ := hrel
    have HF := hide hf
    have HS := hide hs1
    have HM := hide hNs
    have HB := hide hB
    clear hf hs1 hNs hB
    by_cases hlt : i < n
    · obtain ⟨g, off, rfl⟩ := h.addr (by omega)
      obtain ⟨hg, a5, l5, c5, hc5, hv5⟩ := RowsOf.at (R := fun w a l c zs => VK w a l c zs k) h hlt
      have hl5 : N = l5 := by rw [← hv5.len_eq]; exact (unhide HN i hlt).symm
      subst hl5
      replace hv5 := hv5.later (unhide HB)
      have f2 := ((unhide HB).cell (p := ⟨g, off + i, none⟩) hg).trans hc5
      have hgr := Nat.lt_of_lt_of_le hg (unhide HB).size
      have hi0 : (0 : Int) ≤ (i : Int) := by omega
      have hi1 : (i : Int) < (n : Int) := by omega
      have hsz := (unhide HB).size
      have hsix := six_le (B := B) (k := k) (show m ≤ R by omega) hK
      have HSIX := hide hsix
      clear hc5 hg hsix
      go_wp2_with fail
      refine (laidK ah m ch p hs B a5 N c5 (ls.getD i []) k w.heap.size _ hown hsz hv5 (unhide HF).eform (unhide HM) (unhide HSIX) hB8 (by omega) hNl).mono ?_
      rintro e w5 ⟨a1, m1, c1, p1, rs1, rfl, hown1, hf1, hs1, hN1, hm1, hb1⟩
      have hs2 : SameL (ls.take (i + 1)) rs1 := by
        rw [take_all_snoc (by rw [unhide HL]; exact hlt)]
        exact (sameL_snoc_same _ (unhide HS)).trans hs1
      replace HB := hide ((unhide HB).trans hb1)
      have HF1 := hide hf1
      have HS1 := hide hs2
      have HN1 := hide hN1
      have HBX : Hid (∀ h, EForm h p1 → SameL rs1 h → ∀ k, k < h.length → LowAt h p1 k → ∀ j, (ent h k j).natAbs < Bp B) := hide fun h h1 h2 => unhide HBD (i + 1) (by rw [unhide HL]; omega) h p1 h1 (hs2.trans h2)
      have hsz5 := (unhide HB).size
      have hkx : B + (k + (m + 1) * (m * (B + 1))) + m1 * (B + 1) ≤ 400000 := by
        have h1 := unhide HSIX
        have h2 : m1 * (B + 1) ≤ (m + 1) * (B + 1) := Nat.mul_le_mul_right _ hm1
        rcases Nat.eq_zero_or_pos m with c | c
        · subst c
          have : (0 + 1) * (B + 1) = B + 1 := by omega
          omega
        · have h3 : (m + 1) * (B + 1) ≤ (m + 1) * (m * (B + 1)) := Nat.mul_le_mul_left _ (Nat.le_mul_of_pos_left _ c)
          omega
      have HKX := hide hkx
      clear hb1 hf1 hs1 hs2 hN1 hown f2 hgr hv5 hkx
      go_wp2_with fail
      refine (settleK a1 m1 c1 p1 rs1 (B + (k + (m + 1) * (m * (B + 1)))) B N w.heap.size _ hown1 hsz5 (unhide HF1) (unhide HN1) (unhide HBX) (by omega) (unhide HKX) (by omega) hNl).mono ?_
      rintro e w6 ⟨rs2, rfl, hown2, hf2, hs2, hN2, hb1⟩
      have HF2 := hide hf2
      have HS2 := hide ((unhide HS1).trans hs2)
      have HN2 := hide hN2
      replace HB := hide ((unhide HB).trans hb1)
      clear hb1 hf2 hs2 hN2 hown1
      go_wp2
      go_roundw
      case rel => exact ⟨i + 1, m1, _, _, p1, rs2, by omega, by omega, by go_num, rfl, hown2, unhide HF2, unhide HS2, unhide HN2, unhide HB⟩
      case measure => simp [intOf]; omega
    · have hin : i = n := by omega
      subst hin
      have hi1 : ¬ (i : Int) < (i : Int) := by omega
      rw [List.take_of_length_le (by rw [unhide HL]; exact Nat.le_refl _)] at HS
      go_wp2
      go_ret
      exact ⟨_, _, _, rfl, _, _, hown, unhide HF, unhide HS, unhide HM, hmi, unhide HB⟩

theorem getD_row {rs : List (List Int)} {i : Nat} {r : List Int} (h : rs[i]? = some r) : rs.getD i [] = r := by simp [List.getD, h]
theorem rform_rows {ls : List (List Int)} {x : Int} (h : rform ls x = true) : ∃ N : Nat, x = (N : Int) ∧ 1 ≤ N ∧ N ≤ 64 ∧ ∀ r ∈ ls, r.length = N := by
  unfold rform at h
  rw [Bool.and_eq_true] at h
  have h1 := of_decide_eq_true h.1
  refine ⟨x.toNat, by omega, by omega, by omega, fun r hr => ?_⟩
  have := List.all_eq_true.1 h.2 r hr
  have := of_decide_eq_true this
  omega
theorem rows_len {ls : List (List Int)} {N : Nat} (h : ∀ r ∈ ls, r.length = N) : ∀ i, i < ls.length → (ls.getD i []).length = N := fun i hi => by
  rw [show ls.getD i [] = ls[i] by simp [List.getD, hi]]
  exact h _ (List.getElem_mem hi)
theorem len_rows {ls : List (List Int)} {N n : Nat} (hl : ls.length = n) (h : ∀ i, i < n → (ls.getD i []).length = N) : ∀ r ∈ ls, r.length = N := fun r hr => by
  obtain ⟨i, hi, e⟩ := List.getElem_of_mem hr
  have := h i (by omega)
  rw [show ls.getD i [] = ls[i] by simp [List.getD, hi], e] at this
  exact this
set_option maxRecDepth 40000 in
set_option maxHeartbeats 4000000 in
theorem hnfK (ao : Option Addr) (n cap : Nat) (ls : List (List Int)) (k B R : Nat) (x : Int) (w : World) (h : MK w ao n cap ls k) (hx : -9223372036854775808 ≤ x ∧ x ≤ 9223372036854775807) (hq : rform ls x = true) (hbd : Bounded ls B) (hnR : n ≤ R + 1) (hK : k + (R + 1) * (R * (B + 1)) ≤ 80000) (hB8 : B ≤ 80000) (hn : n ≤ 100) :
    Calls Tryz.prog 31 #[.slice ao n cap, .int .i64 x] w fun e w' => ∃ a1 m c1 p hs, e = .returned (.tuple #[.slice a1 m c1, .int .i64 0]) ∧ MF w' a1 m c1 hs B ∧ HForm hs p ∧ SameL ls hs ∧ (∀ r ∈ hs, (r.length : Int) = x) ∧ m ≤ n ∧ Below w.heap.size w w' := by
  obtain ⟨N, rfl, hN1, hN2, hNr⟩ := rform_rows hq
  have HN := hide (rows_len hNr)
  have HL := hide h.len_eq
  have HBD := hide hbd
  clear hNr hbd
  go_enter Tryz.func31, Tryz.ntmps31
  go_wp2_with fail
  refine (rowsFormK ao n cap ls (N : Int) w h.ml hx true hq).mono ?_
  rintro e w1 ⟨rfl, hb1⟩
  have hk := h.later hb1
  have HB := hide hb1
  clear hb1 h
  go_wp2_with fail
  refine (stairsK ao n cap ls k N B R _ hk (by rw [← unhide HL]; exact unhide HN) (unhide HBD) hnR hK hB8 hn (by omega)).mono ?_
  rintro e w2 ⟨a1, m, c1, p, hs, rfl, hown, hf, hs1, hNs, hm, hb1⟩
  have hl := hown.len
  have hst := hown.rows
  have HF := hide hf
  have HS := hide hs1
  have HM := hide hNs
  have HML := hide hl
  replace HB := hide (Below.step (unhide HB) hb1)
  clear hb1 hf hs1 hNs hown hl hk
  have hsz2 := (unhide HB).size
  go_wp2_with fail
  go_loopw [6, 16] (fun s t wr => ∃ (i : Nat) (ah : Option Addr) (ch : Nat), i ≤ m ∧ t = .int .i64 (i : Int) ∧ s = .slice ah i ch ∧ MO wr w2.heap.size ah i ch (hs.take i) B ∧ Below w2.heap.size w2 wr) (fun _ t _ => m - (intOf t).toNat)
  case atStart => exact ⟨0, none, 0, Nat.zero_le _, rfl, rfl, mo_nil _ _ _, Below.refl _ _⟩
  case round =>
    obtain ⟨i, ah, ch, hi, rfl, rfl, hown, hB⟩ := hrel
    have HC := hide hB
    clear hB
    by_cases hlt : i < m
    · obtain ⟨g, off, rfl⟩ := hst.some (by omega)
      obtain ⟨hg, a5, l5, c5, x1, x2, hr5⟩ := hst.at hlt
      have hl5 : N = l5 := by rw [← hr5.len_eq]; exact (unhide HM i hlt).symm
      subst hl5
      have f1 := ((unhide HC).cell (p := ⟨g, off + i * 2, none⟩) hg).trans x1
      have f2 := ((unhide HC).cell (p := ⟨g, off + i * 2 + 1, none⟩) hg).trans x2
      have hgr := Nat.lt_of_lt_of_le hg (unhide HC).size
      replace hr5 := hr5.later (unhide HC)
      have hi0 : (0 : Int) ≤ (i : Int) := by omega
      have hi1 : (i : Int) < (m : Int) := by omega
      have hszr := (unhide HC).size
      have hb9 : Below wr.heap.size wr (wr.alloc (.cells #[.int .i64 (p i : Int), .slice a5 N c5] 79)) := below_new _ _
      obtain ⟨WA, hWA⟩ : ∃ WA, WA = wr.alloc (.cells #[.int .i64 (p i : Int), .slice a5 N c5] 79) := ⟨_, rfl⟩
      have hbA : Below wr.heap.size wr WA := by rw [hWA]; exact hb9
      obtain ⟨WB, hWB⟩ : ∃ WB, WB = WA.alloc (.cells #[.slice a5 N c5] 24) := ⟨_, rfl⟩
      have hbB : Below WA.heap.size WA WB := by rw [hWB]; exact below_new _ _
      have hone : MF WB (some ⟨WA.heap.size, 0, none⟩) 1 1 [hs.getD i []] B := by rw [hWB]; exact mf_one (hr5.later hbA)
      have hownB := (hown.later hbA).later hbB
      have hbb := Below.step hbA hbB
      have hszB : w2.heap.size ≤ WB.heap.size := Nat.le_trans hszr hbb.size
      have hWAs : WA.heap.size = wr.heap.size + 1 := by rw [hWA]; simp
      rw [hWAs] at hone
      rw [hWB, hWA] at hone hownB hszB
      have HBB := hide (show Below w2.heap.size w2 WB from Below.step (unhide HC) hbb)
      rw [hWB, hWA] at HBB
      clear hb9 hbA hbB hbb hWB hWA hown hszr x1 x2 hg
      go_wp2_with (at_builtin; (refine append_rows (R := fun w a l c zs => VF w a l c zs B) (steadyMO B) rfl (.tmp 20) (.tmp 23) 22 Tryz.underlying22 rfl w2.heap.size ah i ch (hs.take i) rfl hownB _ 1 1 [hs.getD i []] rfl hone (by omega) hszB ?_))
      intro an cn w7 hown2 hgr7
      have HD := hide ((unhide HBB).grown hgr7 hszB (MO.ge hownB))
      clear hgr7 hone hownB hszB f1 f2
      have hown3 : MO w7 w2.heap.size an (i + 1) cn (hs.take (i + 1)) B := by rw [take_all_snoc (by rw [unhide HML]; exact hlt)]; exact hown2
      clear hown2
      go_wp2
      go_roundw
      case rel => exact ⟨i + 1, _, _, by omega, by go_num, rfl, hown3, unhide HD⟩
      case measure => simp [intOf]; omega
    · have hin : i = m := by omega
      subst hin
      have hi1 : ¬ (i : Int) < (i : Int) := by omega
      rw [List.take_of_length_le (by rw [unhide HML]; exact Nat.le_refl _)] at hown
      go_wp2
      refine bodyPost_ret (v := .tuple #[.slice ah i ch, .int .i64 0]) (by simp [results, Tryz.results31, go_sem, *]) rfl ?_
      exact ⟨_, _, _, rfl, _, _, hown.mf, unhide HF, unhide HS, fun r hr => by rw [len_rows (unhide HML) (unhide HM) r hr], hm, Below.step (unhide HB) (unhide HC)⟩

#print axioms stairsK
#print axioms hnfK
end Go.Proofs.YtjebmlogchoehaaGreat
