/-
  What settle of package hnf tells: each row lowered at the pivots behind its own.
-/
import Derived.Test.YtjebmlogchoehaaGreatHStp
namespace Go.Proofs.YtjebmlogchoehaaGreat
open Go.RowKit Lb
set_option maxRecDepth 20000

set_option maxRecDepth 40000 in
set_option maxHeartbeats 4000000 in
theorem settleK (ah : Option Addr) (n ch : Nat) (p : Nat → Nat) (rs0 : List (List Int)) (Kc B N base : Nat) (w : World) (hown : SOwn w base ah n ch p rs0 Kc) (hbase : base ≤ w.heap.size) (hf : EForm rs0 p) (hN : ∀ i, i < n → (rs0.getD i []).length = N) (hbd : ∀ h, EForm h p → SameL rs0 h → ∀ k, k < h.length → LowAt h p k → ∀ j, (ent h k j).natAbs < Bp B) (hBK : B ≤ Kc) (hK : Kc + n * (B + 1) ≤ 400000) (hn : n ≤ 1000) (hNl : N ≤ 1000) :
    Calls Tryz.prog 81 #[.slice ah n ch] w fun e w' => ∃ rs, e = .returned (.tuple #[]) ∧ SOwn w' base ah n ch p rs B ∧ HForm rs p ∧ SameL rs0 rs ∧ (∀ i, i < n → (rs.getD i []).length = N) ∧ Below base w w' := by
  have HL0 := hide hown.len
  have HBD := hide hbd
  have HBA := hide hbase
  have HD0 := hide (DState.start hf)
  have HN0 := hide hN
  clear hf hN hbd hbase
  go_enter Tryz.func81, Tryz.ntmps81
  go_wp2_with fail
  go_loopw [2] (fun t wr => ∃ (i : Nat) (rs : List (List Int)), i ≤ n ∧ t = .int .i64 ((i : Int) - 1) ∧ SOwn wr base ah n ch p rs Kc ∧ DState rs p i ∧ SameL rs0 rs ∧ (∀ t, i ≤ t → t < n → ∀ j, (ent rs t j).natAbs < Bp B) ∧ (∀ i, i < n → (rs.getD i []).length = N) ∧ Below base w wr) (fun t _ => (intOf t + 1).toNat)
  case atStart => exact ⟨n, rs0, Nat.le_refl _, rfl, hown, by rw [← unhide HL0]; exact unhide HD0, SameL.refl _, fun t h1 h2 => absurd h1 (by omega), unhide HN0, Below.refl _ _⟩
  case round =>
    clear hown
    obtain ⟨i, rs, hi, rfl, hown, hd, hs, hsm, hN, hB⟩ := hrel
    have HD := hide hd
    have HS := hide hs
    have HM := hide hsm
    have HN := hide hN
    have HB := hide hB
    clear hd hs hsm hN hB
    rcases Nat.eq_zero_or_pos i with hi0 | hi0
    · subst hi0
      have hown2 := hown.tight (k := B) fun t ht => unhide HM t (Nat.zero_le _) ht
      clear hown
      go_wp2
      first
        | go_end0
        | refine bodyPost_ret (results_none rfl _ _ _) rfl ?_
      exact ⟨rs, rfl, hown2, (unhide HD).done, unhide HS, unhide HN, unhide HB⟩
    · obtain ⟨m, rfl⟩ : ∃ m, i = m + 1 := ⟨i - 1, by omega⟩
      have hmn : m < n := by omega
      rw [show (((m + 1 : Nat) : Int) - 1) = (m : Int) by omega]
      obtain ⟨g, rfl⟩ : ∃ g, ah = some ⟨g, 0, none⟩ := by
        rcases hown.nil_or with ⟨_, e, _⟩ | h
        · omega
        · exact h
      obtain ⟨at2, hst2, hT⟩ := slice_tailS hown (show m + 1 ≤ n by omega)
      have hwr : IntKind.i64.wrap ((m : Int) + 1) = ((m + 1 : Nat) : Int) := by rw [show (m : Int) + 1 = ((m + 1 : Nat) : Int) by omega]; exact wrap_natS _ (by omega)
      obtain ⟨q, eq⟩ : ∃ q, q = m + 1 := ⟨_, rfl⟩
      rw [← eq] at hst2 hT hwr
      have hrl : rs.length = n := hown.len
      have HRL := hide hrl
      have HT := hide (hT.tight (k := B) fun t ht j => by rw [ent_drop]; exact unhide HM (q + t) (by omega) (by omega) j)
      have HF := hide ((unhide HD).form.drop q)
      have HND : Hid (∀ i, i < n - q → ((rs.drop q).getD i []).length = N) := hide fun i hi => by
        rw [show (rs.drop q).getD i [] = rs.getD (q + i) [] by simp [List.getD]]
        exact unhide HN _ (by omega)
      have EQ := hide eq
      have hkm : Kc + (n - q) * (B + 1) ≤ 400000 := Nat.le_trans (Nat.add_le_add_left (Nat.mul_le_mul_right _ (by omega)) _) hK
      have HKM := hide hkm
      obtain ⟨hg5, a5, l5, c5, x1, x2, hr5⟩ := hown.at hmn
      have hl5 : N = l5 := by rw [← hr5.len_eq]; exact (unhide HN m hmn).symm
      subst hl5
      have hbl := hown.base_le
      have hm0 : (0 : Int) ≤ (m : Int) := by omega
      have hm1 : (m : Int) < (n : Int) := by omega
      have hq0 : (0 : Int) ≤ (q : Int) := by omega
      have hq1 : (q : Int) ≤ (n : Int) := by omega
      clear hT hrl hkm eq
      have HW : Below wr.heap.size wr wr.drew := (Below.refl _ _).drew
      go_upto_region 3 with fail
      refine till_start (fun w' => w'.cell? ⟨g, m * 2 + 1, none⟩ = some (.slice a5 N c5)) 14 (by kernel_rfl) ?_ (fun hHeld => ?_)
      · exact (HW.cell (p := ⟨g, m * 2 + 1, none⟩) hg5).trans x2
      refine till_tl (i := 0) [12, 13, 14] rfl ?_
      simp only [Act.put, aGet, aZero, aSet, aHead, aTail]
      refine till_tl (i := 1) [12, 13, 14] rfl ?_
      simp only [Act.put, aGet, aSucc, aZero, aSet, aHead, aTail]
      refine till_tl (i := 2) [4, 5, 6, 11, 12, 13, 14] rfl ?_
      simp only [Act.put, aGet, aSucc, aZero, aSet, aHead, aTail]
      refine till_tl (i := 3) [4, 5, 6, 11, 12, 13, 14] rfl ?_
      simp only [Act.put, aGet, aSucc, aZero, aSet, aHead, aTail]
      refine till_tl (i := 4) [5, 6, 11, 12, 13, 14] rfl ?_
      simp only [Act.put, aGet, aSucc, aZero, aSet, aHead, aTail]
      refine till_tl (i := 5) [6, 11, 12, 13, 14] rfl ?_
      simp only [Act.put, aGet, aSucc, aZero, aSet, aHead, aTail]
      refine till_tl (i := 6) [11, 12, 13, 14] rfl ?_
      simp only [Act.put, aGet, aSucc, aZero, aSet, aHead, aTail]
      refine till_tl (i := 7) [10, 11, 12, 13, 14] rfl ?_
      simp only [Act.put, aGet, aSucc, aZero, aSet, aHead, aTail]
      refine till_tl (i := 8) [9, 10, 11, 12, 13, 14] rfl ?_
      simp only [Act.put, aGet, aSucc, aZero, aSet, aHead, aTail]
      refine till_tl (i := 9) [10, 11, 12, 13, 14] rfl ?_
      simp only [Act.put, aGet, aSucc, aZero, aSet, aHead, aTail]
      refine till_tl (i := 10) [11, 12, 13, 14] rfl ?_
      simp only [Act.put, aGet, aSucc, aZero, aSet, aHead, aTail]
      refine till_in (i := 11) (by kernel_rfl) rfl (fun K hK => ?_)
      go_simp
      refine (loweredK _ N _ (rs.getD m []) Kc _ (n - q) _ (fun t => p (q + t)) (rs.drop q) B _ ((hr5.later HW).vk (by omega)) ((unhide HT).later HW) (unhide HF) (unhide HND) (unhide HKM) (by omega) hNl).mono ?_
      rintro e w9 ⟨a7, c7, us, rfl, _, h7, hin, hall, hb9⟩
      have HI := hide hin
      have HA2 := hide hall
      replace h7 := h7 (hr5.later HW)
      replace HW := Below.step HW hb9
      clear hb9 hin hall
      refine hK.out _ _ ?_ (fun hHeld => ?_)
      · exact (HW.cell (p := ⟨g, m * 2 + 1, none⟩) hg5).trans x2
      clear hK K
      try simp only [Act.put, aGet, aSucc, aZero, aSet, aHead, aTail]
      refine till_tl (i := 12) [13, 14] rfl ?_
      simp only [Act.put, aGet, aSucc, aZero, aSet, aHead, aTail]
      refine till_tl (i := 13) [14] rfl ?_
      simp only [Act.put, aGet, aSucc, aZero, aSet, aHead, aTail]
      obtain ⟨_, _, _, _, q1, q2, _⟩ := (hown.later HW).at hmn
      have q3 := (hown.later HW).free (m * 2)
      have q4 := (hown.later HW).free (m * 2 + 1)
      refine till_out (i := 14) (by kernel_rfl) rfl (by kernel_rfl) (fun K hK => ?_)
      go_simp
      refine hK.out _ _ ?_
      clear hK K
      try simp only [Act.put, aGet, aSucc, aZero, aSet, aHead, aTail]
      refine till_done (by kernel_rfl) ?_ _
      clear q1 q2 q3 q4 hHeld
      have hown9 := hown.later HW
      have HB9 := hide ((unhide HB).trans (HW.mono (Nat.le_trans (unhide HBA) (unhide HB).size)))
      have hlt9 : m < rs.length := by rw [unhide HRL]; exact hmn
      have hst := (unhide HD).step hlt9 (low := us) (by rw [← unhide EQ]; exact unhide HI) (by rw [unhide HRL, ← unhide EQ]; exact unhide HA2)
      have hsame := (unhide HS).trans hst.2
      have htight := vf_tight h7 (k := B) fun j _ => by
        have h9 := unhide HBD (rs.set m us) hst.1.form hsame m (by rw [List.length_set]; exact hlt9) (hst.1.low m (Nat.le_refl _) (by rw [List.length_set]; exact hlt9)) j
        rw [ent_same hlt9] at h9
        exact h9
      have HST := hide hst.1
      have HSA := hide hsame
      clear hst hsame h7 hr5 HW hown
      go_wp2
      go_roundw
      case rel =>
        refine ⟨m, rs.set m us, by omega, by go_num, hown9.setRow hmn (vf_up htight hBK), unhide HST, unhide HSA, fun t h1 h2 j => ?_, set_len_all (unhide HN) hlt9 htight.len_eq, (unhide HB9).setCell (by simpa using hbl.1) _⟩
        by_cases c : t = m
        · subst c
          rw [ent_same hlt9]
          exact vf_size htight j
        · rw [ent_other hlt9 c]
          exact unhide HM t (by omega) h2 j
      case measure => simp [intOf]

#print axioms settleK
end Go.Proofs.YtjebmlogchoehaaGreat
