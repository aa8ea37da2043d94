/-
  What laid of package hnf tells: steps with rising pivots whose lattice is that of the steps and the row.
-/
import Derived.Test.YtjebmlogchoehaaGreatHJoin
import Derived.Test.YtjebmlogchoehaaGreatHStp
import Derived.Deep.CutRange
namespace Go.Proofs.YtjebmlogchoehaaGreat
open Go.RowKit Lb
set_option maxRecDepth 20000

set_option maxRecDepth 40000 in
set_option maxHeartbeats 4000000 in
theorem laidK (ah : Option Addr) (n ch : Nat) (p0 : Nat → Nat) (rs0 : List (List Int)) (b : Nat) (ao : Option Addr) (N cap : Nat) (zs : List Int) (k base : Nat) (w : World) (hown : SOwn w base ah n ch p0 rs0 b) (hbase : base ≤ w.heap.size) (h : VK w ao N cap zs k) (hf : EForm rs0 p0) (hN : ∀ i, i < n → (rs0.getD i []).length = N) (hK : k + (n + 1) * (n * (b + 1)) ≤ 80000) (hb : b ≤ 80000) (hn : n ≤ 1000) (hNl : N ≤ 1000) :
    Calls Tryz.prog 80 #[.slice ah n ch, .slice ao N cap] w fun e w' => ∃ a1 m c1 p rs, e = .returned (.slice a1 m c1) ∧ SOwn w' base a1 m c1 p rs (b + (k + (n + 1) * (n * (b + 1)))) ∧ EForm rs p ∧ SameL (rs0 ++ [zs]) rs ∧ (∀ i, i < m → (rs.getD i []).length = N) ∧ m ≤ n + 1 ∧ Below base w w' := by
  have HL0 := hide hown.len
  have HF0 := hide hf
  have HN0 := hide hN
  have hsm : ∀ t, 0 ≤ t → t < n → ∀ j, (ent rs0 t j).natAbs < Bp b := fun t _ ht j => hown.rows.size t ht j
  have HS0 := hide hsm
  clear hf hN hsm
  obtain ⟨D, eD⟩ : ∃ D, D = n * (b + 1) := ⟨_, rfl⟩
  rw [← eD] at hK ⊢
  have hKn : k + D ≤ 80000 := by rw [Nat.add_mul] at hK; omega
  go_enter Tryz.func80, Tryz.ntmps80
  go_wp2_with fail
  go_step3
  go_wp2_with fail
  refine (loweredK ao N cap zs k ah n ch p0 rs0 b _ h hown.rows (unhide HF0) (unhide HN0) (by rw [← eD]; omega) (by omega) hNl).mono ?_
  rintro e w1 ⟨a1, c1, us, rfl, hu, _, hin, _, hb1⟩
  rw [← eD] at hu
  have ED := hide eD
  clear eD
  have HI := hide hin
  have HB := hide (hb1.mono hbase)
  replace hown := hown.later hb1
  clear hb1 hin h
  go_wp2_with fail
  refine (stepOfK a1 N c1 us (k + D) _ hu (by omega) (by omega)).mono ?_
  rintro e w2 ⟨z, a2, c2, rfl, hpz, h2, hb1⟩
  have hsz1 := (unhide HB).size
  replace HB := hide ((unhide HB).trans (hb1.mono (Nat.le_trans hbase hsz1)))
  replace hown := hown.later hb1
  have HLS := hide (LState.start (unhide HF0) (SameL.refl rs0) (unhide HI) hpz)
  have hlu := hu.len_eq
  clear hb1 hpz hu hsz1 HI
  have hgx : w2.heap.size = w2.heap.size := rfl
  obtain ⟨gx, egx⟩ : ∃ gx, gx = w2.heap.size := ⟨_, rfl⟩
  clear hgx
  have hbg := (unhide HB).size
  go_wp2_with fail
  go_step3
  go_wp2_with fail
  obtain ⟨W0, hW0⟩ : ∃ W0, W0 = w2.alloc (.cells #[.int .i64 z, .slice a2 N c2] 79) := ⟨_, rfl⟩
  have hx : SBox W0 gx z a2 N c2 := by rw [hW0]; exact sbox_new w2 _ _ _ _ egx
  have hb0 : Below w2.heap.size w2 W0 := by rw [hW0]; exact below_new _ _
  rw [← hW0, ← egx]
  clear hW0
  have HGN : Hid (∀ g, ah = some ⟨g, 0, none⟩ → g ≠ gx ∧ base ≤ g) := hide fun g e => by
    subst e
    have := hown.base_le
    omega
  have hbx : base ≤ gx := by omega
  replace h2 := h2.later hb0
  replace hown := sown_up (hown.later hb0) (show b ≤ b + (k + D) by omega)
  replace HB := hide ((unhide HB).trans (hb0.mono (Nat.le_trans hbase hbg)))
  clear hb0 egx hbg hbase
  go_loopw [15] (fun t wr => ∃ (i : Nat) (z : Int) (av : Option Addr) (cv : Nat) (vs : List Int) (p : Nat → Nat) (rs : List (List Int)), i ≤ n ∧ t = .int .i64 (i : Int) ∧ SBox wr gx z av N cv ∧ VF wr av N cv vs (k + (i + 1) * D) ∧ SOwn wr base ah n ch p rs (b + (k + (i + 1) * D)) ∧ LState (rs0 ++ [zs]) rs p z vs i ∧ (∀ t, i ≤ t → t < n → ∀ j, (ent rs t j).natAbs < Bp b) ∧ (∀ i, i < n → (rs.getD i []).length = N) ∧ Below base w wr) (fun t _ => n - (intOf t).toNat)
  case atStart => exact ⟨0, z, _, _, _, p0, rs0, Nat.zero_le _, rfl, hx, by rw [Nat.zero_add, Nat.one_mul]; exact h2, by rw [Nat.zero_add, Nat.one_mul]; exact hown, unhide HLS, unhide HS0, unhide HN0, unhide HB⟩
  case round =>
    clear hx h2 hown HB HLS hlu
    obtain ⟨i, z, av, cv, vs, p, rs, hi, rfl, hx, hv, hown, hls, hsm, hN, hB⟩ := hrel
    have HS := hide hls
    have HM := hide hsm
    have HN := hide hN
    have HB := hide hB
    have hrl : rs.length = n := hown.len
    have HRL := hide hrl
    obtain ⟨M, eM⟩ : ∃ M, M = k + (i + 1) * D := ⟨_, rfl⟩
    rw [← eM] at hv hown
    have hMK : M + D ≤ 80000 + D := by
      have : (i + 1) * D ≤ (n + 1) * D := Nat.mul_le_mul_right _ (by omega)
      omega
    have hMK2 : i < n → M + D ≤ 80000 := fun hlt => by
      have : (i + 2) * D ≤ (n + 1) * D := Nat.mul_le_mul_right _ (by omega)
      rw [show (i + 2) * D = (i + 1) * D + D by rw [show i + 2 = i + 1 + 1 by omega, Nat.add_mul (i + 1) 1 D, Nat.one_mul]] at this
      omega
    have HMS : Hid (k + (i + 1 + 1) * D = M + D) := hide (by rw [eM, Nat.add_mul (i + 1) 1 D, Nat.one_mul]; omega)
    have hMf : M ≤ k + (n + 1) * D := by
      have : (i + 1) * D ≤ (n + 1) * D := Nat.mul_le_mul_right _ (by omega)
      omega
    have EM := hide eM
    clear hls hsm hN hB hrl eM
    by_cases hz : z < 0
    · -- nought is in hand
      have HEND := hide ((unhide HS).none hz)
      have hfin : SOwn wr base ah n ch p rs (b + (k + (n + 1) * D)) := sown_up hown (by omega)
      obtain ⟨f1, f2, _, _⟩ := hx.facts
      have hgl := hx.lt
      by_cases hlt : i < n
      · go_wp2
        try rw [Exit.noGoto_ret]
        go_ret
        exact ⟨_, _, _, p, rs, rfl, hfin, (unhide HS).form, unhide HEND, unhide HN, by omega, unhide HB⟩
      · have hin : i = n := by omega
        subst hin
        go_wp2
        try rw [Exit.noGoto_ret]
        go_ret
        exact ⟨_, _, _, p, rs, rfl, hfin, (unhide HS).form, unhide HEND, unhide HN, by omega, unhide HB⟩
    · obtain ⟨q, rfl, hq0, hqp⟩ := (unhide HS).hand.nat hz
      have HQ0 := hide hq0
      have HQP := hide hqp
      clear hq0 hqp hz
      have hz : ¬ (q : Int) < 0 := by omega
      have hz' : decide ((q : Int) < 0) = false := decide_eq_false hz
      by_cases hlt : i < n
      · obtain ⟨g, rfl⟩ : ∃ g, ah = some ⟨g, 0, none⟩ := by
          rcases hown.nil_or with ⟨_, e, _⟩ | h
          · omega
          · exact h
        obtain ⟨hgg, hbg⟩ := unhide HGN g rfl
        obtain ⟨hg5, a5, l5, c5, x1, x2, hr5⟩ := hown.at hlt
        have hl5 : N = l5 := by rw [← hr5.len_eq]; exact (unhide HN i hlt).symm
        subst hl5
        have hlr : i < rs.length := by rw [unhide HRL]; exact hlt
        have HVL := hide hv.len_eq
        obtain ⟨f1, f2, _, _⟩ := hx.facts
        have hgl := hx.lt
        have hi0 : (0 : Int) ≤ (i : Int) := by omega
        have hi1 : (i : Int) < (n : Int) := by omega
        have hDb : b + 1 ≤ D := by
          rw [unhide ED]
          exact Nat.le_mul_of_pos_left _ (by omega)
        have HW : Below wr.heap.size wr wr.drew := (Below.refl _ _).drew
        go_upto_region 6 with fail
        refine till_start (fun w' => w'.cell? ⟨gx, 0, none⟩ = some (.int .i64 (q : Int)) ∧ w'.cell? ⟨gx, 1, none⟩ = some (.slice av N cv) ∧ w'.cell? ⟨g, i * 2, none⟩ = some (.int .i64 (p i : Int)) ∧ w'.cell? ⟨g, i * 2 + 1, none⟩ = some (.slice a5 N c5)) 8 (by kernel_rfl) ?_ (fun hHeld => ?_)
        · exact ⟨(hx.later HW).facts.1, (hx.later HW).facts.2.1, (HW.cell (p := ⟨g, i * 2, none⟩) hg5).trans x1, (HW.cell (p := ⟨g, i * 2 + 1, none⟩) hg5).trans x2⟩
        refine till_tl (i := 0) [1, 7, 8] rfl ?_
        simp only [Act.put, aGet, aZero, aSet, aHead, aTail]
        refine till_tl (i := 1) [7, 8] rfl ?_
        simp only [Act.put, aGet, aSucc, aZero, aSet, aHead, aTail]
        refine till_tl (i := 2) [4, 5, 6, 7, 8] rfl ?_
        simp only [Act.put, aGet, aSucc, aZero, aSet, aHead, aTail]
        refine till_tl (i := 3) [4, 5, 6, 7, 8] rfl ?_
        simp only [Act.put, aGet, aSucc, aZero, aSet, aHead, aTail]
        refine till_tl (i := 4) [5, 6, 7, 8] rfl ?_
        simp only [Act.put, aGet, aSucc, aZero, aSet, aHead, aTail]
        refine till_tl (i := 5) [6, 7, 8] rfl ?_
        simp only [Act.put, aGet, aSucc, aZero, aSet, aHead, aTail]
        refine till_tl (i := 6) [7, 8] rfl ?_
        simp only [Act.put, aGet, aSucc, aZero, aSet, aHead, aTail]
        refine till_tl (i := 7) [8] rfl ?_
        simp only [Act.put, aGet, aSucc, aZero, aSet, aHead, aTail]
        refine till_out (i := 8) (by kernel_rfl) rfl (by kernel_rfl) (fun K hK => ?_)
        go_simp
        refine hK.out _ _ ?_
        clear hK K
        try simp only [Act.put, aGet, aSucc, aZero, aSet, aHead, aTail]
        refine till_done (by kernel_rfl) ?_ _
        clear f1 f2 hgl
        obtain ⟨wd, hwd⟩ : ∃ wd, wd = wr.drew := ⟨_, rfl⟩
        rw [← hwd] at HW ⊢
        clear hwd hHeld
        replace hx := hx.later HW
        replace hv := hv.later HW
        replace hown := hown.later HW
        replace hr5 := hr5.later HW
        replace x1 := (HW.cell (p := ⟨g, i * 2, none⟩) hg5).trans x1
        replace x2 := (HW.cell (p := ⟨g, i * 2 + 1, none⟩) hg5).trans x2
        replace HB := hide ((unhide HB).trans (HW.mono (Nat.le_trans hbg (Nat.le_of_lt hg5))))
        replace hg5 := Nat.lt_of_lt_of_le hg5 HW.size
        clear HW
        by_cases hA : q < p i
        · have hA' : (q : Int) < (p i : Int) := by omega
          have HNS := hide ((unhide HS).swap hlr rfl hA)
          obtain ⟨f1, f2, _, _⟩ := hx.facts
          have HW : Below wd.heap.size wd wd.drew := (Below.refl _ _).drew
          go_upto_region 7 with fail
          refine till_start (fun w' => w'.cell? ⟨gx, 0, none⟩ = some (.int .i64 (q : Int)) ∧ w'.cell? ⟨gx, 1, none⟩ = some (.slice av N cv) ∧ w'.cell? ⟨g, i * 2, none⟩ = some (.int .i64 (p i : Int)) ∧ w'.cell? ⟨g, i * 2 + 1, none⟩ = some (.slice a5 N c5)) 8 (by kernel_rfl) ?_ (fun hHeld => ?_)
          · exact ⟨(hx.later HW).facts.1, (hx.later HW).facts.2.1, (HW.cell (p := ⟨g, i * 2, none⟩) hg5).trans x1, (HW.cell (p := ⟨g, i * 2 + 1, none⟩) hg5).trans x2⟩
          refine till_tl (i := 0) [7, 8, 9] rfl ?_
          simp only [Act.put, aGet, aZero, aSet, aHead, aTail]
          refine till_tl (i := 1) [7, 8, 9] rfl ?_
          simp only [Act.put, aGet, aSucc, aZero, aSet, aHead, aTail]
          refine till_tl (i := 2) [7, 8, 9] rfl ?_
          simp only [Act.put, aGet, aSucc, aZero, aSet, aHead, aTail]
          refine till_tl (i := 3) [5, 6, 7, 8, 9] rfl ?_
          simp only [Act.put, aGet, aSucc, aZero, aSet, aHead, aTail]
          refine till_tl (i := 4) [5, 6, 7, 8, 9] rfl ?_
          simp only [Act.put, aGet, aSucc, aZero, aSet, aHead, aTail]
          refine till_tl (i := 5) [6, 7, 8, 9] rfl ?_
          simp only [Act.put, aGet, aSucc, aZero, aSet, aHead, aTail]
          refine till_tl (i := 6) [7, 8, 9] rfl ?_
          simp only [Act.put, aGet, aSucc, aZero, aSet, aHead, aTail]
          refine till_tl (i := 7) [8, 9] rfl ?_
          simp only [Act.put, aGet, aSucc, aZero, aSet, aHead, aTail]
          obtain ⟨q1, q2, q3, q4⟩ := (hx.later HW).facts
          obtain ⟨_, _, _, _, q5, q6, _⟩ := (hown.later HW).at hlt
          have q7 := (hown.later HW).free (i * 2)
          have q8 := (hown.later HW).free (i * 2 + 1)
          have hg9 := Nat.lt_of_lt_of_le hg5 HW.size
          have hgx9 := (hx.later HW).lt
          obtain ⟨r1, r2, r3, r4⟩ := hx.facts
          obtain ⟨_, _, _, _, r5, r6, _⟩ := hown.at hlt
          have r7 := hown.free (i * 2)
          have r8 := hown.free (i * 2 + 1)
          refine till_out (i := 8) (by kernel_rfl) rfl (by kernel_rfl) (fun K hK => ?_)
          go_simp
          refine hK.out _ _ ?_
          clear hK K
          try simp only [Act.put, aGet, aSucc, aZero, aSet, aHead, aTail]
          refine till_out (i := 9) (by kernel_rfl) rfl (by kernel_rfl) (fun K hK => ?_)
          go_simp
          refine hK.out _ _ ?_
          clear hK K
          try simp only [Act.put, aGet, aSucc, aZero, aSet, aHead, aTail]
          refine till_done (by kernel_rfl) ?_ _
          clear q1 q2 q3 q4 q5 q6 q7 q8 r1 r2 r3 r4 r5 r6 r7 r8 hg9 hgx9 hHeld f1 f2
          obtain ⟨w7, hw7⟩ : ∃ w7, w7 = wd := ⟨_, rfl⟩
          rw [← hw7] at hown hx hv hr5 HB ⊢
          clear hw7 HW x1 x2 hg5
          have hg1 := grown_set1 w7 g (i * 2) (.int .i64 (q : Int))
          have hg2 := grown_set1 (w7.setCell ⟨g, i * 2, none⟩ (.int .i64 (q : Int))) g (i * 2 + 1) (.slice av N cv)
          have hg3 := hg1.trans hg2
          have hos := hown.onlyStep
          have hS := (sown_up hown (show b + M ≤ b + (M + D) by omega)).setStep hlt (q := q) (vf_up hv (show M ≤ b + (M + D) by omega))
          have hx1 := hx.other hg3 (by simp; omega)
          have hr6 := vf_step hr5 hg3 hos
          obtain ⟨W1, hW1⟩ : ∃ W1, W1 = (w7.setCell ⟨g, i * 2, none⟩ (.int .i64 (q : Int))).setCell ⟨g, i * 2 + 1, none⟩ (.slice av N cv) := ⟨_, rfl⟩
          have hbe : Below base w W1 := by rw [hW1]; exact ((unhide HB).setCell (by simpa using hbg) _).setCell (by simpa using hbg) _
          rw [← hW1] at hS hx1 hr6 ⊢
          clear hW1 hg1 hg2 hg3 hos hown hx hv hr5
          have HBE := hide hbe
          clear hbe
          have hgr := grown_sput W1 gx (p i : Int) a5 N c5
          have hx2 := hx1.put (p i : Int) a5 N c5
          have hS2 := hS.other hgr hx1.onlyStep (Or.inr (by simp [Value.ownBlock]; omega))
          have hr7 := vf_step hr6 hgr hx1.onlyStep
          have hbz : Below base w (sput W1 gx (p i : Int) a5 N c5) := ((unhide HBE).setCell (by simpa using hbx) _).setCell (by simpa using hbx) _
          have hdr : Below (sput W1 gx (p i : Int) a5 N c5).heap.size (sput W1 gx (p i : Int) a5 N c5) (sput W1 gx (p i : Int) a5 N c5).drew := (Below.refl _ _).drew
          replace hx2 := hx2.later hdr
          replace hS2 := hS2.later hdr
          replace hr7 := hr7.later hdr
          replace hbz := hbz.drew
          unfold sput at hx2 hS2 hr7 hbz
          have HBZ := hide hbz
          clear hgr hx1 hS hr6 hdr hbz
          go_wp2
          go_roundw
          case rel => exact ⟨i + 1, _, _, _, _, _, _, by omega, by go_num, hx2, by rw [unhide HMS]; exact vf_up (vf_tight hr7 fun j _ => unhide HM i (Nat.le_refl _) hlt j) (by omega), by rw [unhide HMS]; exact hS2, unhide HNS, set_small (unhide HM) hlr, set_len_all (unhide HN) hlr (unhide HVL), unhide HBZ⟩
          case measure => simp [intOf]; omega
        · have hA' : decide ((q : Int) < (p i : Int)) = false := decide_eq_false (by omega)
          have hA'' : ¬ (q : Int) < (p i : Int) := by omega
          by_cases hE : q = p i
          · subst hE
            have hE' : ((p i : Int) == (p i : Int)) = true := by simp
            have HW : Below wd.heap.size wd wd.drew := (Below.refl _ _).drew
            go_upto_region 8 with fail
            refine till_start (fun w' => w'.cell? ⟨gx, 0, none⟩ = some (.int .i64 (p i : Int)) ∧ w'.cell? ⟨gx, 1, none⟩ = some (.slice av N cv) ∧ w'.cell? ⟨g, i * 2, none⟩ = some (.int .i64 (p i : Int)) ∧ w'.cell? ⟨g, i * 2 + 1, none⟩ = some (.slice a5 N c5)) 8 (by kernel_rfl) ?_ (fun hHeld => ?_)
            · exact ⟨(hx.later HW).facts.1, (hx.later HW).facts.2.1, (HW.cell (p := ⟨g, i * 2, none⟩) hg5).trans x1, (HW.cell (p := ⟨g, i * 2 + 1, none⟩) hg5).trans x2⟩
            refine till_tl (i := 0) [1, 7, 8] rfl ?_
            simp only [Act.put, aGet, aZero, aSet, aHead, aTail]
            refine till_tl (i := 1) [7, 8] rfl ?_
            simp only [Act.put, aGet, aSucc, aZero, aSet, aHead, aTail]
            refine till_tl (i := 2) [4, 5, 6, 7, 8] rfl ?_
            simp only [Act.put, aGet, aSucc, aZero, aSet, aHead, aTail]
            refine till_tl (i := 3) [4, 5, 6, 7, 8] rfl ?_
            simp only [Act.put, aGet, aSucc, aZero, aSet, aHead, aTail]
            refine till_tl (i := 4) [5, 6, 7, 8] rfl ?_
            simp only [Act.put, aGet, aSucc, aZero, aSet, aHead, aTail]
            refine till_tl (i := 5) [6, 7, 8] rfl ?_
            simp only [Act.put, aGet, aSucc, aZero, aSet, aHead, aTail]
            refine till_tl (i := 6) [7, 8] rfl ?_
            simp only [Act.put, aGet, aSucc, aZero, aSet, aHead, aTail]
            refine till_tl (i := 7) [8] rfl ?_
            simp only [Act.put, aGet, aSucc, aZero, aSet, aHead, aTail]
            refine till_out (i := 8) (by kernel_rfl) rfl (by kernel_rfl) (fun K hK => ?_)
            go_simp
            refine hK.out _ _ ?_
            clear hK K
            try simp only [Act.put, aGet, aSucc, aZero, aSet, aHead, aTail]
            refine till_done (by kernel_rfl) ?_ _
            obtain ⟨we, hwe⟩ : ∃ we, we = wd.drew := ⟨_, rfl⟩
            rw [← hwe] at HW ⊢
            clear hwe hHeld
            replace hx := hx.later HW
            replace hv := hv.later HW
            replace hown := hown.later HW
            replace hr5 := hr5.later HW
            replace x1 := (HW.cell (p := ⟨g, i * 2, none⟩) hg5).trans x1
            replace x2 := (HW.cell (p := ⟨g, i * 2 + 1, none⟩) hg5).trans x2
            replace HB := hide ((unhide HB).trans (HW.mono (Nat.le_trans hbg (Nat.le_of_lt hg5))))
            replace hg5 := Nat.lt_of_lt_of_le hg5 HW.size
            clear HW
            have HW : Below we.heap.size we we.drew := (Below.refl _ _).drew
            have HP1 := hide ((unhide HS).form.pos i hlr)
            have HP2 := HQP
            have HP3 := hide ((unhide HS).form.ahead i hlr)
            have HP4 := HQ0
            have hpN : p i < N := by
              have h1 := ((unhide HS).form.isPivot hlr).lt
              rw [unhide HN i hlt] at h1
              exact h1
            have hM8 := hMK2 hlt
            replace hr5 := vf_tight hr5 (k := b) fun j _ => unhide HM i (Nat.le_refl _) hlt j
            go_upto_region 9 with fail
            refine till_start (fun w' => w'.cell? ⟨g, i * 2 + 1, none⟩ = some (.slice a5 N c5) ∧ w'.cell? ⟨gx, 0, none⟩ = some (.int .i64 (p i : Int)) ∧ w'.cell? ⟨gx, 1, none⟩ = some (.slice av N cv)) 14 (by kernel_rfl) ?_ (fun hHeld => ?_)
            · exact ⟨(HW.cell (p := ⟨g, i * 2 + 1, none⟩) hg5).trans x2, (hx.later HW).facts.1, (hx.later HW).facts.2.1⟩
            refine till_tl (i := 0) [2, 3, 4, 9, 10, 11, 12, 13, 14] rfl ?_
            simp only [Act.put, aGet, aZero, aSet, aHead, aTail]
            refine till_tl (i := 1) [2, 3, 4, 9, 10, 11, 12, 13, 14] rfl ?_
            simp only [Act.put, aGet, aSucc, aZero, aSet, aHead, aTail]
            refine till_tl (i := 2) [3, 4, 9, 10, 11, 12, 13, 14] rfl ?_
            simp only [Act.put, aGet, aSucc, aZero, aSet, aHead, aTail]
            refine till_tl (i := 3) [4, 9, 10, 11, 12, 13, 14] rfl ?_
            simp only [Act.put, aGet, aSucc, aZero, aSet, aHead, aTail]
            refine till_tl (i := 4) [9, 10, 11, 12, 13, 14] rfl ?_
            simp only [Act.put, aGet, aSucc, aZero, aSet, aHead, aTail]
            refine till_tl (i := 5) [6, 9, 10, 11, 12, 13, 14] rfl ?_
            simp only [Act.put, aGet, aSucc, aZero, aSet, aHead, aTail]
            refine till_tl (i := 6) [9, 10, 11, 12, 13, 14] rfl ?_
            simp only [Act.put, aGet, aSucc, aZero, aSet, aHead, aTail]
            refine till_tl (i := 7) [8, 9, 10, 11, 12, 13, 14] rfl ?_
            simp only [Act.put, aGet, aSucc, aZero, aSet, aHead, aTail]
            refine till_tl (i := 8) [9, 10, 11, 12, 13, 14] rfl ?_
            simp only [Act.put, aGet, aSucc, aZero, aSet, aHead, aTail]
            refine till_in (i := 9) (by kernel_rfl) rfl (fun K hK => ?_)
            go_simp
            refine (joinedK _ N _ (rs.getD i []) b _ _ vs M (p i) _ (hr5.later HW) (hv.later HW) hpN (unhide HP1) (unhide HP2) (unhide HP3) (unhide HP4) (by omega) (by omega) hNl).mono ?_
            rintro e w9 ⟨a7, c7, a8, c8, first, rest, rfl, h7, h8, hj, hb9⟩
            have HJ := hide hj
            replace HW := Below.step HW hb9
            clear hb9 hj
            refine hK.out _ _ ?_ (fun hHeld => ?_)
            · exact ⟨(HW.cell (p := ⟨g, i * 2 + 1, none⟩) hg5).trans x2, (hx.later HW).facts.1, (hx.later HW).facts.2.1⟩
            clear hK K
            try simp only [Act.put, aGet, aSucc, aZero, aSet, aHead, aTail]
            refine till_tl (i := 10) [11, 12, 13, 14] rfl ?_
            simp only [Act.put, aGet, aSucc, aZero, aSet, aHead, aTail]
            refine till_tl (i := 11) [13, 14] rfl ?_
            simp only [Act.put, aGet, aSucc, aZero, aSet, aHead, aTail]
            refine till_tl (i := 12) [14] rfl ?_
            simp only [Act.put, aGet, aSucc, aZero, aSet, aHead, aTail]
            refine till_in (i := 13) (by kernel_rfl) rfl (fun K hK => ?_)
            go_simp
            refine hK.out _ _ ?_ (fun hHeld => ?_)
            · exact ⟨(HW.cell (p := ⟨g, i * 2 + 1, none⟩) hg5).trans x2, (hx.later HW).facts.1, (hx.later HW).facts.2.1⟩
            clear hK K
            try simp only [Act.put, aGet, aSucc, aZero, aSet, aHead, aTail]
            refine till_out (i := 14) (by kernel_rfl) rfl (by kernel_rfl) (fun K hK => ?_)
            go_simp
            refine hK.out _ _ ?_
            clear hK K
            try simp only [Act.put, aGet, aSucc, aZero, aSet, aHead, aTail]
            refine till_done (by kernel_rfl) ?_ _
            clear hHeld
            replace hown := hown.later HW
            replace hx := hx.later HW
            replace HB := hide ((unhide HB).trans (HW.mono (Nat.le_trans hbg (Nat.le_of_lt hg5))))
            have hg6 := Nat.lt_of_lt_of_le hg5 HW.size
            clear HW x1 x2 hv hr5 hg5
            obtain ⟨at2, hst2, hT⟩ := slice_tailS hown (show i + 1 ≤ n by omega)
            have hwr : IntKind.i64.wrap ((i : Int) + 1) = ((i + 1 : Nat) : Int) := by rw [show (i : Int) + 1 = ((i + 1 : Nat) : Int) by omega]; exact wrap_natS _ (by omega)
            obtain ⟨q, eq⟩ : ∃ q, q = i + 1 := ⟨_, rfl⟩
            rw [← eq] at hst2 hT hwr
            have HT := hide (hT.tight (k := b) fun t ht j => by rw [ent_drop]; exact unhide HM (q + t) (by omega) (by omega) j)
            have HF := hide ((unhide HS).form.drop q)
            have HND : Hid (∀ i, i < n - q → ((rs.drop q).getD i []).length = N) := hide fun i hi => by
              rw [show (rs.drop q).getD i [] = rs.getD (q + i) [] by simp [List.getD]]
              exact unhide HN _ (by omega)
            have hkm : M + b + 1 + (n - q) * (b + 1) ≤ M + D := by
              have h1 : (n - q + 1) * (b + 1) ≤ n * (b + 1) := Nat.mul_le_mul_right _ (by omega)
              rw [Nat.add_mul, Nat.one_mul, ← unhide ED] at h1
              omega
            have EQ := hide eq
            have hq0 : (0 : Int) ≤ (q : Int) := by omega
            have hq1 : (q : Int) ≤ (n : Int) := by omega
            clear hT eq
            obtain ⟨KL, eKL⟩ : ∃ KL, KL = M + b + 1 + (n - q) * (b + 1) := ⟨_, rfl⟩
            have EKL := hide eKL
            have hkl : KL ≤ M + D := by omega
            clear hkm
            go_wp2_with fail
            refine (loweredK _ N _ rest (M + b + 1) _ (n - q) _ (fun t => p (q + t)) (rs.drop q) b _ (h8.vk (by omega)) (unhide HT) (unhide HF) (unhide HND) (by rw [← eKL]; omega) (by omega) hNl).mono ?_
            rintro e w10 ⟨a9, c9, us, rfl, h9, _, hin, _, hb9⟩
            rw [← unhide EKL] at h9
            have HIN := hide hin
            replace hown := hown.later hb9
            replace hx := hx.later hb9
            replace h7 := h7.later hb9
            replace HB := hide ((unhide HB).trans (hb9.mono (Nat.le_trans hbg (Nat.le_of_lt hg6))))
            have hg7 := Nat.lt_of_lt_of_le hg6 hb9.size
            clear hb9 h8 hin HT hst2 hwr eKL
            go_wp2_with fail
            refine (stepOfK a9 N c9 us KL _ h9 (by omega) (by omega)).mono ?_
            rintro e w11 ⟨z2, a10, c10, rfl, hpz, h10, hb9⟩
            have HNS := hide ((unhide HS).join hlr rfl (unhide HJ) (by rw [← unhide EQ]; exact unhide HIN) hpz)
            replace hown := hown.later hb9
            replace hx := hx.later hb9
            replace h7 := h7.later hb9
            replace HB := hide ((unhide HB).trans (hb9.mono (Nat.le_trans hbg (Nat.le_of_lt hg7))))
            clear hb9 h9 hpz HJ HIN
            have HFL := hide h7.len_eq
            obtain ⟨q1, q2, q3, q4⟩ := hx.facts
            obtain ⟨_, _, _, _, q5, q6, _⟩ := hown.at hlt
            have q7 := hown.free (i * 2)
            have q8 := hown.free (i * 2 + 1)
            have hg8 := hown.base_le
            have hgx9 := hx.lt
            go_wp2
            clear q1 q2 q3 q4 q5 q6 q7 q8 hgx9 hg8
            have hg1 := grown_set1 w11 g (i * 2 + 1) (.slice a7 N c7)
            have hos := hown.onlyStep
            have hS := (sown_up hown (show b + M ≤ b + (M + D) by omega)).setRow hlt (vf_up h7 (show M + b + 1 ≤ b + (M + D) by omega))
            have hx1 := hx.other hg1 (by simp; omega)
            have hr6 := vf_step h10 hg1 hos
            obtain ⟨W1, hW1⟩ : ∃ W1, W1 = w11.setCell ⟨g, i * 2 + 1, none⟩ (.slice a7 N c7) := ⟨_, rfl⟩
            have hbe : Below base w W1 := by rw [hW1]; exact (unhide HB).setCell (by simpa using hbg) _
            rw [← hW1] at hS hx1 hr6 ⊢
            clear hW1 hg1 hos hown hx h7 h10
            have HBE := hide hbe
            clear hbe
            have hgr := grown_sput W1 gx z2 a10 N c10
            have hx2 := hx1.put z2 a10 N c10
            have hS2 := hS.other hgr hx1.onlyStep (Or.inr (by simp [Value.ownBlock]; omega))
            have hr7 := vf_step hr6 hgr hx1.onlyStep
            unfold sput at hx2 hS2 hr7
            clear hgr hx1 hS hr6
            go_roundw
            case rel => exact ⟨i + 1, _, _, _, _, _, _, by omega, by go_num, hx2, by rw [unhide HMS]; exact vf_up hr7 hkl, by rw [unhide HMS]; exact hS2, unhide HNS, set_small (unhide HM) hlr, set_len_all (unhide HN) hlr (unhide HFL), ((unhide HBE).setCell (by simpa using hbx) _).setCell (by simpa using hbx) _⟩
            case measure => simp [intOf]; omega
          · have hE' : ((q : Int) == (p i : Int)) = false := by simp; omega
            have hE'' : ¬ (q : Int) = (p i : Int) := by omega
            have HNS := hide ((unhide HS).pass (show (p i : Int) < (q : Int) by omega))
            have HW : Below wd.heap.size wd wd.drew := (Below.refl _ _).drew
            go_upto_region 8 with fail
            refine till_start (fun w' => w'.cell? ⟨gx, 0, none⟩ = some (.int .i64 (q : Int)) ∧ w'.cell? ⟨gx, 1, none⟩ = some (.slice av N cv) ∧ w'.cell? ⟨g, i * 2, none⟩ = some (.int .i64 (p i : Int)) ∧ w'.cell? ⟨g, i * 2 + 1, none⟩ = some (.slice a5 N c5)) 8 (by kernel_rfl) ?_ (fun hHeld => ?_)
            · exact ⟨(hx.later HW).facts.1, (hx.later HW).facts.2.1, (HW.cell (p := ⟨g, i * 2, none⟩) hg5).trans x1, (HW.cell (p := ⟨g, i * 2 + 1, none⟩) hg5).trans x2⟩
            refine till_tl (i := 0) [1, 7, 8] rfl ?_
            simp only [Act.put, aGet, aZero, aSet, aHead, aTail]
            refine till_tl (i := 1) [7, 8] rfl ?_
            simp only [Act.put, aGet, aSucc, aZero, aSet, aHead, aTail]
            refine till_tl (i := 2) [4, 5, 6, 7, 8] rfl ?_
            simp only [Act.put, aGet, aSucc, aZero, aSet, aHead, aTail]
            refine till_tl (i := 3) [4, 5, 6, 7, 8] rfl ?_
            simp only [Act.put, aGet, aSucc, aZero, aSet, aHead, aTail]
            refine till_tl (i := 4) [5, 6, 7, 8] rfl ?_
            simp only [Act.put, aGet, aSucc, aZero, aSet, aHead, aTail]
            refine till_tl (i := 5) [6, 7, 8] rfl ?_
            simp only [Act.put, aGet, aSucc, aZero, aSet, aHead, aTail]
            refine till_tl (i := 6) [7, 8] rfl ?_
            simp only [Act.put, aGet, aSucc, aZero, aSet, aHead, aTail]
            refine till_tl (i := 7) [8] rfl ?_
            simp only [Act.put, aGet, aSucc, aZero, aSet, aHead, aTail]
            refine till_out (i := 8) (by kernel_rfl) rfl (by kernel_rfl) (fun K hK => ?_)
            go_simp
            refine hK.out _ _ ?_
            clear hK K
            try simp only [Act.put, aGet, aSucc, aZero, aSet, aHead, aTail]
            refine till_done (by kernel_rfl) ?_ _
            obtain ⟨we, hwe⟩ : ∃ we, we = wd.drew := ⟨_, rfl⟩
            rw [← hwe] at HW ⊢
            clear hwe hHeld
            replace hx := hx.later HW
            replace hv := hv.later HW
            replace hown := hown.later HW
            replace hr5 := hr5.later HW
            replace x1 := (HW.cell (p := ⟨g, i * 2, none⟩) hg5).trans x1
            replace x2 := (HW.cell (p := ⟨g, i * 2 + 1, none⟩) hg5).trans x2
            replace HB := hide ((unhide HB).trans (HW.mono (Nat.le_trans hbg (Nat.le_of_lt hg5))))
            replace hg5 := Nat.lt_of_lt_of_le hg5 HW.size
            clear HW
            go_wp2
            go_roundw
            case rel => exact ⟨i + 1, _, _, _, _, _, _, by omega, by go_num, hx, by rw [unhide HMS]; exact vf_up hv (by omega), by rw [unhide HMS]; exact sown_up hown (by omega), unhide HNS, fun t h1 h2 => unhide HM t (by omega) h2, unhide HN, unhide HB⟩
            case measure => simp [intOf]; omega
      · have hin : i = n := by omega
        subst hin
        obtain ⟨f1, f2, _, _⟩ := hx.facts
        have hgl := hx.lt
        have hsn := (unhide HS)
        rw [← unhide HRL] at hsn
        have HSF := hide hsn.snoc
        have HSS := hide (unhide HS).same
        have hbase : base ≤ wr.heap.size := Nat.le_of_lt (Nat.lt_of_le_of_lt hbx hgl)
        have hb9 : Below wr.heap.size wr (wr.alloc (.cells #[.int .i64 (q : Int), .slice av N cv] 79)) := below_new _ _
        have hownA := (sown_up hown (show b + M ≤ b + (k + (i + 1) * D) by omega)).later hb9
        have hvA := vf_up (hv.later hb9) (show M ≤ b + (k + (i + 1) * D) by omega)
        obtain ⟨g1, g2, _, _⟩ := (sbox_new wr (q : Int) av N cv rfl).facts
        have hbA := Nat.le_trans hbase hb9.size
        have HVL := hide hv.len_eq
        have HBA := hide ((unhide HB).trans (hb9.mono hbase))
        clear hb9 hsn hown hv hbase
        go_wp2_with (at_builtin; (refine append_step rfl (.tmp 78) (.tmp 80) 76 Tryz.underlying76 rfl base _ i ch (b + (k + (i + 1) * D)) p rs rfl hownA wr.heap.size q av N cv vs rfl g1 g2 hvA (by omega) hbA ?_))
        intro an cn w7 hown2 hgr7
        have HD := hide ((unhide HBA).grown hgr7 hbA hownA.ge)
        clear hgr7 hownA hvA g1 g2 f1 f2
        go_wp2
        try rw [Exit.noGoto_ret]
        go_ret
        refine ⟨_, _, _, _, _, rfl, hown2, ?_, unhide HSS, add_len_all (unhide HN) (unhide HRL) (unhide HVL), Nat.le_refl _, unhide HD⟩
        have := unhide HSF
        rw [unhide HRL] at this
        exact this

#print axioms laidK
end Go.Proofs.YtjebmlogchoehaaGreat
