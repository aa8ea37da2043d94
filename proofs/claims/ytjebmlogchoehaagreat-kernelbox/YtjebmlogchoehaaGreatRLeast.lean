/-
  What least of the reference tells.
-/
import Derived.Test.YtjebmlogchoehaaGreatLHBase
import Derived.Test.YtjebmlogchoehaaGreatJE
import Derived.Deep.CutRange
namespace Go.Proofs.YtjebmlogchoehaaGreat
open Go.RowKit Lb
set_option maxRecDepth 20000

/-- The row from d on, ahead of e, whose number at the place is nearest to 0, but not 0; -1: there is none. -/
def LeastIn (l : List (List Int)) (d c e : Nat) (z : Int) : Prop := (z = -1 ∧ ∀ i, d ≤ i → i < e → ent l i c = 0) ∨ ∃ p : Nat, z = (p : Int) ∧ d ≤ p ∧ p < e ∧ ent l p c ≠ 0 ∧ ∀ i, d ≤ i → i < e → ent l i c ≠ 0 → (ent l p c).natAbs ≤ (ent l i c).natAbs
theorem leastIn_start (l : List (List Int)) (d c : Nat) : LeastIn l d c d (-1) := Or.inl ⟨rfl, fun i h1 h2 => absurd h1 (by omega)⟩
theorem LeastIn.skip {l : List (List Int)} {d c e : Nat} {z : Int} (h : LeastIn l d c e z) (h0 : ent l e c = 0) : LeastIn l d c (e + 1) z := by
  rcases h with ⟨e1, h⟩ | ⟨p, e1, h1, h2, h3, h4⟩
  · refine Or.inl ⟨e1, fun i hi1 hi2 => ?_⟩
    by_cases f : i = e
    · rw [f]; exact h0
    · exact h i hi1 (by omega)
  · refine Or.inr ⟨p, e1, h1, by omega, h3, fun i hi1 hi2 hi3 => ?_⟩
    by_cases f : i = e
    · rw [f] at hi3; exact absurd h0 hi3
    · exact h4 i hi1 (by omega) hi3
theorem LeastIn.first {l : List (List Int)} {d c e : Nat} {z : Int} (h : LeastIn l d c e z) (hz : z < 0) (hde : d ≤ e) (h0 : ent l e c ≠ 0) : LeastIn l d c (e + 1) (e : Int) := by
  rcases h with ⟨e1, h⟩ | ⟨p, e1, h1, h2, h3, h4⟩
  · refine Or.inr ⟨e, rfl, hde, by omega, h0, fun i hi1 hi2 hi3 => ?_⟩
    by_cases f : i = e
    · rw [f]; exact Nat.le_refl _
    · exact absurd (h i hi1 (by omega)) hi3
  · omega
theorem LeastIn.less {l : List (List Int)} {d c e p : Nat} (h : LeastIn l d c e (p : Int)) (hde : d ≤ e) (h0 : ent l e c ≠ 0) (hl : (ent l e c).natAbs < (ent l p c).natAbs) : LeastIn l d c (e + 1) (e : Int) := by
  rcases h with ⟨e1, h⟩ | ⟨p', e1, h1, h2, h3, h4⟩
  · omega
  · obtain rfl : p = p' := by omega
    refine Or.inr ⟨e, rfl, hde, by omega, h0, fun i hi1 hi2 hi3 => ?_⟩
    by_cases f : i = e
    · rw [f]; exact Nat.le_refl _
    · have := h4 i hi1 (by omega) hi3; omega
theorem LeastIn.keep {l : List (List Int)} {d c e p : Nat} (h : LeastIn l d c e (p : Int)) (hl : (ent l p c).natAbs ≤ (ent l e c).natAbs) : LeastIn l d c (e + 1) (p : Int) := by
  rcases h with ⟨e1, h⟩ | ⟨p', e1, h1, h2, h3, h4⟩
  · omega
  · obtain rfl : p = p' := by omega
    refine Or.inr ⟨p, rfl, h1, by omega, h3, fun i hi1 hi2 hi3 => ?_⟩
    by_cases f : i = e
    · rw [f]; exact hl
    · exact h4 i hi1 (by omega) hi3
set_option maxRecDepth 40000 in
set_option maxHeartbeats 4000000 in
theorem leastK (ao : Option Addr) (n cap : Nat) (l : List (List Int)) (k N d c : Nat) (w : World) (h : MK w ao n cap l k) (hN : ∀ i, i < n → (l.getD i []).length = N) (hc : c < N) (hd : d ≤ n) (hn : n ≤ 1000) (hk : k ≤ 900000) :
    Calls Tryz.prog 37 #[.slice ao n cap, .int .i64 (d : Int), .int .i64 (c : Int)] w fun e w' => ∃ z, e = .returned (.int .i64 z) ∧ LeastIn l d c n z ∧ Below w.heap.size w w' := by
  have HN := hide hN
  clear hN
  go_enter Tryz.func37, Tryz.ntmps37
  go_wp2_with fail
  go_loopw [7, 8] (fun s t wr => ∃ (i : Nat) (z : Int), d ≤ i ∧ i ≤ n ∧ t = .int .i64 (i : Int) ∧ s = .int .i64 z ∧ LeastIn l d c i z ∧ Below w.heap.size w wr) (fun _ t _ => n - (intOf t).toNat)
  case atStart => exact ⟨d, -1, Nat.le_refl _, hd, rfl, rfl, leastIn_start _ _ _, Below.refl _ _⟩
  case round =>
    obtain ⟨i, z, hdi, hi, rfl, rfl, hL, hB⟩ := hrel
    have HL := hide hL
    have HB := hide hB
    clear hL hB
    by_cases hlt : i < n
    · obtain ⟨g, off, rfl⟩ := h.addr (by omega)
      obtain ⟨hg, a5, l5, c5, hc5, hv5⟩ := RowsOf.at (R := fun w a l c zs => VK w a l c zs k) h hlt
      have hl5 : N = l5 := by rw [← hv5.len_eq]; exact (unhide HN i hlt).symm
      subst hl5
      obtain ⟨g5, o5, rfl⟩ := hv5.some (by omega)
      obtain ⟨b7, a7, l7, c7, E7, y7⟩ := (hv5.later (unhide HB)).at hc
      have x5 := ((unhide HB).cell (p := ⟨g, off + i, none⟩) hg).trans hc5
      have hgr := Nat.lt_of_lt_of_le hg (unhide HB).size
      have hk9 : k ≤ 999990 := by omega
      obtain ⟨x, ex⟩ : ∃ x, x = (l.getD i []).getD c 0 := ⟨_, rfl⟩
      rw [← ex] at y7
      have EX := hide (show ent l i c = x from ex.symm)
      obtain ⟨s, es⟩ : ∃ s, s = x.sign := ⟨_, rfl⟩
      have ES := hide es
      have hi0 : (0 : Int) ≤ (i : Int) := by omega
      have hi1 : (i : Int) < (n : Int) := by omega
      have hp2 : (c : Int) < (N : Int) := by omega
      have hp0 : (0 : Int) ≤ (c : Int) := by omega
      clear hc5 ex hv5
      go_upto_region 5 with fail
      have HW : Below wr.heap.size wr wr.drew := (Below.refl _ _).drew
      by_cases h0 : x = 0
      · have hs : (s != 0) = false := by rw [es, h0]; rfl
        have HL2 := hide ((unhide HL).skip (by rw [unhide EX]; exact h0))
        clear es
        refine till_start (fun w' => w'.cell? ⟨g, off + i, none⟩ = some (.slice (some ⟨g5, o5, none⟩) N c5) ∧ w'.cell? ⟨g5, o5 + c * 2, none⟩ = some (.bool b7) ∧ w'.cell? ⟨g5, o5 + c * 2 + 1, none⟩ = some (.slice a7 l7 c7)) 32 (by kernel_rfl) ?_ (fun hHeld => ?_)
        · exact ⟨(HW.cell (p := ⟨g, off + i, none⟩) hgr).trans x5, (E7.later HW).facts.1, (E7.later HW).facts.2⟩
        refine till_tl (i := 0) [2, 3, 5, 6, 7, 8, 9, 10, 11, 12, 13, 14, 15, 16, 17, 18, 19, 20, 21, 22, 23, 24, 25, 26, 27, 28, 29, 30, 31, 32] rfl ?_
        simp only [Act.put, aGet, aZero, aSet, aHead, aTail]
        refine till_tl (i := 1) [2, 3, 5, 6, 7, 8, 9, 10, 11, 12, 13, 14, 15, 16, 17, 18, 19, 20, 21, 22, 23, 24, 25, 26, 27, 28, 29, 30, 31, 32] rfl ?_
        simp only [Act.put, aGet, aSucc, aZero, aSet, aHead, aTail]
        refine till_tl (i := 2) [3, 5, 6, 7, 8, 9, 10, 11, 12, 13, 14, 15, 16, 17, 18, 19, 20, 21, 22, 23, 24, 25, 26, 27, 28, 29, 30, 31, 32] rfl ?_
        simp only [Act.put, aGet, aSucc, aZero, aSet, aHead, aTail]
        refine till_tl (i := 3) [5, 6, 7, 8, 9, 10, 11, 12, 13, 14, 15, 16, 17, 18, 19, 20, 21, 22, 23, 24, 25, 26, 27, 28, 29, 30, 31, 32] rfl ?_
        simp only [Act.put, aGet, aSucc, aZero, aSet, aHead, aTail]
        refine till_tl (i := 4) [5, 6, 7, 8, 9, 10, 11, 12, 13, 14, 15, 16, 17, 18, 19, 20, 21, 22, 23, 24, 25, 26, 27, 28, 29, 30, 31, 32] rfl ?_
        simp only [Act.put, aGet, aSucc, aZero, aSet, aHead, aTail]
        refine till_tl (i := 5) [6, 7, 8, 9, 10, 11, 12, 13, 14, 15, 16, 17, 18, 19, 20, 21, 22, 23, 24, 25, 26, 27, 28, 29, 30, 31, 32] rfl ?_
        simp only [Act.put, aGet, aSucc, aZero, aSet, aHead, aTail]
        refine till_tl (i := 6) [7, 8, 9, 10, 11, 12, 13, 14, 15, 16, 17, 18, 19, 20, 21, 22, 23, 24, 25, 26, 27, 28, 29, 30, 31, 32] rfl ?_
        simp only [Act.put, aGet, aSucc, aZero, aSet, aHead, aTail]
        refine till_in (i := 7) (by kernel_rfl) rfl (fun K hK => ?_)
        go_simp
        refine (rsignK b7 a7 l7 c7 x k s _ (y7.later HW) (unhide ES)).mono ?_
        rintro e w9 ⟨rfl, hb9⟩
        replace HW := Below.step HW hb9
        clear hb9
        refine hK.out _ _ ?_ (fun hHeld => ?_)
        · exact ⟨(HW.cell (p := ⟨g, off + i, none⟩) hgr).trans x5, (E7.later HW).facts.1, (E7.later HW).facts.2⟩
        clear hK K
        try simp only [Act.put, aGet, aSucc, aZero, aSet, aHead, aTail]
        refine till_tl (i := 8) [9, 10, 11, 12, 13, 14, 15, 16, 17, 18, 19, 20, 21, 22, 23, 24, 25, 26, 27, 28, 29, 30, 31, 32] rfl ?_
        simp only [Act.put, aGet, aSucc, aZero, aSet, aHead, aTail]
        refine till_tl (i := 9) [10, 11, 12, 13, 14, 15, 16, 17, 18, 19, 20, 21, 22, 23, 24, 25, 26, 27, 28, 29, 30, 31, 32] rfl ?_
        simp only [Act.put, aGet, aSucc, aZero, aSet, aHead, aTail]
        refine till_tu (i := 10) [11, 12, 13, 14, 15, 16, 17, 18, 19, 20, 21, 22, 23, 24, 25, 26, 27, 28, 29, 30, 31, 32] rfl ?_
        simp only [Act.put, aGet, aSucc, aZero, aSet, aHead, aTail]
        refine till_tu (i := 11) [12, 13, 14, 15, 16, 17, 18, 19, 20, 21, 22, 23, 24, 25, 26, 27, 28, 29, 30, 31, 32] rfl ?_
        simp only [Act.put, aGet, aSucc, aZero, aSet, aHead, aTail]
        refine till_tu (i := 12) [13, 14, 15, 16, 17, 18, 19, 20, 21, 22, 23, 24, 25, 26, 27, 28, 29, 30, 31, 32] rfl ?_
        simp only [Act.put, aGet, aSucc, aZero, aSet, aHead, aTail]
        refine till_tu (i := 13) [15, 16, 18, 19, 20, 28, 29, 30, 31, 32] rfl ?_
        simp only [Act.put, aGet, aSucc, aZero, aSet, aHead, aTail]
        refine till_tu (i := 14) [15, 16, 18, 19, 20, 28, 29, 30, 31, 32] rfl ?_
        simp only [Act.put, aGet, aSucc, aZero, aSet, aHead, aTail]
        refine till_tu (i := 15) [16, 18, 19, 20, 28, 29, 30, 31, 32] rfl ?_
        simp only [Act.put, aGet, aSucc, aZero, aSet, aHead, aTail]
        refine till_tu (i := 16) [18, 19, 20, 28, 29, 30, 31, 32] rfl ?_
        simp only [Act.put, aGet, aSucc, aZero, aSet, aHead, aTail]
        refine till_tu (i := 17) [18, 19, 20, 28, 29, 30, 31, 32] rfl ?_
        simp only [Act.put, aGet, aSucc, aZero, aSet, aHead, aTail]
        refine till_tu (i := 18) [19, 20, 28, 29, 30, 31, 32] rfl ?_
        simp only [Act.put, aGet, aSucc, aZero, aSet, aHead, aTail]
        refine till_tu (i := 19) [20, 28, 29, 30, 31, 32] rfl ?_
        simp only [Act.put, aGet, aSucc, aZero, aSet, aHead, aTail]
        refine till_tu (i := 21) [23, 24, 26, 27, 28, 29, 30, 31, 32] rfl ?_
        simp only [Act.put, aGet, aSucc, aZero, aSet, aHead, aTail]
        refine till_tu (i := 22) [23, 24, 26, 27, 28, 29, 30, 31, 32] rfl ?_
        simp only [Act.put, aGet, aSucc, aZero, aSet, aHead, aTail]
        refine till_tu (i := 23) [24, 26, 27, 28, 29, 30, 31, 32] rfl ?_
        simp only [Act.put, aGet, aSucc, aZero, aSet, aHead, aTail]
        refine till_tu (i := 24) [26, 27, 28, 29, 30, 31, 32] rfl ?_
        simp only [Act.put, aGet, aSucc, aZero, aSet, aHead, aTail]
        refine till_tu (i := 25) [26, 27, 28, 29, 30, 31, 32] rfl ?_
        simp only [Act.put, aGet, aSucc, aZero, aSet, aHead, aTail]
        refine till_tu (i := 26) [27, 28, 29, 30, 31, 32] rfl ?_
        simp only [Act.put, aGet, aSucc, aZero, aSet, aHead, aTail]
        refine till_tu (i := 27) [28, 29, 30, 31, 32] rfl ?_
        simp only [Act.put, aGet, aSucc, aZero, aSet, aHead, aTail]
        refine till_in (i := 20) (by kernel_rfl) rfl (fun K hK => ?_)
        go_simp
        refine hK.out _ _ ?_ (fun hHeld => ?_)
        · exact ⟨(HW.cell (p := ⟨g, off + i, none⟩) hgr).trans x5, (E7.later HW).facts.1, (E7.later HW).facts.2⟩
        clear hK K
        try simp only [Act.put, aGet, aSucc, aZero, aSet, aHead, aTail]
        refine till_in (i := 28) (by kernel_rfl) rfl (fun K hK => ?_)
        go_simp
        refine hK.out _ _ ?_ (fun hHeld => ?_)
        · exact ⟨(HW.cell (p := ⟨g, off + i, none⟩) hgr).trans x5, (E7.later HW).facts.1, (E7.later HW).facts.2⟩
        clear hK K
        try simp only [Act.put, aGet, aSucc, aZero, aSet, aHead, aTail]
        refine till_in (i := 29) (by kernel_rfl) rfl (fun K hK => ?_)
        go_simp
        refine hK.out _ _ ?_ (fun hHeld => ?_)
        · exact ⟨(HW.cell (p := ⟨g, off + i, none⟩) hgr).trans x5, (E7.later HW).facts.1, (E7.later HW).facts.2⟩
        clear hK K
        try simp only [Act.put, aGet, aSucc, aZero, aSet, aHead, aTail]
        refine till_tu (i := 30) [31, 32] rfl ?_
        simp only [Act.put, aGet, aSucc, aZero, aSet, aHead, aTail]
        refine till_tu (i := 31) [32] rfl ?_
        simp only [Act.put, aGet, aSucc, aZero, aSet, aHead, aTail]
        refine till_out (i := 32) (by kernel_rfl) rfl (by kernel_rfl) (fun K hK => ?_)
        go_simp
        refine hK.out _ _ ?_
        clear hK K
        try simp only [Act.put, aGet, aSucc, aZero, aSet, aHead, aTail]
        refine till_done (by kernel_rfl) ?_ _
        clear hHeld x5 E7 y7
        replace HB := hide (Below.step (unhide HB) HW)
        clear HW hgr
        go_wp2
        go_roundw
        case rel => exact ⟨i + 1, z, by omega, by omega, by go_num, rfl, unhide HL2, unhide HB⟩
        case measure => simp [intOf]; omega
      · have hs : (s != 0) = true := by
          rw [bne_iff_ne, es]
          exact fun e => h0 (Int.sign_eq_zero_iff_zero.1 e)
        clear es
        by_cases hz : z < 0
        · have hzq : decide (z < 0) = true := decide_eq_true hz
          have HL2 := hide ((unhide HL).first hz hdi (by rw [unhide EX]; exact h0))
          refine till_start (fun w' => w'.cell? ⟨g, off + i, none⟩ = some (.slice (some ⟨g5, o5, none⟩) N c5) ∧ w'.cell? ⟨g5, o5 + c * 2, none⟩ = some (.bool b7) ∧ w'.cell? ⟨g5, o5 + c * 2 + 1, none⟩ = some (.slice a7 l7 c7)) 32 (by kernel_rfl) ?_ (fun hHeld => ?_)
          · exact ⟨(HW.cell (p := ⟨g, off + i, none⟩) hgr).trans x5, (E7.later HW).facts.1, (E7.later HW).facts.2⟩
          refine till_tl (i := 0) [2, 3, 5, 6, 7, 8, 9, 10, 11, 12, 13, 14, 15, 16, 17, 18, 19, 20, 21, 22, 23, 24, 25, 26, 27, 28, 29, 30, 31, 32] rfl ?_
          simp only [Act.put, aGet, aZero, aSet, aHead, aTail]
          refine till_tl (i := 1) [2, 3, 5, 6, 7, 8, 9, 10, 11, 12, 13, 14, 15, 16, 17, 18, 19, 20, 21, 22, 23, 24, 25, 26, 27, 28, 29, 30, 31, 32] rfl ?_
          simp only [Act.put, aGet, aSucc, aZero, aSet, aHead, aTail]
          refine till_tl (i := 2) [3, 5, 6, 7, 8, 9, 10, 11, 12, 13, 14, 15, 16, 17, 18, 19, 20, 21, 22, 23, 24, 25, 26, 27, 28, 29, 30, 31, 32] rfl ?_
          simp only [Act.put, aGet, aSucc, aZero, aSet, aHead, aTail]
          refine till_tl (i := 3) [5, 6, 7, 8, 9, 10, 11, 12, 13, 14, 15, 16, 17, 18, 19, 20, 21, 22, 23, 24, 25, 26, 27, 28, 29, 30, 31, 32] rfl ?_
          simp only [Act.put, aGet, aSucc, aZero, aSet, aHead, aTail]
          refine till_tl (i := 4) [5, 6, 7, 8, 9, 10, 11, 12, 13, 14, 15, 16, 17, 18, 19, 20, 21, 22, 23, 24, 25, 26, 27, 28, 29, 30, 31, 32] rfl ?_
          simp only [Act.put, aGet, aSucc, aZero, aSet, aHead, aTail]
          refine till_tl (i := 5) [6, 7, 8, 9, 10, 11, 12, 13, 14, 15, 16, 17, 18, 19, 20, 21, 22, 23, 24, 25, 26, 27, 28, 29, 30, 31, 32] rfl ?_
          simp only [Act.put, aGet, aSucc, aZero, aSet, aHead, aTail]
          refine till_tl (i := 6) [7, 8, 9, 10, 11, 12, 13, 14, 15, 16, 17, 18, 19, 20, 21, 22, 23, 24, 25, 26, 27, 28, 29, 30, 31, 32] rfl ?_
          simp only [Act.put, aGet, aSucc, aZero, aSet, aHead, aTail]
          refine till_in (i := 7) (by kernel_rfl) rfl (fun K hK => ?_)
          go_simp
          refine (rsignK b7 a7 l7 c7 x k s _ (y7.later HW) (unhide ES)).mono ?_
          rintro e w9 ⟨rfl, hb9⟩
          replace HW := Below.step HW hb9
          clear hb9
          refine hK.out _ _ ?_ (fun hHeld => ?_)
          · exact ⟨(HW.cell (p := ⟨g, off + i, none⟩) hgr).trans x5, (E7.later HW).facts.1, (E7.later HW).facts.2⟩
          clear hK K
          try simp only [Act.put, aGet, aSucc, aZero, aSet, aHead, aTail]
          refine till_tl (i := 8) [9, 10, 11, 12, 13, 14, 15, 16, 17, 18, 19, 20, 21, 22, 23, 24, 25, 26, 27, 28, 29, 30, 31, 32] rfl ?_
          simp only [Act.put, aGet, aSucc, aZero, aSet, aHead, aTail]
          refine till_tl (i := 9) [10, 11, 12, 13, 14, 15, 16, 17, 18, 19, 20, 21, 22, 23, 24, 25, 26, 27, 28, 29, 30, 31, 32] rfl ?_
          simp only [Act.put, aGet, aSucc, aZero, aSet, aHead, aTail]
          refine till_tl (i := 10) [11, 12, 13, 14, 15, 16, 17, 18, 19, 20, 21, 22, 23, 24, 25, 26, 27, 28, 29, 30, 31, 32] rfl ?_
          simp only [Act.put, aGet, aSucc, aZero, aSet, aHead, aTail]
          refine till_tl (i := 11) [12, 13, 14, 15, 16, 17, 18, 19, 20, 21, 22, 23, 24, 25, 26, 27, 28, 29, 30, 31, 32] rfl ?_
          simp only [Act.put, aGet, aSucc, aZero, aSet, aHead, aTail]
          refine till_tl (i := 12) [13, 14, 15, 16, 17, 18, 19, 20, 21, 22, 23, 24, 25, 26, 27, 28, 29, 30, 31, 32] rfl ?_
          simp only [Act.put, aGet, aSucc, aZero, aSet, aHead, aTail]
          refine till_tu (i := 13) [15, 16, 18, 19, 20, 28, 29, 30, 31, 32] rfl ?_
          simp only [Act.put, aGet, aSucc, aZero, aSet, aHead, aTail]
          refine till_tu (i := 14) [15, 16, 18, 19, 20, 28, 29, 30, 31, 32] rfl ?_
          simp only [Act.put, aGet, aSucc, aZero, aSet, aHead, aTail]
          refine till_tu (i := 15) [16, 18, 19, 20, 28, 29, 30, 31, 32] rfl ?_
          simp only [Act.put, aGet, aSucc, aZero, aSet, aHead, aTail]
          refine till_tu (i := 16) [18, 19, 20, 28, 29, 30, 31, 32] rfl ?_
          simp only [Act.put, aGet, aSucc, aZero, aSet, aHead, aTail]
          refine till_tu (i := 17) [18, 19, 20, 28, 29, 30, 31, 32] rfl ?_
          simp only [Act.put, aGet, aSucc, aZero, aSet, aHead, aTail]
          refine till_tu (i := 18) [19, 20, 28, 29, 30, 31, 32] rfl ?_
          simp only [Act.put, aGet, aSucc, aZero, aSet, aHead, aTail]
          refine till_tu (i := 19) [20, 28, 29, 30, 31, 32] rfl ?_
          simp only [Act.put, aGet, aSucc, aZero, aSet, aHead, aTail]
          refine till_tu (i := 21) [23, 24, 26, 27, 28, 29, 30, 31, 32] rfl ?_
          simp only [Act.put, aGet, aSucc, aZero, aSet, aHead, aTail]
          refine till_tu (i := 22) [23, 24, 26, 27, 28, 29, 30, 31, 32] rfl ?_
          simp only [Act.put, aGet, aSucc, aZero, aSet, aHead, aTail]
          refine till_tu (i := 23) [24, 26, 27, 28, 29, 30, 31, 32] rfl ?_
          simp only [Act.put, aGet, aSucc, aZero, aSet, aHead, aTail]
          refine till_tu (i := 24) [26, 27, 28, 29, 30, 31, 32] rfl ?_
          simp only [Act.put, aGet, aSucc, aZero, aSet, aHead, aTail]
          refine till_tu (i := 25) [26, 27, 28, 29, 30, 31, 32] rfl ?_
          simp only [Act.put, aGet, aSucc, aZero, aSet, aHead, aTail]
          refine till_tu (i := 26) [27, 28, 29, 30, 31, 32] rfl ?_
          simp only [Act.put, aGet, aSucc, aZero, aSet, aHead, aTail]
          refine till_tu (i := 27) [28, 29, 30, 31, 32] rfl ?_
          simp only [Act.put, aGet, aSucc, aZero, aSet, aHead, aTail]
          refine till_in (i := 20) (by kernel_rfl) rfl (fun K hK => ?_)
          go_simp
          refine hK.out _ _ ?_ (fun hHeld => ?_)
          · exact ⟨(HW.cell (p := ⟨g, off + i, none⟩) hgr).trans x5, (E7.later HW).facts.1, (E7.later HW).facts.2⟩
          clear hK K
          try simp only [Act.put, aGet, aSucc, aZero, aSet, aHead, aTail]
          refine till_in (i := 28) (by kernel_rfl) rfl (fun K hK => ?_)
          go_simp
          refine hK.out _ _ ?_ (fun hHeld => ?_)
          · exact ⟨(HW.cell (p := ⟨g, off + i, none⟩) hgr).trans x5, (E7.later HW).facts.1, (E7.later HW).facts.2⟩
          clear hK K
          try simp only [Act.put, aGet, aSucc, aZero, aSet, aHead, aTail]
          refine till_in (i := 29) (by kernel_rfl) rfl (fun K hK => ?_)
          go_simp
          refine hK.out _ _ ?_ (fun hHeld => ?_)
          · exact ⟨(HW.cell (p := ⟨g, off + i, none⟩) hgr).trans x5, (E7.later HW).facts.1, (E7.later HW).facts.2⟩
          clear hK K
          try simp only [Act.put, aGet, aSucc, aZero, aSet, aHead, aTail]
          refine till_tu (i := 30) [31, 32] rfl ?_
          simp only [Act.put, aGet, aSucc, aZero, aSet, aHead, aTail]
          refine till_tl (i := 31) [32] rfl ?_
          simp only [Act.put, aGet, aSucc, aZero, aSet, aHead, aTail]
          refine till_out (i := 32) (by kernel_rfl) rfl (by kernel_rfl) (fun K hK => ?_)
          go_simp
          refine hK.out _ _ ?_
          clear hK K
          try simp only [Act.put, aGet, aSucc, aZero, aSet, aHead, aTail]
          refine till_done (by kernel_rfl) ?_ _
          clear hHeld x5 E7 y7
          replace HB := hide (Below.step (unhide HB) HW)
          clear HW hgr
          go_wp2
          go_roundw
          case rel => exact ⟨i + 1, _, by omega, by omega, by go_num, rfl, unhide HL2, unhide HB⟩
          case measure => simp [intOf]; omega
        · obtain ⟨p, rfl, hp1, hpi⟩ : ∃ p : Nat, z = (p : Int) ∧ d ≤ p ∧ p < i := by
            rcases unhide HL with ⟨e1, _⟩ | ⟨p, e1, h1, h2, _⟩
            · omega
            · exact ⟨p, e1, h1, h2⟩
          have hzq : decide ((p : Int) < 0) = false := decide_eq_false hz
          have hpn : p < n := by omega
          obtain ⟨_, a6, l6, c6, hc6, hv6⟩ := RowsOf.at (R := fun w a l c zs => VK w a l c zs k) h hpn
          have hl6 : N = l6 := by rw [← hv6.len_eq]; exact (unhide HN p hpn).symm
          subst hl6
          obtain ⟨g6, o6, rfl⟩ := hv6.some (by omega)
          obtain ⟨b8, a8, l8, c8, E8, y8⟩ := (hv6.later (unhide HB)).at hc
          have x6 := ((unhide HB).cell (p := ⟨g, off + p, none⟩) hg).trans hc6
          obtain ⟨y, ey⟩ : ∃ y, y = (l.getD p []).getD c 0 := ⟨_, rfl⟩
          rw [← ey] at y8
          have EY := hide (show ent l p c = y from ey.symm)
          obtain ⟨d', ed⟩ : ∃ d', d' = ((x.natAbs : Int) - (y.natAbs : Int)).sign := ⟨_, rfl⟩
          have ED := hide ed
          have hj0 : (0 : Int) ≤ (p : Int) := by omega
          have hj1 : (p : Int) < (n : Int) := by omega
          clear hc6 ey hv6
          by_cases hxy : x.natAbs < y.natAbs
          · have hd : decide (d' < 0) = true := decide_eq_true (by rw [ed, Int.sign_eq_neg_one_of_neg (by omega)]; omega)
            have HL2 := hide ((unhide HL).less hdi (by rw [unhide EX]; exact h0) (by rw [unhide EX, unhide EY]; exact hxy))
            clear ed
            refine till_start (fun w' => w'.cell? ⟨g, off + i, none⟩ = some (.slice (some ⟨g5, o5, none⟩) N c5) ∧ w'.cell? ⟨g5, o5 + c * 2, none⟩ = some (.bool b7) ∧ w'.cell? ⟨g5, o5 + c * 2 + 1, none⟩ = some (.slice a7 l7 c7) ∧ w'.cell? ⟨g, off + p, none⟩ = some (.slice (some ⟨g6, o6, none⟩) N c6) ∧ w'.cell? ⟨g6, o6 + c * 2, none⟩ = some (.bool b8) ∧ w'.cell? ⟨g6, o6 + c * 2 + 1, none⟩ = some (.slice a8 l8 c8)) 32 (by kernel_rfl) ?_ (fun hHeld => ?_)
            · exact ⟨(HW.cell (p := ⟨g, off + i, none⟩) hgr).trans x5, (E7.later HW).facts.1, (E7.later HW).facts.2, (HW.cell (p := ⟨g, off + p, none⟩) hgr).trans x6, (E8.later HW).facts.1, (E8.later HW).facts.2⟩
            refine till_tl (i := 0) [2, 3, 5, 6, 7, 8, 9, 10, 11, 12, 13, 14, 15, 16, 17, 18, 19, 20, 21, 22, 23, 24, 25, 26, 27, 28, 29, 30, 31, 32] rfl ?_
            simp only [Act.put, aGet, aZero, aSet, aHead, aTail]
            refine till_tl (i := 1) [2, 3, 5, 6, 7, 8, 9, 10, 11, 12, 13, 14, 15, 16, 17, 18, 19, 20, 21, 22, 23, 24, 25, 26, 27, 28, 29, 30, 31, 32] rfl ?_
            simp only [Act.put, aGet, aSucc, aZero, aSet, aHead, aTail]
            refine till_tl (i := 2) [3, 5, 6, 7, 8, 9, 10, 11, 12, 13, 14, 15, 16, 17, 18, 19, 20, 21, 22, 23, 24, 25, 26, 27, 28, 29, 30, 31, 32] rfl ?_
            simp only [Act.put, aGet, aSucc, aZero, aSet, aHead, aTail]
            refine till_tl (i := 3) [5, 6, 7, 8, 9, 10, 11, 12, 13, 14, 15, 16, 17, 18, 19, 20, 21, 22, 23, 24, 25, 26, 27, 28, 29, 30, 31, 32] rfl ?_
            simp only [Act.put, aGet, aSucc, aZero, aSet, aHead, aTail]
            refine till_tl (i := 4) [5, 6, 7, 8, 9, 10, 11, 12, 13, 14, 15, 16, 17, 18, 19, 20, 21, 22, 23, 24, 25, 26, 27, 28, 29, 30, 31, 32] rfl ?_
            simp only [Act.put, aGet, aSucc, aZero, aSet, aHead, aTail]
            refine till_tl (i := 5) [6, 7, 8, 9, 10, 11, 12, 13, 14, 15, 16, 17, 18, 19, 20, 21, 22, 23, 24, 25, 26, 27, 28, 29, 30, 31, 32] rfl ?_
            simp only [Act.put, aGet, aSucc, aZero, aSet, aHead, aTail]
            refine till_tl (i := 6) [7, 8, 9, 10, 11, 12, 13, 14, 15, 16, 17, 18, 19, 20, 21, 22, 23, 24, 25, 26, 27, 28, 29, 30, 31, 32] rfl ?_
            simp only [Act.put, aGet, aSucc, aZero, aSet, aHead, aTail]
            refine till_in (i := 7) (by kernel_rfl) rfl (fun K hK => ?_)
            go_simp
            refine (rsignK b7 a7 l7 c7 x k s _ (y7.later HW) (unhide ES)).mono ?_
            rintro e w9 ⟨rfl, hb9⟩
            replace HW := Below.step HW hb9
            clear hb9
            refine hK.out _ _ ?_ (fun hHeld => ?_)
            · exact ⟨(HW.cell (p := ⟨g, off + i, none⟩) hgr).trans x5, (E7.later HW).facts.1, (E7.later HW).facts.2, (HW.cell (p := ⟨g, off + p, none⟩) hgr).trans x6, (E8.later HW).facts.1, (E8.later HW).facts.2⟩
            clear hK K
            try simp only [Act.put, aGet, aSucc, aZero, aSet, aHead, aTail]
            refine till_tl (i := 8) [9, 10, 11, 12, 13, 14, 15, 16, 17, 18, 19, 20, 21, 22, 23, 24, 25, 26, 27, 28, 29, 30, 31, 32] rfl ?_
            simp only [Act.put, aGet, aSucc, aZero, aSet, aHead, aTail]
            refine till_tl (i := 9) [10, 11, 12, 13, 14, 15, 16, 17, 18, 19, 20, 21, 22, 23, 24, 25, 26, 27, 28, 29, 30, 31, 32] rfl ?_
            simp only [Act.put, aGet, aSucc, aZero, aSet, aHead, aTail]
            refine till_tl (i := 10) [11, 12, 13, 14, 15, 16, 17, 18, 19, 20, 21, 22, 23, 24, 25, 26, 27, 28, 29, 30, 31, 32] rfl ?_
            simp only [Act.put, aGet, aSucc, aZero, aSet, aHead, aTail]
            refine till_tl (i := 11) [12, 13, 14, 15, 16, 17, 18, 19, 20, 21, 22, 23, 24, 25, 26, 27, 28, 29, 30, 31, 32] rfl ?_
            simp only [Act.put, aGet, aSucc, aZero, aSet, aHead, aTail]
            refine till_tl (i := 12) [13, 14, 15, 16, 17, 18, 19, 20, 21, 22, 23, 24, 25, 26, 27, 28, 29, 30, 31, 32] rfl ?_
            simp only [Act.put, aGet, aSucc, aZero, aSet, aHead, aTail]
            refine till_tl (i := 13) [15, 16, 18, 19, 20, 28, 29, 30, 31, 32] rfl ?_
            simp only [Act.put, aGet, aSucc, aZero, aSet, aHead, aTail]
            refine till_tl (i := 14) [15, 16, 18, 19, 20, 28, 29, 30, 31, 32] rfl ?_
            simp only [Act.put, aGet, aSucc, aZero, aSet, aHead, aTail]
            refine till_tl (i := 15) [16, 18, 19, 20, 28, 29, 30, 31, 32] rfl ?_
            simp only [Act.put, aGet, aSucc, aZero, aSet, aHead, aTail]
            refine till_tl (i := 16) [18, 19, 20, 28, 29, 30, 31, 32] rfl ?_
            simp only [Act.put, aGet, aSucc, aZero, aSet, aHead, aTail]
            refine till_tl (i := 17) [18, 19, 20, 28, 29, 30, 31, 32] rfl ?_
            simp only [Act.put, aGet, aSucc, aZero, aSet, aHead, aTail]
            refine till_tl (i := 18) [19, 20, 28, 29, 30, 31, 32] rfl ?_
            simp only [Act.put, aGet, aSucc, aZero, aSet, aHead, aTail]
            refine till_tl (i := 19) [20, 28, 29, 30, 31, 32] rfl ?_
            simp only [Act.put, aGet, aSucc, aZero, aSet, aHead, aTail]
            refine till_tl (i := 21) [23, 24, 26, 27, 28, 29, 30, 31, 32] rfl ?_
            simp only [Act.put, aGet, aSucc, aZero, aSet, aHead, aTail]
            refine till_tl (i := 22) [23, 24, 26, 27, 28, 29, 30, 31, 32] rfl ?_
            simp only [Act.put, aGet, aSucc, aZero, aSet, aHead, aTail]
            refine till_tl (i := 23) [24, 26, 27, 28, 29, 30, 31, 32] rfl ?_
            simp only [Act.put, aGet, aSucc, aZero, aSet, aHead, aTail]
            refine till_tl (i := 24) [26, 27, 28, 29, 30, 31, 32] rfl ?_
            simp only [Act.put, aGet, aSucc, aZero, aSet, aHead, aTail]
            refine till_tl (i := 25) [26, 27, 28, 29, 30, 31, 32] rfl ?_
            simp only [Act.put, aGet, aSucc, aZero, aSet, aHead, aTail]
            refine till_tl (i := 26) [27, 28, 29, 30, 31, 32] rfl ?_
            simp only [Act.put, aGet, aSucc, aZero, aSet, aHead, aTail]
            refine till_tl (i := 27) [28, 29, 30, 31, 32] rfl ?_
            simp only [Act.put, aGet, aSucc, aZero, aSet, aHead, aTail]
            refine till_in (i := 20) (by kernel_rfl) rfl (fun K hK => ?_)
            go_simp
            refine (rabsK b7 a7 l7 c7 x k _ (y7.later HW)).mono ?_
            rintro e w10 ⟨b9, a9, l9, c9, rfl, h9, hb9⟩
            replace HW := Below.step HW hb9
            clear hb9
            refine hK.out _ _ ?_ (fun hHeld => ?_)
            · exact ⟨(HW.cell (p := ⟨g, off + i, none⟩) hgr).trans x5, (E7.later HW).facts.1, (E7.later HW).facts.2, (HW.cell (p := ⟨g, off + p, none⟩) hgr).trans x6, (E8.later HW).facts.1, (E8.later HW).facts.2⟩
            clear hK K
            try simp only [Act.put, aGet, aSucc, aZero, aSet, aHead, aTail]
            refine till_in (i := 28) (by kernel_rfl) rfl (fun K hK => ?_)
            go_simp
            refine (rabsK b8 a8 l8 c8 y k _ (y8.later HW)).mono ?_
            rintro e w11 ⟨b10, a10, l10, c10, rfl, h10, hb9⟩
            replace h9 := h9.later hb9
            replace HW := Below.step HW hb9
            clear hb9
            refine hK.out _ _ ?_ (fun hHeld => ?_)
            · exact ⟨(HW.cell (p := ⟨g, off + i, none⟩) hgr).trans x5, (E7.later HW).facts.1, (E7.later HW).facts.2, (HW.cell (p := ⟨g, off + p, none⟩) hgr).trans x6, (E8.later HW).facts.1, (E8.later HW).facts.2⟩
            clear hK K
            try simp only [Act.put, aGet, aSucc, aZero, aSet, aHead, aTail]
            refine till_in (i := 29) (by kernel_rfl) rfl (fun K hK => ?_)
            go_simp
            refine (rcmpK b9 a9 l9 c9 (x.natAbs : Int) k b10 a10 l10 c10 (y.natAbs : Int) k d' _ (h9.ik (by omega)) (h10.ik (by omega)) (unhide ED)).mono ?_
            rintro e w12 ⟨rfl, hb9⟩
            replace HW := Below.step HW hb9
            clear hb9 h9 h10
            refine hK.out _ _ ?_ (fun hHeld => ?_)
            · exact ⟨(HW.cell (p := ⟨g, off + i, none⟩) hgr).trans x5, (E7.later HW).facts.1, (E7.later HW).facts.2, (HW.cell (p := ⟨g, off + p, none⟩) hgr).trans x6, (E8.later HW).facts.1, (E8.later HW).facts.2⟩
            clear hK K
            try simp only [Act.put, aGet, aSucc, aZero, aSet, aHead, aTail]
            refine till_tl (i := 30) [31, 32] rfl ?_
            simp only [Act.put, aGet, aSucc, aZero, aSet, aHead, aTail]
            refine till_tl (i := 31) [32] rfl ?_
            simp only [Act.put, aGet, aSucc, aZero, aSet, aHead, aTail]
            refine till_out (i := 32) (by kernel_rfl) rfl (by kernel_rfl) (fun K hK => ?_)
            go_simp
            refine hK.out _ _ ?_
            clear hK K
            try simp only [Act.put, aGet, aSucc, aZero, aSet, aHead, aTail]
            refine till_done (by kernel_rfl) ?_ _
            clear hHeld x5 E7 y7 x6 E8 y8
            replace HB := hide (Below.step (unhide HB) HW)
            clear HW hgr
            go_wp2
            go_roundw
            case rel => exact ⟨i + 1, _, by omega, by omega, by go_num, rfl, unhide HL2, unhide HB⟩
            case measure => simp [intOf]; omega
          · have hd : decide (d' < 0) = false := decide_eq_false (by rw [ed]; exact sgn_geH (by omega))
            have HL2 := hide ((unhide HL).keep (by rw [unhide EX, unhide EY]; omega))
            clear ed
            refine till_start (fun w' => w'.cell? ⟨g, off + i, none⟩ = some (.slice (some ⟨g5, o5, none⟩) N c5) ∧ w'.cell? ⟨g5, o5 + c * 2, none⟩ = some (.bool b7) ∧ w'.cell? ⟨g5, o5 + c * 2 + 1, none⟩ = some (.slice a7 l7 c7) ∧ w'.cell? ⟨g, off + p, none⟩ = some (.slice (some ⟨g6, o6, none⟩) N c6) ∧ w'.cell? ⟨g6, o6 + c * 2, none⟩ = some (.bool b8) ∧ w'.cell? ⟨g6, o6 + c * 2 + 1, none⟩ = some (.slice a8 l8 c8)) 32 (by kernel_rfl) ?_ (fun hHeld => ?_)
            · exact ⟨(HW.cell (p := ⟨g, off + i, none⟩) hgr).trans x5, (E7.later HW).facts.1, (E7.later HW).facts.2, (HW.cell (p := ⟨g, off + p, none⟩) hgr).trans x6, (E8.later HW).facts.1, (E8.later HW).facts.2⟩
            refine till_tl (i := 0) [2, 3, 5, 6, 7, 8, 9, 10, 11, 12, 13, 14, 15, 16, 17, 18, 19, 20, 21, 22, 23, 24, 25, 26, 27, 28, 29, 30, 31, 32] rfl ?_
            simp only [Act.put, aGet, aZero, aSet, aHead, aTail]
            refine till_tl (i := 1) [2, 3, 5, 6, 7, 8, 9, 10, 11, 12, 13, 14, 15, 16, 17, 18, 19, 20, 21, 22, 23, 24, 25, 26, 27, 28, 29, 30, 31, 32] rfl ?_
            simp only [Act.put, aGet, aSucc, aZero, aSet, aHead, aTail]
            refine till_tl (i := 2) [3, 5, 6, 7, 8, 9, 10, 11, 12, 13, 14, 15, 16, 17, 18, 19, 20, 21, 22, 23, 24, 25, 26, 27, 28, 29, 30, 31, 32] rfl ?_
            simp only [Act.put, aGet, aSucc, aZero, aSet, aHead, aTail]
            refine till_tl (i := 3) [5, 6, 7, 8, 9, 10, 11, 12, 13, 14, 15, 16, 17, 18, 19, 20, 21, 22, 23, 24, 25, 26, 27, 28, 29, 30, 31, 32] rfl ?_
            simp only [Act.put, aGet, aSucc, aZero, aSet, aHead, aTail]
            refine till_tl (i := 4) [5, 6, 7, 8, 9, 10, 11, 12, 13, 14, 15, 16, 17, 18, 19, 20, 21, 22, 23, 24, 25, 26, 27, 28, 29, 30, 31, 32] rfl ?_
            simp only [Act.put, aGet, aSucc, aZero, aSet, aHead, aTail]
            refine till_tl (i := 5) [6, 7, 8, 9, 10, 11, 12, 13, 14, 15, 16, 17, 18, 19, 20, 21, 22, 23, 24, 25, 26, 27, 28, 29, 30, 31, 32] rfl ?_
            simp only [Act.put, aGet, aSucc, aZero, aSet, aHead, aTail]
            refine till_tl (i := 6) [7, 8, 9, 10, 11, 12, 13, 14, 15, 16, 17, 18, 19, 20, 21, 22, 23, 24, 25, 26, 27, 28, 29, 30, 31, 32] rfl ?_
            simp only [Act.put, aGet, aSucc, aZero, aSet, aHead, aTail]
            refine till_in (i := 7) (by kernel_rfl) rfl (fun K hK => ?_)
            go_simp
            refine (rsignK b7 a7 l7 c7 x k s _ (y7.later HW) (unhide ES)).mono ?_
            rintro e w9 ⟨rfl, hb9⟩
            replace HW := Below.step HW hb9
            clear hb9
            refine hK.out _ _ ?_ (fun hHeld => ?_)
            · exact ⟨(HW.cell (p := ⟨g, off + i, none⟩) hgr).trans x5, (E7.later HW).facts.1, (E7.later HW).facts.2, (HW.cell (p := ⟨g, off + p, none⟩) hgr).trans x6, (E8.later HW).facts.1, (E8.later HW).facts.2⟩
            clear hK K
            try simp only [Act.put, aGet, aSucc, aZero, aSet, aHead, aTail]
            refine till_tl (i := 8) [9, 10, 11, 12, 13, 14, 15, 16, 17, 18, 19, 20, 21, 22, 23, 24, 25, 26, 27, 28, 29, 30, 31, 32] rfl ?_
            simp only [Act.put, aGet, aSucc, aZero, aSet, aHead, aTail]
            refine till_tl (i := 9) [10, 11, 12, 13, 14, 15, 16, 17, 18, 19, 20, 21, 22, 23, 24, 25, 26, 27, 28, 29, 30, 31, 32] rfl ?_
            simp only [Act.put, aGet, aSucc, aZero, aSet, aHead, aTail]
            refine till_tl (i := 10) [11, 12, 13, 14, 15, 16, 17, 18, 19, 20, 21, 22, 23, 24, 25, 26, 27, 28, 29, 30, 31, 32] rfl ?_
            simp only [Act.put, aGet, aSucc, aZero, aSet, aHead, aTail]
            refine till_tl (i := 11) [12, 13, 14, 15, 16, 17, 18, 19, 20, 21, 22, 23, 24, 25, 26, 27, 28, 29, 30, 31, 32] rfl ?_
            simp only [Act.put, aGet, aSucc, aZero, aSet, aHead, aTail]
            refine till_tl (i := 12) [13, 14, 15, 16, 17, 18, 19, 20, 21, 22, 23, 24, 25, 26, 27, 28, 29, 30, 31, 32] rfl ?_
            simp only [Act.put, aGet, aSucc, aZero, aSet, aHead, aTail]
            refine till_tl (i := 13) [15, 16, 18, 19, 20, 28, 29, 30, 31, 32] rfl ?_
            simp only [Act.put, aGet, aSucc, aZero, aSet, aHead, aTail]
            refine till_tl (i := 14) [15, 16, 18, 19, 20, 28, 29, 30, 31, 32] rfl ?_
            simp only [Act.put, aGet, aSucc, aZero, aSet, aHead, aTail]
            refine till_tl (i := 15) [16, 18, 19, 20, 28, 29, 30, 31, 32] rfl ?_
            simp only [Act.put, aGet, aSucc, aZero, aSet, aHead, aTail]
            refine till_tl (i := 16) [18, 19, 20, 28, 29, 30, 31, 32] rfl ?_
            simp only [Act.put, aGet, aSucc, aZero, aSet, aHead, aTail]
            refine till_tl (i := 17) [18, 19, 20, 28, 29, 30, 31, 32] rfl ?_
            simp only [Act.put, aGet, aSucc, aZero, aSet, aHead, aTail]
            refine till_tl (i := 18) [19, 20, 28, 29, 30, 31, 32] rfl ?_
            simp only [Act.put, aGet, aSucc, aZero, aSet, aHead, aTail]
            refine till_tl (i := 19) [20, 28, 29, 30, 31, 32] rfl ?_
            simp only [Act.put, aGet, aSucc, aZero, aSet, aHead, aTail]
            refine till_tl (i := 21) [23, 24, 26, 27, 28, 29, 30, 31, 32] rfl ?_
            simp only [Act.put, aGet, aSucc, aZero, aSet, aHead, aTail]
            refine till_tl (i := 22) [23, 24, 26, 27, 28, 29, 30, 31, 32] rfl ?_
            simp only [Act.put, aGet, aSucc, aZero, aSet, aHead, aTail]
            refine till_tl (i := 23) [24, 26, 27, 28, 29, 30, 31, 32] rfl ?_
            simp only [Act.put, aGet, aSucc, aZero, aSet, aHead, aTail]
            refine till_tl (i := 24) [26, 27, 28, 29, 30, 31, 32] rfl ?_
            simp only [Act.put, aGet, aSucc, aZero, aSet, aHead, aTail]
            refine till_tl (i := 25) [26, 27, 28, 29, 30, 31, 32] rfl ?_
            simp only [Act.put, aGet, aSucc, aZero, aSet, aHead, aTail]
            refine till_tl (i := 26) [27, 28, 29, 30, 31, 32] rfl ?_
            simp only [Act.put, aGet, aSucc, aZero, aSet, aHead, aTail]
            refine till_tl (i := 27) [28, 29, 30, 31, 32] rfl ?_
            simp only [Act.put, aGet, aSucc, aZero, aSet, aHead, aTail]
            refine till_in (i := 20) (by kernel_rfl) rfl (fun K hK => ?_)
            go_simp
            refine (rabsK b7 a7 l7 c7 x k _ (y7.later HW)).mono ?_
            rintro e w10 ⟨b9, a9, l9, c9, rfl, h9, hb9⟩
            replace HW := Below.step HW hb9
            clear hb9
            refine hK.out _ _ ?_ (fun hHeld => ?_)
            · exact ⟨(HW.cell (p := ⟨g, off + i, none⟩) hgr).trans x5, (E7.later HW).facts.1, (E7.later HW).facts.2, (HW.cell (p := ⟨g, off + p, none⟩) hgr).trans x6, (E8.later HW).facts.1, (E8.later HW).facts.2⟩
            clear hK K
            try simp only [Act.put, aGet, aSucc, aZero, aSet, aHead, aTail]
            refine till_in (i := 28) (by kernel_rfl) rfl (fun K hK => ?_)
            go_simp
            refine (rabsK b8 a8 l8 c8 y k _ (y8.later HW)).mono ?_
            rintro e w11 ⟨b10, a10, l10, c10, rfl, h10, hb9⟩
            replace h9 := h9.later hb9
            replace HW := Below.step HW hb9
            clear hb9
            refine hK.out _ _ ?_ (fun hHeld => ?_)
            · exact ⟨(HW.cell (p := ⟨g, off + i, none⟩) hgr).trans x5, (E7.later HW).facts.1, (E7.later HW).facts.2, (HW.cell (p := ⟨g, off + p, none⟩) hgr).trans x6, (E8.later HW).facts.1, (E8.later HW).facts.2⟩
            clear hK K
            try simp only [Act.put, aGet, aSucc, aZero, aSet, aHead, aTail]
            refine till_in (i := 29) (by kernel_rfl) rfl (fun K hK => ?_)
            go_simp
            refine (rcmpK b9 a9 l9 c9 (x.natAbs : Int) k b10 a10 l10 c10 (y.natAbs : Int) k d' _ (h9.ik (by omega)) (h10.ik (by omega)) (unhide ED)).mono ?_
            rintro e w12 ⟨rfl, hb9⟩
            replace HW := Below.step HW hb9
            clear hb9 h9 h10
            refine hK.out _ _ ?_ (fun hHeld => ?_)
            · exact ⟨(HW.cell (p := ⟨g, off + i, none⟩) hgr).trans x5, (E7.later HW).facts.1, (E7.later HW).facts.2, (HW.cell (p := ⟨g, off + p, none⟩) hgr).trans x6, (E8.later HW).facts.1, (E8.later HW).facts.2⟩
            clear hK K
            try simp only [Act.put, aGet, aSucc, aZero, aSet, aHead, aTail]
            refine till_tl (i := 30) [31, 32] rfl ?_
            simp only [Act.put, aGet, aSucc, aZero, aSet, aHead, aTail]
            refine till_tl (i := 31) [32] rfl ?_
            simp only [Act.put, aGet, aSucc, aZero, aSet, aHead, aTail]
            refine till_out (i := 32) (by kernel_rfl) rfl (by kernel_rfl) (fun K hK => ?_)
            go_simp
            refine hK.out _ _ ?_
            clear hK K
            try simp only [Act.put, aGet, aSucc, aZero, aSet, aHead, aTail]
            refine till_done (by kernel_rfl) ?_ _
            clear hHeld x5 E7 y7 x6 E8 y8
            replace HB := hide (Below.step (unhide HB) HW)
            clear HW hgr
            go_wp2
            go_roundw
            case rel => exact ⟨i + 1, _, by omega, by omega, by go_num, rfl, unhide HL2, unhide HB⟩
            case measure => simp [intOf]; omega
    · have hin : i = n := by omega
      subst hin
      have hi1 : ¬ (i : Int) < (i : Int) := by omega
      go_wp2
      go_ret
      exact ⟨_, rfl, unhide HL, unhide HB⟩

#print axioms leastK
end Go.Proofs.YtjebmlogchoehaaGreat
