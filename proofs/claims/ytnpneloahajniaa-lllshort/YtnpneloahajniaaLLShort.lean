/-
 The walk of LllShort: it tells true.
-/
import Derived.Test.YtnpneloahajniaaLLBase
import Derived.Test.YtnpneloahajniaaJR
import Derived.Test.YtnpneloahajniaaIRow8
import Derived.Test.YtnpneloahajniaaJF
namespace Go.Proofs.Ytnpneloahajniaa
open Go.RowKit Lb
set_option maxRecDepth 20000

/-- The first row against any vector of the lattice. -/
theorem short_red {cl ms : List (List Int)} {N m : Nat} {zs : List Int} (hl : ms.length = m) (hr : ∀ t, t < m → (ms.getD t []).length = N) (hs : SameL cl ms) (hd : gramD N (ent ms) m ≠ 0) (hred : IsReduced N (ent ms) m) (hz : InL cl fun j => zs.getD j 0) (hzl : zs.length = N) (hn : vnought zs = false) : 0 < m ∧ vdot (ms.getD 0 []) (ms.getD 0 []) ≤ ((2 ^ (m - 1) : Nat) : Int) * vdot zs zs := by
 subst hl
 have hin := (hs _).1 hz
 obtain ⟨x, hx⟩ := hin
 have hne : ∃ s, s < N ∧ zs.getD s 0 ≠ 0 := by
  by_cases c : ∃ s, s < N ∧ zs.getD s 0 ≠ 0
  ·exact c
  ·exfalso
   have h0 : vnought zs = true := (vnought_iff zs).2 fun j => by
    by_cases cj : j < N
    ·by_cases e : zs.getD j 0 = 0
     ·exact e
     ·exact absurd ⟨j, cj, e⟩ c
    ·exact getD_out (by omega)
   rw [h0] at hn
   exact absurd hn (by decide)
 have hm : 0 < ms.length := by
  rcases Nat.eq_zero_or_pos ms.length with e | e
  ·obtain ⟨s, _, h0⟩ := hne
   have := hx s
   rw [e] at this
   exact absurd this h0
  ·exact e
 refine ⟨hm, ?_⟩
 have h := hred.short (v := fun s => zs.getD s 0) (x := x) (gramD_all hd) (fun s _ => hx s) hne
 have e1 : gramD N (ent ms) 1 = vdot (ms.getD 0 []) (ms.getD 0 []) := by
  rw [show (1 : Nat) = 0 + 1 from rfl, gramD_next (by rw [gramD_zero]; decide), gramM_zero]
  exact (vdot_ent (by rw [hr 0 hm]; exact Nat.le_refl _)).symm
 have e2 : dotN N (fun s => zs.getD s 0) (fun s => zs.getD s 0) = vdot zs zs := vdot_upto (by omega)
 rw [← e1, ← e2, Int.natCast_pow]
 exact h
theorem shl_small {x : Nat} (h : x ≤ 3) : IntKind.i64.wrap (2 ^ min x 64) = ((2 ^ x : Nat) : Int) ∧ 2 ^ x ≤ 8 := by
 have h4 : x = 0 ∨ x = 1 ∨ x = 2 ∨ x = 3 := by omega
 rcases h4 with rfl | rfl | rfl | rfl <;> exact ⟨by decide, by decide⟩
set_option maxRecDepth 40000 in
set_option maxHeartbeats 3000000 in
theorem lllShort_walk (a0 : Option Addr) (len0 cap0 : Nat) (rs0 : List (List Int)) (m1 : Int) (a2 : Option Addr) (len2 cap2 : Nat) (zs2 : List Int) (w : World) (r0 : MI w a0 len0 cap0 rs0) (_r1 : (Lit.int .i64 m1).wf = true) (r2 : I8RowAt w a2 len2 cap2 zs2) :
  Calls Try.prog 3 #[.slice a0 len0 cap0, .int .i64 m1, .slice a2 len2 cap2] w fun e w' => e = .returned (.bool true) ∧ Below w.heap.size w w' := by
 clear _r1
 have HR2 := hide r2
 clear r2
 go_enter Try.func3, Try.ntmps3
 go_wp2_with fail
 refine (heavyK a0 len0 cap0 rs0 4 7 _ r0 (by omega) (by omega)).mono ?_
 rintro e w1 ⟨q, rfl, hq, hlt, hb1⟩
 have HB := hide hb1
 rcases hq with rfl | rfl
 ·obtain ⟨hn4, _, hms⟩ := hlt rfl
  have hl := hms _ hb1
  clear hms hlt hb1 r0
  by_cases ht4 : 4 < len2
  ·have htI : (4 : Int) < (len2 : Int) := by omega
   clear hl
   go_wp2_with fail
   refine (awake13_any _).mono ?_
   rintro e wv ⟨rfl, hb9⟩
   go_wp2
   go_ret
   exact ⟨rfl, Below.step (unhide HB) hb9⟩
  ·have htI : ¬ (4 : Int) < (len2 : Int) := by omega
   go_wp2_with fail
   refine (cutsK a0 len0 cap0 rs0 3 m1 _ hl.mk (by omega)).mono ?_
   rintro e w2 ⟨a2', c2, N, rfl, hN1, hN7, h2, hb1⟩
   have HF := hide (cut_form rs0 hN1 hN7)
   obtain ⟨cl, ecl⟩ : ∃ cl, cl = rs0.map fun r => vcut r N := ⟨_, rfl⟩
   rw [← ecl] at h2 HF
   have HCL := hide h2.len_eq
   have HRL : Hid (∀ i, i < len0 → (cl.getD i []).length = N) := hide fun i hi => by
    obtain ⟨M, e, _, _, h3⟩ := rform_rows (unhide HF)
    rw [rows_len h3 i (by rw [unhide HCL]; exact hi)]
    omega
   replace HB := hide (Below.step (unhide HB) hb1)
   clear hb1 hl ecl
   go_wp2_with fail
   refine (reduceK a2' len0 c2 cl N _ (h2.mk (by omega)) hn4 (unhide HRL) (by omega) (by omega)).mono ?_
   rintro e w3 ⟨ab, m, cb, ms, rfl, hmf, hrl, hsm, hd, hred, _, hm4, hb1⟩
   have HML := hide hmf.len_eq
   have hmn : m ≤ len0 := by
    have hI : Indep ms.length (ent ms) := (indep_gramD (rlen_le (by rw [unhide HML]; exact hrl))).1 (by rw [unhide HML]; exact hd)
    have := hI.le (r := cl.length) (H := ent cl) fun k hk => ⟨1, by decide, (show InL cl (ent ms k) from (hsm _).2 (inL_row k)).eq fun j => by omega⟩
    rw [unhide HML, unhide HCL] at this
    exact this
   have hmI : ¬ (len0 : Int) < (m : Int) := by omega
   have HSH := hide (fun (zs : List Int) (hz : InL cl fun j => zs.getD j 0) (hzl : zs.length = N) (hn : vnought zs = false) => short_red hmf.len_eq hrl hsm hd hred hz hzl hn)
   have HRB := hide hrl
   replace h2 := h2.later hb1
   replace HB := hide (Below.step (unhide HB) hb1)
   clear hb1 hrl hsm hd hred
   go_wp2_with fail
   refine (vzeroK (N : Int) 6 _).mono ?_
   rintro e w4 ⟨gv, rfl, hv, hb1⟩
   rw [room_nat10 (show N ≤ 64 by omega)] at hv ⊢
   replace h2 := h2.later hb1
   replace hmf := hmf.later hb1
   have hvf := hv.vf
   replace HB := hide (Below.step (unhide HB) hb1)
   clear hb1 hv
   go_wp2_with fail
   go_loopw [11, 48] (fun s t wr => ∃ (i : Nat) (av : Option Addr) (cv : Nat) (zs : List Int), i ≤ len0 ∧ t = .int .i64 (i : Int) ∧ s = .slice av N cv ∧ VF wr av N cv zs (6 + i) ∧ InL cl (fun j => zs.getD j 0) ∧ Below w4.heap.size w4 wr) (fun _ t _ => len0 - (intOf t).toNat)
   case atStart => exact ⟨0, _, _, _, Nat.zero_le _, by go_num, rfl, hvf, (inL_zero cl).eq fun j => by simp [List.getD, List.getElem?_replicate]; split <;> rfl, Below.refl _ _⟩
   case round =>
    clear hvf
    obtain ⟨i, av, cv, zs, hi, rfl, rfl, hv, hin, hBw⟩ := hrel
    have HC := hide hBw
    have HIN := hide hin
    clear hBw hin
    by_cases hlt : i < len0
    ·obtain ⟨g, off, rfl⟩ := RowsOf.addr (R := fun w a l c zs => VF w a l c zs 3) h2 (by omega)
     obtain ⟨hg, a5, l5, c5, hc5, hv5⟩ := RowsOf.at (R := fun w a l c zs => VF w a l c zs 3) h2 hlt
     have hl6 : N = l5 := by rw [← hv5.len_eq]; exact (unhide HRL i hlt).symm
     subst hl6
     replace hv5 := hv5.later (unhide HC)
     have f2 := ((unhide HC).cell (p := ⟨g, off + i, none⟩) hg).trans hc5
     have hgr := Nat.lt_of_lt_of_le hg (unhide HC).size
     have hi0 : (0 : Int) ≤ (i : Int) := by omega
     have hi1 : (i : Int) < (len0 : Int) := by omega
     clear hc5 hg
     by_cases hit : i < len2
     ·have hitI : (i : Int) < (len2 : Int) := by omega
      have hsm := (unhide HR2).small i
      have hBB := Below.step (unhide HB) (unhide HC)
      have hr8 := (unhide HR2).later hBB
      obtain ⟨g8, o8, rfl⟩ := hr8.addr (by omega)
      obtain ⟨hg8, f8⟩ := hr8.at hit
      obtain ⟨x, ex⟩ : ∃ x, x = zs2.getD i 0 := ⟨_, rfl⟩
      rw [← ex] at f8 hsm
      have hwx : IntKind.i64.wrap x = x := by rw [IntKind.wrap_i64]; omega
      clear hr8 hBB ex
      go_wp2_with fail
      refine (rofK x _ (by omega) (by omega)).mono ?_
      rintro e w6 ⟨b7, a7, l7, c7, rfl, h7, hb9⟩
      replace hv := hv.later hb9
      replace hv5 := hv5.later hb9
      replace HC := hide (Below.step (unhide HC) hb9)
      clear hb9 f2 hgr f8 hg8
      go_wp2_with fail
      refine (vtimesK _ _ _ (cl.getD i []) 3 b7 a7 l7 c7 x 2 _ (hv5.vk (by omega)) (h7.ik (by omega)) (by omega)).mono ?_
      rintro e w7 ⟨a8, c8, rfl, h8, hb9⟩
      replace hv := hv.later hb9
      replace HC := hide (Below.step (unhide HC) hb9)
      clear hb9 hv5 h7
      go_wp2_with fail
      refine (vaddK _ _ _ zs (6 + i) _ _ _ (vtimes (cl.getD i []) x) (3 + 2) _ (hv.vk (by omega)) (h8.vk (by omega)) (by omega) (by omega) (by omega) (by omega)).mono ?_
      rintro e w8 ⟨a9, c9, rfl, h9, hb9⟩
      rw [Nat.max_self] at h9 ⊢
      rw [show max (6 + i) (3 + 2) + 1 = 6 + (i + 1) by omega] at h9
      replace HC := hide (Below.step (unhide HC) hb9)
      clear hb9 hv h8
      have HIN2 : Hid (InL cl fun j => (vadd zs (vtimes (cl.getD i []) x)).getD j 0) := hide (((unhide HIN).add ((inL_row (l := cl) i).mul x)).eq fun j => by
       rw [vadd_at, vtimes_at, Int.mul_comm]; rfl)
      go_wp2
      go_roundw
      case rel => exact ⟨i + 1, _, _, _, by omega, by go_num, rfl, h9, unhide HIN2, unhide HC⟩
      case measure => simp [intOf]; omega
     ·have hitI : ¬ (i : Int) < (len2 : Int) := by omega
      go_wp2
      go_roundw
      case rel => exact ⟨i + 1, _, _, _, by omega, by go_num, rfl, vf_up hv (by omega), unhide HIN, unhide HC⟩
      case measure => simp [intOf]; omega
    ·have hin2 : i = len0 := by omega
     subst hin2
     have hii : ¬ (i : Int) < (i : Int) := by omega
     replace hmf := hmf.later (unhide HC)
     replace HB := hide (Below.step (unhide HB) (unhide HC))
     replace hv := vf_up hv (show 6 + i ≤ 10 by omega)
     have HZL := hide hv.len_eq
     clear HC h2
     obtain ⟨q, eq⟩ : ∃ q, q = vnought zs := ⟨_, rfl⟩
     have hvn := vnoughtK av N cv zs 10 wr (hv.vk (by omega))
     rw [← eq] at hvn
     have HVN := hide hvn
     clear hvn
     go_wp2_with fail
     refine (unhide HVN).mono ?_
     rintro e w5 ⟨rfl, hb1⟩
     replace hmf := hmf.later hb1
     replace hv := hv.later hb1
     replace HB := hide (Below.step (unhide HB) hb1)
     clear hb1 HVN
     cases q with
     | true =>
      clear eq hv hmf
      go_wp2_with fail
      refine (awake13_any _).mono ?_
      rintro e wv ⟨rfl, hb9⟩
      go_wp2
      go_ret
      exact ⟨rfl, Below.step (unhide HB) hb9⟩
     | false =>
      obtain ⟨hm0, hle⟩ := unhide HSH zs (unhide HIN) (unhide HZL) eq.symm
      have hm0I : (m : Int) ≠ 0 := by omega
      have hmb : ((m : Int) == 0) = false := by simpa using hm0I
      obtain ⟨m1', em1⟩ : ∃ x, x = m - 1 := ⟨_, rfl⟩
      obtain ⟨hshl, hp8⟩ := shl_small (show m1' ≤ 3 by omega)
      obtain ⟨P, eP⟩ : ∃ P : Nat, P = 2 ^ m1' := ⟨_, rfl⟩
      rw [← em1, ← eP] at hle
      rw [← eP] at hshl hp8
      obtain ⟨s, es⟩ : ∃ s, s = (vdot (ms.getD 0 []) (ms.getD 0 []) - (P : Int) * vdot zs zs).sign := ⟨_, rfl⟩
      have hs : decide (s ≤ 0) = true := by rw [es, sign_leB]; exact decide_eq_true hle
      have ES := hide es
      have hw1 : IntKind.i64.wrap ((m : Int) - 1) = ((m - 1 : Nat) : Int) := by rw [IntKind.wrap_i64]; omega
      have hmI0 : (0 : Int) < (m : Int) := by omega
      have hmN : 0 < m := hm0
      obtain ⟨gb, ob, rfl⟩ := RowsOf.addr (R := fun w a l c zs => VF w a l c zs 294) hmf hm0
      obtain ⟨hgb, ab, lb, cb2, xb, vb⟩ := RowsOf.at (R := fun w a l c zs => VF w a l c zs 294) hmf hm0
      rw [Nat.add_zero] at xb
      have hlb : N = lb := by rw [← vb.len_eq]; exact (unhide HRB 0 hm0).symm
      subst hlb
      rw [← em1] at hw1
      clear es eq hle hm0 hm0I em1 eP
      go_upto_region 18 with fail
      have HW : Below w5.heap.size w5 w5.drew := (Below.refl _ _).drew
      refine till_start (fun w' => w'.cell? ⟨gb, ob, none⟩ = some (.slice ab N cb2)) 21 (by kernel_rfl) ?_ (fun hHeld => ?_)
      ·exact (HW.cell (p := ⟨gb, ob, none⟩) hgb).trans xb
      refine till_tl (i := 0) [1, 2, 6, 11, 14, 15, 16, 17, 18, 19, 20, 21] rfl ?_
      simp only [Act.put, aGet, aZero, aSet, aHead, aTail]
      refine till_tl (i := 1) [2, 6, 11, 14, 15, 16, 17, 18, 19, 20, 21] rfl ?_
      simp only [Act.put, aAll]
      refine till_tl (i := 2) [6, 11, 14, 15, 16, 17, 18, 19, 20, 21] rfl ?_
      simp only [Act.put, aAll]
      refine till_tl (i := 3) [4, 5, 6, 11, 14, 15, 16, 17, 18, 19, 20, 21] rfl ?_
      simp only [Act.put, aAll]
      refine till_tl (i := 4) [5, 6, 11, 14, 15, 16, 17, 18, 19, 20, 21] rfl ?_
      simp only [Act.put, aAll]
      refine till_tl (i := 5) [6, 11, 14, 15, 16, 17, 18, 19, 20, 21] rfl ?_
      simp only [Act.put, aAll]
      refine till_tl (i := 7) [8, 9, 10, 11, 14, 15, 16, 17, 18, 19, 20, 21] rfl ?_
      simp only [Act.put, aAll]
      refine till_tl (i := 8) [9, 10, 11, 14, 15, 16, 17, 18, 19, 20, 21] rfl ?_
      simp only [Act.put, aAll]
      refine till_tl (i := 9) [10, 11, 14, 15, 16, 17, 18, 19, 20, 21] rfl ?_
      simp only [Act.put, aAll]
      refine till_tl (i := 10) [11, 14, 15, 16, 17, 18, 19, 20, 21] rfl ?_
      simp only [Act.put, aAll]
      refine till_tl (i := 12) [14, 15, 16, 17, 18, 19, 20, 21] rfl ?_
      simp only [Act.put, aAll]
      refine till_tl (i := 13) [14, 15, 16, 17, 18, 19, 20, 21] rfl ?_
      simp only [Act.put, aAll]
      refine till_in (i := 6) (by kernel_rfl) rfl (fun K hK => ?_)
      go_simp
      refine (vdotK ab N cb2 (ms.getD 0 []) 294 ab N cb2 (ms.getD 0 []) 294 _ ((vb.later HW).vk (by omega)) ((vb.later HW).vk (by omega)) (by omega) (by omega) (by omega) (by omega)).mono ?_
      rintro e w9 ⟨b7, a7, l7, c7, rfl, h7, hb9⟩
      replace HW := Below.step HW hb9
      clear hb9
      refine hK.out _ _ ?_ (fun hHeld => ?_)
      ·exact (HW.cell (p := ⟨gb, ob, none⟩) hgb).trans xb
      clear hK K
      try simp only [Act.put, aAll]
      refine till_in (i := 11) (by kernel_rfl) rfl (fun K hK => ?_)
      go_simp
      refine (rofK (P : Int) _ (by omega) (by omega)).mono ?_
      rintro e w9 ⟨b8, a8, l8, c8, rfl, h8, hb9⟩
      replace HW := Below.step HW hb9
      replace h7 := h7.later hb9
      clear hb9
      refine hK.out _ _ ?_ (fun hHeld => ?_)
      ·exact (HW.cell (p := ⟨gb, ob, none⟩) hgb).trans xb
      clear hK K
      try simp only [Act.put, aAll]
      refine till_in (i := 14) (by kernel_rfl) rfl (fun K hK => ?_)
      go_simp
      refine (vdotK av N cv zs 10 av N cv zs 10 _ ((hv.later HW).vk (by omega)) ((hv.later HW).vk (by omega)) (by omega) (by omega) (by omega) (by omega)).mono ?_
      rintro e w9 ⟨b10, a10, l10, c10, rfl, h10, hb9⟩
      replace HW := Below.step HW hb9
      replace h7 := h7.later hb9
      replace h8 := h8.later hb9
      clear hb9
      refine hK.out _ _ ?_ (fun hHeld => ?_)
      ·exact (HW.cell (p := ⟨gb, ob, none⟩) hgb).trans xb
      clear hK K
      try simp only [Act.put, aAll]
      refine till_in (i := 15) (by kernel_rfl) rfl (fun K hK => ?_)
      go_simp
      have hlen8 := FK.len_le h8
      have hlen10 := FK.len_le h10
      refine (rmulK b8 a8 l8 c8 (P : Int) 2 b10 a10 l10 c10 (vdot zs zs) (10 + 10 + N) _ (h8.ik (by omega)) (h10.ik (by omega)) (by omega)).mono ?_
      rintro e w9 ⟨b11, a11, l11, c11, rfl, h11, hb9⟩
      replace HW := Below.step HW hb9
      replace h7 := h7.later hb9
      clear hb9 h8 h10 hlen8 hlen10
      refine hK.out _ _ ?_ (fun hHeld => ?_)
      ·exact (HW.cell (p := ⟨gb, ob, none⟩) hgb).trans xb
      clear hK K
      try simp only [Act.put, aAll]
      refine till_in (i := 16) (by kernel_rfl) rfl (fun K hK => ?_)
      go_simp
      refine (rcmpK b7 a7 l7 c7 (vdot (ms.getD 0 []) (ms.getD 0 [])) (294 + 294 + N) b11 a11 l11 c11 ((P : Int) * vdot zs zs) (2 + (10 + 10 + N)) s _ (h7.ik (by omega)) (h11.ik (by omega)) (unhide ES)).mono ?_
      rintro e w9 ⟨rfl, hb9⟩
      replace HW := Below.step HW hb9
      clear hb9 h7 h11
      refine hK.out _ _ ?_ (fun hHeld => ?_)
      ·exact (HW.cell (p := ⟨gb, ob, none⟩) hgb).trans xb
      clear hK K
      try simp only [Act.put, aAll]
      refine till_tl (i := 17) [18, 19, 20, 21] rfl ?_
      simp only [Act.put, aAll]
      refine till_tl (i := 18) [19, 20, 21] rfl ?_
      simp only [Act.put, aAll]
      refine till_in (i := 19) (by kernel_rfl) rfl (fun K hK => ?_)
      go_simp
      refine (awake13_any _).mono ?_
      rintro e w9 ⟨rfl, hb9⟩
      replace HW := Below.step HW hb9
      clear hb9
      refine hK.out _ _ ?_ (fun hHeld => ?_)
      ·exact (HW.cell (p := ⟨gb, ob, none⟩) hgb).trans xb
      clear hK K
      try simp only [Act.put, aAll]
      refine till_tl (i := 20) [21] rfl ?_
      simp only [Act.put, aAll]
      refine till_out (i := 21) (by kernel_rfl) rfl (by kernel_rfl) (fun K hK => ?_)
      go_simp
      refine hK.out _ _ ?_
      clear hK K
      try simp only [Act.put, aAll]
      refine till_done (by kernel_rfl) ?_ _
      clear hHeld xb vb hv hmf
      go_wp2
      go_ret
      exact ⟨rfl, Below.step (unhide HB) HW⟩
 ·clear hlt hb1 r0
  go_wp2_with fail
  refine (awake13_any _).mono ?_
  rintro e wv ⟨rfl, hb9⟩
  go_wp2
  go_ret
  exact ⟨rfl, Below.step (unhide HB) hb9⟩
end Go.Proofs.Ytnpneloahajniaa
