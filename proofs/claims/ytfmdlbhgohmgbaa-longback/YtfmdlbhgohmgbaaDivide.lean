/-
  What long.divide does: the quotient in a row of its own; what is left stays in the row that was handed in.
-/
import Derived.Test.YtfmdlbhgohmgbaaGuess
import Derived.Test.YtfmdlbhgohmgbaaTakeAway
import Derived.Test.YtfmdlbhgohmgbaaGiveBack
namespace Go.Proofs.Ytfmdlbhgohmgbaa
open Go.RowKit Lb

set_option maxRecDepth 20000 in
set_option maxHeartbeats 2000000 in
theorem divide_any (base g N cap : Nat) (zs : List Nat) (ab : Option Addr) (lb cb : Nat) (ys : List Nat) (w : World)
    (hown0 : Own w base (.slice (some ⟨g, 0, none⟩) N cap) N zs) (hsm0 : Small zs) (hb : RowAt w ab lb cb ys) (hoff : Off g ab lb) (hlb : 2 ≤ lb) (hfit : lb + 1 ≤ N) (hN : N ≤ 10000001)
    (htop : 2147483648 ≤ lim ys (lb - 1)) (hlt : val (zs.drop (N - lb)) < val ys) :
    Calls Try.prog 27 #[.slice (some ⟨g, 0, none⟩) N cap, .slice ab lb cb] w fun e w' => ∃ ao' len' cap' us, e = .returned (.slice ao' len' cap') ∧ NumAt w' ao' len' cap' (val zs / val ys) ∧ Own w' base (.slice (some ⟨g, 0, none⟩) N cap) N us ∧ Small us ∧ val us = val zs % val ys ∧ Only g w w' := by
  have hm2 := hb.cap_max
  have hc2 := hb.cap_le
  obtain ⟨hcp1, hcp2⟩ := hown0.cap
  unfold maxLen at hm2 hcp2
  have hgl := hown0.lt
  have hDlt : val ys < Bp lb := by have := val_lt hb.small; rwa [hb.len_eq] at this
  have HDL := hide hDlt
  have HLT := hide hlt
  clear hDlt hlt
  go_enter Try.func27, Try.ntmps27
  go_wp2_with (at_make; refine make_row rfl _ _ rfl w.heap.size .i64 .i64 _ _ (N - lb) rfl rfl (by omega) (by omega) (by omega) (Nat.le_refl _) ?_)
  intro w1 hown1 hgrow1
  have honly1 : Only g w w1 := ⟨hgrow1.os, hgrow1.tape, hgrow1.output, hgrow1.size, fun k hk _ => hgrow1.block k hk (by simp)⟩
  have hownR := hown0.only (g := w.heap.size) (by omega) ⟨hgrow1.os, hgrow1.tape, hgrow1.output, hgrow1.size, fun k hk _ => hgrow1.block k hk (by simp)⟩
  clear hgrow1
  go_wp2_with fail
  go_loopw [6] (fun i wr => ∃ (k : Nat) (us qs : List Nat), k ≤ N - lb ∧ i = .int .i64 ((k : Int) - 1) ∧ Own wr base (.slice (some ⟨g, 0, none⟩) N cap) N us ∧ Small us ∧ Own wr w.heap.size (.slice (some ⟨w.heap.size, 0, none⟩) (N - lb) (N - lb)) (N - lb) qs ∧ Small qs ∧ val (us.drop k) < val ys ∧ val (zs.drop k) = val (qs.drop k) * val ys + val (us.drop k) ∧ (∀ t, t < k → lim us t = lim zs t) ∧ Only g w wr) (fun i _ => (intOf i + 1).toNat)
  case atStart =>
    refine ⟨N - lb, zs, _, Nat.le_refl _, by go_num, hownR, hsm0, hown1, small_replicate _, unhide HLT, ?_, fun _ _ => rfl, honly1⟩
    rw [val_drop_end (xs := List.replicate _ 0) (by simp), Nat.zero_mul, Nat.zero_add]
  case round =>
    obtain ⟨k, us, qs, hk, rfl, hown, hsm, hownq, hsmq, hlt, hval, hsame, honly⟩ := hrel
    have HV := hide hval
    have HS := hide hsame
    have HL := hide hlt
    clear hval hsame hlt
    by_cases hp : 0 < k
    · have ulen := hide hown.len
      have qlen := hide hownq.len
      have hbr := hb.only hoff honly
      have hr := hown.part hsm (o := k - 1) (m := lb + 1) (c := cap - (k - 1)) (by omega) (by omega) (by omega) (by unfold maxLen; omega)
      have hz : ∀ i, k - 1 + (lb + 1) ≤ i → lim us i = 0 := by
        intro i hi
        have := zero_above (Nat.lt_trans (unhide HL) (unhide HDL)) (i - k) (by omega)
        rw [lim_drop, show k + (i - k) = i by omega] at this
        exact this
      have hpv := part_all (us := us) (o := k - 1) (m := lb + 1) (by rw [unhide ulen]; omega) hz
      have hstep := val_drop_step us (k - 1)
      rw [show k - 1 + 1 = k by omega, ← hpv] at hstep
      have hPlt : val ((us.drop (k - 1)).take (lb + 1)) < 4294967296 * val ys := by
        rw [hstep]
        have h1 := unhide HL
        have h2 := hsm (k - 1)
        omega
      have hlen : k - 1 + lb + 1 - (k - 1) = lb + 1 := by omega
      have HR := hide hr
      have HP := hide hPlt
      have HST := hide hstep
      have HZ := hide hz
      clear hr hPlt hpv hstep hz
      go_wp2_with fail
      refine (guess_any _ _ _ _ _ _ ys _ (unhide HR) hbr hlb htop (unhide HP)).mono ?_
      rintro e w2 ⟨T, rfl, hT, hg1, hg2, nk, hw2⟩
      have hb2 : Below wr.heap.size wr w2 := by rw [hw2]; exact below_drewN (Below.refl _ _) nk
      have HG1 := hide hg1
      have HG2 := hide hg2
      have hown2 := hown.later hb2
      have hownq2 := hownq.later hb2
      have honly2 := honly.then (Only.below hb2)
      have cs := hownq2.cell (i := k - 1) (by omega)
      have cf := hownq2.free (k - 1)
      clear hw2 hg1 hg2 hown hownq honly hb2 hbr HR
      have hownq3 := hownq2.set (k - 1) T (e := (T : Int)) rfl
      have hownr3 := hown2.only (g := w.heap.size) (by omega) ((Only.refl _ _).setCell (k - 1) (.int .u32 (T : Int)))
      go_wp2_with fail
      have honly3 : Only g w (w2.setCell ⟨w.heap.size, k - 1, none⟩ (.int .u32 (T : Int))) := honly2.above (Nat.le_refl _) _ _
      refine (takeAway_any base g N cap us (k - 1) _ _ lb _ ys T _ hownr3 hsm (hb.only hoff honly3) hoff (by omega) hT).mono ?_
      rintro e w4 ⟨c, us4, rfl, hc, hown4, hsm4, hsame4, hval4, ho4⟩
      have honly4 := honly3.then ho4
      have hownq4 := hownq3.only (g := g) (by omega) ho4
      have u4len := hide hown4.len
      have he := part_eq (us := us) (vs := us4) (o := k - 1) (m := lb + 1) (by rw [unhide ulen]; omega) (by rw [unhide u4len]; omega) (fun i hi => hsame4 i (Or.inl hi)) hval4
      have HE := hide he
      have HS4 := hide hsame4
      clear he hsame4 hval4 ho4 hownq3 hownr3 hown2 hownq2 honly2 honly3 cs cf
      have hfin : ∀ (vs : List Nat) (t : Nat), vs.length = N → (∀ i, i < k - 1 ∨ k - 1 + lb + 1 ≤ i → lim vs i = lim us i) → val ((vs.drop (k - 1)).take (lb + 1)) < val ys → val ((us.drop (k - 1)).take (lb + 1)) = t * val ys + val ((vs.drop (k - 1)).take (lb + 1)) →
          val (vs.drop (k - 1)) < val ys ∧ val (zs.drop (k - 1)) = val (((qs.set (k - 1) t)).drop (k - 1)) * val ys + val (vs.drop (k - 1)) ∧ ∀ i, i < k - 1 → lim vs i = lim zs i := by
        intro vs t hl hs h1 h2
        have h3 := part_all (us := vs) (o := k - 1) (m := lb + 1) (by omega) (fun i hi => by rw [hs i (Or.inr (by omega))]; exact unhide HZ i hi)
        refine ⟨by rw [← h3]; exact h1, ?_, fun i hi => by rw [hs i (Or.inl hi)]; exact unhide HS i (by omega)⟩
        rw [val_drop_set _ _ _ (by rw [unhide qlen]; omega), val_drop_step zs (k - 1), show k - 1 + 1 = k by omega, ← unhide HS (k - 1) (by omega), ← h3]
        exact div_limb (unhide HV) (unhide HST) h2
      have HF := hide hfin
      clear hfin
      rcases (show c = 0 ∨ c = 1 by omega) with rfl | rfl
      · have hd := div_took (by have := unhide HE; rw [Nat.zero_mul, Nat.add_zero] at this; exact this) (unhide HG1)
        obtain ⟨f1, f2, f3⟩ := unhide HF us4 T (unhide u4len) (fun i hi => unhide HS4 i (by omega)) hd.1 hd.2
        have F1 := hide f1
        have F2 := hide f2
        have F3 := hide f3
        clear hd f1 f2 f3 HF HE
        go_wp2
        go_roundw
        case rel => exact ⟨k - 1, us4, qs.set (k - 1) T, by omega, by go_num, hown4, hsm4, hownq4, small_set hsmq hT, unhide F1, unhide F2, unhide F3, honly4⟩
        case measure => simp [intOf]; omega
      · have hT1 : 0 < T := by
          rcases Nat.eq_zero_or_pos T with e | e
          · exfalso
            have h1 := unhide HE
            rw [e, Nat.zero_mul, Nat.add_zero, Nat.one_mul] at h1
            have h2 := val_lt (small_take (small_drop hsm4 (k - 1)) (lb + 1))
            rw [List.length_take, List.length_drop, unhide u4len, Nat.min_eq_left (by omega)] at h2
            omega
          · exact e
        have cs := hownq4.cell (i := k - 1) (by omega)
        rw [lim_set _ _ _ _ (by rw [unhide qlen]; omega), if_pos rfl] at cs
        have cf := hownq4.free (k - 1)
        have hownq5 := hownq4.set (k - 1) (T - 1) (e := (T : Int) - 1) (by omega)
        rw [List.set_set] at hownq5
        have hownr5 := hown4.only (g := w.heap.size) (by omega) ((Only.refl _ _).setCell (k - 1) (.int .u32 ((T : Int) - 1)))
        have honly5 : Only g w (w4.setCell ⟨w.heap.size, k - 1, none⟩ (.int .u32 ((T : Int) - 1))) := honly4.above (Nat.le_refl _) _ _
        clear hown4 hownq4 honly4
        go_wp2_with fail
        refine (giveBack_any base g N cap us4 (k - 1) _ _ lb _ ys _ hownr5 hsm4 (hb.only hoff honly5) hoff (by omega) (by omega)).mono ?_
        rintro e w6 ⟨c6, us6, rfl, hown6, hsm6, hsame6, hval6, ho6⟩
        have honly6 := honly5.then ho6
        have hownq6 := hownq5.only (g := g) (by omega) ho6
        have u6len := hide hown6.len
        have he6 := part_eq (us := us6) (vs := us4) (o := k - 1) (m := lb + 1) (by rw [unhide u6len]; omega) (by rw [unhide u4len]; omega) (fun i hi => (hsame6 i (Or.inl hi)).symm) hval6.symm
        have hm4 := val_lt (small_take (small_drop hsm4 (k - 1)) (lb + 1))
        rw [List.length_take, List.length_drop, unhide u4len, Nat.min_eq_left (by omega)] at hm4
        have hm6 := val_lt (small_take (small_drop hsm6 (k - 1)) (lb + 1))
        rw [List.length_take, List.length_drop, unhide u6len, Nat.min_eq_left (by omega)] at hm6
        have hd := div_gave (by have := unhide HE; rw [Nat.one_mul] at this; exact this) he6.symm (unhide HG2) hm4 hm6 (Nat.le_of_lt (Nat.lt_of_lt_of_le (unhide HDL) (Bp_le (by omega))))
        obtain ⟨f1, f2, f3⟩ := unhide HF us6 (T - 1) (unhide u6len) (fun i hi => by rw [hsame6 i hi]; exact unhide HS4 i (by omega)) hd.2.1 hd.2.2
        have F1 := hide f1
        have F2 := hide f2
        have F3 := hide f3
        clear hd f1 f2 f3 HF HE hm4 hm6 he6 hsame6 hval6 ho6
        go_wp2
        go_roundw
        case rel => exact ⟨k - 1, us6, qs.set (k - 1) (T - 1), by omega, by go_num, hown6, hsm6, hownq6, small_set hsmq (by omega), unhide F1, unhide F2, unhide F3, honly6⟩
        case measure => simp [intOf]; omega
    · obtain rfl : k = 0 := by omega
      have hrq := rowAt_own hownq hsmq
      have h1 := unhide HV
      have h2 := unhide HL
      rw [List.drop_zero, List.drop_zero, List.drop_zero] at h1
      rw [List.drop_zero] at h2
      have hd := div_done h1 h2
      have HD := hide hd
      clear h1 h2 hd
      go_wp2_with fail
      refine (lcut_any _ _ _ qs _ hrq).mono ?_
      rintro e w' ⟨⟨a3, l3, c3, rfl, hnum, hl3⟩, rfl⟩
      rw [← (unhide HD).1] at hnum
      go_wp2
      go_ret
      exact ⟨_, _, _, us, rfl, hnum, hown, hsm, (unhide HD).2.symm, honly⟩

#print axioms divide_any
end Go.Proofs.Ytfmdlbhgohmgbaa
