/-
 What lowered of package hnf tells: a vector less a sum of the rows, so that at each pivot it is from 0 on and below the row's number there.
-/
import Derived.Test.YtnpneloahajniaaGreatJS
import Derived.Test.YtnpneloahajniaaGreatJP
import Derived.Test.YtnpneloahajniaaGreatJF
import Derived.Test.YtnpneloahajniaaGreatJI
namespace Go.Proofs.YtnpneloahajniaaGreat
open Go.RowKit Lb
set_option maxRecDepth 20000

theorem low_in {rs : List (List Int)} {zs us : List Int} (h : InL rs fun j => zs.getD j 0 - us.getD j 0) (x : Int) (i : Nat) : InL rs fun j => zs.getD j 0 - (vsub us (vtimes (rs.getD i []) x)).getD j 0 := (h.add ((inL_row (l := rs) i).mul x)).eq fun j => by
 rw [vsub_at, vtimes_at, Int.mul_comm];show zs.getD j 0 - (us.getD j 0 - x * ent rs i j) = zs.getD j 0 - us.getD j 0 + x * ent rs i j;omega
theorem low_step {rs : List (List Int)} {p : Nat → Nat} {us : List Int} {i : Nat} (hf : EForm rs p) (hi : i < rs.length) (h : ∀ s, s < i → 0 ≤ us.getD (p s) 0 ∧ us.getD (p s) 0 < ent rs s (p s)) : ∀ s, s < i + 1 → 0 ≤ (vsub us (vtimes (rs.getD i []) (us.getD (p i) 0 / ent rs i (p i)))).getD (p s) 0 ∧ (vsub us (vtimes (rs.getD i []) (us.getD (p i) 0 / ent rs i (p i)))).getD (p s) 0 < ent rs s (p s) := by
 intro s hs;rw [vsub_at, vtimes_at];have e : (rs.getD i []).getD (p s) 0 = ent rs i (p s) := rfl;rw [e];by_cases c : s = i
 ·subst c;have hp := hf.pos s hi;have h1 := Int.emod_nonneg (us.getD (p s) 0) (show ent rs s (p s) ≠ 0 by omega);have h2 := Int.emod_lt_of_pos (us.getD (p s) 0) hp;have h3 := Int.mul_ediv_add_emod (us.getD (p s) 0) (ent rs s (p s));omega
 ·rw [hf.ahead i hi (p s) (hf.rise s i (by omega) hi), Int.zero_mul, Int.sub_zero];exact h s (by omega)
theorem low_skip {rs : List (List Int)} {p : Nat → Nat} {us : List Int} {i : Nat} (hi : 0 ≤ us.getD (p i) 0 ∧ us.getD (p i) 0 < ent rs i (p i)) (h : ∀ s, s < i → 0 ≤ us.getD (p s) 0 ∧ us.getD (p s) 0 < ent rs s (p s)) : ∀ s, s < i + 1 → 0 ≤ us.getD (p s) 0 ∧ us.getD (p s) 0 < ent rs s (p s) := by
 intro s hs;by_cases c : s = i
 ·subst c; exact hi
 ·exact h s (by omega)
set_option maxRecDepth 40000 in
set_option maxHeartbeats 4000000 in
theorem loweredK (ao : Option Addr) (N cap : Nat) (zs : List Int) (k : Nat) (ah : Option Addr) (n ch : Nat) (p : Nat → Nat) (rs : List (List Int)) (b : Nat) (w : World) (h : VK w ao N cap zs k) (hh : SRows w ah n ch p rs b) (hf : EForm rs p) (hN : ∀ i, i < n → (rs.getD i []).length = N) (hK : k + n * (b + 1) ≤ 400000) (hb : b ≤ 400000) (hNl : N ≤ 1000) :
  Calls Tryz.prog 110 #[.slice ao N cap, .slice ah n ch] w fun e w' => ∃ a1 c1 us, e = .returned (.slice a1 N c1) ∧ VK w' a1 N c1 us (k + n * (b + 1)) ∧ (VF w ao N cap zs k → VF w' a1 N c1 us (k + n * (b + 1))) ∧ InL rs (fun j => zs.getD j 0 - us.getD j 0) ∧ (∀ s, s < n → 0 ≤ us.getD (p s) 0 ∧ us.getD (p s) 0 < ent rs s (p s)) ∧ Below w.heap.size w w' := by
 have HL := zh hh.len_eq;have hm := Nat.le_trans hh.cap_le hh.cap_max;unfold maxLen at hm;have HF := zh hf;have HN := zh hN;have HZ := zh h.len_eq;clear hN hf;go_enter Tryz.func110, Tryz.ntmps110
 go_wp2_with fail
 go_loopw [0, 13] (fun v t wr => ∃ (i : Nat) (av : Option Addr) (cv : Nat) (us : List Int), i ≤ n ∧ t = .int .i64 (i : Int) ∧ v = .slice av N cv ∧ VK wr av N cv us (k + i * (b + 1)) ∧ (VF w ao N cap zs k → VF wr av N cv us (k + i * (b + 1))) ∧ InL rs (fun j => zs.getD j 0 - us.getD j 0) ∧ (∀ s, s < i → 0 ≤ us.getD (p s) 0 ∧ us.getD (p s) 0 < ent rs s (p s)) ∧ Below w.heap.size w wr) (fun _ t _ => n - (intOf t).toNat)
 case atStart => exact ⟨0, _, _, zs, Nat.zero_le _, rfl, rfl, by rw [Nat.zero_mul]; exact h, by rw [Nat.zero_mul]; exact fun h => h, (inL_zero rs).eq fun j => by omega, fun s hs => absurd hs (by omega), Below.refl _ _⟩
 case round =>
  obtain ⟨i, av, cv, us, hi, rfl, rfl, hu, huf, hin, hall, hB⟩ := hrel;have HI := zh hin;have HALL := zh hall;have HB := zh hB;have HU := zh huf;clear hin hall hB huf;by_cases hlt : i < n
  ·obtain ⟨M, eM⟩ : ∃ M, M = k + i * (b + 1) := ⟨_, rfl⟩;have hM : M + b + 1 ≤ 400000 := by
    have h1 : (i + 1) * (b + 1) ≤ n * (b + 1) := Nat.mul_le_mul_right _ hlt;rw [Nat.add_mul, Nat.one_mul] at h1;omega
   rw [← eM] at hu;have EM := zh eM;clear eM;obtain ⟨gh, oh, rfl⟩ := hh.some (by omega);obtain ⟨hgh, a2, l2, c2, x1, x2, hr⟩ := hh.at hlt;have hl2 : N = l2 := by rw [← hr.len_eq]; exact (zu HN i hlt).symm
   subst hl2;have HM2 := zh (show k + (i + 1) * (b + 1) = M + (b + 1) by rw [zu EM, Nat.add_mul]; omega);have HM1 := zh (show k + (i + 1) * (b + 1) ≤ 400000 by rw [zu HM2]; omega);have hlt' : i < rs.length := by rw [zu HL]; exact hlt
   have hpN : p i < N := by
    have h1 := (zu HF).isPivot hlt';have h2 := h1.lt;rw [zu HN i hlt] at h2;exact h2
   have H0 := zh (show ent rs i (p i) ≠ 0 by have := (zu HF).pos i hlt'; omega);have f1 := ((zu HB).cell (p := ⟨gh, oh + i * 2, none⟩) hgh).trans x1;have f2 := ((zu HB).cell (p := ⟨gh, oh + i * 2 + 1, none⟩) hgh).trans x2;have hgr := Nat.lt_of_lt_of_le hgh (zu HB).size;replace hr := hr.za (zu HB);obtain ⟨g2, o2, rfl⟩ := hr.some (by omega);obtain ⟨b3, a3, l3, c3, E3, hy3⟩ := hr.at hpN;obtain ⟨f3, f4⟩ := E3.zb;have hg2 := E3.1;obtain ⟨gv, ov, rfl⟩ := hu.some (by omega);obtain ⟨b4, a4, l4, c4, E4, hy4⟩ := hu.at hpN;have hgv := E4.1;have hp2 : (p i : Int) < (N : Int) := by omega
   have hp0 : (0 : Int) ≤ (p i : Int) := by omega
   obtain ⟨q, eq⟩ : ∃ q, q = decide (0 ≤ us.getD (p i) 0 ∧ us.getD (p i) 0 < ent rs i (p i)) := ⟨_, rfl⟩;have EQ := zh eq;clear eq x1 x2 hgh
   go_upto_region 5 with fail
   obtain ⟨W1, hW1⟩ : ∃ W1, W1 = wr.alloc (.cells #[.int .i64 (p i : Int), .slice (some ⟨g2, o2, none⟩) N c2] 103) := ⟨_, rfl⟩;have BS : SBox W1 wr.heap.size (p i : Int) (some ⟨g2, o2, none⟩) N c2 := by rw [hW1]; exact sbox_new wr _ _ _ _ rfl
   have hb0 : Below wr.heap.size wr W1 := by rw [hW1]; exact below_new _ _
   rw [← hW1];have hsz1 : W1.heap.size = wr.heap.size + 1 := by rw [hW1]; simp
   clear hW1;obtain ⟨W2, hW2⟩ : ∃ W2, W2 = W1.alloc (.cells #[.bool b3, .slice a3 l3 c3] 45) := ⟨_, rfl⟩;obtain ⟨BT, hb1⟩ := boxes1 W1 b3 a3 l3 c3 hW2;rw [← hW2];clear hW2;rw [hsz1] at BT;replace BS := BS.za hb1;have hb2 := Below.step hb0 hb1;clear hb0 hb1 hsz1 f1 f2 f3 f4 hg2 hgv hgr E3;obtain ⟨gs, egs⟩ : ∃ gs, gs = wr.heap.size := ⟨_, rfl⟩;rw [← egs] at BS BT ⊢;obtain ⟨gt, egt⟩ : ∃ gt, gt = gs + 1 := ⟨_, rfl⟩;rw [← egt] at BT ⊢;clear egs egt;replace E4 := E4.za hb2;replace hy4 := hy4.za hb2;replace hy3 := hy3.za hb2;replace hr := hr.za hb2;replace hu := hu.za hb2;have HB0 := HB;replace HB := zh (Below.step (zu HB) hb2);have hk9 : b ≤ 999990 := by omega
   replace hy3 := hy3.ik hk9;have HC2 := zh hb2;clear hb2;have HW : Below W2.heap.size W2 W2.drew := (Below.refl _ _).drew;have HS := zh fun w' (HW : Below W2.heap.size W2 w') => con5 (BS.za HW).zb.1 (E4.za HW).zb.1 (E4.za HW).zb.2 (BT.za HW).zb.1 (BT.za HW).zb.2.1;refine zst HS HW 7 (by kernel_rfl) fun zH => ?_;refine ztl 0 rfl ?_;simp only [Act.put, aGet, aZero, aSet, aHead, aTail];refine ztl 1 rfl ?_;simp only [zP];refine ztl 2 rfl ?_;simp only [zP];refine ztl 3 rfl ?_;simp only [zP];refine ztl 4 rfl ?_;simp only [zP];refine ztl 5 rfl ?_;simp only [zP];refine tin 6 rfl fun K hK => ?_;go_simp;refine (isRestK b4 a4 l4 c4 (us.getD (p i) 0) M b3 a3 l3 c3 (ent rs i (p i)) b q _ (hy4.za HW) (hy3.za HW) (zu EQ)).mono ?_;rintro e w9 ⟨rfl, hb9⟩;replace HW := Below.step HW hb9;clear hb9;refine hK.out _ _ ?_ (fun zH => ?_)
   ·exact zu HS _ HW
   clear hK K
   try simp only [zP]
   refine tout 7 rfl fun K hK => ?_;go_simp;refine hK.out _ _ ?_;clear hK K
   try simp only [zP]
   refine zdn (by kernel_rfl) ?_ _;replace BS := BS.za HW;replace BT := BT.za HW;replace E4 := E4.za HW;replace hy4 := hy4.za HW;replace hy3 := hy3.za HW;replace hr := hr.za HW;replace hu := hu.za HW;replace HB := zh (Below.step (zu HB) HW);replace HC2 := zh (Below.step (zu HC2) HW);clear HW zH;by_cases hq : q = true
   ·subst hq;have hqq := of_decide_eq_true (zu EQ).symm;have HQQ := zh hqq;clear hqq;go_wp2;go_roundw
    case rel => exact ⟨i + 1, _, _, us, by omega, by go_num, rfl, VecOf.mono hu (fun _ h => h.up (by have := zu HM2; omega)), fun hv => vf_up ((zu EM ▸ (zu HU hv)).za (zu HC2)) (by have := zu HM2; omega), zu HI, low_skip (zu HQQ) (zu HALL), zu HB⟩
    case measure => simp [intOf]; omega
   ·have hqf : q = false := by simpa using hq
    subst hqf;clear hq;simp only [Bool.not_false]
    go_upto_region 6 with fail
    have HW : Below w9.heap.size w9 w9.drew := (Below.refl _ _).drew;have HS := zh fun w' (HW : Below w9.heap.size w9 w') => con5 (BS.za HW).zb.1 (E4.za HW).zb.1 (E4.za HW).zb.2 (BT.za HW).zb.1 (BT.za HW).zb.2.1;refine zst HS HW 13 (by kernel_rfl) fun zH => ?_;obtain ⟨vd1, hvd⟩ : ∃ v, v = w9.drew := ⟨_, rfl⟩;rw [← hvd] at HW zH ⊢;clear hvd;refine zfl 0 rfl ?_;simp only [Act.put, aGet, aZero, aSet, aHead, aTail];refine zfl 1 rfl ?_;simp only [zP];refine ztm 2 rfl ?_;simp only [zP];refine ztm 3 rfl ?_;simp only [zP];refine ztm 4 rfl ?_;simp only [zP];refine ztm 5 rfl ?_;simp only [zP];refine znm (fun act0 hact0 => ?_);have HA := zh hact0;clear hact0;refine zmd 3 #[tT, tT, tT, tT, tT, tT, tT, tT, tT, tT, tT, tT, tT, tF, tF, tF] (ι := Bool × Option Addr × Nat × Nat × Bool × Option Addr × Nat × Nat × Nat × Nat) (fun (b5, a5, l5, c5, b6, a6, l6, c6, g7, g8) => (((((((act0.put (some 38) (.tuple #[.agg #[.bool b5, .slice a5 l5 c5], .agg #[.bool b6, .slice a6 l6 c6], .bool true])).put (some 31) (.tuple #[.agg #[.bool b5, .slice a5 l5 c5], .agg #[.bool b6, .slice a6 l6 c6], .bool true])).put (some 39) (.agg #[.bool b5, .slice a5 l5 c5])).put (some 40) (.agg #[.bool b6, .slice a6 l6 c6])).put (some 41) (.bool true)).put (some 8) ((.pointer (some ⟨g7, 0, none⟩)))).put (some 9) ((.pointer (some ⟨g8, 0, none⟩))))) (fun (b5, a5, l5, c5, b6, a6, l6, c6, g7, g8) w => Below w9.heap.size w9 w ∧ FK w b5 a5 l5 c5 (us.getD (p i) 0 / ent rs i (p i)) M ∧ FK w b6 a6 l6 c6 (us.getD (p i) 0 % ent rs i (p i)) b ∧ Box w g7 false none 0 0 ∧ w9.heap.size ≤ g7 ∧ Box w g8 false none 0 0 ∧ w9.heap.size ≤ g8 ∧ g7 ≠ g8) ?_ (fun J0 => ?_)
    ·rintro ⟨b5, a5, l5, c5, b6, a6, l6, c6, g7, g8⟩ wj hI
     try dsimp only at hI ⊢
     obtain ⟨HW, h5, h6, B7, hg7, B8, hg8, hneg7g8⟩ := hI;have zH := zu HS _ HW;rw [zu HA];simp only [Act.put, aSet, aHead, aTail];obtain ⟨q1B7, q2B7, q3B7, q4B7⟩ := B7.zb;have hltB7 := B7.lt;obtain ⟨q1B8, q2B8, q3B8, q4B8⟩ := B8.zb;have hltB8 := B8.lt;refine tout 13 rfl fun K hK => ?_;go_simp;refine hK.out _ _ ?_;clear hK K
     try simp only [aSet, aHead, aTail]
     refine tout 14 rfl fun K hK => ?_;go_simp;refine hK.out _ _ ?_;clear hK K
     try simp only [aSet, aHead, aTail]
     refine tout 15 rfl fun K hK => ?_;go_simp;refine hK.out _ _ ?_;clear hK K
     try simp only [aSet, aHead, aTail]
     refine zdn (by kernel_rfl) ?_ _;have n7 := B7.noLimb;have n8 := (B8.other (g' := g7) (Ne.symm hneg7g8) b5 a5 l5 c5).noLimb;obtain ⟨W8, hW8⟩ : ∃ W8, W8 = ((((wj.setCell ⟨g7, 0, none⟩ (.bool b5)).setCell ⟨g7, 1, none⟩ (.slice a5 l5 c5)).setCell ⟨g8, 0, none⟩ (.bool b6)).setCell ⟨g8, 1, none⟩ (.slice a6 l6 c6)) := ⟨_, rfl⟩;rw [← hW8];have Bq : Box W8 g7 b5 a5 l5 c5 := by rw [hW8]; exact (B7.put b5 a5 l5 c5).other (g' := g8) hneg7g8 b6 a6 l6 c6
     have hQ5 : FK W8 b5 a5 l5 c5 (us.getD (p i) 0 / ent rs i (p i)) M := by rw [hW8]; exact (h5.put n7 b5 a5 l5 c5).put n8 b6 a6 l6 c6
     have HC : Below w9.heap.size w9 W8 := by rw [hW8]; exact below_put (below_put HW hg7 _ _ _ _) hg8 _ _ _ _
     clear hW8 HW zH B7 B8 n7 n8 h5 h6 q1B7 q2B7 q3B7 q4B7 q1B8 q2B8 q3B8 q4B8;replace HB := zh (Below.step (zu HB) HC);replace BS := BS.za HC;replace hr := hr.za HC;replace hu := hu.za HC;clear HC;obtain ⟨f1, f2, _, _⟩ := Bq.zb;obtain ⟨f3, f4, _, _⟩ := BS.zb;have hsQ := Bq.lt;have hsS := BS.lt
     go_wp2_with fail
     refine (vtimesK _ _ _ (rs.getD i []) b b5 a5 l5 c5 (us.getD (p i) 0 / ent rs i (p i)) M _ (hr.vk (by omega)) (hQ5.ik (by omega)) (by omega)).mono ?_;rintro e w6 ⟨a8, c8, rfl, h8, hb1⟩;clear f1 f2 f3 f4 hsQ hsS hQ5 Bq BS hr;replace hu := hu.za hb1;replace HB := zh (Below.step (zu HB) hb1);clear hb1
     go_wp2_with fail
     refine (vsubK _ _ _ us M _ _ _ (vtimes (rs.getD i []) (us.getD (p i) 0 / ent rs i (p i))) (b + M) _ hu (h8.vk (by omega)) (by omega) (by omega) (by omega) (by omega)).mono ?_;rintro e w7 ⟨a9, c9, rfl, h9, hb1⟩;replace HB := zh (Below.step (zu HB) hb1);clear hb1 hu h8;rw [Nat.max_self, show max M (b + M) + 1 = k + (i + 1) * (b + 1) by rw [zu HM2]; omega] at h9
     (try rw [Nat.max_self])
     go_wp2;go_roundw
     case rel =>
      refine ⟨i + 1, _, _, _, by omega, by go_num, rfl, h9.vk (by have := zu HM1; omega), fun _ => h9, ?_, ?_, zu HB⟩
      ·exact low_in (zu HI) _ i
      ·exact low_step (zu HF) hlt' (zu HALL)
     case measure => simp [intOf]; omega
    refine zmd 4 #[tT, tT, tT, tT, tT, tT, tT, tT, tT, tT, tT, tF, tT, tF, tF, tF] (ι := Bool × Option Addr × Nat × Nat × Bool × Option Addr × Nat × Nat × Nat) (fun (b5, a5, l5, c5, b6, a6, l6, c6, g8) => ((((((act0.put (some 38) (.tuple #[.agg #[.bool b5, .slice a5 l5 c5], .agg #[.bool b6, .slice a6 l6 c6], .bool true])).put (some 31) (.tuple #[.agg #[.bool b5, .slice a5 l5 c5], .agg #[.bool b6, .slice a6 l6 c6], .bool true])).put (some 39) (.agg #[.bool b5, .slice a5 l5 c5])).put (some 40) (.agg #[.bool b6, .slice a6 l6 c6])).put (some 41) (.bool true)).put (some 9) ((.pointer (some ⟨g8, 0, none⟩))))) (fun (b5, a5, l5, c5, b6, a6, l6, c6, g8) w => Below w9.heap.size w9 w ∧ FK w b5 a5 l5 c5 (us.getD (p i) 0 / ent rs i (p i)) M ∧ FK w b6 a6 l6 c6 (us.getD (p i) 0 % ent rs i (p i)) b ∧ Box w g8 false none 0 0 ∧ w9.heap.size ≤ g8) ?_ (fun J1 => ?_)
    ·rintro ⟨b5, a5, l5, c5, b6, a6, l6, c6, g8⟩ wj hI
     try dsimp only at hI ⊢
     obtain ⟨HW, h5, h6, B8, hg8⟩ := hI;have zH := zu HS _ HW;rw [zu HA];simp only [Act.put, aSet, aHead, aTail];refine tin 11 rfl fun K hK => ?_;go_simp;have hwk : w9.heap.size ≤ wj.heap.size := HW.size;have hxg8 := B8.lt;obtain ⟨wk, hWe⟩ := newB wj;obtain ⟨B7, hb9⟩ := boxes1 wj false none 0 0 hWe;rw [← hWe];clear hWe;replace HW := Below.step HW hb9;replace h5 := h5.za hb9;replace h6 := h6.za hb9;replace B8 := B8.za hb9;clear hb9;have hg7 := hwk;have hneg7g8 : wj.heap.size ≠ g8 := by omega
     refine hK.out _ _ ?_ (fun zH => ?_)
     ·exact zu HS _ HW
     clear hK K
     try simp only [aSet, aHead, aTail]
     exact tgo J0 (b5, a5, l5, c5, b6, a6, l6, c6, wj.heap.size, g8) (by (try dsimp only); rw [zu HA]; simp only [Act.put, aSet, aHead, aTail]) (by (try dsimp only); exact ⟨HW, h5, h6, B7, hg7, B8, hg8, hneg7g8⟩)
    refine zmd 4 #[tT, tT, tT, tT, tT, tT, tT, tT, tT, tT, tT, tT, tF, tF, tF, tF] (ι := Bool × Option Addr × Nat × Nat × Bool × Option Addr × Nat × Nat × Nat) (fun (b5, a5, l5, c5, b6, a6, l6, c6, g7) => ((((((act0.put (some 38) (.tuple #[.agg #[.bool b5, .slice a5 l5 c5], .agg #[.bool b6, .slice a6 l6 c6], .bool true])).put (some 31) (.tuple #[.agg #[.bool b5, .slice a5 l5 c5], .agg #[.bool b6, .slice a6 l6 c6], .bool true])).put (some 39) (.agg #[.bool b5, .slice a5 l5 c5])).put (some 40) (.agg #[.bool b6, .slice a6 l6 c6])).put (some 41) (.bool true)).put (some 8) ((.pointer (some ⟨g7, 0, none⟩))))) (fun (b5, a5, l5, c5, b6, a6, l6, c6, g7) w => Below w9.heap.size w9 w ∧ FK w b5 a5 l5 c5 (us.getD (p i) 0 / ent rs i (p i)) M ∧ FK w b6 a6 l6 c6 (us.getD (p i) 0 % ent rs i (p i)) b ∧ Box w g7 false none 0 0 ∧ w9.heap.size ≤ g7) ?_ (fun J2 => ?_)
    ·rintro ⟨b5, a5, l5, c5, b6, a6, l6, c6, g7⟩ wj hI
     try dsimp only at hI ⊢
     obtain ⟨HW, h5, h6, B7, hg7⟩ := hI;have zH := zu HS _ HW;rw [zu HA];simp only [Act.put, aSet, aHead, aTail];refine tin 12 rfl fun K hK => ?_;go_simp;have hwk : w9.heap.size ≤ wj.heap.size := HW.size;have hxg7 := B7.lt;obtain ⟨wk, hWe⟩ := newB wj;obtain ⟨B8, hb9⟩ := boxes1 wj false none 0 0 hWe;rw [← hWe];clear hWe;replace HW := Below.step HW hb9;replace h5 := h5.za hb9;replace h6 := h6.za hb9;replace B7 := B7.za hb9;clear hb9;have hg8 := hwk;have hneg7g8 : g7 ≠ wj.heap.size := by omega
     refine hK.out _ _ ?_ (fun zH => ?_)
     ·exact zu HS _ HW
     clear hK K
     try simp only [aSet, aHead, aTail]
     exact tgo J0 (b5, a5, l5, c5, b6, a6, l6, c6, g7, wj.heap.size) (by (try dsimp only); rw [zu HA]; simp only [Act.put, aSet, aHead, aTail]) (by (try dsimp only); exact ⟨HW, h5, h6, B7, hg7, B8, hg8, hneg7g8⟩)
    refine zmd 5 #[tT, tT, tT, tT, tT, tT, tT, tT, tT, tT, tT, tF, tF, tF, tF, tF] (ι := Bool × Option Addr × Nat × Nat × Bool × Option Addr × Nat × Nat) (fun (b5, a5, l5, c5, b6, a6, l6, c6) => (((((act0.put (some 38) (.tuple #[.agg #[.bool b5, .slice a5 l5 c5], .agg #[.bool b6, .slice a6 l6 c6], .bool true])).put (some 31) (.tuple #[.agg #[.bool b5, .slice a5 l5 c5], .agg #[.bool b6, .slice a6 l6 c6], .bool true])).put (some 39) (.agg #[.bool b5, .slice a5 l5 c5])).put (some 40) (.agg #[.bool b6, .slice a6 l6 c6])).put (some 41) (.bool true))) (fun (b5, a5, l5, c5, b6, a6, l6, c6) w => Below w9.heap.size w9 w ∧ FK w b5 a5 l5 c5 (us.getD (p i) 0 / ent rs i (p i)) M ∧ FK w b6 a6 l6 c6 (us.getD (p i) 0 % ent rs i (p i)) b) ?_ (fun J3 => ?_)
    ·rintro ⟨b5, a5, l5, c5, b6, a6, l6, c6⟩ wj hI
     try dsimp only at hI ⊢
     obtain ⟨HW, h5, h6⟩ := hI;have zH := zu HS _ HW;rw [zu HA];simp only [Act.put, aSet, aHead, aTail];refine ttwo 11 12 rfl rfl (fun K hK => ?_) (fun K hK => ?_)
     ·go_simp;have hwk : w9.heap.size ≤ wj.heap.size := HW.size;obtain ⟨wk, hWe⟩ := newB wj;obtain ⟨B7, hb9⟩ := boxes1 wj false none 0 0 hWe;rw [← hWe];clear hWe;replace HW := Below.step HW hb9;replace h5 := h5.za hb9;replace h6 := h6.za hb9;clear hb9;have hg7 := hwk;refine hK.out _ _ ?_ (fun zH => ?_)
      ·exact zu HS _ HW
      clear hK K
      try simp only [aSet, aHead, aTail]
      exact tgo J2 (b5, a5, l5, c5, b6, a6, l6, c6, wj.heap.size) (by (try dsimp only); rw [zu HA]; simp only [Act.put, aSet, aHead, aTail]) (by (try dsimp only); exact ⟨HW, h5, h6, B7, hg7⟩)
     ·go_simp;have hwk : w9.heap.size ≤ wj.heap.size := HW.size;obtain ⟨wk, hWe⟩ := newB wj;obtain ⟨B8, hb9⟩ := boxes1 wj false none 0 0 hWe;rw [← hWe];clear hWe;replace HW := Below.step HW hb9;replace h5 := h5.za hb9;replace h6 := h6.za hb9;clear hb9;have hg8 := hwk;refine hK.out _ _ ?_ (fun zH => ?_)
      ·exact zu HS _ HW
      clear hK K
      try simp only [aSet, aHead, aTail]
      exact tgo J1 (b5, a5, l5, c5, b6, a6, l6, c6, wj.heap.size) (by (try dsimp only); rw [zu HA]; simp only [Act.put, aSet, aHead, aTail]) (by (try dsimp only); exact ⟨HW, h5, h6, B8, hg8⟩)
    refine zmd 8 #[tT, tT, tT, tT, tT, tT, tF, tF, tF, tF, tF, tT, tT, tF, tF, tF] (ι := Nat × Nat) (fun (g7, g8) => ((act0.put (some 8) ((.pointer (some ⟨g7, 0, none⟩)))).put (some 9) ((.pointer (some ⟨g8, 0, none⟩))))) (fun (g7, g8) w => Below w9.heap.size w9 w ∧ Box w g7 false none 0 0 ∧ w9.heap.size ≤ g7 ∧ Box w g8 false none 0 0 ∧ w9.heap.size ≤ g8 ∧ g7 ≠ g8) ?_ (fun J4 => ?_)
    ·rintro ⟨g7, g8⟩ wj hI
     try dsimp only at hI ⊢
     obtain ⟨HW, B7, hg7, B8, hg8, hneg7g8⟩ := hI;have zH := zu HS _ HW;rw [zu HA];simp only [Act.put, aSet, aHead, aTail];refine tin 6 rfl fun K hK => ?_;go_simp;refine (divK b4 a4 l4 c4 (us.getD (p i) 0) M b3 a3 l3 c3 (ent rs i (p i)) b _ (hy4.za HW) (hy3.za HW) (zu H0) (by omega) (by omega)).mono ?_;rintro e wk ⟨b5, a5, l5, c5, b6, a6, l6, c6, rfl, h5, h6, hb9⟩;replace HW := Below.step HW hb9;replace B7 := B7.za hb9;replace B8 := B8.za hb9;clear hb9;refine hK.out _ _ ?_ (fun zH => ?_)
     ·exact zu HS _ HW
     clear hK K
     try simp only [aSet, aHead, aTail]
     refine zfl 7 rfl ?_;simp only [zP];refine zfl 8 rfl ?_;simp only [zP];refine zfl 9 rfl ?_;simp only [zP];refine zfl 10 rfl ?_;simp only [zP];exact tgo J0 (b5, a5, l5, c5, b6, a6, l6, c6, g7, g8) (by (try dsimp only); rw [zu HA]; simp only [Act.put, aSet, aHead, aTail]) (by (try dsimp only); exact ⟨HW, h5, h6, B7, hg7, B8, hg8, hneg7g8⟩)
    refine zmd 9 #[tT, tT, tT, tT, tT, tT, tF, tF, tF, tF, tF, tF, tT, tF, tF, tF] (ι := Nat) (fun g8 => (act0.put (some 9) ((.pointer (some ⟨g8, 0, none⟩))))) (fun g8 w => Below w9.heap.size w9 w ∧ Box w g8 false none 0 0 ∧ w9.heap.size ≤ g8) ?_ (fun J5 => ?_)
    ·rintro g8 wj hI
     try dsimp only at hI ⊢
     obtain ⟨HW, B8, hg8⟩ := hI;have zH := zu HS _ HW;rw [zu HA];simp only [Act.put, aSet, aHead, aTail];refine ttwo 6 11 rfl rfl (fun K hK => ?_) (fun K hK => ?_)
     ·go_simp;refine (divK b4 a4 l4 c4 (us.getD (p i) 0) M b3 a3 l3 c3 (ent rs i (p i)) b _ (hy4.za HW) (hy3.za HW) (zu H0) (by omega) (by omega)).mono ?_;rintro e wk ⟨b5, a5, l5, c5, b6, a6, l6, c6, rfl, h5, h6, hb9⟩;replace HW := Below.step HW hb9;replace B8 := B8.za hb9;clear hb9;refine hK.out _ _ ?_ (fun zH => ?_)
      ·exact zu HS _ HW
      clear hK K
      try simp only [aSet, aHead, aTail]
      refine zfl 7 rfl ?_;simp only [zP];refine zfl 8 rfl ?_;simp only [zP];refine zfl 9 rfl ?_;simp only [zP];refine zfl 10 rfl ?_;simp only [zP];exact tgo J1 (b5, a5, l5, c5, b6, a6, l6, c6, g8) (by (try dsimp only); rw [zu HA]; simp only [Act.put, aSet, aHead, aTail]) (by (try dsimp only); exact ⟨HW, h5, h6, B8, hg8⟩)
     ·go_simp;have hwk : w9.heap.size ≤ wj.heap.size := HW.size;have hxg8 := B8.lt;obtain ⟨wk, hWe⟩ := newB wj;obtain ⟨B7, hb9⟩ := boxes1 wj false none 0 0 hWe;rw [← hWe];clear hWe;replace HW := Below.step HW hb9;replace B8 := B8.za hb9;clear hb9;have hg7 := hwk;have hneg7g8 : wj.heap.size ≠ g8 := by omega
      refine hK.out _ _ ?_ (fun zH => ?_)
      ·exact zu HS _ HW
      clear hK K
      try simp only [aSet, aHead, aTail]
      exact tgo J4 (wj.heap.size, g8) (by (try dsimp only); rw [zu HA]; simp only [Act.put, aSet, aHead, aTail]) (by (try dsimp only); exact ⟨HW, B7, hg7, B8, hg8, hneg7g8⟩)
    refine zmd 9 #[tT, tT, tT, tT, tT, tT, tF, tF, tF, tF, tF, tT, tF, tF, tF, tF] (ι := Nat) (fun g7 => (act0.put (some 8) ((.pointer (some ⟨g7, 0, none⟩))))) (fun g7 w => Below w9.heap.size w9 w ∧ Box w g7 false none 0 0 ∧ w9.heap.size ≤ g7) ?_ (fun J6 => ?_)
    ·rintro g7 wj hI
     try dsimp only at hI ⊢
     obtain ⟨HW, B7, hg7⟩ := hI;have zH := zu HS _ HW;rw [zu HA];simp only [Act.put, aSet, aHead, aTail];refine ttwo 6 12 rfl rfl (fun K hK => ?_) (fun K hK => ?_)
     ·go_simp;refine (divK b4 a4 l4 c4 (us.getD (p i) 0) M b3 a3 l3 c3 (ent rs i (p i)) b _ (hy4.za HW) (hy3.za HW) (zu H0) (by omega) (by omega)).mono ?_;rintro e wk ⟨b5, a5, l5, c5, b6, a6, l6, c6, rfl, h5, h6, hb9⟩;replace HW := Below.step HW hb9;replace B7 := B7.za hb9;clear hb9;refine hK.out _ _ ?_ (fun zH => ?_)
      ·exact zu HS _ HW
      clear hK K
      try simp only [aSet, aHead, aTail]
      refine zfl 7 rfl ?_;simp only [zP];refine zfl 8 rfl ?_;simp only [zP];refine zfl 9 rfl ?_;simp only [zP];refine zfl 10 rfl ?_;simp only [zP];exact tgo J2 (b5, a5, l5, c5, b6, a6, l6, c6, g7) (by (try dsimp only); rw [zu HA]; simp only [Act.put, aSet, aHead, aTail]) (by (try dsimp only); exact ⟨HW, h5, h6, B7, hg7⟩)
     ·go_simp;have hwk : w9.heap.size ≤ wj.heap.size := HW.size;have hxg7 := B7.lt;obtain ⟨wk, hWe⟩ := newB wj;obtain ⟨B8, hb9⟩ := boxes1 wj false none 0 0 hWe;rw [← hWe];clear hWe;replace HW := Below.step HW hb9;replace B7 := B7.za hb9;clear hb9;have hg8 := hwk;have hneg7g8 : g7 ≠ wj.heap.size := by omega
      refine hK.out _ _ ?_ (fun zH => ?_)
      ·exact zu HS _ HW
      clear hK K
      try simp only [aSet, aHead, aTail]
      exact tgo J4 (g7, wj.heap.size) (by (try dsimp only); rw [zu HA]; simp only [Act.put, aSet, aHead, aTail]) (by (try dsimp only); exact ⟨HW, B7, hg7, B8, hg8, hneg7g8⟩)
    rw [zu HA];refine till_three (i := 6) (j := 11) (k := 12) (by kernel_rfl) rfl rfl rfl (fun K hK => ?_) (fun K hK => ?_) (fun K hK => ?_)
    ·go_simp;refine (divK b4 a4 l4 c4 (us.getD (p i) 0) M b3 a3 l3 c3 (ent rs i (p i)) b _ (hy4.za HW) (hy3.za HW) (zu H0) (by omega) (by omega)).mono ?_;rintro e wk ⟨b5, a5, l5, c5, b6, a6, l6, c6, rfl, h5, h6, hb9⟩;replace HW := Below.step HW hb9;clear hb9;refine hK.out _ _ ?_ (fun zH => ?_)
     ·exact zu HS _ HW
     clear hK K
     try simp only [aSet, aHead, aTail]
     refine zfl 7 rfl ?_;simp only [zP];refine zfl 8 rfl ?_;simp only [zP];refine zfl 9 rfl ?_;simp only [zP];refine zfl 10 rfl ?_;simp only [zP];exact tgo J3 (b5, a5, l5, c5, b6, a6, l6, c6) (by (try dsimp only); rw [zu HA]; simp only [Act.put, aSet, aHead, aTail]) (by (try dsimp only); exact ⟨HW, h5, h6⟩)
    ·go_simp;have hwk : w9.heap.size ≤ vd1.heap.size := HW.size;obtain ⟨wk, hWe⟩ := newB vd1;obtain ⟨B7, hb9⟩ := boxes1 vd1 false none 0 0 hWe;rw [← hWe];clear hWe;replace HW := Below.step HW hb9;clear hb9;have hg7 := hwk;refine hK.out _ _ ?_ (fun zH => ?_)
     ·exact zu HS _ HW
     clear hK K
     try simp only [aSet, aHead, aTail]
     exact tgo J6 vd1.heap.size (by (try dsimp only); rw [zu HA]; simp only [Act.put, aSet, aHead, aTail]) (by (try dsimp only); exact ⟨HW, B7, hg7⟩)
    ·go_simp;have hwk : w9.heap.size ≤ vd1.heap.size := HW.size;obtain ⟨wk, hWe⟩ := newB vd1;obtain ⟨B8, hb9⟩ := boxes1 vd1 false none 0 0 hWe;rw [← hWe];clear hWe;replace HW := Below.step HW hb9;clear hb9;have hg8 := hwk;refine hK.out _ _ ?_ (fun zH => ?_)
     ·exact zu HS _ HW
     clear hK K
     try simp only [aSet, aHead, aTail]
     exact tgo J5 vd1.heap.size (by (try dsimp only); rw [zu HA]; simp only [Act.put, aSet, aHead, aTail]) (by (try dsimp only); exact ⟨HW, B8, hg8⟩)
  ·have hin : i = n := by omega
   subst hin;go_wp2;go_ret;exact ⟨_, _, _, rfl, hu, zu HU, zu HI, zu HALL, zu HB⟩

end Go.Proofs.YtnpneloahajniaaGreat
