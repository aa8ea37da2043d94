/-
 What Rest and Columns of the reference tell. (IN PARTS)
-/
import Derived.Test.YtkomdimalgnamaaGreatSpan
import Derived.Test.YtkomdimalgnamaaGreatJH
import Derived.Test.YtkomdimalgnamaaGreatJM
namespace Go.Proofs.YtkomdimalgnamaaGreat
open Go.RowKit Lb
set_option maxRecDepth 20000

set_option maxRecDepth 40000 in
set_option maxHeartbeats 4000000 in
theorem rrestK (ah : Option Addr) (n ch : Nat) (hs : List (List Int)) (p : Nat → Nat) (B : Nat) (av0 : Option Addr) (N cv0 : Nat) (vs : List Int) (k : Nat) (w : World) (h : MS w ah n ch hs B) (hf : HForm hs p) (hN : ∀ r ∈ hs, r.length = N) (hv : VS w av0 N cv0 vs k) (hK : k + 4 + n * (B + 3) ≤ 222000) (hB : B ≤ 100000) (hn : n ≤ 1000) (hNl : N ≤ 1000) :
  Calls Tryz.prog 15 #[.slice ah n ch, .slice av0 N cv0] w fun e w' => ∃ a1 c1 us, e = .returned (.slice a1 N c1) ∧ VF w' a1 N c1 us (k + 4 + n * (B + 3)) ∧ LowV hs p us ∧ InL hs (fun j => vs.getD j 0 - us.getD j 0) ∧ Below w.heap.size w w' := by
 have HL := zh h.len_eq;have HF := zh hf;have HN := zh (rows_len hN);have hk1 : k + 4 ≤ 222000 := by
  have := Nat.zero_le (n * (B + 3));omega
 obtain ⟨KK, eKK⟩ : ∃ KK, KK = k + 4 + n * (B + 3) := ⟨_, rfl⟩;have EKK := zh eKK;rw [← eKK] at hK ⊢;clear hf hN eKK;go_enter Tryz.func15, Tryz.ntmps15
 go_wp2_with fail
 refine (rvnegK av0 N cv0 vs k _ hv (by omega) (by omega)).mono ?_;rintro e w1 ⟨a1, c1, rfl, h1, hb1⟩;have HB0 := zh hb1;clear hb1
 go_wp2_with fail
 refine (rvnegK a1 N c1 (vneg vs) (k + 2) _ (h1.vs (by omega)) (by omega) (by omega)).mono ?_;rintro e w2 ⟨a2, c2, rfl, h2, hb1⟩;rw [vneg_neg] at h2;replace HB0 := zh (Below.step (zu HB0) hb1);clear hb1 h1
 go_wp2_with fail
 go_loopw [1, 5] (fun v t wr => ∃ (i : Nat) (av : Option Addr) (cv : Nat) (us : List Int), i ≤ n ∧ t = .int .i64 (i : Int) ∧ v = .slice av N cv ∧ VF wr av N cv us (k + 4 + i * (B + 3)) ∧ InL hs (fun j => vs.getD j 0 - us.getD j 0) ∧ (∀ s, s < i → 0 ≤ us.getD (p s) 0 ∧ us.getD (p s) 0 < ent hs s (p s)) ∧ Below w.heap.size w wr) (fun _ t _ => n - (intOf t).toNat)
 case atStart => exact ⟨0, _, _, vs, Nat.zero_le _, rfl, rfl, by rw [Nat.zero_mul]; exact h2, (inL_zero hs).eq fun j => by omega, fun s hs => absurd hs (by omega), zu HB0⟩
 case round =>
  clear h2 HB0;obtain ⟨i, av, cv, us, hi, rfl, rfl, hu, hin, hall, hB0⟩ := hrel;have HI := zh hin;have HALL := zh hall;have HB := zh hB0;clear hin hall hB0;by_cases hlt : i < n
  ·obtain ⟨M, eM⟩ : ∃ M, M = k + 4 + i * (B + 3) := ⟨_, rfl⟩;have hMK : M + B + 3 ≤ KK := by
    have h1 : (i + 1) * (B + 3) ≤ n * (B + 3) := Nat.mul_le_mul_right _ hlt;rw [Nat.add_mul, Nat.one_mul] at h1;have h2 := zu EKK;omega
   have HM2 := zh (show k + 4 + (i + 1) * (B + 3) = M + (B + 3) by rw [eM, Nat.add_mul]; omega);rw [← eM] at hu;clear eM;obtain ⟨g, off, rfl⟩ := h.addr (by omega);obtain ⟨hg0, a2, l2, c2, hc5, hv5⟩ := RowsOf.at (R := fun w a l c zs => VS w a l c zs B) h hlt;have hir : i < hs.length := by rw [zu HL]; exact hlt
   have hl2 : N = l2 := by rw [← hv5.len_eq]; exact (zu HN i hir).symm
   subst hl2;have HPI := zh ((zu HF).isPivot hir);have hpN : p i < N := by
    have := (zu HPI).lt;rw [zu HN i hir] at this;exact this
   have H0 := zh (show ent hs i (p i) ≠ 0 by have := (zu HF).pos i hir; omega);obtain ⟨g2, o2, rfl⟩ := hv5.vk.some (by omega);have x2 := ((zu HB).cell (p := ⟨g, off + i, none⟩) hg0).trans hc5;have hg := Nat.lt_of_lt_of_le hg0 (zu HB).size;have hi0 : (0 : Int) ≤ (i : Int) := by omega
   have hi1 : (i : Int) < (n : Int) := by omega
   go_wp2_with fail
   refine (rpivotK _ N _ (hs.getD i []) B _ (hv5.za (zu HB)).vk).mono ?_;rintro e w5 ⟨z, rfl, hpz, hb1⟩;have hz : z = (p i : Int) := by
    rcases hpz with ⟨_, h0⟩ | ⟨q, e, hq⟩
    ·exact absurd (h0 _) (zu HPI).2
    ·rw [e, isPivot_inj hq (zu HPI)]
   subst hz;replace hu := hu.za hb1;replace HB := zh (Below.step (zu HB) hb1);replace x2 := (hb1.cell (p := ⟨g, off + i, none⟩) hg).trans x2;replace hg := Nat.lt_of_lt_of_le hg hb1.size;clear hb1 hpz;have hr := hv5.za (zu HB);obtain ⟨b3, a3, l3, c3, E3, y3⟩ := hr.vk.at hpN;obtain ⟨gv, ov, rfl⟩ := hu.some (by omega);obtain ⟨b4, a4, l4, c4, E4, hy4⟩ := hu.at hpN;have hp2 : (p i : Int) < (N : Int) := by omega
   have hp0 : (0 : Int) ≤ (p i : Int) := by omega
   clear hc5 hv5 hg0
   go_upto_region 6 with fail
   have HW : Below w5.heap.size w5 w5.drew := (Below.refl _ _).drew;have HS := zh fun w' (HW : Below w5.heap.size w5 w') => con5 ((HW.cell (p := ⟨g, off + i, none⟩) hg).trans x2) (E3.za HW).zb.1 (E3.za HW).zb.2 (E4.za HW).zb.1 (E4.za HW).zb.2;refine zst HS HW 17 (by kernel_rfl) fun zH => ?_;obtain ⟨vd1, hvd⟩ : ∃ v, v = w5.drew := ⟨_, rfl⟩;rw [← hvd] at HW zH ⊢;clear hvd;refine zfl (i := 0) rfl ?_;simp only [Act.put, aGet, aZero, aSet, aHead, aTail];refine zfl (i := 1) rfl ?_;simp only [Act.put, aAll];refine till_tm (i := 2) [3, 11, 12, 13, 14, 17, 18] rfl ?_;simp only [Act.put, aAll];refine till_tm (i := 3) [11, 12, 13, 14, 17, 18] rfl ?_;simp only [Act.put, aAll];refine zfl (i := 4) rfl ?_;simp only [Act.put, aAll];refine zfl (i := 5) rfl ?_;simp only [Act.put, aAll];refine till_tm (i := 6) [7, 9, 10, 11, 12, 13, 14, 17, 18] rfl ?_;simp only [Act.put, aAll];refine till_tm (i := 7) [9, 10, 11, 12, 13, 14, 17, 18] rfl ?_;simp only [Act.put, aAll];refine zfl (i := 8) rfl ?_;simp only [Act.put, aAll];refine till_tm (i := 9) [10, 11, 12, 13, 14, 17, 18] rfl ?_;simp only [Act.put, aAll];refine till_tm (i := 10) [11, 12, 13, 14, 17, 18] rfl ?_;simp only [Act.put, aAll];refine till_name (fun act0 hact0 => ?_);have HA := zh hact0;clear hact0;refine till_mid 2 #[true, true, true, true, true, true, true, true, true, true, true, true, true, true, true, true, true, false, false] (ι := Bool × Option Addr × Nat × Nat × Bool × Option Addr × Nat × Nat × Nat × Nat) (fun (b5, a5, l5, c5, b6, a6, l6, c6, g7, g8) => ((((((act0.put (some 35) (.tuple #[.agg #[.bool b5, .slice a5 l5 c5], .agg #[.bool b6, .slice a6 l6 c6]])).put (some 23) (.tuple #[.agg #[.bool b5, .slice a5 l5 c5], .agg #[.bool b6, .slice a6 l6 c6]])).put (some 36) (.agg #[.bool b5, .slice a5 l5 c5])).put (some 37) (.agg #[.bool b6, .slice a6 l6 c6])).put (some 7) ((.pointer (some ⟨g7, 0, none⟩)))).put (some 8) ((.pointer (some ⟨g8, 0, none⟩))))) (fun (b5, a5, l5, c5, b6, a6, l6, c6, g7, g8) wz => Below w5.heap.size w5 wz ∧ FK wz b5 a5 l5 c5 (us.getD (p i) 0 / ent hs i (p i)) M ∧ FK wz b6 a6 l6 c6 (us.getD (p i) 0 % ent hs i (p i)) B ∧ Box wz g7 false none 0 0 ∧ w5.heap.size ≤ g7 ∧ Box wz g8 false none 0 0 ∧ w5.heap.size ≤ g8 ∧ g7 ≠ g8) ?_ (fun J0 => ?_)
   ·rintro ⟨b5, a5, l5, c5, b6, a6, l6, c6, g7, g8⟩ wj hI
    try dsimp only at hI ⊢
    obtain ⟨HW, h5, h6, B7, hg7, B8, hg8, hneg7g8⟩ := hI;have zH := zu HS _ HW;rw [zu HA];simp only [Act.put, aSet, aHead, aTail];obtain ⟨q1B7, q2B7, q3B7, q4B7⟩ := B7.zb;have hltB7 := B7.lt;obtain ⟨q1B8, q2B8, q3B8, q4B8⟩ := B8.zb;have hltB8 := B8.lt;refine tout (i := 17) rfl fun K hK => ?_;go_simp;refine hK.out _ _ ?_;clear hK K
    try simp only [aSet, aHead, aTail]
    refine tout (i := 18) rfl fun K hK => ?_;go_simp;refine hK.out _ _ ?_;clear hK K
    try simp only [aSet, aHead, aTail]
    refine till_done (by kernel_rfl) ?_ _;have n7 := B7.noLimb;have n8 := (B8.other (g' := g7) (Ne.symm hneg7g8) b5 a5 l5 c5).noLimb;obtain ⟨W8, hW8⟩ : ∃ W8, W8 = ((((wj.setCell ⟨g7, 0, none⟩ (.bool b5)).setCell ⟨g7, 1, none⟩ (.slice a5 l5 c5)).setCell ⟨g8, 0, none⟩ (.bool b6)).setCell ⟨g8, 1, none⟩ (.slice a6 l6 c6)) := ⟨_, rfl⟩;rw [← hW8];have Bq : Box W8 g7 b5 a5 l5 c5 := by rw [hW8]; exact (B7.put b5 a5 l5 c5).other (g' := g8) hneg7g8 b6 a6 l6 c6
    have hQ5 : FK W8 b5 a5 l5 c5 (us.getD (p i) 0 / ent hs i (p i)) M := by rw [hW8]; exact (h5.put n7 b5 a5 l5 c5).put n8 b6 a6 l6 c6
    have HC : Below w5.heap.size w5 W8 := by rw [hW8]; exact below_put (below_put HW hg7 _ _ _ _) hg8 _ _ _ _
    clear hW8 HW zH B7 B8 n7 n8 h5 h6 hltB7 hltB8 E3 y3 E4 hy4 q1B7 q2B7 q3B7 q4B7 q1B8 q2B8 q3B8 q4B8;replace HB := zh (Below.step (zu HB) HC);replace hr := hr.za HC;replace hu := hu.za HC;replace x2 := (HC.cell (p := ⟨g, off + i, none⟩) hg).trans x2;replace hg := Nat.lt_of_lt_of_le hg HC.size;clear HC
    go_upto_region 7 with fail
    have HW : Below W8.heap.size W8 W8.drew := (Below.refl _ _).drew;have HS := zh fun w' (HW : Below W8.heap.size W8 w') => con3 ((HW.cell (p := ⟨g, off + i, none⟩) hg).trans x2) (Bq.za HW).zb.1 (Bq.za HW).zb.2.1;refine zst HS HW 8 (by kernel_rfl) fun zH => ?_;refine ztl (i := 0) [7, 8] rfl ?_;simp only [Act.put, aGet, aZero, aSet, aHead, aTail];refine ztl (i := 1) [3, 4, 6, 7, 8] rfl ?_;simp only [Act.put, aAll];refine ztl (i := 2) [3, 4, 6, 7, 8] rfl ?_;simp only [Act.put, aAll];refine ztl (i := 3) [4, 6, 7, 8] rfl ?_;simp only [Act.put, aAll];refine ztl (i := 4) [6, 7, 8] rfl ?_;simp only [Act.put, aAll];refine ztl (i := 5) [6, 7, 8] rfl ?_;simp only [Act.put, aAll];refine tin (i := 6) rfl fun K hK => ?_;go_simp;refine (rvtimesK _ _ _ (hs.getD i []) B b5 a5 l5 c5 (us.getD (p i) 0 / ent hs i (p i)) M _ (hr.za HW) ((hQ5.za HW).sk (by omega)) (by omega) (by omega) (by omega)).mono ?_;rintro e w8 ⟨a8, c8, rfl, h8, hb9⟩;replace HW := Below.step HW hb9;clear hb9;refine hK.out _ _ ?_ (fun zH => ?_)
    ·exact zu HS _ HW
    clear hK K
    try simp only [Act.put, aAll]
    refine tin (i := 7) rfl fun K hK => ?_;go_simp;refine (rvsubK _ _ _ us M _ _ _ (vtimes (hs.getD i []) (us.getD (p i) 0 / ent hs i (p i))) (B + M) _ ((hu.za HW).vk (by omega)) (h8.vs (by omega)) (by omega) (by omega) (by omega) (by omega)).mono ?_;rintro e w9 ⟨a9, c9, rfl, h9, hb9⟩;replace HW := Below.step HW hb9;clear hb9 h8;rw [Nat.max_self, show max M (B + M + 2) + 1 = k + 4 + (i + 1) * (B + 3) by rw [zu HM2]; omega] at h9
    (try rw [Nat.max_self])
    refine hK.out _ _ ?_ (fun zH => ?_)
    ·exact zu HS _ HW
    clear hK K
    try simp only [Act.put, aAll]
    refine tout (i := 8) rfl fun K hK => ?_;go_simp;refine hK.out _ _ ?_;clear hK K
    try simp only [Act.put, aAll]
    refine till_done (by kernel_rfl) ?_ _;clear zH Bq hQ5 hr hu x2 hg;replace HB := zh (Below.step (zu HB) HW);clear HW;have HI2 := zh (low_in (zu HI) (us.getD (p i) 0 / ent hs i (p i)) i);have HA2 := zh (low_step (us := us) (zu HF).eform hir (zu HALL));obtain ⟨us2, eus⟩ : ∃ us2, us2 = vsub us (vtimes (hs.getD i []) (us.getD (p i) 0 / ent hs i (p i))) := ⟨_, rfl⟩;rw [← eus] at h9 HI2 HA2;clear eus;go_wp2;go_roundw
    case rel => exact ⟨i + 1, _, _, us2, by omega, by go_num, rfl, h9, zu HI2, zu HA2, zu HB⟩
    case measure => simp [intOf]; omega
   refine till_mid 3 #[true, true, true, true, true, true, true, true, true, true, true, true, true, true, true, false, true, false, false] (ι := Bool × Option Addr × Nat × Nat × Bool × Option Addr × Nat × Nat × Nat) (fun (b5, a5, l5, c5, b6, a6, l6, c6, g8) => (((((act0.put (some 35) (.tuple #[.agg #[.bool b5, .slice a5 l5 c5], .agg #[.bool b6, .slice a6 l6 c6]])).put (some 23) (.tuple #[.agg #[.bool b5, .slice a5 l5 c5], .agg #[.bool b6, .slice a6 l6 c6]])).put (some 36) (.agg #[.bool b5, .slice a5 l5 c5])).put (some 37) (.agg #[.bool b6, .slice a6 l6 c6])).put (some 8) ((.pointer (some ⟨g8, 0, none⟩))))) (fun (b5, a5, l5, c5, b6, a6, l6, c6, g8) wz => Below w5.heap.size w5 wz ∧ FK wz b5 a5 l5 c5 (us.getD (p i) 0 / ent hs i (p i)) M ∧ FK wz b6 a6 l6 c6 (us.getD (p i) 0 % ent hs i (p i)) B ∧ Box wz g8 false none 0 0 ∧ w5.heap.size ≤ g8) ?_ (fun J1 => ?_)
   ·rintro ⟨b5, a5, l5, c5, b6, a6, l6, c6, g8⟩ wj hI
    try dsimp only at hI ⊢
    obtain ⟨HW, h5, h6, B8, hg8⟩ := hI;have zH := con5 ((HW.cell (p := ⟨g, off + i, none⟩) hg).trans x2) (E3.za HW).zb.1 (E3.za HW).zb.2 (E4.za HW).zb.1 (E4.za HW).zb.2;rw [zu HA];simp only [Act.put, aSet, aHead, aTail];refine tin (i := 15) rfl fun K hK => ?_;go_simp;have hwk : w5.heap.size ≤ wj.heap.size := HW.size;have hxg8 := B8.lt;obtain ⟨wk, hWe⟩ := newB wj;obtain ⟨B7, hb9⟩ := boxes1 wj false none 0 0 hWe;rw [← hWe];clear hWe;replace HW := Below.step HW hb9;replace h5 := h5.za hb9;replace h6 := h6.za hb9;replace B8 := B8.za hb9;clear hb9;have hg7 := hwk;have hneg7g8 : wj.heap.size ≠ g8 := by omega
    refine hK.out _ _ ?_ (fun zH => ?_)
    ·exact ⟨(HW.cell (p := ⟨g, off + i, none⟩) hg).trans x2, (E3.za HW).zb.1, (E3.za HW).zb.2, (E4.za HW).zb.1, (E4.za HW).zb.2⟩
    clear hK K
    try simp only [aSet, aHead, aTail]
    exact tgo J0 (b5, a5, l5, c5, b6, a6, l6, c6, wj.heap.size, g8) (by (try dsimp only); rw [zu HA]; simp only [Act.put, aSet, aHead, aTail]) (by (try dsimp only); exact ⟨HW, h5, h6, B7, hg7, B8, hg8, hneg7g8⟩)
   refine till_mid 3 #[true, true, true, true, true, true, true, true, true, true, true, true, true, true, true, true, false, false, false] (ι := Bool × Option Addr × Nat × Nat × Bool × Option Addr × Nat × Nat × Nat) (fun (b5, a5, l5, c5, b6, a6, l6, c6, g7) => (((((act0.put (some 35) (.tuple #[.agg #[.bool b5, .slice a5 l5 c5], .agg #[.bool b6, .slice a6 l6 c6]])).put (some 23) (.tuple #[.agg #[.bool b5, .slice a5 l5 c5], .agg #[.bool b6, .slice a6 l6 c6]])).put (some 36) (.agg #[.bool b5, .slice a5 l5 c5])).put (some 37) (.agg #[.bool b6, .slice a6 l6 c6])).put (some 7) ((.pointer (some ⟨g7, 0, none⟩))))) (fun (b5, a5, l5, c5, b6, a6, l6, c6, g7) wz => Below w5.heap.size w5 wz ∧ FK wz b5 a5 l5 c5 (us.getD (p i) 0 / ent hs i (p i)) M ∧ FK wz b6 a6 l6 c6 (us.getD (p i) 0 % ent hs i (p i)) B ∧ Box wz g7 false none 0 0 ∧ w5.heap.size ≤ g7) ?_ (fun J2 => ?_)
   ·rintro ⟨b5, a5, l5, c5, b6, a6, l6, c6, g7⟩ wj hI
    try dsimp only at hI ⊢
    obtain ⟨HW, h5, h6, B7, hg7⟩ := hI;have zH := con5 ((HW.cell (p := ⟨g, off + i, none⟩) hg).trans x2) (E3.za HW).zb.1 (E3.za HW).zb.2 (E4.za HW).zb.1 (E4.za HW).zb.2;rw [zu HA];simp only [Act.put, aSet, aHead, aTail];refine tin (i := 16) rfl fun K hK => ?_;go_simp;have hwk : w5.heap.size ≤ wj.heap.size := HW.size;have hxg7 := B7.lt;obtain ⟨wk, hWe⟩ := newB wj;obtain ⟨B8, hb9⟩ := boxes1 wj false none 0 0 hWe;rw [← hWe];clear hWe;replace HW := Below.step HW hb9;replace h5 := h5.za hb9;replace h6 := h6.za hb9;replace B7 := B7.za hb9;clear hb9;have hg8 := hwk;have hneg7g8 : g7 ≠ wj.heap.size := by omega
    refine hK.out _ _ ?_ (fun zH => ?_)
    ·exact ⟨(HW.cell (p := ⟨g, off + i, none⟩) hg).trans x2, (E3.za HW).zb.1, (E3.za HW).zb.2, (E4.za HW).zb.1, (E4.za HW).zb.2⟩
    clear hK K
    try simp only [aSet, aHead, aTail]
    exact tgo J0 (b5, a5, l5, c5, b6, a6, l6, c6, g7, wj.heap.size) (by (try dsimp only); rw [zu HA]; simp only [Act.put, aSet, aHead, aTail]) (by (try dsimp only); exact ⟨HW, h5, h6, B7, hg7, B8, hg8, hneg7g8⟩)
   refine till_mid 4 #[true, true, true, true, true, true, true, true, true, true, true, true, true, true, true, false, false, false, false] (ι := Bool × Option Addr × Nat × Nat × Bool × Option Addr × Nat × Nat) (fun (b5, a5, l5, c5, b6, a6, l6, c6) => ((((act0.put (some 35) (.tuple #[.agg #[.bool b5, .slice a5 l5 c5], .agg #[.bool b6, .slice a6 l6 c6]])).put (some 23) (.tuple #[.agg #[.bool b5, .slice a5 l5 c5], .agg #[.bool b6, .slice a6 l6 c6]])).put (some 36) (.agg #[.bool b5, .slice a5 l5 c5])).put (some 37) (.agg #[.bool b6, .slice a6 l6 c6]))) (fun (b5, a5, l5, c5, b6, a6, l6, c6) wz => Below w5.heap.size w5 wz ∧ FK wz b5 a5 l5 c5 (us.getD (p i) 0 / ent hs i (p i)) M ∧ FK wz b6 a6 l6 c6 (us.getD (p i) 0 % ent hs i (p i)) B) ?_ (fun J3 => ?_)
   ·rintro ⟨b5, a5, l5, c5, b6, a6, l6, c6⟩ wj hI
    try dsimp only at hI ⊢
    obtain ⟨HW, h5, h6⟩ := hI;have zH := con5 ((HW.cell (p := ⟨g, off + i, none⟩) hg).trans x2) (E3.za HW).zb.1 (E3.za HW).zb.2 (E4.za HW).zb.1 (E4.za HW).zb.2;rw [zu HA];simp only [Act.put, aSet, aHead, aTail];refine ttwo (i := 15) (j := 16) rfl rfl (fun K hK => ?_) (fun K hK => ?_)
    ·go_simp;have hwk : w5.heap.size ≤ wj.heap.size := HW.size;obtain ⟨wk, hWe⟩ := newB wj;obtain ⟨B7, hb9⟩ := boxes1 wj false none 0 0 hWe;rw [← hWe];clear hWe;replace HW := Below.step HW hb9;replace h5 := h5.za hb9;replace h6 := h6.za hb9;clear hb9;have hg7 := hwk;refine hK.out _ _ ?_ (fun zH => ?_)
     ·exact ⟨(HW.cell (p := ⟨g, off + i, none⟩) hg).trans x2, (E3.za HW).zb.1, (E3.za HW).zb.2, (E4.za HW).zb.1, (E4.za HW).zb.2⟩
     clear hK K
     try simp only [aSet, aHead, aTail]
     exact tgo J2 (b5, a5, l5, c5, b6, a6, l6, c6, wj.heap.size) (by (try dsimp only); rw [zu HA]; simp only [Act.put, aSet, aHead, aTail]) (by (try dsimp only); exact ⟨HW, h5, h6, B7, hg7⟩)
    ·go_simp;have hwk : w5.heap.size ≤ wj.heap.size := HW.size;obtain ⟨wk, hWe⟩ := newB wj;obtain ⟨B8, hb9⟩ := boxes1 wj false none 0 0 hWe;rw [← hWe];clear hWe;replace HW := Below.step HW hb9;replace h5 := h5.za hb9;replace h6 := h6.za hb9;clear hb9;have hg8 := hwk;refine hK.out _ _ ?_ (fun zH => ?_)
     ·exact ⟨(HW.cell (p := ⟨g, off + i, none⟩) hg).trans x2, (E3.za HW).zb.1, (E3.za HW).zb.2, (E4.za HW).zb.1, (E4.za HW).zb.2⟩
     clear hK K
     try simp only [aSet, aHead, aTail]
     exact tgo J1 (b5, a5, l5, c5, b6, a6, l6, c6, wj.heap.size) (by (try dsimp only); rw [zu HA]; simp only [Act.put, aSet, aHead, aTail]) (by (try dsimp only); exact ⟨HW, h5, h6, B8, hg8⟩)
   refine till_mid 6 #[true, true, true, true, true, true, true, true, true, true, true, false, false, false, false, true, true, false, false] (ι := Nat × Nat) (fun (g7, g8) => ((act0.put (some 7) ((.pointer (some ⟨g7, 0, none⟩)))).put (some 8) ((.pointer (some ⟨g8, 0, none⟩))))) (fun (g7, g8) wz => Below w5.heap.size w5 wz ∧ Box wz g7 false none 0 0 ∧ w5.heap.size ≤ g7 ∧ Box wz g8 false none 0 0 ∧ w5.heap.size ≤ g8 ∧ g7 ≠ g8) ?_ (fun J4 => ?_)
   ·rintro ⟨g7, g8⟩ wj hI
    try dsimp only at hI ⊢
    obtain ⟨HW, B7, hg7, B8, hg8, hneg7g8⟩ := hI;have zH := con5 ((HW.cell (p := ⟨g, off + i, none⟩) hg).trans x2) (E3.za HW).zb.1 (E3.za HW).zb.2 (E4.za HW).zb.1 (E4.za HW).zb.2;rw [zu HA];simp only [Act.put, aSet, aHead, aTail];refine tin (i := 11) rfl fun K hK => ?_;go_simp;refine (rdivK b4 a4 l4 c4 (us.getD (p i) 0) M b3 a3 l3 c3 (ent hs i (p i)) B _ ((hy4.za HW).ik (by omega)) (y3.za HW) (zu H0) (by omega) (by omega)).mono ?_;rintro e wk ⟨b5, a5, l5, c5, b6, a6, l6, c6, rfl, h5, h6, hb9⟩;replace HW := Below.step HW hb9;replace B7 := B7.za hb9;replace B8 := B8.za hb9;clear hb9;refine hK.out _ _ ?_ (fun zH => ?_)
    ·exact ⟨(HW.cell (p := ⟨g, off + i, none⟩) hg).trans x2, (E3.za HW).zb.1, (E3.za HW).zb.2, (E4.za HW).zb.1, (E4.za HW).zb.2⟩
    clear hK K
    try simp only [aSet, aHead, aTail]
    refine zfl (i := 12) rfl ?_;simp only [Act.put, aAll];refine zfl (i := 13) rfl ?_;simp only [Act.put, aAll];refine zfl (i := 14) rfl ?_;simp only [Act.put, aAll];exact tgo J0 (b5, a5, l5, c5, b6, a6, l6, c6, g7, g8) (by (try dsimp only); rw [zu HA]; simp only [Act.put, aSet, aHead, aTail]) (by (try dsimp only); exact ⟨HW, h5, h6, B7, hg7, B8, hg8, hneg7g8⟩)
   refine till_mid 7 #[true, true, true, true, true, true, true, true, true, true, true, false, false, false, false, false, true, false, false] (ι := Nat) (fun g8 => (act0.put (some 8) ((.pointer (some ⟨g8, 0, none⟩))))) (fun g8 wz => Below w5.heap.size w5 wz ∧ Box wz g8 false none 0 0 ∧ w5.heap.size ≤ g8) ?_ (fun J5 => ?_)
   ·rintro g8 wj hI
    try dsimp only at hI ⊢
    obtain ⟨HW, B8, hg8⟩ := hI;have zH := con5 ((HW.cell (p := ⟨g, off + i, none⟩) hg).trans x2) (E3.za HW).zb.1 (E3.za HW).zb.2 (E4.za HW).zb.1 (E4.za HW).zb.2;rw [zu HA];simp only [Act.put, aSet, aHead, aTail];refine ttwo (i := 11) (j := 15) rfl rfl (fun K hK => ?_) (fun K hK => ?_)
    ·go_simp;refine (rdivK b4 a4 l4 c4 (us.getD (p i) 0) M b3 a3 l3 c3 (ent hs i (p i)) B _ ((hy4.za HW).ik (by omega)) (y3.za HW) (zu H0) (by omega) (by omega)).mono ?_;rintro e wk ⟨b5, a5, l5, c5, b6, a6, l6, c6, rfl, h5, h6, hb9⟩;replace HW := Below.step HW hb9;replace B8 := B8.za hb9;clear hb9;refine hK.out _ _ ?_ (fun zH => ?_)
     ·exact ⟨(HW.cell (p := ⟨g, off + i, none⟩) hg).trans x2, (E3.za HW).zb.1, (E3.za HW).zb.2, (E4.za HW).zb.1, (E4.za HW).zb.2⟩
     clear hK K
     try simp only [aSet, aHead, aTail]
     refine zfl (i := 12) rfl ?_;simp only [Act.put, aAll];refine zfl (i := 13) rfl ?_;simp only [Act.put, aAll];refine zfl (i := 14) rfl ?_;simp only [Act.put, aAll];exact tgo J1 (b5, a5, l5, c5, b6, a6, l6, c6, g8) (by (try dsimp only); rw [zu HA]; simp only [Act.put, aSet, aHead, aTail]) (by (try dsimp only); exact ⟨HW, h5, h6, B8, hg8⟩)
    ·go_simp;have hwk : w5.heap.size ≤ wj.heap.size := HW.size;have hxg8 := B8.lt;obtain ⟨wk, hWe⟩ := newB wj;obtain ⟨B7, hb9⟩ := boxes1 wj false none 0 0 hWe;rw [← hWe];clear hWe;replace HW := Below.step HW hb9;replace B8 := B8.za hb9;clear hb9;have hg7 := hwk;have hneg7g8 : wj.heap.size ≠ g8 := by omega
     refine hK.out _ _ ?_ (fun zH => ?_)
     ·exact ⟨(HW.cell (p := ⟨g, off + i, none⟩) hg).trans x2, (E3.za HW).zb.1, (E3.za HW).zb.2, (E4.za HW).zb.1, (E4.za HW).zb.2⟩
     clear hK K
     try simp only [aSet, aHead, aTail]
     exact tgo J4 (wj.heap.size, g8) (by (try dsimp only); rw [zu HA]; simp only [Act.put, aSet, aHead, aTail]) (by (try dsimp only); exact ⟨HW, B7, hg7, B8, hg8, hneg7g8⟩)
   refine till_mid 7 #[true, true, true, true, true, true, true, true, true, true, true, false, false, false, false, true, false, false, false] (ι := Nat) (fun g7 => (act0.put (some 7) ((.pointer (some ⟨g7, 0, none⟩))))) (fun g7 wz => Below w5.heap.size w5 wz ∧ Box wz g7 false none 0 0 ∧ w5.heap.size ≤ g7) ?_ (fun J6 => ?_)
   ·rintro g7 wj hI
    try dsimp only at hI ⊢
    obtain ⟨HW, B7, hg7⟩ := hI;have zH := con5 ((HW.cell (p := ⟨g, off + i, none⟩) hg).trans x2) (E3.za HW).zb.1 (E3.za HW).zb.2 (E4.za HW).zb.1 (E4.za HW).zb.2;rw [zu HA];simp only [Act.put, aSet, aHead, aTail];refine ttwo (i := 11) (j := 16) rfl rfl (fun K hK => ?_) (fun K hK => ?_)
    ·go_simp;refine (rdivK b4 a4 l4 c4 (us.getD (p i) 0) M b3 a3 l3 c3 (ent hs i (p i)) B _ ((hy4.za HW).ik (by omega)) (y3.za HW) (zu H0) (by omega) (by omega)).mono ?_;rintro e wk ⟨b5, a5, l5, c5, b6, a6, l6, c6, rfl, h5, h6, hb9⟩;replace HW := Below.step HW hb9;replace B7 := B7.za hb9;clear hb9;refine hK.out _ _ ?_ (fun zH => ?_)
     ·exact ⟨(HW.cell (p := ⟨g, off + i, none⟩) hg).trans x2, (E3.za HW).zb.1, (E3.za HW).zb.2, (E4.za HW).zb.1, (E4.za HW).zb.2⟩
     clear hK K
     try simp only [aSet, aHead, aTail]
     refine zfl (i := 12) rfl ?_;simp only [Act.put, aAll];refine zfl (i := 13) rfl ?_;simp only [Act.put, aAll];refine zfl (i := 14) rfl ?_;simp only [Act.put, aAll];exact tgo J2 (b5, a5, l5, c5, b6, a6, l6, c6, g7) (by (try dsimp only); rw [zu HA]; simp only [Act.put, aSet, aHead, aTail]) (by (try dsimp only); exact ⟨HW, h5, h6, B7, hg7⟩)
    ·go_simp;have hwk : w5.heap.size ≤ wj.heap.size := HW.size;have hxg7 := B7.lt;obtain ⟨wk, hWe⟩ := newB wj;obtain ⟨B8, hb9⟩ := boxes1 wj false none 0 0 hWe;rw [← hWe];clear hWe;replace HW := Below.step HW hb9;replace B7 := B7.za hb9;clear hb9;have hg8 := hwk;have hneg7g8 : g7 ≠ wj.heap.size := by omega
     refine hK.out _ _ ?_ (fun zH => ?_)
     ·exact ⟨(HW.cell (p := ⟨g, off + i, none⟩) hg).trans x2, (E3.za HW).zb.1, (E3.za HW).zb.2, (E4.za HW).zb.1, (E4.za HW).zb.2⟩
     clear hK K
     try simp only [aSet, aHead, aTail]
     exact tgo J4 (g7, wj.heap.size) (by (try dsimp only); rw [zu HA]; simp only [Act.put, aSet, aHead, aTail]) (by (try dsimp only); exact ⟨HW, B7, hg7, B8, hg8, hneg7g8⟩)
   rw [zu HA];refine till_three (i := 11) (j := 15) (k := 16) (by kernel_rfl) rfl rfl rfl (fun K hK => ?_) (fun K hK => ?_) (fun K hK => ?_)
   ·go_simp;refine (rdivK b4 a4 l4 c4 (us.getD (p i) 0) M b3 a3 l3 c3 (ent hs i (p i)) B _ ((hy4.za HW).ik (by omega)) (y3.za HW) (zu H0) (by omega) (by omega)).mono ?_;rintro e wk ⟨b5, a5, l5, c5, b6, a6, l6, c6, rfl, h5, h6, hb9⟩;replace HW := Below.step HW hb9;clear hb9;refine hK.out _ _ ?_ (fun zH => ?_)
    ·exact ⟨(HW.cell (p := ⟨g, off + i, none⟩) hg).trans x2, (E3.za HW).zb.1, (E3.za HW).zb.2, (E4.za HW).zb.1, (E4.za HW).zb.2⟩
    clear hK K
    try simp only [aSet, aHead, aTail]
    refine zfl (i := 12) rfl ?_;simp only [Act.put, aAll];refine zfl (i := 13) rfl ?_;simp only [Act.put, aAll];refine zfl (i := 14) rfl ?_;simp only [Act.put, aAll];exact tgo J3 (b5, a5, l5, c5, b6, a6, l6, c6) (by (try dsimp only); rw [zu HA]; simp only [Act.put, aSet, aHead, aTail]) (by (try dsimp only); exact ⟨HW, h5, h6⟩)
   ·go_simp;have hwk : w5.heap.size ≤ vd1.heap.size := HW.size;obtain ⟨wk, hWe⟩ := newB vd1;obtain ⟨B7, hb9⟩ := boxes1 vd1 false none 0 0 hWe;rw [← hWe];clear hWe;replace HW := Below.step HW hb9;clear hb9;have hg7 := hwk;refine hK.out _ _ ?_ (fun zH => ?_)
    ·exact ⟨(HW.cell (p := ⟨g, off + i, none⟩) hg).trans x2, (E3.za HW).zb.1, (E3.za HW).zb.2, (E4.za HW).zb.1, (E4.za HW).zb.2⟩
    clear hK K
    try simp only [aSet, aHead, aTail]
    exact tgo J6 vd1.heap.size (by (try dsimp only); rw [zu HA]; simp only [Act.put, aSet, aHead, aTail]) (by (try dsimp only); exact ⟨HW, B7, hg7⟩)
   ·go_simp;have hwk : w5.heap.size ≤ vd1.heap.size := HW.size;obtain ⟨wk, hWe⟩ := newB vd1;obtain ⟨B8, hb9⟩ := boxes1 vd1 false none 0 0 hWe;rw [← hWe];clear hWe;replace HW := Below.step HW hb9;clear hb9;have hg8 := hwk;refine hK.out _ _ ?_ (fun zH => ?_)
    ·exact ⟨(HW.cell (p := ⟨g, off + i, none⟩) hg).trans x2, (E3.za HW).zb.1, (E3.za HW).zb.2, (E4.za HW).zb.1, (E4.za HW).zb.2⟩
    clear hK K
    try simp only [aSet, aHead, aTail]
    exact tgo J5 vd1.heap.size (by (try dsimp only); rw [zu HA]; simp only [Act.put, aSet, aHead, aTail]) (by (try dsimp only); exact ⟨HW, B8, hg8⟩)
  ·have hin : i = n := by omega
   subst hin;have hi1 : ¬ (i : Int) < (i : Int) := by omega
   have HLV : Hid (LowV hs p us) := zh fun s hs' => zu HALL s (by rw [← zu HL]; exact hs');rw [← zu EKK] at hu;clear HALL;go_wp2;go_ret;exact ⟨_, _, rfl, us, hu, zu HLV, zu HI, zu HB⟩
end Go.Proofs.YtkomdimalgnamaaGreat
