/-
 What the reference's Reduced tells: of rows that do not depend on one another.
-/
import Derived.Test.YtnpneloahajniaaGreatRGram
import Derived.Test.YtnpneloahajniaaGreatLRead
namespace Go.Proofs.YtnpneloahajniaaGreat
open Go.RowKit Lb
set_option maxRecDepth 20000

set_option maxRecDepth 40000 in
set_option maxHeartbeats 8000000 in
theorem refReducedK (ao : Option Addr) (n cap : Nat) (rs : List (List Int)) (k0 N q Kc : Nat) (w : World) (h : MF w ao n cap rs k0) (hk : k0 ≤ 9000) (hn : n ≤ 100) (hN : ∀ i, i < n → (rs.getD i []).length ≤ N) (hN9 : N ≤ 1000) (hq : ∀ t, t < n → (dotN N (ent rs t) (ent rs t)).natAbs < Bp q) (hK : (n + 1) * q + 1 ≤ Kc) (hK2 : Kc ≤ 100000) (hK3 : 2 ≤ Kc) (hD : gramD N (ent rs) n ≠ 0) :
  Calls Tryz.prog 16 #[.slice ao n cap] w fun e w' => ∃ c : Bool, e = .returned (.bool c) ∧ (c = true ↔ IsReduced N (ent rs) n) ∧ Below w.heap.size w w' := by
 have HPOS := zh (gramD_all hD);have HRG := zh (refGramK ao n cap rs k0 N q Kc w h hk hn hN hN9 hq hK hK2 hK3 hD);obtain ⟨b, eb⟩ : ∃ b, b = ent rs := ⟨_, rfl⟩;rw [← eb] at HPOS HRG ⊢;clear eb h hN hN9 hq hK hD;go_enter Tryz.func16, Tryz.ntmps16
 go_wp2_with fail
 refine (zu HRG).mono ?_;rintro e w1 ⟨gd, cd, ag, cg, rfl, hd, hg, hb1⟩;have HB := zh hb1;clear hb1 HRG;obtain ⟨nd, end1⟩ : ∃ nd, nd = n + 1 := ⟨_, rfl⟩;rw [← end1] at hd ⊢
 go_wp2_with fail
 go_loopw [5] (fun t wr => ∃ i : Nat, i ≤ n ∧ t = .int .i64 (i : Int) ∧ (∀ t s, t < i → s < t → 2 * (gramM N b s t s).natAbs ≤ (gramD N b (s + 1)).natAbs) ∧ (∀ t, t + 1 < i → 3 * (gramD N b (t + 1) * gramD N b (t + 1)) ≤ 4 * (gramD N b (t + 2) * gramD N b t + gramM N b t (t + 1) t * gramM N b t (t + 1) t)) ∧ Below w1.heap.size w1 wr) (fun t _ => n - (intOf t).toNat)
 case atStart => exact ⟨0, Nat.zero_le _, rfl, fun t s ht => absurd ht (by omega), fun t ht => absurd ht (by omega), Below.refl _ _⟩
 case round =>
  obtain ⟨wo, ewo⟩ : ∃ x, x = wr := ⟨_, rfl⟩;rw [← ewo] at hrel ⊢;clear ewo;obtain ⟨i, hi, rfl, hlow, hstep, hB⟩ := hrel;have HC := zh hB;have HLOW := zh hlow;have HSTEP := zh hstep;clear hB hlow hstep;by_cases hlt : i < n
  ·have hi1 : (i : Int) < (n : Int) := by omega
   have hi0 : (0 : Int) ≤ (i : Int) := by omega
   go_wp2_with fail
   go_loopw [6] (fun t wr => ∃ j : Nat, j ≤ i ∧ t = .int .i64 (j : Int) ∧ (∀ s, s < j → 2 * (gramM N b s i s).natAbs ≤ (gramD N b (s + 1)).natAbs) ∧ Below w1.heap.size w1 wr) (fun t _ => i - (intOf t).toNat)
   case atStart => exact ⟨0, Nat.zero_le _, rfl, fun s hs => absurd hs (by omega), zu HC⟩
   case round =>
    clear HC;obtain ⟨j, hj, rfl, hlo, hB⟩ := hrel;have HC := zh hB;have HLO := zh hlo;clear hB hlo;obtain ⟨gg, og, rfl⟩ := RowsOf.addr (R := fun w a l c zs => VF w a l c zs Kc) hg (by omega);obtain ⟨hgg, ai, li, ci, xg, hgi⟩ := RowsOf.at (R := fun w a l c zs => VF w a l c zs Kc) hg hlt;have xgW := ((zu HC).cell (p := ⟨gg, og + i, none⟩) hgg).trans xg;have hggW := Nat.lt_of_lt_of_le hgg (zu HC).size;have hli : i = li := by rw [← hgi.len_eq, gramGs_at hlt, gramL_len]
    subst hli;clear xg hgg;by_cases hji : j < i
    ·have hj1 : (j : Int) < (i : Int) := by omega
     have hpj := zu HPOS (j + 1) (by omega);obtain ⟨g3, o3, rfl⟩ := hgi.some (by omega);obtain ⟨b2, a2, l2, c2, E2, y2⟩ := (hgi.za (zu HC)).at hji;rw [gramGs_at hlt, gramL_at hji, gramV_pos (by have := zu HPOS j (by omega); omega)] at y2;obtain ⟨b1, a1, l1, c1, E1, y1⟩ := (hd.za (zu HC)).at (show j + 1 < nd by omega);rw [Nat.zero_add] at E1;rw [gramDs_at (show j + 1 ≤ n by omega)] at y1;obtain ⟨y, ey⟩ : ∃ y, y = gramM N b j i j := ⟨_, rfl⟩;obtain ⟨z, ez⟩ : ∃ z, z = gramD N b (j + 1) := ⟨_, rfl⟩;rw [← ey] at y2;rw [← ez] at y1 hpj;have EY := zh ey;have EZ := zh ez;obtain ⟨s, es⟩ : ∃ s, s = (((2 * y).natAbs : Int) - z).sign := ⟨_, rfl⟩;have ES := zh es;have e2 : (2 * y).natAbs = 2 * y.natAbs := by rw [Int.natAbs_mul]; rfl
     have HE2 := zh e2;have HPJ := zh hpj;have hw1 : IntKind.i64.wrap ((j : Int) + 1) = ((j + 1 : Nat) : Int) := by rw [IntKind.wrap_i64]; omega
     have hj0 : (0 : Int) ≤ ((j + 1 : Nat) : Int) := by omega
     have hj1' : ((j + 1 : Nat) : Int) < (n : Int) + 1 := by omega
     have hj2 : (0 : Int) ≤ (j : Int) := by omega
     obtain ⟨j1, ej1⟩ : ∃ j1, j1 = j + 1 := ⟨_, rfl⟩;rw [← ej1] at E1 hw1 hj0 hj1';have HJ1 := zh ej1;clear ey ez es e2 hpj ej1
     go_upto_region 8 with fail
     have HW : Below wr.heap.size wr wr.drew := (Below.refl _ _).drew;have HS := zh fun w' (HW : Below wr.heap.size wr w') => con5 ((HW.cell (p := ⟨gg, og + i, none⟩) hggW).trans xgW) (E2.za HW).zb.1 (E2.za HW).zb.2 (E1.za HW).zb.1 (E1.za HW).zb.2;refine zst HS HW 16 (by kernel_rfl) fun zH => ?_;refine ztl 1 rfl ?_;simp only [zP];refine ztl 2 rfl ?_;simp only [zP];refine ztl 3 rfl ?_;simp only [zP];refine ztl 4 rfl ?_;simp only [zP];refine ztl 5 rfl ?_;simp only [zP];refine ztl 6 rfl ?_;simp only [zP];refine ztl 7 rfl ?_;simp only [zP];refine ztl 10 rfl ?_;simp only [zP];refine ztl 11 rfl ?_;simp only [zP];refine ztl 12 rfl ?_;simp only [zP];refine ztl 13 rfl ?_;simp only [zP];refine ztl 14 rfl ?_;simp only [zP];refine tin 0 rfl fun K hK => ?_;go_simp;refine (rofK 2 _ (by omega) (by omega)).mono ?_;rintro e w9 ⟨b4, a4, l4, c4, rfl, h4, hb9⟩;replace HW := Below.step HW hb9;clear hb9;refine hK.out _ _ ?_ (fun zH => ?_)
     ·exact zu HS _ HW
     clear hK K
     try simp only [Act.put, aGet, aZero, aSet, aHead, aTail]
     refine tin 8 rfl fun K hK => ?_;go_simp;refine (rmulK b4 a4 l4 c4 2 2 b2 a2 l2 c2 y Kc _ (h4.ik (by omega)) ((y2.za HW).ik (by omega)) (by have := h4.len_le; have := y2.len_le; omega)).mono ?_;rintro e w9 ⟨b5, a5, l5, c5, rfl, h5, hb9⟩;replace HW := Below.step HW hb9;clear hb9 h4;refine hK.out _ _ ?_ (fun zH => ?_)
     ·exact zu HS _ HW
     clear hK K
     try simp only [zP]
     refine tin 9 rfl fun K hK => ?_;go_simp;refine (rabsK b5 a5 l5 c5 (2 * y) (2 + Kc) _ (h5.ik (by omega))).mono ?_;rintro e w9 ⟨b6, a6, l6, c6, rfl, h6, hb9⟩;replace HW := Below.step HW hb9;clear hb9 h5;refine hK.out _ _ ?_ (fun zH => ?_)
     ·exact zu HS _ HW
     clear hK K
     try simp only [zP]
     refine tin 15 rfl fun K hK => ?_;go_simp;refine (rcmpK b6 a6 l6 c6 ((2 * y).natAbs : Int) (2 + Kc) b1 a1 l1 c1 z Kc s _ (h6.ik (by omega)) ((y1.za HW).ik (by omega)) (zu ES)).mono ?_;rintro e w9 ⟨rfl, hb9⟩;replace HW := Below.step HW hb9;clear hb9 h6;refine hK.out _ _ ?_ (fun zH => ?_)
     ·exact zu HS _ HW
     clear hK K
     try simp only [zP]
     refine tout 16 rfl fun K hK => ?_;go_simp;refine hK.out _ _ ?_;clear hK K
     try simp only [zP]
     refine zdn (by kernel_rfl) ?_ _;clear zH;have HC9 := zh (Below.step (zu HC) HW);clear HW HC E1 E2 y1 y2 xgW;by_cases hc : 2 * (y.natAbs : Int) ≤ z
     ·have hs : ¬ 0 < s := by rw [zu ES, Int.sign_pos_iff, zu HE2]; omega
      have HCC := zh hc;clear hc;go_wp2;go_roundw
      case rel =>
       refine ⟨j + 1, by omega, by have := zu HJ1; go_num, fun t ht => ?_, zu HC9⟩;by_cases e : t = j
       ·subst e; have h1 := zu HCC; have h2 := zu HPJ; rw [← zu EY, ← zu EZ]; omega
       ·exact zu HLO t (by omega)
      case measure => simp [intOf]; have := zu HJ1; omega
     ·have hs : 0 < s := by rw [zu ES, Int.sign_pos_iff, zu HE2]; omega
      have HCC := zh hc;clear hc;go_wp2;go_ret
      first | exact Or.inl ⟨rfl, fun e => absurd (e.small i j hji hlt) (by have h1 := zu HCC; have h2 := zu HPJ; rw [← zu EY, ← zu EZ]; omega), Below.step (zu HB) (zu HC9)⟩ | exact ⟨false, rfl, ⟨fun e => by simp at e, fun e => absurd (e.small i j hji hlt) (by have h1 := zu HCC; have h2 := zu HPJ; rw [← zu EY, ← zu EZ]; omega)⟩, Below.step (zu HB) (zu HC9)⟩
    ·have hji2 : j = i := by omega
     subst hji2;have hjj : ¬ (j : Int) < (j : Int) := by omega
     rcases Nat.eq_zero_or_pos j with hj0 | hj0
     ·subst hj0;go_wp2;go_roundw
      case rel =>
       refine ⟨1, by omega, by go_num, fun t s ht hs => by omega, fun t ht => by omega, zu HC⟩
      case measure => simp [intOf]; omega
     ·obtain ⟨m, rfl⟩ : ∃ m, j = m + 1 := ⟨j - 1, by omega⟩;obtain ⟨g3, o3, rfl⟩ := hgi.some (by omega);obtain ⟨b2, a2, l2, c2, E2, y2⟩ := (hgi.za (zu HC)).at (show m < m + 1 by omega);rw [gramGs_at hlt, gramL_at (show m < m + 1 by omega), gramV_pos (by have := zu HPOS m (by omega); omega)] at y2;obtain ⟨b1, a1, l1, c1, E1, y1⟩ := (hd.za (zu HC)).at (show m + 2 < nd by omega);obtain ⟨b3, a3, l3, c3, E3, y3⟩ := (hd.za (zu HC)).at (show m < nd by omega);obtain ⟨b0, a0, l0, c0, E5, y5⟩ := (hd.za (zu HC)).at (show m + 1 < nd by omega);rw [Nat.zero_add] at E1 E3 E5;rw [gramDs_at (show m + 2 ≤ n by omega)] at y1;rw [gramDs_at (show m ≤ n by omega)] at y3;rw [gramDs_at (show m + 1 ≤ n by omega)] at y5;obtain ⟨y, ey⟩ : ∃ y, y = gramM N b m (m + 1) m := ⟨_, rfl⟩;obtain ⟨z, ez⟩ : ∃ z, z = gramD N b (m + 2) := ⟨_, rfl⟩;obtain ⟨x, ex⟩ : ∃ x, x = gramD N b m := ⟨_, rfl⟩;obtain ⟨d, ed⟩ : ∃ d, d = gramD N b (m + 1) := ⟨_, rfl⟩;rw [← ey] at y2;rw [← ez] at y1;rw [← ex] at y3;rw [← ed] at y5;have HEY := zh ey;have HEZ := zh ez;have HEX := zh ex;have HED := zh ed;obtain ⟨i1, ei1⟩ : ∃ i1, i1 = m + 1 := ⟨_, rfl⟩;obtain ⟨i2, ei2⟩ : ∃ i2, i2 = m + 2 := ⟨_, rfl⟩;have hji0 : (0 : Int) < (i1 : Int) := by omega
      have hw1 : IntKind.i64.wrap ((i1 : Int) + 1) = (i2 : Int) := by rw [IntKind.wrap_i64]; omega
      have hw2 : IntKind.i64.wrap ((i1 : Int) - 1) = (m : Int) := by rw [IntKind.wrap_i64]; omega
      have hk0 : (0 : Int) ≤ (i2 : Int) := by omega
      have hk1 : (i2 : Int) < (n : Int) + 1 := by omega
      have hk2 : (0 : Int) ≤ (m : Int) := by omega
      have hk3 : (m : Int) < (n : Int) + 1 := by omega
      have hk4 : (m : Int) < (i1 : Int) := by omega
      have hk5 : (i1 : Int) < (n : Int) + 1 := by omega
      have HLO2 : Hid (∀ s, s < i1 → 2 * (gramM N b s i1 s).natAbs ≤ (gramD N b (s + 1)).natAbs) := zh (by rw [ei1]; exact zu HLO);have HLOW2 : Hid (∀ t s, t < i1 → s < t → 2 * (gramM N b s t s).natAbs ≤ (gramD N b (s + 1)).natAbs) := zh (by rw [ei1]; exact zu HLOW);have HSTEP2 : Hid (∀ t, t + 1 < i1 → 3 * (gramD N b (t + 1) * gramD N b (t + 1)) ≤ 4 * (gramD N b (t + 2) * gramD N b t + gramM N b t (t + 1) t * gramM N b t (t + 1) t)) := zh (by rw [ei1]; exact zu HSTEP);have hi9 : i1 < n := by omega
      rw [← ei1] at hjj hi1 hi0 xgW E5 ⊢;rw [← ei2] at E1;have EI := zh ei1;have EI2 : Hid (i2 = i1 + 1) := zh (by omega);have HADD : Hid (∀ (W : World) (q4 : Bool) (r4 : Option Addr) (m4 n4 : Nat) (q5 : Bool) (r5 : Option Addr) (m5 n5 : Nat), FK W q4 r4 m4 n4 (z * x) (Kc + Kc) → FK W q5 r5 m5 n5 (y * y) (Kc + Kc) → Calls Tryz.prog 47 #[.agg #[.bool q4, .slice r4 m4 n4], .agg #[.bool q5, .slice r5 m5 n5]] W fun e w' => ∃ c ao' len' cap', e = .returned (.agg #[.bool c, .slice ao' len' cap']) ∧ FK w' c ao' len' cap' (z * x + y * y) (Kc + Kc + 1) ∧ Below W.heap.size W w') := zh fun W q4 r4 m4 n4 q5 r5 m5 n5 h4 h5 => by
       have := raddK q4 r4 m4 n4 (z * x) (Kc + Kc) q5 r5 m5 n5 (y * y) (Kc + Kc) W (h4.ik (by omega)) (h5.ik (by omega))
       rwa [Nat.max_self] at this
      clear HLO HLOW HSTEP ei1 ei2 hj0 ey ez ex ed hgi hlt hi hj
      go_upto_region 11 with fail
      have HW : Below wr.heap.size wr wr.drew := (Below.refl _ _).drew;have HS := zh fun w' (HW : Below wr.heap.size wr w') => con7 ((HW.cell (p := ⟨gg, og + i1, none⟩) hggW).trans xgW) (E2.za HW).zb.1 (E2.za HW).zb.2 (E1.za HW).zb.1 (E1.za HW).zb.2 (E3.za HW).zb.1 (E3.za HW).zb.2;refine zst HS HW 30 (by kernel_rfl) fun zH => ?_;obtain ⟨vd1, hvd⟩ : ∃ v, v = wr.drew := ⟨_, rfl⟩;rw [← hvd] at HW zH ⊢;clear hvd;refine zfl 0 rfl ?_;simp only [Act.put, aGet, aZero, aSet, aHead, aTail];refine zfl 1 rfl ?_;simp only [zP];refine zfl 2 rfl ?_;simp only [zP];refine ztm 3 rfl ?_;simp only [zP];refine ztm 4 rfl ?_;simp only [zP];refine zfl 5 rfl ?_;simp only [zP];refine zfl 6 rfl ?_;simp only [zP];refine zfl 7 rfl ?_;simp only [zP];refine ztm 8 rfl ?_;simp only [zP];refine ztm 9 rfl ?_;simp only [zP];refine zfl 11 rfl ?_;simp only [zP];refine zfl 12 rfl ?_;simp only [zP];refine ztm 13 rfl ?_;simp only [zP];refine ztm 14 rfl ?_;simp only [zP];refine zfl 15 rfl ?_;simp only [zP];refine zfl 16 rfl ?_;simp only [zP];refine ztm 17 rfl ?_;simp only [zP];refine ztm 18 rfl ?_;simp only [zP];refine zfl 19 rfl ?_;simp only [zP];refine zfl 20 rfl ?_;simp only [zP];refine ztm 21 rfl ?_;simp only [zP];refine ztm 22 rfl ?_;simp only [zP];refine zfl 23 rfl ?_;simp only [zP];refine zfl 24 rfl ?_;simp only [zP];refine ztm 25 rfl ?_;simp only [zP];refine ztm 26 rfl ?_;simp only [zP];refine znm (fun act0 hact0 => ?_);have HA := zh hact0;clear hact0;refine zmd 1 #[tT, tT, tT, tT, tT, tT, tT, tT, tT, tT, tT, tT, tT, tT, tT, tT, tT, tT, tT, tT, tT, tT, tT, tT, tT, tT, tT, tT, tT, tT, tF] (ι := Bool × Option Addr × Nat × Nat × Bool × Option Addr × Nat × Nat × Bool × Option Addr × Nat × Nat × Nat) (fun (b4, a4, l4, c4, b5, a5, l5, c5, b6, a6, l6, c6, g7) => ((((act0.put (some 53) (.agg #[.bool b4, .slice a4 l4 c4])).put (some 70) (.agg #[.bool b5, .slice a5 l5 c5])).put (some 71) (.agg #[.bool b6, .slice a6 l6 c6])).put (some 7) ((.pointer (some ⟨g7, 0, none⟩))))) (fun (b4, a4, l4, c4, b5, a5, l5, c5, b6, a6, l6, c6, g7) wz => Below wr.heap.size wr wz ∧ FK wz b6 a6 l6 c6 (z * x + y * y) (Kc + Kc + 1) ∧ Box wz g7 false none 0 0 ∧ wr.heap.size ≤ g7) ?_ (fun J0 => ?_)
      ·rintro ⟨b4, a4, l4, c4, b5, a5, l5, c5, b6, a6, l6, c6, g7⟩ wj hI
       try dsimp only at hI ⊢
       obtain ⟨HW, h6, B7, hg7⟩ := hI;have zH := zu HS _ HW;rw [zu HA];simp only [Act.put, aSet, aHead, aTail];obtain ⟨q1B7, q2B7, q3B7, q4B7⟩ := B7.zb;have hltB7 := B7.lt;refine tout 30 rfl fun K hK => ?_;go_simp;refine hK.out _ _ ?_;clear hK K
       try simp only [aSet, aHead, aTail]
       refine zdn (by kernel_rfl) ?_ _;have nU := B7.noLimb;obtain ⟨wk9, hWe⟩ : ∃ W', W' = put wj g7 b6 a6 l6 c6 := ⟨_, rfl⟩;have e9 : (wj.setCell ⟨g7, 0, none⟩ (.bool b6)).setCell ⟨g7, 1, none⟩ (.slice a6 l6 c6) = wk9 := by rw [hWe]; rfl
       rw [e9];have B7s : Box wk9 g7 b6 a6 l6 c6 := by rw [hWe]; exact B7.put b6 a6 l6 c6
       have h6s : FK wk9 b6 a6 l6 c6 (z * x + y * y) (Kc + Kc + 1) := by rw [hWe]; exact h6.put nU b6 a6 l6 c6
       have hbk : Below wr.heap.size wr wk9 := by rw [hWe]; exact below_put HW hg7 b6 a6 l6 c6
       clear hWe e9 nU B7 h6 HW zH q1B7 q2B7 q3B7 q4B7 hltB7 xgW;replace E5 := E5.za hbk;replace y5 := y5.za hbk;replace HC := zh (Below.step (zu HC) hbk);clear hbk E1 E2 E3 y1 y2 y3;obtain ⟨zz, ezz⟩ : ∃ zz, zz = z * x + y * y := ⟨_, rfl⟩;rw [← ezz] at h6s;have HZZ := zh ezz;obtain ⟨s, es⟩ : ∃ s, s = (4 * zz - 3 * (d * d)).sign := ⟨_, rfl⟩;have ES := zh es;clear es ezz
       go_upto_region 12 with fail
       have HW : Below wk9.heap.size wk9 wk9.drew := (Below.refl _ _).drew;have HS := zh fun w' (HW : Below wk9.heap.size wk9 w') => con4 (B7s.za HW).zb.1 (B7s.za HW).zb.2.1 (E5.za HW).zb.1 (E5.za HW).zb.2;refine zst HS HW 15 (by kernel_rfl) fun zH => ?_;refine ztl 1 rfl ?_;simp only [zP];refine ztl 4 rfl ?_;simp only [zP];refine ztl 5 rfl ?_;simp only [zP];refine ztl 6 rfl ?_;simp only [zP];refine ztl 7 rfl ?_;simp only [zP];refine ztl 8 rfl ?_;simp only [zP];refine ztl 9 rfl ?_;simp only [zP];refine ztl 10 rfl ?_;simp only [zP];refine ztl 11 rfl ?_;simp only [zP];refine tin 0 rfl fun K hK => ?_;go_simp;refine (rofK 4 _ (by omega) (by omega)).mono ?_;rintro e w9 ⟨b8, a8, l8, c8, rfl, h8, hb9⟩;replace HW := Below.step HW hb9;clear hb9;refine hK.out _ _ ?_ (fun zH => ?_)
       ·exact zu HS _ HW
       clear hK K
       try simp only [Act.put, aGet, aZero, aSet, aHead, aTail]
       refine tin 2 rfl fun K hK => ?_;go_simp;refine (rmulK b8 a8 l8 c8 4 2 b6 a6 l6 c6 zz (Kc + Kc + 1) _ (h8.ik (by omega)) ((h6s.za HW).ik (by omega)) (by have := h8.len_le; have := h6s.len_le; omega)).mono ?_;rintro e w9 ⟨b9, a9, l9, c9, rfl, h9, hb9⟩;replace HW := Below.step HW hb9;clear hb9 h8;refine hK.out _ _ ?_ (fun zH => ?_)
       ·exact zu HS _ HW
       clear hK K
       try simp only [zP]
       refine tin 3 rfl fun K hK => ?_;go_simp;refine (rofK 3 _ (by omega) (by omega)).mono ?_;rintro e w9 ⟨b10, a10, l10, c10, rfl, h10, hb9⟩;replace HW := Below.step HW hb9;replace h9 := h9.za hb9;clear hb9;refine hK.out _ _ ?_ (fun zH => ?_)
       ·exact zu HS _ HW
       clear hK K
       try simp only [zP]
       refine tin 12 rfl fun K hK => ?_;go_simp;refine (rmulK b0 a0 l0 c0 d Kc b0 a0 l0 c0 d Kc _ ((y5.za HW).ik (by omega)) ((y5.za HW).ik (by omega)) (by have := y5.len_le; omega)).mono ?_;rintro e w9 ⟨b11, a11, l11, c11, rfl, h11, hb9⟩;replace HW := Below.step HW hb9;replace h9 := h9.za hb9;replace h10 := h10.za hb9;clear hb9;refine hK.out _ _ ?_ (fun zH => ?_)
       ·exact zu HS _ HW
       clear hK K
       try simp only [zP]
       refine tin 13 rfl fun K hK => ?_;go_simp;refine (rmulK b10 a10 l10 c10 3 2 b11 a11 l11 c11 (d * d) (Kc + Kc) _ (h10.ik (by omega)) (h11.ik (by omega)) (by have := h10.len_le; have := h11.len_le; omega)).mono ?_;rintro e w9 ⟨b12, a12, l12, c12, rfl, h12, hb9⟩;replace HW := Below.step HW hb9;replace h9 := h9.za hb9;clear hb9 h10 h11;refine hK.out _ _ ?_ (fun zH => ?_)
       ·exact zu HS _ HW
       clear hK K
       try simp only [zP]
       refine tin 14 rfl fun K hK => ?_;go_simp;refine (rcmpK b9 a9 l9 c9 (4 * zz) (2 + (Kc + Kc + 1)) b12 a12 l12 c12 (3 * (d * d)) (2 + (Kc + Kc)) s _ (h9.ik (by omega)) (h12.ik (by omega)) (zu ES)).mono ?_;rintro e w9 ⟨rfl, hb9⟩;replace HW := Below.step HW hb9;clear hb9 h9 h12;refine hK.out _ _ ?_ (fun zH => ?_)
       ·exact zu HS _ HW
       clear hK K
       try simp only [zP]
       refine tout 15 rfl fun K hK => ?_;go_simp;refine hK.out _ _ ?_;clear hK K
       try simp only [zP]
       refine zdn (by kernel_rfl) ?_ _;clear zH;have HC9 := zh (Below.step (zu HC) HW);by_cases hc : 3 * (d * d) ≤ 4 * zz
       ·have hs : ¬ s < 0 := by rw [zu ES, Int.sign_neg_iff]; omega
        have HC1 : Hid (3 * (gramD N b (m + 1) * gramD N b (m + 1)) ≤ 4 * (gramD N b (m + 2) * gramD N b m + gramM N b m (m + 1) m * gramM N b m (m + 1) m)) := zh (by rw [← zu HEZ, ← zu HEX, ← zu HEY, ← zu HED, ← zu HZZ]; exact hc);clear hc HW HC;go_wp2;go_roundw
        case rel =>
         refine ⟨i1 + 1, by omega, by have := zu EI2; go_num, fun t s ht hs => ?_, fun t ht => ?_, zu HC9⟩
         ·by_cases e : t = i1
          ·subst e; exact zu HLO2 s hs
          ·exact zu HLOW2 t s (by omega) hs
         ·by_cases e : t = m
          ·subst e; exact zu HC1
          ·exact zu HSTEP2 t (by have := zu EI; omega)
        case measure => simp [intOf]; have := zu EI2; omega
       ·have hs : s < 0 := by rw [zu ES, Int.sign_neg_iff]; omega
        have HC1 : Hid (¬ 3 * (gramD N b (m + 1) * gramD N b (m + 1)) ≤ 4 * (gramD N b (m + 2) * gramD N b m + gramM N b m (m + 1) m * gramM N b m (m + 1) m)) := zh (by rw [← zu HEZ, ← zu HEX, ← zu HEY, ← zu HED, ← zu HZZ]; exact hc);clear hc HW HC;go_wp2;go_ret;refine Or.inl ⟨rfl, fun e => ?_, ?_⟩
        ·have hi8 : m + 1 < n := by have := zu EI; omega
         exact absurd (e.step m hi8) (by have := zu HC1; omega)
        ·exact Below.step (zu HB) (zu HC9)
      refine zmd 2 #[tT, tT, tT, tT, tT, tT, tT, tT, tT, tT, tT, tT, tT, tT, tT, tT, tT, tT, tT, tT, tT, tT, tT, tT, tT, tT, tT, tT, tF, tT, tF] (ι := Bool × Option Addr × Nat × Nat × Bool × Option Addr × Nat × Nat × Nat) (fun (b4, a4, l4, c4, b5, a5, l5, c5, g7) => (((act0.put (some 53) (.agg #[.bool b4, .slice a4 l4 c4])).put (some 70) (.agg #[.bool b5, .slice a5 l5 c5])).put (some 7) ((.pointer (some ⟨g7, 0, none⟩))))) (fun (b4, a4, l4, c4, b5, a5, l5, c5, g7) wz => Below wr.heap.size wr wz ∧ FK wz b4 a4 l4 c4 (z * x) (Kc + Kc) ∧ FK wz b5 a5 l5 c5 (y * y) (Kc + Kc) ∧ Box wz g7 false none 0 0 ∧ wr.heap.size ≤ g7) ?_ (fun J1 => ?_)
      ·rintro ⟨b4, a4, l4, c4, b5, a5, l5, c5, g7⟩ wj hI
       try dsimp only at hI ⊢
       obtain ⟨HW, h4, h5, B7, hg7⟩ := hI;have zH := zu HS _ HW;rw [zu HA];simp only [Act.put, aSet, aHead, aTail];refine tin 28 rfl fun K hK => ?_;go_simp;refine (zu HADD _ _ _ _ _ _ _ _ _ h4 h5).mono ?_;rintro e wk ⟨b6, a6, l6, c6, rfl, h6, hb9⟩;replace HW := Below.step HW hb9;replace B7 := B7.za hb9;clear hb9 h4 h5;refine hK.out _ _ ?_ (fun zH => ?_)
       ·exact zu HS _ HW
       clear hK K
       try simp only [aSet, aHead, aTail]
       exact tgo J0 (b4, a4, l4, c4, b5, a5, l5, c5, b6, a6, l6, c6, g7) (by (try dsimp only); rw [zu HA]; first | (simp only [Act.put, aSet, aHead, aTail]; done) | (simp [Act.put] <;> omega)) (by (try dsimp only); exact ⟨HW, h6, B7, hg7⟩)
      refine zmd 2 #[tT, tT, tT, tT, tT, tT, tT, tT, tT, tT, tT, tT, tT, tT, tT, tT, tT, tT, tT, tT, tT, tT, tT, tT, tT, tT, tT, tT, tT, tF, tF] (ι := Bool × Option Addr × Nat × Nat × Bool × Option Addr × Nat × Nat × Bool × Option Addr × Nat × Nat) (fun (b4, a4, l4, c4, b5, a5, l5, c5, b6, a6, l6, c6) => (((act0.put (some 53) (.agg #[.bool b4, .slice a4 l4 c4])).put (some 70) (.agg #[.bool b5, .slice a5 l5 c5])).put (some 71) (.agg #[.bool b6, .slice a6 l6 c6]))) (fun (b4, a4, l4, c4, b5, a5, l5, c5, b6, a6, l6, c6) wz => Below wr.heap.size wr wz ∧ FK wz b6 a6 l6 c6 (z * x + y * y) (Kc + Kc + 1)) ?_ (fun J2 => ?_)
      ·rintro ⟨b4, a4, l4, c4, b5, a5, l5, c5, b6, a6, l6, c6⟩ wj hI
       try dsimp only at hI ⊢
       obtain ⟨HW, h6⟩ := hI;have zH := zu HS _ HW;rw [zu HA];simp only [Act.put, aSet, aHead, aTail];refine tin 29 rfl fun K hK => ?_;go_simp;have hwk : wr.heap.size ≤ wj.heap.size := HW.size;obtain ⟨wk, hWe⟩ := newB wj;obtain ⟨B7, hb9⟩ := boxes1 wj false none 0 0 hWe;rw [← hWe];clear hWe;replace HW := Below.step HW hb9;replace h6 := h6.za hb9;clear hb9;have hg7 := hwk;refine hK.out _ _ ?_ (fun zH => ?_)
       ·exact zu HS _ HW
       clear hK K
       try simp only [aSet, aHead, aTail]
       exact tgo J0 (b4, a4, l4, c4, b5, a5, l5, c5, b6, a6, l6, c6, wj.heap.size) (by (try dsimp only); rw [zu HA]; first | (simp only [Act.put, aSet, aHead, aTail]; done) | (simp [Act.put] <;> omega)) (by (try dsimp only); exact ⟨HW, h6, B7, hg7⟩)
      refine zmd 3 #[tT, tT, tT, tT, tT, tT, tT, tT, tT, tT, tT, tT, tT, tT, tT, tT, tT, tT, tT, tT, tT, tT, tT, tT, tT, tT, tT, tF, tF, tT, tF] (ι := Bool × Option Addr × Nat × Nat × Nat) (fun (b4, a4, l4, c4, g7) => ((act0.put (some 53) (.agg #[.bool b4, .slice a4 l4 c4])).put (some 7) ((.pointer (some ⟨g7, 0, none⟩))))) (fun (b4, a4, l4, c4, g7) wz => Below wr.heap.size wr wz ∧ FK wz b4 a4 l4 c4 (z * x) (Kc + Kc) ∧ Box wz g7 false none 0 0 ∧ wr.heap.size ≤ g7) ?_ (fun J3 => ?_)
      ·rintro ⟨b4, a4, l4, c4, g7⟩ wj hI
       try dsimp only at hI ⊢
       obtain ⟨HW, h4, B7, hg7⟩ := hI;have zH := zu HS _ HW;rw [zu HA];simp only [Act.put, aSet, aHead, aTail];refine tin 27 rfl fun K hK => ?_;go_simp;refine (rmulK b2 a2 l2 c2 y Kc b2 a2 l2 c2 y Kc _ ((y2.za HW).ik (by omega)) ((y2.za HW).ik (by omega)) (by have := y2.len_le; omega)).mono ?_;rintro e wk ⟨b5, a5, l5, c5, rfl, h5, hb9⟩;replace HW := Below.step HW hb9;replace h4 := h4.za hb9;replace B7 := B7.za hb9;clear hb9;refine hK.out _ _ ?_ (fun zH => ?_)
       ·exact zu HS _ HW
       clear hK K
       try simp only [aSet, aHead, aTail]
       exact tgo J1 (b4, a4, l4, c4, b5, a5, l5, c5, g7) (by (try dsimp only); rw [zu HA]; first | (simp only [Act.put, aSet, aHead, aTail]; done) | (simp [Act.put] <;> omega)) (by (try dsimp only); exact ⟨HW, h4, h5, B7, hg7⟩)
      refine zmd 3 #[tT, tT, tT, tT, tT, tT, tT, tT, tT, tT, tT, tT, tT, tT, tT, tT, tT, tT, tT, tT, tT, tT, tT, tT, tT, tT, tT, tT, tF, tF, tF] (ι := Bool × Option Addr × Nat × Nat × Bool × Option Addr × Nat × Nat) (fun (b4, a4, l4, c4, b5, a5, l5, c5) => ((act0.put (some 53) (.agg #[.bool b4, .slice a4 l4 c4])).put (some 70) (.agg #[.bool b5, .slice a5 l5 c5]))) (fun (b4, a4, l4, c4, b5, a5, l5, c5) wz => Below wr.heap.size wr wz ∧ FK wz b4 a4 l4 c4 (z * x) (Kc + Kc) ∧ FK wz b5 a5 l5 c5 (y * y) (Kc + Kc)) ?_ (fun J4 => ?_)
      ·rintro ⟨b4, a4, l4, c4, b5, a5, l5, c5⟩ wj hI
       try dsimp only at hI ⊢
       obtain ⟨HW, h4, h5⟩ := hI;have zH := zu HS _ HW;rw [zu HA];simp only [Act.put, aSet, aHead, aTail];refine ttwo 28 29 rfl rfl (fun K hK => ?_) (fun K hK => ?_)
       ·go_simp;refine (zu HADD _ _ _ _ _ _ _ _ _ h4 h5).mono ?_;rintro e wk ⟨b6, a6, l6, c6, rfl, h6, hb9⟩;replace HW := Below.step HW hb9;clear hb9 h4 h5;refine hK.out _ _ ?_ (fun zH => ?_)
        ·exact zu HS _ HW
        clear hK K
        try simp only [aSet, aHead, aTail]
        exact tgo J2 (b4, a4, l4, c4, b5, a5, l5, c5, b6, a6, l6, c6) (by (try dsimp only); rw [zu HA]; first | (simp only [Act.put, aSet, aHead, aTail]; done) | (simp [Act.put] <;> omega)) (by (try dsimp only); exact ⟨HW, h6⟩)
       ·go_simp;have hwk : wr.heap.size ≤ wj.heap.size := HW.size;obtain ⟨wk, hWe⟩ := newB wj;obtain ⟨B7, hb9⟩ := boxes1 wj false none 0 0 hWe;rw [← hWe];clear hWe;replace HW := Below.step HW hb9;replace h4 := h4.za hb9;replace h5 := h5.za hb9;clear hb9;have hg7 := hwk;refine hK.out _ _ ?_ (fun zH => ?_)
        ·exact zu HS _ HW
        clear hK K
        try simp only [aSet, aHead, aTail]
        exact tgo J1 (b4, a4, l4, c4, b5, a5, l5, c5, wj.heap.size) (by (try dsimp only); rw [zu HA]; first | (simp only [Act.put, aSet, aHead, aTail]; done) | (simp [Act.put] <;> omega)) (by (try dsimp only); exact ⟨HW, h4, h5, B7, hg7⟩)
      refine zmd 4 #[tT, tT, tT, tT, tT, tT, tT, tT, tT, tT, tF, tT, tT, tT, tT, tT, tT, tT, tT, tT, tT, tT, tT, tT, tT, tT, tT, tF, tF, tT, tF] (ι := Nat) (fun g7 => (act0.put (some 7) ((.pointer (some ⟨g7, 0, none⟩))))) (fun g7 wz => Below wr.heap.size wr wz ∧ Box wz g7 false none 0 0 ∧ wr.heap.size ≤ g7) ?_ (fun J5 => ?_)
      ·rintro g7 wj hI
       try dsimp only at hI ⊢
       obtain ⟨HW, B7, hg7⟩ := hI;have zH := zu HS _ HW;rw [zu HA];simp only [Act.put, aSet, aHead, aTail];refine tin 10 rfl fun K hK => ?_;go_simp;refine (rmulK b1 a1 l1 c1 z Kc b3 a3 l3 c3 x Kc _ ((y1.za HW).ik (by omega)) ((y3.za HW).ik (by omega)) (by have := y1.len_le; have := y3.len_le; omega)).mono ?_;rintro e wk ⟨b4, a4, l4, c4, rfl, h4, hb9⟩;replace HW := Below.step HW hb9;replace B7 := B7.za hb9;clear hb9;refine hK.out _ _ ?_ (fun zH => ?_)
       ·exact zu HS _ HW
       clear hK K
       try simp only [aSet, aHead, aTail]
       exact tgo J3 (b4, a4, l4, c4, g7) (by (try dsimp only); rw [zu HA]; first | (simp only [Act.put, aSet, aHead, aTail]; done) | (simp [Act.put] <;> omega)) (by (try dsimp only); exact ⟨HW, h4, B7, hg7⟩)
      refine zmd 4 #[tT, tT, tT, tT, tT, tT, tT, tT, tT, tT, tT, tT, tT, tT, tT, tT, tT, tT, tT, tT, tT, tT, tT, tT, tT, tT, tT, tF, tF, tF, tF] (ι := Bool × Option Addr × Nat × Nat) (fun (b4, a4, l4, c4) => (act0.put (some 53) (.agg #[.bool b4, .slice a4 l4 c4]))) (fun (b4, a4, l4, c4) wz => Below wr.heap.size wr wz ∧ FK wz b4 a4 l4 c4 (z * x) (Kc + Kc)) ?_ (fun J6 => ?_)
      ·rintro ⟨b4, a4, l4, c4⟩ wj hI
       try dsimp only at hI ⊢
       obtain ⟨HW, h4⟩ := hI;have zH := zu HS _ HW;rw [zu HA];simp only [Act.put, aSet, aHead, aTail];refine ttwo 27 29 rfl rfl (fun K hK => ?_) (fun K hK => ?_)
       ·go_simp;refine (rmulK b2 a2 l2 c2 y Kc b2 a2 l2 c2 y Kc _ ((y2.za HW).ik (by omega)) ((y2.za HW).ik (by omega)) (by have := y2.len_le; omega)).mono ?_;rintro e wk ⟨b5, a5, l5, c5, rfl, h5, hb9⟩;replace HW := Below.step HW hb9;replace h4 := h4.za hb9;clear hb9;refine hK.out _ _ ?_ (fun zH => ?_)
        ·exact zu HS _ HW
        clear hK K
        try simp only [aSet, aHead, aTail]
        exact tgo J4 (b4, a4, l4, c4, b5, a5, l5, c5) (by (try dsimp only); rw [zu HA]; first | (simp only [Act.put, aSet, aHead, aTail]; done) | (simp [Act.put] <;> omega)) (by (try dsimp only); exact ⟨HW, h4, h5⟩)
       ·go_simp;have hwk : wr.heap.size ≤ wj.heap.size := HW.size;obtain ⟨wk, hWe⟩ := newB wj;obtain ⟨B7, hb9⟩ := boxes1 wj false none 0 0 hWe;rw [← hWe];clear hWe;replace HW := Below.step HW hb9;replace h4 := h4.za hb9;clear hb9;have hg7 := hwk;refine hK.out _ _ ?_ (fun zH => ?_)
        ·exact zu HS _ HW
        clear hK K
        try simp only [aSet, aHead, aTail]
        exact tgo J3 (b4, a4, l4, c4, wj.heap.size) (by (try dsimp only); rw [zu HA]; first | (simp only [Act.put, aSet, aHead, aTail]; done) | (simp [Act.put] <;> omega)) (by (try dsimp only); exact ⟨HW, h4, B7, hg7⟩)
      rw [zu HA];refine ttwo 10 29 rfl rfl (fun K hK => ?_) (fun K hK => ?_)
      ·go_simp;refine (rmulK b1 a1 l1 c1 z Kc b3 a3 l3 c3 x Kc _ ((y1.za HW).ik (by omega)) ((y3.za HW).ik (by omega)) (by have := y1.len_le; have := y3.len_le; omega)).mono ?_;rintro e wk ⟨b4, a4, l4, c4, rfl, h4, hb9⟩;replace HW := Below.step HW hb9;clear hb9;refine hK.out _ _ ?_ (fun zH => ?_)
       ·exact zu HS _ HW
       clear hK K
       try simp only [aSet, aHead, aTail]
       exact tgo J6 (b4, a4, l4, c4) (by (try dsimp only); rw [zu HA]; first | (simp only [Act.put, aSet, aHead, aTail]; done) | (simp [Act.put] <;> omega)) (by (try dsimp only); exact ⟨HW, h4⟩)
      ·go_simp;have hwk : wr.heap.size ≤ vd1.heap.size := HW.size;obtain ⟨wk, hWe⟩ := newB vd1;obtain ⟨B7, hb9⟩ := boxes1 vd1 false none 0 0 hWe;rw [← hWe];clear hWe;replace HW := Below.step HW hb9;clear hb9;have hg7 := hwk;refine hK.out _ _ ?_ (fun zH => ?_)
       ·exact zu HS _ HW
       clear hK K
       try simp only [aSet, aHead, aTail]
       exact tgo J5 vd1.heap.size (by (try dsimp only); rw [zu HA]; first | (simp only [Act.put, aSet, aHead, aTail]; done) | (simp [Act.put] <;> omega)) (by (try dsimp only); exact ⟨HW, B7, hg7⟩)
  ·have hin : i = n := by omega
   subst hin;have hii : ¬ (i : Int) < (i : Int) := by omega
   go_wp2;go_ret
   first
    | exact ⟨true, rfl, ⟨fun _ => ⟨fun t s hs ht => zu HLOW t s ht hs, zu HSTEP⟩, fun _ => rfl⟩, Below.step (zu HB) (zu HC)⟩
    | exact Or.inr ⟨rfl, ⟨fun t s hs ht => zu HLOW t s ht hs, zu HSTEP⟩, Below.step (zu HB) (zu HC)⟩
end Go.Proofs.YtnpneloahajniaaGreat
