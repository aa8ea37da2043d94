/-
 What Hnf of the reference tells.
-/
import Derived.Test.YtnpneloahajniaaGreatJT
import Derived.Test.YtnpneloahajniaaGreatRVFresh
import Derived.Test.YtnpneloahajniaaGreatJP
import Derived.Deep.CutRange
namespace Go.Proofs.YtnpneloahajniaaGreat
open Go.RowKit Lb
set_option maxRecDepth 20000

theorem sign_ne (x : Int) : (x.sign != 0) = decide (x ≠ 0) := by
 by_cases h : x = 0
 ·subst h; rfl
 ·have : x.sign ≠ 0 := fun e => h (Int.sign_eq_zero_iff_zero.1 e);rw [bne_iff_ne.2 this, decide_eq_true h]
theorem getD_take {l : List (List Int)} {d i : Nat} (hi : i < d) : (l.take d).getD i [] = l.getD i [] := by
 rw [List.getD_eq_getElem?_getD, List.getD_eq_getElem?_getD, List.getElem?_take_of_lt hi]
set_option maxRecDepth 40000 in
set_option maxHeartbeats 8000000 in
theorem refHnfG (ao : Option Addr) (n cap : Nat) (rs : List (List Int)) (aF bF : Nat → Nat) (N : Nat) (w : World) (h : MS w ao n cap rs (aF 0)) (hG : Grows rs n N aF bF) (hN : ∀ i, i < n → (rs.getD i []).length = N) (hn : n ≤ 1000) (hNl : N ≤ 1000) (hA : ∀ d, d ≤ n → aF d ≤ 222000) (hB : ∀ d, d ≤ n → bF d ≤ 222000) :
  Calls Tryz.prog 11 #[.slice ao n cap, .int .i64 (N : Int)] w fun e w' => ∃ a1 m c1 p hs, e = .returned (.slice a1 m c1) ∧ MF w' a1 m c1 hs 222000 ∧ HForm hs p ∧ SameL rs hs ∧ (∀ r ∈ hs, r.length = N) ∧ m ≤ n ∧ Below w.heap.size w w' := by
 have HG := zh hG;have HS0 := zh (hbase_start (aF := aF) (bF := bF) h.len_eq hN (fun i j => ms_ent h i j));have HAB := zh hA;have HBB := zh hB;have ha := hA 0 (Nat.zero_le _);clear hA hB hN hG;have hup := ms_upH h ha;clear h ha;go_enter Tryz.func11, Tryz.ntmps11;have hbn := below_new w (.cells #[] 39);have hemp : RO (w.alloc (.cells #[] 39)) w.heap.size (some ⟨w.heap.size, 0, none⟩) 0 0 [] := ro_empty rfl (Nat.le_refl _);replace hup := hup.za hbn;have hszn := hbn.size;have HBN := zh hbn;clear hbn
 go_wp2_with (at_builtin; (refine append_rows (R := fun w a l c zs => VS w a l c zs 222000) (steadyVH 222000) rfl (.tmp 18) (.tmp 19) 22 Tryz.underlying22 rfl w.heap.size _ 0 0 [] rfl hemp _ n cap rs rfl hup (by omega) hszn ?_))
 intro al cl w1 hown hgr1;have hb1 : Below w.heap.size w w1 := (zu HBN).grown hgr1 hszn hemp.ge;replace hown : RO w1 w.heap.size al n cl rs := hown;have HB1 := zh hb1;clear hgr1 hemp hszn HBN hup hb1
 go_wp2_with fail
 go_loopw [6, 7] (fun s t wr => ∃ (d c : Nat) (l : List (List Int)) (pf : Nat → Nat), d ≤ n ∧ c ≤ N ∧ s = .int .i64 (d : Int) ∧ t = .int .i64 (c : Int) ∧ RO wr w.heap.size al n cl l ∧ HBase rs l c d n N pf aF bF ∧ Below w.heap.size w wr) (fun _ t _ => N - (intOf t).toNat)
 case atStart => exact ⟨0, 0, rs, _, Nat.zero_le _, Nat.zero_le _, rfl, rfl, hown, zu HS0, zu HB1⟩
 case round =>
  clear hown;obtain ⟨d, c, l, pf, hdn0, hcN0, rfl, rfl, hown, hbase, hB⟩ := hrel;have HS := zh hbase;have HB := zh hB;clear hbase hB;by_cases hcN : c < N
  ·have hc1 : (c : Int) < (N : Int) := by omega
   have hc0 : (0 : Int) ≤ (c : Int) := by omega
   go_wp2_with fail
   refine (leastK al n cl l 222000 N d c _ hown.mk (zu HS).lens hcN hdn0 hn (by omega)).mono ?_;rintro e w2 ⟨z, rfl, hz, hb9⟩;replace hown := hown.za hb9;replace HB := zh (Below.step (zu HB) hb9);have HR := zh ((zu HS).rnd hcN (zu HG) hz);clear hb9 hz HS
   go_wp2_with fail
   go_loopg [8, 9] ((ent l z.toNat c).natAbs) (fun v s t wr => ∃ (z : Int) (b : Bool) (l2 : List (List Int)), s = .int .i64 z ∧ t = .bool b ∧ RO wr w.heap.size al n cl l2 ∧ Rnd rs l2 c d n N pf aF bF z b v ∧ Below w.heap.size w wr)
   case atStart => exact ⟨z, _, l, rfl, rfl, hown, zu HR, zu HB⟩
   case round =>
    clear hown HR HB;obtain ⟨z, b, l1, rfl, rfl, hown, hrnd, hB⟩ := hrel;have HB := zh hB;clear hB;rcases hrnd with ⟨rfl, hz, hb⟩ | ⟨rfl, p, rfl, hst⟩ | ⟨rfl, p, Φ, A, P, rfl, ht⟩
    ·have hzq : decide (z < 0) = true := decide_eq_true hz;have HS := zh hb;clear hb;go_wp2;go_roundw
     case rel => exact ⟨d, c + 1, l1, pf, hdn0, by omega, rfl, by go_num, hown, zu HS, zu HB⟩
     case measure => simp [intOf]; omega
    ·have hzq : decide ((p : Int) < 0) = false := decide_eq_false (by omega);have hzn : ¬ (p : Int) < 0 := by omega
     have hdp := hst.dp;have hpn := hst.pn;have hdn : d < n := by omega
     have HT := zh hst.swap;obtain ⟨g, rfl⟩ := hown.addr (by omega);obtain ⟨a5, l5, c5, x5, v5⟩ := hown.at hdn;obtain ⟨a6, l6, c6, x6, v6⟩ := hown.at hpn;have hl5 : N = l5 := by rw [← v5.vk.len_eq]; exact (hst.lens d hdn).symm
     have hl6 : N = l6 := by rw [← v6.vk.len_eq]; exact (hst.lens p hpn).symm
     subst hl5;subst hl6;have hbl := hown.base_le;have hgm := hbl.2;have hd0 : (0 : Int) ≤ (d : Int) := by omega
     have hd1 : (d : Int) < (n : Int) := by omega
     have hp0 : (0 : Int) ≤ (p : Int) := by omega
     have hp1 : (p : Int) < (n : Int) := by omega
     clear hst
     go_upto_region 19 with fail
     go_cut [] from 104 to 117 (fun wc => ∃ lz, RO wc w.heap.size (some ⟨g, 0, none⟩) n cl lz ∧ HStop rs lz c d n N pf aF bF d ∧ Below w.heap.size w wc)
     case first =>
      have HW : Below wr.heap.size wr wr.drew := (Below.refl _ _).drew;by_cases hdpq : d = p
      ·subst hdpq;obtain ⟨rfl, rfl⟩ : a5 = a6 ∧ c5 = c6 := by
        rw [x5] at x6;simp only [Option.some.injEq, Value.slice.injEq, true_and] at x6;exact x6
       refine zts (fun w' => w'.cell? ⟨g, d, none⟩ = some (.slice a5 N c5)) 13 (by kernel_rfl) ?_ (fun zH => ?_)
       ·exact (HW.cell (p := ⟨g, d, none⟩) hgm).trans x5
       refine ztl 0 rfl ?_;simp only [Act.put, aGet, aZero, aSet, aHead, aTail];refine ztl 1 rfl ?_;simp only [zP];refine ztl 4 rfl ?_;simp only [zP];refine ztl 5 rfl ?_;simp only [zP];refine ztl 6 rfl ?_;simp only [zP];refine ztl 7 rfl ?_;simp only [zP];refine ztl 8 rfl ?_;simp only [zP];refine ztl 9 rfl ?_;simp only [zP];refine ztl 10 rfl ?_;simp only [zP];refine ztl 11 rfl ?_;simp only [zP];refine ztl 12 rfl ?_;simp only [zP];refine till_fr (i := 2) (v := ?_) rfl (Or.inl ⟨by rfl, ?_⟩) ?_
       rotate_left
       ·(intro w hSw; (try dsimp only at hSw); go_simp; try with_reducible rfl)
       simp only [zP];refine till_fr (i := 3) (v := ?_) rfl (Or.inl ⟨by rfl, ?_⟩) ?_
       rotate_left
       ·(intro w hSw; (try dsimp only at hSw); go_simp; try with_reducible rfl)
       simp only [zP];have r5 := x5;have r7 := hown.free d;have q5 := (HW.cell (p := ⟨g, d, none⟩) hgm).trans x5;have q7 := (hown.za HW).free d;refine tout 13 rfl fun K hK => ?_;go_simp;refine hK.out _ _ ?_;clear hK K
       try simp only [zP]
       refine tout 14 rfl fun K hK => ?_;go_simp;refine hK.out _ _ ?_;clear hK K
       try simp only [zP]
       refine tout 15 rfl fun K hK => ?_;go_simp;refine hK.out _ _ ?_;clear hK K
       try simp only [zP]
       refine zdn (by kernel_rfl) ?_ _;clear r5 r7 q5 q7 zH;have ho1 := ro_set hown hdn v6;have hv5 := vs_after (i := d) (v := .slice a5 N c5) hown v5;have ho2 := ro_set ho1 hdn hv5;have hbz := ((zu HB).setCell (p := ⟨g, d, none⟩) (by simpa using hbl.1) (.slice a5 N c5)).setCell (p := ⟨g, d, none⟩) (by simpa using hbl.1) (.slice a5 N c5);have hdr : Below ((wr.setCell ⟨g, d, none⟩ (.slice a5 N c5)).setCell ⟨g, d, none⟩ (.slice a5 N c5)).heap.size ((wr.setCell ⟨g, d, none⟩ (.slice a5 N c5)).setCell ⟨g, d, none⟩ (.slice a5 N c5)) ((wr.setCell ⟨g, d, none⟩ (.slice a5 N c5)).setCell ⟨g, d, none⟩ (.slice a5 N c5)).drew := (Below.refl _ _).drew;have ho3 := ho2.za hdr;have HBZ := zh hbz.drew;clear ho1 hv5 ho2 hbz hdr hown v5 v6 HW x5 x6;go_wp2
       go_meet
       case rel => exact ⟨_, ho3, zu HT, zu HBZ⟩
      ·have hdpn : ¬ (d : Int) = (p : Int) := by omega
       have zS := zh fun w' (HW : Below wr.heap.size wr w') => con2 ((HW.cell (p := ⟨g, d, none⟩) hgm).trans x5) ((HW.cell (p := ⟨g, p, none⟩) hgm).trans x6);refine zst zS HW 13 (by kernel_rfl) fun zH => ?_;refine ztl 0 rfl ?_;simp only [Act.put, aGet, aZero, aSet, aHead, aTail];refine ztl 1 rfl ?_;simp only [zP];refine ztl 4 rfl ?_;simp only [zP];refine ztl 5 rfl ?_;simp only [zP];refine ztl 6 rfl ?_;simp only [zP];refine ztl 7 rfl ?_;simp only [zP];refine ztl 8 rfl ?_;simp only [zP];refine ztl 9 rfl ?_;simp only [zP];refine ztl 10 rfl ?_;simp only [zP];refine ztl 11 rfl ?_;simp only [zP];refine ztl 12 rfl ?_;simp only [zP];refine till_fr (i := 2) (v := ?_) rfl (Or.inl ⟨by rfl, ?_⟩) ?_
       rotate_left
       ·(intro w hSw; (try dsimp only at hSw); go_simp; try with_reducible rfl)
       simp only [zP];refine till_fr (i := 3) (v := ?_) rfl (Or.inl ⟨by rfl, ?_⟩) ?_
       rotate_left
       ·(intro w hSw; (try dsimp only at hSw); go_simp; try with_reducible rfl)
       simp only [zP];have r5 := x5;have r7 := hown.free d;have q5 := (HW.cell (p := ⟨g, d, none⟩) hgm).trans x5;have q7 := (hown.za HW).free d;have r6 := x6;have r8 := hown.free p;have q6 := (HW.cell (p := ⟨g, p, none⟩) hgm).trans x6;have q8 := (hown.za HW).free p;refine tout 13 rfl fun K hK => ?_;go_simp;refine hK.out _ _ ?_;clear hK K
       try simp only [zP]
       refine tout 14 rfl fun K hK => ?_;go_simp;refine hK.out _ _ ?_;clear hK K
       try simp only [zP]
       refine tout 15 rfl fun K hK => ?_;go_simp;refine hK.out _ _ ?_;clear hK K
       try simp only [zP]
       refine zdn (by kernel_rfl) ?_ _;clear r5 r6 r7 r8 q5 q6 q7 q8 zH;have ho1 := ro_set hown hdn v6;have hv5 := vs_after (i := d) (v := .slice a6 N c6) hown v5;have ho2 := ro_set ho1 hpn hv5;have hbz := ((zu HB).setCell (p := ⟨g, d, none⟩) (by simpa using hbl.1) (.slice a6 N c6)).setCell (p := ⟨g, p, none⟩) (by simpa using hbl.1) (.slice a5 N c5);have hdr : Below ((wr.setCell ⟨g, d, none⟩ (.slice a6 N c6)).setCell ⟨g, p, none⟩ (.slice a5 N c5)).heap.size ((wr.setCell ⟨g, d, none⟩ (.slice a6 N c6)).setCell ⟨g, p, none⟩ (.slice a5 N c5)) ((wr.setCell ⟨g, d, none⟩ (.slice a6 N c6)).setCell ⟨g, p, none⟩ (.slice a5 N c5)).drew := (Below.refl _ _).drew;have ho3 := ho2.za hdr;have HBZ := zh hbz.drew;clear ho1 hv5 ho2 hbz hdr hown v5 v6 HW x5 x6;go_wp2
       go_meet
       case rel => exact ⟨_, ho3, zu HT, zu HBZ⟩
     case rest =>
      clear hown HB HT v5 v6 x5 x6 hbl hgm hp0 hp1 hzq hzn hdp hpn;obtain ⟨lz, hown, hst, hB⟩ := hcut;have HT := zh hst;have HB := zh hB;clear hst hB;obtain ⟨a5, l5, c5, x5, v5⟩ := hown.at hdn;have hl5 : N = l5 := by rw [← v5.vk.len_eq]; exact ((zu HT).lens d hdn).symm
      subst hl5;obtain ⟨g5, o5, rfl⟩ := v5.vk.some (by omega);obtain ⟨b7, a7, l7, c7, E7, y7⟩ := v5.at hcN;replace y7 := y7.1;obtain ⟨f1, f2⟩ := E7.zb;have hg5 := E7.1;have hgm := hown.base_le.2;obtain ⟨s, es⟩ : ∃ s, s = ((lz.getD d []).getD c 0).sign := ⟨_, rfl⟩
      go_wp2_with fail
      refine (rsignK b7 a7 l7 c7 ((lz.getD d []).getD c 0) 222000 s _ y7 es).mono ?_;rintro e w3 ⟨rfl, hb9⟩;replace hown := hown.za hb9;replace HB := zh (Below.step (zu HB) hb9);replace v5 := v5.za hb9;replace x5 := (hb9.cell (p := ⟨g, d, none⟩) hgm).trans x5;replace hgm := Nat.lt_of_lt_of_le hgm hb9.size;clear hb9 f1 f2 hg5 E7 y7;by_cases hneg : (lz.getD d []).getD c 0 < 0
      ·have hsn : s < 0 := by rw [es, Int.sign_eq_neg_one_of_neg hneg]; omega
       have HNG := zh ((zu HT).neg hneg);have HPS := zh (show 0 < ent (lz.set d (vneg (lz.getD d []))) d c from by rw [(zu HNG).2]; show 0 < -((lz.getD d []).getD c 0); omega);clear es hneg
       go_wp2_with fail
       refine (rvnegK _ N c5 (lz.getD d []) 222000 _ v5 (by omega) (by omega)).mono ?_;rintro e w4 ⟨a8, c8, rfl, h8, hb9⟩;replace hown := hown.za hb9;replace HB := zh (Below.step (zu HB) hb9);replace x5 := (hb9.cell (p := ⟨g, d, none⟩) hgm).trans x5;replace hgm := Nat.lt_of_lt_of_le hgm hb9.size;have q7 := hown.free d;have hv8 : VS w4 a8 N c8 (vneg (lz.getD d [])) 222000 := (vf_tight (k := 222000) h8 fun j _ => by have := (zu HNG).1.up d (Nat.le_refl _) j; rw [ent_same (by rw [(zu HT).len]; exact hdn)] at this; exact Nat.lt_of_lt_of_le this (Bp_le (zu HAB (d + 1) (by omega)))).vs (by omega);have ho2 := ro_set hown hdn hv8;have HB2 := zh ((zu HB).setCell (p := ⟨g, d, none⟩) (by simpa using hown.base_le.1) (.slice a8 N c8));clear hb9 v5 h8 hv8;have hcut : ∃ lz', RO (w4.setCell ⟨g, d, none⟩ (.slice a8 N c8)) w.heap.size (some ⟨g, 0, none⟩) n cl lz' ∧ HLow rs lz' c d n N pf aF bF 0 ∧ Below w.heap.size w (w4.setCell ⟨g, d, none⟩ (.slice a8 N c8)) := ⟨_, ho2, (zu HNG).1.low (zu HPS), zu HB2⟩
       go_wp2_with fail
       clear hown HB HT x5 hgm ho2 HB2 HNG HPS;obtain ⟨lz', hown, hlow, hB⟩ := hcut;go_loopw [13] (fun t wr => ∃ (i : Nat) (l2 : List (List Int)), i ≤ d ∧ t = .int .i64 (i : Int) ∧ RO wr w.heap.size (some ⟨g, 0, none⟩) n cl l2 ∧ HLow rs l2 c d n N pf aF bF i ∧ Below w.heap.size w wr) (fun t _ => d - (intOf t).toNat)
       case atStart => exact ⟨0, lz', Nat.zero_le _, rfl, hown, hlow, hB⟩
       case round =>
        clear hown hlow hB;obtain ⟨i, l2, hi, rfl, hown, hin, hB⟩ := hrel;have HI := zh hin;have HB := zh hB;clear hin hB;by_cases hlt : i < d
        ·have hi0 : (0 : Int) ≤ (i : Int) := by omega
         have hi1 : (i : Int) < (d : Int) := by omega
         have hi2 : (i : Int) < (n : Int) := by omega
         have H0 := zh (show (l2.getD d []).getD c 0 ≠ 0 from fun e => by
          have h1 := (zu HI).pos;rw [show ent l2 d c = 0 from e] at h1;omega)
         obtain ⟨a5, l5, c5, x5, v5⟩ := hown.at (show i < n by omega);have hl5 : N = l5 := by rw [← v5.vk.len_eq]; exact ((zu HI).lens i (by omega)).symm
         subst hl5;obtain ⟨g5, o5, rfl⟩ := v5.vk.some (by omega);obtain ⟨b7, a7, l7, c7, E7, y7⟩ := v5.at hcN;replace y7 := y7.1;obtain ⟨a6, l6, c6, x6, v6⟩ := hown.at hdn;have hl6 : N = l6 := by rw [← v6.vk.len_eq]; exact ((zu HI).lens d hdn).symm
         subst hl6;obtain ⟨g6, o6, rfl⟩ := v6.vk.some (by omega);obtain ⟨b8, a8, l8, c8, E8, y8⟩ := v6.at hcN;replace y8 := y8.1;have hgm := hown.base_le.2
         go_upto_region 25 with fail
         as_aux_lemma =>
          have HW : Below wr.heap.size wr wr.drew := (Below.refl _ _).drew;have zS := zh fun w' (HW : Below wr.heap.size wr w') => con6 ((HW.cell (p := ⟨g, i, none⟩) hgm).trans x5) ((HW.cell (p := ⟨g, d, none⟩) hgm).trans x6) (E7.za HW).zb.1 (E7.za HW).zb.2 (E8.za HW).zb.1 (E8.za HW).zb.2;refine zst zS HW 20 (by kernel_rfl) fun zH => ?_;obtain ⟨vd1, hvd⟩ : ∃ v, v = wr.drew := ⟨_, rfl⟩;rw [← hvd] at HW zH ⊢;clear hvd;refine zfl 0 rfl ?_;simp only [Act.put, aGet, aZero, aSet, aHead, aTail];refine zfl 1 rfl ?_;simp only [zP];refine ztm 2 rfl ?_;simp only [zP];refine ztm 3 rfl ?_;simp only [zP];refine zfl 4 rfl ?_;simp only [zP];refine ztm 5 rfl ?_;simp only [zP];refine ztm 6 rfl ?_;simp only [zP];refine zfl 7 rfl ?_;simp only [zP];refine zfl 8 rfl ?_;simp only [zP];refine ztm 9 rfl ?_;simp only [zP];refine ztm 10 rfl ?_;simp only [zP];refine zfl 11 rfl ?_;simp only [zP];refine ztm 12 rfl ?_;simp only [zP];refine ztm 13 rfl ?_;simp only [zP];refine znm (fun act0 hact0 => ?_);have HA := zh hact0;clear hact0;refine zmd 2 #[tT, tT, tT, tT, tT, tT, tT, tT, tT, tT, tT, tT, tT, tT, tT, tT, tT, tT, tT, tT, tF, tF] (ι := Bool × Option Addr × Nat × Nat × Bool × Option Addr × Nat × Nat × Nat × Nat) (fun (b9, a9, l9, c9, b10, a10, l10, c10, g9, g10) => ((((((act0.put (some 155) (.tuple #[.agg #[.bool b9, .slice a9 l9 c9], .agg #[.bool b10, .slice a10 l10 c10]])).put (some 140) (.tuple #[.agg #[.bool b9, .slice a9 l9 c9], .agg #[.bool b10, .slice a10 l10 c10]])).put (some 156) (.agg #[.bool b9, .slice a9 l9 c9])).put (some 157) (.agg #[.bool b10, .slice a10 l10 c10])).put (some 14) ((.pointer (some ⟨g9, 0, none⟩)))).put (some 15) ((.pointer (some ⟨g10, 0, none⟩))))) (fun (b9, a9, l9, c9, b10, a10, l10, c10, g9, g10) wz => Below wr.heap.size wr wz ∧ FK wz b9 a9 l9 c9 ((l2.getD i []).getD c 0 / (l2.getD d []).getD c 0) 222000 ∧ FK wz b10 a10 l10 c10 ((l2.getD i []).getD c 0 % (l2.getD d []).getD c 0) 222000 ∧ Box wz g9 false none 0 0 ∧ wr.heap.size ≤ g9 ∧ Box wz g10 false none 0 0 ∧ wr.heap.size ≤ g10 ∧ g9 ≠ g10) ?_ (fun J0 => ?_)
          ·rintro ⟨b9, a9, l9, c9, b10, a10, l10, c10, g9, g10⟩ wj hI
           try dsimp only at hI ⊢
           obtain ⟨HW, h9, h10, B9, hg9, B10, hg10, hneg9g10⟩ := hI;have zH := zu zS _ HW;rw [zu HA];simp only [Act.put, aSet, aHead, aTail];obtain ⟨q1B9, q2B9, q3B9, q4B9⟩ := B9.zb;have hltB9 := B9.lt;obtain ⟨q1B10, q2B10, q3B10, q4B10⟩ := B10.zb;have hltB10 := B10.lt;refine tout 20 rfl fun K hK => ?_;go_simp;refine hK.out _ _ ?_;clear hK K
           try simp only [aSet, aHead, aTail]
           refine tout 21 rfl fun K hK => ?_;go_simp;refine hK.out _ _ ?_;clear hK K
           try simp only [aSet, aHead, aTail]
           refine zdn (by kernel_rfl) ?_ _;have n7 := B9.noLimb;have n8 := (B10.other (g' := g9) (Ne.symm hneg9g10) b9 a9 l9 c9).noLimb;obtain ⟨W8, hW8⟩ : ∃ W8, W8 = ((((wj.setCell ⟨g9, 0, none⟩ (.bool b9)).setCell ⟨g9, 1, none⟩ (.slice a9 l9 c9)).setCell ⟨g10, 0, none⟩ (.bool b10)).setCell ⟨g10, 1, none⟩ (.slice a10 l10 c10)) := ⟨_, rfl⟩;rw [← hW8];have Bq : Box W8 g9 b9 a9 l9 c9 := by rw [hW8]; exact (B9.put b9 a9 l9 c9).other (g' := g10) hneg9g10 b10 a10 l10 c10
           have hQ : FK W8 b9 a9 l9 c9 ((l2.getD i []).getD c 0 / (l2.getD d []).getD c 0) 222000 := by rw [hW8]; exact (h9.put n7 b9 a9 l9 c9).put n8 b10 a10 l10 c10
           have HC : Below wr.heap.size wr W8 := by rw [hW8]; exact below_put (below_put HW hg9 _ _ _ _) hg10 _ _ _ _
           clear hW8 HW zH B9 B10 n7 n8 h9 h10 hltB9 hltB10 q1B9 q2B9 q3B9 q4B9 q1B10 q2B10 q3B10 q4B10;obtain ⟨qz, eqz⟩ : ∃ qz, qz = ((l2.getD i []).getD c 0 / (l2.getD d []).getD c 0) := ⟨_, rfl⟩;rw [← eqz] at hQ;have EQZ := zh eqz;clear eqz;replace HB := zh (Below.step (zu HB) HC);replace hown := hown.za HC;replace v5 := v5.za HC;replace v6 := v6.za HC;replace x5 := (HC.cell (p := ⟨g, i, none⟩) hgm).trans x5;replace x6 := (HC.cell (p := ⟨g, d, none⟩) hgm).trans x6;replace hgm := Nat.lt_of_lt_of_le hgm HC.size;clear HC E7 E8 y7 y8;obtain ⟨f1, f2, _, _⟩ := Bq.zb;have hsQ := Bq.lt
           go_upto_region 26 with fail
           have HW : Below W8.heap.size W8 W8.drew := (Below.refl _ _).drew;have zS := zh fun w' (HW : Below W8.heap.size W8 w') => con4 ((HW.cell (p := ⟨g, i, none⟩) hgm).trans x5) ((HW.cell (p := ⟨g, d, none⟩) hgm).trans x6) (Bq.za HW).zb.1 (Bq.za HW).zb.2.1;refine zst zS HW 14 (by kernel_rfl) fun zH => ?_;refine ztl 0 rfl ?_;simp only [Act.put, aGet, aZero, aSet, aHead, aTail];refine ztl 1 rfl ?_;simp only [zP];refine ztl 2 rfl ?_;simp only [zP];refine ztl 3 rfl ?_;simp only [zP];refine ztl 4 rfl ?_;simp only [zP];refine ztl 5 rfl ?_;simp only [zP];refine ztl 6 rfl ?_;simp only [zP];refine ztl 7 rfl ?_;simp only [zP];refine ztl 8 rfl ?_;simp only [zP];refine ztl 9 rfl ?_;simp only [zP];refine ztl 10 rfl ?_;simp only [zP];refine tin 11 rfl fun K hK => ?_;go_simp;refine (rvtimesK _ _ _ (l2.getD d []) 222000 b9 a9 l9 c9 qz 222000 _ (v6.za HW) ((hQ.za HW).sk (by omega)) (by omega) (by omega) (by omega)).mono ?_;rintro e w8 ⟨a11, c11, rfl, h11, hb9⟩;replace HW := Below.step HW hb9;clear hb9;refine hK.out _ _ ?_ (fun zH => ?_)
           ·exact zu zS _ HW
           clear hK K
           try simp only [zP]
           refine tin 12 rfl fun K hK => ?_;go_simp;refine (rvsubK _ _ _ (l2.getD i []) 222000 _ _ _ (vtimes (l2.getD d []) qz) (222000 + 222000) _ ((v5.za HW).vk) (h11.vs (by omega)) (by omega) (by omega) (by omega) (by omega)).mono ?_;rintro e w9 ⟨a12, c12, rfl, h12, hb9⟩;rw [Nat.max_self] at h12
           (try rw [Nat.max_self])
           replace HW := Below.step HW hb9;clear hb9 h11;refine hK.out _ _ ?_ (fun zH => ?_)
           ·exact zu zS _ HW
           clear hK K
           try simp only [zP]
           refine ztl 13 rfl ?_;simp only [zP];have q5 := (HW.cell (p := ⟨g, i, none⟩) hgm).trans x5;have q7 := (hown.za HW).free i;refine tout 14 rfl fun K hK => ?_;go_simp;refine hK.out _ _ ?_;clear hK K
           try simp only [zP]
           refine zdn (by kernel_rfl) ?_ _;clear q5 q7 zH f1 f2 hsQ Bq hQ;replace hown := hown.za HW;replace HB := zh (Below.step (zu HB) HW);clear HW v5 v6 x5 x6;have hr : ∀ j, (vsub (l2.getD i []) (vtimes (l2.getD d []) qz)).getD j 0 = ent l2 i j - ent l2 i c / ent l2 d c * ent l2 d j := fun j => by rw [vsub_at, vtimes_at, zu EQZ, Int.mul_comm]; rfl
           have hrl : (vsub (l2.getD i []) (vtimes (l2.getD d []) qz)).length = N := by rw [vsub_len, vtimes_len, (zu HI).lens i (by omega), (zu HI).lens d hdn, Nat.max_self]
           obtain ⟨r, er⟩ : ∃ r, r = vsub (l2.getD i []) (vtimes (l2.getD d []) qz) := ⟨_, rfl⟩;rw [← er] at hr hrl h12;have HI2 := zh ((zu HI).step (zu HG) hlt hr hrl);have hvr : VS w9 a12 N c12 r 222000 := (vf_tight (k := 222000) h12 fun j _ => by have := (zu HI2).lo2 i (by omega) j; rw [ent_same (by rw [(zu HI).len]; omega)] at this; exact Nat.lt_of_lt_of_le this (Bp_le (zu HBB (d + 1) (by omega)))).vs (by omega);have ho2 := ro_set hown (show i < n by omega) hvr;have HB2 := zh ((zu HB).setCell (p := ⟨g, i, none⟩) (by simpa using hown.base_le.1) (.slice a12 N c12));clear er hr hrl h12 hvr;go_wp2;go_roundw
           case rel => exact ⟨i + 1, _, by omega, by go_num, ho2, zu HI2, zu HB2⟩
           case measure => simp [intOf]; omega
          refine zmd 3 #[tT, tT, tT, tT, tT, tT, tT, tT, tT, tT, tT, tT, tT, tT, tT, tT, tT, tT, tF, tT, tF, tF] (ι := Bool × Option Addr × Nat × Nat × Bool × Option Addr × Nat × Nat × Nat) (fun (b9, a9, l9, c9, b10, a10, l10, c10, g10) => (((((act0.put (some 155) (.tuple #[.agg #[.bool b9, .slice a9 l9 c9], .agg #[.bool b10, .slice a10 l10 c10]])).put (some 140) (.tuple #[.agg #[.bool b9, .slice a9 l9 c9], .agg #[.bool b10, .slice a10 l10 c10]])).put (some 156) (.agg #[.bool b9, .slice a9 l9 c9])).put (some 157) (.agg #[.bool b10, .slice a10 l10 c10])).put (some 15) ((.pointer (some ⟨g10, 0, none⟩))))) (fun (b9, a9, l9, c9, b10, a10, l10, c10, g10) wz => Below wr.heap.size wr wz ∧ FK wz b9 a9 l9 c9 ((l2.getD i []).getD c 0 / (l2.getD d []).getD c 0) 222000 ∧ FK wz b10 a10 l10 c10 ((l2.getD i []).getD c 0 % (l2.getD d []).getD c 0) 222000 ∧ Box wz g10 false none 0 0 ∧ wr.heap.size ≤ g10) ?_ (fun J1 => ?_)
          ·rintro ⟨b9, a9, l9, c9, b10, a10, l10, c10, g10⟩ wj hI
           try dsimp only at hI ⊢
           obtain ⟨HW, h9, h10, B10, hg10⟩ := hI;have zH := zu zS _ HW;rw [zu HA];simp only [Act.put, aSet, aHead, aTail];refine tin 18 rfl fun K hK => ?_;go_simp;have hwk : wr.heap.size ≤ wj.heap.size := HW.size;have hxg10 := B10.lt;obtain ⟨wk, hWe⟩ := newB wj;obtain ⟨B9, hb9⟩ := boxes1 wj false none 0 0 hWe;rw [← hWe];clear hWe;replace HW := Below.step HW hb9;replace h9 := h9.za hb9;replace h10 := h10.za hb9;replace B10 := B10.za hb9;clear hb9;have hg9 := hwk;have hneg9g10 : wj.heap.size ≠ g10 := by omega
           refine hK.out _ _ ?_ (fun zH => ?_)
           ·exact zu zS _ HW
           clear hK K
           try simp only [aSet, aHead, aTail]
           exact tgo J0 (b9, a9, l9, c9, b10, a10, l10, c10, wj.heap.size, g10) (by (try dsimp only); rw [zu HA]; simp only [Act.put, aSet, aHead, aTail]) (by (try dsimp only); exact ⟨HW, h9, h10, B9, hg9, B10, hg10, hneg9g10⟩)
          refine zmd 3 #[tT, tT, tT, tT, tT, tT, tT, tT, tT, tT, tT, tT, tT, tT, tT, tT, tT, tT, tT, tF, tF, tF] (ι := Bool × Option Addr × Nat × Nat × Bool × Option Addr × Nat × Nat × Nat) (fun (b9, a9, l9, c9, b10, a10, l10, c10, g9) => (((((act0.put (some 155) (.tuple #[.agg #[.bool b9, .slice a9 l9 c9], .agg #[.bool b10, .slice a10 l10 c10]])).put (some 140) (.tuple #[.agg #[.bool b9, .slice a9 l9 c9], .agg #[.bool b10, .slice a10 l10 c10]])).put (some 156) (.agg #[.bool b9, .slice a9 l9 c9])).put (some 157) (.agg #[.bool b10, .slice a10 l10 c10])).put (some 14) ((.pointer (some ⟨g9, 0, none⟩))))) (fun (b9, a9, l9, c9, b10, a10, l10, c10, g9) wz => Below wr.heap.size wr wz ∧ FK wz b9 a9 l9 c9 ((l2.getD i []).getD c 0 / (l2.getD d []).getD c 0) 222000 ∧ FK wz b10 a10 l10 c10 ((l2.getD i []).getD c 0 % (l2.getD d []).getD c 0) 222000 ∧ Box wz g9 false none 0 0 ∧ wr.heap.size ≤ g9) ?_ (fun J2 => ?_)
          ·rintro ⟨b9, a9, l9, c9, b10, a10, l10, c10, g9⟩ wj hI
           try dsimp only at hI ⊢
           obtain ⟨HW, h9, h10, B9, hg9⟩ := hI;have zH := zu zS _ HW;rw [zu HA];simp only [Act.put, aSet, aHead, aTail];refine tin 19 rfl fun K hK => ?_;go_simp;have hwk : wr.heap.size ≤ wj.heap.size := HW.size;have hxg9 := B9.lt;obtain ⟨wk, hWe⟩ := newB wj;obtain ⟨B10, hb9⟩ := boxes1 wj false none 0 0 hWe;rw [← hWe];clear hWe;replace HW := Below.step HW hb9;replace h9 := h9.za hb9;replace h10 := h10.za hb9;replace B9 := B9.za hb9;clear hb9;have hg10 := hwk;have hneg9g10 : g9 ≠ wj.heap.size := by omega
           refine hK.out _ _ ?_ (fun zH => ?_)
           ·exact zu zS _ HW
           clear hK K
           try simp only [aSet, aHead, aTail]
           exact tgo J0 (b9, a9, l9, c9, b10, a10, l10, c10, g9, wj.heap.size) (by (try dsimp only); rw [zu HA]; simp only [Act.put, aSet, aHead, aTail]) (by (try dsimp only); exact ⟨HW, h9, h10, B9, hg9, B10, hg10, hneg9g10⟩)
          refine zmd 4 #[tT, tT, tT, tT, tT, tT, tT, tT, tT, tT, tT, tT, tT, tT, tT, tT, tT, tT, tF, tF, tF, tF] (ι := Bool × Option Addr × Nat × Nat × Bool × Option Addr × Nat × Nat) (fun (b9, a9, l9, c9, b10, a10, l10, c10) => ((((act0.put (some 155) (.tuple #[.agg #[.bool b9, .slice a9 l9 c9], .agg #[.bool b10, .slice a10 l10 c10]])).put (some 140) (.tuple #[.agg #[.bool b9, .slice a9 l9 c9], .agg #[.bool b10, .slice a10 l10 c10]])).put (some 156) (.agg #[.bool b9, .slice a9 l9 c9])).put (some 157) (.agg #[.bool b10, .slice a10 l10 c10]))) (fun (b9, a9, l9, c9, b10, a10, l10, c10) wz => Below wr.heap.size wr wz ∧ FK wz b9 a9 l9 c9 ((l2.getD i []).getD c 0 / (l2.getD d []).getD c 0) 222000 ∧ FK wz b10 a10 l10 c10 ((l2.getD i []).getD c 0 % (l2.getD d []).getD c 0) 222000) ?_ (fun J3 => ?_)
          ·rintro ⟨b9, a9, l9, c9, b10, a10, l10, c10⟩ wj hI
           try dsimp only at hI ⊢
           obtain ⟨HW, h9, h10⟩ := hI;have zH := zu zS _ HW;rw [zu HA];simp only [Act.put, aSet, aHead, aTail];refine ttwo 18 19 rfl rfl (fun K hK => ?_) (fun K hK => ?_)
           ·go_simp;have hwk : wr.heap.size ≤ wj.heap.size := HW.size;obtain ⟨wk, hWe⟩ := newB wj;obtain ⟨B9, hb9⟩ := boxes1 wj false none 0 0 hWe;rw [← hWe];clear hWe;replace HW := Below.step HW hb9;replace h9 := h9.za hb9;replace h10 := h10.za hb9;clear hb9;have hg9 := hwk;refine hK.out _ _ ?_ (fun zH => ?_)
            ·exact zu zS _ HW
            clear hK K
            try simp only [aSet, aHead, aTail]
            exact tgo J2 (b9, a9, l9, c9, b10, a10, l10, c10, wj.heap.size) (by (try dsimp only); rw [zu HA]; simp only [Act.put, aSet, aHead, aTail]) (by (try dsimp only); exact ⟨HW, h9, h10, B9, hg9⟩)
           ·go_simp;have hwk : wr.heap.size ≤ wj.heap.size := HW.size;obtain ⟨wk, hWe⟩ := newB wj;obtain ⟨B10, hb9⟩ := boxes1 wj false none 0 0 hWe;rw [← hWe];clear hWe;replace HW := Below.step HW hb9;replace h9 := h9.za hb9;replace h10 := h10.za hb9;clear hb9;have hg10 := hwk;refine hK.out _ _ ?_ (fun zH => ?_)
            ·exact zu zS _ HW
            clear hK K
            try simp only [aSet, aHead, aTail]
            exact tgo J1 (b9, a9, l9, c9, b10, a10, l10, c10, wj.heap.size) (by (try dsimp only); rw [zu HA]; simp only [Act.put, aSet, aHead, aTail]) (by (try dsimp only); exact ⟨HW, h9, h10, B10, hg10⟩)
          refine zmd 6 #[tT, tT, tT, tT, tT, tT, tT, tT, tT, tT, tT, tT, tT, tT, tF, tF, tF, tF, tT, tT, tF, tF] (ι := Nat × Nat) (fun (g9, g10) => ((act0.put (some 14) ((.pointer (some ⟨g9, 0, none⟩)))).put (some 15) ((.pointer (some ⟨g10, 0, none⟩))))) (fun (g9, g10) wz => Below wr.heap.size wr wz ∧ Box wz g9 false none 0 0 ∧ wr.heap.size ≤ g9 ∧ Box wz g10 false none 0 0 ∧ wr.heap.size ≤ g10 ∧ g9 ≠ g10) ?_ (fun J4 => ?_)
          ·rintro ⟨g9, g10⟩ wj hI
           try dsimp only at hI ⊢
           obtain ⟨HW, B9, hg9, B10, hg10, hneg9g10⟩ := hI;have zH := zu zS _ HW;rw [zu HA];simp only [Act.put, aSet, aHead, aTail];refine tin 14 rfl fun K hK => ?_;go_simp;refine (rdivK b7 a7 l7 c7 ((l2.getD i []).getD c 0) 222000 b8 a8 l8 c8 ((l2.getD d []).getD c 0) 222000 _ (y7.za HW) (y8.za HW) (zu H0) (by omega) (by omega)).mono ?_;rintro e wk ⟨b9, a9, l9, c9, b10, a10, l10, c10, rfl, h9, h10, hb9⟩;replace HW := Below.step HW hb9;replace B9 := B9.za hb9;replace B10 := B10.za hb9;clear hb9;refine hK.out _ _ ?_ (fun zH => ?_)
           ·exact zu zS _ HW
           clear hK K
           try simp only [aSet, aHead, aTail]
           refine zfl 15 rfl ?_;simp only [zP];refine zfl 16 rfl ?_;simp only [zP];refine zfl 17 rfl ?_;simp only [zP];exact tgo J0 (b9, a9, l9, c9, b10, a10, l10, c10, g9, g10) (by (try dsimp only); rw [zu HA]; simp only [Act.put, aSet, aHead, aTail]) (by (try dsimp only); exact ⟨HW, h9, h10, B9, hg9, B10, hg10, hneg9g10⟩)
          refine zmd 7 #[tT, tT, tT, tT, tT, tT, tT, tT, tT, tT, tT, tT, tT, tT, tF, tF, tF, tF, tF, tT, tF, tF] (ι := Nat) (fun g10 => (act0.put (some 15) ((.pointer (some ⟨g10, 0, none⟩))))) (fun g10 wz => Below wr.heap.size wr wz ∧ Box wz g10 false none 0 0 ∧ wr.heap.size ≤ g10) ?_ (fun J5 => ?_)
          ·rintro g10 wj hI
           try dsimp only at hI ⊢
           obtain ⟨HW, B10, hg10⟩ := hI;have zH := zu zS _ HW;rw [zu HA];simp only [Act.put, aSet, aHead, aTail];refine ttwo 14 18 rfl rfl (fun K hK => ?_) (fun K hK => ?_)
           ·go_simp;refine (rdivK b7 a7 l7 c7 ((l2.getD i []).getD c 0) 222000 b8 a8 l8 c8 ((l2.getD d []).getD c 0) 222000 _ (y7.za HW) (y8.za HW) (zu H0) (by omega) (by omega)).mono ?_;rintro e wk ⟨b9, a9, l9, c9, b10, a10, l10, c10, rfl, h9, h10, hb9⟩;replace HW := Below.step HW hb9;replace B10 := B10.za hb9;clear hb9;refine hK.out _ _ ?_ (fun zH => ?_)
            ·exact zu zS _ HW
            clear hK K
            try simp only [aSet, aHead, aTail]
            refine zfl 15 rfl ?_;simp only [zP];refine zfl 16 rfl ?_;simp only [zP];refine zfl 17 rfl ?_;simp only [zP];exact tgo J1 (b9, a9, l9, c9, b10, a10, l10, c10, g10) (by (try dsimp only); rw [zu HA]; simp only [Act.put, aSet, aHead, aTail]) (by (try dsimp only); exact ⟨HW, h9, h10, B10, hg10⟩)
           ·go_simp;have hwk : wr.heap.size ≤ wj.heap.size := HW.size;have hxg10 := B10.lt;obtain ⟨wk, hWe⟩ := newB wj;obtain ⟨B9, hb9⟩ := boxes1 wj false none 0 0 hWe;rw [← hWe];clear hWe;replace HW := Below.step HW hb9;replace B10 := B10.za hb9;clear hb9;have hg9 := hwk;have hneg9g10 : wj.heap.size ≠ g10 := by omega
            refine hK.out _ _ ?_ (fun zH => ?_)
            ·exact zu zS _ HW
            clear hK K
            try simp only [aSet, aHead, aTail]
            exact tgo J4 (wj.heap.size, g10) (by (try dsimp only); rw [zu HA]; simp only [Act.put, aSet, aHead, aTail]) (by (try dsimp only); exact ⟨HW, B9, hg9, B10, hg10, hneg9g10⟩)
          refine zmd 7 #[tT, tT, tT, tT, tT, tT, tT, tT, tT, tT, tT, tT, tT, tT, tF, tF, tF, tF, tT, tF, tF, tF] (ι := Nat) (fun g9 => (act0.put (some 14) ((.pointer (some ⟨g9, 0, none⟩))))) (fun g9 wz => Below wr.heap.size wr wz ∧ Box wz g9 false none 0 0 ∧ wr.heap.size ≤ g9) ?_ (fun J6 => ?_)
          ·rintro g9 wj hI
           try dsimp only at hI ⊢
           obtain ⟨HW, B9, hg9⟩ := hI;have zH := zu zS _ HW;rw [zu HA];simp only [Act.put, aSet, aHead, aTail];refine ttwo 14 19 rfl rfl (fun K hK => ?_) (fun K hK => ?_)
           ·go_simp;refine (rdivK b7 a7 l7 c7 ((l2.getD i []).getD c 0) 222000 b8 a8 l8 c8 ((l2.getD d []).getD c 0) 222000 _ (y7.za HW) (y8.za HW) (zu H0) (by omega) (by omega)).mono ?_;rintro e wk ⟨b9, a9, l9, c9, b10, a10, l10, c10, rfl, h9, h10, hb9⟩;replace HW := Below.step HW hb9;replace B9 := B9.za hb9;clear hb9;refine hK.out _ _ ?_ (fun zH => ?_)
            ·exact zu zS _ HW
            clear hK K
            try simp only [aSet, aHead, aTail]
            refine zfl 15 rfl ?_;simp only [zP];refine zfl 16 rfl ?_;simp only [zP];refine zfl 17 rfl ?_;simp only [zP];exact tgo J2 (b9, a9, l9, c9, b10, a10, l10, c10, g9) (by (try dsimp only); rw [zu HA]; simp only [Act.put, aSet, aHead, aTail]) (by (try dsimp only); exact ⟨HW, h9, h10, B9, hg9⟩)
           ·go_simp;have hwk : wr.heap.size ≤ wj.heap.size := HW.size;have hxg9 := B9.lt;obtain ⟨wk, hWe⟩ := newB wj;obtain ⟨B10, hb9⟩ := boxes1 wj false none 0 0 hWe;rw [← hWe];clear hWe;replace HW := Below.step HW hb9;replace B9 := B9.za hb9;clear hb9;have hg10 := hwk;have hneg9g10 : g9 ≠ wj.heap.size := by omega
            refine hK.out _ _ ?_ (fun zH => ?_)
            ·exact zu zS _ HW
            clear hK K
            try simp only [aSet, aHead, aTail]
            exact tgo J4 (g9, wj.heap.size) (by (try dsimp only); rw [zu HA]; simp only [Act.put, aSet, aHead, aTail]) (by (try dsimp only); exact ⟨HW, B9, hg9, B10, hg10, hneg9g10⟩)
          rw [zu HA];refine till_three (i := 14) (j := 18) (k := 19) (by kernel_rfl) rfl rfl rfl (fun K hK => ?_) (fun K hK => ?_) (fun K hK => ?_)
          ·go_simp;refine (rdivK b7 a7 l7 c7 ((l2.getD i []).getD c 0) 222000 b8 a8 l8 c8 ((l2.getD d []).getD c 0) 222000 _ (y7.za HW) (y8.za HW) (zu H0) (by omega) (by omega)).mono ?_;rintro e wk ⟨b9, a9, l9, c9, b10, a10, l10, c10, rfl, h9, h10, hb9⟩;replace HW := Below.step HW hb9;clear hb9;refine hK.out _ _ ?_ (fun zH => ?_)
           ·exact zu zS _ HW
           clear hK K
           try simp only [aSet, aHead, aTail]
           refine zfl 15 rfl ?_;simp only [zP];refine zfl 16 rfl ?_;simp only [zP];refine zfl 17 rfl ?_;simp only [zP];exact tgo J3 (b9, a9, l9, c9, b10, a10, l10, c10) (by (try dsimp only); rw [zu HA]; simp only [Act.put, aSet, aHead, aTail]) (by (try dsimp only); exact ⟨HW, h9, h10⟩)
          ·go_simp;have hwk : wr.heap.size ≤ vd1.heap.size := HW.size;obtain ⟨wk, hWe⟩ := newB vd1;obtain ⟨B9, hb9⟩ := boxes1 vd1 false none 0 0 hWe;rw [← hWe];clear hWe;replace HW := Below.step HW hb9;clear hb9;have hg9 := hwk;refine hK.out _ _ ?_ (fun zH => ?_)
           ·exact zu zS _ HW
           clear hK K
           try simp only [aSet, aHead, aTail]
           exact tgo J6 vd1.heap.size (by (try dsimp only); rw [zu HA]; simp only [Act.put, aSet, aHead, aTail]) (by (try dsimp only); exact ⟨HW, B9, hg9⟩)
          ·go_simp;have hwk : wr.heap.size ≤ vd1.heap.size := HW.size;obtain ⟨wk, hWe⟩ := newB vd1;obtain ⟨B10, hb9⟩ := boxes1 vd1 false none 0 0 hWe;rw [← hWe];clear hWe;replace HW := Below.step HW hb9;clear hb9;have hg10 := hwk;refine hK.out _ _ ?_ (fun zH => ?_)
           ·exact zu zS _ HW
           clear hK K
           try simp only [aSet, aHead, aTail]
           exact tgo J5 vd1.heap.size (by (try dsimp only); rw [zu HA]; simp only [Act.put, aSet, aHead, aTail]) (by (try dsimp only); exact ⟨HW, B10, hg10⟩)
        ·have hin : i = d := by omega
         subst hin;have hi1 : ¬ (i : Int) < (i : Int) := by omega
         go_wp2;go_roundw
         case rel => exact ⟨i + 1, c + 1, l2, _, by omega, by omega, by go_num, by go_num, hown, (zu HI).done (zu HG), zu HB⟩
         case measure => simp [intOf]; omega
      ·have hsn : ¬ s < 0 := by rw [es]; exact sgn_geH (by omega)
       have hps : 0 < ent lz d c := by
        have h1 := (zu HT).not0;have h2 : ent lz d c = (lz.getD d []).getD c 0 := rfl;omega
       have HL := zh ((zu HT).low hps);clear es hneg hps v5 x5;have hcut : ∃ lz', RO w3 w.heap.size (some ⟨g, 0, none⟩) n cl lz' ∧ HLow rs lz' c d n N pf aF bF 0 ∧ Below w.heap.size w w3 := ⟨lz, hown, zu HL, zu HB⟩
       go_wp2_with fail
       clear hown HB HT HL;obtain ⟨lz', hown, hlow, hB⟩ := hcut;go_loopw [13] (fun t wr => ∃ (i : Nat) (l2 : List (List Int)), i ≤ d ∧ t = .int .i64 (i : Int) ∧ RO wr w.heap.size (some ⟨g, 0, none⟩) n cl l2 ∧ HLow rs l2 c d n N pf aF bF i ∧ Below w.heap.size w wr) (fun t _ => d - (intOf t).toNat)
       case atStart => exact ⟨0, lz', Nat.zero_le _, rfl, hown, hlow, hB⟩
       case round =>
        clear hown hlow hB;obtain ⟨i, l2, hi, rfl, hown, hin, hB⟩ := hrel;have HI := zh hin;have HB := zh hB;clear hin hB;by_cases hlt : i < d
        ·have hi0 : (0 : Int) ≤ (i : Int) := by omega
         have hi1 : (i : Int) < (d : Int) := by omega
         have hi2 : (i : Int) < (n : Int) := by omega
         have H0 := zh (show (l2.getD d []).getD c 0 ≠ 0 from fun e => by
          have h1 := (zu HI).pos;rw [show ent l2 d c = 0 from e] at h1;omega)
         obtain ⟨a5, l5, c5, x5, v5⟩ := hown.at (show i < n by omega);have hl5 : N = l5 := by rw [← v5.vk.len_eq]; exact ((zu HI).lens i (by omega)).symm
         subst hl5;obtain ⟨g5, o5, rfl⟩ := v5.vk.some (by omega);obtain ⟨b7, a7, l7, c7, E7, y7⟩ := v5.at hcN;replace y7 := y7.1;obtain ⟨a6, l6, c6, x6, v6⟩ := hown.at hdn;have hl6 : N = l6 := by rw [← v6.vk.len_eq]; exact ((zu HI).lens d hdn).symm
         subst hl6;obtain ⟨g6, o6, rfl⟩ := v6.vk.some (by omega);obtain ⟨b8, a8, l8, c8, E8, y8⟩ := v6.at hcN;replace y8 := y8.1;have hgm := hown.base_le.2
         go_upto_region 25 with fail
         as_aux_lemma =>
          have HW : Below wr.heap.size wr wr.drew := (Below.refl _ _).drew;have zS := zh fun w' (HW : Below wr.heap.size wr w') => con6 ((HW.cell (p := ⟨g, i, none⟩) hgm).trans x5) ((HW.cell (p := ⟨g, d, none⟩) hgm).trans x6) (E7.za HW).zb.1 (E7.za HW).zb.2 (E8.za HW).zb.1 (E8.za HW).zb.2;refine zst zS HW 20 (by kernel_rfl) fun zH => ?_;obtain ⟨vd1, hvd⟩ : ∃ v, v = wr.drew := ⟨_, rfl⟩;rw [← hvd] at HW zH ⊢;clear hvd;refine zfl 0 rfl ?_;simp only [Act.put, aGet, aZero, aSet, aHead, aTail];refine zfl 1 rfl ?_;simp only [zP];refine ztm 2 rfl ?_;simp only [zP];refine ztm 3 rfl ?_;simp only [zP];refine zfl 4 rfl ?_;simp only [zP];refine ztm 5 rfl ?_;simp only [zP];refine ztm 6 rfl ?_;simp only [zP];refine zfl 7 rfl ?_;simp only [zP];refine zfl 8 rfl ?_;simp only [zP];refine ztm 9 rfl ?_;simp only [zP];refine ztm 10 rfl ?_;simp only [zP];refine zfl 11 rfl ?_;simp only [zP];refine ztm 12 rfl ?_;simp only [zP];refine ztm 13 rfl ?_;simp only [zP];refine znm (fun act0 hact0 => ?_);have HA := zh hact0;clear hact0;refine zmd 2 #[tT, tT, tT, tT, tT, tT, tT, tT, tT, tT, tT, tT, tT, tT, tT, tT, tT, tT, tT, tT, tF, tF] (ι := Bool × Option Addr × Nat × Nat × Bool × Option Addr × Nat × Nat × Nat × Nat) (fun (b9, a9, l9, c9, b10, a10, l10, c10, g9, g10) => ((((((act0.put (some 155) (.tuple #[.agg #[.bool b9, .slice a9 l9 c9], .agg #[.bool b10, .slice a10 l10 c10]])).put (some 140) (.tuple #[.agg #[.bool b9, .slice a9 l9 c9], .agg #[.bool b10, .slice a10 l10 c10]])).put (some 156) (.agg #[.bool b9, .slice a9 l9 c9])).put (some 157) (.agg #[.bool b10, .slice a10 l10 c10])).put (some 14) ((.pointer (some ⟨g9, 0, none⟩)))).put (some 15) ((.pointer (some ⟨g10, 0, none⟩))))) (fun (b9, a9, l9, c9, b10, a10, l10, c10, g9, g10) wz => Below wr.heap.size wr wz ∧ FK wz b9 a9 l9 c9 ((l2.getD i []).getD c 0 / (l2.getD d []).getD c 0) 222000 ∧ FK wz b10 a10 l10 c10 ((l2.getD i []).getD c 0 % (l2.getD d []).getD c 0) 222000 ∧ Box wz g9 false none 0 0 ∧ wr.heap.size ≤ g9 ∧ Box wz g10 false none 0 0 ∧ wr.heap.size ≤ g10 ∧ g9 ≠ g10) ?_ (fun J0 => ?_)
          ·rintro ⟨b9, a9, l9, c9, b10, a10, l10, c10, g9, g10⟩ wj hI
           try dsimp only at hI ⊢
           obtain ⟨HW, h9, h10, B9, hg9, B10, hg10, hneg9g10⟩ := hI;have zH := zu zS _ HW;rw [zu HA];simp only [Act.put, aSet, aHead, aTail];obtain ⟨q1B9, q2B9, q3B9, q4B9⟩ := B9.zb;have hltB9 := B9.lt;obtain ⟨q1B10, q2B10, q3B10, q4B10⟩ := B10.zb;have hltB10 := B10.lt;refine tout 20 rfl fun K hK => ?_;go_simp;refine hK.out _ _ ?_;clear hK K
           try simp only [aSet, aHead, aTail]
           refine tout 21 rfl fun K hK => ?_;go_simp;refine hK.out _ _ ?_;clear hK K
           try simp only [aSet, aHead, aTail]
           refine zdn (by kernel_rfl) ?_ _;have n7 := B9.noLimb;have n8 := (B10.other (g' := g9) (Ne.symm hneg9g10) b9 a9 l9 c9).noLimb;obtain ⟨W8, hW8⟩ : ∃ W8, W8 = ((((wj.setCell ⟨g9, 0, none⟩ (.bool b9)).setCell ⟨g9, 1, none⟩ (.slice a9 l9 c9)).setCell ⟨g10, 0, none⟩ (.bool b10)).setCell ⟨g10, 1, none⟩ (.slice a10 l10 c10)) := ⟨_, rfl⟩;rw [← hW8];have Bq : Box W8 g9 b9 a9 l9 c9 := by rw [hW8]; exact (B9.put b9 a9 l9 c9).other (g' := g10) hneg9g10 b10 a10 l10 c10
           have hQ : FK W8 b9 a9 l9 c9 ((l2.getD i []).getD c 0 / (l2.getD d []).getD c 0) 222000 := by rw [hW8]; exact (h9.put n7 b9 a9 l9 c9).put n8 b10 a10 l10 c10
           have HC : Below wr.heap.size wr W8 := by rw [hW8]; exact below_put (below_put HW hg9 _ _ _ _) hg10 _ _ _ _
           clear hW8 HW zH B9 B10 n7 n8 h9 h10 hltB9 hltB10 q1B9 q2B9 q3B9 q4B9 q1B10 q2B10 q3B10 q4B10;obtain ⟨qz, eqz⟩ : ∃ qz, qz = ((l2.getD i []).getD c 0 / (l2.getD d []).getD c 0) := ⟨_, rfl⟩;rw [← eqz] at hQ;have EQZ := zh eqz;clear eqz;replace HB := zh (Below.step (zu HB) HC);replace hown := hown.za HC;replace v5 := v5.za HC;replace v6 := v6.za HC;replace x5 := (HC.cell (p := ⟨g, i, none⟩) hgm).trans x5;replace x6 := (HC.cell (p := ⟨g, d, none⟩) hgm).trans x6;replace hgm := Nat.lt_of_lt_of_le hgm HC.size;clear HC E7 E8 y7 y8;obtain ⟨f1, f2, _, _⟩ := Bq.zb;have hsQ := Bq.lt
           go_upto_region 26 with fail
           have HW : Below W8.heap.size W8 W8.drew := (Below.refl _ _).drew;have zS := zh fun w' (HW : Below W8.heap.size W8 w') => con4 ((HW.cell (p := ⟨g, i, none⟩) hgm).trans x5) ((HW.cell (p := ⟨g, d, none⟩) hgm).trans x6) (Bq.za HW).zb.1 (Bq.za HW).zb.2.1;refine zst zS HW 14 (by kernel_rfl) fun zH => ?_;refine ztl 0 rfl ?_;simp only [Act.put, aGet, aZero, aSet, aHead, aTail];refine ztl 1 rfl ?_;simp only [zP];refine ztl 2 rfl ?_;simp only [zP];refine ztl 3 rfl ?_;simp only [zP];refine ztl 4 rfl ?_;simp only [zP];refine ztl 5 rfl ?_;simp only [zP];refine ztl 6 rfl ?_;simp only [zP];refine ztl 7 rfl ?_;simp only [zP];refine ztl 8 rfl ?_;simp only [zP];refine ztl 9 rfl ?_;simp only [zP];refine ztl 10 rfl ?_;simp only [zP];refine tin 11 rfl fun K hK => ?_;go_simp;refine (rvtimesK _ _ _ (l2.getD d []) 222000 b9 a9 l9 c9 qz 222000 _ (v6.za HW) ((hQ.za HW).sk (by omega)) (by omega) (by omega) (by omega)).mono ?_;rintro e w8 ⟨a11, c11, rfl, h11, hb9⟩;replace HW := Below.step HW hb9;clear hb9;refine hK.out _ _ ?_ (fun zH => ?_)
           ·exact zu zS _ HW
           clear hK K
           try simp only [zP]
           refine tin 12 rfl fun K hK => ?_;go_simp;refine (rvsubK _ _ _ (l2.getD i []) 222000 _ _ _ (vtimes (l2.getD d []) qz) (222000 + 222000) _ ((v5.za HW).vk) (h11.vs (by omega)) (by omega) (by omega) (by omega) (by omega)).mono ?_;rintro e w9 ⟨a12, c12, rfl, h12, hb9⟩;rw [Nat.max_self] at h12
           (try rw [Nat.max_self])
           replace HW := Below.step HW hb9;clear hb9 h11;refine hK.out _ _ ?_ (fun zH => ?_)
           ·exact zu zS _ HW
           clear hK K
           try simp only [zP]
           refine ztl 13 rfl ?_;simp only [zP];have q5 := (HW.cell (p := ⟨g, i, none⟩) hgm).trans x5;have q7 := (hown.za HW).free i;refine tout 14 rfl fun K hK => ?_;go_simp;refine hK.out _ _ ?_;clear hK K
           try simp only [zP]
           refine zdn (by kernel_rfl) ?_ _;clear q5 q7 zH f1 f2 hsQ Bq hQ;replace hown := hown.za HW;replace HB := zh (Below.step (zu HB) HW);clear HW v5 v6 x5 x6;have hr : ∀ j, (vsub (l2.getD i []) (vtimes (l2.getD d []) qz)).getD j 0 = ent l2 i j - ent l2 i c / ent l2 d c * ent l2 d j := fun j => by rw [vsub_at, vtimes_at, zu EQZ, Int.mul_comm]; rfl
           have hrl : (vsub (l2.getD i []) (vtimes (l2.getD d []) qz)).length = N := by rw [vsub_len, vtimes_len, (zu HI).lens i (by omega), (zu HI).lens d hdn, Nat.max_self]
           obtain ⟨r, er⟩ : ∃ r, r = vsub (l2.getD i []) (vtimes (l2.getD d []) qz) := ⟨_, rfl⟩;rw [← er] at hr hrl h12;have HI2 := zh ((zu HI).step (zu HG) hlt hr hrl);have hvr : VS w9 a12 N c12 r 222000 := (vf_tight (k := 222000) h12 fun j _ => by have := (zu HI2).lo2 i (by omega) j; rw [ent_same (by rw [(zu HI).len]; omega)] at this; exact Nat.lt_of_lt_of_le this (Bp_le (zu HBB (d + 1) (by omega)))).vs (by omega);have ho2 := ro_set hown (show i < n by omega) hvr;have HB2 := zh ((zu HB).setCell (p := ⟨g, i, none⟩) (by simpa using hown.base_le.1) (.slice a12 N c12));clear er hr hrl h12 hvr;go_wp2;go_roundw
           case rel => exact ⟨i + 1, _, by omega, by go_num, ho2, zu HI2, zu HB2⟩
           case measure => simp [intOf]; omega
          refine zmd 3 #[tT, tT, tT, tT, tT, tT, tT, tT, tT, tT, tT, tT, tT, tT, tT, tT, tT, tT, tF, tT, tF, tF] (ι := Bool × Option Addr × Nat × Nat × Bool × Option Addr × Nat × Nat × Nat) (fun (b9, a9, l9, c9, b10, a10, l10, c10, g10) => (((((act0.put (some 155) (.tuple #[.agg #[.bool b9, .slice a9 l9 c9], .agg #[.bool b10, .slice a10 l10 c10]])).put (some 140) (.tuple #[.agg #[.bool b9, .slice a9 l9 c9], .agg #[.bool b10, .slice a10 l10 c10]])).put (some 156) (.agg #[.bool b9, .slice a9 l9 c9])).put (some 157) (.agg #[.bool b10, .slice a10 l10 c10])).put (some 15) ((.pointer (some ⟨g10, 0, none⟩))))) (fun (b9, a9, l9, c9, b10, a10, l10, c10, g10) wz => Below wr.heap.size wr wz ∧ FK wz b9 a9 l9 c9 ((l2.getD i []).getD c 0 / (l2.getD d []).getD c 0) 222000 ∧ FK wz b10 a10 l10 c10 ((l2.getD i []).getD c 0 % (l2.getD d []).getD c 0) 222000 ∧ Box wz g10 false none 0 0 ∧ wr.heap.size ≤ g10) ?_ (fun J1 => ?_)
          ·rintro ⟨b9, a9, l9, c9, b10, a10, l10, c10, g10⟩ wj hI
           try dsimp only at hI ⊢
           obtain ⟨HW, h9, h10, B10, hg10⟩ := hI;have zH := zu zS _ HW;rw [zu HA];simp only [Act.put, aSet, aHead, aTail];refine tin 18 rfl fun K hK => ?_;go_simp;have hwk : wr.heap.size ≤ wj.heap.size := HW.size;have hxg10 := B10.lt;obtain ⟨wk, hWe⟩ := newB wj;obtain ⟨B9, hb9⟩ := boxes1 wj false none 0 0 hWe;rw [← hWe];clear hWe;replace HW := Below.step HW hb9;replace h9 := h9.za hb9;replace h10 := h10.za hb9;replace B10 := B10.za hb9;clear hb9;have hg9 := hwk;have hneg9g10 : wj.heap.size ≠ g10 := by omega
           refine hK.out _ _ ?_ (fun zH => ?_)
           ·exact zu zS _ HW
           clear hK K
           try simp only [aSet, aHead, aTail]
           exact tgo J0 (b9, a9, l9, c9, b10, a10, l10, c10, wj.heap.size, g10) (by (try dsimp only); rw [zu HA]; simp only [Act.put, aSet, aHead, aTail]) (by (try dsimp only); exact ⟨HW, h9, h10, B9, hg9, B10, hg10, hneg9g10⟩)
          refine zmd 3 #[tT, tT, tT, tT, tT, tT, tT, tT, tT, tT, tT, tT, tT, tT, tT, tT, tT, tT, tT, tF, tF, tF] (ι := Bool × Option Addr × Nat × Nat × Bool × Option Addr × Nat × Nat × Nat) (fun (b9, a9, l9, c9, b10, a10, l10, c10, g9) => (((((act0.put (some 155) (.tuple #[.agg #[.bool b9, .slice a9 l9 c9], .agg #[.bool b10, .slice a10 l10 c10]])).put (some 140) (.tuple #[.agg #[.bool b9, .slice a9 l9 c9], .agg #[.bool b10, .slice a10 l10 c10]])).put (some 156) (.agg #[.bool b9, .slice a9 l9 c9])).put (some 157) (.agg #[.bool b10, .slice a10 l10 c10])).put (some 14) ((.pointer (some ⟨g9, 0, none⟩))))) (fun (b9, a9, l9, c9, b10, a10, l10, c10, g9) wz => Below wr.heap.size wr wz ∧ FK wz b9 a9 l9 c9 ((l2.getD i []).getD c 0 / (l2.getD d []).getD c 0) 222000 ∧ FK wz b10 a10 l10 c10 ((l2.getD i []).getD c 0 % (l2.getD d []).getD c 0) 222000 ∧ Box wz g9 false none 0 0 ∧ wr.heap.size ≤ g9) ?_ (fun J2 => ?_)
          ·rintro ⟨b9, a9, l9, c9, b10, a10, l10, c10, g9⟩ wj hI
           try dsimp only at hI ⊢
           obtain ⟨HW, h9, h10, B9, hg9⟩ := hI;have zH := zu zS _ HW;rw [zu HA];simp only [Act.put, aSet, aHead, aTail];refine tin 19 rfl fun K hK => ?_;go_simp;have hwk : wr.heap.size ≤ wj.heap.size := HW.size;have hxg9 := B9.lt;obtain ⟨wk, hWe⟩ := newB wj;obtain ⟨B10, hb9⟩ := boxes1 wj false none 0 0 hWe;rw [← hWe];clear hWe;replace HW := Below.step HW hb9;replace h9 := h9.za hb9;replace h10 := h10.za hb9;replace B9 := B9.za hb9;clear hb9;have hg10 := hwk;have hneg9g10 : g9 ≠ wj.heap.size := by omega
           refine hK.out _ _ ?_ (fun zH => ?_)
           ·exact zu zS _ HW
           clear hK K
           try simp only [aSet, aHead, aTail]
           exact tgo J0 (b9, a9, l9, c9, b10, a10, l10, c10, g9, wj.heap.size) (by (try dsimp only); rw [zu HA]; simp only [Act.put, aSet, aHead, aTail]) (by (try dsimp only); exact ⟨HW, h9, h10, B9, hg9, B10, hg10, hneg9g10⟩)
          refine zmd 4 #[tT, tT, tT, tT, tT, tT, tT, tT, tT, tT, tT, tT, tT, tT, tT, tT, tT, tT, tF, tF, tF, tF] (ι := Bool × Option Addr × Nat × Nat × Bool × Option Addr × Nat × Nat) (fun (b9, a9, l9, c9, b10, a10, l10, c10) => ((((act0.put (some 155) (.tuple #[.agg #[.bool b9, .slice a9 l9 c9], .agg #[.bool b10, .slice a10 l10 c10]])).put (some 140) (.tuple #[.agg #[.bool b9, .slice a9 l9 c9], .agg #[.bool b10, .slice a10 l10 c10]])).put (some 156) (.agg #[.bool b9, .slice a9 l9 c9])).put (some 157) (.agg #[.bool b10, .slice a10 l10 c10]))) (fun (b9, a9, l9, c9, b10, a10, l10, c10) wz => Below wr.heap.size wr wz ∧ FK wz b9 a9 l9 c9 ((l2.getD i []).getD c 0 / (l2.getD d []).getD c 0) 222000 ∧ FK wz b10 a10 l10 c10 ((l2.getD i []).getD c 0 % (l2.getD d []).getD c 0) 222000) ?_ (fun J3 => ?_)
          ·rintro ⟨b9, a9, l9, c9, b10, a10, l10, c10⟩ wj hI
           try dsimp only at hI ⊢
           obtain ⟨HW, h9, h10⟩ := hI;have zH := zu zS _ HW;rw [zu HA];simp only [Act.put, aSet, aHead, aTail];refine ttwo 18 19 rfl rfl (fun K hK => ?_) (fun K hK => ?_)
           ·go_simp;have hwk : wr.heap.size ≤ wj.heap.size := HW.size;obtain ⟨wk, hWe⟩ := newB wj;obtain ⟨B9, hb9⟩ := boxes1 wj false none 0 0 hWe;rw [← hWe];clear hWe;replace HW := Below.step HW hb9;replace h9 := h9.za hb9;replace h10 := h10.za hb9;clear hb9;have hg9 := hwk;refine hK.out _ _ ?_ (fun zH => ?_)
            ·exact zu zS _ HW
            clear hK K
            try simp only [aSet, aHead, aTail]
            exact tgo J2 (b9, a9, l9, c9, b10, a10, l10, c10, wj.heap.size) (by (try dsimp only); rw [zu HA]; simp only [Act.put, aSet, aHead, aTail]) (by (try dsimp only); exact ⟨HW, h9, h10, B9, hg9⟩)
           ·go_simp;have hwk : wr.heap.size ≤ wj.heap.size := HW.size;obtain ⟨wk, hWe⟩ := newB wj;obtain ⟨B10, hb9⟩ := boxes1 wj false none 0 0 hWe;rw [← hWe];clear hWe;replace HW := Below.step HW hb9;replace h9 := h9.za hb9;replace h10 := h10.za hb9;clear hb9;have hg10 := hwk;refine hK.out _ _ ?_ (fun zH => ?_)
            ·exact zu zS _ HW
            clear hK K
            try simp only [aSet, aHead, aTail]
            exact tgo J1 (b9, a9, l9, c9, b10, a10, l10, c10, wj.heap.size) (by (try dsimp only); rw [zu HA]; simp only [Act.put, aSet, aHead, aTail]) (by (try dsimp only); exact ⟨HW, h9, h10, B10, hg10⟩)
          refine zmd 6 #[tT, tT, tT, tT, tT, tT, tT, tT, tT, tT, tT, tT, tT, tT, tF, tF, tF, tF, tT, tT, tF, tF] (ι := Nat × Nat) (fun (g9, g10) => ((act0.put (some 14) ((.pointer (some ⟨g9, 0, none⟩)))).put (some 15) ((.pointer (some ⟨g10, 0, none⟩))))) (fun (g9, g10) wz => Below wr.heap.size wr wz ∧ Box wz g9 false none 0 0 ∧ wr.heap.size ≤ g9 ∧ Box wz g10 false none 0 0 ∧ wr.heap.size ≤ g10 ∧ g9 ≠ g10) ?_ (fun J4 => ?_)
          ·rintro ⟨g9, g10⟩ wj hI
           try dsimp only at hI ⊢
           obtain ⟨HW, B9, hg9, B10, hg10, hneg9g10⟩ := hI;have zH := zu zS _ HW;rw [zu HA];simp only [Act.put, aSet, aHead, aTail];refine tin 14 rfl fun K hK => ?_;go_simp;refine (rdivK b7 a7 l7 c7 ((l2.getD i []).getD c 0) 222000 b8 a8 l8 c8 ((l2.getD d []).getD c 0) 222000 _ (y7.za HW) (y8.za HW) (zu H0) (by omega) (by omega)).mono ?_;rintro e wk ⟨b9, a9, l9, c9, b10, a10, l10, c10, rfl, h9, h10, hb9⟩;replace HW := Below.step HW hb9;replace B9 := B9.za hb9;replace B10 := B10.za hb9;clear hb9;refine hK.out _ _ ?_ (fun zH => ?_)
           ·exact zu zS _ HW
           clear hK K
           try simp only [aSet, aHead, aTail]
           refine zfl 15 rfl ?_;simp only [zP];refine zfl 16 rfl ?_;simp only [zP];refine zfl 17 rfl ?_;simp only [zP];exact tgo J0 (b9, a9, l9, c9, b10, a10, l10, c10, g9, g10) (by (try dsimp only); rw [zu HA]; simp only [Act.put, aSet, aHead, aTail]) (by (try dsimp only); exact ⟨HW, h9, h10, B9, hg9, B10, hg10, hneg9g10⟩)
          refine zmd 7 #[tT, tT, tT, tT, tT, tT, tT, tT, tT, tT, tT, tT, tT, tT, tF, tF, tF, tF, tF, tT, tF, tF] (ι := Nat) (fun g10 => (act0.put (some 15) ((.pointer (some ⟨g10, 0, none⟩))))) (fun g10 wz => Below wr.heap.size wr wz ∧ Box wz g10 false none 0 0 ∧ wr.heap.size ≤ g10) ?_ (fun J5 => ?_)
          ·rintro g10 wj hI
           try dsimp only at hI ⊢
           obtain ⟨HW, B10, hg10⟩ := hI;have zH := zu zS _ HW;rw [zu HA];simp only [Act.put, aSet, aHead, aTail];refine ttwo 14 18 rfl rfl (fun K hK => ?_) (fun K hK => ?_)
           ·go_simp;refine (rdivK b7 a7 l7 c7 ((l2.getD i []).getD c 0) 222000 b8 a8 l8 c8 ((l2.getD d []).getD c 0) 222000 _ (y7.za HW) (y8.za HW) (zu H0) (by omega) (by omega)).mono ?_;rintro e wk ⟨b9, a9, l9, c9, b10, a10, l10, c10, rfl, h9, h10, hb9⟩;replace HW := Below.step HW hb9;replace B10 := B10.za hb9;clear hb9;refine hK.out _ _ ?_ (fun zH => ?_)
            ·exact zu zS _ HW
            clear hK K
            try simp only [aSet, aHead, aTail]
            refine zfl 15 rfl ?_;simp only [zP];refine zfl 16 rfl ?_;simp only [zP];refine zfl 17 rfl ?_;simp only [zP];exact tgo J1 (b9, a9, l9, c9, b10, a10, l10, c10, g10) (by (try dsimp only); rw [zu HA]; simp only [Act.put, aSet, aHead, aTail]) (by (try dsimp only); exact ⟨HW, h9, h10, B10, hg10⟩)
           ·go_simp;have hwk : wr.heap.size ≤ wj.heap.size := HW.size;have hxg10 := B10.lt;obtain ⟨wk, hWe⟩ := newB wj;obtain ⟨B9, hb9⟩ := boxes1 wj false none 0 0 hWe;rw [← hWe];clear hWe;replace HW := Below.step HW hb9;replace B10 := B10.za hb9;clear hb9;have hg9 := hwk;have hneg9g10 : wj.heap.size ≠ g10 := by omega
            refine hK.out _ _ ?_ (fun zH => ?_)
            ·exact zu zS _ HW
            clear hK K
            try simp only [aSet, aHead, aTail]
            exact tgo J4 (wj.heap.size, g10) (by (try dsimp only); rw [zu HA]; simp only [Act.put, aSet, aHead, aTail]) (by (try dsimp only); exact ⟨HW, B9, hg9, B10, hg10, hneg9g10⟩)
          refine zmd 7 #[tT, tT, tT, tT, tT, tT, tT, tT, tT, tT, tT, tT, tT, tT, tF, tF, tF, tF, tT, tF, tF, tF] (ι := Nat) (fun g9 => (act0.put (some 14) ((.pointer (some ⟨g9, 0, none⟩))))) (fun g9 wz => Below wr.heap.size wr wz ∧ Box wz g9 false none 0 0 ∧ wr.heap.size ≤ g9) ?_ (fun J6 => ?_)
          ·rintro g9 wj hI
           try dsimp only at hI ⊢
           obtain ⟨HW, B9, hg9⟩ := hI;have zH := zu zS _ HW;rw [zu HA];simp only [Act.put, aSet, aHead, aTail];refine ttwo 14 19 rfl rfl (fun K hK => ?_) (fun K hK => ?_)
           ·go_simp;refine (rdivK b7 a7 l7 c7 ((l2.getD i []).getD c 0) 222000 b8 a8 l8 c8 ((l2.getD d []).getD c 0) 222000 _ (y7.za HW) (y8.za HW) (zu H0) (by omega) (by omega)).mono ?_;rintro e wk ⟨b9, a9, l9, c9, b10, a10, l10, c10, rfl, h9, h10, hb9⟩;replace HW := Below.step HW hb9;replace B9 := B9.za hb9;clear hb9;refine hK.out _ _ ?_ (fun zH => ?_)
            ·exact zu zS _ HW
            clear hK K
            try simp only [aSet, aHead, aTail]
            refine zfl 15 rfl ?_;simp only [zP];refine zfl 16 rfl ?_;simp only [zP];refine zfl 17 rfl ?_;simp only [zP];exact tgo J2 (b9, a9, l9, c9, b10, a10, l10, c10, g9) (by (try dsimp only); rw [zu HA]; simp only [Act.put, aSet, aHead, aTail]) (by (try dsimp only); exact ⟨HW, h9, h10, B9, hg9⟩)
           ·go_simp;have hwk : wr.heap.size ≤ wj.heap.size := HW.size;have hxg9 := B9.lt;obtain ⟨wk, hWe⟩ := newB wj;obtain ⟨B10, hb9⟩ := boxes1 wj false none 0 0 hWe;rw [← hWe];clear hWe;replace HW := Below.step HW hb9;replace B9 := B9.za hb9;clear hb9;have hg10 := hwk;have hneg9g10 : g9 ≠ wj.heap.size := by omega
            refine hK.out _ _ ?_ (fun zH => ?_)
            ·exact zu zS _ HW
            clear hK K
            try simp only [aSet, aHead, aTail]
            exact tgo J4 (g9, wj.heap.size) (by (try dsimp only); rw [zu HA]; simp only [Act.put, aSet, aHead, aTail]) (by (try dsimp only); exact ⟨HW, B9, hg9, B10, hg10, hneg9g10⟩)
          rw [zu HA];refine till_three (i := 14) (j := 18) (k := 19) (by kernel_rfl) rfl rfl rfl (fun K hK => ?_) (fun K hK => ?_) (fun K hK => ?_)
          ·go_simp;refine (rdivK b7 a7 l7 c7 ((l2.getD i []).getD c 0) 222000 b8 a8 l8 c8 ((l2.getD d []).getD c 0) 222000 _ (y7.za HW) (y8.za HW) (zu H0) (by omega) (by omega)).mono ?_;rintro e wk ⟨b9, a9, l9, c9, b10, a10, l10, c10, rfl, h9, h10, hb9⟩;replace HW := Below.step HW hb9;clear hb9;refine hK.out _ _ ?_ (fun zH => ?_)
           ·exact zu zS _ HW
           clear hK K
           try simp only [aSet, aHead, aTail]
           refine zfl 15 rfl ?_;simp only [zP];refine zfl 16 rfl ?_;simp only [zP];refine zfl 17 rfl ?_;simp only [zP];exact tgo J3 (b9, a9, l9, c9, b10, a10, l10, c10) (by (try dsimp only); rw [zu HA]; simp only [Act.put, aSet, aHead, aTail]) (by (try dsimp only); exact ⟨HW, h9, h10⟩)
          ·go_simp;have hwk : wr.heap.size ≤ vd1.heap.size := HW.size;obtain ⟨wk, hWe⟩ := newB vd1;obtain ⟨B9, hb9⟩ := boxes1 vd1 false none 0 0 hWe;rw [← hWe];clear hWe;replace HW := Below.step HW hb9;clear hb9;have hg9 := hwk;refine hK.out _ _ ?_ (fun zH => ?_)
           ·exact zu zS _ HW
           clear hK K
           try simp only [aSet, aHead, aTail]
           exact tgo J6 vd1.heap.size (by (try dsimp only); rw [zu HA]; simp only [Act.put, aSet, aHead, aTail]) (by (try dsimp only); exact ⟨HW, B9, hg9⟩)
          ·go_simp;have hwk : wr.heap.size ≤ vd1.heap.size := HW.size;obtain ⟨wk, hWe⟩ := newB vd1;obtain ⟨B10, hb9⟩ := boxes1 vd1 false none 0 0 hWe;rw [← hWe];clear hWe;replace HW := Below.step HW hb9;clear hb9;have hg10 := hwk;refine hK.out _ _ ?_ (fun zH => ?_)
           ·exact zu zS _ HW
           clear hK K
           try simp only [aSet, aHead, aTail]
           exact tgo J5 vd1.heap.size (by (try dsimp only); rw [zu HA]; simp only [Act.put, aSet, aHead, aTail]) (by (try dsimp only); exact ⟨HW, B10, hg10⟩)
        ·have hin : i = d := by omega
         subst hin;have hi1 : ¬ (i : Int) < (i : Int) := by omega
         go_wp2;go_roundw
         case rel => exact ⟨i + 1, c + 1, l2, _, by omega, by omega, by go_num, by go_num, hown, (zu HI).done (zu HG), zu HB⟩
         case measure => simp [intOf]; omega
    ·have hdp := ht.dp;have hpn := ht.pn;have HI0 := zh ht.inner;have HV := zh ht.v0;clear ht;obtain ⟨g, rfl⟩ := hown.addr (by omega)
     go_wp2_with fail
     go_loopw [9, 10] (fun m t wr => ∃ (i : Nat) (l2 : List (List Int)) (b : Bool), d ≤ i ∧ i ≤ n ∧ t = .int .i64 (i : Int) ∧ m = .bool b ∧ RO wr w.heap.size (some ⟨g, 0, none⟩) n cl l2 ∧ HInner rs l2 c d n N pf aF bF Φ A P gk p i b ∧ Below w.heap.size w wr) (fun _ t _ => n - (intOf t).toNat)
     case atStart => exact ⟨d, l1, false, Nat.le_refl _, by omega, rfl, rfl, hown, zu HI0, zu HB⟩
     case round =>
      clear hown HI0 HB;obtain ⟨i, l2, b, hdi, hi, rfl, rfl, hown, hin, hB⟩ := hrel;have HI := zh hin;have HB := zh hB;clear hin hB;by_cases hlt : i < n
      ·have hi0 : (0 : Int) ≤ (i : Int) := by omega
       have hi1 : (i : Int) < (n : Int) := by omega
       have hp0 : (0 : Int) ≤ (p : Int) := by omega
       have hp1 : (p : Int) < (n : Int) := by omega
       by_cases hip : i = p
       ·subst hip;have hipq : ((i : Int) == (i : Int)) = true := by simp
        go_wp2;go_roundw
        case rel => exact ⟨i + 1, l2, b, by omega, by omega, by go_num, rfl, hown, (zu HI).skip (Or.inl rfl), zu HB⟩
        case measure => simp [intOf]; omega
       ·have hipq : ((i : Int) == (p : Int)) = false := by simp; omega
        have hipn : ¬ (i : Int) = (p : Int) := by omega
        obtain ⟨a5, l5, c5, x5, v5⟩ := hown.at hlt;have hl5 : N = l5 := by rw [← v5.vk.len_eq]; exact ((zu HI).lens i hlt).symm
        subst hl5;obtain ⟨g5, o5, rfl⟩ := v5.vk.some (by omega);obtain ⟨b7, a7, l7, c7, E7, y7⟩ := v5.at hcN;replace y7 := y7.1;obtain ⟨f1, f2⟩ := E7.zb;have hg5 := E7.1;have hgm := hown.base_le.2;obtain ⟨s, es⟩ : ∃ s, s = ((l2.getD i []).getD c 0).sign := ⟨_, rfl⟩
        go_wp2_with fail
        refine (rsignK b7 a7 l7 c7 ((l2.getD i []).getD c 0) 222000 s _ y7 es).mono ?_;rintro e w6 ⟨rfl, hb9⟩;replace hown := hown.za hb9;replace HB := zh (Below.step (zu HB) hb9);replace v5 := v5.za hb9;replace E7 := E7.za hb9;replace y7 := y7.za hb9;replace x5 := (hb9.cell (p := ⟨g, i, none⟩) hgm).trans x5;replace hgm := Nat.lt_of_lt_of_le hgm hb9.size;clear hb9 f1 f2 hg5;by_cases h0 : (l2.getD i []).getD c 0 = 0
        ·have hs : (s == 0) = true := by rw [es, h0]; rfl
         clear es v5 E7 y7 x5;go_wp2;go_roundw
         case rel => exact ⟨i + 1, l2, b, by omega, by omega, by go_num, rfl, hown, (zu HI).skip (Or.inr h0), zu HB⟩
         case measure => simp [intOf]; omega
        ·have hs : (s == 0) = false := by
          rw [beq_eq_false_iff_ne, es];exact fun e => h0 (Int.sign_eq_zero_iff_zero.1 e)
         have HX0 := zh (show ent l2 i c ≠ 0 from h0);have H0 := zh (show (l2.getD p []).getD c 0 ≠ 0 from fun e => by
          have h1 := (zu HI).vp;have h2 := (zu HI).v0;rw [show ent l2 p c = 0 from e] at h1;simp at h1;omega)
         obtain ⟨a6, l6, c6, x6, v6⟩ := hown.at hpn;have hl6 : N = l6 := by rw [← v6.vk.len_eq]; exact ((zu HI).lens p hpn).symm
         subst hl6;obtain ⟨g6, o6, rfl⟩ := v6.vk.some (by omega);obtain ⟨b8, a8, l8, c8, E8, y8⟩ := v6.at hcN;replace y8 := y8.1;clear es h0
         go_upto_region 14 with fail
         as_aux_lemma =>
          have HW : Below w6.heap.size w6 w6.drew := (Below.refl _ _).drew;have zS := zh fun w' (HW : Below w6.heap.size w6 w') => con6 ((HW.cell (p := ⟨g, i, none⟩) hgm).trans x5) ((HW.cell (p := ⟨g, p, none⟩) hgm).trans x6) (E7.za HW).zb.1 (E7.za HW).zb.2 (E8.za HW).zb.1 (E8.za HW).zb.2;refine zst zS HW 20 (by kernel_rfl) fun zH => ?_;obtain ⟨vd1, hvd⟩ : ∃ v, v = w6.drew := ⟨_, rfl⟩;rw [← hvd] at HW zH ⊢;clear hvd;refine zfl 0 rfl ?_;simp only [Act.put, aGet, aZero, aSet, aHead, aTail];refine zfl 1 rfl ?_;simp only [zP];refine ztm 2 rfl ?_;simp only [zP];refine ztm 3 rfl ?_;simp only [zP];refine zfl 4 rfl ?_;simp only [zP];refine ztm 5 rfl ?_;simp only [zP];refine ztm 6 rfl ?_;simp only [zP];refine zfl 7 rfl ?_;simp only [zP];refine zfl 8 rfl ?_;simp only [zP];refine ztm 9 rfl ?_;simp only [zP];refine ztm 10 rfl ?_;simp only [zP];refine zfl 11 rfl ?_;simp only [zP];refine ztm 12 rfl ?_;simp only [zP];refine ztm 13 rfl ?_;simp only [zP];refine znm (fun act0 hact0 => ?_);have HA := zh hact0;clear hact0;refine zmd 2 #[tT, tT, tT, tT, tT, tT, tT, tT, tT, tT, tT, tT, tT, tT, tT, tT, tT, tT, tT, tT, tF, tF] (ι := Bool × Option Addr × Nat × Nat × Bool × Option Addr × Nat × Nat × Nat × Nat) (fun (b9, a9, l9, c9, b10, a10, l10, c10, g9, g10) => ((((((act0.put (some 69) (.tuple #[.agg #[.bool b9, .slice a9 l9 c9], .agg #[.bool b10, .slice a10 l10 c10]])).put (some 54) (.tuple #[.agg #[.bool b9, .slice a9 l9 c9], .agg #[.bool b10, .slice a10 l10 c10]])).put (some 70) (.agg #[.bool b9, .slice a9 l9 c9])).put (some 71) (.agg #[.bool b10, .slice a10 l10 c10])).put (some 11) ((.pointer (some ⟨g9, 0, none⟩)))).put (some 12) ((.pointer (some ⟨g10, 0, none⟩))))) (fun (b9, a9, l9, c9, b10, a10, l10, c10, g9, g10) wz => Below w6.heap.size w6 wz ∧ FK wz b9 a9 l9 c9 (((l2.getD i []).getD c 0).tdiv ((l2.getD p []).getD c 0)) 222000 ∧ FK wz b10 a10 l10 c10 (((l2.getD i []).getD c 0).tmod ((l2.getD p []).getD c 0)) 222000 ∧ Box wz g9 false none 0 0 ∧ w6.heap.size ≤ g9 ∧ Box wz g10 false none 0 0 ∧ w6.heap.size ≤ g10 ∧ g9 ≠ g10) ?_ (fun J0 => ?_)
          ·rintro ⟨b9, a9, l9, c9, b10, a10, l10, c10, g9, g10⟩ wj hI
           try dsimp only at hI ⊢
           obtain ⟨HW, h9, h10, B9, hg9, B10, hg10, hneg9g10⟩ := hI;have zH := zu zS _ HW;rw [zu HA];simp only [Act.put, aSet, aHead, aTail];obtain ⟨q1B9, q2B9, q3B9, q4B9⟩ := B9.zb;have hltB9 := B9.lt;obtain ⟨q1B10, q2B10, q3B10, q4B10⟩ := B10.zb;have hltB10 := B10.lt;refine tout 20 rfl fun K hK => ?_;go_simp;refine hK.out _ _ ?_;clear hK K
           try simp only [aSet, aHead, aTail]
           refine tout 21 rfl fun K hK => ?_;go_simp;refine hK.out _ _ ?_;clear hK K
           try simp only [aSet, aHead, aTail]
           refine zdn (by kernel_rfl) ?_ _;have n7 := B9.noLimb;have n8 := (B10.other (g' := g9) (Ne.symm hneg9g10) b9 a9 l9 c9).noLimb;obtain ⟨W8, hW8⟩ : ∃ W8, W8 = ((((wj.setCell ⟨g9, 0, none⟩ (.bool b9)).setCell ⟨g9, 1, none⟩ (.slice a9 l9 c9)).setCell ⟨g10, 0, none⟩ (.bool b10)).setCell ⟨g10, 1, none⟩ (.slice a10 l10 c10)) := ⟨_, rfl⟩;rw [← hW8];have Bq : Box W8 g9 b9 a9 l9 c9 := by rw [hW8]; exact (B9.put b9 a9 l9 c9).other (g' := g10) hneg9g10 b10 a10 l10 c10
           have hQ : FK W8 b9 a9 l9 c9 (((l2.getD i []).getD c 0).tdiv ((l2.getD p []).getD c 0)) 222000 := by rw [hW8]; exact (h9.put n7 b9 a9 l9 c9).put n8 b10 a10 l10 c10
           have HC : Below w6.heap.size w6 W8 := by rw [hW8]; exact below_put (below_put HW hg9 _ _ _ _) hg10 _ _ _ _
           clear hW8 HW zH B9 B10 n7 n8 h9 h10 hltB9 hltB10 q1B9 q2B9 q3B9 q4B9 q1B10 q2B10 q3B10 q4B10;obtain ⟨qz, eqz⟩ : ∃ qz, qz = (((l2.getD i []).getD c 0).tdiv ((l2.getD p []).getD c 0)) := ⟨_, rfl⟩;rw [← eqz] at hQ;have EQZ := zh eqz;clear eqz;replace HB := zh (Below.step (zu HB) HC);replace hown := hown.za HC;replace v5 := v5.za HC;replace v6 := v6.za HC;replace x5 := (HC.cell (p := ⟨g, i, none⟩) hgm).trans x5;replace x6 := (HC.cell (p := ⟨g, p, none⟩) hgm).trans x6;replace hgm := Nat.lt_of_lt_of_le hgm HC.size;clear HC E7 E8 y7 y8;obtain ⟨f1, f2, _, _⟩ := Bq.zb;have hsQ := Bq.lt
           go_upto_region 15 with fail
           have HW : Below W8.heap.size W8 W8.drew := (Below.refl _ _).drew;have zS := zh fun w' (HW : Below W8.heap.size W8 w') => con4 ((HW.cell (p := ⟨g, i, none⟩) hgm).trans x5) ((HW.cell (p := ⟨g, p, none⟩) hgm).trans x6) (Bq.za HW).zb.1 (Bq.za HW).zb.2.1;refine zst zS HW 14 (by kernel_rfl) fun zH => ?_;refine ztl 0 rfl ?_;simp only [Act.put, aGet, aZero, aSet, aHead, aTail];refine ztl 1 rfl ?_;simp only [zP];refine ztl 2 rfl ?_;simp only [zP];refine ztl 3 rfl ?_;simp only [zP];refine ztl 4 rfl ?_;simp only [zP];refine ztl 5 rfl ?_;simp only [zP];refine ztl 6 rfl ?_;simp only [zP];refine ztl 7 rfl ?_;simp only [zP];refine ztl 8 rfl ?_;simp only [zP];refine ztl 9 rfl ?_;simp only [zP];refine ztl 10 rfl ?_;simp only [zP];refine tin 11 rfl fun K hK => ?_;go_simp;refine (rvtimesK _ _ _ (l2.getD p []) 222000 b9 a9 l9 c9 qz 222000 _ (v6.za HW) ((hQ.za HW).sk (by omega)) (by omega) (by omega) (by omega)).mono ?_;rintro e w8 ⟨a11, c11, rfl, h11, hb9⟩;replace HW := Below.step HW hb9;clear hb9;refine hK.out _ _ ?_ (fun zH => ?_)
           ·exact zu zS _ HW
           clear hK K
           try simp only [zP]
           refine tin 12 rfl fun K hK => ?_;go_simp;refine (rvsubK _ _ _ (l2.getD i []) 222000 _ _ _ (vtimes (l2.getD p []) qz) (222000 + 222000) _ ((v5.za HW).vk) (h11.vs (by omega)) (by omega) (by omega) (by omega) (by omega)).mono ?_;rintro e w9 ⟨a12, c12, rfl, h12, hb9⟩;rw [Nat.max_self] at h12
           (try rw [Nat.max_self])
           replace HW := Below.step HW hb9;clear hb9 h11;refine hK.out _ _ ?_ (fun zH => ?_)
           ·exact zu zS _ HW
           clear hK K
           try simp only [zP]
           refine ztl 13 rfl ?_;simp only [zP];have q5 := (HW.cell (p := ⟨g, i, none⟩) hgm).trans x5;have q7 := (hown.za HW).free i;refine tout 14 rfl fun K hK => ?_;go_simp;refine hK.out _ _ ?_;clear hK K
           try simp only [zP]
           refine zdn (by kernel_rfl) ?_ _;clear q5 q7 zH f1 f2 hsQ Bq hQ;replace hown := hown.za HW;replace HB := zh (Below.step (zu HB) HW);clear HW v5 v6 x5 x6;have hr : ∀ j, (vsub (l2.getD i []) (vtimes (l2.getD p []) qz)).getD j 0 = ent l2 i j - (ent l2 i c).tdiv (ent l2 p c) * ent l2 p j := fun j => by rw [vsub_at, vtimes_at, zu EQZ, Int.mul_comm]; rfl
           have hrl : (vsub (l2.getD i []) (vtimes (l2.getD p []) qz)).length = N := by rw [vsub_len, vtimes_len, (zu HI).lens i hlt, (zu HI).lens p hpn, Nat.max_self]
           obtain ⟨r, er⟩ : ∃ r, r = vsub (l2.getD i []) (vtimes (l2.getD p []) qz) := ⟨_, rfl⟩;rw [← er] at hr hrl h12;have HI2 := zh ((zu HI).step hlt hdi hip (zu HX0) hr hrl);have hvr : VS w9 a12 N c12 r 222000 := (vf_tight (k := 222000) h12 fun j _ => by have := (zu HI2).up i hdi j; rw [ent_same (by rw [(zu HI).len]; exact hlt)] at this; exact Nat.lt_of_lt_of_le this (Bp_le (zu HAB (d + 1) (by omega)))).vs (by omega);have ho2 := ro_set hown hlt hvr;have HB2 := zh ((zu HB).setCell (p := ⟨g, i, none⟩) (by simpa using hown.base_le.1) (.slice a12 N c12));clear hrl h12 hvr hr;obtain ⟨WS, hWS⟩ : ∃ WS, WS = w9.setCell ⟨g, i, none⟩ (.slice a12 N c12) := ⟨_, rfl⟩;rw [← hWS] at ho2 HB2 ⊢;clear hWS hown HB;have hgs := ho2.base_le.2;obtain ⟨a14, l14, c14, hcell, hvr2⟩ := ho2.at hlt;rw [show (l2.set i r).getD i [] = r by simp [List.getD, (zu HI).len, hlt]] at hvr2;have hl14 : N = l14 := by rw [← hvr2.vk.len_eq, er, vsub_len, vtimes_len, (zu HI).lens i hlt, (zu HI).lens p hpn, Nat.max_self]
           subst hl14;clear er;obtain ⟨g12, o12, rfl⟩ := hvr2.vk.some (by omega);obtain ⟨b13, a13, l13, c13, E13, y13⟩ := hvr2.at hcN;obtain ⟨f1, f2⟩ := E13.zb;have hg12 := E13.1;cases b with
           | true =>
            go_wp2;go_roundw
            case rel => exact ⟨i + 1, _, true, by omega, by omega, by go_num, rfl, ho2, by have := zu HI2; rwa [Bool.true_or] at this, zu HB2⟩
            case measure => simp [intOf]; omega
           | false =>
            obtain ⟨s, es⟩ : ∃ s, s = (r.getD c 0).sign := ⟨_, rfl⟩
            go_wp2_with fail
            refine (rsignK b13 a13 l13 c13 (r.getD c 0) 222000 s _ y13.1 es).mono ?_;rintro e w10 ⟨rfl, hb9⟩;have hs : (s != 0) = decide (r.getD c 0 ≠ 0) := by rw [es]; exact sign_ne _
            have ho3 := ho2.za hb9;have HB3 := zh (Below.step (zu HB2) hb9);clear hb9 f1 f2 hg12 hcell hvr2 E13 y13 ho2 es;go_wp2;go_roundw
            case rel => exact ⟨i + 1, _, _, by omega, by omega, by go_num, rfl, ho3, by simpa using zu HI2, zu HB3⟩
            case measure => simp [intOf]; omega
          refine zmd 3 #[tT, tT, tT, tT, tT, tT, tT, tT, tT, tT, tT, tT, tT, tT, tT, tT, tT, tT, tF, tT, tF, tF] (ι := Bool × Option Addr × Nat × Nat × Bool × Option Addr × Nat × Nat × Nat) (fun (b9, a9, l9, c9, b10, a10, l10, c10, g10) => (((((act0.put (some 69) (.tuple #[.agg #[.bool b9, .slice a9 l9 c9], .agg #[.bool b10, .slice a10 l10 c10]])).put (some 54) (.tuple #[.agg #[.bool b9, .slice a9 l9 c9], .agg #[.bool b10, .slice a10 l10 c10]])).put (some 70) (.agg #[.bool b9, .slice a9 l9 c9])).put (some 71) (.agg #[.bool b10, .slice a10 l10 c10])).put (some 12) ((.pointer (some ⟨g10, 0, none⟩))))) (fun (b9, a9, l9, c9, b10, a10, l10, c10, g10) wz => Below w6.heap.size w6 wz ∧ FK wz b9 a9 l9 c9 (((l2.getD i []).getD c 0).tdiv ((l2.getD p []).getD c 0)) 222000 ∧ FK wz b10 a10 l10 c10 (((l2.getD i []).getD c 0).tmod ((l2.getD p []).getD c 0)) 222000 ∧ Box wz g10 false none 0 0 ∧ w6.heap.size ≤ g10) ?_ (fun J1 => ?_)
          ·rintro ⟨b9, a9, l9, c9, b10, a10, l10, c10, g10⟩ wj hI
           try dsimp only at hI ⊢
           obtain ⟨HW, h9, h10, B10, hg10⟩ := hI;have zH := zu zS _ HW;rw [zu HA];simp only [Act.put, aSet, aHead, aTail];refine tin 18 rfl fun K hK => ?_;go_simp;have hwk : w6.heap.size ≤ wj.heap.size := HW.size;have hxg10 := B10.lt;obtain ⟨wk, hWe⟩ := newB wj;obtain ⟨B9, hb9⟩ := boxes1 wj false none 0 0 hWe;rw [← hWe];clear hWe;replace HW := Below.step HW hb9;replace h9 := h9.za hb9;replace h10 := h10.za hb9;replace B10 := B10.za hb9;clear hb9;have hg9 := hwk;have hneg9g10 : wj.heap.size ≠ g10 := by omega
           refine hK.out _ _ ?_ (fun zH => ?_)
           ·exact zu zS _ HW
           clear hK K
           try simp only [aSet, aHead, aTail]
           exact tgo J0 (b9, a9, l9, c9, b10, a10, l10, c10, wj.heap.size, g10) (by (try dsimp only); rw [zu HA]; simp only [Act.put, aSet, aHead, aTail]) (by (try dsimp only); exact ⟨HW, h9, h10, B9, hg9, B10, hg10, hneg9g10⟩)
          refine zmd 3 #[tT, tT, tT, tT, tT, tT, tT, tT, tT, tT, tT, tT, tT, tT, tT, tT, tT, tT, tT, tF, tF, tF] (ι := Bool × Option Addr × Nat × Nat × Bool × Option Addr × Nat × Nat × Nat) (fun (b9, a9, l9, c9, b10, a10, l10, c10, g9) => (((((act0.put (some 69) (.tuple #[.agg #[.bool b9, .slice a9 l9 c9], .agg #[.bool b10, .slice a10 l10 c10]])).put (some 54) (.tuple #[.agg #[.bool b9, .slice a9 l9 c9], .agg #[.bool b10, .slice a10 l10 c10]])).put (some 70) (.agg #[.bool b9, .slice a9 l9 c9])).put (some 71) (.agg #[.bool b10, .slice a10 l10 c10])).put (some 11) ((.pointer (some ⟨g9, 0, none⟩))))) (fun (b9, a9, l9, c9, b10, a10, l10, c10, g9) wz => Below w6.heap.size w6 wz ∧ FK wz b9 a9 l9 c9 (((l2.getD i []).getD c 0).tdiv ((l2.getD p []).getD c 0)) 222000 ∧ FK wz b10 a10 l10 c10 (((l2.getD i []).getD c 0).tmod ((l2.getD p []).getD c 0)) 222000 ∧ Box wz g9 false none 0 0 ∧ w6.heap.size ≤ g9) ?_ (fun J2 => ?_)
          ·rintro ⟨b9, a9, l9, c9, b10, a10, l10, c10, g9⟩ wj hI
           try dsimp only at hI ⊢
           obtain ⟨HW, h9, h10, B9, hg9⟩ := hI;have zH := zu zS _ HW;rw [zu HA];simp only [Act.put, aSet, aHead, aTail];refine tin 19 rfl fun K hK => ?_;go_simp;have hwk : w6.heap.size ≤ wj.heap.size := HW.size;have hxg9 := B9.lt;obtain ⟨wk, hWe⟩ := newB wj;obtain ⟨B10, hb9⟩ := boxes1 wj false none 0 0 hWe;rw [← hWe];clear hWe;replace HW := Below.step HW hb9;replace h9 := h9.za hb9;replace h10 := h10.za hb9;replace B9 := B9.za hb9;clear hb9;have hg10 := hwk;have hneg9g10 : g9 ≠ wj.heap.size := by omega
           refine hK.out _ _ ?_ (fun zH => ?_)
           ·exact zu zS _ HW
           clear hK K
           try simp only [aSet, aHead, aTail]
           exact tgo J0 (b9, a9, l9, c9, b10, a10, l10, c10, g9, wj.heap.size) (by (try dsimp only); rw [zu HA]; simp only [Act.put, aSet, aHead, aTail]) (by (try dsimp only); exact ⟨HW, h9, h10, B9, hg9, B10, hg10, hneg9g10⟩)
          refine zmd 4 #[tT, tT, tT, tT, tT, tT, tT, tT, tT, tT, tT, tT, tT, tT, tT, tT, tT, tT, tF, tF, tF, tF] (ι := Bool × Option Addr × Nat × Nat × Bool × Option Addr × Nat × Nat) (fun (b9, a9, l9, c9, b10, a10, l10, c10) => ((((act0.put (some 69) (.tuple #[.agg #[.bool b9, .slice a9 l9 c9], .agg #[.bool b10, .slice a10 l10 c10]])).put (some 54) (.tuple #[.agg #[.bool b9, .slice a9 l9 c9], .agg #[.bool b10, .slice a10 l10 c10]])).put (some 70) (.agg #[.bool b9, .slice a9 l9 c9])).put (some 71) (.agg #[.bool b10, .slice a10 l10 c10]))) (fun (b9, a9, l9, c9, b10, a10, l10, c10) wz => Below w6.heap.size w6 wz ∧ FK wz b9 a9 l9 c9 (((l2.getD i []).getD c 0).tdiv ((l2.getD p []).getD c 0)) 222000 ∧ FK wz b10 a10 l10 c10 (((l2.getD i []).getD c 0).tmod ((l2.getD p []).getD c 0)) 222000) ?_ (fun J3 => ?_)
          ·rintro ⟨b9, a9, l9, c9, b10, a10, l10, c10⟩ wj hI
           try dsimp only at hI ⊢
           obtain ⟨HW, h9, h10⟩ := hI;have zH := zu zS _ HW;rw [zu HA];simp only [Act.put, aSet, aHead, aTail];refine ttwo 18 19 rfl rfl (fun K hK => ?_) (fun K hK => ?_)
           ·go_simp;have hwk : w6.heap.size ≤ wj.heap.size := HW.size;obtain ⟨wk, hWe⟩ := newB wj;obtain ⟨B9, hb9⟩ := boxes1 wj false none 0 0 hWe;rw [← hWe];clear hWe;replace HW := Below.step HW hb9;replace h9 := h9.za hb9;replace h10 := h10.za hb9;clear hb9;have hg9 := hwk;refine hK.out _ _ ?_ (fun zH => ?_)
            ·exact zu zS _ HW
            clear hK K
            try simp only [aSet, aHead, aTail]
            exact tgo J2 (b9, a9, l9, c9, b10, a10, l10, c10, wj.heap.size) (by (try dsimp only); rw [zu HA]; simp only [Act.put, aSet, aHead, aTail]) (by (try dsimp only); exact ⟨HW, h9, h10, B9, hg9⟩)
           ·go_simp;have hwk : w6.heap.size ≤ wj.heap.size := HW.size;obtain ⟨wk, hWe⟩ := newB wj;obtain ⟨B10, hb9⟩ := boxes1 wj false none 0 0 hWe;rw [← hWe];clear hWe;replace HW := Below.step HW hb9;replace h9 := h9.za hb9;replace h10 := h10.za hb9;clear hb9;have hg10 := hwk;refine hK.out _ _ ?_ (fun zH => ?_)
            ·exact zu zS _ HW
            clear hK K
            try simp only [aSet, aHead, aTail]
            exact tgo J1 (b9, a9, l9, c9, b10, a10, l10, c10, wj.heap.size) (by (try dsimp only); rw [zu HA]; simp only [Act.put, aSet, aHead, aTail]) (by (try dsimp only); exact ⟨HW, h9, h10, B10, hg10⟩)
          refine zmd 6 #[tT, tT, tT, tT, tT, tT, tT, tT, tT, tT, tT, tT, tT, tT, tF, tF, tF, tF, tT, tT, tF, tF] (ι := Nat × Nat) (fun (g9, g10) => ((act0.put (some 11) ((.pointer (some ⟨g9, 0, none⟩)))).put (some 12) ((.pointer (some ⟨g10, 0, none⟩))))) (fun (g9, g10) wz => Below w6.heap.size w6 wz ∧ Box wz g9 false none 0 0 ∧ w6.heap.size ≤ g9 ∧ Box wz g10 false none 0 0 ∧ w6.heap.size ≤ g10 ∧ g9 ≠ g10) ?_ (fun J4 => ?_)
          ·rintro ⟨g9, g10⟩ wj hI
           try dsimp only at hI ⊢
           obtain ⟨HW, B9, hg9, B10, hg10, hneg9g10⟩ := hI;have zH := zu zS _ HW;rw [zu HA];simp only [Act.put, aSet, aHead, aTail];refine tin 14 rfl fun K hK => ?_;go_simp;refine (rquoK b7 a7 l7 c7 ((l2.getD i []).getD c 0) 222000 b8 a8 l8 c8 ((l2.getD p []).getD c 0) 222000 _ (y7.za HW) (y8.za HW) (zu H0)).mono ?_;rintro e wk ⟨b9, a9, l9, c9, b10, a10, l10, c10, rfl, h9, h10, hb9⟩;replace HW := Below.step HW hb9;replace B9 := B9.za hb9;replace B10 := B10.za hb9;clear hb9;refine hK.out _ _ ?_ (fun zH => ?_)
           ·exact zu zS _ HW
           clear hK K
           try simp only [aSet, aHead, aTail]
           refine zfl 15 rfl ?_;simp only [zP];refine zfl 16 rfl ?_;simp only [zP];refine zfl 17 rfl ?_;simp only [zP];exact tgo J0 (b9, a9, l9, c9, b10, a10, l10, c10, g9, g10) (by (try dsimp only); rw [zu HA]; simp only [Act.put, aSet, aHead, aTail]) (by (try dsimp only); exact ⟨HW, h9, h10, B9, hg9, B10, hg10, hneg9g10⟩)
          refine zmd 7 #[tT, tT, tT, tT, tT, tT, tT, tT, tT, tT, tT, tT, tT, tT, tF, tF, tF, tF, tF, tT, tF, tF] (ι := Nat) (fun g10 => (act0.put (some 12) ((.pointer (some ⟨g10, 0, none⟩))))) (fun g10 wz => Below w6.heap.size w6 wz ∧ Box wz g10 false none 0 0 ∧ w6.heap.size ≤ g10) ?_ (fun J5 => ?_)
          ·rintro g10 wj hI
           try dsimp only at hI ⊢
           obtain ⟨HW, B10, hg10⟩ := hI;have zH := zu zS _ HW;rw [zu HA];simp only [Act.put, aSet, aHead, aTail];refine ttwo 14 18 rfl rfl (fun K hK => ?_) (fun K hK => ?_)
           ·go_simp;refine (rquoK b7 a7 l7 c7 ((l2.getD i []).getD c 0) 222000 b8 a8 l8 c8 ((l2.getD p []).getD c 0) 222000 _ (y7.za HW) (y8.za HW) (zu H0)).mono ?_;rintro e wk ⟨b9, a9, l9, c9, b10, a10, l10, c10, rfl, h9, h10, hb9⟩;replace HW := Below.step HW hb9;replace B10 := B10.za hb9;clear hb9;refine hK.out _ _ ?_ (fun zH => ?_)
            ·exact zu zS _ HW
            clear hK K
            try simp only [aSet, aHead, aTail]
            refine zfl 15 rfl ?_;simp only [zP];refine zfl 16 rfl ?_;simp only [zP];refine zfl 17 rfl ?_;simp only [zP];exact tgo J1 (b9, a9, l9, c9, b10, a10, l10, c10, g10) (by (try dsimp only); rw [zu HA]; simp only [Act.put, aSet, aHead, aTail]) (by (try dsimp only); exact ⟨HW, h9, h10, B10, hg10⟩)
           ·go_simp;have hwk : w6.heap.size ≤ wj.heap.size := HW.size;have hxg10 := B10.lt;obtain ⟨wk, hWe⟩ := newB wj;obtain ⟨B9, hb9⟩ := boxes1 wj false none 0 0 hWe;rw [← hWe];clear hWe;replace HW := Below.step HW hb9;replace B10 := B10.za hb9;clear hb9;have hg9 := hwk;have hneg9g10 : wj.heap.size ≠ g10 := by omega
            refine hK.out _ _ ?_ (fun zH => ?_)
            ·exact zu zS _ HW
            clear hK K
            try simp only [aSet, aHead, aTail]
            exact tgo J4 (wj.heap.size, g10) (by (try dsimp only); rw [zu HA]; simp only [Act.put, aSet, aHead, aTail]) (by (try dsimp only); exact ⟨HW, B9, hg9, B10, hg10, hneg9g10⟩)
          refine zmd 7 #[tT, tT, tT, tT, tT, tT, tT, tT, tT, tT, tT, tT, tT, tT, tF, tF, tF, tF, tT, tF, tF, tF] (ι := Nat) (fun g9 => (act0.put (some 11) ((.pointer (some ⟨g9, 0, none⟩))))) (fun g9 wz => Below w6.heap.size w6 wz ∧ Box wz g9 false none 0 0 ∧ w6.heap.size ≤ g9) ?_ (fun J6 => ?_)
          ·rintro g9 wj hI
           try dsimp only at hI ⊢
           obtain ⟨HW, B9, hg9⟩ := hI;have zH := zu zS _ HW;rw [zu HA];simp only [Act.put, aSet, aHead, aTail];refine ttwo 14 19 rfl rfl (fun K hK => ?_) (fun K hK => ?_)
           ·go_simp;refine (rquoK b7 a7 l7 c7 ((l2.getD i []).getD c 0) 222000 b8 a8 l8 c8 ((l2.getD p []).getD c 0) 222000 _ (y7.za HW) (y8.za HW) (zu H0)).mono ?_;rintro e wk ⟨b9, a9, l9, c9, b10, a10, l10, c10, rfl, h9, h10, hb9⟩;replace HW := Below.step HW hb9;replace B9 := B9.za hb9;clear hb9;refine hK.out _ _ ?_ (fun zH => ?_)
            ·exact zu zS _ HW
            clear hK K
            try simp only [aSet, aHead, aTail]
            refine zfl 15 rfl ?_;simp only [zP];refine zfl 16 rfl ?_;simp only [zP];refine zfl 17 rfl ?_;simp only [zP];exact tgo J2 (b9, a9, l9, c9, b10, a10, l10, c10, g9) (by (try dsimp only); rw [zu HA]; simp only [Act.put, aSet, aHead, aTail]) (by (try dsimp only); exact ⟨HW, h9, h10, B9, hg9⟩)
           ·go_simp;have hwk : w6.heap.size ≤ wj.heap.size := HW.size;have hxg9 := B9.lt;obtain ⟨wk, hWe⟩ := newB wj;obtain ⟨B10, hb9⟩ := boxes1 wj false none 0 0 hWe;rw [← hWe];clear hWe;replace HW := Below.step HW hb9;replace B9 := B9.za hb9;clear hb9;have hg10 := hwk;have hneg9g10 : g9 ≠ wj.heap.size := by omega
            refine hK.out _ _ ?_ (fun zH => ?_)
            ·exact zu zS _ HW
            clear hK K
            try simp only [aSet, aHead, aTail]
            exact tgo J4 (g9, wj.heap.size) (by (try dsimp only); rw [zu HA]; simp only [Act.put, aSet, aHead, aTail]) (by (try dsimp only); exact ⟨HW, B9, hg9, B10, hg10, hneg9g10⟩)
          rw [zu HA];refine till_three (i := 14) (j := 18) (k := 19) (by kernel_rfl) rfl rfl rfl (fun K hK => ?_) (fun K hK => ?_) (fun K hK => ?_)
          ·go_simp;refine (rquoK b7 a7 l7 c7 ((l2.getD i []).getD c 0) 222000 b8 a8 l8 c8 ((l2.getD p []).getD c 0) 222000 _ (y7.za HW) (y8.za HW) (zu H0)).mono ?_;rintro e wk ⟨b9, a9, l9, c9, b10, a10, l10, c10, rfl, h9, h10, hb9⟩;replace HW := Below.step HW hb9;clear hb9;refine hK.out _ _ ?_ (fun zH => ?_)
           ·exact zu zS _ HW
           clear hK K
           try simp only [aSet, aHead, aTail]
           refine zfl 15 rfl ?_;simp only [zP];refine zfl 16 rfl ?_;simp only [zP];refine zfl 17 rfl ?_;simp only [zP];exact tgo J3 (b9, a9, l9, c9, b10, a10, l10, c10) (by (try dsimp only); rw [zu HA]; simp only [Act.put, aSet, aHead, aTail]) (by (try dsimp only); exact ⟨HW, h9, h10⟩)
          ·go_simp;have hwk : w6.heap.size ≤ vd1.heap.size := HW.size;obtain ⟨wk, hWe⟩ := newB vd1;obtain ⟨B9, hb9⟩ := boxes1 vd1 false none 0 0 hWe;rw [← hWe];clear hWe;replace HW := Below.step HW hb9;clear hb9;have hg9 := hwk;refine hK.out _ _ ?_ (fun zH => ?_)
           ·exact zu zS _ HW
           clear hK K
           try simp only [aSet, aHead, aTail]
           exact tgo J6 vd1.heap.size (by (try dsimp only); rw [zu HA]; simp only [Act.put, aSet, aHead, aTail]) (by (try dsimp only); exact ⟨HW, B9, hg9⟩)
          ·go_simp;have hwk : w6.heap.size ≤ vd1.heap.size := HW.size;obtain ⟨wk, hWe⟩ := newB vd1;obtain ⟨B10, hb9⟩ := boxes1 vd1 false none 0 0 hWe;rw [← hWe];clear hWe;replace HW := Below.step HW hb9;clear hb9;have hg10 := hwk;refine hK.out _ _ ?_ (fun zH => ?_)
           ·exact zu zS _ HW
           clear hK K
           try simp only [aSet, aHead, aTail]
           exact tgo J5 vd1.heap.size (by (try dsimp only); rw [zu HA]; simp only [Act.put, aSet, aHead, aTail]) (by (try dsimp only); exact ⟨HW, B10, hg10⟩)
      ·have hin : i = n := by omega
       subst hin;have hi1 : ¬ (i : Int) < (i : Int) := by omega
       go_wp2_with fail
       refine (leastK _ i cl l2 222000 N d c _ hown.mk (zu HI).lens hcN hdn0 hn (by omega)).mono ?_;rintro e w7 ⟨z, rfl, hz, hb9⟩;replace hown := hown.za hb9;replace HB := zh (Below.step (zu HB) hb9);obtain ⟨v', hr, hlt'⟩ := (zu HI).rnd hz;have HR := zh hr;clear hb9 hz hr;go_wp2
       go_roundg v'
       case measure => exact hlt'
       case rel => exact ⟨z, b, l2, rfl, rfl, hown, zu HR, zu HB⟩
  ·have hin : c = N := by omega
   subst hin;have hc1 : ¬ (c : Int) < (c : Int) := by omega
   obtain ⟨hf, hsl⟩ := (zu HS).done;have HF := zh hf;have HSL := zh hsl;have HLN := zh (zu HS).lens;clear hf hsl HS HG HAB HBB;obtain ⟨w5, hw5⟩ : ∃ x, x = wr := ⟨_, rfl⟩;subst hw5
   go_wp2_with fail
   go_loopw [16, 17] (fun s t wx => ∃ (i : Nat) (ao' : Option Addr) (cap' : Nat), i ≤ d ∧ t = .int .i64 (i : Int) ∧ s = .slice ao' i cap' ∧ MO wx w5.heap.size ao' i cap' (l.take i) 222000 ∧ Below w5.heap.size w5 wx) (fun _ t _ => d - (intOf t).toNat)
   case atStart => exact ⟨0, none, 0, Nat.zero_le _, rfl, rfl, mOwn_nil _ _ _, Below.refl _ _⟩
   case round =>
    obtain ⟨i, ao', cap', hi, rfl, rfl, hout, hB⟩ := hrel;have HC := zh hB;clear hB;by_cases hlt : i < d
    ·have hin : i < n := by omega
     have hi0 : (0 : Int) ≤ (i : Int) := by omega
     have hi1 : (i : Int) < (d : Int) := by omega
     have hi2 : (i : Int) < (n : Int) := by omega
     obtain ⟨g, rfl⟩ := hown.addr (by omega);obtain ⟨a5, l5, c5, x5, v5⟩ := hown.at hin;have hg0 := hown.base_le.2;have x6 := ((zu HC).cell (p := ⟨g, i, none⟩) hg0).trans x5;have hgm := Nat.lt_of_lt_of_le hg0 (zu HC).size;have HNL := zh v5.vk.len_eq;have hl5 : l5 ≤ 1000 := by rw [← v5.vk.len_eq, zu HLN i hin]; omega
     go_wp2_with fail
     refine (rvnegK a5 l5 c5 (l.getD i []) 222000 _ (v5.za (zu HC)) (by omega) (by omega)).mono ?_;rintro e w6 ⟨a6, c6, rfl, h6, hb9⟩;replace hout := hout.za hb9;replace HC := zh (Below.step (zu HC) hb9);clear hb9
     go_wp2_with fail
     refine (rvnegK a6 l5 c6 (vneg (l.getD i [])) (222000 + 2) _ (h6.vs (by omega)) (by omega) (by omega)).mono ?_;rintro e w7 ⟨a7, c7, rfl, h7, hb9⟩;replace hout := hout.za hb9;replace HC := zh (Below.step (zu HC) hb9);rw [vneg_neg] at h7;replace h7 := vf_tight (k := 222000) h7 fun j hj => v5.lt hj;obtain ⟨z, ez⟩ : ∃ z, z = l.getD i [] := ⟨_, rfl⟩;obtain ⟨LL, eL⟩ : ∃ LL, LL = l.take i := ⟨_, rfl⟩;rw [← ez] at h7;rw [← eL] at hout;have EZ := zh ez;have EL := zh eL;clear hb9 h6 x5 x6 v5 ez eL hg0 hgm;obtain ⟨W6, hW6⟩ : ∃ W6, W6 = w7.alloc (.cells #[.slice a7 l5 c7] 39) := ⟨_, rfl⟩;have hb9 : Below w7.heap.size w7 W6 := by rw [hW6]; exact below_new _ _
     have hone := mf_one h7;replace hout := hout.za hb9;have HC2 := zh (Below.step (zu HC) hb9);clear hb9 h7;have hsz := (zu HC2).size;rw [hW6] at hout hsz
     go_wp2_with (at_builtin; refine append_rows (R := fun w a l c zs => VF w a l c zs 222000) (steadyMO 222000) rfl (.tmp 179) (.tmp 186) 22 Tryz.underlying22 rfl w5.heap.size ao' i cap' LL rfl hout _ 1 1 [z] rfl hone (by omega) hsz ?_)
     intro an cn w8 hout2 hgr7;rw [← hW6] at hgr7 hout hsz;clear hW6 hone;have HD := (zu HC2).grown hgr7 hsz (MO.ge hout);clear hgr7;go_wp2;go_roundw
     case rel => exact ⟨i + 1, _, _, by omega, by go_num, rfl, by rw [take_snoc [] (by rw [hown.len]; exact hin), ← zu EL, ← zu EZ]; exact hout2, HD⟩
     case measure => simp [intOf]; omega
    ·have hin : i = d := by omega
     subst hin;have hi1 : ¬ (i : Int) < (i : Int) := by omega
     have hln := hown.len;go_wp2;go_ret;refine ⟨_, i, _, rfl, _, _, hout.mf, zu HF, zu HSL, fun r hr => ?_, by omega, Below.step (zu HB) (zu HC)⟩;obtain ⟨j, hj, e⟩ := List.getElem_of_mem hr;have hji : j < i := by rw [List.length_take] at hj; omega
     have := zu HLN j (by omega);rw [← getD_take hji] at this;rw [← e, ← this, List.getD_eq_getElem?_getD, List.getElem?_eq_getElem hj];rfl

theorem refHnfK (ao : Option Addr) (n cap : Nat) (rs : List (List Int)) (a N : Nat) (w : World) (h : MS w ao n cap rs a) (_ : a ≤ 222000) (hN : ∀ i, i < n → (rs.getD i []).length = N) (hn : n ≤ 1000) (hNl : N ≤ 1000) (hA : ∀ d, d ≤ n → aS a n d ≤ 222000) (hB : ∀ d, d ≤ n → bS a n d ≤ 222000) :
  Calls Tryz.prog 11 #[.slice ao n cap, .int .i64 (N : Int)] w fun e w' => ∃ a1 m c1 p hs, e = .returned (.slice a1 m c1) ∧ MF w' a1 m c1 hs 222000 ∧ HForm hs p ∧ SameL rs hs ∧ (∀ r ∈ hs, r.length = N) ∧ m ≤ n ∧ Below w.heap.size w w' :=
 refHnfG ao n cap rs (aS a n) (bS a n) N w h (grows_of rs a n N) hN hn hNl hA hB
end Go.Proofs.YtnpneloahajniaaGreat
