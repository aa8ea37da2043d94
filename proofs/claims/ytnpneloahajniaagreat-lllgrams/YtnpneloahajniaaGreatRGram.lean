/-
 What the reference's Gram tells: of rows that do not depend on one another: the determinants, and each row's shares.
-/
import Derived.Test.YtnpneloahajniaaGreatGramTurn
import Derived.Test.YtnpneloahajniaaGreatLBas
import Derived.Test.YtnpneloahajniaaGreatJF
import Derived.Test.YtnpneloahajniaaGreatJP
import Derived.Test.YtnpneloahajniaaGreatJM
namespace Go.Proofs.YtnpneloahajniaaGreat
open Go.RowKit Lb
set_option maxRecDepth 20000

def DR (gd k : Nat) (w : World) (a : Option Addr) (l c : Nat) (zs : List Int) : Prop := VF w a l c zs k ∧ ∀ g off, a = some ⟨g, off, none⟩ → g ≠ gd ∧ g < w.heap.size
theorem DR.za {gd k : Nat} {w w' : World} {a : Option Addr} {l c : Nat} {zs : List Int} (h : DR gd k w a l c zs) (hb : Below w.heap.size w w') : DR gd k w' a l c zs := ⟨h.1.za hb, fun g off e => ⟨(h.2 g off e).1, Nat.lt_of_lt_of_le (h.2 g off e).2 hb.size⟩⟩
theorem steadyDR (gd k : Nat) : SteadyV (DR gd k) := fun h hg hs => ⟨steadyV_vf k h.1 hg hs, fun g off e => ⟨(h.2 g off e).1, Nat.lt_of_lt_of_le (h.2 g off e).2 hg.size⟩⟩
theorem MOwn.laterD {gd k : Nat} {w w' : World} {base : Nat} {ao : Option Addr} {n cap : Nat} {rs : List (List Int)} (h : MOwn (DR gd k) w base ao n cap rs) (hb : Below w.heap.size w w') : MOwn (DR gd k) w' base ao n cap rs := MOwn.za (R := DR gd k) (fun h hb => h.za hb) h hb
theorem mown_ne {R : World → Option Addr → Nat → Nat → List Int → Prop} {w : World} {b base gd n cd k m cap : Nat} {ao : Option Addr} {rs : List (List Int)} {ds : List Int} (hg : MOwn R w b ao m cap rs) (hd : OwnV w base (some ⟨gd, 0, none⟩) n cd ds k) (hn : 0 < n) : (Value.slice ao m cap).ownBlock ≠ some gd := by
 intro e;obtain ⟨b0, a0, l0, c0, E, _⟩ := hd.vf.at hn;obtain ⟨v, hv⟩ := hg.onlySl gd e _ _ E.zb.1;simp [sv] at hv
theorem mown_dapp {gd gn k : Nat} {w w' : World} {base : Nat} {ao : Option Addr} {n cap : Nat} {rs : List (List Int)} (h : MOwn (DR gd k) w base ao n cap rs) (hgr : w.grownBy w' (some gd)) (hnl : NoLimb w gd) (hne : (Value.slice ao n cap).ownBlock ≠ some gd) (hat : gn = gd ∨ gn = w.heap.size) : MOwn (DR gn k) w' base ao n cap rs := by
 obtain ⟨⟨vs, hrow, hall⟩, hl⟩ := h;refine ⟨⟨vs, hrow.grown hgr (Or.inr hne), fun i v hv => ?_⟩, hl⟩;obtain ⟨h1, h2⟩ := hall i v hv;refine ⟨h1.grown hgr (noLimb_some hnl) (fun g off e e2 => ?_), fun g off e => ?_⟩
 ·simp only [Option.some.injEq] at e2;exact (h2 g off e).1 e2.symm
 ·have h3 := h2 g off e;have h4 := hgr.size;rcases hat with e2 | e2 <;> exact ⟨by omega, by omega⟩
theorem dr_one {gd k : Nat} {w : World} {a : Option Addr} {l c : Nat} {q : List Int} (h : DR gd k w a l c q) : RowsOf (DR gd k) (w.alloc (.cells #[.slice a l c] 39)) (some ⟨w.heap.size, 0, none⟩) 1 1 [q] := by
 refine rowsOf_new (R := DR gd k) (vs := [(a, l, c)]) rfl rfl rfl (by simp) fun i a2 l2 c2 e => ?_
 match i with
 | 0 =>
  simp at e;obtain ⟨rfl, rfl, rfl⟩ := e;exact h.za (below_new w _)
 | i + 1 => simp at e
def RGramTo (N n Kc : Nat) (b : Nat → Nat → Int) (w : World) (e : Ending) (w' : World) : Prop := ∃ gd cd ag cg, e = .returned (.tuple #[.slice (some ⟨gd, 0, none⟩) (n + 1) cd, .slice ag n cg]) ∧ VF w' (some ⟨gd, 0, none⟩) (n + 1) cd (gramDs N b n) Kc ∧ MF w' ag n cg (gramGs N b n) Kc ∧ Below w.heap.size w w'
set_option maxRecDepth 40000 in
set_option maxHeartbeats 8000000 in
theorem refGramK (ao : Option Addr) (n cap : Nat) (rs : List (List Int)) (k0 N q Kc : Nat) (w : World) (h : MF w ao n cap rs k0) (hk : k0 ≤ 9000) (hn : n ≤ 100) (hN : ∀ i, i < n → (rs.getD i []).length ≤ N) (hN9 : N ≤ 1000) (hq : ∀ t, t < n → (dotN N (ent rs t) (ent rs t)).natAbs < Bp q) (hK : (n + 1) * q + 1 ≤ Kc) (hK2 : Kc ≤ 100000) (hK3 : 2 ≤ Kc) (hD : gramD N (ent rs) n ≠ 0) :
  Calls Tryz.prog 13 #[.slice ao n cap] w fun e w' => RGramTo N n Kc (ent rs) w e w' := by
 have hL := h.len_eq;obtain ⟨b, eb⟩ : ∃ b, b = ent rs := ⟨_, rfl⟩;rw [← eb] at hq hD ⊢;have EB := zh eb;have HN := zh hN;have HDA := zh (gramD_all hD);have HM : Hid (∀ t i j, t ≤ n → i < n → j < n → (gramM N b t i j).natAbs < Bp Kc) := zh fun t i j ht hi hj => by
  refine Nat.lt_of_lt_of_le (gramM_lt hq ht hi hj (by have := gramD_all hD t ht; omega)) (Bp_le ?_);have : (t + 1) * q ≤ (n + 1) * q := Nat.mul_le_mul_right _ (by omega);rw [Nat.add_mul, Nat.one_mul] at this;omega
 clear eb hN hq hK hD;go_enter Tryz.func13, Tryz.ntmps13
 go_wp2_with fail
 refine (rofK 1 _ (by omega) (by omega)).mono ?_;rintro e w1 ⟨b1, a1, l1, c1, rfl, h1, hb1⟩;have HB := zh hb1;clear hb1
 go_wp2_with fail
 obtain ⟨wj, hWe⟩ : ∃ W', W' = w1.alloc (.cells #[.bool b1, .slice a1 l1 c1] 45) := ⟨_, rfl⟩;have hd : OwnV wj w.heap.size (some ⟨w1.heap.size, 0, none⟩) 1 1 [1] Kc := by rw [hWe]; exact ownV_lit (h1.up (by omega)) (zu HB).size
 have hb9 : Below w1.heap.size w1 wj := by rw [hWe]; exact below_new _ _
 rw [← hWe];replace HB := zh (Below.step (zu HB) hb9);clear hWe h1 hb9;obtain ⟨gd0, eg0⟩ : ∃ gd0, gd0 = w1.heap.size := ⟨_, rfl⟩;rw [← eg0] at hd ⊢;clear eg0;go_loopw [5, 6, 4] (fun s t u wr => ∃ (i gd cd : Nat) (ag : Option Addr) (cg : Nat), i ≤ n ∧ s = .slice ag i cg ∧ t = .int .i64 (i : Int) ∧ u = .slice (some ⟨gd, 0, none⟩) (i + 1) cd ∧ OwnV wr w.heap.size (some ⟨gd, 0, none⟩) (i + 1) cd (gramDs N b i) Kc ∧ MOwn (DR gd Kc) wr w.heap.size ag i cg (gramGs N b i) ∧ Below w.heap.size w wr) (fun _ t _ _ => n - (intOf t).toNat)
 case atStart => exact ⟨0, gd0, 1, none, 0, Nat.zero_le _, rfl, rfl, rfl, hd, mOwn_nil _ _ _, zu HB⟩
 case round =>
  clear hd HB;obtain ⟨wo, ewo⟩ : ∃ x, x = wr := ⟨_, rfl⟩;rw [← ewo] at hrel ⊢;clear ewo;obtain ⟨i, gd, cd, ag, cg, hi, rfl, rfl, rfl, hd, hg, hB⟩ := hrel;have HBw := zh hB;clear hB;obtain ⟨i1, ei1⟩ : ∃ i1, i1 = i + 1 := ⟨_, rfl⟩;rw [← ei1] at hd ⊢;have EI1 := zh ei1;have hi01 : 0 < i1 := by omega
  clear ei1;by_cases hlt : i < n
  ·have hiI : (i : Int) < (n : Int) := by omega
   have hi0 : (0 : Int) ≤ (i : Int) := by omega
   go_wp2_with fail
   go_loopw [7, 8, 4] (fun s t u wr => (∃ (j : Nat) (ar : Option Addr) (cr : Nat) (ps : List Int), j ≤ i ∧ s = .slice ar j cr ∧ t = .int .i64 (j : Int) ∧ u = .slice (some ⟨gd, 0, none⟩) i1 cd ∧ OwnV wr wo.heap.size ar j cr ps Kc ∧ (∀ t, t < j → ps.getD t 0 = gramV N b i t) ∧ Below wo.heap.size wo wr) ∨ (∃ (gd2 cd2 : Nat) (ar : Option Addr) (cr : Nat), s = .slice ar i cr ∧ t = .int .i64 (i1 : Int) ∧ u = .slice (some ⟨gd2, 0, none⟩) (i1 + 1) cd2 ∧ OwnV wr w.heap.size (some ⟨gd2, 0, none⟩) (i1 + 1) cd2 (gramDs N b i1) Kc ∧ MOwn (DR gd2 Kc) wr w.heap.size ag i cg (gramGs N b i) ∧ DR gd2 Kc wr ar i cr (gramL N b i) ∧ Below w.heap.size w wr)) (fun _ t _ _ => i1 - (intOf t).toNat)
   case atStart => exact Or.inl ⟨0, none, 0, [], Nat.zero_le _, rfl, rfl, rfl, ownV_nil _ _ _, fun t ht => absurd ht (by omega), Below.refl _ _⟩
   case round =>
    obtain ⟨wm, ewm⟩ : ∃ x, x = wr := ⟨_, rfl⟩;rw [← ewm] at hrel ⊢;clear ewm;rcases hrel with ⟨j, ar, cr, ps, hj, rfl, rfl, rfl, hrow0, hps, hM0⟩ | ⟨gd2, cd2, ar, cr, rfl, rfl, rfl, hd2, hg2, hr2, hB2⟩
    ·have HPS := zh hps;have HM0 := zh hM0;have HDJ : Hid (gramD N b j ≠ 0) := zh (by have := zu HDA j (by omega); omega);clear hps hM0;have hjI0 : (0 : Int) ≤ (j : Int) := by omega
     have hjI1 : (j : Int) ≤ (i : Int) := by omega
     have hjnI : (j : Int) < (n : Int) := by omega
     obtain ⟨g, off, rfl⟩ := RowsOf.addr (R := fun w a l c zs => VF w a l c zs k0) h (by omega);have HBm := zh (Below.step (zu HBw) (zu HM0));obtain ⟨hg0, a5, l5, c5, hc5, hv5⟩ := RowsOf.at (R := fun w a l c zs => VF w a l c zs k0) h hlt;have x5 := ((zu HBm).cell (p := ⟨g, off + i, none⟩) hg0).trans hc5;have hgm := Nat.lt_of_lt_of_le hg0 (zu HBm).size;replace hv5 := hv5.za (zu HBm);obtain ⟨_, a6, l6, c6, hc6, hv6⟩ := RowsOf.at (R := fun w a l c zs => VF w a l c zs k0) h (show j < n by omega);have x6 := ((zu HBm).cell (p := ⟨g, off + j, none⟩) hg0).trans hc6;replace hv6 := hv6.za (zu HBm);have hdot : vdot (rs.getD i []) (rs.getD j []) = gramM N b 0 i j := by rw [gramM_zero, zu EB]; exact vdot_ent (zu HN j (by omega))
     have HDOT := zh hdot;have hl5 := hv5.len_eq;have hNi := zu HN i hlt;have HM00 := zh (zu HM 0 i j (Nat.zero_le _) hlt (by omega));clear hc5 hc6 hg0 hdot HBm;have HDT : Hid (∀ wz, Below wm.heap.size wm wz → Calls Tryz.prog 41 #[.slice a5 l5 c5, .slice a6 l6 c6] wz fun e w' => ∃ bu au lu cu, e = .returned (.agg #[.bool bu, .slice au lu cu]) ∧ FK w' bu au lu cu (gramM N b 0 i j) Kc ∧ Below wz.heap.size wz w') := zh fun wz HW => by
      refine (rvdotK a5 l5 c5 (rs.getD i []) k0 a6 l6 c6 (rs.getD j []) k0 wz ((hv5.za HW).vs (by omega)) ((hv6.za HW).vk (by omega)) (by omega) (by omega) (by omega)).mono ?_;rintro e w' ⟨b9, a9, l9, c9, rfl, h9, hb9⟩;rw [zu HDOT] at h9;exact ⟨_, _, _, _, rfl, ⟨h9.1, zu HM00⟩, hb9⟩
     clear HDOT HM00 hv5 hv6
     go_upto_region 10 with fail
     have HW : Below wm.heap.size wm wm.drew := (Below.refl _ _).drew;have HS := zh fun w' (HW : Below wm.heap.size wm w') => con2 ((HW.cell (p := ⟨g, off + i, none⟩) hgm).trans x5) ((HW.cell (p := ⟨g, off + j, none⟩) hgm).trans x6);refine zst HS HW 10 (by kernel_rfl) fun zH => ?_;obtain ⟨vd1, hvd⟩ : ∃ v, v = wm.drew := ⟨_, rfl⟩;rw [← hvd] at HW zH ⊢;clear hvd;refine zfl 0 rfl ?_;simp only [Act.put, aGet, aZero, aSet, aHead, aTail];refine zfl 1 rfl ?_;simp only [zP];refine ztm 2 rfl ?_;simp only [zP];refine ztm 3 rfl ?_;simp only [zP];refine zfl 4 rfl ?_;simp only [zP];refine zfl 5 rfl ?_;simp only [zP];refine ztm 6 rfl ?_;simp only [zP];refine ztm 7 rfl ?_;simp only [zP];refine znm (fun act0 hact0 => ?_);have HA := zh hact0;clear hact0;refine zmd 1 #[tT, tT, tT, tT, tT, tT, tT, tT, tT, tT, tF] (ι := Bool × Option Addr × Nat × Nat × Nat) (fun (bu, au, lu, cu, g9) => ((act0.put (some 34) (.agg #[.bool bu, .slice au lu cu])).put (some 9) ((.pointer (some ⟨g9, 0, none⟩))))) (fun (bu, au, lu, cu, g9) wz => Below wm.heap.size wm wz ∧ FK wz bu au lu cu (gramM N b 0 i j) Kc ∧ Box wz g9 false none 0 0 ∧ wm.heap.size ≤ g9) ?_ (fun J0 => ?_)
     ·rintro ⟨bu, au, lu, cu, g9⟩ wj hI
      try dsimp only at hI ⊢
      obtain ⟨HW, hu, BU0, hg9⟩ := hI;have zH := zu HS _ HW;rw [zu HA];simp only [Act.put, aSet, aHead, aTail];obtain ⟨q1BU0, q2BU0, q3BU0, q4BU0⟩ := BU0.zb;have hltBU0 := BU0.lt;refine tout 10 rfl fun K hK => ?_;go_simp;refine hK.out _ _ ?_;clear hK K
      try simp only [aSet, aHead, aTail]
      refine zdn (by kernel_rfl) ?_ _;have nU := BU0.noLimb;obtain ⟨wk9, hWe⟩ : ∃ W', W' = put wj g9 bu au lu cu := ⟨_, rfl⟩;have e9 : (wj.setCell ⟨g9, 0, none⟩ (.bool bu)).setCell ⟨g9, 1, none⟩ (.slice au lu cu) = wk9 := by rw [hWe]; rfl
      rw [e9];have BUs : Box wk9 g9 bu au lu cu := by rw [hWe]; exact BU0.put bu au lu cu
      have hus : FK wk9 bu au lu cu (gramM N b 0 i j) Kc := by rw [hWe]; exact hu.put nU bu au lu cu
      have HCs : Hid (Below wm.heap.size wm wk9) := zh (by rw [hWe]; exact below_put HW hg9 bu au lu cu);clear hWe e9 nU BU0 hu HW zH q1BU0 q2BU0 q3BU0 q4BU0 hltBU0 x5 x6;obtain ⟨wu, ewu⟩ : ∃ wu, wu = wm := ⟨_, rfl⟩;rw [← ewu] at HCs hg9;have hrow : OwnV wu wo.heap.size ar j cr ps Kc := by rw [ewu]; exact hrow0
      have HBo : Hid (Below wo.heap.size wo wu) := zh (by rw [ewu]; exact zu HM0);have hdW : OwnV wu w.heap.size (some ⟨gd, 0, none⟩) i1 cd (gramDs N b i) Kc := by rw [ewu]; exact hd.za (zu HM0)
      clear ewu
      go_wp2_with fail
      go_loopw [10] (fun t wr => ∃ (k : Nat) (bu : Bool) (au : Option Addr) (lu cu : Nat), k ≤ j ∧ t = .int .i64 (k : Int) ∧ Box wr g9 bu au lu cu ∧ FK wr bu au lu cu (gramM N b k i j) Kc ∧ Below wu.heap.size wu wr) (fun t _ => j - (intOf t).toNat)
      case atStart => exact ⟨0, _, _, _, _, Nat.zero_le _, by go_num, BUs, hus, zu HCs⟩
      case round =>
       clear BUs hus HCs;obtain ⟨k, bu, au, lu, cu, hkj0, rfl, BU, hu, hBk⟩ := hrel;have HC := zh hBk;have HC2 := zh (Below.step (zu HBo) hBk);clear hBk;by_cases hkj : k < j
       ·have hkI : (k : Int) < (j : Int) := by omega
        have hk0 : (0 : Int) ≤ (k : Int) := by omega
        obtain ⟨k1, ek1⟩ : ∃ k1, k1 = k + 1 := ⟨_, rfl⟩;have EK := zh ek1;have hwk : IntKind.i64.wrap ((k : Int) + 1) = (k1 : Int) := by rw [IntKind.wrap_i64]; omega
        have hk1I : (k1 : Int) < (i1 : Int) := by have := zu EI1; omega
        have hk1I0 : (0 : Int) ≤ (k1 : Int) := by omega
        have hkI1 : (k : Int) < (i1 : Int) := by have := zu EI1; omega
        have hst := share_step (zu HDJ) hkj i j;have HD0 := zh hst.1;have HST := zh hst.2;have HMB := zh (zu HM (k + 1) i j (by omega) hlt (by omega));clear hst ek1
        go_wp2_with fail
        refine (rofK 0 _ (by omega) (by omega)).mono ?_;rintro e w5 ⟨b5, a5, l5, c5, rfl, h5, hb9⟩;replace BU := BU.za hb9;replace hu := hu.za hb9;replace HC := zh (Below.step (zu HC) hb9);clear hb9
        go_upto_region 16 with fail
        obtain ⟨W1, hWe⟩ : ∃ W', W' = w5.alloc (.cells #[.bool b5, .slice a5 l5 c5] 45) := ⟨_, rfl⟩;obtain ⟨BX, hb9⟩ := boxes1 w5 b5 a5 l5 c5 hWe;rw [← hWe];clear hWe h5;have hgxu : g9 ≠ w5.heap.size := by have := BU.lt; omega
        have hgxw : wu.heap.size ≤ w5.heap.size := (zu HC).size;replace BU := BU.za hb9;replace hu := hu.za hb9;replace HC := zh (Below.step (zu HC) hb9);clear hb9;obtain ⟨gx, egx⟩ : ∃ gx, gx = w5.heap.size := ⟨_, rfl⟩;rw [← egx] at BX hgxu hgxw ⊢;clear egx;have hrW := (hrow.za (zu HC));obtain ⟨gr, rfl⟩ := hrW.form (show 0 < j by omega);obtain ⟨bx, ax, lx, cx, EX, hx⟩ := hrW.vf.at hkj;rw [Nat.zero_add] at EX;rw [zu HPS k hkj] at hx;obtain ⟨f1, f2⟩ := EX.zb;have hfl := EX.1;obtain ⟨q1, q2, q3, q4⟩ := BX.zb;have hs0 := BX.lt
        go_upto_region 17 with fail
        obtain ⟨W2, hWe⟩ : ∃ W', W' = put W1 gx bx ax lx cx := ⟨_, rfl⟩;have e9 : (W1.setCell ⟨gx, 0, none⟩ (.bool bx)).setCell ⟨gx, 1, none⟩ (.slice ax lx cx) = W2 := by rw [hWe]; rfl
        rw [e9];have hnl := BX.noLimb;replace BU : Box W2 g9 bu au lu cu := by rw [hWe]; exact BU.other (g' := gx) hgxu bx ax lx cx
        replace hu : FK W2 bu au lu cu (gramM N b k i j) Kc := by rw [hWe]; exact hu.put hnl bx ax lx cx
        replace hx : FK W2 bx ax lx cx (gramV N b i k) Kc := by rw [hWe]; exact hx.put hnl bx ax lx cx
        replace BX : Box W2 gx bx ax lx cx := by rw [hWe]; exact BX.put bx ax lx cx
        replace HC : Hid (Below wu.heap.size wu W2) := zh (by rw [hWe]; exact below_put (zu HC) hgxw bx ax lx cx);clear hWe e9 hnl f1 f2 hfl q1 q2 q3 q4 hs0 EX hrW;obtain ⟨f1, f2, _, _⟩ := BX.zb;have hfl := BX.lt
        go_upto_region 18 with fail
        obtain ⟨W3, hWe⟩ : ∃ W', W' = W2.alloc (.cells #[.bool bx, .slice ax lx cx] 45) := ⟨_, rfl⟩;obtain ⟨BY, hb9⟩ := boxes1 W2 bx ax lx cx hWe;rw [← hWe];clear hWe f1 f2;have hgyu : g9 ≠ W2.heap.size := by have := BU.lt; omega
        have hgyx : gx ≠ W2.heap.size := by omega
        have hgyw : wu.heap.size ≤ W2.heap.size := (zu HC).size;replace BU := BU.za hb9;replace BX := BX.za hb9;replace hu := hu.za hb9;replace hx := hx.za hb9;replace HC := zh (Below.step (zu HC) hb9);clear hb9 hfl;obtain ⟨gy, egy⟩ : ∃ gy, gy = W2.heap.size := ⟨_, rfl⟩;rw [← egy] at BY hgyu hgyx hgyw ⊢;clear egy;by_cases hji : j < i
        ·have hjI : (j : Int) < (i : Int) := by omega
         replace HC2 : Hid (Below wo.heap.size wo W3) := zh (Below.step (zu HBo) (zu HC));obtain ⟨gg, og, rfl⟩ := RowsOf.addr (R := DR gd Kc) (MOwn.rows hg) (by omega);obtain ⟨hgg, aj, lj, cj, xg, hgj⟩ := RowsOf.at (R := DR gd Kc) (MOwn.rows hg) hji;have hgjW := hgj.1.za (zu HC2);have xgW := ((zu HC2).cell (p := ⟨gg, og + j, none⟩) hgg).trans xg;have hggW := Nat.lt_of_lt_of_le hgg (zu HC2).size;have hlj : lj = j := by rw [← hgj.1.len_eq, gramGs_at hji, gramL_len]
         subst hlj;have hljI : (k : Int) < (lj : Int) := hkI;obtain ⟨g3, o3, rfl⟩ := hgjW.some (by omega);obtain ⟨by1, ay, ly, cy, EY, hy⟩ := hgjW.at hkj;rw [gramGs_at hji, gramL_at hkj] at hy;obtain ⟨f1, f2⟩ := EY.zb;have hfl := EY.1;obtain ⟨q1, q2, q3, q4⟩ := BY.zb;have hs0 := BY.lt
         go_upto_region 20 with fail
         obtain ⟨W4, hWe⟩ : ∃ W', W' = put W3 gy by1 ay ly cy := ⟨_, rfl⟩;have e9 : (W3.setCell ⟨gy, 0, none⟩ (.bool by1)).setCell ⟨gy, 1, none⟩ (.slice ay ly cy) = W4 := by rw [hWe]; rfl
         rw [e9];have hnl := BY.noLimb;replace BU : Box W4 g9 bu au lu cu := by rw [hWe]; exact BU.other (g' := gy) hgyu by1 ay ly cy
         replace BX : Box W4 gx bx ax lx cx := by rw [hWe]; exact BX.other (g' := gy) hgyx by1 ay ly cy
         replace hu : FK W4 bu au lu cu (gramM N b k i lj) Kc := by rw [hWe]; exact hu.put hnl by1 ay ly cy
         replace hx : FK W4 bx ax lx cx (gramV N b i k) Kc := by rw [hWe]; exact hx.put hnl by1 ay ly cy
         replace hy : FK W4 by1 ay ly cy (gramV N b lj k) Kc := by rw [hWe]; exact hy.put hnl by1 ay ly cy
         replace BY : Box W4 gy by1 ay ly cy := by rw [hWe]; exact BY.put by1 ay ly cy
         replace HC : Hid (Below wu.heap.size wu W4) := zh (by rw [hWe]; exact below_put (zu HC) hgyw by1 ay ly cy);clear hWe e9 hnl f1 f2 hfl q1 q2 q3 q4 hs0 EY hgjW xgW hggW;obtain ⟨b1, a1, l1, c1, E1, y1⟩ := (hdW.za (zu HC)).vf.at (show k1 < i1 by have := zu EK; have := zu EI1; omega);obtain ⟨b2, a2, l2, c2, E2, y2⟩ := (hdW.za (zu HC)).vf.at (show k < i1 by have := zu EI1; omega);rw [Nat.zero_add] at E1 E2;rw [gramDs_at (show k1 ≤ i by have := zu EK; omega), zu EK] at y1;rw [gramDs_at (show k ≤ i by omega)] at y2;have L1 := y1.len_le;have L2 := hu.len_le;have L3 := hx.len_le;have L4 := hy.len_le;have HW : Below W4.heap.size W4 W4.drew := (Below.refl _ _).drew;have HS := zh fun w' (HW : Below W4.heap.size W4 w') => con10 (E1.za HW).zb.1 (E1.za HW).zb.2 (E2.za HW).zb.1 (E2.za HW).zb.2 (BU.za HW).zb.1 (BU.za HW).zb.2.1 (BX.za HW).zb.1 (BX.za HW).zb.2.1 (BY.za HW).zb.1 (BY.za HW).zb.2.1;refine zst HS HW 19 (by kernel_rfl) fun zH => ?_;refine ztl 0 rfl ?_;simp only [Act.put, aGet, aZero, aSet, aHead, aTail];refine ztl 1 rfl ?_;simp only [zP];refine ztl 2 rfl ?_;simp only [zP];refine ztl 3 rfl ?_;simp only [zP];refine ztl 4 rfl ?_;simp only [zP];refine ztl 5 rfl ?_;simp only [zP];refine ztl 7 rfl ?_;simp only [zP];refine ztl 8 rfl ?_;simp only [zP];refine ztl 11 rfl ?_;simp only [zP];refine ztl 12 rfl ?_;simp only [zP];refine ztl 13 rfl ?_;simp only [zP];refine ztl 14 rfl ?_;simp only [zP];refine tin 6 rfl fun K hK => ?_;go_simp;refine (rmulK b1 a1 l1 c1 (gramD N b (k + 1)) Kc bu au lu cu (gramM N b k i lj) Kc _ ((y1.za HW).ik (by omega)) ((hu.za HW).ik (by omega)) (by omega)).mono ?_;rintro e w9 ⟨b6, a6, l6, c6, rfl, h6, hb9⟩;replace HW := Below.step HW hb9;clear hb9;refine hK.out _ _ ?_ (fun zH => ?_)
         ·exact zu HS _ HW
         clear hK K
         try simp only [zP]
         refine tin 9 rfl fun K hK => ?_;go_simp;refine (rmulK bx ax lx cx (gramV N b i k) Kc by1 ay ly cy (gramV N b lj k) Kc _ ((hx.za HW).ik (by omega)) ((hy.za HW).ik (by omega)) (by omega)).mono ?_;rintro e w9 ⟨b7, a7, l7, c7, rfl, h7, hb9⟩;replace HW := Below.step HW hb9;replace h6 := h6.za hb9;clear hb9;refine hK.out _ _ ?_ (fun zH => ?_)
         ·exact zu HS _ HW
         clear hK K
         try simp only [zP]
         refine tin 10 rfl fun K hK => ?_;go_simp;refine (rsubK b6 a6 l6 c6 (gramD N b (k + 1) * gramM N b k i lj) (Kc + Kc) b7 a7 l7 c7 (gramV N b i k * gramV N b lj k) (Kc + Kc) _ (h6.ik (by omega)) (h7.ik (by omega))).mono ?_;rintro e w9 ⟨b8, a8, l8, c8, rfl, h8, hb9⟩;replace HW := Below.step HW hb9;clear hb9 h6 h7;rw [Nat.max_self] at h8;refine hK.out _ _ ?_ (fun zH => ?_)
         ·exact zu HS _ HW
         clear hK K
         try simp only [zP]
         refine tin 15 rfl fun K hK => ?_;go_simp;refine (rquoK b8 a8 l8 c8 (gramD N b (k + 1) * gramM N b k i lj - gramV N b i k * gramV N b lj k) (Kc + Kc + 1) b2 a2 l2 c2 (gramD N b k) Kc _ (h8.ik (by omega)) ((y2.za HW).ik (by omega)) (zu HD0)).mono ?_;rintro e w9 ⟨ba, aa, la, ca, bb, ab, lb, cb, rfl, ha, hbb, hb9⟩;replace HW := Below.step HW hb9;clear hb9 h8 hbb;refine hK.out _ _ ?_ (fun zH => ?_)
         ·exact zu HS _ HW
         clear hK K
         try simp only [zP]
         refine ztl 16 rfl ?_;simp only [zP];refine ztl 17 rfl ?_;simp only [zP];refine till_fr (i := 18) (v := ?_) rfl (Or.inl ⟨by rfl, ?_⟩) ?_
         rotate_left
         ·(intro w hSw; (try dsimp only at hSw); go_simp; try with_reducible rfl)
         simp only [zP];obtain ⟨q1, q2, q3, q4⟩ := (BU.za HW).zb;have hs0 := (BU.za HW).lt;refine tout 19 rfl fun K hK => ?_;go_simp;refine hK.out _ _ ?_;clear hK K
         try simp only [zP]
         refine zdn (by kernel_rfl) ?_ _;clear zH q1 q2 q3 q4 hs0;have hnl := (BU.za HW).noLimb;have hF : (gramD N b (k + 1) * gramM N b k i lj - gramV N b i k * gramV N b lj k).tdiv (gramD N b k) = gramM N b (k + 1) i lj := by rw [← zu HST]; exact Int.mul_tdiv_cancel_left _ (zu HD0)
         rw [hF] at ha;replace ha : FK w9 ba aa la ca (gramM N b (k + 1) i lj) Kc := ⟨ha.1, zu HMB⟩;have BU9 := (BU.za HW).put ba aa la ca;have h9 := ha.put hnl ba aa la ca;have HB9 := zh (below_put ((zu HC).trans (HW.mono (zu HC).size)) hg9 ba aa la ca);have e9 : (w9.setCell ⟨g9, 0, none⟩ (.bool ba)).setCell ⟨g9, 1, none⟩ (.slice aa la ca) = put w9 g9 ba aa la ca := rfl;rw [e9];obtain ⟨wz, ewz⟩ : ∃ wz, wz = put w9 g9 ba aa la ca := ⟨_, rfl⟩;rw [← ewz] at BU9 h9 HB9 ⊢;clear ewz e9 HW hnl ha hF BU BX BY E1 E2 y1 y2 hu hx hy HC;go_wp2;go_roundw
         case rel =>
          have hx9 := h9;rw [← zu EK] at hx9;have hx7 := zu HB9
          first
           | exact ⟨k1, _, _, _, _, by have := zu EK; omega, by go_num, BU9, hx9, hx7⟩
           | (rw [hji2] at hx9; exact ⟨k1, by have := zu EK; omega, by first | rfl | go_num, by cases ba; exact Or.inl ⟨_, _, _, BU9, hx9, hx7⟩; exact Or.inr ⟨_, _, _, BU9, hx9, hx7⟩⟩)
         case measure => simp [intOf]; have := zu EK; omega
        ·have hji2 : j = i := by omega
         have hjI : ¬ (j : Int) < (i : Int) := by omega
         have hy : FK W3 bx ax lx cx (gramV N b j k) Kc := by rw [hji2]; exact hx
         go_upto_region 20 with fail
         obtain ⟨W4, eW4⟩ : ∃ W', W' = W3 := ⟨_, rfl⟩;rw [← eW4] at BU BX BY hu hx hy HC ⊢;clear eW4;obtain ⟨b1, a1, l1, c1, E1, y1⟩ := (hdW.za (zu HC)).vf.at (show k1 < i1 by have := zu EK; have := zu EI1; omega);obtain ⟨b2, a2, l2, c2, E2, y2⟩ := (hdW.za (zu HC)).vf.at (show k < i1 by have := zu EI1; omega);rw [Nat.zero_add] at E1 E2;rw [gramDs_at (show k1 ≤ i by have := zu EK; omega), zu EK] at y1;rw [gramDs_at (show k ≤ i by omega)] at y2;have L1 := y1.len_le;have L2 := hu.len_le;have L3 := hx.len_le;have L4 := hy.len_le;have HW : Below W4.heap.size W4 W4.drew := (Below.refl _ _).drew;have HS := zh fun w' (HW : Below W4.heap.size W4 w') => con10 (E1.za HW).zb.1 (E1.za HW).zb.2 (E2.za HW).zb.1 (E2.za HW).zb.2 (BU.za HW).zb.1 (BU.za HW).zb.2.1 (BX.za HW).zb.1 (BX.za HW).zb.2.1 (BY.za HW).zb.1 (BY.za HW).zb.2.1;refine zst HS HW 19 (by kernel_rfl) fun zH => ?_;refine ztl 0 rfl ?_;simp only [Act.put, aGet, aZero, aSet, aHead, aTail];refine ztl 1 rfl ?_;simp only [zP];refine ztl 2 rfl ?_;simp only [zP];refine ztl 3 rfl ?_;simp only [zP];refine ztl 4 rfl ?_;simp only [zP];refine ztl 5 rfl ?_;simp only [zP];refine ztl 7 rfl ?_;simp only [zP];refine ztl 8 rfl ?_;simp only [zP];refine ztl 11 rfl ?_;simp only [zP];refine ztl 12 rfl ?_;simp only [zP];refine ztl 13 rfl ?_;simp only [zP];refine ztl 14 rfl ?_;simp only [zP];refine tin 6 rfl fun K hK => ?_;go_simp;refine (rmulK b1 a1 l1 c1 (gramD N b (k + 1)) Kc bu au lu cu (gramM N b k i j) Kc _ ((y1.za HW).ik (by omega)) ((hu.za HW).ik (by omega)) (by omega)).mono ?_;rintro e w9 ⟨b6, a6, l6, c6, rfl, h6, hb9⟩;replace HW := Below.step HW hb9;clear hb9;refine hK.out _ _ ?_ (fun zH => ?_)
         ·exact zu HS _ HW
         clear hK K
         try simp only [zP]
         refine tin 9 rfl fun K hK => ?_;go_simp;refine (rmulK bx ax lx cx (gramV N b i k) Kc bx ax lx cx (gramV N b j k) Kc _ ((hx.za HW).ik (by omega)) ((hy.za HW).ik (by omega)) (by omega)).mono ?_;rintro e w9 ⟨b7, a7, l7, c7, rfl, h7, hb9⟩;replace HW := Below.step HW hb9;replace h6 := h6.za hb9;clear hb9;refine hK.out _ _ ?_ (fun zH => ?_)
         ·exact zu HS _ HW
         clear hK K
         try simp only [zP]
         refine tin 10 rfl fun K hK => ?_;go_simp;refine (rsubK b6 a6 l6 c6 (gramD N b (k + 1) * gramM N b k i j) (Kc + Kc) b7 a7 l7 c7 (gramV N b i k * gramV N b j k) (Kc + Kc) _ (h6.ik (by omega)) (h7.ik (by omega))).mono ?_;rintro e w9 ⟨b8, a8, l8, c8, rfl, h8, hb9⟩;replace HW := Below.step HW hb9;clear hb9 h6 h7;rw [Nat.max_self] at h8;refine hK.out _ _ ?_ (fun zH => ?_)
         ·exact zu HS _ HW
         clear hK K
         try simp only [zP]
         refine tin 15 rfl fun K hK => ?_;go_simp;refine (rquoK b8 a8 l8 c8 (gramD N b (k + 1) * gramM N b k i j - gramV N b i k * gramV N b j k) (Kc + Kc + 1) b2 a2 l2 c2 (gramD N b k) Kc _ (h8.ik (by omega)) ((y2.za HW).ik (by omega)) (zu HD0)).mono ?_;rintro e w9 ⟨ba, aa, la, ca, bb, ab, lb, cb, rfl, ha, hbb, hb9⟩;replace HW := Below.step HW hb9;clear hb9 h8 hbb;refine hK.out _ _ ?_ (fun zH => ?_)
         ·exact zu HS _ HW
         clear hK K
         try simp only [zP]
         refine ztl 16 rfl ?_;simp only [zP];refine ztl 17 rfl ?_;simp only [zP];refine till_fr (i := 18) (v := ?_) rfl (Or.inl ⟨by rfl, ?_⟩) ?_
         rotate_left
         ·(intro w hSw; (try dsimp only at hSw); go_simp; try with_reducible rfl)
         simp only [zP];obtain ⟨q1, q2, q3, q4⟩ := (BU.za HW).zb;have hs0 := (BU.za HW).lt;refine tout 19 rfl fun K hK => ?_;go_simp;refine hK.out _ _ ?_;clear hK K
         try simp only [zP]
         refine zdn (by kernel_rfl) ?_ _;clear zH q1 q2 q3 q4 hs0;have hnl := (BU.za HW).noLimb;have hF : (gramD N b (k + 1) * gramM N b k i j - gramV N b i k * gramV N b j k).tdiv (gramD N b k) = gramM N b (k + 1) i j := by rw [← zu HST]; exact Int.mul_tdiv_cancel_left _ (zu HD0)
         rw [hF] at ha;replace ha : FK w9 ba aa la ca (gramM N b (k + 1) i j) Kc := ⟨ha.1, zu HMB⟩;have BU9 := (BU.za HW).put ba aa la ca;have h9 := ha.put hnl ba aa la ca;have HB9 := zh (below_put ((zu HC).trans (HW.mono (zu HC).size)) hg9 ba aa la ca);have e9 : (w9.setCell ⟨g9, 0, none⟩ (.bool ba)).setCell ⟨g9, 1, none⟩ (.slice aa la ca) = put w9 g9 ba aa la ca := rfl;rw [e9];obtain ⟨wz, ewz⟩ : ∃ wz, wz = put w9 g9 ba aa la ca := ⟨_, rfl⟩;rw [← ewz] at BU9 h9 HB9 ⊢;clear ewz e9 HW hnl ha hF BU BX BY E1 E2 y1 y2 hu hx hy HC;go_wp2;go_roundw
         case rel =>
          have hx9 := h9;rw [← zu EK] at hx9;have hx7 := zu HB9
          first
           | exact ⟨k1, _, _, _, _, by have := zu EK; omega, by go_num, BU9, hx9, hx7⟩
           | (rw [hji2] at hx9; exact ⟨k1, by have := zu EK; omega, by first | rfl | go_num, by cases ba; exact Or.inl ⟨_, _, _, BU9, hx9, hx7⟩; exact Or.inr ⟨_, _, _, BU9, hx9, hx7⟩⟩)
         case measure => simp [intOf]; have := zu EK; omega
       ·have hkj2 : k = j := by omega
        subst hkj2;have hkk : ¬ (k : Int) < (k : Int) := by omega
        have huv := hu;obtain ⟨f1, f2, _, _⟩ := BU.zb;have hfl := BU.lt;have hrW := hrow.za (zu HC);have HBU := zh (Below.step (zu HBw) (zu HC2));by_cases hji : k < i
        ·have hjI : (k : Int) < (i : Int) := by omega
         obtain ⟨W6, hW6⟩ : ∃ W6, W6 = wr.alloc (.cells #[.bool bu, .slice au lu cu] 45) := ⟨_, rfl⟩;obtain ⟨D6, hb9⟩ := boxes1 wr bu au lu cu hW6;have hE6 : EltAt W6 wr.heap.size 0 bu au lu cu := ⟨D6.lt, D6.zb.1, D6.zb.2.1⟩;have hu6 := hu.za hb9;have hr6 := hrW.za hb9;have HC6 := zh (Below.step (zu HC2) hb9);have hszA := (zu HC6).size;clear hb9 D6;rw [hW6] at hE6 hu6 hr6 hszA
         go_wp2_with (at_builtin; refine append_vec rfl (.tmp 81) (.tmp 83) 39 Tryz.underlying39 rfl wo.heap.size ar k cr Kc ps rfl hr6 (by omega) hszA wr.heap.size 0 1 bu au lu cu (gramM N b k i k) rfl hE6 hu6 ?_)
         intro gn cn w7 hr7 hgr hat;rw [← hW6] at hgr hr6 hszA;have HD7 := zh ((zu HC6).grown hgr hszA (own_ge hr6));have hpl := hr6.len;clear hgr hat hE6 hu6 hszA hW6 hr6 hrW f1 f2 hfl BU hu huv HC HC2 HBU HC6;go_wp2;go_roundw
         case rel =>
          refine Or.inl ⟨k + 1, some ⟨gn, 0, none⟩, cn, ps ++ [gramM N b k i k], by omega, rfl, by go_num, rfl, hr7, fun t ht => ?_, zu HD7⟩;by_cases c : t < k
          ·rw [show (ps ++ [gramM N b k i k]).getD t 0 = ps.getD t 0 by simp [List.getD, List.getElem?_append_left (show t < ps.length by omega)]];exact zu HPS t c
          ·obtain rfl : t = k := by omega
           rw [show (ps ++ [gramM N b t i t]).getD t 0 = gramM N b t i t by rw [← hpl]; simp [List.getD]];exact (gramV_pos (zu HDJ)).symm
         case measure => simp [intOf]; have := zu EI1; omega
        ·have hki : k = i := by omega
         subst hki;have hps : ps = gramL N b k := vec_ext (by rw [hrow.len, gramL_len]) fun t ht => by rw [hrow.len] at ht; rw [zu HPS t ht, gramL_at ht]
         subst hps;obtain ⟨W6, hW6⟩ : ∃ W6, W6 = wr.alloc (.cells #[.bool bu, .slice au lu cu] 45) := ⟨_, rfl⟩;obtain ⟨D6, hb9⟩ := boxes1 wr bu au lu cu hW6;have hs6 : W6.heap.size = wr.heap.size + 1 := by rw [hW6]; simp
         have hE6 : EltAt W6 wr.heap.size 0 bu au lu cu := ⟨D6.lt, D6.zb.1, D6.zb.2.1⟩;have hu6 : FK W6 bu au lu cu (gramD N b (k + 1)) Kc := by rw [gramD_next (zu HDJ)]; exact hu.za hb9
         have hr6 := hrW.za hb9;have hd6 := (hd.za (zu HC2)).za hb9;have hg6 := ((hg.laterD (zu HC2))).laterD hb9;have HB6 := zh (Below.step (zu HBU) hb9);have hszA := (zu HB6).size;have hgdo := hd.base_le.2;have hwo6 := (Below.step (zu HC2) hb9).size;clear hb9 D6;rw [hW6] at hE6 hu6 hd6 hszA
         go_wp2_with (at_builtin; refine append_vec rfl (.tmp 85) (.tmp 87) 29 Tryz.underlying29 rfl w.heap.size (some ⟨gd, 0, none⟩) i1 cd Kc (gramDs N b k) rfl hd6 (by have := zu EI1; omega) hszA wr.heap.size 0 1 bu au lu cu (gramD N b (k + 1)) rfl hE6 hu6 ?_)
         intro gn cn w7 hd7 hgr hat;rw [← hW6] at hgr hd6 hszA;have hnl := hd6.noLimb;have hgr' : W6.grownBy w7 (some gd) := hgr;have hat2 : gn = gd ∨ gn = W6.heap.size := by
          rcases hat with e | e
          ·exact Or.inl e.symm
          ·exact Or.inr (by rw [hs6]; exact e)
         have hg7 := mown_dapp hg6 hgr' hnl (mown_ne hg6 hd6 hi01) hat2;have HB7 := zh ((zu HB6).grown hgr hszA (own_ge hd6));have hrd : DR gn Kc w7 ar k cr (gramL N b k) := by
          refine ⟨hr6.vf.grown hgr' (noLimb_some hnl) (fun g off e e2 => ?_), fun g off e => ?_⟩
          ·subst e;have h1 := hr6.base_le.1;simp only [Option.some.injEq] at e2;omega
          ·subst e;have h1 := hr6.base_le;have h2 := hgr'.size;rcases hat2 with e2 | e2 <;> exact ⟨by omega, by omega⟩
         rw [← gramDs_next] at hd7;clear hgr hgr' hat hat2 hE6 hu6 hszA hW6 hr6 hd6 hg6 hnl hrW f1 f2 hfl BU hu huv HC HC2 HBU HB6 hs6;go_wp2;go_roundw
         case rel => exact Or.inr ⟨gn, cn, ar, cr, rfl, by have := zu EI1; go_num, by rw [zu EI1], by rw [zu EI1] at hd7 ⊢; exact hd7, hg7, hrd, zu HB7⟩
         case measure => simp [intOf]; have := zu EI1; omega
     refine zmd 2 #[tT, tT, tT, tT, tT, tT, tT, tT, tF, tT, tF] (ι := Nat) (fun g9 => (act0.put (some 9) ((.pointer (some ⟨g9, 0, none⟩))))) (fun g9 wz => Below wm.heap.size wm wz ∧ Box wz g9 false none 0 0 ∧ wm.heap.size ≤ g9) ?_ (fun J1 => ?_)
     ·rintro g9 wj hI
      try dsimp only at hI ⊢
      obtain ⟨HW, BU0, hg9⟩ := hI;have zH := zu HS _ HW;rw [zu HA];simp only [Act.put, aSet, aHead, aTail];refine tin 8 rfl fun K hK => ?_;go_simp;refine (zu HDT _ HW).mono ?_;rintro e wk ⟨bu, au, lu, cu, rfl, hu, hb9⟩;replace HW := Below.step HW hb9;replace BU0 := BU0.za hb9;clear hb9;refine hK.out _ _ ?_ (fun zH => ?_)
      ·exact zu HS _ HW
      clear hK K
      try simp only [aSet, aHead, aTail]
      exact tgo J0 (bu, au, lu, cu, g9) (by (try dsimp only); rw [zu HA]; first | (simp only [Act.put, aSet, aHead, aTail]; done) | simp [Act.put]) (by (try dsimp only); exact ⟨HW, hu, BU0, hg9⟩)
     refine zmd 2 #[tT, tT, tT, tT, tT, tT, tT, tT, tT, tF, tF] (ι := Bool × Option Addr × Nat × Nat) (fun (bu, au, lu, cu) => (act0.put (some 34) (.agg #[.bool bu, .slice au lu cu]))) (fun (bu, au, lu, cu) wz => Below wm.heap.size wm wz ∧ FK wz bu au lu cu (gramM N b 0 i j) Kc) ?_ (fun J2 => ?_)
     ·rintro ⟨bu, au, lu, cu⟩ wj hI
      try dsimp only at hI ⊢
      obtain ⟨HW, hu⟩ := hI;have zH := zu HS _ HW;rw [zu HA];simp only [Act.put, aSet, aHead, aTail];refine tin 9 rfl fun K hK => ?_;go_simp;have hwk : wm.heap.size ≤ wj.heap.size := HW.size;obtain ⟨wk, hWe⟩ := newB wj;obtain ⟨BU0, hb9⟩ := boxes1 wj false none 0 0 hWe;rw [← hWe];clear hWe;replace HW := Below.step HW hb9;replace hu := hu.za hb9;clear hb9;have hg9 := hwk;refine hK.out _ _ ?_ (fun zH => ?_)
      ·exact zu HS _ HW
      clear hK K
      try simp only [aSet, aHead, aTail]
      exact tgo J0 (bu, au, lu, cu, wj.heap.size) (by (try dsimp only); rw [zu HA]; first | (simp only [Act.put, aSet, aHead, aTail]; done) | simp [Act.put]) (by (try dsimp only); exact ⟨HW, hu, BU0, hg9⟩)
     rw [zu HA];refine ttwo 8 9 rfl rfl (fun K hK => ?_) (fun K hK => ?_)
     ·go_simp;refine (zu HDT _ HW).mono ?_;rintro e wk ⟨bu, au, lu, cu, rfl, hu, hb9⟩;replace HW := Below.step HW hb9;clear hb9;refine hK.out _ _ ?_ (fun zH => ?_)
      ·exact zu HS _ HW
      clear hK K
      try simp only [aSet, aHead, aTail]
      exact tgo J2 (bu, au, lu, cu) (by (try dsimp only); rw [zu HA]; first | (simp only [Act.put, aSet, aHead, aTail]; done) | simp [Act.put]) (by (try dsimp only); exact ⟨HW, hu⟩)
     ·go_simp;have hwk : wm.heap.size ≤ vd1.heap.size := HW.size;obtain ⟨wk, hWe⟩ := newB vd1;obtain ⟨BU0, hb9⟩ := boxes1 vd1 false none 0 0 hWe;rw [← hWe];clear hWe;replace HW := Below.step HW hb9;clear hb9;have hg9 := hwk;refine hK.out _ _ ?_ (fun zH => ?_)
      ·exact zu HS _ HW
      clear hK K
      try simp only [aSet, aHead, aTail]
      exact tgo J1 vd1.heap.size (by (try dsimp only); rw [zu HA]; first | (simp only [Act.put, aSet, aHead, aTail]; done) | simp [Act.put]) (by (try dsimp only); exact ⟨HW, BU0, hg9⟩)
    ·have hii : ¬ (i1 : Int) ≤ (i : Int) := by have := zu EI1; omega
     obtain ⟨W6, hW6⟩ : ∃ W6, W6 = wm.alloc (.cells #[.slice ar i cr] 39) := ⟨_, rfl⟩;have hb9 : Below wm.heap.size wm W6 := by rw [hW6]; exact below_new _ _
     have hone := dr_one hr2;have hg6 := hg2.laterD hb9;have hd6 := hd2.za hb9;have HB6 := zh (Below.step hB2 hb9);have hszA := (zu HB6).size;clear hb9 hr2 hg2 hd2 hB2 hd hg;rw [hW6] at hg6 hszA
     go_wp2_with (at_builtin; refine append_rows (R := DR gd2 Kc) (steadyDR gd2 Kc) rfl (.tmp 89) (.tmp 91) 22 Tryz.underlying22 rfl w.heap.size ag i cg (gramGs N b i) rfl hg6 _ 1 1 [gramL N b i] rfl hone (by omega) hszA ?_)
     intro an cn w7 hg7 hgr7;rw [← hW6] at hgr7 hg6 hszA;have hd7 := hd6.kept hgr7 (OnlySl.noLimb hg6.onlySl) (mown_ne hg6 hd6 (by omega));have HB7 := zh ((zu HB6).grown hgr7 hszA (MOwn.ge hg6));rw [← gramGs_next] at hg7;rw [zu EI1] at hd7;have HE := zh (zu EI1);clear hgr7 hone hW6 hg6 hd6 HB6 hszA;go_wp2;go_roundw
     case rel => exact ⟨i + 1, gd2, cd2, an, cn, by omega, rfl, by go_num, by rw [zu EI1], hd7, hg7, zu HB7⟩
     case measure => simp [intOf]; omega
  ·have hin : i = n := by omega
   subst hin;have hin' : ¬ (i : Int) < (i : Int) := by omega
   go_wp2;refine bodyPost_ret (v := .tuple #[.slice (some ⟨gd, 0, none⟩) i1 cd, .slice ag i cg]) (by simp [results, Tryz.results13, go_sem, *]) rfl ?_;rw [zu EI1] at hd ⊢;exact ⟨gd, cd, ag, cg, rfl, hd.vf, RowsOf.imp (R := DR gd Kc) (MOwn.rows hg) (fun h => h.1), zu HBw⟩
end Go.Proofs.YtnpneloahajniaaGreat
