/-
 What Pivot, Coords and Has of the reference tell. (IN PARTS)
-/
import Derived.Test.YtkomdimalgnamaaGreatJR
import Derived.Test.YtkomdimalgnamaaGreatRVFresh
import Derived.Test.YtkomdimalgnamaaGreatJP
import Derived.Deep.CutRange
namespace Go.Proofs.YtkomdimalgnamaaGreat
open Go.RowKit Lb
set_option maxRecDepth 20000

theorem Box.grown7 {w w' : World} {row : Option Nat} {g : Nat} {b : Bool} {ao : Option Addr} {len cap : Nat} (h : Box w g b ao len cap) (hg : w.grownBy w' row) (hne : row ≠ some g) : Box w' g b ao len cap := by
 have hl := h.lt;unfold Box at *;rw [hg.block g hl (Ne.symm hne)]; exact h
theorem InTail.eq {h : List (List Int)} {i : Nat} {v u : Nat → Int} (hv : InTail h i v) (e : ∀ j, u j = v j) : InTail h i u := by
 obtain ⟨c, h0, hc⟩ := hv;exact ⟨c, h0, fun j => (e j).trans (hc j)⟩
def RestOf (h : List (List Int)) (v : Nat → Int) (i : Nat) (u : Nat → Int) : Prop := (InL h v → InTail h i u) ∧ InL h fun j => v j - u j
theorem restOf_start (h : List (List Int)) (v : Nat → Int) : RestOf h v 0 v := ⟨fun e => e.tail, (inL_zero h).eq fun j => by omega⟩
theorem RestOf.eq {h : List (List Int)} {v : Nat → Int} {i : Nat} {u t : Nat → Int} (hr : RestOf h v i u) (e : ∀ j, t j = u j) : RestOf h v i t := ⟨fun hv => (hr.1 hv).eq e, hr.2.eq fun j => by rw [e]⟩
theorem RestOf.step {h : List (List Int)} {v : Nat → Int} {i : Nat} {u : Nat → Int} {p : Nat → Nat} (hr : RestOf h v i u) (hf : HForm h p) (hi : i < h.length) (h0 : ent h i (p i) ≠ 0) : RestOf h v (i + 1) fun j => u j - ent h i j * (u (p i) / ent h i (p i)) := by
 refine ⟨fun hv => ?_, (hr.2.add ((inL_row (l := h) i).mul (u (p i) / ent h i (p i)))).eq fun j => ?_⟩
 ·obtain ⟨x, hx1, hx2⟩ := HForm.tail hf hi (hr.1 hv);have hx : u (p i) / ent h i (p i) = x := by rw [hx1]; exact Int.mul_ediv_cancel _ h0
  exact hx2.eq fun j => by rw [hx, Int.mul_comm x]
 ·dsimp only; rw [Int.mul_comm (u (p i) / ent h i (p i))]; omega
theorem RestOf.done {h : List (List Int)} {v u : Nat → Int} (hr : RestOf h v h.length u) : (∀ j, u j = 0) ↔ InL h v :=
 ⟨fun e => hr.2.eq fun j => by rw [e j]; omega, fun hv j => (hr.1 hv).none j⟩
def MadeOf (h : List (List Int)) (v : Nat → Int) (i : Nat) (cs us : List Int) : Prop := ∀ j, v j = us.getD j 0 + sumN i fun t => cs.getD t 0 * ent h t j
theorem madeOf_start (h : List (List Int)) (vs : List Int) : MadeOf h (fun j => vs.getD j 0) 0 [] vs := fun j => by simp [sumN]
theorem MadeOf.step {h : List (List Int)} {v : Nat → Int} {i : Nat} {cs us : List Int} (hm : MadeOf h v i cs us) (hl : cs.length = i) {x : Int} : MadeOf h v (i + 1) (cs ++ [x]) (vsub us (vtimes (h.getD i []) x)) := fun j => by
 have h1 : (sumN i fun t => (cs ++ [x]).getD t 0 * ent h t j) = sumN i fun t => cs.getD t 0 * ent h t j := sumN_congr fun t ht => by
  rw [show (cs ++ [x]).getD t 0 = cs.getD t 0 by simp [List.getD, List.getElem?_append_left (show t < cs.length by omega)]]
 have h2 : (cs ++ [x]).getD i 0 = x := by rw [← hl]; simp [List.getD]
 rw [hm j, vsub_at, vtimes_at, sumN, h1, h2];have h3 : (h.getD i []).getD j 0 = ent h i j := rfl;rw [h3, Int.mul_comm x];omega
set_option maxHeartbeats 1600000 in
theorem rpivotK (ao : Option Addr) (n cap : Nat) (zs : List Int) (k : Nat) (w : World) (h : VK w ao n cap zs k) :
  Calls Tryz.prog 47 #[.slice ao n cap] w fun e w' => ∃ z, e = .returned (.int .i64 z) ∧ PivZ zs z ∧ Below w.heap.size w w' := by
 have HL := zh h.len_eq;have hm := Nat.le_trans h.cap_le h.cap_max;unfold maxLen at hm;go_enter Tryz.func47, Tryz.ntmps47
 go_wp2_with fail
 go_loopw [3] (fun t wr => ∃ (i : Nat), i ≤ n ∧ t = .int .i64 (i : Int) ∧ (∀ j, j < i → zs.getD j 0 = 0) ∧ Below w.heap.size w wr) (fun t _ => n - (intOf t).toNat)
 case atStart => exact ⟨0, Nat.zero_le _, rfl, fun j hj => absurd hj (by omega), Below.refl _ _⟩
 case round =>
  obtain ⟨i, hi, rfl, hall, hB⟩ := hrel;have HA := zh hall;clear hall;have HB := zh hB;clear hB;by_cases hlt : i < n
  ·obtain ⟨g, off, rfl⟩ := h.some (by omega);obtain ⟨b2, a2, l2, c2, he, hy⟩ := (h.za (zu HB)).at hlt;obtain ⟨f1, f2⟩ := he.zb;have hg1 := he.1;have hi0 : (0 : Int) ≤ (i : Int) := by omega
   have hi1 : (i : Int) < (n : Int) := by omega
   obtain ⟨z, ez⟩ : ∃ z, z = zs.getD i 0 := ⟨_, rfl⟩;rw [← ez] at hy;have EZ := zh ez;clear ez;obtain ⟨s, es⟩ : ∃ s, s = z.sign := ⟨_, rfl⟩;have ES := zh es
   go_wp2_with fail
   refine (rsignK b2 a2 l2 c2 z k s _ hy (zu ES)).mono ?_;rintro e w3 ⟨rfl, hb1⟩;replace HB := zh (Below.step (zu HB) hb1);clear hb1 hy f1 f2 he hg1;by_cases h0 : z = 0
   ·have hs : (s != 0) = false := by rw [es, h0]; rfl
    clear es;go_wp2;go_roundw
    case rel =>
     refine ⟨i + 1, by omega, by go_num, fun j hj => ?_, zu HB⟩;by_cases c : j = i
     ·subst c; rw [← zu EZ]; exact h0
     ·exact zu HA j (by omega)
    case measure => simp [intOf]; omega
   ·have hs : (s != 0) = true := by
     rw [bne_iff_ne, es];exact fun e => h0 (Int.sign_eq_zero_iff_zero.1 e)
    clear es;go_wp2;go_ret;exact ⟨_, rfl, pivZ_at (zu HA) (by rw [← zu EZ]; exact h0), zu HB⟩
  ·have hin : i = n := by omega
   subst hin;have hi1 : ¬ (i : Int) < (i : Int) := by omega
   go_wp2;go_ret;exact ⟨_, rfl, pivZ_none (zu HL) (zu HA), zu HB⟩
set_option maxRecDepth 40000 in
set_option maxHeartbeats 4000000 in
theorem coordsK (ah : Option Addr) (n ch : Nat) (hs : List (List Int)) (p : Nat → Nat) (B : Nat) (av0 : Option Addr) (N cv0 : Nat) (vs : List Int) (k : Nat) (w : World) (h : MS w ah n ch hs B) (hf : HForm hs p) (hN : ∀ i, i < n → (hs.getD i []).length = N) (hv : VK w av0 N cv0 vs k) (q0 : Bool) (hq : q0 = true ↔ InL hs fun j => vs.getD j 0) (hK : k + n * (B + 3) ≤ 222000) (hB : B ≤ 100000) (hn : n ≤ 1000) (hNl : N ≤ 1000) :
  Calls Tryz.prog 16 #[.slice ah n ch, .slice av0 N cv0] w fun e w' => ∃ ac nc cc, e = .returned (.tuple #[.slice ac nc cc, .bool q0]) ∧ (q0 = true → nc = n ∧ ∃ cs, VF w' ac n cc cs (k + n * (B + 3)) ∧ ∀ j, vs.getD j 0 = sumN n fun t => cs.getD t 0 * ent hs t j) ∧ (q0 = false → ac = none ∧ nc = 0 ∧ cc = 0) ∧ Below w.heap.size w w' := by
 have HL := zh h.len_eq;have HF := zh hf;have HN := zh hN;have HQ := zh hq;obtain ⟨KK, eKK⟩ : ∃ KK, KK = k + n * (B + 3) := ⟨_, rfl⟩;have EKK := zh eKK;rw [← eKK] at hK;clear hf hN hq eKK;go_enter Tryz.func16, Tryz.ntmps16
 go_wp2_with fail
 go_loopw [1, 6, 7] (fun v c t wr => ∃ (i : Nat) (av : Option Addr) (cv : Nat) (us : List Int) (ao' : Option Addr) (cap' : Nat) (cs : List Int), i ≤ n ∧ t = .int .i64 (i : Int) ∧ v = .slice av N cv ∧ c = .slice ao' i cap' ∧ OwnV wr w.heap.size ao' i cap' cs KK ∧ VK wr av N cv us (k + i * (B + 3)) ∧ RestOf hs (fun j => vs.getD j 0) i (fun j => us.getD j 0) ∧ MadeOf hs (fun j => vs.getD j 0) i cs us ∧ (∀ g off, av = some ⟨g, off, none⟩ → (Value.slice ao' i cap').ownBlock ≠ some g) ∧ Below w.heap.size w wr) (fun _ _ t _ => n - (intOf t).toNat)
 case atStart => exact ⟨0, _, _, vs, none, 0, [], Nat.zero_le _, rfl, rfl, rfl, ownV_nil _ _ _, by rw [Nat.zero_mul]; exact hv, restOf_start _ _, madeOf_start _ _, fun g off e => by simp [Value.ownBlock], Below.refl _ _⟩
 case round =>
  obtain ⟨i, av, cv, us, ao', cap', cs, hi, rfl, rfl, rfl, hown, hu, hT, hMD, hDJ, hB0⟩ := hrel;have HT := zh hT;have HMD := zh hMD;have HDJ := zh hDJ;have HB := zh hB0;clear hT hMD hDJ hB0;by_cases hlt : i < n
  ·obtain ⟨M, eM⟩ : ∃ M, M = k + i * (B + 3) := ⟨_, rfl⟩;have hMK : M + B + 3 ≤ KK := by
    have h1 : (i + 1) * (B + 3) ≤ n * (B + 3) := Nat.mul_le_mul_right _ hlt;rw [Nat.add_mul, Nat.one_mul] at h1;have h2 := zu EKK;omega
   have HM2 := zh (show k + (i + 1) * (B + 3) = M + (B + 3) by rw [eM, Nat.add_mul]; omega);have HM1 := zh (show k + (i + 1) * (B + 3) ≤ 222000 by rw [zu HM2]; omega);rw [← eM] at hu;clear eM;obtain ⟨g, off, rfl⟩ := h.addr (by omega);obtain ⟨hg0, a2, l2, c2, hc5, hv5⟩ := RowsOf.at (R := fun w a l c zs => VS w a l c zs B) h hlt;have hl2 : N = l2 := by rw [← hv5.len_eq]; exact (zu HN i hlt).symm
   subst hl2;have hir : i < hs.length := by rw [zu HL]; exact hlt
   have HPI := zh ((zu HF).isPivot hir);have hpN : p i < N := by
    have := (zu HPI).lt;rw [zu HN i hlt] at this;exact this
   have H0 := zh (show ent hs i (p i) ≠ 0 by have := (zu HF).pos i hir; omega);obtain ⟨g2, o2, rfl⟩ := hv5.vk.some (by omega);have x2 := ((zu HB).cell (p := ⟨g, off + i, none⟩) hg0).trans hc5;have hg := Nat.lt_of_lt_of_le hg0 (zu HB).size;have hi0 : (0 : Int) ≤ (i : Int) := by omega
   have hi1 : (i : Int) < (n : Int) := by omega
   go_wp2_with fail
   refine (rpivotK _ N _ (hs.getD i []) B _ (hv5.za (zu HB)).vk).mono ?_;rintro e w5 ⟨z, rfl, hpz, hb1⟩;have hz : z = (p i : Int) := by
    rcases hpz with ⟨_, h0⟩ | ⟨q, e, hq⟩
    ·exact absurd (h0 _) (zu HPI).2
    ·rw [e, isPivot_inj hq (zu HPI)]
   subst hz;replace hown := hown.za hb1;replace hu := hu.za hb1;replace HB := zh (Below.step (zu HB) hb1);replace x2 := (hb1.cell (p := ⟨g, off + i, none⟩) hg).trans x2;replace hg := Nat.lt_of_lt_of_le hg hb1.size;clear hb1 hpz;have hr := hv5.za (zu HB);obtain ⟨b3, a3, l3, c3, E3, y3⟩ := hr.vk.at hpN;have hp2 : (p i : Int) < (N : Int) := by omega
   have hp0 : (0 : Int) ≤ (p i : Int) := by omega
   have hW5o : ∀ g, (Value.slice ao' i cap').ownBlock = some g → g < w5.heap.size := fun g e => (ownV_block hown g e).2.1
   go_upto_region 6 with fail
   have HW : Below w5.heap.size w5 w5.drew := (Below.refl _ _).drew;have HS := zh fun w' (HW : Below w5.heap.size w5 w') => con3 ((HW.cell (p := ⟨g, off + i, none⟩) hg).trans x2) (E3.za HW).zb.1 (E3.za HW).zb.2;refine zst HS HW 16 (by kernel_rfl) fun zH => ?_;obtain ⟨vd1, hvd⟩ : ∃ v, v = w5.drew := ⟨_, rfl⟩;rw [← hvd] at HW zH ⊢;clear hvd;refine zfl (i := 0) rfl ?_;simp only [Act.put, aGet, aZero, aSet, aHead, aTail];refine zfl (i := 1) rfl ?_;simp only [Act.put, aAll];refine zfl (i := 3) rfl ?_;simp only [Act.put, aAll];refine zfl (i := 4) rfl ?_;simp only [Act.put, aAll];refine till_tm (i := 5) [6, 8, 9, 10, 11, 12, 13, 16, 17] rfl ?_;simp only [Act.put, aAll];refine till_tm (i := 6) [8, 9, 10, 11, 12, 13, 16, 17] rfl ?_;simp only [Act.put, aAll];refine zfl (i := 7) rfl ?_;simp only [Act.put, aAll];refine till_tm (i := 8) [9, 10, 11, 12, 13, 16, 17] rfl ?_;simp only [Act.put, aAll];refine till_tm (i := 9) [10, 11, 12, 13, 16, 17] rfl ?_;simp only [Act.put, aAll];refine till_name (fun act0 hact0 => ?_);have HA := zh hact0;clear hact0;refine till_mid 2 #[true, true, true, true, true, true, true, true, true, true, true, true, true, true, true, true, false, false] (ι := Bool × Option Addr × Nat × Nat × Bool × Option Addr × Nat × Nat × Bool × Option Addr × Nat × Nat × Nat × Nat) (fun (b4, a4, l4, c4, b5, a5, l5, c5, b6, a6, l6, c6, g7, g8) => (((((((act0.put (some 25) (.agg #[.bool b4, .slice a4 l4 c4])).put (some 33) (.tuple #[.agg #[.bool b5, .slice a5 l5 c5], .agg #[.bool b6, .slice a6 l6 c6]])).put (some 22) (.tuple #[.agg #[.bool b5, .slice a5 l5 c5], .agg #[.bool b6, .slice a6 l6 c6]])).put (some 34) (.agg #[.bool b5, .slice a5 l5 c5])).put (some 35) (.agg #[.bool b6, .slice a6 l6 c6])).put (some 9) ((.pointer (some ⟨g7, 0, none⟩)))).put (some 10) ((.pointer (some ⟨g8, 0, none⟩))))) (fun (b4, a4, l4, c4, b5, a5, l5, c5, b6, a6, l6, c6, g7, g8) wz => Below w5.heap.size w5 wz ∧ FK wz b5 a5 l5 c5 (us.getD (p i) 0 / ent hs i (p i)) M ∧ FK wz b6 a6 l6 c6 (us.getD (p i) 0 % ent hs i (p i)) B ∧ Box wz g7 false none 0 0 ∧ w5.heap.size ≤ g7 ∧ Box wz g8 false none 0 0 ∧ w5.heap.size ≤ g8 ∧ g7 ≠ g8) ?_ (fun J0 => ?_)
   ·rintro ⟨b4, a4, l4, c4, b5, a5, l5, c5, b6, a6, l6, c6, g7, g8⟩ wj hI
    try dsimp only at hI ⊢
    obtain ⟨HW, h5, h6, B7, hg7, B8, hg8, hneg7g8⟩ := hI;have zH := zu HS _ HW;rw [zu HA];simp only [Act.put, aSet, aHead, aTail];obtain ⟨q1B7, q2B7, q3B7, q4B7⟩ := B7.zb;have hltB7 := B7.lt;obtain ⟨q1B8, q2B8, q3B8, q4B8⟩ := B8.zb;have hltB8 := B8.lt;refine tout (i := 16) rfl fun K hK => ?_;go_simp;refine hK.out _ _ ?_;clear hK K
    try simp only [aSet, aHead, aTail]
    refine tout (i := 17) rfl fun K hK => ?_;go_simp;refine hK.out _ _ ?_;clear hK K
    try simp only [aSet, aHead, aTail]
    refine till_done (by kernel_rfl) ?_ _;have n7 := B7.noLimb;have n8 := (B8.other (g' := g7) (Ne.symm hneg7g8) b5 a5 l5 c5).noLimb;obtain ⟨W8, hW8⟩ : ∃ W8, W8 = ((((wj.setCell ⟨g7, 0, none⟩ (.bool b5)).setCell ⟨g7, 1, none⟩ (.slice a5 l5 c5)).setCell ⟨g8, 0, none⟩ (.bool b6)).setCell ⟨g8, 1, none⟩ (.slice a6 l6 c6)) := ⟨_, rfl⟩;rw [← hW8];have Bq : Box W8 g7 b5 a5 l5 c5 := by rw [hW8]; exact (B7.put b5 a5 l5 c5).other (g' := g8) hneg7g8 b6 a6 l6 c6
    have hQ5 : FK W8 b5 a5 l5 c5 (us.getD (p i) 0 / ent hs i (p i)) M := by rw [hW8]; exact (h5.put n7 b5 a5 l5 c5).put n8 b6 a6 l6 c6
    have HC : Below w5.heap.size w5 W8 := by rw [hW8]; exact below_put (below_put HW hg7 _ _ _ _) hg8 _ _ _ _
    clear hW8 HW zH B7 B8 n7 n8 h5 h6 hltB7 hltB8 q1B7 q2B7 q3B7 q4B7 q1B8 q2B8 q3B8 q4B8;replace HB := zh (Below.step (zu HB) HC);replace hown := hown.za HC;replace hr := hr.za HC;replace hu := hu.za HC;replace x2 := (HC.cell (p := ⟨g, off + i, none⟩) hg).trans x2;replace hg := Nat.lt_of_lt_of_le hg HC.size;clear HC;obtain ⟨f1, f2, _, _⟩ := Bq.zb;have hsQ := Bq.lt;obtain ⟨W6, hW6⟩ : ∃ W6, W6 = W8.alloc (.cells #[.bool b5, .slice a5 l5 c5] 44) := ⟨_, rfl⟩;obtain ⟨D5, hb9⟩ := boxes1 W8 b5 a5 l5 c5 hW6;have hE5 : EltAt W6 W8.heap.size 0 b5 a5 l5 c5 := ⟨D5.lt, D5.zb.1, D5.zb.2.1⟩;have hQ6 := (hQ5.za hb9).up (show M ≤ KK by omega);have hownA := hown.za hb9;have hszA := (Below.step (zu HB) hb9).size;have HBA := zh (Below.step (zu HB) hb9);clear D5;rw [hW6] at hE5 hQ6 hownA hszA HBA
    go_wp2_with (at_builtin; refine append_vec rfl (.tmp 36) (.tmp 38) 24 Tryz.underlying24 rfl w.heap.size ao' i cap' KK cs rfl hownA (by omega) hszA W8.heap.size 0 1 b5 a5 l5 c5 (us.getD (p i) 0 / ent hs i (p i)) rfl hE5 hQ6 ?_)
    intro gn cn w7 hown2 hgr hat;have HB7 := zh ((zu HBA).grown hgr hszA (own_ge hownA));have hblk := ownV_block hownA;have HMD2 := zh ((zu HMD).step hownA.len (x := us.getD (p i) 0 / ent hs i (p i)));have hmid : Below W8.heap.size W8 (W8.alloc (.cells #[.bool b5, .slice a5 l5 c5] 44)) := below_new _ _;have hu7 := VK.grown (hu.za hmid) hgr (fun g e => (hblk g e).2.2) (fun g off e => zu HDJ g off e);have hq7 := (hQ5.za hmid).grown hgr (fun g e => (hblk g e).2.2);have hB7 := (Bq.za hmid).grown7 hgr (fun e => absurd (hW5o _ e) (by omega));have hr7 := hv5.za (zu HB7);have x7 := ((zu HB7).cell (p := ⟨g, off + i, none⟩) hg0).trans hc5;have hgn := hown2.base_le;have hg7g := Nat.lt_of_lt_of_le hg0 (zu HB7).size;clear hgr hat hblk hmid hownA hE5 hQ6 hszA HBA hQ5 hu hr Bq f1 f2 hsQ hown HB hb9 hW6 x2
    go_upto_region 8 with fail
    have HW : Below w7.heap.size w7 w7.drew := (Below.refl _ _).drew;have HS := zh fun w' (HW : Below w7.heap.size w7 w') => con3 ((HW.cell (p := ⟨g, off + i, none⟩) hg7g).trans x7) (hB7.za HW).zb.1 (hB7.za HW).zb.2.1;refine zst HS HW 8 (by kernel_rfl) fun zH => ?_;refine ztl (i := 0) [7, 8] rfl ?_;simp only [Act.put, aGet, aZero, aSet, aHead, aTail];refine ztl (i := 1) [3, 4, 6, 7, 8] rfl ?_;simp only [Act.put, aAll];refine ztl (i := 2) [3, 4, 6, 7, 8] rfl ?_;simp only [Act.put, aAll];refine ztl (i := 3) [4, 6, 7, 8] rfl ?_;simp only [Act.put, aAll];refine ztl (i := 4) [6, 7, 8] rfl ?_;simp only [Act.put, aAll];refine ztl (i := 5) [6, 7, 8] rfl ?_;simp only [Act.put, aAll];refine tin (i := 6) rfl fun K hK => ?_;go_simp;refine (rvtimesK _ _ _ (hs.getD i []) B b5 a5 l5 c5 (us.getD (p i) 0 / ent hs i (p i)) M _ (hr7.za HW) ((hq7.za HW).sk (by omega)) (by omega) (by omega) (by omega)).mono ?_;rintro e w8 ⟨a8, c8, rfl, h8, hb9⟩;replace HW := Below.step HW hb9;clear hb9;refine hK.out _ _ ?_ (fun zH => ?_)
    ·exact zu HS _ HW
    clear hK K
    try simp only [Act.put, aAll]
    refine tin (i := 7) rfl fun K hK => ?_;go_simp;have hsub := HW.size;refine (rvsubF _ _ _ us M _ _ _ (vtimes (hs.getD i []) (us.getD (p i) 0 / ent hs i (p i))) (B + M) _ (hu7.za HW) (h8.vs (by omega)) (by omega) (by omega) (by omega) (by omega)).mono ?_;rintro e w9 ⟨a9, c9, rfl, h9, hfr, hb9⟩;replace HW := Below.step HW hb9;clear hb9 h8;rw [Nat.max_self, show max M (B + M + 2) + 1 = k + (i + 1) * (B + 3) by rw [zu HM2]; omega] at h9
    (try rw [Nat.max_self])
    refine hK.out _ _ ?_ (fun zH => ?_)
    ·exact zu HS _ HW
    clear hK K
    try simp only [Act.put, aAll]
    refine tout (i := 8) rfl fun K hK => ?_;go_simp;refine hK.out _ _ ?_;clear hK K
    try simp only [Act.put, aAll]
    refine till_done (by kernel_rfl) ?_ _;clear zH;have hcb := hown2.za HW;replace HB7 := zh (Below.step (zu HB7) HW);have HT2 : Hid (RestOf hs (fun j => vs.getD j 0) (i + 1) fun j => (vsub us (vtimes (hs.getD i []) (us.getD (p i) 0 / ent hs i (p i)))).getD j 0) := zh (((zu HT).step (zu HF) hir (zu H0)).eq fun j => by rw [vsub_at, vtimes_at]; rfl);clear hB7 hq7;go_wp2;go_roundw
    case rel => exact ⟨i + 1, _, _, _, _, _, _, by omega, by go_num, rfl, rfl, hcb, h9.vk (by have := zu HM1; omega), zu HT2, zu HMD2, fun g off e => by simp [Value.ownBlock]; have := hfr g off e; omega, zu HB7⟩
    case measure => simp [intOf]; omega
   refine till_mid 3 #[true, true, true, true, true, true, true, true, true, true, true, true, true, true, false, true, false, false] (ι := Bool × Option Addr × Nat × Nat × Bool × Option Addr × Nat × Nat × Bool × Option Addr × Nat × Nat × Nat) (fun (b4, a4, l4, c4, b5, a5, l5, c5, b6, a6, l6, c6, g8) => ((((((act0.put (some 25) (.agg #[.bool b4, .slice a4 l4 c4])).put (some 33) (.tuple #[.agg #[.bool b5, .slice a5 l5 c5], .agg #[.bool b6, .slice a6 l6 c6]])).put (some 22) (.tuple #[.agg #[.bool b5, .slice a5 l5 c5], .agg #[.bool b6, .slice a6 l6 c6]])).put (some 34) (.agg #[.bool b5, .slice a5 l5 c5])).put (some 35) (.agg #[.bool b6, .slice a6 l6 c6])).put (some 10) ((.pointer (some ⟨g8, 0, none⟩))))) (fun (b4, a4, l4, c4, b5, a5, l5, c5, b6, a6, l6, c6, g8) wz => Below w5.heap.size w5 wz ∧ FK wz b5 a5 l5 c5 (us.getD (p i) 0 / ent hs i (p i)) M ∧ FK wz b6 a6 l6 c6 (us.getD (p i) 0 % ent hs i (p i)) B ∧ Box wz g8 false none 0 0 ∧ w5.heap.size ≤ g8) ?_ (fun J1 => ?_)
   ·rintro ⟨b4, a4, l4, c4, b5, a5, l5, c5, b6, a6, l6, c6, g8⟩ wj hI
    try dsimp only at hI ⊢
    obtain ⟨HW, h5, h6, B8, hg8⟩ := hI;have zH := con3 ((HW.cell (p := ⟨g, off + i, none⟩) hg).trans x2) (E3.za HW).zb.1 (E3.za HW).zb.2;rw [zu HA];simp only [Act.put, aSet, aHead, aTail];refine tin (i := 14) rfl fun K hK => ?_;go_simp;have hwk : w5.heap.size ≤ wj.heap.size := HW.size;have hxg8 := B8.lt;obtain ⟨wk, hWe⟩ := newB wj;obtain ⟨B7, hb9⟩ := boxes1 wj false none 0 0 hWe;rw [← hWe];clear hWe;replace HW := Below.step HW hb9;replace h5 := h5.za hb9;replace h6 := h6.za hb9;replace B8 := B8.za hb9;clear hb9;have hg7 := hwk;have hneg7g8 : wj.heap.size ≠ g8 := by omega
    refine hK.out _ _ ?_ (fun zH => ?_)
    ·exact ⟨(HW.cell (p := ⟨g, off + i, none⟩) hg).trans x2, (E3.za HW).zb.1, (E3.za HW).zb.2⟩
    clear hK K
    try simp only [aSet, aHead, aTail]
    exact tgo J0 (b4, a4, l4, c4, b5, a5, l5, c5, b6, a6, l6, c6, wj.heap.size, g8) (by (try dsimp only); rw [zu HA]; simp only [Act.put, aSet, aHead, aTail]) (by (try dsimp only); exact ⟨HW, h5, h6, B7, hg7, B8, hg8, hneg7g8⟩)
   refine till_mid 3 #[true, true, true, true, true, true, true, true, true, true, true, true, true, true, true, false, false, false] (ι := Bool × Option Addr × Nat × Nat × Bool × Option Addr × Nat × Nat × Bool × Option Addr × Nat × Nat × Nat) (fun (b4, a4, l4, c4, b5, a5, l5, c5, b6, a6, l6, c6, g7) => ((((((act0.put (some 25) (.agg #[.bool b4, .slice a4 l4 c4])).put (some 33) (.tuple #[.agg #[.bool b5, .slice a5 l5 c5], .agg #[.bool b6, .slice a6 l6 c6]])).put (some 22) (.tuple #[.agg #[.bool b5, .slice a5 l5 c5], .agg #[.bool b6, .slice a6 l6 c6]])).put (some 34) (.agg #[.bool b5, .slice a5 l5 c5])).put (some 35) (.agg #[.bool b6, .slice a6 l6 c6])).put (some 9) ((.pointer (some ⟨g7, 0, none⟩))))) (fun (b4, a4, l4, c4, b5, a5, l5, c5, b6, a6, l6, c6, g7) wz => Below w5.heap.size w5 wz ∧ FK wz b5 a5 l5 c5 (us.getD (p i) 0 / ent hs i (p i)) M ∧ FK wz b6 a6 l6 c6 (us.getD (p i) 0 % ent hs i (p i)) B ∧ Box wz g7 false none 0 0 ∧ w5.heap.size ≤ g7) ?_ (fun J2 => ?_)
   ·rintro ⟨b4, a4, l4, c4, b5, a5, l5, c5, b6, a6, l6, c6, g7⟩ wj hI
    try dsimp only at hI ⊢
    obtain ⟨HW, h5, h6, B7, hg7⟩ := hI;have zH := con3 ((HW.cell (p := ⟨g, off + i, none⟩) hg).trans x2) (E3.za HW).zb.1 (E3.za HW).zb.2;rw [zu HA];simp only [Act.put, aSet, aHead, aTail];refine tin (i := 15) rfl fun K hK => ?_;go_simp;have hwk : w5.heap.size ≤ wj.heap.size := HW.size;have hxg7 := B7.lt;obtain ⟨wk, hWe⟩ := newB wj;obtain ⟨B8, hb9⟩ := boxes1 wj false none 0 0 hWe;rw [← hWe];clear hWe;replace HW := Below.step HW hb9;replace h5 := h5.za hb9;replace h6 := h6.za hb9;replace B7 := B7.za hb9;clear hb9;have hg8 := hwk;have hneg7g8 : g7 ≠ wj.heap.size := by omega
    refine hK.out _ _ ?_ (fun zH => ?_)
    ·exact ⟨(HW.cell (p := ⟨g, off + i, none⟩) hg).trans x2, (E3.za HW).zb.1, (E3.za HW).zb.2⟩
    clear hK K
    try simp only [aSet, aHead, aTail]
    exact tgo J0 (b4, a4, l4, c4, b5, a5, l5, c5, b6, a6, l6, c6, g7, wj.heap.size) (by (try dsimp only); rw [zu HA]; simp only [Act.put, aSet, aHead, aTail]) (by (try dsimp only); exact ⟨HW, h5, h6, B7, hg7, B8, hg8, hneg7g8⟩)
   refine till_mid 4 #[true, true, true, true, true, true, true, true, true, true, true, true, true, true, false, false, false, false] (ι := Bool × Option Addr × Nat × Nat × Bool × Option Addr × Nat × Nat × Bool × Option Addr × Nat × Nat) (fun (b4, a4, l4, c4, b5, a5, l5, c5, b6, a6, l6, c6) => (((((act0.put (some 25) (.agg #[.bool b4, .slice a4 l4 c4])).put (some 33) (.tuple #[.agg #[.bool b5, .slice a5 l5 c5], .agg #[.bool b6, .slice a6 l6 c6]])).put (some 22) (.tuple #[.agg #[.bool b5, .slice a5 l5 c5], .agg #[.bool b6, .slice a6 l6 c6]])).put (some 34) (.agg #[.bool b5, .slice a5 l5 c5])).put (some 35) (.agg #[.bool b6, .slice a6 l6 c6]))) (fun (b4, a4, l4, c4, b5, a5, l5, c5, b6, a6, l6, c6) wz => Below w5.heap.size w5 wz ∧ FK wz b5 a5 l5 c5 (us.getD (p i) 0 / ent hs i (p i)) M ∧ FK wz b6 a6 l6 c6 (us.getD (p i) 0 % ent hs i (p i)) B) ?_ (fun J3 => ?_)
   ·rintro ⟨b4, a4, l4, c4, b5, a5, l5, c5, b6, a6, l6, c6⟩ wj hI
    try dsimp only at hI ⊢
    obtain ⟨HW, h5, h6⟩ := hI;have zH := con3 ((HW.cell (p := ⟨g, off + i, none⟩) hg).trans x2) (E3.za HW).zb.1 (E3.za HW).zb.2;rw [zu HA];simp only [Act.put, aSet, aHead, aTail];refine ttwo (i := 14) (j := 15) rfl rfl (fun K hK => ?_) (fun K hK => ?_)
    ·go_simp;have hwk : w5.heap.size ≤ wj.heap.size := HW.size;obtain ⟨wk, hWe⟩ := newB wj;obtain ⟨B7, hb9⟩ := boxes1 wj false none 0 0 hWe;rw [← hWe];clear hWe;replace HW := Below.step HW hb9;replace h5 := h5.za hb9;replace h6 := h6.za hb9;clear hb9;have hg7 := hwk;refine hK.out _ _ ?_ (fun zH => ?_)
     ·exact ⟨(HW.cell (p := ⟨g, off + i, none⟩) hg).trans x2, (E3.za HW).zb.1, (E3.za HW).zb.2⟩
     clear hK K
     try simp only [aSet, aHead, aTail]
     exact tgo J2 (b4, a4, l4, c4, b5, a5, l5, c5, b6, a6, l6, c6, wj.heap.size) (by (try dsimp only); rw [zu HA]; simp only [Act.put, aSet, aHead, aTail]) (by (try dsimp only); exact ⟨HW, h5, h6, B7, hg7⟩)
    ·go_simp;have hwk : w5.heap.size ≤ wj.heap.size := HW.size;obtain ⟨wk, hWe⟩ := newB wj;obtain ⟨B8, hb9⟩ := boxes1 wj false none 0 0 hWe;rw [← hWe];clear hWe;replace HW := Below.step HW hb9;replace h5 := h5.za hb9;replace h6 := h6.za hb9;clear hb9;have hg8 := hwk;refine hK.out _ _ ?_ (fun zH => ?_)
     ·exact ⟨(HW.cell (p := ⟨g, off + i, none⟩) hg).trans x2, (E3.za HW).zb.1, (E3.za HW).zb.2⟩
     clear hK K
     try simp only [aSet, aHead, aTail]
     exact tgo J1 (b4, a4, l4, c4, b5, a5, l5, c5, b6, a6, l6, c6, wj.heap.size) (by (try dsimp only); rw [zu HA]; simp only [Act.put, aSet, aHead, aTail]) (by (try dsimp only); exact ⟨HW, h5, h6, B8, hg8⟩)
   refine till_mid 6 #[true, true, true, true, true, true, true, true, true, true, false, false, false, false, true, true, false, false] (ι := Bool × Option Addr × Nat × Nat × Nat × Nat) (fun (b4, a4, l4, c4, g7, g8) => (((act0.put (some 25) (.agg #[.bool b4, .slice a4 l4 c4])).put (some 9) ((.pointer (some ⟨g7, 0, none⟩)))).put (some 10) ((.pointer (some ⟨g8, 0, none⟩))))) (fun (b4, a4, l4, c4, g7, g8) wz => Below w5.heap.size w5 wz ∧ FK wz b4 a4 l4 c4 (us.getD (p i) 0) M ∧ Box wz g7 false none 0 0 ∧ w5.heap.size ≤ g7 ∧ Box wz g8 false none 0 0 ∧ w5.heap.size ≤ g8 ∧ g7 ≠ g8) ?_ (fun J4 => ?_)
   ·rintro ⟨b4, a4, l4, c4, g7, g8⟩ wj hI
    try dsimp only at hI ⊢
    obtain ⟨HW, h4, B7, hg7, B8, hg8, hneg7g8⟩ := hI;have zH := con3 ((HW.cell (p := ⟨g, off + i, none⟩) hg).trans x2) (E3.za HW).zb.1 (E3.za HW).zb.2;rw [zu HA];simp only [Act.put, aSet, aHead, aTail];refine tin (i := 10) rfl fun K hK => ?_;go_simp;refine (rdivK b4 a4 l4 c4 (us.getD (p i) 0) M b3 a3 l3 c3 (ent hs i (p i)) B _ (h4.ik (by omega)) (y3.za HW) (zu H0) (by omega) (by omega)).mono ?_;rintro e wk ⟨b5, a5, l5, c5, b6, a6, l6, c6, rfl, h5, h6, hb9⟩;replace HW := Below.step HW hb9;replace B7 := B7.za hb9;replace B8 := B8.za hb9;clear hb9 h4;refine hK.out _ _ ?_ (fun zH => ?_)
    ·exact ⟨(HW.cell (p := ⟨g, off + i, none⟩) hg).trans x2, (E3.za HW).zb.1, (E3.za HW).zb.2⟩
    clear hK K
    try simp only [aSet, aHead, aTail]
    refine zfl (i := 11) rfl ?_;simp only [Act.put, aAll];refine zfl (i := 12) rfl ?_;simp only [Act.put, aAll];refine zfl (i := 13) rfl ?_;simp only [Act.put, aAll];exact tgo J0 (b4, a4, l4, c4, b5, a5, l5, c5, b6, a6, l6, c6, g7, g8) (by (try dsimp only); rw [zu HA]; simp only [Act.put, aSet, aHead, aTail]) (by (try dsimp only); exact ⟨HW, h5, h6, B7, hg7, B8, hg8, hneg7g8⟩)
   refine till_mid 7 #[true, true, false, true, true, true, true, true, true, true, false, false, false, false, true, true, false, false] (ι := Nat × Nat) (fun (g7, g8) => ((act0.put (some 9) ((.pointer (some ⟨g7, 0, none⟩)))).put (some 10) ((.pointer (some ⟨g8, 0, none⟩))))) (fun (g7, g8) wz => Below w5.heap.size w5 wz ∧ Box wz g7 false none 0 0 ∧ w5.heap.size ≤ g7 ∧ Box wz g8 false none 0 0 ∧ w5.heap.size ≤ g8 ∧ g7 ≠ g8) ?_ (fun J5 => ?_)
   ·rintro ⟨g7, g8⟩ wj hI
    try dsimp only at hI ⊢
    obtain ⟨HW, B7, hg7, B8, hg8, hneg7g8⟩ := hI;have zH := con3 ((HW.cell (p := ⟨g, off + i, none⟩) hg).trans x2) (E3.za HW).zb.1 (E3.za HW).zb.2;rw [zu HA];simp only [Act.put, aSet, aHead, aTail];refine tin (i := 2) rfl fun K hK => ?_;go_simp;refine (ratK _ _ _ us M (p i) _ (hu.za HW) (by omega)).mono ?_;rintro e wk ⟨b4, a4, l4, c4, rfl, h4, hb9⟩;replace HW := Below.step HW hb9;replace B7 := B7.za hb9;replace B8 := B8.za hb9;clear hb9;refine hK.out _ _ ?_ (fun zH => ?_)
    ·exact ⟨(HW.cell (p := ⟨g, off + i, none⟩) hg).trans x2, (E3.za HW).zb.1, (E3.za HW).zb.2⟩
    clear hK K
    try simp only [aSet, aHead, aTail]
    exact tgo J4 (b4, a4, l4, c4, g7, g8) (by (try dsimp only); rw [zu HA]; simp only [Act.put, aSet, aHead, aTail]) (by (try dsimp only); exact ⟨HW, h4, B7, hg7, B8, hg8, hneg7g8⟩)
   refine till_mid 7 #[true, true, true, true, true, true, true, true, true, true, false, false, false, false, false, true, false, false] (ι := Bool × Option Addr × Nat × Nat × Nat) (fun (b4, a4, l4, c4, g8) => ((act0.put (some 25) (.agg #[.bool b4, .slice a4 l4 c4])).put (some 10) ((.pointer (some ⟨g8, 0, none⟩))))) (fun (b4, a4, l4, c4, g8) wz => Below w5.heap.size w5 wz ∧ FK wz b4 a4 l4 c4 (us.getD (p i) 0) M ∧ Box wz g8 false none 0 0 ∧ w5.heap.size ≤ g8) ?_ (fun J6 => ?_)
   ·rintro ⟨b4, a4, l4, c4, g8⟩ wj hI
    try dsimp only at hI ⊢
    obtain ⟨HW, h4, B8, hg8⟩ := hI;have zH := con3 ((HW.cell (p := ⟨g, off + i, none⟩) hg).trans x2) (E3.za HW).zb.1 (E3.za HW).zb.2;rw [zu HA];simp only [Act.put, aSet, aHead, aTail];refine ttwo (i := 10) (j := 14) rfl rfl (fun K hK => ?_) (fun K hK => ?_)
    ·go_simp;refine (rdivK b4 a4 l4 c4 (us.getD (p i) 0) M b3 a3 l3 c3 (ent hs i (p i)) B _ (h4.ik (by omega)) (y3.za HW) (zu H0) (by omega) (by omega)).mono ?_;rintro e wk ⟨b5, a5, l5, c5, b6, a6, l6, c6, rfl, h5, h6, hb9⟩;replace HW := Below.step HW hb9;replace B8 := B8.za hb9;clear hb9 h4;refine hK.out _ _ ?_ (fun zH => ?_)
     ·exact ⟨(HW.cell (p := ⟨g, off + i, none⟩) hg).trans x2, (E3.za HW).zb.1, (E3.za HW).zb.2⟩
     clear hK K
     try simp only [aSet, aHead, aTail]
     refine zfl (i := 11) rfl ?_;simp only [Act.put, aAll];refine zfl (i := 12) rfl ?_;simp only [Act.put, aAll];refine zfl (i := 13) rfl ?_;simp only [Act.put, aAll];exact tgo J1 (b4, a4, l4, c4, b5, a5, l5, c5, b6, a6, l6, c6, g8) (by (try dsimp only); rw [zu HA]; simp only [Act.put, aSet, aHead, aTail]) (by (try dsimp only); exact ⟨HW, h5, h6, B8, hg8⟩)
    ·go_simp;have hwk : w5.heap.size ≤ wj.heap.size := HW.size;have hxg8 := B8.lt;obtain ⟨wk, hWe⟩ := newB wj;obtain ⟨B7, hb9⟩ := boxes1 wj false none 0 0 hWe;rw [← hWe];clear hWe;replace HW := Below.step HW hb9;replace h4 := h4.za hb9;replace B8 := B8.za hb9;clear hb9;have hg7 := hwk;have hneg7g8 : wj.heap.size ≠ g8 := by omega
     refine hK.out _ _ ?_ (fun zH => ?_)
     ·exact ⟨(HW.cell (p := ⟨g, off + i, none⟩) hg).trans x2, (E3.za HW).zb.1, (E3.za HW).zb.2⟩
     clear hK K
     try simp only [aSet, aHead, aTail]
     exact tgo J4 (b4, a4, l4, c4, wj.heap.size, g8) (by (try dsimp only); rw [zu HA]; simp only [Act.put, aSet, aHead, aTail]) (by (try dsimp only); exact ⟨HW, h4, B7, hg7, B8, hg8, hneg7g8⟩)
   refine till_mid 7 #[true, true, true, true, true, true, true, true, true, true, false, false, false, false, true, false, false, false] (ι := Bool × Option Addr × Nat × Nat × Nat) (fun (b4, a4, l4, c4, g7) => ((act0.put (some 25) (.agg #[.bool b4, .slice a4 l4 c4])).put (some 9) ((.pointer (some ⟨g7, 0, none⟩))))) (fun (b4, a4, l4, c4, g7) wz => Below w5.heap.size w5 wz ∧ FK wz b4 a4 l4 c4 (us.getD (p i) 0) M ∧ Box wz g7 false none 0 0 ∧ w5.heap.size ≤ g7) ?_ (fun J7 => ?_)
   ·rintro ⟨b4, a4, l4, c4, g7⟩ wj hI
    try dsimp only at hI ⊢
    obtain ⟨HW, h4, B7, hg7⟩ := hI;have zH := con3 ((HW.cell (p := ⟨g, off + i, none⟩) hg).trans x2) (E3.za HW).zb.1 (E3.za HW).zb.2;rw [zu HA];simp only [Act.put, aSet, aHead, aTail];refine ttwo (i := 10) (j := 15) rfl rfl (fun K hK => ?_) (fun K hK => ?_)
    ·go_simp;refine (rdivK b4 a4 l4 c4 (us.getD (p i) 0) M b3 a3 l3 c3 (ent hs i (p i)) B _ (h4.ik (by omega)) (y3.za HW) (zu H0) (by omega) (by omega)).mono ?_;rintro e wk ⟨b5, a5, l5, c5, b6, a6, l6, c6, rfl, h5, h6, hb9⟩;replace HW := Below.step HW hb9;replace B7 := B7.za hb9;clear hb9 h4;refine hK.out _ _ ?_ (fun zH => ?_)
     ·exact ⟨(HW.cell (p := ⟨g, off + i, none⟩) hg).trans x2, (E3.za HW).zb.1, (E3.za HW).zb.2⟩
     clear hK K
     try simp only [aSet, aHead, aTail]
     refine zfl (i := 11) rfl ?_;simp only [Act.put, aAll];refine zfl (i := 12) rfl ?_;simp only [Act.put, aAll];refine zfl (i := 13) rfl ?_;simp only [Act.put, aAll];exact tgo J2 (b4, a4, l4, c4, b5, a5, l5, c5, b6, a6, l6, c6, g7) (by (try dsimp only); rw [zu HA]; simp only [Act.put, aSet, aHead, aTail]) (by (try dsimp only); exact ⟨HW, h5, h6, B7, hg7⟩)
    ·go_simp;have hwk : w5.heap.size ≤ wj.heap.size := HW.size;have hxg7 := B7.lt;obtain ⟨wk, hWe⟩ := newB wj;obtain ⟨B8, hb9⟩ := boxes1 wj false none 0 0 hWe;rw [← hWe];clear hWe;replace HW := Below.step HW hb9;replace h4 := h4.za hb9;replace B7 := B7.za hb9;clear hb9;have hg8 := hwk;have hneg7g8 : g7 ≠ wj.heap.size := by omega
     refine hK.out _ _ ?_ (fun zH => ?_)
     ·exact ⟨(HW.cell (p := ⟨g, off + i, none⟩) hg).trans x2, (E3.za HW).zb.1, (E3.za HW).zb.2⟩
     clear hK K
     try simp only [aSet, aHead, aTail]
     exact tgo J4 (b4, a4, l4, c4, g7, wj.heap.size) (by (try dsimp only); rw [zu HA]; simp only [Act.put, aSet, aHead, aTail]) (by (try dsimp only); exact ⟨HW, h4, B7, hg7, B8, hg8, hneg7g8⟩)
   refine till_mid 8 #[true, true, false, true, true, true, true, true, true, true, false, false, false, false, false, true, false, false] (ι := Nat) (fun g8 => (act0.put (some 10) ((.pointer (some ⟨g8, 0, none⟩))))) (fun g8 wz => Below w5.heap.size w5 wz ∧ Box wz g8 false none 0 0 ∧ w5.heap.size ≤ g8) ?_ (fun J8 => ?_)
   ·rintro g8 wj hI
    try dsimp only at hI ⊢
    obtain ⟨HW, B8, hg8⟩ := hI;have zH := con3 ((HW.cell (p := ⟨g, off + i, none⟩) hg).trans x2) (E3.za HW).zb.1 (E3.za HW).zb.2;rw [zu HA];simp only [Act.put, aSet, aHead, aTail];refine ttwo (i := 2) (j := 14) rfl rfl (fun K hK => ?_) (fun K hK => ?_)
    ·go_simp;refine (ratK _ _ _ us M (p i) _ (hu.za HW) (by omega)).mono ?_;rintro e wk ⟨b4, a4, l4, c4, rfl, h4, hb9⟩;replace HW := Below.step HW hb9;replace B8 := B8.za hb9;clear hb9;refine hK.out _ _ ?_ (fun zH => ?_)
     ·exact ⟨(HW.cell (p := ⟨g, off + i, none⟩) hg).trans x2, (E3.za HW).zb.1, (E3.za HW).zb.2⟩
     clear hK K
     try simp only [aSet, aHead, aTail]
     exact tgo J6 (b4, a4, l4, c4, g8) (by (try dsimp only); rw [zu HA]; simp only [Act.put, aSet, aHead, aTail]) (by (try dsimp only); exact ⟨HW, h4, B8, hg8⟩)
    ·go_simp;have hwk : w5.heap.size ≤ wj.heap.size := HW.size;have hxg8 := B8.lt;obtain ⟨wk, hWe⟩ := newB wj;obtain ⟨B7, hb9⟩ := boxes1 wj false none 0 0 hWe;rw [← hWe];clear hWe;replace HW := Below.step HW hb9;replace B8 := B8.za hb9;clear hb9;have hg7 := hwk;have hneg7g8 : wj.heap.size ≠ g8 := by omega
     refine hK.out _ _ ?_ (fun zH => ?_)
     ·exact ⟨(HW.cell (p := ⟨g, off + i, none⟩) hg).trans x2, (E3.za HW).zb.1, (E3.za HW).zb.2⟩
     clear hK K
     try simp only [aSet, aHead, aTail]
     exact tgo J5 (wj.heap.size, g8) (by (try dsimp only); rw [zu HA]; simp only [Act.put, aSet, aHead, aTail]) (by (try dsimp only); exact ⟨HW, B7, hg7, B8, hg8, hneg7g8⟩)
   refine till_mid 8 #[true, true, false, true, true, true, true, true, true, true, false, false, false, false, true, false, false, false] (ι := Nat) (fun g7 => (act0.put (some 9) ((.pointer (some ⟨g7, 0, none⟩))))) (fun g7 wz => Below w5.heap.size w5 wz ∧ Box wz g7 false none 0 0 ∧ w5.heap.size ≤ g7) ?_ (fun J9 => ?_)
   ·rintro g7 wj hI
    try dsimp only at hI ⊢
    obtain ⟨HW, B7, hg7⟩ := hI;have zH := con3 ((HW.cell (p := ⟨g, off + i, none⟩) hg).trans x2) (E3.za HW).zb.1 (E3.za HW).zb.2;rw [zu HA];simp only [Act.put, aSet, aHead, aTail];refine ttwo (i := 2) (j := 15) rfl rfl (fun K hK => ?_) (fun K hK => ?_)
    ·go_simp;refine (ratK _ _ _ us M (p i) _ (hu.za HW) (by omega)).mono ?_;rintro e wk ⟨b4, a4, l4, c4, rfl, h4, hb9⟩;replace HW := Below.step HW hb9;replace B7 := B7.za hb9;clear hb9;refine hK.out _ _ ?_ (fun zH => ?_)
     ·exact ⟨(HW.cell (p := ⟨g, off + i, none⟩) hg).trans x2, (E3.za HW).zb.1, (E3.za HW).zb.2⟩
     clear hK K
     try simp only [aSet, aHead, aTail]
     exact tgo J7 (b4, a4, l4, c4, g7) (by (try dsimp only); rw [zu HA]; simp only [Act.put, aSet, aHead, aTail]) (by (try dsimp only); exact ⟨HW, h4, B7, hg7⟩)
    ·go_simp;have hwk : w5.heap.size ≤ wj.heap.size := HW.size;have hxg7 := B7.lt;obtain ⟨wk, hWe⟩ := newB wj;obtain ⟨B8, hb9⟩ := boxes1 wj false none 0 0 hWe;rw [← hWe];clear hWe;replace HW := Below.step HW hb9;replace B7 := B7.za hb9;clear hb9;have hg8 := hwk;have hneg7g8 : g7 ≠ wj.heap.size := by omega
     refine hK.out _ _ ?_ (fun zH => ?_)
     ·exact ⟨(HW.cell (p := ⟨g, off + i, none⟩) hg).trans x2, (E3.za HW).zb.1, (E3.za HW).zb.2⟩
     clear hK K
     try simp only [aSet, aHead, aTail]
     exact tgo J5 (g7, wj.heap.size) (by (try dsimp only); rw [zu HA]; simp only [Act.put, aSet, aHead, aTail]) (by (try dsimp only); exact ⟨HW, B7, hg7, B8, hg8, hneg7g8⟩)
   refine till_mid 8 #[true, true, true, true, true, true, true, true, true, true, false, false, false, false, false, false, false, false] (ι := Bool × Option Addr × Nat × Nat) (fun (b4, a4, l4, c4) => (act0.put (some 25) (.agg #[.bool b4, .slice a4 l4 c4]))) (fun (b4, a4, l4, c4) wz => Below w5.heap.size w5 wz ∧ FK wz b4 a4 l4 c4 (us.getD (p i) 0) M) ?_ (fun J10 => ?_)
   ·rintro ⟨b4, a4, l4, c4⟩ wj hI
    try dsimp only at hI ⊢
    obtain ⟨HW, h4⟩ := hI;have zH := con3 ((HW.cell (p := ⟨g, off + i, none⟩) hg).trans x2) (E3.za HW).zb.1 (E3.za HW).zb.2;rw [zu HA];simp only [Act.put, aSet, aHead, aTail];refine till_three (i := 10) (j := 14) (k := 15) (by kernel_rfl) rfl rfl rfl (fun K hK => ?_) (fun K hK => ?_) (fun K hK => ?_)
    ·go_simp;refine (rdivK b4 a4 l4 c4 (us.getD (p i) 0) M b3 a3 l3 c3 (ent hs i (p i)) B _ (h4.ik (by omega)) (y3.za HW) (zu H0) (by omega) (by omega)).mono ?_;rintro e wk ⟨b5, a5, l5, c5, b6, a6, l6, c6, rfl, h5, h6, hb9⟩;replace HW := Below.step HW hb9;clear hb9 h4;refine hK.out _ _ ?_ (fun zH => ?_)
     ·exact ⟨(HW.cell (p := ⟨g, off + i, none⟩) hg).trans x2, (E3.za HW).zb.1, (E3.za HW).zb.2⟩
     clear hK K
     try simp only [aSet, aHead, aTail]
     refine zfl (i := 11) rfl ?_;simp only [Act.put, aAll];refine zfl (i := 12) rfl ?_;simp only [Act.put, aAll];refine zfl (i := 13) rfl ?_;simp only [Act.put, aAll];exact tgo J3 (b4, a4, l4, c4, b5, a5, l5, c5, b6, a6, l6, c6) (by (try dsimp only); rw [zu HA]; simp only [Act.put, aSet, aHead, aTail]) (by (try dsimp only); exact ⟨HW, h5, h6⟩)
    ·go_simp;have hwk : w5.heap.size ≤ wj.heap.size := HW.size;obtain ⟨wk, hWe⟩ := newB wj;obtain ⟨B7, hb9⟩ := boxes1 wj false none 0 0 hWe;rw [← hWe];clear hWe;replace HW := Below.step HW hb9;replace h4 := h4.za hb9;clear hb9;have hg7 := hwk;refine hK.out _ _ ?_ (fun zH => ?_)
     ·exact ⟨(HW.cell (p := ⟨g, off + i, none⟩) hg).trans x2, (E3.za HW).zb.1, (E3.za HW).zb.2⟩
     clear hK K
     try simp only [aSet, aHead, aTail]
     exact tgo J7 (b4, a4, l4, c4, wj.heap.size) (by (try dsimp only); rw [zu HA]; simp only [Act.put, aSet, aHead, aTail]) (by (try dsimp only); exact ⟨HW, h4, B7, hg7⟩)
    ·go_simp;have hwk : w5.heap.size ≤ wj.heap.size := HW.size;obtain ⟨wk, hWe⟩ := newB wj;obtain ⟨B8, hb9⟩ := boxes1 wj false none 0 0 hWe;rw [← hWe];clear hWe;replace HW := Below.step HW hb9;replace h4 := h4.za hb9;clear hb9;have hg8 := hwk;refine hK.out _ _ ?_ (fun zH => ?_)
     ·exact ⟨(HW.cell (p := ⟨g, off + i, none⟩) hg).trans x2, (E3.za HW).zb.1, (E3.za HW).zb.2⟩
     clear hK K
     try simp only [aSet, aHead, aTail]
     exact tgo J6 (b4, a4, l4, c4, wj.heap.size) (by (try dsimp only); rw [zu HA]; simp only [Act.put, aSet, aHead, aTail]) (by (try dsimp only); exact ⟨HW, h4, B8, hg8⟩)
   rw [zu HA];refine till_three (i := 2) (j := 14) (k := 15) (by kernel_rfl) rfl rfl rfl (fun K hK => ?_) (fun K hK => ?_) (fun K hK => ?_)
   ·go_simp;refine (ratK _ _ _ us M (p i) _ (hu.za HW) (by omega)).mono ?_;rintro e wk ⟨b4, a4, l4, c4, rfl, h4, hb9⟩;replace HW := Below.step HW hb9;clear hb9;refine hK.out _ _ ?_ (fun zH => ?_)
    ·exact ⟨(HW.cell (p := ⟨g, off + i, none⟩) hg).trans x2, (E3.za HW).zb.1, (E3.za HW).zb.2⟩
    clear hK K
    try simp only [aSet, aHead, aTail]
    exact tgo J10 (b4, a4, l4, c4) (by (try dsimp only); rw [zu HA]; simp only [Act.put, aSet, aHead, aTail]) (by (try dsimp only); exact ⟨HW, h4⟩)
   ·go_simp;have hwk : w5.heap.size ≤ vd1.heap.size := HW.size;obtain ⟨wk, hWe⟩ := newB vd1;obtain ⟨B7, hb9⟩ := boxes1 vd1 false none 0 0 hWe;rw [← hWe];clear hWe;replace HW := Below.step HW hb9;clear hb9;have hg7 := hwk;refine hK.out _ _ ?_ (fun zH => ?_)
    ·exact ⟨(HW.cell (p := ⟨g, off + i, none⟩) hg).trans x2, (E3.za HW).zb.1, (E3.za HW).zb.2⟩
    clear hK K
    try simp only [aSet, aHead, aTail]
    exact tgo J9 vd1.heap.size (by (try dsimp only); rw [zu HA]; simp only [Act.put, aSet, aHead, aTail]) (by (try dsimp only); exact ⟨HW, B7, hg7⟩)
   ·go_simp;have hwk : w5.heap.size ≤ vd1.heap.size := HW.size;obtain ⟨wk, hWe⟩ := newB vd1;obtain ⟨B8, hb9⟩ := boxes1 vd1 false none 0 0 hWe;rw [← hWe];clear hWe;replace HW := Below.step HW hb9;clear hb9;have hg8 := hwk;refine hK.out _ _ ?_ (fun zH => ?_)
    ·exact ⟨(HW.cell (p := ⟨g, off + i, none⟩) hg).trans x2, (E3.za HW).zb.1, (E3.za HW).zb.2⟩
    clear hK K
    try simp only [aSet, aHead, aTail]
    exact tgo J8 vd1.heap.size (by (try dsimp only); rw [zu HA]; simp only [Act.put, aSet, aHead, aTail]) (by (try dsimp only); exact ⟨HW, B8, hg8⟩)
  ·have hin : i = n := by omega
   subst hin;have hi1 : ¬ (i : Int) < (i : Int) := by omega
   have hz : vnought us = q0 := by
    rw [Bool.eq_iff_iff, vnought_iff, zu HQ];have := zu HT;rw [← zu HL] at this;exact this.done
   have HZ := zh hz;have HMK := zh (show k + i * (B + 3) ≤ 222000 by rw [← zu EKK]; exact hK);have HCS := zh (show q0 = true → ∀ j, vs.getD j 0 = sumN i fun t => cs.getD t 0 * ent hs t j from fun e j => by
    have h0 := (vnought_iff us).1 (hz.trans e) j;have h1 := zu HMD j;dsimp only at h1;rw [h1, h0]; omega)
   have hvc := hown.vf;rw [zu EKK] at hvc;clear hz hown
   go_wp2_with fail
   refine (rvnoughtK _ _ _ us (k + i * (B + 3)) _ hu (by have := zu HMK; omega) (by omega)).mono ?_;rintro e w5 ⟨rfl, hb1⟩;rw [zu HZ];have HW5 := zh (Below.step (zu HB) hb1);have HVC := zh (hvc.za hb1);clear hb1 HZ HT HQ hu HB HDJ HMK hvc HMD;cases q0 with
   | true =>
    go_wp2;refine bodyPost_ret (v := .tuple #[.slice ao' i cap', .bool true]) (by simp [results, Tryz.results16, go_sem, *]) rfl ?_;exact ⟨_, _, _, rfl, ⟨rfl, cs, zu HVC, fun j => by have := zu HCS (by simp) j; simpa using this⟩, zu HW5⟩
   | false =>
    go_wp2;refine bodyPost_ret (v := .tuple #[.slice none 0 0, .bool false]) (by simp [results, Tryz.results16, go_sem, *]) rfl ?_;exact ⟨_, _, _, rfl, ⟨rfl, rfl, rfl⟩, zu HW5⟩
end Go.Proofs.YtkomdimalgnamaaGreat
