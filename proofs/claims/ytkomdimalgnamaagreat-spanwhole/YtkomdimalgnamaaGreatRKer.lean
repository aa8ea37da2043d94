/-
 What Kernel of the reference tells: the rows in the form whose sums are what each row turns to nought.
-/
import Derived.Test.YtkomdimalgnamaaGreatRTurnO
import Derived.Test.YtkomdimalgnamaaGreatJO
import Derived.Test.YtkomdimalgnamaaGreatRHnf
import Derived.Test.YtkomdimalgnamaaGreatRHas
import Derived.Test.YtkomdimalgnamaaGreatJN
import Derived.Deep.CutRange
namespace Go.Proofs.YtkomdimalgnamaaGreat
open Go.RowKit Lb
set_option maxRecDepth 20000

theorem TagsOf.to {qs : List (List Int)} {f g : Nat → List Int} {m : Nat} (h : TagsOf qs f m) (e : ∀ j, j < m → f j = g j) : TagsOf qs g m := ⟨fun j hj => by rw [← e j hj]; exact h.row j hj, h.apart⟩
theorem tag_rows {base k : Nat} {w : World} {ao : Option Addr} {n cap : Nat} {qs W : List (List Int)} {f : Nat → List Int} (h : RowsOf (TagV base k) w ao n cap qs) (ht : TagsOf qs f n) (hl : W.length = n) (hW : ∀ j, j < n → W.getD j [] = f j) (hk : k ≤ 900000) : MS w ao n cap W k := by
 refine ⟨hl, h.cap_le, h.cap_max, h.nil_cap, fun hp => ?_⟩;obtain ⟨g, off, e, hg, hc⟩ := h.elts hp;refine ⟨g, off, e, hg, fun i hi => ?_⟩;obtain ⟨a, l, c, h1, t, zs, e2, ho, _⟩ := hc i hi;rw [ht.row i hi] at e2;have e3 : f i = zs := (List.cons.inj e2).2;refine ⟨a, l, c, h1, ?_⟩;rw [hW i hi, e3];exact VF.vs (show VF w a l c zs k from ho.vec) (by omega)
set_option maxRecDepth 40000 in
set_option maxHeartbeats 4000000 in
theorem refKernelK (ao : Option Addr) (n cap : Nat) (ls : List (List Int)) (N : Nat) (aF bF : Nat → Nat) (kk : Nat) (hk3 : 3 ≤ kk) (hk9 : kk ≤ 222000) (w : World) (h : MK w ao n cap ls kk) (hls : ∀ r ∈ ls, r.length = N) (h1 : 1 ≤ N) (h64 : N ≤ 64) (hn : n ≤ 100) (ha0 : aF 0 = kk) (hG : Grows (wideOf (vturn ls N) N) N (n + N) aF bF) (hA : ∀ d, d ≤ N → aF d ≤ 222000) (hB : ∀ d, d ≤ N → bF d ≤ 222000) :
  Calls Tryz.prog 63 #[.slice ao n cap, .int .i64 (N : Int)] w fun e w' => ∃ a1 m c1 q K, e = .returned (.slice a1 m c1) ∧ MF w' a1 m c1 K 222000 ∧ HForm K q ∧ Ker K ls N ∧ (∀ r ∈ K, r.length = N) ∧ Below w.heap.size w w' := by
 have HL := zh h.len_eq;have HLS := zh hls;have HG := zh hG;have HA := zh hA;have HBF := zh hB;have HA0 := zh ha0;clear hls hG hA hB ha0;obtain ⟨L, eL⟩ : ∃ L, L = n + N := ⟨_, rfl⟩;have hL : (n : Int) + (N : Int) = (L : Int) := by omega
 have hLw : IntKind.i64.wrap ((n : Int) + (N : Int)) = (L : Int) := by rw [IntKind.wrap_i64]; omega
 obtain ⟨f, ef⟩ : ∃ f : Nat → List Int, f = fun i => ls.map fun r => r.getD i 0 := ⟨_, rfl⟩;have EF := zh ef;have EL := zh eL;have hLb : L ≤ 164 := by omega
 have hLn : n < L := by omega
 clear ef eL;go_enter Tryz.func63, Tryz.ntmps63
 go_wp2_with fail
 refine (refTurnO ao n cap ls kk (N : Int) _ h (by omega)).mono ?_;rintro e w1 ⟨a1, c1, qs, rfl, ht, htg, hb1⟩;rw [room_nat10 h64] at ht htg ⊢;rw [← zu EF] at htg;obtain ⟨g0, rfl⟩ := mOwn_some ht (by omega);have HTG := zh htg;have hbl := ht.base_le;have hb0 := hbl.1;have hg01 := hbl.2;have HT0 := zh (mOwn_tags ht);have HB := zh hb1;clear hb1 htg hbl
 go_wp2_with fail
 refine (refUnitF N _ (by omega)).mono ?_;rintro e w2 ⟨a2, c2, rfl, hu, hb2⟩;replace ht := ht.laterT hb2;replace HB := zh (Below.step (zu HB) hb2);obtain ⟨gu, rfl⟩ := mOwn_some hu (by omega);have hgu1 := hu.base_le.1;clear hb2
 go_wp2_with fail
 go_loopw [7] (fun t wr => ∃ (i : Nat) (qs : List (List Int)), i ≤ N ∧ t = .int .i64 (i : Int) ∧ MOwn (TagV w.heap.size kk) wr w.heap.size (some ⟨g0, 0, none⟩) N c1 qs ∧ TagsOf qs (fun j => if j < i then f j ++ (unitL N).getD j [] else f j) N ∧ (∀ j, i ≤ j → j < N → tagOf qs j ≤ w1.heap.size) ∧ MOwn (VFF w1.heap.size 3) wr w1.heap.size (some ⟨gu, 0, none⟩) N c2 (unitL N) ∧ Below w.heap.size w wr) (fun t _ => N - (intOf t).toNat)
 case atStart => exact ⟨0, qs, Nat.zero_le _, rfl, ht, (zu HTG).to fun j _ => by rw [if_neg (by omega)], fun j _ hj => zu HT0 j hj, hu, zu HB⟩
 case round =>
  clear ht hu HB HTG HT0;obtain ⟨i, qs, hi, rfl, hown, htg, htb, hu, hB⟩ := hrel;have HB := zh hB;have HT := zh htg;have HTJ := zh htb;clear hB htg htb;by_cases hlt : i < N
  ·have hi0 : (0 : Int) ≤ (i : Int) := by omega
   have hi1 : (i : Int) < (N : Int) := by omega
   obtain ⟨hg0, a5, l5, c5, hc5, htv⟩ := RowsOf.at (R := TagV w.heap.size kk) hown.rows hlt;rw [Nat.zero_add] at hc5;have hrow := (zu HT).row i hlt;rw [if_neg (Nat.lt_irrefl _)] at hrow;have htj := zu HTJ i (Nat.le_refl _) hlt;obtain ⟨t5, zs5, e5, ho5, ht5⟩ := htv;rw [hrow] at e5;have ef5 := (List.cons.inj e5).2;have et5 := (List.cons.inj e5).1;subst ef5;have HTB : Hid (∀ g, (Value.slice a5 l5 c5).ownBlock = some g → g < w1.heap.size) := zh fun g e => by
    rcases ht5 with ⟨ea, _⟩ | ⟨_, g2, ea, et2⟩
    ·rw [ea] at e; simp [Value.ownBlock] at e
    ·rw [ea] at e;simp only [Value.ownBlock, Option.some.injEq] at e;omega
   have hl5 : n = l5 := by
    rw [← ho5.len, zu EF, List.length_map, zu HL]
   subst hl5;obtain ⟨hgu, a6, l6, c6, hc6, hv6⟩ := RowsOf.at (R := VFF w1.heap.size 3) hu.rows hlt;rw [Nat.zero_add] at hc6;have hl6 : N = l6 := by rw [← hv6.1.len_eq]; exact (unit_len hlt).symm
   subst hl6;clear e5 et5 htj hrow ht5
   go_upto_region 5 with fail
   have HW : Below wr.heap.size wr wr.drew := (Below.refl _ _).drew;have HS := zh fun w' (HW : Below wr.heap.size wr w') => con2 ((HW.cell (p := ⟨g0, i, none⟩) hg0).trans hc5) ((HW.cell (p := ⟨gu, i, none⟩) hgu).trans hc6);refine zst HS HW 12 (by kernel_rfl) fun zH => ?_;refine ztl (i := 0) [11, 12] rfl ?_;simp only [Act.put, aGet, aZero, aSet, aHead, aTail];refine ztl (i := 1) [11, 12] rfl ?_;simp only [Act.put, aAll];refine ztl (i := 2) [4, 5, 10, 11, 12] rfl ?_;simp only [Act.put, aAll];refine ztl (i := 3) [4, 5, 10, 11, 12] rfl ?_;simp only [Act.put, aAll];refine ztl (i := 4) [5, 10, 11, 12] rfl ?_;simp only [Act.put, aAll];refine ztl (i := 5) [10, 11, 12] rfl ?_;simp only [Act.put, aAll];refine ztl (i := 6) [8, 9, 10, 11, 12] rfl ?_;simp only [Act.put, aAll];refine ztl (i := 7) [8, 9, 10, 11, 12] rfl ?_;simp only [Act.put, aAll];refine ztl (i := 8) [9, 10, 11, 12] rfl ?_;simp only [Act.put, aAll];refine ztl (i := 9) [10, 11, 12] rfl ?_;simp only [Act.put, aAll];refine tin (i := 10) rfl fun K hK => ?_;have hoW := OwnOf.za (R := fun w b a l c z => FK w b a l c z kk) (fun h hb => h.za hb) ho5 HW;have hownW := hown.laterT HW;have huW := hu.laterF HW;have hcW := (HW.cell (p := ⟨g0, i, none⟩) hg0).trans hc5;have hHW := Below.step (zu HB) HW;have hsW := hHW.size;have hguW := Nat.lt_of_lt_of_le hgu HW.size;refine step_vecs_at (R := fun w b a l c z => FK w b a l c z kk) (steady_fk kk) (by rfl) _ _ 24 Tryz.underlying24 (by rfl) w.heap.size a5 n c5 (f i) (by rfl) hoW a6 N c6 ((unitL N).getD i []) (by rfl) (vf_up (hv6.1.za HW) hk3) (by omega) (by omega) hsW ?_;intro an cn w8 hown8 hgr8 hat8;obtain ⟨q1, q2, q3, q4, tt, q5, q6⟩ := tag_putR (R := fun w b a l c z => FK w b a l c z kk) (fun h hg hn => FK.grown h hg hn) hownW hlt (zu HT) hcW hgr8 hown8 (by omega) hat8;have hnl := hoW.noLimb;have hu8 := ff_kept huW (Nat.le_refl _) hgr8 (fun g e => ⟨zu HTB g e, hnl g e⟩);have hs8 := hgr8.size;have hx6 : w8.cell? ⟨gu, i, none⟩ = some (.slice a6 N c6) := (World.cell?_of_block (a := ⟨gu, i, none⟩) (hgr8.block gu hguW (fun e => by have := zu HTB gu e.symm; omega))).trans ((HW.cell (p := ⟨gu, i, none⟩) hgu).trans hc6);have hu9 := ff_kept hu8 (Nat.le_refl _) (grown_set1 w8 g0 i (.slice an (n + N) cn)) (fun g e => by
    simp only [Option.some.injEq] at e;subst e;exact ⟨hg01, q4.noLimb _ rfl⟩)
   have HB9 := zh ((hHW.grown hgr8 hsW hoW.ge).setCell (p := ⟨g0, i, none⟩) (by simpa using hb0) (.slice an (n + N) cn));have hg08 : g0 < w8.heap.size := by omega
   have HQ6 := zh q6;clear hat8 hu8 hownW huW hoW hHW q3 q4 q6 hown8;refine hK.out _ _ ?_ (fun zH => ?_)
   ·exact ⟨q1, hx6⟩
   clear hK K
   try simp only [Act.put, aAll]
   refine ztl (i := 11) [12] rfl ?_;simp only [Act.put, aAll];refine tout (i := 12) rfl fun K hK => ?_;go_simp;refine hK.out _ _ ?_;clear hK K
   try simp only [Act.put, aAll]
   refine till_done (by kernel_rfl) ?_ _;clear zH hc5 hc6 q1 q2 hx6;go_wp2;go_roundw
   case rel =>
    refine ⟨i + 1, _, by omega, by go_num, q5, (zu HQ6).to fun j hj => ?_, fun j h1 h2 => ?_, hu9, zu HB9⟩
    ·by_cases e : j = i
     ·subst e; rw [if_pos rfl, if_pos (by omega)]
     ·rw [if_neg e];by_cases e2 : j < i
      ·rw [if_pos e2, if_pos (by omega)]
      ·rw [if_neg e2, if_neg (by omega)]
    ·have := zu HTJ j (by omega) h2;unfold tagOf at this ⊢;rw [getD_set_other (by omega)];exact this
   case measure => simp [intOf]; omega
  ·have hin : i = N := by omega
   subst hin;have hi1 : ¬ (i : Int) < (i : Int) := by omega
   obtain ⟨W, eW⟩ : ∃ W, W = wideOf (vturn ls i) i := ⟨_, rfl⟩;rw [← eW] at HG;have hms : MS wr (some ⟨g0, 0, none⟩) i c1 W kk := tag_rows hown.rows (zu HT) (by rw [eW]; simp [wideOf]) (fun j hj => by
    rw [eW, wideOf_at hj, vturn_at ls hj, if_pos hj, zu EF]) (by omega)
   have hwide := wideL_turn ls i;rw [← eW, zu HL] at hwide;have HLW := zh (show ∀ j, j < i → (W.getD j []).length = L from fun j hj => by
    rw [eW, wideOf_at hj, List.length_append, turn_lens ls i j hj, unit_len hj, zu HL, zu EL])
   have HWD := zh hwide;rw [← zu HA0] at hms;rw [← zu EL] at HG;clear hown hu HT HTJ hwide eW
   go_wp2_with fail
   refine (refHnfG _ i c1 W aF bF L _ hms (zu HG) (zu HLW) (by omega) (by omega) (zu HA) (zu HBF)).mono ?_;rintro e w4 ⟨a4, m4, c4, p, H, rfl, h4, hf, hs, hl4, hm4, hb9⟩;have hcount := (zu HWD).count hf hs;obtain rfl : i = m4 := by rw [← hcount]; exact h4.len_eq
   obtain ⟨m0, hm0, hp0⟩ := front_rows hf n i (by omega);have HL4 := zh (rows_len hl4);obtain ⟨r, q', hr, hsr, _⟩ := hform_exists ls i (lens_zero (zu HLS));have hker := WideL.ker (by rw [zu HL]; exact zu HWD) hf hs hm0 (by rw [zu HL]; exact hp0) (fun j hj => by rw [zu HL, zu HL4 j (by omega), zu EL]) (lens_zero (zu HLS)) hr.eform hsr;rw [zu HL] at hker;have HK := zh hker;have HF := zh hf;have HP0 := zh hp0;have HC0 := zh hcount;replace HB := zh (Below.step (zu HB) hb9);clear hb9 hms hf hs hl4 hp0 hcount hker hr hsr HG HLW HWD
   go_wp2_with fail
   go_loopw [8, 10] (fun s t wr => ∃ (j : Nat) (ah : Option Addr) (ch : Nat), j ≤ i ∧ t = .int .i64 (j : Int) ∧ s = .slice ah (j - m0) ch ∧ MO wr w4.heap.size ah (j - m0) ch (((H.take j).drop m0).map (List.drop n)) 222000 ∧ Below w4.heap.size w4 wr) (fun _ t _ => i - (intOf t).toNat)
   case atStart => exact ⟨0, none, 0, Nat.zero_le _, rfl, by simp, by simpa using mo_nil _ _ _, Below.refl _ _⟩
   case round =>
    obtain ⟨j, ah, ch, hj, rfl, rfl, hown, hB⟩ := hrel;have HC := zh hB;clear hB;by_cases hlt2 : j < i
    ·obtain ⟨g, off, rfl⟩ := h4.addr (by omega);obtain ⟨hg, a5, l5, c5, hc5, hv5⟩ := RowsOf.at (R := fun w a l c zs => VF w a l c zs 222000) h4 hlt2;have hl5 : L = l5 := by rw [← hv5.len_eq]; exact (zu HL4 j (by rw [zu HC0]; exact hlt2)).symm
     subst hl5;obtain ⟨g5, o5, rfl⟩ := hv5.some (by omega);have f2 := ((zu HC).cell (p := ⟨g, off + j, none⟩) hg).trans hc5;have hgr := Nat.lt_of_lt_of_le hg (zu HC).size;have hj0 : (0 : Int) ≤ (j : Int) := by omega
     have hj1 : (j : Int) < (i : Int) := by omega
     have hjr : j < H.length := by rw [zu HC0]; exact hlt2
     have HPI := zh ((zu HF).isPivot hjr);have hcap5 := hv5.cap_le;have hsl := slice_tailV (g := g5) (off := o5) (n := L) (cap := c5) (q := n) hLn hcap5;have hLN : L - n = i := by rw [zu EL]; omega
     rw [hLN] at hsl;have HSL := zh hsl;have HV5 := zh hv5;clear hsl hc5
     go_wp2_with fail
     refine (rpivotK _ L _ (H.getD j []) 222000 _ ((hv5.za (zu HC)).vk (by omega))).mono ?_;rintro e w5 ⟨z, rfl, hpz, hb9⟩;have hz : z = (p j : Int) := by
      rcases hpz with ⟨_, h0⟩ | ⟨q, e, hq⟩
      ·exact absurd (h0 _) (zu HPI).2
      ·rw [e, isPivot_inj hq (zu HPI)]
     subst hz;replace hown := hown.za hb9;replace f2 := (hb9.cell (p := ⟨g, off + j, none⟩) hgr).trans f2;replace hgr := Nat.lt_of_lt_of_le hgr hb9.size;replace HC := zh (Below.step (zu HC) hb9);clear hb9 hpz hv5;by_cases hpj : p j < n
     ·have hge : ¬ (n : Int) ≤ (p j : Int) := by omega
      have hjm : j < m0 := (zu HP0 j hlt2).2 hpj;clear f2 hgr;go_wp2;go_roundw
      case rel =>
       refine ⟨j + 1, ah, ch, by omega, by go_num, by rw [show j + 1 - m0 = j - m0 by omega], ?_, zu HC⟩;rw [show j + 1 - m0 = j - m0 by omega, List.drop_eq_nil_of_le (by rw [List.length_take]; omega)];rw [List.drop_eq_nil_of_le (by rw [List.length_take]; omega)] at hown;exact hown
      case measure => simp [intOf]; omega
     ·have hge : (n : Int) ≤ (p j : Int) := by omega
      have hjm : m0 ≤ j := by
       rcases Nat.lt_or_ge j m0 with c | c
       ·exact absurd ((zu HP0 j hlt2).1 c) hpj
       ·exact c
      have hsl := zu HSL;have htail := vf_drop ((zu HV5).za (zu HC)) (q := n) (by omega);rw [hLN] at htail;obtain ⟨zs, ezs⟩ : ∃ zs, zs = (H.getD j []).drop n := ⟨_, rfl⟩;obtain ⟨LL, eLL⟩ : ∃ LL, LL = ((H.take j).drop m0).map (List.drop n) := ⟨_, rfl⟩;rw [← ezs] at htail;rw [← eLL] at hown;have EZ := zh ezs;have ELL := zh eLL;obtain ⟨W6, hW6⟩ : ∃ W6, W6 = w5.alloc (.cells #[.slice (some ⟨g5, o5 + n * 2, none⟩) i (c5 - n)] 24) := ⟨_, rfl⟩;have hb9 : Below w5.heap.size w5 W6 := by rw [hW6]; exact below_new _ _
      have hone := mf_one htail;replace hown := hown.za hb9;replace HC := zh (Below.step (zu HC) hb9);clear hb9 htail ezs eLL;have hsz := (zu HC).size;rw [hW6] at hown hsz
      go_wp2_with (at_builtin; refine append_rows (R := fun w a l c zs => VF w a l c zs 222000) (steadyMO 222000) rfl (.tmp 53) (.tmp 61) 22 Tryz.underlying22 rfl w4.heap.size ah (j - m0) ch LL rfl hown _ 1 1 [zs] rfl hone (by omega) hsz ?_)
      intro an cn w8 hown2 hgr7;rw [← hW6] at hgr7 hown hsz;clear hW6 hone;have HE := (zu HC).grown hgr7 hsz (MO.ge hown);clear hgr7 f2 hgr hsl;go_wp2;go_roundw
      case rel =>
       refine ⟨j + 1, an, cn, by omega, by go_num, by rw [show j + 1 - m0 = j - m0 + 1 by omega], ?_, HE⟩;rw [show j + 1 - m0 = j - m0 + 1 by omega, take_snoc [] hjr, List.drop_append_of_le_length (by rw [List.length_take]; omega), List.map_append, ← zu ELL, List.map_singleton, ← zu EZ];exact hown2
      case measure => simp [intOf]; omega
    ·have hjn : j = i := by omega
     subst hjn;have hj1 : ¬ (j : Int) < (j : Int) := by omega
     rw [List.take_of_length_le (by rw [zu HC0]; exact Nat.le_refl _)] at hown;go_wp2;go_ret;obtain ⟨k1, k2, k3, _, _⟩ := zu HK;exact ⟨_, _, _, rfl, _, _, hown.mf, k1, k2, k3, Below.step (zu HB) (zu HC)⟩

end Go.Proofs.YtkomdimalgnamaaGreat
