/-
 What the reference's Times, Neg and Unit tell: in memory of their own.
-/
import Derived.Test.YtkomdimalgnamaaGreatJN
import Derived.Test.YtkomdimalgnamaaGreatRVFresh
import Derived.Deep.CutRange
namespace Go.Proofs.YtkomdimalgnamaaGreat
open Go.RowKit Lb
set_option maxRecDepth 20000

set_option maxHeartbeats 1600000 in
theorem rvtimesF (ao : Option Addr) (n cap : Nat) (zs : List Int) (k : Nat) (b0 : Bool) (a0 : Option Addr) (l0 c0 : Nat) (x : Int) (l : Nat) (w : World) (h : VS w ao n cap zs k) (hx : SK w b0 a0 l0 c0 x l) (hk : k ≤ 400000) (hl : l ≤ 400000) (hn : n ≤ 1000000) :
  Calls Tryz.prog 49 #[.slice ao n cap, .agg #[.bool b0, .slice a0 l0 c0]] w fun e w' => ∃ a1 c1, e = .returned (.slice a1 n c1) ∧ VF w' a1 n c1 (vtimes zs x) (k + l) ∧ (∀ g off, a1 = some ⟨g, off, none⟩ → w.heap.size ≤ g) ∧ Below w.heap.size w w' := by
 have HL := zh h.len_eq;go_enter Tryz.func49, Tryz.ntmps49
 go_upto_region 1 with fail
 obtain ⟨W, hWe⟩ : ∃ W, W = w.alloc (.cells #[.bool b0, .slice a0 l0 c0] 44) := ⟨_, rfl⟩;have hsW : W.heap.size = w.heap.size + 1 := by rw [hWe]; simp
 obtain ⟨B0, hb0⟩ := boxes1 w b0 a0 l0 c0 hWe;rw [← hWe];clear hWe;replace hx := hx.za hb0
 go_wp2_with fail
 go_loopw [5, 6] (fun u t wr => ∃ (i : Nat) (ao' : Option Addr) (cap' : Nat) (rs : List Int), i ≤ n ∧ t = .int .i64 (i : Int) ∧ u = .slice ao' i cap' ∧ Box wr w.heap.size b0 a0 l0 c0 ∧ SK wr b0 a0 l0 c0 x l ∧ W.heap.size ≤ wr.heap.size ∧ OwnV wr W.heap.size ao' i cap' rs (k + l) ∧ (∀ j, j < i → rs.getD j 0 = zs.getD j 0 * x) ∧ Below w.heap.size w wr) (fun _ t _ => n - (intOf t).toNat)
 case atStart => exact ⟨0, none, 0, [], Nat.zero_le _, rfl, rfl, B0, hx, Nat.le_refl _, ownV_nil _ _ _, fun j hj => absurd hj (by omega), hb0⟩
 case round =>
  clear hx B0 hb0;obtain ⟨i, ao', cap', rs, hi, rfl, rfl, B0, hx, hWr, hown, hall, hB⟩ := hrel;have HA := zh hall;clear hall;have HB := zh hB;clear hB;by_cases hlt : i < n
  ·obtain ⟨g2, off2, rfl⟩ := h.some (by omega);obtain ⟨b2, a2, l2, c2, E2, hy2⟩ := (h.za (zu HB)).at hlt;have hi0 : (0 : Int) ≤ (i : Int) := by omega
   have hi1 : (i : Int) < (n : Int) := by omega
   have hsz0 := (zu HB).size;have HW : Below wr.heap.size wr wr.drew := (Below.refl _ _).drew;replace hown := hown.za HW
   go_upto_region 5 with fail
   have HS := zh fun w' (HW : Below wr.heap.size wr w') => con4 (E2.za HW).zb.1 (E2.za HW).zb.2 (B0.za HW).zb.1 (B0.za HW).zb.2.1;refine zst HS HW 8 (by kernel_rfl) fun zH => ?_;refine ztl (i := 0) [8, 9] rfl ?_;simp only [Act.put, aGet, aZero, aSet, aHead, aTail];refine ztl (i := 1) [3, 4, 6, 7, 8, 9] rfl ?_;simp only [Act.put, aAll];refine ztl (i := 2) [3, 4, 6, 7, 8, 9] rfl ?_;simp only [Act.put, aAll];refine ztl (i := 3) [4, 6, 7, 8, 9] rfl ?_;simp only [Act.put, aAll];refine ztl (i := 4) [6, 7, 8, 9] rfl ?_;simp only [Act.put, aAll];refine ztl (i := 5) [6, 7, 8, 9] rfl ?_;simp only [Act.put, aAll];refine tin (i := 6) rfl fun K hK => ?_;go_simp;refine (rmulK b2 a2 l2 c2 (zs.getD i 0) k b0 a0 l0 c0 x l _ (hy2.1.za HW) (hx.1.za HW) (by have := hy2.2; have := hx.2; omega)).mono ?_;rintro e w9 ⟨b5, a5, l5, c5, rfl, h5, hb9⟩;replace HW := Below.step HW hb9;replace hown := hown.za hb9;clear hb9;refine hK.out _ _ ?_ (fun zH => ?_)
   ·exact zu HS _ HW
   clear hK K
   try simp only [Act.put, aAll]
   refine tin (i := 7) rfl fun K hK => ?_;go_simp;obtain ⟨wa, hWa⟩ : ∃ W', W' = w9.alloc (.cells #[.bool b5, .slice a5 l5 c5] 44) := ⟨_, rfl⟩;obtain ⟨D5, hb9⟩ := boxes1 w9 b5 a5 l5 c5 hWa;rw [← hWa];clear hWa;replace HW := Below.step HW hb9;replace h5 := h5.za hb9;replace hown := hown.za hb9;have hE5 : EltAt wa w9.heap.size 0 b5 a5 l5 c5 := ⟨D5.lt, D5.zb.1, D5.zb.2.1⟩;clear hb9 D5;have hsz := HW.size;have hsz2 := (zu HB).size;refine hK.out _ _ ?_ (fun zH => ?_)
   ·exact zu HS _ HW
   clear hK K
   try simp only [Act.put, aAll]
   refine tout (i := 8) rfl fun K hK => ?_;refine step_vec (by rfl) _ _ 24 Tryz.underlying24 (by rfl) W.heap.size ao' i cap' (k + l) rs (by rfl) hown (by omega) (Nat.le_trans hWr hsz) w9.heap.size 0 1 b5 a5 l5 c5 (zs.getD i 0 * x) (by rfl) hE5 h5 ?_;intro gn cn w8 hown2 hgr hat;have hge := own_ge hown;have hnl := hown.2.2;have HBW := zh (Below.step (zu HB) HW);have B1 := B0.za HW;have hx1 := hx.1.za HW;clear HW hsz2;refine hK.out _ _ ?_;clear hK K
   try simp only [Act.put, aAll]
   refine tout (i := 9) rfl fun K hK => ?_;go_simp;refine hK.out _ _ ?_;clear hK K
   try simp only [Act.put, aAll]
   refine till_done (by kernel_rfl) ?_ _;have hgz := hgr.size;have hB8 : Below w.heap.size w w8 := (zu HBW).grown hgr (Nat.le_trans hsz0 hsz) (fun g e => Nat.le_trans (by omega) (hge g e));have B8 := B1.grown hgr (fun e => by have := hge _ e; omega);have hx8 : SK w8 b0 a0 l0 c0 x l := ⟨hx1.grown hgr (fun g e => own_noLimb hown e), hx.2⟩;go_wp2;go_roundw
   case rel => exact ⟨i + 1, _, _, _, by omega, by go_num, rfl, B8, hx8, by omega, hown2, snoc_each (f := fun j => zs.getD j 0 * x) hown.len (zu HA), hB8⟩
   case measure => simp [intOf]; omega
  ·have hi1 : ¬ (i : Int) < (n : Int) := by omega
   have hin : i = n := by omega
   subst hin;have hps : rs = vtimes zs x := map_of_each (f := fun z => z * x) (zu HL) hown.len (zu HA);subst hps;go_wp2;go_ret;exact ⟨_, _, rfl, hown.vf, fun g off e => by have := own_fresh hown e; omega, zu HB⟩

set_option maxHeartbeats 800000 in
theorem rvnegF (ao : Option Addr) (n cap : Nat) (zs : List Int) (k : Nat) (w : World) (h : VS w ao n cap zs k) (hk : k ≤ 400000) (hn : n ≤ 1000000) :
  Calls Tryz.prog 14 #[.slice ao n cap] w fun e w' => ∃ a1 c1, e = .returned (.slice a1 n c1) ∧ VF w' a1 n c1 (vneg zs) (k + 2) ∧ (∀ g off, a1 = some ⟨g, off, none⟩ → w.heap.size ≤ g) ∧ Below w.heap.size w w' := by
 go_enter Tryz.func14, Tryz.ntmps14
 go_wp2_with fail
 refine (rofK (-1) _ (by omega) (by omega)).mono ?_;rintro e w1 ⟨b1, a1, l1, c1, rfl, h1, hb1⟩
 go_wp2_with fail
 refine (rvtimesF _ _ _ zs k _ _ _ _ (-1) 2 _ (h.za hb1) (h1.sk (by omega)) hk (by omega) hn).mono ?_;rintro e w2 ⟨a2, c2, rfl, h2, hfr, hb2⟩;rw [← vneg_times] at h2;go_wp2;go_ret;have hs1 := hb1.size;exact ⟨_, _, rfl, h2, fun g off e => Nat.le_trans hs1 (hfr g off e), Below.step hb1 hb2⟩

def VFF (base k : Nat) (w : World) (a : Option Addr) (l c : Nat) (zs : List Int) : Prop := VF w a l c zs k ∧ ∀ g off, a = some ⟨g, off, none⟩ → base ≤ g
theorem steadyFF (base k : Nat) : SteadyV (VFF base k) := fun h hg hs => ⟨steadyV_vf k h.1 hg hs, h.2⟩
theorem VFF.za {base k : Nat} {w w' : World} {a : Option Addr} {l c : Nat} {zs : List Int} (h : VFF base k w a l c zs) (hb : Below w.heap.size w w') : VFF base k w' a l c zs := ⟨h.1.za hb, h.2⟩
theorem MOwn.laterF {base k : Nat} {w w' : World} {b0 : Nat} {ao : Option Addr} {n cap : Nat} {rs : List (List Int)} (h : MOwn (VFF base k) w b0 ao n cap rs) (hb : Below w.heap.size w w') : MOwn (VFF base k) w' b0 ao n cap rs := MOwn.za (R := VFF base k) (fun h hb => h.za hb) h hb
theorem ff_one {base k : Nat} {w : World} {a : Option Addr} {l c : Nat} {zs : List Int} (h : VFF base k w a l c zs) : RowsOf (VFF base k) (w.alloc (.cells #[.slice a l c] 24)) (some ⟨w.heap.size, 0, none⟩) 1 1 [zs] := by
 refine rowsOf_new (R := VFF base k) (vs := [(a, l, c)]) rfl rfl rfl (by simp) fun i a2 l2 c2 e => ?_
 match i with
 | 0 =>
  simp at e;obtain ⟨rfl, rfl, rfl⟩ := e;exact h.za (below_new w _)
 | i + 1 => simp at e
theorem unit_small {k i : Nat} (hi : i < k) (j : Nat) : (((unitL k).getD i []).getD j 0).natAbs < Bp 3 := by
 have h1 : (((unitL k).getD i []).getD j 0) = if j = i then 1 else 0 := ent_unit hi j
 have h2 : 4 < Bp 1 := by unfold Bp; decide
 have h3 : Bp 1 ≤ Bp 3 := Bp_le (by omega);rw [h1]
 split <;> simp <;> omega
set_option maxRecDepth 40000 in
set_option maxHeartbeats 2000000 in
theorem refUnitF (k : Nat) (w : World) (hk : k ≤ 1000) :
  Calls Tryz.prog 91 #[.int .i64 (k : Int)] w fun e w' => ∃ a1 c1, e = .returned (.slice a1 k c1) ∧ MOwn (VFF w.heap.size 3) w' w.heap.size a1 k c1 (unitL k) ∧ Below w.heap.size w w' := by
 go_enter Tryz.func91, Tryz.ntmps91
 go_wp2_with fail
 go_loopw [3, 4] (fun s t wr => ∃ (i : Nat) (ao' : Option Addr) (cap' : Nat), i ≤ k ∧ t = .int .i64 (i : Int) ∧ s = .slice ao' i cap' ∧ MOwn (VFF w.heap.size 3) wr w.heap.size ao' i cap' ((unitL k).take i) ∧ Below w.heap.size w wr) (fun _ t _ => k - (intOf t).toNat)
 case atStart => exact ⟨0, none, 0, Nat.zero_le _, rfl, rfl, mOwn_nil _ _ _, Below.refl _ _⟩
 case round =>
  obtain ⟨i, ao', cap', hi, rfl, rfl, hout, hB⟩ := hrel;have HB := zh hB;clear hB;by_cases hlt : i < k
  ·have hi0 : (0 : Int) ≤ (i : Int) := by omega
   have hi1 : (i : Int) < (k : Int) := by omega
   go_wp2_with (at_make; refine make_vec rfl _ _ 24 Tryz.underlying24 rfl wr.heap.size .i64 .i64 _ _ k 2 rfl rfl (by omega) (by omega) (by omega) (by omega) ?_)
   intro w2 hv hgrow;have hbg : Below wr.heap.size wr w2 := (Below.refl _ _).grown hgrow (Nat.le_refl _) (fun _ h => by simp at h);have HC := zh hbg;clear hgrow hbg;obtain ⟨gv, egv⟩ : ∃ gv, gv = wr.heap.size := ⟨_, rfl⟩;rw [show (some ⟨wr.heap.size, 0, none⟩ : Option Addr) = some ⟨gv, 0, none⟩ by rw [egv]] at hv ⊢;clear egv
   go_wp2_with fail
   refine (rofK 1 _ (by omega) (by omega)).mono ?_;rintro e w3 ⟨b5, a5, l5, c5, rfl, h5, hb1⟩;replace hv := hv.za hb1;replace HC := zh (Below.step (zu HC) hb1);clear hb1;obtain ⟨b6, a6, l6, c6, he6, _⟩ := hv.vf.at hlt;rw [Nat.zero_add] at he6;obtain ⟨q1, q2⟩ := he6.zb;have q3 := hv.free (i * 2);have q4 := hv.free (i * 2 + 1);have hbl := hv.base_le;have hv2 := hv.set hlt h5;have hz := ((zu HC).setCell (p := ⟨gv, i * 2, none⟩) (by simpa using hbl.1) (.bool b5)).setCell (p := ⟨gv, i * 2 + 1, none⟩) (by simpa using hbl.1) (.slice a5 l5 c5);have hout2 := hout.laterF hz;have HC2 := zh (Below.step (zu HB) hz);rw [unit_row hlt] at hv2;clear hz HC hout HB
   go_wp2_with fail
   refine (rvnegK _ k k ((unitL k).getD i []) 2 _ (hv2.vf.vs (by omega)) (by omega) (by omega)).mono ?_;rintro e w6 ⟨a7, c7, rfl, h7, hb9⟩;replace hout2 := hout2.laterF hb9;replace HC2 := zh (Below.step (zu HC2) hb9);have HC1 := HC2;clear hb9 hv2 hv h5 q1 q2 q3 q4 he6 hbl
   go_wp2_with fail
   refine (rvnegF a7 k c7 (vneg ((unitL k).getD i [])) (2 + 2) _ (h7.vs (by omega)) (by omega) (by omega)).mono ?_;rintro e w7 ⟨a8, c8, rfl, h8, hfr8, hb9⟩;replace hout2 := hout2.laterF hb9;replace HC2 := zh (Below.step (zu HC2) hb9);rw [vneg_neg] at h8;replace h8 : VFF w.heap.size 3 w7 a8 k c8 ((unitL k).getD i []) := ⟨h8.le fun j _ => unit_small hlt j, fun g off e => Nat.le_trans (zu HC1).size (hfr8 g off e)⟩;clear hfr8;obtain ⟨z, ez⟩ : ∃ z, z = (unitL k).getD i [] := ⟨_, rfl⟩;obtain ⟨LL, eL⟩ : ∃ LL, LL = (unitL k).take i := ⟨_, rfl⟩;rw [← ez] at h8;rw [← eL] at hout2;have EZ := zh ez;have EL := zh eL;clear hb9 h7 ez eL HC1;obtain ⟨W6, hW6⟩ : ∃ W6, W6 = w7.alloc (.cells #[.slice a8 k c8] 24) := ⟨_, rfl⟩;have hb9 : Below w7.heap.size w7 W6 := by rw [hW6]; exact below_new _ _
   have hone := ff_one h8;replace hout2 := hout2.laterF hb9;have HD := zh (Below.step (zu HC2) hb9);clear hb9 h8;have hsz := (zu HD).size;rw [hW6] at hout2 hsz
   go_wp2_with (at_builtin; refine append_rows (R := VFF w.heap.size 3) (steadyFF w.heap.size 3) rfl (.tmp 17) (.tmp 21) 22 Tryz.underlying22 rfl w.heap.size ao' i cap' LL rfl hout2 _ 1 1 [z] rfl hone (by omega) hsz ?_)
   intro an cn w8 hout3 hgr7;rw [← hW6] at hgr7 hout2 hsz;clear hW6 hone;have HE := (zu HD).grown hgr7 hsz (MOwn.ge hout2);clear hgr7;go_wp2;go_roundw
   case rel => exact ⟨i + 1, _, _, by omega, by go_num, rfl, by rw [take_snoc [] (by rw [unitL_len]; exact hlt), ← zu EL, ← zu EZ]; exact hout3, HE⟩
   case measure => simp [intOf]; omega
  ·have hin : i = k := by omega
   subst hin;have hi1 : ¬ (i : Int) < (i : Int) := by omega
   rw [List.take_of_length_le (by rw [unitL_len]; exact Nat.le_refl _)] at hout;go_wp2;go_ret;exact ⟨_, _, rfl, hout, zu HB⟩

end Go.Proofs.YtkomdimalgnamaaGreat
