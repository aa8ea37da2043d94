/-
 What Rest and Columns of the reference tell. (IN PARTS)
-/
import Derived.Test.YtkomdimalgnamaaGreatSpan
import Derived.Test.YtkomdimalgnamaaGreatJH
import Derived.Test.YtkomdimalgnamaaGreatJM
namespace Go.Proofs.YtkomdimalgnamaaGreat
open Go.RowKit Lb
set_option maxRecDepth 20000

def colsL (f : Nat → Nat) (m : Nat) (r : List Int) : List Int := (List.range m).map fun j => r.getD (f j) 0
theorem colsL_len (f : Nat → Nat) (m : Nat) (r : List Int) : (colsL f m r).length = m := by simp [colsL]
theorem colsL_at (f : Nat → Nat) {m j : Nat} (r : List Int) (h : j < m) : (colsL f m r).getD j 0 = r.getD (f j) 0 := by simp [colsL, List.getD, h]
set_option maxRecDepth 40000 in
set_option maxHeartbeats 4000000 in
theorem rcolumnsK (ao : Option Addr) (n cap : Nat) (rs : List (List Int)) (k : Nat) (ai : Option Addr) (m ci : Nat) (zs : List Int) (f : Nat → Nat) (w : World) (h : MK w ao n cap rs k) (hi : IRowAt w ai m ci zs) (hfz : ∀ j, j < m → zs.getD j 0 = (f j : Int)) (hfb : ∀ j, f j ≤ 1000000) (hn : n ≤ 1000) (hm : m ≤ 1000) :
  Calls Tryz.prog 25 #[.slice ao n cap, .slice ai m ci] w fun e w' => ∃ a1 c1, e = .returned (.slice a1 n c1) ∧ MF w' a1 n c1 (rs.map (colsL f m)) k ∧ Below w.heap.size w w' := by
 have HFZ := zh hfz;have HFB := zh hfb;obtain ⟨cl, ecl⟩ : ∃ cl, cl = rs.map (colsL f m) := ⟨_, rfl⟩;have HCL := zh (show cl.length = n by rw [ecl, List.length_map]; exact h.len_eq);have HCA : Hid (∀ i, i < n → cl.getD i [] = colsL f m (rs.getD i [])) := zh fun i hi => by
  have : i < rs.length := by rw [h.len_eq]; exact hi
  rw [ecl]; simp [List.getD, this]
 rw [← ecl];clear ecl hfz hfb;go_enter Tryz.func25, Tryz.ntmps25
 go_wp2_with fail
 go_loopw [5, 6] (fun s t wr => ∃ (i : Nat) (ah : Option Addr) (ch : Nat), i ≤ n ∧ t = .int .i64 (i : Int) ∧ s = .slice ah i ch ∧ MO wr w.heap.size ah i ch (cl.take i) k ∧ Below w.heap.size w wr) (fun _ t _ => n - (intOf t).toNat)
 case atStart => exact ⟨0, none, 0, Nat.zero_le _, rfl, rfl, mo_nil _ _ _, Below.refl _ _⟩
 case round =>
  obtain ⟨i, ah, ch, hin, rfl, rfl, hown, hC⟩ := hrel;have HC := zh hC;clear hC;by_cases hlt : i < n
  ·have hi1 : (i : Int) < (n : Int) := by omega
   obtain ⟨W1, eW1⟩ : ∃ W1, W1 = wr := ⟨_, rfl⟩;subst eW1
   go_wp2_with fail
   go_loopw [7, 8] (fun s t wq => ∃ (j : Nat) (av : Option Addr) (cv : Nat) (ps : List Int), j ≤ m ∧ t = .int .i64 (j : Int) ∧ s = .slice av j cv ∧ OwnV wq W1.heap.size av j cv ps k ∧ (∀ t, t < j → ps.getD t 0 = (rs.getD i []).getD (f t) 0) ∧ Below W1.heap.size W1 wq) (fun _ t _ => m - (intOf t).toNat)
   case atStart => exact ⟨0, none, 0, [], Nat.zero_le _, rfl, rfl, ownV_nil _ _ _, fun t ht => absurd ht (by omega), Below.refl _ _⟩
   case round =>
    obtain ⟨j, av, cv, ps, hj, rfl, rfl, hov, hall, hD⟩ := hrel;have HA := zh hall;have HD := zh hD;clear hall hD;by_cases hjl : j < m
    ·obtain ⟨g, off, rfl⟩ := h.addr (by omega);obtain ⟨hg, a5, l5, c5, hc5, hv5⟩ := RowsOf.at (R := fun w a l c zs => VK w a l c zs k) h hlt;obtain ⟨gi, oi, rfl⟩ := hi.addr (by omega);obtain ⟨hgi0, xi⟩ := hi.at hjl;rw [zu HFZ j hjl] at xi;have HBD := Below.step (zu HC) (zu HD);replace hv5 := hv5.za HBD;have f2 := (HBD.cell (p := ⟨g, off + i, none⟩) hg).trans hc5;have hgr := Nat.lt_of_lt_of_le hg HBD.size;have f3 := (HBD.cell (p := ⟨gi, oi + j, none⟩) hgi0).trans xi;have hgi := Nat.lt_of_lt_of_le hgi0 HBD.size;have hi0 : (0 : Int) ≤ (i : Int) := by omega
     have hj0 : (0 : Int) ≤ (j : Int) := by omega
     have hj1 : (j : Int) < (m : Int) := by omega
     have hfj := zu HFB j;clear hc5 xi hgi0 hg HBD;have HW : Below wr.heap.size wr wr.drew := (Below.refl _ _).drew;replace hov := hov.za HW
     go_upto_region 9 with fail
     have hpl := hov.len;have HS := zh fun w' (HW : Below wr.heap.size wr w') => con2 ((HW.cell (p := ⟨g, off + i, none⟩) hgr).trans f2) ((HW.cell (p := ⟨gi, oi + j, none⟩) hgi).trans f3);refine zst HS HW 11 (by kernel_rfl) fun zH => ?_;refine ztl (i := 0) [11, 12] rfl ?_;simp only [Act.put, aGet, aZero, aSet, aHead, aTail];refine ztl (i := 1) [3, 4, 9, 10, 11, 12] rfl ?_;simp only [Act.put, aAll];refine ztl (i := 2) [3, 4, 9, 10, 11, 12] rfl ?_;simp only [Act.put, aAll];refine ztl (i := 3) [4, 9, 10, 11, 12] rfl ?_;simp only [Act.put, aAll];refine ztl (i := 4) [9, 10, 11, 12] rfl ?_;simp only [Act.put, aAll];refine ztl (i := 5) [7, 8, 9, 10, 11, 12] rfl ?_;simp only [Act.put, aAll];refine ztl (i := 6) [7, 8, 9, 10, 11, 12] rfl ?_;simp only [Act.put, aAll];refine ztl (i := 7) [8, 9, 10, 11, 12] rfl ?_;simp only [Act.put, aAll];refine ztl (i := 8) [9, 10, 11, 12] rfl ?_;simp only [Act.put, aAll];refine tin (i := 9) rfl fun K hK => ?_;go_simp;refine (ratK a5 l5 c5 (rs.getD i []) k (f j) _ (hv5.za HW) (by omega)).mono ?_;rintro e w9 ⟨b7, a7, l7, c7, rfl, h7, hb9⟩;replace HW := Below.step HW hb9;replace hov := hov.za hb9;clear hb9;refine hK.out _ _ ?_ (fun zH => ?_)
     ·exact zu HS _ HW
     clear hK K
     try simp only [Act.put, aAll]
     refine tin (i := 10) rfl fun K hK => ?_;go_simp;obtain ⟨wa, hWa⟩ : ∃ W', W' = w9.alloc (.cells #[.bool b7, .slice a7 l7 c7] 44) := ⟨_, rfl⟩;obtain ⟨D5, hb9⟩ := boxes1 w9 b7 a7 l7 c7 hWa;rw [← hWa];clear hWa;replace HW := Below.step HW hb9;replace h7 := h7.za hb9;replace hov := hov.za hb9;have hE5 : EltAt wa w9.heap.size 0 b7 a7 l7 c7 := ⟨D5.lt, D5.zb.1, D5.zb.2.1⟩;clear hb9 D5;have hsz := HW.size;have hsz2 := (zu HD).size;refine hK.out _ _ ?_ (fun zH => ?_)
     ·exact zu HS _ HW
     clear hK K
     try simp only [Act.put, aAll]
     refine tout (i := 11) rfl fun K hK => ?_;refine step_vec (by rfl) _ _ 24 Tryz.underlying24 (by rfl) W1.heap.size av j cv k ps (by rfl) hov (by omega) (Nat.le_trans hsz2 hsz) w9.heap.size 0 1 b7 a7 l7 c7 ((rs.getD i []).getD (f j) 0) (by rfl) hE5 h7 ?_;intro gn cn w8 hown2 hgr8 hat;have hge := own_ge hov;have HBW := zh (Below.step (zu HD) HW);clear HW hsz2;refine hK.out _ _ ?_;clear hK K
     try simp only [Act.put, aAll]
     refine tout (i := 12) rfl fun K hK => ?_;go_simp;refine hK.out _ _ ?_;clear hK K
     try simp only [Act.put, aAll]
     refine till_done (by kernel_rfl) ?_ _;have HE := zh ((zu HBW).grown hgr8 (Nat.le_trans (zu HD).size hsz) hge);clear hgr8 hat f2 f3 hv5 hov hE5 h7 hgr hgi hge;go_wp2;go_roundw
     case rel =>
      refine ⟨j + 1, _, _, _, by omega, by go_num, rfl, hown2, fun t ht => ?_, zu HE⟩;by_cases c : t = j
      ·subst c;simp [List.getD, hpl]
      ·rw [show (ps ++ [(rs.getD i []).getD (f j) 0]).getD t 0 = ps.getD t 0 by simp [List.getD, List.getElem?_append_left (show t < ps.length by omega)]];exact zu HA t (by omega)
     case measure => simp [intOf]; omega
    ·have hjm : j = m := by omega
     subst hjm;have hj1 : ¬ (j : Int) < (j : Int) := by omega
     have hps : ps = cl.getD i [] := by
      rw [zu HCA i hlt];exact vec_ext (by rw [hov.len, colsL_len]) fun t ht => by
       rw [hov.len] at ht;rw [colsL_at f _ ht];exact zu HA t ht
     have hvf := hov.vf;rw [hps] at hvf;have hlt' : i < cl.length := by rw [zu HCL]; exact hlt
     have HT := zh (take_all_snoc hlt');obtain ⟨y, ey⟩ : ∃ y, y = cl.getD i [] := ⟨_, rfl⟩;rw [← ey] at hvf HT;replace hown := hown.za (zu HD);have HE := zh (Below.step (zu HC) (zu HD));clear hps hov ey hlt';obtain ⟨W6, hW6⟩ : ∃ W6, W6 = wr.alloc (.cells #[.slice av j cv] 24) := ⟨_, rfl⟩;have hb9 : Below wr.heap.size wr W6 := by rw [hW6]; exact below_new _ _
     have hone := mf_one hvf;replace hown := hown.za hb9;replace HE := zh (Below.step (zu HE) hb9);clear hb9;have hsz := (zu HE).size;rw [hW6] at hown hsz
     go_wp2_with (at_builtin; (refine append_rows (R := fun w a l c zs => VF w a l c zs k) (steadyMO k) rfl (.tmp 33) (.tmp 35) 22 Tryz.underlying22 rfl w.heap.size ah i ch (cl.take i) rfl hown _ 1 1 [y] rfl hone (by omega) hsz ?_))
     intro an cn w7 hown2 hgr7;rw [← hW6] at hgr7 hown hsz;clear hW6 hone;have HG := zh ((zu HE).grown hgr7 hsz (MO.ge hown));rw [← zu HT] at hown2;clear hgr7 hown;go_wp2;go_roundw
     case rel => exact ⟨i + 1, _, _, by omega, by go_num, rfl, hown2, zu HG⟩
     case measure => simp [intOf]; omega
  ·have hin2 : i = n := by omega
   subst hin2;have hi1 : ¬ (i : Int) < (i : Int) := by omega
   rw [List.take_of_length_le (by rw [zu HCL]; exact Nat.le_refl _)] at hown;have hmf := hown.mf;clear hown;go_wp2;go_ret;exact ⟨_, _, rfl, hmf, zu HC⟩

end Go.Proofs.YtkomdimalgnamaaGreat
