/-
 What Is of the reference tells.
-/
import Derived.Test.YtkomdimalgnamaaGreatHIs
import Derived.Test.YtkomdimalgnamaaGreatRHas
namespace Go.Proofs.YtkomdimalgnamaaGreat
open Go.RowKit Lb
set_option maxRecDepth 20000

set_option maxRecDepth 40000 in
set_option maxHeartbeats 4000000 in
theorem refIsK (ao : Option Addr) (n cap : Nat) (rs : List (List Int)) (k : Nat) (x : Int) (q0 : Bool) (w : World) (h : MK w ao n cap rs k) (hx : -9223372036854775808 ≤ x ∧ x ≤ 9223372036854775807) (hn : n ≤ 1000000) (hq : q0 = true ↔ rform rs x = true ∧ ∃ p, HForm rs p) :
  Calls Tryz.prog 13 #[.slice ao n cap, .int .i64 x] w fun e w' => e = .returned (.bool q0) ∧ Below w.heap.size w w' := by
 have HL := zh h.len_eq;have HQ := zh hq;clear hq;obtain ⟨f, ef⟩ : ∃ f, f = rform rs x := ⟨_, rfl⟩;go_enter Tryz.func13, Tryz.ntmps13
 go_wp2_with fail
 refine (refFormK ao n cap rs x w h.ml hx f ef.symm).mono ?_;rintro e w1 ⟨rfl, hb1⟩;have hk := h.za hb1;have HB := zh hb1;clear hb1 h;by_cases hf : f = true
 ·subst hf;have HFM := zh ef.symm;clear ef;obtain ⟨N, eN, hN1, hN2, hNr⟩ := rform_rows (zu HFM);have HN := zh (rows_len hNr);clear hNr eN
  go_wp2_with fail
  go_loopw [5, 6] (fun s t wr => ∃ (i : Nat) (L : Int) (p : Nat → Nat), i ≤ n ∧ t = .int .i64 (i : Int) ∧ s = .int .i64 L ∧ HForm (rs.take i) p ∧ LastIs p i L ∧ Below w1.heap.size w1 wr) (fun _ t _ => n - (intOf t).toNat)
  case atStart => exact ⟨0, -1, fun i => i, Nat.zero_le _, rfl, rfl, hform_nil _, Or.inl ⟨rfl, rfl⟩, Below.refl _ _⟩
  case round =>
   obtain ⟨i, L, p, hi, rfl, rfl, hfp, hL, hB⟩ := hrel;have HC := zh hB;have HF := zh hfp;have HLA := zh hL;clear hB hfp hL;by_cases hlt : i < n
   ·have hlr : i < rs.length := by rw [zu HL]; exact hlt
    obtain ⟨g, off, rfl⟩ := hk.addr (by omega);obtain ⟨hg, a5, l5, c5, hc5, hv5⟩ := RowsOf.at (R := fun w a l c zs => VK w a l c zs k) hk hlt;have hl5 : N = l5 := by rw [← hv5.len_eq]; exact (zu HN i hlr).symm
    subst hl5;have f2 := ((zu HC).cell (p := ⟨g, off + i, none⟩) hg).trans hc5;have hgr := Nat.lt_of_lt_of_le hg (zu HC).size;have hi0 : (0 : Int) ≤ (i : Int) := by omega
    have hi1 : (i : Int) < (n : Int) := by omega
    go_wp2_with fail
    refine (rpivotK a5 N c5 (rs.getD i []) k _ (hv5.za (zu HC))).mono ?_;rintro e w3 ⟨z, rfl, hpz, hb1⟩;replace HC := zh (Below.step (zu HC) hb1);clear hb1 f2 hgr;by_cases hzL : z ≤ L
    ·have hq0 : q0 = false := by
      rw [← Bool.not_eq_true, zu HQ];rintro ⟨_, p', hf'⟩;rcases hpz with ⟨_, h0⟩ | ⟨q, e, hq⟩
      ·exact hf'.nought hlr h0
      ·rcases zu HLA with ⟨e1, e2⟩ | ⟨m, e1, e2⟩
       ·omega
       ·have h1 := hf'.take_agree (zu HF) (show m < i by omega) (by omega);have h2 := isPivot_inj (hf'.isPivot hlr) hq;have h3 := hf'.rise m i (by omega) hlr;omega
     subst hq0;have hzL' : decide (z ≤ L) = true := decide_eq_true hzL;clear hpz;go_wp2;go_ret;exact ⟨rfl, Below.step (zu HB) (zu HC)⟩
    ·have hzL' : decide (z ≤ L) = false := decide_eq_false hzL;have hq' : ∃ q : Nat, z = (q : Int) ∧ IsPivot (rs.getD i []) q := by
      rcases hpz with ⟨e, _⟩ | h
      ·rcases zu HLA with ⟨e1, e2⟩ | ⟨m, e1, e2⟩ <;> omega
      ·exact h
     obtain ⟨q, rfl, hq⟩ := hq';have HPV := zh hq;have hqN : q < N := by have := hq.lt; rw [zu HN i hlr] at this; exact this
     clear hpz hq;obtain ⟨g5, o5, rfl⟩ := hv5.some (by omega);obtain ⟨b7, a7, l7, c7, E7, y7⟩ := (hv5.za (zu HC)).at hqN;obtain ⟨f3, f4⟩ := E7.zb;have hg7 := E7.1;have f2 := ((zu HC).cell (p := ⟨g, off + i, none⟩) hg).trans hc5;have hgg := Nat.lt_of_lt_of_le hg (zu HC).size;have hp2 : (q : Int) < (N : Int) := by omega
     have hp0 : (0 : Int) ≤ (q : Int) := by omega
     obtain ⟨v, ev⟩ : ∃ v, v = (rs.getD i []).getD q 0 := ⟨_, rfl⟩;rw [← ev] at y7;obtain ⟨s, es⟩ : ∃ s, s = v.sign := ⟨_, rfl⟩;have ES := zh es;have EV := zh ev;clear ev
     go_wp2_with fail
     refine (rsignK b7 a7 l7 c7 v k s _ y7 (zu ES)).mono ?_;rintro e w5 ⟨rfl, hb1⟩;have HC5 := zh (Below.step (zu HC) hb1);replace E7 := E7.za hb1;replace y7 := y7.za hb1;clear f2 f3 f4 hg7 hgg;clear hb1;by_cases hv0 : v < 0
     ·have hs : s < 0 := by rw [es, Int.sign_eq_neg_one_of_neg hv0]; omega
      have hq0 : q0 = false := by
       rw [← Bool.not_eq_true, zu HQ];rintro ⟨_, p', hf'⟩;have h1 := hf'.pos i hlr;rw [isPivot_inj (hf'.isPivot hlr) (zu HPV)] at h1;have h2 : ent rs i q = v := (zu EV).symm;omega
      subst hq0;clear es;go_wp2;go_ret;exact ⟨rfl, Below.step (zu HB) (zu HC5)⟩
     ·have hs : decide (s < 0) = false := decide_eq_false (by rw [es]; exact sgn_geH (by omega));have hs' : ¬ s < 0 := of_decide_eq_false hs;clear es
      go_wp2_with fail
      go_loopw [8] (fun t wq => ∃ (j : Nat), j ≤ i ∧ t = .int .i64 (j : Int) ∧ (∀ t, t < j → 0 ≤ ent rs t q ∧ ent rs t q < v) ∧ Below w5.heap.size w5 wq) (fun t _ => i - (intOf t).toNat)
      case atStart => exact ⟨0, Nat.zero_le _, rfl, fun t ht => absurd ht (by omega), Below.refl _ _⟩
      case round =>
       obtain ⟨j, hj, rfl, hall, hB⟩ := hrel;have HD := zh hB;have HALL := zh hall;clear hB hall;have HE := zh (Below.step (zu HC5) (zu HD));by_cases hji : j < i
       ·have hjn : j < n := by omega
        obtain ⟨hg8, a8, l8, c6, hc8, hv8⟩ := RowsOf.at (R := fun w a l c zs => VK w a l c zs k) hk hjn;have hl8 : N = l8 := by rw [← hv8.len_eq]; exact (zu HN j (by rw [zu HL]; exact hjn)).symm
        subst hl8;obtain ⟨g6, o6, rfl⟩ := hv8.some (by omega);obtain ⟨b6, a6, l6, c6', E6, y6⟩ := (hv8.za (zu HE)).at hqN;have x6 := ((zu HE).cell (p := ⟨g, off + j, none⟩) hg8).trans hc8;have x5 := ((zu HE).cell (p := ⟨g, off + i, none⟩) hg).trans hc5;have hgq := Nat.lt_of_lt_of_le hg (zu HE).size;have hj0 : (0 : Int) ≤ (j : Int) := by omega
        have hj1 : (j : Int) < (i : Int) := by omega
        have hj2 : (j : Int) < (n : Int) := by omega
        replace E7 := E7.za (zu HD);replace y7 := y7.za (zu HD);obtain ⟨u, eu⟩ : ∃ u, u = (rs.getD j []).getD q 0 := ⟨_, rfl⟩;rw [← eu] at y6;have EU := zh (show ent rs j q = u from eu.symm);obtain ⟨s2, es2⟩ : ∃ s, s = u.sign := ⟨_, rfl⟩;have ES2 := zh es2;obtain ⟨d, ed⟩ : ∃ d, d = (u - v).sign := ⟨_, rfl⟩;have ED := zh ed;clear eu hc8 hs hs'
        go_upto_region 13 with fail
        have HW : Below wr.heap.size wr wr.drew := (Below.refl _ _).drew;by_cases hu0 : u < 0
        ·have hsu : decide (s2 < 0) = true := decide_eq_true (by rw [es2, Int.sign_eq_neg_one_of_neg hu0]; omega);have hq0 : q0 = false := by
          rw [← Bool.not_eq_true, zu HQ];rintro ⟨_, p', hf'⟩;have h1 := hf'.low j i hji hlr;rw [isPivot_inj (hf'.isPivot hlr) (zu HPV), zu EU] at h1;omega
         subst hq0;clear es2 ed;have HS := zh fun w' (HW : Below wr.heap.size wr w') => con3 ((HW.cell (p := ⟨g, off + j, none⟩) hgq).trans x6) (E6.za HW).zb.1 (E6.za HW).zb.2;refine zst HS HW 26 (by kernel_rfl) fun zH => ?_;refine ztl (i := 0) [2, 3, 5, 6, 7, 8, 9, 10, 11, 12, 13, 14, 15, 16, 17, 18, 19, 20, 21, 22, 23, 24, 25, 26] rfl ?_;simp only [Act.put, aGet, aZero, aSet, aHead, aTail];refine ztl (i := 1) [2, 3, 5, 6, 7, 8, 9, 10, 11, 12, 13, 14, 15, 16, 17, 18, 19, 20, 21, 22, 23, 24, 25, 26] rfl ?_;simp only [Act.put, aAll];refine ztl (i := 2) [3, 5, 6, 7, 8, 9, 10, 11, 12, 13, 14, 15, 16, 17, 18, 19, 20, 21, 22, 23, 24, 25, 26] rfl ?_;simp only [Act.put, aAll];refine ztl (i := 3) [5, 6, 7, 8, 9, 10, 11, 12, 13, 14, 15, 16, 17, 18, 19, 20, 21, 22, 23, 24, 25, 26] rfl ?_;simp only [Act.put, aAll];refine ztl (i := 4) [5, 6, 7, 8, 9, 10, 11, 12, 13, 14, 15, 16, 17, 18, 19, 20, 21, 22, 23, 24, 25, 26] rfl ?_;simp only [Act.put, aAll];refine ztl (i := 5) [6, 7, 8, 9, 10, 11, 12, 13, 14, 15, 16, 17, 18, 19, 20, 21, 22, 23, 24, 25, 26] rfl ?_;simp only [Act.put, aAll];refine ztl (i := 6) [7, 8, 9, 10, 11, 12, 13, 14, 15, 16, 17, 18, 19, 20, 21, 22, 23, 24, 25, 26] rfl ?_;simp only [Act.put, aAll];refine tin (i := 7) rfl fun K hK => ?_;go_simp;refine (rsignK b6 a6 l6 c6' u k s2 _ (y6.za HW) (zu ES2)).mono ?_;rintro e w9 ⟨rfl, hb9⟩;replace HW := Below.step HW hb9;clear hb9;refine hK.out _ _ ?_ (fun zH => ?_)
         ·exact zu HS _ HW
         clear hK K
         try simp only [Act.put, aAll]
         refine ztl (i := 8) [9, 10, 11, 12, 13, 14, 15, 16, 17, 18, 19, 20, 21, 22, 23, 24, 25, 26] rfl ?_;simp only [Act.put, aAll];refine ztl (i := 9) [10, 11, 12, 13, 14, 15, 16, 17, 18, 19, 20, 21, 22, 23, 24, 25, 26] rfl ?_;simp only [Act.put, aAll];refine till_tu (i := 10) [12, 13, 15, 16, 24, 25, 26] rfl ?_;simp only [Act.put, aAll];refine till_tu (i := 11) [12, 13, 15, 16, 24, 25, 26] rfl ?_;simp only [Act.put, aAll];refine till_tu (i := 12) [13, 15, 16, 24, 25, 26] rfl ?_;simp only [Act.put, aAll];refine till_tu (i := 13) [15, 16, 24, 25, 26] rfl ?_;simp only [Act.put, aAll];refine till_tu (i := 14) [15, 16, 24, 25, 26] rfl ?_;simp only [Act.put, aAll];refine till_tu (i := 15) [16, 24, 25, 26] rfl ?_;simp only [Act.put, aAll];refine till_tu (i := 16) [24, 25, 26] rfl ?_;simp only [Act.put, aAll];refine till_tu (i := 17) [19, 20, 22, 23, 24, 25, 26] rfl ?_;simp only [Act.put, aAll];refine till_tu (i := 18) [19, 20, 22, 23, 24, 25, 26] rfl ?_;simp only [Act.put, aAll];refine till_tu (i := 19) [20, 22, 23, 24, 25, 26] rfl ?_;simp only [Act.put, aAll];refine till_tu (i := 20) [22, 23, 24, 25, 26] rfl ?_;simp only [Act.put, aAll];refine till_tu (i := 21) [22, 23, 24, 25, 26] rfl ?_;simp only [Act.put, aAll];refine till_tu (i := 22) [23, 24, 25, 26] rfl ?_;simp only [Act.put, aAll];refine till_tu (i := 23) [24, 25, 26] rfl ?_;simp only [Act.put, aAll];refine tin (i := 24) rfl fun K hK => ?_;go_simp;refine hK.out _ _ ?_ (fun zH => ?_)
         ·exact zu HS _ HW
         clear hK K
         try simp only [Act.put, aAll]
         refine till_tu (i := 25) [26] rfl ?_;simp only [Act.put, aAll];refine tout (i := 26) rfl fun K hK => ?_;go_simp;refine hK.out _ _ ?_;clear hK K
         try simp only [Act.put, aAll]
         refine till_done (by kernel_rfl) ?_ _;clear zH;go_wp2;go_ret;exact ⟨rfl, Below.step (zu HB) (Below.step (zu HE) HW)⟩
        ·have hsu : decide (s2 < 0) = false := decide_eq_false (by rw [es2]; exact sgn_geH (by omega));by_cases huv : u < v
         ·have hd : decide (0 ≤ d) = false := decide_eq_false (by rw [ed, Int.sign_eq_neg_one_of_neg (by omega)]; omega);clear es2 ed;have HS := zh fun w' (HW : Below wr.heap.size wr w') => con6 ((HW.cell (p := ⟨g, off + j, none⟩) hgq).trans x6) (E6.za HW).zb.1 (E6.za HW).zb.2 ((HW.cell (p := ⟨g, off + i, none⟩) hgq).trans x5) (E7.za HW).zb.1 (E7.za HW).zb.2;refine zst HS HW 26 (by kernel_rfl) fun zH => ?_;refine ztl (i := 0) [2, 3, 5, 6, 7, 8, 9, 10, 11, 12, 13, 14, 15, 16, 17, 18, 19, 20, 21, 22, 23, 24, 25, 26] rfl ?_;simp only [Act.put, aGet, aZero, aSet, aHead, aTail];refine ztl (i := 1) [2, 3, 5, 6, 7, 8, 9, 10, 11, 12, 13, 14, 15, 16, 17, 18, 19, 20, 21, 22, 23, 24, 25, 26] rfl ?_;simp only [Act.put, aAll];refine ztl (i := 2) [3, 5, 6, 7, 8, 9, 10, 11, 12, 13, 14, 15, 16, 17, 18, 19, 20, 21, 22, 23, 24, 25, 26] rfl ?_;simp only [Act.put, aAll];refine ztl (i := 3) [5, 6, 7, 8, 9, 10, 11, 12, 13, 14, 15, 16, 17, 18, 19, 20, 21, 22, 23, 24, 25, 26] rfl ?_;simp only [Act.put, aAll];refine ztl (i := 4) [5, 6, 7, 8, 9, 10, 11, 12, 13, 14, 15, 16, 17, 18, 19, 20, 21, 22, 23, 24, 25, 26] rfl ?_;simp only [Act.put, aAll];refine ztl (i := 5) [6, 7, 8, 9, 10, 11, 12, 13, 14, 15, 16, 17, 18, 19, 20, 21, 22, 23, 24, 25, 26] rfl ?_;simp only [Act.put, aAll];refine ztl (i := 6) [7, 8, 9, 10, 11, 12, 13, 14, 15, 16, 17, 18, 19, 20, 21, 22, 23, 24, 25, 26] rfl ?_;simp only [Act.put, aAll];refine tin (i := 7) rfl fun K hK => ?_;go_simp;refine (rsignK b6 a6 l6 c6' u k s2 _ (y6.za HW) (zu ES2)).mono ?_;rintro e w9 ⟨rfl, hb9⟩;replace HW := Below.step HW hb9;clear hb9;refine hK.out _ _ ?_ (fun zH => ?_)
          ·exact zu HS _ HW
          clear hK K
          try simp only [Act.put, aAll]
          refine ztl (i := 8) [9, 10, 11, 12, 13, 14, 15, 16, 17, 18, 19, 20, 21, 22, 23, 24, 25, 26] rfl ?_;simp only [Act.put, aAll];refine ztl (i := 9) [10, 11, 12, 13, 14, 15, 16, 17, 18, 19, 20, 21, 22, 23, 24, 25, 26] rfl ?_;simp only [Act.put, aAll];refine ztl (i := 10) [12, 13, 15, 16, 24, 25, 26] rfl ?_;simp only [Act.put, aAll];refine ztl (i := 11) [12, 13, 15, 16, 24, 25, 26] rfl ?_;simp only [Act.put, aAll];refine ztl (i := 12) [13, 15, 16, 24, 25, 26] rfl ?_;simp only [Act.put, aAll];refine ztl (i := 13) [15, 16, 24, 25, 26] rfl ?_;simp only [Act.put, aAll];refine ztl (i := 14) [15, 16, 24, 25, 26] rfl ?_;simp only [Act.put, aAll];refine ztl (i := 15) [16, 24, 25, 26] rfl ?_;simp only [Act.put, aAll];refine ztl (i := 16) [24, 25, 26] rfl ?_;simp only [Act.put, aAll];refine ztl (i := 17) [19, 20, 22, 23, 24, 25, 26] rfl ?_;simp only [Act.put, aAll];refine ztl (i := 18) [19, 20, 22, 23, 24, 25, 26] rfl ?_;simp only [Act.put, aAll];refine ztl (i := 19) [20, 22, 23, 24, 25, 26] rfl ?_;simp only [Act.put, aAll];refine ztl (i := 20) [22, 23, 24, 25, 26] rfl ?_;simp only [Act.put, aAll];refine ztl (i := 21) [22, 23, 24, 25, 26] rfl ?_;simp only [Act.put, aAll];refine ztl (i := 22) [23, 24, 25, 26] rfl ?_;simp only [Act.put, aAll];refine ztl (i := 23) [24, 25, 26] rfl ?_;simp only [Act.put, aAll];refine tin (i := 24) rfl fun K hK => ?_;go_simp;refine (rcmpK b6 a6 l6 c6' u k b7 a7 l7 c7 v k d _ (y6.za HW) (y7.za HW) (zu ED)).mono ?_;rintro e w10 ⟨rfl, hb9⟩;replace HW := Below.step HW hb9;clear hb9;refine hK.out _ _ ?_ (fun zH => ?_)
          ·exact zu HS _ HW
          clear hK K
          try simp only [Act.put, aAll]
          refine ztl (i := 25) [26] rfl ?_;simp only [Act.put, aAll];refine tout (i := 26) rfl fun K hK => ?_;go_simp;refine hK.out _ _ ?_;clear hK K
          try simp only [Act.put, aAll]
          refine till_done (by kernel_rfl) ?_ _;clear zH x5 x6;go_wp2;go_roundw
          case rel =>
           refine ⟨j + 1, by omega, by go_num, fun t ht => ?_, Below.step (zu HD) HW⟩;by_cases c : t = j
           ·subst c;rw [zu EU];exact ⟨by omega, huv⟩
           ·exact zu HALL t (by omega)
          case measure => simp [intOf]; omega
         ·have hd : decide (0 ≤ d) = true := decide_eq_true (by rw [ed]; have := sgn_geH (x := u - v) (by omega); omega);have hq0 : q0 = false := by
           rw [← Bool.not_eq_true, zu HQ];rintro ⟨_, p', hf'⟩;have h1 := hf'.low j i hji hlr;rw [isPivot_inj (hf'.isPivot hlr) (zu HPV), zu EU] at h1;have h2 : ent rs i q = v := (zu EV).symm;omega
          subst hq0;clear es2 ed;have HS := zh fun w' (HW : Below wr.heap.size wr w') => con6 ((HW.cell (p := ⟨g, off + j, none⟩) hgq).trans x6) (E6.za HW).zb.1 (E6.za HW).zb.2 ((HW.cell (p := ⟨g, off + i, none⟩) hgq).trans x5) (E7.za HW).zb.1 (E7.za HW).zb.2;refine zst HS HW 26 (by kernel_rfl) fun zH => ?_;refine ztl (i := 0) [2, 3, 5, 6, 7, 8, 9, 10, 11, 12, 13, 14, 15, 16, 17, 18, 19, 20, 21, 22, 23, 24, 25, 26] rfl ?_;simp only [Act.put, aGet, aZero, aSet, aHead, aTail];refine ztl (i := 1) [2, 3, 5, 6, 7, 8, 9, 10, 11, 12, 13, 14, 15, 16, 17, 18, 19, 20, 21, 22, 23, 24, 25, 26] rfl ?_;simp only [Act.put, aAll];refine ztl (i := 2) [3, 5, 6, 7, 8, 9, 10, 11, 12, 13, 14, 15, 16, 17, 18, 19, 20, 21, 22, 23, 24, 25, 26] rfl ?_;simp only [Act.put, aAll];refine ztl (i := 3) [5, 6, 7, 8, 9, 10, 11, 12, 13, 14, 15, 16, 17, 18, 19, 20, 21, 22, 23, 24, 25, 26] rfl ?_;simp only [Act.put, aAll];refine ztl (i := 4) [5, 6, 7, 8, 9, 10, 11, 12, 13, 14, 15, 16, 17, 18, 19, 20, 21, 22, 23, 24, 25, 26] rfl ?_;simp only [Act.put, aAll];refine ztl (i := 5) [6, 7, 8, 9, 10, 11, 12, 13, 14, 15, 16, 17, 18, 19, 20, 21, 22, 23, 24, 25, 26] rfl ?_;simp only [Act.put, aAll];refine ztl (i := 6) [7, 8, 9, 10, 11, 12, 13, 14, 15, 16, 17, 18, 19, 20, 21, 22, 23, 24, 25, 26] rfl ?_;simp only [Act.put, aAll];refine tin (i := 7) rfl fun K hK => ?_;go_simp;refine (rsignK b6 a6 l6 c6' u k s2 _ (y6.za HW) (zu ES2)).mono ?_;rintro e w9 ⟨rfl, hb9⟩;replace HW := Below.step HW hb9;clear hb9;refine hK.out _ _ ?_ (fun zH => ?_)
          ·exact zu HS _ HW
          clear hK K
          try simp only [Act.put, aAll]
          refine ztl (i := 8) [9, 10, 11, 12, 13, 14, 15, 16, 17, 18, 19, 20, 21, 22, 23, 24, 25, 26] rfl ?_;simp only [Act.put, aAll];refine ztl (i := 9) [10, 11, 12, 13, 14, 15, 16, 17, 18, 19, 20, 21, 22, 23, 24, 25, 26] rfl ?_;simp only [Act.put, aAll];refine ztl (i := 10) [12, 13, 15, 16, 24, 25, 26] rfl ?_;simp only [Act.put, aAll];refine ztl (i := 11) [12, 13, 15, 16, 24, 25, 26] rfl ?_;simp only [Act.put, aAll];refine ztl (i := 12) [13, 15, 16, 24, 25, 26] rfl ?_;simp only [Act.put, aAll];refine ztl (i := 13) [15, 16, 24, 25, 26] rfl ?_;simp only [Act.put, aAll];refine ztl (i := 14) [15, 16, 24, 25, 26] rfl ?_;simp only [Act.put, aAll];refine ztl (i := 15) [16, 24, 25, 26] rfl ?_;simp only [Act.put, aAll];refine ztl (i := 16) [24, 25, 26] rfl ?_;simp only [Act.put, aAll];refine ztl (i := 17) [19, 20, 22, 23, 24, 25, 26] rfl ?_;simp only [Act.put, aAll];refine ztl (i := 18) [19, 20, 22, 23, 24, 25, 26] rfl ?_;simp only [Act.put, aAll];refine ztl (i := 19) [20, 22, 23, 24, 25, 26] rfl ?_;simp only [Act.put, aAll];refine ztl (i := 20) [22, 23, 24, 25, 26] rfl ?_;simp only [Act.put, aAll];refine ztl (i := 21) [22, 23, 24, 25, 26] rfl ?_;simp only [Act.put, aAll];refine ztl (i := 22) [23, 24, 25, 26] rfl ?_;simp only [Act.put, aAll];refine ztl (i := 23) [24, 25, 26] rfl ?_;simp only [Act.put, aAll];refine tin (i := 24) rfl fun K hK => ?_;go_simp;refine (rcmpK b6 a6 l6 c6' u k b7 a7 l7 c7 v k d _ (y6.za HW) (y7.za HW) (zu ED)).mono ?_;rintro e w10 ⟨rfl, hb9⟩;replace HW := Below.step HW hb9;clear hb9;refine hK.out _ _ ?_ (fun zH => ?_)
          ·exact zu HS _ HW
          clear hK K
          try simp only [Act.put, aAll]
          refine ztl (i := 25) [26] rfl ?_;simp only [Act.put, aAll];refine tout (i := 26) rfl fun K hK => ?_;go_simp;refine hK.out _ _ ?_;clear hK K
          try simp only [Act.put, aAll]
          refine till_done (by kernel_rfl) ?_ _;clear zH;go_wp2;go_ret;exact ⟨rfl, Below.step (zu HB) (Below.step (zu HE) HW)⟩
       ·have hjn : j = i := by omega
        subst hjn;have hj1 : ¬ (j : Int) < (j : Int) := by omega
        have hrise : ∀ t, t < j → p t < q := by
         intro t ht;rcases zu HLA with ⟨e1, e2⟩ | ⟨m, e1, e2⟩
         ·omega
         ·by_cases c : t = m
          ·subst c; omega
          ·have := (zu HF).rise t m (by omega) (by rw [take_len (by omega)]; omega);omega
        have hpos : 0 < ent rs j q := by
         have h1 : ent rs j q ≠ 0 := (zu HPV).2;have h2 : ent rs j q = v := (zu EV).symm;omega
        have hnew := HForm.snoc (zu HF) hlr (zu HPV) hrise hpos fun t ht => by
         have := zu HALL t ht;rw [zu EV] at this;exact this
        have HNEW := zh hnew;clear hrise hpos hnew E7 y7;go_wp2;go_roundw
        case rel => exact ⟨j + 1, q, _, by omega, by go_num, rfl, zu HNEW, Or.inr ⟨j, rfl, by simp⟩, zu HE⟩
        case measure => simp [intOf]; omega
   ·have hin : i = n := by omega
    subst hin;have hi1 : ¬ (i : Int) < (i : Int) := by omega
    rw [List.take_of_length_le (by rw [zu HL]; exact Nat.le_refl _)] at HF;have hq0 : q0 = true := (zu HQ).2 ⟨zu HFM, p, zu HF⟩;subst hq0;go_wp2;go_ret;exact ⟨rfl, Below.step (zu HB) (zu HC)⟩
 ·have hff : f = false := by simpa using hf
  subst hff;have hq0 : q0 = false := by
   rw [← Bool.not_eq_true, zu HQ];rintro ⟨h1, _⟩;rw [← ef] at h1;exact absurd h1 (by decide)
  subst hq0;clear ef hf;go_wp2;go_ret;exact ⟨rfl, zu HB⟩

end Go.Proofs.YtkomdimalgnamaaGreat
