/-
 What Pivots and Is of package hnf tell (IN PARTS).
-/
import Derived.Test.YtkomdimalgnamaaGreatJR
import Derived.Test.YtkomdimalgnamaaGreatJE
import Derived.Deep.CutRange
namespace Go.Proofs.YtkomdimalgnamaaGreat
open Go.RowKit Lb
set_option maxRecDepth 20000

theorem bool_ofH (p : Prop) : ∃ q : Bool, (q = true ↔ p) := by
 by_cases h : p
 ·exact ⟨true, by simp [h]⟩
 ·exact ⟨false, by simp [h]⟩
theorem PivZ.bd {v : List Int} {z : Int} (h : PivZ v z) (hl : v.length ≤ 9223372036854775807) : In64' z := by
 rcases h with ⟨e, _⟩ | ⟨q, e, hq⟩
 ·unfold In64'; omega
 ·have := hq.lt;unfold In64'; omega
theorem put_piv {rs : List (List Int)} {ps : List Int} {i : Nat} {z : Int} (hi : i < ps.length) (h : ∀ j, j < i → PivZ (rs.getD j []) (ps.getD j 0)) (hz : PivZ (rs.getD i []) z) : ∀ j, j < i + 1 → PivZ (rs.getD j []) ((ps.set i z).getD j 0) := by
 intro j hj;by_cases e : j = i
 ·subst e;rw [show (ps.set j z).getD j 0 = z by simp [List.getD, hi]];exact hz
 ·rw [show (ps.set i z).getD j 0 = ps.getD j 0 by simp [List.getD, List.getElem?_set_ne (Ne.symm e)]];exact h j (by omega)
set_option maxRecDepth 20000 in
set_option maxHeartbeats 2000000 in
theorem pivotsF (ao : Option Addr) (n cap : Nat) (rs : List (List Int)) (k : Nat) (w : World) (h : MK w ao n cap rs k) (hn : n ≤ 1000000) :
  Calls Tryz.prog 73 #[.slice ao n cap] w fun e w' => ∃ a1 c1 ps, e = .returned (.slice a1 n c1) ∧ IRowAt w' a1 n c1 ps ∧ (∀ j, j < n → PivZ (rs.getD j []) (ps.getD j 0)) ∧ (∀ g off, a1 = some ⟨g, off, none⟩ → w.heap.size ≤ g) ∧ Below w.heap.size w w' := by
 go_enter Tryz.func73, Tryz.ntmps73
 go_wp2_with (at_make; refine make_ints rfl _ _ 38 Tryz.underlying38 rfl w.heap.size .i64 .i64 _ _ n rfl rfl (by omega) (by omega) (by omega) (by omega) ?_)
 intro w2 hown hgrow;have hbg : Below w.heap.size w w2 := (Below.refl _ _).grown hgrow (Nat.le_refl _) (fun _ h => by simp at h);have HB := zh hbg;clear hgrow hbg;obtain ⟨gv, egv⟩ : ∃ gv, gv = w.heap.size := ⟨_, rfl⟩;rw [show (some ⟨w.heap.size, 0, none⟩ : Option Addr) = some ⟨gv, 0, none⟩ by rw [egv]] at hown ⊢;clear egv
 go_wp2_with fail
 go_loopw [11] (fun t wr => ∃ (i : Nat) (ps : List Int), i ≤ n ∧ t = .int .i64 (i : Int) ∧ IOwn wr w.heap.size (some ⟨gv, 0, none⟩) n n ps ∧ (∀ j, j < i → PivZ (rs.getD j []) (ps.getD j 0)) ∧ Below w.heap.size w wr) (fun t _ => n - (intOf t).toNat)
 case atStart => exact ⟨0, _, Nat.zero_le _, rfl, hown, fun j hj => absurd hj (by omega), zu HB⟩
 case round =>
  clear hown HB;obtain ⟨i, ps, hi, rfl, hv, hall, hB⟩ := hrel;have HA := zh hall;clear hall;have HB := zh hB;clear hB;by_cases hlt : i < n
  ·obtain ⟨g, off, rfl⟩ := h.addr (by omega);obtain ⟨hg, a5, l5, c5, hc5, hv5⟩ := RowsOf.at (R := fun w a l c zs => VK w a l c zs k) h hlt;have hml := Nat.le_trans hv5.cap_le hv5.cap_max;unfold maxLen at hml;have hll : (rs.getD i []).length ≤ 9223372036854775807 := by rw [hv5.len_eq]; omega
   have HLL := zh hll;replace hv5 := hv5.za (zu HB);have f2 := ((zu HB).cell (p := ⟨g, off + i, none⟩) hg).trans hc5;have hgr := Nat.lt_of_lt_of_le hg (zu HB).size;have hi0 : (0 : Int) ≤ (i : Int) := by omega
   have hi1 : (i : Int) < (n : Int) := by omega
   clear hc5 hg hll
   go_wp2_with fail
   refine (pivotK _ _ _ (rs.getD i []) k _ hv5).mono ?_;rintro e w5 ⟨z, rfl, hz, hb1⟩;have HZ := zh hz;replace hv := hv.za hb1;replace HB := zh (Below.step (zu HB) hb1);clear hb1 hv5 f2 hgr hz;obtain ⟨_, q1⟩ := hv.irow.at hlt;rw [Nat.zero_add] at q1;have q3 := hv.free i;have hbl := hv.base_le;go_wp2;go_roundw
   case rel => exact ⟨i + 1, _, by omega, by go_num, hv.set i ((zu HZ).bd (zu HLL)), put_piv (by rw [hv.len]; omega) (zu HA) (zu HZ), (zu HB).setCell (by simpa using hbl.1) _⟩
   case measure => simp [intOf]; omega
  ·have hin : i = n := by omega
   subst hin;have hi1 : ¬ (i : Int) < (i : Int) := by omega
   have hbl := hv.base_le;go_wp2;go_ret;exact ⟨_, _, rfl, _, hv.irow, zu HA, fun g off e => by simp at e; omega, zu HB⟩
theorem pivotsK (ao : Option Addr) (n cap : Nat) (rs : List (List Int)) (k : Nat) (w : World) (h : MK w ao n cap rs k) (hn : n ≤ 1000000) :
  Calls Tryz.prog 73 #[.slice ao n cap] w fun e w' => ∃ a1 c1 ps, e = .returned (.slice a1 n c1) ∧ IRowAt w' a1 n c1 ps ∧ (∀ j, j < n → PivZ (rs.getD j []) (ps.getD j 0)) ∧ Below w.heap.size w w' :=
 (pivotsF ao n cap rs k w h hn).mono fun _ _ ⟨a1, c1, ps, he, h1, h2, _, hb⟩ => ⟨a1, c1, ps, he, h1, h2, hb⟩

theorem HForm.nought {hs : List (List Int)} {p : Nat → Nat} (hf : HForm hs p) {i : Nat} (hi : i < hs.length) (h0 : ∀ j, (hs.getD i []).getD j 0 = 0) : False := (hf.isPivot hi).2 (h0 _)
theorem HForm.take_agree {hs : List (List Int)} {p q : Nat → Nat} {i : Nat} (hf : HForm hs p) (hg : HForm (hs.take i) q) {t : Nat} (ht : t < i) (hi : i ≤ hs.length) : p t = q t := hform_agree (hf.take i) hg (by rw [take_len hi]; exact ht)
def LastIs (p : Nat → Nat) (i : Nat) (L : Int) : Prop := (i = 0 ∧ L = -1) ∨ ∃ m, i = m + 1 ∧ L = (p m : Int)
theorem slice_front {g off n cap i : Nat} (hi : i ≤ n) (hc : n ≤ cap) : ∀ W, (Instr.sliceAt 22 (.slice (some ⟨g, off, none⟩) n cap) none (some (.int .i64 (i : Int))) none).run Tryz.prog W = .ok (.slice (some ⟨g, off, none⟩) i cap) W := by
 intro W;have h0 : (0 : Int) ≤ (i : Int) := by omega
 simp [Instr.sliceAt, Instr.slice, Instr.sliceBounds, Instr.sliceBound, run_underlying Tryz.underlying22, go_sem, h0];exact fun e => absurd e (by omega)
set_option maxRecDepth 40000 in
set_option maxHeartbeats 4000000 in
theorem isK (ao : Option Addr) (n cap : Nat) (rs : List (List Int)) (k : Nat) (x : Int) (q0 : Bool) (w : World) (h : MK w ao n cap rs k) (hx : -9223372036854775808 ≤ x ∧ x ≤ 9223372036854775807) (hn : n ≤ 1000000) (hq : q0 = true ↔ rform rs x = true ∧ ∃ p, HForm rs p) :
  Calls Tryz.prog 37 #[.slice ao n cap, .int .i64 x] w fun e w' => e = .returned (.bool q0) ∧ Below w.heap.size w w' := by
 have HL := zh h.len_eq;have HQ := zh hq;clear hq;obtain ⟨f, ef⟩ : ∃ f, f = rform rs x := ⟨_, rfl⟩;go_enter Tryz.func37, Tryz.ntmps37
 go_wp2_with fail
 refine (rowsFormK ao n cap rs x w h.ml hx f ef.symm).mono ?_;rintro e w1 ⟨rfl, hb1⟩;have hk := h.za hb1;have HB := zh hb1;clear hb1 h;by_cases hf : f = true
 ·subst hf;have HFM := zh ef.symm;clear ef;obtain ⟨N, eN, hN1, hN2, hNr⟩ := rform_rows (zu HFM);have HN := zh (rows_len hNr);clear hNr eN
  go_wp2_with fail
  refine (pivotsK ao n cap rs k _ hk hn).mono ?_;rintro e w2 ⟨a2, c2, ps, rfl, hps, hpv, hb1⟩;have HP := zh hpv;replace hk := hk.za hb1;replace HB := zh (Below.step (zu HB) hb1);clear hb1 hpv
  go_wp2_with fail
  go_loopw [5, 17] (fun s t wr => ∃ (i : Nat) (L : Int) (p : Nat → Nat), i ≤ n ∧ t = .int .i64 (i : Int) ∧ s = .int .i64 L ∧ HForm (rs.take i) p ∧ LastIs p i L ∧ Below w2.heap.size w2 wr) (fun _ t _ => n - (intOf t).toNat)
  case atStart => exact ⟨0, -1, fun i => i, Nat.zero_le _, rfl, rfl, hform_nil _, Or.inl ⟨rfl, rfl⟩, Below.refl _ _⟩
  case round =>
   obtain ⟨i, L, p, hi, rfl, rfl, hfp, hL, hB⟩ := hrel;have HC := zh hB;have HF := zh hfp;have HLA := zh hL;clear hB hfp hL;by_cases hlt : i < n
   ·have hlr : i < rs.length := by rw [zu HL]; exact hlt
    obtain ⟨gp, op, rfl⟩ := hps.addr (by omega);obtain ⟨hgp, xp⟩ := hps.at hlt;obtain ⟨z, ez⟩ : ∃ z, z = ps.getD i 0 := ⟨_, rfl⟩;have hpz := zu HP i hlt;rw [← ez] at xp hpz;have hbd := hpz.bd (by rw [zu HN i hlr]; omega);unfold In64' at hbd;have f1 := ((zu HC).cell (p := ⟨gp, op + i, none⟩) hgp).trans xp;have hgr := Nat.lt_of_lt_of_le hgp (zu HC).size;have hi0 : (0 : Int) ≤ (i : Int) := by omega
    have hi1 : (i : Int) < (n : Int) := by omega
    clear xp hgp ez;by_cases hzL : z ≤ L
    ·have hq0 : q0 = false := by
      rw [← Bool.not_eq_true, zu HQ];rintro ⟨_, p', hf'⟩;rcases hpz with ⟨_, h0⟩ | ⟨q, e, hq⟩
      ·exact hf'.nought hlr h0
      ·rcases zu HLA with ⟨e1, e2⟩ | ⟨m, e1, e2⟩
       ·omega
       ·have h1 := hf'.take_agree (zu HF) (show m < i by omega) (by omega);have h2 := isPivot_inj (hf'.isPivot hlr) hq;have h3 := hf'.rise m i (by omega) hlr;omega
     subst hq0;clear hpz;go_wp2;go_ret;exact ⟨rfl, Below.step (zu HB) (zu HC)⟩
    ·have hzL' : decide (z ≤ L) = false := decide_eq_false hzL;have hq' : ∃ q : Nat, z = (q : Int) ∧ IsPivot (rs.getD i []) q := by
      rcases hpz with ⟨e, _⟩ | h
      ·rcases zu HLA with ⟨e1, e2⟩ | ⟨m, e1, e2⟩ <;> omega
      ·exact h
     obtain ⟨q, rfl, hq⟩ := hq';have HPV := zh hq;have hqN : q < N := by have := hq.lt; rw [zu HN i hlr] at this; exact this
     clear hpz hq;obtain ⟨g, off, rfl⟩ := hk.addr (by omega);obtain ⟨hg, a5, l5, c5, hc5, hv5⟩ := RowsOf.at (R := fun w a l c zs => VK w a l c zs k) hk hlt;have hl5 : N = l5 := by rw [← hv5.len_eq]; exact (zu HN i hlr).symm
     subst hl5;obtain ⟨g5, o5, rfl⟩ := hv5.some (by omega);obtain ⟨b7, a7, l7, c7, E7, y7⟩ := (hv5.za (zu HC)).at hqN;obtain ⟨f3, f4⟩ := E7.zb;have hg7 := E7.1;have f2 := ((zu HC).cell (p := ⟨g, off + i, none⟩) hg).trans hc5;have hgg := Nat.lt_of_lt_of_le hg (zu HC).size;have hp2 : (q : Int) < (N : Int) := by omega
     have hp0 : (0 : Int) ≤ (q : Int) := by omega
     obtain ⟨v, ev⟩ : ∃ v, v = (rs.getD i []).getD q 0 := ⟨_, rfl⟩;rw [← ev] at y7;obtain ⟨s, es⟩ : ∃ s, s = v.sign := ⟨_, rfl⟩;have ES := zh es;have EV := zh ev;clear ev
     go_wp2_with fail
     refine (signK b7 a7 l7 c7 v k s _ y7 (zu ES)).mono ?_;rintro e w5 ⟨rfl, hb1⟩;have HC5 := zh (Below.step (zu HC) hb1);replace E7 := E7.za hb1;replace y7 := y7.za hb1;clear f1 f2 f3 f4 hg7 hgr hgg;clear hb1;by_cases hv0 : v < 0
     ·have hs : s < 0 := by rw [es, Int.sign_eq_neg_one_of_neg hv0]; omega
      have hq0 : q0 = false := by
       rw [← Bool.not_eq_true, zu HQ];rintro ⟨_, p', hf'⟩;have h1 := hf'.pos i hlr;rw [isPivot_inj (hf'.isPivot hlr) (zu HPV)] at h1;have h2 : ent rs i q = v := (zu EV).symm;omega
      subst hq0;clear es;go_wp2;go_ret;exact ⟨rfl, Below.step (zu HB) (zu HC5)⟩
     ·have hs : decide (s < 0) = false := decide_eq_false (by rw [es]; exact sgn_geH (by omega));have hs' : ¬ s < 0 := of_decide_eq_false hs;clear es;have hsl := slice_front (g := g) (off := off) (show i ≤ n by omega) hk.cap_le;have hcn := hk.cap_le;have hcm := hk.cap_max;unfold maxLen at hcm
      go_wp2_with fail
      go_loopw [40] (fun t wq => ∃ (j : Nat), j ≤ i ∧ t = .int .i64 (j : Int) ∧ (∀ t, t < j → 0 ≤ ent rs t q ∧ ent rs t q < v) ∧ Below w5.heap.size w5 wq) (fun t _ => i - (intOf t).toNat)
      case atStart => exact ⟨0, Nat.zero_le _, rfl, fun t ht => absurd ht (by omega), Below.refl _ _⟩
      case round =>
       obtain ⟨j, hj, rfl, hall, hB⟩ := hrel;have HD := zh hB;have HALL := zh hall;clear hB hall;have HE := zh (Below.step (zu HC5) (zu HD));by_cases hji : j < i
       ·have hjn : j < n := by omega
        obtain ⟨hg8, a8, l8, c8, hc8, hv8⟩ := RowsOf.at (R := fun w a l c zs => VK w a l c zs k) hk hjn;have hl8 : N = l8 := by rw [← hv8.len_eq]; exact (zu HN j (by rw [zu HL]; exact hjn)).symm
        subst hl8;obtain ⟨g6, o6, rfl⟩ := hv8.some (by omega);obtain ⟨b6, a6, l6, c6, E6, y6⟩ := (hv8.za (zu HE)).at hqN;have f1 := ((zu HE).cell (p := ⟨g, off + j, none⟩) hg8).trans hc8;have x5 := ((zu HE).cell (p := ⟨g, off + i, none⟩) hg).trans hc5;have hgq := Nat.lt_of_lt_of_le hg (zu HE).size;have hj0 : (0 : Int) ≤ (j : Int) := by omega
        have hj1 : (j : Int) < (i : Int) := by omega
        replace E7 := E7.za (zu HD);replace y7 := y7.za (zu HD);obtain ⟨r, er⟩ : ∃ r, r = decide (0 ≤ (rs.getD j []).getD q 0 ∧ (rs.getD j []).getD q 0 < (rs.getD i []).getD q 0) := ⟨_, rfl⟩;have ER := zh er;rw [zu EV] at y7;clear er hc8;have hgj : g < wr.heap.size := hgq
        go_upto_region 12 with fail
        have HW : Below wr.heap.size wr wr.drew := (Below.refl _ _).drew;have HS := zh fun w' (HW : Below wr.heap.size wr w') => con5 (E6.za HW).zb.1 (E6.za HW).zb.2 ((HW.cell (p := ⟨g, off + i, none⟩) hgq).trans x5) (E7.za HW).zb.1 (E7.za HW).zb.2;refine zst HS HW 12 (by kernel_rfl) fun zH => ?_;refine ztl (i := 0) [2, 3, 11, 12] rfl ?_;simp only [Act.put, aGet, aZero, aSet, aHead, aTail];refine ztl (i := 1) [2, 3, 11, 12] rfl ?_;simp only [Act.put, aAll];refine ztl (i := 2) [3, 11, 12] rfl ?_;simp only [Act.put, aAll];refine ztl (i := 3) [11, 12] rfl ?_;simp only [Act.put, aAll];refine ztl (i := 4) [6, 7, 9, 10, 11, 12] rfl ?_;simp only [Act.put, aAll];refine ztl (i := 5) [6, 7, 9, 10, 11, 12] rfl ?_;simp only [Act.put, aAll];refine ztl (i := 6) [7, 9, 10, 11, 12] rfl ?_;simp only [Act.put, aAll];refine ztl (i := 7) [9, 10, 11, 12] rfl ?_;simp only [Act.put, aAll];refine ztl (i := 8) [9, 10, 11, 12] rfl ?_;simp only [Act.put, aAll];refine ztl (i := 9) [10, 11, 12] rfl ?_;simp only [Act.put, aAll];refine ztl (i := 10) [11, 12] rfl ?_;simp only [Act.put, aAll];refine tin (i := 11) rfl fun K hK => ?_;go_simp;refine (isRestK b6 a6 l6 c6 ((rs.getD j []).getD q 0) k b7 a7 l7 c7 ((rs.getD i []).getD q 0) k r _ (y6.za HW) (y7.za HW) (zu ER)).mono ?_;rintro e w9 ⟨rfl, hb9⟩;replace HW := Below.step HW hb9;clear hb9;refine hK.out _ _ ?_ (fun zH => ?_)
        ·exact zu HS _ HW
        clear hK K
        try simp only [Act.put, aAll]
        refine tout (i := 12) rfl fun K hK => ?_;go_simp;refine hK.out _ _ ?_;clear hK K
        try simp only [Act.put, aAll]
        refine till_done (by kernel_rfl) ?_ _;clear zH f1 x5;by_cases hr : r = true
        ·subst hr;have hrr := of_decide_eq_true (zu ER).symm;have HRR := zh hrr;clear hrr;go_wp2;go_roundw
         case rel =>
          refine ⟨j + 1, by omega, by go_num, fun t ht => ?_, Below.step (zu HD) HW⟩;by_cases c : t = j
          ·subst c;rw [zu EV];exact zu HRR
          ·exact zu HALL t (by omega)
         case measure => simp [intOf]; omega
        ·have hrf : r = false := by simpa using hr
         subst hrf;have hrr := of_decide_eq_false (zu ER).symm;have hq0 : q0 = false := by
          rw [← Bool.not_eq_true, zu HQ];rintro ⟨_, p', hf'⟩;have h1 := hf'.low j i hji hlr;rw [isPivot_inj (hf'.isPivot hlr) (zu HPV)] at h1;exact hrr h1
         subst hq0;clear hr hrr;go_wp2;go_ret;exact ⟨rfl, Below.step (zu HB) (Below.step (zu HE) HW)⟩
       ·have hjn : j = i := by omega
        subst hjn;have hj1 : ¬ (j : Int) < (j : Int) := by omega
        have hrise : ∀ t, t < j → p t < q := by
         intro t ht;rcases zu HLA with ⟨e1, e2⟩ | ⟨m, e1, e2⟩
         ·omega
         ·by_cases c : t = m
          ·subst c; omega
          ·have := (zu HF).rise t m (by omega) (by rw [take_len (by omega)]; omega);omega
        have hpos : 0 < ent rs j q := by
         have h1 : ent rs j q ≠ 0 := (zu HPV).2;have h2 : ent rs j q = v := (zu EV).symm;omega
        have hnew := HForm.snoc (zu HF) hlr (zu HPV) hrise hpos fun t ht => by
         have := zu HALL t ht;rw [zu EV] at this;exact this
        have HNEW := zh hnew;clear hrise hpos hnew E7 y7;go_wp2;go_roundw
        case rel => exact ⟨j + 1, q, _, by omega, by go_num, rfl, zu HNEW, Or.inr ⟨j, rfl, by simp⟩, zu HE⟩
        case measure => simp [intOf]; omega
   ·have hin : i = n := by omega
    subst hin;have hi1 : ¬ (i : Int) < (i : Int) := by omega
    rw [List.take_of_length_le (by rw [zu HL]; exact Nat.le_refl _)] at HF;have hq0 : q0 = true := (zu HQ).2 ⟨zu HFM, p, zu HF⟩;subst hq0;go_wp2;go_ret;exact ⟨rfl, Below.step (zu HB) (zu HC)⟩
 ·have hff : f = false := by simpa using hf
  subst hff;have hq0 : q0 = false := by
   rw [← Bool.not_eq_true, zu HQ];rintro ⟨h1, _⟩;rw [← ef] at h1;exact absurd h1 (by decide)
  subst hq0;clear ef hf;go_wp2;go_ret;exact ⟨rfl, zu HB⟩

end Go.Proofs.YtkomdimalgnamaaGreat
