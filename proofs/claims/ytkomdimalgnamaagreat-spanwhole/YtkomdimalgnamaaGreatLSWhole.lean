/-
 The walk of SpanWhole: it tells true.
-/
import Derived.Test.YtkomdimalgnamaaGreatLSBase
import Derived.Test.YtkomdimalgnamaaGreatRWhole
import Derived.Test.YtkomdimalgnamaaGreatSpPick
import Derived.Test.YtkomdimalgnamaaGreatRHIs
import Derived.Deep.CutRange
namespace Go.Proofs.YtkomdimalgnamaaGreat
open Go.RowKit Lb
set_option maxRecDepth 20000

theorem wspan {hs : List (List Int)} {n b N : Nat} (h : WReady hs n b N) : (N ≤ 9 ∧ Tame hs N) ∨ n = 0 := h.imp (fun h => ⟨h.1, h.2.1⟩) id
theorem index_to {V W : List (List Int)} {q r : Nat → Nat} {n : Nat} (hV : HForm V q) (e : V = W) (hW : HForm W r) (hl : W.length = n) (g : Nat → Int) : ((prodN n g).tdiv (prodN n fun i => ent V i (q i))) = (prodN n g).tdiv (prodN n fun i => ent W i (r i)) := by
 subst e;rw [prodN_congr (f := fun t => ent V t (q t)) (g := fun t => ent V t (r t)) fun i hi => by rw [isPivot_inj (hV.isPivot (i := i) (by omega)) (hW.isPivot (i := i) (by omega))]]
set_option maxRecDepth 40000 in
set_option maxHeartbeats 4000000 in
theorem spanWhole_walk (a0 : Option Addr) (len0 cap0 : Nat) (rs0 : List (List Int)) (m1 : Int) (a2 : Option Addr) (len2 cap2 : Nat) (zs2 : List Int) (w : World) (r0 : MI w a0 len0 cap0 rs0) (r1 : (Lit.int .i64 m1).wf = true) (r2 : IRowAt w a2 len2 cap2 zs2) :
  Calls Tryz.prog 4 #[.slice a0 len0 cap0, .int .i64 m1, .slice a2 len2 cap2] w fun e w' => e = .returned (.bool true) ∧ Below w.heap.size w w' := by
 have hm1 := bounds_i64 r1;have hml2 := Nat.le_trans r2.cap_le r2.cap_max;unfold maxLen at hml2;clear r1;go_enter Tryz.func4, Tryz.ntmps4
 go_wp2_with fail
 refine (heavyK a0 len0 cap0 rs0 4 9 _ r0 (by omega) (by omega)).mono ?_;rintro e w1 ⟨q, rfl, hq, hlt, hb1⟩;have HB := zh hb1;rcases hq with rfl | rfl
 ·obtain ⟨hn4, hwd, hms⟩ := hlt rfl;have hl0 := hms _ hb1;have HWD := zh hwd;replace r2 := r2.za hb1;clear hms hlt hb1 r0 hwd;by_cases h70 : len2 ≤ 70
  ·have h70' : ¬ (70 : Int) < (len2 : Int) := by omega
   have h70b : decide ((70 : Int) < (len2 : Int)) = false := decide_eq_false h70'
   go_wp2_with fail
   refine (madeK a0 len0 cap0 rs0 m1 _ hl0 (by omega)).mono ?_;rintro e w3 ⟨a4, m, c4, N0, p0, hs, rfl, hN01, hN07, hm4, h4, hf, hl, ht, hb1⟩;have HT := zh ht;replace r2 := r2.za hb1;replace hl0 := hl0.za hb1;replace HB := zh (Below.step (zu HB) hb1);have h4m := h4.ms (by omega);have hNw : IntKind.u64.wrap (N0 : Int) = (N0 : Int) := by
    simp [IntKind.wrap, IntKind.bits, IntKind.signed];omega
   have hNne : ¬ (N0 : Int) = 0 := by omega
   have hNb : ((N0 : Int) == 0) = false := by simpa using (show N0 ≠ 0 by omega)
   clear hb1 h70' h70b hf hl ht h4
   go_wp2_with fail
   go_loopw [9, 34] (fun s t wr => ∃ (i : Nat) (af : Option Addr) (mf cf : Nat) (fs : List Int), i ≤ len2 ∧ t = .int .i64 (i : Int) ∧ s = .slice af mf cf ∧ IOwn wr w3.heap.size af mf cf fs ∧ mf ≤ 6 ∧ mf ≤ i ∧ Below w3.heap.size w3 wr) (fun _ t _ => len2 - (intOf t).toNat)
   case atStart => exact ⟨0, none, 0, 0, [], Nat.zero_le _, rfl, rfl, iown_nil _ _, by omega, Nat.le_refl _, Below.refl _ _⟩
   case round =>
    obtain ⟨i, af, mf, cf, fs, hi, rfl, rfl, hown, hm6, hmi, hC⟩ := hrel;have HC := zh hC;clear hC;by_cases hlt : i < len2
    ·obtain ⟨g, off, rfl⟩ := r2.addr (by omega);obtain ⟨hg, xi⟩ := r2.at hlt;have f1 := ((zu HC).cell (p := ⟨g, off + i, none⟩) hg).trans xi;have hgr := Nat.lt_of_lt_of_le hg (zu HC).size;have hi0 : (0 : Int) ≤ (i : Int) := by omega
     have hi1 : (i : Int) < (len2 : Int) := by omega
     obtain ⟨y, ey⟩ : ∃ y, y = zs2.getD i 0 := ⟨_, rfl⟩;rw [← ey] at f1;clear ey hg xi;by_cases hi6 : i < 6
     ·have hi6' : (i : Int) < 6 := by omega
      obtain ⟨C, hCw⟩ : ∃ C : Nat, IntKind.u64.wrap y = (C : Int) := by
       refine ⟨(IntKind.u64.wrap y).toNat, ?_⟩;simp [IntKind.wrap, IntKind.bits, IntKind.signed];omega
      obtain ⟨r, er⟩ : ∃ r : Nat, r = C % N0 := ⟨_, rfl⟩;have hrN : r < N0 := by rw [er]; exact Nat.mod_lt _ (by omega)
      have e1 : (C : Int) % (N0 : Int) = (r : Int) := by rw [er]; exact (Int.natCast_emod C N0).symm
      have e2 : (C : Int).tmod (N0 : Int) = (r : Int) := by rw [Int.tmod_eq_emod_of_nonneg (by omega)]; exact e1
      have hrw : IntKind.i64.wrap (r : Int) = (r : Int) := by rw [IntKind.wrap_i64]; omega
      clear er;have hsz := (zu HC).size;obtain ⟨W6, hW6⟩ : ∃ W6, W6 = wr.alloc (.cells #[.int .i64 (r : Int)] 3) := ⟨_, rfl⟩;have hb9 : Below wr.heap.size wr W6 := by rw [hW6]; exact below_new _ _
      replace hown := hown.za hb9;replace HC := zh (Below.step (zu HC) hb9);clear hb9;have hcell : W6.cell? ⟨wr.heap.size, 0, none⟩ = some (.int .i64 (r : Int)) := by rw [hW6]; simp
      have hsz := (zu HC).size;rw [hW6] at hown hcell hsz
      go_wp2_with (at_builtin; refine append_int rfl (.tmp 41) (.tmp 48) 38 Tryz.underlying38 rfl w3.heap.size af mf cf fs rfl hown (by omega) hsz wr.heap.size 0 1 (r : Int) rfl (by unfold In64'; omega) hcell ?_)
      intro gn cn w7 hown2 hgr2;rw [← hW6] at hgr2 hown hsz;clear hW6 hcell;have HD := zh ((zu HC).grown hgr2 hsz hown.ge);clear hgr2;go_wp2;go_roundw
      case rel => exact ⟨i + 1, _, _, _, _, by omega, by go_num, rfl, hown2, by omega, by omega, zu HD⟩
      case measure => simp [intOf]; omega
     ·have hi6' : ¬ (i : Int) < 6 := by omega
      go_wp2;go_roundw
      case rel => exact ⟨i + 1, _, _, _, _, by omega, by go_num, rfl, hown, hm6, by omega, zu HC⟩
      case measure => simp [intOf]; omega
    ·have hin : i = len2 := by omega
     subst hin;have hi1 : ¬ (i : Int) < (i : Int) := by omega
     have HH := zh (show MS wr a4 m c4 hs 36 ∧ IRowAt wr af mf cf fs ∧ ∀ (N : Nat) (p : Nat → Nat), (N0 : Int) = (N : Int) → rform hs (N0 : Int) = true → HForm hs p → (∀ r ∈ hs, r.length = N) → WReady hs m 36 N from ⟨h4m.za (zu HC), hown.irow, fun N p e _ _ _ => by
      obtain rfl : N0 = N := by omega
      exact Or.inl ⟨by omega, zu HT, aS_36 (by omega), bS_36 (by omega)⟩⟩)
     replace hl0 := hl0.za (zu HC);replace r2 := r2.za (zu HC);replace HB := zh (Below.step (zu HB) (zu HC));have HR0 := zh (show ∀ (N : Nat) (p : Nat → Nat), m1 = (N : Int) → rform rs0 m1 = true → HForm rs0 p → (∀ r ∈ rs0, r.length = N) → WReady rs0 len0 3 N from fun N p _ _ hp hlr => by
      by_cases c : len0 = 0
      ·exact Or.inr c
      ·have h9 : N ≤ 9 := by
        have := zu HWD 0;rw [rows_len hlr 0 (by rw [hl0.len_eq]; omega)] at this;exact this
       exact Or.inl ⟨h9, tame_small hp hlr (SameL.refl _) hlr (by rw [hl0.len_eq]; exact hn4) (fun i j => ms_ent hl0 i j) (by omega), aS_3 h9, bS_3 h9⟩)
     clear hown HC h4m hmi;obtain ⟨W4, eW4⟩ : ∃ W4, W4 = wr := ⟨_, rfl⟩;subst eW4
     go_wp2_with fail
     go_loopw [0, 1, 2, 51] (fun l n c t wr => ∃ (i : Nat) (al : Option Addr) (nl cl' : Nat) (ls : List (List Int)) (x : Int) (ai : Option Addr) (mi ci : Nat) (zs : List Int) (b : Nat), i ≤ 2 ∧ t = .int .i64 (i : Int) ∧ l = .slice al nl cl' ∧ n = .int .i64 x ∧ c = .slice ai mi ci ∧ -9223372036854775808 ≤ x ∧ x ≤ 9223372036854775807 ∧ nl ≤ 4 ∧ MS wr al nl cl' ls b ∧ 3 ≤ b ∧ b ≤ 36 ∧ IRowAt wr ai mi ci zs ∧ mi ≤ 70 ∧ (∀ (N : Nat) (p : Nat → Nat), x = (N : Int) → rform ls x = true → HForm ls p → (∀ r ∈ ls, r.length = N) → WReady ls nl b N) ∧ Below W4.heap.size W4 wr) (fun _ _ _ t _ => 2 - (intOf t).toNat)
     case atStart => exact ⟨0, _, _, _, rs0, m1, _, _, _, zs2, 3, by omega, rfl, rfl, rfl, rfl, hm1.1, hm1.2, hn4, hl0, by omega, by omega, r2, h70, zu HR0, Below.refl _ _⟩
     case round =>
      clear hl0 r2 hm1 HR0 hn4;obtain ⟨i, al, nl, cl', ls, x, ai, mi, ci, zs, b, hi, rfl, rfl, rfl, rfl, hx1, hx2, hn4, hl, hb3, hb36, hc, hc70, hrd, hB⟩ := hrel;have HCC := zh hB;have HRD := zh hrd;clear hB hrd;by_cases hlt : i < 2
      ·have hi1 : (i : Int) < 2 := by omega
       have HLEN := zh hl.len_eq;by_cases hform : rform ls x = true ∧ ∃ p, HForm ls p
       ·have hrd := zu HRD;have HIS := zh hform;obtain ⟨hform1, p, hp⟩ := hform;obtain ⟨N, rfl, hN1, hN64, hMr⟩ := rform_rows hform1;have HP := zh (And.intro hp hMr);have HR := zh (hrd N p rfl hform1 hp hMr);clear hform1 hp hMr
        go_wp2_with fail
        refine (refIsK al nl cl' ls b (N : Int) true _ hl.mk ⟨hx1, hx2⟩ (by omega) ⟨fun _ => zu HIS, fun _ => rfl⟩).mono ?_;rintro e w5 ⟨rfl, hb1⟩;have HC := zh hb1;clear hb1;by_cases hm64 : mi ≤ 64
        ·have hm64' : (mi : Int) ≤ 64 := by omega
         by_cases hm0 : 0 < mi
         ·have hm0' : (0 : Int) < (mi : Int) := by omega
          go_wp2_with fail
          go_loopw [13, 88] (fun s t wq => ∃ (j : Nat) (q : Bool), j ≤ mi ∧ t = .int .i64 (j : Int) ∧ s = .bool q ∧ (q = true ↔ ∀ t, t < j → 0 ≤ zs.getD t 0 ∧ zs.getD t 0 < (N : Int)) ∧ Below w5.heap.size w5 wq) (fun _ t _ => mi - (intOf t).toNat)
          case atStart => exact ⟨0, true, Nat.zero_le _, rfl, rfl, ⟨fun _ t ht => absurd ht (by omega), fun _ => rfl⟩, Below.refl _ _⟩
          case round =>
           obtain ⟨j, q, hj, rfl, rfl, hq, hD⟩ := hrel;have HQ := zh hq;have HD := zh hD;clear hq hD;by_cases hjm : j < mi
           ·obtain ⟨gi, oi, rfl⟩ := hc.addr (by omega);obtain ⟨hgi, xi⟩ := hc.at hjm;have hbb := Below.step (zu HC) (zu HD);have f3 := (hbb.cell (p := ⟨gi, oi + j, none⟩) hgi).trans xi;have hgir := Nat.lt_of_lt_of_le hgi hbb.size;obtain ⟨y, ey⟩ : ∃ y, y = zs.getD j 0 := ⟨_, rfl⟩;rw [← ey] at f3;have EY := zh ey;have hj0 : (0 : Int) ≤ (j : Int) := by omega
            have hj1 : (j : Int) < (mi : Int) := by omega
            clear hgi xi hbb ey;cases q with
            | false =>
             go_wp2;go_roundw
             case rel => exact ⟨j + 1, false, by omega, by go_num, rfl, ⟨fun e => by simp at e, fun h2 => by have := (zu HQ).2 fun t ht => h2 t (by omega); simp at this⟩, zu HD⟩
             case measure => simp [intOf]; omega
            | true =>
             by_cases hy0 : 0 ≤ y
             ·by_cases hyN : y < (N : Int)
              ·go_wp2;go_roundw
               case rel =>
                refine ⟨j + 1, true, by omega, by go_num, rfl, ⟨fun _ => ?_, fun _ => rfl⟩, zu HD⟩;have k2 := (zu HQ).1 (by trivial);intro t ht;by_cases c : t = j
                ·subst c; rw [← zu EY]; exact ⟨hy0, hyN⟩
                ·exact k2 t (by omega)
               case measure => simp [intOf]; omega
              ·have hyb : decide (y < (N : Int)) = false := decide_eq_false hyN;go_wp2;go_roundw
               case rel => exact ⟨j + 1, false, by omega, by go_num, rfl, ⟨fun e => by simp at e, fun h2 => absurd (by rw [zu EY]; exact (h2 j (by omega)).2) hyN⟩, zu HD⟩
               case measure => simp [intOf]; omega
             ·have hyb : decide (0 ≤ y) = false := decide_eq_false hy0;go_wp2;go_roundw
              case rel => exact ⟨j + 1, false, by omega, by go_num, rfl, ⟨fun e => by simp at e, fun h2 => absurd (by rw [zu EY]; exact (h2 j (by omega)).1) hy0⟩, zu HD⟩
              case measure => simp [intOf]; omega
           ·have hjm2 : j = mi := by omega
            have hj1 : ¬ (j : Int) < (mi : Int) := by omega
            have HQ2 : Hid (q = true ↔ ∀ t, t < mi → 0 ≤ zs.getD t 0 ∧ zs.getD t 0 < (N : Int)) := zh (by rw [← hjm2]; exact zu HQ);replace HC := zh (Below.step (zu HC) (zu HD));clear HQ HD hjm hjm2;cases q with
            | true =>
             have k2 := (zu HQ2).1 (by trivial);obtain ⟨f, hf⟩ : ∃ f : Nat → Nat, f = fun j => (zs.getD j 0).toNat % 100 := ⟨_, rfl⟩;have HFZ := zh (show ∀ t, t < mi → zs.getD t 0 = (f t : Int) from fun t ht => by have := k2 t ht; rw [hf]; show _ = (((zs.getD t 0).toNat % 100 : Nat) : Int); omega);have HFN := zh (show ∀ t, t < mi → f t < N from fun t ht => by have := k2 t ht; rw [hf]; show (zs.getD t 0).toNat % 100 < N; omega);have HFB := zh (show ∀ t, f t ≤ 1000000 from fun t => by rw [hf]; show (zs.getD t 0).toNat % 100 ≤ 1000000; omega);clear k2 hf
             go_wp2_with fail
             refine (rcolumnsK al nl cl' ls b ai mi ci zs f _ ((hl.za (zu HC)).mk) (hc.za (zu HC)) (zu HFZ) (zu HFB) (by omega) (by omega)).mono ?_;rintro e w7 ⟨a7, c7, rfl, h7, hb1⟩;replace HC := zh (Below.step (zu HC) hb1);have HCN := zh (show ∀ t, t < nl → ((ls.map (colsL f mi)).getD t []).length = mi from fun t ht => by rw [map_getD (by rw [zu HLEN]; exact ht)]; exact colsL_len f mi _);clear hb1
             go_wp2_with fail
             refine (refHnfK a7 nl c7 (ls.map (colsL f mi)) 36 mi _ (ms_upH (h7.ms (by omega)) (by omega)) (by omega) (zu HCN) (by omega) (by omega) (aS_36 (by omega)) (bS_36 (by omega))).mono ?_;rintro e w8 ⟨aw, kw, cw, pw, hsW, rfl, hW, hfW, hsW2, hlW, -, hb1⟩;have HWN := zh (And.intro hfW (And.intro hsW2 hlW));replace HC := zh (Below.step (zu HC) hb1);clear hb1 h7 hfW hsW2 hlW
             go_wp2_with fail
             refine (spWholeK al nl cl' ls p b N _ ((hl.za (zu HC)).mk) (zu HP).1 (zu HP).2 hN1 hN64 (by omega) (by omega) (wspan (zu HR))).mono ?_;rintro e w11 ⟨a11, c11, q1, V1, rfl, h11, hf11, hi11, hl11, hb1⟩;have HV1 := zh (And.intro hi11 (And.intro hf11 hl11));have HL1 := zh h11.len_eq;replace HC := zh (Below.step (zu HC) hb1);replace hW := hW.za hb1;clear hb1 hf11 hi11 hl11
             go_wp2_with fail
             refine (rwholeK al nl cl' ls p b N _ ((hl.za (zu HC)).mk) (zu HP).1 (zu HP).2 hN1 hN64 (by omega) (by omega) (zu HR)).mono ?_;rintro e w12 ⟨a12, c12, q2, V2, rfl, h12, hf12, hi12, hl12, hb1⟩;have HE := zh (show V1 = V2 from (zu HV1).1.one hi12 (zu HV1).2.1 hf12 (zu HV1).2.2 hl12);replace h11 := h11.za hb1;replace HC := zh (Below.step (zu HC) hb1);replace hW := hW.za hb1;clear hb1 hf12 hi12 hl12
             go_wp2_with fail
             refine (refSameAllK a11 nl c11 V1 36 a12 nl c12 V2 36 _ h11 h12 (zu HE)).mono ?_;rintro e w13 ⟨rfl, hb1⟩;replace HC := zh (Below.step (zu HC) hb1);replace hW := hW.za hb1;clear hb1 h11 h12 HE
             go_wp2_with fail
             refine (spIndexK al nl cl' ls p b N _ ((hl.za (zu HC)).mk) (zu HP).1 (zu HP).2 hN1 hN64 (by omega) (by omega) (wspan (zu HR))).mono ?_;rintro e w14 ⟨b14, a14, l14, c14, q3, V3, rfl, h14, hf14, hi14, hl14, hb1⟩;have e3 : V3 = V1 := hi14.one (zu HV1).1 hf14 (zu HV1).2.1 hl14 (zu HV1).2.2;have HE3 := zh (index_to hf14 e3 (zu HV1).2.1 (zu HL1) (fun i => ent ls i (p i)));rw [zu HE3] at h14;replace HC := zh (Below.step (zu HC) hb1);replace hW := hW.za hb1;clear hb1 hf14 hi14 hl14 e3 HE3
             go_wp2_with fail
             refine (rindexK al nl cl' ls p b N _ (hl.za (zu HC)) (zu HP).1 (zu HP).2 hN1 hN64 (by omega) (by omega) (zu HR)).mono ?_;rintro e w15 ⟨b15, a15, l15, c15, q4, V4, rfl, h15, hf15, hi15, hl15, hb1⟩;have e4 : V4 = V1 := hi15.one (zu HV1).1 hf15 (zu HV1).2.1 hl15 (zu HV1).2.2;have HE4 := zh (index_to hf15 e4 (zu HV1).2.1 (zu HL1) (fun i => ent ls i (p i)));rw [zu HE4] at h15;replace h14 := h14.za hb1;replace HC := zh (Below.step (zu HC) hb1);replace hW := hW.za hb1;clear hb1 hf15 hi15 hl15 e4 HE4
             go_wp2_with fail
             refine (rsameK b14 a14 l14 c14 _ _ b15 a15 l15 c15 _ _ _ h14 h15 rfl).mono ?_;rintro e w16 ⟨rfl, hb1⟩;replace HC := zh (Below.step (zu HC) hb1);replace hW := hW.za hb1;clear hb1 h14 h15
             go_wp2_with fail
             refine (spPickK al nl cl' ls p b N ai mi ci zs f _ ((hl.za (zu HC)).mk) (zu HP).1 (zu HP).2 hN1 hN64 (hc.za (zu HC)) (zu HFZ) (zu HFN) hm64 (by omega) (by omega) (by omega)).mono ?_;rintro e w17 ⟨a17, k17, c17, hs17, rfl, h17, -, h17y, hb1⟩;have HE := zh (show hs17 = hsW from by
              obtain ⟨p17, j1, j2, j3⟩ := h17y hm0;exact hnf_one j1 (zu HWN).1 (j2.symm.trans (zu HWN).2.1) j3 (zu HWN).2.2)
             replace hW := hW.za hb1;replace HC := zh (Below.step (zu HC) hb1);clear hb1 h17y
             go_wp2_with fail
             refine (refSameAllK a17 k17 c17 hs17 500 aw kw cw hsW 222000 _ h17 hW (zu HE)).mono ?_;rintro e w18 ⟨rfl, hb1⟩;have HZ := zh (Below.step (zu HCC) (Below.step (zu HC) hb1));clear hb1 h17 hW hl hc HC HCC HE;go_wp2;go_roundw
             case rel => exact ⟨i + 1, _, _, _, hs, (N0 : Int), _, _, _, fs, 36, by omega, by go_num, rfl, rfl, rfl, by omega, by omega, hm4, (zu HH).1.za (zu HZ), by omega, by omega, (zu HH).2.1.za (zu HZ), by omega, (zu HH).2.2, zu HZ⟩
             case measure => simp [intOf]; omega
            | false =>
             go_wp2_with fail
             refine (spWholeK al nl cl' ls p b N _ ((hl.za (zu HC)).mk) (zu HP).1 (zu HP).2 hN1 hN64 (by omega) (by omega) (wspan (zu HR))).mono ?_;rintro e w11 ⟨a11, c11, q1, V1, rfl, h11, hf11, hi11, hl11, hb1⟩;have HV1 := zh (And.intro hi11 (And.intro hf11 hl11));have HL1 := zh h11.len_eq;replace HC := zh (Below.step (zu HC) hb1);clear hb1 hf11 hi11 hl11
             go_wp2_with fail
             refine (rwholeK al nl cl' ls p b N _ ((hl.za (zu HC)).mk) (zu HP).1 (zu HP).2 hN1 hN64 (by omega) (by omega) (zu HR)).mono ?_;rintro e w12 ⟨a12, c12, q2, V2, rfl, h12, hf12, hi12, hl12, hb1⟩;have HE := zh (show V1 = V2 from (zu HV1).1.one hi12 (zu HV1).2.1 hf12 (zu HV1).2.2 hl12);replace h11 := h11.za hb1;replace HC := zh (Below.step (zu HC) hb1);clear hb1 hf12 hi12 hl12
             go_wp2_with fail
             refine (refSameAllK a11 nl c11 V1 36 a12 nl c12 V2 36 _ h11 h12 (zu HE)).mono ?_;rintro e w13 ⟨rfl, hb1⟩;replace HC := zh (Below.step (zu HC) hb1);clear hb1 h11 h12 HE
             go_wp2_with fail
             refine (spIndexK al nl cl' ls p b N _ ((hl.za (zu HC)).mk) (zu HP).1 (zu HP).2 hN1 hN64 (by omega) (by omega) (wspan (zu HR))).mono ?_;rintro e w14 ⟨b14, a14, l14, c14, q3, V3, rfl, h14, hf14, hi14, hl14, hb1⟩;have e3 : V3 = V1 := hi14.one (zu HV1).1 hf14 (zu HV1).2.1 hl14 (zu HV1).2.2;have HE3 := zh (index_to hf14 e3 (zu HV1).2.1 (zu HL1) (fun i => ent ls i (p i)));rw [zu HE3] at h14;replace HC := zh (Below.step (zu HC) hb1);clear hb1 hf14 hi14 hl14 e3 HE3
             go_wp2_with fail
             refine (rindexK al nl cl' ls p b N _ (hl.za (zu HC)) (zu HP).1 (zu HP).2 hN1 hN64 (by omega) (by omega) (zu HR)).mono ?_;rintro e w15 ⟨b15, a15, l15, c15, q4, V4, rfl, h15, hf15, hi15, hl15, hb1⟩;have e4 : V4 = V1 := hi15.one (zu HV1).1 hf15 (zu HV1).2.1 hl15 (zu HV1).2.2;have HE4 := zh (index_to hf15 e4 (zu HV1).2.1 (zu HL1) (fun i => ent ls i (p i)));rw [zu HE4] at h15;replace h14 := h14.za hb1;replace HC := zh (Below.step (zu HC) hb1);clear hb1 hf15 hi15 hl15 e4 HE4
             go_wp2_with fail
             refine (rsameK b14 a14 l14 c14 _ _ b15 a15 l15 c15 _ _ _ h14 h15 rfl).mono ?_;rintro e w16 ⟨rfl, hb1⟩;replace HC := zh (Below.step (zu HC) hb1);clear hb1 h14 h15;have HBAD := zh (show 64 < mi ∨ ¬ (rform ls (N : Int) = true ∧ ∃ p, HForm ls p) ∨ ∃ j, j < mi ∧ (zs.getD j 0 < 0 ∨ (N : Int) ≤ zs.getD j 0) from by
              right; right
              apply Classical.byContradiction;intro hno;have hq := (zu HQ2).2 fun t ht => ⟨Classical.byContradiction fun h => hno ⟨t, ht, Or.inl (by omega)⟩, Classical.byContradiction fun h => hno ⟨t, ht, Or.inr (by omega)⟩⟩;simp at hq)
             clear HQ2
             go_wp2_with fail
             refine (spPickNilK al nl cl' ls b (N : Int) ai mi ci zs _ ((hl.za (zu HC)).mk) (hc.za (zu HC)) ⟨hx1, hx2⟩ (by omega) (by omega) (zu HBAD)).mono ?_;rintro e w17 ⟨rfl, hb1⟩;replace HC := zh (Below.step (zu HC) hb1);clear hb1 HBAD
             go_wp2_with fail
             refine (refSameAllK none 0 0 [] 500 none 0 0 [] 500 _ (mf_nil _ _) (mf_nil _ _) rfl).mono ?_;rintro e w18 ⟨rfl, hb1⟩;have HZ := zh (Below.step (zu HCC) (Below.step (zu HC) hb1));clear hb1 hl hc HC HCC;go_wp2;go_roundw
             case rel => exact ⟨i + 1, _, _, _, hs, (N0 : Int), _, _, _, fs, 36, by omega, by go_num, rfl, rfl, rfl, by omega, by omega, hm4, (zu HH).1.za (zu HZ), by omega, by omega, (zu HH).2.1.za (zu HZ), by omega, (zu HH).2.2, zu HZ⟩
             case measure => simp [intOf]; omega
         ·have hm0' : ¬ (0 : Int) < (mi : Int) := by omega
          have hm0b : decide ((0 : Int) < (mi : Int)) = false := decide_eq_false hm0';have hmi0 : mi = 0 := by omega
          have HMI := zh hmi0;clear hm0 hmi0
          go_wp2_with fail
          go_loopw [13, 88] (fun s t wq => ∃ j : Nat, j ≤ mi ∧ t = .int .i64 (j : Int) ∧ s = .bool false ∧ Below w5.heap.size w5 wq) (fun _ t _ => mi - (intOf t).toNat)
          case atStart => exact ⟨0, Nat.zero_le _, rfl, by rw [decide_eq_false (show ¬ 0 < mi by have := zu HMI; omega)], Below.refl _ _⟩
          case round =>
           obtain ⟨j, hj, rfl, rfl, hD⟩ := hrel;have HD := zh hD;clear hD;by_cases hjm : j < mi
           ·obtain ⟨gi, oi, rfl⟩ := hc.addr (by omega);obtain ⟨hgi, xi⟩ := hc.at hjm;have hbb := Below.step (zu HC) (zu HD);have f3 := (hbb.cell (p := ⟨gi, oi + j, none⟩) hgi).trans xi;have hgir := Nat.lt_of_lt_of_le hgi hbb.size;have hj0 : (0 : Int) ≤ (j : Int) := by omega
            have hj1 : (j : Int) < (mi : Int) := by omega
            clear hgi xi hbb;go_wp2;go_roundw
            case rel => exact ⟨j + 1, by omega, by go_num, rfl, zu HD⟩
            case measure => simp [intOf]; omega
           ·have hj1 : ¬ (j : Int) < (mi : Int) := by omega
            replace HC := zh (Below.step (zu HC) (zu HD));clear HD hjm hj
            go_wp2_with fail
            refine (spWholeK al nl cl' ls p b N _ ((hl.za (zu HC)).mk) (zu HP).1 (zu HP).2 hN1 hN64 (by omega) (by omega) (wspan (zu HR))).mono ?_;rintro e w11 ⟨a11, c11, q1, V1, rfl, h11, hf11, hi11, hl11, hb1⟩;have HV1 := zh (And.intro hi11 (And.intro hf11 hl11));have HL1 := zh h11.len_eq;replace HC := zh (Below.step (zu HC) hb1);clear hb1 hf11 hi11 hl11
            go_wp2_with fail
            refine (rwholeK al nl cl' ls p b N _ ((hl.za (zu HC)).mk) (zu HP).1 (zu HP).2 hN1 hN64 (by omega) (by omega) (zu HR)).mono ?_;rintro e w12 ⟨a12, c12, q2, V2, rfl, h12, hf12, hi12, hl12, hb1⟩;have HE := zh (show V1 = V2 from (zu HV1).1.one hi12 (zu HV1).2.1 hf12 (zu HV1).2.2 hl12);replace h11 := h11.za hb1;replace HC := zh (Below.step (zu HC) hb1);clear hb1 hf12 hi12 hl12
            go_wp2_with fail
            refine (refSameAllK a11 nl c11 V1 36 a12 nl c12 V2 36 _ h11 h12 (zu HE)).mono ?_;rintro e w13 ⟨rfl, hb1⟩;replace HC := zh (Below.step (zu HC) hb1);clear hb1 h11 h12 HE
            go_wp2_with fail
            refine (spIndexK al nl cl' ls p b N _ ((hl.za (zu HC)).mk) (zu HP).1 (zu HP).2 hN1 hN64 (by omega) (by omega) (wspan (zu HR))).mono ?_;rintro e w14 ⟨b14, a14, l14, c14, q3, V3, rfl, h14, hf14, hi14, hl14, hb1⟩;have e3 : V3 = V1 := hi14.one (zu HV1).1 hf14 (zu HV1).2.1 hl14 (zu HV1).2.2;have HE3 := zh (index_to hf14 e3 (zu HV1).2.1 (zu HL1) (fun i => ent ls i (p i)));rw [zu HE3] at h14;replace HC := zh (Below.step (zu HC) hb1);clear hb1 hf14 hi14 hl14 e3 HE3
            go_wp2_with fail
            refine (rindexK al nl cl' ls p b N _ (hl.za (zu HC)) (zu HP).1 (zu HP).2 hN1 hN64 (by omega) (by omega) (zu HR)).mono ?_;rintro e w15 ⟨b15, a15, l15, c15, q4, V4, rfl, h15, hf15, hi15, hl15, hb1⟩;have e4 : V4 = V1 := hi15.one (zu HV1).1 hf15 (zu HV1).2.1 hl15 (zu HV1).2.2;have HE4 := zh (index_to hf15 e4 (zu HV1).2.1 (zu HL1) (fun i => ent ls i (p i)));rw [zu HE4] at h15;replace h14 := h14.za hb1;replace HC := zh (Below.step (zu HC) hb1);clear hb1 hf15 hi15 hl15 e4 HE4
            go_wp2_with fail
            refine (rsameK b14 a14 l14 c14 _ _ b15 a15 l15 c15 _ _ _ h14 h15 rfl).mono ?_;rintro e w16 ⟨rfl, hb1⟩;replace HC := zh (Below.step (zu HC) hb1);clear hb1 h14 h15;have HFZ := zh (show ∀ t, t < mi → zs.getD t 0 = (((fun _ => 0) t : Nat) : Int) from fun t ht => by have := zu HMI; omega);have HFN := zh (show ∀ t, t < mi → (fun _ => 0 : Nat → Nat) t < N from fun t ht => by have := zu HMI; omega)
            go_wp2_with fail
            refine (spPickK al nl cl' ls p b N ai mi ci zs (fun _ => 0) _ ((hl.za (zu HC)).mk) (zu HP).1 (zu HP).2 hN1 hN64 (hc.za (zu HC)) (zu HFZ) (zu HFN) hm64 (by omega) (by omega) (by omega)).mono ?_;rintro e w17 ⟨a17, k17, c17, hs17, rfl, h17, h17n, -, hb1⟩;obtain rfl := h17n (zu HMI);replace HC := zh (Below.step (zu HC) hb1);clear hb1 h17n
            go_wp2_with fail
            refine (refSameAllK a17 k17 c17 [] 500 none 0 0 [] 500 _ h17 (mf_nil _ _) rfl).mono ?_;rintro e w18 ⟨rfl, hb1⟩;have HZ := zh (Below.step (zu HCC) (Below.step (zu HC) hb1));clear hb1 h17 hl hc HC HCC;go_wp2;go_roundw
            case rel => exact ⟨i + 1, _, _, _, hs, (N0 : Int), _, _, _, fs, 36, by omega, by go_num, rfl, rfl, rfl, by omega, by omega, hm4, (zu HH).1.za (zu HZ), by omega, by omega, (zu HH).2.1.za (zu HZ), by omega, (zu HH).2.2, zu HZ⟩
            case measure => simp [intOf]; omega
        ·have hm64' : ¬ (mi : Int) ≤ 64 := by omega
         have hm64b : decide ((mi : Int) ≤ 64) = false := decide_eq_false hm64';have hbig : 64 < mi := by omega
         have HBAD := zh (show 64 < mi ∨ ¬ (rform ls (N : Int) = true ∧ ∃ p, HForm ls p) ∨ ∃ j, j < mi ∧ (zs.getD j 0 < 0 ∨ (N : Int) ≤ zs.getD j 0) from Or.inl hbig);clear hm64 hbig
         go_wp2_with fail
         go_loopw [13, 88] (fun s t wq => ∃ j : Nat, j ≤ mi ∧ t = .int .i64 (j : Int) ∧ s = .bool false ∧ Below w5.heap.size w5 wq) (fun _ t _ => mi - (intOf t).toNat)
         case atStart => exact ⟨0, Nat.zero_le _, rfl, rfl, Below.refl _ _⟩
         case round =>
          obtain ⟨j, hj, rfl, rfl, hD⟩ := hrel;have HD := zh hD;clear hD;by_cases hjm : j < mi
          ·obtain ⟨gi, oi, rfl⟩ := hc.addr (by omega);obtain ⟨hgi, xi⟩ := hc.at hjm;have hbb := Below.step (zu HC) (zu HD);have f3 := (hbb.cell (p := ⟨gi, oi + j, none⟩) hgi).trans xi;have hgir := Nat.lt_of_lt_of_le hgi hbb.size;have hj0 : (0 : Int) ≤ (j : Int) := by omega
           have hj1 : (j : Int) < (mi : Int) := by omega
           clear hgi xi hbb;go_wp2;go_roundw
           case rel => exact ⟨j + 1, by omega, by go_num, rfl, zu HD⟩
           case measure => simp [intOf]; omega
          ·have hj1 : ¬ (j : Int) < (mi : Int) := by omega
           replace HC := zh (Below.step (zu HC) (zu HD));clear HD hjm hj
           go_wp2_with fail
           refine (spWholeK al nl cl' ls p b N _ ((hl.za (zu HC)).mk) (zu HP).1 (zu HP).2 hN1 hN64 (by omega) (by omega) (wspan (zu HR))).mono ?_;rintro e w11 ⟨a11, c11, q1, V1, rfl, h11, hf11, hi11, hl11, hb1⟩;have HV1 := zh (And.intro hi11 (And.intro hf11 hl11));have HL1 := zh h11.len_eq;replace HC := zh (Below.step (zu HC) hb1);clear hb1 hf11 hi11 hl11
           go_wp2_with fail
           refine (rwholeK al nl cl' ls p b N _ ((hl.za (zu HC)).mk) (zu HP).1 (zu HP).2 hN1 hN64 (by omega) (by omega) (zu HR)).mono ?_;rintro e w12 ⟨a12, c12, q2, V2, rfl, h12, hf12, hi12, hl12, hb1⟩;have HE := zh (show V1 = V2 from (zu HV1).1.one hi12 (zu HV1).2.1 hf12 (zu HV1).2.2 hl12);replace h11 := h11.za hb1;replace HC := zh (Below.step (zu HC) hb1);clear hb1 hf12 hi12 hl12
           go_wp2_with fail
           refine (refSameAllK a11 nl c11 V1 36 a12 nl c12 V2 36 _ h11 h12 (zu HE)).mono ?_;rintro e w13 ⟨rfl, hb1⟩;replace HC := zh (Below.step (zu HC) hb1);clear hb1 h11 h12 HE
           go_wp2_with fail
           refine (spIndexK al nl cl' ls p b N _ ((hl.za (zu HC)).mk) (zu HP).1 (zu HP).2 hN1 hN64 (by omega) (by omega) (wspan (zu HR))).mono ?_;rintro e w14 ⟨b14, a14, l14, c14, q3, V3, rfl, h14, hf14, hi14, hl14, hb1⟩;have e3 : V3 = V1 := hi14.one (zu HV1).1 hf14 (zu HV1).2.1 hl14 (zu HV1).2.2;have HE3 := zh (index_to hf14 e3 (zu HV1).2.1 (zu HL1) (fun i => ent ls i (p i)));rw [zu HE3] at h14;replace HC := zh (Below.step (zu HC) hb1);clear hb1 hf14 hi14 hl14 e3 HE3
           go_wp2_with fail
           refine (rindexK al nl cl' ls p b N _ (hl.za (zu HC)) (zu HP).1 (zu HP).2 hN1 hN64 (by omega) (by omega) (zu HR)).mono ?_;rintro e w15 ⟨b15, a15, l15, c15, q4, V4, rfl, h15, hf15, hi15, hl15, hb1⟩;have e4 : V4 = V1 := hi15.one (zu HV1).1 hf15 (zu HV1).2.1 hl15 (zu HV1).2.2;have HE4 := zh (index_to hf15 e4 (zu HV1).2.1 (zu HL1) (fun i => ent ls i (p i)));rw [zu HE4] at h15;replace h14 := h14.za hb1;replace HC := zh (Below.step (zu HC) hb1);clear hb1 hf15 hi15 hl15 e4 HE4
           go_wp2_with fail
           refine (rsameK b14 a14 l14 c14 _ _ b15 a15 l15 c15 _ _ _ h14 h15 rfl).mono ?_;rintro e w16 ⟨rfl, hb1⟩;replace HC := zh (Below.step (zu HC) hb1);clear hb1 h14 h15
           go_wp2_with fail
           refine (spPickNilK al nl cl' ls b (N : Int) ai mi ci zs _ ((hl.za (zu HC)).mk) (hc.za (zu HC)) ⟨hx1, hx2⟩ (by omega) (by omega) (zu HBAD)).mono ?_;rintro e w17 ⟨rfl, hb1⟩;replace HC := zh (Below.step (zu HC) hb1);clear hb1 HBAD
           go_wp2_with fail
           refine (refSameAllK none 0 0 [] 500 none 0 0 [] 500 _ (mf_nil _ _) (mf_nil _ _) rfl).mono ?_;rintro e w18 ⟨rfl, hb1⟩;have HZ := zh (Below.step (zu HCC) (Below.step (zu HC) hb1));clear hb1 hl hc HC HCC;go_wp2;go_roundw
           case rel => exact ⟨i + 1, _, _, _, hs, (N0 : Int), _, _, _, fs, 36, by omega, by go_num, rfl, rfl, rfl, by omega, by omega, hm4, (zu HH).1.za (zu HZ), by omega, by omega, (zu HH).2.1.za (zu HZ), by omega, (zu HH).2.2, zu HZ⟩
           case measure => simp [intOf]; omega
       ·clear HRD;have HNO := zh hform;clear hform
        go_wp2_with fail
        refine (refIsK al nl cl' ls b x false _ hl.mk ⟨hx1, hx2⟩ (by omega) ⟨fun e => by simp at e, fun e => absurd e (zu HNO)⟩).mono ?_;rintro e w5 ⟨rfl, hb1⟩;have HC := zh hb1;clear hb1
        go_wp2_with fail
        refine (spWholeN al nl cl' ls b x _ ((hl.za (zu HC)).mk) ⟨hx1, hx2⟩ (by omega) (zu HNO)).mono ?_;rintro e w6 ⟨rfl, hb1⟩;replace HC := zh (Below.step (zu HC) hb1);clear hb1
        go_wp2_with fail
        refine (spIndexN al nl cl' ls b x _ ((hl.za (zu HC)).mk) ⟨hx1, hx2⟩ (by omega) (zu HNO)).mono ?_;rintro e w7 ⟨rfl, hb1⟩;replace HC := zh (Below.step (zu HC) hb1);clear hb1
        go_wp2_with fail
        refine (rsignK false none 0 0 0 2 0 _ ((fk_zero _ 2).ik (by omega)) rfl).mono ?_;rintro e w8 ⟨rfl, hb1⟩;replace HC := zh (Below.step (zu HC) hb1);clear hb1
        go_wp2_with fail
        refine (spPickNilK al nl cl' ls b x ai mi ci zs _ ((hl.za (zu HC)).mk) (hc.za (zu HC)) ⟨hx1, hx2⟩ (by omega) (by omega) (Or.inr (Or.inl (zu HNO)))).mono ?_;rintro e w9 ⟨rfl, hb1⟩;have HZ := zh (Below.step (zu HCC) (Below.step (zu HC) hb1));clear hb1 hl hc HC HCC;go_wp2;go_roundw
        case rel => exact ⟨i + 1, _, _, _, hs, (N0 : Int), _, _, _, fs, 36, by omega, by go_num, rfl, rfl, rfl, by omega, by omega, hm4, (zu HH).1.za (zu HZ), by omega, by omega, (zu HH).2.1.za (zu HZ), by omega, (zu HH).2.2, zu HZ⟩
        case measure => simp [intOf]; omega
      ·have hi2 : i = 2 := by omega
       subst hi2;replace HB := zh (Below.step (zu HB) (zu HCC));clear hl hc HRD
       go_wp2_with fail
       refine (awake12_any _).mono ?_;rintro e w99 ⟨rfl, hb1⟩;go_wp2;go_ret;exact ⟨rfl, Below.step (zu HB) hb1⟩
  ·have h70' : (70 : Int) < (len2 : Int) := by omega
   clear hl0 r2
   go_wp2_with fail
   refine (awake12_any _).mono ?_;rintro e w99 ⟨rfl, hb1⟩;go_wp2;go_ret;exact ⟨rfl, Below.step (zu HB) hb1⟩
 ·clear hlt hb1 r0
  go_wp2_with fail
  refine (awake12_any _).mono ?_;rintro e w99 ⟨rfl, hb1⟩;go_wp2;go_ret;exact ⟨rfl, Below.step (zu HB) hb1⟩

end Go.Proofs.YtkomdimalgnamaaGreat
