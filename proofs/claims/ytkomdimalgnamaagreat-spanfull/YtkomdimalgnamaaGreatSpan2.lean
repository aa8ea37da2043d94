/-
 What package span's atPivots, Whole and Index tell. (IN PARTS)
-/
import Derived.Test.YtkomdimalgnamaaGreatSpan
import Derived.Test.YtkomdimalgnamaaGreatWTo
import Derived.Test.YtkomdimalgnamaaGreatKFew
import Derived.Test.YtkomdimalgnamaaGreatJE
namespace Go.Proofs.YtkomdimalgnamaaGreat
open Go.RowKit Lb
set_option maxRecDepth 20000

set_option maxRecDepth 40000 in
set_option maxHeartbeats 4000000 in
theorem spAtPivotsK (ao : Option Addr) (n cap : Nat) (hs : List (List Int)) (p : Nat → Nat) (b N : Nat) (w : World) (h : MK w ao n cap hs b) (hf : HForm hs p) (hl : ∀ r ∈ hs, r.length = N) (h1 : 1 ≤ N) (h64 : N ≤ 64) (hb : b ≤ 100) :
  Calls Tryz.prog 57 #[.slice ao n cap] w fun e w' => ∃ b1 a1 l1 c1, e = .returned (.agg #[.bool b1, .slice a1 l1 c1]) ∧ FK w' b1 a1 l1 c1 (prodN n fun i => ent hs i (p i)) (2 + n * b) ∧ Below w.heap.size w w' := by
 have hlen := h.len_eq;have hn64 : n ≤ 64 := by
  rw [← hlen];exact Nat.le_trans (hf.len_le fun r hr => by have := hl r hr; omega) h64
 have HLN := zh hlen;have HF := zh hf;have HN := zh (rows_len hl);clear hf hl hlen;go_enter Tryz.func57, Tryz.ntmps57
 go_wp2_with fail
 obtain ⟨W0, hWe⟩ := newB w;obtain ⟨B0, hb0⟩ := boxes1 w false none 0 0 hWe;rw [← hWe];clear hWe;refine (ofK 1 _ (by omega) (by omega)).mono ?_;rintro e w1 ⟨b1, a1, l1, c1, rfl, hx, hb1⟩;replace B0 := B0.za hb1;have HB := zh (Below.step hb0 hb1);clear hb0 hb1;obtain ⟨W2, hWe⟩ : ∃ W', W' = w1.alloc (.cells #[.bool b1, .slice a1 l1 c1] 44) := ⟨_, rfl⟩;obtain ⟨BX, hb1⟩ := boxes1 w1 b1 a1 l1 c1 hWe;have hs1 := (zu HB).size;have hB0s := B0.lt;replace B0 := B0.za hb1;replace hx := hx.za hb1;replace HB := zh (Below.step (zu HB) hb1);clear hb1
 go_wp2_with fail
 rw [← hWe];clear hWe;obtain ⟨gx, egx⟩ : ∃ gx, gx = w1.heap.size := ⟨_, rfl⟩;rw [← egx] at BX ⊢;have hgx : w.heap.size ≤ gx := by omega
 have hgx0 : w.heap.size ≠ gx := by omega
 clear egx hs1 hB0s;refine (pivotsF ao n cap hs b _ (h.za (zu HB)) (by omega)).mono ?_;rintro e w2 ⟨a14, c14, ps, rfl, hps, hpv, hfr, hb1⟩;have HGT : Hid (∀ g off, a14 = some ⟨g, off, none⟩ → g ≠ gx) := zh fun g off e => by have := hfr g off e; have := BX.lt; omega
 replace B0 := B0.za hb1;replace BX := BX.za hb1;replace hx := hx.za hb1;replace HB := zh (Below.step (zu HB) hb1);have HP := zh hpv;clear hb1 hpv hfr
 go_wp2_with fail
 go_loopw [10] (fun t wr => ∃ (i : Nat) (b1 : Bool) (a1 : Option Addr) (l1 c1 : Nat), i ≤ n ∧ t = .int .i64 (i : Int) ∧ Box wr w.heap.size false none 0 0 ∧ Box wr gx b1 a1 l1 c1 ∧ FK wr b1 a1 l1 c1 (prodN i fun t => ent hs t (p t)) (2 + i * b) ∧ (∀ j, j < n → ∀ g off, a14 = some ⟨g, off, none⟩ → g < wr.heap.size ∧ wr.cell? ⟨g, off + j, none⟩ = some (.int .i64 (ps.getD j 0))) ∧ Below w.heap.size w wr) (fun t _ => n - (intOf t).toNat)
 case atStart => exact ⟨0, _, _, _, _, Nat.zero_le _, rfl, B0, BX, by rw [Nat.zero_mul]; exact hx, fun j hj g off e => by subst e; exact hps.at hj, zu HB⟩
 case round =>
  clear B0 BX hx HB;obtain ⟨i, b1, a1, l1, c1, hi, rfl, B0, BX, hx, hpc, hB⟩ := hrel;have HB := zh hB;have HPC := zh hpc;clear hB hpc;by_cases hlt : i < n
  ·have hib : (i + 1) * b ≤ 64 * 100 := Nat.mul_le_mul (by omega) hb;rw [Nat.add_mul, Nat.one_mul] at hib;have HIB := zh (show 2 + (i + 1) * b = 2 + i * b + b by rw [Nat.add_mul, Nat.one_mul]; omega);obtain ⟨gp, op, rfl⟩ := hps.addr (by omega);obtain ⟨hgp, f1⟩ := zu HPC i hlt gp op rfl;have hir : i < hs.length := by rw [zu HLN]; exact hlt
   have HPI := zh ((zu HF).isPivot hir);have hpz : ps.getD i 0 = (p i : Int) := by
    rcases zu HP i hlt with ⟨_, h0⟩ | ⟨q, e, hq⟩
    ·exact absurd (h0 _) (zu HPI).2
    ·rw [e, isPivot_inj hq (zu HPI)]
   rw [hpz] at f1;clear hpz;obtain ⟨g, off, rfl⟩ := h.addr (by omega);obtain ⟨hg0, a2, l2, c2, hc5, hv5⟩ := RowsOf.at (R := fun w a l c zs => VK w a l c zs b) h hlt;have hl2 : N = l2 := by rw [← hv5.len_eq]; exact (zu HN i hir).symm
   subst hl2;have hpN : p i < N := by
    have := (zu HPI).lt;rw [zu HN i hir] at this;exact this
   obtain ⟨g2, o2, rfl⟩ := hv5.some (by omega);have x2 := ((zu HB).cell (p := ⟨g, off + i, none⟩) hg0).trans hc5;have hg := Nat.lt_of_lt_of_le hg0 (zu HB).size;obtain ⟨b3, a3, l3, c3, E3, y3⟩ := (hv5.za (zu HB)).at hpN;have hi0 : (0 : Int) ≤ (i : Int) := by omega
   have hi1 : (i : Int) < (n : Int) := by omega
   have hp2 : (p i : Int) < (N : Int) := by omega
   have hp0 : (0 : Int) ≤ (p i : Int) := by omega
   clear hc5 hv5
   go_upto_region 5 with fail
   have HW : Below wr.heap.size wr wr.drew := (Below.refl _ _).drew;have HS := zh fun w' (HW : Below wr.heap.size wr w') => con5 (BX.za HW).zb.1 (BX.za HW).zb.2.1 ((HW.cell (p := ⟨g, off + i, none⟩) hg).trans x2) (E3.za HW).zb.1 (E3.za HW).zb.2;refine zst HS HW 9 (by kernel_rfl) fun zH => ?_;refine ztl (i := 0) [8, 9] rfl ?_;simp only [Act.put, aGet, aZero, aSet, aHead, aTail];refine ztl (i := 1) [3, 4, 6, 7, 8, 9] rfl ?_;simp only [Act.put, aAll];refine ztl (i := 2) [3, 4, 6, 7, 8, 9] rfl ?_;simp only [Act.put, aAll];refine ztl (i := 3) [4, 6, 7, 8, 9] rfl ?_;simp only [Act.put, aAll];refine ztl (i := 4) [6, 7, 8, 9] rfl ?_;simp only [Act.put, aAll];refine ztl (i := 5) [6, 7, 8, 9] rfl ?_;simp only [Act.put, aAll];refine ztl (i := 6) [7, 8, 9] rfl ?_;simp only [Act.put, aAll];refine ztl (i := 7) [8, 9] rfl ?_;simp only [Act.put, aAll];refine tin (i := 8) rfl fun K hK => ?_;go_simp;refine (mulK b1 a1 l1 c1 (prodN i fun t => ent hs t (p t)) (2 + i * b) b3 a3 l3 c3 (ent hs i (p i)) b _ ((hx.za HW).ik (by omega)) (y3.za HW)).mono ?_;rintro e w9 ⟨b7, a7, l7, c7, rfl, h7, hb9⟩;replace HW := Below.step HW hb9;clear hb9;refine hK.out _ _ ?_ (fun zH => ?_)
   ·exact zu HS _ HW
   clear hK K
   try simp only [Act.put, aAll]
   obtain ⟨q1, q2, q3, q4⟩ := (BX.za HW).zb;have hsx := (BX.za HW).lt;refine tout (i := 9) rfl fun K hK => ?_;go_simp;refine hK.out _ _ ?_;clear hK K
   try simp only [Act.put, aAll]
   refine till_done (by kernel_rfl) ?_ _;have hnl := (BX.za HW).noLimb;have hgrw := grown_set2 w9 gx 0 1 (.bool b7) (.slice a7 l7 c7);have HPC2 : Hid (∀ j, j < n → ∀ g off, some (⟨gp, op, none⟩ : Addr) = some ⟨g, off, none⟩ → g < (put w9 gx b7 a7 l7 c7).heap.size ∧ (put w9 gx b7 a7 l7 c7).cell? ⟨g, off + j, none⟩ = some (.int .i64 (ps.getD j 0))) := zh fun j hj g' off' e => by
    obtain ⟨k1, k2⟩ := zu HPC j hj g' off' e;have k3 := zu HGT g' off' e;exact ⟨by rw [put_size]; exact Nat.lt_of_lt_of_le k1 HW.size, by
     unfold put;rw [World.cell?_of_block (a := ⟨g', off' + j, none⟩) (hgrw.block g' (Nat.lt_of_lt_of_le k1 HW.size) (fun e => k3 (Option.some.inj e)))];exact (HW.cell (p := ⟨g', off' + j, none⟩) k1).trans k2⟩
   have B02 : Box (put w9 gx b7 a7 l7 c7) w.heap.size false none 0 0 := (B0.za HW).other (g' := gx) hgx0 b7 a7 l7 c7;have BX2 : Box (put w9 gx b7 a7 l7 c7) gx b7 a7 l7 c7 := (BX.za HW).put b7 a7 l7 c7;have hx2 : FK (put w9 gx b7 a7 l7 c7) b7 a7 l7 c7 (prodN (i + 1) fun t => ent hs t (p t)) (2 + (i + 1) * b) := by rw [zu HIB]; exact h7.put hnl _ _ _ _
   have HB2 := zh (show Below w.heap.size w (put w9 gx b7 a7 l7 c7) from below_put (Below.step (zu HB) HW) hgx _ _ _ _);clear zH hnl hgrw h7 hx BX B0 E3 y3 x2 HPC HB q1 q2 q3 q4 HW hsx;have e9 : (w9.setCell ⟨gx, 0, none⟩ (.bool b7)).setCell ⟨gx, 1, none⟩ (.slice a7 l7 c7) = put w9 gx b7 a7 l7 c7 := rfl;rw [e9];obtain ⟨W8, hW8⟩ : ∃ W8, W8 = put w9 gx b7 a7 l7 c7 := ⟨_, rfl⟩;rw [← hW8] at HPC2 B02 BX2 hx2 HB2 ⊢;clear hW8 e9;go_wp2;go_roundw
   case rel => exact ⟨i + 1, _, _, _, _, by omega, by go_num, B02, BX2, hx2, zu HPC2, zu HB2⟩
   case measure => simp [intOf]; omega
  ·have hin : i = n := by omega
   subst hin;have hi1 : ¬ (i : Int) < (i : Int) := by omega
   obtain ⟨f1, f2, _, _⟩ := BX.zb;have hsx := BX.lt;obtain ⟨q1, q2, q3, q4⟩ := B0.zb;have hsz := B0.lt;clear HPC;go_wp2;refine bodyPost_ret (v := .agg #[.bool b1, .slice a1 l1 c1]) (by simp [results, Tryz.results57, go_sem, *]) rfl ?_;have hz := hx.put B0.noLimb b1 a1 l1 c1;have hz2 := below_put (zu HB) (Nat.le_refl _) b1 a1 l1 c1;cases b1 with
   | false => exact Or.inl ⟨_, _, _, rfl, hz, hz2⟩
   | true => exact Or.inr ⟨_, _, _, rfl, hz, hz2⟩
theorem mk_none {w : World} {ao : Option Addr} {cap b c : Nat} (h : MK w ao 0 cap [] b) : MK w ao 0 cap [] c := ⟨h.len_eq, h.cap_le, h.cap_max, h.nil_cap, fun hp => absurd hp (by omega)⟩
theorem unit_ent13 (N i j : Nat) : (ent (unitL N) i j).natAbs < Bp 13 := by
 have h1 : 4 < Bp 1 := by unfold Bp; decide
 have h2 : Bp 1 ≤ Bp 13 := Bp_le (by omega);by_cases hi : i < N
 ·rw [ent_unit hi]
  split <;> simp <;> omega
 ·rw [ent_out (by rw [unitL_len]; omega)]; simp; omega
theorem kernelTame (ao : Option Addr) (n cap : Nat) (hs : List (List Int)) (p : Nat → Nat) (b N : Nat) (w : World) (h : MK w ao n cap hs b) (hf : HForm hs p) (hl : ∀ r ∈ hs, r.length = N) (h1 : 1 ≤ N) (h64 : N ≤ 64) (hb2 : 2 ≤ b) (hb : b ≤ 40) (hr : (N ≤ 9 ∧ Tame hs N) ∨ n = 0) :
  Calls Tryz.prog 82 #[.slice ao n cap, .int .i64 (N : Int)] w fun e w' => KerTo hs N 13 w e w' := by
 have hlen := h.len_eq;rcases hr with ⟨h9, ht⟩ | hn0
 ·have hn9 : n ≤ 9 := by
   rw [← hlen];exact Nat.le_trans (hf.len_le fun r hr => by have := hl r hr; omega) h9
  refine (kernelOfK ao n cap hs b b 8 (2 * ((b + 1) * 9) + b + 1) 8 N w h hl h1 h64 (bounded_form hf (mk_ent h)) (by omega) (by omega) (by omega) (by omega) hb2 (fun hs' p' _ _ _ he _ M W hw => (wide_bounded hw (ent_turn_small he N) (by omega) (by omega)).up (by have := Nat.mul_le_mul_left (b + 1) h9; omega)) (by omega) (by omega) (by omega) (by omega)).mono ?_;rintro e w' ⟨a1, m, c1, q, K, rfl, k1, k2, k3, k4, k5, k6⟩;exact ⟨a1, m, c1, q, K, rfl, mf_low k1 (ht.1 K q k2 k3 k4), k2, k3, k4, k5, k6⟩
 ·obtain rfl : hs = [] := List.eq_nil_of_length_eq_zero (hlen.trans hn0);subst hn0;refine (kernelAny ao 0 cap [] N w (mk_none h) hl h1 h64 (by omega) (Or.inr rfl)).mono ?_;rintro e w' ⟨a1, m, c1, q, K, rfl, k1, k2, k3, k4, k5, k6⟩;have eK : K = unitL N := hnf_one k2 (unit_form N) (k3.same (ker_unit N)) k4 (unit_lens2 N);exact ⟨a1, m, c1, q, K, rfl, mf_low k1 (fun i j => by rw [eK]; exact unit_ent13 N i j), k2, k3, k4, k5, k6⟩
theorem kernelTame2 (a1 : Option Addr) (m c1 : Nat) (hs K : List (List Int)) (q : Nat → Nat) (n N : Nat) (w : World) (h : MF w a1 m c1 K 13) (hf : HForm K q) (hk : Ker K hs N) (hl : ∀ r ∈ K, r.length = N) (h1 : 1 ≤ N) (h64 : N ≤ 64) (hlen : hs.length = n) (hr : (N ≤ 9 ∧ Tame hs N) ∨ n = 0) :
  Calls Tryz.prog 82 #[.slice a1 m c1, .int .i64 (N : Int)] w fun e w' => KerTo K N 36 w e w' := by
 have hKl := h.len_eq;rcases hr with ⟨h9, ht⟩ | hn0
 ·have hm9 : m ≤ 9 := by
   rw [← hKl];exact Nat.le_trans (hf.len_le fun r hr => by have := hl r hr; omega) h9
  refine (kernelOfK a1 m c1 K 13 13 8 266 8 N w (h.mk (by omega)) hl h1 h64 (bounded_form hf (mf_ent h)) (by omega) (by omega) (by omega) (by omega) (by omega) (fun hs' p' _ _ _ he _ M W hw => (wide_bounded hw (ent_turn_small he N) (by omega) (by omega)).up (by omega)) (by omega) (by omega) (by omega) (by omega)).mono ?_;rintro e w' ⟨a2, m2, c2, q2, V, rfl, k1, k2, k3, k4, k5, k6⟩;exact ⟨a2, m2, c2, q2, V, rfl, mf_low k1 (ht.2 V q2 k2 ⟨K, hk, k3⟩), k2, k3, k4, k5, k6⟩
 ·obtain rfl : hs = [] := List.eq_nil_of_length_eq_zero (hlen.trans hn0);have eK : K = unitL N := hnf_one hf (unit_form N) (hk.same (ker_unit N)) hl (unit_lens2 N);have hmN : m = N := by rw [← hKl, eK, unitL_len]
  subst eK;refine (kernelOfK a1 m c1 (unitL N) 13 2 63 1 63 N w (h.mk (by omega)) hl h1 h64 ((bounded_unit N).up (by omega)) (by omega) (by omega) (by omega) (by omega) (by omega) (fun hs' p' hf' hs1 hl' _ _ M W hw => ?_) (by omega) (by omega) (by omega) (by omega)).mono ?_
  ·have e1 : hs' = unitL N := hnf_one hf' (unit_form N) hs1.symm hl' (unit_lens2 N);subst e1;exact wide_unit hw (by rw [← hw.lens 0 (by omega), turn_lens _ _ 0 (by omega), unitL_len])
  ·rintro e w' ⟨a2, m2, c2, q2, V, rfl, k1, k2, k3, k4, k5, k6⟩;exact ⟨a2, m2, c2, q2, V, rfl, mf_up k1 (by omega), k2, k3, k4, k5, k6⟩
set_option maxHeartbeats 1000000 in
theorem spWholeK (ao : Option Addr) (n cap : Nat) (hs : List (List Int)) (p : Nat → Nat) (b N : Nat) (w : World) (h : MK w ao n cap hs b) (hf : HForm hs p) (hl : ∀ r ∈ hs, r.length = N) (h1 : 1 ≤ N) (h64 : N ≤ 64) (hb2 : 2 ≤ b) (hb : b ≤ 40) (hr : (N ≤ 9 ∧ Tame hs N) ∨ n = 0) :
  Calls Tryz.prog 20 #[.slice ao n cap, .int .i64 (N : Int)] w fun e w' => ∃ a1 c1 q W, e = .returned (.slice a1 n c1) ∧ MF w' a1 n c1 W 36 ∧ HForm W q ∧ IsWhole W hs N ∧ (∀ r ∈ W, r.length = N) ∧ Below w.heap.size w w' := by
 have HIS : Hid (rform hs (N : Int) = true ∧ ∃ p, HForm hs p) := zh ⟨rform_yes (by omega) fun i hi => by rw [rows_len hl i hi], p, hf⟩;have HLEN := zh h.len_eq;have HF := zh hf;have HLS := zh hl;have HR := zh hr;have hn64 : n ≤ 64 := by
  rw [← h.len_eq];exact Nat.le_trans (hf.len_le fun r hr => by have := hl r hr; omega) h64
 clear hf hl hr;go_enter Tryz.func20, Tryz.ntmps20
 go_wp2_with fail
 refine (isK ao n cap hs b (N : Int) true _ h (by omega) (by omega) ⟨fun _ => zu HIS, fun _ => rfl⟩).mono ?_;rintro e w1 ⟨rfl, hb1⟩;have HB := zh hb1;replace h := h.za hb1;clear hb1
 go_wp2_with fail
 refine (acrossK (kernelTame ao n cap hs p b N _ h (zu HF) (zu HLS) h1 h64 hb2 hb (zu HR))).mono ?_;rintro e w2 ⟨a1, m, c1, q, K, rfl, k1, k2, k3, k4, -, hb1⟩;have HX := zh (And.intro k2 (And.intro k3 k4));replace HB := zh (Below.step (zu HB) hb1);clear hb1 k2 k3 k4 h
 go_wp2_with fail
 refine (acrossK (kernelTame2 a1 m c1 hs K q n N _ k1 (zu HX).1 (zu HX).2.1 (zu HX).2.2 h1 h64 (zu HLEN) (zu HR))).mono ?_;rintro e w3 ⟨a2, m2, c2, q2, V, rfl, j1, j2, j3, j4, -, hb1⟩;have his : IsWhole V hs N := ⟨K, (zu HX).2.1, j3⟩;have hm2 : m2 = n := by rw [← j1.len_eq, his.len (zu HF) (zu HLS) j2, zu HLEN]
 subst hm2;have HY := zh (And.intro j2 (And.intro his j4));replace HB := zh (Below.step (zu HB) hb1);clear hb1 j2 j3 j4 his k1 HX HIS;go_wp2;go_ret;exact ⟨_, _, q2, V, rfl, j1, (zu HY).1, (zu HY).2.1, (zu HY).2.2, zu HB⟩
set_option maxHeartbeats 2000000 in
theorem spIndexK (ao : Option Addr) (n cap : Nat) (hs : List (List Int)) (p : Nat → Nat) (b N : Nat) (w : World) (h : MK w ao n cap hs b) (hf : HForm hs p) (hl : ∀ r ∈ hs, r.length = N) (h1 : 1 ≤ N) (h64 : N ≤ 64) (hb2 : 2 ≤ b) (hb : b ≤ 40) (hr : (N ≤ 9 ∧ Tame hs N) ∨ n = 0) :
  Calls Tryz.prog 22 #[.slice ao n cap, .int .i64 (N : Int)] w fun e w' => ∃ b1 a1 l1 c1 q W, e = .returned (.agg #[.bool b1, .slice a1 l1 c1]) ∧ FK w' b1 a1 l1 c1 ((prodN n fun i => ent hs i (p i)).tdiv (prodN n fun i => ent W i (q i))) (2 + n * b) ∧ HForm W q ∧ IsWhole W hs N ∧ (∀ r ∈ W, r.length = N) ∧ Below w.heap.size w w' := by
 have HIS : Hid (rform hs (N : Int) = true ∧ ∃ p, HForm hs p) := zh ⟨rform_yes (by omega) fun i hi => by rw [rows_len hl i hi], p, hf⟩;have HF := zh hf;have HLS := zh hl;have HR := zh hr;have hn64 : n ≤ 64 := by
  rw [← h.len_eq];exact Nat.le_trans (hf.len_le fun r hr => by have := hl r hr; omega) h64
 have hnb : n * b ≤ 64 * 40 := Nat.mul_le_mul hn64 hb;clear hf hl hr;go_enter Tryz.func22, Tryz.ntmps22
 go_wp2_with fail
 obtain ⟨W0, hWe⟩ := newB w;obtain ⟨B0, hb0⟩ := boxes1 w false none 0 0 hWe;rw [← hWe];clear hWe;refine (isK ao n cap hs b (N : Int) true _ (h.za hb0) (by omega) (by omega) ⟨fun _ => zu HIS, fun _ => rfl⟩).mono ?_;rintro e w1 ⟨rfl, hb1⟩;replace B0 := B0.za hb1;have HB := zh (Below.step hb0 hb1);clear hb0 hb1
 go_wp2_with fail
 refine (spAtPivotsK ao n cap hs p b N _ (h.za (zu HB)) (zu HF) (zu HLS) h1 h64 (by omega)).mono ?_;rintro e w2 ⟨b1, a1, l1, c1, rfl, hx, hb1⟩;replace B0 := B0.za hb1;replace HB := zh (Below.step (zu HB) hb1);clear hb1
 go_wp2_with fail
 refine (spWholeK ao n cap hs p b N _ (h.za (zu HB)) (zu HF) (zu HLS) h1 h64 hb2 hb (zu HR)).mono ?_;rintro e w3 ⟨a2, c2, q, V, rfl, j1, j2, j3, j4, hb1⟩;have HY := zh (And.intro j2 (And.intro j3 j4));have HNV := zh j1.len_eq;replace B0 := B0.za hb1;replace hx := hx.za hb1;replace HB := zh (Below.step (zu HB) hb1);clear hb1 j2 j3 j4
 go_wp2_with fail
 refine (spAtPivotsK a2 n c2 V q 36 N _ (j1.mk (by omega)) (zu HY).1 (zu HY).2.2 h1 h64 (by omega)).mono ?_;rintro e w4 ⟨b2, a3, l3, c3, rfl, hy, hb1⟩;have hne := prodN_pos (n := n) (f := fun i => ent V i (q i)) fun t ht => (zu HY).1.pos t (by rw [zu HNV]; exact ht);have HNE := zh (show (prodN n fun i => ent V i (q i)) ≠ 0 by omega);replace B0 := B0.za hb1;replace hx := hx.za hb1;replace HB := zh (Below.step (zu HB) hb1);clear hb1 j1 hne
 go_wp2_with fail
 refine (quoK b1 a1 l1 c1 _ (2 + n * b) b2 a3 l3 c3 _ (2 + n * 36) _ (hx.ik (by omega)) (hy.ik (by omega)) (zu HNE)).mono ?_;rintro e w9 ⟨b5, a5, l5, c5, b6, a6, l6, c6, rfl, h5, -, hb1⟩;replace B0 := B0.za hb1;replace HB := zh (Below.step (zu HB) hb1);clear hb1 hx hy;obtain ⟨W10, hW10⟩ : ∃ W', W' = (w9.alloc (.cells #[.bool b5, .slice a5 l5 c5] 44)).alloc (.cells #[.bool b6, .slice a6 l6 c6] 44) := ⟨_, rfl⟩;obtain ⟨BQ, BR, hb1⟩ := boxes2 w9 b5 a5 l5 c5 b6 a6 l6 c6 hW10;replace B0 := B0.za hb1;replace h5 := h5.za hb1;replace HB := zh (Below.step (zu HB) hb1);obtain ⟨f1, f2, _, _⟩ := BQ.zb;obtain ⟨q1, q2, q3, q4⟩ := B0.zb;have hsz := B0.lt;have hsq := BQ.lt;rw [hW10] at f1 f2 q1 q2 q3 q4 hsz hsq;clear hb1;go_wp2;rw [← hW10];refine bodyPost_ret (v := .agg #[.bool b5, .slice a5 l5 c5]) (by simp [results, Tryz.results22, go_sem, *]) rfl ?_;exact ⟨_, _, _, _, q, V, rfl, h5.put B0.noLimb _ _ _ _, (zu HY).1, (zu HY).2.1, (zu HY).2.2, below_put (zu HB) (Nat.le_refl _) _ _ _ _⟩
end Go.Proofs.YtkomdimalgnamaaGreat
