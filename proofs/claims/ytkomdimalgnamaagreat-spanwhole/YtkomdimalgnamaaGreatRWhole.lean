/-
 What Whole and Index of the reference tell. (IN PARTS)
-/
import Derived.Test.YtkomdimalgnamaaGreatWTo
import Derived.Test.YtkomdimalgnamaaGreatRKer
import Derived.Test.YtkomdimalgnamaaGreatJE
namespace Go.Proofs.YtkomdimalgnamaaGreat
open Go.RowKit Lb
set_option maxRecDepth 20000

theorem aS_3 {n : Nat} (hn : n ≤ 9) : ∀ d, d ≤ n → aS 3 n d ≤ 222000 := by
 have h : ∀ n, n < 10 → ∀ d, d < n + 1 → aS 3 n d ≤ 222000 := by decide
 exact fun d hd => h n (by omega) d (by omega)
theorem bS_3 {n : Nat} (hn : n ≤ 9) : ∀ d, d ≤ n → bS 3 n d ≤ 222000 := by
 have h : ∀ n, n < 10 → ∀ d, d < n + 1 → bS 3 n d ≤ 222000 := by decide
 exact fun d hd => h n (by omega) d (by omega)
theorem aS_13 {n : Nat} (hn : n ≤ 9) : ∀ d, d ≤ n → aS 13 n d ≤ 222000 := by
 have h : ∀ n, n < 10 → ∀ d, d < n + 1 → aS 13 n d ≤ 222000 := by decide
 exact fun d hd => h n (by omega) d (by omega)
theorem bS_13 {n : Nat} (hn : n ≤ 9) : ∀ d, d ≤ n → bS 13 n d ≤ 222000 := by
 have h : ∀ n, n < 10 → ∀ d, d < n + 1 → bS 13 n d ≤ 222000 := by decide
 exact fun d hd => h n (by omega) d (by omega)
theorem aS_36 {n : Nat} (hn : n ≤ 7) : ∀ d, d ≤ n → aS 36 n d ≤ 222000 := by
 have h : ∀ n, n < 8 → ∀ d, d < n + 1 → aS 36 n d ≤ 222000 := by decide
 exact fun d hd => h n (by omega) d (by omega)
theorem bS_36 {n : Nat} (hn : n ≤ 7) : ∀ d, d ≤ n → bS 36 n d ≤ 222000 := by
 have h : ∀ n, n < 8 → ∀ d, d < n + 1 → bS 36 n d ≤ 222000 := by decide
 exact fun d hd => h n (by omega) d (by omega)
theorem wide_nil2 (N : Nat) : wideOf (vturn [] N) N = unitL N :=
 (rows_of (f := fun j => (unitL N).getD j []) (by simp [wideOf]) fun j hj => by rw [wideOf_at hj, vturn_at _ hj]; rfl).trans (rows_of (unitL_len N) fun _ _ => rfl).symm
theorem headed_unit {N : Nat} : Headed (wideOf (vturn (unitL N) N) N) N (N + N) := by
 have hw := wideL_turn (unitL N) N;rw [unitL_len] at hw;have he : ∀ i j, i < N → ent (wideOf (vturn (unitL N) N) N) i j = if j = i then 1 else if j = i + N then 1 else 0 := fun i j hi => by
  by_cases c : j < N
  ·rw [hw.left i j hi c, ent_turn_unit hi, if_neg (show ¬ j = i + N by omega)]
  ·rw [show j = (j - N) + N by omega, hw.right i (j - N) hi];by_cases d : j - N = i
   ·rw [if_pos d, if_neg (show ¬ j - N + N = i by omega), if_pos (by omega)]
   ·rw [if_neg d, if_neg (show ¬ j - N + N = i by omega), if_neg (by omega)]
 refine ⟨by omega, fun i hi j hj => ?_, fun i j => ?_⟩
 ·rw [he i j hi, if_neg (show ¬ j = i + N by omega)]
 ·by_cases hi : i < N
  ·rw [he i j hi]
   split
   ·simp
   ·split <;> simp
  ·rw [ent_out (by rw [hw.len]; omega)]; simp
theorem unit_ent3 (N i j : Nat) : (ent (unitL N) i j).natAbs < Bp 3 := by
 have h1 : 4 < Bp 1 := by unfold Bp; decide
 have h2 : Bp 1 ≤ Bp 3 := Bp_le (by omega);by_cases hi : i < N
 ·rw [ent_unit hi]
  split <;> simp <;> omega
 ·rw [ent_out (by rw [unitL_len]; omega)]; simp; omega
def WReady (hs : List (List Int)) (n b N : Nat) : Prop := (N ≤ 9 ∧ Tame hs N ∧ (∀ d, d ≤ N → aS b N d ≤ 222000) ∧ ∀ d, d ≤ N → bS b N d ≤ 222000) ∨ n = 0
theorem rwholeK (ao : Option Addr) (n cap : Nat) (hs : List (List Int)) (p : Nat → Nat) (b N : Nat) (w : World) (h : MK w ao n cap hs b) (hf : HForm hs p) (hl : ∀ r ∈ hs, r.length = N) (h1 : 1 ≤ N) (h64 : N ≤ 64) (hb3 : 3 ≤ b) (hb : b ≤ 100) (hr : WReady hs n b N) :
  Calls Tryz.prog 27 #[.slice ao n cap, .int .i64 (N : Int)] w fun e w' => ∃ a1 c1 q W, e = .returned (.slice a1 n c1) ∧ MF w' a1 n c1 W 36 ∧ HForm W q ∧ IsWhole W hs N ∧ (∀ r ∈ W, r.length = N) ∧ Below w.heap.size w w' := by
 have hlen := h.len_eq;have HF := zh hf;have HLS := zh hl;have HR := zh hr;have hn9 : n ≤ 64 := by
  rw [← hlen];exact Nat.le_trans (hf.len_le fun r hr => by have := hl r hr; omega) h64
 have hk : Calls Tryz.prog 63 #[.slice ao n cap, .int .i64 (N : Int)] w fun e w' => ∃ a1 m c1 q K, e = .returned (.slice a1 m c1) ∧ MF w' a1 m c1 K 222000 ∧ HForm K q ∧ Ker K hs N ∧ (∀ r ∈ K, r.length = N) ∧ Below w.heap.size w w' := by
  rcases zu HR with ⟨h9, _, hA, hB⟩ | hn0
  ·exact refKernelK ao n cap hs N (aS b N) (bS b N) b hb3 (by omega) w h hl h1 h64 (by omega) rfl (grows_of _ b N (n + N)) hA hB
  ·obtain rfl : hs = [] := List.eq_nil_of_length_eq_zero (hlen.trans hn0);subst hn0;refine refKernelK ao 0 cap [] N (fun _ => b) (fun _ => b) b hb3 (by omega) w h hl h1 h64 (by omega) rfl ?_ (fun _ _ => by omega) (fun _ _ => by omega);rw [wide_nil2, Nat.zero_add];exact grows_unit (by omega)
 clear hf hl hr h;have HK := zh hk;clear hk;go_enter Tryz.func27, Tryz.ntmps27
 go_wp2_with fail
 refine (zu HK).mono ?_;rintro e w1 ⟨a1, m, c1, q1, K, rfl, h2, hf2, hk2, hl2, hb1⟩;have hm64 : m ≤ 64 := by
  rw [← h2.len_eq];exact Nat.le_trans (hf2.len_le fun r hr => by have := hl2 r hr; omega) h64
 have hw : Calls Tryz.prog 63 #[.slice a1 m c1, .int .i64 (N : Int)] w1 fun e w' => ∃ a1 m c1 q W, e = .returned (.slice a1 m c1) ∧ MF w' a1 m c1 W 222000 ∧ HForm W q ∧ Ker W K N ∧ (∀ r ∈ W, r.length = N) ∧ Below w1.heap.size w1 w' := by
  rcases zu HR with ⟨h9, ht, _, _⟩ | hn0
  ·exact refKernelK a1 m c1 K N (aS 13 N) (bS 13 N) 13 (by omega) (by omega) _ ((mf_low h2 fun i j => ht.1 K q1 hf2 hk2 hl2 i j).mk (by omega)) hl2 h1 h64 (by omega) rfl (grows_of _ 13 N (m + N)) (aS_13 h9) (bS_13 h9)
  ·obtain rfl : hs = [] := List.eq_nil_of_length_eq_zero (hlen.trans hn0);have eK : K = unitL N := hnf_one hf2 (unit_form N) (hk2.same (ker_unit N)) hl2 (unit_lens2 N);have hmN : m = N := by rw [← h2.len_eq, eK, unitL_len]
   subst eK;have h3 := mf_low h2 (l := 3) fun i j => unit_ent3 N i j;rw [hmN] at h3 ⊢;exact refKernelK a1 N c1 (unitL N) N (fun _ => 3) (fun _ => 3) 3 (by omega) (by omega) _ (h3.mk (by omega)) hl2 h1 h64 (by omega) rfl (grows_headed headed_unit (by omega)) (fun _ _ => by omega) (fun _ _ => by omega)
 have HK2 := zh hk2;have HW := zh hw;have HB := zh hb1;clear hw hb1 hk2 hf2 hl2 h2
 go_wp2_with fail
 refine (zu HW).mono ?_;rintro e w2 ⟨a2, m2, c2, q2, W, rfl, h3, hf3, hk3, hl3, hb1⟩;have his : IsWhole W hs N := ⟨K, zu HK2, hk3⟩;have hm2 : m2 = n := by rw [← h3.len_eq, his.len (zu HF) (zu HLS) hf3, hlen]
 subst hm2;have h36 := mf_low h3 (l := 36) fun i j => by
  rcases zu HR with ⟨_, ht, _⟩ | hn0
  ·exact ht.2 W q2 hf3 his i j
  ·have := Bp_pos 36;rw [ent_out (by rw [h3.len_eq]; omega)]; simpa using this
 have HX := zh (And.intro hf3 (And.intro his hl3));clear hf3 hk3 hl3 his h3;go_wp2;go_ret;exact ⟨_, _, q2, W, rfl, h36, (zu HX).1, (zu HX).2.1, (zu HX).2.2, Below.step (zu HB) hb1⟩
set_option maxRecDepth 40000 in
set_option maxHeartbeats 4000000 in
theorem rindexK (ao : Option Addr) (n cap : Nat) (hs : List (List Int)) (p : Nat → Nat) (b N : Nat) (w : World) (h : MS w ao n cap hs b) (hf : HForm hs p) (hl : ∀ r ∈ hs, r.length = N) (h1 : 1 ≤ N) (h64 : N ≤ 64) (hb3 : 3 ≤ b) (hb : b ≤ 100) (hr : WReady hs n b N) :
  Calls Tryz.prog 29 #[.slice ao n cap, .int .i64 (N : Int)] w fun e w' => ∃ b1 a1 l1 c1 q W, e = .returned (.agg #[.bool b1, .slice a1 l1 c1]) ∧ FK w' b1 a1 l1 c1 ((prodN n fun i => ent hs i (p i)).tdiv (prodN n fun i => ent W i (q i))) (2 + n * b) ∧ HForm W q ∧ IsWhole W hs N ∧ (∀ r ∈ W, r.length = N) ∧ Below w.heap.size w w' := by
 have hlen := h.len_eq;have hn64 : n ≤ 64 := by
  rw [← hlen];exact Nat.le_trans (hf.len_le fun r hr => by have := hl r hr; omega) h64
 have HLN := zh hlen;have HF := zh hf;have HN := zh (rows_len hl);have HLS := zh hl;have HR := zh hr;clear hf hl hr hlen;go_enter Tryz.func29, Tryz.ntmps29
 go_wp2_with fail
 obtain ⟨W0, hWe⟩ := newB w;obtain ⟨B0, hb0⟩ := boxes1 w false none 0 0 hWe;rw [← hWe];clear hWe;refine (rwholeK ao n cap hs p b N _ (h.mk.za hb0) (zu HF) (zu HLS) h1 h64 hb3 hb (zu HR)).mono ?_;rintro e w1 ⟨aw, cw, q, V, rfl, hv, hfv, hiv, hlv, hb1⟩;have HFV := zh hfv;have HIV := zh hiv;have HLV := zh hlv;have HNV := zh (rows_len hlv);have HLN2 := zh hv.len_eq;replace B0 := B0.za hb1;have HB := zh (Below.step hb0 hb1);clear hb0 hb1 hfv hiv hlv
 go_wp2_with fail
 refine (rofK 1 _ (by omega) (by omega)).mono ?_;rintro e w2 ⟨b1, a1, l1, c1, rfl, hx, hb1⟩;replace B0 := B0.za hb1;replace hv := hv.za hb1;replace HB := zh (Below.step (zu HB) hb1);clear hb1
 go_wp2_with fail
 refine (rofK 1 _ (by omega) (by omega)).mono ?_;rintro e w3 ⟨b2, a2, l2, c2, rfl, hy, hb1⟩;replace B0 := B0.za hb1;replace hv := hv.za hb1;replace hx := hx.za hb1;replace HB := zh (Below.step (zu HB) hb1);clear hb1;obtain ⟨W4, hWe⟩ : ∃ W', W' = (w3.alloc (.cells #[.bool b1, .slice a1 l1 c1] 44)).alloc (.cells #[.bool b2, .slice a2 l2 c2] 44) := ⟨_, rfl⟩;obtain ⟨BX, BY, hb1⟩ := boxes2 w3 b1 a1 l1 c1 b2 a2 l2 c2 hWe;have hs3 := (zu HB).size;replace hx := hx.za hb1;replace hy := hy.za hb1;have HC := zh hb1
 go_wp2_with fail
 rw [← hWe];clear hWe hb1;obtain ⟨gx, egx⟩ : ∃ gx, gx = w3.heap.size := ⟨_, rfl⟩;rw [← egx] at BX BY ⊢;obtain ⟨gy, egy⟩ : ∃ gy, gy = gx + 1 := ⟨_, rfl⟩;rw [← egy] at BY ⊢;have hgy : gx < gy := by omega
 have hgx3 : w3.heap.size ≤ gx := by omega
 clear egx egy hs3;go_loopw [8] (fun t wr => ∃ (i : Nat) (b1 : Bool) (a1 : Option Addr) (l1 c1 : Nat) (b2 : Bool) (a2 : Option Addr) (l2 c2 : Nat), i ≤ n ∧ t = .int .i64 (i : Int) ∧ Box wr gx b1 a1 l1 c1 ∧ Box wr gy b2 a2 l2 c2 ∧ FK wr b1 a1 l1 c1 (prodN i fun t => ent hs t (p t)) (2 + i * b) ∧ FK wr b2 a2 l2 c2 (prodN i fun t => ent V t (q t)) (2 + i * 36) ∧ Below w3.heap.size w3 wr) (fun t _ => n - (intOf t).toNat)
 case atStart => exact ⟨0, _, _, _, _, _, _, _, _, Nat.zero_le _, rfl, BX, BY, by rw [Nat.zero_mul]; exact hx, by rw [Nat.zero_mul]; exact hy, zu HC⟩
 case round =>
  clear BX BY hx hy HC;obtain ⟨i, b1, a1, l1, c1, b2, a2, l2, c2, hi, rfl, BX, BY, hx, hy, hC⟩ := hrel;have HC := zh hC;clear hC;by_cases hlt : i < n
  ·have hib : (i + 1) * b ≤ 64 * 100 := Nat.mul_le_mul (by omega) hb;rw [Nat.add_mul, Nat.one_mul] at hib;have HIB := zh (show 2 + (i + 1) * b = 2 + i * b + b by rw [Nat.add_mul, Nat.one_mul]; omega);obtain ⟨ib, eib⟩ : ∃ ib, ib = i * b := ⟨_, rfl⟩;have hir : i < hs.length := by rw [zu HLN]; exact hlt
   have hiv : i < V.length := by rw [zu HLN2]; exact hlt
   obtain ⟨g, off, rfl⟩ := h.mk.addr (by omega);obtain ⟨hg0, a5, l5, c5, hc5, hv5⟩ := RowsOf.at (R := fun w a l c zs => VS w a l c zs b) h hlt;have hl5 : N = l5 := by rw [← hv5.len_eq]; exact (zu HN i hir).symm
   subst hl5;have HPp := zh ((zu HF).isPivot hir);have hpN : p i < N := by
    have := (zu HPp).lt;rw [zu HN i hir] at this;exact this
   obtain ⟨g5, o5, rfl⟩ := hv5.vk.some (by omega);have hBC := Below.step (zu HB) (zu HC);have x5 := (hBC.cell (p := ⟨g, off + i, none⟩) hg0).trans hc5;have hg := Nat.lt_of_lt_of_le hg0 hBC.size;have hr5 := hv5.za hBC;obtain ⟨b3, a3, l3, c3, E3, y3⟩ := hr5.at hpN;have hvC := hv.za (zu HC);obtain ⟨gw, ow, rfl⟩ := hvC.addr (by omega);obtain ⟨hgw, a6, l6, c6, x6, hv6⟩ := RowsOf.at (R := fun w a l c zs => VF w a l c zs 36) hvC hlt;have hl6 : N = l6 := by rw [← hv6.len_eq]; exact (zu HNV i hiv).symm
   subst hl6;have HPq := zh ((zu HFV).isPivot hiv);have hqN : q i < N := by
    have := (zu HPq).lt;rw [zu HNV i hiv] at this;exact this
   obtain ⟨g6, o6, rfl⟩ := hv6.some (by omega);have hr6 := hv6.vs (by omega);obtain ⟨b4, a4, l4, c4, E4, y4⟩ := hr6.at hqN;have hi0 : (0 : Int) ≤ (i : Int) := by omega
   have hi1 : (i : Int) < (n : Int) := by omega
   have hp2 : (p i : Int) < (N : Int) := by omega
   have hp0 : (0 : Int) ≤ (p i : Int) := by omega
   have hq2 : (q i : Int) < (N : Int) := by omega
   have hq0 : (0 : Int) ≤ (q i : Int) := by omega
   clear hc5 hv5 hg0 hv6 eib hBC hvC;have HW : Below wr.heap.size wr wr.drew := (Below.refl _ _).drew
   go_upto_region 6 with fail
   have HS := zh fun w' (HW : Below wr.heap.size wr w') => con10 (BX.za HW).zb.1 (BX.za HW).zb.2.1 (BY.za HW).zb.1 (BY.za HW).zb.2.1 ((HW.cell (p := ⟨g, off + i, none⟩) hg).trans x5) (E3.za HW).zb.1 (E3.za HW).zb.2 ((HW.cell (p := ⟨gw, ow + i, none⟩) hgw).trans x6) (E4.za HW).zb.1 (E4.za HW).zb.2;refine zst HS HW 26 (by kernel_rfl) fun zH => ?_;refine ztl (i := 0) [12, 22, 23, 24, 25, 26, 27] rfl ?_;simp only [Act.put, aGet, aZero, aSet, aHead, aTail];refine ztl (i := 1) [3, 4, 10, 11, 12, 22, 23, 24, 25, 26, 27] rfl ?_;simp only [Act.put, aAll];refine ztl (i := 2) [3, 4, 10, 11, 12, 22, 23, 24, 25, 26, 27] rfl ?_;simp only [Act.put, aAll];refine ztl (i := 3) [4, 10, 11, 12, 22, 23, 24, 25, 26, 27] rfl ?_;simp only [Act.put, aAll];refine ztl (i := 4) [10, 11, 12, 22, 23, 24, 25, 26, 27] rfl ?_;simp only [Act.put, aAll];refine ztl (i := 5) [7, 8, 9, 10, 11, 12, 22, 23, 24, 25, 26, 27] rfl ?_;simp only [Act.put, aAll];refine ztl (i := 6) [7, 8, 9, 10, 11, 12, 22, 23, 24, 25, 26, 27] rfl ?_;simp only [Act.put, aAll];refine ztl (i := 7) [8, 9, 10, 11, 12, 22, 23, 24, 25, 26, 27] rfl ?_;simp only [Act.put, aAll];refine ztl (i := 8) [9, 10, 11, 12, 22, 23, 24, 25, 26, 27] rfl ?_;simp only [Act.put, aAll];refine ztl (i := 13) [25, 26, 27] rfl ?_;simp only [Act.put, aAll];refine ztl (i := 14) [16, 17, 23, 24, 25, 26, 27] rfl ?_;simp only [Act.put, aAll];refine ztl (i := 15) [16, 17, 23, 24, 25, 26, 27] rfl ?_;simp only [Act.put, aAll];refine ztl (i := 16) [17, 23, 24, 25, 26, 27] rfl ?_;simp only [Act.put, aAll];refine ztl (i := 17) [23, 24, 25, 26, 27] rfl ?_;simp only [Act.put, aAll];refine ztl (i := 18) [20, 21, 22, 23, 24, 25, 26, 27] rfl ?_;simp only [Act.put, aAll];refine ztl (i := 19) [20, 21, 22, 23, 24, 25, 26, 27] rfl ?_;simp only [Act.put, aAll];refine ztl (i := 20) [21, 22, 23, 24, 25, 26, 27] rfl ?_;simp only [Act.put, aAll];refine ztl (i := 21) [22, 23, 24, 25, 26, 27] rfl ?_;simp only [Act.put, aAll];refine tin (i := 9) rfl fun K hK => ?_;go_simp;refine (rpivotK _ N _ (hs.getD i []) b _ (hr5.za HW).vk).mono ?_;rintro e w9 ⟨z, rfl, hpz, hb9⟩;have hz : z = (p i : Int) := by
    rcases hpz with ⟨_, h0⟩ | ⟨q9, e9, hq9⟩
    ·exact absurd (h0 _) (zu HPp).2
    ·rw [e9, isPivot_inj hq9 (zu HPp)]
   subst hz;replace HW := Below.step HW hb9;clear hb9 hpz;refine hK.out _ _ ?_ (fun zH => ?_)
   ·exact zu HS _ HW
   clear hK K
   try simp only [Act.put, aAll]
   refine ztl (i := 10) [11, 12, 22, 23, 24, 25, 26, 27] rfl ?_;simp only [Act.put, aAll];refine ztl (i := 11) [12, 22, 23, 24, 25, 26, 27] rfl ?_;simp only [Act.put, aAll];refine tin (i := 12) rfl fun K hK => ?_;go_simp;refine (rmulK b1 a1 l1 c1 (prodN i fun t => ent hs t (p t)) (2 + i * b) b3 a3 l3 c3 (ent hs i (p i)) b _ ((hx.za HW).ik (by omega)) (y3.1.za HW) (by have := y3.2; have := (hx.sk (by omega)).2; omega)).mono ?_;rintro e w9 ⟨b7, a7, l7, c7, rfl, h7, hb9⟩;replace HW := Below.step HW hb9;clear hb9;refine hK.out _ _ ?_ (fun zH => ?_)
   ·exact zu HS _ HW
   clear hK K
   try simp only [Act.put, aAll]
   refine tin (i := 22) rfl fun K hK => ?_;go_simp;refine (rpivotK _ N _ (V.getD i []) 36 _ (hr6.za HW).vk).mono ?_;rintro e w9 ⟨z, rfl, hpz, hb9⟩;have hz : z = (q i : Int) := by
    rcases hpz with ⟨_, h0⟩ | ⟨q9, e9, hq9⟩
    ·exact absurd (h0 _) (zu HPq).2
    ·rw [e9, isPivot_inj hq9 (zu HPq)]
   subst hz;replace HW := Below.step HW hb9;replace h7 := h7.za hb9;clear hb9 hpz;refine hK.out _ _ ?_ (fun zH => ?_)
   ·exact zu HS _ HW
   clear hK K
   try simp only [Act.put, aAll]
   refine ztl (i := 23) [24, 25, 26, 27] rfl ?_;simp only [Act.put, aAll];refine ztl (i := 24) [25, 26, 27] rfl ?_;simp only [Act.put, aAll];refine tin (i := 25) rfl fun K hK => ?_;go_simp;refine (rmulK b2 a2 l2 c2 (prodN i fun t => ent V t (q t)) (2 + i * 36) b4 a4 l4 c4 (ent V i (q i)) 36 _ ((hy.za HW).ik (by omega)) (y4.1.za HW) (by have := y4.2; have := (hy.sk (by omega)).2; omega)).mono ?_;rintro e w9 ⟨b8, a8, l8, c8, rfl, h8, hb9⟩;replace HW := Below.step HW hb9;replace h7 := h7.za hb9;clear hb9;refine hK.out _ _ ?_ (fun zH => ?_)
   ·exact zu HS _ HW
   clear hK K
   try simp only [Act.put, aAll]
   obtain ⟨q1, q2, q3, q4⟩ := (BX.za HW).zb;have hsx := (BX.za HW).lt;refine tout (i := 26) rfl fun K hK => ?_;go_simp;refine hK.out _ _ ?_;clear hK K
   try simp only [Act.put, aAll]
   obtain ⟨q5, q6, q7, q8⟩ := ((BY.za HW).other (g' := gx) (by omega) b7 a7 l7 c7).zb;obtain ⟨q9, q10, q11, q12⟩ := (BY.za HW).zb;unfold put at q5 q6 q7 q8;have hsy := (BY.za HW).lt;refine tout (i := 27) rfl fun K hK => ?_;go_simp;refine hK.out _ _ ?_;clear hK K
   try simp only [Act.put, aAll]
   refine till_done (by kernel_rfl) ?_ _;have hnx := (BX.za HW).noLimb;have hny := ((BY.za HW).other (g' := gx) (by omega) b7 a7 l7 c7).noLimb;have hgs1 := grown_set2 w9 gx 0 1 (.bool b7) (.slice a7 l7 c7);have hgs2 := grown_set2 (put w9 gx b7 a7 l7 c7) gy 0 1 (.bool b8) (.slice a8 l8 c8);obtain ⟨W8, hW8⟩ : ∃ W8, W8 = put (put w9 gx b7 a7 l7 c7) gy b8 a8 l8 c8 := ⟨_, rfl⟩;have BX8 : Box W8 gx b7 a7 l7 c7 := by rw [hW8]; exact ((BX.za HW).put b7 a7 l7 c7).other (g' := gy) (by omega) b8 a8 l8 c8
   have BY8 : Box W8 gy b8 a8 l8 c8 := by rw [hW8]; exact ((BY.za HW).other (g' := gx) (by omega) b7 a7 l7 c7).put b8 a8 l8 c8
   have hx8 : FK W8 b7 a7 l7 c7 (prodN (i + 1) fun t => ent hs t (p t)) (2 + (i + 1) * b) := by rw [hW8, zu HIB]; exact (h7.put hnx _ _ _ _).put hny _ _ _ _
   have hy8 : FK W8 b8 a8 l8 c8 (prodN (i + 1) fun t => ent V t (q t)) (2 + (i + 1) * 36) := by
    rw [hW8, show 2 + (i + 1) * 36 = 2 + i * 36 + 36 by omega];exact (h8.put hnx _ _ _ _).put hny _ _ _ _
   have HC8 := zh (show Below w3.heap.size w3 W8 by rw [hW8]; exact below_put (below_put (Below.step (zu HC) HW) hgx3 _ _ _ _) (by omega) _ _ _ _);clear zH hnx hny hgs1 hgs2 h7 h8 hx hy BX BY E3 y3 E4 y4 hr5 hr6 x5 x6 HC q1 q2 q3 q4 q5 q6 q7 q8 q9 q10 q11 q12 HW hsx hsy;have e9 : ((w9.setCell ⟨gx, 0, none⟩ (.bool b7)).setCell ⟨gx, 1, none⟩ (.slice a7 l7 c7) |>.setCell ⟨gy, 0, none⟩ (.bool b8)).setCell ⟨gy, 1, none⟩ (.slice a8 l8 c8) = W8 := by rw [hW8]; rfl
   rw [e9];clear hW8 e9;go_wp2;go_roundw
   case rel => exact ⟨i + 1, _, _, _, _, _, _, _, _, by omega, by go_num, BX8, BY8, hx8, hy8, zu HC8⟩
   case measure => simp [intOf]; omega
  ·have hin : i = n := by omega
   subst hin;have hi1 : ¬ (i : Int) < (i : Int) := by omega
   have HX := zh (show ∀ t, t < i → 0 < ent V t (q t) from fun t ht => (zu HFV).pos t (by rw [zu HLN2]; exact ht));have hne := prodN_pos (zu HX);have HNE := zh (show (prodN i fun t => ent V t (q t)) ≠ 0 by omega);replace B0 := B0.za (zu HC);replace HB := zh (Below.step (zu HB) (zu HC));clear hne HX hv HC;obtain ⟨f1, f2, _, _⟩ := BX.zb;obtain ⟨f3, f4, _, _⟩ := BY.zb;have hsx := BX.lt;have hsy := BY.lt
   go_wp2_with fail
   refine (rquoK b1 a1 l1 c1 _ (2 + i * b) b2 a2 l2 c2 _ (2 + i * 36) _ (hx.ik (by have : i * b ≤ 64 * 100 := Nat.mul_le_mul hn64 hb; omega)) (hy.ik (by omega)) (zu HNE)).mono ?_;rintro e w9 ⟨b5, a5, l5, c5, b6, a6, l6, c6, rfl, h5, h6, hb1⟩;replace B0 := B0.za hb1;replace HB := zh (Below.step (zu HB) hb1);clear hb1 h6 f1 f2 f3 f4 hsx hsy BX BY hx hy;obtain ⟨W10, hW10⟩ : ∃ W', W' = (w9.alloc (.cells #[.bool b5, .slice a5 l5 c5] 44)).alloc (.cells #[.bool b6, .slice a6 l6 c6] 44) := ⟨_, rfl⟩;obtain ⟨BQ, BR, hb1⟩ := boxes2 w9 b5 a5 l5 c5 b6 a6 l6 c6 hW10;replace B0 := B0.za hb1;replace h5 := h5.za hb1;replace HB := zh (Below.step (zu HB) hb1);obtain ⟨f1, f2, _, _⟩ := BQ.zb;obtain ⟨q1, q2, q3, q4⟩ := B0.zb;have hsz := B0.lt;have hsq := BQ.lt;rw [hW10] at f1 f2 q1 q2 q3 q4 hsz hsq;clear hb1;go_wp2;rw [← hW10];refine bodyPost_ret (v := .agg #[.bool b5, .slice a5 l5 c5]) (by simp [results, Tryz.results29, go_sem, *]) rfl ?_;exact ⟨_, _, _, _, q, V, rfl, h5.put B0.noLimb _ _ _ _, zu HFV, zu HIV, zu HLV, below_put (zu HB) (Nat.le_refl _) _ _ _ _⟩

end Go.Proofs.YtkomdimalgnamaaGreat
