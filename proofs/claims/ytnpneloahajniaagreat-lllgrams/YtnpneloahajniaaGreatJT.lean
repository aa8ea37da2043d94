/-
 What least of the reference tells.
-/
import Derived.Test.YtnpneloahajniaaGreatJR
import Derived.Test.YtnpneloahajniaaGreatJE
import Derived.Deep.CutRange
namespace Go.Proofs.YtnpneloahajniaaGreat
open Go.RowKit Lb
set_option maxRecDepth 20000

def LeastIn (l : List (List Int)) (d c e : Nat) (z : Int) : Prop := (z = -1 ∧ ∀ i, d ≤ i → i < e → ent l i c = 0) ∨ ∃ p : Nat, z = (p : Int) ∧ d ≤ p ∧ p < e ∧ ent l p c ≠ 0 ∧ ∀ i, d ≤ i → i < e → ent l i c ≠ 0 → (ent l p c).natAbs ≤ (ent l i c).natAbs
theorem leastIn_start (l : List (List Int)) (d c : Nat) : LeastIn l d c d (-1) := Or.inl ⟨rfl, fun i h1 h2 => absurd h1 (by omega)⟩
theorem LeastIn.skip {l : List (List Int)} {d c e : Nat} {z : Int} (h : LeastIn l d c e z) (h0 : ent l e c = 0) : LeastIn l d c (e + 1) z := by
 rcases h with ⟨e1, h⟩ | ⟨p, e1, h1, h2, h3, h4⟩
 ·refine Or.inl ⟨e1, fun i hi1 hi2 => ?_⟩;by_cases f : i = e
  ·rw [f]; exact h0
  ·exact h i hi1 (by omega)
 ·refine Or.inr ⟨p, e1, h1, by omega, h3, fun i hi1 hi2 hi3 => ?_⟩;by_cases f : i = e
  ·rw [f] at hi3; exact absurd h0 hi3
  ·exact h4 i hi1 (by omega) hi3
theorem LeastIn.first {l : List (List Int)} {d c e : Nat} {z : Int} (h : LeastIn l d c e z) (hz : z < 0) (hde : d ≤ e) (h0 : ent l e c ≠ 0) : LeastIn l d c (e + 1) (e : Int) := by
 rcases h with ⟨e1, h⟩ | ⟨p, e1, h1, h2, h3, h4⟩
 ·refine Or.inr ⟨e, rfl, hde, by omega, h0, fun i hi1 hi2 hi3 => ?_⟩;by_cases f : i = e
  ·rw [f]; exact Nat.le_refl _
  ·exact absurd (h i hi1 (by omega)) hi3
 ·omega
theorem LeastIn.less {l : List (List Int)} {d c e p : Nat} (h : LeastIn l d c e (p : Int)) (hde : d ≤ e) (h0 : ent l e c ≠ 0) (hl : (ent l e c).natAbs < (ent l p c).natAbs) : LeastIn l d c (e + 1) (e : Int) := by
 rcases h with ⟨e1, h⟩ | ⟨p', e1, h1, h2, h3, h4⟩
 ·omega
 ·obtain rfl : p = p' := by omega
  refine Or.inr ⟨e, rfl, hde, by omega, h0, fun i hi1 hi2 hi3 => ?_⟩;by_cases f : i = e
  ·rw [f]; exact Nat.le_refl _
  ·have := h4 i hi1 (by omega) hi3; omega
theorem LeastIn.keep {l : List (List Int)} {d c e p : Nat} (h : LeastIn l d c e (p : Int)) (hl : (ent l p c).natAbs ≤ (ent l e c).natAbs) : LeastIn l d c (e + 1) (p : Int) := by
 rcases h with ⟨e1, h⟩ | ⟨p', e1, h1, h2, h3, h4⟩
 ·omega
 ·obtain rfl : p = p' := by omega
  refine Or.inr ⟨p, rfl, h1, by omega, h3, fun i hi1 hi2 hi3 => ?_⟩;by_cases f : i = e
  ·rw [f]; exact hl
  ·exact h4 i hi1 (by omega) hi3
set_option maxRecDepth 40000 in
set_option maxHeartbeats 4000000 in
theorem leastK (ao : Option Addr) (n cap : Nat) (l : List (List Int)) (k N d c : Nat) (w : World) (h : MK w ao n cap l k) (hN : ∀ i, i < n → (l.getD i []).length = N) (hc : c < N) (hd : d ≤ n) (hn : n ≤ 1000) (hk : k ≤ 900000) :
  Calls Tryz.prog 33 #[.slice ao n cap, .int .i64 (d : Int), .int .i64 (c : Int)] w fun e w' => ∃ z, e = .returned (.int .i64 z) ∧ LeastIn l d c n z ∧ Below w.heap.size w w' := by
 have HN := zh hN;clear hN;go_enter Tryz.func33, Tryz.ntmps33
 go_wp2_with fail
 go_loopw [7, 8] (fun s t wr => ∃ (i : Nat) (z : Int), d ≤ i ∧ i ≤ n ∧ t = .int .i64 (i : Int) ∧ s = .int .i64 z ∧ LeastIn l d c i z ∧ Below w.heap.size w wr) (fun _ t _ => n - (intOf t).toNat)
 case atStart => exact ⟨d, -1, Nat.le_refl _, hd, rfl, rfl, leastIn_start _ _ _, Below.refl _ _⟩
 case round =>
  obtain ⟨i, z, hdi, hi, rfl, rfl, hL, hB⟩ := hrel;have HL := zh hL;have HB := zh hB;clear hL hB;by_cases hlt : i < n
  ·obtain ⟨g, off, rfl⟩ := h.addr (by omega);obtain ⟨hg, a5, l5, c5, hc5, hv5⟩ := RowsOf.at (R := fun w a l c zs => VK w a l c zs k) h hlt;have hl5 : N = l5 := by rw [← hv5.len_eq]; exact (zu HN i hlt).symm
   subst hl5;obtain ⟨g5, o5, rfl⟩ := hv5.some (by omega);obtain ⟨b7, a7, l7, c7, E7, y7⟩ := (hv5.za (zu HB)).at hc;have x5 := ((zu HB).cell (p := ⟨g, off + i, none⟩) hg).trans hc5;have hgr := Nat.lt_of_lt_of_le hg (zu HB).size;have hk9 : k ≤ 999990 := by omega
   obtain ⟨x, ex⟩ : ∃ x, x = (l.getD i []).getD c 0 := ⟨_, rfl⟩;rw [← ex] at y7;have EX := zh (show ent l i c = x from ex.symm);obtain ⟨s, es⟩ : ∃ s, s = x.sign := ⟨_, rfl⟩;have ES := zh es;have hi0 : (0 : Int) ≤ (i : Int) := by omega
   have hi1 : (i : Int) < (n : Int) := by omega
   have hp2 : (c : Int) < (N : Int) := by omega
   have hp0 : (0 : Int) ≤ (c : Int) := by omega
   clear hc5 ex hv5
   go_upto_region 5 with fail
   have HW : Below wr.heap.size wr wr.drew := (Below.refl _ _).drew;by_cases h0 : x = 0
   ·have hs : (s != 0) = false := by rw [es, h0]; rfl
    have HL2 := zh ((zu HL).skip (by rw [zu EX]; exact h0));clear es;have HS := zh fun w' (HW : Below wr.heap.size wr w') => con3 ((HW.cell (p := ⟨g, off + i, none⟩) hgr).trans x5) (E7.za HW).zb.1 (E7.za HW).zb.2;refine zst HS HW 32 (by kernel_rfl) fun zH => ?_;refine ztl 0 rfl ?_;simp only [Act.put, aGet, aZero, aSet, aHead, aTail];refine ztl 1 rfl ?_;simp only [zP];refine ztl 2 rfl ?_;simp only [zP];refine ztl 3 rfl ?_;simp only [zP];refine ztl 4 rfl ?_;simp only [zP];refine ztl 5 rfl ?_;simp only [zP];refine ztl 6 rfl ?_;simp only [zP];refine tin 7 rfl fun K hK => ?_;go_simp;refine (rsignK b7 a7 l7 c7 x k s _ (y7.za HW) (zu ES)).mono ?_;rintro e w9 ⟨rfl, hb9⟩;replace HW := Below.step HW hb9;clear hb9;refine hK.out _ _ ?_ (fun zH => ?_)
    ·exact zu HS _ HW
    clear hK K
    try simp only [zP]
    refine ztl 8 rfl ?_;simp only [zP];refine ztl 9 rfl ?_;simp only [zP];refine ztu 10 rfl ?_;simp only [zP];refine ztu 11 rfl ?_;simp only [zP];refine ztu 12 rfl ?_;simp only [zP];refine ztu 13 rfl ?_;simp only [zP];refine ztu 14 rfl ?_;simp only [zP];refine ztu 15 rfl ?_;simp only [zP];refine ztu 16 rfl ?_;simp only [zP];refine ztu 17 rfl ?_;simp only [zP];refine ztu 18 rfl ?_;simp only [zP];refine ztu 19 rfl ?_;simp only [zP];refine ztu 21 rfl ?_;simp only [zP];refine ztu 22 rfl ?_;simp only [zP];refine ztu 23 rfl ?_;simp only [zP];refine ztu 24 rfl ?_;simp only [zP];refine ztu 25 rfl ?_;simp only [zP];refine ztu 26 rfl ?_;simp only [zP];refine ztu 27 rfl ?_;simp only [zP];refine tin 20 rfl fun K hK => ?_;go_simp;refine hK.out _ _ ?_ (fun zH => ?_)
    ·exact zu HS _ HW
    clear hK K
    try simp only [zP]
    refine tin 28 rfl fun K hK => ?_;go_simp;refine hK.out _ _ ?_ (fun zH => ?_)
    ·exact zu HS _ HW
    clear hK K
    try simp only [zP]
    refine tin 29 rfl fun K hK => ?_;go_simp;refine hK.out _ _ ?_ (fun zH => ?_)
    ·exact zu HS _ HW
    clear hK K
    try simp only [zP]
    refine ztu 30 rfl ?_;simp only [zP];refine ztu 31 rfl ?_;simp only [zP];refine tout 32 rfl fun K hK => ?_;go_simp;refine hK.out _ _ ?_;clear hK K
    try simp only [zP]
    refine zdn (by kernel_rfl) ?_ _;clear zH x5 E7 y7;replace HB := zh (Below.step (zu HB) HW);clear HW hgr;go_wp2;go_roundw
    case rel => exact ⟨i + 1, z, by omega, by omega, by go_num, rfl, zu HL2, zu HB⟩
    case measure => simp [intOf]; omega
   ·have hs : (s != 0) = true := by
     rw [bne_iff_ne, es];exact fun e => h0 (Int.sign_eq_zero_iff_zero.1 e)
    clear es;by_cases hz : z < 0
    ·have hzq : decide (z < 0) = true := decide_eq_true hz;have HL2 := zh ((zu HL).first hz hdi (by rw [zu EX]; exact h0));have HS := zh fun w' (HW : Below wr.heap.size wr w') => con3 ((HW.cell (p := ⟨g, off + i, none⟩) hgr).trans x5) (E7.za HW).zb.1 (E7.za HW).zb.2;refine zst HS HW 32 (by kernel_rfl) fun zH => ?_;refine ztl 0 rfl ?_;simp only [Act.put, aGet, aZero, aSet, aHead, aTail];refine ztl 1 rfl ?_;simp only [zP];refine ztl 2 rfl ?_;simp only [zP];refine ztl 3 rfl ?_;simp only [zP];refine ztl 4 rfl ?_;simp only [zP];refine ztl 5 rfl ?_;simp only [zP];refine ztl 6 rfl ?_;simp only [zP];refine tin 7 rfl fun K hK => ?_;go_simp;refine (rsignK b7 a7 l7 c7 x k s _ (y7.za HW) (zu ES)).mono ?_;rintro e w9 ⟨rfl, hb9⟩;replace HW := Below.step HW hb9;clear hb9;refine hK.out _ _ ?_ (fun zH => ?_)
     ·exact zu HS _ HW
     clear hK K
     try simp only [zP]
     refine ztl 8 rfl ?_;simp only [zP];refine ztl 9 rfl ?_;simp only [zP];refine ztl 10 rfl ?_;simp only [zP];refine ztl 11 rfl ?_;simp only [zP];refine ztl 12 rfl ?_;simp only [zP];refine ztu 13 rfl ?_;simp only [zP];refine ztu 14 rfl ?_;simp only [zP];refine ztu 15 rfl ?_;simp only [zP];refine ztu 16 rfl ?_;simp only [zP];refine ztu 17 rfl ?_;simp only [zP];refine ztu 18 rfl ?_;simp only [zP];refine ztu 19 rfl ?_;simp only [zP];refine ztu 21 rfl ?_;simp only [zP];refine ztu 22 rfl ?_;simp only [zP];refine ztu 23 rfl ?_;simp only [zP];refine ztu 24 rfl ?_;simp only [zP];refine ztu 25 rfl ?_;simp only [zP];refine ztu 26 rfl ?_;simp only [zP];refine ztu 27 rfl ?_;simp only [zP];refine tin 20 rfl fun K hK => ?_;go_simp;refine hK.out _ _ ?_ (fun zH => ?_)
     ·exact zu HS _ HW
     clear hK K
     try simp only [zP]
     refine tin 28 rfl fun K hK => ?_;go_simp;refine hK.out _ _ ?_ (fun zH => ?_)
     ·exact zu HS _ HW
     clear hK K
     try simp only [zP]
     refine tin 29 rfl fun K hK => ?_;go_simp;refine hK.out _ _ ?_ (fun zH => ?_)
     ·exact zu HS _ HW
     clear hK K
     try simp only [zP]
     refine ztu 30 rfl ?_;simp only [zP];refine ztl 31 rfl ?_;simp only [zP];refine tout 32 rfl fun K hK => ?_;go_simp;refine hK.out _ _ ?_;clear hK K
     try simp only [zP]
     refine zdn (by kernel_rfl) ?_ _;clear zH x5 E7 y7;replace HB := zh (Below.step (zu HB) HW);clear HW hgr;go_wp2;go_roundw
     case rel => exact ⟨i + 1, _, by omega, by omega, by go_num, rfl, zu HL2, zu HB⟩
     case measure => simp [intOf]; omega
    ·obtain ⟨p, rfl, hp1, hpi⟩ : ∃ p : Nat, z = (p : Int) ∧ d ≤ p ∧ p < i := by
      rcases zu HL with ⟨e1, _⟩ | ⟨p, e1, h1, h2, _⟩
      ·omega
      ·exact ⟨p, e1, h1, h2⟩
     have hzq : decide ((p : Int) < 0) = false := decide_eq_false hz;have hpn : p < n := by omega
     obtain ⟨_, a6, l6, c6, hc6, hv6⟩ := RowsOf.at (R := fun w a l c zs => VK w a l c zs k) h hpn;have hl6 : N = l6 := by rw [← hv6.len_eq]; exact (zu HN p hpn).symm
     subst hl6;obtain ⟨g6, o6, rfl⟩ := hv6.some (by omega);obtain ⟨b8, a8, l8, c8, E8, y8⟩ := (hv6.za (zu HB)).at hc;have x6 := ((zu HB).cell (p := ⟨g, off + p, none⟩) hg).trans hc6;obtain ⟨y, ey⟩ : ∃ y, y = (l.getD p []).getD c 0 := ⟨_, rfl⟩;rw [← ey] at y8;have EY := zh (show ent l p c = y from ey.symm);obtain ⟨d', ed⟩ : ∃ d', d' = ((x.natAbs : Int) - (y.natAbs : Int)).sign := ⟨_, rfl⟩;have ED := zh ed;have hj0 : (0 : Int) ≤ (p : Int) := by omega
     have hj1 : (p : Int) < (n : Int) := by omega
     clear hc6 ey hv6;by_cases hxy : x.natAbs < y.natAbs
     ·have hd : decide (d' < 0) = true := decide_eq_true (by rw [ed, Int.sign_eq_neg_one_of_neg (by omega)]; omega);have HL2 := zh ((zu HL).less hdi (by rw [zu EX]; exact h0) (by rw [zu EX, zu EY]; exact hxy));clear ed;have HS := zh fun w' (HW : Below wr.heap.size wr w') => con6 ((HW.cell (p := ⟨g, off + i, none⟩) hgr).trans x5) (E7.za HW).zb.1 (E7.za HW).zb.2 ((HW.cell (p := ⟨g, off + p, none⟩) hgr).trans x6) (E8.za HW).zb.1 (E8.za HW).zb.2;refine zst HS HW 32 (by kernel_rfl) fun zH => ?_;refine ztl 0 rfl ?_;simp only [Act.put, aGet, aZero, aSet, aHead, aTail];refine ztl 1 rfl ?_;simp only [zP];refine ztl 2 rfl ?_;simp only [zP];refine ztl 3 rfl ?_;simp only [zP];refine ztl 4 rfl ?_;simp only [zP];refine ztl 5 rfl ?_;simp only [zP];refine ztl 6 rfl ?_;simp only [zP];refine tin 7 rfl fun K hK => ?_;go_simp;refine (rsignK b7 a7 l7 c7 x k s _ (y7.za HW) (zu ES)).mono ?_;rintro e w9 ⟨rfl, hb9⟩;replace HW := Below.step HW hb9;clear hb9;refine hK.out _ _ ?_ (fun zH => ?_)
      ·exact zu HS _ HW
      clear hK K
      try simp only [zP]
      refine ztl 8 rfl ?_;simp only [zP];refine ztl 9 rfl ?_;simp only [zP];refine ztl 10 rfl ?_;simp only [zP];refine ztl 11 rfl ?_;simp only [zP];refine ztl 12 rfl ?_;simp only [zP];refine ztl 13 rfl ?_;simp only [zP];refine ztl 14 rfl ?_;simp only [zP];refine ztl 15 rfl ?_;simp only [zP];refine ztl 16 rfl ?_;simp only [zP];refine ztl 17 rfl ?_;simp only [zP];refine ztl 18 rfl ?_;simp only [zP];refine ztl 19 rfl ?_;simp only [zP];refine ztl 21 rfl ?_;simp only [zP];refine ztl 22 rfl ?_;simp only [zP];refine ztl 23 rfl ?_;simp only [zP];refine ztl 24 rfl ?_;simp only [zP];refine ztl 25 rfl ?_;simp only [zP];refine ztl 26 rfl ?_;simp only [zP];refine ztl 27 rfl ?_;simp only [zP];refine tin 20 rfl fun K hK => ?_;go_simp;refine (rabsK b7 a7 l7 c7 x k _ (y7.za HW)).mono ?_;rintro e w10 ⟨b9, a9, l9, c9, rfl, h9, hb9⟩;replace HW := Below.step HW hb9;clear hb9;refine hK.out _ _ ?_ (fun zH => ?_)
      ·exact zu HS _ HW
      clear hK K
      try simp only [zP]
      refine tin 28 rfl fun K hK => ?_;go_simp;refine (rabsK b8 a8 l8 c8 y k _ (y8.za HW)).mono ?_;rintro e w11 ⟨b10, a10, l10, c10, rfl, h10, hb9⟩;replace h9 := h9.za hb9;replace HW := Below.step HW hb9;clear hb9;refine hK.out _ _ ?_ (fun zH => ?_)
      ·exact zu HS _ HW
      clear hK K
      try simp only [zP]
      refine tin 29 rfl fun K hK => ?_;go_simp;refine (rcmpK b9 a9 l9 c9 (x.natAbs : Int) k b10 a10 l10 c10 (y.natAbs : Int) k d' _ (h9.ik (by omega)) (h10.ik (by omega)) (zu ED)).mono ?_;rintro e w12 ⟨rfl, hb9⟩;replace HW := Below.step HW hb9;clear hb9 h9 h10;refine hK.out _ _ ?_ (fun zH => ?_)
      ·exact zu HS _ HW
      clear hK K
      try simp only [zP]
      refine ztl 30 rfl ?_;simp only [zP];refine ztl 31 rfl ?_;simp only [zP];refine tout 32 rfl fun K hK => ?_;go_simp;refine hK.out _ _ ?_;clear hK K
      try simp only [zP]
      refine zdn (by kernel_rfl) ?_ _;clear zH x5 E7 y7 x6 E8 y8;replace HB := zh (Below.step (zu HB) HW);clear HW hgr;go_wp2;go_roundw
      case rel => exact ⟨i + 1, _, by omega, by omega, by go_num, rfl, zu HL2, zu HB⟩
      case measure => simp [intOf]; omega
     ·have hd : decide (d' < 0) = false := decide_eq_false (by rw [ed]; exact sgn_geH (by omega));have HL2 := zh ((zu HL).keep (by rw [zu EX, zu EY]; omega));clear ed;have HS := zh fun w' (HW : Below wr.heap.size wr w') => con6 ((HW.cell (p := ⟨g, off + i, none⟩) hgr).trans x5) (E7.za HW).zb.1 (E7.za HW).zb.2 ((HW.cell (p := ⟨g, off + p, none⟩) hgr).trans x6) (E8.za HW).zb.1 (E8.za HW).zb.2;refine zst HS HW 32 (by kernel_rfl) fun zH => ?_;refine ztl 0 rfl ?_;simp only [Act.put, aGet, aZero, aSet, aHead, aTail];refine ztl 1 rfl ?_;simp only [zP];refine ztl 2 rfl ?_;simp only [zP];refine ztl 3 rfl ?_;simp only [zP];refine ztl 4 rfl ?_;simp only [zP];refine ztl 5 rfl ?_;simp only [zP];refine ztl 6 rfl ?_;simp only [zP];refine tin 7 rfl fun K hK => ?_;go_simp;refine (rsignK b7 a7 l7 c7 x k s _ (y7.za HW) (zu ES)).mono ?_;rintro e w9 ⟨rfl, hb9⟩;replace HW := Below.step HW hb9;clear hb9;refine hK.out _ _ ?_ (fun zH => ?_)
      ·exact zu HS _ HW
      clear hK K
      try simp only [zP]
      refine ztl 8 rfl ?_;simp only [zP];refine ztl 9 rfl ?_;simp only [zP];refine ztl 10 rfl ?_;simp only [zP];refine ztl 11 rfl ?_;simp only [zP];refine ztl 12 rfl ?_;simp only [zP];refine ztl 13 rfl ?_;simp only [zP];refine ztl 14 rfl ?_;simp only [zP];refine ztl 15 rfl ?_;simp only [zP];refine ztl 16 rfl ?_;simp only [zP];refine ztl 17 rfl ?_;simp only [zP];refine ztl 18 rfl ?_;simp only [zP];refine ztl 19 rfl ?_;simp only [zP];refine ztl 21 rfl ?_;simp only [zP];refine ztl 22 rfl ?_;simp only [zP];refine ztl 23 rfl ?_;simp only [zP];refine ztl 24 rfl ?_;simp only [zP];refine ztl 25 rfl ?_;simp only [zP];refine ztl 26 rfl ?_;simp only [zP];refine ztl 27 rfl ?_;simp only [zP];refine tin 20 rfl fun K hK => ?_;go_simp;refine (rabsK b7 a7 l7 c7 x k _ (y7.za HW)).mono ?_;rintro e w10 ⟨b9, a9, l9, c9, rfl, h9, hb9⟩;replace HW := Below.step HW hb9;clear hb9;refine hK.out _ _ ?_ (fun zH => ?_)
      ·exact zu HS _ HW
      clear hK K
      try simp only [zP]
      refine tin 28 rfl fun K hK => ?_;go_simp;refine (rabsK b8 a8 l8 c8 y k _ (y8.za HW)).mono ?_;rintro e w11 ⟨b10, a10, l10, c10, rfl, h10, hb9⟩;replace h9 := h9.za hb9;replace HW := Below.step HW hb9;clear hb9;refine hK.out _ _ ?_ (fun zH => ?_)
      ·exact zu HS _ HW
      clear hK K
      try simp only [zP]
      refine tin 29 rfl fun K hK => ?_;go_simp;refine (rcmpK b9 a9 l9 c9 (x.natAbs : Int) k b10 a10 l10 c10 (y.natAbs : Int) k d' _ (h9.ik (by omega)) (h10.ik (by omega)) (zu ED)).mono ?_;rintro e w12 ⟨rfl, hb9⟩;replace HW := Below.step HW hb9;clear hb9 h9 h10;refine hK.out _ _ ?_ (fun zH => ?_)
      ·exact zu HS _ HW
      clear hK K
      try simp only [zP]
      refine ztl 30 rfl ?_;simp only [zP];refine ztl 31 rfl ?_;simp only [zP];refine tout 32 rfl fun K hK => ?_;go_simp;refine hK.out _ _ ?_;clear hK K
      try simp only [zP]
      refine zdn (by kernel_rfl) ?_ _;clear zH x5 E7 y7 x6 E8 y8;replace HB := zh (Below.step (zu HB) HW);clear HW hgr;go_wp2;go_roundw
      case rel => exact ⟨i + 1, _, by omega, by omega, by go_num, rfl, zu HL2, zu HB⟩
      case measure => simp [intOf]; omega
  ·have hin : i = n := by omega
   subst hin;have hi1 : ¬ (i : Int) < (i : Int) := by omega
   go_wp2;go_ret;exact ⟨_, rfl, zu HL, zu HB⟩

/-
 Plain mathematics of the reference's elimination: what each of its steps keeps, and how great the numbers get.
-/

theorem grow_three {A A' P v v' : Nat} (hA : A' * v ≤ A * (v + P)) (hv : v + v' ≤ P) : A' * v * (v + v') ≤ A * P * (P + v) :=
 calc A' * v * (v + v') ≤ A * (v + P) * (v + v') := Nat.mul_le_mul_right _ hA
  _ ≤ A * (v + P) * P := Nat.mul_le_mul_left _ hv
  _ = A * P * (P + v) := by rw [Nat.mul_assoc, Nat.mul_comm (v + P) P, ← Nat.mul_assoc, Nat.add_comm v P]
theorem pot_three {A P v : Nat} (hp : 0 < P) : A * P ≤ A * P * (P + v) := by
 have h1 : A * P * 1 ≤ A * P * (P + v) := Nat.mul_le_mul_left _ (by omega);omega
theorem bp_three {A a : Nat} (h : A < Bp a) : 2 * (A * A * (A + A)) < Bp (a + a + a + 1) := by
 have h1 := bp_mul_lt (bp_mul_lt h h) h;have h2 : 4 * Bp (a + a + a) ≤ Bp (a + a + a + 1) := by
  rw [bp_add (a + a + a) 1, Nat.mul_comm];exact Nat.mul_le_mul_left _ (by unfold Bp; decide)
 have h3 : A * A * (A + A) = A * A * A + A * A * A := Nat.mul_add _ _ _;omega
def Headed (rs : List (List Int)) (n N : Nat) : Prop := n ≤ N ∧ (∀ i, i < n → ∀ j, j < n → ent rs i j = if j = i then 1 else 0) ∧ ∀ i j, (ent rs i j).natAbs ≤ 1
structure Grows (rs : List (List Int)) (n N : Nat) (aF bF : Nat → Nat) : Prop where
 mono : ∀ d, aF d ≤ aF (d + 1)
 run : ((∀ d, d + 1 < n → aF d + aF d + aF d + 1 ≤ aF (d + 1)) ∧ ∀ d, bF d + aF (d + 1) + 1 ≤ bF (d + 1)) ∨ (Headed rs n N ∧ ∀ d, 1 ≤ aF d ∧ aF d ≤ bF d)
def UnitRun (rs l : List (List Int)) (c d n N : Nat) : Prop := Headed rs n N → d = min c n ∧ ∀ i, i < n → ∀ j, ent l i j = ent rs i j
theorem UnitRun.at {rs l : List (List Int)} {c d n N : Nat} (h : UnitRun rs l c d n N) (e : Headed rs n N) {i : Nat} (hdi : d ≤ i) (hi : i < n) (h0 : ent l i c ≠ 0) : i = c ∧ ent l i c = 1 := by
 obtain ⟨h1, h2⟩ := h e;have hc : c < n := by omega
 rw [h2 i hi c, e.2.1 i hi c hc] at h0 ⊢;by_cases d : c = i
 ·rw [if_pos d]; exact ⟨d.symm, rfl⟩
 ·rw [if_neg d] at h0; exact absurd rfl h0
theorem UnitRun.small {rs l : List (List Int)} {c d n N : Nat} (h : UnitRun rs l c d n N) (e : Headed rs n N) (hl : l.length = n) (i j : Nat) : (ent l i j).natAbs ≤ 1 := by
 by_cases hi : i < n
 ·rw [(h e).2 i hi j]; exact e.2.2 i j
 ·rw [ent_out (by omega)]; simp
structure HBase (rs l : List (List Int)) (c d n N : Nat) (pf : Nat → Nat) (aF bF : Nat → Nat) : Prop where
 st : HState rs l c d pf
 len : l.length = n
 lens : ∀ i, i < n → (l.getD i []).length = N
 up : ∀ i, d ≤ i → ∀ j, (ent l i j).natAbs < Bp (aF d)
 lo : ∀ i, i < d → ∀ j, (ent l i j).natAbs < Bp (bF d)
 un : UnitRun rs l c d n N
structure HTurn (rs l : List (List Int)) (c d n N : Nat) (pf : Nat → Nat) (aF bF : Nat → Nat) (Φ A P v p : Nat) : Prop where
 st : HState rs l c d pf
 len : l.length = n
 lens : ∀ i, i < n → (l.getD i []).length = N
 lo : ∀ i, i < d → ∀ j, (ent l i j).natAbs < Bp (bF d)
 dp : d ≤ p
 pn : p < n
 up : ∀ i, d ≤ i → ∀ j, (ent l i j).natAbs ≤ A
 upX : A < Bp (aF (d + 1))
 pl : ∀ i, d ≤ i → (ent l i c).natAbs ≤ P
 vp : (ent l p c).natAbs = v
 v0 : 0 < v
 vP : v ≤ P
 pot : A * P * (P + v) ≤ Φ
 big : d + 1 < n → 2 * Φ < Bp (aF (d + 1))
 least : ∀ i, d ≤ i → i < n → ent l i c ≠ 0 → v ≤ (ent l i c).natAbs
 un : UnitRun rs l c d n N
structure HInner (rs l : List (List Int)) (c d n N : Nat) (pf : Nat → Nat) (aF bF : Nat → Nat) (Φ A P v p i : Nat) (m : Bool) : Prop where
 st : HState rs l c d pf
 len : l.length = n
 lens : ∀ i, i < n → (l.getD i []).length = N
 lo : ∀ i, i < d → ∀ j, (ent l i j).natAbs < Bp (bF d)
 dp : d ≤ p
 pn : p < n
 upA : ∀ t, d ≤ t → ∀ j, (ent l t j).natAbs ≤ A + P / v * A
 up : ∀ t, d ≤ t → ∀ j, (ent l t j).natAbs < Bp (aF (d + 1))
 rowp : ∀ j, (ent l p j).natAbs ≤ A
 vp : (ent l p c).natAbs = v
 v0 : 0 < v
 vP : v ≤ P
 za : ∀ t, d ≤ t → i ≤ t → (∀ j, (ent l t j).natAbs ≤ A) ∧ (ent l t c).natAbs ≤ P ∧ (t < n → ent l t c ≠ 0 → v ≤ (ent l t c).natAbs)
 before : ∀ t, d ≤ t → t < i → t ≠ p → (ent l t c).natAbs < v ∧ (ent l t c ≠ 0 → v + (ent l t c).natAbs ≤ P)
 more : m = true ↔ ∃ t, d ≤ t ∧ t < i ∧ t ≠ p ∧ ent l t c ≠ 0
 pot : A * P * (P + v) ≤ Φ
 big : d + 1 < n → 2 * Φ < Bp (aF (d + 1))
 un : UnitRun rs l c d n N
theorem HTurn.inner {rs l : List (List Int)} {c d n N : Nat} {pf aF bF : Nat → Nat} {Φ A P v p : Nat} (h : HTurn rs l c d n N pf aF bF Φ A P v p) : HInner rs l c d n N pf aF bF Φ A P v p d false :=
 ⟨h.st, h.len, h.lens, h.lo, h.dp, h.pn, fun t ht j => Nat.le_trans (h.up t ht j) (Nat.le_add_right _ _), fun t ht j => Nat.lt_of_le_of_lt (h.up t ht j) h.upX, h.up p h.dp, h.vp, h.v0, h.vP, fun t h1 _ => ⟨h.up t h1, h.pl t h1, h.least t h1⟩, fun t h1 h2 => absurd h1 (by omega), by simp; intro t h1 h2; omega, h.pot, h.big, h.un⟩
theorem HInner.skip {rs l : List (List Int)} {c d n N : Nat} {pf aF bF : Nat → Nat} {Φ A P v p i : Nat} {m : Bool} (h : HInner rs l c d n N pf aF bF Φ A P v p i m) (hs : i = p ∨ ent l i c = 0) : HInner rs l c d n N pf aF bF Φ A P v p (i + 1) m := by
 have hv := h.v0;refine ⟨h.st, h.len, h.lens, h.lo, h.dp, h.pn, h.upA, h.up, h.rowp, h.vp, h.v0, h.vP, fun t h1 h2 => h.za t h1 (by omega), fun t h1 h2 h3 => ?_, ?_, h.pot, h.big, h.un⟩
 ·by_cases e : t = i
  ·rcases hs with f | f
   ·omega
   ·subst e; rw [f]; exact ⟨by simpa using hv, fun e => absurd rfl e⟩
  ·exact h.before t h1 (by omega) h3
 ·rw [h.more]
  constructor
  ·rintro ⟨t, h1, h2, h3, h4⟩; exact ⟨t, h1, by omega, h3, h4⟩
  ·rintro ⟨t, h1, h2, h3, h4⟩;by_cases e : t = i
   ·rcases hs with f | f
    ·omega
    ·subst e; exact absurd f h4
   ·exact ⟨t, h1, by omega, h3, h4⟩
theorem HInner.grown {rs l : List (List Int)} {c d n N : Nat} {pf aF bF : Nat → Nat} {Φ A P v p i : Nat} {m : Bool} (h : HInner rs l c d n N pf aF bF Φ A P v p i m) (hd : d + 1 < n) : A + P / v * A < Bp (aF (d + 1)) := by
 have h1 := grow_le (A := A) h.v0 h.vP;have h2 := pot_three (A := A) (P := P) (v := v) (Nat.lt_of_lt_of_le h.v0 h.vP);have h3 := h.pot;have h4 := h.big hd;omega
theorem HInner.step {rs l : List (List Int)} {c d n N : Nat} {pf aF bF : Nat → Nat} {Φ A P v p i : Nat} {m : Bool} (h : HInner rs l c d n N pf aF bF Φ A P v p i m) (hi : i < n) (hdi : d ≤ i) (hip : i ≠ p) (h0 : ent l i c ≠ 0) {r : List Int} (hr : ∀ j, r.getD j 0 = ent l i j - (ent l i c).tdiv (ent l p c) * ent l p j) (hl : r.length = N) : HInner rs (l.set i r) c d n N pf aF bF Φ A P v p (i + 1) (m || decide (r.getD c 0 ≠ 0)) := by
 have hv := h.v0;have hil : i < l.length := by rw [h.len]; exact hi
 have hdn : d + 1 < n := by have := h.dp; have := h.pn; omega
 have hpc : ent l p c ≠ 0 := fun e => by have := h.vp; rw [e] at this; simp at this; omega
 obtain ⟨l1, l2, l3⟩ := h.za i hdi (Nat.le_refl _);have hq : ((ent l i c).tdiv (ent l p c)).natAbs * v ≤ P := by rw [← h.vp]; exact quo_le l2
 have hb : ∀ j, (r.getD j 0).natAbs ≤ A + P / v * A := fun j => by rw [hr]; exact grow_one (l1 j) (h.rowp j) hq hv
 have hrc : r.getD c 0 = (ent l i c).tmod (ent l p c) := by rw [hr]; exact quo_rest _ _
 have hlt : (r.getD c 0).natAbs < v := by rw [hrc, ← h.vp]; exact rest_lt hpc
 have hsum : v + (r.getD c 0).natAbs ≤ P := by
  have := rest_sum (x := ent l i c) hpc (by rw [h.vp]; exact l3 hi h0);rw [h.vp, ← hrc] at this;omega
 have hX := h.grown hdn;refine ⟨h.st.sub hil hdi h.dp (Ne.symm hip) hr, by rw [List.length_set]; exact h.len, set_len_all h.lens hil hl, fun t ht j => ?_, h.dp, h.pn, fun t ht j => ?_, fun t ht j => ?_, fun j => ?_, ?_, h.v0, h.vP, fun t h1 h2 => ?_, fun t h1 h2 h3 => ?_, ?_, h.pot, h.big, fun e1 => absurd ((h.un.at e1 hdi hi h0).1.trans (h.un.at e1 h.dp h.pn hpc).1.symm) hip⟩
 ·rw [ent_other hil (by omega)]; exact h.lo t ht j
 ·by_cases e : t = i
  ·subst e; rw [ent_same hil]; exact hb j
  ·rw [ent_other hil e]; exact h.upA t ht j
 ·by_cases e : t = i
  ·subst e; rw [ent_same hil]; exact Nat.lt_of_le_of_lt (hb j) hX
  ·rw [ent_other hil e]; exact h.up t ht j
 ·rw [ent_other hil (Ne.symm hip)]; exact h.rowp j
 ·rw [ent_other hil (Ne.symm hip)]; exact h.vp
 ·have e : t ≠ i := by omega
  have := h.za t h1 (by omega);refine ⟨fun j => ?_, ?_, ?_⟩
  ·rw [ent_other hil e]; exact this.1 j
  ·rw [ent_other hil e]; exact this.2.1
  ·rw [ent_other hil e]; exact this.2.2
 ·by_cases e : t = i
  ·subst e; rw [ent_same hil]; exact ⟨hlt, fun _ => hsum⟩
  ·rw [ent_other hil e]; exact h.before t h1 (by omega) h3
 ·rw [Bool.or_eq_true, h.more, decide_eq_true_iff]
  constructor
  ·rintro (⟨t, h1, h2, h3, h4⟩ | hr0)
   ·exact ⟨t, h1, by omega, h3, by rw [ent_other hil (by omega)]; exact h4⟩
   ·exact ⟨i, hdi, by omega, hip, by rw [ent_same hil]; exact hr0⟩
  ·rintro ⟨t, h1, h2, h3, h4⟩;by_cases e : t = i
   ·subst e; rw [ent_same hil] at h4; exact Or.inr h4
   ·rw [ent_other hil e] at h4; exact Or.inl ⟨t, h1, by omega, h3, h4⟩
theorem HInner.next {rs l : List (List Int)} {c d n N : Nat} {pf aF bF : Nat → Nat} {Φ A P v p : Nat} (h : HInner rs l c d n N pf aF bF Φ A P v p n true) {z : Int} (hz : LeastIn l d c n z) : ∃ (p' v' : Nat), z = (p' : Int) ∧ v' < v ∧ HTurn rs l c d n N pf aF bF Φ (A + P / v * A) v v' p' := by
 obtain ⟨t, h1, h2, h3, h4⟩ := h.more.1 rfl;have hdn : d + 1 < n := by have := h.dp; have := h.pn; omega
 rcases hz with ⟨_, h0⟩ | ⟨p', e1, q1, q2, q3, q4⟩
 ·exact absurd (h0 t h1 h2) h4
 ·have ht := q4 t h1 h2 h4;have htv := (h.before t h1 h2 h3).1;have hpp : p' ≠ p := fun e => by rw [e, h.vp] at ht; omega
  obtain ⟨w1, w2⟩ := h.before p' q1 q2 hpp;refine ⟨p', (ent l p' c).natAbs, e1, w1, h.st, h.len, h.lens, h.lo, q1, q2, h.upA, h.grown hdn, fun i hi => ?_, rfl, by omega, by omega, ?_, h.big, fun i h1 h2 h3 => q4 i h1 h2 h3, h.un⟩
  ·by_cases e : i = p
   ·rw [e, h.vp]; exact Nat.le_refl _
   ·by_cases f : i < n
    ·have := (h.before i hi f e).1; omega
    ·rw [ent_out (by rw [h.len]; omega)]; simp
  ·have := grow_three (A := A) (A' := A + P / v * A) (P := P) (v := v) (v' := (ent l p' c).natAbs) grow_all (w2 q3);have := h.pot;omega
structure HStop (rs l : List (List Int)) (c d n N : Nat) (pf : Nat → Nat) (aF bF : Nat → Nat) (p : Nat) : Prop where
 st : HState rs l c d pf
 len : l.length = n
 lens : ∀ i, i < n → (l.getD i []).length = N
 lo : ∀ i, i < d → ∀ j, (ent l i j).natAbs < Bp (bF d)
 dp : d ≤ p
 pn : p < n
 up : ∀ i, d ≤ i → ∀ j, (ent l i j).natAbs < Bp (aF (d + 1))
 only : ∀ i, d ≤ i → i ≠ p → ent l i c = 0
 not0 : ent l p c ≠ 0
 un : UnitRun rs l c d n N
theorem HInner.stop {rs l : List (List Int)} {c d n N : Nat} {pf aF bF : Nat → Nat} {Φ A P v p : Nat} (h : HInner rs l c d n N pf aF bF Φ A P v p n false) {z : Int} (hz : LeastIn l d c n z) : z = (p : Int) ∧ HStop rs l c d n N pf aF bF p := by
 have hpc : ent l p c ≠ 0 := fun e => by have := h.vp; have := h.v0; rw [e] at *; simp at *; omega
 have only : ∀ i, d ≤ i → i ≠ p → ent l i c = 0 := fun i h1 h2 => by
  by_cases f : i < n
  ·by_cases e : ent l i c = 0
   ·exact e
   ·have := h.more.2 ⟨i, h1, f, h2, e⟩; simp at this
  ·exact ent_out (by rw [h.len]; omega)
 refine ⟨?_, h.st, h.len, h.lens, h.lo, h.dp, h.pn, h.up, only, hpc, h.un⟩;rcases hz with ⟨_, h0⟩ | ⟨p', e1, q1, q2, q3, _⟩
 ·exact absurd (h0 p h.dp h.pn) hpc
 ·by_cases e : p' = p
  ·rw [e1, e]
  ·exact absurd (only p' q1 e) q3
theorem HBase.turn {rs l : List (List Int)} {c d n N p : Nat} {pf aF bF : Nat → Nat} (h : HBase rs l c d n N pf aF bF) (hg : Grows rs n N aF bF) (hz : LeastIn l d c n (p : Int)) : ∃ Φ A P v, HTurn rs l c d n N pf aF bF Φ A P v p := by
 rcases hz with ⟨e, _⟩ | ⟨p', e1, q1, q2, q3, q4⟩
 ·omega
 ·obtain rfl : p = p' := by omega
  rcases hg.run with ⟨hg3, _⟩ | ⟨e1, e3⟩
  ·obtain ⟨A, hA⟩ : ∃ A, A + 1 = Bp (aF d) := ⟨Bp (aF d) - 1, by have := Bp_pos (aF d); omega⟩;have hle : ∀ i, d ≤ i → ∀ j, (ent l i j).natAbs ≤ A := fun i hi j => by have := h.up i hi j; omega
   have hv := hle p q1 c;refine ⟨A * A * (A + A), A, A, _, h.st, h.len, h.lens, h.lo, q1, q2, hle, ?_, fun i hi => hle i hi c, rfl, by omega, hv, Nat.mul_le_mul_left _ (Nat.add_le_add_left hv _), fun hd => ?_, q4, h.un⟩
   ·have := Bp_le (hg.mono d); omega
   ·have h1 := bp_three (A := A) (a := aF d) (by omega);have h2 := Bp_le (hg3 d hd);omega
  ·have hle := h.un.small e1 h.len;have hB : 4 < Bp (aF (d + 1)) := Nat.lt_of_lt_of_le (show 4 < Bp 1 by unfold Bp; decide) (Bp_le (e3 (d + 1)).1);have hv := hle p c;exact ⟨2, 1, 1, _, h.st, h.len, h.lens, h.lo, q1, q2, fun i _ j => hle i j, by omega, fun i _ => hle i c, rfl, by omega, hv, by omega, fun _ => hB, q4, h.un⟩
theorem HBase.none {rs l : List (List Int)} {c d n N : Nat} {pf aF bF : Nat → Nat} (h : HBase rs l c d n N pf aF bF) (_ : c < N) {z : Int} (hz : LeastIn l d c n z) (h0 : z < 0) : HBase rs l (c + 1) d n N pf aF bF := by
 rcases hz with ⟨_, hz⟩ | ⟨p', e1, _⟩
 ·refine ⟨h.st.skip fun i hi => ?_, h.len, h.lens, h.up, h.lo, fun e1 => ?_⟩
  ·by_cases f : i < n
   ·exact hz i hi f
   ·exact ent_out (by rw [h.len]; omega)
  ·obtain ⟨hd, hu⟩ := h.un e1;refine ⟨?_, hu⟩;by_cases hcn : c < n
   ·have h1 := hz c (by omega) hcn;rw [hu c hcn c, e1.2.1 c hcn c hcn, if_pos rfl] at h1;exact absurd h1 (by decide)
   ·omega
 ·omega
structure HLow (rs l : List (List Int)) (c d n N : Nat) (pf : Nat → Nat) (aF bF : Nat → Nat) (i : Nat) : Prop where
 st : HState rs l c d pf
 len : l.length = n
 lens : ∀ i, i < n → (l.getD i []).length = N
 dn : d < n
 up : ∀ i, d ≤ i → ∀ j, (ent l i j).natAbs < Bp (aF (d + 1))
 pos : 0 < ent l d c
 zero : ∀ t, d < t → ent l t c = 0
 low : ∀ t, t < i → 0 ≤ ent l t c ∧ ent l t c < ent l d c
 lo1 : ∀ t, i ≤ t → t < d → ∀ j, (ent l t j).natAbs < Bp (bF d)
 lo2 : ∀ t, t < i → ∀ j, (ent l t j).natAbs < Bp (bF (d + 1))
 un : UnitRun rs l c d n N
theorem HStop.swap {rs l : List (List Int)} {c d n N p : Nat} {pf aF bF : Nat → Nat} (h : HStop rs l c d n N pf aF bF p) : HStop rs (swapL l d p) c d n N pf aF bF d := by
 have hdl : d < l.length := by have := h.dp; have := h.pn; rw [h.len]; omega
 have hpl : p < l.length := by rw [h.len]; exact h.pn
 refine ⟨h.st.swap hdl hpl (Nat.le_refl _) h.dp, by rw [swapL_len]; exact h.len, ?_, fun t ht j => ?_, Nat.le_refl _, by have := h.len; omega, fun t ht j => ?_, fun t ht hne => ?_, ?_, fun e1 => ?_⟩
 ·unfold swapL;exact set_len_all (set_len_all h.lens hdl (h.lens p h.pn)) (by rw [List.length_set]; exact hpl) (h.lens d (by have := h.len; omega))
 ·have := h.dp;rw [ent_swap hdl hpl, if_neg (by omega), if_neg (by omega)]; exact h.lo t ht j
 ·rw [ent_swap hdl hpl]
  split
  ·exact h.up d (Nat.le_refl _) j
  ·split
   ·exact h.up p h.dp j
   ·exact h.up t ht j
 ·rw [ent_swap hdl hpl]
  split
  ·rename_i e
   exact h.only d (Nat.le_refl _) (by omega)
  ·rename_i e
   exact h.only t ht e
 ·rw [ent_swap hdl hpl]
  split
  ·rename_i e; rw [e]; exact h.not0
  ·rw [if_pos rfl]; exact h.not0
 ·obtain ⟨hd, hu⟩ := h.un e1;have hpc := (h.un.at e1 h.dp h.pn h.not0).1;have hpd : p = d := by have := h.pn; omega
  subst hpd;refine ⟨hd, fun i hi j => ?_⟩;rw [ent_swap hdl hpl]
  split
  ·rename_i e; rw [e]; exact hu p h.pn j
  ·exact hu i hi j
theorem HStop.neg {rs l : List (List Int)} {c d n N : Nat} {pf aF bF : Nat → Nat} (h : HStop rs l c d n N pf aF bF d) (hneg : ent l d c < 0) : HStop rs (l.set d (vneg (l.getD d []))) c d n N pf aF bF d ∧ ent (l.set d (vneg (l.getD d []))) d c = -ent l d c := by
 have hdl : d < l.length := by rw [h.len]; exact h.pn
 have he : ∀ j, (vneg (l.getD d [])).getD j 0 = -ent l d j := fun j => by rw [vneg_at]; rfl
 refine ⟨⟨h.st.neg hdl (Nat.le_refl _) he, by rw [List.length_set]; exact h.len, set_len_all h.lens hdl (by rw [vneg_len]; exact h.lens d h.pn), fun t ht j => ?_, Nat.le_refl _, h.pn, fun t ht j => ?_, fun t ht hne => ?_, ?_, fun e1 => ?_⟩, by rw [ent_same hdl, he]⟩
 ·rw [ent_other hdl (by omega)]; exact h.lo t ht j
 ·by_cases e : t = d
  ·subst e; rw [ent_same hdl, he, Int.natAbs_neg]; exact h.up t ht j
  ·rw [ent_other hdl e]; exact h.up t ht j
 ·rw [ent_other hdl hne]; exact h.only t ht hne
 ·rw [ent_same hdl, he];have := h.not0;omega
 ·have := (h.un.at e1 (Nat.le_refl _) h.pn h.not0).2;omega
theorem HStop.low {rs l : List (List Int)} {c d n N : Nat} {pf aF bF : Nat → Nat} (h : HStop rs l c d n N pf aF bF d) (hp : 0 < ent l d c) : HLow rs l c d n N pf aF bF 0 :=
 ⟨h.st, h.len, h.lens, h.pn, h.up, hp, fun t ht => h.only t (by omega) (by omega), fun t ht => absurd ht (by omega), fun t _ ht => h.lo t ht, fun t ht => absurd ht (by omega), h.un⟩
theorem ediv_abs {x y : Int} (_hy : 0 < y) : (x / y).natAbs ≤ x.natAbs := by
 have h1 := Int.natAbs_ediv_le_natAbs x y;omega
theorem HLow.step {rs l : List (List Int)} {c d n N i : Nat} {pf aF bF : Nat → Nat} (h : HLow rs l c d n N pf aF bF i) (hg : Grows rs n N aF bF) (hi : i < d) {r : List Int} (hr : ∀ j, r.getD j 0 = ent l i j - ent l i c / ent l d c * ent l d j) (hl : r.length = N) : HLow rs (l.set i r) c d n N pf aF bF (i + 1) := by
 have hil : i < l.length := by have := h.dn; rw [h.len]; omega
 have hpos := h.pos;have hun : Headed rs n N → ∀ j, r.getD j 0 = ent l i j := fun e1 j => by
  obtain ⟨hd, hu⟩ := h.un e1;have hdn := h.dn;have h1 := hu i (by omega) c;rw [e1.2.1 i (by omega) c (by omega), if_neg (by omega)] at h1;rw [hr, h1, Int.zero_ediv, Int.zero_mul, Int.sub_zero]
 have hb : ∀ j, (r.getD j 0).natAbs < Bp (bF (d + 1)) := fun j => by
  rcases hg.run with ⟨_, hg2⟩ | ⟨e1, e3⟩
  rotate_left
  ·rw [hun e1 j];have h1 := h.un.small e1 h.len i j;have h2 := Bp_le (Nat.le_trans (e3 (d + 1)).1 (e3 (d + 1)).2);have h3 : 4 < Bp 1 := by unfold Bp; decide
   omega
  rw [hr];have h1 := h.lo1 i (Nat.le_refl _) hi j;have h2 := h.lo1 i (Nat.le_refl _) hi c;have h3 := h.up d (Nat.le_refl _) j;have h4 := ediv_abs (x := ent l i c) hpos;have h5 : (ent l i c / ent l d c * ent l d j).natAbs ≤ Bp (bF d) * Bp (aF (d + 1)) := by rw [Int.natAbs_mul]; exact Nat.mul_le_mul (by omega) (by omega)
  have h6 : Bp (bF d + aF (d + 1) + 1) = Bp (bF d) * Bp (aF (d + 1)) * 4294967296 := by
   rw [bp_add, bp_add];have : Bp 1 = 4294967296 := by unfold Bp; decide
   rw [this]
  have h7 := Bp_le (hg2 d);have h8 : Bp (bF d) * 1 ≤ Bp (bF d) * Bp (aF (d + 1)) := Nat.mul_le_mul_left _ (Bp_pos _);generalize Bp (bF d) * Bp (aF (d + 1)) = X at *;omega
 refine ⟨h.st.low hi hr, by rw [List.length_set]; exact h.len, set_len_all h.lens hil hl, h.dn, fun t ht j => ?_, ?_, fun t ht => ?_, fun t ht => ?_, fun t h1 h2 j => ?_, fun t ht j => ?_, fun e1 => ⟨(h.un e1).1, fun t ht j => ?_⟩⟩
 ·rw [ent_other hil (by omega)]; exact h.up t ht j
 ·rw [ent_other hil (by omega)]; exact hpos
 ·rw [ent_other hil (by omega)]; exact h.zero t ht
 ·rw [ent_other hil (show d ≠ i by omega)];by_cases e : t = i
  ·subst e;rw [ent_same hil, hr];have h1 := Int.emod_nonneg (ent l t c) (show ent l d c ≠ 0 by omega);have h2 := Int.emod_lt_of_pos (ent l t c) hpos;have h3 := Int.mul_ediv_add_emod (ent l t c) (ent l d c);rw [Int.mul_comm] at h3;omega
  ·rw [ent_other hil e]; exact h.low t (by omega)
 ·rw [ent_other hil (by omega)]; exact h.lo1 t (by omega) h2 j
 ·by_cases e : t = i
  ·subst e; rw [ent_same hil]; exact hb j
  ·rw [ent_other hil e]; exact h.lo2 t (by omega) j
 ·by_cases e : t = i
  ·subst e; rw [ent_same hil, hun e1]; exact (h.un e1).2 t ht j
  ·rw [ent_other hil e]; exact (h.un e1).2 t ht j
theorem HLow.done {rs l : List (List Int)} {c d n N : Nat} {pf aF bF : Nat → Nat} (h : HLow rs l c d n N pf aF bF d) (hg : Grows rs n N aF bF) : HBase rs l (c + 1) (d + 1) n N (fun i => if i = d then c else pf i) aF bF := by
 refine ⟨h.st.next (by rw [h.len]; exact h.dn) h.pos h.zero h.low, h.len, h.lens, fun t ht j => h.up t (by omega) j, fun t ht j => ?_, fun e1 => ⟨by have := (h.un e1).1; have := h.dn; omega, (h.un e1).2⟩⟩;by_cases e : t = d
 ·subst e;refine Nat.lt_of_lt_of_le (h.up t (Nat.le_refl _) j) (Bp_le ?_);rcases hg.run with ⟨_, h2⟩ | ⟨_, h2⟩
  ·have := h2 t; omega
  ·exact (h2 (t + 1)).2
 ·exact h.lo2 t (by omega) j
theorem hbase_start {rs : List (List Int)} {n N : Nat} {aF bF : Nat → Nat} (hl : rs.length = n) (hN : ∀ i, i < n → (rs.getD i []).length = N) (hb : ∀ i j, (ent rs i j).natAbs < Bp (aF 0)) : HBase rs rs 0 0 n N (fun i => i) aF bF := ⟨hstate_start rs _, hl, hN, fun i _ j => hb i j, fun i hi => absurd hi (by omega), fun _ => ⟨by omega, fun _ _ _ => rfl⟩⟩
theorem HBase.done {rs l : List (List Int)} {d n N : Nat} {pf aF bF : Nat → Nat} (h : HBase rs l N d n N pf aF bF) : HForm (l.take d) pf ∧ SameL rs (l.take d) := h.st.done fun r hr => by
 obtain ⟨i, hi, e⟩ := List.getElem_of_mem hr;have := h.lens i (by rw [← h.len]; exact hi);rw [show l.getD i [] = l[i] by simp [List.getD, hi], e] at this;omega
def aS (a n : Nat) : Nat → Nat
 | 0 => a
 | d + 1 => if d + 1 < n then 3 * aS a n d + 1 else aS a n d
def bS (a n : Nat) : Nat → Nat
 | 0 => 0
 | d + 1 => bS a n d + aS a n (d + 1) + 1
theorem grows_of (rs : List (List Int)) (a n N : Nat) : Grows rs n N (aS a n) (bS a n) := by
 refine ⟨fun d => ?_, Or.inl ⟨fun d hd => ?_, fun d => Nat.le_refl _⟩⟩
 ·rw [aS]; split <;> omega
 ·rw [aS, if_pos hd]; omega
theorem small_aS {n : Nat} (hn : n ≤ 6) : ∀ d, d ≤ n → aS 3 n d ≤ 222000 := by
 have h : ∀ n, n < 7 → ∀ d, d < n + 1 → aS 3 n d ≤ 222000 := by decide
 intro d hd;exact h n (by omega) d (by omega)
theorem small_bS {n : Nat} (hn : n ≤ 6) : ∀ d, d ≤ n → bS 3 n d ≤ 222000 := by
 have h : ∀ n, n < 7 → ∀ d, d < n + 1 → bS 3 n d ≤ 222000 := by decide
 intro d hd;exact h n (by omega) d (by omega)

/-
 Rows that the reference's elimination itself made; how its rounds end.
-/

theorem sk_grownH {w w' : World} {b : Bool} {ao : Option Addr} {len cap k : Nat} {z : Int} {row : Option Nat} (h : SK w b ao len cap z k) (hg : w.grownBy w' row) (hn : ∀ g, row = some g → NoLimb w g) : SK w' b ao len cap z k := ⟨h.1.grown hg hn, h.2⟩
theorem steadyVH (k : Nat) : SteadyV (fun w a l c zs => VS w a l c zs k) := fun h hg hs => vecOf_kept (R := fun w b a l c z => SK w b a l c z k) (fun h hg hn => sk_grownH h hg hn) h hg hs
def RO (w : World) (base : Nat) (ao : Option Addr) (n cap : Nat) (l : List (List Int)) : Prop := MOwn (fun w a l c zs => VS w a l c zs 222000) w base ao n cap l
theorem RO.za {w w' : World} {base : Nat} {ao : Option Addr} {n cap : Nat} {l : List (List Int)} (h : RO w base ao n cap l) (hb : Below w.heap.size w w') : RO w' base ao n cap l := MOwn.za (R := fun w a l c zs => VS w a l c zs 222000) (fun h hb => VS.za h hb) h hb
theorem RO.rows {w : World} {base : Nat} {ao : Option Addr} {n cap : Nat} {l : List (List Int)} (h : RO w base ao n cap l) : MS w ao n cap l 222000 := MOwn.rows (R := fun w a l c zs => VS w a l c zs 222000) h
theorem RO.mk {w : World} {base : Nat} {ao : Option Addr} {n cap : Nat} {l : List (List Int)} (h : RO w base ao n cap l) : MK w ao n cap l 222000 := h.rows.mk
theorem RO.len {w : World} {base : Nat} {ao : Option Addr} {n cap : Nat} {l : List (List Int)} (h : RO w base ao n cap l) : l.length = n := MOwn.len (R := fun w a l c zs => VS w a l c zs 222000) h
theorem RO.free {w : World} {base g n cap : Nat} {l : List (List Int)} (h : RO w base (some ⟨g, 0, none⟩) n cap l) (j : Nat) : w.frozen? ⟨g, j, none⟩ = false := MOwn.free (R := fun w a l c zs => VS w a l c zs 222000) h j
theorem RO.base_le {w : World} {base g n cap : Nat} {l : List (List Int)} (h : RO w base (some ⟨g, 0, none⟩) n cap l) : base ≤ g ∧ g < w.heap.size := MOwn.base_le (R := fun w a l c zs => VS w a l c zs 222000) h
theorem RO.at {w : World} {base g n cap : Nat} {l : List (List Int)} (h : RO w base (some ⟨g, 0, none⟩) n cap l) {i : Nat} (hi : i < n) : ∃ a m c, w.cell? ⟨g, i, none⟩ = some (.slice a m c) ∧ VS w a m c (l.getD i []) 222000 := by
 obtain ⟨_, a, m, c, h1, h2⟩ := RowsOf.at (R := fun w a l c zs => VS w a l c zs 222000) h.rows hi;rw [Nat.zero_add] at h1;exact ⟨a, m, c, h1, h2⟩
theorem RO.addr {w : World} {base : Nat} {ao : Option Addr} {n cap : Nat} {l : List (List Int)} (h : RO w base ao n cap l) (hn : 0 < n) : ∃ g, ao = some ⟨g, 0, none⟩ := by
 obtain ⟨⟨vs, hrow, _⟩, _⟩ := h;rcases hrow.own.2 with ⟨e, e0⟩ | ⟨g, c, cur, e, _⟩
 ·omega
 ·simp only [Value.slice.injEq, true_and] at e;exact ⟨g, e.1⟩
theorem ro_set {w : World} {base g n cap : Nat} {l : List (List Int)} (h : RO w base (some ⟨g, 0, none⟩) n cap l) {i : Nat} (hi : i < n) {a : Option Addr} {m c : Nat} {zs : List Int} (hz : VS w a m c zs 222000) : RO (w.setCell ⟨g, i, none⟩ (.slice a m c)) base (some ⟨g, 0, none⟩) n cap (l.set i zs) := MOwn.set (R := fun w a l c zs => VS w a l c zs 222000) (steadyVH 222000) h hi hz
theorem vs_after {w : World} {base g n cap : Nat} {l : List (List Int)} (h : RO w base (some ⟨g, 0, none⟩) n cap l) {i : Nat} {v : Value} {a : Option Addr} {m c : Nat} {zs : List Int} (hz : VS w a m c zs 222000) : VS (w.setCell ⟨g, i, none⟩ v) a m c zs 222000 := steadyVH 222000 hz (grown_set1 w g i v) (MOwn.onlySl (R := fun w a l c zs => VS w a l c zs 222000) h)
theorem ro_empty {w : World} {base n : Nat} (hn : n = w.heap.size) (hb : base ≤ w.heap.size) : RO (w.alloc (.cells #[] 39)) base (some ⟨n, 0, none⟩) 0 0 [] := by
 subst hn;refine ⟨⟨[], ⟨World.ownsRow_lit (size := 1) w #[] 0 hb (by unfold maxLen; omega) rfl, fun g hg j u hc => ?_⟩, fun i v h => by simp at h⟩, rfl⟩;simp only [Value.ownBlock, Option.some.injEq] at hg;subst hg;simp at hc
theorem RO.ge {w : World} {base : Nat} {ao : Option Addr} {n cap : Nat} {l : List (List Int)} (h : RO w base ao n cap l) : ∀ g, (Value.slice ao n cap).ownBlock = some g → base ≤ g := MOwn.ge (R := fun w a l c zs => VS w a l c zs 222000) h
theorem ms_upH {w : World} {ao : Option Addr} {n cap a b : Nat} {rs : List (List Int)} (h : MS w ao n cap rs a) (hab : a ≤ b) : MS w ao n cap rs b := RowsOf.imp (R := fun w c l d zs => VS w c l d zs a) h fun h => VecOf.mono h fun _ h => ⟨h.1.up hab, Nat.le_trans h.2 hab⟩
theorem ms_ent {w : World} {ao : Option Addr} {n cap k : Nat} {rs : List (List Int)} (h : MS w ao n cap rs k) (i j : Nat) : (ent rs i j).natAbs < Bp k := by
 have h0 := Bp_pos k;by_cases hi : i < n
 ·obtain ⟨g, off, rfl⟩ := h.mk.addr (by omega);obtain ⟨_, a, l, c, _, hv⟩ := RowsOf.at (R := fun w a l c zs => VS w a l c zs k) h hi;by_cases hj : j < l
  ·exact hv.vk.lt hj
  ·have e : ent rs i j = 0 := by
    unfold ent;rw [List.getD_eq_getElem?_getD, List.getElem?_eq_none (by rw [hv.vk.len_eq]; omega)]; rfl
   rw [e]; simpa using h0
 ·rw [ent_out (by rw [h.len_eq]; omega)];simpa using h0
theorem VS.lt {w : World} {ao : Option Addr} {n cap k : Nat} {zs : List Int} (h : VS w ao n cap zs k) {i : Nat} (hi : i < n) : (zs.getD i 0).natAbs < Bp k := h.vk.lt hi
def Rnd (rs l : List (List Int)) (c d n N : Nat) (pf : Nat → Nat) (aF bF : Nat → Nat) (z : Int) (b : Bool) (v : Nat) : Prop := (b = false ∧ z < 0 ∧ HBase rs l (c + 1) d n N pf aF bF) ∨ (b = false ∧ ∃ p : Nat, z = (p : Int) ∧ HStop rs l c d n N pf aF bF p) ∨ (b = true ∧ ∃ (p Φ A P : Nat), z = (p : Int) ∧ HTurn rs l c d n N pf aF bF Φ A P v p)
theorem HBase.rnd {rs l : List (List Int)} {c d n N : Nat} {pf aF bF : Nat → Nat} (h : HBase rs l c d n N pf aF bF) (hc : c < N) (hg : Grows rs n N aF bF) {z : Int} (hz : LeastIn l d c n z) : Rnd rs l c d n N pf aF bF z (decide (0 ≤ z)) (ent l z.toNat c).natAbs := by
 by_cases h0 : z < 0
 ·exact Or.inl ⟨decide_eq_false (by omega), h0, h.none hc hz h0⟩
 ·obtain ⟨p, rfl⟩ : ∃ p : Nat, z = (p : Int) := ⟨z.toNat, by omega⟩;obtain ⟨Φ, A, P, v, ht⟩ := h.turn hg hz;refine Or.inr (Or.inr ⟨decide_eq_true (by omega), p, Φ, A, P, rfl, ?_⟩);have e := ht.vp;rw [Int.toNat_natCast, e];exact ht
theorem HInner.rnd {rs l : List (List Int)} {c d n N : Nat} {pf aF bF : Nat → Nat} {Φ A P v p : Nat} {b : Bool} (h : HInner rs l c d n N pf aF bF Φ A P v p n b) {z : Int} (hz : LeastIn l d c n z) : ∃ v', Rnd rs l c d n N pf aF bF z b v' ∧ v' < v := by
 cases b with
 | false =>
  obtain ⟨e, hs⟩ := h.stop hz;exact ⟨0, Or.inr (Or.inl ⟨rfl, p, e, hs⟩), h.v0⟩
 | true =>
  obtain ⟨p', v', e, hlt, ht⟩ := h.next hz;exact ⟨v', Or.inr (Or.inr ⟨rfl, p', Φ, _, _, e, ht⟩), hlt⟩
end Go.Proofs.YtnpneloahajniaaGreat
