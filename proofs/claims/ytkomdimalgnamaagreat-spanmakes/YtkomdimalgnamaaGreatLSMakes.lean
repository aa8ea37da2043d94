/-
 The walk of SpanMakes: it tells true.
-/
import Derived.Test.YtkomdimalgnamaaGreatLSBase
import Derived.Test.YtkomdimalgnamaaGreatLSHeavy
import Derived.Test.YtkomdimalgnamaaGreatIRow8
import Derived.Test.YtkomdimalgnamaaGreatVAddF
namespace Go.Proofs.YtkomdimalgnamaaGreat
open Go.RowKit Lb
set_option maxRecDepth 20000

set_option maxRecDepth 40000 in
set_option maxHeartbeats 4000000 in
theorem spanMakes_walk (a0 : Option Addr) (len0 cap0 : Nat) (rs0 : List (List Int)) (m1 : Int) (a2 : Option Addr) (len2 cap2 : Nat) (zs2 : List Int) (a3 : Option Addr) (len3 cap3 : Nat) (zs3 : List Int) (w : World) (r0 : MI w a0 len0 cap0 rs0) (_r1 : (Lit.int .i64 m1).wf = true) (r2 : I8RowAt w a2 len2 cap2 zs2) (r3 : VI w a3 len3 cap3 zs3) :
  Calls Tryz.prog 5 #[.slice a0 len0 cap0, .int .i64 m1, .slice a2 len2 cap2, .slice a3 len3 cap3] w fun e w' => e = .returned (.bool true) ∧ Below w.heap.size w w' := by
 have hml2 := Nat.le_trans r2.cap_le r2.cap_max;unfold maxLen at hml2;go_enter Tryz.func5, Tryz.ntmps5
 go_wp2_with fail
 refine (heavyK a0 len0 cap0 rs0 4 9 _ r0 (by omega) (by omega)).mono ?_;rintro e w1 ⟨q, rfl, hq, hlt, hb1⟩;have HB := zh hb1;rcases hq with rfl | rfl
 ·obtain ⟨hn4, -, hms⟩ := hlt rfl;have HMS := zh hms;have hr3 := r3.za hb1;clear hms hlt hb1 r0 r3
  go_wp2_with fail
  refine (heavyOneK a3 len3 cap3 zs3 _ hr3).mono ?_;rintro e w2 ⟨q, rfl, hq, hlt, hb1⟩;rcases hq with rfl | rfl
  ·obtain ⟨-, hv3⟩ := hlt rfl;have hl0 := zu HMS w2 (Below.step (zu HB) hb1);replace HB := zh (Below.step (zu HB) hb1);clear hlt hb1 hr3 HMS;by_cases h8 : len2 ≤ 8
   ·have h8' : ¬ (8 : Int) < (len2 : Int) := by omega
    have h8b : decide ((8 : Int) < (len2 : Int)) = false := decide_eq_false h8'
    go_wp2_with fail
    refine (madeK a0 len0 cap0 rs0 m1 _ hl0 (by omega)).mono ?_;rintro e w3 ⟨a4, m, c4, N, p, hs, rfl, hN1, hN7, hm4, h4, hf, hl, -, hb1⟩;have HRM := zh (room_nat10 (show N ≤ 64 by omega));have HF := zh (And.intro hf hl);have HLN := zh h4.len_eq;replace hv3 := hv3.za hb1;replace HB := zh (Below.step (zu HB) hb1);clear hb1 hf hl hl0 h8' h8b
    go_wp2_with fail
    refine (vzeroK (N : Int) 40 _).mono ?_;rintro e w4 ⟨gx, rfl, hxo, hb1⟩;rw [zu HRM] at hxo ⊢;have hx0 := hxo.vf;have HX0 := zh (show ∀ j, (List.replicate N (0 : Int)).getD j 0 = sumN 0 fun t => ([] : List Int).getD t 0 * ent hs t j from fun j => zerosR_at N j);obtain ⟨X0, eX0⟩ : ∃ X0, X0 = List.replicate N (0 : Int) := ⟨_, rfl⟩;rw [← eX0] at hx0 HX0;replace hv3 := hv3.za hb1;replace h4 := h4.za hb1;replace HB := zh (Below.step (zu HB) hb1);clear hb1 hxo eX0
    go_wp2_with fail
    refine (rvcutK a3 len3 cap3 zs3 3 (N : Int) _ hv3.vk).mono ?_;rintro e w5 ⟨a5, c5, rfl, h5, hb1⟩;rw [zu HRM] at h5 ⊢;obtain ⟨u, eu⟩ : ∃ u, u = vcut zs3 N := ⟨_, rfl⟩;rw [← eu] at h5;replace h4 := h4.za hb1;replace hx0 := hx0.za hb1;replace HB := zh (Below.step (zu HB) hb1);clear hb1 hv3 eu;obtain ⟨W0, eW0⟩ : ∃ W0, W0 = w5 := ⟨_, rfl⟩;subst eW0
    go_wp2_with fail
    go_loopw [11, 13, 48] (fun s v t wr => ∃ (i : Nat) (ax : Option Addr) (cx : Nat) (xs : List Int) (aw : Option Addr) (cw : Nat) (ws : List Int), i ≤ m ∧ t = .int .i64 (i : Int) ∧ s = .slice ax N cx ∧ v = .slice aw i cw ∧ VF wr ax N cx xs (40 + i) ∧ OwnV wr W0.heap.size aw i cw ws 2 ∧ (∀ j, xs.getD j 0 = sumN i fun t => ws.getD t 0 * ent hs t j) ∧ (∀ g off, ax = some ⟨g, off, none⟩ → (Value.slice aw i cw).ownBlock ≠ some g) ∧ Below W0.heap.size W0 wr) (fun _ _ t _ => m - (intOf t).toNat)
    case atStart => exact ⟨0, _, _, X0, none, 0, [], Nat.zero_le _, rfl, rfl, rfl, hx0, ownV_nil _ _ _, zu HX0, fun g off e => by simp [Value.ownBlock], Below.refl _ _⟩
    case round =>
     clear hx0 HX0;obtain ⟨i, ax, cx, xs, aw, cw, ws, hi, rfl, rfl, rfl, hx, hw, hS, hdj, hC⟩ := hrel;have HC := zh hC;have HS := zh hS;have HDJ := zh hdj;clear hC hS hdj;by_cases hlt : i < m
     ·obtain ⟨g, off, rfl⟩ := h4.addr (by omega);obtain ⟨hg, a9, l9, c9, hc9, hv0⟩ := RowsOf.at (R := fun w a l c zs => VF w a l c zs 36) h4 hlt;have hl9 : N = l9 := by rw [← hv0.len_eq]; exact (rows_len (zu HF).2 i (by rw [zu HLN]; exact hlt)).symm
      subst hl9;have f2 := ((zu HC).cell (p := ⟨g, off + i, none⟩) hg).trans hc9;have hgr := Nat.lt_of_lt_of_le hg (zu HC).size;have hi0 : (0 : Int) ≤ (i : Int) := by omega
      have hi1 : (i : Int) < (m : Int) := by omega
      clear hc9 hg;by_cases hit : i < len2
      ·have hi2 : (i : Int) < (len2 : Int) := by omega
       obtain ⟨g8, o8, rfl⟩ := r2.addr (by omega);obtain ⟨hg8, hc8⟩ := r2.at hit;have hbb := Below.step (zu HB) (zu HC);have f3 := (hbb.cell (p := ⟨g8, o8 + i, none⟩) hg8).trans hc8;have hgr8 := Nat.lt_of_lt_of_le hg8 hbb.size;have hsm := r2.small i;obtain ⟨y, ey⟩ : ∃ y, y = zs2.getD i 0 := ⟨_, rfl⟩;rw [← ey] at f3 hsm;have hz1 : -128 ≤ y := hsm.1;have hz2 : y ≤ 127 := hsm.2;have hzw : IntKind.i64.wrap y = y := by rw [IntKind.wrap_i64]; omega
       clear hg8 hc8 hbb hsm ey
       go_wp2_with fail
       refine (rofK y _ (by omega) (by omega)).mono ?_;rintro e w7 ⟨b7, a7, l7, c7, rfl, h7, hb1⟩;replace hx := hx.za hb1;replace hw := hw.za hb1;replace HC := zh (Below.step (zu HC) hb1);clear hb1;obtain ⟨W8, hW8⟩ : ∃ W8, W8 = w7.alloc (.cells #[.bool b7, .slice a7 l7 c7] 44) := ⟨_, rfl⟩;obtain ⟨D5, hb1⟩ := boxes1 w7 b7 a7 l7 c7 hW8;replace hx := hx.za hb1;replace hw := hw.za hb1;replace h7 := h7.za hb1;replace HC := zh (Below.step (zu HC) hb1);clear hb1;have hE5 : EltAt W8 w7.heap.size 0 b7 a7 l7 c7 := ⟨D5.lt, D5.zb.1, D5.zb.2.1⟩;have hsz := (zu HC).size;clear D5;rw [hW8] at h7 hw hE5 hsz
       go_wp2_with (at_builtin; refine append_vec rfl (.tmp 62) (.tmp 65) 24 Tryz.underlying24 rfl W0.heap.size aw i cw 2 ws rfl hw (by omega) hsz w7.heap.size 0 1 b7 a7 l7 c7 y rfl hE5 h7 ?_)
       intro gn cn w9 hw2 hgr hat;rw [← hW8] at hgr hw hsz;have hblk := ownV_block hw;have hx2 := VF.grown hx hgr (fun g e => (hblk g e).2.2) (fun g off e => zu HDJ g off e);have HD := zh ((zu HC).grown hgr hsz (own_ge hw));have hv9 := hv0.za (zu HD);have hwl := hw.len;clear hW8 hgr hat hblk hx hw hE5 h7 HC
       go_wp2_with fail
       refine (rofK y _ (by omega) (by omega)).mono ?_;rintro e w10 ⟨b10, a10, l10, c10, rfl, h10, hb1⟩;replace hx2 := hx2.za hb1;replace hw2 := hw2.za hb1;replace hv9 := hv9.za hb1;replace HD := zh (Below.step (zu HD) hb1);clear hb1
       go_wp2_with fail
       refine (vtimesK _ N _ (hs.getD i []) 36 b10 a10 l10 c10 y 2 _ (hv9.vk (by omega)) (h10.ik (by omega)) (by omega)).mono ?_;rintro e w11 ⟨a11, c11, rfl, h11, hb1⟩;replace hx2 := hx2.za hb1;replace hw2 := hw2.za hb1;replace HD := zh (Below.step (zu HD) hb1);clear hb1 h10 hv9
       go_wp2_with fail
       refine (vaddF ax N cx xs (40 + i) a11 N c11 (vtimes (hs.getD i []) y) (36 + 2) _ (hx2.vk (by omega)) (h11.vk (by omega)) (by omega) (by omega) (by omega) (by omega)).mono ?_;rintro e w12 ⟨a12, c12, rfl, h12, hfr, hb1⟩;rw [Nat.max_self] at h12 ⊢;rw [show max (40 + i) (36 + 2) + 1 = 40 + (i + 1) by omega] at h12;have HDJ2 := zh (show ∀ g off, a12 = some ⟨g, off, none⟩ → (Value.slice (some ⟨gn, 0, none⟩) (i + 1) cn).ownBlock ≠ some g from fun g off e => by
        have h1 := hfr g off e;have h2 := hw2.base_le.2;simp only [Value.ownBlock, ne_eq, Option.some.injEq];omega)
       replace hw2 := hw2.za hb1;replace HD := zh (Below.step (zu HD) hb1);have HS2 := zh (show ∀ j, (vadd xs (vtimes (hs.getD i []) y)).getD j 0 = sumN (i + 1) fun t => (ws ++ [y]).getD t 0 * ent hs t j from fun j => by
        have h1 : (sumN i fun t => (ws ++ [y]).getD t 0 * ent hs t j) = sumN i fun t => ws.getD t 0 * ent hs t j := sumN_congr fun t ht => by
         rw [show (ws ++ [y]).getD t 0 = ws.getD t 0 by simp [List.getD, List.getElem?_append_left (show t < ws.length by omega)]]
        have h2 : (ws ++ [y]).getD i 0 = y := by rw [← hwl]; simp [List.getD]
        rw [vadd_at, vtimes_at, sumN, h1, h2, zu HS j, Int.mul_comm y];rfl)
       obtain ⟨xs2, exs⟩ : ∃ xs2, xs2 = vadd xs (vtimes (hs.getD i []) y) := ⟨_, rfl⟩;obtain ⟨ws2, ews⟩ : ∃ ws2, ws2 = ws ++ [y] := ⟨_, rfl⟩;rw [← exs] at h12 HS2;rw [← ews] at hw2 HS2;clear hb1 hx2 h11 hfr exs ews hwl;go_wp2;go_roundw
       case rel => exact ⟨i + 1, _, _, xs2, _, _, ws2, by omega, by go_num, rfl, rfl, h12, hw2, zu HS2, zu HDJ2, zu HD⟩
       case measure => simp [intOf]; omega
      ·have hi2 : ¬ (i : Int) < (len2 : Int) := by omega
       go_wp2_with fail
       refine (rofK (0 : Int) _ (by omega) (by omega)).mono ?_;rintro e w7 ⟨b7, a7, l7, c7, rfl, h7, hb1⟩;replace hx := hx.za hb1;replace hw := hw.za hb1;replace HC := zh (Below.step (zu HC) hb1);clear hb1;obtain ⟨W8, hW8⟩ : ∃ W8, W8 = w7.alloc (.cells #[.bool b7, .slice a7 l7 c7] 44) := ⟨_, rfl⟩;obtain ⟨D5, hb1⟩ := boxes1 w7 b7 a7 l7 c7 hW8;replace hx := hx.za hb1;replace hw := hw.za hb1;replace h7 := h7.za hb1;replace HC := zh (Below.step (zu HC) hb1);clear hb1;have hE5 : EltAt W8 w7.heap.size 0 b7 a7 l7 c7 := ⟨D5.lt, D5.zb.1, D5.zb.2.1⟩;have hsz := (zu HC).size;clear D5;rw [hW8] at h7 hw hE5 hsz
       go_wp2_with (at_builtin; refine append_vec rfl (.tmp 62) (.tmp 65) 24 Tryz.underlying24 rfl W0.heap.size aw i cw 2 ws rfl hw (by omega) hsz w7.heap.size 0 1 b7 a7 l7 c7 (0 : Int) rfl hE5 h7 ?_)
       intro gn cn w9 hw2 hgr hat;rw [← hW8] at hgr hw hsz;have hblk := ownV_block hw;have hx2 := VF.grown hx hgr (fun g e => (hblk g e).2.2) (fun g off e => zu HDJ g off e);have HD := zh ((zu HC).grown hgr hsz (own_ge hw));have hv9 := hv0.za (zu HD);have hwl := hw.len;clear hW8 hgr hat hblk hx hw hE5 h7 HC
       go_wp2_with fail
       refine (rofK (0 : Int) _ (by omega) (by omega)).mono ?_;rintro e w10 ⟨b10, a10, l10, c10, rfl, h10, hb1⟩;replace hx2 := hx2.za hb1;replace hw2 := hw2.za hb1;replace hv9 := hv9.za hb1;replace HD := zh (Below.step (zu HD) hb1);clear hb1
       go_wp2_with fail
       refine (vtimesK _ N _ (hs.getD i []) 36 b10 a10 l10 c10 (0 : Int) 2 _ (hv9.vk (by omega)) (h10.ik (by omega)) (by omega)).mono ?_;rintro e w11 ⟨a11, c11, rfl, h11, hb1⟩;replace hx2 := hx2.za hb1;replace hw2 := hw2.za hb1;replace HD := zh (Below.step (zu HD) hb1);clear hb1 h10 hv9
       go_wp2_with fail
       refine (vaddF ax N cx xs (40 + i) a11 N c11 (vtimes (hs.getD i []) (0 : Int)) (36 + 2) _ (hx2.vk (by omega)) (h11.vk (by omega)) (by omega) (by omega) (by omega) (by omega)).mono ?_;rintro e w12 ⟨a12, c12, rfl, h12, hfr, hb1⟩;rw [Nat.max_self] at h12 ⊢;rw [show max (40 + i) (36 + 2) + 1 = 40 + (i + 1) by omega] at h12;have HDJ2 := zh (show ∀ g off, a12 = some ⟨g, off, none⟩ → (Value.slice (some ⟨gn, 0, none⟩) (i + 1) cn).ownBlock ≠ some g from fun g off e => by
        have h1 := hfr g off e;have h2 := hw2.base_le.2;simp only [Value.ownBlock, ne_eq, Option.some.injEq];omega)
       replace hw2 := hw2.za hb1;replace HD := zh (Below.step (zu HD) hb1);have HS2 := zh (show ∀ j, (vadd xs (vtimes (hs.getD i []) (0 : Int))).getD j 0 = sumN (i + 1) fun t => (ws ++ [(0 : Int)]).getD t 0 * ent hs t j from fun j => by
        have h1 : (sumN i fun t => (ws ++ [(0 : Int)]).getD t 0 * ent hs t j) = sumN i fun t => ws.getD t 0 * ent hs t j := sumN_congr fun t ht => by
         rw [show (ws ++ [(0 : Int)]).getD t 0 = ws.getD t 0 by simp [List.getD, List.getElem?_append_left (show t < ws.length by omega)]]
        have h2 : (ws ++ [(0 : Int)]).getD i 0 = (0 : Int) := by rw [← hwl]; simp [List.getD]
        rw [vadd_at, vtimes_at, sumN, h1, h2, zu HS j, Int.mul_comm (0 : Int)];rfl)
       obtain ⟨xs2, exs⟩ : ∃ xs2, xs2 = vadd xs (vtimes (hs.getD i []) (0 : Int)) := ⟨_, rfl⟩;obtain ⟨ws2, ews⟩ : ∃ ws2, ws2 = ws ++ [(0 : Int)] := ⟨_, rfl⟩;rw [← exs] at h12 HS2;rw [← ews] at hw2 HS2;clear hb1 hx2 h11 hfr exs ews hwl;go_wp2;go_roundw
       case rel => exact ⟨i + 1, _, _, xs2, _, _, ws2, by omega, by go_num, rfl, rfl, h12, hw2, zu HS2, zu HDJ2, zu HD⟩
       case measure => simp [intOf]; omega
     ·have him : i = m := by omega
      subst him;have hi1 : ¬ (i : Int) < (i : Int) := by omega
      have hwv := hw.vf;replace h4 := h4.za (zu HC);replace h5 := h5.za (zu HC);replace HB := zh (Below.step (zu HB) (zu HC));have HIX := zh (show InL hs fun j => xs.getD j 0 from ⟨fun t => ws.getD t 0, fun j => by rw [zu HLN]; exact zu HS j⟩);clear hw HC HDJ
      go_wp2_with fail
      refine (spCoordsK a4 i c4 hs p 36 ax N cx xs (40 + i) _ (h4.mk (by omega)) (zu HF).1 (zu HF).2 (hx.vk (by omega)) true ⟨fun _ => zu HIX, fun _ => rfl⟩ (by omega) (by omega) (by omega) hN1 (by omega)).mono ?_;rintro e w6 ⟨ac, nc, cc, rfl, hyes, -, hb1⟩;obtain ⟨rfl, cs, hc, hcs⟩ := hyes rfl;have HE := zh (show ∀ t, cs.getD t 0 = ws.getD t 0 from fun t => by
       by_cases ht : t < nc
       ·have h1 : ∀ j, xs.getD j 0 = sumN hs.length fun t => cs.getD t 0 * ent hs t j := fun j => by rw [zu HLN]; exact hcs j
        have h2 : ∀ j, xs.getD j 0 = sumN hs.length fun t => ws.getD t 0 * ent hs t j := fun j => by rw [zu HLN]; exact zu HS j
        exact made_one (zu HF).1 (v := fun j => xs.getD j 0) h1 h2 t (by rw [zu HLN]; exact ht)
       ·rw [getD_out (by rw [hc.len_eq]; omega), getD_out (by rw [hwv.len_eq]; omega)])
      replace h4 := h4.za hb1;replace h5 := h5.za hb1;replace hx := hx.za hb1;replace hwv := hwv.za hb1;replace HB := zh (Below.step (zu HB) hb1);clear hb1 hyes hcs
      go_wp2_with fail
      refine (vsameQ ac nc cc cs _ aw nc cw ws 2 true _ (hc.vk (by omega)) (hwv.vk (by omega)) (by omega) (by omega) (by omega) (by omega) ⟨fun _ => zu HE, fun _ => rfl⟩).mono ?_;rintro e w7 ⟨rfl, hb1⟩;replace h4 := h4.za hb1;replace h5 := h5.za hb1;replace hx := hx.za hb1;replace HB := zh (Below.step (zu HB) hb1);clear hb1 hc hwv HE
      go_wp2_with fail
      refine (spHasK a4 nc c4 hs p 36 ax N cx xs (40 + nc) _ (h4.mk (by omega)) (zu HF).1 (zu HF).2 (hx.vk (by omega)) true ⟨fun _ => zu HIX, fun _ => rfl⟩ (by omega) (by omega) (by omega) hN1 (by omega)).mono ?_;rintro e w8 ⟨rfl, hb1⟩;replace h4 := h4.za hb1;replace h5 := h5.za hb1;replace hx := hx.za hb1;replace HB := zh (Below.step (zu HB) hb1);clear hb1
      go_wp2_with fail
      refine (spRestK a4 nc c4 hs p 36 ax N cx xs (40 + nc) _ (h4.mk (by omega)) (zu HF).1 (zu HF).2 (hx.vk (by omega)) (by omega) (by omega) (by omega) hN1 (by omega)).mono ?_;rintro e w9 ⟨a10, c10, us, rfl, h10, hlo, hdi, hb1⟩;have HZ := zh ((LowV.zero (zu HF).1 hlo hdi).2 (zu HIX));replace h4 := h4.za hb1;replace h5 := h5.za hb1;replace hx := hx.za hb1;replace HB := zh (Below.step (zu HB) hb1);clear hb1 hlo hdi
      go_wp2_with fail
      refine (vnoughtQ a10 N c10 us _ true _ (h10.vk (by omega)) (zu HZ)).mono ?_;rintro e w10 ⟨rfl, hb1⟩;replace h4 := h4.za hb1;replace h5 := h5.za hb1;replace hx := hx.za hb1;replace HB := zh (Below.step (zu HB) hb1);clear hb1 h10 HZ
      go_wp2_with fail
      refine (spRestK a4 nc c4 hs p 36 a5 N c5 u 3 _ (h4.mk (by omega)) (zu HF).1 (zu HF).2 (h5.vk (by omega)) (by omega) (by omega) (by omega) hN1 (by omega)).mono ?_;rintro e w11 ⟨a11, c11, rs, rfl, h11, hlo, hdi, hb1⟩;have HR := zh (And.intro hlo hdi);replace h4 := h4.za hb1;replace h5 := h5.za hb1;replace hx := hx.za hb1;replace HB := zh (Below.step (zu HB) hb1);clear hb1 hlo hdi
      go_wp2_with fail
      refine (vaddK a5 N c5 u 3 ax N cx xs (40 + nc) _ (h5.vk (by omega)) (hx.vk (by omega)) (by omega) (by omega) (by omega) (by omega)).mono ?_;rintro e w12 ⟨a12, c12, rfl, h12, hb1⟩;rw [Nat.max_self] at h12 ⊢;rw [show max 3 (40 + nc) + 1 = 41 + nc by omega] at h12;replace h4 := h4.za hb1;replace h5 := h5.za hb1;replace h11 := h11.za hb1;replace HB := zh (Below.step (zu HB) hb1);clear hb1 hx
      go_wp2_with fail
      refine (spRestK a4 nc c4 hs p 36 a12 N c12 (vadd u xs) (41 + nc) _ (h4.mk (by omega)) (zu HF).1 (zu HF).2 (h12.vk (by omega)) (by omega) (by omega) (by omega) hN1 (by omega)).mono ?_;rintro e w13 ⟨a13, c13, ts, rfl, h13, hlo, hdi, hb1⟩;have HE := zh (show ∀ t, ts.getD t 0 = rs.getD t 0 from fun t => rest_one (u := fun j => ts.getD j 0) (t := fun j => rs.getD j 0) (zu HF).1.eform (fun k hk => hlo k hk) (fun k hk => (zu HR).1 k hk) ((((zu HR).2.sub hdi).add (zu HIX)).eq fun j => by rw [vadd_at]; omega) t);replace h4 := h4.za hb1;replace h5 := h5.za hb1;replace h11 := h11.za hb1;replace HB := zh (Below.step (zu HB) hb1);clear hb1 h12 hlo hdi
      go_wp2_with fail
      refine (vsameQ a13 N c13 ts _ a11 N c11 rs _ true _ (h13.vk (by omega)) (h11.vk (by omega)) (by omega) (by omega) (by omega) (by omega) ⟨fun _ => zu HE, fun _ => rfl⟩).mono ?_;rintro e w14 ⟨rfl, hb1⟩;replace h4 := h4.za hb1;replace h5 := h5.za hb1;replace h11 := h11.za hb1;replace HB := zh (Below.step (zu HB) hb1);clear hb1 h13 HE
      go_wp2_with fail
      refine (vsubK a5 N c5 u 3 a11 N c11 rs _ _ (h5.vk (by omega)) (h11.vk (by omega)) (by omega) (by omega) (by omega) (by omega)).mono ?_;rintro e w15 ⟨a15, c15, rfl, h15, hb1⟩;rw [Nat.max_self] at h15 ⊢;rw [show max 3 (3 + 1 + nc * (36 + 1)) + 1 = 5 + nc * 37 by omega] at h15;replace h4 := h4.za hb1;replace h5 := h5.za hb1;replace h11 := h11.za hb1;replace HB := zh (Below.step (zu HB) hb1);clear hb1
      go_wp2_with fail
      refine (spHasK a4 nc c4 hs p 36 a15 N c15 (vsub u rs) (5 + nc * 37) _ (h4.mk (by omega)) (zu HF).1 (zu HF).2 (h15.vk (by omega)) true ⟨fun _ => (zu HR).2.eq fun j => vsub_at _ _ _, fun _ => rfl⟩ (by omega) (by omega) (by omega) hN1 (by omega)).mono ?_;rintro e w16 ⟨rfl, hb1⟩;replace h4 := h4.za hb1;replace h5 := h5.za hb1;replace h11 := h11.za hb1;replace HB := zh (Below.step (zu HB) hb1);clear hb1 h15
      go_wp2_with fail
      refine (spRestK a4 nc c4 hs p 36 a11 N c11 rs (3 + 1 + nc * (36 + 1)) _ (h4.mk (by omega)) (zu HF).1 (zu HF).2 (h11.vk (by omega)) (by omega) (by omega) (by omega) hN1 (by omega)).mono ?_;rintro e w17 ⟨a17, c17, ts2, rfl, h17, hlo, hdi, hb1⟩;have HE := zh (show ∀ t, ts2.getD t 0 = rs.getD t 0 from fun t => LowV.one (vs := rs) (zu HF).1 hlo hdi (zu HR).1 ((inL_zero hs).eq fun j => by omega) t);replace h4 := h4.za hb1;replace h5 := h5.za hb1;replace h11 := h11.za hb1;replace HB := zh (Below.step (zu HB) hb1);clear hb1 hlo hdi
      go_wp2_with fail
      refine (vsameQ a17 N c17 ts2 _ a11 N c11 rs _ true _ (h17.vk (by omega)) (h11.vk (by omega)) (by omega) (by omega) (by omega) (by omega) ⟨fun _ => zu HE, fun _ => rfl⟩).mono ?_;rintro e w18 ⟨rfl, hb1⟩;replace h4 := h4.za hb1;replace h5 := h5.za hb1;replace h11 := h11.za hb1;replace HB := zh (Below.step (zu HB) hb1);obtain ⟨q0, hq0⟩ := bool_ofH (InL hs fun j => u.getD j 0);have HQ := zh hq0;have HV := zh (show vnought rs = q0 by rw [Bool.eq_iff_iff, hq0]; exact LowV.zero (zu HF).1 (zu HR).1 (zu HR).2);clear hb1 h17 HE hq0
      go_wp2_with fail
      refine (vnoughtQ a11 N c11 rs _ q0 _ (h11.vk (by omega)) (zu HV)).mono ?_;rintro e w19 ⟨rfl, hb1⟩;replace h4 := h4.za hb1;replace h5 := h5.za hb1;replace HB := zh (Below.step (zu HB) hb1);clear hb1 h11
      go_wp2_with fail
      refine (spHasK a4 nc c4 hs p 36 a5 N c5 u 3 _ (h4.mk (by omega)) (zu HF).1 (zu HF).2 (h5.vk (by omega)) q0 (zu HQ) (by omega) (by omega) (by omega) hN1 (by omega)).mono ?_;rintro e w20 ⟨rfl, hb1⟩;replace HB := zh (Below.step (zu HB) hb1);have hqq : (q0 == q0) = true := by simp
      clear hb1 h4 h5
      go_wp2_with fail
      refine (awake12_any _).mono ?_;rintro e w99 ⟨rfl, hb1⟩;go_wp2;go_ret;exact ⟨rfl, Below.step (zu HB) hb1⟩
   ·have h8' : (8 : Int) < (len2 : Int) := by omega
    clear hl0 hv3
    go_wp2_with fail
    refine (awake12_any _).mono ?_;rintro e w99 ⟨rfl, hb1⟩;go_wp2;go_ret;exact ⟨rfl, Below.step (zu HB) hb1⟩
  ·replace HB := zh (Below.step (zu HB) hb1);clear hlt hb1 hr3 HMS
   go_wp2_with fail
   refine (awake12_any _).mono ?_;rintro e w99 ⟨rfl, hb1⟩;go_wp2;go_ret;exact ⟨rfl, Below.step (zu HB) hb1⟩
 ·clear hlt hb1 r0 r3
  go_wp2_with fail
  refine (awake12_any _).mono ?_;rintro e w99 ⟨rfl, hb1⟩;go_wp2;go_ret;exact ⟨rfl, Below.step (zu HB) hb1⟩

end Go.Proofs.YtkomdimalgnamaaGreat
