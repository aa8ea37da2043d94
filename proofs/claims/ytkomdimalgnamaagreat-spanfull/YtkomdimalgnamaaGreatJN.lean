/-
 What Unit of the reference tells: the unit rows.
-/
import Derived.Test.YtkomdimalgnamaaGreatJT
import Derived.Test.YtkomdimalgnamaaGreatJR
import Derived.Test.YtkomdimalgnamaaGreatRVFresh
import Derived.Test.YtkomdimalgnamaaGreatJP
import Derived.Deep.CutRange
import Derived.Test.YtkomdimalgnamaaGreatJE
import Derived.Lib.SliceRun
namespace Go.Proofs.YtkomdimalgnamaaGreat
open Go.RowKit Lb
set_option maxRecDepth 20000

theorem unit_row {k i : Nat} (hi : i < k) : (List.replicate k (0 : Int)).set i 1 = (unitL k).getD i [] := by
 have e : (unitL k).getD i [] = (List.range k).map fun j => if j = i then (1 : Int) else 0 := by simp [unitL, List.getD, hi]
 rw [e];refine List.ext_getElem (by simp) fun j h1 h2 => ?_;simp only [List.getElem_map, List.getElem_range];by_cases c : j = i
 ·subst c; simp
 ·rw [List.getElem_set_ne (Ne.symm c), List.getElem_replicate, if_neg c]
/-
 What slices.Clone of a vector tells.
-/

theorem cloneK (ao : Option Addr) (n cap : Nat) (zs : List Int) (k : Nat) (w : World) (h : VF w ao n cap zs k) (hp : 0 < n) (hn : n ≤ 1000) :
  Calls Tryz.prog 133 #[.slice ao n cap] w fun e w' => ∃ a1 c1, e = .returned (.slice a1 n c1) ∧ VF w' a1 n c1 zs k ∧ Below w.heap.size w w' := by
 obtain ⟨g, off, rfl⟩ := h.some hp;go_enter Tryz.func133, Tryz.ntmps133;have hnil : ∀ W, (binOp .eql 24 (.slice (some ⟨g, off, none⟩) n cap) (.slice none 0 0)).run Tryz.prog W = .ok (.bool false) W := fun W => Lib.run_eql_slice_nil W _ _ _ _ _ _ _ Tryz.underlying24;have hbn := below_new w (.cells #[] 44);have hemp : OwnOf (fun w b a l c z => FK w b a l c z k) (w.alloc (.cells #[] 44)) w.heap.size (some ⟨w.heap.size, 0, none⟩) 0 0 [] := ownOf_empty _ rfl (Nat.le_refl _);have h2 := h.za hbn;have hszn := hbn.size;have HBN := zh hbn;clear hbn
 go_wp2_with (at_builtin; (refine append_vecs (R := fun w b a l c z => FK w b a l c z k) (steady_fk k) rfl (.tmp 5) (.tmp 6) 24 Tryz.underlying24 rfl w.heap.size _ 0 0 [] rfl hemp _ n cap zs rfl h2 (by omega) hszn ?_))
 intro al cl w1 hown hgr1;have hb1 : Below w.heap.size w w1 := (zu HBN).grown hgr1 hszn hemp.ge;clear hgr1 hemp hszn HBN h2;go_wp2;go_ret;exact ⟨_, _, rfl, (OwnV.of hown).vf, hb1⟩

/-
 What slices.Grow of no vector tells: room.
-/

theorem ownOf_cut0 {R : World → Bool → Option Addr → Nat → Nat → Int → Prop} {w : World} {base g n cap : Nat} {zs : List Int} (h : OwnOf R w base (some ⟨g, 0, none⟩) n cap zs) : OwnOf R w base (some ⟨g, 0, none⟩) 0 cap [] := by
 obtain ⟨hv, cs, hown, hall⟩ := h;refine ⟨⟨rfl, Nat.zero_le _, hv.cap_max, fun e => by simp at e, fun h => absurd h (by omega)⟩, [], ⟨⟨by simp, ?_⟩, fun g' hg' => hall g' hg'⟩⟩;rcases hown.2 with ⟨e, _⟩ | ⟨g1, c1, cur, e, h1, h2, h3, h4, h5, h6⟩
 ·simp at e
 ·simp only [Value.slice.injEq, Option.some.injEq, Addr.mk.injEq, and_true, true_and] at e;obtain ⟨rfl, rfl⟩ := e;exact Or.inr ⟨g, cap, cur, rfl, h1, h2, Nat.zero_le _, h4, h5, by simp⟩
set_option maxHeartbeats 1000000 in
theorem growK (n k : Nat) (w : World) (hp : 0 < n) (hn : n ≤ 1000) (hk : k ≤ 999990) :
  Calls Tryz.prog 146 #[.slice none 0 0, .int .i64 (n : Int)] w fun e w' => ∃ g cap, e = .returned (.slice (some ⟨g, 0, none⟩) 0 cap) ∧ OwnOf (fun w b a l c z => IK w b a l c z k) w' w.heap.size (some ⟨g, 0, none⟩) 0 cap [] ∧ Below w.heap.size w w' := by
 have hs0 : ∀ W, (Instr.sliceAt 24 (.slice none 0 0) none (some (.int .i64 0)) none).run Tryz.prog W = .ok (.slice none 0 0) W := by
  intro W;simp [Instr.sliceAt, Instr.slice, Instr.sliceBounds, Instr.sliceBound, run_underlying Tryz.underlying24, go_sem]
 have hn0 : ¬ (n : Int) < 0 := by omega
 have hn1 : (0 : Int) < (n : Int) := by omega
 have hw1 : IntKind.i64.wrap (n : Int) = (n : Int) := wrap_natS n (by omega);have hown : OwnOf (fun w b a l c z => IK w b a l c z k) w w.heap.size none 0 0 [] := ownOf_nil _ _ _;go_enter Tryz.func146, Tryz.ntmps146
 go_wp2_with (at_builtin; refine zeros_vec (R := fun w b a l c z => IK w b a l c z k) (steady_ik k) (fun w => (fk_zero w k).ik hk) rfl (.tmp 20) (.tmp 21) 24 3 .i64 .i64 Tryz.underlying24 Tryz.underlying3 rfl w.heap.size _ 0 0 [] rfl hown _ n rfl (by omega) (by omega) (by omega) (Nat.le_refl _) ?_)
 intro al cl w1 hown1 hgr1;have hb1 : Below w.heap.size w w1 := (Below.refl _ _).grown hgr1 (Nat.le_refl _) hown.ge;obtain ⟨g, rfl⟩ := hown1.form (by omega);have hcut := ownOf_cut0 hown1;have hcl := hown1.vec.cap_le;have hs1 : ∀ W, (Instr.sliceAt 24 (.slice (some ⟨g, 0, none⟩) (0 + n) cl) none (some (.int .i64 0)) none).run Tryz.prog W = .ok (.slice (some ⟨g, 0, none⟩) 0 cl) W := by
  intro W;simp [Instr.sliceAt, Instr.slice, Instr.sliceBounds, Instr.sliceBound, run_underlying Tryz.underlying24, go_sem]
 (try simp only [Nat.zero_add] at hs1)
 clear hown1 hgr1 hown;go_wp2;go_ret;exact ⟨_, _, rfl, hcut, hb1⟩

/-
 What slices.Concat of rows tells.
-/

theorem flat_snoc {rs : List (List Int)} {i : Nat} (hi : i < rs.length) : (rs.take (i + 1)).flatten = (rs.take i).flatten ++ rs.getD i [] := by
 rw [take_all_snoc hi, List.flatten_append];simp
theorem flat_le {rs : List (List Int)} (i : Nat) : (rs.take i).flatten.length ≤ rs.flatten.length := by
 have h : rs.flatten = (rs.take i).flatten ++ (rs.drop i).flatten := by rw [← List.flatten_append, List.take_append_drop]
 rw [h, List.length_append]; omega
set_option maxHeartbeats 2000000 in
theorem concatK (ao : Option Addr) (n cap : Nat) (rs : List (List Int)) (k : Nat) (w : World) (h : MK w ao n cap rs k) (hk : k ≤ 999990) (hn : n ≤ 1000) (hp : 0 < rs.flatten.length) (hl : rs.flatten.length ≤ 1000) :
  Calls Tryz.prog 139 #[.slice ao n cap] w fun e w' => ∃ a1 c1, e = .returned (.slice a1 rs.flatten.length c1) ∧ VK w' a1 rs.flatten.length c1 rs.flatten k ∧ Below w.heap.size w w' := by
 have HL := zh h.len_eq;obtain ⟨T, eT⟩ : ∃ T, T = rs.flatten.length := ⟨_, rfl⟩;rw [← eT] at hp hl ⊢;have HT := zh eT;clear eT;go_enter Tryz.func139, Tryz.ntmps139
 go_wp2_with fail
 go_loopw [3, 11] (fun s t wr => ∃ (i S : Nat), i ≤ n ∧ t = .int .i64 (i : Int) ∧ s = .int .i64 (S : Int) ∧ S = (rs.take i).flatten.length ∧ Below w.heap.size w wr) (fun _ t _ => n - (intOf t).toNat)
 case atStart => exact ⟨0, 0, Nat.zero_le _, rfl, rfl, by simp, Below.refl _ _⟩
 case round =>
  obtain ⟨i, S, hi, rfl, rfl, hS, hB⟩ := hrel;have HB := zh hB;have HS := zh hS;clear hB hS;by_cases hlt : i < n
  ·obtain ⟨g, off, rfl⟩ := h.addr (by omega);obtain ⟨hg, a5, l5, c5, hc5, hv5⟩ := RowsOf.at (R := fun w a l c zs => VK w a l c zs k) h hlt;have f2 := ((zu HB).cell (p := ⟨g, off + i, none⟩) hg).trans hc5;have hgr := Nat.lt_of_lt_of_le hg (zu HB).size;have hi0 : (0 : Int) ≤ (i : Int) := by omega
   have hi1 : (i : Int) < (n : Int) := by omega
   have hS2 : S + l5 = (rs.take (i + 1)).flatten.length := by
    rw [flat_snoc (by rw [zu HL]; exact hlt), List.length_append, ← zu HS, hv5.len_eq]
   have hS3 : S + l5 ≤ T := by rw [hS2, zu HT]; exact flat_le _
   have hwr : IntKind.i64.wrap ((S : Int) + (l5 : Int)) = ((S + l5 : Nat) : Int) := by rw [show (S : Int) + (l5 : Int) = ((S + l5 : Nat) : Int) by omega]; exact wrap_natS _ (by omega)
   have HS2 := zh hS2;obtain ⟨Q, eQ⟩ : ∃ Q, Q = S + l5 := ⟨_, rfl⟩;rw [← eQ] at hwr hS3 HS2;have hQ0 : ¬ (Q : Int) < 0 := by omega
   clear hS2 hc5 hg eQ hv5;go_wp2;go_roundw
   case rel => exact ⟨i + 1, Q, by omega, by go_num, rfl, zu HS2, zu HB⟩
   case measure => simp [intOf]; omega
  ·have hin : i = n := by omega
   subst hin;have hi1 : ¬ (i : Int) < (i : Int) := by omega
   have hST : S = T := by
    have := zu HS;rw [List.take_of_length_le (by rw [zu HL]; exact Nat.le_refl _), ← zu HT] at this;exact this
   subst hST;clear HS;obtain ⟨w5, hw5⟩ : ∃ x, x = wr := ⟨_, rfl⟩;subst hw5
   go_wp2_with fail
   refine (growK S k _ hp hl hk).mono ?_;rintro e w6 ⟨g6, c6, rfl, hown, hb9⟩;have HB5 := HB;have hsz6 : w5.heap.size ≤ w6.heap.size := hb9.size;have HD := zh hb9;clear hb9
   go_wp2_with fail
   go_loopw [6, 27] (fun s t wr => ∃ (j S2 : Nat) (ao' : Option Addr) (cap' : Nat), j ≤ i ∧ t = .int .i64 (j : Int) ∧ s = .slice ao' S2 cap' ∧ S2 = (rs.take j).flatten.length ∧ OwnOf (fun w b a l c z => IK w b a l c z k) wr w5.heap.size ao' S2 cap' ((rs.take j).flatten) ∧ Below w5.heap.size w5 wr) (fun _ t _ => i - (intOf t).toNat)
   case atStart => exact ⟨0, 0, _, _, Nat.zero_le _, rfl, rfl, by simp, hown, zu HD⟩
   case round =>
    clear hown;obtain ⟨j, S2, ao', cap', hj, rfl, rfl, hS, hown, hB⟩ := hrel;have HE := zh hB;have HS := zh hS;clear hB hS;by_cases hlt2 : j < i
    ·obtain ⟨g, off, rfl⟩ := h.addr (by omega);obtain ⟨hg, a5, l5, c5, hc5, hv5⟩ := RowsOf.at (R := fun w a l c zs => VK w a l c zs k) h hlt2;have hbw := zh (Below.step (zu HB5) (zu HE));have f2 := ((zu hbw).cell (p := ⟨g, off + j, none⟩) hg).trans hc5;have hgr := Nat.lt_of_lt_of_le hg (zu hbw).size;have hj0 : (0 : Int) ≤ (j : Int) := by omega
     have hj1 : (j : Int) < (i : Int) := by omega
     have hS2 : S2 + l5 = (rs.take (j + 1)).flatten.length := by
      rw [flat_snoc (by rw [zu HL]; exact hlt2), List.length_append, ← zu HS, hv5.len_eq]
     have hS3 : S2 + l5 ≤ S := by rw [hS2, zu HT]; exact flat_le _
     have HFS := zh (flat_snoc (rs := rs) (i := j) (by rw [zu HL]; exact hlt2));have HS2 := zh hS2;obtain ⟨LL, eL⟩ : ∃ LL, LL = (rs.take j).flatten := ⟨_, rfl⟩;obtain ⟨z, ez⟩ : ∃ z, z = rs.getD j [] := ⟨_, rfl⟩;have hv6 := hv5.za (zu hbw);rw [← ez] at hv6;rw [← eL] at hown;rw [← eL, ← ez] at HFS;have hszr := (zu HE).size;clear hS2 hc5 hg eL ez hv5
     go_wp2_with (at_builtin; (refine append_vecs (R := fun w b a l c z => IK w b a l c z k) (steady_ik k) rfl (.tmp 31) (.tmp 32) 24 Tryz.underlying24 rfl w5.heap.size ao' S2 cap' LL rfl hown a5 l5 c5 z rfl hv6 (by omega) hszr ?_))
     intro an cn w8 hown2 hgr7;have hHF := (zu HE).grown hgr7 hszr hown.ge;clear hgr7 hown hv6 f2 hgr;go_wp2;go_roundw
     case rel => exact ⟨j + 1, S2 + l5, _, _, by omega, by go_num, rfl, zu HS2, by rw [zu HFS]; exact hown2, hHF⟩
     case measure => simp [intOf]; omega
    ·have hjn : j = i := by omega
     subst hjn;have hj1 : ¬ (j : Int) < (j : Int) := by omega
     rw [List.take_of_length_le (by rw [zu HL]; exact Nat.le_refl _)] at hown HS;have hSS : S2 = S := by rw [zu HS, zu HT]
     subst hSS;go_wp2;go_ret;exact ⟨_, _, rfl, hown.vec, Below.step (zu HB5) (zu HE)⟩

/-
 What besideUnits of package hnf tells: the rows, the unit rows beside them.
-/

theorem mk_two {w : World} {a a' : Option Addr} {l c l' c' k : Nat} {zs ys : List Int} (h : VK w a l c zs k) (h' : VK w a' l' c' ys k) : MK (w.alloc (.cells #[.slice a l c, .slice a' l' c'] 24)) (some ⟨w.heap.size, 0, none⟩) 2 2 [zs, ys] k := by
 refine rowsOf_new (R := fun w a l c zs => VK w a l c zs k) (vs := [(a, l, c), (a', l', c')]) rfl rfl rfl (by simp) fun i a2 l2 c2 e => ?_
 match i with
 | 0 =>
  simp at e;obtain ⟨rfl, rfl, rfl⟩ := e;exact h.za (below_new w _)
 | 1 =>
  simp at e;obtain ⟨rfl, rfl, rfl⟩ := e;exact h'.za (below_new w _)
theorem unit_len {n i : Nat} (hi : i < n) : ((unitL n).getD i []).length = n := by
 rw [← unit_row hi]; simp
theorem wideL_of {cs ws : List (List Int)} {N n : Nat} (hw : ws.length = n) (hc : cs.length = n) (hN : ∀ i, i < n → (cs.getD i []).length = N) (h : ∀ j, j < n → ws.getD j [] = cs.getD j [] ++ (unitL n).getD j []) : WideL cs ws N n := by
 refine ⟨hw, hc, fun i j hi hj => ?_, fun i j hi => ?_, hN⟩
 ·unfold ent;rw [h i hi, List.getD_eq_getElem?_getD, List.getElem?_append_left (by rw [hN i hi]; exact hj), ← List.getD_eq_getElem?_getD]
 ·rw [← ent_unit hi];unfold ent;rw [h i hi, List.getD_eq_getElem?_getD, List.getElem?_append_right (by rw [hN i hi]; omega), hN i hi, Nat.add_sub_cancel, ← List.getD_eq_getElem?_getD]
theorem WideL.small {cs W : List (List Int)} {k n b : Nat} (h : WideL cs W k n) (hb : ∀ i j, (ent cs i j).natAbs < Bp b) (h1 : 1 < Bp b) (i j : Nat) : (ent W i j).natAbs < Bp b := by
 by_cases hi : i < n
 ·by_cases hj : j < k
  ·rw [h.left i j hi hj]; exact hb i j
  ·rw [show j = (j - k) + k by omega, h.right i (j - k) hi]
   split
   ·simpa using h1
   ·simp; omega
 ·rw [ent_out (by rw [h.len]; omega)];simp; omega
set_option maxHeartbeats 2000000 in
theorem besideUnitsK (ao : Option Addr) (n cap : Nat) (cs : List (List Int)) (k N : Nat) (w : World) (h : MK w ao n cap cs k) (hk2 : 2 ≤ k) (hk : k ≤ 999990) (hN : ∀ i, i < n → (cs.getD i []).length = N) (hn : n ≤ 100) (hNl : N ≤ 100) :
  Calls Tryz.prog 132 #[.slice ao n cap] w fun e w' => ∃ a1 c1 W, e = .returned (.slice a1 n c1) ∧ MK w' a1 n c1 W k ∧ WideL cs W N n ∧ (∀ i, i < n → (W.getD i []).length = N + n) ∧ Below w.heap.size w w' := by
 have HL := zh h.len_eq;have HN := zh hN;clear hN;go_enter Tryz.func132, Tryz.ntmps132
 go_wp2_with (at_make; refine make_rows (R := fun w a l c zs => VK w a l c zs k) (fun w => vk_nil w _) rfl _ _ 22 Tryz.underlying22 rfl w.heap.size .i64 .i64 _ _ n rfl rfl (by omega) (by omega) (by omega) (by omega) ?_)
 intro w2 hown hgrow;have hbg : Below w.heap.size w w2 := (Below.refl _ _).grown hgrow (Nat.le_refl _) (fun _ h => by simp at h);have HB := zh hbg;clear hgrow hbg;obtain ⟨gv, egv⟩ : ∃ gv, gv = w.heap.size := ⟨_, rfl⟩;rw [show (some ⟨w.heap.size, 0, none⟩ : Option Addr) = some ⟨gv, 0, none⟩ by rw [egv]] at hown ⊢;clear egv
 go_wp2_with fail
 go_loopw [12] (fun t wr => ∃ (i : Nat) (ws : List (List Int)), i ≤ n ∧ t = .int .i64 (i : Int) ∧ MOwn (fun w a l c zs => VK w a l c zs k) wr w.heap.size (some ⟨gv, 0, none⟩) n n ws ∧ (∀ j, j < i → ws.getD j [] = cs.getD j [] ++ (unitL n).getD j []) ∧ Below w.heap.size w wr) (fun t _ => n - (intOf t).toNat)
 case atStart => exact ⟨0, _, Nat.zero_le _, rfl, hown, fun j hj => absurd hj (by omega), zu HB⟩
 case round =>
  clear hown HB;obtain ⟨i, ws, hi, rfl, hown, hall, hB⟩ := hrel;have HA := zh hall;have HB := zh hB;clear hall hB;by_cases hlt : i < n
  ·obtain ⟨g, off, rfl⟩ := h.addr (by omega);obtain ⟨hg, a5, l5, c5, hc5, hv5⟩ := RowsOf.at (R := fun w a l c zs => VK w a l c zs k) h hlt;have hl5 : N = l5 := by rw [← hv5.len_eq]; exact (zu HN i hlt).symm
   subst hl5;have f2 := ((zu HB).cell (p := ⟨g, off + i, none⟩) hg).trans hc5;have hgr := Nat.lt_of_lt_of_le hg (zu HB).size;have hi0 : (0 : Int) ≤ (i : Int) := by omega
   have hi1 : (i : Int) < (n : Int) := by omega
   replace hv5 := hv5.za (zu HB);clear hc5 hg
   go_wp2_with (at_make; refine make_vec rfl _ _ 24 Tryz.underlying24 rfl wr.heap.size .i64 .i64 _ _ n 2 rfl rfl (by omega) (by omega) (by omega) (by omega) ?_)
   intro w3 hv hgrow;have hbg : Below wr.heap.size wr w3 := (Below.refl _ _).grown hgrow (Nat.le_refl _) (fun _ h => by simp at h);have HC := zh hbg;clear hgrow hbg f2 hgr;obtain ⟨gu, egu⟩ : ∃ gu, gu = wr.heap.size := ⟨_, rfl⟩;rw [show (some ⟨wr.heap.size, 0, none⟩ : Option Addr) = some ⟨gu, 0, none⟩ by rw [egu]] at hv ⊢;clear egu
   go_wp2_with fail
   refine (ofK 1 _ (by omega) (by omega)).mono ?_;rintro e w4 ⟨b6, a6, l6, c6, rfl, h6, hb1⟩;replace hv := hv.za hb1;replace HC := zh (Below.step (zu HC) hb1);clear hb1;obtain ⟨b8, a8, l8, c8, he8, _⟩ := hv.vf.at hlt;rw [Nat.zero_add] at he8;obtain ⟨q1, q2⟩ := he8.zb;have q3 := hv.free (i * 2);have q4 := hv.free (i * 2 + 1);have hbl := hv.base_le;have hv2 := hv.set hlt h6;rw [unit_row hlt] at hv2;have hz := ((zu HC).setCell (p := ⟨gu, i * 2, none⟩) (by simpa using hbl.1) (.bool b6)).setCell (p := ⟨gu, i * 2 + 1, none⟩) (by simpa using hbl.1) (.slice a6 l6 c6);obtain ⟨x, ex⟩ : ∃ x, x = cs.getD i [] := ⟨_, rfl⟩;obtain ⟨y, ey⟩ : ∃ y, y = (unitL n).getD i [] := ⟨_, rfl⟩;rw [← ex] at hv5;rw [← ey] at hv2;have hx : x.length = N := by rw [ex]; exact zu HN i hlt
   have hy : y.length = n := by rw [ey]; exact unit_len hlt
   have EX := zh ex;have EY := zh ey;have hfl : [x, y].flatten = x ++ y := by simp
   have hfn : [x, y].flatten.length = N + n := by rw [hfl, List.length_append, hx, hy]
   have htwo := mk_two (hv5.za hz) (VecOf.mono (hv2.vf.vk (by omega)) fun _ h => h.up hk2);rw [show ((w4.setCell ⟨gu, i * 2, none⟩ (.bool b6)).setCell ⟨gu, i * 2 + 1, none⟩ (.slice a6 l6 c6)).heap.size = w4.heap.size by simp] at htwo;have hnw := below_new ((w4.setCell ⟨gu, i * 2, none⟩ (.bool b6)).setCell ⟨gu, i * 2 + 1, none⟩ (.slice a6 l6 c6)) (.cells #[.slice a5 N c5, .slice (some ⟨gu, 0, none⟩) n n] 24);have HZ := zh (Below.step hz hnw);clear ex ey hz hv hv2 hnw h6 HC hbl
   go_wp2_with fail
   refine (concatK _ 2 2 [x, y] k _ htwo hk (by omega) (by rw [hfn]; omega) (by rw [hfn]; omega)).mono ?_;rintro e w6 ⟨a9, c9, rfl, h9, hb9⟩;rw [hfn] at h9 ⊢;rw [hfl] at h9;have hup := Below.step (zu HZ) hb9;have hown2 := MOwn.za (R := fun w a l c zs => VK w a l c zs k) (fun h hb => VK.za h hb) hown hup;have HD := zh (Below.step (zu HB) hup);clear hb9 hup htwo hfl hfn hown q1 q2 q3 q4 he8;obtain ⟨_, a10, l10, c10, q5, _⟩ := RowsOf.at (R := fun w a l c zs => VK w a l c zs k) hown2.rows hlt;rw [Nat.zero_add] at q5;have q7 := hown2.free i;have hbl := hown2.base_le;go_wp2;go_roundw
   case rel =>
    refine ⟨i + 1, ws.set i (x ++ y), by omega, by go_num, MOwn.set (R := fun w a l c zs => VK w a l c zs k) (steadyV_vk k) hown2 hlt h9, fun j hj => ?_, (zu HD).setCell (by simpa using hbl.1) _⟩;by_cases c : j = i
    ·subst c;rw [← zu EX, ← zu EY];simp [List.getD, hown2.len, hlt]
    ·rw [show (ws.set i (x ++ y)).getD j [] = ws.getD j [] by simp [List.getD, List.getElem?_set_ne (Ne.symm c)]];exact zu HA j (by omega)
   case measure => simp [intOf]; omega
  ·have hin : i = n := by omega
   subst hin;have hi1 : ¬ (i : Int) < (i : Int) := by omega
   have hW := wideL_of hown.len (zu HL) (zu HN) (zu HA);have HW := zh hW;have HWL : Hid (∀ t, t < i → (ws.getD t []).length = N + i) := zh fun t ht => by rw [zu HA t ht, List.length_append, zu HN t ht, unit_len ht]
   clear hW;go_wp2;go_ret;exact ⟨_, _, rfl, _, hown.rows, zu HW, zu HWL, zu HB⟩

/-
 Two own rows side by side: where append leaves the one that it writes, and that the other stays.
-/

theorem MOwn.other {R : World → Option Addr → Nat → Nat → List Int → Prop} (hR : SteadyV R) {w w' : World} {base : Nat} {ao : Option Addr} {n cap : Nat} {rs : List (List Int)} {row : Option Nat} (h : MOwn R w base ao n cap rs) (hg : w.grownBy w' row) (hs : OnlySl w row) (hne : (Value.slice ao n cap).ownBlock = none ∨ (Value.slice ao n cap).ownBlock ≠ row) : MOwn R w' base ao n cap rs := by
 obtain ⟨⟨vs, hrow, hall⟩, hl⟩ := h;exact ⟨⟨vs, hrow.grown hg hne, fun i v hv => hR (hall i v hv) hg hs⟩, hl⟩
theorem run_append_at {R : World → Option Addr → Nat → Nat → List Int → Prop} (hR : SteadyV R) (t ty : TypeId) (ht : Tryz.prog.underlying t = some (.slice 24)) (w : World) (base : Nat) (ao : Option Addr) (n cap : Nat) (rs : List (List Int)) (hown : MOwn R w base ao n cap rs) (as' : Option Addr) (m c' : Nat) (ss : List (List Int)) (hsrc : RowsOf R w as' m c' ss) (hm : 0 < m) (hn : n + m ≤ 1000000) (hbase : base ≤ w.heap.size) :
  ∃ ao' cap' w', (Builtin.append_ #[t, t] ty #[.slice ao n cap, .slice as' m c']).run Tryz.prog w = .ok (.slice ao' (n + m) cap') w' ∧ MOwn R w' base ao' (n + m) cap' (rs ++ ss) ∧ w.grownBy w' (Value.slice ao n cap).ownBlock ∧ ((Value.slice ao' (n + m) cap').ownBlock = (Value.slice ao n cap).ownBlock ∨ (Value.slice ao' (n + m) cap').ownBlock = some w.heap.size) := by
 obtain ⟨i0, hi, hz0, hz1, hz2⟩ := info_parts info_vec;have hos := hown.onlySl;obtain ⟨us, hul, hur, huc⟩ := hsrc.list;obtain ⟨⟨vs, hrow, hall⟩, hl⟩ := hown;have hvl := hrow.len;rw [List.length_map, Nat.mul_one] at hvl;have hsl := hsrc.len_eq;obtain ⟨g, off, rfl, hg, hcell⟩ := huc (by omega);obtain ⟨v', w', hrun, hrow', hgr, hat⟩ := run_append_P (p := isSl) w base t ty 24 i0 (.slice none 0 0) 1 24 ht hi hz0 hz1 hz2 rfl (by decide) sl_zero _ n _ hrow ⟨g, off, none⟩ m c' (us.map sv) (by rw [List.length_map]; omega) (sl_at hcell) (sl_one us) (sl_all us) (by unfold maxLen; omega) (by omega) hbase;rw [← List.map_append] at hrow';rcases hrow'.form with ⟨_, h⟩ | ⟨g', cap', rfl, _⟩
 ·omega
 ·refine ⟨_, _, w', hrun, ⟨⟨vs ++ us, hrow', ?_⟩, by rw [List.length_append]; omega⟩, hgr, hat⟩;exact both_lists (by omega) (fun i v hv => hR (hall i v hv) hgr hos) (fun i v hv => hR (hur i v hv) hgr hos)
theorem append_at {R : World → Option Addr → Nat → Nat → List Int → Prop} (hR : SteadyV R) {w : World} {ops : Array Oper} {rest : List Oper} {o : Oper} {a : Act} {Q : Exit → Act → World → Prop} (hgd : o.guard = none) (s x : Operand) (t : TypeId) (ht : Tryz.prog.underlying t = some (.slice 24))
  (ho : o.op = .call { callee := .builtin .append, args := #[s, x], argTypes := #[t, t] }) (base : Nat) (ao : Option Addr) (n cap : Nat) (rs : List (List Int)) (hs : a.eval s = .slice ao n cap) (hown : MOwn R w base ao n cap rs) (as' : Option Addr) (m c' : Nat) (ss : List (List Int)) (hx : a.eval x = .slice as' m c') (hsrc : RowsOf R w as' m c' ss) (hm : 0 < m) (hn : n + m ≤ 1000000) (hbase : base ≤ w.heap.size)
  (h : ∀ ao' cap' w', MOwn R w' base ao' (n + m) cap' (rs ++ ss) → w.grownBy w' (Value.slice ao n cap).ownBlock → ((Value.slice ao' (n + m) cap').ownBlock = (Value.slice ao n cap).ownBlock ∨ (Value.slice ao' (n + m) cap').ownBlock = some w.heap.size) → wpList Tryz.prog ops Q rest (a.put o.dst (.slice ao' (n + m) cap')) w') : wpList Tryz.prog ops Q (o :: rest) a w := by
 refine wpList_plain hgd fun K hK => ?_;obtain ⟨ao', cap', w', hrun, h1, h2, h3⟩ := run_append_at @hR t o.type ht w base ao n cap rs hown as' m c' ss hsrc hm hn hbase;unfold Oper.wp;simp [execOp, ho, resolve, invoke, builtin, hs, hx, hrun, Result.andThen];exact hK _ _ (h ao' cap' w' h1 h2 h3)

/-
 The beginning and the end of a vector, as vectors; slicing to them.
-/

theorem vf_take {w : World} {g off n cap k q : Nat} {zs : List Int} (h : VF w (some ⟨g, off, none⟩) n cap zs k) (hq : q ≤ n) : VF w (some ⟨g, off, none⟩) q cap (zs.take q) k := by
 refine ⟨by rw [List.length_take, h.len_eq]; omega, Nat.le_trans hq h.cap_le, h.cap_max, fun e => by simp at e, fun hp => ?_⟩;obtain ⟨g', off', e, hg, hc⟩ := h.elts (by omega);refine ⟨g', off', e, hg, fun i hi => ?_⟩;obtain ⟨b, a, l, c, h1, h2⟩ := hc i (by omega);refine ⟨b, a, l, c, h1, ?_⟩;rw [List.getD_eq_getElem?_getD, List.getElem?_take_of_lt hi, ← List.getD_eq_getElem?_getD];exact h2
theorem vf_drop {w : World} {g off n cap k q : Nat} {zs : List Int} (h : VF w (some ⟨g, off, none⟩) n cap zs k) (hq : q ≤ n) : VF w (some ⟨g, off + q * 2, none⟩) (n - q) (cap - q) (zs.drop q) k := by
 have h1 := h.cap_le;have h2 := h.cap_max;refine ⟨by rw [List.length_drop, h.len_eq], by omega, by omega, fun e => by simp at e, fun hp => ?_⟩;obtain ⟨g', off', e, hg, hc⟩ := h.elts (by omega);simp only [Option.some.injEq, Addr.mk.injEq, and_true] at e;obtain ⟨rfl, rfl⟩ := e;refine ⟨g, off + q * 2, rfl, hg, fun i hi => ?_⟩;obtain ⟨b, a, l, c, h3, h4⟩ := hc (q + i) (by omega);refine ⟨b, a, l, c, by rw [show off + q * 2 + i * 2 = off + (q + i) * 2 by omega]; exact h3, ?_⟩;rw [List.getD_eq_getElem?_getD, List.getElem?_drop, ← List.getD_eq_getElem?_getD];exact h4
theorem slice_headV {g off n cap q : Nat} (hq : q ≤ n) (hc : n ≤ cap) : ∀ W, (Instr.sliceAt 24 (.slice (some ⟨g, off, none⟩) n cap) none (some (.int .i64 (q : Int))) none).run Tryz.prog W = .ok (.slice (some ⟨g, off, none⟩) q cap) W := by
 intro W;have h0 : (0 : Int) ≤ (q : Int) := by omega
 simp [Instr.sliceAt, Instr.slice, Instr.sliceBounds, Instr.sliceBound, run_underlying Tryz.underlying24, go_sem, h0];exact fun e => absurd e (by omega)
theorem slice_tailV {g off n cap q : Nat} (hq : q < n) (hc : n ≤ cap) : ∀ W, (Instr.sliceAt 24 (.slice (some ⟨g, off, none⟩) n cap) (some (.int .i64 (q : Int))) none none).run Tryz.prog W = .ok (.slice (some ⟨g, off + q * 2, none⟩) (n - q) (cap - q)) W := by
 intro W;have h0 : (0 : Int) ≤ (q : Int) := by omega
 have c : ¬ cap = q := by omega
 simp [Instr.sliceAt, Instr.slice, Instr.sliceBounds, Instr.sliceBound, run_underlying Tryz.underlying24, go_sem, h0, c];exact fun e => absurd e (by omega)

/-
 What Turned of package hnf tells: the form's rows, and the rows of whole numbers that make them.
-/

theorem MOwn.lt {R : World → Option Addr → Nat → Nat → List Int → Prop} {w : World} {base : Nat} {ao : Option Addr} {n cap : Nat} {rs : List (List Int)} (h : MOwn R w base ao n cap rs) : ∀ g, (Value.slice ao n cap).ownBlock = some g → g < w.heap.size := by
 obtain ⟨⟨vs, hrow, _⟩, _⟩ := h;exact fun g e => (hrow.own.lt g e).2
structure Two (w : World) (base : Nat) (a1 : Option Addr) (n1 c1 : Nat) (rs1 : List (List Int)) (a2 : Option Addr) (n2 c2 : Nat) (rs2 : List (List Int)) (k : Nat) : Prop where
 one : MO w base a1 n1 c1 rs1 k
 two : MO w base a2 n2 c2 rs2 k
 ne : ∀ g, (Value.slice a1 n1 c1).ownBlock = some g → (Value.slice a2 n2 c2).ownBlock = some g → False
theorem Two.za {w w' : World} {base : Nat} {a1 : Option Addr} {n1 c1 : Nat} {rs1 : List (List Int)} {a2 : Option Addr} {n2 c2 : Nat} {rs2 : List (List Int)} {k : Nat} (h : Two w base a1 n1 c1 rs1 a2 n2 c2 rs2 k) (hb : Below w.heap.size w w') : Two w' base a1 n1 c1 rs1 a2 n2 c2 rs2 k := ⟨h.one.za hb, h.two.za hb, h.ne⟩
theorem Two.swap {w : World} {base : Nat} {a1 : Option Addr} {n1 c1 : Nat} {rs1 : List (List Int)} {a2 : Option Addr} {n2 c2 : Nat} {rs2 : List (List Int)} {k : Nat} (h : Two w base a1 n1 c1 rs1 a2 n2 c2 rs2 k) : Two w base a2 n2 c2 rs2 a1 n1 c1 rs1 k := ⟨h.two, h.one, fun g e1 e2 => h.ne g e2 e1⟩
theorem Two.append {w w' : World} {base : Nat} {a1 : Option Addr} {n1 c1 : Nat} {rs1 : List (List Int)} {a2 : Option Addr} {n2 c2 : Nat} {rs2 : List (List Int)} {k : Nat} (h : Two w base a1 n1 c1 rs1 a2 n2 c2 rs2 k) {a3 : Option Addr} {n3 c3 : Nat} {rs3 : List (List Int)} (h3 : MOwn (fun w a l c zs => VF w a l c zs k) w' base a3 n3 c3 rs3) (hg : w.grownBy w' (Value.slice a1 n1 c1).ownBlock)
  (hat : (Value.slice a3 n3 c3).ownBlock = (Value.slice a1 n1 c1).ownBlock ∨ (Value.slice a3 n3 c3).ownBlock = some w.heap.size) : Two w' base a3 n3 c3 rs3 a2 n2 c2 rs2 k := by
 refine ⟨h3, ?_, fun g e1 e2 => ?_⟩
 ·refine MOwn.other (R := fun w a l c zs => VF w a l c zs k) (steadyMO k) h.two hg (MOwn.onlySl (R := fun w a l c zs => VF w a l c zs k) h.one) ?_;by_cases c : (Value.slice a2 n2 c2).ownBlock = none
  ·exact Or.inl c
  ·right
   intro e;obtain ⟨g, eg⟩ := Option.ne_none_iff_exists'.1 c;exact h.ne g (e ▸ eg) eg
 ·rcases hat with e | e
  ·exact h.ne g (e ▸ e1) e2
  ·have h1 := MOwn.lt (R := fun w a l c zs => VF w a l c zs k) h.two g e2;rw [e] at e1;simp only [Option.some.injEq] at e1;omega
theorem two_nil (w : World) (base k : Nat) : Two w base none 0 0 [] none 0 0 [] k := ⟨mo_nil _ _ _, mo_nil _ _ _, fun g e => by simp [Value.ownBlock] at e⟩
def TurnedTo (ls : List (List Int)) (x : Int) (n B : Nat) (w w' : World) (a1 : Option Addr) (m c1 : Nat) (a2 : Option Addr) (c2 : Nat) : Prop := ∃ N : Nat, ∃ p W H, x = (N : Int) ∧ MF w' a1 m c1 ((H.take m).map (List.take N)) B ∧ MF w' a2 n c2 (H.map (List.drop N)) B ∧ HForm H p ∧ SameL W H ∧ WideL ls W N n ∧ m ≤ n ∧ (∀ i, i < n → (i < m ↔ p i < N)) ∧ (∀ i, i < n → (H.getD i []).length = N + n) ∧ Below w.heap.size w w'
set_option maxRecDepth 40000 in
set_option maxHeartbeats 4000000 in
theorem turnedG (ao : Option Addr) (n cap : Nat) (ls : List (List Int)) (k B R : Nat) (x : Int) (w : World) (h : MK w ao n cap ls k) (hx : -9223372036854775808 ≤ x ∧ x ≤ 9223372036854775807) (hq : rform ls x = true) (hbd : ∀ N W, WideL ls W N n → Bounded W B) (hk2 : 2 ≤ k) (hnR : n ≤ R + 1) (hK : k + (R + 1) * (R * (B + 1)) ≤ 80000) (hB8 : B ≤ 80000) (hn : n ≤ 100) :
  Calls Tryz.prog 122 #[.slice ao n cap, .int .i64 x] w fun e w' => ∃ a1 m c1 a2 c2, e = .returned (.tuple #[.slice a1 m c1, .slice a2 n c2, .int .i64 0]) ∧ TurnedTo ls x n B w w' a1 m c1 a2 c2 := by
 obtain ⟨N, rfl, hN1, hN2, hNr⟩ := rform_rows hq;have HN := zh (rows_len hNr);have HL := zh h.len_eq;clear hNr;go_enter Tryz.func122, Tryz.ntmps122
 go_wp2_with fail
 refine (rowsFormK ao n cap ls (N : Int) w h.ml hx true hq).mono ?_;rintro e w1 ⟨rfl, hb1⟩;have hk := h.za hb1;have HB := zh hb1;clear hb1 h
 go_wp2_with fail
 refine (besideUnitsK ao n cap ls k N _ hk hk2 (by omega) (by rw [← zu HL]; exact zu HN) (by omega) (by omega)).mono ?_;rintro e w2 ⟨a0, c0, W, rfl, hw, hwide, hlw, hb1⟩;have HW := zh hwide;have HLW := zh hlw;have HBD := zh (hbd N W hwide);clear hbd;replace HB := zh (Below.step (zu HB) hb1);clear hb1 hk hwide hlw
 go_wp2_with fail
 refine (stairsK a0 n c0 W k (N + n) B R _ hw (zu HLW) (zu HBD) hnR hK hB8 hn (by omega)).mono ?_;rintro e w3 ⟨a1, m', c1, p, H, rfl, hown, hf, hs1, hNs, hm, hb1⟩;have hl := hown.len;have hcount := (zu HW).count hf hs1;obtain rfl : n = m' := by omega
 obtain ⟨m, hm1, hm2⟩ := front_rows hf N n (by omega);have hst := hown.rows;have HF := zh hf;have HS := zh hs1;have HM := zh hNs;have HML := zh hl;have HFR := zh hm2;replace HB := zh (Below.step (zu HB) hb1);clear hb1 hf hs1 hNs hown hl hw hcount hm2;have hsz2 := (zu HB).size
 go_wp2_with fail
 go_loopw [4, 5, 17] (fun s s2 t wr => ∃ (i : Nat) (a1 : Option Addr) (c1 : Nat) (a2 : Option Addr) (c2 : Nat), i ≤ n ∧ t = .int .i64 (i : Int) ∧ s = .slice a1 (min i m) c1 ∧ s2 = .slice a2 i c2 ∧ Two wr w3.heap.size a1 (min i m) c1 ((H.take (min i m)).map (List.take N)) a2 i c2 ((H.take i).map (List.drop N)) B ∧ Below w3.heap.size w3 wr) (fun _ _ t _ => n - (intOf t).toNat)
 case atStart => exact ⟨0, none, 0, none, 0, Nat.zero_le _, rfl, by simp, rfl, by simpa using two_nil _ _ _, Below.refl _ _⟩
 case round =>
  obtain ⟨i, a1, c1, a2, c2, hi, rfl, rfl, rfl, htw, hB⟩ := hrel;have HC := zh hB;have HT := zh htw;clear hB htw;by_cases hlt : i < n
  ·obtain ⟨g, off, rfl⟩ := hst.some (by omega);obtain ⟨hg, a5, l5, c5, x1, x2, hr5⟩ := hst.at hlt;have hl5 : N + n = l5 := by rw [← hr5.len_eq]; exact (zu HM i hlt).symm
   subst hl5;obtain ⟨g5, o5, rfl⟩ := hr5.some (by omega);have f1 := ((zu HC).cell (p := ⟨g, off + i * 2, none⟩) hg).trans x1;have f2 := ((zu HC).cell (p := ⟨g, off + i * 2 + 1, none⟩) hg).trans x2;have hgr := Nat.lt_of_lt_of_le hg (zu HC).size;replace hr5 := hr5.za (zu HC);have hi0 : (0 : Int) ≤ (i : Int) := by omega
   have hi1 : (i : Int) < (n : Int) := by omega
   have hszr := (zu HC).size;have hcap5 := hr5.cap_le;have hsl1 := slice_headV (g := g5) (off := o5) (n := N + n) (cap := c5) (q := N) (by omega) hcap5;have hsl2 := slice_tailV (g := g5) (off := o5) (n := N + n) (cap := c5) (q := N) (by omega) hcap5;rw [show N + n - N = n by omega] at hsl2;have HSL1 := zh hsl1;have HSL2 := zh hsl2;clear hsl1 hsl2;obtain ⟨WA, hWA⟩ : ∃ WA, WA = wr.alloc (.cells #[.int .i64 (p i : Int), .slice (some ⟨g5, o5, none⟩) (N + n) c5] 98) := ⟨_, rfl⟩;have hbA : Below wr.heap.size wr WA := by rw [hWA]; exact below_new _ _
   have hBX : SBox WA wr.heap.size (p i : Int) (some ⟨g5, o5, none⟩) (N + n) c5 := by rw [hWA]; exact sbox_new wr _ _ _ _ rfl
   have hTA := (zu HT).za hbA;have hrA := hr5.za hbA;have hHA := Below.step (zu HC) hbA;have hszA : w3.heap.size ≤ WA.heap.size := hHA.size;have hnb : (Value.slice a1 (min i m) c1).ownBlock ≠ some wr.heap.size := fun e => Nat.lt_irrefl _ (MOwn.lt (R := fun w a l c zs => VF w a l c zs B) (zu HT).one _ e);clear hbA HT;by_cases hpi : p i < N
   ·skip
    have him : i < m := (zu HFR i hlt).2 hpi;rw [show min i m = i by omega] at hTA hnb ⊢;have hp1 : (p i : Int) < (N : Int) := by omega
    have hhead := vf_take hrA (q := N) (by omega);have hsl := zu HSL1
    go_wp2_with fail
    rw [← hWA];refine (cloneK (some ⟨g5, o5, none⟩) N c5 ((H.getD i []).take N) B _ hhead (by omega) (by omega)).mono ?_;rintro e w6 ⟨a6, c6, rfl, h6, hb6⟩;have hone6 := mf_one h6;have hb7 := Below.step hb6 (below_new w6 (.cells #[.slice a6 N c6] 24));have TX2 := hTA.za hb7;have hs6 : w3.heap.size ≤ (w6.alloc (.cells #[.slice a6 N c6] 24)).heap.size := Nat.le_trans hszA hb7.size;have HD6 := zh (Below.step hHA hb7);have TX := zh TX2;have ht1 := TX2.one;have htl := vf_drop (hrA.za hb7) (q := N) (by omega);rw [show N + n - N = n by omega] at htl;have HTL := zh htl;have HBX := zh (hBX.za hb7);clear h6 hb6 hb7 TX2 hTA hHA hszA hrA hhead hsl hBX hWA htl f1 f2 hgr hr5
    go_wp2_with (at_builtin; (refine append_at (R := fun w a l c zs => VF w a l c zs B) (steadyMO B) rfl (.tmp 25) (.tmp 31) 22 Tryz.underlying22 rfl w3.heap.size a1 i c1 ((H.take i).map (List.take N)) rfl ht1 _ 1 1 [(H.getD i []).take N] rfl hone6 (by omega) (by omega) hs6 ?_))
    intro ah ch w7 hown7 hgr7 hat7;have HD := zh ((zu HD6).grown hgr7 hs6 (MO.ge ht1));have hszT : w3.heap.size ≤ w7.heap.size := (zu HD).size;have TW := zh ((zu TX).append hown7 hgr7 (by simpa using hat7));have htail := steadyMO B (zu HTL) hgr7 (MOwn.onlySl (R := fun w a l c zs => VF w a l c zs B) ht1);have BX := (zu HBX).other hgr7 hnb;obtain ⟨z1, z2, z3, z4⟩ := BX.zb;have hsl := zu HSL2;clear hgr7 hone6 hs6 ht1 hown7 hat7 TX HD6 HTL HBX BX
    go_wp2_with fail
    clear z1 z2 z3 z4 hsl;refine (cloneK (some ⟨g5, o5 + N * 2, none⟩) n (c5 - N) ((H.getD i []).drop N) B _ htail (by omega) (by omega)).mono ?_;rintro e w8 ⟨a8, c8, rfl, h8, hb8⟩;have hone8 := mf_one h8;have TX2 := ((zu TW).za hb8).za (below_new w8 (.cells #[.slice a8 n c8] 24));have hs8 : w3.heap.size ≤ (w8.alloc (.cells #[.slice a8 n c8] 24)).heap.size := Nat.le_trans hszT (Below.step hb8 (below_new w8 (.cells #[.slice a8 n c8] 24))).size;have HD8 := zh (Below.step (zu HD) (Below.step hb8 (below_new w8 (.cells #[.slice a8 n c8] 24))));have TX := zh TX2;have ht2 := TX2.two;clear h8 hb8 TX2 TW HD
    go_wp2_with (at_builtin; (refine append_at (R := fun w a l c zs => VF w a l c zs B) (steadyMO B) rfl (.tmp 33) (.tmp 39) 22 Tryz.underlying22 rfl w3.heap.size a2 i c2 ((H.take i).map (List.drop N)) rfl ht2 _ 1 1 [(H.getD i []).drop N] rfl hone8 (by omega) (by omega) hs8 ?_))
    intro an cn w9 hown9 hgr9 hat9;have HD9 := zh ((zu HD8).grown hgr9 hs8 (MO.ge ht2));have HT9 := zh (((zu TX).swap.append hown9 hgr9 (by simpa using hat9)).swap);clear hgr9 hone8 hs8 ht2 hown9 hat9 TX HD8;go_wp2;go_roundw
    case rel =>
     refine ⟨i + 1, ah, ch, an, cn, by omega, by go_num, by rw [show min (i + 1) m = i + 1 by omega], rfl, ?_, zu HD9⟩;rw [show min (i + 1) m = i + 1 by omega, take_all_snoc (ls := H) (by rw [zu HML]; exact hlt)];simpa only [List.map_append, List.map_cons, List.map_nil, List.map_take, List.getD_eq_getElem?_getD] using zu HT9
    case measure => simp [intOf]; omega
   ·skip
    have him : ¬ i < m := fun c => hpi ((zu HFR i hlt).1 c);rw [show min i m = m by omega] at hTA ⊢;have hp1 : ¬ (p i : Int) < (N : Int) := by omega
    have hsl := zu HSL2;have htail := vf_drop hrA (q := N) (by omega);rw [show N + n - N = n by omega] at htail;have hszT := hszA;have TW := zh hTA;have HD := zh hHA;clear hTA hHA hszA hBX
    go_wp2_with fail
    rw [← hWA];clear hsl hWA f1 f2 hgr hr5;refine (cloneK (some ⟨g5, o5 + N * 2, none⟩) n (c5 - N) ((H.getD i []).drop N) B _ htail (by omega) (by omega)).mono ?_;rintro e w8 ⟨a8, c8, rfl, h8, hb8⟩;have hone8 := mf_one h8;have TX2 := ((zu TW).za hb8).za (below_new w8 (.cells #[.slice a8 n c8] 24));have hs8 : w3.heap.size ≤ (w8.alloc (.cells #[.slice a8 n c8] 24)).heap.size := Nat.le_trans hszT (Below.step hb8 (below_new w8 (.cells #[.slice a8 n c8] 24))).size;have HD8 := zh (Below.step (zu HD) (Below.step hb8 (below_new w8 (.cells #[.slice a8 n c8] 24))));have TX := zh TX2;have ht2 := TX2.two;clear h8 hb8 TX2 TW HD
    go_wp2_with (at_builtin; (refine append_at (R := fun w a l c zs => VF w a l c zs B) (steadyMO B) rfl (.tmp 33) (.tmp 39) 22 Tryz.underlying22 rfl w3.heap.size a2 i c2 ((H.take i).map (List.drop N)) rfl ht2 _ 1 1 [(H.getD i []).drop N] rfl hone8 (by omega) (by omega) hs8 ?_))
    intro an cn w9 hown9 hgr9 hat9;have HD9 := zh ((zu HD8).grown hgr9 hs8 (MO.ge ht2));have HT9 := zh (((zu TX).swap.append hown9 hgr9 (by simpa using hat9)).swap);clear hgr9 hone8 hs8 ht2 hown9 hat9 TX HD8;go_wp2;go_roundw
    case rel =>
     refine ⟨i + 1, a1, c1, an, cn, by omega, by go_num, by rw [show min (i + 1) m = m by omega], rfl, ?_, zu HD9⟩;rw [show min (i + 1) m = m by omega, take_all_snoc (ls := H) (by rw [zu HML]; exact hlt)];simpa only [List.map_append, List.map_cons, List.map_nil, List.map_take, List.getD_eq_getElem?_getD] using zu HT9
    case measure => simp [intOf]; omega
  ·have hin : i = n := by omega
   subst hin;have hi1 : ¬ (i : Int) < (i : Int) := by omega
   rw [show min i m = m by omega] at HT;rw [show H.take i = H from List.take_of_length_le (by rw [zu HML]; exact Nat.le_refl _)] at HT;go_wp2
   go_ret3
   exact ⟨_, _, _, _, _, rfl, _, _, _, _, rfl, (zu HT).one.mf, (zu HT).two.mf, zu HF, zu HS, zu HW, hm1, zu HFR, zu HM, Below.step (zu HB) (zu HC)⟩

end Go.Proofs.YtkomdimalgnamaaGreat
