/-
 What Gram of package lll tells: the determinants, and each row's shares, in memory of its own.
-/
import Derived.Test.YtnpneloahajniaaGreatLShare
import Derived.Test.YtnpneloahajniaaGreatGramMore
import Derived.Test.YtnpneloahajniaaGreatJF
namespace Go.Proofs.YtnpneloahajniaaGreat
open Go.RowKit Lb
set_option maxRecDepth 20000

theorem slice_headI {g off n cap q : Nat} (hq : q ≤ n) (hc : n ≤ cap) : ∀ W, (Instr.sliceAt 29 (.slice (some ⟨g, off, none⟩) n cap) none (some (.int .i64 (q : Int))) none).run Tryz.prog W = .ok (.slice (some ⟨g, off, none⟩) q cap) W := by
 intro W;have h0 : (0 : Int) ≤ (q : Int) := by omega
 simp [Instr.sliceAt, Instr.slice, Instr.sliceBounds, Instr.sliceBound, run_underlying Tryz.underlying29, go_sem, h0];exact fun e => absurd e (by omega)
theorem VK.take1 {w : World} {g off n cap k q : Nat} {zs : List Int} (h : VK w (some ⟨g, off, none⟩) n cap zs k) (hq : q ≤ n) : VK w (some ⟨g, off, none⟩) q cap (zs.take q) k := by
 refine ⟨by rw [List.length_take, h.len_eq]; omega, Nat.le_trans hq h.cap_le, h.cap_max, fun e => by simp at e, fun hp => ?_⟩;obtain ⟨g', off', e, hg, hc⟩ := h.elts (by omega);refine ⟨g', off', e, hg, fun i hi => ?_⟩;obtain ⟨b, a, l, c, h1, h2⟩ := hc i (by omega);refine ⟨b, a, l, c, h1, ?_⟩;rw [show (zs.take q).getD i 0 = zs.getD i 0 by simp [List.getD, hi]];exact h2
theorem take_getD {zs : List Int} {q i : Nat} (h : i < q) : (zs.take q).getD i 0 = zs.getD i 0 := by simp [List.getD, h]
theorem made_rows {w w' : World} {base n : Nat} (h1 : w'.ownsRow base 39 1 (.slice (some ⟨w.heap.size, 0, none⟩) n n) n (madeCells (Value.slice none 0 0).cells (n * 1)).toList) : ∃ us : List (Option Addr × Nat × Nat), OwnP isSl w' base 39 1 (.slice (some ⟨w.heap.size, 0, none⟩) n n) n (us.map sv) := by
 have e0 : (List.replicate n ((none, 0, 0) : Option Addr × Nat × Nat)).map sv = (madeCells (Value.slice none 0 0).cells (n * 1)).toList := by
  have e : ∀ j, ((madeCells (Value.slice none 0 0).cells (n * 1)).toList)[j]? = if j < n then some (.slice none 0 0) else none := fun j => by
   rw [Array.getElem?_toList];simp only [madeCells, Value.cells];rw [Array.getElem?_map, Array.getElem?_range];by_cases hj : j < n
   ·simp [hj, Nat.mod_one]
   ·simp [hj]
  refine List.ext_getElem? fun j => ?_;rw [e j, List.getElem?_map, List.getElem?_replicate];by_cases hj : j < n
  ·simp [hj, sv]
  ·simp [hj]
 refine ⟨List.replicate n (none, 0, 0), ⟨by rw [e0]; exact h1, fun g hg' j u hu => ?_⟩⟩;simp only [Value.ownBlock, Option.some.injEq] at hg';subst hg';rcases h1.2 with ⟨h, _⟩ | ⟨g, cap, cur, h, _, hh, hnc, _, hs, htake⟩
 ·simp at h
 ·simp only [Value.slice.injEq, Option.some.injEq, Addr.mk.injEq, and_true, true_and] at h;obtain ⟨rfl, rfl⟩ := h;rw [Joins.cell_of_block hh j, ← Array.getElem?_toList] at hu;rw [List.take_of_length_le (by rw [Array.length_toList, hs]; exact Nat.le_refl _)] at htake;rw [htake] at hu;exact sl_zero u (madeCells_in (Array.mem_toList_iff.1 (List.mem_of_getElem? hu)) (by decide))
theorem step_make_g {w : World} {ops : Array Oper} {o : Oper} {a : Act} {K : Act → World → Prop} {Q : Exit → Act → World → Prop} {E : Prop} (hgd : o.guard = none) (l c : Operand) (t : TypeId) (ht : Tryz.prog.underlying t = some (.slice 39)) (hop : o.op = Op.makeSlice t l c)
  (base : Nat) (kl kc : IntKind) (L C : Int) (n k : Nat) (hl : a.eval l = .int kl L) (hc : a.eval c = .int kc C) (hL : L = (n : Int)) (hC : C = (n : Int)) (hn : n ≤ 1000000) (hbase : base ≤ w.heap.size)
  (h : ∀ us w', GRows w' base w.heap.size n n us (fun _ => 0) [] k 0 → w.grownBy w' none → K (a.put o.dst (.slice (some ⟨w.heap.size, 0, none⟩) n n)) w') : if Region.wanted o (yielded ops a.tmps) = true then Oper.wp Tryz.prog o a w K Q else E := by
 have hw : Region.wanted o (yielded ops a.tmps) = true := by simp [Region.wanted, hgd]
 rw [if_pos hw];obtain ⟨i0, hi, hz0, hz1, hz2⟩ := info_parts info_vec;obtain ⟨w', hrun, r1, r2⟩ := run_make_full (P := Tryz.prog) w base t 39 i0 (.slice none 0 0) 1 ht hi hz0 hz1 kl kc n (by rw [hz2]; omega) (by unfold maxLen; omega) hbase;obtain ⟨us, hus⟩ := made_rows r1;subst hL;subst hC;unfold Oper.wp;simp [execOp, hop, hl, hc, hrun, Result.andThen];exact h us w' ⟨hus, fun i hi => absurd hi (by omega), fun i hi => absurd hi (by omega), fun i _ hi => absurd hi (by omega), rfl⟩ r2
theorem gd_ne {w : World} {base b' gd n cd k g m cap : Nat} {ds : List Int} {us : List (Option Addr × Nat × Nat)} {U : Nat → Nat} {gs : List (List Int)} {q : Nat} (hd : OwnV w base (some ⟨gd, 0, none⟩) n cd ds k) (hg : GRows w b' g m cap us U gs k q) : gd ≠ g := by
 intro e;subst e;obtain ⟨_, ⟨cs, h2⟩, _⟩ := hd;rcases h2.2 with ⟨h, _⟩ | ⟨g1, cap1, cur1, hv1, _, hh1, _⟩
 ·simp at h
 ·rcases hg.own.own.2 with ⟨h, _⟩ | ⟨g2, cap2, cur2, hv2, _, hh2, _⟩
  ·simp at h
  ·simp only [Value.slice.injEq, Option.some.injEq, Addr.mk.injEq, and_true, true_and] at hv1 hv2;rw [← hv1.1] at hh1;rw [← hv2.1, hh1] at hh2;simp at hh2
def GramTo (N n Kc : Nat) (b : Nat → Nat → Int) (w : World) (e : Ending) (w' : World) : Prop := ∃ gd cd gg us U, e = .returned (.tuple #[.slice (some ⟨gd, 0, none⟩) (n + 1) cd, .slice (some ⟨gg, 0, none⟩) n n]) ∧ OwnV w' w.heap.size (some ⟨gd, 0, none⟩) (n + 1) cd (gramDs N b n) Kc ∧ GRows w' w.heap.size gg n n us U (gramGs N b n) Kc n ∧ (∀ t, t < n → U t ≠ gd) ∧ gd ≠ gg ∧ Below w.heap.size w w'
set_option maxRecDepth 40000 in
set_option maxHeartbeats 8000000 in
theorem gramK (ao : Option Addr) (n cap : Nat) (rs : List (List Int)) (k N q Kc : Nat) (w : World) (h : MK w ao n cap rs k) (hk : k ≤ 10000) (hn : n ≤ 100) (hN : ∀ i, i < n → (rs.getD i []).length ≤ N) (hN9 : N ≤ 1000) (hq : ∀ t, t < n → (dotN N (ent rs t) (ent rs t)).natAbs < Bp q) (hK : (n + 1) * q + 1 ≤ Kc) (hK2 : Kc ≤ 100000) (hK3 : 2 ≤ Kc) :
  Calls Tryz.prog 12 #[.slice ao n cap] w fun e w' => GramTo N n Kc (ent rs) w e w' := by
 have hL := h.len_eq;obtain ⟨b, eb⟩ : ∃ b, b = ent rs := ⟨_, rfl⟩;rw [← eb] at hq ⊢;have EB := zh eb;have HN := zh hN;have HM : Hid (∀ t i j, t ≤ i → i < n → j < n → gramD N b t ≠ 0 → (gramM N b t i j).natAbs < Bp Kc) := zh fun t i j ht hi hj h0 => by
  refine Nat.lt_of_lt_of_le (gramM_lt hq (by omega) hi hj h0) (Bp_le ?_);have : (t + 1) * q ≤ (n + 1) * q := Nat.mul_le_mul_right _ (by omega);rw [Nat.add_mul, Nat.one_mul] at this;omega
 clear eb hN hq hK;go_enter Tryz.func12, Tryz.ntmps12
 go_upto_region 1 with fail
 have HW : Below w.heap.size w w.drew := (Below.refl _ _).drew;have HS := zh fun w' (HW : Below w.heap.size w w') => con2 HW.size HW.size;refine zst HS HW 6 (by kernel_rfl) fun zH => ?_;obtain ⟨vd1, hvd⟩ : ∃ v, v = w.drew := ⟨_, rfl⟩;rw [← hvd] at HW zH ⊢;clear hvd;refine zfl 2 rfl ?_;simp only [zP];refine ztm 3 rfl ?_;simp only [zP];refine znm (fun act0 hact0 => ?_);have HA := zh hact0;clear hact0;refine zmd 1 #[tT, tT, tT, tT, tT, tT, tF] (ι := Bool × Option Addr × Nat × Nat × Nat × Nat × List (Option Addr × Nat × Nat)) (fun (b1, a1, l1, c1, gd, gg, us) => ((((act0.put (some 8) (.agg #[.bool b1, .slice a1 l1 c1])).put (some 9) ((.slice (some ⟨gd, 0, none⟩) 1 1))).put (some 12) ((.slice (some ⟨gg, 0, none⟩) n n))).put (some 2) ((.slice (some ⟨gd, 0, none⟩) 1 1)))) (fun (b1, a1, l1, c1, gd, gg, us) wz => Below w.heap.size w wz ∧ OwnV wz w.heap.size (some ⟨gd, 0, none⟩) 1 1 [1] Kc ∧ GRows wz w.heap.size gg n n us (fun _ => 0) [] Kc 0) ?_ (fun J0 => ?_)
 ·rintro ⟨b1, a1, l1, c1, gd, gg, us⟩ wj hI
  try dsimp only at hI ⊢
  obtain ⟨HW, hd, hg⟩ := hI;have zH := zu HS _ HW;rw [zu HA];simp only [Act.put, aSet, aHead, aTail];refine tout 6 rfl fun K hK => ?_;go_simp;refine hK.out _ _ ?_;clear hK K
  try simp only [aSet, aHead, aTail]
  refine zdn (by kernel_rfl) ?_ _;obtain ⟨wj, ewj⟩ : ∃ w3, w3 = wj := ⟨_, rfl⟩;rw [← ewj] at HW hd hg ⊢;clear ewj zH;have hne := gd_ne hd hg;have HB := zh HW;clear HW
  go_wp2_with fail
  go_loopw [2, 15] (fun s t wr => ∃ (i gd cd : Nat) (us : List (Option Addr × Nat × Nat)) (U : Nat → Nat), i ≤ n ∧ t = .int .i64 (i : Int) ∧ s = .slice (some ⟨gd, 0, none⟩) (i + 1) cd ∧ OwnV wr w.heap.size (some ⟨gd, 0, none⟩) (i + 1) cd (gramDs N b i) Kc ∧ GRows wr w.heap.size gg n n us U (gramGs N b i) Kc i ∧ (∀ t, t < i → U t ≠ gd) ∧ gd ≠ gg ∧ Below w.heap.size w wr) (fun _ t _ => n - (intOf t).toNat)
  case atStart => exact ⟨0, gd, 1, us, fun _ => 0, Nat.zero_le _, rfl, rfl, hd, hg, fun t ht => absurd ht (by omega), hne, zu HB⟩
  case round =>
   clear hd hg HB hne;obtain ⟨wo, ewo⟩ : ∃ x, x = wr := ⟨_, rfl⟩;rw [← ewo] at hrel ⊢;clear ewo;obtain ⟨i, gd, cd, us, U, hi, rfl, rfl, hd, hg, hUd, hne, hB⟩ := hrel;have HB := zh hB;have HUD := zh hUd;have hwo := hB.size;clear hB hUd;by_cases hlt : i < n
   ·obtain ⟨g, off, rfl⟩ := h.addr (by omega);obtain ⟨hg0, a5, l5, c5, hc5, hv5⟩ := RowsOf.at (R := fun w a l c zs => VK w a l c zs k) h hlt;have f2 := ((zu HB).cell (p := ⟨g, off + i, none⟩) hg0).trans hc5;have hgr0 := Nat.lt_of_lt_of_le hg0 (zu HB).size;replace hv5 := hv5.za (zu HB);have hl5 := hv5.len_eq;have hi0 : (0 : Int) ≤ (i : Int) := by omega
    have hi1 : (i : Int) < (n : Int) := by omega
    clear hc5
    go_wp2_with (at_make; refine make_vec rfl _ _ 39 Tryz.underlying39 rfl wo.heap.size .i64 .i64 _ _ i Kc rfl rfl (by omega) (by omega) (by omega) (by omega) ?_)
    intro w2 hown hgrow;have hb9 : Below wo.heap.size wo w2 := (Below.refl _ _).grown hgrow (Nat.le_refl _) (fun _ h => by simp at h);obtain ⟨gs, egs⟩ : ∃ gs, gs = wo.heap.size := ⟨_, rfl⟩;rw [show (some ⟨wo.heap.size, 0, none⟩ : Option Addr) = some ⟨gs, 0, none⟩ by rw [egs]] at hown ⊢;have hgsd : gd < gs := by rw [egs]; exact hd.base_le.2
    have hgsg : gg < gs := by rw [egs]; exact hg.lt.2
    have hgsU : ∀ t, t < i → U t < gs := fun t ht => by rw [egs]; obtain ⟨_, _, _, ho⟩ := hg.row t ht; exact ho.base_le.2
    have HGU := zh hgsU;have HC := zh hb9;clear hgrow hb9 egs hgsU f2 hgr0
    go_wp2_with fail
    go_loopw [24] (fun t wr => ∃ (j : Nat) (ps : List Int), j ≤ i ∧ t = .int .i64 (j : Int) ∧ OwnV wr wo.heap.size (some ⟨gs, 0, none⟩) i i ps Kc ∧ (∀ t, t < j → ps.getD t 0 = gramV N b i t) ∧ Below wo.heap.size wo wr) (fun t _ => i - (intOf t).toNat)
    case atStart => exact ⟨0, _, Nat.zero_le _, rfl, hown, fun t ht => absurd ht (by omega), zu HC⟩
    case round =>
     clear hown HC;obtain ⟨j, ps, hj, rfl, hown, hall, hBq⟩ := hrel;have HC := zh hBq;have HA := zh hall;clear hBq hall;by_cases hjn : j < i
     ·have hbb := Below.step (zu HB) (zu HC);obtain ⟨hg0, a6, l6, c6, hc6, hv6⟩ := RowsOf.at (R := fun w a l c zs => VK w a l c zs k) h (show j < n by omega);have x6 := (hbb.cell (p := ⟨g, off + j, none⟩) hg0).trans hc6;have hgr := Nat.lt_of_lt_of_le hg0 hbb.size;replace hv6 := hv6.za hbb;have hv5q := hv5.za (zu HC);have hdq := hd.za (zu HC);obtain ⟨lj, cj, hlj, _, x7, hu7⟩ := (hg.za (zu HC)).at hjn;have hlj2 : lj = j := by rw [hlj, gramGs_at hjn, gramL_len]
      clear hlj;subst hlj2;rw [gramGs_at hjn] at hu7;obtain ⟨u, eu⟩ : ∃ u, u = U lj := ⟨_, rfl⟩;rw [← eu] at x7 hu7;clear eu;have hggq := (hg.za (zu HC)).lt.2;have hl6 := hv6.len_eq;have hN5 := zu HN i hlt;have hN6 := zu HN lj (by omega);have hj0 : (0 : Int) ≤ (lj : Int) := by omega
      have hj1 : (lj : Int) < (n : Int) := by omega
      have hj2 : (lj : Int) < (i : Int) := by omega
      obtain ⟨j1, ej1⟩ : ∃ j1, j1 = lj + 1 := ⟨_, rfl⟩;have hw1 : IntKind.i64.wrap ((lj : Int) + 1) = (j1 : Int) := by rw [IntKind.wrap_i64]; omega
      obtain ⟨i1, ei1⟩ : ∃ i1, i1 = i + 1 := ⟨_, rfl⟩;rw [← ei1] at hdq;have hdt := VK.take1 (hdq.vf.vk (by omega)) (show j1 ≤ i1 by omega);have hst := slice_headI (g := gd) (off := 0) (n := i1) (cap := cd) (q := j1) (by omega) hdq.vf.cap_le;have hdot : vdot (rs.getD i []) (rs.getD lj []) = gramM N b 0 i lj := by rw [gramM_zero, zu EB]; exact vdot_ent hN6
      have HD := zh hdot;have EJ := zh ej1;have EI := zh ei1;have hj3 : (0 : Int) ≤ (j1 : Int) := by omega
      have hj4 : (j1 : Int) ≤ (i1 : Int) := by omega
      have hown7 := hown.vf.vk (show Kc ≤ 999990 by omega);clear hc6 hbb hdot ej1 ei1;rw [← zu EI]
      go_upto_region 9 with fail
      have HW : Below wr.heap.size wr wr.drew := (Below.refl _ _).drew;have HS := zh fun w' (HW : Below wr.heap.size wr w') => con2 ((HW.cell (p := ⟨g, off + lj, none⟩) hgr).trans x6) ((HW.cell (p := ⟨gg, lj, none⟩) hggq).trans x7);refine zst HS HW 19 (by kernel_rfl) fun zH => ?_;refine ztl 0 rfl ?_;simp only [Act.put, aGet, aZero, aSet, aHead, aTail];refine ztl 1 rfl ?_;simp only [zP];refine ztl 2 rfl ?_;simp only [zP];refine ztl 3 rfl ?_;simp only [zP];refine ztl 4 rfl ?_;simp only [zP];refine ztl 5 rfl ?_;simp only [zP];refine ztl 6 rfl ?_;simp only [zP];refine ztl 8 rfl ?_;simp only [zP];refine ztl 9 rfl ?_;simp only [zP];refine ztl 10 rfl ?_;simp only [zP];refine ztl 11 rfl ?_;simp only [zP];refine ztl 12 rfl ?_;simp only [zP];refine ztl 13 rfl ?_;simp only [zP];refine ztl 14 rfl ?_;simp only [zP];refine ztl 15 rfl ?_;simp only [zP];refine ztl 16 rfl ?_;simp only [zP];refine tin 7 rfl fun K hK => ?_;go_simp;refine (vdotK a5 l5 c5 (rs.getD i []) k a6 l6 c6 (rs.getD lj []) k _ (hv5q.za HW) (hv6.za HW) (by omega) (by omega) (by omega) (by omega)).mono ?_;rintro e w9 ⟨b7, a7, l7, c7, rfl, h7, hb9⟩;replace HW := Below.step HW hb9;clear hb9;rw [zu HD] at h7;replace h7 : FK w9 b7 a7 l7 c7 (gramM N b 0 i lj) Kc := ⟨h7.1, zu HM 0 i lj (Nat.zero_le _) hlt (by omega) (by rw [gramD_zero]; decide)⟩;refine hK.out _ _ ?_ (fun zH => ?_)
      ·exact zu HS _ HW
      clear hK K
      try simp only [zP]
      refine tin 17 rfl fun K hK => ?_;go_simp;refine (shareK b7 a7 l7 c7 (gramM N b 0 i lj) _ i i ps _ lj cj (gramL N b lj) gd 0 j1 cd ((gramDs N b i).take j1) lj (fun t => gramM N b t i lj) Kc _ h7 (hown7.za HW) ((hu7.za HW).vf.vk (by omega)) (hdt.za HW) (by omega) (by omega) (by omega) (Nat.le_refl _) (zu EJ) rfl (gramV N b i lj) (by rw [take_getD (by have := zu EJ; omega), gramDs_at (by omega)]; rfl) (fun h0 => ?_)).mono ?_
      ·rw [take_getD (by have := zu EJ; omega), gramDs_at (by omega)] at h0;exact ⟨rfl, fun t ht => by rw [take_getD (by have := zu EJ; omega), take_getD (by have := zu EJ; omega), gramDs_at (by omega), gramDs_at (by omega), zu HA t ht, gramL_at ht]; exact share_step h0 ht i lj, fun t ht => zu HM t i lj (by omega) hlt (by omega) (by have := gramD_all h0 t ht; omega)⟩
      rintro e w9 ⟨b8, a8, l8, c8, rfl, h8, hb9⟩;replace HW := Below.step HW hb9;clear hb9 h7;refine hK.out _ _ ?_ (fun zH => ?_)
      ·exact zu HS _ HW
      clear hK K
      try simp only [zP]
      refine ztl 18 rfl ?_;simp only [zP];obtain ⟨b0, a0, l0, c0, he0, _⟩ := (hown.za HW).vf.at hjn;rw [Nat.zero_add] at he0;obtain ⟨q1, q2⟩ := he0.zb;have q3 := (hown.za HW).free (lj * 2);have q4 := (hown.za HW).free (lj * 2 + 1);have hbl := (hown.za HW).base_le;clear he0;refine tout 19 rfl fun K hK => ?_;go_simp;refine hK.out _ _ ?_;clear hK K
      try simp only [zP]
      refine zdn (by kernel_rfl) ?_ _;clear zH q1 q2 q3 q4;have hown9 := (hown.za HW).set hjn h8;have HB9 := zh ((((zu HC).trans (HW.mono (zu HC).size)).setCell (p := ⟨gs, lj * 2, none⟩) (by simpa using hbl.1) (.bool b8)).setCell (p := ⟨gs, lj * 2 + 1, none⟩) (by simpa using hbl.1) (.slice a8 l8 c8));have hln := hown.len;clear HW hown hown7 hdq hdt hst hu7 x6 x7 hv6 hv5q h8 HC;go_wp2;go_roundw
      case rel =>
       refine ⟨j1, ps.set lj (gramV N b i lj), by have := zu EJ; omega, by go_num, hown9, fun t ht => ?_, zu HB9⟩;have hej := zu EJ;by_cases e : t = lj
       ·subst e; simp [List.getD, show t < ps.length by omega]
       ·rw [show (ps.set lj (gramV N b i lj)).getD t 0 = ps.getD t 0 by simp [List.getD, List.getElem?_set_ne (Ne.symm e)]];exact zu HA t (by omega)
      case measure => simp [intOf]; have := zu EJ; omega
     ·have hji : j = i := by omega
      subst hji;have hjj : ¬ (j : Int) < (j : Int) := by omega
      have hps : ps = gramL N b j := vec_ext (by rw [hown.len, gramL_len]) fun t ht => by rw [hown.len] at ht; rw [zu HA t ht, gramL_at ht]
      subst hps;have hB2 := Below.step (zu HB) (zu HC);replace hd := hd.za (zu HC);replace hg := hg.za (zu HC);replace hv5 := hv5.za (zu HC);replace HB := zh hB2;have hlr := hown.base_le;have hbs := (zu HC).size;clear hB2 HC HA;have hN5 := zu HN j hlt
      go_wp2_with fail
      refine (vdotK a5 l5 c5 (rs.getD j []) k a5 l5 c5 (rs.getD j []) k _ hv5 hv5 (by omega) (by omega) (by omega) (by omega)).mono ?_;rintro e w5 ⟨b8, a8, l8, c8, rfl, h8, hb9⟩;replace hd := hd.za hb9;replace hg := hg.za hb9;replace hown := hown.za hb9;replace HB := zh (Below.step (zu HB) hb9);have hbs2 := hb9.size;have hdot : vdot (rs.getD j []) (rs.getD j []) = gramM N b 0 j j := by rw [gramM_zero, zu EB]; exact vdot_ent hN5
      rw [hdot] at h8;replace h8 : FK w5 b8 a8 l8 c8 (gramM N b 0 j j) Kc := ⟨h8.1, zu HM 0 j j (Nat.zero_le _) hlt hlt (by rw [gramD_zero]; decide)⟩;clear hb9 hdot hv5
      go_wp2_with fail
      have hown7 := hown.vf.vk (show Kc ≤ 999990 by omega);refine (shareK b8 a8 l8 c8 (gramM N b 0 j j) _ j j (gramL N b j) _ j j (gramL N b j) gd 0 (j + 1) cd (gramDs N b j) j (fun t => gramM N b t j j) Kc _ h8 hown7 hown7 (hd.vf.vk (by omega)) (by omega) (by omega) (Nat.le_refl _) (Nat.le_refl _) rfl rfl (gramD N b (j + 1)) ?_ ?_).mono ?_
      ·rw [gramDs_at (Nat.le_refl j)]; exact (share_diag j).symm
      ·rw [gramDs_at (Nat.le_refl j)];exact fun h0 => ⟨rfl, fun t ht => by rw [gramDs_at (by omega), gramDs_at (by omega), gramL_at ht]; exact share_step h0 ht j j, fun t ht => zu HM t j j ht hlt hlt (by have := gramD_all h0 t ht; omega)⟩
      rintro e w6 ⟨b9, a9, l9, c9, rfl, h9, hb9⟩;replace hd := hd.za hb9;replace hg := hg.za hb9;replace hown := hown.za hb9;replace HB := zh (Below.step (zu HB) hb9);have hbs3 := hb9.size;clear hb9 h8 hown7;obtain ⟨W6, hW6⟩ : ∃ W6, W6 = w6.alloc (.cells #[.bool b9, .slice a9 l9 c9] 45) := ⟨_, rfl⟩;obtain ⟨D6, hb9⟩ := boxes1 w6 b9 a9 l9 c9 hW6;have hE6 : EltAt W6 w6.heap.size 0 b9 a9 l9 c9 := ⟨D6.lt, D6.zb.1, D6.zb.2.1⟩;replace h9 := h9.za hb9;replace hd := hd.za hb9;replace hg := hg.za hb9;replace hown := hown.za hb9;replace HB := zh (Below.step (zu HB) hb9);have hbs4 := hb9.size;have hszA := (zu HB).size;have hs6 : W6.heap.size = w6.heap.size + 1 := by rw [hW6]; simp
      clear hb9 D6;rw [hW6] at hE6 h9 hd hszA
      go_wp2_with (at_builtin; refine append_vec rfl (.tmp 49) (.tmp 57) 29 Tryz.underlying29 rfl w.heap.size (some ⟨gd, 0, none⟩) (j + 1) cd Kc (gramDs N b j) rfl hd (by omega) hszA w6.heap.size 0 1 b9 a9 l9 c9 (gramD N b (j + 1)) rfl hE6 h9 ?_)
      intro gn cn w7 hd7 hgr hat;rw [← hW6] at hgr hd hE6 h9 hszA;have hnl := hd.noLimb;have hgr' : W6.grownBy w7 (some gd) := hgr;have hg7 := hg.kept hgr' hnl (Ne.symm hne) (fun t ht => zu HUD t ht);have hown7 := hown.kept hgr' (noLimb_some hnl) (some_ne (show gd ≠ gs by omega));have HB7 := zh ((zu HB).grown hgr hszA (fun x e => by have := hd.base_le; simp only [Value.ownBlock, Option.some.injEq] at e; omega));have hne7 : gn ≠ gg ∧ gn ≠ gs ∧ ∀ t, t < j → U t ≠ gn := by
       rcases hat with e | e
       ·subst e;exact ⟨hne, by omega, fun t ht => zu HUD t ht⟩
       ·have h1 := hg.lt.2;have h2 := hown.base_le.2;exact ⟨by omega, by omega, fun t ht => by have := zu HGU t ht; omega⟩
      rw [← gramDs_next] at hd7;have q1 : ∃ vc, w7.cell? ⟨gg, j, none⟩ = some vc := by
       have h1 := hg7.ulen;rw [hg7.own.cell (j := j) (by omega)];exact ⟨_, List.getElem?_eq_getElem (by rw [List.length_map]; omega)⟩
      obtain ⟨vc, q1⟩ := q1;have q2 := hg7.own.free j;have hgl := hg7.lt;clear hgr hgr' hat hs6 hE6 h9 hszA hW6 hnl hd hg hown;go_wp2;go_roundw
      case rel =>
       have hnl7 := hg7.noLimb;have hgrw := grown_set1 w7 gg j (.slice (some ⟨gs, 0, none⟩) j j);refine ⟨j + 1, gn, cn, us.set j (some ⟨gs, 0, none⟩, j, j), fun t => if t = j then gs else U t, by omega, by go_num, rfl, hd7.kept hgrw (noLimb_some hnl7) (some_ne (Ne.symm hne7.1)), ?_, fun t ht => ?_, hne7.1, (zu HB7).setCell (p := ⟨gg, j, none⟩) (by simpa using hgl.1) _⟩
       ·rw [gramGs_next];exact hg7.push hlt (hown7.from (by omega)) (show gs ≠ gg by omega) (fun t ht => by have := zu HGU t ht; omega)
       ·dsimp only;by_cases e : t = j
        ·rw [if_pos e]; exact Ne.symm hne7.2.1
        ·rw [if_neg e]; exact hne7.2.2 t (by omega)
      case measure => simp [intOf]; omega
   ·have hin : i = n := by omega
    subst hin;have hin' : ¬ (i : Int) < (i : Int) := by omega
    go_wp2;refine bodyPost_ret (v := .tuple #[.slice (some ⟨gd, 0, none⟩) (i + 1) cd, .slice (some ⟨gg, 0, none⟩) i i]) (by simp [results, Tryz.results12, go_sem, *]) rfl ?_;exact ⟨gd, cd, gg, us, U, rfl, hd, hg, zu HUD, hne, zu HB⟩
 refine zmd 2 #[tT, tT, tT, tT, tT, tF, tF] (ι := Bool × Option Addr × Nat × Nat × Nat × Nat × List (Option Addr × Nat × Nat)) (fun (b1, a1, l1, c1, gd, gg, us) => (((act0.put (some 8) (.agg #[.bool b1, .slice a1 l1 c1])).put (some 9) ((.slice (some ⟨gd, 0, none⟩) 1 1))).put (some 12) ((.slice (some ⟨gg, 0, none⟩) n n)))) (fun (b1, a1, l1, c1, gd, gg, us) wz => Below w.heap.size w wz ∧ OwnV wz w.heap.size (some ⟨gd, 0, none⟩) 1 1 [1] Kc ∧ GRows wz w.heap.size gg n n us (fun _ => 0) [] Kc 0) ?_ (fun J1 => ?_)
 ·rintro ⟨b1, a1, l1, c1, gd, gg, us⟩ wj hI
  try dsimp only at hI ⊢
  obtain ⟨HW, hd, hg⟩ := hI;have zH := zu HS _ HW;rw [zu HA];simp only [Act.put, aSet, aHead, aTail];refine tin 5 rfl fun K hK => ?_;go_simp;refine hK.out _ _ ?_ (fun zH => ?_)
  ·exact zu HS _ HW
  clear hK K
  try simp only [aSet, aHead, aTail]
  exact tgo J0 (b1, a1, l1, c1, gd, gg, us) (by (try dsimp only); rw [zu HA]; first | (simp only [Act.put, aSet, aHead, aTail]; done) | simp [Act.put]) (by (try dsimp only); exact ⟨HW, hd, hg⟩)
 refine zmd 2 #[tT, tT, tT, tT, tF, tT, tF] (ι := Bool × Option Addr × Nat × Nat × Nat) (fun (b1, a1, l1, c1, gd) => (((act0.put (some 8) (.agg #[.bool b1, .slice a1 l1 c1])).put (some 9) ((.slice (some ⟨gd, 0, none⟩) 1 1))).put (some 2) ((.slice (some ⟨gd, 0, none⟩) 1 1)))) (fun (b1, a1, l1, c1, gd) wz => Below w.heap.size w wz ∧ OwnV wz w.heap.size (some ⟨gd, 0, none⟩) 1 1 [1] Kc) ?_ (fun J2 => ?_)
 ·rintro ⟨b1, a1, l1, c1, gd⟩ wj hI
  try dsimp only at hI ⊢
  obtain ⟨HW, hd⟩ := hI;have zH := zu HS _ HW;rw [zu HA];simp only [Act.put, aSet, aHead, aTail];refine tin 4 rfl fun K hK => ?_;refine step_make_g (by rfl) _ _ 22 Tryz.underlying22 (by rfl) w.heap.size .i64 .i64 _ _ n Kc (by rfl) (by rfl) rfl rfl (by omega) HW.size ?_;intro us wk hg hgr;have hb9 : Below wj.heap.size wj wk := (Below.refl _ _).grown hgr (Nat.le_refl _) (fun _ h => by simp at h);replace HW := Below.step HW hb9;replace hd := hd.za hb9;clear hb9;refine hK.out _ _ ?_ (fun zH => ?_)
  ·exact zu HS _ HW
  clear hK K
  try simp only [aSet, aHead, aTail]
  exact tgo J0 (b1, a1, l1, c1, gd, wj.heap.size, us) (by (try dsimp only); rw [zu HA]; first | (simp only [Act.put, aSet, aHead, aTail]; done) | simp [Act.put]) (by (try dsimp only); exact ⟨HW, hd, hg⟩)
 refine zmd 3 #[tT, tF, tT, tT, tT, tF, tF] (ι := Bool × Option Addr × Nat × Nat × Nat × List (Option Addr × Nat × Nat)) (fun (b1, a1, l1, c1, gg, us) => ((act0.put (some 8) (.agg #[.bool b1, .slice a1 l1 c1])).put (some 12) ((.slice (some ⟨gg, 0, none⟩) n n)))) (fun (b1, a1, l1, c1, gg, us) wz => Below w.heap.size w wz ∧ FK wz b1 a1 l1 c1 1 2 ∧ GRows wz w.heap.size gg n n us (fun _ => 0) [] Kc 0) ?_ (fun J3 => ?_)
 ·rintro ⟨b1, a1, l1, c1, gg, us⟩ wj hI
  try dsimp only at hI ⊢
  obtain ⟨HW, h1, hg⟩ := hI;have zH := zu HS _ HW;rw [zu HA];simp only [Act.put, aSet, aHead, aTail];refine tin 1 rfl fun K hK => ?_;go_simp;obtain ⟨wk, hWe⟩ : ∃ W', W' = wj.alloc (.cells #[.bool b1, .slice a1 l1 c1] 45) := ⟨_, rfl⟩;have hb9 : Below wj.heap.size wj wk := by rw [hWe]; exact below_new _ _
  have hd : OwnV wk w.heap.size (some ⟨(wj.heap.size), 0, none⟩) 1 1 [1] Kc := by rw [hWe]; exact ownV_lit (h1.up (by omega)) HW.size
  rw [← hWe];clear hWe;replace HW := Below.step HW hb9;replace hg := hg.za hb9;clear hb9 h1;refine hK.out _ _ ?_ (fun zH => ?_)
  ·exact zu HS _ HW
  clear hK K
  try simp only [aSet, aHead, aTail]
  exact tgo J1 (b1, a1, l1, c1, wj.heap.size, gg, us) (by (try dsimp only); rw [zu HA]; first | (simp only [Act.put, aSet, aHead, aTail]; done) | simp [Act.put]) (by (try dsimp only); exact ⟨HW, hd, hg⟩)
 refine zmd 3 #[tT, tT, tT, tT, tF, tF, tF] (ι := Bool × Option Addr × Nat × Nat × Nat) (fun (b1, a1, l1, c1, gd) => ((act0.put (some 8) (.agg #[.bool b1, .slice a1 l1 c1])).put (some 9) ((.slice (some ⟨gd, 0, none⟩) 1 1)))) (fun (b1, a1, l1, c1, gd) wz => Below w.heap.size w wz ∧ OwnV wz w.heap.size (some ⟨gd, 0, none⟩) 1 1 [1] Kc) ?_ (fun J4 => ?_)
 ·rintro ⟨b1, a1, l1, c1, gd⟩ wj hI
  try dsimp only at hI ⊢
  obtain ⟨HW, hd⟩ := hI;have zH := zu HS _ HW;rw [zu HA];simp only [Act.put, aSet, aHead, aTail];refine ttwo 4 5 rfl rfl (fun K hK => ?_) (fun K hK => ?_)
  ·refine step_make_g (by rfl) _ _ 22 Tryz.underlying22 (by rfl) w.heap.size .i64 .i64 _ _ n Kc (by rfl) (by rfl) rfl rfl (by omega) HW.size ?_;intro us wk hg hgr;have hb9 : Below wj.heap.size wj wk := (Below.refl _ _).grown hgr (Nat.le_refl _) (fun _ h => by simp at h);replace HW := Below.step HW hb9;replace hd := hd.za hb9;clear hb9;refine hK.out _ _ ?_ (fun zH => ?_)
   ·exact zu HS _ HW
   clear hK K
   try simp only [aSet, aHead, aTail]
   exact tgo J1 (b1, a1, l1, c1, gd, wj.heap.size, us) (by (try dsimp only); rw [zu HA]; first | (simp only [Act.put, aSet, aHead, aTail]; done) | simp [Act.put]) (by (try dsimp only); exact ⟨HW, hd, hg⟩)
  ·go_simp;refine hK.out _ _ ?_ (fun zH => ?_)
   ·exact zu HS _ HW
   clear hK K
   try simp only [aSet, aHead, aTail]
   exact tgo J2 (b1, a1, l1, c1, gd) (by (try dsimp only); rw [zu HA]; first | (simp only [Act.put, aSet, aHead, aTail]; done) | simp [Act.put]) (by (try dsimp only); exact ⟨HW, hd⟩)
 refine zmd 4 #[tF, tF, tT, tT, tT, tF, tF] (ι := Nat × List (Option Addr × Nat × Nat)) (fun (gg, us) => (act0.put (some 12) ((.slice (some ⟨gg, 0, none⟩) n n)))) (fun (gg, us) wz => Below w.heap.size w wz ∧ GRows wz w.heap.size gg n n us (fun _ => 0) [] Kc 0) ?_ (fun J5 => ?_)
 ·rintro ⟨gg, us⟩ wj hI
  try dsimp only at hI ⊢
  obtain ⟨HW, hg⟩ := hI;have zH := zu HS _ HW;rw [zu HA];simp only [Act.put, aSet, aHead, aTail];refine tin 0 rfl fun K hK => ?_;go_simp;refine (ofK 1 _ (by omega) (by omega)).mono ?_;rintro e wk ⟨b1, a1, l1, c1, rfl, h1, hb9⟩;replace HW := Below.step HW hb9;replace hg := hg.za hb9;clear hb9;refine hK.out _ _ ?_ (fun zH => ?_)
  ·exact zu HS _ HW
  clear hK K
  try simp only [aSet, aHead]
  exact tgo J3 (b1, a1, l1, c1, gg, us) (by (try dsimp only); rw [zu HA]; first | (simp only [Act.put, aSet, aHead, aTail]; done) | simp [Act.put]) (by (try dsimp only); exact ⟨HW, h1, hg⟩)
 refine zmd 4 #[tT, tF, tT, tT, tF, tF, tF] (ι := Bool × Option Addr × Nat × Nat) (fun (b1, a1, l1, c1) => (act0.put (some 8) (.agg #[.bool b1, .slice a1 l1 c1]))) (fun (b1, a1, l1, c1) wz => Below w.heap.size w wz ∧ FK wz b1 a1 l1 c1 1 2) ?_ (fun J6 => ?_)
 ·rintro ⟨b1, a1, l1, c1⟩ wj hI
  try dsimp only at hI ⊢
  obtain ⟨HW, h1⟩ := hI;have zH := zu HS _ HW;rw [zu HA];simp only [Act.put, aSet, aHead, aTail];refine ttwo 1 4 rfl rfl (fun K hK => ?_) (fun K hK => ?_)
  ·go_simp;obtain ⟨wk, hWe⟩ : ∃ W', W' = wj.alloc (.cells #[.bool b1, .slice a1 l1 c1] 45) := ⟨_, rfl⟩;have hb9 : Below wj.heap.size wj wk := by rw [hWe]; exact below_new _ _
   have hd : OwnV wk w.heap.size (some ⟨(wj.heap.size), 0, none⟩) 1 1 [1] Kc := by rw [hWe]; exact ownV_lit (h1.up (by omega)) HW.size
   rw [← hWe];clear hWe;replace HW := Below.step HW hb9;clear hb9 h1;refine hK.out _ _ ?_ (fun zH => ?_)
   ·exact zu HS _ HW
   clear hK K
   try simp only [aSet, aHead, aTail]
   exact tgo J4 (b1, a1, l1, c1, wj.heap.size) (by (try dsimp only); rw [zu HA]; first | (simp only [Act.put, aSet, aHead, aTail]; done) | simp [Act.put]) (by (try dsimp only); exact ⟨HW, hd⟩)
  ·refine step_make_g (by rfl) _ _ 22 Tryz.underlying22 (by rfl) w.heap.size .i64 .i64 _ _ n Kc (by rfl) (by rfl) rfl rfl (by omega) HW.size ?_;intro us wk hg hgr;have hb9 : Below wj.heap.size wj wk := (Below.refl _ _).grown hgr (Nat.le_refl _) (fun _ h => by simp at h);replace HW := Below.step HW hb9;replace h1 := h1.za hb9;clear hb9;refine hK.out _ _ ?_ (fun zH => ?_)
   ·exact zu HS _ HW
   clear hK K
   try simp only [aSet, aHead, aTail]
   exact tgo J3 (b1, a1, l1, c1, wj.heap.size, us) (by (try dsimp only); rw [zu HA]; first | (simp only [Act.put, aSet, aHead, aTail]; done) | simp [Act.put]) (by (try dsimp only); exact ⟨HW, h1, hg⟩)
 rw [zu HA];refine ttwo 0 4 rfl rfl (fun K hK => ?_) (fun K hK => ?_)
 ·go_simp;refine (ofK 1 _ (by omega) (by omega)).mono ?_;rintro e wk ⟨b1, a1, l1, c1, rfl, h1, hb9⟩;replace HW := Below.step HW hb9;clear hb9;refine hK.out _ _ ?_ (fun zH => ?_)
  ·exact zu HS _ HW
  clear hK K
  try simp only [aSet, aHead]
  exact tgo J6 (b1, a1, l1, c1) (by (try dsimp only); rw [zu HA]; first | (simp only [Act.put, aSet, aHead, aTail]; done) | simp [Act.put]) (by (try dsimp only); exact ⟨HW, h1⟩)
 ·refine step_make_g (by rfl) _ _ 22 Tryz.underlying22 (by rfl) w.heap.size .i64 .i64 _ _ n Kc (by rfl) (by rfl) rfl rfl (by omega) HW.size ?_;intro us wk hg hgr;have hb9 : Below vd1.heap.size vd1 wk := (Below.refl _ _).grown hgr (Nat.le_refl _) (fun _ h => by simp at h);replace HW := Below.step HW hb9;clear hb9;refine hK.out _ _ ?_ (fun zH => ?_)
  ·exact zu HS _ HW
  clear hK K
  try simp only [aSet, aHead, aTail]
  exact tgo J5 (vd1.heap.size, us) (by (try dsimp only); rw [zu HA]; first | (simp only [Act.put, aSet, aHead, aTail]; done) | simp [Act.put]) (by (try dsimp only); exact ⟨HW, hg⟩)
end Go.Proofs.YtnpneloahajniaaGreat
