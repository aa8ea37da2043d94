/-
 What package span's own, taken, Coords, Has and Rest tell. (IN PARTS)
-/
import Derived.Test.YtkomdimalgnamaaGreatHIs
import Derived.Test.YtkomdimalgnamaaGreatHLow
import Derived.Test.YtkomdimalgnamaaGreatRHas
import Derived.Test.YtkomdimalgnamaaGreatJF
import Derived.Test.YtkomdimalgnamaaGreatWNum
namespace Go.Proofs.YtkomdimalgnamaaGreat
open Go.RowKit Lb
set_option maxRecDepth 20000

theorem made_vec {w w' : World} {base n k : Nat} (h1 : w'.ownsRow base 44 2 (.slice (some ⟨w.heap.size, 0, none⟩) n n) n (madeCells (Value.agg #[.bool false, .slice none 0 0]).cells (n * 2)).toList) : OwnV w' base (some ⟨w.heap.size, 0, none⟩) n n (List.replicate n 0) k := by
 have hcell : ∀ j, j < n * 2 → (madeCells (Value.agg #[.bool false, .slice none 0 0]).cells (n * 2)).toList[j]? = some (if j % 2 = 0 then .bool false else .slice none 0 0) := by
  intro j hj;have : j % 2 < 2 := Nat.mod_lt _ (by omega);rw [Array.getElem?_toList];simp only [madeCells, Value.cells];rw [Array.getElem?_map, Array.getElem?_range];rcases (by omega : j % 2 = 0 ∨ j % 2 = 1) with e | e <;> simp [e, hj]
 refine ownV_of h1 (by simp) ?_ fun i hi => ?_
 ·intro j x e;by_cases hj : j < n * 2
  ·rw [h1.cellAt j hj, hcell j hj] at e
   split at e <;> simp at e
  ·rcases h1.2 with ⟨h, _⟩ | ⟨g, cap, cur, h, _, hh, _, _, hs, _⟩
   ·simp at h
   ·simp only [Value.slice.injEq, Option.some.injEq, Addr.mk.injEq, and_true, true_and] at h;obtain ⟨rfl, rfl⟩ := h;rw [Joins.cell_of_block hh j, Array.getElem?_eq_none (by omega)] at e;simp at e
 ·refine ⟨false, none, 0, 0, ?_, ?_, ?_⟩
  ·rw [hcell _ (by omega), if_pos (by omega)]
  ·rw [hcell _ (by omega), if_neg (by omega)]
  ·rw [show (List.replicate n (0 : Int)).getD i 0 = 0 by simp [List.getD, hi]];exact fk_zero w' k
theorem step_make_vec {w : World} {ops : Array Oper} {o : Oper} {a : Act} {K : Act → World → Prop} {Q : Exit → Act → World → Prop} {E : Prop} (hgd : o.guard = none) (l c : Operand) (t : TypeId) (ht : Tryz.prog.underlying t = some (.slice 44)) (hop : o.op = Op.makeSlice t l c)
  (base : Nat) (kl kc : IntKind) (L C : Int) (n k : Nat) (hl : a.eval l = .int kl L) (hc : a.eval c = .int kc C) (hL : L = (n : Int)) (hC : C = (n : Int)) (hn : n ≤ 1000000000) (hbase : base ≤ w.heap.size)
  (h : ∀ w', OwnV w' base (some ⟨w.heap.size, 0, none⟩) n n (List.replicate n 0) k → w.grownBy w' none → K (a.put o.dst (.slice (some ⟨w.heap.size, 0, none⟩) n n)) w') : if Region.wanted o (yielded ops a.tmps) = true then Oper.wp Tryz.prog o a w K Q else E := by
 have hw : Region.wanted o (yielded ops a.tmps) = true := by simp [Region.wanted, hgd]
 rw [if_pos hw];obtain ⟨i0, hi, hz0, hz1, hz2⟩ := info_parts info_int;obtain ⟨w', hrun, r1, r2⟩ := run_make_full (P := Tryz.prog) w base t 44 i0 (.agg #[.bool false, .slice none 0 0]) 2 ht hi hz0 hz1 kl kc n (by rw [hz2]; omega) (by unfold maxLen; omega) hbase;subst hL;subst hC;unfold Oper.wp;simp [execOp, hop, hl, hc, hrun, Result.andThen];exact h w' (made_vec r1) r2
theorem ownK (ao : Option Addr) (n cap : Nat) (zs : List Int) (k : Nat) (w : World) (h : VK w ao n cap zs k) (hk : k ≤ 900000) (hn : n ≤ 1000000) :
  Calls Tryz.prog 53 #[.slice ao n cap] w fun e w' => ∃ a1 c1, e = .returned (.slice a1 n c1) ∧ VF w' a1 n c1 zs (k + 1) ∧ (∀ g off, a1 = some ⟨g, off, none⟩ → w.heap.size ≤ g) ∧ Below w.heap.size w w' := by
 have HE : Hid (vsub zs [] = zs) := zh (vec_ext (by rw [vsub_len]; simp) fun j hj => by rw [vsub_at]; simp);go_enter Tryz.func53, Tryz.ntmps53
 go_wp2_with fail
 refine (vsubF ao n cap zs k none 0 0 [] 0 _ h (vk_nil _ _) hk (by omega) hn (by omega)).mono ?_;rintro e w1 ⟨a1, c1, rfl, h1, hfr, hb1⟩;rw [show max n 0 = n from Nat.max_eq_left (Nat.zero_le _)] at h1 ⊢;rw [show max k 0 = k from Nat.max_eq_left (Nat.zero_le _), zu HE] at h1;go_wp2;go_ret;exact ⟨_, _, rfl, h1, hfr, hb1⟩
theorem MadeOf.put {h : List (List Int)} {v : Nat → Int} {i : Nat} {cs us : List Int} (hm : MadeOf h v i cs us) (hl : i < cs.length) {x : Int} : MadeOf h v (i + 1) (cs.set i x) (vsub us (vtimes (h.getD i []) x)) := fun j => by
 have h1 : (sumN i fun t => (cs.set i x).getD t 0 * ent h t j) = sumN i fun t => cs.getD t 0 * ent h t j := sumN_congr fun t ht => by
  rw [show (cs.set i x).getD t 0 = cs.getD t 0 by simp [List.getD, List.getElem?_set_ne (show i ≠ t by omega)]]
 have h2 : (cs.set i x).getD i 0 = x := by simp [List.getD, hl]
 rw [hm j, vsub_at, vtimes_at, sumN, h1, h2];have h3 : (h.getD i []).getD j 0 = ent h i j := rfl;rw [h3, Int.mul_comm x];omega
theorem madeOf_zero (h : List (List Int)) (vs cs : List Int) : MadeOf h (fun j => vs.getD j 0) 0 cs vs := fun j => by simp [sumN]
def LowV (hs : List (List Int)) (p : Nat → Nat) (us : List Int) : Prop := ∀ s, s < hs.length → 0 ≤ us.getD (p s) 0 ∧ us.getD (p s) 0 < ent hs s (p s)
theorem MadeOf.inL {h : List (List Int)} {v : Nat → Int} {cs us : List Int} (hm : MadeOf h v h.length cs us) : InL h fun j => v j - us.getD j 0 := ⟨fun t => cs.getD t 0, fun j => by
 have := hm j;show v j - us.getD j 0 = sumN h.length fun t => cs.getD t 0 * ent h t j;omega⟩
set_option maxRecDepth 40000 in
set_option maxHeartbeats 4000000 in
theorem takenK (ah : Option Addr) (n ch : Nat) (hs : List (List Int)) (p : Nat → Nat) (b : Nat) (av0 : Option Addr) (N cv0 : Nat) (vs : List Int) (k : Nat) (w : World) (h : MK w ah n ch hs b) (hf : HForm hs p) (hN : ∀ r ∈ hs, r.length = N) (hv : VK w av0 N cv0 vs k) (hK : k + 1 + n * (b + 1) ≤ 200000) (hb : b ≤ 100000) (hn : n ≤ 1000) (h1N : 1 ≤ N) (hNl : N ≤ 1000) :
  Calls Tryz.prog 45 #[.slice ah n ch, .slice av0 N cv0] w fun e w' => ∃ a1 c1 a2 c2 cs us, e = .returned (.tuple #[.slice a1 n c1, .slice a2 N c2]) ∧ VF w' a1 n c1 cs (k + 1 + n * (b + 1)) ∧ VF w' a2 N c2 us (k + 1 + n * (b + 1)) ∧ MadeOf hs (fun j => vs.getD j 0) n cs us ∧ LowV hs p us ∧ Below w.heap.size w w' := by
 have HL := zh h.len_eq;have HF := zh hf;have HN := zh (rows_len hN);obtain ⟨KK, eKK⟩ : ∃ KK, KK = k + 1 + n * (b + 1) := ⟨_, rfl⟩;have EKK := zh eKK;rw [← eKK] at hK ⊢;have hk1 : k + 1 ≤ 200000 := by
  have := Nat.zero_le (n * (b + 1));omega
 clear hf hN eKK;go_enter Tryz.func45, Tryz.ntmps45
 go_upto_region 1 with fail
 have HW : Below w.heap.size w w.drew := (Below.refl _ _).drew;refine till_start (fun w' => True) 5 (by kernel_rfl) trivial (fun zH => ?_);obtain ⟨vd1, hvd⟩ : ∃ v, v = w.drew := ⟨_, rfl⟩;rw [← hvd] at HW ⊢;clear hvd;refine till_fr (i := 0) (v := ?_) rfl (Or.inl ⟨by rfl, ?_⟩) ?_
 rotate_left
 ·(intro w hSw; (try dsimp only at hSw); go_simp; try with_reducible rfl)
 simp only [Act.put, aGet, aZero, aSet, aHead, aTail];refine ztl (i := 1) [2, 5, 6] rfl ?_;simp only [Act.put, aAll];refine till_fr (i := 3) (v := ?_) rfl (Or.inl ⟨by rfl, ?_⟩) ?_
 rotate_left
 ·(intro w hSw; (try dsimp only at hSw); go_simp; try with_reducible rfl)
 simp only [Act.put, aAll];refine till_name (fun act0 hact0 => ?_);have HA := zh hact0;clear hact0;refine till_mid 2 #[true, true, true, true, true, false, false] (ι := Nat × Option Addr × Nat) (fun (gt, a2, c2) => ((act0.put (some 10) (.slice (some ⟨gt, 0, none⟩) n n)).put (some 12) (.slice a2 N c2))) (fun (gt, a2, c2) wz => Below w.heap.size w wz ∧ OwnV wz w.heap.size (some ⟨gt, 0, none⟩) n n (List.replicate n 0) KK ∧ VF wz a2 N c2 vs (k + 1) ∧ ∀ g off, a2 = some ⟨g, off, none⟩ → g ≠ gt) ?_ (fun J0 => ?_)
 ·rintro ⟨gt, a2, c2⟩ wj hI
  try dsimp only at hI ⊢
  obtain ⟨HW, hown, hu, hne⟩ := hI;have zH : True := trivial;rw [zu HA];simp only [Act.put, aSet, aHead, aTail];refine tout (i := 5) rfl fun K hK => ?_;go_simp;refine hK.out _ _ ?_;clear hK K
  try simp only [aSet, aHead, aTail]
  refine tout (i := 6) rfl fun K hK => ?_;go_simp;refine hK.out _ _ ?_;clear hK K
  try simp only [aSet, aHead, aTail]
  refine till_done (by kernel_rfl) ?_ _;have HB := zh HW;have HNE := zh hne;clear HW zH hne HA
  go_wp2_with fail
  refine (pivotsF ah n ch hs b _ (h.za (zu HB)) (by omega)).mono ?_;rintro e w2 ⟨a14, c14, ps, rfl, hps, hpv, hfr, hb1⟩;have hbl := hown.base_le;replace hown := hown.za hb1;replace hu := hu.za hb1;replace HB := zh (Below.step (zu HB) hb1);have HP := zh hpv;have HGT : Hid (∀ g off, a14 = some ⟨g, off, none⟩ → g ≠ gt) := zh fun g off e => by have := hfr g off e; omega
  clear hb1 hpv hfr hbl;obtain ⟨zz, ezz⟩ : ∃ zz, zz = List.replicate n (0 : Int) := ⟨_, rfl⟩;rw [← ezz] at hown;clear ezz
  go_wp2_with fail
  go_loopw [5, 16] (fun r t wr => ∃ (i : Nat) (av : Option Addr) (cv : Nat) (us cs : List Int), i ≤ n ∧ t = .int .i64 (i : Int) ∧ r = .slice av N cv ∧ OwnV wr w.heap.size (some ⟨gt, 0, none⟩) n n cs KK ∧ VF wr av N cv us (k + 1 + i * (b + 1)) ∧ (∀ g off, av = some ⟨g, off, none⟩ → g ≠ gt) ∧ MadeOf hs (fun j => vs.getD j 0) i cs us ∧ (∀ s, s < i → 0 ≤ us.getD (p s) 0 ∧ us.getD (p s) 0 < ent hs s (p s)) ∧ (∀ j, j < n → ∀ g off, a14 = some ⟨g, off, none⟩ → g < wr.heap.size ∧ wr.cell? ⟨g, off + j, none⟩ = some (.int .i64 (ps.getD j 0))) ∧ Below w.heap.size w wr) (fun _ t _ => n - (intOf t).toNat)
  case atStart => exact ⟨0, _, _, vs, zz, Nat.zero_le _, rfl, rfl, hown, by rw [Nat.zero_mul]; exact hu, zu HNE, madeOf_zero _ _ _, fun s hs => absurd hs (by omega), fun j hj g off e => by subst e; exact hps.at hj, zu HB⟩
  case round =>
   clear hown hu HNE HB;obtain ⟨i, av, cv, us, cs, hi, rfl, rfl, hown, hu, hne, hM, hall, hpc, hB⟩ := hrel;have HM := zh hM;have HALL := zh hall;have HPC := zh hpc;have HNE := zh hne;have HB := zh hB;clear hM hall hpc hne hB;by_cases hlt : i < n
   ·obtain ⟨M, eM⟩ : ∃ M, M = k + 1 + i * (b + 1) := ⟨_, rfl⟩;have hMK : M + b + 1 ≤ KK := by
     have h1 : (i + 1) * (b + 1) ≤ n * (b + 1) := Nat.mul_le_mul_right _ hlt;rw [Nat.add_mul, Nat.one_mul] at h1;have h2 := zu EKK;omega
    have HM2 := zh (show k + 1 + (i + 1) * (b + 1) = M + (b + 1) by rw [eM, Nat.add_mul]; omega);rw [← eM] at hu;clear eM;obtain ⟨gp, op, rfl⟩ := hps.addr (by omega);obtain ⟨hgp, f1⟩ := zu HPC i hlt gp op rfl;have hir : i < hs.length := by rw [zu HL]; exact hlt
    have HPI := zh ((zu HF).isPivot hir);have hpz : ps.getD i 0 = (p i : Int) := by
     rcases zu HP i hlt with ⟨_, h0⟩ | ⟨q, e, hq⟩
     ·exact absurd (h0 _) (zu HPI).2
     ·rw [e, isPivot_inj hq (zu HPI)]
    rw [hpz] at f1;clear hpz;obtain ⟨g, off, rfl⟩ := h.addr (by omega);obtain ⟨hg0, a2, l2, c2, hc5, hv5⟩ := RowsOf.at (R := fun w a l c zs => VK w a l c zs b) h hlt;have hl2 : N = l2 := by rw [← hv5.len_eq]; exact (zu HN i hir).symm
    subst hl2;have hpN : p i < N := by
     have := (zu HPI).lt;rw [zu HN i hir] at this;exact this
    have H0 := zh (show ent hs i (p i) ≠ 0 by have := (zu HF).pos i hir; omega);obtain ⟨g2, o2, rfl⟩ := hv5.some (by omega);have x2 := ((zu HB).cell (p := ⟨g, off + i, none⟩) hg0).trans hc5;have hg := Nat.lt_of_lt_of_le hg0 (zu HB).size;have hr := hv5.za (zu HB);obtain ⟨b3, a3, l3, c3, E3, y3⟩ := hr.at hpN;obtain ⟨gv, ov, rfl⟩ := hu.some (by omega);obtain ⟨b4, a4, l4, c4, E4, hy4⟩ := hu.at hpN;have hi0 : (0 : Int) ≤ (i : Int) := by omega
    have hi1 : (i : Int) < (n : Int) := by omega
    have hp2 : (p i : Int) < (N : Int) := by omega
    have hp0 : (0 : Int) ≤ (p i : Int) := by omega
    have HC0 := zh hc5;have HV0 := zh hv5;have HCL := zh hown.len;clear hc5 hv5
    go_upto_region 5 with fail
    have HW : Below wr.heap.size wr wr.drew := (Below.refl _ _).drew;have HS := zh fun w' (HW : Below wr.heap.size wr w') => con5 ((HW.cell (p := ⟨g, off + i, none⟩) hg).trans x2) (E3.za HW).zb.1 (E3.za HW).zb.2 (E4.za HW).zb.1 (E4.za HW).zb.2;refine zst HS HW 19 (by kernel_rfl) fun zH => ?_;refine ztl (i := 0) [18, 19] rfl ?_;simp only [Act.put, aGet, aZero, aSet, aHead, aTail];refine ztl (i := 1) [18, 19] rfl ?_;simp only [Act.put, aAll];refine ztl (i := 2) [4, 5, 13, 14, 15, 16, 17, 18, 19] rfl ?_;simp only [Act.put, aAll];refine ztl (i := 3) [4, 5, 13, 14, 15, 16, 17, 18, 19] rfl ?_;simp only [Act.put, aAll];refine ztl (i := 4) [5, 13, 14, 15, 16, 17, 18, 19] rfl ?_;simp only [Act.put, aAll];refine ztl (i := 5) [13, 14, 15, 16, 17, 18, 19] rfl ?_;simp only [Act.put, aAll];refine ztl (i := 6) [8, 9, 11, 12, 13, 14, 15, 16, 17, 18, 19] rfl ?_;simp only [Act.put, aAll];refine ztl (i := 7) [8, 9, 11, 12, 13, 14, 15, 16, 17, 18, 19] rfl ?_;simp only [Act.put, aAll];refine ztl (i := 8) [9, 11, 12, 13, 14, 15, 16, 17, 18, 19] rfl ?_;simp only [Act.put, aAll];refine ztl (i := 9) [11, 12, 13, 14, 15, 16, 17, 18, 19] rfl ?_;simp only [Act.put, aAll];refine ztl (i := 10) [11, 12, 13, 14, 15, 16, 17, 18, 19] rfl ?_;simp only [Act.put, aAll];refine ztl (i := 11) [12, 13, 14, 15, 16, 17, 18, 19] rfl ?_;simp only [Act.put, aAll];refine ztl (i := 12) [13, 14, 15, 16, 17, 18, 19] rfl ?_;simp only [Act.put, aAll];refine tin (i := 13) rfl fun K hK => ?_;go_simp;refine (divK b4 a4 l4 c4 (us.getD (p i) 0) M b3 a3 l3 c3 (ent hs i (p i)) b _ ((hy4.za HW).ik (by omega)) (y3.za HW) (zu H0) (by omega) (by omega)).mono ?_;rintro e w9 ⟨b5, a5, l5, c5, b6, a6, l6, c6, rfl, h5, h6, hb9⟩;replace HW := Below.step HW hb9;clear hb9 h6;refine hK.out _ _ ?_ (fun zH => ?_)
    ·exact zu HS _ HW
    clear hK K
    try simp only [Act.put, aAll]
    refine ztl (i := 14) [15, 16, 17, 18, 19] rfl ?_;simp only [Act.put, aAll];refine ztl (i := 15) [18, 19] rfl ?_;simp only [Act.put, aAll];refine ztl (i := 18) [19] rfl ?_;simp only [Act.put, aAll];refine till_fr (i := 16) (v := ?_) rfl (Or.inl ⟨by rfl, ?_⟩) ?_
    rotate_left
    ·(intro w hSw; (try dsimp only at hSw); go_simp; try with_reducible rfl)
    simp only [Act.put, aAll];refine till_fr (i := 17) (v := ?_) rfl (Or.inl ⟨by rfl, ?_⟩) ?_
    rotate_left
    ·(intro w hSw; (try dsimp only at hSw); go_simp; try with_reducible rfl)
    simp only [Act.put, aAll];obtain ⟨b8, a8, l8, c8, he8, _⟩ := (hown.za HW).vf.at hlt;rw [Nat.zero_add] at he8;obtain ⟨q1, q2⟩ := he8.zb;have q3 := (hown.za HW).free (i * 2);have q4 := (hown.za HW).free (i * 2 + 1);refine tout (i := 19) rfl fun K hK => ?_;go_simp;refine hK.out _ _ ?_;clear hK K
    try simp only [Act.put, aAll]
    refine till_done (by kernel_rfl) ?_ _;obtain ⟨Q, eQ⟩ : ∃ Q, Q = us.getD (p i) 0 / ent hs i (p i) := ⟨_, rfl⟩;rw [← eQ] at h5;have EQ := zh eQ;clear eQ zH E3 y3 E4 hy4 he8;have hbl := (hown.za HW).base_le;have hnl : ∀ g', some gt = some g' → NoLimb w9 g' := fun g' e => by
     simp only [Option.some.injEq] at e;subst e;exact (hown.za HW).noLimb
    have hgrw := grown_set2 w9 gt (i * 2) (i * 2 + 1) (.bool b5) (.slice a5 l5 c5);have hown2 := (hown.za HW).set hlt (h5.up (show M ≤ KK by omega));have hu2 := VF.grown (hu.za HW) hgrw hnl (fun g off e => fun er => by
     simp only [Option.some.injEq] at er;exact zu HNE g off e er.symm)
    have h52 := h5.grown hgrw hnl;have HBW := zh (((Below.step (zu HB) HW).setCell (p := ⟨gt, i * 2, none⟩) (by simpa using hbl.1) (.bool b5)).setCell (p := ⟨gt, i * 2 + 1, none⟩) (by simpa using hbl.1) (.slice a5 l5 c5));have HPC2 : Hid (∀ j, j < n → ∀ g off, some (⟨gp, op, none⟩ : Addr) = some ⟨g, off, none⟩ → g < ((w9.setCell ⟨gt, i * 2, none⟩ (.bool b5)).setCell ⟨gt, i * 2 + 1, none⟩ (.slice a5 l5 c5)).heap.size ∧ ((w9.setCell ⟨gt, i * 2, none⟩ (.bool b5)).setCell ⟨gt, i * 2 + 1, none⟩ (.slice a5 l5 c5)).cell? ⟨g, off + j, none⟩ = some (.int .i64 (ps.getD j 0))) := zh fun j hj g' off' e => by
     obtain ⟨k1, k2⟩ := zu HPC j hj g' off' e;have k3 := zu HGT g' off' e;exact ⟨by simpa using Nat.lt_of_lt_of_le k1 HW.size, by
      rw [World.cell?_of_block (a := ⟨g', off' + j, none⟩) (hgrw.block g' (Nat.lt_of_lt_of_le k1 HW.size) (fun e => k3 (Option.some.inj e)))];exact (HW.cell (p := ⟨g', off' + j, none⟩) k1).trans k2⟩
    obtain ⟨W8, hW8⟩ : ∃ W8, W8 = (w9.setCell ⟨gt, i * 2, none⟩ (.bool b5)).setCell ⟨gt, i * 2 + 1, none⟩ (.slice a5 l5 c5) := ⟨_, rfl⟩;rw [← hW8] at hown2 hu2 h52 HBW HPC2 ⊢;have q5 : W8.cell? ⟨gt, i * 2, none⟩ = some (.bool b5) := by
     rw [hW8, World.cell?_setCell_other _ _ _ _ (by intro h; simp at h)];exact World.cell?_setCell_same _ _ _ q1
    have q6 : W8.cell? ⟨gt, i * 2 + 1, none⟩ = some (.slice a5 l5 c5) := by
     rw [hW8];exact World.cell?_setCell_same (w9.setCell ⟨gt, i * 2, none⟩ (.bool b5)) _ _ ((World.cell?_setCell_other _ _ _ _ (by intro h; simp at h)).trans q2)
    clear q1 q2;have q1 := q5;have q2 := q6;clear q5 q6;have hgt := hown2.base_le.2;replace hown := hown2;replace hu := hu2;replace h5 := h52;clear hown2 hu2 h52 hgrw hnl hW8 q3 q4 hbl HW;replace HB := HBW;replace HPC := HPC2;clear HBW HPC2;replace x2 := ((zu HB).cell (p := ⟨g, off + i, none⟩) hg0).trans (zu HC0);replace hg := Nat.lt_of_lt_of_le hg0 (zu HB).size;replace hr := (zu HV0).za (zu HB)
    go_upto_region 6 with fail
    have HW : Below W8.heap.size W8 W8.drew := (Below.refl _ _).drew;have HS := zh fun w' (HW : Below W8.heap.size W8 w') => con3 ((HW.cell (p := ⟨g, off + i, none⟩) hg).trans x2) ((HW.cell (p := ⟨gt, i * 2, none⟩) hgt).trans q1) ((HW.cell (p := ⟨gt, i * 2 + 1, none⟩) hgt).trans q2);refine zst HS HW 11 (by kernel_rfl) fun zH => ?_;refine ztl (i := 0) [10, 11] rfl ?_;simp only [Act.put, aGet, aZero, aSet, aHead, aTail];refine ztl (i := 1) [3, 4, 9, 10, 11] rfl ?_;simp only [Act.put, aAll];refine ztl (i := 2) [3, 4, 9, 10, 11] rfl ?_;simp only [Act.put, aAll];refine ztl (i := 3) [4, 9, 10, 11] rfl ?_;simp only [Act.put, aAll];refine ztl (i := 4) [9, 10, 11] rfl ?_;simp only [Act.put, aAll];refine ztl (i := 5) [7, 8, 9, 10, 11] rfl ?_;simp only [Act.put, aAll];refine ztl (i := 6) [7, 8, 9, 10, 11] rfl ?_;simp only [Act.put, aAll];refine ztl (i := 7) [8, 9, 10, 11] rfl ?_;simp only [Act.put, aAll];refine ztl (i := 8) [9, 10, 11] rfl ?_;simp only [Act.put, aAll];refine tin (i := 9) rfl fun K hK => ?_;go_simp;refine (vtimesK _ N _ (hs.getD i []) b b5 a5 l5 c5 Q M _ (hr.za HW) ((h5.za HW).ik (by omega)) (by omega)).mono ?_;rintro e w8 ⟨a8, c8, rfl, h8, hb9⟩;replace HW := Below.step HW hb9;clear hb9;refine hK.out _ _ ?_ (fun zH => ?_)
    ·exact zu HS _ HW
    clear hK K
    try simp only [Act.put, aAll]
    refine tin (i := 10) rfl fun K hK => ?_;go_simp;have hsub := HW.size;refine (vsubF _ N _ us M _ N _ (vtimes (hs.getD i []) Q) (b + M) _ ((hu.za HW).vk (by omega)) (h8.vk (by omega)) (by omega) (by omega) (by omega) (by omega)).mono ?_;rintro e w9 ⟨a9, c9, rfl, h9, hfr, hb9⟩;replace HW := Below.step HW hb9;clear hb9 h8;rw [Nat.max_self, show max M (b + M) + 1 = k + 1 + (i + 1) * (b + 1) by rw [zu HM2]; omega] at h9
    (try rw [Nat.max_self])
    refine hK.out _ _ ?_ (fun zH => ?_)
    ·exact zu HS _ HW
    clear hK K
    try simp only [Act.put, aAll]
    refine tout (i := 11) rfl fun K hK => ?_;go_simp;refine hK.out _ _ ?_;clear hK K
    try simp only [Act.put, aAll]
    refine till_done (by kernel_rfl) ?_ _;clear zH q1 q2 h5;have hcb := hown.za HW;have HB9 := zh (Below.step (zu HB) HW);have HMM := zh ((zu HM).put (x := Q) (by rw [zu HCL]; exact hlt));have hal := low_step (us := us) (zu HF).eform hir (zu HALL);rw [← zu EQ] at hal;have HAL := zh hal;clear hal;have HPC9 : Hid (∀ j, j < n → ∀ g off, some (⟨gp, op, none⟩ : Addr) = some ⟨g, off, none⟩ → g < w9.heap.size ∧ w9.cell? ⟨g, off + j, none⟩ = some (.int .i64 (ps.getD j 0))) := zh fun j hj g' off' e => by
     obtain ⟨k1, k2⟩ := zu HPC j hj g' off' e;exact ⟨Nat.lt_of_lt_of_le k1 HW.size, (HW.cell (p := ⟨g', off' + j, none⟩) k1).trans k2⟩
    go_wp2;go_roundw
    case rel => exact ⟨i + 1, _, _, _, _, by omega, by go_num, rfl, hcb, h9, fun g off e => by have := hfr g off e; omega, zu HMM, zu HAL, zu HPC9, zu HB9⟩
    case measure => simp [intOf]; omega
   ·have hin : i = n := by omega
    subst hin;have hi1 : ¬ (i : Int) < (i : Int) := by omega
    have hvc := hown.vf;have HMF := zh (show MadeOf hs (fun j => vs.getD j 0) i cs us from zu HM);have HLV : Hid (LowV hs p us) := zh fun s hs' => zu HALL s (by rw [← zu HL]; exact hs');rw [← zu EKK] at hu;clear hown HM HALL HPC HNE;go_wp2;refine bodyPost_ret (v := .tuple #[.slice (some ⟨gt, 0, none⟩) i i, .slice av N cv]) (by simp [results, Tryz.results45, go_sem, *]) rfl ?_;exact ⟨_, _, _, _, rfl, cs, hvc, us, hu, zu HMF, zu HLV, zu HB⟩
 rw [zu HA];refine ttwo (i := 2) (j := 4) rfl rfl (fun K hK => ?_) (fun K hK => ?_)
 ·refine step_make_vec (by rfl) _ _ 24 Tryz.underlying24 (by rfl) w.heap.size .i64 .i64 _ _ n KK (by rfl) (by rfl) rfl rfl (by omega) HW.size ?_;intro w2 hown hgr;have hb9 : Below vd1.heap.size vd1 w2 := (Below.refl _ _).grown hgr (Nat.le_refl _) (fun _ h => by simp at h);replace HW := Below.step HW hb9;refine hK.out _ _ trivial (fun zH => ?_);clear hK K
  try simp only [aSet, aHead, aTail]
  refine tin (i := 4) rfl fun K hK => ?_;go_simp;refine (ownK av0 N cv0 vs k _ (hv.za HW) (by omega) (by omega)).mono ?_;rintro e wk ⟨a2, c2, rfl, h2, hfr, hb8⟩;have hbl := hown.base_le;refine hK.out _ _ trivial (fun zH => ?_);clear hK K
  try simp only [aSet, aHead, aTail]
  exact tgo J0 (vd1.heap.size, a2, c2) (by (try dsimp only); rw [zu HA]; first | (simp only [Act.put, aSet, aHead, aTail]; done) | simp [Act.put]) (by (try dsimp only); exact ⟨Below.step HW hb8, hown.za hb8, h2, fun g off e => by have := hfr g off e; omega⟩)
 ·go_simp;refine (ownK av0 N cv0 vs k _ (hv.za HW) (by omega) (by omega)).mono ?_;rintro e wk ⟨a2, c2, rfl, h2, hfr, hb8⟩;replace HW := Below.step HW hb8;refine hK.out _ _ trivial (fun zH => ?_);clear hK K
  try simp only [aSet, aHead, aTail]
  refine tin (i := 2) rfl fun K hK => ?_;refine step_make_vec (by rfl) _ _ 24 Tryz.underlying24 (by rfl) w.heap.size .i64 .i64 _ _ n KK (by rfl) (by rfl) rfl rfl (by omega) HW.size ?_;intro w2 hown hgr;have hb9 : Below wk.heap.size wk w2 := (Below.refl _ _).grown hgr (Nat.le_refl _) (fun _ h => by simp at h);refine hK.out _ _ trivial (fun zH => ?_);clear hK K
  try simp only [aSet, aHead, aTail]
  obtain ⟨g7, o7, e7, hg7, _⟩ := h2.elts (by omega);exact tgo J0 (wk.heap.size, a2, c2) (by (try dsimp only); rw [zu HA]; first | (simp only [Act.put, aSet, aHead, aTail]; done) | simp [Act.put]) (by (try dsimp only); exact ⟨Below.step HW hb9, hown, h2.za hb9, fun g off e => by rw [e7] at e; simp only [Option.some.injEq, Addr.mk.injEq, and_true] at e; omega⟩)
theorem LowV.zero {hs : List (List Int)} {p : Nat → Nat} {vs us : List Int} (hf : HForm hs p) (hl : LowV hs p us) (hd : InL hs fun j => vs.getD j 0 - us.getD j 0) : vnought us = true ↔ InL hs fun j => vs.getD j 0 := by
 rw [vnought_iff]
 constructor
 ·intro e;exact hd.eq fun j => by rw [e j]; omega
 ·intro hv;exact rest_one (t := fun _ => 0) hf.eform (fun s hs' => hl s hs') (fun s hs' => ⟨Int.le_refl _, hf.pos s hs'⟩) ((hv.sub hd).eq fun j => by omega)
theorem LowV.one {hs : List (List Int)} {p : Nat → Nat} {vs us ts : List Int} (hf : HForm hs p) (hl : LowV hs p us) (hd : InL hs fun j => vs.getD j 0 - us.getD j 0) (hl' : LowV hs p ts) (hd' : InL hs fun j => vs.getD j 0 - ts.getD j 0) (j : Nat) : us.getD j 0 = ts.getD j 0 :=
 rest_one (u := fun j => us.getD j 0) (t := fun j => ts.getD j 0) hf.eform (fun s hs' => hl s hs') (fun s hs' => hl' s hs') ((hd'.sub hd).eq fun j => by omega) j
theorem sumN_diff (n : Nat) (f g e : Nat → Int) : (sumN n fun t => (f t - g t) * e t) = (sumN n fun t => f t * e t) - sumN n fun t => g t * e t := by
 induction n with
 | zero => rfl
 | succ n ih =>
  simp only [sumN];rw [ih, Int.sub_mul];omega
theorem made_one {hs : List (List Int)} {p : Nat → Nat} {cs ds : List Int} {v : Nat → Int} (hf : HForm hs p) (h1 : ∀ j, v j = sumN hs.length fun t => cs.getD t 0 * ent hs t j) (h2 : ∀ j, v j = sumN hs.length fun t => ds.getD t 0 * ent hs t j) : ∀ t, t < hs.length → cs.getD t 0 = ds.getD t 0 := by
 intro t ht;have h3 := hf.eform.indepF (fun t => cs.getD t 0 - ds.getD t 0) (fun j => by
  show (sumN hs.length fun t => (cs.getD t 0 - ds.getD t 0) * ent hs t j) = 0;rw [sumN_diff, ← h1 j, ← h2 j];omega) t ht
 have h4 : cs.getD t 0 - ds.getD t 0 = 0 := h3;omega
set_option maxHeartbeats 1000000 in
theorem spCoordsK (ah : Option Addr) (n ch : Nat) (hs : List (List Int)) (p : Nat → Nat) (b : Nat) (av0 : Option Addr) (N cv0 : Nat) (vs : List Int) (k : Nat) (w : World) (h : MK w ah n ch hs b) (hf : HForm hs p) (hN : ∀ r ∈ hs, r.length = N) (hv : VK w av0 N cv0 vs k) (q0 : Bool) (hq : q0 = true ↔ InL hs fun j => vs.getD j 0) (hK : k + 1 + n * (b + 1) ≤ 200000) (hb : b ≤ 100000) (hn : n ≤ 1000) (h1N : 1 ≤ N) (hNl : N ≤ 64) :
  Calls Tryz.prog 12 #[.slice ah n ch, .slice av0 N cv0] w fun e w' => ∃ ac nc cc, e = .returned (.tuple #[.slice ac nc cc, .bool q0]) ∧ (q0 = true → nc = n ∧ ∃ cs, VF w' ac n cc cs (k + 1 + n * (b + 1)) ∧ ∀ j, vs.getD j 0 = sumN n fun t => cs.getD t 0 * ent hs t j) ∧ (q0 = false → ac = none ∧ nc = 0 ∧ cc = 0) ∧ Below w.heap.size w w' := by
 have HIS : Hid (rform hs (N : Int) = true ∧ ∃ p, HForm hs p) := zh ⟨rform_yes (by omega) fun i hi => by rw [rows_len hN i hi], p, hf⟩;have HL := zh h.len_eq;have HQ := zh hq;clear hq;go_enter Tryz.func12, Tryz.ntmps12
 go_wp2_with fail
 refine (isK ah n ch hs b (N : Int) true _ h (by omega) (by omega) ⟨fun _ => zu HIS, fun _ => rfl⟩).mono ?_;rintro e w1 ⟨rfl, hb1⟩;have HB := zh hb1;replace h := h.za hb1;replace hv := hv.za hb1;clear hb1
 go_wp2_with fail
 refine (takenK ah n ch hs p b av0 N cv0 vs k _ h hf hN hv hK hb hn h1N (by omega)).mono ?_;rintro e w2 ⟨a1, c1, a2, c2, cs, us, rfl, h1, h2, hm, hl, hb1⟩;replace HB := zh (Below.step (zu HB) hb1);have hz : vnought us = q0 := by
  rw [Bool.eq_iff_iff, zu HQ];rw [← zu HL] at hm;exact hl.zero hf hm.inL
 have HZ := zh hz;have HM := zh hm;clear hb1 hl hz hm
 go_wp2_with fail
 refine (vnoughtK a2 N c2 us _ _ (h2.vk (by omega))).mono ?_;rintro e w3 ⟨rfl, hb1⟩;rw [zu HZ];have HV := zh (h1.za hb1);replace HB := zh (Below.step (zu HB) hb1);have HC := zh (show q0 = true → ∀ j, vs.getD j 0 = sumN n fun t => cs.getD t 0 * ent hs t j from fun e j => by
  have h0 := (vnought_iff us).1 ((zu HZ).trans e) j;have h1 := zu HM j;dsimp only at h1;rw [h1, h0]; omega)
 clear hb1 h1 h2 HM HQ HIS;cases q0 with
 | true =>
  clear HZ;go_wp2;refine bodyPost_ret (v := .tuple #[.slice a1 n c1, .bool true]) (by simp [results, Tryz.results12, go_sem, *]) rfl ?_;exact ⟨_, _, _, rfl, ⟨rfl, cs, zu HV, zu HC (by simp)⟩, zu HB⟩
 | false =>
  clear HZ;go_wp2;refine bodyPost_ret (v := .tuple #[.slice none 0 0, .bool false]) (by simp [results, Tryz.results12, go_sem, *]) rfl ?_;exact ⟨_, _, _, rfl, ⟨rfl, rfl, rfl⟩, zu HB⟩
theorem spCoordsN (ah : Option Addr) (n ch : Nat) (hs : List (List Int)) (b : Nat) (av0 : Option Addr) (N cv0 : Nat) (w : World) (h : MK w ah n ch hs b) (hN : N ≤ 1000000) (hn : n ≤ 1000) (hq : ¬ (rform hs (N : Int) = true ∧ ∃ p, HForm hs p)) :
  Calls Tryz.prog 12 #[.slice ah n ch, .slice av0 N cv0] w fun e w' => e = .returned (.tuple #[.slice none 0 0, .bool false]) ∧ Below w.heap.size w w' := by
 have HIS : Hid (false = true ↔ rform hs (N : Int) = true ∧ ∃ p, HForm hs p) := zh ⟨fun e => by simp at e, fun e => absurd e hq⟩;clear hq;go_enter Tryz.func12, Tryz.ntmps12
 go_wp2_with fail
 refine (isK ah n ch hs b (N : Int) false _ h (by omega) (by omega) (zu HIS)).mono ?_;rintro e w1 ⟨rfl, hb1⟩;go_wp2;refine bodyPost_ret (v := .tuple #[.slice none 0 0, .bool false]) (by simp [results, Tryz.results12, go_sem, *]) rfl ?_;exact ⟨rfl, hb1⟩
theorem spHasK (ah : Option Addr) (n ch : Nat) (hs : List (List Int)) (p : Nat → Nat) (b : Nat) (av0 : Option Addr) (N cv0 : Nat) (vs : List Int) (k : Nat) (w : World) (h : MK w ah n ch hs b) (hf : HForm hs p) (hN : ∀ r ∈ hs, r.length = N) (hv : VK w av0 N cv0 vs k) (q0 : Bool) (hq : q0 = true ↔ InL hs fun j => vs.getD j 0) (hK : k + 1 + n * (b + 1) ≤ 200000) (hb : b ≤ 100000) (hn : n ≤ 1000) (h1N : 1 ≤ N) (hNl : N ≤ 64) :
  Calls Tryz.prog 18 #[.slice ah n ch, .slice av0 N cv0] w fun e w' => e = .returned (.bool q0) ∧ Below w.heap.size w w' := by
 go_enter Tryz.func18, Tryz.ntmps18
 go_wp2_with fail
 refine (spCoordsK ah n ch hs p b av0 N cv0 vs k _ h hf hN hv q0 hq hK hb hn h1N hNl).mono ?_;rintro e w1 ⟨ac, nc, cc, rfl, -, -, hb1⟩;go_wp2;go_ret;exact ⟨rfl, hb1⟩
theorem spHasN (ah : Option Addr) (n ch : Nat) (hs : List (List Int)) (b : Nat) (av0 : Option Addr) (N cv0 : Nat) (w : World) (h : MK w ah n ch hs b) (hN : N ≤ 1000000) (hn : n ≤ 1000) (hq : ¬ (rform hs (N : Int) = true ∧ ∃ p, HForm hs p)) :
  Calls Tryz.prog 18 #[.slice ah n ch, .slice av0 N cv0] w fun e w' => e = .returned (.bool false) ∧ Below w.heap.size w w' := by
 go_enter Tryz.func18, Tryz.ntmps18
 go_wp2_with fail
 refine (spCoordsN ah n ch hs b av0 N cv0 _ h hN hn hq).mono ?_;rintro e w1 ⟨rfl, hb1⟩;go_wp2;go_ret;exact ⟨rfl, hb1⟩
set_option maxHeartbeats 1000000 in
theorem spRestK (ah : Option Addr) (n ch : Nat) (hs : List (List Int)) (p : Nat → Nat) (b : Nat) (av0 : Option Addr) (N cv0 : Nat) (vs : List Int) (k : Nat) (w : World) (h : MK w ah n ch hs b) (hf : HForm hs p) (hN : ∀ r ∈ hs, r.length = N) (hv : VK w av0 N cv0 vs k) (hK : k + 1 + n * (b + 1) ≤ 200000) (hb : b ≤ 100000) (hn : n ≤ 1000) (h1N : 1 ≤ N) (hNl : N ≤ 64) :
  Calls Tryz.prog 19 #[.slice ah n ch, .slice av0 N cv0] w fun e w' => ∃ a1 c1 us, e = .returned (.slice a1 N c1) ∧ VF w' a1 N c1 us (k + 1 + n * (b + 1)) ∧ LowV hs p us ∧ InL hs (fun j => vs.getD j 0 - us.getD j 0) ∧ Below w.heap.size w w' := by
 have HIS : Hid (rform hs (N : Int) = true ∧ ∃ p, HForm hs p) := zh ⟨rform_yes (by omega) fun i hi => by rw [rows_len hN i hi], p, hf⟩;have HL := zh h.len_eq;go_enter Tryz.func19, Tryz.ntmps19
 go_wp2_with fail
 refine (isK ah n ch hs b (N : Int) true _ h (by omega) (by omega) ⟨fun _ => zu HIS, fun _ => rfl⟩).mono ?_;rintro e w1 ⟨rfl, hb1⟩;have HB := zh hb1;replace h := h.za hb1;replace hv := hv.za hb1;clear hb1
 go_wp2_with fail
 refine (takenK ah n ch hs p b av0 N cv0 vs k _ h hf hN hv hK hb hn h1N (by omega)).mono ?_;rintro e w2 ⟨a1, c1, a2, c2, cs, us, rfl, -, h2, hm, hl, hb1⟩;replace HB := zh (Below.step (zu HB) hb1);have HI := zh (show InL hs fun j => vs.getD j 0 - us.getD j 0 from by
  rw [← zu HL] at hm;exact hm.inL)
 have HLV := zh hl;clear hb1 hl hm HIS HL;go_wp2;go_ret;exact ⟨_, _, us, rfl, h2, zu HLV, zu HI, zu HB⟩
theorem spRestN (ah : Option Addr) (n ch : Nat) (hs : List (List Int)) (b : Nat) (av0 : Option Addr) (N cv0 : Nat) (vs : List Int) (k : Nat) (w : World) (h : MK w ah n ch hs b) (hv : VK w av0 N cv0 vs k) (hk : k ≤ 900000) (hN : N ≤ 1000000) (hn : n ≤ 1000) (hq : ¬ (rform hs (N : Int) = true ∧ ∃ p, HForm hs p)) :
  Calls Tryz.prog 19 #[.slice ah n ch, .slice av0 N cv0] w fun e w' => ∃ a1 c1, e = .returned (.slice a1 N c1) ∧ VF w' a1 N c1 vs (k + 1) ∧ Below w.heap.size w w' := by
 have HIS : Hid (false = true ↔ rform hs (N : Int) = true ∧ ∃ p, HForm hs p) := zh ⟨fun e => by simp at e, fun e => absurd e hq⟩;clear hq;go_enter Tryz.func19, Tryz.ntmps19
 go_wp2_with fail
 refine (isK ah n ch hs b (N : Int) false _ h (by omega) (by omega) (zu HIS)).mono ?_;rintro e w1 ⟨rfl, hb1⟩;have HB := zh hb1;replace hv := hv.za hb1;clear hb1
 go_wp2_with fail
 refine (ownK av0 N cv0 vs k _ hv hk hN).mono ?_;rintro e w2 ⟨a1, c1, rfl, h1, -, hb1⟩;go_wp2;go_ret;exact ⟨_, _, rfl, h1, Below.step (zu HB) hb1⟩

end Go.Proofs.YtkomdimalgnamaaGreat
