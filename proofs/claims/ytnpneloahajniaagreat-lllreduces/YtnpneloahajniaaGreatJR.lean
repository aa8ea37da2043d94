/-
 More on steps that the call itself made: a part of them, a row of them, one put anew.
-/
import Derived.Test.YtnpneloahajniaaGreatHLow
import Derived.Test.YtnpneloahajniaaGreatHJoin
import Derived.Deep.CutRange
import Derived.Test.YtnpneloahajniaaGreatJI
import Derived.Test.YtnpneloahajniaaGreatJE
import Derived.Test.YtnpneloahajniaaGreatJF
import Derived.Test.YtnpneloahajniaaGreatJM
namespace Go.Proofs.YtnpneloahajniaaGreat
open Go.RowKit Lb
set_option maxRecDepth 20000

theorem wrap_natS (q : Nat) (h : q ≤ 9223372036854775807) : IntKind.i64.wrap (q : Int) = (q : Int) := by
 simp [IntKind.wrap, IntKind.bits, IntKind.signed];omega
theorem sown_up {w : World} {base : Nat} {ao : Option Addr} {n cap k l : Nat} {p : Nat → Nat} {rs : List (List Int)} (h : SOwn w base ao n cap p rs k) (hl : k ≤ l) : SOwn w base ao n cap p rs l := h.tight fun i hi j => Nat.lt_of_lt_of_le (h.rows.size i hi j) (Bp_le hl)
theorem SOwn.at {w : World} {base g n cap k : Nat} {p : Nat → Nat} {rs : List (List Int)} (h : SOwn w base (some ⟨g, 0, none⟩) n cap p rs k) {i : Nat} (hi : i < n) : g < w.heap.size ∧ ∃ a l c, w.cell? ⟨g, i * 2, none⟩ = some (.int .i64 (p i : Int)) ∧ w.cell? ⟨g, i * 2 + 1, none⟩ = some (.slice a l c) ∧ VF w a l c (rs.getD i []) k := by
 obtain ⟨hg, a, l, c, h1, h2, h3⟩ := h.rows.at hi;rw [Nat.zero_add] at h1 h2;exact ⟨hg, a, l, c, h1, h2, h3⟩
theorem slice_tailS {w : World} {base : Nat} {ao : Option Addr} {n cap k q : Nat} {p : Nat → Nat} {rs : List (List Int)} (h : SOwn w base ao n cap p rs k) (hq : q ≤ n) : ∃ at2, (∀ W, (Instr.sliceAt 100 (.slice ao n cap) (some (.int .i64 (q : Int))) none none).run Tryz.prog W = .ok (.slice at2 (n - q) (cap - q)) W) ∧ SRows w at2 (n - q) (cap - q) (fun i => p (q + i)) (rs.drop q) k := by
 have h0 : (0 : Int) ≤ (q : Int) := by omega
 have hc := h.rows.cap_le;have hmx := h.rows.cap_max;have hl := h.len;rcases h.nil_or with ⟨rfl, rfl, rfl⟩ | ⟨g, rfl⟩
 ·obtain rfl : q = 0 := by omega
  refine ⟨none, fun W => ?_, by rw [List.eq_nil_of_length_eq_zero hl]; exact srows_nil w _ k⟩;simp [Instr.sliceAt, Instr.slice, Instr.sliceBounds, Instr.sliceBound, run_underlying Tryz.underlying100, go_sem]
 ·by_cases c : cap = q
  ·have hqm : q = n := by omega
   subst hqm;refine ⟨some ⟨g, 0, none⟩, fun W => ?_, ?_⟩
   ·simp [Instr.sliceAt, Instr.slice, Instr.sliceBounds, Instr.sliceBound, run_underlying Tryz.underlying100, go_sem, h0, c]
   ·rw [Nat.sub_self, List.drop_of_length_le (by omega)];exact SRows.empty (by omega)
  ·refine ⟨some ⟨g, 0 + q * 2, none⟩, fun W => ?_, SRows.drop h.rows hq⟩;simp [Instr.sliceAt, Instr.slice, Instr.sliceBounds, Instr.sliceBound, run_underlying Tryz.underlying100, go_sem, h0, c];exact fun e => absurd e (by omega)
theorem set_len_all {rs : List (List Int)} {n N i : Nat} {v : List Int} (h : ∀ t, t < n → (rs.getD t []).length = N) (hi : i < rs.length) (hv : v.length = N) : ∀ t, t < n → ((rs.set i v).getD t []).length = N := by
 intro t ht;by_cases c : t = i
 ·subst c; rw [show (rs.set t v).getD t [] = v by simp [List.getD, hi]]; exact hv
 ·rw [show (rs.set i v).getD t [] = rs.getD t [] by simp [List.getD, List.getElem?_set_ne (Ne.symm c)]]; exact h t ht
theorem set_small {rs : List (List Int)} {n b i : Nat} {v : List Int} (h : ∀ t, i ≤ t → t < n → ∀ j, (ent rs t j).natAbs < Bp b) (hi : i < rs.length) : ∀ t, i + 1 ≤ t → t < n → ∀ j, (ent (rs.set i v) t j).natAbs < Bp b := by
 intro t h1 h2 j;rw [ent_other hi (by omega)];exact h t (by omega) h2 j
theorem add_len_all {rs : List (List Int)} {n N : Nat} {v : List Int} (h : ∀ t, t < n → (rs.getD t []).length = N) (hl : rs.length = n) (hv : v.length = N) : ∀ t, t < n + 1 → ((rs ++ [v]).getD t []).length = N := by
 intro t ht;by_cases c : t < n
 ·rw [getD_left (by omega)]; exact h t c
 ·rw [getD_right (by omega), show t - rs.length = 0 by omega]; exact hv

/-
 What settle of package hnf tells: each row lowered at the pivots behind its own.
-/

set_option maxRecDepth 40000 in
set_option maxHeartbeats 4000000 in
theorem settleK (ah : Option Addr) (n ch : Nat) (p : Nat → Nat) (rs0 : List (List Int)) (Kc B N base : Nat) (w : World) (hown : SOwn w base ah n ch p rs0 Kc) (hbase : base ≤ w.heap.size) (hf : EForm rs0 p) (hN : ∀ i, i < n → (rs0.getD i []).length = N) (hbd : ∀ h, EForm h p → SameL rs0 h → ∀ k, k < h.length → LowAt h p k → ∀ j, (ent h k j).natAbs < Bp B) (hBK : B ≤ Kc) (hK : Kc + n * (B + 1) ≤ 400000) (hn : n ≤ 1000) (hNl : N ≤ 1000) :
  Calls Tryz.prog 104 #[.slice ah n ch] w fun e w' => ∃ rs, e = .returned (.tuple #[]) ∧ SOwn w' base ah n ch p rs B ∧ HForm rs p ∧ SameL rs0 rs ∧ (∀ i, i < n → (rs.getD i []).length = N) ∧ Below base w w' := by
 have HL0 := zh hown.len;have HBD := zh hbd;have HBA := zh hbase;have HD0 := zh (DState.start hf);have HN0 := zh hN;clear hf hN hbd hbase;go_enter Tryz.func104, Tryz.ntmps104
 go_wp2_with fail
 go_loopw [2] (fun t wr => ∃ (i : Nat) (rs : List (List Int)), i ≤ n ∧ t = .int .i64 ((i : Int) - 1) ∧ SOwn wr base ah n ch p rs Kc ∧ DState rs p i ∧ SameL rs0 rs ∧ (∀ t, i ≤ t → t < n → ∀ j, (ent rs t j).natAbs < Bp B) ∧ (∀ i, i < n → (rs.getD i []).length = N) ∧ Below base w wr) (fun t _ => (intOf t + 1).toNat)
 case atStart => exact ⟨n, rs0, Nat.le_refl _, rfl, hown, by rw [← zu HL0]; exact zu HD0, SameL.refl _, fun t h1 h2 => absurd h1 (by omega), zu HN0, Below.refl _ _⟩
 case round =>
  clear hown;obtain ⟨i, rs, hi, rfl, hown, hd, hs, hsm, hN, hB⟩ := hrel;have HD := zh hd;have HS := zh hs;have HM := zh hsm;have HN := zh hN;have HB := zh hB;clear hd hs hsm hN hB;rcases Nat.eq_zero_or_pos i with hi0 | hi0
  ·subst hi0;have hown2 := hown.tight (k := B) fun t ht => zu HM t (Nat.zero_le _) ht;clear hown;go_wp2
   first
    | go_end0
    | refine bodyPost_ret (results_none rfl _ _ _) rfl ?_
   exact ⟨rs, rfl, hown2, (zu HD).done, zu HS, zu HN, zu HB⟩
  ·obtain ⟨m, rfl⟩ : ∃ m, i = m + 1 := ⟨i - 1, by omega⟩;have hmn : m < n := by omega
   rw [show (((m + 1 : Nat) : Int) - 1) = (m : Int) by omega];obtain ⟨g, rfl⟩ : ∃ g, ah = some ⟨g, 0, none⟩ := by
    rcases hown.nil_or with ⟨_, e, _⟩ | h
    ·omega
    ·exact h
   obtain ⟨at2, hst2, hT⟩ := slice_tailS hown (show m + 1 ≤ n by omega);have hwr : IntKind.i64.wrap ((m : Int) + 1) = ((m + 1 : Nat) : Int) := by rw [show (m : Int) + 1 = ((m + 1 : Nat) : Int) by omega]; exact wrap_natS _ (by omega)
   obtain ⟨q, eq⟩ : ∃ q, q = m + 1 := ⟨_, rfl⟩;rw [← eq] at hst2 hT hwr;have hrl : rs.length = n := hown.len;have HRL := zh hrl;have HT := zh (hT.tight (k := B) fun t ht j => by rw [ent_drop]; exact zu HM (q + t) (by omega) (by omega) j);have HF := zh ((zu HD).form.drop q);have HND : Hid (∀ i, i < n - q → ((rs.drop q).getD i []).length = N) := zh fun i hi => by
    rw [show (rs.drop q).getD i [] = rs.getD (q + i) [] by simp [List.getD]];exact zu HN _ (by omega)
   have EQ := zh eq;have hkm : Kc + (n - q) * (B + 1) ≤ 400000 := Nat.le_trans (Nat.add_le_add_left (Nat.mul_le_mul_right _ (by omega)) _) hK;have HKM := zh hkm;obtain ⟨hg5, a5, l5, c5, x1, x2, hr5⟩ := hown.at hmn;have hl5 : N = l5 := by rw [← hr5.len_eq]; exact (zu HN m hmn).symm
   subst hl5;have hbl := hown.base_le;have hm0 : (0 : Int) ≤ (m : Int) := by omega
   have hm1 : (m : Int) < (n : Int) := by omega
   have hq0 : (0 : Int) ≤ (q : Int) := by omega
   have hq1 : (q : Int) ≤ (n : Int) := by omega
   clear hT hrl hkm eq;have HW : Below wr.heap.size wr wr.drew := (Below.refl _ _).drew
   go_upto_region 3 with fail
   refine zts (fun w' => w'.cell? ⟨g, m * 2 + 1, none⟩ = some (.slice a5 N c5)) 14 (by kernel_rfl) ?_ (fun zH => ?_)
   ·exact (HW.cell (p := ⟨g, m * 2 + 1, none⟩) hg5).trans x2
   refine ztl 0 rfl ?_;simp only [Act.put, aGet, aZero, aSet, aHead, aTail];refine ztl 1 rfl ?_;simp only [zP];refine ztl 2 rfl ?_;simp only [zP];refine ztl 3 rfl ?_;simp only [zP];refine ztl 4 rfl ?_;simp only [zP];refine ztl 5 rfl ?_;simp only [zP];refine ztl 6 rfl ?_;simp only [zP];refine ztl 7 rfl ?_;simp only [zP];refine ztl 8 rfl ?_;simp only [zP];refine ztl 9 rfl ?_;simp only [zP];refine ztl 10 rfl ?_;simp only [zP];refine tin 11 rfl fun K hK => ?_;go_simp;refine (loweredK _ N _ (rs.getD m []) Kc _ (n - q) _ (fun t => p (q + t)) (rs.drop q) B _ ((hr5.za HW).vk (by omega)) ((zu HT).za HW) (zu HF) (zu HND) (zu HKM) (by omega) hNl).mono ?_;rintro e w9 ⟨a7, c7, us, rfl, _, h7, hin, hall, hb9⟩;have HI := zh hin;have HA2 := zh hall;replace h7 := h7 (hr5.za HW);replace HW := Below.step HW hb9;clear hb9 hin hall;refine hK.out _ _ ?_ (fun zH => ?_)
   ·exact (HW.cell (p := ⟨g, m * 2 + 1, none⟩) hg5).trans x2
   clear hK K
   try simp only [zP]
   refine ztl 12 rfl ?_;simp only [zP];refine ztl 13 rfl ?_;simp only [zP];obtain ⟨_, _, _, _, q1, q2, _⟩ := (hown.za HW).at hmn;have q3 := (hown.za HW).free (m * 2);have q4 := (hown.za HW).free (m * 2 + 1);refine tout 14 rfl fun K hK => ?_;go_simp;refine hK.out _ _ ?_;clear hK K
   try simp only [zP]
   refine zdn (by kernel_rfl) ?_ _;clear q1 q2 q3 q4 zH;have hown9 := hown.za HW;have HB9 := zh ((zu HB).trans (HW.mono (Nat.le_trans (zu HBA) (zu HB).size)));have hlt9 : m < rs.length := by rw [zu HRL]; exact hmn
   have hst := (zu HD).step hlt9 (low := us) (by rw [← zu EQ]; exact zu HI) (by rw [zu HRL, ← zu EQ]; exact zu HA2);have hsame := (zu HS).trans hst.2;have htight := vf_tight h7 (k := B) fun j _ => by
    have h9 := zu HBD (rs.set m us) hst.1.form hsame m (by rw [List.length_set]; exact hlt9) (hst.1.low m (Nat.le_refl _) (by rw [List.length_set]; exact hlt9)) j;rw [ent_same hlt9] at h9;exact h9
   have HST := zh hst.1;have HSA := zh hsame;clear hst hsame h7 hr5 HW hown;go_wp2;go_roundw
   case rel =>
    refine ⟨m, rs.set m us, by omega, by go_num, hown9.setRow hmn (vf_up htight hBK), zu HST, zu HSA, fun t h1 h2 j => ?_, set_len_all (zu HN) hlt9 htight.len_eq, (zu HB9).setCell (by simpa using hbl.1) _⟩;by_cases c : t = m
    ·subst c;rw [ent_same hlt9];exact vf_size htight j
    ·rw [ent_other hlt9 c];exact zu HM t (by omega) h2 j
   case measure => simp [intOf]

/-
 What laid of package hnf tells: steps with rising pivots whose lattice is that of the steps and the row.
-/

set_option maxRecDepth 40000 in
set_option maxHeartbeats 4000000 in
theorem laidK (ah : Option Addr) (n ch : Nat) (p0 : Nat → Nat) (rs0 : List (List Int)) (b : Nat) (ao : Option Addr) (N cap : Nat) (zs : List Int) (k base : Nat) (w : World) (hown : SOwn w base ah n ch p0 rs0 b) (hbase : base ≤ w.heap.size) (h : VK w ao N cap zs k) (hf : EForm rs0 p0) (hN : ∀ i, i < n → (rs0.getD i []).length = N) (hK : k + (n + 1) * (n * (b + 1)) ≤ 80000) (hb : b ≤ 80000) (hn : n ≤ 1000) (hNl : N ≤ 1000) :
  Calls Tryz.prog 103 #[.slice ah n ch, .slice ao N cap] w fun e w' => ∃ a1 m c1 p rs, e = .returned (.slice a1 m c1) ∧ SOwn w' base a1 m c1 p rs (b + (k + (n + 1) * (n * (b + 1)))) ∧ EForm rs p ∧ SameL (rs0 ++ [zs]) rs ∧ (∀ i, i < m → (rs.getD i []).length = N) ∧ m ≤ n + 1 ∧ Below base w w' := by
 have HL0 := zh hown.len;have HF0 := zh hf;have HN0 := zh hN;have hsm : ∀ t, 0 ≤ t → t < n → ∀ j, (ent rs0 t j).natAbs < Bp b := fun t _ ht j => hown.rows.size t ht j;have HS0 := zh hsm;clear hf hN hsm;obtain ⟨D, eD⟩ : ∃ D, D = n * (b + 1) := ⟨_, rfl⟩;rw [← eD] at hK ⊢;have hKn : k + D ≤ 80000 := by rw [Nat.add_mul] at hK; omega
 go_enter Tryz.func103, Tryz.ntmps103
 go_wp2_with fail
 go_step3
 go_wp2_with fail
 refine (loweredK ao N cap zs k ah n ch p0 rs0 b _ h hown.rows (zu HF0) (zu HN0) (by rw [← eD]; omega) (by omega) hNl).mono ?_;rintro e w1 ⟨a1, c1, us, rfl, hu, _, hin, _, hb1⟩;rw [← eD] at hu;have ED := zh eD;clear eD;have HI := zh hin;have HB := zh (hb1.mono hbase);replace hown := hown.za hb1;clear hb1 hin h
 go_wp2_with fail
 refine (stepOfK a1 N c1 us (k + D) _ hu (by omega) (by omega)).mono ?_;rintro e w2 ⟨z, a2, c2, rfl, hpz, h2, hb1⟩;have hsz1 := (zu HB).size;replace HB := zh ((zu HB).trans (hb1.mono (Nat.le_trans hbase hsz1)));replace hown := hown.za hb1;have HLS := zh (LState.start (zu HF0) (SameL.refl rs0) (zu HI) hpz);have hlu := hu.len_eq;clear hb1 hpz hu hsz1 HI;have hgx : w2.heap.size = w2.heap.size := rfl;obtain ⟨gx, egx⟩ : ∃ gx, gx = w2.heap.size := ⟨_, rfl⟩;clear hgx;have hbg := (zu HB).size
 go_wp2_with fail
 go_step3
 go_wp2_with fail
 obtain ⟨W0, hW0⟩ : ∃ W0, W0 = w2.alloc (.cells #[.int .i64 z, .slice a2 N c2] 103) := ⟨_, rfl⟩;have hx : SBox W0 gx z a2 N c2 := by rw [hW0]; exact sbox_new w2 _ _ _ _ egx
 have hb0 : Below w2.heap.size w2 W0 := by rw [hW0]; exact below_new _ _
 rw [← hW0, ← egx];clear hW0;have HGN : Hid (∀ g, ah = some ⟨g, 0, none⟩ → g ≠ gx ∧ base ≤ g) := zh fun g e => by
  subst e;have := hown.base_le;omega
 have hbx : base ≤ gx := by omega
 replace h2 := h2.za hb0;replace hown := sown_up (hown.za hb0) (show b ≤ b + (k + D) by omega);replace HB := zh ((zu HB).trans (hb0.mono (Nat.le_trans hbase hbg)));clear hb0 egx hbg hbase;go_loopw [15] (fun t wr => ∃ (i : Nat) (z : Int) (av : Option Addr) (cv : Nat) (vs : List Int) (p : Nat → Nat) (rs : List (List Int)), i ≤ n ∧ t = .int .i64 (i : Int) ∧ SBox wr gx z av N cv ∧ VF wr av N cv vs (k + (i + 1) * D) ∧ SOwn wr base ah n ch p rs (b + (k + (i + 1) * D)) ∧ LState (rs0 ++ [zs]) rs p z vs i ∧ (∀ t, i ≤ t → t < n → ∀ j, (ent rs t j).natAbs < Bp b) ∧ (∀ i, i < n → (rs.getD i []).length = N) ∧ Below base w wr) (fun t _ => n - (intOf t).toNat)
 case atStart => exact ⟨0, z, _, _, _, p0, rs0, Nat.zero_le _, rfl, hx, by rw [Nat.zero_add, Nat.one_mul]; exact h2, by rw [Nat.zero_add, Nat.one_mul]; exact hown, zu HLS, zu HS0, zu HN0, zu HB⟩
 case round =>
  clear hx h2 hown HB HLS hlu;obtain ⟨i, z, av, cv, vs, p, rs, hi, rfl, hx, hv, hown, hls, hsm, hN, hB⟩ := hrel;have HS := zh hls;have HM := zh hsm;have HN := zh hN;have HB := zh hB;have hrl : rs.length = n := hown.len;have HRL := zh hrl;obtain ⟨M, eM⟩ : ∃ M, M = k + (i + 1) * D := ⟨_, rfl⟩;rw [← eM] at hv hown;have hMK : M + D ≤ 80000 + D := by
   have : (i + 1) * D ≤ (n + 1) * D := Nat.mul_le_mul_right _ (by omega);omega
  have hMK2 : i < n → M + D ≤ 80000 := fun hlt => by
   have : (i + 2) * D ≤ (n + 1) * D := Nat.mul_le_mul_right _ (by omega);rw [show (i + 2) * D = (i + 1) * D + D by rw [show i + 2 = i + 1 + 1 by omega, Nat.add_mul (i + 1) 1 D, Nat.one_mul]] at this;omega
  have HMS : Hid (k + (i + 1 + 1) * D = M + D) := zh (by rw [eM, Nat.add_mul (i + 1) 1 D, Nat.one_mul]; omega);have hMf : M ≤ k + (n + 1) * D := by
   have : (i + 1) * D ≤ (n + 1) * D := Nat.mul_le_mul_right _ (by omega);omega
  have EM := zh eM;clear hls hsm hN hB hrl eM;by_cases hz : z < 0
  ·-- nought is in hand
   have HEND := zh ((zu HS).none hz);have hfin : SOwn wr base ah n ch p rs (b + (k + (n + 1) * D)) := sown_up hown (by omega);obtain ⟨f1, f2, _, _⟩ := hx.zb;have hgl := hx.lt;by_cases hlt : i < n
   ·go_wp2
    try rw [Exit.noGoto_ret]
    go_ret;exact ⟨_, _, _, p, rs, rfl, hfin, (zu HS).form, zu HEND, zu HN, by omega, zu HB⟩
   ·have hin : i = n := by omega
    subst hin;go_wp2
    try rw [Exit.noGoto_ret]
    go_ret;exact ⟨_, _, _, p, rs, rfl, hfin, (zu HS).form, zu HEND, zu HN, by omega, zu HB⟩
  ·obtain ⟨q, rfl, hq0, hqp⟩ := (zu HS).hand.nat hz;have HQ0 := zh hq0;have HQP := zh hqp;clear hq0 hqp hz;have hz : ¬ (q : Int) < 0 := by omega
   have hz' : decide ((q : Int) < 0) = false := decide_eq_false hz;by_cases hlt : i < n
   ·obtain ⟨g, rfl⟩ : ∃ g, ah = some ⟨g, 0, none⟩ := by
     rcases hown.nil_or with ⟨_, e, _⟩ | h
     ·omega
     ·exact h
    obtain ⟨hgg, hbg⟩ := zu HGN g rfl;obtain ⟨hg5, a5, l5, c5, x1, x2, hr5⟩ := hown.at hlt;have hl5 : N = l5 := by rw [← hr5.len_eq]; exact (zu HN i hlt).symm
    subst hl5;have hlr : i < rs.length := by rw [zu HRL]; exact hlt
    have HVL := zh hv.len_eq;obtain ⟨f1, f2, _, _⟩ := hx.zb;have hgl := hx.lt;have hi0 : (0 : Int) ≤ (i : Int) := by omega
    have hi1 : (i : Int) < (n : Int) := by omega
    have hDb : b + 1 ≤ D := by
     rw [zu ED];exact Nat.le_mul_of_pos_left _ (by omega)
    have HW : Below wr.heap.size wr wr.drew := (Below.refl _ _).drew
    go_upto_region 6 with fail
    have zS := zh fun w' (HW : Below wr.heap.size wr w') => con4 (hx.za HW).zb.1 (hx.za HW).zb.2.1 ((HW.cell (p := ⟨g, i * 2, none⟩) hg5).trans x1) ((HW.cell (p := ⟨g, i * 2 + 1, none⟩) hg5).trans x2);refine zst zS HW 8 (by kernel_rfl) fun zH => ?_;refine ztl 0 rfl ?_;simp only [Act.put, aGet, aZero, aSet, aHead, aTail];refine ztl 1 rfl ?_;simp only [zP];refine ztl 2 rfl ?_;simp only [zP];refine ztl 3 rfl ?_;simp only [zP];refine ztl 4 rfl ?_;simp only [zP];refine ztl 5 rfl ?_;simp only [zP];refine ztl 6 rfl ?_;simp only [zP];refine ztl 7 rfl ?_;simp only [zP];refine tout 8 rfl fun K hK => ?_;go_simp;refine hK.out _ _ ?_;clear hK K
    try simp only [zP]
    refine zdn (by kernel_rfl) ?_ _;clear f1 f2 hgl;obtain ⟨wd, hwd⟩ : ∃ wd, wd = wr.drew := ⟨_, rfl⟩;rw [← hwd] at HW ⊢;clear hwd zH;replace hx := hx.za HW;replace hv := hv.za HW;replace hown := hown.za HW;replace hr5 := hr5.za HW;replace x1 := (HW.cell (p := ⟨g, i * 2, none⟩) hg5).trans x1;replace x2 := (HW.cell (p := ⟨g, i * 2 + 1, none⟩) hg5).trans x2;replace HB := zh ((zu HB).trans (HW.mono (Nat.le_trans hbg (Nat.le_of_lt hg5))));replace hg5 := Nat.lt_of_lt_of_le hg5 HW.size;clear HW;by_cases hA : q < p i
    ·have hA' : (q : Int) < (p i : Int) := by omega
     have HNS := zh ((zu HS).swap hlr rfl hA);obtain ⟨f1, f2, _, _⟩ := hx.zb;have HW : Below wd.heap.size wd wd.drew := (Below.refl _ _).drew
     go_upto_region 7 with fail
     have zS := zh fun w' (HW : Below wd.heap.size wd w') => con4 (hx.za HW).zb.1 (hx.za HW).zb.2.1 ((HW.cell (p := ⟨g, i * 2, none⟩) hg5).trans x1) ((HW.cell (p := ⟨g, i * 2 + 1, none⟩) hg5).trans x2);refine zst zS HW 8 (by kernel_rfl) fun zH => ?_;refine ztl 0 rfl ?_;simp only [Act.put, aGet, aZero, aSet, aHead, aTail];refine ztl 1 rfl ?_;simp only [zP];refine ztl 2 rfl ?_;simp only [zP];refine ztl 3 rfl ?_;simp only [zP];refine ztl 4 rfl ?_;simp only [zP];refine ztl 5 rfl ?_;simp only [zP];refine ztl 6 rfl ?_;simp only [zP];refine ztl 7 rfl ?_;simp only [zP];obtain ⟨q1, q2, q3, q4⟩ := (hx.za HW).zb;obtain ⟨_, _, _, _, q5, q6, _⟩ := (hown.za HW).at hlt;have q7 := (hown.za HW).free (i * 2);have q8 := (hown.za HW).free (i * 2 + 1);have hg9 := Nat.lt_of_lt_of_le hg5 HW.size;have hgx9 := (hx.za HW).lt;obtain ⟨r1, r2, r3, r4⟩ := hx.zb;obtain ⟨_, _, _, _, r5, r6, _⟩ := hown.at hlt;have r7 := hown.free (i * 2);have r8 := hown.free (i * 2 + 1);refine tout 8 rfl fun K hK => ?_;go_simp;refine hK.out _ _ ?_;clear hK K
     try simp only [zP]
     refine tout 9 rfl fun K hK => ?_;go_simp;refine hK.out _ _ ?_;clear hK K
     try simp only [zP]
     refine zdn (by kernel_rfl) ?_ _;clear q1 q2 q3 q4 q5 q6 q7 q8 r1 r2 r3 r4 r5 r6 r7 r8 hg9 hgx9 zH f1 f2;obtain ⟨w7, hw7⟩ : ∃ w7, w7 = wd := ⟨_, rfl⟩;rw [← hw7] at hown hx hv hr5 HB ⊢;clear hw7 HW x1 x2 hg5;have hg1 := grown_set1 w7 g (i * 2) (.int .i64 (q : Int));have hg2 := grown_set1 (w7.setCell ⟨g, i * 2, none⟩ (.int .i64 (q : Int))) g (i * 2 + 1) (.slice av N cv);have hg3 := hg1.trans hg2;have hos := hown.onlyStep;have hS := (sown_up hown (show b + M ≤ b + (M + D) by omega)).setStep hlt (q := q) (vf_up hv (show M ≤ b + (M + D) by omega));have hx1 := hx.other hg3 (by simp; omega);have hr6 := vf_step hr5 hg3 hos;obtain ⟨W1, hW1⟩ : ∃ W1, W1 = (w7.setCell ⟨g, i * 2, none⟩ (.int .i64 (q : Int))).setCell ⟨g, i * 2 + 1, none⟩ (.slice av N cv) := ⟨_, rfl⟩;have hbe : Below base w W1 := by rw [hW1]; exact ((zu HB).setCell (by simpa using hbg) _).setCell (by simpa using hbg) _
     rw [← hW1] at hS hx1 hr6 ⊢;clear hW1 hg1 hg2 hg3 hos hown hx hv hr5;have HBE := zh hbe;clear hbe;have hgr := grown_sput W1 gx (p i : Int) a5 N c5;have hx2 := hx1.put (p i : Int) a5 N c5;have hS2 := hS.other hgr hx1.onlyStep (Or.inr (by simp [Value.ownBlock]; omega));have hr7 := vf_step hr6 hgr hx1.onlyStep;have hbz : Below base w (sput W1 gx (p i : Int) a5 N c5) := ((zu HBE).setCell (by simpa using hbx) _).setCell (by simpa using hbx) _;have hdr : Below (sput W1 gx (p i : Int) a5 N c5).heap.size (sput W1 gx (p i : Int) a5 N c5) (sput W1 gx (p i : Int) a5 N c5).drew := (Below.refl _ _).drew;replace hx2 := hx2.za hdr;replace hS2 := hS2.za hdr;replace hr7 := hr7.za hdr;replace hbz := hbz.drew;unfold sput at hx2 hS2 hr7 hbz;have HBZ := zh hbz;clear hgr hx1 hS hr6 hdr hbz;go_wp2;go_roundw
     case rel => exact ⟨i + 1, _, _, _, _, _, _, by omega, by go_num, hx2, by rw [zu HMS]; exact vf_up (vf_tight hr7 fun j _ => zu HM i (Nat.le_refl _) hlt j) (by omega), by rw [zu HMS]; exact hS2, zu HNS, set_small (zu HM) hlr, set_len_all (zu HN) hlr (zu HVL), zu HBZ⟩
     case measure => simp [intOf]; omega
    ·have hA' : decide ((q : Int) < (p i : Int)) = false := decide_eq_false (by omega);have hA'' : ¬ (q : Int) < (p i : Int) := by omega
     by_cases hE : q = p i
     ·subst hE;have hE' : ((p i : Int) == (p i : Int)) = true := by simp
      have HW : Below wd.heap.size wd wd.drew := (Below.refl _ _).drew
      go_upto_region 8 with fail
      have zS := zh fun w' (HW : Below wd.heap.size wd w') => con4 (hx.za HW).zb.1 (hx.za HW).zb.2.1 ((HW.cell (p := ⟨g, i * 2, none⟩) hg5).trans x1) ((HW.cell (p := ⟨g, i * 2 + 1, none⟩) hg5).trans x2);refine zst zS HW 8 (by kernel_rfl) fun zH => ?_;refine ztl 0 rfl ?_;simp only [Act.put, aGet, aZero, aSet, aHead, aTail];refine ztl 1 rfl ?_;simp only [zP];refine ztl 2 rfl ?_;simp only [zP];refine ztl 3 rfl ?_;simp only [zP];refine ztl 4 rfl ?_;simp only [zP];refine ztl 5 rfl ?_;simp only [zP];refine ztl 6 rfl ?_;simp only [zP];refine ztl 7 rfl ?_;simp only [zP];refine tout 8 rfl fun K hK => ?_;go_simp;refine hK.out _ _ ?_;clear hK K
      try simp only [zP]
      refine zdn (by kernel_rfl) ?_ _;obtain ⟨we, hwe⟩ : ∃ we, we = wd.drew := ⟨_, rfl⟩;rw [← hwe] at HW ⊢;clear hwe zH;replace hx := hx.za HW;replace hv := hv.za HW;replace hown := hown.za HW;replace hr5 := hr5.za HW;replace x1 := (HW.cell (p := ⟨g, i * 2, none⟩) hg5).trans x1;replace x2 := (HW.cell (p := ⟨g, i * 2 + 1, none⟩) hg5).trans x2;replace HB := zh ((zu HB).trans (HW.mono (Nat.le_trans hbg (Nat.le_of_lt hg5))));replace hg5 := Nat.lt_of_lt_of_le hg5 HW.size;clear HW;have HW : Below we.heap.size we we.drew := (Below.refl _ _).drew;have HP1 := zh ((zu HS).form.pos i hlr);have HP2 := HQP;have HP3 := zh ((zu HS).form.ahead i hlr);have HP4 := HQ0;have hpN : p i < N := by
       have h1 := ((zu HS).form.isPivot hlr).lt;rw [zu HN i hlt] at h1;exact h1
      have hM8 := hMK2 hlt;replace hr5 := vf_tight hr5 (k := b) fun j _ => zu HM i (Nat.le_refl _) hlt j
      go_upto_region 9 with fail
      have zS := zh fun w' (HW : Below we.heap.size we w') => con3 ((HW.cell (p := ⟨g, i * 2 + 1, none⟩) hg5).trans x2) (hx.za HW).zb.1 (hx.za HW).zb.2.1;refine zst zS HW 14 (by kernel_rfl) fun zH => ?_;refine ztl 0 rfl ?_;simp only [Act.put, aGet, aZero, aSet, aHead, aTail];refine ztl 1 rfl ?_;simp only [zP];refine ztl 2 rfl ?_;simp only [zP];refine ztl 3 rfl ?_;simp only [zP];refine ztl 4 rfl ?_;simp only [zP];refine ztl 5 rfl ?_;simp only [zP];refine ztl 6 rfl ?_;simp only [zP];refine ztl 7 rfl ?_;simp only [zP];refine ztl 8 rfl ?_;simp only [zP];refine tin 9 rfl fun K hK => ?_;go_simp;refine (joinedK _ N _ (rs.getD i []) b _ _ vs M (p i) _ (hr5.za HW) (hv.za HW) hpN (zu HP1) (zu HP2) (zu HP3) (zu HP4) (by omega) (by omega) hNl).mono ?_;rintro e w9 ⟨a7, c7, a8, c8, first, rest, rfl, h7, h8, hj, hb9⟩;have HJ := zh hj;replace HW := Below.step HW hb9;clear hb9 hj;refine hK.out _ _ ?_ (fun zH => ?_)
      ·exact zu zS _ HW
      clear hK K
      try simp only [zP]
      refine ztl 10 rfl ?_;simp only [zP];refine ztl 11 rfl ?_;simp only [zP];refine ztl 12 rfl ?_;simp only [zP];refine tin 13 rfl fun K hK => ?_;go_simp;refine hK.out _ _ ?_ (fun zH => ?_)
      ·exact zu zS _ HW
      clear hK K
      try simp only [zP]
      refine tout 14 rfl fun K hK => ?_;go_simp;refine hK.out _ _ ?_;clear hK K
      try simp only [zP]
      refine zdn (by kernel_rfl) ?_ _;clear zH;replace hown := hown.za HW;replace hx := hx.za HW;replace HB := zh ((zu HB).trans (HW.mono (Nat.le_trans hbg (Nat.le_of_lt hg5))));have hg6 := Nat.lt_of_lt_of_le hg5 HW.size;clear HW x1 x2 hv hr5 hg5;obtain ⟨at2, hst2, hT⟩ := slice_tailS hown (show i + 1 ≤ n by omega);have hwr : IntKind.i64.wrap ((i : Int) + 1) = ((i + 1 : Nat) : Int) := by rw [show (i : Int) + 1 = ((i + 1 : Nat) : Int) by omega]; exact wrap_natS _ (by omega)
      obtain ⟨q, eq⟩ : ∃ q, q = i + 1 := ⟨_, rfl⟩;rw [← eq] at hst2 hT hwr;have HT := zh (hT.tight (k := b) fun t ht j => by rw [ent_drop]; exact zu HM (q + t) (by omega) (by omega) j);have HF := zh ((zu HS).form.drop q);have HND : Hid (∀ i, i < n - q → ((rs.drop q).getD i []).length = N) := zh fun i hi => by
       rw [show (rs.drop q).getD i [] = rs.getD (q + i) [] by simp [List.getD]];exact zu HN _ (by omega)
      have hkm : M + b + 1 + (n - q) * (b + 1) ≤ M + D := by
       have h1 : (n - q + 1) * (b + 1) ≤ n * (b + 1) := Nat.mul_le_mul_right _ (by omega);rw [Nat.add_mul, Nat.one_mul, ← zu ED] at h1;omega
      have EQ := zh eq;have hq0 : (0 : Int) ≤ (q : Int) := by omega
      have hq1 : (q : Int) ≤ (n : Int) := by omega
      clear hT eq;obtain ⟨KL, eKL⟩ : ∃ KL, KL = M + b + 1 + (n - q) * (b + 1) := ⟨_, rfl⟩;have EKL := zh eKL;have hkl : KL ≤ M + D := by omega
      clear hkm
      go_wp2_with fail
      refine (loweredK _ N _ rest (M + b + 1) _ (n - q) _ (fun t => p (q + t)) (rs.drop q) b _ (h8.vk (by omega)) (zu HT) (zu HF) (zu HND) (by rw [← eKL]; omega) (by omega) hNl).mono ?_;rintro e w10 ⟨a9, c9, us, rfl, h9, _, hin, _, hb9⟩;rw [← zu EKL] at h9;have HIN := zh hin;replace hown := hown.za hb9;replace hx := hx.za hb9;replace h7 := h7.za hb9;replace HB := zh ((zu HB).trans (hb9.mono (Nat.le_trans hbg (Nat.le_of_lt hg6))));have hg7 := Nat.lt_of_lt_of_le hg6 hb9.size;clear hb9 h8 hin HT hst2 hwr eKL
      go_wp2_with fail
      refine (stepOfK a9 N c9 us KL _ h9 (by omega) (by omega)).mono ?_;rintro e w11 ⟨z2, a10, c10, rfl, hpz, h10, hb9⟩;have HNS := zh ((zu HS).join hlr rfl (zu HJ) (by rw [← zu EQ]; exact zu HIN) hpz);replace hown := hown.za hb9;replace hx := hx.za hb9;replace h7 := h7.za hb9;replace HB := zh ((zu HB).trans (hb9.mono (Nat.le_trans hbg (Nat.le_of_lt hg7))));clear hb9 h9 hpz HJ HIN;have HFL := zh h7.len_eq;obtain ⟨q1, q2, q3, q4⟩ := hx.zb;obtain ⟨_, _, _, _, q5, q6, _⟩ := hown.at hlt;have q7 := hown.free (i * 2);have q8 := hown.free (i * 2 + 1);have hg8 := hown.base_le;have hgx9 := hx.lt;go_wp2;clear q1 q2 q3 q4 q5 q6 q7 q8 hgx9 hg8;have hg1 := grown_set1 w11 g (i * 2 + 1) (.slice a7 N c7);have hos := hown.onlyStep;have hS := (sown_up hown (show b + M ≤ b + (M + D) by omega)).setRow hlt (vf_up h7 (show M + b + 1 ≤ b + (M + D) by omega));have hx1 := hx.other hg1 (by simp; omega);have hr6 := vf_step h10 hg1 hos;obtain ⟨W1, hW1⟩ : ∃ W1, W1 = w11.setCell ⟨g, i * 2 + 1, none⟩ (.slice a7 N c7) := ⟨_, rfl⟩;have hbe : Below base w W1 := by rw [hW1]; exact (zu HB).setCell (by simpa using hbg) _
      rw [← hW1] at hS hx1 hr6 ⊢;clear hW1 hg1 hos hown hx h7 h10;have HBE := zh hbe;clear hbe;have hgr := grown_sput W1 gx z2 a10 N c10;have hx2 := hx1.put z2 a10 N c10;have hS2 := hS.other hgr hx1.onlyStep (Or.inr (by simp [Value.ownBlock]; omega));have hr7 := vf_step hr6 hgr hx1.onlyStep;unfold sput at hx2 hS2 hr7;clear hgr hx1 hS hr6;go_roundw
      case rel => exact ⟨i + 1, _, _, _, _, _, _, by omega, by go_num, hx2, by rw [zu HMS]; exact vf_up hr7 hkl, by rw [zu HMS]; exact hS2, zu HNS, set_small (zu HM) hlr, set_len_all (zu HN) hlr (zu HFL), ((zu HBE).setCell (by simpa using hbx) _).setCell (by simpa using hbx) _⟩
      case measure => simp [intOf]; omega
     ·have hE' : ((q : Int) == (p i : Int)) = false := by simp; omega
      have hE'' : ¬ (q : Int) = (p i : Int) := by omega
      have HNS := zh ((zu HS).pass (show (p i : Int) < (q : Int) by omega));have HW : Below wd.heap.size wd wd.drew := (Below.refl _ _).drew
      go_upto_region 8 with fail
      have zS := zh fun w' (HW : Below wd.heap.size wd w') => con4 (hx.za HW).zb.1 (hx.za HW).zb.2.1 ((HW.cell (p := ⟨g, i * 2, none⟩) hg5).trans x1) ((HW.cell (p := ⟨g, i * 2 + 1, none⟩) hg5).trans x2);refine zst zS HW 8 (by kernel_rfl) fun zH => ?_;refine ztl 0 rfl ?_;simp only [Act.put, aGet, aZero, aSet, aHead, aTail];refine ztl 1 rfl ?_;simp only [zP];refine ztl 2 rfl ?_;simp only [zP];refine ztl 3 rfl ?_;simp only [zP];refine ztl 4 rfl ?_;simp only [zP];refine ztl 5 rfl ?_;simp only [zP];refine ztl 6 rfl ?_;simp only [zP];refine ztl 7 rfl ?_;simp only [zP];refine tout 8 rfl fun K hK => ?_;go_simp;refine hK.out _ _ ?_;clear hK K
      try simp only [zP]
      refine zdn (by kernel_rfl) ?_ _;obtain ⟨we, hwe⟩ : ∃ we, we = wd.drew := ⟨_, rfl⟩;rw [← hwe] at HW ⊢;clear hwe zH;replace hx := hx.za HW;replace hv := hv.za HW;replace hown := hown.za HW;replace hr5 := hr5.za HW;replace x1 := (HW.cell (p := ⟨g, i * 2, none⟩) hg5).trans x1;replace x2 := (HW.cell (p := ⟨g, i * 2 + 1, none⟩) hg5).trans x2;replace HB := zh ((zu HB).trans (HW.mono (Nat.le_trans hbg (Nat.le_of_lt hg5))));replace hg5 := Nat.lt_of_lt_of_le hg5 HW.size;clear HW;go_wp2;go_roundw
      case rel => exact ⟨i + 1, _, _, _, _, _, _, by omega, by go_num, hx, by rw [zu HMS]; exact vf_up hv (by omega), by rw [zu HMS]; exact sown_up hown (by omega), zu HNS, fun t h1 h2 => zu HM t (by omega) h2, zu HN, zu HB⟩
      case measure => simp [intOf]; omega
   ·have hin : i = n := by omega
    subst hin;obtain ⟨f1, f2, _, _⟩ := hx.zb;have hgl := hx.lt;have hsn := (zu HS);rw [← zu HRL] at hsn;have HSF := zh hsn.snoc;have HSS := zh (zu HS).same;have hbase : base ≤ wr.heap.size := Nat.le_of_lt (Nat.lt_of_le_of_lt hbx hgl);have hb9 : Below wr.heap.size wr (wr.alloc (.cells #[.int .i64 (q : Int), .slice av N cv] 103)) := below_new _ _;have hownA := (sown_up hown (show b + M ≤ b + (k + (i + 1) * D) by omega)).za hb9;have hvA := vf_up (hv.za hb9) (show M ≤ b + (k + (i + 1) * D) by omega);obtain ⟨g1, g2, _, _⟩ := (sbox_new wr (q : Int) av N cv rfl).zb;have hbA := Nat.le_trans hbase hb9.size;have HVL := zh hv.len_eq;have HBA := zh ((zu HB).trans (hb9.mono hbase));clear hb9 hsn hown hv hbase
    go_wp2_with (at_builtin; (refine append_step rfl (.tmp 78) (.tmp 80) 100 Tryz.underlying100 rfl base _ i ch (b + (k + (i + 1) * D)) p rs rfl hownA wr.heap.size q av N cv vs rfl g1 g2 hvA (by omega) hbA ?_))
    intro an cn w7 hown2 hgr7;have HD := zh ((zu HBA).grown hgr7 hbA hownA.ge);clear hgr7 hownA hvA g1 g2 f1 f2;go_wp2
    try rw [Exit.noGoto_ret]
    go_ret;refine ⟨_, _, _, _, _, rfl, hown2, ?_, zu HSS, add_len_all (zu HN) (zu HRL) (zu HVL), Nat.le_refl _, zu HD⟩;have := zu HSF;rw [zu HRL] at this;exact this

/-
 What stairs and Hnf of package hnf tell: the rows in the form whose lattice is the one of the rows that were handed in.
-/

theorem sameL_snoc_same {a b : List (List Int)} (v : List Int) (h : SameL a b) : SameL (a ++ [v]) (b ++ [v]) := sameL_snoc (s := 1) h (Or.inl rfl) ((inL_zero b).eq fun j => by omega)
theorem take_all_snoc {ls : List (List Int)} {i : Nat} (h : i < ls.length) : ls.take (i + 1) = ls.take i ++ [ls.getD i []] := take_snoc [] h
theorem six_le {n m B k : Nat} (hm : m ≤ n) (h : k + (n + 1) * (n * (B + 1)) ≤ 80000) : k + (m + 1) * (m * (B + 1)) ≤ 80000 :=
 Nat.le_trans (Nat.add_le_add_left (Nat.mul_le_mul (by omega) (Nat.mul_le_mul_right _ hm)) _) h
set_option maxRecDepth 40000 in
set_option maxHeartbeats 4000000 in
theorem stairsK (ao : Option Addr) (n cap : Nat) (ls : List (List Int)) (k N B R : Nat) (w : World) (h : MK w ao n cap ls k) (hN : ∀ i, i < n → (ls.getD i []).length = N) (hbd : Bounded ls B) (hnR : n ≤ R + 1) (hK : k + (R + 1) * (R * (B + 1)) ≤ 80000) (hB8 : B ≤ 80000) (hn : n ≤ 100) (hNl : N ≤ 1000) :
  Calls Tryz.prog 92 #[.slice ao n cap] w fun e w' => ∃ a1 m c1 p hs, e = .returned (.slice a1 m c1) ∧ SOwn w' w.heap.size a1 m c1 p hs B ∧ HForm hs p ∧ SameL ls hs ∧ (∀ i, i < m → (hs.getD i []).length = N) ∧ m ≤ n ∧ Below w.heap.size w w' := by
 have HL := zh h.len_eq;have HN := zh hN;have HBD := zh hbd;clear hN hbd;go_enter Tryz.func92, Tryz.ntmps92
 go_wp2_with fail
 go_loopw [3, 8] (fun s t wr => ∃ (i m : Nat) (ah : Option Addr) (ch : Nat) (p : Nat → Nat) (hs : List (List Int)), i ≤ n ∧ m ≤ i ∧ t = .int .i64 (i : Int) ∧ s = .slice ah m ch ∧ SOwn wr w.heap.size ah m ch p hs B ∧ HForm hs p ∧ SameL (ls.take i) hs ∧ (∀ i, i < m → (hs.getD i []).length = N) ∧ Below w.heap.size w wr) (fun _ t _ => n - (intOf t).toNat)
 case atStart => exact ⟨0, 0, none, 0, fun i => i, [], Nat.zero_le _, Nat.zero_le _, rfl, rfl, sOwn_nil _ _ _ _, hform_nil _, SameL.refl _, fun i hi => absurd hi (by omega), Below.refl _ _⟩
 case round =>
  obtain ⟨i, m, ah, ch, p, hs, hi, hmi, rfl, rfl, hown, hf, hs1, hNs, hB⟩ := hrel;have HF := zh hf;have HS := zh hs1;have HM := zh hNs;have HB := zh hB;clear hf hs1 hNs hB;by_cases hlt : i < n
  ·obtain ⟨g, off, rfl⟩ := h.addr (by omega);obtain ⟨hg, a5, l5, c5, hc5, hv5⟩ := RowsOf.at (R := fun w a l c zs => VK w a l c zs k) h hlt;have hl5 : N = l5 := by rw [← hv5.len_eq]; exact (zu HN i hlt).symm
   subst hl5;replace hv5 := hv5.za (zu HB);have f2 := ((zu HB).cell (p := ⟨g, off + i, none⟩) hg).trans hc5;have hgr := Nat.lt_of_lt_of_le hg (zu HB).size;have hi0 : (0 : Int) ≤ (i : Int) := by omega
   have hi1 : (i : Int) < (n : Int) := by omega
   have hsz := (zu HB).size;have hsix := six_le (B := B) (k := k) (show m ≤ R by omega) hK;have HSIX := zh hsix;clear hc5 hg hsix
   go_wp2_with fail
   refine (laidK ah m ch p hs B a5 N c5 (ls.getD i []) k w.heap.size _ hown hsz hv5 (zu HF).eform (zu HM) (zu HSIX) hB8 (by omega) hNl).mono ?_;rintro e w5 ⟨a1, m1, c1, p1, rs1, rfl, hown1, hf1, hs1, hN1, hm1, hb1⟩;have hs2 : SameL (ls.take (i + 1)) rs1 := by
    rw [take_all_snoc (by rw [zu HL]; exact hlt)];exact (sameL_snoc_same _ (zu HS)).trans hs1
   replace HB := zh ((zu HB).trans hb1);have HF1 := zh hf1;have HS1 := zh hs2;have HN1 := zh hN1;have HBX : Hid (∀ h, EForm h p1 → SameL rs1 h → ∀ k, k < h.length → LowAt h p1 k → ∀ j, (ent h k j).natAbs < Bp B) := zh fun h h1 h2 => zu HBD (i + 1) (by rw [zu HL]; omega) h p1 h1 (hs2.trans h2);have hsz5 := (zu HB).size;have hkx : B + (k + (m + 1) * (m * (B + 1))) + m1 * (B + 1) ≤ 400000 := by
    have h1 := zu HSIX;have h2 : m1 * (B + 1) ≤ (m + 1) * (B + 1) := Nat.mul_le_mul_right _ hm1;rcases Nat.eq_zero_or_pos m with c | c
    ·subst c;have : (0 + 1) * (B + 1) = B + 1 := by omega
     omega
    ·have h3 : (m + 1) * (B + 1) ≤ (m + 1) * (m * (B + 1)) := Nat.mul_le_mul_left _ (Nat.le_mul_of_pos_left _ c);omega
   have HKX := zh hkx;clear hb1 hf1 hs1 hs2 hN1 hown f2 hgr hv5 hkx
   go_wp2_with fail
   refine (settleK a1 m1 c1 p1 rs1 (B + (k + (m + 1) * (m * (B + 1)))) B N w.heap.size _ hown1 hsz5 (zu HF1) (zu HN1) (zu HBX) (by omega) (zu HKX) (by omega) hNl).mono ?_;rintro e w6 ⟨rs2, rfl, hown2, hf2, hs2, hN2, hb1⟩;have HF2 := zh hf2;have HS2 := zh ((zu HS1).trans hs2);have HN2 := zh hN2;replace HB := zh ((zu HB).trans hb1);clear hb1 hf2 hs2 hN2 hown1;go_wp2;go_roundw
   case rel => exact ⟨i + 1, m1, _, _, p1, rs2, by omega, by omega, by go_num, rfl, hown2, zu HF2, zu HS2, zu HN2, zu HB⟩
   case measure => simp [intOf]; omega
  ·have hin : i = n := by omega
   subst hin;have hi1 : ¬ (i : Int) < (i : Int) := by omega
   rw [List.take_of_length_le (by rw [zu HL]; exact Nat.le_refl _)] at HS;go_wp2;go_ret;exact ⟨_, _, _, rfl, _, _, hown, zu HF, zu HS, zu HM, hmi, zu HB⟩

theorem rform_rows {ls : List (List Int)} {x : Int} (h : rform ls x = true) : ∃ N : Nat, x = (N : Int) ∧ 1 ≤ N ∧ N ≤ 64 ∧ ∀ r ∈ ls, r.length = N := by
 unfold rform at h;rw [Bool.and_eq_true] at h;have h1 := of_decide_eq_true h.1;refine ⟨x.toNat, by omega, by omega, by omega, fun r hr => ?_⟩;have := List.all_eq_true.1 h.2 r hr;have := of_decide_eq_true this;omega
theorem rows_len {ls : List (List Int)} {N : Nat} (h : ∀ r ∈ ls, r.length = N) : ∀ i, i < ls.length → (ls.getD i []).length = N := fun i hi => by
 rw [show ls.getD i [] = ls[i] by simp [List.getD, hi]];exact h _ (List.getElem_mem hi)
theorem len_rows {ls : List (List Int)} {N n : Nat} (hl : ls.length = n) (h : ∀ i, i < n → (ls.getD i []).length = N) : ∀ r ∈ ls, r.length = N := fun r hr => by
 obtain ⟨i, hi, e⟩ := List.getElem_of_mem hr;have := h i (by omega);rw [show ls.getD i [] = ls[i] by simp [List.getD, hi], e] at this;exact this
set_option maxRecDepth 40000 in
set_option maxHeartbeats 4000000 in
theorem hnfK (ao : Option Addr) (n cap : Nat) (ls : List (List Int)) (k B R : Nat) (x : Int) (w : World) (h : MK w ao n cap ls k) (hx : -9223372036854775808 ≤ x ∧ x ≤ 9223372036854775807) (hq : rform ls x = true) (hbd : Bounded ls B) (hnR : n ≤ R + 1) (hK : k + (R + 1) * (R * (B + 1)) ≤ 80000) (hB8 : B ≤ 80000) (hn : n ≤ 100) :
  Calls Tryz.prog 75 #[.slice ao n cap, .int .i64 x] w fun e w' => ∃ a1 m c1 p hs, e = .returned (.tuple #[.slice a1 m c1, .int .i64 0]) ∧ MF w' a1 m c1 hs B ∧ HForm hs p ∧ SameL ls hs ∧ (∀ r ∈ hs, (r.length : Int) = x) ∧ m ≤ n ∧ Below w.heap.size w w' := by
 obtain ⟨N, rfl, hN1, hN2, hNr⟩ := rform_rows hq;have HN := zh (rows_len hNr);have HL := zh h.len_eq;have HBD := zh hbd;clear hNr hbd;go_enter Tryz.func75, Tryz.ntmps75
 go_wp2_with fail
 refine (rowsFormK ao n cap ls (N : Int) w h.ml hx true hq).mono ?_;rintro e w1 ⟨rfl, hb1⟩;have hk := h.za hb1;have HB := zh hb1;clear hb1 h
 go_wp2_with fail
 refine (stairsK ao n cap ls k N B R _ hk (by rw [← zu HL]; exact zu HN) (zu HBD) hnR hK hB8 hn (by omega)).mono ?_;rintro e w2 ⟨a1, m, c1, p, hs, rfl, hown, hf, hs1, hNs, hm, hb1⟩;have hl := hown.len;have hst := hown.rows;have HF := zh hf;have HS := zh hs1;have HM := zh hNs;have HML := zh hl;replace HB := zh (Below.step (zu HB) hb1);clear hb1 hf hs1 hNs hown hl hk;have hsz2 := (zu HB).size
 go_wp2_with fail
 go_loopw [6, 16] (fun s t wr => ∃ (i : Nat) (ah : Option Addr) (ch : Nat), i ≤ m ∧ t = .int .i64 (i : Int) ∧ s = .slice ah i ch ∧ MO wr w2.heap.size ah i ch (hs.take i) B ∧ Below w2.heap.size w2 wr) (fun _ t _ => m - (intOf t).toNat)
 case atStart => exact ⟨0, none, 0, Nat.zero_le _, rfl, rfl, mo_nil _ _ _, Below.refl _ _⟩
 case round =>
  obtain ⟨i, ah, ch, hi, rfl, rfl, hown, hB⟩ := hrel;have HC := zh hB;clear hB;by_cases hlt : i < m
  ·obtain ⟨g, off, rfl⟩ := hst.some (by omega);obtain ⟨hg, a5, l5, c5, x1, x2, hr5⟩ := hst.at hlt;have hl5 : N = l5 := by rw [← hr5.len_eq]; exact (zu HM i hlt).symm
   subst hl5;have f1 := ((zu HC).cell (p := ⟨g, off + i * 2, none⟩) hg).trans x1;have f2 := ((zu HC).cell (p := ⟨g, off + i * 2 + 1, none⟩) hg).trans x2;have hgr := Nat.lt_of_lt_of_le hg (zu HC).size;replace hr5 := hr5.za (zu HC);have hi0 : (0 : Int) ≤ (i : Int) := by omega
   have hi1 : (i : Int) < (m : Int) := by omega
   have hszr := (zu HC).size;have hb9 : Below wr.heap.size wr (wr.alloc (.cells #[.int .i64 (p i : Int), .slice a5 N c5] 103)) := below_new _ _;obtain ⟨WA, hWA⟩ : ∃ WA, WA = wr.alloc (.cells #[.int .i64 (p i : Int), .slice a5 N c5] 103) := ⟨_, rfl⟩;have hbA : Below wr.heap.size wr WA := by rw [hWA]; exact hb9
   obtain ⟨WB, hWB⟩ : ∃ WB, WB = WA.alloc (.cells #[.slice a5 N c5] 39) := ⟨_, rfl⟩;have hbB : Below WA.heap.size WA WB := by rw [hWB]; exact below_new _ _
   have hone : MF WB (some ⟨WA.heap.size, 0, none⟩) 1 1 [hs.getD i []] B := by rw [hWB]; exact mf_one (hr5.za hbA)
   have hownB := (hown.za hbA).za hbB;have hbb := Below.step hbA hbB;have hszB : w2.heap.size ≤ WB.heap.size := Nat.le_trans hszr hbb.size;have hWAs : WA.heap.size = wr.heap.size + 1 := by rw [hWA]; simp
   rw [hWAs] at hone;rw [hWB, hWA] at hone hownB hszB;have HBB := zh (show Below w2.heap.size w2 WB from Below.step (zu HC) hbb);rw [hWB, hWA] at HBB;clear hb9 hbA hbB hbb hWB hWA hown hszr x1 x2 hg
   go_wp2_with (at_builtin; (refine append_rows (R := fun w a l c zs => VF w a l c zs B) (steadyMO B) rfl (.tmp 20) (.tmp 23) 22 Tryz.underlying22 rfl w2.heap.size ah i ch (hs.take i) rfl hownB _ 1 1 [hs.getD i []] rfl hone (by omega) hszB ?_))
   intro an cn w7 hown2 hgr7;have HD := zh ((zu HBB).grown hgr7 hszB (MO.ge hownB));clear hgr7 hone hownB hszB f1 f2;have hown3 : MO w7 w2.heap.size an (i + 1) cn (hs.take (i + 1)) B := by rw [take_all_snoc (by rw [zu HML]; exact hlt)]; exact hown2
   clear hown2;go_wp2;go_roundw
   case rel => exact ⟨i + 1, _, _, by omega, by go_num, rfl, hown3, zu HD⟩
   case measure => simp [intOf]; omega
  ·have hin : i = m := by omega
   subst hin;have hi1 : ¬ (i : Int) < (i : Int) := by omega
   rw [List.take_of_length_le (by rw [zu HML]; exact Nat.le_refl _)] at hown;go_wp2;refine bodyPost_ret (v := .tuple #[.slice ah i ch, .int .i64 0]) (by simp [results, Tryz.results75, go_sem, *]) rfl ?_;exact ⟨_, _, _, rfl, _, _, hown.mf, zu HF, zu HS, fun r hr => by rw [len_rows (zu HML) (zu HM) r hr], hm, Below.step (zu HB) (zu HC)⟩

/-
 What Heavy, Cuts and awake of the tenth stage's statements tell: few rows, short, of at most 3 limbs; rows as rows of one length, at most 7; true (IN PARTS).
-/

def Light (P : Nat) (w : World) (a : Option Addr) (l : Nat) : Prop := l ≤ P ∧ ∀ j g off b a' l' c', j < l → a = some ⟨g, off, none⟩ → EltAt w g (off + j * 2) b a' l' c' → l' ≤ 3
theorem light_vs {P : Nat} {w : World} {ao : Option Addr} {n cap : Nat} {zs : List Int} (h : VI w ao n cap zs) (hs : Light P w ao n) : ∀ w', Below w.heap.size w w' → VS w' ao n cap zs 3 := by
 intro w' hb;refine ⟨h.len_eq, h.cap_le, h.cap_max, h.nil_cap, fun hp => ?_⟩;obtain ⟨g, off, e, hg, hc⟩ := h.elts hp;refine ⟨g, off, e, Nat.lt_of_lt_of_le hg hb.size, fun i hi => ?_⟩;obtain ⟨b, a, l, c, h1, h2⟩ := hc i hi;have hl := hs.2 i g off b a l c hi e h1;exact ⟨b, a, l, c, h1.za hb, ik_of (h2.za hb) hl (by omega), hl⟩
theorem light_ms {P : Nat} {w : World} {ao : Option Addr} {n cap : Nat} {rs : List (List Int)} (h : MI w ao n cap rs) (hs : ∀ i g off a l c, i < n → ao = some ⟨g, off, none⟩ → w.cell? ⟨g, off + i, none⟩ = some (.slice a l c) → Light P w a l) : (∀ i, (rs.getD i []).length ≤ P) ∧ ∀ w', Below w.heap.size w w' → MS w' ao n cap rs 3 := by
 refine ⟨fun i => ?_, fun w' hb => ⟨h.len_eq, h.cap_le, h.cap_max, h.nil_cap, fun hp => ?_⟩⟩
 ·by_cases hi : i < n
  ·obtain ⟨g, off, e, hg, hc⟩ := h.elts (by omega);obtain ⟨a, l, c, h1, h2⟩ := hc i hi;rw [h2.len_eq];exact (hs i g off a l c hi e h1).1
  ·rw [show rs.getD i [] = [] by simp [List.getD, List.getElem?_eq_none (show rs.length ≤ i by rw [h.len_eq]; omega)]];exact Nat.zero_le _
 ·obtain ⟨g, off, e, hg, hc⟩ := h.elts hp;refine ⟨g, off, e, Nat.lt_of_lt_of_le hg hb.size, fun i hi => ?_⟩;obtain ⟨a, l, c, h1, h2⟩ := hc i hi;exact ⟨a, l, c, (hb.cell (p := ⟨g, off + i, none⟩) hg).trans h1, light_vs h2 (hs i g off a l c hi e h1) w' hb⟩
set_option maxRecDepth 20000 in
set_option maxHeartbeats 2000000 in
theorem heavyK (ao : Option Addr) (n cap : Nat) (rs : List (List Int)) (R P : Nat) (w : World) (h : MI w ao n cap rs) (hR : R ≤ 1000) (hP : P ≤ 1000) :
  Calls Tryz.prog 6 #[.slice ao n cap, .int .i64 (R : Int), .int .i64 (P : Int)] w fun e w' => ∃ q, e = .returned (.int .i64 q) ∧ (q = 0 ∨ q = 1) ∧ (q = 0 → n ≤ R ∧ (∀ i, (rs.getD i []).length ≤ P) ∧ ∀ w', Below w.heap.size w w' → MS w' ao n cap rs 3) ∧ Below w.heap.size w w' := by
 have hm := Nat.le_trans h.cap_le h.cap_max;unfold maxLen at hm;go_enter Tryz.func6, Tryz.ntmps6;by_cases hnR : n ≤ R
 ·have hnR' : ¬ (R : Int) < (n : Int) := by omega
  go_wp2_with fail
  go_loopw [17] (fun t wr => ∃ i : Nat, i ≤ n ∧ t = .int .i64 (i : Int) ∧ (∀ i' g off a l c, i' < i → ao = some ⟨g, off, none⟩ → w.cell? ⟨g, off + i', none⟩ = some (.slice a l c) → Light P w a l) ∧ Below w.heap.size w wr) (fun t _ => n - (intOf t).toNat)
  case atStart => exact ⟨0, by omega, rfl, fun i' _ _ _ _ _ hi => absurd hi (by omega), Below.refl _ _⟩
  case round =>
   obtain ⟨i, hi, rfl, hall, hbel⟩ := hrel;have HA := zh hall;clear hall;by_cases hlt : i < n
   ·obtain ⟨g, off, rfl⟩ := h.addr (by omega);obtain ⟨hg, a2, l2, c2, hc, hv⟩ := RowsOf.at (R := VI) h hlt;have hml := Nat.le_trans hv.cap_le hv.cap_max;unfold maxLen at hml;have f1 := (hbel.cell (p := ⟨g, off + i, none⟩) hg).trans hc;have HC := zh hc;have hgr := Nat.lt_of_lt_of_le hg hbel.size;clear hc;by_cases h70 : l2 ≤ P
    ·have h70' : ¬ ((P : Int) < (l2 : Int)) := by omega
     go_wp2_with fail
     clear f1 hgr;go_loopw [27] (fun t wr => ∃ j : Nat, j ≤ l2 ∧ t = .int .i64 (j : Int) ∧ (∀ j' g' off' b a l c, j' < j → a2 = some ⟨g', off', none⟩ → EltAt w g' (off' + j' * 2) b a l c → l ≤ 3) ∧ Below w.heap.size w wr) (fun t _ => l2 - (intOf t).toNat)
     case atStart => exact ⟨0, by omega, rfl, fun j' _ _ _ _ _ _ hj => absurd hj (by omega), hbel⟩
     case round =>
      clear hbel;obtain ⟨j, hj, rfl, hall, hbel⟩ := hrel;have HJ := zh hall;clear hall;by_cases hjl : j < l2
      ·obtain ⟨g2, off2, rfl⟩ := hv.some (by omega);obtain ⟨b3, a3, l3, c3, he0, hy⟩ := VI.at hv hjl;have hml3 := hy.cap_max;unfold maxLen at hml3;have he := he0.za hbel;obtain ⟨f1, f2⟩ := he.zb;have hg1 := he.1;by_cases h12 : l3 ≤ 3
       ·have h12' : ¬ (3 < (l3 : Int)) := by omega
        go_wp2;go_roundw
        case rel =>
         refine ⟨j + 1, by omega, by go_num, fun j' g' off' b a l c hj' e he' => ?_, hbel.alloc hbel.size _⟩;by_cases ej : j' = j
         ·subst ej;obtain ⟨rfl, rfl⟩ := addr_inj e;rw [elt_len he' he0];exact h12
         ·exact (zu HJ) j' g' off' b a l c (by omega) e he'
        case measure => simp [intOf]; omega
       ·have h12' : 3 < (l3 : Int) := by omega
        go_wp2;go_ret;exact ⟨1, rfl, Or.inr rfl, fun e => absurd e (by omega), hbel.alloc hbel.size _⟩
      ·have hin : j = l2 := by omega
       subst hin;go_wp2;go_roundw
       case rel =>
        refine ⟨i + 1, by omega, by go_num, fun i' g' off' a l c hi' e hc' => ?_, hbel⟩;by_cases ei : i' = i
        ·subst ei;obtain ⟨rfl, rfl⟩ := addr_inj e;have e2 := hc'.symm.trans (zu HC);simp only [Option.some.injEq, Value.slice.injEq] at e2;obtain ⟨rfl, rfl, rfl⟩ := e2;exact ⟨h70, fun j' g'' off'' b a' l' c' hj' e' he' => (zu HJ) j' g'' off'' b a' l' c' hj' e' he'⟩
        ·exact (zu HA) i' g' off' a l c (by omega) e hc'
       case measure => simp [intOf]; omega
    ·have h70' : (P : Int) < (l2 : Int) := by omega
     go_wp2;go_ret;exact ⟨1, rfl, Or.inr rfl, fun e => absurd e (by omega), hbel⟩
   ·have hin : i = n := by omega
    subst hin;have HT := zh (light_ms h (zu HA))
    go_wp2_with fail
    refine (few7_any _ _ _ rs _ (h.za hbel)).mono ?_;rintro e w2 ⟨q, rfl, hq, _, hb1⟩;go_wp2;go_ret;exact ⟨q, rfl, hq, fun _ => ⟨hnR, (zu HT).1, (zu HT).2⟩, Below.step hbel hb1⟩
 ·have hnR' : (R : Int) < (n : Int) := by omega
  go_wp2;go_ret;exact ⟨1, rfl, Or.inr rfl, fun e => absurd e (by omega), Below.refl _ _⟩

theorem room_nat10 {n : Nat} (h : n ≤ 64) : room (n : Int) = n := by
 unfold room
 split <;> (try split) <;> omega
set_option maxRecDepth 20000 in
set_option maxHeartbeats 2000000 in
theorem cutsK (ao : Option Addr) (n cap : Nat) (rs : List (List Int)) (k : Nat) (x : Int) (w : World) (h : MK w ao n cap rs k) (hn : n ≤ 1000) :
  Calls Tryz.prog 8 #[.slice ao n cap, .int .i64 x] w fun e w' => ∃ a1 c1, ∃ N : Nat, e = .returned (.tuple #[.slice a1 n c1, .int .i64 (N : Int)]) ∧ 1 ≤ N ∧ N ≤ 7 ∧ MF w' a1 n c1 (rs.map fun r => vcut r N) k ∧ Below w.heap.size w w' := by
 have HL := zh h.len_eq;obtain ⟨M, hM⟩ : ∃ M : Nat, IntKind.u64.wrap x = (M : Int) := by
  refine ⟨(IntKind.u64.wrap x).toNat, ?_⟩;simp [IntKind.wrap, IntKind.bits, IntKind.signed];omega
 obtain ⟨N, eN⟩ : ∃ N : Nat, N = 1 + M % 7 := ⟨_, rfl⟩;have hN1 : 1 ≤ N := by omega
 have hN7 : N ≤ 7 := by omega
 have hNI : (1 : Int) + (M : Int) % 7 = (N : Int) := by omega
 have hr0 : (0 : Int) ≤ (M : Int) % 7 := by omega
 have hr1 : (M : Int) % 7 < 7 := by omega
 have hroom := room_nat10 (show N ≤ 64 by omega);have HRM := zh hroom;obtain ⟨cl, ecl⟩ : ∃ cl, cl = rs.map fun r => vcut r N := ⟨_, rfl⟩;have HCL := zh (show cl.length = n by rw [ecl, List.length_map]; exact h.len_eq);have HCA : Hid (∀ i, i < n → cl.getD i [] = vcut (rs.getD i []) N) := zh fun i hi => by
  have : i < rs.length := by rw [h.len_eq]; exact hi
  rw [ecl]; simp [List.getD, this]
 have ECL := zh ecl;clear eN hroom ecl;go_enter Tryz.func8, Tryz.ntmps8
 go_wp2_with fail
 go_loopw [7, 17] (fun s t wr => ∃ (i : Nat) (ah : Option Addr) (ch : Nat), i ≤ n ∧ t = .int .i64 (i : Int) ∧ s = .slice ah i ch ∧ MO wr w.heap.size ah i ch (cl.take i) k ∧ Below w.heap.size w wr) (fun _ t _ => n - (intOf t).toNat)
 case atStart => exact ⟨0, none, 0, Nat.zero_le _, rfl, rfl, mo_nil _ _ _, Below.refl _ _⟩
 case round =>
  obtain ⟨i, ah, ch, hi, rfl, rfl, hown, hB⟩ := hrel;have HB := zh hB;clear hB;by_cases hlt : i < n
  ·obtain ⟨g, off, rfl⟩ := h.addr (by omega);obtain ⟨hg, a5, l5, c5, hc5, hv5⟩ := RowsOf.at (R := fun w a l c zs => VK w a l c zs k) h hlt;replace hv5 := hv5.za (zu HB);have f2 := ((zu HB).cell (p := ⟨g, off + i, none⟩) hg).trans hc5;have hgr := Nat.lt_of_lt_of_le hg (zu HB).size;have hi0 : (0 : Int) ≤ (i : Int) := by omega
   have hi1 : (i : Int) < (n : Int) := by omega
   clear hc5 hg
   go_wp2_with fail
   refine (rvcutK a5 l5 c5 (rs.getD i []) k (N : Int) _ hv5).mono ?_;rintro e w5 ⟨a7, c7, rfl, h7, hb9⟩;rw [zu HRM] at h7 ⊢;replace hown := hown.za hb9;replace HB := zh (Below.step (zu HB) hb9);clear hb9 f2 hgr hv5;obtain ⟨W6, hW6⟩ : ∃ W6, W6 = w5.alloc (.cells #[.slice a7 N c7] 39) := ⟨_, rfl⟩;have hb9 : Below w5.heap.size w5 W6 := by rw [hW6]; exact below_new _ _
   have hone := mf_one h7;replace hown := hown.za hb9;replace HB := zh (Below.step (zu HB) hb9);clear hb9;have hsz := (zu HB).size;rw [hW6] at hown hsz
   go_wp2_with (at_builtin; (refine append_rows (R := fun w a l c zs => VF w a l c zs k) (steadyMO k) rfl (.tmp 21) (.tmp 25) 22 Tryz.underlying22 rfl w.heap.size ah i ch (cl.take i) rfl hown _ 1 1 [vcut (rs.getD i []) N] rfl hone (by omega) hsz ?_))
   intro an cn w7 hown2 hgr7;rw [← hW6] at hgr7 hown hsz;clear hW6 hone;have HD := zh ((zu HB).grown hgr7 hsz (MO.ge hown));clear hgr7;have hown3 : MO w7 w.heap.size an (i + 1) cn (cl.take (i + 1)) k := by
    rw [take_all_snoc (by rw [zu HCL]; exact hlt), zu HCA i hlt];exact hown2
   clear hown2 hown;go_wp2;go_roundw
   case rel => exact ⟨i + 1, _, _, by omega, by go_num, rfl, hown3, zu HD⟩
   case measure => simp [intOf]; omega
  ·have hin : i = n := by omega
   subst hin;have hi1 : ¬ (i : Int) < (i : Int) := by omega
   rw [List.take_of_length_le (by rw [zu HCL]; exact Nat.le_refl _)] at hown;go_wp2;refine bodyPost_ret (v := .tuple #[.slice ah i ch, .int .i64 (N : Int)]) (by simp [results, Tryz.results8, go_sem, *]) rfl ?_;exact ⟨_, _, N, rfl, hN1, hN7, by rw [← zu ECL]; exact hown.mf, zu HB⟩

theorem intRows10 {w : World} {vs : List (Option Addr × Nat × Nat)} {rs : List (List Int)} {n m : Nat} {t : TypeId} (hm : m = vs.length) (hn : n = w.heap.size) (hl : rs.length = vs.length) (hs : vs.length ≤ 1000)
  (h : ∀ i a l c, vs[i]? = some (a, l, c) → IRowAt (w.alloc (.cells (vs.map fun v => Value.slice v.1 v.2.1 v.2.2).toArray t)) a l c (rs.getD i [])) :
  RowsOf IRowAt (w.alloc (.cells (vs.map fun v => Value.slice v.1 v.2.1 v.2.2).toArray t)) (some ⟨n, 0, none⟩) m m rs := by
 subst hn hm;refine ⟨hl, Nat.le_refl _, by unfold maxLen; omega, fun e => by simp at e, fun _ => ⟨w.heap.size, 0, rfl, by simp, fun i hi => ?_⟩⟩;obtain ⟨v, hv⟩ : ∃ v, vs[i]? = some v := ⟨vs[i], List.getElem?_eq_getElem hi⟩;obtain ⟨a, l, c⟩ := v;refine ⟨a, l, c, ?_, h i a l c hv⟩;rw [Nat.zero_add];simp [hv]
theorem map_getD {cl : List (List Int)} {f : List Int → List Int} {i : Nat} (h : i < cl.length) : (cl.map f).getD i [] = f (cl.getD i []) := by simp [List.getD, h]
theorem cut_form (rs : List (List Int)) {N : Nat} (h1 : 1 ≤ N) (h7 : N ≤ 7) : rform (rs.map fun r => vcut r N) (N : Int) = true := by
 refine rform_yes (by omega) fun i hi => ?_;rw [List.length_map] at hi;rw [map_getD hi, vcut_len]
theorem mf_up {w : World} {ao : Option Addr} {n cap k l : Nat} {rs : List (List Int)} (h : MF w ao n cap rs k) (hl : k ≤ l) : MF w ao n cap rs l := RowsOf.imp (R := fun w a l c zs => VF w a l c zs k) h fun h => vf_up h hl
end Go.Proofs.YtnpneloahajniaaGreat
