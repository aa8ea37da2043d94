/-
 What newBasis of package lll tells: rows of its own with their d and g.
-/
import Derived.Test.YtnpneloahajniaaGreatLGram
import Derived.Test.YtnpneloahajniaaGreatVOwn
import Derived.Test.YtnpneloahajniaaGreatJI
namespace Go.Proofs.YtnpneloahajniaaGreat
open Go.RowKit Lb
set_option maxRecDepth 20000

def NewTo (N n Kc : Nat) (rs : List (List Int)) (w : World) (e : Ending) (w' : World) : Prop := ∃ D : BD, e = .returned (.agg #[.slice (some ⟨D.gl, 0, none⟩) n D.cl, .slice (some ⟨D.gd, 0, none⟩) (n + 1) D.cd, .slice (some ⟨D.gg, 0, none⟩) n D.cg]) ∧ BR w' w.heap.size n D rs (gramDs N (ent rs) n) (gramGs N (ent rs) n) Kc ∧ Below w.heap.size w w'
theorem GRows.tight {w : World} {base g n cap K k m : Nat} {us : List (Option Addr × Nat × Nat)} {U : Nat → Nat} {gs : List (List Int)} (h : GRows w base g n cap us U gs K m) (hb : ∀ i, i < m → ∀ j, (ent gs i j).natAbs < Bp k) : GRows w base g n cap us U gs k m :=
 ⟨h.own, fun i hi => by obtain ⟨l, c, e, ho⟩ := h.row i hi; exact ⟨l, c, e, ho.tight fun j _ => hb i hi j⟩, h.ne, h.inj, h.len⟩
theorem GRows.up {w : World} {base g n cap K k m : Nat} {us : List (Option Addr × Nat × Nat)} {U : Nat → Nat} {gs : List (List Int)} (h : GRows w base g n cap us U gs k m) (hk : k ≤ K) : GRows w base g n cap us U gs K m :=
 ⟨h.own, fun i hi => by obtain ⟨l, c, e, ho⟩ := h.row i hi; exact ⟨l, c, e, ⟨vf_up ho.1 hk, ho.2⟩⟩, h.ne, h.inj, h.len⟩
set_option maxRecDepth 40000 in
set_option maxHeartbeats 4000000 in
theorem newBasisK (ao : Option Addr) (n cap : Nat) (rs : List (List Int)) (k N q Kc : Nat) (w : World) (h : MK w ao n cap rs k) (hk : k ≤ 9000) (hn : n ≤ 100) (hN : ∀ i, i < n → (rs.getD i []).length ≤ N) (hN9 : N ≤ 1000) (hq : ∀ t, t < n → (dotN N (ent rs t) (ent rs t)).natAbs < Bp q) (hK : (n + 1) * q + 1 ≤ Kc) (hK2 : Kc ≤ 100000) (hkK : k + 1 ≤ Kc) (hk1 : 1 ≤ k) :
  Calls Tryz.prog 29 #[.slice ao n cap] w fun e w' => NewTo N n Kc rs w e w' := by
 have hL := h.len_eq;have HN := zh hN;have HQ := zh hq;clear hN hq;go_enter Tryz.func29, Tryz.ntmps29
 go_upto_region 1 with fail
 obtain ⟨W, hWe⟩ : ∃ W', W' = w.alloc (.cells #[.slice none 0 0, .slice none 0 0, .slice none 0 0] 58) := ⟨_, rfl⟩;have BB : BBox W w.heap.size none 0 0 none 0 0 none 0 0 := by rw [hWe]; exact bbox_new w none 0 0 none 0 0 none 0 0
 have hb0 : Below w.heap.size w W := by rw [hWe]; exact below_new _ _
 have hs0 : W.heap.size = w.heap.size + 1 := by rw [hWe]; simp
 rw [← hWe];clear hWe;have HB := zh hb0;clear hb0
 go_wp2_with (at_make; refine make_rows (R := fun _ _ _ _ _ => True) (fun _ => trivial) rfl _ _ 22 Tryz.underlying22 rfl W.heap.size .i64 .i64 _ _ n rfl rfl (by omega) (by omega) (by omega) (by omega) ?_)
 intro w2 hown hgrow;have hb9 : Below W.heap.size W w2 := (Below.refl _ _).grown hgrow (Nat.le_refl _) (fun _ h => by simp at h);obtain ⟨gl, egl⟩ : ∃ gl, gl = w.heap.size + 1 := ⟨_, rfl⟩;have hg0 : ∃ us, GRows w2 (w.heap.size + 1) gl n n us (fun _ => 0) [] (k + 1) 0 := by
  rw [egl];obtain ⟨⟨us, hrow, _⟩, _⟩ := hown;exact ⟨us, hrow, fun i hi => absurd hi (by omega), fun i hi => absurd hi (by omega), fun i _ hi => absurd hi (by omega), rfl⟩
 obtain ⟨us, hg⟩ := hg0;rw [show (some ⟨w.heap.size + 1, 0, none⟩ : Option Addr) = some ⟨gl, 0, none⟩ by rw [egl]];have hbl : w.heap.size < gl := by omega
 have hC0 := (zu HB).mono (Nat.le_refl w.heap.size);replace HB := zh (Below.step (zu HB) hb9);replace BB := BB.za hb9;have hbW : w.heap.size ≤ w.heap.size + 1 := by omega
 replace hg := hg.from hbW;clear hgrow hb9 hown hC0 egl
 go_wp2_with fail
 go_loopw [13] (fun t wr => ∃ (i : Nat) (us : List (Option Addr × Nat × Nat)) (U : Nat → Nat), i ≤ n ∧ t = .int .i64 (i : Int) ∧ GRows wr w.heap.size gl n n us U (rs.take i) (k + 1) i ∧ BBox wr w.heap.size none 0 0 none 0 0 none 0 0 ∧ (∀ t, t < i → w.heap.size < U t) ∧ Below w.heap.size w wr) (fun t _ => n - (intOf t).toNat)
 case atStart => exact ⟨0, us, _, Nat.zero_le _, rfl, hg, BB, fun t ht => absurd ht (by omega), zu HB⟩
 case round =>
  clear hg BB HB;obtain ⟨i, us, U, hi, rfl, hg, BB, hU, hB⟩ := hrel;have HB := zh hB;have HU := zh hU;clear hB hU;by_cases hlt : i < n
  ·obtain ⟨g, off, rfl⟩ := h.addr (by omega);obtain ⟨hg0, a5, l5, c5, hc5, hv5⟩ := RowsOf.at (R := fun w a l c zs => VK w a l c zs k) h hlt;have f2 := ((zu HB).cell (p := ⟨g, off + i, none⟩) hg0).trans hc5;have hgr0 := Nat.lt_of_lt_of_le hg0 (zu HB).size;replace hv5 := hv5.za (zu HB);have hl5 := hv5.len_eq;have hN5 := zu HN i hlt;have hi0 : (0 : Int) ≤ (i : Int) := by omega
   have hi1 : (i : Int) < (n : Int) := by omega
   clear hc5
   go_wp2_with fail
   refine (vsubO a5 l5 c5 (rs.getD i []) k none 0 0 [] 0 _ hv5 (vk_nil _ _) (by omega) (by omega) (by omega) (by omega)).mono ?_;rintro e w3 ⟨u, c6, rfl, h6, hb9⟩;have e0 : vsub (rs.getD i []) [] = rs.getD i [] := vec_ext (by rw [vsub_len]; simp) fun j hj => by rw [vsub_at]; simp
   rw [e0, show max k 0 = k from Nat.max_eq_left (Nat.zero_le _)] at h6;rw [show max l5 0 = l5 from Nat.max_eq_left (Nat.zero_le _)] at h6 ⊢;have hfr := h6.base_le;have hold : ∀ t, t < i → U t < wr.heap.size := fun t ht => by obtain ⟨_, _, _, ho⟩ := hg.row t ht; exact ho.base_le.2
   have hglo := hg.lt;have hszr := (zu HB).size;have hbx := BB.lt;replace hg := hg.za hb9;replace BB := BB.za hb9;replace HB := zh (Below.step (zu HB) hb9);have q1 : ∃ vc, w3.cell? ⟨gl, i, none⟩ = some vc := by
    have h1 := hg.ulen;rw [hg.own.cell (j := i) (by omega)];exact ⟨_, List.getElem?_eq_getElem (by rw [List.length_map]; omega)⟩
   obtain ⟨vc, q1⟩ := q1;have q2 := hg.own.free i;have hgl3 := hg.lt.2;have hO := zh hold;clear hb9 hv5 f2 hgr0 e0 hold;go_wp2;go_roundw
   case rel =>
    have hnl := hg.noLimb;have hgrw := grown_set1 w3 gl i (.slice (some ⟨u, 0, none⟩) l5 c6);refine ⟨i + 1, us.set i (some ⟨u, 0, none⟩, l5, c6), fun t => if t = i then u else U t, by omega, by go_num, ?_, BB.other hgrw (some_ne (by omega)), fun t ht => ?_, (zu HB).setCell (p := ⟨gl, i, none⟩) (by simpa using hglo.1) _⟩
    ·rw [show rs.take (i + 1) = rs.take i ++ [rs.getD i []] by rw [List.take_add_one, List.getD_eq_getElem?_getD, List.getElem?_eq_getElem (by omega)]; rfl];exact hg.push hlt (h6.from (by omega)) (by omega) (fun t ht => by have := zu hO t ht; omega)
    ·dsimp only;by_cases e : t = i
     ·rw [if_pos e]; omega
     ·rw [if_neg e]; exact zu HU t (by omega)
   case measure => simp [intOf]; omega
  ·have hin : i = n := by omega
   subst hin;have hin' : ¬ (i : Int) < (i : Int) := by omega
   rw [show rs.take i = rs from List.take_of_length_le (by omega)] at hg;have hmf : MK wr (some ⟨gl, 0, none⟩) i i rs (k + 1) := hg.mf.mk (by omega);have hfl := hg.lt;have hflU : ∀ t, t < i → U t < wr.heap.size := fun t ht => by obtain ⟨_, _, _, ho⟩ := hg.row t ht; exact ho.base_le.2
   have HFU := zh hflU;have hszr := (zu HB).size;clear hflU
   go_wp2_with fail
   refine (gramK _ i i rs (k + 1) N q Kc _ hmf (by omega) hn (zu HN) hN9 (zu HQ) hK hK2 (by omega)).mono ?_;rintro e w4 ⟨gd, cd, gg, us2, U2, rfl, hd, hg2, hUd, hne, hb9⟩;have hgD := hd.base_le.1;have hgG := hg2.lt.1;have hgU : ∀ t, t < i → wr.heap.size ≤ U2 t := fun t ht => by obtain ⟨_, _, _, ho⟩ := hg2.row t ht; exact ho.base_le.1
   have hR : BR w4 w.heap.size i ⟨gl, i, gd, cd, gg, i, us, us2, U, U2⟩ rs (gramDs N (ent rs) i) (gramGs N (ent rs) i) Kc :=
    ⟨(hg.za hb9).up (by omega), hg2.from hszr, hd.from hszr, show gl ≠ gg by omega, show gl ≠ gd by omega, Ne.symm hne, fun t ht => by have := zu HFU t ht; show U t ≠ gg ∧ U t ≠ gd; omega, fun t ht => by have := hgU t ht; exact ⟨show U2 t ≠ gl by omega, hUd t ht⟩, fun s t hs ht => by have := zu HFU s hs; have := hgU t ht; show U s ≠ U2 t; omega⟩
   replace BB := BB.za hb9;replace HB := zh (Below.step (zu HB) hb9);have hbU := zh (show ∀ t, t < i → w.heap.size < U2 t from fun t ht => by have := hgU t ht; omega);clear hg hd hg2 hUd hne hb9 hgU hmf;obtain ⟨q1, q2, q3, q4, q5, q6⟩ := BB.zb;have hbx := BB.lt;go_wp2;refine bodyPost_ret (v := .agg #[.slice (some ⟨gl, 0, none⟩) i i, .slice (some ⟨gd, 0, none⟩) (i + 1) cd, .slice (some ⟨gg, 0, none⟩) i i]) (by simp [results, Tryz.results29, go_sem, *]) rfl ?_;have hgr9 := grown_bput w4 w.heap.size (some ⟨gl, 0, none⟩) i i (some ⟨gd, 0, none⟩) (i + 1) cd (some ⟨gg, 0, none⟩) i i;have hnl9 := BB.noLimb;refine ⟨⟨gl, i, gd, cd, gg, i, us, us2, U, U2⟩, rfl, ?_, ?_⟩
   ·exact ⟨hR.l.kept hgr9 hnl9 (show gl ≠ w.heap.size by omega) (fun t ht => by have := zu HU t ht; show U t ≠ w.heap.size; omega), hR.g.kept hgr9 hnl9 (show gg ≠ w.heap.size by omega) (fun t ht => by have := zu hbU t ht; show U2 t ≠ w.heap.size; omega), hR.d.kept hgr9 (noLimb_some hnl9) (some_ne (show w.heap.size ≠ gd by omega)), hR.n1, hR.n2, hR.n3, hR.nV, hR.nU, hR.nVU⟩
   ·exact (((zu HB).setCell (p := ⟨w.heap.size, 0, none⟩) (Nat.le_refl _) _).setCell (p := ⟨w.heap.size, 1, none⟩) (Nat.le_refl _) _).setCell (p := ⟨w.heap.size, 2, none⟩) (Nat.le_refl _) _
end Go.Proofs.YtnpneloahajniaaGreat
