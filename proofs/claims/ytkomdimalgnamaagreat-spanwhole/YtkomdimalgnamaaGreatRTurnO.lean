/-
 What the reference's Turn tells: each row in memory of its own.
-/
import Derived.Test.YtkomdimalgnamaaGreatRTag
import Derived.Test.YtkomdimalgnamaaGreatJM
namespace Go.Proofs.YtkomdimalgnamaaGreat
open Go.RowKit Lb
set_option maxRecDepth 20000

theorem OwnOf.from {R : World → Bool → Option Addr → Nat → Nat → Int → Prop} {w : World} {base b' : Nat} {ao : Option Addr} {n cap : Nat} {zs : List Int} (h : OwnOf R w base ao n cap zs) (hb : b' ≤ base) : OwnOf R w b' ao n cap zs := by
 obtain ⟨h1, cs, h2, h3⟩ := h;refine ⟨h1, cs, ⟨h2.1, ?_⟩, h3⟩;rcases h2.2 with e | ⟨g, c, cur, hv, hg, r⟩
 ·exact Or.inl e
 ·exact Or.inr ⟨g, c, cur, hv, Nat.le_trans hb hg, r⟩
theorem mOwn_tags {base k : Nat} {w : World} {b0 : Nat} {ao : Option Addr} {n cap : Nat} {qs : List (List Int)} (h : MOwn (TagV base k) w b0 ao n cap qs) : ∀ j, j < n → tagOf qs j ≤ w.heap.size := fun j hj => by
 obtain ⟨⟨vs, hrow, hall⟩, _⟩ := h;have hvl := hrow.len;rw [List.length_map, Nat.mul_one] at hvl;exact (tagV_tag (hall j vs[j] (List.getElem?_eq_getElem (by omega)))).2.1
theorem TagsOf.nil (f : Nat → List Int) : TagsOf [] f 0 := ⟨fun i hi => absurd hi (by omega), fun i _ hi => absurd hi (by omega)⟩
theorem TagsOf.snoc {qs : List (List Int)} {f : Nat → List Int} {i : Nat} {t : Int} {zs : List Int} (h : TagsOf qs f i) (hl : qs.length = i) {B : Nat} (hold : ∀ j, j < i → tagOf qs j ≤ B) (hnew : t ≠ 0 → (B : Int) + 1 ≤ t) (hz : zs = f i) : TagsOf (qs ++ [t :: zs]) f (i + 1) := by
 have e1 : ∀ j, j < i → tagOf (qs ++ [t :: zs]) j = tagOf qs j := fun j hj => by unfold tagOf; rw [getD_left (by omega)]
 have e2 : tagOf (qs ++ [t :: zs]) i = t := by unfold tagOf; rw [getD_right (by omega), hl, Nat.sub_self]; rfl
 refine ⟨fun j hj => ?_, fun p q hp hq hpq h0 => ?_⟩
 ·by_cases c : j < i
  ·rw [e1 j c, getD_left (by omega)]; exact h.row j c
  ·obtain rfl : j = i := by omega
   rw [e2, getD_right (by omega), hl, Nat.sub_self, ← hz]; rfl
 ·by_cases c : p < i
  ·rw [e1 p c] at h0 ⊢;by_cases d : q < i
   ·rw [e1 q d]; exact h.apart p q c d hpq h0
   ·obtain rfl : q = i := by omega
    rw [e2];have h1 := hold p c;intro e;have h2 := hnew (by rw [← e]; exact h0);omega
  ·obtain rfl : p = i := by omega
   rw [e2] at h0 ⊢;rw [e1 q (by omega)];have h1 := hold q (by omega);have h2 := hnew h0;omega
set_option maxRecDepth 20000 in
set_option maxHeartbeats 2000000 in
theorem refTurnO (ao : Option Addr) (n cap : Nat) (rs : List (List Int)) (k : Nat) (x : Int) (w : World) (h : MK w ao n cap rs k) (hn : n ≤ 100000) :
  Calls Tryz.prog 90 #[.slice ao n cap, .int .i64 x] w fun e w' => ∃ a1 c1 qs, e = .returned (.slice a1 (room x) c1) ∧ MOwn (TagV w.heap.size k) w' w.heap.size a1 (room x) c1 qs ∧ TagsOf qs (fun i => rs.map fun r => r.getD i 0) (room x) ∧ Below w.heap.size w w' := by
 have HL := zh h.len_eq;have hrm := room_le x;have hz := fun W => roomK x W;obtain ⟨m, em⟩ : ∃ m, m = room x := ⟨_, rfl⟩;rw [← em] at hrm hz ⊢;have HZ := zh hz;clear em hz;obtain ⟨f, ef⟩ : ∃ f : Nat → List Int, f = fun i => rs.map fun r => r.getD i 0 := ⟨_, rfl⟩;rw [← ef];have EF := zh ef;clear ef;go_enter Tryz.func90, Tryz.ntmps90
 go_wp2_with fail
 go_loopw [5, 6] (fun s t wr => ∃ (i : Nat) (ao' : Option Addr) (cap' : Nat) (qs : List (List Int)), i ≤ m ∧ t = .int .i64 (i : Int) ∧ s = .slice ao' i cap' ∧ MOwn (TagV w.heap.size k) wr w.heap.size ao' i cap' qs ∧ TagsOf qs f i ∧ Below w.heap.size w wr) (fun _ t _ => m - (intOf t).toNat)
 case atStart => exact ⟨0, _, _, [], Nat.zero_le _, rfl, rfl, mOwn_nil _ _ _, TagsOf.nil f, Below.refl _ _⟩
 case round =>
  obtain ⟨i, ao', cap', qs, hi, rfl, rfl, hown, htg, hB⟩ := hrel;have HB := zh hB;have HT := zh htg;clear hB htg
  go_wp2_with fail
  refine (zu HZ _).mono ?_;rintro e w2 ⟨rfl, hb9⟩;replace hown := hown.laterT hb9;replace HB := zh (Below.step (zu HB) hb9);clear hb9;by_cases hlt : i < m
  ·have hi1 : (i : Int) < (m : Int) := by omega
   have HTG := zh (mOwn_tags hown)
   go_wp2_with fail
   go_loopw [7, 8] (fun s t wq => ∃ (j : Nat) (av : Option Addr) (cv : Nat) (ps : List Int), j ≤ n ∧ t = .int .i64 (j : Int) ∧ s = .slice av j cv ∧ (j = 0 → av = none) ∧ OwnOf (fun w b a l c z => FK w b a l c z k) wq w2.heap.size av j cv ps ∧ (∀ t, t < j → ps.getD t 0 = (rs.getD t []).getD i 0) ∧ Below w2.heap.size w2 wq) (fun _ t _ => n - (intOf t).toNat)
   case atStart => exact ⟨0, _, _, [], Nat.zero_le _, rfl, rfl, fun _ => rfl, ownOf_nil _ _ _, fun t ht => absurd ht (by omega), Below.refl _ _⟩
   case round =>
    obtain ⟨j, av, cv, ps, hj, rfl, rfl, hav, hov, hall, hBq⟩ := hrel;have HA := zh hall;have HC := zh hBq;have HV := zh hav;clear hall hBq hav;by_cases hjn : j < n
    ·obtain ⟨g, off, rfl⟩ := h.addr (by omega);obtain ⟨hg, a5, l5, c5, hc5, hv5⟩ := RowsOf.at (R := fun w a l c zs => VK w a l c zs k) h hjn;have hbb := Below.step (zu HB) (zu HC);replace hv5 := hv5.za hbb;have f2 := (hbb.cell (p := ⟨g, off + j, none⟩) hg).trans hc5;have hgr := Nat.lt_of_lt_of_le hg hbb.size;have hj0 : (0 : Int) ≤ (j : Int) := by omega
     have hj1 : (j : Int) < (n : Int) := by omega
     clear hc5 hg hbb
     go_wp2_with fail
     refine (ratK _ _ _ (rs.getD j []) k i _ hv5 (by omega)).mono ?_;rintro e w5 ⟨b5, a7, l7, c7, rfl, h5, hb9⟩;replace hov := OwnOf.za (R := fun w b a l c z => FK w b a l c z k) (fun h hb => h.za hb) hov hb9;replace HC := zh (Below.step (zu HC) hb9);clear hb9 f2 hgr hv5;obtain ⟨z, ez⟩ : ∃ z, z = (rs.getD j []).getD i 0 := ⟨_, rfl⟩;rw [← ez] at h5;have EZ := zh ez;clear ez;obtain ⟨W6, hW6⟩ : ∃ W6, W6 = w5.alloc (.cells #[.bool b5, .slice a7 l7 c7] 44) := ⟨_, rfl⟩;have hb9 : Below w5.heap.size w5 W6 := by rw [hW6]; exact below_new _ _
     have hone : VecOf (fun w b a l c z => FK w b a l c z k) W6 (some ⟨w5.heap.size, 0, none⟩) 1 1 [z] := by
      rw [hW6];exact vec1 (R := fun w b a l c z => FK w b a l c z k) rfl (by rw [← hW6]; exact h5.za hb9)
     replace hov := OwnOf.za (R := fun w b a l c z => FK w b a l c z k) (fun h hb => h.za hb) hov hb9;replace HC := zh (Below.step (zu HC) hb9);clear hb9 h5;have hsz := (zu HC).size;rw [hW6] at hov hone hsz
     go_wp2_with (at_builtin; refine append_vecs (R := fun w b a l c z => FK w b a l c z k) (steady_fk k) rfl (.tmp 21) (.tmp 28) 24 Tryz.underlying24 rfl w2.heap.size av j cv ps rfl hov _ 1 1 [z] rfl hone (by omega) hsz ?_)
     intro an cn w7 hown2 hgr;rw [← hW6] at hgr hov hsz;clear hW6 hone;have HD := (zu HC).grown hgr hsz hov.ge;clear hgr;go_wp2;go_roundw
     case rel => exact ⟨j + 1, _, _, _, by omega, by go_num, rfl, fun e => absurd e (by omega), hown2, by rw [zu EZ]; exact snoc_each (f := fun t => (rs.getD t []).getD i 0) hov.len (zu HA), HD⟩
     case measure => simp [intOf]; omega
    ·have hjn' : j = n := by omega
     subst hjn';have hin' : ¬ (j : Int) < (j : Int) := by omega
     have hps : ps = f i := by rw [zu EF]; exact mapR_of (f := fun r => r.getD i 0) (zu HL) hov.len (zu HA)
     have hs0 := (zu HB).size;obtain ⟨tg, htv, htn⟩ : ∃ tg : Int, TagV w2.heap.size k wr av j cv (tg :: ps) ∧ (tg ≠ 0 → (w2.heap.size : Int) + 1 ≤ tg) := by
      by_cases c : j = 0
      ·exact ⟨0, ⟨0, ps, rfl, hov, Or.inl ⟨zu HV c, rfl⟩⟩, fun e => absurd rfl e⟩
      ·obtain ⟨g, eg⟩ := hov.form (by omega);have hge := hov.ge g (by rw [eg]; rfl);exact ⟨(g : Int) + 1, ⟨_, ps, rfl, hov, Or.inr ⟨by omega, g, eg, rfl⟩⟩, fun _ => by omega⟩
     have hts := zh (TagsOf.snoc (zu HT) hown.len (zu HTG) htn hps);have htv2 : TagV w.heap.size k wr av j cv (tg :: ps) := by
      obtain ⟨t, zs, e1, e2, e3⟩ := htv;exact ⟨t, zs, e1, e2.from hs0, e3⟩
     obtain ⟨q, eq⟩ : ∃ q, q = tg :: ps := ⟨_, rfl⟩;rw [← eq] at hts htv2;replace hown := hown.laterT (zu HC);replace HB := zh (Below.step (zu HB) (zu HC));clear HC HA hov htv htn eq hps HT HTG HV hs0;obtain ⟨W6, hW6⟩ : ∃ W6, W6 = wr.alloc (.cells #[.slice av j cv] 24) := ⟨_, rfl⟩;have hb9 : Below wr.heap.size wr W6 := by rw [hW6]; exact below_new _ _
     have hone := tag_one htv2;replace hown := hown.laterT hb9;replace HB := zh (Below.step (zu HB) hb9);clear hb9 htv2;have hsz := (zu HB).size;rw [hW6] at hown hsz
     go_wp2_with (at_builtin; refine append_rows (R := TagV w.heap.size k) (steadyTag w.heap.size k) rfl (.tmp 30) (.tmp 32) 22 Tryz.underlying22 rfl w.heap.size ao' i cap' qs rfl hown _ 1 1 [q] rfl hone (by omega) hsz ?_)
     intro an cn w7 hown2 hgr7;rw [← hW6] at hgr7 hown hsz;clear hW6 hone;have HD := (zu HB).grown hgr7 hsz (MOwn.ge hown);clear hgr7;go_wp2;go_roundw
     case rel => exact ⟨i + 1, _, _, _, by omega, by go_num, rfl, hown2, zu hts, HD⟩
     case measure => simp [intOf]; omega
  ·have hin : i = m := by omega
   subst hin;have hin' : ¬ (i : Int) < (i : Int) := by omega
   go_wp2;go_ret;exact ⟨_, _, _, rfl, hown, zu HT, zu HB⟩
end Go.Proofs.YtkomdimalgnamaaGreat
