/-
 What limb.Cmp, whole.Sign, whole.Cmp, vec.at and vec.Cmp tell, and that no draw is taken back ('Up'): what a sort asks of its comparison (IN PARTS).
-/
import Derived.Test.YtnpneloahajniaaGreatJF
import Derived.Deep.CutRange
import Derived.Test.YtnpneloahajniaaGreatJH
import Derived.Sort.Statements
import Derived.Test.YtnpneloahajniaaGreatJE
namespace Go.Proofs.YtnpneloahajniaaGreat
open Go.RowKit Lb
set_option maxRecDepth 20000

def ahead (rs : List (List Int)) (i j : Nat) : Prop := vlt (rs.getD i []) (rs.getD j []) ∨ VSame (rs.getD i []) (rs.getD j []) ∧ i < j
theorem take_snoc {α : Type} (d : α) {ps : List α} {t : Nat} (ht : t < ps.length) : ps.take (t + 1) = ps.take t ++ [ps.getD t d] := by
 rw [List.take_add_one, show ps.getD t d = ps[t] by simp [List.getD, ht], List.getElem?_eq_getElem ht];rfl
/-
 What formed, Normal, Form and longest of package rows tell (IN PARTS).
-/

theorem RowsOf.imp {R R' : World → Option Addr → Nat → Nat → List Int → Prop} {w : World} {ao : Option Addr} {n cap : Nat} {rs : List (List Int)} (h : RowsOf R w ao n cap rs) (hi : ∀ {a l c zs}, R w a l c zs → R' w a l c zs) : RowsOf R' w ao n cap rs := by
 refine ⟨h.len_eq, h.cap_le, h.cap_max, h.nil_cap, fun hp => ?_⟩;obtain ⟨g, off, e, hg, hc⟩ := h.elts hp;refine ⟨g, off, e, hg, fun i hi' => ?_⟩;obtain ⟨a, l, c, h1, h2⟩ := hc i hi';exact ⟨a, l, c, h1, hi h2⟩
def MS (w : World) (ao : Option Addr) (n cap : Nat) (rs : List (List Int)) (k : Nat) : Prop := RowsOf (fun w a l c zs => VS w a l c zs k) w ao n cap rs
theorem MS.za {w w' : World} {ao : Option Addr} {n cap k : Nat} {rs : List (List Int)} (h : MS w ao n cap rs k) (hb : Below w.heap.size w w') : MS w' ao n cap rs k := RowsOf.za (R := fun w a l c zs => VS w a l c zs k) (fun h hb => VS.za h hb) h hb
theorem MS.mk {w : World} {ao : Option Addr} {n cap k : Nat} {rs : List (List Int)} (h : MS w ao n cap rs k) : MK w ao n cap rs k := RowsOf.imp (R := fun w a l c zs => VS w a l c zs k) h fun h => h.vk
theorem MF.ms {w : World} {ao : Option Addr} {n cap k : Nat} {rs : List (List Int)} (h : MF w ao n cap rs k) (hk : k ≤ 999990) : MS w ao n cap rs k := RowsOf.imp (R := fun w a l c zs => VF w a l c zs k) h fun h => h.vs hk
theorem MF.mk {w : World} {ao : Option Addr} {n cap k : Nat} {rs : List (List Int)} (h : MF w ao n cap rs k) (hk : k ≤ 999990) : MK w ao n cap rs k := (h.ms hk).mk
def ML (w : World) (ao : Option Addr) (n cap : Nat) (rs : List (List Int)) : Prop := RowsOf (fun _ _ l _ zs => zs.length = l ∧ l ≤ maxLen) w ao n cap rs
theorem ML.za {w w' : World} {ao : Option Addr} {n cap : Nat} {rs : List (List Int)} (h : ML w ao n cap rs) (hb : Below w.heap.size w w') : ML w' ao n cap rs := RowsOf.za (R := fun _ _ l _ zs => zs.length = l ∧ l ≤ maxLen) (fun h _ => h) h hb
theorem MK.ml {w : World} {ao : Option Addr} {n cap k : Nat} {rs : List (List Int)} (h : MK w ao n cap rs k) : ML w ao n cap rs := RowsOf.imp (R := fun w a l c zs => VK w a l c zs k) h fun h => ⟨h.len_eq, Nat.le_trans h.cap_le h.cap_max⟩
theorem vk_nil (w : World) (k : Nat) : VK w none 0 0 [] k := ⟨rfl, Nat.le_refl _, Nat.zero_le _, fun _ => rfl, fun h => absurd h (by omega)⟩
set_option maxHeartbeats 1600000 in
theorem formedK (ao : Option Addr) (n cap : Nat) (zs : List Int) (k : Nat) (w : World) (h : VK w ao n cap zs k) (hn : n ≤ 1000000) :
  Calls Tryz.prog 120 #[.slice ao n cap] w fun e w' => ∃ a1 c1, e = .returned (.slice a1 n c1) ∧ VF w' a1 n c1 zs k ∧ Below w.heap.size w w' := by
 have HL := zh h.len_eq;go_enter Tryz.func120, Tryz.ntmps120;have HB := zh (Below.refl w.heap.size w)
 go_wp2_with (at_make; refine make_vec rfl _ _ 39 Tryz.underlying39 rfl w.heap.size .i64 .i64 _ _ n k rfl rfl (by omega) (by omega) (by omega) (by omega) ?_)
 intro w2 hown hgrow;have hbg : Below w.heap.size w w2 := (Below.refl _ _).grown hgrow (Nat.le_refl _) (fun _ h => by simp at h);replace HB := zh (Below.step (zu HB) hbg);clear hgrow hbg;obtain ⟨gv, egv⟩ : ∃ gv, gv = w.heap.size := ⟨_, rfl⟩;rw [show (some ⟨w.heap.size, 0, none⟩ : Option Addr) = some ⟨gv, 0, none⟩ by rw [egv]] at hown ⊢;clear egv
 go_wp2_with fail
 go_loopw [11] (fun t wr => ∃ (i : Nat) (ps : List Int), i ≤ n ∧ t = .int .i64 (i : Int) ∧ OwnV wr w.heap.size (some ⟨gv, 0, none⟩) n n ps k ∧ (∀ j, j < i → ps.getD j 0 = zs.getD j 0) ∧ Below w.heap.size w wr) (fun t _ => n - (intOf t).toNat)
 case atStart => exact ⟨0, _, Nat.zero_le _, rfl, hown, fun j hj => absurd hj (by omega), zu HB⟩
 case round =>
  clear hown HB;obtain ⟨i, ps, hi, rfl, hv, hall, hB⟩ := hrel;have HA := zh hall;clear hall;have HB := zh hB;clear hB;by_cases hlt : i < n
  ·obtain ⟨g, off, rfl⟩ := h.some (by omega);obtain ⟨b2, a2, l2, c2, he, hy⟩ := (h.za (zu HB)).at hlt;obtain ⟨f1, f2⟩ := he.zb;have hg1 := he.1
   go_wp2_with fail
   obtain ⟨W2, hW2⟩ : ∃ W2, W2 = wr.alloc (.cells #[.bool b2, .slice a2 l2 c2] 45) := ⟨_, rfl⟩;obtain ⟨D0, hb1⟩ := boxes1 wr b2 a2 l2 c2 hW2;rw [← hW2];clear hW2 f1 f2 he D0;replace hv := hv.za hb1;replace hy := hy.za hb1;replace HB := zh (Below.step (zu HB) hb1);clear hb1;refine (formK b2 a2 l2 c2 (zs.getD i 0) k _ hy).mono ?_;rintro e w5 ⟨b5, a5, l5, c5, rfl, h5, hb1⟩;replace hv := hv.za hb1;replace HB := zh (Below.step (zu HB) hb1);clear hb1 hy;obtain ⟨b6, a6, l6, c6, he6, _⟩ := hv.vf.at (show i < n by omega);rw [Nat.zero_add] at he6;obtain ⟨q1, q2⟩ := he6.zb;have q3 := hv.free (i * 2);have q4 := hv.free (i * 2 + 1);have hbl := hv.base_le;go_wp2;go_roundw
   case rel =>
    refine ⟨i + 1, ps.set i (zs.getD i 0), by omega, by go_num, hv.set (by omega) h5, put_each (f := fun j => zs.getD j 0) (by rw [hv.len]; omega) (zu HA), ?_⟩;exact ((zu HB).setCell (by simpa using hbl.1) _).setCell (by simpa using hbl.1) _
   case measure => simp [intOf]; omega
  ·have hin : i = n := by omega
   subst hin;have hps : ps = zs := vec_ext (by rw [hv.len, zu HL]) fun j hj => zu HA j (by rw [hv.len] at hj; exact hj);subst hps;go_wp2;go_ret;exact ⟨_, _, rfl, hv.vf, zu HB⟩

set_option maxHeartbeats 1000000 in
theorem normalK (ao : Option Addr) (n cap : Nat) (zs : List Int) (k : Nat) (w : World) (h : VK w ao n cap zs k) (hk : k ≤ 900000) (hn : n ≤ 1000000) :
  Calls Tryz.prog 113 #[.slice ao n cap] w fun e w' => ∃ a1 c1, e = .returned (.slice a1 n c1) ∧ VF w' a1 n c1 (vnormal zs) k ∧ Below w.heap.size w w' := by
 go_enter Tryz.func113, Tryz.ntmps113
 go_wp2_with fail
 refine (vcmpK _ _ _ zs k _ _ _ [] 0 _ h (vk_nil w 0) hk (by omega) hn (by omega)).mono ?_;rintro e w1 ⟨c, rfl, hc, hc1, hc2, hb1⟩;by_cases hlt : c < 0
 ·have HN := zh (normal_neg (hc.lt_iff.1 hlt));clear hc
  go_wp2_with fail
  refine (vnegK _ _ _ zs k _ (h.za hb1) hn).mono ?_;rintro e w2 ⟨a1, c1, rfl, h1, hb2⟩;go_wp2;go_ret;exact ⟨_, _, rfl, by rw [zu HN]; exact h1, Below.step hb1 hb2⟩
 ·have HN := zh (show vnormal zs = zs by
   rcases normal_cases zs with ⟨t, _⟩ | ⟨_, e⟩ | ⟨_, e⟩
   ·exact absurd (hc.lt_iff.2 t) hlt
   ·exact e
   ·exact e)
  clear hc
  go_wp2_with fail
  refine (formedK _ _ _ zs k _ (h.za hb1) hn).mono ?_;rintro e w2 ⟨a1, c1, rfl, h1, hb2⟩;go_wp2;go_ret;exact ⟨_, _, rfl, by rw [zu HN]; exact h1, Below.step hb1 hb2⟩

def rform (rs : List (List Int)) (n : Int) : Bool := decide (1 ≤ n ∧ n ≤ 64) && rs.all fun r => decide ((r.length : Int) = n)
theorem rform_out {rs : List (List Int)} {n : Int} (h : ¬ (1 ≤ n ∧ n ≤ 64)) : rform rs n = false := by unfold rform; rw [decide_eq_false h]; rfl
theorem rform_no {rs : List (List Int)} {n : Int} {i : Nat} (hi : i < rs.length) (h : ((rs.getD i []).length : Int) ≠ n) : rform rs n = false := by
 unfold rform;rw [Bool.and_eq_false_iff];refine Or.inr ?_;rw [List.all_eq_false];refine ⟨rs[i], List.getElem_mem hi, ?_⟩;rw [show rs.getD i [] = rs[i] by simp [List.getD, hi]] at h;simpa using h
theorem rform_yes {rs : List (List Int)} {n : Int} (h0 : 1 ≤ n ∧ n ≤ 64) (h : ∀ i, i < rs.length → ((rs.getD i []).length : Int) = n) : rform rs n = true := by
 unfold rform;rw [decide_eq_true h0, Bool.true_and, List.all_eq_true];intro r hr;obtain ⟨i, hi, e⟩ := List.getElem_of_mem hr;have := h i hi;rw [show rs.getD i [] = rs[i] by simp [List.getD, hi], e] at this;simpa using this
set_option maxHeartbeats 1600000 in
theorem rowsFormK (ao : Option Addr) (n cap : Nat) (rs : List (List Int)) (m : Int) (w : World) (h : ML w ao n cap rs) (hm : -9223372036854775808 ≤ m ∧ m ≤ 9223372036854775807) (q : Bool) (hq : rform rs m = q) :
  Calls Tryz.prog 28 #[.slice ao n cap, .int .i64 m] w fun e w' => e = .returned (.bool q) ∧ Below w.heap.size w w' := by
 have hmn := Nat.le_trans h.cap_le h.cap_max;unfold maxLen at hmn;have HL := zh h.len_eq;have HQ := zh hq;clear hq;by_cases h1 : m < 1
 ·obtain rfl : q = false := by rw [← zu HQ]; exact rform_out (by omega)
  have h1' : decide (m < 1) = true := decide_eq_true h1;go_enter Tryz.func28, Tryz.ntmps28;go_wp2;go_ret;exact ⟨rfl, Below.refl _ _⟩
 by_cases h2 : 64 < m
 ·obtain rfl : q = false := by rw [← zu HQ]; exact rform_out (by omega)
  have h1' : decide (m < 1) = false := decide_eq_false h1;have h2' : decide (64 < m) = true := decide_eq_true h2;go_enter Tryz.func28, Tryz.ntmps28;go_wp2;go_ret;exact ⟨rfl, Below.refl _ _⟩
 have h1' : decide (m < 1) = false := decide_eq_false h1;have h2' : decide (64 < m) = false := decide_eq_false h2;go_enter Tryz.func28, Tryz.ntmps28
 go_wp2_with fail
 go_loopw [15] (fun t wr => ∃ i : Nat, i ≤ n ∧ t = .int .i64 (i : Int) ∧ (∀ j, j < i → ((rs.getD j []).length : Int) = m) ∧ Below w.heap.size w wr) (fun t _ => n - (intOf t).toNat)
 case atStart => exact ⟨0, Nat.zero_le _, rfl, fun j hj => absurd hj (by omega), Below.refl _ _⟩
 case round =>
  obtain ⟨i, hi, rfl, hall, hB⟩ := hrel;have HA := zh hall;clear hall;by_cases hlt : i < n
  ·obtain ⟨g, off, rfl⟩ := h.addr (by omega);obtain ⟨hg, a2, l2, c2, hc, hv, hl2⟩ := RowsOf.at (R := fun _ _ l _ zs => zs.length = l ∧ l ≤ maxLen) h hlt;unfold maxLen at hl2;have f1 := (hB.cell (p := ⟨g, off + i, none⟩) hg).trans hc;have hgr := Nat.lt_of_lt_of_le hg hB.size;have HV := zh hv;clear hc hv;by_cases he : (l2 : Int) = m
   ·have he' : ((l2 : Int) != m) = false := by simp [he]
    have HE := zh he;clear he;go_wp2;go_roundw
    case rel =>
     refine ⟨i + 1, by omega, by go_num, fun j hj => ?_, hB⟩;by_cases e : j = i
     ·subst e; rw [zu HV]; exact zu HE
     ·exact zu HA j (by omega)
    case measure => simp [intOf]; omega
   ·have he' : ((l2 : Int) != m) = true := by simp [he]
    obtain rfl : q = false := by rw [← zu HQ]; exact rform_no (i := i) (by rw [zu HL]; exact hlt) (by rw [zu HV]; exact he)
    clear he;go_wp2;go_ret;exact ⟨rfl, hB⟩
  ·have hin : i = n := by omega
   subst hin;obtain rfl : q = true := by rw [← zu HQ]; exact rform_yes (by omega) fun j hj => zu HA j (by rw [zu HL] at hj; exact hj)
   go_wp2;go_ret;exact ⟨rfl, hB⟩

set_option maxHeartbeats 1600000 in
theorem refFormK (ao : Option Addr) (n cap : Nat) (rs : List (List Int)) (m : Int) (w : World) (h : ML w ao n cap rs) (hm : -9223372036854775808 ≤ m ∧ m ≤ 9223372036854775807) (q : Bool) (hq : rform rs m = q) :
  Calls Tryz.prog 9 #[.slice ao n cap, .int .i64 m] w fun e w' => e = .returned (.bool q) ∧ Below w.heap.size w w' := by
 have hmn := Nat.le_trans h.cap_le h.cap_max;unfold maxLen at hmn;have HL := zh h.len_eq;have HQ := zh hq;clear hq;by_cases h1 : m < 1
 ·obtain rfl : q = false := by rw [← zu HQ]; exact rform_out (by omega)
  have h1' : decide (m < 1) = true := decide_eq_true h1;go_enter Tryz.func9, Tryz.ntmps9;go_wp2;go_ret;exact ⟨rfl, Below.refl _ _⟩
 by_cases h2 : 64 < m
 ·obtain rfl : q = false := by rw [← zu HQ]; exact rform_out (by omega)
  have h1' : decide (m < 1) = false := decide_eq_false h1;have h2' : decide (64 < m) = true := decide_eq_true h2;go_enter Tryz.func9, Tryz.ntmps9;go_wp2;go_ret;exact ⟨rfl, Below.refl _ _⟩
 have h1' : decide (m < 1) = false := decide_eq_false h1;have h2' : decide (64 < m) = false := decide_eq_false h2;go_enter Tryz.func9, Tryz.ntmps9
 go_wp2_with fail
 go_loopw [5] (fun t wr => ∃ i : Nat, i ≤ n ∧ t = .int .i64 (i : Int) ∧ (∀ j, j < i → ((rs.getD j []).length : Int) = m) ∧ Below w.heap.size w wr) (fun t _ => n - (intOf t).toNat)
 case atStart => exact ⟨0, Nat.zero_le _, rfl, fun j hj => absurd hj (by omega), Below.refl _ _⟩
 case round =>
  obtain ⟨i, hi, rfl, hall, hB⟩ := hrel;have HA := zh hall;clear hall;by_cases hlt : i < n
  ·obtain ⟨g, off, rfl⟩ := h.addr (by omega);obtain ⟨hg, a2, l2, c2, hc, hv, hl2⟩ := RowsOf.at (R := fun _ _ l _ zs => zs.length = l ∧ l ≤ maxLen) h hlt;unfold maxLen at hl2;have f1 := (hB.cell (p := ⟨g, off + i, none⟩) hg).trans hc;have hgr := Nat.lt_of_lt_of_le hg hB.size;have HV := zh hv;clear hc hv;by_cases he : (l2 : Int) = m
   ·have he' : ((l2 : Int) != m) = false := by simp [he]
    have HE := zh he;clear he;go_wp2;go_roundw
    case rel =>
     refine ⟨i + 1, by omega, by go_num, fun j hj => ?_, hB⟩;by_cases e : j = i
     ·subst e; rw [zu HV]; exact zu HE
     ·exact zu HA j (by omega)
    case measure => simp [intOf]; omega
   ·have he' : ((l2 : Int) != m) = true := by simp [he]
    obtain rfl : q = false := by rw [← zu HQ]; exact rform_no (i := i) (by rw [zu HL]; exact hlt) (by rw [zu HV]; exact he)
    clear he;go_wp2;go_ret;exact ⟨rfl, hB⟩
  ·have hin : i = n := by omega
   subst hin;obtain rfl : q = true := by rw [← zu HQ]; exact rform_yes (by omega) fun j hj => zu HA j (by rw [zu HL] at hj; exact hj)
   go_wp2;go_ret;exact ⟨rfl, hB⟩

theorem longest_take {rs : List (List Int)} {i : Nat} (hi : i < rs.length) : longest (rs.take (i + 1)) = max (longest (rs.take i)) (rs.getD i []).length := by
 rw [List.take_add_one, List.getElem?_eq_getElem hi, show rs.getD i [] = rs[i] by simp [List.getD, hi]];exact longest_snoc _ _
theorem longest_le {rs : List (List Int)} {m : Nat} (h : ∀ r ∈ rs, r.length ≤ m) : longest rs ≤ m := by
 unfold longest;have : ∀ (l : List (List Int)) (k : Nat), k ≤ m → (∀ r ∈ l, r.length ≤ m) → l.foldl (fun m r => max m r.length) k ≤ m := by
  intro l
  induction l with
  | nil => exact fun k hk _ => hk
  | cons r t ih =>
   intro k hk hl;rw [List.foldl_cons];have := hl r (by simp);exact ih _ (by omega) fun x hx => hl x (List.mem_cons_of_mem _ hx)
 exact this rs 0 (Nat.zero_le _) h
set_option maxHeartbeats 1600000 in
theorem longestK (ao : Option Addr) (n cap : Nat) (rs : List (List Int)) (w : World) (h : ML w ao n cap rs) :
  Calls Tryz.prog 122 #[.slice ao n cap] w fun e w' => e = .returned (.int .i64 (longest rs : Int)) ∧ Below w.heap.size w w' := by
 have hmn := Nat.le_trans h.cap_le h.cap_max;unfold maxLen at hmn;have HL := zh h.len_eq;go_enter Tryz.func122, Tryz.ntmps122
 go_wp2_with fail
 go_loopw [3, 8] (fun m t wr => ∃ (i M : Nat), i ≤ n ∧ t = .int .i64 (i : Int) ∧ m = .int .i64 (M : Int) ∧ M = longest (rs.take i) ∧ M ≤ 9223372036854775807 ∧ Below w.heap.size w wr) (fun _ t _ => n - (intOf t).toNat)
 case atStart => exact ⟨0, 0, Nat.zero_le _, rfl, rfl, rfl, by omega, Below.refl _ _⟩
 case round =>
  obtain ⟨i, M, hi, rfl, rfl, hM, hMl, hB⟩ := hrel;have HM := zh hM;clear hM;by_cases hlt : i < n
  ·obtain ⟨g, off, rfl⟩ := h.addr (by omega);obtain ⟨hg, a2, l2, c2, hc, hv, hl2⟩ := RowsOf.at (R := fun _ _ l _ zs => zs.length = l ∧ l ≤ maxLen) h hlt;unfold maxLen at hl2;have f1 := (hB.cell (p := ⟨g, off + i, none⟩) hg).trans hc;have hgr := Nat.lt_of_lt_of_le hg hB.size;have HV := zh hv;clear hc hv;have hmax := max_len M l2;obtain ⟨X, eX⟩ : ∃ X, X = max M l2 := ⟨_, rfl⟩;rw [← eX] at hmax;have hXl : X ≤ 9223372036854775807 := by omega
   have EX := zh eX;clear eX;go_wp2;go_roundw
   case rel => exact ⟨i + 1, X, by omega, by go_num, rfl, by rw [longest_take (by rw [zu HL]; exact hlt), ← zu HM, zu HV]; exact zu EX, hXl, hB⟩
   case measure => simp [intOf]; omega
  ·have hin : i = n := by omega
   subst hin;rw [List.take_of_length_le (by rw [zu HL]; exact Nat.le_refl _)] at HM;go_wp2;go_ret;exact ⟨by rw [zu HM]; rfl, hB⟩

/-
 Rows of vectors in their forms that the call itself made ('MO'): append of one row, what stood ahead of it stays; the literal without rows (IN PARTS).
-/

def MO (w : World) (base : Nat) (ao : Option Addr) (n cap : Nat) (rs : List (List Int)) (k : Nat) : Prop := MOwn (fun w a l c zs => VF w a l c zs k) w base ao n cap rs
theorem MO.za {w w' : World} {base : Nat} {ao : Option Addr} {n cap k : Nat} {rs : List (List Int)} (h : MO w base ao n cap rs k) (hb : Below w.heap.size w w') : MO w' base ao n cap rs k := MOwn.za (R := fun w a l c zs => VF w a l c zs k) (fun h hb => VF.za h hb) h hb
theorem MO.mf {w : World} {base : Nat} {ao : Option Addr} {n cap k : Nat} {rs : List (List Int)} (h : MO w base ao n cap rs k) : MF w ao n cap rs k := MOwn.rows (R := fun w a l c zs => VF w a l c zs k) h
theorem MO.len {w : World} {base : Nat} {ao : Option Addr} {n cap k : Nat} {rs : List (List Int)} (h : MO w base ao n cap rs k) : rs.length = n := MOwn.len (R := fun w a l c zs => VF w a l c zs k) h
theorem MO.ge {w : World} {base : Nat} {ao : Option Addr} {n cap k : Nat} {rs : List (List Int)} (h : MO w base ao n cap rs k) : ∀ g, (Value.slice ao n cap).ownBlock = some g → base ≤ g := MOwn.ge (R := fun w a l c zs => VF w a l c zs k) h
theorem mo_nil (w : World) (base k : Nat) : MO w base none 0 0 [] k := mOwn_nil _ w base
theorem mf_one {w : World} {a : Option Addr} {l c k : Nat} {zs : List Int} (h : VF w a l c zs k) : MF (w.alloc (.cells #[.slice a l c] 39)) (some ⟨w.heap.size, 0, none⟩) 1 1 [zs] k := by
 refine rowsOf_new (R := fun w a l c zs => VF w a l c zs k) (vs := [(a, l, c)]) rfl rfl rfl (by simp) fun i a' l' c' e => ?_
 match i with
 | 0 =>
  simp at e;obtain ⟨rfl, rfl, rfl⟩ := e;exact h.za (below_new w _)
theorem steadyMO (k : Nat) : SteadyV (fun w a l c zs => VF w a l c zs k) := steadyV_vf k

/-
 What Mul, Turn and Product of package rows tell, and column and weighed, by which they go (IN PARTS).
-/

theorem vf_up {w : World} {ao : Option Addr} {n cap k l : Nat} {zs : List Int} (h : VF w ao n cap zs k) (hl : k ≤ l) : VF w ao n cap zs l := VecOf.mono h (fun _ h => h.up hl)
theorem zerosR_at (n j : Nat) : (List.replicate n (0 : Int)).getD j 0 = 0 := by
 rcases Nat.lt_or_ge j n with c | c
 ·simp [List.getD, c]
 ·exact getD_out (by simp; exact c)
theorem put_row {ss : List (List Int)} {i : Nat} {f : Nat → List Int} (hi : i < ss.length) (h : ∀ j, j < i → ss.getD j [] = f j) : ∀ j, j < i + 1 → (ss.set i (f i)).getD j [] = f j := by
 intro j hj;by_cases e : j = i
 ·subst e;simp [List.getD, hi]
 ·rw [show (ss.set i (f i)).getD j [] = ss.getD j [] by simp [List.getD, List.getElem?_set_ne (Ne.symm e)]];exact h j (by omega)
theorem rows_of {ss : List (List Int)} {n : Nat} {f : Nat → List Int} (hl : ss.length = n) (h : ∀ j, j < n → ss.getD j [] = f j) : ss = (List.range n).map f := by
 refine List.ext_getElem (by rw [List.length_map, List.length_range, hl]) fun i h1 h2 => ?_;have := h i (by omega);rw [show ss.getD i [] = ss[i] by simp [List.getD, h1]] at this;rw [this];simp
def wsum (zs : List Int) (rs : List (List Int)) (m t : Nat) : List Int := (List.range m).map fun j => sumN t fun i => zs.getD i 0 * (rs.getD i []).getD j 0
theorem wsum_len (zs : List Int) (rs : List (List Int)) (m t : Nat) : (wsum zs rs m t).length = m := by simp [wsum]
theorem wsum_zero (zs : List Int) (rs : List (List Int)) (m : Nat) : wsum zs rs m 0 = List.replicate m 0 := by
 refine vec_ext (by simp [wsum]) fun j hj => ?_;rw [wsum_len] at hj;unfold wsum;rw [getD_range _ hj, zerosR_at];rfl
theorem wsum_add {zs : List Int} {rs : List (List Int)} {m i : Nat} (h : (rs.getD i []).length ≤ m) : vadd (wsum zs rs m i) (vtimes (rs.getD i []) (zs.getD i 0)) = wsum zs rs m (i + 1) := by
 refine vec_ext (by rw [vadd_len, wsum_len, wsum_len, vtimes_len]; omega) fun j hj => ?_;rw [vadd_len, wsum_len, vtimes_len] at hj;rw [vadd_at, vtimes_at];unfold wsum;rw [getD_range _ (by omega), getD_range _ (by omega), sumN, Int.mul_comm]
theorem wsum_skip {zs : List Int} {rs : List (List Int)} {m i : Nat} (h : zs.getD i 0 = 0) : wsum zs rs m i = wsum zs rs m (i + 1) := by
 unfold wsum;refine List.map_congr_left fun j _ => ?_;rw [sumN, h, Int.zero_mul, Int.add_zero]
theorem wsum_all {zs : List Int} {rs : List (List Int)} {n n' : Nat} (hz : zs.length = n) (hr : rs.length = n') : wsum zs rs (longest rs) (min n n') = vprod zs rs := by
 refine vec_ext (by rw [wsum_len, vprod_len]) fun j hj => ?_;rw [wsum_len] at hj;rw [vprod_at];unfold wsum;rw [getD_range _ hj, hr];refine (sumN_upto (fun i hi => ?_) (by omega)).symm;by_cases c : zs.length ≤ i
 ·rw [getD_out c, Int.zero_mul]
 ·rw [show rs.getD i [] = [] by simp [List.getD, List.getElem?_eq_none (show rs.length ≤ i by omega)]];simp
set_option maxRecDepth 20000 in
set_option maxHeartbeats 2000000 in
theorem weighedK (ao : Option Addr) (n cap : Nat) (zs : List Int) (k1 : Nat) (ap : Option Addr) (n' cp : Nat) (rs : List (List Int)) (k2 M : Nat) (w : World) (h : VK w ao n cap zs k1) (h' : MK w ap n' cp rs k2) (hk : k1 ≤ 200000) (hl : k2 ≤ 200000) (hr : ∀ i, (rs.getD i []).length ≤ M) (hM : M ≤ 1000000) (hn : n ≤ 1000000) (hn' : n' ≤ 100000) :
  Calls Tryz.prog 123 #[.slice ao n cap, .slice ap n' cp, .int .i64 (longest rs : Int)] w fun e w' => ∃ a1 c1, e = .returned (.slice a1 (longest rs) c1) ∧ VF w' a1 (longest rs) c1 (vprod zs rs) (k1 + k2 + n') ∧ Below w.heap.size w w' := by
 have hmin := min_len n n';have HE := zh (wsum_all h.len_eq h'.len_eq);have hlo : longest rs ≤ M := longest_le fun r hx => by
  obtain ⟨i, hi, e⟩ := List.getElem_of_mem hx;have := hr i
  rwa [show rs.getD i [] = rs[i] by simp [List.getD, hi], e] at this
 have hrl : ∀ i, i < rs.length → (rs.getD i []).length ≤ longest rs := fun i hi => longest_ge rs 0 i hi;rw [h'.len_eq] at hrl;obtain ⟨m, em⟩ : ∃ m, m = longest rs := ⟨_, rfl⟩;rw [← em] at hlo HE hrl ⊢;have HR := zh hrl;obtain ⟨q, eq⟩ : ∃ q, q = min n n' := ⟨_, rfl⟩;rw [← eq] at hmin HE;have hqn : q ≤ n := by omega
 have hqn' : q ≤ n' := by omega
 clear em eq hr hrl;go_enter Tryz.func123, Tryz.ntmps123
 go_wp2_with (at_make; refine make_vec rfl _ _ 39 Tryz.underlying39 rfl w.heap.size .i64 .i64 _ _ m (k1 + k2 + 0) rfl rfl (by omega) (by omega) (by omega) (by omega) ?_)
 intro w2 hown hgrow;have hbg : Below w.heap.size w w2 := (Below.refl _ _).grown hgrow (Nat.le_refl _) (fun _ h => by simp at h);have HB := zh hbg;clear hgrow hbg;obtain ⟨gv, egv⟩ : ∃ gv, gv = w.heap.size := ⟨_, rfl⟩;rw [show (some ⟨w.heap.size, 0, none⟩ : Option Addr) = some ⟨gv, 0, none⟩ by rw [egv]] at hown ⊢;clear egv
 go_wp2_with fail
 go_loopw [7, 16] (fun s t wr => ∃ (i : Nat) (a1 : Option Addr) (c1 : Nat), i ≤ q ∧ t = .int .i64 (i : Int) ∧ s = .slice a1 m c1 ∧ VF wr a1 m c1 (wsum zs rs m i) (k1 + k2 + i) ∧ Below w.heap.size w wr) (fun _ t _ => q - (intOf t).toNat)
 case atStart => exact ⟨0, _, _, Nat.zero_le _, rfl, rfl, by rw [wsum_zero]; exact hown.vf, zu HB⟩
 case round =>
  clear hown HB;obtain ⟨i, a1, c1, hi, rfl, rfl, hps, hB⟩ := hrel;have HB := zh hB;clear hB;by_cases hlt : i < q
  ·obtain ⟨ps, eps⟩ : ∃ ps, ps = wsum zs rs m i := ⟨_, rfl⟩;rw [← eps] at hps;have EPS := zh eps;clear eps;obtain ⟨g2, off2, rfl⟩ := h.some (by omega);obtain ⟨b3, a3, l3, c3, E3, hy3⟩ := (h.za (zu HB)).at (show i < n by omega);obtain ⟨f3, f4⟩ := E3.zb;have hg3 := E3.1;obtain ⟨g, off, rfl⟩ := h'.addr (by omega);obtain ⟨hg, a5, l5, c5, hc5, hv5⟩ := RowsOf.at (R := fun w a l c zs => VK w a l c zs k2) h' (show i < n' by omega);have hn5 : l5 ≤ m := by rw [← hv5.len_eq]; exact zu HR i (by omega)
   replace hv5 := hv5.za (zu HB);have f2 := ((zu HB).cell (p := ⟨g, off + i, none⟩) hg).trans hc5;have hgr := Nat.lt_of_lt_of_le hg (zu HB).size;have hi0 : (0 : Int) ≤ (i : Int) := by omega
   have hi1 : (i : Int) < (n : Int) := by omega
   have hi2 : (i : Int) < (n' : Int) := by omega
   have HV5 := zh hv5.len_eq;clear hc5 hg;obtain ⟨z, ez⟩ : ∃ z, z = zs.getD i 0 := ⟨_, rfl⟩;obtain ⟨sg, es⟩ : ∃ s, s = z.sign := ⟨_, rfl⟩;have ES := zh (show sg = (zs.getD i 0).sign by rw [es, ez]);have EZ := zh ez;clear ez
   go_wp2_with fail
   refine (signK b3 a3 l3 c3 (zs.getD i 0) k1 sg _ hy3 (zu ES)).mono ?_;rintro e w4 ⟨rfl, hb1⟩;replace hps := hps.za hb1;replace hy3 := hy3.za hb1;replace hv5 := hv5.za hb1;replace E3 := E3.za hb1;replace f2 := (hb1.cell (p := ⟨g, off + i, none⟩) hgr).trans f2;replace hgr := Nat.lt_of_lt_of_le hgr hb1.size;replace HB := zh (Below.step (zu HB) hb1);clear hb1 f3 f4 hg3;by_cases h0 : z = 0
   ·have hs : (sg != 0) = false := by rw [es, h0]; rfl
    have H0 := zh h0;clear es h0;go_wp2;go_roundw
    case rel => exact ⟨i + 1, _, _, by omega, by go_num, rfl, by rw [← wsum_skip (by rw [← zu EZ]; exact zu H0), ← zu EPS]; exact vf_up hps (by omega), zu HB⟩
    case measure => simp [intOf]; omega
   ·have hs : (sg != 0) = true := by
     rw [bne_iff_ne, es];exact fun e => h0 (Int.sign_eq_zero_iff_zero.1 e)
    clear es h0;have HW : Below w4.heap.size w4 w4.drew := (Below.refl _ _).drew
    go_upto_region 6 with fail
    have HS := zh fun w' (HW : Below w4.heap.size w4 w') => con3 ((HW.cell (p := ⟨g, off + i, none⟩) hgr).trans f2) (E3.za HW).zb.1 (E3.za HW).zb.2;refine zst HS HW 11 (by kernel_rfl) fun zH => ?_;refine ztl 0 rfl ?_;simp only [Act.put, aGet, aZero, aSet, aHead, aTail];refine ztl 1 rfl ?_;simp only [zP];refine ztl 2 rfl ?_;simp only [zP];refine ztl 3 rfl ?_;simp only [zP];refine ztl 4 rfl ?_;simp only [zP];refine ztl 5 rfl ?_;simp only [zP];refine ztl 6 rfl ?_;simp only [zP];refine ztl 7 rfl ?_;simp only [zP];refine ztl 8 rfl ?_;simp only [zP];refine tin 9 rfl fun K hK => ?_;go_simp;refine (vtimesK _ _ _ (rs.getD i []) k2 _ _ _ _ (zs.getD i 0) k1 _ (hv5.za HW) (hy3.za HW) (by omega)).mono ?_;rintro e w9 ⟨a8, c8, rfl, h8, hb9⟩;replace HW := Below.step HW hb9;clear hb9;refine hK.out _ _ ?_ (fun zH => ?_)
    ·exact zu HS _ HW
    clear hK K
    try simp only [zP]
    refine tin 10 rfl fun K hK => ?_;go_simp;refine (vaddK _ _ _ ps (k1 + k2 + i) _ _ _ (vtimes (rs.getD i []) (zs.getD i 0)) (k2 + k1) _ ((hps.za HW).vk (by omega)) (h8.vk (by omega)) (by omega) (by omega) (by omega) (by omega)).mono ?_;rintro e w10 ⟨a9, c9, rfl, h9, hb9⟩;replace HW := Below.step HW hb9;clear hb9 h8;rw [show max m l5 = m by omega] at h9 ⊢;rw [show max (k1 + k2 + i) (k2 + k1) + 1 = k1 + k2 + (i + 1) by omega] at h9;refine hK.out _ _ ?_ (fun zH => ?_)
    ·exact zu HS _ HW
    clear hK K
    try simp only [zP]
    refine tout 11 rfl fun K hK => ?_;go_simp;refine hK.out _ _ ?_;clear hK K
    try simp only [zP]
    refine zdn (by kernel_rfl) ?_ _;go_wp2;go_roundw
    case rel => exact ⟨i + 1, _, _, by omega, by go_num, rfl, by rw [← wsum_add (by rw [zu HV5]; exact hn5), ← zu EPS]; exact h9, Below.step (zu HB) HW⟩
    case measure => simp [intOf]; omega
  ·have hin : i = q := by omega
   subst hin;rw [zu HE] at hps;go_wp2;go_ret;exact ⟨_, _, rfl, vf_up hps (by omega), zu HB⟩

set_option maxHeartbeats 2000000 in
theorem productK (ao : Option Addr) (n cap : Nat) (rs : List (List Int)) (k : Nat) (ap : Option Addr) (n' cp : Nat) (ss0 : List (List Int)) (k2 M : Nat) (w : World) (h : MK w ao n cap rs k) (h' : MK w ap n' cp ss0 k2) (hk : k ≤ 200000) (hl : k2 ≤ 200000) (hr : ∀ i, (rs.getD i []).length ≤ M) (hr' : ∀ i, (ss0.getD i []).length ≤ M) (hM : M ≤ 1000000) (hn : n ≤ 1000000) (hn' : n' ≤ 100000) :
  Calls Tryz.prog 116 #[.slice ao n cap, .slice ap n' cp] w fun e w' => ∃ a1 c1, e = .returned (.slice a1 n c1) ∧ MF w' a1 n c1 (rs.map fun r => vprod r ss0) (k + k2 + n') ∧ Below w.heap.size w w' := by
 have HL := zh h.len_eq;have HQ := zh hr;clear hr;go_enter Tryz.func116, Tryz.ntmps116
 go_wp2_with fail
 refine (longestK _ _ _ ss0 _ h'.ml).mono ?_;rintro e w1 ⟨rfl, hb1⟩;have hsz1 := hb1.size
 go_wp2_with (at_make; refine make_rows (R := fun w a l c zs => VF w a l c zs (k + k2 + n')) (fun w => vf_nil w _) rfl _ _ 22 Tryz.underlying22 rfl w.heap.size .i64 .i64 _ _ n rfl rfl (by omega) (by omega) (by omega) (by omega) ?_)
 intro w2 hown hgrow;have hbg : Below w1.heap.size w1 w2 := (Below.refl _ _).grown hgrow (Nat.le_refl _) (fun _ h => by simp at h);have HB := zh (Below.step hb1 hbg);clear hgrow hbg;obtain ⟨gv, egv⟩ : ∃ gv, gv = w1.heap.size := ⟨_, rfl⟩;rw [← egv] at hown ⊢;clear egv hsz1
 go_wp2_with fail
 go_loopw [16] (fun t wr => ∃ (i : Nat) (ss : List (List Int)), i ≤ n ∧ t = .int .i64 (i : Int) ∧ MO wr w.heap.size (some ⟨gv, 0, none⟩) n n ss (k + k2 + n') ∧ (∀ j, j < i → ss.getD j [] = vprod (rs.getD j []) ss0) ∧ Below w.heap.size w wr) (fun t _ => n - (intOf t).toNat)
 case atStart => exact ⟨0, _, Nat.zero_le _, rfl, hown, fun j hj => absurd hj (by omega), zu HB⟩
 case round =>
  clear hown HB hb1;obtain ⟨i, ss, hi, rfl, hv, hall, hB⟩ := hrel;have HA := zh hall;clear hall;have HB := zh hB;clear hB;by_cases hlt : i < n
  ·obtain ⟨g, off, rfl⟩ := h.addr (by omega);obtain ⟨hg, a5, l5, c5, hc5, hv5⟩ := RowsOf.at (R := fun w a l c zs => VK w a l c zs k) h hlt;have hn5 : l5 ≤ M := by rw [← hv5.len_eq]; exact zu HQ i
   replace hv5 := hv5.za (zu HB);have f2 := ((zu HB).cell (p := ⟨g, off + i, none⟩) hg).trans hc5;have hgr := Nat.lt_of_lt_of_le hg (zu HB).size;clear hc5 hg
   go_wp2_with fail
   refine (weighedK _ _ _ (rs.getD i []) k _ _ _ ss0 k2 M _ hv5 (h'.za (zu HB)) hk hl hr' hM (by omega) hn').mono ?_;rintro e w5 ⟨a7, c7, rfl, h7, hb1⟩;replace hv := hv.za hb1;replace HB := zh (Below.step (zu HB) hb1);clear hb1 hv5 f2 hgr;obtain ⟨hg6, a6, l6, c6, f6, _⟩ := RowsOf.at (R := fun w a l c zs => VF w a l c zs (k + k2 + n')) hv.mf (show i < n by omega);rw [Nat.zero_add] at f6;have q3 := MOwn.free (R := fun w a l c zs => VF w a l c zs (k + k2 + n')) hv i;have hbl := MOwn.base_le (R := fun w a l c zs => VF w a l c zs (k + k2 + n')) hv;go_wp2;go_roundw
   case rel =>
    refine ⟨i + 1, ss.set i (vprod (rs.getD i []) ss0), by omega, by go_num, MOwn.set (R := fun w a l c zs => VF w a l c zs (k + k2 + n')) (steadyMO _) hv (by omega) h7, put_row (f := fun j => vprod (rs.getD j []) ss0) (by rw [hv.len]; omega) (zu HA), ?_⟩;exact (zu HB).setCell (by simpa using hbl.1) _
   case measure => simp [intOf]; omega
  ·have hin : i = n := by omega
   subst hin;have hss : ss = rs.map fun r => vprod r ss0 := by
    rw [rows_of hv.len (zu HA)];refine List.ext_getElem (by rw [List.length_map, List.length_map, List.length_range, zu HL]) fun j h1 h2 => ?_;have hj : j < rs.length := by rw [List.length_map] at h2; exact h2
    simp [List.getD, hj]
   subst hss;go_wp2;go_ret;exact ⟨_, _, rfl, hv.mf, zu HB⟩
end Go.Proofs.YtnpneloahajniaaGreat
