/-
 What Pick of package span tells: the form of some columns; the library's ContainsFunc, by which it goes. (IN PARTS)
-/
import Derived.Test.YtkomdimalgnamaaGreatRSpan
import Derived.Test.YtkomdimalgnamaaGreatRTag
import Derived.Test.YtkomdimalgnamaaGreatKFew
namespace Go.Proofs.YtkomdimalgnamaaGreat
open Go.RowKit Lb
set_option maxRecDepth 20000

theorem outK (x : Int) (gn : Nat) (Nn : Int) (w : World) (hc : w.cell? ⟨gn, 0, none⟩ = some (.int .i64 Nn)) (_ : gn < w.heap.size) (q : Bool) (hq : q = true ↔ x < 0 ∨ Nn ≤ x) :
  Calls Tryz.prog 59 #[.int .i64 x, .pointer (some ⟨gn, 0, none⟩)] w fun e w' => e = .returned (.bool q) ∧ Below w.heap.size w w' := by
 have HQ := zh hq;clear hq;go_enter Tryz.func59, Tryz.ntmps59;by_cases h0 : x < 0
 ·have hqt : q = true := (zu HQ).2 (Or.inl h0);subst hqt;go_wp2;go_ret;exact ⟨rfl, Below.refl _ _⟩
 ·have h0' : decide (x < 0) = false := decide_eq_false h0;by_cases h1 : Nn ≤ x
  ·have hqt : q = true := (zu HQ).2 (Or.inr h1);subst hqt;go_wp2;go_ret;exact ⟨rfl, Below.refl _ _⟩
  ·have h1' : decide (Nn ≤ x) = false := decide_eq_false h1;have hqt : q = false := by
    rw [← Bool.not_eq_true, zu HQ];omega
   subst hqt;go_wp2;go_ret;exact ⟨rfl, Below.refl _ _⟩
set_option maxHeartbeats 1600000 in
theorem idxOutK (ai : Option Addr) (m ci : Nat) (zs : List Int) (gn : Nat) (Nn : Int) (w : World) (h : IRowAt w ai m ci zs) (hc : w.cell? ⟨gn, 0, none⟩ = some (.int .i64 Nn)) (hlt : gn < w.heap.size) :
  Calls Tryz.prog 87 #[.slice ai m ci, .func (.func 59) #[] #[.pointer (some ⟨gn, 0, none⟩)]] w fun e w' => ∃ z, e = .returned (.int .i64 z) ∧ (0 ≤ z ↔ ∃ j, j < m ∧ (zs.getD j 0 < 0 ∨ Nn ≤ zs.getD j 0)) ∧ Below w.heap.size w w' := by
 have hm := Nat.le_trans h.cap_le h.cap_max;unfold maxLen at hm;go_enter Tryz.func87, Tryz.ntmps87
 go_wp2_with fail
 go_loopw [8] (fun t wr => ∃ (i : Nat), i ≤ m ∧ t = .int .i64 (i : Int) ∧ (∀ j, j < i → ¬ (zs.getD j 0 < 0 ∨ Nn ≤ zs.getD j 0)) ∧ Below w.heap.size w wr) (fun t _ => m - (intOf t).toNat)
 case atStart => exact ⟨0, Nat.zero_le _, rfl, fun j hj => absurd hj (by omega), Below.refl _ _⟩
 case round =>
  obtain ⟨i, hi, rfl, hall, hB⟩ := hrel;have HA := zh hall;have HB := zh hB;clear hall hB;by_cases hli : i < m
  ·obtain ⟨g, off, rfl⟩ := h.addr (by omega);obtain ⟨hg, xi⟩ := h.at hli;have f1 := ((zu HB).cell (p := ⟨g, off + i, none⟩) hg).trans xi;have hgr := Nat.lt_of_lt_of_le hg (zu HB).size;have hi0 : (0 : Int) ≤ (i : Int) := by omega
   have hi1 : (i : Int) < (m : Int) := by omega
   obtain ⟨x, ex⟩ : ∃ x, x = zs.getD i 0 := ⟨_, rfl⟩;rw [← ex] at f1;have EX := zh ex;obtain ⟨q, hq⟩ := bool_ofH (x < 0 ∨ Nn ≤ x);have HQ := zh hq;clear xi hg ex hq
   go_wp2_with fail
   refine (outK x gn Nn _ (((zu HB).cell (p := ⟨gn, 0, none⟩) hlt).trans hc) (Nat.lt_of_lt_of_le hlt (zu HB).size) q (zu HQ)).mono ?_;rintro e w3 ⟨rfl, hb1⟩;replace HB := zh (Below.step (zu HB) hb1);clear hb1 f1 hgr;cases q with
   | true =>
    go_wp2;go_ret;exact ⟨_, rfl, ⟨fun _ => ⟨i, hli, by rw [← zu EX]; exact (zu HQ).1 (by trivial)⟩, fun _ => by omega⟩, zu HB⟩
   | false =>
    go_wp2;go_roundw
    case rel =>
     refine ⟨i + 1, by omega, by go_num, fun j hj => ?_, zu HB⟩;by_cases c : j = i
     ·subst c;rw [← zu EX];exact fun e => by have := (zu HQ).2 e; simp at this
     ·exact zu HA j (by omega)
    case measure => simp [intOf]; omega
  ·have him : i = m := by omega
   subst him;have hi1 : ¬ (i : Int) < (i : Int) := by omega
   go_wp2;go_ret;exact ⟨_, rfl, ⟨fun e => absurd e (by omega), fun ⟨j, h1, h2⟩ => absurd h2 (zu HA j h1)⟩, zu HB⟩
theorem hasOutK (ai : Option Addr) (m ci : Nat) (zs : List Int) (gn : Nat) (Nn : Int) (q : Bool) (w : World) (h : IRowAt w ai m ci zs) (hc : w.cell? ⟨gn, 0, none⟩ = some (.int .i64 Nn)) (hlt : gn < w.heap.size) (hq : q = true ↔ ∃ j, j < m ∧ (zs.getD j 0 < 0 ∨ Nn ≤ zs.getD j 0)) :
  Calls Tryz.prog 58 #[.slice ai m ci, .func (.func 59) #[] #[.pointer (some ⟨gn, 0, none⟩)]] w fun e w' => e = .returned (.bool q) ∧ Below w.heap.size w w' := by
 have HQ := zh hq;clear hq;go_enter Tryz.func58, Tryz.ntmps58
 go_wp2_with fail
 refine (idxOutK ai m ci zs gn Nn _ h hc hlt).mono ?_;rintro e w1 ⟨z, rfl, hz, hb1⟩;have hqz : decide (0 ≤ z) = q := by
  rw [Bool.eq_iff_iff, decide_eq_true_iff, hz];exact (zu HQ).symm
 have HZ := zh hqz;clear hz hqz;go_wp2;rw [zu HZ];go_ret;exact ⟨rfl, hb1⟩
set_option maxHeartbeats 2000000 in
theorem spPickNilK (ao : Option Addr) (n cap : Nat) (ls : List (List Int)) (b : Nat) (x : Int) (ai : Option Addr) (m ci : Nat) (zs : List Int) (w : World) (h : MK w ao n cap ls b) (hi : IRowAt w ai m ci zs) (hx : -9223372036854775808 ≤ x ∧ x ≤ 9223372036854775807) (hn : n ≤ 1000) (hm : m ≤ 1000) (hq : 64 < m ∨ ¬ (rform ls x = true ∧ ∃ p, HForm ls p) ∨ ∃ j, j < m ∧ (zs.getD j 0 < 0 ∨ x ≤ zs.getD j 0)) :
  Calls Tryz.prog 23 #[.slice ao n cap, .int .i64 x, .slice ai m ci] w fun e w' => e = .returned (.slice none 0 0) ∧ Below w.heap.size w w' := by
 obtain ⟨W0, hW0⟩ : ∃ W0, W0 = w.alloc (.cells #[.int .i64 x] 3) := ⟨_, rfl⟩;have hb0 : Below w.heap.size w W0 := by rw [hW0]; exact below_new _ _
 have hcx : W0.cell? ⟨w.heap.size, 0, none⟩ = some (.int .i64 x) := by rw [hW0]; simp
 have hsx : w.heap.size < W0.heap.size := by rw [hW0]; simp
 have h0 := h.za hb0;have hi0 := hi.za hb0;have HW0 := zh hW0;have HQ := zh hq;go_enter Tryz.func23, Tryz.ntmps23;by_cases h64 : 64 < m
 ·have h64' : (64 : Int) < (m : Int) := by omega
  clear hW0 hq h0 hi0 hcx hsx;go_wp2;go_ret;exact ⟨rfl, below_new _ _⟩
 ·have h64' : ¬ (64 : Int) < (m : Int) := by omega
  have h64b : decide ((64 : Int) < (m : Int)) = false := decide_eq_false h64';clear hW0 hq;obtain ⟨q, hqq⟩ := bool_ofH (rform ls x = true ∧ ∃ p, HForm ls p);have HQQ := zh hqq;clear hqq
  go_wp2_with fail
  rw [← zu HW0];refine (isK ao n cap ls b x q _ h0 hx (by omega) (zu HQQ)).mono ?_;rintro e w1 ⟨rfl, hb1⟩;have HB := zh (Below.step hb0 hb1);replace hi0 := hi0.za hb1;have hcx1 := (hb1.cell (p := ⟨w.heap.size, 0, none⟩) hsx).trans hcx;have hsx1 := Nat.lt_of_lt_of_le hsx hb1.size;clear hb1 hcx hsx h0 HW0;cases q with
  | false =>
   go_wp2;go_ret;exact ⟨rfl, zu HB⟩
  | true =>
   go_wp2_with fail
   refine (hasOutK ai m ci zs w.heap.size x true _ hi0 hcx1 hsx1 ⟨fun _ => by
    rcases zu HQ with e | e | e
    ·exact absurd e h64
    ·exact absurd ((zu HQQ).1 (by trivial)) e
    ·exact e, fun _ => rfl⟩).mono ?_
   rintro e w2 ⟨rfl, hb1⟩;go_wp2;go_ret;exact ⟨rfl, Below.step (zu HB) hb1⟩
def NilRow (_ : World) (a : Option Addr) (l c : Nat) (zs : List Int) : Prop := a = none ∧ l = 0 ∧ c = 0 ∧ zs = []
theorem tag_start {R : World → Bool → Option Addr → Nat → Nat → Int → Prop} {w : World} {base b0 g n : Nat} (h : MOwn NilRow w b0 (some ⟨g, 0, none⟩) n n (List.replicate n [])) : MOwn (TagR R base) w b0 (some ⟨g, 0, none⟩) n n (List.replicate n [0]) ∧ TagsOf (List.replicate n [0]) (fun _ => []) n := by
 have hr : ∀ i, i < n → (List.replicate n [(0 : Int)]).getD i [] = [0] := fun i hi => by simp [List.getD, hi]
 obtain ⟨⟨vs, hrow, hall⟩, _⟩ := h;have hvl := hrow.len;rw [List.length_map, Nat.mul_one] at hvl;refine ⟨⟨⟨vs, hrow, fun i v hv => ?_⟩, by simp⟩, fun i hi => ?_, fun i j hi hj _ h0 => ?_⟩
 ·have hi : i < n := by
   have := (List.getElem?_eq_some_iff.1 hv).1;omega
  obtain ⟨e1, e2, e3, _⟩ := hall i v hv;rw [hr i hi, e1, e2, e3];exact ⟨0, [], rfl, ownOf_nil R w base, Or.inl ⟨rfl, rfl⟩⟩
 ·unfold tagOf;rw [hr i hi]; rfl
 ·unfold tagOf at h0;rw [hr i hi] at h0;exact absurd rfl h0
theorem tagIK_later {k base : Nat} {w w' : World} {a : Option Addr} {l c : Nat} {q : List Int} (h : TagR (fun w b a l c z => IK w b a l c z k) base w a l c q) (hb : Below w.heap.size w w') : TagR (fun w b a l c z => IK w b a l c z k) base w' a l c q := by
 obtain ⟨t, zs, e, ho, ht⟩ := h;exact ⟨t, zs, e, OwnOf.za (R := fun w b a l c z => IK w b a l c z k) (fun h hb => h.za hb) ho hb, ht⟩
theorem elt_kept {w w' : World} {row : Option Nat} {g o : Nat} {b : Bool} {a : Option Addr} {l c : Nat} (h : EltAt w g o b a l c) (hg : w.grownBy w' row) (hne : row ≠ some g) : EltAt w' g o b a l c := by
 obtain ⟨h1, h2, h3⟩ := h;have e := hg.block g h1 (Ne.symm hne);exact ⟨Nat.lt_of_lt_of_le h1 hg.size, (World.cell?_of_block (a := ⟨g, o, none⟩) e).trans h2, (World.cell?_of_block (a := ⟨g, o + 1, none⟩) e).trans h3⟩
theorem colsL_snoc (f : Nat → Nat) (j : Nat) (r : List Int) : colsL f (j + 1) r = colsL f j r ++ [r.getD (f j) 0] := by simp [colsL, List.range_succ]
theorem TagsOf.to2 {qs : List (List Int)} {f g : Nat → List Int} {m : Nat} (h : TagsOf qs f m) (e : ∀ j, j < m → f j = g j) : TagsOf qs g m := ⟨fun j hj => by rw [← e j hj]; exact h.row j hj, h.apart⟩
theorem tag_mk {base k b0 : Nat} {w : World} {ao : Option Addr} {n cap : Nat} {qs W : List (List Int)} {f : Nat → List Int} (h : MOwn (TagR (fun w b a l c z => IK w b a l c z k) base) w b0 ao n cap qs) (ht : TagsOf qs f n) (hl : W.length = n) (hW : ∀ j, j < n → W.getD j [] = f j) : MK w ao n cap W k := by
 have h := h.rows;refine ⟨hl, h.cap_le, h.cap_max, h.nil_cap, fun hp => ?_⟩;obtain ⟨g, off, e, hg, hc⟩ := h.elts hp;refine ⟨g, off, e, hg, fun i hi => ?_⟩;obtain ⟨a, l, c, h1, t, zs, e2, ho, _⟩ := hc i hi;rw [ht.row i hi] at e2;have e3 : f i = zs := (List.cons.inj e2).2;refine ⟨a, l, c, h1, ?_⟩;rw [hW i hi, e3];exact ho.vec
set_option maxRecDepth 40000 in
set_option maxHeartbeats 4000000 in
theorem spPickK (ao : Option Addr) (n cap : Nat) (ls : List (List Int)) (p : Nat → Nat) (b0 N : Nat) (ai : Option Addr) (m ci : Nat) (zs : List Int) (f : Nat → Nat) (w : World) (h : MK w ao n cap ls b0) (hf : HForm ls p) (hl : ∀ r ∈ ls, r.length = N) (h1 : 1 ≤ N) (h64 : N ≤ 64) (hi : IRowAt w ai m ci zs) (hfz : ∀ j, j < m → zs.getD j 0 = (f j : Int)) (hfN : ∀ j, j < m → f j < N) (hm64 : m ≤ 64) (hn : n ≤ 4) (hb2 : 2 ≤ b0) (hb40 : b0 ≤ 40) :
  Calls Tryz.prog 23 #[.slice ao n cap, .int .i64 (N : Int), .slice ai m ci] w fun e w' => ∃ a1 k c1 hs, e = .returned (.slice a1 k c1) ∧ MF w' a1 k c1 hs 500 ∧ (m = 0 → hs = []) ∧ (1 ≤ m → ∃ p, HForm hs p ∧ SameL (ls.map (colsL f m)) hs ∧ ∀ r ∈ hs, r.length = m) ∧ Below w.heap.size w w' := by
 have HIS : Hid (rform ls (N : Int) = true ∧ ∃ p, HForm ls p) := zh ⟨rform_yes (by omega) fun i hi => by rw [rows_len hl i hi], p, hf⟩;have HL := zh h.len_eq;have HN := zh (rows_len hl);have HFZ := zh hfz;have HFN := zh hfN;have HEN := zh (mk_ent h);obtain ⟨W0, hW0⟩ : ∃ W0, W0 = w.alloc (.cells #[.int .i64 (N : Int)] 3) := ⟨_, rfl⟩;have hb0 : Below w.heap.size w W0 := by rw [hW0]; exact below_new _ _
 have hcx : W0.cell? ⟨w.heap.size, 0, none⟩ = some (.int .i64 (N : Int)) := by rw [hW0]; simp
 have hsx : w.heap.size < W0.heap.size := by rw [hW0]; simp
 replace h := h.za hb0;replace hi := hi.za hb0;have HW0 := zh hW0;have h64' : ¬ (64 : Int) < (m : Int) := by omega
 have h64b : decide ((64 : Int) < (m : Int)) = false := decide_eq_false h64';clear hW0 hf hl hfz hfN;go_enter Tryz.func23, Tryz.ntmps23
 go_wp2_with fail
 rw [← zu HW0];refine (isK ao n cap ls b0 (N : Int) true _ h (by omega) (by omega) ⟨fun _ => zu HIS, fun _ => rfl⟩).mono ?_;rintro e w1 ⟨rfl, hb1⟩;have HB := zh (Below.step hb0 hb1);replace h := h.za hb1;replace hi := hi.za hb1;have hcx1 := (hb1.cell (p := ⟨w.heap.size, 0, none⟩) hsx).trans hcx;have hsx1 := Nat.lt_of_lt_of_le hsx hb1.size;clear hb1 hcx hsx HW0 hb0 h64' h64b
 go_wp2_with fail
 refine (hasOutK ai m ci zs w.heap.size (N : Int) false _ hi hcx1 hsx1 ⟨fun e => by simp at e, fun ⟨j, hj, hz⟩ => by
  rw [zu HFZ j hj] at hz;have := zu HFN j hj;omega⟩).mono ?_
 rintro e w2 ⟨rfl, hb1⟩;replace HB := zh (Below.step (zu HB) hb1);replace h := h.za hb1;replace hi := hi.za hb1;clear hb1 hcx1 hsx1 HIS
 go_wp2_with (at_make; refine make_rows (R := NilRow) (fun w => ⟨rfl, rfl, rfl, rfl⟩) rfl _ _ 22 Tryz.underlying22 rfl w2.heap.size .i64 .i64 _ _ n rfl rfl (by omega) (by omega) (by omega) (by omega) ?_)
 intro w3 hown0 hgrow;have hb1 : Below w2.heap.size w2 w3 := (Below.refl _ _).grown hgrow (Nat.le_refl _) (fun _ h => by simp at h);obtain ⟨g0, eg0⟩ : ∃ g0, g0 = w2.heap.size := ⟨_, rfl⟩;have hB0w : w.heap.size ≤ g0 := by rw [eg0]; exact (zu HB).size
 have hB0 : g0 ≤ w3.heap.size := by rw [eg0]; exact hb1.size
 have HBE := zh eg0.symm;have HOLD := zh (show ∀ g, g < w2.heap.size → g < g0 from fun g hg => by rw [eg0]; exact hg);rw [← eg0] at hown0 ⊢;have hst := tag_start (R := fun w b a l c z => IK w b a l c z b0) (base := g0) hown0;obtain ⟨hown, htg⟩ := hst;have HH := zh h;replace HB := zh (Below.step (zu HB) hb1);have HG := zh hb1;have HTG := zh htg;obtain ⟨qs0, eqs0⟩ : ∃ qs0, qs0 = List.replicate n [(0 : Int)] := ⟨_, rfl⟩;rw [← eqs0] at hown HTG;clear hb1 hgrow eg0 hown0 htg eqs0
 go_wp2_with fail
 go_loopw [31] (fun t wr => ∃ (i : Nat) (qs : List (List Int)), i ≤ n ∧ t = .int .i64 (i : Int) ∧ MOwn (TagR (fun w b a l c z => IK w b a l c z b0) g0) wr g0 (some ⟨g0, 0, none⟩) n n qs ∧ TagsOf qs (fun t => if t < i then colsL f m (ls.getD t []) else []) n ∧ Below g0 w3 wr) (fun t _ => n - (intOf t).toNat)
 case atStart => exact ⟨0, qs0, Nat.zero_le _, rfl, hown, (zu HTG).to2 fun j _ => by rw [if_neg (by omega)], Below.refl _ _⟩
 case round =>
  clear hown HTG;obtain ⟨i, qs, hin, rfl, hown, htg, hC⟩ := hrel;have HC := zh hC;have HTI := zh htg;clear hC htg;by_cases hlt : i < n
  ·have hi0 : (0 : Int) ≤ (i : Int) := by omega
   have hi1 : (i : Int) < (n : Int) := by omega
   have hir : i < ls.length := by rw [zu HL]; exact hlt
   obtain ⟨g, off, rfl⟩ := (zu HH).addr (by omega);obtain ⟨hg2, a2, l2, c2, hc2, hv2⟩ := RowsOf.at (R := fun w a l c zs => VK w a l c zs b0) (zu HH) hlt;have hl2 : N = l2 := by rw [← hv2.len_eq]; exact (zu HN i hir).symm
   subst hl2;have hgB := zu HOLD g hg2;have f2 := (World.cell?_of_block (a := ⟨g, off + i, none⟩) ((zu HC).block g hgB)).trans (((zu HG).cell (p := ⟨g, off + i, none⟩) hg2).trans hc2);have hgr : g < wr.heap.size := Nat.lt_of_lt_of_le hgB (Nat.le_trans hB0 (zu HC).size);clear hc2
   go_wp2_with fail
   clear f2 hgr;go_loopw [38] (fun t wq => ∃ (j : Nat) (qs : List (List Int)), j ≤ m ∧ t = .int .i64 (j : Int) ∧ MOwn (TagR (fun w b a l c z => IK w b a l c z b0) g0) wq g0 (some ⟨g0, 0, none⟩) n n qs ∧ TagsOf qs (fun t => if t < i then colsL f m (ls.getD t []) else if t = i then colsL f j (ls.getD i []) else []) n ∧ Below g0 w3 wq) (fun t _ => m - (intOf t).toNat)
   case atStart => exact ⟨0, qs, Nat.zero_le _, rfl, hown, (zu HTI).to2 fun t _ => by
    by_cases c : t < i
    ·rw [if_pos c, if_pos c]
    ·rw [if_neg c, if_neg c]
     split <;> rfl, zu HC⟩
   case round =>
    clear hown HTI HC;obtain ⟨j, qs, hj, rfl, hown, htg, hC⟩ := hrel;have HT := zh htg;have HC := zh hC;clear htg hC;by_cases hjm : j < m
    ·obtain ⟨hg0, a5, l5, c5, hc5, htv⟩ := RowsOf.at (R := TagR (fun w b a l c z => IK w b a l c z b0) g0) hown.rows hlt;rw [Nat.zero_add] at hc5;have hrow := (zu HT).row i hlt;rw [if_neg (Nat.lt_irrefl _), if_pos rfl] at hrow;obtain ⟨t5, zs5, e5, ho5, -⟩ := htv;rw [hrow] at e5;have ef5 := (List.cons.inj e5).2;subst ef5;have hl5 : j = l5 := by rw [← ho5.len, colsL_len]
     subst hl5;obtain ⟨gi, oi, rfl⟩ := hi.addr (by omega);obtain ⟨hgi, xi⟩ := hi.at hjm;rw [zu HFZ j hjm] at xi;have hgiB := zu HOLD gi hgi;have f3 := (World.cell?_of_block (a := ⟨gi, oi + j, none⟩) ((zu HC).block gi hgiB)).trans (((zu HG).cell (p := ⟨gi, oi + j, none⟩) hgi).trans xi);have hgir : gi < wr.heap.size := Nat.lt_of_lt_of_le hgiB (Nat.le_trans hB0 (zu HC).size);have hfj := zu HFN j hjm;obtain ⟨g2, o2, rfl⟩ := hv2.some (by omega);obtain ⟨b3, a3, l3, c3, E30, y30⟩ := hv2.at hfj;have hg2B := zu HOLD g2 E30.1;have hcc : Below w2.heap.size w2 wr := by
      have := Below.trans (zu HG) ((zu HC).mono (Nat.le_of_eq (zu HBE)));exact this
     have hj0 : (0 : Int) ≤ (j : Int) := by omega
     have hj1 : (j : Int) < (m : Int) := by omega
     have hf0 : (0 : Int) ≤ (f j : Int) := by omega
     have hf1 : (f j : Int) < (N : Int) := by omega
     have E3 := E30.za hcc;have y3 := y30.za hcc;clear e5 hrow xi hgi E30 y30
     go_upto_region 12 with fail
     have HW : Below wr.heap.size wr wr.drew := (Below.refl _ _).drew;have HS := zh fun w' (HW : Below wr.heap.size wr w') => con3 ((HW.cell (p := ⟨g0, i, none⟩) hg0).trans hc5) (E3.za HW).zb.1 (E3.za HW).zb.2;refine zst HS HW 13 (by kernel_rfl) fun zH => ?_;obtain ⟨vd0, hvd⟩ : ∃ v, v = wr.drew := ⟨_, rfl⟩;rw [← hvd] at HW zH ⊢;clear hvd;refine ztl (i := 0) [12, 13] rfl ?_;simp only [Act.put, aGet, aZero, aSet, aHead, aTail];refine ztl (i := 1) [12, 13] rfl ?_;simp only [Act.put, aAll];refine ztl (i := 2) [4, 5, 11, 12, 13] rfl ?_;simp only [Act.put, aAll];refine ztl (i := 3) [4, 5, 11, 12, 13] rfl ?_;simp only [Act.put, aAll];refine ztl (i := 4) [5, 11, 12, 13] rfl ?_;simp only [Act.put, aAll];refine ztl (i := 5) [11, 12, 13] rfl ?_;simp only [Act.put, aAll];refine ztl (i := 6) [8, 9, 10, 11, 12, 13] rfl ?_;simp only [Act.put, aAll];refine ztl (i := 7) [8, 9, 10, 11, 12, 13] rfl ?_;simp only [Act.put, aAll];refine ztl (i := 8) [9, 10, 11, 12, 13] rfl ?_;simp only [Act.put, aAll];refine ztl (i := 9) [10, 11, 12, 13] rfl ?_;simp only [Act.put, aAll];refine tin (i := 10) rfl fun K hK => ?_;go_simp;obtain ⟨wa, hWa⟩ : ∃ W', W' = vd0.alloc (.cells #[.bool b3, .slice a3 l3 c3] 44) := ⟨_, rfl⟩;have hone : VecOf (fun w b a l c z => IK w b a l c z b0) wa (some ⟨vd0.heap.size, 0, none⟩) 1 1 [(ls.getD i []).getD (f j) 0] := by rw [hWa]; exact vec1 rfl ((y3.za HW).za (below_new _ _))
     have hba : Below vd0.heap.size vd0 wa := by rw [hWa]; exact below_new _ _
     rw [← hWa];clear hWa;replace HW := Below.step HW hba;clear hba;refine hK.out _ _ ?_ (fun zH => ?_)
     ·exact zu HS _ HW
     clear hK K
     try simp only [Act.put, aAll]
     refine tin (i := 11) rfl fun K hK => ?_;have hoW := OwnOf.za (R := fun w b a l c z => IK w b a l c z b0) (fun h hb => h.za hb) ho5 HW;have hownW := MOwn.za (R := TagR (fun w b a l c z => IK w b a l c z b0) g0) (fun h hb => tagIK_later h hb) hown HW;have hcW := (HW.cell (p := ⟨g0, i, none⟩) hg0).trans hc5;have hBr := Nat.le_trans hB0 (zu HC).size;have hHW := (zu HC).trans (HW.mono hBr);have hsW := Nat.le_trans hBr HW.size;have hEW := E3.za HW;refine step_vecs_at (R := fun w b a l c z => IK w b a l c z b0) (steady_ik b0) (by rfl) _ _ 24 Tryz.underlying24 (by rfl) g0 a5 j c5 (colsL f j (ls.getD i [])) (by rfl) hoW (some ⟨vd0.heap.size, 0, none⟩) 1 1 [(ls.getD i []).getD (f j) 0] (by rfl) hone (by omega) (by omega) hsW ?_;intro an cn w8 hown8 hgr8 hat8;obtain ⟨q1, q2, q3, q4, tt, q5, q6⟩ := tag_putR (R := fun w b a l c z => IK w b a l c z b0) (fun h hg hn => IK.grown h hg hn) hownW hlt (zu HT) hcW hgr8 hown8 (by omega) hat8;have hB8 := hHW.grown hgr8 hsW hoW.ge;have hE8 := elt_kept hEW hgr8 (fun e => by have := hoW.ge g2 e; omega);have HB9 := zh (hB8.setCell (p := ⟨g0, i, none⟩) (by simp) (.slice an (j + 1) cn));have hg08 : g0 < w8.heap.size := Nat.lt_of_lt_of_le hg0 (Nat.le_trans HW.size hgr8.size);have HQ6 := zh q6;clear hat8 hBr hownW hoW hHW q3 q4 q6 hown8 hcW hEW hB8 hgr8 hone;refine hK.out _ _ ?_ (fun zH => ?_)
     ·exact ⟨q1, hE8.zb.1, hE8.zb.2⟩
     clear hK K
     try simp only [Act.put, aAll]
     refine ztl (i := 12) [13] rfl ?_;simp only [Act.put, aAll];refine tout (i := 13) rfl fun K hK => ?_;go_simp;refine hK.out _ _ ?_;clear hK K
     try simp only [Act.put, aAll]
     refine till_done (by kernel_rfl) ?_ _;clear zH hc5 q1 q2 hE8 E3 y3 ho5 f3 hgir;go_wp2;go_roundw
     case rel =>
      refine ⟨j + 1, _, by omega, by go_num, q5, (zu HQ6).to2 fun t ht => ?_, zu HB9⟩;by_cases e : t = i
      ·subst e;rw [if_pos rfl, if_neg (Nat.lt_irrefl _), if_pos rfl, colsL_snoc]
      ·simp [e]
     case measure => simp [intOf]; omega
    ·have hjm2 : j = m := by omega
     subst hjm2;have hj1 : ¬ (j : Int) < (j : Int) := by omega
     go_wp2;go_roundw
     case rel =>
      refine ⟨i + 1, _, by omega, by go_num, hown, (zu HT).to2 fun t ht => ?_, zu HC⟩;by_cases c : t < i
      ·rw [if_pos c, if_pos (by omega)]
      ·rw [if_neg c];by_cases e : t = i
       ·subst e; rw [if_pos rfl, if_pos (by omega)]
       ·rw [if_neg e, if_neg (by omega)]
     case measure => simp [intOf]; omega
  ·have hin2 : i = n := by omega
   subst hin2;have hi1 : ¬ (i : Int) < (i : Int) := by omega
   obtain ⟨cl, ecl⟩ : ∃ cl, cl = ls.map (colsL f m) := ⟨_, rfl⟩;have hcl : cl.length = i := by rw [ecl, List.length_map]; exact zu HL
   have hmk := tag_mk hown (zu HTI) hcl fun j hj => by
    rw [if_pos hj, ecl];exact map_getD (by rw [zu HL]; exact hj)
   have HLC := zh (show ∀ r ∈ cl, r.length = m from fun r hr => by
    rw [ecl] at hr;obtain ⟨s, _, rfl⟩ := List.mem_map.1 hr;exact colsL_len f m s)
   have HECL := zh ecl;have HCL := zh hcl;replace HB := zh ((zu HB).trans ((zu HC).mono hB0w));clear hown HTI ecl hcl HC;by_cases hm0 : m = 0
   ·have hfn : rform cl (m : Int) = false := by
     rw [← Bool.not_eq_true];intro e;obtain ⟨M, e1, e2, _⟩ := rform_rows e;omega
    have HFN2 := zh hfn;have HM0 := zh hm0;clear hfn hm0
    go_wp2_with fail
    refine (hnfNo2K _ i i cl b0 (m : Int) _ hmk (by omega) (zu HFN2)).mono ?_;rintro e w9 ⟨rfl, hb1⟩;replace HB := zh (Below.step (zu HB) hb1);clear hb1 hmk;go_wp2;go_ret;exact ⟨none, 0, 0, [], rfl, mf_nil _ _, fun _ => rfl, fun e => absurd (zu HM0) (by omega), zu HB⟩
   ·have HRF := zh (show rform cl (m : Int) = true from rform_yes (by omega) fun t ht => by rw [rows_len (zu HLC) t ht]);have HBD := zh (bounded_few (l := cl) (n := 4) (a := b0) (by rw [zu HCL]; omega) (by omega) (by omega) fun u v => mk_ent hmk u v);have HM0 := zh hm0;clear hm0
    go_wp2_with fail
    refine (hnfK _ i i cl b0 (2 * ((b0 + 1) * 4) + b0 + 1) 3 (m : Int) _ hmk (by omega) (zu HRF) (zu HBD) (by omega) (by omega) (by omega) (by omega)).mono ?_;rintro e w9 ⟨a9, k9, c9, p9, hs, rfl, h9, hf9, hs9, hl9, -, hb1⟩;have HX := zh (show 1 ≤ m → ∃ p, HForm hs p ∧ SameL (ls.map (colsL f m)) hs ∧ ∀ r ∈ hs, r.length = m from fun _ => ⟨p9, hf9, by rw [← zu HECL]; exact hs9, fun r hr => by have := hl9 r hr; omega⟩);have hup := mf_up h9 (show 2 * ((b0 + 1) * 4) + b0 + 1 ≤ 500 by omega);replace HB := zh (Below.step (zu HB) hb1);clear hb1 hmk hf9 hs9 hl9 h9;go_wp2;go_ret;exact ⟨_, _, _, hs, rfl, hup, fun e => absurd e (zu HM0), zu HX, zu HB⟩

end Go.Proofs.YtkomdimalgnamaaGreat
