/-
 Plain mathematics of stage 9: which vector is ahead of which, sorted rows, the Normal of a vector, products and turned rows.
-/
import Derived.Test.YtnpneloahajniaaGreatJE
namespace Go.Proofs.YtnpneloahajniaaGreat
open Go.RowKit Lb
set_option maxRecDepth 20000

def VSame (a b : List Int) : Prop := ∀ i, a.getD i 0 = b.getD i 0
theorem VSame.refl (a : List Int) : VSame a a := fun _ => rfl
def vlt (a b : List Int) : Prop := ∃ k, (∀ i, i < k → a.getD i 0 = b.getD i 0) ∧ a.getD k 0 < b.getD k 0
theorem vlt_ne {a b : List Int} (h : vlt a b) : ¬ VSame a b := by
 obtain ⟨k, _, h⟩ := h;intro e;have := e k;omega
theorem vlt_trans {a b c : List Int} (h : vlt a b) (h' : vlt b c) : vlt a c := by
 obtain ⟨k, k1, k2⟩ := h;obtain ⟨l, l1, l2⟩ := h';rcases Nat.lt_trichotomy k l with e | e | e
 ·exact ⟨k, fun i hi => (k1 i hi).trans (l1 i (by omega)), by rw [← l1 k e]; exact k2⟩
 ·subst e;exact ⟨k, fun i hi => (k1 i hi).trans (l1 i hi), by omega⟩
 ·exact ⟨l, fun i hi => (k1 i (by omega)).trans (l1 i hi), by rw [k1 l e]; exact l2⟩
theorem vlt_asymm {a b : List Int} (h : vlt a b) (h' : vlt b a) : False := vlt_ne (vlt_trans h h') (VSame.refl a)
theorem first_diff (a b : List Int) (n : Nat) : (∀ i, i < n → a.getD i 0 = b.getD i 0) ∨ ∃ k, (∀ i, i < k → a.getD i 0 = b.getD i 0) ∧ a.getD k 0 ≠ b.getD k 0 := by
 induction n with
 | zero => exact Or.inl fun i hi => absurd hi (by omega)
 | succ n ih =>
  rcases ih with h | h
  ·by_cases e : a.getD n 0 = b.getD n 0
   ·refine Or.inl fun i hi => ?_;by_cases c : i = n
    ·subst c; exact e
    ·exact h i (by omega)
   ·exact Or.inr ⟨n, h, e⟩
  ·exact Or.inr h
theorem vlt_tri (a b : List Int) : vlt a b ∨ VSame a b ∨ vlt b a := by
 rcases first_diff a b (max a.length b.length) with h | ⟨k, h1, h2⟩
 ·refine Or.inr (Or.inl fun i => ?_);by_cases c : i < max a.length b.length
  ·exact h i c
  ·rw [getD_out (by omega), getD_out (by omega)]
 ·rcases Int.lt_trichotomy (a.getD k 0) (b.getD k 0) with c | c | c
  ·exact Or.inl ⟨k, h1, c⟩
  ·exact absurd c h2
  ·exact Or.inr (Or.inr ⟨k, fun i hi => (h1 i hi).symm, c⟩)
theorem IsCmp.lt_iff {a b : List Int} {c : Int} (h : IsCmp a b c) : c < 0 ↔ vlt a b := by
 rcases h with ⟨rfl, h⟩ | ⟨k, h1, h2, rfl⟩
 ·exact ⟨fun e => absurd e (by omega), fun e => absurd h (vlt_ne e)⟩
 ·rcases sgn_cases (x := a.getD k 0 - b.getD k 0) (by omega) with ⟨p, e⟩ | ⟨p, e⟩
  ·rw [e];exact ⟨fun e => absurd e (by omega), fun e => absurd (show vlt b a from ⟨k, fun i hi => (h1 i hi).symm, by omega⟩) (fun d => vlt_asymm e d)⟩
  ·rw [e];exact ⟨fun _ => ⟨k, h1, by omega⟩, fun _ => by omega⟩
/-
 Plain mathematics of stage 9: the Normal of a vector, Half and Both of rows; products and turned rows.
-/

def isNeg : List Int → Bool
 | [] => false
 | z :: t => if z < 0 then true else if 0 < z then false else isNeg t
theorem isNeg_iff : ∀ v, isNeg v = true ↔ vlt v []
 | [] => ⟨fun h => by simp [isNeg] at h, fun h => absurd (VSame.refl _) (vlt_ne h)⟩
 | z :: t => by
  rw [isNeg];rcases Int.lt_trichotomy z 0 with c | c | c
  ·rw [if_pos c];exact ⟨fun _ => ⟨0, fun i hi => absurd hi (by omega), by simpa using c⟩, fun _ => rfl⟩
  ·rw [if_neg (by omega), if_neg (by omega), isNeg_iff t];subst c
   constructor
   ·rintro ⟨k, h1, h2⟩;refine ⟨k + 1, fun i hi => ?_, by simpa using h2⟩;cases i with
    | zero => simp
    | succ i => simpa using h1 i (by omega)
   ·rintro ⟨k, h1, h2⟩;cases k with
    | zero => simp at h2
    | succ k =>
     refine ⟨k, fun i hi => ?_, by simpa using h2⟩;simpa using h1 (i + 1) (by omega)
  ·rw [if_neg (by omega), if_pos c];refine ⟨fun h => by simp at h, ?_⟩;rintro ⟨k, h1, h2⟩;cases k with
   | zero => simp at h2; omega
   | succ k => have := h1 0 (by omega); simp at this; omega
def vnormal (v : List Int) : List Int := if isNeg v = true then vneg v else v
theorem vneg_neg (v : List Int) : vneg (vneg v) = v := by
 refine vec_ext (by rw [vneg_len, vneg_len]) fun i _ => ?_;rw [vneg_at, vneg_at]; omega
theorem normal_pos {v : List Int} (h : vlt [] v) : vnormal v = v := by
 unfold vnormal;rw [if_neg];rw [isNeg_iff];exact fun e => vlt_asymm h e
theorem normal_neg {v : List Int} (h : vlt v []) : vnormal v = vneg v := by
 unfold vnormal;rw [if_pos ((isNeg_iff v).2 h)]
theorem normal_nought {v : List Int} (h : VSame v []) : vnormal v = v := by
 unfold vnormal;rw [if_neg];rw [isNeg_iff];exact fun e => vlt_ne e h
theorem normal_cases (v : List Int) : (vlt v [] ∧ vnormal v = vneg v) ∨ (VSame v [] ∧ vnormal v = v) ∨ (vlt [] v ∧ vnormal v = v) := by
 rcases vlt_tri v [] with h | h | h
 ·exact Or.inl ⟨h, normal_neg h⟩
 ·exact Or.inr (Or.inl ⟨h, normal_nought h⟩)
 ·exact Or.inr (Or.inr ⟨h, normal_pos h⟩)
theorem sumN_swap (n m : Nat) (f : Nat → Nat → Int) : (sumN n fun i => sumN m fun j => f i j) = sumN m fun j => sumN n fun i => f i j := by
 induction n with
 | zero =>
  show (0 : Int) = _
  induction m with
  | zero => rfl
  | succ m ih => rw [sumN, ← ih]; rfl
 | succ n ih =>
  rw [sumN, ih, ← sumN_add];exact sumN_congr fun j _ => by rw [sumN]
theorem sumN_mul_right (n : Nat) (f : Nat → Int) (x : Int) : (sumN n fun i => f i * x) = sumN n f * x := by
 rw [Int.mul_comm, ← sumN_mul];exact sumN_congr fun i _ => Int.mul_comm _ _
def longest (b : List (List Int)) : Nat := b.foldl (fun m r => max m r.length) 0
theorem longest_snoc (b : List (List Int)) (r : List Int) : longest (b ++ [r]) = max (longest b) r.length := by unfold longest; rw [List.foldl_append]; rfl
def vprod (a : List Int) (b : List (List Int)) : List Int := (List.range (longest b)).map fun t => sumN b.length fun j => a.getD j 0 * (b.getD j []).getD t 0
theorem vprod_len (a : List Int) (b : List (List Int)) : (vprod a b).length = longest b := by simp [vprod]
theorem foldl_max_ge (b : List (List Int)) : ∀ m, m ≤ b.foldl (fun m r => max m r.length) m := by
 induction b with
 | nil => exact fun m => Nat.le_refl _
 | cons r t ih =>
  intro m;rw [List.foldl_cons];exact Nat.le_trans (Nat.le_max_left _ _) (ih _)
theorem longest_ge : ∀ (b : List (List Int)) (m j : Nat), j < b.length → (b.getD j []).length ≤ b.foldl (fun m r => max m r.length) m
 | [], _, _, h => by simp at h
 | r :: t, m, 0, _ => by
  rw [List.foldl_cons];exact Nat.le_trans (Nat.le_max_right m _) (foldl_max_ge t _)
 | r :: t, m, j + 1, h => by
  rw [List.foldl_cons, List.getD_cons_succ];exact longest_ge t _ j (by simpa using h)
theorem vprod_at (a : List Int) (b : List (List Int)) (t : Nat) : (vprod a b).getD t 0 = sumN b.length fun j => a.getD j 0 * (b.getD j []).getD t 0 := by
 by_cases h : t < longest b
 ·exact getD_range _ h
 ·rw [getD_out (by rw [vprod_len]; omega)];have e : ∀ n, n ≤ b.length → (sumN n fun j => a.getD j 0 * (b.getD j []).getD t 0) = 0 := by
   intro n
   induction n with
   | zero => exact fun _ => rfl
   | succ n ih =>
    intro hn;rw [sumN, ih (by omega), getD_out (v := b.getD n []) (by have := longest_ge b 0 n (by omega); unfold longest at h; omega), Int.mul_zero];rfl
  exact (e _ (Nat.le_refl _)).symm
/-
 Rows of vectors that the call itself made ('MOwn'): what append of rows does to them, onto a part that ends at its own room too; parts of rows; what stays while such rows are written.
-/

def sv (v : Option Addr × Nat × Nat) : Value := .slice v.1 v.2.1 v.2.2
def isSl (u : Value) : Prop := ∃ v, u = sv v
theorem info_vec : (Tryz.prog.info? 39).map (fun i => (i.zero, i.size, i.bytes)) = some (some (.slice none 0 0), 1, 24) := by kernel_rfl
def OnlySl (w : World) (row : Option Nat) : Prop := ∀ g, row = some g → ∀ j u, w.cell? ⟨g, j, none⟩ = some u → isSl u
theorem OnlySl.noLimb {w : World} {row : Option Nat} (h : OnlySl w row) : ∀ g, row = some g → NoLimb w g := by
 intro g hg j x e;obtain ⟨v, hv⟩ := h g hg j _ e;simp [sv] at hv
theorem vecOf_kept {R : World → Bool → Option Addr → Nat → Nat → Int → Prop} (hR : Steady R) {w w' : World} {row : Option Nat} {ao : Option Addr} {n cap : Nat} {zs : List Int} (h : VecOf R w ao n cap zs) (hg : w.grownBy w' row) (hs : OnlySl w row) : VecOf R w' ao n cap zs := by
 refine ⟨h.len_eq, h.cap_le, h.cap_max, h.nil_cap, fun hp => ?_⟩;obtain ⟨g, off, e, hlt, hc⟩ := h.elts hp;have hne : row ≠ some g := by
  intro er;obtain ⟨b, a, l, c, h1, _⟩ := hc 0 hp;obtain ⟨v, hv⟩ := hs g er _ _ h1.zb.1;simp [sv] at hv
 refine ⟨g, off, e, Nat.lt_of_lt_of_le hlt hg.size, fun i hi => ?_⟩;obtain ⟨b, a, l, c, h1, h2⟩ := hc i hi;exact ⟨b, a, l, c, h1.of_block hg.size (hg.block g hlt (Ne.symm hne)), hR h2 hg hs.noLimb⟩
def SteadyV (R : World → Option Addr → Nat → Nat → List Int → Prop) : Prop := ∀ {w w' : World} {row : Option Nat} {a l c zs}, R w a l c zs → w.grownBy w' row → OnlySl w row → R w' a l c zs
theorem steadyV_vf (k : Nat) : SteadyV (fun w a l c zs => VF w a l c zs k) := fun h hg hs => vecOf_kept (R := fun w b a l c z => FK w b a l c z k) (fun h hg hn => FK.grown h hg hn) h hg hs
structure MOwn (R : World → Option Addr → Nat → Nat → List Int → Prop) (w : World) (base : Nat) (ao : Option Addr) (n cap : Nat) (rs : List (List Int)) : Prop where
 row : ∃ vs : List (Option Addr × Nat × Nat), OwnP isSl w base 39 1 (.slice ao n cap) n (vs.map sv) ∧ ∀ i v, vs[i]? = some v → R w v.1 v.2.1 v.2.2 (rs.getD i [])
 len : rs.length = n
theorem mOwn_nil (R : World → Option Addr → Nat → Nat → List Int → Prop) (w : World) (base : Nat) : MOwn R w base none 0 0 [] := ⟨⟨[], ownP_nil _ _ _ _ _, fun i v h => by simp at h⟩, rfl⟩
theorem MOwn.rows {R : World → Option Addr → Nat → Nat → List Int → Prop} {w : World} {base : Nat} {ao : Option Addr} {n cap : Nat} {rs : List (List Int)} (h : MOwn R w base ao n cap rs) : RowsOf R w ao n cap rs := by
 obtain ⟨⟨vs, hrow, hall⟩, hl⟩ := h;have hvl := hrow.len;rw [List.length_map, Nat.mul_one] at hvl;rcases hrow.form with ⟨e, e0⟩ | ⟨g, cap', e, hb, hg, hc, hm⟩
 ·simp only [Value.slice.injEq] at e;obtain ⟨rfl, rfl, rfl⟩ := e;exact ⟨hl, Nat.le_refl _, Nat.zero_le _, fun _ => rfl, fun h => absurd h (by omega)⟩
 ·simp only [Value.slice.injEq, true_and] at e;obtain ⟨rfl, rfl⟩ := e;refine ⟨hl, hc, hm, fun e => by simp at e, fun _ => ⟨g, 0, rfl, hg, fun i hi => ?_⟩⟩;obtain ⟨v, hv⟩ : ∃ v, vs[i]? = some v := ⟨vs[i], List.getElem?_eq_getElem (by omega)⟩;refine ⟨v.1, v.2.1, v.2.2, ?_, hall i v hv⟩;rw [Nat.zero_add, hrow.cell (j := i) (by omega), List.getElem?_map, hv];rfl
theorem MOwn.za {R : World → Option Addr → Nat → Nat → List Int → Prop} (hR : ∀ {w w' : World} {a l c zs}, R w a l c zs → Below w.heap.size w w' → R w' a l c zs) {w w' : World} {base : Nat} {ao : Option Addr} {n cap : Nat} {rs : List (List Int)} (h : MOwn R w base ao n cap rs) (hb : Below w.heap.size w w') : MOwn R w' base ao n cap rs := by
 obtain ⟨⟨vs, hrow, hall⟩, hl⟩ := h;exact ⟨⟨vs, hrow.za hb, fun i v hv => hR (hall i v hv) hb⟩, hl⟩
theorem MOwn.ge {R : World → Option Addr → Nat → Nat → List Int → Prop} {w : World} {base : Nat} {ao : Option Addr} {n cap : Nat} {rs : List (List Int)} (h : MOwn R w base ao n cap rs) : ∀ g, (Value.slice ao n cap).ownBlock = some g → base ≤ g := by
 obtain ⟨⟨vs, hrow, _⟩, _⟩ := h;intro g hg;rcases hrow.form with ⟨e, _⟩ | ⟨g', cap', e, hb, _⟩
 ·rw [e] at hg; simp [Value.ownBlock] at hg
 ·rw [e] at hg;simp only [Value.ownBlock, Option.some.injEq] at hg;omega
theorem MOwn.onlySl {R : World → Option Addr → Nat → Nat → List Int → Prop} {w : World} {base : Nat} {ao : Option Addr} {n cap : Nat} {rs : List (List Int)} (h : MOwn R w base ao n cap rs) : OnlySl w (Value.slice ao n cap).ownBlock := by
 obtain ⟨⟨vs, hrow, _⟩, _⟩ := h;exact fun g hg j u e => hrow.all g hg j u e
theorem getD_left {rs ss : List (List Int)} {i : Nat} (h : i < rs.length) : (rs ++ ss).getD i [] = rs.getD i [] := by simp [List.getD, List.getElem?_append_left h]
theorem getD_right {rs ss : List (List Int)} {i : Nat} (h : rs.length ≤ i) : (rs ++ ss).getD i [] = ss.getD (i - rs.length) [] := by simp [List.getD, List.getElem?_append_right h]
theorem RowsOf.list {R : World → Option Addr → Nat → Nat → List Int → Prop} {w : World} {ao : Option Addr} {n cap : Nat} {rs : List (List Int)} (h : RowsOf R w ao n cap rs) : ∃ vs : List (Option Addr × Nat × Nat), vs.length = n ∧ (∀ i v, vs[i]? = some v → R w v.1 v.2.1 v.2.2 (rs.getD i [])) ∧ (0 < n → ∃ g off, ao = some ⟨g, off, none⟩ ∧ g < w.heap.size ∧ ∀ i v, vs[i]? = some v → w.cell? ⟨g, off + i, none⟩ = some (sv v)) := by
 by_cases hn : n = 0
 ·subst hn;exact ⟨[], rfl, fun i v hv => by simp at hv, fun h => absurd h (by omega)⟩
 ·obtain ⟨g, off, e, hg, hc⟩ := h.elts (by omega);have ech : ∀ i, i < n → ∃ q : Option Addr × Nat × Nat, w.cell? ⟨g, off + i, none⟩ = some (sv q) ∧ R w q.1 q.2.1 q.2.2 (rs.getD i []) := fun i hi => by
   obtain ⟨a, l, c, h1, h2⟩ := hc i hi;exact ⟨(a, l, c), h1, h2⟩
  obtain ⟨q, hq⟩ := pick_lt ech;have hat : ∀ i v, ((List.range n).map q)[i]? = some v → i < n ∧ v = q i := fun i v hv => by
   have hi : i < n := by
    have := (List.getElem?_eq_some_iff.1 hv).1;simpa using this
   rw [List.getElem?_map, List.getElem?_range hi] at hv;exact ⟨hi, (Option.some.inj hv).symm⟩
  refine ⟨(List.range n).map q, by simp, fun i v hv => ?_, fun _ => ⟨g, off, e, hg, fun i v hv => ?_⟩⟩
  ·obtain ⟨hi, rfl⟩ := hat i v hv;exact (hq i hi).2
  ·obtain ⟨hi, rfl⟩ := hat i v hv;exact (hq i hi).1
theorem both_lists {R : World → Option Addr → Nat → Nat → List Int → Prop} {w : World} {vs us : List (Option Addr × Nat × Nat)} {rs ss : List (List Int)} (hl : vs.length = rs.length) (h1 : ∀ i v, vs[i]? = some v → R w v.1 v.2.1 v.2.2 (rs.getD i [])) (h2 : ∀ i v, us[i]? = some v → R w v.1 v.2.1 v.2.2 (ss.getD i [])) : ∀ i v, (vs ++ us)[i]? = some v → R w v.1 v.2.1 v.2.2 ((rs ++ ss).getD i []) := by
 intro i v hv;by_cases c : i < vs.length
 ·rw [List.getElem?_append_left c] at hv;rw [getD_left (by omega)];exact h1 i v hv
 ·rw [List.getElem?_append_right (by omega)] at hv;rw [getD_right (by omega), ← hl];exact h2 _ v hv
theorem sl_all (vs : List (Option Addr × Nat × Nat)) : ∀ u ∈ vs.map sv, isSl u := fun u hu => by
 obtain ⟨v, _, rfl⟩ := List.mem_map.1 hu;exact ⟨v, rfl⟩
theorem sl_one (vs : List (Option Addr × Nat × Nat)) : ∀ u ∈ vs.map sv, u.oneCell' = true := fun u hu => by
 obtain ⟨v, _, rfl⟩ := List.mem_map.1 hu;rfl
theorem sl_zero : ∀ u ∈ (Value.slice none 0 0).cells, isSl u := fun u hu => by
 simp [Value.cells] at hu;exact ⟨(none, 0, 0), hu⟩
theorem sl_at {w : World} {g off : Nat} {vs : List (Option Addr × Nat × Nat)} (h : ∀ i v, vs[i]? = some v → w.cell? ⟨g, off + i, none⟩ = some (sv v)) : ∀ j u, (vs.map sv)[j]? = some u → w.cell? ((⟨g, off, none⟩ : Addr).add j) = some u := by
 intro j u hj;rw [List.getElem?_map] at hj;obtain ⟨v, hv, rfl⟩ := Option.map_eq_some_iff.1 hj;rw [Addr.add_lit];exact h j v hv
theorem run_append_rows {R : World → Option Addr → Nat → Nat → List Int → Prop} (hR : SteadyV R) (t ty : TypeId) (ht : Tryz.prog.underlying t = some (.slice 39)) (w : World) (base : Nat) (ao : Option Addr) (n cap : Nat) (rs : List (List Int)) (hown : MOwn R w base ao n cap rs) (as' : Option Addr) (m c' : Nat) (ss : List (List Int)) (hsrc : RowsOf R w as' m c' ss) (hn : n + m ≤ 1000000) (hbase : base ≤ w.heap.size) :
  ∃ ao' cap' w', (Builtin.append_ #[t, t] ty #[.slice ao n cap, .slice as' m c']).run Tryz.prog w = .ok (.slice ao' (n + m) cap') w' ∧ MOwn R w' base ao' (n + m) cap' (rs ++ ss) ∧ w.grownBy w' (Value.slice ao n cap).ownBlock := by
 obtain ⟨i0, hi, hz0, hz1, hz2⟩ := info_parts info_vec;have hos := hown.onlySl;obtain ⟨us, hul, hur, huc⟩ := hsrc.list;have hown' := hown;obtain ⟨⟨vs, hrow, hall⟩, hl⟩ := hown;have hvl := hrow.len;rw [List.length_map, Nat.mul_one] at hvl;have hsl := hsrc.len_eq;by_cases hm : m = 0
 ·subst hm;have hss : ss = [] := List.eq_nil_of_length_eq_zero hsl;subst hss;cases as' with
  | none =>
   have h0 : c' = 0 := hsrc.nil_cap rfl;subst h0;exact ⟨ao, cap, w, run_append_owned_none (P := Tryz.prog) (w := w) base t ty 39 i0 1 ht hi _ n _ hrow.own, by rw [List.append_nil]; exact hown', World.grownBy.refl _ _⟩
  | some ad =>
   obtain ⟨v', w', hrun, hrow', hgr, hat⟩ := run_append_P (p := isSl) w base t ty 39 i0 (.slice none 0 0) 1 24 ht hi hz0 hz1 hz2 rfl (by decide) sl_zero _ n _ hrow ad 0 c' [] rfl (fun j u hj => by simp at hj) (fun u hu => by simp at hu) (fun u hu => by simp at hu) (by unfold maxLen; omega) (by omega) hbase;rw [List.append_nil] at hrow' ⊢;rw [Nat.add_zero] at hrow' ⊢;rcases hrow'.form with ⟨rfl, rfl⟩ | ⟨g', cap', rfl, _⟩
   ·exact ⟨none, 0, w', hrun, by rw [List.eq_nil_of_length_eq_zero hl]; exact mOwn_nil R w' base, hgr⟩
   ·exact ⟨_, _, w', hrun, ⟨⟨vs, hrow', fun i v hv => hR (hall i v hv) hgr hos⟩, hl⟩, hgr⟩
 ·obtain ⟨g, off, rfl, hg, hcell⟩ := huc (by omega);obtain ⟨v', w', hrun, hrow', hgr, hat⟩ := run_append_P (p := isSl) w base t ty 39 i0 (.slice none 0 0) 1 24 ht hi hz0 hz1 hz2 rfl (by decide) sl_zero _ n _ hrow ⟨g, off, none⟩ m c' (us.map sv) (by rw [List.length_map]; omega) (sl_at hcell) (sl_one us) (sl_all us) (by unfold maxLen; omega) (by omega) hbase;rw [← List.map_append] at hrow';rcases hrow'.form with ⟨_, h⟩ | ⟨g', cap', rfl, _⟩
  ·omega
  ·refine ⟨_, _, w', hrun, ⟨⟨vs ++ us, hrow', ?_⟩, by rw [List.length_append]; omega⟩, hgr⟩;exact both_lists (by omega) (fun i v hv => hR (hall i v hv) hgr hos) (fun i v hv => hR (hur i v hv) hgr hos)
theorem append_rows {R : World → Option Addr → Nat → Nat → List Int → Prop} (hR : SteadyV R) {w : World} {ops : Array Oper} {rest : List Oper} {o : Oper} {a : Act} {Q : Exit → Act → World → Prop} (hgd : o.guard = none) (s x : Operand) (t : TypeId) (ht : Tryz.prog.underlying t = some (.slice 39))
  (ho : o.op = .call { callee := .builtin .append, args := #[s, x], argTypes := #[t, t] }) (base : Nat) (ao : Option Addr) (n cap : Nat) (rs : List (List Int)) (hs : a.eval s = .slice ao n cap) (hown : MOwn R w base ao n cap rs) (as' : Option Addr) (m c' : Nat) (ss : List (List Int)) (hx : a.eval x = .slice as' m c') (hsrc : RowsOf R w as' m c' ss) (hn : n + m ≤ 1000000) (hbase : base ≤ w.heap.size)
  (h : ∀ ao' cap' w', MOwn R w' base ao' (n + m) cap' (rs ++ ss) → w.grownBy w' (Value.slice ao n cap).ownBlock → wpList Tryz.prog ops Q rest (a.put o.dst (.slice ao' (n + m) cap')) w') : wpList Tryz.prog ops Q (o :: rest) a w := by
 refine wpList_plain hgd fun K hK => ?_;obtain ⟨ao', cap', w', hrun, h1, h2⟩ := run_append_rows @hR t o.type ht w base ao n cap rs hown as' m c' ss hsrc hn hbase;unfold Oper.wp;simp [execOp, ho, resolve, invoke, builtin, hs, hx, hrun, Result.andThen];exact hK _ _ (h ao' cap' w' h1 h2)
theorem make_rows {R : World → Option Addr → Nat → Nat → List Int → Prop} (hR0 : ∀ w, R w none 0 0 []) {w : World} {ops : Array Oper} {rest : List Oper} {o : Oper} {a : Act} {Q : Exit → Act → World → Prop} (hg : o.guard = none) (l c : Operand) (t : TypeId) (ht : Tryz.prog.underlying t = some (.slice 39)) (hop : o.op = Op.makeSlice t l c)
  (base : Nat) (kl kc : IntKind) (L C : Int) (n : Nat) (hl : a.eval l = .int kl L) (hc : a.eval c = .int kc C) (hL : L = (n : Int)) (hC : C = (n : Int)) (hn : n ≤ 1000000) (hbase : base ≤ w.heap.size)
  (hK : ∀ w', MOwn R w' base (some ⟨w.heap.size, 0, none⟩) n n (List.replicate n []) → w.grownBy w' none → wpList Tryz.prog ops Q rest (a.put o.dst (.slice (some ⟨w.heap.size, 0, none⟩) n n)) w') :
  wpList Tryz.prog ops Q (o :: rest) a w := by
 obtain ⟨i0, hi, hz0, hz1, hz2⟩ := info_parts info_vec;refine make_P (p := isSl) hg l c t 39 i0 (.slice none 0 0) 1 24 ht hi hz0 hz1 hz2 rfl (by decide) sl_zero hop base kl kc L C n hl hc hL hC hn (by omega) hbase fun w' h1 h2 => hK w' ⟨⟨List.replicate n (none, 0, 0), ?_, fun i v hv => ?_⟩, by simp⟩ h2
 ·rw [show (List.replicate n ((none, 0, 0) : Option Addr × Nat × Nat)).map sv = (madeCells (Value.slice none 0 0).cells (n * 1)).toList by
   have e : ∀ j, ((madeCells (Value.slice none 0 0).cells (n * 1)).toList)[j]? = if j < n then some (.slice none 0 0) else none := fun j => by
    rw [Array.getElem?_toList];simp only [madeCells, Value.cells];rw [Array.getElem?_map, Array.getElem?_range];by_cases hj : j < n
    ·simp [hj, Nat.mod_one]
    ·simp [hj]
   refine List.ext_getElem? fun j => ?_;rw [e j, List.getElem?_map, List.getElem?_replicate];by_cases hj : j < n
   ·simp [hj, sv]
   ·simp [hj]]
  exact h1
 ·rw [List.getElem?_replicate] at hv
  split at hv
  ·next hin =>
   obtain rfl := Option.some.inj hv;rw [show (List.replicate n ([] : List Int)).getD i [] = [] by simp [List.getD, hin]];exact hR0 w'
  ·simp at hv
theorem MOwn.set {R : World → Option Addr → Nat → Nat → List Int → Prop} (hR : SteadyV R) {w : World} {base g n cap : Nat} {rs : List (List Int)} (h : MOwn R w base (some ⟨g, 0, none⟩) n cap rs) {i : Nat} (hi : i < n) {a : Option Addr} {l c : Nat} {zs : List Int} (hz : R w a l c zs) : MOwn R (w.setCell ⟨g, i, none⟩ (.slice a l c)) base (some ⟨g, 0, none⟩) n cap (rs.set i zs) := by
 have hos := h.onlySl;have hgr := grown_set1 w g i (.slice a l c);obtain ⟨⟨vs, hrow, hall⟩, hl⟩ := h;have hvl := hrow.len;rw [List.length_map, Nat.mul_one] at hvl;refine ⟨⟨vs.set i (a, l, c), ?_, fun j v hv => ?_⟩, by rw [List.length_set]; exact hl⟩
 ·rw [List.map_set];exact hrow.set i ⟨(a, l, c), rfl⟩
 ·by_cases e : i = j
  ·subst e;rw [List.getElem?_set_self (by omega)] at hv;obtain rfl := Option.some.inj hv;rw [show (rs.set i zs).getD i [] = zs by simp [List.getD, show i < rs.length by omega]];exact hR hz hgr hos
  ·rw [List.getElem?_set_ne e] at hv;rw [show (rs.set i zs).getD j [] = rs.getD j [] by simp [List.getD, List.getElem?_set_ne e]];exact hR (hall j v hv) hgr hos
theorem MOwn.free {R : World → Option Addr → Nat → Nat → List Int → Prop} {w : World} {base g n cap : Nat} {rs : List (List Int)} (h : MOwn R w base (some ⟨g, 0, none⟩) n cap rs) (j : Nat) : w.frozen? ⟨g, j, none⟩ = false := by
 obtain ⟨⟨vs, hrow, _⟩, _⟩ := h;exact hrow.free j
theorem MOwn.base_le {R : World → Option Addr → Nat → Nat → List Int → Prop} {w : World} {base g n cap : Nat} {rs : List (List Int)} (h : MOwn R w base (some ⟨g, 0, none⟩) n cap rs) : base ≤ g ∧ g < w.heap.size := by
 obtain ⟨⟨vs, hrow, _⟩, _⟩ := h;exact hrow.own.lt g rfl

end Go.Proofs.YtnpneloahajniaaGreat
