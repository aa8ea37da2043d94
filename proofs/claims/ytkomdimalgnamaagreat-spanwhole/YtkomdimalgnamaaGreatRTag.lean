/-
 Own rows each of which lies in a block of its own, told by tags: what append to one of them leaves of the others.
-/
import Derived.Test.YtkomdimalgnamaaGreatRVFresh2
namespace Go.Proofs.YtkomdimalgnamaaGreat
open Go.RowKit Lb
set_option maxRecDepth 20000

theorem OwnOf.kept {R : World → Bool → Option Addr → Nat → Nat → Int → Prop} (hR : Steady R) {w w' : World} {base : Nat} {ao : Option Addr} {n cap : Nat} {zs : List Int} {row : Option Nat} (h : OwnOf R w base ao n cap zs) (hg : w.grownBy w' row) (hn : ∀ g, row = some g → NoLimb w g) (hne : (Value.slice ao n cap).ownBlock = none ∨ (Value.slice ao n cap).ownBlock ≠ row) : OwnOf R w' base ao n cap zs := by
 obtain ⟨cs, hrow, hold⟩ := h.parts;have hl := h.len;have hrow' := hrow.grown hg hne;rcases hrow'.form with ⟨e, e0⟩ | ⟨g, cap', e, _⟩
 ·simp only [Value.slice.injEq] at e;obtain ⟨rfl, rfl, rfl⟩ := e;rw [List.eq_nil_of_length_eq_zero hl];exact ownOf_nil R w' base
 ·simp only [Value.slice.injEq, true_and] at e;obtain ⟨rfl, rfl⟩ := e;refine ownOf_of hrow' hl fun i hi => ?_;obtain ⟨b, a, l, c, h1, h2, h3⟩ := hold i hi;exact ⟨b, a, l, c, h1, h2, hR h3 hg hn⟩
set_option maxHeartbeats 1000000 in
theorem run_append_vecs_at {R : World → Bool → Option Addr → Nat → Nat → Int → Prop} (hR : Steady R) (t ty : TypeId) (ht : Tryz.prog.underlying t = some (.slice 44)) (w : World) (base : Nat) (ao : Option Addr) (n cap : Nat) (zs : List Int) (hown : OwnOf R w base ao n cap zs) (as' : Option Addr) (m c' : Nat) (ys : List Int) (hsrc : VecOf R w as' m c' ys) (hm : 0 < m) (hn : n + m ≤ 1000000) (hbase : base ≤ w.heap.size) :
  ∃ ao' cap' w', (Builtin.append_ #[t, t] ty #[.slice ao n cap, .slice as' m c']).run Tryz.prog w = .ok (.slice ao' (n + m) cap') w' ∧ OwnOf R w' base ao' (n + m) cap' (zs ++ ys) ∧ w.grownBy w' (Value.slice ao n cap).ownBlock ∧ ((Value.slice ao' (n + m) cap').ownBlock = (Value.slice ao n cap).ownBlock ∨ (Value.slice ao' (n + m) cap').ownBlock = some w.heap.size) := by
 obtain ⟨i0, hi, hz0, hz1, hz2⟩ := info_parts info_int;obtain ⟨cs, hrow, hold⟩ := hown.parts;have hkeep := hown.noLimb;have hl := hown.len;have hcl := hrow.own.1;obtain ⟨g, off, rfl, hg, hel⟩ := hsrc.elts (by omega);have hyl := hsrc.len_eq;have ech : ∀ i, i < m → ∃ q : Bool × Option Addr × Nat × Nat, EltAt w g (off + i * 2) q.1 q.2.1 q.2.2.1 q.2.2.2 ∧ R w q.1 q.2.1 q.2.2.1 q.2.2.2 (ys.getD i 0) := fun i hi => by
  obtain ⟨b, a, l, c, h1, h2⟩ := hel i hi;exact ⟨(b, a, l, c), h1, h2⟩
 obtain ⟨q, hq⟩ := pick_lt ech;have hec : ∀ i, i < m → (ecells ((List.range m).map q))[i * 2]? = some (.bool (q i).1) ∧ (ecells ((List.range m).map q))[i * 2 + 1]? = some (.slice (q i).2.1 (q i).2.2.1 (q i).2.2.2) := fun i hi => ecells_at (by simp [hi]);have hel2 : (ecells ((List.range m).map q)).length = m * 2 := by rw [ecells_len]; simp
 have hpair : ∀ j u, (ecells ((List.range m).map q))[j]? = some u → ∃ i, i < m ∧ ((j = i * 2 ∧ u = .bool (q i).1) ∨ (j = i * 2 + 1 ∧ u = .slice (q i).2.1 (q i).2.2.1 (q i).2.2.2)) := by
  intro j u hj;have hjl : j < m * 2 := by
   have := (List.getElem?_eq_some_iff.1 hj).1;omega
  refine ⟨j / 2, by omega, ?_⟩;obtain ⟨e1, e2⟩ := hec (j / 2) (by omega);rcases (by omega : j = j / 2 * 2 ∨ j = j / 2 * 2 + 1) with e | e
  ·rw [← e, hj] at e1;exact Or.inl ⟨e, Option.some.inj e1⟩
  ·rw [← e, hj] at e2;exact Or.inr ⟨e, Option.some.inj e2⟩
 have hmem : ∀ u ∈ ecells ((List.range m).map q), intCell u := by
  intro u hu;obtain ⟨j, hj⟩ := List.mem_iff_getElem?.1 hu;obtain ⟨i, _, ⟨_, rfl⟩ | ⟨_, rfl⟩⟩ := hpair j u hj
  ·exact Or.inl ⟨_, rfl⟩
  ·exact Or.inr ⟨_, _, _, rfl⟩
 obtain ⟨v', w', hrun, hrow', hgr, hat⟩ := run_append_P (p := intCell) w base t ty 44 i0 (.agg #[.bool false, .slice none 0 0]) 2 32 ht hi hz0 hz1 hz2 rfl (by decide) (fun u hu => by
  simp [Value.cells] at hu;rcases hu with rfl | rfl
  ·exact Or.inl ⟨_, rfl⟩
  ·exact Or.inr ⟨_, _, _, rfl⟩) _ n cs hrow ⟨g, off, none⟩ m c' (ecells ((List.range m).map q)) hel2 (fun j u hj => by
   rw [Addr.add_lit];obtain ⟨i, hi, ⟨rfl, rfl⟩ | ⟨rfl, rfl⟩⟩ := hpair j u hj
   ·exact (hq i hi).1.2.1
   ·exact (hq i hi).1.2.2) (fun u hu => by
   rcases hmem u hu with ⟨_, rfl⟩ | ⟨_, _, _, rfl⟩ <;> rfl) hmem (by unfold maxLen; omega) (by omega) hbase
 rcases hrow'.form with ⟨_, h⟩ | ⟨g', cap', rfl, _⟩
 ·omega
 ·refine ⟨_, _, w', hrun, ownOf_of hrow' (by simp [hl, hyl]) fun i hi => ?_, hgr, hat⟩;by_cases hin : i < n
  ·obtain ⟨b, a, l, c, h1, h2, h3⟩ := hold i hin;refine ⟨b, a, l, c, ?_, ?_, ?_⟩
   ·rw [List.getElem?_append_left (by omega)]; exact h1
   ·rw [List.getElem?_append_left (by omega)]; exact h2
   ·rw [show (zs ++ ys).getD i 0 = zs.getD i 0 by simp [List.getD, List.getElem?_append_left (show i < zs.length by omega)]];exact hR h3 hgr hkeep
  ·obtain ⟨e1, e2⟩ := hec (i - n) (by omega);refine ⟨(q (i - n)).1, (q (i - n)).2.1, (q (i - n)).2.2.1, (q (i - n)).2.2.2, ?_, ?_, ?_⟩
   ·rw [List.getElem?_append_right (by omega), hcl, show i * 2 - n * 2 = (i - n) * 2 by omega]; exact e1
   ·rw [List.getElem?_append_right (by omega), hcl, show i * 2 + 1 - n * 2 = (i - n) * 2 + 1 by omega]; exact e2
   ·rw [show (zs ++ ys).getD i 0 = ys.getD (i - n) 0 by simp [List.getD, List.getElem?_append_right (show zs.length ≤ i by omega), hl]];exact hR (hq (i - n) (by omega)).2 hgr hkeep
theorem step_vecs_at {R : World → Bool → Option Addr → Nat → Nat → Int → Prop} (hR : Steady R) {w : World} {ops : Array Oper} {o : Oper} {a : Act} {K : Act → World → Prop} {Q : Exit → Act → World → Prop} {E : Prop} (hgd : o.guard = none) (s x : Operand) (t : TypeId) (ht : Tryz.prog.underlying t = some (.slice 44))
  (ho : o.op = .call { callee := .builtin .append, args := #[s, x], argTypes := #[t, t] }) (base : Nat) (ao : Option Addr) (n cap : Nat) (zs : List Int) (hs : a.eval s = .slice ao n cap) (hown : OwnOf R w base ao n cap zs) (as' : Option Addr) (m c' : Nat) (ys : List Int) (hx : a.eval x = .slice as' m c') (hsrc : VecOf R w as' m c' ys) (hm : 0 < m) (hn : n + m ≤ 1000000) (hbase : base ≤ w.heap.size)
  (h : ∀ ao' cap' w', OwnOf R w' base ao' (n + m) cap' (zs ++ ys) → w.grownBy w' (Value.slice ao n cap).ownBlock → ((Value.slice ao' (n + m) cap').ownBlock = (Value.slice ao n cap).ownBlock ∨ (Value.slice ao' (n + m) cap').ownBlock = some w.heap.size) → K (a.put o.dst (.slice ao' (n + m) cap')) w') : if Region.wanted o (yielded ops a.tmps) = true then Oper.wp Tryz.prog o a w K Q else E := by
 have hw : Region.wanted o (yielded ops a.tmps) = true := by simp [Region.wanted, hgd]
 rw [if_pos hw];obtain ⟨ao', cap', w', hrun, h1, h2, h3⟩ := run_append_vecs_at (R := R) @hR t o.type ht w base ao n cap zs hown as' m c' ys hsrc hm hn hbase;unfold Oper.wp;simp [execOp, ho, resolve, invoke, builtin, hs, hx, hrun, Result.andThen];exact h ao' cap' w' h1 h2 h3
def TagR (R : World → Bool → Option Addr → Nat → Nat → Int → Prop) (base : Nat) (w : World) (a : Option Addr) (l c : Nat) (q : List Int) : Prop := ∃ t zs, q = t :: zs ∧ OwnOf R w base a l c zs ∧ ((a = none ∧ t = 0) ∨ (0 < l ∧ ∃ g : Nat, a = some ⟨g, 0, none⟩ ∧ t = (g : Int) + 1))
def TagV (base k : Nat) : World → Option Addr → Nat → Nat → List Int → Prop := TagR (fun w b a l c z => FK w b a l c z k) base
theorem ownOf_cell0 {R : World → Bool → Option Addr → Nat → Nat → Int → Prop} {w : World} {base g n cap : Nat} {zs : List Int} (h : OwnOf R w base (some ⟨g, 0, none⟩) n cap zs) (hn : 0 < n) : ∃ b, w.cell? ⟨g, 0, none⟩ = some (.bool b) := by
 obtain ⟨cs, hrow, hold⟩ := h.parts;obtain ⟨b, _, _, _, h1, _, _⟩ := hold 0 hn;exact ⟨b, (hrow.cell (j := 0) (by omega)).trans h1⟩
theorem TagR.kept {R : World → Bool → Option Addr → Nat → Nat → Int → Prop} (hR : Steady R) {base : Nat} {w w' : World} {a : Option Addr} {l c : Nat} {q : List Int} {row : Option Nat} (h : TagR R base w a l c q) (hg : w.grownBy w' row) (hn : ∀ g, row = some g → NoLimb w g) (hne : ∀ g : Nat, a = some ⟨g, 0, none⟩ → row ≠ some g) : TagR R base w' a l c q := by
 obtain ⟨t, zs, e, ho, ht⟩ := h;refine ⟨t, zs, e, OwnOf.kept (R := R) @hR ho hg hn ?_, ht⟩;rcases ht with ⟨ea, _⟩ | ⟨_, g, ea, _⟩
 ·left; rw [ea]; rfl
 ·right
  intro e2;rw [ea] at e2;exact hne g ea e2.symm
theorem steadyTagR {R : World → Bool → Option Addr → Nat → Nat → Int → Prop} (hR : Steady R) (base : Nat) : SteadyV (TagR R base) := fun {w w'} {row} {a l c zs} h hg hs => by
 have h' := h;obtain ⟨t, ys, e, ho, ht⟩ := h';refine TagR.kept (R := R) @hR h hg hs.noLimb fun g ea er => ?_;rcases ht with ⟨eb, _⟩ | ⟨hl, g', eb, _⟩
 ·rw [eb] at ea; simp at ea
 ·subst ea;obtain ⟨b, hb⟩ := ownOf_cell0 ho hl;obtain ⟨v, hv⟩ := hs g er 0 _ hb;simp [sv] at hv
theorem steadyTag (base k : Nat) : SteadyV (TagV base k) := fun h hg hs => steadyTagR (R := fun w b a l c z => FK w b a l c z k) (fun h hg hn => FK.grown h hg hn) base h hg hs
theorem TagV.za {base k : Nat} {w w' : World} {a : Option Addr} {l c : Nat} {q : List Int} (h : TagV base k w a l c q) (hb : Below w.heap.size w w') : TagV base k w' a l c q := by
 obtain ⟨t, zs, e, ho, ht⟩ := h;exact ⟨t, zs, e, OwnOf.za (R := fun w b a l c z => FK w b a l c z k) (fun h hb => h.za hb) ho hb, ht⟩
theorem MOwn.laterT {base k : Nat} {w w' : World} {b0 : Nat} {ao : Option Addr} {n cap : Nat} {rs : List (List Int)} (h : MOwn (TagV base k) w b0 ao n cap rs) (hb : Below w.heap.size w w') : MOwn (TagV base k) w' b0 ao n cap rs := MOwn.za (R := TagV base k) (fun h hb => h.za hb) h hb
theorem tag_one {base k : Nat} {w : World} {a : Option Addr} {l c : Nat} {q : List Int} (h : TagV base k w a l c q) : RowsOf (TagV base k) (w.alloc (.cells #[.slice a l c] 24)) (some ⟨w.heap.size, 0, none⟩) 1 1 [q] := by
 refine rowsOf_new (R := TagV base k) (vs := [(a, l, c)]) rfl rfl rfl (by simp) fun i a2 l2 c2 e => ?_
 match i with
 | 0 =>
  simp at e;obtain ⟨rfl, rfl, rfl⟩ := e;exact h.za (below_new w _)
 | i + 1 => simp at e
def tagOf (qs : List (List Int)) (i : Nat) : Int := (qs.getD i []).headD 0
structure TagsOf (qs : List (List Int)) (f : Nat → List Int) (m : Nat) : Prop where
 row : ∀ i, i < m → qs.getD i [] = tagOf qs i :: f i
 apart : ∀ i j, i < m → j < m → i ≠ j → tagOf qs i ≠ 0 → tagOf qs i ≠ tagOf qs j
theorem tagV_tag {R : World → Bool → Option Addr → Nat → Nat → Int → Prop} {base : Nat} {w : World} {a : Option Addr} {l c : Nat} {q : List Int} (h : TagR R base w a l c q) : 0 ≤ q.headD 0 ∧ q.headD 0 ≤ w.heap.size ∧ (0 < l → q.headD 0 ≠ 0) ∧ (q.headD 0 ≠ 0 → (base : Int) + 1 ≤ q.headD 0) := by
 obtain ⟨t, zs, rfl, ho, ht⟩ := h;show 0 ≤ t ∧ t ≤ w.heap.size ∧ (0 < l → t ≠ 0) ∧ (t ≠ 0 → (base : Int) + 1 ≤ t);rcases ht with ⟨ea, et⟩ | ⟨hl, g, ea, et⟩
 ·refine ⟨by omega, by omega, fun hp => ?_, fun e => absurd et e⟩;obtain ⟨g, e⟩ := ho.form hp;rw [ea] at e; simp at e
 ·subst ea;have h1 := ho.ge g rfl;obtain ⟨_, cs, hrow⟩ := ho;have h2 := (hrow.own.lt g rfl).2;exact ⟨by omega, by omega, fun _ => by omega, fun _ => by omega⟩
theorem mOwn_some {R : World → Option Addr → Nat → Nat → List Int → Prop} {w : World} {base : Nat} {ao : Option Addr} {n cap : Nat} {rs : List (List Int)} (h : MOwn R w base ao n cap rs) (hn : 0 < n) : ∃ g, ao = some ⟨g, 0, none⟩ := by
 obtain ⟨⟨vs, hrow, _⟩, _⟩ := h;rcases hrow.form with ⟨_, e⟩ | ⟨g, cap', e, _⟩
 ·omega
 ·simp only [Value.slice.injEq, true_and] at e;exact ⟨g, e.1⟩
theorem getD_set_self {qs : List (List Int)} {i : Nat} {q : List Int} (h : i < qs.length) : (qs.set i q).getD i [] = q := by simp [List.getD, h]
theorem getD_set_other {qs : List (List Int)} {i j : Nat} {q : List Int} (h : j ≠ i) : (qs.set i q).getD j [] = qs.getD j [] := by simp [List.getD, List.getElem?_set_ne (Ne.symm h)]
theorem tag_putR {R : World → Bool → Option Addr → Nat → Nat → Int → Prop} (hR : Steady R) {base b0 g0 n cap i : Nat} {w w1 : World} {qs : List (List Int)} {f : Nat → List Int} (h : MOwn (TagR R base) w b0 (some ⟨g0, 0, none⟩) n cap qs) (hi : i < n) (ht : TagsOf qs f n) {a : Option Addr} {l c : Nat} (hc : w.cell? ⟨g0, i, none⟩ = some (.slice a l c)) (hg : w.grownBy w1 (Value.slice a l c).ownBlock)
  {a' : Option Addr} {l' c' : Nat} {zs' : List Int} (ho : OwnOf R w1 base a' l' c' zs') (hl' : 0 < l') (hat : (Value.slice a' l' c').ownBlock = (Value.slice a l c).ownBlock ∨ (Value.slice a' l' c').ownBlock = some w.heap.size) :
  w1.cell? ⟨g0, i, none⟩ = some (.slice a l c) ∧ w1.frozen? ⟨g0, i, none⟩ = false ∧ (∀ g, (Value.slice a l c).ownBlock = some g → g0 ≠ g) ∧ OnlySl w1 (some g0) ∧ ∃ t, MOwn (TagR R base) (w1.setCell ⟨g0, i, none⟩ (.slice a' l' c')) b0 (some ⟨g0, 0, none⟩) n cap (qs.set i (t :: zs')) ∧ TagsOf (qs.set i (t :: zs')) (fun j => if j = i then zs' else f j) n := by
 have hrows := h.rows;have hos := h.onlySl;have hlen := h.len;obtain ⟨⟨vs, hrow, hall⟩, _⟩ := h;have hvl := hrow.len;rw [List.length_map, Nat.mul_one] at hvl;have hvi : vs[i]? = some (a, l, c) := by
  obtain ⟨v, hv⟩ : ∃ v, vs[i]? = some v := ⟨vs[i], List.getElem?_eq_getElem (by omega)⟩;have h1 := hrow.cell (j := i) (by omega);rw [hc, List.getElem?_map, hv] at h1;simp only [Option.map_some, Option.some.injEq, sv, Value.slice.injEq] at h1;rw [hv];obtain ⟨v1, v2, v3⟩ := v;simp only at h1;rw [h1.1, h1.2.1, h1.2.2]
 have hti := hall i _ hvi;simp only at hti;have htg : ∀ j v, vs[j]? = some v → TagR R base w v.1 v.2.1 v.2.2 (qs.getD j []) := hall;obtain ⟨t0, zs0, e0, ho0, ht0⟩ := hti;have hti0 : tagOf qs i = t0 := by unfold tagOf; rw [e0]; rfl
 have hnl : ∀ g, (Value.slice a l c).ownBlock = some g → NoLimb w g := ho0.noLimb;have hblk : ∀ g, (Value.slice a l c).ownBlock = some g → a = some ⟨g, 0, none⟩ ∧ 0 < l ∧ t0 = (g : Int) + 1 := fun g e => by
  rcases ht0 with ⟨ea, _⟩ | ⟨hl, g2, ea, et⟩
  ·rw [ea] at e; simp [Value.ownBlock] at e
  ·rw [ea] at e;simp only [Value.ownBlock, Option.some.injEq] at e;subst e;exact ⟨ea, hl, et⟩
 have hne0 : ∀ g, (Value.slice a l c).ownBlock = some g → g0 ≠ g := fun g e e2 => by
  obtain ⟨ea, hl, _⟩ := hblk g e;subst e2;subst ea;obtain ⟨b, hb⟩ := ownOf_cell0 ho0 hl;obtain ⟨v, hv⟩ := hos g0 rfl 0 _ hb;simp [sv] at hv
 have hrow1 := hrow.grown hg (Or.inr (fun e => by
  have e' : (Value.slice a l c).ownBlock = some g0 := e.symm;exact hne0 g0 e' rfl))
 have hos1 : OnlySl w1 (some g0) := fun g e j u hu => by
  simp only [Option.some.injEq] at e;subst e;exact hrow1.all g0 rfl j u hu
 have hcell1 : w1.cell? ⟨g0, i, none⟩ = some (.slice a l c) := by
  rw [hrow1.cell (j := i) (by omega), List.getElem?_map, hvi]; rfl
 have hgr2 := grown_set1 w1 g0 i (.slice a' l' c');have hsz := hg.size;obtain ⟨g', eg'⟩ := ho.form hl';have htag : TagR R base w1 a' l' c' (((g' : Int) + 1) :: zs') := ⟨_, _, rfl, ho, Or.inr ⟨hl', g', eg', rfl⟩⟩;have hob : (Value.slice a' l' c').ownBlock = some g' := by rw [eg']; rfl
 refine ⟨hcell1, hrow1.free i, hne0, hos1, (g' : Int) + 1, ⟨⟨vs.set i (a', l', c'), ?_, fun j v hv => ?_⟩, by rw [List.length_set]; exact hlen⟩, fun j hj => ?_, fun p q hp hq hpq hp0 => ?_⟩
 ·rw [List.map_set];exact hrow1.set i ⟨(a', l', c'), rfl⟩
 ·by_cases e : j = i
  ·subst e;rw [List.getElem?_set_self (by omega)] at hv;obtain rfl := Option.some.inj hv;rw [getD_set_self (by omega)];exact steadyTagR (R := R) @hR base htag hgr2 hos1
  ·rw [List.getElem?_set_ne (Ne.symm e)] at hv;rw [getD_set_other e];have hj : j < n := by
    have := (List.getElem?_eq_some_iff.1 hv).1;omega
   have htj := htg j v hv;have hap := ht.apart i j hi hj (Ne.symm e);refine steadyTagR (R := R) @hR base (TagR.kept (R := R) @hR htj hg hnl fun g ea er => ?_) hgr2 hos1;obtain ⟨_, _, et⟩ := hblk g er;obtain ⟨tj, zsj, ej, _, hj2⟩ := htj;have htj0 : tagOf qs j = tj := by unfold tagOf; rw [ej]; rfl
   rcases hj2 with ⟨eb, _⟩ | ⟨_, g2, eb, et2⟩
   ·rw [eb] at ea; simp at ea
   ·rw [eb] at ea;simp only [Option.some.injEq, Addr.mk.injEq, and_true] at ea;subst ea;exact hap (by rw [hti0]; omega) (by rw [hti0, htj0]; omega)
 ·by_cases e : j = i
  ·subst e;unfold tagOf;rw [getD_set_self (by omega), if_pos rfl]; rfl
  ·unfold tagOf;rw [getD_set_other e, if_neg e];exact ht.row j hj
 ·have hnew : ∀ q, q < n → q ≠ i → (g' : Int) + 1 ≠ tagOf qs q := fun q hq hqi e => by
   obtain ⟨v, hv⟩ : ∃ v, vs[q]? = some v := ⟨vs[q], List.getElem?_eq_getElem (by omega)⟩;have h1 := (tagV_tag (htg q v hv)).2.1;have h1' : tagOf qs q ≤ w.heap.size := h1;rcases hat with h2 | h2
   ·rw [hob] at h2;obtain ⟨_, _, et⟩ := hblk g' h2.symm;exact ht.apart i q hi hq (Ne.symm hqi) (by rw [hti0]; omega) (by rw [hti0]; omega)
   ·rw [hob] at h2;simp only [Option.some.injEq] at h2;omega
  have hat1 : ∀ q, q ≠ i → tagOf (qs.set i (((g' : Int) + 1) :: zs')) q = tagOf qs q := fun q e => by unfold tagOf; rw [getD_set_other e]
  have hat2 : tagOf (qs.set i (((g' : Int) + 1) :: zs')) i = (g' : Int) + 1 := by unfold tagOf; rw [getD_set_self (by omega)]; rfl
  by_cases e1 : p = i
  ·subst e1;rw [hat2, hat1 q (Ne.symm hpq)];exact hnew q hq (Ne.symm hpq)
  ·by_cases e2 : q = i
   ·subst e2;rw [hat2, hat1 p e1];exact fun e => hnew p hp e1 e.symm
   ·rw [hat1 p e1] at hp0 ⊢;rw [hat1 q e2];exact ht.apart p q hp hq hpq hp0
theorem ff_kept {base k b0 : Nat} {w w' : World} {ao : Option Addr} {n cap : Nat} {rs : List (List Int)} {row : Option Nat} (h : MOwn (VFF base k) w b0 ao n cap rs) (hb : base ≤ b0) (hg : w.grownBy w' row) (hn : ∀ g, row = some g → g < base ∧ NoLimb w g) : MOwn (VFF base k) w' b0 ao n cap rs := by
 have hge := h.ge;obtain ⟨⟨vs, hrow, hall⟩, hl⟩ := h;refine ⟨⟨vs, hrow.grown hg ?_, fun i v hv => ?_⟩, hl⟩
 ·by_cases e : (Value.slice ao n cap).ownBlock = none
  ·exact Or.inl e
  ·right
   intro er;obtain ⟨g, eg⟩ := Option.ne_none_iff_exists'.1 e;have h1 := hge g eg;have h2 := hn g (by rw [← er]; exact eg);omega
 ·obtain ⟨h1, h2⟩ := hall i v hv;exact ⟨h1.grown hg (fun g e => (hn g e).2) (fun g off e er => by
   have h3 := h2 g off e;have h4 := (hn g er).1;omega), h2⟩

end Go.Proofs.YtkomdimalgnamaaGreat
