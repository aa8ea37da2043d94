/-
  Vectors that the call itself made, whose elements meet R (Ints of whatever forms, or in their forms): append of vectors and of noughts, make, a store.
-/
import Derived.Test.YtdbimajopclndaaVec
import Derived.Test.YtdbimajopclndaaOwnP
import Derived.Deep.Slices
namespace Go.Proofs.Ytdbimajopclndaa
open Go.RowKit Lb

def intCell (u : Value) : Prop := (∃ b, u = .bool b) ∨ ∃ a l c, u = .slice a l c
theorem noLimb_all {w : World} {ao : Option Addr} {n cap : Nat} (h : AllP intCell w (.slice ao n cap)) : ∀ g, (Value.slice ao n cap).ownBlock = some g → NoLimb w g := by
  intro g hg j x e
  rcases h g hg j _ e with ⟨_, h⟩ | ⟨_, _, _, h⟩ <;> simp at h
/-- R goes on while blocks are written that hold no limb. -/
def Steady (R : World → Bool → Option Addr → Nat → Nat → Int → Prop) : Prop := ∀ {w w' : World} {row : Option Nat} {b a l c z}, R w b a l c z → w.grownBy w' row → (∀ g, row = some g → NoLimb w g) → R w' b a l c z
theorem steady_fk (k : Nat) : Steady (fun w b a l c z => FK w b a l c z k) := fun h hg hn => FK.grown h hg hn
theorem steady_ik (k : Nat) : Steady (fun w b a l c z => IK w b a l c z k) := fun h hg hn => IK.grown h hg hn
structure OwnOf (R : World → Bool → Option Addr → Nat → Nat → Int → Prop) (w : World) (base : Nat) (ao : Option Addr) (n cap : Nat) (zs : List Int) : Prop where
  vec : VecOf R w ao n cap zs
  own : ∃ cs, OwnP intCell w base 26 2 (.slice ao n cap) n cs
theorem ownOf_nil (R : World → Bool → Option Addr → Nat → Nat → Int → Prop) (w : World) (base : Nat) : OwnOf R w base none 0 0 [] :=
  ⟨⟨rfl, Nat.le_refl _, Nat.zero_le _, fun _ => rfl, fun h => absurd h (by omega)⟩, [], ownP_nil _ _ _ _ _⟩
/-- The literal without elements. -/
theorem ownOf_empty (R : World → Bool → Option Addr → Nat → Nat → Int → Prop) {w : World} {base n : Nat} (hn : n = w.heap.size) (hb : base ≤ w.heap.size) : OwnOf R (w.alloc (.cells #[] 26)) base (some ⟨n, 0, none⟩) 0 0 [] := by
  subst hn
  refine ⟨⟨rfl, Nat.le_refl _, Nat.zero_le _, fun e => by simp at e, fun h => absurd h (by omega)⟩, [], ⟨World.ownsRow_lit (size := 2) w #[] 0 hb (by unfold maxLen; omega) rfl, fun g hg j u hc => ?_⟩⟩
  simp only [Value.ownBlock, Option.some.injEq] at hg
  subst hg
  simp at hc
theorem OwnOf.len {R : World → Bool → Option Addr → Nat → Nat → Int → Prop} {w : World} {base : Nat} {ao : Option Addr} {n cap : Nat} {zs : List Int} (h : OwnOf R w base ao n cap zs) : zs.length = n := h.vec.len_eq
theorem OwnOf.later {R : World → Bool → Option Addr → Nat → Nat → Int → Prop} (hR : ∀ {w w' : World} {b a l c z}, R w b a l c z → Below w.heap.size w w' → R w' b a l c z) {w w' : World} {base : Nat} {ao : Option Addr} {n cap : Nat} {zs : List Int} (h : OwnOf R w base ao n cap zs) (hb : Below w.heap.size w w') : OwnOf R w' base ao n cap zs := by
  obtain ⟨h1, cs, h2⟩ := h
  exact ⟨VecOf.later (R := R) (fun h hb => hR h hb) h1 hb, cs, h2.later hb⟩
theorem OwnOf.ge {R : World → Bool → Option Addr → Nat → Nat → Int → Prop} {w : World} {base : Nat} {ao : Option Addr} {n cap : Nat} {zs : List Int} (h : OwnOf R w base ao n cap zs) : ∀ g, (Value.slice ao n cap).ownBlock = some g → base ≤ g := by
  obtain ⟨_, cs, h2⟩ := h
  exact fun g e => (h2.own.lt g e).1
theorem OwnOf.noLimb {R : World → Bool → Option Addr → Nat → Nat → Int → Prop} {w : World} {base : Nat} {ao : Option Addr} {n cap : Nat} {zs : List Int} (h : OwnOf R w base ao n cap zs) : ∀ g, (Value.slice ao n cap).ownBlock = some g → NoLimb w g := by
  obtain ⟨_, cs, h2⟩ := h
  exact noLimb_all h2.all
theorem OwnOf.form {R : World → Bool → Option Addr → Nat → Nat → Int → Prop} {w : World} {base : Nat} {ao : Option Addr} {n cap : Nat} {zs : List Int} (h : OwnOf R w base ao n cap zs) (hn : 0 < n) : ∃ g, ao = some ⟨g, 0, none⟩ := by
  obtain ⟨_, cs, h2⟩ := h
  rcases h2.form with ⟨_, h'⟩ | ⟨g, cap', hv, _⟩
  · omega
  · simp only [Value.slice.injEq] at hv
    exact ⟨g, hv.1⟩
/-- The cells of a vector of the call's own, element by element. -/
theorem OwnOf.parts {R : World → Bool → Option Addr → Nat → Nat → Int → Prop} {w : World} {base : Nat} {ao : Option Addr} {n cap : Nat} {zs : List Int} (h : OwnOf R w base ao n cap zs) : ∃ cs, OwnP intCell w base 26 2 (.slice ao n cap) n cs ∧ ∀ i, i < n → ∃ b a l c, cs[i * 2]? = some (.bool b) ∧ cs[i * 2 + 1]? = some (.slice a l c) ∧ R w b a l c (zs.getD i 0) := by
  obtain ⟨hv, cs, hrow⟩ := h
  refine ⟨cs, hrow, fun i hi => ?_⟩
  obtain ⟨g1, off1, e1, hg1, hc1⟩ := hv.elts (by omega)
  obtain ⟨b1, a1, l1, c1, h1, h2⟩ := hc1 i hi
  rcases hrow.form with ⟨_, h⟩ | ⟨g0, cap0, hv0, _⟩
  · omega
  · simp only [Value.slice.injEq, true_and] at hv0
    obtain ⟨e0, rfl⟩ := hv0
    rw [e0] at e1
    simp only [Option.some.injEq, Addr.mk.injEq, and_true] at e1
    obtain ⟨rfl, rfl⟩ := e1
    subst e0
    refine ⟨b1, a1, l1, c1, ?_, ?_, h2⟩
    · rw [← hrow.cell (j := i * 2) (by omega)]; simpa using h1.2.1
    · rw [← hrow.cell (j := i * 2 + 1) (by omega)]; simpa using h1.2.2
theorem ownOf_of {R : World → Bool → Option Addr → Nat → Nat → Int → Prop} {w : World} {base g : Nat} {n cap : Nat} {zs : List Int} {cs : List Value} (hrow : OwnP intCell w base 26 2 (.slice (some ⟨g, 0, none⟩) n cap) n cs) (hl : zs.length = n)
    (he : ∀ i, i < n → ∃ b a l c, cs[i * 2]? = some (.bool b) ∧ cs[i * 2 + 1]? = some (.slice a l c) ∧ R w b a l c (zs.getD i 0)) : OwnOf R w base (some ⟨g, 0, none⟩) n cap zs := by
  have hlt := (hrow.own.lt g rfl).2
  have hc : n ≤ cap ∧ cap ≤ maxLen := by
    rcases hrow.form with ⟨h, _⟩ | ⟨_, _, h, _, _, h3, h4⟩
    · simp at h
    · simp only [Value.slice.injEq, true_and] at h; omega
  refine ⟨⟨hl, hc.1, hc.2, fun e => by simp at e, fun _ => ⟨g, 0, rfl, hlt, fun i hi => ?_⟩⟩, cs, hrow⟩
  obtain ⟨b1, a1, l1, c1, h1, h2, h3⟩ := he i hi
  rw [Nat.zero_add]
  exact ⟨b1, a1, l1, c1, ⟨hlt, (hrow.cell (j := i * 2) (by omega)).trans h1, (hrow.cell (j := i * 2 + 1) (by omega)).trans h2⟩, h3⟩
theorem OwnV.of {w : World} {base : Nat} {ao : Option Addr} {n cap k : Nat} {zs : List Int} (h : OwnOf (fun w b a l c z => FK w b a l c z k) w base ao n cap zs) : OwnV w base ao n cap zs k := by
  have hnl := h.noLimb
  obtain ⟨h1, cs, h2⟩ := h
  exact ⟨h1, ⟨cs, h2.own⟩, fun g off e => by subst e; exact hnl g rfl⟩

theorem pick_lt {α : Type} [Inhabited α] {n : Nat} {P : Nat → α → Prop} (h : ∀ i, i < n → ∃ x, P i x) : ∃ f : Nat → α, ∀ i, i < n → P i (f i) := Deep.choose_lt h
theorem ecells_len (es : List (Bool × Option Addr × Nat × Nat)) : (ecells es).length = es.length * 2 := by
  induction es with
  | nil => rfl
  | cons e es ih => unfold ecells at *; rw [List.flatMap_cons, List.length_append, ih]; simp; omega
theorem ecells_at : ∀ {es : List (Bool × Option Addr × Nat × Nat)} {i : Nat} {e : Bool × Option Addr × Nat × Nat}, es[i]? = some e → (ecells es)[i * 2]? = some (.bool e.1) ∧ (ecells es)[i * 2 + 1]? = some (.slice e.2.1 e.2.2.1 e.2.2.2) := by
  intro es
  induction es with
  | nil => intro i e h; simp at h
  | cons x es ih =>
    intro i e h
    cases i with
    | zero => simp at h; subst h; exact ⟨rfl, rfl⟩
    | succ i =>
      have h' : es[i]? = some e := by simpa using h
      obtain ⟨e1, e2⟩ := ih h'
      have e0 : ecells (x :: es) = .bool x.1 :: .slice x.2.1 x.2.2.1 x.2.2.2 :: ecells es := rfl
      rw [e0, show (i + 1) * 2 = i * 2 + 1 + 1 by omega, show i * 2 + 1 + 1 + 1 = i * 2 + 1 + 1 + 1 from rfl]
      exact ⟨by simpa using e1, by simpa using e2⟩
set_option maxHeartbeats 1000000 in
/-- append(own vector, a vector ..). -/
theorem run_append_vecs {R : World → Bool → Option Addr → Nat → Nat → Int → Prop} (hR : Steady R) (t ty : TypeId) (ht : Try.prog.underlying t = some (.slice 26)) (w : World) (base : Nat) (ao : Option Addr) (n cap : Nat) (zs : List Int) (hown : OwnOf R w base ao n cap zs) (as' : Option Addr) (m c' : Nat) (ys : List Int) (hsrc : VecOf R w as' m c' ys) (hn : n + m ≤ 1000000) (hbase : base ≤ w.heap.size) :
    ∃ ao' cap' w', (Builtin.append_ #[t, t] ty #[.slice ao n cap, .slice as' m c']).run Try.prog w = .ok (.slice ao' (n + m) cap') w' ∧ OwnOf R w' base ao' (n + m) cap' (zs ++ ys) ∧ w.grownBy w' (Value.slice ao n cap).ownBlock := by
  obtain ⟨i0, hi, hz0, hz1, hz2⟩ := info_parts info_int
  obtain ⟨cs, hrow, hold⟩ := hown.parts
  have hkeep := hown.noLimb
  have hl := hown.len
  have hcl := hrow.own.1
  by_cases hm : m = 0
  · subst hm
    have hys : ys = [] := List.eq_nil_of_length_eq_zero hsrc.len_eq
    subst hys
    cases as' with
    | none =>
      have h0 : c' = 0 := hsrc.nil_cap rfl
      subst h0
      exact ⟨ao, cap, w, run_append_owned_none (P := Try.prog) (w := w) base t ty 26 i0 2 ht hi _ n cs hrow.own, by rw [List.append_nil]; exact hown, World.grownBy.refl _ _⟩
    | some ad =>
      obtain ⟨v', w', hrun, hrow', hgr, hat⟩ := run_append_P (p := intCell) w base t ty 26 i0 (.agg #[.bool false, .slice none 0 0]) 2 32 ht hi hz0 hz1 hz2 rfl (by decide) (fun u hu => by
        simp [Value.cells] at hu
        rcases hu with rfl | rfl
        · exact Or.inl ⟨_, rfl⟩
        · exact Or.inr ⟨_, _, _, rfl⟩) _ n cs hrow ad 0 c' [] rfl (fun j u hj => by simp at hj) (fun u hu => by simp at hu) (fun u hu => by simp at hu) (by unfold maxLen; omega) (by omega) hbase
      rw [List.append_nil] at hrow' ⊢
      rw [Nat.add_zero] at hrow' ⊢
      rcases hrow'.form with ⟨rfl, rfl⟩ | ⟨g', cap', rfl, _⟩
      · exact ⟨none, 0, w', hrun, by rw [List.eq_nil_of_length_eq_zero hl]; exact ownOf_nil R w' base, hgr⟩
      · refine ⟨_, _, w', hrun, ownOf_of hrow' hl fun i hi => ?_, hgr⟩
        obtain ⟨b, a, l, c, h1, h2, h3⟩ := hold i hi
        exact ⟨b, a, l, c, h1, h2, hR h3 hgr hkeep⟩
  · obtain ⟨g, off, rfl, hg, hel⟩ := hsrc.elts (by omega)
    have hyl := hsrc.len_eq
    have ech : ∀ i, i < m → ∃ q : Bool × Option Addr × Nat × Nat, EltAt w g (off + i * 2) q.1 q.2.1 q.2.2.1 q.2.2.2 ∧ R w q.1 q.2.1 q.2.2.1 q.2.2.2 (ys.getD i 0) := fun i hi => by
      obtain ⟨b, a, l, c, h1, h2⟩ := hel i hi
      exact ⟨(b, a, l, c), h1, h2⟩
    obtain ⟨q, hq⟩ := pick_lt ech
    have hec : ∀ i, i < m → (ecells ((List.range m).map q))[i * 2]? = some (.bool (q i).1) ∧ (ecells ((List.range m).map q))[i * 2 + 1]? = some (.slice (q i).2.1 (q i).2.2.1 (q i).2.2.2) := fun i hi => ecells_at (by simp [hi])
    have hel2 : (ecells ((List.range m).map q)).length = m * 2 := by rw [ecells_len]; simp
    have hpair : ∀ j u, (ecells ((List.range m).map q))[j]? = some u → ∃ i, i < m ∧ ((j = i * 2 ∧ u = .bool (q i).1) ∨ (j = i * 2 + 1 ∧ u = .slice (q i).2.1 (q i).2.2.1 (q i).2.2.2)) := by
      intro j u hj
      have hjl : j < m * 2 := by
        have := (List.getElem?_eq_some_iff.1 hj).1
        omega
      refine ⟨j / 2, by omega, ?_⟩
      obtain ⟨e1, e2⟩ := hec (j / 2) (by omega)
      rcases (by omega : j = j / 2 * 2 ∨ j = j / 2 * 2 + 1) with e | e
      · rw [← e, hj] at e1
        exact Or.inl ⟨e, Option.some.inj e1⟩
      · rw [← e, hj] at e2
        exact Or.inr ⟨e, Option.some.inj e2⟩
    have hmem : ∀ u ∈ ecells ((List.range m).map q), intCell u := by
      intro u hu
      obtain ⟨j, hj⟩ := List.mem_iff_getElem?.1 hu
      obtain ⟨i, _, ⟨_, rfl⟩ | ⟨_, rfl⟩⟩ := hpair j u hj
      · exact Or.inl ⟨_, rfl⟩
      · exact Or.inr ⟨_, _, _, rfl⟩
    obtain ⟨v', w', hrun, hrow', hgr, hat⟩ := run_append_P (p := intCell) w base t ty 26 i0 (.agg #[.bool false, .slice none 0 0]) 2 32 ht hi hz0 hz1 hz2 rfl (by decide) (fun u hu => by
      simp [Value.cells] at hu
      rcases hu with rfl | rfl
      · exact Or.inl ⟨_, rfl⟩
      · exact Or.inr ⟨_, _, _, rfl⟩) _ n cs hrow ⟨g, off, none⟩ m c' (ecells ((List.range m).map q)) hel2 (fun j u hj => by
        rw [Addr.add_lit]
        obtain ⟨i, hi, ⟨rfl, rfl⟩ | ⟨rfl, rfl⟩⟩ := hpair j u hj
        · exact (hq i hi).1.2.1
        · exact (hq i hi).1.2.2) (fun u hu => by
        rcases hmem u hu with ⟨_, rfl⟩ | ⟨_, _, _, rfl⟩ <;> rfl) hmem (by unfold maxLen; omega) (by omega) hbase
    rcases hrow'.form with ⟨_, h⟩ | ⟨g', cap', rfl, _⟩
    · omega
    · refine ⟨_, _, w', hrun, ownOf_of hrow' (by simp [hl, hyl]) fun i hi => ?_, hgr⟩
      by_cases hin : i < n
      · obtain ⟨b, a, l, c, h1, h2, h3⟩ := hold i hin
        refine ⟨b, a, l, c, ?_, ?_, ?_⟩
        · rw [List.getElem?_append_left (by omega)]; exact h1
        · rw [List.getElem?_append_left (by omega)]; exact h2
        · rw [show (zs ++ ys).getD i 0 = zs.getD i 0 by simp [List.getD, List.getElem?_append_left (show i < zs.length by omega)]]
          exact hR h3 hgr hkeep
      · obtain ⟨e1, e2⟩ := hec (i - n) (by omega)
        refine ⟨(q (i - n)).1, (q (i - n)).2.1, (q (i - n)).2.2.1, (q (i - n)).2.2.2, ?_, ?_, ?_⟩
        · rw [List.getElem?_append_right (by omega), hcl, show i * 2 - n * 2 = (i - n) * 2 by omega]; exact e1
        · rw [List.getElem?_append_right (by omega), hcl, show i * 2 + 1 - n * 2 = (i - n) * 2 + 1 by omega]; exact e2
        · rw [show (zs ++ ys).getD i 0 = ys.getD (i - n) 0 by simp [List.getD, List.getElem?_append_right (show zs.length ≤ i by omega), hl]]
          exact hR (hq (i - n) (by omega)).2 hgr hkeep

theorem zero_elt {q j : Nat} (hj : j < q) : (Builtin.zeroCells #[.bool false, .slice none 0 0] q).toList[j * 2]? = some (.bool false) ∧ (Builtin.zeroCells #[.bool false, .slice none 0 0] q).toList[j * 2 + 1]? = some (.slice none 0 0) := by
  refine ⟨?_, ?_⟩
  · rw [Array.getElem?_toList]
    unfold Builtin.zeroCells
    rw [Array.getElem?_map, Array.getElem?_range]
    simp [show j * 2 < q * 2 by omega]
  · rw [Array.getElem?_toList]
    unfold Builtin.zeroCells
    rw [Array.getElem?_map, Array.getElem?_range]
    simp [show j * 2 + 1 < q * 2 by omega, show (j * 2 + 1) % 2 = 1 by omega]
set_option maxHeartbeats 1000000 in
/-- append(own vector, make(api.Vec, k)...). -/
theorem run_zeros_vec {R : World → Bool → Option Addr → Nat → Nat → Int → Prop} (hR : Steady R) (hR0 : ∀ w, R w false none 0 0 0) (t tn ty : TypeId) (kn kq : IntKind) (ht : Try.prog.underlying t = some (.slice 26)) (htn : Try.prog.underlying tn = some (.int kn)) (w : World) (base : Nat) (ao : Option Addr) (n cap : Nat) (zs : List Int) (hown : OwnOf R w base ao n cap zs) (k : Nat) (hk : 0 < k) (hn : n ≤ 1000000) (hk2 : k ≤ 1000000) (hbase : base ≤ w.heap.size) :
    ∃ ao' cap' w', (Builtin.append_ #[t, tn] ty #[.slice ao n cap, .int kq (k : Int)]).run Try.prog w = .ok (.slice ao' (n + k) cap') w' ∧ OwnOf R w' base ao' (n + k) cap' (zs ++ List.replicate k 0) ∧ w.grownBy w' (Value.slice ao n cap).ownBlock := by
  obtain ⟨i0, hi, hz0, hz1, hz2⟩ := info_parts info_int
  obtain ⟨cs, hrow, hold⟩ := hown.parts
  have hkeep := hown.noLimb
  have hl := hown.len
  have hcl := hrow.own.1
  obtain ⟨v', w', hrun, hrow', hgr, hat⟩ := run_zeros_P (p := intCell) w base t tn ty 26 kn kq i0 (.agg #[.bool false, .slice none 0 0]) 2 32 ht htn hi hz0 hz1 hz2 rfl (by decide) (fun u hu => by
    simp [Value.cells] at hu
    rcases hu with rfl | rfl
    · exact Or.inl ⟨_, rfl⟩
    · exact Or.inr ⟨_, _, _, rfl⟩) (fun u hu => by
    simp [Value.cells] at hu
    rcases hu with rfl | rfl <;> rfl) _ n cs hrow k hk hn hk2 (by omega) hbase
  rcases hrow'.form with ⟨_, h⟩ | ⟨g', cap', rfl, _⟩
  · omega
  · refine ⟨_, _, w', hrun, ownOf_of hrow' (by simp [hl]) fun i hi => ?_, hgr⟩
    by_cases hin : i < n
    · obtain ⟨b, a, l, c, h1, h2, h3⟩ := hold i hin
      refine ⟨b, a, l, c, ?_, ?_, ?_⟩
      · rw [List.getElem?_append_left (by omega)]; exact h1
      · rw [List.getElem?_append_left (by omega)]; exact h2
      · rw [show (zs ++ List.replicate k (0 : Int)).getD i 0 = zs.getD i 0 by simp [List.getD, List.getElem?_append_left (show i < zs.length by omega)]]
        exact hR h3 hgr hkeep
    · obtain ⟨e1, e2⟩ := zero_elt (q := k) (j := i - n) (by omega)
      refine ⟨false, none, 0, 0, ?_, ?_, ?_⟩
      · rw [List.getElem?_append_right (by omega), hcl, show i * 2 - n * 2 = (i - n) * 2 by omega]; exact e1
      · rw [List.getElem?_append_right (by omega), hcl, show i * 2 + 1 - n * 2 = (i - n) * 2 + 1 by omega]; exact e2
      · rw [show (zs ++ List.replicate k (0 : Int)).getD i 0 = 0 by simp [List.getD, List.getElem?_append_right (show zs.length ≤ i by omega), hl, show i - n < k by omega]]
        exact hR0 w'
/-- .. in a plain region, and as steps of a region that draws its order. -/
theorem append_vecs {R : World → Bool → Option Addr → Nat → Nat → Int → Prop} (hR : Steady R) {w : World} {ops : Array Oper} {rest : List Oper} {o : Oper} {a : Act} {Q : Exit → Act → World → Prop} (hgd : o.guard = none) (s x : Operand) (t : TypeId) (ht : Try.prog.underlying t = some (.slice 26))
    (ho : o.op = .call { callee := .builtin .append, args := #[s, x], argTypes := #[t, t] }) (base : Nat) (ao : Option Addr) (n cap : Nat) (zs : List Int) (hs : a.eval s = .slice ao n cap) (hown : OwnOf R w base ao n cap zs) (as' : Option Addr) (m c' : Nat) (ys : List Int) (hx : a.eval x = .slice as' m c') (hsrc : VecOf R w as' m c' ys) (hn : n + m ≤ 1000000) (hbase : base ≤ w.heap.size)
    (h : ∀ ao' cap' w', OwnOf R w' base ao' (n + m) cap' (zs ++ ys) → w.grownBy w' (Value.slice ao n cap).ownBlock → wpList Try.prog ops Q rest (a.put o.dst (.slice ao' (n + m) cap')) w') : wpList Try.prog ops Q (o :: rest) a w := by
  refine wpList_plain hgd fun K hK => ?_
  obtain ⟨ao', cap', w', hrun, h1, h2⟩ := run_append_vecs (R := R) @hR t o.type ht w base ao n cap zs hown as' m c' ys hsrc hn hbase
  unfold Oper.wp
  simp [execOp, ho, resolve, invoke, builtin, hs, hx, hrun, Result.andThen]
  exact hK _ _ (h ao' cap' w' h1 h2)
theorem step_vecs {R : World → Bool → Option Addr → Nat → Nat → Int → Prop} (hR : Steady R) {w : World} {ops : Array Oper} {o : Oper} {a : Act} {K : Act → World → Prop} {Q : Exit → Act → World → Prop} {E : Prop} (hgd : o.guard = none) (s x : Operand) (t : TypeId) (ht : Try.prog.underlying t = some (.slice 26))
    (ho : o.op = .call { callee := .builtin .append, args := #[s, x], argTypes := #[t, t] }) (base : Nat) (ao : Option Addr) (n cap : Nat) (zs : List Int) (hs : a.eval s = .slice ao n cap) (hown : OwnOf R w base ao n cap zs) (as' : Option Addr) (m c' : Nat) (ys : List Int) (hx : a.eval x = .slice as' m c') (hsrc : VecOf R w as' m c' ys) (hn : n + m ≤ 1000000) (hbase : base ≤ w.heap.size)
    (h : ∀ ao' cap' w', OwnOf R w' base ao' (n + m) cap' (zs ++ ys) → w.grownBy w' (Value.slice ao n cap).ownBlock → K (a.put o.dst (.slice ao' (n + m) cap')) w') : if Region.wanted o (yielded ops a.tmps) = true then Oper.wp Try.prog o a w K Q else E := by
  have hw : Region.wanted o (yielded ops a.tmps) = true := by simp [Region.wanted, hgd]
  rw [if_pos hw]
  obtain ⟨ao', cap', w', hrun, h1, h2⟩ := run_append_vecs (R := R) @hR t o.type ht w base ao n cap zs hown as' m c' ys hsrc hn hbase
  unfold Oper.wp
  simp [execOp, ho, resolve, invoke, builtin, hs, hx, hrun, Result.andThen]
  exact h ao' cap' w' h1 h2
theorem step_zeros_vec {R : World → Bool → Option Addr → Nat → Nat → Int → Prop} (hR : Steady R) (hR0 : ∀ w, R w false none 0 0 0) {w : World} {ops : Array Oper} {o : Oper} {a : Act} {K : Act → World → Prop} {Q : Exit → Act → World → Prop} {E : Prop} (hgd : o.guard = none) (s x : Operand) (t tn : TypeId) (kn kq : IntKind) (ht : Try.prog.underlying t = some (.slice 26)) (htn : Try.prog.underlying tn = some (.int kn))
    (ho : o.op = .call { callee := .builtin .append, args := #[s, x], argTypes := #[t, tn] }) (base : Nat) (ao : Option Addr) (n cap : Nat) (zs : List Int) (hs : a.eval s = .slice ao n cap) (hown : OwnOf R w base ao n cap zs) (I : Int) (k : Nat) (hx : a.eval x = .int kq I) (hI : I = (k : Int)) (hk : 0 < k) (hn : n ≤ 1000000) (hk2 : k ≤ 1000000) (hbase : base ≤ w.heap.size)
    (h : ∀ ao' cap' w', OwnOf R w' base ao' (n + k) cap' (zs ++ List.replicate k 0) → w.grownBy w' (Value.slice ao n cap).ownBlock → K (a.put o.dst (.slice ao' (n + k) cap')) w') : if Region.wanted o (yielded ops a.tmps) = true then Oper.wp Try.prog o a w K Q else E := by
  subst hI
  have hw : Region.wanted o (yielded ops a.tmps) = true := by simp [Region.wanted, hgd]
  rw [if_pos hw]
  obtain ⟨ao', cap', w', hrun, h1, h2⟩ := run_zeros_vec (R := R) @hR hR0 t tn o.type kn kq ht htn w base ao n cap zs hown k hk hn hk2 hbase
  unfold Oper.wp
  simp [execOp, ho, resolve, invoke, builtin, hs, hx, hrun, Result.andThen]
  exact h ao' cap' w' h1 h2

set_option maxHeartbeats 1000000 in
/-- .. of none too. -/
theorem run_zeros_vec' {R : World → Bool → Option Addr → Nat → Nat → Int → Prop} (hR : Steady R) (hR0 : ∀ w, R w false none 0 0 0) (t tn ty : TypeId) (kn kq : IntKind) (ht : Try.prog.underlying t = some (.slice 26)) (htn : Try.prog.underlying tn = some (.int kn)) (w : World) (base : Nat) (ao : Option Addr) (n cap : Nat) (zs : List Int) (hown : OwnOf R w base ao n cap zs) (k : Nat) (hn : n ≤ 1000000) (hk2 : k ≤ 1000000) (hbase : base ≤ w.heap.size) :
    ∃ ao' cap' w', (Builtin.append_ #[t, tn] ty #[.slice ao n cap, .int kq (k : Int)]).run Try.prog w = .ok (.slice ao' (n + k) cap') w' ∧ OwnOf R w' base ao' (n + k) cap' (zs ++ List.replicate k 0) ∧ w.grownBy w' (Value.slice ao n cap).ownBlock := by
  by_cases hk0 : k = 0
  · subst hk0
    obtain ⟨i0, hi, hz0, hz1, hz2⟩ := info_parts info_int
    obtain ⟨cs, hrow, hold⟩ := hown.parts
    have hw0 : IntKind.i64.wrap 0 = 0 := by rw [IntKind.wrap_i64]; rfl
    refine ⟨ao, cap, w, ?_, by simpa using hown, World.grownBy.refl _ _⟩
    rcases hrow.form with ⟨e, rfl⟩ | ⟨g', cap', e, _, _, hnc, _⟩
    · simp only [Value.slice.injEq] at e
      obtain ⟨rfl, _, rfl⟩ := e
      simp [Builtin.append_, run_underlying ht, run_underlying htn, sizeOf, typeInfo, hi, asInt, asIntOf, hw0]
    · simp only [Value.slice.injEq, true_and] at e
      obtain ⟨rfl, rfl⟩ := e
      simp [Builtin.append_, run_underlying ht, run_underlying htn, sizeOf, typeInfo, hi, asInt, asIntOf, hw0, hnc, storeCells]
  · exact run_zeros_vec (R := R) @hR hR0 t tn ty kn kq ht htn w base ao n cap zs hown k (by omega) hn hk2 hbase
theorem zeros_vec {R : World → Bool → Option Addr → Nat → Nat → Int → Prop} (hR : Steady R) (hR0 : ∀ w, R w false none 0 0 0) {w : World} {ops : Array Oper} {rest : List Oper} {o : Oper} {a : Act} {Q : Exit → Act → World → Prop} (hgd : o.guard = none) (s x : Operand) (t tn : TypeId) (kn kq : IntKind) (ht : Try.prog.underlying t = some (.slice 26)) (htn : Try.prog.underlying tn = some (.int kn))
    (ho : o.op = .call { callee := .builtin .append, args := #[s, x], argTypes := #[t, tn] }) (base : Nat) (ao : Option Addr) (n cap : Nat) (zs : List Int) (hs : a.eval s = .slice ao n cap) (hown : OwnOf R w base ao n cap zs) (I : Int) (k : Nat) (hx : a.eval x = .int kq I) (hI : I = (k : Int)) (hn : n ≤ 1000000) (hk2 : k ≤ 1000000) (hbase : base ≤ w.heap.size)
    (h : ∀ ao' cap' w', OwnOf R w' base ao' (n + k) cap' (zs ++ List.replicate k 0) → w.grownBy w' (Value.slice ao n cap).ownBlock → wpList Try.prog ops Q rest (a.put o.dst (.slice ao' (n + k) cap')) w') : wpList Try.prog ops Q (o :: rest) a w := by
  subst hI
  refine wpList_plain hgd fun K hK => ?_
  obtain ⟨ao', cap', w', hrun, h1, h2⟩ := run_zeros_vec' (R := R) @hR hR0 t tn o.type kn kq ht htn w base ao n cap zs hown k hn hk2 hbase
  unfold Oper.wp
  simp [execOp, ho, resolve, invoke, builtin, hs, hx, hrun, Result.andThen]
  exact hK _ _ (h ao' cap' w' h1 h2)

#print axioms run_append_vecs
#print axioms run_zeros_vec
#print axioms append_vecs
#print axioms step_vecs
#print axioms step_zeros_vec
#print axioms zeros_vec
end Go.Proofs.Ytdbimajopclndaa
