/-
  Rows that the reference's elimination itself made; how its rounds end.
-/
import Derived.Test.YtjebmlogchoehaaGreatRHNum
import Derived.Test.YtjebmlogchoehaaGreatLHBase
namespace Go.Proofs.YtjebmlogchoehaaGreat
open Go.RowKit Lb
set_option maxRecDepth 20000

theorem sk_grownH {w w' : World} {b : Bool} {ao : Option Addr} {len cap k : Nat} {z : Int} {row : Option Nat} (h : SK w b ao len cap z k) (hg : w.grownBy w' row) (hn : ∀ g, row = some g → NoLimb w g) : SK w' b ao len cap z k := ⟨h.1.grown hg hn, h.2⟩
theorem steadyVH (k : Nat) : SteadyV (fun w a l c zs => VS w a l c zs k) := fun h hg hs => vecOf_kept (R := fun w b a l c z => SK w b a l c z k) (fun h hg hn => sk_grownH h hg hn) h hg hs
def RO (w : World) (base : Nat) (ao : Option Addr) (n cap : Nat) (l : List (List Int)) : Prop := MOwn (fun w a l c zs => VS w a l c zs 200000) w base ao n cap l
theorem RO.later {w w' : World} {base : Nat} {ao : Option Addr} {n cap : Nat} {l : List (List Int)} (h : RO w base ao n cap l) (hb : Below w.heap.size w w') : RO w' base ao n cap l := MOwn.later (R := fun w a l c zs => VS w a l c zs 200000) (fun h hb => VS.later h hb) h hb
theorem RO.rows {w : World} {base : Nat} {ao : Option Addr} {n cap : Nat} {l : List (List Int)} (h : RO w base ao n cap l) : MS w ao n cap l 200000 := MOwn.rows (R := fun w a l c zs => VS w a l c zs 200000) h
theorem RO.mk {w : World} {base : Nat} {ao : Option Addr} {n cap : Nat} {l : List (List Int)} (h : RO w base ao n cap l) : MK w ao n cap l 200000 := h.rows.mk
theorem RO.len {w : World} {base : Nat} {ao : Option Addr} {n cap : Nat} {l : List (List Int)} (h : RO w base ao n cap l) : l.length = n := MOwn.len (R := fun w a l c zs => VS w a l c zs 200000) h
theorem RO.free {w : World} {base g n cap : Nat} {l : List (List Int)} (h : RO w base (some ⟨g, 0, none⟩) n cap l) (j : Nat) : w.frozen? ⟨g, j, none⟩ = false := MOwn.free (R := fun w a l c zs => VS w a l c zs 200000) h j
theorem RO.base_le {w : World} {base g n cap : Nat} {l : List (List Int)} (h : RO w base (some ⟨g, 0, none⟩) n cap l) : base ≤ g ∧ g < w.heap.size := MOwn.base_le (R := fun w a l c zs => VS w a l c zs 200000) h
theorem RO.at {w : World} {base g n cap : Nat} {l : List (List Int)} (h : RO w base (some ⟨g, 0, none⟩) n cap l) {i : Nat} (hi : i < n) : ∃ a m c, w.cell? ⟨g, i, none⟩ = some (.slice a m c) ∧ VS w a m c (l.getD i []) 200000 := by
  obtain ⟨_, a, m, c, h1, h2⟩ := RowsOf.at (R := fun w a l c zs => VS w a l c zs 200000) h.rows hi
  rw [Nat.zero_add] at h1
  exact ⟨a, m, c, h1, h2⟩
theorem RO.addr {w : World} {base : Nat} {ao : Option Addr} {n cap : Nat} {l : List (List Int)} (h : RO w base ao n cap l) (hn : 0 < n) : ∃ g, ao = some ⟨g, 0, none⟩ := by
  obtain ⟨⟨vs, hrow, _⟩, _⟩ := h
  rcases hrow.own.2 with ⟨e, e0⟩ | ⟨g, c, cur, e, _⟩
  · omega
  · simp only [Value.slice.injEq, true_and] at e
    exact ⟨g, e.1⟩
theorem ro_set {w : World} {base g n cap : Nat} {l : List (List Int)} (h : RO w base (some ⟨g, 0, none⟩) n cap l) {i : Nat} (hi : i < n) {a : Option Addr} {m c : Nat} {zs : List Int} (hz : VS w a m c zs 200000) : RO (w.setCell ⟨g, i, none⟩ (.slice a m c)) base (some ⟨g, 0, none⟩) n cap (l.set i zs) := MOwn.set (R := fun w a l c zs => VS w a l c zs 200000) (steadyVH 200000) h hi hz
theorem vs_after {w : World} {base g n cap : Nat} {l : List (List Int)} (h : RO w base (some ⟨g, 0, none⟩) n cap l) {i : Nat} {v : Value} {a : Option Addr} {m c : Nat} {zs : List Int} (hz : VS w a m c zs 200000) : VS (w.setCell ⟨g, i, none⟩ v) a m c zs 200000 := steadyVH 200000 hz (grown_set1 w g i v) (MOwn.onlySl (R := fun w a l c zs => VS w a l c zs 200000) h)
theorem ro_empty {w : World} {base n : Nat} (hn : n = w.heap.size) (hb : base ≤ w.heap.size) : RO (w.alloc (.cells #[] 24)) base (some ⟨n, 0, none⟩) 0 0 [] := by
  subst hn
  refine ⟨⟨[], ⟨World.ownsRow_lit (size := 1) w #[] 0 hb (by unfold maxLen; omega) rfl, fun g hg j u hc => ?_⟩, fun i v h => by simp at h⟩, rfl⟩
  simp only [Value.ownBlock, Option.some.injEq] at hg
  subst hg
  simp at hc
theorem RO.ge {w : World} {base : Nat} {ao : Option Addr} {n cap : Nat} {l : List (List Int)} (h : RO w base ao n cap l) : ∀ g, (Value.slice ao n cap).ownBlock = some g → base ≤ g := MOwn.ge (R := fun w a l c zs => VS w a l c zs 200000) h
theorem ms_upH {w : World} {ao : Option Addr} {n cap a b : Nat} {rs : List (List Int)} (h : MS w ao n cap rs a) (hab : a ≤ b) : MS w ao n cap rs b := RowsOf.imp (R := fun w c l d zs => VS w c l d zs a) h fun h => VecOf.mono h fun _ h => ⟨h.1.up hab, Nat.le_trans h.2 hab⟩
theorem ms_ent {w : World} {ao : Option Addr} {n cap k : Nat} {rs : List (List Int)} (h : MS w ao n cap rs k) (i j : Nat) : (ent rs i j).natAbs < Bp k := by
  have h0 := Bp_pos k
  by_cases hi : i < n
  · obtain ⟨g, off, rfl⟩ := h.mk.addr (by omega)
    obtain ⟨_, a, l, c, _, hv⟩ := RowsOf.at (R := fun w a l c zs => VS w a l c zs k) h hi
    by_cases hj : j < l
    · exact hv.vk.lt hj
    · have e : ent rs i j = 0 := by
        unfold ent
        rw [List.getD_eq_getElem?_getD, List.getElem?_eq_none (by rw [hv.vk.len_eq]; omega)]; rfl
      rw [e]; simpa using h0
  · rw [ent_out (by rw [h.len_eq]; omega)]
    simpa using h0
theorem VS.lt {w : World} {ao : Option Addr} {n cap k : Nat} {zs : List Int} (h : VS w ao n cap zs k) {i : Nat} (hi : i < n) : (zs.getD i 0).natAbs < Bp k := h.vk.lt hi
/-- How a round ends: no row has a number at the place; one alone; or more. -/
def Rnd (rs l : List (List Int)) (c d n N : Nat) (pf : Nat → Nat) (aF bF : Nat → Nat) (z : Int) (b : Bool) (v : Nat) : Prop := (b = false ∧ z < 0 ∧ HBase rs l (c + 1) d n N pf aF bF) ∨ (b = false ∧ ∃ p : Nat, z = (p : Int) ∧ HStop rs l c d n N pf aF bF p) ∨ (b = true ∧ ∃ (p Φ A P : Nat), z = (p : Int) ∧ HTurn rs l c d n N pf aF bF Φ A P v p)
theorem HBase.rnd {rs l : List (List Int)} {c d n N : Nat} {pf aF bF : Nat → Nat} (h : HBase rs l c d n N pf aF bF) (hc : c < N) (hg : Grows rs n N aF bF) {z : Int} (hz : LeastIn l d c n z) : Rnd rs l c d n N pf aF bF z (decide (0 ≤ z)) (ent l z.toNat c).natAbs := by
  by_cases h0 : z < 0
  · exact Or.inl ⟨decide_eq_false (by omega), h0, h.none hc hz h0⟩
  · obtain ⟨p, rfl⟩ : ∃ p : Nat, z = (p : Int) := ⟨z.toNat, by omega⟩
    obtain ⟨Φ, A, P, v, ht⟩ := h.turn hg hz
    refine Or.inr (Or.inr ⟨decide_eq_true (by omega), p, Φ, A, P, rfl, ?_⟩)
    have e := ht.vp
    rw [Int.toNat_natCast, e]
    exact ht
theorem HInner.rnd {rs l : List (List Int)} {c d n N : Nat} {pf aF bF : Nat → Nat} {Φ A P v p : Nat} {b : Bool} (h : HInner rs l c d n N pf aF bF Φ A P v p n b) {z : Int} (hz : LeastIn l d c n z) : ∃ v', Rnd rs l c d n N pf aF bF z b v' ∧ v' < v := by
  cases b with
  | false =>
    obtain ⟨e, hs⟩ := h.stop hz
    exact ⟨0, Or.inr (Or.inl ⟨rfl, p, e, hs⟩), h.v0⟩
  | true =>
    obtain ⟨p', v', e, hlt, ht⟩ := h.next hz
    exact ⟨v', Or.inr (Or.inr ⟨rfl, p', Φ, _, _, e, ht⟩), hlt⟩
theorem swap_set (l : List (List Int)) (i p : Nat) : (l.set i (l.getD p [])).set p (l.getD i []) = swapL l i p := rfl
theorem swap_self {l : List (List Int)} {i : Nat} : swapL l i i = l := by
  unfold swapL
  rw [List.set_set]
  refine List.ext_getElem? fun j => ?_
  rw [List.getElem?_set]
  split
  · next e =>
    subst e
    split
    · next h => rw [List.getD_eq_getElem?_getD, List.getElem?_eq_getElem h]; rfl
    · next h => rw [List.getElem?_eq_none (by omega)]
  · rfl

#print axioms ro_set
#print axioms HInner.rnd
#print axioms HBase.rnd
#print axioms ms_ent
end Go.Proofs.YtjebmlogchoehaaGreat
