/-
 What limb.Cmp, whole.Sign, whole.Cmp, vec.at and vec.Cmp tell, and that no draw is taken back ('Up'): what a sort asks of its comparison (IN PARTS).
-/
import Derived.Test.YtnpneloahajniaaJF
import Derived.Deep.CutRange
import Derived.Test.YtnpneloahajniaaJH
import Derived.Sort.Statements
import Derived.Test.YtnpneloahajniaaJE
namespace Go.Proofs.Ytnpneloahajniaa
open Go.RowKit Lb
set_option maxRecDepth 20000

/-- What was there stays, and no draw is taken back. -/
structure Up (w w' : World) : Prop where
 b : Below w.heap.size w w'
 d : w.drawn ≤ w'.drawn
theorem Up.refl (w : World) : Up w w := ⟨Below.refl _ _, Nat.le_refl _⟩
theorem Up.step {w w1 w2 : World} (h : Up w w1) (k : Up w1 w2) : Up w w2 := ⟨Below.step h.b k.b, Nat.le_trans h.d k.d⟩
/-- Row i comes ahead of row j. -/
def ahead (rs : List (List Int)) (i j : Nat) : Prop := vlt (rs.getD i []) (rs.getD j []) ∨ VSame (rs.getD i []) (rs.getD j []) ∧ i < j
theorem ahead_irrefl (rs : List (List Int)) (i : Nat) : ¬ ahead rs i i := by
 rintro (h | ⟨_, h⟩)
 ·exact vlt_ne h (VSame.refl _)
 ·omega
theorem ahead_trans {rs : List (List Int)} {i j k : Nat} (h : ahead rs i j) (h' : ahead rs j k) : ahead rs i k := by
 rcases h with h | ⟨h, hi⟩ <;> rcases h' with h' | ⟨h', hj⟩
 ·exact Or.inl (vlt_trans h h')
 ·exact Or.inl (h.right h')
 ·exact Or.inl (h'.left h.symm)
 ·exact Or.inr ⟨h.trans h', by omega⟩
/-- Of the rows whose numbers qs are, each once, r is told so far. -/
structure Ded (rs : List (List Int)) (qs : List Nat) (r : List (List Int)) : Prop where
 asc : Asc r
 first : ∀ x ∈ r, IsFirst rs x
 all : ∀ q ∈ qs, ∃ y ∈ r, VSame (rs.getD q []) y
 last : ∀ q, qs.getLast? = some q → ∃ y, r.getLast? = some y ∧ VSame (rs.getD q []) y
 none : qs = [] → r = []
theorem last_mem {α : Type} {l : List α} {x : α} (h : l.getLast? = some x) : x ∈ l := List.mem_of_getLast? h
theorem asc_last {r : List (List Int)} (h : Asc r) {y : List Int} (hy : r.getLast? = some y) : ∀ z ∈ r, VSame z y ∨ vlt z y := by
 obtain ⟨p, rfl⟩ : ∃ p, r = p ++ [y] := by
  obtain ⟨p, e⟩ := List.getLast?_eq_some_iff.1 hy
  exact ⟨p, e⟩
 intro z hz
 rcases List.mem_append.1 hz with c | c
 ·exact Or.inr ((List.pairwise_append.1 h).2.2 z c y (by simp))
 ·simp at c; subst c; exact Or.inl (VSame.refl _)
theorem isFirst_at {rs : List (List Int)} {p : Nat} (hp : p < rs.length) (h : ∀ j, j < p → ¬ VSame (rs.getD j []) (rs.getD p [])) : IsFirst rs (rs.getD p []) := by
 refine ⟨rs.take p, rs.drop (p + 1), ?_, fun y hy => ?_⟩
 ·rw [show rs.getD p [] = rs[p] by simp [List.getD, hp]]
  rw [← List.drop_eq_getElem_cons hp, List.take_append_drop]
 ·obtain ⟨j, hj, e⟩ := List.getElem_of_mem hy
  have hj' : j < p := by rw [List.length_take] at hj; omega
  have e2 : rs.getD j [] = y := by
   rw [← e]
   simp [List.getD, show j < rs.length by omega]
  rw [← e2]
  exact h j hj'
theorem Ded.put {rs : List (List Int)} {qs : List Nat} {r : List (List Int)} (h : Ded rs qs r) {p : Nat} (hp : p < rs.length) (hs : ∀ q ∈ qs, ahead rs q p) (ha : ∀ j, j < rs.length → ahead rs j p → j ∈ qs) (hn : ∀ y, r.getLast? = some y → ¬ VSame y (rs.getD p [])) : Ded rs (qs ++ [p]) (r ++ [rs.getD p []]) := by
 have hlast : ∀ q, qs.getLast? = some q → vlt (rs.getD q []) (rs.getD p []) := by
  intro q hq
  rcases hs q (last_mem hq) with c | ⟨c, _⟩
  ·exact c
  ·obtain ⟨y, hy, e⟩ := h.last q hq
   exact absurd (e.symm.trans c) (hn y hy)
 have hbig : ∀ y ∈ r, vlt y (rs.getD p []) := by
  intro y hy
  cases hq : qs.getLast? with
  | none =>
   have := h.none (List.getLast?_eq_none_iff.1 hq)
   rw [this] at hy
   simp at hy
  | some q =>
   obtain ⟨z, hz, e⟩ := h.last q hq
   have hzp := (hlast q hq).left e
   rcases asc_last h.asc hz y hy with c | c
   ·exact hzp.left c.symm
   ·exact vlt_trans c hzp
 refine ⟨List.pairwise_append.2 ⟨h.asc, by simp, fun y hy z hz => ?_⟩, fun x hx => ?_, fun q hq => ?_, fun q hq => ?_, fun e => by simp at e⟩
 ·simp at hz; subst hz; exact hbig y hy
 ·rcases List.mem_append.1 hx with c | c
  ·exact h.first x c
  ·simp only [List.mem_singleton] at c
   rw [c]
   refine isFirst_at hp fun j hj e => ?_
   have hjq := ha j (by omega) (Or.inr ⟨e, hj⟩)
   obtain ⟨y, hy, ey⟩ := h.all j hjq
   exact vlt_ne (hbig y hy) (ey.symm.trans e)
 ·rcases List.mem_append.1 hq with c | c
  ·obtain ⟨y, hy, e⟩ := h.all q c
   exact ⟨y, List.mem_append.2 (Or.inl hy), e⟩
  ·simp at c; subst c; exact ⟨_, List.mem_append.2 (Or.inr (List.mem_singleton.2 rfl)), VSame.refl _⟩
 ·simp at hq
  subst hq
  exact ⟨_, by simp, VSame.refl _⟩
/-- The numbers of rows in the rows' order. -/
structure IsRank (rs : List (List Int)) (ps : List Nat) : Prop where
 perm : ps.Perm (List.range rs.length)
 asc : ps.Pairwise (ahead rs)
theorem IsRank.len {rs : List (List Int)} {ps : List Nat} (h : IsRank rs ps) : ps.length = rs.length := by rw [h.perm.length_eq, List.length_range]
theorem IsRank.lt {rs : List (List Int)} {ps : List Nat} (h : IsRank rs ps) {t : Nat} (ht : t < rs.length) : ps.getD t 0 < rs.length := by
 have hl := h.len
 have : ps.getD t 0 ∈ ps := by
  rw [show ps.getD t 0 = ps[t] by simp [List.getD, show t < ps.length by omega]]
  exact List.getElem_mem _
 have := h.perm.mem_iff.1 this
 simpa using this
theorem take_snoc {α : Type} (d : α) {ps : List α} {t : Nat} (ht : t < ps.length) : ps.take (t + 1) = ps.take t ++ [ps.getD t d] := by
 rw [List.take_add_one, show ps.getD t d = ps[t] by simp [List.getD, ht], List.getElem?_eq_getElem ht]
 rfl
theorem IsRank.put {rs : List (List Int)} {ps : List Nat} (h : IsRank rs ps) {t : Nat} (ht : t < rs.length) {r : List (List Int)} (hd : Ded rs (ps.take t) r) (hn : ∀ y, r.getLast? = some y → ¬ VSame y (rs.getD (ps.getD t 0) [])) : Ded rs (ps.take (t + 1)) (r ++ [rs.getD (ps.getD t 0) []]) := by
 have hl := h.len
 have htl : t < ps.length := by omega
 have hpt : ps.getD t 0 = ps[t] := by simp [List.getD, htl]
 have hsplit : ps = ps.take t ++ ps[t] :: ps.drop (t + 1) := by rw [← List.drop_eq_getElem_cons htl, List.take_append_drop]
 have hasc := h.asc
 rw [hsplit] at hasc
 obtain ⟨_, a2, a3⟩ := List.pairwise_append.1 hasc
 obtain ⟨b1, _⟩ := List.pairwise_cons.1 a2
 rw [take_snoc 0 htl]
 refine hd.put (h.lt ht) (fun q hq => ?_) (fun j hj hja => ?_) hn
 ·rw [hpt]; exact a3 q hq _ (List.mem_cons_self ..)
 ·rw [hpt] at hja
  have hjp : j ∈ ps := h.perm.mem_iff.2 (by simpa using hj)
  rw [hsplit] at hjp
  rcases List.mem_append.1 hjp with c | c
  ·exact c
  ·rcases List.mem_cons.1 c with c | c
   ·rw [← c] at hja; exact absurd hja (ahead_irrefl rs j)
   ·exact absurd (ahead_trans hja (b1 j c)) (ahead_irrefl rs j)
theorem IsRank.done {rs : List (List Int)} {ps : List Nat} (h : IsRank rs ps) {r : List (List Int)} (hd : Ded rs (ps.take rs.length) r) : IsSort rs r := by
 have hl := h.len
 rw [List.take_of_length_le (by omega)] at hd
 refine ⟨hd.asc, hd.first, fun x hx => ?_⟩
 obtain ⟨j, hj, e⟩ := List.getElem_of_mem hx
 obtain ⟨y, hy, e2⟩ := hd.all j (h.perm.mem_iff.2 (by simpa using hj))
 refine ⟨y, hy, ?_⟩
 rw [← e]
 rwa [show rs.getD j [] = rs[j] by simp [List.getD, hj]] at e2

/-
 What formed, Normal, Form and longest of package rows tell (IN PARTS).
-/

/-- What is asked of a row in one way is asked of it in another. -/
theorem RowsOf.imp {R R' : World → Option Addr → Nat → Nat → List Int → Prop} {w : World} {ao : Option Addr} {n cap : Nat} {rs : List (List Int)} (h : RowsOf R w ao n cap rs) (hi : ∀ {a l c zs}, R w a l c zs → R' w a l c zs) : RowsOf R' w ao n cap rs := by
 refine ⟨h.len_eq, h.cap_le, h.cap_max, h.nil_cap, fun hp => ?_⟩
 obtain ⟨g, off, e, hg, hc⟩ := h.elts hp
 refine ⟨g, off, e, hg, fun i hi' => ?_⟩
 obtain ⟨a, l, c, h1, h2⟩ := hc i hi'
 exact ⟨a, l, c, h1, hi h2⟩
/-- Rows whose numbers have no more limbs than k. -/
def MS (w : World) (ao : Option Addr) (n cap : Nat) (rs : List (List Int)) (k : Nat) : Prop := RowsOf (fun w a l c zs => VS w a l c zs k) w ao n cap rs
theorem MS.later {w w' : World} {ao : Option Addr} {n cap k : Nat} {rs : List (List Int)} (h : MS w ao n cap rs k) (hb : Below w.heap.size w w') : MS w' ao n cap rs k := RowsOf.later (R := fun w a l c zs => VS w a l c zs k) (fun h hb => VS.later h hb) h hb
theorem MS.mk {w : World} {ao : Option Addr} {n cap k : Nat} {rs : List (List Int)} (h : MS w ao n cap rs k) : MK w ao n cap rs k := RowsOf.imp (R := fun w a l c zs => VS w a l c zs k) h fun h => h.vk
theorem MF.ms {w : World} {ao : Option Addr} {n cap k : Nat} {rs : List (List Int)} (h : MF w ao n cap rs k) (hk : k ≤ 999990) : MS w ao n cap rs k := RowsOf.imp (R := fun w a l c zs => VF w a l c zs k) h fun h => h.vs hk
theorem MF.mk {w : World} {ao : Option Addr} {n cap k : Nat} {rs : List (List Int)} (h : MF w ao n cap rs k) (hk : k ≤ 999990) : MK w ao n cap rs k := (h.ms hk).mk
/-- Rows of which the lengths alone are told. -/
def ML (w : World) (ao : Option Addr) (n cap : Nat) (rs : List (List Int)) : Prop := RowsOf (fun _ _ l _ zs => zs.length = l ∧ l ≤ maxLen) w ao n cap rs
theorem ML.later {w w' : World} {ao : Option Addr} {n cap : Nat} {rs : List (List Int)} (h : ML w ao n cap rs) (hb : Below w.heap.size w w') : ML w' ao n cap rs := RowsOf.later (R := fun _ _ l _ zs => zs.length = l ∧ l ≤ maxLen) (fun h _ => h) h hb
theorem MK.ml {w : World} {ao : Option Addr} {n cap k : Nat} {rs : List (List Int)} (h : MK w ao n cap rs k) : ML w ao n cap rs := RowsOf.imp (R := fun w a l c zs => VK w a l c zs k) h fun h => ⟨h.len_eq, Nat.le_trans h.cap_le h.cap_max⟩
theorem MF.ml {w : World} {ao : Option Addr} {n cap k : Nat} {rs : List (List Int)} (h : MF w ao n cap rs k) : ML w ao n cap rs := RowsOf.imp (R := fun w a l c zs => VF w a l c zs k) h fun h => ⟨h.len_eq, Nat.le_trans h.cap_le h.cap_max⟩
theorem vk_nil (w : World) (k : Nat) : VK w none 0 0 [] k := ⟨rfl, Nat.le_refl _, Nat.zero_le _, fun _ => rfl, fun h => absurd h (by omega)⟩
set_option maxHeartbeats 1600000 in
theorem formedK (ao : Option Addr) (n cap : Nat) (zs : List Int) (k : Nat) (w : World) (h : VK w ao n cap zs k) (hn : n ≤ 1000000) :
  Calls Try.prog 99 #[.slice ao n cap] w fun e w' => ∃ a1 c1, e = .returned (.slice a1 n c1) ∧ VF w' a1 n c1 zs k ∧ Below w.heap.size w w' := by
 have HL := hide h.len_eq
 go_enter Try.func99, Try.ntmps99
 have HB := hide (Below.refl w.heap.size w)
 go_wp2_with (at_make; refine make_vec rfl _ _ 32 Try.underlying32 rfl w.heap.size .i64 .i64 _ _ n k rfl rfl (by omega) (by omega) (by omega) (by omega) ?_)
 intro w2 hown hgrow
 have hbg : Below w.heap.size w w2 := (Below.refl _ _).grown hgrow (Nat.le_refl _) (fun _ h => by simp at h)
 replace HB := hide (Below.step (unhide HB) hbg)
 clear hgrow hbg
 obtain ⟨gv, egv⟩ : ∃ gv, gv = w.heap.size := ⟨_, rfl⟩
 rw [show (some ⟨w.heap.size, 0, none⟩ : Option Addr) = some ⟨gv, 0, none⟩ by rw [egv]] at hown ⊢
 clear egv
 go_wp2_with fail
 go_loopw [11] (fun t wr => ∃ (i : Nat) (ps : List Int), i ≤ n ∧ t = .int .i64 (i : Int) ∧ OwnV wr w.heap.size (some ⟨gv, 0, none⟩) n n ps k ∧ (∀ j, j < i → ps.getD j 0 = zs.getD j 0) ∧ Below w.heap.size w wr) (fun t _ => n - (intOf t).toNat)
 case atStart => exact ⟨0, _, Nat.zero_le _, rfl, hown, fun j hj => absurd hj (by omega), unhide HB⟩
 case round =>
  clear hown HB
  obtain ⟨i, ps, hi, rfl, hv, hall, hB⟩ := hrel
  have HA := hide hall
  clear hall
  have HB := hide hB
  clear hB
  by_cases hlt : i < n
  ·obtain ⟨g, off, rfl⟩ := h.some (by omega)
   obtain ⟨b2, a2, l2, c2, he, hy⟩ := (h.later (unhide HB)).at hlt
   obtain ⟨f1, f2⟩ := he.facts
   have hg1 := he.1
   go_wp2_with fail
   obtain ⟨W2, hW2⟩ : ∃ W2, W2 = wr.alloc (.cells #[.bool b2, .slice a2 l2 c2] 38) := ⟨_, rfl⟩
   obtain ⟨D0, hb1⟩ := boxes1 wr b2 a2 l2 c2 hW2
   rw [← hW2]
   clear hW2 f1 f2 he D0
   replace hv := hv.later hb1
   replace hy := hy.later hb1
   replace HB := hide (Below.step (unhide HB) hb1)
   clear hb1
   refine (formK b2 a2 l2 c2 (zs.getD i 0) k _ hy).mono ?_
   rintro e w5 ⟨b5, a5, l5, c5, rfl, h5, hb1⟩
   replace hv := hv.later hb1
   replace HB := hide (Below.step (unhide HB) hb1)
   clear hb1 hy
   obtain ⟨b6, a6, l6, c6, he6, _⟩ := hv.vf.at (show i < n by omega)
   rw [Nat.zero_add] at he6
   obtain ⟨q1, q2⟩ := he6.facts
   have q3 := hv.free (i * 2)
   have q4 := hv.free (i * 2 + 1)
   have hbl := hv.base_le
   go_wp2
   go_roundw
   case rel =>
    refine ⟨i + 1, ps.set i (zs.getD i 0), by omega, by go_num, hv.set (by omega) h5, put_each (f := fun j => zs.getD j 0) (by rw [hv.len]; omega) (unhide HA), ?_⟩
    exact ((unhide HB).setCell (by simpa using hbl.1) _).setCell (by simpa using hbl.1) _
   case measure => simp [intOf]; omega
  ·have hin : i = n := by omega
   subst hin
   have hps : ps = zs := vec_ext (by rw [hv.len, unhide HL]) fun j hj => unhide HA j (by rw [hv.len] at hj; exact hj)
   subst hps
   go_wp2
   go_ret
   exact ⟨_, _, rfl, hv.vf, unhide HB⟩

set_option maxHeartbeats 1000000 in
theorem normalK (ao : Option Addr) (n cap : Nat) (zs : List Int) (k : Nat) (w : World) (h : VK w ao n cap zs k) (hk : k ≤ 900000) (hn : n ≤ 1000000) :
  Calls Try.prog 91 #[.slice ao n cap] w fun e w' => ∃ a1 c1, e = .returned (.slice a1 n c1) ∧ VF w' a1 n c1 (vnormal zs) k ∧ Below w.heap.size w w' := by
 go_enter Try.func91, Try.ntmps91
 go_wp2_with fail
 refine (vcmpK _ _ _ zs k _ _ _ [] 0 _ h (vk_nil w 0) hk (by omega) hn (by omega)).mono ?_
 rintro e w1 ⟨c, rfl, hc, hc1, hc2, hb1⟩
 by_cases hlt : c < 0
 ·have HN := hide (normal_neg (hc.lt_iff.1 hlt))
  clear hc
  go_wp2_with fail
  refine (vnegK _ _ _ zs k _ (h.later hb1) hn).mono ?_
  rintro e w2 ⟨a1, c1, rfl, h1, hb2⟩
  go_wp2
  go_ret
  exact ⟨_, _, rfl, by rw [unhide HN]; exact h1, Below.step hb1 hb2⟩
 ·have HN := hide (show vnormal zs = zs by
   rcases normal_cases zs with ⟨t, _⟩ | ⟨_, e⟩ | ⟨_, e⟩
   ·exact absurd (hc.lt_iff.2 t) hlt
   ·exact e
   ·exact e)
  clear hc
  go_wp2_with fail
  refine (formedK _ _ _ zs k _ (h.later hb1) hn).mono ?_
  rintro e w2 ⟨a1, c1, rfl, h1, hb2⟩
  go_wp2
  go_ret
  exact ⟨_, _, rfl, by rw [unhide HN]; exact h1, Below.step hb1 hb2⟩

/-- Has each row n places, and is n 1 to 64? -/
def rform (rs : List (List Int)) (n : Int) : Bool := decide (1 ≤ n ∧ n ≤ 64) && rs.all fun r => decide ((r.length : Int) = n)
theorem rform_out {rs : List (List Int)} {n : Int} (h : ¬ (1 ≤ n ∧ n ≤ 64)) : rform rs n = false := by unfold rform; rw [decide_eq_false h]; rfl
theorem rform_no {rs : List (List Int)} {n : Int} {i : Nat} (hi : i < rs.length) (h : ((rs.getD i []).length : Int) ≠ n) : rform rs n = false := by
 unfold rform
 rw [Bool.and_eq_false_iff]
 refine Or.inr ?_
 rw [List.all_eq_false]
 refine ⟨rs[i], List.getElem_mem hi, ?_⟩
 rw [show rs.getD i [] = rs[i] by simp [List.getD, hi]] at h
 simpa using h
theorem rform_yes {rs : List (List Int)} {n : Int} (h0 : 1 ≤ n ∧ n ≤ 64) (h : ∀ i, i < rs.length → ((rs.getD i []).length : Int) = n) : rform rs n = true := by
 unfold rform
 rw [decide_eq_true h0, Bool.true_and, List.all_eq_true]
 intro r hr
 obtain ⟨i, hi, e⟩ := List.getElem_of_mem hr
 have := h i hi
 rw [show rs.getD i [] = rs[i] by simp [List.getD, hi], e] at this
 simpa using this
set_option maxHeartbeats 1600000 in
theorem rowsFormK (ao : Option Addr) (n cap : Nat) (rs : List (List Int)) (m : Int) (w : World) (h : ML w ao n cap rs) (hm : -9223372036854775808 ≤ m ∧ m ≤ 9223372036854775807) (q : Bool) (hq : rform rs m = q) :
  Calls Try.prog 20 #[.slice ao n cap, .int .i64 m] w fun e w' => e = .returned (.bool q) ∧ Below w.heap.size w w' := by
 have hmn := Nat.le_trans h.cap_le h.cap_max
 unfold maxLen at hmn
 have HL := hide h.len_eq
 have HQ := hide hq
 clear hq
 by_cases h1 : m < 1
 ·obtain rfl : q = false := by rw [← unhide HQ]; exact rform_out (by omega)
  have h1' : decide (m < 1) = true := decide_eq_true h1
  go_enter Try.func20, Try.ntmps20
  go_wp2
  go_ret
  exact ⟨rfl, Below.refl _ _⟩
 by_cases h2 : 64 < m
 ·obtain rfl : q = false := by rw [← unhide HQ]; exact rform_out (by omega)
  have h1' : decide (m < 1) = false := decide_eq_false h1
  have h2' : decide (64 < m) = true := decide_eq_true h2
  go_enter Try.func20, Try.ntmps20
  go_wp2
  go_ret
  exact ⟨rfl, Below.refl _ _⟩
 have h1' : decide (m < 1) = false := decide_eq_false h1
 have h2' : decide (64 < m) = false := decide_eq_false h2
 go_enter Try.func20, Try.ntmps20
 go_wp2_with fail
 go_loopw [15] (fun t wr => ∃ i : Nat, i ≤ n ∧ t = .int .i64 (i : Int) ∧ (∀ j, j < i → ((rs.getD j []).length : Int) = m) ∧ Below w.heap.size w wr) (fun t _ => n - (intOf t).toNat)
 case atStart => exact ⟨0, Nat.zero_le _, rfl, fun j hj => absurd hj (by omega), Below.refl _ _⟩
 case round =>
  obtain ⟨i, hi, rfl, hall, hB⟩ := hrel
  have HA := hide hall
  clear hall
  by_cases hlt : i < n
  ·obtain ⟨g, off, rfl⟩ := h.addr (by omega)
   obtain ⟨hg, a2, l2, c2, hc, hv, hl2⟩ := RowsOf.at (R := fun _ _ l _ zs => zs.length = l ∧ l ≤ maxLen) h hlt
   unfold maxLen at hl2
   have f1 := (hB.cell (p := ⟨g, off + i, none⟩) hg).trans hc
   have hgr := Nat.lt_of_lt_of_le hg hB.size
   have HV := hide hv
   clear hc hv
   by_cases he : (l2 : Int) = m
   ·have he' : ((l2 : Int) != m) = false := by simp [he]
    have HE := hide he
    clear he
    go_wp2
    go_roundw
    case rel =>
     refine ⟨i + 1, by omega, by go_num, fun j hj => ?_, hB⟩
     by_cases e : j = i
     ·subst e; rw [unhide HV]; exact unhide HE
     ·exact unhide HA j (by omega)
    case measure => simp [intOf]; omega
   ·have he' : ((l2 : Int) != m) = true := by simp [he]
    obtain rfl : q = false := by rw [← unhide HQ]; exact rform_no (i := i) (by rw [unhide HL]; exact hlt) (by rw [unhide HV]; exact he)
    clear he
    go_wp2
    go_ret
    exact ⟨rfl, hB⟩
  ·have hin : i = n := by omega
   subst hin
   obtain rfl : q = true := by rw [← unhide HQ]; exact rform_yes (by omega) fun j hj => unhide HA j (by rw [unhide HL] at hj; exact hj)
   go_wp2
   go_ret
   exact ⟨rfl, hB⟩

theorem longest_take {rs : List (List Int)} {i : Nat} (hi : i < rs.length) : longest (rs.take (i + 1)) = max (longest (rs.take i)) (rs.getD i []).length := by
 rw [List.take_add_one, List.getElem?_eq_getElem hi, show rs.getD i [] = rs[i] by simp [List.getD, hi]]
 exact longest_snoc _ _
theorem longest_le {rs : List (List Int)} {m : Nat} (h : ∀ r ∈ rs, r.length ≤ m) : longest rs ≤ m := by
 unfold longest
 have : ∀ (l : List (List Int)) (k : Nat), k ≤ m → (∀ r ∈ l, r.length ≤ m) → l.foldl (fun m r => max m r.length) k ≤ m := by
  intro l
  induction l with
  | nil => exact fun k hk _ => hk
  | cons r t ih =>
   intro k hk hl
   rw [List.foldl_cons]
   have := hl r (by simp)
   exact ih _ (by omega) fun x hx => hl x (List.mem_cons_of_mem _ hx)
 exact this rs 0 (Nat.zero_le _) h
set_option maxHeartbeats 1600000 in
theorem longestK (ao : Option Addr) (n cap : Nat) (rs : List (List Int)) (w : World) (h : ML w ao n cap rs) :
  Calls Try.prog 101 #[.slice ao n cap] w fun e w' => e = .returned (.int .i64 (longest rs : Int)) ∧ Below w.heap.size w w' := by
 have hmn := Nat.le_trans h.cap_le h.cap_max
 unfold maxLen at hmn
 have HL := hide h.len_eq
 go_enter Try.func101, Try.ntmps101
 go_wp2_with fail
 go_loopw [3, 8] (fun m t wr => ∃ (i M : Nat), i ≤ n ∧ t = .int .i64 (i : Int) ∧ m = .int .i64 (M : Int) ∧ M = longest (rs.take i) ∧ M ≤ 9223372036854775807 ∧ Below w.heap.size w wr) (fun _ t _ => n - (intOf t).toNat)
 case atStart => exact ⟨0, 0, Nat.zero_le _, rfl, rfl, rfl, by omega, Below.refl _ _⟩
 case round =>
  obtain ⟨i, M, hi, rfl, rfl, hM, hMl, hB⟩ := hrel
  have HM := hide hM
  clear hM
  by_cases hlt : i < n
  ·obtain ⟨g, off, rfl⟩ := h.addr (by omega)
   obtain ⟨hg, a2, l2, c2, hc, hv, hl2⟩ := RowsOf.at (R := fun _ _ l _ zs => zs.length = l ∧ l ≤ maxLen) h hlt
   unfold maxLen at hl2
   have f1 := (hB.cell (p := ⟨g, off + i, none⟩) hg).trans hc
   have hgr := Nat.lt_of_lt_of_le hg hB.size
   have HV := hide hv
   clear hc hv
   have hmax := max_len M l2
   obtain ⟨X, eX⟩ : ∃ X, X = max M l2 := ⟨_, rfl⟩
   rw [← eX] at hmax
   have hXl : X ≤ 9223372036854775807 := by omega
   have EX := hide eX
   clear eX
   go_wp2
   go_roundw
   case rel => exact ⟨i + 1, X, by omega, by go_num, rfl, by rw [longest_take (by rw [unhide HL]; exact hlt), ← unhide HM, unhide HV]; exact unhide EX, hXl, hB⟩
   case measure => simp [intOf]; omega
  ·have hin : i = n := by omega
   subst hin
   rw [List.take_of_length_le (by rw [unhide HL]; exact Nat.le_refl _)] at HM
   go_wp2
   go_ret
   exact ⟨by rw [unhide HM]; rfl, hB⟩

/-
 Rows of vectors in their forms that the call itself made ('MO'): append of one row, what stood ahead of it stays; the literal without rows (IN PARTS).
-/

/-- Rows of vectors in their forms, below k limbs, that the call itself made. -/
def MO (w : World) (base : Nat) (ao : Option Addr) (n cap : Nat) (rs : List (List Int)) (k : Nat) : Prop := MOwn (fun w a l c zs => VF w a l c zs k) w base ao n cap rs
theorem MO.later {w w' : World} {base : Nat} {ao : Option Addr} {n cap k : Nat} {rs : List (List Int)} (h : MO w base ao n cap rs k) (hb : Below w.heap.size w w') : MO w' base ao n cap rs k := MOwn.later (R := fun w a l c zs => VF w a l c zs k) (fun h hb => VF.later h hb) h hb
theorem MO.mf {w : World} {base : Nat} {ao : Option Addr} {n cap k : Nat} {rs : List (List Int)} (h : MO w base ao n cap rs k) : MF w ao n cap rs k := MOwn.rows (R := fun w a l c zs => VF w a l c zs k) h
theorem MO.len {w : World} {base : Nat} {ao : Option Addr} {n cap k : Nat} {rs : List (List Int)} (h : MO w base ao n cap rs k) : rs.length = n := MOwn.len (R := fun w a l c zs => VF w a l c zs k) h
theorem MO.ge {w : World} {base : Nat} {ao : Option Addr} {n cap k : Nat} {rs : List (List Int)} (h : MO w base ao n cap rs k) : ∀ g, (Value.slice ao n cap).ownBlock = some g → base ≤ g := MOwn.ge (R := fun w a l c zs => VF w a l c zs k) h
theorem mo_nil (w : World) (base k : Nat) : MO w base none 0 0 [] k := mOwn_nil _ w base
theorem MOwn.lower {R : World → Option Addr → Nat → Nat → List Int → Prop} {w : World} {base b : Nat} {ao : Option Addr} {n cap : Nat} {rs : List (List Int)} (h : MOwn R w base ao n cap rs) (hb : b ≤ base) : MOwn R w b ao n cap rs := by
 obtain ⟨⟨vs, hrow, hall⟩, hl⟩ := h
 refine ⟨⟨vs, ⟨⟨hrow.own.1, ?_⟩, hrow.all⟩, hall⟩, hl⟩
 rcases hrow.own.2 with h | ⟨g, c, cur, h1, h2, h3⟩
 ·exact Or.inl h
 ·exact Or.inr ⟨g, c, cur, h1, Nat.le_trans hb h2, h3⟩
theorem MO.lower {w : World} {base b : Nat} {ao : Option Addr} {n cap k : Nat} {rs : List (List Int)} (h : MO w base ao n cap rs k) (hb : b ≤ base) : MO w b ao n cap rs k := MOwn.lower (R := fun w a l c zs => VF w a l c zs k) h hb
/-- One row that was just built. -/
theorem mf_one {w : World} {a : Option Addr} {l c k : Nat} {zs : List Int} (h : VF w a l c zs k) : MF (w.alloc (.cells #[.slice a l c] 32)) (some ⟨w.heap.size, 0, none⟩) 1 1 [zs] k := by
 refine rowsOf_new (R := fun w a l c zs => VF w a l c zs k) (vs := [(a, l, c)]) rfl rfl rfl (by simp) fun i a' l' c' e => ?_
 match i with
 | 0 =>
  simp at e
  obtain ⟨rfl, rfl, rfl⟩ := e
  exact h.later (below_new w _)
theorem steadyMO (k : Nat) : SteadyV (fun w a l c zs => VF w a l c zs k) := steadyV_vf k

/-
 What Mul, Turn and Product of package rows tell, and column and weighed, by which they go (IN PARTS).
-/

theorem vf_up {w : World} {ao : Option Addr} {n cap k l : Nat} {zs : List Int} (h : VF w ao n cap zs k) (hl : k ≤ l) : VF w ao n cap zs l := VecOf.mono h (fun _ h => h.up hl)
theorem zerosR_at (n j : Nat) : (List.replicate n (0 : Int)).getD j 0 = 0 := by
 rcases Nat.lt_or_ge j n with c | c
 ·simp [List.getD, c]
 ·exact getD_out (by simp; exact c)
theorem put_row {ss : List (List Int)} {i : Nat} {f : Nat → List Int} (hi : i < ss.length) (h : ∀ j, j < i → ss.getD j [] = f j) : ∀ j, j < i + 1 → (ss.set i (f i)).getD j [] = f j := by
 intro j hj
 by_cases e : j = i
 ·subst e
  simp [List.getD, hi]
 ·rw [show (ss.set i (f i)).getD j [] = ss.getD j [] by simp [List.getD, List.getElem?_set_ne (Ne.symm e)]]
  exact h j (by omega)
theorem rows_of {ss : List (List Int)} {n : Nat} {f : Nat → List Int} (hl : ss.length = n) (h : ∀ j, j < n → ss.getD j [] = f j) : ss = (List.range n).map f := by
 refine List.ext_getElem (by rw [List.length_map, List.length_range, hl]) fun i h1 h2 => ?_
 have := h i (by omega)
 rw [show ss.getD i [] = ss[i] by simp [List.getD, h1]] at this
 rw [this]
 simp
/-- The sum so far. -/
def wsum (zs : List Int) (rs : List (List Int)) (m t : Nat) : List Int := (List.range m).map fun j => sumN t fun i => zs.getD i 0 * (rs.getD i []).getD j 0
theorem wsum_len (zs : List Int) (rs : List (List Int)) (m t : Nat) : (wsum zs rs m t).length = m := by simp [wsum]
theorem wsum_zero (zs : List Int) (rs : List (List Int)) (m : Nat) : wsum zs rs m 0 = List.replicate m 0 := by
 refine vec_ext (by simp [wsum]) fun j hj => ?_
 rw [wsum_len] at hj
 unfold wsum
 rw [getD_range _ hj, zerosR_at]
 rfl
theorem wsum_add {zs : List Int} {rs : List (List Int)} {m i : Nat} (h : (rs.getD i []).length ≤ m) : vadd (wsum zs rs m i) (vtimes (rs.getD i []) (zs.getD i 0)) = wsum zs rs m (i + 1) := by
 refine vec_ext (by rw [vadd_len, wsum_len, wsum_len, vtimes_len]; omega) fun j hj => ?_
 rw [vadd_len, wsum_len, vtimes_len] at hj
 rw [vadd_at, vtimes_at]
 unfold wsum
 rw [getD_range _ (by omega), getD_range _ (by omega), sumN, Int.mul_comm]
theorem wsum_skip {zs : List Int} {rs : List (List Int)} {m i : Nat} (h : zs.getD i 0 = 0) : wsum zs rs m i = wsum zs rs m (i + 1) := by
 unfold wsum
 refine List.map_congr_left fun j _ => ?_
 rw [sumN, h, Int.zero_mul, Int.add_zero]
theorem wsum_all {zs : List Int} {rs : List (List Int)} {n n' : Nat} (hz : zs.length = n) (hr : rs.length = n') : wsum zs rs (longest rs) (min n n') = vprod zs rs := by
 refine vec_ext (by rw [wsum_len, vprod_len]) fun j hj => ?_
 rw [wsum_len] at hj
 rw [vprod_at]
 unfold wsum
 rw [getD_range _ hj, hr]
 refine (sumN_upto (fun i hi => ?_) (by omega)).symm
 by_cases c : zs.length ≤ i
 ·rw [getD_out c, Int.zero_mul]
 ·rw [show rs.getD i [] = [] by simp [List.getD, List.getElem?_eq_none (show rs.length ≤ i by omega)]]
  simp
set_option maxRecDepth 20000 in
set_option maxHeartbeats 2000000 in
theorem weighedK (ao : Option Addr) (n cap : Nat) (zs : List Int) (k1 : Nat) (ap : Option Addr) (n' cp : Nat) (rs : List (List Int)) (k2 M : Nat) (w : World) (h : VK w ao n cap zs k1) (h' : MK w ap n' cp rs k2) (hk : k1 ≤ 200000) (hl : k2 ≤ 200000) (hr : ∀ i, (rs.getD i []).length ≤ M) (hM : M ≤ 1000000) (hn : n ≤ 1000000) (hn' : n' ≤ 100000) :
  Calls Try.prog 102 #[.slice ao n cap, .slice ap n' cp, .int .i64 (longest rs : Int)] w fun e w' => ∃ a1 c1, e = .returned (.slice a1 (longest rs) c1) ∧ VF w' a1 (longest rs) c1 (vprod zs rs) (k1 + k2 + n') ∧ Below w.heap.size w w' := by
 have hmin := min_len n n'
 have HE := hide (wsum_all h.len_eq h'.len_eq)
 have hlo : longest rs ≤ M := longest_le fun r hx => by
  obtain ⟨i, hi, e⟩ := List.getElem_of_mem hx
  have := hr i
  rwa [show rs.getD i [] = rs[i] by simp [List.getD, hi], e] at this
 have hrl : ∀ i, i < rs.length → (rs.getD i []).length ≤ longest rs := fun i hi => longest_ge rs 0 i hi
 rw [h'.len_eq] at hrl
 obtain ⟨m, em⟩ : ∃ m, m = longest rs := ⟨_, rfl⟩
 rw [← em] at hlo HE hrl ⊢
 have HR := hide hrl
 obtain ⟨q, eq⟩ : ∃ q, q = min n n' := ⟨_, rfl⟩
 rw [← eq] at hmin HE
 have hqn : q ≤ n := by omega
 have hqn' : q ≤ n' := by omega
 clear em eq hr hrl
 go_enter Try.func102, Try.ntmps102
 go_wp2_with (at_make; refine make_vec rfl _ _ 32 Try.underlying32 rfl w.heap.size .i64 .i64 _ _ m (k1 + k2 + 0) rfl rfl (by omega) (by omega) (by omega) (by omega) ?_)
 intro w2 hown hgrow
 have hbg : Below w.heap.size w w2 := (Below.refl _ _).grown hgrow (Nat.le_refl _) (fun _ h => by simp at h)
 have HB := hide hbg
 clear hgrow hbg
 obtain ⟨gv, egv⟩ : ∃ gv, gv = w.heap.size := ⟨_, rfl⟩
 rw [show (some ⟨w.heap.size, 0, none⟩ : Option Addr) = some ⟨gv, 0, none⟩ by rw [egv]] at hown ⊢
 clear egv
 go_wp2_with fail
 go_loopw [7, 16] (fun s t wr => ∃ (i : Nat) (a1 : Option Addr) (c1 : Nat), i ≤ q ∧ t = .int .i64 (i : Int) ∧ s = .slice a1 m c1 ∧ VF wr a1 m c1 (wsum zs rs m i) (k1 + k2 + i) ∧ Below w.heap.size w wr) (fun _ t _ => q - (intOf t).toNat)
 case atStart => exact ⟨0, _, _, Nat.zero_le _, rfl, rfl, by rw [wsum_zero]; exact hown.vf, unhide HB⟩
 case round =>
  clear hown HB
  obtain ⟨i, a1, c1, hi, rfl, rfl, hps, hB⟩ := hrel
  have HB := hide hB
  clear hB
  by_cases hlt : i < q
  ·obtain ⟨ps, eps⟩ : ∃ ps, ps = wsum zs rs m i := ⟨_, rfl⟩
   rw [← eps] at hps
   have EPS := hide eps
   clear eps
   obtain ⟨g2, off2, rfl⟩ := h.some (by omega)
   obtain ⟨b3, a3, l3, c3, E3, hy3⟩ := (h.later (unhide HB)).at (show i < n by omega)
   obtain ⟨f3, f4⟩ := E3.facts
   have hg3 := E3.1
   obtain ⟨g, off, rfl⟩ := h'.addr (by omega)
   obtain ⟨hg, a5, l5, c5, hc5, hv5⟩ := RowsOf.at (R := fun w a l c zs => VK w a l c zs k2) h' (show i < n' by omega)
   have hn5 : l5 ≤ m := by rw [← hv5.len_eq]; exact unhide HR i (by omega)
   replace hv5 := hv5.later (unhide HB)
   have f2 := ((unhide HB).cell (p := ⟨g, off + i, none⟩) hg).trans hc5
   have hgr := Nat.lt_of_lt_of_le hg (unhide HB).size
   have hi0 : (0 : Int) ≤ (i : Int) := by omega
   have hi1 : (i : Int) < (n : Int) := by omega
   have hi2 : (i : Int) < (n' : Int) := by omega
   have HV5 := hide hv5.len_eq
   clear hc5 hg
   obtain ⟨z, ez⟩ : ∃ z, z = zs.getD i 0 := ⟨_, rfl⟩
   obtain ⟨sg, es⟩ : ∃ s, s = z.sign := ⟨_, rfl⟩
   have ES := hide (show sg = (zs.getD i 0).sign by rw [es, ez])
   have EZ := hide ez
   clear ez
   go_wp2_with fail
   refine (signK b3 a3 l3 c3 (zs.getD i 0) k1 sg _ hy3 (unhide ES)).mono ?_
   rintro e w4 ⟨rfl, hb1⟩
   replace hps := hps.later hb1
   replace hy3 := hy3.later hb1
   replace hv5 := hv5.later hb1
   replace E3 := E3.later hb1
   replace f2 := (hb1.cell (p := ⟨g, off + i, none⟩) hgr).trans f2
   replace hgr := Nat.lt_of_lt_of_le hgr hb1.size
   replace HB := hide (Below.step (unhide HB) hb1)
   clear hb1 f3 f4 hg3
   by_cases h0 : z = 0
   ·have hs : (sg != 0) = false := by rw [es, h0]; rfl
    have H0 := hide h0
    clear es h0
    go_wp2
    go_roundw
    case rel => exact ⟨i + 1, _, _, by omega, by go_num, rfl, by rw [← wsum_skip (by rw [← unhide EZ]; exact unhide H0), ← unhide EPS]; exact vf_up hps (by omega), unhide HB⟩
    case measure => simp [intOf]; omega
   ·have hs : (sg != 0) = true := by
     rw [bne_iff_ne, es]
     exact fun e => h0 (Int.sign_eq_zero_iff_zero.1 e)
    clear es h0
    have HW : Below w4.heap.size w4 w4.drew := (Below.refl _ _).drew
    go_upto_region 6 with fail
    refine till_start (fun w' => w'.cell? ⟨g, off + i, none⟩ = some (.slice a5 l5 c5) ∧ w'.cell? ⟨g2, off2 + i * 2, none⟩ = some (.bool b3) ∧ w'.cell? ⟨g2, off2 + i * 2 + 1, none⟩ = some (.slice a3 l3 c3)) 11 (by kernel_rfl) ?_ (fun hHeld => ?_)
    ·exact ⟨(HW.cell (p := ⟨g, off + i, none⟩) hgr).trans f2, (E3.later HW).facts.1, (E3.later HW).facts.2⟩
    refine till_tl (i := 0) [10, 11] rfl ?_
    simp only [Act.put, aGet, aZero, aSet, aHead, aTail]
    refine till_tl (i := 1) [3, 4, 9, 10, 11] rfl ?_
    simp only [Act.put, aAll]
    refine till_tl (i := 2) [3, 4, 9, 10, 11] rfl ?_
    simp only [Act.put, aAll]
    refine till_tl (i := 3) [4, 9, 10, 11] rfl ?_
    simp only [Act.put, aAll]
    refine till_tl (i := 4) [9, 10, 11] rfl ?_
    simp only [Act.put, aAll]
    refine till_tl (i := 5) [7, 8, 9, 10, 11] rfl ?_
    simp only [Act.put, aAll]
    refine till_tl (i := 6) [7, 8, 9, 10, 11] rfl ?_
    simp only [Act.put, aAll]
    refine till_tl (i := 7) [8, 9, 10, 11] rfl ?_
    simp only [Act.put, aAll]
    refine till_tl (i := 8) [9, 10, 11] rfl ?_
    simp only [Act.put, aAll]
    refine till_in (i := 9) (by kernel_rfl) rfl (fun K hK => ?_)
    go_simp
    refine (vtimesK _ _ _ (rs.getD i []) k2 _ _ _ _ (zs.getD i 0) k1 _ (hv5.later HW) (hy3.later HW) (by omega)).mono ?_
    rintro e w9 ⟨a8, c8, rfl, h8, hb9⟩
    replace HW := Below.step HW hb9
    clear hb9
    refine hK.out _ _ ?_ (fun hHeld => ?_)
    ·exact ⟨(HW.cell (p := ⟨g, off + i, none⟩) hgr).trans f2, (E3.later HW).facts.1, (E3.later HW).facts.2⟩
    clear hK K
    try simp only [Act.put, aAll]
    refine till_in (i := 10) (by kernel_rfl) rfl (fun K hK => ?_)
    go_simp
    refine (vaddK _ _ _ ps (k1 + k2 + i) _ _ _ (vtimes (rs.getD i []) (zs.getD i 0)) (k2 + k1) _ ((hps.later HW).vk (by omega)) (h8.vk (by omega)) (by omega) (by omega) (by omega) (by omega)).mono ?_
    rintro e w10 ⟨a9, c9, rfl, h9, hb9⟩
    replace HW := Below.step HW hb9
    clear hb9 h8
    rw [show max m l5 = m by omega] at h9 ⊢
    rw [show max (k1 + k2 + i) (k2 + k1) + 1 = k1 + k2 + (i + 1) by omega] at h9
    refine hK.out _ _ ?_ (fun hHeld => ?_)
    ·exact ⟨(HW.cell (p := ⟨g, off + i, none⟩) hgr).trans f2, (E3.later HW).facts.1, (E3.later HW).facts.2⟩
    clear hK K
    try simp only [Act.put, aAll]
    refine till_out (i := 11) (by kernel_rfl) rfl (by kernel_rfl) (fun K hK => ?_)
    go_simp
    refine hK.out _ _ ?_
    clear hK K
    try simp only [Act.put, aAll]
    refine till_done (by kernel_rfl) ?_ _
    go_wp2
    go_roundw
    case rel => exact ⟨i + 1, _, _, by omega, by go_num, rfl, by rw [← wsum_add (by rw [unhide HV5]; exact hn5), ← unhide EPS]; exact h9, Below.step (unhide HB) HW⟩
    case measure => simp [intOf]; omega
  ·have hin : i = q := by omega
   subst hin
   rw [unhide HE] at hps
   go_wp2
   go_ret
   exact ⟨_, _, rfl, vf_up hps (by omega), unhide HB⟩

set_option maxHeartbeats 2000000 in
theorem productK (ao : Option Addr) (n cap : Nat) (rs : List (List Int)) (k : Nat) (ap : Option Addr) (n' cp : Nat) (ss0 : List (List Int)) (k2 M : Nat) (w : World) (h : MK w ao n cap rs k) (h' : MK w ap n' cp ss0 k2) (hk : k ≤ 200000) (hl : k2 ≤ 200000) (hr : ∀ i, (rs.getD i []).length ≤ M) (hr' : ∀ i, (ss0.getD i []).length ≤ M) (hM : M ≤ 1000000) (hn : n ≤ 1000000) (hn' : n' ≤ 100000) :
  Calls Try.prog 94 #[.slice ao n cap, .slice ap n' cp] w fun e w' => ∃ a1 c1, e = .returned (.slice a1 n c1) ∧ MF w' a1 n c1 (rs.map fun r => vprod r ss0) (k + k2 + n') ∧ Below w.heap.size w w' := by
 have HL := hide h.len_eq
 have HQ := hide hr
 clear hr
 go_enter Try.func94, Try.ntmps94
 go_wp2_with fail
 refine (longestK _ _ _ ss0 _ h'.ml).mono ?_
 rintro e w1 ⟨rfl, hb1⟩
 have hsz1 := hb1.size
 go_wp2_with (at_make; refine make_rows (R := fun w a l c zs => VF w a l c zs (k + k2 + n')) (fun w => vf_nil w _) rfl _ _ 22 Try.underlying22 rfl w.heap.size .i64 .i64 _ _ n rfl rfl (by omega) (by omega) (by omega) (by omega) ?_)
 intro w2 hown hgrow
 have hbg : Below w1.heap.size w1 w2 := (Below.refl _ _).grown hgrow (Nat.le_refl _) (fun _ h => by simp at h)
 have HB := hide (Below.step hb1 hbg)
 clear hgrow hbg
 obtain ⟨gv, egv⟩ : ∃ gv, gv = w1.heap.size := ⟨_, rfl⟩
 rw [← egv] at hown ⊢
 clear egv hsz1
 go_wp2_with fail
 go_loopw [16] (fun t wr => ∃ (i : Nat) (ss : List (List Int)), i ≤ n ∧ t = .int .i64 (i : Int) ∧ MO wr w.heap.size (some ⟨gv, 0, none⟩) n n ss (k + k2 + n') ∧ (∀ j, j < i → ss.getD j [] = vprod (rs.getD j []) ss0) ∧ Below w.heap.size w wr) (fun t _ => n - (intOf t).toNat)
 case atStart => exact ⟨0, _, Nat.zero_le _, rfl, hown, fun j hj => absurd hj (by omega), unhide HB⟩
 case round =>
  clear hown HB hb1
  obtain ⟨i, ss, hi, rfl, hv, hall, hB⟩ := hrel
  have HA := hide hall
  clear hall
  have HB := hide hB
  clear hB
  by_cases hlt : i < n
  ·obtain ⟨g, off, rfl⟩ := h.addr (by omega)
   obtain ⟨hg, a5, l5, c5, hc5, hv5⟩ := RowsOf.at (R := fun w a l c zs => VK w a l c zs k) h hlt
   have hn5 : l5 ≤ M := by rw [← hv5.len_eq]; exact unhide HQ i
   replace hv5 := hv5.later (unhide HB)
   have f2 := ((unhide HB).cell (p := ⟨g, off + i, none⟩) hg).trans hc5
   have hgr := Nat.lt_of_lt_of_le hg (unhide HB).size
   clear hc5 hg
   go_wp2_with fail
   refine (weighedK _ _ _ (rs.getD i []) k _ _ _ ss0 k2 M _ hv5 (h'.later (unhide HB)) hk hl hr' hM (by omega) hn').mono ?_
   rintro e w5 ⟨a7, c7, rfl, h7, hb1⟩
   replace hv := hv.later hb1
   replace HB := hide (Below.step (unhide HB) hb1)
   clear hb1 hv5 f2 hgr
   obtain ⟨hg6, a6, l6, c6, f6, _⟩ := RowsOf.at (R := fun w a l c zs => VF w a l c zs (k + k2 + n')) hv.mf (show i < n by omega)
   rw [Nat.zero_add] at f6
   have q3 := MOwn.free (R := fun w a l c zs => VF w a l c zs (k + k2 + n')) hv i
   have hbl := MOwn.base_le (R := fun w a l c zs => VF w a l c zs (k + k2 + n')) hv
   go_wp2
   go_roundw
   case rel =>
    refine ⟨i + 1, ss.set i (vprod (rs.getD i []) ss0), by omega, by go_num, MOwn.set (R := fun w a l c zs => VF w a l c zs (k + k2 + n')) (steadyMO _) hv (by omega) h7, put_row (f := fun j => vprod (rs.getD j []) ss0) (by rw [hv.len]; omega) (unhide HA), ?_⟩
    exact (unhide HB).setCell (by simpa using hbl.1) _
   case measure => simp [intOf]; omega
  ·have hin : i = n := by omega
   subst hin
   have hss : ss = rs.map fun r => vprod r ss0 := by
    rw [rows_of hv.len (unhide HA)]
    refine List.ext_getElem (by rw [List.length_map, List.length_map, List.length_range, unhide HL]) fun j h1 h2 => ?_
    have hj : j < rs.length := by rw [List.length_map] at h2; exact h2
    simp [List.getD, hj]
   subst hss
   go_wp2
   go_ret
   exact ⟨_, _, rfl, hv.mf, unhide HB⟩
end Go.Proofs.Ytnpneloahajniaa
