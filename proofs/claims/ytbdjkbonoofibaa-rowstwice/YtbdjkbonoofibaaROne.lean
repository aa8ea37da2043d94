/-
  What formed, Normal, Form and longest of package rows tell (IN PARTS).
-/
import Derived.Test.YtbdjkbonoofibaaJH
import Derived.Test.YtbdjkbonoofibaaJF
import Derived.Deep.CutRange
namespace Go.Proofs.Ytbdjkbonoofibaa
open Go.RowKit Lb
set_option maxRecDepth 20000

/-- What is asked of a row in one way is asked of it in another. -/
theorem RowsOf.imp {R R' : World → Option Addr → Nat → Nat → List Int → Prop} {w : World} {ao : Option Addr} {n cap : Nat} {rs : List (List Int)} (h : RowsOf R w ao n cap rs) (hi : ∀ {a l c zs}, R w a l c zs → R' w a l c zs) : RowsOf R' w ao n cap rs := by
  refine ⟨h.len_eq, h.cap_le, h.cap_max, h.nil_cap, fun hp => ?_⟩
  obtain ⟨g, off, e, hg, hc⟩ := h.elts hp
  refine ⟨g, off, e, hg, fun i hi' => ?_⟩
  obtain ⟨a, l, c, h1, h2⟩ := hc i hi'
  exact ⟨a, l, c, h1, hi h2⟩
/-- Rows whose numbers have no more limbs than k. -/
def MS (w : World) (ao : Option Addr) (n cap : Nat) (rs : List (List Int)) (k : Nat) : Prop := RowsOf (fun w a l c zs => VS w a l c zs k) w ao n cap rs
theorem MS.later {w w' : World} {ao : Option Addr} {n cap k : Nat} {rs : List (List Int)} (h : MS w ao n cap rs k) (hb : Below w.heap.size w w') : MS w' ao n cap rs k := RowsOf.later (R := fun w a l c zs => VS w a l c zs k) (fun h hb => VS.later h hb) h hb
theorem MS.mk {w : World} {ao : Option Addr} {n cap k : Nat} {rs : List (List Int)} (h : MS w ao n cap rs k) : MK w ao n cap rs k := RowsOf.imp (R := fun w a l c zs => VS w a l c zs k) h fun h => h.vk
theorem MF.ms {w : World} {ao : Option Addr} {n cap k : Nat} {rs : List (List Int)} (h : MF w ao n cap rs k) (hk : k ≤ 999990) : MS w ao n cap rs k := RowsOf.imp (R := fun w a l c zs => VF w a l c zs k) h fun h => h.vs hk
theorem MF.mk {w : World} {ao : Option Addr} {n cap k : Nat} {rs : List (List Int)} (h : MF w ao n cap rs k) (hk : k ≤ 999990) : MK w ao n cap rs k := (h.ms hk).mk
/-- Rows of which the lengths alone are told. -/
def ML (w : World) (ao : Option Addr) (n cap : Nat) (rs : List (List Int)) : Prop := RowsOf (fun _ _ l _ zs => zs.length = l ∧ l ≤ maxLen) w ao n cap rs
theorem ML.later {w w' : World} {ao : Option Addr} {n cap : Nat} {rs : List (List Int)} (h : ML w ao n cap rs) (hb : Below w.heap.size w w') : ML w' ao n cap rs := RowsOf.later (R := fun _ _ l _ zs => zs.length = l ∧ l ≤ maxLen) (fun h _ => h) h hb
theorem MK.ml {w : World} {ao : Option Addr} {n cap k : Nat} {rs : List (List Int)} (h : MK w ao n cap rs k) : ML w ao n cap rs := RowsOf.imp (R := fun w a l c zs => VK w a l c zs k) h fun h => ⟨h.len_eq, Nat.le_trans h.cap_le h.cap_max⟩
theorem MF.ml {w : World} {ao : Option Addr} {n cap k : Nat} {rs : List (List Int)} (h : MF w ao n cap rs k) : ML w ao n cap rs := RowsOf.imp (R := fun w a l c zs => VF w a l c zs k) h fun h => ⟨h.len_eq, Nat.le_trans h.cap_le h.cap_max⟩
theorem vk_nil (w : World) (k : Nat) : VK w none 0 0 [] k := ⟨rfl, Nat.le_refl _, Nat.zero_le _, fun _ => rfl, fun h => absurd h (by omega)⟩
theorem mf_nil (w : World) (k : Nat) : MF w none 0 0 [] k := ⟨rfl, Nat.le_refl _, Nat.zero_le _, fun _ => rfl, fun h => absurd h (by omega)⟩

set_option maxHeartbeats 1600000 in
theorem formedK (ao : Option Addr) (n cap : Nat) (zs : List Int) (k : Nat) (w : World) (h : VK w ao n cap zs k) (hn : n ≤ 1000000) :
    Calls Try.prog 54 #[.slice ao n cap] w fun e w' => ∃ a1 c1, e = .returned (.slice a1 n c1) ∧ VF w' a1 n c1 zs k ∧ Below w.heap.size w w' := by
  have HL := hide h.len_eq
  go_enter Try.func54, Try.ntmps54
  have HB := hide (Below.refl w.heap.size w)
  go_wp2_with (at_make; refine make_vec rfl _ _ 24 Try.underlying24 rfl w.heap.size .i64 .i64 _ _ n k rfl rfl (by omega) (by omega) (by omega) (by omega) ?_)
  intro w2 hown hgrow
  have hbg : Below w.heap.size w w2 := (Below.refl _ _).grown hgrow (Nat.le_refl _) (fun _ h => by simp at h)
  replace HB := hide (Below.step (unhide HB) hbg)
  clear hgrow hbg
  obtain ⟨gv, egv⟩ : ∃ gv, gv = w.heap.size := ⟨_, rfl⟩
  rw [show (some ⟨w.heap.size, 0, none⟩ : Option Addr) = some ⟨gv, 0, none⟩ by rw [egv]] at hown ⊢
  clear egv
  go_wp2_with fail
  go_loopw [11] (fun t wr => ∃ (i : Nat) (ps : List Int), i ≤ n ∧ t = .int .i64 (i : Int) ∧ OwnV wr w.heap.size (some ⟨gv, 0, none⟩) n n ps k ∧ (∀ j, j < i → ps.getD j 0 = zs.getD j 0) ∧ Below w.heap.size w wr) (fun t _ => n - (intOf t).toNat)
  case atStart => exact ⟨0, _, Nat.zero_le _, rfl, hown, fun j hj => absurd hj (by omega), unhide HB⟩
  case round =>
    clear hown HB
    obtain ⟨i, ps, hi, rfl, hv, hall, hB⟩ := hrel
    have HA := hide hall
    clear hall
    have HB := hide hB
    clear hB
    by_cases hlt : i < n
    · obtain ⟨g, off, rfl⟩ := h.some (by omega)
      obtain ⟨b2, a2, l2, c2, he, hy⟩ := (h.later (unhide HB)).at hlt
      obtain ⟨f1, f2⟩ := he.facts
      have hg1 := he.1
      go_wp2_with fail
      obtain ⟨W2, hW2⟩ : ∃ W2, W2 = wr.alloc (.cells #[.bool b2, .slice a2 l2 c2] 29) := ⟨_, rfl⟩
      obtain ⟨D0, hb1⟩ := boxes1 wr b2 a2 l2 c2 hW2
      rw [← hW2]
      clear hW2 f1 f2 he D0
      replace hv := hv.later hb1
      replace hy := hy.later hb1
      replace HB := hide (Below.step (unhide HB) hb1)
      clear hb1
      refine (formK b2 a2 l2 c2 (zs.getD i 0) k _ hy).mono ?_
      rintro e w5 ⟨b5, a5, l5, c5, rfl, h5, hb1⟩
      replace hv := hv.later hb1
      replace HB := hide (Below.step (unhide HB) hb1)
      clear hb1 hy
      obtain ⟨b6, a6, l6, c6, he6, _⟩ := hv.vf.at (show i < n by omega)
      rw [Nat.zero_add] at he6
      obtain ⟨q1, q2⟩ := he6.facts
      have q3 := hv.free (i * 2)
      have q4 := hv.free (i * 2 + 1)
      have hbl := hv.base_le
      go_wp2
      go_roundw
      case rel =>
        refine ⟨i + 1, ps.set i (zs.getD i 0), by omega, by go_num, hv.set (by omega) h5, put_each (f := fun j => zs.getD j 0) (by rw [hv.len]; omega) (unhide HA), ?_⟩
        exact ((unhide HB).setCell (by simpa using hbl.1) _).setCell (by simpa using hbl.1) _
      case measure => simp [intOf]; omega
    · have hin : i = n := by omega
      subst hin
      have hps : ps = zs := vec_ext (by rw [hv.len, unhide HL]) fun j hj => unhide HA j (by rw [hv.len] at hj; exact hj)
      subst hps
      go_wp2
      go_ret
      exact ⟨_, _, rfl, hv.vf, unhide HB⟩

set_option maxHeartbeats 1000000 in
theorem normalK (ao : Option Addr) (n cap : Nat) (zs : List Int) (k : Nat) (w : World) (h : VK w ao n cap zs k) (hk : k ≤ 900000) (hn : n ≤ 1000000) :
    Calls Try.prog 24 #[.slice ao n cap] w fun e w' => ∃ a1 c1, e = .returned (.slice a1 n c1) ∧ VF w' a1 n c1 (vnormal zs) k ∧ Below w.heap.size w w' := by
  go_enter Try.func24, Try.ntmps24
  go_wp2_with fail
  refine (vcmpK _ _ _ zs k _ _ _ [] 0 _ h (vk_nil w 0) hk (by omega) hn (by omega)).mono ?_
  rintro e w1 ⟨c, rfl, hc, hc1, hc2, hb1⟩
  by_cases hlt : c < 0
  · have HN := hide (normal_neg (hc.lt_iff.1 hlt))
    clear hc
    go_wp2_with fail
    refine (vnegK _ _ _ zs k _ (h.later hb1) hn).mono ?_
    rintro e w2 ⟨a1, c1, rfl, h1, hb2⟩
    go_wp2
    go_ret
    exact ⟨_, _, rfl, by rw [unhide HN]; exact h1, Below.step hb1 hb2⟩
  · have HN := hide (show vnormal zs = zs by
      rcases normal_cases zs with ⟨t, _⟩ | ⟨_, e⟩ | ⟨_, e⟩
      · exact absurd (hc.lt_iff.2 t) hlt
      · exact e
      · exact e)
    clear hc
    go_wp2_with fail
    refine (formedK _ _ _ zs k _ (h.later hb1) hn).mono ?_
    rintro e w2 ⟨a1, c1, rfl, h1, hb2⟩
    go_wp2
    go_ret
    exact ⟨_, _, rfl, by rw [unhide HN]; exact h1, Below.step hb1 hb2⟩

/-- Has each row n places, and is n 1 to 64? -/
def rform (rs : List (List Int)) (n : Int) : Bool := decide (1 ≤ n ∧ n ≤ 64) && rs.all fun r => decide ((r.length : Int) = n)
theorem rform_out {rs : List (List Int)} {n : Int} (h : ¬ (1 ≤ n ∧ n ≤ 64)) : rform rs n = false := by unfold rform; rw [decide_eq_false h]; rfl
theorem rform_no {rs : List (List Int)} {n : Int} {i : Nat} (hi : i < rs.length) (h : ((rs.getD i []).length : Int) ≠ n) : rform rs n = false := by
  unfold rform
  rw [Bool.and_eq_false_iff]
  refine Or.inr ?_
  rw [List.all_eq_false]
  refine ⟨rs[i], List.getElem_mem hi, ?_⟩
  rw [show rs.getD i [] = rs[i] by simp [List.getD, hi]] at h
  simpa using h
theorem rform_yes {rs : List (List Int)} {n : Int} (h0 : 1 ≤ n ∧ n ≤ 64) (h : ∀ i, i < rs.length → ((rs.getD i []).length : Int) = n) : rform rs n = true := by
  unfold rform
  rw [decide_eq_true h0, Bool.true_and, List.all_eq_true]
  intro r hr
  obtain ⟨i, hi, e⟩ := List.getElem_of_mem hr
  have := h i hi
  rw [show rs.getD i [] = rs[i] by simp [List.getD, hi], e] at this
  simpa using this
set_option maxHeartbeats 1600000 in
theorem rowsFormK (ao : Option Addr) (n cap : Nat) (rs : List (List Int)) (m : Int) (w : World) (h : ML w ao n cap rs) (hm : -9223372036854775808 ≤ m ∧ m ≤ 9223372036854775807) (q : Bool) (hq : rform rs m = q) :
    Calls Try.prog 11 #[.slice ao n cap, .int .i64 m] w fun e w' => e = .returned (.bool q) ∧ Below w.heap.size w w' := by
  have hmn := Nat.le_trans h.cap_le h.cap_max
  unfold maxLen at hmn
  have HL := hide h.len_eq
  have HQ := hide hq
  clear hq
  by_cases h1 : m < 1
  · obtain rfl : q = false := by rw [← unhide HQ]; exact rform_out (by omega)
    have h1' : decide (m < 1) = true := decide_eq_true h1
    go_enter Try.func11, Try.ntmps11
    go_wp2
    go_ret
    exact ⟨rfl, Below.refl _ _⟩
  by_cases h2 : 64 < m
  · obtain rfl : q = false := by rw [← unhide HQ]; exact rform_out (by omega)
    have h1' : decide (m < 1) = false := decide_eq_false h1
    have h2' : decide (64 < m) = true := decide_eq_true h2
    go_enter Try.func11, Try.ntmps11
    go_wp2
    go_ret
    exact ⟨rfl, Below.refl _ _⟩
  have h1' : decide (m < 1) = false := decide_eq_false h1
  have h2' : decide (64 < m) = false := decide_eq_false h2
  go_enter Try.func11, Try.ntmps11
  go_wp2_with fail
  go_loopw [15] (fun t wr => ∃ i : Nat, i ≤ n ∧ t = .int .i64 (i : Int) ∧ (∀ j, j < i → ((rs.getD j []).length : Int) = m) ∧ Below w.heap.size w wr) (fun t _ => n - (intOf t).toNat)
  case atStart => exact ⟨0, Nat.zero_le _, rfl, fun j hj => absurd hj (by omega), Below.refl _ _⟩
  case round =>
    obtain ⟨i, hi, rfl, hall, hB⟩ := hrel
    have HA := hide hall
    clear hall
    by_cases hlt : i < n
    · obtain ⟨g, off, rfl⟩ := h.addr (by omega)
      obtain ⟨hg, a2, l2, c2, hc, hv, hl2⟩ := RowsOf.at (R := fun _ _ l _ zs => zs.length = l ∧ l ≤ maxLen) h hlt
      unfold maxLen at hl2
      have f1 := (hB.cell (p := ⟨g, off + i, none⟩) hg).trans hc
      have hgr := Nat.lt_of_lt_of_le hg hB.size
      have HV := hide hv
      clear hc hv
      by_cases he : (l2 : Int) = m
      · have he' : ((l2 : Int) != m) = false := by simp [he]
        have HE := hide he
        clear he
        go_wp2
        go_roundw
        case rel =>
          refine ⟨i + 1, by omega, by go_num, fun j hj => ?_, hB⟩
          by_cases e : j = i
          · subst e; rw [unhide HV]; exact unhide HE
          · exact unhide HA j (by omega)
        case measure => simp [intOf]; omega
      · have he' : ((l2 : Int) != m) = true := by simp [he]
        obtain rfl : q = false := by rw [← unhide HQ]; exact rform_no (i := i) (by rw [unhide HL]; exact hlt) (by rw [unhide HV]; exact he)
        clear he
        go_wp2
        go_ret
        exact ⟨rfl, hB⟩
    · have hin : i = n := by omega
      subst hin
      obtain rfl : q = true := by rw [← unhide HQ]; exact rform_yes (by omega) fun j hj => unhide HA j (by rw [unhide HL] at hj; exact hj)
      go_wp2
      go_ret
      exact ⟨rfl, hB⟩

set_option maxHeartbeats 1600000 in
theorem refFormK (ao : Option Addr) (n cap : Nat) (rs : List (List Int)) (m : Int) (w : World) (h : ML w ao n cap rs) (hm : -9223372036854775808 ≤ m ∧ m ≤ 9223372036854775807) (q : Bool) (hq : rform rs m = q) :
    Calls Try.prog 12 #[.slice ao n cap, .int .i64 m] w fun e w' => e = .returned (.bool q) ∧ Below w.heap.size w w' := by
  have hmn := Nat.le_trans h.cap_le h.cap_max
  unfold maxLen at hmn
  have HL := hide h.len_eq
  have HQ := hide hq
  clear hq
  by_cases h1 : m < 1
  · obtain rfl : q = false := by rw [← unhide HQ]; exact rform_out (by omega)
    have h1' : decide (m < 1) = true := decide_eq_true h1
    go_enter Try.func12, Try.ntmps12
    go_wp2
    go_ret
    exact ⟨rfl, Below.refl _ _⟩
  by_cases h2 : 64 < m
  · obtain rfl : q = false := by rw [← unhide HQ]; exact rform_out (by omega)
    have h1' : decide (m < 1) = false := decide_eq_false h1
    have h2' : decide (64 < m) = true := decide_eq_true h2
    go_enter Try.func12, Try.ntmps12
    go_wp2
    go_ret
    exact ⟨rfl, Below.refl _ _⟩
  have h1' : decide (m < 1) = false := decide_eq_false h1
  have h2' : decide (64 < m) = false := decide_eq_false h2
  go_enter Try.func12, Try.ntmps12
  go_wp2_with fail
  go_loopw [5] (fun t wr => ∃ i : Nat, i ≤ n ∧ t = .int .i64 (i : Int) ∧ (∀ j, j < i → ((rs.getD j []).length : Int) = m) ∧ Below w.heap.size w wr) (fun t _ => n - (intOf t).toNat)
  case atStart => exact ⟨0, Nat.zero_le _, rfl, fun j hj => absurd hj (by omega), Below.refl _ _⟩
  case round =>
    obtain ⟨i, hi, rfl, hall, hB⟩ := hrel
    have HA := hide hall
    clear hall
    by_cases hlt : i < n
    · obtain ⟨g, off, rfl⟩ := h.addr (by omega)
      obtain ⟨hg, a2, l2, c2, hc, hv, hl2⟩ := RowsOf.at (R := fun _ _ l _ zs => zs.length = l ∧ l ≤ maxLen) h hlt
      unfold maxLen at hl2
      have f1 := (hB.cell (p := ⟨g, off + i, none⟩) hg).trans hc
      have hgr := Nat.lt_of_lt_of_le hg hB.size
      have HV := hide hv
      clear hc hv
      by_cases he : (l2 : Int) = m
      · have he' : ((l2 : Int) != m) = false := by simp [he]
        have HE := hide he
        clear he
        go_wp2
        go_roundw
        case rel =>
          refine ⟨i + 1, by omega, by go_num, fun j hj => ?_, hB⟩
          by_cases e : j = i
          · subst e; rw [unhide HV]; exact unhide HE
          · exact unhide HA j (by omega)
        case measure => simp [intOf]; omega
      · have he' : ((l2 : Int) != m) = true := by simp [he]
        obtain rfl : q = false := by rw [← unhide HQ]; exact rform_no (i := i) (by rw [unhide HL]; exact hlt) (by rw [unhide HV]; exact he)
        clear he
        go_wp2
        go_ret
        exact ⟨rfl, hB⟩
    · have hin : i = n := by omega
      subst hin
      obtain rfl : q = true := by rw [← unhide HQ]; exact rform_yes (by omega) fun j hj => unhide HA j (by rw [unhide HL] at hj; exact hj)
      go_wp2
      go_ret
      exact ⟨rfl, hB⟩

theorem longest_take {rs : List (List Int)} {i : Nat} (hi : i < rs.length) : longest (rs.take (i + 1)) = max (longest (rs.take i)) (rs.getD i []).length := by
  rw [List.take_add_one, List.getElem?_eq_getElem hi, show rs.getD i [] = rs[i] by simp [List.getD, hi]]
  exact longest_snoc _ _
theorem longest_le {rs : List (List Int)} {m : Nat} (h : ∀ r ∈ rs, r.length ≤ m) : longest rs ≤ m := by
  unfold longest
  have : ∀ (l : List (List Int)) (k : Nat), k ≤ m → (∀ r ∈ l, r.length ≤ m) → l.foldl (fun m r => max m r.length) k ≤ m := by
    intro l
    induction l with
    | nil => exact fun k hk _ => hk
    | cons r t ih =>
      intro k hk hl
      rw [List.foldl_cons]
      have := hl r (by simp)
      exact ih _ (by omega) fun x hx => hl x (List.mem_cons_of_mem _ hx)
  exact this rs 0 (Nat.zero_le _) h
set_option maxHeartbeats 1600000 in
theorem longestK (ao : Option Addr) (n cap : Nat) (rs : List (List Int)) (w : World) (h : ML w ao n cap rs) :
    Calls Try.prog 44 #[.slice ao n cap] w fun e w' => e = .returned (.int .i64 (longest rs : Int)) ∧ Below w.heap.size w w' := by
  have hmn := Nat.le_trans h.cap_le h.cap_max
  unfold maxLen at hmn
  have HL := hide h.len_eq
  go_enter Try.func44, Try.ntmps44
  go_wp2_with fail
  go_loopw [3, 8] (fun m t wr => ∃ (i M : Nat), i ≤ n ∧ t = .int .i64 (i : Int) ∧ m = .int .i64 (M : Int) ∧ M = longest (rs.take i) ∧ M ≤ 9223372036854775807 ∧ Below w.heap.size w wr) (fun _ t _ => n - (intOf t).toNat)
  case atStart => exact ⟨0, 0, Nat.zero_le _, rfl, rfl, rfl, by omega, Below.refl _ _⟩
  case round =>
    obtain ⟨i, M, hi, rfl, rfl, hM, hMl, hB⟩ := hrel
    have HM := hide hM
    clear hM
    by_cases hlt : i < n
    · obtain ⟨g, off, rfl⟩ := h.addr (by omega)
      obtain ⟨hg, a2, l2, c2, hc, hv, hl2⟩ := RowsOf.at (R := fun _ _ l _ zs => zs.length = l ∧ l ≤ maxLen) h hlt
      unfold maxLen at hl2
      have f1 := (hB.cell (p := ⟨g, off + i, none⟩) hg).trans hc
      have hgr := Nat.lt_of_lt_of_le hg hB.size
      have HV := hide hv
      clear hc hv
      have hmax := max_len M l2
      obtain ⟨X, eX⟩ : ∃ X, X = max M l2 := ⟨_, rfl⟩
      rw [← eX] at hmax
      have hXl : X ≤ 9223372036854775807 := by omega
      have EX := hide eX
      clear eX
      go_wp2
      go_roundw
      case rel => exact ⟨i + 1, X, by omega, by go_num, rfl, by rw [longest_take (by rw [unhide HL]; exact hlt), ← unhide HM, unhide HV]; exact unhide EX, hXl, hB⟩
      case measure => simp [intOf]; omega
    · have hin : i = n := by omega
      subst hin
      rw [List.take_of_length_le (by rw [unhide HL]; exact Nat.le_refl _)] at HM
      go_wp2
      go_ret
      exact ⟨by rw [unhide HM]; rfl, hB⟩

#print axioms normalK
#print axioms rowsFormK
#print axioms refFormK
#print axioms longestK
end Go.Proofs.Ytbdjkbonoofibaa
