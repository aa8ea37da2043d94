/-
  What the reference's SameAll, Normal, OfAll and Turn tell, and likeAll of the statements (IN PARTS).
-/
import Derived.Test.YtnpneloahajniaaJI
import Derived.Test.YtnpneloahajniaaJF
import Derived.Test.YtnpneloahajniaaJE
import Derived.Deep.CutRange
import Derived.Test.YtnpneloahajniaaJK
namespace Go.Proofs.Ytnpneloahajniaa
open Go.RowKit Lb
set_option maxRecDepth 20000

theorem vfn_up {w : World} {ao : Option Addr} {n cap k l : Nat} {zs : List Int} (h : VF w ao n cap zs k) (hl : k ≤ l) : VF w ao n cap zs l := VecOf.mono h (fun _ h => h.up hl)
theorem mapR_of {f : List Int → Int} {rs : List (List Int)} {ps : List Int} {n : Nat} (hl : rs.length = n) (hp : ps.length = n) (h : ∀ j, j < n → ps.getD j 0 = f (rs.getD j [])) : ps = rs.map f := by
  refine vec_ext (by rw [List.length_map, hl, hp]) fun j hj => ?_
  rw [h j (by omega)]
  simp [List.getD, show j < rs.length by omega]
theorem vturn_snoc (rs : List (List Int)) (i : Nat) : vturn rs (i + 1) = vturn rs i ++ [rs.map fun r => r.getD i 0] := by
  unfold vturn
  rw [List.range_succ, List.map_append]; rfl
theorem not_alike_len' {a b : List (List Int)} (h : a.length ≠ b.length) : ¬ Alike a b := fun e => h e.len
theorem not_alike_at' {a b : List (List Int)} {i : Nat} (h : ¬ VSame (a.getD i []) (b.getD i [])) : ¬ Alike a b := fun e => h (e.at i)
theorem all_nought {zs : List Int} (h : ∀ j, j < zs.length → zs.getD j 0 = 0) : VSame zs [] := fun i => by
  rw [nil_at]
  by_cases c : i < zs.length
  · exact h i c
  · exact getD_out (by omega)
set_option maxRecDepth 20000 in
set_option maxHeartbeats 2000000 in
theorem refOfAllK (ao : Option Addr) (n cap : Nat) (rs : List (List Int)) (w : World) (h : RowsOf IRowAt w ao n cap rs) (hr : ∀ i, (rs.getD i []).length ≤ 1000000) (hn : n ≤ 100000) :
    Calls Try.prog 17 #[.slice ao n cap] w fun e w' => ∃ a1 c1, e = .returned (.slice a1 n c1) ∧ MF w' a1 n c1 rs 2 ∧ Below w.heap.size w w' := by
  have HL := hide h.len_eq
  have HQ := hide hr
  clear hr
  go_enter Try.func17, Try.ntmps17
  go_wp2_with fail
  go_loopw [3, 4] (fun s t wr => ∃ (i : Nat) (ao' : Option Addr) (cap' : Nat), i ≤ n ∧ t = .int .i64 (i : Int) ∧ s = .slice ao' i cap' ∧ MO wr w.heap.size ao' i cap' (rs.take i) 2 ∧ Below w.heap.size w wr) (fun _ t _ => n - (intOf t).toNat)
  case atStart => exact ⟨0, _, _, Nat.zero_le _, rfl, rfl, mo_nil _ _ _, Below.refl _ _⟩
  case round =>
    obtain ⟨i, ao', cap', hi, rfl, rfl, hown, hB⟩ := hrel
    have HB := hide hB
    clear hB
    by_cases hlt : i < n
    · obtain ⟨g, off, rfl⟩ := h.addr (by omega)
      obtain ⟨hg, a5, l5, c5, hc5, hv5⟩ := RowsOf.at (R := IRowAt) h hlt
      have hn5 : l5 ≤ 1000000 := by rw [← hv5.len_eq]; exact unhide HQ i
      replace hv5 := hv5.later (unhide HB)
      have f2 := ((unhide HB).cell (p := ⟨g, off + i, none⟩) hg).trans hc5
      have hgr := Nat.lt_of_lt_of_le hg (unhide HB).size
      have hi0 : (0 : Int) ≤ (i : Int) := by omega
      have hi1 : (i : Int) < (n : Int) := by omega
      clear hc5 hg
      go_wp2_with fail
      refine (rvofK _ _ _ (rs.getD i []) _ hv5 hn5).mono ?_
      rintro e w5 ⟨a7, c7, rfl, h7, hb9⟩
      replace hown := hown.later hb9
      replace HB := hide (Below.step (unhide HB) hb9)
      clear hb9 f2 hgr
      obtain ⟨L, eL⟩ : ∃ L, L = rs.take i := ⟨_, rfl⟩
      obtain ⟨x, ex⟩ : ∃ x, x = rs.getD i [] := ⟨_, rfl⟩
      rw [← eL] at hown
      rw [← ex] at h7
      have EL := hide eL
      have EX := hide ex
      clear eL ex
      obtain ⟨W6, hW6⟩ : ∃ W6, W6 = w5.alloc (.cells #[.slice a7 l5 c7] 32) := ⟨_, rfl⟩
      have hb9 : Below w5.heap.size w5 W6 := by rw [hW6]; exact below_new _ _
      have hone := mf_one h7
      replace hown := hown.later hb9
      replace HB := hide (Below.step (unhide HB) hb9)
      clear hb9
      have hsz := (unhide HB).size
      rw [hW6] at hown hsz
      go_wp2_with (at_builtin; refine append_rows (R := fun w a l c zs => VF w a l c zs 2) (steadyMO 2) rfl (.tmp 11) (.tmp 17) 22 Try.underlying22 rfl w.heap.size ao' i cap' L rfl hown _ 1 1 [x] rfl hone (by omega) hsz ?_)
      intro an cn w7 hown2 hgr7
      rw [← hW6] at hgr7 hown hsz
      clear hW6 hone
      have HD := (unhide HB).grown hgr7 hsz (MO.ge hown)
      clear hgr7
      go_wp2
      go_roundw
      case rel => exact ⟨i + 1, _, _, by omega, by go_num, rfl, by rw [take_snoc [] (by rw [unhide HL]; exact hlt), ← unhide EL, ← unhide EX]; exact hown2, HD⟩
      case measure => simp [intOf]; omega
    · have hin : i = n := by omega
      subst hin
      rw [List.take_of_length_le (by rw [unhide HL]; exact Nat.le_refl _)] at hown
      have hin' : ¬ (i : Int) < (i : Int) := by omega
      go_wp2
      go_ret
      exact ⟨_, _, rfl, hown.mf, unhide HB⟩

#print axioms refOfAllK
/-
  What the reference's Sort tells: the rows sorted, of the same ones the first (IN PARTS).
-/

theorem mo_one {w : World} {a : Option Addr} {l c k : Nat} {zs : List Int} (h : VF w a l c zs k) : MO (w.alloc (.cells #[.slice a l c] 32)) w.heap.size (some ⟨w.heap.size, 0, none⟩) 1 1 [zs] k := by
  refine ⟨⟨[(a, l, c)], ⟨World.ownsRow_lit (size := 1) w #[.slice a l c] 1 (Nat.le_refl _) (by unfold maxLen; omega) rfl, fun g hg j u hc => ?_⟩, fun i v hv => ?_⟩, rfl⟩
  · simp only [Value.ownBlock, Option.some.injEq] at hg
    subst hg
    match j with
    | 0 =>
      simp at hc
      exact ⟨(a, l, c), hc.symm⟩
    | j + 1 => simp at hc
  · match i with
    | 0 =>
      simp at hv
      subst hv
      exact h.later (below_new w _)
    | i + 1 => simp at hv
theorem MO.nil_or {w : World} {base : Nat} {ao : Option Addr} {n cap k : Nat} {rs : List (List Int)} (h : MO w base ao n cap rs k) : (ao = none ∧ n = 0 ∧ cap = 0) ∨ ∃ g, ao = some ⟨g, 0, none⟩ := by
  obtain ⟨⟨vs, hrow, _⟩, _⟩ := h
  rcases hrow.own.2 with ⟨e, e0⟩ | ⟨g, c, cur, e, _⟩
  · simp only [Value.slice.injEq] at e
    exact Or.inl ⟨e.1, e0, e.2.2⟩
  · simp only [Value.slice.injEq, true_and] at e
    exact Or.inr ⟨g, e.1⟩
/-- rows[:q:q]. -/
theorem slice_head {ao : Option Addr} {m cap q : Nat} (h : (ao = none ∧ m = 0 ∧ cap = 0) ∨ ∃ g, ao = some ⟨g, 0, none⟩) (hq : q ≤ m) (hc : m ≤ cap) (W : World) : (Instr.sliceAt 22 (.slice ao m cap) none (some (.int .i64 (q : Int))) (some (.int .i64 (q : Int)))).run Try.prog W = .ok (.slice ao q q) W := by
  have h0 : (0 : Int) ≤ (q : Int) := by omega
  rcases h with ⟨rfl, rfl, rfl⟩ | ⟨g, rfl⟩
  · obtain rfl : q = 0 := by omega
    simp [Instr.sliceAt, Instr.slice, Instr.sliceBounds, Instr.sliceBound, run_underlying Try.underlying22, go_sem]
  · simp [Instr.sliceAt, Instr.slice, Instr.sliceBounds, Instr.sliceBound, run_underlying Try.underlying22, go_sem, h0]
    exact fun e => absurd e (by omega)
/-- rows[q:]. -/
theorem slice_tail {w : World} {base : Nat} {ao : Option Addr} {m cap k q : Nat} {r : List (List Int)} (h : MO w base ao m cap r k) (hq : q ≤ m) : ∃ at2, (∀ W, (Instr.sliceAt 22 (.slice ao m cap) (some (.int .i64 (q : Int))) none none).run Try.prog W = .ok (.slice at2 (m - q) (cap - q)) W) ∧ MF w at2 (m - q) (cap - q) (r.drop q) k := by
  have h0 : (0 : Int) ≤ (q : Int) := by omega
  have hc := h.mf.cap_le
  have hmx := h.mf.cap_max
  have hl := h.len
  rcases h.nil_or with ⟨rfl, rfl, rfl⟩ | ⟨g, rfl⟩
  · obtain rfl : q = 0 := by omega
    refine ⟨none, fun W => ?_, by rw [List.eq_nil_of_length_eq_zero hl]; exact mf_nil w k⟩
    simp [Instr.sliceAt, Instr.slice, Instr.sliceBounds, Instr.sliceBound, run_underlying Try.underlying22, go_sem]
  · by_cases c : cap = q
    · have hqm : q = m := by omega
      subst hqm
      refine ⟨some ⟨g, 0, none⟩, fun W => ?_, ?_⟩
      · simp [Instr.sliceAt, Instr.slice, Instr.sliceBounds, Instr.sliceBound, run_underlying Try.underlying22, go_sem, h0, c]
      · rw [Nat.sub_self, List.drop_of_length_le (by omega)]
        exact ⟨rfl, Nat.zero_le _, by omega, fun e => by simp at e, fun e => absurd e (by omega)⟩
    · refine ⟨some ⟨g, 0 + q, none⟩, fun W => ?_, RowsOf.drop (R := fun w a l c zs => VF w a l c zs k) h.mf hq⟩
      simp [Instr.sliceAt, Instr.slice, Instr.sliceBounds, Instr.sliceBound, run_underlying Try.underlying22, go_sem, h0, c]
      exact fun e => absurd e (by omega)
#print axioms slice_tail
/-
  What the reference's Sort tells: the rows sorted, of the same ones the first (IN PARTS).
-/

theorem put_at {l r : List (List Int)} {x : List Int} {q : Nat} (h : IsSort l r) (ha : ∀ j, j < q → vlt (r.getD j []) x) (hb : q < r.length → vlt x (r.getD q [])) : IsSort (l ++ [x]) (r.take q ++ ([x] ++ r.drop q)) := by
  have hr : IsSort l (r.take q ++ r.drop q) := by rw [List.take_append_drop]; exact h
  refine hr.put (fun y hy => ?_) (fun y hy => ?_)
  · obtain ⟨j, hj, e⟩ := List.getElem_of_mem hy
    rw [List.length_take] at hj
    have := ha j (by omega)
    rw [show r.getD j [] = y by rw [← e]; simp [List.getD, show j < r.length by omega]] at this
    exact this
  · obtain ⟨j, hj, e⟩ := List.getElem_of_mem hy
    rw [List.length_drop] at hj
    rw [List.getElem_drop] at e
    have h1 := hb (by omega)
    by_cases c : j = 0
    · subst c
      rw [show r.getD q [] = y by rw [← e]; simp [List.getD, show q < r.length by omega]] at h1
      exact h1
    · have h2 := (List.pairwise_iff_getElem.1 h.asc) q (q + j) (by omega) (by omega) (by omega)
      rw [e] at h2
      rw [show r.getD q [] = r[q] by simp [List.getD, show q < r.length by omega]] at h1
      exact vlt_trans h1 h2
theorem wideR {rs : List (List Int)} {M : Nat} (h : ∀ i, (rs.getD i []).length ≤ M) : ∀ x ∈ rs, x.length ≤ M := by
  intro x hx
  obtain ⟨i, hi, e⟩ := List.getElem_of_mem hx
  have := h i
  rwa [show rs.getD i [] = rs[i] by simp [List.getD, hi], e] at this
theorem skip_at {l r : List (List Int)} {x : List Int} {q : Nat} (h : IsSort l r) (hq : q < r.length) (e : VSame (r.getD q []) x) : IsSort (l ++ [x]) r := by
  refine h.skip (y := r.getD q []) ?_ e.symm
  rw [show r.getD q [] = r[q] by simp [List.getD, hq]]
  exact List.getElem_mem hq
/-
  What the reference's Half and Both tell (IN PARTS).
-/

theorem MF.up {w : World} {ao : Option Addr} {n cap k l : Nat} {rs : List (List Int)} (h : MF w ao n cap rs k) (hl : k ≤ l) : MF w ao n cap rs l := RowsOf.imp (R := fun w a l c zs => VF w a l c zs k) h fun h => vfn_up h hl
/-
  What the reference's Product tells (IN PARTS).
-/

theorem VS.some {w : World} {ao : Option Addr} {n cap k : Nat} {zs : List Int} (h : VS w ao n cap zs k) (hp : 0 < n) : ∃ g off, ao = some ⟨g, off, none⟩ := h.vk.some hp
theorem prod_take {rs : List (List Int)} {f : List Int → List Int} {i : Nat} (hi : i < rs.length) : (rs.take (i + 1)).map f = (rs.take i).map f ++ [f (rs.getD i [])] := by
  rw [take_snoc [] hi, List.map_append]; rfl
theorem wsum_done {zs : List Int} {rs : List (List Int)} {n n' j : Nat} (hz : zs.length = n) (hr : rs.length = n') (hj : j = min n n') : wsum zs rs (longest rs) j = vprod zs rs := by subst hj; exact wsum_all hz hr
end Go.Proofs.Ytnpneloahajniaa
