/-
  More on steps that the call itself made: a part of them, a row of them, one put anew.
-/
import Derived.Test.YtjebmlogchoehaaGreatHLow
namespace Go.Proofs.YtjebmlogchoehaaGreat
open Go.RowKit Lb
set_option maxRecDepth 20000

theorem wrap_natS (q : Nat) (h : q ≤ 9223372036854775807) : IntKind.i64.wrap (q : Int) = (q : Int) := by
  simp [IntKind.wrap, IntKind.bits, IntKind.signed]
  omega
theorem sown_up {w : World} {base : Nat} {ao : Option Addr} {n cap k l : Nat} {p : Nat → Nat} {rs : List (List Int)} (h : SOwn w base ao n cap p rs k) (hl : k ≤ l) : SOwn w base ao n cap p rs l := h.tight fun i hi j => Nat.lt_of_lt_of_le (h.rows.size i hi j) (Bp_le hl)
theorem SOwn.at {w : World} {base g n cap k : Nat} {p : Nat → Nat} {rs : List (List Int)} (h : SOwn w base (some ⟨g, 0, none⟩) n cap p rs k) {i : Nat} (hi : i < n) : g < w.heap.size ∧ ∃ a l c, w.cell? ⟨g, i * 2, none⟩ = some (.int .i64 (p i : Int)) ∧ w.cell? ⟨g, i * 2 + 1, none⟩ = some (.slice a l c) ∧ VF w a l c (rs.getD i []) k := by
  obtain ⟨hg, a, l, c, h1, h2, h3⟩ := h.rows.at hi
  rw [Nat.zero_add] at h1 h2
  exact ⟨hg, a, l, c, h1, h2, h3⟩
theorem slice_tailS {w : World} {base : Nat} {ao : Option Addr} {n cap k q : Nat} {p : Nat → Nat} {rs : List (List Int)} (h : SOwn w base ao n cap p rs k) (hq : q ≤ n) : ∃ at2, (∀ W, (Instr.sliceAt 76 (.slice ao n cap) (some (.int .i64 (q : Int))) none none).run Tryz.prog W = .ok (.slice at2 (n - q) (cap - q)) W) ∧ SRows w at2 (n - q) (cap - q) (fun i => p (q + i)) (rs.drop q) k := by
  have h0 : (0 : Int) ≤ (q : Int) := by omega
  have hc := h.rows.cap_le
  have hmx := h.rows.cap_max
  have hl := h.len
  rcases h.nil_or with ⟨rfl, rfl, rfl⟩ | ⟨g, rfl⟩
  · obtain rfl : q = 0 := by omega
    refine ⟨none, fun W => ?_, by rw [List.eq_nil_of_length_eq_zero hl]; exact srows_nil w _ k⟩
    simp [Instr.sliceAt, Instr.slice, Instr.sliceBounds, Instr.sliceBound, run_underlying Tryz.underlying76, go_sem]
  · by_cases c : cap = q
    · have hqm : q = n := by omega
      subst hqm
      refine ⟨some ⟨g, 0, none⟩, fun W => ?_, ?_⟩
      · simp [Instr.sliceAt, Instr.slice, Instr.sliceBounds, Instr.sliceBound, run_underlying Tryz.underlying76, go_sem, h0, c]
      · rw [Nat.sub_self, List.drop_of_length_le (by omega)]
        exact SRows.empty (by omega)
    · refine ⟨some ⟨g, 0 + q * 2, none⟩, fun W => ?_, SRows.drop h.rows hq⟩
      simp [Instr.sliceAt, Instr.slice, Instr.sliceBounds, Instr.sliceBound, run_underlying Tryz.underlying76, go_sem, h0, c]
      exact fun e => absurd e (by omega)
theorem set_len_all {rs : List (List Int)} {n N i : Nat} {v : List Int} (h : ∀ t, t < n → (rs.getD t []).length = N) (hi : i < rs.length) (hv : v.length = N) : ∀ t, t < n → ((rs.set i v).getD t []).length = N := by
  intro t ht
  by_cases c : t = i
  · subst c; rw [show (rs.set t v).getD t [] = v by simp [List.getD, hi]]; exact hv
  · rw [show (rs.set i v).getD t [] = rs.getD t [] by simp [List.getD, List.getElem?_set_ne (Ne.symm c)]]; exact h t ht
theorem set_small {rs : List (List Int)} {n b i : Nat} {v : List Int} (h : ∀ t, i ≤ t → t < n → ∀ j, (ent rs t j).natAbs < Bp b) (hi : i < rs.length) : ∀ t, i + 1 ≤ t → t < n → ∀ j, (ent (rs.set i v) t j).natAbs < Bp b := by
  intro t h1 h2 j
  rw [ent_other hi (by omega)]
  exact h t (by omega) h2 j
theorem add_len_all {rs : List (List Int)} {n N : Nat} {v : List Int} (h : ∀ t, t < n → (rs.getD t []).length = N) (hl : rs.length = n) (hv : v.length = N) : ∀ t, t < n + 1 → ((rs ++ [v]).getD t []).length = N := by
  intro t ht
  by_cases c : t < n
  · rw [getD_left (by omega)]; exact h t c
  · rw [getD_right (by omega), show t - rs.length = 0 by omega]; exact hv

#print axioms slice_tailS
end Go.Proofs.YtjebmlogchoehaaGreat
