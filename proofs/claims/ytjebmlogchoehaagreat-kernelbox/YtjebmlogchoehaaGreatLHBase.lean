/-
  What the tenth stage's walks share: rows in their forms and their numbers; a row of own rows; rows cut to one length.
-/
import Derived.Test.YtjebmlogchoehaaGreatFew10
namespace Go.Proofs.YtjebmlogchoehaaGreat
open Go.RowKit Lb
set_option maxRecDepth 20000

theorem mf_ent {w : World} {ao : Option Addr} {n cap k : Nat} {rs : List (List Int)} (h : MF w ao n cap rs k) (i j : Nat) : (ent rs i j).natAbs < Bp k := by
  by_cases hi : i < n
  · obtain ⟨g, off, rfl⟩ := h.addr (by omega)
    obtain ⟨_, a, l, c, _, hv⟩ := RowsOf.at (R := fun w a l c zs => VF w a l c zs k) h hi
    exact vf_size hv j
  · rw [ent_out (by rw [h.len_eq]; omega)]
    have := Bp_pos k
    simpa using this
theorem ent_times (cl : List (List Int)) (x : Int) (i j : Nat) : ent (cl.map fun r => vtimes r x) i j = x * ent cl i j := by
  unfold ent
  by_cases c : i < cl.length
  · rw [show (cl.map fun r => vtimes r x).getD i [] = vtimes (cl.getD i []) x by simp [List.getD, c], vtimes_at, Int.mul_comm]
  · rw [show (cl.map fun r => vtimes r x).getD i [] = [] by simp [List.getD, List.getElem?_eq_none (Nat.le_of_not_lt c)], show cl.getD i [] = [] by simp [List.getD, List.getElem?_eq_none (Nat.le_of_not_lt c)]]
    simp
theorem map_getD {cl : List (List Int)} {f : List Int → List Int} {i : Nat} (h : i < cl.length) : (cl.map f).getD i [] = f (cl.getD i []) := by simp [List.getD, h]
theorem cut_form (rs : List (List Int)) {N : Nat} (h1 : 1 ≤ N) (h7 : N ≤ 7) : rform (rs.map fun r => vcut r N) (N : Int) = true := by
  refine rform_yes (by omega) fun i hi => ?_
  rw [List.length_map] at hi
  rw [map_getD hi, vcut_len]
theorem mf_up {w : World} {ao : Option Addr} {n cap k l : Nat} {rs : List (List Int)} (h : MF w ao n cap rs k) (hl : k ≤ l) : MF w ao n cap rs l := RowsOf.imp (R := fun w a l c zs => VF w a l c zs k) h fun h => vf_up h hl
theorem mo_set {w : World} {base g n cap k : Nat} {rs : List (List Int)} (h : MO w base (some ⟨g, 0, none⟩) n cap rs k) {i : Nat} (hi : i < n) {a : Option Addr} {l c : Nat} {zs : List Int} (hz : VF w a l c zs k) : MO (w.setCell ⟨g, i, none⟩ (.slice a l c)) base (some ⟨g, 0, none⟩) n cap (rs.set i zs) k := MOwn.set (R := fun w a l c zs => VF w a l c zs k) (steadyMO k) h hi hz
theorem MO.free {w : World} {base g n cap k : Nat} {rs : List (List Int)} (h : MO w base (some ⟨g, 0, none⟩) n cap rs k) (j : Nat) : w.frozen? ⟨g, j, none⟩ = false := MOwn.free (R := fun w a l c zs => VF w a l c zs k) h j
theorem MO.base_le {w : World} {base g n cap k : Nat} {rs : List (List Int)} (h : MO w base (some ⟨g, 0, none⟩) n cap rs k) : base ≤ g ∧ g < w.heap.size := MOwn.base_le (R := fun w a l c zs => VF w a l c zs k) h
theorem MO.at {w : World} {base g n cap k : Nat} {rs : List (List Int)} (h : MO w base (some ⟨g, 0, none⟩) n cap rs k) {i : Nat} (hi : i < n) : ∃ a l c, w.cell? ⟨g, i, none⟩ = some (.slice a l c) ∧ VF w a l c (rs.getD i []) k := by
  obtain ⟨_, a, l, c, h1, h2⟩ := RowsOf.at (R := fun w a l c zs => VF w a l c zs k) h.mf hi
  rw [Nat.zero_add] at h1
  exact ⟨a, l, c, h1, h2⟩
theorem vf_after {w : World} {base g n cap k l0 : Nat} {rs : List (List Int)} (h : MO w base (some ⟨g, 0, none⟩) n cap rs k) {i : Nat} {v : Value} {a : Option Addr} {l c : Nat} {zs : List Int} (hz : VF w a l c zs l0) : VF (w.setCell ⟨g, i, none⟩ v) a l c zs l0 := steadyMO l0 hz (grown_set1 w g i v) (MOwn.onlySl (R := fun w a l c zs => VF w a l c zs k) h)

#print axioms mf_ent
#print axioms vf_after
end Go.Proofs.YtjebmlogchoehaaGreat
