/-
  The rows of whole numbers times the rows: the form's rows, and nought rows behind them.
-/
import Derived.Test.YtnaajmanpoobfaaGreatTTurned
namespace Go.Proofs.YtnaajmanpoobfaaGreat
open Go.RowKit Lb
set_option maxRecDepth 20000

theorem front_len {H : List (List Int)} {N n m : Nat} (hl : H.length = n) (h : ∀ i, i < n → (H.getD i []).length = N + n) : ∀ r ∈ (H.take m).map (List.take N), r.length = N := by
  intro r hr
  obtain ⟨s, hs, rfl⟩ := List.mem_map.1 hr
  have h1 := len_rows hl h s (List.mem_of_mem_take hs)
  rw [List.length_take, h1]; omega
theorem back_len {H : List (List Int)} {N n : Nat} (hl : H.length = n) (h : ∀ i, i < n → (H.getD i []).length = N + n) : ∀ i, i < n → ((H.map (List.drop N)).getD i []).length = n := by
  intro i hi
  rw [map_getD (by omega), List.length_drop, h i hi]; omega
theorem wide_prod {cs W H : List (List Int)} {N n : Nat} (h : WideL cs W N n) (hs : SameL W H) (hl : H.length = n) {i : Nat} (hi : i < n) (j : Nat) : (((H.map (List.drop N)).map fun r => vprod r cs).getD i []).getD j 0 = if j < N then ent H i j else 0 := by
  rw [map_getD (by rw [List.length_map]; omega), vprod_at, h.clen]
  split
  · rename_i c
    rw [h.times hs i c]
    rfl
  · rename_i c
    rw [sumN_congr (g := fun _ => 0) fun q hq => ?_]
    · exact sumN_nil0 _
    · rw [getD_out (v := cs.getD q []) (by rw [h.lens q hq]; omega), Int.mul_zero]
theorem prod_same {cs W H : List (List Int)} {N n m : Nat} (h : WideL cs W N n) (hs : SameL W H) (hl : H.length = n) {i : Nat} (hi : i < n) (him : i < m) : VSame (((H.map (List.drop N)).map fun r => vprod r cs).getD i []) (((H.take m).map (List.take N)).getD i []) := fun j => by
  rw [wide_prod h hs hl hi]
  have e := ent_map_take (l := H.take m) (k := N) i j
  rw [ent_take him] at e
  exact e.symm
theorem prod_nought {cs W H : List (List Int)} {N n m : Nat} {p : Nat → Nat} (h : WideL cs W N n) (hf : HForm H p) (hs : SameL W H) (hl : H.length = n) (hm : m ≤ n) (hp : ∀ i, i < n → (i < m ↔ p i < N)) {i : Nat} (hi : i < n) (him : m ≤ i) : vnought (((H.map (List.drop N)).map fun r => vprod r cs).getD i []) = true := by
  rw [vnought_iff]
  intro j
  rw [wide_prod h hs hl hi]
  split
  · rename_i c
    exact (h.front hf hs (by omega) (by rw [hl]; exact hp)).2.2 i him j c
  · rfl
theorem unit_lens (n : Nat) : ∀ r ∈ unitL n, r.length = n := len_rows (unitL_len n) fun _ hi => unit_len hi
theorem back_unit {cs W H g : List (List Int)} {N n : Nat} {q : Nat → Nat} (h : WideL cs W N n) (hs : SameL W H) (hg : HForm g q) (hsg : SameL (H.map (List.drop N)) g) (hgl : ∀ r ∈ g, r.length = n) : g = unitL n :=
  hnf_one hg (unit_form n) ((hsg.symm.trans (h.parts hs).2.symm).trans h.units.symm) hgl (unit_lens n)
theorem front_want {cs W H g : List (List Int)} {N n m : Nat} {p q : Nat → Nat} (h : WideL cs W N n) (hf : HForm H p) (hs : SameL W H) (hl : H.length = n) (hlen : ∀ i, i < n → (H.getD i []).length = N + n) (hm : m ≤ n) (hp : ∀ i, i < n → (i < m ↔ p i < N)) (hg : HForm g q) (hsg : SameL cs g) (hgl : ∀ r ∈ g, r.length = N) : (H.take m).map (List.take N) = g := by
  obtain ⟨h1, h2, _⟩ := h.front hf hs (m := m) (by omega) (by rw [hl]; exact hp)
  exact hnf_one h1 hg (h2.symm.trans hsg) (front_len hl hlen) hgl

end Go.Proofs.YtnaajmanpoobfaaGreat
