/-
  What rows.ranked tells: the rows' numbers in the rows' order.
-/
import Derived.Test.YtbdjkbonoofibaaRanked
namespace Go.Proofs.Ytbdjkbonoofibaa
open Go.RowKit Lb Go.Sort Go.Lib
set_option maxRecDepth 20000

/-- What only grew is the old world, with draws and blocks behind. -/
theorem up_grow {W w' : World} (h : Up W w') : ∃ q os', w' = grow (W.drewN q) os' := by
  obtain ⟨⟨h1, h2, h3, h4, h5⟩, hd⟩ := h
  refine ⟨w'.drawn - W.drawn, w'.heap.extract W.heap.size w'.heap.size, ?_⟩
  have hh : w'.heap = W.heap ++ w'.heap.extract W.heap.size w'.heap.size := by
    apply Array.ext_getElem?
    intro k
    rw [Array.getElem?_append]
    split
    · next c => exact h5 k c
    · next c =>
      rw [Array.getElem?_extract]
      split
      · congr 1; omega
      · rw [Array.getElem?_eq_none]; omega
  obtain ⟨he, ta, dr, os, ou⟩ := w'
  obtain ⟨he0, ta0, dr0, os0, ou0⟩ := W
  simp only at h1 h2 h3 hd hh
  simp only [grow, World.drewN, World.mk.injEq]
  exact ⟨hh, h2, by omega, h1, h3⟩
theorem below_sort {α : Type} [Inhabited α] (enc : α → Value) (W : World) (gv m : Nat) (dk : Array α) (os : Array Obj) (h : gv ≤ W.heap.size) : Below gv W (sortWorld enc W gv 0 m dk os) := by
  refine ⟨rfl, rfl, rfl, ?_, fun k hk => ?_⟩
  · simp [sortWorld, grow, putRow, mapBlock, Sort.ahead]
  · show ((W.heap.modify gv _) ++ os)[k]? = _
    rw [Array.getElem?_append, if_pos (by simp; omega), Array.getElem?_modify, if_neg (by omega)]
/-- The numbers themselves, as the sort has them. -/
def nums (m : Nat) : Array (Fin (m + 1)) := Array.ofFn fun i => i
theorem nums_size (m : Nat) : (nums m).size = m + 1 := by simp [nums]
theorem nums_at (m : Nat) {j : Nat} (h : j < m + 1) : (nums m)[j]! = ⟨j, h⟩ := by
  rw [getElem!_pos _ j (by rw [nums_size]; exact h)]
  simp [nums]
def encF {m : Nat} (i : Fin (m + 1)) : Value := .int .i64 (i.1 : Int)
theorem nums_list (m : Nat) : (nums m).toList.map (·.1) = List.range (m + 1) := by
  refine List.ext_getElem (by simp [nums]) fun i h1 h2 => ?_
  rw [List.getElem_map, List.getElem_range]
  have hi : i < (nums m).size := by simpa using h1
  have h3 := nums_at m (j := i) (by rw [nums_size] at hi; exact hi)
  rw [getElem!_pos _ i hi] at h3
  show ((nums m)[i]).1 = i
  rw [h3]
/-- Numbers as ints. -/
def natsI (ps : List Nat) : List Int := ps.map fun p : Nat => (p : Int)
theorem range_nodup (n : Nat) : (List.range n).Nodup := List.nodup_range
theorem isRank_of {rs : List (List Int)} {m : Nat} (hl : rs.length = m + 1) {d' : Array (Fin (m + 1))} (hp : PermIn 0 (m + 1) (nums m) d') (hs : SortedIn (ltOf fun i j : Fin (m + 1) => rankC rs i.1 j.1) 0 (m + 1) d') : IsRank rs (d'.toList.map (·.1)) := by
  have hsz : d'.size = m + 1 := by rw [hp.1, nums_size]
  have hperm : d'.toList.Perm (nums m).toList := by
    have := hp.2.2
    rw [Array.extract_eq_self_of_le (by omega), Array.extract_eq_self_of_le (by rw [nums_size]; exact Nat.le_refl _)] at this
    exact this
  have hperm' : (d'.toList.map (·.1)).Perm (List.range (m + 1)) := by
    rw [← nums_list]
    exact hperm.map _
  refine ⟨by rw [hl]; exact hperm', ?_⟩
  have hnd : (d'.toList.map (·.1)).Nodup := hperm'.nodup_iff.2 (range_nodup _)
  rw [List.pairwise_iff_getElem]
  intro i j hi hj hij
  have hi' : i < d'.size := by simpa using hi
  have hj' : j < d'.size := by simpa using hj
  have h1 := hs i j (Nat.zero_le _) hij (by omega)
  rw [getElem!_pos d' i hi', getElem!_pos d' j hj'] at h1
  unfold ltOf at h1
  rw [decide_eq_false_iff_not, rankC_lt] at h1
  simp only [List.getElem_map, Array.getElem_toList]
  rcases ahead_tri rs d'[i].1 d'[j].1 with c | c | c
  · exact c
  · exfalso
    have := (List.pairwise_iff_getElem.1 hnd) i j hi hj hij
    simp only [List.getElem_map, Array.getElem_toList] at this
    exact this c
  · exact absurd c h1
set_option maxHeartbeats 1000000 in
/-- The sort of the numbers, as ranked calls it. -/
theorem sortCall (g off n cap : Nat) (rs : List (List Int)) (k : Nat) (w W : World) (h : MK w (some ⟨g, off, none⟩) n cap rs k) (hk : k ≤ 900000) (hr : ∀ i, (rs.getD i []).length ≤ 1000000) (hn : n ≤ 1000000) (hp : 0 < n) (bx gv : Nat) (zs : List Int) (hbx : bx = w.heap.size) (hgv : bx < gv) (hB : W.cell? ⟨bx, 0, none⟩ = some (.slice (some ⟨g, off, none⟩) n cap)) (hb : Below w.heap.size w W) (ho : IOwn W w.heap.size (some ⟨gv, 0, none⟩) n n zs) (hz : ∀ j, j < n → zs.getD j 0 = (j : Int)) :
    Calls Try.prog 76 #[.slice (some ⟨gv, 0, none⟩) n n, .func (.func 77) #[] #[.pointer (some ⟨bx, 0, none⟩)]] W fun e w' => e = .returned (.tuple #[]) ∧ ∃ ps : List Nat, IsRank rs ps ∧ IRowAt w' (some ⟨gv, 0, none⟩) n n (natsI ps) ∧ Below w.heap.size w w' := by
  obtain ⟨m, rfl⟩ : ∃ m, n = m + 1 := ⟨n - 1, by omega⟩
  have hlen : rs.length = m + 1 := h.len_eq
  have hgs := ho.base_le
  have hbW : bx < W.heap.size := by omega
  have hH : Holds (encF (m := m)) W gv 0 (nums m) := by
    intro j hj
    rw [nums_size] at hj
    refine ⟨?_, ho.free _⟩
    rw [nums_at m hj]
    have := (ho.irow.at hj).2
    rw [hz j hj] at this
    exact this
  have hsub : ∀ mm (dk : Array (Fin (m + 1))) os, Below gv W (sortWorld (encF (m := m)) W gv 0 mm dk os) := fun mm dk os => below_sort _ W gv mm dk os (Nat.le_of_lt hgs.2)
  have hcmp : CmpLays1 Try.prog 77 #[.pointer (some ⟨bx, 0, none⟩)] (encF (m := m)) (fun i j : Fin (m + 1) => rankC rs i.1 j.1) gv 0 (nums m).size W := by
    intro mm os dk hs x y
    have hbs := hsub mm dk os
    have hbw : Below w.heap.size w (sortWorld (encF (m := m)) W gv 0 mm dk os) := hb.trans (hbs.mono hgs.1)
    have hb0 : (sortWorld (encF (m := m)) W gv 0 mm dk os).cell? ⟨bx, 0, none⟩ = some (.slice (some ⟨g, off, none⟩) (m + 1) cap) := by
      rw [← hB]
      exact hbs.cell (p := ⟨bx, 0, none⟩) hgv
    exact (closureK g off (m + 1) cap rs k bx x.1 y.1 _ (h.later hbw) hk hr (Nat.lt_of_lt_of_le hbW hbs.size) hb0 x.2 y.2).mono fun e w' ⟨he, hu⟩ => ⟨he, up_grow hu⟩
  have eg : ∀ args w, (callFunc 77 args).run Try.prog w = .ok (.enter 77 args) w := enters_of Try.func77 (by kernel_rfl) rfl
  have hcon := Any.slices_SortFunc sortL (encF (m := m)) (fun _ => rfl) (fun i j : Fin (m + 1) => rankC rs i.1 j.1) (rank_swo rs) 77 #[.pointer (some ⟨bx, 0, none⟩)] gv 0 (m + 1) (nums m) W eg hcmp hH hgs.2 (by rw [nums_size]; omega)
  rw [nums_size] at hcon
  change Calls Try.prog 76 _ _ _ at hcon
  refine hcon.mono ?_
  rintro e w' ⟨rfl, d', q, os, hperm, hsort, rfl⟩
  have hrank := isRank_of hlen hperm hsort
  have hsz : d'.size = m + 1 := by rw [hperm.1, nums_size]
  have hbs := hsub q d' os
  refine ⟨rfl, d'.toList.map (·.1), hrank, ⟨?_, Nat.le_refl _, by unfold maxLen; omega, fun e => by simp at e, fun i => ?_, fun _ => ⟨gv, 0, rfl, Nat.lt_of_lt_of_le hgs.2 hbs.size, fun i hi => ?_⟩⟩, hb.trans (hbs.mono hgs.1)⟩
  · simp [natsI, hsz]
  · by_cases hi : i < m + 1
    · have e : (natsI (d'.toList.map (·.1))).getD i 0 = ((d'[i]'(by omega)).1 : Int) := by simp [natsI, List.getD, show i < d'.size by omega]
      rw [e]
      have := (d'[i]'(by omega)).2
      omega
    · rw [getD_out (by simp [natsI]; omega)]; omega
  · have hh := (show SW (encF (m := m)) W gv 0 d' (sortWorld (encF (m := m)) W gv 0 q d' os) from ⟨q, os, rfl⟩).holds hgs.2 hH (by rw [hsz, nums_size])
    have := (hh i (by omega)).1
    rw [this, getElem!_pos d' i (by omega)]
    simp [encF, natsI, List.getD, show i < d'.size by omega]
theorem sortNone (p : Option Addr) (cap : Nat) (fv : Value) (w : World) : Calls Try.prog 76 #[.slice p 0 cap, fv] w fun e w' => e = .returned (.tuple #[]) ∧ w' = w :=
  AnyF.slices_SortFunc_none (P := Try.prog) (ρ := sortL_ren) { sortL with } p cap fv w
theorem isRank_nil : IsRank [] [] := ⟨List.Perm.refl _, List.Pairwise.nil⟩
set_option maxHeartbeats 1600000 in
theorem rankedK (ao : Option Addr) (n cap : Nat) (rs : List (List Int)) (k : Nat) (w : World) (h : MK w ao n cap rs k) (hk : k ≤ 900000) (hr : ∀ i, (rs.getD i []).length ≤ 1000000) (hn : n ≤ 1000000) :
    Calls Try.prog 53 #[.slice ao n cap] w fun e w' => ∃ a1 c1 ps, e = .returned (.slice a1 n c1) ∧ IsRank rs ps ∧ IRowAt w' a1 n c1 (natsI ps) ∧ RowKit.Below w.heap.size w w' := by
  have HL := hide h.len_eq
  go_enter Try.func53, Try.ntmps53
  go_upto_region 1 with fail
  obtain ⟨W, hWe⟩ : ∃ W, W = w.alloc (.cells #[.slice ao n cap] 22) := ⟨_, rfl⟩
  have hsW : W.heap.size = w.heap.size + 1 := by rw [hWe]; simp
  have hB : W.cell? ⟨w.heap.size, 0, none⟩ = some (.slice ao n cap) := by rw [hWe]; simp
  have hb0 : RowKit.Below w.heap.size w W := by rw [hWe]; exact below_new w _
  rw [← hWe]
  clear hWe
  have hbx : w.heap.size < W.heap.size := by omega
  go_wp2_with (at_make; refine make_ints rfl _ _ 50 Try.underlying50 rfl w.heap.size .i64 .i64 _ _ n rfl rfl (by omega) (by omega) (by omega) (by omega) ?_)
  intro w2 hown hgrow
  have hbg : RowKit.Below W.heap.size W w2 := (RowKit.Below.refl _ _).grown hgrow (Nat.le_refl _) (fun _ h => by simp at h)
  obtain ⟨gv, egv⟩ : ∃ gv, gv = w.heap.size + 1 := ⟨_, rfl⟩
  rw [← egv] at hown ⊢
  have hgb : w.heap.size < gv := by omega
  have HC := hide ((hbg.cell (p := ⟨w.heap.size, 0, none⟩) hbx).trans hB)
  have HB := hide (Below.step hb0 hbg)
  clear hgrow hbg hb0 hB hbx egv hsW
  go_wp2_with fail
  go_loopw [10] (fun t wr => ∃ (i : Nat) (zs : List Int), i ≤ n ∧ t = .int .i64 (i : Int) ∧ IOwn wr w.heap.size (some ⟨gv, 0, none⟩) n n zs ∧ (∀ j, j < i → zs.getD j 0 = (j : Int)) ∧ wr.cell? ⟨w.heap.size, 0, none⟩ = some (.slice ao n cap) ∧ RowKit.Below w.heap.size w wr) (fun t _ => n - (intOf t).toNat)
  case atStart => exact ⟨0, _, Nat.zero_le _, rfl, hown, fun j hj => absurd hj (by omega), unhide HC, unhide HB⟩
  case round =>
    clear hown HB HC
    obtain ⟨i, zs, hi, rfl, hv, hall, hC, hB⟩ := hrel
    have HA := hide hall
    clear hall
    have HB := hide hB
    have HC := hide hC
    clear hB hC
    by_cases hlt : i < n
    · have hc1 := (hv.irow.at hlt).2
      rw [Nat.zero_add] at hc1
      have q3 := hv.free i
      have hbl := hv.base_le
      go_wp2
      go_roundw
      case rel =>
        refine ⟨i + 1, zs.set i (i : Int), by omega, by go_num, hv.set i (by unfold In64'; omega), put_each (f := fun j => (j : Int)) (by rw [hv.len]; omega) (unhide HA), ?_, (unhide HB).setCell (by simpa using hbl.1) _⟩
        rw [← unhide HC]
        exact ((RowKit.Below.refl gv wr).setCell (p := ⟨gv, i, none⟩) (Nat.le_refl _) _).cell (p := ⟨w.heap.size, 0, none⟩) hgb
      case measure => simp [intOf]; omega
    · have hin : i = n := by omega
      subst hin
      by_cases h0 : i = 0
      · subst h0
        obtain rfl : rs = [] := List.eq_nil_of_length_eq_zero (unhide HL)
        go_wp2_with fail
        refine (sortNone _ _ _ _).mono ?_
        rintro e w3 ⟨rfl, rfl⟩
        go_wp2
        go_ret
        exact ⟨_, _, [], rfl, isRank_nil, ⟨rfl, Nat.le_refl _, Nat.zero_le _, fun e => by simp at e, fun i => by simp [natsI, List.getD], fun h => absurd h (by omega)⟩, unhide HB⟩
      · obtain ⟨g, off, rfl⟩ := h.addr (by omega)
        go_wp2_with fail
        refine (sortCall g off i cap rs k w _ h hk hr hn (by omega) w.heap.size gv zs rfl hgb (unhide HC) (unhide HB) hv (unhide HA)).mono ?_
        rintro e w3 ⟨rfl, ps, hps, hrow, hb1⟩
        go_wp2
        go_ret
        exact ⟨_, _, ps, rfl, hps, hrow, hb1⟩
#print axioms sortCall
#print axioms rankedK
end Go.Proofs.Ytbdjkbonoofibaa
