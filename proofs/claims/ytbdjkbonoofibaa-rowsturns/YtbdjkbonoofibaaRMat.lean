/-
  What Mul, Turn and Product of package rows tell, and column and weighed, by which they go.
-/
import Derived.Test.YtbdjkbonoofibaaMOwn2
import Derived.Test.YtbdjkbonoofibaaJF
import Derived.Test.YtbdjkbonoofibaaJE
import Derived.Deep.CutRange
namespace Go.Proofs.Ytbdjkbonoofibaa
open Go.RowKit Lb
set_option maxRecDepth 20000

theorem vf_up {w : World} {ao : Option Addr} {n cap k l : Nat} {zs : List Int} (h : VF w ao n cap zs k) (hl : k ≤ l) : VF w ao n cap zs l := VecOf.mono h (fun _ h => h.up hl)
theorem mapR_at {f : List Int → Int} {rs : List (List Int)} {i : Nat} (hi : i < rs.length) : (rs.map f).getD i 0 = f (rs.getD i []) := by simp [List.getD, hi]
theorem map_rows_of {f : List Int → Int} {rs : List (List Int)} {ps : List Int} {n : Nat} (hl : rs.length = n) (hp : ps.length = n) (h : ∀ j, j < n → ps.getD j 0 = f (rs.getD j [])) : ps = rs.map f := by
  refine vec_ext (by rw [List.length_map, hl, hp]) fun j hj => ?_
  rw [h j (by omega), mapR_at (by omega)]
set_option maxHeartbeats 2000000 in
theorem rowsMulK (ao : Option Addr) (n cap : Nat) (rs : List (List Int)) (k : Nat) (ap : Option Addr) (n' cp : Nat) (ys : List Int) (l M : Nat) (w : World) (h : MK w ao n cap rs k) (h' : VK w ap n' cp ys l) (hk : k ≤ 400000) (hl : l ≤ 400000) (hr : ∀ i, (rs.getD i []).length ≤ M) (hM : M ≤ 100000) (hn : n ≤ 1000000) (hn' : n' ≤ 100000) :
    Calls Try.prog 14 #[.slice ao n cap, .slice ap n' cp] w fun e w' => ∃ a1 c1, e = .returned (.slice a1 n c1) ∧ VF w' a1 n c1 (rs.map fun r => vdot r ys) (k + l + M) ∧ Below w.heap.size w w' := by
  have HL := hide h.len_eq
  have HQ := hide hr
  clear hr
  go_enter Try.func14, Try.ntmps14
  go_wp2_with (at_make; refine make_vec rfl _ _ 24 Try.underlying24 rfl w.heap.size .i64 .i64 _ _ n (k + l + M) rfl rfl (by omega) (by omega) (by omega) (by omega) ?_)
  intro w2 hown hgrow
  have hbg : Below w.heap.size w w2 := (Below.refl _ _).grown hgrow (Nat.le_refl _) (fun _ h => by simp at h)
  have HB := hide hbg
  clear hgrow hbg
  obtain ⟨gv, egv⟩ : ∃ gv, gv = w.heap.size := ⟨_, rfl⟩
  rw [show (some ⟨w.heap.size, 0, none⟩ : Option Addr) = some ⟨gv, 0, none⟩ by rw [egv]] at hown ⊢
  clear egv
  go_wp2_with fail
  go_loopw [13] (fun t wr => ∃ (i : Nat) (ps : List Int), i ≤ n ∧ t = .int .i64 (i : Int) ∧ OwnV wr w.heap.size (some ⟨gv, 0, none⟩) n n ps (k + l + M) ∧ (∀ j, j < i → ps.getD j 0 = vdot (rs.getD j []) ys) ∧ Below w.heap.size w wr) (fun t _ => n - (intOf t).toNat)
  case atStart => exact ⟨0, _, Nat.zero_le _, rfl, hown, fun j hj => absurd hj (by omega), unhide HB⟩
  case round =>
    clear hown HB
    obtain ⟨i, ps, hi, rfl, hv, hall, hB⟩ := hrel
    have HA := hide hall
    clear hall
    have HB := hide hB
    clear hB
    by_cases hlt : i < n
    · obtain ⟨g, off, rfl⟩ := h.addr (by omega)
      obtain ⟨hg, a5, l5, c5, hc5, hv5⟩ := RowsOf.at (R := fun w a l c zs => VK w a l c zs k) h hlt
      have hn5 : l5 ≤ M := by rw [← hv5.len_eq]; exact unhide HQ i
      replace hv5 := hv5.later (unhide HB)
      have f2 := ((unhide HB).cell (p := ⟨g, off + i, none⟩) hg).trans hc5
      have hgr := Nat.lt_of_lt_of_le hg (unhide HB).size
      clear hc5 hg
      go_wp2_with fail
      refine (vdotK _ _ _ (rs.getD i []) k _ _ _ ys l _ hv5 (h'.later (unhide HB)) hk hl (by omega) hn').mono ?_
      rintro e w5 ⟨b7, a7, l7, c7, rfl, h7, hb1⟩
      replace hv := hv.later hb1
      replace HB := hide (Below.step (unhide HB) hb1)
      clear hb1 hv5 f2 hgr
      obtain ⟨b6, a6, l6, c6, he6, _⟩ := hv.vf.at (show i < n by omega)
      rw [Nat.zero_add] at he6
      obtain ⟨q1, q2⟩ := he6.facts
      have q3 := hv.free (i * 2)
      have q4 := hv.free (i * 2 + 1)
      have hbl := hv.base_le
      go_wp2
      go_roundw
      case rel =>
        refine ⟨i + 1, ps.set i (vdot (rs.getD i []) ys), by omega, by go_num, hv.set (by omega) (h7.up (by omega)), put_each (f := fun j => vdot (rs.getD j []) ys) (by rw [hv.len]; omega) (unhide HA), ?_⟩
        exact ((unhide HB).setCell (by simpa using hbl.1) _).setCell (by simpa using hbl.1) _
      case measure => simp [intOf]; omega
    · have hin : i = n := by omega
      subst hin
      have hps := map_rows_of (f := fun r => vdot r ys) (unhide HL) hv.len (unhide HA)
      subst hps
      go_wp2
      go_ret
      exact ⟨_, _, rfl, hv.vf, unhide HB⟩

theorem col_skip {rs : List (List Int)} {ps : List Int} {i p : Nat} (h : ∀ j, ps.getD j 0 = if j < i then (rs.getD j []).getD p 0 else 0) (hp : (rs.getD i []).length ≤ p) : ∀ j, ps.getD j 0 = if j < i + 1 then (rs.getD j []).getD p 0 else 0 := by
  intro j
  rw [h j]
  by_cases e : j = i
  · subst e
    rw [if_neg (by omega), if_pos (by omega), getD_out hp]
  · by_cases c : j < i
    · rw [if_pos c, if_pos (by omega)]
    · rw [if_neg c, if_neg (by omega)]
theorem col_put {rs : List (List Int)} {ps : List Int} {i p : Nat} (hi : i < ps.length) (h : ∀ j, ps.getD j 0 = if j < i then (rs.getD j []).getD p 0 else 0) : ∀ j, (ps.set i ((rs.getD i []).getD p 0)).getD j 0 = if j < i + 1 then (rs.getD j []).getD p 0 else 0 := by
  intro j
  by_cases e : j = i
  · subst e
    rw [if_pos (by omega)]
    simp [List.getD, hi]
  · rw [show (ps.set i ((rs.getD i []).getD p 0)).getD j 0 = ps.getD j 0 by simp [List.getD, List.getElem?_set_ne (Ne.symm e)], h j]
    by_cases c : j < i
    · rw [if_pos c, if_pos (by omega)]
    · rw [if_neg c, if_neg (by omega)]
theorem zerosR_at (n j : Nat) : (List.replicate n (0 : Int)).getD j 0 = 0 := by
  rcases Nat.lt_or_ge j n with c | c
  · simp [List.getD, c]
  · exact getD_out (by simp; exact c)
set_option maxHeartbeats 2000000 in
theorem columnK (ao : Option Addr) (n cap : Nat) (rs : List (List Int)) (k p M : Nat) (w : World) (h : MK w ao n cap rs k) (hr : ∀ i, (rs.getD i []).length ≤ M) (hn : n ≤ 1000000) (hp : p ≤ 1000000) :
    Calls Try.prog 49 #[.slice ao n cap, .int .i64 (p : Int)] w fun e w' => ∃ a1 c1, e = .returned (.slice a1 n c1) ∧ VF w' a1 n c1 (rs.map fun r => r.getD p 0) k ∧ Below w.heap.size w w' := by
  have HL := hide h.len_eq
  have HQ := hide hr
  clear hr
  go_enter Try.func49, Try.ntmps49
  go_wp2_with (at_make; refine make_vec rfl _ _ 24 Try.underlying24 rfl w.heap.size .i64 .i64 _ _ n k rfl rfl (by omega) (by omega) (by omega) (by omega) ?_)
  intro w2 hown hgrow
  have hbg : Below w.heap.size w w2 := (Below.refl _ _).grown hgrow (Nat.le_refl _) (fun _ h => by simp at h)
  have HB := hide hbg
  clear hgrow hbg
  obtain ⟨gv, egv⟩ : ∃ gv, gv = w.heap.size := ⟨_, rfl⟩
  rw [show (some ⟨w.heap.size, 0, none⟩ : Option Addr) = some ⟨gv, 0, none⟩ by rw [egv]] at hown ⊢
  clear egv
  go_wp2_with fail
  go_loopw [13] (fun t wr => ∃ (i : Nat) (ps : List Int), i ≤ n ∧ t = .int .i64 (i : Int) ∧ OwnV wr w.heap.size (some ⟨gv, 0, none⟩) n n ps k ∧ (∀ j, ps.getD j 0 = if j < i then (rs.getD j []).getD p 0 else 0) ∧ Below w.heap.size w wr) (fun t _ => n - (intOf t).toNat)
  case atStart => exact ⟨0, _, Nat.zero_le _, rfl, hown, fun j => by rw [zerosR_at, if_neg (by omega)], unhide HB⟩
  case round =>
    clear hown HB
    obtain ⟨i, ps, hi, rfl, hv, hall, hB⟩ := hrel
    have HA := hide hall
    clear hall
    have HB := hide hB
    clear hB
    by_cases hlt : i < n
    · obtain ⟨g, off, rfl⟩ := h.addr (by omega)
      obtain ⟨hg, a5, l5, c5, hc5, hv5⟩ := RowsOf.at (R := fun w a l c zs => VK w a l c zs k) h hlt
      have hn5 : l5 ≤ M := by rw [← hv5.len_eq]; exact unhide HQ i
      replace hv5 := hv5.later (unhide HB)
      have f2 := ((unhide HB).cell (p := ⟨g, off + i, none⟩) hg).trans hc5
      have hgr := Nat.lt_of_lt_of_le hg (unhide HB).size
      clear hc5 hg
      have HV5 := hide hv5.len_eq
      by_cases hpl : p < l5
      · have hpl' : (p : Int) < (l5 : Int) := by omega
        have hp0 : (0 : Int) ≤ (p : Int) := by omega
        obtain ⟨g7, off7, rfl⟩ := hv5.some (by omega)
        obtain ⟨b8, a8, l8, c8, he8, hy8⟩ := hv5.at hpl
        obtain ⟨f3, f4⟩ := he8.facts
        have hg8 := he8.1
        go_wp2_with fail
        refine (formK b8 a8 l8 c8 ((rs.getD i []).getD p 0) k _ hy8).mono ?_
        rintro e w5 ⟨b7, a7, l7, c7, rfl, h7, hb1⟩
        replace hv := hv.later hb1
        replace HB := hide (Below.step (unhide HB) hb1)
        clear hb1 hv5 f2 hgr f3 f4 he8 hg8 hy8
        obtain ⟨b6, a6, l6, c6, he6, _⟩ := hv.vf.at (show i < n by omega)
        rw [Nat.zero_add] at he6
        obtain ⟨q1, q2⟩ := he6.facts
        have q3 := hv.free (i * 2)
        have q4 := hv.free (i * 2 + 1)
        have hbl := hv.base_le
        go_wp2
        go_roundw
        case rel =>
          refine ⟨i + 1, ps.set i ((rs.getD i []).getD p 0), by omega, by go_num, hv.set (by omega) h7, col_put (by rw [hv.len]; omega) (unhide HA), ?_⟩
          exact ((unhide HB).setCell (by simpa using hbl.1) _).setCell (by simpa using hbl.1) _
        case measure => simp [intOf]; omega
      · have hpl' : ¬ (p : Int) < (l5 : Int) := by omega
        go_wp2
        go_roundw
        case rel => exact ⟨i + 1, ps, by omega, by go_num, hv, col_skip (unhide HA) (by rw [unhide HV5]; omega), unhide HB⟩
        case measure => simp [intOf]; omega
    · have hin : i = n := by omega
      subst hin
      have hps : ps = rs.map fun r => r.getD p 0 := map_rows_of (f := fun r => r.getD p 0) (unhide HL) hv.len fun j hj => by rw [unhide HA j, if_pos hj]
      subst hps
      go_wp2
      go_ret
      exact ⟨_, _, rfl, hv.vf, unhide HB⟩

theorem put_row {ss : List (List Int)} {i : Nat} {f : Nat → List Int} (hi : i < ss.length) (h : ∀ j, j < i → ss.getD j [] = f j) : ∀ j, j < i + 1 → (ss.set i (f i)).getD j [] = f j := by
  intro j hj
  by_cases e : j = i
  · subst e
    simp [List.getD, hi]
  · rw [show (ss.set i (f i)).getD j [] = ss.getD j [] by simp [List.getD, List.getElem?_set_ne (Ne.symm e)]]
    exact h j (by omega)
theorem rows_of {ss : List (List Int)} {n : Nat} {f : Nat → List Int} (hl : ss.length = n) (h : ∀ j, j < n → ss.getD j [] = f j) : ss = (List.range n).map f := by
  refine List.ext_getElem (by rw [List.length_map, List.length_range, hl]) fun i h1 h2 => ?_
  have := h i (by omega)
  rw [show ss.getD i [] = ss[i] by simp [List.getD, h1]] at this
  rw [this]
  simp
set_option maxHeartbeats 2000000 in
theorem turnK (ao : Option Addr) (n cap : Nat) (rs : List (List Int)) (k M : Nat) (x : Int) (w : World) (h : MK w ao n cap rs k) (hr : ∀ i, (rs.getD i []).length ≤ M) (hn : n ≤ 1000000) :
    Calls Try.prog 18 #[.slice ao n cap, .int .i64 x] w fun e w' => ∃ a1 c1, e = .returned (.slice a1 (room x) c1) ∧ MF w' a1 (room x) c1 (vturn rs (room x)) k ∧ Below w.heap.size w w' := by
  have hrm := room_le x
  have hz := vzeroK x 0 w
  obtain ⟨m, em⟩ : ∃ m, m = room x := ⟨_, rfl⟩
  rw [← em] at hrm hz ⊢
  have HZ := hide hz
  clear em hz
  go_enter Try.func18, Try.ntmps18
  go_wp2_with fail
  refine (unhide HZ).mono ?_
  rintro e w1 ⟨gz, rfl, _, hb1⟩
  have hsz1 := hb1.size
  go_wp2_with (at_make; refine make_rows (R := fun w a l c zs => VF w a l c zs k) (fun w => vf_nil w _) rfl _ _ 22 Try.underlying22 rfl w.heap.size .i64 .i64 _ _ m rfl rfl (by omega) (by omega) (by omega) (by omega) ?_)
  intro w2 hown hgrow
  have hbg : Below w1.heap.size w1 w2 := (Below.refl _ _).grown hgrow (Nat.le_refl _) (fun _ h => by simp at h)
  have HB := hide (Below.step hb1 hbg)
  clear hgrow hbg HZ
  obtain ⟨gv, egv⟩ : ∃ gv, gv = w1.heap.size := ⟨_, rfl⟩
  rw [← egv] at hown ⊢
  clear egv hsz1
  go_wp2_with fail
  go_loopw [13] (fun t wr => ∃ (i : Nat) (ss : List (List Int)), i ≤ m ∧ t = .int .i64 (i : Int) ∧ MO wr w.heap.size (some ⟨gv, 0, none⟩) m m ss k ∧ (∀ j, j < i → ss.getD j [] = rs.map fun r => r.getD j 0) ∧ Below w.heap.size w wr) (fun t _ => m - (intOf t).toNat)
  case atStart => exact ⟨0, _, Nat.zero_le _, rfl, hown, fun j hj => absurd hj (by omega), unhide HB⟩
  case round =>
    clear hown HB hb1
    obtain ⟨i, ss, hi, rfl, hv, hall, hB⟩ := hrel
    have HA := hide hall
    clear hall
    have HB := hide hB
    clear hB
    by_cases hlt : i < m
    · go_wp2_with fail
      refine (columnK _ _ _ rs k i M _ (h.later (unhide HB)) hr hn (by omega)).mono ?_
      rintro e w5 ⟨a7, c7, rfl, h7, hb1⟩
      replace hv := hv.later hb1
      replace HB := hide (Below.step (unhide HB) hb1)
      clear hb1
      obtain ⟨hg6, a6, l6, c6, f6, _⟩ := RowsOf.at (R := fun w a l c zs => VF w a l c zs k) hv.mf (show i < m by omega)
      rw [Nat.zero_add] at f6
      have q3 := MOwn.free (R := fun w a l c zs => VF w a l c zs k) hv i
      have hbl := MOwn.base_le (R := fun w a l c zs => VF w a l c zs k) hv
      go_wp2
      go_roundw
      case rel =>
        refine ⟨i + 1, ss.set i (rs.map fun r => r.getD i 0), by omega, by go_num, MOwn.set (R := fun w a l c zs => VF w a l c zs k) (steadyMO _) hv (by omega) h7, put_row (f := fun j => rs.map fun r => r.getD j 0) (by rw [hv.len]; omega) (unhide HA), ?_⟩
        exact (unhide HB).setCell (by simpa using hbl.1) _
      case measure => simp [intOf]; omega
    · have hin : i = m := by omega
      subst hin
      have hss : ss = vturn rs i := rows_of hv.len (unhide HA)
      subst hss
      go_wp2
      go_ret
      exact ⟨_, _, rfl, hv.mf, unhide HB⟩

/-- The sum so far. -/
def wsum (zs : List Int) (rs : List (List Int)) (m t : Nat) : List Int := (List.range m).map fun j => sumN t fun i => zs.getD i 0 * (rs.getD i []).getD j 0
theorem wsum_len (zs : List Int) (rs : List (List Int)) (m t : Nat) : (wsum zs rs m t).length = m := by simp [wsum]
theorem wsum_zero (zs : List Int) (rs : List (List Int)) (m : Nat) : wsum zs rs m 0 = List.replicate m 0 := by
  refine vec_ext (by simp [wsum]) fun j hj => ?_
  rw [wsum_len] at hj
  unfold wsum
  rw [getD_range _ hj, zerosR_at]
  rfl
theorem wsum_add {zs : List Int} {rs : List (List Int)} {m i : Nat} (h : (rs.getD i []).length ≤ m) : vadd (wsum zs rs m i) (vtimes (rs.getD i []) (zs.getD i 0)) = wsum zs rs m (i + 1) := by
  refine vec_ext (by rw [vadd_len, wsum_len, wsum_len, vtimes_len]; omega) fun j hj => ?_
  rw [vadd_len, wsum_len, vtimes_len] at hj
  rw [vadd_at, vtimes_at]
  unfold wsum
  rw [getD_range _ (by omega), getD_range _ (by omega), sumN, Int.mul_comm]
theorem wsum_skip {zs : List Int} {rs : List (List Int)} {m i : Nat} (h : zs.getD i 0 = 0) : wsum zs rs m i = wsum zs rs m (i + 1) := by
  unfold wsum
  refine List.map_congr_left fun j _ => ?_
  rw [sumN, h, Int.zero_mul, Int.add_zero]
theorem wsum_all {zs : List Int} {rs : List (List Int)} {n n' : Nat} (hz : zs.length = n) (hr : rs.length = n') : wsum zs rs (longest rs) (min n n') = vprod zs rs := by
  refine vec_ext (by rw [wsum_len, vprod_len]) fun j hj => ?_
  rw [wsum_len] at hj
  rw [vprod_at]
  unfold wsum
  rw [getD_range _ hj, hr]
  refine (sumN_upto (fun i hi => ?_) (by omega)).symm
  by_cases c : zs.length ≤ i
  · rw [getD_out c, Int.zero_mul]
  · rw [show rs.getD i [] = [] by simp [List.getD, List.getElem?_eq_none (show rs.length ≤ i by omega)]]
    simp
set_option maxRecDepth 20000 in
set_option maxHeartbeats 2000000 in
theorem weighedK (ao : Option Addr) (n cap : Nat) (zs : List Int) (k1 : Nat) (ap : Option Addr) (n' cp : Nat) (rs : List (List Int)) (k2 M : Nat) (w : World) (h : VK w ao n cap zs k1) (h' : MK w ap n' cp rs k2) (hk : k1 ≤ 200000) (hl : k2 ≤ 200000) (hr : ∀ i, (rs.getD i []).length ≤ M) (hM : M ≤ 1000000) (hn : n ≤ 1000000) (hn' : n' ≤ 100000) :
    Calls Try.prog 45 #[.slice ao n cap, .slice ap n' cp, .int .i64 (longest rs : Int)] w fun e w' => ∃ a1 c1, e = .returned (.slice a1 (longest rs) c1) ∧ VF w' a1 (longest rs) c1 (vprod zs rs) (k1 + k2 + n') ∧ Below w.heap.size w w' := by
  have hmin := min_len n n'
  have HE := hide (wsum_all h.len_eq h'.len_eq)
  have hlo : longest rs ≤ M := longest_le fun r hx => by
    obtain ⟨i, hi, e⟩ := List.getElem_of_mem hx
    have := hr i
    rwa [show rs.getD i [] = rs[i] by simp [List.getD, hi], e] at this
  have hrl : ∀ i, i < rs.length → (rs.getD i []).length ≤ longest rs := fun i hi => longest_ge rs 0 i hi
  rw [h'.len_eq] at hrl
  obtain ⟨m, em⟩ : ∃ m, m = longest rs := ⟨_, rfl⟩
  rw [← em] at hlo HE hrl ⊢
  have HR := hide hrl
  obtain ⟨q, eq⟩ : ∃ q, q = min n n' := ⟨_, rfl⟩
  rw [← eq] at hmin HE
  have hqn : q ≤ n := by omega
  have hqn' : q ≤ n' := by omega
  clear em eq hr hrl
  go_enter Try.func45, Try.ntmps45
  go_wp2_with (at_make; refine make_vec rfl _ _ 24 Try.underlying24 rfl w.heap.size .i64 .i64 _ _ m (k1 + k2 + 0) rfl rfl (by omega) (by omega) (by omega) (by omega) ?_)
  intro w2 hown hgrow
  have hbg : Below w.heap.size w w2 := (Below.refl _ _).grown hgrow (Nat.le_refl _) (fun _ h => by simp at h)
  have HB := hide hbg
  clear hgrow hbg
  obtain ⟨gv, egv⟩ : ∃ gv, gv = w.heap.size := ⟨_, rfl⟩
  rw [show (some ⟨w.heap.size, 0, none⟩ : Option Addr) = some ⟨gv, 0, none⟩ by rw [egv]] at hown ⊢
  clear egv
  go_wp2_with fail
  go_loopw [7, 16] (fun s t wr => ∃ (i : Nat) (a1 : Option Addr) (c1 : Nat), i ≤ q ∧ t = .int .i64 (i : Int) ∧ s = .slice a1 m c1 ∧ VF wr a1 m c1 (wsum zs rs m i) (k1 + k2 + i) ∧ Below w.heap.size w wr) (fun _ t _ => q - (intOf t).toNat)
  case atStart => exact ⟨0, _, _, Nat.zero_le _, rfl, rfl, by rw [wsum_zero]; exact hown.vf, unhide HB⟩
  case round =>
    clear hown HB
    obtain ⟨i, a1, c1, hi, rfl, rfl, hps, hB⟩ := hrel
    have HB := hide hB
    clear hB
    by_cases hlt : i < q
    · obtain ⟨ps, eps⟩ : ∃ ps, ps = wsum zs rs m i := ⟨_, rfl⟩
      rw [← eps] at hps
      have EPS := hide eps
      clear eps
      obtain ⟨g2, off2, rfl⟩ := h.some (by omega)
      obtain ⟨b3, a3, l3, c3, E3, hy3⟩ := (h.later (unhide HB)).at (show i < n by omega)
      obtain ⟨f3, f4⟩ := E3.facts
      have hg3 := E3.1
      obtain ⟨g, off, rfl⟩ := h'.addr (by omega)
      obtain ⟨hg, a5, l5, c5, hc5, hv5⟩ := RowsOf.at (R := fun w a l c zs => VK w a l c zs k2) h' (show i < n' by omega)
      have hn5 : l5 ≤ m := by rw [← hv5.len_eq]; exact unhide HR i (by omega)
      replace hv5 := hv5.later (unhide HB)
      have f2 := ((unhide HB).cell (p := ⟨g, off + i, none⟩) hg).trans hc5
      have hgr := Nat.lt_of_lt_of_le hg (unhide HB).size
      have hi0 : (0 : Int) ≤ (i : Int) := by omega
      have hi1 : (i : Int) < (n : Int) := by omega
      have hi2 : (i : Int) < (n' : Int) := by omega
      have HV5 := hide hv5.len_eq
      clear hc5 hg
      obtain ⟨z, ez⟩ : ∃ z, z = zs.getD i 0 := ⟨_, rfl⟩
      obtain ⟨sg, es⟩ : ∃ s, s = z.sign := ⟨_, rfl⟩
      have ES := hide (show sg = (zs.getD i 0).sign by rw [es, ez])
      have EZ := hide ez
      clear ez
      go_wp2_with fail
      refine (signK b3 a3 l3 c3 (zs.getD i 0) k1 sg _ hy3 (unhide ES)).mono ?_
      rintro e w4 ⟨rfl, hb1⟩
      replace hps := hps.later hb1
      replace hy3 := hy3.later hb1
      replace hv5 := hv5.later hb1
      replace E3 := E3.later hb1
      replace f2 := (hb1.cell (p := ⟨g, off + i, none⟩) hgr).trans f2
      replace hgr := Nat.lt_of_lt_of_le hgr hb1.size
      replace HB := hide (Below.step (unhide HB) hb1)
      clear hb1 f3 f4 hg3
      by_cases h0 : z = 0
      · have hs : (sg != 0) = false := by rw [es, h0]; rfl
        have H0 := hide h0
        clear es h0
        go_wp2
        go_roundw
        case rel => exact ⟨i + 1, _, _, by omega, by go_num, rfl, by rw [← wsum_skip (by rw [← unhide EZ]; exact unhide H0), ← unhide EPS]; exact vf_up hps (by omega), unhide HB⟩
        case measure => simp [intOf]; omega
      · have hs : (sg != 0) = true := by
          rw [bne_iff_ne, es]
          exact fun e => h0 (Int.sign_eq_zero_iff_zero.1 e)
        clear es h0
        have HW : Below w4.heap.size w4 w4.drew := (Below.refl _ _).drew
        go_upto_region 6 with fail
        refine till_start (fun w' => w'.cell? ⟨g, off + i, none⟩ = some (.slice a5 l5 c5) ∧ w'.cell? ⟨g2, off2 + i * 2, none⟩ = some (.bool b3) ∧ w'.cell? ⟨g2, off2 + i * 2 + 1, none⟩ = some (.slice a3 l3 c3)) 11 (by kernel_rfl) ?_ (fun hHeld => ?_)
        · exact ⟨(HW.cell (p := ⟨g, off + i, none⟩) hgr).trans f2, (E3.later HW).facts.1, (E3.later HW).facts.2⟩
        refine till_take (i := 0) (v := ?_) [10, 11] rfl (by kernel_rfl) (by kernel_rfl) (by kernel_rfl) (by kernel_rfl) (fun _ _ _ h => h) (Or.inl ⟨by rfl, ?_⟩) (by assumption) ?_
        rotate_left
        · (intro w hSw; (try dsimp only at hSw); go_simp; try with_reducible rfl)
        simp only [Act.put, List.getElem_toArray, List.getElem_cons_zero, List.setIfInBounds_toArray, List.set_cons_zero, List.set_cons_succ]
        refine till_take (i := 1) (v := ?_) [3, 4, 9, 10, 11] rfl (by kernel_rfl) (by kernel_rfl) (by kernel_rfl) (by kernel_rfl) (fun _ _ _ h => h) (Or.inl ⟨by rfl, ?_⟩) (by assumption) ?_
        rotate_left
        · (intro w hSw; (try dsimp only at hSw); go_simp; try with_reducible rfl)
        simp only [Act.put, List.getElem_toArray, List.getElem_cons_succ, List.getElem_cons_zero, List.setIfInBounds_toArray, List.set_cons_zero, List.set_cons_succ]
        refine till_take (i := 2) (v := ?_) [3, 4, 9, 10, 11] rfl (by kernel_rfl) (by kernel_rfl) (by kernel_rfl) (by kernel_rfl) (fun _ _ _ h => h) (Or.inl ⟨by rfl, ?_⟩) (by assumption) ?_
        rotate_left
        · (intro w hSw; (try dsimp only at hSw); go_simp; try with_reducible rfl)
        simp only [Act.put, List.getElem_toArray, List.getElem_cons_succ, List.getElem_cons_zero, List.setIfInBounds_toArray, List.set_cons_zero, List.set_cons_succ]
        refine till_take (i := 3) (v := ?_) [4, 9, 10, 11] rfl (by kernel_rfl) (by kernel_rfl) (by kernel_rfl) (by kernel_rfl) (fun _ _ _ h => h) (Or.inl ⟨by rfl, ?_⟩) (by assumption) ?_
        rotate_left
        · (intro w hSw; (try dsimp only at hSw); go_simp; try with_reducible rfl)
        simp only [Act.put, List.getElem_toArray, List.getElem_cons_succ, List.getElem_cons_zero, List.setIfInBounds_toArray, List.set_cons_zero, List.set_cons_succ]
        refine till_take (i := 4) (v := ?_) [9, 10, 11] rfl (by kernel_rfl) (by kernel_rfl) (by kernel_rfl) (by kernel_rfl) (fun _ _ _ h => h) (Or.inl ⟨by rfl, ?_⟩) (by assumption) ?_
        rotate_left
        · (intro w hSw; (try dsimp only at hSw); go_simp; try with_reducible rfl)
        simp only [Act.put, List.getElem_toArray, List.getElem_cons_succ, List.getElem_cons_zero, List.setIfInBounds_toArray, List.set_cons_zero, List.set_cons_succ]
        refine till_take (i := 5) (v := ?_) [7, 8, 9, 10, 11] rfl (by kernel_rfl) (by kernel_rfl) (by kernel_rfl) (by kernel_rfl) (fun _ _ _ h => h) (Or.inl ⟨by rfl, ?_⟩) (by assumption) ?_
        rotate_left
        · (intro w hSw; (try dsimp only at hSw); go_simp; try with_reducible rfl)
        simp only [Act.put, List.getElem_toArray, List.getElem_cons_succ, List.getElem_cons_zero, List.setIfInBounds_toArray, List.set_cons_zero, List.set_cons_succ]
        refine till_take (i := 6) (v := ?_) [7, 8, 9, 10, 11] rfl (by kernel_rfl) (by kernel_rfl) (by kernel_rfl) (by kernel_rfl) (fun _ _ _ h => h) (Or.inl ⟨by rfl, ?_⟩) (by assumption) ?_
        rotate_left
        · (intro w hSw; (try dsimp only at hSw); go_simp; try with_reducible rfl)
        simp only [Act.put, List.getElem_toArray, List.getElem_cons_succ, List.getElem_cons_zero, List.setIfInBounds_toArray, List.set_cons_zero, List.set_cons_succ]
        refine till_take (i := 7) (v := ?_) [8, 9, 10, 11] rfl (by kernel_rfl) (by kernel_rfl) (by kernel_rfl) (by kernel_rfl) (fun _ _ _ h => h) (Or.inl ⟨by rfl, ?_⟩) (by assumption) ?_
        rotate_left
        · (intro w hSw; (try dsimp only at hSw); go_simp; try with_reducible rfl)
        simp only [Act.put, List.getElem_toArray, List.getElem_cons_succ, List.getElem_cons_zero, List.setIfInBounds_toArray, List.set_cons_zero, List.set_cons_succ]
        refine till_take (i := 8) (v := ?_) [9, 10, 11] rfl (by kernel_rfl) (by kernel_rfl) (by kernel_rfl) (by kernel_rfl) (fun _ _ _ h => h) (Or.inl ⟨by rfl, ?_⟩) (by assumption) ?_
        rotate_left
        · (intro w hSw; (try dsimp only at hSw); go_simp; try with_reducible rfl)
        simp only [Act.put, List.getElem_toArray, List.getElem_cons_succ, List.getElem_cons_zero, List.setIfInBounds_toArray, List.set_cons_zero, List.set_cons_succ]
        refine till_in (i := 9) (by kernel_rfl) rfl (fun K hK => ?_)
        go_simp
        refine (vtimesK _ _ _ (rs.getD i []) k2 _ _ _ _ (zs.getD i 0) k1 _ (hv5.later HW) (hy3.later HW) (by omega)).mono ?_
        rintro e w9 ⟨a8, c8, rfl, h8, hb9⟩
        replace HW := Below.step HW hb9
        clear hb9
        refine hK.out _ _ ?_ (fun hHeld => ?_)
        · exact ⟨(HW.cell (p := ⟨g, off + i, none⟩) hgr).trans f2, (E3.later HW).facts.1, (E3.later HW).facts.2⟩
        clear hK K
        try simp only [Act.put, List.getElem_toArray, List.getElem_cons_succ, List.getElem_cons_zero, List.setIfInBounds_toArray, List.set_cons_zero, List.set_cons_succ]
        refine till_in (i := 10) (by kernel_rfl) rfl (fun K hK => ?_)
        go_simp
        refine (vaddK _ _ _ ps (k1 + k2 + i) _ _ _ (vtimes (rs.getD i []) (zs.getD i 0)) (k2 + k1) _ ((hps.later HW).vk (by omega)) (h8.vk (by omega)) (by omega) (by omega) (by omega) (by omega)).mono ?_
        rintro e w10 ⟨a9, c9, rfl, h9, hb9⟩
        replace HW := Below.step HW hb9
        clear hb9 h8
        rw [show max m l5 = m by omega] at h9 ⊢
        rw [show max (k1 + k2 + i) (k2 + k1) + 1 = k1 + k2 + (i + 1) by omega] at h9
        refine hK.out _ _ ?_ (fun hHeld => ?_)
        · exact ⟨(HW.cell (p := ⟨g, off + i, none⟩) hgr).trans f2, (E3.later HW).facts.1, (E3.later HW).facts.2⟩
        clear hK K
        try simp only [Act.put, List.getElem_toArray, List.getElem_cons_succ, List.getElem_cons_zero, List.setIfInBounds_toArray, List.set_cons_zero, List.set_cons_succ]
        refine till_out (i := 11) (by kernel_rfl) rfl (by kernel_rfl) (fun K hK => ?_)
        go_simp
        refine hK.out _ _ ?_
        clear hK K
        try simp only [Act.put, List.getElem_toArray, List.getElem_cons_succ, List.getElem_cons_zero, List.setIfInBounds_toArray, List.set_cons_zero, List.set_cons_succ]
        refine till_done (by kernel_rfl) ?_ _
        go_wp2
        go_roundw
        case rel => exact ⟨i + 1, _, _, by omega, by go_num, rfl, by rw [← wsum_add (by rw [unhide HV5]; exact hn5), ← unhide EPS]; exact h9, Below.step (unhide HB) HW⟩
        case measure => simp [intOf]; omega
    · have hin : i = q := by omega
      subst hin
      rw [unhide HE] at hps
      go_wp2
      go_ret
      exact ⟨_, _, rfl, vf_up hps (by omega), unhide HB⟩

set_option maxHeartbeats 2000000 in
theorem productK (ao : Option Addr) (n cap : Nat) (rs : List (List Int)) (k : Nat) (ap : Option Addr) (n' cp : Nat) (ss0 : List (List Int)) (k2 M : Nat) (w : World) (h : MK w ao n cap rs k) (h' : MK w ap n' cp ss0 k2) (hk : k ≤ 200000) (hl : k2 ≤ 200000) (hr : ∀ i, (rs.getD i []).length ≤ M) (hr' : ∀ i, (ss0.getD i []).length ≤ M) (hM : M ≤ 1000000) (hn : n ≤ 1000000) (hn' : n' ≤ 100000) :
    Calls Try.prog 16 #[.slice ao n cap, .slice ap n' cp] w fun e w' => ∃ a1 c1, e = .returned (.slice a1 n c1) ∧ MF w' a1 n c1 (rs.map fun r => vprod r ss0) (k + k2 + n') ∧ Below w.heap.size w w' := by
  have HL := hide h.len_eq
  have HQ := hide hr
  clear hr
  go_enter Try.func16, Try.ntmps16
  go_wp2_with fail
  refine (longestK _ _ _ ss0 _ h'.ml).mono ?_
  rintro e w1 ⟨rfl, hb1⟩
  have hsz1 := hb1.size
  go_wp2_with (at_make; refine make_rows (R := fun w a l c zs => VF w a l c zs (k + k2 + n')) (fun w => vf_nil w _) rfl _ _ 22 Try.underlying22 rfl w.heap.size .i64 .i64 _ _ n rfl rfl (by omega) (by omega) (by omega) (by omega) ?_)
  intro w2 hown hgrow
  have hbg : Below w1.heap.size w1 w2 := (Below.refl _ _).grown hgrow (Nat.le_refl _) (fun _ h => by simp at h)
  have HB := hide (Below.step hb1 hbg)
  clear hgrow hbg
  obtain ⟨gv, egv⟩ : ∃ gv, gv = w1.heap.size := ⟨_, rfl⟩
  rw [← egv] at hown ⊢
  clear egv hsz1
  go_wp2_with fail
  go_loopw [16] (fun t wr => ∃ (i : Nat) (ss : List (List Int)), i ≤ n ∧ t = .int .i64 (i : Int) ∧ MO wr w.heap.size (some ⟨gv, 0, none⟩) n n ss (k + k2 + n') ∧ (∀ j, j < i → ss.getD j [] = vprod (rs.getD j []) ss0) ∧ Below w.heap.size w wr) (fun t _ => n - (intOf t).toNat)
  case atStart => exact ⟨0, _, Nat.zero_le _, rfl, hown, fun j hj => absurd hj (by omega), unhide HB⟩
  case round =>
    clear hown HB hb1
    obtain ⟨i, ss, hi, rfl, hv, hall, hB⟩ := hrel
    have HA := hide hall
    clear hall
    have HB := hide hB
    clear hB
    by_cases hlt : i < n
    · obtain ⟨g, off, rfl⟩ := h.addr (by omega)
      obtain ⟨hg, a5, l5, c5, hc5, hv5⟩ := RowsOf.at (R := fun w a l c zs => VK w a l c zs k) h hlt
      have hn5 : l5 ≤ M := by rw [← hv5.len_eq]; exact unhide HQ i
      replace hv5 := hv5.later (unhide HB)
      have f2 := ((unhide HB).cell (p := ⟨g, off + i, none⟩) hg).trans hc5
      have hgr := Nat.lt_of_lt_of_le hg (unhide HB).size
      clear hc5 hg
      go_wp2_with fail
      refine (weighedK _ _ _ (rs.getD i []) k _ _ _ ss0 k2 M _ hv5 (h'.later (unhide HB)) hk hl hr' hM (by omega) hn').mono ?_
      rintro e w5 ⟨a7, c7, rfl, h7, hb1⟩
      replace hv := hv.later hb1
      replace HB := hide (Below.step (unhide HB) hb1)
      clear hb1 hv5 f2 hgr
      obtain ⟨hg6, a6, l6, c6, f6, _⟩ := RowsOf.at (R := fun w a l c zs => VF w a l c zs (k + k2 + n')) hv.mf (show i < n by omega)
      rw [Nat.zero_add] at f6
      have q3 := MOwn.free (R := fun w a l c zs => VF w a l c zs (k + k2 + n')) hv i
      have hbl := MOwn.base_le (R := fun w a l c zs => VF w a l c zs (k + k2 + n')) hv
      go_wp2
      go_roundw
      case rel =>
        refine ⟨i + 1, ss.set i (vprod (rs.getD i []) ss0), by omega, by go_num, MOwn.set (R := fun w a l c zs => VF w a l c zs (k + k2 + n')) (steadyMO _) hv (by omega) h7, put_row (f := fun j => vprod (rs.getD j []) ss0) (by rw [hv.len]; omega) (unhide HA), ?_⟩
        exact (unhide HB).setCell (by simpa using hbl.1) _
      case measure => simp [intOf]; omega
    · have hin : i = n := by omega
      subst hin
      have hss : ss = rs.map fun r => vprod r ss0 := by
        rw [rows_of hv.len (unhide HA)]
        refine List.ext_getElem (by rw [List.length_map, List.length_map, List.length_range, unhide HL]) fun j h1 h2 => ?_
        have hj : j < rs.length := by rw [List.length_map] at h2; exact h2
        simp [List.getD, hj]
      subst hss
      go_wp2
      go_ret
      exact ⟨_, _, rfl, hv.mf, unhide HB⟩
#print axioms rowsMulK
#print axioms turnK
#print axioms productK
end Go.Proofs.Ytbdjkbonoofibaa
