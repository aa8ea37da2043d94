/-
  Plain mathematics of kernels: every lattice has rows in the form; a kernel's rows are bounded by the given rows; noughts with the unit rows beside them.
-/
import Derived.Test.YtjebmlogchoehaaGreatHKer2
import Derived.Test.YtjebmlogchoehaaGreatHOver
import Derived.Test.YtjebmlogchoehaaGreatHUnit
import Derived.Test.YtjebmlogchoehaaGreatTBeside
namespace Go.Proofs.YtjebmlogchoehaaGreat
open Go.RowKit Lb
set_option maxRecDepth 20000

theorem inL_at0 {h : List (List Int)} {v : Nat → Int} {j : Nat} (hv : InL h v) (h0 : ∀ i, i < h.length → ent h i j = 0) : v j = 0 := by
  obtain ⟨c, hc⟩ := hv
  rw [hc j, ← sumN_nil0 h.length]
  exact sumN_congr fun i hi => by rw [h0 i hi, Int.mul_zero]
/-- Lowered at the first i pivots. -/
theorem EForm.lower {h : List (List Int)} {p : Nat → Nat} (hf : EForm h p) (v : Nat → Int) : ∀ i, i ≤ h.length → ∃ u : Nat → Int, InL h (fun j => v j - u j) ∧ ∀ k, k < i → 0 ≤ u (p k) ∧ u (p k) < ent h k (p k)
  | 0, _ => ⟨v, (inL_zero h).eq fun j => by omega, fun k hk => absurd hk (by omega)⟩
  | i + 1, hi => by
    obtain ⟨u, hu, hl⟩ := hf.lower v i (by omega)
    have hpos := hf.pos i hi
    refine ⟨fun j => u j - u (p i) / ent h i (p i) * ent h i j, (hu.add ((inL_row (l := h) i).mul (u (p i) / ent h i (p i)))).eq fun j => by dsimp only; omega, fun k hk => ?_⟩
    show 0 ≤ u (p k) - u (p i) / ent h i (p i) * ent h i (p k) ∧ u (p k) - u (p i) / ent h i (p i) * ent h i (p k) < ent h k (p k)
    by_cases c : k = i
    · subst c
      have h1 := Int.emod_nonneg (u (p k)) (show ent h k (p k) ≠ 0 by omega)
      have h2 := Int.emod_lt_of_pos (u (p k)) hpos
      have h3 := Int.emod_def (u (p k)) (ent h k (p k))
      rw [Int.mul_comm] at h3
      omega
    · rw [hf.ahead i hi (p k) (hf.rise k i (by omega) hi), Int.mul_zero]
      have := hl k (by omega)
      omega
/-- Of vectors that may be taken from one another one has the least number at a place: it divides the others'. -/
theorem least_at {Q : (Nat → Int) → Prop} (hQ : ∀ v u x, Q v → Q u → Q fun j => v j - x * u j) (c : Nat) : ∀ m v, Q v → v c ≠ 0 → (v c).natAbs ≤ m → ∃ w, Q w ∧ 0 < w c ∧ ∀ v, Q v → ∃ x, v c = x * w c
  | 0, v, _, h0, hm => by omega
  | m + 1, v, hv, h0, hm => by
    by_cases hall : ∀ u, Q u → v c ∣ u c
    · rcases Int.lt_or_gt_of_ne h0 with s | s
      · refine ⟨fun j => v j - 2 * v j, hQ v v 2 hv hv, by show 0 < v c - 2 * v c; omega, fun u hu => ?_⟩
        obtain ⟨x, hx⟩ := hall u hu
        refine ⟨-x, ?_⟩
        show u c = -x * (v c - 2 * v c)
        rw [show v c - 2 * v c = - v c by omega, Int.neg_mul_neg, hx, Int.mul_comm]
      · refine ⟨v, hv, s, fun u hu => ?_⟩
        obtain ⟨x, hx⟩ := hall u hu
        exact ⟨x, by rw [hx, Int.mul_comm]⟩
    · obtain ⟨u, hu⟩ := Classical.not_forall.1 hall
      obtain ⟨hu, hd⟩ := Classical.not_imp.1 hu
      have hr : u c - u c / v c * v c = u c % v c := by rw [Int.emod_def, Int.mul_comm]
      have h1 : u c % v c ≠ 0 := fun e => hd (Int.dvd_of_emod_eq_zero e)
      have h2 := Int.emod_nonneg (u c) h0
      have h3 := Int.emod_lt (u c) h0
      exact least_at hQ c m (fun j => u j - u c / v c * v j) (hQ u v _ hu hv) (by show u c - u c / v c * v c ≠ 0; rw [hr]; exact h1) (by show (u c - u c / v c * v c).natAbs ≤ m; rw [hr]; omega)
theorem ent_cons (r : List Int) (h : List (List Int)) (i j : Nat) : ent (r :: h) (i + 1) j = ent h i j := rfl
theorem inL_cons {h : List (List Int)} (r : List Int) {v : Nat → Int} (hv : InL h v) : InL (r :: h) v := hv.trans fun i _ => (inL_row (l := r :: h) (i + 1)).eq fun j => (ent_cons r h i j).symm
theorem listN_at {N : Nat} {u : Nat → Int} (h : ∀ j, N ≤ j → u j = 0) (j : Nat) : ((List.range N).map u).getD j 0 = u j := by
  by_cases c : j < N
  · simp [List.getD, c]
  · rw [h j (by omega), List.getD_eq_getElem?_getD, List.getElem?_eq_none (by simp; omega)]; rfl
theorem inL_zeros {l : List (List Int)} {N : Nat} (hz : ∀ i j, N ≤ j → ent l i j = 0) {v : Nat → Int} (hv : InL l v) : ∀ j, N ≤ j → v j = 0 := fun j hj => inL_at0 hv fun i _ => hz i j hj
/-- Every lattice has rows in the form: from its last place on. -/
theorem hform_some (l : List (List Int)) (N : Nat) (hz : ∀ i j, N ≤ j → ent l i j = 0) : ∀ d, d ≤ N → ∃ h p, HForm h p ∧ (∀ i, i < h.length → N - d ≤ p i) ∧ (∀ i, i < h.length → InL l fun j => ent h i j) ∧ (∀ v, InL l v → (∀ j, j < N - d → v j = 0) → InL h v) ∧ ∀ r ∈ h, r.length = N
  | 0, _ => ⟨[], fun i => i, hform_nil _, fun i hi => absurd hi (by simp), fun i hi => absurd hi (by simp), fun v hv h0 => (inL_zero []).eq fun j => by
      rcases Nat.lt_or_ge j N with c | c
      · exact h0 j c
      · exact inL_zeros hz hv j c, fun r hr => by simp at hr⟩
  | d + 1, hd => by
    obtain ⟨h, p, hf, hp, hin, hall, hl⟩ := hform_some l N hz d (by omega)
    obtain ⟨c, ec⟩ : ∃ c, c + 1 = N - d := ⟨N - d - 1, by omega⟩
    have ec2 : N - (d + 1) = c := by omega
    rw [ec2]
    rw [← ec] at hp hall
    have hcol : ∀ i, i < h.length → ∀ j, j ≤ c → ent h i j = 0 := fun i hi j hj => hf.ahead i hi j (by have := hp i hi; omega)
    obtain ⟨Q, eQ⟩ : ∃ Q : (Nat → Int) → Prop, Q = fun v => InL l v ∧ ∀ j, j < c → v j = 0 := ⟨_, rfl⟩
    have hQ : ∀ v, Q v ↔ InL l v ∧ ∀ j, j < c → v j = 0 := fun v => by rw [eQ]
    by_cases hex : ∃ v, Q v ∧ v c ≠ 0
    · obtain ⟨v0, hv0, hvc⟩ := hex
      obtain ⟨w, hw, hwc, hmin⟩ := least_at (Q := Q) (fun v u x hv hu => (hQ _).2 ⟨((hQ v).1 hv).1.sub (((hQ u).1 hu).1.mul x), fun j hj => by
        show v j - x * u j = 0
        rw [((hQ v).1 hv).2 j hj, ((hQ u).1 hu).2 j hj, Int.mul_zero]; rfl⟩) c _ v0 hv0 hvc (Nat.le_refl _)
      obtain ⟨hw1, hw2⟩ := (hQ w).1 hw
      obtain ⟨u, hu, hul⟩ := hf.eform.lower w h.length (Nat.le_refl _)
      have huw : ∀ j, j ≤ c → u j = w j := fun j hj => by
        have h1 : w j - u j = 0 := inL_at0 hu fun i hi => hcol i hi j hj
        omega
      have huL : InL l u := (hw1.sub (hu.trans hin)).eq fun j => by omega
      have hu0 := inL_zeros hz huL
      have e0 : ∀ j, ent (((List.range N).map u) :: h) 0 j = u j := fun j => listN_at hu0 j
      refine ⟨((List.range N).map u) :: h, fun i => if i = 0 then c else p (i - 1), ⟨fun i k h1 h2 => ?_, fun i hi j hj => ?_, fun i hi => ?_, fun i k h1 h2 => ?_⟩, fun i hi => ?_, fun i hi => ?_, fun v hv h0 => ?_, fun r hr => ?_⟩
      · rw [List.length_cons] at h2
        show (if i = 0 then c else p (i - 1)) < if k = 0 then c else p (k - 1)
        rw [if_neg (show ¬ k = 0 by omega)]
        by_cases e : i = 0
        · rw [if_pos e]; have := hp (k - 1) (by omega); omega
        · rw [if_neg e]; exact hf.rise _ _ (by omega) (by omega)
      · rw [List.length_cons] at hi
        match i with
        | 0 => rw [e0, huw j (by have : j < c := hj; omega)]; exact hw2 j hj
        | i + 1 => exact hf.ahead i (by omega) j hj
      · rw [List.length_cons] at hi
        match i with
        | 0 =>
          show 0 < ent (((List.range N).map u) :: h) 0 c
          rw [e0, huw c (Nat.le_refl _)]; exact hwc
        | i + 1 => exact hf.pos i (by omega)
      · rw [List.length_cons] at h2
        match i, k with
        | _, 0 => omega
        | 0, k + 1 =>
          show 0 ≤ ent (((List.range N).map u) :: h) 0 (p k) ∧ ent (((List.range N).map u) :: h) 0 (p k) < ent h k (p k)
          rw [e0]; exact hul k (by omega)
        | i + 1, k + 1 => exact hf.low i k (by omega) (by omega)
      · rw [List.length_cons] at hi
        show c ≤ if i = 0 then c else p (i - 1)
        by_cases e : i = 0
        · rw [if_pos e]; exact Nat.le_refl _
        · rw [if_neg e]; have := hp (i - 1) (by omega); omega
      · rw [List.length_cons] at hi
        match i with
        | 0 => exact huL.eq e0
        | i + 1 => exact hin i (by omega)
      · obtain ⟨x, hx⟩ := hmin v ((hQ v).2 ⟨hv, h0⟩)
        have h1 : InL h fun j => v j - x * u j := hall _ (hv.sub (huL.mul x)) fun j hj => by
          show v j - x * u j = 0
          rw [huw j (by omega)]
          by_cases e : j = c
          · subst e; rw [hx]; omega
          · rw [h0 j (by omega), hw2 j (by omega), Int.mul_zero]; rfl
        refine ((inL_cons ((List.range N).map u) h1).add ((inL_row (l := ((List.range N).map u) :: h) 0).mul x)).eq fun j => ?_
        rw [e0]; omega
      · rcases List.mem_cons.1 hr with e | e
        · rw [e]; simp
        · exact hl r e
    · refine ⟨h, p, hf, fun i hi => by have := hp i hi; omega, hin, fun v hv h0 => hall v hv fun j hj => ?_, hl⟩
      by_cases e : j = c
      · subst e
        exact Classical.byContradiction fun e => hex ⟨v, (hQ v).2 ⟨hv, h0⟩, e⟩
      · exact h0 j (by omega)
theorem hform_exists (l : List (List Int)) (N : Nat) (hz : ∀ i j, N ≤ j → ent l i j = 0) : ∃ h p, HForm h p ∧ SameL l h ∧ ∀ r ∈ h, r.length = N := by
  obtain ⟨h, p, hf, _, hin, hall, hl⟩ := hform_some l N hz N (Nat.le_refl _)
  exact ⟨h, p, hf, fun v => ⟨fun hv => hall v hv fun j hj => absurd hj (by omega), fun hv => hv.trans hin⟩, hl⟩
theorem lens_zero {c : List (List Int)} {N : Nat} (h : ∀ r ∈ c, r.length = N) : ∀ i j, N ≤ j → ent c i j = 0 := fun i j hj => by
  have h1 := all_len_le h i
  unfold ent
  rw [List.getD_eq_getElem?_getD, List.getElem?_eq_none (by omega)]; rfl
/-- The columns with the unit rows beside them. -/
def wideOf (cs : List (List Int)) (N : Nat) : List (List Int) := (List.range N).map fun i => cs.getD i [] ++ (unitL N).getD i []
theorem wideOf_at {cs : List (List Int)} {N i : Nat} (hi : i < N) : (wideOf cs N).getD i [] = cs.getD i [] ++ (unitL N).getD i [] := by simp [wideOf, List.getD, hi]
theorem turn_lens (c : List (List Int)) (N : Nat) : ∀ i, i < N → ((vturn c N).getD i []).length = c.length := fun i hi => by rw [vturn_at c hi, List.length_map]
theorem wideL_turn (c : List (List Int)) (N : Nat) : WideL (vturn c N) (wideOf (vturn c N) N) c.length N := wideL_of (by simp [wideOf]) (vturn_len c N) (turn_lens c N) fun _ hj => wideOf_at hj
theorem one_bp {a : Nat} (ha : 1 ≤ a) : 1 < Bp a := by
  have h1 : Bp 1 ≤ Bp a := Bp_le ha
  have h2 : 4 < Bp 1 := by unfold Bp; decide
  omega
theorem ent_turn_small {c : List (List Int)} {a : Nat} (hA : ∀ i j, (ent c i j).natAbs < Bp a) (N : Nat) : ∀ i j, (ent (vturn c N) i j).natAbs < Bp a := fun i j => by
  by_cases hi : i < N
  · rw [ent_turn c hi]; exact hA j i
  · rw [ent_out (by rw [vturn_len]; omega)]
    have := Bp_pos a
    simpa using this
/-- A kernel's rows in the form are as small as the given rows have it. -/
theorem ker_small {K c : List (List Int)} {q : Nat → Nat} {a N : Nat} (hK : HForm K q) (hk : Ker K c N) (hKl : ∀ r ∈ K, r.length = N) (hc : ∀ r ∈ c, r.length = N) (ha : 1 ≤ a) (hA : ∀ i j, (ent c i j).natAbs < Bp a) (hN : N ≤ 60000) : ∀ i j, (ent K i j).natAbs < Bp (2 * ((a + 1) * N) + a + 1) := by
  have hW := wideL_turn c N
  obtain ⟨W, eW⟩ : ∃ W, W = wideOf (vturn c N) N := ⟨_, rfl⟩
  rw [← eW] at hW
  have hlW : ∀ r ∈ W, r.length = c.length + N := len_rows hW.len fun i hi => by rw [eW, wideOf_at hi, List.length_append, turn_lens c N i hi, unit_len hi]
  obtain ⟨H, p, hH, hsH, hlH⟩ := hform_exists W (c.length + N) (lens_zero hlW)
  have hHn := hW.count hH hsH
  obtain ⟨m, hm, hp⟩ := front_rows hH c.length N (by omega)
  obtain ⟨r, q', hr, hsr, _⟩ := hform_exists c N (lens_zero hc)
  obtain ⟨h1, h2, h3, _, _⟩ := hW.ker hH hsH hm hp (fun i hi => rows_len hlH i (by omega)) (lens_zero hc) hr.eform hsr
  have e := hnf_one hK h1 (hk.same h2) hKl h3
  intro i j
  rw [e, kernel_ent]
  by_cases hi : i + m < H.length
  · exact hH.eform.few hsH ha (fun a' b' => hW.small (ent_turn_small hA N) (one_bp ha) a' b') (n := N) (by omega) hN hi (hH.lowAt _) _
  · rw [ent_out (by omega)]
    have := Bp_pos (2 * ((a + 1) * N) + a + 1)
    simpa using this
/-- Noughts with the unit rows beside them. -/
theorem WideL.zero_form {cs W : List (List Int)} {k n : Nat} (h : WideL cs W k n) (h0 : ∀ i j, ent cs i j = 0) : HForm W fun i => i + k := by
  have hl := h.len
  refine ⟨fun i j h1 _ => by show i + k < j + k; omega, fun i hi j hj => ?_, fun i hi => ?_, fun i j h1 h2 => ?_⟩
  · rw [hl] at hi
    by_cases c : j < k
    · rw [h.left i j hi c]; exact h0 i j
    · have hj : j < i + k := hj
      rw [show j = (j - k) + k by omega, h.right i (j - k) hi, if_neg (by omega)]
  · rw [hl] at hi
    show 0 < ent W i (i + k)
    rw [h.right i i hi, if_pos rfl]; decide
  · rw [hl] at h2
    show 0 ≤ ent W i (j + k) ∧ ent W i (j + k) < ent W j (j + k)
    rw [h.right i j (by omega), if_neg (by omega), h.right j j h2, if_pos rfl]; decide
theorem WideL.zero_bounded {cs W : List (List Int)} {k n : Nat} (h : WideL cs W k n) (h0 : ∀ i j, ent cs i j = 0) {B : Nat} (hB : 1 ≤ B) : Bounded W B := bounded_form (h.zero_form h0) fun i j => h.small (fun i j => by rw [h0]; have := Bp_pos B; simpa using this) (one_bp hB) i j
theorem ent_nought (n i j : Nat) : ent [List.replicate n (0 : Int)] i j = 0 := by
  unfold ent
  match i with
  | 0 => exact zerosR_at n j
  | i + 1 => simp
theorem turn_nought (n N i j : Nat) : ent (vturn [List.replicate n (0 : Int)] N) i j = 0 := by
  by_cases hi : i < N
  · rw [ent_turn _ hi]; exact ent_nought n j i
  · exact ent_out (by rw [vturn_len]; omega)
theorem sameL_noughts (n : Nat) : SameL [List.replicate n (0 : Int)] [] := sameL_nought (h := []) (v := List.replicate n 0) (zerosR_at n)
theorem Bounded.up {l : List (List Int)} {B C : Nat} (h : Bounded l B) (hBC : B ≤ C) : Bounded l C := fun i hi g p h1 h2 k hk h3 j => Nat.lt_of_lt_of_le (h i hi g p h1 h2 k hk h3 j) (Bp_le hBC)
/-- The wide rows of columns of few small rows. -/
theorem wide_bounded {cs W : List (List Int)} {k n a : Nat} (h : WideL cs W k n) (hA : ∀ i j, (ent cs i j).natAbs < Bp a) (ha : 1 ≤ a) (hn : n ≤ 60000) : Bounded W (2 * ((a + 1) * n) + a + 1) := bounded_few (by rw [h.len]; exact Nat.le_refl _) hn ha fun i j => h.small hA (one_bp ha) i j
/-- What stands across a kernel has the given rows in it. -/
theorem Ker.sub {h g c : List (List Int)} {n : Nat} (hh : Ker h c n) (hg : Ker g h n) (hc : ∀ i j, n ≤ j → ent c i j = 0) : ∀ j, j < c.length → InL g fun t => ent c j t := fun j hj => hg.all _ (fun t ht => hc j t ht) fun i _ => (hh.yes _ (inL_row i)).comm hj
/-- It is as small as the given rows have it. -/
theorem across_small {h g c r : List (List Int)} {p q : Nat → Nat} {a n N : Nat} (hh : Ker h c N) (hg : Ker g h N) (hf : HForm g q) (hr : HForm r p) (hs : SameL c r) (hlen : g.length = r.length) (hc : ∀ s ∈ c, s.length = N) (ha : 1 ≤ a) (hA : ∀ i j, (ent c i j).natAbs < Bp a) (hn : c.length ≤ n) (hn2 : n ≤ 60000) : ∀ i j, (ent g i j).natAbs < Bp (2 * ((a + 1) * n) + a + 1) := by
  intro i j
  by_cases hi : i < g.length
  · exact hr.eform.over_few hs hf.eform (hh.sub hg (lens_zero hc)) hlen ha hA (Nat.le_trans (hr.eform.len_rows hs) hn) hn2 hi (hf.lowAt _) j
  · rw [ent_out (by omega)]
    have := Bp_pos (2 * ((a + 1) * n) + a + 1)
    simpa using this
theorem hform_same_len {h g : List (List Int)} {p q : Nat → Nat} (hf : HForm h p) (hg : HForm g q) (hs : SameL h g) : h.length = g.length := (hform_one hf hg hs).1
theorem mf_low {w : World} {ao : Option Addr} {n cap k l : Nat} {rs : List (List Int)} (h : MF w ao n cap rs k) (hl : ∀ i j, (ent rs i j).natAbs < Bp l) : MF w ao n cap rs l := by
  refine ⟨h.len_eq, h.cap_le, h.cap_max, h.nil_cap, fun hp => ?_⟩
  obtain ⟨g, off, e, hg, hc⟩ := h.elts hp
  refine ⟨g, off, e, hg, fun i hi => ?_⟩
  obtain ⟨a, l', c, h1, h2⟩ := hc i hi
  exact ⟨a, l', c, h1, h2.le fun j _ => hl i j⟩

#print axioms hform_exists
#print axioms ker_small
#print axioms across_small
#print axioms mf_low
end Go.Proofs.YtjebmlogchoehaaGreat
