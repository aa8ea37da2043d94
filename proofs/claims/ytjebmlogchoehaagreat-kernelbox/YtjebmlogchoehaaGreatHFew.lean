/-
  Plain mathematics: the numbers of rows with rising pivots have few limbs: some twice the rows' number times the limbs of the rows that they come of.
-/
import Derived.Test.YtjebmlogchoehaaGreatHLin
namespace Go.Proofs.YtjebmlogchoehaaGreat
open Go.RowKit Lb
set_option maxRecDepth 20000

theorem int_zero {x y : Int} (h : x * y = 0) (hx : 0 < x) : y = 0 := by
  rcases Int.mul_eq_zero.1 h with e | e
  · omega
  · exact e
/-- A sum over places, of a vector that is a sum itself. -/
theorem over_inF {q u : Nat} {G : Nat → Nat → Int} {v : Nat → Int} {col : Nat → Nat} {c : Nat → Int} (hv : InF q G v) (h0 : ∀ t, t < q → (sumN u fun i => G t (col i) * c i) = 0) : (sumN u fun i => v (col i) * c i) = 0 := by
  obtain ⟨x, hx⟩ := hv
  rw [sumN_congr (g := fun i => sumN q fun t => x t * (G t (col i) * c i)) fun i _ => by
    rw [hx (col i), ← sumN_mul_right]
    exact sumN_congr fun t _ => by rw [Int.mul_assoc], sumN_swap, ← sumN_nil0 q]
  exact sumN_congr fun t ht => by rw [sumN_mul, h0 t ht, Int.mul_zero]
theorem over_spans {q u : Nat} {G : Nat → Nat → Int} {v : Nat → Int} {col : Nat → Nat} {c : Nat → Int} (hv : Spans q G v) (h0 : ∀ t, t < q → (sumN u fun i => G t (col i) * c i) = 0) : (sumN u fun i => v (col i) * c i) = 0 := by
  obtain ⟨d, hd, hd2⟩ := hv
  have h1 := over_inF (v := fun j => d * v j) hd2 h0
  have h2 : (sumN u fun i => d * v (col i) * c i) = d * sumN u fun i => v (col i) * c i := by
    rw [← sumN_mul]
    exact sumN_congr fun i _ => by rw [Int.mul_assoc]
  have h3 : d * (sumN u fun i => v (col i) * c i) = 0 := by rw [← h2]; exact h1
  rcases Int.mul_eq_zero.1 h3 with e | e
  · exact absurd e hd
  · exact e
theorem EForm.pivot_zero {h : List (List Int)} {p : Nat → Nat} (hf : EForm h p) {i k : Nat} (hik : i < k) (hk : k < h.length) : ent h k (p i) = 0 := hf.ahead k hk (p i) (hf.rise i k hik hk)
/-- A place's number hangs on those at the pivots, by small numbers. -/
theorem EForm.relation {l h : List (List Int)} {p : Nat → Nat} {A : Nat} (hf : EForm h p) (hs : SameL l h) (hA1 : 1 ≤ A) (hA : ∀ i j, (ent l i j).natAbs ≤ A) (j : Nat) : ∃ c : Nat → Int, c h.length ≠ 0 ∧ (∀ i, (c i).natAbs ≤ sieg h.length A) ∧ ∀ v, InL l v → (sumN h.length fun i => v (p i) * c i) + v j * c h.length = 0 := by
  obtain ⟨r, er⟩ : ∃ r, r = h.length := ⟨_, rfl⟩
  rw [← er]
  obtain ⟨q, s, hsm, hind, hsp⟩ := pick (ent l) l.length
  have hqr : q ≤ r := by
    rw [er]
    exact hind.le (H := ent h) fun i hi => ⟨1, by decide, by
      obtain ⟨c, hc⟩ := hs.row (s i)
      exact ⟨c, fun j => (Int.one_mul _).trans (hc j)⟩⟩
  obtain ⟨col, ecol⟩ : ∃ col : Nat → Nat, col = fun i => if i < r then p i else j := ⟨_, rfl⟩
  obtain ⟨c, ⟨i0, hi0, hne⟩, hcM, hc⟩ := siegel_one (e := r) (A := A) (E := fun t i => if t < q then ent l (s t) (col i) else 0) hA1 fun t i _ _ => by
    show (if t < q then ent l (s t) (col i) else 0).natAbs ≤ A
    split
    · exact hA _ _
    · simp
  have hR : ∀ v, InL l v → (sumN (r + 1) fun i => v (col i) * c i) = 0 := fun v hv => by
    refine over_spans (spans_inF (m := l.length) (F := ent l) hv hsp) fun t ht => ?_
    have := hc t (by omega)
    rw [← this]
    exact sumN_congr fun i _ => by rw [if_pos ht]
  have hcol : ∀ i, i < r → col i = p i := fun i hi => by rw [ecol]; exact if_pos hi
  have hcr : col r = j := by rw [ecol]; exact if_neg (Nat.lt_irrefl r)
  have hcne : c r ≠ 0 := fun e0 => by
    have hall : ∀ n, n ≤ r → ∀ k, r - n ≤ k → k < r → c k = 0 := fun n => by
      induction n with
      | zero => intro _ k h1 h2; omega
      | succ n ih =>
        intro hn k h1 h2
        by_cases e : r - n ≤ k
        · exact ih (by omega) k e h2
        · have hR' := hR (fun j => ent h k j) (hs.symm.row k)
          have hfst := sumN_first (n := r + 1) (i := k) (f := fun i => ent h k (col i) * c i) (by omega) (fun t ht => by rw [hcol t (by omega), hf.pivot_zero ht (by omega), Int.zero_mul]) (fun t h3 h4 => by
            by_cases e : t = r
            · rw [e, e0, Int.mul_zero]
            · rw [ih (by omega) t (by omega) (by omega), Int.mul_zero])
          rw [hfst, hcol k h2] at hR'
          exact int_zero hR' (hf.pos k (by omega))
    by_cases e : i0 = r
    · rw [e] at hne; exact hne e0
    · exact hne (hall r (Nat.le_refl _) i0 (by omega) (by omega))
  refine ⟨c, hcne, hcM, fun v hv => ?_⟩
  have hR1 := hR v hv
  rw [sumN, hcr, sumN_congr (g := fun i => v (p i) * c i) fun i hi => by rw [hcol i hi]] at hR1
  exact hR1
/-- A place's number is told by those at the pivots. -/
theorem EForm.column {l h : List (List Int)} {p : Nat → Nat} {A : Nat} (hf : EForm h p) (hs : SameL l h) (hA1 : 1 ≤ A) (hA : ∀ i j, (ent l i j).natAbs ≤ A) {v : Nat → Int} (hv : InL l v) {T : Nat} (hT : ∀ i, i < h.length → (v (p i)).natAbs ≤ T) (j : Nat) : (v j).natAbs ≤ h.length * (T * sieg h.length A) := by
  obtain ⟨c, hcne, hcM, hc⟩ := hf.relation hs hA1 hA j
  have hR1 := hc v hv
  have hsum : (sumN h.length fun i => v (p i) * c i).natAbs ≤ h.length * (T * sieg h.length A) := sumN_abs fun i hi => by
    rw [Int.natAbs_mul]
    exact Nat.mul_le_mul (hT i hi) (hcM i)
  have h1 : (v j * c h.length).natAbs = (sumN h.length fun i => v (p i) * c i).natAbs := by omega
  rw [Int.natAbs_mul] at h1
  have h2 : (v j).natAbs * 1 ≤ (v j).natAbs * (c h.length).natAbs := Nat.mul_le_mul_left _ (by omega)
  omega
/-- The numbers at the pivots. -/
theorem EForm.pivot_le {l h : List (List Int)} {p : Nat → Nat} {A : Nat} (hf : EForm h p) (hs : SameL l h) (hA1 : 1 ≤ A) (hA : ∀ i j, (ent l i j).natAbs ≤ A) {k : Nat} (hk : k < h.length) : (ent h k (p k)).natAbs ≤ (k + 1) * (sieg k A * A) := by
  obtain ⟨F, eF⟩ : ∃ F : Nat → Nat → Int, F = fun a t => if t ≤ k then ent l a (p t) else 0 := ⟨_, rfl⟩
  obtain ⟨H, eH⟩ : ∃ H : Nat → Nat → Int, H = fun i t => if t ≤ k then ent h i (p t) else 0 := ⟨_, rfl⟩
  have hF : ∀ a t, t ≤ k → F a t = ent l a (p t) := fun a t ht => by rw [eF]; exact if_pos ht
  have hF0 : ∀ a t, ¬ t ≤ k → F a t = 0 := fun a t ht => by rw [eF]; exact if_neg ht
  have hH : ∀ a t, t ≤ k → H a t = ent h a (p t) := fun a t ht => by rw [eH]; exact if_pos ht
  have hH0 : ∀ a t, ¬ t ≤ k → H a t = 0 := fun a t ht => by rw [eH]; exact if_neg ht
  obtain ⟨q, s, hsm, hind, hsp⟩ := pick F l.length
  have hHind : Indep (k + 1) H := fun c hc i => by
    induction i using Nat.strongRecOn with
    | ind i ih =>
      intro hi
      have h1 := hc i
      rw [sumN_first (n := k + 1) (i := i) (f := fun a => c a * H a i) hi (fun t ht => by rw [ih t ht (by omega), Int.zero_mul]) (fun t h2 h3 => by rw [hH t i (by omega), hf.pivot_zero h2 (by omega), Int.mul_zero]), hH i i (by omega), Int.mul_comm] at h1
      exact int_zero h1 (hf.pos i (by omega))
  have hkq : k + 1 ≤ q := hHind.le fun i hi => by
    obtain ⟨y, hy0⟩ := hs.symm.row i
    have hy : ∀ j, ent h i j = sumN l.length fun a => y a * ent l a j := hy0
    refine spans_inF (m := l.length) (F := F) ⟨y, fun t => ?_⟩ hsp
    by_cases e : t ≤ k
    · rw [hH i t e, hy (p t)]
      exact sumN_congr fun a _ => by rw [hF a t e]
    · rw [hH0 i t e, ← sumN_nil0 l.length]
      exact sumN_congr fun a _ => by rw [hF0 a t e, Int.mul_zero]
  obtain ⟨c, ⟨i0, hi0, hne⟩, hcM, hc⟩ := siegel_one (e := k) (A := A) (E := fun t i => ent l (s i) (p t)) hA1 fun t i _ _ => hA _ _
  have hw : InL l fun j => sumN (k + 1) fun i => c i * ent l (s i) j := inL_sum (k + 1) (fun i j => c i * ent l (s i) j) fun i _ => (inL_row (s i)).mul (c i)
  have hw0 : ∀ t, t < k → (sumN (k + 1) fun i => c i * ent l (s i) (p t)) = 0 := fun t ht => by
    rw [← hc t ht]
    exact sumN_congr fun i _ => Int.mul_comm _ _
  have hwk : (sumN (k + 1) fun i => c i * ent l (s i) (p k)) ≠ 0 := fun e => by
    refine hne (indep_pad (u := k + 1) (c := c) hind hkq (fun t => ?_) i0 hi0)
    by_cases ht : t ≤ k
    · rw [sumN_congr (g := fun i => c i * ent l (s i) (p t)) fun i _ => by rw [hF (s i) t ht]]
      by_cases e2 : t = k
      · rw [e2]; exact e
      · exact hw0 t (by omega)
    · rw [← sumN_nil0 (k + 1)]
      exact sumN_congr fun i _ => by rw [hF0 (s i) t ht, Int.mul_zero]
  obtain ⟨i, x, hi, hz, hp, hpn⟩ := hf.lead ((hs _).1 hw) fun e => hwk (e (p k))
  have hik : i = k := by
    rcases Nat.lt_trichotomy i k with e | e | e
    · exact absurd (hw0 i e) hpn
    · exact e
    · exact absurd (hz (p k) (hf.rise k i e hi)) hwk
  subst hik
  have hb : (sumN (i + 1) fun a => c a * ent l (s a) (p i)).natAbs ≤ (i + 1) * (sieg i A * A) := sumN_abs fun a _ => by
    rw [Int.natAbs_mul]
    exact Nat.mul_le_mul (hcM a) (hA _ _)
  rw [hp] at hb hpn
  rw [Int.natAbs_mul] at hb
  have hx : x ≠ 0 := fun e => hpn (by rw [e, Int.zero_mul])
  have h2 : 1 * (ent h i (p i)).natAbs ≤ x.natAbs * (ent h i (p i)).natAbs := Nat.mul_le_mul_right _ (by omega)
  omega
theorem sieg_mono {k r A : Nat} (hk : k ≤ r) (hA : 1 ≤ A) : sieg k A ≤ sieg r A := by
  unfold sieg
  have h1 : 2 * ((k + 1) * A) ≤ 2 * ((r + 1) * A) := Nat.mul_le_mul_left _ (Nat.mul_le_mul_right _ (by omega))
  have h2 : 1 ≤ (r + 1) * A := Nat.mul_le_mul (show 1 ≤ r + 1 by omega) hA
  exact Nat.le_trans (Nat.pow_le_pow_left h1 k) (Nat.pow_le_pow_right (by omega) hk)
theorem EForm.linear {l h : List (List Int)} {p : Nat → Nat} {A : Nat} (hf : EForm h p) (hs : SameL l h) (hA1 : 1 ≤ A) (hA : ∀ i j, (ent l i j).natAbs ≤ A) {k : Nat} (hk : k < h.length) (hl : LowAt h p k) (j : Nat) : (ent h k j).natAbs ≤ h.length * (h.length * (sieg h.length A * A) * sieg h.length A) := by
  have hpiv : ∀ i, i < h.length → (ent h i (p i)).natAbs ≤ h.length * (sieg h.length A * A) := fun i hi =>
    Nat.le_trans (hf.pivot_le hs hA1 hA hi) (Nat.mul_le_mul (by omega) (Nat.mul_le_mul_right _ (sieg_mono (by omega) hA1)))
  refine hf.column hs hA1 hA (v := fun j => ent h k j) (hs.symm.row k) (fun i hi => ?_) j
  show (ent h k (p i)).natAbs ≤ _
  rcases Nat.lt_trichotomy i k with e | e | e
  · rw [hf.pivot_zero e hk]; simp
  · subst e; exact hpiv i hi
  · have h1 := hl i e hi
    have h2 := hpiv i hi
    omega
theorem bp_mul (a r : Nat) : Bp a ^ r = Bp (a * r) := by unfold Bp; rw [Nat.pow_mul]
/-- In limbs: r rows of a limbs each. -/
theorem sieg_bp {r A a : Nat} (hA : A < Bp a) (hr : r ≤ 1000000) : sieg r A ≤ Bp ((a + 1) * r) := by
  unfold sieg
  rw [← bp_mul]
  refine Nat.pow_le_pow_left ?_ r
  have h1 : Bp (a + 1) = Bp a * 4294967296 := by rw [bp_add]; unfold Bp; rfl
  have h2 : 2 * ((r + 1) * A) ≤ 4294967296 * Bp a := by
    rw [← Nat.mul_assoc]
    exact Nat.mul_le_mul (by omega) (Nat.le_of_lt hA)
  omega
theorem lin_bp {r n a A : Nat} (eA : A + 1 = Bp a) (hn : r ≤ n) (hn2 : n ≤ 60000) : r * (r * (sieg r A * A) * sieg r A) < Bp (2 * ((a + 1) * n) + a + 1) := by
  have h3 := sieg_bp (r := r) (A := A) (a := a) (by omega) (by omega)
  have h4 : Bp ((a + 1) * r) ≤ Bp ((a + 1) * n) := Bp_le (Nat.mul_le_mul_left _ hn)
  obtain ⟨X, eX⟩ : ∃ X, X = Bp ((a + 1) * n) := ⟨_, rfl⟩
  rw [← eX] at h4
  have h5 : sieg r A ≤ X := Nat.le_trans h3 h4
  have h6 : r * (r * (sieg r A * A) * sieg r A) ≤ 60000 * (60000 * (X * A) * X) := Nat.mul_le_mul (by omega) (Nat.mul_le_mul (Nat.mul_le_mul (by omega) (Nat.mul_le_mul_right _ h5)) h5)
  have h7 : Bp (2 * ((a + 1) * n) + a + 1) = X * X * Bp a * 4294967296 := by
    rw [bp_add, bp_add, Nat.two_mul, bp_add, ← eX]
    rw [show Bp 1 = 4294967296 by unfold Bp; rfl]
  have h8 : 60000 * (60000 * (X * A) * X) = X * X * A * 3600000000 := by
    rw [show 3600000000 = 60000 * 60000 from rfl]
    simp only [Nat.mul_comm, Nat.mul_left_comm, Nat.mul_assoc]
  have hX : 0 < X := by rw [eX]; exact Bp_pos _
  have h9 : X * X * A < X * X * Bp a := Nat.mul_lt_mul_of_pos_left (by omega) (Nat.mul_pos hX hX)
  rw [h7]
  rw [h8] at h6
  generalize X * X * A = u at *
  generalize X * X * Bp a = v at *
  omega
theorem EForm.few {l h : List (List Int)} {p : Nat → Nat} {a : Nat} (hf : EForm h p) (hs : SameL l h) (ha : 1 ≤ a) (hA : ∀ i j, (ent l i j).natAbs < Bp a) {n : Nat} (hn : h.length ≤ n) (hn2 : n ≤ 60000) {k : Nat} (hk : k < h.length) (hl : LowAt h p k) (j : Nat) : (ent h k j).natAbs < Bp (2 * ((a + 1) * n) + a + 1) := by
  obtain ⟨A, eA⟩ : ∃ A, A + 1 = Bp a := ⟨Bp a - 1, by have := Bp_pos a; omega⟩
  have h1 : 1 ≤ A := by
    have : Bp 1 ≤ Bp a := Bp_le ha
    have e : Bp 1 = 4294967296 := by unfold Bp; rfl
    omega
  exact Nat.lt_of_le_of_lt (hf.linear hs h1 (fun i j => by have := hA i j; omega) hk hl j) (lin_bp eA hn hn2)
theorem bounded_few {l : List (List Int)} {n a : Nat} (hm : l.length ≤ n) (hn : n ≤ 60000) (ha : 1 ≤ a) (hA : ∀ i j, (ent l i j).natAbs < Bp a) : Bounded l (2 * ((a + 1) * n) + a + 1) := by
  intro i hi h p hf hs k hk hl j
  have hlen := hf.len_rows hs
  rw [List.length_take] at hlen
  refine hf.few hs ha (fun b c => ?_) (n := n) (by omega) hn hk hl j
  by_cases e : b < i
  · rw [ent_take e]; exact hA b c
  · rw [ent_out (by rw [List.length_take]; omega)]
    have := Bp_pos a
    simpa using this

#print axioms bounded_few
#print axioms EForm.column
#print axioms EForm.pivot_le
#print axioms EForm.linear
end Go.Proofs.YtjebmlogchoehaaGreat
