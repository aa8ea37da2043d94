/-
 Plain mathematics of chapter 13's Reduce: what its rows keep while one of them is lowered, and while two change places; how great they are meanwhile.
-/
import Derived.Test.YtnpneloahajniaaGreatGramMore
import Derived.Test.YtnpneloahajniaaGreatJE
namespace Go.Proofs.YtnpneloahajniaaGreat
open Go.RowKit Lb
set_option maxRecDepth 20000

theorem near_half {x y : Int} (hy : 0 < y) : 2 * ((x - near x y * y).natAbs : Int) ≤ y := by
 have h := (near_pos (n := near x y) hy).1 rfl;omega
theorem dotN_para (N : Nat) (x y : Nat → Int) (q : Int) : dotN N (fun s => x s - q * y s) (fun s => x s - q * y s) ≤ 2 * dotN N x x + 2 * (q * q * dotN N y y) := by
 have h0 := dotN_self N fun s => x s + q * y s;have e : dotN N (fun s => x s - q * y s) (fun s => x s - q * y s) + dotN N (fun s => x s + q * y s) (fun s => x s + q * y s) = 2 * dotN N x x + 2 * (q * q * dotN N y y) := by
  unfold dotN;rw [← sumN_add, ← sumN_mul, ← sumN_mul, ← sumN_mul, ← sumN_add];refine sumN_congr fun s _ => ?_;show (x s - q * y s) * (x s - q * y s) + (x s + q * y s) * (x s + q * y s) = 2 * (x s * x s) + 2 * (q * q * (y s * y s));rw [show q * q * (y s * y s) = (q * y s) * (q * y s) by rw [Int.mul_assoc q q, Int.mul_assoc q (y s), Int.mul_left_comm (y s) q (y s)]];generalize q * y s = z;generalize x s = a;rw [Int.sub_mul, Int.mul_sub, Int.mul_sub, Int.add_mul, Int.mul_add, Int.mul_add, Int.mul_comm z a];omega
 omega
theorem red_norm {N m E i : Nat} {b : Nat → Nat → Int} (hi : i < m) (hm : m ≤ 1000) (hp : ∀ k, k ≤ m → 0 < gramD N b k) (hE : ∀ k, k ≤ m → (gramD N b k).natAbs < Bp E) (hs : ∀ s, s < i → 2 * ((gramM N b s i s).natAbs : Int) ≤ gramD N b (s + 1)) : (dotN N (b i) (b i)).natAbs < Bp (E + 1) := by
 have h1 := gram_row (T := fun _ => 1) hi hp (fun k hk => by
  have h := hs k hk;have hd := hp (k + 1) (by omega);rw [Int.one_mul, ← Int.natAbs_mul_self' (gramM N b k i k)];exact Int.mul_le_mul (by omega) (by omega) (by omega) (by omega)) (fun _ => by omega)
 have h2 := normS_le (N := N) (b := b) (T := fun _ => 1) (A := (Bp E : Int)) (B := 1) hi (fun k hk => by have := hp k hk; have := hE k hk; omega) (fun _ => by omega) i (Nat.le_refl _);have h3 := dotN_self N (b i);rw [Int.one_mul] at h2;have h4 : ((1 + i) * Bp E : Nat) < Bp (E + 1) := by
  rw [Bp_succ, Nat.mul_comm];exact (Nat.mul_lt_mul_left (Bp_pos E)).2 (by omega)
 have h5 : ((1 + i) * Bp E : Nat) = (Bp E : Int) + i * Bp E := by
  rw [Nat.add_mul]; simp
 omega
theorem sq_sum (a b : Nat) : (a + b) * (a + b) ≤ 2 * (a * a) + 2 * (b * b) := by
 have h := square_nonneg ((a : Int) - b);have e1 : ((a : Int) - b) * (a - b) = a * a - 2 * (a * b) + b * b := by
  rw [Int.sub_mul, Int.mul_sub, Int.mul_sub, Int.mul_comm (b : Int) a]; omega
 have e2 : (a + b) * (a + b) = a * a + 2 * (a * b) + b * b := by
  rw [Nat.add_mul, Nat.mul_add, Nat.mul_add, Nat.mul_comm b a]; omega
 have h3 : ((a * a : Nat) : Int) - 2 * ((a * b : Nat) : Int) + ((b * b : Nat) : Int) ≥ 0 := by
  simp only [Int.natCast_mul]; omega
 omega
theorem lessR_M3 {N m : Nat} {b : Nat → Nat → Int} {i j k l : Nat} (q : Int) (h : j < i) (hl : l ≠ i) (hkl : k < l) (hp : ∀ a, a ≤ m → gramD N b a ≠ 0) (hlm : l < m) (him : i < m) : gramM N (lessR b i j q) k l k = gramM N b k l k := by
 unfold gramM;rw [lessR_other hl];by_cases e : k ≤ i
 ·rw [dotN_congr fun s hs => (gramY_congr (b := b) (fun t ht => lessR_first q t (by omega)) (b l) s hs).symm];by_cases e2 : k = i
  ·subst e2;rw [dotN_comm, dotN_congr (y := fun s => b k s - q * b j s) (fun s _ => lessR_at b k j q s), dotN_sub, dotN_times, dotN_comm N (b j), gramY_across _ h, dotN_comm];have : dotN N (fun s => gramY N b k (b l) s) (b k) = dotN N (gramY N b k (b l)) (b k) := rfl;omega
  ·rw [lessR_other e2]
 ·obtain ⟨d, rfl⟩ := Nat.le.dest (show i + 1 ≤ k by omega);rw [lessR_other (by omega)];exact dotN_congr (gramY_span (lessR_spanD q h d).1 (lessR_spanD q h d).2 (lessR_D q h (fun a ha => hp a (by omega)) _ fun a ha => hp a (by omega)) _)
structure RHand (N m E X : Nat) (l0 rs : List (List Int)) (i j : Nat) : Prop where
 len : rs.length = m
 rows : ∀ t, t < m → (rs.getD t []).length = N
 pos : ∀ k, k ≤ m → 0 < gramD N (ent rs) k
 lt : ∀ k, k ≤ m → (gramD N (ent rs) k).natAbs < Bp E
 same : SameL l0 rs
 low : ∀ t s, t < i → s < t → 2 * ((gramM N (ent rs) s t s).natAbs : Int) ≤ gramD N (ent rs) (s + 1)
 step : ∀ t, t + 1 < i → 3 * (gramD N (ent rs) (t + 1) * gramD N (ent rs) (t + 1)) ≤ 4 * (gramD N (ent rs) (t + 2) * gramD N (ent rs) t + gramM N (ent rs) t (t + 1) t * gramM N (ent rs) t (t + 1) t)
 big : ∀ t, i < t → t < m → (dotN N (ent rs t) (ent rs t)).natAbs < Bp X
 hand : i < m → (dotN N (ent rs i) (ent rs i)).natAbs < Bp (X + (m - i + (i - j)) * (3 * E + 2))
 part : ∀ s, j ≤ s → s < i → 2 * ((gramM N (ent rs) s i s).natAbs : Int) ≤ gramD N (ent rs) (s + 1)
theorem RHand.ne {N m E X i j : Nat} {l0 rs : List (List Int)} (h : RHand N m E X l0 rs i j) : ∀ k, k ≤ m → gramD N (ent rs) k ≠ 0 := fun k hk => by have := h.pos k hk; omega
theorem RHand.norm {N m E X i j t : Nat} {l0 rs : List (List Int)} (h : RHand N m E X l0 rs i j) (hm : m ≤ 1000) (hEX : E + 1 ≤ X) (hji : j ≤ i) (ht : t < m) : (dotN N (ent rs t) (ent rs t)).natAbs < Bp (X + (m + m) * (3 * E + 2)) := by
 have hup : ∀ a, a ≤ m + m → Bp (X + a * (3 * E + 2)) ≤ Bp (X + (m + m) * (3 * E + 2)) := fun a ha => Bp_le (Nat.add_le_add_left (Nat.mul_le_mul_right _ ha) _);have h0 := hup 0 (by omega);rw [Nat.zero_mul, Nat.add_zero] at h0;rcases Nat.lt_trichotomy t i with e | e | e
 ·refine Nat.lt_of_lt_of_le (red_norm ht hm h.pos h.lt fun s hs => h.low t s e hs) (Nat.le_trans (Bp_le hEX) h0)
 ·subst e;exact Nat.lt_of_lt_of_le (h.hand ht) (hup _ (by omega))
 ·exact Nat.lt_of_lt_of_le (h.big t e ht) h0
theorem RHand.ent_lt {N m E X i j t s : Nat} {l0 rs : List (List Int)} (h : RHand N m E X l0 rs i j) (hm : m ≤ 1000) (hEX : E + 1 ≤ X) (hji : j ≤ i) (ht : t < m) : (ent rs t s).natAbs < Bp (X + (m + m) * (3 * E + 2)) := by
 by_cases hs : s < N
 ·exact Nat.lt_of_le_of_lt (ent_le_dot hs) (h.norm hm hEX hji ht)
 ·rw [show ent rs t s = 0 from getD_out (by rw [h.rows t ht]; omega)];exact Bp_pos _
theorem gramM_small {N k E x : Nat} {b : Nat → Nat → Int} {i : Nat} (hk : 0 < gramD N b k) (h1 : (gramD N b k).natAbs < Bp E) (h2 : (gramD N b (k + 1)).natAbs < Bp E) (hx : (dotN N (b i) (b i)).natAbs < Bp x) (hEx : E ≤ x) : (gramM N b k i k).natAbs < Bp (E + x) := by
 refine abs_sq_lt (P := gramD N b k * gramD N b (k + 1)) (Q := dotN N (b i) (b i)) (gramM_sq hk i) (natAbs_mul_lt h1 h2) (Nat.lt_of_lt_of_le hx (Bp_le (by omega))) (Bp_le (by omega))
theorem RHand.g_lt {N m E X i j t s : Nat} {l0 rs : List (List Int)} (h : RHand N m E X l0 rs i j) (hm : m ≤ 1000) (hEX : E + 1 ≤ X) (hji : j ≤ i) (ht : t < m) (hs : s < t) : (gramM N (ent rs) s t s).natAbs < Bp (E + (X + (m + m) * (3 * E + 2))) :=
 gramM_small (h.pos s (by omega)) (h.lt s (by omega)) (h.lt (s + 1) (by omega)) (h.norm hm hEX hji ht) (by omega)
theorem RHand.lower {N m E X i j : Nat} {l0 rs ms : List (List Int)} (h : RHand N m E X l0 rs i (j + 1)) (hm : m ≤ 1000) (hEX : E + 1 ≤ X) (hj : j < i) (hi : i < m) (q : Int) (hq : 2 * ((gramM N (ent rs) j i j - q * gramD N (ent rs) (j + 1)).natAbs : Int) ≤ gramD N (ent rs) (j + 1))
  (hl : ms.length = m) (hr : ∀ t, t < m → (ms.getD t []).length = N) (he : ∀ t s, ent ms t s = lessR (ent rs) i j q t s) : RHand N m E X l0 ms i j ∧ (∀ k, k ≤ m → gramD N (ent ms) k = gramD N (ent rs) k) ∧ (∀ t s, t < m → s < t → gramM N (ent ms) s t s = if t = i then gramM N (ent rs) s i s - q * gramM N (ent rs) s j s else gramM N (ent rs) s t s) ∧ gramP N (ent ms) m = gramP N (ent rs) m := by
 have e : ent ms = lessR (ent rs) i j q := funext fun t => funext fun s => he t s;have hD : ∀ k, k ≤ m → gramD N (ent ms) k = gramD N (ent rs) k := fun k hk => by
  rw [e]; exact lessR_D q hj (fun a ha => h.ne a (by omega)) k fun a ha => h.ne a (by omega)
 have hMi : ∀ s, s < i → gramM N (ent ms) s i s = gramM N (ent rs) s i s - q * gramM N (ent rs) s j s := fun s hs => by rw [e]; exact lessR_M q hs
 have hMo : ∀ t s, t < m → s < t → t ≠ i → gramM N (ent ms) s t s = gramM N (ent rs) s t s := fun t s ht hs hti => by
  rw [e];exact lessR_M3 q hj hti hs (fun a ha => h.ne a ha) ht hi
 have hdj : gramM N (ent rs) j j j = gramD N (ent rs) (j + 1) := (gramD_next (h.ne j (by omega))).symm;have hrow : ∀ t, t ≠ i → ent ms t = ent rs t := fun t ht => by rw [e, lessR_other ht]
 refine ⟨⟨hl, hr, fun k hk => by rw [hD k hk]; exact h.pos k hk, fun k hk => by rw [hD k hk]; exact h.lt k hk, ?_, fun t s ht hs => ?_, fun t ht => ?_, fun t ht htm => ?_, fun _ => ?_, fun s hs hsi => ?_⟩, hD, fun t s ht hs => ?_, ?_⟩
 ·exact h.same.trans (sameL_less q (by rw [h.len]; omega) (by rw [h.len]; omega) (by omega) (by rw [hl, h.len]) he)
 ·rw [hMo t s (by omega) hs (by omega), hD (s + 1) (by omega)];exact h.low t s ht hs
 ·rw [hD _ (by omega), hD _ (by omega), hD _ (by omega), hMo _ _ (by omega) (by omega) (by omega)];exact h.step t ht
 ·rw [hrow t (by omega)];exact h.big t ht htm
 ·-- how great the lowered row is
  have x0 := h.hand hi;have hQj := red_norm (show j < m by omega) hm h.pos h.lt fun s hs => h.low j s hj hs;have hpa := dotN_para N (ent rs i) (ent rs j) q;rw [show dotN N (ent ms i) (ent ms i) = dotN N (fun s => ent rs i s - q * ent rs j s) (fun s => ent rs i s - q * ent rs j s) by
   rw [show ent ms i = fun s => ent rs i s - q * ent rs j s from funext fun s => by rw [e, lessR_at]]]
  obtain ⟨x, ex⟩ : ∃ x, x = X + (m - i + (i - (j + 1))) * (3 * E + 2) := ⟨_, rfl⟩;rw [← ex] at x0;rw [show X + (m - i + (i - j)) * (3 * E + 2) = x + (3 * E + 2) by
   rw [ex, show m - i + (i - j) = m - i + (i - (j + 1)) + 1 by omega, Nat.add_mul, Nat.one_mul]; omega]
  have hEx : E + 1 ≤ x := by rw [ex]; omega
  have hg := gramM_sq (h.pos j (by omega)) (b := ent rs) i;have hd := h.pos (j + 1) (by omega);have l1 := h.lt j (by omega);have l2 := h.lt (j + 1) (by omega);have hs0 := dotN_self N fun s => ent rs i s - q * ent rs j s;have hn1 := dotN_self N (ent rs j);have hn2 := dotN_self N (ent rs i);generalize dotN N (fun s => ent rs i s - q * ent rs j s) (fun s => ent rs i s - q * ent rs j s) = R at hpa hs0 ⊢;generalize dotN N (ent rs i) (ent rs i) = Qi at *;generalize dotN N (ent rs j) (ent rs j) = Qj at *;generalize gramM N (ent rs) j i j = g at hg hq;have hdd : (gramD N (ent rs) j * gramD N (ent rs) (j + 1) * Qi).natAbs < Bp (E + E + x) := natAbs_mul_lt (natAbs_mul_lt l1 l2) x0;generalize gramD N (ent rs) j * gramD N (ent rs) (j + 1) * Qi = PP at hg hdd;have hd2 := natAbs_mul_lt l2 l2;generalize gramD N (ent rs) (j + 1) = d at hq hd hd2;have hgg : (g * g).natAbs < Bp (E + E + x) := by have := square_nonneg g; omega
  have hqd : q.natAbs ≤ g.natAbs + d.natAbs := by
   have h1 : (q * d).natAbs ≤ g.natAbs + d.natAbs := by omega
   rw [Int.natAbs_mul] at h1;exact Nat.le_trans (Nat.le_mul_of_pos_right _ (by omega)) h1
  have hqq : (q * q).natAbs ≤ 2 * (g * g).natAbs + 2 * (d * d).natAbs := by
   rw [Int.natAbs_mul, Int.natAbs_mul, Int.natAbs_mul];exact Nat.le_trans (Nat.mul_le_mul hqd hqd) (sq_sum _ _)
  have hB1 : Bp (E + E) ≤ Bp (E + E + x) := Bp_le (by omega);have hq4 : (q * q).natAbs < 4 * Bp (E + E + x) := by omega
  have hqQ : (q * q * Qj).natAbs < 4 * Bp (E + E + x) * Bp (E + 1) := by
   rw [Int.natAbs_mul];exact Nat.mul_lt_mul'' hq4 hQj
  rw [Nat.mul_assoc, ← Bp_add] at hqQ;have hB2 : Bp x ≤ Bp (E + E + x + (E + 1)) := Bp_le (by omega);have hB3 : Bp (x + (3 * E + 2)) = Bp (E + E + x + (E + 1)) * 4294967296 := by rw [← Bp_succ]; congr 1; omega
  omega
 ·rw [hMi s hsi, hD (s + 1) (by omega)];by_cases c : s = j
  ·subst c;rw [hdj]; exact hq
  ·rw [gramM_row (show j < s by omega), Int.mul_zero, Int.sub_zero];exact h.part s (by omega) hsi
 ·by_cases c : t = i
  ·subst c; rw [if_pos rfl]; exact hMi s hs
  ·rw [if_neg c]; exact hMo t s ht hs c
 ·rw [e]; exact lessR_P q hj hi h.pos
end Go.Proofs.YtnpneloahajniaaGreat
