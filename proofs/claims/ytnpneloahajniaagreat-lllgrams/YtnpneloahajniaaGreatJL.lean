/-
 Plain mathematics of stage 10: sums of whole numbers times rows (a lattice), which steps leave it as it is, and that rows in Hermite's form that have one lattice are the same rows.
-/
import Derived.Test.YtnpneloahajniaaGreatJH
import Derived.Test.YtnpneloahajniaaGreatJI
namespace Go.Proofs.YtnpneloahajniaaGreat
open Go.RowKit Lb
set_option maxRecDepth 20000

def ent (l : List (List Int)) (i j : Nat) : Int := (l.getD i []).getD j 0
theorem ent_out {l : List (List Int)} {i j : Nat} (h : l.length ≤ i) : ent l i j = 0 := by
 unfold ent;rw [show l.getD i [] = [] by simp [List.getD, List.getElem?_eq_none h]];simp
def InL (l : List (List Int)) (v : Nat → Int) : Prop := ∃ c : Nat → Int, ∀ j, v j = sumN l.length fun i => c i * ent l i j
theorem sumN_nil0 (n : Nat) : (sumN n fun _ => (0 : Int)) = 0 := by
 induction n with
 | zero => rfl
 | succ n ih => rw [sumN, ih]; rfl
theorem sumN_single (n : Nat) (i : Nat) (x : Int) (hi : i < n) : (sumN n fun t => if t = i then x else 0) = x := by
 induction n with
 | zero => omega
 | succ n ih =>
  rw [sumN];by_cases e : n = i
  ·subst e;rw [if_pos rfl, show (sumN n fun t => if t = n then x else 0) = sumN n fun _ => (0 : Int) from sumN_congr fun t ht => by rw [if_neg (by omega)], sumN_nil0];omega
  ·rw [if_neg e, ih (by omega)]; omega
theorem inL_zero (l : List (List Int)) : InL l fun _ => 0 := ⟨fun _ => 0, fun j => by
 show (0 : Int) = sumN l.length fun i => (0 : Int) * ent l i j;rw [show (sumN l.length fun i => (0 : Int) * ent l i j) = sumN l.length fun _ => (0 : Int) from sumN_congr fun i _ => Int.zero_mul _, sumN_nil0]⟩
theorem InL.add {l : List (List Int)} {v u : Nat → Int} (h : InL l v) (h' : InL l u) : InL l fun j => v j + u j := by
 obtain ⟨c, hc⟩ := h;obtain ⟨d, hd⟩ := h';refine ⟨fun i => c i + d i, fun j => ?_⟩;show v j + u j = sumN l.length fun i => (c i + d i) * ent l i j;rw [hc j, hd j, ← sumN_add];exact sumN_congr fun i _ => by rw [Int.add_mul]
theorem InL.mul {l : List (List Int)} {v : Nat → Int} (h : InL l v) (x : Int) : InL l fun j => x * v j := by
 obtain ⟨c, hc⟩ := h;refine ⟨fun i => x * c i, fun j => ?_⟩;show x * v j = sumN l.length fun i => x * c i * ent l i j;rw [hc j, ← sumN_mul];exact sumN_congr fun i _ => by rw [Int.mul_assoc]
theorem InL.eq {l : List (List Int)} {v u : Nat → Int} (h : InL l v) (e : ∀ j, u j = v j) : InL l u := by
 obtain ⟨c, hc⟩ := h;exact ⟨c, fun j => (e j).trans (hc j)⟩
theorem InL.sub {l : List (List Int)} {v u : Nat → Int} (h : InL l v) (h' : InL l u) : InL l fun j => v j - u j :=
 (h.add (h'.mul (-1))).eq fun j => by omega
theorem inL_row {l : List (List Int)} (i : Nat) : InL l fun j => ent l i j := by
 by_cases hi : i < l.length
 ·refine ⟨fun t => if t = i then 1 else 0, fun j => ?_⟩;have e : (sumN l.length fun t => (if t = i then (1 : Int) else 0) * ent l t j) = sumN l.length fun t => if t = i then ent l i j else 0 := sumN_congr fun t _ => by
   by_cases c : t = i
   ·subst c; rw [if_pos rfl, if_pos rfl, Int.one_mul]
   ·rw [if_neg c, if_neg c, Int.zero_mul]
  show ent l i j = sumN l.length fun t => (if t = i then (1 : Int) else 0) * ent l t j;rw [e, sumN_single _ _ _ hi]
 ·exact (inL_zero l).eq fun j => ent_out (by omega)
theorem inL_sum {l : List (List Int)} (n : Nat) (f : Nat → Nat → Int) (h : ∀ i, i < n → InL l fun j => f i j) : InL l fun j => sumN n fun i => f i j := by
 induction n with
 | zero => exact inL_zero l
 | succ n ih => exact (ih fun i hi => h i (by omega)).add (h n (by omega))
theorem InL.trans {l m : List (List Int)} {v : Nat → Int} (h : InL l v) (hr : ∀ i, i < l.length → InL m fun j => ent l i j) : InL m v := by
 obtain ⟨c, hc⟩ := h;exact (inL_sum l.length (fun i j => c i * ent l i j) fun i hi => (hr i hi).mul (c i)).eq hc
def SameL (l m : List (List Int)) : Prop := ∀ v, InL l v ↔ InL m v
theorem SameL.refl (l : List (List Int)) : SameL l l := fun _ => Iff.rfl
theorem SameL.symm {l m : List (List Int)} (h : SameL l m) : SameL m l := fun v => (h v).symm
theorem SameL.trans {l m k : List (List Int)} (h : SameL l m) (h' : SameL m k) : SameL l k := fun v => (h v).trans (h' v)
theorem sameL_of {l m : List (List Int)} (h : ∀ i, i < l.length → InL m fun j => ent l i j) (h' : ∀ i, i < m.length → InL l fun j => ent m i j) : SameL l m := fun _ => ⟨fun hv => hv.trans h, fun hv => hv.trans h'⟩
theorem SameL.row {l m : List (List Int)} (h : SameL l m) (i : Nat) : InL m fun j => ent l i j := (h _).1 (inL_row i)

structure HForm (h : List (List Int)) (p : Nat → Nat) : Prop where
 rise : ∀ i k, i < k → k < h.length → p i < p k
 ahead : ∀ i, i < h.length → ∀ j, j < p i → ent h i j = 0
 pos : ∀ i, i < h.length → 0 < ent h i (p i)
 low : ∀ i k, i < k → k < h.length → 0 ≤ ent h i (p k) ∧ ent h i (p k) < ent h k (p k)
theorem sumN_first {n i : Nat} {f : Nat → Int} (hi : i < n) (h0 : ∀ t, t < i → f t = 0) (h1 : ∀ t, i < t → t < n → f t = 0) : sumN n f = f i := by
 rw [← sumN_single n i (f i) hi];exact sumN_congr fun t ht => by
  by_cases c : t = i
  ·subst c; rw [if_pos rfl]
  ·rw [if_neg c];rcases Nat.lt_or_gt_of_ne c with d | d
   ·exact h0 t d
   ·exact h1 t d ht
theorem first_not (c : Nat → Int) (n : Nat) : (∀ i, i < n → c i = 0) ∨ ∃ i, i < n ∧ c i ≠ 0 ∧ ∀ t, t < i → c t = 0 := by
 induction n with
 | zero => exact Or.inl fun i hi => absurd hi (by omega)
 | succ n ih =>
  rcases ih with h | ⟨i, h1, h2, h3⟩
  ·by_cases e : c n = 0
   ·refine Or.inl fun i hi => ?_;by_cases d : i = n
    ·subst d; exact e
    ·exact h i (by omega)
   ·exact Or.inr ⟨n, by omega, e, h⟩
  ·exact Or.inr ⟨i, by omega, h2, h3⟩
theorem lead_one {v : Nat → Int} {a b : Nat} (ha : ∀ j, j < a → v j = 0) (hb : ∀ j, j < b → v j = 0) (na : v a ≠ 0) (nb : v b ≠ 0) : a = b := by
 rcases Nat.lt_trichotomy a b with c | c | c
 ·exact absurd (hb a c) na
 ·exact c
 ·exact absurd (ha b c) nb
/-
 Plain mathematics of stage 10: steps that leave a lattice as it is (a row less a multiple of another one, turned round, exchanged; noughts left out), and how they lead to Hermite's form.
-/

theorem ent_set (l : List (List Int)) (i : Nat) (r : List Int) (t j : Nat) (hi : i < l.length) : ent (l.set i r) t j = if t = i then r.getD j 0 else ent l t j := by
 unfold ent;by_cases c : t = i
 ·subst c;rw [if_pos rfl];simp [List.getD, hi]
 ·rw [if_neg c, show (l.set i r).getD t [] = l.getD t [] by simp [List.getD, List.getElem?_set_ne (Ne.symm c)]]
theorem ent_same {l : List (List Int)} {i : Nat} {r : List Int} (hi : i < l.length) (j : Nat) : ent (l.set i r) i j = r.getD j 0 := by rw [ent_set l i r i j hi, if_pos rfl]
theorem ent_other {l : List (List Int)} {i t : Nat} {r : List Int} (hi : i < l.length) (ht : t ≠ i) (j : Nat) : ent (l.set i r) t j = ent l t j := by rw [ent_set l i r t j hi, if_neg ht]
theorem sameL_add {l : List (List Int)} {i p : Nat} {r : List Int} {q : Int} (hi : i < l.length) (hp : p ≠ i) (hr : ∀ j, r.getD j 0 = ent l i j + q * ent l p j) : SameL l (l.set i r) := by
 refine sameL_of (fun t ht => ?_) (fun t ht => ?_)
 ·by_cases c : t = i
  ·subst c;have h1 := inL_row (l := l.set t r) t;have h2 := (inL_row (l := l.set t r) p).mul q;exact (h1.sub h2).eq fun j => by rw [ent_same hi, ent_other hi hp, hr j]; omega
  ·exact (inL_row (l := l.set i r) t).eq fun j => (ent_other hi c j).symm
 ·by_cases c : t = i
  ·subst c;exact ((inL_row (l := l) t).add ((inL_row (l := l) p).mul q)).eq fun j => by rw [ent_same hi, hr j]
  ·exact (inL_row (l := l) t).eq fun j => ent_other hi c j
theorem sameL_neg {l : List (List Int)} {i : Nat} {r : List Int} (hi : i < l.length) (hr : ∀ j, r.getD j 0 = -ent l i j) : SameL l (l.set i r) := by
 refine sameL_of (fun t ht => ?_) (fun t ht => ?_)
 ·by_cases c : t = i
  ·subst c;exact ((inL_row (l := l.set t r) t).mul (-1)).eq fun j => by rw [ent_same hi, hr j]; omega
  ·exact (inL_row (l := l.set i r) t).eq fun j => (ent_other hi c j).symm
 ·by_cases c : t = i
  ·subst c;exact ((inL_row (l := l) t).mul (-1)).eq fun j => by rw [ent_same hi, hr j]; omega
  ·exact (inL_row (l := l) t).eq fun j => ent_other hi c j
def swapL (l : List (List Int)) (i p : Nat) : List (List Int) := (l.set i (l.getD p [])).set p (l.getD i [])
theorem swapL_len (l : List (List Int)) (i p : Nat) : (swapL l i p).length = l.length := by simp [swapL]
theorem ent_swap {l : List (List Int)} {i p : Nat} (hi : i < l.length) (hp : p < l.length) (t j : Nat) : ent (swapL l i p) t j = if t = p then ent l i j else if t = i then ent l p j else ent l t j := by
 unfold swapL;rw [ent_set _ _ _ _ _ (by simpa using hp)];by_cases c : t = p
 ·rw [if_pos c, if_pos c]; rfl
 ·rw [if_neg c, if_neg c, ent_set _ _ _ _ _ hi]; rfl
theorem sameL_swap {l : List (List Int)} {i p : Nat} (hi : i < l.length) (hp : p < l.length) : SameL l (swapL l i p) := by
 refine sameL_of (fun t ht => ?_) (fun t ht => ?_)
 ·by_cases c : t = i
  ·exact (inL_row (l := swapL l i p) p).eq fun j => by rw [ent_swap hi hp, if_pos rfl, c]
  ·by_cases d : t = p
   ·exact (inL_row (l := swapL l i p) i).eq fun j => by
     rw [ent_swap hi hp];by_cases e : i = p
     ·rw [if_pos e, d, e]
     ·rw [if_neg e, if_pos rfl, d]
   ·exact (inL_row (l := swapL l i p) t).eq fun j => by rw [ent_swap hi hp, if_neg d, if_neg c]
 ·by_cases d : t = p
  ·exact (inL_row (l := l) i).eq fun j => by rw [ent_swap hi hp, if_pos d]
  ·by_cases c : t = i
   ·exact (inL_row (l := l) p).eq fun j => by rw [ent_swap hi hp, if_neg d, if_pos c]
   ·exact (inL_row (l := l) t).eq fun j => by rw [ent_swap hi hp, if_neg d, if_neg c]
theorem ent_take {l : List (List Int)} {d i : Nat} (hi : i < d) (j : Nat) : ent (l.take d) i j = ent l i j := by
 unfold ent;rw [show (l.take d).getD i [] = l.getD i [] by simp [List.getD, hi]]
theorem sameL_take {l : List (List Int)} {d : Nat} (h : ∀ i, d ≤ i → i < l.length → ∀ j, ent l i j = 0) : SameL l (l.take d) := by
 refine sameL_of (fun t ht => ?_) (fun t ht => ?_)
 ·by_cases c : t < d
  ·exact (inL_row (l := l.take d) t).eq fun j => (ent_take c j).symm
  ·exact (inL_zero (l.take d)).eq fun j => h t (by omega) ht j
 ·rw [List.length_take] at ht;exact (inL_row (l := l) t).eq fun j => ent_take (by omega) j
structure HState (rs l : List (List Int)) (c d : Nat) (p : Nat → Nat) : Prop where
 same : SameL rs l
 form : HForm (l.take d) p
 lt : ∀ i, i < d → p i < c
 zero : ∀ i, d ≤ i → ∀ j, j < c → ent l i j = 0
 dle : d ≤ l.length
theorem hform_nil (p : Nat → Nat) : HForm [] p := ⟨fun _ _ _ h => by simp at h, fun _ h => by simp at h, fun _ h => by simp at h, fun _ _ _ h => by simp at h⟩
theorem hstate_start (rs : List (List Int)) (p : Nat → Nat) : HState rs rs 0 0 p := ⟨SameL.refl _, hform_nil p, fun i hi => absurd hi (by omega), fun _ _ j hj => absurd hj (by omega), Nat.zero_le _⟩
theorem HForm.of_ent {h g : List (List Int)} {p : Nat → Nat} (hf : HForm h p) (hl : g.length = h.length) (he : ∀ i, i < h.length → ∀ j, ent g i j = ent h i j) : HForm g p := by
 refine ⟨fun i k h1 h2 => hf.rise i k h1 (by omega), fun i hi j hj => ?_, fun i hi => ?_, fun i k h1 h2 => ?_⟩
 ·rw [he i (by omega)]; exact hf.ahead i (by omega) j hj
 ·rw [he i (by omega)]; exact hf.pos i (by omega)
 ·rw [he i (by omega), he k (by omega)]; exact hf.low i k h1 (by omega)
theorem take_len {l : List (List Int)} {d : Nat} (h : d ≤ l.length) : (l.take d).length = d := by rw [List.length_take]; omega
theorem HState.sub {rs l : List (List Int)} {c d : Nat} {p : Nat → Nat} (h : HState rs l c d p) {i t : Nat} {r : List Int} {q : Int} (hi : i < l.length) (hdi : d ≤ i) (hdt : d ≤ t) (hne : t ≠ i) (hr : ∀ j, r.getD j 0 = ent l i j - q * ent l t j) : HState rs (l.set i r) c d p := by
 have hr' : ∀ j, r.getD j 0 = ent l i j + (-q) * ent l t j := fun j => by rw [hr j, Int.neg_mul]; omega
 refine ⟨h.same.trans (sameL_add hi hne hr'), h.form.of_ent (by rw [take_len (by simpa using h.dle), take_len h.dle]) fun s hs j => ?_, h.lt, fun s hs j hj => ?_, by simpa using h.dle⟩
 ·rw [take_len h.dle] at hs;rw [ent_take hs, ent_take hs, ent_other hi (by omega)]
 ·by_cases e : s = i
  ·subst e;rw [ent_same hi, hr j, h.zero s hs j hj, h.zero t hdt j hj, Int.mul_zero]; rfl
  ·rw [ent_other hi e]; exact h.zero s hs j hj
theorem HState.neg {rs l : List (List Int)} {c d : Nat} {p : Nat → Nat} (h : HState rs l c d p) {i : Nat} {r : List Int} (hi : i < l.length) (hdi : d ≤ i) (hr : ∀ j, r.getD j 0 = -ent l i j) : HState rs (l.set i r) c d p := by
 refine ⟨h.same.trans (sameL_neg hi hr), h.form.of_ent (by rw [take_len (by simpa using h.dle), take_len h.dle]) fun s hs j => ?_, h.lt, fun s hs j hj => ?_, by simpa using h.dle⟩
 ·rw [take_len h.dle] at hs;rw [ent_take hs, ent_take hs, ent_other hi (by omega)]
 ·by_cases e : s = i
  ·subst e;rw [ent_same hi, hr j, h.zero s hs j hj]; rfl
  ·rw [ent_other hi e]; exact h.zero s hs j hj
theorem HState.swap {rs l : List (List Int)} {c d : Nat} {p : Nat → Nat} (h : HState rs l c d p) {i t : Nat} (hi : i < l.length) (ht : t < l.length) (hdi : d ≤ i) (hdt : d ≤ t) : HState rs (swapL l i t) c d p := by
 refine ⟨h.same.trans (sameL_swap hi ht), h.form.of_ent (by rw [take_len (by rw [swapL_len]; exact h.dle), take_len h.dle]) fun s hs j => ?_, h.lt, fun s hs j hj => ?_, by rw [swapL_len]; exact h.dle⟩
 ·rw [take_len h.dle] at hs;rw [ent_take hs, ent_take hs, ent_swap hi ht, if_neg (by omega), if_neg (by omega)]
 ·rw [ent_swap hi ht];by_cases e : s = t
  ·rw [if_pos e]; exact h.zero i hdi j hj
  ·rw [if_neg e];by_cases f : s = i
   ·rw [if_pos f]; exact h.zero t hdt j hj
   ·rw [if_neg f]; exact h.zero s hs j hj
theorem HState.low {rs l : List (List Int)} {c d : Nat} {p : Nat → Nat} (h : HState rs l c d p) {i : Nat} {r : List Int} {q : Int} (hi : i < d) (hr : ∀ j, r.getD j 0 = ent l i j - q * ent l d j) : HState rs (l.set i r) c d p := by
 have hil : i < l.length := by have := h.dle; omega
 have hr' : ∀ j, r.getD j 0 = ent l i j + (-q) * ent l d j := fun j => by rw [hr j, Int.neg_mul]; omega
 have hkeep : ∀ s j, j < c → ent (l.set i r) s j = ent l s j := fun s j hj => by
  by_cases e : s = i
  ·subst e;rw [ent_same hil, hr j, h.zero d (Nat.le_refl _) j hj, Int.mul_zero]; omega
  ·rw [ent_other hil e]
 have hf := h.form;have hlen : (l.take d).length = d := take_len h.dle;have hlen' : ((l.set i r).take d).length = d := take_len (by simpa using h.dle);refine ⟨h.same.trans (sameL_add hil (by omega) hr'), ⟨fun a k h1 h2 => hf.rise a k h1 (by omega), fun a ha j hj => ?_, fun a ha => ?_, fun a k h1 h2 => ?_⟩, h.lt, fun s hs j hj => ?_, by simpa using h.dle⟩
 ·rw [hlen'] at ha;have := hf.ahead a (by omega) j hj;rw [ent_take ha] at this ⊢;rw [hkeep a j (by have := h.lt a ha; omega)]; exact this
 ·rw [hlen'] at ha;have := hf.pos a (by omega);rw [ent_take ha] at this ⊢;rw [hkeep a _ (h.lt a ha)]; exact this
 ·rw [hlen'] at h2;have := hf.low a k h1 (by omega);rw [ent_take (by omega), ent_take h2] at this ⊢;rw [hkeep a _ (h.lt k h2), hkeep k _ (h.lt k h2)]; exact this
 ·rw [hkeep s j hj]; exact h.zero s hs j hj
theorem HState.skip {rs l : List (List Int)} {c d : Nat} {p : Nat → Nat} (h : HState rs l c d p) (h0 : ∀ i, d ≤ i → ent l i c = 0) : HState rs l (c + 1) d p := by
 refine ⟨h.same, h.form, fun i hi => by have := h.lt i hi; omega, fun i hi j hj => ?_, h.dle⟩;by_cases e : j = c
 ·subst e; exact h0 i hi
 ·exact h.zero i hi j (by omega)
theorem HState.next {rs l : List (List Int)} {c d : Nat} {p : Nat → Nat} (h : HState rs l c d p) (hd : d < l.length) (hpos : 0 < ent l d c) (h0 : ∀ i, d < i → ent l i c = 0) (hlow : ∀ i, i < d → 0 ≤ ent l i c ∧ ent l i c < ent l d c) : HState rs l (c + 1) (d + 1) (fun i => if i = d then c else p i) := by
 have hf := h.form;have hlen : (l.take d).length = d := take_len h.dle;have hlen' : (l.take (d + 1)).length = d + 1 := take_len (by omega);refine ⟨h.same, ⟨fun a k h1 h2 => ?_, fun a ha j hj => ?_, fun a ha => ?_, fun a k h1 h2 => ?_⟩, fun i hi => ?_, fun i hi j hj => ?_, by omega⟩
 ·rw [hlen'] at h2;rw [if_neg (by omega)];by_cases e : k = d
  ·rw [if_pos e]; exact h.lt a (by omega)
  ·rw [if_neg e]; exact hf.rise a k h1 (by omega)
 ·rw [hlen'] at ha;rw [ent_take ha];by_cases e : a = d
  ·rw [if_pos e] at hj;rw [e]; exact h.zero d (Nat.le_refl _) j hj
  ·rw [if_neg e] at hj;have := hf.ahead a (by omega) j hj
   rwa [ent_take (by omega)] at this
 ·rw [hlen'] at ha;rw [ent_take ha];by_cases e : a = d
  ·rw [if_pos e, e]; exact hpos
  ·rw [if_neg e];have := hf.pos a (by omega)
   rwa [ent_take (by omega)] at this
 ·rw [hlen'] at h2;rw [ent_take (by omega), ent_take h2];by_cases e : k = d
  ·rw [if_pos e, e]; exact hlow a (by omega)
  ·rw [if_neg e];have := hf.low a k h1 (by omega)
   rwa [ent_take (by omega), ent_take (by omega)] at this
 ·show (if i = d then c else p i) < c + 1;by_cases e : i = d
  ·rw [if_pos e]; omega
  ·rw [if_neg e];have := h.lt i (by omega);omega
 ·by_cases e : j = c
  ·subst e; exact h0 i (by omega)
  ·exact h.zero i (by omega) j (by omega)
theorem HState.done {rs l : List (List Int)} {n d : Nat} {p : Nat → Nat} (h : HState rs l n d p) (hw : ∀ r ∈ l, r.length ≤ n) : HForm (l.take d) p ∧ SameL rs (l.take d) := by
 refine ⟨h.form, h.same.trans (sameL_take fun i hi hl j => ?_)⟩;by_cases c : j < n
 ·exact h.zero i hi j c
 ·unfold ent;refine getD_out ?_;rw [show l.getD i [] = l[i] by simp [List.getD, hl]];exact Nat.le_trans (hw _ (List.getElem_mem hl)) (by omega)

theorem grow_one {x y q : Int} {A P v : Nat} (hx : x.natAbs ≤ A) (hy : y.natAbs ≤ A) (hq : q.natAbs * v ≤ P) (hv : 0 < v) : (x - q * y).natAbs ≤ A + P / v * A := by
 have h1 : q.natAbs ≤ P / v := (Nat.le_div_iff_mul_le hv).2 hq;have h2 : (q * y).natAbs = q.natAbs * y.natAbs := Int.natAbs_mul q y;have h3 : q.natAbs * y.natAbs ≤ P / v * A := Nat.mul_le_mul h1 hy;omega
theorem grow_all {A P v : Nat} : (A + P / v * A) * v ≤ A * (v + P) := by
 have h1 : P / v * v ≤ P := Nat.div_mul_le_self P v
 calc (A + P / v * A) * v = A * v + A * (P / v * v) := by rw [Nat.add_mul, Nat.mul_comm (P / v) A, Nat.mul_assoc]
  _ ≤ A * v + A * P := Nat.add_le_add_left (Nat.mul_le_mul_left _ h1) _
  _ = A * (v + P) := by rw [Nat.mul_add]
theorem grow_le {A P v : Nat} (hv : 0 < v) (hp : v ≤ P) : A + P / v * A ≤ 2 * (A * P) := by
 have h1 : P / v ≤ P := Nat.div_le_self P v;have h2 : P / v * A ≤ A * P := by rw [Nat.mul_comm]; exact Nat.mul_le_mul_left _ h1
 have h3 : A * 1 ≤ A * P := Nat.mul_le_mul_left _ (by omega);omega
theorem quo_size (x y : Int) : (x.tdiv y).natAbs * y.natAbs + (x.tmod y).natAbs = x.natAbs := by
 rw [Int.natAbs_tdiv, Int.natAbs_tmod, Nat.mul_comm];exact Nat.div_add_mod _ _
theorem quo_rest (x y : Int) : x - x.tdiv y * y = x.tmod y := by
 have := Int.mul_tdiv_add_tmod x y;rw [Int.mul_comm] at this;omega
theorem rest_lt {x y : Int} (hy : y ≠ 0) : (x.tmod y).natAbs < y.natAbs := by
 rw [Int.natAbs_tmod];exact Nat.mod_lt _ (by omega)
theorem rest_sum {x y : Int} (hy : y ≠ 0) (h : y.natAbs ≤ x.natAbs) : y.natAbs + (x.tmod y).natAbs ≤ x.natAbs := by
 have h1 := quo_size x y;have h2 : 1 ≤ (x.tdiv y).natAbs := by
  rw [Int.natAbs_tdiv];exact (Nat.le_div_iff_mul_le (by omega)).2 (by omega)
 have h3 : 1 * y.natAbs ≤ (x.tdiv y).natAbs * y.natAbs := Nat.mul_le_mul_right _ h2;omega
theorem quo_le {x y : Int} {P : Nat} (h : x.natAbs ≤ P) : (x.tdiv y).natAbs * y.natAbs ≤ P := by
 have := quo_size x y;omega

def IsPivot (v : List Int) (p : Nat) : Prop := (∀ j, j < p → v.getD j 0 = 0) ∧ v.getD p 0 ≠ 0
theorem IsPivot.lt {v : List Int} {p : Nat} (h : IsPivot v p) : p < v.length := by
 rcases Nat.lt_or_ge p v.length with c | c
 ·exact c
 ·exact absurd (getD_out c) h.2
/-
 A vector in its forms whose numbers are small has few limbs, whatever was told of it; powers of such bounds.
-/

theorem vf_tight {w : World} {ao : Option Addr} {n cap K k : Nat} {zs : List Int} (h : VF w ao n cap zs K) (hb : ∀ i, i < n → (zs.getD i 0).natAbs < Bp k) : VF w ao n cap zs k := VecOf.mono h (fun hi h => ⟨h.1, hb _ hi⟩)
theorem vf_size {w : World} {ao : Option Addr} {n cap k : Nat} {zs : List Int} (h : VF w ao n cap zs k) (i : Nat) : (zs.getD i 0).natAbs < Bp k := by
 by_cases hi : i < n
 ·obtain ⟨g, off, _, _, hc⟩ := h.elts (by omega);obtain ⟨_, _, _, _, _, h2⟩ := hc i hi;exact h2.2
 ·rw [getD_out (by rw [h.len_eq]; omega)];exact Nat.lt_of_lt_of_le Nat.zero_lt_one (by unfold Bp; exact Nat.pow_pos (by omega))
theorem bp_add (a b : Nat) : Bp (a + b) = Bp a * Bp b := by unfold Bp; exact Nat.pow_add _ _ _
theorem bp_mul_lt {x y a b : Nat} (hx : x < Bp a) (hy : y < Bp b) : x * y < Bp (a + b) := by
 rw [bp_add];exact Nat.mul_lt_mul'' hx hy
end Go.Proofs.YtnpneloahajniaaGreat
