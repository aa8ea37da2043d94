/-
  A region that draws its order, in which what the loads read is written over at the end ('a, b = f(a), g(b)'): the condition S on the world is asked only till one operation t has come up (the first store that breaks it); a load is taken first if t waits for it, over however many others ('late': all that wait for it).
-/
import Derived.Deep.RegionHeld3
namespace Go.Proofs.Ytdbimajopclndaa

/-- Whatever order is picked from here on, S holds behind each operation till number t has come up. -/
def Till (P : Program) (ops : Array Oper) (Q : Exit → Act → World → Prop) (S : World → Prop) (t : Nat) : Nat → Array Bool → Act → World → Prop
  | 0, l, a, w => Region.ready .any ops l = [] ∧ Q .normal a w
  | n + 1, l, a, w => (Region.ready .any ops l = [] → Q .normal a w) ∧
      ∀ i ∈ Region.ready .any ops l, wpOp P ops Q i (fun a' w' => ((l.setIfInBounds i true).getD t true = false → S w') ∧ Till P ops Q S t n (l.setIfInBounds i true) a' w') a w
theorem Till.any {P : Program} {ops : Array Oper} {Q : Exit → Act → World → Prop} {S : World → Prop} {t : Nat} : ∀ (n : Nat) (l : Array Bool) (a : Act) (w : World), Till P ops Q S t n l a w → wpAny P .any ops Q n l a w
  | 0, _, _, _, h => h
  | n + 1, _, _, _, h => ⟨h.1, fun i hi => wpOp_mono (fun a' w' h' => Till.any n _ a' w' h'.2) (h.2 i hi)⟩
/-- Number j waits for number i, or for one of the late ones. -/
def waitsB (ops : Array Oper) (i : Nat) (late : List Nat) (j : Nat) : Bool := match ops[j]? with
  | none => false
  | some o => o.after.any fun e => Region.binds .any e && (e.on == i || late.contains e.on)
/-- All of the late ones are still to come, and wait for i or for one another; t is one of them, i is none. -/
def lateB (ops : Array Oper) (l : Array Bool) (i t : Nat) (late : List Nat) : Bool := late.contains t && !late.contains i && late.all fun j => !(l.getD j true) && waitsB ops i late j
theorem waits_not_ready {ops : Array Oper} {l : Array Bool} {i j : Nat} {late : List Nat} (hi : l.getD i true = false) (hlate : ∀ k ∈ late, l.getD k true = false) (hw : waitsB ops i late j = true) : ¬ j ∈ Region.ready .any ops l := by
  intro hj
  obtain ⟨_, o, ho, hall⟩ := mem_ready.1 hj
  unfold waitsB at hw
  rw [ho] at hw
  obtain ⟨e, he, h2⟩ := Array.any_eq_true'.1 hw
  rw [Bool.and_eq_true, Bool.or_eq_true] at h2
  have h3 := hall e he h2.1
  have h4 : l.getD e.on true = false := by
    rcases h2.2 with h | h
    · rw [show e.on = i by simpa using h]; exact hi
    · exact hlate _ (by simpa using h)
  rcases Nat.lt_or_ge e.on l.size with hlt | hge
  · simp [Array.getD, hlt] at h3 h4
    rw [h3] at h4
    exact Bool.noConfusion h4
  · simp [Array.getD, Nat.not_lt.2 hge] at h3
theorem Till.first {P : Program} {ops : Array Oper} {Q : Exit → Act → World → Prop} {S : World → Prop} {t i : Nat} {oi : Oper} {v : Value} (late : List Nat) (ht : t ∈ late) (hil : i ∉ late) (hw : ∀ j ∈ late, waitsB ops i late j = true) (hi : ops[i]? = some oi)
    (hsel : ∀ (j : Nat) (o : Oper) cs b, ops[j]? = some o → o.op ≠ .select cs b) (hQ : ∀ c a w, Q (.panic c) (a.put oi.dst v) w → Q (.panic c) a w) :
    ∀ (n : Nat) (l : Array Bool) (a : Act) (w : World), (∀ j ∈ late, l.getD j true = false) →
      (∀ j oj, ops[j]? = some oj → j ≠ i → l.getD j true = false → (∀ e ∈ oj.after, Region.binds .any e = true → e.on ≠ i) → oi.apart ops oj = true) →
      i ∈ Region.ready .any ops l → YieldsIf P ops S oi v a → S w → Till P ops Q S t n (l.setIfInBounds i true) (a.put oi.dst v) w → Till P ops Q S t (n + 1) l a w := by
  intro n
  induction n with
  | zero =>
    intro l a w _ _ hr hy hS H
    refine ⟨fun h => (by rw [h] at hr; cases hr), fun j hj => ?_⟩
    by_cases hji : j = i
    · subst hji; exact hy.wpOp hi hS ⟨fun _ => hS, H⟩
    · have h1 := ready_mono hj hji
      rw [H.1] at h1
      cases h1
  | succ n ih =>
    intro l a w hla hfree hr hy hS H
    have hiu := (mem_ready.1 hr).1
    refine ⟨fun h => (by rw [h] at hr; cases hr), fun j hj => ?_⟩
    by_cases hji : j = i
    · subst hji; exact hy.wpOp hi hS ⟨fun _ => hS, H⟩
    have hjl : j ∉ late := fun h => waits_not_ready hiu hla (hw j h) hj
    obtain ⟨hju, oj, hoj, hall⟩ := mem_ready.1 hj
    have hno : ∀ e ∈ oj.after, Region.binds .any e = true → e.on ≠ i := fun e he hb hei => by
      have h1 := hall e he hb
      rw [hei] at h1
      rcases Nat.lt_or_ge i l.size with hlt | hge
      · simp [Array.getD, hlt] at h1 hiu
        rw [h1] at hiu
        exact Bool.noConfusion hiu
      · simp [Array.getD, Nat.not_lt.2 hge] at h1
    have h2 := wpOp_putIf hoj (hfree j oj hoj hji hju hno) (fun cs b => hsel i oi cs b hi) (fun cs b => hsel j oj cs b hoj) hQ hy (H.2 j (ready_mono hj hji))
    have htj : j ≠ t := fun h => hjl (h ▸ ht)
    have hti : i ≠ t := fun h => hil (h ▸ ht)
    have hla' : ∀ k ∈ late, (l.setIfInBounds j true).getD k true = false := fun k hk => by
      have hne : j ≠ k := fun e => hjl (e ▸ hk)
      rw [getD_set_ne true hne]; exact hla k hk
    refine wpOp_mono (fun a' w' h3 => ?_) h2
    have hS' : S w' := h3.2.1 (by rw [getD_set_ne true htj, getD_set_ne true hti]; exact hla t ht)
    refine ⟨fun _ => hS', ih _ a' w' hla' (fun k ok hk hki hun hn => hfree k ok hk hki ?_ hn) (ready_mono hr (Ne.symm hji)) h3.1 hS' ?_⟩
    · by_cases hjk : j = k
      · subst hjk; exact hju
      · rw [getD_set_ne true hjk] at hun; exact hun
    · rw [Array.setIfInBounds_comm _ _ hji]
      exact h3.2.2
/-- A load (or what else yields its value in each world that meets S) is taken first. -/
theorem till_take {P : Program} {ops : Array Oper} {Q : Exit → Act → World → Prop} {S : World → Prop} {t i : Nat} {oi : Oper} {v : Value} {n : Nat} {l : Array Bool} {a : Act} {w : World} (late : List Nat) (hi : ops[i]? = some oi)
    (hs : Region.noSelect ops = true) (hl : lateB ops l i t late = true) (hf : Region.free .any ops l i = true) (hr : (Region.ready .any ops l).contains i = true)
    (hQ : ∀ c a w, Q (.panic c) (a.put oi.dst v) w → Q (.panic c) a w) (hy : YieldsIf P ops S oi v a) (hS : S w)
    (h : Till P ops Q S t n (l.setIfInBounds i true) (a.put oi.dst v) w) : Till P ops Q S t (n + 1) l a w := by
  unfold lateB at hl
  rw [Bool.and_eq_true, Bool.and_eq_true, List.all_eq_true] at hl
  obtain ⟨⟨h1, h2⟩, h3⟩ := hl
  refine Till.first late (by simpa using h1) (by simpa using h2) (fun j hj => ?_) hi (Region.noSelect_spec hs) hQ n l a w (fun j hj => ?_) (Region.free_spec hi hf) (by simpa using hr) hy hS h
  · exact (Bool.and_eq_true _ _ ▸ h3 j hj).2
  · have := (Bool.and_eq_true _ _ ▸ h3 j hj).1
    simpa using this
/-- One that comes up alone. -/
theorem till_one {P : Program} {ops : Array Oper} {Q : Exit → Act → World → Prop} {S : World → Prop} {t i : Nat} {o : Oper} {n : Nat} {l : Array Bool} {a : Act} {w : World} (hr : Region.ready .any ops l = [i]) (ho : ops[i]? = some o)
    (h : ∀ K' : Act → World → Prop, Shut (∀ a w, ((l.setIfInBounds i true).getD t true = false → S w) → (((l.setIfInBounds i true).getD t true = false → S w) → Till P ops Q S t n (l.setIfInBounds i true) a w) → K' a w) → if Region.wanted o (yielded ops a.tmps) = true then Oper.wp P o a w K' Q else K' (a.put o.dst undef) w) : Till P ops Q S t (n + 1) l a w := by
  refine ⟨fun h0 => (by rw [hr] at h0; cases h0), fun j hj => ?_⟩
  rw [hr, List.mem_singleton] at hj
  subst hj
  exact wpOp_step ho (fun K' hK => h K' (fun a w hS hT => hK a w ⟨hS, hT hS⟩))
/-- .. ahead of t: S is shown behind it. -/
theorem till_in {P : Program} {ops : Array Oper} {Q : Exit → Act → World → Prop} {S : World → Prop} {t i : Nat} {o : Oper} {n : Nat} {l : Array Bool} {a : Act} {w : World} (hr : Region.ready .any ops l = [i]) (ho : ops[i]? = some o)
    (h : ∀ K' : Act → World → Prop, Shut (∀ a w, S w → (S w → Till P ops Q S t n (l.setIfInBounds i true) a w) → K' a w) → if Region.wanted o (yielded ops a.tmps) = true then Oper.wp P o a w K' Q else K' (a.put o.dst undef) w) : Till P ops Q S t (n + 1) l a w :=
  till_one hr ho fun K' hK => h K' fun a w hS hT => hK a w (fun _ => hS) (fun _ => hT hS)
/-- .. t itself, and what comes behind it. -/
theorem till_out {P : Program} {ops : Array Oper} {Q : Exit → Act → World → Prop} {S : World → Prop} {t i : Nat} {o : Oper} {n : Nat} {l : Array Bool} {a : Act} {w : World} (hr : Region.ready .any ops l = [i]) (ho : ops[i]? = some o) (hout : (l.setIfInBounds i true).getD t true = true)
    (h : ∀ K' : Act → World → Prop, Shut (∀ a w, Till P ops Q S t n (l.setIfInBounds i true) a w → K' a w) → if Region.wanted o (yielded ops a.tmps) = true then Oper.wp P o a w K' Q else K' (a.put o.dst undef) w) : Till P ops Q S t (n + 1) l a w :=
  till_one hr ho fun K' hK => h K' fun a w hT => hK a w (fun e => by rw [hout] at e; cases e) (fun _ => hT)
theorem till_done {P : Program} {ops : Array Oper} {Q : Exit → Act → World → Prop} {S : World → Prop} {t : Nat} {l : Array Bool} {a : Act} {w : World} (hr : Region.ready .any ops l = []) (h : Q .normal a w) : ∀ n, Till P ops Q S t n l a w
  | 0 => ⟨hr, h⟩
  | _ + 1 => ⟨fun _ => h, by rw [hr]; simp⟩
/-- The beginning. -/
theorem till_start {P : Program} {ops : Array Oper} {Q : Exit → Act → World → Prop} (S : World → Prop) (t : Nat) {id : Nat} {a : Act} {w : World} (hm : P.follows .mixedOrders = true) (hS : S w.drew)
    (h : S w.drew → Till P ops Q S t ops.size (Array.replicate ops.size false) a w.drew) : (Code.region id ops true).wp P Q a w :=
  wp_region_any hm (Till.any _ _ _ _ (h hS))

#print axioms till_take
#print axioms till_in
#print axioms till_out
#print axioms till_start
end Go.Proofs.Ytdbimajopclndaa
