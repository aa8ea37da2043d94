/-
  More moves for Till: what yields in whatever world, two or three that may come up, a state met by several roads.
-/
import Derived.Test.YtdbimajopclndaaTill
namespace Go.Proofs.Ytdbimajopclndaa

theorem Till.free {P : Program} {ops : Array Oper} {Q : Exit → Act → World → Prop} {S : World → Prop} {t i : Nat} {oi : Oper} {v : Value} (hit : i ≠ t) (hi : ops[i]? = some oi)
    (hsel : ∀ (j : Nat) (o : Oper) cs b, ops[j]? = some o → o.op ≠ .select cs b) (hQ : ∀ c a w, Q (.panic c) (a.put oi.dst v) w → Q (.panic c) a w) :
    ∀ (n : Nat) (l : Array Bool) (a : Act) (w : World),
      (∀ j oj, ops[j]? = some oj → j ≠ i → l.getD j true = false → (∀ e ∈ oj.after, Region.binds .any e = true → e.on ≠ i) → oi.apart ops oj = true) →
      i ∈ Region.ready .any ops l → YieldsIf P ops (fun _ => True) oi v a → (l.getD t true = false → S w) → Till P ops Q S t n (l.setIfInBounds i true) (a.put oi.dst v) w → Till P ops Q S t (n + 1) l a w := by
  intro n
  induction n with
  | zero =>
    intro l a w _ hr hy hS H
    refine ⟨fun h => (by rw [h] at hr; cases hr), fun j hj => ?_⟩
    by_cases hji : j = i
    · subst hji; exact hy.wpOp hi trivial ⟨fun e => hS (by rwa [getD_set_ne true hit] at e), H⟩
    · have h1 := ready_mono hj hji
      rw [H.1] at h1
      cases h1
  | succ n ih =>
    intro l a w hfree hr hy hS H
    have hiu := (mem_ready.1 hr).1
    refine ⟨fun h => (by rw [h] at hr; cases hr), fun j hj => ?_⟩
    by_cases hji : j = i
    · subst hji; exact hy.wpOp hi trivial ⟨fun e => hS (by rwa [getD_set_ne true hit] at e), H⟩
    obtain ⟨hju, oj, hoj, hall⟩ := mem_ready.1 hj
    have hno : ∀ e ∈ oj.after, Region.binds .any e = true → e.on ≠ i := fun e he hb hei => by
      have h1 := hall e he hb
      rw [hei] at h1
      rcases Nat.lt_or_ge i l.size with hlt | hge
      · simp [Array.getD, hlt] at h1 hiu
        rw [h1] at hiu
        exact Bool.noConfusion hiu
      · simp [Array.getD, Nat.not_lt.2 hge] at h1
    have h2 := wpOp_putIf hoj (hfree j oj hoj hji hju hno) (fun cs b => hsel i oi cs b hi) (fun cs b => hsel j oj cs b hoj) hQ hy (H.2 j (ready_mono hj hji))
    refine wpOp_mono (fun a' w' h3 => ?_) h2
    have hS' : (l.setIfInBounds j true).getD t true = false → S w' := fun e => h3.2.1 (by
      rw [Array.setIfInBounds_comm _ _ (Ne.symm hji), getD_set_ne true hit]; exact e)
    refine ⟨hS', ih _ a' w' (fun k ok hk hki hun hn => hfree k ok hk hki ?_ hn) (ready_mono hr (Ne.symm hji)) h3.1 hS' ?_⟩
    · by_cases hjk : j = k
      · subst hjk; exact hju
      · rw [getD_set_ne true hjk] at hun; exact hun
    · rw [Array.setIfInBounds_comm _ _ hji]
      exact h3.2.2
/-- What yields its value in whatever world is taken first. -/
theorem till_free {P : Program} {ops : Array Oper} {Q : Exit → Act → World → Prop} {S : World → Prop} {t i : Nat} {oi : Oper} {v : Value} {n : Nat} {l : Array Bool} {a : Act} {w : World} (hi : ops[i]? = some oi)
    (hs : Region.noSelect ops = true) (hit : (i == t) = false) (hf : Region.free .any ops l i = true) (hr : (Region.ready .any ops l).contains i = true)
    (hQ : ∀ c a w, Q (.panic c) (a.put oi.dst v) w → Q (.panic c) a w) (hy : YieldsIf P ops (fun _ => True) oi v a) (hS : S w)
    (h : Till P ops Q S t n (l.setIfInBounds i true) (a.put oi.dst v) w) : Till P ops Q S t (n + 1) l a w :=
  Till.free (by simpa using hit) hi (Region.noSelect_spec hs) hQ n l a w (Region.free_spec hi hf) (by simpa using hr) hy (fun _ => hS) h
theorem till_freeOut {P : Program} {ops : Array Oper} {Q : Exit → Act → World → Prop} {S : World → Prop} {t i : Nat} {oi : Oper} {v : Value} {n : Nat} {l : Array Bool} {a : Act} {w : World} (hi : ops[i]? = some oi)
    (hs : Region.noSelect ops = true) (hit : (i == t) = false) (hf : Region.free .any ops l i = true) (hr : (Region.ready .any ops l).contains i = true)
    (hQ : ∀ c a w, Q (.panic c) (a.put oi.dst v) w → Q (.panic c) a w) (hy : YieldsIf P ops (fun _ => True) oi v a) (hout : l.getD t true = true)
    (h : Till P ops Q S t n (l.setIfInBounds i true) (a.put oi.dst v) w) : Till P ops Q S t (n + 1) l a w :=
  Till.free (by simpa using hit) hi (Region.noSelect_spec hs) hQ n l a w (Region.free_spec hi hf) (by simpa using hr) hy (fun e => by rw [hout] at e; cases e) h
/-- Two, three may come up. -/
def OneIn (P : Program) (ops : Array Oper) (Q : Exit → Act → World → Prop) (S : World → Prop) (t n : Nat) (l : Array Bool) (a : Act) (w : World) (i : Nat) : Prop :=
  ∃ o, ops[i]? = some o ∧ ∀ K' : Act → World → Prop, Shut (∀ a w, S w → (S w → Till P ops Q S t n (l.setIfInBounds i true) a w) → K' a w) → if Region.wanted o (yielded ops a.tmps) = true then Oper.wp P o a w K' Q else K' (a.put o.dst undef) w
theorem till_all {P : Program} {ops : Array Oper} {Q : Exit → Act → World → Prop} {S : World → Prop} {t : Nat} {n : Nat} {l : Array Bool} {a : Act} {w : World} (rs : List Nat) (hr : Region.ready .any ops l = rs) (hne : rs ≠ [])
    (h : ∀ i ∈ rs, OneIn P ops Q S t n l a w i) : Till P ops Q S t (n + 1) l a w := by
  refine ⟨fun h0 => absurd (hr ▸ h0) hne, fun j hj => ?_⟩
  obtain ⟨o, ho, hh⟩ := h j (hr ▸ hj)
  exact wpOp_step ho (fun K' hK => hh K' (fun a w hS hT => hK a w ⟨fun _ => hS, hT hS⟩))
theorem till_two {P : Program} {ops : Array Oper} {Q : Exit → Act → World → Prop} {S : World → Prop} {t i j : Nat} {oi oj : Oper} {n : Nat} {l : Array Bool} {a : Act} {w : World} (hr : Region.ready .any ops l = [i, j]) (hi : ops[i]? = some oi) (hj : ops[j]? = some oj)
    (h1 : ∀ K' : Act → World → Prop, Shut (∀ a w, S w → (S w → Till P ops Q S t n (l.setIfInBounds i true) a w) → K' a w) → if Region.wanted oi (yielded ops a.tmps) = true then Oper.wp P oi a w K' Q else K' (a.put oi.dst undef) w)
    (h2 : ∀ K' : Act → World → Prop, Shut (∀ a w, S w → (S w → Till P ops Q S t n (l.setIfInBounds j true) a w) → K' a w) → if Region.wanted oj (yielded ops a.tmps) = true then Oper.wp P oj a w K' Q else K' (a.put oj.dst undef) w) : Till P ops Q S t (n + 1) l a w :=
  till_all [i, j] hr (by simp) (fun k hk => by
    rcases List.mem_cons.1 hk with rfl | hk
    · exact ⟨_, hi, h1⟩
    · rw [List.mem_singleton] at hk
      subst hk
      exact ⟨_, hj, h2⟩)
theorem till_three {P : Program} {ops : Array Oper} {Q : Exit → Act → World → Prop} {S : World → Prop} {t i j k : Nat} {oi oj ok : Oper} {n : Nat} {l : Array Bool} {a : Act} {w : World} (hr : Region.ready .any ops l = [i, j, k]) (hi : ops[i]? = some oi) (hj : ops[j]? = some oj) (hk : ops[k]? = some ok)
    (h1 : ∀ K' : Act → World → Prop, Shut (∀ a w, S w → (S w → Till P ops Q S t n (l.setIfInBounds i true) a w) → K' a w) → if Region.wanted oi (yielded ops a.tmps) = true then Oper.wp P oi a w K' Q else K' (a.put oi.dst undef) w)
    (h2 : ∀ K' : Act → World → Prop, Shut (∀ a w, S w → (S w → Till P ops Q S t n (l.setIfInBounds j true) a w) → K' a w) → if Region.wanted oj (yielded ops a.tmps) = true then Oper.wp P oj a w K' Q else K' (a.put oj.dst undef) w)
    (h3 : ∀ K' : Act → World → Prop, Shut (∀ a w, S w → (S w → Till P ops Q S t n (l.setIfInBounds k true) a w) → K' a w) → if Region.wanted ok (yielded ops a.tmps) = true then Oper.wp P ok a w K' Q else K' (a.put ok.dst undef) w) : Till P ops Q S t (n + 1) l a w :=
  till_all [i, j, k] hr (by simp) (fun m hm => by
    rcases List.mem_cons.1 hm with rfl | hm
    · exact ⟨_, hi, h1⟩
    rcases List.mem_cons.1 hm with rfl | hm
    · exact ⟨_, hj, h2⟩
    · rw [List.mem_singleton] at hm
      subst hm
      exact ⟨_, hk, h3⟩)
/-- A state that is met by several roads: its own proof stands once, for all that fits I. -/
theorem till_mid {P : Program} {ops : Array Oper} {Q : Exit → Act → World → Prop} {S : World → Prop} {t n : Nat} {l : Array Bool} {a : Act} {w : World} (n' : Nat) (l' : Array Bool) {ι : Type} (A : ι → Act) (I : ι → World → Prop)
    (h1 : ∀ x w, I x w → Till P ops Q S t n' l' (A x) w) (h2 : (∀ x w, I x w → Till P ops Q S t n' l' (A x) w) → Till P ops Q S t n l a w) : Till P ops Q S t n l a w := h2 h1
/-- .. and is come to. -/
theorem till_go {P : Program} {ops : Array Oper} {Q : Exit → Act → World → Prop} {S : World → Prop} {t n n' : Nat} {l l' : Array Bool} {a : Act} {w : World} {ι : Type} {A : ι → Act} {I : ι → World → Prop} (J : ∀ x w, I x w → Till P ops Q S t n' l' (A x) w) (x : ι) (hn : n = n') (hl : l = l') (ha : a = A x) (hI : I x w) : Till P ops Q S t n l a w := by
  subst hn hl ha
  exact J x w hI
/-- The temporaries as they stand get a name. -/
theorem till_name {P : Program} {ops : Array Oper} {Q : Exit → Act → World → Prop} {S : World → Prop} {t n : Nat} {l : Array Bool} {a : Act} {w : World} (h : ∀ a0, a0 = a → Till P ops Q S t n l a0 w) : Till P ops Q S t n l a w := h a rfl

#print axioms till_go
#print axioms till_free
#print axioms till_three
end Go.Proofs.Ytdbimajopclndaa
