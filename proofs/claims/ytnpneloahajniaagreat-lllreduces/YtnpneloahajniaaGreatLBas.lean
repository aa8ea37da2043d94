/-
 Rows that the call itself made, each in a block of its own ('GRows'); rows with their d and g ('BR'); a block that holds them ('BBox', 'BS').
-/
import Derived.Test.YtnpneloahajniaaGreatJI
import Derived.Test.YtnpneloahajniaaGreatJF
import Derived.Test.YtnpneloahajniaaGreatJL
namespace Go.Proofs.YtnpneloahajniaaGreat
open Go.RowKit Lb
set_option maxRecDepth 20000

theorem OwnV.kept {w w' : World} {row : Option Nat} {base g n cap k : Nat} {zs : List Int} (h : OwnV w base (some ⟨g, 0, none⟩) n cap zs k) (hg : w.grownBy w' row) (hn : ∀ x, row = some x → NoLimb w x) (hne : row ≠ some g) : OwnV w' base (some ⟨g, 0, none⟩) n cap zs k := by
 obtain ⟨h1, ⟨cs, h2⟩, h3⟩ := h;have hlt := (h2.lt g rfl).2;refine ⟨h1.grown hg hn (fun g' off e => by simp only [Option.some.injEq, Addr.mk.injEq] at e; obtain ⟨rfl, _⟩ := e; exact hne), ⟨cs, h2.kept hg (Or.inr (fun e => hne e.symm))⟩, fun g' off e => ?_⟩;simp only [Option.some.injEq, Addr.mk.injEq] at e;obtain ⟨rfl, _⟩ := e;intro j x e2;rw [World.cell?_of_block (a := ⟨g, j, none⟩) (hg.block g hlt (fun e => hne e.symm))] at e2;exact h3 g 0 rfl j x e2
theorem OwnV.from {w : World} {base b' : Nat} {ao : Option Addr} {n cap k : Nat} {zs : List Int} (h : OwnV w base ao n cap zs k) (hb : b' ≤ base) : OwnV w b' ao n cap zs k := by
 obtain ⟨h1, ⟨cs, h2⟩, h3⟩ := h;refine ⟨h1, ⟨cs, h2.1, ?_⟩, h3⟩;rcases h2.2 with e | ⟨g, c, cur, hv, hg, r⟩
 ·exact Or.inl e
 ·exact Or.inr ⟨g, c, cur, hv, Nat.le_trans hb hg, r⟩
theorem OwnV.tight {w : World} {base : Nat} {ao : Option Addr} {n cap K k : Nat} {zs : List Int} (h : OwnV w base ao n cap zs K) (hb : ∀ i, i < n → (zs.getD i 0).natAbs < Bp k) : OwnV w base ao n cap zs k := by
 obtain ⟨h1, h2, h3⟩ := h;exact ⟨VecOf.mono h1 (fun hi h => ⟨h.1, hb _ hi⟩), h2, h3⟩
theorem ownV_lit {w : World} {base : Nat} {b : Bool} {a : Option Addr} {l c k : Nat} {z : Int} (h : FK w b a l c z k) (hb : base ≤ w.heap.size) : OwnV (w.alloc (.cells #[.bool b, .slice a l c] 45)) base (some ⟨w.heap.size, 0, none⟩) 1 1 [z] k := by
 refine ownV_of (World.ownsRow_lit (size := 2) w #[.bool b, .slice a l c] 1 hb (by unfold maxLen; omega) rfl) rfl (fun j x e => ?_) fun i hi => ?_
 ·match j with
  | 0 => simp at e
  | 1 => simp at e
  | j + 2 => simp at e
 ·match i with
  | 0 => exact ⟨b, a, l, c, rfl, rfl, h.za (below_new w _)⟩
  | i + 1 => omega
theorem gset_self {gs : List (List Int)} {i : Nat} {q : List Int} (h : i < gs.length) : (gs.set i q).getD i [] = q := by simp [List.getD, h]
theorem gset_other {gs : List (List Int)} {i j : Nat} {q : List Int} (h : j ≠ i) : (gs.set i q).getD j [] = gs.getD j [] := by simp [List.getD, List.getElem?_set_ne (Ne.symm h)]

structure GRows (w : World) (base g n cap : Nat) (us : List (Option Addr × Nat × Nat)) (U : Nat → Nat) (gs : List (List Int)) (k m : Nat) : Prop where
 own : OwnP isSl w base 39 1 (.slice (some ⟨g, 0, none⟩) n cap) n (us.map sv)
 row : ∀ i, i < m → ∃ l c, us[i]? = some (some ⟨U i, 0, none⟩, l, c) ∧ OwnV w base (some ⟨U i, 0, none⟩) l c (gs.getD i []) k
 ne : ∀ i, i < m → U i ≠ g
 inj : ∀ i j, i < m → j < m → i ≠ j → U i ≠ U j
 len : gs.length = m
theorem GRows.ulen {w : World} {base g n cap k m : Nat} {us : List (Option Addr × Nat × Nat)} {U : Nat → Nat} {gs : List (List Int)} (h : GRows w base g n cap us U gs k m) : us.length = n := by
 have := h.own.len
 rwa [List.length_map, Nat.mul_one] at this
theorem GRows.za {w w' : World} {base g n cap k m : Nat} {us : List (Option Addr × Nat × Nat)} {U : Nat → Nat} {gs : List (List Int)} (h : GRows w base g n cap us U gs k m) (hb : Below w.heap.size w w') : GRows w' base g n cap us U gs k m :=
 ⟨h.own.za hb, fun i hi => by obtain ⟨l, c, e, ho⟩ := h.row i hi; exact ⟨l, c, e, ho.za hb⟩, h.ne, h.inj, h.len⟩
theorem GRows.noLimb {w : World} {base g n cap k m : Nat} {us : List (Option Addr × Nat × Nat)} {U : Nat → Nat} {gs : List (List Int)} (h : GRows w base g n cap us U gs k m) : NoLimb w g := fun j x e => by
 obtain ⟨v, hv⟩ := h.own.all g rfl j _ e;simp [sv] at hv
theorem GRows.lt {w : World} {base g n cap k m : Nat} {us : List (Option Addr × Nat × Nat)} {U : Nat → Nat} {gs : List (List Int)} (h : GRows w base g n cap us U gs k m) : base ≤ g ∧ g < w.heap.size := h.own.own.lt g rfl
theorem GRows.at {w : World} {base g n cap k m : Nat} {us : List (Option Addr × Nat × Nat)} {U : Nat → Nat} {gs : List (List Int)} (h : GRows w base g n cap us U gs k m) {i : Nat} (hi : i < m) : ∃ l c, l = (gs.getD i []).length ∧ us[i]? = some (some ⟨U i, 0, none⟩, l, c) ∧ w.cell? ⟨g, i, none⟩ = some (.slice (some ⟨U i, 0, none⟩) l c) ∧ OwnV w base (some ⟨U i, 0, none⟩) l c (gs.getD i []) k := by
 obtain ⟨l, c, e, ho⟩ := h.row i hi;have hn := h.ulen;have hin : i < n := by
  have := (List.getElem?_eq_some_iff.1 e).1;omega
 refine ⟨l, c, ho.vf.len_eq.symm, e, ?_, ho⟩;rw [h.own.cell (j := i) (by omega), List.getElem?_map, e]; rfl
theorem GRows.mf {w : World} {base g n cap k : Nat} {us : List (Option Addr × Nat × Nat)} {U : Nat → Nat} {gs : List (List Int)} (h : GRows w base g n cap us U gs k n) : MF w (some ⟨g, 0, none⟩) n cap gs k := by
 have hc : n ≤ cap ∧ cap ≤ maxLen := by
  rcases h.own.form with ⟨e, _⟩ | ⟨_, _, e, _, _, h3, h4⟩
  ·simp at e
  ·simp only [Value.slice.injEq, true_and] at e; omega
 refine ⟨h.len, hc.1, hc.2, fun e => by simp at e, fun _ => ⟨g, 0, rfl, h.lt.2, fun i hi => ?_⟩⟩;obtain ⟨l, c, _, _, hcell, ho⟩ := h.at hi;rw [Nat.zero_add];exact ⟨_, l, c, hcell, ho.vf⟩
theorem GRows.from {w : World} {base b' g n cap k m : Nat} {us : List (Option Addr × Nat × Nat)} {U : Nat → Nat} {gs : List (List Int)} (h : GRows w base g n cap us U gs k m) (hb : b' ≤ base) : GRows w b' g n cap us U gs k m := by
 refine ⟨⟨⟨h.own.own.1, ?_⟩, h.own.all⟩, fun i hi => by obtain ⟨l, c, e, ho⟩ := h.row i hi; exact ⟨l, c, e, ho.from hb⟩, h.ne, h.inj, h.len⟩;rcases h.own.own.2 with e | ⟨g, c, cur, hv, hg, r⟩
 ·exact Or.inl e
 ·exact Or.inr ⟨g, c, cur, hv, Nat.le_trans hb hg, r⟩
theorem GRows.kept {w w' : World} {base g n cap k m x : Nat} {us : List (Option Addr × Nat × Nat)} {U : Nat → Nat} {gs : List (List Int)} (h : GRows w base g n cap us U gs k m) (hg : w.grownBy w' (some x)) (hn : NoLimb w x) (h1 : g ≠ x) (h2 : ∀ i, i < m → U i ≠ x) : GRows w' base g n cap us U gs k m :=
 ⟨h.own.grown hg (Or.inr fun e => h1 (Option.some.inj e)), fun i hi => by obtain ⟨l, c, e, ho⟩ := h.row i hi; exact ⟨l, c, e, ho.kept hg (noLimb_some hn) (some_ne fun e => h2 i hi e.symm)⟩, h.ne, h.inj, h.len⟩
theorem GRows.put {w : World} {base g n cap k m : Nat} {us : List (Option Addr × Nat × Nat)} {U : Nat → Nat} {gs : List (List Int)} (h : GRows w base g n cap us U gs k m) {i u l c : Nat} {zs : List Int} (hi : i < m) (ho : OwnV w base (some ⟨u, 0, none⟩) l c zs k) (hu : u ≠ g) (hd : ∀ j, j < m → j ≠ i → U j ≠ u) :
  GRows (w.setCell ⟨g, i, none⟩ (.slice (some ⟨u, 0, none⟩) l c)) base g n cap (us.set i (some ⟨u, 0, none⟩, l, c)) (fun j => if j = i then u else U j) (gs.set i zs) k m := by
 have hgr := grown_set1 w g i (.slice (some ⟨u, 0, none⟩) l c);have hnl := h.noLimb;have hn := h.ulen;have hgl := h.len;have hin : i < n := by
  obtain ⟨_, _, e, _⟩ := h.row i hi;have := (List.getElem?_eq_some_iff.1 e).1;omega
 refine ⟨by rw [List.map_set]; exact h.own.set i ⟨(some ⟨u, 0, none⟩, l, c), rfl⟩, fun j hj => ?_, fun j hj => ?_, fun p q hp hq hpq => ?_, by rw [List.length_set]; exact hgl⟩
 ·try dsimp only
  by_cases e : j = i
  ·subst e;rw [if_pos rfl, gset_self (by omega)];exact ⟨l, c, List.getElem?_set_self (by omega), ho.kept hgr (noLimb_some hnl) (some_ne (Ne.symm hu))⟩
  ·obtain ⟨l', c', e1, ho'⟩ := h.row j hj;rw [if_neg e, gset_other e];exact ⟨l', c', by rw [List.getElem?_set_ne (Ne.symm e)]; exact e1, ho'.kept hgr (noLimb_some hnl) (some_ne fun e => h.ne j hj e.symm)⟩
 ·try dsimp only
  by_cases e : j = i
  ·rw [if_pos e]; exact hu
  ·rw [if_neg e]; exact h.ne j hj
 ·try dsimp only
  by_cases e : p = i
  ·rw [if_pos e, if_neg (by omega)];exact fun e2 => hd q hq (by omega) e2.symm
  ·rw [if_neg e];by_cases e2 : q = i
   ·rw [if_pos e2]; exact hd p hp e
   ·rw [if_neg e2]; exact h.inj p q hp hq hpq
theorem GRows.push {w : World} {base g n cap k m : Nat} {us : List (Option Addr × Nat × Nat)} {U : Nat → Nat} {gs : List (List Int)} (h : GRows w base g n cap us U gs k m) (hm : m < n) {u l c : Nat} {zs : List Int} (ho : OwnV w base (some ⟨u, 0, none⟩) l c zs k) (hu : u ≠ g) (hd : ∀ j, j < m → U j ≠ u) :
  GRows (w.setCell ⟨g, m, none⟩ (.slice (some ⟨u, 0, none⟩) l c)) base g n cap (us.set m (some ⟨u, 0, none⟩, l, c)) (fun j => if j = m then u else U j) (gs ++ [zs]) k (m + 1) := by
 have hgr := grown_set1 w g m (.slice (some ⟨u, 0, none⟩) l c);have hnl := h.noLimb;have hn := h.ulen;have hgl := h.len;refine ⟨by rw [List.map_set]; exact h.own.set m ⟨(some ⟨u, 0, none⟩, l, c), rfl⟩, fun j hj => ?_, fun j hj => ?_, fun p q hp hq hpq => ?_, by rw [List.length_append, hgl]; rfl⟩
 ·try dsimp only
  by_cases e : j = m
  ·subst e;rw [if_pos rfl, show (gs ++ [zs]).getD j [] = zs by rw [← hgl]; simp [List.getD]];exact ⟨l, c, List.getElem?_set_self (by omega), ho.kept hgr (noLimb_some hnl) (some_ne (Ne.symm hu))⟩
  ·obtain ⟨l', c', e1, ho'⟩ := h.row j (by omega);rw [if_neg e, show (gs ++ [zs]).getD j [] = gs.getD j [] by simp [List.getD, List.getElem?_append_left (show j < gs.length by omega)]];exact ⟨l', c', by rw [List.getElem?_set_ne (Ne.symm e)]; exact e1, ho'.kept hgr (noLimb_some hnl) (some_ne fun e => h.ne j (by omega) e.symm)⟩
 ·try dsimp only
  by_cases e : j = m
  ·rw [if_pos e]; exact hu
  ·rw [if_neg e]; exact h.ne j (by omega)
 ·try dsimp only
  by_cases e : p = m
  ·rw [if_pos e, if_neg (by omega)];exact fun e2 => hd q (by omega) e2.symm
  ·rw [if_neg e];by_cases e2 : q = m
   ·rw [if_pos e2]; exact hd p (by omega)
   ·rw [if_neg e2]; exact h.inj p q (by omega) (by omega) hpq
theorem GRows.set {w : World} {base g n cap k m : Nat} {us : List (Option Addr × Nat × Nat)} {U : Nat → Nat} {gs : List (List Int)} (h : GRows w base g n cap us U gs k m) {i j : Nat} (hi : i < m) (hj : j < (gs.getD i []).length) {b : Bool} {a : Option Addr} {l c : Nat} {z : Int} (hz : FK w b a l c z k) :
  GRows ((w.setCell ⟨U i, j * 2, none⟩ (.bool b)).setCell ⟨U i, j * 2 + 1, none⟩ (.slice a l c)) base g n cap us U (gs.set i ((gs.getD i []).set j z)) k m := by
 have hgr := grown_set2 w (U i) (j * 2) (j * 2 + 1) (.bool b) (.slice a l c);obtain ⟨l0, c0, hl0, e0, _, ho⟩ := h.at hi;have hnl := ho.noLimb;have hgl := h.len;refine ⟨h.own.grown hgr (Or.inr fun e => h.ne i hi (Option.some.inj e).symm), fun t ht => ?_, h.ne, h.inj, by rw [List.length_set]; exact hgl⟩;by_cases e : t = i
 ·subst e;rw [gset_self (by omega)];exact ⟨l0, c0, e0, ho.set (by omega) hz⟩
 ·obtain ⟨l', c', e1, ho'⟩ := h.row t ht;rw [gset_other e];exact ⟨l', c', e1, ho'.kept hgr (noLimb_some hnl) (some_ne (h.inj i t hi ht (Ne.symm e)))⟩
theorem GRows.swap {w : World} {base g n cap k m : Nat} {us : List (Option Addr × Nat × Nat)} {U : Nat → Nat} {gs : List (List Int)} (h : GRows w base g n cap us U gs k m) {p q l c l' c' : Nat} (hp : p < m) (hq : q < m) (hpq : p ≠ q) (ep : us[p]? = some (some ⟨U p, 0, none⟩, l, c)) (eq : us[q]? = some (some ⟨U q, 0, none⟩, l', c')) :
  GRows ((w.setCell ⟨g, p, none⟩ (.slice (some ⟨U q, 0, none⟩) l' c')).setCell ⟨g, q, none⟩ (.slice (some ⟨U p, 0, none⟩) l c)) base g n cap ((us.set p (some ⟨U q, 0, none⟩, l', c')).set q (some ⟨U p, 0, none⟩, l, c)) (fun j => if j = p then U q else if j = q then U p else U j) (swapL gs p q) k m := by
 have hgr := grown_set2 w g p q (.slice (some ⟨U q, 0, none⟩) l' c') (.slice (some ⟨U p, 0, none⟩) l c);have hnl := h.noLimb;have hn := h.ulen;have hgl := h.len;have hpn := (List.getElem?_eq_some_iff.1 ep).1;have hqn := (List.getElem?_eq_some_iff.1 eq).1;have hk : ∀ t, t < m → ∀ x y zs, OwnV w base (some ⟨U t, 0, none⟩) x y zs k → OwnV ((w.setCell ⟨g, p, none⟩ (.slice (some ⟨U q, 0, none⟩) l' c')).setCell ⟨g, q, none⟩ (.slice (some ⟨U p, 0, none⟩) l c)) base (some ⟨U t, 0, none⟩) x y zs k := fun t ht x y zs ho => ho.kept hgr (noLimb_some hnl) (some_ne fun e => h.ne t ht e.symm);refine ⟨?_, fun t ht => ?_, fun t ht => ?_, fun s t hs ht hst => ?_, by unfold swapL; rw [List.length_set, List.length_set]; exact hgl⟩
 ·rw [List.map_set, List.map_set];exact (h.own.set p ⟨(some ⟨U q, 0, none⟩, l', c'), rfl⟩).set q ⟨(some ⟨U p, 0, none⟩, l, c), rfl⟩
 ·try dsimp only
  unfold swapL;by_cases e : t = q
  ·subst e;rw [if_neg (Ne.symm hpq), if_pos rfl, gset_self (by rw [List.length_set]; omega)];obtain ⟨_, _, e2, ho⟩ := h.row p hp;rw [ep] at e2;simp only [Option.some.injEq, Prod.mk.injEq, true_and] at e2;obtain ⟨rfl, rfl⟩ := e2;exact ⟨_, _, List.getElem?_set_self (by rw [List.length_set]; omega), hk p hp _ _ _ ho⟩
  ·rw [gset_other e, List.getElem?_set_ne (Ne.symm e)];by_cases e1 : t = p
   ·subst e1;rw [if_pos rfl, gset_self (by omega)];obtain ⟨_, _, e2, ho⟩ := h.row q hq;rw [eq] at e2;simp only [Option.some.injEq, Prod.mk.injEq, true_and] at e2;obtain ⟨rfl, rfl⟩ := e2;exact ⟨_, _, List.getElem?_set_self (by omega), hk q hq _ _ _ ho⟩
   ·rw [if_neg e1, if_neg e, gset_other e1, List.getElem?_set_ne (Ne.symm e1)];obtain ⟨l2, c2, e2, ho⟩ := h.row t ht;exact ⟨l2, c2, e2, hk t ht _ _ _ ho⟩
 ·try dsimp only
  by_cases e1 : t = p
  ·rw [if_pos e1]; exact h.ne q hq
  ·rw [if_neg e1];by_cases e : t = q
   ·rw [if_pos e]; exact h.ne p hp
   ·rw [if_neg e]; exact h.ne t ht
 ·try dsimp only
  by_cases e1 : s = p
  ·rw [if_pos e1, if_neg (by omega)];by_cases e2 : t = q
   ·rw [if_pos e2]; exact h.inj q p hq hp (Ne.symm hpq)
   ·rw [if_neg e2]; exact h.inj q t hq ht (Ne.symm e2)
  ·rw [if_neg e1];by_cases e2 : s = q
   ·rw [if_pos e2];by_cases e3 : t = p
    ·rw [if_pos e3]; exact h.inj p q hp hq hpq
    ·rw [if_neg e3, if_neg (by omega)]; exact h.inj p t hp ht (Ne.symm e3)
   ·rw [if_neg e2];by_cases e3 : t = p
    ·rw [if_pos e3]; exact h.inj s q hs hq e2
    ·rw [if_neg e3];by_cases e4 : t = q
     ·rw [if_pos e4]; exact h.inj s p hs hp e1
     ·rw [if_neg e4]; exact h.inj s t hs ht hst
end Go.Proofs.YtnpneloahajniaaGreat
