/-
  What the reference's Add and Sub tell, and that they tell it in memory of their own.
-/
import Derived.Test.YtnpneloahajniaaGreatJF
import Derived.Test.YtnpneloahajniaaGreatJE
namespace Go.Proofs.YtnpneloahajniaaGreat
open Go.RowKit Lb
set_option maxRecDepth 20000

theorem ownV_block {w : World} {base : Nat} {ao : Option Addr} {n cap k : Nat} {zs : List Int} (h : OwnV w base ao n cap zs k) : ∀ g, (Value.slice ao n cap).ownBlock = some g → base ≤ g ∧ g < w.heap.size ∧ NoLimb w g := by
  intro g e
  obtain ⟨_, ⟨cs, hrow⟩, hn⟩ := h
  have h1 := hrow.lt g e
  refine ⟨h1.1, h1.2, ?_⟩
  rcases hrow.2 with ⟨h', _⟩ | ⟨g', cap', cur, hv, _⟩
  · rw [h'] at e; simp [Value.ownBlock] at e
  · simp only [Value.slice.injEq] at hv
    obtain ⟨rfl, _, _⟩ := hv
    simp [Value.ownBlock] at e
    subst e
    exact hn _ _ rfl
theorem own_fresh {w : World} {base : Nat} {ao : Option Addr} {n cap k : Nat} {zs : List Int} (h : OwnV w base ao n cap zs k) {g off : Nat} (e : ao = some ⟨g, off, none⟩) : base ≤ g := by
  subst e
  exact own_ge h g (by simp [Value.ownBlock])
set_option maxHeartbeats 1600000 in
theorem rvaddF (ao : Option Addr) (n cap : Nat) (zs : List Int) (k : Nat) (ap : Option Addr) (n' cp : Nat) (ys : List Int) (l : Nat) (w : World) (h : VK w ao n cap zs k) (h' : VK w ap n' cp ys l) (hk : k ≤ 900000) (hl : l ≤ 900000) (hn : n ≤ 1000000) (hn' : n' ≤ 1000000) :
    Calls Tryz.prog 66 #[.slice ao n cap, .slice ap n' cp] w fun e w' => ∃ a1 c1, e = .returned (.slice a1 (max n n') c1) ∧ VF w' a1 (max n n') c1 (vadd zs ys) (max k l + 1) ∧ (∀ g off, a1 = some ⟨g, off, none⟩ → w.heap.size ≤ g) ∧ Below w.heap.size w w' := by
  have hmax := max_len n n'
  have HL := hide h.len_eq
  have HL' := hide h'.len_eq
  obtain ⟨m, em⟩ : ∃ m, m = max n n' := ⟨_, rfl⟩
  rw [← em] at hmax ⊢
  have hm : m ≤ 1000000 := by omega
  have EM := hide em
  clear em
  obtain ⟨K, eK⟩ : ∃ K, K = max k l + 1 := ⟨_, rfl⟩
  rw [← eK]
  have EK := hide eK
  clear eK
  go_enter Tryz.func66, Tryz.ntmps66
  go_wp2_with fail
  go_loopw [5, 6] (fun u t wr => ∃ (i : Nat) (ao' : Option Addr) (cap' : Nat) (rs : List Int), i ≤ m ∧ t = .int .i64 (i : Int) ∧ u = .slice ao' i cap' ∧ OwnV wr w.heap.size ao' i cap' rs K ∧ (∀ j, j < i → rs.getD j 0 = zs.getD j 0 + ys.getD j 0) ∧ Below w.heap.size w wr) (fun _ t _ => m - (intOf t).toNat)
  case atStart => exact ⟨0, none, 0, [], Nat.zero_le _, rfl, rfl, ownV_nil _ _ _, fun j hj => absurd hj (by omega), Below.refl _ _⟩
  case round =>
    obtain ⟨i, ao', cap', rs, hi, rfl, rfl, hown, hall, hB⟩ := hrel
    have HA := hide hall
    clear hall
    have HB := hide hB
    clear hB
    by_cases hlt : i < m
    · have hi1 : (i : Int) < (m : Int) := by omega
      go_wp2_with fail
      refine (ratK _ _ _ zs k i _ (h.later (unhide HB)) (by omega)).mono ?_
      rintro e w3 ⟨b3, a3, l3, c3, rfl, h3, hb9⟩
      replace hown := hown.later hb9
      replace HB := hide (Below.step (unhide HB) hb9)
      clear hb9
      go_wp2_with fail
      refine (ratK _ _ _ ys l i _ (h'.later (unhide HB)) (by omega)).mono ?_
      rintro e w4 ⟨b4, a4, l4, c4, rfl, h4, hb9⟩
      replace hown := hown.later hb9
      replace h3 := h3.later hb9
      replace HB := hide (Below.step (unhide HB) hb9)
      clear hb9
      go_wp2_with fail
      refine (raddK _ _ _ _ (zs.getD i 0) k _ _ _ _ (ys.getD i 0) l _ (h3.ik (by omega)) (h4.ik (by omega))).mono ?_
      rintro e w5 ⟨b5, a5, l5, c5, rfl, h5, hb9⟩
      rw [← unhide EK] at h5
      replace hown := hown.later hb9
      replace HB := hide (Below.step (unhide HB) hb9)
      clear hb9
      clear h3 h4
      obtain ⟨W6, hW6⟩ : ∃ W6, W6 = w5.alloc (.cells #[.bool b5, .slice a5 l5 c5] 45) := ⟨_, rfl⟩
      obtain ⟨D5, hb9⟩ := boxes1 w5 b5 a5 l5 c5 hW6
      replace h5 := h5.later hb9
      replace hown := hown.later hb9
      replace HB := hide (Below.step (unhide HB) hb9)
      clear hb9
      have hE5 : EltAt W6 w5.heap.size 0 b5 a5 l5 c5 := ⟨D5.lt, D5.facts.1, D5.facts.2.1⟩
      have hsz := (unhide HB).size
      clear D5
      rw [hW6] at h5 hown hE5 hsz
      go_wp2_with (at_builtin; refine append_vec rfl (.tmp 16) (.tmp 24) 39 Tryz.underlying39 rfl w.heap.size ao' i cap' K rs rfl hown (by omega) hsz w5.heap.size 0 1 b5 a5 l5 c5 (zs.getD i 0 + ys.getD i 0) rfl hE5 h5 ?_)
      intro gn cn w7 hown2 hgr hat
      rw [← hW6] at hgr hown hsz
      clear hW6
      have HD := (unhide HB).grown hgr hsz (own_ge hown)
      clear hgr hat
      go_wp2
      go_roundw
      case rel => exact ⟨i + 1, _, _, _, by omega, by go_num, rfl, hown2, snoc_each (f := fun j => zs.getD j 0 + ys.getD j 0) hown.len (unhide HA), HD⟩
      case measure => simp [intOf]; omega
    · have hi1 : ¬ (i : Int) < (m : Int) := by omega
      have hin : i = m := by omega
      subst hin
      have hps : rs = vadd zs ys := vec_ext (by rw [hown.len, vadd_len, unhide HL, unhide HL', unhide EM]) fun j hj => by rw [vadd_at]; exact unhide HA j (by rw [hown.len] at hj; exact hj)
      subst hps
      go_wp2
      go_ret
      exact ⟨_, _, rfl, hown.vf, fun g off e => own_fresh hown e, unhide HB⟩

set_option maxHeartbeats 800000 in
theorem rvsubF (ao : Option Addr) (n cap : Nat) (zs : List Int) (k : Nat) (ap : Option Addr) (n' cp : Nat) (ys : List Int) (l : Nat) (w : World) (h : VK w ao n cap zs k) (h' : VS w ap n' cp ys l) (hk : k ≤ 900000) (hl : l ≤ 500000) (hn : n ≤ 1000000) (hn' : n' ≤ 1000000) :
    Calls Tryz.prog 35 #[.slice ao n cap, .slice ap n' cp] w fun e w' => ∃ a1 c1, e = .returned (.slice a1 (max n n') c1) ∧ VF w' a1 (max n n') c1 (vsub zs ys) (max k (l + 2) + 1) ∧ (∀ g off, a1 = some ⟨g, off, none⟩ → w.heap.size ≤ g) ∧ Below w.heap.size w w' := by
  go_enter Tryz.func35, Tryz.ntmps35
  go_wp2_with fail
  refine (rvnegK _ _ _ ys l _ h' hl hn').mono ?_
  rintro e w1 ⟨a1, c1, rfl, h1, hb1⟩
  go_wp2_with fail
  refine (rvaddF _ _ _ zs k _ _ _ (vneg ys) (l + 2) _ (h.later hb1) (h1.vk (by omega)) (by omega) (by omega) hn hn').mono ?_
  rintro e w2 ⟨a2, c2, rfl, h2, hfr, hb2⟩
  have hs1 := hb1.size
  rw [← vsub_neg] at h2
  go_wp2
  go_ret
  exact ⟨_, _, rfl, h2, fun g off e => Nat.le_trans hs1 (hfr g off e), Below.step hb1 hb2⟩

#print axioms rvaddF
#print axioms rvsubF
end Go.Proofs.YtnpneloahajniaaGreat
