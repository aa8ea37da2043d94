/-
  The walk of LongRing: whatever the three rows and the count of noughts, it tells true.
-/
import Derived.Test.YtfmdlbhgohmgbaaAwake2
import Derived.Test.YtfmdlbhgohmgbaaRowZeros
namespace Go.Proofs.Ytfmdlbhgohmgbaa
open Go.RowKit Lb

set_option maxRecDepth 20000 in
set_option maxHeartbeats 2000000 in
theorem longRing_walk (aa : Option Addr) (la ca : Nat) (xs : List Nat) (ab : Option Addr) (lb cb : Nat) (ys : List Nat) (ac : Option Addr) (lc cc : Nat) (zs : List Nat) (n : Int) (w : World) (ha0 : RowAt w aa la ca xs) (hb0 : RowAt w ab lb cb ys) (hc0 : RowAt w ac lc cc zs) (hn : (Lit.int .u8 n).wf = true) :
    Calls Try.prog 6 #[.slice aa la ca, .slice ab lb cb, .slice ac lc cc, .int .u8 n] w fun e w' => e = .returned (.bool true) ∧ Below w.heap.size w w' := by
  obtain ⟨hn0, hn1⟩ := bounds_u8 hn
  obtain ⟨n, rfl⟩ := Int.eq_ofNat_of_zero_le hn0
  have hnn : n < 256 := by omega
  clear hn hn0 hn1
  by_cases h1 : 20 < la
  · go_enter Try.func6, Try.ntmps6
    go_wp2_with (go_at_call 8; refine (awake_any _).mono ?_; rintro e w' ⟨rfl, hbel⟩)
    go_ret
    exact ⟨rfl, hbel⟩
  by_cases h2 : 20 < lb
  · go_enter Try.func6, Try.ntmps6
    go_wp2_with (go_at_call 8; refine (awake_any _).mono ?_; rintro e w' ⟨rfl, hbel⟩)
    go_ret
    exact ⟨rfl, hbel⟩
  by_cases h3 : 20 < lc
  · go_enter Try.func6, Try.ntmps6
    go_wp2_with (go_at_call 8; refine (awake_any _).mono ?_; rintro e w' ⟨rfl, hbel⟩)
    go_ret
    exact ⟨rfl, hbel⟩
  go_enter Try.func6, Try.ntmps6
  go_wp2_with (at_builtin; refine append_row rfl (.tmp 25) (.tmp 26) rfl w.heap.size _ 0 [] rfl ?_ _ lb cb ys rfl ?_ (by omega) ?_ ?_)
  · exact own_empty (Nat.le_refl _)
  · exact hb0.later ((Below.refl _ _).alloc (Nat.le_refl _) _)
  · simp
  intro v1 w1 hown1 hgrow1
  have hbel1 : Below w.heap.size w w1 := ((Below.refl _ _).alloc (Nat.le_refl _) _).grown hgrow1 (by simp) (fun k hk => by simp [Value.ownBlock] at hk; omega)
  clear hgrow1
  go_wp2_with (at_builtin; refine zeros_row rfl (.tmp 27) (.tmp 29) _ rfl .u8 .u8 Try.underlying5 w.heap.size _ lb ys rfl hown1 _ (n % 5) rfl (by omega) (by omega) (by omega) hbel1.size ?_)
  intro v2 w2 hown2 hgrow2
  have hW2 : Below w.heap.size w w2 := hbel1.grown hgrow2 hbel1.size (fun j hj => hown1.block_ge j hj)
  clear hgrow2 hown1 hbel1
  obtain ⟨a2, c2, rfl, hr2⟩ := rowAt_owned hown2 (small_append hb0.small (small_replicate _))
  have hw0 := hr2.val
  rw [val_zeros] at hw0
  obtain ⟨lw, hlw⟩ : ∃ lw, lw = lb + n % 5 := ⟨_, rfl⟩
  have hlw2 : lw ≤ 24 := by omega
  rw [← hlw] at hw0 ⊢
  have ha := ha0.val.later hW2
  have hb := hb0.val.later hW2
  have hc := hc0.val.later hW2
  have hAl := hide (ha.lt (k := 24) (by omega))
  have hBl := hide (hb.lt (k := 24) (by omega))
  have hCl := hide (hc.lt (k := 24) (by omega))
  clear hown2 hr2 hlw ha0 hb0 hc0 hnn
  generalize val xs = A at *
  generalize val ys = B at *
  generalize val zs = C at *
  go_wp2_with fail
  refine (mul_num _ _ _ _ _ _ _ _ _ ha hw0 (by omega) (by omega)).mono ?_
  rintro e w3 ⟨a3, l3, c3, rfl, hn3, hw3⟩
  have ha := ha.later hw3
  have hb := hb.later hw3
  have hc := hc.later hw3
  have hW3 := Below.step hW2 hw3
  clear hW2 hw3 hw0
  go_wp2_with fail
  refine (mul_num _ _ _ _ _ _ _ _ _ hb ha (by omega) (by omega)).mono ?_
  rintro e w4 ⟨a4, l4, c4, rfl, hn4, hw4⟩
  rw [Nat.mul_comm] at hn4
  have ha := ha.later hw4
  have hb := hb.later hw4
  have hc := hc.later hw4
  have hn3 := hn3.later hw4
  have hW4 := Below.step hW3 hw4
  clear hW3 hw4
  go_wp2_with fail
  refine (same_true _ _ _ _ _ _ _ _ hn3 hn4).mono ?_
  rintro e w5 ⟨rfl, hw5⟩
  have ha := ha.later hw5
  have hb := hb.later hw5
  have hc := hc.later hw5
  have hW5 := Below.step hW4 hw5
  clear hW4 hw5 hn3 hn4
  go_wp2_with fail
  refine (mul_num _ _ _ _ _ _ _ _ _ ha hb (by omega) (by omega)).mono ?_
  rintro e w6 ⟨a6, l6, c6, rfl, hn6, hw6⟩
  have hl6 : l6 ≤ 48 := hn6.len_le (prod_lt (unhide hAl) (unhide hBl))
  have ha := ha.later hw6
  have hb := hb.later hw6
  have hc := hc.later hw6
  have hW6 := Below.step hW5 hw6
  clear hW5 hw6
  go_wp2_with fail
  refine (mul_num _ _ _ _ _ _ _ _ _ hn6.val hc (by omega) (by omega)).mono ?_
  rintro e w7 ⟨a7, l7, c7, rfl, hn7, hw7⟩
  have ha := ha.later hw7
  have hb := hb.later hw7
  have hc := hc.later hw7
  have hW7 := Below.step hW6 hw7
  clear hW6 hw7 hn6
  go_wp2_with fail
  refine (mul_num _ _ _ _ _ _ _ _ _ hb hc (by omega) (by omega)).mono ?_
  rintro e w8 ⟨a8, l8, c8, rfl, hn8, hw8⟩
  have hl8 : l8 ≤ 48 := hn8.len_le (prod_lt (unhide hBl) (unhide hCl))
  have ha := ha.later hw8
  have hb := hb.later hw8
  have hc := hc.later hw8
  have hn7 := hn7.later hw8
  have hW8 := Below.step hW7 hw8
  clear hW7 hw8
  go_wp2_with fail
  refine (mul_num _ _ _ _ _ _ _ _ _ ha hn8.val (by omega) (by omega)).mono ?_
  rintro e w9 ⟨a9, l9, c9, rfl, hn9, hw9⟩
  rw [← Nat.mul_assoc] at hn9
  have ha := ha.later hw9
  have hb := hb.later hw9
  have hc := hc.later hw9
  have hn7 := hn7.later hw9
  have hW9 := Below.step hW8 hw9
  clear hW8 hw9 hn8
  go_wp2_with fail
  refine (same_true _ _ _ _ _ _ _ _ hn7 hn9).mono ?_
  rintro e w10 ⟨rfl, hw10⟩
  have ha := ha.later hw10
  have hb := hb.later hw10
  have hc := hc.later hw10
  have hW10 := Below.step hW9 hw10
  clear hW9 hw10 hn7 hn9
  go_wp2_with fail
  refine (add_num _ _ _ _ _ _ _ _ _ hb hc (by omega) (by omega)).mono ?_
  rintro e w11 ⟨a11, l11, c11, rfl, hn11, hw11⟩
  have hl11 : l11 ≤ 25 := hn11.len_le (add_len (unhide hBl) (unhide hCl))
  have ha := ha.later hw11
  have hb := hb.later hw11
  have hc := hc.later hw11
  have hW11 := Below.step hW10 hw11
  clear hW10 hw11
  go_wp2_with fail
  refine (mul_num _ _ _ _ _ _ _ _ _ ha hn11.val (by omega) (by omega)).mono ?_
  rintro e w12 ⟨a12, l12, c12, rfl, hn12, hw12⟩
  rw [Nat.mul_add] at hn12
  have ha := ha.later hw12
  have hb := hb.later hw12
  have hc := hc.later hw12
  have hW12 := Below.step hW11 hw12
  clear hW11 hw12 hn11
  go_wp2_with fail
  refine (mul_num _ _ _ _ _ _ _ _ _ ha hb (by omega) (by omega)).mono ?_
  rintro e w13 ⟨a13, l13, c13, rfl, hn13, hw13⟩
  have hl13 : l13 ≤ 48 := hn13.len_le (prod_lt (unhide hAl) (unhide hBl))
  have ha := ha.later hw13
  have hc := hc.later hw13
  have hn12 := hn12.later hw13
  have hW13 := Below.step hW12 hw13
  clear hW12 hw13 hb
  go_wp2_with fail
  refine (mul_num _ _ _ _ _ _ _ _ _ ha hc (by omega) (by omega)).mono ?_
  rintro e w14 ⟨a14, l14, c14, rfl, hn14, hw14⟩
  have hl14 : l14 ≤ 48 := hn14.len_le (prod_lt (unhide hAl) (unhide hCl))
  have hn12 := hn12.later hw14
  have hn13 := hn13.later hw14
  have hW14 := Below.step hW13 hw14
  clear hW13 hw14 ha hc
  go_wp2_with fail
  refine (add_num _ _ _ _ _ _ _ _ _ hn13.val hn14.val (by omega) (by omega)).mono ?_
  rintro e w15 ⟨a15, l15, c15, rfl, hn15, hw15⟩
  have hn12 := hn12.later hw15
  have hW15 := Below.step hW14 hw15
  clear hW14 hw15 hn13 hn14
  go_wp2_with fail
  refine (same_true _ _ _ _ _ _ _ _ hn12 hn15).mono ?_
  rintro e w16 ⟨rfl, hw16⟩
  have hW16 := Below.step hW15 hw16
  clear hW15 hw16 hn12 hn15
  go_wp2_with fail
  refine (awake_any _).mono ?_
  rintro e w17 ⟨rfl, hw17⟩
  go_wp2_with fail
  go_ret
  exact ⟨rfl, Below.step hW16 hw17⟩

#print axioms longRing_walk
end Go.Proofs.Ytfmdlbhgohmgbaa
