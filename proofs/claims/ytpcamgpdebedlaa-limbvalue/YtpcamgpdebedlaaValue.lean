/-
  The walk of LimbValue: noughts behind a row make no difference: it tells true.
-/
import Derived.Test.YtpcamgpdebedlaaBack
import Derived.Test.YtpcamgpdebedlaaRowZeros
namespace Go.Proofs.Ytpcamgpdebedlaa
open Go.RowKit Lb

theorem val_zeros (xs : List Nat) (k : Nat) : val (xs ++ List.replicate k 0) = val xs := by
  induction k with
  | zero => simp
  | succ k ih => rw [List.replicate_succ', ← List.append_assoc, val_snoc, ih, Nat.zero_mul, Nat.add_zero]
theorem small_append {xs ys : List Nat} (h : Small xs) (g : Small ys) : Small (xs ++ ys) := fun i => by
  rw [lim_append]; split
  · exact h i
  · exact g _

/-- Both ways of Sub in one. -/
theorem sub_all (aa : Option Addr) (la ca : Nat) (xs : List Nat) (ab : Option Addr) (lb cb : Nat) (ys : List Nat) (A B : Nat) (b : Bool) (w : World) (ha : RowAt w aa la ca xs) (hb : RowAt w ab lb cb ys) (hla : la ≤ 10000000) (hA : val xs = A) (hB : val ys = B) (hbb : b = decide (B ≤ A)) :
    Calls Try.prog 9 #[.slice aa la ca, .slice ab lb cb] w fun e w' => ∃ ao' len' cap', e = .returned (.tuple #[.slice ao' len' cap', .bool b]) ∧ NumAt w' ao' len' cap' (A - B) ∧ Below w.heap.size w w' := by
  subst hA hB hbb
  by_cases h : val ys ≤ val xs
  · rw [decide_eq_true h]
    exact sub_yes aa la ca xs ab lb cb ys w ha hb hla h
  · rw [decide_eq_false h]
    refine (sub_no aa la ca xs ab lb cb ys w ha hb (by omega)).mono ?_
    rintro e w' ⟨rfl, hbel⟩
    refine ⟨_, _, _, rfl, ?_, hbel⟩
    rw [Nat.sub_eq_zero_of_le (by omega)]
    exact numAt_nil _
/-- Both ways of Over in one. -/
theorem over_all (ao : Option Addr) (len cap : Nat) (xs : List Nat) (x A : Nat) (b : Bool) (y : Nat) (w : World) (h : RowAt w ao len cap xs) (hlen : len ≤ 10000000) (hx : x < 4294967296) (hA : val xs = A) (hb : b = decide (x ≠ 0)) (hy : y = if x = 0 then 0 else A % x) :
    Calls Try.prog 20 #[.slice ao len cap, .int .u32 (x : Int)] w fun e w' => ∃ ao' len' cap', e = .returned (.tuple #[.slice ao' len' cap', .int .u32 (y : Int), .bool b]) ∧ NumAt w' ao' len' cap' (A / x) ∧ Below w.heap.size w w' := by
  subst hA hb hy
  by_cases h0 : x = 0
  · subst h0
    refine (over_none ao len cap _ w rfl).mono ?_
    rintro e w' ⟨rfl, rfl⟩
    refine ⟨none, 0, 0, by simp, ?_, Below.refl _ _⟩
    rw [Nat.div_zero]
    exact numAt_nil _
  · rw [if_neg h0, decide_eq_true h0]
    exact over_yes ao len cap xs x w h hlen (by omega) hx

set_option maxRecDepth 20000 in
set_option maxHeartbeats 2000000 in
theorem limbValue_walk (aa : Option Addr) (la ca : Nat) (xs : List Nat) (ab : Option Addr) (lb cb : Nat) (ys : List Nat) (n x : Int) (w : World) (ha : RowAt w aa la ca xs) (hb : RowAt w ab lb cb ys) (hn : (Lit.int .u8 n).wf = true) (hx : (Lit.int .u32 x).wf = true) :
    Calls Try.prog 6 #[.slice aa la ca, .slice ab lb cb, .int .u8 n, .int .u32 x] w fun e w' => e = .returned (.bool true) ∧ Below w.heap.size w w' := by
  obtain ⟨hx0, hx1⟩ := bounds_u32 hx
  obtain ⟨x, rfl⟩ := Int.eq_ofNat_of_zero_le hx0
  have hxn : x < 4294967296 := by omega
  clear hx hx0 hx1
  obtain ⟨hn0, hn1⟩ := bounds_u8 hn
  obtain ⟨n, rfl⟩ := Int.eq_ofNat_of_zero_le hn0
  have hnn : n < 256 := by omega
  clear hn hn0 hn1
  by_cases h1 : 60 < la
  · go_enter Try.func6, Try.ntmps6
    go_wp2_with (go_at_call 8; refine (awake_any _).mono ?_; rintro e w' ⟨rfl, hbel⟩)
    go_ret
    exact ⟨rfl, hbel⟩
  by_cases h2 : 60 < lb
  · go_enter Try.func6, Try.ntmps6
    go_wp2_with (go_at_call 8; refine (awake_any _).mono ?_; rintro e w' ⟨rfl, hbel⟩)
    go_ret
    exact ⟨rfl, hbel⟩
  go_enter Try.func6, Try.ntmps6
  go_wp2_with (at_builtin; refine append_row rfl (.tmp 29) (.tmp 30) rfl w.heap.size _ 0 [] rfl ?_ _ la ca xs rfl ?_ (by omega) ?_ ?_)
  · exact own_empty (Nat.le_refl _)
  · exact ha.later ((Below.refl _ _).alloc (Nat.le_refl _) _)
  · simp
  intro v1 w1 hown1 hgrow1
  have hbel1 : Below w.heap.size w w1 := ((Below.refl _ _).alloc (Nat.le_refl _) _).grown hgrow1 (by simp) (fun k hk => by simp [Value.ownBlock] at hk; omega)
  clear hgrow1
  go_wp2_with (at_builtin; refine zeros_row rfl (.tmp 31) (.tmp 33) _ rfl .u8 .u8 Try.underlying5 w.heap.size _ la xs rfl hown1 _ (n % 9) rfl (by omega) (by omega) (by omega) hbel1.size ?_)
  intro v2 w2 hown2 hgrow2
  have hbel2 : Below w.heap.size w w2 := hbel1.grown hgrow2 hbel1.size (fun j hj => hown1.block_ge j hj)
  clear hgrow2 hown1 hbel1
  obtain ⟨a2, c2, rfl, hr2⟩ := rowAt_owned hown2 (small_append ha.small (small_replicate _))
  have hv2 := val_zeros xs (n % 9)
  obtain ⟨ws, hws⟩ : ∃ ws, ws = xs ++ List.replicate (n % 9) 0 := ⟨_, rfl⟩
  rw [← hws] at hr2 hv2
  have l2 : la + n % 9 ≤ 70 := by omega
  obtain ⟨lw, hlw⟩ : ∃ lw, lw = la + n % 9 := ⟨_, rfl⟩
  rw [← hlw] at hr2 l2 ⊢
  have VW := hide hv2
  clear hown2 hv2 hws hlw
  obtain ⟨bo, hbo⟩ : ∃ bo, bo = decide (val ys ≤ val xs) := ⟨_, rfl⟩
  obtain ⟨bx, hbx⟩ : ∃ bx, bx = decide (x ≠ 0) := ⟨_, rfl⟩
  obtain ⟨yy, hyy⟩ : ∃ yy, yy = if x = 0 then 0 else val xs % x := ⟨_, rfl⟩
  have HBO := hide hbo
  have HBX := hide hbx
  have HYY := hide hyy
  clear hbo hbx hyy
  go_wp2_with fail
  refine (sub_all _ _ _ ws _ _ _ ys _ _ bo _ hr2 (hb.later hbel2) (by omega) (unhide VW) rfl (unhide HBO)).mono ?_
  rintro e w3 ⟨a3, l3, c3, rfl, hn3, hw3⟩
  have hW3 := Below.step hbel2 hw3
  have hr3 := hr2.later hw3
  clear hw3 hbel2 hr2
  go_wp2_with fail
  refine (sub_all _ _ _ xs _ _ _ ys _ _ bo _ (ha.later hW3) (hb.later hW3) (by omega) rfl rfl (unhide HBO)).mono ?_
  rintro e w4 ⟨a4, l4, c4, rfl, hn4, hw4⟩
  have hW4 := Below.step hW3 hw4
  have hr4 := hr3.later hw4
  have hp4 := hn3.later hw4
  clear hw4 hW3 hr3 hn3
  go_wp2_with fail
  refine (over_all _ _ _ ws x _ bx yy _ hr4 (by omega) hxn (unhide VW) (unhide HBX) (unhide HYY)).mono ?_
  rintro e w5 ⟨a5, l5, c5, rfl, hn5, hw5⟩
  have hW5 := Below.step hW4 hw5
  have hr5 := hr4.later hw5
  have hp5 := hp4.later hw5
  have hq5 := hn4.later hw5
  clear hw5 hW4 hr4 hp4 hn4
  go_wp2_with fail
  refine (over_all _ _ _ xs x _ bx yy _ (ha.later hW5) (by omega) hxn rfl (unhide HBX) (unhide HYY)).mono ?_
  rintro e w6 ⟨a6, l6, c6, rfl, hn6, hw6⟩
  have hW6 := Below.step hW5 hw6
  have hr6 := hr5.later hw6
  have hp6 := hp5.later hw6
  have hq6 := hq5.later hw6
  have hu6 := hn5.later hw6
  clear hw6 hW5 hr5 hp5 hq5 hn5
  go_wp2_with fail
  have kc := cmp_any _ _ _ ws _ _ _ xs _ hr6 (ha.later hW6)
  rw [cmpI_eq (unhide VW)] at kc
  refine kc.mono ?_
  rintro e w7 ⟨rfl, hw7⟩
  have hW7 := Below.step hW6 hw7
  have hr7 := hr6.later hw7
  have hp7 := hp6.later hw7
  have hq7 := hq6.later hw7
  have hu7 := hu6.later hw7
  have hv7 := hn6.later hw7
  clear kc hw7 hW6 hr6 hp6 hq6 hu6 hn6
  go_wp2_with fail
  refine (bits_any _ _ _ ws _ hr7 (by omega)).mono ?_
  rintro e w' ⟨n1, rfl, hn1, rfl⟩
  rw [unhide VW] at hn1
  go_wp2_with fail
  refine (bits_any _ _ _ xs _ (ha.later hW7) (by omega)).mono ?_
  rintro e w' ⟨n2, rfl, hn2, rfl⟩
  obtain rfl := isBits_inj hn1 hn2
  clear hn1 hn2
  go_wp2_with fail
  have k8 := add_any _ _ _ ws _ _ _ ys _ hr7 (hb.later hW7) (by omega) (by omega)
  rw [unhide VW] at k8
  refine k8.mono ?_
  rintro e w8 ⟨a8, l8, c8, rfl, hn8, hw8⟩
  have hW8 := Below.step hW7 hw8
  have hr8 := hr7.later hw8
  have hp8 := hp7.later hw8
  have hq8 := hq7.later hw8
  have hu8 := hu7.later hw8
  have hv8 := hv7.later hw8
  clear k8 hw8 hW7 hr7 hp7 hq7 hu7 hv7
  go_wp2_with fail
  have k9 := add_any _ _ _ ys _ _ _ xs _ (hb.later hW8) (ha.later hW8) (by omega) (by omega)
  rw [Nat.add_comm (val ys)] at k9
  refine k9.mono ?_
  rintro e w9 ⟨a9, l9, c9, rfl, hn9, hw9⟩
  have hW9 := Below.step hW8 hw9
  have hr9 := hr8.later hw9
  have hp9 := hp8.later hw9
  have hq9 := hq8.later hw9
  have hu9 := hu8.later hw9
  have hv9 := hv8.later hw9
  have hs9 := hn8.later hw9
  clear k9 hw9 hW8 hr8 hp8 hq8 hu8 hv8 hn8
  go_wp2_with fail
  refine (same_true _ _ _ _ _ _ _ _ hs9 hn9).mono ?_
  rintro e w10 ⟨rfl, hw10⟩
  have hW10 := Below.step hW9 hw10
  have hr10 := hr9.later hw10
  have hp10 := hp9.later hw10
  have hq10 := hq9.later hw10
  have hu10 := hu9.later hw10
  have hv10 := hv9.later hw10
  clear hw10 hW9 hr9 hp9 hq9 hu9 hv9 hs9 hn9
  go_wp2_with fail
  refine (same_true _ _ _ _ _ _ _ _ hp10 hq10).mono ?_
  rintro e w11 ⟨rfl, hw11⟩
  have hW11 := Below.step hW10 hw11
  have hr11 := hr10.later hw11
  have hu11 := hu10.later hw11
  have hv11 := hv10.later hw11
  clear hw11 hW10 hr10 hp10 hq10 hu10 hv10
  go_wp2_with fail
  have k12 := times_any _ _ _ ws x _ hr11 (by omega) hxn
  rw [unhide VW] at k12
  refine k12.mono ?_
  rintro e w12 ⟨a12, l12, c12, rfl, hn12, hw12⟩
  have hW12 := Below.step hW11 hw12
  have hu12 := hu11.later hw12
  have hv12 := hv11.later hw12
  clear k12 hw12 hW11 hr11 hu11 hv11
  go_wp2_with fail
  refine (times_any _ _ _ xs x _ (ha.later hW12) (by omega) hxn).mono ?_
  rintro e w13 ⟨a13, l13, c13, rfl, hn13, hw13⟩
  have hW13 := Below.step hW12 hw13
  have hu13 := hu12.later hw13
  have hv13 := hv12.later hw13
  have ht13 := hn12.later hw13
  clear hw13 hW12 hu12 hv12 hn12
  go_wp2_with fail
  refine (same_true _ _ _ _ _ _ _ _ ht13 hn13).mono ?_
  rintro e w14 ⟨rfl, hw14⟩
  have hW14 := Below.step hW13 hw14
  have hu14 := hu13.later hw14
  have hv14 := hv13.later hw14
  clear hw14 hW13 hu13 hv13 ht13 hn13
  go_wp2_with fail
  refine (same_true _ _ _ _ _ _ _ _ hu14 hv14).mono ?_
  rintro e w15 ⟨rfl, hw15⟩
  have hW15 := Below.step hW14 hw15
  clear hw15 hW14 hu14 hv14
  go_wp2_with fail
  refine (awake_any _).mono ?_
  rintro e w16 ⟨rfl, hw16⟩
  go_wp2_with fail
  go_ret
  exact ⟨rfl, Below.step hW15 hw16⟩

#print axioms limbValue_walk
end Go.Proofs.Ytpcamgpdebedlaa
