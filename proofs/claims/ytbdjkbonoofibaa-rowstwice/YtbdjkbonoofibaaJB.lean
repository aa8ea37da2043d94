/-
  What long.cut does: it tells the row without the noughts at its end.
-/
import Derived.Test.YtbdjkbonoofibaaJA
import Derived.BigQuiet
import Derived.Deep.QuietTactic
import Derived.Maps.AppendAt
namespace Go.Proofs.Ytbdjkbonoofibaa
open Go.RowKit Lb

set_option maxHeartbeats 400000 in
theorem lcut_same (ao : Option Addr) (len cap : Nat) (xs : List Nat) (w : World) (h : RowAt w ao len cap xs) :
    Calls Try.prog 96 #[.slice ao len cap] w fun e w' => (∃ ao' len' cap', e = .returned (.slice ao' len' cap') ∧ NumAt w ao' len' cap' (val xs) ∧ len' ≤ len ∧ (0 < len' → ao' = ao)) ∧ w = w' := by
  have hcm := h.cap_max
  have hcl := h.cap_le
  have hl := h.len_eq
  unfold maxLen at hcm
  go_enter Try.func96, Try.ntmps96
  go_wp2
  go_loop [3] (fun i => ∃ k : Nat, k ≤ len ∧ i = .int .i64 k ∧ ∀ j, k ≤ j → j < len → lim xs j = 0) (fun i => (intOf i).toNat)
  case atStart => exact ⟨len, Nat.le_refl _, rfl, fun j h1 h2 => by omega⟩
  case round =>
    obtain ⟨k, hk, rfl, hz⟩ := hrel
    by_cases hp : 0 < k
    · obtain ⟨b, off, rfl, hb, hc⟩ := h.cells (by omega)
      have hck := hc (k - 1) (by omega)
      have e1 : off + ((k : Int) - 1).toNat = off + (k - 1) := by omega
      clear e1
      have hsm := h.small
      have T := fun n hn => h.take (n := n) hn
      have HT := hide T
      have HL := hide hl
      clear T hl
      go_wp2
      · have hne : (lim xs (k - 1) : Int) ≠ 0 := by simpa using ‹((lim xs (k - 1) : Int) != 0) = true›
        go_ret
        exact ⟨⟨_, _, _, rfl, ⟨xs.take k, by simpa using unhide HT k hk, norm_take (by rw [unhide HL]; exact hk) (fun _ => by omega), val_take (by rw [unhide HL]; exact hk) (fun i h1 h2 => hz i h1 (by rw [unhide HL] at h2; exact h2))⟩, by simpa using hk, fun _ => rfl⟩, rfl⟩
      · have heq : (lim xs (k - 1) : Int) = 0 := by simpa using ‹((lim xs (k - 1) : Int) != 0) = false›
        go_round
        case rel =>
          refine ⟨k - 1, by omega, by go_num, fun j h1 h2 => ?_⟩
          by_cases c : j = k - 1
          · subst c; omega
          · exact hz j (by omega) h2
        case measure => simp [intOf]; omega
    · have hk0 : k = 0 := by omega
      have HL := hide hl
      clear hl
      go_wp2
      go_ret
      refine ⟨⟨_, _, _, rfl, ⟨[], rowAt_nil w, fun h => absurd h (by simp), ?_⟩, by omega, fun h => absurd h (by omega)⟩, rfl⟩
      rw [← val_take (xs := xs) (n := 0) (Nat.zero_le _) (fun i h1 h2 => hz i (by omega) (by rw [unhide HL] at h2; exact h2))]
      simp

theorem lcut_any (ao : Option Addr) (len cap : Nat) (xs : List Nat) (w : World) (h : RowAt w ao len cap xs) :
    Calls Try.prog 96 #[.slice ao len cap] w fun e w' => (∃ ao' len' cap', e = .returned (.slice ao' len' cap') ∧ NumAt w ao' len' cap' (val xs) ∧ len' ≤ len) ∧ w = w' := by
  refine (lcut_same ao len cap xs w h).mono ?_
  rintro e w' ⟨⟨a, l, c, h1, h2, h3, _⟩, h4⟩
  exact ⟨⟨a, l, c, h1, h2, h3⟩, h4⟩
#print axioms lcut_any
end Go.Proofs.Ytbdjkbonoofibaa

/-
  A part of a row that the caller owns, written in place: the world behind it has that one block changed.
-/
namespace Go.Proofs.Ytbdjkbonoofibaa
open Go.RowKit Lb

/-- The slice leads to no block g. -/
def Off (g : Nat) (ao : Option Addr) (len : Nat) : Prop := 0 < len → ∃ b off, ao = some ⟨b, off, none⟩ ∧ b ≠ g
theorem off_old {w : World} {ao : Option Addr} {len cap g : Nat} {xs : List Nat} (h : RowAt w ao len cap xs) (hg : w.heap.size ≤ g) : Off g ao len := fun hp => by
  obtain ⟨b, off, e, hlt, _⟩ := h.cells hp
  exact ⟨b, off, e, by omega⟩
theorem off_new {g B : Nat} {ao : Option Addr} {len : Nat} (h : New B ao len) (hg : g < B) : Off g ao len := fun hp => by
  obtain ⟨b, off, e, hlt⟩ := h hp
  exact ⟨b, off, e, by omega⟩
/-- Only block g has changed (and new ones may have been made). -/
def Only (g : Nat) (w w' : World) : Prop := w.grownBy w' (some g)
theorem Only.refl (g : Nat) (w : World) : Only g w w := World.grownBy.refl _ _
theorem Only.then {g : Nat} {a b c : World} (h : Only g a b) (k : Only g b c) : Only g a c := World.grownBy.trans h k
theorem Only.setCell {g : Nat} {a b : World} (h : Only g a b) (j : Nat) (u : Value) : Only g a (b.setCell ⟨g, j, none⟩ u) :=
  h.then ⟨rfl, rfl, rfl, by simp [World.setCell], fun k _ hk => Below.heap_setCell _ _ _ _ (fun e => hk (by simp [e]))⟩
/-- A store into a block made since. -/
theorem Only.above {g g' : Nat} {a b : World} (h : Only g a b) (hg : a.heap.size ≤ g') (j : Nat) (u : Value) : Only g a (b.setCell ⟨g', j, none⟩ u) :=
  ⟨h.os, h.tape, h.output, Nat.le_trans h.size (by simp [World.setCell]), fun k hk hne => (Below.heap_setCell _ _ _ _ (by simp; omega)).trans (h.block k hk hne)⟩
theorem Only.drewN {g : Nat} {a b : World} (h : Only g a b) (n : Nat) : Only g a (b.drewN n) := h.then ⟨rfl, rfl, rfl, Nat.le_refl _, fun _ _ _ => rfl⟩
theorem Only.below {g : Nat} {a b : World} (h : Below a.heap.size a b) : Only g a b := ⟨h.os, h.tape, h.output, h.size, fun k hk _ => h.block k hk⟩
theorem Below.only {B g : Nat} {a w w' : World} (h : Below B a w) (ho : Only g w w') (hB : B ≤ w.heap.size) (hg : B ≤ g) : Below B a w' := h.grown ho hB (fun k e => by simp at e; omega)
theorem RowAt.only {w w' : World} {ao : Option Addr} {len cap g : Nat} {xs : List Nat} (h : RowAt w ao len cap xs) (hn : Off g ao len) (ho : Only g w w') : RowAt w' ao len cap xs := by
  refine ⟨h.len_eq, h.cap_le, h.cap_max, h.nil_cap, h.small, fun hp => ?_⟩
  obtain ⟨b, off, e, hlt, hc⟩ := h.cells hp
  obtain ⟨b', off', e', hb⟩ := hn hp
  rw [e] at e'
  simp only [Option.some.injEq, Addr.mk.injEq, and_true] at e'
  obtain ⟨rfl, rfl⟩ := e'
  exact ⟨b, off, e, Nat.lt_of_lt_of_le hlt ho.size, fun i hi => ho.cell (hc i hi) (by simpa using hb)⟩
theorem NumAt.only {w w' : World} {ao : Option Addr} {len cap g N : Nat} (h : NumAt w ao len cap N) (hn : Off g ao len) (ho : Only g w w') : NumAt w' ao len cap N := by
  obtain ⟨xs, h1, h2⟩ := h
  exact ⟨xs, h1.only hn ho, h2⟩
theorem Own.only {w w' : World} {base n cap g g' : Nat} {xs : List Nat} (h : Own w base (.slice (some ⟨g', 0, none⟩) n cap) n xs) (hne : g' ≠ g) (ho : Only g w w') : Own w' base (.slice (some ⟨g', 0, none⟩) n cap) n xs :=
  World.ownsRow.kept h ho (Or.inr (by simpa [Value.ownBlock] using hne))
theorem Own.lt {w : World} {base g n cap : Nat} {xs : List Nat} (h : Own w base (.slice (some ⟨g, 0, none⟩) n cap) n xs) : g < w.heap.size := (World.ownsRow.lt h g rfl).2
theorem Own.cap {w : World} {base g n cap : Nat} {xs : List Nat} (h : Own w base (.slice (some ⟨g, 0, none⟩) n cap) n xs) : n ≤ cap ∧ cap ≤ maxLen := by
  rcases h.2 with ⟨h', _⟩ | ⟨g', cap', cur, h', hb, hg, h1, h2, _⟩
  · simp at h'
  · simp only [Value.slice.injEq, Option.some.injEq, Addr.mk.injEq, and_true, true_and] at h'
    obtain ⟨rfl, rfl⟩ := h'
    exact ⟨h1, h2⟩
/-- The part of an owned row from o on, of m limbs. -/
theorem Own.part {w : World} {base g n cap : Nat} {xs : List Nat} (h : Own w base (.slice (some ⟨g, 0, none⟩) n cap) n xs) (hs : Small xs) {o m c : Nat} (hm : 0 < m) (hfit : o + m ≤ n) (hc : m ≤ c) (hc2 : c ≤ maxLen) : RowAt w (some ⟨g, o, none⟩) m c ((xs.drop o).take m) := by
  have hl := h.len
  refine ⟨by simp; omega, hc, hc2, fun e => by simp at e, small_take (small_drop hs o) m, fun _ => ⟨g, o, rfl, h.lt, fun i hi => ?_⟩⟩
  rw [lim_take, if_pos hi, lim_drop]
  exact h.cell (by omega)
theorem val_part (xs : List Nat) {o m : Nat} (hfit : o + m ≤ xs.length) : pre xs (o + m) = pre xs o + val ((xs.drop o).take m) * Bp o := by
  have hl : ((xs.drop o).take m).length = m := by simp; omega
  have : ∀ k, k ≤ m → pre xs (o + k) = pre xs o + pre ((xs.drop o).take m) k * Bp o := by
    intro k
    induction k with
    | zero => intro _; rw [pre_zero, Nat.zero_mul]; rfl
    | succ k ih =>
      intro hk
      rw [show o + (k + 1) = o + k + 1 by omega, pre_succ, ih (by omega), pre_succ, lim_take, if_pos (by omega), lim_drop, Nat.add_mul, Bp_add, Nat.mul_assoc, Nat.mul_comm (Bp k)]
      omega
  rw [this m (Nat.le_refl _)]
  unfold val
  rw [hl]
/-- copy(own row, a row of no more limbs). -/
theorem copy_part {w : World} {ops : Array Oper} {rest : List Oper} {o : Oper} {a : Act} {Q : Exit → Act → World → Prop} (hgd : o.guard = none) (d s : Operand)
    (ho : o.op = .call { callee := .builtin .copy, args := #[d, s], argTypes := #[27, 27] }) (base g n cap : Nat) (zs ys : List Nat) (hd : a.eval d = .slice (some ⟨g, 0, none⟩) n cap) (hown : Own w base (.slice (some ⟨g, 0, none⟩) n cap) n zs)
    (ao : Option Addr) (m c : Nat) (hs : a.eval s = .slice ao m c) (hrow : RowAt w ao m c ys) (hm : m ≤ n)
    (h : ∀ w', Own w' base (.slice (some ⟨g, 0, none⟩) n cap) n (ys ++ zs.drop m) → w.grownBy w' (some g) → wpList Try.prog ops Q rest (a.put o.dst (goInt (ys.map lv).length)) w') : wpList Try.prog ops Q (o :: rest) a w := by
  obtain ⟨i0, hi, hz0, hz1, hz2⟩ := info_parts info_u32
  have hl := hrow.len_eq
  have hzl := hown.len
  rcases Nat.eq_zero_or_pos m with e | hp
  · obtain rfl : ys = [] := List.eq_nil_of_length_eq_zero (by omega)
    subst e
    refine wpList_copy_nothing hgd d s _ _ ho 76 Try.underlying27 (by rw [hi]; simp [hz1]) _ _ _ _ _ _ hd hs (by simp) ?_
    exact h w (by simpa using hown) (World.grownBy.refl _ _)
  · obtain ⟨b, off, rfl, hb, hc⟩ := hrow.cells hp
    rcases hown.2 with ⟨h', _⟩ | ⟨g', cap', cur, h', hbg, hg, hnc, hcm, hcs, htake⟩
    · simp at h'
    · simp only [Value.slice.injEq, Option.some.injEq, Addr.mk.injEq, and_true, true_and] at h'
      obtain ⟨rfl, rfl⟩ := h'
      refine wpList_copy_own hgd d s _ _ ho 76 Try.underlying27 (by rw [hi]; simp [hz1]) g 0 n cap ⟨b, off, none⟩ m c hd hs cur 76 hg (ys.map lv) (by rw [List.length_map, hl]; exact (Nat.min_eq_left hm).symm) ?_ (by simp [hl]; omega) ?_ ?_
      · intro j v hj
        have hjl : j < m := by
          have := (List.getElem?_eq_some_iff.1 hj).1
          simpa [hl] using this
        rw [Addr.add_lit, hc j hjl, ← hj]
        simp [lim, lv, show j < ys.length by omega]
      · intro u hu
        obtain ⟨_, _, rfl⟩ := List.mem_map.1 hu
        rfl
      · refine h _ ⟨by simp [hl, hzl]; omega, Or.inr ⟨g, cap, _, rfl, hbg, setRow_heap w g cur _ 76 _ hg, hnc, hcm, ?_, ?_⟩⟩ ⟨rfl, rfl, rfl, by simp [World.setRow], fun k _ hk => setRow_other w g k _ (fun e => hk (by simp [e]))⟩
        · simp [hl]; omega
        · have e1 : (cur.toList.drop m).take (n - m) = (zs.drop m).map lv := by
            rw [List.map_drop, ← htake, Nat.mul_one, List.drop_take]
          simp [hl, List.take_append]
          rw [List.take_of_length_le (by simp [hl]; omega), e1, List.map_drop]
#print axioms copy_part
#print axioms Own.part
#print axioms val_part
end Go.Proofs.Ytbdjkbonoofibaa

/-
  What long.addTimes does: b times x is added to a part of a row, in place; what is carried beyond it is told.
-/
namespace Go.Proofs.Ytbdjkbonoofibaa
open Go.RowKit Lb

set_option maxRecDepth 20000 in
set_option maxHeartbeats 1000000 in
theorem addTimes_any (base g N cap : Nat) (zs : List Nat) (o c' : Nat) (ab : Option Addr) (lb cb : Nat) (ys : List Nat) (x : Nat) (w : World)
    (hown0 : Own w base (.slice (some ⟨g, 0, none⟩) N cap) N zs) (hsm0 : Small zs) (hb : RowAt w ab lb cb ys) (hoff : Off g ab lb) (hfit : o + lb ≤ N) (hx : x < 4294967296) :
    Calls Try.prog 97 #[.slice (some ⟨g, o, none⟩) lb c', .slice ab lb cb, .int .u32 (x : Int)] w fun e w' => ∃ (c : Nat) (us : List Nat), e = .returned (.int .u32 (c : Int)) ∧ c < 4294967296 ∧ Own w' base (.slice (some ⟨g, 0, none⟩) N cap) N us ∧ Small us ∧ (∀ i, i < o ∨ o + lb ≤ i → lim us i = lim zs i) ∧ pre us (o + lb) + c * Bp (o + lb) = pre zs (o + lb) + x * val ys * Bp o ∧ Only g w w' := by
  go_enter Try.func97, Try.ntmps97
  have hm2 := hb.cap_max
  have hc2 := hb.cap_le
  unfold maxLen at hm2
  go_wp2_with fail
  go_loopw [7, 12] (fun v j wq => ∃ (m n : Nat) (us : List Nat), m ≤ lb ∧ j = .int .i64 m ∧ v = .int .u64 n ∧ n < 4294967296 ∧ Own wq base (.slice (some ⟨g, 0, none⟩) N cap) N us ∧ Small us ∧ pre us (o + m) + n * Bp (o + m) = pre zs (o + m) + x * pre ys m * Bp o ∧ (∀ i, i < o ∨ o + m ≤ i → lim us i = lim zs i) ∧ Only g w wq) (fun _ j _ => lb - (intOf j).toNat)
  case atStart => exact ⟨0, 0, zs, by omega, rfl, rfl, by omega, hown0, hsm0, by simp [pre_zero], fun _ _ => rfl, Only.refl _ _⟩
  case round =>
    obtain ⟨m, n, us, hm, rfl, rfl, hn, hown, hsm, hval, hsame, honly⟩ := hrel
    have HV := hide hval
    have HS := hide hsame
    clear hval hsame
    have ulen := hide hown.len
    by_cases hq : m < lb
    · obtain ⟨b1, o1, rfl, hb1, hcx⟩ := (hb.only hoff honly).cells (by omega)
      have cx := hcx m hq
      have cs := hown.cell (i := o + m) (by omega)
      have cf := hown.free (o + m)
      have hby := hb.small m
      have hbu := hsm (o + m)
      have hmul := mul_fits hx hby
      clear hcx
      go_wp2
      go_roundw
      case rel =>
        refine ⟨m + 1, (n + x * lim ys m + lim us (o + m)) / 4294967296, us.set (o + m) ((n + x * lim ys m + lim us (o + m)) % 4294967296), by omega, by go_num, by go_num, by omega, hown.set _ _ (by omega), small_set hsm (by omega), ?_, fun t ht => ?_, honly.setCell _ _⟩
        · rw [show o + (m + 1) = o + m + 1 by omega, pre_succ, pre_set_lt _ _ _ _ (Nat.le_refl _) (by rw [unhide ulen]; omega), lim_set _ _ _ _ (by rw [unhide ulen]; omega), if_pos rfl, Bp_succ, pre_succ, pre_succ, mul_step (Bp_add o m) (unhide HV), unhide HS (o + m) (Or.inr (Nat.le_refl _)), Nat.mul_add, Nat.add_mul]
          omega
        · rw [lim_set _ _ _ _ (by rw [unhide ulen]; omega), if_neg (by omega)]
          exact unhide HS t (by omega)
      case measure => simp [intOf]; omega
    · have hm1 : m = lb := by omega
      have hv : pre ys m = val ys := pre_len (by rw [hb.len_eq]; omega)
      have HW := hide hv
      clear hv
      go_wp2
      go_ret
      refine ⟨n, us, by simp, hn, hown, hsm, fun i hi => unhide HS i (by omega), ?_, honly⟩
      rw [← hm1, ← unhide HW]
      exact unhide HV

#print axioms addTimes_any
end Go.Proofs.Ytbdjkbonoofibaa

/-
  What long.Mul does: the product, in a row of its own.
-/
namespace Go.Proofs.Ytbdjkbonoofibaa
open Go.RowKit Lb

theorem mul_val_step {P U Z c x bk bb V : Nat} (h : U + c * bb = Z + x * V * bk) (hz : Z = P * V) : U + c * bb = (P + x * bk) * V := by
  rw [h, hz, Nat.add_mul, Nat.mul_assoc x V, Nat.mul_assoc x bk, Nat.mul_comm V bk]

set_option maxRecDepth 20000 in
set_option maxHeartbeats 1000000 in
theorem mul_any (aa : Option Addr) (la ca : Nat) (xs : List Nat) (ab : Option Addr) (lb cb : Nat) (ys : List Nat) (w : World) (ha : RowAt w aa la ca xs) (hb : RowAt w ab lb cb ys) (hla : la ≤ 10000000) (hlb : lb ≤ 10000000) :
    Calls Try.prog 85 #[.slice aa la ca, .slice ab lb cb] w fun e w' => ∃ ao' len' cap', e = .returned (.slice ao' len' cap') ∧ NumAt w' ao' len' cap' (val xs * val ys) ∧ Below w.heap.size w w' := by
  go_enter Try.func85, Try.ntmps85
  go_wp2_with fail
  refine (lcut_any _ _ _ xs _ ha).mono ?_
  rintro e w' ⟨⟨a1, l1, c1, rfl, ⟨xs1, hx1, nx1, vx1⟩, hl1⟩, rfl⟩
  go_wp2_with fail
  refine (lcut_any _ _ _ ys _ hb).mono ?_
  rintro e w' ⟨⟨a2, l2, c2, rfl, ⟨ys1, hy1, ny1, vy1⟩, hl2⟩, rfl⟩
  have Vx := hide vx1
  have Vy := hide vy1
  clear vx1 vy1 nx1 ny1 ha hb
  have hm1 := hx1.cap_max
  have hm2 := hy1.cap_max
  have hc1 := hx1.cap_le
  have hc2 := hy1.cap_le
  unfold maxLen at hm1 hm2
  go_wp2_with (at_make; refine make_row rfl _ _ rfl w.heap.size .i64 .i64 _ _ (l1 + l2) rfl rfl (by omega) (by omega) (by omega) (Nat.le_refl _) ?_)
  intro w1 hown1 hgrow1
  have hbel1 : Below w.heap.size w w1 := (Below.refl _ _).grown hgrow1 (Nat.le_refl _) (fun _ h => by simp at h)
  clear hgrow1
  go_wp2_with fail
  go_loopw [20] (fun i wr => ∃ (k : Nat) (zs : List Nat), k ≤ l1 ∧ i = .int .i64 k ∧ Own wr w.heap.size (.slice (some ⟨w.heap.size, 0, none⟩) (l1 + l2) (l1 + l2)) (l1 + l2) zs ∧ Small zs ∧ pre zs (k + l2) = pre xs1 k * val ys1 ∧ Below w.heap.size w wr) (fun i _ => l1 - (intOf i).toNat)
  case atStart =>
    refine ⟨0, _, by omega, rfl, hown1, small_replicate _, ?_, hbel1⟩
    rw [pre_zero, Nat.zero_mul]
    exact pre_zeros (fun i _ => lim_replicate _ _)
  case round =>
    obtain ⟨k, zs, hk, rfl, hown, hsm, hval, hbel⟩ := hrel
    have HV := hide hval
    clear hval hown1 hbel1
    by_cases hp : k < l1
    · obtain ⟨b1, o1, rfl, hb1, hcx⟩ := hx1.cells (by omega)
      have cx : wr.cell? ⟨b1, o1 + k, none⟩ = some (.int .u32 (lim xs1 k : Int)) := (hbel.cell (p := ⟨b1, o1 + k, none⟩) hb1).trans (hcx k (by omega))
      have hbx := hx1.small k
      have hyr := hy1.later hbel
      have hoff : Off w.heap.size a2 l2 := off_old hy1 (Nat.le_refl _)
      clear hcx
      go_wp2_with fail
      refine (addTimes_any w.heap.size w.heap.size (l1 + l2) (l1 + l2) zs k _ _ _ _ ys1 (lim xs1 k) _ hown hsm hyr hoff (by omega) hbx).mono ?_
      rintro e w2 ⟨c, us, rfl, hc, hown2, hsm2, hsame, hval2, honly⟩
      have hbel2 := Below.only hbel honly hbel.size (Nat.le_refl _)
      have HV2 := hide hval2
      have ulen := hide hown2.len
      have cs := hown2.cell (i := k + l2) (by omega)
      have cf := hown2.free (k + l2)
      clear hval2 hsame honly hown
      go_wp2
      go_roundw
      case rel =>
        refine ⟨k + 1, us.set (k + l2) c, by omega, by go_num, hown2.set _ _ rfl, small_set hsm2 hc, ?_, hbel2.setCell (by simp) _⟩
        rw [show k + 1 + l2 = k + l2 + 1 by omega, pre_succ, pre_set_lt _ _ _ _ (Nat.le_refl _) (by rw [unhide ulen]; omega), lim_set _ _ _ _ (by rw [unhide ulen]; omega), if_pos rfl, pre_succ]
        exact mul_val_step (unhide HV2) (unhide HV)
      case measure => simp [intOf]; omega
    · have hk1 : k = l1 := by omega
      have hr := rowAt_own hown hsm
      have hv : val zs = val xs * val ys := by
        have h1 := unhide HV
        rw [hk1, pre_len (xs := zs) (by rw [hown.len]; omega), pre_len (xs := xs1) (by rw [hx1.len_eq]; omega), unhide Vx, unhide Vy] at h1
        exact h1
      have HW := hide hv
      clear hv
      go_wp2_with fail
      refine (lcut_any _ _ _ zs _ hr).mono ?_
      rintro e w' ⟨⟨a3, l3, c3, rfl, hnum, hl3⟩, rfl⟩
      rw [unhide HW] at hnum
      go_wp2
      go_ret
      exact ⟨_, _, _, rfl, hnum, hbel⟩

#print axioms mul_any
end Go.Proofs.Ytbdjkbonoofibaa

/-
  Plain mathematics of a division by guessed limbs.
-/
namespace Go.Proofs.Ytbdjkbonoofibaa.Lb

/-- A row by its three highest limbs. -/
theorem top_three (ps : List Nat) (n : Nat) (hl : ps.length = n + 3) : val ps = pre ps n + ((lim ps (n + 2) * 4294967296 + lim ps (n + 1)) * 4294967296 + lim ps n) * Bp n := by
  have e : val ps = pre ps (n + 3) := by unfold val; rw [hl]
  rw [e, pre_succ, pre_succ, pre_succ, Bp_succ (n + 1), Bp_succ n, Nat.add_mul, Nat.add_mul, Nat.add_mul]
  have h1 : lim ps (n + 2) * (Bp n * 4294967296 * 4294967296) = lim ps (n + 2) * 4294967296 * 4294967296 * Bp n := by
    rw [Nat.mul_assoc (Bp n), Nat.mul_comm (Bp n), ← Nat.mul_assoc, ← Nat.mul_assoc]
  have h2 : lim ps (n + 1) * (Bp n * 4294967296) = lim ps (n + 1) * 4294967296 * Bp n := by rw [Nat.mul_comm (Bp n), ← Nat.mul_assoc]
  rw [h1, h2]
  omega
theorem top_two (ys : List Nat) (n : Nat) (hl : ys.length = n + 2) : val ys = pre ys n + (lim ys (n + 1) * 4294967296 + lim ys n) * Bp n := by
  have e : val ys = pre ys (n + 2) := by unfold val; rw [hl]
  rw [e, pre_succ, pre_succ, Bp_succ, Nat.add_mul]
  have h2 : lim ys (n + 1) * (Bp n * 4294967296) = lim ys (n + 1) * 4294967296 * Bp n := by rw [Nat.mul_comm (Bp n), ← Nat.mul_assoc]
  rw [h2]
  omega

/-- What the guess's loop keeps: T is no less than the quotient. P = p + U b, D = d + V b; p, d below b. -/
theorem guess_lower {P D p d U V b T : Nat} (hP : P = p + U * b) (hD : D = d + V * b) (hp : p < b) (h : U < T * V) : P < T * D := by
  have h1 : (U + 1) * b ≤ T * V * b := Nat.mul_le_mul_right _ h
  rw [Nat.add_mul] at h1
  rw [hP, hD, Nat.mul_add, ← Nat.mul_assoc]
  have : 0 ≤ T * d := Nat.zero_le _
  omega
/-- At the end: T is the quotient or 1 more. -/
theorem guess_end {P D p d U V b T : Nat} (hP : P = p + U * b) (hD : D = d + V * b) (hd : d < b) (hT : T < 4294967296) (hV : 4294967296 ≤ V) (h : T * V ≤ U) : T * D < P + D := by
  have h1 : T * V * b ≤ U * b := Nat.mul_le_mul_right _ h
  have h2 : T * d ≤ 4294967295 * d := Nat.mul_le_mul_right _ (by omega)
  have h3 : 4294967296 * b ≤ V * b := Nat.mul_le_mul_right _ hV
  rw [hP, hD, Nat.mul_add, ← Nat.mul_assoc]
  omega
/-- The highest limb of what is divided is no greater than the divisor's. -/
theorem guess_top {P D p d u1 u0 v1 v0 b : Nat} (hP : P = p + (u1 * 4294967296 + u0) * 4294967296 * b) (hD : D = d + (v1 * 4294967296 + v0) * b) (hd : d < b) (hv : v0 < 4294967296) (h : P < 4294967296 * D) : u1 ≤ v1 := by
  rcases Nat.lt_or_ge v1 u1 with c | c
  · exfalso
    have h1 : (v1 + 1) * 4294967296 * 4294967296 * b ≤ u1 * 4294967296 * 4294967296 * b := Nat.mul_le_mul_right _ (Nat.mul_le_mul_right _ (Nat.mul_le_mul_right _ c))
    have h2 : (v1 * 4294967296 + v0) * b + b ≤ (v1 + 1) * 4294967296 * b := by
      have : (v1 * 4294967296 + v0 + 1) * b ≤ (v1 + 1) * 4294967296 * b := Nat.mul_le_mul_right _ (by omega)
      rw [Nat.add_mul _ 1] at this
      omega
    have h3 : D < (v1 + 1) * 4294967296 * b := by omega
    have h4 : 4294967296 * D < (v1 + 1) * 4294967296 * 4294967296 * b := by
      have e : (v1 + 1) * 4294967296 * 4294967296 * b = 4294967296 * ((v1 + 1) * 4294967296 * b) := by
        rw [Nat.mul_assoc ((v1 + 1) * 4294967296), Nat.mul_left_comm]
      rw [e]
      exact Nat.mul_lt_mul_of_pos_left h3 (by omega)
    have h5 : u1 * 4294967296 * 4294967296 * b ≤ (u1 * 4294967296 + u0) * 4294967296 * b := Nat.mul_le_mul_right _ (Nat.mul_le_mul_right _ (by omega))
    omega
  · exact c
theorem g_start {P D p d X u0 v1 v0 b : Nat} (hP : P = p + (X * 4294967296 + u0) * b) (hD : D = d + (v1 * 4294967296 + v0) * b) (hp : p < b) (hu : u0 < 4294967296) (hv : 0 < v1) : P < (X / v1 + 1) * D := by
  apply guess_lower hP hD hp
  have h1 : X < (X / v1 + 1) * v1 := by
    have h2 := Nat.div_add_mod X v1
    have h3 := Nat.mod_lt X hv
    rw [Nat.add_mul, Nat.mul_comm]
    omega
  have h4 : (X + 1) * 4294967296 ≤ (X / v1 + 1) * v1 * 4294967296 := Nat.mul_le_mul_right _ h1
  rw [Nat.mul_add, ← Nat.mul_assoc]
  have : 0 ≤ (X / v1 + 1) * v0 := Nat.zero_le _
  omega
theorem g_many {P D T : Nat} (hT : 4294967296 ≤ T) (h : P < 4294967296 * D) : P < T * D := Nat.lt_of_lt_of_le h (Nat.mul_le_mul_right _ hT)
theorem g_less_any {T v1 v0 L X u0 B : Nat} (hX : T * v1 + L = X) (h : L * B + u0 < T * v0) : X * B + u0 < T * (v1 * B + v0) := by
  rw [← hX, Nat.mul_add, ← Nat.mul_assoc, Nat.add_mul]
  omega
theorem g_less {T v1 v0 L X u0 : Nat} (hX : T * v1 + L = X) (h : L * 4294967296 + u0 < T * v0) : X * 4294967296 + u0 < T * (v1 * 4294967296 + v0) := g_less_any hX h
theorem g_not_any {T v1 v0 L X u0 B : Nat} (hX : T * v1 + L = X) (h : T * v0 ≤ L * B + u0) : T * (v1 * B + v0) ≤ X * B + u0 := by
  rw [← hX, Nat.mul_add, ← Nat.mul_assoc, Nat.add_mul]
  omega
theorem g_not {T v1 v0 L X u0 : Nat} (hX : T * v1 + L = X) (h : T * v0 ≤ L * 4294967296 + u0) : T * (v1 * 4294967296 + v0) ≤ X * 4294967296 + u0 := g_not_any hX h
theorem g_far {T v0 L u0 : Nat} (hT : T < 4294967296) (hv : v0 < 4294967296) (hL : 4294967296 ≤ L) : T * v0 ≤ L * 4294967296 + u0 := by
  have := mul_fits hT hv
  omega
theorem g_fits {T v1 L X : Nat} (hX : T * v1 + L = X) (hL : 4294967296 ≤ L) (h : X < v1 * 4294967296 + 4294967296) : T < 4294967296 := by
  rcases Nat.lt_or_ge T 4294967296 with c | c
  · exact c
  · have : 4294967296 * v1 ≤ T * v1 := Nat.mul_le_mul_right _ c
    omega
theorem g_top {X v1 : Nat} (h : X < v1 * 4294967296 + 4294967296) (hv : 2147483648 ≤ v1) : X / v1 ≤ 4294967297 := by
  have h1 : X < 4294967298 * v1 := by omega
  have h2 := (Nat.div_lt_iff_lt_mul (show 0 < v1 by omega)).2 h1
  omega
theorem g_down {T v1 L X : Nat} (hX : T * v1 + L = X) (hT : 0 < T) : (T - 1) * v1 + (L + v1) = X := by
  obtain ⟨t, rfl⟩ : ∃ t, T = t + 1 := ⟨T - 1, by omega⟩
  rw [Nat.add_mul] at hX
  rw [Nat.add_sub_cancel]
  omega
/-- What the taking away leaves, and what the giving back makes of it. -/
theorem div_took {P P1 D T : Nat} (h : P1 + T * D = P) (hlt : P < (T + 1) * D) : P1 < D ∧ P = T * D + P1 := by
  rw [Nat.add_mul] at hlt
  omega
theorem div_gave {P P1 P2 D T M c : Nat} (h : P1 + T * D = P + M) (h2 : P2 + c * M = P1 + D) (hle : T * D < P + D) (h1 : P1 < M) (hP2 : P2 < M) (hDM : D ≤ M) : 0 < T ∧ P2 < D ∧ P = (T - 1) * D + P2 := by
  have hT : 0 < T := by
    rcases Nat.eq_zero_or_pos T with e | e
    · subst e; omega
    · exact e
  obtain ⟨t, rfl⟩ : ∃ t, T = t + 1 := ⟨T - 1, by omega⟩
  rw [Nat.add_mul] at h hle
  rw [Nat.add_sub_cancel]
  have hc : c = 1 := by
    rcases (show c = 0 ∨ c = 1 ∨ 2 ≤ c by omega) with e | e | e
    · subst e; omega
    · exact e
    · have : 2 * M ≤ c * M := Nat.mul_le_mul_right _ e
      omega
  subst hc
  omega
/-- Above what a number needs all limbs are noughts. -/
theorem zero_above {xs : List Nat} {n : Nat} (h : val xs < Bp n) : ∀ i, n ≤ i → lim xs i = 0 := by
  intro i hi
  rcases Nat.eq_zero_or_pos (lim xs i) with e | e
  · exact e
  · exfalso
    have h1 := pre_ge (xs := xs) (k := i) (by omega)
    have h2 := val_split xs (i + 1)
    have h3 := Bp_le hi
    have h4 : 0 ≤ Bp (i + 1) * val (xs.drop (i + 1)) := Nat.zero_le _
    omega
theorem drop_pre (us : List Nat) (j m : Nat) : pre us (j + m) = pre us j + pre (us.drop j) m * Bp j := by
  induction m with
  | zero => rw [pre_zero, Nat.zero_mul]; rfl
  | succ m ih =>
    rw [show j + (m + 1) = j + m + 1 by omega, pre_succ, ih, pre_succ, lim_drop, Nat.add_mul, Bp_add, Nat.mul_assoc, Nat.mul_comm (Bp m)]
    omega
theorem part_pre {us : List Nat} {o m : Nat} (h : o + m ≤ us.length) : val ((us.drop o).take m) = pre (us.drop o) m := by
  unfold val
  rw [List.length_take, List.length_drop, Nat.min_eq_left (by omega)]
  exact pre_take _ _ _ (Nat.le_refl _)
/-- A change within a part, told of the part's own number. -/
theorem part_eq {us vs : List Nat} {o m X Y : Nat} (hu : o + m ≤ us.length) (hv : o + m ≤ vs.length) (hs : ∀ i, i < o → lim vs i = lim us i) (h : pre vs (o + m) + X * Bp o = pre us (o + m) + Y * Bp (o + m)) : val ((vs.drop o).take m) + X = val ((us.drop o).take m) + Y * Bp m := by
  rw [part_pre hu, part_pre hv]
  rw [drop_pre, drop_pre, pre_congr hs, Bp_add, Nat.add_assoc, Nat.add_assoc, ← Nat.add_mul] at h
  have e : Y * (Bp o * Bp m) = Y * Bp m * Bp o := by rw [Nat.mul_comm (Bp o), ← Nat.mul_assoc]
  rw [e, ← Nat.add_mul] at h
  exact Nat.eq_of_mul_eq_mul_right (Bp_pos o) (by omega)
/-- Where all behind a part is nought, the number from there on is the part's. -/
theorem part_all {us : List Nat} {o m : Nat} (h : o + m ≤ us.length) (hz : ∀ i, o + m ≤ i → lim us i = 0) : val ((us.drop o).take m) = val (us.drop o) :=
  val_take (by simp; omega) (fun i h1 _ => by rw [lim_drop]; exact hz _ (by omega))
/-- One limb of the quotient. -/
theorem div_limb {Zk z Q D R P T P' B : Nat} (h : Zk = Q * D + R) (hP : P = z + B * R) (hT : P = T * D + P') : z + B * Zk = (T + B * Q) * D + P' := by
  rw [h, Nat.mul_add, Nat.add_mul, Nat.mul_assoc]
  omega
theorem div_done {Z Q D R : Nat} (h : Z = Q * D + R) (hR : R < D) : Z / D = Q ∧ Z % D = R := by
  rw [Nat.mul_comm] at h
  exact (Nat.div_mod_unique (by omega)).2 ⟨by omega, hR⟩
/-- How far the divisor is shifted, and what that makes of it. -/
theorem shift_bits {ys : List Nat} {n : Nat} (hs : Small ys) (hn : Norm ys) (hl : 0 < ys.length) (hb : IsBits (val ys) n) : ∃ s, s < 32 ∧ n + s = 32 * ys.length ∧ val ys * 2 ^ s < Bp ys.length ∧ Bp ys.length ≤ 2 * (val ys * 2 ^ s) := by
  have h1 := norm_ge hn hl
  have h2 := val_lt hs
  have hp := Bp_pos (ys.length - 1)
  rcases hb with ⟨h, _⟩ | ⟨hn1, h3, h4⟩
  · omega
  · have e1 : n ≤ 32 * ys.length := bits_le (Or.inr ⟨hn1, h3, h4⟩) h2
    have e2 : 32 * (ys.length - 1) < n := by
      rcases Nat.lt_or_ge (32 * (ys.length - 1)) n with c | c
      · exact c
      · have h5 := Nat.pow_le_pow_right (n := 2) (by omega) c
        rw [← Bp_two] at h5
        omega
    refine ⟨32 * ys.length - n, by omega, by omega, ?_, ?_⟩
    · have h6 : val ys * 2 ^ (32 * ys.length - n) < 2 ^ n * 2 ^ (32 * ys.length - n) := Nat.mul_lt_mul_of_pos_right h4 (Nat.pow_pos (by omega))
      rw [← Nat.pow_add, show n + (32 * ys.length - n) = 32 * ys.length by omega, ← Bp_two] at h6
      exact h6
    · have h6 : 2 ^ (n - 1) * 2 ^ (32 * ys.length - n) ≤ val ys * 2 ^ (32 * ys.length - n) := Nat.mul_le_mul_right _ h3
      rw [← Nat.pow_add] at h6
      have h7 : Bp ys.length = 2 * 2 ^ (n - 1 + (32 * ys.length - n)) := by
        rw [Bp_two, Nat.mul_comm 2, ← Nat.pow_succ]
        congr 1
        omega
      omega
theorem shift_len {ds : List Nat} {l : Nat} (hs : Small ds) (hn : Norm ds) (hl : 0 < l) (h1 : val ds < Bp l) (h2 : Bp l ≤ 2 * val ds) : ds.length = l ∧ 2147483648 ≤ lim ds (l - 1) := by
  have e1 := norm_len hn h1
  obtain ⟨k, rfl⟩ : ∃ k, l = k + 1 := ⟨l - 1, by omega⟩
  rw [Bp_succ] at h2
  have e2 : ds.length = k + 1 := by
    rcases Nat.lt_or_ge ds.length (k + 1) with c | c
    · exfalso
      have h3 := val_lt hs
      have h4 := Bp_le (a := ds.length) (b := k) (by omega)
      omega
    · omega
  refine ⟨e2, ?_⟩
  rw [Nat.add_sub_cancel]
  have h5 : val ds = pre ds k + lim ds k * Bp k := by
    rw [← pre_succ]; unfold val; rw [e2]
  have h6 := pre_lt hs k
  rcases Nat.lt_or_ge (lim ds k) 2147483648 with c | c
  · exfalso
    have h7 : lim ds k * Bp k ≤ 2147483647 * Bp k := Nat.mul_le_mul_right _ (by omega)
    omega
  · exact c
theorem shift_top {zs : List Nat} {A D s la lb : Nat} (hz : Small zs) (hA : A < Bp la) (hs : s < 32) (hv : val zs = A * 2 ^ s) (hle : lb ≤ la) (hD : Bp lb ≤ 2 * D) : val (zs.drop (la + 1 - lb)) < D := by
  rw [val_drop_div hz, hv]
  have hp := Bp_pos (la + 1 - lb)
  rw [Nat.div_lt_iff_lt_mul hp]
  have h1 : A * 2 ^ s < Bp la * 2147483648 := by
    have h2 := (pow_limb hs).1
    exact Nat.mul_lt_mul_of_lt_of_le hA h2 (by omega)
  have h3 : Bp lb * Bp (la + 1 - lb) ≤ 2 * D * Bp (la + 1 - lb) := Nat.mul_le_mul_right _ hD
  rw [← Bp_add, show lb + (la + 1 - lb) = la + 1 by omega, Bp_succ, Nat.mul_assoc] at h3
  omega
theorem shift_fits {A s la : Nat} (hA : A < Bp la) (hs : s < 32) : A * 2 ^ s < Bp (la + 1) := by
  have h2 := (pow_limb hs).1
  rw [Bp_succ]
  exact Nat.mul_lt_mul_of_lt_of_le hA (by omega) (by omega)
theorem shift_quo (A D s : Nat) : A * 2 ^ s / (D * 2 ^ s) = A / D := Nat.mul_div_mul_right _ _ (Nat.pow_pos (by omega))
theorem shift_rem (A D s : Nat) : A * 2 ^ s % (D * 2 ^ s) / 2 ^ s = A % D := by
  rw [Nat.mul_mod_mul_right, Nat.mul_div_cancel _ (Nat.pow_pos (by omega))]
#print axioms shift_top
#print axioms part_eq
#print axioms guess_top
end Go.Proofs.Ytbdjkbonoofibaa.Lb

/-
  The contracts of package long and of the reference's Trim, told of numbers (IN PARTS).
-/
namespace Go.Proofs.Ytbdjkbonoofibaa
open Go.RowKit Lb

theorem mul_num (aa : Option Addr) (la ca A : Nat) (ab : Option Addr) (lb cb B : Nat) (w : World) (ha : ValAt w aa la ca A) (hb : ValAt w ab lb cb B) (hla : la ≤ 1000000) (hlb : lb ≤ 1000000) : Calls Try.prog 85 #[.slice aa la ca, .slice ab lb cb] w fun e w' => ∃ ao' len' cap', e = .returned (.slice ao' len' cap') ∧ NumAt w' ao' len' cap' (A * B) ∧ Below w.heap.size w w' := by
  obtain ⟨xs, hx, rfl⟩ := ha
  obtain ⟨ys, hy, rfl⟩ := hb
  exact mul_any _ _ _ xs _ _ _ ys w hx hy (by omega) (by omega)
#print axioms mul_num
end Go.Proofs.Ytbdjkbonoofibaa
