/-
  What limb.Over does: the quotient by one limb, and what is left; or nothing, and false.
-/
import Derived.Test.YtfjebgjhhojphaaCut
namespace Go.Proofs.Ytfjebgjhhojphaa
open Go.RowKit Lb

theorem over_no (ao : Option Addr) (len cap : Nat) (w : World) :
    Calls Try.prog 33 #[.slice ao len cap, .int .u32 0] w fun e w' => e = .returned (.tuple #[.slice none 0 0, .int .u32 0, .bool false]) ∧ w = w' := by
  go_enter Try.func33, Try.ntmps33
  go_wp2
  go_ret3
  exact ⟨rfl, rfl⟩

theorem over_none (ao : Option Addr) (len cap : Nat) (xi : Int) (w : World) (h : xi = 0) :
    Calls Try.prog 33 #[.slice ao len cap, .int .u32 xi] w fun e w' => e = .returned (.tuple #[.slice none 0 0, .int .u32 0, .bool false]) ∧ w = w' := by
  subst h
  exact over_no ao len cap w

/-- A shift by a limb, and a limb laid in. -/
theorem shl_or {n l : Nat} (hn : n < 4294967296) (hl : l < 4294967296) : bits .or .u64 ((n : Int) * 4294967296) (l : Int) = ((n * 4294967296 + l : Nat) : Int) := by
  have e : ((n : Int) * 4294967296) = ((n * 4294967296 : Nat) : Int) := by omega
  rw [e, u64_or_nat _ _ (by omega) (by omega)]
  congr 1
  have := Nat.shiftLeft_add_eq_or_of_lt (b := l) (i := 32) (by omega) n
  rw [Nat.shiftLeft_eq] at this
  exact this.symm

theorem over_digit {S x : Nat} (hS : S < 18446744073709551616) : IntKind.u64.wrap ((S : Int).tdiv (x : Int)) % 4294967296 = ((S / x % 4294967296 : Nat) : Int) ∧ (S : Int).tmod (x : Int) = ((S % x : Nat) : Int) := by
  have h1 : (S : Int).tdiv (x : Int) = ((S / x : Nat) : Int) := by rw [Int.tdiv_eq_ediv_of_nonneg (by omega)]; rfl
  have h2 : (S : Int).tmod (x : Int) = ((S % x : Nat) : Int) := by rw [Int.tmod_eq_emod_of_nonneg (by omega)]; rfl
  have h3 := Nat.div_le_self S x
  refine ⟨?_, h2⟩
  rw [h1, IntKind.wrap_u64]
  omega

/-- What the slice leads to is a block of limbs. -/
def Typed (w : World) (ao : Option Addr) (len : Nat) : Prop := 0 < len → ∃ b off cur fr, ao = some ⟨b, off, none⟩ ∧ w.heap[b]? = some (.cells cur 36 fr)
theorem own_typed {w : World} {base g n cap len : Nat} {ao : Option Addr} {xs : List Nat} (h : Own w base (.slice (some ⟨g, 0, none⟩) n cap) n xs) (he : 0 < len → ao = some ⟨g, 0, none⟩) : Typed w ao len := by
  intro hp
  rcases h.2 with ⟨h', _⟩ | ⟨g', cap', cur, h', _, hg, _⟩
  · simp at h'
  · simp only [Value.slice.injEq, Option.some.injEq, Addr.mk.injEq, and_true, true_and] at h'
    obtain ⟨rfl, rfl⟩ := h'
    exact ⟨g, 0, cur, _, he hp, hg⟩

set_option maxRecDepth 20000 in
set_option maxHeartbeats 1000000 in
theorem over_typed (ao : Option Addr) (len cap : Nat) (xs : List Nat) (x : Nat) (w : World) (h : RowAt w ao len cap xs) (hlen : len ≤ 10000000) (hx0 : 0 < x) (hx : x < 4294967296) :
    Calls Try.prog 33 #[.slice ao len cap, .int .u32 (x : Int)] w fun e w' => ∃ ao' len' cap', e = .returned (.tuple #[.slice ao' len' cap', .int .u32 ((val xs % x : Nat) : Int), .bool true]) ∧ NumAt w' ao' len' cap' (val xs / x) ∧ Below w.heap.size w w' ∧ Typed w' ao' len' := by
  have hx1 : ((x : Int) == 0) = false := by simp; omega
  go_enter Try.func33, Try.ntmps33
  go_wp2_with fail
  refine (cut_any _ _ _ xs _ h).mono ?_
  rintro e w' ⟨⟨a1, l1, c1, rfl, ⟨xs1, hx1, nx1, vx1⟩, hl1⟩, rfl⟩
  have Vx := hide vx1
  clear vx1 nx1 h
  have hm1 := hx1.cap_max
  have hc1 := hx1.cap_le
  unfold maxLen at hm1
  go_wp2_with (at_make; refine make_row rfl _ _ rfl w.heap.size .i64 .i64 _ _ l1 rfl rfl (by omega) (by omega) (by omega) (Nat.le_refl _) ?_)
  intro w1 hown1 hgrow1
  have hbel1 : Below w.heap.size w w1 := (Below.refl _ _).grown hgrow1 (Nat.le_refl _) (fun _ h => by simp at h)
  clear hgrow1
  go_wp2_with fail
  go_loopw [8, 9] (fun c i wr => ∃ (k n : Nat) (zs : List Nat), k ≤ l1 ∧ i = .int .i64 ((k : Int) - 1) ∧ c = .int .u64 n ∧ n < x ∧ Own wr w.heap.size (.slice (some ⟨w.heap.size, 0, none⟩) l1 l1) l1 zs ∧ Small zs ∧ val (xs1.drop k) = val (zs.drop k) * x + n ∧ Below w.heap.size w wr) (fun _ i _ => (intOf i + 1).toNat)
  case atStart =>
    refine ⟨l1, 0, _, by omega, rfl, rfl, by omega, hown1, small_replicate _, ?_, hbel1⟩
    rw [val_drop_end (by rw [hx1.len_eq]; exact Nat.le_refl _), val_drop_end (by simp)]; omega
  case round =>
    obtain ⟨k, n, zs, hk, rfl, rfl, hn, hown, hsm, hval, hbel⟩ := hrel
    have HV := hide hval
    clear hval hown1 hbel1
    have zlen := hide hown.len
    by_cases hp : 0 < k
    · obtain ⟨b1, o1, rfl, hb1, hcx⟩ := hx1.cells (by omega)
      have cx : wr.cell? ⟨b1, o1 + (k - 1), none⟩ = some (.int .u32 (lim xs1 (k - 1) : Int)) := (hbel.cell (p := ⟨b1, o1 + (k - 1), none⟩) hb1).trans (hcx (k - 1) (by omega))
      have cs := hown.cell (i := k - 1) (by omega)
      have cf := hown.free (k - 1)
      have hbx := hx1.small (k - 1)
      clear hcx
      have D := hide (shl_or (n := n) (l := lim xs1 (k - 1)) (by omega) hbx)
      go_wp2
      go_roundw
      case rel =>
        have hfit := over_fits hn hbx
        obtain ⟨h1, h2⟩ := over_digit (S := n * 4294967296 + lim xs1 (k - 1)) (x := x) (by omega)
        rw [unhide D, h1, h2]
        refine ⟨k - 1, (n * 4294967296 + lim xs1 (k - 1)) % x, zs.set (k - 1) ((n * 4294967296 + lim xs1 (k - 1)) / x), by omega, by go_num, rfl, Nat.mod_lt _ hx0, hown.set (k - 1) _ (by rw [Nat.mod_eq_of_lt hfit]), small_set hsm hfit, ?_, hbel.setCell (by simp) _⟩
        have e1 : k - 1 + 1 = k := by omega
        rw [val_drop_set _ _ _ (by rw [unhide zlen]; omega), val_drop_step, e1, unhide HV]
        exact over_step _ _ _ _
      case measure => simp [intOf]; omega
    · have hk1 : k = 0 := by omega
      have hr := rowAt_own hown hsm
      have hv : val xs / x = val zs ∧ val xs % x = n := by
        have h1 := unhide HV
        rw [hk1, List.drop_zero, List.drop_zero, unhide Vx] at h1
        rw [h1, Nat.mul_comm, Nat.mul_add_div hx0, Nat.div_eq_of_lt hn, Nat.mul_add_mod, Nat.mod_eq_of_lt hn]
        exact ⟨rfl, rfl⟩
      have HW := hide hv
      clear hv
      go_wp2_with fail
      refine (cut_same _ _ _ zs _ hr).mono ?_
      rintro e w' ⟨⟨a3, l3, c3, rfl, hnum, hl3, hsame⟩, rfl⟩
      have HS := hide hsame
      clear hsame
      go_wp2
      go_ret3
      exact ⟨a3, l3, c3, by rw [(unhide HW).2]; simp, by rw [(unhide HW).1]; exact hnum, hbel, own_typed hown (unhide HS)⟩

theorem over_yes (ao : Option Addr) (len cap : Nat) (xs : List Nat) (x : Nat) (w : World) (h : RowAt w ao len cap xs) (hlen : len ≤ 10000000) (hx0 : 0 < x) (hx : x < 4294967296) :
    Calls Try.prog 33 #[.slice ao len cap, .int .u32 (x : Int)] w fun e w' => ∃ ao' len' cap', e = .returned (.tuple #[.slice ao' len' cap', .int .u32 ((val xs % x : Nat) : Int), .bool true]) ∧ NumAt w' ao' len' cap' (val xs / x) ∧ Below w.heap.size w w' := by
  refine (over_typed ao len cap xs x w h hlen hx0 hx).mono ?_
  rintro e w' ⟨a, l, c, h1, h2, h3, _⟩
  exact ⟨a, l, c, h1, h2, h3⟩

theorem over_int (ao : Option Addr) (len cap : Nat) (xs : List Nat) (xi : Int) (x : Nat) (w : World) (hxi : xi = (x : Int)) (h : RowAt w ao len cap xs) (hlen : len ≤ 10000000) (hx0 : 0 < x) (hx : x < 4294967296) :
    Calls Try.prog 33 #[.slice ao len cap, .int .u32 xi] w fun e w' => ∃ ao' len' cap', e = .returned (.tuple #[.slice ao' len' cap', .int .u32 ((val xs % x : Nat) : Int), .bool true]) ∧ NumAt w' ao' len' cap' (val xs / x) ∧ Below w.heap.size w w' := by
  subst hxi
  exact over_yes ao len cap xs x w h hlen hx0 hx

/-- Both ways of Over in one. -/
theorem over_all (ao : Option Addr) (len cap : Nat) (xs : List Nat) (x A : Nat) (b : Bool) (y : Nat) (w : World) (h : RowAt w ao len cap xs) (hlen : len ≤ 10000000) (hx : x < 4294967296) (hA : val xs = A) (hb : b = decide (x ≠ 0)) (hy : y = if x = 0 then 0 else A % x) :
    Calls Try.prog 33 #[.slice ao len cap, .int .u32 (x : Int)] w fun e w' => ∃ ao' len' cap', e = .returned (.tuple #[.slice ao' len' cap', .int .u32 (y : Int), .bool b]) ∧ NumAt w' ao' len' cap' (A / x) ∧ Below w.heap.size w w' := by
  subst hA hb hy
  by_cases h0 : x = 0
  · subst h0
    refine (over_none ao len cap _ w rfl).mono ?_
    rintro e w' ⟨rfl, rfl⟩
    refine ⟨none, 0, 0, by simp, ?_, Below.refl _ _⟩
    rw [Nat.div_zero]
    exact numAt_nil _
  · rw [if_neg h0, decide_eq_true h0]
    exact over_yes ao len cap xs x w h hlen (by omega) hx

#print axioms over_yes
end Go.Proofs.Ytfjebgjhhojphaa
