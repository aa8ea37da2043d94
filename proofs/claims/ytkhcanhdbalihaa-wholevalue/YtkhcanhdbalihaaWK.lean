/-
  The contracts of package whole and of the reference's Ints with how many limbs a number has at most (IN PARTS): 'IK' (an Int of whatever form, below so many limbs), 'FK' (in its one form).
-/
import Derived.Test.YtkhcanhdbalihaaWForm
import Derived.Test.YtkhcanhdbalihaaWNeg
import Derived.Test.YtkhcanhdbalihaaWAdd
import Derived.Test.YtkhcanhdbalihaaWMul
import Derived.Test.YtkhcanhdbalihaaWCmp
import Derived.Test.YtkhcanhdbalihaaWSame
import Derived.Test.YtkhcanhdbalihaaWOf
import Derived.Test.YtkhcanhdbalihaaWSmall
namespace Go.Proofs.Ytkhcanhdbalihaa
open Go.RowKit Lb

/-- An Int that reads as z, whose limbs the calls can go through, z below k limbs. -/
def IK (w : World) (b : Bool) (ao : Option Addr) (len cap : Nat) (z : Int) (k : Nat) : Prop := IntAt w b ao len cap z ∧ len ≤ 999990 ∧ z.natAbs < Bp k
/-- .. in its one form. -/
def FK (w : World) (b : Bool) (ao : Option Addr) (len cap : Nat) (z : Int) (k : Nat) : Prop := FormAt w b ao len cap z ∧ z.natAbs < Bp k
theorem IK.later {w w' : World} {b : Bool} {ao : Option Addr} {len cap k : Nat} {z : Int} (h : IK w b ao len cap z k) (hb : Below w.heap.size w w') : IK w' b ao len cap z k := ⟨h.1.later hb, h.2⟩
theorem FK.later {w w' : World} {b : Bool} {ao : Option Addr} {len cap k : Nat} {z : Int} (h : FK w b ao len cap z k) (hb : Below w.heap.size w w') : FK w' b ao len cap z k := ⟨h.1.later hb, h.2⟩
theorem FK.ik {w : World} {b : Bool} {ao : Option Addr} {len cap k : Nat} {z : Int} (h : FK w b ao len cap z k) (hk : k ≤ 999990) : IK w b ao len cap z k := ⟨h.1.int, Nat.le_trans (h.1.len_le h.2) hk, h.2⟩
theorem ik_of {w : World} {b : Bool} {ao : Option Addr} {len cap k : Nat} {z : Int} (h : IntAt w b ao len cap z) (hl : len ≤ k) (hk : k ≤ 999990) : IK w b ao len cap z k := ⟨h, Nat.le_trans hl hk, h.lt hl⟩
theorem FK.le {w : World} {b : Bool} {ao : Option Addr} {len cap k l : Nat} {z : Int} (h : FK w b ao len cap z k) (hl : z.natAbs < Bp l) : FK w b ao len cap z l := ⟨h.1, hl⟩
theorem FK.eq {w : World} {b : Bool} {ao : Option Addr} {len cap k : Nat} {z z' : Int} (h : FK w b ao len cap z k) (e : z = z') : FK w b ao len cap z' k := e ▸ h
theorem abs_mul_lt {x y : Int} {k l : Nat} (hx : x.natAbs < Bp k) (hy : y.natAbs < Bp l) : (x * y).natAbs < Bp (k + l) := by
  rw [Int.natAbs_mul]; exact prod_lt hx hy
theorem abs_add_lt {x y : Int} {k l : Nat} (hx : x.natAbs < Bp k) (hy : y.natAbs < Bp l) : (x + y).natAbs < Bp (max k l + 1) := by
  have := sum_lt (m := max k l + 1) hx hy (by omega) (by omega)
  omega
theorem abs_sub_lt {x y : Int} {k l : Nat} (hx : x.natAbs < Bp k) (hy : y.natAbs < Bp l) : (x - y).natAbs < Bp (max k l + 1) := by
  have := sum_lt (m := max k l + 1) hx hy (by omega) (by omega)
  omega

theorem addK (b : Bool) (aa : Option Addr) (la ca : Nat) (x : Int) (k : Nat) (b' : Bool) (ab : Option Addr) (lb cb : Nat) (y : Int) (l : Nat) (w : World) (hx : IK w b aa la ca x k) (hy : IK w b' ab lb cb y l) : Calls Try.prog 25 #[.agg #[.bool b, .slice aa la ca], .agg #[.bool b', .slice ab lb cb]] w fun e w' => ∃ c ao' len' cap', e = .returned (.agg #[.bool c, .slice ao' len' cap']) ∧ FK w' c ao' len' cap' (x + y) (max k l + 1) ∧ Below w.heap.size w w' := by
  refine (iadd_num _ _ _ _ x _ _ _ _ y _ hx.1 hy.1 (Nat.le_trans hx.2.1 (by omega)) (Nat.le_trans hy.2.1 (by omega))).mono ?_
  rintro e w' ⟨c, ao', len', cap', rfl, h, hb⟩
  exact ⟨_, _, _, _, rfl, ⟨h, abs_add_lt hx.2.2 hy.2.2⟩, hb⟩
theorem raddK (b : Bool) (aa : Option Addr) (la ca : Nat) (x : Int) (k : Nat) (b' : Bool) (ab : Option Addr) (lb cb : Nat) (y : Int) (l : Nat) (w : World) (hx : IK w b aa la ca x k) (hy : IK w b' ab lb cb y l) : Calls Try.prog 26 #[.agg #[.bool b, .slice aa la ca], .agg #[.bool b', .slice ab lb cb]] w fun e w' => ∃ c ao' len' cap', e = .returned (.agg #[.bool c, .slice ao' len' cap']) ∧ FK w' c ao' len' cap' (x + y) (max k l + 1) ∧ Below w.heap.size w w' := by
  refine (riadd_num _ _ _ _ x _ _ _ _ y _ hx.1 hy.1 (Nat.le_trans hx.2.1 (by omega)) (Nat.le_trans hy.2.1 (by omega))).mono ?_
  rintro e w' ⟨c, ao', len', cap', rfl, h, hb⟩
  exact ⟨_, _, _, _, rfl, ⟨h, abs_add_lt hx.2.2 hy.2.2⟩, hb⟩
theorem subK (b : Bool) (aa : Option Addr) (la ca : Nat) (x : Int) (k : Nat) (b' : Bool) (ab : Option Addr) (lb cb : Nat) (y : Int) (l : Nat) (w : World) (hx : IK w b aa la ca x k) (hy : IK w b' ab lb cb y l) : Calls Try.prog 27 #[.agg #[.bool b, .slice aa la ca], .agg #[.bool b', .slice ab lb cb]] w fun e w' => ∃ c ao' len' cap', e = .returned (.agg #[.bool c, .slice ao' len' cap']) ∧ FK w' c ao' len' cap' (x - y) (max k l + 1) ∧ Below w.heap.size w w' := by
  refine (isub_num _ _ _ _ x _ _ _ _ y _ hx.1 hy.1 (Nat.le_trans hx.2.1 (by omega)) (Nat.le_trans hy.2.1 (by omega))).mono ?_
  rintro e w' ⟨c, ao', len', cap', rfl, h, hb⟩
  exact ⟨_, _, _, _, rfl, ⟨h, abs_sub_lt hx.2.2 hy.2.2⟩, hb⟩
theorem rsubK (b : Bool) (aa : Option Addr) (la ca : Nat) (x : Int) (k : Nat) (b' : Bool) (ab : Option Addr) (lb cb : Nat) (y : Int) (l : Nat) (w : World) (hx : IK w b aa la ca x k) (hy : IK w b' ab lb cb y l) : Calls Try.prog 28 #[.agg #[.bool b, .slice aa la ca], .agg #[.bool b', .slice ab lb cb]] w fun e w' => ∃ c ao' len' cap', e = .returned (.agg #[.bool c, .slice ao' len' cap']) ∧ FK w' c ao' len' cap' (x - y) (max k l + 1) ∧ Below w.heap.size w w' := by
  refine (risub_num _ _ _ _ x _ _ _ _ y _ hx.1 hy.1 (Nat.le_trans hx.2.1 (by omega)) (Nat.le_trans hy.2.1 (by omega))).mono ?_
  rintro e w' ⟨c, ao', len', cap', rfl, h, hb⟩
  exact ⟨_, _, _, _, rfl, ⟨h, abs_sub_lt hx.2.2 hy.2.2⟩, hb⟩
theorem mulK (b : Bool) (aa : Option Addr) (la ca : Nat) (x : Int) (k : Nat) (b' : Bool) (ab : Option Addr) (lb cb : Nat) (y : Int) (l : Nat) (w : World) (hx : IK w b aa la ca x k) (hy : IK w b' ab lb cb y l) : Calls Try.prog 29 #[.agg #[.bool b, .slice aa la ca], .agg #[.bool b', .slice ab lb cb]] w fun e w' => ∃ c ao' len' cap', e = .returned (.agg #[.bool c, .slice ao' len' cap']) ∧ FK w' c ao' len' cap' (x * y) (k + l) ∧ Below w.heap.size w w' := by
  refine (imul_num _ _ _ _ x _ _ _ _ y _ hx.1 hy.1 (Nat.le_trans hx.2.1 (by omega)) (Nat.le_trans hy.2.1 (by omega))).mono ?_
  rintro e w' ⟨c, ao', len', cap', rfl, h, hb⟩
  exact ⟨_, _, _, _, rfl, ⟨h, abs_mul_lt hx.2.2 hy.2.2⟩, hb⟩
theorem rmulK (b : Bool) (aa : Option Addr) (la ca : Nat) (x : Int) (k : Nat) (b' : Bool) (ab : Option Addr) (lb cb : Nat) (y : Int) (l : Nat) (w : World) (hx : IK w b aa la ca x k) (hy : IK w b' ab lb cb y l) (hkl : la + lb ≤ 1000000) : Calls Try.prog 30 #[.agg #[.bool b, .slice aa la ca], .agg #[.bool b', .slice ab lb cb]] w fun e w' => ∃ c ao' len' cap', e = .returned (.agg #[.bool c, .slice ao' len' cap']) ∧ FK w' c ao' len' cap' (x * y) (k + l) ∧ Below w.heap.size w w' := by
  refine (rimul_num _ _ _ _ x _ _ _ _ y _ hx.1 hy.1 (Nat.le_trans hx.2.1 (by omega)) (Nat.le_trans hy.2.1 (by omega)) hkl).mono ?_
  rintro e w' ⟨c, ao', len', cap', rfl, h, hb⟩
  exact ⟨_, _, _, _, rfl, ⟨h, abs_mul_lt hx.2.2 hy.2.2⟩, hb⟩
theorem formK (b : Bool) (aa : Option Addr) (la ca : Nat) (x : Int) (k : Nat) (w : World) (hx : IK w b aa la ca x k) : Calls Try.prog 15 #[.agg #[.bool b, .slice aa la ca]] w fun e w' => ∃ c ao' len' cap', e = .returned (.agg #[.bool c, .slice ao' len' cap']) ∧ FK w' c ao' len' cap' x k ∧ Below w.heap.size w w' := by
  refine (form_num _ _ _ _ x _ hx.1 (Nat.le_trans hx.2.1 (by omega))).mono ?_
  rintro e w' ⟨c, ao', len', cap', rfl, h, hb⟩
  exact ⟨_, _, _, _, rfl, ⟨h, hx.2.2⟩, hb⟩
theorem rformK (b : Bool) (aa : Option Addr) (la ca : Nat) (x : Int) (k : Nat) (w : World) (hx : IK w b aa la ca x k) : Calls Try.prog 12 #[.agg #[.bool b, .slice aa la ca]] w fun e w' => ∃ c ao' len' cap', e = .returned (.agg #[.bool c, .slice ao' len' cap']) ∧ FK w' c ao' len' cap' x k ∧ Below w.heap.size w w' := by
  refine (rform_num _ _ _ _ x _ hx.1 (Nat.le_trans hx.2.1 (by omega))).mono ?_
  rintro e w' ⟨c, ao', len', cap', rfl, h, hb⟩
  exact ⟨_, _, _, _, rfl, ⟨h, hx.2.2⟩, hb⟩
theorem negK (b : Bool) (aa : Option Addr) (la ca : Nat) (x : Int) (k : Nat) (w : World) (hx : IK w b aa la ca x k) : Calls Try.prog 18 #[.agg #[.bool b, .slice aa la ca]] w fun e w' => ∃ c ao' len' cap', e = .returned (.agg #[.bool c, .slice ao' len' cap']) ∧ FK w' c ao' len' cap' (-x) k ∧ Below w.heap.size w w' := by
  refine (neg_num _ _ _ _ x _ hx.1 (Nat.le_trans hx.2.1 (by omega))).mono ?_
  rintro e w' ⟨c, ao', len', cap', rfl, h, hb⟩
  exact ⟨_, _, _, _, rfl, ⟨h, by rw [Int.natAbs_neg]; exact hx.2.2⟩, hb⟩
theorem rnegK (b : Bool) (aa : Option Addr) (la ca : Nat) (x : Int) (k : Nat) (w : World) (hx : IK w b aa la ca x k) : Calls Try.prog 19 #[.agg #[.bool b, .slice aa la ca]] w fun e w' => ∃ c ao' len' cap', e = .returned (.agg #[.bool c, .slice ao' len' cap']) ∧ FK w' c ao' len' cap' (-x) k ∧ Below w.heap.size w w' := by
  refine (rneg_num _ _ _ _ x _ hx.1 (Nat.le_trans hx.2.1 (by omega))).mono ?_
  rintro e w' ⟨c, ao', len', cap', rfl, h, hb⟩
  exact ⟨_, _, _, _, rfl, ⟨h, by rw [Int.natAbs_neg]; exact hx.2.2⟩, hb⟩
theorem absK (b : Bool) (aa : Option Addr) (la ca : Nat) (x : Int) (k : Nat) (w : World) (hx : IK w b aa la ca x k) : Calls Try.prog 20 #[.agg #[.bool b, .slice aa la ca]] w fun e w' => ∃ c ao' len' cap', e = .returned (.agg #[.bool c, .slice ao' len' cap']) ∧ FK w' c ao' len' cap' (x.natAbs : Int) k ∧ Below w.heap.size w w' := by
  refine (abs_num _ _ _ _ x _ hx.1 (Nat.le_trans hx.2.1 (by omega))).mono ?_
  rintro e w' ⟨c, ao', len', cap', rfl, h, hb⟩
  exact ⟨_, _, _, _, rfl, ⟨h, by rw [Int.natAbs_natCast]; exact hx.2.2⟩, hb⟩
theorem rabsK (b : Bool) (aa : Option Addr) (la ca : Nat) (x : Int) (k : Nat) (w : World) (hx : IK w b aa la ca x k) : Calls Try.prog 21 #[.agg #[.bool b, .slice aa la ca]] w fun e w' => ∃ c ao' len' cap', e = .returned (.agg #[.bool c, .slice ao' len' cap']) ∧ FK w' c ao' len' cap' (x.natAbs : Int) k ∧ Below w.heap.size w w' := by
  refine (rabs_num _ _ _ _ x _ hx.1 (Nat.le_trans hx.2.1 (by omega))).mono ?_
  rintro e w' ⟨c, ao', len', cap', rfl, h, hb⟩
  exact ⟨_, _, _, _, rfl, ⟨h, by rw [Int.natAbs_natCast]; exact hx.2.2⟩, hb⟩
theorem signK (b : Bool) (aa : Option Addr) (la ca : Nat) (x : Int) (k : Nat) (s : Int) (w : World) (hx : IK w b aa la ca x k) (hs : s = x.sign) : Calls Try.prog 16 #[.agg #[.bool b, .slice aa la ca]] w fun e w' => e = .returned (.int .i64 s) ∧ Below w.heap.size w w' := by
  subst hs
  exact sign_num _ _ _ _ x _ hx.1 (Nat.le_trans hx.2.1 (by omega))
theorem rsignK (b : Bool) (aa : Option Addr) (la ca : Nat) (x : Int) (k : Nat) (s : Int) (w : World) (hx : IK w b aa la ca x k) (hs : s = x.sign) : Calls Try.prog 17 #[.agg #[.bool b, .slice aa la ca]] w fun e w' => e = .returned (.int .i64 s) ∧ Below w.heap.size w w' := by
  subst hs
  exact rsign_num _ _ _ _ x _ hx.1 (Nat.le_trans hx.2.1 (by omega))
theorem cmpK (b : Bool) (aa : Option Addr) (la ca : Nat) (x : Int) (k : Nat) (b' : Bool) (ab : Option Addr) (lb cb : Nat) (y : Int) (l : Nat) (s : Int) (w : World) (hx : IK w b aa la ca x k) (hy : IK w b' ab lb cb y l) (hs : s = (x - y).sign) : Calls Try.prog 22 #[.agg #[.bool b, .slice aa la ca], .agg #[.bool b', .slice ab lb cb]] w fun e w' => e = .returned (.int .i64 s) ∧ Below w.heap.size w w' := by
  subst hs
  exact icmp_num _ _ _ _ x _ _ _ _ y _ hx.1 hy.1 (Nat.le_trans hx.2.1 (by omega)) (Nat.le_trans hy.2.1 (by omega))
theorem rcmpK (b : Bool) (aa : Option Addr) (la ca : Nat) (x : Int) (k : Nat) (b' : Bool) (ab : Option Addr) (lb cb : Nat) (y : Int) (l : Nat) (s : Int) (w : World) (hx : IK w b aa la ca x k) (hy : IK w b' ab lb cb y l) (hs : s = (x - y).sign) : Calls Try.prog 23 #[.agg #[.bool b, .slice aa la ca], .agg #[.bool b', .slice ab lb cb]] w fun e w' => e = .returned (.int .i64 s) ∧ Below w.heap.size w w' := by
  subst hs
  exact ricmp_num _ _ _ _ x _ _ _ _ y _ hx.1 hy.1 (Nat.le_trans hx.2.1 (by omega)) (Nat.le_trans hy.2.1 (by omega))
theorem sameK (b : Bool) (aa : Option Addr) (la ca : Nat) (x : Int) (k : Nat) (b' : Bool) (ab : Option Addr) (lb cb : Nat) (y : Int) (l : Nat) (q : Bool) (w : World) (hx : IK w b aa la ca x k) (hy : IK w b' ab lb cb y l) (hq : q = decide (x = y)) : Calls Try.prog 24 #[.agg #[.bool b, .slice aa la ca], .agg #[.bool b', .slice ab lb cb]] w fun e w' => e = .returned (.bool q) ∧ Below w.heap.size w w' := by
  subst hq
  exact isame_num _ _ _ _ x _ _ _ _ y _ hx.1 hy.1 (Nat.le_trans hx.2.1 (by omega)) (Nat.le_trans hy.2.1 (by omega))
theorem rsameK (b : Bool) (aa : Option Addr) (la ca : Nat) (x : Int) (k : Nat) (b' : Bool) (ab : Option Addr) (lb cb : Nat) (y : Int) (l : Nat) (w : World) (hx : FK w b aa la ca x k) (hy : FK w b' ab lb cb y l) (e0 : x = y) : Calls Try.prog 13 #[.agg #[.bool b, .slice aa la ca], .agg #[.bool b', .slice ab lb cb]] w fun e w' => e = .returned (.bool true) ∧ Below w.heap.size w w' := by
  subst e0
  exact rsame_true _ _ _ _ x _ _ _ _ _ hx.1 hy.1
theorem rsameB (b : Bool) (aa : Option Addr) (la ca : Nat) (x : Int) (k : Nat) (b' : Bool) (ab : Option Addr) (lb cb : Nat) (y : Int) (l : Nat) (q : Bool) (w : World) (hx : FK w b aa la ca x k) (hy : FK w b' ab lb cb y l) (hq : q = decide (x = y)) : Calls Try.prog 13 #[.agg #[.bool b, .slice aa la ca], .agg #[.bool b', .slice ab lb cb]] w fun e w' => e = .returned (.bool q) ∧ Below w.heap.size w w' := by
  subst hq
  exact rsame_num _ _ _ _ x _ _ _ _ _ _ hx.1 hy.1
theorem abs_int_lt {n : Int} (h1 : -9223372036854775808 ≤ n) (h2 : n ≤ 9223372036854775807) : n.natAbs < Bp 2 := by
  rw [show Bp 2 = 18446744073709551616 from rfl]; omega
theorem ofK (n : Int) (w : World) (h1 : -9223372036854775808 ≤ n) (h2 : n ≤ 9223372036854775807) : Calls Try.prog 10 #[.int .i64 n] w fun e w' => ∃ c ao' len' cap', e = .returned (.agg #[.bool c, .slice ao' len' cap']) ∧ FK w' c ao' len' cap' n 2 ∧ Below w.heap.size w w' := by
  refine (of_num n w h1 h2).mono ?_
  rintro e w' ⟨c, ao', len', cap', rfl, h, hb⟩
  exact ⟨_, _, _, _, rfl, ⟨h, abs_int_lt h1 h2⟩, hb⟩
theorem rofK (n : Int) (w : World) (h1 : -9223372036854775808 ≤ n) (h2 : n ≤ 9223372036854775807) : Calls Try.prog 14 #[.int .i64 n] w fun e w' => ∃ c ao' len' cap', e = .returned (.agg #[.bool c, .slice ao' len' cap']) ∧ FK w' c ao' len' cap' n 2 ∧ Below w.heap.size w w' := by
  refine (rof_num n w h1 h2).mono ?_
  rintro e w' ⟨c, ao', len', cap', rfl, h, hb⟩
  exact ⟨_, _, _, _, rfl, ⟨h, abs_int_lt h1 h2⟩, hb⟩
theorem smallK (b : Bool) (aa : Option Addr) (la ca : Nat) (x : Int) (k : Nat) (w : World) (hx : IK w b aa la ca x k) (h1 : -9223372036854775808 ≤ x) (h2 : x ≤ 9223372036854775807) : Calls Try.prog 11 #[.agg #[.bool b, .slice aa la ca]] w fun e w' => e = .returned (.tuple #[.int .i64 x, .bool true]) ∧ Below w.heap.size w w' :=
  small_yes _ _ _ _ x _ hx.1 (Nat.le_trans hx.2.1 (by omega)) h1 h2
theorem smallN (b : Bool) (aa : Option Addr) (la ca : Nat) (x : Int) (k : Nat) (w : World) (hx : IK w b aa la ca x k) (h1 : x < -9223372036854775808 ∨ 9223372036854775807 < x) : Calls Try.prog 11 #[.agg #[.bool b, .slice aa la ca]] w fun e w' => e = .returned (.tuple #[.int .i64 0, .bool false]) ∧ Below w.heap.size w w' :=
  small_no _ _ _ _ x _ hx.1 (Nat.le_trans hx.2.1 (by omega)) h1

#print axioms addK
#print axioms rmulK
#print axioms sameK
#print axioms rsameB
#print axioms smallN
end Go.Proofs.Ytkhcanhdbalihaa
