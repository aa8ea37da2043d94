/-
 Package kernel's calls as the statements use them: of few rows of at most three limbs, of no rows, of rows in the form; what every program must know. (IN PARTS)
-/
import Derived.Test.YtkomdimalgnamaaGreatKOf
import Derived.Test.YtkomdimalgnamaaGreatJR
namespace Go.Proofs.YtkomdimalgnamaaGreat
open Go.RowKit Lb
set_option maxRecDepth 20000

def KerTo (ls : List (List Int)) (N B : Nat) (w : World) (e : Ending) (w' : World) : Prop := ∃ a1 m c1 q K, e = .returned (.tuple #[.slice a1 m c1, .int .i64 0]) ∧ MF w' a1 m c1 K B ∧ HForm K q ∧ Ker K ls N ∧ (∀ r ∈ K, r.length = N) ∧ (∃ hs p, HForm hs p ∧ SameL ls hs ∧ (∀ r ∈ hs, r.length = N) ∧ hs.length + m = N) ∧ Below w.heap.size w w'
theorem acrossK {ls : List (List Int)} {N B : Nat} {ao : Option Addr} {n cap : Nat} {x : Int} {w : World} (h : Calls Tryz.prog 82 #[.slice ao n cap, .int .i64 x] w fun e w' => KerTo ls N B w e w') : Calls Tryz.prog 54 #[.slice ao n cap, .int .i64 x] w fun e w' => KerTo ls N B w e w' :=
 (acrossOf (R := fun a1 m c1 z w' => KerTo ls N B w (.returned (.tuple #[.slice a1 m c1, .int .i64 z])) w') (h.mono fun e w' hk => by
  have hk' := hk;obtain ⟨a1, m, c1, q, K, rfl, r⟩ := hk';exact ⟨a1, m, c1, 0, rfl, hk⟩)).mono fun e w' hk => by
   obtain ⟨a1, m, c1, z, rfl, r⟩ := hk;exact r
theorem few_bounded {ls : List (List Int)} (hn : ls.length ≤ 4) (hA : ∀ i j, (ent ls i j).natAbs < Bp 3) : Bounded ls 36 := (bounded_few (n := 4) (a := 3) hn (by omega) (by omega) hA).up (by omega)
theorem mk_ent {w : World} {ao : Option Addr} {n cap k : Nat} {rs : List (List Int)} (h : MK w ao n cap rs k) (i j : Nat) : (ent rs i j).natAbs < Bp k := by
 by_cases hi : i < n
 ·obtain ⟨g, off, rfl⟩ := h.addr (by omega);obtain ⟨_, a, l, c, _, hv⟩ := RowsOf.at (R := fun w a l c zs => VK w a l c zs k) h hi;by_cases hj : j < l
  ·exact hv.lt hj
  ·unfold ent;rw [List.getD_eq_getElem?_getD (l := rs.getD i []), List.getElem?_eq_none (by rw [hv.len_eq]; omega)];have := Bp_pos k;simpa using this
 ·rw [ent_out (by rw [h.len_eq]; omega)];have := Bp_pos k;simpa using this
theorem kernelAny (ao : Option Addr) (n cap : Nat) (ls : List (List Int)) (N : Nat) (w : World) (h : MK w ao n cap ls 3) (hl : ∀ r ∈ ls, r.length = N) (h1 : 1 ≤ N) (h64 : N ≤ 64) (hn : n ≤ 4) (hc : N ≤ 9 ∨ n = 0) :
  Calls Tryz.prog 82 #[.slice ao n cap, .int .i64 (N : Int)] w fun e w' => KerTo ls N 76 w e w' := by
 have hlen := h.len_eq;have hA := mk_ent h;by_cases h9 : N ≤ 9
 ·refine (kernelOfK ao n cap ls 3 36 3 703 8 N w h hl h1 h64 (few_bounded (by omega) hA) (by omega) (by omega) (by omega) (by omega) (by omega) (fun hs p _ _ _ he _ M W hw => (wide_bounded hw (ent_turn_small he N) (by omega) (by omega)).up (by omega)) (by omega) (by omega) (by omega) (by omega)).mono ?_;rintro e w' ⟨a1, m, c1, q, K, rfl, k1, k2, k3, k4, k5, k6⟩;exact ⟨a1, m, c1, q, K, rfl, mf_low k1 fun i j => Nat.lt_of_lt_of_le (ker_small k2 k3 k4 hl (a := 3) (by omega) hA (by omega) i j) (Bp_le (by omega)), k2, k3, k4, k5, k6⟩
 ·have hn0 : n = 0 := by omega
  have hls : ls = [] := List.eq_nil_of_length_eq_zero (hlen.trans hn0);refine (kernelOfK ao n cap ls 3 36 3 1 63 N w h hl h1 h64 (few_bounded (by omega) hA) (by omega) (by omega) (by omega) (by omega) (by omega) (fun hs p _ _ _ _ hle M W hw => ?_) (by omega) (by omega) (by omega) (by omega)).mono ?_
  ·have hh : hs = [] := List.eq_nil_of_length_eq_zero (by omega);subst hh;exact hw.zero_bounded (fun i j => by
    by_cases hi : i < N
    ·rw [ent_turn _ hi]; exact ent_out (Nat.zero_le _)
    ·exact ent_out (by rw [vturn_len]; omega)) (by omega)
  ·rintro e w' ⟨a1, m, c1, q, K, rfl, k1, k2, k3, k4, k5, k6⟩;exact ⟨a1, m, c1, q, K, rfl, mf_up k1 (by omega), k2, k3, k4, k5, k6⟩
end Go.Proofs.YtkomdimalgnamaaGreat
