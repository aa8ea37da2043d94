/-
  What awake tells: true; and SameL of two rows of one number, told without noughts at the end: true.
-/
import Derived.Test.YtpcamgpdebedlaaAdd
import Derived.Test.YtpcamgpdebedlaaOver
import Derived.Test.YtpcamgpdebedlaaRefRead
import Derived.OpenShut
namespace Go.Proofs.Ytpcamgpdebedlaa
open Go.RowKit Lb

/-- A slice of limbs that came in. -/
theorem rowAt_of {w : World} {a : Option Addr} {len cap : Nat} {zs : List Int} (h : (a = none ∧ len = 0 ∧ cap = 0 ∧ zs = []) ∨
    ∃ x, a = some x ∧ len ≤ cap ∧ cap ≤ maxLen ∧ zs.length = cap ∧ (∀ i, i < zs.length → w.cell? (x.add i) = some (.int .u32 (zs.getD i 0))) ∧ ∀ n ∈ zs, (Lit.int .u32 n).wf = true) : ∃ xs, RowAt w a len cap xs := by
  rcases h with ⟨rfl, rfl, rfl, rfl⟩ | ⟨⟨b, off, spot⟩, rfl, hl, hm, hz, hcell, hwz⟩
  · exact ⟨[], rowAt_nil w⟩
  · have hbd : ∀ n ∈ zs, 0 ≤ n ∧ n ≤ 4294967295 := fun n hn => bounds_u32 (hwz n hn)
    refine ⟨(zs.take len).map Int.toNat, ⟨by simp; omega, hl, hm, fun e => by simp at e, small_of_mem ?_, fun hp => ?_⟩⟩
    · intro x hx
      obtain ⟨y, hy, rfl⟩ := List.mem_map.1 hx
      have := hbd y (List.mem_of_mem_take hy)
      omega
    · have hc := hcell 0 (by omega)
      obtain rfl : spot = none := by simpa [Addr.add] using World.cell?_spot hc
      refine ⟨b, off, rfl, ?_, fun i hi => ?_⟩
      · rcases Nat.lt_or_ge b w.heap.size with c | c
        · exact c
        · simp [Addr.add, World.cell?, Array.getElem?_eq_none c] at hc
      · have h1 := hcell i (by omega)
        rw [Addr.add_lit] at h1
        rw [h1]
        have h2 : i < zs.length := by omega
        have h3 := hbd (zs[i]) (List.getElem_mem h2)
        have e : lim ((zs.take len).map Int.toNat) i = (zs[i]).toNat := by simp [lim, hi, h2]
        rw [e]
        simp only [List.getD_eq_getElem?_getD, List.getElem?_eq_getElem h2, Option.getD_some]
        congr 2
        omega

theorem same_true (aa : Option Addr) (la ca : Nat) (ab : Option Addr) (lb cb : Nat) (N : Nat) (w : World) (ha : NumAt w aa la ca N) (hb : NumAt w ab lb cb N) :
    Calls Try.prog 11 #[.slice aa la ca, .slice ab lb cb] w fun e w' => e = .returned (.bool true) ∧ Below w.heap.size w w' := by
  obtain ⟨xs, hx, nx, vx⟩ := ha
  obtain ⟨ys, hy, ny, vy⟩ := hb
  refine (same_any aa la ca xs ab lb cb ys w hx hy).mono ?_
  rintro e w' ⟨rfl, hbel⟩
  refine ⟨?_, hbel⟩
  rw [decide_eq_true (norm_inj hx.small hy.small nx ny (vx.trans vy.symm))]

theorem rowAt_lit {w : World} {cs : List Nat} (n : Nat) (hn : cs.length = n) (hn2 : n ≤ 1000) (hs : Small cs) : RowAt (w.alloc (.cells (cs.map lv).toArray 31)) (some ⟨w.heap.size, 0, none⟩) n n cs := by
  refine ⟨hn, Nat.le_refl _, by unfold maxLen; omega, fun h => by simp at h, hs, fun _ => ⟨_, _, rfl, by simp, fun i hi => ?_⟩⟩
  simp [lim, lv, show i < cs.length by omega]

theorem rowAt_two {w : World} {e f : Int} (a b : Nat) (he : e = (a : Int)) (hf : f = (b : Int)) (ha : a < 4294967296) (hb : b < 4294967296) : RowAt (w.alloc (.cells #[.int .u32 e, .int .u32 f] 31)) (some ⟨w.heap.size, 0, none⟩) 2 2 [a, b] := by
  subst he hf
  exact rowAt_lit (cs := [a, b]) 2 rfl (by omega) (small_of_mem (by simp [ha, hb]))

theorem val_one (a : Nat) : val [a] = a := by simp [val, pre, lim, Bp]
theorem val_two (a b : Nat) : val [a, b] = a + b * 4294967296 := by simp [val, pre, lim, Bp]
theorem norm_one {a : Nat} (h : a ≠ 0) : Norm [a] := fun _ => by simpa [lim] using h
theorem norm_two {a b : Nat} (h : b ≠ 0) : Norm [a, b] := fun _ => by simpa [lim] using h

set_option maxHeartbeats 400000 in
theorem awake_any (w : World) : Calls Try.prog 8 #[] w fun e w' => e = .returned (.bool true) ∧ Below w.heap.size w w' := by
  go_enter Try.func8, Try.ntmps8
  go_wp2_with fail
  have h1 : RowAt (w.alloc (.cells #[.int .u32 0, .int .u32 1] 31)) (some ⟨w.heap.size, 0, none⟩) 2 2 [0, 1] := rowAt_two 0 1 rfl rfl (by omega) (by omega)
  have k1 := over_int _ _ _ [0, 1] 10 10 _ rfl h1 (by omega) (by omega) (by omega)
  rw [val_two, show (0 + 1 * 4294967296) % 10 = 6 from rfl, show (0 + 1 * 4294967296) / 10 = 429496729 from rfl] at k1
  refine k1.mono ?_
  rintro e w1 ⟨a1, l1, c1, rfl, hn1, hb1⟩
  clear k1 h1
  go_wp2_with fail
  have hbA := (Below.refl w1.heap.size w1).alloc (Nat.le_refl _) (.cells #[.int .u32 4294967295] 31)
  have hbB := hbA.alloc (by simp) (.cells #[.int .u32 1] 31)
  have h2 : RowAt ((w1.alloc (.cells #[.int .u32 4294967295] 31)).alloc (.cells #[.int .u32 1] 31)) (some ⟨w1.heap.size, 0, none⟩) 1 1 [4294967295] :=
    (rowAt_one (w := w1) (v := 4294967295) rfl (by omega)).later ((Below.refl _ _).alloc (Nat.le_refl _) _)
  have h3 : RowAt ((w1.alloc (.cells #[.int .u32 4294967295] 31)).alloc (.cells #[.int .u32 1] 31)) (some ⟨w1.heap.size + 1, 0, none⟩) 1 1 [1] := by
    have := rowAt_one (w := w1.alloc (.cells #[.int .u32 4294967295] 31)) (v := 1) rfl (by omega)
    simpa using this
  have k2 := add_any _ _ _ _ _ _ _ _ _ h2 h3 (by omega) (by omega)
  rw [val_one, val_one, show 4294967295 + 1 = 4294967296 from rfl] at k2
  refine k2.mono ?_
  rintro e w2 ⟨a2, l2, c2, rfl, hn2, hb2⟩
  have hb12 : Below w1.heap.size w1 w2 := hbB.trans (hb2.mono (by simp; omega))
  clear k2 h2 h3 hbA hbB hb2
  go_wp2_with fail
  have h4 : NumAt (w2.alloc (.cells #[.int .u32 0, .int .u32 1] 31)) (some ⟨w2.heap.size, 0, none⟩) 2 2 4294967296 := ⟨[0, 1], rowAt_two 0 1 rfl rfl (by omega) (by omega), norm_two (by omega), by rw [val_two]⟩
  refine (same_true _ _ _ _ _ _ 4294967296 _ (hn2.later ((Below.refl _ _).alloc (Nat.le_refl _) _)) h4).mono ?_
  rintro e w3 ⟨rfl, hb3⟩
  have hb23 : Below w2.heap.size w2 w3 := ((Below.refl _ _).alloc (Nat.le_refl _) _).trans (hb3.mono (by simp))
  clear h4 hb3
  go_wp2_with fail
  have h5 : NumAt (w3.alloc (.cells #[.int .u32 429496729] 31)) (some ⟨w3.heap.size, 0, none⟩) 1 1 429496729 := ⟨[429496729], rowAt_one rfl (by omega), norm_one (by omega), by rw [val_one]⟩
  refine (same_true _ _ _ _ _ _ 429496729 _ (((hn1.later hb12).later hb23).later ((Below.refl _ _).alloc (Nat.le_refl _) _)) h5).mono ?_
  rintro e w4 ⟨rfl, hb4⟩
  have hb34 : Below w3.heap.size w3 w4 := ((Below.refl _ _).alloc (Nat.le_refl _) _).trans (hb4.mono (by simp))
  clear h5 hb4
  go_wp2_with fail
  go_ret
  have hb01 : Below w.heap.size w w1 := ((Below.refl _ _).alloc (Nat.le_refl _) _).trans (hb1.mono (by simp))
  have s1 := hb01.size
  have s2 := hb12.size
  have s3 := hb23.size
  exact ⟨rfl, ((hb01.trans (hb12.mono s1)).trans (hb23.mono (by omega))).trans (hb34.mono (by omega))⟩

#print axioms awake_any
end Go.Proofs.Ytpcamgpdebedlaa
