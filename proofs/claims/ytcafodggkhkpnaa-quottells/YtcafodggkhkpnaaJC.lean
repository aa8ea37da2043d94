/-
  Plain mathematics of decimal digits, with no program in it.
-/
import Derived.Test.YtcafodggkhkpnaaJA
import Derived.Laws.BytesArg
import Derived.Laws.IdiomStrings
import Derived.Laws.DeepStrings4
import Derived.Deep.RegionWith
import Derived.Deep.CutRange
import Derived.Deep.LoopGhost
namespace Go.Proofs.Ytcafodggkhkpnaa.Lb

/-- Digit number i of N, the lowest is number 0. -/
def dig (N i : Nat) : Nat := N / 10 ^ i % 10
/-- The signs of the lowest n digits, the highest of them first. -/
def sgn (N : Nat) : Nat → List Nat
  | 0 => []
  | k + 1 => (48 + dig N k) :: sgn N k
/-- N has n digits. -/
def IsLen (N n : Nat) : Prop := 1 ≤ n ∧ N < 10 ^ n ∧ (n = 1 ∨ 10 ^ (n - 1) ≤ N)
/-- The number of signs. -/
def ofS (l : List Nat) : Nat := l.foldl (fun n c => 10 * n + (c - 48)) 0
def isD (c : Nat) : Bool := decide (48 ≤ c) && decide (c ≤ 57)
def okD (l : List Nat) : Bool := l.all isD
/-- What a text tells: is it a number, and which. -/
def okS (l : List Nat) : Bool := decide (1 ≤ l.length) && decide (l.length ≤ 4096) && okD l
def numS (l : List Nat) : Nat := if okS l then ofS l else 0

theorem dig_lt (N i : Nat) : dig N i < 10 := Nat.mod_lt _ (by omega)
theorem isD_iff (c : Nat) : isD c = true ↔ 48 ≤ c ∧ c ≤ 57 := by simp [isD]
theorem okD_nil : okD [] = true := rfl
theorem okD_snoc (l : List Nat) (c : Nat) : okD (l ++ [c]) = (okD l && isD c) := by simp [okD]
theorem okD_append (l m : List Nat) : okD (l ++ m) = (okD l && okD m) := by simp [okD]
theorem okD_cons (c : Nat) (l : List Nat) : okD (c :: l) = (isD c && okD l) := by simp [okD]
theorem fold_up (l : List Nat) (a : Nat) : l.foldl (fun n c => 10 * n + (c - 48)) a = a * 10 ^ l.length + ofS l := by
  unfold ofS
  induction l generalizing a with
  | nil => simp
  | cons c l ih =>
    rw [List.foldl_cons, List.foldl_cons, ih, ih (10 * 0 + (c - 48)), List.length_cons, Nat.pow_succ, Nat.add_mul, Nat.add_assoc]
    congr 1
    · rw [Nat.mul_comm (10 ^ l.length) 10, ← Nat.mul_assoc, Nat.mul_comm 10 a]
    · simp
theorem ofS_nil : ofS [] = 0 := rfl
theorem ofS_cons (c : Nat) (l : List Nat) : ofS (c :: l) = (c - 48) * 10 ^ l.length + ofS l := by
  have := fold_up l (10 * 0 + (c - 48))
  unfold ofS at *
  rw [List.foldl_cons, this]
  simp
theorem ofS_append (l m : List Nat) : ofS (l ++ m) = ofS l * 10 ^ m.length + ofS m := by
  have := fold_up m (ofS l)
  unfold ofS at *
  rw [List.foldl_append, this]
theorem ofS_snoc (l : List Nat) (c : Nat) : ofS (l ++ [c]) = ofS l * 10 + (c - 48) := by
  rw [ofS_append, ofS_cons, ofS_nil]; simp
theorem ofS_lt {l : List Nat} (h : okD l = true) : ofS l < 10 ^ l.length := by
  induction l with
  | nil => simp [ofS_nil]
  | cons c l ih =>
    rw [okD_cons, Bool.and_eq_true, isD_iff] at h
    have h1 := ih h.2
    have h2 : (c - 48) * 10 ^ l.length ≤ 9 * 10 ^ l.length := Nat.mul_le_mul_right _ (by omega)
    rw [ofS_cons, List.length_cons, Nat.pow_succ]
    omega
theorem sgn_length (N n : Nat) : (sgn N n).length = n := by
  induction n with
  | zero => rfl
  | succ n ih => simp [sgn, ih]
theorem sgn_ok (N n : Nat) : okD (sgn N n) = true := by
  induction n with
  | zero => rfl
  | succ n ih =>
    have := dig_lt N n
    rw [sgn, okD_cons, ih, Bool.and_true, isD_iff]; omega
theorem mod_more (N n : Nat) : N % 10 ^ (n + 1) = dig N n * 10 ^ n + N % 10 ^ n := by
  rw [Nat.mod_pow_succ, Nat.mul_comm, Nat.add_comm]; rfl
theorem ofS_sgn (N n : Nat) : ofS (sgn N n) = N % 10 ^ n := by
  induction n with
  | zero => simp [sgn, ofS_nil, Nat.mod_one]
  | succ n ih => rw [sgn, ofS_cons, ih, sgn_length, mod_more]; simp
theorem lim_sgn (N : Nat) {n i : Nat} (h : i < n) : lim (sgn N n) i = 48 + dig N (n - 1 - i) := by
  induction n generalizing i with
  | zero => omega
  | succ n ih =>
    cases i with
    | zero => simp [lim, sgn]
    | succ i =>
      have := ih (i := i) (by omega)
      simp only [lim, sgn] at this ⊢
      rw [List.getD_cons_succ, this]
      congr 2; omega
theorem isLen_inj {N a b : Nat} (ha : IsLen N a) (hb : IsLen N b) : a = b := by
  obtain ⟨a1, a2, a3⟩ := ha
  obtain ⟨b1, b2, b3⟩ := hb
  rcases Nat.lt_trichotomy a b with h | h | h
  · exfalso
    rcases b3 with b3 | b3
    · omega
    · have := Nat.pow_le_pow_right (n := 10) (by omega) (show a ≤ b - 1 by omega)
      omega
  · exact h
  · exfalso
    rcases a3 with a3 | a3
    · omega
    · have := Nat.pow_le_pow_right (n := 10) (by omega) (show b ≤ a - 1 by omega)
      omega
theorem isLen_le {N n k : Nat} (h : IsLen N n) (hk : 1 ≤ k) (hN : N < 10 ^ k) : n ≤ k := by
  obtain ⟨a1, a2, a3⟩ := h
  rcases Nat.lt_or_ge k n with c | c
  · exfalso
    rcases a3 with a3 | a3
    · omega
    · have := Nat.pow_le_pow_right (n := 10) (by omega) (show k ≤ n - 1 by omega)
      omega
  · exact c
theorem isLen_zero : IsLen 0 1 := ⟨by omega, by omega, Or.inl rfl⟩
/-- The noughts above are left out. -/
theorem lt_down {N k : Nat} (h : N < 10 ^ (k + 1)) (hd : dig N k = 0) : N < 10 ^ k := by
  have := mod_more N k
  rw [hd, Nat.mod_eq_of_lt h] at this
  rw [this, Nat.zero_mul, Nat.zero_add]
  exact Nat.mod_lt _ (Nat.pow_pos (by omega))
theorem ge_of_dig {N k : Nat} (hd : dig N k ≠ 0) : 10 ^ k ≤ N := by
  rcases Nat.lt_or_ge N (10 ^ k) with c | c
  · exact absurd (by unfold dig; rw [Nat.div_eq_of_lt c]) hd
  · exact c
theorem isLen_of {N n : Nat} (hn : 0 < n) (h : N < 10 ^ n) (hd : dig N (n - 1) ≠ 0) : IsLen N n := ⟨hn, h, Or.inr (ge_of_dig hd)⟩
/-- The digits of a group. -/
theorem dig_group (N g j : Nat) (hj : j < 9) : N / 10 ^ g % 1000000000 / 10 ^ j % 10 = dig N (g + j) := by
  have e : 1000000000 = 10 ^ j * 10 ^ (9 - j) := by rw [← Nat.pow_add, show j + (9 - j) = 9 by omega]
  have d : (10 : Nat) ∣ 10 ^ (9 - j) := ⟨10 ^ (9 - j - 1), by rw [Nat.mul_comm, ← Nat.pow_succ]; congr 1; omega⟩
  rw [e, Nat.mod_mul_right_div_self, Nat.mod_mod_of_dvd _ d, Nat.div_div_eq_div_mul, ← Nat.pow_add]
  rfl
theorem div_more (N k : Nat) : N / 10 ^ k / 10 = N / 10 ^ (k + 1) := by rw [Nat.div_div_eq_div_mul, Nat.pow_succ]
theorem div_group (N g : Nat) : N / 10 ^ g / 1000000000 = N / 10 ^ (g + 9) := by rw [Nat.div_div_eq_div_mul, Nat.pow_add]
theorem lt_of_div {N k : Nat} (h : N / 10 ^ k = 0) : N < 10 ^ k := by
  rcases Nat.lt_or_ge N (10 ^ k) with c | c
  · exact c
  · have := Nat.div_pos c (Nat.pow_pos (n := k) (by omega : 0 < 10))
    omega
theorem ge_of_div {N k : Nat} (h : N / 10 ^ k ≠ 0) : 10 ^ k ≤ N := by
  rcases Nat.lt_or_ge N (10 ^ k) with c | c
  · exact absurd (Nat.div_eq_of_lt c) h
  · exact c

/-- Order of numbers is the order of their digits. -/
theorem lt_sgn (N M n : Nat) : (sgn N n < sgn M n) ↔ N % 10 ^ n < M % 10 ^ n := by
  induction n with
  | zero => simp [sgn, Nat.mod_one]
  | succ n ih =>
    have h1 := Nat.mod_lt N (show 0 < 10 ^ n from Nat.pow_pos (by omega))
    have h2 := Nat.mod_lt M (show 0 < 10 ^ n from Nat.pow_pos (by omega))
    have h3 := Nat.mul_comm
    rw [sgn, sgn, List.cons_lt_cons_iff, ih, mod_more, mod_more]
    rcases Nat.lt_trichotomy (dig N n) (dig M n) with h | h | h
    · have : (dig N n + 1) * 10 ^ n ≤ dig M n * 10 ^ n := Nat.mul_le_mul_right _ h
      rw [Nat.add_mul] at this
      constructor
      · intro _; omega
      · intro _; left; omega
    · rw [h]
      constructor
      · rintro (c | c) <;> omega
      · intro c; right; omega
    · have : (dig M n + 1) * 10 ^ n ≤ dig N n * 10 ^ n := Nat.mul_le_mul_right _ h
      rw [Nat.add_mul] at this
      constructor
      · rintro (c | c) <;> omega
      · intro c; omega
theorem sgn_inj {N M n m : Nat} (hN : IsLen N n) (hM : IsLen M m) (h : sgn N n = sgn M m) : N = M := by
  have e : n = m := by rw [← sgn_length N n, h, sgn_length]
  subst e
  have := congrArg ofS h
  rw [ofS_sgn, ofS_sgn, Nat.mod_eq_of_lt hN.2.1, Nat.mod_eq_of_lt hM.2.1] at this
  exact this
theorem order_sgn {N M n m : Nat} (hN : IsLen N n) (hM : IsLen M m) : N < M ↔ n < m ∨ (n = m ∧ sgn N n < sgn M m) := by
  rcases Nat.lt_trichotomy n m with h | h | h
  · have : N < M := by
      rcases hM.2.2 with c | c
      · have := hN.1; omega
      · exact Nat.lt_of_lt_of_le hN.2.1 (Nat.le_trans (Nat.pow_le_pow_right (by omega) (show n ≤ m - 1 by omega)) c)
    simp [this, h]
  · subst h
    rw [lt_sgn, Nat.mod_eq_of_lt hN.2.1, Nat.mod_eq_of_lt hM.2.1]
    simp
  · have : M < N := by
      rcases hN.2.2 with c | c
      · have := hM.1; omega
      · exact Nat.lt_of_lt_of_le hM.2.1 (Nat.le_trans (Nat.pow_le_pow_right (by omega) (show m ≤ n - 1 by omega)) c)
    constructor
    · intro c; omega
    · rintro (c | c) <;> omega
/-- No nought ahead. -/
theorem no_nought {N n : Nat} (hN : IsLen N n) (h : N ≠ 0) : dig N (n - 1) ≠ 0 := by
  intro hd
  have h1 : N < 10 ^ (n - 1) := lt_down (k := n - 1) (by rw [Nat.sub_add_cancel hN.1]; exact hN.2.1) hd
  rcases hN.2.2 with c | c
  · subst c; simp at h1; omega
  · omega

theorem okS_of {l : List Nat} (h1 : 1 ≤ l.length) (h2 : l.length ≤ 4096) (h3 : okD l = true) : okS l = true := by simp [okS, h1, h2, h3]
theorem numS_of {l : List Nat} (h : okS l = true) : numS l = ofS l := by simp [numS, h]
theorem numS_no {l : List Nat} (h : okS l = false) : numS l = 0 := by simp [numS, h]
theorem ofS_zeros (k : Nat) (l : List Nat) : ofS (List.replicate k 48 ++ l) = ofS l := by
  rw [ofS_append]
  have : ofS (List.replicate k 48) = 0 := by
    induction k with
    | zero => rfl
    | succ k ih => rw [List.replicate_succ, ofS_cons, ih]; simp
  rw [this]; simp
theorem okD_zeros (k : Nat) : okD (List.replicate k 48) = true := by simp [okD, isD]
/-- 20 limbs have at most 200 digits. -/
theorem twenty_lt {N : Nat} (h : N < Bp 20) : N < 10 ^ 200 := by
  have : Bp 20 ≤ 10 ^ 200 := by decide
  omega
#print axioms order_sgn
#print axioms dig_group
end Go.Proofs.Ytcafodggkhkpnaa.Lb

/-
  The bytes of a string ('byts'), and rows of bytes: one that the call itself made ('BOwn'), one that is read ('BRowAt'); string(row).
-/
namespace Go.Proofs.Ytcafodggkhkpnaa
open Go.RowKit Lb

theorem below_one (w : World) (o : Obj) : Below w.heap.size w (w.alloc o) := (Below.refl _ _).alloc (Nat.le_refl _) o

/-- The bytes of a string, as numbers. -/
def byts (s : ByteArray) : List Nat := s.data.toList.map UInt8.toNat
/-- The string of these bytes. -/
def strB (l : List Nat) : ByteArray := ⟨(l.map UInt8.ofNat).toArray⟩
def Bytes (l : List Nat) : Prop := ∀ i, lim l i < 256

theorem byts_length (s : ByteArray) : (byts s).length = s.size := by
  unfold byts
  rw [List.length_map, Array.length_toList]
  rfl
theorem byts_small (s : ByteArray) : Bytes (byts s) := fun i => by
  unfold lim byts
  by_cases h : i < s.data.toList.length
  · have := UInt8.toNat_lt (s.data.toList[i])
    simp only [List.getD_eq_getElem?_getD, List.getElem?_map, List.getElem?_eq_getElem h, Option.map_some, Option.getD_some]
    omega
  · simp [List.getElem?_eq_none (Nat.le_of_not_lt h)]
theorem byts_append (a b : ByteArray) : byts (a ++ b) = byts a ++ byts b := by simp [byts, ByteArray.data_append]
theorem byts_extract (s : ByteArray) (a b : Nat) : byts (s.extract a b) = ((byts s).drop a).take (b - a) := by
  simp [byts, ByteArray.data_extract, List.map_take, List.map_drop]
theorem byts_at (s : ByteArray) (i : Nat) (h : i < s.size) : (s[i]'h).toNat = lim (byts s) i := by
  have h' : i < s.data.size := h
  simp only [lim, byts, List.getD_eq_getElem?_getD, List.getElem?_map, Array.getElem?_toList]
  rw [Array.getElem?_eq_getElem h']
  rfl
theorem map_toNat_inj {x y : List UInt8} (h : x.map UInt8.toNat = y.map UInt8.toNat) : x = y := by
  induction x generalizing y with
  | nil => cases y with
    | nil => rfl
    | cons b y => simp at h
  | cons a x ih => cases y with
    | nil => simp at h
    | cons b y =>
      simp only [List.map_cons, List.cons.injEq] at h
      rw [UInt8.toNat_inj.1 h.1, ih h.2]
theorem byts_eql (a b : ByteArray) : (a.toList == b.toList) = decide (byts a = byts b) := by
  rw [ByteArray.toList_eq, ByteArray.toList_eq]
  unfold byts
  by_cases h : a.data.toList = b.data.toList
  · rw [h]; simp
  · have h2 : ¬ (a.data.toList.map UInt8.toNat = b.data.toList.map UInt8.toNat) := fun e => h (map_toNat_inj e)
    rw [decide_eq_false h2, beq_eq_false_iff_ne]
    exact h
theorem less_map : ∀ (x y : List UInt8), Op.bytesLess x y = decide (x.map UInt8.toNat < y.map UInt8.toNat)
  | [], [] => by simp [Op.bytesLess]
  | _ :: _, [] => by simp [Op.bytesLess]
  | [], _ :: _ => by simp [Op.bytesLess]
  | a :: x, b :: y => by
    rw [Op.bytesLess, less_map x y, List.map_cons, List.map_cons]
    simp only [List.cons_lt_cons_iff, Bool.decide_or, Bool.decide_and]
    congr 2
    by_cases h : a = b
    · subst h; simp
    · have h2 : ¬ (a.toNat = b.toNat) := fun e => h (UInt8.toNat_inj.1 e)
      rw [decide_eq_false h2, beq_eq_false_iff_ne]; exact h
theorem byts_less (a b : ByteArray) : Op.bytesLess a.toList b.toList = decide (byts a < byts b) := by
  rw [ByteArray.toList_eq, ByteArray.toList_eq]
  exact less_map _ _
theorem byts_strB {l : List Nat} (h : Bytes l) : byts (strB l) = l := by
  unfold byts strB
  apply ext_lim
  · simp
  · intro i hi
    have hi' : i < l.length := by simpa using hi
    have := h i
    simp only [lim, List.getD_eq_getElem?_getD, List.getElem?_map, List.getElem?_eq_getElem hi', Option.map_some, Option.getD_some] at this ⊢
    simp [UInt8.toNat_ofNat']
    omega
theorem strB_size (l : List Nat) : (strB l).size = l.length := by simp [strB, ByteArray.size]
theorem strB_byts (s : ByteArray) : strB (byts s) = s := by
  apply ByteArray.ext
  have e : (UInt8.ofNat ∘ UInt8.toNat) = id := by funext x; simp
  simp [strB, byts, e]
theorem str_ext {a b : ByteArray} (h : byts a = byts b) : a = b := by rw [← strB_byts a, h, strB_byts]

/-- A byte as a value. -/
def bv (x : Nat) : Value := .int .u8 (x : Int)
theorem map_set_bv (xs : List Nat) (j v : Nat) {e : Int} (h : e = (v : Int)) : (xs.map bv).set j (.int .u8 e) = (xs.set j v).map bv := by
  rw [List.map_set, h]; rfl

/-- The slice reads as the bytes xs. -/
structure BRowAt (w : World) (ao : Option Addr) (len cap : Nat) (xs : List Nat) : Prop where
  len_eq : xs.length = len
  cap_le : len ≤ cap
  cap_max : cap ≤ maxLen
  nil_cap : ao = none → cap = 0
  small : Bytes xs
  cells : 0 < len → ∃ b off, ao = some ⟨b, off, none⟩ ∧ b < w.heap.size ∧ ∀ i, i < len → w.cell? ⟨b, off + i, none⟩ = some (.int .u8 (lim xs i : Int))
theorem BRowAt.later {w w' : World} {ao : Option Addr} {len cap : Nat} {xs : List Nat} (h : BRowAt w ao len cap xs) (hb : Below w.heap.size w w') : BRowAt w' ao len cap xs := by
  refine ⟨h.len_eq, h.cap_le, h.cap_max, h.nil_cap, h.small, fun hp => ?_⟩
  obtain ⟨b, off, e, hlt, hc⟩ := h.cells hp
  exact ⟨b, off, e, Nat.lt_of_lt_of_le hlt hb.size, fun i hi => (hb.cell (p := ⟨b, off + i, none⟩) hlt).trans (hc i hi)⟩
theorem browAt_nil (w : World) : BRowAt w none 0 0 [] :=
  ⟨rfl, Nat.le_refl _, Nat.zero_le _, fun _ => rfl, fun i => by rw [lim_nil]; omega, fun h => absurd h (by omega)⟩
/-- A slice of bytes that came in. -/
theorem browAt_of {w : World} {a : Option Addr} {len cap : Nat} {zs : List Int} (h : (a = none ∧ len = 0 ∧ cap = 0 ∧ zs = []) ∨
    ∃ x, a = some x ∧ len ≤ cap ∧ cap ≤ maxLen ∧ zs.length = cap ∧ (∀ i, i < zs.length → w.cell? (x.add i) = some (.int .u8 (zs.getD i 0))) ∧ ∀ n ∈ zs, (Lit.int .u8 n).wf = true) : ∃ xs, BRowAt w a len cap xs := by
  rcases h with ⟨rfl, rfl, rfl, rfl⟩ | ⟨⟨b, off, spot⟩, rfl, hl, hm, hz, hcell, hwz⟩
  · exact ⟨[], browAt_nil w⟩
  · have hbd : ∀ n ∈ zs, 0 ≤ n ∧ n ≤ 255 := fun n hn => bounds_u8 (hwz n hn)
    refine ⟨(zs.take len).map Int.toNat, ⟨by simp; omega, hl, hm, fun e => by simp at e, ?_, fun hp => ?_⟩⟩
    · intro i
      by_cases hi : i < ((zs.take len).map Int.toNat).length
      · rw [lim_get hi]
        obtain ⟨y, hy, e⟩ := List.mem_map.1 (List.getElem_mem hi)
        have := hbd y (List.mem_of_mem_take hy)
        omega
      · rw [lim_out (by omega)]; omega
    · have hc := hcell 0 (by omega)
      obtain rfl : spot = none := by simpa [Addr.add] using World.cell?_spot hc
      refine ⟨b, off, rfl, ?_, fun i hi => ?_⟩
      · rcases Nat.lt_or_ge b w.heap.size with c | c
        · exact c
        · simp [Addr.add, World.cell?, Array.getElem?_eq_none c] at hc
      · have h1 := hcell i (by omega)
        rw [Addr.add_lit] at h1
        rw [h1]
        have h2 : i < zs.length := by omega
        have h3 := hbd (zs[i]) (List.getElem_mem h2)
        have e : lim ((zs.take len).map Int.toNat) i = (zs[i]).toNat := by simp [lim, hi, h2]
        rw [e]
        simp only [List.getD_eq_getElem?_getD, List.getElem?_eq_getElem h2, Option.getD_some]
        congr 2
        omega

/-- The slice is a row of bytes that the call itself made, from block 'base' on. -/
def BOwn (w : World) (base : Nat) (v : Value) (n : Nat) (xs : List Nat) : Prop := w.ownsRow base 5 1 v n (xs.map bv)
theorem BOwn.len {w : World} {base n : Nat} {v : Value} {xs : List Nat} (h : BOwn w base v n xs) : xs.length = n := by simpa using h.1
theorem BOwn.later {w w' : World} {base n : Nat} {v : Value} {xs : List Nat} (h : BOwn w base v n xs) (hb : Below w.heap.size w w') : BOwn w' base v n xs := by
  refine ⟨h.1, ?_⟩
  rcases h.2 with h' | ⟨g, cap, cur, hv, hg, hh, r⟩
  · exact Or.inl h'
  · exact Or.inr ⟨g, cap, cur, hv, hg, by rw [hb.block g (lt_of_block hh)]; exact hh, r⟩
theorem bown_none (w : World) (base : Nat) : BOwn w base (.slice none 0 0) 0 [] := ⟨rfl, Or.inl ⟨rfl, rfl⟩⟩
theorem BOwn.cell {w : World} {base g n cap : Nat} {xs : List Nat} (h : BOwn w base (.slice (some ⟨g, 0, none⟩) n cap) n xs) {i : Nat} (hi : i < n) : w.cell? ⟨g, i, none⟩ = some (.int .u8 (lim xs i : Int)) := by
  have hl := h.len
  rw [World.ownsRow.cellAt h i (by omega)]
  simp [lim, bv, show i < xs.length by omega]
theorem BOwn.free {w : World} {base g n cap : Nat} {xs : List Nat} (h : BOwn w base (.slice (some ⟨g, 0, none⟩) n cap) n xs) (i : Nat) : w.frozen? ⟨g, i, none⟩ = false := World.ownsRow.frozenAt h i
theorem BOwn.set {w : World} {base g n cap : Nat} {xs : List Nat} (h : BOwn w base (.slice (some ⟨g, 0, none⟩) n cap) n xs) (j v : Nat) {e : Int} (he : e = (v : Int)) : BOwn (w.setCell ⟨g, j, none⟩ (.int .u8 e)) base (.slice (some ⟨g, 0, none⟩) n cap) n (xs.set j v) := by
  unfold BOwn
  rw [← map_set_bv xs j v he]
  exact (World.ownsRow.stored h j _).1
theorem browAt_own {w : World} {base g n cap : Nat} {xs : List Nat} (h : BOwn w base (.slice (some ⟨g, 0, none⟩) n cap) n xs) (hs : Bytes xs) : BRowAt w (some ⟨g, 0, none⟩) n cap xs := by
  have hl : xs.length = n := by simpa using h.1
  rcases h.2 with ⟨h', _⟩ | ⟨g', cap', cur, h', _, hg, hnc, hcm, hcs, htake⟩
  · simp at h'
  · simp only [Value.slice.injEq, Option.some.injEq, Addr.mk.injEq, and_true, true_and] at h'
    obtain ⟨rfl, rfl⟩ := h'
    exact ⟨hl, hnc, hcm, fun e => by simp at e, hs, fun _ => ⟨g, 0, rfl, lt_of_block hg, fun i hi => by rw [Nat.zero_add]; exact BOwn.cell h hi⟩⟩
theorem browAt_owned {w : World} {base n : Nat} {v : Value} {xs : List Nat} (h : BOwn w base v n xs) (hs : Bytes xs) : ∃ ao cap, v = .slice ao n cap ∧ BRowAt w ao n cap xs := by
  have hl : xs.length = n := by simpa using h.1
  rcases h.2 with ⟨h', hx⟩ | ⟨g', cap', cur, h', _⟩
  · have hn : n = 0 := by simpa using hx
    subst hn h'
    obtain rfl := List.eq_nil_of_length_eq_zero hl
    exact ⟨none, 0, rfl, browAt_nil w⟩
  · subst h'
    exact ⟨_, _, rfl, browAt_own h hs⟩
theorem info_u8 : (Try.prog.info? 5).map (fun i => (i.zero, i.size, i.bytes)) = some (some (.int .u8 0), 1, 1) := by kernel_rfl

/-- append(own row of bytes, one byte). -/
theorem append_byte {w : World} {ops : Array Oper} {rest : List Oper} {o : Oper} {a : Act} {Q : Exit → Act → World → Prop} (hgd : o.guard = none) (s x : Operand)
    (ho : o.op = .call { callee := .builtin .append, args := #[s, x], argTypes := #[73, 73] }) (base : Nat) (v : Value) (n : Nat) (xs : List Nat) (hs : a.eval s = v) (hown : BOwn w base v n xs)
    (b c : Nat) (y : Nat) (hx : a.eval x = .slice (some ⟨b, 0, none⟩) 1 c) (hcell : w.cell? ⟨b, 0, none⟩ = some (.int .u8 (y : Int))) (hb : n + 1 ≤ 1000000000) (hbase : base ≤ w.heap.size)
    (h : ∀ v' w', BOwn w' base v' (n + 1) (xs ++ [y]) → w.grownBy w' v.ownBlock → wpList Try.prog ops Q rest (a.put o.dst v') w') : wpList Try.prog ops Q (o :: rest) a w := by
  obtain ⟨i0, hi, hz0, hz1, hz2⟩ := info_parts info_u8
  refine wpList_append_own w hgd s x _ ho base 5 i0 (.int .u8 0) 1 1 Try.underlying73 hi hz0 hz1 hz2 rfl (by decide) v n (xs.map bv) hs hown ⟨b, 0, none⟩ 1 c ([y].map bv) hx rfl ?_ ?_ ?_ ?_ hbase ?_
  · intro j u hj
    cases j with
    | zero =>
      rw [Addr.add_lit, Nat.zero_add, hcell]
      simpa [bv] using hj
    | succ j => simp at hj
  · intro u hu
    obtain ⟨_, _, rfl⟩ := List.mem_map.1 hu
    rfl
  · unfold maxLen; omega
  · omega
  · intro v' w' h1 h2 _
    rw [← List.map_append] at h1
    exact h v' w' h1 h2

/-- make([]byte, n). -/
theorem make_bytes {w : World} {ops : Array Oper} {rest : List Oper} {o : Oper} {a : Act} {Q : Exit → Act → World → Prop} (hg : o.guard = none) (l c : Operand) (hop : o.op = Op.makeSlice 73 l c)
    (base : Nat) (kl kc : IntKind) (L C : Int) (n : Nat) (hl : a.eval l = .int kl L) (hc : a.eval c = .int kc C) (hL : L = (n : Int)) (hC : C = (n : Int)) (hn : n ≤ 1000000000) (hbase : base ≤ w.heap.size)
    (hK : ∀ w', BOwn w' base (.slice (some ⟨w.heap.size, 0, none⟩) n n) n (List.replicate n 0) → w.grownBy w' none → wpList Try.prog ops Q rest (a.put o.dst (.slice (some ⟨w.heap.size, 0, none⟩) n n)) w') :
    wpList Try.prog ops Q (o :: rest) a w := by
  obtain ⟨i0, hi, hz0, hz1, hz2⟩ := info_parts info_u8
  refine wpList_make_full w hg l c _ hop base 5 i0 (.int .u8 0) 1 Try.underlying73 hi hz0 hz1 kl kc L C n hl hc hL hC (by rw [hz2]; omega) (by unfold maxLen; omega) hbase ?_
  intro w' h1 h2
  refine hK w' ?_ h2
  unfold BOwn
  have e : (madeCells (Value.int .u8 0).cells (n * 1)).toList = (List.replicate n 0).map bv := by
    show (madeCells #[.int .u8 0] (n * 1)).toList = _
    rw [toList_madeCells_one, Nat.mul_one, List.map_replicate]
    rfl
  rw [← e]
  exact h1

/-- string(row). -/
theorem run_string (w : World) (ao : Option Addr) (len cap : Nat) (xs : List Nat) (h : BRowAt w ao len cap xs) : (convert 73 9 (.slice ao len cap)).run Try.prog w = .ok (.string (strB xs)) w := by
  rcases Nat.eq_zero_or_pos len with h0 | h0
  · subst h0
    obtain rfl := List.eq_nil_of_length_eq_zero h.len_eq
    cases ao with
    | none => exact run_convert_bytes_nil w 73 5 Try.underlying73 Try.underlying5 0 cap 9 Try.underlying9
    | some ad =>
      have := run_convert_bytes_back (P := Try.prog) w 73 9 5 ad cap [] Try.underlying73 Try.underlying5 Try.underlying9 (fun j hj => by simp at hj)
      exact this
  · obtain ⟨b, off, rfl, _, hc⟩ := h.cells h0
    have := run_convert_bytes_arg (P := Try.prog) w 73 5 Try.underlying73 Try.underlying5 b off len cap (xs.map (fun x : Nat => (x : Int))) (by simp [h.len_eq])
      (fun i hi => by
        rw [hc i hi]
        have hi' : i < xs.length := by rw [h.len_eq]; exact hi
        simp [lim, hi']) 9 Try.underlying9
    rw [this]
    unfold strOfNums strB
    rw [List.map_map]
    rfl
/-- string of one byte. -/
theorem browAt_one {w : World} {e : Int} (a : Nat) (he : e = (a : Int)) (ha : a < 256) : BRowAt (w.alloc (.cells #[.int .u8 e] 5)) (some ⟨w.heap.size, 0, none⟩) 1 1 [a] := by
  subst he
  refine ⟨rfl, Nat.le_refl _, by unfold maxLen; omega, fun h => by simp at h, fun i => ?_, fun _ => ⟨_, _, rfl, by simp, fun i hi => ?_⟩⟩
  · cases i with
    | zero => simpa [lim] using ha
    | succ i => simp [lim]
  · obtain rfl : i = 0 := by omega
    simp [lim]
#print axioms run_string
#print axioms browAt_of
end Go.Proofs.Ytcafodggkhkpnaa

/-
  What digit.read does: the number of a group of signs, and ten to their count; or nothing, and false.
-/
namespace Go.Proofs.Ytcafodggkhkpnaa
open Go.RowKit Lb

theorem take_snoc {l : List Nat} {k : Nat} (h : k < l.length) : l.take (k + 1) = l.take k ++ [lim l k] := by
  rw [List.take_add_one, List.getElem?_eq_getElem h, lim_get h]; rfl
theorem okD_at {l : List Nat} {k : Nat} (h : k < l.length) (hc : isD (lim l k) = false) : okD l = false := by
  rw [← List.take_append_drop (k + 1) l, take_snoc h, okD_append, okD_snoc, hc]; simp
theorem read_digit {l : List Nat} {k p q c : Nat} (hl : l.length ≤ 9) (hk : k < l.length) (hp : p = ofS (l.take k)) (hq : q = 10 ^ k) (hok : okD (l.take k) = true) (hc : c = lim l k) :
    p < q ∧ q ≤ 100000000 ∧ (48 ≤ c → c ≤ 57 → okD (l.take (k + 1)) = true ∧ p * 10 + (c - 48) = ofS (l.take (k + 1)) ∧ q * 10 = 10 ^ (k + 1)) := by
  have h1 := ofS_lt hok
  rw [List.length_take, Nat.min_eq_left (by omega), ← hp, ← hq] at h1
  have h2 : q ≤ 10 ^ 8 := by rw [hq]; exact Nat.pow_le_pow_right (by omega) (by omega)
  refine ⟨h1, by omega, fun h3 h4 => ?_⟩
  rw [take_snoc hk, okD_snoc, ofS_snoc, hok, ← hp, ← hc, hq, Nat.pow_succ, Bool.true_and, isD_iff]
  exact ⟨⟨h3, h4⟩, rfl, rfl⟩
theorem sign_cases (c : Nat) : c = 48 ∨ c = 49 ∨ c = 50 ∨ c = 51 ∨ c = 52 ∨ c = 53 ∨ c = 54 ∨ c = 55 ∨ c = 56 ∨ c = 57 ∨ isD c = false := by
  by_cases h : isD c = true
  · rw [isD_iff] at h; omega
  · simp at h; simp [h]

set_option maxRecDepth 20000 in
set_option maxHeartbeats 2000000 in
theorem read_any (s : ByteArray) (b : Bool) (P Q : Nat) (w : World) (hs : s.size ≤ 9) (hb : b = okD (byts s)) (hP : P = if b then ofS (byts s) else 0) (hQ : Q = if b then 10 ^ s.size else 0) :
    Calls Try.prog 74 #[.string s] w fun e w' => e = .returned (.tuple #[.int .u32 (P : Int), .int .u32 (Q : Int), .bool b]) ∧ w = w' := by
  have HB := hide hb
  have HP := hide hP
  have HQ := hide hQ
  clear hb hP hQ
  go_enter Try.func74, Try.ntmps74
  go_wp2
  go_loop [2, 3, 9] (fun p q i => ∃ k p0 q0 : Nat, k ≤ s.size ∧ i = .int .i64 k ∧ p = .int .u32 p0 ∧ q = .int .u32 q0 ∧ p0 = ofS ((byts s).take k) ∧ q0 = 10 ^ k ∧ okD ((byts s).take k) = true) (fun _ _ i => s.size - (intOf i).toNat)
  case atStart => exact ⟨0, 0, 1, by omega, rfl, rfl, rfl, rfl, rfl, rfl⟩
  case round =>
    obtain ⟨k, p, q, hk, rfl, rfl, rfl, hp, hq, hok⟩ := hrel
    have hl := hide (byts_length s)
    have KP := hide hp
    have KQ := hide hq
    have KO := hide hok
    clear hp hq hok
    by_cases hlt : k < s.size
    · obtain ⟨c, hc⟩ : ∃ c, c = lim (byts s) k := ⟨_, rfl⟩
      obtain ⟨h1, h2, h3⟩ := read_digit (by rw [unhide hl]; exact hs) (by rw [unhide hl]; exact hlt) (unhide KP) (unhide KQ) (unhide KO) hc
      have H3 := hide h3
      have hix : (s[k]'hlt).toNat = c := (byts_at s k hlt).trans hc.symm
      have HC := hide hc
      clear h3 hc
      rcases sign_cases c with rfl | rfl | rfl | rfl | rfl | rfl | rfl | rfl | rfl | rfl | hno
      case inr.inr.inr.inr.inr.inr.inr.inr.inr.inr =>
        have hf : okD (byts s) = false := okD_at (by rw [unhide hl]; exact hlt) (by rw [← unhide HC]; exact hno)
        have e1 : b = false := (unhide HB).trans hf
        have e2 : P = 0 := by rw [unhide HP, e1]; rfl
        have e3 : Q = 0 := by rw [unhide HQ, e1]; rfl
        obtain ⟨n0, n1, n2, n3, n4, n5, n6, n7, n8, n9⟩ : ((c : Int) == 48) = false ∧ ((c : Int) == 49) = false ∧ ((c : Int) == 50) = false ∧ ((c : Int) == 51) = false ∧ ((c : Int) == 52) = false ∧ ((c : Int) == 53) = false ∧ ((c : Int) == 54) = false ∧ ((c : Int) == 55) = false ∧ ((c : Int) == 56) = false ∧ ((c : Int) == 57) = false := by
          have : ¬ (48 ≤ c ∧ c ≤ 57) := by rw [← isD_iff, hno]; simp
          simp only [beq_eq_false_iff_ne]
          omega
        clear hno hf
        subst e1 e2 e3
        go_wp2
        go_ret3
        exact ⟨rfl, rfl⟩
      all_goals
        obtain ⟨h4, h5, h6⟩ := unhide H3 (by omega) (by omega)
        have H5 := hide h5
        have H6 := hide h6
        have H4 := hide h4
        clear h4 h5 h6
        go_wp2
        go_round
        case rel => exact ⟨k + 1, _, _, by omega, by go_num, by go_num, by go_num, unhide H5, unhide H6, unhide H4⟩
        case measure => simp [intOf]; omega
    · have hk1 : k = s.size := by omega
      have e0 : (byts s).take k = byts s := by rw [hk1, ← unhide hl]; exact List.take_length
      have e1 : b = true := by rw [unhide HB, ← e0]; exact unhide KO
      have e2 : P = p := by rw [unhide HP, e1, if_pos rfl, unhide KP, e0]
      have e3 : Q = q := by rw [unhide HQ, e1, if_pos rfl, unhide KQ, hk1]
      clear e0
      subst e1 e2 e3
      go_wp2
      go_ret3
      exact ⟨rfl, rfl⟩
#print axioms read_any
end Go.Proofs.Ytcafodggkhkpnaa

/-
  What digit.Parse does: the number of a text, and true; or nothing, and false.
-/
namespace Go.Proofs.Ytcafodggkhkpnaa
open Go.RowKit Lb

def strLen : Value → Nat
  | .string s => s.size
  | _ => 0
theorem ten_le (j : Nat) : 10 ^ j ≤ Bp j := by unfold Bp; exact Nat.pow_le_pow_left (by omega) j
theorem parse_len {w : World} {ao : Option Addr} {len cap N j : Nat} (h : NumAt w ao len cap N) (hN : N < 10 ^ j) : len ≤ j := h.len_le (Nat.lt_of_lt_of_le hN (ten_le j))
/-- A group more. -/
theorem parse_more {l g r : List Nat} {j n : Nat} (hr : r = l.drop j) (hg : g = r.take n) (hn : n ≤ r.length) : l.take (j + n) = l.take j ++ g ∧ r.drop n = l.drop (j + n) ∧ g.length = n := by
  subst hr hg
  refine ⟨List.take_add, List.drop_drop, ?_⟩
  rw [List.length_take]; omega
theorem parse_no {l g r : List Nat} {j n : Nat} (hr : r = l.drop j) (hg : g = r.take n) (h : okD g = false) : okD l = false := by
  subst hr hg
  rw [← List.take_append_drop j l, okD_append, ← List.take_append_drop n (l.drop j), okD_append, h]; simp

set_option maxRecDepth 20000 in
set_option maxHeartbeats 2000000 in
theorem parse_any (s : ByteArray) (b : Bool) (N : Nat) (w : World) (hs : s.size ≤ 1000000) (hb : b = okS (byts s)) (hN : N = numS (byts s)) :
    Calls Try.prog 47 #[.string s] w fun e w' => ∃ ao len cap, e = .returned (.tuple #[.slice ao len cap, .bool b]) ∧ NumAt w' ao len cap N ∧ Below w.heap.size w w' := by
  have HB := hide hb
  have HN := hide hN
  have HL := hide (byts_length s)
  clear hb hN
  by_cases hbad : s.size = 0 ∨ 4096 < s.size
  · have hf : okS (byts s) = false := by
      unfold okS
      rw [unhide HL]
      rcases hbad with h | h
      · simp [h]
      · simp [show ¬ s.size ≤ 4096 by omega]
    have e1 : b = false := (unhide HB).trans hf
    have e2 : N = 0 := (unhide HN).trans (numS_no hf)
    clear hf
    subst e1 e2
    go_enter Try.func47, Try.ntmps47
    rcases hbad with h | h
    · have h' : ((s.size : Int) == 0) = true := by simp [h]
      go_wp2
      go_ret2
      exact ⟨_, _, _, rfl, numAt_nil _, Below.refl _ _⟩
    · have h' : ((s.size : Int) == 0) = false := by rw [beq_eq_false_iff_ne]; omega
      go_wp2
      go_ret2
      exact ⟨_, _, _, rfl, numAt_nil _, Below.refl _ _⟩
  · have h0 : ((s.size : Int) == 0) = false := by rw [beq_eq_false_iff_ne]; omega
    have h1 : ¬ (4096 < (s.size : Int)) := by omega
    go_enter Try.func47, Try.ntmps47
    go_wp2
    go_loopw [0, 4] (fun x a wr => ∃ (j : Nat) (sr : ByteArray) (a1 : Option Addr) (l1 c1 : Nat), j ≤ s.size ∧ x = .string sr ∧ byts sr = (byts s).drop j ∧ a = .slice a1 l1 c1 ∧ NumAt wr a1 l1 c1 (ofS ((byts s).take j)) ∧ okD ((byts s).take j) = true ∧ Below w.heap.size w wr) (fun x _ _ => strLen x)
    case atStart => exact ⟨0, s, none, 0, 0, by omega, rfl, rfl, rfl, numAt_nil _, rfl, Below.refl _ _⟩
    case round =>
      obtain ⟨j, sr, a1, l1, c1, hj, rfl, hsr, rfl, hnum, hok, hbel⟩ := hrel
      have HR := hide hsr
      have HO := hide hok
      have hlr : sr.size = s.size - j := by rw [← byts_length, hsr, List.length_drop, unhide HL]
      have hl1 : l1 ≤ j := parse_len hnum (by have := ofS_lt hok; rwa [List.length_take, unhide HL, Nat.min_eq_left hj] at this)
      have LR := hide hlr
      have hr9 : sr.size ≤ 4096 := by omega
      clear hsr hok hlr
      by_cases hp : 0 < sr.size
      · obtain ⟨n, hn⟩ : ∃ n : Nat, (n : Int) = if (sr.size : Int) < 9 then (sr.size : Int) else 9 := by
          by_cases c : (sr.size : Int) < 9
          · exact ⟨sr.size, by rw [if_pos c]⟩
          · exact ⟨9, by rw [if_neg c]; rfl⟩
        have hmin : ∀ (ts : Array TypeId) (t : TypeId) (W : World), (Builtin.min_ ts t #[.int .i64 9, .int .i64 (sr.size : Int)]).run Try.prog W = .ok (.int .i64 (n : Int)) W := fun ts t W => by
          rw [run_min_int2, hn]
        have hn9 : n ≤ 9 ∧ n ≤ sr.size ∧ 0 < n := by
          by_cases c : (sr.size : Int) < 9
          · rw [if_pos c] at hn; omega
          · rw [if_neg c] at hn; omega
        clear hn
        obtain ⟨hn1, hn2, hn3⟩ := hn9
        obtain ⟨g, hg⟩ : ∃ g, g = (byts sr).take n := ⟨_, rfl⟩
        have hgb : byts (sr.extract 0 n) = g := by rw [byts_extract, hg]; simp
        obtain ⟨m1, m2, m3⟩ := parse_more (unhide HR) hg (by rw [byts_length]; exact hn2)
        have hgs : (sr.extract 0 n).size = n := by rw [← byts_length, hgb, m3]
        have G0 := hide hg
        have G1 := hide hgb
        have G2 := hide hgs
        have M1 := hide m1
        have M2 := hide m2
        have M3 := hide m3
        clear hg hgb hgs m1 m2 m3
        obtain ⟨A, hA⟩ : ∃ A, A = ofS ((byts s).take j) := ⟨_, rfl⟩
        rw [← hA] at hnum
        have HA := hide hA
        clear hA
        go_wp2_with fail
        rcases hog : okD g with _ | _
        · refine (read_any _ false 0 0 wr (by rw [unhide G2]; exact hn1) (by rw [unhide G1, hog]) (by simp) (by simp)).mono ?_
          rintro e w' ⟨rfl, rfl⟩
          have hf : okS (byts s) = false := by unfold okS; rw [parse_no (unhide HR) (unhide G0) hog]; simp
          have e1 : b = false := (unhide HB).trans hf
          have e2 : N = 0 := (unhide HN).trans (numS_no hf)
          clear hf hog
          subst e1 e2
          go_wp2
          go_ret2
          exact ⟨_, _, _, rfl, numAt_nil _, hbel⟩
        · obtain ⟨p, hp'⟩ : ∃ p, p = ofS g := ⟨_, rfl⟩
          obtain ⟨q, hq⟩ : ∃ q, q = 10 ^ n := ⟨_, rfl⟩
          have hpq : p < q := by have := ofS_lt hog; rwa [unhide M3, ← hp', ← hq] at this
          have hq9 : q ≤ 1000000000 := by rw [hq]; exact Nat.pow_le_pow_right (n := 10) (by omega) hn1
          refine (read_any _ true p q wr (by rw [unhide G2]; exact hn1) (by rw [unhide G1, hog]) (by rw [unhide G1, hp']; rfl) (by rw [unhide G2, hq]; rfl)).mono ?_
          rintro e w' ⟨rfl, rfl⟩
          have hAq : A * q < 10 ^ (j + n) := by
            have h2 := ofS_lt (unhide HO)
            rw [List.length_take, unhide HL, Nat.min_eq_left hj, ← unhide HA] at h2
            rw [Nat.pow_add, ← hq]
            exact Nat.mul_lt_mul_of_lt_of_le h2 (Nat.le_refl _) (by omega)
          have HP := hide hp'
          have HQ := hide hq
          have HG := hide hog
          have HAq := hide hAq
          clear hp' hq hog hAq
          go_wp2_with fail
          refine (times_num _ _ _ _ _ q _ rfl hnum.val (by omega) (by omega)).mono ?_
          rintro e w2 ⟨a2, l2, c2, rfl, hnum2, hb2⟩
          have hl2 : l2 ≤ j + n := parse_len hnum2 (unhide HAq)
          have hB2 := hbel.trans (hb2.mono hbel.size)
          clear hnum hb2 hbel
          go_wp2_with fail
          have hb3 : Below w2.heap.size w2 (w2.alloc (.cells #[.int .u32 (p : Int)] 62)) := (Below.refl _ _).alloc (Nat.le_refl _) _
          refine (add_num _ _ _ _ _ _ _ p _ (hnum2.val.later hb3) ⟨[p], rowAt_one rfl (by omega), val_one p⟩ (by omega) (by omega)).mono ?_
          rintro e w3 ⟨a3, l3, c3, rfl, hnum3, hb4⟩
          have hB3 := hB2.trans ((Below.step hb3 hb4).mono hB2.size)
          clear hnum2 hb3 hb4 hB2
          go_wp2
          go_roundw
          case rel =>
            refine ⟨j + n, sr.extract n sr.size, _, _, _, by have := unhide LR; omega, rfl, ?_, rfl, ?_, ?_, hB3⟩
            · rw [byts_extract, ← unhide M2, List.take_of_length_le]
              rw [List.length_drop, byts_length]; omega
            · rw [unhide M1, ofS_append, unhide M3, ← unhide HA, ← unhide HP, ← unhide HQ]
              exact hnum3
            · rw [unhide M1, okD_append, unhide HO, unhide HG]; rfl
          case measure => simp [strLen]; omega
      · have hj1 : j = s.size := by have := unhide LR; omega
        have e0 : (byts s).take j = byts s := by rw [hj1, ← unhide HL]; exact List.take_length
        have ht : okS (byts s) = true := okS_of (by rw [unhide HL]; omega) (by rw [unhide HL]; omega) (by rw [← e0]; exact unhide HO)
        have e1 : b = true := (unhide HB).trans ht
        have e2 : N = ofS (byts s) := (unhide HN).trans (numS_of ht)
        rw [e0, ← e2] at hnum
        clear e0 ht e2
        subst e1
        go_wp2
        go_ret2
        exact ⟨_, _, _, rfl, hnum, hbel⟩
#print axioms parse_any
end Go.Proofs.Ytcafodggkhkpnaa

/-
  What the reference's OfDigits does: the number of a text, and true; or nothing, and false.
-/
namespace Go.Proofs.Ytcafodggkhkpnaa
open Go.RowKit Lb

theorem lit_val {W : World} {b v : Nat} (hc : W.cell? ⟨b, 0, none⟩ = some (.int .u32 (v : Int))) (hb : b < W.heap.size) (hv : v < 4294967296) : ValAt W (some ⟨b, 0, none⟩) 1 1 v := by
  refine ⟨[v], ⟨rfl, Nat.le_refl _, by unfold maxLen; omega, fun h => by simp at h, small_of_mem (by simpa using hv), fun _ => ⟨b, 0, rfl, hb, fun i hi => ?_⟩⟩, val_one v⟩
  obtain rfl : i = 0 := by omega
  simpa [lim] using hc

theorem lit_one {w : World} {e : Int} {v : Nat} (he : e = (v : Int)) (hv : v < 4294967296) : ValAt (w.alloc (.cells #[.int .u32 e] 62)) (some ⟨w.heap.size, 0, none⟩) 1 1 v := ⟨[v], rowAt_one he hv, val_one v⟩

set_option maxRecDepth 20000 in
set_option maxHeartbeats 4000000 in
theorem ofDigits_any (s : ByteArray) (b : Bool) (N : Nat) (w : World) (hs : s.size ≤ 1000000) (hb : b = okS (byts s)) (hN : N = numS (byts s)) :
    Calls Try.prog 48 #[.string s] w fun e w' => ∃ ao len cap, e = .returned (.tuple #[.slice ao len cap, .bool b]) ∧ NumAt w' ao len cap N ∧ Below w.heap.size w w' := by
  have HB := hide hb
  have HN := hide hN
  have HL := hide (byts_length s)
  clear hb hN
  by_cases hbad : s.size = 0 ∨ 4096 < s.size
  · have hf : okS (byts s) = false := by
      unfold okS
      rw [unhide HL]
      rcases hbad with h | h
      · simp [h]
      · simp [show ¬ s.size ≤ 4096 by omega]
    have e1 : b = false := (unhide HB).trans hf
    have e2 : N = 0 := (unhide HN).trans (numS_no hf)
    clear hf
    subst e1 e2
    go_enter Try.func48, Try.ntmps48
    rcases hbad with h | h
    · have h' : (s.size : Int) < 1 := by omega
      go_wp2
      go_ret2
      exact ⟨_, _, _, rfl, numAt_nil _, Below.refl _ _⟩
    · have h' : ¬ (s.size : Int) < 1 := by omega
      go_wp2
      go_ret2
      exact ⟨_, _, _, rfl, numAt_nil _, Below.refl _ _⟩
  · have h0 : ¬ ((s.size : Int) < 1) := by omega
    have h1 : ¬ (4096 < (s.size : Int)) := by omega
    go_enter Try.func48, Try.ntmps48
    go_wp2
    go_loopw [4, 5] (fun a i wr => ∃ (k : Nat) (a1 : Option Addr) (l1 c1 : Nat), k ≤ s.size ∧ i = .int .i64 k ∧ a = .slice a1 l1 c1 ∧ NumAt wr a1 l1 c1 (ofS ((byts s).take k)) ∧ okD ((byts s).take k) = true ∧ Below w.heap.size w wr) (fun _ i _ => s.size - (intOf i).toNat)
    case atStart => exact ⟨0, none, 0, 0, by omega, rfl, rfl, numAt_nil _, rfl, Below.refl _ _⟩
    case round =>
      obtain ⟨k, a1, l1, c1, hk, rfl, rfl, hnum, hok, hbel⟩ := hrel
      have HO := hide hok
      have hl1 : l1 ≤ k := parse_len hnum (by have := ofS_lt hok; rwa [List.length_take, unhide HL, Nat.min_eq_left hk] at this)
      clear hok
      by_cases hlt : k < s.size
      · obtain ⟨c, hc⟩ : ∃ c, c = lim (byts s) k := ⟨_, rfl⟩
        have hix : (s[k]'hlt).toNat = c := (byts_at s k hlt).trans hc.symm
        obtain ⟨A, hA⟩ : ∃ A, A = ofS ((byts s).take k) := ⟨_, rfl⟩
        rw [← hA] at hnum
        have HA := hide hA
        have HC := hide hc
        clear hA hc
        by_cases hd : 48 ≤ c ∧ c ≤ 57
        · obtain ⟨hd1, hd2⟩ := hd
          have hisd : isD c = true := (isD_iff c).2 ⟨hd1, hd2⟩
          have HD := hide (show IntKind.u32.wrap (IntKind.u8.wrap ((c : Int) - 48)) = ((c - 48 : Nat) : Int) by rw [IntKind.wrap_u8, IntKind.wrap_u32]; omega)
          have HAq := hide (show A * 10 < 10 ^ (k + 1) by
            have h2 := ofS_lt (unhide HO)
            rw [List.length_take, unhide HL, Nat.min_eq_left hk, ← unhide HA] at h2
            rw [Nat.pow_succ]; omega)
          have HI := hide hisd
          have hc4 : c - 48 < 4294967296 := by omega
          have hk2 : k + 1 ≤ 1000000 := by omega
          clear hisd
          have hn1 : ¬ ((c : Int) < 48) := by omega
          have hn2 : ¬ (57 < (c : Int)) := by omega
          have t1 : Below wr.heap.size wr (wr.alloc (.cells #[.int .u32 10] 62)).drew := ((Below.refl _ _).alloc (Nat.le_refl _) _).drew
          have t2 : ValAt (wr.alloc (.cells #[.int .u32 10] 62)).drew (some ⟨wr.heap.size, 0, none⟩) 1 1 10 := by
            refine lit_val ?_ ?_ ?_ <;> simp
          obtain ⟨d, hd0⟩ : ∃ d : Int, d = IntKind.u32.wrap (IntKind.u8.wrap ((c : Int) - 48)) := ⟨_, rfl⟩
          have hd1 : d = ((c - 48 : Nat) : Int) := hd0.trans (unhide HD)
          have t3 : Below wr.heap.size wr ((wr.alloc (.cells #[.int .u32 10] 62)).alloc (.cells #[.int .u32 d] 62)).drew := (((Below.refl _ _).alloc (Nat.le_refl _) _).alloc (by simp) _).drew
          have t4 : ValAt ((wr.alloc (.cells #[.int .u32 10] 62)).alloc (.cells #[.int .u32 d] 62)).drew (some ⟨wr.heap.size, 0, none⟩) 1 1 10 := by
            refine lit_val ?_ ?_ ?_ <;> simp <;> omega
          have t5 : ValAt ((wr.alloc (.cells #[.int .u32 10] 62)).alloc (.cells #[.int .u32 d] 62)).drew (some ⟨wr.heap.size + 1, 0, none⟩) 1 1 (c - 48) := by
            refine lit_val ?_ ?_ hc4
            · rw [← hd1]; simp
            · simp
          have t6 : Below wr.heap.size wr ((wr.alloc (.cells #[.int .u32 d] 62)).alloc (.cells #[.int .u32 10] 62)).drew := (((Below.refl _ _).alloc (Nat.le_refl _) _).alloc (by simp) _).drew
          have t7 : ValAt ((wr.alloc (.cells #[.int .u32 d] 62)).alloc (.cells #[.int .u32 10] 62)).drew (some ⟨wr.heap.size + 1, 0, none⟩) 1 1 10 := by
            refine lit_val ?_ ?_ ?_ <;> simp
          have t8 : ValAt ((wr.alloc (.cells #[.int .u32 d] 62)).alloc (.cells #[.int .u32 10] 62)).drew (some ⟨wr.heap.size, 0, none⟩) 1 1 (c - 48) := by
            refine lit_val ?_ ?_ hc4
            · rw [← hd1]; simp
            · simp; omega
          rw [hd0] at t3 t4 t5 t6 t7 t8
          have hl6 : l1 ≤ 1000000 := by omega
          have h1m : (1 : Nat) ≤ 1000000 := by omega
          have M1 := hide (rmul_num _ _ _ A _ _ _ 10 _ (hnum.val.later t1) t2 hl6 h1m)
          have M3 := hide (rmul_num _ _ _ A _ _ _ 10 _ (hnum.val.later t3) t4 hl6 h1m)
          have M6 := hide (rmul_num _ _ _ A _ _ _ 10 _ (hnum.val.later t6) t7 hl6 h1m)
          have T1 := hide t1
          have T3 := hide t3
          have T5 := hide t5
          have T6 := hide t6
          have T8 := hide t8
          clear t1 t2 t3 t4 t5 t6 t7 t8 hd0 hd1
          go_wp2_with fail
          go_region_with (first | (go_at_call 71; with_reducible refine (unhide M1).mono ?_; rintro e w2 ⟨a2, l2, c2, rfl, hnum2, hb2⟩) | (go_at_call 71; with_reducible refine (unhide M3).mono ?_; rintro e w2 ⟨a2, l2, c2, rfl, hnum2, hb2⟩) | (go_at_call 71; with_reducible refine (unhide M6).mono ?_; rintro e w2 ⟨a2, l2, c2, rfl, hnum2, hb2⟩) | (go_at_call 67; with_reducible refine (radd_num _ _ _ (A * 10) _ _ _ (c - 48) _ hnum2.val ((unhide T5).later hb2) (Nat.le_trans (parse_len hnum2 (unhide HAq)) hk2) h1m).mono ?_; rintro e w3 ⟨a3, l3, c3, rfl, hnum3, hb3⟩; have hW3 := Below.step (Below.step (unhide T3) hb2) hb3) | (go_at_call 67; with_reducible refine (radd_num _ _ _ (A * 10) _ _ _ (c - 48) _ hnum2.val ((unhide T8).later hb2) (Nat.le_trans (parse_len hnum2 (unhide HAq)) hk2) h1m).mono ?_; rintro e w3 ⟨a3, l3, c3, rfl, hnum3, hb3⟩; have hW3 := Below.step (Below.step (unhide T6) hb2) hb3) | (go_at_call 67; with_reducible refine (radd_num _ _ _ (A * 10) _ _ _ (c - 48) _ (hnum2.val.later (below_one _ _)) (lit_one (unhide HD) hc4) (Nat.le_trans (parse_len hnum2 (unhide HAq)) hk2) h1m).mono ?_; rintro e w3 ⟨a3, l3, c3, rfl, hnum3, hb3⟩; have hW3 := Below.step (Below.step (unhide T1) hb2) (Below.step (below_one _ _) hb3)))
          all_goals go_wp2
          all_goals
            go_roundw
            case rel =>
              refine ⟨k + 1, a3, l3, c3, by omega, by go_num, rfl, ?_, ?_, ?_⟩
              · rw [take_snoc (by rw [unhide HL]; exact hlt), ofS_snoc, ← unhide HA, ← unhide HC]; exact hnum3
              · rw [take_snoc (by rw [unhide HL]; exact hlt), okD_snoc, ← unhide HC, unhide HO, unhide HI]; rfl
              · exact hbel.trans (hW3.mono hbel.size)
            case measure => simp [intOf]; omega
        · have hcb : (decide ((c : Int) < 48) || decide (57 < (c : Int))) = true := by simp; omega
          have hno : isD c = false := by rw [← Bool.not_eq_true, isD_iff]; exact hd
          have hf : okS (byts s) = false := by unfold okS; rw [okD_at (by rw [unhide HL]; exact hlt) (by rw [← unhide HC]; exact hno)]; simp
          have e1 : b = false := (unhide HB).trans hf
          have e2 : N = 0 := (unhide HN).trans (numS_no hf)
          clear hf hno
          subst e1 e2
          by_cases hc48 : (c : Int) < 48
          · go_wp2
            go_ret2
            exact ⟨_, _, _, rfl, numAt_nil _, hbel⟩
          · have hc57 : 57 < (c : Int) := by omega
            go_wp2
            go_ret2
            exact ⟨_, _, _, rfl, numAt_nil _, hbel⟩
      · have hj1 : k = s.size := by omega
        have e0 : (byts s).take k = byts s := by rw [hj1, ← unhide HL]; exact List.take_length
        have ht : okS (byts s) = true := okS_of (by rw [unhide HL]; omega) (by rw [unhide HL]; omega) (by rw [← e0]; exact unhide HO)
        have e1 : b = true := (unhide HB).trans ht
        have e2 : N = ofS (byts s) := (unhide HN).trans (numS_of ht)
        rw [e0, ← e2] at hnum
        clear e0 ht e2
        subst e1
        go_wp2
        go_ret2
        exact ⟨_, _, _, rfl, hnum, hbel⟩
#print axioms ofDigits_any
end Go.Proofs.Ytcafodggkhkpnaa

/-
  What digit.backwards does: the signs of a number's digits, the lowest first.
-/
namespace Go.Proofs.Ytcafodggkhkpnaa
open Go.RowKit Lb

theorem RowAt.grown {w w' : World} {ao : Option Addr} {len cap : Nat} {xs : List Nat} {row : Option Nat} (h : RowAt w ao len cap xs) (hg : w.grownBy w' row) (hd : 0 < len → ∀ b off, ao = some ⟨b, off, none⟩ → some b ≠ row) : RowAt w' ao len cap xs := by
  refine ⟨h.len_eq, h.cap_le, h.cap_max, h.nil_cap, h.small, fun hp => ?_⟩
  obtain ⟨b, off, e, hlt, hc⟩ := h.cells hp
  exact ⟨b, off, e, Nat.lt_of_lt_of_le hlt hg.size, fun i hi => (World.cell?_of_block (a := ⟨b, off + i, none⟩) (hg.block b hlt (hd hp b off e))).trans (hc i hi)⟩
theorem NumAt.grown {w w' : World} {ao : Option Addr} {len cap N : Nat} {row : Option Nat} (h : NumAt w ao len cap N) (hg : w.grownBy w' row) (hd : 0 < len → ∀ b off, ao = some ⟨b, off, none⟩ → some b ≠ row) : NumAt w' ao len cap N := by
  obtain ⟨xs, h1, h2⟩ := h
  exact ⟨xs, h1.grown hg hd, h2⟩
theorem Typed.grown {w w' : World} {ao : Option Addr} {len : Nat} {row : Option Nat} (h : Typed w ao len) (hg : w.grownBy w' row) (hd : 0 < len → ∀ b off, ao = some ⟨b, off, none⟩ → some b ≠ row) : Typed w' ao len := by
  intro hp
  obtain ⟨b, off, cur, fr, e, hb⟩ := h hp
  exact ⟨b, off, cur, fr, e, (hg.block b (lt_of_block hb) (hd hp b off e)).trans hb⟩
theorem Typed.later {w w' : World} {ao : Option Addr} {len : Nat} (h : Typed w ao len) (hb : Below w.heap.size w w') : Typed w' ao len := by
  intro hp
  obtain ⟨b, off, cur, fr, e, hh⟩ := h hp
  exact ⟨b, off, cur, fr, e, (hb.block b (lt_of_block hh)).trans hh⟩
/-- A row of bytes and a row of limbs lie apart. -/
theorem BOwn.apart {w : World} {base n : Nat} {v : Value} {xs : List Nat} {ao : Option Addr} {len : Nat} (h : BOwn w base v n xs) (t : Typed w ao len) : 0 < len → ∀ b off, ao = some ⟨b, off, none⟩ → some b ≠ v.ownBlock := by
  intro hp b off e hcon
  obtain ⟨b', off', cur', fr', e', hb'⟩ := t hp
  rw [e] at e'
  simp only [Option.some.injEq, Addr.mk.injEq, and_true] at e'
  obtain ⟨rfl, rfl⟩ := e'
  rcases h.2 with ⟨h', _⟩ | ⟨g, cap, cur, h', _, hg, _⟩
  · subst h'; simp [Value.ownBlock] at hcon
  · subst h'
    simp only [Value.ownBlock, Option.some.injEq] at hcon
    subst hcon
    rw [hg] at hb'
    simp at hb'
theorem BOwn.block_ge {w : World} {base n : Nat} {v : Value} {xs : List Nat} (h : BOwn w base v n xs) : ∀ k, v.ownBlock = some k → base ≤ k := by
  intro k hk
  rcases h.2 with ⟨h', _⟩ | ⟨g', cap', cur, h', hb, _⟩
  · subst h'; simp [Value.ownBlock] at hk
  · subst h'; simp [Value.ownBlock] at hk; omega
theorem ten_limbs (k : Nat) : Bp k ≤ 10 ^ (10 * k) := by
  unfold Bp
  rw [Nat.pow_mul]
  exact Nat.pow_le_pow_left (by omega) k
theorem digits_le {N n k : Nat} (h1 : 10 ^ n ≤ N) (h2 : N < Bp k) : n ≤ 10 * k := by
  rcases Nat.lt_or_ge (10 * k) n with c | c
  · have h3 := ten_limbs k
    have h4 : 10 ^ (10 * k) ≤ 10 ^ n := Nat.pow_le_pow_right (by omega) (by omega)
    omega
  · exact c
/-- The signs so far. -/
def Signs (N n : Nat) (bs : List Nat) : Prop := bs.length = n ∧ ∀ i, i < n → lim bs i = 48 + dig N i
theorem signs_nil (N : Nat) : Signs N 0 [] := ⟨rfl, fun i h => absurd h (by omega)⟩
theorem Signs.more {N n : Nat} {bs : List Nat} (h : Signs N n bs) : Signs N (n + 1) (bs ++ [48 + dig N n]) := by
  refine ⟨by simp [h.1], fun i hi => ?_⟩
  rw [lim_snoc, h.1]
  split
  · next e => rw [e]
  · exact h.2 i (by omega)
theorem Signs.bytes {N n : Nat} {bs : List Nat} (h : Signs N n bs) : Bytes bs := by
  intro i
  rcases Nat.lt_or_ge i n with c | c
  · have := dig_lt N i
    rw [h.2 i c]; omega
  · rw [lim_out (by rw [h.1]; exact c)]; omega

set_option maxRecDepth 20000 in
set_option maxHeartbeats 4000000 in
theorem backwards_any (ao : Option Addr) (len cap N : Nat) (w : World) (h : ValAt w ao len cap N) (hlen : len ≤ 1000000) :
    Calls Try.prog 76 #[.slice ao len cap] w fun e w' => ∃ ao' n cap' bs, e = .returned (.slice ao' n cap') ∧ BRowAt w' ao' n cap' bs ∧ Signs N n bs ∧ N < 10 ^ n ∧ n ≤ 10000009 ∧ Below w.heap.size w w' := by
  have hNl : N < Bp len := h.lt (Nat.le_refl _)
  have HN := hide hNl
  clear hNl
  go_enter Try.func76, Try.ntmps76
  go_wp2
  go_loopg [0, 3] (N + len) (fun g x v wr => ∃ (a1 : Option Addr) (l1 c1 n A : Nat) (bs : List Nat), x = .slice a1 l1 c1 ∧ ValAt wr a1 l1 c1 A ∧ A = N / 10 ^ n ∧ g = A + l1 ∧ l1 ≤ len ∧ (n = 0 ∨ l1 = 0 ∨ 0 < A) ∧ n ≤ 10 * len + 9 ∧ BOwn wr w.heap.size v n bs ∧ Signs N n bs ∧ Below w.heap.size w wr)
  case atStart => exact ⟨ao, len, cap, 0, N, [], rfl, h, by simp, rfl, by omega, Or.inl rfl, by omega, bown_none _ _, signs_nil _, Below.refl _ _⟩
  case round =>
    obtain ⟨a1, l1, c1, n, A, bs, rfl, hval, hA, hg, hl1, hz, hn, hown, hsg, hbel⟩ := hrel
    have HA := hide hA
    have HG := hide hg
    have HZ := hide hz
    have HS := hide hsg
    clear hA hg hz hsg
    by_cases hp : 0 < l1
    · have hp' : (0 : Int) < (l1 : Int) := by omega
      obtain ⟨xs1, hx1, hv1⟩ := hval
      have HV := hide hv1
      have hAl : A < Bp l1 := by rw [← hv1]; exact row_lt hx1 (Nat.le_refl _)
      have HAl := hide hAl
      clear hv1 hAl
      go_wp2_with fail
      refine (over_typed _ _ _ xs1 1000000000 wr hx1 (by omega) (by omega) (by omega)).mono ?_
      rintro e w2 ⟨a2, l2, c2, rfl, hnum2, hb2, ht2⟩
      rw [unhide HV] at hnum2 ⊢
      obtain ⟨P, hP⟩ : ∃ P, P = A % 1000000000 := ⟨_, rfl⟩
      rw [← hP]
      have hP9 : P < 1000000000 := by rw [hP]; exact Nat.mod_lt _ (by omega)
      have HP := hide hP
      have hown2 := hown.later hb2
      have hbel2 := hbel.trans (hb2.mono hbel.size)
      clear hP hown hb2 hbel hx1
      have hn9 : n ≤ 10 * len := by
        rcases unhide HZ with h0 | h0 | h0
        · omega
        · omega
        · refine digits_le (ge_of_div (k := n) (N := N) ?_) (unhide HN)
          rw [← unhide HA]; omega
      go_wp2_with fail
      go_loopw [3, 4, 14] (fun v p i w3 => ∃ (j q : Nat) (bs' : List Nat), j ≤ 9 ∧ i = .int .i64 j ∧ p = .int .u32 q ∧ q = P / 10 ^ j ∧ BOwn w3 w.heap.size v (n + j) bs' ∧ Signs N (n + j) bs' ∧ NumAt w3 a2 l2 c2 (A / 1000000000) ∧ Typed w3 a2 l2 ∧ Below w.heap.size w w3) (fun _ _ i _ => 9 - (intOf i).toNat)
      case atStart => exact ⟨0, P, bs, by omega, rfl, rfl, by simp, hown2, unhide HS, hnum2, ht2, hbel2⟩
      case round =>
        obtain ⟨j, q, bs', hj, rfl, rfl, hq, hown3, hsg3, hnum3, ht3, hbel3⟩ := hrel
        have HQ := hide hq
        have HS3 := hide hsg3
        have hq9 : q < 1000000000 := by rw [hq]; exact Nat.lt_of_le_of_lt (Nat.div_le_self _ _) hP9
        clear hq hsg3 hown2 hnum2 ht2 hbel2
        by_cases hj9 : j < 9
        · have hqd : q % 10 = dig N (n + j) := by rw [unhide HQ, unhide HP, unhide HA]; exact dig_group N n j hj9
          have HD := hide hqd
          clear hqd
          have hyc : (48 + (q : Int) % 10) = ((48 + dig N (n + j) : Nat) : Int) := by rw [← unhide HD]; omega
          have HY := hide hyc
          clear hyc
          go_wp2_with (at_builtin; refine append_byte rfl _ _ rfl w.heap.size _ (n + j) bs' rfl ?_ wr.heap.size 1 (48 + dig N (n + j)) rfl ?_ (by omega) ?_ ?_)
          · exact hown3.later (below_one _ _)
          · rw [unhide HY]; simp
          · exact Nat.le_trans hbel3.size (by simp)
          · intro v' w4 hown4 hgrow4
            have hap := BOwn.apart (hown3.later (below_one wr (.cells #[.int .u8 (48 + (q : Int) % 10)] 5))) (ht3.later (below_one _ _))
            have hnum4 := (hnum3.later (below_one _ _)).grown hgrow4 hap
            have ht4 := (ht3.later (below_one _ _)).grown hgrow4 hap
            have hbel4 : Below w.heap.size w w4 := (hbel3.alloc hbel3.size _).grown hgrow4 (Nat.le_trans hbel3.size (by simp)) (fun k hk => hown3.block_ge k hk)
            clear hap hgrow4 hnum3 ht3 hbel3 hown3
            go_wp2
            go_roundw
            case rel =>
              refine ⟨j + 1, q / 10, _, by omega, by go_num, by go_num, ?_, hown4, (unhide HS3).more, hnum4, ht4, hbel4⟩
              rw [unhide HQ, div_more]
            case measure => simp [intOf]; omega
        · obtain rfl : j = 9 := by omega
          have hA2 : A / 1000000000 = N / 10 ^ (n + 9) := by rw [unhide HA, div_group]
          have hl2 : l2 ≤ l1 := hnum3.len_le (Nat.lt_of_le_of_lt (Nat.div_le_self _ _) (unhide HAl))
          have hz2 : l2 = 0 ∨ 0 < A / 1000000000 := by
            rcases Nat.eq_zero_or_pos (A / 1000000000) with e | e
            · left
              rw [e] at hnum3
              exact hnum3.len_zero
            · exact Or.inr e
          have hm : A / 1000000000 + l2 < A + l1 := by
            rcases Nat.eq_zero_or_pos A with e | e
            · have e2 : A / 1000000000 = 0 := by rw [e]
              rw [e2] at hz2
              omega
            · have := Nat.div_lt_self e (show 1 < 1000000000 by omega)
              omega
          have HA2 := hide hA2
          have HZ2 := hide hz2
          have HM := hide hm
          clear hA2 hz2 hm
          go_wp2
          go_roundg (A / 1000000000 + l2)
          case measure => rw [unhide HG]; exact unhide HM
          case rel => exact ⟨a2, l2, c2, n + 9, A / 1000000000, bs', rfl, hnum3.val, unhide HA2, rfl, by omega, Or.inr (unhide HZ2), by omega, hown3, unhide HS3, hbel3⟩
    · have hl0 : l1 = 0 := by omega
      have hA0 : A = 0 := by
        have := hval.lt (k := 0) (by omega)
        rw [Bp_zero] at this
        omega
      have hlt : N < 10 ^ n := lt_of_div (by rw [← unhide HA]; exact hA0)
      have HLT := hide hlt
      clear hA0 hlt
      go_wp2
      go_ret
      obtain ⟨a', c', rfl, hr⟩ := browAt_owned hown (unhide HS).bytes
      exact ⟨a', n, c', bs, rfl, hr, unhide HS, unhide HLT, by omega, hbel⟩
#print axioms backwards_any
end Go.Proofs.Ytcafodggkhkpnaa

/-
  What digit.Text and digit.Len do: the digits of a number, and how many they are (IN PARTS).
-/
namespace Go.Proofs.Ytcafodggkhkpnaa
open Go.RowKit Lb

theorem sgn_is {N n : Nat} {ts : List Nat} (hl : ts.length = n) (h : ∀ i, i < n → lim ts i = 48 + dig N (n - 1 - i)) : ts = sgn N n := by
  apply ext_lim
  · rw [hl, sgn_length]
  · intro i hi
    rw [hl] at hi
    rw [h i hi, lim_sgn N hi]
theorem bytes_sgn (N n : Nat) : Bytes (sgn N n) := by
  intro i
  rcases Nat.lt_or_ge i n with c | c
  · have := dig_lt N (n - 1 - i)
    rw [lim_sgn N c]; omega
  · rw [lim_out (by rw [sgn_length]; exact c)]; omega

set_option maxRecDepth 20000 in
set_option maxHeartbeats 4000000 in
theorem text_any (ao : Option Addr) (len cap N : Nat) (w : World) (h : ValAt w ao len cap N) (hlen : len ≤ 1000000) :
    Calls Try.prog 49 #[.slice ao len cap] w fun e w' => ∃ n s, e = .returned (.string s) ∧ byts s = sgn N n ∧ IsLen N n ∧ Below w.heap.size w w' := by
  go_enter Try.func49, Try.ntmps49
  go_wp2_with fail
  refine (backwards_any _ _ _ N w h hlen).mono ?_
  rintro e w1 ⟨a1, n, c1, bs, rfl, hr, hsg, hlt, hn, hb1⟩
  have HS := hide hsg
  have HT := hide hlt
  clear hsg hlt h
  go_wp2
  go_loop [4] (fun i => ∃ k : Nat, k ≤ n ∧ i = .int .i64 k ∧ N < 10 ^ k) (fun i => (intOf i).toNat)
  case atStart => exact ⟨n, Nat.le_refl _, rfl, unhide HT⟩
  case round =>
    obtain ⟨k, hk, rfl, hkt⟩ := hrel
    have HK := hide hkt
    clear hkt
    by_cases hp : 0 < k
    · obtain ⟨b, off, rfl, hb, hc⟩ := hr.cells (by omega)
      have hck := hc (k - 1) (by omega)
      rw [(unhide HS).2 (k - 1) (by omega)] at hck
      have hdl := dig_lt N (k - 1)
      by_cases hd : dig N (k - 1) = 0
      · rw [hd] at hck
        have hlt2 : N < 10 ^ (k - 1) := lt_down (k := k - 1) (by rw [Nat.sub_add_cancel hp]; exact unhide HK) hd
        have HL := hide hlt2
        clear hc hlt2 hd hdl
        go_wp2
        go_round
        case rel => exact ⟨k - 1, by omega, by go_num, unhide HL⟩
        case measure => simp [intOf]; omega
      · have hne : (((48 + dig N (k - 1) : Nat) : Int) == 48) = false := by rw [beq_eq_false_iff_ne]; omega
        have hne2 : ((48 + (dig N (k - 1) : Int)) == 48) = false := by rw [beq_eq_false_iff_ne]; omega
        have hk0 : ((k : Int) == 0) = false := by rw [beq_eq_false_iff_ne]; omega
        have hil : IsLen N k := isLen_of hp (unhide HK) hd
        have HI := hide hil
        have HC := hide hc
        clear hil hc hd hdl
        go_wp2_with (at_make; refine make_bytes rfl _ _ rfl w1.heap.size .i64 .i64 _ _ k rfl rfl (by omega) (by omega) (by omega) (Nat.le_refl _) ?_)
        intro w2 hown2 hgrow2
        have hb2 : Below w1.heap.size w1 w2 := (Below.refl _ _).grown hgrow2 (Nat.le_refl _) (fun _ h => by simp at h)
        clear hgrow2 hck hne hne2
        go_wp2_with fail
        go_loopw [29] (fun i wr => ∃ (m : Nat) (ts : List Nat), m ≤ k ∧ i = .int .i64 m ∧ BOwn wr w1.heap.size (.slice (some ⟨w1.heap.size, 0, none⟩) k k) k ts ∧ (∀ i, i < m → lim ts i = 48 + dig N (k - 1 - i)) ∧ Below w1.heap.size w1 wr) (fun i _ => k - (intOf i).toNat)
        case atStart => exact ⟨0, _, by omega, rfl, hown2, fun i hi => absurd hi (by omega), hb2⟩
        case round =>
          obtain ⟨m, ts, hm, rfl, hown, hts, hbw⟩ := hrel
          have HTS := hide hts
          clear hts hown2 hb2
          by_cases hmk : m < k
          · have hcb := unhide HC (k - 1 - m) (by omega)
            rw [(unhide HS).2 (k - 1 - m) (by omega)] at hcb
            have hcb2 : wr.cell? ⟨b, off + (k - 1 - m), none⟩ = some (.int .u8 ((48 + dig N (k - 1 - m) : Nat) : Int)) := (hbw.cell (p := ⟨b, off + (k - 1 - m), none⟩) hb).trans hcb
            obtain ⟨d, hd⟩ : ∃ d, d = 48 + dig N (k - 1 - m) := ⟨_, rfl⟩
            rw [← hd] at hcb2
            have HD := hide hd
            have hcs := hown.cell (i := m) hmk
            have hcf := hown.free m
            have e1 : off + ((k : Int) - 1 - (m : Int)).toNat = off + (k - 1 - m) := by omega
            clear hd hcb
            go_wp2
            go_roundw
            case rel =>
              refine ⟨m + 1, ts.set m d, by omega, by go_num, hown.set m d rfl, fun i hi => ?_, hbw.setCell (by simp) _⟩
              rw [lim_set _ _ _ _ (by rw [hown.len]; exact hmk)]
              split
              · next e => rw [e]; exact unhide HD
              · exact unhide HTS i (by omega)
            case measure => simp [intOf]; omega
          · obtain rfl : m = k := by omega
            have hts : ts = sgn N m := sgn_is hown.len (unhide HTS)
            subst hts
            have hcv := run_string wr _ _ _ _ (browAt_own hown (bytes_sgn N m))
            go_wp2
            go_ret
            exact ⟨m, _, rfl, byts_strB (bytes_sgn N m), unhide HI, hb1.trans (hbw.mono hb1.size)⟩
    · have hk0 : k = 0 := by omega
      have hN0 : N = 0 := by
        have := unhide HK
        rw [hk0] at this
        omega
      have hkb : ((k : Int) == 0) = true := by simp [hk0]
      have HN := hide hN0
      clear hN0 hk0
      go_wp2
      go_ret
      exact ⟨1, _, rfl, by rw [unhide HN]; rfl, by rw [unhide HN]; exact isLen_zero, hb1⟩

#print axioms text_any
end Go.Proofs.Ytcafodggkhkpnaa

/-
  What the reference's Digits does: the digits of a number.
-/
namespace Go.Proofs.Ytcafodggkhkpnaa
open Go.RowKit Lb

set_option maxRecDepth 20000 in
set_option maxHeartbeats 4000000 in
theorem digits_any (ao : Option Addr) (len cap N : Nat) (w : World) (h : ValAt w ao len cap N) (hlen : len ≤ 100000) :
    Calls Try.prog 45 #[.slice ao len cap] w fun e w' => ∃ n s, e = .returned (.string s) ∧ byts s = sgn N n ∧ IsLen N n ∧ Below w.heap.size w w' := by
  have hNl : N < Bp len := h.lt (Nat.le_refl _)
  have HN := hide hNl
  obtain ⟨xs, hx, hv⟩ := h
  have HV := hide hv
  clear hNl hv
  go_enter Try.func45, Try.ntmps45
  go_wp2_with fail
  refine (rtrim_any _ _ _ xs w hx (by omega)).mono ?_
  rintro e w1 ⟨a1, l1, c1, rfl, hnum, hb1⟩
  rw [unhide HV] at hnum
  clear hx
  have hl1 : l1 ≤ len := hnum.len_le (unhide HN)
  by_cases hz : l1 = 0
  · have hN0 : N = 0 := by
      have := hnum.val.lt (k := 0) (by omega)
      rw [Bp_zero] at this
      omega
    have hzb : ((l1 : Int) == 0) = true := by simp [hz]
    have HN0 := hide hN0
    clear hN0 hz
    go_wp2
    go_ret
    exact ⟨1, _, rfl, by rw [unhide HN0]; rfl, by rw [unhide HN0]; exact isLen_zero, hb1⟩
  · have hzb : ((l1 : Int) == 0) = false := by rw [beq_eq_false_iff_ne]; omega
    go_wp2
    go_loopg [3, 4] N (fun g x y wr => ∃ (a1 : Option Addr) (l1 c1 k A : Nat) (sr : ByteArray), x = .slice a1 l1 c1 ∧ NumAt wr a1 l1 c1 A ∧ A = N / 10 ^ k ∧ g = A ∧ y = .string sr ∧ byts sr = sgn N k ∧ l1 ≤ len ∧ (0 < l1 ∨ (0 < k ∧ 10 ^ (k - 1) ≤ N)) ∧ Below w.heap.size w wr)
    case atStart => exact ⟨a1, l1, c1, 0, N, _, rfl, hnum, by simp, rfl, rfl, rfl, hl1, Or.inl (by omega), hb1⟩
    case round =>
      obtain ⟨a2, l2, c2, k, A, sr, rfl, hnum2, hA, hg, rfl, hsr, hl2, hk, hb2⟩ := hrel
      have HA := hide hA
      have HG := hide hg
      have HR := hide hsr
      have HK := hide hk
      clear hA hg hsr hk hnum hb1
      by_cases hp : 0 < l2
      · have hA0 : 0 < A := by
          rcases Nat.eq_zero_or_pos A with e | e
          · rw [e] at hnum2
            have := hnum2.len_zero
            omega
          · exact e
        have hkN : 10 ^ k ≤ N := ge_of_div (by rw [← unhide HA]; omega)
        have hkl : k ≤ 10 * len := digits_le hkN (unhide HN)
        have hsz : sr.size = k := by rw [← byts_length, unhide HR, sgn_length]
        have HKN := hide hkN
        have HSZ := hide hsz
        have hsz2 : sr.size ≤ 1000000 := by omega
        have HA0 := hide hA0
        clear hkN hsz hA0
        go_wp2_with fail
        refine (rdivmod_num _ _ _ A _ _ _ 10 _ (hnum2.val.later (below_one _ _)) ⟨[10], rowAt_one rfl (by omega), val_one 10⟩ (by omega) (by omega) (by omega)).mono ?_
        rintro e w3 ⟨a3, l3, c3, a4, l4, c4, rfl, hn3, hn4, hb3⟩
        have hb4 := hb2.trans ((Below.step (below_one _ _) hb3).mono hb2.size)
        obtain ⟨ys, hy, ny, vy⟩ := hn4
        clear hb3 hb2 hnum2
        go_wp2_with fail
        refine (rlimb_any _ _ _ ys _ 0 _ hy rfl).mono ?_
        rintro e w4 ⟨rfl, rfl⟩
        obtain ⟨d, hd⟩ : ∃ d, d = lim ys 0 := ⟨_, rfl⟩
        rw [← hd]
        have hdA : d = A % 10 := by
          have h1 := val_first (xs := ys) (k := 1) (by rw [vy, Bp_one]; omega)
          rw [vy] at h1
          rw [hd, h1]
          simp [pre, Bp]
        have hdN : d = dig N k := by rw [hdA, unhide HA]; rfl
        have hd10 : d < 10 := by omega
        have HDN := hide hdN
        have hrow := browAt_one (w := w3) (e := 48 + (d : Int)) (48 + d) (by omega) (by omega)
        have hcv := run_string _ _ _ _ _ hrow
        have hsz1 : (strB [48 + d]).size = 1 := strB_size _
        have HBY := hide (byts_strB hrow.small)
        clear hd hdA hdN hy ny vy hrow
        go_wp2
        go_roundg (A / 10)
        case measure => rw [unhide HG]; exact Nat.div_lt_self (unhide HA0) (by omega)
        case rel =>
          refine ⟨a3, l3, c3, k + 1, A / 10, _, rfl, hn3.later (below_one _ _), ?_, rfl, rfl, ?_, ?_, ?_, hb4.alloc hb4.size _⟩
          · rw [unhide HA, div_more]
          · rw [byts_append, unhide HBY, unhide HR, unhide HDN]; rfl
          · refine hn3.len_le (Nat.lt_of_le_of_lt ?_ (unhide HN))
            rw [unhide HA]
            exact Nat.le_trans (Nat.div_le_self _ _) (Nat.div_le_self _ _)
          · exact Or.inr ⟨by omega, unhide HKN⟩
      · have hl0 : l2 = 0 := by omega
        have hA0 : A = 0 := by
          have := hnum2.val.lt (k := 0) (by omega)
          rw [Bp_zero] at this
          omega
        have hil : IsLen N k := by
          rcases unhide HK with h1 | ⟨h1, h2⟩
          · omega
          · exact ⟨h1, lt_of_div (by rw [← unhide HA]; exact hA0), Or.inr h2⟩
        have HIL := hide hil
        clear hA0 hil
        go_wp2
        go_ret
        exact ⟨k, sr, rfl, unhide HR, unhide HIL, hb2⟩
#print axioms digits_any
end Go.Proofs.Ytcafodggkhkpnaa
