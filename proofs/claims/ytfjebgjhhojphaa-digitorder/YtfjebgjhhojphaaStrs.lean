/-
  The bytes of a string ('byts'), and rows of bytes: one that the call itself made ('BOwn'), one that is read ('BRowAt'); string(row).
-/
import Derived.Test.YtfjebgjhhojphaaRow
import Derived.Test.YtfjebgjhhojphaaRowIn
import Derived.Test.YtfjebgjhhojphaaDig
import Derived.Laws.BytesArg
import Derived.Laws.IdiomStrings
namespace Go.Proofs.Ytfjebgjhhojphaa
open Go.RowKit Lb

theorem below_one (w : World) (o : Obj) : Below w.heap.size w (w.alloc o) := (Below.refl _ _).alloc (Nat.le_refl _) o

/-- The bytes of a string, as numbers. -/
def byts (s : ByteArray) : List Nat := s.data.toList.map UInt8.toNat
/-- The string of these bytes. -/
def strB (l : List Nat) : ByteArray := ⟨(l.map UInt8.ofNat).toArray⟩
def Bytes (l : List Nat) : Prop := ∀ i, lim l i < 256

theorem byts_length (s : ByteArray) : (byts s).length = s.size := by
  unfold byts
  rw [List.length_map, Array.length_toList]
  rfl
theorem byts_small (s : ByteArray) : Bytes (byts s) := fun i => by
  unfold lim byts
  by_cases h : i < s.data.toList.length
  · have := UInt8.toNat_lt (s.data.toList[i])
    simp only [List.getD_eq_getElem?_getD, List.getElem?_map, List.getElem?_eq_getElem h, Option.map_some, Option.getD_some]
    omega
  · simp [List.getElem?_eq_none (Nat.le_of_not_lt h)]
theorem byts_append (a b : ByteArray) : byts (a ++ b) = byts a ++ byts b := by simp [byts, ByteArray.data_append]
theorem byts_extract (s : ByteArray) (a b : Nat) : byts (s.extract a b) = ((byts s).drop a).take (b - a) := by
  simp [byts, ByteArray.data_extract, List.map_take, List.map_drop]
theorem byts_at (s : ByteArray) (i : Nat) (h : i < s.size) : (s[i]'h).toNat = lim (byts s) i := by
  have h' : i < s.data.size := h
  simp only [lim, byts, List.getD_eq_getElem?_getD, List.getElem?_map, Array.getElem?_toList]
  rw [Array.getElem?_eq_getElem h']
  rfl
theorem map_toNat_inj {x y : List UInt8} (h : x.map UInt8.toNat = y.map UInt8.toNat) : x = y := by
  induction x generalizing y with
  | nil => cases y with
    | nil => rfl
    | cons b y => simp at h
  | cons a x ih => cases y with
    | nil => simp at h
    | cons b y =>
      simp only [List.map_cons, List.cons.injEq] at h
      rw [UInt8.toNat_inj.1 h.1, ih h.2]
theorem byts_eql (a b : ByteArray) : (a.toList == b.toList) = decide (byts a = byts b) := by
  rw [ByteArray.toList_eq, ByteArray.toList_eq]
  unfold byts
  by_cases h : a.data.toList = b.data.toList
  · rw [h]; simp
  · have h2 : ¬ (a.data.toList.map UInt8.toNat = b.data.toList.map UInt8.toNat) := fun e => h (map_toNat_inj e)
    rw [decide_eq_false h2, beq_eq_false_iff_ne]
    exact h
theorem less_map : ∀ (x y : List UInt8), Op.bytesLess x y = decide (x.map UInt8.toNat < y.map UInt8.toNat)
  | [], [] => by simp [Op.bytesLess]
  | _ :: _, [] => by simp [Op.bytesLess]
  | [], _ :: _ => by simp [Op.bytesLess]
  | a :: x, b :: y => by
    rw [Op.bytesLess, less_map x y, List.map_cons, List.map_cons]
    simp only [List.cons_lt_cons_iff, Bool.decide_or, Bool.decide_and]
    congr 2
    by_cases h : a = b
    · subst h; simp
    · have h2 : ¬ (a.toNat = b.toNat) := fun e => h (UInt8.toNat_inj.1 e)
      rw [decide_eq_false h2, beq_eq_false_iff_ne]; exact h
theorem byts_less (a b : ByteArray) : Op.bytesLess a.toList b.toList = decide (byts a < byts b) := by
  rw [ByteArray.toList_eq, ByteArray.toList_eq]
  exact less_map _ _
theorem byts_strB {l : List Nat} (h : Bytes l) : byts (strB l) = l := by
  unfold byts strB
  apply ext_lim
  · simp
  · intro i hi
    have hi' : i < l.length := by simpa using hi
    have := h i
    simp only [lim, List.getD_eq_getElem?_getD, List.getElem?_map, List.getElem?_eq_getElem hi', Option.map_some, Option.getD_some] at this ⊢
    simp [UInt8.toNat_ofNat']
    omega
theorem strB_size (l : List Nat) : (strB l).size = l.length := by simp [strB, ByteArray.size]
theorem strB_byts (s : ByteArray) : strB (byts s) = s := by
  apply ByteArray.ext
  have e : (UInt8.ofNat ∘ UInt8.toNat) = id := by funext x; simp
  simp [strB, byts, e]
theorem str_ext {a b : ByteArray} (h : byts a = byts b) : a = b := by rw [← strB_byts a, h, strB_byts]

/-- A byte as a value. -/
def bv (x : Nat) : Value := .int .u8 (x : Int)
theorem map_set_bv (xs : List Nat) (j v : Nat) {e : Int} (h : e = (v : Int)) : (xs.map bv).set j (.int .u8 e) = (xs.set j v).map bv := by
  rw [List.map_set, h]; rfl

/-- The slice reads as the bytes xs. -/
structure BRowAt (w : World) (ao : Option Addr) (len cap : Nat) (xs : List Nat) : Prop where
  len_eq : xs.length = len
  cap_le : len ≤ cap
  cap_max : cap ≤ maxLen
  nil_cap : ao = none → cap = 0
  small : Bytes xs
  cells : 0 < len → ∃ b off, ao = some ⟨b, off, none⟩ ∧ b < w.heap.size ∧ ∀ i, i < len → w.cell? ⟨b, off + i, none⟩ = some (.int .u8 (lim xs i : Int))
theorem BRowAt.later {w w' : World} {ao : Option Addr} {len cap : Nat} {xs : List Nat} (h : BRowAt w ao len cap xs) (hb : Below w.heap.size w w') : BRowAt w' ao len cap xs := by
  refine ⟨h.len_eq, h.cap_le, h.cap_max, h.nil_cap, h.small, fun hp => ?_⟩
  obtain ⟨b, off, e, hlt, hc⟩ := h.cells hp
  exact ⟨b, off, e, Nat.lt_of_lt_of_le hlt hb.size, fun i hi => (hb.cell (p := ⟨b, off + i, none⟩) hlt).trans (hc i hi)⟩
theorem browAt_nil (w : World) : BRowAt w none 0 0 [] :=
  ⟨rfl, Nat.le_refl _, Nat.zero_le _, fun _ => rfl, fun i => by rw [lim_nil]; omega, fun h => absurd h (by omega)⟩
/-- A slice of bytes that came in. -/
theorem browAt_of {w : World} {a : Option Addr} {len cap : Nat} {zs : List Int} (h : (a = none ∧ len = 0 ∧ cap = 0 ∧ zs = []) ∨
    ∃ x, a = some x ∧ len ≤ cap ∧ cap ≤ maxLen ∧ zs.length = cap ∧ (∀ i, i < zs.length → w.cell? (x.add i) = some (.int .u8 (zs.getD i 0))) ∧ ∀ n ∈ zs, (Lit.int .u8 n).wf = true) : ∃ xs, BRowAt w a len cap xs := by
  rcases h with ⟨rfl, rfl, rfl, rfl⟩ | ⟨⟨b, off, spot⟩, rfl, hl, hm, hz, hcell, hwz⟩
  · exact ⟨[], browAt_nil w⟩
  · have hbd : ∀ n ∈ zs, 0 ≤ n ∧ n ≤ 255 := fun n hn => bounds_u8 (hwz n hn)
    refine ⟨(zs.take len).map Int.toNat, ⟨by simp; omega, hl, hm, fun e => by simp at e, ?_, fun hp => ?_⟩⟩
    · intro i
      by_cases hi : i < ((zs.take len).map Int.toNat).length
      · rw [lim_get hi]
        obtain ⟨y, hy, e⟩ := List.mem_map.1 (List.getElem_mem hi)
        have := hbd y (List.mem_of_mem_take hy)
        omega
      · rw [lim_out (by omega)]; omega
    · have hc := hcell 0 (by omega)
      obtain rfl : spot = none := by simpa [Addr.add] using World.cell?_spot hc
      refine ⟨b, off, rfl, ?_, fun i hi => ?_⟩
      · rcases Nat.lt_or_ge b w.heap.size with c | c
        · exact c
        · simp [Addr.add, World.cell?, Array.getElem?_eq_none c] at hc
      · have h1 := hcell i (by omega)
        rw [Addr.add_lit] at h1
        rw [h1]
        have h2 : i < zs.length := by omega
        have h3 := hbd (zs[i]) (List.getElem_mem h2)
        have e : lim ((zs.take len).map Int.toNat) i = (zs[i]).toNat := by simp [lim, hi, h2]
        rw [e]
        simp only [List.getD_eq_getElem?_getD, List.getElem?_eq_getElem h2, Option.getD_some]
        congr 2
        omega

/-- The slice is a row of bytes that the call itself made, from block 'base' on. -/
def BOwn (w : World) (base : Nat) (v : Value) (n : Nat) (xs : List Nat) : Prop := w.ownsRow base 5 1 v n (xs.map bv)
theorem BOwn.len {w : World} {base n : Nat} {v : Value} {xs : List Nat} (h : BOwn w base v n xs) : xs.length = n := by simpa using h.1
theorem BOwn.later {w w' : World} {base n : Nat} {v : Value} {xs : List Nat} (h : BOwn w base v n xs) (hb : Below w.heap.size w w') : BOwn w' base v n xs := by
  refine ⟨h.1, ?_⟩
  rcases h.2 with h' | ⟨g, cap, cur, hv, hg, hh, r⟩
  · exact Or.inl h'
  · exact Or.inr ⟨g, cap, cur, hv, hg, by rw [hb.block g (lt_of_block hh)]; exact hh, r⟩
theorem bown_none (w : World) (base : Nat) : BOwn w base (.slice none 0 0) 0 [] := ⟨rfl, Or.inl ⟨rfl, rfl⟩⟩
theorem BOwn.cell {w : World} {base g n cap : Nat} {xs : List Nat} (h : BOwn w base (.slice (some ⟨g, 0, none⟩) n cap) n xs) {i : Nat} (hi : i < n) : w.cell? ⟨g, i, none⟩ = some (.int .u8 (lim xs i : Int)) := by
  have hl := h.len
  rw [World.ownsRow.cellAt h i (by omega)]
  simp [lim, bv, show i < xs.length by omega]
theorem BOwn.free {w : World} {base g n cap : Nat} {xs : List Nat} (h : BOwn w base (.slice (some ⟨g, 0, none⟩) n cap) n xs) (i : Nat) : w.frozen? ⟨g, i, none⟩ = false := World.ownsRow.frozenAt h i
theorem BOwn.set {w : World} {base g n cap : Nat} {xs : List Nat} (h : BOwn w base (.slice (some ⟨g, 0, none⟩) n cap) n xs) (j v : Nat) {e : Int} (he : e = (v : Int)) : BOwn (w.setCell ⟨g, j, none⟩ (.int .u8 e)) base (.slice (some ⟨g, 0, none⟩) n cap) n (xs.set j v) := by
  unfold BOwn
  rw [← map_set_bv xs j v he]
  exact (World.ownsRow.stored h j _).1
theorem browAt_own {w : World} {base g n cap : Nat} {xs : List Nat} (h : BOwn w base (.slice (some ⟨g, 0, none⟩) n cap) n xs) (hs : Bytes xs) : BRowAt w (some ⟨g, 0, none⟩) n cap xs := by
  have hl : xs.length = n := by simpa using h.1
  rcases h.2 with ⟨h', _⟩ | ⟨g', cap', cur, h', _, hg, hnc, hcm, hcs, htake⟩
  · simp at h'
  · simp only [Value.slice.injEq, Option.some.injEq, Addr.mk.injEq, and_true, true_and] at h'
    obtain ⟨rfl, rfl⟩ := h'
    exact ⟨hl, hnc, hcm, fun e => by simp at e, hs, fun _ => ⟨g, 0, rfl, lt_of_block hg, fun i hi => by rw [Nat.zero_add]; exact BOwn.cell h hi⟩⟩
theorem browAt_owned {w : World} {base n : Nat} {v : Value} {xs : List Nat} (h : BOwn w base v n xs) (hs : Bytes xs) : ∃ ao cap, v = .slice ao n cap ∧ BRowAt w ao n cap xs := by
  have hl : xs.length = n := by simpa using h.1
  rcases h.2 with ⟨h', hx⟩ | ⟨g', cap', cur, h', _⟩
  · have hn : n = 0 := by simpa using hx
    subst hn h'
    obtain rfl := List.eq_nil_of_length_eq_zero hl
    exact ⟨none, 0, rfl, browAt_nil w⟩
  · subst h'
    exact ⟨_, _, rfl, browAt_own h hs⟩
theorem info_u8 : (Try.prog.info? 5).map (fun i => (i.zero, i.size, i.bytes)) = some (some (.int .u8 0), 1, 1) := by kernel_rfl

/-- append(own row of bytes, one byte). -/
theorem append_byte {w : World} {ops : Array Oper} {rest : List Oper} {o : Oper} {a : Act} {Q : Exit → Act → World → Prop} (hgd : o.guard = none) (s x : Operand)
    (ho : o.op = .call { callee := .builtin .append, args := #[s, x], argTypes := #[27, 27] }) (base : Nat) (v : Value) (n : Nat) (xs : List Nat) (hs : a.eval s = v) (hown : BOwn w base v n xs)
    (b c : Nat) (y : Nat) (hx : a.eval x = .slice (some ⟨b, 0, none⟩) 1 c) (hcell : w.cell? ⟨b, 0, none⟩ = some (.int .u8 (y : Int))) (hb : n + 1 ≤ 1000000000) (hbase : base ≤ w.heap.size)
    (h : ∀ v' w', BOwn w' base v' (n + 1) (xs ++ [y]) → w.grownBy w' v.ownBlock → wpList Try.prog ops Q rest (a.put o.dst v') w') : wpList Try.prog ops Q (o :: rest) a w := by
  obtain ⟨i0, hi, hz0, hz1, hz2⟩ := info_parts info_u8
  refine wpList_append_own w hgd s x _ ho base 5 i0 (.int .u8 0) 1 1 Try.underlying27 hi hz0 hz1 hz2 rfl (by decide) v n (xs.map bv) hs hown ⟨b, 0, none⟩ 1 c ([y].map bv) hx rfl ?_ ?_ ?_ ?_ hbase ?_
  · intro j u hj
    cases j with
    | zero =>
      rw [Addr.add_lit, Nat.zero_add, hcell]
      simpa [bv] using hj
    | succ j => simp at hj
  · intro u hu
    obtain ⟨_, _, rfl⟩ := List.mem_map.1 hu
    rfl
  · unfold maxLen; omega
  · omega
  · intro v' w' h1 h2 _
    rw [← List.map_append] at h1
    exact h v' w' h1 h2

/-- make([]byte, n). -/
theorem make_bytes {w : World} {ops : Array Oper} {rest : List Oper} {o : Oper} {a : Act} {Q : Exit → Act → World → Prop} (hg : o.guard = none) (l c : Operand) (hop : o.op = Op.makeSlice 27 l c)
    (base : Nat) (kl kc : IntKind) (L C : Int) (n : Nat) (hl : a.eval l = .int kl L) (hc : a.eval c = .int kc C) (hL : L = (n : Int)) (hC : C = (n : Int)) (hn : n ≤ 1000000000) (hbase : base ≤ w.heap.size)
    (hK : ∀ w', BOwn w' base (.slice (some ⟨w.heap.size, 0, none⟩) n n) n (List.replicate n 0) → w.grownBy w' none → wpList Try.prog ops Q rest (a.put o.dst (.slice (some ⟨w.heap.size, 0, none⟩) n n)) w') :
    wpList Try.prog ops Q (o :: rest) a w := by
  obtain ⟨i0, hi, hz0, hz1, hz2⟩ := info_parts info_u8
  refine wpList_make_full w hg l c _ hop base 5 i0 (.int .u8 0) 1 Try.underlying27 hi hz0 hz1 kl kc L C n hl hc hL hC (by rw [hz2]; omega) (by unfold maxLen; omega) hbase ?_
  intro w' h1 h2
  refine hK w' ?_ h2
  unfold BOwn
  have e : (madeCells (Value.int .u8 0).cells (n * 1)).toList = (List.replicate n 0).map bv := by
    show (madeCells #[.int .u8 0] (n * 1)).toList = _
    rw [toList_madeCells_one, Nat.mul_one, List.map_replicate]
    rfl
  rw [← e]
  exact h1

/-- string(row). -/
theorem run_string (w : World) (ao : Option Addr) (len cap : Nat) (xs : List Nat) (h : BRowAt w ao len cap xs) : (convert 27 9 (.slice ao len cap)).run Try.prog w = .ok (.string (strB xs)) w := by
  rcases Nat.eq_zero_or_pos len with h0 | h0
  · subst h0
    obtain rfl := List.eq_nil_of_length_eq_zero h.len_eq
    cases ao with
    | none => exact run_convert_bytes_nil w 27 5 Try.underlying27 Try.underlying5 0 cap 9 Try.underlying9
    | some ad =>
      have := run_convert_bytes_back (P := Try.prog) w 27 9 5 ad cap [] Try.underlying27 Try.underlying5 Try.underlying9 (fun j hj => by simp at hj)
      exact this
  · obtain ⟨b, off, rfl, _, hc⟩ := h.cells h0
    have := run_convert_bytes_arg (P := Try.prog) w 27 5 Try.underlying27 Try.underlying5 b off len cap (xs.map (fun x : Nat => (x : Int))) (by simp [h.len_eq])
      (fun i hi => by
        rw [hc i hi]
        have hi' : i < xs.length := by rw [h.len_eq]; exact hi
        simp [lim, hi']) 9 Try.underlying9
    rw [this]
    unfold strOfNums strB
    rw [List.map_map]
    rfl
/-- string of one byte. -/
theorem browAt_one {w : World} {e : Int} (a : Nat) (he : e = (a : Int)) (ha : a < 256) : BRowAt (w.alloc (.cells #[.int .u8 e] 5)) (some ⟨w.heap.size, 0, none⟩) 1 1 [a] := by
  subst he
  refine ⟨rfl, Nat.le_refl _, by unfold maxLen; omega, fun h => by simp at h, fun i => ?_, fun _ => ⟨_, _, rfl, by simp, fun i hi => ?_⟩⟩
  · cases i with
    | zero => simpa [lim] using ha
    | succ i => simp [lim]
  · obtain rfl : i = 0 := by omega
    simp [lim]
#print axioms run_string
#print axioms browAt_of
end Go.Proofs.Ytfjebgjhhojphaa
