/-
  What Turned of package hnf tells: the form's rows, and the rows of whole numbers that make them.
-/
import Derived.Test.YtjebmlogchoehaaGreatTCut
import Derived.Test.YtjebmlogchoehaaGreatLHBase
namespace Go.Proofs.YtjebmlogchoehaaGreat
open Go.RowKit Lb
set_option maxRecDepth 20000

theorem MOwn.lt {R : World → Option Addr → Nat → Nat → List Int → Prop} {w : World} {base : Nat} {ao : Option Addr} {n cap : Nat} {rs : List (List Int)} (h : MOwn R w base ao n cap rs) : ∀ g, (Value.slice ao n cap).ownBlock = some g → g < w.heap.size := by
  obtain ⟨⟨vs, hrow, _⟩, _⟩ := h
  exact fun g e => (hrow.own.lt g e).2
/-- Two own rows side by side: no block is both's. -/
structure Two (w : World) (base : Nat) (a1 : Option Addr) (n1 c1 : Nat) (rs1 : List (List Int)) (a2 : Option Addr) (n2 c2 : Nat) (rs2 : List (List Int)) (k : Nat) : Prop where
  one : MO w base a1 n1 c1 rs1 k
  two : MO w base a2 n2 c2 rs2 k
  ne : ∀ g, (Value.slice a1 n1 c1).ownBlock = some g → (Value.slice a2 n2 c2).ownBlock = some g → False
theorem Two.later {w w' : World} {base : Nat} {a1 : Option Addr} {n1 c1 : Nat} {rs1 : List (List Int)} {a2 : Option Addr} {n2 c2 : Nat} {rs2 : List (List Int)} {k : Nat} (h : Two w base a1 n1 c1 rs1 a2 n2 c2 rs2 k) (hb : Below w.heap.size w w') : Two w' base a1 n1 c1 rs1 a2 n2 c2 rs2 k := ⟨h.one.later hb, h.two.later hb, h.ne⟩
theorem Two.swap {w : World} {base : Nat} {a1 : Option Addr} {n1 c1 : Nat} {rs1 : List (List Int)} {a2 : Option Addr} {n2 c2 : Nat} {rs2 : List (List Int)} {k : Nat} (h : Two w base a1 n1 c1 rs1 a2 n2 c2 rs2 k) : Two w base a2 n2 c2 rs2 a1 n1 c1 rs1 k := ⟨h.two, h.one, fun g e1 e2 => h.ne g e2 e1⟩
theorem Two.append {w w' : World} {base : Nat} {a1 : Option Addr} {n1 c1 : Nat} {rs1 : List (List Int)} {a2 : Option Addr} {n2 c2 : Nat} {rs2 : List (List Int)} {k : Nat} (h : Two w base a1 n1 c1 rs1 a2 n2 c2 rs2 k) {a3 : Option Addr} {n3 c3 : Nat} {rs3 : List (List Int)} (h3 : MOwn (fun w a l c zs => VF w a l c zs k) w' base a3 n3 c3 rs3) (hg : w.grownBy w' (Value.slice a1 n1 c1).ownBlock)
    (hat : (Value.slice a3 n3 c3).ownBlock = (Value.slice a1 n1 c1).ownBlock ∨ (Value.slice a3 n3 c3).ownBlock = some w.heap.size) : Two w' base a3 n3 c3 rs3 a2 n2 c2 rs2 k := by
  refine ⟨h3, ?_, fun g e1 e2 => ?_⟩
  · refine MOwn.other (R := fun w a l c zs => VF w a l c zs k) (steadyMO k) h.two hg (MOwn.onlySl (R := fun w a l c zs => VF w a l c zs k) h.one) ?_
    by_cases c : (Value.slice a2 n2 c2).ownBlock = none
    · exact Or.inl c
    · right
      intro e
      obtain ⟨g, eg⟩ := Option.ne_none_iff_exists'.1 c
      exact h.ne g (e ▸ eg) eg
  · rcases hat with e | e
    · exact h.ne g (e ▸ e1) e2
    · have h1 := MOwn.lt (R := fun w a l c zs => VF w a l c zs k) h.two g e2
      rw [e] at e1
      simp only [Option.some.injEq] at e1
      omega
theorem two_nil (w : World) (base k : Nat) : Two w base none 0 0 [] none 0 0 [] k := ⟨mo_nil _ _ _, mo_nil _ _ _, fun g e => by simp [Value.ownBlock] at e⟩
theorem turnedNoK (ao : Option Addr) (n cap : Nat) (ls : List (List Int)) (k : Nat) (x : Int) (w : World) (h : MK w ao n cap ls k) (hx : -9223372036854775808 ≤ x ∧ x ≤ 9223372036854775807) (hq : rform ls x = false) :
    Calls Tryz.prog 60 #[.slice ao n cap, .int .i64 x] w fun e w' => e = .returned (.tuple #[.slice none 0 0, .slice none 0 0, .int .i64 1]) ∧ Below w.heap.size w w' := by
  go_enter Tryz.func60, Tryz.ntmps60
  go_wp2_with fail
  refine (rowsFormK ao n cap ls x w h.ml hx false hq).mono ?_
  rintro e w1 ⟨rfl, hb1⟩
  go_wp2
  go_ret3
  exact ⟨rfl, hb1⟩
/-- What Turned makes of rows in Form. -/
def TurnedTo (ls : List (List Int)) (x : Int) (n B : Nat) (w w' : World) (a1 : Option Addr) (m c1 : Nat) (a2 : Option Addr) (c2 : Nat) : Prop := ∃ N : Nat, ∃ p W H, x = (N : Int) ∧ MF w' a1 m c1 ((H.take m).map (List.take N)) B ∧ MF w' a2 n c2 (H.map (List.drop N)) B ∧ HForm H p ∧ SameL W H ∧ WideL ls W N n ∧ m ≤ n ∧ (∀ i, i < n → (i < m ↔ p i < N)) ∧ (∀ i, i < n → (H.getD i []).length = N + n) ∧ Below w.heap.size w w'
set_option maxRecDepth 40000 in
set_option maxHeartbeats 4000000 in
theorem turnedG (ao : Option Addr) (n cap : Nat) (ls : List (List Int)) (k B R : Nat) (x : Int) (w : World) (h : MK w ao n cap ls k) (hx : -9223372036854775808 ≤ x ∧ x ≤ 9223372036854775807) (hq : rform ls x = true) (hbd : ∀ N W, WideL ls W N n → Bounded W B) (hk2 : 2 ≤ k) (hnR : n ≤ R + 1) (hK : k + (R + 1) * (R * (B + 1)) ≤ 80000) (hB8 : B ≤ 80000) (hn : n ≤ 100) :
    Calls Tryz.prog 60 #[.slice ao n cap, .int .i64 x] w fun e w' => ∃ a1 m c1 a2 c2, e = .returned (.tuple #[.slice a1 m c1, .slice a2 n c2, .int .i64 0]) ∧ TurnedTo ls x n B w w' a1 m c1 a2 c2 := by
  obtain ⟨N, rfl, hN1, hN2, hNr⟩ := rform_rows hq
  have HN := hide (rows_len hNr)
  have HL := hide h.len_eq
  clear hNr
  go_enter Tryz.func60, Tryz.ntmps60
  go_wp2_with fail
  refine (rowsFormK ao n cap ls (N : Int) w h.ml hx true hq).mono ?_
  rintro e w1 ⟨rfl, hb1⟩
  have hk := h.later hb1
  have HB := hide hb1
  clear hb1 h
  go_wp2_with fail
  refine (besideUnitsK ao n cap ls k N _ hk hk2 (by omega) (by rw [← unhide HL]; exact unhide HN) (by omega) (by omega)).mono ?_
  rintro e w2 ⟨a0, c0, W, rfl, hw, hwide, hlw, hb1⟩
  have HW := hide hwide
  have HLW := hide hlw
  have HBD := hide (hbd N W hwide)
  clear hbd
  replace HB := hide (Below.step (unhide HB) hb1)
  clear hb1 hk hwide hlw
  go_wp2_with fail
  refine (stairsK a0 n c0 W k (N + n) B R _ hw (unhide HLW) (unhide HBD) hnR hK hB8 hn (by omega)).mono ?_
  rintro e w3 ⟨a1, m', c1, p, H, rfl, hown, hf, hs1, hNs, hm, hb1⟩
  have hl := hown.len
  have hcount := (unhide HW).count hf hs1
  obtain rfl : n = m' := by omega
  obtain ⟨m, hm1, hm2⟩ := front_rows hf N n (by omega)
  have hst := hown.rows
  have HF := hide hf
  have HS := hide hs1
  have HM := hide hNs
  have HML := hide hl
  have HFR := hide hm2
  replace HB := hide (Below.step (unhide HB) hb1)
  clear hb1 hf hs1 hNs hown hl hw hcount hm2
  have hsz2 := (unhide HB).size
  go_wp2_with fail
  go_loopw [4, 5, 17] (fun s s2 t wr => ∃ (i : Nat) (a1 : Option Addr) (c1 : Nat) (a2 : Option Addr) (c2 : Nat), i ≤ n ∧ t = .int .i64 (i : Int) ∧ s = .slice a1 (min i m) c1 ∧ s2 = .slice a2 i c2 ∧ Two wr w3.heap.size a1 (min i m) c1 ((H.take (min i m)).map (List.take N)) a2 i c2 ((H.take i).map (List.drop N)) B ∧ Below w3.heap.size w3 wr) (fun _ _ t _ => n - (intOf t).toNat)
  case atStart => exact ⟨0, none, 0, none, 0, Nat.zero_le _, rfl, by simp, rfl, by simpa using two_nil _ _ _, Below.refl _ _⟩
  case round =>
    obtain ⟨i, a1, c1, a2, c2, hi, rfl, rfl, rfl, htw, hB⟩ := hrel
    have HC := hide hB
    have HT := hide htw
    clear hB htw
    by_cases hlt : i < n
    · obtain ⟨g, off, rfl⟩ := hst.some (by omega)
      obtain ⟨hg, a5, l5, c5, x1, x2, hr5⟩ := hst.at hlt
      have hl5 : N + n = l5 := by rw [← hr5.len_eq]; exact (unhide HM i hlt).symm
      subst hl5
      obtain ⟨g5, o5, rfl⟩ := hr5.some (by omega)
      have f1 := ((unhide HC).cell (p := ⟨g, off + i * 2, none⟩) hg).trans x1
      have f2 := ((unhide HC).cell (p := ⟨g, off + i * 2 + 1, none⟩) hg).trans x2
      have hgr := Nat.lt_of_lt_of_le hg (unhide HC).size
      replace hr5 := hr5.later (unhide HC)
      have hi0 : (0 : Int) ≤ (i : Int) := by omega
      have hi1 : (i : Int) < (n : Int) := by omega
      have hszr := (unhide HC).size
      have hcap5 := hr5.cap_le
      have hsl1 := slice_headV (g := g5) (off := o5) (n := N + n) (cap := c5) (q := N) (by omega) hcap5
      have hsl2 := slice_tailV (g := g5) (off := o5) (n := N + n) (cap := c5) (q := N) (by omega) hcap5
      rw [show N + n - N = n by omega] at hsl2
      have HSL1 := hide hsl1
      have HSL2 := hide hsl2
      clear hsl1 hsl2
      obtain ⟨WA, hWA⟩ : ∃ WA, WA = wr.alloc (.cells #[.int .i64 (p i : Int), .slice (some ⟨g5, o5, none⟩) (N + n) c5] 79) := ⟨_, rfl⟩
      have hbA : Below wr.heap.size wr WA := by rw [hWA]; exact below_new _ _
      have hBX : SBox WA wr.heap.size (p i : Int) (some ⟨g5, o5, none⟩) (N + n) c5 := by rw [hWA]; exact sbox_new wr _ _ _ _ rfl
      have hTA := (unhide HT).later hbA
      have hrA := hr5.later hbA
      have hHA := Below.step (unhide HC) hbA
      have hszA : w3.heap.size ≤ WA.heap.size := hHA.size
      have hnb : (Value.slice a1 (min i m) c1).ownBlock ≠ some wr.heap.size := fun e => Nat.lt_irrefl _ (MOwn.lt (R := fun w a l c zs => VF w a l c zs B) (unhide HT).one _ e)
      clear hbA HT
      by_cases hpi : p i < N
      · skip
        have him : i < m := (unhide HFR i hlt).2 hpi
        rw [show min i m = i by omega] at hTA hnb ⊢
        have hp1 : (p i : Int) < (N : Int) := by omega
        have hhead := vf_take hrA (q := N) (by omega)
        have hsl := unhide HSL1
        go_wp2_with fail
        rw [← hWA]
        refine (cloneK (some ⟨g5, o5, none⟩) N c5 ((H.getD i []).take N) B _ hhead (by omega) (by omega)).mono ?_
        rintro e w6 ⟨a6, c6, rfl, h6, hb6⟩
        have hone6 := mf_one h6
        have hb7 := Below.step hb6 (below_new w6 (.cells #[.slice a6 N c6] 24))
        have TX2 := hTA.later hb7
        have hs6 : w3.heap.size ≤ (w6.alloc (.cells #[.slice a6 N c6] 24)).heap.size := Nat.le_trans hszA hb7.size
        have HD6 := hide (Below.step hHA hb7)
        have TX := hide TX2
        have ht1 := TX2.one
        have htl := vf_drop (hrA.later hb7) (q := N) (by omega)
        rw [show N + n - N = n by omega] at htl
        have HTL := hide htl
        have HBX := hide (hBX.later hb7)
        clear h6 hb6 hb7 TX2 hTA hHA hszA hrA hhead hsl hBX hWA htl f1 f2 hgr hr5
        go_wp2_with (at_builtin; (refine append_at (R := fun w a l c zs => VF w a l c zs B) (steadyMO B) rfl (.tmp 25) (.tmp 31) 22 Tryz.underlying22 rfl w3.heap.size a1 i c1 ((H.take i).map (List.take N)) rfl ht1 _ 1 1 [(H.getD i []).take N] rfl hone6 (by omega) (by omega) hs6 ?_))
        intro ah ch w7 hown7 hgr7 hat7
        have HD := hide ((unhide HD6).grown hgr7 hs6 (MO.ge ht1))
        have hszT : w3.heap.size ≤ w7.heap.size := (unhide HD).size
        have TW := hide ((unhide TX).append hown7 hgr7 (by simpa using hat7))
        have htail := steadyMO B (unhide HTL) hgr7 (MOwn.onlySl (R := fun w a l c zs => VF w a l c zs B) ht1)
        have BX := (unhide HBX).other hgr7 hnb
        obtain ⟨z1, z2, z3, z4⟩ := BX.facts
        have hsl := unhide HSL2
        clear hgr7 hone6 hs6 ht1 hown7 hat7 TX HD6 HTL HBX BX
        go_wp2_with fail
        clear z1 z2 z3 z4 hsl
        refine (cloneK (some ⟨g5, o5 + N * 2, none⟩) n (c5 - N) ((H.getD i []).drop N) B _ htail (by omega) (by omega)).mono ?_
        rintro e w8 ⟨a8, c8, rfl, h8, hb8⟩
        have hone8 := mf_one h8
        have TX2 := ((unhide TW).later hb8).later (below_new w8 (.cells #[.slice a8 n c8] 24))
        have hs8 : w3.heap.size ≤ (w8.alloc (.cells #[.slice a8 n c8] 24)).heap.size := Nat.le_trans hszT (Below.step hb8 (below_new w8 (.cells #[.slice a8 n c8] 24))).size
        have HD8 := hide (Below.step (unhide HD) (Below.step hb8 (below_new w8 (.cells #[.slice a8 n c8] 24))))
        have TX := hide TX2
        have ht2 := TX2.two
        clear h8 hb8 TX2 TW HD
        go_wp2_with (at_builtin; (refine append_at (R := fun w a l c zs => VF w a l c zs B) (steadyMO B) rfl (.tmp 33) (.tmp 39) 22 Tryz.underlying22 rfl w3.heap.size a2 i c2 ((H.take i).map (List.drop N)) rfl ht2 _ 1 1 [(H.getD i []).drop N] rfl hone8 (by omega) (by omega) hs8 ?_))
        intro an cn w9 hown9 hgr9 hat9
        have HD9 := hide ((unhide HD8).grown hgr9 hs8 (MO.ge ht2))
        have HT9 := hide (((unhide TX).swap.append hown9 hgr9 (by simpa using hat9)).swap)
        clear hgr9 hone8 hs8 ht2 hown9 hat9 TX HD8
        go_wp2
        go_roundw
        case rel =>
          refine ⟨i + 1, ah, ch, an, cn, by omega, by go_num, by rw [show min (i + 1) m = i + 1 by omega], rfl, ?_, unhide HD9⟩
          rw [show min (i + 1) m = i + 1 by omega, take_all_snoc (ls := H) (by rw [unhide HML]; exact hlt)]
          simpa only [List.map_append, List.map_cons, List.map_nil, List.map_take, List.getD_eq_getElem?_getD] using unhide HT9
        case measure => simp [intOf]; omega
      · skip
        have him : ¬ i < m := fun c => hpi ((unhide HFR i hlt).1 c)
        rw [show min i m = m by omega] at hTA ⊢
        have hp1 : ¬ (p i : Int) < (N : Int) := by omega
        have hsl := unhide HSL2
        have htail := vf_drop hrA (q := N) (by omega)
        rw [show N + n - N = n by omega] at htail
        have hszT := hszA
        have TW := hide hTA
        have HD := hide hHA
        clear hTA hHA hszA hBX
        go_wp2_with fail
        rw [← hWA]
        clear hsl hWA f1 f2 hgr hr5
        refine (cloneK (some ⟨g5, o5 + N * 2, none⟩) n (c5 - N) ((H.getD i []).drop N) B _ htail (by omega) (by omega)).mono ?_
        rintro e w8 ⟨a8, c8, rfl, h8, hb8⟩
        have hone8 := mf_one h8
        have TX2 := ((unhide TW).later hb8).later (below_new w8 (.cells #[.slice a8 n c8] 24))
        have hs8 : w3.heap.size ≤ (w8.alloc (.cells #[.slice a8 n c8] 24)).heap.size := Nat.le_trans hszT (Below.step hb8 (below_new w8 (.cells #[.slice a8 n c8] 24))).size
        have HD8 := hide (Below.step (unhide HD) (Below.step hb8 (below_new w8 (.cells #[.slice a8 n c8] 24))))
        have TX := hide TX2
        have ht2 := TX2.two
        clear h8 hb8 TX2 TW HD
        go_wp2_with (at_builtin; (refine append_at (R := fun w a l c zs => VF w a l c zs B) (steadyMO B) rfl (.tmp 33) (.tmp 39) 22 Tryz.underlying22 rfl w3.heap.size a2 i c2 ((H.take i).map (List.drop N)) rfl ht2 _ 1 1 [(H.getD i []).drop N] rfl hone8 (by omega) (by omega) hs8 ?_))
        intro an cn w9 hown9 hgr9 hat9
        have HD9 := hide ((unhide HD8).grown hgr9 hs8 (MO.ge ht2))
        have HT9 := hide (((unhide TX).swap.append hown9 hgr9 (by simpa using hat9)).swap)
        clear hgr9 hone8 hs8 ht2 hown9 hat9 TX HD8
        go_wp2
        go_roundw
        case rel =>
          refine ⟨i + 1, a1, c1, an, cn, by omega, by go_num, by rw [show min (i + 1) m = m by omega], rfl, ?_, unhide HD9⟩
          rw [show min (i + 1) m = m by omega, take_all_snoc (ls := H) (by rw [unhide HML]; exact hlt)]
          simpa only [List.map_append, List.map_cons, List.map_nil, List.map_take, List.getD_eq_getElem?_getD] using unhide HT9
        case measure => simp [intOf]; omega
    · have hin : i = n := by omega
      subst hin
      have hi1 : ¬ (i : Int) < (i : Int) := by omega
      rw [show min i m = m by omega] at HT
      rw [show H.take i = H from List.take_of_length_le (by rw [unhide HML]; exact Nat.le_refl _)] at HT
      go_wp2
      go_ret3
      exact ⟨_, _, _, _, _, rfl, _, _, _, _, rfl, (unhide HT).one.mf, (unhide HT).two.mf, unhide HF, unhide HS, unhide HW, hm1, unhide HFR, unhide HM, Below.step (unhide HB) (unhide HC)⟩

theorem turnedK (ao : Option Addr) (n cap : Nat) (ls : List (List Int)) (x : Int) (w : World) (h : MK w ao n cap ls 3) (hA : ∀ i j, (ent ls i j).natAbs < Bp 3) (hx : -9223372036854775808 ≤ x ∧ x ≤ 9223372036854775807) (hq : rform ls x = true) (hn : n ≤ 5) :
    Calls Tryz.prog 60 #[.slice ao n cap, .int .i64 x] w fun e w' => ∃ a1 m c1 a2 c2, e = .returned (.tuple #[.slice a1 m c1, .slice a2 n c2, .int .i64 0]) ∧ TurnedTo ls x n 255 w w' a1 m c1 a2 c2 :=
  turnedG ao n cap ls 3 255 4 x w h hx hq (fun _ W hw => bounded_three (l := W) (by rw [hw.len]; omega) (hw.small hA (by decide))) (by omega) (by omega) (by omega) (by omega) (by omega)

#print axioms turnedK
end Go.Proofs.YtjebmlogchoehaaGreat
