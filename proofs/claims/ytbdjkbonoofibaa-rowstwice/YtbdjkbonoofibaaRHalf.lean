/-
  What Half, Both and Same of package rows tell.
-/
import Derived.Test.YtbdjkbonoofibaaRSort
namespace Go.Proofs.Ytbdjkbonoofibaa
open Go.RowKit Lb
set_option maxRecDepth 20000

/-- No row has more than M places. -/
def Wide (rs : List (List Int)) (M : Nat) : Prop := ∀ x ∈ rs, x.length ≤ M
theorem Wide.at {rs : List (List Int)} {M : Nat} (h : Wide rs M) (i : Nat) : (rs.getD i []).length ≤ M := by
  by_cases hi : i < rs.length
  · rw [show rs.getD i [] = rs[i] by simp [List.getD, hi]]
    exact h _ (List.getElem_mem hi)
  · rw [show rs.getD i [] = [] by simp [List.getD, List.getElem?_eq_none (show rs.length ≤ i by omega)]]
    exact Nat.zero_le _
theorem wide_of {rs : List (List Int)} {M : Nat} (h : ∀ i, (rs.getD i []).length ≤ M) : Wide rs M := by
  intro x hx
  obtain ⟨i, hi, e⟩ := List.getElem_of_mem hx
  have := h i
  rwa [show rs.getD i [] = rs[i] by simp [List.getD, hi], e] at this
theorem Wide.sort {l r : List (List Int)} {M : Nat} (h : Wide l M) (hs : IsSort l r) : Wide r M := fun x hx => h x (hs.first x hx).mem
theorem Wide.half {l : List (List Int)} {M : Nat} (h : Wide l M) : Wide (halfL l) M := fun x hx => by
  obtain ⟨v, hv, _, rfl⟩ := mem_half.1 hx
  rw [vnormal_len]
  exact h v hv
theorem Wide.both {l : List (List Int)} {M : Nat} (h : Wide l M) : Wide (bothL l) M := fun x hx => by
  unfold bothL at hx
  rcases List.mem_append.1 hx with c | c
  · exact h x c
  · obtain ⟨v, hv, rfl⟩ := List.mem_map.1 c
    rw [vneg_len]
    exact h v hv
theorem half_take_yes {rs : List (List Int)} {i : Nat} (hi : i < rs.length) (h : vnought (rs.getD i []) = false) : halfL (rs.take (i + 1)) = halfL (rs.take i) ++ [vnormal (rs.getD i [])] := by
  rw [take_snoc [] hi]; exact half_snoc_yes h
theorem half_take_no {rs : List (List Int)} {i : Nat} (hi : i < rs.length) (h : vnought (rs.getD i []) = true) : halfL (rs.take (i + 1)) = halfL (rs.take i) := by
  rw [take_snoc [] hi]; exact half_snoc_no h
set_option maxRecDepth 20000 in
set_option maxHeartbeats 2000000 in
theorem halfK (ao : Option Addr) (n cap : Nat) (rs : List (List Int)) (k : Nat) (w : World) (h : MK w ao n cap rs k) (hk : k ≤ 900000) (hr : ∀ i, (rs.getD i []).length ≤ 1000000) (hn : n ≤ 100000) :
    Calls Try.prog 26 #[.slice ao n cap] w fun e w' => ∃ a1 m c1 r, e = .returned (.slice a1 m c1) ∧ m ≤ n ∧ IsSort (halfL rs) r ∧ MO w' w.heap.size a1 m c1 r k ∧ Below w.heap.size w w' := by
  have HL := hide h.len_eq
  have HQ := hide hr
  clear hr
  go_enter Try.func26, Try.ntmps26
  go_wp2_with fail
  go_loopw [3, 8] (fun s t wr => ∃ (i : Nat) (ao' : Option Addr) (m cap' : Nat), i ≤ n ∧ m ≤ i ∧ t = .int .i64 (i : Int) ∧ s = .slice ao' m cap' ∧ MO wr w.heap.size ao' m cap' (halfL (rs.take i)) k ∧ Below w.heap.size w wr) (fun _ t _ => n - (intOf t).toNat)
  case atStart => exact ⟨0, _, _, _, Nat.zero_le _, Nat.le_refl _, rfl, rfl, mo_nil _ _ _, Below.refl _ _⟩
  case round =>
    obtain ⟨i, ao', m, cap', hi, hmi, rfl, rfl, hown, hB⟩ := hrel
    have HB := hide hB
    clear hB
    by_cases hlt : i < n
    · obtain ⟨g, off, rfl⟩ := h.addr (by omega)
      obtain ⟨hg, a5, l5, c5, hc5, hv5⟩ := RowsOf.at (R := fun w a l c zs => VK w a l c zs k) h hlt
      have hn5 : l5 ≤ 1000000 := by rw [← hv5.len_eq]; exact unhide HQ i
      replace hv5 := hv5.later (unhide HB)
      have f2 := ((unhide HB).cell (p := ⟨g, off + i, none⟩) hg).trans hc5
      have hgr := Nat.lt_of_lt_of_le hg (unhide HB).size
      clear hc5 hg
      have hlen : i < rs.length := by rw [unhide HL]; exact hlt
      have HI := hide hlen
      clear hlen
      obtain ⟨q, eq⟩ : ∃ q, q = vnought (rs.getD i []) := ⟨_, rfl⟩
      have hN := vnoughtK _ _ _ (rs.getD i []) k _ hv5
      rw [← eq] at hN
      have HN := hide hN
      have EQ := hide eq.symm
      clear hN eq
      go_wp2_with fail
      refine (unhide HN).mono ?_
      rintro e w4 ⟨rfl, hb9⟩
      replace hown := hown.later hb9
      replace hv5 := hv5.later hb9
      replace HB := hide (Below.step (unhide HB) hb9)
      clear hb9 HN f2 hgr
      by_cases hq : q = true
      · subst hq
        go_wp2
        go_roundw
        case rel => exact ⟨i + 1, _, _, _, by omega, by omega, by go_num, rfl, by rw [half_take_no (unhide HI) (unhide EQ)]; exact hown, unhide HB⟩
        case measure => simp [intOf]; omega
      · have hq' : q = false := by simpa using hq
        subst hq'
        clear hq
        go_wp2_with fail
        refine (normalK _ _ _ (rs.getD i []) k _ hv5 hk hn5).mono ?_
        rintro e w5 ⟨a7, c7, rfl, h7, hb9⟩
        replace hown := hown.later hb9
        replace HB := hide (Below.step (unhide HB) hb9)
        clear hb9
        obtain ⟨W6, hW6⟩ : ∃ W6, W6 = w5.alloc (.cells #[.slice a7 l5 c7] 24) := ⟨_, rfl⟩
        have hb9 : Below w5.heap.size w5 W6 := by rw [hW6]; exact below_new _ _
        have hone := mf_one h7
        replace hown := hown.later hb9
        replace HB := hide (Below.step (unhide HB) hb9)
        clear hb9
        have hsz := (unhide HB).size
        rw [hW6] at hown hsz
        go_wp2_with (at_builtin; refine append_rows (R := fun w a l c zs => VF w a l c zs k) (steadyMO k) rfl (.tmp 15) (.tmp 18) 22 Try.underlying22 rfl w.heap.size ao' m cap' (halfL (rs.take i)) rfl hown _ 1 1 [vnormal (rs.getD i [])] rfl hone (by omega) hsz ?_)
        intro an cn w7 hown2 hgr7
        rw [← hW6] at hgr7 hown hsz
        clear hW6 hone
        have HD := (unhide HB).grown hgr7 hsz (MO.ge hown)
        clear hgr7
        go_wp2
        go_roundw
        case rel => exact ⟨i + 1, _, _, _, by omega, by omega, by go_num, rfl, by rw [half_take_yes (unhide HI) (unhide EQ)]; exact hown2, HD⟩
        case measure => simp [intOf]; omega
    · have hin : i = n := by omega
      subst hin
      rw [List.take_of_length_le (by rw [unhide HL]; exact Nat.le_refl _)] at hown
      go_wp2_with fail
      refine (sortK _ _ _ (halfL rs) k _ (hown.mf.mk (by omega)) hk ((wide_of (unhide HQ)).half.at) (by omega)).mono ?_
      rintro e w8 ⟨a1, m1, c1, r, rfl, hm1, hs, ho, hb9⟩
      have hsz := (unhide HB).size
      go_wp2
      go_ret
      exact ⟨_, _, _, r, rfl, by omega, hs, ho.lower hsz, Below.step (unhide HB) hb9⟩

theorem both_take {h : List (List Int)} {i : Nat} (hi : i < h.length) : h ++ (h.take (i + 1)).map vneg = (h ++ (h.take i).map vneg) ++ [vneg (h.getD i [])] := by
  rw [take_snoc [] hi, List.map_append, List.append_assoc]; rfl
set_option maxRecDepth 20000 in
set_option maxHeartbeats 2000000 in
theorem bothK (ao : Option Addr) (n cap : Nat) (rs : List (List Int)) (k : Nat) (w : World) (h : MK w ao n cap rs k) (hk : k ≤ 900000) (hr : ∀ i, (rs.getD i []).length ≤ 1000000) (hn : n ≤ 10000) :
    Calls Try.prog 28 #[.slice ao n cap] w fun e w' => ∃ a1 m c1 r hh, e = .returned (.slice a1 m c1) ∧ m ≤ 2 * n ∧ IsSort (halfL rs) hh ∧ IsSort (bothL hh) r ∧ MO w' w.heap.size a1 m c1 r k ∧ Below w.heap.size w w' := by
  have HQ := hide hr
  go_enter Try.func28, Try.ntmps28
  go_wp2_with fail
  refine (halfK _ _ _ rs k _ h hk hr (by omega)).mono ?_
  rintro e w1 ⟨a1, m, c1, hh, rfl, hmn, hs, ho, hb1⟩
  have HS := hide hs
  have HB := hide hb1
  have HLh := hide ho.len
  clear hr hs hb1
  go_wp2_with fail
  go_loopw [3, 10] (fun s t wr => ∃ (i : Nat) (ao' : Option Addr) (cap' : Nat), i ≤ m ∧ t = .int .i64 (i : Int) ∧ s = .slice ao' (m + i) cap' ∧ MO wr w.heap.size ao' (m + i) cap' (hh ++ (hh.take i).map vneg) k ∧ MF wr a1 m c1 hh k ∧ Below w.heap.size w wr) (fun _ t _ => m - (intOf t).toNat)
  case atStart => exact ⟨0, _, _, Nat.zero_le _, rfl, rfl, by simpa using ho, ho.mf, unhide HB⟩
  case round =>
    have hform : 0 < m → ∃ g0, a1 = some ⟨g0, 0, none⟩ := by
      intro hp
      obtain ⟨⟨vs, hrow3, _⟩, _⟩ := ho
      rcases hrow3.own.2 with ⟨_, e0⟩ | ⟨g3, c3, cur, e3, _⟩
      · omega
      · simp only [Value.slice.injEq, true_and] at e3
        exact ⟨g3, e3.1⟩
    clear ho HB
    obtain ⟨i, ao', cap', hi, rfl, rfl, hown, hmf, hB⟩ := hrel
    have HB := hide hB
    clear hB
    by_cases hlt : i < m
    · obtain ⟨g0, rfl⟩ := hform (by omega)
      clear hform
      obtain ⟨hg, a5, l5, c5, f2, hv5⟩ := RowsOf.at (R := fun w a l c zs => VF w a l c zs k) hmf hlt
      rw [Nat.zero_add] at f2
      have hn5 : l5 ≤ 1000000 := by rw [← hv5.len_eq]; exact ((wide_of (unhide HQ)).half.sort (unhide HS)).at i
      go_wp2_with fail
      refine (vnegK _ _ _ (hh.getD i []) k _ (hv5.vk (by omega)) hn5).mono ?_
      rintro e w5 ⟨a7, c7, rfl, h7, hb9⟩
      replace hown := hown.later hb9
      replace hmf := hmf.later hb9
      replace HB := hide (Below.step (unhide HB) hb9)
      clear hb9 f2 hg hv5
      obtain ⟨L, eL⟩ : ∃ L, L = hh ++ (hh.take i).map vneg := ⟨_, rfl⟩
      obtain ⟨x, ex⟩ : ∃ x, x = vneg (hh.getD i []) := ⟨_, rfl⟩
      rw [← eL] at hown
      rw [← ex] at h7
      have EL := hide eL
      have EX := hide ex
      clear eL ex
      obtain ⟨W6, hW6⟩ : ∃ W6, W6 = w5.alloc (.cells #[.slice a7 l5 c7] 24) := ⟨_, rfl⟩
      have hb9 : Below w5.heap.size w5 W6 := by rw [hW6]; exact below_new _ _
      have hone := mf_one h7
      replace hown := hown.later hb9
      replace hmf := hmf.later hb9
      replace HB := hide (Below.step (unhide HB) hb9)
      clear hb9
      have hsz := (unhide HB).size
      rw [hW6] at hown hsz
      go_wp2_with (at_builtin; refine append_kept (R := fun w a l c zs => VF w a l c zs k) (steadyMO k) rfl (.tmp 14) (.tmp 17) 22 Try.underlying22 rfl w.heap.size ao' (m + i) cap' L rfl hown _ 1 1 [x] rfl hone (by omega) (by omega) hsz ?_)
      intro an cn w7 hown2 hgr7 hkept
      rw [← hW6] at hgr7 hown hsz hkept
      clear hW6 hone
      have HD := (unhide HB).grown hgr7 hsz (MO.ge hown)
      replace hmf := RowsOf.beside (R := fun w a l c zs => VF w a l c zs k) (steadyMO k) hmf hown (by omega) hgr7 hkept
      clear hgr7 hkept
      go_wp2
      go_roundw
      case rel => exact ⟨i + 1, _, _, by omega, by go_num, rfl, by rw [both_take (by rw [unhide HLh]; exact hlt), ← unhide EL, ← unhide EX]; exact hown2, hmf, HD⟩
      case measure => simp [intOf]; omega
    · have hin : i = m := by omega
      subst hin
      rw [List.take_of_length_le (by rw [unhide HLh]; exact Nat.le_refl _)] at hown
      clear hform
      go_wp2_with fail
      refine (sortK _ _ _ (bothL hh) k _ (hown.mf.mk (by omega)) hk (((wide_of (unhide HQ)).half.sort (unhide HS)).both.at) (by omega)).mono ?_
      rintro e w8 ⟨a2, m1, c2, r, rfl, hm1, hs, ho, hb9⟩
      have hsz := (unhide HB).size
      go_wp2
      go_ret
      exact ⟨_, _, _, r, hh, rfl, by omega, unhide HS, hs, ho.lower hsz, Below.step (unhide HB) hb9⟩
theorem not_alike_len {a b : List (List Int)} (h : a.length ≠ b.length) : ¬ Alike a b := fun e => h e.len
theorem not_alike_at {a b : List (List Int)} {i : Nat} (h : ¬ VSame (a.getD i []) (b.getD i [])) : ¬ Alike a b := fun e => h (e.at i)
set_option maxRecDepth 20000 in
set_option maxHeartbeats 2000000 in
theorem equalK (ao : Option Addr) (n cap : Nat) (rs : List (List Int)) (k : Nat) (ap : Option Addr) (m cp : Nat) (ss : List (List Int)) (l : Nat) (w : World) (h : MK w ao n cap rs k) (h' : MK w ap m cp ss l) (hk : k ≤ 900000) (hl : l ≤ 900000) (hr : ∀ i, (rs.getD i []).length ≤ 1000000) (hr' : ∀ i, (ss.getD i []).length ≤ 1000000) :
    Calls Try.prog 51 #[.slice ao n cap, .slice ap m cp, .func (.func 34) #[] #[]] w fun e w' => ∃ q, e = .returned (.bool q) ∧ (q = true ↔ Alike rs ss) ∧ Below w.heap.size w w' := by
  have hmn := Nat.le_trans h.cap_le h.cap_max
  have hmm := Nat.le_trans h'.cap_le h'.cap_max
  unfold maxLen at hmn hmm
  have HL := hide h.len_eq
  have HL' := hide h'.len_eq
  by_cases hne : n = m
  · subst hne
    have hne' : ((n : Int) != (n : Int)) = false := by simp
    go_enter Try.func51, Try.ntmps51
    go_wp2_with fail
    go_loopw [17] (fun t wr => ∃ i : Nat, i ≤ n ∧ t = .int .i64 (i : Int) ∧ (∀ j, j < i → VSame (rs.getD j []) (ss.getD j [])) ∧ Below w.heap.size w wr) (fun t _ => n - (intOf t).toNat)
    case atStart => exact ⟨0, Nat.zero_le _, rfl, fun j hj => absurd hj (by omega), Below.refl _ _⟩
    case round =>
      obtain ⟨i, hi, rfl, hall, hB⟩ := hrel
      have HA := hide hall
      have HB := hide hB
      clear hall hB
      by_cases hlt : i < n
      · obtain ⟨g, off, rfl⟩ := h.addr (by omega)
        obtain ⟨hg, a5, l5, c5, hc5, hv5⟩ := RowsOf.at (R := fun w a l c zs => VK w a l c zs k) h hlt
        have hn5 : l5 ≤ 1000000 := by rw [← hv5.len_eq]; exact hr i
        obtain ⟨g2, off2, rfl⟩ := h'.addr (by omega)
        obtain ⟨hg2, a6, l6, c6, hc6, hv6⟩ := RowsOf.at (R := fun w a l' c zs => VK w a l' c zs l) h' hlt
        have hn6 : l6 ≤ 1000000 := by rw [← hv6.len_eq]; exact hr' i
        have f2 := ((unhide HB).cell (p := ⟨g, off + i, none⟩) hg).trans hc5
        have f3 := ((unhide HB).cell (p := ⟨g2, off2 + i, none⟩) hg2).trans hc6
        have hgr := Nat.lt_of_lt_of_le hg (unhide HB).size
        have hgr2 := Nat.lt_of_lt_of_le hg2 (unhide HB).size
        have hi0 : (0 : Int) ≤ (i : Int) := by omega
        have hi1 : (i : Int) < (n : Int) := by omega
        clear hc5 hg hc6 hg2
        go_wp2_with fail
        refine (vsameK _ _ _ (rs.getD i []) k _ _ _ (ss.getD i []) l _ (hv5.later (unhide HB)) (hv6.later (unhide HB)) hk hl hn5 hn6).mono ?_
        rintro e w4 ⟨c, rfl, hc, hb9⟩
        replace HB := hide (Below.step (unhide HB) hb9)
        clear hb9 f2 f3 hgr hgr2 hv5 hv6
        obtain ⟨b, eb⟩ : ∃ b, b = (c == 0) := ⟨_, rfl⟩
        rw [← eb]
        have EB := hide (show b = true ↔ VSame (rs.getD i []) (ss.getD i []) by rw [eb, beq_iff_eq]; exact hc.zero_iff)
        clear hc eb
        by_cases hb : b = true
        · have HV := hide ((unhide EB).1 hb)
          subst hb
          go_wp2
          go_roundw
          case rel =>
            refine ⟨i + 1, by omega, by go_num, fun j hj => ?_, unhide HB⟩
            by_cases e : j = i
            · subst e; exact unhide HV
            · exact unhide HA j (by omega)
          case measure => simp [intOf]; omega
        · have HV := hide (fun e => hb ((unhide EB).2 e) : ¬ VSame (rs.getD i []) (ss.getD i []))
          have hb' : b = false := by simpa using hb
          subst hb'
          clear hb
          go_wp2
          go_ret
          exact ⟨false, rfl, ⟨fun e => by simp at e, fun e => absurd e (not_alike_at (unhide HV))⟩, unhide HB⟩
      · have hin : i = n := by omega
        subst hin
        have HR := hide (alike_of (show rs.length = ss.length by rw [unhide HL, unhide HL']) fun j hj => unhide HA j (by rw [unhide HL] at hj; exact hj))
        go_wp2
        go_ret
        exact ⟨true, rfl, ⟨fun _ => unhide HR, fun _ => rfl⟩, unhide HB⟩
  · have hne' : ((n : Int) != (m : Int)) = true := by simp; omega
    have HR := hide (not_alike_len (show rs.length ≠ ss.length by rw [unhide HL, unhide HL']; exact hne))
    clear hne
    go_enter Try.func51, Try.ntmps51
    go_wp2
    go_ret
    exact ⟨false, rfl, ⟨fun e => by simp at e, fun e => absurd e (unhide HR)⟩, Below.refl _ _⟩
set_option maxHeartbeats 1000000 in
theorem rowsSameK (ao : Option Addr) (n cap : Nat) (rs : List (List Int)) (k : Nat) (ap : Option Addr) (m cp : Nat) (ss : List (List Int)) (l : Nat) (w : World) (h : MK w ao n cap rs k) (h' : MK w ap m cp ss l) (hk : k ≤ 900000) (hl : l ≤ 900000) (hr : ∀ i, (rs.getD i []).length ≤ 1000000) (hr' : ∀ i, (ss.getD i []).length ≤ 1000000) :
    Calls Try.prog 20 #[.slice ao n cap, .slice ap m cp] w fun e w' => ∃ q, e = .returned (.bool q) ∧ (q = true ↔ Alike rs ss) ∧ Below w.heap.size w w' := by
  go_enter Try.func20, Try.ntmps20
  go_wp2_with fail
  refine (equalK _ _ _ rs k _ _ _ ss l _ h h' hk hl hr hr').mono ?_
  rintro e w1 ⟨q, rfl, hq, hb⟩
  have HQ := hide hq
  clear hq
  go_wp2
  go_ret
  cases q
  · first | exact ⟨false, rfl, unhide HQ, hb⟩ | exact Or.inl ⟨by simpa using unhide HQ, hb⟩
  · first | exact ⟨true, rfl, unhide HQ, hb⟩ | exact Or.inr ⟨by simpa using unhide HQ, hb⟩
#print axioms halfK
#print axioms bothK
#print axioms rowsSameK
end Go.Proofs.Ytbdjkbonoofibaa
