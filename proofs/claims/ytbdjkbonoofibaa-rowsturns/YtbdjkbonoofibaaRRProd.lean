/-
  What the reference's Product tells.
-/
import Derived.Test.YtbdjkbonoofibaaRRef
import Derived.Test.YtbdjkbonoofibaaRMat
namespace Go.Proofs.Ytbdjkbonoofibaa
open Go.RowKit Lb
set_option maxRecDepth 20000

theorem VS.some {w : World} {ao : Option Addr} {n cap k : Nat} {zs : List Int} (h : VS w ao n cap zs k) (hp : 0 < n) : ∃ g off, ao = some ⟨g, off, none⟩ := h.vk.some hp
theorem prod_take {rs : List (List Int)} {f : List Int → List Int} {i : Nat} (hi : i < rs.length) : (rs.take (i + 1)).map f = (rs.take i).map f ++ [f (rs.getD i [])] := by
  rw [take_snoc [] hi, List.map_append]; rfl
theorem wsum_done {zs : List Int} {rs : List (List Int)} {n n' j : Nat} (hz : zs.length = n) (hr : rs.length = n') (hj : j = min n n') : wsum zs rs (longest rs) j = vprod zs rs := by subst hj; exact wsum_all hz hr
set_option maxRecDepth 40000 in
set_option maxHeartbeats 4000000 in
theorem refProductK (ao : Option Addr) (n cap : Nat) (rs : List (List Int)) (k : Nat) (ap : Option Addr) (n' cp : Nat) (ss0 : List (List Int)) (k2 M : Nat) (w : World) (h : MS w ao n cap rs k) (h' : MS w ap n' cp ss0 k2) (hk : k ≤ 200000) (hl : k2 ≤ 200000) (hr : ∀ i, (rs.getD i []).length ≤ M) (hr' : ∀ i, (ss0.getD i []).length ≤ M) (hM : M ≤ 1000000) (hn : n ≤ 100000) (hn' : n' ≤ 100000) :
    Calls Try.prog 17 #[.slice ao n cap, .slice ap n' cp] w fun e w' => ∃ a1 c1, e = .returned (.slice a1 n c1) ∧ MF w' a1 n c1 (rs.map fun r => vprod r ss0) (k + k2 + n') ∧ Below w.heap.size w w' := by
  have HL := hide h.len_eq
  have HL' := hide h'.len_eq
  have HQ := hide hr
  have hlo : longest ss0 ≤ M := longest_le fun r hx => by
    obtain ⟨i, hi, e⟩ := List.getElem_of_mem hx
    have := hr' i
    rwa [show ss0.getD i [] = ss0[i] by simp [List.getD, hi], e] at this
  have hrl : ∀ i, i < ss0.length → (ss0.getD i []).length ≤ longest ss0 := fun i hi => longest_ge ss0 0 i hi
  have HR := hide hrl
  have HO := hide hlo
  clear hr hrl hlo
  go_enter Try.func17, Try.ntmps17
  go_wp2_with fail
  go_loopw [5, 6] (fun m t wr => ∃ (i M1 : Nat), i ≤ n' ∧ t = .int .i64 (i : Int) ∧ m = .int .i64 (M1 : Int) ∧ M1 = longest (ss0.take i) ∧ M1 ≤ 1000000 ∧ Below w.heap.size w wr) (fun _ t _ => n' - (intOf t).toNat)
  case atStart => exact ⟨0, 0, Nat.zero_le _, rfl, rfl, rfl, by omega, Below.refl _ _⟩
  case round =>
    obtain ⟨i, M0, hi, rfl, rfl, hM0, hMl, hB⟩ := hrel
    have HM := hide hM0
    clear hM0
    by_cases hlt : i < n'
    · obtain ⟨g, off, rfl⟩ := h'.addr (by omega)
      obtain ⟨hg, a2, l2, c2, hc, hv⟩ := RowsOf.at (R := fun w a l c zs => VS w a l c zs k2) h' hlt
      have hl2 : l2 ≤ M := by rw [← hv.vk.len_eq]; exact hr' i
      have f1 := (hB.cell (p := ⟨g, off + i, none⟩) hg).trans hc
      have hgr := Nat.lt_of_lt_of_le hg hB.size
      have HV := hide hv.vk.len_eq
      have hi0 : (0 : Int) ≤ (i : Int) := by omega
      have hi1 : (i : Int) < (n' : Int) := by omega
      clear hc hv
      have hmax := max_len M0 l2
      obtain ⟨X, eX⟩ : ∃ X, X = max M0 l2 := ⟨_, rfl⟩
      rw [← eX] at hmax
      have hXl : X ≤ 1000000 := by omega
      have EX := hide eX
      clear eX
      go_wp2
      go_roundw
      case rel => exact ⟨i + 1, X, by omega, by go_num, rfl, by rw [longest_take (by rw [unhide HL']; exact hlt), ← unhide HM, unhide HV]; exact unhide EX, hXl, hB⟩
      case measure => simp [intOf]; omega
    · have hin : i = n' := by omega
      subst hin
      have hin' : ¬ (i : Int) < (i : Int) := by omega
      rw [List.take_of_length_le (by rw [unhide HL']; exact Nat.le_refl _)] at HM
      have HB0 := hide hB
      clear hB
      go_wp2_with fail
      go_loopw [7, 8] (fun s t wq => ∃ (i1 : Nat) (ao' : Option Addr) (cap' : Nat), i1 ≤ n ∧ t = .int .i64 (i1 : Int) ∧ s = .slice ao' i1 cap' ∧ MO wq w.heap.size ao' i1 cap' ((rs.take i1).map fun r => vprod r ss0) (k + k2 + i) ∧ Below w.heap.size w wq) (fun _ t _ => n - (intOf t).toNat)
      case atStart => exact ⟨0, _, _, Nat.zero_le _, rfl, rfl, mo_nil _ _ _, unhide HB0⟩
      case round =>
        clear HB0
        obtain ⟨i1, ao', cap', hi1n, rfl, rfl, hown, hB⟩ := hrel
        have HB := hide hB
        clear hB
        by_cases hlt1 : i1 < n
        · have hi1' : (i1 : Int) < (n : Int) := by omega
          have hsz0 := (unhide HB).size
          obtain ⟨wb, ewb⟩ : ∃ wb, wb = wr := ⟨_, rfl⟩
          go_wp2_with (at_make; refine make_vec rfl _ _ 24 Try.underlying24 rfl w.heap.size .i64 .i64 _ _ M0 (k + k2 + 0) rfl rfl (by omega) (by omega) (by omega) hsz0 ?_)
          intro w2 hov hgrow
          have hbg : Below wr.heap.size wr w2 := (Below.refl _ _).grown hgrow (Nat.le_refl _) (fun _ h => by simp at h)
          replace hown := hown.later hbg
          replace HB := hide (Below.step (unhide HB) hbg)
          have hvf0 := hov.vf
          clear hgrow hbg hov hsz0 ewb
          go_wp2_with fail
          go_loopw [9, 10] (fun s t wq => ∃ (j : Nat) (av : Option Addr) (cv : Nat), j ≤ i ∧ j ≤ (rs.getD i1 []).length ∧ t = .int .i64 (j : Int) ∧ s = .slice av M0 cv ∧ VF wq av M0 cv (wsum (rs.getD i1 []) ss0 M0 j) (k + k2 + j) ∧ Below w2.heap.size w2 wq) (fun _ t _ => i - (intOf t).toNat)
          case atStart => exact ⟨0, _, _, Nat.zero_le _, Nat.zero_le _, rfl, rfl, by rw [wsum_zero]; exact hvf0, Below.refl _ _⟩
          case round =>
            clear hvf0
            obtain ⟨j, av, cv, hji, hjl, rfl, rfl, hps, hBq⟩ := hrel
            have HC := hide hBq
            clear hBq
            have hbb := Below.step (unhide HB) (unhide HC)
            obtain ⟨g, off, rfl⟩ := h.addr (by omega)
            obtain ⟨hg, a6, l6, c6, hc6, hv6⟩ := RowsOf.at (R := fun w a l c zs => VS w a l c zs k) h hlt1
            have f2 := (hbb.cell (p := ⟨g, off + i1, none⟩) hg).trans hc6
            have hgr := Nat.lt_of_lt_of_le hg hbb.size
            have HV6 := hide hv6.vk.len_eq
            have hl6 : l6 ≤ M := by rw [← hv6.vk.len_eq]; exact unhide HQ i1
            have hjl6 : j ≤ l6 := by rw [← unhide HV6]; exact hjl
            clear hjl
            have hi10 : (0 : Int) ≤ (i1 : Int) := by omega
            by_cases hgo : j < i ∧ j < l6
            · obtain ⟨hj1, hj2⟩ := hgo
              have hj1' : (j : Int) < (i : Int) := by omega
              have hj2' : (j : Int) < (l6 : Int) := by omega
              have hj0 : (0 : Int) ≤ (j : Int) := by omega
              obtain ⟨gb, ob, rfl⟩ := h'.addr (by omega)
              obtain ⟨hgb0, a5, l5, c5, hc5, hv5⟩ := RowsOf.at (R := fun w a l c zs => VS w a l c zs k2) h' hj1
              have f1 := (hbb.cell (p := ⟨gb, ob + j, none⟩) hgb0).trans hc5
              have hgb := Nat.lt_of_lt_of_le hgb0 hbb.size
              have hn5 : l5 ≤ M0 := by rw [← hv5.vk.len_eq, unhide HM]; exact unhide HR j (by rw [unhide HL']; exact hj1)
              replace hv5 := hv5.later hbb
              replace hv6 := hv6.later hbb
              obtain ⟨g6, o6, rfl⟩ := hv6.some (by omega)
              obtain ⟨b3, a3, l3, c3, E3, hy3⟩ := hv6.at hj2
              have hg3 := E3.1
              obtain ⟨e3, e4⟩ := E3.facts
              obtain ⟨ps, eps⟩ : ∃ ps, ps = wsum (rs.getD i1 []) ss0 M0 j := ⟨_, rfl⟩
              rw [← eps] at hps
              have EPS := hide eps
              have HV5 := hide hv5.vk.len_eq
              clear eps hc5 hgb0 hc6 hg
              have HW : Below wr.heap.size wr wr.drew := (Below.refl _ _).drew
              go_upto_region 14 with fail
              refine till_start (fun w' => w'.cell? ⟨gb, ob + j, none⟩ = some (.slice a5 l5 c5) ∧ w'.cell? ⟨g, off + i1, none⟩ = some (.slice (some ⟨g6, o6, none⟩) l6 c6) ∧ w'.cell? ⟨g6, o6 + j * 2, none⟩ = some (.bool b3) ∧ w'.cell? ⟨g6, o6 + j * 2 + 1, none⟩ = some (.slice a3 l3 c3)) 14 (by kernel_rfl) ?_ (fun hHeld => ?_)
              · exact ⟨(HW.cell (p := ⟨gb, ob + j, none⟩) hgb).trans f1, (HW.cell (p := ⟨g, off + i1, none⟩) hgr).trans f2, (E3.later HW).facts.1, (E3.later HW).facts.2⟩
              refine till_take (i := 0) (v := ?_) [13, 14] rfl (by kernel_rfl) (by kernel_rfl) (by kernel_rfl) (by kernel_rfl) (fun _ _ _ h => h) (Or.inl ⟨by rfl, ?_⟩) (by assumption) ?_
              rotate_left
              · (intro w hSw; (try dsimp only at hSw); go_simp; try with_reducible rfl)
              simp only [Act.put, List.getElem_toArray, List.getElem_cons_zero, List.setIfInBounds_toArray, List.set_cons_zero, List.set_cons_succ]
              refine till_take (i := 1) (v := ?_) [3, 4, 12, 13, 14] rfl (by kernel_rfl) (by kernel_rfl) (by kernel_rfl) (by kernel_rfl) (fun _ _ _ h => h) (Or.inl ⟨by rfl, ?_⟩) (by assumption) ?_
              rotate_left
              · (intro w hSw; (try dsimp only at hSw); go_simp; try with_reducible rfl)
              simp only [Act.put, List.getElem_toArray, List.getElem_cons_succ, List.getElem_cons_zero, List.setIfInBounds_toArray, List.set_cons_zero, List.set_cons_succ]
              refine till_take (i := 2) (v := ?_) [3, 4, 12, 13, 14] rfl (by kernel_rfl) (by kernel_rfl) (by kernel_rfl) (by kernel_rfl) (fun _ _ _ h => h) (Or.inl ⟨by rfl, ?_⟩) (by assumption) ?_
              rotate_left
              · (intro w hSw; (try dsimp only at hSw); go_simp; try with_reducible rfl)
              simp only [Act.put, List.getElem_toArray, List.getElem_cons_succ, List.getElem_cons_zero, List.setIfInBounds_toArray, List.set_cons_zero, List.set_cons_succ]
              refine till_take (i := 3) (v := ?_) [4, 12, 13, 14] rfl (by kernel_rfl) (by kernel_rfl) (by kernel_rfl) (by kernel_rfl) (fun _ _ _ h => h) (Or.inl ⟨by rfl, ?_⟩) (by assumption) ?_
              rotate_left
              · (intro w hSw; (try dsimp only at hSw); go_simp; try with_reducible rfl)
              simp only [Act.put, List.getElem_toArray, List.getElem_cons_succ, List.getElem_cons_zero, List.setIfInBounds_toArray, List.set_cons_zero, List.set_cons_succ]
              refine till_take (i := 4) (v := ?_) [12, 13, 14] rfl (by kernel_rfl) (by kernel_rfl) (by kernel_rfl) (by kernel_rfl) (fun _ _ _ h => h) (Or.inl ⟨by rfl, ?_⟩) (by assumption) ?_
              rotate_left
              · (intro w hSw; (try dsimp only at hSw); go_simp; try with_reducible rfl)
              simp only [Act.put, List.getElem_toArray, List.getElem_cons_succ, List.getElem_cons_zero, List.setIfInBounds_toArray, List.set_cons_zero, List.set_cons_succ]
              refine till_take (i := 5) (v := ?_) [7, 8, 10, 11, 12, 13, 14] rfl (by kernel_rfl) (by kernel_rfl) (by kernel_rfl) (by kernel_rfl) (fun _ _ _ h => h) (Or.inl ⟨by rfl, ?_⟩) (by assumption) ?_
              rotate_left
              · (intro w hSw; (try dsimp only at hSw); go_simp; try with_reducible rfl)
              simp only [Act.put, List.getElem_toArray, List.getElem_cons_succ, List.getElem_cons_zero, List.setIfInBounds_toArray, List.set_cons_zero, List.set_cons_succ]
              refine till_take (i := 6) (v := ?_) [7, 8, 10, 11, 12, 13, 14] rfl (by kernel_rfl) (by kernel_rfl) (by kernel_rfl) (by kernel_rfl) (fun _ _ _ h => h) (Or.inl ⟨by rfl, ?_⟩) (by assumption) ?_
              rotate_left
              · (intro w hSw; (try dsimp only at hSw); go_simp; try with_reducible rfl)
              simp only [Act.put, List.getElem_toArray, List.getElem_cons_succ, List.getElem_cons_zero, List.setIfInBounds_toArray, List.set_cons_zero, List.set_cons_succ]
              refine till_take (i := 7) (v := ?_) [8, 10, 11, 12, 13, 14] rfl (by kernel_rfl) (by kernel_rfl) (by kernel_rfl) (by kernel_rfl) (fun _ _ _ h => h) (Or.inl ⟨by rfl, ?_⟩) (by assumption) ?_
              rotate_left
              · (intro w hSw; (try dsimp only at hSw); go_simp; try with_reducible rfl)
              simp only [Act.put, List.getElem_toArray, List.getElem_cons_succ, List.getElem_cons_zero, List.setIfInBounds_toArray, List.set_cons_zero, List.set_cons_succ]
              refine till_take (i := 8) (v := ?_) [10, 11, 12, 13, 14] rfl (by kernel_rfl) (by kernel_rfl) (by kernel_rfl) (by kernel_rfl) (fun _ _ _ h => h) (Or.inl ⟨by rfl, ?_⟩) (by assumption) ?_
              rotate_left
              · (intro w hSw; (try dsimp only at hSw); go_simp; try with_reducible rfl)
              simp only [Act.put, List.getElem_toArray, List.getElem_cons_succ, List.getElem_cons_zero, List.setIfInBounds_toArray, List.set_cons_zero, List.set_cons_succ]
              refine till_take (i := 9) (v := ?_) [10, 11, 12, 13, 14] rfl (by kernel_rfl) (by kernel_rfl) (by kernel_rfl) (by kernel_rfl) (fun _ _ _ h => h) (Or.inl ⟨by rfl, ?_⟩) (by assumption) ?_
              rotate_left
              · (intro w hSw; (try dsimp only at hSw); go_simp; try with_reducible rfl)
              simp only [Act.put, List.getElem_toArray, List.getElem_cons_succ, List.getElem_cons_zero, List.setIfInBounds_toArray, List.set_cons_zero, List.set_cons_succ]
              refine till_take (i := 10) (v := ?_) [11, 12, 13, 14] rfl (by kernel_rfl) (by kernel_rfl) (by kernel_rfl) (by kernel_rfl) (fun _ _ _ h => h) (Or.inl ⟨by rfl, ?_⟩) (by assumption) ?_
              rotate_left
              · (intro w hSw; (try dsimp only at hSw); go_simp; try with_reducible rfl)
              simp only [Act.put, List.getElem_toArray, List.getElem_cons_succ, List.getElem_cons_zero, List.setIfInBounds_toArray, List.set_cons_zero, List.set_cons_succ]
              refine till_take (i := 11) (v := ?_) [12, 13, 14] rfl (by kernel_rfl) (by kernel_rfl) (by kernel_rfl) (by kernel_rfl) (fun _ _ _ h => h) (Or.inl ⟨by rfl, ?_⟩) (by assumption) ?_
              rotate_left
              · (intro w hSw; (try dsimp only at hSw); go_simp; try with_reducible rfl)
              simp only [Act.put, List.getElem_toArray, List.getElem_cons_succ, List.getElem_cons_zero, List.setIfInBounds_toArray, List.set_cons_zero, List.set_cons_succ]
              refine till_in (i := 12) (by kernel_rfl) rfl (fun K hK => ?_)
              go_simp
              refine (rvtimesK _ _ _ (ss0.getD j []) k2 _ _ _ _ ((rs.getD i1 []).getD j 0) k _ (hv5.later HW) (hy3.later HW) (by omega) (by omega) (by omega)).mono ?_
              rintro e w9 ⟨a8, c8, rfl, h8, hb9⟩
              replace HW := Below.step HW hb9
              clear hb9
              refine hK.out _ _ ?_ (fun hHeld => ?_)
              · exact ⟨(HW.cell (p := ⟨gb, ob + j, none⟩) hgb).trans f1, (HW.cell (p := ⟨g, off + i1, none⟩) hgr).trans f2, (E3.later HW).facts.1, (E3.later HW).facts.2⟩
              clear hK K
              try simp only [Act.put, List.getElem_toArray, List.getElem_cons_succ, List.getElem_cons_zero, List.setIfInBounds_toArray, List.set_cons_zero, List.set_cons_succ]
              refine till_in (i := 13) (by kernel_rfl) rfl (fun K hK => ?_)
              go_simp
              refine (rvaddK _ _ _ ps (k + k2 + j) _ _ _ (vtimes (ss0.getD j []) ((rs.getD i1 []).getD j 0)) (k2 + k) _ ((hps.later HW).vk (by omega)) (h8.vk (by omega)) (by omega) (by omega) (by omega) (by omega)).mono ?_
              rintro e w10 ⟨a9, c9, rfl, h9, hb9⟩
              replace HW := Below.step HW hb9
              clear hb9 h8
              rw [show max M0 l5 = M0 by omega] at h9 ⊢
              rw [show max (k + k2 + j) (k2 + k) + 1 = k + k2 + (j + 1) by omega] at h9
              refine hK.out _ _ ?_ (fun hHeld => ?_)
              · exact ⟨(HW.cell (p := ⟨gb, ob + j, none⟩) hgb).trans f1, (HW.cell (p := ⟨g, off + i1, none⟩) hgr).trans f2, (E3.later HW).facts.1, (E3.later HW).facts.2⟩
              clear hK K
              try simp only [Act.put, List.getElem_toArray, List.getElem_cons_succ, List.getElem_cons_zero, List.setIfInBounds_toArray, List.set_cons_zero, List.set_cons_succ]
              refine till_out (i := 14) (by kernel_rfl) rfl (by kernel_rfl) (fun K hK => ?_)
              go_simp
              refine hK.out _ _ ?_
              clear hK K
              try simp only [Act.put, List.getElem_toArray, List.getElem_cons_succ, List.getElem_cons_zero, List.setIfInBounds_toArray, List.set_cons_zero, List.set_cons_succ]
              refine till_done (by kernel_rfl) ?_ _
              go_wp2
              go_roundw
              case rel => exact ⟨j + 1, _, _, by omega, by rw [unhide HV6]; omega, by go_num, rfl, by rw [← wsum_add (by rw [unhide HV5]; exact hn5), ← unhide EPS]; exact h9, Below.step (unhide HC) HW⟩
              case measure => simp [intOf]; omega
            · have hjm : j = min l6 i := by omega
              have HE := hide (wsum_done (unhide HV6) (unhide HL') hjm)
              have hor : ¬ (j : Int) < (i : Int) ∨ ((j : Int) < (i : Int) ∧ ¬ (j : Int) < (l6 : Int)) := by omega
              rw [← unhide HM] at HE
              rw [unhide HE] at hps
              obtain ⟨x, ex⟩ : ∃ x, x = vprod (rs.getD i1 []) ss0 := ⟨_, rfl⟩
              obtain ⟨L, eL⟩ : ∃ L, L = (rs.take i1).map fun r => vprod r ss0 := ⟨_, rfl⟩
              rw [← ex] at hps
              rw [← eL] at hown
              have EX := hide ex
              have EL := hide eL
              replace hown := hown.later (unhide HC)
              have hvx := vf_up hps (show k + k2 + j ≤ k + k2 + i by omega)
              clear ex eL HE hps hgo hjm hv6 hc6 hg
              obtain ⟨W6, hW6⟩ : ∃ W6, W6 = wr.alloc (.cells #[.slice av M0 cv] 24) := ⟨_, rfl⟩
              have hb9 : Below wr.heap.size wr W6 := by rw [hW6]; exact below_new _ _
              have hone := mf_one hvx
              replace hown := hown.later hb9
              have HBB := hide (Below.step hbb hb9)
              clear hb9 hbb
              have hsz := (unhide HBB).size
              rw [hW6] at hown hsz
              rcases hor with hor | ⟨hor1, hor⟩
              all_goals
                go_wp2_with (at_builtin; refine append_rows (R := fun w a l c zs => VF w a l c zs (k + k2 + i)) (steadyMO (k + k2 + i)) rfl (.tmp 61) (.tmp 63) 22 Try.underlying22 rfl w.heap.size ao' i1 cap' L rfl hown _ 1 1 [x] rfl hone (by omega) hsz ?_)
                intro an cn w7 hown2 hgr7
                rw [← hW6] at hgr7 hown hsz
                clear hW6 hone
                have HD := (unhide HBB).grown hgr7 hsz (MO.ge hown)
                clear hgr7
                go_wp2
                go_roundw
                case rel => exact ⟨i1 + 1, _, _, by omega, by go_num, rfl, by rw [prod_take (by rw [unhide HL]; exact hlt1), ← unhide EL, ← unhide EX]; exact hown2, HD⟩
                case measure => simp [intOf]; omega
        · have hin1 : i1 = n := by omega
          subst hin1
          have hin1' : ¬ (i1 : Int) < (i1 : Int) := by omega
          rw [List.take_of_length_le (by rw [unhide HL]; exact Nat.le_refl _)] at hown
          go_wp2
          go_ret
          exact ⟨_, _, rfl, hown.mf, unhide HB⟩
#print axioms refProductK
end Go.Proofs.Ytbdjkbonoofibaa
