/-
  The walk of RowsTurns: it tells true.
-/
import Derived.Test.YtbdjkbonoofibaaFew9
import Derived.Test.YtbdjkbonoofibaaRMat
import Derived.Test.YtbdjkbonoofibaaRRProd
import Derived.Deep.CutRange
namespace Go.Proofs.Ytbdjkbonoofibaa
open Go.RowKit Lb
set_option maxRecDepth 20000

theorem room_nat {n : Nat} (h : n ≤ 64) : room (n : Int) = n := by
  unfold room
  rw [if_neg (by omega), if_neg (by omega)]
  omega
set_option maxRecDepth 40000 in
set_option maxHeartbeats 4000000 in
theorem rowsTurns_walk (a0 : Option Addr) (len0 cap0 : Nat) (rs0 : List (List Int)) (m1 : Int) (a2 : Option Addr) (len2 cap2 : Nat) (zs2 : List Int) (a3 : Option Addr) (len3 cap3 : Nat) (zs3 : List Int) (w : World) (r0 : MI w a0 len0 cap0 rs0) (r1 : (Lit.int .u8 m1).wf = true) (r2 : VI w a2 len2 cap2 zs2) (r3 : VI w a3 len3 cap3 zs3) :
    Calls Try.prog 6 #[.slice a0 len0 cap0, .int .u8 m1, .slice a2 len2 cap2, .slice a3 len3 cap3] w fun e w' => e = .returned (.bool true) ∧ Below w.heap.size w w' := by
  obtain ⟨M, eM⟩ : ∃ M : Nat, m1 = (M : Int) := ⟨m1.toNat, by have := bounds_u8 r1; omega⟩
  subst eM
  have hM : M ≤ 255 := by have := bounds_u8 r1; omega
  obtain ⟨kk, ekk⟩ : ∃ kk : Nat, kk = 1 + M % 8 := ⟨_, rfl⟩
  have hkk : 1 ≤ kk ∧ kk ≤ 8 := by omega
  have hkI : (1 : Int) + (M : Int) % 8 = (kk : Int) := by omega
  clear r1 ekk
  have L0 := hide r0.len_eq
  have L2 := hide r2.len_eq
  have L3 := hide r3.len_eq
  go_enter Try.func6, Try.ntmps6
  go_wp2_with fail
  have hbA := Below.refl w.heap.size w
  obtain ⟨WL, hWL⟩ : ∃ W', W' = w.alloc (.cells #[.slice a2 len2 cap2, .slice a3 len3 cap3] 24) := ⟨_, rfl⟩
  have hsL : WL.heap.size = w.heap.size + 1 := by rw [hWL]; simp
  have hml : MI WL (some ⟨w.heap.size, 0, none⟩) 2 2 [zs2, zs3] := by
    rw [hWL]
    refine rowsOf_new (vs := [(a2, len2, cap2), (a3, len3, cap3)]) rfl rfl rfl (by simp) fun i a l c e => ?_
    match i with
    | 0 =>
      simp at e
      obtain ⟨rfl, rfl, rfl⟩ := e
      exact r2.later (below_new w _)
    | 1 =>
      simp at e
      obtain ⟨rfl, rfl, rfl⟩ := e
      exact r3.later (below_new w _)
  have hcl2 : WL.cell? ⟨w.heap.size, 0, none⟩ = some (.slice a2 len2 cap2) := by rw [hWL]; simp
  have hcl3 : WL.cell? ⟨w.heap.size, 1, none⟩ = some (.slice a3 len3 cap3) := by rw [hWL]; simp
  have hbL : Below w.heap.size w WL := by rw [hWL]; exact below_new w _
  rw [← hWL]
  clear hWL
  obtain ⟨WM, hWM⟩ : ∃ W', W' = WL.alloc (.cells #[.slice a0 len0 cap0, .slice (some ⟨w.heap.size, 0, none⟩) 2 2] 22) := ⟨_, rfl⟩
  have hbM : Below WL.heap.size WL WM := by rw [hWM]; exact below_new WL _
  have hgM : w.heap.size + 1 < WM.heap.size := by rw [hWM]; simp; omega
  have hcM0 : WM.cell? ⟨w.heap.size + 1, 0 + 0, none⟩ = some (.slice a0 len0 cap0) := by rw [hWM, show w.heap.size + 1 = WL.heap.size by omega]; simp
  have hcM1 : WM.cell? ⟨w.heap.size + 1, 0 + 1, none⟩ = some (.slice (some ⟨w.heap.size, 0, none⟩) 2 2) := by rw [hWM, show w.heap.size + 1 = WL.heap.size by omega]; simp
  have hbW : Below w.heap.size w WM := Below.step hbL hbM
  have hmats : MatsAt WM (some ⟨w.heap.size + 1, 0, none⟩) 2 := by
    refine ⟨by omega, fun _ => ⟨w.heap.size + 1, 0, rfl, hgM, fun i hi => ?_⟩⟩
    match i, hi with
    | 0, _ => exact ⟨_, _, _, _, hcM0, r0.later hbW⟩
    | 1, _ => exact ⟨_, _, _, _, hcM1, hml.later hbM⟩
  rw [← hWM]
  clear hWM
  refine (few9_any _ _ _ WM hmats).mono ?_
  rintro e v0 ⟨q, rfl, hq, hb1⟩
  have HB := hide (Below.step hbW hb1)
  by_cases hf : q = true
  · subst hf
    have F0 := hq rfl 0 (w.heap.size + 1) 0 _ _ _ (by omega) rfl hcM0
    obtain ⟨n0, wd0, s0⟩ := ms_later r0 hbW F0
    have S0 := hide (s0 _ (unhide HB))
    have WD0 := hide wd0
    clear s0 wd0 F0
    have F1 := hq rfl 1 (w.heap.size + 1) 0 _ _ _ (by omega) rfl hcM1
    obtain ⟨n2, s2⟩ := F1.2 0 w.heap.size 0 a2 len2 cap2 (by omega) rfl (by rw [Nat.zero_add, hbM.cell (p := ⟨w.heap.size, 0, none⟩) (by show w.heap.size < WL.heap.size; omega)]; exact hcl2)
    have S2 := hide (vs_later r2 hbW s2 _ (unhide HB))
    clear s2
    obtain ⟨n3, s3⟩ := F1.2 1 w.heap.size 0 a3 len3 cap3 (by omega) rfl (by rw [Nat.zero_add, hbM.cell (p := ⟨w.heap.size, 1, none⟩) (by show w.heap.size < WL.heap.size; omega)]; exact hcl3)
    have S3 := hide (vs_later r3 hbW s3 _ (unhide HB))
    clear s3
    clear F1
    obtain ⟨kx, ekx⟩ : ∃ kx, kx = 12 := ⟨_, rfl⟩
    rw [← ekx] at S0 S2 S3
    have hkx : kx ≤ 12 := by omega
    clear ekx hq hb1 hbW hbM hgM hmats hcM0 hcM1 hbL hml hsL hcl2 hcl3 hbA r0 r2 r3
    have HRO := hide (show room (kk : Int) = kk from room_nat (by omega))
    go_wp2_with fail
    go_loopw [10, 31] (fun s t wr => ∃ (i : Nat) (ao' : Option Addr) (cap' : Nat), i ≤ len0 ∧ t = .int .i64 (i : Int) ∧ s = .slice ao' i cap' ∧ MO wr v0.heap.size ao' i cap' ((rs0.take i).map fun r => vcut r kk) kx ∧ Below v0.heap.size v0 wr) (fun _ t _ => len0 - (intOf t).toNat)
    case atStart => exact ⟨0, _, _, Nat.zero_le _, rfl, rfl, mo_nil _ _ _, Below.refl _ _⟩
    case round =>
      obtain ⟨i, ao', cap', hi, rfl, rfl, hown, hB⟩ := hrel
      have HC := hide hB
      clear hB
      by_cases hlt : i < len0
      · obtain ⟨g, off, rfl⟩ := (unhide S0).addr (by omega)
        obtain ⟨hg, a5, l5, c5, hc5, hv5⟩ := RowsOf.at (R := fun w a l c zs => VS w a l c zs kx) (unhide S0) hlt
        replace hv5 := hv5.later (unhide HC)
        have f2 := ((unhide HC).cell (p := ⟨g, off + i, none⟩) hg).trans hc5
        have hgr := Nat.lt_of_lt_of_le hg (unhide HC).size
        clear hc5 hg
        have hcut := rvcutK _ _ _ (rs0.getD i []) kx (kk : Int) _ hv5.vk
        rw [unhide HRO] at hcut
        have HCU := hide hcut
        clear hcut
        go_wp2_with fail
        refine (unhide HCU).mono ?_
        rintro e w5 ⟨a7, c7, rfl, h7, hb9⟩
        replace hown := hown.later hb9
        replace HC := hide (Below.step (unhide HC) hb9)
        clear hb9 f2 hgr hv5 HCU
        obtain ⟨z, ez⟩ : ∃ z, z = vcut (rs0.getD i []) kk := ⟨_, rfl⟩
        obtain ⟨LL, eL⟩ : ∃ LL, LL = (rs0.take i).map fun r => vcut r kk := ⟨_, rfl⟩
        rw [← ez] at h7
        rw [← eL] at hown
        have EZ := hide ez
        have EL := hide eL
        clear ez eL
        obtain ⟨W6, hW6⟩ : ∃ W6, W6 = w5.alloc (.cells #[.slice a7 kk c7] 24) := ⟨_, rfl⟩
        have hb9 : Below w5.heap.size w5 W6 := by rw [hW6]; exact below_new _ _
        have hone := mf_one h7
        replace hown := hown.later hb9
        replace HC := hide (Below.step (unhide HC) hb9)
        clear hb9
        have hsz := (unhide HC).size
        rw [hW6] at hown hsz
        go_wp2_with (at_builtin; refine append_rows (R := fun w a l c zs => VF w a l c zs kx) (steadyMO kx) rfl (.tmp 35) (.tmp 39) 22 Try.underlying22 rfl v0.heap.size ao' i cap' LL rfl hown _ 1 1 [z] rfl hone (by omega) hsz ?_)
        intro an cn w7 hown2 hgr7
        rw [← hW6] at hgr7 hown hsz
        clear hW6 hone
        have HD := (unhide HC).grown hgr7 hsz (MO.ge hown)
        clear hgr7
        go_wp2
        go_roundw
        case rel => exact ⟨i + 1, _, _, by omega, by go_num, rfl, by rw [prod_take (f := fun r => vcut r kk) (by rw [unhide L0]; exact hlt), ← unhide EL, ← unhide EZ]; exact hown2, HD⟩
        case measure => simp [intOf]; omega
      · have hin : i = len0 := by omega
        subst hin
        rw [List.take_of_length_le (by rw [unhide L0]; exact Nat.le_refl _)] at hown
        obtain ⟨LL, eL⟩ : ∃ LL, LL = rs0.map fun r => vcut r kk := ⟨_, rfl⟩
        rw [← eL] at hown
        have hLl : LL.length = i := hown.len
        have hLw : ∀ r ∈ LL, r.length = kk := by
          intro r hr
          rw [eL] at hr
          obtain ⟨s, _, rfl⟩ := List.mem_map.1 hr
          exact vcut_len s kk
        have HLl := hide hLl
        have HLw := hide hLw
        have HLM := hide (fun j => Wide.at (M := 14) (fun x hx => by rw [hLw x hx]; omega) j : ∀ j, (LL.getD j []).length ≤ 14)
        clear eL hLl hLw
        have h20 := hown.mf
        have hb9 := unhide HC
        clear hown HC
        replace S0 := hide ((unhide S0).later hb9)
        replace S2 := hide ((unhide S2).later hb9)
        replace S3 := hide ((unhide S3).later hb9)
        replace HB := hide (Below.step (unhide HB) hb9)
        clear hb9
        have ht := fun W h => turnK ao' i cap' LL kx 14 (kk : Int) W h (unhide HLM) (show i ≤ 1000000 by omega)
        rw [unhide HRO] at ht
        have HT := hide ht
        clear ht
        go_wp2_with fail
        refine (unhide HT _ (h20.mk (by omega))).mono ?_
        rintro e v1 ⟨a21, c21, rfl, h21, hb9⟩
        replace S0 := hide ((unhide S0).later hb9)
        replace S2 := hide ((unhide S2).later hb9)
        replace S3 := hide ((unhide S3).later hb9)
        replace h20 := h20.later hb9
        replace HB := hide (Below.step (unhide HB) hb9)
        clear hb9
        clear HT
        have hkn : ((kk : Int) != (kk : Int)) = false := by simp
        have hF1 : rform LL (kk : Int) = true := rform_yes (by omega) fun j hj => by
          rw [show LL.getD j [] = LL[j] by simp [List.getD, hj], (unhide HLw) _ (List.getElem_mem hj)]
        have HF1 := hide hF1
        clear hF1
        go_wp2_with fail
        refine (rowsFormK _ _ _ LL (kk : Int) _ h20.ml (by omega) true (unhide HF1)).mono ?_
        rintro e v2 ⟨rfl, hb9⟩
        replace S0 := hide ((unhide S0).later hb9)
        replace S2 := hide ((unhide S2).later hb9)
        replace S3 := hide ((unhide S3).later hb9)
        replace h20 := h20.later hb9
        replace h21 := h21.later hb9
        replace HB := hide (Below.step (unhide HB) hb9)
        clear hb9
        by_cases hi0 : i = 0
        · subst hi0
          have hcx := rvcutK _ _ _ zs2 kx (kk : Int) _ (unhide S2).vk
          rw [unhide HRO] at hcx
          have HX := hide hcx
          clear hcx
          go_wp2_with fail
          refine (unhide HX).mono ?_
          rintro e v101 ⟨a31, c31, rfl, h31, hb9⟩
          replace S0 := hide ((unhide S0).later hb9)
          replace S2 := hide ((unhide S2).later hb9)
          replace S3 := hide ((unhide S3).later hb9)
          replace h20 := h20.later hb9
          replace h21 := h21.later hb9
          replace HB := hide (Below.step (unhide HB) hb9)
          clear hb9
          clear HX
          have hcy := rvcutK _ _ _ zs3 kx ((0 : Nat) : Int) _ (unhide S3).vk
          rw [show room ((0 : Nat) : Int) = 0 from room_nat (by omega)] at hcy
          have HY := hide hcy
          clear hcy
          go_wp2_with fail
          refine (unhide HY).mono ?_
          rintro e v102 ⟨a32, c32, rfl, h32, hb9⟩
          replace S0 := hide ((unhide S0).later hb9)
          replace S2 := hide ((unhide S2).later hb9)
          replace S3 := hide ((unhide S3).later hb9)
          replace h20 := h20.later hb9
          replace h21 := h21.later hb9
          replace h31 := h31.later hb9
          replace HB := hide (Below.step (unhide HB) hb9)
          clear hb9
          clear HY
          obtain ⟨X, eX⟩ : ∃ X, X = vcut zs2 kk := ⟨_, rfl⟩
          obtain ⟨Y, eY⟩ : ∃ Y, Y = vcut zs3 0 := ⟨_, rfl⟩
          rw [← eX] at h31
          rw [← eY] at h32
          have hYl : Y.length = 0 := by rw [eY]; exact vcut_len _ _
          have HYl := hide hYl
          clear eX eY hYl
          go_wp2_with fail
          obtain ⟨WP, hWP⟩ : ∃ W', W' = v102.alloc (.cells #[.slice a32 0 c32] 24) := ⟨_, rfl⟩
          have hb9 : Below v102.heap.size v102 WP := by rw [hWP]; exact below_new _ _
          have hone : MF WP (some ⟨v102.heap.size, 0, none⟩) 1 1 [Y] kx := by rw [hWP]; exact mf_one h32
          rw [← hWP]
          clear hWP
          replace S0 := hide ((unhide S0).later hb9)
          replace S2 := hide ((unhide S2).later hb9)
          replace S3 := hide ((unhide S3).later hb9)
          replace h20 := h20.later hb9
          replace h21 := h21.later hb9
          replace h31 := h31.later hb9
          replace h32 := h32.later hb9
          replace HB := hide (Below.step (unhide HB) hb9)
          clear hb9
          have HYM := hide (fun j => Wide.at (M := 14) (fun x hx => by rw [List.mem_singleton.1 hx, unhide HYl]; omega) j : ∀ j, ([Y].getD j []).length ≤ 14)
          go_wp2_with fail
          refine (productK _ _ _ [Y] kx _ _ _ LL kx 14 _ (hone.mk (by omega)) (h20.mk (by omega)) (by omega) (by omega) (unhide HYM) (unhide HLM) (by omega) (by omega) (by omega)).mono ?_
          rintro e v103 ⟨a33, c33, rfl, h33, hb9⟩
          replace S0 := hide ((unhide S0).later hb9)
          replace S2 := hide ((unhide S2).later hb9)
          replace S3 := hide ((unhide S3).later hb9)
          replace h20 := h20.later hb9
          replace h21 := h21.later hb9
          replace h31 := h31.later hb9
          replace h32 := h32.later hb9
          replace HB := hide (Below.step (unhide HB) hb9)
          clear hb9
          clear hone
          rw [List.map_singleton] at h33
          obtain ⟨gp, op, rfl⟩ := h33.addr (by omega)
          obtain ⟨hgp, a5, l5, c5, f2, hv5⟩ := RowsOf.at (R := fun w a l c zs => VF w a l c zs (kx + kx + 0)) h33 (show 0 < 1 by omega)
          rw [Nat.add_zero] at f2
          simp only [List.getD_cons_zero] at hv5
          have hl5 : l5 = longest LL := by rw [← hv5.len_eq, vprod_len]
          have hl14 : l5 ≤ 14 := by rw [hl5]; exact longest_le fun r hr => by rw [(unhide HLw) r hr]; omega
          clear hl5
          have HW : Below v103.heap.size v103 v103.drew := (Below.refl _ _).drew
          go_upto_region 15 with fail
          refine till_start (fun w' => w'.cell? ⟨gp, op, none⟩ = some (.slice a5 l5 c5)) 19 (by kernel_rfl) ?_ (fun hHeld => ?_)
          · exact (HW.cell (p := ⟨gp, op, none⟩) hgp).trans f2
          refine till_take (i := 0) (v := ?_) [1, 2, 3, 4, 5, 6, 7, 8, 9, 10, 11, 12, 13, 14, 15, 16, 17, 18, 19] rfl (by kernel_rfl) (by kernel_rfl) (by kernel_rfl) (by kernel_rfl) (fun _ _ _ h => h) (Or.inl ⟨by rfl, ?_⟩) (by assumption) ?_
          rotate_left
          · (intro w hSw; (try dsimp only at hSw); go_simp; try with_reducible rfl)
          simp only [Act.put, List.getElem_toArray, List.getElem_cons_zero, List.setIfInBounds_toArray, List.set_cons_zero, List.set_cons_succ]
          refine till_take (i := 1) (v := ?_) [2, 3, 4, 5, 6, 7, 8, 9, 10, 11, 12, 13, 14, 15, 16, 17, 18, 19] rfl (by kernel_rfl) (by kernel_rfl) (by kernel_rfl) (by kernel_rfl) (fun _ _ _ h => h) (Or.inl ⟨by rfl, ?_⟩) (by assumption) ?_
          rotate_left
          · (intro w hSw; (try dsimp only at hSw); go_simp; try with_reducible rfl)
          simp only [Act.put, List.getElem_toArray, List.getElem_cons_succ, List.getElem_cons_zero, List.setIfInBounds_toArray, List.set_cons_zero, List.set_cons_succ]
          refine till_take (i := 2) (v := ?_) [3, 4, 5, 6, 7, 8, 9, 10, 11, 12, 13, 14, 15, 16, 17, 18, 19] rfl (by kernel_rfl) (by kernel_rfl) (by kernel_rfl) (by kernel_rfl) (fun _ _ _ h => h) (Or.inl ⟨by rfl, ?_⟩) (by assumption) ?_
          rotate_left
          · (intro w hSw; (try dsimp only at hSw); go_simp; try with_reducible rfl)
          simp only [Act.put, List.getElem_toArray, List.getElem_cons_succ, List.getElem_cons_zero, List.setIfInBounds_toArray, List.set_cons_zero, List.set_cons_succ]
          refine till_take (i := 3) (v := ?_) [4, 5, 6, 7, 8, 9, 10, 11, 12, 13, 14, 15, 16, 17, 18, 19] rfl (by kernel_rfl) (by kernel_rfl) (by kernel_rfl) (by kernel_rfl) (fun _ _ _ h => h) (Or.inl ⟨by rfl, ?_⟩) (by assumption) ?_
          rotate_left
          · (intro w hSw; (try dsimp only at hSw); go_simp; try with_reducible rfl)
          simp only [Act.put, List.getElem_toArray, List.getElem_cons_succ, List.getElem_cons_zero, List.setIfInBounds_toArray, List.set_cons_zero, List.set_cons_succ]
          refine till_take (i := 4) (v := ?_) [8, 13, 14, 15, 16, 17, 18, 19] rfl (by kernel_rfl) (by kernel_rfl) (by kernel_rfl) (by kernel_rfl) (fun _ _ _ h => h) (Or.inl ⟨by rfl, ?_⟩) (by assumption) ?_
          rotate_left
          · (intro w hSw; (try dsimp only at hSw); go_simp; try with_reducible rfl)
          simp only [Act.put, List.getElem_toArray, List.getElem_cons_succ, List.getElem_cons_zero, List.setIfInBounds_toArray, List.set_cons_zero, List.set_cons_succ]
          refine till_take (i := 5) (v := ?_) [7, 8, 13, 14, 15, 16, 17, 18, 19] rfl (by kernel_rfl) (by kernel_rfl) (by kernel_rfl) (by kernel_rfl) (fun _ _ _ h => h) (Or.inl ⟨by rfl, ?_⟩) (by assumption) ?_
          rotate_left
          · (intro w hSw; (try dsimp only at hSw); go_simp; try with_reducible rfl)
          simp only [Act.put, List.getElem_toArray, List.getElem_cons_succ, List.getElem_cons_zero, List.setIfInBounds_toArray, List.set_cons_zero, List.set_cons_succ]
          refine till_take (i := 6) (v := ?_) [7, 8, 13, 14, 15, 16, 17, 18, 19] rfl (by kernel_rfl) (by kernel_rfl) (by kernel_rfl) (by kernel_rfl) (fun _ _ _ h => h) (Or.inl ⟨by rfl, ?_⟩) (by assumption) ?_
          rotate_left
          · (intro w hSw; (try dsimp only at hSw); go_simp; try with_reducible rfl)
          simp only [Act.put, List.getElem_toArray, List.getElem_cons_succ, List.getElem_cons_zero, List.setIfInBounds_toArray, List.set_cons_zero, List.set_cons_succ]
          refine till_take (i := 9) (v := ?_) [10, 11, 13, 14, 15, 16, 17, 18, 19] rfl (by kernel_rfl) (by kernel_rfl) (by kernel_rfl) (by kernel_rfl) (fun _ _ _ h => h) (Or.inl ⟨by rfl, ?_⟩) (by assumption) ?_
          rotate_left
          · (intro w hSw; (try dsimp only at hSw); go_simp; try with_reducible rfl)
          simp only [Act.put, List.getElem_toArray, List.getElem_cons_succ, List.getElem_cons_zero, List.setIfInBounds_toArray, List.set_cons_zero, List.set_cons_succ]
          refine till_take (i := 10) (v := ?_) [11, 13, 14, 15, 16, 17, 18, 19] rfl (by kernel_rfl) (by kernel_rfl) (by kernel_rfl) (by kernel_rfl) (fun _ _ _ h => h) (Or.inl ⟨by rfl, ?_⟩) (by assumption) ?_
          rotate_left
          · (intro w hSw; (try dsimp only at hSw); go_simp; try with_reducible rfl)
          simp only [Act.put, List.getElem_toArray, List.getElem_cons_succ, List.getElem_cons_zero, List.setIfInBounds_toArray, List.set_cons_zero, List.set_cons_succ]
          refine till_take (i := 11) (v := ?_) [13, 14, 15, 16, 17, 18, 19] rfl (by kernel_rfl) (by kernel_rfl) (by kernel_rfl) (by kernel_rfl) (fun _ _ _ h => h) (Or.inl ⟨by rfl, ?_⟩) (by assumption) ?_
          rotate_left
          · (intro w hSw; (try dsimp only at hSw); go_simp; try with_reducible rfl)
          simp only [Act.put, List.getElem_toArray, List.getElem_cons_succ, List.getElem_cons_zero, List.setIfInBounds_toArray, List.set_cons_zero, List.set_cons_succ]
          refine till_take (i := 12) (v := ?_) [13, 14, 15, 16, 17, 18, 19] rfl (by kernel_rfl) (by kernel_rfl) (by kernel_rfl) (by kernel_rfl) (fun _ _ _ h => h) (Or.inl ⟨by rfl, ?_⟩) (by assumption) ?_
          rotate_left
          · (intro w hSw; (try dsimp only at hSw); go_simp; try with_reducible rfl)
          simp only [Act.put, List.getElem_toArray, List.getElem_cons_succ, List.getElem_cons_zero, List.setIfInBounds_toArray, List.set_cons_zero, List.set_cons_succ]
          refine till_in (i := 7) (by kernel_rfl) rfl (fun K hK => ?_)
          go_simp
          refine (rowsMulK _ _ _ LL kx _ _ _ X kx 14 _ ((h20.later HW).mk (by omega)) ((h31.later HW).vk (by omega)) (by omega) (by omega) (unhide HLM) (by omega) (by omega) (by omega)).mono ?_
          rintro e y1 ⟨a41, c41, rfl, h41, hb9⟩
          replace HW := Below.step HW hb9
          clear hb9
          refine hK.out _ _ ?_ (fun hHeld => ?_)
          · exact (HW.cell (p := ⟨gp, op, none⟩) hgp).trans f2
          clear hK K
          try simp only [Act.put, List.getElem_toArray, List.getElem_cons_succ, List.getElem_cons_zero, List.setIfInBounds_toArray, List.set_cons_zero, List.set_cons_succ]
          refine till_in (i := 8) (by kernel_rfl) rfl (fun K hK => ?_)
          go_simp
          refine (vdotK _ _ _ Y kx _ _ _ (LL.map fun r => vdot r X) (kx + kx + 14) _ ((h32.later HW).vk (by omega)) (h41.vk (by omega)) (by omega) (by omega) (by omega) (by omega)).mono ?_
          rintro e y2 ⟨b42, a42, l42, c42, rfl, h42, hb9⟩
          replace HW := Below.step HW hb9
          clear hb9 h41
          refine hK.out _ _ ?_ (fun hHeld => ?_)
          · exact (HW.cell (p := ⟨gp, op, none⟩) hgp).trans f2
          clear hK K
          try simp only [Act.put, List.getElem_toArray, List.getElem_cons_succ, List.getElem_cons_zero, List.setIfInBounds_toArray, List.set_cons_zero, List.set_cons_succ]
          refine till_in (i := 13) (by kernel_rfl) rfl (fun K hK => ?_)
          go_simp
          refine (vdotK _ _ _ (vprod Y LL) (kx + kx + 0) _ _ _ X kx _ ((hv5.later HW).vk (by omega)) ((h31.later HW).vk (by omega)) (by omega) (by omega) (by omega) (by omega)).mono ?_
          rintro e y3 ⟨b43, a43, l43, c43, rfl, h43, hb9⟩
          replace HW := Below.step HW hb9
          replace h42 := h42.later hb9
          clear hb9
          refine hK.out _ _ ?_ (fun hHeld => ?_)
          · exact (HW.cell (p := ⟨gp, op, none⟩) hgp).trans f2
          clear hK K
          try simp only [Act.put, List.getElem_toArray, List.getElem_cons_succ, List.getElem_cons_zero, List.setIfInBounds_toArray, List.set_cons_zero, List.set_cons_succ]
          refine till_in (i := 14) (by kernel_rfl) rfl (fun K hK => ?_)
          go_simp
          refine (rsameK _ _ _ _ _ _ _ _ _ _ _ _ _ h42 h43 (prod_dot Y X LL)).mono ?_
          rintro e y4 ⟨rfl, hb9⟩
          replace HW := Below.step HW hb9
          clear hb9 h42 h43
          refine hK.out _ _ ?_ (fun hHeld => ?_)
          · exact (HW.cell (p := ⟨gp, op, none⟩) hgp).trans f2
          clear hK K
          try simp only [Act.put, List.getElem_toArray, List.getElem_cons_succ, List.getElem_cons_zero, List.setIfInBounds_toArray, List.set_cons_zero, List.set_cons_succ]
          refine till_take (i := 15) (v := ?_) [16, 17, 18, 19] rfl (by kernel_rfl) (by kernel_rfl) (by kernel_rfl) (by kernel_rfl) (fun _ _ _ h => h) (Or.inl ⟨by rfl, ?_⟩) (by assumption) ?_
          rotate_left
          · (intro w hSw; (try dsimp only at hSw); go_simp; try with_reducible rfl)
          simp only [Act.put, List.getElem_toArray, List.getElem_cons_succ, List.getElem_cons_zero, List.setIfInBounds_toArray, List.set_cons_zero, List.set_cons_succ]
          refine till_take (i := 16) (v := ?_) [17, 18, 19] rfl (by kernel_rfl) (by kernel_rfl) (by kernel_rfl) (by kernel_rfl) (fun _ _ _ h => h) (Or.inl ⟨by rfl, ?_⟩) (by assumption) ?_
          rotate_left
          · (intro w hSw; (try dsimp only at hSw); go_simp; try with_reducible rfl)
          simp only [Act.put, List.getElem_toArray, List.getElem_cons_succ, List.getElem_cons_zero, List.setIfInBounds_toArray, List.set_cons_zero, List.set_cons_succ]
          refine till_in (i := 17) (by kernel_rfl) rfl (fun K hK => ?_)
          go_simp
          refine (awake9_any _).mono ?_
          rintro e y5 ⟨rfl, hb9⟩
          replace HW := Below.step HW hb9
          clear hb9
          refine hK.out _ _ ?_ (fun hHeld => ?_)
          · exact (HW.cell (p := ⟨gp, op, none⟩) hgp).trans f2
          clear hK K
          try simp only [Act.put, List.getElem_toArray, List.getElem_cons_succ, List.getElem_cons_zero, List.setIfInBounds_toArray, List.set_cons_zero, List.set_cons_succ]
          refine till_take (i := 18) (v := ?_) [19] rfl (by kernel_rfl) (by kernel_rfl) (by kernel_rfl) (by kernel_rfl) (fun _ _ _ h => h) (Or.inl ⟨by rfl, ?_⟩) (by assumption) ?_
          rotate_left
          · (intro w hSw; (try dsimp only at hSw); go_simp; try with_reducible rfl)
          simp only [Act.put, List.getElem_toArray, List.getElem_cons_succ, List.getElem_cons_zero, List.setIfInBounds_toArray, List.set_cons_zero, List.set_cons_succ]
          refine till_out (i := 19) (by kernel_rfl) rfl (by kernel_rfl) (fun K hK => ?_)
          go_simp
          refine hK.out _ _ ?_
          clear hK K
          try simp only [Act.put, List.getElem_toArray, List.getElem_cons_succ, List.getElem_cons_zero, List.setIfInBounds_toArray, List.set_cons_zero, List.set_cons_succ]
          refine till_done (by kernel_rfl) ?_ _
          go_wp2
          go_ret
          exact ⟨rfl, Below.step (unhide HB) HW⟩
        · have hgt : (0 : Int) < (i : Int) := by omega
          have hF2 : rform (vturn LL kk) (i : Int) = true := rform_yes (by omega) fun j hj => by
            rw [vturn_len] at hj
            rw [vturn_at LL hj, List.length_map, unhide HLl]
          have HF2 := hide hF2
          clear hF2
          go_wp2_with fail
          refine (rowsFormK _ _ _ (vturn LL kk) (i : Int) _ h21.ml (by omega) true (unhide HF2)).mono ?_
          rintro e v201 ⟨rfl, hb9⟩
          replace S0 := hide ((unhide S0).later hb9)
          replace S2 := hide ((unhide S2).later hb9)
          replace S3 := hide ((unhide S3).later hb9)
          replace h20 := h20.later hb9
          replace h21 := h21.later hb9
          replace HB := hide (Below.step (unhide HB) hb9)
          clear hb9
          have HTM := hide (fun j => Wide.at (M := 14) (fun x hx => by obtain ⟨j, _, rfl⟩ := List.mem_map.1 hx; rw [List.length_map, unhide HLl]; omega) j : ∀ j, ((vturn LL kk).getD j []).length ≤ 14)
          have ht := turnK _ _ _ (vturn LL kk) kx 14 (i : Int) _ (h21.mk (by omega)) (unhide HTM) (by omega)
          rw [show room (i : Int) = i from room_nat (by omega)] at ht
          have HT := hide ht
          clear ht
          go_wp2_with fail
          refine (unhide HT).mono ?_
          rintro e v202 ⟨a22, c22, rfl, h22, hb9⟩
          replace S0 := hide ((unhide S0).later hb9)
          replace S2 := hide ((unhide S2).later hb9)
          replace S3 := hide ((unhide S3).later hb9)
          replace h20 := h20.later hb9
          replace h21 := h21.later hb9
          replace HB := hide (Below.step (unhide HB) hb9)
          clear hb9
          clear HT
          go_wp2_with fail
          refine (refSameAllK _ _ _ _ _ _ _ _ _ _ _ h22 h20 (by rw [← unhide HLl]; exact turn_twice (unhide HLw))).mono ?_
          rintro e v203 ⟨rfl, hb9⟩
          replace S0 := hide ((unhide S0).later hb9)
          replace S2 := hide ((unhide S2).later hb9)
          replace S3 := hide ((unhide S3).later hb9)
          replace h20 := h20.later hb9
          replace h21 := h21.later hb9
          replace HB := hide (Below.step (unhide HB) hb9)
          clear hb9
          clear h22
          have hcx := rvcutK _ _ _ zs2 kx (kk : Int) _ (unhide S2).vk
          rw [unhide HRO] at hcx
          have HX := hide hcx
          clear hcx
          go_wp2_with fail
          refine (unhide HX).mono ?_
          rintro e v204 ⟨a31, c31, rfl, h31, hb9⟩
          replace S0 := hide ((unhide S0).later hb9)
          replace S2 := hide ((unhide S2).later hb9)
          replace S3 := hide ((unhide S3).later hb9)
          replace h20 := h20.later hb9
          replace h21 := h21.later hb9
          replace HB := hide (Below.step (unhide HB) hb9)
          clear hb9
          clear HX
          have hcy := rvcutK _ _ _ zs3 kx ((i : Nat) : Int) _ (unhide S3).vk
          rw [show room ((i : Nat) : Int) = i from room_nat (by omega)] at hcy
          have HY := hide hcy
          clear hcy
          go_wp2_with fail
          refine (unhide HY).mono ?_
          rintro e v205 ⟨a32, c32, rfl, h32, hb9⟩
          replace S0 := hide ((unhide S0).later hb9)
          replace S2 := hide ((unhide S2).later hb9)
          replace S3 := hide ((unhide S3).later hb9)
          replace h20 := h20.later hb9
          replace h21 := h21.later hb9
          replace h31 := h31.later hb9
          replace HB := hide (Below.step (unhide HB) hb9)
          clear hb9
          clear HY
          obtain ⟨X, eX⟩ : ∃ X, X = vcut zs2 kk := ⟨_, rfl⟩
          obtain ⟨Y, eY⟩ : ∃ Y, Y = vcut zs3 i := ⟨_, rfl⟩
          rw [← eX] at h31
          rw [← eY] at h32
          have hYl : Y.length = i := by rw [eY]; exact vcut_len _ _
          have HYl := hide hYl
          clear eX eY hYl
          go_wp2_with fail
          obtain ⟨WP, hWP⟩ : ∃ W', W' = v205.alloc (.cells #[.slice a32 i c32] 24) := ⟨_, rfl⟩
          have hb9 : Below v205.heap.size v205 WP := by rw [hWP]; exact below_new _ _
          have hone : MF WP (some ⟨v205.heap.size, 0, none⟩) 1 1 [Y] kx := by rw [hWP]; exact mf_one h32
          rw [← hWP]
          clear hWP
          replace S0 := hide ((unhide S0).later hb9)
          replace S2 := hide ((unhide S2).later hb9)
          replace S3 := hide ((unhide S3).later hb9)
          replace h20 := h20.later hb9
          replace h21 := h21.later hb9
          replace h31 := h31.later hb9
          replace h32 := h32.later hb9
          replace HB := hide (Below.step (unhide HB) hb9)
          clear hb9
          have HYM := hide (fun j => Wide.at (M := 14) (fun x hx => by rw [List.mem_singleton.1 hx, unhide HYl]; omega) j : ∀ j, ([Y].getD j []).length ≤ 14)
          go_wp2_with fail
          refine (productK _ _ _ [Y] kx _ _ _ LL kx 14 _ (hone.mk (by omega)) (h20.mk (by omega)) (by omega) (by omega) (unhide HYM) (unhide HLM) (by omega) (by omega) (by omega)).mono ?_
          rintro e v206 ⟨a33, c33, rfl, h33, hb9⟩
          replace S0 := hide ((unhide S0).later hb9)
          replace S2 := hide ((unhide S2).later hb9)
          replace S3 := hide ((unhide S3).later hb9)
          replace h20 := h20.later hb9
          replace h21 := h21.later hb9
          replace h31 := h31.later hb9
          replace h32 := h32.later hb9
          replace HB := hide (Below.step (unhide HB) hb9)
          clear hb9
          clear hone
          rw [List.map_singleton] at h33
          obtain ⟨gp, op, rfl⟩ := h33.addr (by omega)
          obtain ⟨hgp, a5, l5, c5, f2, hv5⟩ := RowsOf.at (R := fun w a l c zs => VF w a l c zs (kx + kx + i)) h33 (show 0 < 1 by omega)
          rw [Nat.add_zero] at f2
          simp only [List.getD_cons_zero] at hv5
          have hl5 : l5 = longest LL := by rw [← hv5.len_eq, vprod_len]
          have hl14 : l5 ≤ 14 := by rw [hl5]; exact longest_le fun r hr => by rw [(unhide HLw) r hr]; omega
          clear hl5
          have HW : Below v206.heap.size v206 v206.drew := (Below.refl _ _).drew
          go_upto_region 15 with fail
          refine till_start (fun w' => w'.cell? ⟨gp, op, none⟩ = some (.slice a5 l5 c5)) 19 (by kernel_rfl) ?_ (fun hHeld => ?_)
          · exact (HW.cell (p := ⟨gp, op, none⟩) hgp).trans f2
          refine till_take (i := 0) (v := ?_) [1, 2, 3, 4, 5, 6, 7, 8, 9, 10, 11, 12, 13, 14, 15, 16, 17, 18, 19] rfl (by kernel_rfl) (by kernel_rfl) (by kernel_rfl) (by kernel_rfl) (fun _ _ _ h => h) (Or.inl ⟨by rfl, ?_⟩) (by assumption) ?_
          rotate_left
          · (intro w hSw; (try dsimp only at hSw); go_simp; try with_reducible rfl)
          simp only [Act.put, List.getElem_toArray, List.getElem_cons_zero, List.setIfInBounds_toArray, List.set_cons_zero, List.set_cons_succ]
          refine till_take (i := 1) (v := ?_) [2, 3, 4, 5, 6, 7, 8, 9, 10, 11, 12, 13, 14, 15, 16, 17, 18, 19] rfl (by kernel_rfl) (by kernel_rfl) (by kernel_rfl) (by kernel_rfl) (fun _ _ _ h => h) (Or.inl ⟨by rfl, ?_⟩) (by assumption) ?_
          rotate_left
          · (intro w hSw; (try dsimp only at hSw); go_simp; try with_reducible rfl)
          simp only [Act.put, List.getElem_toArray, List.getElem_cons_succ, List.getElem_cons_zero, List.setIfInBounds_toArray, List.set_cons_zero, List.set_cons_succ]
          refine till_take (i := 2) (v := ?_) [3, 4, 5, 6, 7, 8, 9, 10, 11, 12, 13, 14, 15, 16, 17, 18, 19] rfl (by kernel_rfl) (by kernel_rfl) (by kernel_rfl) (by kernel_rfl) (fun _ _ _ h => h) (Or.inl ⟨by rfl, ?_⟩) (by assumption) ?_
          rotate_left
          · (intro w hSw; (try dsimp only at hSw); go_simp; try with_reducible rfl)
          simp only [Act.put, List.getElem_toArray, List.getElem_cons_succ, List.getElem_cons_zero, List.setIfInBounds_toArray, List.set_cons_zero, List.set_cons_succ]
          refine till_take (i := 3) (v := ?_) [4, 5, 6, 7, 8, 9, 10, 11, 12, 13, 14, 15, 16, 17, 18, 19] rfl (by kernel_rfl) (by kernel_rfl) (by kernel_rfl) (by kernel_rfl) (fun _ _ _ h => h) (Or.inl ⟨by rfl, ?_⟩) (by assumption) ?_
          rotate_left
          · (intro w hSw; (try dsimp only at hSw); go_simp; try with_reducible rfl)
          simp only [Act.put, List.getElem_toArray, List.getElem_cons_succ, List.getElem_cons_zero, List.setIfInBounds_toArray, List.set_cons_zero, List.set_cons_succ]
          refine till_take (i := 4) (v := ?_) [8, 13, 14, 15, 16, 17, 18, 19] rfl (by kernel_rfl) (by kernel_rfl) (by kernel_rfl) (by kernel_rfl) (fun _ _ _ h => h) (Or.inl ⟨by rfl, ?_⟩) (by assumption) ?_
          rotate_left
          · (intro w hSw; (try dsimp only at hSw); go_simp; try with_reducible rfl)
          simp only [Act.put, List.getElem_toArray, List.getElem_cons_succ, List.getElem_cons_zero, List.setIfInBounds_toArray, List.set_cons_zero, List.set_cons_succ]
          refine till_take (i := 5) (v := ?_) [7, 8, 13, 14, 15, 16, 17, 18, 19] rfl (by kernel_rfl) (by kernel_rfl) (by kernel_rfl) (by kernel_rfl) (fun _ _ _ h => h) (Or.inl ⟨by rfl, ?_⟩) (by assumption) ?_
          rotate_left
          · (intro w hSw; (try dsimp only at hSw); go_simp; try with_reducible rfl)
          simp only [Act.put, List.getElem_toArray, List.getElem_cons_succ, List.getElem_cons_zero, List.setIfInBounds_toArray, List.set_cons_zero, List.set_cons_succ]
          refine till_take (i := 6) (v := ?_) [7, 8, 13, 14, 15, 16, 17, 18, 19] rfl (by kernel_rfl) (by kernel_rfl) (by kernel_rfl) (by kernel_rfl) (fun _ _ _ h => h) (Or.inl ⟨by rfl, ?_⟩) (by assumption) ?_
          rotate_left
          · (intro w hSw; (try dsimp only at hSw); go_simp; try with_reducible rfl)
          simp only [Act.put, List.getElem_toArray, List.getElem_cons_succ, List.getElem_cons_zero, List.setIfInBounds_toArray, List.set_cons_zero, List.set_cons_succ]
          refine till_take (i := 9) (v := ?_) [10, 11, 13, 14, 15, 16, 17, 18, 19] rfl (by kernel_rfl) (by kernel_rfl) (by kernel_rfl) (by kernel_rfl) (fun _ _ _ h => h) (Or.inl ⟨by rfl, ?_⟩) (by assumption) ?_
          rotate_left
          · (intro w hSw; (try dsimp only at hSw); go_simp; try with_reducible rfl)
          simp only [Act.put, List.getElem_toArray, List.getElem_cons_succ, List.getElem_cons_zero, List.setIfInBounds_toArray, List.set_cons_zero, List.set_cons_succ]
          refine till_take (i := 10) (v := ?_) [11, 13, 14, 15, 16, 17, 18, 19] rfl (by kernel_rfl) (by kernel_rfl) (by kernel_rfl) (by kernel_rfl) (fun _ _ _ h => h) (Or.inl ⟨by rfl, ?_⟩) (by assumption) ?_
          rotate_left
          · (intro w hSw; (try dsimp only at hSw); go_simp; try with_reducible rfl)
          simp only [Act.put, List.getElem_toArray, List.getElem_cons_succ, List.getElem_cons_zero, List.setIfInBounds_toArray, List.set_cons_zero, List.set_cons_succ]
          refine till_take (i := 11) (v := ?_) [13, 14, 15, 16, 17, 18, 19] rfl (by kernel_rfl) (by kernel_rfl) (by kernel_rfl) (by kernel_rfl) (fun _ _ _ h => h) (Or.inl ⟨by rfl, ?_⟩) (by assumption) ?_
          rotate_left
          · (intro w hSw; (try dsimp only at hSw); go_simp; try with_reducible rfl)
          simp only [Act.put, List.getElem_toArray, List.getElem_cons_succ, List.getElem_cons_zero, List.setIfInBounds_toArray, List.set_cons_zero, List.set_cons_succ]
          refine till_take (i := 12) (v := ?_) [13, 14, 15, 16, 17, 18, 19] rfl (by kernel_rfl) (by kernel_rfl) (by kernel_rfl) (by kernel_rfl) (fun _ _ _ h => h) (Or.inl ⟨by rfl, ?_⟩) (by assumption) ?_
          rotate_left
          · (intro w hSw; (try dsimp only at hSw); go_simp; try with_reducible rfl)
          simp only [Act.put, List.getElem_toArray, List.getElem_cons_succ, List.getElem_cons_zero, List.setIfInBounds_toArray, List.set_cons_zero, List.set_cons_succ]
          refine till_in (i := 7) (by kernel_rfl) rfl (fun K hK => ?_)
          go_simp
          refine (rowsMulK _ _ _ LL kx _ _ _ X kx 14 _ ((h20.later HW).mk (by omega)) ((h31.later HW).vk (by omega)) (by omega) (by omega) (unhide HLM) (by omega) (by omega) (by omega)).mono ?_
          rintro e y1 ⟨a41, c41, rfl, h41, hb9⟩
          replace HW := Below.step HW hb9
          clear hb9
          refine hK.out _ _ ?_ (fun hHeld => ?_)
          · exact (HW.cell (p := ⟨gp, op, none⟩) hgp).trans f2
          clear hK K
          try simp only [Act.put, List.getElem_toArray, List.getElem_cons_succ, List.getElem_cons_zero, List.setIfInBounds_toArray, List.set_cons_zero, List.set_cons_succ]
          refine till_in (i := 8) (by kernel_rfl) rfl (fun K hK => ?_)
          go_simp
          refine (vdotK _ _ _ Y kx _ _ _ (LL.map fun r => vdot r X) (kx + kx + 14) _ ((h32.later HW).vk (by omega)) (h41.vk (by omega)) (by omega) (by omega) (by omega) (by omega)).mono ?_
          rintro e y2 ⟨b42, a42, l42, c42, rfl, h42, hb9⟩
          replace HW := Below.step HW hb9
          clear hb9 h41
          refine hK.out _ _ ?_ (fun hHeld => ?_)
          · exact (HW.cell (p := ⟨gp, op, none⟩) hgp).trans f2
          clear hK K
          try simp only [Act.put, List.getElem_toArray, List.getElem_cons_succ, List.getElem_cons_zero, List.setIfInBounds_toArray, List.set_cons_zero, List.set_cons_succ]
          refine till_in (i := 13) (by kernel_rfl) rfl (fun K hK => ?_)
          go_simp
          refine (vdotK _ _ _ (vprod Y LL) (kx + kx + i) _ _ _ X kx _ ((hv5.later HW).vk (by omega)) ((h31.later HW).vk (by omega)) (by omega) (by omega) (by omega) (by omega)).mono ?_
          rintro e y3 ⟨b43, a43, l43, c43, rfl, h43, hb9⟩
          replace HW := Below.step HW hb9
          replace h42 := h42.later hb9
          clear hb9
          refine hK.out _ _ ?_ (fun hHeld => ?_)
          · exact (HW.cell (p := ⟨gp, op, none⟩) hgp).trans f2
          clear hK K
          try simp only [Act.put, List.getElem_toArray, List.getElem_cons_succ, List.getElem_cons_zero, List.setIfInBounds_toArray, List.set_cons_zero, List.set_cons_succ]
          refine till_in (i := 14) (by kernel_rfl) rfl (fun K hK => ?_)
          go_simp
          refine (rsameK _ _ _ _ _ _ _ _ _ _ _ _ _ h42 h43 (prod_dot Y X LL)).mono ?_
          rintro e y4 ⟨rfl, hb9⟩
          replace HW := Below.step HW hb9
          clear hb9 h42 h43
          refine hK.out _ _ ?_ (fun hHeld => ?_)
          · exact (HW.cell (p := ⟨gp, op, none⟩) hgp).trans f2
          clear hK K
          try simp only [Act.put, List.getElem_toArray, List.getElem_cons_succ, List.getElem_cons_zero, List.setIfInBounds_toArray, List.set_cons_zero, List.set_cons_succ]
          refine till_take (i := 15) (v := ?_) [16, 17, 18, 19] rfl (by kernel_rfl) (by kernel_rfl) (by kernel_rfl) (by kernel_rfl) (fun _ _ _ h => h) (Or.inl ⟨by rfl, ?_⟩) (by assumption) ?_
          rotate_left
          · (intro w hSw; (try dsimp only at hSw); go_simp; try with_reducible rfl)
          simp only [Act.put, List.getElem_toArray, List.getElem_cons_succ, List.getElem_cons_zero, List.setIfInBounds_toArray, List.set_cons_zero, List.set_cons_succ]
          refine till_take (i := 16) (v := ?_) [17, 18, 19] rfl (by kernel_rfl) (by kernel_rfl) (by kernel_rfl) (by kernel_rfl) (fun _ _ _ h => h) (Or.inl ⟨by rfl, ?_⟩) (by assumption) ?_
          rotate_left
          · (intro w hSw; (try dsimp only at hSw); go_simp; try with_reducible rfl)
          simp only [Act.put, List.getElem_toArray, List.getElem_cons_succ, List.getElem_cons_zero, List.setIfInBounds_toArray, List.set_cons_zero, List.set_cons_succ]
          refine till_in (i := 17) (by kernel_rfl) rfl (fun K hK => ?_)
          go_simp
          refine (awake9_any _).mono ?_
          rintro e y5 ⟨rfl, hb9⟩
          replace HW := Below.step HW hb9
          clear hb9
          refine hK.out _ _ ?_ (fun hHeld => ?_)
          · exact (HW.cell (p := ⟨gp, op, none⟩) hgp).trans f2
          clear hK K
          try simp only [Act.put, List.getElem_toArray, List.getElem_cons_succ, List.getElem_cons_zero, List.setIfInBounds_toArray, List.set_cons_zero, List.set_cons_succ]
          refine till_take (i := 18) (v := ?_) [19] rfl (by kernel_rfl) (by kernel_rfl) (by kernel_rfl) (by kernel_rfl) (fun _ _ _ h => h) (Or.inl ⟨by rfl, ?_⟩) (by assumption) ?_
          rotate_left
          · (intro w hSw; (try dsimp only at hSw); go_simp; try with_reducible rfl)
          simp only [Act.put, List.getElem_toArray, List.getElem_cons_succ, List.getElem_cons_zero, List.setIfInBounds_toArray, List.set_cons_zero, List.set_cons_succ]
          refine till_out (i := 19) (by kernel_rfl) rfl (by kernel_rfl) (fun K hK => ?_)
          go_simp
          refine hK.out _ _ ?_
          clear hK K
          try simp only [Act.put, List.getElem_toArray, List.getElem_cons_succ, List.getElem_cons_zero, List.setIfInBounds_toArray, List.set_cons_zero, List.set_cons_succ]
          refine till_done (by kernel_rfl) ?_ _
          go_wp2
          go_ret
          exact ⟨rfl, Below.step (unhide HB) HW⟩
  · have hf' : q = false := by simpa using hf
    subst hf'
    clear hf hq hb1 hbW hbM hgM hmats hcM0 hcM1 hbL hml hsL hcl2 hcl3 hbA r0 r2 r3
    go_wp2_with fail
    refine (awake9_any _).mono ?_
    rintro e w2 ⟨rfl, hb2⟩
    go_wp2
    go_ret
    exact ⟨rfl, Below.step (unhide HB) hb2⟩
#print axioms rowsTurns_walk
end Go.Proofs.Ytbdjkbonoofibaa
