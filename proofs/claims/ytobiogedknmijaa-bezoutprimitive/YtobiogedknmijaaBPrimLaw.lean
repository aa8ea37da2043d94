/-
  The walk of BezoutPrimitive: it tells true.
-/
import Derived.Test.YtobiogedknmijaaFew6
import Derived.Test.YtobiogedknmijaaAwake6
import Derived.Test.YtobiogedknmijaaPrimNum
import Derived.Test.YtobiogedknmijaaRExt
import Derived.Deep.CutRange
namespace Go.Proofs.Ytobiogedknmijaa
open Go.RowKit Lb

set_option maxRecDepth 20000 in
set_option maxHeartbeats 16000000 in
theorem bezoutPrimitive_walk (ao : Option Addr) (n cap : Nat) (zs : List Int) (bx : Bool) (ax : Option Addr) (lx cx : Nat) (xs : List Nat) (w : World) (r0 : VI w ao n cap zs) (rx : RowAt w ax lx cx xs) :
    Calls Try.prog 7 #[.slice ao n cap, .agg #[.bool bx, .slice ax lx cx]] w fun e w' => e = .returned (.bool true) ∧ Below w.heap.size w w' := by
  have hcl := r0.cap_le
  have hcm := r0.cap_max
  unfold maxLen at hcm
  have HL := hide r0.len_eq
  have hx := rx.int bx
  obtain ⟨x, ez⟩ : ∃ z, z = sgnd bx (Lb.val xs) := ⟨_, rfl⟩
  rw [← ez] at hx
  clear ez rx
  go_enter Try.func7, Try.ntmps7
  go_wp2_with fail
  obtain ⟨W0, hWe⟩ : ∃ W', W' = w.alloc (.cells #[.bool bx, .slice ax lx cx] 24) := ⟨_, rfl⟩
  obtain ⟨P0, hb0⟩ := boxes1 w bx ax lx cx hWe
  rw [← hWe]
  clear hWe
  refine (few6_any _ _ _ _ _ (r0.later hb0)).mono ?_
  rintro e w1 ⟨q, rfl, hq, hb1⟩
  replace P0 := P0.later hb1
  have HB := hide (Below.step hb0 hb1)
  by_cases hf : q = true
  · subst hf
    obtain ⟨hn20, _, hsix⟩ := hq rfl
    have HK := hide (vk_later r0 (fun i g off b a l c hi e he => hsix i g off b a l c hi e (he.later hb0)))
    clear hq hsix hb1 hb0
    obtain ⟨f1, f2, _, _⟩ := P0.facts
    have hsP0 := P0.lt
    go_wp2_with fail
    clear f1 f2
    obtain ⟨W2, hW2⟩ : ∃ W2, W2 = w1.alloc (.cells #[.bool bx, .slice ax lx cx] 24) := ⟨_, rfl⟩
    have hbv := below_new w1 (.cells #[.bool bx, .slice ax lx cx] 24)
    have hv := vec1 (w := w1) (R := IntAt) (n := w1.heap.size) rfl ((hx.later (unhide HB)).later hbv)
    have hex := elts_new1 (w := w1) (b0 := bx) (a0 := ax) (l0 := lx) (c0 := cx) (n := w1.heap.size) rfl
    refine (few6_any _ _ _ _ _ hv).mono ?_
    rintro e w2 ⟨q2, rfl, hq2, hb1⟩
    have hb9 := Below.step hbv hb1
    clear hW2 hv hbv hb1
    replace P0 := P0.later hb9
    replace HB := hide (Below.step (unhide HB) hb9)
    clear hb9
    by_cases hf2 : q2 = true
    · subst hf2
      obtain ⟨_, _, hsix2⟩ := hq2 rfl
      have e0 : lx ≤ 6 := hsix2 0 _ _ _ _ _ _ (by omega) rfl hex
      have h0 := ik_of (hx.later (unhide HB)) e0 (by omega)
      clear hq2 hsix2 hex hx e0
      obtain ⟨kx, ekx⟩ : ∃ kx, kx = 6 := ⟨_, rfl⟩
      rw [← ekx] at h0 HK
      have hkx : kx ≤ 6 := by omega
      clear ekx
      obtain ⟨f1, f2, _, _⟩ := P0.facts
      by_cases hz : x = 0
      · have E0 := hide (show (0 : Int) = x.sign by rw [hz]; rfl)
        clear hz
        go_wp2_with fail
        refine (signK bx ax lx cx x kx 0 _ h0 (unhide E0)).mono ?_
        rintro e w3 ⟨rfl, hb9⟩
        replace P0 := P0.later hb9
        replace HB := hide (Below.step (unhide HB) hb9)
        clear hb9
        clear f1 f2
        go_wp2_with fail
        refine (awake6_any _).mono ?_
        rintro e w2 ⟨rfl, hb2⟩
        go_wp2
        go_ret
        exact ⟨rfl, Below.step (unhide HB) hb2⟩
      · have hx0 := hz
        obtain ⟨sx, es⟩ : ∃ s, s = x.sign := ⟨_, rfl⟩
        have hs : (sx == 0) = false := by rw [beq_eq_false_iff_ne, es]; exact fun e => hz (Int.sign_eq_zero_iff_zero.1 e)
        have hsb : -1 ≤ sx ∧ sx ≤ 1 := by rw [es]; exact sign_bd x
        obtain ⟨hsb1, hsb2⟩ := hsb
        have ES := hide es
        have H0 := hide hx0
        clear hz es hx0
        go_wp2_with fail
        refine (signK bx ax lx cx x kx sx _ h0 (unhide ES)).mono ?_
        rintro e w3 ⟨rfl, hb9⟩
        replace P0 := P0.later hb9
        replace h0 := h0.later hb9
        replace HB := hide (Below.step (unhide HB) hb9)
        clear hb9
        clear f1 f2
        have hs3 := P0.lt
        have hw3 := (unhide HB).size
        go_wp2_with fail
        go_loopw [5, 29] (fun u t wr => ∃ (i : Nat) (ao' : Option Addr) (cap' : Nat) (rs : List Int), i ≤ n ∧ t = .int .i64 (i : Int) ∧ u = .slice ao' i cap' ∧ OwnV wr w3.heap.size ao' i cap' rs (kx + kx) ∧ (∀ j, j < i → rs.getD j 0 = zs.getD j 0 * x) ∧ Below w3.heap.size w3 wr) (fun _ t _ => n - (intOf t).toNat)
        case atStart => exact ⟨0, none, 0, [], Nat.zero_le _, rfl, rfl, ownV_nil _ _ _, fun j hj => absurd hj (by omega), Below.refl _ _⟩
        case round =>
          obtain ⟨i, ao', cap', rs, hi, rfl, rfl, hown, hall, hW⟩ := hrel
          have HA := hide hall
          clear hall
          by_cases hlt : i < n
          · have HB2 := hide (Below.step (unhide HB) hW)
            obtain ⟨g, off, rfl⟩ := r0.some (by omega)
            obtain ⟨b2, a2, l2, c2, he, hy⟩ := VK.at (unhide HK _ (unhide HB2)) hlt
            have P1 := P0.later hW
            have h1 := h0.later hW
            obtain ⟨f1, f2⟩ := he.facts
            have hg1 := he.1
            obtain ⟨f3, f4, _, _⟩ := P1.facts
            have hsP := P1.lt
            go_wp2_with fail
            obtain ⟨W4, hW4⟩ : ∃ W4, W4 = wr.alloc (.cells #[.bool b2, .slice a2 l2 c2] 24) := ⟨_, rfl⟩
            obtain ⟨D0, hb9⟩ := boxes1 wr b2 a2 l2 c2 hW4
            rw [← hW4]
            clear hW4 f1 f2 f3 f4 he D0
            replace hy := hy.later hb9
            replace h1 := h1.later hb9
            replace hown := hown.later hb9
            have HC := hide (Below.step hW hb9)
            clear hb9
            refine (mulK _ _ _ _ (zs.getD i 0) kx _ _ _ _ x kx _ hy h1).mono ?_
            rintro e w5 ⟨b5, a5, l5, c5, rfl, h5, hb9⟩
            replace hown := hown.later hb9
            replace HC := hide (Below.step (unhide HC) hb9)
            clear hb9 hy h1
            obtain ⟨W6, hW6⟩ : ∃ W6, W6 = w5.alloc (.cells #[.bool b5, .slice a5 l5 c5] 24) := ⟨_, rfl⟩
            obtain ⟨D5, hb9⟩ := boxes1 w5 b5 a5 l5 c5 hW6
            replace h5 := h5.later hb9
            replace hown := hown.later hb9
            replace HC := hide (Below.step (unhide HC) hb9)
            clear hb9
            have hE5 : EltAt W6 w5.heap.size 0 b5 a5 l5 c5 := ⟨D5.lt, D5.facts.1, D5.facts.2.1⟩
            have hsz := (unhide HC).size
            clear D5
            rw [hW6] at h5 hown hE5 hsz
            go_wp2_with (at_builtin; refine append_vec rfl (.tmp 33) (.tmp 37) 36 Try.underlying36 rfl w3.heap.size ao' i cap' (kx + kx) rs rfl hown (by omega) hsz w5.heap.size 0 1 b5 a5 l5 c5 (zs.getD i 0 * x) rfl hE5 h5 ?_)
            intro gn cn w7 hown2 hgr hat
            rw [← hW6] at hgr hown hsz
            clear hW6
            have HD := (unhide HC).grown hgr hsz (own_ge hown)
            clear hgr hat
            go_wp2
            go_roundw
            case rel => exact ⟨i + 1, _, _, _, by omega, by go_num, rfl, hown2, snoc_each hown.len (unhide HA), HD⟩
            case measure => simp [intOf]; omega
          · obtain rfl : i = n := by omega
            have hws := map_of_each (f := fun z => z * x) (unhide HL) hown.len (unhide HA)
            subst hws
            have hw := hown.vf
            replace P0 := P0.later hW
            replace h0 := h0.later hW
            replace HB := hide (Below.step (unhide HB) hW)
            clear hW hown HA hlt hi
            go_wp2_with fail
            refine (primK _ _ _ zs kx _ (unhide HK _ (unhide HB)) (by omega) (by omega)).mono ?_
            rintro e w4 ⟨ap, cp, rfl, hp, hb9⟩
            replace P0 := P0.later hb9
            replace h0 := h0.later hb9
            replace hw := hw.later hb9
            replace HB := hide (Below.step (unhide HB) hb9)
            clear hb9
            go_wp2_with fail
            refine (primK _ _ _ (zs.map fun z => z * x) (kx + kx) _ (hw.vk (by omega)) (by omega) (by omega)).mono ?_
            rintro e w5 ⟨aq, cq, rfl, hq, hb9⟩
            replace P0 := P0.later hb9
            replace h0 := h0.later hb9
            replace hw := hw.later hb9
            replace hp := hp.later hb9
            replace HB := hide (Below.step (unhide HB) hb9)
            clear hb9
            go_wp2_with fail
            refine (allK _ _ _ (zs.map fun z => z.tdiv (gcdL zs : Int)) kx _ (hp.vk (by omega)) (by omega)).mono ?_
            rintro e w6 ⟨b6, a6, l6, c6, rfl, h6, hb9⟩
            rw [gcdL_prim] at h6
            replace P0 := P0.later hb9
            replace h0 := h0.later hb9
            replace hw := hw.later hb9
            replace hp := hp.later hb9
            replace hq := hq.later hb9
            replace HB := hide (Below.step (unhide HB) hb9)
            clear hb9
            go_upto_region 11 with fail
            obtain ⟨W7, hW7⟩ : ∃ W7, W7 = w6.alloc (.cells #[.bool b6, .slice a6 l6 c6] 24) := ⟨_, rfl⟩
            obtain ⟨D6, hb9⟩ := boxes1 w6 b6 a6 l6 c6 hW7
            have hs7 := P0.lt
            rw [← hW7]
            clear hW7
            replace P0 := P0.later hb9
            replace h0 := h0.later hb9
            replace hw := hw.later hb9
            replace hp := hp.later hb9
            replace hq := hq.later hb9
            replace h6 := h6.later hb9
            replace HB := hide (Below.step (unhide HB) hb9)
            clear hb9
            rw [gcdL_mul] at hq
            have EM := hide (gcdL_mul x zs)
            have hqc := hq.cap_le
            have hpc := hp.cap_le
            have hqm := hq.cap_max
            have hpm := hp.cap_max
            unfold maxLen at hqm hpm
            by_cases hz : gcdL zs = 0
            · rw [if_pos hz] at h6
              have EG := hide (show (0 : Int) = (gcdL zs : Int).sign by rw [hz]; rfl)
              have h6' : FK W7 b6 a6 l6 c6 0 kx := h6
              clear h6 hz
              have h6 := h6'
              clear h6'
              have HW : Below W7.heap.size W7 W7.drew := (Below.refl _ _).drew
              refine till_start (fun w' => w'.cell? ⟨w.heap.size, 0, none⟩ = some (.bool bx) ∧ w'.cell? ⟨w.heap.size, 1, none⟩ = some (.slice ax lx cx) ∧ w'.cell? ⟨w6.heap.size, 0, none⟩ = some (.bool b6) ∧ w'.cell? ⟨w6.heap.size, 1, none⟩ = some (.slice a6 l6 c6)) 33 (by kernel_rfl) ?_ (fun hHeld => ?_)
              · exact ⟨(P0.later HW).facts.1, (P0.later HW).facts.2.1, (D6.later HW).facts.1, (D6.later HW).facts.2.1⟩
              refine till_take (i := 0) (v := ?_) [1, 4, 5, 6, 7, 8, 9, 10, 11, 12, 13, 14, 15, 16, 17, 18, 19, 20, 21, 22, 23, 24, 25, 26, 27, 28, 29, 30, 31, 32, 33] rfl (by kernel_rfl) (by kernel_rfl) (by kernel_rfl) (by kernel_rfl) (fun _ _ _ h => h) (Or.inl ⟨by rfl, ?_⟩) (by assumption) ?_
              rotate_left
              · (intro w hSw; (try dsimp only at hSw); go_simp; try with_reducible rfl)
              simp only [Act.put, List.getElem_toArray, List.getElem_cons_zero, List.setIfInBounds_toArray, List.set_cons_zero, List.set_cons_succ]
              refine till_take (i := 1) (v := ?_) [4, 5, 6, 7, 8, 9, 10, 11, 12, 13, 14, 15, 16, 17, 18, 19, 20, 21, 22, 23, 24, 25, 26, 27, 28, 29, 30, 31, 32, 33] rfl (by kernel_rfl) (by kernel_rfl) (by kernel_rfl) (by kernel_rfl) (fun _ _ _ h => h) (Or.inl ⟨by rfl, ?_⟩) (by assumption) ?_
              rotate_left
              · (intro w hSw; (try dsimp only at hSw); go_simp; try with_reducible rfl)
              simp only [Act.put, List.getElem_toArray, List.getElem_cons_succ, List.getElem_cons_zero, List.setIfInBounds_toArray, List.set_cons_zero, List.set_cons_succ]
              refine till_take (i := 2) (v := ?_) [3, 4, 5, 6, 7, 8, 9, 10, 11, 12, 13, 14, 15, 16, 17, 18, 19, 20, 21, 22, 23, 24, 25, 26, 27, 28, 29, 30, 31, 32, 33] rfl (by kernel_rfl) (by kernel_rfl) (by kernel_rfl) (by kernel_rfl) (fun _ _ _ h => h) (Or.inl ⟨by rfl, ?_⟩) (by assumption) ?_
              rotate_left
              · (intro w hSw; (try dsimp only at hSw); go_simp; try with_reducible rfl)
              simp only [Act.put, List.getElem_toArray, List.getElem_cons_succ, List.getElem_cons_zero, List.setIfInBounds_toArray, List.set_cons_zero, List.set_cons_succ]
              refine till_take (i := 3) (v := ?_) [4, 5, 6, 7, 8, 9, 10, 11, 12, 13, 14, 15, 16, 17, 18, 19, 20, 21, 22, 23, 24, 25, 26, 27, 28, 29, 30, 31, 32, 33] rfl (by kernel_rfl) (by kernel_rfl) (by kernel_rfl) (by kernel_rfl) (fun _ _ _ h => h) (Or.inl ⟨by rfl, ?_⟩) (by assumption) ?_
              rotate_left
              · (intro w hSw; (try dsimp only at hSw); go_simp; try with_reducible rfl)
              simp only [Act.put, List.getElem_toArray, List.getElem_cons_succ, List.getElem_cons_zero, List.setIfInBounds_toArray, List.set_cons_zero, List.set_cons_succ]
              refine till_take (i := 4) (v := ?_) [5, 6, 7, 8, 9, 10, 11, 12, 13, 14, 15, 16, 17, 18, 19, 20, 21, 22, 23, 24, 25, 26, 27, 28, 29, 30, 31, 32, 33] rfl (by kernel_rfl) (by kernel_rfl) (by kernel_rfl) (by kernel_rfl) (fun _ _ _ h => h) (Or.inl ⟨by rfl, ?_⟩) (by assumption) ?_
              rotate_left
              · (intro w hSw; (try dsimp only at hSw); go_simp; try with_reducible rfl)
              simp only [Act.put, List.getElem_toArray, List.getElem_cons_succ, List.getElem_cons_zero, List.setIfInBounds_toArray, List.set_cons_zero, List.set_cons_succ]
              refine till_take (i := 5) (v := ?_) [6, 7, 8, 9, 10, 11, 12, 13, 14, 15, 16, 17, 18, 19, 20, 21, 22, 23, 24, 25, 26, 27, 28, 29, 30, 31, 32, 33] rfl (by kernel_rfl) (by kernel_rfl) (by kernel_rfl) (by kernel_rfl) (fun _ _ _ h => h) (Or.inl ⟨by rfl, ?_⟩) (by assumption) ?_
              rotate_left
              · (intro w hSw; (try dsimp only at hSw); go_simp; try with_reducible rfl)
              simp only [Act.put, List.getElem_toArray, List.getElem_cons_succ, List.getElem_cons_zero, List.setIfInBounds_toArray, List.set_cons_zero, List.set_cons_succ]
              refine till_take (i := 6) (v := ?_) [7, 10, 11, 12, 13, 14, 15, 16, 17, 18, 19, 20, 21, 22, 23, 24, 25, 26, 27, 28, 29, 30, 31, 32, 33] rfl (by kernel_rfl) (by kernel_rfl) (by kernel_rfl) (by kernel_rfl) (fun _ _ _ h => h) (Or.inl ⟨by rfl, ?_⟩) (by assumption) ?_
              rotate_left
              · (intro w hSw; (try dsimp only at hSw); go_simp; try with_reducible rfl)
              simp only [Act.put, List.getElem_toArray, List.getElem_cons_succ, List.getElem_cons_zero, List.setIfInBounds_toArray, List.set_cons_zero, List.set_cons_succ]
              refine till_take (i := 7) (v := ?_) [10, 11, 12, 13, 14, 15, 16, 17, 18, 19, 20, 21, 22, 23, 24, 25, 26, 27, 28, 29, 30, 31, 32, 33] rfl (by kernel_rfl) (by kernel_rfl) (by kernel_rfl) (by kernel_rfl) (fun _ _ _ h => h) (Or.inl ⟨by rfl, ?_⟩) (by assumption) ?_
              rotate_left
              · (intro w hSw; (try dsimp only at hSw); go_simp; try with_reducible rfl)
              simp only [Act.put, List.getElem_toArray, List.getElem_cons_succ, List.getElem_cons_zero, List.setIfInBounds_toArray, List.set_cons_zero, List.set_cons_succ]
              refine till_take (i := 8) (v := ?_) [9, 10, 11, 12, 13, 14, 15, 16, 17, 18, 19, 20, 21, 22, 23, 24, 25, 26, 27, 28, 29, 30, 31, 32, 33] rfl (by kernel_rfl) (by kernel_rfl) (by kernel_rfl) (by kernel_rfl) (fun _ _ _ h => h) (Or.inl ⟨by rfl, ?_⟩) (by assumption) ?_
              rotate_left
              · (intro w hSw; (try dsimp only at hSw); go_simp; try with_reducible rfl)
              simp only [Act.put, List.getElem_toArray, List.getElem_cons_succ, List.getElem_cons_zero, List.setIfInBounds_toArray, List.set_cons_zero, List.set_cons_succ]
              refine till_take (i := 9) (v := ?_) [10, 11, 12, 13, 14, 15, 16, 17, 18, 19, 20, 21, 22, 23, 24, 25, 26, 27, 28, 29, 30, 31, 32, 33] rfl (by kernel_rfl) (by kernel_rfl) (by kernel_rfl) (by kernel_rfl) (fun _ _ _ h => h) (Or.inl ⟨by rfl, ?_⟩) (by assumption) ?_
              rotate_left
              · (intro w hSw; (try dsimp only at hSw); go_simp; try with_reducible rfl)
              simp only [Act.put, List.getElem_toArray, List.getElem_cons_succ, List.getElem_cons_zero, List.setIfInBounds_toArray, List.set_cons_zero, List.set_cons_succ]
              refine till_take (i := 10) (v := ?_) [11, 12, 13, 14, 15, 16, 17, 18, 19, 20, 21, 22, 23, 24, 25, 26, 27, 28, 29, 30, 31, 32, 33] rfl (by kernel_rfl) (by kernel_rfl) (by kernel_rfl) (by kernel_rfl) (fun _ _ _ h => h) (Or.inl ⟨by rfl, ?_⟩) (by assumption) ?_
              rotate_left
              · (intro w hSw; (try dsimp only at hSw); go_simp; try with_reducible rfl)
              simp only [Act.put, List.getElem_toArray, List.getElem_cons_succ, List.getElem_cons_zero, List.setIfInBounds_toArray, List.set_cons_zero, List.set_cons_succ]
              refine till_take (i := 11) (v := ?_) [12, 13, 14, 15, 16, 17, 18, 19, 20, 21, 22, 23, 24, 25, 26, 27, 28, 29, 30, 31, 32, 33] rfl (by kernel_rfl) (by kernel_rfl) (by kernel_rfl) (by kernel_rfl) (fun _ _ _ h => h) (Or.inl ⟨by rfl, ?_⟩) (by assumption) ?_
              rotate_left
              · (intro w hSw; (try dsimp only at hSw); go_simp; try with_reducible rfl)
              simp only [Act.put, List.getElem_toArray, List.getElem_cons_succ, List.getElem_cons_zero, List.setIfInBounds_toArray, List.set_cons_zero, List.set_cons_succ]
              refine till_take (i := 12) (v := ?_) [13, 14, 15, 16, 17, 18, 19, 20, 21, 22, 23, 24, 25, 26, 27, 28, 29, 30, 31, 32, 33] rfl (by kernel_rfl) (by kernel_rfl) (by kernel_rfl) (by kernel_rfl) (fun _ _ _ h => h) (Or.inl ⟨by rfl, ?_⟩) (by assumption) ?_
              rotate_left
              · (intro w hSw; (try dsimp only at hSw); go_simp; try with_reducible rfl)
              simp only [Act.put, List.getElem_toArray, List.getElem_cons_succ, List.getElem_cons_zero, List.setIfInBounds_toArray, List.set_cons_zero, List.set_cons_succ]
              refine till_take (i := 13) (v := ?_) [14, 15, 16, 17, 18, 19, 20, 21, 22, 23, 24, 25, 26, 27, 28, 29, 30, 31, 32, 33] rfl (by kernel_rfl) (by kernel_rfl) (by kernel_rfl) (by kernel_rfl) (fun _ _ _ h => h) (Or.inl ⟨by rfl, ?_⟩) (by assumption) ?_
              rotate_left
              · (intro w hSw; (try dsimp only at hSw); go_simp; try with_reducible rfl)
              simp only [Act.put, List.getElem_toArray, List.getElem_cons_succ, List.getElem_cons_zero, List.setIfInBounds_toArray, List.set_cons_zero, List.set_cons_succ]
              refine till_in (i := 14) (by kernel_rfl) rfl (fun K hK => ?_)
              go_simp
              refine (signK b6 a6 l6 c6 0 kx 0 _ ((h6.later HW).ik (by omega)) rfl).mono ?_
              rintro e w9 ⟨rfl, hb9⟩
              replace HW := Below.step HW hb9
              clear hb9
              refine hK.out _ _ ?_ (fun hHeld => ?_)
              · exact ⟨(P0.later HW).facts.1, (P0.later HW).facts.2.1, (D6.later HW).facts.1, (D6.later HW).facts.2.1⟩
              clear hK K
              try simp only [Act.put, List.getElem_toArray, List.getElem_cons_succ, List.getElem_cons_zero, List.setIfInBounds_toArray, List.set_cons_zero, List.set_cons_succ]
              refine till_take (i := 15) (v := ?_) [16, 17, 18, 19, 20, 21, 22, 23, 24, 25, 26, 27, 28, 29, 30, 31, 32, 33] rfl (by kernel_rfl) (by kernel_rfl) (by kernel_rfl) (by kernel_rfl) (fun _ _ _ h => h) (Or.inl ⟨by rfl, ?_⟩) (by assumption) ?_
              rotate_left
              · (intro w hSw; (try dsimp only at hSw); go_simp; try with_reducible rfl)
              simp only [Act.put, List.getElem_toArray, List.getElem_cons_succ, List.getElem_cons_zero, List.setIfInBounds_toArray, List.set_cons_zero, List.set_cons_succ]
              refine till_take (i := 16) (v := ?_) [17, 18, 19, 20, 21, 22, 23, 24, 25, 26, 27, 28, 29, 30, 31, 32, 33] rfl (by kernel_rfl) (by kernel_rfl) (by kernel_rfl) (by kernel_rfl) (fun _ _ _ h => h) (Or.inl ⟨by rfl, ?_⟩) (by assumption) ?_
              rotate_left
              · (intro w hSw; (try dsimp only at hSw); go_simp; try with_reducible rfl)
              simp only [Act.put, List.getElem_toArray, List.getElem_cons_succ, List.getElem_cons_zero, List.setIfInBounds_toArray, List.set_cons_zero, List.set_cons_succ]
              refine till_take (i := 17) (v := undef) [19, 20, 21, 22, 23, 24, 25, 26, 27, 28, 29, 30, 31, 32, 33] rfl (by kernel_rfl) (by kernel_rfl) (by kernel_rfl) (by kernel_rfl) (fun _ _ _ h => h) (Or.inr ⟨by rfl, rfl⟩) (by assumption) ?_
              simp only [Act.put, List.getElem_toArray, List.getElem_cons_succ, List.getElem_cons_zero, List.setIfInBounds_toArray, List.set_cons_zero, List.set_cons_succ]
              refine till_in (i := 18) (by kernel_rfl) rfl (fun K hK => ?_)
              go_simp
              refine hK.out _ _ ?_ (fun hHeld => ?_)
              · exact ⟨(P0.later HW).facts.1, (P0.later HW).facts.2.1, (D6.later HW).facts.1, (D6.later HW).facts.2.1⟩
              clear hK K
              try simp only [Act.put, List.getElem_toArray, List.getElem_cons_succ, List.getElem_cons_zero, List.setIfInBounds_toArray, List.set_cons_zero, List.set_cons_succ]
              refine till_in (i := 19) (by kernel_rfl) rfl (fun K hK => ?_)
              go_simp
              refine hK.out _ _ ?_ (fun hHeld => ?_)
              · exact ⟨(P0.later HW).facts.1, (P0.later HW).facts.2.1, (D6.later HW).facts.1, (D6.later HW).facts.2.1⟩
              clear hK K
              try simp only [Act.put, List.getElem_toArray, List.getElem_cons_succ, List.getElem_cons_zero, List.setIfInBounds_toArray, List.set_cons_zero, List.set_cons_succ]
              refine till_take (i := 20) (v := undef) [21, 22, 23, 24, 25, 26, 27, 28, 29, 30, 31, 32, 33] rfl (by kernel_rfl) (by kernel_rfl) (by kernel_rfl) (by kernel_rfl) (fun _ _ _ h => h) (Or.inr ⟨by rfl, rfl⟩) (by assumption) ?_
              simp only [Act.put, List.getElem_toArray, List.getElem_cons_succ, List.getElem_cons_zero, List.setIfInBounds_toArray, List.set_cons_zero, List.set_cons_succ]
              refine till_take (i := 21) (v := ?_) [22, 23, 24, 25, 26, 27, 28, 29, 30, 31, 32, 33] rfl (by kernel_rfl) (by kernel_rfl) (by kernel_rfl) (by kernel_rfl) (fun _ _ _ h => h) (Or.inl ⟨by rfl, ?_⟩) (by assumption) ?_
              rotate_left
              · (intro w hSw; (try dsimp only at hSw); go_simp; try with_reducible rfl)
              simp only [Act.put, List.getElem_toArray, List.getElem_cons_succ, List.getElem_cons_zero, List.setIfInBounds_toArray, List.set_cons_zero, List.set_cons_succ]
              refine till_take (i := 22) (v := ?_) [23, 24, 25, 26, 27, 28, 29, 30, 31, 32, 33] rfl (by kernel_rfl) (by kernel_rfl) (by kernel_rfl) (by kernel_rfl) (fun _ _ _ h => h) (Or.inl ⟨by rfl, ?_⟩) (by assumption) ?_
              rotate_left
              · (intro w hSw; (try dsimp only at hSw); go_simp; try with_reducible rfl)
              simp only [Act.put, List.getElem_toArray, List.getElem_cons_succ, List.getElem_cons_zero, List.setIfInBounds_toArray, List.set_cons_zero, List.set_cons_succ]
              refine till_take (i := 23) (v := ?_) [24, 25, 26, 27, 28, 29, 30, 31, 32, 33] rfl (by kernel_rfl) (by kernel_rfl) (by kernel_rfl) (by kernel_rfl) (fun _ _ _ h => h) (Or.inl ⟨by rfl, ?_⟩) (by assumption) ?_
              rotate_left
              · (intro w hSw; (try dsimp only at hSw); go_simp; try with_reducible rfl)
              simp only [Act.put, List.getElem_toArray, List.getElem_cons_succ, List.getElem_cons_zero, List.setIfInBounds_toArray, List.set_cons_zero, List.set_cons_succ]
              refine till_take (i := 24) (v := ?_) [25, 27, 29, 30, 31, 32, 33] rfl (by kernel_rfl) (by kernel_rfl) (by kernel_rfl) (by kernel_rfl) (fun _ _ _ h => h) (Or.inl ⟨by rfl, ?_⟩) (by assumption) ?_
              rotate_left
              · (intro w hSw; (try dsimp only at hSw); go_simp; try with_reducible rfl)
              simp only [Act.put, List.getElem_toArray, List.getElem_cons_succ, List.getElem_cons_zero, List.setIfInBounds_toArray, List.set_cons_zero, List.set_cons_succ]
              refine till_take (i := 26) (v := ?_) [27, 29, 30, 31, 32, 33] rfl (by kernel_rfl) (by kernel_rfl) (by kernel_rfl) (by kernel_rfl) (fun _ _ _ h => h) (Or.inl ⟨by rfl, ?_⟩) (by assumption) ?_
              rotate_left
              · (intro w hSw; (try dsimp only at hSw); go_simp; try with_reducible rfl)
              simp only [Act.put, List.getElem_toArray, List.getElem_cons_succ, List.getElem_cons_zero, List.setIfInBounds_toArray, List.set_cons_zero, List.set_cons_succ]
              refine till_take (i := 28) (v := ?_) [29, 30, 31, 32, 33] rfl (by kernel_rfl) (by kernel_rfl) (by kernel_rfl) (by kernel_rfl) (fun _ _ _ h => h) (Or.inl ⟨by rfl, ?_⟩) (by assumption) ?_
              rotate_left
              · (intro w hSw; (try dsimp only at hSw); go_simp; try with_reducible rfl)
              simp only [Act.put, List.getElem_toArray, List.getElem_cons_succ, List.getElem_cons_zero, List.setIfInBounds_toArray, List.set_cons_zero, List.set_cons_succ]
              refine till_in (i := 25) (by kernel_rfl) rfl (fun K hK => ?_)
              go_simp
              refine (allK _ _ _ (zs.map fun z => z * x) (kx + kx) _ ((hw.later HW).vk (by omega)) (by omega)).mono ?_
              rintro e w9 ⟨b7, a7, l7, c7, rfl, h7, hb9⟩
              replace HW := Below.step HW hb9
              clear hb9
              rw [unhide EM] at h7
              refine hK.out _ _ ?_ (fun hHeld => ?_)
              · exact ⟨(P0.later HW).facts.1, (P0.later HW).facts.2.1, (D6.later HW).facts.1, (D6.later HW).facts.2.1⟩
              clear hK K
              try simp only [Act.put, List.getElem_toArray, List.getElem_cons_succ, List.getElem_cons_zero, List.setIfInBounds_toArray, List.set_cons_zero, List.set_cons_succ]
              refine till_in (i := 27) (by kernel_rfl) rfl (fun K hK => ?_)
              go_simp
              refine (absK bx ax lx cx x kx _ (h0.later HW)).mono ?_
              rintro e w9 ⟨b8, a8, l8, c8, rfl, h8, hb9⟩
              replace HW := Below.step HW hb9
              replace h7 := h7.later hb9
              clear hb9
              refine hK.out _ _ ?_ (fun hHeld => ?_)
              · exact ⟨(P0.later HW).facts.1, (P0.later HW).facts.2.1, (D6.later HW).facts.1, (D6.later HW).facts.2.1⟩
              clear hK K
              try simp only [Act.put, List.getElem_toArray, List.getElem_cons_succ, List.getElem_cons_zero, List.setIfInBounds_toArray, List.set_cons_zero, List.set_cons_succ]
              refine till_in (i := 29) (by kernel_rfl) rfl (fun K hK => ?_)
              go_simp
              refine (allK _ _ _ zs kx _ (unhide HK _ (Below.step (unhide HB) HW)) (by omega)).mono ?_
              rintro e w9 ⟨b9, a9, l9, c9, rfl, h9, hb9⟩
              replace HW := Below.step HW hb9
              replace h7 := h7.later hb9
              replace h8 := h8.later hb9
              clear hb9
              refine hK.out _ _ ?_ (fun hHeld => ?_)
              · exact ⟨(P0.later HW).facts.1, (P0.later HW).facts.2.1, (D6.later HW).facts.1, (D6.later HW).facts.2.1⟩
              clear hK K
              try simp only [Act.put, List.getElem_toArray, List.getElem_cons_succ, List.getElem_cons_zero, List.setIfInBounds_toArray, List.set_cons_zero, List.set_cons_succ]
              refine till_in (i := 30) (by kernel_rfl) rfl (fun K hK => ?_)
              go_simp
              refine (mulK _ _ _ _ (x.natAbs : Int) kx _ _ _ _ (gcdL zs : Int) kx _ (h8.ik (by omega)) (h9.ik (by omega))).mono ?_
              rintro e w9 ⟨b10, a10, l10, c10, rfl, h10, hb9⟩
              replace HW := Below.step HW hb9
              replace h7 := h7.later hb9
              clear hb9
              clear h8 h9
              refine hK.out _ _ ?_ (fun hHeld => ?_)
              · exact ⟨(P0.later HW).facts.1, (P0.later HW).facts.2.1, (D6.later HW).facts.1, (D6.later HW).facts.2.1⟩
              clear hK K
              try simp only [Act.put, List.getElem_toArray, List.getElem_cons_succ, List.getElem_cons_zero, List.setIfInBounds_toArray, List.set_cons_zero, List.set_cons_succ]
              refine till_in (i := 31) (by kernel_rfl) rfl (fun K hK => ?_)
              go_simp
              refine (sameK _ _ _ _ ((x.natAbs * gcdL zs : Nat) : Int) (kx + kx) _ _ _ _ ((x.natAbs : Int) * (gcdL zs : Int)) (kx + kx) true _ (h7.ik (by omega)) (h10.ik (by omega)) (decide_eq_true (Int.natCast_mul _ _)).symm).mono ?_
              rintro e w9 ⟨rfl, hb9⟩
              replace HW := Below.step HW hb9
              clear hb9
              clear h7 h10
              refine hK.out _ _ ?_ (fun hHeld => ?_)
              · exact ⟨(P0.later HW).facts.1, (P0.later HW).facts.2.1, (D6.later HW).facts.1, (D6.later HW).facts.2.1⟩
              clear hK K
              try simp only [Act.put, List.getElem_toArray, List.getElem_cons_succ, List.getElem_cons_zero, List.setIfInBounds_toArray, List.set_cons_zero, List.set_cons_succ]
              refine till_take (i := 32) (v := ?_) [33] rfl (by kernel_rfl) (by kernel_rfl) (by kernel_rfl) (by kernel_rfl) (fun _ _ _ h => h) (Or.inl ⟨by rfl, ?_⟩) (by assumption) ?_
              rotate_left
              · (intro w hSw; (try dsimp only at hSw); go_simp; try with_reducible rfl)
              simp only [Act.put, List.getElem_toArray, List.getElem_cons_succ, List.getElem_cons_zero, List.setIfInBounds_toArray, List.set_cons_zero, List.set_cons_succ]
              refine till_out (i := 33) (by kernel_rfl) rfl (by kernel_rfl) (fun K hK => ?_)
              go_simp
              refine hK.out _ _ ?_
              clear hK K
              try simp only [Act.put, List.getElem_toArray, List.getElem_cons_succ, List.getElem_cons_zero, List.setIfInBounds_toArray, List.set_cons_zero, List.set_cons_succ]
              refine till_done (by kernel_rfl) ?_ _
              replace P0 := P0.later HW
              replace h0 := h0.later HW
              replace hp := hp.later HW
              replace hq := hq.later HW
              replace HB := hide (Below.step (unhide HB) HW)
              clear HW h6 hw D6
              go_wp2_with fail
              go_loopw [82] (fun t wr => ∃ (j : Nat), j ≤ i ∧ t = .int .i64 (j : Int) ∧ Below w9.heap.size w9 wr) (fun t _ => i - (intOf t).toNat)
              case atStart => exact ⟨0, Nat.zero_le _, rfl, Below.refl _ _⟩
              case round =>
                obtain ⟨j, hj, rfl, hW⟩ := hrel
                by_cases hlt : j < i
                · have HW : Below w9.heap.size w9 wr.drew := hW.drew
                  go_upto_region 16 with fail
                  refine till_start (fun w' => True) 19 (by kernel_rfl) ?_ (fun hHeld => ?_)
                  · trivial
                  refine till_take (i := 0) (v := ?_) [1, 2, 3, 4, 5, 6, 7, 8, 9, 10, 11, 12, 13, 14, 15, 16, 17, 18, 19] rfl (by kernel_rfl) (by kernel_rfl) (by kernel_rfl) (by kernel_rfl) (fun _ _ _ h => h) (Or.inl ⟨by rfl, ?_⟩) (by assumption) ?_
                  rotate_left
                  · (intro w hSw; (try dsimp only at hSw); go_simp; try with_reducible rfl)
                  simp only [Act.put, List.getElem_toArray, List.getElem_cons_zero, List.setIfInBounds_toArray, List.set_cons_zero, List.set_cons_succ]
                  refine till_in (i := 1) (by kernel_rfl) rfl (fun K hK => ?_)
                  go_simp
                  refine (allK _ _ _ zs kx _ (unhide HK _ (Below.step (unhide HB) HW)) (by omega)).mono ?_
                  rintro e w9 ⟨b7, a7, l7, c7, rfl, h7, hb9⟩
                  replace HW := Below.step HW hb9
                  clear hb9
                  refine hK.out _ _ ?_ (fun hHeld => ?_)
                  · trivial
                  clear hK K
                  try simp only [Act.put, List.getElem_toArray, List.getElem_cons_succ, List.getElem_cons_zero, List.setIfInBounds_toArray, List.set_cons_zero, List.set_cons_succ]
                  refine till_in (i := 2) (by kernel_rfl) rfl (fun K hK => ?_)
                  go_simp
                  refine (signK _ _ _ _ (gcdL zs : Int) kx 0 _ (h7.ik (by omega)) (unhide EG)).mono ?_
                  rintro e w9 ⟨rfl, hb9⟩
                  replace HW := Below.step HW hb9
                  clear hb9
                  clear h7
                  refine hK.out _ _ ?_ (fun hHeld => ?_)
                  · trivial
                  clear hK K
                  try simp only [Act.put, List.getElem_toArray, List.getElem_cons_succ, List.getElem_cons_zero, List.setIfInBounds_toArray, List.set_cons_zero, List.set_cons_succ]
                  refine till_take (i := 3) (v := ?_) [4, 5, 6, 7, 8, 9, 10, 11, 12, 13, 14, 15, 16, 17, 18, 19] rfl (by kernel_rfl) (by kernel_rfl) (by kernel_rfl) (by kernel_rfl) (fun _ _ _ h => h) (Or.inl ⟨by rfl, ?_⟩) (by assumption) ?_
                  rotate_left
                  · (intro w hSw; (try dsimp only at hSw); go_simp; try with_reducible rfl)
                  simp only [Act.put, List.getElem_toArray, List.getElem_cons_succ, List.getElem_cons_zero, List.setIfInBounds_toArray, List.set_cons_zero, List.set_cons_succ]
                  refine till_take (i := 4) (v := ?_) [5, 6, 7, 8, 9, 10, 11, 12, 13, 14, 15, 16, 17, 18, 19] rfl (by kernel_rfl) (by kernel_rfl) (by kernel_rfl) (by kernel_rfl) (fun _ _ _ h => h) (Or.inl ⟨by rfl, ?_⟩) (by assumption) ?_
                  rotate_left
                  · (intro w hSw; (try dsimp only at hSw); go_simp; try with_reducible rfl)
                  simp only [Act.put, List.getElem_toArray, List.getElem_cons_succ, List.getElem_cons_zero, List.setIfInBounds_toArray, List.set_cons_zero, List.set_cons_succ]
                  refine till_take (i := 5) (v := undef) [7, 8, 17, 18, 19] rfl (by kernel_rfl) (by kernel_rfl) (by kernel_rfl) (by kernel_rfl) (fun _ _ _ h => h) (Or.inr ⟨by rfl, rfl⟩) (by assumption) ?_
                  simp only [Act.put, List.getElem_toArray, List.getElem_cons_succ, List.getElem_cons_zero, List.setIfInBounds_toArray, List.set_cons_zero, List.set_cons_succ]
                  refine till_take (i := 6) (v := undef) [7, 8, 17, 18, 19] rfl (by kernel_rfl) (by kernel_rfl) (by kernel_rfl) (by kernel_rfl) (fun _ _ _ h => h) (Or.inr ⟨by rfl, rfl⟩) (by assumption) ?_
                  simp only [Act.put, List.getElem_toArray, List.getElem_cons_succ, List.getElem_cons_zero, List.setIfInBounds_toArray, List.set_cons_zero, List.set_cons_succ]
                  refine till_take (i := 7) (v := undef) [8, 17, 18, 19] rfl (by kernel_rfl) (by kernel_rfl) (by kernel_rfl) (by kernel_rfl) (fun _ _ _ h => h) (Or.inr ⟨by rfl, rfl⟩) (by assumption) ?_
                  simp only [Act.put, List.getElem_toArray, List.getElem_cons_succ, List.getElem_cons_zero, List.setIfInBounds_toArray, List.set_cons_zero, List.set_cons_succ]
                  refine till_take (i := 8) (v := undef) [17, 18, 19] rfl (by kernel_rfl) (by kernel_rfl) (by kernel_rfl) (by kernel_rfl) (fun _ _ _ h => h) (Or.inr ⟨by rfl, rfl⟩) (by assumption) ?_
                  simp only [Act.put, List.getElem_toArray, List.getElem_cons_succ, List.getElem_cons_zero, List.setIfInBounds_toArray, List.set_cons_zero, List.set_cons_succ]
                  refine till_take (i := 9) (v := undef) [11, 12, 16, 17, 18, 19] rfl (by kernel_rfl) (by kernel_rfl) (by kernel_rfl) (by kernel_rfl) (fun _ _ _ h => h) (Or.inr ⟨by rfl, rfl⟩) (by assumption) ?_
                  simp only [Act.put, List.getElem_toArray, List.getElem_cons_succ, List.getElem_cons_zero, List.setIfInBounds_toArray, List.set_cons_zero, List.set_cons_succ]
                  refine till_take (i := 10) (v := undef) [11, 12, 16, 17, 18, 19] rfl (by kernel_rfl) (by kernel_rfl) (by kernel_rfl) (by kernel_rfl) (fun _ _ _ h => h) (Or.inr ⟨by rfl, rfl⟩) (by assumption) ?_
                  simp only [Act.put, List.getElem_toArray, List.getElem_cons_succ, List.getElem_cons_zero, List.setIfInBounds_toArray, List.set_cons_zero, List.set_cons_succ]
                  refine till_take (i := 11) (v := undef) [12, 16, 17, 18, 19] rfl (by kernel_rfl) (by kernel_rfl) (by kernel_rfl) (by kernel_rfl) (fun _ _ _ h => h) (Or.inr ⟨by rfl, rfl⟩) (by assumption) ?_
                  simp only [Act.put, List.getElem_toArray, List.getElem_cons_succ, List.getElem_cons_zero, List.setIfInBounds_toArray, List.set_cons_zero, List.set_cons_succ]
                  refine till_take (i := 12) (v := undef) [16, 17, 18, 19] rfl (by kernel_rfl) (by kernel_rfl) (by kernel_rfl) (by kernel_rfl) (fun _ _ _ h => h) (Or.inr ⟨by rfl, rfl⟩) (by assumption) ?_
                  simp only [Act.put, List.getElem_toArray, List.getElem_cons_succ, List.getElem_cons_zero, List.setIfInBounds_toArray, List.set_cons_zero, List.set_cons_succ]
                  refine till_take (i := 13) (v := undef) [14, 15, 16, 17, 18, 19] rfl (by kernel_rfl) (by kernel_rfl) (by kernel_rfl) (by kernel_rfl) (fun _ _ _ h => h) (Or.inr ⟨by rfl, rfl⟩) (by assumption) ?_
                  simp only [Act.put, List.getElem_toArray, List.getElem_cons_succ, List.getElem_cons_zero, List.setIfInBounds_toArray, List.set_cons_zero, List.set_cons_succ]
                  refine till_in (i := 14) (by kernel_rfl) rfl (fun K hK => ?_)
                  go_simp
                  refine hK.out _ _ ?_ (fun hHeld => ?_)
                  · trivial
                  clear hK K
                  try simp only [Act.put, List.getElem_toArray, List.getElem_cons_succ, List.getElem_cons_zero, List.setIfInBounds_toArray, List.set_cons_zero, List.set_cons_succ]
                  refine till_in (i := 15) (by kernel_rfl) rfl (fun K hK => ?_)
                  go_simp
                  refine hK.out _ _ ?_ (fun hHeld => ?_)
                  · trivial
                  clear hK K
                  try simp only [Act.put, List.getElem_toArray, List.getElem_cons_succ, List.getElem_cons_zero, List.setIfInBounds_toArray, List.set_cons_zero, List.set_cons_succ]
                  refine till_in (i := 16) (by kernel_rfl) rfl (fun K hK => ?_)
                  go_simp
                  refine hK.out _ _ ?_ (fun hHeld => ?_)
                  · trivial
                  clear hK K
                  try simp only [Act.put, List.getElem_toArray, List.getElem_cons_succ, List.getElem_cons_zero, List.setIfInBounds_toArray, List.set_cons_zero, List.set_cons_succ]
                  refine till_in (i := 17) (by kernel_rfl) rfl (fun K hK => ?_)
                  go_simp
                  refine hK.out _ _ ?_ (fun hHeld => ?_)
                  · trivial
                  clear hK K
                  try simp only [Act.put, List.getElem_toArray, List.getElem_cons_succ, List.getElem_cons_zero, List.setIfInBounds_toArray, List.set_cons_zero, List.set_cons_succ]
                  refine till_take (i := 18) (v := undef) [19] rfl (by kernel_rfl) (by kernel_rfl) (by kernel_rfl) (by kernel_rfl) (fun _ _ _ h => h) (Or.inr ⟨by rfl, rfl⟩) (by assumption) ?_
                  simp only [Act.put, List.getElem_toArray, List.getElem_cons_succ, List.getElem_cons_zero, List.setIfInBounds_toArray, List.set_cons_zero, List.set_cons_succ]
                  refine till_out (i := 19) (by kernel_rfl) rfl (by kernel_rfl) (fun K hK => ?_)
                  go_simp
                  refine hK.out _ _ ?_
                  clear hK K
                  try simp only [Act.put, List.getElem_toArray, List.getElem_cons_succ, List.getElem_cons_zero, List.setIfInBounds_toArray, List.set_cons_zero, List.set_cons_succ]
                  refine till_done (by kernel_rfl) ?_ _
                  go_wp2
                  go_roundw
                  case rel => exact ⟨j + 1, by omega, by go_num, HW⟩
                  case measure => simp [intOf]; omega
                · replace HB := hide (Below.step (unhide HB) hW)
                  clear hW
                  go_wp2_with fail
                  refine (awake6_any _).mono ?_
                  rintro e w2 ⟨rfl, hb2⟩
                  go_wp2
                  go_ret
                  exact ⟨rfl, Below.step (unhide HB) hb2⟩
            · rw [if_neg hz] at h6
              have EG := hide (show (1 : Int) = (gcdL zs : Int).sign from (Int.sign_eq_one_of_pos (by omega)).symm)
              have h6' : FK W7 b6 a6 l6 c6 1 kx := h6
              clear h6 hz
              have h6 := h6'
              clear h6'
              have HW : Below W7.heap.size W7 W7.drew := (Below.refl _ _).drew
              refine till_start (fun w' => w'.cell? ⟨w.heap.size, 0, none⟩ = some (.bool bx) ∧ w'.cell? ⟨w.heap.size, 1, none⟩ = some (.slice ax lx cx) ∧ w'.cell? ⟨w6.heap.size, 0, none⟩ = some (.bool b6) ∧ w'.cell? ⟨w6.heap.size, 1, none⟩ = some (.slice a6 l6 c6)) 33 (by kernel_rfl) ?_ (fun hHeld => ?_)
              · exact ⟨(P0.later HW).facts.1, (P0.later HW).facts.2.1, (D6.later HW).facts.1, (D6.later HW).facts.2.1⟩
              refine till_take (i := 0) (v := ?_) [1, 4, 5, 6, 7, 8, 9, 10, 11, 12, 13, 14, 15, 16, 17, 18, 19, 20, 21, 22, 23, 24, 25, 26, 27, 28, 29, 30, 31, 32, 33] rfl (by kernel_rfl) (by kernel_rfl) (by kernel_rfl) (by kernel_rfl) (fun _ _ _ h => h) (Or.inl ⟨by rfl, ?_⟩) (by assumption) ?_
              rotate_left
              · (intro w hSw; (try dsimp only at hSw); go_simp; try with_reducible rfl)
              simp only [Act.put, List.getElem_toArray, List.getElem_cons_zero, List.setIfInBounds_toArray, List.set_cons_zero, List.set_cons_succ]
              refine till_take (i := 1) (v := ?_) [4, 5, 6, 7, 8, 9, 10, 11, 12, 13, 14, 15, 16, 17, 18, 19, 20, 21, 22, 23, 24, 25, 26, 27, 28, 29, 30, 31, 32, 33] rfl (by kernel_rfl) (by kernel_rfl) (by kernel_rfl) (by kernel_rfl) (fun _ _ _ h => h) (Or.inl ⟨by rfl, ?_⟩) (by assumption) ?_
              rotate_left
              · (intro w hSw; (try dsimp only at hSw); go_simp; try with_reducible rfl)
              simp only [Act.put, List.getElem_toArray, List.getElem_cons_succ, List.getElem_cons_zero, List.setIfInBounds_toArray, List.set_cons_zero, List.set_cons_succ]
              refine till_take (i := 2) (v := ?_) [3, 4, 5, 6, 7, 8, 9, 10, 11, 12, 13, 14, 15, 16, 17, 18, 19, 20, 21, 22, 23, 24, 25, 26, 27, 28, 29, 30, 31, 32, 33] rfl (by kernel_rfl) (by kernel_rfl) (by kernel_rfl) (by kernel_rfl) (fun _ _ _ h => h) (Or.inl ⟨by rfl, ?_⟩) (by assumption) ?_
              rotate_left
              · (intro w hSw; (try dsimp only at hSw); go_simp; try with_reducible rfl)
              simp only [Act.put, List.getElem_toArray, List.getElem_cons_succ, List.getElem_cons_zero, List.setIfInBounds_toArray, List.set_cons_zero, List.set_cons_succ]
              refine till_take (i := 3) (v := ?_) [4, 5, 6, 7, 8, 9, 10, 11, 12, 13, 14, 15, 16, 17, 18, 19, 20, 21, 22, 23, 24, 25, 26, 27, 28, 29, 30, 31, 32, 33] rfl (by kernel_rfl) (by kernel_rfl) (by kernel_rfl) (by kernel_rfl) (fun _ _ _ h => h) (Or.inl ⟨by rfl, ?_⟩) (by assumption) ?_
              rotate_left
              · (intro w hSw; (try dsimp only at hSw); go_simp; try with_reducible rfl)
              simp only [Act.put, List.getElem_toArray, List.getElem_cons_succ, List.getElem_cons_zero, List.setIfInBounds_toArray, List.set_cons_zero, List.set_cons_succ]
              refine till_take (i := 4) (v := ?_) [5, 6, 7, 8, 9, 10, 11, 12, 13, 14, 15, 16, 17, 18, 19, 20, 21, 22, 23, 24, 25, 26, 27, 28, 29, 30, 31, 32, 33] rfl (by kernel_rfl) (by kernel_rfl) (by kernel_rfl) (by kernel_rfl) (fun _ _ _ h => h) (Or.inl ⟨by rfl, ?_⟩) (by assumption) ?_
              rotate_left
              · (intro w hSw; (try dsimp only at hSw); go_simp; try with_reducible rfl)
              simp only [Act.put, List.getElem_toArray, List.getElem_cons_succ, List.getElem_cons_zero, List.setIfInBounds_toArray, List.set_cons_zero, List.set_cons_succ]
              refine till_take (i := 5) (v := ?_) [6, 7, 8, 9, 10, 11, 12, 13, 14, 15, 16, 17, 18, 19, 20, 21, 22, 23, 24, 25, 26, 27, 28, 29, 30, 31, 32, 33] rfl (by kernel_rfl) (by kernel_rfl) (by kernel_rfl) (by kernel_rfl) (fun _ _ _ h => h) (Or.inl ⟨by rfl, ?_⟩) (by assumption) ?_
              rotate_left
              · (intro w hSw; (try dsimp only at hSw); go_simp; try with_reducible rfl)
              simp only [Act.put, List.getElem_toArray, List.getElem_cons_succ, List.getElem_cons_zero, List.setIfInBounds_toArray, List.set_cons_zero, List.set_cons_succ]
              refine till_take (i := 6) (v := ?_) [7, 10, 11, 12, 13, 14, 15, 16, 17, 18, 19, 20, 21, 22, 23, 24, 25, 26, 27, 28, 29, 30, 31, 32, 33] rfl (by kernel_rfl) (by kernel_rfl) (by kernel_rfl) (by kernel_rfl) (fun _ _ _ h => h) (Or.inl ⟨by rfl, ?_⟩) (by assumption) ?_
              rotate_left
              · (intro w hSw; (try dsimp only at hSw); go_simp; try with_reducible rfl)
              simp only [Act.put, List.getElem_toArray, List.getElem_cons_succ, List.getElem_cons_zero, List.setIfInBounds_toArray, List.set_cons_zero, List.set_cons_succ]
              refine till_take (i := 7) (v := ?_) [10, 11, 12, 13, 14, 15, 16, 17, 18, 19, 20, 21, 22, 23, 24, 25, 26, 27, 28, 29, 30, 31, 32, 33] rfl (by kernel_rfl) (by kernel_rfl) (by kernel_rfl) (by kernel_rfl) (fun _ _ _ h => h) (Or.inl ⟨by rfl, ?_⟩) (by assumption) ?_
              rotate_left
              · (intro w hSw; (try dsimp only at hSw); go_simp; try with_reducible rfl)
              simp only [Act.put, List.getElem_toArray, List.getElem_cons_succ, List.getElem_cons_zero, List.setIfInBounds_toArray, List.set_cons_zero, List.set_cons_succ]
              refine till_take (i := 8) (v := ?_) [9, 10, 11, 12, 13, 14, 15, 16, 17, 18, 19, 20, 21, 22, 23, 24, 25, 26, 27, 28, 29, 30, 31, 32, 33] rfl (by kernel_rfl) (by kernel_rfl) (by kernel_rfl) (by kernel_rfl) (fun _ _ _ h => h) (Or.inl ⟨by rfl, ?_⟩) (by assumption) ?_
              rotate_left
              · (intro w hSw; (try dsimp only at hSw); go_simp; try with_reducible rfl)
              simp only [Act.put, List.getElem_toArray, List.getElem_cons_succ, List.getElem_cons_zero, List.setIfInBounds_toArray, List.set_cons_zero, List.set_cons_succ]
              refine till_take (i := 9) (v := ?_) [10, 11, 12, 13, 14, 15, 16, 17, 18, 19, 20, 21, 22, 23, 24, 25, 26, 27, 28, 29, 30, 31, 32, 33] rfl (by kernel_rfl) (by kernel_rfl) (by kernel_rfl) (by kernel_rfl) (fun _ _ _ h => h) (Or.inl ⟨by rfl, ?_⟩) (by assumption) ?_
              rotate_left
              · (intro w hSw; (try dsimp only at hSw); go_simp; try with_reducible rfl)
              simp only [Act.put, List.getElem_toArray, List.getElem_cons_succ, List.getElem_cons_zero, List.setIfInBounds_toArray, List.set_cons_zero, List.set_cons_succ]
              refine till_take (i := 10) (v := ?_) [11, 12, 13, 14, 15, 16, 17, 18, 19, 20, 21, 22, 23, 24, 25, 26, 27, 28, 29, 30, 31, 32, 33] rfl (by kernel_rfl) (by kernel_rfl) (by kernel_rfl) (by kernel_rfl) (fun _ _ _ h => h) (Or.inl ⟨by rfl, ?_⟩) (by assumption) ?_
              rotate_left
              · (intro w hSw; (try dsimp only at hSw); go_simp; try with_reducible rfl)
              simp only [Act.put, List.getElem_toArray, List.getElem_cons_succ, List.getElem_cons_zero, List.setIfInBounds_toArray, List.set_cons_zero, List.set_cons_succ]
              refine till_take (i := 11) (v := ?_) [12, 13, 14, 15, 16, 17, 18, 19, 20, 21, 22, 23, 24, 25, 26, 27, 28, 29, 30, 31, 32, 33] rfl (by kernel_rfl) (by kernel_rfl) (by kernel_rfl) (by kernel_rfl) (fun _ _ _ h => h) (Or.inl ⟨by rfl, ?_⟩) (by assumption) ?_
              rotate_left
              · (intro w hSw; (try dsimp only at hSw); go_simp; try with_reducible rfl)
              simp only [Act.put, List.getElem_toArray, List.getElem_cons_succ, List.getElem_cons_zero, List.setIfInBounds_toArray, List.set_cons_zero, List.set_cons_succ]
              refine till_take (i := 12) (v := ?_) [13, 14, 15, 16, 17, 18, 19, 20, 21, 22, 23, 24, 25, 26, 27, 28, 29, 30, 31, 32, 33] rfl (by kernel_rfl) (by kernel_rfl) (by kernel_rfl) (by kernel_rfl) (fun _ _ _ h => h) (Or.inl ⟨by rfl, ?_⟩) (by assumption) ?_
              rotate_left
              · (intro w hSw; (try dsimp only at hSw); go_simp; try with_reducible rfl)
              simp only [Act.put, List.getElem_toArray, List.getElem_cons_succ, List.getElem_cons_zero, List.setIfInBounds_toArray, List.set_cons_zero, List.set_cons_succ]
              refine till_take (i := 13) (v := ?_) [14, 15, 16, 17, 18, 19, 20, 21, 22, 23, 24, 25, 26, 27, 28, 29, 30, 31, 32, 33] rfl (by kernel_rfl) (by kernel_rfl) (by kernel_rfl) (by kernel_rfl) (fun _ _ _ h => h) (Or.inl ⟨by rfl, ?_⟩) (by assumption) ?_
              rotate_left
              · (intro w hSw; (try dsimp only at hSw); go_simp; try with_reducible rfl)
              simp only [Act.put, List.getElem_toArray, List.getElem_cons_succ, List.getElem_cons_zero, List.setIfInBounds_toArray, List.set_cons_zero, List.set_cons_succ]
              refine till_in (i := 14) (by kernel_rfl) rfl (fun K hK => ?_)
              go_simp
              refine (signK b6 a6 l6 c6 1 kx 1 _ ((h6.later HW).ik (by omega)) rfl).mono ?_
              rintro e w9 ⟨rfl, hb9⟩
              replace HW := Below.step HW hb9
              clear hb9
              refine hK.out _ _ ?_ (fun hHeld => ?_)
              · exact ⟨(P0.later HW).facts.1, (P0.later HW).facts.2.1, (D6.later HW).facts.1, (D6.later HW).facts.2.1⟩
              clear hK K
              try simp only [Act.put, List.getElem_toArray, List.getElem_cons_succ, List.getElem_cons_zero, List.setIfInBounds_toArray, List.set_cons_zero, List.set_cons_succ]
              refine till_take (i := 15) (v := ?_) [16, 17, 18, 19, 20, 21, 22, 23, 24, 25, 26, 27, 28, 29, 30, 31, 32, 33] rfl (by kernel_rfl) (by kernel_rfl) (by kernel_rfl) (by kernel_rfl) (fun _ _ _ h => h) (Or.inl ⟨by rfl, ?_⟩) (by assumption) ?_
              rotate_left
              · (intro w hSw; (try dsimp only at hSw); go_simp; try with_reducible rfl)
              simp only [Act.put, List.getElem_toArray, List.getElem_cons_succ, List.getElem_cons_zero, List.setIfInBounds_toArray, List.set_cons_zero, List.set_cons_succ]
              refine till_take (i := 16) (v := ?_) [17, 18, 19, 20, 21, 22, 23, 24, 25, 26, 27, 28, 29, 30, 31, 32, 33] rfl (by kernel_rfl) (by kernel_rfl) (by kernel_rfl) (by kernel_rfl) (fun _ _ _ h => h) (Or.inl ⟨by rfl, ?_⟩) (by assumption) ?_
              rotate_left
              · (intro w hSw; (try dsimp only at hSw); go_simp; try with_reducible rfl)
              simp only [Act.put, List.getElem_toArray, List.getElem_cons_succ, List.getElem_cons_zero, List.setIfInBounds_toArray, List.set_cons_zero, List.set_cons_succ]
              refine till_take (i := 17) (v := ?_) [19, 20, 21, 22, 23, 24, 25, 26, 27, 28, 29, 30, 31, 32, 33] rfl (by kernel_rfl) (by kernel_rfl) (by kernel_rfl) (by kernel_rfl) (fun _ _ _ h => h) (Or.inl ⟨by rfl, ?_⟩) (by assumption) ?_
              rotate_left
              · (intro w hSw; (try dsimp only at hSw); go_simp; try with_reducible rfl)
              simp only [Act.put, List.getElem_toArray, List.getElem_cons_succ, List.getElem_cons_zero, List.setIfInBounds_toArray, List.set_cons_zero, List.set_cons_succ]
              refine till_in (i := 18) (by kernel_rfl) rfl (fun K hK => ?_)
              go_simp
              refine (ofK 1 _ (by omega) (by omega)).mono ?_
              rintro e w9 ⟨b11, a11, l11, c11, rfl, h11, hb9⟩
              replace HW := Below.step HW hb9
              clear hb9
              refine hK.out _ _ ?_ (fun hHeld => ?_)
              · exact ⟨(P0.later HW).facts.1, (P0.later HW).facts.2.1, (D6.later HW).facts.1, (D6.later HW).facts.2.1⟩
              clear hK K
              try simp only [Act.put, List.getElem_toArray, List.getElem_cons_succ, List.getElem_cons_zero, List.setIfInBounds_toArray, List.set_cons_zero, List.set_cons_succ]
              refine till_in (i := 19) (by kernel_rfl) rfl (fun K hK => ?_)
              go_simp
              refine (sameK b6 a6 l6 c6 1 kx _ _ _ _ 1 2 true _ ((h6.later HW).ik (by omega)) (h11.ik (by omega)) rfl).mono ?_
              rintro e w9 ⟨rfl, hb9⟩
              replace HW := Below.step HW hb9
              clear hb9
              clear h11
              refine hK.out _ _ ?_ (fun hHeld => ?_)
              · exact ⟨(P0.later HW).facts.1, (P0.later HW).facts.2.1, (D6.later HW).facts.1, (D6.later HW).facts.2.1⟩
              clear hK K
              try simp only [Act.put, List.getElem_toArray, List.getElem_cons_succ, List.getElem_cons_zero, List.setIfInBounds_toArray, List.set_cons_zero, List.set_cons_succ]
              refine till_take (i := 20) (v := ?_) [21, 22, 23, 24, 25, 26, 27, 28, 29, 30, 31, 32, 33] rfl (by kernel_rfl) (by kernel_rfl) (by kernel_rfl) (by kernel_rfl) (fun _ _ _ h => h) (Or.inl ⟨by rfl, ?_⟩) (by assumption) ?_
              rotate_left
              · (intro w hSw; (try dsimp only at hSw); go_simp; try with_reducible rfl)
              simp only [Act.put, List.getElem_toArray, List.getElem_cons_succ, List.getElem_cons_zero, List.setIfInBounds_toArray, List.set_cons_zero, List.set_cons_succ]
              refine till_take (i := 21) (v := ?_) [22, 23, 24, 25, 26, 27, 28, 29, 30, 31, 32, 33] rfl (by kernel_rfl) (by kernel_rfl) (by kernel_rfl) (by kernel_rfl) (fun _ _ _ h => h) (Or.inl ⟨by rfl, ?_⟩) (by assumption) ?_
              rotate_left
              · (intro w hSw; (try dsimp only at hSw); go_simp; try with_reducible rfl)
              simp only [Act.put, List.getElem_toArray, List.getElem_cons_succ, List.getElem_cons_zero, List.setIfInBounds_toArray, List.set_cons_zero, List.set_cons_succ]
              refine till_take (i := 22) (v := ?_) [23, 24, 25, 26, 27, 28, 29, 30, 31, 32, 33] rfl (by kernel_rfl) (by kernel_rfl) (by kernel_rfl) (by kernel_rfl) (fun _ _ _ h => h) (Or.inl ⟨by rfl, ?_⟩) (by assumption) ?_
              rotate_left
              · (intro w hSw; (try dsimp only at hSw); go_simp; try with_reducible rfl)
              simp only [Act.put, List.getElem_toArray, List.getElem_cons_succ, List.getElem_cons_zero, List.setIfInBounds_toArray, List.set_cons_zero, List.set_cons_succ]
              refine till_take (i := 23) (v := ?_) [24, 25, 26, 27, 28, 29, 30, 31, 32, 33] rfl (by kernel_rfl) (by kernel_rfl) (by kernel_rfl) (by kernel_rfl) (fun _ _ _ h => h) (Or.inl ⟨by rfl, ?_⟩) (by assumption) ?_
              rotate_left
              · (intro w hSw; (try dsimp only at hSw); go_simp; try with_reducible rfl)
              simp only [Act.put, List.getElem_toArray, List.getElem_cons_succ, List.getElem_cons_zero, List.setIfInBounds_toArray, List.set_cons_zero, List.set_cons_succ]
              refine till_take (i := 24) (v := ?_) [25, 27, 29, 30, 31, 32, 33] rfl (by kernel_rfl) (by kernel_rfl) (by kernel_rfl) (by kernel_rfl) (fun _ _ _ h => h) (Or.inl ⟨by rfl, ?_⟩) (by assumption) ?_
              rotate_left
              · (intro w hSw; (try dsimp only at hSw); go_simp; try with_reducible rfl)
              simp only [Act.put, List.getElem_toArray, List.getElem_cons_succ, List.getElem_cons_zero, List.setIfInBounds_toArray, List.set_cons_zero, List.set_cons_succ]
              refine till_take (i := 26) (v := ?_) [27, 29, 30, 31, 32, 33] rfl (by kernel_rfl) (by kernel_rfl) (by kernel_rfl) (by kernel_rfl) (fun _ _ _ h => h) (Or.inl ⟨by rfl, ?_⟩) (by assumption) ?_
              rotate_left
              · (intro w hSw; (try dsimp only at hSw); go_simp; try with_reducible rfl)
              simp only [Act.put, List.getElem_toArray, List.getElem_cons_succ, List.getElem_cons_zero, List.setIfInBounds_toArray, List.set_cons_zero, List.set_cons_succ]
              refine till_take (i := 28) (v := ?_) [29, 30, 31, 32, 33] rfl (by kernel_rfl) (by kernel_rfl) (by kernel_rfl) (by kernel_rfl) (fun _ _ _ h => h) (Or.inl ⟨by rfl, ?_⟩) (by assumption) ?_
              rotate_left
              · (intro w hSw; (try dsimp only at hSw); go_simp; try with_reducible rfl)
              simp only [Act.put, List.getElem_toArray, List.getElem_cons_succ, List.getElem_cons_zero, List.setIfInBounds_toArray, List.set_cons_zero, List.set_cons_succ]
              refine till_in (i := 25) (by kernel_rfl) rfl (fun K hK => ?_)
              go_simp
              refine (allK _ _ _ (zs.map fun z => z * x) (kx + kx) _ ((hw.later HW).vk (by omega)) (by omega)).mono ?_
              rintro e w9 ⟨b7, a7, l7, c7, rfl, h7, hb9⟩
              replace HW := Below.step HW hb9
              clear hb9
              rw [unhide EM] at h7
              refine hK.out _ _ ?_ (fun hHeld => ?_)
              · exact ⟨(P0.later HW).facts.1, (P0.later HW).facts.2.1, (D6.later HW).facts.1, (D6.later HW).facts.2.1⟩
              clear hK K
              try simp only [Act.put, List.getElem_toArray, List.getElem_cons_succ, List.getElem_cons_zero, List.setIfInBounds_toArray, List.set_cons_zero, List.set_cons_succ]
              refine till_in (i := 27) (by kernel_rfl) rfl (fun K hK => ?_)
              go_simp
              refine (absK bx ax lx cx x kx _ (h0.later HW)).mono ?_
              rintro e w9 ⟨b8, a8, l8, c8, rfl, h8, hb9⟩
              replace HW := Below.step HW hb9
              replace h7 := h7.later hb9
              clear hb9
              refine hK.out _ _ ?_ (fun hHeld => ?_)
              · exact ⟨(P0.later HW).facts.1, (P0.later HW).facts.2.1, (D6.later HW).facts.1, (D6.later HW).facts.2.1⟩
              clear hK K
              try simp only [Act.put, List.getElem_toArray, List.getElem_cons_succ, List.getElem_cons_zero, List.setIfInBounds_toArray, List.set_cons_zero, List.set_cons_succ]
              refine till_in (i := 29) (by kernel_rfl) rfl (fun K hK => ?_)
              go_simp
              refine (allK _ _ _ zs kx _ (unhide HK _ (Below.step (unhide HB) HW)) (by omega)).mono ?_
              rintro e w9 ⟨b9, a9, l9, c9, rfl, h9, hb9⟩
              replace HW := Below.step HW hb9
              replace h7 := h7.later hb9
              replace h8 := h8.later hb9
              clear hb9
              refine hK.out _ _ ?_ (fun hHeld => ?_)
              · exact ⟨(P0.later HW).facts.1, (P0.later HW).facts.2.1, (D6.later HW).facts.1, (D6.later HW).facts.2.1⟩
              clear hK K
              try simp only [Act.put, List.getElem_toArray, List.getElem_cons_succ, List.getElem_cons_zero, List.setIfInBounds_toArray, List.set_cons_zero, List.set_cons_succ]
              refine till_in (i := 30) (by kernel_rfl) rfl (fun K hK => ?_)
              go_simp
              refine (mulK _ _ _ _ (x.natAbs : Int) kx _ _ _ _ (gcdL zs : Int) kx _ (h8.ik (by omega)) (h9.ik (by omega))).mono ?_
              rintro e w9 ⟨b10, a10, l10, c10, rfl, h10, hb9⟩
              replace HW := Below.step HW hb9
              replace h7 := h7.later hb9
              clear hb9
              clear h8 h9
              refine hK.out _ _ ?_ (fun hHeld => ?_)
              · exact ⟨(P0.later HW).facts.1, (P0.later HW).facts.2.1, (D6.later HW).facts.1, (D6.later HW).facts.2.1⟩
              clear hK K
              try simp only [Act.put, List.getElem_toArray, List.getElem_cons_succ, List.getElem_cons_zero, List.setIfInBounds_toArray, List.set_cons_zero, List.set_cons_succ]
              refine till_in (i := 31) (by kernel_rfl) rfl (fun K hK => ?_)
              go_simp
              refine (sameK _ _ _ _ ((x.natAbs * gcdL zs : Nat) : Int) (kx + kx) _ _ _ _ ((x.natAbs : Int) * (gcdL zs : Int)) (kx + kx) true _ (h7.ik (by omega)) (h10.ik (by omega)) (decide_eq_true (Int.natCast_mul _ _)).symm).mono ?_
              rintro e w9 ⟨rfl, hb9⟩
              replace HW := Below.step HW hb9
              clear hb9
              clear h7 h10
              refine hK.out _ _ ?_ (fun hHeld => ?_)
              · exact ⟨(P0.later HW).facts.1, (P0.later HW).facts.2.1, (D6.later HW).facts.1, (D6.later HW).facts.2.1⟩
              clear hK K
              try simp only [Act.put, List.getElem_toArray, List.getElem_cons_succ, List.getElem_cons_zero, List.setIfInBounds_toArray, List.set_cons_zero, List.set_cons_succ]
              refine till_take (i := 32) (v := ?_) [33] rfl (by kernel_rfl) (by kernel_rfl) (by kernel_rfl) (by kernel_rfl) (fun _ _ _ h => h) (Or.inl ⟨by rfl, ?_⟩) (by assumption) ?_
              rotate_left
              · (intro w hSw; (try dsimp only at hSw); go_simp; try with_reducible rfl)
              simp only [Act.put, List.getElem_toArray, List.getElem_cons_succ, List.getElem_cons_zero, List.setIfInBounds_toArray, List.set_cons_zero, List.set_cons_succ]
              refine till_out (i := 33) (by kernel_rfl) rfl (by kernel_rfl) (fun K hK => ?_)
              go_simp
              refine hK.out _ _ ?_
              clear hK K
              try simp only [Act.put, List.getElem_toArray, List.getElem_cons_succ, List.getElem_cons_zero, List.setIfInBounds_toArray, List.set_cons_zero, List.set_cons_succ]
              refine till_done (by kernel_rfl) ?_ _
              replace P0 := P0.later HW
              replace h0 := h0.later HW
              replace hp := hp.later HW
              replace hq := hq.later HW
              replace HB := hide (Below.step (unhide HB) HW)
              clear HW h6 hw D6
              go_wp2_with fail
              go_loopw [82] (fun t wr => ∃ (j : Nat), j ≤ i ∧ t = .int .i64 (j : Int) ∧ Below w9.heap.size w9 wr) (fun t _ => i - (intOf t).toNat)
              case atStart => exact ⟨0, Nat.zero_le _, rfl, Below.refl _ _⟩
              case round =>
                obtain ⟨j, hj, rfl, hW⟩ := hrel
                by_cases hlt : j < i
                · obtain ⟨gp, offp, rfl⟩ := hp.some (by omega)
                  obtain ⟨gq, offq, rfl⟩ := hq.some (by omega)
                  obtain ⟨bp, ap', lp, cp', EP, hpj⟩ := hp.at hlt
                  obtain ⟨bq, aq', lq, cq', EQ', hqj⟩ := hq.at hlt
                  rw [getD_map _ (by rw [unhide HL]; exact hlt)] at hpj
                  rw [getD_map _ (by rw [List.length_map, unhide HL]; exact hlt), getD_map _ (by rw [unhide HL]; exact hlt)] at hqj
                  have EQ := hide (show true = decide ((zs.getD j 0 * x).tdiv ((x.natAbs * gcdL zs : Nat) : Int) = (zs.getD j 0).tdiv (gcdL zs : Int) * sx) from (decide_eq_true (by rw [unhide ES]; exact tdiv_sign_mul (unhide H0))).symm)
                  have hj1 : (0 : Int) ≤ (j : Int) := by omega
                  have hj2 : (j : Int) < (i : Int) := by omega
                  have HW : Below w9.heap.size w9 wr.drew := hW.drew
                  go_upto_region 16 with fail
                  refine till_start (fun w' => w'.cell? ⟨w.heap.size, 0, none⟩ = some (.bool bx) ∧ w'.cell? ⟨w.heap.size, 1, none⟩ = some (.slice ax lx cx) ∧ w'.cell? ⟨gp, offp + j * 2, none⟩ = some (.bool bp) ∧ w'.cell? ⟨gp, offp + j * 2 + 1, none⟩ = some (.slice ap' lp cp') ∧ w'.cell? ⟨gq, offq + j * 2, none⟩ = some (.bool bq) ∧ w'.cell? ⟨gq, offq + j * 2 + 1, none⟩ = some (.slice aq' lq cq')) 19 (by kernel_rfl) ?_ (fun hHeld => ?_)
                  · exact ⟨(P0.later HW).facts.1, (P0.later HW).facts.2.1, (EP.later HW).facts.1, (EP.later HW).facts.2, (EQ'.later HW).facts.1, (EQ'.later HW).facts.2⟩
                  refine till_take (i := 0) (v := ?_) [1, 2, 3, 4, 5, 6, 7, 8, 9, 10, 11, 12, 13, 14, 15, 16, 17, 18, 19] rfl (by kernel_rfl) (by kernel_rfl) (by kernel_rfl) (by kernel_rfl) (fun _ _ _ h => h) (Or.inl ⟨by rfl, ?_⟩) (by assumption) ?_
                  rotate_left
                  · (intro w hSw; (try dsimp only at hSw); go_simp; try with_reducible rfl)
                  simp only [Act.put, List.getElem_toArray, List.getElem_cons_zero, List.setIfInBounds_toArray, List.set_cons_zero, List.set_cons_succ]
                  refine till_in (i := 1) (by kernel_rfl) rfl (fun K hK => ?_)
                  go_simp
                  refine (allK _ _ _ zs kx _ (unhide HK _ (Below.step (unhide HB) HW)) (by omega)).mono ?_
                  rintro e w9 ⟨b7, a7, l7, c7, rfl, h7, hb9⟩
                  replace HW := Below.step HW hb9
                  clear hb9
                  refine hK.out _ _ ?_ (fun hHeld => ?_)
                  · exact ⟨(P0.later HW).facts.1, (P0.later HW).facts.2.1, (EP.later HW).facts.1, (EP.later HW).facts.2, (EQ'.later HW).facts.1, (EQ'.later HW).facts.2⟩
                  clear hK K
                  try simp only [Act.put, List.getElem_toArray, List.getElem_cons_succ, List.getElem_cons_zero, List.setIfInBounds_toArray, List.set_cons_zero, List.set_cons_succ]
                  refine till_in (i := 2) (by kernel_rfl) rfl (fun K hK => ?_)
                  go_simp
                  refine (signK _ _ _ _ (gcdL zs : Int) kx 1 _ (h7.ik (by omega)) (unhide EG)).mono ?_
                  rintro e w9 ⟨rfl, hb9⟩
                  replace HW := Below.step HW hb9
                  clear hb9
                  clear h7
                  refine hK.out _ _ ?_ (fun hHeld => ?_)
                  · exact ⟨(P0.later HW).facts.1, (P0.later HW).facts.2.1, (EP.later HW).facts.1, (EP.later HW).facts.2, (EQ'.later HW).facts.1, (EQ'.later HW).facts.2⟩
                  clear hK K
                  try simp only [Act.put, List.getElem_toArray, List.getElem_cons_succ, List.getElem_cons_zero, List.setIfInBounds_toArray, List.set_cons_zero, List.set_cons_succ]
                  refine till_take (i := 3) (v := ?_) [4, 5, 6, 7, 8, 9, 10, 11, 12, 13, 14, 15, 16, 17, 18, 19] rfl (by kernel_rfl) (by kernel_rfl) (by kernel_rfl) (by kernel_rfl) (fun _ _ _ h => h) (Or.inl ⟨by rfl, ?_⟩) (by assumption) ?_
                  rotate_left
                  · (intro w hSw; (try dsimp only at hSw); go_simp; try with_reducible rfl)
                  simp only [Act.put, List.getElem_toArray, List.getElem_cons_succ, List.getElem_cons_zero, List.setIfInBounds_toArray, List.set_cons_zero, List.set_cons_succ]
                  refine till_take (i := 4) (v := ?_) [5, 6, 7, 8, 9, 10, 11, 12, 13, 14, 15, 16, 17, 18, 19] rfl (by kernel_rfl) (by kernel_rfl) (by kernel_rfl) (by kernel_rfl) (fun _ _ _ h => h) (Or.inl ⟨by rfl, ?_⟩) (by assumption) ?_
                  rotate_left
                  · (intro w hSw; (try dsimp only at hSw); go_simp; try with_reducible rfl)
                  simp only [Act.put, List.getElem_toArray, List.getElem_cons_succ, List.getElem_cons_zero, List.setIfInBounds_toArray, List.set_cons_zero, List.set_cons_succ]
                  refine till_take (i := 5) (v := ?_) [7, 8, 17, 18, 19] rfl (by kernel_rfl) (by kernel_rfl) (by kernel_rfl) (by kernel_rfl) (fun _ _ _ h => h) (Or.inl ⟨by rfl, ?_⟩) (by assumption) ?_
                  rotate_left
                  · (intro w hSw; (try dsimp only at hSw); go_simp; try with_reducible rfl)
                  simp only [Act.put, List.getElem_toArray, List.getElem_cons_succ, List.getElem_cons_zero, List.setIfInBounds_toArray, List.set_cons_zero, List.set_cons_succ]
                  refine till_take (i := 6) (v := ?_) [7, 8, 17, 18, 19] rfl (by kernel_rfl) (by kernel_rfl) (by kernel_rfl) (by kernel_rfl) (fun _ _ _ h => h) (Or.inl ⟨by rfl, ?_⟩) (by assumption) ?_
                  rotate_left
                  · (intro w hSw; (try dsimp only at hSw); go_simp; try with_reducible rfl)
                  simp only [Act.put, List.getElem_toArray, List.getElem_cons_succ, List.getElem_cons_zero, List.setIfInBounds_toArray, List.set_cons_zero, List.set_cons_succ]
                  refine till_take (i := 7) (v := ?_) [8, 17, 18, 19] rfl (by kernel_rfl) (by kernel_rfl) (by kernel_rfl) (by kernel_rfl) (fun _ _ _ h => h) (Or.inl ⟨by rfl, ?_⟩) (by assumption) ?_
                  rotate_left
                  · (intro w hSw; (try dsimp only at hSw); go_simp; try with_reducible rfl)
                  simp only [Act.put, List.getElem_toArray, List.getElem_cons_succ, List.getElem_cons_zero, List.setIfInBounds_toArray, List.set_cons_zero, List.set_cons_succ]
                  refine till_take (i := 8) (v := ?_) [17, 18, 19] rfl (by kernel_rfl) (by kernel_rfl) (by kernel_rfl) (by kernel_rfl) (fun _ _ _ h => h) (Or.inl ⟨by rfl, ?_⟩) (by assumption) ?_
                  rotate_left
                  · (intro w hSw; (try dsimp only at hSw); go_simp; try with_reducible rfl)
                  simp only [Act.put, List.getElem_toArray, List.getElem_cons_succ, List.getElem_cons_zero, List.setIfInBounds_toArray, List.set_cons_zero, List.set_cons_succ]
                  refine till_take (i := 9) (v := ?_) [11, 12, 16, 17, 18, 19] rfl (by kernel_rfl) (by kernel_rfl) (by kernel_rfl) (by kernel_rfl) (fun _ _ _ h => h) (Or.inl ⟨by rfl, ?_⟩) (by assumption) ?_
                  rotate_left
                  · (intro w hSw; (try dsimp only at hSw); go_simp; try with_reducible rfl)
                  simp only [Act.put, List.getElem_toArray, List.getElem_cons_succ, List.getElem_cons_zero, List.setIfInBounds_toArray, List.set_cons_zero, List.set_cons_succ]
                  refine till_take (i := 10) (v := ?_) [11, 12, 16, 17, 18, 19] rfl (by kernel_rfl) (by kernel_rfl) (by kernel_rfl) (by kernel_rfl) (fun _ _ _ h => h) (Or.inl ⟨by rfl, ?_⟩) (by assumption) ?_
                  rotate_left
                  · (intro w hSw; (try dsimp only at hSw); go_simp; try with_reducible rfl)
                  simp only [Act.put, List.getElem_toArray, List.getElem_cons_succ, List.getElem_cons_zero, List.setIfInBounds_toArray, List.set_cons_zero, List.set_cons_succ]
                  refine till_take (i := 11) (v := ?_) [12, 16, 17, 18, 19] rfl (by kernel_rfl) (by kernel_rfl) (by kernel_rfl) (by kernel_rfl) (fun _ _ _ h => h) (Or.inl ⟨by rfl, ?_⟩) (by assumption) ?_
                  rotate_left
                  · (intro w hSw; (try dsimp only at hSw); go_simp; try with_reducible rfl)
                  simp only [Act.put, List.getElem_toArray, List.getElem_cons_succ, List.getElem_cons_zero, List.setIfInBounds_toArray, List.set_cons_zero, List.set_cons_succ]
                  refine till_take (i := 12) (v := ?_) [16, 17, 18, 19] rfl (by kernel_rfl) (by kernel_rfl) (by kernel_rfl) (by kernel_rfl) (fun _ _ _ h => h) (Or.inl ⟨by rfl, ?_⟩) (by assumption) ?_
                  rotate_left
                  · (intro w hSw; (try dsimp only at hSw); go_simp; try with_reducible rfl)
                  simp only [Act.put, List.getElem_toArray, List.getElem_cons_succ, List.getElem_cons_zero, List.setIfInBounds_toArray, List.set_cons_zero, List.set_cons_succ]
                  refine till_take (i := 13) (v := ?_) [14, 15, 16, 17, 18, 19] rfl (by kernel_rfl) (by kernel_rfl) (by kernel_rfl) (by kernel_rfl) (fun _ _ _ h => h) (Or.inl ⟨by rfl, ?_⟩) (by assumption) ?_
                  rotate_left
                  · (intro w hSw; (try dsimp only at hSw); go_simp; try with_reducible rfl)
                  simp only [Act.put, List.getElem_toArray, List.getElem_cons_succ, List.getElem_cons_zero, List.setIfInBounds_toArray, List.set_cons_zero, List.set_cons_succ]
                  refine till_in (i := 14) (by kernel_rfl) rfl (fun K hK => ?_)
                  go_simp
                  refine (signK bx ax lx cx x kx sx _ (h0.later HW) (unhide ES)).mono ?_
                  rintro e w9 ⟨rfl, hb9⟩
                  replace HW := Below.step HW hb9
                  clear hb9
                  refine hK.out _ _ ?_ (fun hHeld => ?_)
                  · exact ⟨(P0.later HW).facts.1, (P0.later HW).facts.2.1, (EP.later HW).facts.1, (EP.later HW).facts.2, (EQ'.later HW).facts.1, (EQ'.later HW).facts.2⟩
                  clear hK K
                  try simp only [Act.put, List.getElem_toArray, List.getElem_cons_succ, List.getElem_cons_zero, List.setIfInBounds_toArray, List.set_cons_zero, List.set_cons_succ]
                  refine till_in (i := 15) (by kernel_rfl) rfl (fun K hK => ?_)
                  go_simp
                  refine (ofK sx _ (by omega) (by omega)).mono ?_
                  rintro e w9 ⟨b8, a8, l8, c8, rfl, h8, hb9⟩
                  replace HW := Below.step HW hb9
                  clear hb9
                  refine hK.out _ _ ?_ (fun hHeld => ?_)
                  · exact ⟨(P0.later HW).facts.1, (P0.later HW).facts.2.1, (EP.later HW).facts.1, (EP.later HW).facts.2, (EQ'.later HW).facts.1, (EQ'.later HW).facts.2⟩
                  clear hK K
                  try simp only [Act.put, List.getElem_toArray, List.getElem_cons_succ, List.getElem_cons_zero, List.setIfInBounds_toArray, List.set_cons_zero, List.set_cons_succ]
                  refine till_in (i := 16) (by kernel_rfl) rfl (fun K hK => ?_)
                  go_simp
                  refine (mulK bp ap' lp cp' ((zs.getD j 0).tdiv (gcdL zs : Int)) kx _ _ _ _ sx 2 _ ((hpj.later HW).ik (by omega)) (h8.ik (by omega))).mono ?_
                  rintro e w9 ⟨b9, a9, l9, c9, rfl, h9, hb9⟩
                  replace HW := Below.step HW hb9
                  clear hb9
                  clear h8
                  refine hK.out _ _ ?_ (fun hHeld => ?_)
                  · exact ⟨(P0.later HW).facts.1, (P0.later HW).facts.2.1, (EP.later HW).facts.1, (EP.later HW).facts.2, (EQ'.later HW).facts.1, (EQ'.later HW).facts.2⟩
                  clear hK K
                  try simp only [Act.put, List.getElem_toArray, List.getElem_cons_succ, List.getElem_cons_zero, List.setIfInBounds_toArray, List.set_cons_zero, List.set_cons_succ]
                  refine till_in (i := 17) (by kernel_rfl) rfl (fun K hK => ?_)
                  go_simp
                  refine (sameK bq aq' lq cq' ((zs.getD j 0 * x).tdiv ((x.natAbs * gcdL zs : Nat) : Int)) (kx + kx) _ _ _ _ ((zs.getD j 0).tdiv (gcdL zs : Int) * sx) (kx + 2) true _ ((hqj.later HW).ik (by omega)) (h9.ik (by omega)) (unhide EQ)).mono ?_
                  rintro e w9 ⟨rfl, hb9⟩
                  replace HW := Below.step HW hb9
                  clear hb9
                  clear h9
                  refine hK.out _ _ ?_ (fun hHeld => ?_)
                  · exact ⟨(P0.later HW).facts.1, (P0.later HW).facts.2.1, (EP.later HW).facts.1, (EP.later HW).facts.2, (EQ'.later HW).facts.1, (EQ'.later HW).facts.2⟩
                  clear hK K
                  try simp only [Act.put, List.getElem_toArray, List.getElem_cons_succ, List.getElem_cons_zero, List.setIfInBounds_toArray, List.set_cons_zero, List.set_cons_succ]
                  refine till_take (i := 18) (v := ?_) [19] rfl (by kernel_rfl) (by kernel_rfl) (by kernel_rfl) (by kernel_rfl) (fun _ _ _ h => h) (Or.inl ⟨by rfl, ?_⟩) (by assumption) ?_
                  rotate_left
                  · (intro w hSw; (try dsimp only at hSw); go_simp; try with_reducible rfl)
                  simp only [Act.put, List.getElem_toArray, List.getElem_cons_succ, List.getElem_cons_zero, List.setIfInBounds_toArray, List.set_cons_zero, List.set_cons_succ]
                  refine till_out (i := 19) (by kernel_rfl) rfl (by kernel_rfl) (fun K hK => ?_)
                  go_simp
                  refine hK.out _ _ ?_
                  clear hK K
                  try simp only [Act.put, List.getElem_toArray, List.getElem_cons_succ, List.getElem_cons_zero, List.setIfInBounds_toArray, List.set_cons_zero, List.set_cons_succ]
                  refine till_done (by kernel_rfl) ?_ _
                  go_wp2
                  go_roundw
                  case rel => exact ⟨j + 1, by omega, by go_num, HW⟩
                  case measure => simp [intOf]; omega
                · replace HB := hide (Below.step (unhide HB) hW)
                  clear hW
                  go_wp2_with fail
                  refine (awake6_any _).mono ?_
                  rintro e w2 ⟨rfl, hb2⟩
                  go_wp2
                  go_ret
                  exact ⟨rfl, Below.step (unhide HB) hb2⟩
    · have hf' : q2 = false := by simpa using hf2
      subst hf'
      clear hq2 hf2 hex
      go_wp2_with fail
      refine (awake6_any _).mono ?_
      rintro e w2 ⟨rfl, hb2⟩
      go_wp2
      go_ret
      exact ⟨rfl, Below.step (unhide HB) hb2⟩
  · have hf' : q = false := by simpa using hf
    subst hf'
    clear hq hf hb1 hb0
    go_wp2_with fail
    refine (awake6_any _).mono ?_
    rintro e w2 ⟨rfl, hb2⟩
    go_wp2
    go_ret
    exact ⟨rfl, Below.step (unhide HB) hb2⟩

#print axioms bezoutPrimitive_walk
end Go.Proofs.Ytobiogedknmijaa
