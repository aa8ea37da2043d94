/-
  What Hnf of the reference tells.
-/
import Derived.Test.YtnpneloahajniaaGreatJT
import Derived.Test.YtnpneloahajniaaGreatRVFresh
import Derived.Test.YtnpneloahajniaaGreatJP
import Derived.Deep.CutRange
namespace Go.Proofs.YtnpneloahajniaaGreat
open Go.RowKit Lb
set_option maxRecDepth 20000

theorem sign_ne (x : Int) : (x.sign != 0) = decide (x ≠ 0) := by
  by_cases h : x = 0
  · subst h; rfl
  · have : x.sign ≠ 0 := fun e => h (Int.sign_eq_zero_iff_zero.1 e)
    rw [bne_iff_ne.2 this, decide_eq_true h]
theorem getD_take {l : List (List Int)} {d i : Nat} (hi : i < d) : (l.take d).getD i [] = l.getD i [] := by
  rw [List.getD_eq_getElem?_getD, List.getD_eq_getElem?_getD, List.getElem?_take_of_lt hi]
set_option maxRecDepth 40000 in
set_option maxHeartbeats 8000000 in
theorem refHnfG (ao : Option Addr) (n cap : Nat) (rs : List (List Int)) (aF bF : Nat → Nat) (N : Nat) (w : World) (h : MS w ao n cap rs (aF 0)) (hG : Grows rs n N aF bF) (hN : ∀ i, i < n → (rs.getD i []).length = N) (hn : n ≤ 1000) (hNl : N ≤ 1000) (hA : ∀ d, d ≤ n → aF d ≤ 222000) (hB : ∀ d, d ≤ n → bF d ≤ 222000) :
    Calls Tryz.prog 11 #[.slice ao n cap, .int .i64 (N : Int)] w fun e w' => ∃ a1 m c1 p hs, e = .returned (.slice a1 m c1) ∧ MF w' a1 m c1 hs 222000 ∧ HForm hs p ∧ SameL rs hs ∧ (∀ r ∈ hs, r.length = N) ∧ m ≤ n ∧ Below w.heap.size w w' := by
  have HG := hide hG
  have HS0 := hide (hbase_start (aF := aF) (bF := bF) h.len_eq hN (fun i j => ms_ent h i j))
  have HAB := hide hA
  have HBB := hide hB
  have ha := hA 0 (Nat.zero_le _)
  clear hA hB hN hG
  have hup := ms_upH h ha
  clear h ha
  go_enter Tryz.func11, Tryz.ntmps11
  have hbn := below_new w (.cells #[] 39)
  have hemp : RO (w.alloc (.cells #[] 39)) w.heap.size (some ⟨w.heap.size, 0, none⟩) 0 0 [] := ro_empty rfl (Nat.le_refl _)
  replace hup := hup.later hbn
  have hszn := hbn.size
  have HBN := hide hbn
  clear hbn
  go_wp2_with (at_builtin; (refine append_rows (R := fun w a l c zs => VS w a l c zs 222000) (steadyVH 222000) rfl (.tmp 18) (.tmp 19) 22 Tryz.underlying22 rfl w.heap.size _ 0 0 [] rfl hemp _ n cap rs rfl hup (by omega) hszn ?_))
  intro al cl w1 hown hgr1
  have hb1 : Below w.heap.size w w1 := (unhide HBN).grown hgr1 hszn hemp.ge
  replace hown : RO w1 w.heap.size al n cl rs := hown
  have HB1 := hide hb1
  clear hgr1 hemp hszn HBN hup hb1
  go_wp2_with fail
  go_loopw [6, 7] (fun s t wr => ∃ (d c : Nat) (l : List (List Int)) (pf : Nat → Nat), d ≤ n ∧ c ≤ N ∧ s = .int .i64 (d : Int) ∧ t = .int .i64 (c : Int) ∧ RO wr w.heap.size al n cl l ∧ HBase rs l c d n N pf aF bF ∧ Below w.heap.size w wr) (fun _ t _ => N - (intOf t).toNat)
  case atStart => exact ⟨0, 0, rs, _, Nat.zero_le _, Nat.zero_le _, rfl, rfl, hown, unhide HS0, unhide HB1⟩
  case round =>
    clear hown
    obtain ⟨d, c, l, pf, hdn0, hcN0, rfl, rfl, hown, hbase, hB⟩ := hrel
    have HS := hide hbase
    have HB := hide hB
    clear hbase hB
    by_cases hcN : c < N
    · have hc1 : (c : Int) < (N : Int) := by omega
      have hc0 : (0 : Int) ≤ (c : Int) := by omega
      go_wp2_with fail
      refine (leastK al n cl l 222000 N d c _ hown.mk (unhide HS).lens hcN hdn0 hn (by omega)).mono ?_
      rintro e w2 ⟨z, rfl, hz, hb9⟩
      replace hown := hown.later hb9
      replace HB := hide (Below.step (unhide HB) hb9)
      have HR := hide ((unhide HS).rnd hcN (unhide HG) hz)
      clear hb9 hz HS
      go_wp2_with fail
      go_loopg [8, 9] ((ent l z.toNat c).natAbs) (fun v s t wr => ∃ (z : Int) (b : Bool) (l2 : List (List Int)), s = .int .i64 z ∧ t = .bool b ∧ RO wr w.heap.size al n cl l2 ∧ Rnd rs l2 c d n N pf aF bF z b v ∧ Below w.heap.size w wr)
      case atStart => exact ⟨z, _, l, rfl, rfl, hown, unhide HR, unhide HB⟩
      case round =>
        clear hown HR HB
        obtain ⟨z, b, l1, rfl, rfl, hown, hrnd, hB⟩ := hrel
        have HB := hide hB
        clear hB
        rcases hrnd with ⟨rfl, hz, hb⟩ | ⟨rfl, p, rfl, hst⟩ | ⟨rfl, p, Φ, A, P, rfl, ht⟩
        · have hzq : decide (z < 0) = true := decide_eq_true hz
          have HS := hide hb
          clear hb
          go_wp2
          go_roundw
          case rel => exact ⟨d, c + 1, l1, pf, hdn0, by omega, rfl, by go_num, hown, unhide HS, unhide HB⟩
          case measure => simp [intOf]; omega
        · have hzq : decide ((p : Int) < 0) = false := decide_eq_false (by omega)
          have hzn : ¬ (p : Int) < 0 := by omega
          have hdp := hst.dp
          have hpn := hst.pn
          have hdn : d < n := by omega
          have HT := hide hst.swap
          obtain ⟨g, rfl⟩ := hown.addr (by omega)
          obtain ⟨a5, l5, c5, x5, v5⟩ := hown.at hdn
          obtain ⟨a6, l6, c6, x6, v6⟩ := hown.at hpn
          have hl5 : N = l5 := by rw [← v5.vk.len_eq]; exact (hst.lens d hdn).symm
          have hl6 : N = l6 := by rw [← v6.vk.len_eq]; exact (hst.lens p hpn).symm
          subst hl5
          subst hl6
          have hbl := hown.base_le
          have hgm := hbl.2
          have hd0 : (0 : Int) ≤ (d : Int) := by omega
          have hd1 : (d : Int) < (n : Int) := by omega
          have hp0 : (0 : Int) ≤ (p : Int) := by omega
          have hp1 : (p : Int) < (n : Int) := by omega
          clear hst
          go_upto_region 19 with fail
          go_cut [] from 104 to 117 (fun wc => ∃ lz, RO wc w.heap.size (some ⟨g, 0, none⟩) n cl lz ∧ HStop rs lz c d n N pf aF bF d ∧ Below w.heap.size w wc)
          case first =>
            have HW : Below wr.heap.size wr wr.drew := (Below.refl _ _).drew
            by_cases hdpq : d = p
            · subst hdpq
              obtain ⟨rfl, rfl⟩ : a5 = a6 ∧ c5 = c6 := by
                rw [x5] at x6
                simp only [Option.some.injEq, Value.slice.injEq, true_and] at x6
                exact x6
              refine till_start (fun w' => w'.cell? ⟨g, d, none⟩ = some (.slice a5 N c5)) 13 (by kernel_rfl) ?_ (fun hHeld => ?_)
              · exact (HW.cell (p := ⟨g, d, none⟩) hgm).trans x5
              refine till_tl (i := 0) [12, 13, 14, 15] rfl ?_
              simp only [Act.put, aGet, aZero, aSet, aHead, aTail]
              refine till_tl (i := 1) [12, 13, 14, 15] rfl ?_
              simp only [Act.put, aGet, aSucc, aZero, aSet, aHead, aTail]
              refine till_tl (i := 4) [6, 7, 12, 13, 14, 15] rfl ?_
              simp only [Act.put, aGet, aSucc, aZero, aSet, aHead, aTail]
              refine till_tl (i := 5) [6, 7, 12, 13, 14, 15] rfl ?_
              simp only [Act.put, aGet, aSucc, aZero, aSet, aHead, aTail]
              refine till_tl (i := 6) [7, 12, 13, 14, 15] rfl ?_
              simp only [Act.put, aGet, aSucc, aZero, aSet, aHead, aTail]
              refine till_tl (i := 7) [12, 13, 14, 15] rfl ?_
              simp only [Act.put, aGet, aSucc, aZero, aSet, aHead, aTail]
              refine till_tl (i := 8) [10, 11, 12, 13, 14, 15] rfl ?_
              simp only [Act.put, aGet, aSucc, aZero, aSet, aHead, aTail]
              refine till_tl (i := 9) [10, 11, 12, 13, 14, 15] rfl ?_
              simp only [Act.put, aGet, aSucc, aZero, aSet, aHead, aTail]
              refine till_tl (i := 10) [11, 12, 13, 14, 15] rfl ?_
              simp only [Act.put, aGet, aSucc, aZero, aSet, aHead, aTail]
              refine till_tl (i := 11) [12, 13, 14, 15] rfl ?_
              simp only [Act.put, aGet, aSucc, aZero, aSet, aHead, aTail]
              refine till_tl (i := 12) [13, 14, 15] rfl ?_
              simp only [Act.put, aGet, aSucc, aZero, aSet, aHead, aTail]
              refine till_fr (i := 2) (v := ?_) rfl (Or.inl ⟨by rfl, ?_⟩) ?_
              rotate_left
              · (intro w hSw; (try dsimp only at hSw); go_simp; try with_reducible rfl)
              simp only [Act.put, aGet, aSucc, aZero, aSet, aHead, aTail]
              refine till_fr (i := 3) (v := ?_) rfl (Or.inl ⟨by rfl, ?_⟩) ?_
              rotate_left
              · (intro w hSw; (try dsimp only at hSw); go_simp; try with_reducible rfl)
              simp only [Act.put, aGet, aSucc, aZero, aSet, aHead, aTail]
              have r5 := x5
              have r7 := hown.free d
              have q5 := (HW.cell (p := ⟨g, d, none⟩) hgm).trans x5
              have q7 := (hown.later HW).free d
              refine till_out (i := 13) (by kernel_rfl) rfl (by kernel_rfl) (fun K hK => ?_)
              go_simp
              refine hK.out _ _ ?_
              clear hK K
              try simp only [Act.put, aGet, aSucc, aZero, aSet, aHead, aTail]
              refine till_out (i := 14) (by kernel_rfl) rfl (by kernel_rfl) (fun K hK => ?_)
              go_simp
              refine hK.out _ _ ?_
              clear hK K
              try simp only [Act.put, aGet, aSucc, aZero, aSet, aHead, aTail]
              refine till_out (i := 15) (by kernel_rfl) rfl (by kernel_rfl) (fun K hK => ?_)
              go_simp
              refine hK.out _ _ ?_
              clear hK K
              try simp only [Act.put, aGet, aSucc, aZero, aSet, aHead, aTail]
              refine till_done (by kernel_rfl) ?_ _
              clear r5 r7 q5 q7 hHeld
              have ho1 := ro_set hown hdn v6
              have hv5 := vs_after (i := d) (v := .slice a5 N c5) hown v5
              have ho2 := ro_set ho1 hdn hv5
              have hbz := ((unhide HB).setCell (p := ⟨g, d, none⟩) (by simpa using hbl.1) (.slice a5 N c5)).setCell (p := ⟨g, d, none⟩) (by simpa using hbl.1) (.slice a5 N c5)
              have hdr : Below ((wr.setCell ⟨g, d, none⟩ (.slice a5 N c5)).setCell ⟨g, d, none⟩ (.slice a5 N c5)).heap.size ((wr.setCell ⟨g, d, none⟩ (.slice a5 N c5)).setCell ⟨g, d, none⟩ (.slice a5 N c5)) ((wr.setCell ⟨g, d, none⟩ (.slice a5 N c5)).setCell ⟨g, d, none⟩ (.slice a5 N c5)).drew := (Below.refl _ _).drew
              have ho3 := ho2.later hdr
              have HBZ := hide hbz.drew
              clear ho1 hv5 ho2 hbz hdr hown v5 v6 HW x5 x6
              go_wp2
              go_meet
              case rel => exact ⟨_, ho3, unhide HT, unhide HBZ⟩
            · have hdpn : ¬ (d : Int) = (p : Int) := by omega
              refine till_start (fun w' => w'.cell? ⟨g, d, none⟩ = some (.slice a5 N c5) ∧ w'.cell? ⟨g, p, none⟩ = some (.slice a6 N c6)) 13 (by kernel_rfl) ?_ (fun hHeld => ?_)
              · exact ⟨(HW.cell (p := ⟨g, d, none⟩) hgm).trans x5, (HW.cell (p := ⟨g, p, none⟩) hgm).trans x6⟩
              refine till_tl (i := 0) [12, 13, 14, 15] rfl ?_
              simp only [Act.put, aGet, aZero, aSet, aHead, aTail]
              refine till_tl (i := 1) [12, 13, 14, 15] rfl ?_
              simp only [Act.put, aGet, aSucc, aZero, aSet, aHead, aTail]
              refine till_tl (i := 4) [6, 7, 12, 13, 14, 15] rfl ?_
              simp only [Act.put, aGet, aSucc, aZero, aSet, aHead, aTail]
              refine till_tl (i := 5) [6, 7, 12, 13, 14, 15] rfl ?_
              simp only [Act.put, aGet, aSucc, aZero, aSet, aHead, aTail]
              refine till_tl (i := 6) [7, 12, 13, 14, 15] rfl ?_
              simp only [Act.put, aGet, aSucc, aZero, aSet, aHead, aTail]
              refine till_tl (i := 7) [12, 13, 14, 15] rfl ?_
              simp only [Act.put, aGet, aSucc, aZero, aSet, aHead, aTail]
              refine till_tl (i := 8) [10, 11, 12, 13, 14, 15] rfl ?_
              simp only [Act.put, aGet, aSucc, aZero, aSet, aHead, aTail]
              refine till_tl (i := 9) [10, 11, 12, 13, 14, 15] rfl ?_
              simp only [Act.put, aGet, aSucc, aZero, aSet, aHead, aTail]
              refine till_tl (i := 10) [11, 12, 13, 14, 15] rfl ?_
              simp only [Act.put, aGet, aSucc, aZero, aSet, aHead, aTail]
              refine till_tl (i := 11) [12, 13, 14, 15] rfl ?_
              simp only [Act.put, aGet, aSucc, aZero, aSet, aHead, aTail]
              refine till_tl (i := 12) [13, 14, 15] rfl ?_
              simp only [Act.put, aGet, aSucc, aZero, aSet, aHead, aTail]
              refine till_fr (i := 2) (v := ?_) rfl (Or.inl ⟨by rfl, ?_⟩) ?_
              rotate_left
              · (intro w hSw; (try dsimp only at hSw); go_simp; try with_reducible rfl)
              simp only [Act.put, aGet, aSucc, aZero, aSet, aHead, aTail]
              refine till_fr (i := 3) (v := ?_) rfl (Or.inl ⟨by rfl, ?_⟩) ?_
              rotate_left
              · (intro w hSw; (try dsimp only at hSw); go_simp; try with_reducible rfl)
              simp only [Act.put, aGet, aSucc, aZero, aSet, aHead, aTail]
              have r5 := x5
              have r7 := hown.free d
              have q5 := (HW.cell (p := ⟨g, d, none⟩) hgm).trans x5
              have q7 := (hown.later HW).free d
              have r6 := x6
              have r8 := hown.free p
              have q6 := (HW.cell (p := ⟨g, p, none⟩) hgm).trans x6
              have q8 := (hown.later HW).free p
              refine till_out (i := 13) (by kernel_rfl) rfl (by kernel_rfl) (fun K hK => ?_)
              go_simp
              refine hK.out _ _ ?_
              clear hK K
              try simp only [Act.put, aGet, aSucc, aZero, aSet, aHead, aTail]
              refine till_out (i := 14) (by kernel_rfl) rfl (by kernel_rfl) (fun K hK => ?_)
              go_simp
              refine hK.out _ _ ?_
              clear hK K
              try simp only [Act.put, aGet, aSucc, aZero, aSet, aHead, aTail]
              refine till_out (i := 15) (by kernel_rfl) rfl (by kernel_rfl) (fun K hK => ?_)
              go_simp
              refine hK.out _ _ ?_
              clear hK K
              try simp only [Act.put, aGet, aSucc, aZero, aSet, aHead, aTail]
              refine till_done (by kernel_rfl) ?_ _
              clear r5 r6 r7 r8 q5 q6 q7 q8 hHeld
              have ho1 := ro_set hown hdn v6
              have hv5 := vs_after (i := d) (v := .slice a6 N c6) hown v5
              have ho2 := ro_set ho1 hpn hv5
              have hbz := ((unhide HB).setCell (p := ⟨g, d, none⟩) (by simpa using hbl.1) (.slice a6 N c6)).setCell (p := ⟨g, p, none⟩) (by simpa using hbl.1) (.slice a5 N c5)
              have hdr : Below ((wr.setCell ⟨g, d, none⟩ (.slice a6 N c6)).setCell ⟨g, p, none⟩ (.slice a5 N c5)).heap.size ((wr.setCell ⟨g, d, none⟩ (.slice a6 N c6)).setCell ⟨g, p, none⟩ (.slice a5 N c5)) ((wr.setCell ⟨g, d, none⟩ (.slice a6 N c6)).setCell ⟨g, p, none⟩ (.slice a5 N c5)).drew := (Below.refl _ _).drew
              have ho3 := ho2.later hdr
              have HBZ := hide hbz.drew
              clear ho1 hv5 ho2 hbz hdr hown v5 v6 HW x5 x6
              go_wp2
              go_meet
              case rel => exact ⟨_, ho3, unhide HT, unhide HBZ⟩
          case rest =>
            clear hown HB HT v5 v6 x5 x6 hbl hgm hp0 hp1 hzq hzn hdp hpn
            obtain ⟨lz, hown, hst, hB⟩ := hcut
            have HT := hide hst
            have HB := hide hB
            clear hst hB
            obtain ⟨a5, l5, c5, x5, v5⟩ := hown.at hdn
            have hl5 : N = l5 := by rw [← v5.vk.len_eq]; exact ((unhide HT).lens d hdn).symm
            subst hl5
            obtain ⟨g5, o5, rfl⟩ := v5.vk.some (by omega)
            obtain ⟨b7, a7, l7, c7, E7, y7⟩ := v5.at hcN
            replace y7 := y7.1
            obtain ⟨f1, f2⟩ := E7.facts
            have hg5 := E7.1
            have hgm := hown.base_le.2
            obtain ⟨s, es⟩ : ∃ s, s = ((lz.getD d []).getD c 0).sign := ⟨_, rfl⟩
            go_wp2_with fail
            refine (rsignK b7 a7 l7 c7 ((lz.getD d []).getD c 0) 222000 s _ y7 es).mono ?_
            rintro e w3 ⟨rfl, hb9⟩
            replace hown := hown.later hb9
            replace HB := hide (Below.step (unhide HB) hb9)
            replace v5 := v5.later hb9
            replace x5 := (hb9.cell (p := ⟨g, d, none⟩) hgm).trans x5
            replace hgm := Nat.lt_of_lt_of_le hgm hb9.size
            clear hb9 f1 f2 hg5 E7 y7
            by_cases hneg : (lz.getD d []).getD c 0 < 0
            · have hsn : s < 0 := by rw [es, Int.sign_eq_neg_one_of_neg hneg]; omega
              have HNG := hide ((unhide HT).neg hneg)
              have HPS := hide (show 0 < ent (lz.set d (vneg (lz.getD d []))) d c from by rw [(unhide HNG).2]; show 0 < -((lz.getD d []).getD c 0); omega)
              clear es hneg
              go_wp2_with fail
              refine (rvnegK _ N c5 (lz.getD d []) 222000 _ v5 (by omega) (by omega)).mono ?_
              rintro e w4 ⟨a8, c8, rfl, h8, hb9⟩
              replace hown := hown.later hb9
              replace HB := hide (Below.step (unhide HB) hb9)
              replace x5 := (hb9.cell (p := ⟨g, d, none⟩) hgm).trans x5
              replace hgm := Nat.lt_of_lt_of_le hgm hb9.size
              have q7 := hown.free d
              have hv8 : VS w4 a8 N c8 (vneg (lz.getD d [])) 222000 := (vf_tight (k := 222000) h8 fun j _ => by have := (unhide HNG).1.up d (Nat.le_refl _) j; rw [ent_same (by rw [(unhide HT).len]; exact hdn)] at this; exact Nat.lt_of_lt_of_le this (Bp_le (unhide HAB (d + 1) (by omega)))).vs (by omega)
              have ho2 := ro_set hown hdn hv8
              have HB2 := hide ((unhide HB).setCell (p := ⟨g, d, none⟩) (by simpa using hown.base_le.1) (.slice a8 N c8))
              clear hb9 v5 h8 hv8
              have hcut : ∃ lz', RO (w4.setCell ⟨g, d, none⟩ (.slice a8 N c8)) w.heap.size (some ⟨g, 0, none⟩) n cl lz' ∧ HLow rs lz' c d n N pf aF bF 0 ∧ Below w.heap.size w (w4.setCell ⟨g, d, none⟩ (.slice a8 N c8)) := ⟨_, ho2, (unhide HNG).1.low (unhide HPS), unhide HB2⟩
              go_wp2_with fail
              clear hown HB HT x5 hgm ho2 HB2 HNG HPS
              obtain ⟨lz', hown, hlow, hB⟩ := hcut
              go_loopw [13] (fun t wr => ∃ (i : Nat) (l2 : List (List Int)), i ≤ d ∧ t = .int .i64 (i : Int) ∧ RO wr w.heap.size (some ⟨g, 0, none⟩) n cl l2 ∧ HLow rs l2 c d n N pf aF bF i ∧ Below w.heap.size w wr) (fun t _ => d - (intOf t).toNat)
              case atStart => exact ⟨0, lz', Nat.zero_le _, rfl, hown, hlow, hB⟩
              case round =>
                clear hown hlow hB
                obtain ⟨i, l2, hi, rfl, hown, hin, hB⟩ := hrel
                have HI := hide hin
                have HB := hide hB
                clear hin hB
                by_cases hlt : i < d
                · have hi0 : (0 : Int) ≤ (i : Int) := by omega
                  have hi1 : (i : Int) < (d : Int) := by omega
                  have hi2 : (i : Int) < (n : Int) := by omega
                  have H0 := hide (show (l2.getD d []).getD c 0 ≠ 0 from fun e => by
                    have h1 := (unhide HI).pos
                    rw [show ent l2 d c = 0 from e] at h1
                    omega)
                  obtain ⟨a5, l5, c5, x5, v5⟩ := hown.at (show i < n by omega)
                  have hl5 : N = l5 := by rw [← v5.vk.len_eq]; exact ((unhide HI).lens i (by omega)).symm
                  subst hl5
                  obtain ⟨g5, o5, rfl⟩ := v5.vk.some (by omega)
                  obtain ⟨b7, a7, l7, c7, E7, y7⟩ := v5.at hcN
                  replace y7 := y7.1
                  obtain ⟨a6, l6, c6, x6, v6⟩ := hown.at hdn
                  have hl6 : N = l6 := by rw [← v6.vk.len_eq]; exact ((unhide HI).lens d hdn).symm
                  subst hl6
                  obtain ⟨g6, o6, rfl⟩ := v6.vk.some (by omega)
                  obtain ⟨b8, a8, l8, c8, E8, y8⟩ := v6.at hcN
                  replace y8 := y8.1
                  have hgm := hown.base_le.2
                  go_upto_region 25 with fail
                  as_aux_lemma =>
                    have HW : Below wr.heap.size wr wr.drew := (Below.refl _ _).drew
                    refine till_start (fun w' => w'.cell? ⟨g, i, none⟩ = some (.slice (some ⟨g5, o5, none⟩) N c5) ∧ w'.cell? ⟨g, d, none⟩ = some (.slice (some ⟨g6, o6, none⟩) N c6) ∧ w'.cell? ⟨g5, o5 + c * 2, none⟩ = some (.bool b7) ∧ w'.cell? ⟨g5, o5 + c * 2 + 1, none⟩ = some (.slice a7 l7 c7) ∧ w'.cell? ⟨g6, o6 + c * 2, none⟩ = some (.bool b8) ∧ w'.cell? ⟨g6, o6 + c * 2 + 1, none⟩ = some (.slice a8 l8 c8)) 20 (by kernel_rfl) ?_ (fun hHeld => ?_)
                    · exact ⟨(HW.cell (p := ⟨g, i, none⟩) hgm).trans x5, (HW.cell (p := ⟨g, d, none⟩) hgm).trans x6, (E7.later HW).facts.1, (E7.later HW).facts.2, (E8.later HW).facts.1, (E8.later HW).facts.2⟩
                    obtain ⟨vd1, hvd⟩ : ∃ v, v = wr.drew := ⟨_, rfl⟩
                    rw [← hvd] at HW hHeld ⊢
                    clear hvd
                    refine till_fl (i := 0) rfl ?_
                    simp only [Act.put, aGet, aZero, aSet, aHead, aTail]
                    refine till_fl (i := 1) rfl ?_
                    simp only [Act.put, aGet, aSucc, aZero, aSet, aHead, aTail]
                    refine till_tm (i := 2) [3, 5, 6, 14, 15, 16, 17, 20, 21] rfl ?_
                    simp only [Act.put, aGet, aSucc, aZero, aSet, aHead, aTail]
                    refine till_tm (i := 3) [5, 6, 14, 15, 16, 17, 20, 21] rfl ?_
                    simp only [Act.put, aGet, aSucc, aZero, aSet, aHead, aTail]
                    refine till_fl (i := 4) rfl ?_
                    simp only [Act.put, aGet, aSucc, aZero, aSet, aHead, aTail]
                    refine till_tm (i := 5) [6, 14, 15, 16, 17, 20, 21] rfl ?_
                    simp only [Act.put, aGet, aSucc, aZero, aSet, aHead, aTail]
                    refine till_tm (i := 6) [14, 15, 16, 17, 20, 21] rfl ?_
                    simp only [Act.put, aGet, aSucc, aZero, aSet, aHead, aTail]
                    refine till_fl (i := 7) rfl ?_
                    simp only [Act.put, aGet, aSucc, aZero, aSet, aHead, aTail]
                    refine till_fl (i := 8) rfl ?_
                    simp only [Act.put, aGet, aSucc, aZero, aSet, aHead, aTail]
                    refine till_tm (i := 9) [10, 12, 13, 14, 15, 16, 17, 20, 21] rfl ?_
                    simp only [Act.put, aGet, aSucc, aZero, aSet, aHead, aTail]
                    refine till_tm (i := 10) [12, 13, 14, 15, 16, 17, 20, 21] rfl ?_
                    simp only [Act.put, aGet, aSucc, aZero, aSet, aHead, aTail]
                    refine till_fl (i := 11) rfl ?_
                    simp only [Act.put, aGet, aSucc, aZero, aSet, aHead, aTail]
                    refine till_tm (i := 12) [13, 14, 15, 16, 17, 20, 21] rfl ?_
                    simp only [Act.put, aGet, aSucc, aZero, aSet, aHead, aTail]
                    refine till_tm (i := 13) [14, 15, 16, 17, 20, 21] rfl ?_
                    simp only [Act.put, aGet, aSucc, aZero, aSet, aHead, aTail]
                    refine till_name (fun act0 hact0 => ?_)
                    have HA := hide hact0
                    clear hact0
                    refine till_mid 2 #[true, true, true, true, true, true, true, true, true, true, true, true, true, true, true, true, true, true, true, true, false, false] (ι := Bool × Option Addr × Nat × Nat × Bool × Option Addr × Nat × Nat × Nat × Nat) (fun (b9, a9, l9, c9, b10, a10, l10, c10, g9, g10) => ((((((act0.put (some 155) (.tuple #[.agg #[.bool b9, .slice a9 l9 c9], .agg #[.bool b10, .slice a10 l10 c10]])).put (some 140) (.tuple #[.agg #[.bool b9, .slice a9 l9 c9], .agg #[.bool b10, .slice a10 l10 c10]])).put (some 156) (.agg #[.bool b9, .slice a9 l9 c9])).put (some 157) (.agg #[.bool b10, .slice a10 l10 c10])).put (some 14) ((.pointer (some ⟨g9, 0, none⟩)))).put (some 15) ((.pointer (some ⟨g10, 0, none⟩))))) (fun (b9, a9, l9, c9, b10, a10, l10, c10, g9, g10) wz => Below wr.heap.size wr wz ∧ FK wz b9 a9 l9 c9 ((l2.getD i []).getD c 0 / (l2.getD d []).getD c 0) 222000 ∧ FK wz b10 a10 l10 c10 ((l2.getD i []).getD c 0 % (l2.getD d []).getD c 0) 222000 ∧ Box wz g9 false none 0 0 ∧ wr.heap.size ≤ g9 ∧ Box wz g10 false none 0 0 ∧ wr.heap.size ≤ g10 ∧ g9 ≠ g10) ?_ (fun J0 => ?_)
                    · rintro ⟨b9, a9, l9, c9, b10, a10, l10, c10, g9, g10⟩ wj hI
                      try dsimp only at hI ⊢
                      obtain ⟨HW, h9, h10, B9, hg9, B10, hg10, hneg9g10⟩ := hI
                      have hHeld : wj.cell? ⟨g, i, none⟩ = some (.slice (some ⟨g5, o5, none⟩) N c5) ∧ wj.cell? ⟨g, d, none⟩ = some (.slice (some ⟨g6, o6, none⟩) N c6) ∧ wj.cell? ⟨g5, o5 + c * 2, none⟩ = some (.bool b7) ∧ wj.cell? ⟨g5, o5 + c * 2 + 1, none⟩ = some (.slice a7 l7 c7) ∧ wj.cell? ⟨g6, o6 + c * 2, none⟩ = some (.bool b8) ∧ wj.cell? ⟨g6, o6 + c * 2 + 1, none⟩ = some (.slice a8 l8 c8) := by exact ⟨(HW.cell (p := ⟨g, i, none⟩) hgm).trans x5, (HW.cell (p := ⟨g, d, none⟩) hgm).trans x6, (E7.later HW).facts.1, (E7.later HW).facts.2, (E8.later HW).facts.1, (E8.later HW).facts.2⟩
                      rw [unhide HA]
                      simp only [Act.put, aSet, aHead, aTail]
                      obtain ⟨q1B9, q2B9, q3B9, q4B9⟩ := B9.facts
                      have hltB9 := B9.lt
                      obtain ⟨q1B10, q2B10, q3B10, q4B10⟩ := B10.facts
                      have hltB10 := B10.lt
                      refine till_out (i := 20) (by kernel_rfl) rfl (by kernel_rfl) (fun K hK => ?_)
                      go_simp
                      refine hK.out _ _ ?_
                      clear hK K
                      try simp only [aSet, aHead, aTail]
                      refine till_out (i := 21) (by kernel_rfl) rfl (by kernel_rfl) (fun K hK => ?_)
                      go_simp
                      refine hK.out _ _ ?_
                      clear hK K
                      try simp only [aSet, aHead, aTail]
                      refine till_done (by kernel_rfl) ?_ _
                      have n7 := B9.noLimb
                      have n8 := (B10.other (g' := g9) (Ne.symm hneg9g10) b9 a9 l9 c9).noLimb
                      obtain ⟨W8, hW8⟩ : ∃ W8, W8 = ((((wj.setCell ⟨g9, 0, none⟩ (.bool b9)).setCell ⟨g9, 1, none⟩ (.slice a9 l9 c9)).setCell ⟨g10, 0, none⟩ (.bool b10)).setCell ⟨g10, 1, none⟩ (.slice a10 l10 c10)) := ⟨_, rfl⟩
                      rw [← hW8]
                      have Bq : Box W8 g9 b9 a9 l9 c9 := by rw [hW8]; exact (B9.put b9 a9 l9 c9).other (g' := g10) hneg9g10 b10 a10 l10 c10
                      have hQ : FK W8 b9 a9 l9 c9 ((l2.getD i []).getD c 0 / (l2.getD d []).getD c 0) 222000 := by rw [hW8]; exact (h9.put n7 b9 a9 l9 c9).put n8 b10 a10 l10 c10
                      have HC : Below wr.heap.size wr W8 := by rw [hW8]; exact below_put (below_put HW hg9 _ _ _ _) hg10 _ _ _ _
                      clear hW8 HW hHeld B9 B10 n7 n8 h9 h10 hltB9 hltB10 q1B9 q2B9 q3B9 q4B9 q1B10 q2B10 q3B10 q4B10
                      obtain ⟨qz, eqz⟩ : ∃ qz, qz = ((l2.getD i []).getD c 0 / (l2.getD d []).getD c 0) := ⟨_, rfl⟩
                      rw [← eqz] at hQ
                      have EQZ := hide eqz
                      clear eqz
                      replace HB := hide (Below.step (unhide HB) HC)
                      replace hown := hown.later HC
                      replace v5 := v5.later HC
                      replace v6 := v6.later HC
                      replace x5 := (HC.cell (p := ⟨g, i, none⟩) hgm).trans x5
                      replace x6 := (HC.cell (p := ⟨g, d, none⟩) hgm).trans x6
                      replace hgm := Nat.lt_of_lt_of_le hgm HC.size
                      clear HC E7 E8 y7 y8
                      obtain ⟨f1, f2, _, _⟩ := Bq.facts
                      have hsQ := Bq.lt
                      go_upto_region 26 with fail
                      have HW : Below W8.heap.size W8 W8.drew := (Below.refl _ _).drew
                      refine till_start (fun w' => w'.cell? ⟨g, i, none⟩ = some (.slice (some ⟨g5, o5, none⟩) N c5) ∧ w'.cell? ⟨g, d, none⟩ = some (.slice (some ⟨g6, o6, none⟩) N c6) ∧ w'.cell? ⟨g9, 0, none⟩ = some (.bool b9) ∧ w'.cell? ⟨g9, 1, none⟩ = some (.slice a9 l9 c9)) 14 (by kernel_rfl) ?_ (fun hHeld => ?_)
                      · exact ⟨(HW.cell (p := ⟨g, i, none⟩) hgm).trans x5, (HW.cell (p := ⟨g, d, none⟩) hgm).trans x6, (Bq.later HW).facts.1, (Bq.later HW).facts.2.1⟩
                      refine till_tl (i := 0) [13, 14] rfl ?_
                      simp only [Act.put, aGet, aZero, aSet, aHead, aTail]
                      refine till_tl (i := 1) [13, 14] rfl ?_
                      simp only [Act.put, aGet, aSucc, aZero, aSet, aHead, aTail]
                      refine till_tl (i := 2) [4, 5, 12, 13, 14] rfl ?_
                      simp only [Act.put, aGet, aSucc, aZero, aSet, aHead, aTail]
                      refine till_tl (i := 3) [4, 5, 12, 13, 14] rfl ?_
                      simp only [Act.put, aGet, aSucc, aZero, aSet, aHead, aTail]
                      refine till_tl (i := 4) [5, 12, 13, 14] rfl ?_
                      simp only [Act.put, aGet, aSucc, aZero, aSet, aHead, aTail]
                      refine till_tl (i := 5) [12, 13, 14] rfl ?_
                      simp only [Act.put, aGet, aSucc, aZero, aSet, aHead, aTail]
                      refine till_tl (i := 6) [8, 9, 11, 12, 13, 14] rfl ?_
                      simp only [Act.put, aGet, aSucc, aZero, aSet, aHead, aTail]
                      refine till_tl (i := 7) [8, 9, 11, 12, 13, 14] rfl ?_
                      simp only [Act.put, aGet, aSucc, aZero, aSet, aHead, aTail]
                      refine till_tl (i := 8) [9, 11, 12, 13, 14] rfl ?_
                      simp only [Act.put, aGet, aSucc, aZero, aSet, aHead, aTail]
                      refine till_tl (i := 9) [11, 12, 13, 14] rfl ?_
                      simp only [Act.put, aGet, aSucc, aZero, aSet, aHead, aTail]
                      refine till_tl (i := 10) [11, 12, 13, 14] rfl ?_
                      simp only [Act.put, aGet, aSucc, aZero, aSet, aHead, aTail]
                      refine till_in (i := 11) (by kernel_rfl) rfl (fun K hK => ?_)
                      go_simp
                      refine (rvtimesK _ _ _ (l2.getD d []) 222000 b9 a9 l9 c9 qz 222000 _ (v6.later HW) ((hQ.later HW).sk (by omega)) (by omega) (by omega) (by omega)).mono ?_
                      rintro e w8 ⟨a11, c11, rfl, h11, hb9⟩
                      replace HW := Below.step HW hb9
                      clear hb9
                      refine hK.out _ _ ?_ (fun hHeld => ?_)
                      · exact ⟨(HW.cell (p := ⟨g, i, none⟩) hgm).trans x5, (HW.cell (p := ⟨g, d, none⟩) hgm).trans x6, (Bq.later HW).facts.1, (Bq.later HW).facts.2.1⟩
                      clear hK K
                      try simp only [Act.put, aGet, aSucc, aZero, aSet, aHead, aTail]
                      refine till_in (i := 12) (by kernel_rfl) rfl (fun K hK => ?_)
                      go_simp
                      refine (rvsubK _ _ _ (l2.getD i []) 222000 _ _ _ (vtimes (l2.getD d []) qz) (222000 + 222000) _ ((v5.later HW).vk) (h11.vs (by omega)) (by omega) (by omega) (by omega) (by omega)).mono ?_
                      rintro e w9 ⟨a12, c12, rfl, h12, hb9⟩
                      rw [Nat.max_self] at h12
                      (try rw [Nat.max_self])
                      replace HW := Below.step HW hb9
                      clear hb9 h11
                      refine hK.out _ _ ?_ (fun hHeld => ?_)
                      · exact ⟨(HW.cell (p := ⟨g, i, none⟩) hgm).trans x5, (HW.cell (p := ⟨g, d, none⟩) hgm).trans x6, (Bq.later HW).facts.1, (Bq.later HW).facts.2.1⟩
                      clear hK K
                      try simp only [Act.put, aGet, aSucc, aZero, aSet, aHead, aTail]
                      refine till_tl (i := 13) [14] rfl ?_
                      simp only [Act.put, aGet, aSucc, aZero, aSet, aHead, aTail]
                      have q5 := (HW.cell (p := ⟨g, i, none⟩) hgm).trans x5
                      have q7 := (hown.later HW).free i
                      refine till_out (i := 14) (by kernel_rfl) rfl (by kernel_rfl) (fun K hK => ?_)
                      go_simp
                      refine hK.out _ _ ?_
                      clear hK K
                      try simp only [Act.put, aGet, aSucc, aZero, aSet, aHead, aTail]
                      refine till_done (by kernel_rfl) ?_ _
                      clear q5 q7 hHeld f1 f2 hsQ Bq hQ
                      replace hown := hown.later HW
                      replace HB := hide (Below.step (unhide HB) HW)
                      clear HW v5 v6 x5 x6
                      have hr : ∀ j, (vsub (l2.getD i []) (vtimes (l2.getD d []) qz)).getD j 0 = ent l2 i j - ent l2 i c / ent l2 d c * ent l2 d j := fun j => by rw [vsub_at, vtimes_at, unhide EQZ, Int.mul_comm]; rfl
                      have hrl : (vsub (l2.getD i []) (vtimes (l2.getD d []) qz)).length = N := by rw [vsub_len, vtimes_len, (unhide HI).lens i (by omega), (unhide HI).lens d hdn, Nat.max_self]
                      obtain ⟨r, er⟩ : ∃ r, r = vsub (l2.getD i []) (vtimes (l2.getD d []) qz) := ⟨_, rfl⟩
                      rw [← er] at hr hrl h12
                      have HI2 := hide ((unhide HI).step (unhide HG) hlt hr hrl)
                      have hvr : VS w9 a12 N c12 r 222000 := (vf_tight (k := 222000) h12 fun j _ => by have := (unhide HI2).lo2 i (by omega) j; rw [ent_same (by rw [(unhide HI).len]; omega)] at this; exact Nat.lt_of_lt_of_le this (Bp_le (unhide HBB (d + 1) (by omega)))).vs (by omega)
                      have ho2 := ro_set hown (show i < n by omega) hvr
                      have HB2 := hide ((unhide HB).setCell (p := ⟨g, i, none⟩) (by simpa using hown.base_le.1) (.slice a12 N c12))
                      clear er hr hrl h12 hvr
                      go_wp2
                      go_roundw
                      case rel => exact ⟨i + 1, _, by omega, by go_num, ho2, unhide HI2, unhide HB2⟩
                      case measure => simp [intOf]; omega
                    refine till_mid 3 #[true, true, true, true, true, true, true, true, true, true, true, true, true, true, true, true, true, true, false, true, false, false] (ι := Bool × Option Addr × Nat × Nat × Bool × Option Addr × Nat × Nat × Nat) (fun (b9, a9, l9, c9, b10, a10, l10, c10, g10) => (((((act0.put (some 155) (.tuple #[.agg #[.bool b9, .slice a9 l9 c9], .agg #[.bool b10, .slice a10 l10 c10]])).put (some 140) (.tuple #[.agg #[.bool b9, .slice a9 l9 c9], .agg #[.bool b10, .slice a10 l10 c10]])).put (some 156) (.agg #[.bool b9, .slice a9 l9 c9])).put (some 157) (.agg #[.bool b10, .slice a10 l10 c10])).put (some 15) ((.pointer (some ⟨g10, 0, none⟩))))) (fun (b9, a9, l9, c9, b10, a10, l10, c10, g10) wz => Below wr.heap.size wr wz ∧ FK wz b9 a9 l9 c9 ((l2.getD i []).getD c 0 / (l2.getD d []).getD c 0) 222000 ∧ FK wz b10 a10 l10 c10 ((l2.getD i []).getD c 0 % (l2.getD d []).getD c 0) 222000 ∧ Box wz g10 false none 0 0 ∧ wr.heap.size ≤ g10) ?_ (fun J1 => ?_)
                    · rintro ⟨b9, a9, l9, c9, b10, a10, l10, c10, g10⟩ wj hI
                      try dsimp only at hI ⊢
                      obtain ⟨HW, h9, h10, B10, hg10⟩ := hI
                      have hHeld : wj.cell? ⟨g, i, none⟩ = some (.slice (some ⟨g5, o5, none⟩) N c5) ∧ wj.cell? ⟨g, d, none⟩ = some (.slice (some ⟨g6, o6, none⟩) N c6) ∧ wj.cell? ⟨g5, o5 + c * 2, none⟩ = some (.bool b7) ∧ wj.cell? ⟨g5, o5 + c * 2 + 1, none⟩ = some (.slice a7 l7 c7) ∧ wj.cell? ⟨g6, o6 + c * 2, none⟩ = some (.bool b8) ∧ wj.cell? ⟨g6, o6 + c * 2 + 1, none⟩ = some (.slice a8 l8 c8) := by exact ⟨(HW.cell (p := ⟨g, i, none⟩) hgm).trans x5, (HW.cell (p := ⟨g, d, none⟩) hgm).trans x6, (E7.later HW).facts.1, (E7.later HW).facts.2, (E8.later HW).facts.1, (E8.later HW).facts.2⟩
                      rw [unhide HA]
                      simp only [Act.put, aSet, aHead, aTail]
                      refine till_in (i := 18) (by kernel_rfl) rfl (fun K hK => ?_)
                      go_simp
                      have hwk : wr.heap.size ≤ wj.heap.size := HW.size
                      have hxg10 := B10.lt
                      obtain ⟨wk, hWe⟩ : ∃ W', W' = wj.alloc (.cells #[.bool false, .slice none 0 0] 45) := ⟨_, rfl⟩
                      obtain ⟨B9, hb9⟩ := boxes1 wj false none 0 0 hWe
                      rw [← hWe]
                      clear hWe
                      replace HW := Below.step HW hb9
                      replace h9 := h9.later hb9
                      replace h10 := h10.later hb9
                      replace B10 := B10.later hb9
                      clear hb9
                      have hg9 := hwk
                      have hneg9g10 : wj.heap.size ≠ g10 := by omega
                      refine hK.out _ _ ?_ (fun hHeld => ?_)
                      · exact ⟨(HW.cell (p := ⟨g, i, none⟩) hgm).trans x5, (HW.cell (p := ⟨g, d, none⟩) hgm).trans x6, (E7.later HW).facts.1, (E7.later HW).facts.2, (E8.later HW).facts.1, (E8.later HW).facts.2⟩
                      clear hK K
                      try simp only [aSet, aHead, aTail]
                      exact till_go J0 (b9, a9, l9, c9, b10, a10, l10, c10, wj.heap.size, g10) rfl (by kernel_rfl) (by (try dsimp only); rw [unhide HA]; simp only [Act.put, aSet, aHead, aTail]) (by (try dsimp only); exact ⟨HW, h9, h10, B9, hg9, B10, hg10, hneg9g10⟩)
                    refine till_mid 3 #[true, true, true, true, true, true, true, true, true, true, true, true, true, true, true, true, true, true, true, false, false, false] (ι := Bool × Option Addr × Nat × Nat × Bool × Option Addr × Nat × Nat × Nat) (fun (b9, a9, l9, c9, b10, a10, l10, c10, g9) => (((((act0.put (some 155) (.tuple #[.agg #[.bool b9, .slice a9 l9 c9], .agg #[.bool b10, .slice a10 l10 c10]])).put (some 140) (.tuple #[.agg #[.bool b9, .slice a9 l9 c9], .agg #[.bool b10, .slice a10 l10 c10]])).put (some 156) (.agg #[.bool b9, .slice a9 l9 c9])).put (some 157) (.agg #[.bool b10, .slice a10 l10 c10])).put (some 14) ((.pointer (some ⟨g9, 0, none⟩))))) (fun (b9, a9, l9, c9, b10, a10, l10, c10, g9) wz => Below wr.heap.size wr wz ∧ FK wz b9 a9 l9 c9 ((l2.getD i []).getD c 0 / (l2.getD d []).getD c 0) 222000 ∧ FK wz b10 a10 l10 c10 ((l2.getD i []).getD c 0 % (l2.getD d []).getD c 0) 222000 ∧ Box wz g9 false none 0 0 ∧ wr.heap.size ≤ g9) ?_ (fun J2 => ?_)
                    · rintro ⟨b9, a9, l9, c9, b10, a10, l10, c10, g9⟩ wj hI
                      try dsimp only at hI ⊢
                      obtain ⟨HW, h9, h10, B9, hg9⟩ := hI
                      have hHeld : wj.cell? ⟨g, i, none⟩ = some (.slice (some ⟨g5, o5, none⟩) N c5) ∧ wj.cell? ⟨g, d, none⟩ = some (.slice (some ⟨g6, o6, none⟩) N c6) ∧ wj.cell? ⟨g5, o5 + c * 2, none⟩ = some (.bool b7) ∧ wj.cell? ⟨g5, o5 + c * 2 + 1, none⟩ = some (.slice a7 l7 c7) ∧ wj.cell? ⟨g6, o6 + c * 2, none⟩ = some (.bool b8) ∧ wj.cell? ⟨g6, o6 + c * 2 + 1, none⟩ = some (.slice a8 l8 c8) := by exact ⟨(HW.cell (p := ⟨g, i, none⟩) hgm).trans x5, (HW.cell (p := ⟨g, d, none⟩) hgm).trans x6, (E7.later HW).facts.1, (E7.later HW).facts.2, (E8.later HW).facts.1, (E8.later HW).facts.2⟩
                      rw [unhide HA]
                      simp only [Act.put, aSet, aHead, aTail]
                      refine till_in (i := 19) (by kernel_rfl) rfl (fun K hK => ?_)
                      go_simp
                      have hwk : wr.heap.size ≤ wj.heap.size := HW.size
                      have hxg9 := B9.lt
                      obtain ⟨wk, hWe⟩ : ∃ W', W' = wj.alloc (.cells #[.bool false, .slice none 0 0] 45) := ⟨_, rfl⟩
                      obtain ⟨B10, hb9⟩ := boxes1 wj false none 0 0 hWe
                      rw [← hWe]
                      clear hWe
                      replace HW := Below.step HW hb9
                      replace h9 := h9.later hb9
                      replace h10 := h10.later hb9
                      replace B9 := B9.later hb9
                      clear hb9
                      have hg10 := hwk
                      have hneg9g10 : g9 ≠ wj.heap.size := by omega
                      refine hK.out _ _ ?_ (fun hHeld => ?_)
                      · exact ⟨(HW.cell (p := ⟨g, i, none⟩) hgm).trans x5, (HW.cell (p := ⟨g, d, none⟩) hgm).trans x6, (E7.later HW).facts.1, (E7.later HW).facts.2, (E8.later HW).facts.1, (E8.later HW).facts.2⟩
                      clear hK K
                      try simp only [aSet, aHead, aTail]
                      exact till_go J0 (b9, a9, l9, c9, b10, a10, l10, c10, g9, wj.heap.size) rfl (by kernel_rfl) (by (try dsimp only); rw [unhide HA]; simp only [Act.put, aSet, aHead, aTail]) (by (try dsimp only); exact ⟨HW, h9, h10, B9, hg9, B10, hg10, hneg9g10⟩)
                    refine till_mid 4 #[true, true, true, true, true, true, true, true, true, true, true, true, true, true, true, true, true, true, false, false, false, false] (ι := Bool × Option Addr × Nat × Nat × Bool × Option Addr × Nat × Nat) (fun (b9, a9, l9, c9, b10, a10, l10, c10) => ((((act0.put (some 155) (.tuple #[.agg #[.bool b9, .slice a9 l9 c9], .agg #[.bool b10, .slice a10 l10 c10]])).put (some 140) (.tuple #[.agg #[.bool b9, .slice a9 l9 c9], .agg #[.bool b10, .slice a10 l10 c10]])).put (some 156) (.agg #[.bool b9, .slice a9 l9 c9])).put (some 157) (.agg #[.bool b10, .slice a10 l10 c10]))) (fun (b9, a9, l9, c9, b10, a10, l10, c10) wz => Below wr.heap.size wr wz ∧ FK wz b9 a9 l9 c9 ((l2.getD i []).getD c 0 / (l2.getD d []).getD c 0) 222000 ∧ FK wz b10 a10 l10 c10 ((l2.getD i []).getD c 0 % (l2.getD d []).getD c 0) 222000) ?_ (fun J3 => ?_)
                    · rintro ⟨b9, a9, l9, c9, b10, a10, l10, c10⟩ wj hI
                      try dsimp only at hI ⊢
                      obtain ⟨HW, h9, h10⟩ := hI
                      have hHeld : wj.cell? ⟨g, i, none⟩ = some (.slice (some ⟨g5, o5, none⟩) N c5) ∧ wj.cell? ⟨g, d, none⟩ = some (.slice (some ⟨g6, o6, none⟩) N c6) ∧ wj.cell? ⟨g5, o5 + c * 2, none⟩ = some (.bool b7) ∧ wj.cell? ⟨g5, o5 + c * 2 + 1, none⟩ = some (.slice a7 l7 c7) ∧ wj.cell? ⟨g6, o6 + c * 2, none⟩ = some (.bool b8) ∧ wj.cell? ⟨g6, o6 + c * 2 + 1, none⟩ = some (.slice a8 l8 c8) := by exact ⟨(HW.cell (p := ⟨g, i, none⟩) hgm).trans x5, (HW.cell (p := ⟨g, d, none⟩) hgm).trans x6, (E7.later HW).facts.1, (E7.later HW).facts.2, (E8.later HW).facts.1, (E8.later HW).facts.2⟩
                      rw [unhide HA]
                      simp only [Act.put, aSet, aHead, aTail]
                      refine till_two (i := 18) (j := 19) (by kernel_rfl) rfl rfl (fun K hK => ?_) (fun K hK => ?_)
                      · go_simp
                        have hwk : wr.heap.size ≤ wj.heap.size := HW.size
                        obtain ⟨wk, hWe⟩ : ∃ W', W' = wj.alloc (.cells #[.bool false, .slice none 0 0] 45) := ⟨_, rfl⟩
                        obtain ⟨B9, hb9⟩ := boxes1 wj false none 0 0 hWe
                        rw [← hWe]
                        clear hWe
                        replace HW := Below.step HW hb9
                        replace h9 := h9.later hb9
                        replace h10 := h10.later hb9
                        clear hb9
                        have hg9 := hwk
                        refine hK.out _ _ ?_ (fun hHeld => ?_)
                        · exact ⟨(HW.cell (p := ⟨g, i, none⟩) hgm).trans x5, (HW.cell (p := ⟨g, d, none⟩) hgm).trans x6, (E7.later HW).facts.1, (E7.later HW).facts.2, (E8.later HW).facts.1, (E8.later HW).facts.2⟩
                        clear hK K
                        try simp only [aSet, aHead, aTail]
                        exact till_go J2 (b9, a9, l9, c9, b10, a10, l10, c10, wj.heap.size) rfl (by kernel_rfl) (by (try dsimp only); rw [unhide HA]; simp only [Act.put, aSet, aHead, aTail]) (by (try dsimp only); exact ⟨HW, h9, h10, B9, hg9⟩)
                      · go_simp
                        have hwk : wr.heap.size ≤ wj.heap.size := HW.size
                        obtain ⟨wk, hWe⟩ : ∃ W', W' = wj.alloc (.cells #[.bool false, .slice none 0 0] 45) := ⟨_, rfl⟩
                        obtain ⟨B10, hb9⟩ := boxes1 wj false none 0 0 hWe
                        rw [← hWe]
                        clear hWe
                        replace HW := Below.step HW hb9
                        replace h9 := h9.later hb9
                        replace h10 := h10.later hb9
                        clear hb9
                        have hg10 := hwk
                        refine hK.out _ _ ?_ (fun hHeld => ?_)
                        · exact ⟨(HW.cell (p := ⟨g, i, none⟩) hgm).trans x5, (HW.cell (p := ⟨g, d, none⟩) hgm).trans x6, (E7.later HW).facts.1, (E7.later HW).facts.2, (E8.later HW).facts.1, (E8.later HW).facts.2⟩
                        clear hK K
                        try simp only [aSet, aHead, aTail]
                        exact till_go J1 (b9, a9, l9, c9, b10, a10, l10, c10, wj.heap.size) rfl (by kernel_rfl) (by (try dsimp only); rw [unhide HA]; simp only [Act.put, aSet, aHead, aTail]) (by (try dsimp only); exact ⟨HW, h9, h10, B10, hg10⟩)
                    refine till_mid 6 #[true, true, true, true, true, true, true, true, true, true, true, true, true, true, false, false, false, false, true, true, false, false] (ι := Nat × Nat) (fun (g9, g10) => ((act0.put (some 14) ((.pointer (some ⟨g9, 0, none⟩)))).put (some 15) ((.pointer (some ⟨g10, 0, none⟩))))) (fun (g9, g10) wz => Below wr.heap.size wr wz ∧ Box wz g9 false none 0 0 ∧ wr.heap.size ≤ g9 ∧ Box wz g10 false none 0 0 ∧ wr.heap.size ≤ g10 ∧ g9 ≠ g10) ?_ (fun J4 => ?_)
                    · rintro ⟨g9, g10⟩ wj hI
                      try dsimp only at hI ⊢
                      obtain ⟨HW, B9, hg9, B10, hg10, hneg9g10⟩ := hI
                      have hHeld : wj.cell? ⟨g, i, none⟩ = some (.slice (some ⟨g5, o5, none⟩) N c5) ∧ wj.cell? ⟨g, d, none⟩ = some (.slice (some ⟨g6, o6, none⟩) N c6) ∧ wj.cell? ⟨g5, o5 + c * 2, none⟩ = some (.bool b7) ∧ wj.cell? ⟨g5, o5 + c * 2 + 1, none⟩ = some (.slice a7 l7 c7) ∧ wj.cell? ⟨g6, o6 + c * 2, none⟩ = some (.bool b8) ∧ wj.cell? ⟨g6, o6 + c * 2 + 1, none⟩ = some (.slice a8 l8 c8) := by exact ⟨(HW.cell (p := ⟨g, i, none⟩) hgm).trans x5, (HW.cell (p := ⟨g, d, none⟩) hgm).trans x6, (E7.later HW).facts.1, (E7.later HW).facts.2, (E8.later HW).facts.1, (E8.later HW).facts.2⟩
                      rw [unhide HA]
                      simp only [Act.put, aSet, aHead, aTail]
                      refine till_in (i := 14) (by kernel_rfl) rfl (fun K hK => ?_)
                      go_simp
                      refine (rdivK b7 a7 l7 c7 ((l2.getD i []).getD c 0) 222000 b8 a8 l8 c8 ((l2.getD d []).getD c 0) 222000 _ (y7.later HW) (y8.later HW) (unhide H0) (by omega) (by omega)).mono ?_
                      rintro e wk ⟨b9, a9, l9, c9, b10, a10, l10, c10, rfl, h9, h10, hb9⟩
                      replace HW := Below.step HW hb9
                      replace B9 := B9.later hb9
                      replace B10 := B10.later hb9
                      clear hb9
                      refine hK.out _ _ ?_ (fun hHeld => ?_)
                      · exact ⟨(HW.cell (p := ⟨g, i, none⟩) hgm).trans x5, (HW.cell (p := ⟨g, d, none⟩) hgm).trans x6, (E7.later HW).facts.1, (E7.later HW).facts.2, (E8.later HW).facts.1, (E8.later HW).facts.2⟩
                      clear hK K
                      try simp only [aSet, aHead, aTail]
                      refine till_fl (i := 15) rfl ?_
                      simp only [Act.put, aGet, aSucc, aZero, aSet, aHead, aTail]
                      refine till_fl (i := 16) rfl ?_
                      simp only [Act.put, aGet, aSucc, aZero, aSet, aHead, aTail]
                      refine till_fl (i := 17) rfl ?_
                      simp only [Act.put, aGet, aSucc, aZero, aSet, aHead, aTail]
                      exact till_go J0 (b9, a9, l9, c9, b10, a10, l10, c10, g9, g10) rfl (by kernel_rfl) (by (try dsimp only); rw [unhide HA]; simp only [Act.put, aSet, aHead, aTail]) (by (try dsimp only); exact ⟨HW, h9, h10, B9, hg9, B10, hg10, hneg9g10⟩)
                    refine till_mid 7 #[true, true, true, true, true, true, true, true, true, true, true, true, true, true, false, false, false, false, false, true, false, false] (ι := Nat) (fun g10 => (act0.put (some 15) ((.pointer (some ⟨g10, 0, none⟩))))) (fun g10 wz => Below wr.heap.size wr wz ∧ Box wz g10 false none 0 0 ∧ wr.heap.size ≤ g10) ?_ (fun J5 => ?_)
                    · rintro g10 wj hI
                      try dsimp only at hI ⊢
                      obtain ⟨HW, B10, hg10⟩ := hI
                      have hHeld : wj.cell? ⟨g, i, none⟩ = some (.slice (some ⟨g5, o5, none⟩) N c5) ∧ wj.cell? ⟨g, d, none⟩ = some (.slice (some ⟨g6, o6, none⟩) N c6) ∧ wj.cell? ⟨g5, o5 + c * 2, none⟩ = some (.bool b7) ∧ wj.cell? ⟨g5, o5 + c * 2 + 1, none⟩ = some (.slice a7 l7 c7) ∧ wj.cell? ⟨g6, o6 + c * 2, none⟩ = some (.bool b8) ∧ wj.cell? ⟨g6, o6 + c * 2 + 1, none⟩ = some (.slice a8 l8 c8) := by exact ⟨(HW.cell (p := ⟨g, i, none⟩) hgm).trans x5, (HW.cell (p := ⟨g, d, none⟩) hgm).trans x6, (E7.later HW).facts.1, (E7.later HW).facts.2, (E8.later HW).facts.1, (E8.later HW).facts.2⟩
                      rw [unhide HA]
                      simp only [Act.put, aSet, aHead, aTail]
                      refine till_two (i := 14) (j := 18) (by kernel_rfl) rfl rfl (fun K hK => ?_) (fun K hK => ?_)
                      · go_simp
                        refine (rdivK b7 a7 l7 c7 ((l2.getD i []).getD c 0) 222000 b8 a8 l8 c8 ((l2.getD d []).getD c 0) 222000 _ (y7.later HW) (y8.later HW) (unhide H0) (by omega) (by omega)).mono ?_
                        rintro e wk ⟨b9, a9, l9, c9, b10, a10, l10, c10, rfl, h9, h10, hb9⟩
                        replace HW := Below.step HW hb9
                        replace B10 := B10.later hb9
                        clear hb9
                        refine hK.out _ _ ?_ (fun hHeld => ?_)
                        · exact ⟨(HW.cell (p := ⟨g, i, none⟩) hgm).trans x5, (HW.cell (p := ⟨g, d, none⟩) hgm).trans x6, (E7.later HW).facts.1, (E7.later HW).facts.2, (E8.later HW).facts.1, (E8.later HW).facts.2⟩
                        clear hK K
                        try simp only [aSet, aHead, aTail]
                        refine till_fl (i := 15) rfl ?_
                        simp only [Act.put, aGet, aSucc, aZero, aSet, aHead, aTail]
                        refine till_fl (i := 16) rfl ?_
                        simp only [Act.put, aGet, aSucc, aZero, aSet, aHead, aTail]
                        refine till_fl (i := 17) rfl ?_
                        simp only [Act.put, aGet, aSucc, aZero, aSet, aHead, aTail]
                        exact till_go J1 (b9, a9, l9, c9, b10, a10, l10, c10, g10) rfl (by kernel_rfl) (by (try dsimp only); rw [unhide HA]; simp only [Act.put, aSet, aHead, aTail]) (by (try dsimp only); exact ⟨HW, h9, h10, B10, hg10⟩)
                      · go_simp
                        have hwk : wr.heap.size ≤ wj.heap.size := HW.size
                        have hxg10 := B10.lt
                        obtain ⟨wk, hWe⟩ : ∃ W', W' = wj.alloc (.cells #[.bool false, .slice none 0 0] 45) := ⟨_, rfl⟩
                        obtain ⟨B9, hb9⟩ := boxes1 wj false none 0 0 hWe
                        rw [← hWe]
                        clear hWe
                        replace HW := Below.step HW hb9
                        replace B10 := B10.later hb9
                        clear hb9
                        have hg9 := hwk
                        have hneg9g10 : wj.heap.size ≠ g10 := by omega
                        refine hK.out _ _ ?_ (fun hHeld => ?_)
                        · exact ⟨(HW.cell (p := ⟨g, i, none⟩) hgm).trans x5, (HW.cell (p := ⟨g, d, none⟩) hgm).trans x6, (E7.later HW).facts.1, (E7.later HW).facts.2, (E8.later HW).facts.1, (E8.later HW).facts.2⟩
                        clear hK K
                        try simp only [aSet, aHead, aTail]
                        exact till_go J4 (wj.heap.size, g10) rfl (by kernel_rfl) (by (try dsimp only); rw [unhide HA]; simp only [Act.put, aSet, aHead, aTail]) (by (try dsimp only); exact ⟨HW, B9, hg9, B10, hg10, hneg9g10⟩)
                    refine till_mid 7 #[true, true, true, true, true, true, true, true, true, true, true, true, true, true, false, false, false, false, true, false, false, false] (ι := Nat) (fun g9 => (act0.put (some 14) ((.pointer (some ⟨g9, 0, none⟩))))) (fun g9 wz => Below wr.heap.size wr wz ∧ Box wz g9 false none 0 0 ∧ wr.heap.size ≤ g9) ?_ (fun J6 => ?_)
                    · rintro g9 wj hI
                      try dsimp only at hI ⊢
                      obtain ⟨HW, B9, hg9⟩ := hI
                      have hHeld : wj.cell? ⟨g, i, none⟩ = some (.slice (some ⟨g5, o5, none⟩) N c5) ∧ wj.cell? ⟨g, d, none⟩ = some (.slice (some ⟨g6, o6, none⟩) N c6) ∧ wj.cell? ⟨g5, o5 + c * 2, none⟩ = some (.bool b7) ∧ wj.cell? ⟨g5, o5 + c * 2 + 1, none⟩ = some (.slice a7 l7 c7) ∧ wj.cell? ⟨g6, o6 + c * 2, none⟩ = some (.bool b8) ∧ wj.cell? ⟨g6, o6 + c * 2 + 1, none⟩ = some (.slice a8 l8 c8) := by exact ⟨(HW.cell (p := ⟨g, i, none⟩) hgm).trans x5, (HW.cell (p := ⟨g, d, none⟩) hgm).trans x6, (E7.later HW).facts.1, (E7.later HW).facts.2, (E8.later HW).facts.1, (E8.later HW).facts.2⟩
                      rw [unhide HA]
                      simp only [Act.put, aSet, aHead, aTail]
                      refine till_two (i := 14) (j := 19) (by kernel_rfl) rfl rfl (fun K hK => ?_) (fun K hK => ?_)
                      · go_simp
                        refine (rdivK b7 a7 l7 c7 ((l2.getD i []).getD c 0) 222000 b8 a8 l8 c8 ((l2.getD d []).getD c 0) 222000 _ (y7.later HW) (y8.later HW) (unhide H0) (by omega) (by omega)).mono ?_
                        rintro e wk ⟨b9, a9, l9, c9, b10, a10, l10, c10, rfl, h9, h10, hb9⟩
                        replace HW := Below.step HW hb9
                        replace B9 := B9.later hb9
                        clear hb9
                        refine hK.out _ _ ?_ (fun hHeld => ?_)
                        · exact ⟨(HW.cell (p := ⟨g, i, none⟩) hgm).trans x5, (HW.cell (p := ⟨g, d, none⟩) hgm).trans x6, (E7.later HW).facts.1, (E7.later HW).facts.2, (E8.later HW).facts.1, (E8.later HW).facts.2⟩
                        clear hK K
                        try simp only [aSet, aHead, aTail]
                        refine till_fl (i := 15) rfl ?_
                        simp only [Act.put, aGet, aSucc, aZero, aSet, aHead, aTail]
                        refine till_fl (i := 16) rfl ?_
                        simp only [Act.put, aGet, aSucc, aZero, aSet, aHead, aTail]
                        refine till_fl (i := 17) rfl ?_
                        simp only [Act.put, aGet, aSucc, aZero, aSet, aHead, aTail]
                        exact till_go J2 (b9, a9, l9, c9, b10, a10, l10, c10, g9) rfl (by kernel_rfl) (by (try dsimp only); rw [unhide HA]; simp only [Act.put, aSet, aHead, aTail]) (by (try dsimp only); exact ⟨HW, h9, h10, B9, hg9⟩)
                      · go_simp
                        have hwk : wr.heap.size ≤ wj.heap.size := HW.size
                        have hxg9 := B9.lt
                        obtain ⟨wk, hWe⟩ : ∃ W', W' = wj.alloc (.cells #[.bool false, .slice none 0 0] 45) := ⟨_, rfl⟩
                        obtain ⟨B10, hb9⟩ := boxes1 wj false none 0 0 hWe
                        rw [← hWe]
                        clear hWe
                        replace HW := Below.step HW hb9
                        replace B9 := B9.later hb9
                        clear hb9
                        have hg10 := hwk
                        have hneg9g10 : g9 ≠ wj.heap.size := by omega
                        refine hK.out _ _ ?_ (fun hHeld => ?_)
                        · exact ⟨(HW.cell (p := ⟨g, i, none⟩) hgm).trans x5, (HW.cell (p := ⟨g, d, none⟩) hgm).trans x6, (E7.later HW).facts.1, (E7.later HW).facts.2, (E8.later HW).facts.1, (E8.later HW).facts.2⟩
                        clear hK K
                        try simp only [aSet, aHead, aTail]
                        exact till_go J4 (g9, wj.heap.size) rfl (by kernel_rfl) (by (try dsimp only); rw [unhide HA]; simp only [Act.put, aSet, aHead, aTail]) (by (try dsimp only); exact ⟨HW, B9, hg9, B10, hg10, hneg9g10⟩)
                    rw [unhide HA]
                    refine till_three (i := 14) (j := 18) (k := 19) (by kernel_rfl) rfl rfl rfl (fun K hK => ?_) (fun K hK => ?_) (fun K hK => ?_)
                    · go_simp
                      refine (rdivK b7 a7 l7 c7 ((l2.getD i []).getD c 0) 222000 b8 a8 l8 c8 ((l2.getD d []).getD c 0) 222000 _ (y7.later HW) (y8.later HW) (unhide H0) (by omega) (by omega)).mono ?_
                      rintro e wk ⟨b9, a9, l9, c9, b10, a10, l10, c10, rfl, h9, h10, hb9⟩
                      replace HW := Below.step HW hb9
                      clear hb9
                      refine hK.out _ _ ?_ (fun hHeld => ?_)
                      · exact ⟨(HW.cell (p := ⟨g, i, none⟩) hgm).trans x5, (HW.cell (p := ⟨g, d, none⟩) hgm).trans x6, (E7.later HW).facts.1, (E7.later HW).facts.2, (E8.later HW).facts.1, (E8.later HW).facts.2⟩
                      clear hK K
                      try simp only [aSet, aHead, aTail]
                      refine till_fl (i := 15) rfl ?_
                      simp only [Act.put, aGet, aSucc, aZero, aSet, aHead, aTail]
                      refine till_fl (i := 16) rfl ?_
                      simp only [Act.put, aGet, aSucc, aZero, aSet, aHead, aTail]
                      refine till_fl (i := 17) rfl ?_
                      simp only [Act.put, aGet, aSucc, aZero, aSet, aHead, aTail]
                      exact till_go J3 (b9, a9, l9, c9, b10, a10, l10, c10) rfl (by kernel_rfl) (by (try dsimp only); rw [unhide HA]; simp only [Act.put, aSet, aHead, aTail]) (by (try dsimp only); exact ⟨HW, h9, h10⟩)
                    · go_simp
                      have hwk : wr.heap.size ≤ vd1.heap.size := HW.size
                      obtain ⟨wk, hWe⟩ : ∃ W', W' = vd1.alloc (.cells #[.bool false, .slice none 0 0] 45) := ⟨_, rfl⟩
                      obtain ⟨B9, hb9⟩ := boxes1 vd1 false none 0 0 hWe
                      rw [← hWe]
                      clear hWe
                      replace HW := Below.step HW hb9
                      clear hb9
                      have hg9 := hwk
                      refine hK.out _ _ ?_ (fun hHeld => ?_)
                      · exact ⟨(HW.cell (p := ⟨g, i, none⟩) hgm).trans x5, (HW.cell (p := ⟨g, d, none⟩) hgm).trans x6, (E7.later HW).facts.1, (E7.later HW).facts.2, (E8.later HW).facts.1, (E8.later HW).facts.2⟩
                      clear hK K
                      try simp only [aSet, aHead, aTail]
                      exact till_go J6 vd1.heap.size rfl (by kernel_rfl) (by (try dsimp only); rw [unhide HA]; simp only [Act.put, aSet, aHead, aTail]) (by (try dsimp only); exact ⟨HW, B9, hg9⟩)
                    · go_simp
                      have hwk : wr.heap.size ≤ vd1.heap.size := HW.size
                      obtain ⟨wk, hWe⟩ : ∃ W', W' = vd1.alloc (.cells #[.bool false, .slice none 0 0] 45) := ⟨_, rfl⟩
                      obtain ⟨B10, hb9⟩ := boxes1 vd1 false none 0 0 hWe
                      rw [← hWe]
                      clear hWe
                      replace HW := Below.step HW hb9
                      clear hb9
                      have hg10 := hwk
                      refine hK.out _ _ ?_ (fun hHeld => ?_)
                      · exact ⟨(HW.cell (p := ⟨g, i, none⟩) hgm).trans x5, (HW.cell (p := ⟨g, d, none⟩) hgm).trans x6, (E7.later HW).facts.1, (E7.later HW).facts.2, (E8.later HW).facts.1, (E8.later HW).facts.2⟩
                      clear hK K
                      try simp only [aSet, aHead, aTail]
                      exact till_go J5 vd1.heap.size rfl (by kernel_rfl) (by (try dsimp only); rw [unhide HA]; simp only [Act.put, aSet, aHead, aTail]) (by (try dsimp only); exact ⟨HW, B10, hg10⟩)
                · have hin : i = d := by omega
                  subst hin
                  have hi1 : ¬ (i : Int) < (i : Int) := by omega
                  go_wp2
                  go_roundw
                  case rel => exact ⟨i + 1, c + 1, l2, _, by omega, by omega, by go_num, by go_num, hown, (unhide HI).done (unhide HG), unhide HB⟩
                  case measure => simp [intOf]; omega
            · have hsn : ¬ s < 0 := by rw [es]; exact sgn_geH (by omega)
              have hps : 0 < ent lz d c := by
                have h1 := (unhide HT).not0
                have h2 : ent lz d c = (lz.getD d []).getD c 0 := rfl
                omega
              have HL := hide ((unhide HT).low hps)
              clear es hneg hps v5 x5
              have hcut : ∃ lz', RO w3 w.heap.size (some ⟨g, 0, none⟩) n cl lz' ∧ HLow rs lz' c d n N pf aF bF 0 ∧ Below w.heap.size w w3 := ⟨lz, hown, unhide HL, unhide HB⟩
              go_wp2_with fail
              clear hown HB HT HL
              obtain ⟨lz', hown, hlow, hB⟩ := hcut
              go_loopw [13] (fun t wr => ∃ (i : Nat) (l2 : List (List Int)), i ≤ d ∧ t = .int .i64 (i : Int) ∧ RO wr w.heap.size (some ⟨g, 0, none⟩) n cl l2 ∧ HLow rs l2 c d n N pf aF bF i ∧ Below w.heap.size w wr) (fun t _ => d - (intOf t).toNat)
              case atStart => exact ⟨0, lz', Nat.zero_le _, rfl, hown, hlow, hB⟩
              case round =>
                clear hown hlow hB
                obtain ⟨i, l2, hi, rfl, hown, hin, hB⟩ := hrel
                have HI := hide hin
                have HB := hide hB
                clear hin hB
                by_cases hlt : i < d
                · have hi0 : (0 : Int) ≤ (i : Int) := by omega
                  have hi1 : (i : Int) < (d : Int) := by omega
                  have hi2 : (i : Int) < (n : Int) := by omega
                  have H0 := hide (show (l2.getD d []).getD c 0 ≠ 0 from fun e => by
                    have h1 := (unhide HI).pos
                    rw [show ent l2 d c = 0 from e] at h1
                    omega)
                  obtain ⟨a5, l5, c5, x5, v5⟩ := hown.at (show i < n by omega)
                  have hl5 : N = l5 := by rw [← v5.vk.len_eq]; exact ((unhide HI).lens i (by omega)).symm
                  subst hl5
                  obtain ⟨g5, o5, rfl⟩ := v5.vk.some (by omega)
                  obtain ⟨b7, a7, l7, c7, E7, y7⟩ := v5.at hcN
                  replace y7 := y7.1
                  obtain ⟨a6, l6, c6, x6, v6⟩ := hown.at hdn
                  have hl6 : N = l6 := by rw [← v6.vk.len_eq]; exact ((unhide HI).lens d hdn).symm
                  subst hl6
                  obtain ⟨g6, o6, rfl⟩ := v6.vk.some (by omega)
                  obtain ⟨b8, a8, l8, c8, E8, y8⟩ := v6.at hcN
                  replace y8 := y8.1
                  have hgm := hown.base_le.2
                  go_upto_region 25 with fail
                  as_aux_lemma =>
                    have HW : Below wr.heap.size wr wr.drew := (Below.refl _ _).drew
                    refine till_start (fun w' => w'.cell? ⟨g, i, none⟩ = some (.slice (some ⟨g5, o5, none⟩) N c5) ∧ w'.cell? ⟨g, d, none⟩ = some (.slice (some ⟨g6, o6, none⟩) N c6) ∧ w'.cell? ⟨g5, o5 + c * 2, none⟩ = some (.bool b7) ∧ w'.cell? ⟨g5, o5 + c * 2 + 1, none⟩ = some (.slice a7 l7 c7) ∧ w'.cell? ⟨g6, o6 + c * 2, none⟩ = some (.bool b8) ∧ w'.cell? ⟨g6, o6 + c * 2 + 1, none⟩ = some (.slice a8 l8 c8)) 20 (by kernel_rfl) ?_ (fun hHeld => ?_)
                    · exact ⟨(HW.cell (p := ⟨g, i, none⟩) hgm).trans x5, (HW.cell (p := ⟨g, d, none⟩) hgm).trans x6, (E7.later HW).facts.1, (E7.later HW).facts.2, (E8.later HW).facts.1, (E8.later HW).facts.2⟩
                    obtain ⟨vd1, hvd⟩ : ∃ v, v = wr.drew := ⟨_, rfl⟩
                    rw [← hvd] at HW hHeld ⊢
                    clear hvd
                    refine till_fl (i := 0) rfl ?_
                    simp only [Act.put, aGet, aZero, aSet, aHead, aTail]
                    refine till_fl (i := 1) rfl ?_
                    simp only [Act.put, aGet, aSucc, aZero, aSet, aHead, aTail]
                    refine till_tm (i := 2) [3, 5, 6, 14, 15, 16, 17, 20, 21] rfl ?_
                    simp only [Act.put, aGet, aSucc, aZero, aSet, aHead, aTail]
                    refine till_tm (i := 3) [5, 6, 14, 15, 16, 17, 20, 21] rfl ?_
                    simp only [Act.put, aGet, aSucc, aZero, aSet, aHead, aTail]
                    refine till_fl (i := 4) rfl ?_
                    simp only [Act.put, aGet, aSucc, aZero, aSet, aHead, aTail]
                    refine till_tm (i := 5) [6, 14, 15, 16, 17, 20, 21] rfl ?_
                    simp only [Act.put, aGet, aSucc, aZero, aSet, aHead, aTail]
                    refine till_tm (i := 6) [14, 15, 16, 17, 20, 21] rfl ?_
                    simp only [Act.put, aGet, aSucc, aZero, aSet, aHead, aTail]
                    refine till_fl (i := 7) rfl ?_
                    simp only [Act.put, aGet, aSucc, aZero, aSet, aHead, aTail]
                    refine till_fl (i := 8) rfl ?_
                    simp only [Act.put, aGet, aSucc, aZero, aSet, aHead, aTail]
                    refine till_tm (i := 9) [10, 12, 13, 14, 15, 16, 17, 20, 21] rfl ?_
                    simp only [Act.put, aGet, aSucc, aZero, aSet, aHead, aTail]
                    refine till_tm (i := 10) [12, 13, 14, 15, 16, 17, 20, 21] rfl ?_
                    simp only [Act.put, aGet, aSucc, aZero, aSet, aHead, aTail]
                    refine till_fl (i := 11) rfl ?_
                    simp only [Act.put, aGet, aSucc, aZero, aSet, aHead, aTail]
                    refine till_tm (i := 12) [13, 14, 15, 16, 17, 20, 21] rfl ?_
                    simp only [Act.put, aGet, aSucc, aZero, aSet, aHead, aTail]
                    refine till_tm (i := 13) [14, 15, 16, 17, 20, 21] rfl ?_
                    simp only [Act.put, aGet, aSucc, aZero, aSet, aHead, aTail]
                    refine till_name (fun act0 hact0 => ?_)
                    have HA := hide hact0
                    clear hact0
                    refine till_mid 2 #[true, true, true, true, true, true, true, true, true, true, true, true, true, true, true, true, true, true, true, true, false, false] (ι := Bool × Option Addr × Nat × Nat × Bool × Option Addr × Nat × Nat × Nat × Nat) (fun (b9, a9, l9, c9, b10, a10, l10, c10, g9, g10) => ((((((act0.put (some 155) (.tuple #[.agg #[.bool b9, .slice a9 l9 c9], .agg #[.bool b10, .slice a10 l10 c10]])).put (some 140) (.tuple #[.agg #[.bool b9, .slice a9 l9 c9], .agg #[.bool b10, .slice a10 l10 c10]])).put (some 156) (.agg #[.bool b9, .slice a9 l9 c9])).put (some 157) (.agg #[.bool b10, .slice a10 l10 c10])).put (some 14) ((.pointer (some ⟨g9, 0, none⟩)))).put (some 15) ((.pointer (some ⟨g10, 0, none⟩))))) (fun (b9, a9, l9, c9, b10, a10, l10, c10, g9, g10) wz => Below wr.heap.size wr wz ∧ FK wz b9 a9 l9 c9 ((l2.getD i []).getD c 0 / (l2.getD d []).getD c 0) 222000 ∧ FK wz b10 a10 l10 c10 ((l2.getD i []).getD c 0 % (l2.getD d []).getD c 0) 222000 ∧ Box wz g9 false none 0 0 ∧ wr.heap.size ≤ g9 ∧ Box wz g10 false none 0 0 ∧ wr.heap.size ≤ g10 ∧ g9 ≠ g10) ?_ (fun J0 => ?_)
                    · rintro ⟨b9, a9, l9, c9, b10, a10, l10, c10, g9, g10⟩ wj hI
                      try dsimp only at hI ⊢
                      obtain ⟨HW, h9, h10, B9, hg9, B10, hg10, hneg9g10⟩ := hI
                      have hHeld : wj.cell? ⟨g, i, none⟩ = some (.slice (some ⟨g5, o5, none⟩) N c5) ∧ wj.cell? ⟨g, d, none⟩ = some (.slice (some ⟨g6, o6, none⟩) N c6) ∧ wj.cell? ⟨g5, o5 + c * 2, none⟩ = some (.bool b7) ∧ wj.cell? ⟨g5, o5 + c * 2 + 1, none⟩ = some (.slice a7 l7 c7) ∧ wj.cell? ⟨g6, o6 + c * 2, none⟩ = some (.bool b8) ∧ wj.cell? ⟨g6, o6 + c * 2 + 1, none⟩ = some (.slice a8 l8 c8) := by exact ⟨(HW.cell (p := ⟨g, i, none⟩) hgm).trans x5, (HW.cell (p := ⟨g, d, none⟩) hgm).trans x6, (E7.later HW).facts.1, (E7.later HW).facts.2, (E8.later HW).facts.1, (E8.later HW).facts.2⟩
                      rw [unhide HA]
                      simp only [Act.put, aSet, aHead, aTail]
                      obtain ⟨q1B9, q2B9, q3B9, q4B9⟩ := B9.facts
                      have hltB9 := B9.lt
                      obtain ⟨q1B10, q2B10, q3B10, q4B10⟩ := B10.facts
                      have hltB10 := B10.lt
                      refine till_out (i := 20) (by kernel_rfl) rfl (by kernel_rfl) (fun K hK => ?_)
                      go_simp
                      refine hK.out _ _ ?_
                      clear hK K
                      try simp only [aSet, aHead, aTail]
                      refine till_out (i := 21) (by kernel_rfl) rfl (by kernel_rfl) (fun K hK => ?_)
                      go_simp
                      refine hK.out _ _ ?_
                      clear hK K
                      try simp only [aSet, aHead, aTail]
                      refine till_done (by kernel_rfl) ?_ _
                      have n7 := B9.noLimb
                      have n8 := (B10.other (g' := g9) (Ne.symm hneg9g10) b9 a9 l9 c9).noLimb
                      obtain ⟨W8, hW8⟩ : ∃ W8, W8 = ((((wj.setCell ⟨g9, 0, none⟩ (.bool b9)).setCell ⟨g9, 1, none⟩ (.slice a9 l9 c9)).setCell ⟨g10, 0, none⟩ (.bool b10)).setCell ⟨g10, 1, none⟩ (.slice a10 l10 c10)) := ⟨_, rfl⟩
                      rw [← hW8]
                      have Bq : Box W8 g9 b9 a9 l9 c9 := by rw [hW8]; exact (B9.put b9 a9 l9 c9).other (g' := g10) hneg9g10 b10 a10 l10 c10
                      have hQ : FK W8 b9 a9 l9 c9 ((l2.getD i []).getD c 0 / (l2.getD d []).getD c 0) 222000 := by rw [hW8]; exact (h9.put n7 b9 a9 l9 c9).put n8 b10 a10 l10 c10
                      have HC : Below wr.heap.size wr W8 := by rw [hW8]; exact below_put (below_put HW hg9 _ _ _ _) hg10 _ _ _ _
                      clear hW8 HW hHeld B9 B10 n7 n8 h9 h10 hltB9 hltB10 q1B9 q2B9 q3B9 q4B9 q1B10 q2B10 q3B10 q4B10
                      obtain ⟨qz, eqz⟩ : ∃ qz, qz = ((l2.getD i []).getD c 0 / (l2.getD d []).getD c 0) := ⟨_, rfl⟩
                      rw [← eqz] at hQ
                      have EQZ := hide eqz
                      clear eqz
                      replace HB := hide (Below.step (unhide HB) HC)
                      replace hown := hown.later HC
                      replace v5 := v5.later HC
                      replace v6 := v6.later HC
                      replace x5 := (HC.cell (p := ⟨g, i, none⟩) hgm).trans x5
                      replace x6 := (HC.cell (p := ⟨g, d, none⟩) hgm).trans x6
                      replace hgm := Nat.lt_of_lt_of_le hgm HC.size
                      clear HC E7 E8 y7 y8
                      obtain ⟨f1, f2, _, _⟩ := Bq.facts
                      have hsQ := Bq.lt
                      go_upto_region 26 with fail
                      have HW : Below W8.heap.size W8 W8.drew := (Below.refl _ _).drew
                      refine till_start (fun w' => w'.cell? ⟨g, i, none⟩ = some (.slice (some ⟨g5, o5, none⟩) N c5) ∧ w'.cell? ⟨g, d, none⟩ = some (.slice (some ⟨g6, o6, none⟩) N c6) ∧ w'.cell? ⟨g9, 0, none⟩ = some (.bool b9) ∧ w'.cell? ⟨g9, 1, none⟩ = some (.slice a9 l9 c9)) 14 (by kernel_rfl) ?_ (fun hHeld => ?_)
                      · exact ⟨(HW.cell (p := ⟨g, i, none⟩) hgm).trans x5, (HW.cell (p := ⟨g, d, none⟩) hgm).trans x6, (Bq.later HW).facts.1, (Bq.later HW).facts.2.1⟩
                      refine till_tl (i := 0) [13, 14] rfl ?_
                      simp only [Act.put, aGet, aZero, aSet, aHead, aTail]
                      refine till_tl (i := 1) [13, 14] rfl ?_
                      simp only [Act.put, aGet, aSucc, aZero, aSet, aHead, aTail]
                      refine till_tl (i := 2) [4, 5, 12, 13, 14] rfl ?_
                      simp only [Act.put, aGet, aSucc, aZero, aSet, aHead, aTail]
                      refine till_tl (i := 3) [4, 5, 12, 13, 14] rfl ?_
                      simp only [Act.put, aGet, aSucc, aZero, aSet, aHead, aTail]
                      refine till_tl (i := 4) [5, 12, 13, 14] rfl ?_
                      simp only [Act.put, aGet, aSucc, aZero, aSet, aHead, aTail]
                      refine till_tl (i := 5) [12, 13, 14] rfl ?_
                      simp only [Act.put, aGet, aSucc, aZero, aSet, aHead, aTail]
                      refine till_tl (i := 6) [8, 9, 11, 12, 13, 14] rfl ?_
                      simp only [Act.put, aGet, aSucc, aZero, aSet, aHead, aTail]
                      refine till_tl (i := 7) [8, 9, 11, 12, 13, 14] rfl ?_
                      simp only [Act.put, aGet, aSucc, aZero, aSet, aHead, aTail]
                      refine till_tl (i := 8) [9, 11, 12, 13, 14] rfl ?_
                      simp only [Act.put, aGet, aSucc, aZero, aSet, aHead, aTail]
                      refine till_tl (i := 9) [11, 12, 13, 14] rfl ?_
                      simp only [Act.put, aGet, aSucc, aZero, aSet, aHead, aTail]
                      refine till_tl (i := 10) [11, 12, 13, 14] rfl ?_
                      simp only [Act.put, aGet, aSucc, aZero, aSet, aHead, aTail]
                      refine till_in (i := 11) (by kernel_rfl) rfl (fun K hK => ?_)
                      go_simp
                      refine (rvtimesK _ _ _ (l2.getD d []) 222000 b9 a9 l9 c9 qz 222000 _ (v6.later HW) ((hQ.later HW).sk (by omega)) (by omega) (by omega) (by omega)).mono ?_
                      rintro e w8 ⟨a11, c11, rfl, h11, hb9⟩
                      replace HW := Below.step HW hb9
                      clear hb9
                      refine hK.out _ _ ?_ (fun hHeld => ?_)
                      · exact ⟨(HW.cell (p := ⟨g, i, none⟩) hgm).trans x5, (HW.cell (p := ⟨g, d, none⟩) hgm).trans x6, (Bq.later HW).facts.1, (Bq.later HW).facts.2.1⟩
                      clear hK K
                      try simp only [Act.put, aGet, aSucc, aZero, aSet, aHead, aTail]
                      refine till_in (i := 12) (by kernel_rfl) rfl (fun K hK => ?_)
                      go_simp
                      refine (rvsubK _ _ _ (l2.getD i []) 222000 _ _ _ (vtimes (l2.getD d []) qz) (222000 + 222000) _ ((v5.later HW).vk) (h11.vs (by omega)) (by omega) (by omega) (by omega) (by omega)).mono ?_
                      rintro e w9 ⟨a12, c12, rfl, h12, hb9⟩
                      rw [Nat.max_self] at h12
                      (try rw [Nat.max_self])
                      replace HW := Below.step HW hb9
                      clear hb9 h11
                      refine hK.out _ _ ?_ (fun hHeld => ?_)
                      · exact ⟨(HW.cell (p := ⟨g, i, none⟩) hgm).trans x5, (HW.cell (p := ⟨g, d, none⟩) hgm).trans x6, (Bq.later HW).facts.1, (Bq.later HW).facts.2.1⟩
                      clear hK K
                      try simp only [Act.put, aGet, aSucc, aZero, aSet, aHead, aTail]
                      refine till_tl (i := 13) [14] rfl ?_
                      simp only [Act.put, aGet, aSucc, aZero, aSet, aHead, aTail]
                      have q5 := (HW.cell (p := ⟨g, i, none⟩) hgm).trans x5
                      have q7 := (hown.later HW).free i
                      refine till_out (i := 14) (by kernel_rfl) rfl (by kernel_rfl) (fun K hK => ?_)
                      go_simp
                      refine hK.out _ _ ?_
                      clear hK K
                      try simp only [Act.put, aGet, aSucc, aZero, aSet, aHead, aTail]
                      refine till_done (by kernel_rfl) ?_ _
                      clear q5 q7 hHeld f1 f2 hsQ Bq hQ
                      replace hown := hown.later HW
                      replace HB := hide (Below.step (unhide HB) HW)
                      clear HW v5 v6 x5 x6
                      have hr : ∀ j, (vsub (l2.getD i []) (vtimes (l2.getD d []) qz)).getD j 0 = ent l2 i j - ent l2 i c / ent l2 d c * ent l2 d j := fun j => by rw [vsub_at, vtimes_at, unhide EQZ, Int.mul_comm]; rfl
                      have hrl : (vsub (l2.getD i []) (vtimes (l2.getD d []) qz)).length = N := by rw [vsub_len, vtimes_len, (unhide HI).lens i (by omega), (unhide HI).lens d hdn, Nat.max_self]
                      obtain ⟨r, er⟩ : ∃ r, r = vsub (l2.getD i []) (vtimes (l2.getD d []) qz) := ⟨_, rfl⟩
                      rw [← er] at hr hrl h12
                      have HI2 := hide ((unhide HI).step (unhide HG) hlt hr hrl)
                      have hvr : VS w9 a12 N c12 r 222000 := (vf_tight (k := 222000) h12 fun j _ => by have := (unhide HI2).lo2 i (by omega) j; rw [ent_same (by rw [(unhide HI).len]; omega)] at this; exact Nat.lt_of_lt_of_le this (Bp_le (unhide HBB (d + 1) (by omega)))).vs (by omega)
                      have ho2 := ro_set hown (show i < n by omega) hvr
                      have HB2 := hide ((unhide HB).setCell (p := ⟨g, i, none⟩) (by simpa using hown.base_le.1) (.slice a12 N c12))
                      clear er hr hrl h12 hvr
                      go_wp2
                      go_roundw
                      case rel => exact ⟨i + 1, _, by omega, by go_num, ho2, unhide HI2, unhide HB2⟩
                      case measure => simp [intOf]; omega
                    refine till_mid 3 #[true, true, true, true, true, true, true, true, true, true, true, true, true, true, true, true, true, true, false, true, false, false] (ι := Bool × Option Addr × Nat × Nat × Bool × Option Addr × Nat × Nat × Nat) (fun (b9, a9, l9, c9, b10, a10, l10, c10, g10) => (((((act0.put (some 155) (.tuple #[.agg #[.bool b9, .slice a9 l9 c9], .agg #[.bool b10, .slice a10 l10 c10]])).put (some 140) (.tuple #[.agg #[.bool b9, .slice a9 l9 c9], .agg #[.bool b10, .slice a10 l10 c10]])).put (some 156) (.agg #[.bool b9, .slice a9 l9 c9])).put (some 157) (.agg #[.bool b10, .slice a10 l10 c10])).put (some 15) ((.pointer (some ⟨g10, 0, none⟩))))) (fun (b9, a9, l9, c9, b10, a10, l10, c10, g10) wz => Below wr.heap.size wr wz ∧ FK wz b9 a9 l9 c9 ((l2.getD i []).getD c 0 / (l2.getD d []).getD c 0) 222000 ∧ FK wz b10 a10 l10 c10 ((l2.getD i []).getD c 0 % (l2.getD d []).getD c 0) 222000 ∧ Box wz g10 false none 0 0 ∧ wr.heap.size ≤ g10) ?_ (fun J1 => ?_)
                    · rintro ⟨b9, a9, l9, c9, b10, a10, l10, c10, g10⟩ wj hI
                      try dsimp only at hI ⊢
                      obtain ⟨HW, h9, h10, B10, hg10⟩ := hI
                      have hHeld : wj.cell? ⟨g, i, none⟩ = some (.slice (some ⟨g5, o5, none⟩) N c5) ∧ wj.cell? ⟨g, d, none⟩ = some (.slice (some ⟨g6, o6, none⟩) N c6) ∧ wj.cell? ⟨g5, o5 + c * 2, none⟩ = some (.bool b7) ∧ wj.cell? ⟨g5, o5 + c * 2 + 1, none⟩ = some (.slice a7 l7 c7) ∧ wj.cell? ⟨g6, o6 + c * 2, none⟩ = some (.bool b8) ∧ wj.cell? ⟨g6, o6 + c * 2 + 1, none⟩ = some (.slice a8 l8 c8) := by exact ⟨(HW.cell (p := ⟨g, i, none⟩) hgm).trans x5, (HW.cell (p := ⟨g, d, none⟩) hgm).trans x6, (E7.later HW).facts.1, (E7.later HW).facts.2, (E8.later HW).facts.1, (E8.later HW).facts.2⟩
                      rw [unhide HA]
                      simp only [Act.put, aSet, aHead, aTail]
                      refine till_in (i := 18) (by kernel_rfl) rfl (fun K hK => ?_)
                      go_simp
                      have hwk : wr.heap.size ≤ wj.heap.size := HW.size
                      have hxg10 := B10.lt
                      obtain ⟨wk, hWe⟩ : ∃ W', W' = wj.alloc (.cells #[.bool false, .slice none 0 0] 45) := ⟨_, rfl⟩
                      obtain ⟨B9, hb9⟩ := boxes1 wj false none 0 0 hWe
                      rw [← hWe]
                      clear hWe
                      replace HW := Below.step HW hb9
                      replace h9 := h9.later hb9
                      replace h10 := h10.later hb9
                      replace B10 := B10.later hb9
                      clear hb9
                      have hg9 := hwk
                      have hneg9g10 : wj.heap.size ≠ g10 := by omega
                      refine hK.out _ _ ?_ (fun hHeld => ?_)
                      · exact ⟨(HW.cell (p := ⟨g, i, none⟩) hgm).trans x5, (HW.cell (p := ⟨g, d, none⟩) hgm).trans x6, (E7.later HW).facts.1, (E7.later HW).facts.2, (E8.later HW).facts.1, (E8.later HW).facts.2⟩
                      clear hK K
                      try simp only [aSet, aHead, aTail]
                      exact till_go J0 (b9, a9, l9, c9, b10, a10, l10, c10, wj.heap.size, g10) rfl (by kernel_rfl) (by (try dsimp only); rw [unhide HA]; simp only [Act.put, aSet, aHead, aTail]) (by (try dsimp only); exact ⟨HW, h9, h10, B9, hg9, B10, hg10, hneg9g10⟩)
                    refine till_mid 3 #[true, true, true, true, true, true, true, true, true, true, true, true, true, true, true, true, true, true, true, false, false, false] (ι := Bool × Option Addr × Nat × Nat × Bool × Option Addr × Nat × Nat × Nat) (fun (b9, a9, l9, c9, b10, a10, l10, c10, g9) => (((((act0.put (some 155) (.tuple #[.agg #[.bool b9, .slice a9 l9 c9], .agg #[.bool b10, .slice a10 l10 c10]])).put (some 140) (.tuple #[.agg #[.bool b9, .slice a9 l9 c9], .agg #[.bool b10, .slice a10 l10 c10]])).put (some 156) (.agg #[.bool b9, .slice a9 l9 c9])).put (some 157) (.agg #[.bool b10, .slice a10 l10 c10])).put (some 14) ((.pointer (some ⟨g9, 0, none⟩))))) (fun (b9, a9, l9, c9, b10, a10, l10, c10, g9) wz => Below wr.heap.size wr wz ∧ FK wz b9 a9 l9 c9 ((l2.getD i []).getD c 0 / (l2.getD d []).getD c 0) 222000 ∧ FK wz b10 a10 l10 c10 ((l2.getD i []).getD c 0 % (l2.getD d []).getD c 0) 222000 ∧ Box wz g9 false none 0 0 ∧ wr.heap.size ≤ g9) ?_ (fun J2 => ?_)
                    · rintro ⟨b9, a9, l9, c9, b10, a10, l10, c10, g9⟩ wj hI
                      try dsimp only at hI ⊢
                      obtain ⟨HW, h9, h10, B9, hg9⟩ := hI
                      have hHeld : wj.cell? ⟨g, i, none⟩ = some (.slice (some ⟨g5, o5, none⟩) N c5) ∧ wj.cell? ⟨g, d, none⟩ = some (.slice (some ⟨g6, o6, none⟩) N c6) ∧ wj.cell? ⟨g5, o5 + c * 2, none⟩ = some (.bool b7) ∧ wj.cell? ⟨g5, o5 + c * 2 + 1, none⟩ = some (.slice a7 l7 c7) ∧ wj.cell? ⟨g6, o6 + c * 2, none⟩ = some (.bool b8) ∧ wj.cell? ⟨g6, o6 + c * 2 + 1, none⟩ = some (.slice a8 l8 c8) := by exact ⟨(HW.cell (p := ⟨g, i, none⟩) hgm).trans x5, (HW.cell (p := ⟨g, d, none⟩) hgm).trans x6, (E7.later HW).facts.1, (E7.later HW).facts.2, (E8.later HW).facts.1, (E8.later HW).facts.2⟩
                      rw [unhide HA]
                      simp only [Act.put, aSet, aHead, aTail]
                      refine till_in (i := 19) (by kernel_rfl) rfl (fun K hK => ?_)
                      go_simp
                      have hwk : wr.heap.size ≤ wj.heap.size := HW.size
                      have hxg9 := B9.lt
                      obtain ⟨wk, hWe⟩ : ∃ W', W' = wj.alloc (.cells #[.bool false, .slice none 0 0] 45) := ⟨_, rfl⟩
                      obtain ⟨B10, hb9⟩ := boxes1 wj false none 0 0 hWe
                      rw [← hWe]
                      clear hWe
                      replace HW := Below.step HW hb9
                      replace h9 := h9.later hb9
                      replace h10 := h10.later hb9
                      replace B9 := B9.later hb9
                      clear hb9
                      have hg10 := hwk
                      have hneg9g10 : g9 ≠ wj.heap.size := by omega
                      refine hK.out _ _ ?_ (fun hHeld => ?_)
                      · exact ⟨(HW.cell (p := ⟨g, i, none⟩) hgm).trans x5, (HW.cell (p := ⟨g, d, none⟩) hgm).trans x6, (E7.later HW).facts.1, (E7.later HW).facts.2, (E8.later HW).facts.1, (E8.later HW).facts.2⟩
                      clear hK K
                      try simp only [aSet, aHead, aTail]
                      exact till_go J0 (b9, a9, l9, c9, b10, a10, l10, c10, g9, wj.heap.size) rfl (by kernel_rfl) (by (try dsimp only); rw [unhide HA]; simp only [Act.put, aSet, aHead, aTail]) (by (try dsimp only); exact ⟨HW, h9, h10, B9, hg9, B10, hg10, hneg9g10⟩)
                    refine till_mid 4 #[true, true, true, true, true, true, true, true, true, true, true, true, true, true, true, true, true, true, false, false, false, false] (ι := Bool × Option Addr × Nat × Nat × Bool × Option Addr × Nat × Nat) (fun (b9, a9, l9, c9, b10, a10, l10, c10) => ((((act0.put (some 155) (.tuple #[.agg #[.bool b9, .slice a9 l9 c9], .agg #[.bool b10, .slice a10 l10 c10]])).put (some 140) (.tuple #[.agg #[.bool b9, .slice a9 l9 c9], .agg #[.bool b10, .slice a10 l10 c10]])).put (some 156) (.agg #[.bool b9, .slice a9 l9 c9])).put (some 157) (.agg #[.bool b10, .slice a10 l10 c10]))) (fun (b9, a9, l9, c9, b10, a10, l10, c10) wz => Below wr.heap.size wr wz ∧ FK wz b9 a9 l9 c9 ((l2.getD i []).getD c 0 / (l2.getD d []).getD c 0) 222000 ∧ FK wz b10 a10 l10 c10 ((l2.getD i []).getD c 0 % (l2.getD d []).getD c 0) 222000) ?_ (fun J3 => ?_)
                    · rintro ⟨b9, a9, l9, c9, b10, a10, l10, c10⟩ wj hI
                      try dsimp only at hI ⊢
                      obtain ⟨HW, h9, h10⟩ := hI
                      have hHeld : wj.cell? ⟨g, i, none⟩ = some (.slice (some ⟨g5, o5, none⟩) N c5) ∧ wj.cell? ⟨g, d, none⟩ = some (.slice (some ⟨g6, o6, none⟩) N c6) ∧ wj.cell? ⟨g5, o5 + c * 2, none⟩ = some (.bool b7) ∧ wj.cell? ⟨g5, o5 + c * 2 + 1, none⟩ = some (.slice a7 l7 c7) ∧ wj.cell? ⟨g6, o6 + c * 2, none⟩ = some (.bool b8) ∧ wj.cell? ⟨g6, o6 + c * 2 + 1, none⟩ = some (.slice a8 l8 c8) := by exact ⟨(HW.cell (p := ⟨g, i, none⟩) hgm).trans x5, (HW.cell (p := ⟨g, d, none⟩) hgm).trans x6, (E7.later HW).facts.1, (E7.later HW).facts.2, (E8.later HW).facts.1, (E8.later HW).facts.2⟩
                      rw [unhide HA]
                      simp only [Act.put, aSet, aHead, aTail]
                      refine till_two (i := 18) (j := 19) (by kernel_rfl) rfl rfl (fun K hK => ?_) (fun K hK => ?_)
                      · go_simp
                        have hwk : wr.heap.size ≤ wj.heap.size := HW.size
                        obtain ⟨wk, hWe⟩ : ∃ W', W' = wj.alloc (.cells #[.bool false, .slice none 0 0] 45) := ⟨_, rfl⟩
                        obtain ⟨B9, hb9⟩ := boxes1 wj false none 0 0 hWe
                        rw [← hWe]
                        clear hWe
                        replace HW := Below.step HW hb9
                        replace h9 := h9.later hb9
                        replace h10 := h10.later hb9
                        clear hb9
                        have hg9 := hwk
                        refine hK.out _ _ ?_ (fun hHeld => ?_)
                        · exact ⟨(HW.cell (p := ⟨g, i, none⟩) hgm).trans x5, (HW.cell (p := ⟨g, d, none⟩) hgm).trans x6, (E7.later HW).facts.1, (E7.later HW).facts.2, (E8.later HW).facts.1, (E8.later HW).facts.2⟩
                        clear hK K
                        try simp only [aSet, aHead, aTail]
                        exact till_go J2 (b9, a9, l9, c9, b10, a10, l10, c10, wj.heap.size) rfl (by kernel_rfl) (by (try dsimp only); rw [unhide HA]; simp only [Act.put, aSet, aHead, aTail]) (by (try dsimp only); exact ⟨HW, h9, h10, B9, hg9⟩)
                      · go_simp
                        have hwk : wr.heap.size ≤ wj.heap.size := HW.size
                        obtain ⟨wk, hWe⟩ : ∃ W', W' = wj.alloc (.cells #[.bool false, .slice none 0 0] 45) := ⟨_, rfl⟩
                        obtain ⟨B10, hb9⟩ := boxes1 wj false none 0 0 hWe
                        rw [← hWe]
                        clear hWe
                        replace HW := Below.step HW hb9
                        replace h9 := h9.later hb9
                        replace h10 := h10.later hb9
                        clear hb9
                        have hg10 := hwk
                        refine hK.out _ _ ?_ (fun hHeld => ?_)
                        · exact ⟨(HW.cell (p := ⟨g, i, none⟩) hgm).trans x5, (HW.cell (p := ⟨g, d, none⟩) hgm).trans x6, (E7.later HW).facts.1, (E7.later HW).facts.2, (E8.later HW).facts.1, (E8.later HW).facts.2⟩
                        clear hK K
                        try simp only [aSet, aHead, aTail]
                        exact till_go J1 (b9, a9, l9, c9, b10, a10, l10, c10, wj.heap.size) rfl (by kernel_rfl) (by (try dsimp only); rw [unhide HA]; simp only [Act.put, aSet, aHead, aTail]) (by (try dsimp only); exact ⟨HW, h9, h10, B10, hg10⟩)
                    refine till_mid 6 #[true, true, true, true, true, true, true, true, true, true, true, true, true, true, false, false, false, false, true, true, false, false] (ι := Nat × Nat) (fun (g9, g10) => ((act0.put (some 14) ((.pointer (some ⟨g9, 0, none⟩)))).put (some 15) ((.pointer (some ⟨g10, 0, none⟩))))) (fun (g9, g10) wz => Below wr.heap.size wr wz ∧ Box wz g9 false none 0 0 ∧ wr.heap.size ≤ g9 ∧ Box wz g10 false none 0 0 ∧ wr.heap.size ≤ g10 ∧ g9 ≠ g10) ?_ (fun J4 => ?_)
                    · rintro ⟨g9, g10⟩ wj hI
                      try dsimp only at hI ⊢
                      obtain ⟨HW, B9, hg9, B10, hg10, hneg9g10⟩ := hI
                      have hHeld : wj.cell? ⟨g, i, none⟩ = some (.slice (some ⟨g5, o5, none⟩) N c5) ∧ wj.cell? ⟨g, d, none⟩ = some (.slice (some ⟨g6, o6, none⟩) N c6) ∧ wj.cell? ⟨g5, o5 + c * 2, none⟩ = some (.bool b7) ∧ wj.cell? ⟨g5, o5 + c * 2 + 1, none⟩ = some (.slice a7 l7 c7) ∧ wj.cell? ⟨g6, o6 + c * 2, none⟩ = some (.bool b8) ∧ wj.cell? ⟨g6, o6 + c * 2 + 1, none⟩ = some (.slice a8 l8 c8) := by exact ⟨(HW.cell (p := ⟨g, i, none⟩) hgm).trans x5, (HW.cell (p := ⟨g, d, none⟩) hgm).trans x6, (E7.later HW).facts.1, (E7.later HW).facts.2, (E8.later HW).facts.1, (E8.later HW).facts.2⟩
                      rw [unhide HA]
                      simp only [Act.put, aSet, aHead, aTail]
                      refine till_in (i := 14) (by kernel_rfl) rfl (fun K hK => ?_)
                      go_simp
                      refine (rdivK b7 a7 l7 c7 ((l2.getD i []).getD c 0) 222000 b8 a8 l8 c8 ((l2.getD d []).getD c 0) 222000 _ (y7.later HW) (y8.later HW) (unhide H0) (by omega) (by omega)).mono ?_
                      rintro e wk ⟨b9, a9, l9, c9, b10, a10, l10, c10, rfl, h9, h10, hb9⟩
                      replace HW := Below.step HW hb9
                      replace B9 := B9.later hb9
                      replace B10 := B10.later hb9
                      clear hb9
                      refine hK.out _ _ ?_ (fun hHeld => ?_)
                      · exact ⟨(HW.cell (p := ⟨g, i, none⟩) hgm).trans x5, (HW.cell (p := ⟨g, d, none⟩) hgm).trans x6, (E7.later HW).facts.1, (E7.later HW).facts.2, (E8.later HW).facts.1, (E8.later HW).facts.2⟩
                      clear hK K
                      try simp only [aSet, aHead, aTail]
                      refine till_fl (i := 15) rfl ?_
                      simp only [Act.put, aGet, aSucc, aZero, aSet, aHead, aTail]
                      refine till_fl (i := 16) rfl ?_
                      simp only [Act.put, aGet, aSucc, aZero, aSet, aHead, aTail]
                      refine till_fl (i := 17) rfl ?_
                      simp only [Act.put, aGet, aSucc, aZero, aSet, aHead, aTail]
                      exact till_go J0 (b9, a9, l9, c9, b10, a10, l10, c10, g9, g10) rfl (by kernel_rfl) (by (try dsimp only); rw [unhide HA]; simp only [Act.put, aSet, aHead, aTail]) (by (try dsimp only); exact ⟨HW, h9, h10, B9, hg9, B10, hg10, hneg9g10⟩)
                    refine till_mid 7 #[true, true, true, true, true, true, true, true, true, true, true, true, true, true, false, false, false, false, false, true, false, false] (ι := Nat) (fun g10 => (act0.put (some 15) ((.pointer (some ⟨g10, 0, none⟩))))) (fun g10 wz => Below wr.heap.size wr wz ∧ Box wz g10 false none 0 0 ∧ wr.heap.size ≤ g10) ?_ (fun J5 => ?_)
                    · rintro g10 wj hI
                      try dsimp only at hI ⊢
                      obtain ⟨HW, B10, hg10⟩ := hI
                      have hHeld : wj.cell? ⟨g, i, none⟩ = some (.slice (some ⟨g5, o5, none⟩) N c5) ∧ wj.cell? ⟨g, d, none⟩ = some (.slice (some ⟨g6, o6, none⟩) N c6) ∧ wj.cell? ⟨g5, o5 + c * 2, none⟩ = some (.bool b7) ∧ wj.cell? ⟨g5, o5 + c * 2 + 1, none⟩ = some (.slice a7 l7 c7) ∧ wj.cell? ⟨g6, o6 + c * 2, none⟩ = some (.bool b8) ∧ wj.cell? ⟨g6, o6 + c * 2 + 1, none⟩ = some (.slice a8 l8 c8) := by exact ⟨(HW.cell (p := ⟨g, i, none⟩) hgm).trans x5, (HW.cell (p := ⟨g, d, none⟩) hgm).trans x6, (E7.later HW).facts.1, (E7.later HW).facts.2, (E8.later HW).facts.1, (E8.later HW).facts.2⟩
                      rw [unhide HA]
                      simp only [Act.put, aSet, aHead, aTail]
                      refine till_two (i := 14) (j := 18) (by kernel_rfl) rfl rfl (fun K hK => ?_) (fun K hK => ?_)
                      · go_simp
                        refine (rdivK b7 a7 l7 c7 ((l2.getD i []).getD c 0) 222000 b8 a8 l8 c8 ((l2.getD d []).getD c 0) 222000 _ (y7.later HW) (y8.later HW) (unhide H0) (by omega) (by omega)).mono ?_
                        rintro e wk ⟨b9, a9, l9, c9, b10, a10, l10, c10, rfl, h9, h10, hb9⟩
                        replace HW := Below.step HW hb9
                        replace B10 := B10.later hb9
                        clear hb9
                        refine hK.out _ _ ?_ (fun hHeld => ?_)
                        · exact ⟨(HW.cell (p := ⟨g, i, none⟩) hgm).trans x5, (HW.cell (p := ⟨g, d, none⟩) hgm).trans x6, (E7.later HW).facts.1, (E7.later HW).facts.2, (E8.later HW).facts.1, (E8.later HW).facts.2⟩
                        clear hK K
                        try simp only [aSet, aHead, aTail]
                        refine till_fl (i := 15) rfl ?_
                        simp only [Act.put, aGet, aSucc, aZero, aSet, aHead, aTail]
                        refine till_fl (i := 16) rfl ?_
                        simp only [Act.put, aGet, aSucc, aZero, aSet, aHead, aTail]
                        refine till_fl (i := 17) rfl ?_
                        simp only [Act.put, aGet, aSucc, aZero, aSet, aHead, aTail]
                        exact till_go J1 (b9, a9, l9, c9, b10, a10, l10, c10, g10) rfl (by kernel_rfl) (by (try dsimp only); rw [unhide HA]; simp only [Act.put, aSet, aHead, aTail]) (by (try dsimp only); exact ⟨HW, h9, h10, B10, hg10⟩)
                      · go_simp
                        have hwk : wr.heap.size ≤ wj.heap.size := HW.size
                        have hxg10 := B10.lt
                        obtain ⟨wk, hWe⟩ : ∃ W', W' = wj.alloc (.cells #[.bool false, .slice none 0 0] 45) := ⟨_, rfl⟩
                        obtain ⟨B9, hb9⟩ := boxes1 wj false none 0 0 hWe
                        rw [← hWe]
                        clear hWe
                        replace HW := Below.step HW hb9
                        replace B10 := B10.later hb9
                        clear hb9
                        have hg9 := hwk
                        have hneg9g10 : wj.heap.size ≠ g10 := by omega
                        refine hK.out _ _ ?_ (fun hHeld => ?_)
                        · exact ⟨(HW.cell (p := ⟨g, i, none⟩) hgm).trans x5, (HW.cell (p := ⟨g, d, none⟩) hgm).trans x6, (E7.later HW).facts.1, (E7.later HW).facts.2, (E8.later HW).facts.1, (E8.later HW).facts.2⟩
                        clear hK K
                        try simp only [aSet, aHead, aTail]
                        exact till_go J4 (wj.heap.size, g10) rfl (by kernel_rfl) (by (try dsimp only); rw [unhide HA]; simp only [Act.put, aSet, aHead, aTail]) (by (try dsimp only); exact ⟨HW, B9, hg9, B10, hg10, hneg9g10⟩)
                    refine till_mid 7 #[true, true, true, true, true, true, true, true, true, true, true, true, true, true, false, false, false, false, true, false, false, false] (ι := Nat) (fun g9 => (act0.put (some 14) ((.pointer (some ⟨g9, 0, none⟩))))) (fun g9 wz => Below wr.heap.size wr wz ∧ Box wz g9 false none 0 0 ∧ wr.heap.size ≤ g9) ?_ (fun J6 => ?_)
                    · rintro g9 wj hI
                      try dsimp only at hI ⊢
                      obtain ⟨HW, B9, hg9⟩ := hI
                      have hHeld : wj.cell? ⟨g, i, none⟩ = some (.slice (some ⟨g5, o5, none⟩) N c5) ∧ wj.cell? ⟨g, d, none⟩ = some (.slice (some ⟨g6, o6, none⟩) N c6) ∧ wj.cell? ⟨g5, o5 + c * 2, none⟩ = some (.bool b7) ∧ wj.cell? ⟨g5, o5 + c * 2 + 1, none⟩ = some (.slice a7 l7 c7) ∧ wj.cell? ⟨g6, o6 + c * 2, none⟩ = some (.bool b8) ∧ wj.cell? ⟨g6, o6 + c * 2 + 1, none⟩ = some (.slice a8 l8 c8) := by exact ⟨(HW.cell (p := ⟨g, i, none⟩) hgm).trans x5, (HW.cell (p := ⟨g, d, none⟩) hgm).trans x6, (E7.later HW).facts.1, (E7.later HW).facts.2, (E8.later HW).facts.1, (E8.later HW).facts.2⟩
                      rw [unhide HA]
                      simp only [Act.put, aSet, aHead, aTail]
                      refine till_two (i := 14) (j := 19) (by kernel_rfl) rfl rfl (fun K hK => ?_) (fun K hK => ?_)
                      · go_simp
                        refine (rdivK b7 a7 l7 c7 ((l2.getD i []).getD c 0) 222000 b8 a8 l8 c8 ((l2.getD d []).getD c 0) 222000 _ (y7.later HW) (y8.later HW) (unhide H0) (by omega) (by omega)).mono ?_
                        rintro e wk ⟨b9, a9, l9, c9, b10, a10, l10, c10, rfl, h9, h10, hb9⟩
                        replace HW := Below.step HW hb9
                        replace B9 := B9.later hb9
                        clear hb9
                        refine hK.out _ _ ?_ (fun hHeld => ?_)
                        · exact ⟨(HW.cell (p := ⟨g, i, none⟩) hgm).trans x5, (HW.cell (p := ⟨g, d, none⟩) hgm).trans x6, (E7.later HW).facts.1, (E7.later HW).facts.2, (E8.later HW).facts.1, (E8.later HW).facts.2⟩
                        clear hK K
                        try simp only [aSet, aHead, aTail]
                        refine till_fl (i := 15) rfl ?_
                        simp only [Act.put, aGet, aSucc, aZero, aSet, aHead, aTail]
                        refine till_fl (i := 16) rfl ?_
                        simp only [Act.put, aGet, aSucc, aZero, aSet, aHead, aTail]
                        refine till_fl (i := 17) rfl ?_
                        simp only [Act.put, aGet, aSucc, aZero, aSet, aHead, aTail]
                        exact till_go J2 (b9, a9, l9, c9, b10, a10, l10, c10, g9) rfl (by kernel_rfl) (by (try dsimp only); rw [unhide HA]; simp only [Act.put, aSet, aHead, aTail]) (by (try dsimp only); exact ⟨HW, h9, h10, B9, hg9⟩)
                      · go_simp
                        have hwk : wr.heap.size ≤ wj.heap.size := HW.size
                        have hxg9 := B9.lt
                        obtain ⟨wk, hWe⟩ : ∃ W', W' = wj.alloc (.cells #[.bool false, .slice none 0 0] 45) := ⟨_, rfl⟩
                        obtain ⟨B10, hb9⟩ := boxes1 wj false none 0 0 hWe
                        rw [← hWe]
                        clear hWe
                        replace HW := Below.step HW hb9
                        replace B9 := B9.later hb9
                        clear hb9
                        have hg10 := hwk
                        have hneg9g10 : g9 ≠ wj.heap.size := by omega
                        refine hK.out _ _ ?_ (fun hHeld => ?_)
                        · exact ⟨(HW.cell (p := ⟨g, i, none⟩) hgm).trans x5, (HW.cell (p := ⟨g, d, none⟩) hgm).trans x6, (E7.later HW).facts.1, (E7.later HW).facts.2, (E8.later HW).facts.1, (E8.later HW).facts.2⟩
                        clear hK K
                        try simp only [aSet, aHead, aTail]
                        exact till_go J4 (g9, wj.heap.size) rfl (by kernel_rfl) (by (try dsimp only); rw [unhide HA]; simp only [Act.put, aSet, aHead, aTail]) (by (try dsimp only); exact ⟨HW, B9, hg9, B10, hg10, hneg9g10⟩)
                    rw [unhide HA]
                    refine till_three (i := 14) (j := 18) (k := 19) (by kernel_rfl) rfl rfl rfl (fun K hK => ?_) (fun K hK => ?_) (fun K hK => ?_)
                    · go_simp
                      refine (rdivK b7 a7 l7 c7 ((l2.getD i []).getD c 0) 222000 b8 a8 l8 c8 ((l2.getD d []).getD c 0) 222000 _ (y7.later HW) (y8.later HW) (unhide H0) (by omega) (by omega)).mono ?_
                      rintro e wk ⟨b9, a9, l9, c9, b10, a10, l10, c10, rfl, h9, h10, hb9⟩
                      replace HW := Below.step HW hb9
                      clear hb9
                      refine hK.out _ _ ?_ (fun hHeld => ?_)
                      · exact ⟨(HW.cell (p := ⟨g, i, none⟩) hgm).trans x5, (HW.cell (p := ⟨g, d, none⟩) hgm).trans x6, (E7.later HW).facts.1, (E7.later HW).facts.2, (E8.later HW).facts.1, (E8.later HW).facts.2⟩
                      clear hK K
                      try simp only [aSet, aHead, aTail]
                      refine till_fl (i := 15) rfl ?_
                      simp only [Act.put, aGet, aSucc, aZero, aSet, aHead, aTail]
                      refine till_fl (i := 16) rfl ?_
                      simp only [Act.put, aGet, aSucc, aZero, aSet, aHead, aTail]
                      refine till_fl (i := 17) rfl ?_
                      simp only [Act.put, aGet, aSucc, aZero, aSet, aHead, aTail]
                      exact till_go J3 (b9, a9, l9, c9, b10, a10, l10, c10) rfl (by kernel_rfl) (by (try dsimp only); rw [unhide HA]; simp only [Act.put, aSet, aHead, aTail]) (by (try dsimp only); exact ⟨HW, h9, h10⟩)
                    · go_simp
                      have hwk : wr.heap.size ≤ vd1.heap.size := HW.size
                      obtain ⟨wk, hWe⟩ : ∃ W', W' = vd1.alloc (.cells #[.bool false, .slice none 0 0] 45) := ⟨_, rfl⟩
                      obtain ⟨B9, hb9⟩ := boxes1 vd1 false none 0 0 hWe
                      rw [← hWe]
                      clear hWe
                      replace HW := Below.step HW hb9
                      clear hb9
                      have hg9 := hwk
                      refine hK.out _ _ ?_ (fun hHeld => ?_)
                      · exact ⟨(HW.cell (p := ⟨g, i, none⟩) hgm).trans x5, (HW.cell (p := ⟨g, d, none⟩) hgm).trans x6, (E7.later HW).facts.1, (E7.later HW).facts.2, (E8.later HW).facts.1, (E8.later HW).facts.2⟩
                      clear hK K
                      try simp only [aSet, aHead, aTail]
                      exact till_go J6 vd1.heap.size rfl (by kernel_rfl) (by (try dsimp only); rw [unhide HA]; simp only [Act.put, aSet, aHead, aTail]) (by (try dsimp only); exact ⟨HW, B9, hg9⟩)
                    · go_simp
                      have hwk : wr.heap.size ≤ vd1.heap.size := HW.size
                      obtain ⟨wk, hWe⟩ : ∃ W', W' = vd1.alloc (.cells #[.bool false, .slice none 0 0] 45) := ⟨_, rfl⟩
                      obtain ⟨B10, hb9⟩ := boxes1 vd1 false none 0 0 hWe
                      rw [← hWe]
                      clear hWe
                      replace HW := Below.step HW hb9
                      clear hb9
                      have hg10 := hwk
                      refine hK.out _ _ ?_ (fun hHeld => ?_)
                      · exact ⟨(HW.cell (p := ⟨g, i, none⟩) hgm).trans x5, (HW.cell (p := ⟨g, d, none⟩) hgm).trans x6, (E7.later HW).facts.1, (E7.later HW).facts.2, (E8.later HW).facts.1, (E8.later HW).facts.2⟩
                      clear hK K
                      try simp only [aSet, aHead, aTail]
                      exact till_go J5 vd1.heap.size rfl (by kernel_rfl) (by (try dsimp only); rw [unhide HA]; simp only [Act.put, aSet, aHead, aTail]) (by (try dsimp only); exact ⟨HW, B10, hg10⟩)
                · have hin : i = d := by omega
                  subst hin
                  have hi1 : ¬ (i : Int) < (i : Int) := by omega
                  go_wp2
                  go_roundw
                  case rel => exact ⟨i + 1, c + 1, l2, _, by omega, by omega, by go_num, by go_num, hown, (unhide HI).done (unhide HG), unhide HB⟩
                  case measure => simp [intOf]; omega
        · have hdp := ht.dp
          have hpn := ht.pn
          have HI0 := hide ht.inner
          have HV := hide ht.v0
          clear ht
          obtain ⟨g, rfl⟩ := hown.addr (by omega)
          go_wp2_with fail
          go_loopw [9, 10] (fun m t wr => ∃ (i : Nat) (l2 : List (List Int)) (b : Bool), d ≤ i ∧ i ≤ n ∧ t = .int .i64 (i : Int) ∧ m = .bool b ∧ RO wr w.heap.size (some ⟨g, 0, none⟩) n cl l2 ∧ HInner rs l2 c d n N pf aF bF Φ A P gk p i b ∧ Below w.heap.size w wr) (fun _ t _ => n - (intOf t).toNat)
          case atStart => exact ⟨d, l1, false, Nat.le_refl _, by omega, rfl, rfl, hown, unhide HI0, unhide HB⟩
          case round =>
            clear hown HI0 HB
            obtain ⟨i, l2, b, hdi, hi, rfl, rfl, hown, hin, hB⟩ := hrel
            have HI := hide hin
            have HB := hide hB
            clear hin hB
            by_cases hlt : i < n
            · have hi0 : (0 : Int) ≤ (i : Int) := by omega
              have hi1 : (i : Int) < (n : Int) := by omega
              have hp0 : (0 : Int) ≤ (p : Int) := by omega
              have hp1 : (p : Int) < (n : Int) := by omega
              by_cases hip : i = p
              · subst hip
                have hipq : ((i : Int) == (i : Int)) = true := by simp
                go_wp2
                go_roundw
                case rel => exact ⟨i + 1, l2, b, by omega, by omega, by go_num, rfl, hown, (unhide HI).skip (Or.inl rfl), unhide HB⟩
                case measure => simp [intOf]; omega
              · have hipq : ((i : Int) == (p : Int)) = false := by simp; omega
                have hipn : ¬ (i : Int) = (p : Int) := by omega
                obtain ⟨a5, l5, c5, x5, v5⟩ := hown.at hlt
                have hl5 : N = l5 := by rw [← v5.vk.len_eq]; exact ((unhide HI).lens i hlt).symm
                subst hl5
                obtain ⟨g5, o5, rfl⟩ := v5.vk.some (by omega)
                obtain ⟨b7, a7, l7, c7, E7, y7⟩ := v5.at hcN
                replace y7 := y7.1
                obtain ⟨f1, f2⟩ := E7.facts
                have hg5 := E7.1
                have hgm := hown.base_le.2
                obtain ⟨s, es⟩ : ∃ s, s = ((l2.getD i []).getD c 0).sign := ⟨_, rfl⟩
                go_wp2_with fail
                refine (rsignK b7 a7 l7 c7 ((l2.getD i []).getD c 0) 222000 s _ y7 es).mono ?_
                rintro e w6 ⟨rfl, hb9⟩
                replace hown := hown.later hb9
                replace HB := hide (Below.step (unhide HB) hb9)
                replace v5 := v5.later hb9
                replace E7 := E7.later hb9
                replace y7 := y7.later hb9
                replace x5 := (hb9.cell (p := ⟨g, i, none⟩) hgm).trans x5
                replace hgm := Nat.lt_of_lt_of_le hgm hb9.size
                clear hb9 f1 f2 hg5
                by_cases h0 : (l2.getD i []).getD c 0 = 0
                · have hs : (s == 0) = true := by rw [es, h0]; rfl
                  clear es v5 E7 y7 x5
                  go_wp2
                  go_roundw
                  case rel => exact ⟨i + 1, l2, b, by omega, by omega, by go_num, rfl, hown, (unhide HI).skip (Or.inr h0), unhide HB⟩
                  case measure => simp [intOf]; omega
                · have hs : (s == 0) = false := by
                    rw [beq_eq_false_iff_ne, es]
                    exact fun e => h0 (Int.sign_eq_zero_iff_zero.1 e)
                  have HX0 := hide (show ent l2 i c ≠ 0 from h0)
                  have H0 := hide (show (l2.getD p []).getD c 0 ≠ 0 from fun e => by
                    have h1 := (unhide HI).vp
                    have h2 := (unhide HI).v0
                    rw [show ent l2 p c = 0 from e] at h1
                    simp at h1
                    omega)
                  obtain ⟨a6, l6, c6, x6, v6⟩ := hown.at hpn
                  have hl6 : N = l6 := by rw [← v6.vk.len_eq]; exact ((unhide HI).lens p hpn).symm
                  subst hl6
                  obtain ⟨g6, o6, rfl⟩ := v6.vk.some (by omega)
                  obtain ⟨b8, a8, l8, c8, E8, y8⟩ := v6.at hcN
                  replace y8 := y8.1
                  clear es h0
                  go_upto_region 14 with fail
                  as_aux_lemma =>
                    have HW : Below w6.heap.size w6 w6.drew := (Below.refl _ _).drew
                    refine till_start (fun w' => w'.cell? ⟨g, i, none⟩ = some (.slice (some ⟨g5, o5, none⟩) N c5) ∧ w'.cell? ⟨g, p, none⟩ = some (.slice (some ⟨g6, o6, none⟩) N c6) ∧ w'.cell? ⟨g5, o5 + c * 2, none⟩ = some (.bool b7) ∧ w'.cell? ⟨g5, o5 + c * 2 + 1, none⟩ = some (.slice a7 l7 c7) ∧ w'.cell? ⟨g6, o6 + c * 2, none⟩ = some (.bool b8) ∧ w'.cell? ⟨g6, o6 + c * 2 + 1, none⟩ = some (.slice a8 l8 c8)) 20 (by kernel_rfl) ?_ (fun hHeld => ?_)
                    · exact ⟨(HW.cell (p := ⟨g, i, none⟩) hgm).trans x5, (HW.cell (p := ⟨g, p, none⟩) hgm).trans x6, (E7.later HW).facts.1, (E7.later HW).facts.2, (E8.later HW).facts.1, (E8.later HW).facts.2⟩
                    obtain ⟨vd1, hvd⟩ : ∃ v, v = w6.drew := ⟨_, rfl⟩
                    rw [← hvd] at HW hHeld ⊢
                    clear hvd
                    refine till_fl (i := 0) rfl ?_
                    simp only [Act.put, aGet, aZero, aSet, aHead, aTail]
                    refine till_fl (i := 1) rfl ?_
                    simp only [Act.put, aGet, aSucc, aZero, aSet, aHead, aTail]
                    refine till_tm (i := 2) [3, 5, 6, 14, 15, 16, 17, 20, 21] rfl ?_
                    simp only [Act.put, aGet, aSucc, aZero, aSet, aHead, aTail]
                    refine till_tm (i := 3) [5, 6, 14, 15, 16, 17, 20, 21] rfl ?_
                    simp only [Act.put, aGet, aSucc, aZero, aSet, aHead, aTail]
                    refine till_fl (i := 4) rfl ?_
                    simp only [Act.put, aGet, aSucc, aZero, aSet, aHead, aTail]
                    refine till_tm (i := 5) [6, 14, 15, 16, 17, 20, 21] rfl ?_
                    simp only [Act.put, aGet, aSucc, aZero, aSet, aHead, aTail]
                    refine till_tm (i := 6) [14, 15, 16, 17, 20, 21] rfl ?_
                    simp only [Act.put, aGet, aSucc, aZero, aSet, aHead, aTail]
                    refine till_fl (i := 7) rfl ?_
                    simp only [Act.put, aGet, aSucc, aZero, aSet, aHead, aTail]
                    refine till_fl (i := 8) rfl ?_
                    simp only [Act.put, aGet, aSucc, aZero, aSet, aHead, aTail]
                    refine till_tm (i := 9) [10, 12, 13, 14, 15, 16, 17, 20, 21] rfl ?_
                    simp only [Act.put, aGet, aSucc, aZero, aSet, aHead, aTail]
                    refine till_tm (i := 10) [12, 13, 14, 15, 16, 17, 20, 21] rfl ?_
                    simp only [Act.put, aGet, aSucc, aZero, aSet, aHead, aTail]
                    refine till_fl (i := 11) rfl ?_
                    simp only [Act.put, aGet, aSucc, aZero, aSet, aHead, aTail]
                    refine till_tm (i := 12) [13, 14, 15, 16, 17, 20, 21] rfl ?_
                    simp only [Act.put, aGet, aSucc, aZero, aSet, aHead, aTail]
                    refine till_tm (i := 13) [14, 15, 16, 17, 20, 21] rfl ?_
                    simp only [Act.put, aGet, aSucc, aZero, aSet, aHead, aTail]
                    refine till_name (fun act0 hact0 => ?_)
                    have HA := hide hact0
                    clear hact0
                    refine till_mid 2 #[true, true, true, true, true, true, true, true, true, true, true, true, true, true, true, true, true, true, true, true, false, false] (ι := Bool × Option Addr × Nat × Nat × Bool × Option Addr × Nat × Nat × Nat × Nat) (fun (b9, a9, l9, c9, b10, a10, l10, c10, g9, g10) => ((((((act0.put (some 69) (.tuple #[.agg #[.bool b9, .slice a9 l9 c9], .agg #[.bool b10, .slice a10 l10 c10]])).put (some 54) (.tuple #[.agg #[.bool b9, .slice a9 l9 c9], .agg #[.bool b10, .slice a10 l10 c10]])).put (some 70) (.agg #[.bool b9, .slice a9 l9 c9])).put (some 71) (.agg #[.bool b10, .slice a10 l10 c10])).put (some 11) ((.pointer (some ⟨g9, 0, none⟩)))).put (some 12) ((.pointer (some ⟨g10, 0, none⟩))))) (fun (b9, a9, l9, c9, b10, a10, l10, c10, g9, g10) wz => Below w6.heap.size w6 wz ∧ FK wz b9 a9 l9 c9 (((l2.getD i []).getD c 0).tdiv ((l2.getD p []).getD c 0)) 222000 ∧ FK wz b10 a10 l10 c10 (((l2.getD i []).getD c 0).tmod ((l2.getD p []).getD c 0)) 222000 ∧ Box wz g9 false none 0 0 ∧ w6.heap.size ≤ g9 ∧ Box wz g10 false none 0 0 ∧ w6.heap.size ≤ g10 ∧ g9 ≠ g10) ?_ (fun J0 => ?_)
                    · rintro ⟨b9, a9, l9, c9, b10, a10, l10, c10, g9, g10⟩ wj hI
                      try dsimp only at hI ⊢
                      obtain ⟨HW, h9, h10, B9, hg9, B10, hg10, hneg9g10⟩ := hI
                      have hHeld : wj.cell? ⟨g, i, none⟩ = some (.slice (some ⟨g5, o5, none⟩) N c5) ∧ wj.cell? ⟨g, p, none⟩ = some (.slice (some ⟨g6, o6, none⟩) N c6) ∧ wj.cell? ⟨g5, o5 + c * 2, none⟩ = some (.bool b7) ∧ wj.cell? ⟨g5, o5 + c * 2 + 1, none⟩ = some (.slice a7 l7 c7) ∧ wj.cell? ⟨g6, o6 + c * 2, none⟩ = some (.bool b8) ∧ wj.cell? ⟨g6, o6 + c * 2 + 1, none⟩ = some (.slice a8 l8 c8) := by exact ⟨(HW.cell (p := ⟨g, i, none⟩) hgm).trans x5, (HW.cell (p := ⟨g, p, none⟩) hgm).trans x6, (E7.later HW).facts.1, (E7.later HW).facts.2, (E8.later HW).facts.1, (E8.later HW).facts.2⟩
                      rw [unhide HA]
                      simp only [Act.put, aSet, aHead, aTail]
                      obtain ⟨q1B9, q2B9, q3B9, q4B9⟩ := B9.facts
                      have hltB9 := B9.lt
                      obtain ⟨q1B10, q2B10, q3B10, q4B10⟩ := B10.facts
                      have hltB10 := B10.lt
                      refine till_out (i := 20) (by kernel_rfl) rfl (by kernel_rfl) (fun K hK => ?_)
                      go_simp
                      refine hK.out _ _ ?_
                      clear hK K
                      try simp only [aSet, aHead, aTail]
                      refine till_out (i := 21) (by kernel_rfl) rfl (by kernel_rfl) (fun K hK => ?_)
                      go_simp
                      refine hK.out _ _ ?_
                      clear hK K
                      try simp only [aSet, aHead, aTail]
                      refine till_done (by kernel_rfl) ?_ _
                      have n7 := B9.noLimb
                      have n8 := (B10.other (g' := g9) (Ne.symm hneg9g10) b9 a9 l9 c9).noLimb
                      obtain ⟨W8, hW8⟩ : ∃ W8, W8 = ((((wj.setCell ⟨g9, 0, none⟩ (.bool b9)).setCell ⟨g9, 1, none⟩ (.slice a9 l9 c9)).setCell ⟨g10, 0, none⟩ (.bool b10)).setCell ⟨g10, 1, none⟩ (.slice a10 l10 c10)) := ⟨_, rfl⟩
                      rw [← hW8]
                      have Bq : Box W8 g9 b9 a9 l9 c9 := by rw [hW8]; exact (B9.put b9 a9 l9 c9).other (g' := g10) hneg9g10 b10 a10 l10 c10
                      have hQ : FK W8 b9 a9 l9 c9 (((l2.getD i []).getD c 0).tdiv ((l2.getD p []).getD c 0)) 222000 := by rw [hW8]; exact (h9.put n7 b9 a9 l9 c9).put n8 b10 a10 l10 c10
                      have HC : Below w6.heap.size w6 W8 := by rw [hW8]; exact below_put (below_put HW hg9 _ _ _ _) hg10 _ _ _ _
                      clear hW8 HW hHeld B9 B10 n7 n8 h9 h10 hltB9 hltB10 q1B9 q2B9 q3B9 q4B9 q1B10 q2B10 q3B10 q4B10
                      obtain ⟨qz, eqz⟩ : ∃ qz, qz = (((l2.getD i []).getD c 0).tdiv ((l2.getD p []).getD c 0)) := ⟨_, rfl⟩
                      rw [← eqz] at hQ
                      have EQZ := hide eqz
                      clear eqz
                      replace HB := hide (Below.step (unhide HB) HC)
                      replace hown := hown.later HC
                      replace v5 := v5.later HC
                      replace v6 := v6.later HC
                      replace x5 := (HC.cell (p := ⟨g, i, none⟩) hgm).trans x5
                      replace x6 := (HC.cell (p := ⟨g, p, none⟩) hgm).trans x6
                      replace hgm := Nat.lt_of_lt_of_le hgm HC.size
                      clear HC E7 E8 y7 y8
                      obtain ⟨f1, f2, _, _⟩ := Bq.facts
                      have hsQ := Bq.lt
                      go_upto_region 15 with fail
                      have HW : Below W8.heap.size W8 W8.drew := (Below.refl _ _).drew
                      refine till_start (fun w' => w'.cell? ⟨g, i, none⟩ = some (.slice (some ⟨g5, o5, none⟩) N c5) ∧ w'.cell? ⟨g, p, none⟩ = some (.slice (some ⟨g6, o6, none⟩) N c6) ∧ w'.cell? ⟨g9, 0, none⟩ = some (.bool b9) ∧ w'.cell? ⟨g9, 1, none⟩ = some (.slice a9 l9 c9)) 14 (by kernel_rfl) ?_ (fun hHeld => ?_)
                      · exact ⟨(HW.cell (p := ⟨g, i, none⟩) hgm).trans x5, (HW.cell (p := ⟨g, p, none⟩) hgm).trans x6, (Bq.later HW).facts.1, (Bq.later HW).facts.2.1⟩
                      refine till_tl (i := 0) [13, 14] rfl ?_
                      simp only [Act.put, aGet, aZero, aSet, aHead, aTail]
                      refine till_tl (i := 1) [13, 14] rfl ?_
                      simp only [Act.put, aGet, aSucc, aZero, aSet, aHead, aTail]
                      refine till_tl (i := 2) [4, 5, 12, 13, 14] rfl ?_
                      simp only [Act.put, aGet, aSucc, aZero, aSet, aHead, aTail]
                      refine till_tl (i := 3) [4, 5, 12, 13, 14] rfl ?_
                      simp only [Act.put, aGet, aSucc, aZero, aSet, aHead, aTail]
                      refine till_tl (i := 4) [5, 12, 13, 14] rfl ?_
                      simp only [Act.put, aGet, aSucc, aZero, aSet, aHead, aTail]
                      refine till_tl (i := 5) [12, 13, 14] rfl ?_
                      simp only [Act.put, aGet, aSucc, aZero, aSet, aHead, aTail]
                      refine till_tl (i := 6) [8, 9, 11, 12, 13, 14] rfl ?_
                      simp only [Act.put, aGet, aSucc, aZero, aSet, aHead, aTail]
                      refine till_tl (i := 7) [8, 9, 11, 12, 13, 14] rfl ?_
                      simp only [Act.put, aGet, aSucc, aZero, aSet, aHead, aTail]
                      refine till_tl (i := 8) [9, 11, 12, 13, 14] rfl ?_
                      simp only [Act.put, aGet, aSucc, aZero, aSet, aHead, aTail]
                      refine till_tl (i := 9) [11, 12, 13, 14] rfl ?_
                      simp only [Act.put, aGet, aSucc, aZero, aSet, aHead, aTail]
                      refine till_tl (i := 10) [11, 12, 13, 14] rfl ?_
                      simp only [Act.put, aGet, aSucc, aZero, aSet, aHead, aTail]
                      refine till_in (i := 11) (by kernel_rfl) rfl (fun K hK => ?_)
                      go_simp
                      refine (rvtimesK _ _ _ (l2.getD p []) 222000 b9 a9 l9 c9 qz 222000 _ (v6.later HW) ((hQ.later HW).sk (by omega)) (by omega) (by omega) (by omega)).mono ?_
                      rintro e w8 ⟨a11, c11, rfl, h11, hb9⟩
                      replace HW := Below.step HW hb9
                      clear hb9
                      refine hK.out _ _ ?_ (fun hHeld => ?_)
                      · exact ⟨(HW.cell (p := ⟨g, i, none⟩) hgm).trans x5, (HW.cell (p := ⟨g, p, none⟩) hgm).trans x6, (Bq.later HW).facts.1, (Bq.later HW).facts.2.1⟩
                      clear hK K
                      try simp only [Act.put, aGet, aSucc, aZero, aSet, aHead, aTail]
                      refine till_in (i := 12) (by kernel_rfl) rfl (fun K hK => ?_)
                      go_simp
                      refine (rvsubK _ _ _ (l2.getD i []) 222000 _ _ _ (vtimes (l2.getD p []) qz) (222000 + 222000) _ ((v5.later HW).vk) (h11.vs (by omega)) (by omega) (by omega) (by omega) (by omega)).mono ?_
                      rintro e w9 ⟨a12, c12, rfl, h12, hb9⟩
                      rw [Nat.max_self] at h12
                      (try rw [Nat.max_self])
                      replace HW := Below.step HW hb9
                      clear hb9 h11
                      refine hK.out _ _ ?_ (fun hHeld => ?_)
                      · exact ⟨(HW.cell (p := ⟨g, i, none⟩) hgm).trans x5, (HW.cell (p := ⟨g, p, none⟩) hgm).trans x6, (Bq.later HW).facts.1, (Bq.later HW).facts.2.1⟩
                      clear hK K
                      try simp only [Act.put, aGet, aSucc, aZero, aSet, aHead, aTail]
                      refine till_tl (i := 13) [14] rfl ?_
                      simp only [Act.put, aGet, aSucc, aZero, aSet, aHead, aTail]
                      have q5 := (HW.cell (p := ⟨g, i, none⟩) hgm).trans x5
                      have q7 := (hown.later HW).free i
                      refine till_out (i := 14) (by kernel_rfl) rfl (by kernel_rfl) (fun K hK => ?_)
                      go_simp
                      refine hK.out _ _ ?_
                      clear hK K
                      try simp only [Act.put, aGet, aSucc, aZero, aSet, aHead, aTail]
                      refine till_done (by kernel_rfl) ?_ _
                      clear q5 q7 hHeld f1 f2 hsQ Bq hQ
                      replace hown := hown.later HW
                      replace HB := hide (Below.step (unhide HB) HW)
                      clear HW v5 v6 x5 x6
                      have hr : ∀ j, (vsub (l2.getD i []) (vtimes (l2.getD p []) qz)).getD j 0 = ent l2 i j - (ent l2 i c).tdiv (ent l2 p c) * ent l2 p j := fun j => by rw [vsub_at, vtimes_at, unhide EQZ, Int.mul_comm]; rfl
                      have hrl : (vsub (l2.getD i []) (vtimes (l2.getD p []) qz)).length = N := by rw [vsub_len, vtimes_len, (unhide HI).lens i hlt, (unhide HI).lens p hpn, Nat.max_self]
                      obtain ⟨r, er⟩ : ∃ r, r = vsub (l2.getD i []) (vtimes (l2.getD p []) qz) := ⟨_, rfl⟩
                      rw [← er] at hr hrl h12
                      have HI2 := hide ((unhide HI).step hlt hdi hip (unhide HX0) hr hrl)
                      have hvr : VS w9 a12 N c12 r 222000 := (vf_tight (k := 222000) h12 fun j _ => by have := (unhide HI2).up i hdi j; rw [ent_same (by rw [(unhide HI).len]; exact hlt)] at this; exact Nat.lt_of_lt_of_le this (Bp_le (unhide HAB (d + 1) (by omega)))).vs (by omega)
                      have ho2 := ro_set hown hlt hvr
                      have HB2 := hide ((unhide HB).setCell (p := ⟨g, i, none⟩) (by simpa using hown.base_le.1) (.slice a12 N c12))
                      clear hrl h12 hvr hr
                      obtain ⟨WS, hWS⟩ : ∃ WS, WS = w9.setCell ⟨g, i, none⟩ (.slice a12 N c12) := ⟨_, rfl⟩
                      rw [← hWS] at ho2 HB2 ⊢
                      clear hWS hown HB
                      have hgs := ho2.base_le.2
                      obtain ⟨a14, l14, c14, hcell, hvr2⟩ := ho2.at hlt
                      rw [show (l2.set i r).getD i [] = r by simp [List.getD, (unhide HI).len, hlt]] at hvr2
                      have hl14 : N = l14 := by rw [← hvr2.vk.len_eq, er, vsub_len, vtimes_len, (unhide HI).lens i hlt, (unhide HI).lens p hpn, Nat.max_self]
                      subst hl14
                      clear er
                      obtain ⟨g12, o12, rfl⟩ := hvr2.vk.some (by omega)
                      obtain ⟨b13, a13, l13, c13, E13, y13⟩ := hvr2.at hcN
                      obtain ⟨f1, f2⟩ := E13.facts
                      have hg12 := E13.1
                      cases b with
                      | true =>
                        go_wp2
                        go_roundw
                        case rel => exact ⟨i + 1, _, true, by omega, by omega, by go_num, rfl, ho2, by have := unhide HI2; rwa [Bool.true_or] at this, unhide HB2⟩
                        case measure => simp [intOf]; omega
                      | false =>
                        obtain ⟨s, es⟩ : ∃ s, s = (r.getD c 0).sign := ⟨_, rfl⟩
                        go_wp2_with fail
                        refine (rsignK b13 a13 l13 c13 (r.getD c 0) 222000 s _ y13.1 es).mono ?_
                        rintro e w10 ⟨rfl, hb9⟩
                        have hs : (s != 0) = decide (r.getD c 0 ≠ 0) := by rw [es]; exact sign_ne _
                        have ho3 := ho2.later hb9
                        have HB3 := hide (Below.step (unhide HB2) hb9)
                        clear hb9 f1 f2 hg12 hcell hvr2 E13 y13 ho2 es
                        go_wp2
                        go_roundw
                        case rel => exact ⟨i + 1, _, _, by omega, by omega, by go_num, rfl, ho3, by simpa using unhide HI2, unhide HB3⟩
                        case measure => simp [intOf]; omega
                    refine till_mid 3 #[true, true, true, true, true, true, true, true, true, true, true, true, true, true, true, true, true, true, false, true, false, false] (ι := Bool × Option Addr × Nat × Nat × Bool × Option Addr × Nat × Nat × Nat) (fun (b9, a9, l9, c9, b10, a10, l10, c10, g10) => (((((act0.put (some 69) (.tuple #[.agg #[.bool b9, .slice a9 l9 c9], .agg #[.bool b10, .slice a10 l10 c10]])).put (some 54) (.tuple #[.agg #[.bool b9, .slice a9 l9 c9], .agg #[.bool b10, .slice a10 l10 c10]])).put (some 70) (.agg #[.bool b9, .slice a9 l9 c9])).put (some 71) (.agg #[.bool b10, .slice a10 l10 c10])).put (some 12) ((.pointer (some ⟨g10, 0, none⟩))))) (fun (b9, a9, l9, c9, b10, a10, l10, c10, g10) wz => Below w6.heap.size w6 wz ∧ FK wz b9 a9 l9 c9 (((l2.getD i []).getD c 0).tdiv ((l2.getD p []).getD c 0)) 222000 ∧ FK wz b10 a10 l10 c10 (((l2.getD i []).getD c 0).tmod ((l2.getD p []).getD c 0)) 222000 ∧ Box wz g10 false none 0 0 ∧ w6.heap.size ≤ g10) ?_ (fun J1 => ?_)
                    · rintro ⟨b9, a9, l9, c9, b10, a10, l10, c10, g10⟩ wj hI
                      try dsimp only at hI ⊢
                      obtain ⟨HW, h9, h10, B10, hg10⟩ := hI
                      have hHeld : wj.cell? ⟨g, i, none⟩ = some (.slice (some ⟨g5, o5, none⟩) N c5) ∧ wj.cell? ⟨g, p, none⟩ = some (.slice (some ⟨g6, o6, none⟩) N c6) ∧ wj.cell? ⟨g5, o5 + c * 2, none⟩ = some (.bool b7) ∧ wj.cell? ⟨g5, o5 + c * 2 + 1, none⟩ = some (.slice a7 l7 c7) ∧ wj.cell? ⟨g6, o6 + c * 2, none⟩ = some (.bool b8) ∧ wj.cell? ⟨g6, o6 + c * 2 + 1, none⟩ = some (.slice a8 l8 c8) := by exact ⟨(HW.cell (p := ⟨g, i, none⟩) hgm).trans x5, (HW.cell (p := ⟨g, p, none⟩) hgm).trans x6, (E7.later HW).facts.1, (E7.later HW).facts.2, (E8.later HW).facts.1, (E8.later HW).facts.2⟩
                      rw [unhide HA]
                      simp only [Act.put, aSet, aHead, aTail]
                      refine till_in (i := 18) (by kernel_rfl) rfl (fun K hK => ?_)
                      go_simp
                      have hwk : w6.heap.size ≤ wj.heap.size := HW.size
                      have hxg10 := B10.lt
                      obtain ⟨wk, hWe⟩ : ∃ W', W' = wj.alloc (.cells #[.bool false, .slice none 0 0] 45) := ⟨_, rfl⟩
                      obtain ⟨B9, hb9⟩ := boxes1 wj false none 0 0 hWe
                      rw [← hWe]
                      clear hWe
                      replace HW := Below.step HW hb9
                      replace h9 := h9.later hb9
                      replace h10 := h10.later hb9
                      replace B10 := B10.later hb9
                      clear hb9
                      have hg9 := hwk
                      have hneg9g10 : wj.heap.size ≠ g10 := by omega
                      refine hK.out _ _ ?_ (fun hHeld => ?_)
                      · exact ⟨(HW.cell (p := ⟨g, i, none⟩) hgm).trans x5, (HW.cell (p := ⟨g, p, none⟩) hgm).trans x6, (E7.later HW).facts.1, (E7.later HW).facts.2, (E8.later HW).facts.1, (E8.later HW).facts.2⟩
                      clear hK K
                      try simp only [aSet, aHead, aTail]
                      exact till_go J0 (b9, a9, l9, c9, b10, a10, l10, c10, wj.heap.size, g10) rfl (by kernel_rfl) (by (try dsimp only); rw [unhide HA]; simp only [Act.put, aSet, aHead, aTail]) (by (try dsimp only); exact ⟨HW, h9, h10, B9, hg9, B10, hg10, hneg9g10⟩)
                    refine till_mid 3 #[true, true, true, true, true, true, true, true, true, true, true, true, true, true, true, true, true, true, true, false, false, false] (ι := Bool × Option Addr × Nat × Nat × Bool × Option Addr × Nat × Nat × Nat) (fun (b9, a9, l9, c9, b10, a10, l10, c10, g9) => (((((act0.put (some 69) (.tuple #[.agg #[.bool b9, .slice a9 l9 c9], .agg #[.bool b10, .slice a10 l10 c10]])).put (some 54) (.tuple #[.agg #[.bool b9, .slice a9 l9 c9], .agg #[.bool b10, .slice a10 l10 c10]])).put (some 70) (.agg #[.bool b9, .slice a9 l9 c9])).put (some 71) (.agg #[.bool b10, .slice a10 l10 c10])).put (some 11) ((.pointer (some ⟨g9, 0, none⟩))))) (fun (b9, a9, l9, c9, b10, a10, l10, c10, g9) wz => Below w6.heap.size w6 wz ∧ FK wz b9 a9 l9 c9 (((l2.getD i []).getD c 0).tdiv ((l2.getD p []).getD c 0)) 222000 ∧ FK wz b10 a10 l10 c10 (((l2.getD i []).getD c 0).tmod ((l2.getD p []).getD c 0)) 222000 ∧ Box wz g9 false none 0 0 ∧ w6.heap.size ≤ g9) ?_ (fun J2 => ?_)
                    · rintro ⟨b9, a9, l9, c9, b10, a10, l10, c10, g9⟩ wj hI
                      try dsimp only at hI ⊢
                      obtain ⟨HW, h9, h10, B9, hg9⟩ := hI
                      have hHeld : wj.cell? ⟨g, i, none⟩ = some (.slice (some ⟨g5, o5, none⟩) N c5) ∧ wj.cell? ⟨g, p, none⟩ = some (.slice (some ⟨g6, o6, none⟩) N c6) ∧ wj.cell? ⟨g5, o5 + c * 2, none⟩ = some (.bool b7) ∧ wj.cell? ⟨g5, o5 + c * 2 + 1, none⟩ = some (.slice a7 l7 c7) ∧ wj.cell? ⟨g6, o6 + c * 2, none⟩ = some (.bool b8) ∧ wj.cell? ⟨g6, o6 + c * 2 + 1, none⟩ = some (.slice a8 l8 c8) := by exact ⟨(HW.cell (p := ⟨g, i, none⟩) hgm).trans x5, (HW.cell (p := ⟨g, p, none⟩) hgm).trans x6, (E7.later HW).facts.1, (E7.later HW).facts.2, (E8.later HW).facts.1, (E8.later HW).facts.2⟩
                      rw [unhide HA]
                      simp only [Act.put, aSet, aHead, aTail]
                      refine till_in (i := 19) (by kernel_rfl) rfl (fun K hK => ?_)
                      go_simp
                      have hwk : w6.heap.size ≤ wj.heap.size := HW.size
                      have hxg9 := B9.lt
                      obtain ⟨wk, hWe⟩ : ∃ W', W' = wj.alloc (.cells #[.bool false, .slice none 0 0] 45) := ⟨_, rfl⟩
                      obtain ⟨B10, hb9⟩ := boxes1 wj false none 0 0 hWe
                      rw [← hWe]
                      clear hWe
                      replace HW := Below.step HW hb9
                      replace h9 := h9.later hb9
                      replace h10 := h10.later hb9
                      replace B9 := B9.later hb9
                      clear hb9
                      have hg10 := hwk
                      have hneg9g10 : g9 ≠ wj.heap.size := by omega
                      refine hK.out _ _ ?_ (fun hHeld => ?_)
                      · exact ⟨(HW.cell (p := ⟨g, i, none⟩) hgm).trans x5, (HW.cell (p := ⟨g, p, none⟩) hgm).trans x6, (E7.later HW).facts.1, (E7.later HW).facts.2, (E8.later HW).facts.1, (E8.later HW).facts.2⟩
                      clear hK K
                      try simp only [aSet, aHead, aTail]
                      exact till_go J0 (b9, a9, l9, c9, b10, a10, l10, c10, g9, wj.heap.size) rfl (by kernel_rfl) (by (try dsimp only); rw [unhide HA]; simp only [Act.put, aSet, aHead, aTail]) (by (try dsimp only); exact ⟨HW, h9, h10, B9, hg9, B10, hg10, hneg9g10⟩)
                    refine till_mid 4 #[true, true, true, true, true, true, true, true, true, true, true, true, true, true, true, true, true, true, false, false, false, false] (ι := Bool × Option Addr × Nat × Nat × Bool × Option Addr × Nat × Nat) (fun (b9, a9, l9, c9, b10, a10, l10, c10) => ((((act0.put (some 69) (.tuple #[.agg #[.bool b9, .slice a9 l9 c9], .agg #[.bool b10, .slice a10 l10 c10]])).put (some 54) (.tuple #[.agg #[.bool b9, .slice a9 l9 c9], .agg #[.bool b10, .slice a10 l10 c10]])).put (some 70) (.agg #[.bool b9, .slice a9 l9 c9])).put (some 71) (.agg #[.bool b10, .slice a10 l10 c10]))) (fun (b9, a9, l9, c9, b10, a10, l10, c10) wz => Below w6.heap.size w6 wz ∧ FK wz b9 a9 l9 c9 (((l2.getD i []).getD c 0).tdiv ((l2.getD p []).getD c 0)) 222000 ∧ FK wz b10 a10 l10 c10 (((l2.getD i []).getD c 0).tmod ((l2.getD p []).getD c 0)) 222000) ?_ (fun J3 => ?_)
                    · rintro ⟨b9, a9, l9, c9, b10, a10, l10, c10⟩ wj hI
                      try dsimp only at hI ⊢
                      obtain ⟨HW, h9, h10⟩ := hI
                      have hHeld : wj.cell? ⟨g, i, none⟩ = some (.slice (some ⟨g5, o5, none⟩) N c5) ∧ wj.cell? ⟨g, p, none⟩ = some (.slice (some ⟨g6, o6, none⟩) N c6) ∧ wj.cell? ⟨g5, o5 + c * 2, none⟩ = some (.bool b7) ∧ wj.cell? ⟨g5, o5 + c * 2 + 1, none⟩ = some (.slice a7 l7 c7) ∧ wj.cell? ⟨g6, o6 + c * 2, none⟩ = some (.bool b8) ∧ wj.cell? ⟨g6, o6 + c * 2 + 1, none⟩ = some (.slice a8 l8 c8) := by exact ⟨(HW.cell (p := ⟨g, i, none⟩) hgm).trans x5, (HW.cell (p := ⟨g, p, none⟩) hgm).trans x6, (E7.later HW).facts.1, (E7.later HW).facts.2, (E8.later HW).facts.1, (E8.later HW).facts.2⟩
                      rw [unhide HA]
                      simp only [Act.put, aSet, aHead, aTail]
                      refine till_two (i := 18) (j := 19) (by kernel_rfl) rfl rfl (fun K hK => ?_) (fun K hK => ?_)
                      · go_simp
                        have hwk : w6.heap.size ≤ wj.heap.size := HW.size
                        obtain ⟨wk, hWe⟩ : ∃ W', W' = wj.alloc (.cells #[.bool false, .slice none 0 0] 45) := ⟨_, rfl⟩
                        obtain ⟨B9, hb9⟩ := boxes1 wj false none 0 0 hWe
                        rw [← hWe]
                        clear hWe
                        replace HW := Below.step HW hb9
                        replace h9 := h9.later hb9
                        replace h10 := h10.later hb9
                        clear hb9
                        have hg9 := hwk
                        refine hK.out _ _ ?_ (fun hHeld => ?_)
                        · exact ⟨(HW.cell (p := ⟨g, i, none⟩) hgm).trans x5, (HW.cell (p := ⟨g, p, none⟩) hgm).trans x6, (E7.later HW).facts.1, (E7.later HW).facts.2, (E8.later HW).facts.1, (E8.later HW).facts.2⟩
                        clear hK K
                        try simp only [aSet, aHead, aTail]
                        exact till_go J2 (b9, a9, l9, c9, b10, a10, l10, c10, wj.heap.size) rfl (by kernel_rfl) (by (try dsimp only); rw [unhide HA]; simp only [Act.put, aSet, aHead, aTail]) (by (try dsimp only); exact ⟨HW, h9, h10, B9, hg9⟩)
                      · go_simp
                        have hwk : w6.heap.size ≤ wj.heap.size := HW.size
                        obtain ⟨wk, hWe⟩ : ∃ W', W' = wj.alloc (.cells #[.bool false, .slice none 0 0] 45) := ⟨_, rfl⟩
                        obtain ⟨B10, hb9⟩ := boxes1 wj false none 0 0 hWe
                        rw [← hWe]
                        clear hWe
                        replace HW := Below.step HW hb9
                        replace h9 := h9.later hb9
                        replace h10 := h10.later hb9
                        clear hb9
                        have hg10 := hwk
                        refine hK.out _ _ ?_ (fun hHeld => ?_)
                        · exact ⟨(HW.cell (p := ⟨g, i, none⟩) hgm).trans x5, (HW.cell (p := ⟨g, p, none⟩) hgm).trans x6, (E7.later HW).facts.1, (E7.later HW).facts.2, (E8.later HW).facts.1, (E8.later HW).facts.2⟩
                        clear hK K
                        try simp only [aSet, aHead, aTail]
                        exact till_go J1 (b9, a9, l9, c9, b10, a10, l10, c10, wj.heap.size) rfl (by kernel_rfl) (by (try dsimp only); rw [unhide HA]; simp only [Act.put, aSet, aHead, aTail]) (by (try dsimp only); exact ⟨HW, h9, h10, B10, hg10⟩)
                    refine till_mid 6 #[true, true, true, true, true, true, true, true, true, true, true, true, true, true, false, false, false, false, true, true, false, false] (ι := Nat × Nat) (fun (g9, g10) => ((act0.put (some 11) ((.pointer (some ⟨g9, 0, none⟩)))).put (some 12) ((.pointer (some ⟨g10, 0, none⟩))))) (fun (g9, g10) wz => Below w6.heap.size w6 wz ∧ Box wz g9 false none 0 0 ∧ w6.heap.size ≤ g9 ∧ Box wz g10 false none 0 0 ∧ w6.heap.size ≤ g10 ∧ g9 ≠ g10) ?_ (fun J4 => ?_)
                    · rintro ⟨g9, g10⟩ wj hI
                      try dsimp only at hI ⊢
                      obtain ⟨HW, B9, hg9, B10, hg10, hneg9g10⟩ := hI
                      have hHeld : wj.cell? ⟨g, i, none⟩ = some (.slice (some ⟨g5, o5, none⟩) N c5) ∧ wj.cell? ⟨g, p, none⟩ = some (.slice (some ⟨g6, o6, none⟩) N c6) ∧ wj.cell? ⟨g5, o5 + c * 2, none⟩ = some (.bool b7) ∧ wj.cell? ⟨g5, o5 + c * 2 + 1, none⟩ = some (.slice a7 l7 c7) ∧ wj.cell? ⟨g6, o6 + c * 2, none⟩ = some (.bool b8) ∧ wj.cell? ⟨g6, o6 + c * 2 + 1, none⟩ = some (.slice a8 l8 c8) := by exact ⟨(HW.cell (p := ⟨g, i, none⟩) hgm).trans x5, (HW.cell (p := ⟨g, p, none⟩) hgm).trans x6, (E7.later HW).facts.1, (E7.later HW).facts.2, (E8.later HW).facts.1, (E8.later HW).facts.2⟩
                      rw [unhide HA]
                      simp only [Act.put, aSet, aHead, aTail]
                      refine till_in (i := 14) (by kernel_rfl) rfl (fun K hK => ?_)
                      go_simp
                      refine (rquoK b7 a7 l7 c7 ((l2.getD i []).getD c 0) 222000 b8 a8 l8 c8 ((l2.getD p []).getD c 0) 222000 _ (y7.later HW) (y8.later HW) (unhide H0)).mono ?_
                      rintro e wk ⟨b9, a9, l9, c9, b10, a10, l10, c10, rfl, h9, h10, hb9⟩
                      replace HW := Below.step HW hb9
                      replace B9 := B9.later hb9
                      replace B10 := B10.later hb9
                      clear hb9
                      refine hK.out _ _ ?_ (fun hHeld => ?_)
                      · exact ⟨(HW.cell (p := ⟨g, i, none⟩) hgm).trans x5, (HW.cell (p := ⟨g, p, none⟩) hgm).trans x6, (E7.later HW).facts.1, (E7.later HW).facts.2, (E8.later HW).facts.1, (E8.later HW).facts.2⟩
                      clear hK K
                      try simp only [aSet, aHead, aTail]
                      refine till_fl (i := 15) rfl ?_
                      simp only [Act.put, aGet, aSucc, aZero, aSet, aHead, aTail]
                      refine till_fl (i := 16) rfl ?_
                      simp only [Act.put, aGet, aSucc, aZero, aSet, aHead, aTail]
                      refine till_fl (i := 17) rfl ?_
                      simp only [Act.put, aGet, aSucc, aZero, aSet, aHead, aTail]
                      exact till_go J0 (b9, a9, l9, c9, b10, a10, l10, c10, g9, g10) rfl (by kernel_rfl) (by (try dsimp only); rw [unhide HA]; simp only [Act.put, aSet, aHead, aTail]) (by (try dsimp only); exact ⟨HW, h9, h10, B9, hg9, B10, hg10, hneg9g10⟩)
                    refine till_mid 7 #[true, true, true, true, true, true, true, true, true, true, true, true, true, true, false, false, false, false, false, true, false, false] (ι := Nat) (fun g10 => (act0.put (some 12) ((.pointer (some ⟨g10, 0, none⟩))))) (fun g10 wz => Below w6.heap.size w6 wz ∧ Box wz g10 false none 0 0 ∧ w6.heap.size ≤ g10) ?_ (fun J5 => ?_)
                    · rintro g10 wj hI
                      try dsimp only at hI ⊢
                      obtain ⟨HW, B10, hg10⟩ := hI
                      have hHeld : wj.cell? ⟨g, i, none⟩ = some (.slice (some ⟨g5, o5, none⟩) N c5) ∧ wj.cell? ⟨g, p, none⟩ = some (.slice (some ⟨g6, o6, none⟩) N c6) ∧ wj.cell? ⟨g5, o5 + c * 2, none⟩ = some (.bool b7) ∧ wj.cell? ⟨g5, o5 + c * 2 + 1, none⟩ = some (.slice a7 l7 c7) ∧ wj.cell? ⟨g6, o6 + c * 2, none⟩ = some (.bool b8) ∧ wj.cell? ⟨g6, o6 + c * 2 + 1, none⟩ = some (.slice a8 l8 c8) := by exact ⟨(HW.cell (p := ⟨g, i, none⟩) hgm).trans x5, (HW.cell (p := ⟨g, p, none⟩) hgm).trans x6, (E7.later HW).facts.1, (E7.later HW).facts.2, (E8.later HW).facts.1, (E8.later HW).facts.2⟩
                      rw [unhide HA]
                      simp only [Act.put, aSet, aHead, aTail]
                      refine till_two (i := 14) (j := 18) (by kernel_rfl) rfl rfl (fun K hK => ?_) (fun K hK => ?_)
                      · go_simp
                        refine (rquoK b7 a7 l7 c7 ((l2.getD i []).getD c 0) 222000 b8 a8 l8 c8 ((l2.getD p []).getD c 0) 222000 _ (y7.later HW) (y8.later HW) (unhide H0)).mono ?_
                        rintro e wk ⟨b9, a9, l9, c9, b10, a10, l10, c10, rfl, h9, h10, hb9⟩
                        replace HW := Below.step HW hb9
                        replace B10 := B10.later hb9
                        clear hb9
                        refine hK.out _ _ ?_ (fun hHeld => ?_)
                        · exact ⟨(HW.cell (p := ⟨g, i, none⟩) hgm).trans x5, (HW.cell (p := ⟨g, p, none⟩) hgm).trans x6, (E7.later HW).facts.1, (E7.later HW).facts.2, (E8.later HW).facts.1, (E8.later HW).facts.2⟩
                        clear hK K
                        try simp only [aSet, aHead, aTail]
                        refine till_fl (i := 15) rfl ?_
                        simp only [Act.put, aGet, aSucc, aZero, aSet, aHead, aTail]
                        refine till_fl (i := 16) rfl ?_
                        simp only [Act.put, aGet, aSucc, aZero, aSet, aHead, aTail]
                        refine till_fl (i := 17) rfl ?_
                        simp only [Act.put, aGet, aSucc, aZero, aSet, aHead, aTail]
                        exact till_go J1 (b9, a9, l9, c9, b10, a10, l10, c10, g10) rfl (by kernel_rfl) (by (try dsimp only); rw [unhide HA]; simp only [Act.put, aSet, aHead, aTail]) (by (try dsimp only); exact ⟨HW, h9, h10, B10, hg10⟩)
                      · go_simp
                        have hwk : w6.heap.size ≤ wj.heap.size := HW.size
                        have hxg10 := B10.lt
                        obtain ⟨wk, hWe⟩ : ∃ W', W' = wj.alloc (.cells #[.bool false, .slice none 0 0] 45) := ⟨_, rfl⟩
                        obtain ⟨B9, hb9⟩ := boxes1 wj false none 0 0 hWe
                        rw [← hWe]
                        clear hWe
                        replace HW := Below.step HW hb9
                        replace B10 := B10.later hb9
                        clear hb9
                        have hg9 := hwk
                        have hneg9g10 : wj.heap.size ≠ g10 := by omega
                        refine hK.out _ _ ?_ (fun hHeld => ?_)
                        · exact ⟨(HW.cell (p := ⟨g, i, none⟩) hgm).trans x5, (HW.cell (p := ⟨g, p, none⟩) hgm).trans x6, (E7.later HW).facts.1, (E7.later HW).facts.2, (E8.later HW).facts.1, (E8.later HW).facts.2⟩
                        clear hK K
                        try simp only [aSet, aHead, aTail]
                        exact till_go J4 (wj.heap.size, g10) rfl (by kernel_rfl) (by (try dsimp only); rw [unhide HA]; simp only [Act.put, aSet, aHead, aTail]) (by (try dsimp only); exact ⟨HW, B9, hg9, B10, hg10, hneg9g10⟩)
                    refine till_mid 7 #[true, true, true, true, true, true, true, true, true, true, true, true, true, true, false, false, false, false, true, false, false, false] (ι := Nat) (fun g9 => (act0.put (some 11) ((.pointer (some ⟨g9, 0, none⟩))))) (fun g9 wz => Below w6.heap.size w6 wz ∧ Box wz g9 false none 0 0 ∧ w6.heap.size ≤ g9) ?_ (fun J6 => ?_)
                    · rintro g9 wj hI
                      try dsimp only at hI ⊢
                      obtain ⟨HW, B9, hg9⟩ := hI
                      have hHeld : wj.cell? ⟨g, i, none⟩ = some (.slice (some ⟨g5, o5, none⟩) N c5) ∧ wj.cell? ⟨g, p, none⟩ = some (.slice (some ⟨g6, o6, none⟩) N c6) ∧ wj.cell? ⟨g5, o5 + c * 2, none⟩ = some (.bool b7) ∧ wj.cell? ⟨g5, o5 + c * 2 + 1, none⟩ = some (.slice a7 l7 c7) ∧ wj.cell? ⟨g6, o6 + c * 2, none⟩ = some (.bool b8) ∧ wj.cell? ⟨g6, o6 + c * 2 + 1, none⟩ = some (.slice a8 l8 c8) := by exact ⟨(HW.cell (p := ⟨g, i, none⟩) hgm).trans x5, (HW.cell (p := ⟨g, p, none⟩) hgm).trans x6, (E7.later HW).facts.1, (E7.later HW).facts.2, (E8.later HW).facts.1, (E8.later HW).facts.2⟩
                      rw [unhide HA]
                      simp only [Act.put, aSet, aHead, aTail]
                      refine till_two (i := 14) (j := 19) (by kernel_rfl) rfl rfl (fun K hK => ?_) (fun K hK => ?_)
                      · go_simp
                        refine (rquoK b7 a7 l7 c7 ((l2.getD i []).getD c 0) 222000 b8 a8 l8 c8 ((l2.getD p []).getD c 0) 222000 _ (y7.later HW) (y8.later HW) (unhide H0)).mono ?_
                        rintro e wk ⟨b9, a9, l9, c9, b10, a10, l10, c10, rfl, h9, h10, hb9⟩
                        replace HW := Below.step HW hb9
                        replace B9 := B9.later hb9
                        clear hb9
                        refine hK.out _ _ ?_ (fun hHeld => ?_)
                        · exact ⟨(HW.cell (p := ⟨g, i, none⟩) hgm).trans x5, (HW.cell (p := ⟨g, p, none⟩) hgm).trans x6, (E7.later HW).facts.1, (E7.later HW).facts.2, (E8.later HW).facts.1, (E8.later HW).facts.2⟩
                        clear hK K
                        try simp only [aSet, aHead, aTail]
                        refine till_fl (i := 15) rfl ?_
                        simp only [Act.put, aGet, aSucc, aZero, aSet, aHead, aTail]
                        refine till_fl (i := 16) rfl ?_
                        simp only [Act.put, aGet, aSucc, aZero, aSet, aHead, aTail]
                        refine till_fl (i := 17) rfl ?_
                        simp only [Act.put, aGet, aSucc, aZero, aSet, aHead, aTail]
                        exact till_go J2 (b9, a9, l9, c9, b10, a10, l10, c10, g9) rfl (by kernel_rfl) (by (try dsimp only); rw [unhide HA]; simp only [Act.put, aSet, aHead, aTail]) (by (try dsimp only); exact ⟨HW, h9, h10, B9, hg9⟩)
                      · go_simp
                        have hwk : w6.heap.size ≤ wj.heap.size := HW.size
                        have hxg9 := B9.lt
                        obtain ⟨wk, hWe⟩ : ∃ W', W' = wj.alloc (.cells #[.bool false, .slice none 0 0] 45) := ⟨_, rfl⟩
                        obtain ⟨B10, hb9⟩ := boxes1 wj false none 0 0 hWe
                        rw [← hWe]
                        clear hWe
                        replace HW := Below.step HW hb9
                        replace B9 := B9.later hb9
                        clear hb9
                        have hg10 := hwk
                        have hneg9g10 : g9 ≠ wj.heap.size := by omega
                        refine hK.out _ _ ?_ (fun hHeld => ?_)
                        · exact ⟨(HW.cell (p := ⟨g, i, none⟩) hgm).trans x5, (HW.cell (p := ⟨g, p, none⟩) hgm).trans x6, (E7.later HW).facts.1, (E7.later HW).facts.2, (E8.later HW).facts.1, (E8.later HW).facts.2⟩
                        clear hK K
                        try simp only [aSet, aHead, aTail]
                        exact till_go J4 (g9, wj.heap.size) rfl (by kernel_rfl) (by (try dsimp only); rw [unhide HA]; simp only [Act.put, aSet, aHead, aTail]) (by (try dsimp only); exact ⟨HW, B9, hg9, B10, hg10, hneg9g10⟩)
                    rw [unhide HA]
                    refine till_three (i := 14) (j := 18) (k := 19) (by kernel_rfl) rfl rfl rfl (fun K hK => ?_) (fun K hK => ?_) (fun K hK => ?_)
                    · go_simp
                      refine (rquoK b7 a7 l7 c7 ((l2.getD i []).getD c 0) 222000 b8 a8 l8 c8 ((l2.getD p []).getD c 0) 222000 _ (y7.later HW) (y8.later HW) (unhide H0)).mono ?_
                      rintro e wk ⟨b9, a9, l9, c9, b10, a10, l10, c10, rfl, h9, h10, hb9⟩
                      replace HW := Below.step HW hb9
                      clear hb9
                      refine hK.out _ _ ?_ (fun hHeld => ?_)
                      · exact ⟨(HW.cell (p := ⟨g, i, none⟩) hgm).trans x5, (HW.cell (p := ⟨g, p, none⟩) hgm).trans x6, (E7.later HW).facts.1, (E7.later HW).facts.2, (E8.later HW).facts.1, (E8.later HW).facts.2⟩
                      clear hK K
                      try simp only [aSet, aHead, aTail]
                      refine till_fl (i := 15) rfl ?_
                      simp only [Act.put, aGet, aSucc, aZero, aSet, aHead, aTail]
                      refine till_fl (i := 16) rfl ?_
                      simp only [Act.put, aGet, aSucc, aZero, aSet, aHead, aTail]
                      refine till_fl (i := 17) rfl ?_
                      simp only [Act.put, aGet, aSucc, aZero, aSet, aHead, aTail]
                      exact till_go J3 (b9, a9, l9, c9, b10, a10, l10, c10) rfl (by kernel_rfl) (by (try dsimp only); rw [unhide HA]; simp only [Act.put, aSet, aHead, aTail]) (by (try dsimp only); exact ⟨HW, h9, h10⟩)
                    · go_simp
                      have hwk : w6.heap.size ≤ vd1.heap.size := HW.size
                      obtain ⟨wk, hWe⟩ : ∃ W', W' = vd1.alloc (.cells #[.bool false, .slice none 0 0] 45) := ⟨_, rfl⟩
                      obtain ⟨B9, hb9⟩ := boxes1 vd1 false none 0 0 hWe
                      rw [← hWe]
                      clear hWe
                      replace HW := Below.step HW hb9
                      clear hb9
                      have hg9 := hwk
                      refine hK.out _ _ ?_ (fun hHeld => ?_)
                      · exact ⟨(HW.cell (p := ⟨g, i, none⟩) hgm).trans x5, (HW.cell (p := ⟨g, p, none⟩) hgm).trans x6, (E7.later HW).facts.1, (E7.later HW).facts.2, (E8.later HW).facts.1, (E8.later HW).facts.2⟩
                      clear hK K
                      try simp only [aSet, aHead, aTail]
                      exact till_go J6 vd1.heap.size rfl (by kernel_rfl) (by (try dsimp only); rw [unhide HA]; simp only [Act.put, aSet, aHead, aTail]) (by (try dsimp only); exact ⟨HW, B9, hg9⟩)
                    · go_simp
                      have hwk : w6.heap.size ≤ vd1.heap.size := HW.size
                      obtain ⟨wk, hWe⟩ : ∃ W', W' = vd1.alloc (.cells #[.bool false, .slice none 0 0] 45) := ⟨_, rfl⟩
                      obtain ⟨B10, hb9⟩ := boxes1 vd1 false none 0 0 hWe
                      rw [← hWe]
                      clear hWe
                      replace HW := Below.step HW hb9
                      clear hb9
                      have hg10 := hwk
                      refine hK.out _ _ ?_ (fun hHeld => ?_)
                      · exact ⟨(HW.cell (p := ⟨g, i, none⟩) hgm).trans x5, (HW.cell (p := ⟨g, p, none⟩) hgm).trans x6, (E7.later HW).facts.1, (E7.later HW).facts.2, (E8.later HW).facts.1, (E8.later HW).facts.2⟩
                      clear hK K
                      try simp only [aSet, aHead, aTail]
                      exact till_go J5 vd1.heap.size rfl (by kernel_rfl) (by (try dsimp only); rw [unhide HA]; simp only [Act.put, aSet, aHead, aTail]) (by (try dsimp only); exact ⟨HW, B10, hg10⟩)
            · have hin : i = n := by omega
              subst hin
              have hi1 : ¬ (i : Int) < (i : Int) := by omega
              go_wp2_with fail
              refine (leastK _ i cl l2 222000 N d c _ hown.mk (unhide HI).lens hcN hdn0 hn (by omega)).mono ?_
              rintro e w7 ⟨z, rfl, hz, hb9⟩
              replace hown := hown.later hb9
              replace HB := hide (Below.step (unhide HB) hb9)
              obtain ⟨v', hr, hlt'⟩ := (unhide HI).rnd hz
              have HR := hide hr
              clear hb9 hz hr
              go_wp2
              go_roundg v'
              case measure => exact hlt'
              case rel => exact ⟨z, b, l2, rfl, rfl, hown, unhide HR, unhide HB⟩
    · have hin : c = N := by omega
      subst hin
      have hc1 : ¬ (c : Int) < (c : Int) := by omega
      obtain ⟨hf, hsl⟩ := (unhide HS).done
      have HF := hide hf
      have HSL := hide hsl
      have HLN := hide (unhide HS).lens
      clear hf hsl HS HG HAB HBB
      obtain ⟨w5, hw5⟩ : ∃ x, x = wr := ⟨_, rfl⟩
      subst hw5
      go_wp2_with fail
      go_loopw [16, 17] (fun s t wx => ∃ (i : Nat) (ao' : Option Addr) (cap' : Nat), i ≤ d ∧ t = .int .i64 (i : Int) ∧ s = .slice ao' i cap' ∧ MO wx w5.heap.size ao' i cap' (l.take i) 222000 ∧ Below w5.heap.size w5 wx) (fun _ t _ => d - (intOf t).toNat)
      case atStart => exact ⟨0, none, 0, Nat.zero_le _, rfl, rfl, mOwn_nil _ _ _, Below.refl _ _⟩
      case round =>
        obtain ⟨i, ao', cap', hi, rfl, rfl, hout, hB⟩ := hrel
        have HC := hide hB
        clear hB
        by_cases hlt : i < d
        · have hin : i < n := by omega
          have hi0 : (0 : Int) ≤ (i : Int) := by omega
          have hi1 : (i : Int) < (d : Int) := by omega
          have hi2 : (i : Int) < (n : Int) := by omega
          obtain ⟨g, rfl⟩ := hown.addr (by omega)
          obtain ⟨a5, l5, c5, x5, v5⟩ := hown.at hin
          have hg0 := hown.base_le.2
          have x6 := ((unhide HC).cell (p := ⟨g, i, none⟩) hg0).trans x5
          have hgm := Nat.lt_of_lt_of_le hg0 (unhide HC).size
          have HNL := hide v5.vk.len_eq
          have hl5 : l5 ≤ 1000 := by rw [← v5.vk.len_eq, unhide HLN i hin]; omega
          go_wp2_with fail
          refine (rvnegK a5 l5 c5 (l.getD i []) 222000 _ (v5.later (unhide HC)) (by omega) (by omega)).mono ?_
          rintro e w6 ⟨a6, c6, rfl, h6, hb9⟩
          replace hout := hout.later hb9
          replace HC := hide (Below.step (unhide HC) hb9)
          clear hb9
          go_wp2_with fail
          refine (rvnegK a6 l5 c6 (vneg (l.getD i [])) (222000 + 2) _ (h6.vs (by omega)) (by omega) (by omega)).mono ?_
          rintro e w7 ⟨a7, c7, rfl, h7, hb9⟩
          replace hout := hout.later hb9
          replace HC := hide (Below.step (unhide HC) hb9)
          rw [vneg_neg] at h7
          replace h7 := vf_tight (k := 222000) h7 fun j hj => v5.lt hj
          obtain ⟨z, ez⟩ : ∃ z, z = l.getD i [] := ⟨_, rfl⟩
          obtain ⟨LL, eL⟩ : ∃ LL, LL = l.take i := ⟨_, rfl⟩
          rw [← ez] at h7
          rw [← eL] at hout
          have EZ := hide ez
          have EL := hide eL
          clear hb9 h6 x5 x6 v5 ez eL hg0 hgm
          obtain ⟨W6, hW6⟩ : ∃ W6, W6 = w7.alloc (.cells #[.slice a7 l5 c7] 39) := ⟨_, rfl⟩
          have hb9 : Below w7.heap.size w7 W6 := by rw [hW6]; exact below_new _ _
          have hone := mf_one h7
          replace hout := hout.later hb9
          have HC2 := hide (Below.step (unhide HC) hb9)
          clear hb9 h7
          have hsz := (unhide HC2).size
          rw [hW6] at hout hsz
          go_wp2_with (at_builtin; refine append_rows (R := fun w a l c zs => VF w a l c zs 222000) (steadyMO 222000) rfl (.tmp 179) (.tmp 186) 22 Tryz.underlying22 rfl w5.heap.size ao' i cap' LL rfl hout _ 1 1 [z] rfl hone (by omega) hsz ?_)
          intro an cn w8 hout2 hgr7
          rw [← hW6] at hgr7 hout hsz
          clear hW6 hone
          have HD := (unhide HC2).grown hgr7 hsz (MO.ge hout)
          clear hgr7
          go_wp2
          go_roundw
          case rel => exact ⟨i + 1, _, _, by omega, by go_num, rfl, by rw [take_snoc [] (by rw [hown.len]; exact hin), ← unhide EL, ← unhide EZ]; exact hout2, HD⟩
          case measure => simp [intOf]; omega
        · have hin : i = d := by omega
          subst hin
          have hi1 : ¬ (i : Int) < (i : Int) := by omega
          have hln := hown.len
          go_wp2
          go_ret
          refine ⟨_, i, _, rfl, _, _, hout.mf, unhide HF, unhide HSL, fun r hr => ?_, by omega, Below.step (unhide HB) (unhide HC)⟩
          obtain ⟨j, hj, e⟩ := List.getElem_of_mem hr
          have hji : j < i := by rw [List.length_take] at hj; omega
          have := unhide HLN j (by omega)
          rw [← getD_take hji] at this
          rw [← e, ← this, List.getD_eq_getElem?_getD, List.getElem?_eq_getElem hj]
          rfl

theorem refHnfK (ao : Option Addr) (n cap : Nat) (rs : List (List Int)) (a N : Nat) (w : World) (h : MS w ao n cap rs a) (_ : a ≤ 222000) (hN : ∀ i, i < n → (rs.getD i []).length = N) (hn : n ≤ 1000) (hNl : N ≤ 1000) (hA : ∀ d, d ≤ n → aS a n d ≤ 222000) (hB : ∀ d, d ≤ n → bS a n d ≤ 222000) :
    Calls Tryz.prog 11 #[.slice ao n cap, .int .i64 (N : Int)] w fun e w' => ∃ a1 m c1 p hs, e = .returned (.slice a1 m c1) ∧ MF w' a1 m c1 hs 222000 ∧ HForm hs p ∧ SameL rs hs ∧ (∀ r ∈ hs, r.length = N) ∧ m ≤ n ∧ Below w.heap.size w w' :=
  refHnfG ao n cap rs (aS a n) (bS a n) N w h (grows_of rs a n N) hN hn hNl hA hB
/-- Of the unit rows, however many (64 at most, as the document has it). -/
theorem refHnfU (ao : Option Addr) (n cap a : Nat) (w : World) (h : MS w ao n cap (unitL n) a) (h1 : 1 ≤ a) (ha : a ≤ 222000) (hN : ∀ i, i < n → ((unitL n).getD i []).length = n) (hn : n ≤ 1000) :
    Calls Tryz.prog 11 #[.slice ao n cap, .int .i64 (n : Int)] w fun e w' => ∃ a1 m c1 p hs, e = .returned (.slice a1 m c1) ∧ MF w' a1 m c1 hs 222000 ∧ HForm hs p ∧ SameL (unitL n) hs ∧ (∀ r ∈ hs, r.length = n) ∧ m ≤ n ∧ Below w.heap.size w w' :=
  refHnfG ao n cap (unitL n) (fun _ => a) (fun _ => a) n w h (grows_unit h1) hN hn hn (fun _ _ => ha) (fun _ _ => ha)

#print axioms refHnfK
#print axioms refHnfU
end Go.Proofs.YtnpneloahajniaaGreat
