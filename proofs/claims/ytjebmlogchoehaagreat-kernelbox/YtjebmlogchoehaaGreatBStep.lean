/-
  What step of package bezout tells: Euclid's rule, once.
-/
import Derived.Test.YtjebmlogchoehaaGreatBRow
namespace Go.Proofs.YtjebmlogchoehaaGreat
open Go.RowKit Lb
set_option maxRecDepth 20000

set_option maxHeartbeats 2000000 in
theorem stepK (bp0 : Bool) (ap0 : Option Addr) (lp0 cp0 : Nat) (bp1 : Bool) (ap1 : Option Addr) (lp1 cp1 : Nat) (bp2 : Bool) (ap2 : Option Addr) (lp2 cp2 : Nat) (bq0 : Bool) (aq0 : Option Addr) (lq0 cq0 : Nat) (bq1 : Bool) (aq1 : Option Addr) (lq1 cq1 : Nat) (bq2 : Bool) (aq2 : Option Addr) (lq2 cq2 : Nat) (p0 p1 p2 q0 q1 q2 : Int) (kk : Nat) (w : World) (hp0 : FK w bp0 ap0 lp0 cp0 p0 kk) (hq0 : FK w bq0 aq0 lq0 cq0 q0 kk) (hp1 : FK w bp1 ap1 lp1 cp1 p1 kk) (hq1 : FK w bq1 aq1 lq1 cq1 q1 kk) (hp2 : FK w bp2 ap2 lp2 cp2 p2 kk) (hq2 : FK w bq2 aq2 lq2 cq2 q2 kk) (hkk0 : kk ≤ 90000) (h0 : q0 ≠ 0) :
    Calls Tryz.prog 118 #[.agg #[.bool bp0, .slice ap0 lp0 cp0, .bool bp1, .slice ap1 lp1 cp1, .bool bp2, .slice ap2 lp2 cp2], .agg #[.bool bq0, .slice aq0 lq0 cq0, .bool bq1, .slice aq1 lq1 cq1, .bool bq2, .slice aq2 lq2 cq2]] w fun e w' => ∃ b0 a0 l0 c0 b1 a1 l1 c1 b2 a2 l2 c2, e = .returned (.agg #[.bool b0, .slice a0 l0 c0, .bool b1, .slice a1 l1 c1, .bool b2, .slice a2 l2 c2]) ∧
      FK w' b0 a0 l0 c0 (p0.tmod q0) kk ∧ FK w' b1 a1 l1 c1 (p1 - p0.tdiv q0 * q1) (max kk (kk + kk) + 1) ∧ FK w' b2 a2 l2 c2 (p2 - p0.tdiv q0 * q2) (max kk (kk + kk) + 1) ∧ Below w.heap.size w w' := by
  have hkk : kk ≤ 999990 := by omega
  go_enter Tryz.func118, Tryz.ntmps118
  go_wp2_with fail
  obtain ⟨W1, hW1⟩ : ∃ W1, W1 = w.alloc (.cells #[.bool bp0, .slice ap0 lp0 cp0, .bool bp1, .slice ap1 lp1 cp1, .bool bp2, .slice ap2 lp2 cp2] 117) := ⟨_, rfl⟩
  obtain ⟨C0, hb1⟩ := box6_new w bp0 ap0 lp0 cp0 bp1 ap1 lp1 cp1 bp2 ap2 lp2 cp2 hW1
  obtain ⟨W2, hW2⟩ : ∃ W2, W2 = W1.alloc (.cells #[.bool bq0, .slice aq0 lq0 cq0, .bool bq1, .slice aq1 lq1 cq1, .bool bq2, .slice aq2 lq2 cq2] 117) := ⟨_, rfl⟩
  obtain ⟨C1, hb2⟩ := box6_new W1 bq0 aq0 lq0 cq0 bq1 aq1 lq1 cq1 bq2 aq2 lq2 cq2 hW2
  obtain ⟨W3, hW3⟩ : ∃ W3, W3 = W2.alloc (.cells #[.bool false, .slice none 0 0, .bool false, .slice none 0 0, .bool false, .slice none 0 0] 117) := ⟨_, rfl⟩
  obtain ⟨C2, hb3⟩ := box6_new W2 false none 0 0 false none 0 0 false none 0 0 hW3
  have e1 : W1.heap.size = w.heap.size + 1 := by rw [hW1]; simp
  have e2 : W2.heap.size = w.heap.size + 1 + 1 := by rw [hW2]; simp [e1]
  rw [e1] at C1
  rw [e2] at C2
  rw [← hW1, ← hW2, ← hW3]
  clear hW1 hW2 hW3
  replace C0 := (C0.later hb2).later hb3
  replace C1 := C1.later hb3
  have HB := hide (Below.step (Below.step hb1 hb2) hb3)
  clear hb1 hb2 hb3 e1 e2
  replace hp0 := hp0.later (unhide HB)
  replace hp1 := hp1.later (unhide HB)
  replace hp2 := hp2.later (unhide HB)
  replace hq0 := hq0.later (unhide HB)
  replace hq1 := hq1.later (unhide HB)
  replace hq2 := hq2.later (unhide HB)
  refine (quoK bp0 ap0 lp0 cp0 p0 kk bq0 aq0 lq0 cq0 q0 kk _ (hp0.ik hkk) (hq0.ik hkk) h0).mono ?_
  rintro e w4 ⟨bt, at', lt, ct, bl, al, ll, cl, rfl, ht, hl, hb9⟩
  replace C0 := C0.later hb9
  replace C1 := C1.later hb9
  replace C2 := C2.later hb9
  replace hp1 := hp1.later hb9
  replace hp2 := hp2.later hb9
  replace hq1 := hq1.later hb9
  replace hq2 := hq2.later hb9
  replace HB := hide (Below.step (unhide HB) hb9)
  clear hb9 hp0 hq0
  go_upto_region 2 with fail
  obtain ⟨W5, hW5⟩ : ∃ W5, W5 = ((w4.alloc (.cells #[.bool bt, .slice at' lt ct] 39)).alloc (.cells #[.bool bl, .slice al ll cl] 39)) := ⟨_, rfl⟩
  obtain ⟨D0, D1, hb9⟩ := boxes2 w4 bt at' lt ct bl al ll cl hW5
  have hsz := C2.lt
  rw [← hW5]
  clear hW5
  replace C0 := C0.later hb9
  replace C1 := C1.later hb9
  replace C2 := C2.later hb9
  replace hp1 := hp1.later hb9
  replace hp2 := hp2.later hb9
  replace hq1 := hq1.later hb9
  replace hq2 := hq2.later hb9
  replace ht := ht.later hb9
  replace hl := hl.later hb9
  replace HB := hide (Below.step (unhide HB) hb9)
  clear hb9
  obtain ⟨X0, X1, X2⟩ := C0.facts
  obtain ⟨Y0, Y1, Y2⟩ := C1.facts
  have HW : Below W5.heap.size W5 W5.drew := (Below.refl _ _).drew
  refine till_start (fun w' => w'.cell? ⟨w4.heap.size + 1, 0, none⟩ = some (.bool bl) ∧ w'.cell? ⟨w4.heap.size + 1, 1, none⟩ = some (.slice al ll cl) ∧ w'.cell? ⟨w4.heap.size, 0, none⟩ = some (.bool bt) ∧ w'.cell? ⟨w4.heap.size, 1, none⟩ = some (.slice at' lt ct) ∧ w'.cell? ⟨w.heap.size, 2, none⟩ = some (.bool bp1) ∧ w'.cell? ⟨w.heap.size, 3, none⟩ = some (.slice ap1 lp1 cp1) ∧ w'.cell? ⟨w.heap.size, 4, none⟩ = some (.bool bp2) ∧ w'.cell? ⟨w.heap.size, 5, none⟩ = some (.slice ap2 lp2 cp2) ∧ w'.cell? ⟨w.heap.size + 1, 2, none⟩ = some (.bool bq1) ∧ w'.cell? ⟨w.heap.size + 1, 3, none⟩ = some (.slice aq1 lq1 cq1) ∧ w'.cell? ⟨w.heap.size + 1, 4, none⟩ = some (.bool bq2) ∧ w'.cell? ⟨w.heap.size + 1, 5, none⟩ = some (.slice aq2 lq2 cq2)) 16 (by kernel_rfl) ?_ (fun hHeld => ?_)
  · exact ⟨(D1.later HW).facts.1, (D1.later HW).facts.2.1, (D0.later HW).facts.1, (D0.later HW).facts.2.1, (X1.later HW).facts.1, (X1.later HW).facts.2, (X2.later HW).facts.1, (X2.later HW).facts.2, (Y1.later HW).facts.1, (Y1.later HW).facts.2, (Y2.later HW).facts.1, (Y2.later HW).facts.2⟩
  refine till_tl (i := 0) [15, 16] rfl ?_
  simp only [Act.put, aGet, aZero, aSet, aHead, aTail]
  refine till_tl (i := 1) [2, 7, 13, 14, 15, 16] rfl ?_
  simp only [Act.put, aGet, aSucc, aZero, aSet, aHead, aTail]
  refine till_tl (i := 2) [7, 13, 14, 15, 16] rfl ?_
  simp only [Act.put, aGet, aSucc, aZero, aSet, aHead, aTail]
  refine till_tl (i := 3) [6, 7, 13, 14, 15, 16] rfl ?_
  simp only [Act.put, aGet, aSucc, aZero, aSet, aHead, aTail]
  refine till_tl (i := 4) [5, 6, 7, 13, 14, 15, 16] rfl ?_
  simp only [Act.put, aGet, aSucc, aZero, aSet, aHead, aTail]
  refine till_tl (i := 5) [6, 7, 13, 14, 15, 16] rfl ?_
  simp only [Act.put, aGet, aSucc, aZero, aSet, aHead, aTail]
  refine till_tl (i := 8) [9, 14, 15, 16] rfl ?_
  simp only [Act.put, aGet, aSucc, aZero, aSet, aHead, aTail]
  refine till_tl (i := 9) [14, 15, 16] rfl ?_
  simp only [Act.put, aGet, aSucc, aZero, aSet, aHead, aTail]
  refine till_tl (i := 10) [13, 14, 15, 16] rfl ?_
  simp only [Act.put, aGet, aSucc, aZero, aSet, aHead, aTail]
  refine till_tl (i := 11) [12, 13, 14, 15, 16] rfl ?_
  simp only [Act.put, aGet, aSucc, aZero, aSet, aHead, aTail]
  refine till_tl (i := 12) [13, 14, 15, 16] rfl ?_
  simp only [Act.put, aGet, aSucc, aZero, aSet, aHead, aTail]
  refine till_in (i := 6) (by kernel_rfl) rfl (fun K hK => ?_)
  go_simp
  refine (mulK bt at' lt ct (p0.tdiv q0) kk bq1 aq1 lq1 cq1 q1 kk _ ((ht.later HW).ik hkk) ((hq1.later HW).ik hkk)).mono ?_
  rintro e w9 ⟨bm, am, lm, cm, rfl, hm, hb9⟩
  replace HW := Below.step HW hb9
  clear hb9
  refine hK.out _ _ ?_ (fun hHeld => ?_)
  · exact ⟨(D1.later HW).facts.1, (D1.later HW).facts.2.1, (D0.later HW).facts.1, (D0.later HW).facts.2.1, (X1.later HW).facts.1, (X1.later HW).facts.2, (X2.later HW).facts.1, (X2.later HW).facts.2, (Y1.later HW).facts.1, (Y1.later HW).facts.2, (Y2.later HW).facts.1, (Y2.later HW).facts.2⟩
  clear hK K
  try simp only [Act.put, aGet, aSucc, aZero, aSet, aHead, aTail]
  refine till_in (i := 7) (by kernel_rfl) rfl (fun K hK => ?_)
  go_simp
  refine (subK bp1 ap1 lp1 cp1 p1 kk bm am lm cm ((p0.tdiv q0) * q1) (kk + kk) _ ((hp1.later HW).ik hkk) (hm.ik (by omega))).mono ?_
  rintro e w9 ⟨bu, au, lu, cu, rfl, hu, hb9⟩
  replace HW := Below.step HW hb9
  clear hb9
  clear hm
  refine hK.out _ _ ?_ (fun hHeld => ?_)
  · exact ⟨(D1.later HW).facts.1, (D1.later HW).facts.2.1, (D0.later HW).facts.1, (D0.later HW).facts.2.1, (X1.later HW).facts.1, (X1.later HW).facts.2, (X2.later HW).facts.1, (X2.later HW).facts.2, (Y1.later HW).facts.1, (Y1.later HW).facts.2, (Y2.later HW).facts.1, (Y2.later HW).facts.2⟩
  clear hK K
  try simp only [Act.put, aGet, aSucc, aZero, aSet, aHead, aTail]
  refine till_in (i := 13) (by kernel_rfl) rfl (fun K hK => ?_)
  go_simp
  refine (mulK bt at' lt ct (p0.tdiv q0) kk bq2 aq2 lq2 cq2 q2 kk _ ((ht.later HW).ik hkk) ((hq2.later HW).ik hkk)).mono ?_
  rintro e w9 ⟨bn, an, ln, cn, rfl, hn, hb9⟩
  replace HW := Below.step HW hb9
  replace hu := hu.later hb9
  clear hb9
  refine hK.out _ _ ?_ (fun hHeld => ?_)
  · exact ⟨(D1.later HW).facts.1, (D1.later HW).facts.2.1, (D0.later HW).facts.1, (D0.later HW).facts.2.1, (X1.later HW).facts.1, (X1.later HW).facts.2, (X2.later HW).facts.1, (X2.later HW).facts.2, (Y1.later HW).facts.1, (Y1.later HW).facts.2, (Y2.later HW).facts.1, (Y2.later HW).facts.2⟩
  clear hK K
  try simp only [Act.put, aGet, aSucc, aZero, aSet, aHead, aTail]
  refine till_in (i := 14) (by kernel_rfl) rfl (fun K hK => ?_)
  go_simp
  refine (subK bp2 ap2 lp2 cp2 p2 kk bn an ln cn ((p0.tdiv q0) * q2) (kk + kk) _ ((hp2.later HW).ik hkk) (hn.ik (by omega))).mono ?_
  rintro e w9 ⟨bv, av, lv, cv, rfl, hv, hb9⟩
  replace HW := Below.step HW hb9
  replace hu := hu.later hb9
  clear hb9
  clear hn
  obtain ⟨⟨_, r0, r1⟩, ⟨_, r2, r3⟩, ⟨_, r4, r5⟩⟩ := (C2.later HW).facts
  have fz := (C2.later HW).free
  have hs9 := (C2.later HW).lt
  refine hK.out _ _ ?_ (fun hHeld => ?_)
  · exact ⟨(D1.later HW).facts.1, (D1.later HW).facts.2.1, (D0.later HW).facts.1, (D0.later HW).facts.2.1, (X1.later HW).facts.1, (X1.later HW).facts.2, (X2.later HW).facts.1, (X2.later HW).facts.2, (Y1.later HW).facts.1, (Y1.later HW).facts.2, (Y2.later HW).facts.1, (Y2.later HW).facts.2⟩
  clear hK K
  try simp only [Act.put, aGet, aSucc, aZero, aSet, aHead, aTail]
  refine till_tl (i := 15) [16] rfl ?_
  simp only [Act.put, aGet, aSucc, aZero, aSet, aHead, aTail]
  refine till_out (i := 16) (by kernel_rfl) rfl (by kernel_rfl) (fun K hK => ?_)
  go_simp
  refine hK.out _ _ ?_
  clear hK K
  try simp only [Act.put, aGet, aSucc, aZero, aSet, aHead, aTail]
  refine till_done (by kernel_rfl) ?_ _
  go_wp2
  refine bodyPost_ret (v := .agg #[.bool bl, .slice al ll cl, .bool bu, .slice au lu cu, .bool bv, .slice av lv cv]) (by simp [results, Tryz.results118, go_sem, *]) rfl ⟨_, _, _, _, _, _, _, _, _, _, _, _, rfl, ?_⟩
  have hgr := grown_put6 w9 (w.heap.size + 1 + 1) bl al ll cl bu au lu cu bv av lv cv
  have hnl := noLimb_some (C2.later HW).noLimb
  exact ⟨(hl.later HW).grown hgr hnl, hu.grown hgr hnl, hv.grown hgr hnl, Below.put6 (Below.step (unhide HB) HW) (by omega) bl al ll cl bu au lu cu bv av lv cv⟩

#print axioms stepK
end Go.Proofs.YtjebmlogchoehaaGreat
