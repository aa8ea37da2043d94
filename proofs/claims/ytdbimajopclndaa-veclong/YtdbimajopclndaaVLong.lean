/-
  The walk of VecLong: it tells true.
-/
import Derived.Test.YtdbimajopclndaaLaw7
import Derived.Test.YtdbimajopclndaaVecOwn
import Derived.Deep.CutRange
namespace Go.Proofs.Ytdbimajopclndaa
open Go.RowKit Lb

theorem SK.grown {w w' : World} {b : Bool} {ao : Option Addr} {len cap k : Nat} {z : Int} {row : Option Nat} (h : SK w b ao len cap z k) (hg : w.grownBy w' row) (hn : ∀ g, row = some g → NoLimb w g) : SK w' b ao len cap z k := ⟨h.1.grown hg hn, h.2⟩
theorem steady_sk (k : Nat) : Steady (fun w b a l c z => SK w b a l c z k) := fun h hg hn => SK.grown h hg hn

set_option maxRecDepth 20000 in
set_option maxHeartbeats 4000000 in
theorem vecLong_walk (a0 : Option Addr) (len0 cap0 : Nat) (zs0 : List Int) (a1 : Option Addr) (len1 cap1 : Nat) (zs1 : List Int) (m2 : Int) (w : World) (r0 : VI w a0 len0 cap0 zs0) (r1 : VI w a1 len1 cap1 zs1) (r2 : (Lit.int .u8 m2).wf = true) :
    Calls Try.prog 8 #[.slice a0 len0 cap0, .slice a1 len1 cap1, .int .u8 m2] w fun e w' => e = .returned (.bool true) ∧ Below w.heap.size w w' := by
  have L0 := hide r0.len_eq
  have L1 := hide r1.len_eq
  go_enter Try.func8, Try.ntmps8
  go_wp2_with fail
  have hbR := below_new w (.cells #[.slice a0 len0 cap0, .slice a1 len1 cap1] 23)
  refine (few7_2 a0 len0 cap0 zs0 a1 len1 cap1 zs1 w w.heap.size rfl r0 r1).mono ?_
  rintro e v0 ⟨q, rfl, hq01, hq, hb1⟩
  have HB := hide hb1
  by_cases hf : q = 0
  · subst hf
    obtain ⟨s0, s1⟩ := hq rfl
    have n0 := s0.1
    have n1 := s1.1
    have S0 := hide (vs_later r0 hbR s0 _ hb1)
    have S1 := hide (vs_later r1 hbR s1 _ hb1)
    obtain ⟨kx, ekx⟩ : ∃ kx, kx = 12 := ⟨_, rfl⟩
    rw [← ekx] at S0 S1
    have hkx : kx ≤ 12 := by omega
    clear ekx hq01 hq hbR hb1 s0 r0 s1 r1
    obtain ⟨M, eM⟩ : ∃ M : Nat, m2 = (M : Int) := ⟨m2.toNat, by have := bounds_u8 r2; omega⟩
    subst eM
    have hM : M ≤ 255 := by have := bounds_u8 r2; omega
    clear r2
    have hW0 := ownOf_empty (R := (fun w b a l c z => SK w b a l c z kx)) (w := v0) (base := v0.heap.size) (n := v0.heap.size) rfl (Nat.le_refl _)
    have hb9 := below_new v0 (.cells #[] 26)
    have hsv : v0.heap.size ≤ (v0.alloc (.cells #[] 26)).heap.size := hb9.size
    have hS := (unhide S0).later hb9
    go_wp2_with (at_builtin; refine append_vecs (R := (fun w b a l c z => SK w b a l c z kx)) (steady_sk kx) rfl (.tmp 16) (.tmp 17) 23 Try.underlying23 rfl v0.heap.size _ 0 0 [] rfl hW0 _ len0 cap0 zs0 rfl hS (by omega) hsv ?_)
    intro an cn v1 hown hgr
    have hg := hW0.ge
    have hb1 := hb9.grown hgr hsv hg
    clear hW0 hgr hsv hS hg hb9
    obtain ⟨k, ek⟩ : ∃ k, k = M % 6 := ⟨_, rfl⟩
    have hk6 : k < 6 := by omega
    have EK := hide ek
    clear ek
    have hw1 := hb1.size
    go_wp2_with (at_builtin; refine zeros_vec (R := (fun w b a l c z => SK w b a l c z kx)) (steady_sk kx) (fun w => (fk_zero w kx).sk (by omega)) rfl (.tmp 18) (.tmp 20) 23 5 .u8 .u8 Try.underlying23 Try.underlying5 rfl v0.heap.size _ len0 _ zs0 rfl hown _ k rfl (by rw [unhide EK]; omega) (by omega) (by omega) hw1 ?_)
    intro aw cw v2 hown2 hgr
    have hg := hown.ge
    have hb9 := hb1.grown hgr hw1 hg
    clear hown hgr hg hb1 hw1
    have SW := hide (show VS v2 aw (len0 + k) cw (zs0 ++ List.replicate k 0) kx from hown2.vec)
    clear hown2
    replace S0 := hide ((unhide S0).later hb9)
    replace S1 := hide ((unhide S1).later hb9)
    replace HB := hide (Below.step (unhide HB) hb9)
    clear hb9
    obtain ⟨zw, ezw⟩ : ∃ zw, zw = zs0 ++ List.replicate k 0 := ⟨_, rfl⟩
    have EW := hide (show ∀ i, zw.getD i 0 = zs0.getD i 0 from fun i => by rw [ezw]; exact zeros_at zs0 k i)
    rw [← ezw] at SW
    clear ezw
    obtain ⟨lw, elw⟩ : ∃ lw, lw = len0 + k := ⟨_, rfl⟩
    rw [← elw] at SW ⊢
    have hlw : lw ≤ 80 := by omega
    clear elw EK hk6
    have hmax1 := max_len lw len1
    have hmax2 := max_len len0 len1
    obtain ⟨p1, ep1⟩ : ∃ p, p = max lw len1 := ⟨_, rfl⟩
    obtain ⟨p2, ep2⟩ : ∃ p, p = max len0 len1 := ⟨_, rfl⟩
    rw [← ep1] at hmax1
    rw [← ep2] at hmax2
    have hp1 : p1 ≤ 80 := by omega
    have hp2 : p2 ≤ 80 := by omega
    have EP1 := hide ep1
    have EP2 := hide ep2
    clear ep1 ep2
    go_wp2_with fail
    refine (vaddK _ _ _ zw kx _ _ _ zs1 kx _ (unhide SW).vk (unhide S1).vk (by omega) (by omega) (by omega) (by omega)).mono ?_
    rintro e v1 ⟨a1, c1, rfl, h1, hb9⟩
    replace S0 := hide ((unhide S0).later hb9)
    replace S1 := hide ((unhide S1).later hb9)
    replace SW := hide ((unhide SW).later hb9)
    replace HB := hide (Below.step (unhide HB) hb9)
    clear hb9
    rw [← unhide EP1] at h1 ⊢
    go_wp2_with fail
    refine (vaddK _ _ _ zs0 kx _ _ _ zs1 kx _ (unhide S0).vk (unhide S1).vk (by omega) (by omega) (by omega) (by omega)).mono ?_
    rintro e v2 ⟨a2, c2, rfl, h2, hb9⟩
    replace S0 := hide ((unhide S0).later hb9)
    replace S1 := hide ((unhide S1).later hb9)
    replace SW := hide ((unhide SW).later hb9)
    replace h1 := h1.later hb9
    replace HB := hide (Below.step (unhide HB) hb9)
    clear hb9
    rw [← unhide EP2] at h2 ⊢
    go_wp2_with fail
    refine (vsameK _ _ _ zw kx _ _ _ zs0 kx _ (unhide SW).vk (unhide S0).vk (by omega) (by omega) (by omega) (by omega)).mono ?_
    rintro e v3 ⟨c, rfl, hc, hb9⟩
    replace S0 := hide ((unhide S0).later hb9)
    replace S1 := hide ((unhide S1).later hb9)
    replace SW := hide ((unhide SW).later hb9)
    replace h1 := h1.later hb9
    replace h2 := h2.later hb9
    replace HB := hide (Below.step (unhide HB) hb9)
    clear hb9
    obtain rfl := isCmp_inj hc (isCmp_same (unhide EW))
    clear hc
    go_wp2_with fail
    refine (vsameK _ _ _ (vadd zw zs1) (max kx kx + 1) _ _ _ (vadd zs0 zs1) (max kx kx + 1) _ (h1.vk (by omega)) (h2.vk (by omega)) (by omega) (by omega) (by omega) (by omega)).mono ?_
    rintro e v4 ⟨c, rfl, hc, hb9⟩
    replace S0 := hide ((unhide S0).later hb9)
    replace S1 := hide ((unhide S1).later hb9)
    replace SW := hide ((unhide SW).later hb9)
    replace HB := hide (Below.step (unhide HB) hb9)
    clear hb9
    clear h1 h2
    obtain rfl := isCmp_inj hc (isCmp_same (fun i => by rw [vadd_at, vadd_at, unhide EW i]))
    clear hc
    go_wp2_with fail
    refine (vdotK _ _ _ zw kx _ _ _ zs1 kx _ (unhide SW).vk (unhide S1).vk (by omega) (by omega) (by omega) (by omega)).mono ?_
    rintro e v5 ⟨b1, a1, l1, c1, rfl, h1, hb9⟩
    replace S0 := hide ((unhide S0).later hb9)
    replace S1 := hide ((unhide S1).later hb9)
    replace SW := hide ((unhide SW).later hb9)
    replace HB := hide (Below.step (unhide HB) hb9)
    clear hb9
    go_wp2_with fail
    refine (vdotK _ _ _ zs0 kx _ _ _ zs1 kx _ (unhide S0).vk (unhide S1).vk (by omega) (by omega) (by omega) (by omega)).mono ?_
    rintro e v6 ⟨b2, a2, l2, c2, rfl, h2, hb9⟩
    replace S0 := hide ((unhide S0).later hb9)
    replace S1 := hide ((unhide S1).later hb9)
    replace SW := hide ((unhide SW).later hb9)
    replace h1 := h1.later hb9
    replace HB := hide (Below.step (unhide HB) hb9)
    clear hb9
    go_wp2_with fail
    refine (rsameK _ _ _ _ _ _ _ _ _ _ _ _ _ h1 h2 (vdot_same (unhide EW))).mono ?_
    rintro e v7 ⟨rfl, hb9⟩
    replace S0 := hide ((unhide S0).later hb9)
    replace S1 := hide ((unhide S1).later hb9)
    replace SW := hide ((unhide SW).later hb9)
    replace HB := hide (Below.step (unhide HB) hb9)
    clear hb9
    clear h1 h2
    go_wp2_with fail
    refine (vnormK _ _ _ zw kx _ (unhide SW).vk (by omega) (by omega)).mono ?_
    rintro e v8 ⟨b1, a1, l1, c1, rfl, h1, hb9⟩
    replace S0 := hide ((unhide S0).later hb9)
    replace S1 := hide ((unhide S1).later hb9)
    replace SW := hide ((unhide SW).later hb9)
    replace HB := hide (Below.step (unhide HB) hb9)
    clear hb9
    go_wp2_with fail
    refine (vnormK _ _ _ zs0 kx _ (unhide S0).vk (by omega) (by omega)).mono ?_
    rintro e v9 ⟨b2, a2, l2, c2, rfl, h2, hb9⟩
    replace S0 := hide ((unhide S0).later hb9)
    replace S1 := hide ((unhide S1).later hb9)
    replace SW := hide ((unhide SW).later hb9)
    replace h1 := h1.later hb9
    replace HB := hide (Below.step (unhide HB) hb9)
    clear hb9
    go_wp2_with fail
    refine (rsameK _ _ _ _ _ _ _ _ _ _ _ _ _ h1 h2 (vnorm_same (unhide EW))).mono ?_
    rintro e v10 ⟨rfl, hb9⟩
    replace S0 := hide ((unhide S0).later hb9)
    replace S1 := hide ((unhide S1).later hb9)
    replace SW := hide ((unhide SW).later hb9)
    replace HB := hide (Below.step (unhide HB) hb9)
    clear hb9
    clear h1 h2
    go_wp2_with fail
    refine (awake7_any _).mono ?_
    rintro e w2 ⟨rfl, hb2⟩
    go_wp2
    go_ret
    exact ⟨rfl, Below.step (unhide HB) hb2⟩
  · have hf' : q = 1 := by omega
    subst hf'
    clear hq01 hq hf hbR hb1
    go_wp2_with fail
    refine (awake7_any _).mono ?_
    rintro e w2 ⟨rfl, hb2⟩
    go_wp2
    go_ret
    exact ⟨rfl, Below.step (unhide HB) hb2⟩
#print axioms vecLong_walk
end Go.Proofs.Ytdbimajopclndaa
