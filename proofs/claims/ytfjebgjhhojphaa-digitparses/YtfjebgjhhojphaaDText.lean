/-
  What digit.Text and digit.Len do: the digits of a number, and how many they are.
-/
import Derived.Test.YtfjebgjhhojphaaDBack
namespace Go.Proofs.Ytfjebgjhhojphaa
open Go.RowKit Lb

theorem sgn_is {N n : Nat} {ts : List Nat} (hl : ts.length = n) (h : ∀ i, i < n → lim ts i = 48 + dig N (n - 1 - i)) : ts = sgn N n := by
  apply ext_lim
  · rw [hl, sgn_length]
  · intro i hi
    rw [hl] at hi
    rw [h i hi, lim_sgn N hi]
theorem bytes_sgn (N n : Nat) : Bytes (sgn N n) := by
  intro i
  rcases Nat.lt_or_ge i n with c | c
  · have := dig_lt N (n - 1 - i)
    rw [lim_sgn N c]; omega
  · rw [lim_out (by rw [sgn_length]; exact c)]; omega

set_option maxRecDepth 20000 in
set_option maxHeartbeats 4000000 in
theorem text_any (ao : Option Addr) (len cap N : Nat) (w : World) (h : ValAt w ao len cap N) (hlen : len ≤ 1000000) :
    Calls Try.prog 10 #[.slice ao len cap] w fun e w' => ∃ n s, e = .returned (.string s) ∧ byts s = sgn N n ∧ IsLen N n ∧ Below w.heap.size w w' := by
  go_enter Try.func10, Try.ntmps10
  go_wp2_with fail
  refine (backwards_any _ _ _ N w h hlen).mono ?_
  rintro e w1 ⟨a1, n, c1, bs, rfl, hr, hsg, hlt, hn, hb1⟩
  have HS := hide hsg
  have HT := hide hlt
  clear hsg hlt h
  go_wp2
  go_loop [4] (fun i => ∃ k : Nat, k ≤ n ∧ i = .int .i64 k ∧ N < 10 ^ k) (fun i => (intOf i).toNat)
  case atStart => exact ⟨n, Nat.le_refl _, rfl, unhide HT⟩
  case round =>
    obtain ⟨k, hk, rfl, hkt⟩ := hrel
    have HK := hide hkt
    clear hkt
    by_cases hp : 0 < k
    · obtain ⟨b, off, rfl, hb, hc⟩ := hr.cells (by omega)
      have hck := hc (k - 1) (by omega)
      rw [(unhide HS).2 (k - 1) (by omega)] at hck
      have hdl := dig_lt N (k - 1)
      by_cases hd : dig N (k - 1) = 0
      · rw [hd] at hck
        have hlt2 : N < 10 ^ (k - 1) := lt_down (k := k - 1) (by rw [Nat.sub_add_cancel hp]; exact unhide HK) hd
        have HL := hide hlt2
        clear hc hlt2 hd hdl
        go_wp2
        go_round
        case rel => exact ⟨k - 1, by omega, by go_num, unhide HL⟩
        case measure => simp [intOf]; omega
      · have hne : (((48 + dig N (k - 1) : Nat) : Int) == 48) = false := by rw [beq_eq_false_iff_ne]; omega
        have hne2 : ((48 + (dig N (k - 1) : Int)) == 48) = false := by rw [beq_eq_false_iff_ne]; omega
        have hk0 : ((k : Int) == 0) = false := by rw [beq_eq_false_iff_ne]; omega
        have hil : IsLen N k := isLen_of hp (unhide HK) hd
        have HI := hide hil
        have HC := hide hc
        clear hil hc hd hdl
        go_wp2_with (at_make; refine make_bytes rfl _ _ rfl w1.heap.size .i64 .i64 _ _ k rfl rfl (by omega) (by omega) (by omega) (Nat.le_refl _) ?_)
        intro w2 hown2 hgrow2
        have hb2 : Below w1.heap.size w1 w2 := (Below.refl _ _).grown hgrow2 (Nat.le_refl _) (fun _ h => by simp at h)
        clear hgrow2 hck hne hne2
        go_wp2_with fail
        go_loopw [29] (fun i wr => ∃ (m : Nat) (ts : List Nat), m ≤ k ∧ i = .int .i64 m ∧ BOwn wr w1.heap.size (.slice (some ⟨w1.heap.size, 0, none⟩) k k) k ts ∧ (∀ i, i < m → lim ts i = 48 + dig N (k - 1 - i)) ∧ Below w1.heap.size w1 wr) (fun i _ => k - (intOf i).toNat)
        case atStart => exact ⟨0, _, by omega, rfl, hown2, fun i hi => absurd hi (by omega), hb2⟩
        case round =>
          obtain ⟨m, ts, hm, rfl, hown, hts, hbw⟩ := hrel
          have HTS := hide hts
          clear hts hown2 hb2
          by_cases hmk : m < k
          · have hcb := unhide HC (k - 1 - m) (by omega)
            rw [(unhide HS).2 (k - 1 - m) (by omega)] at hcb
            have hcb2 : wr.cell? ⟨b, off + (k - 1 - m), none⟩ = some (.int .u8 ((48 + dig N (k - 1 - m) : Nat) : Int)) := (hbw.cell (p := ⟨b, off + (k - 1 - m), none⟩) hb).trans hcb
            obtain ⟨d, hd⟩ : ∃ d, d = 48 + dig N (k - 1 - m) := ⟨_, rfl⟩
            rw [← hd] at hcb2
            have HD := hide hd
            have hcs := hown.cell (i := m) hmk
            have hcf := hown.free m
            have e1 : off + ((k : Int) - 1 - (m : Int)).toNat = off + (k - 1 - m) := by omega
            clear hd hcb
            go_wp2
            go_roundw
            case rel =>
              refine ⟨m + 1, ts.set m d, by omega, by go_num, hown.set m d rfl, fun i hi => ?_, hbw.setCell (by simp) _⟩
              rw [lim_set _ _ _ _ (by rw [hown.len]; exact hmk)]
              split
              · next e => rw [e]; exact unhide HD
              · exact unhide HTS i (by omega)
            case measure => simp [intOf]; omega
          · obtain rfl : m = k := by omega
            have hts : ts = sgn N m := sgn_is hown.len (unhide HTS)
            subst hts
            have hcv := run_string wr _ _ _ _ (browAt_own hown (bytes_sgn N m))
            go_wp2
            go_ret
            exact ⟨m, _, rfl, byts_strB (bytes_sgn N m), unhide HI, hb1.trans (hbw.mono hb1.size)⟩
    · have hk0 : k = 0 := by omega
      have hN0 : N = 0 := by
        have := unhide HK
        rw [hk0] at this
        omega
      have hkb : ((k : Int) == 0) = true := by simp [hk0]
      have HN := hide hN0
      clear hN0 hk0
      go_wp2
      go_ret
      exact ⟨1, _, rfl, by rw [unhide HN]; rfl, by rw [unhide HN]; exact isLen_zero, hb1⟩

theorem len_any (ao : Option Addr) (len cap N n : Nat) (w : World) (h : ValAt w ao len cap N) (hlen : len ≤ 1000000) (hn : IsLen N n) :
    Calls Try.prog 11 #[.slice ao len cap] w fun e w' => e = .returned (.int .i64 (n : Int)) ∧ Below w.heap.size w w' := by
  go_enter Try.func11, Try.ntmps11
  go_wp2_with fail
  refine (text_any _ _ _ N w h hlen).mono ?_
  rintro e w1 ⟨n', s, rfl, hs, hi, hb1⟩
  obtain rfl := isLen_inj hi hn
  have hl : s.size = n' := by rw [← byts_length, hs, sgn_length]
  clear hs hi hn
  go_wp2
  go_ret
  exact ⟨rfl, hb1⟩
#print axioms len_any
#print axioms text_any
end Go.Proofs.Ytfjebgjhhojphaa
