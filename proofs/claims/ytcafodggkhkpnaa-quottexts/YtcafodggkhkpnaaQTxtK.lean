/-
  The contracts of texts of whole numbers, for numbers of few limbs (IN PARTS).
-/
import Derived.Test.YtcafodggkhkpnaaQTxt
import Derived.Test.YtcafodggkhkpnaaQK
namespace Go.Proofs.Ytcafodggkhkpnaa
open Go.RowKit Lb

theorem textK (b : Bool) (aa : Option Addr) (la ca : Nat) (z : Int) (k : Nat) (w : World) (h : IK w b aa la ca z k) (hl : la ≤ 20) : Calls Try.prog 22 #[.agg #[.bool b, .slice aa la ca]] w fun e w' => ∃ s, e = .returned (.string s) ∧ IsTxt s z ∧ Below w.heap.size w w' :=
  qtext_any _ _ _ _ z _ h.1 (by omega)
theorem rtextK (b : Bool) (aa : Option Addr) (la ca : Nat) (z : Int) (k : Nat) (w : World) (h : IK w b aa la ca z k) (hl : la ≤ 20) : Calls Try.prog 19 #[.agg #[.bool b, .slice aa la ca]] w fun e w' => ∃ s, e = .returned (.string s) ∧ IsTxt s z ∧ Below w.heap.size w w' :=
  rtext_any _ _ _ _ z _ h.1 (by omega)
theorem isTxt_size {s : ByteArray} {z : Int} (h : IsTxt s z) (hz : z.natAbs < Bp 20) : s.size ≤ 201 := by
  obtain ⟨n, h1, h2⟩ := h
  have hn : n ≤ 200 := isLen_le h1 (by omega) (twenty_lt hz)
  rw [← byts_length, h2]
  split <;> simp [sgn_length] <;> omega
theorem parseTxt (s : ByteArray) (z : Int) (w : World) (h : IsTxt s z) (hz : z.natAbs < Bp 20) : Calls Try.prog 20 #[.string s] w fun e w' => ∃ b ao len cap, e = .returned (.tuple #[.agg #[.bool b, .slice ao len cap], .bool true]) ∧ FK w' b ao len cap z 20 ∧ Below w.heap.size w w' := by
  have hsz := isTxt_size h hz
  obtain ⟨h1, h2⟩ := read_txt h hz
  refine (qparse_any s true z w (by omega) h1.symm h2.symm).mono ?_
  rintro e w' ⟨b, ao, len, cap, rfl, hf, hb⟩
  exact ⟨_, _, _, _, rfl, ⟨hf, hz⟩, hb⟩

#print axioms textK
#print axioms parseTxt
end Go.Proofs.Ytcafodggkhkpnaa
