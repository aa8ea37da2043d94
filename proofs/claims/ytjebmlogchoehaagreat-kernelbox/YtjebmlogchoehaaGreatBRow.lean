/-
  Rows of three Ints (the struct row of package bezout): what a block of one holds, one written anew.
-/
import Derived.Test.YtjebmlogchoehaaGreatJE
import Derived.Test.YtjebmlogchoehaaGreatBLcm
namespace Go.Proofs.YtjebmlogchoehaaGreat
open Go.RowKit Lb
set_option maxRecDepth 20000

/-- A block that holds a row of three Ints. -/
def Box6 (w : World) (g : Nat) (bp0 : Bool) (ap0 : Option Addr) (lp0 cp0 : Nat) (bp1 : Bool) (ap1 : Option Addr) (lp1 cp1 : Nat) (bp2 : Bool) (ap2 : Option Addr) (lp2 cp2 : Nat) : Prop := w.heap[g]? = some (.cells #[.bool bp0, .slice ap0 lp0 cp0, .bool bp1, .slice ap1 lp1 cp1, .bool bp2, .slice ap2 lp2 cp2] 117)
theorem Box6.lt {w : World} {g : Nat} {bp0 : Bool} {ap0 : Option Addr} {lp0 cp0 : Nat} {bp1 : Bool} {ap1 : Option Addr} {lp1 cp1 : Nat} {bp2 : Bool} {ap2 : Option Addr} {lp2 cp2 : Nat} (h : Box6 w g bp0 ap0 lp0 cp0 bp1 ap1 lp1 cp1 bp2 ap2 lp2 cp2) : g < w.heap.size := lt_of_block h
theorem Box6.facts {w : World} {g : Nat} {bp0 : Bool} {ap0 : Option Addr} {lp0 cp0 : Nat} {bp1 : Bool} {ap1 : Option Addr} {lp1 cp1 : Nat} {bp2 : Bool} {ap2 : Option Addr} {lp2 cp2 : Nat} (h : Box6 w g bp0 ap0 lp0 cp0 bp1 ap1 lp1 cp1 bp2 ap2 lp2 cp2) : EltAt w g 0 bp0 ap0 lp0 cp0 ∧ EltAt w g 2 bp1 ap1 lp1 cp1 ∧ EltAt w g 4 bp2 ap2 lp2 cp2 := by
  have hl := h.lt
  unfold Box6 at h
  refine ⟨⟨hl, ?_, ?_⟩, ⟨hl, ?_, ?_⟩, ⟨hl, ?_, ?_⟩⟩ <;> simp [World.cell?, h]
theorem Box6.free {w : World} {g : Nat} {bp0 : Bool} {ap0 : Option Addr} {lp0 cp0 : Nat} {bp1 : Bool} {ap1 : Option Addr} {lp1 cp1 : Nat} {bp2 : Bool} {ap2 : Option Addr} {lp2 cp2 : Nat} (h : Box6 w g bp0 ap0 lp0 cp0 bp1 ap1 lp1 cp1 bp2 ap2 lp2 cp2) (j : Nat) : w.frozen? ⟨g, j, none⟩ = false := by
  unfold Box6 at h
  simp [World.frozen?, h]
theorem Box6.noLimb {w : World} {g : Nat} {bp0 : Bool} {ap0 : Option Addr} {lp0 cp0 : Nat} {bp1 : Bool} {ap1 : Option Addr} {lp1 cp1 : Nat} {bp2 : Bool} {ap2 : Option Addr} {lp2 cp2 : Nat} (h : Box6 w g bp0 ap0 lp0 cp0 bp1 ap1 lp1 cp1 bp2 ap2 lp2 cp2) : NoLimb w g := by
  intro j k e
  unfold Box6 at h
  match j with
  | 0 => simp [World.cell?, h] at e
  | 1 => simp [World.cell?, h] at e
  | 2 => simp [World.cell?, h] at e
  | 3 => simp [World.cell?, h] at e
  | 4 => simp [World.cell?, h] at e
  | 5 => simp [World.cell?, h] at e
  | j + 6 => simp [World.cell?, h] at e
theorem Box6.later {w w' : World} {g : Nat} {bp0 : Bool} {ap0 : Option Addr} {lp0 cp0 : Nat} {bp1 : Bool} {ap1 : Option Addr} {lp1 cp1 : Nat} {bp2 : Bool} {ap2 : Option Addr} {lp2 cp2 : Nat} (h : Box6 w g bp0 ap0 lp0 cp0 bp1 ap1 lp1 cp1 bp2 ap2 lp2 cp2) (hb : Below w.heap.size w w') : Box6 w' g bp0 ap0 lp0 cp0 bp1 ap1 lp1 cp1 bp2 ap2 lp2 cp2 := by
  unfold Box6 at *
  rw [hb.block g (lt_of_block h)]; exact h
theorem Box6.grown {w w' : World} {g : Nat} {row : Option Nat} {bp0 : Bool} {ap0 : Option Addr} {lp0 cp0 : Nat} {bp1 : Bool} {ap1 : Option Addr} {lp1 cp1 : Nat} {bp2 : Bool} {ap2 : Option Addr} {lp2 cp2 : Nat} (h : Box6 w g bp0 ap0 lp0 cp0 bp1 ap1 lp1 cp1 bp2 ap2 lp2 cp2) (hg : w.grownBy w' row) (hr : row ≠ some g) : Box6 w' g bp0 ap0 lp0 cp0 bp1 ap1 lp1 cp1 bp2 ap2 lp2 cp2 := by
  unfold Box6 at *
  rw [hg.block g (lt_of_block h) (fun e => hr e.symm)]; exact h
theorem box6_new (w : World) (bp0 : Bool) (ap0 : Option Addr) (lp0 cp0 : Nat) (bp1 : Bool) (ap1 : Option Addr) (lp1 cp1 : Nat) (bp2 : Bool) (ap2 : Option Addr) (lp2 cp2 : Nat) {W : World} (hW : W = w.alloc (.cells #[.bool bp0, .slice ap0 lp0 cp0, .bool bp1, .slice ap1 lp1 cp1, .bool bp2, .slice ap2 lp2 cp2] 117)) : Box6 W w.heap.size bp0 ap0 lp0 cp0 bp1 ap1 lp1 cp1 bp2 ap2 lp2 cp2 ∧ Below w.heap.size w W := by
  subst hW
  refine ⟨?_, below_new w _⟩
  unfold Box6
  show (w.heap.push _)[w.heap.size]? = _
  simp
/-- A world in which the row in block g was written anew. -/
def put6 (w : World) (g : Nat) (bp0 : Bool) (ap0 : Option Addr) (lp0 cp0 : Nat) (bp1 : Bool) (ap1 : Option Addr) (lp1 cp1 : Nat) (bp2 : Bool) (ap2 : Option Addr) (lp2 cp2 : Nat) : World := ((((((w.setCell ⟨g, 0, none⟩ (.bool bp0)).setCell ⟨g, 1, none⟩ (.slice ap0 lp0 cp0)).setCell ⟨g, 2, none⟩ (.bool bp1)).setCell ⟨g, 3, none⟩ (.slice ap1 lp1 cp1)).setCell ⟨g, 4, none⟩ (.bool bp2)).setCell ⟨g, 5, none⟩ (.slice ap2 lp2 cp2))
theorem Box6.put {w : World} {g : Nat} {bp0 : Bool} {ap0 : Option Addr} {lp0 cp0 : Nat} {bp1 : Bool} {ap1 : Option Addr} {lp1 cp1 : Nat} {bp2 : Bool} {ap2 : Option Addr} {lp2 cp2 : Nat} (h : Box6 w g bp0 ap0 lp0 cp0 bp1 ap1 lp1 cp1 bp2 ap2 lp2 cp2) (bq0 : Bool) (aq0 : Option Addr) (lq0 cq0 : Nat) (bq1 : Bool) (aq1 : Option Addr) (lq1 cq1 : Nat) (bq2 : Bool) (aq2 : Option Addr) (lq2 cq2 : Nat) : Box6 (put6 w g bq0 aq0 lq0 cq0 bq1 aq1 lq1 cq1 bq2 aq2 lq2 cq2) g bq0 aq0 lq0 cq0 bq1 aq1 lq1 cq1 bq2 aq2 lq2 cq2 := by
  unfold Box6 put6 at *
  rw [Joins.block_setCell (Joins.block_setCell (Joins.block_setCell (Joins.block_setCell (Joins.block_setCell (Joins.block_setCell h _) _) _) _) _) _]
  simp
theorem grown_put6 (w : World) (g : Nat) (bp0 : Bool) (ap0 : Option Addr) (lp0 cp0 : Nat) (bp1 : Bool) (ap1 : Option Addr) (lp1 cp1 : Nat) (bp2 : Bool) (ap2 : Option Addr) (lp2 cp2 : Nat) : w.grownBy (put6 w g bp0 ap0 lp0 cp0 bp1 ap1 lp1 cp1 bp2 ap2 lp2 cp2) (some g) :=
  (((((grown_set1 w g 0 _).trans (grown_set1 _ g 1 _)).trans (grown_set1 _ g 2 _)).trans (grown_set1 _ g 3 _)).trans (grown_set1 _ g 4 _)).trans (grown_set1 _ g 5 _)
theorem Below.put6 {B : Nat} {w w2 : World} (h : Below B w w2) {g : Nat} (hB : B ≤ g) (bp0 : Bool) (ap0 : Option Addr) (lp0 cp0 : Nat) (bp1 : Bool) (ap1 : Option Addr) (lp1 cp1 : Nat) (bp2 : Bool) (ap2 : Option Addr) (lp2 cp2 : Nat) : Below B w (Go.Proofs.YtjebmlogchoehaaGreat.put6 w2 g bp0 ap0 lp0 cp0 bp1 ap1 lp1 cp1 bp2 ap2 lp2 cp2) := (((((h.setCell (by simpa using hB) _).setCell (by simpa using hB) _).setCell (by simpa using hB) _).setCell (by simpa using hB) _).setCell (by simpa using hB) _).setCell (by simpa using hB) _
#print axioms Box6.put
#print axioms Below.put6
#print axioms box6_new
end Go.Proofs.YtjebmlogchoehaaGreat
