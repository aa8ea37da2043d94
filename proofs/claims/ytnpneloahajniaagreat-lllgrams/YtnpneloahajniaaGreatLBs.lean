/-
 A basis: rows with their d and g ('BR'), and the block that holds them ('BBox', 'BS').
-/
import Derived.Test.YtnpneloahajniaaGreatLBas
namespace Go.Proofs.YtnpneloahajniaaGreat
open Go.RowKit Lb
set_option maxRecDepth 20000

def BBox (w : World) (g : Nat) (al : Option Addr) (nl cl : Nat) (ad : Option Addr) (nd cd : Nat) (ag : Option Addr) (ng cg : Nat) : Prop := w.heap[g]? = some (.cells #[.slice al nl cl, .slice ad nd cd, .slice ag ng cg] 58)
theorem BBox.lt {w : World} {g : Nat} {al : Option Addr} {nl cl : Nat} {ad : Option Addr} {nd cd : Nat} {ag : Option Addr} {ng cg : Nat} (h : BBox w g al nl cl ad nd cd ag ng cg) : g < w.heap.size := lt_of_block h
theorem BBox.zb {w : World} {g : Nat} {al : Option Addr} {nl cl : Nat} {ad : Option Addr} {nd cd : Nat} {ag : Option Addr} {ng cg : Nat} (h : BBox w g al nl cl ad nd cd ag ng cg) : w.cell? ⟨g, 0, none⟩ = some (.slice al nl cl) ∧ w.cell? ⟨g, 1, none⟩ = some (.slice ad nd cd) ∧ w.cell? ⟨g, 2, none⟩ = some (.slice ag ng cg) ∧ w.frozen? ⟨g, 0, none⟩ = false ∧ w.frozen? ⟨g, 1, none⟩ = false ∧ w.frozen? ⟨g, 2, none⟩ = false := by
 unfold BBox at h;refine ⟨?_, ?_, ?_, ?_, ?_, ?_⟩ <;> simp [World.cell?, World.frozen?, h]
theorem BBox.za {w w' : World} {g : Nat} {al : Option Addr} {nl cl : Nat} {ad : Option Addr} {nd cd : Nat} {ag : Option Addr} {ng cg : Nat} (h : BBox w g al nl cl ad nd cd ag ng cg) (hb : Below w.heap.size w w') : BBox w' g al nl cl ad nd cd ag ng cg := by
 unfold BBox at *;rw [hb.block g (lt_of_block h)]; exact h
theorem bbox_new (w : World) (al : Option Addr) (nl cl : Nat) (ad : Option Addr) (nd cd : Nat) (ag : Option Addr) (ng cg : Nat) : BBox (w.alloc (.cells #[.slice al nl cl, .slice ad nd cd, .slice ag ng cg] 58)) w.heap.size al nl cl ad nd cd ag ng cg := by
 unfold BBox;show (w.heap.push _)[w.heap.size]? = _;simp
theorem BBox.other {w w' : World} {row : Option Nat} {g : Nat} {al : Option Addr} {nl cl : Nat} {ad : Option Addr} {nd cd : Nat} {ag : Option Addr} {ng cg : Nat} (h : BBox w g al nl cl ad nd cd ag ng cg) (hg : w.grownBy w' row) (hne : row ≠ some g) : BBox w' g al nl cl ad nd cd ag ng cg := by
 have hl := h.lt;unfold BBox at *;rw [hg.block g hl (Ne.symm hne)]; exact h
def bput (w : World) (g : Nat) (al : Option Addr) (nl cl : Nat) (ad : Option Addr) (nd cd : Nat) (ag : Option Addr) (ng cg : Nat) : World := ((w.setCell ⟨g, 0, none⟩ (.slice al nl cl)).setCell ⟨g, 1, none⟩ (.slice ad nd cd)).setCell ⟨g, 2, none⟩ (.slice ag ng cg)
theorem grown_bput (w : World) (g : Nat) (al : Option Addr) (nl cl : Nat) (ad : Option Addr) (nd cd : Nat) (ag : Option Addr) (ng cg : Nat) : w.grownBy (bput w g al nl cl ad nd cd ag ng cg) (some g) := (grown_set2 w g 0 1 (.slice al nl cl) (.slice ad nd cd)).trans (grown_set1 _ g 2 (.slice ag ng cg))
theorem BBox.noLimb {w : World} {g : Nat} {al : Option Addr} {nl cl : Nat} {ad : Option Addr} {nd cd : Nat} {ag : Option Addr} {ng cg : Nat} (h : BBox w g al nl cl ad nd cd ag ng cg) : NoLimb w g := by
 intro j x hu;unfold BBox at h
 match j with
 | 0 => simp [World.cell?, h] at hu
 | 1 => simp [World.cell?, h] at hu
 | 2 => simp [World.cell?, h] at hu
 | j + 3 => simp [World.cell?, h] at hu
structure BD where
 gl : Nat
 cl : Nat
 gd : Nat
 cd : Nat
 gg : Nat
 cg : Nat
 vs : List (Option Addr × Nat × Nat)
 us : List (Option Addr × Nat × Nat)
 V : Nat → Nat
 U : Nat → Nat
structure BR (w : World) (base n : Nat) (D : BD) (ls : List (List Int)) (ds : List Int) (gs : List (List Int)) (k : Nat) : Prop where
 l : GRows w base D.gl n D.cl D.vs D.V ls k n
 g : GRows w base D.gg n D.cg D.us D.U gs k n
 d : OwnV w base (some ⟨D.gd, 0, none⟩) (n + 1) D.cd ds k
 n1 : D.gl ≠ D.gg
 n2 : D.gl ≠ D.gd
 n3 : D.gg ≠ D.gd
 nV : ∀ i, i < n → D.V i ≠ D.gg ∧ D.V i ≠ D.gd
 nU : ∀ i, i < n → D.U i ≠ D.gl ∧ D.U i ≠ D.gd
 nVU : ∀ i j, i < n → j < n → D.V i ≠ D.U j
structure BS (w : World) (base gb n : Nat) (D : BD) (ls : List (List Int)) (ds : List Int) (gs : List (List Int)) (k : Nat) : Prop where
 r : BR w base n D ls ds gs k
 box : BBox w gb (some ⟨D.gl, 0, none⟩) n D.cl (some ⟨D.gd, 0, none⟩) (n + 1) D.cd (some ⟨D.gg, 0, none⟩) n D.cg
 b1 : gb ≠ D.gl
 b2 : gb ≠ D.gd
 b3 : gb ≠ D.gg
 b4 : ∀ i, i < n → gb ≠ D.V i ∧ gb ≠ D.U i
theorem BR.za {w w' : World} {base n k : Nat} {D : BD} {ls gs : List (List Int)} {ds : List Int} (h : BR w base n D ls ds gs k) (hb : Below w.heap.size w w') : BR w' base n D ls ds gs k := ⟨h.l.za hb, h.g.za hb, h.d.za hb, h.n1, h.n2, h.n3, h.nV, h.nU, h.nVU⟩
theorem BS.za {w w' : World} {base gb n k : Nat} {D : BD} {ls gs : List (List Int)} {ds : List Int} (h : BS w base gb n D ls ds gs k) (hb : Below w.heap.size w w') : BS w' base gb n D ls ds gs k := ⟨h.r.za hb, h.box.za hb, h.b1, h.b2, h.b3, h.b4⟩
theorem BR.from {w : World} {base b' n k : Nat} {D : BD} {ls gs : List (List Int)} {ds : List Int} (h : BR w base n D ls ds gs k) (hb : b' ≤ base) : BR w b' n D ls ds gs k := ⟨h.l.from hb, h.g.from hb, h.d.from hb, h.n1, h.n2, h.n3, h.nV, h.nU, h.nVU⟩
structure Fresh (n : Nat) (D : BD) (B : Nat) : Prop where
 gl : D.gl < B
 gd : D.gd < B
 gg : D.gg < B
 V : ∀ i, i < n → D.V i < B
 U : ∀ i, i < n → D.U i < B
theorem BR.fresh {w : World} {base n k : Nat} {D : BD} {ls gs : List (List Int)} {ds : List Int} (h : BR w base n D ls ds gs k) : Fresh n D w.heap.size :=
 ⟨h.l.lt.2, h.d.base_le.2, h.g.lt.2, fun i hi => by obtain ⟨_, _, _, ho⟩ := h.l.row i hi; exact ho.base_le.2, fun i hi => by obtain ⟨_, _, _, ho⟩ := h.g.row i hi; exact ho.base_le.2⟩
theorem BR.box {w w' : World} {base n k : Nat} {D : BD} {ls gs : List (List Int)} {ds : List Int} (h : BR w base n D ls ds gs k) (hb : Below w.heap.size w w') {gb : Nat} (hg : w.heap.size ≤ gb) (hx : BBox w' gb (some ⟨D.gl, 0, none⟩) n D.cl (some ⟨D.gd, 0, none⟩) (n + 1) D.cd (some ⟨D.gg, 0, none⟩) n D.cg) : BS w' base gb n D ls ds gs k := by
 have hf := h.fresh;refine ⟨h.za hb, hx, ?_, ?_, ?_, fun i hi => ⟨?_, ?_⟩⟩
 ·have := hf.gl; omega
 ·have := hf.gd; omega
 ·have := hf.gg; omega
 ·have := hf.V i hi; omega
 ·have := hf.U i hi; omega
def BD.setL (D : BD) (i u l c : Nat) : BD := { D with vs := D.vs.set i (some ⟨u, 0, none⟩, l, c), V := fun j => if j = i then u else D.V j }
def BD.setG (D : BD) (i u l c : Nat) : BD := { D with us := D.us.set i (some ⟨u, 0, none⟩, l, c), U := fun j => if j = i then u else D.U j }
theorem BS.putL {w w1 : World} {base gb n k : Nat} {D : BD} {ls gs : List (List Int)} {ds : List Int} (h0 : BS w base gb n D ls ds gs k) (hb : Below w.heap.size w w1) (hbase : base ≤ w.heap.size) {i u l c : Nat} {zs : List Int} (hi : i < n) (ho : OwnV w1 w.heap.size (some ⟨u, 0, none⟩) l c zs k) : BS (w1.setCell ⟨D.gl, i, none⟩ (.slice (some ⟨u, 0, none⟩) l c)) base gb n (D.setL i u l c) (ls.set i zs) ds gs k := by
 have h := h0.za hb;have hf := h0.r.fresh;have hu := ho.base_le.1;have hgb := h0.box.lt;have hnl := h.r.l.noLimb;have hgr := grown_set1 w1 D.gl i (.slice (some ⟨u, 0, none⟩) l c);refine ⟨⟨h.r.l.put hi (ho.from hbase) (by have := hf.gl; omega) (fun j hj _ => by have := hf.V j hj; omega), h.r.g.kept hgr hnl (Ne.symm h.r.n1) (fun j hj => (h.r.nU j hj).1), h.r.d.kept hgr (noLimb_some hnl) (some_ne h.r.n2), h.r.n1, h.r.n2, h.r.n3, fun j hj => ?_, h.r.nU, fun s t hs ht => ?_⟩, h.box.other hgr (some_ne (Ne.symm h.b1)), h.b1, h.b2, h.b3, fun j hj => ⟨?_, (h.b4 j hj).2⟩⟩
 ·show (if j = i then u else D.V j) ≠ D.gg ∧ (if j = i then u else D.V j) ≠ D.gd;by_cases e : j = i
  ·rw [if_pos e]; have := hf.gg; have := hf.gd; exact ⟨by omega, by omega⟩
  ·rw [if_neg e]; exact h.r.nV j hj
 ·show (if s = i then u else D.V s) ≠ D.U t;by_cases e : s = i
  ·rw [if_pos e]; have := hf.U t ht; omega
  ·rw [if_neg e]; exact h.r.nVU s t hs ht
 ·show gb ≠ if j = i then u else D.V j
  by_cases e : j = i
  ·rw [if_pos e]; omega
  ·rw [if_neg e]; exact (h.b4 j hj).1
theorem BS.putG {w w1 : World} {base gb n k : Nat} {D : BD} {ls gs : List (List Int)} {ds : List Int} (h0 : BS w base gb n D ls ds gs k) (hb : Below w.heap.size w w1) (hbase : base ≤ w.heap.size) {i u l c : Nat} {zs : List Int} (hi : i < n) (ho : OwnV w1 w.heap.size (some ⟨u, 0, none⟩) l c zs k) : BS (w1.setCell ⟨D.gg, i, none⟩ (.slice (some ⟨u, 0, none⟩) l c)) base gb n (D.setG i u l c) ls ds (gs.set i zs) k := by
 have h := h0.za hb;have hf := h0.r.fresh;have hu := ho.base_le.1;have hgb := h0.box.lt;have hnl := h.r.g.noLimb;have hgr := grown_set1 w1 D.gg i (.slice (some ⟨u, 0, none⟩) l c);refine ⟨⟨h.r.l.kept hgr hnl h.r.n1 (fun j hj => (h.r.nV j hj).1), h.r.g.put hi (ho.from hbase) (by have := hf.gg; omega) (fun j hj _ => by have := hf.U j hj; omega), h.r.d.kept hgr (noLimb_some hnl) (some_ne h.r.n3), h.r.n1, h.r.n2, h.r.n3, h.r.nV, fun j hj => ?_, fun s t hs ht => ?_⟩, h.box.other hgr (some_ne (Ne.symm h.b3)), h.b1, h.b2, h.b3, fun j hj => ⟨(h.b4 j hj).1, ?_⟩⟩
 ·show (if j = i then u else D.U j) ≠ D.gl ∧ (if j = i then u else D.U j) ≠ D.gd;by_cases e : j = i
  ·rw [if_pos e]; have := hf.gl; have := hf.gd; exact ⟨by omega, by omega⟩
  ·rw [if_neg e]; exact h.r.nU j hj
 ·show D.V s ≠ if t = i then u else D.U t
  by_cases e : t = i
  ·rw [if_pos e]; have := hf.V s hs; omega
  ·rw [if_neg e]; exact h.r.nVU s t hs ht
 ·show gb ≠ if j = i then u else D.U j
  by_cases e : j = i
  ·rw [if_pos e]; omega
  ·rw [if_neg e]; exact (h.b4 j hj).2
theorem BS.setD {w : World} {base gb n k : Nat} {D : BD} {ls gs : List (List Int)} {ds : List Int} (h : BS w base gb n D ls ds gs k) {i : Nat} (hi : i < n + 1) {b : Bool} {a : Option Addr} {l c : Nat} {z : Int} (hz : FK w b a l c z k) : BS ((w.setCell ⟨D.gd, i * 2, none⟩ (.bool b)).setCell ⟨D.gd, i * 2 + 1, none⟩ (.slice a l c)) base gb n D ls (ds.set i z) gs k := by
 have hnl := h.r.d.noLimb;have hgr := grown_set2 w D.gd (i * 2) (i * 2 + 1) (.bool b) (.slice a l c);exact ⟨⟨h.r.l.kept hgr hnl h.r.n2 (fun j hj => (h.r.nV j hj).2), h.r.g.kept hgr hnl h.r.n3 (fun j hj => (h.r.nU j hj).2), h.r.d.set hi hz, h.r.n1, h.r.n2, h.r.n3, h.r.nV, h.r.nU, h.r.nVU⟩, h.box.other hgr (some_ne (Ne.symm h.b2)), h.b1, h.b2, h.b3, h.b4⟩
theorem BS.setG {w : World} {base gb n k : Nat} {D : BD} {ls gs : List (List Int)} {ds : List Int} (h : BS w base gb n D ls ds gs k) {i j : Nat} (hi : i < n) (hj : j < (gs.getD i []).length) {b : Bool} {a : Option Addr} {l c : Nat} {z : Int} (hz : FK w b a l c z k) : BS ((w.setCell ⟨D.U i, j * 2, none⟩ (.bool b)).setCell ⟨D.U i, j * 2 + 1, none⟩ (.slice a l c)) base gb n D ls ds (gs.set i ((gs.getD i []).set j z)) k := by
 obtain ⟨_, _, _, _, _, ho⟩ := h.r.g.at hi;have hnl := ho.noLimb;have hgr := grown_set2 w (D.U i) (j * 2) (j * 2 + 1) (.bool b) (.slice a l c);exact ⟨⟨h.r.l.kept hgr hnl (Ne.symm (h.r.nU i hi).1) (fun t ht => h.r.nVU t i ht hi), h.r.g.set hi hj hz, h.r.d.kept hgr (noLimb_some hnl) (some_ne (h.r.nU i hi).2), h.r.n1, h.r.n2, h.r.n3, h.r.nV, h.r.nU, h.r.nVU⟩, h.box.other hgr (some_ne (Ne.symm (h.b4 i hi).2)), h.b1, h.b2, h.b3, h.b4⟩
theorem BS.swapL {w : World} {base gb n k : Nat} {D : BD} {ls gs : List (List Int)} {ds : List Int} (h : BS w base gb n D ls ds gs k) {p q l c l' c' : Nat} (hp : p < n) (hq : q < n) (hpq : p ≠ q) (ep : D.vs[p]? = some (some ⟨D.V p, 0, none⟩, l, c)) (eq : D.vs[q]? = some (some ⟨D.V q, 0, none⟩, l', c')) :
  BS ((w.setCell ⟨D.gl, p, none⟩ (.slice (some ⟨D.V q, 0, none⟩) l' c')).setCell ⟨D.gl, q, none⟩ (.slice (some ⟨D.V p, 0, none⟩) l c)) base gb n { D with vs := (D.vs.set p (some ⟨D.V q, 0, none⟩, l', c')).set q (some ⟨D.V p, 0, none⟩, l, c), V := fun j => if j = p then D.V q else if j = q then D.V p else D.V j } (Go.Proofs.YtnpneloahajniaaGreat.swapL ls p q) ds gs k := by
 have hnl := h.r.l.noLimb;have hgr := grown_set2 w D.gl p q (.slice (some ⟨D.V q, 0, none⟩) l' c') (.slice (some ⟨D.V p, 0, none⟩) l c);have hV : ∀ P : Nat → Prop, (∀ i, i < n → P (D.V i)) → ∀ i, i < n → P (if i = p then D.V q else if i = q then D.V p else D.V i) := fun P hP i hi => by
  by_cases e : i = p
  ·rw [if_pos e]; exact hP q hq
  ·rw [if_neg e];by_cases e2 : i = q
   ·rw [if_pos e2]; exact hP p hp
   ·rw [if_neg e2]; exact hP i hi
 exact ⟨⟨h.r.l.swap hp hq hpq ep eq, h.r.g.kept hgr hnl (Ne.symm h.r.n1) (fun j hj => (h.r.nU j hj).1), h.r.d.kept hgr (noLimb_some hnl) (some_ne h.r.n2), h.r.n1, h.r.n2, h.r.n3, hV (fun x => x ≠ D.gg ∧ x ≠ D.gd) h.r.nV, h.r.nU, fun i j hi hj => hV (fun x => x ≠ D.U j) (fun t ht => h.r.nVU t j ht hj) i hi⟩, h.box.other hgr (some_ne (Ne.symm h.b1)), h.b1, h.b2, h.b3, fun i hi => ⟨hV (fun x => gb ≠ x) (fun t ht => (h.b4 t ht).1) i hi, (h.b4 i hi).2⟩⟩
end Go.Proofs.YtnpneloahajniaaGreat
