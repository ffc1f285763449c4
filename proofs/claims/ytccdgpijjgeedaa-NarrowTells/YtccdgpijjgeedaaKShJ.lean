/- A shape's core. -/
import Derived.Test.YtccdgpijjgeedaaKShE
namespace Go.Proofs.Ytccdgpijjgeedaa
open Go.RowKit Go.Shelf
set_option linter.unusedVariables false

def ptsP (s : Sh) : List Pt := if s.kind = 1 then [Pt.O] else if s.kind = 2 then [⟨-s.half.x, 0, 0⟩, ⟨s.half.x, 0, 0⟩] else if s.kind = 3 then cornersP s.half else s.pts
def axesP (s : Sh) : List Pt := if s.kind = 3 then straightP else if s.kind = 4 then (sidesP s.pts).1 else []
def edgesP (s : Sh) : List Pt := if s.kind = 2 then [⟨1, 0, 0⟩] else if s.kind = 3 then straightP else if s.kind = 4 then (sidesP s.pts).2 else []
theorem own_le {w : World} {base base' : Nat} {t : TypeId} {sz n : Nat} {u : Value} {xs : List Value} (h : w.ownsRow base t sz u n xs) (hb : base' ≤ base) : w.ownsRow base' t sz u n xs := Go.Joins.ownsRow_le h hb
/-- Three lists of the call's own. -/
structure Three (w0 W : World) (vp va ve : Value) (P A E : List Pt) : Prop where
  rp : W.ownsRow w0.heap.size 26 3 vp P.length (fl3 P)
  ra : W.ownsRow w0.heap.size 26 3 va A.length (fl3 A)
  re : W.ownsRow w0.heap.size 26 3 ve E.length (fl3 E)
  pa : ∀ k, vp.ownBlock = some k → va.ownBlock ≠ some k
  pe : ∀ k, vp.ownBlock = some k → ve.ownBlock ≠ some k
  ae : ∀ k, va.ownBlock = some k → ve.ownBlock ≠ some k
  below : Below w0.heap.size w0 W
theorem Three.step {w0 W X : World} {vp va ve : Value} {P A E : List Pt} (h : Three w0 W vp va ve P A E) (hb : Below W.heap.size W X) : Three w0 X vp va ve P A E :=
  ⟨own_below h.rp hb, own_below h.ra hb, own_below h.re hb, h.pa, h.pe, h.ae, b_step h.below hb⟩
def set4 (W : World) (b : Nat) (v0 v1 v2 v3 : Value) : World := (((W.setCell ⟨b, 0, none⟩ v0).setCell ⟨b, 1, none⟩ v1).setCell ⟨b, 2, none⟩ v2).setCell ⟨b, 3, none⟩ v3
theorem own_set4 {W : World} {base : Nat} {t : TypeId} {sz n : Nat} {u : Value} {xs : List Value} {b : Nat} (h : W.ownsRow base t sz u n xs) (hne : u.ownBlock ≠ some b) (v0 v1 v2 v3 : Value) : (set4 W b v0 v1 v2 v3).ownsRow base t sz u n xs :=
  ownsRow_setCell_other (ownsRow_setCell_other (ownsRow_setCell_other (ownsRow_setCell_other h hne _) hne _) hne _) hne _
theorem set4_below {n : Nat} {w W : World} {b : Nat} (h : Below n w W) (hb : n ≤ b) (v0 v1 v2 v3 : Value) : Below n w (set4 W b v0 v1 v2 v3) := (((h.setCell hb _).setCell hb _).setCell hb _).setCell hb _
theorem Three.set {w0 W : World} {vp va ve : Value} {P A E : List Pt} {b : Nat} (h : Three w0 W vp va ve P A E) (hb : w0.heap.size ≤ b) (h1 : vp.ownBlock ≠ some b) (h2 : va.ownBlock ≠ some b) (h3 : ve.ownBlock ≠ some b) (v0 v1 v2 v3 : Value) : Three w0 (set4 W b v0 v1 v2 v3) vp va ve P A E :=
  ⟨own_set4 h.rp h1 _ _ _ _, own_set4 h.ra h2 _ _ _ _, own_set4 h.re h3 _ _ _ _, h.pa, h.pe, h.ae, set4_below h.below hb _ _ _ _⟩
theorem three_nil {w0 W : World} (h : Below w0.heap.size w0 W) : Three w0 W (.slice none 0 0) (.slice none 0 0) (.slice none 0 0) [] [] [] :=
  ⟨World.ownsRow_nil _ _ _ _, World.ownsRow_nil _ _ _ _, World.ownsRow_nil _ _ _ _, (fun _ h => by cases h), (fun _ h => by cases h), (fun _ h => by cases h), h⟩
/-- Cells of a block. -/
def Cells (W : World) (b : Nat) (vs : List Value) : Prop := ∀ i v, vs[i]? = some v → W.cell? ⟨b, i, none⟩ = some v ∧ W.frozen? ⟨b, i, none⟩ = false
theorem Cells.step {A B : World} {b : Nat} {vs : List Value} (h : Cells A b vs) (hb : Below A.heap.size A B) : Cells B b vs := fun i v e => ⟨c_after hb (h i v e).1, f_after hb (h i v e).1 (h i v e).2⟩
theorem Cells.new (w : World) (vs : List Value) (t : TypeId) : Cells (w.alloc (.cells vs.toArray t)) w.heap.size vs := fun i v e => ⟨by simp [e], by simp [go_sem]⟩
theorem Cells.set {W : World} {b : Nat} {vs : List Value} (h : Cells W b vs) (k : Nat) (u : Value) (hk : k < vs.length) : Cells (W.setCell ⟨b, k, none⟩ u) b (vs.set k u) := by
  intro i v e
  by_cases hik : i = k
  · subst hik
    rw [List.getElem?_set_self hk] at e
    cases e
    obtain ⟨h1, h2⟩ := h i _ (List.getElem?_eq_getElem hk)
    exact ⟨by simp [go_sem, h1], by simp [go_sem, h2]⟩
  · rw [List.getElem?_set_ne (Ne.symm hik)] at e
    obtain ⟨h1, h2⟩ := h i v e
    exact ⟨by simp [go_sem, h1], by simp [go_sem, h2]⟩
theorem Cells.set4 {W : World} {b : Nat} {x0 x1 x2 x3 : Value} (h : Cells W b [x0, x1, x2, x3]) (v0 v1 v2 v3 : Value) : Cells (set4 W b v0 v1 v2 v3) b [v0, v1, v2, v3] := (((h.set 0 v0 (by simp)).set 1 v1 (by simp)).set 2 v2 (by simp)).set 3 v3 (by simp)
theorem own_one {w : World} {base : Nat} {p : Pt} (hb : base ≤ w.heap.size) : (w.alloc (.cells #[.int .i64 p.x, .int .i64 p.y, .int .i64 p.z] 26)).ownsRow base 26 3 (.slice (some ⟨w.heap.size, 0, none⟩) 1 1) [p].length (fl3 [p]) :=
  World.ownsRow_lit (e := 26) (size := 3) w #[.int .i64 p.x, .int .i64 p.y, .int .i64 p.z] 1 hb (by unfold maxLen; omega) rfl
theorem own_two {w : World} {base : Nat} {p q : Pt} (hb : base ≤ w.heap.size) : (w.alloc (.cells #[.int .i64 p.x, .int .i64 p.y, .int .i64 p.z, .int .i64 q.x, .int .i64 q.y, .int .i64 q.z] 26)).ownsRow base 26 3 (.slice (some ⟨w.heap.size, 0, none⟩) 2 2) [p, q].length (fl3 [p, q]) :=
  World.ownsRow_lit (e := 26) (size := 3) w #[.int .i64 p.x, .int .i64 p.y, .int .i64 p.z, .int .i64 q.x, .int .i64 q.y, .int .i64 q.z] 2 hb (by unfold maxLen; omega) rfl

theorem set4_size (W : World) (b : Nat) (v0 v1 v2 v3 : Value) : (set4 W b v0 v1 v2 v3).heap.size = W.heap.size := by simp [set4, World.setCell]
theorem three_ball {w0 W : World} (h : Below w0.heap.size w0 W) (n : Nat) (hn : n = W.heap.size) : Three w0 (W.alloc (.cells #[.int .i64 0, .int .i64 0, .int .i64 0] 26)) (.slice (some ⟨n, 0, none⟩) 1 1) (.slice none 0 0) (.slice none 0 0) [Pt.O] [] [] := by
  subst hn
  exact ⟨own_one (p := Pt.O) h.size, World.ownsRow_nil _ _ _ _, World.ownsRow_nil _ _ _ _, (fun _ _ h => by cases h), (fun _ _ h => by cases h), (fun _ h => by cases h), b_step h (n_after _ _)⟩
theorem three_capsule {w0 W : World} (h : Below w0.heap.size w0 W) (x : Int) (n m : Nat) (hn : n = W.heap.size) (hm : m = W.heap.size + 1) : Three w0 ((W.alloc (.cells #[.int .i64 (-x), .int .i64 0, .int .i64 0, .int .i64 x, .int .i64 0, .int .i64 0] 26)).alloc (.cells #[.int .i64 1, .int .i64 0, .int .i64 0] 26)) (.slice (some ⟨n, 0, none⟩) 2 2) (.slice none 0 0) (.slice (some ⟨m, 0, none⟩) 1 1) [⟨-x, 0, 0⟩, ⟨x, 0, 0⟩] [] [⟨1, 0, 0⟩] := by
  subst hn hm
  have hs : w0.heap.size ≤ (W.alloc (.cells #[.int .i64 (-x), .int .i64 0, .int .i64 0, .int .i64 x, .int .i64 0, .int .i64 0] 26)).heap.size := by have := h.size; simp; omega
  have k2 := own_one (w := W.alloc (.cells #[.int .i64 (-x), .int .i64 0, .int .i64 0, .int .i64 x, .int .i64 0, .int .i64 0] 26)) (base := w0.heap.size) (p := ⟨1, 0, 0⟩) hs
  rw [World.size_alloc] at k2
  refine ⟨own_below (own_two (p := ⟨-x, 0, 0⟩) (q := ⟨x, 0, 0⟩) h.size) (n_after _ _), World.ownsRow_nil _ _ _ _, k2, (fun _ _ h => by cases h), (fun k h e => ?_), (fun _ h => by cases h), b_step h (b_step (n_after _ _) (n_after _ _))⟩
  simp only [Value.ownBlock, Option.some.injEq] at h e
  omega
theorem Three.put {w0 W : World} {vp va ve : Value} {P A E : List Pt} {b : Nat} (h : Three w0 W vp va ve P A E) (hb : w0.heap.size ≤ b) (h1 : vp.ownBlock ≠ some b) (h2 : va.ownBlock ≠ some b) (h3 : ve.ownBlock ≠ some b) (k : Nat) (v : Value) : Three w0 (W.setCell ⟨b, k, none⟩ v) vp va ve P A E :=
  ⟨ownsRow_setCell_other h.rp h1 _, ownsRow_setCell_other h.ra h2 _, ownsRow_setCell_other h.re h3 _, h.pa, h.pe, h.ae, h.below.setCell hb _⟩
theorem three_of {w0 X0 X1 X2 X3 : World} {vp va ve : Value} {P A E : List Pt} (h : Below w0.heap.size w0 X0) (hp : Row X0 X1 vp P) (ha : Row X1 X2 va A) (he : Row X2 X3 ve E) :
    Three w0 X3 vp va ve P A E ∧ ∀ b, b < X0.heap.size → vp.ownBlock ≠ some b ∧ va.ownBlock ≠ some b ∧ ve.ownBlock ≠ some b := by
  have s1 := hp.below.size
  have s2 := ha.below.size
  have s3 := he.below.size
  have s0 := h.size
  refine ⟨⟨own_below (own_below (own_le hp.row s0) ha.below) he.below, own_below (own_le ha.row (by omega)) he.below, own_le he.row (by omega), fun k e1 e2 => ?_, fun k e1 e2 => ?_, fun k e1 e2 => ?_, b_step (b_step (b_step h hp.below) ha.below) he.below⟩, fun b hb => ⟨fun e => ?_, fun e => ?_, fun e => ?_⟩⟩
  · have a := (hp.row.lt k e1).2; have b := (ha.row.lt k e2).1; omega
  · have a := (hp.row.lt k e1).2; have b := (he.row.lt k e2).1; omega
  · have a := (ha.row.lt k e1).2; have b := (he.row.lt k e2).1; omega
  · have a := (hp.row.lt b e).1; omega
  · have a := (ha.row.lt b e).1; omega
  · have a := (he.row.lt b e).1; omega
/-- A hull's: points cloned, a cell of an elder block written, sides. -/
theorem three_hull {w0 X0 X1 X3 : World} {vp va ve : Value} {P A E : List Pt} {b5 : Nat} (h : Below w0.heap.size w0 X0) (hb5 : w0.heap.size ≤ b5) (hb5' : b5 < X0.heap.size) (hp : Row X0 X1 vp P) (k : Nat) (v : Value) (ha : Two (X1.setCell ⟨b5, k, none⟩ v) X3 va ve A E []) :
    Three w0 X3 vp va ve P A E ∧ ∀ b, b < X0.heap.size → vp.ownBlock ≠ some b ∧ va.ownBlock ≠ some b ∧ ve.ownBlock ≠ some b := by
  have s1 := hp.below.size
  have s0 := h.size
  have sz : (X1.setCell ⟨b5, k, none⟩ v).heap.size = X1.heap.size := by simp [World.setCell]
  have bl := ha.below
  have s3 := bl.size
  have hpo : (X1.setCell ⟨b5, k, none⟩ v).ownsRow w0.heap.size 26 3 vp P.length (fl3 P) := ownsRow_setCell_other (own_le hp.row s0) (fun e => by have := (hp.row.lt b5 e).1; omega) _
  have ra := ha.ra
  have re := ha.re
  rw [sz] at ra re
  refine ⟨⟨own_below hpo bl, own_le ra (by omega), own_le re (by omega), fun k e1 e2 => ?_, fun k e1 e2 => ?_, fun k e1 e2 => ha.apart k e2 e1, b_step ((b_step h hp.below).setCell hb5 _) bl⟩, fun b hb => ⟨fun e => ?_, fun e => ?_, fun e => ?_⟩⟩
  · have a := (hp.row.lt k e1).2; have b := (ra.lt k e2).1; omega
  · have a := (hp.row.lt k e1).2; have b := (re.lt k e2).1; omega
  · have a := (hp.row.lt b e).1; omega
  · have a := (ra.lt b e).1; omega
  · have a := (re.lt b e).1; omega

end Go.Proofs.Ytccdgpijjgeedaa
