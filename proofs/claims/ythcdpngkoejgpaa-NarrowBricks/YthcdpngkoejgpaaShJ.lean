/- A shape's core. -/
import Derived.Test.YthcdpngkoejgpaaShI
namespace Go.Proofs.Ythcdpngkoejgpaa
open Go.RowKit Go.Shelf
set_option linter.unusedVariables false

def ptsP (s : Sh) : List Pt := if s.kind = 1 then [Pt.O] else if s.kind = 2 then [⟨-s.half.x, 0, 0⟩, ⟨s.half.x, 0, 0⟩] else if s.kind = 3 then cornersP s.half else s.pts
def axesP (s : Sh) : List Pt := if s.kind = 3 then straightP else if s.kind = 4 then (sidesP s.pts).1 else []
def edgesP (s : Sh) : List Pt := if s.kind = 2 then [⟨1, 0, 0⟩] else if s.kind = 3 then straightP else if s.kind = 4 then (sidesP s.pts).2 else []
theorem own_le {w : World} {base base' : Nat} {t : TypeId} {sz n : Nat} {u : Value} {xs : List Value} (h : w.ownsRow base t sz u n xs) (hb : base' ≤ base) : w.ownsRow base' t sz u n xs := Go.Joins.ownsRow_le h hb
/-- Three lists of the call's own. -/
structure Three (w0 W : World) (vp va ve : Value) (P A E : List Pt) : Prop where
  rp : W.ownsRow w0.heap.size 26 3 vp P.length (fl3 P)
  ra : W.ownsRow w0.heap.size 26 3 va A.length (fl3 A)
  re : W.ownsRow w0.heap.size 26 3 ve E.length (fl3 E)
  pa : ∀ k, vp.ownBlock = some k → va.ownBlock ≠ some k
  pe : ∀ k, vp.ownBlock = some k → ve.ownBlock ≠ some k
  ae : ∀ k, va.ownBlock = some k → ve.ownBlock ≠ some k
  below : Below w0.heap.size w0 W
theorem Three.step {w0 W X : World} {vp va ve : Value} {P A E : List Pt} (h : Three w0 W vp va ve P A E) (hb : Below W.heap.size W X) : Three w0 X vp va ve P A E :=
  ⟨own_below h.rp hb, own_below h.ra hb, own_below h.re hb, h.pa, h.pe, h.ae, b_step h.below hb⟩
def set4 (W : World) (b : Nat) (v0 v1 v2 v3 : Value) : World := (((W.setCell ⟨b, 0, none⟩ v0).setCell ⟨b, 1, none⟩ v1).setCell ⟨b, 2, none⟩ v2).setCell ⟨b, 3, none⟩ v3
theorem own_set4 {W : World} {base : Nat} {t : TypeId} {sz n : Nat} {u : Value} {xs : List Value} {b : Nat} (h : W.ownsRow base t sz u n xs) (hne : u.ownBlock ≠ some b) (v0 v1 v2 v3 : Value) : (set4 W b v0 v1 v2 v3).ownsRow base t sz u n xs :=
  ownsRow_setCell_other (ownsRow_setCell_other (ownsRow_setCell_other (ownsRow_setCell_other h hne _) hne _) hne _) hne _
theorem set4_below {n : Nat} {w W : World} {b : Nat} (h : Below n w W) (hb : n ≤ b) (v0 v1 v2 v3 : Value) : Below n w (set4 W b v0 v1 v2 v3) := (((h.setCell hb _).setCell hb _).setCell hb _).setCell hb _
theorem Three.set {w0 W : World} {vp va ve : Value} {P A E : List Pt} {b : Nat} (h : Three w0 W vp va ve P A E) (hb : w0.heap.size ≤ b) (h1 : vp.ownBlock ≠ some b) (h2 : va.ownBlock ≠ some b) (h3 : ve.ownBlock ≠ some b) (v0 v1 v2 v3 : Value) : Three w0 (set4 W b v0 v1 v2 v3) vp va ve P A E :=
  ⟨own_set4 h.rp h1 _ _ _ _, own_set4 h.ra h2 _ _ _ _, own_set4 h.re h3 _ _ _ _, h.pa, h.pe, h.ae, set4_below h.below hb _ _ _ _⟩
theorem three_nil {w0 W : World} (h : Below w0.heap.size w0 W) : Three w0 W (.slice none 0 0) (.slice none 0 0) (.slice none 0 0) [] [] [] :=
  ⟨World.ownsRow_nil _ _ _ _, World.ownsRow_nil _ _ _ _, World.ownsRow_nil _ _ _ _, (fun _ h => by cases h), (fun _ h => by cases h), (fun _ h => by cases h), h⟩
/-- Cells of a block. -/
def Cells (W : World) (b : Nat) (vs : List Value) : Prop := ∀ i v, vs[i]? = some v → W.cell? ⟨b, i, none⟩ = some v ∧ W.frozen? ⟨b, i, none⟩ = false
theorem Cells.step {A B : World} {b : Nat} {vs : List Value} (h : Cells A b vs) (hb : Below A.heap.size A B) : Cells B b vs := fun i v e => ⟨c_after hb (h i v e).1, f_after hb (h i v e).1 (h i v e).2⟩
theorem Cells.new (w : World) (vs : List Value) (t : TypeId) : Cells (w.alloc (.cells vs.toArray t)) w.heap.size vs := fun i v e => ⟨by simp [e], by simp [go_sem]⟩
theorem Cells.set {W : World} {b : Nat} {vs : List Value} (h : Cells W b vs) (k : Nat) (u : Value) (hk : k < vs.length) : Cells (W.setCell ⟨b, k, none⟩ u) b (vs.set k u) := by
  intro i v e
  by_cases hik : i = k
  · subst hik
    rw [List.getElem?_set_self hk] at e
    cases e
    obtain ⟨h1, h2⟩ := h i _ (List.getElem?_eq_getElem hk)
    exact ⟨by simp [go_sem, h1], by simp [go_sem, h2]⟩
  · rw [List.getElem?_set_ne (Ne.symm hik)] at e
    obtain ⟨h1, h2⟩ := h i v e
    exact ⟨by simp [go_sem, h1], by simp [go_sem, h2]⟩
theorem Cells.set4 {W : World} {b : Nat} {x0 x1 x2 x3 : Value} (h : Cells W b [x0, x1, x2, x3]) (v0 v1 v2 v3 : Value) : Cells (set4 W b v0 v1 v2 v3) b [v0, v1, v2, v3] := (((h.set 0 v0 (by simp)).set 1 v1 (by simp)).set 2 v2 (by simp)).set 3 v3 (by simp)
theorem own_one {w : World} {base : Nat} {p : Pt} (hb : base ≤ w.heap.size) : (w.alloc (.cells #[.int .i64 p.x, .int .i64 p.y, .int .i64 p.z] 26)).ownsRow base 26 3 (.slice (some ⟨w.heap.size, 0, none⟩) 1 1) [p].length (fl3 [p]) :=
  World.ownsRow_lit (e := 26) (size := 3) w #[.int .i64 p.x, .int .i64 p.y, .int .i64 p.z] 1 hb (by unfold maxLen; omega) rfl
theorem own_two {w : World} {base : Nat} {p q : Pt} (hb : base ≤ w.heap.size) : (w.alloc (.cells #[.int .i64 p.x, .int .i64 p.y, .int .i64 p.z, .int .i64 q.x, .int .i64 q.y, .int .i64 q.z] 26)).ownsRow base 26 3 (.slice (some ⟨w.heap.size, 0, none⟩) 2 2) [p, q].length (fl3 [p, q]) :=
  World.ownsRow_lit (e := 26) (size := 3) w #[.int .i64 p.x, .int .i64 p.y, .int .i64 p.z, .int .i64 q.x, .int .i64 q.y, .int .i64 q.z] 2 hb (by unfold maxLen; omega) rfl

theorem set4_size (W : World) (b : Nat) (v0 v1 v2 v3 : Value) : (set4 W b v0 v1 v2 v3).heap.size = W.heap.size := by simp [set4, World.setCell]
theorem three_ball {w0 W : World} (h : Below w0.heap.size w0 W) (n : Nat) (hn : n = W.heap.size) : Three w0 (W.alloc (.cells #[.int .i64 0, .int .i64 0, .int .i64 0] 26)) (.slice (some ⟨n, 0, none⟩) 1 1) (.slice none 0 0) (.slice none 0 0) [Pt.O] [] [] := by
  subst hn
  exact ⟨own_one (p := Pt.O) h.size, World.ownsRow_nil _ _ _ _, World.ownsRow_nil _ _ _ _, (fun _ _ h => by cases h), (fun _ _ h => by cases h), (fun _ h => by cases h), b_step h (n_after _ _)⟩
theorem three_capsule {w0 W : World} (h : Below w0.heap.size w0 W) (x : Int) (n m : Nat) (hn : n = W.heap.size) (hm : m = W.heap.size + 1) : Three w0 ((W.alloc (.cells #[.int .i64 (-x), .int .i64 0, .int .i64 0, .int .i64 x, .int .i64 0, .int .i64 0] 26)).alloc (.cells #[.int .i64 1, .int .i64 0, .int .i64 0] 26)) (.slice (some ⟨n, 0, none⟩) 2 2) (.slice none 0 0) (.slice (some ⟨m, 0, none⟩) 1 1) [⟨-x, 0, 0⟩, ⟨x, 0, 0⟩] [] [⟨1, 0, 0⟩] := by
  subst hn hm
  have hs : w0.heap.size ≤ (W.alloc (.cells #[.int .i64 (-x), .int .i64 0, .int .i64 0, .int .i64 x, .int .i64 0, .int .i64 0] 26)).heap.size := by have := h.size; simp; omega
  have k2 := own_one (w := W.alloc (.cells #[.int .i64 (-x), .int .i64 0, .int .i64 0, .int .i64 x, .int .i64 0, .int .i64 0] 26)) (base := w0.heap.size) (p := ⟨1, 0, 0⟩) hs
  rw [World.size_alloc] at k2
  refine ⟨own_below (own_two (p := ⟨-x, 0, 0⟩) (q := ⟨x, 0, 0⟩) h.size) (n_after _ _), World.ownsRow_nil _ _ _ _, k2, (fun _ _ h => by cases h), (fun k h e => ?_), (fun _ h => by cases h), b_step h (b_step (n_after _ _) (n_after _ _))⟩
  simp only [Value.ownBlock, Option.some.injEq] at h e
  omega
theorem Three.put {w0 W : World} {vp va ve : Value} {P A E : List Pt} {b : Nat} (h : Three w0 W vp va ve P A E) (hb : w0.heap.size ≤ b) (h1 : vp.ownBlock ≠ some b) (h2 : va.ownBlock ≠ some b) (h3 : ve.ownBlock ≠ some b) (k : Nat) (v : Value) : Three w0 (W.setCell ⟨b, k, none⟩ v) vp va ve P A E :=
  ⟨ownsRow_setCell_other h.rp h1 _, ownsRow_setCell_other h.ra h2 _, ownsRow_setCell_other h.re h3 _, h.pa, h.pe, h.ae, h.below.setCell hb _⟩
theorem three_of {w0 X0 X1 X2 X3 : World} {vp va ve : Value} {P A E : List Pt} (h : Below w0.heap.size w0 X0) (hp : Row X0 X1 vp P) (ha : Row X1 X2 va A) (he : Row X2 X3 ve E) :
    Three w0 X3 vp va ve P A E ∧ ∀ b, b < X0.heap.size → vp.ownBlock ≠ some b ∧ va.ownBlock ≠ some b ∧ ve.ownBlock ≠ some b := by
  have s1 := hp.below.size
  have s2 := ha.below.size
  have s3 := he.below.size
  have s0 := h.size
  refine ⟨⟨own_below (own_below (own_le hp.row s0) ha.below) he.below, own_below (own_le ha.row (by omega)) he.below, own_le he.row (by omega), fun k e1 e2 => ?_, fun k e1 e2 => ?_, fun k e1 e2 => ?_, b_step (b_step (b_step h hp.below) ha.below) he.below⟩, fun b hb => ⟨fun e => ?_, fun e => ?_, fun e => ?_⟩⟩
  · have a := (hp.row.lt k e1).2; have b := (ha.row.lt k e2).1; omega
  · have a := (hp.row.lt k e1).2; have b := (he.row.lt k e2).1; omega
  · have a := (ha.row.lt k e1).2; have b := (he.row.lt k e2).1; omega
  · have a := (hp.row.lt b e).1; omega
  · have a := (ha.row.lt b e).1; omega
  · have a := (he.row.lt b e).1; omega
/-- A hull's: points cloned, a cell of an elder block written, sides. -/
theorem three_hull {w0 X0 X1 X3 : World} {vp va ve : Value} {P A E : List Pt} {b5 : Nat} (h : Below w0.heap.size w0 X0) (hb5 : w0.heap.size ≤ b5) (hb5' : b5 < X0.heap.size) (hp : Row X0 X1 vp P) (k : Nat) (v : Value) (ha : Two (X1.setCell ⟨b5, k, none⟩ v) X3 va ve A E []) :
    Three w0 X3 vp va ve P A E ∧ ∀ b, b < X0.heap.size → vp.ownBlock ≠ some b ∧ va.ownBlock ≠ some b ∧ ve.ownBlock ≠ some b := by
  have s1 := hp.below.size
  have s0 := h.size
  have sz : (X1.setCell ⟨b5, k, none⟩ v).heap.size = X1.heap.size := by simp [World.setCell]
  have bl := ha.below
  have s3 := bl.size
  have hpo : (X1.setCell ⟨b5, k, none⟩ v).ownsRow w0.heap.size 26 3 vp P.length (fl3 P) := ownsRow_setCell_other (own_le hp.row s0) (fun e => by have := (hp.row.lt b5 e).1; omega) _
  have ra := ha.ra
  have re := ha.re
  rw [sz] at ra re
  refine ⟨⟨own_below hpo bl, own_le ra (by omega), own_le re (by omega), fun k e1 e2 => ?_, fun k e1 e2 => ?_, fun k e1 e2 => ha.apart k e2 e1, b_step ((b_step h hp.below).setCell hb5 _) bl⟩, fun b hb => ⟨fun e => ?_, fun e => ?_, fun e => ?_⟩⟩
  · have a := (hp.row.lt k e1).2; have b := (ra.lt k e2).1; omega
  · have a := (hp.row.lt k e1).2; have b := (re.lt k e2).1; omega
  · have a := (hp.row.lt b e).1; omega
  · have a := (ra.lt b e).1; omega
  · have a := (re.lt b e).1; omega

set_option maxHeartbeats 2000000 in
set_option maxRecDepth 100000 in
theorem core_any (s : Sh) (pv : Value) (w0 : World) (hv : Lies w0 pv s.pts) :
    Calls Try.prog 23 #[s.v pv] w0 fun e W => ∃ vp va ve, (checkP s ≠ 0 → e = .returned (.tuple #[.agg #[vp, va, ve, .int .i64 0], .int .i64 (checkP s)]) ∧ Three w0 W vp va ve [] [] []) ∧ (checkP s = 0 → e = .returned (.tuple #[.agg #[vp, va, ve, .int .i64 s.radius], .int .i64 0]) ∧ Three w0 W vp va ve (ptsP s) (axesP s) (edgesP s)) := by
  have hB : Hid (Below w0.heap.size w0 ((w0.alloc (.cells #[.int .i64 s.kind, .int .i64 s.radius, .int .i64 s.half.x, .int .i64 s.half.y, .int .i64 s.half.z, pv] 60)).alloc (.cells #[.slice none 0 0, .slice none 0 0, .slice none 0 0, .int .i64 0] 24))) := b_step (n_after w0 _) (n_after _ _)
  have HF : Hid _ := check_any s pv ((w0.alloc (.cells #[.int .i64 s.kind, .int .i64 s.radius, .int .i64 s.half.x, .int .i64 s.half.y, .int .i64 s.half.z, pv] 60)).alloc (.cells #[.slice none 0 0, .slice none 0 0, .slice none 0 0, .int .i64 0] 24)) (hv.below hB.out)
  have B1 : Hid (Cells ((w0.alloc (.cells #[.int .i64 s.kind, .int .i64 s.radius, .int .i64 s.half.x, .int .i64 s.half.y, .int .i64 s.half.z, pv] 60)).alloc (.cells #[.slice none 0 0, .slice none 0 0, .slice none 0 0, .int .i64 0] 24)) w0.heap.size [.int .i64 s.kind, .int .i64 s.radius, .int .i64 s.half.x, .int .i64 s.half.y, .int .i64 s.half.z, pv]) := (Cells.new w0 [.int .i64 s.kind, .int .i64 s.radius, .int .i64 s.half.x, .int .i64 s.half.y, .int .i64 s.half.z, pv] _).step (n_after _ _)
  have B2 : Hid (Cells ((w0.alloc (.cells #[.int .i64 s.kind, .int .i64 s.radius, .int .i64 s.half.x, .int .i64 s.half.y, .int .i64 s.half.z, pv] 60)).alloc (.cells #[.slice none 0 0, .slice none 0 0, .slice none 0 0, .int .i64 0] 24)) (w0.heap.size + 1) [.slice none 0 0, .slice none 0 0, .slice none 0 0, .int .i64 0]) := by have := Cells.new (w0.alloc (.cells #[.int .i64 s.kind, .int .i64 s.radius, .int .i64 s.half.x, .int .i64 s.half.y, .int .i64 s.half.z, pv] 60)) [.slice none 0 0, .slice none 0 0, .slice none 0 0, .int .i64 0] 24; rwa [World.size_alloc] at this
  have HFO : Hid (checkP s = 0 → formP s = true) := fun h => by
    cases hf : formP s with
    | true => rfl
    | false => unfold checkP at h; rw [hf] at h; simp at h
  obtain ⟨k, r, ⟨hx, hy, hz⟩, L⟩ := s
  have HPT : Hid (ptsP ⟨k, r, ⟨hx, hy, hz⟩, L⟩ = if k = 1 then [Pt.O] else if k = 2 then [⟨-hx, 0, 0⟩, ⟨hx, 0, 0⟩] else if k = 3 then cornersP ⟨hx, hy, hz⟩ else L) := rfl
  have HAX : Hid (axesP ⟨k, r, ⟨hx, hy, hz⟩, L⟩ = if k = 3 then straightP else if k = 4 then (sidesP L).1 else []) := rfl
  have HED : Hid (edgesP ⟨k, r, ⟨hx, hy, hz⟩, L⟩ = if k = 2 then [⟨1, 0, 0⟩] else if k = 3 then straightP else if k = 4 then (sidesP L).2 else []) := rfl
  have HFM : Hid (formP ⟨k, r, ⟨hx, hy, hz⟩, L⟩ = if k = 1 then inR r 1 16384 else if k = 2 then inR r 1 16384 && halfOk hx else if k = 3 then inR r 0 16384 && (halfOk hx && (halfOk hy && halfOk hz)) else if k = 4 then inR r 0 16384 && mayP L else false) := rfl
  have HCK : Hid (checkP ⟨k, r, ⟨hx, hy, hz⟩, L⟩ = checkP ⟨k, r, ⟨hx, hy, hz⟩, L⟩) := rfl
  generalize ptsP ⟨k, r, ⟨hx, hy, hz⟩, L⟩ = P at *
  generalize axesP ⟨k, r, ⟨hx, hy, hz⟩, L⟩ = A at *
  generalize edgesP ⟨k, r, ⟨hx, hy, hz⟩, L⟩ = E at *
  generalize checkP ⟨k, r, ⟨hx, hy, hz⟩, L⟩ = C at *
  generalize formP ⟨k, r, ⟨hx, hy, hz⟩, L⟩ = F at *
  have HV : Hid _ := hv
  obtain ⟨o, c, rfl, hlc, hcm, _⟩ := hv.form
  clear hv HCK
  unfold Sh.v at *
  dsimp only at *
  go_enter Try.func23, Try.ntmps23
  go_wp2_with (fail)
  refine Calls.mono HF.out ?_
  clear HF
  rintro e V ⟨rfl, hb⟩
  have D1 : Hid (Cells V w0.heap.size [.int .i64 k, .int .i64 r, .int .i64 hx, .int .i64 hy, .int .i64 hz, .slice o L.length c]) := Cells.step B1.out hb
  have D2 : Hid (Cells V (w0.heap.size + 1) [.slice none 0 0, .slice none 0 0, .slice none 0 0, .int .i64 0]) := Cells.step B2.out hb
  have hD : Hid (Below w0.heap.size w0 V) := b_step hB.out hb
  clear B1 B2 hB
  have hsz : w0.heap.size + 1 < V.heap.size := World.block_lt_of_cell? _ _ (D2.out 0 _ rfl).1
  have hsz0 : w0.heap.size < V.heap.size := by omega
  clear hb
  have r0 := (D2.out 0 _ rfl).1
  have r1 := (D2.out 1 _ rfl).1
  have r2 := (D2.out 2 _ rfl).1
  have r3 := (D2.out 3 _ rfl).1
  have f0 := (D2.out 0 _ rfl).2
  have f1 := (D2.out 1 _ rfl).2
  have f2 := (D2.out 2 _ rfl).2
  have f3 := (D2.out 3 _ rfl).2
  by_cases hC : C = 0
  · subst hC
    have hF := HFO.out rfl
    clear HFO
    subst hF
    have s0 := (D1.out 0 _ rfl).1
    have s1 := (D1.out 1 _ rfl).1
    have s2 := (D1.out 2 _ rfl).1
    have s3 := (D1.out 3 _ rfl).1
    have s4 := (D1.out 4 _ rfl).1
    have s5 := (D1.out 5 _ rfl).1
    by_cases k1 : k = 1
    · subst k1
      have eP : P = [Pt.O] := HPT.out
      have eA : A = [] := HAX.out
      have eE : E = [] := HED.out
      clear HPT HAX HED HFM
      subst eP eA eE
      clear s2 s3 s4 s5
      go_wp2_with (fail)
      have hX := set4_below hD.out (by omega : w0.heap.size ≤ w0.heap.size + 1) (.slice (some ⟨V.heap.size + 1, 0, none⟩) 1 1) (.slice none 0 0) (.slice none 0 0) (.int .i64 r)
      have BF := Cells.set4 D2.out (.slice (some ⟨V.heap.size + 1, 0, none⟩) 1 1) (.slice none 0 0) (.slice none 0 0) (.int .i64 r)
      have hS := set4_size V (w0.heap.size + 1) (.slice (some ⟨V.heap.size + 1, 0, none⟩) 1 1) (.slice none 0 0) (.slice none 0 0) (.int .i64 r)
      generalize hY : set4 V (w0.heap.size + 1) (.slice (some ⟨V.heap.size + 1, 0, none⟩) 1 1) (.slice none 0 0) (.slice none 0 0) (.int .i64 r) = Y at *
      unfold set4 at hY
      rw [hY]
      clear r0 r1 r2 r3 f0 f1 f2 f3 hY
      have BG := Cells.step BF (b_step (n_after Y (.cells #[.slice (some ⟨V.heap.size + 1, 0, none⟩) 1 1, .slice none 0 0, .slice none 0 0, .int .i64 r] 24)) (n_after _ (.cells #[.int .i64 0, .int .i64 0, .int .i64 0] 26)))
      have z0 := (BG 0 _ rfl).1
      have z1 := (BG 1 _ rfl).1
      have z2 := (BG 2 _ rfl).1
      have z3 := (BG 3 _ rfl).1
      refine bodyPost_ret (v := .tuple #[.agg #[.slice (some ⟨V.heap.size + 1, 0, none⟩) 1 1, .slice none 0 0, .slice none 0 0, .int .i64 r], .int .i64 0]) (by simp [results, Try.results23, go_sem, z0, z1, z2, z3]) rfl ⟨_, _, _, rfl, ?_⟩
      exact three_ball (b_step hX (n_after _ _)) _ (by rw [World.size_alloc, hS])
    by_cases k2 : k = 2
    · subst k2
      have eP : P = [⟨-hx, 0, 0⟩, ⟨hx, 0, 0⟩] := HPT.out
      have eA : A = [] := HAX.out
      have eE : E = [⟨1, 0, 0⟩] := HED.out
      have hhx : 1 ≤ hx ∧ hx ≤ 65536 := by
        have := HFM.out
        simp [halfOk] at this
        exact this.2
      clear HPT HAX HED HFM
      subst eP eA eE
      clear s3 s4 s5
      go_wp2_with (fail)
      have hX := set4_below hD.out (by omega : w0.heap.size ≤ w0.heap.size + 1) (.slice (some ⟨V.heap.size + 1, 0, none⟩) 2 2) (.slice none 0 0) (.slice (some ⟨V.heap.size + 1 + 1, 0, none⟩) 1 1) (.int .i64 r)
      have BF := Cells.set4 D2.out (.slice (some ⟨V.heap.size + 1, 0, none⟩) 2 2) (.slice none 0 0) (.slice (some ⟨V.heap.size + 1 + 1, 0, none⟩) 1 1) (.int .i64 r)
      have hS := set4_size V (w0.heap.size + 1) (.slice (some ⟨V.heap.size + 1, 0, none⟩) 2 2) (.slice none 0 0) (.slice (some ⟨V.heap.size + 1 + 1, 0, none⟩) 1 1) (.int .i64 r)
      generalize hY : set4 V (w0.heap.size + 1) (.slice (some ⟨V.heap.size + 1, 0, none⟩) 2 2) (.slice none 0 0) (.slice (some ⟨V.heap.size + 1 + 1, 0, none⟩) 1 1) (.int .i64 r) = Y at *
      unfold set4 at hY
      rw [hY]
      clear r0 r1 r2 r3 f0 f1 f2 f3 hY
      have BG := Cells.step BF (b_step (b_step (n_after Y (.cells #[.slice (some ⟨V.heap.size + 1, 0, none⟩) 2 2, .slice none 0 0, .slice (some ⟨V.heap.size + 1 + 1, 0, none⟩) 1 1, .int .i64 r] 24)) (n_after _ (.cells #[.int .i64 (-hx), .int .i64 0, .int .i64 0, .int .i64 hx, .int .i64 0, .int .i64 0] 26))) (n_after _ (.cells #[.int .i64 1, .int .i64 0, .int .i64 0] 26)))
      have z0 := (BG 0 _ rfl).1
      have z1 := (BG 1 _ rfl).1
      have z2 := (BG 2 _ rfl).1
      have z3 := (BG 3 _ rfl).1
      refine bodyPost_ret (v := .tuple #[.agg #[.slice (some ⟨V.heap.size + 1, 0, none⟩) 2 2, .slice none 0 0, .slice (some ⟨V.heap.size + 1 + 1, 0, none⟩) 1 1, .int .i64 r], .int .i64 0]) (by simp [results, Try.results23, go_sem, z0, z1, z2, z3]) rfl ⟨_, _, _, rfl, ?_⟩
      exact three_capsule (b_step hX (n_after _ _)) hx _ _ (by rw [World.size_alloc, hS]) (by rw [World.size_alloc, hS])
    by_cases k3 : k = 3
    · subst k3
      have eP : P = cornersP ⟨hx, hy, hz⟩ := HPT.out
      have eA : A = straightP := HAX.out
      have eE : E = straightP := HED.out
      have hh : (1 ≤ hx ∧ hx ≤ 65536) ∧ (1 ≤ hy ∧ hy ≤ 65536) ∧ (1 ≤ hz ∧ hz ≤ 65536) := by
        have := HFM.out
        simp [halfOk] at this
        exact this.2
      have hin : Pt.inB ⟨hx, hy, hz⟩ 1152921504606846976 = true := by rw [Pt.inB_iff]; dsimp only; omega
      clear HPT HAX HED HFM hh
      subst eA eE
      have B5 : Hid (Cells (V.alloc (.cells #[.slice none 0 0, .slice none 0 0, .slice none 0 0, .int .i64 r] 24)) V.heap.size [.slice none 0 0, .slice none 0 0, .slice none 0 0, .int .i64 r]) := Cells.new V _ _
      have HR1 : Hid _ := corners_any ⟨hx, hy, hz⟩ (V.alloc (.cells #[.slice none 0 0, .slice none 0 0, .slice none 0 0, .int .i64 r] 24)) hin
      unfold Pt.v at HR1
      dsimp only at HR1
      rw [← eP] at HR1
      clear eP
      clear s5
      go_wp2_with (fail)
      refine Calls.mono HR1.out ?_
      clear HR1
      rintro e X1 ⟨vp, rfl, hp⟩
      clear s0 s1 s2 s3 s4 r0 r1 r2 r3 f0 f1 f2 f3
      obtain ⟨o1, c1, rfl, _⟩ := hp.lies.form
      go_wp2_with (fail)
      refine Calls.mono (straight_any X1) ?_
      rintro e X2 ⟨va, rfl, ha⟩
      obtain ⟨o2, c2, rfl, _⟩ := ha.lies.form
      go_wp2_with (fail)
      refine Calls.mono (straight_any X2) ?_
      rintro e X3 ⟨ve, rfl, he⟩
      obtain ⟨o3, c3, rfl, _⟩ := he.lies.form
      obtain ⟨h3, hoff⟩ := three_of (b_step hD.out (n_after V _)) hp ha he
      have hbX : Below (V.alloc (.cells #[.slice none 0 0, .slice none 0 0, .slice none 0 0, .int .i64 r] 24)).heap.size (V.alloc (.cells #[.slice none 0 0, .slice none 0 0, .slice none 0 0, .int .i64 r] 24)) X3 := b_step (b_step hp.below ha.below) he.below
      have B5 := Cells.step B5.out hbX
      have D2 := Cells.step D2.out (b_step (n_after V _) hbX)
      have H3 : Hid _ := h3
      have HO : Hid _ := hoff
      clear hp ha he hbX h3 hoff
      have r0 := (D2 0 _ rfl).1
      have r1 := (D2 1 _ rfl).1
      have r2 := (D2 2 _ rfl).1
      have r3 := (D2 3 _ rfl).1
      have f0 := (D2 0 _ rfl).2
      have f1 := (D2 1 _ rfl).2
      have f2 := (D2 2 _ rfl).2
      have f3 := (D2 3 _ rfl).2
      have t0 := (B5 0 _ rfl).1
      have t1 := (B5 1 _ rfl).1
      have t2 := (B5 2 _ rfl).1
      have t3 := (B5 3 _ rfl).1
      have g0 := (B5 0 _ rfl).2
      have g1 := (B5 1 _ rfl).2
      have g2 := (B5 2 _ rfl).2
      clear D2 B5
      have hne : ¬ V.heap.size = w0.heap.size + 1 := by omega
      have hne' : ¬ w0.heap.size + 1 = V.heap.size := by omega
      go_wp2_with (fail)
      obtain ⟨q1, q2, q3⟩ := HO.out V.heap.size (by simp)
      obtain ⟨p1, p2, p3⟩ := HO.out (w0.heap.size + 1) (by simp; omega)
      refine bodyPost_ret (v := .tuple #[.agg #[.slice o1 P.length c1, .slice o2 straightP.length c2, .slice o3 straightP.length c3, .int .i64 r], .int .i64 0]) (by simp [results, Try.results23, go_sem, r0, r1, r2, r3]) rfl ⟨_, _, _, rfl, ?_⟩
      exact (((H3.out.put (by omega) q1 q2 q3 0 _).put (by omega) q1 q2 q3 1 _).put (by omega) q1 q2 q3 2 _).set (by omega) p1 p2 p3 _ _ _ _
    by_cases k4 : k = 4
    · subst k4
      have eP : P = L := HPT.out
      have eA : A = (sidesP L).1 := HAX.out
      have eE : E = (sidesP L).2 := HED.out
      have hm : mayP L = true := by
        have := HFM.out
        simp at this
        exact this.2
      obtain ⟨m1, m2, m3, m4⟩ := may_parts hm
      have M3 : Hid _ := m3
      have hL0 : L ≠ [] := by intro e; rw [e] at m1; simp at m1
      clear HPT HAX HED HFM hm m3 m4
      subst eP
      have EA : Hid _ := eA
      have EE : Hid _ := eE
      clear eA eE
      have B5 : Hid (Cells (V.alloc (.cells #[.slice none 0 0, .slice none 0 0, .slice none 0 0, .int .i64 r] 24)) V.heap.size [.slice none 0 0, .slice none 0 0, .slice none 0 0, .int .i64 r]) := Cells.new V _ _
      have HR1 : Hid _ := clone_any (.slice o P.length c) P (V.alloc (.cells #[.slice none 0 0, .slice none 0 0, .slice none 0 0, .int .i64 r] 24)) (HV.out.below (b_step hD.out (n_after V _))) hL0 (by omega)
      clear s2 s3 s4
      go_wp2_with (fail)
      refine Calls.mono HR1.out ?_
      clear HR1
      rintro e X1 ⟨vp, rfl, hp⟩
      clear s0 s1 s5 r0 r1 r2 r3 f0 f1 f2 f3
      obtain ⟨o1, c1, rfl, _⟩ := hp.lies.form
      have B5 : Hid _ := Cells.step B5.out hp.below
      have D2 : Hid _ := Cells.step D2.out (b_step (n_after V _) hp.below)
      have D1 : Hid _ := Cells.step D1.out (b_step (n_after V _) hp.below)
      have t0 := (B5.out 0 _ rfl).1
      have g0 := (B5.out 0 _ rfl).2
      have s5 := (D1.out 5 _ rfl).1
      have hne : ¬ V.heap.size = w0.heap.size := by omega
      have hne' : ¬ w0.heap.size = V.heap.size := by omega
      have HP : Hid _ := hp
      clear hp
      go_wp2_with (fail)
      have lv : Lies (X1.setCell ⟨V.heap.size, 0, none⟩ (.slice o1 P.length c1)) (.slice o P.length c) P := HV.out.below ((b_step (b_step hD.out (n_after V _)) HP.out.below).setCell (show w0.heap.size ≤ V.heap.size by omega) _)
      refine Calls.mono (sides_any _ P _ lv m2 M3.out) ?_
      rintro e X3 ⟨va, ve, rfl, ht⟩
      rw [← EA.out, ← EE.out] at ht
      clear EA EE
      obtain ⟨o2, c2, rfl, _⟩ := (Lies.of_row ht.ra).form
      obtain ⟨o3, c3, rfl, _⟩ := (Lies.of_row ht.re).form
      obtain ⟨h3, hoff⟩ := three_hull (b_step hD.out (n_after V _)) (by omega : w0.heap.size ≤ V.heap.size) (by simp) HP.out 0 _ ht
      have H3 : Hid _ := h3
      have HO : Hid _ := hoff
      have B5 := Cells.step (Cells.set B5.out 0 (.slice o1 P.length c1) (by simp)) ht.below
      have D2 : Cells X3 (w0.heap.size + 1) [.slice none 0 0, .slice none 0 0, .slice none 0 0, .int .i64 0] := Cells.step (A := X1.setCell ⟨V.heap.size, 0, none⟩ (.slice o1 P.length c1)) (fun i v e => by
        obtain ⟨a, b⟩ := D2.out i v e
        have hne : ¬ V.heap.size = w0.heap.size + 1 := by omega
        have hne' : ¬ w0.heap.size + 1 = V.heap.size := by omega
        exact ⟨by simp [go_sem, a], by simp [go_sem, b]⟩) ht.below
      clear ht h3 hoff lv t0 g0 s5
      have r0 := (D2 0 _ rfl).1
      have r1 := (D2 1 _ rfl).1
      have r2 := (D2 2 _ rfl).1
      have r3 := (D2 3 _ rfl).1
      have f0 := (D2 0 _ rfl).2
      have f1 := (D2 1 _ rfl).2
      have f2 := (D2 2 _ rfl).2
      have f3 := (D2 3 _ rfl).2
      have t0 := (B5 0 _ rfl).1
      have t1 := (B5 1 _ rfl).1
      have t2 := (B5 2 _ rfl).1
      have t3 := (B5 3 _ rfl).1
      have g1 := (B5 1 _ rfl).2
      have g2 := (B5 2 _ rfl).2
      clear D2 B5
      have hne : ¬ V.heap.size = w0.heap.size + 1 := by omega
      have hne' : ¬ w0.heap.size + 1 = V.heap.size := by omega
      go_wp2_with (fail)
      obtain ⟨q1, q2, q3⟩ := HO.out V.heap.size (by simp)
      obtain ⟨p1, p2, p3⟩ := HO.out (w0.heap.size + 1) (by simp; omega)
      refine bodyPost_ret (v := .tuple #[.agg #[.slice o1 P.length c1, .slice o2 A.length c2, .slice o3 E.length c3, .int .i64 r], .int .i64 0]) (by simp [results, Try.results23, go_sem, r0, r1, r2, r3]) rfl ⟨_, _, _, rfl, ?_⟩
      exact ((H3.out.put (by omega) q1 q2 q3 1 _).put (by omega) q1 q2 q3 2 _).set (by omega) p1 p2 p3 _ _ _ _
    · have := HFM.out
      rw [if_neg k1, if_neg k2, if_neg k3, if_neg k4] at this
      cases this
  · clear HFO
    go_wp2_with (fail)
    refine bodyPost_ret (v := .tuple #[.agg #[.slice none 0 0, .slice none 0 0, .slice none 0 0, .int .i64 0], .int .i64 C]) (by simp [results, Try.results23, go_sem, r0, r1, r2, r3]) rfl ⟨_, _, _, fun _ => ⟨rfl, ?_⟩, fun h => absurd h hC⟩
    exact three_nil (set4_below hD.out (by omega) _ _ _ _)
end Go.Proofs.Ythcdpngkoejgpaa
