/- Chapter 9's bricks: their cores, one of them moved, and how far apart they are told. -/
import Derived.Test.YthcdpngkoejgpaaNBrick
import Derived.Test.YthcdpngkoejgpaaNBrA
import Derived.Test.YthcdpngkoejgpaaPsT
namespace Go.Proofs.Ythcdpngkoejgpaa
open Go.RowKit Go.Shelf
set_option linter.unusedVariables false

theorem bricks_by (p q d : Pt) (hp : Brk p) (hq : Brk q) (hd : Mvd d) : ∃ (Pa Pc Mc Sa : List Pt) (tx ty tz : Int),
    (∀ W, Calls Try.prog 23 #[.agg #[.int .i64 3, .int .i64 0, .int .i64 p.x, .int .i64 p.y, .int .i64 p.z, .slice none 0 0]] W fun e W' => ∃ vp va ve, e = .returned (.tuple #[.agg #[vp, va, ve, .int .i64 0], .int .i64 0]) ∧ Three W W' vp va ve Pa Sa Sa) ∧
    (∀ W, Calls Try.prog 23 #[.agg #[.int .i64 3, .int .i64 0, .int .i64 q.x, .int .i64 q.y, .int .i64 q.z, .slice none 0 0]] W fun e W' => ∃ vp va ve, e = .returned (.tuple #[.agg #[vp, va, ve, .int .i64 0], .int .i64 0]) ∧ Three W W' vp va ve Pc Sa Sa) ∧
    (∀ W vp va ve, Lies W vp Pc → Lies W va Sa → Lies W ve Sa → Calls Try.prog 19 #[.agg #[vp, va, ve, .int .i64 0], .agg #[.int .i64 d.x, .int .i64 d.y, .int .i64 d.z]] W fun e W' => ∃ up ua ue, e = .returned (.agg #[up, ua, ue, .int .i64 0]) ∧ Three W W' up ua ue Mc Sa Sa) ∧
    (∀ W vp va ve up ua ue, Lies W vp Pa → Lies W va Sa → Lies W ve Sa → Lies W up Mc → Lies W ua Sa → Lies W ue Sa → Calls Try.prog 10 #[.agg #[vp, va, ve, .int .i64 0], .agg #[up, ua, ue, .int .i64 0]] W fun e W' => e = .returned (.tuple #[.agg #[.int .i64 tx, .int .i64 ty, .int .i64 tz, .int .i64 (max (max d.x (-d.x) - p.x - q.x) (max (max d.y (-d.y) - p.y - q.y) (max d.z (-d.z) - p.z - q.z)))], .bool true]) ∧ Below W.heap.size W W') := by
  refine ⟨cornersP p, cornersP q, movedC q d, straightP, (told ⟨cornersP p, straightP, straightP, 0⟩ ⟨movedC q d, straightP, straightP, 0⟩).1.x, (told ⟨cornersP p, straightP, straightP, 0⟩ ⟨movedC q d, straightP, straightP, 0⟩).1.y, (told ⟨cornersP p, straightP, straightP, 0⟩ ⟨movedC q d, straightP, straightP, 0⟩).1.z, fun W => ?_, fun W => ?_, fun W vp va ve h1 h2 h3 => ?_, fun W vp va ve up ua ue h1 h2 h3 h4 h5 h6 => ?_⟩
  · refine Calls.mono (core_any ⟨3, 0, p, []⟩ (.slice none 0 0) W (lies_nil9 W)) ?_
    rintro e V ⟨vp, va, ve, _, h⟩
    obtain ⟨e1, hT⟩ := h (brick_check hp)
    exact ⟨vp, va, ve, e1, hT⟩
  · refine Calls.mono (core_any ⟨3, 0, q, []⟩ (.slice none 0 0) W (lies_nil9 W)) ?_
    rintro e V ⟨vp, va, ve, _, h⟩
    obtain ⟨e1, hT⟩ := h (brick_check hq)
    exact ⟨vp, va, ve, e1, hT⟩
  · have h := moved_any d (cornersP q) straightP straightP 0 vp va ve W h1 h2 h3 (by show 8 < _; omega) (by show 3 < _; omega) (by show 3 < _; omega)
    rw [corners_plus hq hd] at h
    exact h
  · have h := napart_any (cornersP p) straightP straightP (movedC q d) straightP straightP 0 0 vp va ve up ua ue W h1 h2 h3 h4 h5 h6
    unfold apartV at h
    rw [may_brick hp, may_moved hq hd, brick_told hp hq] at h
    exact h
/-- While one core is moved and the two are told apart. -/
structure BG (X : World) (M Sa : List Pt) (q0 q1 q2 q3 : Int) (g3 g8 : Value) (l3 l4 l8 l9 : Bool) (w : World) : Prop where
  be : Below X.heap.size X w
  t3 : l3 = true → l4 = false → ∃ vp va ve, g3 = .agg #[vp, va, ve, .int .i64 0] ∧ Lies w vp M ∧ Lies w va Sa ∧ Lies w ve Sa
  pd : l8 = true → ∃ b cs, g8 = .pointer (some ⟨b, 0, none⟩) ∧ X.heap.size ≤ b ∧ w.heap[b]? = some (.cells cs 29 (0, 0)) ∧ cs.size = 4 ∧ (l9 = true → cs = #[.int .i64 q0, .int .i64 q1, .int .i64 q2, .int .i64 q3])
section
variable {X w w' : World} {M Sa : List Pt} {q0 q1 q2 q3 : Int} {g3 g8 : Value} {l3 l4 l8 l9 : Bool}
theorem BG.step (h : BG X M Sa q0 q1 q2 q3 g3 g8 l3 l4 l8 l9 w) (hb : Below w.heap.size w w') : BG X M Sa q0 q1 q2 q3 g3 g8 l3 l4 l8 l9 w' := by
  refine ⟨b_step h.be hb, fun e e' => ?_, fun e => ?_⟩
  · obtain ⟨vp, va, ve, x1, x2, x3, x4⟩ := h.t3 e e'
    exact ⟨vp, va, ve, x1, x2.below hb, x3.below hb, x4.below hb⟩
  · obtain ⟨b, cs, x1, x2, x3, x4, x5⟩ := h.pd e
    exact ⟨b, cs, x1, x2, (hb.block b (Array.getElem?_eq_some_iff.1 x3).1).trans x3, x4, x5⟩
theorem BG.got (h : BG X M Sa q0 q1 q2 q3 g3 g8 l3 l4 l8 l9 w) {vp va ve : Value} (hT : Three w w' vp va ve M Sa Sa) : BG X M Sa q0 q1 q2 q3 (.agg #[vp, va, ve, .int .i64 0]) g8 true l4 l8 l9 w' := by
  have h9 := h.step hT.below
  exact ⟨h9.be, fun _ _ => ⟨vp, va, ve, rfl, Lies.of_row hT.rp, Lies.of_row hT.ra, Lies.of_row hT.re⟩, h9.pd⟩
theorem BG.told (h : BG X M Sa q0 q1 q2 q3 g3 g8 l3 l4 l8 l9 w) (hb : Below w.heap.size w w') : BG X M Sa q0 q1 q2 q3 g3 g8 l3 true l8 l9 w' := by
  have h9 := h.step hb
  exact ⟨h9.be, fun _ e => (by cases e), h9.pd⟩
theorem BG.made (h : BG X M Sa q0 q1 q2 q3 g3 g8 l3 l4 l8 l9 w) (h9 : l9 = false) : BG X M Sa q0 q1 q2 q3 g3 (.pointer (some ⟨w.heap.size, 0, none⟩)) l3 l4 true l9 (w.alloc (.cells #[.int .i64 0, .int .i64 0, .int .i64 0, .int .i64 0] 29)) := by
  have h8 := h.step (n_after w (.cells #[.int .i64 0, .int .i64 0, .int .i64 0, .int .i64 0] 29))
  exact ⟨h8.be, h8.t3, fun _ => ⟨w.heap.size, _, rfl, h.be.size, World.alloc_heap_new _ _, rfl, fun e => (by rw [h9] at e; cases e)⟩⟩
theorem BG.fill (h : BG X M Sa q0 q1 q2 q3 g3 g8 l3 true true l9 w) {b : Nat} {cs : Array Value} (e8 : g8 = .pointer (some ⟨b, 0, none⟩)) (hb : X.heap.size ≤ b) (hx : w.heap[b]? = some (.cells cs 29 (0, 0))) (hcs : cs.size = 4) :
    BG X M Sa q0 q1 q2 q3 g3 g8 l3 true true true (set4 w b (.int .i64 q0) (.int .i64 q1) (.int .i64 q2) (.int .i64 q3)) := by
  obtain ⟨l⟩ := cs
  match l, hcs with
  | [u0, u1, u2, u3], _ =>
    refine ⟨set4_below h.be hb _ _ _ _, fun _ e => (by cases e), fun _ => ⟨b, #[.int .i64 q0, .int .i64 q1, .int .i64 q2, .int .i64 q3], e8, hb, ?_, rfl, fun _ => rfl⟩⟩
    have y0 := Go.heap_setCell_same w b 0 _ _ (.int .i64 q0) hx
    have y1 := Go.heap_setCell_same _ b 1 _ _ (.int .i64 q1) y0
    have y2 := Go.heap_setCell_same _ b 2 _ _ (.int .i64 q2) y1
    have y3 := Go.heap_setCell_same _ b 3 _ _ (.int .i64 q3) y2
    simpa [set4] using y3
end
theorem arr4b {cs : Array Value} (h : cs.size = 4) : ∃ u0 u1 u2 u3, cs = #[u0, u1, u2, u3] := by
  obtain ⟨l⟩ := cs
  match l, h with
  | [a, b, c, d], _ => exact ⟨a, b, c, d, rfl⟩
end Go.Proofs.Ythcdpngkoejgpaa
