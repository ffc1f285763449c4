/- A hull's sides. -/
import Derived.Test.YtccdgpijjgeedaaKShA
import Derived.WalkMore
namespace Go.Proofs.Ytccdgpijjgeedaa
open Go.RowKit Go.Shelf
set_option linter.unusedVariables false

theorem Box3.grown {w W : World} {b : Nat} {q : Pt} {row : Option Nat} (h : Box3 w b q) (hg : w.grownBy W row) (hne : row ≠ some b) : Box3 W b q := by
  have hb := hg.block b h.lt (fun e => hne e.symm)
  obtain ⟨c0, c1, c2, f0, f1, f2⟩ := h
  simp only [World.cell?, World.frozen?] at c0 c1 c2 f0 f1 f2
  rw [← hb] at c0 c1 c2 f0 f1 f2
  exact ⟨c0, c1, c2, f0, f1, f2⟩
/-- Two lists of the call's own, and boxes that are none of theirs. -/
structure Two (w0 W : World) (va ve : Value) (A E : List Pt) (bs : List (Nat × Pt)) : Prop where
  ra : W.ownsRow w0.heap.size 26 3 va A.length (fl3 A)
  re : W.ownsRow w0.heap.size 26 3 ve E.length (fl3 E)
  apart : ∀ k, ve.ownBlock = some k → va.ownBlock ≠ some k
  below : Below w0.heap.size w0 W
  box : ∀ x ∈ bs, Box3 W x.1 x.2 ∧ va.ownBlock ≠ some x.1 ∧ ve.ownBlock ≠ some x.1 ∧ w0.heap.size ≤ x.1
theorem Two.start (w0 : World) : Two w0 w0 (.slice none 0 0) (.slice none 0 0) [] [] [] := ⟨World.ownsRow_nil _ _ _ _, World.ownsRow_nil _ _ _ _, (fun _ h => by cases h), Below.refl _ _, (fun _ h => by cases h)⟩
theorem Two.step {w0 W X : World} {va ve : Value} {A E : List Pt} {bs : List (Nat × Pt)} (h : Two w0 W va ve A E bs) (hb : Below W.heap.size W X) : Two w0 X va ve A E bs :=
  ⟨own_below h.ra hb, own_below h.re hb, h.apart, h.below.trans (hb.mono h.below.size), fun x hx => ⟨(h.box x hx).1.step hb, (h.box x hx).2⟩⟩
theorem Two.new {w0 W : World} {va ve : Value} {A E : List Pt} {bs : List (Nat × Pt)} (h : Two w0 W va ve A E bs) (q : Pt) (t : TypeId) : Two w0 (W.alloc (.cells #[.int .i64 q.x, .int .i64 q.y, .int .i64 q.z] t)) va ve A E ((W.heap.size, q) :: bs) := by
  obtain ⟨a, b, c, d, e⟩ := h.step (n_after W (.cells #[.int .i64 q.x, .int .i64 q.y, .int .i64 q.z] t))
  refine ⟨a, b, c, d, fun x hx => ?_⟩
  rw [List.mem_cons] at hx
  rcases hx with rfl | hx
  · exact ⟨Box3.new W q.x q.y q.z t, fun k => by have := (h.ra.lt _ k).2; simp at this, fun k => by have := (h.re.lt _ k).2; simp at this, h.below.size⟩
  · exact e x hx
theorem Two.tail {w0 W : World} {va ve : Value} {A E : List Pt} {x : Nat × Pt} {bs : List (Nat × Pt)} (h : Two w0 W va ve A E (x :: bs)) : Two w0 W va ve A E bs := ⟨h.ra, h.re, h.apart, h.below, fun y hy => h.box y (List.mem_cons_of_mem _ hy)⟩
theorem Two.head {w0 W : World} {va ve : Value} {A E : List Pt} {x : Nat × Pt} {bs : List (Nat × Pt)} (h : Two w0 W va ve A E (x :: bs)) : Box3 W x.1 x.2 := (h.box x (by simp)).1
theorem Two.set {w0 W : World} {va ve : Value} {A E : List Pt} {b : Nat} {q : Pt} {bs : List (Nat × Pt)} (h : Two w0 W va ve A E ((b, q) :: bs)) (hne : ∀ x ∈ bs, x.1 ≠ b) (r : Pt) : Two w0 (set3 W b r.x r.y r.z) va ve A E ((b, r) :: bs) := by
  obtain ⟨hb, h1, h2, h3⟩ := h.box (b, q) (by simp)
  refine ⟨own_set3 h.ra h1 _ _ _, own_set3 h.re h2 _ _ _, h.apart, set3_below h.below h3 _ _ _, fun x hx => ?_⟩
  rw [List.mem_cons] at hx
  rcases hx with rfl | hx
  · exact ⟨hb.set _ _ _, h1, h2, h3⟩
  · obtain ⟨k, k'⟩ := h.box x (List.mem_cons_of_mem _ hx)
    exact ⟨k.other (fun e => hne x hx e.symm) _ _ _, k'⟩
theorem Two.axis {w0 W X : World} {va ve va' : Value} {A E A' : List Pt} {bs : List (Nat × Pt)} (h : Two w0 W va ve A E bs) (hr : X.ownsRow w0.heap.size 26 3 va' A'.length (fl3 A')) (hg : Grew W X va va') : Two w0 X va' ve A' E bs := by
  obtain ⟨k1, k2⟩ := hg.beside h.re h.apart
  refine ⟨hr, k1, k2, hg.on h.below h.ra h.below.size, fun x hx => ?_⟩
  obtain ⟨b, b1, b2, b3⟩ := h.box x hx
  refine ⟨b.grown hg.grown b1, ?_, b2, b3⟩
  rcases hg.same with e | ⟨k, e, hk⟩
  · rw [e]; exact b1
  · rw [e]; intro e'; cases e'; have := b.lt; omega
theorem Two.swap {w0 W : World} {va ve : Value} {A E : List Pt} {bs : List (Nat × Pt)} (h : Two w0 W va ve A E bs) : Two w0 W ve va E A bs := ⟨h.re, h.ra, fun k e e' => h.apart k e' e, h.below, fun x hx => ⟨(h.box x hx).1, (h.box x hx).2.2.1, (h.box x hx).2.1, (h.box x hx).2.2.2⟩⟩
theorem Two.edge {w0 W X : World} {va ve ve' : Value} {A E E' : List Pt} {bs : List (Nat × Pt)} (h : Two w0 W va ve A E bs) (hr : X.ownsRow w0.heap.size 26 3 ve' E'.length (fl3 E')) (hg : Grew W X ve ve') : Two w0 X va ve' A E' bs := (h.swap.axis hr hg).swap

theorem any_snoc (L : List Pt) (f : Pt → Bool) (k : Nat) (hk : k < L.length) : (L.take (k + 1)).any f = ((L.take k).any f || f (pt L k)) := by
  rw [take_pt hk]; simp
theorem any_takeP {L : List Pt} {f : Pt → Bool} {k : Nat} (h : (L.take k).any f = true) : L.any f = true := by
  rw [List.any_eq_true] at h ⊢
  obtain ⟨x, hx, hf⟩ := h
  exact ⟨x, List.mem_of_mem_take hx, hf⟩
theorem at_new (w : World) (p q r : Pt) (t : TypeId) : At (w.alloc (.cells #[.int .i64 p.x, .int .i64 p.y, .int .i64 p.z, .int .i64 q.x, .int .i64 q.y, .int .i64 q.z, .int .i64 r.x, .int .i64 r.y, .int .i64 r.z] t)) w.heap.size [p, q, r] := by
  intro i hi
  match i, hi with
  | 0, _ => exact ⟨by simp [pt], by simp [pt], by simp [pt]⟩
  | 1, _ => exact ⟨by simp [pt], by simp [pt], by simp [pt]⟩
  | 2, _ => exact ⟨by simp [pt], by simp [pt], by simp [pt]⟩
theorem axis_len (A : List Pt) (n : Pt) : (withAxisP A n).length ≤ A.length + 1 := by unfold withAxisP; split <;> simp

end Go.Proofs.Ytccdgpijjgeedaa
