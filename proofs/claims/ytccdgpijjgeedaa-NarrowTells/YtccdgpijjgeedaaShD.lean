/- Edges are added. -/
import Derived.Test.YtccdgpijjgeedaaShC
import Derived.OneCell
namespace Go.Proofs.Ytccdgpijjgeedaa
open Go.RowKit Go.Shelf
set_option linter.unusedVariables false

theorem own_set3 {W : World} {base : Nat} {t : TypeId} {sz n : Nat} {u : Value} {xs : List Value} {b : Nat} (h : W.ownsRow base t sz u n xs) (hne : u.ownBlock ≠ some b) (x y z : Int) : (set3 W b x y z).ownsRow base t sz u n xs :=
  ownsRow_setCell_other (ownsRow_setCell_other (ownsRow_setCell_other h hne _) hne _) hne _
/-- Three cells a point, from a block's beginning on. -/
def At (W : World) (g : Nat) (M : List Pt) : Prop := ∀ i, i < M.length → W.cell? ⟨g, i * 3, none⟩ = some (.int .i64 (pt M i).x) ∧ W.cell? ⟨g, i * 3 + 1, none⟩ = some (.int .i64 (pt M i).y) ∧ W.cell? ⟨g, i * 3 + 2, none⟩ = some (.int .i64 (pt M i).z)
theorem At.below {w W : World} {g : Nat} {M : List Pt} (h : At w g M) (hb : Below w.heap.size w W) : At W g M := fun i hi => ⟨c_after hb (h i hi).1, c_after hb (h i hi).2.1, c_after hb (h i hi).2.2⟩
theorem At.grown {w W : World} {g : Nat} {M : List Pt} {row : Option Nat} (h : At w g M) (hg : w.grownBy W row) (hne : row ≠ some g) : At W g M := fun i hi =>
  ⟨hg.cell (h i hi).1 (fun e => hne e.symm), hg.cell (h i hi).2.1 (fun e => hne e.symm), hg.cell (h i hi).2.2 (fun e => hne e.symm)⟩
theorem At.set3 {w : World} {g b : Nat} {M : List Pt} (h : At w g M) (hne : g ≠ b) (x y z : Int) : At (set3 w b x y z) g M := by
  intro i hi
  obtain ⟨a, b, c⟩ := h i hi
  unfold Go.Proofs.Ytccdgpijjgeedaa.set3
  exact ⟨by simp [go_sem, a], by simp [go_sem, b], by simp [go_sem, c]⟩
theorem edges_snoc (E M : List Pt) (k : Nat) (hk : k < M.length) : withEdgesP E (M.take (k + 1)) = withEdgeP (withEdgesP E (M.take k)) (pt M k) := by
  unfold withEdgesP
  rw [take_pt hk, List.foldl_append]; rfl
theorem edges_len (E M : List Pt) : (withEdgesP E M).length ≤ E.length + M.length := by
  unfold withEdgesP
  induction M generalizing E with
  | nil => simp
  | cons m r ih =>
    have := ih (withEdgeP E m)
    have h2 : (withEdgeP E m).length ≤ E.length + 1 := by unfold withEdgeP; split <;> simp
    simp only [List.foldl_cons, List.length_cons]
    omega
/-- A round's end: what is told of the list, of the others, and of the world. -/
structure ER (w wr : World) (B : Nat) (u0 u : Value) (g : Nat) (M E : List Pt) : Prop where
  row : wr.ownsRow B 26 3 u E.length (fl3 E)
  more : At wr g M
  off : u.ownBlock ≠ some g
  grew : Grew w wr u0 u
  gl : g < w.heap.size
theorem ER.below {w wr W : World} {B : Nat} {u0 u : Value} {g : Nat} {M E : List Pt} (h : ER w wr B u0 u g M E) (hb : Below wr.heap.size wr W) : ER w W B u0 u g M E :=
  ⟨own_below h.row hb, h.more.below hb, h.off, h.grew.trans (Grew.below hb _), h.gl⟩
theorem ER.set {w wr : World} {B : Nat} {u0 u : Value} {g b : Nat} {M E : List Pt} (h : ER w wr B u0 u g M E) (hu : u.ownBlock ≠ some b) (hb : w.heap.size ≤ b) (x y z : Int) : ER w (set3 wr b x y z) B u0 u g M E := by
  refine ⟨own_set3 h.row hu _ _ _, h.more.set3 (by have := h.gl; omega) _ _ _, h.off, ⟨?_, h.grew.same⟩, h.gl⟩
  have hb3 : Below b wr (set3 wr b x y z) := set3_below (Below.refl _ _) (Nat.le_refl _) _ _ _
  refine ⟨hb3.os.trans h.grew.grown.os, hb3.tape.trans h.grew.grown.tape, hb3.output.trans h.grew.grown.output, Nat.le_trans h.grew.grown.size hb3.size, fun k hk hn => (hb3.block k (by omega)).trans (h.grew.grown.block k hk hn)⟩
theorem ER.app {w wr W : World} {B : Nat} {u0 u u' : Value} {g : Nat} {M E E' : List Pt} (h : ER w wr B u0 u g M E) (hr : W.ownsRow B 26 3 u' E'.length (fl3 E')) (hg : Grew wr W u u') : ER w W B u0 u' g M E' := by
  refine ⟨hr, h.more.grown hg.grown h.off, ?_, h.grew.trans hg, h.gl⟩
  rcases hg.same with e | ⟨k, e, hk⟩
  · rw [e]; exact h.off
  · rw [e]; intro e'; cases e'; have := h.grew.grown.size; have := h.gl; omega
theorem ER.lt {w wr : World} {B : Nat} {u0 u : Value} {g : Nat} {M E : List Pt} (h : ER w wr B u0 u g M E) {b : Nat} (hb : wr.heap.size ≤ b) : u.ownBlock ≠ some b := fun e => by have := (h.row.lt b e).2; omega

end Go.Proofs.Ytccdgpijjgeedaa
