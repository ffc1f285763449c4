/- Package pose: lists of points, when one block is turned. -/
import Derived.Test.YthcdpngkoejgpaaPsG
namespace Go.Proofs.Ythcdpngkoejgpaa
open Go.RowKit Go.Shelf
set_option linter.unusedVariables false

theorem Lies.grown {A B : World} {v : Value} {Ls : List Pt} {fb : Nat} (h : Lies A v Ls) (hg : A.grownBy B (some fb)) (hne : ∀ q n c, v = .slice (some q) n c → Ls ≠ [] → q.block ≠ fb) : Lies B v Ls := by
  obtain ⟨o, cap, e, h1, h2, h3⟩ := h.form
  refine ⟨o, cap, e, h1, h2, fun i hi => ?_⟩
  obtain ⟨g, off, e', a, b, c⟩ := h3 i hi
  have hf : g ≠ fb := hne ⟨g, off, none⟩ _ _ (by rw [e, e']) (fun e0 => by rw [e0] at hi; simp at hi)
  have hbl : B.heap[g]? = A.heap[g]? := hg.block g (World.block_lt_of_cell? _ _ a) (fun e => hf (by simpa using e))
  exact ⟨g, off, e', (World.cell?_of_block (w := A) hbl).trans a, (World.cell?_of_block (w := A) hbl).trans b, (World.cell?_of_block (w := A) hbl).trans c⟩
theorem Lies.lt {A : World} {Ls : List Pt} {q : Addr} {n c : Nat} (h : Lies A (.slice (some q) n c) Ls) (h0 : Ls ≠ []) : q.block < A.heap.size := by
  obtain ⟨o, cap, e, h1, h2, h3⟩ := h.form
  obtain ⟨g, off, e', a, _⟩ := h3 0 (List.length_pos_iff.2 h0)
  simp only [Value.slice.injEq] at e
  rw [← e.1] at e'
  cases e'
  exact World.block_lt_of_cell? _ _ a
theorem apart_new {w w' : World} {u u' : Value} {n b b' : Nat} {xs ys : List Value} {k : Nat} (h : w.ownsRow b 26 3 u n xs) (h' : w'.ownsRow w.heap.size 26 3 u' k ys) : ∀ j, u.ownBlock = some j → u'.ownBlock ≠ some j := fun j e e' => by
  have := (h.lt j e).2; have := (h'.lt j e').1; omega
end Go.Proofs.Ythcdpngkoejgpaa
