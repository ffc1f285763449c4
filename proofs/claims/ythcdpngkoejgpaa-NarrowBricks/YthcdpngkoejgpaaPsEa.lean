/- Package pose: cells of a block beside another; a core as a value. -/
import Derived.Test.YthcdpngkoejgpaaPsE
namespace Go.Proofs.Ythcdpngkoejgpaa
open Go.RowKit Go.Shelf
set_option linter.unusedVariables false

theorem Cells.lt {W : World} {b : Nat} {u : Value} {vs : List Value} (h : Cells W b (u :: vs)) : b < W.heap.size := World.block_lt_of_cell? _ _ (h 0 u rfl).1
theorem Cells.apart {W : World} {b b' : Nat} {vs : List Value} (h : Cells W b vs) (hne : b ≠ b') (o : Nat) (u : Value) : Cells (W.setCell ⟨b', o, none⟩ u) b vs := fun i v e =>
  ⟨by simp [go_sem, (h i v e).1], by simp [go_sem, (h i v e).2]⟩
def coreV (pv av ev : Value) (r : Int) : Value := .agg #[pv, av, ev, .int .i64 r]
theorem Cells.keepO {S : Nat → Prop} {A B : World} {b : Nat} {vs : List Value} (h : Cells A b vs) (hk : KeepO S A B) (hb : S b) : Cells B b vs := fun i v e =>
  ⟨hk.cell (q := ⟨b, i, none⟩) hb (h i v e).1, (hk.frozen (q := ⟨b, i, none⟩) hb (h i v e).1).trans (h i v e).2⟩
theorem Cells.grew {A B : World} {row : Option Nat} {b : Nat} {vs : List Value} (h : Cells A b vs) (hg : A.grownBy B row) (hb : ∀ r, row = some r → r ≠ b) : Cells B b vs := fun i v e => by
  have hlt := World.block_lt_of_cell? _ _ (h i v e).1
  have hbl := hg.block b hlt (fun e => hb b e.symm rfl)
  exact ⟨(World.cell?_of_block (w := A) hbl).trans (h i v e).1, (World.frozen?_of_block (w := A) hbl).trans (h i v e).2⟩
end Go.Proofs.Ythcdpngkoejgpaa
