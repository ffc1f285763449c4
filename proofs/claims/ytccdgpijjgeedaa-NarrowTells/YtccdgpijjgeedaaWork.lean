/- Package fx's calls, one by one: what each returns, and that but for the flag it leaves all memory as it was. -/
import Derived.Test.YtccdgpijjgeedaaRoot2
namespace Go.Proofs.Ytccdgpijjgeedaa
open Go.RowKit Fx

theorem great_step (zs : List Int) (k : Nat) (h : k < zs.length) (hn : (zs.take k).any great = false) : (zs.take (k + 1)).any great = great (zs.getD k 0) := by
  rw [List.take_succ_eq_append_getElem h, List.any_append, hn]
  simp [List.getD_eq_getElem?_getD, List.getElem?_eq_getElem h]

/-- What a call that tells o leaves of the flag at p. -/
def mark (p : Addr) (o : Option Int) (w : World) : World := if o.isNone then w.setCell p (.bool true) else w

theorem mark_none (p : Addr) (w : World) : mark p none w = w.setCell p (.bool true) := rfl
theorem mark_some (p : Addr) (n : Int) (w : World) : mark p (some n) w = w := rfl

theorem set_after {w w1 : World} {p : Addr} {v : Value} (hb : Below w.heap.size w w1) : Below w.heap.size (w.setCell p v) (w1.setCell p v) := by
  refine ⟨hb.os, hb.tape, hb.output, by simpa [World.setCell] using hb.size, fun k hk => ?_⟩
  simp only [World.setCell, Array.getElem?_modify]
  rw [hb.block k hk]

theorem cell_after {w w1 : World} {p : Addr} {v : Value} (hb : Below w.heap.size w w1) (hc : w.cell? p = some v) : w1.cell? p = some v := (hb.cell (World.block_lt_of_cell? _ _ hc)).trans hc
theorem frozen_after {w w1 : World} {p : Addr} {v : Value} (hb : Below w.heap.size w w1) (hc : w.cell? p = some v) (hf : w.frozen? p = false) : w1.frozen? p = false := (hb.frozen (World.block_lt_of_cell? _ _ hc)).trans hf
theorem new_after (w : World) (o : Obj) : Below w.heap.size w (w.alloc o) := (Below.refl _ _).alloc (Nat.le_refl _) _

theorem mark_after {w w1 w2 : World} {p : Addr} {o : Option Int} (h1 : Below w.heap.size w w1) (h2 : Below w1.heap.size (mark p o w1) w2) : Below w.heap.size (mark p o w) w2 := by
  have hs := h1.size
  cases o with
  | none => exact (set_after h1).trans (h2.mono hs)
  | some n => exact h1.trans (h2.mono hs)

end Go.Proofs.Ytccdgpijjgeedaa
