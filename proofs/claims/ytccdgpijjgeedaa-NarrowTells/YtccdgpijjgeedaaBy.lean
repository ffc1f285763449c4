/- The quotient of a number of 128 bits by one of 62, down (package fx, wide.by). -/
import Derived.Test.YtccdgpijjgeedaaWide
namespace Go.Proofs.Ytccdgpijjgeedaa
open Go.RowKit Fx

theorem boxed {W w1 : World} {u v : Value} {t : TypeId} (hb : Below (W.alloc (.cells #[u, v] t)).heap.size (W.alloc (.cells #[u, v] t)) w1) :
    w1.cell? ⟨W.heap.size, 0, none⟩ = some u ∧ w1.cell? ⟨W.heap.size, 1, none⟩ = some v ∧ W.heap.size < w1.heap.size := by
  refine ⟨?_, ?_, ?_⟩
  · rw [hb.cell (by simp)]; simp
  · rw [hb.cell (by simp)]; simp
  · have := hb.size; simp at this; omega

theorem by_world {w w1 w3 : World} {o o' : Obj} {n : Nat} (hb : Below (w.alloc o).heap.size (w.alloc o) w1) (hb3 : Below ((w1.alloc o').drewN n).heap.size ((w1.alloc o').drewN n) w3) : Below w.heap.size w w3 := by
  have a : Below w.heap.size w (w.alloc o) := (Below.refl _ _).alloc (Nat.le_refl _) _
  have s1 := hb.size
  have b : Below w.heap.size w w1 := a.trans (hb.mono (by simp))
  have c : Below w.heap.size w ((w1.alloc o').drewN n) := below_drewN (b.alloc (by simp at s1; omega) _) n
  exact c.trans (hb3.mono (by simp; simp at s1; omega))

end Go.Proofs.Ytccdgpijjgeedaa
