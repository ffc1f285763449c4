/- The whole square root of a number of 128 bits, down (package fx, wide.root): its walk. -/
import Derived.Test.YtccdgpijjgeedaaRoot
namespace Go.Proofs.Ytccdgpijjgeedaa
open Go.RowKit Fx

theorem root_world {w wr : World} {o : Obj} (hb : Below (w.alloc o).heap.size (w.alloc o) wr) : Below w.heap.size w wr :=
  ((Below.refl _ _).alloc (Nat.le_refl _) _).trans (hb.mono (by simp))

end Go.Proofs.Ytccdgpijjgeedaa
