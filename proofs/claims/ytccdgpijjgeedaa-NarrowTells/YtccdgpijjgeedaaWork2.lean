/- Package fx's calls Mul, Ratio, Div, Root: what each returns, and that but for the flag it leaves all memory as it was. -/
import Derived.Test.YtccdgpijjgeedaaWork
namespace Go.Proofs.Ytccdgpijjgeedaa
open Go.RowKit Fx

theorem below_step {w w1 w2 : World} (h1 : Below w.heap.size w w1) (h2 : Below w1.heap.size w1 w2) : Below w.heap.size w w2 := h1.trans (h2.mono h1.size)

theorem small_prod {x y : Int} (hx : -4611686018427387903 ≤ x ∧ x ≤ 4611686018427387903) (hy : -4611686018427387903 ≤ y ∧ y ≤ 4611686018427387903) : -21267647932558653966460912964485513216 < x * y ∧ x * y < 21267647932558653966460912964485513216 := by
  have a : (x * y).natAbs ≤ 4611686018427387903 * 4611686018427387903 := by rw [Int.natAbs_mul]; exact Nat.mul_le_mul (by omega) (by omega)
  omega

end Go.Proofs.Ytccdgpijjgeedaa
