/- Lists of points: found in, added to. -/
import Derived.Test.YtccdgpijjgeedaaShB
namespace Go.Proofs.Ytccdgpijjgeedaa
open Go.RowKit Go.Shelf
set_option linter.unusedVariables false

theorem pt_eq (p q : Pt) : p = q ↔ p.x = q.x ∧ p.y = q.y ∧ p.z = q.z := by cases p; cases q; simp
end Go.Proofs.Ytccdgpijjgeedaa
