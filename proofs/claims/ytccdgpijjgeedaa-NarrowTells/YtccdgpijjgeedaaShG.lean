/- Points of one plane: package shape's test. -/
import Derived.Test.YtccdgpijjgeedaaShE
namespace Go.Proofs.Ytccdgpijjgeedaa
open Go.RowKit Go.Shelf
set_option linter.unusedVariables false

end Go.Proofs.Ytccdgpijjgeedaa
