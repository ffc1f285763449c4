/- Inertia: package shape's calls. -/
import Derived.Test.YtccdgpijjgeedaaShJ
import Derived.Test.YtccdgpijjgeedaaLaw
import Derived.Test.YtccdgpijjgeedaaSMass
namespace Go.Proofs.Ytccdgpijjgeedaa
open Go.RowKit Go.Shelf Fx
set_option linter.unusedVariables false

def maxI (n a : Int) : Int := if a > n then a else n
def minI (n a : Int) : Int := if a < n then a else n
end Go.Proofs.Ytccdgpijjgeedaa
