/- Package pose's within and around. -/
import Derived.Test.YthcdpngkoejgpaaPsB
namespace Go.Proofs.Ythcdpngkoejgpaa
open Go.RowKit Go.Shelf
set_option linter.unusedVariables false

def Pt.win (p : Pt) (m : Int) : Bool := p.le ⟨m, m, m⟩ && Pt.le ⟨IntKind.i64.wrap (-m), IntKind.i64.wrap (-m), IntKind.i64.wrap (-m)⟩ p
end Go.Proofs.Ythcdpngkoejgpaa
