/- Two flags that calls touch, and two boxes that stay. -/
import Derived.Test.YteebbpioffdncaaGreatBW26
import Derived.Test.YteebbpioffdncaaGreatBW17
import Derived.Test.YteebbpioffdncaaGreatBW12
import Derived.Test.YteebbpioffdncaaGreatBW0
import Derived.Test.YteebbpioffdncaaGreatProg
import Derived.WalkKit
import Derived.Orders
import Derived.Below
import Derived.Laws.Rows
import Derived.Test.YteebbpioffdncaaGreatBW8
import Derived.Test.YteebbpioffdncaaGreatEBSlow0
import Derived.Test.YteebbpioffdncaaGreatBW2
import Derived.RangeFuncNested
import Derived.RangeFuncBound
import Derived.RangeFuncCalls
import Derived.RangeFuncLeaves
import Derived.RangeFuncBox
import Derived.Shelf.Abstract
import Derived.OwnWalkIn
import Derived.TacticsInMore
import Derived.LoopNIn
import Derived.LoopIn
import Derived.LoopTactic
import Derived.ProofKit
import Derived.Handy
import Derived.Test.YteebbpioffdncaaGreatBW1
import Derived.Laws.MakeOwn
import Derived.Laws.OwnMore
import Derived.Maps.AppendAt
import Derived.Deep.RegionWith
import Derived.Deep.QuietTactic
import Derived.BigQuiet
import Derived.Deep.CutBlock
import Derived.Deep.CutRange
import Derived.Deep.LoopGhost
import Derived.Lib.SmallJoins
import Derived.RowKit
import Derived.OneCell
import Derived.WalkMore
import Derived.Lib.BufferMore
import Derived.Test.YteebbpioffdncaaGreatBW6
import Derived.Test.YteebbpioffdncaaGreatBW5
import Derived.Test.YteebbpioffdncaaGreatBW4
import Derived.Test.YteebbpioffdncaaGreatBW3
import Derived.Laws.MathBits
import Derived.Laws.Externs
import Derived.Laws.BitsAllLaws
import Derived.WalkLawsBesides
import Derived.Deep.MidRow
import Derived.Test.YteebbpioffdncaaGreatBW7
import Derived.Test.YteebbpioffdncaaGreatBW11
import Derived.Test.YteebbpioffdncaaGreatBW10
import Derived.Test.YteebbpioffdncaaGreatBW9
import Derived.Deep.RegionHeld3
import Derived.Test.YteebbpioffdncaaGreatBW16
import Derived.Test.YteebbpioffdncaaGreatBW15
import Derived.Test.YteebbpioffdncaaGreatBW14
import Derived.Test.YteebbpioffdncaaGreatBW13
import Derived.Test.YteebbpioffdncaaGreatBW25
import Derived.Test.YteebbpioffdncaaGreatBW18
import Derived.Test.YteebbpioffdncaaGreatBW24
import Derived.Test.YteebbpioffdncaaGreatBW23
import Derived.OpenShut
import Derived.Test.YteebbpioffdncaaGreatBW19
import Derived.Deep.Slices
set_option linter.unusedVariables false
namespace Go.Proofs.YteebbpioffdncaaGreat
section
open Go.RowKit Go.Shelf
theorem Jur {a b:V3} (h:a ≠ b):a.x = b.x->a.y = b.y->¬ a.z = b.z:=fun h1 h2 h3=>h (by cases a;cases b;simp_all)
structure GQ (w0:World) (pw po db xb:Nat) (dl yl:List Value) (w:World):Prop where
 fw:∃ g,CW w pw [.bool g]
 fo:∃ g,CW w po [.bool g]
 d:CW w db dl
 y:CW w xb yl
 below:Below w0.heap.size w0 w
 ne:db ≠ pw/\xb ≠ pw/\db ≠ po/\xb ≠ po/\pw ≠ po/\w0.heap.size <= pw/\w0.heap.size <= po
section
variable {w0 w w':World} {pw po db xb:Nat} {dl yl:List Value}
theorem GQ.fl {g:Bool} (h:GQ w0 pw po db xb dl yl w) (ha:After ⟨pw,0,none⟩ g w w'):GQ w0 pw po db xb dl yl w':=by
 obtain ⟨_,⟨k,b⟩,c,d,e,f⟩:=h
 exact ⟨⟨g,CW.flag ha⟩,⟨k,b.after ha (fun e=>f.2.2.2.2.1 e.symm)⟩,c.after ha f.1,d.after ha f.2.1,ha.leaves.below _ _ e f.2.2.2.2.2.1 e.size,f⟩
theorem GQ.fo_ {g:Bool} (h:GQ w0 pw po db xb dl yl w) (ha:After ⟨po,0,none⟩ g w w'):GQ w0 pw po db xb dl yl w':=by
 obtain ⟨⟨k,b⟩,_,c,d,e,f⟩:=h
 exact ⟨⟨k,b.after ha f.2.2.2.2.1⟩,⟨g,CW.flag ha⟩,c.after ha f.2.2.1,d.after ha f.2.2.2.1,ha.leaves.below _ _ e f.2.2.2.2.2.2 e.size,f⟩
end
end
end Go.Proofs.YteebbpioffdncaaGreat
