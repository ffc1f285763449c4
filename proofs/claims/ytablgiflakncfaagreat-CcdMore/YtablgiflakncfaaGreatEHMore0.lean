/- Plain mathematics of layer 18: what holds a ball; what stood apart from it stands apart from where it comes to. No program in sight. -/
import Derived.Test.YtablgiflakncfaaGreatBBW11
import Derived.Test.YtablgiflakncfaaGreatBBW5
import Derived.Test.YtablgiflakncfaaGreatBBW4
import Derived.Test.YtablgiflakncfaaGreatBBW0
import Derived.Test.YtablgiflakncfaaGreatProg
import Derived.WalkKit
import Derived.Orders
import Derived.Below
import Derived.Laws.Rows
import Derived.Test.YtablgiflakncfaaGreatBBW3
import Derived.Test.YtablgiflakncfaaGreatBBW2
import Derived.Test.YtablgiflakncfaaGreatBBW1
import Derived.RangeFuncNested
import Derived.RangeFuncBound
import Derived.RangeFuncCalls
import Derived.RangeFuncLeaves
import Derived.RangeFuncBox
import Derived.Shelf.Abstract
import Derived.OwnWalkIn
import Derived.TacticsInMore
import Derived.LoopNIn
import Derived.LoopIn
import Derived.LoopTactic
import Derived.ProofKit
import Derived.Handy
import Derived.Laws.MakeOwn
import Derived.Laws.OwnMore
import Derived.Maps.AppendAt
import Derived.Deep.RegionWith
import Derived.Deep.QuietTactic
import Derived.BigQuiet
import Derived.Deep.CutBlock
import Derived.Deep.CutRange
import Derived.Deep.LoopGhost
import Derived.Lib.SmallJoins
import Derived.RowKit
import Derived.Scope
import Derived.OrdersIn
import Derived.Sort.CutIn
import Derived.Test.YtablgiflakncfaaGreatBBW10
import Derived.Test.YtablgiflakncfaaGreatBBW9
import Derived.Test.YtablgiflakncfaaGreatBBW6
import Derived.OneCell
import Derived.WalkMore
import Derived.Lib.BufferMore
import Derived.Test.YtablgiflakncfaaGreatBBW8
import Derived.Test.YtablgiflakncfaaGreatBBW7
import Derived.Laws.MathBits
import Derived.Laws.Externs
import Derived.Laws.BitsAllLaws
import Derived.WalkLawsBesides
import Derived.Lib.AppendZeros
import Derived.Test.YtablgiflakncfaaGreatBBW23
import Derived.Test.YtablgiflakncfaaGreatBBW13
import Derived.Test.YtablgiflakncfaaGreatBBW12
import Derived.Deep.MidRow
import Derived.Deep.Onto
set_option linter.unusedVariables false
namespace Go.Proofs.YtablgiflakncfaaGreat
section
theorem cr_take {L:List Cr} {n i:Nat} (h:i < n):cr (L.take n) i = cr L i:=by
 unfold cr
 rw [List.getElem?_take,if_pos h]
theorem hold_take (a:Cr) (w:Pt) (L:List Cr) (m:Nat):∀ n,n <= m->holdK a w (L.take m) n = holdK a w L n
 | 0,_=>rfl
 | n + 1,h=>by
  unfold holdK
  rw [cr_take (by omega),hold_take a w L m n (by omega)]
end
section
open Go.RowKit Go.Shelf
theorem LiesC.one {V:World} {o:Option Addr} {n cap:Nat} {L:List Cr} (h:LiesC V (.slice o n cap) L) {i:Nat} (hi:i < L.length):∃ g off,o = some ⟨g,off,none⟩/\i < cap/\LiesC V (.slice (some ⟨g,off + i * 4,none⟩) 1 (cap - i)) [cr L i]:=by
 obtain ⟨o',cap',e,h1,h2,h3⟩:=h.form
 cases e
 obtain ⟨g,off,pv,av,ev,rfl,a,b,c,d,l1,l2,l3⟩:=h3 i hi
 refine ⟨g,off,rfl,by omega,⟨_,cap - i,rfl,by simp only [List.length_singleton];omega,by omega,fun j hj=>?_⟩⟩
 have:j = 0:=by simp at hj;omega
 subst this
 exact ⟨g,off + i * 4,pv,av,ev,rfl,a,b,c,d,l1,l2,l3⟩
theorem LiesC.take {V:World} {o:Option Addr} {n cap:Nat} {L:List Cr} (h:LiesC V (.slice o n cap) L) {i:Nat} (hi:i <= L.length):LiesC V (.slice o i cap) (L.take i):=by
 obtain ⟨o',cap',e,h1,h2,h3⟩:=h.form
 cases e
 have hl:(L.take i).length = i:=by rw [List.length_take];omega
 refine ⟨⟨o,cap,by rw [hl],by rw [hl];omega,h2,fun j hj=>?_⟩⟩
 rw [hl] at hj
 have e:cr (L.take i) j = cr L j:=by unfold cr;rw [List.getElem?_take,if_pos hj]
 rw [e]
 exact h3 j (by omega)
section
variable {V w w':World} {ob:Option Nat} {Ok:Cr->Prop} {ic ib st:Nat} {γ:Nat->Value} {L:Nat->Bool}
end
end
end Go.Proofs.YtablgiflakncfaaGreat
