/- Package vec's matrices of turns. -/
import Derived.Test.YteebbpioffdncaaGreatEBBack5
import Derived.Test.YteebbpioffdncaaGreatEBBack4
set_option maxHeartbeats 8000000
set_option maxRecDepth 100000
set_option linter.unusedVariables false
namespace Go.Proofs.YteebbpioffdncaaGreat
open Go renaming execOp -> JD
open Go.Value renaming int -> J
open Go.IntKind renaming i64 -> Y
section
open Go.RowKit Fx
def Jz (q0 q1 q2 q3:Int):Bool:=(((add q0 q0).isNone || (add q1 q1).isNone || (add q2 q2).isNone || (add q3 q3).isNone) || ((sub 0 q0).isNone || (sub 0 q1).isNone || (sub 0 q2).isNone || (sub 0 q3).isNone)) || ([(dot [((add q2 q2).getD 0),((add q3 q3).getD 0)] [q2,q3]).isNone,(sub (4294967296) ((dot [((add q2 q2).getD 0),((add q3 q3).getD 0)] [q2,q3]).getD 0)).isNone,(dot [((add q1 q1).getD 0),((add q0 q0).getD 0)] [q2,((sub 0 q3).getD 0)]).isNone,(dot [((add q1 q1).getD 0),((add q0 q0).getD 0)] [q3,q2]).isNone,(dot [((add q1 q1).getD 0),((add q0 q0).getD 0)] [q2,q3]).isNone,(dot [((add q1 q1).getD 0),((add q3 q3).getD 0)] [q1,q3]).isNone,(sub (4294967296) ((dot [((add q1 q1).getD 0),((add q3 q3).getD 0)] [q1,q3]).getD 0)).isNone,(dot [((add q2 q2).getD 0),((add q0 q0).getD 0)] [q3,((sub 0 q1).getD 0)]).isNone,(dot [((add q1 q1).getD 0),((add q0 q0).getD 0)] [q3,((sub 0 q2).getD 0)]).isNone,(dot [((add q2 q2).getD 0),((add q0 q0).getD 0)] [q3,q1]).isNone,(dot [((add q1 q1).getD 0),((add q2 q2).getD 0)] [q1,q2]).isNone,(sub (4294967296) ((dot [((add q1 q1).getD 0),((add q2 q2).getD 0)] [q1,q2]).getD 0)).isNone]:List Bool).any id
def Jfx (q0 q1 q2 q3:Int):Int:=(sub (4294967296) ((dot [((add q2 q2).getD 0),((add q3 q3).getD 0)] [q2,q3]).getD 0)).getD 0
def Jft (q0 q1 q2 q3:Int):Int:=(dot [((add q1 q1).getD 0),((add q0 q0).getD 0)] [q2,((sub 0 q3).getD 0)]).getD 0
def Jfp (q0 q1 q2 q3:Int):Int:=(dot [((add q1 q1).getD 0),((add q0 q0).getD 0)] [q3,q2]).getD 0
def Jfm (q0 q1 q2 q3:Int):Int:=(dot [((add q1 q1).getD 0),((add q0 q0).getD 0)] [q2,q3]).getD 0
def Jfy (q0 q1 q2 q3:Int):Int:=(sub (4294967296) ((dot [((add q1 q1).getD 0),((add q3 q3).getD 0)] [q1,q3]).getD 0)).getD 0
def Jfl (q0 q1 q2 q3:Int):Int:=(dot [((add q2 q2).getD 0),((add q0 q0).getD 0)] [q3,((sub 0 q1).getD 0)]).getD 0
def Jfw (q0 q1 q2 q3:Int):Int:=(dot [((add q1 q1).getD 0),((add q0 q0).getD 0)] [q3,((sub 0 q2).getD 0)]).getD 0
def Jf4 (q0 q1 q2 q3:Int):Int:=(dot [((add q2 q2).getD 0),((add q0 q0).getD 0)] [q3,q1]).getD 0
def Jf5 (q0 q1 q2 q3:Int):Int:=(sub (4294967296) ((dot [((add q1 q1).getD 0),((add q2 q2).getD 0)] [q1,q2]).getD 0)).getD 0
def Js (b off:Nat) (f g0:Bool) (pa pr po p2 p3:Nat) (q0 q1 q2 q3 t0 t1 t2 t3 n0 n1 n2 n3:Int) (W V:World):Bool:=g0 || ([(11,(dot [t2,t3] [q2,q3]).isNone),(12,(sub (4294967296) ((dot [t2,t3] [q2,q3]).getD 0)).isNone),(23,(dot [t1,t0] [q2,n3]).isNone),(34,(dot [t1,t0] [q3,q2]).isNone),(46,(dot [t1,t0] [q2,q3]).isNone),(57,(dot [t1,t3] [q1,q3]).isNone),(58,(sub (4294967296) ((dot [t1,t3] [q1,q3]).getD 0)).isNone),(69,(dot [t2,t0] [q3,n1]).isNone),(81,(dot [t1,t0] [q3,n2]).isNone),(92,(dot [t2,t0] [q3,q1]).isNone),(103,(dot [t1,t2] [q1,q2]).isNone),(104,(sub (4294967296) ((dot [t1,t2] [q1,q2]).getD 0)).isNone)]:List (Nat × Bool)).any (·.2)
def Jac (b off:Nat) (f g0:Bool) (pa pr po p2 p3:Nat) (q0 q1 q2 q3 t0 t1 t2 t3 n0 n1 n2 n3:Int) (W V:World):Nat->Shape
 | 0=>.is (.pointer (some ⟨b,off,none⟩))
 | 1=>.is (.pointer (some ⟨p2,2,none⟩))
 | 2=>.is (J Y t2)
 | 3=>.is (.pointer (some ⟨p2,3,none⟩))
 | 4=>.is (J Y t3)
 | 5=>.row 2
 | 6=>.is (.pointer (some ⟨pa,2,none⟩))
 | 7=>.is (J Y q2)
 | 8=>.is (.pointer (some ⟨pa,3,none⟩))
 | 9=>.is (J Y q3)
 | 10=>.row 2
 | 11=>.is (J Y ((dot [t2,t3] [q2,q3]).getD 0))
 | 12=>.is (J Y ((sub (4294967296) ((dot [t2,t3] [q2,q3]).getD 0)).getD 0))
 | 13=>.is (.pointer (some ⟨p2,1,none⟩))
 | 14=>.is (J Y t1)
 | 15=>.is (.pointer (some ⟨p2,0,none⟩))
 | 16=>.is (J Y t0)
 | 17=>.row 2
 | 18=>.is (.pointer (some ⟨pa,2,none⟩))
 | 19=>.is (J Y q2)
 | 20=>.is (.pointer (some ⟨p3,3,none⟩))
 | 21=>.is (J Y n3)
 | 22=>.row 2
 | 23=>.is (J Y ((dot [t1,t0] [q2,n3]).getD 0))
 | 24=>.is (.pointer (some ⟨p2,1,none⟩))
 | 25=>.is (J Y t1)
 | 26=>.is (.pointer (some ⟨p2,0,none⟩))
 | 27=>.is (J Y t0)
 | 28=>.row 2
 | 29=>.is (.pointer (some ⟨pa,3,none⟩))
 | 30=>.is (J Y q3)
 | 31=>.is (.pointer (some ⟨pa,2,none⟩))
 | 32=>.is (J Y q2)
 | 33=>.row 2
 | 34=>.is (J Y ((dot [t1,t0] [q3,q2]).getD 0))
 | 35=>.is (.agg #[J Y ((sub (4294967296) ((dot [t2,t3] [q2,q3]).getD 0)).getD 0),J Y ((dot [t1,t0] [q2,n3]).getD 0),J Y ((dot [t1,t0] [q3,q2]).getD 0)])
 | 36=>.is (.pointer (some ⟨p2,1,none⟩))
 | 37=>.is (J Y t1)
 | 38=>.is (.pointer (some ⟨p2,0,none⟩))
 | 39=>.is (J Y t0)
 | 40=>.row 2
 | 41=>.is (.pointer (some ⟨pa,2,none⟩))
 | 42=>.is (J Y q2)
 | 43=>.is (.pointer (some ⟨pa,3,none⟩))
 | 44=>.is (J Y q3)
 | 45=>.row 2
 | 46=>.is (J Y ((dot [t1,t0] [q2,q3]).getD 0))
 | 47=>.is (.pointer (some ⟨p2,1,none⟩))
 | 48=>.is (J Y t1)
 | 49=>.is (.pointer (some ⟨p2,3,none⟩))
 | 50=>.is (J Y t3)
 | 51=>.row 2
 | 52=>.is (.pointer (some ⟨pa,1,none⟩))
 | 53=>.is (J Y q1)
 | 54=>.is (.pointer (some ⟨pa,3,none⟩))
 | 55=>.is (J Y q3)
 | 56=>.row 2
 | 57=>.is (J Y ((dot [t1,t3] [q1,q3]).getD 0))
 | 58=>.is (J Y ((sub (4294967296) ((dot [t1,t3] [q1,q3]).getD 0)).getD 0))
 | 59=>.is (.pointer (some ⟨p2,2,none⟩))
 | 60=>.is (J Y t2)
 | 61=>.is (.pointer (some ⟨p2,0,none⟩))
 | 62=>.is (J Y t0)
 | 63=>.row 2
 | 64=>.is (.pointer (some ⟨pa,3,none⟩))
 | 65=>.is (J Y q3)
 | 66=>.is (.pointer (some ⟨p3,1,none⟩))
 | 67=>.is (J Y n1)
 | 68=>.row 2
 | 69=>.is (J Y ((dot [t2,t0] [q3,n1]).getD 0))
 | 70=>.is (.agg #[J Y ((dot [t1,t0] [q2,q3]).getD 0),J Y ((sub (4294967296) ((dot [t1,t3] [q1,q3]).getD 0)).getD 0),J Y ((dot [t2,t0] [q3,n1]).getD 0)])
 | 71=>.is (.pointer (some ⟨p2,1,none⟩))
 | 72=>.is (J Y t1)
 | 73=>.is (.pointer (some ⟨p2,0,none⟩))
 | 74=>.is (J Y t0)
 | 75=>.row 2
 | 76=>.is (.pointer (some ⟨pa,3,none⟩))
 | 77=>.is (J Y q3)
 | 78=>.is (.pointer (some ⟨p3,2,none⟩))
 | 79=>.is (J Y n2)
 | 80=>.row 2
 | 81=>.is (J Y ((dot [t1,t0] [q3,n2]).getD 0))
 | 82=>.is (.pointer (some ⟨p2,2,none⟩))
 | 83=>.is (J Y t2)
 | 84=>.is (.pointer (some ⟨p2,0,none⟩))
 | 85=>.is (J Y t0)
 | 86=>.row 2
 | 87=>.is (.pointer (some ⟨pa,3,none⟩))
 | 88=>.is (J Y q3)
 | 89=>.is (.pointer (some ⟨pa,1,none⟩))
 | 90=>.is (J Y q1)
 | 91=>.row 2
 | 92=>.is (J Y ((dot [t2,t0] [q3,q1]).getD 0))
 | 93=>.is (.pointer (some ⟨p2,1,none⟩))
 | 94=>.is (J Y t1)
 | 95=>.is (.pointer (some ⟨p2,2,none⟩))
 | 96=>.is (J Y t2)
 | 97=>.row 2
 | 98=>.is (.pointer (some ⟨pa,1,none⟩))
 | 99=>.is (J Y q1)
 | 100=>.is (.pointer (some ⟨pa,2,none⟩))
 | 101=>.is (J Y q2)
 | 102=>.row 2
 | 103=>.is (J Y ((dot [t1,t2] [q1,q2]).getD 0))
 | 104=>.is (J Y ((sub (4294967296) ((dot [t1,t2] [q1,q2]).getD 0)).getD 0))
 | 105=>.is (.agg #[J Y ((dot [t1,t0] [q3,n2]).getD 0),J Y ((dot [t2,t0] [q3,q1]).getD 0),J Y ((sub (4294967296) ((dot [t1,t2] [q1,q2]).getD 0)).getD 0)])
 | 106=>.is (.agg #[J Y ((sub (4294967296) ((dot [t2,t3] [q2,q3]).getD 0)).getD 0),J Y ((dot [t1,t0] [q2,n3]).getD 0),J Y ((dot [t1,t0] [q3,q2]).getD 0),J Y ((dot [t1,t0] [q2,q3]).getD 0),J Y ((sub (4294967296) ((dot [t1,t3] [q1,q3]).getD 0)).getD 0),J Y ((dot [t2,t0] [q3,n1]).getD 0),J Y ((dot [t1,t0] [q3,n2]).getD 0),J Y ((dot [t2,t0] [q3,q1]).getD 0),J Y ((sub (4294967296) ((dot [t1,t2] [q1,q2]).getD 0)).getD 0)])
 | 107=>.is (.agg #[J Y (cond (Js b off f g0 pa pr po p2 p3 q0 q1 q2 q3 t0 t1 t2 t3 n0 n1 n2 n3 W V) 0 ((sub (4294967296) ((dot [t2,t3] [q2,q3]).getD 0)).getD 0)),J Y (cond (Js b off f g0 pa pr po p2 p3 q0 q1 q2 q3 t0 t1 t2 t3 n0 n1 n2 n3 W V) 0 ((dot [t1,t0] [q2,n3]).getD 0)),J Y (cond (Js b off f g0 pa pr po p2 p3 q0 q1 q2 q3 t0 t1 t2 t3 n0 n1 n2 n3 W V) 0 ((dot [t1,t0] [q3,q2]).getD 0)),J Y (cond (Js b off f g0 pa pr po p2 p3 q0 q1 q2 q3 t0 t1 t2 t3 n0 n1 n2 n3 W V) 0 ((dot [t1,t0] [q2,q3]).getD 0)),J Y (cond (Js b off f g0 pa pr po p2 p3 q0 q1 q2 q3 t0 t1 t2 t3 n0 n1 n2 n3 W V) 0 ((sub (4294967296) ((dot [t1,t3] [q1,q3]).getD 0)).getD 0)),J Y (cond (Js b off f g0 pa pr po p2 p3 q0 q1 q2 q3 t0 t1 t2 t3 n0 n1 n2 n3 W V) 0 ((dot [t2,t0] [q3,n1]).getD 0)),J Y (cond (Js b off f g0 pa pr po p2 p3 q0 q1 q2 q3 t0 t1 t2 t3 n0 n1 n2 n3 W V) 0 ((dot [t1,t0] [q3,n2]).getD 0)),J Y (cond (Js b off f g0 pa pr po p2 p3 q0 q1 q2 q3 t0 t1 t2 t3 n0 n1 n2 n3 W V) 0 ((dot [t2,t0] [q3,q1]).getD 0)),J Y (cond (Js b off f g0 pa pr po p2 p3 q0 q1 q2 q3 t0 t1 t2 t3 n0 n1 n2 n3 W V) 0 ((sub (4294967296) ((dot [t1,t2] [q1,q2]).getD 0)).getD 0))])
 | 108=>.ptr
 | _=>.ptr
def Jc (b off:Nat) (f g0:Bool) (pa pr po p2 p3:Nat) (q0 q1 q2 q3 t0 t1 t2 t3 n0 n1 n2 n3:Int) (W V:World):Plan where
 W:=W
 N:=V.heap.size
 p:=⟨b,off,none⟩
 fl:=⟨po,0,none⟩
 g0:=g0
 bad:=Js b off f g0 pa pr po p2 p3 q0 q1 q2 q3 t0 t1 t2 t3 n0 n1 n2 n3 W V
 f:=f
 calls:=[(11,(dot [t2,t3] [q2,q3]).isNone),(12,(sub (4294967296) ((dot [t2,t3] [q2,q3]).getD 0)).isNone),(23,(dot [t1,t0] [q2,n3]).isNone),(34,(dot [t1,t0] [q3,q2]).isNone),(46,(dot [t1,t0] [q2,q3]).isNone),(57,(dot [t1,t3] [q1,q3]).isNone),(58,(sub (4294967296) ((dot [t1,t3] [q1,q3]).getD 0)).isNone),(69,(dot [t2,t0] [q3,n1]).isNone),(81,(dot [t1,t0] [q3,n2]).isNone),(92,(dot [t2,t0] [q3,q1]).isNone),(103,(dot [t1,t2] [q1,q2]).isNone),(104,(sub (4294967296) ((dot [t1,t2] [q1,q2]).getD 0)).isNone)]
 tl:=107
 st:=108
 r:=pr
 res:=[J Y (cond (Js b off f g0 pa pr po p2 p3 q0 q1 q2 q3 t0 t1 t2 t3 n0 n1 n2 n3 W V) 0 ((sub (4294967296) ((dot [t2,t3] [q2,q3]).getD 0)).getD 0)),J Y (cond (Js b off f g0 pa pr po p2 p3 q0 q1 q2 q3 t0 t1 t2 t3 n0 n1 n2 n3 W V) 0 ((dot [t1,t0] [q2,n3]).getD 0)),J Y (cond (Js b off f g0 pa pr po p2 p3 q0 q1 q2 q3 t0 t1 t2 t3 n0 n1 n2 n3 W V) 0 ((dot [t1,t0] [q3,q2]).getD 0)),J Y (cond (Js b off f g0 pa pr po p2 p3 q0 q1 q2 q3 t0 t1 t2 t3 n0 n1 n2 n3 W V) 0 ((dot [t1,t0] [q2,q3]).getD 0)),J Y (cond (Js b off f g0 pa pr po p2 p3 q0 q1 q2 q3 t0 t1 t2 t3 n0 n1 n2 n3 W V) 0 ((sub (4294967296) ((dot [t1,t3] [q1,q3]).getD 0)).getD 0)),J Y (cond (Js b off f g0 pa pr po p2 p3 q0 q1 q2 q3 t0 t1 t2 t3 n0 n1 n2 n3 W V) 0 ((dot [t2,t0] [q3,n1]).getD 0)),J Y (cond (Js b off f g0 pa pr po p2 p3 q0 q1 q2 q3 t0 t1 t2 t3 n0 n1 n2 n3 W V) 0 ((dot [t1,t0] [q3,n2]).getD 0)),J Y (cond (Js b off f g0 pa pr po p2 p3 q0 q1 q2 q3 t0 t1 t2 t3 n0 n1 n2 n3 W V) 0 ((dot [t2,t0] [q3,q1]).getD 0)),J Y (cond (Js b off f g0 pa pr po p2 p3 q0 q1 q2 q3 t0 t1 t2 t3 n0 n1 n2 n3 W V) 0 ((sub (4294967296) ((dot [t1,t2] [q1,q2]).getD 0)).getD 0))]
 fixed:=[(⟨pa,0,none⟩,J Y q0),
  (⟨pa,1,none⟩,J Y q1),
  (⟨pa,2,none⟩,J Y q2),
  (⟨pa,3,none⟩,J Y q3),
  (⟨p2,0,none⟩,J Y t0),
  (⟨p2,1,none⟩,J Y t1),
  (⟨p2,2,none⟩,J Y t2),
  (⟨p2,3,none⟩,J Y t3),
  (⟨p3,0,none⟩,J Y n0),
  (⟨p3,1,none⟩,J Y n1),
  (⟨p3,2,none⟩,J Y n2),
  (⟨p3,3,none⟩,J Y n3)]
 made:=[⟨5,5,[J Y t2,J Y t3]⟩,⟨10,10,[J Y q2,J Y q3]⟩,⟨17,17,[J Y t1,J Y t0]⟩,⟨22,22,[J Y q2,J Y n3]⟩,⟨28,28,[J Y t1,J Y t0]⟩,⟨33,33,[J Y q3,J Y q2]⟩,⟨40,40,[J Y t1,J Y t0]⟩,⟨45,45,[J Y q2,J Y q3]⟩,⟨51,51,[J Y t1,J Y t3]⟩,⟨56,56,[J Y q1,J Y q3]⟩,⟨63,63,[J Y t2,J Y t0]⟩,⟨68,68,[J Y q3,J Y n1]⟩,⟨75,75,[J Y t1,J Y t0]⟩,⟨80,80,[J Y q3,J Y n2]⟩,⟨86,86,[J Y t2,J Y t0]⟩,⟨91,91,[J Y q3,J Y q1]⟩,⟨97,97,[J Y t1,J Y t2]⟩,⟨102,102,[J Y q1,J Y q2]⟩]
theorem Jbn (b off:Nat) (f g0:Bool) (pa pr po p2 p3:Nat) (q0 q1 q2 q3 t0 t1 t2 t3 n0 n1 n2 n3:Int) (W V:World):((Jc b off f g0 pa pr po p2 p3 q0 q1 q2 q3 t0 t1 t2 t3 n0 n1 n2 n3 W V).calls.map (·.1)).Nodup:=of_decide_eq_true rfl
theorem Jas (b off:Nat) (f g0:Bool) (pa pr po p2 p3:Nat) (q0 q1 q2 q3 t0 t1 t2 t3 n0 n1 n2 n3:Int) (W V:World):((Jc b off f g0 pa pr po p2 p3 q0 q1 q2 q3 t0 t1 t2 t3 n0 n1 n2 n3 W V).made.map (·.i)).Nodup:=of_decide_eq_true rfl
theorem Jie (b off:Nat) (f g0:Bool) (pa pr po p2 p3:Nat) (q0 q1 q2 q3 t0 t1 t2 t3 n0 n1 n2 n3:Int) (W V:World):((Jc b off f g0 pa pr po p2 p3 q0 q1 q2 q3 t0 t1 t2 t3 n0 n1 n2 n3 W V).bad = true->(Jc b off f g0 pa pr po p2 p3 q0 q1 q2 q3 t0 t1 t2 t3 n0 n1 n2 n3 W V).g0 = true \/ ∃ c ∈ (Jc b off f g0 pa pr po p2 p3 q0 q1 q2 q3 t0 t1 t2 t3 n0 n1 n2 n3 W V).calls,c.2 = true)/\∀ c ∈ (Jc b off f g0 pa pr po p2 p3 q0 q1 q2 q3 t0 t1 t2 t3 n0 n1 n2 n3 W V).calls,c.2 = true->(Jc b off f g0 pa pr po p2 p3 q0 q1 q2 q3 t0 t1 t2 t3 n0 n1 n2 n3 W V).bad = true:=
 Jc9 _ rfl
def Jcu (b off:Nat) (f:Bool) (pa pr po:Nat) (q0 q1 q2 q3:Int) (W U:World):Bool:=false || ([(3,((add (q0) (q0)).isNone || (add (q1) (q1)).isNone || (add (q2) (q2)).isNone || (add (q3) (q3)).isNone)),(7,((sub (0) (q0)).isNone || (sub (0) (q1)).isNone || (sub (0) (q2)).isNone || (sub (0) (q3)).isNone))]:List (Nat × Bool)).any (·.2)
def Jeh (b off:Nat) (f:Bool) (pa pr po:Nat) (q0 q1 q2 q3:Int) (W U:World):Nat->Shape
 | 0=>.is (.func (.func 108) #[.pointer (some ⟨po,0,none⟩)] #[])
 | 1=>.is (.agg #[J Y q0,J Y q1,J Y q2,J Y q3])
 | 2=>.is (.agg #[J Y q0,J Y q1,J Y q2,J Y q3])
 | 3=>.is (.agg #[J Y ((add (q0) (q0)).getD 0),J Y ((add (q1) (q1)).getD 0),J Y ((add (q2) (q2)).getD 0),J Y ((add (q3) (q3)).getD 0)])
 | 4=>.is (.func (.func 113) #[.pointer (some ⟨po,0,none⟩)] #[])
 | 5=>.is (.agg #[J Y 0,J Y 0,J Y 0,J Y 0])
 | 6=>.is (.agg #[J Y q0,J Y q1,J Y q2,J Y q3])
 | 7=>.is (.agg #[J Y ((sub (0) (q0)).getD 0),J Y ((sub (0) (q1)).getD 0),J Y ((sub (0) (q2)).getD 0),J Y ((sub (0) (q3)).getD 0)])
 | 8=>.ptr
 | 9=>.ptr
 | 10=>.ptr
 | 11=>.ptr
 | _=>.ptr
def Jm (b off:Nat) (f:Bool) (pa pr po:Nat) (q0 q1 q2 q3:Int) (W U:World):Plan where
 W:=W
 N:=U.heap.size
 p:=⟨b,off,none⟩
 fl:=⟨po,0,none⟩
 g0:=false
 bad:=Jcu b off f pa pr po q0 q1 q2 q3 W U
 f:=f
 calls:=[(3,((add (q0) (q0)).isNone || (add (q1) (q1)).isNone || (add (q2) (q2)).isNone || (add (q3) (q3)).isNone)),(7,((sub (0) (q0)).isNone || (sub (0) (q1)).isNone || (sub (0) (q2)).isNone || (sub (0) (q3)).isNone))]
 tl:=100000
 st:=100001
 r:=pr
 res:=[J Y 0,J Y 0,J Y 0,J Y 0,J Y 0,J Y 0,J Y 0,J Y 0,J Y 0]
 fixed:=[(⟨pa,0,none⟩,J Y q0),
  (⟨pa,1,none⟩,J Y q1),
  (⟨pa,2,none⟩,J Y q2),
  (⟨pa,3,none⟩,J Y q3)]
 made:=[⟨8,10,[J Y ((add (q0) (q0)).getD 0),J Y ((add (q1) (q1)).getD 0),J Y ((add (q2) (q2)).getD 0),J Y ((add (q3) (q3)).getD 0)]⟩,⟨9,11,[J Y ((sub (0) (q0)).getD 0),J Y ((sub (0) (q1)).getD 0),J Y ((sub (0) (q2)).getD 0),J Y ((sub (0) (q3)).getD 0)]⟩]
theorem Jkv (b off:Nat) (f:Bool) (pa pr po:Nat) (q0 q1 q2 q3:Int) (W U:World):((Jm b off f pa pr po q0 q1 q2 q3 W U).calls.map (·.1)).Nodup:=of_decide_eq_true rfl
theorem Jfz (b off:Nat) (f:Bool) (pa pr po:Nat) (q0 q1 q2 q3:Int) (W U:World):((Jm b off f pa pr po q0 q1 q2 q3 W U).made.map (·.i)).Nodup:=of_decide_eq_true rfl
theorem Jg0 (b off:Nat) (f:Bool) (pa pr po:Nat) (q0 q1 q2 q3:Int) (W U:World):((Jm b off f pa pr po q0 q1 q2 q3 W U).bad = true->(Jm b off f pa pr po q0 q1 q2 q3 W U).g0 = true \/ ∃ c ∈ (Jm b off f pa pr po q0 q1 q2 q3 W U).calls,c.2 = true)/\∀ c ∈ (Jm b off f pa pr po q0 q1 q2 q3 W U).calls,c.2 = true->(Jm b off f pa pr po q0 q1 q2 q3 W U).bad = true:=
 Jc9 _ rfl
theorem Jk8 (b off:Nat) (f:Bool) (pa pr po:Nat) (q0 q1 q2 q3:Int) (W U:World):((Jm b off f pa pr po q0 q1 q2 q3 W U).made.map (·.s)).Nodup:=of_decide_eq_true rfl
theorem Jpa (b off:Nat) (f:Bool) (q0 q1 q2 q3:Int) (W:World) (hc:W.cell? ⟨b,off,none⟩ = some (.bool f)) (hf:W.frozen? ⟨b,off,none⟩ = false) :
  Calls Tryz.prog 94 #[.pointer (some ⟨b,off,none⟩),.agg #[J Y q0,J Y q1,J Y q2,J Y q3]] W fun e W'=>e = .returned (.agg #[J Y (cond (Jz q0 q1 q2 q3) 0 (Jfx q0 q1 q2 q3)),J Y (cond (Jz q0 q1 q2 q3) 0 (Jft q0 q1 q2 q3)),J Y (cond (Jz q0 q1 q2 q3) 0 (Jfp q0 q1 q2 q3)),J Y (cond (Jz q0 q1 q2 q3) 0 (Jfm q0 q1 q2 q3)),J Y (cond (Jz q0 q1 q2 q3) 0 (Jfy q0 q1 q2 q3)),J Y (cond (Jz q0 q1 q2 q3) 0 (Jfl q0 q1 q2 q3)),J Y (cond (Jz q0 q1 q2 q3) 0 (Jfw q0 q1 q2 q3)),J Y (cond (Jz q0 q1 q2 q3) 0 (Jf4 q0 q1 q2 q3)),J Y (cond (Jz q0 q1 q2 q3) 0 (Jf5 q0 q1 q2 q3))])/\Hid (After ⟨b,off,none⟩ (f || Jz q0 q1 q2 q3) W W'):=by
 have hbW:b < W.heap.size:=World.block_lt_of_cell? _ _ hc
 go_enter Tryz.func94,Tryz.ntmps94
 go_wp2_with (fail)
 obtain ⟨U,hU⟩:∃ U,U = (((W.alloc (.cells #[J Y q0,J Y q1,J Y q2,J Y q3] 29)).alloc (.cells #[J Y 0,J Y 0,J Y 0,J Y 0,J Y 0,J Y 0,J Y 0,J Y 0,J Y 0] 123)).alloc (.cells #[.bool false] 47)):=⟨_,rfl⟩
 have hUs:U.heap.size = W.heap.size + 3:=by rw [hU];simp
 have HL:Hid (Leaves ⟨b,off,none⟩ W U):=by show Leaves _ _ _;rw [hU];exact (((Leaves.refl _ _).alloc _).alloc _).alloc _
 have hp:U.cell? ⟨b,off,none⟩ = some (.bool f):=by rw [hU,World.cell?_alloc_past _ _ _ (by simp;omega),World.cell?_alloc_past _ _ _ (by simp;omega),World.cell?_alloc_past _ _ _ hbW];exact hc
 have hpf:U.frozen? ⟨b,off,none⟩ = false:=by rw [hU,((Jg _ _).frozen (by simp;omega)),((Jg _ _).frozen (by simp;omega)),((Jg _ _).frozen hbW)];exact hf
 have ho:U.cell? ⟨W.heap.size + 1 + 1,0,none⟩ = some (.bool false):=by rw [hU];simp [go_sem]
 have hof:U.frozen? ⟨W.heap.size + 1 + 1,0,none⟩ = false:=by rw [hU];simp [go_sem]
 have k0_0:U.cell? ⟨W.heap.size,0,none⟩ = some (J Y q0):=by rw [hU];simp [go_sem]
 have k0_1:U.cell? ⟨W.heap.size,1,none⟩ = some (J Y q1):=by rw [hU];simp [go_sem]
 have k0_2:U.cell? ⟨W.heap.size,2,none⟩ = some (J Y q2):=by rw [hU];simp [go_sem]
 have k0_3:U.cell? ⟨W.heap.size,3,none⟩ = some (J Y q3):=by rw [hU];simp [go_sem]
 have rr0:U.cell? ⟨W.heap.size + 1,0,none⟩ = some (J Y 0):=by rw [hU];simp [go_sem]
 have rf0:U.frozen? ⟨W.heap.size + 1,0,none⟩ = false:=by rw [hU];simp [go_sem]
 have rr1:U.cell? ⟨W.heap.size + 1,1,none⟩ = some (J Y 0):=by rw [hU];simp [go_sem]
 have rf1:U.frozen? ⟨W.heap.size + 1,1,none⟩ = false:=by rw [hU];simp [go_sem]
 have rr2:U.cell? ⟨W.heap.size + 1,2,none⟩ = some (J Y 0):=by rw [hU];simp [go_sem]
 have rf2:U.frozen? ⟨W.heap.size + 1,2,none⟩ = false:=by rw [hU];simp [go_sem]
 have rr3:U.cell? ⟨W.heap.size + 1,3,none⟩ = some (J Y 0):=by rw [hU];simp [go_sem]
 have rf3:U.frozen? ⟨W.heap.size + 1,3,none⟩ = false:=by rw [hU];simp [go_sem]
 have rr4:U.cell? ⟨W.heap.size + 1,4,none⟩ = some (J Y 0):=by rw [hU];simp [go_sem]
 have rf4:U.frozen? ⟨W.heap.size + 1,4,none⟩ = false:=by rw [hU];simp [go_sem]
 have rr5:U.cell? ⟨W.heap.size + 1,5,none⟩ = some (J Y 0):=by rw [hU];simp [go_sem]
 have rf5:U.frozen? ⟨W.heap.size + 1,5,none⟩ = false:=by rw [hU];simp [go_sem]
 have rr6:U.cell? ⟨W.heap.size + 1,6,none⟩ = some (J Y 0):=by rw [hU];simp [go_sem]
 have rf6:U.frozen? ⟨W.heap.size + 1,6,none⟩ = false:=by rw [hU];simp [go_sem]
 have rr7:U.cell? ⟨W.heap.size + 1,7,none⟩ = some (J Y 0):=by rw [hU];simp [go_sem]
 have rf7:U.frozen? ⟨W.heap.size + 1,7,none⟩ = false:=by rw [hU];simp [go_sem]
 have rr8:U.cell? ⟨W.heap.size + 1,8,none⟩ = some (J Y 0):=by rw [hU];simp [go_sem]
 have rf8:U.frozen? ⟨W.heap.size + 1,8,none⟩ = false:=by rw [hU];simp [go_sem]
 rw [<- hU]
 clear hU hc hf
 obtain ⟨pa,hpa⟩:∃ p,p = W.heap.size:=⟨_,rfl⟩
 obtain ⟨pr,hpr⟩:∃ p,p = W.heap.size + 1:=⟨_,rfl⟩
 obtain ⟨po,hpo⟩:∃ p,p = W.heap.size + 1 + 1:=⟨_,rfl⟩
 rw [<- hpo] at ho hof
 rw [<- hpo]
 rw [<- hpr] at rr0 rf0 rr1 rf1 rr2 rf2 rr3 rf3 rr4 rf4 rr5 rf5 rr6 rf6 rr7 rf7 rr8 rf8
 rw [<- hpr]
 rw [<- hpa] at k0_0 k0_1 k0_2 k0_3
 rw [<- hpa]
 have z0:W.heap.size <= pa:=by omega
 have z1:pa < pr:=by omega
 have z2:pr < po:=by omega
 have z9:po < U.heap.size:=by omega
 clear hpa hpr hpo hUs
 have hπ:(Jm b off f pa pr po q0 q1 q2 q3 W U).Good:=by
  refine Jfr ?_ ?_ ?_ ?_ ?_ ?_ ?_ (Jg0 b off f pa pr po q0 q1 q2 q3 W U).1 (Jg0 b off f pa pr po q0 q1 q2 q3 W U).2
  ·show W.heap.size <= pr;omega
  ·show pr < U.heap.size;omega
  ·exact Or.inr (by show W.heap.size <= po;omega)
  ·show po < U.heap.size;omega
  ·show po ≠ pr;omega
  ·show b < W.heap.size;omega
  ·intro c hc
   simp only [Jm,List.mem_cons,List.not_mem_nil,or_false] at hc
   rcases hc with rfl | rfl | rfl | rfl <;> (show _ < U.heap.size/\_ ≠ po/\_ ≠ b/\_ ≠ pr) <;> (dsimp only) <;> omega
 refine region_by (Jl (Jeh b off f pa pr po q0 q1 q2 q3 W U)) (Glob (Jm b off f pa pr po q0 q1 q2 q3 W U)) (by kernel_rfl) (by kernel_rfl) (by kernel_rfl) (by kernel_rfl) (fun _=>0) ?_ ?_ ?_
 ·refine ⟨?_,?_,?_,?_,?_,?_,(fun _ _ h=>by cases h),(fun _ _ _ _ h=>by cases h)⟩
  ·exact HL.out.drew
  ·exact Nat.le_refl _
  ·exact ⟨false,ho,hof,fun h=>by show Jcu b off f pa pr po q0 q1 q2 q3 W U = true;simp [Jcu,h],fun h=>h,fun _ _ h=>by cases h⟩
  ·refine Or.inr ⟨?_,hpf⟩
   show U.cell? ⟨b,off,none⟩ = some (.bool (f || (false && Jcu b off f pa pr po q0 q1 q2 q3 W U)))
   rw [Bool.false_and,Bool.or_false];exact hp
  ·refine ⟨[J Y 0,J Y 0,J Y 0,J Y 0,J Y 0,J Y 0,J Y 0,J Y 0,J Y 0],rfl,?_,fun h=>by cases h⟩
   intro k v hk
   match k,hk with
   | 0,hk=>simp at hk;subst hk;exact ⟨rr0,rf0⟩
   | 1,hk=>simp at hk;subst hk;exact ⟨rr1,rf1⟩
   | 2,hk=>simp at hk;subst hk;exact ⟨rr2,rf2⟩
   | 3,hk=>simp at hk;subst hk;exact ⟨rr3,rf3⟩
   | 4,hk=>simp at hk;subst hk;exact ⟨rr4,rf4⟩
   | 5,hk=>simp at hk;subst hk;exact ⟨rr5,rf5⟩
   | 6,hk=>simp at hk;subst hk;exact ⟨rr6,rf6⟩
   | 7,hk=>simp at hk;subst hk;exact ⟨rr7,rf7⟩
   | 8,hk=>simp at hk;subst hk;exact ⟨rr8,rf8⟩
  ·intro c hc
   simp only [Jm,List.mem_cons,List.not_mem_nil,or_false] at hc
   rcases hc with rfl | rfl | rfl | rfl <;> assumption
 ·generalize hD:Jai _ = D
  generalize hA:Jab _ = A
  generalize hZ:Act.mk _ _ = Z
  have d0:D 0 = some 8:=by rw [<- hD];rfl
  have d1:D 1 = some 9:=by rw [<- hD];rfl
  have d2:D 2 = some 10:=by rw [<- hD];rfl
  have d3:D 3 = some 11:=by rw [<- hD];rfl
  have d4:D 4 = some 12:=by rw [<- hD];rfl
  have d5:D 5 = some 13:=by rw [<- hD];rfl
  have d6:D 6 = some 14:=by rw [<- hD];rfl
  have d7:D 7 = some 15:=by rw [<- hD];rfl
  have d8:D 8 = some 6:=by rw [<- hD];rfl
  have d9:D 9 = some 7:=by rw [<- hD];rfl
  have R3:∀ (γ:Nat->Nat) (L:Nat->Bool) (a:Act) (w:World),Held D A (Jl (Jeh b off f pa pr po q0 q1 q2 q3 W U)) (Glob (Jm b off f pa pr po q0 q1 q2 q3 W U)) Z γ L a w->a.tmps[3]? = some (.pointer (some ⟨pa,0,none⟩)):=fun γ L a w hH=>(hH.rest 3 (by rw [<- hD];exact dst_free (by kernel_rfl))).trans (by rw [<- hZ];rfl)
  have R5:∀ (γ:Nat->Nat) (L:Nat->Bool) (a:Act) (w:World),Held D A (Jl (Jeh b off f pa pr po q0 q1 q2 q3 W U)) (Glob (Jm b off f pa pr po q0 q1 q2 q3 W U)) Z γ L a w->a.tmps[5]? = some (.pointer (some ⟨po,0,none⟩)):=fun γ L a w hH=>(hH.rest 5 (by rw [<- hD];exact dst_free (by kernel_rfl))).trans (by rw [<- hZ];rfl)
  have A_10_8:A 10 8:=by rw [<- hA];exact ⟨_,rfl,⟨8,.data⟩,by simp,rfl,rfl⟩
  have A_11_9:A 11 9:=by rw [<- hA];exact ⟨_,rfl,⟨9,.data⟩,by simp,rfl,rfl⟩
  clear hD hA hZ
  refine AllDo.cons 0 rfl (Jd _ rfl rfl (fun γ L a w hH hA=>by have e1:=R5 γ L a w hH;simp [JD,go_sem,e1])) ?_
  refine AllDo.cons 1 rfl (Jd _ rfl rfl (fun γ L a w hH hA=>by have e1:=R3 γ L a w hH;have e2:=hH.glob.fix (⟨pa,0,none⟩,J Y q0) (by simp [Jm]);have e3:=hH.glob.fix (⟨pa,1,none⟩,J Y q1) (by simp [Jm]);have e4:=hH.glob.fix (⟨pa,2,none⟩,J Y q2) (by simp [Jm]);have e5:=hH.glob.fix (⟨pa,3,none⟩,J Y q3) (by simp [Jm]);simp [JD,go_sem,e1,e2,e3,e4,e5])) ?_
  refine AllDo.cons 2 rfl (Jd _ rfl rfl (fun γ L a w hH hA=>by have e1:=R3 γ L a w hH;have e2:=hH.glob.fix (⟨pa,0,none⟩,J Y q0) (by simp [Jm]);have e3:=hH.glob.fix (⟨pa,1,none⟩,J Y q1) (by simp [Jm]);have e4:=hH.glob.fix (⟨pa,2,none⟩,J Y q2) (by simp [Jm]);have e5:=hH.glob.fix (⟨pa,3,none⟩,J Y q3) (by simp [Jm]);simp [JD,go_sem,e1,e2,e3,e4,e5])) ?_
  refine AllDo.cons 3 rfl (J9 hπ _ (((add (q0) (q0)).isNone || (add (q1) (q1)).isNone || (add (q2) (q2)).isNone || (add (q3) (q3)).isNone)) rfl (by simp [Jm]) (J7 (Jkv b off f pa pr po q0 q1 q2 q3 W U) (by simp [Jm])) rfl (fun γ L a w hH hA g hg hz=>by have e1:=hH.at d0 rfl (hA ⟨0,.data⟩ (by simp) rfl);have e2:=hH.at d1 rfl (hA ⟨1,.data⟩ (by simp) rfl);have e3:=hH.at d2 rfl (hA ⟨2,.data⟩ (by simp) rfl);exact ⟨135,#[.func (.func 108) #[.pointer (some ⟨po,0,none⟩)] #[],.agg #[J Y q0,J Y q1,J Y q2,J Y q3],.agg #[J Y q0,J Y q1,J Y q2,J Y q3]],by simp [go_sem,e1,e2,e3],(Jih po g (q0) (q1) (q2) (q3) (q0) (q1) (q2) (q3) w hg hz).mono (by rintro e W1 ⟨g1,rfl,S,Z⟩;exact ⟨rfl,g1,S.out,Z.out⟩)⟩)) ?_
  refine AllDo.cons 4 rfl (Jd _ rfl rfl (fun γ L a w hH hA=>by have e1:=R5 γ L a w hH;simp [JD,go_sem,e1])) ?_
  refine AllDo.cons 5 rfl (Jd _ rfl rfl (fun γ L a w hH hA=>by simp [JD,go_sem])) ?_
  refine AllDo.cons 6 rfl (Jd _ rfl rfl (fun γ L a w hH hA=>by have e1:=R3 γ L a w hH;have e2:=hH.glob.fix (⟨pa,0,none⟩,J Y q0) (by simp [Jm]);have e3:=hH.glob.fix (⟨pa,1,none⟩,J Y q1) (by simp [Jm]);have e4:=hH.glob.fix (⟨pa,2,none⟩,J Y q2) (by simp [Jm]);have e5:=hH.glob.fix (⟨pa,3,none⟩,J Y q3) (by simp [Jm]);simp [JD,go_sem,e1,e2,e3,e4,e5])) ?_
  refine AllDo.cons 7 rfl (J9 hπ _ (((sub (0) (q0)).isNone || (sub (0) (q1)).isNone || (sub (0) (q2)).isNone || (sub (0) (q3)).isNone)) rfl (by simp [Jm]) (J7 (Jkv b off f pa pr po q0 q1 q2 q3 W U) (by simp [Jm])) rfl (fun γ L a w hH hA g hg hz=>by have e1:=hH.at d4 rfl (hA ⟨4,.data⟩ (by simp) rfl);have e2:=hH.at d5 rfl (hA ⟨5,.data⟩ (by simp) rfl);have e3:=hH.at d6 rfl (hA ⟨6,.data⟩ (by simp) rfl);exact ⟨135,#[.func (.func 113) #[.pointer (some ⟨po,0,none⟩)] #[],.agg #[J Y 0,J Y 0,J Y 0,J Y 0],.agg #[J Y q0,J Y q1,J Y q2,J Y q3]],by simp [go_sem,e1,e2,e3],(Je4 po g (0) (0) (0) (0) (q0) (q1) (q2) (q3) w hg hz).mono (by rintro e W1 ⟨g1,rfl,S,Z⟩;exact ⟨rfl,g1,S.out,Z.out⟩)⟩)) ?_
  refine AllDo.cons 8 rfl (J3 rfl ⟨8,10,[J Y ((add (q0) (q0)).getD 0),J Y ((add (q1) (q1)).getD 0),J Y ((add (q2) (q2)).getD 0),J Y ((add (q3) (q3)).getD 0)]⟩ (by simp [Jm]) rfl (J5 (Jfz b off f pa pr po q0 q1 q2 q3 W U) (m:=⟨8,10,[J Y ((add (q0) (q0)).getD 0),J Y ((add (q1) (q1)).getD 0),J Y ((add (q2) (q2)).getD 0),J Y ((add (q3) (q3)).getD 0)]⟩) (by simp [Jm])) (Or.inr A_10_8) [J Y 0,J Y 0,J Y 0,J Y 0] 29 rfl (fun h=>absurd h (by simp)) (fun γ L a w hH hA=>by simp [JD,go_sem,Jl,Jeh,upd_self])) ?_
  refine AllDo.cons 9 rfl (J3 rfl ⟨9,11,[J Y ((sub (0) (q0)).getD 0),J Y ((sub (0) (q1)).getD 0),J Y ((sub (0) (q2)).getD 0),J Y ((sub (0) (q3)).getD 0)]⟩ (by simp [Jm]) rfl (J5 (Jfz b off f pa pr po q0 q1 q2 q3 W U) (m:=⟨9,11,[J Y ((sub (0) (q0)).getD 0),J Y ((sub (0) (q1)).getD 0),J Y ((sub (0) (q2)).getD 0),J Y ((sub (0) (q3)).getD 0)]⟩) (by simp [Jm])) (Or.inr A_11_9) [J Y 0,J Y 0,J Y 0,J Y 0] 29 rfl (fun h=>absurd h (by simp)) (fun γ L a w hH hA=>by simp [JD,go_sem,Jl,Jeh,upd_self])) ?_
  refine AllDo.cons 10 rfl (Ji5 hπ rfl (by simp [Jm]) (by simp [Jm]) (by simp [Jm]) ⟨8,10,[J Y ((add (q0) (q0)).getD 0),J Y ((add (q1) (q1)).getD 0),J Y ((add (q2) (q2)).getD 0),J Y ((add (q3) (q3)).getD 0)]⟩ (by simp [Jm]) rfl (by simp [Jm]) (Ji2 (Jk8 b off f pa pr po q0 q1 q2 q3 W U) (m:=⟨8,10,[J Y ((add (q0) (q0)).getD 0),J Y ((add (q1) (q1)).getD 0),J Y ((add (q2) (q2)).getD 0),J Y ((add (q3) (q3)).getD 0)]⟩) (by simp [Jm])) (J5 (Jfz b off f pa pr po q0 q1 q2 q3 W U) (m:=⟨8,10,[J Y ((add (q0) (q0)).getD 0),J Y ((add (q1) (q1)).getD 0),J Y ((add (q2) (q2)).getD 0),J Y ((add (q3) (q3)).getD 0)]⟩) (by simp [Jm])) (fun γ L a w hH hA=>⟨hA ⟨8,.data⟩ (by simp) rfl,fun cs hl hh=>by have e1:=hH.ptrAt d8 rfl (hA ⟨8,.data⟩ (by simp) rfl);have e2:=hH.at d3 rfl (hA ⟨3,.data⟩ (by simp) rfl);obtain ⟨u0,u1,u2,u3,rfl⟩:=Js4 hl;have zz0:w.cell? ⟨γ 8,0,none⟩ = some u0/\w.frozen? ⟨γ 8,0,none⟩ = false:=hh 0 u0 rfl;have zz1:w.cell? ⟨γ 8,1,none⟩ = some u1/\w.frozen? ⟨γ 8,1,none⟩ = false:=hh 1 u1 rfl;have zz2:w.cell? ⟨γ 8,2,none⟩ = some u2/\w.frozen? ⟨γ 8,2,none⟩ = false:=hh 2 u2 rfl;have zz3:w.cell? ⟨γ 8,3,none⟩ = some u3/\w.frozen? ⟨γ 8,3,none⟩ = false:=hh 3 u3 rfl;exact ⟨((((w.setCell ⟨γ 8,0,none⟩ (J Y ((add (q0) (q0)).getD 0))).setCell ⟨γ 8,1,none⟩ (J Y ((add (q1) (q1)).getD 0))).setCell ⟨γ 8,2,none⟩ (J Y ((add (q2) (q2)).getD 0))).setCell ⟨γ 8,3,none⟩ (J Y ((add (q3) (q3)).getD 0))),by simp [JD,go_sem,e1,e2,zz0.1,zz0.2,zz1.1,zz1.2,zz2.1,zz2.2,zz3.1,zz3.2],(((((Only.refl _ _).set 0 _).set 1 _).set 2 _).set 3 _),Jq7 hh⟩⟩)) ?_
  refine AllDo.cons 11 rfl (Ji5 hπ rfl (by simp [Jm]) (by simp [Jm]) (by simp [Jm]) ⟨9,11,[J Y ((sub (0) (q0)).getD 0),J Y ((sub (0) (q1)).getD 0),J Y ((sub (0) (q2)).getD 0),J Y ((sub (0) (q3)).getD 0)]⟩ (by simp [Jm]) rfl (by simp [Jm]) (Ji2 (Jk8 b off f pa pr po q0 q1 q2 q3 W U) (m:=⟨9,11,[J Y ((sub (0) (q0)).getD 0),J Y ((sub (0) (q1)).getD 0),J Y ((sub (0) (q2)).getD 0),J Y ((sub (0) (q3)).getD 0)]⟩) (by simp [Jm])) (J5 (Jfz b off f pa pr po q0 q1 q2 q3 W U) (m:=⟨9,11,[J Y ((sub (0) (q0)).getD 0),J Y ((sub (0) (q1)).getD 0),J Y ((sub (0) (q2)).getD 0),J Y ((sub (0) (q3)).getD 0)]⟩) (by simp [Jm])) (fun γ L a w hH hA=>⟨hA ⟨9,.data⟩ (by simp) rfl,fun cs hl hh=>by have e1:=hH.ptrAt d9 rfl (hA ⟨9,.data⟩ (by simp) rfl);have e2:=hH.at d7 rfl (hA ⟨7,.data⟩ (by simp) rfl);obtain ⟨u0,u1,u2,u3,rfl⟩:=Js4 hl;have zz0:w.cell? ⟨γ 9,0,none⟩ = some u0/\w.frozen? ⟨γ 9,0,none⟩ = false:=hh 0 u0 rfl;have zz1:w.cell? ⟨γ 9,1,none⟩ = some u1/\w.frozen? ⟨γ 9,1,none⟩ = false:=hh 1 u1 rfl;have zz2:w.cell? ⟨γ 9,2,none⟩ = some u2/\w.frozen? ⟨γ 9,2,none⟩ = false:=hh 2 u2 rfl;have zz3:w.cell? ⟨γ 9,3,none⟩ = some u3/\w.frozen? ⟨γ 9,3,none⟩ = false:=hh 3 u3 rfl;exact ⟨((((w.setCell ⟨γ 9,0,none⟩ (J Y ((sub (0) (q0)).getD 0))).setCell ⟨γ 9,1,none⟩ (J Y ((sub (0) (q1)).getD 0))).setCell ⟨γ 9,2,none⟩ (J Y ((sub (0) (q2)).getD 0))).setCell ⟨γ 9,3,none⟩ (J Y ((sub (0) (q3)).getD 0))),by simp [JD,go_sem,e1,e2,zz0.1,zz0.2,zz1.1,zz1.2,zz2.1,zz2.2,zz3.1,zz3.2],(((((Only.refl _ _).set 0 _).set 1 _).set 2 _).set 3 _),Jq7 hh⟩⟩)) ?_
  exact AllDo.nil
 ·intro γ a1 V L hL hLo hH
  have hL':∀ j,j < 12->L j = true:=fun j hj=>hL j hj
  have hG:=hH.glob
  have hdf:a1.defers = []:=hH.defers.trans rfl
  have hsz:a1.tmps.size = 124:=hH.size.trans rfl
  have hs0:a1.tmps[0]? = some (.pointer (some ⟨b,off,none⟩)):=(hH.rest 0 (dst_free (by kernel_rfl))).trans rfl
  have hs3:a1.tmps[3]? = some (.pointer (some ⟨pa,0,none⟩)):=(hH.rest 3 (dst_free (by kernel_rfl))).trans rfl
  have hs4:a1.tmps[4]? = some (.pointer (some ⟨pr,0,none⟩)):=(hH.rest 4 (dst_free (by kernel_rfl))).trans rfl
  have hs5:a1.tmps[5]? = some (.pointer (some ⟨po,0,none⟩)):=(hH.rest 5 (dst_free (by kernel_rfl))).trans rfl
  have hs6:a1.tmps[6]? = some (.pointer (some ⟨γ 8,0,none⟩)):=hH.ptrAt (j:=8) rfl rfl (hL' 8 (by omega))
  have hs7:a1.tmps[7]? = some (.pointer (some ⟨γ 9,0,none⟩)):=hH.ptrAt (j:=9) rfl rfl (hL' 9 (by omega))
  obtain ⟨u1,u2,cs6,_,u3,u4⟩:=hG.made ⟨8,10,_⟩ (by simp [Jm];rfl) (hL' 8 (by omega))
  obtain ⟨v1,v2,cs7,_,v3,v4⟩:=hG.made ⟨9,11,_⟩ (by simp [Jm];rfl) (hL' 9 (by omega))
  obtain rfl:=u4 (hL' 10 (by omega))
  obtain rfl:=v4 (hL' 11 (by omega))
  have k2_0:V.cell? ⟨γ 8,0,none⟩ = some (J Y ((add q0 q0).getD 0)):=(u3 0 _ rfl).1
  have k3_0:V.cell? ⟨γ 9,0,none⟩ = some (J Y ((sub 0 q0).getD 0)):=(v3 0 _ rfl).1
  have k2_1:V.cell? ⟨γ 8,1,none⟩ = some (J Y ((add q1 q1).getD 0)):=(u3 1 _ rfl).1
  have k3_1:V.cell? ⟨γ 9,1,none⟩ = some (J Y ((sub 0 q1).getD 0)):=(v3 1 _ rfl).1
  have k2_2:V.cell? ⟨γ 8,2,none⟩ = some (J Y ((add q2 q2).getD 0)):=(u3 2 _ rfl).1
  have k3_2:V.cell? ⟨γ 9,2,none⟩ = some (J Y ((sub 0 q2).getD 0)):=(v3 2 _ rfl).1
  have k2_3:V.cell? ⟨γ 8,3,none⟩ = some (J Y ((add q3 q3).getD 0)):=(u3 3 _ rfl).1
  have k3_3:V.cell? ⟨γ 9,3,none⟩ = some (J Y ((sub 0 q3).getD 0)):=(v3 3 _ rfl).1
  have e0_0:V.cell? ⟨pa,0,none⟩ = some (J Y q0):=hG.fix (⟨pa,0,none⟩,J Y q0) (by simp [Jm])
  have e0_1:V.cell? ⟨pa,1,none⟩ = some (J Y q1):=hG.fix (⟨pa,1,none⟩,J Y q1) (by simp [Jm])
  have e0_2:V.cell? ⟨pa,2,none⟩ = some (J Y q2):=hG.fix (⟨pa,2,none⟩,J Y q2) (by simp [Jm])
  have e0_3:V.cell? ⟨pa,3,none⟩ = some (J Y q3):=hG.fix (⟨pa,3,none⟩,J Y q3) (by simp [Jm])
  have hfl:=hG.flagAll hπ (fun c hc=>hL' c.1 (by simp only [Jm,List.mem_cons,List.not_mem_nil,or_false] at hc;rcases hc with rfl | rfl <;> simp))
  have ho2:=hG.outer.resolve_left (fun e=>by have e2:po = b:=congrArg Addr.block e;omega)
  have hp':V.cell? ⟨b,off,none⟩ = some (.bool f):=by
   have e:=ho2.1
   rw [hLo (Jm b off f pa pr po q0 q1 q2 q3 W U).tl (by show 12 <= 100000;omega),Bool.false_and,Bool.or_false] at e
   exact e
  have hpf':V.frozen? ⟨b,off,none⟩ = false:=ho2.2
  obtain ⟨zs,z1,z2,z3⟩:=hG.res
  obtain ⟨g0,hg0⟩:∃ g,g = Jcu b off f pa pr po q0 q1 q2 q3 W U:=⟨_,rfl⟩
  have ho':V.cell? ⟨po,0,none⟩ = some (.bool g0):=by rw [hg0];exact hfl.1
  have hof':V.frozen? ⟨po,0,none⟩ = false:=hfl.2
  have HG:Hid (g0 = (((add q0 q0).isNone || (add q1 q1).isNone || (add q2 q2).isNone || (add q3 q3).isNone) || ((sub 0 q0).isNone || (sub 0 q1).isNone || (sub 0 q2).isNone || (sub 0 q3).isNone))):=by show _ = _;rw [hg0];simp [Jcu]
  have HL':Hid (Leaves ⟨b,off,none⟩ W V):=hG.leaves
  have hn:γ 8 ≠ γ 9:=fun e=>by
   have:=hG.apart ⟨8,10,_⟩ (by simp [Jm];rfl) ⟨9,11,_⟩ (by simp [Jm];rfl) (hL' 8 (by omega)) (hL' 9 (by omega)) e
   simp at this
  obtain ⟨p2,hp2⟩:∃ p,p = γ 8:=⟨_,rfl⟩
  obtain ⟨p3,hp3⟩:∃ p,p = γ 9:=⟨_,rfl⟩
  rw [<- hp2] at hs6 k2_0 k2_1 k2_2 k2_3 u1 u2 hn
  rw [<- hp3] at hs7 k3_0 k3_1 k3_2 k3_3 v1 v2 hn
  have u1:U.heap.size <= p2:=u1
  have v1:U.heap.size <= p3:=v1
  obtain ⟨y0,y1,y2,y3,y4,y5,y6,y7,y8,rfl⟩:=Js8 z1
  clear hp ho hof hpf HL hg0 hfl ho2 z1 z3 hL hLo hL' hH hG u3 u4 v3 v4 hp2 hp3 hπ
  have hp:=hp'
  have hpf:=hpf'
  have ho:=ho'
  have hof:=hof'
  have HL:=HL'
  clear hp' hpf' ho' hof' HL'
  obtain ⟨t0,ht0⟩:∃ t,t = (add q0 q0).getD 0:=⟨_,rfl⟩
  obtain ⟨n0,hn0⟩:∃ t,t = (sub 0 q0).getD 0:=⟨_,rfl⟩
  have HT0:Hid _:=ht0
  have HN0:Hid _:=hn0
  rw [<- ht0] at k2_0
  rw [<- hn0] at k3_0
  clear ht0 hn0
  obtain ⟨t1,ht1⟩:∃ t,t = (add q1 q1).getD 0:=⟨_,rfl⟩
  obtain ⟨n1,hn1⟩:∃ t,t = (sub 0 q1).getD 0:=⟨_,rfl⟩
  have HT1:Hid _:=ht1
  have HN1:Hid _:=hn1
  rw [<- ht1] at k2_1
  rw [<- hn1] at k3_1
  clear ht1 hn1
  obtain ⟨t2,ht2⟩:∃ t,t = (add q2 q2).getD 0:=⟨_,rfl⟩
  obtain ⟨n2,hn2⟩:∃ t,t = (sub 0 q2).getD 0:=⟨_,rfl⟩
  have HT2:Hid _:=ht2
  have HN2:Hid _:=hn2
  rw [<- ht2] at k2_2
  rw [<- hn2] at k3_2
  clear ht2 hn2
  obtain ⟨t3,ht3⟩:∃ t,t = (add q3 q3).getD 0:=⟨_,rfl⟩
  obtain ⟨n3,hn3⟩:∃ t,t = (sub 0 q3).getD 0:=⟨_,rfl⟩
  have HT3:Hid _:=ht3
  have HN3:Hid _:=hn3
  rw [<- ht3] at k2_3
  rw [<- hn3] at k3_3
  clear ht3 hn3
  go_wp2_with (fail)
  have hπ:(Jc b off f g0 pa pr po p2 p3 q0 q1 q2 q3 t0 t1 t2 t3 n0 n1 n2 n3 W V).Good:=by
   refine Jfr ?_ ?_ ?_ ?_ ?_ ?_ ?_ (Jie b off f g0 pa pr po p2 p3 q0 q1 q2 q3 t0 t1 t2 t3 n0 n1 n2 n3 W V).1 (Jie b off f g0 pa pr po p2 p3 q0 q1 q2 q3 t0 t1 t2 t3 n0 n1 n2 n3 W V).2
   ·show W.heap.size <= pr;omega
   ·show pr < V.heap.size;omega
   ·exact Or.inr (by show W.heap.size <= po;omega)
   ·show po < V.heap.size;omega
   ·show po ≠ pr;omega
   ·show b < W.heap.size;omega
   ·intro c hc
    simp only [Jc,List.mem_cons,List.not_mem_nil,or_false] at hc
    rcases hc with rfl | rfl | rfl | rfl | rfl | rfl | rfl | rfl | rfl | rfl | rfl | rfl <;> (show _ < V.heap.size/\_ ≠ po/\_ ≠ b/\_ ≠ pr) <;> (dsimp only) <;> omega
  refine region_by (Jl (Jac b off f g0 pa pr po p2 p3 q0 q1 q2 q3 t0 t1 t2 t3 n0 n1 n2 n3 W V)) (Glob (Jc b off f g0 pa pr po p2 p3 q0 q1 q2 q3 t0 t1 t2 t3 n0 n1 n2 n3 W V)) (by kernel_rfl) (by kernel_rfl) (by kernel_rfl) (by rw [hsz];kernel_rfl) (fun _=>0) ?_ ?_ ?_
  ·refine ⟨?_,?_,?_,?_,?_,?_,(fun _ _ h=>by cases h),(fun _ _ _ _ h=>by cases h)⟩
   ·exact HL.out.drew
   ·exact Nat.le_refl _
   ·exact ⟨g0,ho,hof,fun h=>by show Js b off f g0 pa pr po p2 p3 q0 q1 q2 q3 t0 t1 t2 t3 n0 n1 n2 n3 W V = true;simp [Js,h],fun h=>h,fun _ _ h=>by cases h⟩
   ·refine Or.inr ⟨?_,hpf⟩
    show V.cell? ⟨b,off,none⟩ = some (.bool (f || (false && Js b off f g0 pa pr po p2 p3 q0 q1 q2 q3 t0 t1 t2 t3 n0 n1 n2 n3 W V)))
    rw [Bool.false_and,Bool.or_false];exact hp
   ·exact ⟨[y0,y1,y2,y3,y4,y5,y6,y7,y8],rfl,z2,fun h=>by cases h⟩
   ·intro c hc
    simp only [Jc,List.mem_cons,List.not_mem_nil,or_false] at hc
    rcases hc with rfl | rfl | rfl | rfl | rfl | rfl | rfl | rfl | rfl | rfl | rfl | rfl <;> assumption
  ·generalize hD:Jai _ = D
   generalize hA:Jab _ = A
   have d0:D 0 = some 16:=by rw [<- hD];rfl
   have d1:D 1 = some 17:=by rw [<- hD];rfl
   have d2:D 2 = some 18:=by rw [<- hD];rfl
   have d3:D 3 = some 19:=by rw [<- hD];rfl
   have d4:D 4 = some 20:=by rw [<- hD];rfl
   have d5:D 5 = some 21:=by rw [<- hD];rfl
   have d6:D 6 = some 22:=by rw [<- hD];rfl
   have d7:D 7 = some 23:=by rw [<- hD];rfl
   have d8:D 8 = some 24:=by rw [<- hD];rfl
   have d9:D 9 = some 25:=by rw [<- hD];rfl
   have d10:D 10 = some 26:=by rw [<- hD];rfl
   have d11:D 11 = some 27:=by rw [<- hD];rfl
   have d12:D 12 = some 28:=by rw [<- hD];rfl
   have d13:D 13 = some 29:=by rw [<- hD];rfl
   have d14:D 14 = some 30:=by rw [<- hD];rfl
   have d15:D 15 = some 31:=by rw [<- hD];rfl
   have d16:D 16 = some 32:=by rw [<- hD];rfl
   have d17:D 17 = some 33:=by rw [<- hD];rfl
   have d18:D 18 = some 34:=by rw [<- hD];rfl
   have d19:D 19 = some 35:=by rw [<- hD];rfl
   have d20:D 20 = some 36:=by rw [<- hD];rfl
   have d21:D 21 = some 37:=by rw [<- hD];rfl
   have d22:D 22 = some 38:=by rw [<- hD];rfl
   have d23:D 23 = some 39:=by rw [<- hD];rfl
   have d24:D 24 = some 40:=by rw [<- hD];rfl
   have d25:D 25 = some 41:=by rw [<- hD];rfl
   have d26:D 26 = some 42:=by rw [<- hD];rfl
   have d27:D 27 = some 43:=by rw [<- hD];rfl
   have d28:D 28 = some 44:=by rw [<- hD];rfl
   have d29:D 29 = some 45:=by rw [<- hD];rfl
   have d30:D 30 = some 46:=by rw [<- hD];rfl
   have d31:D 31 = some 47:=by rw [<- hD];rfl
   have d32:D 32 = some 48:=by rw [<- hD];rfl
   have d33:D 33 = some 49:=by rw [<- hD];rfl
   have d34:D 34 = some 50:=by rw [<- hD];rfl
   have d35:D 35 = some 51:=by rw [<- hD];rfl
   have d36:D 36 = some 52:=by rw [<- hD];rfl
   have d37:D 37 = some 53:=by rw [<- hD];rfl
   have d38:D 38 = some 54:=by rw [<- hD];rfl
   have d39:D 39 = some 55:=by rw [<- hD];rfl
   have d40:D 40 = some 56:=by rw [<- hD];rfl
   have d41:D 41 = some 57:=by rw [<- hD];rfl
   have d42:D 42 = some 58:=by rw [<- hD];rfl
   have d43:D 43 = some 59:=by rw [<- hD];rfl
   have d44:D 44 = some 60:=by rw [<- hD];rfl
   have d45:D 45 = some 61:=by rw [<- hD];rfl
   have d46:D 46 = some 62:=by rw [<- hD];rfl
   have d47:D 47 = some 63:=by rw [<- hD];rfl
   have d48:D 48 = some 64:=by rw [<- hD];rfl
   have d49:D 49 = some 65:=by rw [<- hD];rfl
   have d50:D 50 = some 66:=by rw [<- hD];rfl
   have d51:D 51 = some 67:=by rw [<- hD];rfl
   have d52:D 52 = some 68:=by rw [<- hD];rfl
   have d53:D 53 = some 69:=by rw [<- hD];rfl
   have d54:D 54 = some 70:=by rw [<- hD];rfl
   have d55:D 55 = some 71:=by rw [<- hD];rfl
   have d56:D 56 = some 72:=by rw [<- hD];rfl
   have d57:D 57 = some 73:=by rw [<- hD];rfl
   have d58:D 58 = some 74:=by rw [<- hD];rfl
   have d59:D 59 = some 75:=by rw [<- hD];rfl
   have d60:D 60 = some 76:=by rw [<- hD];rfl
   have d61:D 61 = some 77:=by rw [<- hD];rfl
   have d62:D 62 = some 78:=by rw [<- hD];rfl
   have d63:D 63 = some 79:=by rw [<- hD];rfl
   have d64:D 64 = some 80:=by rw [<- hD];rfl
   have d65:D 65 = some 81:=by rw [<- hD];rfl
   have d66:D 66 = some 82:=by rw [<- hD];rfl
   have d67:D 67 = some 83:=by rw [<- hD];rfl
   have d68:D 68 = some 84:=by rw [<- hD];rfl
   have d69:D 69 = some 85:=by rw [<- hD];rfl
   have d70:D 70 = some 86:=by rw [<- hD];rfl
   have d71:D 71 = some 87:=by rw [<- hD];rfl
   have d72:D 72 = some 88:=by rw [<- hD];rfl
   have d73:D 73 = some 89:=by rw [<- hD];rfl
   have d74:D 74 = some 90:=by rw [<- hD];rfl
   have d75:D 75 = some 91:=by rw [<- hD];rfl
   have d76:D 76 = some 92:=by rw [<- hD];rfl
   have d77:D 77 = some 93:=by rw [<- hD];rfl
   have d78:D 78 = some 94:=by rw [<- hD];rfl
   have d79:D 79 = some 95:=by rw [<- hD];rfl
   have d80:D 80 = some 96:=by rw [<- hD];rfl
   have d81:D 81 = some 97:=by rw [<- hD];rfl
   have d82:D 82 = some 98:=by rw [<- hD];rfl
   have d83:D 83 = some 99:=by rw [<- hD];rfl
   have d84:D 84 = some 100:=by rw [<- hD];rfl
   have d85:D 85 = some 101:=by rw [<- hD];rfl
   have d86:D 86 = some 102:=by rw [<- hD];rfl
   have d87:D 87 = some 103:=by rw [<- hD];rfl
   have d88:D 88 = some 104:=by rw [<- hD];rfl
   have d89:D 89 = some 105:=by rw [<- hD];rfl
   have d90:D 90 = some 106:=by rw [<- hD];rfl
   have d91:D 91 = some 107:=by rw [<- hD];rfl
   have d92:D 92 = some 108:=by rw [<- hD];rfl
   have d93:D 93 = some 109:=by rw [<- hD];rfl
   have d94:D 94 = some 110:=by rw [<- hD];rfl
   have d95:D 95 = some 111:=by rw [<- hD];rfl
   have d96:D 96 = some 112:=by rw [<- hD];rfl
   have d97:D 97 = some 113:=by rw [<- hD];rfl
   have d98:D 98 = some 114:=by rw [<- hD];rfl
   have d99:D 99 = some 115:=by rw [<- hD];rfl
   have d100:D 100 = some 116:=by rw [<- hD];rfl
   have d101:D 101 = some 117:=by rw [<- hD];rfl
   have d102:D 102 = some 118:=by rw [<- hD];rfl
   have d103:D 103 = some 119:=by rw [<- hD];rfl
   have d104:D 104 = some 120:=by rw [<- hD];rfl
   have d105:D 105 = some 121:=by rw [<- hD];rfl
   have d106:D 106 = some 122:=by rw [<- hD];rfl
   have d107:D 107 = some 123:=by rw [<- hD];rfl
   have R0:∀ (γ:Nat->Nat) (L:Nat->Bool) (a:Act) (w:World),Held D A (Jl (Jac b off f g0 pa pr po p2 p3 q0 q1 q2 q3 t0 t1 t2 t3 n0 n1 n2 n3 W V)) (Glob (Jc b off f g0 pa pr po p2 p3 q0 q1 q2 q3 t0 t1 t2 t3 n0 n1 n2 n3 W V)) a1 γ L a w->a.tmps[0]? = some (.pointer (some ⟨b,off,none⟩)):=fun γ L a w hH=>(hH.rest 0 (by rw [<- hD];exact dst_free (by kernel_rfl))).trans hs0
   have R3:∀ (γ:Nat->Nat) (L:Nat->Bool) (a:Act) (w:World),Held D A (Jl (Jac b off f g0 pa pr po p2 p3 q0 q1 q2 q3 t0 t1 t2 t3 n0 n1 n2 n3 W V)) (Glob (Jc b off f g0 pa pr po p2 p3 q0 q1 q2 q3 t0 t1 t2 t3 n0 n1 n2 n3 W V)) a1 γ L a w->a.tmps[3]? = some (.pointer (some ⟨pa,0,none⟩)):=fun γ L a w hH=>(hH.rest 3 (by rw [<- hD];exact dst_free (by kernel_rfl))).trans hs3
   have R4:∀ (γ:Nat->Nat) (L:Nat->Bool) (a:Act) (w:World),Held D A (Jl (Jac b off f g0 pa pr po p2 p3 q0 q1 q2 q3 t0 t1 t2 t3 n0 n1 n2 n3 W V)) (Glob (Jc b off f g0 pa pr po p2 p3 q0 q1 q2 q3 t0 t1 t2 t3 n0 n1 n2 n3 W V)) a1 γ L a w->a.tmps[4]? = some (.pointer (some ⟨pr,0,none⟩)):=fun γ L a w hH=>(hH.rest 4 (by rw [<- hD];exact dst_free (by kernel_rfl))).trans hs4
   have R5:∀ (γ:Nat->Nat) (L:Nat->Bool) (a:Act) (w:World),Held D A (Jl (Jac b off f g0 pa pr po p2 p3 q0 q1 q2 q3 t0 t1 t2 t3 n0 n1 n2 n3 W V)) (Glob (Jc b off f g0 pa pr po p2 p3 q0 q1 q2 q3 t0 t1 t2 t3 n0 n1 n2 n3 W V)) a1 γ L a w->a.tmps[5]? = some (.pointer (some ⟨po,0,none⟩)):=fun γ L a w hH=>(hH.rest 5 (by rw [<- hD];exact dst_free (by kernel_rfl))).trans hs5
   have R6:∀ (γ:Nat->Nat) (L:Nat->Bool) (a:Act) (w:World),Held D A (Jl (Jac b off f g0 pa pr po p2 p3 q0 q1 q2 q3 t0 t1 t2 t3 n0 n1 n2 n3 W V)) (Glob (Jc b off f g0 pa pr po p2 p3 q0 q1 q2 q3 t0 t1 t2 t3 n0 n1 n2 n3 W V)) a1 γ L a w->a.tmps[6]? = some (.pointer (some ⟨p2,0,none⟩)):=fun γ L a w hH=>(hH.rest 6 (by rw [<- hD];exact dst_free (by kernel_rfl))).trans hs6
   have R7:∀ (γ:Nat->Nat) (L:Nat->Bool) (a:Act) (w:World),Held D A (Jl (Jac b off f g0 pa pr po p2 p3 q0 q1 q2 q3 t0 t1 t2 t3 n0 n1 n2 n3 W V)) (Glob (Jc b off f g0 pa pr po p2 p3 q0 q1 q2 q3 t0 t1 t2 t3 n0 n1 n2 n3 W V)) a1 γ L a w->a.tmps[7]? = some (.pointer (some ⟨p3,0,none⟩)):=fun γ L a w hH=>(hH.rest 7 (by rw [<- hD];exact dst_free (by kernel_rfl))).trans hs7
   have A_106_35:A 106 35:=by rw [<- hA];exact ⟨_,rfl,⟨35,.data⟩,by simp,rfl,rfl⟩
   have A_106_70:A 106 70:=by rw [<- hA];exact ⟨_,rfl,⟨70,.data⟩,by simp,rfl,rfl⟩
   have A_106_105:A 106 105:=by rw [<- hA];exact ⟨_,rfl,⟨105,.data⟩,by simp,rfl,rfl⟩
   have A_35_12:A 35 12:=by rw [<- hA];exact ⟨_,rfl,⟨12,.data⟩,by simp,rfl,rfl⟩
   have A_35_23:A 35 23:=by rw [<- hA];exact ⟨_,rfl,⟨23,.data⟩,by simp,rfl,rfl⟩
   have A_35_34:A 35 34:=by rw [<- hA];exact ⟨_,rfl,⟨34,.data⟩,by simp,rfl,rfl⟩
   have A_70_46:A 70 46:=by rw [<- hA];exact ⟨_,rfl,⟨46,.data⟩,by simp,rfl,rfl⟩
   have A_70_58:A 70 58:=by rw [<- hA];exact ⟨_,rfl,⟨58,.data⟩,by simp,rfl,rfl⟩
   have A_70_69:A 70 69:=by rw [<- hA];exact ⟨_,rfl,⟨69,.data⟩,by simp,rfl,rfl⟩
   have A_105_81:A 105 81:=by rw [<- hA];exact ⟨_,rfl,⟨81,.data⟩,by simp,rfl,rfl⟩
   have A_105_92:A 105 92:=by rw [<- hA];exact ⟨_,rfl,⟨92,.data⟩,by simp,rfl,rfl⟩
   have A_105_104:A 105 104:=by rw [<- hA];exact ⟨_,rfl,⟨104,.data⟩,by simp,rfl,rfl⟩
   have A_12_11:A 12 11:=by rw [<- hA];exact ⟨_,rfl,⟨11,.data⟩,by simp,rfl,rfl⟩
   have A_58_57:A 58 57:=by rw [<- hA];exact ⟨_,rfl,⟨57,.data⟩,by simp,rfl,rfl⟩
   have A_104_103:A 104 103:=by rw [<- hA];exact ⟨_,rfl,⟨103,.data⟩,by simp,rfl,rfl⟩
   clear hD hA
   refine AllDo.cons 0 rfl (Jd _ rfl rfl (fun γ L a w hH hA=>by have e1:=R0 γ L a w hH;simp [JD,go_sem,e1])) ?_
   refine AllDo.cons 1 rfl (Jd _ rfl rfl (fun γ L a w hH hA=>by have e1:=R6 γ L a w hH;simp [JD,go_sem,e1])) ?_
   refine AllDo.cons 2 rfl (Jd _ rfl rfl (fun γ L a w hH hA=>by have e1:=hH.at d1 rfl (hA ⟨1,.data⟩ (by simp) rfl);have e2:=hH.glob.fix (⟨p2,2,none⟩,J Y t2) (by simp [Jc]);simp [JD,go_sem,e1,e2])) ?_
   refine AllDo.cons 3 rfl (Jd _ rfl rfl (fun γ L a w hH hA=>by have e1:=R6 γ L a w hH;simp [JD,go_sem,e1])) ?_
   refine AllDo.cons 4 rfl (Jd _ rfl rfl (fun γ L a w hH hA=>by have e1:=hH.at d3 rfl (hA ⟨3,.data⟩ (by simp) rfl);have e2:=hH.glob.fix (⟨p2,3,none⟩,J Y t3) (by simp [Jc]);simp [JD,go_sem,e1,e2])) ?_
   refine AllDo.cons 5 rfl (J3 rfl ⟨5,5,[J Y t2,J Y t3]⟩ (by simp [Jc]) rfl (J5 (Jas b off f g0 pa pr po p2 p3 q0 q1 q2 q3 t0 t1 t2 t3 n0 n1 n2 n3 W V) (m:=⟨5,5,[J Y t2,J Y t3]⟩) (by simp [Jc])) (Or.inl rfl) [J Y t2,J Y t3] 3 rfl (fun _=>rfl) (fun γ L a w hH hA=>by have e1:=hH.at d2 rfl (hA ⟨2,.data⟩ (by simp) rfl);have e2:=hH.at d4 rfl (hA ⟨4,.data⟩ (by simp) rfl);simp [JD,go_sem,e1,e2,Jl,Jac,upd_self])) ?_
   refine AllDo.cons 6 rfl (Jd _ rfl rfl (fun γ L a w hH hA=>by have e1:=R3 γ L a w hH;simp [JD,go_sem,e1])) ?_
   refine AllDo.cons 7 rfl (Jd _ rfl rfl (fun γ L a w hH hA=>by have e1:=hH.at d6 rfl (hA ⟨6,.data⟩ (by simp) rfl);have e2:=hH.glob.fix (⟨pa,2,none⟩,J Y q2) (by simp [Jc]);simp [JD,go_sem,e1,e2])) ?_
   refine AllDo.cons 8 rfl (Jd _ rfl rfl (fun γ L a w hH hA=>by have e1:=R3 γ L a w hH;simp [JD,go_sem,e1])) ?_
   refine AllDo.cons 9 rfl (Jd _ rfl rfl (fun γ L a w hH hA=>by have e1:=hH.at d8 rfl (hA ⟨8,.data⟩ (by simp) rfl);have e2:=hH.glob.fix (⟨pa,3,none⟩,J Y q3) (by simp [Jc]);simp [JD,go_sem,e1,e2])) ?_
   refine AllDo.cons 10 rfl (J3 rfl ⟨10,10,[J Y q2,J Y q3]⟩ (by simp [Jc]) rfl (J5 (Jas b off f g0 pa pr po p2 p3 q0 q1 q2 q3 t0 t1 t2 t3 n0 n1 n2 n3 W V) (m:=⟨10,10,[J Y q2,J Y q3]⟩) (by simp [Jc])) (Or.inl rfl) [J Y q2,J Y q3] 3 rfl (fun _=>rfl) (fun γ L a w hH hA=>by have e1:=hH.at d7 rfl (hA ⟨7,.data⟩ (by simp) rfl);have e2:=hH.at d9 rfl (hA ⟨9,.data⟩ (by simp) rfl);simp [JD,go_sem,e1,e2,Jl,Jac,upd_self])) ?_
   refine AllDo.cons 11 rfl (J9 hπ _ ((dot [t2,t3] [q2,q3]).isNone) rfl (by simp [Jc]) (J7 (Jbn b off f g0 pa pr po p2 p3 q0 q1 q2 q3 t0 t1 t2 t3 n0 n1 n2 n3 W V) (by simp [Jc])) rfl (fun γ L a w hH hA g hg hz=>by have e1:=R5 γ L a w hH;have e2:=hH.rowAt d5 rfl (hA ⟨5,.data⟩ (by simp) rfl);have e3:=hH.rowAt d10 rfl (hA ⟨10,.data⟩ (by simp) rfl);exact ⟨114,#[.pointer (some ⟨po,0,none⟩),.slice (some ⟨γ 5,0,none⟩) 2 2,.slice (some ⟨γ 10,0,none⟩) 2 2],by simp [go_sem,e1,e2,e3],(Jau po 0 g [t2,t3] [q2,q3] _ _ 2 2 w hg hz (by simp) (by simp) (Jak [t2,t3] (hH.glob.made ⟨5,5,[J Y t2,J Y t3]⟩ (by simp [Jc]) (hA ⟨5,.data⟩ (by simp) rfl)) (hA ⟨5,.data⟩ (by simp) rfl) rfl) (Jak [q2,q3] (hH.glob.made ⟨10,10,[J Y q2,J Y q3]⟩ (by simp [Jc]) (hA ⟨10,.data⟩ (by simp) rfl)) (hA ⟨10,.data⟩ (by simp) rfl) rfl)).mono (by rintro e W1 ⟨v,g1,rfl,S,Z⟩;exact ⟨by rw [S.out.1],g1,S.out.2,Z.out⟩)⟩)) ?_
   refine AllDo.cons 12 rfl (J9 hπ _ ((sub (4294967296) ((dot [t2,t3] [q2,q3]).getD 0)).isNone) rfl (by simp [Jc]) (J7 (Jbn b off f g0 pa pr po p2 p3 q0 q1 q2 q3 t0 t1 t2 t3 n0 n1 n2 n3 W V) (by simp [Jc])) rfl (fun γ L a w hH hA g hg hz=>by have e1:=R5 γ L a w hH;have e2:=hH.at d11 rfl (hA ⟨11,.data⟩ (by simp) rfl);exact ⟨113,#[.pointer (some ⟨po,0,none⟩),J Y 4294967296,J Y ((dot [t2,t3] [q2,q3]).getD 0)],by simp [go_sem,e1,e2],(Jfn po 0 g (4294967296) ((dot [t2,t3] [q2,q3]).getD 0) w hg hz).mono (by rintro e W1 ⟨v,g1,rfl,S,Z⟩;exact ⟨by rw [S.out.1],g1,S.out.2,Z.out⟩)⟩)) ?_
   refine AllDo.cons 13 rfl (Jd _ rfl rfl (fun γ L a w hH hA=>by have e1:=R6 γ L a w hH;simp [JD,go_sem,e1])) ?_
   refine AllDo.cons 14 rfl (Jd _ rfl rfl (fun γ L a w hH hA=>by have e1:=hH.at d13 rfl (hA ⟨13,.data⟩ (by simp) rfl);have e2:=hH.glob.fix (⟨p2,1,none⟩,J Y t1) (by simp [Jc]);simp [JD,go_sem,e1,e2])) ?_
   refine AllDo.cons 15 rfl (Jd _ rfl rfl (fun γ L a w hH hA=>by have e1:=R6 γ L a w hH;simp [JD,go_sem,e1])) ?_
   refine AllDo.cons 16 rfl (Jd _ rfl rfl (fun γ L a w hH hA=>by have e1:=hH.at d15 rfl (hA ⟨15,.data⟩ (by simp) rfl);have e2:=hH.glob.fix (⟨p2,0,none⟩,J Y t0) (by simp [Jc]);simp [JD,go_sem,e1,e2])) ?_
   refine AllDo.cons 17 rfl (J3 rfl ⟨17,17,[J Y t1,J Y t0]⟩ (by simp [Jc]) rfl (J5 (Jas b off f g0 pa pr po p2 p3 q0 q1 q2 q3 t0 t1 t2 t3 n0 n1 n2 n3 W V) (m:=⟨17,17,[J Y t1,J Y t0]⟩) (by simp [Jc])) (Or.inl rfl) [J Y t1,J Y t0] 3 rfl (fun _=>rfl) (fun γ L a w hH hA=>by have e1:=hH.at d14 rfl (hA ⟨14,.data⟩ (by simp) rfl);have e2:=hH.at d16 rfl (hA ⟨16,.data⟩ (by simp) rfl);simp [JD,go_sem,e1,e2,Jl,Jac,upd_self])) ?_
   refine AllDo.cons 18 rfl (Jd _ rfl rfl (fun γ L a w hH hA=>by have e1:=R3 γ L a w hH;simp [JD,go_sem,e1])) ?_
   refine AllDo.cons 19 rfl (Jd _ rfl rfl (fun γ L a w hH hA=>by have e1:=hH.at d18 rfl (hA ⟨18,.data⟩ (by simp) rfl);have e2:=hH.glob.fix (⟨pa,2,none⟩,J Y q2) (by simp [Jc]);simp [JD,go_sem,e1,e2])) ?_
   refine AllDo.cons 20 rfl (Jd _ rfl rfl (fun γ L a w hH hA=>by have e1:=R7 γ L a w hH;simp [JD,go_sem,e1])) ?_
   refine AllDo.cons 21 rfl (Jd _ rfl rfl (fun γ L a w hH hA=>by have e1:=hH.at d20 rfl (hA ⟨20,.data⟩ (by simp) rfl);have e2:=hH.glob.fix (⟨p3,3,none⟩,J Y n3) (by simp [Jc]);simp [JD,go_sem,e1,e2])) ?_
   refine AllDo.cons 22 rfl (J3 rfl ⟨22,22,[J Y q2,J Y n3]⟩ (by simp [Jc]) rfl (J5 (Jas b off f g0 pa pr po p2 p3 q0 q1 q2 q3 t0 t1 t2 t3 n0 n1 n2 n3 W V) (m:=⟨22,22,[J Y q2,J Y n3]⟩) (by simp [Jc])) (Or.inl rfl) [J Y q2,J Y n3] 3 rfl (fun _=>rfl) (fun γ L a w hH hA=>by have e1:=hH.at d19 rfl (hA ⟨19,.data⟩ (by simp) rfl);have e2:=hH.at d21 rfl (hA ⟨21,.data⟩ (by simp) rfl);simp [JD,go_sem,e1,e2,Jl,Jac,upd_self])) ?_
   refine AllDo.cons 23 rfl (J9 hπ _ ((dot [t1,t0] [q2,n3]).isNone) rfl (by simp [Jc]) (J7 (Jbn b off f g0 pa pr po p2 p3 q0 q1 q2 q3 t0 t1 t2 t3 n0 n1 n2 n3 W V) (by simp [Jc])) rfl (fun γ L a w hH hA g hg hz=>by have e1:=R5 γ L a w hH;have e2:=hH.rowAt d17 rfl (hA ⟨17,.data⟩ (by simp) rfl);have e3:=hH.rowAt d22 rfl (hA ⟨22,.data⟩ (by simp) rfl);exact ⟨114,#[.pointer (some ⟨po,0,none⟩),.slice (some ⟨γ 17,0,none⟩) 2 2,.slice (some ⟨γ 22,0,none⟩) 2 2],by simp [go_sem,e1,e2,e3],(Jau po 0 g [t1,t0] [q2,n3] _ _ 2 2 w hg hz (by simp) (by simp) (Jak [t1,t0] (hH.glob.made ⟨17,17,[J Y t1,J Y t0]⟩ (by simp [Jc]) (hA ⟨17,.data⟩ (by simp) rfl)) (hA ⟨17,.data⟩ (by simp) rfl) rfl) (Jak [q2,n3] (hH.glob.made ⟨22,22,[J Y q2,J Y n3]⟩ (by simp [Jc]) (hA ⟨22,.data⟩ (by simp) rfl)) (hA ⟨22,.data⟩ (by simp) rfl) rfl)).mono (by rintro e W1 ⟨v,g1,rfl,S,Z⟩;exact ⟨by rw [S.out.1],g1,S.out.2,Z.out⟩)⟩)) ?_
   refine AllDo.cons 24 rfl (Jd _ rfl rfl (fun γ L a w hH hA=>by have e1:=R6 γ L a w hH;simp [JD,go_sem,e1])) ?_
   refine AllDo.cons 25 rfl (Jd _ rfl rfl (fun γ L a w hH hA=>by have e1:=hH.at d24 rfl (hA ⟨24,.data⟩ (by simp) rfl);have e2:=hH.glob.fix (⟨p2,1,none⟩,J Y t1) (by simp [Jc]);simp [JD,go_sem,e1,e2])) ?_
   refine AllDo.cons 26 rfl (Jd _ rfl rfl (fun γ L a w hH hA=>by have e1:=R6 γ L a w hH;simp [JD,go_sem,e1])) ?_
   refine AllDo.cons 27 rfl (Jd _ rfl rfl (fun γ L a w hH hA=>by have e1:=hH.at d26 rfl (hA ⟨26,.data⟩ (by simp) rfl);have e2:=hH.glob.fix (⟨p2,0,none⟩,J Y t0) (by simp [Jc]);simp [JD,go_sem,e1,e2])) ?_
   refine AllDo.cons 28 rfl (J3 rfl ⟨28,28,[J Y t1,J Y t0]⟩ (by simp [Jc]) rfl (J5 (Jas b off f g0 pa pr po p2 p3 q0 q1 q2 q3 t0 t1 t2 t3 n0 n1 n2 n3 W V) (m:=⟨28,28,[J Y t1,J Y t0]⟩) (by simp [Jc])) (Or.inl rfl) [J Y t1,J Y t0] 3 rfl (fun _=>rfl) (fun γ L a w hH hA=>by have e1:=hH.at d25 rfl (hA ⟨25,.data⟩ (by simp) rfl);have e2:=hH.at d27 rfl (hA ⟨27,.data⟩ (by simp) rfl);simp [JD,go_sem,e1,e2,Jl,Jac,upd_self])) ?_
   refine AllDo.cons 29 rfl (Jd _ rfl rfl (fun γ L a w hH hA=>by have e1:=R3 γ L a w hH;simp [JD,go_sem,e1])) ?_
   refine AllDo.cons 30 rfl (Jd _ rfl rfl (fun γ L a w hH hA=>by have e1:=hH.at d29 rfl (hA ⟨29,.data⟩ (by simp) rfl);have e2:=hH.glob.fix (⟨pa,3,none⟩,J Y q3) (by simp [Jc]);simp [JD,go_sem,e1,e2])) ?_
   refine AllDo.cons 31 rfl (Jd _ rfl rfl (fun γ L a w hH hA=>by have e1:=R3 γ L a w hH;simp [JD,go_sem,e1])) ?_
   refine AllDo.cons 32 rfl (Jd _ rfl rfl (fun γ L a w hH hA=>by have e1:=hH.at d31 rfl (hA ⟨31,.data⟩ (by simp) rfl);have e2:=hH.glob.fix (⟨pa,2,none⟩,J Y q2) (by simp [Jc]);simp [JD,go_sem,e1,e2])) ?_
   refine AllDo.cons 33 rfl (J3 rfl ⟨33,33,[J Y q3,J Y q2]⟩ (by simp [Jc]) rfl (J5 (Jas b off f g0 pa pr po p2 p3 q0 q1 q2 q3 t0 t1 t2 t3 n0 n1 n2 n3 W V) (m:=⟨33,33,[J Y q3,J Y q2]⟩) (by simp [Jc])) (Or.inl rfl) [J Y q3,J Y q2] 3 rfl (fun _=>rfl) (fun γ L a w hH hA=>by have e1:=hH.at d30 rfl (hA ⟨30,.data⟩ (by simp) rfl);have e2:=hH.at d32 rfl (hA ⟨32,.data⟩ (by simp) rfl);simp [JD,go_sem,e1,e2,Jl,Jac,upd_self])) ?_
   refine AllDo.cons 34 rfl (J9 hπ _ ((dot [t1,t0] [q3,q2]).isNone) rfl (by simp [Jc]) (J7 (Jbn b off f g0 pa pr po p2 p3 q0 q1 q2 q3 t0 t1 t2 t3 n0 n1 n2 n3 W V) (by simp [Jc])) rfl (fun γ L a w hH hA g hg hz=>by have e1:=R5 γ L a w hH;have e2:=hH.rowAt d28 rfl (hA ⟨28,.data⟩ (by simp) rfl);have e3:=hH.rowAt d33 rfl (hA ⟨33,.data⟩ (by simp) rfl);exact ⟨114,#[.pointer (some ⟨po,0,none⟩),.slice (some ⟨γ 28,0,none⟩) 2 2,.slice (some ⟨γ 33,0,none⟩) 2 2],by simp [go_sem,e1,e2,e3],(Jau po 0 g [t1,t0] [q3,q2] _ _ 2 2 w hg hz (by simp) (by simp) (Jak [t1,t0] (hH.glob.made ⟨28,28,[J Y t1,J Y t0]⟩ (by simp [Jc]) (hA ⟨28,.data⟩ (by simp) rfl)) (hA ⟨28,.data⟩ (by simp) rfl) rfl) (Jak [q3,q2] (hH.glob.made ⟨33,33,[J Y q3,J Y q2]⟩ (by simp [Jc]) (hA ⟨33,.data⟩ (by simp) rfl)) (hA ⟨33,.data⟩ (by simp) rfl) rfl)).mono (by rintro e W1 ⟨v,g1,rfl,S,Z⟩;exact ⟨by rw [S.out.1],g1,S.out.2,Z.out⟩)⟩)) ?_
   refine AllDo.cons 35 rfl (Jd _ rfl rfl (fun γ L a w hH hA=>by have e1:=hH.at d12 rfl (hA ⟨12,.data⟩ (by simp) rfl);have e2:=hH.at d23 rfl (hA ⟨23,.data⟩ (by simp) rfl);have e3:=hH.at d34 rfl (hA ⟨34,.data⟩ (by simp) rfl);simp [JD,go_sem,e1,e2,e3])) ?_
   refine AllDo.cons 36 rfl (Jd _ rfl rfl (fun γ L a w hH hA=>by have e1:=R6 γ L a w hH;simp [JD,go_sem,e1])) ?_
   refine AllDo.cons 37 rfl (Jd _ rfl rfl (fun γ L a w hH hA=>by have e1:=hH.at d36 rfl (hA ⟨36,.data⟩ (by simp) rfl);have e2:=hH.glob.fix (⟨p2,1,none⟩,J Y t1) (by simp [Jc]);simp [JD,go_sem,e1,e2])) ?_
   refine AllDo.cons 38 rfl (Jd _ rfl rfl (fun γ L a w hH hA=>by have e1:=R6 γ L a w hH;simp [JD,go_sem,e1])) ?_
   refine AllDo.cons 39 rfl (Jd _ rfl rfl (fun γ L a w hH hA=>by have e1:=hH.at d38 rfl (hA ⟨38,.data⟩ (by simp) rfl);have e2:=hH.glob.fix (⟨p2,0,none⟩,J Y t0) (by simp [Jc]);simp [JD,go_sem,e1,e2])) ?_
   refine AllDo.cons 40 rfl (J3 rfl ⟨40,40,[J Y t1,J Y t0]⟩ (by simp [Jc]) rfl (J5 (Jas b off f g0 pa pr po p2 p3 q0 q1 q2 q3 t0 t1 t2 t3 n0 n1 n2 n3 W V) (m:=⟨40,40,[J Y t1,J Y t0]⟩) (by simp [Jc])) (Or.inl rfl) [J Y t1,J Y t0] 3 rfl (fun _=>rfl) (fun γ L a w hH hA=>by have e1:=hH.at d37 rfl (hA ⟨37,.data⟩ (by simp) rfl);have e2:=hH.at d39 rfl (hA ⟨39,.data⟩ (by simp) rfl);simp [JD,go_sem,e1,e2,Jl,Jac,upd_self])) ?_
   refine AllDo.cons 41 rfl (Jd _ rfl rfl (fun γ L a w hH hA=>by have e1:=R3 γ L a w hH;simp [JD,go_sem,e1])) ?_
   refine AllDo.cons 42 rfl (Jd _ rfl rfl (fun γ L a w hH hA=>by have e1:=hH.at d41 rfl (hA ⟨41,.data⟩ (by simp) rfl);have e2:=hH.glob.fix (⟨pa,2,none⟩,J Y q2) (by simp [Jc]);simp [JD,go_sem,e1,e2])) ?_
   refine AllDo.cons 43 rfl (Jd _ rfl rfl (fun γ L a w hH hA=>by have e1:=R3 γ L a w hH;simp [JD,go_sem,e1])) ?_
   refine AllDo.cons 44 rfl (Jd _ rfl rfl (fun γ L a w hH hA=>by have e1:=hH.at d43 rfl (hA ⟨43,.data⟩ (by simp) rfl);have e2:=hH.glob.fix (⟨pa,3,none⟩,J Y q3) (by simp [Jc]);simp [JD,go_sem,e1,e2])) ?_
   refine AllDo.cons 45 rfl (J3 rfl ⟨45,45,[J Y q2,J Y q3]⟩ (by simp [Jc]) rfl (J5 (Jas b off f g0 pa pr po p2 p3 q0 q1 q2 q3 t0 t1 t2 t3 n0 n1 n2 n3 W V) (m:=⟨45,45,[J Y q2,J Y q3]⟩) (by simp [Jc])) (Or.inl rfl) [J Y q2,J Y q3] 3 rfl (fun _=>rfl) (fun γ L a w hH hA=>by have e1:=hH.at d42 rfl (hA ⟨42,.data⟩ (by simp) rfl);have e2:=hH.at d44 rfl (hA ⟨44,.data⟩ (by simp) rfl);simp [JD,go_sem,e1,e2,Jl,Jac,upd_self])) ?_
   refine AllDo.cons 46 rfl (J9 hπ _ ((dot [t1,t0] [q2,q3]).isNone) rfl (by simp [Jc]) (J7 (Jbn b off f g0 pa pr po p2 p3 q0 q1 q2 q3 t0 t1 t2 t3 n0 n1 n2 n3 W V) (by simp [Jc])) rfl (fun γ L a w hH hA g hg hz=>by have e1:=R5 γ L a w hH;have e2:=hH.rowAt d40 rfl (hA ⟨40,.data⟩ (by simp) rfl);have e3:=hH.rowAt d45 rfl (hA ⟨45,.data⟩ (by simp) rfl);exact ⟨114,#[.pointer (some ⟨po,0,none⟩),.slice (some ⟨γ 40,0,none⟩) 2 2,.slice (some ⟨γ 45,0,none⟩) 2 2],by simp [go_sem,e1,e2,e3],(Jau po 0 g [t1,t0] [q2,q3] _ _ 2 2 w hg hz (by simp) (by simp) (Jak [t1,t0] (hH.glob.made ⟨40,40,[J Y t1,J Y t0]⟩ (by simp [Jc]) (hA ⟨40,.data⟩ (by simp) rfl)) (hA ⟨40,.data⟩ (by simp) rfl) rfl) (Jak [q2,q3] (hH.glob.made ⟨45,45,[J Y q2,J Y q3]⟩ (by simp [Jc]) (hA ⟨45,.data⟩ (by simp) rfl)) (hA ⟨45,.data⟩ (by simp) rfl) rfl)).mono (by rintro e W1 ⟨v,g1,rfl,S,Z⟩;exact ⟨by rw [S.out.1],g1,S.out.2,Z.out⟩)⟩)) ?_
   refine AllDo.cons 47 rfl (Jd _ rfl rfl (fun γ L a w hH hA=>by have e1:=R6 γ L a w hH;simp [JD,go_sem,e1])) ?_
   refine AllDo.cons 48 rfl (Jd _ rfl rfl (fun γ L a w hH hA=>by have e1:=hH.at d47 rfl (hA ⟨47,.data⟩ (by simp) rfl);have e2:=hH.glob.fix (⟨p2,1,none⟩,J Y t1) (by simp [Jc]);simp [JD,go_sem,e1,e2])) ?_
   refine AllDo.cons 49 rfl (Jd _ rfl rfl (fun γ L a w hH hA=>by have e1:=R6 γ L a w hH;simp [JD,go_sem,e1])) ?_
   refine AllDo.cons 50 rfl (Jd _ rfl rfl (fun γ L a w hH hA=>by have e1:=hH.at d49 rfl (hA ⟨49,.data⟩ (by simp) rfl);have e2:=hH.glob.fix (⟨p2,3,none⟩,J Y t3) (by simp [Jc]);simp [JD,go_sem,e1,e2])) ?_
   refine AllDo.cons 51 rfl (J3 rfl ⟨51,51,[J Y t1,J Y t3]⟩ (by simp [Jc]) rfl (J5 (Jas b off f g0 pa pr po p2 p3 q0 q1 q2 q3 t0 t1 t2 t3 n0 n1 n2 n3 W V) (m:=⟨51,51,[J Y t1,J Y t3]⟩) (by simp [Jc])) (Or.inl rfl) [J Y t1,J Y t3] 3 rfl (fun _=>rfl) (fun γ L a w hH hA=>by have e1:=hH.at d48 rfl (hA ⟨48,.data⟩ (by simp) rfl);have e2:=hH.at d50 rfl (hA ⟨50,.data⟩ (by simp) rfl);simp [JD,go_sem,e1,e2,Jl,Jac,upd_self])) ?_
   refine AllDo.cons 52 rfl (Jd _ rfl rfl (fun γ L a w hH hA=>by have e1:=R3 γ L a w hH;simp [JD,go_sem,e1])) ?_
   refine AllDo.cons 53 rfl (Jd _ rfl rfl (fun γ L a w hH hA=>by have e1:=hH.at d52 rfl (hA ⟨52,.data⟩ (by simp) rfl);have e2:=hH.glob.fix (⟨pa,1,none⟩,J Y q1) (by simp [Jc]);simp [JD,go_sem,e1,e2])) ?_
   refine AllDo.cons 54 rfl (Jd _ rfl rfl (fun γ L a w hH hA=>by have e1:=R3 γ L a w hH;simp [JD,go_sem,e1])) ?_
   refine AllDo.cons 55 rfl (Jd _ rfl rfl (fun γ L a w hH hA=>by have e1:=hH.at d54 rfl (hA ⟨54,.data⟩ (by simp) rfl);have e2:=hH.glob.fix (⟨pa,3,none⟩,J Y q3) (by simp [Jc]);simp [JD,go_sem,e1,e2])) ?_
   refine AllDo.cons 56 rfl (J3 rfl ⟨56,56,[J Y q1,J Y q3]⟩ (by simp [Jc]) rfl (J5 (Jas b off f g0 pa pr po p2 p3 q0 q1 q2 q3 t0 t1 t2 t3 n0 n1 n2 n3 W V) (m:=⟨56,56,[J Y q1,J Y q3]⟩) (by simp [Jc])) (Or.inl rfl) [J Y q1,J Y q3] 3 rfl (fun _=>rfl) (fun γ L a w hH hA=>by have e1:=hH.at d53 rfl (hA ⟨53,.data⟩ (by simp) rfl);have e2:=hH.at d55 rfl (hA ⟨55,.data⟩ (by simp) rfl);simp [JD,go_sem,e1,e2,Jl,Jac,upd_self])) ?_
   refine AllDo.cons 57 rfl (J9 hπ _ ((dot [t1,t3] [q1,q3]).isNone) rfl (by simp [Jc]) (J7 (Jbn b off f g0 pa pr po p2 p3 q0 q1 q2 q3 t0 t1 t2 t3 n0 n1 n2 n3 W V) (by simp [Jc])) rfl (fun γ L a w hH hA g hg hz=>by have e1:=R5 γ L a w hH;have e2:=hH.rowAt d51 rfl (hA ⟨51,.data⟩ (by simp) rfl);have e3:=hH.rowAt d56 rfl (hA ⟨56,.data⟩ (by simp) rfl);exact ⟨114,#[.pointer (some ⟨po,0,none⟩),.slice (some ⟨γ 51,0,none⟩) 2 2,.slice (some ⟨γ 56,0,none⟩) 2 2],by simp [go_sem,e1,e2,e3],(Jau po 0 g [t1,t3] [q1,q3] _ _ 2 2 w hg hz (by simp) (by simp) (Jak [t1,t3] (hH.glob.made ⟨51,51,[J Y t1,J Y t3]⟩ (by simp [Jc]) (hA ⟨51,.data⟩ (by simp) rfl)) (hA ⟨51,.data⟩ (by simp) rfl) rfl) (Jak [q1,q3] (hH.glob.made ⟨56,56,[J Y q1,J Y q3]⟩ (by simp [Jc]) (hA ⟨56,.data⟩ (by simp) rfl)) (hA ⟨56,.data⟩ (by simp) rfl) rfl)).mono (by rintro e W1 ⟨v,g1,rfl,S,Z⟩;exact ⟨by rw [S.out.1],g1,S.out.2,Z.out⟩)⟩)) ?_
   refine AllDo.cons 58 rfl (J9 hπ _ ((sub (4294967296) ((dot [t1,t3] [q1,q3]).getD 0)).isNone) rfl (by simp [Jc]) (J7 (Jbn b off f g0 pa pr po p2 p3 q0 q1 q2 q3 t0 t1 t2 t3 n0 n1 n2 n3 W V) (by simp [Jc])) rfl (fun γ L a w hH hA g hg hz=>by have e1:=R5 γ L a w hH;have e2:=hH.at d57 rfl (hA ⟨57,.data⟩ (by simp) rfl);exact ⟨113,#[.pointer (some ⟨po,0,none⟩),J Y 4294967296,J Y ((dot [t1,t3] [q1,q3]).getD 0)],by simp [go_sem,e1,e2],(Jfn po 0 g (4294967296) ((dot [t1,t3] [q1,q3]).getD 0) w hg hz).mono (by rintro e W1 ⟨v,g1,rfl,S,Z⟩;exact ⟨by rw [S.out.1],g1,S.out.2,Z.out⟩)⟩)) ?_
   refine AllDo.cons 59 rfl (Jd _ rfl rfl (fun γ L a w hH hA=>by have e1:=R6 γ L a w hH;simp [JD,go_sem,e1])) ?_
   refine AllDo.cons 60 rfl (Jd _ rfl rfl (fun γ L a w hH hA=>by have e1:=hH.at d59 rfl (hA ⟨59,.data⟩ (by simp) rfl);have e2:=hH.glob.fix (⟨p2,2,none⟩,J Y t2) (by simp [Jc]);simp [JD,go_sem,e1,e2])) ?_
   refine AllDo.cons 61 rfl (Jd _ rfl rfl (fun γ L a w hH hA=>by have e1:=R6 γ L a w hH;simp [JD,go_sem,e1])) ?_
   refine AllDo.cons 62 rfl (Jd _ rfl rfl (fun γ L a w hH hA=>by have e1:=hH.at d61 rfl (hA ⟨61,.data⟩ (by simp) rfl);have e2:=hH.glob.fix (⟨p2,0,none⟩,J Y t0) (by simp [Jc]);simp [JD,go_sem,e1,e2])) ?_
   refine AllDo.cons 63 rfl (J3 rfl ⟨63,63,[J Y t2,J Y t0]⟩ (by simp [Jc]) rfl (J5 (Jas b off f g0 pa pr po p2 p3 q0 q1 q2 q3 t0 t1 t2 t3 n0 n1 n2 n3 W V) (m:=⟨63,63,[J Y t2,J Y t0]⟩) (by simp [Jc])) (Or.inl rfl) [J Y t2,J Y t0] 3 rfl (fun _=>rfl) (fun γ L a w hH hA=>by have e1:=hH.at d60 rfl (hA ⟨60,.data⟩ (by simp) rfl);have e2:=hH.at d62 rfl (hA ⟨62,.data⟩ (by simp) rfl);simp [JD,go_sem,e1,e2,Jl,Jac,upd_self])) ?_
   refine AllDo.cons 64 rfl (Jd _ rfl rfl (fun γ L a w hH hA=>by have e1:=R3 γ L a w hH;simp [JD,go_sem,e1])) ?_
   refine AllDo.cons 65 rfl (Jd _ rfl rfl (fun γ L a w hH hA=>by have e1:=hH.at d64 rfl (hA ⟨64,.data⟩ (by simp) rfl);have e2:=hH.glob.fix (⟨pa,3,none⟩,J Y q3) (by simp [Jc]);simp [JD,go_sem,e1,e2])) ?_
   refine AllDo.cons 66 rfl (Jd _ rfl rfl (fun γ L a w hH hA=>by have e1:=R7 γ L a w hH;simp [JD,go_sem,e1])) ?_
   refine AllDo.cons 67 rfl (Jd _ rfl rfl (fun γ L a w hH hA=>by have e1:=hH.at d66 rfl (hA ⟨66,.data⟩ (by simp) rfl);have e2:=hH.glob.fix (⟨p3,1,none⟩,J Y n1) (by simp [Jc]);simp [JD,go_sem,e1,e2])) ?_
   refine AllDo.cons 68 rfl (J3 rfl ⟨68,68,[J Y q3,J Y n1]⟩ (by simp [Jc]) rfl (J5 (Jas b off f g0 pa pr po p2 p3 q0 q1 q2 q3 t0 t1 t2 t3 n0 n1 n2 n3 W V) (m:=⟨68,68,[J Y q3,J Y n1]⟩) (by simp [Jc])) (Or.inl rfl) [J Y q3,J Y n1] 3 rfl (fun _=>rfl) (fun γ L a w hH hA=>by have e1:=hH.at d65 rfl (hA ⟨65,.data⟩ (by simp) rfl);have e2:=hH.at d67 rfl (hA ⟨67,.data⟩ (by simp) rfl);simp [JD,go_sem,e1,e2,Jl,Jac,upd_self])) ?_
   refine AllDo.cons 69 rfl (J9 hπ _ ((dot [t2,t0] [q3,n1]).isNone) rfl (by simp [Jc]) (J7 (Jbn b off f g0 pa pr po p2 p3 q0 q1 q2 q3 t0 t1 t2 t3 n0 n1 n2 n3 W V) (by simp [Jc])) rfl (fun γ L a w hH hA g hg hz=>by have e1:=R5 γ L a w hH;have e2:=hH.rowAt d63 rfl (hA ⟨63,.data⟩ (by simp) rfl);have e3:=hH.rowAt d68 rfl (hA ⟨68,.data⟩ (by simp) rfl);exact ⟨114,#[.pointer (some ⟨po,0,none⟩),.slice (some ⟨γ 63,0,none⟩) 2 2,.slice (some ⟨γ 68,0,none⟩) 2 2],by simp [go_sem,e1,e2,e3],(Jau po 0 g [t2,t0] [q3,n1] _ _ 2 2 w hg hz (by simp) (by simp) (Jak [t2,t0] (hH.glob.made ⟨63,63,[J Y t2,J Y t0]⟩ (by simp [Jc]) (hA ⟨63,.data⟩ (by simp) rfl)) (hA ⟨63,.data⟩ (by simp) rfl) rfl) (Jak [q3,n1] (hH.glob.made ⟨68,68,[J Y q3,J Y n1]⟩ (by simp [Jc]) (hA ⟨68,.data⟩ (by simp) rfl)) (hA ⟨68,.data⟩ (by simp) rfl) rfl)).mono (by rintro e W1 ⟨v,g1,rfl,S,Z⟩;exact ⟨by rw [S.out.1],g1,S.out.2,Z.out⟩)⟩)) ?_
   refine AllDo.cons 70 rfl (Jd _ rfl rfl (fun γ L a w hH hA=>by have e1:=hH.at d46 rfl (hA ⟨46,.data⟩ (by simp) rfl);have e2:=hH.at d58 rfl (hA ⟨58,.data⟩ (by simp) rfl);have e3:=hH.at d69 rfl (hA ⟨69,.data⟩ (by simp) rfl);simp [JD,go_sem,e1,e2,e3])) ?_
   refine AllDo.cons 71 rfl (Jd _ rfl rfl (fun γ L a w hH hA=>by have e1:=R6 γ L a w hH;simp [JD,go_sem,e1])) ?_
   refine AllDo.cons 72 rfl (Jd _ rfl rfl (fun γ L a w hH hA=>by have e1:=hH.at d71 rfl (hA ⟨71,.data⟩ (by simp) rfl);have e2:=hH.glob.fix (⟨p2,1,none⟩,J Y t1) (by simp [Jc]);simp [JD,go_sem,e1,e2])) ?_
   refine AllDo.cons 73 rfl (Jd _ rfl rfl (fun γ L a w hH hA=>by have e1:=R6 γ L a w hH;simp [JD,go_sem,e1])) ?_
   refine AllDo.cons 74 rfl (Jd _ rfl rfl (fun γ L a w hH hA=>by have e1:=hH.at d73 rfl (hA ⟨73,.data⟩ (by simp) rfl);have e2:=hH.glob.fix (⟨p2,0,none⟩,J Y t0) (by simp [Jc]);simp [JD,go_sem,e1,e2])) ?_
   refine AllDo.cons 75 rfl (J3 rfl ⟨75,75,[J Y t1,J Y t0]⟩ (by simp [Jc]) rfl (J5 (Jas b off f g0 pa pr po p2 p3 q0 q1 q2 q3 t0 t1 t2 t3 n0 n1 n2 n3 W V) (m:=⟨75,75,[J Y t1,J Y t0]⟩) (by simp [Jc])) (Or.inl rfl) [J Y t1,J Y t0] 3 rfl (fun _=>rfl) (fun γ L a w hH hA=>by have e1:=hH.at d72 rfl (hA ⟨72,.data⟩ (by simp) rfl);have e2:=hH.at d74 rfl (hA ⟨74,.data⟩ (by simp) rfl);simp [JD,go_sem,e1,e2,Jl,Jac,upd_self])) ?_
   refine AllDo.cons 76 rfl (Jd _ rfl rfl (fun γ L a w hH hA=>by have e1:=R3 γ L a w hH;simp [JD,go_sem,e1])) ?_
   refine AllDo.cons 77 rfl (Jd _ rfl rfl (fun γ L a w hH hA=>by have e1:=hH.at d76 rfl (hA ⟨76,.data⟩ (by simp) rfl);have e2:=hH.glob.fix (⟨pa,3,none⟩,J Y q3) (by simp [Jc]);simp [JD,go_sem,e1,e2])) ?_
   refine AllDo.cons 78 rfl (Jd _ rfl rfl (fun γ L a w hH hA=>by have e1:=R7 γ L a w hH;simp [JD,go_sem,e1])) ?_
   refine AllDo.cons 79 rfl (Jd _ rfl rfl (fun γ L a w hH hA=>by have e1:=hH.at d78 rfl (hA ⟨78,.data⟩ (by simp) rfl);have e2:=hH.glob.fix (⟨p3,2,none⟩,J Y n2) (by simp [Jc]);simp [JD,go_sem,e1,e2])) ?_
   refine AllDo.cons 80 rfl (J3 rfl ⟨80,80,[J Y q3,J Y n2]⟩ (by simp [Jc]) rfl (J5 (Jas b off f g0 pa pr po p2 p3 q0 q1 q2 q3 t0 t1 t2 t3 n0 n1 n2 n3 W V) (m:=⟨80,80,[J Y q3,J Y n2]⟩) (by simp [Jc])) (Or.inl rfl) [J Y q3,J Y n2] 3 rfl (fun _=>rfl) (fun γ L a w hH hA=>by have e1:=hH.at d77 rfl (hA ⟨77,.data⟩ (by simp) rfl);have e2:=hH.at d79 rfl (hA ⟨79,.data⟩ (by simp) rfl);simp [JD,go_sem,e1,e2,Jl,Jac,upd_self])) ?_
   refine AllDo.cons 81 rfl (J9 hπ _ ((dot [t1,t0] [q3,n2]).isNone) rfl (by simp [Jc]) (J7 (Jbn b off f g0 pa pr po p2 p3 q0 q1 q2 q3 t0 t1 t2 t3 n0 n1 n2 n3 W V) (by simp [Jc])) rfl (fun γ L a w hH hA g hg hz=>by have e1:=R5 γ L a w hH;have e2:=hH.rowAt d75 rfl (hA ⟨75,.data⟩ (by simp) rfl);have e3:=hH.rowAt d80 rfl (hA ⟨80,.data⟩ (by simp) rfl);exact ⟨114,#[.pointer (some ⟨po,0,none⟩),.slice (some ⟨γ 75,0,none⟩) 2 2,.slice (some ⟨γ 80,0,none⟩) 2 2],by simp [go_sem,e1,e2,e3],(Jau po 0 g [t1,t0] [q3,n2] _ _ 2 2 w hg hz (by simp) (by simp) (Jak [t1,t0] (hH.glob.made ⟨75,75,[J Y t1,J Y t0]⟩ (by simp [Jc]) (hA ⟨75,.data⟩ (by simp) rfl)) (hA ⟨75,.data⟩ (by simp) rfl) rfl) (Jak [q3,n2] (hH.glob.made ⟨80,80,[J Y q3,J Y n2]⟩ (by simp [Jc]) (hA ⟨80,.data⟩ (by simp) rfl)) (hA ⟨80,.data⟩ (by simp) rfl) rfl)).mono (by rintro e W1 ⟨v,g1,rfl,S,Z⟩;exact ⟨by rw [S.out.1],g1,S.out.2,Z.out⟩)⟩)) ?_
   refine AllDo.cons 82 rfl (Jd _ rfl rfl (fun γ L a w hH hA=>by have e1:=R6 γ L a w hH;simp [JD,go_sem,e1])) ?_
   refine AllDo.cons 83 rfl (Jd _ rfl rfl (fun γ L a w hH hA=>by have e1:=hH.at d82 rfl (hA ⟨82,.data⟩ (by simp) rfl);have e2:=hH.glob.fix (⟨p2,2,none⟩,J Y t2) (by simp [Jc]);simp [JD,go_sem,e1,e2])) ?_
   refine AllDo.cons 84 rfl (Jd _ rfl rfl (fun γ L a w hH hA=>by have e1:=R6 γ L a w hH;simp [JD,go_sem,e1])) ?_
   refine AllDo.cons 85 rfl (Jd _ rfl rfl (fun γ L a w hH hA=>by have e1:=hH.at d84 rfl (hA ⟨84,.data⟩ (by simp) rfl);have e2:=hH.glob.fix (⟨p2,0,none⟩,J Y t0) (by simp [Jc]);simp [JD,go_sem,e1,e2])) ?_
   refine AllDo.cons 86 rfl (J3 rfl ⟨86,86,[J Y t2,J Y t0]⟩ (by simp [Jc]) rfl (J5 (Jas b off f g0 pa pr po p2 p3 q0 q1 q2 q3 t0 t1 t2 t3 n0 n1 n2 n3 W V) (m:=⟨86,86,[J Y t2,J Y t0]⟩) (by simp [Jc])) (Or.inl rfl) [J Y t2,J Y t0] 3 rfl (fun _=>rfl) (fun γ L a w hH hA=>by have e1:=hH.at d83 rfl (hA ⟨83,.data⟩ (by simp) rfl);have e2:=hH.at d85 rfl (hA ⟨85,.data⟩ (by simp) rfl);simp [JD,go_sem,e1,e2,Jl,Jac,upd_self])) ?_
   refine AllDo.cons 87 rfl (Jd _ rfl rfl (fun γ L a w hH hA=>by have e1:=R3 γ L a w hH;simp [JD,go_sem,e1])) ?_
   refine AllDo.cons 88 rfl (Jd _ rfl rfl (fun γ L a w hH hA=>by have e1:=hH.at d87 rfl (hA ⟨87,.data⟩ (by simp) rfl);have e2:=hH.glob.fix (⟨pa,3,none⟩,J Y q3) (by simp [Jc]);simp [JD,go_sem,e1,e2])) ?_
   refine AllDo.cons 89 rfl (Jd _ rfl rfl (fun γ L a w hH hA=>by have e1:=R3 γ L a w hH;simp [JD,go_sem,e1])) ?_
   refine AllDo.cons 90 rfl (Jd _ rfl rfl (fun γ L a w hH hA=>by have e1:=hH.at d89 rfl (hA ⟨89,.data⟩ (by simp) rfl);have e2:=hH.glob.fix (⟨pa,1,none⟩,J Y q1) (by simp [Jc]);simp [JD,go_sem,e1,e2])) ?_
   refine AllDo.cons 91 rfl (J3 rfl ⟨91,91,[J Y q3,J Y q1]⟩ (by simp [Jc]) rfl (J5 (Jas b off f g0 pa pr po p2 p3 q0 q1 q2 q3 t0 t1 t2 t3 n0 n1 n2 n3 W V) (m:=⟨91,91,[J Y q3,J Y q1]⟩) (by simp [Jc])) (Or.inl rfl) [J Y q3,J Y q1] 3 rfl (fun _=>rfl) (fun γ L a w hH hA=>by have e1:=hH.at d88 rfl (hA ⟨88,.data⟩ (by simp) rfl);have e2:=hH.at d90 rfl (hA ⟨90,.data⟩ (by simp) rfl);simp [JD,go_sem,e1,e2,Jl,Jac,upd_self])) ?_
   refine AllDo.cons 92 rfl (J9 hπ _ ((dot [t2,t0] [q3,q1]).isNone) rfl (by simp [Jc]) (J7 (Jbn b off f g0 pa pr po p2 p3 q0 q1 q2 q3 t0 t1 t2 t3 n0 n1 n2 n3 W V) (by simp [Jc])) rfl (fun γ L a w hH hA g hg hz=>by have e1:=R5 γ L a w hH;have e2:=hH.rowAt d86 rfl (hA ⟨86,.data⟩ (by simp) rfl);have e3:=hH.rowAt d91 rfl (hA ⟨91,.data⟩ (by simp) rfl);exact ⟨114,#[.pointer (some ⟨po,0,none⟩),.slice (some ⟨γ 86,0,none⟩) 2 2,.slice (some ⟨γ 91,0,none⟩) 2 2],by simp [go_sem,e1,e2,e3],(Jau po 0 g [t2,t0] [q3,q1] _ _ 2 2 w hg hz (by simp) (by simp) (Jak [t2,t0] (hH.glob.made ⟨86,86,[J Y t2,J Y t0]⟩ (by simp [Jc]) (hA ⟨86,.data⟩ (by simp) rfl)) (hA ⟨86,.data⟩ (by simp) rfl) rfl) (Jak [q3,q1] (hH.glob.made ⟨91,91,[J Y q3,J Y q1]⟩ (by simp [Jc]) (hA ⟨91,.data⟩ (by simp) rfl)) (hA ⟨91,.data⟩ (by simp) rfl) rfl)).mono (by rintro e W1 ⟨v,g1,rfl,S,Z⟩;exact ⟨by rw [S.out.1],g1,S.out.2,Z.out⟩)⟩)) ?_
   refine AllDo.cons 93 rfl (Jd _ rfl rfl (fun γ L a w hH hA=>by have e1:=R6 γ L a w hH;simp [JD,go_sem,e1])) ?_
   refine AllDo.cons 94 rfl (Jd _ rfl rfl (fun γ L a w hH hA=>by have e1:=hH.at d93 rfl (hA ⟨93,.data⟩ (by simp) rfl);have e2:=hH.glob.fix (⟨p2,1,none⟩,J Y t1) (by simp [Jc]);simp [JD,go_sem,e1,e2])) ?_
   refine AllDo.cons 95 rfl (Jd _ rfl rfl (fun γ L a w hH hA=>by have e1:=R6 γ L a w hH;simp [JD,go_sem,e1])) ?_
   refine AllDo.cons 96 rfl (Jd _ rfl rfl (fun γ L a w hH hA=>by have e1:=hH.at d95 rfl (hA ⟨95,.data⟩ (by simp) rfl);have e2:=hH.glob.fix (⟨p2,2,none⟩,J Y t2) (by simp [Jc]);simp [JD,go_sem,e1,e2])) ?_
   refine AllDo.cons 97 rfl (J3 rfl ⟨97,97,[J Y t1,J Y t2]⟩ (by simp [Jc]) rfl (J5 (Jas b off f g0 pa pr po p2 p3 q0 q1 q2 q3 t0 t1 t2 t3 n0 n1 n2 n3 W V) (m:=⟨97,97,[J Y t1,J Y t2]⟩) (by simp [Jc])) (Or.inl rfl) [J Y t1,J Y t2] 3 rfl (fun _=>rfl) (fun γ L a w hH hA=>by have e1:=hH.at d94 rfl (hA ⟨94,.data⟩ (by simp) rfl);have e2:=hH.at d96 rfl (hA ⟨96,.data⟩ (by simp) rfl);simp [JD,go_sem,e1,e2,Jl,Jac,upd_self])) ?_
   refine AllDo.cons 98 rfl (Jd _ rfl rfl (fun γ L a w hH hA=>by have e1:=R3 γ L a w hH;simp [JD,go_sem,e1])) ?_
   refine AllDo.cons 99 rfl (Jd _ rfl rfl (fun γ L a w hH hA=>by have e1:=hH.at d98 rfl (hA ⟨98,.data⟩ (by simp) rfl);have e2:=hH.glob.fix (⟨pa,1,none⟩,J Y q1) (by simp [Jc]);simp [JD,go_sem,e1,e2])) ?_
   refine AllDo.cons 100 rfl (Jd _ rfl rfl (fun γ L a w hH hA=>by have e1:=R3 γ L a w hH;simp [JD,go_sem,e1])) ?_
   refine AllDo.cons 101 rfl (Jd _ rfl rfl (fun γ L a w hH hA=>by have e1:=hH.at d100 rfl (hA ⟨100,.data⟩ (by simp) rfl);have e2:=hH.glob.fix (⟨pa,2,none⟩,J Y q2) (by simp [Jc]);simp [JD,go_sem,e1,e2])) ?_
   refine AllDo.cons 102 rfl (J3 rfl ⟨102,102,[J Y q1,J Y q2]⟩ (by simp [Jc]) rfl (J5 (Jas b off f g0 pa pr po p2 p3 q0 q1 q2 q3 t0 t1 t2 t3 n0 n1 n2 n3 W V) (m:=⟨102,102,[J Y q1,J Y q2]⟩) (by simp [Jc])) (Or.inl rfl) [J Y q1,J Y q2] 3 rfl (fun _=>rfl) (fun γ L a w hH hA=>by have e1:=hH.at d99 rfl (hA ⟨99,.data⟩ (by simp) rfl);have e2:=hH.at d101 rfl (hA ⟨101,.data⟩ (by simp) rfl);simp [JD,go_sem,e1,e2,Jl,Jac,upd_self])) ?_
   refine AllDo.cons 103 rfl (J9 hπ _ ((dot [t1,t2] [q1,q2]).isNone) rfl (by simp [Jc]) (J7 (Jbn b off f g0 pa pr po p2 p3 q0 q1 q2 q3 t0 t1 t2 t3 n0 n1 n2 n3 W V) (by simp [Jc])) rfl (fun γ L a w hH hA g hg hz=>by have e1:=R5 γ L a w hH;have e2:=hH.rowAt d97 rfl (hA ⟨97,.data⟩ (by simp) rfl);have e3:=hH.rowAt d102 rfl (hA ⟨102,.data⟩ (by simp) rfl);exact ⟨114,#[.pointer (some ⟨po,0,none⟩),.slice (some ⟨γ 97,0,none⟩) 2 2,.slice (some ⟨γ 102,0,none⟩) 2 2],by simp [go_sem,e1,e2,e3],(Jau po 0 g [t1,t2] [q1,q2] _ _ 2 2 w hg hz (by simp) (by simp) (Jak [t1,t2] (hH.glob.made ⟨97,97,[J Y t1,J Y t2]⟩ (by simp [Jc]) (hA ⟨97,.data⟩ (by simp) rfl)) (hA ⟨97,.data⟩ (by simp) rfl) rfl) (Jak [q1,q2] (hH.glob.made ⟨102,102,[J Y q1,J Y q2]⟩ (by simp [Jc]) (hA ⟨102,.data⟩ (by simp) rfl)) (hA ⟨102,.data⟩ (by simp) rfl) rfl)).mono (by rintro e W1 ⟨v,g1,rfl,S,Z⟩;exact ⟨by rw [S.out.1],g1,S.out.2,Z.out⟩)⟩)) ?_
   refine AllDo.cons 104 rfl (J9 hπ _ ((sub (4294967296) ((dot [t1,t2] [q1,q2]).getD 0)).isNone) rfl (by simp [Jc]) (J7 (Jbn b off f g0 pa pr po p2 p3 q0 q1 q2 q3 t0 t1 t2 t3 n0 n1 n2 n3 W V) (by simp [Jc])) rfl (fun γ L a w hH hA g hg hz=>by have e1:=R5 γ L a w hH;have e2:=hH.at d103 rfl (hA ⟨103,.data⟩ (by simp) rfl);exact ⟨113,#[.pointer (some ⟨po,0,none⟩),J Y 4294967296,J Y ((dot [t1,t2] [q1,q2]).getD 0)],by simp [go_sem,e1,e2],(Jfn po 0 g (4294967296) ((dot [t1,t2] [q1,q2]).getD 0) w hg hz).mono (by rintro e W1 ⟨v,g1,rfl,S,Z⟩;exact ⟨by rw [S.out.1],g1,S.out.2,Z.out⟩)⟩)) ?_
   refine AllDo.cons 105 rfl (Jd _ rfl rfl (fun γ L a w hH hA=>by have e1:=hH.at d81 rfl (hA ⟨81,.data⟩ (by simp) rfl);have e2:=hH.at d92 rfl (hA ⟨92,.data⟩ (by simp) rfl);have e3:=hH.at d104 rfl (hA ⟨104,.data⟩ (by simp) rfl);simp [JD,go_sem,e1,e2,e3])) ?_
   refine AllDo.cons 106 rfl (Jd _ rfl rfl (fun γ L a w hH hA=>by have e1:=hH.at d35 rfl (hA ⟨35,.data⟩ (by simp) rfl);have e2:=hH.at d70 rfl (hA ⟨70,.data⟩ (by simp) rfl);have e3:=hH.at d105 rfl (hA ⟨105,.data⟩ (by simp) rfl);simp [JD,go_sem,e1,e2,e3])) ?_
   refine AllDo.cons 107 rfl (Jet hπ _ rfl (fun e=>by have e2:po = b:=congrArg Addr.block e;omega) (by simp [Jc]) (by simp [Jc]) (by simp [Jc]) rfl (fun L hcl haft c hc=>by have L106:L 106 = true:=haft ⟨106,.data⟩ (by simp) rfl;have L35:L 35 = true:=hcl 106 35 A_106_35 L106;have L70:L 70 = true:=hcl 106 70 A_106_70 L106;have L105:L 105 = true:=hcl 106 105 A_106_105 L106;have L12:L 12 = true:=hcl 35 12 A_35_12 L35;have L23:L 23 = true:=hcl 35 23 A_35_23 L35;have L34:L 34 = true:=hcl 35 34 A_35_34 L35;have L46:L 46 = true:=hcl 70 46 A_70_46 L70;have L58:L 58 = true:=hcl 70 58 A_70_58 L70;have L69:L 69 = true:=hcl 70 69 A_70_69 L70;have L81:L 81 = true:=hcl 105 81 A_105_81 L105;have L92:L 92 = true:=hcl 105 92 A_105_92 L105;have L104:L 104 = true:=hcl 105 104 A_105_104 L105;have L11:L 11 = true:=hcl 12 11 A_12_11 L12;have L57:L 57 = true:=hcl 58 57 A_58_57 L58;have L103:L 103 = true:=hcl 104 103 A_104_103 L104;simp only [Jc,List.mem_cons,List.not_mem_nil,or_false] at hc;rcases hc with rfl | rfl | rfl | rfl | rfl | rfl | rfl | rfl | rfl | rfl | rfl | rfl;all_goals assumption) (fun γ L a w hH hA hb hp hpf=>by have e1:=hH.at d0 rfl (hA ⟨0,.data⟩ (by simp) rfl);have e2:=R5 γ L a w hH;have e3:=hH.at d106 rfl (hA ⟨106,.data⟩ (by simp) rfl);exact ⟨136,#[.pointer (some ⟨b,off,none⟩),.pointer (some ⟨po,0,none⟩),.agg #[J Y ((sub (4294967296) ((dot [t2,t3] [q2,q3]).getD 0)).getD 0),J Y ((dot [t1,t0] [q2,n3]).getD 0),J Y ((dot [t1,t0] [q3,q2]).getD 0),J Y ((dot [t1,t0] [q2,q3]).getD 0),J Y ((sub (4294967296) ((dot [t1,t3] [q1,q3]).getD 0)).getD 0),J Y ((dot [t2,t0] [q3,n1]).getD 0),J Y ((dot [t1,t0] [q3,n2]).getD 0),J Y ((dot [t2,t0] [q3,q1]).getD 0),J Y ((sub (4294967296) ((dot [t1,t2] [q1,q2]).getD 0)).getD 0)]],by simp [go_sem,e1,e2,e3],(Jo8 b off po f (Js b off f g0 pa pr po p2 p3 q0 q1 q2 q3 t0 t1 t2 t3 n0 n1 n2 n3 W V) ((sub (4294967296) ((dot [t2,t3] [q2,q3]).getD 0)).getD 0) ((dot [t1,t0] [q2,n3]).getD 0) ((dot [t1,t0] [q3,q2]).getD 0) ((dot [t1,t0] [q2,q3]).getD 0) ((sub (4294967296) ((dot [t1,t3] [q1,q3]).getD 0)).getD 0) ((dot [t2,t0] [q3,n1]).getD 0) ((dot [t1,t0] [q3,n2]).getD 0) ((dot [t2,t0] [q3,q1]).getD 0) ((sub (4294967296) ((dot [t1,t2] [q1,q2]).getD 0)).getD 0) w hp hpf hb).mono (by rintro e W1 ⟨rfl,Z⟩;exact ⟨rfl,Z.out⟩)⟩)) ?_
   refine AllDo.cons 108 rfl (does_store hπ (by simp [Jc]) rfl rfl (by simp [Jc]) (by simp [Jc]) (by simp [Jc]) (fun γ L a w hH hA cs hl hh=>by have e1:=R4 γ L a w hH;have e2:=hH.at d107 rfl (hA ⟨107,.data⟩ (by simp) rfl);obtain ⟨u0,u1,u2,u3,u4,u5,u6,u7,u8,rfl⟩:=Js8 hl;have zz0:w.cell? ⟨pr,0,none⟩ = some u0/\w.frozen? ⟨pr,0,none⟩ = false:=hh 0 u0 rfl;have zz1:w.cell? ⟨pr,1,none⟩ = some u1/\w.frozen? ⟨pr,1,none⟩ = false:=hh 1 u1 rfl;have zz2:w.cell? ⟨pr,2,none⟩ = some u2/\w.frozen? ⟨pr,2,none⟩ = false:=hh 2 u2 rfl;have zz3:w.cell? ⟨pr,3,none⟩ = some u3/\w.frozen? ⟨pr,3,none⟩ = false:=hh 3 u3 rfl;have zz4:w.cell? ⟨pr,4,none⟩ = some u4/\w.frozen? ⟨pr,4,none⟩ = false:=hh 4 u4 rfl;have zz5:w.cell? ⟨pr,5,none⟩ = some u5/\w.frozen? ⟨pr,5,none⟩ = false:=hh 5 u5 rfl;have zz6:w.cell? ⟨pr,6,none⟩ = some u6/\w.frozen? ⟨pr,6,none⟩ = false:=hh 6 u6 rfl;have zz7:w.cell? ⟨pr,7,none⟩ = some u7/\w.frozen? ⟨pr,7,none⟩ = false:=hh 7 u7 rfl;have zz8:w.cell? ⟨pr,8,none⟩ = some u8/\w.frozen? ⟨pr,8,none⟩ = false:=hh 8 u8 rfl;exact ⟨(((((((((w.setCell ⟨pr,0,none⟩ (J Y (cond (Js b off f g0 pa pr po p2 p3 q0 q1 q2 q3 t0 t1 t2 t3 n0 n1 n2 n3 W V) 0 ((sub (4294967296) ((dot [t2,t3] [q2,q3]).getD 0)).getD 0)))).setCell ⟨pr,1,none⟩ (J Y (cond (Js b off f g0 pa pr po p2 p3 q0 q1 q2 q3 t0 t1 t2 t3 n0 n1 n2 n3 W V) 0 ((dot [t1,t0] [q2,n3]).getD 0)))).setCell ⟨pr,2,none⟩ (J Y (cond (Js b off f g0 pa pr po p2 p3 q0 q1 q2 q3 t0 t1 t2 t3 n0 n1 n2 n3 W V) 0 ((dot [t1,t0] [q3,q2]).getD 0)))).setCell ⟨pr,3,none⟩ (J Y (cond (Js b off f g0 pa pr po p2 p3 q0 q1 q2 q3 t0 t1 t2 t3 n0 n1 n2 n3 W V) 0 ((dot [t1,t0] [q2,q3]).getD 0)))).setCell ⟨pr,4,none⟩ (J Y (cond (Js b off f g0 pa pr po p2 p3 q0 q1 q2 q3 t0 t1 t2 t3 n0 n1 n2 n3 W V) 0 ((sub (4294967296) ((dot [t1,t3] [q1,q3]).getD 0)).getD 0)))).setCell ⟨pr,5,none⟩ (J Y (cond (Js b off f g0 pa pr po p2 p3 q0 q1 q2 q3 t0 t1 t2 t3 n0 n1 n2 n3 W V) 0 ((dot [t2,t0] [q3,n1]).getD 0)))).setCell ⟨pr,6,none⟩ (J Y (cond (Js b off f g0 pa pr po p2 p3 q0 q1 q2 q3 t0 t1 t2 t3 n0 n1 n2 n3 W V) 0 ((dot [t1,t0] [q3,n2]).getD 0)))).setCell ⟨pr,7,none⟩ (J Y (cond (Js b off f g0 pa pr po p2 p3 q0 q1 q2 q3 t0 t1 t2 t3 n0 n1 n2 n3 W V) 0 ((dot [t2,t0] [q3,q1]).getD 0)))).setCell ⟨pr,8,none⟩ (J Y (cond (Js b off f g0 pa pr po p2 p3 q0 q1 q2 q3 t0 t1 t2 t3 n0 n1 n2 n3 W V) 0 ((sub (4294967296) ((dot [t1,t2] [q1,q2]).getD 0)).getD 0)))),by simp [JD,go_sem,e1,e2,zz0.1,zz0.2,zz1.1,zz1.2,zz2.1,zz2.2,zz3.1,zz3.2,zz4.1,zz4.2,zz5.1,zz5.2,zz6.1,zz6.2,zz7.1,zz7.2,zz8.1,zz8.2],((((((((((Only.refl _ _).set 0 _).set 1 _).set 2 _).set 3 _).set 4 _).set 5 _).set 6 _).set 7 _).set 8 _),Jt0 hh⟩)) ?_
   exact AllDo.nil
  ·intro γ a9 w9 L hL hLo hH
   have hL':∀ j,j < 109->L j = true:=fun j hj=>hL j hj
   have hG:=hH.glob
   have hdf9:a9.defers = []:=hH.defers.trans hdf
   have hs9:a9.tmps[4]? = some (.pointer (some ⟨pr,0,none⟩)):=(hH.rest 4 (dst_free (by kernel_rfl))).trans hs4
   obtain ⟨cs,c1,c2,c3⟩:=hG.res
   obtain rfl:=c3 (hL' 108 (by omega))
   have ho2:=hG.outer.resolve_left (fun e=>by have e2:po = b:=congrArg Addr.block e;omega)
   have hA:Hid (After ⟨b,off,none⟩ (f || Js b off f g0 pa pr po p2 p3 q0 q1 q2 q3 t0 t1 t2 t3 n0 n1 n2 n3 W V) W w9):=by
    have e:=ho2.1
    rw [show (Jc b off f g0 pa pr po p2 p3 q0 q1 q2 q3 t0 t1 t2 t3 n0 n1 n2 n3 W V).tl = 107 from rfl,hL' 107 (by omega),Bool.true_and] at e
    exact hG.leaves.done e ho2.2
   have r0:w9.cell? ⟨pr,0,none⟩ = some (J Y (cond (Js b off f g0 pa pr po p2 p3 q0 q1 q2 q3 t0 t1 t2 t3 n0 n1 n2 n3 W V) 0 ((sub (4294967296) ((dot [t2,t3] [q2,q3]).getD 0)).getD 0))):=(c2 0 _ rfl).1
   have r1:w9.cell? ⟨pr,1,none⟩ = some (J Y (cond (Js b off f g0 pa pr po p2 p3 q0 q1 q2 q3 t0 t1 t2 t3 n0 n1 n2 n3 W V) 0 ((dot [t1,t0] [q2,n3]).getD 0))):=(c2 1 _ rfl).1
   have r2:w9.cell? ⟨pr,2,none⟩ = some (J Y (cond (Js b off f g0 pa pr po p2 p3 q0 q1 q2 q3 t0 t1 t2 t3 n0 n1 n2 n3 W V) 0 ((dot [t1,t0] [q3,q2]).getD 0))):=(c2 2 _ rfl).1
   have r3:w9.cell? ⟨pr,3,none⟩ = some (J Y (cond (Js b off f g0 pa pr po p2 p3 q0 q1 q2 q3 t0 t1 t2 t3 n0 n1 n2 n3 W V) 0 ((dot [t1,t0] [q2,q3]).getD 0))):=(c2 3 _ rfl).1
   have r4:w9.cell? ⟨pr,4,none⟩ = some (J Y (cond (Js b off f g0 pa pr po p2 p3 q0 q1 q2 q3 t0 t1 t2 t3 n0 n1 n2 n3 W V) 0 ((sub (4294967296) ((dot [t1,t3] [q1,q3]).getD 0)).getD 0))):=(c2 4 _ rfl).1
   have r5:w9.cell? ⟨pr,5,none⟩ = some (J Y (cond (Js b off f g0 pa pr po p2 p3 q0 q1 q2 q3 t0 t1 t2 t3 n0 n1 n2 n3 W V) 0 ((dot [t2,t0] [q3,n1]).getD 0))):=(c2 5 _ rfl).1
   have r6:w9.cell? ⟨pr,6,none⟩ = some (J Y (cond (Js b off f g0 pa pr po p2 p3 q0 q1 q2 q3 t0 t1 t2 t3 n0 n1 n2 n3 W V) 0 ((dot [t1,t0] [q3,n2]).getD 0))):=(c2 6 _ rfl).1
   have r7:w9.cell? ⟨pr,7,none⟩ = some (J Y (cond (Js b off f g0 pa pr po p2 p3 q0 q1 q2 q3 t0 t1 t2 t3 n0 n1 n2 n3 W V) 0 ((dot [t2,t0] [q3,q1]).getD 0))):=(c2 7 _ rfl).1
   have r8:w9.cell? ⟨pr,8,none⟩ = some (J Y (cond (Js b off f g0 pa pr po p2 p3 q0 q1 q2 q3 t0 t1 t2 t3 n0 n1 n2 n3 W V) 0 ((sub (4294967296) ((dot [t1,t2] [q1,q2]).getD 0)).getD 0))):=(c2 8 _ rfl).1
   have HB:Js b off f g0 pa pr po p2 p3 q0 q1 q2 q3 t0 t1 t2 t3 n0 n1 n2 n3 W V = Jz q0 q1 q2 q3:=by rw [HG.out];simp only [HT0.out,HT1.out,HT2.out,HT3.out,HN0.out,HN1.out,HN2.out,HN3.out];simp [Js,Jz]
   rw [HB] at hA r0 r1 r2 r3 r4 r5 r6 r7 r8
   clear hL hLo hL' hH hG c1 c2 c3 ho2 hπ HB
   go_wp2
   refine bodyPost_ret (by simp [results,Tryz.results94,go_sem,hs9,r0,r1,r2,r3,r4,r5,r6,r7,r8];try rfl) hdf9 ?_
   refine ⟨?_,hA⟩
   simp only [HT0.out,HT1.out,HT2.out,HT3.out,HN1.out,HN2.out,HN3.out,Jfx,Jft,Jfp,Jfm,Jfy,Jfl,Jfw,Jf4,Jf5]
end
end Go.Proofs.YteebbpioffdncaaGreat
