/- Package pose's frame: points that are turned and moved. -/
import Derived.Test.YteebbpioffdncaaGreatEBBack0
import Derived.Test.YteebbpioffdncaaGreatEBBack2
import Derived.Test.YteebbpioffdncaaGreatEBBack6
import Derived.Test.YteebbpioffdncaaGreatEBBack7
import Derived.Laws.OwnMore
import Derived.Maps.AppendAt
import Derived.Test.YteebbpioffdncaaGreatEBBack5
import Derived.Test.YteebbpioffdncaaGreatEBBack4
set_option maxHeartbeats 4000000
set_option linter.unusedVariables false
namespace Go.Proofs.YteebbpioffdncaaGreat
open Go.World renaming block_lt_of_cell? -> JB
open Go renaming execOp -> JD
open Tryz
open Go.Value renaming int -> J
open Go.IntKind renaming i64 -> Y
section
open Go.RowKit Go.Shelf
structure M9 where
 a0:Int
 a1:Int
 a2:Int
 a3:Int
 a4:Int
 a5:Int
 a6:Int
 a7:Int
 a8:Int
def M9.v (m:M9):Value:=.agg #[J Y m.a0,J Y m.a1,J Y m.a2,J Y m.a3,J Y m.a4,J Y m.a5,J Y m.a6,J Y m.a7,J Y m.a8]
def Jt4 (a b c:Option Int):Option Pt:=match a,b,c with
 | some x,some y,some z=>some ⟨x,y,z⟩
 | _,_,_=>none
def M9.turn (m:M9) (x:Pt):Option Pt:=Jt4 (Fx.dot [m.a0,m.a1,m.a2] [x.x,x.y,x.z]) (Fx.dot [m.a3,m.a4,m.a5] [x.x,x.y,x.z]) (Fx.dot [m.a6,m.a7,m.a8] [x.x,x.y,x.z])
def Pt.addO (x y:Pt):Option Pt:=Jt4 (Fx.add x.x y.x) (Fx.add x.y y.y) (Fx.add x.z y.z)
def Pt.times (p:Pt) (n:Int):Pt:=⟨IntKind.i64.wrap (p.x * n),IntKind.i64.wrap (p.y * n),IntKind.i64.wrap (p.z * n)⟩
theorem Cells.after {W W':World} {b:Nat} {u:Value} {vs:List Value} {g:Bool} (h:Cells W b (u :: vs)) (A:After ⟨b,0,none⟩ g W W'):Cells W' b (.bool g :: vs):=by
 intro i v e
 have hb:b < W.heap.size:=JB _ _ (h 0 u rfl).1
 cases i with
 | zero=>simp at e;subst e;exact ⟨A.cell,A.frozen⟩
 | succ i =>
  obtain ⟨h1,h2⟩:=h (i + 1) v (by simpa using e)
  obtain ⟨a1,a2⟩:=A.beside hb (i + 1) (by simp)
  exact ⟨a1.trans h1,a2.trans h2⟩
theorem Cells.beside {W W':World} {b b':Nat} {vs:List Value} {g:Bool} (h:Cells W b vs) (A:After ⟨b',0,none⟩ g W W') (hne:b ≠ b'):Cells W' b vs:=fun i v e =>
 ⟨A.cellOf (h i v e).1 hne,A.frozenOf (h i v e).1 (h i v e).2 hne⟩
theorem RV.Pend.after {W0:World} {T i j:Nat} {fin:Array Value} {γ:Nat->Value} {L:Nat->Bool} {w w':World} {b:Nat} {g:Bool} (h:RV.Pend W0 T i j fin γ L w) (A:After ⟨b,0,none⟩ g w w') (hb:b < W0.heap.size):RV.Pend W0 T i j fin γ L w':=by
 intro hl
 obtain ⟨c,cs,h1,h2,h3,h4,h5⟩:=h hl
 exact ⟨c,cs,h1,h2,(A.kept.2.2.2 c (Array.getElem?_eq_some_iff.1 h3).1 (by show c ≠ b;omega)).trans h3,h4,h5⟩
def M9.at1 (m:M9) (p:Pt):Pt:=(m.turn (p.times 1048576)).getD Pt.O
def M9.at2 (m:M9) (t p:Pt):Pt:=((m.at1 p).addO t).getD Pt.O
structure Q4 where
 w:Int
 x:Int
 y:Int
 z:Int
def Jnt (t:Pt) (q:Q4):Value:=.agg #[J Y t.x,J Y t.y,J Y t.z,J Y q.w,J Y q.x,J Y q.y,J Y q.z]
end
section
open Go.RowKit Go.Shelf
def Js7:Nat->Pt->Pt
 | 0,p=>p
 | n + 1,p=>if p.inB 524288 then Js7 n (p.plus p) else p
def Pt.long (p:Pt):Pt:=if p = Pt.O then p else Js7 20 p
def Pt.big (p:Pt) (n:Nat):Prop:=2 ^ n <= p.x.natAbs \/ 2 ^ n <= p.y.natAbs \/ 2 ^ n <= p.z.natAbs
end
section
open Go.RowKit Go.Shelf
attribute [local go_sem] Oper.semAt_some
def Bx.l (b:Bx):List Value:=[J Y b.lo.x,J Y b.lo.y,J Y b.lo.z,J Y b.hi.x,J Y b.hi.y,J Y b.hi.z]
end
section
open Go.RowKit Go.Shelf
section
variable {V:World} {cb fb:Nat} {pv av ev:Value} {r:Int} {f b1 b2 b3:Bool} {m:M9} {t:Pt} {P A E:List Pt} {g4 g5 g9 g13 g16 g17:Value} {l4 l5 l9 l13 l16 l17 l18:Bool} {w w':World}
end
theorem Jt9 {cs:Array Value} (h:cs.size = 4):∃ u0 u1 u2 u3,cs = #[u0,u1,u2,u3]:=by
 obtain ⟨l⟩:=cs
 match l,h with
 | [a,b,c,d],_=>exact ⟨a,b,c,d,rfl⟩
end
section
open Go.RowKit Fx
theorem Jhb (y:Int):((sub 0 y).isNone = true/\great y = true/\great (-y) = true) \/ ((sub 0 y) = some (-y)/\great y = false/\great (-y) = false):=by
 cases h:great y
 ·have h':=(not_great y).1 h
  have g:great (-y) = false:=(not_great _).2 (by omega)
  refine Or.inr ⟨?_,rfl,g⟩
  have z:great 0 = false:=by decide
  have e:(0:Int) - y = -y:=by omega
  simp [sub,h,z,Fx.told,e,g]
 ·have h':=(great_iff y).1 h
  refine Or.inl ⟨?_,rfl,(great_iff _).2 (by omega)⟩
  simp [sub,h]
theorem Jeq {l m:List Int} (h:m.any great = true):(dot l m).isNone = true:=by
 unfold dot;split
 ·rfl
 ·split
  ·rfl
  ·rw [h];simp
theorem Jni {f g0:Bool} {x0 x1 x2 y0 y1 y2:Int} (hg:g0 = (false || ((sub 0 y0).isNone || (sub 0 y1).isNone || (sub 0 y2).isNone))) {bd:Bool}
  (hb:bd = (g0 || ((dot [x1,x2] [y2,(sub 0 y1).getD 0]).isNone || ((dot [x2,x0] [y0,(sub 0 y2).getD 0]).isNone || (dot [x0,x1] [y1,(sub 0 y0).getD 0]).isNone)))) :
  Jc3 f (dot [x1,x2] [y2,-y1]) (dot [x2,x0] [y0,-y2]) (dot [x0,x1] [y1,-y0]) (cond bd 0 ((dot [x1,x2] [y2,(sub 0 y1).getD 0]).getD 0)) (cond bd 0 ((dot [x2,x0] [y0,(sub 0 y2).getD 0]).getD 0)) (cond bd 0 ((dot [x0,x1] [y1,(sub 0 y0).getD 0]).getD 0)) (f || bd):=by
 have key:(bd = true/\((dot [x1,x2] [y2,-y1]).isNone || (dot [x2,x0] [y0,-y2]).isNone || (dot [x0,x1] [y1,-y0]).isNone) = true) \/ (sub 0 y0 = some (-y0)/\sub 0 y1 = some (-y1)/\sub 0 y2 = some (-y2)):=by
  rcases Jhb y0 with ⟨a1,a2,a3⟩ | ⟨a1,_,_⟩
  ·left;exact ⟨by rw [hb,hg,a1];simp,by rw [Jeq (l:=[x0,x1]) (m:=[y1,-y0]) (by simp [a3])];simp⟩
  ·rcases Jhb y1 with ⟨b1,b2,b3⟩ | ⟨b1,_,_⟩
   ·left;exact ⟨by rw [hb,hg,b1];simp,by rw [Jeq (l:=[x1,x2]) (m:=[y2,-y1]) (by simp [b3])];simp⟩
   ·rcases Jhb y2 with ⟨c1,c2,c3⟩ | ⟨c1,_,_⟩
    ·left;exact ⟨by rw [hb,hg,c1];simp,by rw [Jeq (l:=[x2,x0]) (m:=[y0,-y2]) (by simp [c3])];simp⟩
    ·right;exact ⟨a1,b1,c1⟩
 rcases key with ⟨h1,h2⟩ | ⟨h1,h2,h3⟩
 ·rw [h1]
  unfold Jc3
  rw [h2]
  exact ⟨rfl,rfl,rfl,rfl⟩
 ·rw [h1,h2,h3] at hb hg
  rw [h1,h2,h3]
  have hg':g0 = false:=by rw [hg];rfl
  rw [hg',Bool.false_or] at hb
  simp only [Option.getD_some] at hb ⊢
  unfold Jc3
  rw [Bool.or_assoc,<- hb]
  exact ⟨rfl,rfl,rfl,rfl⟩
def Jag (b off:Nat) (f g0:Bool) (pa pb pr po pm:Nat) (x0 x1 x2 y0 y1 y2:Int) (W U:World):Bool:=g0 || ([(11,(dot [x1,x2] [y2,(sub 0 y1).getD 0]).isNone),(22,(dot [x2,x0] [y0,(sub 0 y2).getD 0]).isNone),(33,(dot [x0,x1] [y1,(sub 0 y0).getD 0]).isNone)]:List (Nat × Bool)).any (·.2)
def Jbf (b off:Nat) (f g0:Bool) (pa pb pr po pm:Nat) (x0 x1 x2 y0 y1 y2:Int) (W U:World):Nat->Shape
 | 0=>.is (.pointer (some ⟨b,off,none⟩))
 | 1=>.is (.pointer (some ⟨pa,1,none⟩))
 | 2=>.is (J Y x1)
 | 3=>.is (.pointer (some ⟨pa,2,none⟩))
 | 4=>.is (J Y x2)
 | 5=>.row 2
 | 6=>.is (.pointer (some ⟨pb,2,none⟩))
 | 7=>.is (J Y y2)
 | 8=>.is (.pointer (some ⟨pm,1,none⟩))
 | 9=>.is (J Y ((sub 0 y1).getD 0))
 | 10=>.row 2
 | 11=>.is (J Y ((dot [x1,x2] [y2,(sub 0 y1).getD 0]).getD 0))
 | 12=>.is (.pointer (some ⟨pa,2,none⟩))
 | 13=>.is (J Y x2)
 | 14=>.is (.pointer (some ⟨pa,0,none⟩))
 | 15=>.is (J Y x0)
 | 16=>.row 2
 | 17=>.is (.pointer (some ⟨pb,0,none⟩))
 | 18=>.is (J Y y0)
 | 19=>.is (.pointer (some ⟨pm,2,none⟩))
 | 20=>.is (J Y ((sub 0 y2).getD 0))
 | 21=>.row 2
 | 22=>.is (J Y ((dot [x2,x0] [y0,(sub 0 y2).getD 0]).getD 0))
 | 23=>.is (.pointer (some ⟨pa,0,none⟩))
 | 24=>.is (J Y x0)
 | 25=>.is (.pointer (some ⟨pa,1,none⟩))
 | 26=>.is (J Y x1)
 | 27=>.row 2
 | 28=>.is (.pointer (some ⟨pb,1,none⟩))
 | 29=>.is (J Y y1)
 | 30=>.is (.pointer (some ⟨pm,0,none⟩))
 | 31=>.is (J Y ((sub 0 y0).getD 0))
 | 32=>.row 2
 | 33=>.is (J Y ((dot [x0,x1] [y1,(sub 0 y0).getD 0]).getD 0))
 | 34=>.is (.agg #[J Y ((dot [x1,x2] [y2,(sub 0 y1).getD 0]).getD 0),J Y ((dot [x2,x0] [y0,(sub 0 y2).getD 0]).getD 0),J Y ((dot [x0,x1] [y1,(sub 0 y0).getD 0]).getD 0)])
 | 35=>.is (.agg #[J Y (cond (Jag b off f g0 pa pb pr po pm x0 x1 x2 y0 y1 y2 W U) 0 ((dot [x1,x2] [y2,(sub 0 y1).getD 0]).getD 0)),J Y (cond (Jag b off f g0 pa pb pr po pm x0 x1 x2 y0 y1 y2 W U) 0 ((dot [x2,x0] [y0,(sub 0 y2).getD 0]).getD 0)),J Y (cond (Jag b off f g0 pa pb pr po pm x0 x1 x2 y0 y1 y2 W U) 0 ((dot [x0,x1] [y1,(sub 0 y0).getD 0]).getD 0))])
 | 36=>.ptr
 | _=>.ptr
def Jj (b off:Nat) (f g0:Bool) (pa pb pr po pm:Nat) (x0 x1 x2 y0 y1 y2:Int) (W U:World):Plan where
 W:=W
 N:=U.heap.size
 p:=⟨b,off,none⟩
 fl:=⟨po,0,none⟩
 g0:=g0
 bad:=Jag b off f g0 pa pb pr po pm x0 x1 x2 y0 y1 y2 W U
 f:=f
 calls:=[(11,(dot [x1,x2] [y2,(sub 0 y1).getD 0]).isNone),(22,(dot [x2,x0] [y0,(sub 0 y2).getD 0]).isNone),(33,(dot [x0,x1] [y1,(sub 0 y0).getD 0]).isNone)]
 tl:=35
 st:=36
 r:=pr
 res:=[J Y (cond (Jag b off f g0 pa pb pr po pm x0 x1 x2 y0 y1 y2 W U) 0 ((dot [x1,x2] [y2,(sub 0 y1).getD 0]).getD 0)),J Y (cond (Jag b off f g0 pa pb pr po pm x0 x1 x2 y0 y1 y2 W U) 0 ((dot [x2,x0] [y0,(sub 0 y2).getD 0]).getD 0)),J Y (cond (Jag b off f g0 pa pb pr po pm x0 x1 x2 y0 y1 y2 W U) 0 ((dot [x0,x1] [y1,(sub 0 y0).getD 0]).getD 0))]
 fixed:=[(⟨pa,0,none⟩,J Y x0),
  (⟨pa,1,none⟩,J Y x1),
  (⟨pa,2,none⟩,J Y x2),
  (⟨pb,0,none⟩,J Y y0),
  (⟨pb,1,none⟩,J Y y1),
  (⟨pb,2,none⟩,J Y y2),
  (⟨pm,0,none⟩,J Y ((sub 0 y0).getD 0)),
  (⟨pm,1,none⟩,J Y ((sub 0 y1).getD 0)),
  (⟨pm,2,none⟩,J Y ((sub 0 y2).getD 0))]
 made:=[⟨5,5,[J Y x1,J Y x2]⟩,⟨10,10,[J Y y2,J Y ((sub 0 y1).getD 0)]⟩,⟨16,16,[J Y x2,J Y x0]⟩,⟨21,21,[J Y y0,J Y ((sub 0 y2).getD 0)]⟩,⟨27,27,[J Y x0,J Y x1]⟩,⟨32,32,[J Y y1,J Y ((sub 0 y0).getD 0)]⟩]
theorem Jh4 (b off:Nat) (f g0:Bool) (pa pb pr po pm:Nat) (x0 x1 x2 y0 y1 y2:Int) (W U:World):((Jj b off f g0 pa pb pr po pm x0 x1 x2 y0 y1 y2 W U).calls.map (·.1)).Nodup:=of_decide_eq_true rfl
theorem Jdm (b off:Nat) (f g0:Bool) (pa pb pr po pm:Nat) (x0 x1 x2 y0 y1 y2:Int) (W U:World):((Jj b off f g0 pa pb pr po pm x0 x1 x2 y0 y1 y2 W U).made.map (·.i)).Nodup:=of_decide_eq_true rfl
theorem Jg7 (b off:Nat) (f g0:Bool) (pa pb pr po pm:Nat) (x0 x1 x2 y0 y1 y2:Int) (W U:World):((Jj b off f g0 pa pb pr po pm x0 x1 x2 y0 y1 y2 W U).bad = true->(Jj b off f g0 pa pb pr po pm x0 x1 x2 y0 y1 y2 W U).g0 = true \/ ∃ c ∈ (Jj b off f g0 pa pb pr po pm x0 x1 x2 y0 y1 y2 W U).calls,c.2 = true)/\∀ c ∈ (Jj b off f g0 pa pb pr po pm x0 x1 x2 y0 y1 y2 W U).calls,c.2 = true->(Jj b off f g0 pa pb pr po pm x0 x1 x2 y0 y1 y2 W U).bad = true:=
 Jc9 _ rfl
theorem Jlm (b off:Nat) (f:Bool) (x0 x1 x2 y0 y1 y2:Int) (W:World) (hc:W.cell? ⟨b,off,none⟩ = some (.bool f)) (hf:W.frozen? ⟨b,off,none⟩ = false) :
  Calls Tryz.prog 60 #[.pointer (some ⟨b,off,none⟩),.agg #[J Y x0,J Y x1,J Y x2],.agg #[J Y y0,J Y y1,J Y y2]] W fun e W'=>∃ v0 v1 v2 g,e = .returned (.agg #[J Y v0,J Y v1,J Y v2])/\Hid (Jc3 f (dot [x1,x2] [y2,-y1]) (dot [x2,x0] [y0,-y2]) (dot [x0,x1] [y1,-y0]) v0 v1 v2 g)/\Hid (After ⟨b,off,none⟩ g W W'):=by
 have hbW:b < W.heap.size:=JB _ _ hc
 go_enter func60,ntmps60
 go_wp2_with (fail)
 refine (Jjg (W.heap.size + 1 + 1 + 1) false 0 0 0 y0 y1 y2 _ (by simp [go_sem]) (by simp [go_sem])).mono ?_
 rintro e W1 ⟨g0,rfl,SG,A⟩
 have hp:=A.out.cellOf (q:=⟨b,off,none⟩) (v:=.bool f) (by rw [World.cell?_alloc_past _ _ _ (by simp;omega),World.cell?_alloc_past _ _ _ (by simp;omega),World.cell?_alloc_past _ _ _ (by simp;omega),World.cell?_alloc_past _ _ _ hbW];exact hc) (by simp;omega)
 have hpf:=A.out.frozenOf (q:=⟨b,off,none⟩) (v:=.bool f) (by rw [World.cell?_alloc_past _ _ _ (by simp;omega),World.cell?_alloc_past _ _ _ (by simp;omega),World.cell?_alloc_past _ _ _ (by simp;omega),World.cell?_alloc_past _ _ _ hbW];exact hc) (by rw [((Jg _ _).frozen (by simp;omega)),((Jg _ _).frozen (by simp;omega)),((Jg _ _).frozen (by simp;omega)),((Jg _ _).frozen hbW)];exact hf) (by simp;omega)
 have HL:Hid (Leaves ⟨b,off,none⟩ W W1):=(((((Leaves.refl _ _).alloc _).alloc _).alloc _).alloc _).after A.out (by simp;omega)
 have ho:=A.out.cell
 have hof:=A.out.frozen
 have k0_0:=A.out.cellOf (q:=⟨W.heap.size,0,none⟩) (v:=J Y x0) (by simp [go_sem]) (by simp;omega)
 have k1_0:=A.out.cellOf (q:=⟨W.heap.size + 1,0,none⟩) (v:=J Y y0) (by simp [go_sem]) (by simp)
 have rf0:=A.out.frozenOf (q:=⟨W.heap.size + 1 + 1,0,none⟩) (v:=J Y 0) (by simp [go_sem]) (by simp [go_sem]) (by simp)
 have rr0:=A.out.cellOf (q:=⟨W.heap.size + 1 + 1,0,none⟩) (v:=J Y 0) (by simp [go_sem]) (by simp)
 have k0_1:=A.out.cellOf (q:=⟨W.heap.size,1,none⟩) (v:=J Y x1) (by simp [go_sem]) (by simp;omega)
 have k1_1:=A.out.cellOf (q:=⟨W.heap.size + 1,1,none⟩) (v:=J Y y1) (by simp [go_sem]) (by simp)
 have rf1:=A.out.frozenOf (q:=⟨W.heap.size + 1 + 1,1,none⟩) (v:=J Y 0) (by simp [go_sem]) (by simp [go_sem]) (by simp)
 have rr1:=A.out.cellOf (q:=⟨W.heap.size + 1 + 1,1,none⟩) (v:=J Y 0) (by simp [go_sem]) (by simp)
 have k0_2:=A.out.cellOf (q:=⟨W.heap.size,2,none⟩) (v:=J Y x2) (by simp [go_sem]) (by simp;omega)
 have k1_2:=A.out.cellOf (q:=⟨W.heap.size + 1,2,none⟩) (v:=J Y y2) (by simp [go_sem]) (by simp)
 have rf2:=A.out.frozenOf (q:=⟨W.heap.size + 1 + 1,2,none⟩) (v:=J Y 0) (by simp [go_sem]) (by simp [go_sem]) (by simp)
 have rr2:=A.out.cellOf (q:=⟨W.heap.size + 1 + 1,2,none⟩) (v:=J Y 0) (by simp [go_sem]) (by simp)
 have hs:=A.out.size
 simp only [World.size_alloc] at hs
 clear A hc hf
 go_wp2_with (fail)
 obtain ⟨U,hU⟩:∃ U,U = W1.alloc (.cells #[J Y ((sub 0 y0).getD 0),J Y ((sub 0 y1).getD 0),J Y ((sub 0 y2).getD 0)] 27):=⟨_,rfl⟩
 obtain ⟨pm,hpm⟩:∃ p,p = W1.heap.size:=⟨_,rfl⟩
 have hb:=Jg W1 (.cells #[J Y ((sub 0 y0).getD 0),J Y ((sub 0 y1).getD 0),J Y ((sub 0 y2).getD 0)] 27)
 rw [<- hU] at hb
 have hUs:U.heap.size = pm + 1:=by rw [hU,hpm];simp
 have k2_0:U.cell? ⟨pm,0,none⟩ = some (J Y ((sub 0 y0).getD 0)):=by rw [hU,hpm];simp
 have k2_1:U.cell? ⟨pm,1,none⟩ = some (J Y ((sub 0 y1).getD 0)):=by rw [hU,hpm];simp
 have k2_2:U.cell? ⟨pm,2,none⟩ = some (J Y ((sub 0 y2).getD 0)):=by rw [hU,hpm];simp
 rw [<- hU,<- hpm]
 rw [<- hpm] at hs
 replace HL:Hid (Leaves ⟨b,off,none⟩ W U):=by show Leaves _ _ _;rw [hU];exact HL.out.alloc _
 replace hpf:=Ji hb hp hpf
 replace hp:=Jh hb hp
 replace hof:=Ji hb ho hof
 replace ho:=Jh hb ho
 replace k0_0:=Jh hb k0_0
 replace k1_0:=Jh hb k1_0
 replace rf0:=Ji hb rr0 rf0
 replace rr0:=Jh hb rr0
 replace k0_1:=Jh hb k0_1
 replace k1_1:=Jh hb k1_1
 replace rf1:=Ji hb rr1 rf1
 replace rr1:=Jh hb rr1
 replace k0_2:=Jh hb k0_2
 replace k1_2:=Jh hb k1_2
 replace rf2:=Ji hb rr2 rf2
 replace rr2:=Jh hb rr2
 clear hU hpm hb
 obtain ⟨pa,hpa⟩:∃ p,p = W.heap.size:=⟨_,rfl⟩
 obtain ⟨pb,hpb⟩:∃ p,p = W.heap.size + 1:=⟨_,rfl⟩
 obtain ⟨pr,hpr⟩:∃ p,p = W.heap.size + 1 + 1:=⟨_,rfl⟩
 obtain ⟨po,hpo⟩:∃ p,p = W.heap.size + 1 + 1 + 1:=⟨_,rfl⟩
 rw [<- hpo,<- hpr,<- hpb]
 rw [<- hpo] at ho hof
 rw [<- hpr] at rr0 rr1 rr2 rf0 rf1 rf2
 rw [<- hpb] at k1_0 k1_1 k1_2
 rw [<- hpa] at k0_0 k0_1 k0_2
 have q0:W.heap.size <= pa:=by omega
 have q1:pa < pb:=by omega
 have q2:pb < pr:=by omega
 have q3:pr < po:=by omega
 have q4:po < pm:=by omega
 rw [<- hpa]
 clear hpa hpb hpr hpo hs
 have hπ:(Jj b off f g0 pa pb pr po pm x0 x1 x2 y0 y1 y2 W U).Good:=by
  refine Jfr ?_ ?_ ?_ ?_ ?_ ?_ ?_ (Jg7 b off f g0 pa pb pr po pm x0 x1 x2 y0 y1 y2 W U).1 (Jg7 b off f g0 pa pb pr po pm x0 x1 x2 y0 y1 y2 W U).2
  ·show W.heap.size <= pr;omega
  ·show pr < U.heap.size;omega
  ·exact Or.inr (by show W.heap.size <= po;omega)
  ·show po < U.heap.size;omega
  ·show po ≠ pr;omega
  ·show b < W.heap.size;omega
  ·intro c hc
   simp only [Jj,List.mem_cons,List.not_mem_nil,or_false] at hc
   rcases hc with rfl | rfl | rfl | rfl | rfl | rfl | rfl | rfl | rfl <;> (show _ < U.heap.size/\_ ≠ po/\_ ≠ b/\_ ≠ pr) <;> (dsimp only) <;> omega
 refine region_by (Jl (Jbf b off f g0 pa pb pr po pm x0 x1 x2 y0 y1 y2 W U)) (Glob (Jj b off f g0 pa pb pr po pm x0 x1 x2 y0 y1 y2 W U)) (by kernel_rfl) (by kernel_rfl) (by kernel_rfl) (by kernel_rfl) (fun _=>0) ?_ ?_ ?_
 ·refine ⟨?_,?_,?_,?_,?_,?_,(fun _ _ h=>by cases h),(fun _ _ _ _ h=>by cases h)⟩
  ·exact HL.out.drew
  ·exact Nat.le_refl _
  ·exact ⟨g0,ho,hof,fun h=>by show Jag b off f g0 pa pb pr po pm x0 x1 x2 y0 y1 y2 W U = true;simp [Jag,h],fun h=>h,fun _ _ h=>by cases h⟩
  ·refine Or.inr ⟨?_,hpf⟩
   show U.cell? ⟨b,off,none⟩ = some (.bool (f || (false && Jag b off f g0 pa pb pr po pm x0 x1 x2 y0 y1 y2 W U)))
   rw [Bool.false_and,Bool.or_false];exact hp
  ·refine ⟨[J Y 0,J Y 0,J Y 0],rfl,?_,fun h=>by cases h⟩
   intro k v hk
   match k,hk with
   | 0,hk=>simp at hk;subst hk;exact ⟨rr0,rf0⟩
   | 1,hk=>simp at hk;subst hk;exact ⟨rr1,rf1⟩
   | 2,hk=>simp at hk;subst hk;exact ⟨rr2,rf2⟩
  ·intro c hc
   simp only [Jj,List.mem_cons,List.not_mem_nil,or_false] at hc
   rcases hc with rfl | rfl | rfl | rfl | rfl | rfl | rfl | rfl | rfl <;> assumption
 ·generalize hD:Jai _ = D
  generalize hA:Jab _ = A
  generalize hZ:Act.mk _ _ = Z
  have d0:D 0 = some 13:=by rw [<- hD];rfl
  have d1:D 1 = some 14:=by rw [<- hD];rfl
  have d2:D 2 = some 15:=by rw [<- hD];rfl
  have d3:D 3 = some 16:=by rw [<- hD];rfl
  have d4:D 4 = some 17:=by rw [<- hD];rfl
  have d5:D 5 = some 18:=by rw [<- hD];rfl
  have d6:D 6 = some 19:=by rw [<- hD];rfl
  have d7:D 7 = some 20:=by rw [<- hD];rfl
  have d8:D 8 = some 21:=by rw [<- hD];rfl
  have d9:D 9 = some 22:=by rw [<- hD];rfl
  have d10:D 10 = some 23:=by rw [<- hD];rfl
  have d11:D 11 = some 24:=by rw [<- hD];rfl
  have d12:D 12 = some 25:=by rw [<- hD];rfl
  have d13:D 13 = some 26:=by rw [<- hD];rfl
  have d14:D 14 = some 27:=by rw [<- hD];rfl
  have d15:D 15 = some 28:=by rw [<- hD];rfl
  have d16:D 16 = some 29:=by rw [<- hD];rfl
  have d17:D 17 = some 30:=by rw [<- hD];rfl
  have d18:D 18 = some 31:=by rw [<- hD];rfl
  have d19:D 19 = some 32:=by rw [<- hD];rfl
  have d20:D 20 = some 33:=by rw [<- hD];rfl
  have d21:D 21 = some 34:=by rw [<- hD];rfl
  have d22:D 22 = some 35:=by rw [<- hD];rfl
  have d23:D 23 = some 36:=by rw [<- hD];rfl
  have d24:D 24 = some 37:=by rw [<- hD];rfl
  have d25:D 25 = some 38:=by rw [<- hD];rfl
  have d26:D 26 = some 39:=by rw [<- hD];rfl
  have d27:D 27 = some 40:=by rw [<- hD];rfl
  have d28:D 28 = some 41:=by rw [<- hD];rfl
  have d29:D 29 = some 42:=by rw [<- hD];rfl
  have d30:D 30 = some 43:=by rw [<- hD];rfl
  have d31:D 31 = some 44:=by rw [<- hD];rfl
  have d32:D 32 = some 45:=by rw [<- hD];rfl
  have d33:D 33 = some 46:=by rw [<- hD];rfl
  have d34:D 34 = some 47:=by rw [<- hD];rfl
  have d35:D 35 = some 48:=by rw [<- hD];rfl
  have R0:∀ (γ:Nat->Nat) (L:Nat->Bool) (a:Act) (w:World),Held D A (Jl (Jbf b off f g0 pa pb pr po pm x0 x1 x2 y0 y1 y2 W U)) (Glob (Jj b off f g0 pa pb pr po pm x0 x1 x2 y0 y1 y2 W U)) Z γ L a w->a.tmps[0]? = some (.pointer (some ⟨b,off,none⟩)):=fun γ L a w hH=>(hH.rest 0 (by rw [<- hD];exact dst_free (by kernel_rfl))).trans (by rw [<- hZ];rfl)
  have R4:∀ (γ:Nat->Nat) (L:Nat->Bool) (a:Act) (w:World),Held D A (Jl (Jbf b off f g0 pa pb pr po pm x0 x1 x2 y0 y1 y2 W U)) (Glob (Jj b off f g0 pa pb pr po pm x0 x1 x2 y0 y1 y2 W U)) Z γ L a w->a.tmps[4]? = some (.pointer (some ⟨pa,0,none⟩)):=fun γ L a w hH=>(hH.rest 4 (by rw [<- hD];exact dst_free (by kernel_rfl))).trans (by rw [<- hZ];rfl)
  have R5:∀ (γ:Nat->Nat) (L:Nat->Bool) (a:Act) (w:World),Held D A (Jl (Jbf b off f g0 pa pb pr po pm x0 x1 x2 y0 y1 y2 W U)) (Glob (Jj b off f g0 pa pb pr po pm x0 x1 x2 y0 y1 y2 W U)) Z γ L a w->a.tmps[5]? = some (.pointer (some ⟨pb,0,none⟩)):=fun γ L a w hH=>(hH.rest 5 (by rw [<- hD];exact dst_free (by kernel_rfl))).trans (by rw [<- hZ];rfl)
  have R6:∀ (γ:Nat->Nat) (L:Nat->Bool) (a:Act) (w:World),Held D A (Jl (Jbf b off f g0 pa pb pr po pm x0 x1 x2 y0 y1 y2 W U)) (Glob (Jj b off f g0 pa pb pr po pm x0 x1 x2 y0 y1 y2 W U)) Z γ L a w->a.tmps[6]? = some (.pointer (some ⟨pr,0,none⟩)):=fun γ L a w hH=>(hH.rest 6 (by rw [<- hD];exact dst_free (by kernel_rfl))).trans (by rw [<- hZ];rfl)
  have R7:∀ (γ:Nat->Nat) (L:Nat->Bool) (a:Act) (w:World),Held D A (Jl (Jbf b off f g0 pa pb pr po pm x0 x1 x2 y0 y1 y2 W U)) (Glob (Jj b off f g0 pa pb pr po pm x0 x1 x2 y0 y1 y2 W U)) Z γ L a w->a.tmps[7]? = some (.pointer (some ⟨po,0,none⟩)):=fun γ L a w hH=>(hH.rest 7 (by rw [<- hD];exact dst_free (by kernel_rfl))).trans (by rw [<- hZ];rfl)
  have R8:∀ (γ:Nat->Nat) (L:Nat->Bool) (a:Act) (w:World),Held D A (Jl (Jbf b off f g0 pa pb pr po pm x0 x1 x2 y0 y1 y2 W U)) (Glob (Jj b off f g0 pa pb pr po pm x0 x1 x2 y0 y1 y2 W U)) Z γ L a w->a.tmps[8]? = some (.pointer (some ⟨pm,0,none⟩)):=fun γ L a w hH=>(hH.rest 8 (by rw [<- hD];exact dst_free (by kernel_rfl))).trans (by rw [<- hZ];rfl)
  have A_34_11:A 34 11:=by rw [<- hA];exact ⟨_,rfl,⟨11,.data⟩,by simp,rfl,rfl⟩
  have A_34_22:A 34 22:=by rw [<- hA];exact ⟨_,rfl,⟨22,.data⟩,by simp,rfl,rfl⟩
  have A_34_33:A 34 33:=by rw [<- hA];exact ⟨_,rfl,⟨33,.data⟩,by simp,rfl,rfl⟩
  clear hD hA hZ
  refine AllDo.cons 0 rfl (Jd _ rfl rfl (fun γ L a w hH hA=>by have e1:=R0 γ L a w hH;simp [JD,go_sem,e1])) ?_
  refine AllDo.cons 1 rfl (Jd _ rfl rfl (fun γ L a w hH hA=>by have e1:=R4 γ L a w hH;simp [JD,go_sem,e1])) ?_
  refine AllDo.cons 2 rfl (Jd _ rfl rfl (fun γ L a w hH hA=>by have e1:=hH.at d1 rfl (hA ⟨1,.data⟩ (by simp) rfl);have e2:=hH.glob.fix (⟨pa,1,none⟩,J Y x1) (by simp [Jj]);simp [JD,go_sem,e1,e2])) ?_
  refine AllDo.cons 3 rfl (Jd _ rfl rfl (fun γ L a w hH hA=>by have e1:=R4 γ L a w hH;simp [JD,go_sem,e1])) ?_
  refine AllDo.cons 4 rfl (Jd _ rfl rfl (fun γ L a w hH hA=>by have e1:=hH.at d3 rfl (hA ⟨3,.data⟩ (by simp) rfl);have e2:=hH.glob.fix (⟨pa,2,none⟩,J Y x2) (by simp [Jj]);simp [JD,go_sem,e1,e2])) ?_
  refine AllDo.cons 5 rfl (J3 rfl ⟨5,5,[J Y x1,J Y x2]⟩ (by simp [Jj]) rfl (J5 (Jdm b off f g0 pa pb pr po pm x0 x1 x2 y0 y1 y2 W U) (m:=⟨5,5,[J Y x1,J Y x2]⟩) (by simp [Jj])) (Or.inl rfl) [J Y x1,J Y x2] 3 rfl (fun _=>rfl) (fun γ L a w hH hA=>by have e1:=hH.at d2 rfl (hA ⟨2,.data⟩ (by simp) rfl);have e2:=hH.at d4 rfl (hA ⟨4,.data⟩ (by simp) rfl);simp [JD,go_sem,e1,e2,Jl,Jbf,upd_self])) ?_
  refine AllDo.cons 6 rfl (Jd _ rfl rfl (fun γ L a w hH hA=>by have e1:=R5 γ L a w hH;simp [JD,go_sem,e1])) ?_
  refine AllDo.cons 7 rfl (Jd _ rfl rfl (fun γ L a w hH hA=>by have e1:=hH.at d6 rfl (hA ⟨6,.data⟩ (by simp) rfl);have e2:=hH.glob.fix (⟨pb,2,none⟩,J Y y2) (by simp [Jj]);simp [JD,go_sem,e1,e2])) ?_
  refine AllDo.cons 8 rfl (Jd _ rfl rfl (fun γ L a w hH hA=>by have e1:=R8 γ L a w hH;simp [JD,go_sem,e1])) ?_
  refine AllDo.cons 9 rfl (Jd _ rfl rfl (fun γ L a w hH hA=>by have e1:=hH.at d8 rfl (hA ⟨8,.data⟩ (by simp) rfl);have e2:=hH.glob.fix (⟨pm,1,none⟩,J Y ((sub 0 y1).getD 0)) (by simp [Jj]);simp [JD,go_sem,e1,e2])) ?_
  refine AllDo.cons 10 rfl (J3 rfl ⟨10,10,[J Y y2,J Y ((sub 0 y1).getD 0)]⟩ (by simp [Jj]) rfl (J5 (Jdm b off f g0 pa pb pr po pm x0 x1 x2 y0 y1 y2 W U) (m:=⟨10,10,[J Y y2,J Y ((sub 0 y1).getD 0)]⟩) (by simp [Jj])) (Or.inl rfl) [J Y y2,J Y ((sub 0 y1).getD 0)] 3 rfl (fun _=>rfl) (fun γ L a w hH hA=>by have e1:=hH.at d7 rfl (hA ⟨7,.data⟩ (by simp) rfl);have e2:=hH.at d9 rfl (hA ⟨9,.data⟩ (by simp) rfl);simp [JD,go_sem,e1,e2,Jl,Jbf,upd_self])) ?_
  refine AllDo.cons 11 rfl (J9 hπ _ ((dot [x1,x2] [y2,(sub 0 y1).getD 0]).isNone) rfl (by simp [Jj]) (J7 (Jh4 b off f g0 pa pb pr po pm x0 x1 x2 y0 y1 y2 W U) (by simp [Jj])) rfl (fun γ L a w hH hA g hg hz=>by have e1:=R7 γ L a w hH;have e2:=hH.rowAt d5 rfl (hA ⟨5,.data⟩ (by simp) rfl);have e3:=hH.rowAt d10 rfl (hA ⟨10,.data⟩ (by simp) rfl);exact ⟨114,#[.pointer (some ⟨po,0,none⟩),.slice (some ⟨γ 5,0,none⟩) 2 2,.slice (some ⟨γ 10,0,none⟩) 2 2],by simp [go_sem,e1,e2,e3],(Jau po 0 g [x1,x2] [y2,(sub 0 y1).getD 0] _ _ 2 2 w hg hz (by simp) (by simp) (Jak [x1,x2] (hH.glob.made ⟨5,5,[J Y x1,J Y x2]⟩ (by simp [Jj]) (hA ⟨5,.data⟩ (by simp) rfl)) (hA ⟨5,.data⟩ (by simp) rfl) rfl) (Jak [y2,(sub 0 y1).getD 0] (hH.glob.made ⟨10,10,[J Y y2,J Y ((sub 0 y1).getD 0)]⟩ (by simp [Jj]) (hA ⟨10,.data⟩ (by simp) rfl)) (hA ⟨10,.data⟩ (by simp) rfl) rfl)).mono (by rintro e W1 ⟨v,g1,rfl,S,Z⟩;exact ⟨by rw [S.out.1],g1,S.out.2,Z.out⟩)⟩)) ?_
  refine AllDo.cons 12 rfl (Jd _ rfl rfl (fun γ L a w hH hA=>by have e1:=R4 γ L a w hH;simp [JD,go_sem,e1])) ?_
  refine AllDo.cons 13 rfl (Jd _ rfl rfl (fun γ L a w hH hA=>by have e1:=hH.at d12 rfl (hA ⟨12,.data⟩ (by simp) rfl);have e2:=hH.glob.fix (⟨pa,2,none⟩,J Y x2) (by simp [Jj]);simp [JD,go_sem,e1,e2])) ?_
  refine AllDo.cons 14 rfl (Jd _ rfl rfl (fun γ L a w hH hA=>by have e1:=R4 γ L a w hH;simp [JD,go_sem,e1])) ?_
  refine AllDo.cons 15 rfl (Jd _ rfl rfl (fun γ L a w hH hA=>by have e1:=hH.at d14 rfl (hA ⟨14,.data⟩ (by simp) rfl);have e2:=hH.glob.fix (⟨pa,0,none⟩,J Y x0) (by simp [Jj]);simp [JD,go_sem,e1,e2])) ?_
  refine AllDo.cons 16 rfl (J3 rfl ⟨16,16,[J Y x2,J Y x0]⟩ (by simp [Jj]) rfl (J5 (Jdm b off f g0 pa pb pr po pm x0 x1 x2 y0 y1 y2 W U) (m:=⟨16,16,[J Y x2,J Y x0]⟩) (by simp [Jj])) (Or.inl rfl) [J Y x2,J Y x0] 3 rfl (fun _=>rfl) (fun γ L a w hH hA=>by have e1:=hH.at d13 rfl (hA ⟨13,.data⟩ (by simp) rfl);have e2:=hH.at d15 rfl (hA ⟨15,.data⟩ (by simp) rfl);simp [JD,go_sem,e1,e2,Jl,Jbf,upd_self])) ?_
  refine AllDo.cons 17 rfl (Jd _ rfl rfl (fun γ L a w hH hA=>by have e1:=R5 γ L a w hH;simp [JD,go_sem,e1])) ?_
  refine AllDo.cons 18 rfl (Jd _ rfl rfl (fun γ L a w hH hA=>by have e1:=hH.at d17 rfl (hA ⟨17,.data⟩ (by simp) rfl);have e2:=hH.glob.fix (⟨pb,0,none⟩,J Y y0) (by simp [Jj]);simp [JD,go_sem,e1,e2])) ?_
  refine AllDo.cons 19 rfl (Jd _ rfl rfl (fun γ L a w hH hA=>by have e1:=R8 γ L a w hH;simp [JD,go_sem,e1])) ?_
  refine AllDo.cons 20 rfl (Jd _ rfl rfl (fun γ L a w hH hA=>by have e1:=hH.at d19 rfl (hA ⟨19,.data⟩ (by simp) rfl);have e2:=hH.glob.fix (⟨pm,2,none⟩,J Y ((sub 0 y2).getD 0)) (by simp [Jj]);simp [JD,go_sem,e1,e2])) ?_
  refine AllDo.cons 21 rfl (J3 rfl ⟨21,21,[J Y y0,J Y ((sub 0 y2).getD 0)]⟩ (by simp [Jj]) rfl (J5 (Jdm b off f g0 pa pb pr po pm x0 x1 x2 y0 y1 y2 W U) (m:=⟨21,21,[J Y y0,J Y ((sub 0 y2).getD 0)]⟩) (by simp [Jj])) (Or.inl rfl) [J Y y0,J Y ((sub 0 y2).getD 0)] 3 rfl (fun _=>rfl) (fun γ L a w hH hA=>by have e1:=hH.at d18 rfl (hA ⟨18,.data⟩ (by simp) rfl);have e2:=hH.at d20 rfl (hA ⟨20,.data⟩ (by simp) rfl);simp [JD,go_sem,e1,e2,Jl,Jbf,upd_self])) ?_
  refine AllDo.cons 22 rfl (J9 hπ _ ((dot [x2,x0] [y0,(sub 0 y2).getD 0]).isNone) rfl (by simp [Jj]) (J7 (Jh4 b off f g0 pa pb pr po pm x0 x1 x2 y0 y1 y2 W U) (by simp [Jj])) rfl (fun γ L a w hH hA g hg hz=>by have e1:=R7 γ L a w hH;have e2:=hH.rowAt d16 rfl (hA ⟨16,.data⟩ (by simp) rfl);have e3:=hH.rowAt d21 rfl (hA ⟨21,.data⟩ (by simp) rfl);exact ⟨114,#[.pointer (some ⟨po,0,none⟩),.slice (some ⟨γ 16,0,none⟩) 2 2,.slice (some ⟨γ 21,0,none⟩) 2 2],by simp [go_sem,e1,e2,e3],(Jau po 0 g [x2,x0] [y0,(sub 0 y2).getD 0] _ _ 2 2 w hg hz (by simp) (by simp) (Jak [x2,x0] (hH.glob.made ⟨16,16,[J Y x2,J Y x0]⟩ (by simp [Jj]) (hA ⟨16,.data⟩ (by simp) rfl)) (hA ⟨16,.data⟩ (by simp) rfl) rfl) (Jak [y0,(sub 0 y2).getD 0] (hH.glob.made ⟨21,21,[J Y y0,J Y ((sub 0 y2).getD 0)]⟩ (by simp [Jj]) (hA ⟨21,.data⟩ (by simp) rfl)) (hA ⟨21,.data⟩ (by simp) rfl) rfl)).mono (by rintro e W1 ⟨v,g1,rfl,S,Z⟩;exact ⟨by rw [S.out.1],g1,S.out.2,Z.out⟩)⟩)) ?_
  refine AllDo.cons 23 rfl (Jd _ rfl rfl (fun γ L a w hH hA=>by have e1:=R4 γ L a w hH;simp [JD,go_sem,e1])) ?_
  refine AllDo.cons 24 rfl (Jd _ rfl rfl (fun γ L a w hH hA=>by have e1:=hH.at d23 rfl (hA ⟨23,.data⟩ (by simp) rfl);have e2:=hH.glob.fix (⟨pa,0,none⟩,J Y x0) (by simp [Jj]);simp [JD,go_sem,e1,e2])) ?_
  refine AllDo.cons 25 rfl (Jd _ rfl rfl (fun γ L a w hH hA=>by have e1:=R4 γ L a w hH;simp [JD,go_sem,e1])) ?_
  refine AllDo.cons 26 rfl (Jd _ rfl rfl (fun γ L a w hH hA=>by have e1:=hH.at d25 rfl (hA ⟨25,.data⟩ (by simp) rfl);have e2:=hH.glob.fix (⟨pa,1,none⟩,J Y x1) (by simp [Jj]);simp [JD,go_sem,e1,e2])) ?_
  refine AllDo.cons 27 rfl (J3 rfl ⟨27,27,[J Y x0,J Y x1]⟩ (by simp [Jj]) rfl (J5 (Jdm b off f g0 pa pb pr po pm x0 x1 x2 y0 y1 y2 W U) (m:=⟨27,27,[J Y x0,J Y x1]⟩) (by simp [Jj])) (Or.inl rfl) [J Y x0,J Y x1] 3 rfl (fun _=>rfl) (fun γ L a w hH hA=>by have e1:=hH.at d24 rfl (hA ⟨24,.data⟩ (by simp) rfl);have e2:=hH.at d26 rfl (hA ⟨26,.data⟩ (by simp) rfl);simp [JD,go_sem,e1,e2,Jl,Jbf,upd_self])) ?_
  refine AllDo.cons 28 rfl (Jd _ rfl rfl (fun γ L a w hH hA=>by have e1:=R5 γ L a w hH;simp [JD,go_sem,e1])) ?_
  refine AllDo.cons 29 rfl (Jd _ rfl rfl (fun γ L a w hH hA=>by have e1:=hH.at d28 rfl (hA ⟨28,.data⟩ (by simp) rfl);have e2:=hH.glob.fix (⟨pb,1,none⟩,J Y y1) (by simp [Jj]);simp [JD,go_sem,e1,e2])) ?_
  refine AllDo.cons 30 rfl (Jd _ rfl rfl (fun γ L a w hH hA=>by have e1:=R8 γ L a w hH;simp [JD,go_sem,e1])) ?_
  refine AllDo.cons 31 rfl (Jd _ rfl rfl (fun γ L a w hH hA=>by have e1:=hH.at d30 rfl (hA ⟨30,.data⟩ (by simp) rfl);have e2:=hH.glob.fix (⟨pm,0,none⟩,J Y ((sub 0 y0).getD 0)) (by simp [Jj]);simp [JD,go_sem,e1,e2])) ?_
  refine AllDo.cons 32 rfl (J3 rfl ⟨32,32,[J Y y1,J Y ((sub 0 y0).getD 0)]⟩ (by simp [Jj]) rfl (J5 (Jdm b off f g0 pa pb pr po pm x0 x1 x2 y0 y1 y2 W U) (m:=⟨32,32,[J Y y1,J Y ((sub 0 y0).getD 0)]⟩) (by simp [Jj])) (Or.inl rfl) [J Y y1,J Y ((sub 0 y0).getD 0)] 3 rfl (fun _=>rfl) (fun γ L a w hH hA=>by have e1:=hH.at d29 rfl (hA ⟨29,.data⟩ (by simp) rfl);have e2:=hH.at d31 rfl (hA ⟨31,.data⟩ (by simp) rfl);simp [JD,go_sem,e1,e2,Jl,Jbf,upd_self])) ?_
  refine AllDo.cons 33 rfl (J9 hπ _ ((dot [x0,x1] [y1,(sub 0 y0).getD 0]).isNone) rfl (by simp [Jj]) (J7 (Jh4 b off f g0 pa pb pr po pm x0 x1 x2 y0 y1 y2 W U) (by simp [Jj])) rfl (fun γ L a w hH hA g hg hz=>by have e1:=R7 γ L a w hH;have e2:=hH.rowAt d27 rfl (hA ⟨27,.data⟩ (by simp) rfl);have e3:=hH.rowAt d32 rfl (hA ⟨32,.data⟩ (by simp) rfl);exact ⟨114,#[.pointer (some ⟨po,0,none⟩),.slice (some ⟨γ 27,0,none⟩) 2 2,.slice (some ⟨γ 32,0,none⟩) 2 2],by simp [go_sem,e1,e2,e3],(Jau po 0 g [x0,x1] [y1,(sub 0 y0).getD 0] _ _ 2 2 w hg hz (by simp) (by simp) (Jak [x0,x1] (hH.glob.made ⟨27,27,[J Y x0,J Y x1]⟩ (by simp [Jj]) (hA ⟨27,.data⟩ (by simp) rfl)) (hA ⟨27,.data⟩ (by simp) rfl) rfl) (Jak [y1,(sub 0 y0).getD 0] (hH.glob.made ⟨32,32,[J Y y1,J Y ((sub 0 y0).getD 0)]⟩ (by simp [Jj]) (hA ⟨32,.data⟩ (by simp) rfl)) (hA ⟨32,.data⟩ (by simp) rfl) rfl)).mono (by rintro e W1 ⟨v,g1,rfl,S,Z⟩;exact ⟨by rw [S.out.1],g1,S.out.2,Z.out⟩)⟩)) ?_
  refine AllDo.cons 34 rfl (Jd _ rfl rfl (fun γ L a w hH hA=>by have e1:=hH.at d11 rfl (hA ⟨11,.data⟩ (by simp) rfl);have e2:=hH.at d22 rfl (hA ⟨22,.data⟩ (by simp) rfl);have e3:=hH.at d33 rfl (hA ⟨33,.data⟩ (by simp) rfl);simp [JD,go_sem,e1,e2,e3])) ?_
  refine AllDo.cons 35 rfl (Jet hπ _ rfl (fun e=>by have e2:po = b:=congrArg Addr.block e;omega) (by simp [Jj]) (by simp [Jj]) (by simp [Jj]) rfl (fun L hcl haft c hc=>by have L34:L 34 = true:=haft ⟨34,.data⟩ (by simp) rfl;have L11:L 11 = true:=hcl 34 11 A_34_11 L34;have L22:L 22 = true:=hcl 34 22 A_34_22 L34;have L33:L 33 = true:=hcl 34 33 A_34_33 L34;simp only [Jj,List.mem_cons,List.not_mem_nil,or_false] at hc;rcases hc with rfl | rfl | rfl;all_goals assumption) (fun γ L a w hH hA hb hp hpf=>by have e1:=hH.at d0 rfl (hA ⟨0,.data⟩ (by simp) rfl);have e2:=R7 γ L a w hH;have e3:=hH.at d34 rfl (hA ⟨34,.data⟩ (by simp) rfl);exact ⟨105,#[.pointer (some ⟨b,off,none⟩),.pointer (some ⟨po,0,none⟩),.agg #[J Y ((dot [x1,x2] [y2,(sub 0 y1).getD 0]).getD 0),J Y ((dot [x2,x0] [y0,(sub 0 y2).getD 0]).getD 0),J Y ((dot [x0,x1] [y1,(sub 0 y0).getD 0]).getD 0)]],by simp [go_sem,e1,e2,e3],(Jez b off po f (Jag b off f g0 pa pb pr po pm x0 x1 x2 y0 y1 y2 W U) ((dot [x1,x2] [y2,(sub 0 y1).getD 0]).getD 0) ((dot [x2,x0] [y0,(sub 0 y2).getD 0]).getD 0) ((dot [x0,x1] [y1,(sub 0 y0).getD 0]).getD 0) w hp hpf hb).mono (by rintro e W1 ⟨rfl,Z⟩;exact ⟨rfl,Z.out⟩)⟩)) ?_
  refine AllDo.cons 36 rfl (does_store hπ (by simp [Jj]) rfl rfl (by simp [Jj]) (by simp [Jj]) (by simp [Jj]) (fun γ L a w hH hA cs hl hh=>by have e1:=R6 γ L a w hH;have e2:=hH.at d35 rfl (hA ⟨35,.data⟩ (by simp) rfl);obtain ⟨u0,u1,u2,rfl⟩:=Jpt hl;have zz0:w.cell? ⟨pr,0,none⟩ = some u0/\w.frozen? ⟨pr,0,none⟩ = false:=hh 0 u0 rfl;have zz1:w.cell? ⟨pr,1,none⟩ = some u1/\w.frozen? ⟨pr,1,none⟩ = false:=hh 1 u1 rfl;have zz2:w.cell? ⟨pr,2,none⟩ = some u2/\w.frozen? ⟨pr,2,none⟩ = false:=hh 2 u2 rfl;exact ⟨(((w.setCell ⟨pr,0,none⟩ (J Y (cond (Jag b off f g0 pa pb pr po pm x0 x1 x2 y0 y1 y2 W U) 0 ((dot [x1,x2] [y2,(sub 0 y1).getD 0]).getD 0)))).setCell ⟨pr,1,none⟩ (J Y (cond (Jag b off f g0 pa pb pr po pm x0 x1 x2 y0 y1 y2 W U) 0 ((dot [x2,x0] [y0,(sub 0 y2).getD 0]).getD 0)))).setCell ⟨pr,2,none⟩ (J Y (cond (Jag b off f g0 pa pb pr po pm x0 x1 x2 y0 y1 y2 W U) 0 ((dot [x0,x1] [y1,(sub 0 y0).getD 0]).getD 0)))),by simp [JD,go_sem,e1,e2,zz0.1,zz0.2,zz1.1,zz1.2,zz2.1,zz2.2],((((Only.refl _ _).set 0 _).set 1 _).set 2 _),Jl7 hh⟩)) ?_
  exact AllDo.nil
 ·intro γ a w L hL hLo hH
  have hL':∀ j,j < 37->L j = true:=fun j hj=>hL j hj
  have hG:=hH.glob
  have hdf:a.defers = []:=hH.defers.trans rfl
  have hs:a.tmps[6]? = some (.pointer (some ⟨pr,0,none⟩)):=(hH.rest 6 (dst_free (by kernel_rfl))).trans rfl
  obtain ⟨cs,c1,c2,c3⟩:=hG.res
  obtain rfl:=c3 (hL' 36 (by omega))
  have ho2:=hG.outer.resolve_left (fun e=>by have e2:po = b:=congrArg Addr.block e;omega)
  have hA:Hid (After ⟨b,off,none⟩ (f || Jag b off f g0 pa pb pr po pm x0 x1 x2 y0 y1 y2 W U) W w):=by
   have e:=ho2.1
   rw [show (Jj b off f g0 pa pb pr po pm x0 x1 x2 y0 y1 y2 W U).tl = 35 from rfl,hL' 35 (by omega),Bool.true_and] at e
   exact hG.leaves.done e ho2.2
  have r0:w.cell? ⟨pr,0,none⟩ = some (J Y (cond (Jag b off f g0 pa pb pr po pm x0 x1 x2 y0 y1 y2 W U) 0 ((dot [x1,x2] [y2,(sub 0 y1).getD 0]).getD 0))):=(c2 0 _ rfl).1
  have r1:w.cell? ⟨pr,1,none⟩ = some (J Y (cond (Jag b off f g0 pa pb pr po pm x0 x1 x2 y0 y1 y2 W U) 0 ((dot [x2,x0] [y0,(sub 0 y2).getD 0]).getD 0))):=(c2 1 _ rfl).1
  have r2:w.cell? ⟨pr,2,none⟩ = some (J Y (cond (Jag b off f g0 pa pb pr po pm x0 x1 x2 y0 y1 y2 W U) 0 ((dot [x0,x1] [y1,(sub 0 y0).getD 0]).getD 0))):=(c2 2 _ rfl).1
  clear hL hLo hL' hH hG c1 c2 c3 ho2 hπ
  go_wp2
  refine bodyPost_ret (by simp [results,results60,go_sem,hs,r0,r1,r2];try rfl) hdf ?_
  exact ⟨_,_,_,_,rfl,Jni SG.out (by simp [Jag]),hA⟩
end
section
open Go.RowKit Fx
theorem Je2 {x n R:Int} (hR:0 <= R) (hn:0 <= n) (h:x * x + R < (n + 1) * (n + 1)):-n <= x/\x <= n:=by
 constructor
 ·apply Int.not_lt.1
  intro hlt
  have:=Int.mul_le_mul (show n + 1 <= -x by omega) (show n + 1 <= -x by omega) (by omega) (by omega)
  rw [Int.neg_mul_neg] at this
  omega
 ·apply Int.not_lt.1
  intro hlt
  have:=Int.mul_le_mul (show n + 1 <= x by omega) (show n + 1 <= x by omega) (by omega) (by omega)
  omega
theorem Jav (x:Int):0 <= x * x:=by
 rcases Int.le_total 0 x with g | g
 ·exact Int.mul_nonneg g g
 ·exact Int.mul_nonneg_of_nonpos_of_nonpos g g
end
section
open Go.RowKit Fx
theorem Jow (b off:Nat) (f:Bool) (m0 m1 m2 m3 m4 m5 m6 m7 m8 x0 x1 x2:Int) (W:World) (hc:W.cell? ⟨b,off,none⟩ = some (.bool f)) (hf:W.frozen? ⟨b,off,none⟩ = false) :
  Calls Tryz.prog 96 #[.pointer (some ⟨b,off,none⟩),.agg #[J Y m0,J Y m1,J Y m2,J Y m3,J Y m4,J Y m5,J Y m6,J Y m7,J Y m8],.agg #[J Y x0,J Y x1,J Y x2]] W fun e W'=>∃ v0 v1 v2 g,e = .returned (.agg #[J Y v0,J Y v1,J Y v2])/\Hid (Jc3 f (dot [m0,m3,m6] [x0,x1,x2]) (dot [m1,m4,m7] [x0,x1,x2]) (dot [m2,m5,m8] [x0,x1,x2]) v0 v1 v2 g)/\Hid (After ⟨b,off,none⟩ g W W'):=by
 have hbW:b < W.heap.size:=JB _ _ hc
 have HC:Hid _:=hc
 have HF:Hid _:=hf
 clear hc hf
 go_enter func96,ntmps96
 go_wp2_with (fail)
 refine (Jiz b off f m0 m3 m6 m1 m4 m7 m2 m5 m8 x0 x1 x2 _ (by rw [World.cell?_alloc_past _ _ _ (by simp;omega),World.cell?_alloc_past _ _ _ (by simp;omega),World.cell?_alloc_past _ _ _ hbW];exact HC.out) (by rw [((Jg _ _).frozen (by simp;omega)),((Jg _ _).frozen (by simp;omega)),((Jg _ _).frozen hbW)];exact HF.out)).mono ?_
 rintro e W1 ⟨v0,v1,v2,g,rfl,S,A⟩
 have HL:Hid (Leaves ⟨b,off,none⟩ W W1):=((((Leaves.refl _ _).alloc _).alloc _).alloc _).same A.out
 have hp:=A.out.cell
 have hpf:=A.out.frozen
 have r0:=A.out.cellOf (q:=⟨W.heap.size + 1 + 1,0,none⟩) (v:=J Y 0) (by simp [go_sem]) (by simp;omega)
 have r1:=A.out.cellOf (q:=⟨W.heap.size + 1 + 1,1,none⟩) (v:=J Y 0) (by simp [go_sem]) (by simp;omega)
 have r2:=A.out.cellOf (q:=⟨W.heap.size + 1 + 1,2,none⟩) (v:=J Y 0) (by simp [go_sem]) (by simp;omega)
 have f0:=A.out.frozenOf (q:=⟨W.heap.size + 1 + 1,0,none⟩) (v:=J Y 0) (by simp [go_sem]) (by simp [go_sem]) (by simp;omega)
 have f1:=A.out.frozenOf (q:=⟨W.heap.size + 1 + 1,1,none⟩) (v:=J Y 0) (by simp [go_sem]) (by simp [go_sem]) (by simp;omega)
 have f2:=A.out.frozenOf (q:=⟨W.heap.size + 1 + 1,2,none⟩) (v:=J Y 0) (by simp [go_sem]) (by simp [go_sem]) (by simp;omega)
 have n1:b ≠ W.heap.size + 1 + 1:=by omega
 have n2:W.heap.size + 1 + 1 ≠ b:=by omega
 clear A HC HF
 go_wp2_with (fail)
 refine bodyPost_ret (by simp [results,results96,go_sem,r0,r1,r2];try rfl) rfl ?_
 refine ⟨_,_,_,_,rfl,S,(((HL.out.set (by simp;omega) _).set (by simp;omega) _).set (by simp;omega) _).done ?_ ?_⟩
 ·simp [go_sem,hp]
 ·simp [go_sem,hpf]
theorem Ji7 (b off:Nat) (f:Bool) (x y z u:Int) (W:World) (hc:W.cell? ⟨b,off,none⟩ = some (.bool f)) (hf:W.frozen? ⟨b,off,none⟩ = false) :
  Calls Tryz.prog 116 #[.pointer (some ⟨b,off,none⟩),.slice (some ⟨W.heap.size,0,none⟩) 4 4] (W.alloc (.cells #[J Y x,J Y y,J Y z,J Y u] 3)) fun e W'=>∃ v g,e = .returned (J Y v)/\Hid (Ja7 f (Jae [x,y,z,u]) v g)/\Hid (After ⟨b,off,none⟩ g W W'):=by
 have hb:=Jg W (.cells #[J Y x,J Y y,J Y z,J Y u] 3)
 have hc':=Jh hb hc
 have hf':=Ji hb hc hf
 have h:=Jra b off f [x,y,z,u] W.heap.size 0 4 (W.alloc (.cells #[J Y x,J Y y,J Y z,J Y u] 3)) hc' hf' (fun k hk=>by
  match k,hk with
  | 0,_=>simp
  | 1,_=>simp
  | 2,_=>simp
  | 3,_=>simp) (by simp)
 exact h.mono fun _ _ ⟨a,h⟩=>⟨_,_,a,⟨rfl,rfl⟩,Jb9 (Jax hb h) hc hf⟩
def Jw (q0 q1 q2 q3:Int):Bool:=decide (((Jae [q0,q1,q2,q3]).getD 0) < 2147483648) || ((Ju q0 4294967296 ((Jae [q0,q1,q2,q3]).getD 0)).isNone || (Ju q1 4294967296 ((Jae [q0,q1,q2,q3]).getD 0)).isNone || (Ju q2 4294967296 ((Jae [q0,q1,q2,q3]).getD 0)).isNone || (Ju q3 4294967296 ((Jae [q0,q1,q2,q3]).getD 0)).isNone)
theorem Jl0 (b off:Nat) (f:Bool) (q0 q1 q2 q3:Int) (W:World) (hc:W.cell? ⟨b,off,none⟩ = some (.bool f)) (hf:W.frozen? ⟨b,off,none⟩ = false) :
  Calls Tryz.prog 109 #[.pointer (some ⟨b,off,none⟩),.agg #[J Y q0,J Y q1,J Y q2,J Y q3]] W fun e W'=>∃ v0 v1 v2 v3 g,e = .returned (.agg #[J Y v0,J Y v1,J Y v2,J Y v3])/\Hid (v0 = cond (Jw q0 q1 q2 q3) 0 ((Ju q0 4294967296 ((Jae [q0,q1,q2,q3]).getD 0)).getD 0)/\v1 = cond (Jw q0 q1 q2 q3) 0 ((Ju q1 4294967296 ((Jae [q0,q1,q2,q3]).getD 0)).getD 0)/\v2 = cond (Jw q0 q1 q2 q3) 0 ((Ju q2 4294967296 ((Jae [q0,q1,q2,q3]).getD 0)).getD 0)/\v3 = cond (Jw q0 q1 q2 q3) 0 ((Ju q3 4294967296 ((Jae [q0,q1,q2,q3]).getD 0)).getD 0)/\g = (f || Jw q0 q1 q2 q3))/\Hid (After ⟨b,off,none⟩ g W W'):=by
 have hbW:b < W.heap.size:=JB _ _ hc
 have HC:Hid _:=hc
 have HF:Hid _:=hf
 clear hc hf
 go_enter func109,ntmps109
 go_wp2_with (fail)
 have N:=Ji7 (W.heap.size + 1 + 1) 0 false q0 q1 q2 q3 (((W.alloc (.cells #[J Y q0,J Y q1,J Y q2,J Y q3] 29)).alloc (.cells #[J Y 0,J Y 0,J Y 0,J Y 0] 29)).alloc (.cells #[.bool false] 47)) (by simp [go_sem]) (by simp [go_sem])
 simp only [World.size_alloc] at N
 refine N.mono ?_
 rintro e W1 ⟨nn,g1,rfl,S,A⟩
 clear N
 have hp:=A.out.cellOf (q:=⟨b,off,none⟩) (v:=.bool f) (by rw [World.cell?_alloc_past _ _ _ (by simp;omega),World.cell?_alloc_past _ _ _ (by simp;omega),World.cell?_alloc_past _ _ _ hbW];exact HC.out) (by simp;omega)
 have hpf:=A.out.frozenOf (q:=⟨b,off,none⟩) (v:=.bool f) (by rw [World.cell?_alloc_past _ _ _ (by simp;omega),World.cell?_alloc_past _ _ _ (by simp;omega),World.cell?_alloc_past _ _ _ hbW];exact HC.out) (by rw [((Jg _ _).frozen (by simp;omega)),((Jg _ _).frozen (by simp;omega)),((Jg _ _).frozen hbW)];exact HF.out) (by simp;omega)
 have HL:Hid (Leaves ⟨b,off,none⟩ W W1):=((((Leaves.refl _ _).alloc _).alloc _).alloc _).after A.out (by simp;omega)
 have ho:=A.out.cell
 have hof:=A.out.frozen
 have k0:=A.out.cellOf (q:=⟨W.heap.size,0,none⟩) (v:=J Y q0) (by simp [go_sem]) (by simp;omega)
 have f0:=A.out.frozenOf (q:=⟨W.heap.size + 1,0,none⟩) (v:=J Y 0) (by simp [go_sem]) (by simp [go_sem]) (by simp)
 have r0:=A.out.cellOf (q:=⟨W.heap.size + 1,0,none⟩) (v:=J Y 0) (by simp [go_sem]) (by simp)
 have k1:=A.out.cellOf (q:=⟨W.heap.size,1,none⟩) (v:=J Y q1) (by simp [go_sem]) (by simp;omega)
 have f1:=A.out.frozenOf (q:=⟨W.heap.size + 1,1,none⟩) (v:=J Y 0) (by simp [go_sem]) (by simp [go_sem]) (by simp)
 have r1:=A.out.cellOf (q:=⟨W.heap.size + 1,1,none⟩) (v:=J Y 0) (by simp [go_sem]) (by simp)
 have k2:=A.out.cellOf (q:=⟨W.heap.size,2,none⟩) (v:=J Y q2) (by simp [go_sem]) (by simp;omega)
 have f2:=A.out.frozenOf (q:=⟨W.heap.size + 1,2,none⟩) (v:=J Y 0) (by simp [go_sem]) (by simp [go_sem]) (by simp)
 have r2:=A.out.cellOf (q:=⟨W.heap.size + 1,2,none⟩) (v:=J Y 0) (by simp [go_sem]) (by simp)
 have k3:=A.out.cellOf (q:=⟨W.heap.size,3,none⟩) (v:=J Y q3) (by simp [go_sem]) (by simp;omega)
 have f3:=A.out.frozenOf (q:=⟨W.heap.size + 1,3,none⟩) (v:=J Y 0) (by simp [go_sem]) (by simp [go_sem]) (by simp)
 have r3:=A.out.cellOf (q:=⟨W.heap.size + 1,3,none⟩) (v:=J Y 0) (by simp [go_sem]) (by simp)
 have n1:b ≠ W.heap.size + 1:=by omega
 have n2:W.heap.size + 1 ≠ b:=by omega
 have n3:W.heap.size + 1 + 1 ≠ b:=by omega
 clear A HC HF
 obtain ⟨hn,hg1⟩:=S.out
 have HN:Hid _:=hn
 have HG:Hid _:=hg1
 clear S hn hg1
 by_cases hlow:nn < 2147483648
 ·have hbad:Hid (Jw q0 q1 q2 q3 = true):=by show _ = _;unfold Jw;rw [<- HN.out];simp [hlow]
  go_wp2_with (fail)
  refine bodyPost_ret (by simp [results,results109,go_sem,r0,r1,r2,r3];try rfl) rfl ?_
  refine ⟨0,0,0,0,true,rfl,?_,?_⟩
  ·show _/\_/\_/\_/\_
   rw [hbad.out];simp
  ·refine (((((HL.out.own _).set (by simp) _).set (by simp) _).set (by simp) _).set (by simp) _).done ?_ ?_
   ·simp [go_sem,hp]
   ·simp [go_sem,hpf]
 ·go_wp2_with (fail)
  refine (Jif (W.heap.size + 1 + 1) g1 q0 q1 q2 q3 nn nn nn nn W1 ho hof).mono ?_
  rintro e W2 ⟨g2,rfl,SG,A⟩
  have HL2:Hid (Leaves ⟨b,off,none⟩ W W2):=HL.out.after A.out (by simp;omega)
  have hpf:=A.out.frozenOf hp hpf (by simp;omega)
  have hp:=A.out.cellOf hp (by simp;omega)
  have ho:=A.out.cell
  have hof:=A.out.frozen
  have f0:=A.out.frozenOf r0 f0 (by simp)
  have r0:=A.out.cellOf r0 (by simp)
  have f1:=A.out.frozenOf r1 f1 (by simp)
  have r1:=A.out.cellOf r1 (by simp)
  have f2:=A.out.frozenOf r2 f2 (by simp)
  have r2:=A.out.cellOf r2 (by simp)
  have f3:=A.out.frozenOf r3 f3 (by simp)
  have r3:=A.out.cellOf r3 (by simp)
  clear A HL
  go_wp2_with (fail)
  refine (Jit b off (W.heap.size + 1 + 1) f g2 _ _ _ _ W2 hp hpf ho).mono ?_
  rintro e W3 ⟨rfl,A⟩
  have HL3:Hid (Leaves ⟨b,off,none⟩ W W3):=HL2.out.same A.out
  have hp:=A.out.cell
  have hpf:=A.out.frozen
  have f0:=A.out.frozenOf r0 f0 (by simp;omega)
  have r0:=A.out.cellOf r0 (by simp;omega)
  have f1:=A.out.frozenOf r1 f1 (by simp;omega)
  have r1:=A.out.cellOf r1 (by simp;omega)
  have f2:=A.out.frozenOf r2 f2 (by simp;omega)
  have r2:=A.out.cellOf r2 (by simp;omega)
  have f3:=A.out.frozenOf r3 f3 (by simp;omega)
  have r3:=A.out.cellOf r3 (by simp;omega)
  have hbad:Hid (Jw q0 q1 q2 q3 = g2):=by
   show _ = _
   have e1:(Jae [q0,q1,q2,q3]).isNone = false:=by
    cases h:Jae [q0,q1,q2,q3] with
    | none=>have:=HN.out;rw [h] at this;exact absurd this (by simp;omega)
    | some v=>rfl
   have e2:g1 = false:=by rw [HG.out,e1];rfl
   unfold Jw
   rw [<- HN.out,SG.out,e2,decide_eq_false (by omega)]
  clear A HL2
  go_wp2_with (fail)
  refine bodyPost_ret (by simp [results,results109,go_sem,r0,r1,r2,r3];try rfl) rfl ?_
  refine ⟨_,_,_,_,_,rfl,?_,((((HL3.out.set (by simp) _).set (by simp) _).set (by simp) _).set (by simp) _).done (g:=f || g2) ?_ ?_⟩
  ·show _/\_/\_/\_/\_
   rw [hbad.out,<- HN.out]
   exact ⟨rfl,rfl,rfl,rfl,rfl⟩
  ·simp [go_sem,hp]
  ·simp [go_sem,hpf]
end
section
open Go.RowKit Fx
namespace WM
theorem Jd4 {a b A B:Int} (ha:-A <= a/\a <= A) (hb:-B <= b/\b <= B):-(A * B) <= a * b/\a * b <= A * B:=by
 have h1:=Int.mul_nonneg (show 0 <= A - a by omega) (show 0 <= B + b by omega)
 have h2:=Int.mul_nonneg (show 0 <= A + a by omega) (show 0 <= B - b by omega)
 have h3:=Int.mul_nonneg (show 0 <= A - a by omega) (show 0 <= B - b by omega)
 have h4:=Int.mul_nonneg (show 0 <= A + a by omega) (show 0 <= B + b by omega)
 simp only [Int.add_mul,Int.sub_mul,Int.mul_add,Int.mul_sub] at h1 h2 h3 h4
 omega
theorem Jll {x y z u s:Int} (h:Jae [x,y,z,u] = some s):great x = false/\great y = false/\great z = false/\great u = false/\great s = false/\0 <= s/\s * s <= x * x + (y * y + (z * z + u * u))/\x * x + (y * y + (z * z + u * u)) < (s + 1) * (s + 1):=by
 unfold Jae at h
 split at h
 ·simp at h
 ·split at h
  ·simp at h
  ·rename_i ha
   unfold Fx.told at h
   split at h
   ·simp at h
   ·rename_i hg
    have hg':great _ = false:=Bool.eq_false_iff.2 hg
    simp only [Option.some.injEq] at h
    rw [h] at hg'
    obtain ⟨p,q⟩:=isq_is (Jad [x,y,z,u] [x,y,z,u]).toNat
    have h0:=Jd0 [x,y,z,u]
    generalize hr:isq (Jad [x,y,z,u] [x,y,z,u]).toNat = r at *
    have p':=Int.ofNat_le.2 p
    have q':=Int.ofNat_lt.2 q
    rw [Int.toNat_of_nonneg h0,Int.natCast_mul] at p' q'
    rw [Int.natCast_add] at q'
    simp only [Jad,Int.add_zero] at p' q'
    simp only [List.any_cons,List.any_nil,Bool.or_false,Bool.not_eq_true,Bool.or_eq_false_iff] at ha
    subst h
    exact ⟨ha.1,ha.2.1,ha.2.2.1,ha.2.2.2,hg',by omega,p',q'⟩
theorem Jn1 {x n u t:Int} (hn:0 < n) (ht:-t <= x/\x <= t) (htn:t <= n) (hu:u = x * 4294967296 / n):-4294967296 <= u/\u <= 4294967296/\n * n * (u * u) <= 18446744073709551616 * (x * x) + 8589934592 * (t * n) + n * n/\18446744073709551616 * (x * x) <= n * n * (u * u) + 8589934592 * (t * n):=by
 have hd:=Jgi (x * 4294967296) n (by omega)
 rw [<- hu] at hd
 obtain ⟨e,he⟩:∃ e,e = x * 4294967296 - u * n:=⟨_,rfl⟩
 have e0:0 <= e:=by omega
 have e1:e < n:=by have:=hd.2;rw [Int.add_mul] at this;omega
 have un:u * n = x * 4294967296 - e:=by omega
 have sq:n * n * (u * u) = 18446744073709551616 * (x * x) - 8589934592 * (x * e) + e * e:=by
  have:n * n * (u * u) = (u * n) * (u * n):=by grind
  rw [this,un];grind
 have b1:=Jd4 (a:=x) (b:=e) (A:=t) (B:=n) ht (by omega)
 have b3:e * e <= n * n:=Int.mul_le_mul (by omega) (by omega) e0 (by omega)
 have b4:0 <= e * e:=Int.mul_nonneg e0 e0
 refine ⟨?_,?_,by omega,by omega⟩
 ·apply Int.not_lt.1
  intro hlt
  have:=Int.mul_le_mul_of_nonneg_right (show u + 1 <= -4294967296 by omega) (show 0 <= n by omega)
  have:=hd.2
  omega
 ·apply Int.not_lt.1
  intro hlt
  have:=Int.mul_le_mul_of_nonneg_right (show 4294967297 <= u by omega) (show 0 <= n by omega)
  have:=hd.1
  omega
theorem Jgw (x:Int):∃ t:Int,0 <= t/\(-t <= x/\x <= t)/\t * t = x * x/\(t = x \/ t = -x):=by
 rcases Int.le_total 0 x with g | g
 ·exact ⟨x,g,⟨by omega,by omega⟩,rfl,Or.inl rfl⟩
 ·exact ⟨-x,by omega,⟨by omega,by omega⟩,by rw [Int.neg_mul_neg],Or.inr rfl⟩
theorem Jsr (a b c d:Int):(a + b + c + d) * (a + b + c + d) <= 4 * (a * a + (b * b + (c * c + d * d))):=by
 have h1:=Jav (a - b)
 have h2:=Jav (a - c)
 have h3:=Jav (a - d)
 have h4:=Jav (b - c)
 have h5:=Jav (b - d)
 have h6:=Jav (c - d)
 have e:4 * (a * a + (b * b + (c * c + d * d))) - (a + b + c + d) * (a + b + c + d) = (a - b) * (a - b) + (a - c) * (a - c) + (a - d) * (a - d) + (b - c) * (b - c) + (b - d) * (b - d) + (c - d) * (c - d):=by grind
 omega
theorem whole_long {x y z s n:Int} (h:Jae [x,y,z,s] = some n) (hn:2147483648 <= n):∃ a b c d l,Ju x 4294967296 n = some a/\Ju y 4294967296 n = some b/\Ju z 4294967296 n = some c/\Ju s 4294967296 n = some d/\Jae [a,b,c,d] = some l/\4294967292 <= l/\l <= 4294967300 /\
  (-4294967296 <= a/\a <= 4294967296)/\(-4294967296 <= b/\b <= 4294967296)/\(-4294967296 <= c/\c <= 4294967296)/\(-4294967296 <= d/\d <= 4294967296) /\
  -34359738376 <= a * a + (b * b + (c * c + d * d)) - 18446744073709551616/\a * a + (b * b + (c * c + d * d)) - 18446744073709551616 <= 34359738376:=by
 obtain ⟨gx,gy,gz,gs,gn,n0,h1,h2⟩:=Jll h
 have px:=Jav x
 have py:=Jav y
 have pz:=Jav z
 have ps:=Jav s
 have ix:=Je2 (x:=x) (R:=y * y + (z * z + s * s)) (by omega) n0 (by omega)
 have iy:=Je2 (x:=y) (R:=x * x + (z * z + s * s)) (by omega) n0 (by omega)
 have iz:=Je2 (x:=z) (R:=x * x + (y * y + s * s)) (by omega) n0 (by omega)
 have is:=Je2 (x:=s) (R:=x * x + (y * y + z * z)) (by omega) n0 (by omega)
 obtain ⟨tx,tx0,tx1,tx2,tx3⟩:=Jgw x
 obtain ⟨ty,ty0,ty1,ty2,ty3⟩:=Jgw y
 obtain ⟨tz,tz0,tz1,tz2,tz3⟩:=Jgw z
 obtain ⟨ts,ts0,ts1,ts2,ts3⟩:=Jgw s
 have hx9:tx <= n:=by clear ty3 tz3 ts3;omega
 have hy9:ty <= n:=by clear tx3 tz3 ts3;omega
 have hz9:tz <= n:=by clear tx3 ty3 ts3;omega
 have hs9:ts <= n:=by clear tx3 ty3 tz3;omega
 clear tx3 ty3 tz3 ts3
 have kx:=Jn1 (u:=x * 4294967296 / n) (by omega) tx1 hx9 rfl
 have ky:=Jn1 (u:=y * 4294967296 / n) (by omega) ty1 hy9 rfl
 have kz:=Jn1 (u:=z * 4294967296 / n) (by omega) tz1 hz9 rfl
 have ks:=Jn1 (u:=s * 4294967296 / n) (by omega) ts1 hs9 rfl
 have one:∀ t:Int,great t = false->-4294967296 <= t * 4294967296 / n/\t * 4294967296 / n <= 4294967296->Ju t 4294967296 n = some (t * 4294967296 / n):=by
  intro t gt hb
  have g1:great 4294967296 = false:=by decide
  have g2:great (t * 4294967296 / n) = false:=(not_great _).2 ⟨Int.le_trans (by omega) hb.1,Int.le_trans hb.2 (by omega)⟩
  unfold Ju fl
  rw [if_neg (by omega:¬ n = 0),gt,g1,gn,if_neg (by omega:¬ n < 0)]
  simp [Fx.told,g2]
 have r0:=one x gx ⟨kx.1,kx.2.1⟩
 have r1:=one y gy ⟨ky.1,ky.2.1⟩
 have r2:=one z gz ⟨kz.1,kz.2.1⟩
 have r3:=one s gs ⟨ks.1,ks.2.1⟩
 generalize x * 4294967296 / n = a at *
 generalize y * 4294967296 / n = b at *
 generalize z * 4294967296 / n = c at *
 generalize s * 4294967296 / n = d at *
 clear one
 have ga:great a = false:=(not_great _).2 (by omega)
 have gb:great b = false:=(not_great _).2 (by omega)
 have gc:great c = false:=(not_great _).2 (by omega)
 have gd:great d = false:=(not_great _).2 (by omega)
 obtain ⟨T,hT⟩:∃ T,T = tx + ty + tz + ts:=⟨_,rfl⟩
 have hc:=Jsr tx ty tz ts
 rw [<- hT,tx2,ty2,tz2,ts2] at hc
 have h3:(n + 1) * (n + 1) = n * n + 2 * n + 1:=by grind
 have hT1:T <= 2 * n + 1:=by
  apply Int.not_lt.1
  intro hlt
  have:=Int.mul_le_mul (show 2 * (n + 1) <= T by omega) (show 2 * (n + 1) <= T by omega) (by omega) (by omega)
  have e:2 * (n + 1) * (2 * (n + 1)) = 4 * ((n + 1) * (n + 1)):=by grind
  omega
 have hTn:T * n <= (2 * n + 1) * n:=Int.mul_le_mul_of_nonneg_right hT1 n0
 have hTn':T * n = tx * n + ty * n + tz * n + ts * n:=by rw [hT];grind
 have e1:(2 * n + 1) * n = 2 * (n * n) + n:=by grind
 have nn:2147483648 * n <= n * n:=Int.mul_le_mul_of_nonneg_right hn n0
 have np:0 < n * n:=Int.mul_pos (by omega) (by omega)
 obtain ⟨S,hS⟩:∃ S,S = a * a + (b * b + (c * c + d * d)):=⟨_,rfl⟩
 have pa:=Jav a
 have pb:=Jav b
 have pc:=Jav c
 have pd:=Jav d
 have S0:0 <= S:=by omega
 have hnS:n * n * S = n * n * (a * a) + (n * n * (b * b) + (n * n * (c * c) + n * n * (d * d))):=by rw [hS,Int.mul_add,Int.mul_add,Int.mul_add]
 rw [h3] at h2
 clear hc tx2 ty2 tz2 ts2
 have up:n * n * S <= n * n * 18446744108069289992:=by omega
 have lo:n * n * 18446744056529682428 <= n * n * S:=by omega
 have up':S <= 18446744108069289992:=Int.le_of_mul_le_mul_left up np
 have lo':18446744056529682428 <= S:=Int.le_of_mul_le_mul_left lo np
 have hpr:Jad [a,b,c,d] [a,b,c,d] = S:=by simp only [Jad,Int.add_zero,hS]
 obtain ⟨p,q⟩:=isq_is S.toNat
 obtain ⟨l,hl⟩:∃ l:Nat,l = isq S.toNat:=⟨_,rfl⟩
 rw [<- hl] at p q
 have p':=Int.ofNat_le.2 p
 have q':=Int.ofNat_lt.2 q
 rw [Int.toNat_of_nonneg S0,Int.natCast_mul] at p' q'
 rw [Int.natCast_add] at q'
 have l1:(4294967292:Int) <= l:=by
  apply Int.not_lt.1
  intro hlt
  have:=Int.mul_le_mul (show (l:Int) + ((1:Nat):Int) <= 4294967292 by omega) (show (l:Int) + ((1:Nat):Int) <= 4294967292 by omega) (by omega) (by omega)
  omega
 have l2:(l:Int) <= 4294967300:=by
  apply Int.not_lt.1
  intro hlt
  have:=Int.mul_le_mul (show (4294967301:Int) <= l by omega) (show (4294967301:Int) <= l by omega) (by omega) (by omega)
  omega
 refine ⟨a,b,c,d,l,r0,r1,r2,r3,?_,l1,l2,⟨kx.1,kx.2.1⟩,⟨ky.1,ky.2.1⟩,⟨kz.1,kz.2.1⟩,⟨ks.1,ks.2.1⟩,by omega,by omega⟩
 have gl:great (l:Int) = false:=(not_great _).2 (by omega)
 unfold Jae
 rw [if_neg (by simp),hpr,<- hl]
 simp [ga,gb,gc,gd,Fx.told,gl]
end WM
end
section
open Go.RowKit Fx
namespace WM
def Whole (w x y z:Int):Prop:=(-4294967296 <= w/\w <= 4294967296)/\(-4294967296 <= x/\x <= 4294967296)/\(-4294967296 <= y/\y <= 4294967296)/\(-4294967296 <= z/\z <= 4294967296) /\
  -34359738376 <= w * w + (x * x + (y * y + z * z)) - 18446744073709551616/\w * w + (x * x + (y * y + z * z)) - 18446744073709551616 <= 34359738376
end WM
end
section
open Go.RowKit Fx
structure M9.Fit (m:M9):Prop where
 h0:-8589934592 <= m.a0/\m.a0 <= 8589934592
 h1:-8589934592 <= m.a1/\m.a1 <= 8589934592
 h2:-8589934592 <= m.a2/\m.a2 <= 8589934592
 h3:-8589934592 <= m.a3/\m.a3 <= 8589934592
 h4:-8589934592 <= m.a4/\m.a4 <= 8589934592
 h5:-8589934592 <= m.a5/\m.a5 <= 8589934592
 h6:-8589934592 <= m.a6/\m.a6 <= 8589934592
 h7:-8589934592 <= m.a7/\m.a7 <= 8589934592
 h8:-8589934592 <= m.a8/\m.a8 <= 8589934592
end
section
open Go.RowKit Go.Shelf
def Jbg (c n:Int):Int:=(if c < 0 then -(c + 1) else c) % n
theorem Jbt (c:Int) {n:Int} (hn:0 < n):0 <= Jbg c n:=Int.emod_nonneg _ (by omega)
theorem Jbs (c:Int) {n:Int} (hn:0 < n):Jbg c n < n:=Int.emod_lt_of_pos _ hn
theorem Jf1 (c n:Int) (w:World) (hc:-9223372036854775808 <= c/\c <= 9223372036854775807) (hn:0 < n) (hn':n <= 9223372036854775807) :
  Calls Tryz.prog 77 #[J Y c,J Y n] w fun e w'=>e = .returned (J Y (Jbg c n))/\w' = w:=by
 unfold Jbg
 by_cases h:c < 0
 ·have hb:0 <= -(c + 1):=by omega
  have hb':-(c + 1) <= 9223372036854775807:=by omega
  have hz:(n == 0) = false:=beq_eq_false_iff_ne.2 (by omega)
  rw [if_pos h]
  go_enter func77,ntmps77
  go_wp2
  go_ret
  have e:(c + 1).tmod n = -(-(c + 1) % n):=by
   rw [<- Int.tmod_eq_emod_of_nonneg hb,Int.neg_tmod,Int.neg_neg]
  exact ⟨by rw [e,Int.neg_neg];rfl,rfl⟩
 ·have hz:(n == 0) = false:=beq_eq_false_iff_ne.2 (by omega)
  rw [if_neg h]
  go_enter func77,ntmps77
  go_wp2
  go_ret
  exact ⟨rfl,rfl⟩
theorem Jfg (c n:Int) (w:World) (hc:-9223372036854775808 <= c/\c <= 9223372036854775807) (hn:0 < n) (hn':n <= 9223372036854775807) :
  Calls Tryz.prog 77 #[J Y c,J Y n] w fun e w'=>e = .returned (J Y (Jbg c n))/\Below w.heap.size w w':=
 Calls.mono (Jf1 c n w hc hn hn') (by rintro e w2 ⟨rfl,rfl⟩;exact ⟨rfl,Below.refl _ _⟩)
theorem Jug {cs:Array Value} (h:cs.size = 6):∃ a b c d e f,cs = #[a,b,c,d,e,f]:=by
 obtain ⟨l⟩:=cs
 match l,h with
 | [a,b,c,d,e,f],_=>exact ⟨a,b,c,d,e,f,rfl⟩
end
end Go.Proofs.YteebbpioffdncaaGreat
