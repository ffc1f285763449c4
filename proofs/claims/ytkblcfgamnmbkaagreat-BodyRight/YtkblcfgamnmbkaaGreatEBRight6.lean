/- Package vec's product of turns. -/
import Derived.Test.YtkblcfgamnmbkaaGreatEBRight0
import Derived.Test.YtkblcfgamnmbkaaGreatEBRight5
import Derived.Test.YtkblcfgamnmbkaaGreatEBRight3
import Derived.Deep.CutBlock
import Derived.Test.YtkblcfgamnmbkaaGreatEBRight2
set_option maxHeartbeats 4000000
set_option maxRecDepth 100000
set_option linter.unusedVariables false
namespace Go.Proofs.YtkblcfgamnmbkaaGreat
open Go.Calls renaming mono -> JA
open Go.World renaming block_lt_of_cell? -> JB
open Go.Region renaming binds -> JC
open Go renaming execOp -> JD
open Go.Proofs.Tryz
open Go.Value renaming int -> J
open Go.IntKind renaming i64 -> Y
open Go.Value renaming pointer -> BO
open Go.Obj renaming cells -> BP
open Go.Value renaming slice -> BQ
open Go.Value renaming bool -> BT
open Go.RowKit renaming Hid -> BU
open Go renaming World -> BV
open Go.Ending renaming returned -> BZ
open Go renaming Value -> B7
open Go.Value renaming agg -> B_
open Go renaming Calls -> Cd
open Go renaming Addr -> Ce
open Go renaming Act -> Cf
section
open Go.RowKit Ref Fx
def Jnk:List B7:=[J Y 0,J Y 0,J Y 0,J Y 0]
def C4(p:Nat)(d:Bool)(fin:List B7)(V:BV):Prop:=∀ k,k<4->V.cell? ⟨p,k,none⟩=some ((cond d fin Jnk).getD k undef)/\V.frozen? ⟨p,k,none⟩=false
theorem C4.keep{p:Nat}{d:Bool}{fin:List B7}{V V':BV}(h:C4 p d fin V)(hk:∀(q:Nat) (u:B7),V.cell? ⟨p,q,none⟩=some u/\V.frozen? ⟨p,q,none⟩=false->V'.cell? ⟨p,q,none⟩=some u/\V'.frozen? ⟨p,q,none⟩=false):C4 p d fin V':=fun k ru=>hk k _ (h k ru)
def Sl4(B:Nat)(zs:List Int)(v:B7)(w:BV):Prop:=∃ g,v = BQ (some ⟨g,0,none⟩) 4 4/\B<=g/\∀ k,k<zs.length->w.cell? ⟨g,k,none⟩=some (J Y (zs.getD k 0))
theorem Sl4.keep{B:Nat}{zs:List Int}{v:B7}{w w':BV}(h:Sl4 B zs v w)(hk:∀(q:Ce) (u:B7),B<=q.block->w.cell? q=some u->w'.cell? q=some u):Sl4 B zs v w':=by
 obtain⟨g,h1,h2,h3⟩:=h;exact⟨g,h1,h2,fun k ru=>hk _ _ h2 (h3 k ru)⟩
theorem Sl4.new{B:Nat}{x y z u:Int}{w:BV}(h:B<=w.heap.size):Sl4 B [x,y,z,u] (BQ (some ⟨w.heap.size,0,none⟩) 4 4) (w.alloc (BP #[J Y x,J Y y,J Y z,J Y u] 3)):=by
 refine⟨w.heap.size,rfl,h,fun k hk=>?_⟩
 match k,hk with
 | 0,_=>simp[go_sem]
 | 1,_=>simp[go_sem]
 | 2,_=>simp[go_sem]
 | 3,_=>simp[go_sem]
theorem Jhq{w:BV}{g:Nat}{zs:List Int}(h:∀ k,k<zs.length->w.cell? ⟨g,k,none⟩=some (J Y (zs.getD k 0))):Jc2 w (some ⟨g,0,none⟩) zs:=
 Or.inr ⟨g,0,rfl,fun k hk=>by rw[Nat.zero_add];exact h k hk⟩
theorem Jfi{V:BV}{p:Nat}{u0 u1 u2 u3:B7}{q:Ce}(h:q.block≠p):((((V.setCell ⟨p,0,none⟩ u0).setCell ⟨p,1,none⟩ u1).setCell ⟨p,2,none⟩ u2).setCell ⟨p,3,none⟩ u3).cell? q=V.cell? q:=by
 have f:∀(X:BV) (i:Nat) (u:B7),(X.setCell ⟨p,i,none⟩ u).cell? q=X.cell? q:=fun X i u=>World.cell?_of_block (w:=X) (Below.heap_setCell X ⟨p,i,none⟩ u q.block h);rw[f,f,f,f]
theorem Jcx{V:BV}{p:Nat}{u0 u1 u2 u3:B7}{q:Ce}:((((V.setCell ⟨p,0,none⟩ u0).setCell ⟨p,1,none⟩ u1).setCell ⟨p,2,none⟩ u2).setCell ⟨p,3,none⟩ u3).frozen? q=V.frozen? q:=by
 rw[World.frozen?_setCell,World.frozen?_setCell,World.frozen?_setCell,World.frozen?_setCell]
theorem Jh8{V:BV}{p:Nat}{u0 u1 u2 u3:B7}{fin:List B7}(h:C4 p false fin V):C4 p true [u0,u1,u2,u3] ((((V.setCell ⟨p,0,none⟩ u0).setCell ⟨p,1,none⟩ u1).setCell ⟨p,2,none⟩ u2).setCell ⟨p,3,none⟩ u3):=by
 have z0:=(h 0 (by decide)).1;have z1:=(h 1 (by decide)).1;have z2:=(h 2 (by decide)).1;have z3:=(h 3 (by decide)).1;intro k hk;refine⟨?_,by rw[Jcx];exact(h k hk).2⟩
 match k,hk with
 | 0,_=>simp[go_sem,z0]
 | 1,_=>simp[go_sem,z1]
 | 2,_=>simp[go_sem,z2]
 | 3,_=>simp[go_sem,z3]
theorem Ho.tell{W V V':BV}{p:Ce}{po:Nat}{f f' g:Bool}{l:List (Ce × B7)}(h:Ho W V p po f g l)(A:After p f' V V')(hl:∀ c∈l,c.1.block≠p.block):Ho W V' p po f' g l:=
 ⟨h.leaves.same A,A.cell,A.frozen,A.cellOf h.own (by have:=h.hp;have:=h.ho;show po≠p.block;omega),A.frozenOf h.own h.ownf (by have:=h.hp;have:=h.ho;show po≠p.block;omega),fun c hc=>⟨A.cellOf (h.fix c hc).1 (hl c hc),A.frozenOf (h.fix c hc).1 (h.fix c hc).2 (hl c hc)⟩,h.far,h.hp,h.ho⟩
theorem Ho.set4{W V:BV}{p:Ce}{po pr:Nat}{f g:Bool}{l:List (Ce × B7)}{u0 u1 u2 u3:B7}(h:Ho W V p po f g l)(h1:W.heap.size<=pr)(h2:pr≠po)(h3:pr≠p.block)(hl:∀ c∈l,c.1.block≠pr):Ho W ((((V.setCell ⟨pr,0,none⟩ u0).setCell ⟨pr,1,none⟩ u1).setCell ⟨pr,2,none⟩ u2).setCell ⟨pr,3,none⟩ u3) p po f g l:=
 ⟨(((h.leaves.set h1 _).set h1 _).set h1 _).set h1 _,(Jfi (Ne.symm h3)).trans h.flag,by rw[Jcx];exact h.flagf,(Jfi (Ne.symm h2)).trans h.own,by rw[Jcx];exact h.ownf,fun c hc=>⟨(Jfi (hl c hc)).trans (h.fix c hc).1,by rw[Jcx];exact(h.fix c hc).2⟩,h.far,h.hp,h.ho⟩
theorem Ho.more{W V:BV}{p:Ce}{po:Nat}{f g:Bool}{l k:List (Ce × B7)}(h:Ho W V p po f g l)(hk:∀ c∈k,(V.cell? c.1=some c.2/\V.frozen? c.1=false)/\c.1.block≠po):Ho W V p po f g (k++l):=
 ⟨h.leaves,h.flag,h.flagf,h.own,h.ownf,fun c hc=>(List.mem_append.1 hc).elim (fun a=>(hk c a).1) (h.fix c),fun c hc=>(List.mem_append.1 hc).elim (fun a=>(hk c a).2) (h.far c),h.hp,h.ho⟩
theorem Ho.less{W V:BV}{p:Ce}{po:Nat}{f g:Bool}{l k:List (Ce × B7)}(h:Ho W V p po f g l)(hk:∀ c∈k,c∈l):Ho W V p po f g k:=
 ⟨h.leaves,h.flag,h.flagf,h.own,h.ownf,fun c hc=>h.fix c (hk c hc),fun c hc=>h.far c (hk c hc),h.hp,h.ho⟩
structure T2(W V:BV)(p:Ce)(po:Nat)(f g:Bool)(l:List (Ce × B7))(B:Nat)(ps fin:List B7)(s m d:Bool)(vs vm:B7):Prop where
 ho:Ho W V p po f g l
 sl:s=true->∃ a,vs = BQ (some ⟨a,0,none⟩) 4 4/\B<=a/\C4 a true ps V
 bx:m=true->∃ a,vm = BO (some ⟨a,0,none⟩)/\B<=a/\C4 a d fin V
 ap:s=true->m=true->∀ a c,vs = BQ (some ⟨a,0,none⟩) 4 4->vm = BO (some ⟨c,0,none⟩)->a≠c
 bs:B<=V.heap.size
 lo:∀ c∈l,c.1.block<B
 pb:po<B
section
variable {W V V':BV} {p:Ce} {po:Nat} {f g g':Bool} {l:List (Ce × B7)} {B:Nat} {ps fin:List B7} {s m d:Bool} {vs vm:B7}
theorem T2.after(h:T2 W V p po f g l B ps fin s m d vs vm)(A:After ⟨po,0,none⟩ g' V V'):T2 W V' p po f g' l B ps fin s m d vs vm:=
 ⟨h.ho.after A,fun e=>(h.sl e).elim fun a x=>⟨a,x.1,x.2.1,x.2.2.keep (fun q u hq=>⟨A.cellOf hq.1 (by have:=x.2.1;have:=h.pb;show a≠po;omega),A.frozenOf hq.1 hq.2 (by have:=x.2.1;have:=h.pb;show a≠po;omega)⟩)⟩,
  fun e=>(h.bx e).elim fun a x=>⟨a,x.1,x.2.1,x.2.2.keep (fun q u hq=>⟨A.cellOf hq.1 (by have:=x.2.1;have:=h.pb;show a≠po;omega),A.frozenOf hq.1 hq.2 (by have:=x.2.1;have:=h.pb;show a≠po;omega)⟩)⟩,h.ap,Nat.le_trans h.bs A.size,h.lo,h.pb⟩
theorem Jpt{a:Nat}{d:Bool}{fin:List B7}(h:C4 a d fin V):a<V.heap.size:=JB _ _ (h 0 (by decide)).1
theorem Jml{a:Nat}{d:Bool}{fin:List B7}(h:C4 a d fin V)(o:Obj):C4 a d fin (V.alloc o):=h.keep (fun q u hq=>⟨Jf (Jd V o) hq.1,Jg (Jd V o) hq.1 hq.2⟩)
theorem Jr3(V:BV)(x0 x1 x2 x3:B7)(t:TypeId)(fin:List B7):C4 V.heap.size true [x0,x1,x2,x3] (V.alloc (BP #[x0,x1,x2,x3] t)):=fun k hk=>by
 match k,hk with
 | 0,_=>exact⟨by simp[go_sem],by simp[go_sem]⟩
 | 1,_=>exact⟨by simp[go_sem],by simp[go_sem]⟩
 | 2,_=>exact⟨by simp[go_sem],by simp[go_sem]⟩
 | 3,_=>exact⟨by simp[go_sem],by simp[go_sem]⟩
theorem T2.slice{x0 x1 x2 x3:B7}(h:T2 W V p po f g l B [x0,x1,x2,x3] fin false m d vs vm):T2 W (V.alloc (BP #[x0,x1,x2,x3] 3)) p po f g l B [x0,x1,x2,x3] fin true m d (BQ (some ⟨V.heap.size,0,none⟩) 4 4) vm:=
 ⟨h.ho.alloc _,fun _=>⟨_,rfl,h.bs,Jr3 V x0 x1 x2 x3 3 []⟩,fun e=>(h.bx e).elim fun a x=>⟨a,x.1,x.2.1,Jml x.2.2 _⟩,fun _ e a c ea ec=>by
  obtain⟨a',e1,_,e3⟩:=h.bx e;have:=Jpt e3;rw[e1]at ec;simp only[Value.slice.injEq,Value.pointer.injEq,Option.some.injEq,Addr.mk.injEq,and_true]at ea ec;omega,by rw[World.size_alloc];exact Nat.le_succ_of_le h.bs,h.lo,h.pb⟩
theorem T2.box(h:T2 W V p po f g l B ps fin s false false vs vm)(t:TypeId):T2 W (V.alloc (BP #[J Y 0,J Y 0,J Y 0,J Y 0] t)) p po f g l B ps fin s true false vs (BO (some ⟨V.heap.size,0,none⟩)):=
 ⟨h.ho.alloc _,fun e=>(h.sl e).elim fun a x=>⟨a,x.1,x.2.1,Jml x.2.2 _⟩,fun _=>⟨_,rfl,h.bs,fun k hk=>Jr3 V (J Y 0) (J Y 0) (J Y 0) (J Y 0) t [] k hk⟩,fun e _ a c ea ec=>by
  obtain⟨a',e1,_,e3⟩:=h.sl e;have:=Jpt e3;rw[e1]at ea;simp only[Value.slice.injEq,Value.pointer.injEq,Option.some.injEq,Addr.mk.injEq,and_true]at ea ec;omega,by rw[World.size_alloc];exact Nat.le_succ_of_le h.bs,h.lo,h.pb⟩
theorem T2.fill{a:Nat}{u0 u1 u2 u3:B7}(h:T2 W V p po f g l B ps [u0,u1,u2,u3] s true false vs (BO (some ⟨a,0,none⟩))):T2 W ((((V.setCell ⟨a,0,none⟩ u0).setCell ⟨a,1,none⟩ u1).setCell ⟨a,2,none⟩ u2).setCell ⟨a,3,none⟩ u3) p po f g l B ps [u0,u1,u2,u3] s true true vs (BO (some ⟨a,0,none⟩)):=by
 obtain⟨a',e1,e2,e3⟩:=h.bx rfl;obtain rfl:a=a':=by simpa using e1
 have aF:=h.pb;have hho:=h.ho.ho;have hhp:=h.ho.hp;refine⟨h.ho.set4 (by omega) (by omega) (by omega) (fun c hc=>by have:=h.lo c hc;omega),fun e=>?_,fun _=>⟨a,rfl,e2,Jh8 e3⟩,h.ap,by simpa [World.setCell] using h.bs,h.lo,h.pb⟩;obtain⟨c,x1,x2,x3⟩:=h.sl e;have hn:c≠a:=h.ap e rfl c a x1 rfl;exact⟨c,x1,x2,x3.keep (fun q u hq=>⟨(Jfi hn).trans hq.1,by rw[Jcx];exact hq.2⟩)⟩
end
theorem fq0{a b c d e:Bool}:(((((a ||(false&&b))||c)||d)||e)||b)=((((a ||(true&&b))||c)||d)||e):=by cases a <;> cases b <;> cases c <;> cases d <;> cases e <;> rfl
theorem fq1{a b c d e:Bool}:(((((a||b) ||(false&&c))||d)||e)||c)=((((a||b) ||(true&&c))||d)||e):=by cases a <;> cases b <;> cases c <;> cases d <;> cases e <;> rfl
theorem fq2{a b c d e:Bool}:(((((a||b)||c) ||(false&&d))||e)||d)=((((a||b)||c) ||(true&&d))||e):=by cases a <;> cases b <;> cases c <;> cases d <;> cases e <;> rfl
theorem fq3{a b c d e:Bool}:(((((a||b)||c)||d) ||(false&&e))||e)=((((a||b)||c)||d) ||(true&&e)):=by cases a <;> cases b <;> cases c <;> cases d <;> cases e <;> rfl
theorem Jrt{p0 p1 p2 p3 q0 q1 q2 q3:Int}:((((((sub 0 q0).isNone ||(sub 0 q1).isNone ||(sub 0 q2).isNone ||(sub 0 q3).isNone) ||(dot [p0,p1,p2,p3] [q0,((sub 0 q1).getD 0),((sub 0 q2).getD 0),((sub 0 q3).getD 0)]).isNone) ||(dot [p0,p1,p2,p3] [q1,q0,q3,((sub 0 q2).getD 0)]).isNone) ||(dot [p0,p1,p2,p3] [q2,((sub 0 q3).getD 0),q0,q1]).isNone) ||(dot [p0,p1,p2,p3] [q3,q2,((sub 0 q1).getD 0),q0]).isNone)=Jh p0 p1 p2 p3 q0 q1 q2 q3:=by
 unfold Jh;have h0:(sub 0 q0).isNone=true->(dot [p0,p1,p2,p3] [q0,((sub 0 q1).getD 0),((sub 0 q2).getD 0),((sub 0 q3).getD 0)]).isNone=true:=fun h=>by
  rcases Jiq q0 with ⟨_,a,_⟩ |⟨a,_,_⟩
  ·exact Jfp (by simp[a])
  ·rw[a]at h;cases h
 generalize(sub 0 q0).isNone=a0 at h0 ⊢;generalize(dot [p0,p1,p2,p3] [q0,((sub 0 q1).getD 0),((sub 0 q2).getD 0),((sub 0 q3).getD 0)]).isNone=d0 at h0 ⊢;generalize(dot [p0,p1,p2,p3] [q1,q0,q3,((sub 0 q2).getD 0)]).isNone=d1;generalize(dot [p0,p1,p2,p3] [q2,((sub 0 q3).getD 0),q0,q1]).isNone=d2;generalize(dot [p0,p1,p2,p3] [q3,q2,((sub 0 q1).getD 0),q0]).isNone=d3;generalize(sub 0 q1).isNone=a1;generalize(sub 0 q2).isNone=a2;generalize(sub 0 q3).isNone=a3;cases a0
 ·cases a1 <;> cases a2 <;> cases a3 <;> cases d0 <;> cases d1 <;> cases d2 <;> cases d3 <;> rfl
 ·rw[h0 rfl];cases a1 <;> cases a2 <;> cases a3 <;> cases d1 <;> cases d2 <;> cases d3 <;> rfl
theorem Jnz{f:Bool}{p0 p1 p2 p3 q0 q1 q2 q3:Int}:cond ((((((sub 0 q0).isNone ||(sub 0 q1).isNone ||(sub 0 q2).isNone ||(sub 0 q3).isNone) ||(dot [p0,p1,p2,p3] [q0,((sub 0 q1).getD 0),((sub 0 q2).getD 0),((sub 0 q3).getD 0)]).isNone) ||(dot [p0,p1,p2,p3] [q1,q0,q3,((sub 0 q2).getD 0)]).isNone) ||(dot [p0,p1,p2,p3] [q2,((sub 0 q3).getD 0),q0,q1]).isNone) ||(dot [p0,p1,p2,p3] [q3,q2,((sub 0 q1).getD 0),q0]).isNone) 0 ((dot [p0,p1,p2,p3] [q0,((sub 0 q1).getD 0),((sub 0 q2).getD 0),((sub 0 q3).getD 0)]).getD 0)=cond (Jh p0 p1 p2 p3 q0 q1 q2 q3) 0 (Jas p0 p1 p2 p3 q0 q1 q2 q3)/\cond ((((((sub 0 q0).isNone ||(sub 0 q1).isNone ||(sub 0 q2).isNone ||(sub 0 q3).isNone) ||(dot [p0,p1,p2,p3] [q0,((sub 0 q1).getD 0),((sub 0 q2).getD 0),((sub 0 q3).getD 0)]).isNone) ||(dot [p0,p1,p2,p3] [q1,q0,q3,((sub 0 q2).getD 0)]).isNone) ||(dot [p0,p1,p2,p3] [q2,((sub 0 q3).getD 0),q0,q1]).isNone) ||(dot [p0,p1,p2,p3] [q3,q2,((sub 0 q1).getD 0),q0]).isNone) 0 ((dot [p0,p1,p2,p3] [q1,q0,q3,((sub 0 q2).getD 0)]).getD 0)=cond (Jh p0 p1 p2 p3 q0 q1 q2 q3) 0 (Jat p0 p1 p2 p3 q0 q1 q2 q3)/\cond ((((((sub 0 q0).isNone ||(sub 0 q1).isNone ||(sub 0 q2).isNone ||(sub 0 q3).isNone) ||(dot [p0,p1,p2,p3] [q0,((sub 0 q1).getD 0),((sub 0 q2).getD 0),((sub 0 q3).getD 0)]).isNone) ||(dot [p0,p1,p2,p3] [q1,q0,q3,((sub 0 q2).getD 0)]).isNone) ||(dot [p0,p1,p2,p3] [q2,((sub 0 q3).getD 0),q0,q1]).isNone) ||(dot [p0,p1,p2,p3] [q3,q2,((sub 0 q1).getD 0),q0]).isNone) 0 ((dot [p0,p1,p2,p3] [q2,((sub 0 q3).getD 0),q0,q1]).getD 0)=cond (Jh p0 p1 p2 p3 q0 q1 q2 q3) 0 (Jar p0 p1 p2 p3 q0 q1 q2 q3)/\cond ((((((sub 0 q0).isNone ||(sub 0 q1).isNone ||(sub 0 q2).isNone ||(sub 0 q3).isNone) ||(dot [p0,p1,p2,p3] [q0,((sub 0 q1).getD 0),((sub 0 q2).getD 0),((sub 0 q3).getD 0)]).isNone) ||(dot [p0,p1,p2,p3] [q1,q0,q3,((sub 0 q2).getD 0)]).isNone) ||(dot [p0,p1,p2,p3] [q2,((sub 0 q3).getD 0),q0,q1]).isNone) ||(dot [p0,p1,p2,p3] [q3,q2,((sub 0 q1).getD 0),q0]).isNone) 0 ((dot [p0,p1,p2,p3] [q3,q2,((sub 0 q1).getD 0),q0]).getD 0)=cond (Jh p0 p1 p2 p3 q0 q1 q2 q3) 0 (Jaq p0 p1 p2 p3 q0 q1 q2 q3)/\(f ||((((((sub 0 q0).isNone ||(sub 0 q1).isNone ||(sub 0 q2).isNone ||(sub 0 q3).isNone) ||(dot [p0,p1,p2,p3] [q0,((sub 0 q1).getD 0),((sub 0 q2).getD 0),((sub 0 q3).getD 0)]).isNone) ||(dot [p0,p1,p2,p3] [q1,q0,q3,((sub 0 q2).getD 0)]).isNone) ||(dot [p0,p1,p2,p3] [q2,((sub 0 q3).getD 0),q0,q1]).isNone) ||(dot [p0,p1,p2,p3] [q3,q2,((sub 0 q1).getD 0),q0]).isNone))=(f||Jh p0 p1 p2 p3 q0 q1 q2 q3):=by
 rw[Jrt];exact⟨rfl,rfl,rfl,rfl,rfl⟩
theorem Jnj(b off:Nat)(f:Bool)(p0 p1 p2 p3 q0 q1 q2 q3:Int)(W:BV)(hc:W.cell? ⟨b,off,none⟩=some (BT f))(hf:W.frozen? ⟨b,off,none⟩=false):
  Cd Tryz.prog 127 #[BO (some ⟨b,off,none⟩),B_ #[J Y p0,J Y p1,J Y p2,J Y p3],B_ #[J Y q0,J Y q1,J Y q2,J Y q3]] W fun e W'=>∃ v0 v1 v2 v3 g,e = BZ (B_ #[J Y v0,J Y v1,J Y v2,J Y v3])/\BU (v0=cond (Jh p0 p1 p2 p3 q0 q1 q2 q3) 0 (Jas p0 p1 p2 p3 q0 q1 q2 q3)/\v1=cond (Jh p0 p1 p2 p3 q0 q1 q2 q3) 0 (Jat p0 p1 p2 p3 q0 q1 q2 q3)/\v2=cond (Jh p0 p1 p2 p3 q0 q1 q2 q3) 0 (Jar p0 p1 p2 p3 q0 q1 q2 q3)/\v3=cond (Jh p0 p1 p2 p3 q0 q1 q2 q3) 0 (Jaq p0 p1 p2 p3 q0 q1 q2 q3)/\g=(f||Jh p0 p1 p2 p3 q0 q1 q2 q3))/\BU (After ⟨b,off,none⟩ g W W'):=by
 have aO:b<W.heap.size:=JB _ _ hc;go_enter func127,ntmps127;go_upto_region 2 with fail;obtain⟨U,hU⟩:∃ U,U=((((W.alloc (BP #[J Y p0,J Y p1,J Y p2,J Y p3] 29)).alloc (BP #[J Y q0,J Y q1,J Y q2,J Y q3] 29)).alloc (BP #[J Y 0,J Y 0,J Y 0,J Y 0] 29)).alloc (BP #[BT false] 47)):=⟨_,rfl⟩
 obtain⟨pa,aU⟩:∃ p,p=W.heap.size:=⟨_,rfl⟩
 obtain⟨pb,aF⟩:∃ p,p=W.heap.size+1:=⟨_,rfl⟩
 obtain⟨pr,aB⟩:∃ p,p=W.heap.size+1+1:=⟨_,rfl⟩
 obtain⟨po,aV⟩:∃ p,p=W.heap.size+1+1+1:=⟨_,rfl⟩
 have H:BU (Ho W U ⟨b,off,none⟩ po f false [(⟨pa,0,none⟩,J Y p0),(⟨pa,1,none⟩,J Y p1),(⟨pa,2,none⟩,J Y p2),(⟨pa,3,none⟩,J Y p3),(⟨pb,0,none⟩,J Y q0),(⟨pb,1,none⟩,J Y q1),(⟨pb,2,none⟩,J Y q2),(⟨pb,3,none⟩,J Y q3),(⟨pr,0,none⟩,J Y 0),(⟨pr,1,none⟩,J Y 0),(⟨pr,2,none⟩,J Y 0),(⟨pr,3,none⟩,J Y 0)]):=by
  refine⟨by rw[hU];exact(((((Leaves.refl _ _).alloc _).alloc _).alloc _).alloc _),by rw[hU,World.cell?_alloc_past _ _ _ (by simp;omega),World.cell?_alloc_past _ _ _ (by simp;omega),World.cell?_alloc_past _ _ _ (by simp;omega),World.cell?_alloc_past _ _ _ aO];exact hc,by rw[hU,((Jd _ _).frozen (by simp;omega)),((Jd _ _).frozen (by simp;omega)),((Jd _ _).frozen (by simp;omega)),((Jd _ _).frozen aO)];exact hf,by rw[hU,aV];simp[go_sem],by rw[hU,aV];simp[go_sem],?_,?_,aO,by omega⟩
  ·intro c hc;simp only[List.mem_cons,List.not_mem_nil,or_false]at hc;rcases hc with rfl | rfl | rfl | rfl | rfl | rfl | rfl | rfl | rfl | rfl | rfl | rfl <;> rw[hU] <;> dsimp only <;> first |(rw[aU];exact⟨by simp[go_sem],by simp[go_sem]⟩) |(rw[aF];exact⟨by simp[go_sem],by simp[go_sem]⟩) |(rw[aB];exact⟨by simp[go_sem],by simp[go_sem]⟩)
  ·intro c hc;simp only[List.mem_cons,List.not_mem_nil,or_false]at hc;rcases hc with rfl | rfl | rfl | rfl | rfl | rfl | rfl | rfl | rfl | rfl | rfl | rfl <;> (dsimp only) <;> omega
 rw[<- hU];rw[<- aV,<- aB,<- aF,<- aU];have qU:pa<pb:=by omega
 have qV:pb<pr:=by omega
 have uP:pr<po:=by omega
 have qW:W.heap.size<=pa:=by omega
 have hsU:U.heap.size=W.heap.size+4:=by rw[hU];simp
 have uS:po<U.heap.size:=by omega
 clear hsU hU hc hf aU aF aB aV;have aV:=uS;have yY:∀ c∈([(⟨pa,0,none⟩,J Y p0),(⟨pa,1,none⟩,J Y p1),(⟨pa,2,none⟩,J Y p2),(⟨pa,3,none⟩,J Y p3),(⟨pb,0,none⟩,J Y q0),(⟨pb,1,none⟩,J Y q1),(⟨pb,2,none⟩,J Y q2),(⟨pb,3,none⟩,J Y q3),(⟨pr,0,none⟩,J Y 0),(⟨pr,1,none⟩,J Y 0),(⟨pr,2,none⟩,J Y 0),(⟨pr,3,none⟩,J Y 0)]:List (Ce × B7)),c.1.block<U.heap.size:=by
  intro c hc;simp only[List.mem_cons,List.not_mem_nil,or_false]at hc;rcases hc with rfl | rfl | rfl | rfl | rfl | rfl | rfl | rfl | rfl | rfl | rfl | rfl <;> (dsimp only) <;> omega
 go_cut [8,9] from 10 (fun s8 s9 wx=>∃ pl pm,s8 = BQ (some ⟨pl,0,none⟩) 4 4/\s9 = BO (some ⟨pm,0,none⟩)/\U.heap.size<=pl/\U.heap.size<=pm/\pl≠pm/\BU (Ho W wx ⟨b,off,none⟩ po f ((sub 0 q0).isNone ||(sub 0 q1).isNone ||(sub 0 q2).isNone ||(sub 0 q3).isNone) [(⟨pa,0,none⟩,J Y p0),(⟨pa,1,none⟩,J Y p1),(⟨pa,2,none⟩,J Y p2),(⟨pa,3,none⟩,J Y p3),(⟨pb,0,none⟩,J Y q0),(⟨pb,1,none⟩,J Y q1),(⟨pb,2,none⟩,J Y q2),(⟨pb,3,none⟩,J Y q3),(⟨pr,0,none⟩,J Y 0),(⟨pr,1,none⟩,J Y 0),(⟨pr,2,none⟩,J Y 0),(⟨pr,3,none⟩,J Y 0)])/\BU (C4 pl true [J Y p0,J Y p1,J Y p2,J Y p3] wx)/\BU (C4 pm true [J Y (((sub 0 q0).getD 0)),J Y (((sub 0 q1).getD 0)),J Y (((sub 0 q2).getD 0)),J Y (((sub 0 q3).getD 0))] wx))
 case first =>
  refine Bq [.some (BO (some ⟨pa,0,none⟩)),.some (J Y p0),.some (BO (some ⟨pa,1,none⟩)),.some (J Y p1),.some (BO (some ⟨pa,2,none⟩)),.some (J Y p2),.some (BO (some ⟨pa,3,none⟩)),.some (J Y p3),none,.some (.func (.func 159) #[BO (some ⟨po,0,none⟩)] #[]),.some (B_ #[J Y 0,J Y 0,J Y 0,J Y 0]),.some (B_ #[J Y q0,J Y q1,J Y q2,J Y q3]),.some (B_ #[J Y (((sub 0 q0).getD 0)),J Y (((sub 0 q1).getD 0)),J Y (((sub 0 q2).getD 0)),J Y (((sub 0 q3).getD 0))]),none,none,none] [11,12,13,14,15,16,17,18,19,20,21,22,23,10,9,0] [(4,BO (some ⟨pa,0,none⟩)),(5,BO (some ⟨pb,0,none⟩)),(7,BO (some ⟨po,0,none⟩))] (fun γ L V=>T2 W V ⟨b,off,none⟩ po f (L 12&&((sub 0 q0).isNone ||(sub 0 q1).isNone ||(sub 0 q2).isNone ||(sub 0 q3).isNone)) [(⟨pa,0,none⟩,J Y p0),(⟨pa,1,none⟩,J Y p1),(⟨pa,2,none⟩,J Y p2),(⟨pa,3,none⟩,J Y p3),(⟨pb,0,none⟩,J Y q0),(⟨pb,1,none⟩,J Y q1),(⟨pb,2,none⟩,J Y q2),(⟨pb,3,none⟩,J Y q3),(⟨pr,0,none⟩,J Y 0),(⟨pr,1,none⟩,J Y 0),(⟨pr,2,none⟩,J Y 0),(⟨pr,3,none⟩,J Y 0)] U.heap.size [J Y p0,J Y p1,J Y p2,J Y p3] [J Y (((sub 0 q0).getD 0)),J Y (((sub 0 q1).getD 0)),J Y (((sub 0 q2).getD 0)),J Y (((sub 0 q3).getD 0))] (L 8) (L 13) (L 15) (γ 8) (γ 13)/\(L 14=true->γ 14 = γ 8)) ⟨rfl,rfl,rfl,trivial⟩ ?_ ?_ ?_
  ·exact⟨⟨H.out.drew,(fun h=>by cases h),(fun h=>by cases h),(fun h=>by cases h),Nat.le_refl _,yY,aV⟩,fun h=>by cases h⟩
  ·intro D WA Z hD ah hZ T;simp only[RV.Outs,RV.Slots,Nat.reduceAdd]at T
   iterate 8 first
    |(refine Br _ (Bs T (fun γ v L w hl h=>by rw[Bt (L:=L) (i:=_) (j:=8) (by decide),Bt (L:=L) (i:=_) (j:=12) (by decide),Bt (L:=L) (i:=_) (j:=13) (by decide),Bt (L:=L) (i:=_) (j:=14) (by decide),Bt (L:=L) (i:=_) (j:=15) (by decide),BI γ (i:=_) (j:=8) _ (by decide),BI γ (i:=_) (j:=13) _ (by decide),BI γ (i:=_) (j:=14) _ (by decide)];exact h) (fun γ L a w hH hl h9 k9=>⟨_,?_,rfl⟩)) ?_;· simp[JD,go_sem,h9])
    |(refine Br _ (Bs T (fun γ v L w hl h=>by rw[Bt (L:=L) (i:=_) (j:=8) (by decide),Bt (L:=L) (i:=_) (j:=12) (by decide),Bt (L:=L) (i:=_) (j:=13) (by decide),Bt (L:=L) (i:=_) (j:=14) (by decide),Bt (L:=L) (i:=_) (j:=15) (by decide),BI γ (i:=_) (j:=8) _ (by decide),BI γ (i:=_) (j:=13) _ (by decide),BI γ (i:=_) (j:=14) _ (by decide)];exact h) (fun γ L a w hH hl h9 k9=>⟨_,?_,rfl⟩)) ?_;· have z:=(hH.glob.1.ho.fix (⟨pa,0,none⟩,J Y p0) (by simp)).1;simp[JC]at k9;simp[JD,go_sem,h9,k9,z])
    |(refine Br _ (Bs T (fun γ v L w hl h=>by rw[Bt (L:=L) (i:=_) (j:=8) (by decide),Bt (L:=L) (i:=_) (j:=12) (by decide),Bt (L:=L) (i:=_) (j:=13) (by decide),Bt (L:=L) (i:=_) (j:=14) (by decide),Bt (L:=L) (i:=_) (j:=15) (by decide),BI γ (i:=_) (j:=8) _ (by decide),BI γ (i:=_) (j:=13) _ (by decide),BI γ (i:=_) (j:=14) _ (by decide)];exact h) (fun γ L a w hH hl h9 k9=>⟨_,?_,rfl⟩)) ?_;· have z:=(hH.glob.1.ho.fix (⟨pa,1,none⟩,J Y p1) (by simp)).1;simp[JC]at k9;simp[JD,go_sem,h9,k9,z])
    |(refine Br _ (Bs T (fun γ v L w hl h=>by rw[Bt (L:=L) (i:=_) (j:=8) (by decide),Bt (L:=L) (i:=_) (j:=12) (by decide),Bt (L:=L) (i:=_) (j:=13) (by decide),Bt (L:=L) (i:=_) (j:=14) (by decide),Bt (L:=L) (i:=_) (j:=15) (by decide),BI γ (i:=_) (j:=8) _ (by decide),BI γ (i:=_) (j:=13) _ (by decide),BI γ (i:=_) (j:=14) _ (by decide)];exact h) (fun γ L a w hH hl h9 k9=>⟨_,?_,rfl⟩)) ?_;· have z:=(hH.glob.1.ho.fix (⟨pa,2,none⟩,J Y p2) (by simp)).1;simp[JC]at k9;simp[JD,go_sem,h9,k9,z])
    |(refine Br _ (Bs T (fun γ v L w hl h=>by rw[Bt (L:=L) (i:=_) (j:=8) (by decide),Bt (L:=L) (i:=_) (j:=12) (by decide),Bt (L:=L) (i:=_) (j:=13) (by decide),Bt (L:=L) (i:=_) (j:=14) (by decide),Bt (L:=L) (i:=_) (j:=15) (by decide),BI γ (i:=_) (j:=8) _ (by decide),BI γ (i:=_) (j:=13) _ (by decide),BI γ (i:=_) (j:=14) _ (by decide)];exact h) (fun γ L a w hH hl h9 k9=>⟨_,?_,rfl⟩)) ?_;· have z:=(hH.glob.1.ho.fix (⟨pa,3,none⟩,J Y p3) (by simp)).1;simp[JC]at k9;simp[JD,go_sem,h9,k9,z])
   refine Br _ (BJ (fun γ L a w hH hl hA=>by have h9:=T γ L a w hH;have k9:=hA;simp[JC]at k9;exact⟨BQ (some ⟨w.heap.size,0,none⟩) 4 4,w.alloc (BP #[J Y p0,J Y p1,J Y p2,J Y p3] 3),by simp[JD,go_sem,h9,k9],trivial,fun j v _ h=>h.keep _,by rw[Bt (L:=L) (i:=8) (j:=12) (by decide),Bt (L:=L) (i:=8) (j:=13) (by decide),Bt (L:=L) (i:=8) (j:=14) (by decide),Bt (L:=L) (i:=8) (j:=15) (by decide),BI γ (i:=8) (j:=13) _ (by decide),BI γ (i:=8) (j:=14) _ (by decide)];rw[BD,RV.upd_self];have h9:=hH.glob.1;rw[hl]at h9;exact⟨h9.slice,fun mJ=>absurd (hH.closed 14 8 (Bv (j:=14) (i:=8) ah (by kernel_rfl)) mJ) (by rw[hl];simp)⟩⟩)) ?_
   iterate 3 (refine Br _ (Bs T (fun γ v L w hl h=>by rw[Bt (L:=L) (i:=_) (j:=8) (by decide),Bt (L:=L) (i:=_) (j:=12) (by decide),Bt (L:=L) (i:=_) (j:=13) (by decide),Bt (L:=L) (i:=_) (j:=14) (by decide),Bt (L:=L) (i:=_) (j:=15) (by decide),BI γ (i:=_) (j:=8) _ (by decide),BI γ (i:=_) (j:=13) _ (by decide),BI γ (i:=_) (j:=14) _ (by decide)];exact h) (fun γ L a w hH hl h9 k9=>⟨_,?_,rfl⟩)) ?_;· have q0:=(hH.glob.1.ho.fix (⟨pb,0,none⟩,J Y q0) (by simp)).1;have q1:=(hH.glob.1.ho.fix (⟨pb,1,none⟩,J Y q1) (by simp)).1;have q2:=(hH.glob.1.ho.fix (⟨pb,2,none⟩,J Y q2) (by simp)).1;have q3:=(hH.glob.1.ho.fix (⟨pb,3,none⟩,J Y q3) (by simp)).1;simp[JD,go_sem,h9,q0,q1,q2,q3])
   refine Br _ (Bw (fun γ L a w hH hl hA=>by have h9:=T γ L a w hH;have k9:=hA;simp[JC]at k9;refine⟨158,#[.func (.func 159) #[BO (some ⟨po,0,none⟩)] #[],B_ #[J Y 0,J Y 0,J Y 0,J Y 0],B_ #[J Y q0,J Y q1,J Y q2,J Y q3]],by simp[go_sem,h9,k9],JA (Jf7 po _ 0 0 0 0 q0 q1 q2 q3 w hH.glob.1.ho.own hH.glob.1.ho.ownf) ?_⟩;rintro e w2 ⟨g,rfl,SG,A⟩;exact⟨_,rfl,rfl,fun j v _ h=>h.keep _,by have h9:=hH.glob.1.after A.out;rw[SG.out,hl]at h9;rw[Bt (L:=L) (i:=12) (j:=8) (by decide),Bt (L:=L) (i:=12) (j:=13) (by decide),Bt (L:=L) (i:=12) (j:=14) (by decide),Bt (L:=L) (i:=12) (j:=15) (by decide),BI γ (i:=12) (j:=8) _ (by decide),BI γ (i:=12) (j:=13) _ (by decide),BI γ (i:=12) (j:=14) _ (by decide)];rw[BD];exact⟨h9,hH.glob.2⟩⟩)) ?_;refine Br _ (BJ (fun γ L a w hH hl hA=>by have s_:L 15=false:=Bu hH (Bv (j:=15) (i:=13) ah (by kernel_rfl)) hl;exact⟨BO (some ⟨w.heap.size,0,none⟩),w.alloc (BP #[J Y 0,J Y 0,J Y 0,J Y 0] 29),by simp[JD,go_sem],trivial,fun j v _ h=>h.keep _,by rw[Bt (L:=L) (i:=13) (j:=8) (by decide),Bt (L:=L) (i:=13) (j:=12) (by decide),Bt (L:=L) (i:=13) (j:=14) (by decide),Bt (L:=L) (i:=13) (j:=15) (by decide),BI γ (i:=13) (j:=8) _ (by decide),BI γ (i:=13) (j:=14) _ (by decide)];rw[BD,RV.upd_self];rw[s_];have h9:=hH.glob.1;rw[s_,hl]at h9;exact⟨h9.box 29,hH.glob.2⟩⟩)) ?_;refine Br _ (BJ (fun γ L a w hH hl hA=>by have l0:L 8=true:=hA ⟨8,.data⟩ (by simp) rfl;have e0:=hH.slot 8 18 (by rw[<- hD];rfl) l0;exact⟨γ 8,w,by simp[JD,go_sem,e0],trivial,fun _ _ _ h=>h,by rw[Bt (L:=L) (i:=14) (j:=8) (by decide),Bt (L:=L) (i:=14) (j:=12) (by decide),Bt (L:=L) (i:=14) (j:=13) (by decide),Bt (L:=L) (i:=14) (j:=15) (by decide),BI γ (i:=14) (j:=8) _ (by decide),BI γ (i:=14) (j:=13) _ (by decide)];rw[RV.upd_self];exact⟨hH.glob.1,fun _=>rfl⟩⟩)) ?_;refine Br _ (Bz (fun γ L a w hH hl hA=>by have h9:=T γ L a w hH;have k9:=hA;simp[JC]at k9;have l0:L 13=true:=hA ⟨13,.data⟩ (by simp) rfl;have e0:=hH.slot 13 9 (by rw[<- hD];rfl) l0;obtain⟨b9,ac,aj,ao⟩:=hH.glob.1.bx l0;rw[ac]at e0;have z0:=ao 0 (by decide);have z1:=ao 1 (by decide);have z2:=ao 2 (by decide);have z3:=ao 3 (by decide);rw[hl]at z0 z1 z2 z3;dsimp only[Jnk,List.getD_cons_zero,List.getD_cons_succ,cond_false]at z0 z1 z2 z3;exact⟨((((w.setCell ⟨b9,0,none⟩ (J Y (((sub 0 q0).getD 0)))).setCell ⟨b9,1,none⟩ (J Y (((sub 0 q1).getD 0)))).setCell ⟨b9,2,none⟩ (J Y (((sub 0 q2).getD 0)))).setCell ⟨b9,3,none⟩ (J Y (((sub 0 q3).getD 0)))),by simp[JD,go_sem,e0,z0.1,z1.1,z2.1,z3.1,z0.2,z1.2,z2.2,z3.2,h9,k9],trivial,fun j v _ h=>h.keep _,by rw[Bt (L:=L) (i:=15) (j:=8) (by decide),Bt (L:=L) (i:=15) (j:=12) (by decide),Bt (L:=L) (i:=15) (j:=13) (by decide),Bt (L:=L) (i:=15) (j:=14) (by decide),BI γ (i:=15) (j:=8) _ (by decide),BI γ (i:=15) (j:=13) _ (by decide),BI γ (i:=15) (j:=14) _ (by decide)];rw[BD];have h9:=hH.glob.1;rw[ac,hl,l0]at h9;rw[ac,l0];exact⟨h9.fill,hH.glob.2⟩⟩)) ?_;exact RV.AllDo.nil
  ·intro γ w5 L9 hL aX aD;obtain⟨hT,mJ⟩:=(id aD)
   have mJ:=mJ (hL 14 (by decide));rw[hL 12 (by decide),hL 8 (by decide),hL 13 (by decide),hL 15 (by decide),Bool.true_and]at hT;obtain⟨pl,q8,cT,fh⟩:=hT.sl rfl;obtain⟨pm,AD,dT,gj⟩:=hT.bx rfl;rw[q8]at mJ;clear hL aX aD;simp only[RV.putL,Act.put,List.setIfInBounds_toArray,List.set_cons_zero,List.set_cons_succ,Nat.reduceAdd];rw[mJ,AD];go_wp2_with (fail);go_meet
   case rel=>exact⟨pl,pm,rfl,rfl,cT,dT,hT.ap rfl rfl pl pm q8 AD,hT.ho,fh,gj⟩
 case rest =>
  clear H;obtain⟨pl,pm,rfl,rfl,cT,dT,hlm,H,bo,cC⟩:=hcut;obtain⟨V0,iv⟩:∃ X,X=wc:=⟨_,rfl⟩
  rw[<- iv]at H bo cC;rw[<- iv];clear iv yY aV;have fd:=Jpt bo.out;have cS:=Jpt cC.out;have HC4:BU (C4 pr false [] V0):=by
   intro k hk
   match k,hk with
   | 0,_=>exact H.out.fix (⟨pr,0,none⟩,J Y 0) (by simp)
   | 1,_=>exact H.out.fix (⟨pr,1,none⟩,J Y 0) (by simp)
   | 2,_=>exact H.out.fix (⟨pr,2,none⟩,J Y 0) (by simp)
   | 3,_=>exact H.out.fix (⟨pr,3,none⟩,J Y 0) (by simp)
  have H:BU (Ho W V0 ⟨b,off,none⟩ po f ((sub 0 q0).isNone ||(sub 0 q1).isNone ||(sub 0 q2).isNone ||(sub 0 q3).isNone) [(⟨pl,0,none⟩,J Y p0),(⟨pl,1,none⟩,J Y p1),(⟨pl,2,none⟩,J Y p2),(⟨pl,3,none⟩,J Y p3),(⟨pm,0,none⟩,J Y (((sub 0 q0).getD 0))),(⟨pm,1,none⟩,J Y (((sub 0 q1).getD 0))),(⟨pm,2,none⟩,J Y (((sub 0 q2).getD 0))),(⟨pm,3,none⟩,J Y (((sub 0 q3).getD 0))),(⟨pa,0,none⟩,J Y p0),(⟨pa,1,none⟩,J Y p1),(⟨pa,2,none⟩,J Y p2),(⟨pa,3,none⟩,J Y p3),(⟨pb,0,none⟩,J Y q0),(⟨pb,1,none⟩,J Y q1),(⟨pb,2,none⟩,J Y q2),(⟨pb,3,none⟩,J Y q3)]):=by
   refine(H.out.more (k:=[(⟨pl,0,none⟩,J Y p0),(⟨pl,1,none⟩,J Y p1),(⟨pl,2,none⟩,J Y p2),(⟨pl,3,none⟩,J Y p3),(⟨pm,0,none⟩,J Y (((sub 0 q0).getD 0))),(⟨pm,1,none⟩,J Y (((sub 0 q1).getD 0))),(⟨pm,2,none⟩,J Y (((sub 0 q2).getD 0))),(⟨pm,3,none⟩,J Y (((sub 0 q3).getD 0)))]) ?_).less ?_
   ·intro c hc;simp only[List.mem_cons,List.not_mem_nil,or_false]at hc;rcases hc with rfl | rfl | rfl | rfl | rfl | rfl | rfl | rfl
    ·exact⟨bo.out 0 (by decide),by show pl≠po;omega⟩
    ·exact⟨bo.out 1 (by decide),by show pl≠po;omega⟩
    ·exact⟨bo.out 2 (by decide),by show pl≠po;omega⟩
    ·exact⟨bo.out 3 (by decide),by show pl≠po;omega⟩
    ·exact⟨cC.out 0 (by decide),by show pm≠po;omega⟩
    ·exact⟨cC.out 1 (by decide),by show pm≠po;omega⟩
    ·exact⟨cC.out 2 (by decide),by show pm≠po;omega⟩
    ·exact⟨cC.out 3 (by decide),by show pm≠po;omega⟩
   ·intro c hc;simp only[List.mem_cons,List.not_mem_nil,or_false]at hc;rcases hc with rfl | rfl | rfl | rfl | rfl | rfl | rfl | rfl | rfl | rfl | rfl | rfl | rfl | rfl | rfl | rfl <;> simp
  clear bo cC;obtain⟨aJ,oo⟩:∃ x,(sub 0 q1).getD 0=x:=⟨_,rfl⟩
  obtain⟨aK,xk⟩:∃ x,(sub 0 q2).getD 0=x:=⟨_,rfl⟩
  obtain⟨aQ,xm⟩:∃ x,(sub 0 q3).getD 0=x:=⟨_,rfl⟩
  obtain⟨nb,ki⟩:∃ x,((sub 0 q0).isNone ||(sub 0 q1).isNone ||(sub 0 q2).isNone ||(sub 0 q3).isNone)=x:=⟨_,rfl⟩
  have uT:BU _:=And.intro oo (And.intro xk (And.intro xm ki));rw[oo,xk,xm,ki]at H;clear oo xk xm ki;go_upto_region 3 with fail;refine RV.region_by (fun j v w=>match j with | 0=>v = BO (some ⟨b,off,none⟩) | 1=>v = BQ (some ⟨pl,0,none⟩) 4 4 | 2=>v = BO (some ⟨pb,0,none⟩) | 3=>v=J Y q0 | 4=>v = BO (some ⟨pm,1,none⟩) | 5=>v=J Y aJ | 6=>v = BO (some ⟨pm,2,none⟩) | 7=>v=J Y aK | 8=>v = BO (some ⟨pm,3,none⟩) | 9=>v=J Y aQ | 10=>(fun v w=>Sl4 V0.heap.size [q0,aJ,aK,aQ] v w) v w | 11=>v=J Y ((dot [p0,p1,p2,p3] [q0,aJ,aK,aQ]).getD 0) | 12=>v = BQ (some ⟨pl,0,none⟩) 4 4 | 13=>v = BO (some ⟨pb,1,none⟩) | 14=>v=J Y q1 | 15=>v = BO (some ⟨pb,0,none⟩) | 16=>v=J Y q0 | 17=>v = BO (some ⟨pb,3,none⟩) | 18=>v=J Y q3 | 19=>v = BO (some ⟨pm,2,none⟩) | 20=>v=J Y aK | 21=>(fun v w=>Sl4 V0.heap.size [q1,q0,q3,aK] v w) v w | 22=>v=J Y ((dot [p0,p1,p2,p3] [q1,q0,q3,aK]).getD 0) | 23=>v = BQ (some ⟨pl,0,none⟩) 4 4 | 24=>v = BO (some ⟨pb,2,none⟩) | 25=>v=J Y q2 | 26=>v = BO (some ⟨pm,3,none⟩) | 27=>v=J Y aQ | 28=>v = BO (some ⟨pb,0,none⟩) | 29=>v=J Y q0 | 30=>v = BO (some ⟨pb,1,none⟩) | 31=>v=J Y q1 | 32=>(fun v w=>Sl4 V0.heap.size [q2,aQ,q0,q1] v w) v w | 33=>v=J Y ((dot [p0,p1,p2,p3] [q2,aQ,q0,q1]).getD 0) | 34=>v = BQ (some ⟨pl,0,none⟩) 4 4 | 35=>v = BO (some ⟨pb,3,none⟩) | 36=>v=J Y q3 | 37=>v = BO (some ⟨pb,2,none⟩) | 38=>v=J Y q2 | 39=>v = BO (some ⟨pm,1,none⟩) | 40=>v=J Y aJ | 41=>v = BO (some ⟨pb,0,none⟩) | 42=>v=J Y q0 | 43=>(fun v w=>Sl4 V0.heap.size [q3,q2,aJ,q0] v w) v w | 44=>v=J Y ((dot [p0,p1,p2,p3] [q3,q2,aJ,q0]).getD 0) | 45=>v = B_ #[J Y ((dot [p0,p1,p2,p3] [q0,aJ,aK,aQ]).getD 0),J Y ((dot [p0,p1,p2,p3] [q1,q0,q3,aK]).getD 0),J Y ((dot [p0,p1,p2,p3] [q2,aQ,q0,q1]).getD 0),J Y ((dot [p0,p1,p2,p3] [q3,q2,aJ,q0]).getD 0)] | 46=>v = B_ #[J Y (cond ((((nb ||(dot [p0,p1,p2,p3] [q0,aJ,aK,aQ]).isNone) ||(dot [p0,p1,p2,p3] [q1,q0,q3,aK]).isNone) ||(dot [p0,p1,p2,p3] [q2,aQ,q0,q1]).isNone) ||(dot [p0,p1,p2,p3] [q3,q2,aJ,q0]).isNone) 0 ((dot [p0,p1,p2,p3] [q0,aJ,aK,aQ]).getD 0)),J Y (cond ((((nb ||(dot [p0,p1,p2,p3] [q0,aJ,aK,aQ]).isNone) ||(dot [p0,p1,p2,p3] [q1,q0,q3,aK]).isNone) ||(dot [p0,p1,p2,p3] [q2,aQ,q0,q1]).isNone) ||(dot [p0,p1,p2,p3] [q3,q2,aJ,q0]).isNone) 0 ((dot [p0,p1,p2,p3] [q1,q0,q3,aK]).getD 0)),J Y (cond ((((nb ||(dot [p0,p1,p2,p3] [q0,aJ,aK,aQ]).isNone) ||(dot [p0,p1,p2,p3] [q1,q0,q3,aK]).isNone) ||(dot [p0,p1,p2,p3] [q2,aQ,q0,q1]).isNone) ||(dot [p0,p1,p2,p3] [q3,q2,aJ,q0]).isNone) 0 ((dot [p0,p1,p2,p3] [q2,aQ,q0,q1]).getD 0)),J Y (cond ((((nb ||(dot [p0,p1,p2,p3] [q0,aJ,aK,aQ]).isNone) ||(dot [p0,p1,p2,p3] [q1,q0,q3,aK]).isNone) ||(dot [p0,p1,p2,p3] [q2,aQ,q0,q1]).isNone) ||(dot [p0,p1,p2,p3] [q3,q2,aJ,q0]).isNone) 0 ((dot [p0,p1,p2,p3] [q3,q2,aJ,q0]).getD 0))] | 47=>True | _=>True) (fun γ L V=>Ho W V ⟨b,off,none⟩ po (f ||(L 46&&((((nb ||(dot [p0,p1,p2,p3] [q0,aJ,aK,aQ]).isNone) ||(dot [p0,p1,p2,p3] [q1,q0,q3,aK]).isNone) ||(dot [p0,p1,p2,p3] [q2,aQ,q0,q1]).isNone) ||(dot [p0,p1,p2,p3] [q3,q2,aJ,q0]).isNone))) ((((nb ||(L 11&&(dot [p0,p1,p2,p3] [q0,aJ,aK,aQ]).isNone)) ||(L 22&&(dot [p0,p1,p2,p3] [q1,q0,q3,aK]).isNone)) ||(L 33&&(dot [p0,p1,p2,p3] [q2,aQ,q0,q1]).isNone)) ||(L 44&&(dot [p0,p1,p2,p3] [q3,q2,aJ,q0]).isNone)) [(⟨pl,0,none⟩,J Y p0),(⟨pl,1,none⟩,J Y p1),(⟨pl,2,none⟩,J Y p2),(⟨pl,3,none⟩,J Y p3),(⟨pm,0,none⟩,J Y (((sub 0 q0).getD 0))),(⟨pm,1,none⟩,J Y aJ),(⟨pm,2,none⟩,J Y aK),(⟨pm,3,none⟩,J Y aQ),(⟨pa,0,none⟩,J Y p0),(⟨pa,1,none⟩,J Y p1),(⟨pa,2,none⟩,J Y p2),(⟨pa,3,none⟩,J Y p3),(⟨pb,0,none⟩,J Y q0),(⟨pb,1,none⟩,J Y q1),(⟨pb,2,none⟩,J Y q2),(⟨pb,3,none⟩,J Y q3)]/\V0.heap.size<=V.heap.size/\C4 pr (L 47) [J Y (cond ((((nb ||(dot [p0,p1,p2,p3] [q0,aJ,aK,aQ]).isNone) ||(dot [p0,p1,p2,p3] [q1,q0,q3,aK]).isNone) ||(dot [p0,p1,p2,p3] [q2,aQ,q0,q1]).isNone) ||(dot [p0,p1,p2,p3] [q3,q2,aJ,q0]).isNone) 0 ((dot [p0,p1,p2,p3] [q0,aJ,aK,aQ]).getD 0)),J Y (cond ((((nb ||(dot [p0,p1,p2,p3] [q0,aJ,aK,aQ]).isNone) ||(dot [p0,p1,p2,p3] [q1,q0,q3,aK]).isNone) ||(dot [p0,p1,p2,p3] [q2,aQ,q0,q1]).isNone) ||(dot [p0,p1,p2,p3] [q3,q2,aJ,q0]).isNone) 0 ((dot [p0,p1,p2,p3] [q1,q0,q3,aK]).getD 0)),J Y (cond ((((nb ||(dot [p0,p1,p2,p3] [q0,aJ,aK,aQ]).isNone) ||(dot [p0,p1,p2,p3] [q1,q0,q3,aK]).isNone) ||(dot [p0,p1,p2,p3] [q2,aQ,q0,q1]).isNone) ||(dot [p0,p1,p2,p3] [q3,q2,aJ,q0]).isNone) 0 ((dot [p0,p1,p2,p3] [q2,aQ,q0,q1]).getD 0)),J Y (cond ((((nb ||(dot [p0,p1,p2,p3] [q0,aJ,aK,aQ]).isNone) ||(dot [p0,p1,p2,p3] [q1,q0,q3,aK]).isNone) ||(dot [p0,p1,p2,p3] [q2,aQ,q0,q1]).isNone) ||(dot [p0,p1,p2,p3] [q3,q2,aJ,q0]).isNone) 0 ((dot [p0,p1,p2,p3] [q3,q2,aJ,q0]).getD 0))] V) (by kernel_rfl) (by kernel_rfl) (by kernel_rfl) (by kernel_rfl) ?_ ?_ ?_
  ·refine⟨?_,Nat.le_refl _,?_⟩
   ·simp only[Bool.false_and,Bool.or_false];exact H.out.drew
   ·exact fun k hk=>HC4.out k hk
  ·generalize hD:Jam _=D;generalize ah:Jai _=WA;generalize hZ:Act.mk _ _=Z;refine RV.AllDo.name ?_;intro R hR;have kn:RV.Kn R [.some (BO (some ⟨b,off,none⟩)),.some (BQ (some ⟨pl,0,none⟩) 4 4),.some (BO (some ⟨pb,0,none⟩)),.some (J Y q0),.some (BO (some ⟨pm,1,none⟩)),.some (J Y aJ),.some (BO (some ⟨pm,2,none⟩)),.some (J Y aK),.some (BO (some ⟨pm,3,none⟩)),.some (J Y aQ),none,.some (J Y ((dot [p0,p1,p2,p3] [q0,aJ,aK,aQ]).getD 0)),.some (BQ (some ⟨pl,0,none⟩) 4 4),.some (BO (some ⟨pb,1,none⟩)),.some (J Y q1),.some (BO (some ⟨pb,0,none⟩)),.some (J Y q0),.some (BO (some ⟨pb,3,none⟩)),.some (J Y q3),.some (BO (some ⟨pm,2,none⟩)),.some (J Y aK),none,.some (J Y ((dot [p0,p1,p2,p3] [q1,q0,q3,aK]).getD 0)),.some (BQ (some ⟨pl,0,none⟩) 4 4),.some (BO (some ⟨pb,2,none⟩)),.some (J Y q2),.some (BO (some ⟨pm,3,none⟩)),.some (J Y aQ),.some (BO (some ⟨pb,0,none⟩)),.some (J Y q0),.some (BO (some ⟨pb,1,none⟩)),.some (J Y q1),none,.some (J Y ((dot [p0,p1,p2,p3] [q2,aQ,q0,q1]).getD 0)),.some (BQ (some ⟨pl,0,none⟩) 4 4),.some (BO (some ⟨pb,3,none⟩)),.some (J Y q3),.some (BO (some ⟨pb,2,none⟩)),.some (J Y q2),.some (BO (some ⟨pm,1,none⟩)),.some (J Y aJ),.some (BO (some ⟨pb,0,none⟩)),.some (J Y q0),none,.some (J Y ((dot [p0,p1,p2,p3] [q3,q2,aJ,q0]).getD 0)),.some (B_ #[J Y ((dot [p0,p1,p2,p3] [q0,aJ,aK,aQ]).getD 0),J Y ((dot [p0,p1,p2,p3] [q1,q0,q3,aK]).getD 0),J Y ((dot [p0,p1,p2,p3] [q2,aQ,q0,q1]).getD 0),J Y ((dot [p0,p1,p2,p3] [q3,q2,aJ,q0]).getD 0)]),.some (B_ #[J Y (cond ((((nb ||(dot [p0,p1,p2,p3] [q0,aJ,aK,aQ]).isNone) ||(dot [p0,p1,p2,p3] [q1,q0,q3,aK]).isNone) ||(dot [p0,p1,p2,p3] [q2,aQ,q0,q1]).isNone) ||(dot [p0,p1,p2,p3] [q3,q2,aJ,q0]).isNone) 0 ((dot [p0,p1,p2,p3] [q0,aJ,aK,aQ]).getD 0)),J Y (cond ((((nb ||(dot [p0,p1,p2,p3] [q0,aJ,aK,aQ]).isNone) ||(dot [p0,p1,p2,p3] [q1,q0,q3,aK]).isNone) ||(dot [p0,p1,p2,p3] [q2,aQ,q0,q1]).isNone) ||(dot [p0,p1,p2,p3] [q3,q2,aJ,q0]).isNone) 0 ((dot [p0,p1,p2,p3] [q1,q0,q3,aK]).getD 0)),J Y (cond ((((nb ||(dot [p0,p1,p2,p3] [q0,aJ,aK,aQ]).isNone) ||(dot [p0,p1,p2,p3] [q1,q0,q3,aK]).isNone) ||(dot [p0,p1,p2,p3] [q2,aQ,q0,q1]).isNone) ||(dot [p0,p1,p2,p3] [q3,q2,aJ,q0]).isNone) 0 ((dot [p0,p1,p2,p3] [q2,aQ,q0,q1]).getD 0)),J Y (cond ((((nb ||(dot [p0,p1,p2,p3] [q0,aJ,aK,aQ]).isNone) ||(dot [p0,p1,p2,p3] [q1,q0,q3,aK]).isNone) ||(dot [p0,p1,p2,p3] [q2,aQ,q0,q1]).isNone) ||(dot [p0,p1,p2,p3] [q3,q2,aJ,q0]).isNone) 0 ((dot [p0,p1,p2,p3] [q3,q2,aJ,q0]).getD 0))]),none] 0:=by rw[hR];exact⟨fun _ _=>Iff.rfl,fun _ _=>Iff.rfl,fun _ _=>Iff.rfl,fun _ _=>Iff.rfl,fun _ _=>Iff.rfl,fun _ _=>Iff.rfl,fun _ _=>Iff.rfl,fun _ _=>Iff.rfl,fun _ _=>Iff.rfl,fun _ _=>Iff.rfl,fun _ _=>Iff.rfl,fun _ _=>Iff.rfl,fun _ _=>Iff.rfl,fun _ _=>Iff.rfl,fun _ _=>Iff.rfl,fun _ _=>Iff.rfl,fun _ _=>Iff.rfl,fun _ _=>Iff.rfl,fun _ _=>Iff.rfl,fun _ _=>Iff.rfl,fun _ _=>Iff.rfl,fun _ _=>Iff.rfl,fun _ _=>Iff.rfl,fun _ _=>Iff.rfl,fun _ _=>Iff.rfl,fun _ _=>Iff.rfl,fun _ _=>Iff.rfl,fun _ _=>Iff.rfl,fun _ _=>Iff.rfl,fun _ _=>Iff.rfl,fun _ _=>Iff.rfl,fun _ _=>Iff.rfl,fun _ _=>Iff.rfl,fun _ _=>Iff.rfl,fun _ _=>Iff.rfl,fun _ _=>Iff.rfl,fun _ _=>Iff.rfl,fun _ _=>Iff.rfl,fun _ _=>Iff.rfl,fun _ _=>Iff.rfl,fun _ _=>Iff.rfl,fun _ _=>Iff.rfl,fun _ _=>Iff.rfl,trivial⟩
   have T:=RV.kfacts [24,25,26,27,28,29,30,31,32,33,34,35,36,37,38,39,40,41,42,43,44,45,46,47,48,49,50,51,52,53,54,55,56,57,58,59,60,61,62,63,64,65,66,67,68,69,70,0] [(0,BO (some ⟨b,off,none⟩)),(5,BO (some ⟨pb,0,none⟩)),(6,BO (some ⟨pr,0,none⟩)),(7,BO (some ⟨po,0,none⟩)),(8,BQ (some ⟨pl,0,none⟩) 4 4),(9,BO (some ⟨pm,0,none⟩))] hD hZ kn ⟨rfl,rfl,rfl,rfl,rfl,rfl,trivial⟩ (by kernel_rfl) (by kernel_rfl);simp only[RV.Outs,RV.Slots,Nat.reduceAdd]at T;have td:∀ v w,R 10 v w=((fun v w=>Sl4 V0.heap.size [q0,aJ,aK,aQ] v w) v w):=fun v w=>by rw[hR];rfl
   have yZ:∀ v w,R 21 v w=((fun v w=>Sl4 V0.heap.size [q1,q0,q3,aK] v w) v w):=fun v w=>by rw[hR];rfl
   have y9:∀ v w,R 32 v w=((fun v w=>Sl4 V0.heap.size [q2,aQ,q0,q1] v w) v w):=fun v w=>by rw[hR];rfl
   have y_:∀ v w,R 43 v w=((fun v w=>Sl4 V0.heap.size [q3,q2,aJ,q0] v w) v w):=fun v w=>by rw[hR];rfl
   have r47:∀ v w,R 47 v w=(True):=fun v w=>by rw[hR];rfl
   have K:∀ j v w w',(∀(q:Ce) (u:B7),V0.heap.size<=q.block->w.cell? q=some u->w'.cell? q=some u)->R j v w->R j v w':=by
    rw[hR];intro j v w w' hk h
    revert h
    dsimp only
    split
    all_goals first | exact id | exact fun h=>Sl4.keep h hk
   iterate 10 first
    |(refine Br _ (BK kn T (fun γ v L w hl h=>by rw[Bt (L:=L) (i:=_) (j:=11) (by decide),Bt (L:=L) (i:=_) (j:=22) (by decide),Bt (L:=L) (i:=_) (j:=33) (by decide),Bt (L:=L) (i:=_) (j:=44) (by decide),Bt (L:=L) (i:=_) (j:=46) (by decide),Bt (L:=L) (i:=_) (j:=47) (by decide)];exact h) (fun γ L a w hH hl h9 k9=>⟨_,?_,rfl⟩)) ?_;· simp[JD,go_sem,h9])
    |(refine Br _ (BK kn T (fun γ v L w hl h=>by rw[Bt (L:=L) (i:=_) (j:=11) (by decide),Bt (L:=L) (i:=_) (j:=22) (by decide),Bt (L:=L) (i:=_) (j:=33) (by decide),Bt (L:=L) (i:=_) (j:=44) (by decide),Bt (L:=L) (i:=_) (j:=46) (by decide),Bt (L:=L) (i:=_) (j:=47) (by decide)];exact h) (fun γ L a w hH hl h9 k9=>⟨_,?_,rfl⟩)) ?_;· have z:=(hH.glob.1.fix (⟨pb,0,none⟩,J Y q0) (by simp)).1;simp[JC]at k9;simp[JD,go_sem,h9,k9,z])
    |(refine Br _ (BK kn T (fun γ v L w hl h=>by rw[Bt (L:=L) (i:=_) (j:=11) (by decide),Bt (L:=L) (i:=_) (j:=22) (by decide),Bt (L:=L) (i:=_) (j:=33) (by decide),Bt (L:=L) (i:=_) (j:=44) (by decide),Bt (L:=L) (i:=_) (j:=46) (by decide),Bt (L:=L) (i:=_) (j:=47) (by decide)];exact h) (fun γ L a w hH hl h9 k9=>⟨_,?_,rfl⟩)) ?_;· have z:=(hH.glob.1.fix (⟨pm,1,none⟩,J Y aJ) (by simp)).1;simp[JC]at k9;simp[JD,go_sem,h9,k9,z])
    |(refine Br _ (BK kn T (fun γ v L w hl h=>by rw[Bt (L:=L) (i:=_) (j:=11) (by decide),Bt (L:=L) (i:=_) (j:=22) (by decide),Bt (L:=L) (i:=_) (j:=33) (by decide),Bt (L:=L) (i:=_) (j:=44) (by decide),Bt (L:=L) (i:=_) (j:=46) (by decide),Bt (L:=L) (i:=_) (j:=47) (by decide)];exact h) (fun γ L a w hH hl h9 k9=>⟨_,?_,rfl⟩)) ?_;· have z:=(hH.glob.1.fix (⟨pm,2,none⟩,J Y aK) (by simp)).1;simp[JC]at k9;simp[JD,go_sem,h9,k9,z])
    |(refine Br _ (BK kn T (fun γ v L w hl h=>by rw[Bt (L:=L) (i:=_) (j:=11) (by decide),Bt (L:=L) (i:=_) (j:=22) (by decide),Bt (L:=L) (i:=_) (j:=33) (by decide),Bt (L:=L) (i:=_) (j:=44) (by decide),Bt (L:=L) (i:=_) (j:=46) (by decide),Bt (L:=L) (i:=_) (j:=47) (by decide)];exact h) (fun γ L a w hH hl h9 k9=>⟨_,?_,rfl⟩)) ?_;· have z:=(hH.glob.1.fix (⟨pm,3,none⟩,J Y aQ) (by simp)).1;simp[JC]at k9;simp[JD,go_sem,h9,k9,z])
   refine Br _ (BJ (fun γ L a w hH hl hA=>by have h9:=T _ _ γ L a w hH;have k9:=hA;simp[JC]at k9;exact⟨BQ (some ⟨w.heap.size,0,none⟩) 4 4,w.alloc (BP #[J Y q0,J Y aJ,J Y aK,J Y aQ] 3),by simp[JD,go_sem,h9,k9],(td _ _).mpr (Sl4.new hH.glob.2.1),fun j v _ h=>K j v _ _ (fun q u _ hq=>Jf (Jd w _) hq) h,by rw[Bt (L:=L) (i:=10) (j:=11) (by decide),Bt (L:=L) (i:=10) (j:=22) (by decide),Bt (L:=L) (i:=10) (j:=33) (by decide),Bt (L:=L) (i:=10) (j:=44) (by decide),Bt (L:=L) (i:=10) (j:=46) (by decide)];exact hH.glob.1.alloc _,by simp;have:=hH.glob.2.1;omega,by rw[Bt (L:=L) (i:=10) (j:=47) (by decide)];exact hH.glob.2.2.keep (fun q u hq=>⟨Jf (Jd w _) hq.1,Jg (Jd w _) hq.1 hq.2⟩)⟩)) ?_;refine Br _ (Bw (fun γ L a w hH hl hA=>by have h9:=T _ _ γ L a w hH;have k9:=hA;simp[JC]at k9;have l2:L 10=true:=hA ⟨10,.data⟩ (by simp) rfl;have e2:=hH.slot 10 33 (by rw[<- hD];rfl) l2;have g2:=hH.holds 10 l2;rw[td]at g2;obtain⟨s2,y2,c2,d2⟩:=g2;rw[y2]at e2;refine⟨161,#[BO (some ⟨po,0,none⟩),BQ (some ⟨pl,0,none⟩) 4 4,BQ (some ⟨s2,0,none⟩) 4 4],by simp[go_sem,e2,h9,k9],JA (Jd2 po 0 _ [p0,p1,p2,p3] [q0,aJ,aK,aQ] _ _ 4 4 w hH.glob.1.own hH.glob.1.ownf (by simp) (by simp) (Jg9 (hH.glob.1.fix (⟨pl,0,none⟩,J Y p0) (by simp)).1 (hH.glob.1.fix (⟨pl,1,none⟩,J Y p1) (by simp)).1 (hH.glob.1.fix (⟨pl,2,none⟩,J Y p2) (by simp)).1 (hH.glob.1.fix (⟨pl,3,none⟩,J Y p3) (by simp)).1) (Jhq d2)) ?_⟩;rintro e w2 ⟨v,g,rfl,SS,A⟩;obtain⟨rfl,rfl⟩:=SS.out;exact⟨_,rfl,((kn.at (k:=11) rfl _ _).2 rfl),fun j v _ h=>K j v _ _ (fun q u hq hc=>A.out.cellOf hc (by show q.block≠po;omega)) h,by have h9:=hH.glob.1.after A.out;rw[hl,fq0]at h9;rw[Bt (L:=L) (i:=11) (j:=22) (by decide),Bt (L:=L) (i:=11) (j:=33) (by decide),Bt (L:=L) (i:=11) (j:=44) (by decide),Bt (L:=L) (i:=11) (j:=46) (by decide),BD];exact h9,Nat.le_trans hH.glob.2.1 A.out.size,by rw[Bt (L:=L) (i:=11) (j:=47) (by decide)];exact hH.glob.2.2.keep (fun q u hq=>⟨A.out.cellOf hq.1 (by show pr≠po;omega),A.out.frozenOf hq.1 hq.2 (by show pr≠po;omega)⟩)⟩)) ?_
   iterate 9 first
    |(refine Br _ (BK kn T (fun γ v L w hl h=>by rw[Bt (L:=L) (i:=_) (j:=11) (by decide),Bt (L:=L) (i:=_) (j:=22) (by decide),Bt (L:=L) (i:=_) (j:=33) (by decide),Bt (L:=L) (i:=_) (j:=44) (by decide),Bt (L:=L) (i:=_) (j:=46) (by decide),Bt (L:=L) (i:=_) (j:=47) (by decide)];exact h) (fun γ L a w hH hl h9 k9=>⟨_,?_,rfl⟩)) ?_;· simp[JD,go_sem,h9])
    |(refine Br _ (BK kn T (fun γ v L w hl h=>by rw[Bt (L:=L) (i:=_) (j:=11) (by decide),Bt (L:=L) (i:=_) (j:=22) (by decide),Bt (L:=L) (i:=_) (j:=33) (by decide),Bt (L:=L) (i:=_) (j:=44) (by decide),Bt (L:=L) (i:=_) (j:=46) (by decide),Bt (L:=L) (i:=_) (j:=47) (by decide)];exact h) (fun γ L a w hH hl h9 k9=>⟨_,?_,rfl⟩)) ?_;· have z:=(hH.glob.1.fix (⟨pb,1,none⟩,J Y q1) (by simp)).1;simp[JC]at k9;simp[JD,go_sem,h9,k9,z])
    |(refine Br _ (BK kn T (fun γ v L w hl h=>by rw[Bt (L:=L) (i:=_) (j:=11) (by decide),Bt (L:=L) (i:=_) (j:=22) (by decide),Bt (L:=L) (i:=_) (j:=33) (by decide),Bt (L:=L) (i:=_) (j:=44) (by decide),Bt (L:=L) (i:=_) (j:=46) (by decide),Bt (L:=L) (i:=_) (j:=47) (by decide)];exact h) (fun γ L a w hH hl h9 k9=>⟨_,?_,rfl⟩)) ?_;· have z:=(hH.glob.1.fix (⟨pb,0,none⟩,J Y q0) (by simp)).1;simp[JC]at k9;simp[JD,go_sem,h9,k9,z])
    |(refine Br _ (BK kn T (fun γ v L w hl h=>by rw[Bt (L:=L) (i:=_) (j:=11) (by decide),Bt (L:=L) (i:=_) (j:=22) (by decide),Bt (L:=L) (i:=_) (j:=33) (by decide),Bt (L:=L) (i:=_) (j:=44) (by decide),Bt (L:=L) (i:=_) (j:=46) (by decide),Bt (L:=L) (i:=_) (j:=47) (by decide)];exact h) (fun γ L a w hH hl h9 k9=>⟨_,?_,rfl⟩)) ?_;· have z:=(hH.glob.1.fix (⟨pb,3,none⟩,J Y q3) (by simp)).1;simp[JC]at k9;simp[JD,go_sem,h9,k9,z])
    |(refine Br _ (BK kn T (fun γ v L w hl h=>by rw[Bt (L:=L) (i:=_) (j:=11) (by decide),Bt (L:=L) (i:=_) (j:=22) (by decide),Bt (L:=L) (i:=_) (j:=33) (by decide),Bt (L:=L) (i:=_) (j:=44) (by decide),Bt (L:=L) (i:=_) (j:=46) (by decide),Bt (L:=L) (i:=_) (j:=47) (by decide)];exact h) (fun γ L a w hH hl h9 k9=>⟨_,?_,rfl⟩)) ?_;· have z:=(hH.glob.1.fix (⟨pm,2,none⟩,J Y aK) (by simp)).1;simp[JC]at k9;simp[JD,go_sem,h9,k9,z])
   refine Br _ (BJ (fun γ L a w hH hl hA=>by have h9:=T _ _ γ L a w hH;have k9:=hA;simp[JC]at k9;exact⟨BQ (some ⟨w.heap.size,0,none⟩) 4 4,w.alloc (BP #[J Y q1,J Y q0,J Y q3,J Y aK] 3),by simp[JD,go_sem,h9,k9],(yZ _ _).mpr (Sl4.new hH.glob.2.1),fun j v _ h=>K j v _ _ (fun q u _ hq=>Jf (Jd w _) hq) h,by rw[Bt (L:=L) (i:=21) (j:=11) (by decide),Bt (L:=L) (i:=21) (j:=22) (by decide),Bt (L:=L) (i:=21) (j:=33) (by decide),Bt (L:=L) (i:=21) (j:=44) (by decide),Bt (L:=L) (i:=21) (j:=46) (by decide)];exact hH.glob.1.alloc _,by simp;have:=hH.glob.2.1;omega,by rw[Bt (L:=L) (i:=21) (j:=47) (by decide)];exact hH.glob.2.2.keep (fun q u hq=>⟨Jf (Jd w _) hq.1,Jg (Jd w _) hq.1 hq.2⟩)⟩)) ?_;refine Br _ (Bw (fun γ L a w hH hl hA=>by have h9:=T _ _ γ L a w hH;have k9:=hA;simp[JC]at k9;have l2:L 21=true:=hA ⟨21,.data⟩ (by simp) rfl;have e2:=hH.slot 21 44 (by rw[<- hD];rfl) l2;have g2:=hH.holds 21 l2;rw[yZ]at g2;obtain⟨s2,y2,c2,d2⟩:=g2;rw[y2]at e2;refine⟨161,#[BO (some ⟨po,0,none⟩),BQ (some ⟨pl,0,none⟩) 4 4,BQ (some ⟨s2,0,none⟩) 4 4],by simp[go_sem,e2,h9,k9],JA (Jd2 po 0 _ [p0,p1,p2,p3] [q1,q0,q3,aK] _ _ 4 4 w hH.glob.1.own hH.glob.1.ownf (by simp) (by simp) (Jg9 (hH.glob.1.fix (⟨pl,0,none⟩,J Y p0) (by simp)).1 (hH.glob.1.fix (⟨pl,1,none⟩,J Y p1) (by simp)).1 (hH.glob.1.fix (⟨pl,2,none⟩,J Y p2) (by simp)).1 (hH.glob.1.fix (⟨pl,3,none⟩,J Y p3) (by simp)).1) (Jhq d2)) ?_⟩;rintro e w2 ⟨v,g,rfl,SS,A⟩;obtain⟨rfl,rfl⟩:=SS.out;exact⟨_,rfl,((kn.at (k:=22) rfl _ _).2 rfl),fun j v _ h=>K j v _ _ (fun q u hq hc=>A.out.cellOf hc (by show q.block≠po;omega)) h,by have h9:=hH.glob.1.after A.out;rw[hl,fq1]at h9;rw[Bt (L:=L) (i:=22) (j:=11) (by decide),Bt (L:=L) (i:=22) (j:=33) (by decide),Bt (L:=L) (i:=22) (j:=44) (by decide),Bt (L:=L) (i:=22) (j:=46) (by decide),BD];exact h9,Nat.le_trans hH.glob.2.1 A.out.size,by rw[Bt (L:=L) (i:=22) (j:=47) (by decide)];exact hH.glob.2.2.keep (fun q u hq=>⟨A.out.cellOf hq.1 (by show pr≠po;omega),A.out.frozenOf hq.1 hq.2 (by show pr≠po;omega)⟩)⟩)) ?_
   iterate 9 first
    |(refine Br _ (BK kn T (fun γ v L w hl h=>by rw[Bt (L:=L) (i:=_) (j:=11) (by decide),Bt (L:=L) (i:=_) (j:=22) (by decide),Bt (L:=L) (i:=_) (j:=33) (by decide),Bt (L:=L) (i:=_) (j:=44) (by decide),Bt (L:=L) (i:=_) (j:=46) (by decide),Bt (L:=L) (i:=_) (j:=47) (by decide)];exact h) (fun γ L a w hH hl h9 k9=>⟨_,?_,rfl⟩)) ?_;· simp[JD,go_sem,h9])
    |(refine Br _ (BK kn T (fun γ v L w hl h=>by rw[Bt (L:=L) (i:=_) (j:=11) (by decide),Bt (L:=L) (i:=_) (j:=22) (by decide),Bt (L:=L) (i:=_) (j:=33) (by decide),Bt (L:=L) (i:=_) (j:=44) (by decide),Bt (L:=L) (i:=_) (j:=46) (by decide),Bt (L:=L) (i:=_) (j:=47) (by decide)];exact h) (fun γ L a w hH hl h9 k9=>⟨_,?_,rfl⟩)) ?_;· have z:=(hH.glob.1.fix (⟨pb,2,none⟩,J Y q2) (by simp)).1;simp[JC]at k9;simp[JD,go_sem,h9,k9,z])
    |(refine Br _ (BK kn T (fun γ v L w hl h=>by rw[Bt (L:=L) (i:=_) (j:=11) (by decide),Bt (L:=L) (i:=_) (j:=22) (by decide),Bt (L:=L) (i:=_) (j:=33) (by decide),Bt (L:=L) (i:=_) (j:=44) (by decide),Bt (L:=L) (i:=_) (j:=46) (by decide),Bt (L:=L) (i:=_) (j:=47) (by decide)];exact h) (fun γ L a w hH hl h9 k9=>⟨_,?_,rfl⟩)) ?_;· have z:=(hH.glob.1.fix (⟨pm,3,none⟩,J Y aQ) (by simp)).1;simp[JC]at k9;simp[JD,go_sem,h9,k9,z])
    |(refine Br _ (BK kn T (fun γ v L w hl h=>by rw[Bt (L:=L) (i:=_) (j:=11) (by decide),Bt (L:=L) (i:=_) (j:=22) (by decide),Bt (L:=L) (i:=_) (j:=33) (by decide),Bt (L:=L) (i:=_) (j:=44) (by decide),Bt (L:=L) (i:=_) (j:=46) (by decide),Bt (L:=L) (i:=_) (j:=47) (by decide)];exact h) (fun γ L a w hH hl h9 k9=>⟨_,?_,rfl⟩)) ?_;· have z:=(hH.glob.1.fix (⟨pb,0,none⟩,J Y q0) (by simp)).1;simp[JC]at k9;simp[JD,go_sem,h9,k9,z])
    |(refine Br _ (BK kn T (fun γ v L w hl h=>by rw[Bt (L:=L) (i:=_) (j:=11) (by decide),Bt (L:=L) (i:=_) (j:=22) (by decide),Bt (L:=L) (i:=_) (j:=33) (by decide),Bt (L:=L) (i:=_) (j:=44) (by decide),Bt (L:=L) (i:=_) (j:=46) (by decide),Bt (L:=L) (i:=_) (j:=47) (by decide)];exact h) (fun γ L a w hH hl h9 k9=>⟨_,?_,rfl⟩)) ?_;· have z:=(hH.glob.1.fix (⟨pb,1,none⟩,J Y q1) (by simp)).1;simp[JC]at k9;simp[JD,go_sem,h9,k9,z])
   refine Br _ (BJ (fun γ L a w hH hl hA=>by have h9:=T _ _ γ L a w hH;have k9:=hA;simp[JC]at k9;exact⟨BQ (some ⟨w.heap.size,0,none⟩) 4 4,w.alloc (BP #[J Y q2,J Y aQ,J Y q0,J Y q1] 3),by simp[JD,go_sem,h9,k9],(y9 _ _).mpr (Sl4.new hH.glob.2.1),fun j v _ h=>K j v _ _ (fun q u _ hq=>Jf (Jd w _) hq) h,by rw[Bt (L:=L) (i:=32) (j:=11) (by decide),Bt (L:=L) (i:=32) (j:=22) (by decide),Bt (L:=L) (i:=32) (j:=33) (by decide),Bt (L:=L) (i:=32) (j:=44) (by decide),Bt (L:=L) (i:=32) (j:=46) (by decide)];exact hH.glob.1.alloc _,by simp;have:=hH.glob.2.1;omega,by rw[Bt (L:=L) (i:=32) (j:=47) (by decide)];exact hH.glob.2.2.keep (fun q u hq=>⟨Jf (Jd w _) hq.1,Jg (Jd w _) hq.1 hq.2⟩)⟩)) ?_;refine Br _ (Bw (fun γ L a w hH hl hA=>by have h9:=T _ _ γ L a w hH;have k9:=hA;simp[JC]at k9;have l2:L 32=true:=hA ⟨32,.data⟩ (by simp) rfl;have e2:=hH.slot 32 55 (by rw[<- hD];rfl) l2;have g2:=hH.holds 32 l2;rw[y9]at g2;obtain⟨s2,y2,c2,d2⟩:=g2;rw[y2]at e2;refine⟨161,#[BO (some ⟨po,0,none⟩),BQ (some ⟨pl,0,none⟩) 4 4,BQ (some ⟨s2,0,none⟩) 4 4],by simp[go_sem,e2,h9,k9],JA (Jd2 po 0 _ [p0,p1,p2,p3] [q2,aQ,q0,q1] _ _ 4 4 w hH.glob.1.own hH.glob.1.ownf (by simp) (by simp) (Jg9 (hH.glob.1.fix (⟨pl,0,none⟩,J Y p0) (by simp)).1 (hH.glob.1.fix (⟨pl,1,none⟩,J Y p1) (by simp)).1 (hH.glob.1.fix (⟨pl,2,none⟩,J Y p2) (by simp)).1 (hH.glob.1.fix (⟨pl,3,none⟩,J Y p3) (by simp)).1) (Jhq d2)) ?_⟩;rintro e w2 ⟨v,g,rfl,SS,A⟩;obtain⟨rfl,rfl⟩:=SS.out;exact⟨_,rfl,((kn.at (k:=33) rfl _ _).2 rfl),fun j v _ h=>K j v _ _ (fun q u hq hc=>A.out.cellOf hc (by show q.block≠po;omega)) h,by have h9:=hH.glob.1.after A.out;rw[hl,fq2]at h9;rw[Bt (L:=L) (i:=33) (j:=11) (by decide),Bt (L:=L) (i:=33) (j:=22) (by decide),Bt (L:=L) (i:=33) (j:=44) (by decide),Bt (L:=L) (i:=33) (j:=46) (by decide),BD];exact h9,Nat.le_trans hH.glob.2.1 A.out.size,by rw[Bt (L:=L) (i:=33) (j:=47) (by decide)];exact hH.glob.2.2.keep (fun q u hq=>⟨A.out.cellOf hq.1 (by show pr≠po;omega),A.out.frozenOf hq.1 hq.2 (by show pr≠po;omega)⟩)⟩)) ?_
   iterate 9 first
    |(refine Br _ (BK kn T (fun γ v L w hl h=>by rw[Bt (L:=L) (i:=_) (j:=11) (by decide),Bt (L:=L) (i:=_) (j:=22) (by decide),Bt (L:=L) (i:=_) (j:=33) (by decide),Bt (L:=L) (i:=_) (j:=44) (by decide),Bt (L:=L) (i:=_) (j:=46) (by decide),Bt (L:=L) (i:=_) (j:=47) (by decide)];exact h) (fun γ L a w hH hl h9 k9=>⟨_,?_,rfl⟩)) ?_;· simp[JD,go_sem,h9])
    |(refine Br _ (BK kn T (fun γ v L w hl h=>by rw[Bt (L:=L) (i:=_) (j:=11) (by decide),Bt (L:=L) (i:=_) (j:=22) (by decide),Bt (L:=L) (i:=_) (j:=33) (by decide),Bt (L:=L) (i:=_) (j:=44) (by decide),Bt (L:=L) (i:=_) (j:=46) (by decide),Bt (L:=L) (i:=_) (j:=47) (by decide)];exact h) (fun γ L a w hH hl h9 k9=>⟨_,?_,rfl⟩)) ?_;· have z:=(hH.glob.1.fix (⟨pb,3,none⟩,J Y q3) (by simp)).1;simp[JC]at k9;simp[JD,go_sem,h9,k9,z])
    |(refine Br _ (BK kn T (fun γ v L w hl h=>by rw[Bt (L:=L) (i:=_) (j:=11) (by decide),Bt (L:=L) (i:=_) (j:=22) (by decide),Bt (L:=L) (i:=_) (j:=33) (by decide),Bt (L:=L) (i:=_) (j:=44) (by decide),Bt (L:=L) (i:=_) (j:=46) (by decide),Bt (L:=L) (i:=_) (j:=47) (by decide)];exact h) (fun γ L a w hH hl h9 k9=>⟨_,?_,rfl⟩)) ?_;· have z:=(hH.glob.1.fix (⟨pb,2,none⟩,J Y q2) (by simp)).1;simp[JC]at k9;simp[JD,go_sem,h9,k9,z])
    |(refine Br _ (BK kn T (fun γ v L w hl h=>by rw[Bt (L:=L) (i:=_) (j:=11) (by decide),Bt (L:=L) (i:=_) (j:=22) (by decide),Bt (L:=L) (i:=_) (j:=33) (by decide),Bt (L:=L) (i:=_) (j:=44) (by decide),Bt (L:=L) (i:=_) (j:=46) (by decide),Bt (L:=L) (i:=_) (j:=47) (by decide)];exact h) (fun γ L a w hH hl h9 k9=>⟨_,?_,rfl⟩)) ?_;· have z:=(hH.glob.1.fix (⟨pm,1,none⟩,J Y aJ) (by simp)).1;simp[JC]at k9;simp[JD,go_sem,h9,k9,z])
    |(refine Br _ (BK kn T (fun γ v L w hl h=>by rw[Bt (L:=L) (i:=_) (j:=11) (by decide),Bt (L:=L) (i:=_) (j:=22) (by decide),Bt (L:=L) (i:=_) (j:=33) (by decide),Bt (L:=L) (i:=_) (j:=44) (by decide),Bt (L:=L) (i:=_) (j:=46) (by decide),Bt (L:=L) (i:=_) (j:=47) (by decide)];exact h) (fun γ L a w hH hl h9 k9=>⟨_,?_,rfl⟩)) ?_;· have z:=(hH.glob.1.fix (⟨pb,0,none⟩,J Y q0) (by simp)).1;simp[JC]at k9;simp[JD,go_sem,h9,k9,z])
   refine Br _ (BJ (fun γ L a w hH hl hA=>by have h9:=T _ _ γ L a w hH;have k9:=hA;simp[JC]at k9;exact⟨BQ (some ⟨w.heap.size,0,none⟩) 4 4,w.alloc (BP #[J Y q3,J Y q2,J Y aJ,J Y q0] 3),by simp[JD,go_sem,h9,k9],(y_ _ _).mpr (Sl4.new hH.glob.2.1),fun j v _ h=>K j v _ _ (fun q u _ hq=>Jf (Jd w _) hq) h,by rw[Bt (L:=L) (i:=43) (j:=11) (by decide),Bt (L:=L) (i:=43) (j:=22) (by decide),Bt (L:=L) (i:=43) (j:=33) (by decide),Bt (L:=L) (i:=43) (j:=44) (by decide),Bt (L:=L) (i:=43) (j:=46) (by decide)];exact hH.glob.1.alloc _,by simp;have:=hH.glob.2.1;omega,by rw[Bt (L:=L) (i:=43) (j:=47) (by decide)];exact hH.glob.2.2.keep (fun q u hq=>⟨Jf (Jd w _) hq.1,Jg (Jd w _) hq.1 hq.2⟩)⟩)) ?_;refine Br _ (Bw (fun γ L a w hH hl hA=>by have h9:=T _ _ γ L a w hH;have k9:=hA;simp[JC]at k9;have l2:L 43=true:=hA ⟨43,.data⟩ (by simp) rfl;have e2:=hH.slot 43 66 (by rw[<- hD];rfl) l2;have g2:=hH.holds 43 l2;rw[y_]at g2;obtain⟨s2,y2,c2,d2⟩:=g2;rw[y2]at e2;refine⟨161,#[BO (some ⟨po,0,none⟩),BQ (some ⟨pl,0,none⟩) 4 4,BQ (some ⟨s2,0,none⟩) 4 4],by simp[go_sem,e2,h9,k9],JA (Jd2 po 0 _ [p0,p1,p2,p3] [q3,q2,aJ,q0] _ _ 4 4 w hH.glob.1.own hH.glob.1.ownf (by simp) (by simp) (Jg9 (hH.glob.1.fix (⟨pl,0,none⟩,J Y p0) (by simp)).1 (hH.glob.1.fix (⟨pl,1,none⟩,J Y p1) (by simp)).1 (hH.glob.1.fix (⟨pl,2,none⟩,J Y p2) (by simp)).1 (hH.glob.1.fix (⟨pl,3,none⟩,J Y p3) (by simp)).1) (Jhq d2)) ?_⟩;rintro e w2 ⟨v,g,rfl,SS,A⟩;obtain⟨rfl,rfl⟩:=SS.out;exact⟨_,rfl,((kn.at (k:=44) rfl _ _).2 rfl),fun j v _ h=>K j v _ _ (fun q u hq hc=>A.out.cellOf hc (by show q.block≠po;omega)) h,by have h9:=hH.glob.1.after A.out;rw[hl,fq3]at h9;rw[Bt (L:=L) (i:=44) (j:=11) (by decide),Bt (L:=L) (i:=44) (j:=22) (by decide),Bt (L:=L) (i:=44) (j:=33) (by decide),Bt (L:=L) (i:=44) (j:=46) (by decide),BD];exact h9,Nat.le_trans hH.glob.2.1 A.out.size,by rw[Bt (L:=L) (i:=44) (j:=47) (by decide)];exact hH.glob.2.2.keep (fun q u hq=>⟨A.out.cellOf hq.1 (by show pr≠po;omega),A.out.frozenOf hq.1 hq.2 (by show pr≠po;omega)⟩)⟩)) ?_
   (refine Br _ (BK kn T (fun γ v L w hl h=>by rw[Bt (L:=L) (i:=_) (j:=11) (by decide),Bt (L:=L) (i:=_) (j:=22) (by decide),Bt (L:=L) (i:=_) (j:=33) (by decide),Bt (L:=L) (i:=_) (j:=44) (by decide),Bt (L:=L) (i:=_) (j:=46) (by decide),Bt (L:=L) (i:=_) (j:=47) (by decide)];exact h) (fun γ L a w hH hl h9 k9=>⟨_,?_,rfl⟩)) ?_;· simp[JC]at k9;simp[JD,go_sem,h9,k9])
   refine Br _ (Bw (fun γ L a w hH hl hA=>by have h9:=T _ _ γ L a w hH;have k9:=hA;simp[JC]at k9;have l2:L 45=true:=hA ⟨45,.data⟩ (by simp) rfl;have za:L 11=true:=hH.closed 45 11 (Bv (j:=45) (i:=11) ah (by kernel_rfl)) l2;have zb:L 22=true:=hH.closed 45 22 (Bv (j:=45) (i:=22) ah (by kernel_rfl)) l2;have zc:L 33=true:=hH.closed 45 33 (Bv (j:=45) (i:=33) ah (by kernel_rfl)) l2;have zd:L 44=true:=hH.closed 45 44 (Bv (j:=45) (i:=44) ah (by kernel_rfl)) l2;have hD:=hH.glob.1;rw[hl,za,zb,zc,zd]at hD;simp only[Bool.false_and,Bool.or_false,Bool.true_and]at hD;refine⟨169,#[BO (some ⟨b,off,none⟩),BO (some ⟨po,0,none⟩),B_ #[J Y ((dot [p0,p1,p2,p3] [q0,aJ,aK,aQ]).getD 0),J Y ((dot [p0,p1,p2,p3] [q1,q0,q3,aK]).getD 0),J Y ((dot [p0,p1,p2,p3] [q2,aQ,q0,q1]).getD 0),J Y ((dot [p0,p1,p2,p3] [q3,q2,aJ,q0]).getD 0)]],by simp[go_sem,h9,k9],JA (Jjx b off po f ((((nb ||(dot [p0,p1,p2,p3] [q0,aJ,aK,aQ]).isNone) ||(dot [p0,p1,p2,p3] [q1,q0,q3,aK]).isNone) ||(dot [p0,p1,p2,p3] [q2,aQ,q0,q1]).isNone) ||(dot [p0,p1,p2,p3] [q3,q2,aJ,q0]).isNone) _ _ _ _ w hD.flag hD.flagf hD.own) ?_⟩;rintro e w2 ⟨rfl,A⟩;exact⟨_,rfl,((kn.at (k:=46) rfl _ _).2 rfl),fun j v _ h=>K j v _ _ (fun q u hq hc=>A.out.cellOf hc (by show q.block≠b;omega)) h,by rw[Bt (L:=L) (i:=46) (j:=11) (by decide),Bt (L:=L) (i:=46) (j:=22) (by decide),Bt (L:=L) (i:=46) (j:=33) (by decide),Bt (L:=L) (i:=46) (j:=44) (by decide),BD,za,zb,zc,zd];simp only[Bool.true_and];exact hD.tell A.out (fun c hc=>by simp only[List.mem_cons,List.not_mem_nil,or_false]at hc;rcases hc with rfl | rfl | rfl | rfl | rfl | rfl | rfl | rfl | rfl | rfl | rfl | rfl | rfl | rfl | rfl | rfl <;> (dsimp only) <;> omega),Nat.le_trans hH.glob.2.1 A.out.size,by rw[Bt (L:=L) (i:=46) (j:=47) (by decide)];exact hH.glob.2.2.keep (fun q u hq=>⟨A.out.cellOf hq.1 (by show pr≠b;omega),A.out.frozenOf hq.1 hq.2 (by show pr≠b;omega)⟩)⟩)) ?_;refine Br _ (Bz (fun γ L a w hH hl hA=>by have h9:=T _ _ γ L a w hH;have k9:=hA;simp[JC]at k9;have hC:=hH.glob.2.2;rw[hl]at hC;have z0:=hC 0 (by decide);have z1:=hC 1 (by decide);have z2:=hC 2 (by decide);have z3:=hC 3 (by decide);dsimp only[Jnk,List.getD_cons_zero,List.getD_cons_succ,cond_false]at z0 z1 z2 z3;exact⟨((((w.setCell ⟨pr,0,none⟩ (J Y (cond ((((nb ||(dot [p0,p1,p2,p3] [q0,aJ,aK,aQ]).isNone) ||(dot [p0,p1,p2,p3] [q1,q0,q3,aK]).isNone) ||(dot [p0,p1,p2,p3] [q2,aQ,q0,q1]).isNone) ||(dot [p0,p1,p2,p3] [q3,q2,aJ,q0]).isNone) 0 ((dot [p0,p1,p2,p3] [q0,aJ,aK,aQ]).getD 0)))).setCell ⟨pr,1,none⟩ (J Y (cond ((((nb ||(dot [p0,p1,p2,p3] [q0,aJ,aK,aQ]).isNone) ||(dot [p0,p1,p2,p3] [q1,q0,q3,aK]).isNone) ||(dot [p0,p1,p2,p3] [q2,aQ,q0,q1]).isNone) ||(dot [p0,p1,p2,p3] [q3,q2,aJ,q0]).isNone) 0 ((dot [p0,p1,p2,p3] [q1,q0,q3,aK]).getD 0)))).setCell ⟨pr,2,none⟩ (J Y (cond ((((nb ||(dot [p0,p1,p2,p3] [q0,aJ,aK,aQ]).isNone) ||(dot [p0,p1,p2,p3] [q1,q0,q3,aK]).isNone) ||(dot [p0,p1,p2,p3] [q2,aQ,q0,q1]).isNone) ||(dot [p0,p1,p2,p3] [q3,q2,aJ,q0]).isNone) 0 ((dot [p0,p1,p2,p3] [q2,aQ,q0,q1]).getD 0)))).setCell ⟨pr,3,none⟩ (J Y (cond ((((nb ||(dot [p0,p1,p2,p3] [q0,aJ,aK,aQ]).isNone) ||(dot [p0,p1,p2,p3] [q1,q0,q3,aK]).isNone) ||(dot [p0,p1,p2,p3] [q2,aQ,q0,q1]).isNone) ||(dot [p0,p1,p2,p3] [q3,q2,aJ,q0]).isNone) 0 ((dot [p0,p1,p2,p3] [q3,q2,aJ,q0]).getD 0)))),by simp[JD,go_sem,z0.1,z1.1,z2.1,z3.1,z0.2,z1.2,z2.2,z3.2,h9,k9],(r47 _ _).mpr trivial,fun j v _ h=>K j v _ _ (fun q u hq hc=>(Jfi (by show q.block≠pr;omega)).trans hc) h,by rw[Bt (L:=L) (i:=47) (j:=11) (by decide),Bt (L:=L) (i:=47) (j:=22) (by decide),Bt (L:=L) (i:=47) (j:=33) (by decide),Bt (L:=L) (i:=47) (j:=44) (by decide),Bt (L:=L) (i:=47) (j:=46) (by decide)];exact hH.glob.1.set4 (by omega) (by omega) (by show pr≠b;omega) (fun c hc=>by simp only[List.mem_cons,List.not_mem_nil,or_false]at hc;rcases hc with rfl | rfl | rfl | rfl | rfl | rfl | rfl | rfl | rfl | rfl | rfl | rfl | rfl | rfl | rfl | rfl <;> (dsimp only) <;> omega),by simpa [World.setCell] using hH.glob.2.1,by rw[BD];exact Jh8 hC⟩)) ?_;exact RV.AllDo.nil
  ·intro γ a5 w5 L9 hL dU hH;have ha:=RV.held_act hH hL (by kernel_rfl) (by kernel_rfl);obtain⟨hD,_,hC⟩:=hH.glob;rw[hL 11 (by decide),hL 22 (by decide),hL 33 (by decide),hL 44 (by decide),hL 46 (by decide)]at hD;rw[hL 47 (by decide)]at hC;have r0:=(hC 0 (by decide)).1;have r1:=(hC 1 (by decide)).1;have r2:=(hC 2 (by decide)).1;have r3:=(hC 3 (by decide)).1;dsimp only[List.getD_cons_zero,List.getD_cons_succ,cond_true]at r0 r1 r2 r3;simp only[Bool.true_and]at hD;rw[ha];clear ha hH hL dU hC;simp only[RV.putAll,Act.put,List.setIfInBounds_toArray,List.set_cons_zero,List.set_cons_succ,Nat.zero_add,Nat.reduceAdd];have HA:BU (After ⟨b,off,none⟩ (f ||((((nb ||(dot [p0,p1,p2,p3] [q0,aJ,aK,aQ]).isNone) ||(dot [p0,p1,p2,p3] [q1,q0,q3,aK]).isNone) ||(dot [p0,p1,p2,p3] [q2,aQ,q0,q1]).isNone) ||(dot [p0,p1,p2,p3] [q3,q2,aJ,q0]).isNone)) W w5):=hD.leaves.done hD.flag hD.flagf;clear hD;go_wp2_with (fail);refine bodyPost_ret (by simp[results,results127,go_sem,r0,r1,r2,r3];try rfl) rfl ?_;obtain⟨rfl,rfl,rfl,rfl⟩:=uT.out;exact⟨_,_,_,_,_,rfl,Jnz,HA⟩
end
section
open Go.RowKit Ref Fx
theorem Jo0(b off:Nat)(f:Bool)(m0 m1 m2 m3 m4 m5 m6 m7 m8 x0 x1 x2:Int)(W:BV)(hc:W.cell? ⟨b,off,none⟩=some (BT f))(hf:W.frozen? ⟨b,off,none⟩=false):
  Cd Tryz.prog 103 #[BO (some ⟨b,off,none⟩),B_ #[J Y m0,J Y m1,J Y m2,J Y m3,J Y m4,J Y m5,J Y m6,J Y m7,J Y m8],B_ #[J Y x0,J Y x1,J Y x2]] W fun e W'=>∃ v0 v1 v2 g,e = BZ (B_ #[J Y v0,J Y v1,J Y v2])/\BU (Jco f (dot [m0,m3,m6] [x0,x1,x2]) (dot [m1,m4,m7] [x0,x1,x2]) (dot [m2,m5,m8] [x0,x1,x2]) v0 v1 v2 g)/\BU (After ⟨b,off,none⟩ g W W'):=by
 have aO:b<W.heap.size:=JB _ _ hc;have HC:BU _:=hc;have HF:BU _:=hf;clear hc hf;go_enter func103,ntmps103;go_wp2_with (fail);obtain⟨U,hU⟩:∃ U,U=((((W.alloc (BP #[J Y m0,J Y m1,J Y m2,J Y m3,J Y m4,J Y m5,J Y m6,J Y m7,J Y m8] 105)).alloc (BP #[J Y x0,J Y x1,J Y x2] 27)).alloc (BP #[J Y 0,J Y 0,J Y 0] 27)).alloc (BP #[J Y m0,J Y m3,J Y m6,J Y m1,J Y m4,J Y m7,J Y m2,J Y m5,J Y m8] 105)):=⟨_,rfl⟩
 have HL:BU (Leaves ⟨b,off,none⟩ W U):=by show Leaves _ _ _;rw[hU];exact(((((Leaves.refl _ _).alloc _).alloc _).alloc _).alloc _)
 have hp:U.cell? ⟨b,off,none⟩=some (BT f):=by
  rw[hU];rw[World.cell?_alloc_past _ _ _ (by simp;omega),World.cell?_alloc_past _ _ _ (by simp;omega),World.cell?_alloc_past _ _ _ (by simp;omega),World.cell?_alloc_past _ _ _ aO];exact HC.out
 have bg:U.frozen? ⟨b,off,none⟩=false:=by
  rw[hU];rw[((Jd _ _).frozen (by simp;omega)),((Jd _ _).frozen (by simp;omega)),((Jd _ _).frozen (by simp;omega)),((Jd _ _).frozen aO)];exact HF.out
 obtain⟨pr,aB⟩:∃ p,p=W.heap.size+1+1:=⟨_,rfl⟩
 have bN:U.cell? ⟨pr,0,none⟩=some (J Y 0):=by
  rw[hU,aB];simp[go_sem]
 have dt:U.frozen? ⟨pr,0,none⟩=false:=by
  rw[hU,aB];simp[go_sem]
 have bO:U.cell? ⟨pr,1,none⟩=some (J Y 0):=by
  rw[hU,aB];simp[go_sem]
 have du:U.frozen? ⟨pr,1,none⟩=false:=by
  rw[hU,aB];simp[go_sem]
 have bP:U.cell? ⟨pr,2,none⟩=some (J Y 0):=by
  rw[hU,aB];simp[go_sem]
 have dv:U.frozen? ⟨pr,2,none⟩=false:=by
  rw[hU,aB];simp[go_sem]
 rw[<- hU];have fM:b<pr:=by omega
 have aE:W.heap.size<=pr:=by omega
 rw[<- aB];clear hU HC HF aB;refine(Jhu b off f m0 m3 m6 m1 m4 m7 m2 m5 m8 x0 x1 x2 U hp bg).mono ?_;rintro e V9 ⟨v0,v1,v2,g,rfl,S,A⟩;have dt:=A.out.frozenOf bN dt (by show pr≠b;omega);have bN:=A.out.cellOf bN (by show pr≠b;omega);have du:=A.out.frozenOf bO du (by show pr≠b;omega);have bO:=A.out.cellOf bO (by show pr≠b;omega);have dv:=A.out.frozenOf bP dv (by show pr≠b;omega);have bP:=A.out.cellOf bP (by show pr≠b;omega);have bL:BU (Leaves ⟨b,off,none⟩ W V9):=HL.out.same A.out;have hp:=A.out.cell;have bg:=A.out.frozen;have n1:b≠pr:=by omega
 have n2:pr≠b:=by omega
 clear A HL;go_wp2_with (fail);refine bodyPost_ret (by simp[results,results103,go_sem,bN,bO,bP];try rfl) rfl ?_;refine⟨v0,v1,v2,g,rfl,S,(((bL.out.set aE _).set aE _).set aE _).done ?_ ?_⟩
 ·simp[go_sem,hp]
 ·simp[go_sem,bg]
def Jen(q0 q1 q2 q3 h0 h1 h2:Int):Int:=cond (Jr (cond (Jh 4294967296 h0 h1 h2 q0 q1 q2 q3) 0 (Jas 4294967296 h0 h1 h2 q0 q1 q2 q3)) (cond (Jh 4294967296 h0 h1 h2 q0 q1 q2 q3) 0 (Jat 4294967296 h0 h1 h2 q0 q1 q2 q3)) (cond (Jh 4294967296 h0 h1 h2 q0 q1 q2 q3) 0 (Jar 4294967296 h0 h1 h2 q0 q1 q2 q3)) (cond (Jh 4294967296 h0 h1 h2 q0 q1 q2 q3) 0 (Jaq 4294967296 h0 h1 h2 q0 q1 q2 q3))) 0 ((Jw (cond (Jh 4294967296 h0 h1 h2 q0 q1 q2 q3) 0 (Jas 4294967296 h0 h1 h2 q0 q1 q2 q3)) 4294967296 ((Jah [(cond (Jh 4294967296 h0 h1 h2 q0 q1 q2 q3) 0 (Jas 4294967296 h0 h1 h2 q0 q1 q2 q3)),(cond (Jh 4294967296 h0 h1 h2 q0 q1 q2 q3) 0 (Jat 4294967296 h0 h1 h2 q0 q1 q2 q3)),(cond (Jh 4294967296 h0 h1 h2 q0 q1 q2 q3) 0 (Jar 4294967296 h0 h1 h2 q0 q1 q2 q3)),(cond (Jh 4294967296 h0 h1 h2 q0 q1 q2 q3) 0 (Jaq 4294967296 h0 h1 h2 q0 q1 q2 q3))]).getD 0)).getD 0)
def Jek(q0 q1 q2 q3 h0 h1 h2:Int):Int:=cond (Jr (cond (Jh 4294967296 h0 h1 h2 q0 q1 q2 q3) 0 (Jas 4294967296 h0 h1 h2 q0 q1 q2 q3)) (cond (Jh 4294967296 h0 h1 h2 q0 q1 q2 q3) 0 (Jat 4294967296 h0 h1 h2 q0 q1 q2 q3)) (cond (Jh 4294967296 h0 h1 h2 q0 q1 q2 q3) 0 (Jar 4294967296 h0 h1 h2 q0 q1 q2 q3)) (cond (Jh 4294967296 h0 h1 h2 q0 q1 q2 q3) 0 (Jaq 4294967296 h0 h1 h2 q0 q1 q2 q3))) 0 ((Jw (cond (Jh 4294967296 h0 h1 h2 q0 q1 q2 q3) 0 (Jat 4294967296 h0 h1 h2 q0 q1 q2 q3)) 4294967296 ((Jah [(cond (Jh 4294967296 h0 h1 h2 q0 q1 q2 q3) 0 (Jas 4294967296 h0 h1 h2 q0 q1 q2 q3)),(cond (Jh 4294967296 h0 h1 h2 q0 q1 q2 q3) 0 (Jat 4294967296 h0 h1 h2 q0 q1 q2 q3)),(cond (Jh 4294967296 h0 h1 h2 q0 q1 q2 q3) 0 (Jar 4294967296 h0 h1 h2 q0 q1 q2 q3)),(cond (Jh 4294967296 h0 h1 h2 q0 q1 q2 q3) 0 (Jaq 4294967296 h0 h1 h2 q0 q1 q2 q3))]).getD 0)).getD 0)
def Jef(q0 q1 q2 q3 h0 h1 h2:Int):Int:=cond (Jr (cond (Jh 4294967296 h0 h1 h2 q0 q1 q2 q3) 0 (Jas 4294967296 h0 h1 h2 q0 q1 q2 q3)) (cond (Jh 4294967296 h0 h1 h2 q0 q1 q2 q3) 0 (Jat 4294967296 h0 h1 h2 q0 q1 q2 q3)) (cond (Jh 4294967296 h0 h1 h2 q0 q1 q2 q3) 0 (Jar 4294967296 h0 h1 h2 q0 q1 q2 q3)) (cond (Jh 4294967296 h0 h1 h2 q0 q1 q2 q3) 0 (Jaq 4294967296 h0 h1 h2 q0 q1 q2 q3))) 0 ((Jw (cond (Jh 4294967296 h0 h1 h2 q0 q1 q2 q3) 0 (Jar 4294967296 h0 h1 h2 q0 q1 q2 q3)) 4294967296 ((Jah [(cond (Jh 4294967296 h0 h1 h2 q0 q1 q2 q3) 0 (Jas 4294967296 h0 h1 h2 q0 q1 q2 q3)),(cond (Jh 4294967296 h0 h1 h2 q0 q1 q2 q3) 0 (Jat 4294967296 h0 h1 h2 q0 q1 q2 q3)),(cond (Jh 4294967296 h0 h1 h2 q0 q1 q2 q3) 0 (Jar 4294967296 h0 h1 h2 q0 q1 q2 q3)),(cond (Jh 4294967296 h0 h1 h2 q0 q1 q2 q3) 0 (Jaq 4294967296 h0 h1 h2 q0 q1 q2 q3))]).getD 0)).getD 0)
def Je0(q0 q1 q2 q3 h0 h1 h2:Int):Int:=cond (Jr (cond (Jh 4294967296 h0 h1 h2 q0 q1 q2 q3) 0 (Jas 4294967296 h0 h1 h2 q0 q1 q2 q3)) (cond (Jh 4294967296 h0 h1 h2 q0 q1 q2 q3) 0 (Jat 4294967296 h0 h1 h2 q0 q1 q2 q3)) (cond (Jh 4294967296 h0 h1 h2 q0 q1 q2 q3) 0 (Jar 4294967296 h0 h1 h2 q0 q1 q2 q3)) (cond (Jh 4294967296 h0 h1 h2 q0 q1 q2 q3) 0 (Jaq 4294967296 h0 h1 h2 q0 q1 q2 q3))) 0 ((Jw (cond (Jh 4294967296 h0 h1 h2 q0 q1 q2 q3) 0 (Jaq 4294967296 h0 h1 h2 q0 q1 q2 q3)) 4294967296 ((Jah [(cond (Jh 4294967296 h0 h1 h2 q0 q1 q2 q3) 0 (Jas 4294967296 h0 h1 h2 q0 q1 q2 q3)),(cond (Jh 4294967296 h0 h1 h2 q0 q1 q2 q3) 0 (Jat 4294967296 h0 h1 h2 q0 q1 q2 q3)),(cond (Jh 4294967296 h0 h1 h2 q0 q1 q2 q3) 0 (Jar 4294967296 h0 h1 h2 q0 q1 q2 q3)),(cond (Jh 4294967296 h0 h1 h2 q0 q1 q2 q3) 0 (Jaq 4294967296 h0 h1 h2 q0 q1 q2 q3))]).getD 0)).getD 0)
def Jb0(q0 q1 q2 q3 h0 h1 h2:Int):Bool:=Jr (cond (Jh 4294967296 h0 h1 h2 q0 q1 q2 q3) 0 (Jas 4294967296 h0 h1 h2 q0 q1 q2 q3)) (cond (Jh 4294967296 h0 h1 h2 q0 q1 q2 q3) 0 (Jat 4294967296 h0 h1 h2 q0 q1 q2 q3)) (cond (Jh 4294967296 h0 h1 h2 q0 q1 q2 q3) 0 (Jar 4294967296 h0 h1 h2 q0 q1 q2 q3)) (cond (Jh 4294967296 h0 h1 h2 q0 q1 q2 q3) 0 (Jaq 4294967296 h0 h1 h2 q0 q1 q2 q3))
theorem Jm9:Jr 0 0 0 0=true:=by
 have h:Jah [0,0,0,0]=some 0:=by decide
 unfold Jr;rw[h]
 rfl
theorem Jlx{q0 q1 q2 q3 h0 h1 h2:Int}(h:Jh 4294967296 h0 h1 h2 q0 q1 q2 q3=true):Jb0 q0 q1 q2 q3 h0 h1 h2=true:=by
 unfold Jb0;rw[h];exact Jm9
theorem Jok{f g1 g2:Bool}{q0 q1 q2 q3 h0 h1 h2 t0 t1 t2 t3 v0 v1 v2 v3:Int}(a:t0=cond (Jh 4294967296 h0 h1 h2 q0 q1 q2 q3) 0 (Jas 4294967296 h0 h1 h2 q0 q1 q2 q3)/\t1=cond (Jh 4294967296 h0 h1 h2 q0 q1 q2 q3) 0 (Jat 4294967296 h0 h1 h2 q0 q1 q2 q3)/\t2=cond (Jh 4294967296 h0 h1 h2 q0 q1 q2 q3) 0 (Jar 4294967296 h0 h1 h2 q0 q1 q2 q3)/\t3=cond (Jh 4294967296 h0 h1 h2 q0 q1 q2 q3) 0 (Jaq 4294967296 h0 h1 h2 q0 q1 q2 q3)/\g1=(false||Jh 4294967296 h0 h1 h2 q0 q1 q2 q3))
  (c:v0=cond (Jr t0 t1 t2 t3) 0 ((Jw t0 4294967296 ((Jah [t0,t1,t2,t3]).getD 0)).getD 0)/\v1=cond (Jr t0 t1 t2 t3) 0 ((Jw t1 4294967296 ((Jah [t0,t1,t2,t3]).getD 0)).getD 0)/\v2=cond (Jr t0 t1 t2 t3) 0 ((Jw t2 4294967296 ((Jah [t0,t1,t2,t3]).getD 0)).getD 0)/\v3=cond (Jr t0 t1 t2 t3) 0 ((Jw t3 4294967296 ((Jah [t0,t1,t2,t3]).getD 0)).getD 0)/\g2=(g1||Jr t0 t1 t2 t3)) :
  cond g2 0 v0=Jen q0 q1 q2 q3 h0 h1 h2/\cond g2 0 v1=Jek q0 q1 q2 q3 h0 h1 h2/\cond g2 0 v2=Jef q0 q1 q2 q3 h0 h1 h2/\cond g2 0 v3=Je0 q0 q1 q2 q3 h0 h1 h2/\(f||g2)=(f||Jb0 q0 q1 q2 q3 h0 h1 h2):=by
 obtain⟨rfl,rfl,rfl,rfl,rfl⟩:=a;obtain⟨rfl,rfl,rfl,rfl,rfl⟩:=c;have e:(false||Jh 4294967296 h0 h1 h2 q0 q1 q2 q3||Jr (cond (Jh 4294967296 h0 h1 h2 q0 q1 q2 q3) 0 (Jas 4294967296 h0 h1 h2 q0 q1 q2 q3)) (cond (Jh 4294967296 h0 h1 h2 q0 q1 q2 q3) 0 (Jat 4294967296 h0 h1 h2 q0 q1 q2 q3)) (cond (Jh 4294967296 h0 h1 h2 q0 q1 q2 q3) 0 (Jar 4294967296 h0 h1 h2 q0 q1 q2 q3)) (cond (Jh 4294967296 h0 h1 h2 q0 q1 q2 q3) 0 (Jaq 4294967296 h0 h1 h2 q0 q1 q2 q3)))=Jb0 q0 q1 q2 q3 h0 h1 h2:=by
  cases hb:Jh 4294967296 h0 h1 h2 q0 q1 q2 q3 with
  | true=>rw[Jlx hb];rfl
  | false=>unfold Jb0;rw[hb];rfl
 rw[e];unfold Jen Jek Jef Je0;unfold Jb0;cases Jr (cond (Jh 4294967296 h0 h1 h2 q0 q1 q2 q3) 0 (Jas 4294967296 h0 h1 h2 q0 q1 q2 q3)) (cond (Jh 4294967296 h0 h1 h2 q0 q1 q2 q3) 0 (Jat 4294967296 h0 h1 h2 q0 q1 q2 q3)) (cond (Jh 4294967296 h0 h1 h2 q0 q1 q2 q3) 0 (Jar 4294967296 h0 h1 h2 q0 q1 q2 q3)) (cond (Jh 4294967296 h0 h1 h2 q0 q1 q2 q3) 0 (Jaq 4294967296 h0 h1 h2 q0 q1 q2 q3)) <;> exact⟨rfl,rfl,rfl,rfl,rfl⟩
theorem Jnu(b off:Nat)(f:Bool)(q0 q1 q2 q3 h0 h1 h2:Int)(W:BV)(hc:W.cell? ⟨b,off,none⟩=some (BT f))(hf:W.frozen? ⟨b,off,none⟩=false):
  Cd Tryz.prog 113 #[BO (some ⟨b,off,none⟩),B_ #[J Y q0,J Y q1,J Y q2,J Y q3],B_ #[J Y h0,J Y h1,J Y h2]] W fun e W'=>∃ v0 v1 v2 v3 g,e = BZ (B_ #[J Y v0,J Y v1,J Y v2,J Y v3])/\BU (v0=Jen q0 q1 q2 q3 h0 h1 h2/\v1=Jek q0 q1 q2 q3 h0 h1 h2/\v2=Jef q0 q1 q2 q3 h0 h1 h2/\v3=Je0 q0 q1 q2 q3 h0 h1 h2/\g=(f||Jb0 q0 q1 q2 q3 h0 h1 h2))/\BU (After ⟨b,off,none⟩ g W W'):=by
 have aO:b<W.heap.size:=JB _ _ hc;go_enter func113,ntmps113;go_wp2_with (fail);refine(Jbm _).mono ?_;rintro e W1 ⟨rfl,rfl⟩;obtain⟨U,hU⟩:∃ U,U=((((W.alloc (BP #[J Y q0,J Y q1,J Y q2,J Y q3] 29)).alloc (BP #[J Y h0,J Y h1,J Y h2] 27)).alloc (BP #[J Y 0,J Y 0,J Y 0,J Y 0] 29)).alloc (BP #[BT false] 57)):=⟨_,rfl⟩
 obtain⟨pa,aU⟩:∃ p,p=W.heap.size:=⟨_,rfl⟩
 obtain⟨pb,aF⟩:∃ p,p=W.heap.size+1:=⟨_,rfl⟩
 obtain⟨pr,aB⟩:∃ p,p=W.heap.size+1+1:=⟨_,rfl⟩
 obtain⟨po,aV⟩:∃ p,p=W.heap.size+1+1+1:=⟨_,rfl⟩
 have H:BU (Ho W U ⟨b,off,none⟩ po f false [(⟨pa,0,none⟩,J Y q0),(⟨pa,1,none⟩,J Y q1),(⟨pa,2,none⟩,J Y q2),(⟨pa,3,none⟩,J Y q3),(⟨pb,0,none⟩,J Y h0),(⟨pb,1,none⟩,J Y h1),(⟨pb,2,none⟩,J Y h2),(⟨pr,0,none⟩,J Y 0),(⟨pr,1,none⟩,J Y 0),(⟨pr,2,none⟩,J Y 0),(⟨pr,3,none⟩,J Y 0)]):=by
  refine⟨by rw[hU];exact(((((Leaves.refl _ _).alloc _).alloc _).alloc _).alloc _),by rw[hU,World.cell?_alloc_past _ _ _ (by simp;omega),World.cell?_alloc_past _ _ _ (by simp;omega),World.cell?_alloc_past _ _ _ (by simp;omega),World.cell?_alloc_past _ _ _ aO];exact hc,by rw[hU,((Jd _ _).frozen (by simp;omega)),((Jd _ _).frozen (by simp;omega)),((Jd _ _).frozen (by simp;omega)),((Jd _ _).frozen aO)];exact hf,by rw[hU,aV];simp[go_sem],by rw[hU,aV];simp[go_sem],?_,?_,aO,by omega⟩
  ·intro c hc;simp only[List.mem_cons,List.not_mem_nil,or_false]at hc;rcases hc with rfl | rfl | rfl | rfl | rfl | rfl | rfl | rfl | rfl | rfl | rfl <;> rw[hU] <;> dsimp only <;> first |(rw[aU];exact⟨by simp[go_sem],by simp[go_sem]⟩) |(rw[aF];exact⟨by simp[go_sem],by simp[go_sem]⟩) |(rw[aB];exact⟨by simp[go_sem],by simp[go_sem]⟩)
  ·intro c hc;simp only[List.mem_cons,List.not_mem_nil,or_false]at hc;rcases hc with rfl | rfl | rfl | rfl | rfl | rfl | rfl | rfl | rfl | rfl | rfl <;> (dsimp only) <;> omega
 rw[<- hU];simp only[World.size_alloc];rw[<- aV,<- aB,<- aF,<- aU];have qU:pa<pb:=by omega
 have qV:pb<pr:=by omega
 have uP:pr<po:=by omega
 have qW:W.heap.size<=pa:=by omega
 clear hU hc hf aU aF aB aV;have aa:=(H.out.fix (⟨pa,0,none⟩,J Y q0) (by simp)).1;have af:=(H.out.fix (⟨pa,1,none⟩,J Y q1) (by simp)).1;have ag:=(H.out.fix (⟨pa,2,none⟩,J Y q2) (by simp)).1;have an:=(H.out.fix (⟨pa,3,none⟩,J Y q3) (by simp)).1;have aw:=(H.out.fix (⟨pb,0,none⟩,J Y h0) (by simp)).1;have aR:=(H.out.fix (⟨pb,1,none⟩,J Y h1) (by simp)).1;have aS:=(H.out.fix (⟨pb,2,none⟩,J Y h2) (by simp)).1;have aq:=JB _ _ aa;dsimp only at aq;have bf:=JB _ _ aw;dsimp only at bf;go_wp2_with (fail);clear aa af ag an aw aR aS aq bf;refine(Jmw po 0 false 4294967296 h0 h1 h2 q0 q1 q2 q3 _ H.out.own H.out.ownf).mono ?_;rintro e lH ⟨t0,t1,t2,t3,g1,rfl,fI,A⟩;have H:BU _:=H.out.after A.out;clear A;go_upto_region 3 with fail;obtain⟨pt,lA⟩:∃ p,p=lH.heap.size:=⟨_,rfl⟩
 obtain⟨Ypt,oP⟩:∃ X,X=lH.alloc (BP #[J Y t0,J Y t1,J Y t2,J Y t3] 29):=⟨_,rfl⟩
 have H2:BU (Ho W Ypt ⟨b,off,none⟩ po f g1 ([(⟨pt,0,none⟩,J Y t0),(⟨pt,1,none⟩,J Y t1),(⟨pt,2,none⟩,J Y t2),(⟨pt,3,none⟩,J Y t3)] ++ [(⟨pa,0,none⟩,J Y q0),(⟨pa,1,none⟩,J Y q1),(⟨pa,2,none⟩,J Y q2),(⟨pa,3,none⟩,J Y q3),(⟨pb,0,none⟩,J Y h0),(⟨pb,1,none⟩,J Y h1),(⟨pb,2,none⟩,J Y h2),(⟨pr,0,none⟩,J Y 0),(⟨pr,1,none⟩,J Y 0),(⟨pr,2,none⟩,J Y 0),(⟨pr,3,none⟩,J Y 0)])):=by
  show Ho _ _ _ _ _ _ _
  rw[oP];refine H.out.lay _ _ _ (fun c hc=>?_);simp only[List.mem_cons,List.not_mem_nil,or_false]at hc;rcases hc with rfl | rfl | rfl | rfl
  ·exact⟨0,by rw[lA],rfl⟩
  ·exact⟨1,by rw[lA],rfl⟩
  ·exact⟨2,by rw[lA],rfl⟩
  ·exact⟨3,by rw[lA],rfl⟩
 rw[<- oP,<- lA];have H:BU _:=H2.out;clear oP lA H2;have kt0:=(H.out.fix (⟨pt,0,none⟩,J Y t0) (by simp)).1;have kt1:=(H.out.fix (⟨pt,1,none⟩,J Y t1) (by simp)).1;have kt2:=(H.out.fix (⟨pt,2,none⟩,J Y t2) (by simp)).1;have kt3:=(H.out.fix (⟨pt,3,none⟩,J Y t3) (by simp)).1;go_wp2_with (fail);clear kt0 kt1 kt2 kt3;refine(Jhg po 0 g1 t0 t1 t2 t3 _ H.out.own H.out.ownf).mono ?_;rintro e nd ⟨v0,v1,v2,v3,g2,rfl,ic,A⟩;have H:BU _:=H.out.after A.out;clear A;go_upto_region 4 with fail;obtain⟨pw,bE⟩:∃ p,p=nd.heap.size:=⟨_,rfl⟩
 obtain⟨Ypw,oQ⟩:∃ X,X=nd.alloc (BP #[J Y v0,J Y v1,J Y v2,J Y v3] 29):=⟨_,rfl⟩
 have zw:po<pw:=by rw[bE];exact JB _ _ H.out.own
 have H2:BU (Ho W Ypw ⟨b,off,none⟩ po f g2 ([(⟨pw,0,none⟩,J Y v0),(⟨pw,1,none⟩,J Y v1),(⟨pw,2,none⟩,J Y v2),(⟨pw,3,none⟩,J Y v3)]++([(⟨pt,0,none⟩,J Y t0),(⟨pt,1,none⟩,J Y t1),(⟨pt,2,none⟩,J Y t2),(⟨pt,3,none⟩,J Y t3)] ++ [(⟨pa,0,none⟩,J Y q0),(⟨pa,1,none⟩,J Y q1),(⟨pa,2,none⟩,J Y q2),(⟨pa,3,none⟩,J Y q3),(⟨pb,0,none⟩,J Y h0),(⟨pb,1,none⟩,J Y h1),(⟨pb,2,none⟩,J Y h2),(⟨pr,0,none⟩,J Y 0),(⟨pr,1,none⟩,J Y 0),(⟨pr,2,none⟩,J Y 0),(⟨pr,3,none⟩,J Y 0)]))):=by
  show Ho _ _ _ _ _ _ _
  rw[oQ];refine H.out.lay _ _ _ (fun c hc=>?_);simp only[List.mem_cons,List.not_mem_nil,or_false]at hc;rcases hc with rfl | rfl | rfl | rfl
  ·exact⟨0,by rw[bE],rfl⟩
  ·exact⟨1,by rw[bE],rfl⟩
  ·exact⟨2,by rw[bE],rfl⟩
  ·exact⟨3,by rw[bE],rfl⟩
 rw[<- oQ,<- bE];have H:BU _:=H2.out;clear oQ bE H2;go_wp2_with (fail);refine(Jb4 b off po f g2 _ H.out.flag H.out.flagf H.out.own (by omega)).mono ?_;rintro e V9 ⟨rfl,A⟩;have bN:=A.out.cellOf (H.out.fix (⟨pr,0,none⟩,J Y 0) (by simp)).1 (by show pr≠b;omega);have dt:=A.out.frozenOf (H.out.fix (⟨pr,0,none⟩,J Y 0) (by simp)).1 (H.out.fix (⟨pr,0,none⟩,J Y 0) (by simp)).2 (by show pr≠b;omega);have bO:=A.out.cellOf (H.out.fix (⟨pr,1,none⟩,J Y 0) (by simp)).1 (by show pr≠b;omega);have du:=A.out.frozenOf (H.out.fix (⟨pr,1,none⟩,J Y 0) (by simp)).1 (H.out.fix (⟨pr,1,none⟩,J Y 0) (by simp)).2 (by show pr≠b;omega);have bP:=A.out.cellOf (H.out.fix (⟨pr,2,none⟩,J Y 0) (by simp)).1 (by show pr≠b;omega);have dv:=A.out.frozenOf (H.out.fix (⟨pr,2,none⟩,J Y 0) (by simp)).1 (H.out.fix (⟨pr,2,none⟩,J Y 0) (by simp)).2 (by show pr≠b;omega);have eb:=A.out.cellOf (H.out.fix (⟨pr,3,none⟩,J Y 0) (by simp)).1 (by show pr≠b;omega);have iX:=A.out.frozenOf (H.out.fix (⟨pr,3,none⟩,J Y 0) (by simp)).1 (H.out.fix (⟨pr,3,none⟩,J Y 0) (by simp)).2 (by show pr≠b;omega);have kw0:=A.out.cellOf (H.out.fix (⟨pw,0,none⟩,J Y v0) (by simp)).1 (by show pw≠b;omega);have kw1:=A.out.cellOf (H.out.fix (⟨pw,1,none⟩,J Y v1) (by simp)).1 (by show pw≠b;omega);have kw2:=A.out.cellOf (H.out.fix (⟨pw,2,none⟩,J Y v2) (by simp)).1 (by show pw≠b;omega);have kw3:=A.out.cellOf (H.out.fix (⟨pw,3,none⟩,J Y v3) (by simp)).1 (by show pw≠b;omega);have n5:pw≠pr:=by omega
 have n6:pr≠pw:=by omega
 have HL:BU (Leaves ⟨b,off,none⟩ W V9):=H.out.leaves.same A.out;have hp:=A.out.cell;have bg:=A.out.frozen;have n1:b≠pr:=by omega
 have n2:pr≠b:=by omega
 have aE:W.heap.size<=pr:=by omega
 have HS:BU _:=Jok (f:=f) fI.out ic.out;clear A H fI ic;cases g2 with
 | true =>
  go_wp2_with (fail);refine bodyPost_ret (by simp[results,results113,go_sem,bN,bO,bP,eb];try rfl) rfl ?_;refine⟨0,0,0,0,_,rfl,HS.out,((((HL.out.set aE _).set aE _).set aE _).set aE _).done ?_ ?_⟩
  ·simp[go_sem,hp]
  ·simp[go_sem,bg]
 | false =>
  go_wp2_with (fail);refine bodyPost_ret (by simp[results,results113,go_sem,bN,bO,bP,eb];try rfl) rfl ?_;refine⟨_,_,_,_,_,rfl,HS.out,((((HL.out.set aE _).set aE _).set aE _).set aE _).done ?_ ?_⟩
  ·simp[go_sem,hp]
  ·simp[go_sem,bg]
theorem Jlt{f g1 g2:Bool}{q0 q1 q2 q3 h0 h1 h2 t0 t1 t2 t3 v0 v1 v2 v3:Int}(a:t0=cond (Jh 4294967296 h0 h1 h2 q0 q1 q2 q3) 0 (Jas 4294967296 h0 h1 h2 q0 q1 q2 q3)/\t1=cond (Jh 4294967296 h0 h1 h2 q0 q1 q2 q3) 0 (Jat 4294967296 h0 h1 h2 q0 q1 q2 q3)/\t2=cond (Jh 4294967296 h0 h1 h2 q0 q1 q2 q3) 0 (Jar 4294967296 h0 h1 h2 q0 q1 q2 q3)/\t3=cond (Jh 4294967296 h0 h1 h2 q0 q1 q2 q3) 0 (Jaq 4294967296 h0 h1 h2 q0 q1 q2 q3)/\g1=(f||Jh 4294967296 h0 h1 h2 q0 q1 q2 q3))
  (c:v0=cond (Jr t0 t1 t2 t3) 0 ((Jw t0 4294967296 ((Jah [t0,t1,t2,t3]).getD 0)).getD 0)/\v1=cond (Jr t0 t1 t2 t3) 0 ((Jw t1 4294967296 ((Jah [t0,t1,t2,t3]).getD 0)).getD 0)/\v2=cond (Jr t0 t1 t2 t3) 0 ((Jw t2 4294967296 ((Jah [t0,t1,t2,t3]).getD 0)).getD 0)/\v3=cond (Jr t0 t1 t2 t3) 0 ((Jw t3 4294967296 ((Jah [t0,t1,t2,t3]).getD 0)).getD 0)/\g2=(g1||Jr t0 t1 t2 t3)) :
  v0=Jen q0 q1 q2 q3 h0 h1 h2/\v1=Jek q0 q1 q2 q3 h0 h1 h2/\v2=Jef q0 q1 q2 q3 h0 h1 h2/\v3=Je0 q0 q1 q2 q3 h0 h1 h2/\g2=(f||Jb0 q0 q1 q2 q3 h0 h1 h2):=by
 obtain⟨rfl,rfl,rfl,rfl,rfl⟩:=a;obtain⟨rfl,rfl,rfl,rfl,rfl⟩:=c;refine⟨rfl,rfl,rfl,rfl,?_⟩;cases hb:Jh 4294967296 h0 h1 h2 q0 q1 q2 q3 with
 | true=>rw[Jlx hb];simp
 | false=>unfold Jb0;rw[hb];simp
theorem Jqh(b off:Nat)(f:Bool)(q0 q1 q2 q3 h0 h1 h2:Int)(W:BV)(hc:W.cell? ⟨b,off,none⟩=some (BT f))(hf:W.frozen? ⟨b,off,none⟩=false):
  Cd Tryz.prog 57 #[BO (some ⟨b,off,none⟩),B_ #[J Y q0,J Y q1,J Y q2,J Y q3],B_ #[J Y h0,J Y h1,J Y h2]] W fun e W'=>∃ v0 v1 v2 v3 g,e = BZ (B_ #[J Y v0,J Y v1,J Y v2,J Y v3])/\BU (v0=Jen q0 q1 q2 q3 h0 h1 h2/\v1=Jek q0 q1 q2 q3 h0 h1 h2/\v2=Jef q0 q1 q2 q3 h0 h1 h2/\v3=Je0 q0 q1 q2 q3 h0 h1 h2/\g=(f||Jb0 q0 q1 q2 q3 h0 h1 h2))/\BU (After ⟨b,off,none⟩ g W W'):=by
 have aO:b<W.heap.size:=JB _ _ hc;obtain⟨U,hU⟩:∃ U,U=(((W.alloc (BP #[J Y q0,J Y q1,J Y q2,J Y q3] 29)).alloc (BP #[J Y h0,J Y h1,J Y h2] 27)).alloc (BP #[J Y 0,J Y 0,J Y 0,J Y 0] 29)):=⟨_,rfl⟩
 obtain⟨pr,aB⟩:∃ p,p=W.heap.size+1+1:=⟨_,rfl⟩
 have HL:BU (Leaves ⟨b,off,none⟩ W U):=by show Leaves _ _ _;rw[hU];exact(((Leaves.refl _ _).alloc _).alloc _).alloc _
 have hp:U.cell? ⟨b,off,none⟩=some (BT f):=by rw[hU,World.cell?_alloc_past _ _ _ (by simp;omega),World.cell?_alloc_past _ _ _ (by simp;omega),World.cell?_alloc_past _ _ _ aO];exact hc
 have bg:U.frozen? ⟨b,off,none⟩=false:=by rw[hU,((Jd _ _).frozen (by simp;omega)),((Jd _ _).frozen (by simp;omega)),((Jd _ _).frozen aO)];exact hf
 have bN:U.cell? ⟨pr,0,none⟩=some (J Y 0):=by rw[hU,aB];simp[go_sem]
 have dt:U.frozen? ⟨pr,0,none⟩=false:=by rw[hU,aB];simp[go_sem]
 have bO:U.cell? ⟨pr,1,none⟩=some (J Y 0):=by rw[hU,aB];simp[go_sem]
 have du:U.frozen? ⟨pr,1,none⟩=false:=by rw[hU,aB];simp[go_sem]
 have bP:U.cell? ⟨pr,2,none⟩=some (J Y 0):=by rw[hU,aB];simp[go_sem]
 have dv:U.frozen? ⟨pr,2,none⟩=false:=by rw[hU,aB];simp[go_sem]
 have eb:U.cell? ⟨pr,3,none⟩=some (J Y 0):=by rw[hU,aB];simp[go_sem]
 have iX:U.frozen? ⟨pr,3,none⟩=false:=by rw[hU,aB];simp[go_sem]
 have ka0:U.cell? ⟨W.heap.size,0,none⟩=some (J Y q0):=by rw[hU];simp[go_sem]
 have ka1:U.cell? ⟨W.heap.size,1,none⟩=some (J Y q1):=by rw[hU];simp[go_sem]
 have ka2:U.cell? ⟨W.heap.size,2,none⟩=some (J Y q2):=by rw[hU];simp[go_sem]
 have ka3:U.cell? ⟨W.heap.size,3,none⟩=some (J Y q3):=by rw[hU];simp[go_sem]
 have kb0:U.cell? ⟨W.heap.size+1,0,none⟩=some (J Y h0):=by rw[hU];simp[go_sem]
 have kb1:U.cell? ⟨W.heap.size+1,1,none⟩=some (J Y h1):=by rw[hU];simp[go_sem]
 have kb2:U.cell? ⟨W.heap.size+1,2,none⟩=some (J Y h2):=by rw[hU];simp[go_sem]
 go_enter func57,ntmps57;go_upto_region 1 with fail;rw[<- hU];rw[<- aB];obtain⟨pa,aU⟩:∃ p,p=W.heap.size:=⟨_,rfl⟩
 obtain⟨pb,aF⟩:∃ p,p=W.heap.size+1:=⟨_,rfl⟩
 rw[<- aF]at kb0 kb1 kb2;rw[<- aU]at ka0 ka1 ka2 ka3;rw[<- aF,<- aU];have n1:b≠pr:=by omega
 have n2:pr≠b:=by omega
 have aE:W.heap.size<=pr:=by omega
 clear hU hc hf aU aF aB;go_wp2_with (fail);refine(Jnj b off f 4294967296 h0 h1 h2 q0 q1 q2 q3 _ hp bg).mono ?_;rintro e W1 ⟨t0,t1,t2,t3,g1,rfl,S1,A⟩;have dt:=A.out.frozenOf bN dt (by show pr≠b;omega);have bN:=A.out.cellOf bN (by show pr≠b;omega);have du:=A.out.frozenOf bO du (by show pr≠b;omega);have bO:=A.out.cellOf bO (by show pr≠b;omega);have dv:=A.out.frozenOf bP dv (by show pr≠b;omega);have bP:=A.out.cellOf bP (by show pr≠b;omega);have iX:=A.out.frozenOf eb iX (by show pr≠b;omega);have eb:=A.out.cellOf eb (by show pr≠b;omega);have HL:BU _:=HL.out.same A.out;have hp:=A.out.cell;have bg:=A.out.frozen;clear A;go_wp2_with (fail);refine(Jnq b off g1 t0 t1 t2 t3 _ hp bg).mono ?_;rintro e W2 ⟨v0,v1,v2,v3,g2,rfl,S2,A⟩;have dt:=A.out.frozenOf bN dt (by show pr≠b;omega);have bN:=A.out.cellOf bN (by show pr≠b;omega);have du:=A.out.frozenOf bO du (by show pr≠b;omega);have bO:=A.out.cellOf bO (by show pr≠b;omega);have dv:=A.out.frozenOf bP dv (by show pr≠b;omega);have bP:=A.out.cellOf bP (by show pr≠b;omega);have iX:=A.out.frozenOf eb iX (by show pr≠b;omega);have eb:=A.out.cellOf eb (by show pr≠b;omega);have HL:BU _:=HL.out.same A.out;have hp:=A.out.cell;have bg:=A.out.frozen;clear A;have HS:BU _:=Jlt S1.out S2.out;clear S1 S2;go_wp2_with (fail);refine bodyPost_ret (by simp[results,results57,go_sem,bN,bO,bP,eb];try rfl) rfl ?_;refine⟨v0,v1,v2,v3,g2,rfl,HS.out,((((HL.out.set aE _).set aE _).set aE _).set aE _).done ?_ ?_⟩
 ·simp[go_sem,hp]
 ·simp[go_sem,bg]
end
section
open Go.RowKit Fx
def Jao(b off:Nat)(f:Bool)(pa pr po:Nat)(x0 x1 x2 n:Int)(W U:BV):Bool:=false ||([(4,false),(5,((mul (x0) (n)).isNone ||(mul (x1) (n)).isNone ||(mul (x2) (n)).isNone))]:List (Nat × Bool)).any (·.2)
def Jd1(b off:Nat)(f:Bool)(pa pr po:Nat)(x0 x1 x2 n:Int)(W U:BV):Nat->Shape
 | 0=>.is (BO (some ⟨b,off,none⟩))
 | 1=>.is (.func (.func 111) #[BO (some ⟨po,0,none⟩)] #[])
 | 2=>.is (B_ #[J Y x0,J Y x1,J Y x2])
 | 3=>.is (J Y n)
 | 4=>.is (B_ #[J Y n,J Y n,J Y n])
 | 5=>.is (B_ #[J Y ((mul (x0) (n)).getD 0),J Y ((mul (x1) (n)).getD 0),J Y ((mul (x2) (n)).getD 0)])
 | 6=>.is (B_ #[J Y (cond (Jao b off f pa pr po x0 x1 x2 n W U) 0 ((mul (x0) (n)).getD 0)),J Y (cond (Jao b off f pa pr po x0 x1 x2 n W U) 0 ((mul (x1) (n)).getD 0)),J Y (cond (Jao b off f pa pr po x0 x1 x2 n W U) 0 ((mul (x2) (n)).getD 0))])
 | 7=>.ptr
 | _=>.ptr
def Jy(b off:Nat)(f:Bool)(pa pr po:Nat)(x0 x1 x2 n:Int)(W U:BV):Plan where
 W:=W
 N:=U.heap.size
 p:=⟨b,off,none⟩
 fl:=⟨po,0,none⟩
 g0:=false
 bad:=Jao b off f pa pr po x0 x1 x2 n W U
 f:=f
 calls:=[(4,false),(5,((mul (x0) (n)).isNone ||(mul (x1) (n)).isNone ||(mul (x2) (n)).isNone))]
 tl:=6
 st:=7
 r:=pr
 res:=[J Y (cond (Jao b off f pa pr po x0 x1 x2 n W U) 0 ((mul (x0) (n)).getD 0)),J Y (cond (Jao b off f pa pr po x0 x1 x2 n W U) 0 ((mul (x1) (n)).getD 0)),J Y (cond (Jao b off f pa pr po x0 x1 x2 n W U) 0 ((mul (x2) (n)).getD 0))]
 fixed:=[(⟨pa,0,none⟩,J Y x0),
  (⟨pa,1,none⟩,J Y x1),
  (⟨pa,2,none⟩,J Y x2)]
 made:=[]
theorem Jmz(b off:Nat)(f:Bool)(pa pr po:Nat)(x0 x1 x2 n:Int)(W U:BV):((Jy b off f pa pr po x0 x1 x2 n W U).calls.map (·.1)).Nodup:=of_decide_eq_true rfl
theorem Jil(b off:Nat)(f:Bool)(pa pr po:Nat)(x0 x1 x2 n:Int)(W U:BV):((Jy b off f pa pr po x0 x1 x2 n W U).bad=true->(Jy b off f pa pr po x0 x1 x2 n W U).g0=true \/ ∃ c∈(Jy b off f pa pr po x0 x1 x2 n W U).calls,c.2=true)/\∀ c∈(Jy b off f pa pr po x0 x1 x2 n W U).calls,c.2=true->(Jy b off f pa pr po x0 x1 x2 n W U).bad=true:=
 Jc9 _ rfl
theorem Jns(b off:Nat)(f:Bool)(x0 x1 x2 n:Int)(W:BV)(hc:W.cell? ⟨b,off,none⟩=some (BT f))(hf:W.frozen? ⟨b,off,none⟩=false):
  Cd Tryz.prog 55 #[BO (some ⟨b,off,none⟩),B_ #[J Y x0,J Y x1,J Y x2],J Y n] W fun e W'=>∃ v0 v1 v2 g,e = BZ (B_ #[J Y v0,J Y v1,J Y v2])/\BU (Jco f (mul x0 n) (mul x1 n) (mul x2 n) v0 v1 v2 g)/\BU (After ⟨b,off,none⟩ g W W'):=by
 have aO:b<W.heap.size:=JB _ _ hc;go_enter func55,ntmps55;go_wp2_with (fail);obtain⟨U,hU⟩:∃ U,U=(((W.alloc (BP #[J Y x0,J Y x1,J Y x2] 27)).alloc (BP #[J Y 0,J Y 0,J Y 0] 27)).alloc (BP #[BT false] 47)):=⟨_,rfl⟩
 have pV:U.heap.size=W.heap.size+3:=by rw[hU];simp
 have HL:BU (Leaves ⟨b,off,none⟩ W U):=by show Leaves _ _ _;rw[hU];exact((((Leaves.refl _ _).alloc _).alloc _).alloc _)
 have hp:U.cell? ⟨b,off,none⟩=some (BT f):=(by rw[hU,World.cell?_alloc_past _ _ _ (by simp;omega),World.cell?_alloc_past _ _ _ (by simp;omega),World.cell?_alloc_past _ _ _ aO];exact hc)
 have bg:U.frozen? ⟨b,off,none⟩=false:=by rw[hU,((Jd _ _).frozen (by simp;omega)),((Jd _ _).frozen (by simp;omega)),((Jd _ _).frozen aO)];exact hf
 have ho:U.cell? ⟨W.heap.size+1+1,0,none⟩=some (BT false):=by rw[hU];simp[go_sem]
 have aH:U.frozen? ⟨W.heap.size+1+1,0,none⟩=false:=by rw[hU];simp[go_sem]
 have fz:U.cell? ⟨W.heap.size,0,none⟩=some (J Y x0):=by rw[hU];simp[go_sem]
 have fA:U.cell? ⟨W.heap.size,1,none⟩=some (J Y x1):=by rw[hU];simp[go_sem]
 have fB:U.cell? ⟨W.heap.size,2,none⟩=some (J Y x2):=by rw[hU];simp[go_sem]
 have bN:U.cell? ⟨W.heap.size+1,0,none⟩=some (J Y 0):=by rw[hU];simp[go_sem]
 have dt:U.frozen? ⟨W.heap.size+1,0,none⟩=false:=by rw[hU];simp[go_sem]
 have bO:U.cell? ⟨W.heap.size+1,1,none⟩=some (J Y 0):=by rw[hU];simp[go_sem]
 have du:U.frozen? ⟨W.heap.size+1,1,none⟩=false:=by rw[hU];simp[go_sem]
 have bP:U.cell? ⟨W.heap.size+1,2,none⟩=some (J Y 0):=by rw[hU];simp[go_sem]
 have dv:U.frozen? ⟨W.heap.size+1,2,none⟩=false:=by rw[hU];simp[go_sem]
 rw[<- hU];clear hU hc hf;obtain⟨pa,aU⟩:∃ p,p=W.heap.size:=⟨_,rfl⟩
 obtain⟨pr,aB⟩:∃ p,p=W.heap.size+1:=⟨_,rfl⟩
 obtain⟨po,aV⟩:∃ p,p=W.heap.size+1+1:=⟨_,rfl⟩
 rw[<- aV]at ho aH;rw[<- aV];rw[<- aB]at bN dt bO du bP dv;rw[<- aB];rw[<- aU]at fz fA fB;rw[<- aU];have q0:W.heap.size<=pa:=by omega
 have q1:pa<pr:=by omega
 have q2:pr<po:=by omega
 have q9:po<U.heap.size:=by omega
 clear aU aB aV pV;have hπ:(Jy b off f pa pr po x0 x1 x2 n W U).Good:=by
  refine Jgm ?_ ?_ ?_ ?_ ?_ ?_ ?_ (Jil b off f pa pr po x0 x1 x2 n W U).1 (Jil b off f pa pr po x0 x1 x2 n W U).2
  ·show W.heap.size<=pr;omega
  ·show pr<U.heap.size;omega
  ·exact Or.inr (by show W.heap.size<=po;omega)
  ·show po<U.heap.size;omega
  ·show po≠pr;omega
  ·show b<W.heap.size;omega
  ·intro c hc;simp only[Jy,List.mem_cons,List.not_mem_nil,or_false]at hc;rcases hc with rfl | rfl | rfl <;> (show _<U.heap.size/\_≠po/\_≠b/\_≠pr) <;> (dsimp only) <;> omega
 refine region_by (Jl (Jd1 b off f pa pr po x0 x1 x2 n W U)) (Glob (Jy b off f pa pr po x0 x1 x2 n W U)) (by kernel_rfl) (by kernel_rfl) (by kernel_rfl) (by kernel_rfl) (fun _=>0) ?_ ?_ ?_
 ·refine⟨?_,?_,?_,?_,?_,?_,(fun _ _ h=>by cases h),(fun _ _ _ _ h=>by cases h)⟩
  ·exact HL.out.drew
  ·exact Nat.le_refl _
  ·exact⟨false,ho,aH,fun h=>by show Jao b off f pa pr po x0 x1 x2 n W U=true;simp[Jao,h],fun h=>h,fun _ _ h=>by cases h⟩
  ·refine Or.inr ⟨?_,bg⟩
   show U.cell? ⟨b,off,none⟩=some (BT (f ||(false&&Jao b off f pa pr po x0 x1 x2 n W U)))
   rw[Bool.false_and,Bool.or_false];exact hp
  ·refine⟨[J Y 0,J Y 0,J Y 0],rfl,?_,fun h=>by cases h⟩;intro k v hk
   match k,hk with
   | 0,hk=>simp at hk;subst hk;exact⟨bN,dt⟩
   | 1,hk=>simp at hk;subst hk;exact⟨bO,du⟩
   | 2,hk=>simp at hk;subst hk;exact⟨bP,dv⟩
  ·intro c hc;simp only[Jy,List.mem_cons,List.not_mem_nil,or_false]at hc;rcases hc with rfl | rfl | rfl <;> assumption
 ·generalize hD:Jam _=D;generalize hA:Jai _=A;generalize hZ:Act.mk _ _=Z;have d0:D 0=some 8:=by rw[<- hD];rfl
  have d1:D 1=some 9:=by rw[<- hD];rfl
  have d2:D 2=some 10:=by rw[<- hD];rfl
  have d3:D 3=some 11:=by rw[<- hD];rfl
  have d4:D 4=some 12:=by rw[<- hD];rfl
  have d5:D 5=some 13:=by rw[<- hD];rfl
  have d6:D 6=some 14:=by rw[<- hD];rfl
  have R0:∀(γ:Nat->Nat) (L:Nat->Bool) (a:Cf) (w:BV),Held D A (Jl (Jd1 b off f pa pr po x0 x1 x2 n W U)) (Glob (Jy b off f pa pr po x0 x1 x2 n W U)) Z γ L a w->a.tmps[0]?=some (BO (some ⟨b,off,none⟩)):=fun γ L a w hH=>(hH.rest 0 (by rw[<- hD];exact J6 (by kernel_rfl))).trans (by rw[<- hZ];rfl);have R4:∀(γ:Nat->Nat) (L:Nat->Bool) (a:Cf) (w:BV),Held D A (Jl (Jd1 b off f pa pr po x0 x1 x2 n W U)) (Glob (Jy b off f pa pr po x0 x1 x2 n W U)) Z γ L a w->a.tmps[4]?=some (BO (some ⟨pa,0,none⟩)):=fun γ L a w hH=>(hH.rest 4 (by rw[<- hD];exact J6 (by kernel_rfl))).trans (by rw[<- hZ];rfl);have R6:∀(γ:Nat->Nat) (L:Nat->Bool) (a:Cf) (w:BV),Held D A (Jl (Jd1 b off f pa pr po x0 x1 x2 n W U)) (Glob (Jy b off f pa pr po x0 x1 x2 n W U)) Z γ L a w->a.tmps[6]?=some (BO (some ⟨pr,0,none⟩)):=fun γ L a w hH=>(hH.rest 6 (by rw[<- hD];exact J6 (by kernel_rfl))).trans (by rw[<- hZ];rfl);have R7:∀(γ:Nat->Nat) (L:Nat->Bool) (a:Cf) (w:BV),Held D A (Jl (Jd1 b off f pa pr po x0 x1 x2 n W U)) (Glob (Jy b off f pa pr po x0 x1 x2 n W U)) Z γ L a w->a.tmps[7]?=some (BO (some ⟨po,0,none⟩)):=fun γ L a w hH=>(hH.rest 7 (by rw[<- hD];exact J6 (by kernel_rfl))).trans (by rw[<- hZ];rfl);have R2:∀(γ:Nat->Nat) (L:Nat->Bool) (a:Cf) (w:BV),Held D A (Jl (Jd1 b off f pa pr po x0 x1 x2 n W U)) (Glob (Jy b off f pa pr po x0 x1 x2 n W U)) Z γ L a w->a.tmps[2]?=some (J Y n):=fun γ L a w hH=>(hH.rest 2 (by rw[<- hD];exact J6 (by kernel_rfl))).trans (by rw[<- hZ];rfl);have qY:A 5 4:=by rw[<- hA];exact⟨_,rfl,⟨4,.data⟩,by simp,rfl,rfl⟩
  clear hD hA hZ;refine AllDo.cons 0 rfl (J2 _ rfl rfl (fun γ L a w hH hA=>by have e1:=R0 γ L a w hH;simp[JD,go_sem,e1])) ?_;refine AllDo.cons 1 rfl (J2 _ rfl rfl (fun γ L a w hH hA=>by have e1:=R7 γ L a w hH;simp[JD,go_sem,e1])) ?_;refine AllDo.cons 2 rfl (J2 _ rfl rfl (fun γ L a w hH hA=>by have e1:=R4 γ L a w hH;have e2:=hH.glob.fix (⟨pa,0,none⟩,J Y x0) (by simp[Jy]);have e3:=hH.glob.fix (⟨pa,1,none⟩,J Y x1) (by simp[Jy]);have e4:=hH.glob.fix (⟨pa,2,none⟩,J Y x2) (by simp[Jy]);simp[JD,go_sem,e1,e2,e3,e4])) ?_;refine AllDo.cons 3 rfl (J2 _ rfl rfl (fun γ L a w hH hA=>by have e1:=R2 γ L a w hH;simp[JD,go_sem,e1])) ?_;refine AllDo.cons 4 rfl (Jbc hπ _ (false) rfl (by simp[Jy]) (Jbf (Jmz b off f pa pr po x0 x1 x2 n W U) (by simp[Jy])) rfl (fun γ L a w hH hA g hg hz=>by have e1:=hH.at d3 rfl (hA ⟨3,.data⟩ (by simp) rfl);exact⟨124,#[J Y n],by simp[go_sem,e1],(Jn4 (n) w).mono (by rintro e W1 ⟨rfl,Z⟩;exact⟨rfl,g||false,rfl,Jnd Z.out hg hz⟩)⟩)) ?_;refine AllDo.cons 5 rfl (Jbc hπ _ (((mul (x0) (n)).isNone ||(mul (x1) (n)).isNone ||(mul (x2) (n)).isNone)) rfl (by simp[Jy]) (Jbf (Jmz b off f pa pr po x0 x1 x2 n W U) (by simp[Jy])) rfl (fun γ L a w hH hA g hg hz=>by have e1:=hH.at d1 rfl (hA ⟨1,.data⟩ (by simp) rfl);have e2:=hH.at d2 rfl (hA ⟨2,.data⟩ (by simp) rfl);have e3:=hH.at d4 rfl (hA ⟨4,.data⟩ (by simp) rfl);exact⟨123,#[.func (.func 111) #[BO (some ⟨po,0,none⟩)] #[],B_ #[J Y x0,J Y x1,J Y x2],B_ #[J Y n,J Y n,J Y n]],by simp[go_sem,e1,e2,e3],(Jkg po g (x0) (x1) (x2) (n) (n) (n) w hg hz).mono (by rintro e W1 ⟨g1,rfl,S,Z⟩;exact⟨rfl,g1,S.out,Z.out⟩)⟩)) ?_;refine AllDo.cons 6 rfl (Jfr hπ _ rfl (fun e=>by have e2:po=b:=congrArg Addr.block e;omega) (by simp[Jy]) (by simp[Jy]) (by simp[Jy]) rfl (fun L dl bA c hc=>by have L5:L 5=true:=bA ⟨5,.data⟩ (by simp) rfl;have L4:L 4=true:=dl 5 4 qY L5;simp only[Jy,List.mem_cons,List.not_mem_nil,or_false]at hc;rcases hc with rfl | rfl;all_goals assumption) (fun γ L a w hH hA hb hp bg=>by have e1:=hH.at d0 rfl (hA ⟨0,.data⟩ (by simp) rfl);have e2:=R7 γ L a w hH;have e3:=hH.at d5 rfl (hA ⟨5,.data⟩ (by simp) rfl);exact⟨122,#[BO (some ⟨b,off,none⟩),BO (some ⟨po,0,none⟩),B_ #[J Y ((mul (x0) (n)).getD 0),J Y ((mul (x1) (n)).getD 0),J Y ((mul (x2) (n)).getD 0)]],by simp[go_sem,e1,e2,e3],(Jfs b off po f (Jao b off f pa pr po x0 x1 x2 n W U) ((mul (x0) (n)).getD 0) ((mul (x1) (n)).getD 0) ((mul (x2) (n)).getD 0) w hp bg hb).mono (by rintro e W1 ⟨rfl,Z⟩;exact⟨rfl,Z.out⟩)⟩)) ?_;refine AllDo.cons 7 rfl (does_store hπ (by simp[Jy]) rfl rfl (by simp[Jy]) (by simp[Jy]) (by simp[Jy]) (fun γ L a w hH hA cs hl hh=>by have e1:=R6 γ L a w hH;have e2:=hH.at d6 rfl (hA ⟨6,.data⟩ (by simp) rfl);obtain⟨u0,u1,u2,rfl⟩:=Jso hl;have fk:w.cell? ⟨pr,0,none⟩=some u0/\w.frozen? ⟨pr,0,none⟩=false:=hh 0 u0 rfl;have fm:w.cell? ⟨pr,1,none⟩=some u1/\w.frozen? ⟨pr,1,none⟩=false:=hh 1 u1 rfl;have fp:w.cell? ⟨pr,2,none⟩=some u2/\w.frozen? ⟨pr,2,none⟩=false:=hh 2 u2 rfl;exact⟨(((w.setCell ⟨pr,0,none⟩ (J Y (cond (Jao b off f pa pr po x0 x1 x2 n W U) 0 ((mul (x0) (n)).getD 0)))).setCell ⟨pr,1,none⟩ (J Y (cond (Jao b off f pa pr po x0 x1 x2 n W U) 0 ((mul (x1) (n)).getD 0)))).setCell ⟨pr,2,none⟩ (J Y (cond (Jao b off f pa pr po x0 x1 x2 n W U) 0 ((mul (x2) (n)).getD 0)))),by simp[JD,go_sem,e1,e2,fk.1,fk.2,fm.1,fm.2,fp.1,fp.2],((((Only.refl _ _).set 0 _).set 1 _).set 2 _),Jn6 hh⟩)) ?_;exact AllDo.nil
 ·intro γ a w L hL dU hH;have hL':∀ j,j<8->L j=true:=fun j hj=>hL j hj;have hG:=hH.glob;have nN:a.defers = []:=hH.defers.trans rfl;have hs:a.tmps[6]?=some (BO (some ⟨pr,0,none⟩)):=(hH.rest 6 (J6 (by kernel_rfl))).trans rfl;obtain⟨cs,c1,c2,c3⟩:=hG.res;obtain rfl:=c3 (hL' 7 (by omega));have eI:=hG.outer.resolve_left (fun e=>by have e2:po=b:=congrArg Addr.block e;omega);have hA:BU (After ⟨b,off,none⟩ (f||Jao b off f pa pr po x0 x1 x2 n W U) W w):=by
   have e:=eI.1;rw[show(Jy b off f pa pr po x0 x1 x2 n W U).tl=6 from rfl,hL' 6 (by omega),Bool.true_and]at e;exact hG.leaves.done e eI.2
  have r0:w.cell? ⟨pr,0,none⟩=some (J Y (cond (Jao b off f pa pr po x0 x1 x2 n W U) 0 ((mul (x0) (n)).getD 0))):=(c2 0 _ rfl).1;have r1:w.cell? ⟨pr,1,none⟩=some (J Y (cond (Jao b off f pa pr po x0 x1 x2 n W U) 0 ((mul (x1) (n)).getD 0))):=(c2 1 _ rfl).1;have r2:w.cell? ⟨pr,2,none⟩=some (J Y (cond (Jao b off f pa pr po x0 x1 x2 n W U) 0 ((mul (x2) (n)).getD 0))):=(c2 2 _ rfl).1;clear hL dU hL' hH hG c1 c2 c3 eI hπ;go_wp2;refine bodyPost_ret (by simp[results,results55,go_sem,hs,r0,r1,r2];try rfl) nN ?_;exact⟨_,_,_,_,rfl,Jj3 (by simp[Jao,Bool.or_assoc]),hA⟩
def b3(x y z:Option Int):Bool:=x.isNone||y.isNone||z.isNone
def t3(x y z:Option Int):V3:=⟨cond (b3 x y z) 0 (x.getD 0),cond (b3 x y z) 0 (y.getD 0),cond (b3 x y z) 0 (z.getD 0)⟩
theorem Jf3{f g:Bool}{x y z:Option Int}{u v w:Int}(h:Jco f x y z u v w g):u=(t3 x y z).x/\v=(t3 x y z).y/\w=(t3 x y z).z/\g=(f||b3 x y z):=h
structure Mt where
 a:V3
 b:V3
 c:V3
def Mt.l(m:Mt):List Int:=[m.a.x,m.a.y,m.a.z,m.b.x,m.b.y,m.b.z,m.c.x,m.c.y,m.c.z]
@[reducible] def Mt.val(m:Mt):B7:=B_ #[J Y m.a.x,J Y m.a.y,J Y m.a.z,J Y m.b.x,J Y m.b.y,J Y m.b.z,J Y m.c.x,J Y m.c.y,J Y m.c.z]
def Jt(a b:V3):V3:=t3 (add a.x b.x) (add a.y b.y) (add a.z b.z)
def Jbh(a b:V3):Bool:=b3 (add a.x b.x) (add a.y b.y) (add a.z b.z)
def Juj(a b:V3):V3:=t3 (sub a.x b.x) (sub a.y b.y) (sub a.z b.z)
def Jv0(a b:V3):Bool:=b3 (sub a.x b.x) (sub a.y b.y) (sub a.z b.z)
def Jau(a:V3)(n:Int):V3:=t3 (mul a.x n) (mul a.y n) (mul a.z n)
def Jcb(a:V3)(n:Int):Bool:=b3 (mul a.x n) (mul a.y n) (mul a.z n)
def Ja3(a b:V3):V3:=t3 (dot [a.y,a.z] [b.z,-b.y]) (dot [a.z,a.x] [b.x,-b.z]) (dot [a.x,a.y] [b.y,-b.x])
def Jkq(a b:V3):Bool:=b3 (dot [a.y,a.z] [b.z,-b.y]) (dot [a.z,a.x] [b.x,-b.z]) (dot [a.x,a.y] [b.y,-b.x])
def Ja0(m:Mt)(a:V3):V3:=t3 (dot [m.a.x,m.a.y,m.a.z] [a.x,a.y,a.z]) (dot [m.b.x,m.b.y,m.b.z] [a.x,a.y,a.z]) (dot [m.c.x,m.c.y,m.c.z] [a.x,a.y,a.z])
def Jdm(m:Mt)(a:V3):Bool:=b3 (dot [m.a.x,m.a.y,m.a.z] [a.x,a.y,a.z]) (dot [m.b.x,m.b.y,m.b.z] [a.x,a.y,a.z]) (dot [m.c.x,m.c.y,m.c.z] [a.x,a.y,a.z])
def Mt.t(m:Mt):Mt:=⟨⟨m.a.x,m.b.x,m.c.x⟩,⟨m.a.y,m.b.y,m.c.y⟩,⟨m.a.z,m.b.z,m.c.z⟩⟩
def Jo(q:V4):Mt:=⟨⟨cond (J1 q.w q.x q.y q.z) 0 (Jer q.w q.x q.y q.z),cond (J1 q.w q.x q.y q.z) 0 (Je3 q.w q.x q.y q.z),cond (J1 q.w q.x q.y q.z) 0 (Je6 q.w q.x q.y q.z)⟩,⟨cond (J1 q.w q.x q.y q.z) 0 (Jeu q.w q.x q.y q.z),cond (J1 q.w q.x q.y q.z) 0 (Jeg q.w q.x q.y q.z),cond (J1 q.w q.x q.y q.z) 0 (Jew q.w q.x q.y q.z)⟩,⟨cond (J1 q.w q.x q.y q.z) 0 (Je2 q.w q.x q.y q.z),cond (J1 q.w q.x q.y q.z) 0 (Jez q.w q.x q.y q.z),cond (J1 q.w q.x q.y q.z) 0 (Je5 q.w q.x q.y q.z)⟩⟩
def Jho(q:V4):Bool:=J1 q.w q.x q.y q.z
def Ja4(q:V4)(h:V3):V4:=⟨Jen q.w q.x q.y q.z h.x h.y h.z,Jek q.w q.x q.y q.z h.x h.y h.z,Jef q.w q.x q.y q.z h.x h.y h.z,Je0 q.w q.x q.y q.z h.x h.y h.z⟩
def Jgg(q:V4)(h:V3):Bool:=Jb0 q.w q.x q.y q.z h.x h.y h.z
def Jgy(a:V3):Int:=(Jah [a.x,a.y,a.z]).getD 0
def Jug(a:V3):Bool:=(Jah [a.x,a.y,a.z]).isNone
def dv1(a n:Int):Int:=(Jw a 4294967296 n).getD 0
def Jb1(a n:Int):Bool:=(Jw a 4294967296 n).isNone
def Jal(a n:Int):Int:=(mul a n).getD 0
def Jfc(a n:Int):Bool:=(mul a n).isNone
def Jm1(a b:V3):V3:=⟨dv1 a.x b.x,dv1 a.y b.y,dv1 a.z b.z⟩
def Jhp(a b:V3):Bool:=Jb1 a.x b.x||Jb1 a.y b.y||Jb1 a.z b.z
theorem Ji0(b off:Nat)(f:Bool)(x y:V3)(W:BV)(hc:W.cell? ⟨b,off,none⟩=some (BT f))(hf:W.frozen? ⟨b,off,none⟩=false):
  Cd Tryz.prog 56 #[BO (some ⟨b,off,none⟩),x.val,y.val] W fun e W'=>e = BZ (Jt x y).val/\BU (After ⟨b,off,none⟩ (f||Jbh x y) W W'):=by
 refine JA (Jrr b off f x.x x.y x.z y.x y.y y.z W hc hf) ?_;rintro e W' ⟨v0,v1,v2,g,rfl,SS,A⟩;obtain⟨rfl,rfl,rfl,rfl⟩:=Jf3 SS.out;exact⟨rfl,A⟩
theorem Jn9(b off:Nat)(f:Bool)(x:V3)(n:Int)(W:BV)(hc:W.cell? ⟨b,off,none⟩=some (BT f))(hf:W.frozen? ⟨b,off,none⟩=false):
  Cd Tryz.prog 55 #[BO (some ⟨b,off,none⟩),x.val,J Y n] W fun e W'=>e = BZ (Jau x n).val/\BU (After ⟨b,off,none⟩ (f||Jcb x n) W W'):=by
 refine JA (Jns b off f x.x x.y x.z n W hc hf) ?_;rintro e W' ⟨v0,v1,v2,g,rfl,SS,A⟩;obtain⟨rfl,rfl,rfl,rfl⟩:=Jf3 SS.out;exact⟨rfl,A⟩
theorem Ju9(b off:Nat)(f:Bool)(x y:V3)(W:BV)(hc:W.cell? ⟨b,off,none⟩=some (BT f))(hf:W.frozen? ⟨b,off,none⟩=false):
  Cd Tryz.prog 106 #[BO (some ⟨b,off,none⟩),x.val,y.val] W fun e W'=>e = BZ (Ja3 x y).val/\BU (After ⟨b,off,none⟩ (f||Jkq x y) W W'):=by
 refine JA (Joq b off f x.x x.y x.z y.x y.y y.z W hc hf) ?_;rintro e W' ⟨v0,v1,v2,g,rfl,SS,A⟩;obtain⟨rfl,rfl,rfl,rfl⟩:=Jf3 SS.out;exact⟨rfl,A⟩
theorem Jvr(b off:Nat)(f:Bool)(m:Mt)(x:V3)(W:BV)(hc:W.cell? ⟨b,off,none⟩=some (BT f))(hf:W.frozen? ⟨b,off,none⟩=false):
  Cd Tryz.prog 100 #[BO (some ⟨b,off,none⟩),m.val,x.val] W fun e W'=>e = BZ (Ja0 m x).val/\BU (After ⟨b,off,none⟩ (f||Jdm m x) W W'):=by
 refine JA (Jji b off f m.a.x m.a.y m.a.z m.b.x m.b.y m.b.z m.c.x m.c.y m.c.z x.x x.y x.z W hc hf) ?_;rintro e W' ⟨v0,v1,v2,g,rfl,SS,A⟩;obtain⟨rfl,rfl,rfl,rfl⟩:=Jf3 SS.out;exact⟨rfl,A⟩
theorem Jvq(b off:Nat)(f:Bool)(m:Mt)(x:V3)(W:BV)(hc:W.cell? ⟨b,off,none⟩=some (BT f))(hf:W.frozen? ⟨b,off,none⟩=false):
  Cd Tryz.prog 101 #[BO (some ⟨b,off,none⟩),m.val,x.val] W fun e W'=>e = BZ (Ja0 m.t x).val/\BU (After ⟨b,off,none⟩ (f||Jdm m.t x) W W'):=by
 refine JA (Jp5 b off f m.a.x m.a.y m.a.z m.b.x m.b.y m.b.z m.c.x m.c.y m.c.z x.x x.y x.z W hc hf) ?_;rintro e W' ⟨v0,v1,v2,g,rfl,SS,A⟩;obtain⟨rfl,rfl,rfl,rfl⟩:=Jf3 SS.out;exact⟨rfl,A⟩
theorem Ju1(b off:Nat)(f:Bool)(q:V4)(W:BV)(hc:W.cell? ⟨b,off,none⟩=some (BT f))(hf:W.frozen? ⟨b,off,none⟩=false):
  Cd Tryz.prog 99 #[BO (some ⟨b,off,none⟩),q.val] W fun e W'=>e = BZ (Jo q).val/\BU (After ⟨b,off,none⟩ (f||Jho q) W W'):=Jq1 b off f q.w q.x q.y q.z W hc hf
theorem Jvf(b off:Nat)(f:Bool)(q:V4)(x:V3)(W:BV)(hc:W.cell? ⟨b,off,none⟩=some (BT f))(hf:W.frozen? ⟨b,off,none⟩=false):
  Cd Tryz.prog 57 #[BO (some ⟨b,off,none⟩),q.val,x.val] W fun e W'=>e = BZ (Ja4 q x).val/\BU (After ⟨b,off,none⟩ (f||Jgg q x) W W'):=by
 refine JA (Jqh b off f q.w q.x q.y q.z x.x x.y x.z W hc hf) ?_;rintro e W' ⟨v0,v1,v2,v3,g,rfl,SS,A⟩;obtain⟨rfl,rfl,rfl,rfl,rfl⟩:=SS.out;exact⟨rfl,A⟩
theorem Jsh(b off:Nat)(f:Bool)(x:V3)(W:BV)(hc:W.cell? ⟨b,off,none⟩=some (BT f))(hf:W.frozen? ⟨b,off,none⟩=false):
  Cd Tryz.prog 118 #[BO (some ⟨b,off,none⟩),x.val] W fun e W'=>e = BZ (J Y (Jgy x))/\BU (After ⟨b,off,none⟩ (f||Jug x) W W'):=by
 refine JA (Jrk b off f x.x x.y x.z W hc hf) ?_;rintro e W' ⟨v0,g,rfl,SS,A⟩;obtain⟨rfl,rfl⟩:=SS.out;exact⟨rfl,A⟩
theorem Jnm(b off:Nat)(f:Bool)(x n:Int)(W:BV)(hc:W.cell? ⟨b,off,none⟩=some (BT f))(hf:W.frozen? ⟨b,off,none⟩=false):
  Cd Tryz.prog 157 #[BO (some ⟨b,off,none⟩),J Y x,J Y n] W fun e W'=>e = BZ (J Y (dv1 x n))/\BU (After ⟨b,off,none⟩ (f||Jb1 x n) W W'):=by
 refine JA (Jph b off f x n W hc hf) ?_;rintro e W' ⟨v0,g,rfl,SS,A⟩;obtain⟨rfl,rfl⟩:=SS.out;exact⟨rfl,A⟩
theorem Ju6(b off:Nat)(f:Bool)(x n:Int)(W:BV)(hc:W.cell? ⟨b,off,none⟩=some (BT f))(hf:W.frozen? ⟨b,off,none⟩=false):
  Cd Tryz.prog 111 #[BO (some ⟨b,off,none⟩),J Y x,J Y n] W fun e W'=>e = BZ (J Y (Jal x n))/\BU (After ⟨b,off,none⟩ (f||Jfc x n) W W'):=by
 refine JA (Jpj b off f x n W hc hf) ?_;rintro e W' ⟨v0,g,rfl,SS,A⟩;obtain⟨rfl,rfl⟩:=SS.out;exact⟨rfl,A⟩
end
end Go.Proofs.YtkblcfgamnmbkaaGreat
