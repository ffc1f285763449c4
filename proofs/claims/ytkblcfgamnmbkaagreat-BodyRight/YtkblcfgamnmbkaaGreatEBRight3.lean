/- Drawn regions by plans, in short: rows of one kind have one text. -/
import Derived.Test.YtkblcfgamnmbkaaGreatEBRight2
import Derived.Test.YtkblcfgamnmbkaaGreatEBRight0
import Derived.Test.YtkblcfgamnmbkaaGreatEBRight1
import Derived.Laws.OwnMore
import Derived.Maps.AppendAt
set_option maxHeartbeats 8000000
set_option maxRecDepth 100000
set_option linter.unusedVariables false
namespace Go.Proofs.YtkblcfgamnmbkaaGreat
open Go.World renaming block_lt_of_cell? -> JB
open Go renaming execOp -> JD
open Go.Proofs.Tryz
open Go.Value renaming int -> J
open Go.IntKind renaming i64 -> Y
open Go.Value renaming pointer -> BO
open Go.Obj renaming cells -> BP
open Go.Value renaming slice -> BQ
open Go.Value renaming bool -> BT
open Go.RowKit renaming Hid -> BU
open Go renaming World -> BV
open Go.Ending renaming returned -> BZ
open Go renaming Value -> B7
open Go.RowKit renaming Below -> B9
open Go.Value renaming agg -> B_
open Go renaming Calls -> Cd
open Go renaming Addr -> Ce
open Go renaming Act -> Cf
section
open Go.RowKit Fx
section
variable {P:Program} {Q:Exit->Cf->BV->Prop} {D:Nat->Option Tmp} {A:Nat->Nat->Prop} {sh:Nat->Shape} {π:Plan} {a₀:Cf} {i j k n:Nat} {o:Oper} {v u x y:B7} {p:Ce} {t s r:Tmp}
theorem tc{val:(Nat->Nat)->Nat->B7}{G:(Nat->Nat)->(Nat->Bool)->BV->Prop}{rest:List Oper}(h:Jci P Q D A val G a₀ n o)(h':AllDo P Q D A val G a₀ rest (n+1)):AllDo P Q D A val G a₀ (o::rest) n:=⟨h,h'⟩
theorem tS(hs:∀ γ L a w,Held D A (Jl sh) (Glob π) a₀ γ L a w->a.tmps[t]?=some u)(hi:Jd8 π i=true)(fX:sh i = .is v)(hr:∀(a:Cf) (w:BV),a.tmps[t]?=some u->(JD a.eval o).run P w = .ok (.value v) w)(cR:o.guard=none:=by rfl):Jci P Q D A (Jl sh) (Glob π) a₀ i o:=
 J2 v hi fX (fun γ L a w hH _=>hr a w (hs γ L a w hH)) cR
theorem tA{T m:Nat}(_:o.op = .fieldAddr T (.tmp t) m)(hs:∀ γ L a w,Held D A (Jl sh) (Glob π) a₀ γ L a w->a.tmps[t]?=some u)(hi:Jd8 π i=true)(fX:sh i = .is v)(hr:∀(a:Cf) (w:BV),a.tmps[t]?=some u->(JD a.eval o).run P w = .ok (.value v) w)(cR:o.guard=none:=by rfl):Jci P Q D A (Jl sh) (Glob π) a₀ i o:=tS hs hi fX hr cR
theorem tM(_:o.op = .move (.tmp t))(hs:∀ γ L a w,Held D A (Jl sh) (Glob π) a₀ γ L a w->a.tmps[t]?=some u)(hi:Jd8 π i=true)(fX:sh i = .is v)(hr:∀(a:Cf) (w:BV),a.tmps[t]?=some u->(JD a.eval o).run P w = .ok (.value v) w)(cR:o.guard=none:=by rfl):Jci P Q D A (Jl sh) (Glob π) a₀ i o:=tS hs hi fX hr cR
theorem xQ0{a:Cf}{w:BV}{b:Nat}(ho:o.op = .fieldAddr 29 (.tmp t) 0)(x:a.tmps[t]?=some (BO (some ⟨b,0,none⟩))):(JD a.eval o).run Tryz.prog w = .ok (.value (BO (some ⟨b,0,none⟩))) w:=by
 obtain⟨dst,op,ty,pos,after,guard⟩:=o;dsimp only at ho;subst ho;simp[JD,go_sem,x]
theorem xQ1{a:Cf}{w:BV}{b:Nat}(ho:o.op = .fieldAddr 29 (.tmp t) 1)(x:a.tmps[t]?=some (BO (some ⟨b,0,none⟩))):(JD a.eval o).run Tryz.prog w = .ok (.value (BO (some ⟨b,1,none⟩))) w:=by
 obtain⟨dst,op,ty,pos,after,guard⟩:=o;dsimp only at ho;subst ho;simp[JD,go_sem,x]
theorem xQ2{a:Cf}{w:BV}{b:Nat}(ho:o.op = .fieldAddr 29 (.tmp t) 2)(x:a.tmps[t]?=some (BO (some ⟨b,0,none⟩))):(JD a.eval o).run Tryz.prog w = .ok (.value (BO (some ⟨b,2,none⟩))) w:=by
 obtain⟨dst,op,ty,pos,after,guard⟩:=o;dsimp only at ho;subst ho;simp[JD,go_sem,x]
theorem xQ3{a:Cf}{w:BV}{b:Nat}(ho:o.op = .fieldAddr 29 (.tmp t) 3)(x:a.tmps[t]?=some (BO (some ⟨b,0,none⟩))):(JD a.eval o).run Tryz.prog w = .ok (.value (BO (some ⟨b,3,none⟩))) w:=by
 obtain⟨dst,op,ty,pos,after,guard⟩:=o;dsimp only at ho;subst ho;simp[JD,go_sem,x]
theorem xV0{a:Cf}{w:BV}{b:Nat}(ho:o.op = .fieldAddr 27 (.tmp t) 0)(x:a.tmps[t]?=some (BO (some ⟨b,0,none⟩))):(JD a.eval o).run Tryz.prog w = .ok (.value (BO (some ⟨b,0,none⟩))) w:=by
 obtain⟨dst,op,ty,pos,after,guard⟩:=o;dsimp only at ho;subst ho;simp[JD,go_sem,x]
theorem xV1{a:Cf}{w:BV}{b:Nat}(ho:o.op = .fieldAddr 27 (.tmp t) 1)(x:a.tmps[t]?=some (BO (some ⟨b,0,none⟩))):(JD a.eval o).run Tryz.prog w = .ok (.value (BO (some ⟨b,1,none⟩))) w:=by
 obtain⟨dst,op,ty,pos,after,guard⟩:=o;dsimp only at ho;subst ho;simp[JD,go_sem,x]
theorem xV2{a:Cf}{w:BV}{b:Nat}(ho:o.op = .fieldAddr 27 (.tmp t) 2)(x:a.tmps[t]?=some (BO (some ⟨b,0,none⟩))):(JD a.eval o).run Tryz.prog w = .ok (.value (BO (some ⟨b,2,none⟩))) w:=by
 obtain⟨dst,op,ty,pos,after,guard⟩:=o;dsimp only at ho;subst ho;simp[JD,go_sem,x]
theorem xL{a:Cf}{w:BV}{m:Int}(ho:o.op = .load 3 (.tmp t))(x:a.tmps[t]?=some (BO (some p)))(y:w.cell? p=some (J Y m)):(JD a.eval o).run Tryz.prog w = .ok (.value (J Y m)) w:=by
 obtain⟨dst,op,ty,pos,after,guard⟩:=o;dsimp only at ho;subst ho;simp[JD,go_sem,x,y]
theorem tL{m:Int}(ho:o.op = .load 3 (.tmp t))(hD:D j=some t)(hw:⟨j,.data⟩∈o.after)(hi:Jd8 π i=true)(hj:sh j = .is (BO (some p)))(fX:sh i = .is (J Y m))(hf:(p,J Y m) ∈ π.fixed)(cR:o.guard=none:=by rfl):Jci Tryz.prog Q D A (Jl sh) (Glob π) a₀ i o:=
 J2 _ hi fX (fun γ L a w hH hA=>xL ho (hH.at hD hj (hA ⟨j,.data⟩ hw rfl)) (hH.glob.fix (p,J Y m) hf)) cR
theorem xB{a:Cf}{w:BV}{x y:Int}(ho:o.op = .buildSlice 72 2 #[(0,.tmp s),(1,.tmp t)])(h1:a.tmps[s]?=some (J Y x))(h2:a.tmps[t]?=some (J Y y)):(JD a.eval o).run Tryz.prog w = .ok (.value (BQ (some ⟨w.heap.size,0,none⟩) 2 2)) (w.alloc (BP #[J Y x,J Y y] 3)):=by
 obtain⟨dst,op,ty,pos,after,guard⟩:=o;dsimp only at ho;subst ho;simp[JD,go_sem,h1,h2]
theorem tB{x y:Int}(ho:o.op = .buildSlice 72 2 #[(0,.tmp s),(1,.tmp t)])(h1:D j=some s)(h2:D k=some t)(w1:⟨j,.data⟩∈o.after)(w2:⟨k,.data⟩∈o.after)(hi:Jpg π i=true)(s1:sh j = .is (J Y x))(s2:sh k = .is (J Y y))(fX:sh i = .row 2)(hm:(⟨i,i,[J Y x,J Y y]⟩:Made) ∈ π.made)(mn:(π.made.map (·.i)).Nodup)(cR:o.guard=none:=by rfl):Jci Tryz.prog Q D A (Jl sh) (Glob π) a₀ i o:=
 Jgc hi ⟨i,i,[J Y x,J Y y]⟩ hm rfl (Jea mn hm) (Or.inl rfl) [J Y x,J Y y] 3 rfl (fun _=>rfl) (fun γ L a w hH hA=>by
  rw[xB ho (hH.at h1 s1 (hA ⟨j,.data⟩ w1 rfl)) (hH.at h2 s2 (hA ⟨k,.data⟩ w2 rfl))];simp[Jl,fX,upd_self]) cR
theorem xD{a:Cf}{w:BV}{ts:Array TypeId}{u1 u2 u3:B7}(ho:o.op = .call ⟨.value (.func 161),#[.tmp r,.tmp s,.tmp t],ts⟩)(h1:a.tmps[r]?=some u1)(h2:a.tmps[s]?=some u2)(h3:a.tmps[t]?=some u3):(JD a.eval o).run Tryz.prog w = .ok (.enter 161 #[u1,u2,u3]) w:=by
 obtain⟨dst,op,ty,pos,after,guard⟩:=o;dsimp only at ho;subst ho;simp[go_sem,h1,h2,h3]
theorem tD{ts:Array TypeId}{x0 x1 y0 y1:Int}(hπ:π.Good)(ho:o.op = .call ⟨.value (.func 161),#[.tmp r,.tmp s,.tmp t],ts⟩)
  (hs:∀ γ L a w,Held D A (Jl sh) (Glob π) a₀ γ L a w->a.tmps[r]?=some (BO (some π.fl))) (h1:D j=some s) (h2:D k=some t) (w1:⟨j,.data⟩∈o.after) (w2:⟨k,.data⟩∈o.after) (hi:Jki π i=true) (s1:sh j = .row 2) (s2:sh k = .row 2) (fX:sh i = .is (J Y ((dot [x0,x1] [y0,y1]).getD 0)))
  (m1:(⟨j,j,[J Y x0,J Y x1]⟩:Made) ∈ π.made) (m2:(⟨k,k,[J Y y0,J Y y1]⟩:Made) ∈ π.made) (hc:(i,(dot [x0,x1] [y0,y1]).isNone) ∈ π.calls) (cn:(π.calls.map (·.1)).Nodup)
  (hC:∀(x0 x1 y0 y1:Int) (f:Bool) (g h:Nat) (w:BV),w.cell? π.fl=some (BT f)->w.frozen? π.fl=false->Jc2 w (some ⟨g,0,none⟩) [x0,x1]->Jc2 w (some ⟨h,0,none⟩) [y0,y1]->Cd Tryz.prog 161 #[BO (some π.fl),BQ (some ⟨g,0,none⟩) 2 2,BQ (some ⟨h,0,none⟩) 2 2] w fun e w'=>e = BZ (J Y ((dot [x0,x1] [y0,y1]).getD 0))/\∃ g',g'=(f ||(dot [x0,x1] [y0,y1]).isNone)/\After π.fl g' w w') (cR:o.guard=none:=by rfl):Jci Tryz.prog Q D A (Jl sh) (Glob π) a₀ i o:=
 Jbc hπ _ _ hi hc (Jbf cn hc) fX (fun γ L a w hH hA g hg hz=>by
  have l1:=hA ⟨j,.data⟩ w1 rfl;have l2:=hA ⟨k,.data⟩ w2 rfl;exact⟨_,_,xD ho (hs γ L a w hH) (hH.rowAt h1 s1 l1) (hH.rowAt h2 s2 l2),hC _ _ _ _ _ _ _ w hg hz (Jo3 [x0,x1] (hH.glob.made ⟨j,j,_⟩ m1 l1) l1 rfl) (Jo3 [y0,y1] (hH.glob.made ⟨k,k,_⟩ m2 l2) l2 rfl)⟩) cR
end
theorem Jhm(po:Nat)(x0 x1 y0 y1:Int)(f:Bool)(g h:Nat)(w:BV)(hg:w.cell? ⟨po,0,none⟩=some (BT f))(hz:w.frozen? ⟨po,0,none⟩=false)(r1:Jc2 w (some ⟨g,0,none⟩) [x0,x1])(r2:Jc2 w (some ⟨h,0,none⟩) [y0,y1]):
  Cd Tryz.prog 161 #[BO (some ⟨po,0,none⟩),BQ (some ⟨g,0,none⟩) 2 2,BQ (some ⟨h,0,none⟩) 2 2] w fun e w'=>e = BZ (J Y ((dot [x0,x1] [y0,y1]).getD 0))/\∃ g',g'=(f ||(dot [x0,x1] [y0,y1]).isNone)/\After ⟨po,0,none⟩ g' w w':=
 (Jd2 po 0 f [x0,x1] [y0,y1] _ _ 2 2 w hg hz (by simp) (by simp) r1 r2).mono (by rintro e W1 ⟨v,g1,rfl,S,Z⟩;exact⟨by rw[S.out.1],g1,S.out.2,Z.out⟩)
end
section
open Go.RowKit Fx
def J1(q0 q1 q2 q3:Int):Bool:=(((add q0 q0).isNone ||(add q1 q1).isNone ||(add q2 q2).isNone ||(add q3 q3).isNone) ||((sub 0 q0).isNone ||(sub 0 q1).isNone ||(sub 0 q2).isNone ||(sub 0 q3).isNone)) ||([(dot [((add q2 q2).getD 0),((add q3 q3).getD 0)] [q2,q3]).isNone,(sub (4294967296) ((dot [((add q2 q2).getD 0),((add q3 q3).getD 0)] [q2,q3]).getD 0)).isNone,(dot [((add q1 q1).getD 0),((add q0 q0).getD 0)] [q2,((sub 0 q3).getD 0)]).isNone,(dot [((add q1 q1).getD 0),((add q0 q0).getD 0)] [q3,q2]).isNone,(dot [((add q1 q1).getD 0),((add q0 q0).getD 0)] [q2,q3]).isNone,(dot [((add q1 q1).getD 0),((add q3 q3).getD 0)] [q1,q3]).isNone,(sub (4294967296) ((dot [((add q1 q1).getD 0),((add q3 q3).getD 0)] [q1,q3]).getD 0)).isNone,(dot [((add q2 q2).getD 0),((add q0 q0).getD 0)] [q3,((sub 0 q1).getD 0)]).isNone,(dot [((add q1 q1).getD 0),((add q0 q0).getD 0)] [q3,((sub 0 q2).getD 0)]).isNone,(dot [((add q2 q2).getD 0),((add q0 q0).getD 0)] [q3,q1]).isNone,(dot [((add q1 q1).getD 0),((add q2 q2).getD 0)] [q1,q2]).isNone,(sub (4294967296) ((dot [((add q1 q1).getD 0),((add q2 q2).getD 0)] [q1,q2]).getD 0)).isNone]:List Bool).any id
def Jer(q0 q1 q2 q3:Int):Int:=(sub (4294967296) ((dot [((add q2 q2).getD 0),((add q3 q3).getD 0)] [q2,q3]).getD 0)).getD 0
def Je3(q0 q1 q2 q3:Int):Int:=(dot [((add q1 q1).getD 0),((add q0 q0).getD 0)] [q2,((sub 0 q3).getD 0)]).getD 0
def Je6(q0 q1 q2 q3:Int):Int:=(dot [((add q1 q1).getD 0),((add q0 q0).getD 0)] [q3,q2]).getD 0
def Jeu(q0 q1 q2 q3:Int):Int:=(dot [((add q1 q1).getD 0),((add q0 q0).getD 0)] [q2,q3]).getD 0
def Jeg(q0 q1 q2 q3:Int):Int:=(sub (4294967296) ((dot [((add q1 q1).getD 0),((add q3 q3).getD 0)] [q1,q3]).getD 0)).getD 0
def Jew(q0 q1 q2 q3:Int):Int:=(dot [((add q2 q2).getD 0),((add q0 q0).getD 0)] [q3,((sub 0 q1).getD 0)]).getD 0
def Je2(q0 q1 q2 q3:Int):Int:=(dot [((add q1 q1).getD 0),((add q0 q0).getD 0)] [q3,((sub 0 q2).getD 0)]).getD 0
def Jez(q0 q1 q2 q3:Int):Int:=(dot [((add q2 q2).getD 0),((add q0 q0).getD 0)] [q3,q1]).getD 0
def Je5(q0 q1 q2 q3:Int):Int:=(sub (4294967296) ((dot [((add q1 q1).getD 0),((add q2 q2).getD 0)] [q1,q2]).getD 0)).getD 0
def Js(b off:Nat)(f g0:Bool)(pa pr po p2 p3:Nat)(q0 q1 q2 q3 t0 t1 t2 t3 n0 n1 n2 n3:Int)(W V:BV):Bool:=g0 ||([(11,(dot [t2,t3] [q2,q3]).isNone),(12,(sub (4294967296) ((dot [t2,t3] [q2,q3]).getD 0)).isNone),(23,(dot [t1,t0] [q2,n3]).isNone),(34,(dot [t1,t0] [q3,q2]).isNone),(46,(dot [t1,t0] [q2,q3]).isNone),(57,(dot [t1,t3] [q1,q3]).isNone),(58,(sub (4294967296) ((dot [t1,t3] [q1,q3]).getD 0)).isNone),(69,(dot [t2,t0] [q3,n1]).isNone),(81,(dot [t1,t0] [q3,n2]).isNone),(92,(dot [t2,t0] [q3,q1]).isNone),(103,(dot [t1,t2] [q1,q2]).isNone),(104,(sub (4294967296) ((dot [t1,t2] [q1,q2]).getD 0)).isNone)]:List (Nat × Bool)).any (·.2)
def Jdf(b off:Nat)(f g0:Bool)(pa pr po p2 p3:Nat)(q0 q1 q2 q3 t0 t1 t2 t3 n0 n1 n2 n3:Int)(W V:BV):Nat->Shape
 | 0=>.is (BO (some ⟨b,off,none⟩))
 | 1=>.is (BO (some ⟨p2,2,none⟩))
 | 2=>.is (J Y t2)
 | 3=>.is (BO (some ⟨p2,3,none⟩))
 | 4=>.is (J Y t3)
 | 5=>.row 2
 | 6=>.is (BO (some ⟨pa,2,none⟩))
 | 7=>.is (J Y q2)
 | 8=>.is (BO (some ⟨pa,3,none⟩))
 | 9=>.is (J Y q3)
 | 10=>.row 2
 | 11=>.is (J Y ((dot [t2,t3] [q2,q3]).getD 0))
 | 12=>.is (J Y ((sub (4294967296) ((dot [t2,t3] [q2,q3]).getD 0)).getD 0))
 | 13=>.is (BO (some ⟨p2,1,none⟩))
 | 14=>.is (J Y t1)
 | 15=>.is (BO (some ⟨p2,0,none⟩))
 | 16=>.is (J Y t0)
 | 17=>.row 2
 | 18=>.is (BO (some ⟨pa,2,none⟩))
 | 19=>.is (J Y q2)
 | 20=>.is (BO (some ⟨p3,3,none⟩))
 | 21=>.is (J Y n3)
 | 22=>.row 2
 | 23=>.is (J Y ((dot [t1,t0] [q2,n3]).getD 0))
 | 24=>.is (BO (some ⟨p2,1,none⟩))
 | 25=>.is (J Y t1)
 | 26=>.is (BO (some ⟨p2,0,none⟩))
 | 27=>.is (J Y t0)
 | 28=>.row 2
 | 29=>.is (BO (some ⟨pa,3,none⟩))
 | 30=>.is (J Y q3)
 | 31=>.is (BO (some ⟨pa,2,none⟩))
 | 32=>.is (J Y q2)
 | 33=>.row 2
 | 34=>.is (J Y ((dot [t1,t0] [q3,q2]).getD 0))
 | 35=>.is (B_ #[J Y ((sub (4294967296) ((dot [t2,t3] [q2,q3]).getD 0)).getD 0),J Y ((dot [t1,t0] [q2,n3]).getD 0),J Y ((dot [t1,t0] [q3,q2]).getD 0)])
 | 36=>.is (BO (some ⟨p2,1,none⟩))
 | 37=>.is (J Y t1)
 | 38=>.is (BO (some ⟨p2,0,none⟩))
 | 39=>.is (J Y t0)
 | 40=>.row 2
 | 41=>.is (BO (some ⟨pa,2,none⟩))
 | 42=>.is (J Y q2)
 | 43=>.is (BO (some ⟨pa,3,none⟩))
 | 44=>.is (J Y q3)
 | 45=>.row 2
 | 46=>.is (J Y ((dot [t1,t0] [q2,q3]).getD 0))
 | 47=>.is (BO (some ⟨p2,1,none⟩))
 | 48=>.is (J Y t1)
 | 49=>.is (BO (some ⟨p2,3,none⟩))
 | 50=>.is (J Y t3)
 | 51=>.row 2
 | 52=>.is (BO (some ⟨pa,1,none⟩))
 | 53=>.is (J Y q1)
 | 54=>.is (BO (some ⟨pa,3,none⟩))
 | 55=>.is (J Y q3)
 | 56=>.row 2
 | 57=>.is (J Y ((dot [t1,t3] [q1,q3]).getD 0))
 | 58=>.is (J Y ((sub (4294967296) ((dot [t1,t3] [q1,q3]).getD 0)).getD 0))
 | 59=>.is (BO (some ⟨p2,2,none⟩))
 | 60=>.is (J Y t2)
 | 61=>.is (BO (some ⟨p2,0,none⟩))
 | 62=>.is (J Y t0)
 | 63=>.row 2
 | 64=>.is (BO (some ⟨pa,3,none⟩))
 | 65=>.is (J Y q3)
 | 66=>.is (BO (some ⟨p3,1,none⟩))
 | 67=>.is (J Y n1)
 | 68=>.row 2
 | 69=>.is (J Y ((dot [t2,t0] [q3,n1]).getD 0))
 | 70=>.is (B_ #[J Y ((dot [t1,t0] [q2,q3]).getD 0),J Y ((sub (4294967296) ((dot [t1,t3] [q1,q3]).getD 0)).getD 0),J Y ((dot [t2,t0] [q3,n1]).getD 0)])
 | 71=>.is (BO (some ⟨p2,1,none⟩))
 | 72=>.is (J Y t1)
 | 73=>.is (BO (some ⟨p2,0,none⟩))
 | 74=>.is (J Y t0)
 | 75=>.row 2
 | 76=>.is (BO (some ⟨pa,3,none⟩))
 | 77=>.is (J Y q3)
 | 78=>.is (BO (some ⟨p3,2,none⟩))
 | 79=>.is (J Y n2)
 | 80=>.row 2
 | 81=>.is (J Y ((dot [t1,t0] [q3,n2]).getD 0))
 | 82=>.is (BO (some ⟨p2,2,none⟩))
 | 83=>.is (J Y t2)
 | 84=>.is (BO (some ⟨p2,0,none⟩))
 | 85=>.is (J Y t0)
 | 86=>.row 2
 | 87=>.is (BO (some ⟨pa,3,none⟩))
 | 88=>.is (J Y q3)
 | 89=>.is (BO (some ⟨pa,1,none⟩))
 | 90=>.is (J Y q1)
 | 91=>.row 2
 | 92=>.is (J Y ((dot [t2,t0] [q3,q1]).getD 0))
 | 93=>.is (BO (some ⟨p2,1,none⟩))
 | 94=>.is (J Y t1)
 | 95=>.is (BO (some ⟨p2,2,none⟩))
 | 96=>.is (J Y t2)
 | 97=>.row 2
 | 98=>.is (BO (some ⟨pa,1,none⟩))
 | 99=>.is (J Y q1)
 | 100=>.is (BO (some ⟨pa,2,none⟩))
 | 101=>.is (J Y q2)
 | 102=>.row 2
 | 103=>.is (J Y ((dot [t1,t2] [q1,q2]).getD 0))
 | 104=>.is (J Y ((sub (4294967296) ((dot [t1,t2] [q1,q2]).getD 0)).getD 0))
 | 105=>.is (B_ #[J Y ((dot [t1,t0] [q3,n2]).getD 0),J Y ((dot [t2,t0] [q3,q1]).getD 0),J Y ((sub (4294967296) ((dot [t1,t2] [q1,q2]).getD 0)).getD 0)])
 | 106=>.is (B_ #[J Y ((sub (4294967296) ((dot [t2,t3] [q2,q3]).getD 0)).getD 0),J Y ((dot [t1,t0] [q2,n3]).getD 0),J Y ((dot [t1,t0] [q3,q2]).getD 0),J Y ((dot [t1,t0] [q2,q3]).getD 0),J Y ((sub (4294967296) ((dot [t1,t3] [q1,q3]).getD 0)).getD 0),J Y ((dot [t2,t0] [q3,n1]).getD 0),J Y ((dot [t1,t0] [q3,n2]).getD 0),J Y ((dot [t2,t0] [q3,q1]).getD 0),J Y ((sub (4294967296) ((dot [t1,t2] [q1,q2]).getD 0)).getD 0)])
 | 107=>.is (B_ #[J Y (cond (Js b off f g0 pa pr po p2 p3 q0 q1 q2 q3 t0 t1 t2 t3 n0 n1 n2 n3 W V) 0 ((sub (4294967296) ((dot [t2,t3] [q2,q3]).getD 0)).getD 0)),J Y (cond (Js b off f g0 pa pr po p2 p3 q0 q1 q2 q3 t0 t1 t2 t3 n0 n1 n2 n3 W V) 0 ((dot [t1,t0] [q2,n3]).getD 0)),J Y (cond (Js b off f g0 pa pr po p2 p3 q0 q1 q2 q3 t0 t1 t2 t3 n0 n1 n2 n3 W V) 0 ((dot [t1,t0] [q3,q2]).getD 0)),J Y (cond (Js b off f g0 pa pr po p2 p3 q0 q1 q2 q3 t0 t1 t2 t3 n0 n1 n2 n3 W V) 0 ((dot [t1,t0] [q2,q3]).getD 0)),J Y (cond (Js b off f g0 pa pr po p2 p3 q0 q1 q2 q3 t0 t1 t2 t3 n0 n1 n2 n3 W V) 0 ((sub (4294967296) ((dot [t1,t3] [q1,q3]).getD 0)).getD 0)),J Y (cond (Js b off f g0 pa pr po p2 p3 q0 q1 q2 q3 t0 t1 t2 t3 n0 n1 n2 n3 W V) 0 ((dot [t2,t0] [q3,n1]).getD 0)),J Y (cond (Js b off f g0 pa pr po p2 p3 q0 q1 q2 q3 t0 t1 t2 t3 n0 n1 n2 n3 W V) 0 ((dot [t1,t0] [q3,n2]).getD 0)),J Y (cond (Js b off f g0 pa pr po p2 p3 q0 q1 q2 q3 t0 t1 t2 t3 n0 n1 n2 n3 W V) 0 ((dot [t2,t0] [q3,q1]).getD 0)),J Y (cond (Js b off f g0 pa pr po p2 p3 q0 q1 q2 q3 t0 t1 t2 t3 n0 n1 n2 n3 W V) 0 ((sub (4294967296) ((dot [t1,t2] [q1,q2]).getD 0)).getD 0))])
 | 108=>.ptr
 | _=>.ptr
def Jx(b off:Nat)(f g0:Bool)(pa pr po p2 p3:Nat)(q0 q1 q2 q3 t0 t1 t2 t3 n0 n1 n2 n3:Int)(W V:BV):Plan where
 W:=W
 N:=V.heap.size
 p:=⟨b,off,none⟩
 fl:=⟨po,0,none⟩
 g0:=g0
 bad:=Js b off f g0 pa pr po p2 p3 q0 q1 q2 q3 t0 t1 t2 t3 n0 n1 n2 n3 W V
 f:=f
 calls:=[(11,(dot [t2,t3] [q2,q3]).isNone),(12,(sub (4294967296) ((dot [t2,t3] [q2,q3]).getD 0)).isNone),(23,(dot [t1,t0] [q2,n3]).isNone),(34,(dot [t1,t0] [q3,q2]).isNone),(46,(dot [t1,t0] [q2,q3]).isNone),(57,(dot [t1,t3] [q1,q3]).isNone),(58,(sub (4294967296) ((dot [t1,t3] [q1,q3]).getD 0)).isNone),(69,(dot [t2,t0] [q3,n1]).isNone),(81,(dot [t1,t0] [q3,n2]).isNone),(92,(dot [t2,t0] [q3,q1]).isNone),(103,(dot [t1,t2] [q1,q2]).isNone),(104,(sub (4294967296) ((dot [t1,t2] [q1,q2]).getD 0)).isNone)]
 tl:=107
 st:=108
 r:=pr
 res:=[J Y (cond (Js b off f g0 pa pr po p2 p3 q0 q1 q2 q3 t0 t1 t2 t3 n0 n1 n2 n3 W V) 0 ((sub (4294967296) ((dot [t2,t3] [q2,q3]).getD 0)).getD 0)),J Y (cond (Js b off f g0 pa pr po p2 p3 q0 q1 q2 q3 t0 t1 t2 t3 n0 n1 n2 n3 W V) 0 ((dot [t1,t0] [q2,n3]).getD 0)),J Y (cond (Js b off f g0 pa pr po p2 p3 q0 q1 q2 q3 t0 t1 t2 t3 n0 n1 n2 n3 W V) 0 ((dot [t1,t0] [q3,q2]).getD 0)),J Y (cond (Js b off f g0 pa pr po p2 p3 q0 q1 q2 q3 t0 t1 t2 t3 n0 n1 n2 n3 W V) 0 ((dot [t1,t0] [q2,q3]).getD 0)),J Y (cond (Js b off f g0 pa pr po p2 p3 q0 q1 q2 q3 t0 t1 t2 t3 n0 n1 n2 n3 W V) 0 ((sub (4294967296) ((dot [t1,t3] [q1,q3]).getD 0)).getD 0)),J Y (cond (Js b off f g0 pa pr po p2 p3 q0 q1 q2 q3 t0 t1 t2 t3 n0 n1 n2 n3 W V) 0 ((dot [t2,t0] [q3,n1]).getD 0)),J Y (cond (Js b off f g0 pa pr po p2 p3 q0 q1 q2 q3 t0 t1 t2 t3 n0 n1 n2 n3 W V) 0 ((dot [t1,t0] [q3,n2]).getD 0)),J Y (cond (Js b off f g0 pa pr po p2 p3 q0 q1 q2 q3 t0 t1 t2 t3 n0 n1 n2 n3 W V) 0 ((dot [t2,t0] [q3,q1]).getD 0)),J Y (cond (Js b off f g0 pa pr po p2 p3 q0 q1 q2 q3 t0 t1 t2 t3 n0 n1 n2 n3 W V) 0 ((sub (4294967296) ((dot [t1,t2] [q1,q2]).getD 0)).getD 0))]
 fixed:=[(⟨pa,0,none⟩,J Y q0),
  (⟨pa,1,none⟩,J Y q1),
  (⟨pa,2,none⟩,J Y q2),
  (⟨pa,3,none⟩,J Y q3),
  (⟨p2,0,none⟩,J Y t0),
  (⟨p2,1,none⟩,J Y t1),
  (⟨p2,2,none⟩,J Y t2),
  (⟨p2,3,none⟩,J Y t3),
  (⟨p3,0,none⟩,J Y n0),
  (⟨p3,1,none⟩,J Y n1),
  (⟨p3,2,none⟩,J Y n2),
  (⟨p3,3,none⟩,J Y n3)]
 made:=[⟨5,5,[J Y t2,J Y t3]⟩,⟨10,10,[J Y q2,J Y q3]⟩,⟨17,17,[J Y t1,J Y t0]⟩,⟨22,22,[J Y q2,J Y n3]⟩,⟨28,28,[J Y t1,J Y t0]⟩,⟨33,33,[J Y q3,J Y q2]⟩,⟨40,40,[J Y t1,J Y t0]⟩,⟨45,45,[J Y q2,J Y q3]⟩,⟨51,51,[J Y t1,J Y t3]⟩,⟨56,56,[J Y q1,J Y q3]⟩,⟨63,63,[J Y t2,J Y t0]⟩,⟨68,68,[J Y q3,J Y n1]⟩,⟨75,75,[J Y t1,J Y t0]⟩,⟨80,80,[J Y q3,J Y n2]⟩,⟨86,86,[J Y t2,J Y t0]⟩,⟨91,91,[J Y q3,J Y q1]⟩,⟨97,97,[J Y t1,J Y t2]⟩,⟨102,102,[J Y q1,J Y q2]⟩]
theorem Jgs(b off:Nat)(f g0:Bool)(pa pr po p2 p3:Nat)(q0 q1 q2 q3 t0 t1 t2 t3 n0 n1 n2 n3:Int)(W V:BV):((Jx b off f g0 pa pr po p2 p3 q0 q1 q2 q3 t0 t1 t2 t3 n0 n1 n2 n3 W V).calls.map (·.1)).Nodup:=of_decide_eq_true rfl
theorem Jsr(b off:Nat)(f g0:Bool)(pa pr po p2 p3:Nat)(q0 q1 q2 q3 t0 t1 t2 t3 n0 n1 n2 n3:Int)(W V:BV):((Jx b off f g0 pa pr po p2 p3 q0 q1 q2 q3 t0 t1 t2 t3 n0 n1 n2 n3 W V).made.map (·.i)).Nodup:=of_decide_eq_true rfl
theorem Jie(b off:Nat)(f g0:Bool)(pa pr po p2 p3:Nat)(q0 q1 q2 q3 t0 t1 t2 t3 n0 n1 n2 n3:Int)(W V:BV):((Jx b off f g0 pa pr po p2 p3 q0 q1 q2 q3 t0 t1 t2 t3 n0 n1 n2 n3 W V).bad=true->(Jx b off f g0 pa pr po p2 p3 q0 q1 q2 q3 t0 t1 t2 t3 n0 n1 n2 n3 W V).g0=true \/ ∃ c∈(Jx b off f g0 pa pr po p2 p3 q0 q1 q2 q3 t0 t1 t2 t3 n0 n1 n2 n3 W V).calls,c.2=true)/\∀ c∈(Jx b off f g0 pa pr po p2 p3 q0 q1 q2 q3 t0 t1 t2 t3 n0 n1 n2 n3 W V).calls,c.2=true->(Jx b off f g0 pa pr po p2 p3 q0 q1 q2 q3 t0 t1 t2 t3 n0 n1 n2 n3 W V).bad=true:=
 Jc9 _ rfl
def Jc4(b off:Nat)(f:Bool)(pa pr po:Nat)(q0 q1 q2 q3:Int)(W U:BV):Bool:=false ||([(3,((add (q0) (q0)).isNone ||(add (q1) (q1)).isNone ||(add (q2) (q2)).isNone ||(add (q3) (q3)).isNone)),(7,((sub (0) (q0)).isNone ||(sub (0) (q1)).isNone ||(sub (0) (q2)).isNone ||(sub (0) (q3)).isNone))]:List (Nat × Bool)).any (·.2)
def Jfk(b off:Nat)(f:Bool)(pa pr po:Nat)(q0 q1 q2 q3:Int)(W U:BV):Nat->Shape
 | 0=>.is (.func (.func 125) #[BO (some ⟨po,0,none⟩)] #[])
 | 1=>.is (B_ #[J Y q0,J Y q1,J Y q2,J Y q3])
 | 2=>.is (B_ #[J Y q0,J Y q1,J Y q2,J Y q3])
 | 3=>.is (B_ #[J Y ((add (q0) (q0)).getD 0),J Y ((add (q1) (q1)).getD 0),J Y ((add (q2) (q2)).getD 0),J Y ((add (q3) (q3)).getD 0)])
 | 4=>.is (.func (.func 159) #[BO (some ⟨po,0,none⟩)] #[])
 | 5=>.is (B_ #[J Y 0,J Y 0,J Y 0,J Y 0])
 | 6=>.is (B_ #[J Y q0,J Y q1,J Y q2,J Y q3])
 | 7=>.is (B_ #[J Y ((sub (0) (q0)).getD 0),J Y ((sub (0) (q1)).getD 0),J Y ((sub (0) (q2)).getD 0),J Y ((sub (0) (q3)).getD 0)])
 | 8=>.ptr
 | 9=>.ptr
 | 10=>.ptr
 | 11=>.ptr
 | _=>.ptr
def Ji(b off:Nat)(f:Bool)(pa pr po:Nat)(q0 q1 q2 q3:Int)(W U:BV):Plan where
 W:=W
 N:=U.heap.size
 p:=⟨b,off,none⟩
 fl:=⟨po,0,none⟩
 g0:=false
 bad:=Jc4 b off f pa pr po q0 q1 q2 q3 W U
 f:=f
 calls:=[(3,((add (q0) (q0)).isNone ||(add (q1) (q1)).isNone ||(add (q2) (q2)).isNone ||(add (q3) (q3)).isNone)),(7,((sub (0) (q0)).isNone ||(sub (0) (q1)).isNone ||(sub (0) (q2)).isNone ||(sub (0) (q3)).isNone))]
 tl:=100000
 st:=100001
 r:=pr
 res:=[J Y 0,J Y 0,J Y 0,J Y 0,J Y 0,J Y 0,J Y 0,J Y 0,J Y 0]
 fixed:=[(⟨pa,0,none⟩,J Y q0),
  (⟨pa,1,none⟩,J Y q1),
  (⟨pa,2,none⟩,J Y q2),
  (⟨pa,3,none⟩,J Y q3)]
 made:=[⟨8,10,[J Y ((add (q0) (q0)).getD 0),J Y ((add (q1) (q1)).getD 0),J Y ((add (q2) (q2)).getD 0),J Y ((add (q3) (q3)).getD 0)]⟩,⟨9,11,[J Y ((sub (0) (q0)).getD 0),J Y ((sub (0) (q1)).getD 0),J Y ((sub (0) (q2)).getD 0),J Y ((sub (0) (q3)).getD 0)]⟩]
theorem Jlw(b off:Nat)(f:Bool)(pa pr po:Nat)(q0 q1 q2 q3:Int)(W U:BV):((Ji b off f pa pr po q0 q1 q2 q3 W U).calls.map (·.1)).Nodup:=of_decide_eq_true rfl
theorem Jgp(b off:Nat)(f:Bool)(pa pr po:Nat)(q0 q1 q2 q3:Int)(W U:BV):((Ji b off f pa pr po q0 q1 q2 q3 W U).made.map (·.i)).Nodup:=of_decide_eq_true rfl
theorem Ji3(b off:Nat)(f:Bool)(pa pr po:Nat)(q0 q1 q2 q3:Int)(W U:BV):((Ji b off f pa pr po q0 q1 q2 q3 W U).bad=true->(Ji b off f pa pr po q0 q1 q2 q3 W U).g0=true \/ ∃ c∈(Ji b off f pa pr po q0 q1 q2 q3 W U).calls,c.2=true)/\∀ c∈(Ji b off f pa pr po q0 q1 q2 q3 W U).calls,c.2=true->(Ji b off f pa pr po q0 q1 q2 q3 W U).bad=true:=
 Jc9 _ rfl
theorem Jme(b off:Nat)(f:Bool)(pa pr po:Nat)(q0 q1 q2 q3:Int)(W U:BV):((Ji b off f pa pr po q0 q1 q2 q3 W U).made.map (·.s)).Nodup:=of_decide_eq_true rfl
theorem Jq1(b off:Nat)(f:Bool)(q0 q1 q2 q3:Int)(W:BV)(hc:W.cell? ⟨b,off,none⟩=some (BT f))(hf:W.frozen? ⟨b,off,none⟩=false):
  Cd Tryz.prog 99 #[BO (some ⟨b,off,none⟩),B_ #[J Y q0,J Y q1,J Y q2,J Y q3]] W fun e W'=>e = BZ (B_ #[J Y (cond (J1 q0 q1 q2 q3) 0 (Jer q0 q1 q2 q3)),J Y (cond (J1 q0 q1 q2 q3) 0 (Je3 q0 q1 q2 q3)),J Y (cond (J1 q0 q1 q2 q3) 0 (Je6 q0 q1 q2 q3)),J Y (cond (J1 q0 q1 q2 q3) 0 (Jeu q0 q1 q2 q3)),J Y (cond (J1 q0 q1 q2 q3) 0 (Jeg q0 q1 q2 q3)),J Y (cond (J1 q0 q1 q2 q3) 0 (Jew q0 q1 q2 q3)),J Y (cond (J1 q0 q1 q2 q3) 0 (Je2 q0 q1 q2 q3)),J Y (cond (J1 q0 q1 q2 q3) 0 (Jez q0 q1 q2 q3)),J Y (cond (J1 q0 q1 q2 q3) 0 (Je5 q0 q1 q2 q3))])/\BU (After ⟨b,off,none⟩ (f||J1 q0 q1 q2 q3) W W'):=by
 have aO:b<W.heap.size:=JB _ _ hc;go_enter func99,ntmps99;go_wp2_with (fail);obtain⟨U,hU⟩:∃ U,U=(((W.alloc (BP #[J Y q0,J Y q1,J Y q2,J Y q3] 29)).alloc (BP #[J Y 0,J Y 0,J Y 0,J Y 0,J Y 0,J Y 0,J Y 0,J Y 0,J Y 0] 105)).alloc (BP #[BT false] 47)):=⟨_,rfl⟩
 have pV:U.heap.size=W.heap.size+3:=by rw[hU];simp
 have HL:BU (Leaves ⟨b,off,none⟩ W U):=by show Leaves _ _ _;rw[hU];exact(((Leaves.refl _ _).alloc _).alloc _).alloc _
 have hp:U.cell? ⟨b,off,none⟩=some (BT f):=by rw[hU,World.cell?_alloc_past _ _ _ (by simp;omega),World.cell?_alloc_past _ _ _ (by simp;omega),World.cell?_alloc_past _ _ _ aO];exact hc
 have bg:U.frozen? ⟨b,off,none⟩=false:=by rw[hU,((Jd _ _).frozen (by simp;omega)),((Jd _ _).frozen (by simp;omega)),((Jd _ _).frozen aO)];exact hf
 have ho:U.cell? ⟨W.heap.size+1+1,0,none⟩=some (BT false):=by rw[hU];simp[go_sem]
 have aH:U.frozen? ⟨W.heap.size+1+1,0,none⟩=false:=by rw[hU];simp[go_sem]
 have fz:U.cell? ⟨W.heap.size,0,none⟩=some (J Y q0):=by rw[hU];simp[go_sem]
 have fA:U.cell? ⟨W.heap.size,1,none⟩=some (J Y q1):=by rw[hU];simp[go_sem]
 have fB:U.cell? ⟨W.heap.size,2,none⟩=some (J Y q2):=by rw[hU];simp[go_sem]
 have nJ:U.cell? ⟨W.heap.size,3,none⟩=some (J Y q3):=by rw[hU];simp[go_sem]
 have bN:U.cell? ⟨W.heap.size+1,0,none⟩=some (J Y 0):=by rw[hU];simp[go_sem]
 have dt:U.frozen? ⟨W.heap.size+1,0,none⟩=false:=by rw[hU];simp[go_sem]
 have bO:U.cell? ⟨W.heap.size+1,1,none⟩=some (J Y 0):=by rw[hU];simp[go_sem]
 have du:U.frozen? ⟨W.heap.size+1,1,none⟩=false:=by rw[hU];simp[go_sem]
 have bP:U.cell? ⟨W.heap.size+1,2,none⟩=some (J Y 0):=by rw[hU];simp[go_sem]
 have dv:U.frozen? ⟨W.heap.size+1,2,none⟩=false:=by rw[hU];simp[go_sem]
 have eb:U.cell? ⟨W.heap.size+1,3,none⟩=some (J Y 0):=by rw[hU];simp[go_sem]
 have iX:U.frozen? ⟨W.heap.size+1,3,none⟩=false:=by rw[hU];simp[go_sem]
 have qD:U.cell? ⟨W.heap.size+1,4,none⟩=some (J Y 0):=by rw[hU];simp[go_sem]
 have uw:U.frozen? ⟨W.heap.size+1,4,none⟩=false:=by rw[hU];simp[go_sem]
 have qE:U.cell? ⟨W.heap.size+1,5,none⟩=some (J Y 0):=by rw[hU];simp[go_sem]
 have uy:U.frozen? ⟨W.heap.size+1,5,none⟩=false:=by rw[hU];simp[go_sem]
 have qF:U.cell? ⟨W.heap.size+1,6,none⟩=some (J Y 0):=by rw[hU];simp[go_sem]
 have uz:U.frozen? ⟨W.heap.size+1,6,none⟩=false:=by rw[hU];simp[go_sem]
 have qG:U.cell? ⟨W.heap.size+1,7,none⟩=some (J Y 0):=by rw[hU];simp[go_sem]
 have uA:U.frozen? ⟨W.heap.size+1,7,none⟩=false:=by rw[hU];simp[go_sem]
 have qH:U.cell? ⟨W.heap.size+1,8,none⟩=some (J Y 0):=by rw[hU];simp[go_sem]
 have uB:U.frozen? ⟨W.heap.size+1,8,none⟩=false:=by rw[hU];simp[go_sem]
 rw[<- hU];clear hU hc hf;obtain⟨pa,aU⟩:∃ p,p=W.heap.size:=⟨_,rfl⟩
 obtain⟨pr,aB⟩:∃ p,p=W.heap.size+1:=⟨_,rfl⟩
 obtain⟨po,aV⟩:∃ p,p=W.heap.size+1+1:=⟨_,rfl⟩
 rw[<- aV]at ho aH;rw[<- aV];rw[<- aB]at bN dt bO du bP dv eb iX qD uw qE uy qF uz qG uA qH uB;rw[<- aB];rw[<- aU]at fz fA fB nJ;rw[<- aU];have z0:W.heap.size<=pa:=by omega
 have z1:pa<pr:=by omega
 have z2:pr<po:=by omega
 have z9:po<U.heap.size:=by omega
 clear aU aB aV pV;have hπ:(Ji b off f pa pr po q0 q1 q2 q3 W U).Good:=by
  refine Jgm ?_ ?_ ?_ ?_ ?_ ?_ ?_ (Ji3 b off f pa pr po q0 q1 q2 q3 W U).1 (Ji3 b off f pa pr po q0 q1 q2 q3 W U).2
  ·show W.heap.size<=pr;omega
  ·show pr<U.heap.size;omega
  ·exact Or.inr (by show W.heap.size<=po;omega)
  ·show po<U.heap.size;omega
  ·show po≠pr;omega
  ·show b<W.heap.size;omega
  ·intro c hc;simp only[Ji,List.mem_cons,List.not_mem_nil,or_false]at hc;rcases hc with rfl | rfl | rfl | rfl <;> (show _<U.heap.size/\_≠po/\_≠b/\_≠pr) <;> (dsimp only) <;> omega
 refine region_by (Jl (Jfk b off f pa pr po q0 q1 q2 q3 W U)) (Glob (Ji b off f pa pr po q0 q1 q2 q3 W U)) (by kernel_rfl) (by kernel_rfl) (by kernel_rfl) (by kernel_rfl) (fun _=>0) ?_ ?_ ?_
 ·refine⟨?_,?_,?_,?_,?_,?_,(fun _ _ h=>by cases h),(fun _ _ _ _ h=>by cases h)⟩
  ·exact HL.out.drew
  ·exact Nat.le_refl _
  ·exact⟨false,ho,aH,fun h=>by show Jc4 b off f pa pr po q0 q1 q2 q3 W U=true;simp[Jc4,h],fun h=>h,fun _ _ h=>by cases h⟩
  ·refine Or.inr ⟨?_,bg⟩
   show U.cell? ⟨b,off,none⟩=some (BT (f ||(false&&Jc4 b off f pa pr po q0 q1 q2 q3 W U)))
   rw[Bool.false_and,Bool.or_false];exact hp
  ·refine⟨[J Y 0,J Y 0,J Y 0,J Y 0,J Y 0,J Y 0,J Y 0,J Y 0,J Y 0],rfl,?_,fun h=>by cases h⟩;intro k v hk
   match k,hk with
   | 0,hk=>simp at hk;subst hk;exact⟨bN,dt⟩
   | 1,hk=>simp at hk;subst hk;exact⟨bO,du⟩
   | 2,hk=>simp at hk;subst hk;exact⟨bP,dv⟩
   | 3,hk=>simp at hk;subst hk;exact⟨eb,iX⟩
   | 4,hk=>simp at hk;subst hk;exact⟨qD,uw⟩
   | 5,hk=>simp at hk;subst hk;exact⟨qE,uy⟩
   | 6,hk=>simp at hk;subst hk;exact⟨qF,uz⟩
   | 7,hk=>simp at hk;subst hk;exact⟨qG,uA⟩
   | 8,hk=>simp at hk;subst hk;exact⟨qH,uB⟩
  ·intro c hc;simp only[Ji,List.mem_cons,List.not_mem_nil,or_false]at hc;rcases hc with rfl | rfl | rfl | rfl <;> assumption
 ·generalize hD:Jam _=D;generalize hA:Jai _=A;generalize hZ:Act.mk _ _=Z;have d0:D 0=some 8:=by rw[<- hD];rfl
  have d1:D 1=some 9:=by rw[<- hD];rfl
  have d2:D 2=some 10:=by rw[<- hD];rfl
  have d3:D 3=some 11:=by rw[<- hD];rfl
  have d4:D 4=some 12:=by rw[<- hD];rfl
  have d5:D 5=some 13:=by rw[<- hD];rfl
  have d6:D 6=some 14:=by rw[<- hD];rfl
  have d7:D 7=some 15:=by rw[<- hD];rfl
  have d8:D 8=some 6:=by rw[<- hD];rfl
  have d9:D 9=some 7:=by rw[<- hD];rfl
  have R3:∀(γ:Nat->Nat) (L:Nat->Bool) (a:Cf) (w:BV),Held D A (Jl (Jfk b off f pa pr po q0 q1 q2 q3 W U)) (Glob (Ji b off f pa pr po q0 q1 q2 q3 W U)) Z γ L a w->a.tmps[3]?=some (BO (some ⟨pa,0,none⟩)):=fun γ L a w hH=>(hH.rest 3 (by rw[<- hD];exact J6 (by kernel_rfl))).trans (by rw[<- hZ];rfl);have R5:∀(γ:Nat->Nat) (L:Nat->Bool) (a:Cf) (w:BV),Held D A (Jl (Jfk b off f pa pr po q0 q1 q2 q3 W U)) (Glob (Ji b off f pa pr po q0 q1 q2 q3 W U)) Z γ L a w->a.tmps[5]?=some (BO (some ⟨po,0,none⟩)):=fun γ L a w hH=>(hH.rest 5 (by rw[<- hD];exact J6 (by kernel_rfl))).trans (by rw[<- hZ];rfl);have nO:A 10 8:=by rw[<- hA];exact⟨_,rfl,⟨8,.data⟩,by simp,rfl,rfl⟩
  have nP:A 11 9:=by rw[<- hA];exact⟨_,rfl,⟨9,.data⟩,by simp,rfl,rfl⟩
  clear hD hA hZ;refine AllDo.cons 0 rfl (J2 _ rfl rfl (fun γ L a w hH hA=>by have e1:=R5 γ L a w hH;simp[JD,go_sem,e1])) ?_;refine AllDo.cons 1 rfl (J2 _ rfl rfl (fun γ L a w hH hA=>by have e1:=R3 γ L a w hH;have e2:=hH.glob.fix (⟨pa,0,none⟩,J Y q0) (by simp[Ji]);have e3:=hH.glob.fix (⟨pa,1,none⟩,J Y q1) (by simp[Ji]);have e4:=hH.glob.fix (⟨pa,2,none⟩,J Y q2) (by simp[Ji]);have e5:=hH.glob.fix (⟨pa,3,none⟩,J Y q3) (by simp[Ji]);simp[JD,go_sem,e1,e2,e3,e4,e5])) ?_;refine AllDo.cons 2 rfl (J2 _ rfl rfl (fun γ L a w hH hA=>by have e1:=R3 γ L a w hH;have e2:=hH.glob.fix (⟨pa,0,none⟩,J Y q0) (by simp[Ji]);have e3:=hH.glob.fix (⟨pa,1,none⟩,J Y q1) (by simp[Ji]);have e4:=hH.glob.fix (⟨pa,2,none⟩,J Y q2) (by simp[Ji]);have e5:=hH.glob.fix (⟨pa,3,none⟩,J Y q3) (by simp[Ji]);simp[JD,go_sem,e1,e2,e3,e4,e5])) ?_;refine AllDo.cons 3 rfl (Jbc hπ _ (((add (q0) (q0)).isNone ||(add (q1) (q1)).isNone ||(add (q2) (q2)).isNone ||(add (q3) (q3)).isNone)) rfl (by simp[Ji]) (Jbf (Jlw b off f pa pr po q0 q1 q2 q3 W U) (by simp[Ji])) rfl (fun γ L a w hH hA g hg hz=>by have e1:=hH.at d0 rfl (hA ⟨0,.data⟩ (by simp) rfl);have e2:=hH.at d1 rfl (hA ⟨1,.data⟩ (by simp) rfl);have e3:=hH.at d2 rfl (hA ⟨2,.data⟩ (by simp) rfl);exact⟨158,#[.func (.func 125) #[BO (some ⟨po,0,none⟩)] #[],B_ #[J Y q0,J Y q1,J Y q2,J Y q3],B_ #[J Y q0,J Y q1,J Y q2,J Y q3]],by simp[go_sem,e1,e2,e3],(Jjg po g (q0) (q1) (q2) (q3) (q0) (q1) (q2) (q3) w hg hz).mono (by rintro e W1 ⟨g1,rfl,S,Z⟩;exact⟨rfl,g1,S.out,Z.out⟩)⟩)) ?_;refine AllDo.cons 4 rfl (J2 _ rfl rfl (fun γ L a w hH hA=>by have e1:=R5 γ L a w hH;simp[JD,go_sem,e1])) ?_;refine AllDo.cons 5 rfl (J2 _ rfl rfl (fun γ L a w hH hA=>by simp[JD,go_sem])) ?_;refine AllDo.cons 6 rfl (J2 _ rfl rfl (fun γ L a w hH hA=>by have e1:=R3 γ L a w hH;have e2:=hH.glob.fix (⟨pa,0,none⟩,J Y q0) (by simp[Ji]);have e3:=hH.glob.fix (⟨pa,1,none⟩,J Y q1) (by simp[Ji]);have e4:=hH.glob.fix (⟨pa,2,none⟩,J Y q2) (by simp[Ji]);have e5:=hH.glob.fix (⟨pa,3,none⟩,J Y q3) (by simp[Ji]);simp[JD,go_sem,e1,e2,e3,e4,e5])) ?_;refine AllDo.cons 7 rfl (Jbc hπ _ (((sub (0) (q0)).isNone ||(sub (0) (q1)).isNone ||(sub (0) (q2)).isNone ||(sub (0) (q3)).isNone)) rfl (by simp[Ji]) (Jbf (Jlw b off f pa pr po q0 q1 q2 q3 W U) (by simp[Ji])) rfl (fun γ L a w hH hA g hg hz=>by have e1:=hH.at d4 rfl (hA ⟨4,.data⟩ (by simp) rfl);have e2:=hH.at d5 rfl (hA ⟨5,.data⟩ (by simp) rfl);have e3:=hH.at d6 rfl (hA ⟨6,.data⟩ (by simp) rfl);exact⟨158,#[.func (.func 159) #[BO (some ⟨po,0,none⟩)] #[],B_ #[J Y 0,J Y 0,J Y 0,J Y 0],B_ #[J Y q0,J Y q1,J Y q2,J Y q3]],by simp[go_sem,e1,e2,e3],(Jf7 po g (0) (0) (0) (0) (q0) (q1) (q2) (q3) w hg hz).mono (by rintro e W1 ⟨g1,rfl,S,Z⟩;exact⟨rfl,g1,S.out,Z.out⟩)⟩)) ?_;refine AllDo.cons 8 rfl (Jgc rfl ⟨8,10,[J Y ((add (q0) (q0)).getD 0),J Y ((add (q1) (q1)).getD 0),J Y ((add (q2) (q2)).getD 0),J Y ((add (q3) (q3)).getD 0)]⟩ (by simp[Ji]) rfl (Jea (Jgp b off f pa pr po q0 q1 q2 q3 W U) (m:=⟨8,10,[J Y ((add (q0) (q0)).getD 0),J Y ((add (q1) (q1)).getD 0),J Y ((add (q2) (q2)).getD 0),J Y ((add (q3) (q3)).getD 0)]⟩) (by simp[Ji])) (Or.inr nO) [J Y 0,J Y 0,J Y 0,J Y 0] 29 rfl (fun h=>absurd h (by simp)) (fun γ L a w hH hA=>by simp[JD,go_sem,Jl,Jfk,upd_self])) ?_;refine AllDo.cons 9 rfl (Jgc rfl ⟨9,11,[J Y ((sub (0) (q0)).getD 0),J Y ((sub (0) (q1)).getD 0),J Y ((sub (0) (q2)).getD 0),J Y ((sub (0) (q3)).getD 0)]⟩ (by simp[Ji]) rfl (Jea (Jgp b off f pa pr po q0 q1 q2 q3 W U) (m:=⟨9,11,[J Y ((sub (0) (q0)).getD 0),J Y ((sub (0) (q1)).getD 0),J Y ((sub (0) (q2)).getD 0),J Y ((sub (0) (q3)).getD 0)]⟩) (by simp[Ji])) (Or.inr nP) [J Y 0,J Y 0,J Y 0,J Y 0] 29 rfl (fun h=>absurd h (by simp)) (fun γ L a w hH hA=>by simp[JD,go_sem,Jl,Jfk,upd_self])) ?_;refine AllDo.cons 10 rfl (Jj9 hπ rfl (by simp[Ji]) (by simp[Ji]) (by simp[Ji]) ⟨8,10,[J Y ((add (q0) (q0)).getD 0),J Y ((add (q1) (q1)).getD 0),J Y ((add (q2) (q2)).getD 0),J Y ((add (q3) (q3)).getD 0)]⟩ (by simp[Ji]) rfl (by simp[Ji]) (Jj2 (Jme b off f pa pr po q0 q1 q2 q3 W U) (m:=⟨8,10,[J Y ((add (q0) (q0)).getD 0),J Y ((add (q1) (q1)).getD 0),J Y ((add (q2) (q2)).getD 0),J Y ((add (q3) (q3)).getD 0)]⟩) (by simp[Ji])) (Jea (Jgp b off f pa pr po q0 q1 q2 q3 W U) (m:=⟨8,10,[J Y ((add (q0) (q0)).getD 0),J Y ((add (q1) (q1)).getD 0),J Y ((add (q2) (q2)).getD 0),J Y ((add (q3) (q3)).getD 0)]⟩) (by simp[Ji])) (fun γ L a w hH hA=>⟨hA ⟨8,.data⟩ (by simp) rfl,fun cs hl hh=>by have e1:=hH.ptrAt d8 rfl (hA ⟨8,.data⟩ (by simp) rfl);have e2:=hH.at d3 rfl (hA ⟨3,.data⟩ (by simp) rfl);obtain⟨u0,u1,u2,u3,rfl⟩:=Juv hl;have fk:w.cell? ⟨γ 8,0,none⟩=some u0/\w.frozen? ⟨γ 8,0,none⟩=false:=hh 0 u0 rfl;have fm:w.cell? ⟨γ 8,1,none⟩=some u1/\w.frozen? ⟨γ 8,1,none⟩=false:=hh 1 u1 rfl;have fp:w.cell? ⟨γ 8,2,none⟩=some u2/\w.frozen? ⟨γ 8,2,none⟩=false:=hh 2 u2 rfl;have kE:w.cell? ⟨γ 8,3,none⟩=some u3/\w.frozen? ⟨γ 8,3,none⟩=false:=hh 3 u3 rfl;exact⟨((((w.setCell ⟨γ 8,0,none⟩ (J Y ((add (q0) (q0)).getD 0))).setCell ⟨γ 8,1,none⟩ (J Y ((add (q1) (q1)).getD 0))).setCell ⟨γ 8,2,none⟩ (J Y ((add (q2) (q2)).getD 0))).setCell ⟨γ 8,3,none⟩ (J Y ((add (q3) (q3)).getD 0))),by simp[JD,go_sem,e1,e2,fk.1,fk.2,fm.1,fm.2,fp.1,fp.2,kE.1,kE.2],(((((Only.refl _ _).set 0 _).set 1 _).set 2 _).set 3 _),Jsn hh⟩⟩)) ?_
  refine AllDo.cons 11 rfl (Jj9 hπ rfl (by simp[Ji]) (by simp[Ji]) (by simp[Ji]) ⟨9,11,[J Y ((sub (0) (q0)).getD 0),J Y ((sub (0) (q1)).getD 0),J Y ((sub (0) (q2)).getD 0),J Y ((sub (0) (q3)).getD 0)]⟩ (by simp[Ji]) rfl (by simp[Ji]) (Jj2 (Jme b off f pa pr po q0 q1 q2 q3 W U) (m:=⟨9,11,[J Y ((sub (0) (q0)).getD 0),J Y ((sub (0) (q1)).getD 0),J Y ((sub (0) (q2)).getD 0),J Y ((sub (0) (q3)).getD 0)]⟩) (by simp[Ji])) (Jea (Jgp b off f pa pr po q0 q1 q2 q3 W U) (m:=⟨9,11,[J Y ((sub (0) (q0)).getD 0),J Y ((sub (0) (q1)).getD 0),J Y ((sub (0) (q2)).getD 0),J Y ((sub (0) (q3)).getD 0)]⟩) (by simp[Ji])) (fun γ L a w hH hA=>⟨hA ⟨9,.data⟩ (by simp) rfl,fun cs hl hh=>by have e1:=hH.ptrAt d9 rfl (hA ⟨9,.data⟩ (by simp) rfl);have e2:=hH.at d7 rfl (hA ⟨7,.data⟩ (by simp) rfl);obtain⟨u0,u1,u2,u3,rfl⟩:=Juv hl;have fk:w.cell? ⟨γ 9,0,none⟩=some u0/\w.frozen? ⟨γ 9,0,none⟩=false:=hh 0 u0 rfl;have fm:w.cell? ⟨γ 9,1,none⟩=some u1/\w.frozen? ⟨γ 9,1,none⟩=false:=hh 1 u1 rfl;have fp:w.cell? ⟨γ 9,2,none⟩=some u2/\w.frozen? ⟨γ 9,2,none⟩=false:=hh 2 u2 rfl;have kE:w.cell? ⟨γ 9,3,none⟩=some u3/\w.frozen? ⟨γ 9,3,none⟩=false:=hh 3 u3 rfl;exact⟨((((w.setCell ⟨γ 9,0,none⟩ (J Y ((sub (0) (q0)).getD 0))).setCell ⟨γ 9,1,none⟩ (J Y ((sub (0) (q1)).getD 0))).setCell ⟨γ 9,2,none⟩ (J Y ((sub (0) (q2)).getD 0))).setCell ⟨γ 9,3,none⟩ (J Y ((sub (0) (q3)).getD 0))),by simp[JD,go_sem,e1,e2,fk.1,fk.2,fm.1,fm.2,fp.1,fp.2,kE.1,kE.2],(((((Only.refl _ _).set 0 _).set 1 _).set 2 _).set 3 _),Jsn hh⟩⟩)) ?_;exact AllDo.nil
 ·intro γ a1 V L hL dU hH;have hL':∀ j,j<12->L j=true:=fun j hj=>hL j hj;have hG:=hH.glob;have nN:a1.defers = []:=hH.defers.trans rfl;have cF:a1.tmps.size=124:=hH.size.trans rfl;have pW:a1.tmps[0]?=some (BO (some ⟨b,off,none⟩)):=(hH.rest 0 (J6 (by kernel_rfl))).trans rfl;have hs3:a1.tmps[3]?=some (BO (some ⟨pa,0,none⟩)):=(hH.rest 3 (J6 (by kernel_rfl))).trans rfl;have qI:a1.tmps[4]?=some (BO (some ⟨pr,0,none⟩)):=(hH.rest 4 (J6 (by kernel_rfl))).trans rfl;have hs5:a1.tmps[5]?=some (BO (some ⟨po,0,none⟩)):=(hH.rest 5 (J6 (by kernel_rfl))).trans rfl;have yE:a1.tmps[6]?=some (BO (some ⟨γ 8,0,none⟩)):=hH.ptrAt (j:=8) rfl rfl (hL' 8 (by omega));have yF:a1.tmps[7]?=some (BO (some ⟨γ 9,0,none⟩)):=hH.ptrAt (j:=9) rfl rfl (hL' 9 (by omega));obtain⟨u1,u2,cs6,_,u3,u4⟩:=hG.made ⟨8,10,_⟩ (by simp[Ji];rfl) (hL' 8 (by omega));obtain⟨v1,v2,cs7,_,v3,v4⟩:=hG.made ⟨9,11,_⟩ (by simp[Ji];rfl) (hL' 9 (by omega));obtain rfl:=u4 (hL' 10 (by omega));obtain rfl:=v4 (hL' 11 (by omega));have nQ:V.cell? ⟨γ 8,0,none⟩=some (J Y ((add q0 q0).getD 0)):=(u3 0 _ rfl).1;have qJ:V.cell? ⟨γ 9,0,none⟩=some (J Y ((sub 0 q0).getD 0)):=(v3 0 _ rfl).1;have nR:V.cell? ⟨γ 8,1,none⟩=some (J Y ((add q1 q1).getD 0)):=(u3 1 _ rfl).1;have qK:V.cell? ⟨γ 9,1,none⟩=some (J Y ((sub 0 q1).getD 0)):=(v3 1 _ rfl).1;have nS:V.cell? ⟨γ 8,2,none⟩=some (J Y ((add q2 q2).getD 0)):=(u3 2 _ rfl).1;have qL:V.cell? ⟨γ 9,2,none⟩=some (J Y ((sub 0 q2).getD 0)):=(v3 2 _ rfl).1;have qM:V.cell? ⟨γ 8,3,none⟩=some (J Y ((add q3 q3).getD 0)):=(u3 3 _ rfl).1;have qN:V.cell? ⟨γ 9,3,none⟩=some (J Y ((sub 0 q3).getD 0)):=(v3 3 _ rfl).1;have e0_0:V.cell? ⟨pa,0,none⟩=some (J Y q0):=hG.fix (⟨pa,0,none⟩,J Y q0) (by simp[Ji]);have e0_1:V.cell? ⟨pa,1,none⟩=some (J Y q1):=hG.fix (⟨pa,1,none⟩,J Y q1) (by simp[Ji]);have e0_2:V.cell? ⟨pa,2,none⟩=some (J Y q2):=hG.fix (⟨pa,2,none⟩,J Y q2) (by simp[Ji]);have e0_3:V.cell? ⟨pa,3,none⟩=some (J Y q3):=hG.fix (⟨pa,3,none⟩,J Y q3) (by simp[Ji]);have dm:=hG.flagAll hπ (fun c hc=>hL' c.1 (by simp only[Ji,List.mem_cons,List.not_mem_nil,or_false]at hc;rcases hc with rfl | rfl <;> simp));have eI:=hG.outer.resolve_left (fun e=>by have e2:po=b:=congrArg Addr.block e;omega);have hp':V.cell? ⟨b,off,none⟩=some (BT f):=by
   have e:=eI.1;rw[dU (Ji b off f pa pr po q0 q1 q2 q3 W U).tl (by show 12<=100000;omega),Bool.false_and,Bool.or_false]at e;exact e
  have hpf':V.frozen? ⟨b,off,none⟩=false:=eI.2;obtain⟨zs,z1,z2,z3⟩:=hG.res;obtain⟨g0,xd⟩:∃ g,g=Jc4 b off f pa pr po q0 q1 q2 q3 W U:=⟨_,rfl⟩
  have ho':V.cell? ⟨po,0,none⟩=some (BT g0):=by rw[xd];exact dm.1
  have hof':V.frozen? ⟨po,0,none⟩=false:=dm.2;have HG:BU (g0=(((add q0 q0).isNone ||(add q1 q1).isNone ||(add q2 q2).isNone ||(add q3 q3).isNone) ||((sub 0 q0).isNone ||(sub 0 q1).isNone ||(sub 0 q2).isNone ||(sub 0 q3).isNone))):=by show _=_;rw[xd];simp[Jc4]
  have HL':BU (Leaves ⟨b,off,none⟩ W V):=hG.leaves;have hn:γ 8 ≠ γ 9:=fun e=>by
   have:=hG.apart ⟨8,10,_⟩ (by simp[Ji];rfl) ⟨9,11,_⟩ (by simp[Ji];rfl) (hL' 8 (by omega)) (hL' 9 (by omega)) e;simp at this
  obtain⟨p2,gV⟩:∃ p,p = γ 8:=⟨_,rfl⟩
  obtain⟨p3,mC⟩:∃ p,p = γ 9:=⟨_,rfl⟩
  rw[<- gV]at yE nQ nR nS qM u1 u2 hn;rw[<- mC]at yF qJ qK qL qN v1 v2 hn;have u1:U.heap.size<=p2:=u1;have v1:U.heap.size<=p3:=v1;obtain⟨y0,y1,y2,y3,y4,y5,y6,y7,y8,rfl⟩:=Jux z1;clear hp ho aH bg HL xd dm eI z1 z3 hL dU hL' hH hG u3 u4 v3 v4 gV mC hπ;have hp:=hp';have bg:=hpf';have ho:=ho';have aH:=hof';have HL:=HL';clear hp' hpf' ho' hof' HL';obtain⟨t0,pS⟩:∃ t,t=(add q0 q0).getD 0:=⟨_,rfl⟩
  obtain⟨n0,lm⟩:∃ t,t=(sub 0 q0).getD 0:=⟨_,rfl⟩
  have yG:BU _:=pS;have HN0:BU _:=lm;rw[<- pS]at nQ;rw[<- lm]at qJ;clear pS lm;obtain⟨t1,xe⟩:∃ t,t=(add q1 q1).getD 0:=⟨_,rfl⟩
  obtain⟨n1,oH⟩:∃ t,t=(sub 0 q1).getD 0:=⟨_,rfl⟩
  have dV:BU _:=xe;have bR:BU _:=oH;rw[<- xe]at nR;rw[<- oH]at qK;clear xe oH;obtain⟨t2,xf⟩:∃ t,t=(add q2 q2).getD 0:=⟨_,rfl⟩
  obtain⟨n2,oI⟩:∃ t,t=(sub 0 q2).getD 0:=⟨_,rfl⟩
  have mI:BU _:=xf;have cf:BU _:=oI;rw[<- xf]at nS;rw[<- oI]at qL;clear xf oI;obtain⟨t3,xg⟩:∃ t,t=(add q3 q3).getD 0:=⟨_,rfl⟩
  obtain⟨n3,rv⟩:∃ t,t=(sub 0 q3).getD 0:=⟨_,rfl⟩
  have yH:BU _:=xg;have sR:BU _:=rv;rw[<- xg]at qM;rw[<- rv]at qN;clear xg rv;go_wp2_with (fail);have hπ:(Jx b off f g0 pa pr po p2 p3 q0 q1 q2 q3 t0 t1 t2 t3 n0 n1 n2 n3 W V).Good:=by
   refine Jgm ?_ ?_ ?_ ?_ ?_ ?_ ?_ (Jie b off f g0 pa pr po p2 p3 q0 q1 q2 q3 t0 t1 t2 t3 n0 n1 n2 n3 W V).1 (Jie b off f g0 pa pr po p2 p3 q0 q1 q2 q3 t0 t1 t2 t3 n0 n1 n2 n3 W V).2
   ·show W.heap.size<=pr;omega
   ·show pr<V.heap.size;omega
   ·exact Or.inr (by show W.heap.size<=po;omega)
   ·show po<V.heap.size;omega
   ·show po≠pr;omega
   ·show b<W.heap.size;omega
   ·intro c hc;simp only[Jx,List.mem_cons,List.not_mem_nil,or_false]at hc;rcases hc with rfl | rfl | rfl | rfl | rfl | rfl | rfl | rfl | rfl | rfl | rfl | rfl <;> (show _<V.heap.size/\_≠po/\_≠b/\_≠pr) <;> (dsimp only) <;> omega
  refine region_by (Jl (Jdf b off f g0 pa pr po p2 p3 q0 q1 q2 q3 t0 t1 t2 t3 n0 n1 n2 n3 W V)) (Glob (Jx b off f g0 pa pr po p2 p3 q0 q1 q2 q3 t0 t1 t2 t3 n0 n1 n2 n3 W V)) (by kernel_rfl) (by kernel_rfl) (by kernel_rfl) (by rw[cF];kernel_rfl) (fun _=>0) ?_ ?_ ?_
  ·refine⟨?_,?_,?_,?_,?_,?_,(fun _ _ h=>by cases h),(fun _ _ _ _ h=>by cases h)⟩
   ·exact HL.out.drew
   ·exact Nat.le_refl _
   ·exact⟨g0,ho,aH,fun h=>by show Js b off f g0 pa pr po p2 p3 q0 q1 q2 q3 t0 t1 t2 t3 n0 n1 n2 n3 W V=true;simp[Js,h],fun h=>h,fun _ _ h=>by cases h⟩
   ·refine Or.inr ⟨?_,bg⟩
    show V.cell? ⟨b,off,none⟩=some (BT (f ||(false&&Js b off f g0 pa pr po p2 p3 q0 q1 q2 q3 t0 t1 t2 t3 n0 n1 n2 n3 W V)))
    rw[Bool.false_and,Bool.or_false];exact hp
   ·exact⟨[y0,y1,y2,y3,y4,y5,y6,y7,y8],rfl,z2,fun h=>by cases h⟩
   ·intro c hc;simp only[Jx,List.mem_cons,List.not_mem_nil,or_false]at hc;rcases hc with rfl | rfl | rfl | rfl | rfl | rfl | rfl | rfl | rfl | rfl | rfl | rfl <;> assumption
  ·generalize hD:Jam _=D;generalize hA:Jai _=A;have d0:D 0=some 16:=by rw[<- hD];rfl
   have d1:D 1=some 17:=by rw[<- hD];rfl
   have d2:D 2=some 18:=by rw[<- hD];rfl
   have d3:D 3=some 19:=by rw[<- hD];rfl
   have d4:D 4=some 20:=by rw[<- hD];rfl
   have d5:D 5=some 21:=by rw[<- hD];rfl
   have d6:D 6=some 22:=by rw[<- hD];rfl
   have d7:D 7=some 23:=by rw[<- hD];rfl
   have d8:D 8=some 24:=by rw[<- hD];rfl
   have d9:D 9=some 25:=by rw[<- hD];rfl
   have ik:D 10=some 26:=by rw[<- hD];rfl
   have nK:D 11=some 27:=by rw[<- hD];rfl
   have il:D 12=some 28:=by rw[<- hD];rfl
   have ut:D 13=some 29:=by rw[<- hD];rfl
   have uu:D 14=some 30:=by rw[<- hD];rfl
   have d15:D 15=some 31:=by rw[<- hD];rfl
   have d16:D 16=some 32:=by rw[<- hD];rfl
   have d17:D 17=some 33:=by rw[<- hD];rfl
   have d18:D 18=some 34:=by rw[<- hD];rfl
   have d19:D 19=some 35:=by rw[<- hD];rfl
   have d20:D 20=some 36:=by rw[<- hD];rfl
   have d21:D 21=some 37:=by rw[<- hD];rfl
   have yI:D 22=some 38:=by rw[<- hD];rfl
   have yJ:D 23=some 39:=by rw[<- hD];rfl
   have d24:D 24=some 40:=by rw[<- hD];rfl
   have d25:D 25=some 41:=by rw[<- hD];rfl
   have d26:D 26=some 42:=by rw[<- hD];rfl
   have d27:D 27=some 43:=by rw[<- hD];rfl
   have d28:D 28=some 44:=by rw[<- hD];rfl
   have d29:D 29=some 45:=by rw[<- hD];rfl
   have d30:D 30=some 46:=by rw[<- hD];rfl
   have d31:D 31=some 47:=by rw[<- hD];rfl
   have d32:D 32=some 48:=by rw[<- hD];rfl
   have yK:D 33=some 49:=by rw[<- hD];rfl
   have uC:D 34=some 50:=by rw[<- hD];rfl
   have uD:D 35=some 51:=by rw[<- hD];rfl
   have d36:D 36=some 52:=by rw[<- hD];rfl
   have d37:D 37=some 53:=by rw[<- hD];rfl
   have d38:D 38=some 54:=by rw[<- hD];rfl
   have d39:D 39=some 55:=by rw[<- hD];rfl
   have d40:D 40=some 56:=by rw[<- hD];rfl
   have d41:D 41=some 57:=by rw[<- hD];rfl
   have d42:D 42=some 58:=by rw[<- hD];rfl
   have d43:D 43=some 59:=by rw[<- hD];rfl
   have d44:D 44=some 60:=by rw[<- hD];rfl
   have d45:D 45=some 61:=by rw[<- hD];rfl
   have d46:D 46=some 62:=by rw[<- hD];rfl
   have d47:D 47=some 63:=by rw[<- hD];rfl
   have d48:D 48=some 64:=by rw[<- hD];rfl
   have d49:D 49=some 65:=by rw[<- hD];rfl
   have d50:D 50=some 66:=by rw[<- hD];rfl
   have d51:D 51=some 67:=by rw[<- hD];rfl
   have d52:D 52=some 68:=by rw[<- hD];rfl
   have d53:D 53=some 69:=by rw[<- hD];rfl
   have d54:D 54=some 70:=by rw[<- hD];rfl
   have d55:D 55=some 71:=by rw[<- hD];rfl
   have d56:D 56=some 72:=by rw[<- hD];rfl
   have d57:D 57=some 73:=by rw[<- hD];rfl
   have d58:D 58=some 74:=by rw[<- hD];rfl
   have d59:D 59=some 75:=by rw[<- hD];rfl
   have d60:D 60=some 76:=by rw[<- hD];rfl
   have d61:D 61=some 77:=by rw[<- hD];rfl
   have d62:D 62=some 78:=by rw[<- hD];rfl
   have d63:D 63=some 79:=by rw[<- hD];rfl
   have d64:D 64=some 80:=by rw[<- hD];rfl
   have d65:D 65=some 81:=by rw[<- hD];rfl
   have d66:D 66=some 82:=by rw[<- hD];rfl
   have d67:D 67=some 83:=by rw[<- hD];rfl
   have d68:D 68=some 84:=by rw[<- hD];rfl
   have d69:D 69=some 85:=by rw[<- hD];rfl
   have d70:D 70=some 86:=by rw[<- hD];rfl
   have d71:D 71=some 87:=by rw[<- hD];rfl
   have d72:D 72=some 88:=by rw[<- hD];rfl
   have d73:D 73=some 89:=by rw[<- hD];rfl
   have d74:D 74=some 90:=by rw[<- hD];rfl
   have d75:D 75=some 91:=by rw[<- hD];rfl
   have d76:D 76=some 92:=by rw[<- hD];rfl
   have d77:D 77=some 93:=by rw[<- hD];rfl
   have d78:D 78=some 94:=by rw[<- hD];rfl
   have d79:D 79=some 95:=by rw[<- hD];rfl
   have d80:D 80=some 96:=by rw[<- hD];rfl
   have d81:D 81=some 97:=by rw[<- hD];rfl
   have d82:D 82=some 98:=by rw[<- hD];rfl
   have d83:D 83=some 99:=by rw[<- hD];rfl
   have d84:D 84=some 100:=by rw[<- hD];rfl
   have d85:D 85=some 101:=by rw[<- hD];rfl
   have d86:D 86=some 102:=by rw[<- hD];rfl
   have d87:D 87=some 103:=by rw[<- hD];rfl
   have d88:D 88=some 104:=by rw[<- hD];rfl
   have d89:D 89=some 105:=by rw[<- hD];rfl
   have d90:D 90=some 106:=by rw[<- hD];rfl
   have d91:D 91=some 107:=by rw[<- hD];rfl
   have d92:D 92=some 108:=by rw[<- hD];rfl
   have d93:D 93=some 109:=by rw[<- hD];rfl
   have d94:D 94=some 110:=by rw[<- hD];rfl
   have d95:D 95=some 111:=by rw[<- hD];rfl
   have d96:D 96=some 112:=by rw[<- hD];rfl
   have d97:D 97=some 113:=by rw[<- hD];rfl
   have d98:D 98=some 114:=by rw[<- hD];rfl
   have d99:D 99=some 115:=by rw[<- hD];rfl
   have d100:D 100=some 116:=by rw[<- hD];rfl
   have d101:D 101=some 117:=by rw[<- hD];rfl
   have d102:D 102=some 118:=by rw[<- hD];rfl
   have uE:D 103=some 119:=by rw[<- hD];rfl
   have uF:D 104=some 120:=by rw[<- hD];rfl
   have uG:D 105=some 121:=by rw[<- hD];rfl
   have uH:D 106=some 122:=by rw[<- hD];rfl
   have uI:D 107=some 123:=by rw[<- hD];rfl
   have R0:∀(γ:Nat->Nat) (L:Nat->Bool) (a:Cf) (w:BV),Held D A (Jl (Jdf b off f g0 pa pr po p2 p3 q0 q1 q2 q3 t0 t1 t2 t3 n0 n1 n2 n3 W V)) (Glob (Jx b off f g0 pa pr po p2 p3 q0 q1 q2 q3 t0 t1 t2 t3 n0 n1 n2 n3 W V)) a1 γ L a w->a.tmps[0]?=some (BO (some ⟨b,off,none⟩)):=fun γ L a w hH=>(hH.rest 0 (by rw[<- hD];exact J6 (by kernel_rfl))).trans pW;have R3:∀(γ:Nat->Nat) (L:Nat->Bool) (a:Cf) (w:BV),Held D A (Jl (Jdf b off f g0 pa pr po p2 p3 q0 q1 q2 q3 t0 t1 t2 t3 n0 n1 n2 n3 W V)) (Glob (Jx b off f g0 pa pr po p2 p3 q0 q1 q2 q3 t0 t1 t2 t3 n0 n1 n2 n3 W V)) a1 γ L a w->a.tmps[3]?=some (BO (some ⟨pa,0,none⟩)):=fun γ L a w hH=>(hH.rest 3 (by rw[<- hD];exact J6 (by kernel_rfl))).trans hs3;have R4:∀(γ:Nat->Nat) (L:Nat->Bool) (a:Cf) (w:BV),Held D A (Jl (Jdf b off f g0 pa pr po p2 p3 q0 q1 q2 q3 t0 t1 t2 t3 n0 n1 n2 n3 W V)) (Glob (Jx b off f g0 pa pr po p2 p3 q0 q1 q2 q3 t0 t1 t2 t3 n0 n1 n2 n3 W V)) a1 γ L a w->a.tmps[4]?=some (BO (some ⟨pr,0,none⟩)):=fun γ L a w hH=>(hH.rest 4 (by rw[<- hD];exact J6 (by kernel_rfl))).trans qI;have R5:∀(γ:Nat->Nat) (L:Nat->Bool) (a:Cf) (w:BV),Held D A (Jl (Jdf b off f g0 pa pr po p2 p3 q0 q1 q2 q3 t0 t1 t2 t3 n0 n1 n2 n3 W V)) (Glob (Jx b off f g0 pa pr po p2 p3 q0 q1 q2 q3 t0 t1 t2 t3 n0 n1 n2 n3 W V)) a1 γ L a w->a.tmps[5]?=some (BO (some ⟨po,0,none⟩)):=fun γ L a w hH=>(hH.rest 5 (by rw[<- hD];exact J6 (by kernel_rfl))).trans hs5;have R6:∀(γ:Nat->Nat) (L:Nat->Bool) (a:Cf) (w:BV),Held D A (Jl (Jdf b off f g0 pa pr po p2 p3 q0 q1 q2 q3 t0 t1 t2 t3 n0 n1 n2 n3 W V)) (Glob (Jx b off f g0 pa pr po p2 p3 q0 q1 q2 q3 t0 t1 t2 t3 n0 n1 n2 n3 W V)) a1 γ L a w->a.tmps[6]?=some (BO (some ⟨p2,0,none⟩)):=fun γ L a w hH=>(hH.rest 6 (by rw[<- hD];exact J6 (by kernel_rfl))).trans yE;have R7:∀(γ:Nat->Nat) (L:Nat->Bool) (a:Cf) (w:BV),Held D A (Jl (Jdf b off f g0 pa pr po p2 p3 q0 q1 q2 q3 t0 t1 t2 t3 n0 n1 n2 n3 W V)) (Glob (Jx b off f g0 pa pr po p2 p3 q0 q1 q2 q3 t0 t1 t2 t3 n0 n1 n2 n3 W V)) a1 γ L a w->a.tmps[7]?=some (BO (some ⟨p3,0,none⟩)):=fun γ L a w hH=>(hH.rest 7 (by rw[<- hD];exact J6 (by kernel_rfl))).trans yF;have kF:A 106 35:=by rw[<- hA];exact⟨_,rfl,⟨35,.data⟩,by simp,rfl,rfl⟩
   have kG:A 106 70:=by rw[<- hA];exact⟨_,rfl,⟨70,.data⟩,by simp,rfl,rfl⟩
   have iE:A 106 105:=by rw[<- hA];exact⟨_,rfl,⟨105,.data⟩,by simp,rfl,rfl⟩
   have lN:A 35 12:=by rw[<- hA];exact⟨_,rfl,⟨12,.data⟩,by simp,rfl,rfl⟩
   have lO:A 35 23:=by rw[<- hA];exact⟨_,rfl,⟨23,.data⟩,by simp,rfl,rfl⟩
   have lP:A 35 34:=by rw[<- hA];exact⟨_,rfl,⟨34,.data⟩,by simp,rfl,rfl⟩
   have lQ:A 70 46:=by rw[<- hA];exact⟨_,rfl,⟨46,.data⟩,by simp,rfl,rfl⟩
   have lR:A 70 58:=by rw[<- hA];exact⟨_,rfl,⟨58,.data⟩,by simp,rfl,rfl⟩
   have lS:A 70 69:=by rw[<- hA];exact⟨_,rfl,⟨69,.data⟩,by simp,rfl,rfl⟩
   have kH:A 105 81:=by rw[<- hA];exact⟨_,rfl,⟨81,.data⟩,by simp,rfl,rfl⟩
   have kI:A 105 92:=by rw[<- hA];exact⟨_,rfl,⟨92,.data⟩,by simp,rfl,rfl⟩
   have iF:A 105 104:=by rw[<- hA];exact⟨_,rfl,⟨104,.data⟩,by simp,rfl,rfl⟩
   have lT:A 12 11:=by rw[<- hA];exact⟨_,rfl,⟨11,.data⟩,by simp,rfl,rfl⟩
   have lU:A 58 57:=by rw[<- hA];exact⟨_,rfl,⟨57,.data⟩,by simp,rfl,rfl⟩
   have iG:A 104 103:=by rw[<- hA];exact⟨_,rfl,⟨103,.data⟩,by simp,rfl,rfl⟩
   clear hD hA;have CN:=Jgs b off f g0 pa pr po p2 p3 q0 q1 q2 q3 t0 t1 t2 t3 n0 n1 n2 n3 W V;have MN:=Jsr b off f g0 pa pr po p2 p3 q0 q1 q2 q3 t0 t1 t2 t3 n0 n1 n2 n3 W V
   iterate 109 first
    |(refine tc (tA rfl (by assumption) rfl rfl fun a w x=>by first | exact xQ0 rfl x | exact xQ1 rfl x | exact xQ2 rfl x | exact xQ3 rfl x | exact xV0 rfl x | exact xV1 rfl x | exact xV2 rfl x) ?_)
    |(refine tc (tM rfl (by assumption) rfl rfl fun a w x=>by simp[JD,go_sem,x]) ?_)
    |(refine tc (tL rfl (by assumption) (by simp) rfl rfl rfl (by repeat first | exact .head _ | refine .tail _ ?_)) ?_)
    |(refine tc (tB rfl (by assumption) (by assumption) (by simp) (by simp) rfl rfl rfl rfl (by repeat first | exact .head _ | refine .tail _ ?_) MN) ?_)
    |(refine tc (tD hπ rfl (by assumption) (by assumption) (by assumption) (by simp) (by simp) rfl rfl rfl rfl (by repeat first | exact .head _ | refine .tail _ ?_) (by repeat first | exact .head _ | refine .tail _ ?_) (by repeat first | exact .head _ | refine .tail _ ?_) CN (Jhm po)) ?_)
    |(refine AllDo.cons 12 rfl (Jbc hπ _ ((sub (4294967296) ((dot [t2,t3] [q2,q3]).getD 0)).isNone) rfl (by simp[Jx]) (Jbf (Jgs b off f g0 pa pr po p2 p3 q0 q1 q2 q3 t0 t1 t2 t3 n0 n1 n2 n3 W V) (by simp[Jx])) rfl (fun γ L a w hH hA g hg hz=>by have e1:=R5 γ L a w hH;have e2:=hH.at nK rfl (hA ⟨11,.data⟩ (by simp) rfl);exact⟨159,#[BO (some ⟨po,0,none⟩),J Y 4294967296,J Y ((dot [t2,t3] [q2,q3]).getD 0)],by simp[go_sem,e1,e2],(Jgo po 0 g (4294967296) ((dot [t2,t3] [q2,q3]).getD 0) w hg hz).mono (by rintro e W1 ⟨v,g1,rfl,S,Z⟩;exact⟨by rw[S.out.1],g1,S.out.2,Z.out⟩)⟩)) ?_)
    |(refine AllDo.cons 35 rfl (J2 _ rfl rfl (fun γ L a w hH hA=>by have e1:=hH.at il rfl (hA ⟨12,.data⟩ (by simp) rfl);have e2:=hH.at yJ rfl (hA ⟨23,.data⟩ (by simp) rfl);have e3:=hH.at uC rfl (hA ⟨34,.data⟩ (by simp) rfl);simp[JD,go_sem,e1,e2,e3])) ?_)
    |(refine AllDo.cons 58 rfl (Jbc hπ _ ((sub (4294967296) ((dot [t1,t3] [q1,q3]).getD 0)).isNone) rfl (by simp[Jx]) (Jbf (Jgs b off f g0 pa pr po p2 p3 q0 q1 q2 q3 t0 t1 t2 t3 n0 n1 n2 n3 W V) (by simp[Jx])) rfl (fun γ L a w hH hA g hg hz=>by have e1:=R5 γ L a w hH;have e2:=hH.at d57 rfl (hA ⟨57,.data⟩ (by simp) rfl);exact⟨159,#[BO (some ⟨po,0,none⟩),J Y 4294967296,J Y ((dot [t1,t3] [q1,q3]).getD 0)],by simp[go_sem,e1,e2],(Jgo po 0 g (4294967296) ((dot [t1,t3] [q1,q3]).getD 0) w hg hz).mono (by rintro e W1 ⟨v,g1,rfl,S,Z⟩;exact⟨by rw[S.out.1],g1,S.out.2,Z.out⟩)⟩)) ?_)
    |(refine AllDo.cons 70 rfl (J2 _ rfl rfl (fun γ L a w hH hA=>by have e1:=hH.at d46 rfl (hA ⟨46,.data⟩ (by simp) rfl);have e2:=hH.at d58 rfl (hA ⟨58,.data⟩ (by simp) rfl);have e3:=hH.at d69 rfl (hA ⟨69,.data⟩ (by simp) rfl);simp[JD,go_sem,e1,e2,e3])) ?_)
    |(refine AllDo.cons 104 rfl (Jbc hπ _ ((sub (4294967296) ((dot [t1,t2] [q1,q2]).getD 0)).isNone) rfl (by simp[Jx]) (Jbf (Jgs b off f g0 pa pr po p2 p3 q0 q1 q2 q3 t0 t1 t2 t3 n0 n1 n2 n3 W V) (by simp[Jx])) rfl (fun γ L a w hH hA g hg hz=>by have e1:=R5 γ L a w hH;have e2:=hH.at uE rfl (hA ⟨103,.data⟩ (by simp) rfl);exact⟨159,#[BO (some ⟨po,0,none⟩),J Y 4294967296,J Y ((dot [t1,t2] [q1,q2]).getD 0)],by simp[go_sem,e1,e2],(Jgo po 0 g (4294967296) ((dot [t1,t2] [q1,q2]).getD 0) w hg hz).mono (by rintro e W1 ⟨v,g1,rfl,S,Z⟩;exact⟨by rw[S.out.1],g1,S.out.2,Z.out⟩)⟩)) ?_)
    |(refine AllDo.cons 105 rfl (J2 _ rfl rfl (fun γ L a w hH hA=>by have e1:=hH.at d81 rfl (hA ⟨81,.data⟩ (by simp) rfl);have e2:=hH.at d92 rfl (hA ⟨92,.data⟩ (by simp) rfl);have e3:=hH.at uF rfl (hA ⟨104,.data⟩ (by simp) rfl);simp[JD,go_sem,e1,e2,e3])) ?_)
    |(refine AllDo.cons 106 rfl (J2 _ rfl rfl (fun γ L a w hH hA=>by have e1:=hH.at uD rfl (hA ⟨35,.data⟩ (by simp) rfl);have e2:=hH.at d70 rfl (hA ⟨70,.data⟩ (by simp) rfl);have e3:=hH.at uG rfl (hA ⟨105,.data⟩ (by simp) rfl);simp[JD,go_sem,e1,e2,e3])) ?_)
    |(refine AllDo.cons 107 rfl (Jfr hπ _ rfl (fun e=>by have e2:po=b:=congrArg Addr.block e;omega) (by simp[Jx]) (by simp[Jx]) (by simp[Jx]) rfl (fun L dl bA c hc=>by have nT:L 106=true:=bA ⟨106,.data⟩ (by simp) rfl;have uJ:L 35=true:=dl 106 35 kF nT;have uK:L 70=true:=dl 106 70 kG nT;have nU:L 105=true:=dl 106 105 iE nT;have yD:L 12=true:=dl 35 12 lN uJ;have L23:L 23=true:=dl 35 23 lO uJ;have sS:L 34=true:=dl 35 34 lP uJ;have L46:L 46=true:=dl 70 46 lQ uK;have L58:L 58=true:=dl 70 58 lR uK;have L69:L 69=true:=dl 70 69 lS uK;have L81:L 81=true:=dl 105 81 kH nU;have L92:L 92=true:=dl 105 92 kI nU;have uL:L 104=true:=dl 105 104 iF nU;have L11:L 11=true:=dl 12 11 lT yD;have L57:L 57=true:=dl 58 57 lU L58;have L103:L 103=true:=dl 104 103 iG uL;simp only[Jx,List.mem_cons,List.not_mem_nil,or_false]at hc;rcases hc with rfl | rfl | rfl | rfl | rfl | rfl | rfl | rfl | rfl | rfl | rfl | rfl;all_goals assumption) (fun γ L a w hH hA hb hp bg=>by have e1:=hH.at d0 rfl (hA ⟨0,.data⟩ (by simp) rfl);have e2:=R5 γ L a w hH;have e3:=hH.at uH rfl (hA ⟨106,.data⟩ (by simp) rfl);exact⟨160,#[BO (some ⟨b,off,none⟩),BO (some ⟨po,0,none⟩),B_ #[J Y ((sub (4294967296) ((dot [t2,t3] [q2,q3]).getD 0)).getD 0),J Y ((dot [t1,t0] [q2,n3]).getD 0),J Y ((dot [t1,t0] [q3,q2]).getD 0),J Y ((dot [t1,t0] [q2,q3]).getD 0),J Y ((sub (4294967296) ((dot [t1,t3] [q1,q3]).getD 0)).getD 0),J Y ((dot [t2,t0] [q3,n1]).getD 0),J Y ((dot [t1,t0] [q3,n2]).getD 0),J Y ((dot [t2,t0] [q3,q1]).getD 0),J Y ((sub (4294967296) ((dot [t1,t2] [q1,q2]).getD 0)).getD 0)]],by simp[go_sem,e1,e2,e3],(Jp4 b off po f (Js b off f g0 pa pr po p2 p3 q0 q1 q2 q3 t0 t1 t2 t3 n0 n1 n2 n3 W V) ((sub (4294967296) ((dot [t2,t3] [q2,q3]).getD 0)).getD 0) ((dot [t1,t0] [q2,n3]).getD 0) ((dot [t1,t0] [q3,q2]).getD 0) ((dot [t1,t0] [q2,q3]).getD 0) ((sub (4294967296) ((dot [t1,t3] [q1,q3]).getD 0)).getD 0) ((dot [t2,t0] [q3,n1]).getD 0) ((dot [t1,t0] [q3,n2]).getD 0) ((dot [t2,t0] [q3,q1]).getD 0) ((sub (4294967296) ((dot [t1,t2] [q1,q2]).getD 0)).getD 0) w hp bg hb).mono (by rintro e W1 ⟨rfl,Z⟩;exact⟨rfl,Z.out⟩)⟩)) ?_)
    |(refine AllDo.cons 108 rfl (does_store hπ (by simp[Jx]) rfl rfl (by simp[Jx]) (by simp[Jx]) (by simp[Jx]) (fun γ L a w hH hA cs hl hh=>by have e1:=R4 γ L a w hH;have e2:=hH.at uI rfl (hA ⟨107,.data⟩ (by simp) rfl);obtain⟨u0,u1,u2,u3,u4,u5,u6,u7,u8,rfl⟩:=Jux hl;have fk:w.cell? ⟨pr,0,none⟩=some u0/\w.frozen? ⟨pr,0,none⟩=false:=hh 0 u0 rfl;have fm:w.cell? ⟨pr,1,none⟩=some u1/\w.frozen? ⟨pr,1,none⟩=false:=hh 1 u1 rfl;have fp:w.cell? ⟨pr,2,none⟩=some u2/\w.frozen? ⟨pr,2,none⟩=false:=hh 2 u2 rfl;have kE:w.cell? ⟨pr,3,none⟩=some u3/\w.frozen? ⟨pr,3,none⟩=false:=hh 3 u3 rfl;have qO:w.cell? ⟨pr,4,none⟩=some u4/\w.frozen? ⟨pr,4,none⟩=false:=hh 4 u4 rfl;have qP:w.cell? ⟨pr,5,none⟩=some u5/\w.frozen? ⟨pr,5,none⟩=false:=hh 5 u5 rfl;have qQ:w.cell? ⟨pr,6,none⟩=some u6/\w.frozen? ⟨pr,6,none⟩=false:=hh 6 u6 rfl;have qR:w.cell? ⟨pr,7,none⟩=some u7/\w.frozen? ⟨pr,7,none⟩=false:=hh 7 u7 rfl;have qS:w.cell? ⟨pr,8,none⟩=some u8/\w.frozen? ⟨pr,8,none⟩=false:=hh 8 u8 rfl;exact⟨(((((((((w.setCell ⟨pr,0,none⟩ (J Y (cond (Js b off f g0 pa pr po p2 p3 q0 q1 q2 q3 t0 t1 t2 t3 n0 n1 n2 n3 W V) 0 ((sub (4294967296) ((dot [t2,t3] [q2,q3]).getD 0)).getD 0)))).setCell ⟨pr,1,none⟩ (J Y (cond (Js b off f g0 pa pr po p2 p3 q0 q1 q2 q3 t0 t1 t2 t3 n0 n1 n2 n3 W V) 0 ((dot [t1,t0] [q2,n3]).getD 0)))).setCell ⟨pr,2,none⟩ (J Y (cond (Js b off f g0 pa pr po p2 p3 q0 q1 q2 q3 t0 t1 t2 t3 n0 n1 n2 n3 W V) 0 ((dot [t1,t0] [q3,q2]).getD 0)))).setCell ⟨pr,3,none⟩ (J Y (cond (Js b off f g0 pa pr po p2 p3 q0 q1 q2 q3 t0 t1 t2 t3 n0 n1 n2 n3 W V) 0 ((dot [t1,t0] [q2,q3]).getD 0)))).setCell ⟨pr,4,none⟩ (J Y (cond (Js b off f g0 pa pr po p2 p3 q0 q1 q2 q3 t0 t1 t2 t3 n0 n1 n2 n3 W V) 0 ((sub (4294967296) ((dot [t1,t3] [q1,q3]).getD 0)).getD 0)))).setCell ⟨pr,5,none⟩ (J Y (cond (Js b off f g0 pa pr po p2 p3 q0 q1 q2 q3 t0 t1 t2 t3 n0 n1 n2 n3 W V) 0 ((dot [t2,t0] [q3,n1]).getD 0)))).setCell ⟨pr,6,none⟩ (J Y (cond (Js b off f g0 pa pr po p2 p3 q0 q1 q2 q3 t0 t1 t2 t3 n0 n1 n2 n3 W V) 0 ((dot [t1,t0] [q3,n2]).getD 0)))).setCell ⟨pr,7,none⟩ (J Y (cond (Js b off f g0 pa pr po p2 p3 q0 q1 q2 q3 t0 t1 t2 t3 n0 n1 n2 n3 W V) 0 ((dot [t2,t0] [q3,q1]).getD 0)))).setCell ⟨pr,8,none⟩ (J Y (cond (Js b off f g0 pa pr po p2 p3 q0 q1 q2 q3 t0 t1 t2 t3 n0 n1 n2 n3 W V) 0 ((sub (4294967296) ((dot [t1,t2] [q1,q2]).getD 0)).getD 0)))),by simp[JD,go_sem,e1,e2,fk.1,fk.2,fm.1,fm.2,fp.1,fp.2,kE.1,kE.2,qO.1,qO.2,qP.1,qP.2,qQ.1,qQ.2,qR.1,qR.2,qS.1,qS.2],((((((((((Only.refl _ _).set 0 _).set 1 _).set 2 _).set 3 _).set 4 _).set 5 _).set 6 _).set 7 _).set 8 _),Jvs hh⟩)) ?_)
   exact AllDo.nil
  ·intro γ a9 w9 L hL dU hH;have hL':∀ j,j<109->L j=true:=fun j hj=>hL j hj;have hG:=hH.glob;have uM:a9.defers = []:=hH.defers.trans nN;have uN:a9.tmps[4]?=some (BO (some ⟨pr,0,none⟩)):=(hH.rest 4 (J6 (by kernel_rfl))).trans qI;obtain⟨cs,c1,c2,c3⟩:=hG.res;obtain rfl:=c3 (hL' 108 (by omega));have eI:=hG.outer.resolve_left (fun e=>by have e2:po=b:=congrArg Addr.block e;omega);have hA:BU (After ⟨b,off,none⟩ (f||Js b off f g0 pa pr po p2 p3 q0 q1 q2 q3 t0 t1 t2 t3 n0 n1 n2 n3 W V) W w9):=by
    have e:=eI.1;rw[show(Jx b off f g0 pa pr po p2 p3 q0 q1 q2 q3 t0 t1 t2 t3 n0 n1 n2 n3 W V).tl=107 from rfl,hL' 107 (by omega),Bool.true_and]at e;exact hG.leaves.done e eI.2
   have r0:w9.cell? ⟨pr,0,none⟩=some (J Y (cond (Js b off f g0 pa pr po p2 p3 q0 q1 q2 q3 t0 t1 t2 t3 n0 n1 n2 n3 W V) 0 ((sub (4294967296) ((dot [t2,t3] [q2,q3]).getD 0)).getD 0))):=(c2 0 _ rfl).1;have r1:w9.cell? ⟨pr,1,none⟩=some (J Y (cond (Js b off f g0 pa pr po p2 p3 q0 q1 q2 q3 t0 t1 t2 t3 n0 n1 n2 n3 W V) 0 ((dot [t1,t0] [q2,n3]).getD 0))):=(c2 1 _ rfl).1;have r2:w9.cell? ⟨pr,2,none⟩=some (J Y (cond (Js b off f g0 pa pr po p2 p3 q0 q1 q2 q3 t0 t1 t2 t3 n0 n1 n2 n3 W V) 0 ((dot [t1,t0] [q3,q2]).getD 0))):=(c2 2 _ rfl).1;have r3:w9.cell? ⟨pr,3,none⟩=some (J Y (cond (Js b off f g0 pa pr po p2 p3 q0 q1 q2 q3 t0 t1 t2 t3 n0 n1 n2 n3 W V) 0 ((dot [t1,t0] [q2,q3]).getD 0))):=(c2 3 _ rfl).1;have r4:w9.cell? ⟨pr,4,none⟩=some (J Y (cond (Js b off f g0 pa pr po p2 p3 q0 q1 q2 q3 t0 t1 t2 t3 n0 n1 n2 n3 W V) 0 ((sub (4294967296) ((dot [t1,t3] [q1,q3]).getD 0)).getD 0))):=(c2 4 _ rfl).1;have r5:w9.cell? ⟨pr,5,none⟩=some (J Y (cond (Js b off f g0 pa pr po p2 p3 q0 q1 q2 q3 t0 t1 t2 t3 n0 n1 n2 n3 W V) 0 ((dot [t2,t0] [q3,n1]).getD 0))):=(c2 5 _ rfl).1;have r6:w9.cell? ⟨pr,6,none⟩=some (J Y (cond (Js b off f g0 pa pr po p2 p3 q0 q1 q2 q3 t0 t1 t2 t3 n0 n1 n2 n3 W V) 0 ((dot [t1,t0] [q3,n2]).getD 0))):=(c2 6 _ rfl).1;have r7:w9.cell? ⟨pr,7,none⟩=some (J Y (cond (Js b off f g0 pa pr po p2 p3 q0 q1 q2 q3 t0 t1 t2 t3 n0 n1 n2 n3 W V) 0 ((dot [t2,t0] [q3,q1]).getD 0))):=(c2 7 _ rfl).1;have r8:w9.cell? ⟨pr,8,none⟩=some (J Y (cond (Js b off f g0 pa pr po p2 p3 q0 q1 q2 q3 t0 t1 t2 t3 n0 n1 n2 n3 W V) 0 ((sub (4294967296) ((dot [t1,t2] [q1,q2]).getD 0)).getD 0))):=(c2 8 _ rfl).1;have HB:Js b off f g0 pa pr po p2 p3 q0 q1 q2 q3 t0 t1 t2 t3 n0 n1 n2 n3 W V=J1 q0 q1 q2 q3:=by rw[HG.out];simp only[yG.out,dV.out,mI.out,yH.out,HN0.out,bR.out,cf.out,sR.out];simp[Js,J1]
   rw[HB]at hA r0 r1 r2 r3 r4 r5 r6 r7 r8;clear hL dU hL' hH hG c1 c2 c3 eI hπ HB;go_wp2;refine bodyPost_ret (by simp[results,results99,go_sem,uN,r0,r1,r2,r3,r4,r5,r6,r7,r8];try rfl) uM ?_;refine⟨?_,hA⟩;simp only[yG.out,dV.out,mI.out,yH.out,bR.out,cf.out,sR.out,Jer,Je3,Je6,Jeu,Jeg,Jew,Je2,Jez,Je5]
end
section
open Go.RowKit Go.Shelf
structure M9 where
 a0:Int
 a1:Int
 a2:Int
 a3:Int
 a4:Int
 a5:Int
 a6:Int
 a7:Int
 a8:Int
def M9.v(m:M9):B7:=B_ #[J Y m.a0,J Y m.a1,J Y m.a2,J Y m.a3,J Y m.a4,J Y m.a5,J Y m.a6,J Y m.a7,J Y m.a8]
def Jv7(a b c:Option Int):Option Pt:=match a,b,c with
 | some x,some y,some z=>some ⟨x,y,z⟩
 | _,_,_=>none
def M9.turn(m:M9)(x:Pt):Option Pt:=Jv7 (Fx.dot [m.a0,m.a1,m.a2] [x.x,x.y,x.z]) (Fx.dot [m.a3,m.a4,m.a5] [x.x,x.y,x.z]) (Fx.dot [m.a6,m.a7,m.a8] [x.x,x.y,x.z])
def Pt.addO(x y:Pt):Option Pt:=Jv7 (Fx.add x.x y.x) (Fx.add x.y y.y) (Fx.add x.z y.z)
def Pt.times(p:Pt)(n:Int):Pt:=⟨IntKind.i64.wrap (p.x*n),IntKind.i64.wrap (p.y*n),IntKind.i64.wrap (p.z*n)⟩
theorem Cells.after{W W':BV}{b:Nat}{u:B7}{vs:List B7}{g:Bool}(h:Cells W b (u::vs))(A:After ⟨b,0,none⟩ g W W'):Cells W' b (BT g::vs):=by
 intro i v e;have hb:b<W.heap.size:=JB _ _ (h 0 u rfl).1;cases i with
 | zero=>simp at e;subst e;exact⟨A.cell,A.frozen⟩
 | succ i =>
  obtain⟨h1,h2⟩:=h (i+1) v (by simpa using e);obtain⟨a1,a2⟩:=A.beside hb (i+1) (by simp);exact⟨a1.trans h1,a2.trans h2⟩
theorem Cells.beside{W W':BV}{b b':Nat}{vs:List B7}{g:Bool}(h:Cells W b vs)(A:After ⟨b',0,none⟩ g W W')(ak:b≠b'):Cells W' b vs:=fun i v e =>
 ⟨A.cellOf (h i v e).1 ak,A.frozenOf (h i v e).1 (h i v e).2 ak⟩
theorem RV.Pend.after{W0:BV}{T i j:Nat}{fin:Array B7}{γ:Nat->B7}{L:Nat->Bool}{w w':BV}{b:Nat}{g:Bool}(h:RV.Pend W0 T i j fin γ L w)(A:After ⟨b,0,none⟩ g w w')(hb:b<W0.heap.size):RV.Pend W0 T i j fin γ L w':=by
 intro hl;obtain⟨c,cs,h1,h2,h3,h4,h5⟩:=h hl;exact⟨c,cs,h1,h2,(A.kept.2.2.2 c (Array.getElem?_eq_some_iff.1 h3).1 (by show c≠b;omega)).trans h3,h4,h5⟩
def M9.at1(m:M9)(p:Pt):Pt:=(m.turn (p.times 1048576)).getD Pt.O
def M9.at2(m:M9)(t p:Pt):Pt:=((m.at1 p).addO t).getD Pt.O
structure Q4 where
 w:Int
 x:Int
 y:Int
 z:Int
def Jpq(t:Pt)(q:Q4):B7:=B_ #[J Y t.x,J Y t.y,J Y t.z,J Y q.w,J Y q.x,J Y q.y,J Y q.z]
def Juw:Nat->Pt->Pt
 | 0,p=>p
 | n+1,p=>if p.inB 524288 then Juw n (p.plus p) else p
def Pt.long(p:Pt):Pt:=if p=Pt.O then p else Juw 20 p
def Pt.big(p:Pt)(n:Nat):Prop:=2 ^ n<=p.x.natAbs\/2 ^ n<=p.y.natAbs\/2 ^ n<=p.z.natAbs
end
section
open Go.RowKit Go.Shelf
attribute [local go_sem] Oper.semAt_some
def Bx.l(b:Bx):List B7:=[J Y b.lo.x,J Y b.lo.y,J Y b.lo.z,J Y b.hi.x,J Y b.hi.y,J Y b.hi.z]
end
section
open Go.RowKit Go.Shelf
section
variable {V:BV} {cb fb:Nat} {pv av ev:B7} {r:Int} {f b1 b2 b3:Bool} {m:M9} {t:Pt} {P A E:List Pt} {g4 g5 g9 pC sB sD:B7} {l4 l5 l9 l13 l16 l17 l18:Bool} {w w':BV}
end
theorem Jv2{cs:Array B7}(h:cs.size=4):∃ u0 u1 u2 u3,cs = #[u0,u1,u2,u3]:=by
 obtain⟨l⟩:=cs
 match l,h with
 | [a,b,c,d],_=>exact⟨a,b,c,d,rfl⟩
end
section
open Go.RowKit Fx
theorem Jiq(y:Int):((sub 0 y).isNone=true/\great y=true/\great (-y)=true)\/((sub 0 y)=some (-y)/\great y=false/\great (-y)=false):=by
 cases h:great y
 ·have h':=(not_great y).1 h;have g:great (-y)=false:=(not_great _).2 (by omega);refine Or.inr ⟨?_,rfl,g⟩;have z:great 0=false:=by decide
  have e:(0:Int)-y = -y:=by omega
  simp[sub,h,z,told,e,g]
 ·have h':=(great_iff y).1 h;refine Or.inl ⟨?_,rfl,(great_iff _).2 (by omega)⟩;simp[sub,h]
theorem Jfp{l m:List Int}(h:m.any great=true):(dot l m).isNone=true:=by
 unfold dot;split
 ·rfl
 ·split
  ·rfl
  ·rw[h];simp
theorem Ji2{f g0:Bool}{x0 x1 x2 y0 y1 y2:Int}(hg:g0=(false ||((sub 0 y0).isNone ||(sub 0 y1).isNone ||(sub 0 y2).isNone))){bd:Bool}
  (hb:bd=(g0 ||((dot [x1,x2] [y2,(sub 0 y1).getD 0]).isNone ||((dot [x2,x0] [y0,(sub 0 y2).getD 0]).isNone ||(dot [x0,x1] [y1,(sub 0 y0).getD 0]).isNone)))) :
  Jco f (dot [x1,x2] [y2,-y1]) (dot [x2,x0] [y0,-y2]) (dot [x0,x1] [y1,-y0]) (cond bd 0 ((dot [x1,x2] [y2,(sub 0 y1).getD 0]).getD 0)) (cond bd 0 ((dot [x2,x0] [y0,(sub 0 y2).getD 0]).getD 0)) (cond bd 0 ((dot [x0,x1] [y1,(sub 0 y0).getD 0]).getD 0)) (f||bd):=by
 have key:(bd=true/\((dot [x1,x2] [y2,-y1]).isNone ||(dot [x2,x0] [y0,-y2]).isNone ||(dot [x0,x1] [y1,-y0]).isNone)=true)\/(sub 0 y0=some (-y0)/\sub 0 y1=some (-y1)/\sub 0 y2=some (-y2)):=by
  rcases Jiq y0 with ⟨a1,a2,a3⟩ |⟨a1,_,_⟩
  ·left;exact⟨by rw[hb,hg,a1];simp,by rw[Jfp (l:=[x0,x1]) (m:=[y1,-y0]) (by simp[a3])];simp⟩
  ·rcases Jiq y1 with ⟨b1,b2,b3⟩ |⟨b1,_,_⟩
   ·left;exact⟨by rw[hb,hg,b1];simp,by rw[Jfp (l:=[x1,x2]) (m:=[y2,-y1]) (by simp[b3])];simp⟩
   ·rcases Jiq y2 with ⟨c1,c2,c3⟩ |⟨c1,_,_⟩
    ·left;exact⟨by rw[hb,hg,c1];simp,by rw[Jfp (l:=[x2,x0]) (m:=[y0,-y2]) (by simp[c3])];simp⟩
    ·right;exact⟨a1,b1,c1⟩
 rcases key with ⟨h1,h2⟩ |⟨h1,h2,h3⟩
 ·rw[h1];unfold Jco;rw[h2];exact⟨rfl,rfl,rfl,rfl⟩
 ·rw[h1,h2,h3]at hb hg;rw[h1,h2,h3];have hg':g0=false:=by rw[hg];rfl
  rw[hg',Bool.false_or]at hb;simp only[Option.getD_some]at hb ⊢;unfold Jco;rw[Bool.or_assoc,<- hb];exact⟨rfl,rfl,rfl,rfl⟩
def Jan(b off:Nat)(f g0:Bool)(pa pb pr po pm:Nat)(x0 x1 x2 y0 y1 y2:Int)(W U:BV):Bool:=g0 ||([(11,(dot [x1,x2] [y2,(sub 0 y1).getD 0]).isNone),(22,(dot [x2,x0] [y0,(sub 0 y2).getD 0]).isNone),(33,(dot [x0,x1] [y1,(sub 0 y0).getD 0]).isNone)]:List (Nat × Bool)).any (·.2)
def Jde(b off:Nat)(f g0:Bool)(pa pb pr po pm:Nat)(x0 x1 x2 y0 y1 y2:Int)(W U:BV):Nat->Shape
 | 0=>.is (BO (some ⟨b,off,none⟩))
 | 1=>.is (BO (some ⟨pa,1,none⟩))
 | 2=>.is (J Y x1)
 | 3=>.is (BO (some ⟨pa,2,none⟩))
 | 4=>.is (J Y x2)
 | 5=>.row 2
 | 6=>.is (BO (some ⟨pb,2,none⟩))
 | 7=>.is (J Y y2)
 | 8=>.is (BO (some ⟨pm,1,none⟩))
 | 9=>.is (J Y ((sub 0 y1).getD 0))
 | 10=>.row 2
 | 11=>.is (J Y ((dot [x1,x2] [y2,(sub 0 y1).getD 0]).getD 0))
 | 12=>.is (BO (some ⟨pa,2,none⟩))
 | 13=>.is (J Y x2)
 | 14=>.is (BO (some ⟨pa,0,none⟩))
 | 15=>.is (J Y x0)
 | 16=>.row 2
 | 17=>.is (BO (some ⟨pb,0,none⟩))
 | 18=>.is (J Y y0)
 | 19=>.is (BO (some ⟨pm,2,none⟩))
 | 20=>.is (J Y ((sub 0 y2).getD 0))
 | 21=>.row 2
 | 22=>.is (J Y ((dot [x2,x0] [y0,(sub 0 y2).getD 0]).getD 0))
 | 23=>.is (BO (some ⟨pa,0,none⟩))
 | 24=>.is (J Y x0)
 | 25=>.is (BO (some ⟨pa,1,none⟩))
 | 26=>.is (J Y x1)
 | 27=>.row 2
 | 28=>.is (BO (some ⟨pb,1,none⟩))
 | 29=>.is (J Y y1)
 | 30=>.is (BO (some ⟨pm,0,none⟩))
 | 31=>.is (J Y ((sub 0 y0).getD 0))
 | 32=>.row 2
 | 33=>.is (J Y ((dot [x0,x1] [y1,(sub 0 y0).getD 0]).getD 0))
 | 34=>.is (B_ #[J Y ((dot [x1,x2] [y2,(sub 0 y1).getD 0]).getD 0),J Y ((dot [x2,x0] [y0,(sub 0 y2).getD 0]).getD 0),J Y ((dot [x0,x1] [y1,(sub 0 y0).getD 0]).getD 0)])
 | 35=>.is (B_ #[J Y (cond (Jan b off f g0 pa pb pr po pm x0 x1 x2 y0 y1 y2 W U) 0 ((dot [x1,x2] [y2,(sub 0 y1).getD 0]).getD 0)),J Y (cond (Jan b off f g0 pa pb pr po pm x0 x1 x2 y0 y1 y2 W U) 0 ((dot [x2,x0] [y0,(sub 0 y2).getD 0]).getD 0)),J Y (cond (Jan b off f g0 pa pb pr po pm x0 x1 x2 y0 y1 y2 W U) 0 ((dot [x0,x1] [y1,(sub 0 y0).getD 0]).getD 0))])
 | 36=>.ptr
 | _=>.ptr
def J5(b off:Nat)(f g0:Bool)(pa pb pr po pm:Nat)(x0 x1 x2 y0 y1 y2:Int)(W U:BV):Plan where
 W:=W
 N:=U.heap.size
 p:=⟨b,off,none⟩
 fl:=⟨po,0,none⟩
 g0:=g0
 bad:=Jan b off f g0 pa pb pr po pm x0 x1 x2 y0 y1 y2 W U
 f:=f
 calls:=[(11,(dot [x1,x2] [y2,(sub 0 y1).getD 0]).isNone),(22,(dot [x2,x0] [y0,(sub 0 y2).getD 0]).isNone),(33,(dot [x0,x1] [y1,(sub 0 y0).getD 0]).isNone)]
 tl:=35
 st:=36
 r:=pr
 res:=[J Y (cond (Jan b off f g0 pa pb pr po pm x0 x1 x2 y0 y1 y2 W U) 0 ((dot [x1,x2] [y2,(sub 0 y1).getD 0]).getD 0)),J Y (cond (Jan b off f g0 pa pb pr po pm x0 x1 x2 y0 y1 y2 W U) 0 ((dot [x2,x0] [y0,(sub 0 y2).getD 0]).getD 0)),J Y (cond (Jan b off f g0 pa pb pr po pm x0 x1 x2 y0 y1 y2 W U) 0 ((dot [x0,x1] [y1,(sub 0 y0).getD 0]).getD 0))]
 fixed:=[(⟨pa,0,none⟩,J Y x0),
  (⟨pa,1,none⟩,J Y x1),
  (⟨pa,2,none⟩,J Y x2),
  (⟨pb,0,none⟩,J Y y0),
  (⟨pb,1,none⟩,J Y y1),
  (⟨pb,2,none⟩,J Y y2),
  (⟨pm,0,none⟩,J Y ((sub 0 y0).getD 0)),
  (⟨pm,1,none⟩,J Y ((sub 0 y1).getD 0)),
  (⟨pm,2,none⟩,J Y ((sub 0 y2).getD 0))]
 made:=[⟨5,5,[J Y x1,J Y x2]⟩,⟨10,10,[J Y y2,J Y ((sub 0 y1).getD 0)]⟩,⟨16,16,[J Y x2,J Y x0]⟩,⟨21,21,[J Y y0,J Y ((sub 0 y2).getD 0)]⟩,⟨27,27,[J Y x0,J Y x1]⟩,⟨32,32,[J Y y1,J Y ((sub 0 y0).getD 0)]⟩]
theorem Jss(b off:Nat)(f g0:Bool)(pa pb pr po pm:Nat)(x0 x1 x2 y0 y1 y2:Int)(W U:BV):((J5 b off f g0 pa pb pr po pm x0 x1 x2 y0 y1 y2 W U).calls.map (·.1)).Nodup:=of_decide_eq_true rfl
theorem Jru(b off:Nat)(f g0:Bool)(pa pb pr po pm:Nat)(x0 x1 x2 y0 y1 y2:Int)(W U:BV):((J5 b off f g0 pa pb pr po pm x0 x1 x2 y0 y1 y2 W U).made.map (·.i)).Nodup:=of_decide_eq_true rfl
theorem Ji8(b off:Nat)(f g0:Bool)(pa pb pr po pm:Nat)(x0 x1 x2 y0 y1 y2:Int)(W U:BV):((J5 b off f g0 pa pb pr po pm x0 x1 x2 y0 y1 y2 W U).bad=true->(J5 b off f g0 pa pb pr po pm x0 x1 x2 y0 y1 y2 W U).g0=true \/ ∃ c∈(J5 b off f g0 pa pb pr po pm x0 x1 x2 y0 y1 y2 W U).calls,c.2=true)/\∀ c∈(J5 b off f g0 pa pb pr po pm x0 x1 x2 y0 y1 y2 W U).calls,c.2=true->(J5 b off f g0 pa pb pr po pm x0 x1 x2 y0 y1 y2 W U).bad=true:=
 Jc9 _ rfl
theorem Joq(b off:Nat)(f:Bool)(x0 x1 x2 y0 y1 y2:Int)(W:BV)(hc:W.cell? ⟨b,off,none⟩=some (BT f))(hf:W.frozen? ⟨b,off,none⟩=false):
  Cd Tryz.prog 106 #[BO (some ⟨b,off,none⟩),B_ #[J Y x0,J Y x1,J Y x2],B_ #[J Y y0,J Y y1,J Y y2]] W fun e W'=>∃ v0 v1 v2 g,e = BZ (B_ #[J Y v0,J Y v1,J Y v2])/\BU (Jco f (dot [x1,x2] [y2,-y1]) (dot [x2,x0] [y0,-y2]) (dot [x0,x1] [y1,-y0]) v0 v1 v2 g)/\BU (After ⟨b,off,none⟩ g W W'):=by
 have aO:b<W.heap.size:=JB _ _ hc;go_enter func106,ntmps106;go_wp2_with (fail);refine(Jko (W.heap.size+1+1+1) false 0 0 0 y0 y1 y2 _ (by simp[go_sem]) (by simp[go_sem])).mono ?_;rintro e W1 ⟨g0,rfl,SG,A⟩;have hp:=A.out.cellOf (q:=⟨b,off,none⟩) (v:=BT f) (by rw[World.cell?_alloc_past _ _ _ (by simp;omega),World.cell?_alloc_past _ _ _ (by simp;omega),World.cell?_alloc_past _ _ _ (by simp;omega),World.cell?_alloc_past _ _ _ aO];exact hc) (by simp;omega);have bg:=A.out.frozenOf (q:=⟨b,off,none⟩) (v:=BT f) (by rw[World.cell?_alloc_past _ _ _ (by simp;omega),World.cell?_alloc_past _ _ _ (by simp;omega),World.cell?_alloc_past _ _ _ (by simp;omega),World.cell?_alloc_past _ _ _ aO];exact hc) (by rw[((Jd _ _).frozen (by simp;omega)),((Jd _ _).frozen (by simp;omega)),((Jd _ _).frozen (by simp;omega)),((Jd _ _).frozen aO)];exact hf) (by simp;omega);have HL:BU (Leaves ⟨b,off,none⟩ W W1):=(((((Leaves.refl _ _).alloc _).alloc _).alloc _).alloc _).after A.out (by simp;omega);have ho:=A.out.cell;have aH:=A.out.frozen;have fz:=A.out.cellOf (q:=⟨W.heap.size,0,none⟩) (v:=J Y x0) (by simp[go_sem]) (by simp;omega);have kB:=A.out.cellOf (q:=⟨W.heap.size+1,0,none⟩) (v:=J Y y0) (by simp[go_sem]) (by simp);have dt:=A.out.frozenOf (q:=⟨W.heap.size+1+1,0,none⟩) (v:=J Y 0) (by simp[go_sem]) (by simp[go_sem]) (by simp);have bN:=A.out.cellOf (q:=⟨W.heap.size+1+1,0,none⟩) (v:=J Y 0) (by simp[go_sem]) (by simp);have fA:=A.out.cellOf (q:=⟨W.heap.size,1,none⟩) (v:=J Y x1) (by simp[go_sem]) (by simp;omega);have kC:=A.out.cellOf (q:=⟨W.heap.size+1,1,none⟩) (v:=J Y y1) (by simp[go_sem]) (by simp);have du:=A.out.frozenOf (q:=⟨W.heap.size+1+1,1,none⟩) (v:=J Y 0) (by simp[go_sem]) (by simp[go_sem]) (by simp);have bO:=A.out.cellOf (q:=⟨W.heap.size+1+1,1,none⟩) (v:=J Y 0) (by simp[go_sem]) (by simp);have fB:=A.out.cellOf (q:=⟨W.heap.size,2,none⟩) (v:=J Y x2) (by simp[go_sem]) (by simp;omega);have kD:=A.out.cellOf (q:=⟨W.heap.size+1,2,none⟩) (v:=J Y y2) (by simp[go_sem]) (by simp);have dv:=A.out.frozenOf (q:=⟨W.heap.size+1+1,2,none⟩) (v:=J Y 0) (by simp[go_sem]) (by simp[go_sem]) (by simp);have bP:=A.out.cellOf (q:=⟨W.heap.size+1+1,2,none⟩) (v:=J Y 0) (by simp[go_sem]) (by simp);have hs:=A.out.size;simp only[World.size_alloc]at hs;clear A hc hf;go_wp2_with (fail);obtain⟨U,hU⟩:∃ U,U=W1.alloc (BP #[J Y ((sub 0 y0).getD 0),J Y ((sub 0 y1).getD 0),J Y ((sub 0 y2).getD 0)] 27):=⟨_,rfl⟩
 obtain⟨pm,cS⟩:∃ p,p=W1.heap.size:=⟨_,rfl⟩
 have hb:=Jd W1 (BP #[J Y ((sub 0 y0).getD 0),J Y ((sub 0 y1).getD 0),J Y ((sub 0 y2).getD 0)] 27);rw[<- hU]at hb;have pV:U.heap.size=pm+1:=by rw[hU,cS];simp
 have nQ:U.cell? ⟨pm,0,none⟩=some (J Y ((sub 0 y0).getD 0)):=by rw[hU,cS];simp
 have nR:U.cell? ⟨pm,1,none⟩=some (J Y ((sub 0 y1).getD 0)):=by rw[hU,cS];simp
 have nS:U.cell? ⟨pm,2,none⟩=some (J Y ((sub 0 y2).getD 0)):=by rw[hU,cS];simp
 rw[<- hU,<- cS];rw[<- cS]at hs;replace HL:BU (Leaves ⟨b,off,none⟩ W U):=by show Leaves _ _ _;rw[hU];exact HL.out.alloc _
 replace bg:=Jg hb hp bg;replace hp:=Jf hb hp;replace aH:=Jg hb ho aH;replace ho:=Jf hb ho;replace fz:=Jf hb fz;replace kB:=Jf hb kB;replace dt:=Jg hb bN dt;replace bN:=Jf hb bN;replace fA:=Jf hb fA;replace kC:=Jf hb kC;replace du:=Jg hb bO du;replace bO:=Jf hb bO;replace fB:=Jf hb fB;replace kD:=Jf hb kD;replace dv:=Jg hb bP dv;replace bP:=Jf hb bP;clear hU cS hb;obtain⟨pa,aU⟩:∃ p,p=W.heap.size:=⟨_,rfl⟩
 obtain⟨pb,aF⟩:∃ p,p=W.heap.size+1:=⟨_,rfl⟩
 obtain⟨pr,aB⟩:∃ p,p=W.heap.size+1+1:=⟨_,rfl⟩
 obtain⟨po,aV⟩:∃ p,p=W.heap.size+1+1+1:=⟨_,rfl⟩
 rw[<- aV,<- aB,<- aF];rw[<- aV]at ho aH;rw[<- aB]at bN bO bP dt du dv;rw[<- aF]at kB kC kD;rw[<- aU]at fz fA fB;have q0:W.heap.size<=pa:=by omega
 have q1:pa<pb:=by omega
 have q2:pb<pr:=by omega
 have q3:pr<po:=by omega
 have q4:po<pm:=by omega
 rw[<- aU];clear aU aF aB aV hs;have hπ:(J5 b off f g0 pa pb pr po pm x0 x1 x2 y0 y1 y2 W U).Good:=by
  refine Jgm ?_ ?_ ?_ ?_ ?_ ?_ ?_ (Ji8 b off f g0 pa pb pr po pm x0 x1 x2 y0 y1 y2 W U).1 (Ji8 b off f g0 pa pb pr po pm x0 x1 x2 y0 y1 y2 W U).2
  ·show W.heap.size<=pr;omega
  ·show pr<U.heap.size;omega
  ·exact Or.inr (by show W.heap.size<=po;omega)
  ·show po<U.heap.size;omega
  ·show po≠pr;omega
  ·show b<W.heap.size;omega
  ·intro c hc;simp only[J5,List.mem_cons,List.not_mem_nil,or_false]at hc;rcases hc with rfl | rfl | rfl | rfl | rfl | rfl | rfl | rfl | rfl <;> (show _<U.heap.size/\_≠po/\_≠b/\_≠pr) <;> (dsimp only) <;> omega
 refine region_by (Jl (Jde b off f g0 pa pb pr po pm x0 x1 x2 y0 y1 y2 W U)) (Glob (J5 b off f g0 pa pb pr po pm x0 x1 x2 y0 y1 y2 W U)) (by kernel_rfl) (by kernel_rfl) (by kernel_rfl) (by kernel_rfl) (fun _=>0) ?_ ?_ ?_
 ·refine⟨?_,?_,?_,?_,?_,?_,(fun _ _ h=>by cases h),(fun _ _ _ _ h=>by cases h)⟩
  ·exact HL.out.drew
  ·exact Nat.le_refl _
  ·exact⟨g0,ho,aH,fun h=>by show Jan b off f g0 pa pb pr po pm x0 x1 x2 y0 y1 y2 W U=true;simp[Jan,h],fun h=>h,fun _ _ h=>by cases h⟩
  ·refine Or.inr ⟨?_,bg⟩
   show U.cell? ⟨b,off,none⟩=some (BT (f ||(false&&Jan b off f g0 pa pb pr po pm x0 x1 x2 y0 y1 y2 W U)))
   rw[Bool.false_and,Bool.or_false];exact hp
  ·refine⟨[J Y 0,J Y 0,J Y 0],rfl,?_,fun h=>by cases h⟩;intro k v hk
   match k,hk with
   | 0,hk=>simp at hk;subst hk;exact⟨bN,dt⟩
   | 1,hk=>simp at hk;subst hk;exact⟨bO,du⟩
   | 2,hk=>simp at hk;subst hk;exact⟨bP,dv⟩
  ·intro c hc;simp only[J5,List.mem_cons,List.not_mem_nil,or_false]at hc;rcases hc with rfl | rfl | rfl | rfl | rfl | rfl | rfl | rfl | rfl <;> assumption
 ·generalize hD:Jam _=D;generalize hA:Jai _=A;generalize hZ:Act.mk _ _=Z;have d0:D 0=some 13:=by rw[<- hD];rfl
  have d1:D 1=some 14:=by rw[<- hD];rfl
  have d2:D 2=some 15:=by rw[<- hD];rfl
  have d3:D 3=some 16:=by rw[<- hD];rfl
  have d4:D 4=some 17:=by rw[<- hD];rfl
  have d5:D 5=some 18:=by rw[<- hD];rfl
  have d6:D 6=some 19:=by rw[<- hD];rfl
  have d7:D 7=some 20:=by rw[<- hD];rfl
  have d8:D 8=some 21:=by rw[<- hD];rfl
  have d9:D 9=some 22:=by rw[<- hD];rfl
  have ik:D 10=some 23:=by rw[<- hD];rfl
  have nK:D 11=some 24:=by rw[<- hD];rfl
  have il:D 12=some 25:=by rw[<- hD];rfl
  have ut:D 13=some 26:=by rw[<- hD];rfl
  have uu:D 14=some 27:=by rw[<- hD];rfl
  have d15:D 15=some 28:=by rw[<- hD];rfl
  have d16:D 16=some 29:=by rw[<- hD];rfl
  have d17:D 17=some 30:=by rw[<- hD];rfl
  have d18:D 18=some 31:=by rw[<- hD];rfl
  have d19:D 19=some 32:=by rw[<- hD];rfl
  have d20:D 20=some 33:=by rw[<- hD];rfl
  have d21:D 21=some 34:=by rw[<- hD];rfl
  have yI:D 22=some 35:=by rw[<- hD];rfl
  have yJ:D 23=some 36:=by rw[<- hD];rfl
  have d24:D 24=some 37:=by rw[<- hD];rfl
  have d25:D 25=some 38:=by rw[<- hD];rfl
  have d26:D 26=some 39:=by rw[<- hD];rfl
  have d27:D 27=some 40:=by rw[<- hD];rfl
  have d28:D 28=some 41:=by rw[<- hD];rfl
  have d29:D 29=some 42:=by rw[<- hD];rfl
  have d30:D 30=some 43:=by rw[<- hD];rfl
  have d31:D 31=some 44:=by rw[<- hD];rfl
  have d32:D 32=some 45:=by rw[<- hD];rfl
  have yK:D 33=some 46:=by rw[<- hD];rfl
  have uC:D 34=some 47:=by rw[<- hD];rfl
  have uD:D 35=some 48:=by rw[<- hD];rfl
  have R0:∀(γ:Nat->Nat) (L:Nat->Bool) (a:Cf) (w:BV),Held D A (Jl (Jde b off f g0 pa pb pr po pm x0 x1 x2 y0 y1 y2 W U)) (Glob (J5 b off f g0 pa pb pr po pm x0 x1 x2 y0 y1 y2 W U)) Z γ L a w->a.tmps[0]?=some (BO (some ⟨b,off,none⟩)):=fun γ L a w hH=>(hH.rest 0 (by rw[<- hD];exact J6 (by kernel_rfl))).trans (by rw[<- hZ];rfl);have R4:∀(γ:Nat->Nat) (L:Nat->Bool) (a:Cf) (w:BV),Held D A (Jl (Jde b off f g0 pa pb pr po pm x0 x1 x2 y0 y1 y2 W U)) (Glob (J5 b off f g0 pa pb pr po pm x0 x1 x2 y0 y1 y2 W U)) Z γ L a w->a.tmps[4]?=some (BO (some ⟨pa,0,none⟩)):=fun γ L a w hH=>(hH.rest 4 (by rw[<- hD];exact J6 (by kernel_rfl))).trans (by rw[<- hZ];rfl);have R5:∀(γ:Nat->Nat) (L:Nat->Bool) (a:Cf) (w:BV),Held D A (Jl (Jde b off f g0 pa pb pr po pm x0 x1 x2 y0 y1 y2 W U)) (Glob (J5 b off f g0 pa pb pr po pm x0 x1 x2 y0 y1 y2 W U)) Z γ L a w->a.tmps[5]?=some (BO (some ⟨pb,0,none⟩)):=fun γ L a w hH=>(hH.rest 5 (by rw[<- hD];exact J6 (by kernel_rfl))).trans (by rw[<- hZ];rfl);have R6:∀(γ:Nat->Nat) (L:Nat->Bool) (a:Cf) (w:BV),Held D A (Jl (Jde b off f g0 pa pb pr po pm x0 x1 x2 y0 y1 y2 W U)) (Glob (J5 b off f g0 pa pb pr po pm x0 x1 x2 y0 y1 y2 W U)) Z γ L a w->a.tmps[6]?=some (BO (some ⟨pr,0,none⟩)):=fun γ L a w hH=>(hH.rest 6 (by rw[<- hD];exact J6 (by kernel_rfl))).trans (by rw[<- hZ];rfl);have R7:∀(γ:Nat->Nat) (L:Nat->Bool) (a:Cf) (w:BV),Held D A (Jl (Jde b off f g0 pa pb pr po pm x0 x1 x2 y0 y1 y2 W U)) (Glob (J5 b off f g0 pa pb pr po pm x0 x1 x2 y0 y1 y2 W U)) Z γ L a w->a.tmps[7]?=some (BO (some ⟨po,0,none⟩)):=fun γ L a w hH=>(hH.rest 7 (by rw[<- hD];exact J6 (by kernel_rfl))).trans (by rw[<- hZ];rfl);have R8:∀(γ:Nat->Nat) (L:Nat->Bool) (a:Cf) (w:BV),Held D A (Jl (Jde b off f g0 pa pb pr po pm x0 x1 x2 y0 y1 y2 W U)) (Glob (J5 b off f g0 pa pb pr po pm x0 x1 x2 y0 y1 y2 W U)) Z γ L a w->a.tmps[8]?=some (BO (some ⟨pm,0,none⟩)):=fun γ L a w hH=>(hH.rest 8 (by rw[<- hD];exact J6 (by kernel_rfl))).trans (by rw[<- hZ];rfl);have lV:A 34 11:=by rw[<- hA];exact⟨_,rfl,⟨11,.data⟩,by simp,rfl,rfl⟩
  have lW:A 34 22:=by rw[<- hA];exact⟨_,rfl,⟨22,.data⟩,by simp,rfl,rfl⟩
  have lX:A 34 33:=by rw[<- hA];exact⟨_,rfl,⟨33,.data⟩,by simp,rfl,rfl⟩
  clear hD hA hZ;have CN:=Jss b off f g0 pa pb pr po pm x0 x1 x2 y0 y1 y2 W U;have MN:=Jru b off f g0 pa pb pr po pm x0 x1 x2 y0 y1 y2 W U
  iterate 37 first
   |(refine tc (tA rfl (by assumption) rfl rfl fun a w x=>by first | exact xQ0 rfl x | exact xQ1 rfl x | exact xQ2 rfl x | exact xQ3 rfl x | exact xV0 rfl x | exact xV1 rfl x | exact xV2 rfl x) ?_)
   |(refine tc (tM rfl (by assumption) rfl rfl fun a w x=>by simp[JD,go_sem,x]) ?_)
   |(refine tc (tL rfl (by assumption) (by simp) rfl rfl rfl (by repeat first | exact .head _ | refine .tail _ ?_)) ?_)
   |(refine tc (tB rfl (by assumption) (by assumption) (by simp) (by simp) rfl rfl rfl rfl (by repeat first | exact .head _ | refine .tail _ ?_) MN) ?_)
   |(refine tc (tD hπ rfl (by assumption) (by assumption) (by assumption) (by simp) (by simp) rfl rfl rfl rfl (by repeat first | exact .head _ | refine .tail _ ?_) (by repeat first | exact .head _ | refine .tail _ ?_) (by repeat first | exact .head _ | refine .tail _ ?_) CN (Jhm po)) ?_)
   |(refine AllDo.cons 34 rfl (J2 _ rfl rfl (fun γ L a w hH hA=>by have e1:=hH.at nK rfl (hA ⟨11,.data⟩ (by simp) rfl);have e2:=hH.at yI rfl (hA ⟨22,.data⟩ (by simp) rfl);have e3:=hH.at yK rfl (hA ⟨33,.data⟩ (by simp) rfl);simp[JD,go_sem,e1,e2,e3])) ?_)
   |(refine AllDo.cons 35 rfl (Jfr hπ _ rfl (fun e=>by have e2:po=b:=congrArg Addr.block e;omega) (by simp[J5]) (by simp[J5]) (by simp[J5]) rfl (fun L dl bA c hc=>by have sS:L 34=true:=bA ⟨34,.data⟩ (by simp) rfl;have L11:L 11=true:=dl 34 11 lV sS;have L22:L 22=true:=dl 34 22 lW sS;have L33:L 33=true:=dl 34 33 lX sS;simp only[J5,List.mem_cons,List.not_mem_nil,or_false]at hc;rcases hc with rfl | rfl | rfl;all_goals assumption) (fun γ L a w hH hA hb hp bg=>by have e1:=hH.at d0 rfl (hA ⟨0,.data⟩ (by simp) rfl);have e2:=R7 γ L a w hH;have e3:=hH.at uC rfl (hA ⟨34,.data⟩ (by simp) rfl);exact⟨122,#[BO (some ⟨b,off,none⟩),BO (some ⟨po,0,none⟩),B_ #[J Y ((dot [x1,x2] [y2,(sub 0 y1).getD 0]).getD 0),J Y ((dot [x2,x0] [y0,(sub 0 y2).getD 0]).getD 0),J Y ((dot [x0,x1] [y1,(sub 0 y0).getD 0]).getD 0)]],by simp[go_sem,e1,e2,e3],(Jfs b off po f (Jan b off f g0 pa pb pr po pm x0 x1 x2 y0 y1 y2 W U) ((dot [x1,x2] [y2,(sub 0 y1).getD 0]).getD 0) ((dot [x2,x0] [y0,(sub 0 y2).getD 0]).getD 0) ((dot [x0,x1] [y1,(sub 0 y0).getD 0]).getD 0) w hp bg hb).mono (by rintro e W1 ⟨rfl,Z⟩;exact⟨rfl,Z.out⟩)⟩)) ?_)
   |(refine AllDo.cons 36 rfl (does_store hπ (by simp[J5]) rfl rfl (by simp[J5]) (by simp[J5]) (by simp[J5]) (fun γ L a w hH hA cs hl hh=>by have e1:=R6 γ L a w hH;have e2:=hH.at uD rfl (hA ⟨35,.data⟩ (by simp) rfl);obtain⟨u0,u1,u2,rfl⟩:=Jso hl;have fk:w.cell? ⟨pr,0,none⟩=some u0/\w.frozen? ⟨pr,0,none⟩=false:=hh 0 u0 rfl;have fm:w.cell? ⟨pr,1,none⟩=some u1/\w.frozen? ⟨pr,1,none⟩=false:=hh 1 u1 rfl;have fp:w.cell? ⟨pr,2,none⟩=some u2/\w.frozen? ⟨pr,2,none⟩=false:=hh 2 u2 rfl;exact⟨(((w.setCell ⟨pr,0,none⟩ (J Y (cond (Jan b off f g0 pa pb pr po pm x0 x1 x2 y0 y1 y2 W U) 0 ((dot [x1,x2] [y2,(sub 0 y1).getD 0]).getD 0)))).setCell ⟨pr,1,none⟩ (J Y (cond (Jan b off f g0 pa pb pr po pm x0 x1 x2 y0 y1 y2 W U) 0 ((dot [x2,x0] [y0,(sub 0 y2).getD 0]).getD 0)))).setCell ⟨pr,2,none⟩ (J Y (cond (Jan b off f g0 pa pb pr po pm x0 x1 x2 y0 y1 y2 W U) 0 ((dot [x0,x1] [y1,(sub 0 y0).getD 0]).getD 0)))),by simp[JD,go_sem,e1,e2,fk.1,fk.2,fm.1,fm.2,fp.1,fp.2],((((Only.refl _ _).set 0 _).set 1 _).set 2 _),Jn6 hh⟩)) ?_)
  exact AllDo.nil
 ·intro γ a w L hL dU hH;have hL':∀ j,j<37->L j=true:=fun j hj=>hL j hj;have hG:=hH.glob;have nN:a.defers = []:=hH.defers.trans rfl;have hs:a.tmps[6]?=some (BO (some ⟨pr,0,none⟩)):=(hH.rest 6 (J6 (by kernel_rfl))).trans rfl;obtain⟨cs,c1,c2,c3⟩:=hG.res;obtain rfl:=c3 (hL' 36 (by omega));have eI:=hG.outer.resolve_left (fun e=>by have e2:po=b:=congrArg Addr.block e;omega);have hA:BU (After ⟨b,off,none⟩ (f||Jan b off f g0 pa pb pr po pm x0 x1 x2 y0 y1 y2 W U) W w):=by
   have e:=eI.1;rw[show(J5 b off f g0 pa pb pr po pm x0 x1 x2 y0 y1 y2 W U).tl=35 from rfl,hL' 35 (by omega),Bool.true_and]at e;exact hG.leaves.done e eI.2
  have r0:w.cell? ⟨pr,0,none⟩=some (J Y (cond (Jan b off f g0 pa pb pr po pm x0 x1 x2 y0 y1 y2 W U) 0 ((dot [x1,x2] [y2,(sub 0 y1).getD 0]).getD 0))):=(c2 0 _ rfl).1;have r1:w.cell? ⟨pr,1,none⟩=some (J Y (cond (Jan b off f g0 pa pb pr po pm x0 x1 x2 y0 y1 y2 W U) 0 ((dot [x2,x0] [y0,(sub 0 y2).getD 0]).getD 0))):=(c2 1 _ rfl).1;have r2:w.cell? ⟨pr,2,none⟩=some (J Y (cond (Jan b off f g0 pa pb pr po pm x0 x1 x2 y0 y1 y2 W U) 0 ((dot [x0,x1] [y1,(sub 0 y0).getD 0]).getD 0))):=(c2 2 _ rfl).1;clear hL dU hL' hH hG c1 c2 c3 eI hπ;go_wp2;refine bodyPost_ret (by simp[results,results106,go_sem,hs,r0,r1,r2];try rfl) nN ?_;exact⟨_,_,_,_,rfl,Ji2 SG.out (by simp[Jan]),hA⟩
theorem Jd3{x n R:Int}(hR:0<=R)(hn:0<=n)(h:x*x+R<(n+1)*(n+1)):-n<=x/\x<=n:=by
 constructor
 ·apply Int.not_lt.1
  intro aG;have:=Int.mul_le_mul (show n+1 <= -x by omega) (show n+1 <= -x by omega) (by omega) (by omega);rw[Int.neg_mul_neg]at this;omega
 ·apply Int.not_lt.1
  intro aG;have:=Int.mul_le_mul (show n+1<=x by omega) (show n+1<=x by omega) (by omega) (by omega);omega
theorem J3(x:Int):0<=x*x:=by
 rcases Int.le_total 0 x with g | g
 ·exact Int.mul_nonneg g g
 ·exact Int.mul_nonneg_of_nonpos_of_nonpos g g
theorem Jp5(b off:Nat)(f:Bool)(m0 m1 m2 m3 m4 m5 m6 m7 m8 x0 x1 x2:Int)(W:BV)(hc:W.cell? ⟨b,off,none⟩=some (BT f))(hf:W.frozen? ⟨b,off,none⟩=false):
  Cd Tryz.prog 101 #[BO (some ⟨b,off,none⟩),B_ #[J Y m0,J Y m1,J Y m2,J Y m3,J Y m4,J Y m5,J Y m6,J Y m7,J Y m8],B_ #[J Y x0,J Y x1,J Y x2]] W fun e W'=>∃ v0 v1 v2 g,e = BZ (B_ #[J Y v0,J Y v1,J Y v2])/\BU (Jco f (dot [m0,m3,m6] [x0,x1,x2]) (dot [m1,m4,m7] [x0,x1,x2]) (dot [m2,m5,m8] [x0,x1,x2]) v0 v1 v2 g)/\BU (After ⟨b,off,none⟩ g W W'):=by
 have aO:b<W.heap.size:=JB _ _ hc;have HC:BU _:=hc;have HF:BU _:=hf;clear hc hf;go_enter func101,ntmps101;go_wp2_with (fail);refine(Jji b off f m0 m3 m6 m1 m4 m7 m2 m5 m8 x0 x1 x2 _ (by rw[World.cell?_alloc_past _ _ _ (by simp;omega),World.cell?_alloc_past _ _ _ (by simp;omega),World.cell?_alloc_past _ _ _ aO];exact HC.out) (by rw[((Jd _ _).frozen (by simp;omega)),((Jd _ _).frozen (by simp;omega)),((Jd _ _).frozen aO)];exact HF.out)).mono ?_;rintro e W1 ⟨v0,v1,v2,g,rfl,S,A⟩;have HL:BU (Leaves ⟨b,off,none⟩ W W1):=((((Leaves.refl _ _).alloc _).alloc _).alloc _).same A.out;have hp:=A.out.cell;have bg:=A.out.frozen;have r0:=A.out.cellOf (q:=⟨W.heap.size+1+1,0,none⟩) (v:=J Y 0) (by simp[go_sem]) (by simp;omega);have r1:=A.out.cellOf (q:=⟨W.heap.size+1+1,1,none⟩) (v:=J Y 0) (by simp[go_sem]) (by simp;omega);have r2:=A.out.cellOf (q:=⟨W.heap.size+1+1,2,none⟩) (v:=J Y 0) (by simp[go_sem]) (by simp;omega);have f0:=A.out.frozenOf (q:=⟨W.heap.size+1+1,0,none⟩) (v:=J Y 0) (by simp[go_sem]) (by simp[go_sem]) (by simp;omega);have f1:=A.out.frozenOf (q:=⟨W.heap.size+1+1,1,none⟩) (v:=J Y 0) (by simp[go_sem]) (by simp[go_sem]) (by simp;omega);have f2:=A.out.frozenOf (q:=⟨W.heap.size+1+1,2,none⟩) (v:=J Y 0) (by simp[go_sem]) (by simp[go_sem]) (by simp;omega);have n1:b≠W.heap.size+1+1:=by omega
 have n2:W.heap.size+1+1≠b:=by omega
 clear A HC HF;go_wp2_with (fail);refine bodyPost_ret (by simp[results,results101,go_sem,r0,r1,r2];try rfl) rfl ?_;refine⟨_,_,_,_,rfl,S,(((HL.out.set (by simp;omega) _).set (by simp;omega) _).set (by simp;omega) _).done ?_ ?_⟩
 ·simp[go_sem,hp]
 ·simp[go_sem,bg]
theorem Jju(b off:Nat)(f:Bool)(x y z u:Int)(W:BV)(hc:W.cell? ⟨b,off,none⟩=some (BT f))(hf:W.frozen? ⟨b,off,none⟩=false):
  Cd Tryz.prog 148 #[BO (some ⟨b,off,none⟩),BQ (some ⟨W.heap.size,0,none⟩) 4 4] (W.alloc (BP #[J Y x,J Y y,J Y z,J Y u] 3)) fun e W'=>∃ v g,e = BZ (J Y v)/\BU (Ja1 f (Jah [x,y,z,u]) v g)/\BU (After ⟨b,off,none⟩ g W W'):=by
 have hb:=Jd W (BP #[J Y x,J Y y,J Y z,J Y u] 3);have hc':=Jf hb hc;have hf':=Jg hb hc hf;have h:=Jlc b off f [x,y,z,u] W.heap.size 0 4 (W.alloc (BP #[J Y x,J Y y,J Y z,J Y u] 3)) hc' hf' (fun k hk=>by
  match k,hk with
  | 0,_=>simp
  | 1,_=>simp
  | 2,_=>simp
  | 3,_=>simp) (by simp)
 exact h.mono fun _ _ ⟨a,h⟩=>⟨_,_,a,⟨rfl,rfl⟩,Jb5 (Ja5 hb h) hc hf⟩
def Jr(q0 q1 q2 q3:Int):Bool:=decide (((Jah [q0,q1,q2,q3]).getD 0)<2147483648) ||((Jw q0 4294967296 ((Jah [q0,q1,q2,q3]).getD 0)).isNone ||(Jw q1 4294967296 ((Jah [q0,q1,q2,q3]).getD 0)).isNone ||(Jw q2 4294967296 ((Jah [q0,q1,q2,q3]).getD 0)).isNone ||(Jw q3 4294967296 ((Jah [q0,q1,q2,q3]).getD 0)).isNone)
theorem Jnq(b off:Nat)(f:Bool)(q0 q1 q2 q3:Int)(W:BV)(hc:W.cell? ⟨b,off,none⟩=some (BT f))(hf:W.frozen? ⟨b,off,none⟩=false):
  Cd Tryz.prog 126 #[BO (some ⟨b,off,none⟩),B_ #[J Y q0,J Y q1,J Y q2,J Y q3]] W fun e W'=>∃ v0 v1 v2 v3 g,e = BZ (B_ #[J Y v0,J Y v1,J Y v2,J Y v3])/\BU (v0=cond (Jr q0 q1 q2 q3) 0 ((Jw q0 4294967296 ((Jah [q0,q1,q2,q3]).getD 0)).getD 0)/\v1=cond (Jr q0 q1 q2 q3) 0 ((Jw q1 4294967296 ((Jah [q0,q1,q2,q3]).getD 0)).getD 0)/\v2=cond (Jr q0 q1 q2 q3) 0 ((Jw q2 4294967296 ((Jah [q0,q1,q2,q3]).getD 0)).getD 0)/\v3=cond (Jr q0 q1 q2 q3) 0 ((Jw q3 4294967296 ((Jah [q0,q1,q2,q3]).getD 0)).getD 0)/\g=(f||Jr q0 q1 q2 q3))/\BU (After ⟨b,off,none⟩ g W W'):=by
 have aO:b<W.heap.size:=JB _ _ hc;have HC:BU _:=hc;have HF:BU _:=hf;clear hc hf;go_enter func126,ntmps126;go_wp2_with (fail);have N:=Jju (W.heap.size+1+1) 0 false q0 q1 q2 q3 (((W.alloc (BP #[J Y q0,J Y q1,J Y q2,J Y q3] 29)).alloc (BP #[J Y 0,J Y 0,J Y 0,J Y 0] 29)).alloc (BP #[BT false] 47)) (by simp[go_sem]) (by simp[go_sem]);simp only[World.size_alloc]at N;refine N.mono ?_;rintro e W1 ⟨nn,g1,rfl,S,A⟩;clear N;have hp:=A.out.cellOf (q:=⟨b,off,none⟩) (v:=BT f) (by rw[World.cell?_alloc_past _ _ _ (by simp;omega),World.cell?_alloc_past _ _ _ (by simp;omega),World.cell?_alloc_past _ _ _ aO];exact HC.out) (by simp;omega);have bg:=A.out.frozenOf (q:=⟨b,off,none⟩) (v:=BT f) (by rw[World.cell?_alloc_past _ _ _ (by simp;omega),World.cell?_alloc_past _ _ _ (by simp;omega),World.cell?_alloc_past _ _ _ aO];exact HC.out) (by rw[((Jd _ _).frozen (by simp;omega)),((Jd _ _).frozen (by simp;omega)),((Jd _ _).frozen aO)];exact HF.out) (by simp;omega);have HL:BU (Leaves ⟨b,off,none⟩ W W1):=((((Leaves.refl _ _).alloc _).alloc _).alloc _).after A.out (by simp;omega);have ho:=A.out.cell;have aH:=A.out.frozen;have k0:=A.out.cellOf (q:=⟨W.heap.size,0,none⟩) (v:=J Y q0) (by simp[go_sem]) (by simp;omega);have f0:=A.out.frozenOf (q:=⟨W.heap.size+1,0,none⟩) (v:=J Y 0) (by simp[go_sem]) (by simp[go_sem]) (by simp);have r0:=A.out.cellOf (q:=⟨W.heap.size+1,0,none⟩) (v:=J Y 0) (by simp[go_sem]) (by simp);have k1:=A.out.cellOf (q:=⟨W.heap.size,1,none⟩) (v:=J Y q1) (by simp[go_sem]) (by simp;omega);have f1:=A.out.frozenOf (q:=⟨W.heap.size+1,1,none⟩) (v:=J Y 0) (by simp[go_sem]) (by simp[go_sem]) (by simp);have r1:=A.out.cellOf (q:=⟨W.heap.size+1,1,none⟩) (v:=J Y 0) (by simp[go_sem]) (by simp);have k2:=A.out.cellOf (q:=⟨W.heap.size,2,none⟩) (v:=J Y q2) (by simp[go_sem]) (by simp;omega);have f2:=A.out.frozenOf (q:=⟨W.heap.size+1,2,none⟩) (v:=J Y 0) (by simp[go_sem]) (by simp[go_sem]) (by simp);have r2:=A.out.cellOf (q:=⟨W.heap.size+1,2,none⟩) (v:=J Y 0) (by simp[go_sem]) (by simp);have k3:=A.out.cellOf (q:=⟨W.heap.size,3,none⟩) (v:=J Y q3) (by simp[go_sem]) (by simp;omega);have f3:=A.out.frozenOf (q:=⟨W.heap.size+1,3,none⟩) (v:=J Y 0) (by simp[go_sem]) (by simp[go_sem]) (by simp);have r3:=A.out.cellOf (q:=⟨W.heap.size+1,3,none⟩) (v:=J Y 0) (by simp[go_sem]) (by simp);have n1:b≠W.heap.size+1:=by omega
 have n2:W.heap.size+1≠b:=by omega
 have n3:W.heap.size+1+1≠b:=by omega
 clear A HC HF;obtain⟨hn,Aw⟩:=S.out;have HN:BU _:=hn;have HG:BU _:=Aw;clear S hn Aw;by_cases oj:nn<2147483648
 ·have fU:BU (Jr q0 q1 q2 q3=true):=by show _=_;unfold Jr;rw[<- HN.out];simp[oj]
  go_wp2_with (fail);refine bodyPost_ret (by simp[results,results126,go_sem,r0,r1,r2,r3];try rfl) rfl ?_;refine⟨0,0,0,0,true,rfl,?_,?_⟩
  ·show _/\_/\_/\_/\_
   rw[fU.out];simp
  ·refine(((((HL.out.own _).set (by simp) _).set (by simp) _).set (by simp) _).set (by simp) _).done ?_ ?_
   ·simp[go_sem,hp]
   ·simp[go_sem,bg]
 ·go_wp2_with (fail);refine(Jjd (W.heap.size+1+1) g1 q0 q1 q2 q3 nn nn nn nn W1 ho aH).mono ?_;rintro e W2 ⟨g2,rfl,SG,A⟩;have bL:BU (Leaves ⟨b,off,none⟩ W W2):=HL.out.after A.out (by simp;omega);have bg:=A.out.frozenOf hp bg (by simp;omega);have hp:=A.out.cellOf hp (by simp;omega);have ho:=A.out.cell;have aH:=A.out.frozen;have f0:=A.out.frozenOf r0 f0 (by simp);have r0:=A.out.cellOf r0 (by simp);have f1:=A.out.frozenOf r1 f1 (by simp);have r1:=A.out.cellOf r1 (by simp);have f2:=A.out.frozenOf r2 f2 (by simp);have r2:=A.out.cellOf r2 (by simp);have f3:=A.out.frozenOf r3 f3 (by simp);have r3:=A.out.cellOf r3 (by simp);clear A HL;go_wp2_with (fail);refine(Jjx b off (W.heap.size+1+1) f g2 _ _ _ _ W2 hp bg ho).mono ?_;rintro e W3 ⟨rfl,A⟩;have cG:BU (Leaves ⟨b,off,none⟩ W W3):=bL.out.same A.out;have hp:=A.out.cell;have bg:=A.out.frozen;have f0:=A.out.frozenOf r0 f0 (by simp;omega);have r0:=A.out.cellOf r0 (by simp;omega);have f1:=A.out.frozenOf r1 f1 (by simp;omega);have r1:=A.out.cellOf r1 (by simp;omega);have f2:=A.out.frozenOf r2 f2 (by simp;omega);have r2:=A.out.cellOf r2 (by simp;omega);have f3:=A.out.frozenOf r3 f3 (by simp;omega);have r3:=A.out.cellOf r3 (by simp;omega);have fU:BU (Jr q0 q1 q2 q3=g2):=by
   show _=_
   have e1:(Jah [q0,q1,q2,q3]).isNone=false:=by
    cases h:Jah [q0,q1,q2,q3] with
    | none=>have:=HN.out;rw[h]at this;exact absurd this (by simp;omega)
    | some v=>rfl
   have e2:g1=false:=by rw[HG.out,e1];rfl
   unfold Jr;rw[<- HN.out,SG.out,e2,decide_eq_false (by omega)]
  clear A bL;go_wp2_with (fail);refine bodyPost_ret (by simp[results,results126,go_sem,r0,r1,r2,r3];try rfl) rfl ?_;refine⟨_,_,_,_,_,rfl,?_,((((cG.out.set (by simp) _).set (by simp) _).set (by simp) _).set (by simp) _).done (g:=f||g2) ?_ ?_⟩
  ·show _/\_/\_/\_/\_
   rw[fU.out,<- HN.out];exact⟨rfl,rfl,rfl,rfl,rfl⟩
  ·simp[go_sem,hp]
  ·simp[go_sem,bg]
namespace WM
theorem mul_in{a b A B:Int}(ha:-A<=a/\a<=A)(hb:-B<=b/\b<=B):-(A*B)<=a*b/\a*b<=A*B:=by
 have h1:=Int.mul_nonneg (show 0<=A-a by omega) (show 0<=B+b by omega);have h2:=Int.mul_nonneg (show 0<=A+a by omega) (show 0<=B-b by omega);have h3:=Int.mul_nonneg (show 0<=A-a by omega) (show 0<=B-b by omega);have h4:=Int.mul_nonneg (show 0<=A+a by omega) (show 0<=B+b by omega);simp only[Int.add_mul,Int.sub_mul,Int.mul_add,Int.mul_sub]at h1 h2 h3 h4;omega
theorem norm4_some{x y z u s:Int}(h:Jah [x,y,z,u]=some s):great x=false/\great y=false/\great z=false/\great u=false/\great s=false/\0<=s/\s*s<=x*x+(y*y+(z*z+u*u))/\x*x+(y*y+(z*z+u*u))<(s+1)*(s+1):=by
 unfold Jah at h
 split at h
 ·simp at h
 ·split at h
  ·simp at h
  ·rename_i ha;unfold Fx.told at h
   split at h
   ·simp at h
   ·rename_i hg;have hg':great _=false:=Bool.eq_false_iff.2 hg;simp only[Option.some.injEq]at h;rw[h]at hg';obtain⟨p,q⟩:=isq_is (Jaf [x,y,z,u] [x,y,z,u]).toNat;have h0:=Jei [x,y,z,u];generalize hr:isq (Jaf [x,y,z,u] [x,y,z,u]).toNat=r at *;have p':=Int.ofNat_le.2 p;have q':=Int.ofNat_lt.2 q;rw[Int.toNat_of_nonneg h0,Int.natCast_mul]at p' q';rw[Int.natCast_add]at q';simp only[Jaf,Int.add_zero]at p' q';simp only[List.any_cons,List.any_nil,Bool.or_false,Bool.not_eq_true,Bool.or_eq_false_iff]at ha;subst h;exact⟨ha.1,ha.2.1,ha.2.2.1,ha.2.2.2,hg',by omega,p',q'⟩
theorem Jpp{x n u t:Int}(hn:0<n)(ht:-t<=x/\x<=t)(htn:t<=n)(hu:u=x*4294967296 / n):-4294967296<=u/\u<=4294967296/\n*n*(u*u)<=18446744073709551616*(x*x)+8589934592*(t*n)+n*n/\18446744073709551616*(x*x)<=n*n*(u*u)+8589934592*(t*n):=by
 have hd:=Jff (x*4294967296) n (by omega);rw[<- hu]at hd;obtain⟨e,he⟩:∃ e,e=x*4294967296-u*n:=⟨_,rfl⟩
 have e0:0<=e:=by omega
 have e1:e<n:=by have:=hd.2;rw[Int.add_mul]at this;omega
 have un:u*n=x*4294967296-e:=by omega
 have sq:n*n*(u*u)=18446744073709551616*(x*x)-8589934592*(x*e)+e*e:=by
  have:n*n*(u*u)=(u*n)*(u*n):=by grind
  rw[this,un];grind
 have b1:=mul_in (a:=x) (b:=e) (A:=t) (B:=n) ht (by omega);have b3:e*e<=n*n:=Int.mul_le_mul (by omega) (by omega) e0 (by omega);have b4:0<=e*e:=Int.mul_nonneg e0 e0;refine⟨?_,?_,by omega,by omega⟩
 ·apply Int.not_lt.1
  intro aG;have:=Int.mul_le_mul_of_nonneg_right (show u+1 <= -4294967296 by omega) (show 0<=n by omega);have:=hd.2;omega
 ·apply Int.not_lt.1
  intro aG;have:=Int.mul_le_mul_of_nonneg_right (show 4294967297<=u by omega) (show 0<=n by omega);have:=hd.1;omega
theorem Jht(x:Int):∃ t:Int,0<=t/\(-t<=x/\x<=t)/\t*t=x*x/\(t=x\/t = -x):=by
 rcases Int.le_total 0 x with g | g
 ·exact⟨x,g,⟨by omega,by omega⟩,rfl,Or.inl rfl⟩
 ·exact⟨-x,by omega,⟨by omega,by omega⟩,by rw[Int.neg_mul_neg],Or.inr rfl⟩
theorem Jus(a b c d:Int):(a+b+c+d)*(a+b+c+d)<=4*(a*a+(b*b+(c*c+d*d))):=by
 have h1:=J3 (a-b);have h2:=J3 (a-c);have h3:=J3 (a-d);have h4:=J3 (b-c);have h5:=J3 (b-d);have h6:=J3 (c-d);have e:4*(a*a+(b*b+(c*c+d*d)))-(a+b+c+d)*(a+b+c+d)=(a-b)*(a-b)+(a-c)*(a-c)+(a-d)*(a-d)+(b-c)*(b-c)+(b-d)*(b-d)+(c-d)*(c-d):=by grind
 omega
theorem whole_long{x y z s n:Int}(h:Jah [x,y,z,s]=some n)(hn:2147483648<=n):∃ a b c d l,Jw x 4294967296 n=some a/\Jw y 4294967296 n=some b/\Jw z 4294967296 n=some c/\Jw s 4294967296 n=some d/\Jah [a,b,c,d]=some l/\4294967292<=l/\l<=4294967300 /\
  (-4294967296<=a/\a<=4294967296)/\(-4294967296<=b/\b<=4294967296)/\(-4294967296<=c/\c<=4294967296)/\(-4294967296<=d/\d<=4294967296) /\
  -34359738376<=a*a+(b*b+(c*c+d*d))-18446744073709551616/\a*a+(b*b+(c*c+d*d))-18446744073709551616<=34359738376:=by
 obtain⟨gx,gy,gz,gs,gn,n0,h1,h2⟩:=norm4_some h;have px:=J3 x;have py:=J3 y;have pz:=J3 z;have ps:=J3 s;have ix:=Jd3 (x:=x) (R:=y*y+(z*z+s*s)) (by omega) n0 (by omega);have iy:=Jd3 (x:=y) (R:=x*x+(z*z+s*s)) (by omega) n0 (by omega);have iz:=Jd3 (x:=z) (R:=x*x+(y*y+s*s)) (by omega) n0 (by omega);have is:=Jd3 (x:=s) (R:=x*x+(y*y+z*z)) (by omega) n0 (by omega);obtain⟨tx,tx0,tx1,Ax,tK⟩:=Jht x;obtain⟨ty,ty0,ty1,Ay,tN⟩:=Jht y;obtain⟨tz,tz0,tz1,Az,tO⟩:=Jht z;obtain⟨ts,ts0,ts1,AA,tP⟩:=Jht s;have lY:tx<=n:=by clear tN tO tP;omega
 have kJ:ty<=n:=by clear tK tO tP;omega
 have fC:tz<=n:=by clear tK tN tP;omega
 have uN:ts<=n:=by clear tK tN tO;omega
 clear tK tN tO tP;have kx:=Jpp (u:=x*4294967296 / n) (by omega) tx1 lY rfl;have ky:=Jpp (u:=y*4294967296 / n) (by omega) ty1 kJ rfl;have kz:=Jpp (u:=z*4294967296 / n) (by omega) tz1 fC rfl;have ks:=Jpp (u:=s*4294967296 / n) (by omega) ts1 uN rfl;have one:∀ t:Int,great t=false->-4294967296<=t*4294967296 / n/\t*4294967296 / n<=4294967296->Jw t 4294967296 n=some (t*4294967296 / n):=by
  intro t gt hb;have g1:great 4294967296=false:=by decide
  have g2:great (t*4294967296 / n)=false:=(not_great _).2 ⟨Int.le_trans (by omega) hb.1,Int.le_trans hb.2 (by omega)⟩;unfold Jw fl;rw[if_neg (by omega:¬ n=0),gt,g1,gn,if_neg (by omega:¬ n<0)];simp[Fx.told,g2]
 have r0:=one x gx ⟨kx.1,kx.2.1⟩;have r1:=one y gy ⟨ky.1,ky.2.1⟩;have r2:=one z gz ⟨kz.1,kz.2.1⟩;have r3:=one s gs ⟨ks.1,ks.2.1⟩;generalize x*4294967296 / n=a at *;generalize y*4294967296 / n=b at *;generalize z*4294967296 / n=c at *;generalize s*4294967296 / n=d at *;clear one;have ga:great a=false:=(not_great _).2 (by omega);have gb:great b=false:=(not_great _).2 (by omega);have gc:great c=false:=(not_great _).2 (by omega);have gd:great d=false:=(not_great _).2 (by omega);obtain⟨T,hT⟩:∃ T,T=tx+ty+tz+ts:=⟨_,rfl⟩
 have hc:=Jus tx ty tz ts;rw[<- hT,Ax,Ay,Az,AA]at hc;have h3:(n+1)*(n+1)=n*n+2*n+1:=by grind
 have hT1:T<=2*n+1:=by
  apply Int.not_lt.1
  intro aG;have:=Int.mul_le_mul (show 2*(n+1)<=T by omega) (show 2*(n+1)<=T by omega) (by omega) (by omega);have e:2*(n+1)*(2*(n+1))=4*((n+1)*(n+1)):=by grind
  omega
 have hTn:T*n<=(2*n+1)*n:=Int.mul_le_mul_of_nonneg_right hT1 n0;have hTn':T*n=tx*n+ty*n+tz*n+ts*n:=by rw[hT];grind
 have e1:(2*n+1)*n=2*(n*n)+n:=by grind
 have nn:2147483648*n<=n*n:=Int.mul_le_mul_of_nonneg_right hn n0;have np:0<n*n:=Int.mul_pos (by omega) (by omega);obtain⟨S,hS⟩:∃ S,S=a*a+(b*b+(c*c+d*d)):=⟨_,rfl⟩
 have pa:=J3 a;have pb:=J3 b;have pc:=J3 c;have pd:=J3 d;have S0:0<=S:=by omega
 have hnS:n*n*S=n*n*(a*a)+(n*n*(b*b)+(n*n*(c*c)+n*n*(d*d))):=by rw[hS,Int.mul_add,Int.mul_add,Int.mul_add]
 rw[h3]at h2;clear hc Ax Ay Az AA;have up:n*n*S<=n*n*18446744108069289992:=by omega
 have lo:n*n*18446744056529682428<=n*n*S:=by omega
 have up':S<=18446744108069289992:=Int.le_of_mul_le_mul_left up np;have lo':18446744056529682428<=S:=Int.le_of_mul_le_mul_left lo np;have aB:Jaf [a,b,c,d] [a,b,c,d]=S:=by simp only[Jaf,Int.add_zero,hS]
 obtain⟨p,q⟩:=isq_is S.toNat;obtain⟨l,hl⟩:∃ l:Nat,l=isq S.toNat:=⟨_,rfl⟩
 rw[<- hl]at p q;have p':=Int.ofNat_le.2 p;have q':=Int.ofNat_lt.2 q;rw[Int.toNat_of_nonneg S0,Int.natCast_mul]at p' q';rw[Int.natCast_add]at q';have l1:(4294967292:Int)<=l:=by
  apply Int.not_lt.1
  intro aG;have:=Int.mul_le_mul (show(l:Int)+((1:Nat):Int)<=4294967292 by omega) (show(l:Int)+((1:Nat):Int)<=4294967292 by omega) (by omega) (by omega);omega
 have l2:(l:Int)<=4294967300:=by
  apply Int.not_lt.1
  intro aG;have:=Int.mul_le_mul (show(4294967301:Int)<=l by omega) (show(4294967301:Int)<=l by omega) (by omega) (by omega);omega
 refine⟨a,b,c,d,l,r0,r1,r2,r3,?_,l1,l2,⟨kx.1,kx.2.1⟩,⟨ky.1,ky.2.1⟩,⟨kz.1,kz.2.1⟩,⟨ks.1,ks.2.1⟩,by omega,by omega⟩;have gl:great (l:Int)=false:=(not_great _).2 (by omega);unfold Jah;rw[if_neg (by simp),aB,<- hl];simp[ga,gb,gc,gd,Fx.told,gl]
theorem Jhm{a b c d:Int}(ha:-8589934592<=a/\a<=8589934592)(hb:-8589934592<=b/\b<=8589934592)(hc:-4294967296<=c/\c<=4294967296)(hd:-4294967296<=d/\d<=4294967296):
  ∃ r:Int,dot [a,b] [c,d]=some r/\4294967296*r<=a*c+b*d/\a*c+b*d<4294967296*r+4294967296/\-17179869184<=r/\r<=17179869184:=by
 have k1:=mul_in ha hc;have k2:=mul_in hb hd;have hv:=Jff (a*c+b*d) 4294967296 (by omega);have e:Jaf [a,b] [c,d] / 4294967296=(a*c+b*d) / 4294967296:=by simp only[Jaf,Int.add_zero]
 refine⟨(a*c+b*d) / 4294967296,?_,by omega,by omega,by omega,by omega⟩;have g1:[a,b].any great=false:=by simp[(not_great a).2 (by omega),(not_great b).2 (by omega)]
 have g2:[c,d].any great=false:=by simp[(not_great c).2 (by omega),(not_great d).2 (by omega)]
 have g3:great ((a*c+b*d) / 4294967296)=false:=(not_great _).2 (by omega);unfold dot;rw[if_neg (by simp),if_neg (by simp),g1,g2,e];simp[Fx.told,g3]
theorem Jua{q:Int}(h:-4294967296<=q/\q<=4294967296):add q q=some (2*q):=by
 unfold add;rw[(not_great q).2 (by omega),show q+q=2*q by omega];simp[Fx.told,(not_great (2*q)).2 (by omega)]
theorem sub0{q:Int}(h:-4294967296<=q/\q<=4294967296):sub 0 q=some (-q):=by
 unfold sub;rw[(not_great q).2 (by omega),show(0:Int)-q = -q by omega,(not_great 0).2 (by omega)];simp[Fx.told,(not_great (-q)).2 (by omega)]
theorem Jvw{q:Int}(h:-17179869184<=q/\q<=17179869184):sub 4294967296 q=some (4294967296-q):=by
 unfold sub;rw[(not_great q).2 (by omega),(not_great 4294967296).2 (by omega)];simp[Fx.told,(not_great (4294967296-q)).2 (by omega)]
def Jha(m R:Int):Prop:=(-4294967296<=4294967296*m-R/\4294967296*m-R<=4294967296)/\(-36893488147419103232<=R/\R<=36893488147419103232)/\(-8589934592<=m/\m<=8589934592)
theorem Jd5{r P:Int}(l:4294967296*r<=P)(u:P<4294967296*r+4294967296)(hP:-18446744108069289992<=P/\P<=18446744108069289992):Jha r P:=by
 unfold Jha;omega
theorem Jhz{r P:Int}(l:4294967296*r<=P)(u:P<4294967296*r+4294967296)(hP:0<=P/\P<=36893488216138579984):Jha (4294967296-r) (18446744073709551616-P):=by
 unfold Jha;omega
theorem Jr2{a b:Int}:-(a*a+b*b)<=2*(a*b)/\2*(a*b)<=a*a+b*b:=by
 have h3:=J3 (a+b);have h4:=J3 (a-b);have e3:(a+b)*(a+b)=a*a+b*b+2*(a*b):=by grind
 have e4:(a-b)*(a-b)=a*a+b*b-2*(a*b):=by grind
 omega
theorem Jm5{a b c d M:Int}(h:a*a+b*b+(c*c+d*d)<=M):(-M<=2*(a*b)+2*(c*d)/\2*(a*b)+2*(c*d)<=M)/\(-M<=2*(a*b)+2*(c * -d)/\2*(a*b)+2*(c * -d)<=M):=by
 have h1:=Jr2 (a:=a) (b:=b);have h2:=Jr2 (a:=c) (b:=d);rw[Int.mul_neg];omega
theorem Jna{a b c d M:Int}(h:a*a+b*b+(c*c+d*d)<=M):0<=2*(a*a)+2*(b*b)/\2*(a*a)+2*(b*b)<=2*M:=by
 have h1:=J3 a;have h2:=J3 b;have h3:=J3 c;have h4:=J3 d;omega
theorem neg_in{q:Int}(h:-4294967296<=q/\q<=4294967296):-4294967296 <= -q/\-q<=4294967296:=by omega
theorem Jbx{q:Int}(h:-4294967296<=q/\q<=4294967296):-8589934592<=2*q/\2*q<=8589934592:=by omega
theorem rows_near{w x y z:Int}(hw:-4294967296<=w/\w<=4294967296)(hx:-4294967296<=x/\x<=4294967296)(hy:-4294967296<=y/\y<=4294967296)(hz:-4294967296<=z/\z<=4294967296)
  (h2:w*w+(x*x+(y*y+z*z))-18446744073709551616<=34359738376):J1 w x y z=false /\
  Jha (Jer w x y z) (18446744073709551616-(2*(y*y)+2*(z*z)))/\Jha (Je3 w x y z) (2*(x*y)+2*(w * -z))/\Jha (Je6 w x y z) (2*(x*z)+2*(w*y)) /\
  Jha (Jeu w x y z) (2*(x*y)+2*(w*z))/\Jha (Jeg w x y z) (18446744073709551616-(2*(x*x)+2*(z*z)))/\Jha (Jew w x y z) (2*(y*z)+2*(w * -x)) /\
  Jha (Je2 w x y z) (2*(x*z)+2*(w * -y))/\Jha (Jez w x y z) (2*(y*z)+2*(w*x))/\Jha (Je5 w x y z) (18446744073709551616-(2*(x*x)+2*(y*y))):=by
 have B0:=Jna (a:=y) (b:=z) (c:=w) (d:=x) (M:=18446744108069289992) (by omega);have B1:=Jm5 (a:=x) (b:=y) (c:=w) (d:=z) (M:=18446744108069289992) (by omega);have B2:=Jm5 (a:=x) (b:=z) (c:=w) (d:=y) (M:=18446744108069289992) (by omega);have B4:=Jna (a:=x) (b:=z) (c:=w) (d:=y) (M:=18446744108069289992) (by omega);have B5:=Jm5 (a:=y) (b:=z) (c:=w) (d:=x) (M:=18446744108069289992) (by omega);have B8:=Jna (a:=x) (b:=y) (c:=w) (d:=z) (M:=18446744108069289992) (by omega);obtain⟨r0,d0,l0,u0,k0,j0⟩:=Jhm (Jbx hy) (Jbx hz) hy hz;obtain⟨r1,d1,l1,u1,k1,j1⟩:=Jhm (Jbx hx) (Jbx hw) hy (neg_in hz);obtain⟨r2,d2,l2,u2,k2,j2⟩:=Jhm (Jbx hx) (Jbx hw) hz hy;obtain⟨r3,d3,l3,u3,k3,j3⟩:=Jhm (Jbx hx) (Jbx hw) hy hz;obtain⟨r4,d4,l4,u4,k4,j4⟩:=Jhm (Jbx hx) (Jbx hz) hx hz;obtain⟨r5,d5,l5,u5,k5,j5⟩:=Jhm (Jbx hy) (Jbx hw) hz (neg_in hx);obtain⟨r6,d6,l6,u6,k6,j6⟩:=Jhm (Jbx hx) (Jbx hw) hz (neg_in hy);obtain⟨r7,d7,l7,u7,k7,j7⟩:=Jhm (Jbx hy) (Jbx hw) hz hx;obtain⟨r8,d8,l8,u8,k8,j8⟩:=Jhm (Jbx hx) (Jbx hy) hx hy;simp only[Int.mul_assoc]at l0 u0 l1 u1 l2 u2 l3 u3 l4 u4 l5 u5 l6 u6 l7 u7 l8 u8;unfold J1 Jer Je3 Je6 Jeu Jeg Jew Je2 Jez Je5;simp only[Jua hw,Jua hx,Jua hy,Jua hz,sub0 hw,sub0 hx,sub0 hy,sub0 hz,Option.getD_some,Option.isNone_some,d0,d1,d2,d3,d4,d5,d6,d7,d8,Jvw ⟨k0,j0⟩,Jvw ⟨k4,j4⟩,Jvw ⟨k8,j8⟩];exact⟨by simp,Jhz l0 u0 B0,Jd5 l1 u1 B1.2,Jd5 l2 u2 B2.1,Jd5 l3 u3 B1.1,Jhz l4 u4 B4,Jd5 l5 u5 B5.2,Jd5 l6 u6 B2.2,Jd5 l7 u7 B5.1,Jhz l8 u8 B8⟩
end WM
end
section
open Go.RowKit Fx
namespace WM
def Whole(w x y z:Int):Prop:=(-4294967296<=w/\w<=4294967296)/\(-4294967296<=x/\x<=4294967296)/\(-4294967296<=y/\y<=4294967296)/\(-4294967296<=z/\z<=4294967296) /\
  -34359738376<=w*w+(x*x+(y*y+z*z))-18446744073709551616/\w*w+(x*x+(y*y+z*z))-18446744073709551616<=34359738376
end WM
end
section
open Go.RowKit Fx
structure M9.Fit(m:M9):Prop where
 h0:-8589934592<=m.a0/\m.a0<=8589934592
 h1:-8589934592<=m.a1/\m.a1<=8589934592
 h2:-8589934592<=m.a2/\m.a2<=8589934592
 h3:-8589934592<=m.a3/\m.a3<=8589934592
 h4:-8589934592<=m.a4/\m.a4<=8589934592
 h5:-8589934592<=m.a5/\m.a5<=8589934592
 h6:-8589934592<=m.a6/\m.a6<=8589934592
 h7:-8589934592<=m.a7/\m.a7<=8589934592
 h8:-8589934592<=m.a8/\m.a8<=8589934592
end
section
open Go.RowKit Go.Shelf
def Jbq(c n:Int):Int:=(if c<0 then -(c+1) else c)%n
theorem Jby(c:Int){n:Int}(hn:0<n):0<=Jbq c n:=Int.emod_nonneg _ (by omega)
theorem Jbz(c:Int){n:Int}(hn:0<n):Jbq c n<n:=Int.emod_lt_of_pos _ hn
theorem Jgq(c n:Int)(w:BV)(hc:-9223372036854775808<=c/\c<=9223372036854775807)(hn:0<n)(hn':n<=9223372036854775807):
  Cd Tryz.prog 79 #[J Y c,J Y n] w fun e w'=>e = BZ (J Y (Jbq c n))/\w'=w:=by
 unfold Jbq;by_cases h:c<0
 ·have hb:0 <= -(c+1):=by omega
  have hb':-(c+1)<=9223372036854775807:=by omega
  have hz:(n == 0)=false:=beq_eq_false_iff_ne.2 (by omega);rw[if_pos h];go_enter func79,ntmps79;go_wp2;go_ret;have e:(c+1).tmod n = -(-(c+1)%n):=by
   rw[<- Int.tmod_eq_emod_of_nonneg hb,Int.neg_tmod,Int.neg_neg]
  exact⟨by rw[e,Int.neg_neg];rfl,rfl⟩
 ·have hz:(n == 0)=false:=beq_eq_false_iff_ne.2 (by omega);rw[if_neg h];go_enter func79,ntmps79;go_wp2;go_ret;exact⟨rfl,rfl⟩
theorem Jge(c n:Int)(w:BV)(hc:-9223372036854775808<=c/\c<=9223372036854775807)(hn:0<n)(hn':n<=9223372036854775807):
  Cd Tryz.prog 79 #[J Y c,J Y n] w fun e w'=>e = BZ (J Y (Jbq c n))/\B9 w.heap.size w w':=
 Calls.mono (Jgq c n w hc hn hn') (by rintro e w2 ⟨rfl,rfl⟩;exact⟨rfl,Below.refl _ _⟩)
theorem Jwf{cs:Array B7}(h:cs.size=6):∃ a b c d e f,cs = #[a,b,c,d,e,f]:=by
 obtain⟨l⟩:=cs
 match l,h with
 | [a,b,c,d,e,f],_=>exact⟨a,b,c,d,e,f,rfl⟩
end
end Go.Proofs.YtkblcfgamnmbkaaGreat
