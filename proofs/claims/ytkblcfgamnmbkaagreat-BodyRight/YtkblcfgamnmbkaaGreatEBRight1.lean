/- Which shapes may be: formed, Check. -/
import Derived.Test.YtkblcfgamnmbkaaGreatEBRight0
import Derived.Lib.BufferMore
import Derived.Test.YtkblcfgamnmbkaaGreatProg
import Derived.WalkKit
import Derived.Laws.MathBits
import Derived.Laws.Externs
import Derived.Handy
import Derived.Laws.BitsAllLaws
import Derived.WalkLawsBesides
import Derived.Deep.RegionWith
set_option maxHeartbeats 4000000
set_option maxRecDepth 100000
set_option linter.unusedVariables false
namespace Go.Proofs.YtkblcfgamnmbkaaGreat
open Go.Calls renaming mono -> JA
open Go.World renaming block_lt_of_cell? -> JB
open Go.Proofs.Tryz
open Go.Value renaming int -> J
open Go.IntKind renaming i64 -> I
open Go.Value renaming pointer -> BO
open Go.Obj renaming cells -> BP
open Go.Value renaming slice -> BQ
open Go.Value renaming bool -> BT
open Go.RowKit renaming Hid -> BU
open Go renaming World -> BV
open Go.Ending renaming returned -> BZ
open Go renaming Value -> B7
open Go.RowKit renaming Below -> B9
open Go.Value renaming agg -> B_
open Go renaming Calls -> Cd
open Go renaming Addr -> Ce
section
open Go.RowKit Go.Shelf
structure Sh where
 kind:Int
 radius:Int
 half:Pt
 pts:List Pt
def Sh.v(s:Sh)(pv:B7):B7:=B_ #[J I s.kind,J I s.radius,J I s.half.x,J I s.half.y,J I s.half.z,pv]
def inR(n a b:Int):Bool:=decide (a<=n/\n<=b)
def Jbs(s:Sh):Bool:=
 if s.kind=1 then inR s.radius 1 16384
 else if s.kind=2 then inR s.radius 1 16384&&Jaa s.half.x
 else if s.kind=3 then inR s.radius 0 16384&&(Jaa s.half.x&&(Jaa s.half.y&&Jaa s.half.z))
 else if s.kind=4 then inR s.radius 0 16384&&Jcw s.pts
 else false
def J9(s:Sh):Int:=if Jbs s then (if s.kind=4/\Jee s.pts=true then 51 else 0) else 50
theorem Jca(n a b:Int)(w:BV)(t:Bool)(h:inR n a b=t):
  Cd Tryz.prog 149 #[J I n,J I a,J I b] w fun e w'=>e = BZ (BT t)/\w'=w:=by
 subst h;exact Jlj n a b w
theorem Jt9(n:Int)(w:BV):Cd Tryz.prog 150 #[BQ (some ⟨w.heap.size,0,none⟩) 1 1] (w.alloc (BP #[J I n] 3)) fun e W=>e = BZ (BT (Jaa n))/\W=w.alloc (BP #[J I n] 3):=by
 have h:=Jio [n] w.heap.size (w.alloc (BP #[J I n] 3)) (fun i hi=>by
  match i,hi with
  | 0,_=>simp) (by simp)
 simpa using h
theorem Jup(x y z:Int)(w:BV):Cd Tryz.prog 150 #[BQ (some ⟨w.heap.size,0,none⟩) 3 3] (w.alloc (BP #[J I x,J I y,J I z] 3)) fun e W=>e = BZ (BT (Jaa x&&(Jaa y&&Jaa z)))/\W=w.alloc (BP #[J I x,J I y,J I z] 3):=by
 have h:=Jio [x,y,z] w.heap.size (w.alloc (BP #[J I x,J I y,J I z] 3)) (fun i hi=>by
  match i,hi with
  | 0,_=>simp
  | 1,_=>simp
  | 2,_=>simp) (by simp)
 simpa using h
theorem Jn0(s:Sh)(pv:B7)(w:BV)(hv:Lies w pv s.pts):
  Cd Tryz.prog 91 #[s.v pv] w fun e W=>e = BZ (BT (Jbs s))/\B9 w.heap.size w W:=by
 obtain⟨k,r,⟨hx,hy,hz⟩,L⟩:=s;have HF:BU (Jbs ⟨k,r,⟨hx,hy,hz⟩,L⟩=if k=1 then inR r 1 16384 else if k=2 then inR r 1 16384&&Jaa hx else if k=3 then inR r 0 16384&&(Jaa hx&&(Jaa hy&&Jaa hz)) else if k=4 then inR r 0 16384&&Jcw L else false):=rfl;generalize Jbs ⟨k,r,⟨hx,hy,hz⟩,L⟩=F at *;have hB:BU (B9 w.heap.size w (w.alloc (BP #[J I k,J I r,J I hx,J I hy,J I hz,pv] 37))):=Jb w _;have HP:BU _:=Jhn pv L (w.alloc (BP #[J I k,J I r,J I hx,J I hy,J I hz,pv] 37)) (hv.below (Jb w _));have H1:BU _:=Jt9 hx (w.alloc (BP #[J I k,J I r,J I hx,J I hy,J I hz,pv] 37));have H3:BU _:=Jup hx hy hz (w.alloc (BP #[J I k,J I r,J I hx,J I hy,J I hz,pv] 37));obtain⟨o,c,rfl,fE,fF,_⟩:=hv.form;dsimp only at fE fF HP H1 H3 hB ⊢;clear hv;rw[World.size_alloc]at H1 H3;unfold Sh.v;dsimp only;by_cases k1:k=1
 ·subst k1;have e:F=inR r 1 16384:=HF.out;subst e;generalize hb:inR r 1 16384=t;go_enter func91,ntmps91;go_wp2_with (go_at_call 149;refine(Jca _ _ _ _ t hb).mono ?_;rintro e w' ⟨rfl,rfl⟩);go_ret;exact⟨rfl,hB.out⟩
 by_cases k2:k=2
 ·subst k2;have e:F=(inR r 1 16384&&Jaa hx):=HF.out;cases hb:inR r 1 16384 with
  | false =>
   rw[hb]at e;subst e;go_enter func91,ntmps91;go_wp2_with (go_at_call 149;refine(Jca _ _ _ _ false hb).mono ?_;rintro e w' ⟨rfl,rfl⟩);go_ret;exact⟨rfl,hB.out⟩
  | true =>
   rw[hb]at e;subst e;generalize Jaa hx=t at *;go_enter func91,ntmps91;go_wp2_with (first |(go_at_call 149;refine(Jca _ _ _ _ true hb).mono ?_;rintro e w' ⟨rfl,rfl⟩) |(go_at_call 150;refine JA H1.out ?_;rintro e w' ⟨rfl,rfl⟩));go_ret;exact⟨by simp,Jc hB.out (Jb _ _)⟩
 by_cases k3:k=3
 ·subst k3;have e:F=(inR r 0 16384&&(Jaa hx&&(Jaa hy&&Jaa hz))):=HF.out;cases hb:inR r 0 16384 with
  | false =>
   rw[hb]at e;subst e;go_enter func91,ntmps91;go_wp2_with (go_at_call 149;refine(Jca _ _ _ _ false hb).mono ?_;rintro e w' ⟨rfl,rfl⟩);go_ret;exact⟨rfl,hB.out⟩
  | true =>
   rw[hb]at e;generalize(Jaa hx&&(Jaa hy&&Jaa hz))=t at *;subst e;go_enter func91,ntmps91;go_wp2_with (first |(go_at_call 149;refine(Jca _ _ _ _ true hb).mono ?_;rintro e w' ⟨rfl,rfl⟩) |(go_at_call 150;refine JA H3.out ?_;rintro e w' ⟨rfl,rfl⟩));go_ret;exact⟨by simp,Jc hB.out (Jb _ _)⟩
 by_cases k4:k=4
 ·subst k4;have e:F=(inR r 0 16384&&Jcw L):=HF.out;cases hb:inR r 0 16384 with
  | false =>
   rw[hb]at e;subst e;go_enter func91,ntmps91;go_wp2_with (go_at_call 149;refine(Jca _ _ _ _ false hb).mono ?_;rintro e w' ⟨rfl,rfl⟩);go_ret;exact⟨rfl,hB.out⟩
  | true =>
   rw[hb]at e;generalize Jcw L=t at *;subst e;go_enter func91,ntmps91;go_wp2_with (first |(go_at_call 149;refine(Jca _ _ _ _ true hb).mono ?_;rintro e w' ⟨rfl,rfl⟩) |(go_at_call 151;refine JA HP.out ?_;rintro e V ⟨rfl,aj⟩));go_ret;exact⟨by simp,Jc hB.out aj⟩
 ·have e:F=false:=by rw[HF.out,if_neg k1,if_neg k2,if_neg k3,if_neg k4]
  subst e;go_enter func91,ntmps91;go_wp2;go_ret;exact⟨rfl,hB.out⟩
theorem Jft{L:List Pt}(h:Jcw L=true):4<=L.length/\L.length<=12/\(∀ p∈L,p.inB 65536=true)/\L.Nodup:=by
 unfold Jcw at h;simp only[Bool.and_eq_true,decide_eq_true_eq,List.all_eq_true]at h;exact⟨h.1.1,h.1.2,h.2.1,h.2.2⟩
theorem Jj4{s:Sh}(h:Jbs s=true)(k:s.kind=4):Jcw s.pts=true:=by
 unfold Jbs at h;rw[if_neg (by omega),if_neg (by omega),if_neg (by omega),if_pos k,Bool.and_eq_true]at h;exact h.2
theorem Jq3(s:Sh)(pv:B7)(w:BV)(hv:Lies w pv s.pts):
  Cd Tryz.prog 32 #[s.v pv] w fun e W=>e = BZ (J I (J9 s))/\B9 w.heap.size w W:=by
 have hB:BU (B9 w.heap.size w (w.alloc (BP #[J I s.kind,J I s.radius,J I s.half.x,J I s.half.y,J I s.half.z,pv] 37))):=Jb w _;have HF:BU _:=Jn0 s pv (w.alloc (BP #[J I s.kind,J I s.radius,J I s.half.x,J I s.half.y,J I s.half.z,pv] 37)) (hv.below hB.out);have HC:BU (J9 s=if Jbs s then (if s.kind=4/\Jee s.pts=true then 51 else 0) else 50):=rfl;have HM:BU (Jbs s=true->s.kind=4->Jcw s.pts=true):=fun a b=>Jj4 a b;generalize J9 s=C at *;have HV:BU _:=hv;obtain⟨o,c,rfl,fE,fF,_⟩:=hv.form;clear hv;generalize Jbs s=F at *;obtain⟨k,r,⟨hx,hy,hz⟩,L⟩:=s;unfold Sh.v at *;dsimp only at *;cases F with
 | false =>
  have e:C=50:=HC.out;subst e;go_enter func32,ntmps32;go_wp2_with (go_at_call 91;refine JA HF.out ?_;rintro e V ⟨rfl,hb⟩);go_ret;exact⟨rfl,Jc hB.out hb⟩
 | true =>
  have c0:(w.alloc (BP #[J I k,J I r,J I hx,J I hy,J I hz,BQ o L.length c] 37)).cell? ⟨w.heap.size,0,none⟩=some (J I k):=by simp
  have c5:(w.alloc (BP #[J I k,J I r,J I hx,J I hy,J I hz,BQ o L.length c] 37)).cell? ⟨w.heap.size,5,none⟩=some (BQ o L.length c):=by simp
  by_cases k4:k=4
  ·subst k4;obtain⟨m1,m2,m3,m4⟩:=Jft (HM.out rfl rfl);have m3:BU _:=m3;have HC:BU (C=if Jee L=true then 51 else 0):=by show _=_;rw[HC.out];simp
   go_enter func32,ntmps32;go_wp2_with (fail);refine JA HF.out ?_;clear HF;rintro e V ⟨rfl,hb⟩;have d0:=Ja hb c0;have d5:=Ja hb c5;have ij:BU _:=Jc hB.out hb;clear hb c0 c5;go_wp2_with (fail);refine JA (Jsb _ L V (HV.out.below ij.out) m1 m2 m3.out) ?_;rintro e V2 ⟨rfl,hb⟩;clear d0 d5;generalize Jee L=fl at *;cases fl with
   | true =>
    have e:C=51:=HC.out;subst e;go_wp2_with (fail);go_ret;exact⟨rfl,Jc ij.out hb⟩
   | false =>
    have e:C=0:=HC.out;subst e;go_wp2_with (fail);go_ret;exact⟨rfl,Jc ij.out hb⟩
  ·have e:C=0:=by rw[HC.out,if_pos rfl,if_neg (fun h=>k4 h.1)]
   subst e;go_enter func32,ntmps32;go_wp2_with (fail);refine JA HF.out ?_;clear HF;rintro e V ⟨rfl,hb⟩;have d0:=Ja hb c0;have ij:BU _:=Jc hB.out hb;clear hb c0 c5;go_wp2_with (fail);go_ret;exact⟨rfl,ij.out⟩
def J4(h:Pt):List Pt:=[⟨-h.x,-h.y,-h.z⟩,⟨-h.x,-h.y,h.z⟩,⟨-h.x,h.y,-h.z⟩,⟨-h.x,h.y,h.z⟩,⟨h.x,-h.y,-h.z⟩,⟨h.x,-h.y,h.z⟩,⟨h.x,h.y,-h.z⟩,⟨h.x,h.y,h.z⟩]
def straightP:List Pt:=[⟨1,0,0⟩,⟨0,1,0⟩,⟨0,0,1⟩]
def Jcn(s:Sh):List Pt:=if s.kind=1 then [Pt.O] else if s.kind=2 then [⟨-s.half.x,0,0⟩,⟨s.half.x,0,0⟩] else if s.kind=3 then J4 s.half else s.pts
def Jo7(s:Sh):List Pt:=if s.kind=3 then straightP else if s.kind=4 then (Jep s.pts).1 else []
def Jkx(s:Sh):List Pt:=if s.kind=2 then [⟨1,0,0⟩] else if s.kind=3 then straightP else if s.kind=4 then (Jep s.pts).2 else []
theorem Jsd{w:BV}{base base':Nat}{t:TypeId}{sz n:Nat}{u:B7}{xs:List B7}(h:w.ownsRow base t sz u n xs)(hb:base'<=base):w.ownsRow base' t sz u n xs:=Go.Joins.ownsRow_le h hb
structure Three(w0 W:BV)(vp va ve:B7)(P A E:List Pt):Prop where
 rp:W.ownsRow w0.heap.size 23 3 vp P.length (fl3 P)
 ra:W.ownsRow w0.heap.size 23 3 va A.length (fl3 A)
 re:W.ownsRow w0.heap.size 23 3 ve E.length (fl3 E)
 pa:∀ k,vp.ownBlock=some k->va.ownBlock≠some k
 pe:∀ k,vp.ownBlock=some k->ve.ownBlock≠some k
 ae:∀ k,va.ownBlock=some k->ve.ownBlock≠some k
 below:B9 w0.heap.size w0 W
def set4(W:BV)(b:Nat)(v0 v1 v2 v3:B7):BV:=(((W.setCell ⟨b,0,none⟩ v0).setCell ⟨b,1,none⟩ v1).setCell ⟨b,2,none⟩ v2).setCell ⟨b,3,none⟩ v3
theorem Ji9{W:BV}{base:Nat}{t:TypeId}{sz n:Nat}{u:B7}{xs:List B7}{b:Nat}(h:W.ownsRow base t sz u n xs)(ak:u.ownBlock≠some b)(v0 v1 v2 v3:B7):(set4 W b v0 v1 v2 v3).ownsRow base t sz u n xs:=
 ownsRow_setCell_other (ownsRow_setCell_other (ownsRow_setCell_other (ownsRow_setCell_other h ak _) ak _) ak _) ak _
theorem Jgj{n:Nat}{w W:BV}{b:Nat}(h:B9 n w W)(hb:n<=b)(v0 v1 v2 v3:B7):B9 n w (set4 W b v0 v1 v2 v3):=(((h.setCell hb _).setCell hb _).setCell hb _).setCell hb _
theorem Three.set{w0 W:BV}{vp va ve:B7}{P A E:List Pt}{b:Nat}(h:Three w0 W vp va ve P A E)(hb:w0.heap.size<=b)(h1:vp.ownBlock≠some b)(h2:va.ownBlock≠some b)(h3:ve.ownBlock≠some b)(v0 v1 v2 v3:B7):Three w0 (set4 W b v0 v1 v2 v3) vp va ve P A E:=
 ⟨Ji9 h.rp h1 _ _ _ _,Ji9 h.ra h2 _ _ _ _,Ji9 h.re h3 _ _ _ _,h.pa,h.pe,h.ae,Jgj h.below hb _ _ _ _⟩
theorem Jql{w0 W:BV}(h:B9 w0.heap.size w0 W):Three w0 W (BQ none 0 0) (BQ none 0 0) (BQ none 0 0) [] [] []:=
 ⟨World.ownsRow_nil _ _ _ _,World.ownsRow_nil _ _ _ _,World.ownsRow_nil _ _ _ _,(fun _ h=>by cases h),(fun _ h=>by cases h),(fun _ h=>by cases h),h⟩
def Cells(W:BV)(b:Nat)(vs:List B7):Prop:=∀ i v,vs[i]?=some v->W.cell? ⟨b,i,none⟩=some v/\W.frozen? ⟨b,i,none⟩=false
theorem Cells.step{A B:BV}{b:Nat}{vs:List B7}(h:Cells A b vs)(hb:B9 A.heap.size A B):Cells B b vs:=fun i v e=>⟨Ja hb (h i v e).1,Jm hb (h i v e).1 (h i v e).2⟩
theorem Cells.new(w:BV)(vs:List B7)(t:TypeId):Cells (w.alloc (BP vs.toArray t)) w.heap.size vs:=fun i v e=>⟨by simp[e],by simp[go_sem]⟩
theorem Cells.set{W:BV}{b:Nat}{vs:List B7}(h:Cells W b vs)(k:Nat)(u:B7)(hk:k<vs.length):Cells (W.setCell ⟨b,k,none⟩ u) b (vs.set k u):=by
 intro i v e;by_cases hik:i=k
 ·subst hik;rw[List.getElem?_set_self hk]at e;cases e;obtain⟨h1,h2⟩:=h i _ (List.getElem?_eq_getElem hk);exact⟨by simp[go_sem,h1],by simp[go_sem,h2]⟩
 ·rw[List.getElem?_set_ne (Ne.symm hik)]at e;obtain⟨h1,h2⟩:=h i v e;exact⟨by simp[go_sem,h1],by simp[go_sem,h2]⟩
theorem Cells.set4{W:BV}{b:Nat}{x0 x1 x2 x3:B7}(h:Cells W b [x0,x1,x2,x3])(v0 v1 v2 v3:B7):Cells (set4 W b v0 v1 v2 v3) b [v0,v1,v2,v3]:=(((h.set 0 v0 (by simp)).set 1 v1 (by simp)).set 2 v2 (by simp)).set 3 v3 (by simp)
theorem Jpf{w:BV}{base:Nat}{p:Pt}(hb:base<=w.heap.size):(w.alloc (BP #[J I p.x,J I p.y,J I p.z] 23)).ownsRow base 23 3 (BQ (some ⟨w.heap.size,0,none⟩) 1 1) [p].length (fl3 [p]):=
 World.ownsRow_lit (e:=23) (size:=3) w #[J I p.x,J I p.y,J I p.z] 1 hb (by unfold maxLen;omega) rfl
theorem Jtv{w:BV}{base:Nat}{p q:Pt}(hb:base<=w.heap.size):(w.alloc (BP #[J I p.x,J I p.y,J I p.z,J I q.x,J I q.y,J I q.z] 23)).ownsRow base 23 3 (BQ (some ⟨w.heap.size,0,none⟩) 2 2) [p,q].length (fl3 [p,q]):=
 World.ownsRow_lit (e:=23) (size:=3) w #[J I p.x,J I p.y,J I p.z,J I q.x,J I q.y,J I q.z] 2 hb (by unfold maxLen;omega) rfl
theorem Jop{w0 W:BV}(h:B9 w0.heap.size w0 W)(n:Nat)(hn:n=W.heap.size):Three w0 (W.alloc (BP #[J I 0,J I 0,J I 0] 23)) (BQ (some ⟨n,0,none⟩) 1 1) (BQ none 0 0) (BQ none 0 0) [Pt.O] [] []:=by
 subst hn;exact⟨Jpf (p:=Pt.O) h.size,World.ownsRow_nil _ _ _ _,World.ownsRow_nil _ _ _ _,(fun _ _ h=>by cases h),(fun _ _ h=>by cases h),(fun _ h=>by cases h),Jc h (Jb _ _)⟩
theorem Jje{w0 W:BV}(h:B9 w0.heap.size w0 W)(x:Int)(n m:Nat)(hn:n=W.heap.size)(hm:m=W.heap.size+1):Three w0 ((W.alloc (BP #[J I (-x),J I 0,J I 0,J I x,J I 0,J I 0] 23)).alloc (BP #[J I 1,J I 0,J I 0] 23)) (BQ (some ⟨n,0,none⟩) 2 2) (BQ none 0 0) (BQ (some ⟨m,0,none⟩) 1 1) [⟨-x,0,0⟩,⟨x,0,0⟩] [] [⟨1,0,0⟩]:=by
 subst hn hm;have hs:w0.heap.size<=(W.alloc (BP #[J I (-x),J I 0,J I 0,J I x,J I 0,J I 0] 23)).heap.size:=by have:=h.size;simp;omega
 have k2:=Jpf (w:=W.alloc (BP #[J I (-x),J I 0,J I 0,J I x,J I 0,J I 0] 23)) (base:=w0.heap.size) (p:=⟨1,0,0⟩) hs;rw[World.size_alloc]at k2;refine⟨Jq (Jtv (p:=⟨-x,0,0⟩) (q:=⟨x,0,0⟩) h.size) (Jb _ _),World.ownsRow_nil _ _ _ _,k2,(fun _ _ h=>by cases h),(fun k h e=>?_),(fun _ h=>by cases h),Jc h (Jc (Jb _ _) (Jb _ _))⟩;simp only[Value.ownBlock,Option.some.injEq]at h e;omega
theorem Three.put{w0 W:BV}{vp va ve:B7}{P A E:List Pt}{b:Nat}(h:Three w0 W vp va ve P A E)(hb:w0.heap.size<=b)(h1:vp.ownBlock≠some b)(h2:va.ownBlock≠some b)(h3:ve.ownBlock≠some b)(k:Nat)(v:B7):Three w0 (W.setCell ⟨b,k,none⟩ v) vp va ve P A E:=
 ⟨ownsRow_setCell_other h.rp h1 _,ownsRow_setCell_other h.ra h2 _,ownsRow_setCell_other h.re h3 _,h.pa,h.pe,h.ae,h.below.setCell hb _⟩
def Jrm(a b:Int):Int:=if b>a then b else a
def Pt.plus(p q:Pt):Pt:=⟨IntKind.i64.wrap (p.x+q.x),IntKind.i64.wrap (p.y+q.y),IntKind.i64.wrap (p.z+q.z)⟩
def Pt.greater(p q:Pt):Pt:=⟨Jrm p.x q.x,Jrm p.y q.y,Jrm p.z q.z⟩
structure Bx where
 lo:Pt
 hi:Pt
def Bx.v(b:Bx):B7:=B_ #[J I b.lo.x,J I b.lo.y,J I b.lo.z,J I b.hi.x,J I b.hi.y,J I b.hi.z]
def Bx.grown(a:Bx)(n:Int):Bx:=⟨a.lo.plus ⟨IntKind.i64.wrap (-n),IntKind.i64.wrap (-n),IntKind.i64.wrap (-n)⟩,a.hi.plus ⟨n,n,n⟩⟩
theorem Cells.apart{W:BV}{b b':Nat}{vs:List B7}(h:Cells W b vs)(ak:b≠b')(o:Nat)(u:B7):Cells (W.setCell ⟨b',o,none⟩ u) b vs:=fun i v e =>
 ⟨by simp[go_sem,(h i v e).1],by simp[go_sem,(h i v e).2]⟩
end
section
open Go.RowKit
theorem Jd6(x y:Int)(w:BV)(lj:0<=x)(hx:x<18446744073709551616)(dG:0<=y)(hy:y<18446744073709551616):
  Cd Tryz.prog 193 #[.int .u64 x,.int .u64 y] w fun e w'=>e = BZ (.tuple #[.int .u64 (x*y / 18446744073709551616),.int .u64 (x*y%18446744073709551616)])/\w'=w:=by
 have Ha:BU (_=_):=mul64_arith x y lj hx dG hy;have hmx:=and_low32 x lj hx;have hmy:=and_low32 y dG hy;have qA:BU (∀ z:Int,bits .and .u64 (z%18446744073709551616) 4294967295=z%18446744073709551616%4294967296):=fun z=>and_low32 _ (by omega) (by omega);go_enter func193,ntmps193;go_wp2;simp only[IntKind.wrap_u64,qA.out,Ha.out]
 go_ret2
 exact⟨rfl,rfl⟩
theorem Jjp(x y c:Int)(w:BV)(lj:0<=x)(dG:0<=y)(eJ:0<=c)(hc:c<=1):
  (callFunc 201 #[.int .u64 x,.int .u64 y,.int .u64 c]).run Tryz.prog w =
   .ok (.value (.tuple #[.int .u64 ((x+y+c)%18446744073709551616),.int .u64 ((x+y+c) / 18446744073709551616)])) w:=by
 rw[run_callFunc_extern func201 (by kernel_rfl) (by kernel_rfl) (by kernel_rfl) (e:=add64Entry) (by kernel_rfl),run_add64 x y c lj dG eJ hc]
 rfl
theorem Jle{P:Program}(x y b:Nat)(hb:b<=1)(w:BV):
  ((Extern.MathBitsCarry.rows[1]'(by decide)).2 #[.int .u64 x,.int .u64 y,.int .u64 b]).run P w =
   .ok (.tuple #[.int .u64 (((x+18446744073709551616-y-b)%18446744073709551616:Nat):Int),.int .u64 ((if x<y+b then 1 else 0:Nat):Int)]) w:=by
 have:b=0\/b=1:=by omega
 rcases this with rfl | rfl <;> rfl
theorem Jfy(x y b:Int)(w:BV)(lj:0<=x)(hx:x<18446744073709551616)(dG:0<=y)(hy:y<18446744073709551616)(aL:0<=b)(hb:b<=1):
  (callFunc 214 #[.int .u64 x,.int .u64 y,.int .u64 b]).run Tryz.prog w =
   .ok (.value (.tuple #[.int .u64 ((x-y-b)%18446744073709551616),.int .u64 (if x<y+b then 1 else 0)])) w:=by
 obtain⟨x,rfl⟩:=Int.eq_ofNat_of_zero_le lj;obtain⟨y,rfl⟩:=Int.eq_ofNat_of_zero_le dG;obtain⟨b,rfl⟩:=Int.eq_ofNat_of_zero_le aL;rw[run_callFunc_extern func214 (by kernel_rfl) (by kernel_rfl) (by kernel_rfl) (e:=(Extern.MathBitsCarry.rows[1]'(by decide)).2) (by kernel_rfl),Jle x y b (by omega)];simp only[Result.andThen];have e1:(((x+18446744073709551616-y-b)%18446744073709551616:Nat):Int)=((x:Int)-y-b)%18446744073709551616:=by omega
 have e2:(((if x<y+b then 1 else 0:Nat)):Int)=(if (x:Int)<y+b then 1 else 0):=by split <;> split <;> omega
 rw[e1,e2]
theorem Jdr(x y B:Int)(b:Nat)(hB:B=(b:Int))(hb:b<=56)(hy:y.toNat=x.toNat / 2 ^ b)(h:b=0\/y.toNat≠0)(yq:y.toNat<256):
  wrap64 (B+wrap64 (bitLen y.toNat))=bitLen x.toNat:=by
 have l:=bitLen_le8 y.toNat yq;have e:bitLen x.toNat=b+bitLen y.toNat:=by
  rcases h with rfl | h
  ·rw[hy];simp
  ·rw[hy]at h ⊢;exact bitLen_shift _ _ h
 rw[e,hB];unfold wrap64;omega
theorem Jg4(x:Int)(w:BV)(lj:0<=x)(hx:x<18446744073709551616):
  Cd Tryz.prog 209 #[.int .u64 x] w fun e w'=>e = BZ (J I (bitLen x.toNat))/\w'=w:=by
 go_enter func209,ntmps209;go_wp2
 all_goals (go_ret;refine⟨congrArg Ending.returned (congrArg (Value.int IntKind.i64) ?_),rfl⟩;rw[len8tab_get])
 ·exact Jdr x _ _ 56 rfl (by omega) (by omega) (Or.inr (by omega)) (by omega)
 ·exact Jdr x _ _ 48 rfl (by omega) (by omega) (Or.inr (by omega)) (by omega)
 ·exact Jdr x _ _ 40 rfl (by omega) (by omega) (Or.inr (by omega)) (by omega)
 ·exact Jdr x _ _ 32 rfl (by omega) (by omega) (Or.inr (by omega)) (by omega)
 ·exact Jdr x _ _ 24 rfl (by omega) (by omega) (Or.inr (by omega)) (by omega)
 ·exact Jdr x _ _ 16 rfl (by omega) (by omega) (Or.inr (by omega)) (by omega)
 ·exact Jdr x _ _ 8 rfl (by omega) (by omega) (Or.inr (by omega)) (by omega)
 ·simpa using Jdr x x 0 0 rfl (by omega) (by simp) (Or.inl rfl) (by omega)
theorem Jdp(x:Int)(lj:0<=x)(hx:x<18446744073709551616):bitLen x.toNat<=64:=by
 by_cases h:x.toNat=0
 ·rw[h];decide
 ·have:=(bitLen_spec x.toNat).2 h;by_cases g:bitLen x.toNat<=64
  ·exact g
  ·exfalso
   have:=Nat.pow_le_pow_right (n:=2) (by omega) (show 64<=bitLen x.toNat-1 by omega);omega
theorem Jri(x:Int)(w:BV)(lj:0<=x)(hx:x<18446744073709551616):
  Cd Tryz.prog 215 #[.int .u64 x] w fun e w'=>e = BZ (J I (64-(bitLen x.toNat:Int)))/\w'=w:=by
 have l:=Jdp x lj hx;go_enter func215,ntmps215;go_wp2_with (go_at_call 209;refine(Jg4 x _ lj hx).mono ?_;rintro e w' ⟨rfl,rfl⟩);go_ret;exact⟨rfl,rfl⟩
end
section
namespace Fx
theorem div_of{n y q:Int}(hy:0<y)(h1:q*y<=n)(h2:n<(q+1)*y):n / y=q/\n%y=n-q*y:=by
 have e:n / y=q:=by
  apply Int.le_antisymm
  ·have:=(Int.ediv_lt_iff_lt_mul hy).2 h2;omega
  ·exact(Int.le_ediv_iff_mul_le hy).2 h1
 refine⟨e,?_⟩;have:=Int.emod_add_mul_ediv n y;rw[e,Int.mul_comm]at this;omega
theorem Jff(n y:Int)(hy:0<y):n / y*y<=n/\n<(n / y+1)*y:=by
 have a:=Int.emod_add_mul_ediv n y;have b:=Int.emod_nonneg n (by omega:y≠0);have c:=Int.emod_lt_of_pos n hy;rw[Int.add_mul,Int.mul_comm (n / y) y];omega
def Inv(U1 y1 Q q r:Int):Prop:=r+q*y1=U1/\0<=r/\Q<=q/\q<=4294967297
theorem Jjy{U1 u1 y1 y0 Q:Int}(hU:0<=U1)(hUY:U1<y1*4294967296+y0)(sP:0<=u1)(hu:u1<4294967296)(dG:0<=y0)(hy0':y0<4294967296)(fq:2147483648<=y1)
  (hQ0:0<=Q) (hQ:Q*(y1*4294967296+y0)<=U1*4294967296+u1):Inv U1 y1 Q (U1 / y1) (U1%y1)/\U1%y1<y1:=by
 have a:=Int.emod_add_mul_ediv U1 y1;have b:=Int.emod_nonneg U1 (by omega:y1≠0);have c:=Int.emod_lt_of_pos U1 (by omega:0<y1);rw[Int.mul_comm]at a;refine⟨⟨a,b,?_,?_⟩,c⟩
 ·apply(Int.le_ediv_iff_mul_le (by omega)).2
  have e:Q*(y1*4294967296+y0)=Q*y1*4294967296+Q*y0:=by rw[Int.mul_add,Int.mul_assoc]
  have:=Int.mul_nonneg hQ0 dG;omega
 ·have:U1 / y1<4294967298:=(Int.ediv_lt_iff_lt_mul (by omega)).2 (by omega);omega
theorem Jl0{U1 u1 y1 y0 Q q r:Int}(hUY:U1<y1*4294967296+y0)(sP:0<=u1)(hu:u1<4294967296)(dG:0<=y0)(fq:2147483648<=y1)
  (hQ:Q*(y1*4294967296+y0)<=U1*4294967296+u1) (hi:Inv U1 y1 Q q r) (hc:4294967296<=q\/4294967296*r+u1<q*y0):Inv U1 y1 Q (q-1) (r+y1):=by
 obtain⟨h1,h2,h3,h4⟩:=hi;have e:q*(y1*4294967296+y0)=q*y1*4294967296+q*y0:=by rw[Int.mul_add,Int.mul_assoc]
 have aG:Q<q:=by
  rcases hc with hc | hc
  ·have:Q*(y1*4294967296+y0)<4294967296*(y1*4294967296+y0):=by omega
   have:=Int.lt_of_mul_lt_mul_right this (by omega);omega
  ·have:Q*(y1*4294967296+y0)<q*(y1*4294967296+y0):=by omega
   exact Int.lt_of_mul_lt_mul_right this (by omega)
 refine⟨?_,by omega,by omega,by omega⟩;rw[Int.sub_mul];omega
theorem Jg2{U1 u1 y1 y0 Q q r:Int}(dG:0<=y0)(fq:2147483648<=y1)
  (hQ:U1*4294967296+u1<(Q+1)*(y1*4294967296+y0)) (hi:Inv U1 y1 Q q r) (hc:q*y0<=4294967296*r+u1):q=Q:=by
 obtain⟨h1,h2,h3,h4⟩:=hi;have e:q*(y1*4294967296+y0)=q*y1*4294967296+q*y0:=by rw[Int.mul_add,Int.mul_assoc]
 have:q*(y1*4294967296+y0)<(Q+1)*(y1*4294967296+y0):=by omega
 have:=Int.lt_of_mul_lt_mul_right this (by omega);omega
theorem Jj1{U1 u1 y1 y0 Q q r:Int}(dG:0<=y0)(hy0':y0<4294967296)(fq:2147483648<=y1)(sP:0<=u1)
  (hQ:U1*4294967296+u1<(Q+1)*(y1*4294967296+y0)) (hi:Inv U1 y1 Q q r) (hq:q<=4294967296) (hr:4294967296<=r):q=Q:=by
 refine Jg2 dG fq hQ hi ?_;have:=Int.mul_le_mul_of_nonneg_right hq dG;omega
theorem Jm8{U1 u1 u0 Y Q1 Q0:Int}(hY:0<Y)(_hu:0<=u0)(_hu':u0<4294967296)
  (_h1:Q1*Y<=U1*4294967296+u1) (_h2:U1*4294967296+u1<(Q1+1)*Y)
  (h3:Q0*Y<=(U1*4294967296+u1-Q1*Y)*4294967296+u0) (h4:(U1*4294967296+u1-Q1*Y)*4294967296+u0<(Q0+1)*Y) :
  (U1*18446744073709551616+u1*4294967296+u0) / Y=Q1*4294967296+Q0 /\
  (U1*18446744073709551616+u1*4294967296+u0)%Y=(U1*4294967296+u1-Q1*Y)*4294967296+u0-Q0*Y:=by
 have e:(Q1*4294967296+Q0)*Y=Q1*Y*4294967296+Q0*Y:=by rw[Int.add_mul,Int.mul_right_comm]
 have e':(Q1*4294967296+Q0+1)*Y=Q1*Y*4294967296+(Q0+1)*Y:=by rw[Int.add_assoc,Int.add_mul,Int.mul_right_comm]
 have:=div_of (n:=U1*18446744073709551616+u1*4294967296+u0) (q:=Q1*4294967296+Q0) hY (by omega) (by omega);omega
theorem Juy(U1 u1 Y:Int)(h0:0<=U1)(h1:U1<Y)(h2:0<=u1)(h3:u1<4294967296):
  ∃ Q,0<=Q/\Q<4294967296/\Q*Y<=U1*4294967296+u1/\U1*4294967296+u1<(Q+1)*Y:=by
 obtain⟨a,b⟩:=Jff (U1*4294967296+u1) Y (by omega);refine⟨_,?_,?_,a,b⟩
 ·exact Int.ediv_nonneg (by omega) (by omega)
 ·exact(Int.ediv_lt_iff_lt_mul (by omega)).2 (by omega)
theorem Ju3{n y:Int}(s:Nat)(hy:0<y):(n*2 ^ s) / (y*2 ^ s)=n / y/\(n*2 ^ s)%(y*2 ^ s) / 2 ^ s=n%y:=by
 have hp:(0:Int)<2 ^ s:=Int.pow_pos (by omega);have:=Jff n y hy;have a:n / y*(y*2 ^ s)<=n*2 ^ s:=by rw[<- Int.mul_assoc];exact Int.mul_le_mul_of_nonneg_right this.1 (by omega)
 have b:n*2 ^ s<(n / y+1)*(y*2 ^ s):=by rw[<- Int.mul_assoc];exact Int.mul_lt_mul_of_pos_right this.2 hp
 have h:=div_of (Int.mul_pos hy hp) a b;refine⟨h.1,?_⟩;have m:=Int.emod_add_mul_ediv n y;have e:n*2 ^ s-n / y*(y*2 ^ s)=(n%y)*2 ^ s:=by
  rw[<- Int.mul_assoc,<- Int.sub_mul]
  congr 1
  rw[Int.mul_comm];omega
 rw[h.2,e];exact Int.mul_ediv_cancel _ (by omega)
def fl(X c:Int):Int:=if c<0 then (-X) / (-c) else X / c
theorem neg_div{T c:Int}(hc:0<c):(-T) / c=if T%c=0 then -(T / c) else -(T / c+1):=by
 have a:=Int.emod_add_mul_ediv T c;have b:=Int.emod_nonneg T (by omega:c≠0);have d:=Int.emod_lt_of_pos T hc;rw[Int.mul_comm]at a
 split
 ·refine(div_of hc ?_ ?_).1
  ·rw[Int.neg_mul];omega
  ·rw[Int.add_mul,Int.neg_mul];omega
 ·refine(div_of hc ?_ ?_).1
  ·rw[Int.neg_mul,Int.add_mul];omega
  ·rw[Int.neg_add,Int.neg_add_cancel_right,Int.neg_mul];omega
def isq:Nat->Nat
 | 0=>0
 | n+1=>if (isq n+1)*(isq n+1)<=n+1 then isq n+1 else isq n
theorem isq_is(n:Nat):isq n*isq n<=n/\n<(isq n+1)*(isq n+1):=by
 induction n with
 | zero=>simp[isq]
 | succ n ih =>
  simp only[isq]
  split
  ·refine⟨by assumption,?_⟩;have:(isq n+1+1)*(isq n+1+1)=(isq n+1)*(isq n+1)+2*isq n+3:=by grind
   omega
  ·omega
theorem isq_of{X r:Int}(h0:0<=r)(h1:r*r<=X)(h2:X<(r+1)*(r+1)):r=(isq X.toNat:Int):=by
 have hX:0<=X:=Int.le_trans (Int.mul_nonneg h0 h0) h1;obtain⟨x,rfl⟩:=Int.eq_ofNat_of_zero_le hX;obtain⟨r,rfl⟩:=Int.eq_ofNat_of_zero_le h0;obtain⟨a,b⟩:=isq_is x;simp only[Int.toNat_natCast];have h1:r*r<=x:=by exact_mod_cast h1
 have h2:x<(r+1)*(r+1):=by exact_mod_cast h2
 have c:r<isq x+1:=by
  apply Nat.lt_of_not_le;intro h
  have:=Nat.mul_le_mul h h;omega
 have d:isq x<r+1:=by
  apply Nat.lt_of_not_le;intro h
  have:=Nat.mul_le_mul h h;omega
 omega
def great(n:Int):Bool:=decide (n < -4611686018427387903)||decide (4611686018427387903<n)
theorem great_iff(n:Int):great n=true↔n < -4611686018427387903\/4611686018427387903<n:=by simp[great]
theorem not_great(n:Int):great n=false ↔ -4611686018427387903<=n/\n<=4611686018427387903:=by simp[great]
def told(n:Int):Option Int:=if great n then none else some n
def add(a b:Int):Option Int:=if great a||great b then none else told (a+b)
def sub(a b:Int):Option Int:=if great a||great b then none else told (a-b)
def mul(a b:Int):Option Int:=if great a||great b then none else told (a*b / 4294967296)
def Jw(a b c:Int):Option Int:=if c=0 then none else if great a ||(great b||great c) then none else told (fl (a*b) c)
def Jwi(a:Int):Option Int:=if a<0 then none else if great a then none else told (isq (a*4294967296).toNat)
def Jaf:List Int->List Int->Int
 | a::l,b::m=>a*b+Jaf l m
 | _,_=>0
theorem Jej:∀(k:Nat) (l m:List Int),k<l.length->k<m.length->Jaf (l.take (k+1)) (m.take (k+1))=Jaf (l.take k) (m.take k)+l.getD k 0*m.getD k 0
 | 0,a::l,b::m,_,_=>by simp[Jaf]
 | k+1,a::l,b::m,h,h'=>by
  have:=Jej k l m (by simpa using h) (by simpa using h');simp only[List.take_succ_cons,Jaf,List.getD_cons_succ]at this ⊢;rw[this];omega
 | _,[],_,h,_=>by simp at h
 | _,_::_,[],_,h=>by simp at h
theorem Jdo:∀(l m:List Int),l.any great=false->m.any great=false->(Jaf l m).natAbs<=l.length*21267647932558653957237540927630737409
 | [],_,_,_=>by simp[Jaf]
 | _::_,[],_,_=>by simp[Jaf]
 | a::l,b::m,h,h'=>by
  simp only[List.any_cons,Bool.or_eq_false_iff]at h h';have:=Jdo l m h.2 h'.2;have ha:=(not_great a).1 h.1;have hb:=(not_great b).1 h'.1;have hp:(a*b).natAbs<=4611686018427387903*4611686018427387903:=by rw[Int.natAbs_mul];exact Nat.mul_le_mul (by omega) (by omega)
  simp only[Jaf,List.length_cons];omega
theorem Jei:∀(l:List Int),0<=Jaf l l
 | []=>by simp[Jaf]
 | a::l=>by
  have:=Jei l;have h:0<=a*a:=by
   rcases Int.le_total 0 a with g | g
   ·exact Int.mul_nonneg g g
   ·exact Int.mul_nonneg_of_nonpos_of_nonpos g g
  simp only[Jaf];omega
theorem Jlp{l:List Int}(k:Nat)(h:l.any great=false):(l.take k).any great=false:=by
 rw[List.any_eq_false]at h ⊢;exact fun x hx=>h x (List.mem_of_mem_take hx)
theorem Jdc{l:List Int}{k:Nat}(h:l.any great=false)(hk:k<l.length):great (l.getD k 0)=false:=by
 rw[List.any_eq_false]at h;have:=h _ (List.getElem_mem hk)
 simpa [List.getD_eq_getElem?_getD,List.getElem?_eq_getElem hk] using this
def dot(l m:List Int):Option Int:=if l.length≠m.length then none else if 8<l.length then none else if l.any great||m.any great then none else told (Jaf l m / 4294967296)
def Jah(l:List Int):Option Int:=if 8<l.length then none else if l.any great then none else told (isq (Jaf l l).toNat)
end Fx
end
section
open Go.RowKit Fx
theorem Jno(hi lo y:Int)(s:Nat)(hs:(64:Int)-(bitLen y.toNat:Int)=s)(ug:1<=hi)(hh:hi<y)(gT:0<=lo)(hl:lo<18446744073709551616)(hy:y<4611686018427387904):
  1<=s/\s<=63/\∃ Y y1 y0 U1 L u1 u0:Int,
   IntKind.u64.wrap (y*2 ^ s)=Y/\Y / 4294967296=y1/\bits .and .u64 Y 4294967295=y0/\Y=y1*4294967296+y0/\0<=y0/\y0<4294967296/\2147483648<=y1/\y1<4294967296 /\
   bits .or .u64 (IntKind.u64.wrap (hi*2 ^ s)) (lo / 2 ^ (64-s))=U1/\0<=U1/\U1<Y /\
   IntKind.u64.wrap (lo*2 ^ s)=L/\L / 4294967296=u1/\bits .and .u64 L 4294967295=u0/\0<=u1/\u1<4294967296/\0<=u0/\u0<4294967296 /\
   Y=y*2 ^ s/\(hi*18446744073709551616+lo)*2 ^ s=U1*18446744073709551616+u1*4294967296+u0:=by
 obtain⟨b1,b2⟩:=bitLen_spec y.toNat;have b2:=b2 (by omega);generalize hb:bitLen y.toNat=b at *;have hb62:b<=62:=by
  by_cases g:b<=62
  ·exact g
  ·exfalso
   have:=Nat.pow_le_pow_right (n:=2) (by omega) (show 62<=b-1 by omega);omega
 have ac:1<=b:=by
  rcases Nat.eq_zero_or_pos b with h0 | h0
  ·rw[h0]at b1;simp at b1;omega
  ·exact h0
 have iV:1<=s:=by omega
 have nD:s<=63:=by omega
 refine⟨iV,nD,?_⟩;have p1:(2:Nat) ^ (b-1)*2 ^ s=9223372036854775808:=by rw[<- Nat.pow_add,show b-1+s=63 by omega]
 have p2:(2:Nat) ^ b*2 ^ s=18446744073709551616:=by rw[<- Nat.pow_add,show b+s=64 by omega]
 have p3:(2:Nat) ^ (64-s)*2 ^ s=18446744073709551616:=by rw[<- Nat.pow_add,show 64-s+s=64 by omega]
 have hp:0<(2:Nat) ^ s:=Nat.two_pow_pos s;have hp':0<(2:Nat) ^ (64-s):=Nat.two_pow_pos _;obtain⟨Y,rfl⟩:=Int.eq_ofNat_of_zero_le (show 0<=y by omega);obtain⟨H,rfl⟩:=Int.eq_ofNat_of_zero_le (show 0<=hi by omega);obtain⟨L,rfl⟩:=Int.eq_ofNat_of_zero_le gT;simp only[Int.toNat_natCast]at b1 b2;have q1:9223372036854775808<=Y*2 ^ s:=by rw[<- p1];exact Nat.mul_le_mul_right _ b2
 have q2:Y*2 ^ s<18446744073709551616:=by rw[<- p2];exact Nat.mul_lt_mul_of_pos_right b1 hp
 have q3:H*2 ^ s+2 ^ s<=Y*2 ^ s:=by rw[<- Nat.succ_mul];exact Nat.mul_le_mul_right _ (by omega)
 have c1:((Y:Int)*2 ^ s)=((Y*2 ^ s:Nat):Int):=by simp
 have c2:((H:Int)*2 ^ s)=((H*2 ^ s:Nat):Int):=by simp
 have c3:((L:Int)*2 ^ s)=((L*2 ^ s:Nat):Int):=by simp
 have c4:((L:Int) / 2 ^ (64-s))=((L / 2 ^ (64-s):Nat):Int):=by simp
 have d1:L / 2 ^ (64-s)<2 ^ s:=by
  rw[Nat.div_lt_iff_lt_mul hp',Nat.mul_comm,p3];omega
 have d2:L*2 ^ s=L / 2 ^ (64-s)*18446744073709551616+L*2 ^ s%18446744073709551616:=by
  have e:=Nat.div_add_mod L (2 ^ (64-s));have m:L%2 ^ (64-s)*2 ^ s<18446744073709551616:=by rw[<- p3];exact Nat.mul_lt_mul_of_pos_right (Nat.mod_lt _ hp') hp
  have e2:L*2 ^ s=L / 2 ^ (64-s)*18446744073709551616+L%2 ^ (64-s)*2 ^ s:=by
   have:L*2 ^ s=(2 ^ (64-s)*(L / 2 ^ (64-s))+L%2 ^ (64-s))*2 ^ s:=by rw[e]
   rw[this,Nat.add_mul,Nat.mul_right_comm,p3,Nat.mul_comm 18446744073709551616]
  omega
 have nE:bits .or .u64 (IntKind.u64.wrap ((H:Int)*2 ^ s)) ((L:Int) / 2 ^ (64-s))=((H*2 ^ s+L / 2 ^ (64-s):Nat):Int):=by
  rw[IntKind.wrap_u64,c2,c4,show((H*2 ^ s:Nat):Int)%18446744073709551616=((H*2 ^ s:Nat):Int) by omega,u64_or_nat _ _ (by omega) (by omega),nat_join s _ _ (Nat.mul_mod_left _ _) d1]
 have lJ:((H:Int)*18446744073709551616+L)*2 ^ s=((H*2 ^ s:Nat):Int)*18446744073709551616+((L*2 ^ s:Nat):Int):=by
  rw[<- c2,<- c3,Int.add_mul,Int.mul_right_comm]
 rw[nE,lJ,c1,c3];generalize Y*2 ^ s=A at *;generalize H*2 ^ s=B at *;generalize L*2 ^ s=C at *;generalize L / 2 ^ (64-s)=D at *;have wA:IntKind.u64.wrap (A:Int)=(A:Int):=by rw[IntKind.wrap_u64];omega
 have wC:IntKind.u64.wrap (C:Int)=((C%18446744073709551616:Nat):Int):=by rw[IntKind.wrap_u64];omega
 have aA:=and_low32 (A:Int) (by omega) (by omega);have aC:=and_low32 ((C%18446744073709551616:Nat):Int) (by omega) (by omega);rw[wA,wC];exact⟨A,_,_,_,_,_,_,rfl,rfl,aA,by omega,by omega,by omega,by omega,by omega,rfl,by omega,by omega,rfl,rfl,aC,by omega,by omega,by omega,by omega,rfl,by omega⟩
theorem Jrj(lo y:Int)(w:BV)(gT:0<=lo)(hl:lo<18446744073709551616)(dG:1<=y)(hy:y<4611686018427387904):
  Cd Tryz.prog 211 #[.int .u64 0,.int .u64 lo,.int .u64 y] w fun e w'=>e = BZ (.tuple #[.int .u64 (lo / y),.int .u64 (lo%y)])/\w'=w.drew:=by
 have hyz:(y == 0)=false:=by simp;omega
 have ac:0<=lo / y:=Int.ediv_nonneg gT (by omega);have aj:lo / y<=lo:=Int.ediv_le_self _ gT;go_enter func211,ntmps211;go_wp2;go_region
 all_goals go_wp2
 all_goals go_ret2
 all_goals exact⟨rfl,rfl⟩
theorem Jsc(hi lo y:Int)(w:BV)(ug:1<=hi)(hh:hi<y)(gT:0<=lo)(hl:lo<18446744073709551616)(hy:y<4611686018427387904):
  Cd Tryz.prog 211 #[.int .u64 hi,.int .u64 lo,.int .u64 y] w fun e w'=>e = BZ (.tuple #[.int .u64 ((hi*18446744073709551616+lo) / y),.int .u64 ((hi*18446744073709551616+lo)%y)])/\w'=w:=by
 have hyz:(y == 0)=false:=by simp;omega
 have hhz:(hi == 0)=false:=by simp;omega
 have iW:=Jdp y (by omega) (by omega);obtain⟨s,hs⟩:∃ s:Nat,(64:Int)-(bitLen y.toNat:Int)=s:=⟨64-bitLen y.toNat,by omega⟩
 obtain⟨iV,nD,Y,y1,y0,U1,L,u1,u0,hY,fq,dG,Ap,dW,mt,fg,hy11,hU,Aq,w_,hL,lK,sP,mu,oK,kZ,mw,Ar,lJ⟩:=Jno hi lo y s hs ug hh gT hl hy;have YE:BU (Y=y1*4294967296+y0):=Ap;have YS:BU (Y=y*2 ^ s):=Ar;have TOT:BU ((hi*18446744073709551616+lo)*2 ^ s=U1*18446744073709551616+u1*4294967296+u0):=lJ;have HS:BU (64-(bitLen y.toNat:Int)=s):=hs;clear Ap Ar lJ;obtain⟨Q1,xa,hQ11,mA,oL⟩:=Juy U1 u1 Y Aq w_ mu oK;obtain⟨R,hR⟩:∃ R,R=U1*4294967296+u1-Q1*Y:=⟨_,rfl⟩
 have dZ:0<=R:=by omega
 have kt:R<Y:=by have:=Int.add_mul Q1 1 Y;omega
 have hun:IntKind.u64.wrap (IntKind.u64.wrap (IntKind.u64.wrap (U1*4294967296)+u1)-IntKind.u64.wrap (Q1*Y))=R:=by
  simp only[IntKind.wrap_u64];omega
 obtain⟨Q0,xc,hQ01,mB,oM⟩:=Juy R u0 Y dZ kt kZ mw;obtain⟨R0,rT⟩:∃ R0,R0=R*4294967296+u0-Q0*Y:=⟨_,rfl⟩
 have hR00:0<=R0:=by omega
 have hR01:R0<Y:=by have:=Int.add_mul Q0 1 Y;omega
 have hun0:IntKind.u64.wrap (IntKind.u64.wrap (IntKind.u64.wrap (R*4294967296)+u0)-IntKind.u64.wrap (Q0*Y))=R0:=by
  simp only[IntKind.wrap_u64];omega
 have fJ:BU ((hi*18446744073709551616+lo) / y=Q1*4294967296+Q0/\(hi*18446744073709551616+lo)%y=R0 / 2 ^ s):=by
  have a:=Jm8 (Q1:=Q1) (Q0:=Q0) (U1:=U1) (u1:=u1) (u0:=u0) (Y:=Y) (by omega) kZ mw mA oL (by rw[<- hR];exact mB) (by rw[<- hR];exact oM);rw[<- hR,<- rT,<- TOT.out,YS.out]at a;have b:=Ju3 (n:=hi*18446744073709551616+lo) s (show 0<y by omega);rw[a.1,a.2]at b;exact⟨b.1.symm,b.2.symm⟩
 have J0:BU _:=Jjy (Q:=Q1) Aq (by rw[<- YE.out];exact w_) mu oK dW mt fg xa (by rw[<- YE.out];exact mA);have K0:BU _:=Jjy (Q:=Q0) dZ (by rw[<- YE.out];exact kt) kZ mw dW mt fg xc (by rw[<- YE.out];exact mB);have QA:BU (Q1*(y1*4294967296+y0)<=U1*4294967296+u1):=by rw[<- YE.out];exact mA
 have QB:BU (U1*4294967296+u1<(Q1+1)*(y1*4294967296+y0)):=by rw[<- YE.out];exact oL
 have PA:BU (Q0*(y1*4294967296+y0)<=R*4294967296+u0):=by rw[<- YE.out];exact mB
 have PB:BU (R*4294967296+u0<(Q0+1)*(y1*4294967296+y0)):=by rw[<- YE.out];exact oM
 have hU1':BU (U1<y1*4294967296+y0):=by rw[<- YE.out];exact w_
 have hR1':BU (R<y1*4294967296+y0):=by rw[<- YE.out];exact kt
 have hqb:0<=U1 / y1/\U1 / y1<=4294967297:=by have:=J0.out.1.2.2;omega
 have hqb0:0<=R / y1/\R / y1<=4294967297:=by have:=K0.out.1.2.2;omega
 have hrh:IntKind.u64.wrap (U1-IntKind.u64.wrap (U1 / y1*y1))=U1%y1:=by
  have a:=J0.out.1.1;have b:=J0.out.2;have c:=J0.out.1.2.1;simp only[IntKind.wrap_u64];omega
 have hrh0:IntKind.u64.wrap (R-IntKind.u64.wrap (R / y1*y1))=R%y1:=by
  have a:=K0.out.1.1;have b:=K0.out.2;have c:=K0.out.1.2.1;simp only[IntKind.wrap_u64];omega
 have HR:BU (R=U1*4294967296+u1-Q1*Y):=hR;clear mA oL mB oM hR rT;have qB:BU (∀ q r:Int,Inv U1 y1 Q1 q r->r<4294967296->(4294967296<=q\/4294967296*r+u1<q*y0)->Inv U1 y1 Q1 (q-1) (r+y1)/\(4294967296<=r+y1->q-1=Q1)):=by
  intro q r hI _ hc;have h:=Jl0 hU1'.out mu oK dW fg QA.out hI hc;exact⟨h,fun g=>Jj1 dW mt fg mu QB.out h (by have:=hI.2.2.2;omega) g⟩
 have fi:BU (∀ q r:Int,Inv R y1 Q0 q r->r<4294967296->(4294967296<=q\/4294967296*r+u0<q*y0)->Inv R y1 Q0 (q-1) (r+y1)/\(4294967296<=r+y1->q-1=Q0)):=by
  intro q r hI _ hc;have h:=Jl0 hR1'.out kZ mw dW fg PA.out hI hc;exact⟨h,fun g=>Jj1 dW mt fg kZ PB.out h (by have:=hI.2.2.2;omega) g⟩
 have hm:BU (∀ q:Int,0<=q->q<4294967296->0<=q*y0/\q*y0<18446744073709551616):=by
  intro q a b;have:=Int.mul_nonneg a dW;have:=Int.mul_le_mul (show q<=4294967295 by omega) (show y0<=4294967295 by omega) dW (by omega);omega
 go_enter func211,ntmps211;go_wp2_with (go_at_call 215;refine(Jri y _ (by omega) (by omega)).mono ?_;rintro e w' ⟨rfl,rfl⟩)
 go_loop [15,16] (fun a b=>∃ q r:Int,a = .int .u64 q/\b = .int .u64 r/\BU (Inv U1 y1 Q1 q r)/\r<4294967296) (fun a _=>(intOf a).toNat)
 case atStart=>exact⟨_,_,rfl,rfl,J0.out.1,by have:=J0.out.2;omega⟩
 case round =>
  obtain⟨q,r,rfl,rfl,HI,hr⟩:=hrel;have hI:=HI.out;have fy:Q1<=q:=hI.2.2.1;have fK:q<=4294967297:=hI.2.2.2;have d_:0<=r:=hI.2.1;clear hI;have pR:=hm.out q (by omega);by_cases hA:4294967296<=q
  ·have hS:=qB.out q r HI.out hr (Or.inl hA);have S1:BU (Inv U1 y1 Q1 (q-1) (r+y1)):=hS.1;have fL:Q1<=q-1:=hS.1.2.2.1;clear pR;by_cases fM:4294967296<=r+y1
   ·obtain rfl:q=Q1+1:=by have:=hS.2 fM;omega
    clear hS;go_wp2
    go_loop [18,16] (fun a b=>∃ q r:Int,a = .int .u64 q/\b = .int .u64 r/\BU (Inv R y1 Q0 q r)/\r<4294967296) (fun a _=>(intOf a).toNat)
    case atStart=>exact⟨_,_,rfl,rfl,K0.out.1,by have:=K0.out.2;omega⟩
    case round =>
     obtain⟨p,t,rfl,rfl,iu,ht⟩:=hrel;have hI:=iu.out;have sO:Q0<=p:=hI.2.2.1;have fj:p<=4294967297:=hI.2.2.2;have pS:0<=t:=hI.2.1;clear hI;by_cases iC:4294967296<=p
     ·have hS:=fi.out p t iu.out ht (Or.inl iC);have S1:BU (Inv R y1 Q0 (p-1) (t+y1)):=hS.1;have gV:Q0<=p-1:=hS.1.2.2.1;by_cases hbr0:4294967296<=t+y1
      ·obtain rfl:p=Q0+1:=by have:=hS.2 hbr0;omega
       clear hS;go_wp2
       go_ret2
       refine⟨?_,rfl⟩;rw[fJ.out.1,fJ.out.2]
       rfl
      ·clear hS;go_wp2
       go_round
       case rel=>exact⟨_,_,rfl,rfl,S1,by omega⟩
       case measure=>simp[intOf];omega
     ·have pR:=hm.out p (by omega) (by omega);by_cases mc:4294967296*t+u0<p*y0
      ·have hS:=fi.out p t iu.out ht (Or.inr mc);have S1:BU (Inv R y1 Q0 (p-1) (t+y1)):=hS.1;have gV:Q0<=p-1:=hS.1.2.2.1;by_cases hbr0:4294967296<=t+y1
       ·obtain rfl:p=Q0+1:=by have:=hS.2 hbr0;omega
        clear hS;go_wp2
        go_ret2
        refine⟨?_,rfl⟩;rw[fJ.out.1,fJ.out.2]
        rfl
       ·clear hS;go_wp2
        go_round
        case rel=>exact⟨_,_,rfl,rfl,S1,by omega⟩
        case measure=>simp[intOf];omega
      ·obtain rfl:p=Q0:=Jg2 dW fg PB.out iu.out (by omega);go_wp2
       go_ret2
       refine⟨?_,rfl⟩;rw[fJ.out.1,fJ.out.2]
       rfl
   ·clear hS;go_wp2
    go_round
    case rel=>exact⟨_,_,rfl,rfl,S1,by omega⟩
    case measure=>simp[intOf];omega
  ·have pR:=pR (by omega);by_cases hB:4294967296*r+u1<q*y0
   ·have hS:=qB.out q r HI.out hr (Or.inr hB);have S1:BU (Inv U1 y1 Q1 (q-1) (r+y1)):=hS.1;have fL:Q1<=q-1:=hS.1.2.2.1;by_cases fM:4294967296<=r+y1
    ·obtain rfl:q=Q1+1:=by have:=hS.2 fM;omega
     clear hS;go_wp2
     go_loop [18,16] (fun a b=>∃ q r:Int,a = .int .u64 q/\b = .int .u64 r/\BU (Inv R y1 Q0 q r)/\r<4294967296) (fun a _=>(intOf a).toNat)
     case atStart=>exact⟨_,_,rfl,rfl,K0.out.1,by have:=K0.out.2;omega⟩
     case round =>
      obtain⟨p,t,rfl,rfl,iu,ht⟩:=hrel;have hI:=iu.out;have sO:Q0<=p:=hI.2.2.1;have fj:p<=4294967297:=hI.2.2.2;have pS:0<=t:=hI.2.1;clear hI;by_cases iC:4294967296<=p
      ·have hS:=fi.out p t iu.out ht (Or.inl iC);have S1:BU (Inv R y1 Q0 (p-1) (t+y1)):=hS.1;have gV:Q0<=p-1:=hS.1.2.2.1;by_cases hbr0:4294967296<=t+y1
       ·obtain rfl:p=Q0+1:=by have:=hS.2 hbr0;omega
        clear hS;go_wp2
        go_ret2
        refine⟨?_,rfl⟩;rw[fJ.out.1,fJ.out.2]
        rfl
       ·clear hS;go_wp2
        go_round
        case rel=>exact⟨_,_,rfl,rfl,S1,by omega⟩
        case measure=>simp[intOf];omega
      ·have pR:=hm.out p (by omega) (by omega);by_cases mc:4294967296*t+u0<p*y0
       ·have hS:=fi.out p t iu.out ht (Or.inr mc);have S1:BU (Inv R y1 Q0 (p-1) (t+y1)):=hS.1;have gV:Q0<=p-1:=hS.1.2.2.1;by_cases hbr0:4294967296<=t+y1
        ·obtain rfl:p=Q0+1:=by have:=hS.2 hbr0;omega
         clear hS;go_wp2
         go_ret2
         refine⟨?_,rfl⟩;rw[fJ.out.1,fJ.out.2]
         rfl
        ·clear hS;go_wp2
         go_round
         case rel=>exact⟨_,_,rfl,rfl,S1,by omega⟩
         case measure=>simp[intOf];omega
       ·obtain rfl:p=Q0:=Jg2 dW fg PB.out iu.out (by omega);go_wp2
        go_ret2
        refine⟨?_,rfl⟩;rw[fJ.out.1,fJ.out.2]
        rfl
    ·clear hS;go_wp2
     go_round
     case rel=>exact⟨_,_,rfl,rfl,S1,by omega⟩
     case measure=>simp[intOf];omega
   ·obtain rfl:q=Q1:=Jg2 dW fg QB.out HI.out (by omega);go_wp2
    go_loop [18,16] (fun a b=>∃ q r:Int,a = .int .u64 q/\b = .int .u64 r/\BU (Inv R y1 Q0 q r)/\r<4294967296) (fun a _=>(intOf a).toNat)
    case atStart=>exact⟨_,_,rfl,rfl,K0.out.1,by have:=K0.out.2;omega⟩
    case round =>
     obtain⟨p,t,rfl,rfl,iu,ht⟩:=hrel;have hI:=iu.out;have sO:Q0<=p:=hI.2.2.1;have fj:p<=4294967297:=hI.2.2.2;have pS:0<=t:=hI.2.1;clear hI;by_cases iC:4294967296<=p
     ·have hS:=fi.out p t iu.out ht (Or.inl iC);have S1:BU (Inv R y1 Q0 (p-1) (t+y1)):=hS.1;have gV:Q0<=p-1:=hS.1.2.2.1;by_cases hbr0:4294967296<=t+y1
      ·obtain rfl:p=Q0+1:=by have:=hS.2 hbr0;omega
       clear hS;go_wp2
       go_ret2
       refine⟨?_,rfl⟩;rw[fJ.out.1,fJ.out.2]
       rfl
      ·clear hS;go_wp2
       go_round
       case rel=>exact⟨_,_,rfl,rfl,S1,by omega⟩
       case measure=>simp[intOf];omega
     ·have pR:=hm.out p (by omega) (by omega);by_cases mc:4294967296*t+u0<p*y0
      ·have hS:=fi.out p t iu.out ht (Or.inr mc);have S1:BU (Inv R y1 Q0 (p-1) (t+y1)):=hS.1;have gV:Q0<=p-1:=hS.1.2.2.1;by_cases hbr0:4294967296<=t+y1
       ·obtain rfl:p=Q0+1:=by have:=hS.2 hbr0;omega
        clear hS;go_wp2
        go_ret2
        refine⟨?_,rfl⟩;rw[fJ.out.1,fJ.out.2]
        rfl
       ·clear hS;go_wp2
        go_round
        case rel=>exact⟨_,_,rfl,rfl,S1,by omega⟩
        case measure=>simp[intOf];omega
      ·obtain rfl:p=Q0:=Jg2 dW fg PB.out iu.out (by omega);go_wp2
       go_ret2
       refine⟨?_,rfl⟩;rw[fJ.out.1,fJ.out.2]
       rfl
theorem Jng(a b:Int)(Bk:0<=a)(ha:a<9223372036854775808)(aL:0<=b)(hb:b<9223372036854775808):0<=a*b/\a*b<85070591730234615865843651857942052864:=by
 have h1:=Int.mul_nonneg Bk aL;have h2:=Int.mul_le_mul (show a<=9223372036854775807 by omega) (show b<=9223372036854775807 by omega) aL (by omega);omega
theorem Jdq(a b:Int)(w:BV)(Bk:-9223372036854775808<=a)(ha:a<9223372036854775808)(aL:-9223372036854775808<=b)(hb:b<9223372036854775808):
  Cd Tryz.prog 167 #[J I a,J I b] w fun e w'=>e = BZ (B_ #[.int .u64 (a*b / 18446744073709551616%18446744073709551616),.int .u64 (a*b%18446744073709551616)])/\B9 w.heap.size w w':=by
 by_cases ga:a<0
 ·obtain⟨ua,qm⟩:∃ u,u=a+18446744073709551616:=⟨_,rfl⟩
  have hwa:IntKind.u64.wrap a=ua:=by rw[IntKind.wrap_u64];omega
  have sP:0<=ua:=by omega
  have lK:ua<18446744073709551616:=by omega
  by_cases gb:b<0
  ·obtain⟨ub,oN⟩:∃ u,u=b+18446744073709551616:=⟨_,rfl⟩
   have hwb:IntKind.u64.wrap b=ub:=by rw[IntKind.wrap_u64];omega
   have hv0:0<=ub:=by omega
   have pT:ub<18446744073709551616:=by omega
   have hq:IntKind.u64.wrap (IntKind.u64.wrap (ua*ub / 18446744073709551616-ub)-ua)=a*b / 18446744073709551616%18446744073709551616:=by
    rw[qm,oN,Int.add_mul,Int.mul_add,IntKind.wrap_u64,IntKind.wrap_u64];omega
   have hm:ua*ub%18446744073709551616=a*b%18446744073709551616:=by rw[qm,oN,Int.add_mul,Int.mul_add];omega
   clear qm oN;go_enter func167,ntmps167;go_wp2_with (go_at_call 193;refine(Jd6 _ _ _ ?_ ?_ ?_ ?_).mono ?_;(omega);(omega);(omega);(omega);rintro e w' ⟨rfl,rfl⟩)
   go_returns
   exact⟨rfl,by go_grown⟩
  ·have hq:IntKind.u64.wrap (ua*b / 18446744073709551616-b)=a*b / 18446744073709551616%18446744073709551616:=by
    rw[qm,Int.add_mul,IntKind.wrap_u64];omega
   have hm:ua*b%18446744073709551616=a*b%18446744073709551616:=by rw[qm,Int.add_mul];omega
   clear qm;go_enter func167,ntmps167;go_wp2_with (go_at_call 193;refine(Jd6 _ _ _ ?_ ?_ ?_ ?_).mono ?_;(omega);(omega);(omega);(omega);rintro e w' ⟨rfl,rfl⟩)
   go_returns
   exact⟨rfl,by go_grown⟩
 ·by_cases gb:b<0
  ·obtain⟨ub,oN⟩:∃ u,u=b+18446744073709551616:=⟨_,rfl⟩
   have hwb:IntKind.u64.wrap b=ub:=by rw[IntKind.wrap_u64];omega
   have hv0:0<=ub:=by omega
   have pT:ub<18446744073709551616:=by omega
   have hq:IntKind.u64.wrap (a*ub / 18446744073709551616-a)=a*b / 18446744073709551616%18446744073709551616:=by
    rw[oN,Int.mul_add,IntKind.wrap_u64];omega
   have hm:a*ub%18446744073709551616=a*b%18446744073709551616:=by rw[oN,Int.mul_add];omega
   clear oN;go_enter func167,ntmps167;go_wp2_with (go_at_call 193;refine(Jd6 _ _ _ ?_ ?_ ?_ ?_).mono ?_;(omega);(omega);(omega);(omega);rintro e w' ⟨rfl,rfl⟩)
   go_returns
   exact⟨rfl,by go_grown⟩
  ·have hp:=Jng a b (by omega) ha (by omega) hb;have hq:a*b / 18446744073709551616%18446744073709551616=a*b / 18446744073709551616:=by omega
   go_enter func167,ntmps167;go_wp2_with (go_at_call 193;refine(Jd6 _ _ _ ?_ ?_ ?_ ?_).mono ?_;(omega);(omega);(omega);(omega);rintro e w' ⟨rfl,rfl⟩)
   go_returns
   exact⟨by rw[hq],by go_grown⟩
theorem Jla(X Y:Int)(w:BV):
  Cd Tryz.prog 185 #[B_ #[.int .u64 (X / 18446744073709551616%18446744073709551616),.int .u64 (X%18446744073709551616)],B_ #[.int .u64 (Y / 18446744073709551616%18446744073709551616),.int .u64 (Y%18446744073709551616)]] w fun e w' =>
   e = BZ (B_ #[.int .u64 ((X+Y) / 18446744073709551616%18446744073709551616),.int .u64 ((X+Y)%18446744073709551616)])/\B9 w.heap.size w w':=by
 obtain⟨l1,cT⟩:∃ u,u=X%18446744073709551616:=⟨_,rfl⟩
 obtain⟨l2,fh⟩:∃ u,u=Y%18446744073709551616:=⟨_,rfl⟩
 obtain⟨h1,As⟩:∃ u,u=X / 18446744073709551616%18446744073709551616:=⟨_,rfl⟩
 obtain⟨h2,Au⟩:∃ u,u=Y / 18446744073709551616%18446744073709551616:=⟨_,rfl⟩
 rw[<- cT,<- fh,<- As,<- Au];have e1:(h1+h2+(l1+l2) / 18446744073709551616)%18446744073709551616=(X+Y) / 18446744073709551616%18446744073709551616:=by omega
 have e2:(l1+l2)%18446744073709551616=(X+Y)%18446744073709551616:=by omega
 have r1:=fun w=>Jjp l1 l2 0 w (by omega) (by omega) (by omega) (by omega);have r2:=fun w=>Jjp h1 h2 ((l1+l2) / 18446744073709551616) w (by omega) (by omega) (by omega) (by omega);clear cT fh As Au;go_enter func185,ntmps185;go_wp2
 go_returns
 exact⟨rfl,by go_grown⟩
theorem Jtw{k:IntKind}{a b:Int}(h:a=b):Ending.returned (.int k a) = BZ (.int k b):=by rw[h]
theorem Jh7{a b:Bool}(h:a=b):Ending.returned (BT a) = BZ (BT b):=by rw[h]
theorem Jr5{k:IntKind}{a b:Int}{c d:Bool}(h:a=b)(h':c=d):Ending.returned (.tuple #[.int k a,BT c]) = BZ (.tuple #[.int k b,BT d]):=by rw[h,h']
theorem Jib(X:Int)(w:BV)(h0:-170141183460469231731687303715884105728<=X)(h1:X<170141183460469231731687303715884105728):
  Cd Tryz.prog 212 #[B_ #[.int .u64 (X / 18446744073709551616%18446744073709551616),.int .u64 (X%18446744073709551616)]] w fun e w' =>
   e = BZ (BT (decide (X<0)))/\B9 w.heap.size w w':=by
 go_enter func212,ntmps212;go_wp2
 go_returns
 refine⟨Jh7 ?_,by go_grown⟩;rw[decide_eq_decide];unfold wrap64;omega
theorem Jkb(X:Int):bits .or .u64 (IntKind.u64.wrap (X / 18446744073709551616%18446744073709551616*4294967296)) (X%18446744073709551616 / 4294967296)=X / 4294967296%18446744073709551616:=by
 rw[IntKind.wrap_u64,u64_or _ _ (by omega) (by omega) (by omega) (by omega),nat_join 32 _ _ (by omega) (by omega)];omega
theorem Jjw(X:Int)(w:BV)(h0:-170141183460469231731687303715884105728<=X)(h1:X<170141183460469231731687303715884105728):
  Cd Tryz.prog 168 #[B_ #[.int .u64 (X / 18446744073709551616%18446744073709551616),.int .u64 (X%18446744073709551616)]] w fun e w' =>
   e = BZ (.tuple #[J I (wrap64 (X / 4294967296)),BT (decide (-9223372036854775808<=X / 4294967296/\X / 4294967296<9223372036854775808))])/\B9 w.heap.size w w':=by
 go_enter func168,ntmps168;go_wp2
 go_returns
 refine⟨Jr5 ?_ ?_,by go_grown⟩
 ·rw[Jkb];unfold wrap64;omega
 ·rw[Jkb,Bool.eq_iff_iff,beq_iff_eq,decide_eq_true_eq];unfold wrap64;omega
theorem Jl4(X Z:Int)(w:BV)(h0:-170141183460469231731687303715884105728<X)(h1:X<170141183460469231731687303715884105728)(hZ:(0<=X/\Z=X)\/(X<0/\Z = -X)):
  Cd Tryz.prog 210 #[B_ #[.int .u64 (X / 18446744073709551616%18446744073709551616),.int .u64 (X%18446744073709551616)]] w fun e w' =>
   e = BZ (B_ #[.int .u64 (Z / 18446744073709551616%18446744073709551616),.int .u64 (Z%18446744073709551616)])/\B9 w.heap.size w w':=by
 obtain⟨h,hh⟩:∃ u,u=X / 18446744073709551616%18446744073709551616:=⟨_,rfl⟩
 obtain⟨l,hl⟩:∃ u,u=X%18446744073709551616:=⟨_,rfl⟩
 rcases hZ with ⟨g,rfl⟩ |⟨g,hZ⟩
 ·rw[<- hl,<- hh];have hn:¬ wrap64 h<0:=by unfold wrap64;omega
  clear hl hh;go_enter func210,ntmps210;go_wp2
  go_returns
  exact⟨rfl,by go_grown⟩
 ·rw[<- hl,<- hh];have hn:wrap64 h<0:=by unfold wrap64;omega
  by_cases gl:l=0
  ·have r1:=fun w=>Jfy 0 l 0 w (by omega) (by omega) (by omega) (by omega) (by omega) (by omega);have r2:=fun w=>Jfy 0 h 0 w (by omega) (by omega) (by omega) (by omega) (by omega) (by omega);have e1:(0-h-0)%18446744073709551616=Z / 18446744073709551616%18446744073709551616:=by omega
   have e2:(0-l-0)%18446744073709551616=Z%18446744073709551616:=by omega
   rw[if_neg (by omega)]at r1;rw[e2]at r1;rw[e1,if_pos (by omega)]at r2;clear hl hh hZ e1 e2 gl;go_enter func210,ntmps210;go_wp2
   go_returns
   exact⟨rfl,by go_grown⟩
  ·have r1:=fun w=>Jfy 0 l 0 w (by omega) (by omega) (by omega) (by omega) (by omega) (by omega);have r2:=fun w=>Jfy 0 h 1 w (by omega) (by omega) (by omega) (by omega) (by omega) (by omega);have e1:(0-h-1)%18446744073709551616=Z / 18446744073709551616%18446744073709551616:=by omega
   have e2:(0-l-0)%18446744073709551616=Z%18446744073709551616:=by omega
   rw[if_pos (by omega)]at r1;rw[e2]at r1;rw[e1,if_pos (by omega)]at r2;clear hl hh hZ e1 e2 gl;go_enter func210,ntmps210;go_wp2
   go_returns
   exact⟨rfl,by go_grown⟩
theorem Jjl(hi lo y:Int)(w:BV)(ug:0<=hi)(hh:hi<y)(gT:0<=lo)(hl:lo<18446744073709551616)(hy:y<4611686018427387904):
  Cd Tryz.prog 211 #[.int .u64 hi,.int .u64 lo,.int .u64 y] w fun e w'=>e = BZ (.tuple #[.int .u64 ((hi*18446744073709551616+lo) / y),.int .u64 ((hi*18446744073709551616+lo)%y)])/\∃ n,w'=w.drewN n:=by
 rcases Int.lt_or_eq_of_le ug with h | h
 ·exact(Jsc hi lo y w (by omega) hh gT hl hy).mono fun e w' ⟨a,b⟩=>⟨a,0,by rw[b];rfl⟩
 ·subst h;exact(Jrj lo y w gT hl (by omega) hy).mono fun e w' ⟨a,b⟩=>⟨by rw[a];simp,1,by rw[b];rfl⟩
theorem Jm4(X:Int)(w:BV)(h0:-170141183460469231731687303715884105728<=X)(g:X<0):
  Cd Tryz.prog 212 #[B_ #[.int .u64 (X / 18446744073709551616%18446744073709551616),.int .u64 (X%18446744073709551616)]] w fun e w' =>
   e = BZ (BT true)/\B9 w.heap.size w w':=by
 simpa [g] using Jib X w h0 (by omega)
theorem Jos(X:Int)(w:BV)(h1:X<170141183460469231731687303715884105728)(g:0<=X):
  Cd Tryz.prog 212 #[B_ #[.int .u64 (X / 18446744073709551616%18446744073709551616),.int .u64 (X%18446744073709551616)]] w fun e w' =>
   e = BZ (BT false)/\B9 w.heap.size w w':=by
 simpa [show ¬ X<0 by omega] using Jib X w (by omega) h1
theorem Jf5{W w1:BV}{u v:B7}{t:TypeId}(hb:B9 (W.alloc (BP #[u,v] t)).heap.size (W.alloc (BP #[u,v] t)) w1):
  w1.cell? ⟨W.heap.size,0,none⟩=some u/\w1.cell? ⟨W.heap.size,1,none⟩=some v/\W.heap.size<w1.heap.size:=by
 refine⟨?_,?_,?_⟩
 ·rw[hb.cell (by simp)];simp
 ·rw[hb.cell (by simp)];simp
 ·have:=hb.size;simp at this;omega
theorem Jcv{w w1 w3:BV}{o o':Obj}{n:Nat}(hb:B9 (w.alloc o).heap.size (w.alloc o) w1)(ao:B9 ((w1.alloc o').drewN n).heap.size ((w1.alloc o').drewN n) w3):B9 w.heap.size w w3:=by
 have a:B9 w.heap.size w (w.alloc o):=(Below.refl _ _).alloc (Nat.le_refl _) _;have s1:=hb.size;have b:B9 w.heap.size w w1:=a.trans (hb.mono (by simp));have c:B9 w.heap.size w ((w1.alloc o').drewN n):=below_drewN (b.alloc (by simp at s1;omega) _) n;exact c.trans (ao.mono (by simp;simp at s1;omega))
theorem Jvl(X c Z d:Int)(w:BV)(h0:-170141183460469231731687303715884105728<X)(h1:X<170141183460469231731687303715884105728)
  (hZ:(0<=X/\Z=X)\/(X<0/\Z = -X)) (hd:(0<c/\d=c)\/(c<0/\d = -c)) (hc:d<=4611686018427387903) (hn:Z / d<=4611686018427387903) :
  Cd Tryz.prog 207 #[B_ #[.int .u64 (X / 18446744073709551616%18446744073709551616),.int .u64 (X%18446744073709551616)],J I c] w fun e w' =>
   e = BZ (.tuple #[J I (fl X c),BT true])/\B9 w.heap.size w w':=by
 obtain⟨xh,dS⟩:∃ u,u=X / 18446744073709551616%18446744073709551616:=⟨_,rfl⟩
 obtain⟨xl,db⟩:∃ u,u=X%18446744073709551616:=⟨_,rfl⟩
 obtain⟨zh,lE⟩:∃ u,u=Z / 18446744073709551616%18446744073709551616:=⟨_,rfl⟩
 obtain⟨zl,iR⟩:∃ u,u=Z%18446744073709551616:=⟨_,rfl⟩
 have eV:0<d:=by omega
 have yy:0<=Z:=by omega
 have lL:zh*18446744073709551616+zl=Z:=by omega
 obtain⟨n,ak⟩:∃ n,Z / d=n:=⟨_,rfl⟩
 obtain⟨r,iS⟩:∃ r,Z%d=r:=⟨_,rfl⟩
 have lm:0<=n:=by rw[<- ak];exact Int.ediv_nonneg yy (by omega)
 rw[ak]at hn;have uj:zh<d:=by
  have h:=(Jff Z d eV).2;rw[ak]at h;have g:(n+1)*d<=4611686018427387904*d:=Int.mul_le_mul_of_nonneg_right (by omega) (by omega);omega
 have eW:0<=zh:=by omega
 have gT:0<=zl:=by omega
 have cT:zl<18446744073709551616:=by omega
 have d_:0<=r:=by rw[<- iS];exact Int.emod_nonneg _ (by omega)
 have CS:BU _:=fun w=>Jl4 X Z w h0 h1 hZ;have CD:BU _:=fun w=>Jjl zh zl d w eW uj gT cT (by omega);have pU:BU ((-Z) / d=if r=0 then -n else -(n+1)):=by rw[<- ak,<- iS];exact neg_div eV
 have hdr:BU (r<d):=by rw[<- iS];exact Int.emod_lt_of_pos _ eV
 simp only[BU]at CS CD;rw[lL,ak,iS]at CD;rcases hZ with ⟨gX,eZ⟩ |⟨gX,eZ⟩
 ·have CB:=fun w=>Jos X w h1 gX;rw[<- dS,<- db]at *;rw[<- lE,<- iR]at CS;have CS:BU _:=CS;have CD:BU _:=CD;have CB:BU _:=CB;rcases hd with ⟨gc,ed⟩ |⟨gc,ed⟩
  ·have dm:fl X c=n:=by unfold fl;rw[if_neg (by omega),<- ak,eZ,ed]
   rw[dm];have hdec:decide (c<0)=false:=by simp;omega
   subst ed;clear dS db lE iR lL ak iS eZ dm h0 h1 pU;go_enter func207,ntmps207;go_wp2_with (first |(go_at_call 210;refine(CS.out _).mono ?_;rintro e w1 ⟨rfl,hb⟩;obtain⟨c1,c2,cF⟩:=Jf5 hb) |(go_at_call 211;refine(CD.out _).mono ?_;rintro e w2 ⟨rfl,nn,rfl⟩) |(go_at_call 212;refine(CB.out _).mono ?_;rintro e w3 ⟨rfl,ao⟩))
   go_returns
   exact⟨rfl,Jcv hb ao⟩
  ·have dm:fl X c=if r=0 then -n else -(n+1):=by unfold fl;rw[if_pos (by omega),<- eZ,<- ed];exact pU.out
   rw[dm];subst ed;clear dS db lE iR lL ak iS eZ dm h0 h1 pU;by_cases gr:r=0
   ·rw[if_pos gr];have gr':(r != 0)=false:=by simp[gr]
    clear gr;go_enter func207,ntmps207;go_wp2_with (first |(go_at_call 210;refine(CS.out _).mono ?_;rintro e w1 ⟨rfl,hb⟩;obtain⟨c1,c2,cF⟩:=Jf5 hb) |(go_at_call 211;refine(CD.out _).mono ?_;rintro e w2 ⟨rfl,nn,rfl⟩) |(go_at_call 212;refine(CB.out _).mono ?_;rintro e w3 ⟨rfl,ao⟩))
    go_returns
    exact⟨rfl,Jcv hb ao⟩
   ·rw[if_neg gr];have gr':(r != 0)=true:=by simp[gr]
    clear gr;go_enter func207,ntmps207;go_wp2_with (first |(go_at_call 210;refine(CS.out _).mono ?_;rintro e w1 ⟨rfl,hb⟩;obtain⟨c1,c2,cF⟩:=Jf5 hb) |(go_at_call 211;refine(CD.out _).mono ?_;rintro e w2 ⟨rfl,nn,rfl⟩) |(go_at_call 212;refine(CB.out _).mono ?_;rintro e w3 ⟨rfl,ao⟩))
    go_returns
    exact⟨rfl,Jcv hb ao⟩
 ·have CB:=fun w=>Jm4 X w (by omega) gX;rw[<- dS,<- db]at *;rw[<- lE,<- iR]at CS;have CS:BU _:=CS;have CD:BU _:=CD;have CB:BU _:=CB;rcases hd with ⟨gc,ed⟩ |⟨gc,ed⟩
  ·have dm:fl X c=if r=0 then -n else -(n+1):=by unfold fl;rw[if_neg (by omega),show X = -Z by omega,<- ed];exact pU.out
   rw[dm];subst ed;clear dS db lE iR lL ak iS eZ dm h0 h1 pU;by_cases gr:r=0
   ·rw[if_pos gr];have gr':(r != 0)=false:=by simp[gr]
    clear gr;go_enter func207,ntmps207;go_wp2_with (first |(go_at_call 210;refine(CS.out _).mono ?_;rintro e w1 ⟨rfl,hb⟩;obtain⟨c1,c2,cF⟩:=Jf5 hb) |(go_at_call 211;refine(CD.out _).mono ?_;rintro e w2 ⟨rfl,nn,rfl⟩) |(go_at_call 212;refine(CB.out _).mono ?_;rintro e w3 ⟨rfl,ao⟩))
    go_returns
    exact⟨rfl,Jcv hb ao⟩
   ·rw[if_neg gr];have gr':(r != 0)=true:=by simp[gr]
    clear gr;go_enter func207,ntmps207;go_wp2_with (first |(go_at_call 210;refine(CS.out _).mono ?_;rintro e w1 ⟨rfl,hb⟩;obtain⟨c1,c2,cF⟩:=Jf5 hb) |(go_at_call 211;refine(CD.out _).mono ?_;rintro e w2 ⟨rfl,nn,rfl⟩) |(go_at_call 212;refine(CB.out _).mono ?_;rintro e w3 ⟨rfl,ao⟩))
    go_returns
    exact⟨rfl,Jcv hb ao⟩
  ·have dm:fl X c=n:=by unfold fl;rw[if_pos (by omega),<- ak,eZ,ed]
   rw[dm];subst ed;clear dS db lE iR lL ak iS eZ dm h0 h1 pU;go_enter func207,ntmps207;go_wp2_with (first |(go_at_call 210;refine(CS.out _).mono ?_;rintro e w1 ⟨rfl,hb⟩;obtain⟨c1,c2,cF⟩:=Jf5 hb) |(go_at_call 211;refine(CD.out _).mono ?_;rintro e w2 ⟨rfl,nn,rfl⟩) |(go_at_call 212;refine(CB.out _).mono ?_;rintro e w3 ⟨rfl,ao⟩))
   go_returns
   exact⟨rfl,Jcv hb ao⟩
theorem Juk(X c Z d:Int)(w:BV)(h0:-170141183460469231731687303715884105728<X)(h1:X<170141183460469231731687303715884105728)
  (hZ:(0<=X/\Z=X)\/(X<0/\Z = -X)) (hd:(0<c/\d=c)\/(c<0/\d = -c)) (hc:d<=4611686018427387903) (hn:4611686018427387903<Z / d) :
  Cd Tryz.prog 207 #[B_ #[.int .u64 (X / 18446744073709551616%18446744073709551616),.int .u64 (X%18446744073709551616)],J I c] w fun e w' =>
   e = BZ (.tuple #[J I 0,BT false])/\B9 w.heap.size w w':=by
 obtain⟨xh,dS⟩:∃ u,u=X / 18446744073709551616%18446744073709551616:=⟨_,rfl⟩
 obtain⟨xl,db⟩:∃ u,u=X%18446744073709551616:=⟨_,rfl⟩
 obtain⟨zh,lE⟩:∃ u,u=Z / 18446744073709551616%18446744073709551616:=⟨_,rfl⟩
 obtain⟨zl,iR⟩:∃ u,u=Z%18446744073709551616:=⟨_,rfl⟩
 have eV:0<d:=by omega
 have yy:0<=Z:=by omega
 have lL:zh*18446744073709551616+zl=Z:=by omega
 obtain⟨n,ak⟩:∃ n,Z / d=n:=⟨_,rfl⟩
 obtain⟨r,iS⟩:∃ r,Z%d=r:=⟨_,rfl⟩
 rw[ak]at hn;have eW:0<=zh:=by omega
 have gT:0<=zl:=by omega
 have cT:zl<18446744073709551616:=by omega
 have d_:0<=r:=by rw[<- iS];exact Int.emod_nonneg _ (by omega)
 have CS:=fun w=>Jl4 X Z w h0 h1 hZ;rw[<- dS,<- db]at *;rw[<- lE,<- iR]at CS;by_cases uj:zh<d
 ·have CD:=fun w=>Jjl zh zl d w eW uj gT cT (by omega);rw[lL,ak,iS]at CD;have CS:BU _:=CS;have CD:BU _:=CD;clear dS db lE iR lL ak iS h0 h1 hZ;rcases hd with ⟨gc,ed⟩ |⟨gc,ed⟩ <;> subst ed
  all_goals
   go_enter func207,ntmps207;go_wp2_with (first |(go_at_call 210;refine(CS.out _).mono ?_;rintro e w1 ⟨rfl,hb⟩;obtain⟨c1,c2,cF⟩:=Jf5 hb) |(go_at_call 211;refine(CD.out _).mono ?_;rintro e w2 ⟨rfl,nn,rfl⟩))
   go_returns
   exact⟨rfl,Jcv hb (Below.refl _ _)⟩
 ·have CS:BU _:=CS;clear dS db lE iR lL ak iS h0 h1 hZ;rcases hd with ⟨gc,ed⟩ |⟨gc,ed⟩ <;> subst ed
  all_goals
   go_enter func207,ntmps207;go_wp2_with (first |(go_at_call 210;refine(CS.out _).mono ?_;rintro e w1 ⟨rfl,hb⟩;obtain⟨c1,c2,cF⟩:=Jf5 hb))
   go_returns
   exact⟨rfl,Jcv (n:=0) hb (Below.refl _ _)⟩
theorem Jot(X:Int)(w:BV)(h0:0<=X)(h1:X<170141183460469231731687303715884105728):
  Cd Tryz.prog 202 #[B_ #[.int .u64 (X / 18446744073709551616%18446744073709551616),.int .u64 (X%18446744073709551616)]] w fun e w' =>
   (∃ n:Nat,e = BZ (J I n)/\n<=127/\BU (X<2 ^ n))/\B9 w.heap.size w w':=by
 obtain⟨h,hh⟩:∃ u,u=X / 18446744073709551616%18446744073709551616:=⟨_,rfl⟩
 obtain⟨l,hl⟩:∃ u,u=X%18446744073709551616:=⟨_,rfl⟩
 rw[<- hh,<- hl];have bh:=Jdp h (by omega) (by omega);have bl:=Jdp l (by omega) (by omega);have e:X=h*18446744073709551616+l:=by omega
 have yA:h<9223372036854775808:=by omega
 have bh':bitLen h.toNat<=63:=by
  by_cases g:bitLen h.toNat<=63
  ·exact g
  ·exfalso
   by_cases z:h.toNat=0
   ·rw[z]at g;exact absurd g (by decide)
   ·have a:=(bitLen_spec h.toNat).2 z;have:=Nat.pow_le_pow_right (n:=2) (by omega) (show 63<=bitLen h.toNat-1 by omega);omega
 by_cases g:0<h
 ·have r:X<2 ^ (64+bitLen h.toNat):=by
   have a:=(bitLen_spec h.toNat).1;have a':h+1<=2 ^ bitLen h.toNat:=by
    have:((h.toNat:Nat):Int)<((2 ^ bitLen h.toNat:Nat):Int):=by exact_mod_cast a
    rw[Int.natCast_pow]at this;have:=Int.toNat_of_nonneg (show 0<=h by omega);simp at *;omega
   rw[Int.pow_add];have:=Int.mul_le_mul_of_nonneg_left a' (show(0:Int)<=2 ^ 64 by decide);omega
  have H0:0<=h:=by omega
  have H1:h<18446744073709551616:=by omega
  have R:BU _:=r;clear hh hl e h0 h1 r;go_enter func202,ntmps202;go_wp2_with (go_at_call 209;refine(Jg4 _ _ H0 H1).mono ?_;rintro e w' ⟨rfl,rfl⟩)
  go_returns
  refine⟨⟨64+bitLen h.toNat,Jtw (by omega),by omega,R⟩,by go_grown⟩
 ·have r:X<2 ^ (bitLen l.toNat):=by
   have a:=(bitLen_spec l.toNat).1;have:((l.toNat:Nat):Int)<((2 ^ bitLen l.toNat:Nat):Int):=by exact_mod_cast a
   rw[Int.natCast_pow]at this;have:=Int.toNat_of_nonneg (show 0<=l by omega);simp at *;omega
  have H0:0<=l:=by omega
  have H1:l<18446744073709551616:=by omega
  have R:BU _:=r;clear hh hl e h0 h1 r;go_enter func202,ntmps202;go_wp2_with (go_at_call 209;refine(Jg4 _ _ H0 H1).mono ?_;rintro e w' ⟨rfl,rfl⟩)
  go_returns
  refine⟨⟨bitLen l.toNat,rfl,by omega,R⟩,by go_grown⟩
theorem Jv8{a b:Int}{c:Bool}(h:¬ a<b):(decide (a<b)||c)=c:=by simp[h]
theorem Jqv(n X:Int)(w:BV)(lm:0<=n)(hn:n<18446744073709551616)(h0:0<=X)(h1:X<170141183460469231731687303715884105728):
  Cd Tryz.prog 203 #[.int .u64 n,B_ #[.int .u64 (X / 18446744073709551616%18446744073709551616),.int .u64 (X%18446744073709551616)]] w fun e w' =>
   e = BZ (BT (decide (X<n*n)))/\B9 w.heap.size w w':=by
 obtain⟨h,hh⟩:∃ u,u=X / 18446744073709551616%18446744073709551616:=⟨_,rfl⟩
 obtain⟨l,hl⟩:∃ u,u=X%18446744073709551616:=⟨_,rfl⟩
 rw[<- hh,<- hl];obtain⟨P,hP⟩:∃ P,P=n*n:=⟨_,rfl⟩
 obtain⟨ph,oO⟩:∃ P,P=n*n / 18446744073709551616:=⟨_,rfl⟩
 obtain⟨pl,fd⟩:∃ P,P=n*n%18446744073709551616:=⟨_,rfl⟩
 have CM:=fun w=>Jd6 n n w lm hn lm hn;rw[<- oO,<- fd]at CM;rw[<- hP]at *;have CM:BU _:=CM;by_cases g1:h<ph
 ·have r:decide (X<P)=true:=by simp;omega
  rw[r];clear hh hl hP oO fd r;go_enter func203,ntmps203;go_wp2_with (go_at_call 193;refine(CM.out _).mono ?_;rintro e w' ⟨rfl,rfl⟩)
  go_returns
  exact⟨rfl,by go_grown⟩
 ·by_cases g2:ph=h
  ·have r:decide (X<P)=decide (l<pl):=by rw[decide_eq_decide];omega
   rw[r];have g2':(ph == h)=true:=by simp[g2]
   clear hh hl hP oO fd r g2;go_enter func203,ntmps203;go_wp2_with (go_at_call 193;refine(CM.out _).mono ?_;rintro e w' ⟨rfl,rfl⟩)
   go_returns
   exact⟨Jh7 (by rw[Jv8 (by omega)]),by go_grown⟩
  ·have r:decide (X<P)=false:=by simp;omega
   rw[r];have g2':(ph == h)=false:=by simp[g2]
   clear hh hl hP oO fd r g2;go_enter func203,ntmps203;go_wp2_with (go_at_call 193;refine(CM.out _).mono ?_;rintro e w' ⟨rfl,rfl⟩)
   go_returns
   exact⟨Jh7 (by simp;omega),by go_grown⟩
def Jk1(X n:Int)(k:Nat):Prop:=n.toNat%2 ^ k=0/\n*n<=X/\X<(n+2 ^ k)*(n+2 ^ k)/\0<=n/\n+2 ^ k<=18446744073709551616
theorem Joh{X:Int}{n:Nat}(h0:0<=X)(hn:n<=127)(h:X<2 ^ n):Jk1 X 0 ((n+1) / 2):=by
 refine⟨by simp,by simpa using h0,?_,by omega,?_⟩
 ·rw[Int.zero_add,<- Int.pow_add];have:(2:Int) ^ n<=2 ^ ((n+1) / 2+(n+1) / 2):=by
   exact_mod_cast Nat.pow_le_pow_right (n:=2) (by omega) (show n<=(n+1) / 2+(n+1) / 2 by omega)
  omega
 ·rw[Int.zero_add];have:(2:Int) ^ ((n+1) / 2)<=2 ^ 64:=by
   exact_mod_cast Nat.pow_le_pow_right (n:=2) (by omega) (show(n+1) / 2<=64 by omega)
  simpa using this
theorem Jg5{X n:Int}{j:Nat}(h:Jk1 X n (j+1)):n+2 ^ j<18446744073709551616/\(n+2 ^ j).toNat%2 ^ j=0/\n.toNat%2 ^ j=0:=by
 obtain⟨a,b,c,d,e⟩:=h;have hp:(0:Int)<2 ^ j:=Int.pow_pos (by omega);rw[Int.pow_succ]at e;have hm:n.toNat%2 ^ j=0:=by
  rw[Nat.pow_succ]at a;have:=Nat.mod_mul_right_mod n.toNat (2 ^ j) 2;rw[a]at this
  simpa using this.symm
 refine⟨by omega,?_,hm⟩;have:(n+2 ^ j).toNat=n.toNat+2 ^ j:=by
  obtain⟨m,rfl⟩:=Int.eq_ofNat_of_zero_le d;have:((m:Int)+2 ^ j)=((m+2 ^ j:Nat):Int):=by simp
  rw[this,Int.toNat_natCast,Int.toNat_natCast]
 rw[this,Nat.add_mod_right,hm]
theorem Jun{X n:Int}{j:Nat}(h:Jk1 X n (j+1))(hc:(n+2 ^ j)*(n+2 ^ j)<=X):Jk1 X (n+2 ^ j) j:=by
 obtain⟨_,q,_⟩:=Jg5 h;obtain⟨a,b,c,d,e⟩:=h;have hp:(0:Int)<2 ^ j:=Int.pow_pos (by omega);have s:n+2 ^ j+2 ^ j=n+2 ^ (j+1):=by rw[Int.pow_succ];omega
 exact⟨q,hc,by rw[s];exact c,by omega,by rw[s];exact e⟩
theorem Jqi{X n:Int}{j:Nat}(h:Jk1 X n (j+1))(hc:X<(n+2 ^ j)*(n+2 ^ j)):Jk1 X n j:=by
 obtain⟨_,_,q⟩:=Jg5 h;obtain⟨a,b,c,d,e⟩:=h;have hp:(0:Int)<2 ^ j:=Int.pow_pos (by omega);rw[Int.pow_succ]at e;exact⟨q,b,hc,d,by omega⟩
theorem Jtm{n:Int}{j:Nat}(h0:0<=n)(h:n+2 ^ j<18446744073709551616)(hm:n.toNat%2 ^ (j+1)=0):bits .or .u64 n (2 ^ j)=n+2 ^ j:=by
 obtain⟨m,rfl⟩:=Int.eq_ofNat_of_zero_le h0;have e:((2:Int) ^ j)=((2 ^ j:Nat):Int):=by simp
 rw[e]at h ⊢;rw[u64_or_nat _ _ (by omega) (by omega),nat_join (j+1) _ _ (by simpa using hm) (Nat.pow_lt_pow_right (by omega) (by omega))];simp
theorem Jo2{w wr:BV}{o:Obj}(hb:B9 (w.alloc o).heap.size (w.alloc o) wr):B9 w.heap.size w wr:=
 ((Below.refl _ _).alloc (Nat.le_refl _) _).trans (hb.mono (by simp))
theorem Js7(X:Int)(w:BV)(h0:0<=X)(h1:X<170141183460469231731687303715884105728):
  Cd Tryz.prog 186 #[B_ #[.int .u64 (X / 18446744073709551616%18446744073709551616),.int .u64 (X%18446744073709551616)]] w fun e w' =>
   e = BZ (.tuple #[J I (wrap64 (isq X.toNat)),BT (decide ((isq X.toNat:Int)<=4611686018427387903))])/\B9 w.heap.size w w':=by
 have CL:=fun w=>Jot X w h0 h1;have CA:=fun n w a b=>Jqv n X w a b h0 h1;obtain⟨h,hh⟩:∃ u,u=X / 18446744073709551616%18446744073709551616:=⟨_,rfl⟩
 obtain⟨l,hl⟩:∃ u,u=X%18446744073709551616:=⟨_,rfl⟩
 rw[<- hh,<- hl]at CL CA ⊢;have KL:BU _:=CL;have KA:BU _:=CA;have H0:BU _:=h0;clear hh hl CL CA h0 h1;go_enter func186,ntmps186;go_wp2_with (go_at_call 202;refine(KL.out _).mono ?_;rintro e w1 ⟨⟨N,rfl,hN,HX⟩,hb⟩;obtain⟨c1,c2,cF⟩:=Jf5 hb)
 go_loopw [4,5] (fun a b wr=>∃(n p:Int) (k:Nat),a = .int .u64 n/\b=J I p/\p+1=k/\p<=63/\BU (Jk1 X n k)/\B9 (w.alloc (BP #[.int .u64 h,.int .u64 l] 185)).heap.size (w.alloc (BP #[.int .u64 h,.int .u64 l] 185)) wr) (fun _ b _=>(intOf b+1).toNat)
 case atStart=>exact⟨_,_,(N+1) / 2,rfl,rfl,by omega,by omega,Joh H0.out hN HX.out,hb⟩
 case round =>
  obtain⟨n,p,k,rfl,rfl,hk,hp,HI,fM⟩:=hrel;obtain⟨d1,d2,hsr⟩:=Jf5 fM;rcases k with _ | j
  ·have fj:p = -1:=by omega
   subst fj;have hI:=HI.out;obtain⟨_,i1,i2,i3,i4⟩:=hI;simp at i2 i4;obtain rfl:n=(isq X.toNat:Int):=isq_of i3 i1 i2;clear i1 i2 hk;go_wp2
   go_returns
   exact⟨rfl,Jo2 fM⟩
  ·have fj:p=(j:Int):=by omega
   subst fj;have hI:=HI.out;have hN0:0<=n:=hI.2.2.2.1;have nx:=Jg5 hI;have nE:=Jtm hN0 nx.1 hI.1;have bE:(0:Int)<2 ^ j:=Int.pow_pos (by omega);have hw:IntKind.u64.wrap (2 ^ j)=2 ^ j:=by rw[IntKind.wrap_u64];omega
   have hw':IntKind.u64.wrap (1*2 ^ j)=2 ^ j:=by rw[Int.one_mul];exact hw
   have hK:=fun w=>KA.out (n+2 ^ j) w (by omega) nx.1;obtain⟨m,hm⟩:∃ m,m=n+2 ^ j:=⟨_,rfl⟩
   rw[<- hm]at hK nE;by_cases hc:X<m*m
   ·have hK:BU (∀ w,Cd Tryz.prog 203 #[.int .u64 m,B_ #[.int .u64 h,.int .u64 l]] w fun e w'=>e = BZ (BT true)/\B9 w.heap.size w w'):=fun w=>by simpa [hc] using hK w
    have I2:BU (Jk1 X n j):=Jqi hI (by rw[<- hm];exact hc);clear hI nx hc hm bE;go_wp2_with (go_at_call 203;refine(hK.out _).mono ?_;rintro e w2 ⟨rfl,aj⟩)
    go_roundw
    case rel=>exact⟨_,_,j,rfl,rfl,by omega,by omega,I2,fM.trans (aj.mono (by have:=fM.size;omega))⟩
    case measure=>simp[intOf]
   ·have hK:BU (∀ w,Cd Tryz.prog 203 #[.int .u64 m,B_ #[.int .u64 h,.int .u64 l]] w fun e w'=>e = BZ (BT false)/\B9 w.heap.size w w'):=fun w=>by simpa [hc] using hK w
    have I2:BU (Jk1 X m j):=by rw[hm];exact Jun hI (by rw[<- hm];omega)
    clear hI nx hc hm bE;go_wp2_with (go_at_call 203;refine(hK.out _).mono ?_;rintro e w2 ⟨rfl,aj⟩)
    go_roundw
    case rel=>exact⟨_,_,j,rfl,rfl,by omega,by omega,I2,fM.trans (aj.mono (by have:=fM.size;omega))⟩
    case measure=>simp[intOf]
theorem Jhx(zs:List Int)(k:Nat)(h:k<zs.length)(hn:(zs.take k).any great=false):(zs.take (k+1)).any great=great (zs.getD k 0):=by
 rw[List.take_succ_eq_append_getElem h,List.any_append,hn];simp[List.getD_eq_getElem?_getD,List.getElem?_eq_getElem h]
theorem Jc5(zs:List Int)(b off cap:Nat)(w:BV)(cJ:zs.length<=4611686018427387904)(hc:∀ k,k<zs.length->w.cell? ⟨b,off+k,none⟩=some (J I (zs.getD k 0))):
  Cd Tryz.prog 164 #[BQ (some ⟨b,off,none⟩) zs.length cap] w fun e w'=>e = BZ (BT (zs.any great))/\w'=w:=by
 have HC:BU _:=hc;clear hc;go_enter func164,ntmps164;go_wp2
 go_loop [7] (fun i=>∃ k:Nat,k<=zs.length/\i=J I k/\BU ((zs.take k).any great=false)) (fun i=>zs.length-(intOf i).toNat)
 case atStart=>exact⟨0,Nat.zero_le _,rfl,by simp[BU]⟩
 case round =>
  obtain⟨k,hk,rfl,HG⟩:=hrel;by_cases aG:k<zs.length
  ·have ar:=HC.out k aG;have hs:=Jhx zs k aG HG.out;obtain⟨z,hz⟩:∃ z,zs.getD k 0=z:=⟨_,rfl⟩
   rw[hz]at ar hs;have HS:BU _:=hs;clear hs hz;by_cases g1:z < -4611686018427387903
   ·have ku:zs.any great=true:=by
     have:(zs.take (k+1)).any great=true:=by rw[HS.out];simp[great,g1]
     rw[List.any_eq_true]at this ⊢;obtain⟨x,hx,hg⟩:=this;exact⟨x,List.mem_of_mem_take hx,hg⟩
    go_wp2;go_ret;exact⟨rfl,rfl⟩
   ·by_cases g2:4611686018427387903<z
    ·have ku:zs.any great=true:=by
      have:(zs.take (k+1)).any great=true:=by rw[HS.out];simp[great,g2]
      rw[List.any_eq_true]at this ⊢;obtain⟨x,hx,hg⟩:=this;exact⟨x,List.mem_of_mem_take hx,hg⟩
     go_wp2;go_ret;exact⟨rfl,rfl⟩
    ·have di:BU ((zs.take (k+1)).any great=false):=by
      show _=false
      rw[HS.out];simp[great];omega
     go_wp2
     go_round
     case rel=>exact⟨k+1,by omega,by go_num,di⟩
     case measure=>simp[intOf];omega
  ·have ku:zs.any great=false:=by
    have:=HG.out;rwa [List.take_of_length_le (by omega)]at this
   go_wp2;go_ret;exact⟨rfl,rfl⟩
theorem Jp1(a:Option Ce)(cap:Nat)(w:BV):
  Cd Tryz.prog 164 #[BQ a 0 cap] w fun e w'=>e = BZ (BT false)/\w'=w:=by
 go_enter func164,ntmps164;go_wp2
 go_rounds 1
 go_ret;exact⟨rfl,rfl⟩
theorem Jcf(b off:Nat)(f:Bool)(w:BV)(hc:w.cell? ⟨b,off,none⟩=some (BT f))(hf:w.frozen? ⟨b,off,none⟩=false):
  Cd Tryz.prog 165 #[BO (some ⟨b,off,none⟩)] w fun e w'=>e = BZ (J I 0)/\w'=w.setCell ⟨b,off,none⟩ (BT true):=by
 go_enter func165,ntmps165;go_wp2;go_ret;exact⟨rfl,rfl⟩
theorem Jsy(a:Int)(w:BV):Cd Tryz.prog 164 #[BQ (some ⟨w.heap.size,0,none⟩) 1 1] (w.alloc (BP #[J I a] 3)) fun e w'=>e = BZ (BT (great a))/\w'=w.alloc (BP #[J I a] 3):=by
 have h:=Jc5 [a] w.heap.size 0 1 (w.alloc (BP #[J I a] 3)) (by simp) (fun k hk=>by
  match k,hk with
  | 0,_=>simp)
 simpa using h
theorem Jnx(a b:Int)(w:BV):Cd Tryz.prog 164 #[BQ (some ⟨w.heap.size,0,none⟩) 2 2] (w.alloc (BP #[J I a,J I b] 3)) fun e w'=>e = BZ (BT (great a||great b))/\w'=w.alloc (BP #[J I a,J I b] 3):=by
 have h:=Jc5 [a,b] w.heap.size 0 2 (w.alloc (BP #[J I a,J I b] 3)) (by simp) (fun k hk=>by
  match k,hk with
  | 0,_=>simp
  | 1,_=>simp)
 simpa using h
theorem Jvj(a b c:Int)(w:BV):Cd Tryz.prog 164 #[BQ (some ⟨w.heap.size,0,none⟩) 3 3] (w.alloc (BP #[J I a,J I b,J I c] 3)) fun e w'=>e = BZ (BT (great a ||(great b||great c)))/\w'=w.alloc (BP #[J I a,J I b,J I c] 3):=by
 have h:=Jc5 [a,b,c] w.heap.size 0 3 (w.alloc (BP #[J I a,J I b,J I c] 3)) (by simp) (fun k hk=>by
  match k,hk with
  | 0,_=>simp
  | 1,_=>simp
  | 2,_=>simp)
 simpa using h
def Jc1(p:Ce)(o:Option Int)(w:BV):BV:=if o.isNone then w.setCell p (BT true) else w
theorem Jc6{w w1:BV}{p:Ce}{v:B7}(hb:B9 w.heap.size w w1):B9 w.heap.size (w.setCell p v) (w1.setCell p v):=by
 refine⟨hb.os,hb.tape,hb.output,by simpa [World.setCell] using hb.size,fun k hk=>?_⟩;simp only[World.setCell,Array.getElem?_modify];rw[hb.block k hk]
theorem Jf{w w1:BV}{p:Ce}{v:B7}(hb:B9 w.heap.size w w1)(hc:w.cell? p=some v):w1.cell? p=some v:=(hb.cell (JB _ _ hc)).trans hc
theorem Jg{w w1:BV}{p:Ce}{v:B7}(hb:B9 w.heap.size w w1)(hc:w.cell? p=some v)(hf:w.frozen? p=false):w1.frozen? p=false:=(hb.frozen (JB _ _ hc)).trans hf
theorem Jd(w:BV)(o:Obj):B9 w.heap.size w (w.alloc o):=(Below.refl _ _).alloc (Nat.le_refl _) _
theorem Jrh(b off:Nat)(n:Int)(w:BV)(hg:great n=false):
  Cd Tryz.prog 166 #[BO (some ⟨b,off,none⟩),J I n,BT true] w fun e w'=>e = BZ (J I n)/\B9 w.heap.size w w':=by
 have C1:BU _:=Jsy n w;rw[hg]at C1;clear hg;go_enter func166,ntmps166;go_wp2_with (go_at_call 164;refine(JA C1.out ?_);rintro e w' ⟨rfl,rfl⟩);go_ret;exact⟨rfl,by go_grown⟩
theorem Jon(b off:Nat)(f:Bool)(n:Int)(w:BV)(hc:w.cell? ⟨b,off,none⟩=some (BT f))(hf:w.frozen? ⟨b,off,none⟩=false)(hg:great n=true):
  Cd Tryz.prog 166 #[BO (some ⟨b,off,none⟩),J I n,BT true] w fun e w'=>e = BZ (J I 0)/\B9 w.heap.size (w.setCell ⟨b,off,none⟩ (BT true)) w':=by
 have C1:=Jsy n w;have hb:=Jd w (BP #[J I n] 3);have C2:BU _:=Jcf b off f (w.alloc (BP #[J I n] 3)) (Jf hb hc) (Jg hb hc hf);have HB:BU _:=Jc6 (p:=⟨b,off,none⟩) (v:=BT true) hb;rw[hg]at C1;have K1:BU _:=C1;clear hg C1 hb hc hf;go_enter func166,ntmps166;go_wp2_with (first |(go_at_call 164;refine(JA K1.out ?_);rintro e w' ⟨rfl,rfl⟩) |(go_at_call 165;refine(JA C2.out ?_);rintro e w' ⟨rfl,rfl⟩));go_ret;exact⟨rfl,HB.out⟩
theorem Jum(b off:Nat)(f:Bool)(n:Int)(w:BV)(hc:w.cell? ⟨b,off,none⟩=some (BT f))(hf:w.frozen? ⟨b,off,none⟩=false):
  Cd Tryz.prog 166 #[BO (some ⟨b,off,none⟩),J I n,BT false] w fun e w'=>e = BZ (J I 0)/\B9 w.heap.size (w.setCell ⟨b,off,none⟩ (BT true)) w':=by
 have C2:BU _:=Jcf b off f w hc hf;clear hc hf;go_enter func166,ntmps166;go_wp2_with (go_at_call 165;refine(JA C2.out ?_);rintro e w' ⟨rfl,rfl⟩);go_ret;exact⟨rfl,Below.refl _ _⟩
theorem Jec(b off:Nat)(f:Bool)(n:Int)(w:BV)(hc:w.cell? ⟨b,off,none⟩=some (BT f))(hf:w.frozen? ⟨b,off,none⟩=false):
  Cd Tryz.prog 166 #[BO (some ⟨b,off,none⟩),J I n,BT true] w fun e w'=>e = BZ (J I ((Fx.told n).getD 0))/\B9 w.heap.size (Jc1 ⟨b,off,none⟩ (Fx.told n) w) w':=by
 cases hg:great n
 ·simpa [Fx.told,hg,Jc1] using Jrh b off n w hg
 ·simpa [Fx.told,hg,Jc1] using Jon b off f n w hc hf hg
theorem Jcu(b off:Nat)(f:Bool)(n:Int)(w:BV)(hc:w.cell? ⟨b,off,none⟩=some (BT f))(hf:w.frozen? ⟨b,off,none⟩=false):
  Cd Tryz.prog 166 #[BO (some ⟨b,off,none⟩),J I n,BT false] w fun e w'=>e = BZ (J I ((none:Option Int).getD 0))/\B9 w.heap.size (Jc1 ⟨b,off,none⟩ none w) w':=by
 simpa [Jc1] using Jum b off f n w hc hf
theorem Ja5{w w1 w2:BV}{p:Ce}{o:Option Int}(h1:B9 w.heap.size w w1)(h2:B9 w1.heap.size (Jc1 p o w1) w2):B9 w.heap.size (Jc1 p o w) w2:=by
 have hs:=h1.size;cases o with
 | none=>exact(Jc6 h1).trans (h2.mono hs)
 | some n=>exact h1.trans (h2.mono hs)
theorem Jtf(b off:Nat)(f:Bool)(x y:Int)(w:BV)(hc:w.cell? ⟨b,off,none⟩=some (BT f))(hf:w.frozen? ⟨b,off,none⟩=false):
  Cd Tryz.prog 125 #[BO (some ⟨b,off,none⟩),J I x,J I y] w fun e w'=>e = BZ (J I ((add x y).getD 0))/\B9 w.heap.size (Jc1 ⟨b,off,none⟩ (add x y) w) w':=by
 have C1:=Jnx x y w;have hb:=Jd w (BP #[J I x,J I y] 3);have hc':=Jf hb hc;have hf':=Jg hb hc hf;cases hg:(great x||great y)
 ·have cD:add x y=Fx.told (x+y):=by simp[add,hg]
  rw[cD];rw[hg]at C1;have hx:-4611686018427387903<=x/\x<=4611686018427387903:=(not_great x).1 (by simp at hg;exact hg.1);have hy:-4611686018427387903<=y/\y<=4611686018427387903:=(not_great y).1 (by simp at hg;exact hg.2);have C2:BU _:=Jec b off f (x+y) _ hc' hf';have K1:BU _:=C1;have HB:BU _:=hb;clear C1 hb hc hf hc' hf' hg cD;go_enter func125,ntmps125;go_wp2_with (first |(go_at_call 164;refine(JA K1.out ?_);rintro e w' ⟨rfl,rfl⟩) |(go_at_call 166;refine(JA C2.out ?_);rintro e w' ⟨rfl,aj⟩));go_ret;exact⟨rfl,Ja5 HB.out aj⟩
 ·have cD:add x y=none:=by simp only[add,hg,if_true]
  rw[cD];rw[hg]at C1;have C2:BU _:=Jcf b off f _ hc' hf';have K1:BU _:=C1;have HB:BU _:=Jc6 (p:=⟨b,off,none⟩) (v:=BT true) hb;clear C1 hb hc hf hc' hf' hg cD;go_enter func125,ntmps125;go_wp2_with (first |(go_at_call 164;refine(JA K1.out ?_);rintro e w' ⟨rfl,rfl⟩) |(go_at_call 165;refine(JA C2.out ?_);rintro e w' ⟨rfl,rfl⟩));go_ret;exact⟨rfl,HB.out⟩
theorem Ju{w w1 w2:BV}(h1:B9 w.heap.size w w1)(h2:B9 w1.heap.size w1 w2):B9 w.heap.size w w2:=h1.trans (h2.mono h1.size)
theorem Jim{x y:Int}(hx:-4611686018427387903<=x/\x<=4611686018427387903)(hy:-4611686018427387903<=y/\y<=4611686018427387903):-21267647932558653966460912964485513216<x*y/\x*y<21267647932558653966460912964485513216:=by
 have a:(x*y).natAbs<=4611686018427387903*4611686018427387903:=by rw[Int.natAbs_mul];exact Nat.mul_le_mul (by omega) (by omega)
 omega
theorem Jts(b off:Nat)(f:Bool)(x y:Int)(w:BV)(hc:w.cell? ⟨b,off,none⟩=some (BT f))(hf:w.frozen? ⟨b,off,none⟩=false):
  Cd Tryz.prog 111 #[BO (some ⟨b,off,none⟩),J I x,J I y] w fun e w'=>e = BZ (J I ((mul x y).getD 0))/\B9 w.heap.size (Jc1 ⟨b,off,none⟩ (mul x y) w) w':=by
 have C1:=Jnx x y w;have hb:=Jd w (BP #[J I x,J I y] 3);have hc':=Jf hb hc;have hf':=Jg hb hc hf;cases hg:(great x||great y)
 ·have hx:-4611686018427387903<=x/\x<=4611686018427387903:=(not_great x).1 (by simp at hg;exact hg.1);have hy:-4611686018427387903<=y/\y<=4611686018427387903:=(not_great y).1 (by simp at hg;exact hg.2);rw[hg]at C1;have K1:BU _:=C1;have HB:BU _:=hb;have HC:BU _:=hc;have HF:BU _:=hf;have hp:=Jim hx hy;have C3:BU _:=fun w=>Jdq x y w (by omega) (by omega) (by omega) (by omega);have C4:=fun w=>Jjw (x*y) w (by omega) (by omega);by_cases aP:-9223372036854775808<=x*y / 4294967296/\x*y / 4294967296<9223372036854775808
  ·have fT:mul x y=Fx.told (x*y / 4294967296):=by simp only[mul,hg];rfl
   rw[fT];rw[IntWalk.wrap64_in _ (by omega),decide_eq_true aP]at C4;have K4:BU _:=C4;clear C1 hb hc hf hc' hf' hg fT C4 aP hp;go_enter func111,ntmps111;go_wp2_with (first
    |(go_at_call 164;refine(JA K1.out ?_);rintro e w' ⟨rfl,rfl⟩)
    |(go_at_call 167;refine(JA (C3.out _) ?_);rintro e w1 ⟨rfl,ac⟩;have B1:BU _:=Ju HB.out ac)
    |(go_at_call 168;refine(JA (K4.out _) ?_);rintro e w2 ⟨rfl,aj⟩;have B2:BU _:=Ju B1.out aj)
    |(go_at_call 166;refine(JA (Jec b off f _ _ (Jf B2.out HC.out) (Jg B2.out HC.out HF.out)) ?_);rintro e w3 ⟨rfl,ao⟩))
   go_ret;exact⟨rfl,Ja5 B2.out ao⟩
  ·have fT:mul x y=none:=by
    have iD:great (x*y / 4294967296)=true:=by rw[great_iff];omega
    simp only[mul,hg,Fx.told,iD];rfl
   rw[fT];rw[decide_eq_false aP]at C4;have K4:BU _:=C4;clear C1 hb hc hf hc' hf' hg fT C4 aP hp;go_enter func111,ntmps111;go_wp2_with (first
    |(go_at_call 164;refine(JA K1.out ?_);rintro e w' ⟨rfl,rfl⟩)
    |(go_at_call 167;refine(JA (C3.out _) ?_);rintro e w1 ⟨rfl,ac⟩;have B1:BU _:=Ju HB.out ac)
    |(go_at_call 168;refine(JA (K4.out _) ?_);rintro e w2 ⟨rfl,aj⟩;have B2:BU _:=Ju B1.out aj)
    |(go_at_call 166;refine(JA (Jcu b off f _ _ (Jf B2.out HC.out) (Jg B2.out HC.out HF.out)) ?_);rintro e w3 ⟨rfl,ao⟩))
   go_ret;exact⟨rfl,Ja5 B2.out ao⟩
 ·have fT:mul x y=none:=by simp only[mul,hg,if_true]
  rw[fT];rw[hg]at C1;have C2:BU _:=Jcf b off f _ hc' hf';have K1:BU _:=C1;have HB:BU _:=Jc6 (p:=⟨b,off,none⟩) (v:=BT true) hb;clear C1 hb hc hf hc' hf' hg fT;go_enter func111,ntmps111;go_wp2_with (first |(go_at_call 164;refine(JA K1.out ?_);rintro e w' ⟨rfl,rfl⟩) |(go_at_call 165;refine(JA C2.out ?_);rintro e w' ⟨rfl,rfl⟩));go_ret;exact⟨rfl,HB.out⟩
theorem Jpw(b off:Nat)(f:Bool)(x y z:Int)(w:BV)(hc:w.cell? ⟨b,off,none⟩=some (BT f))(hf:w.frozen? ⟨b,off,none⟩=false):
  Cd Tryz.prog 192 #[BO (some ⟨b,off,none⟩),J I x,J I y,J I z] w fun e w'=>e = BZ (J I ((Jw x y z).getD 0))/\B9 w.heap.size (Jc1 ⟨b,off,none⟩ (Jw x y z) w) w':=by
 by_cases hz:z=0
 ·have hr:Jw x y z=none:=by simp only[Jw,hz,if_true]
  rw[hr];have C2:BU _:=Jcf b off f _ hc hf;have hz':(z == 0)=true:=by simp[hz]
  clear hc hf hz hr;go_enter func192,ntmps192;go_wp2_with (first |(go_at_call 165;refine(JA C2.out ?_);rintro e w' ⟨rfl,rfl⟩));go_ret;exact⟨rfl,Below.refl _ _⟩
 have hz':(z == 0)=false:=by simp[hz]
 have C1:=Jvj x y z w;have hb:=Jd w (BP #[J I x,J I y,J I z] 3);have hc':=Jf hb hc;have hf':=Jg hb hc hf;cases hg:(great x ||(great y||great z))
 ·have mG:great x=false/\great y=false/\great z=false:=by simpa using hg
  have hx:-4611686018427387903<=x/\x<=4611686018427387903:=(not_great x).1 mG.1;have hy:-4611686018427387903<=y/\y<=4611686018427387903:=(not_great y).1 mG.2.1;have hzz:-4611686018427387903<=z/\z<=4611686018427387903:=(not_great z).1 mG.2.2;rw[hg]at C1;have K1:BU _:=C1;have HB:BU _:=hb;have HC:BU _:=hc;have HF:BU _:=hf;have hp:=Jim hx hy;have C3:BU _:=fun w=>Jdq x y w (by omega) (by omega) (by omega) (by omega);obtain⟨Z,hZ⟩:∃ Z,(0<=x*y/\Z=x*y)\/(x*y<0/\Z = -(x*y)):=by
   by_cases h:0<=x*y
   ·exact⟨_,Or.inl ⟨h,rfl⟩⟩
   ·exact⟨_,Or.inr ⟨by omega,rfl⟩⟩
  obtain⟨d,hd⟩:∃ d,(0<z/\d=z)\/(z<0/\d = -z):=by
   by_cases h:0<z
   ·exact⟨_,Or.inl ⟨h,rfl⟩⟩
   ·exact⟨_,Or.inr ⟨by omega,rfl⟩⟩
  by_cases aP:Z / d<=4611686018427387903
  ·have hr:Jw x y z=Fx.told (fl (x*y) z):=by simp only[Jw,hg,hz];rfl
   rw[hr];have K4:BU _:=fun w=>Jvl (x*y) z Z d w (by omega) (by omega) hZ hd (by omega) aP;clear C1 hb hc hf hc' hf' hg hr aP hp hZ hd mG hz;go_enter func192,ntmps192;go_wp2_with (first
    |(go_at_call 164;refine(JA K1.out ?_);rintro e w' ⟨rfl,rfl⟩)
    |(go_at_call 167;refine(JA (C3.out _) ?_);rintro e w1 ⟨rfl,ac⟩;have B1:BU _:=Ju HB.out ac)
    |(go_at_call 207;refine(JA (K4.out _) ?_);rintro e w2 ⟨rfl,aj⟩;have B2:BU _:=Ju B1.out aj)
    |(go_at_call 166;refine(JA (Jec b off f _ _ (Jf B2.out HC.out) (Jg B2.out HC.out HF.out)) ?_);rintro e w3 ⟨rfl,ao⟩))
   go_ret;exact⟨rfl,Ja5 B2.out ao⟩
  ·have hr:Jw x y z=none:=by
    have iD:great (fl (x*y) z)=true:=by
     rw[great_iff];have eV:0<d:=by omega
     have hn:=neg_div (T:=Z) eV;unfold fl;rcases hZ with ⟨a,rfl⟩ |⟨a,e⟩ <;> rcases hd with ⟨g,rfl⟩ |⟨g,rfl⟩
     ·rw[if_neg (by omega)];omega
     ·rw[if_pos (by omega),hn];split <;> omega
     ·rw[if_neg (by omega),show x*y = -Z by omega,hn];split <;> omega
     ·rw[if_pos (by omega),<- e];omega
    simp only[Jw,hz,hg,Fx.told,iD];rfl
   rw[hr];have K4:BU _:=fun w=>Juk (x*y) z Z d w (by omega) (by omega) hZ hd (by omega) (by omega);clear C1 hb hc hf hc' hf' hg hr aP hp hZ hd mG hz;go_enter func192,ntmps192;go_wp2_with (first
    |(go_at_call 164;refine(JA K1.out ?_);rintro e w' ⟨rfl,rfl⟩)
    |(go_at_call 167;refine(JA (C3.out _) ?_);rintro e w1 ⟨rfl,ac⟩;have B1:BU _:=Ju HB.out ac)
    |(go_at_call 207;refine(JA (K4.out _) ?_);rintro e w2 ⟨rfl,aj⟩;have B2:BU _:=Ju B1.out aj)
    |(go_at_call 166;refine(JA (Jcu b off f _ _ (Jf B2.out HC.out) (Jg B2.out HC.out HF.out)) ?_);rintro e w3 ⟨rfl,ao⟩))
   go_ret;exact⟨rfl,Ja5 B2.out ao⟩
 ·have hr:Jw x y z=none:=by simp only[Jw,hz,hg,if_true,if_false]
  rw[hr];rw[hg]at C1;have C2:BU _:=Jcf b off f _ hc' hf';have K1:BU _:=C1;have HB:BU _:=Jc6 (p:=⟨b,off,none⟩) (v:=BT true) hb;clear C1 hb hc hf hc' hf' hg hr hz;go_enter func192,ntmps192;go_wp2_with (first |(go_at_call 164;refine(JA K1.out ?_);rintro e w' ⟨rfl,rfl⟩) |(go_at_call 165;refine(JA C2.out ?_);rintro e w' ⟨rfl,rfl⟩));go_ret;exact⟨rfl,HB.out⟩
theorem Jtt(b off:Nat)(f:Bool)(x y:Int)(w:BV)(hc:w.cell? ⟨b,off,none⟩=some (BT f))(hf:w.frozen? ⟨b,off,none⟩=false):
  Cd Tryz.prog 157 #[BO (some ⟨b,off,none⟩),J I x,J I y] w fun e w'=>e = BZ (J I ((Jw x 4294967296 y).getD 0))/\B9 w.heap.size (Jc1 ⟨b,off,none⟩ (Jw x 4294967296 y) w) w':=by
 have C:BU _:=Jpw b off f x 4294967296 y w hc hf;clear hc hf;go_enter func157,ntmps157;go_wp2_with (go_at_call 192;refine(JA C.out ?_);rintro e w' ⟨rfl,hb⟩);go_ret;exact⟨rfl,hb⟩
theorem Juo(b off:Nat)(f:Bool)(x y:Int)(w:BV)(hc:w.cell? ⟨b,off,none⟩=some (BT f))(hf:w.frozen? ⟨b,off,none⟩=false):
  Cd Tryz.prog 159 #[BO (some ⟨b,off,none⟩),J I x,J I y] w fun e w'=>e = BZ (J I ((sub x y).getD 0))/\B9 w.heap.size (Jc1 ⟨b,off,none⟩ (sub x y) w) w':=by
 have C1:=Jnx x y w;have hb:=Jd w (BP #[J I x,J I y] 3);have hc':=Jf hb hc;have hf':=Jg hb hc hf;cases hg:(great x||great y)
 ·have kv:sub x y=Fx.told (x-y):=by simp[sub,hg]
  rw[kv];rw[hg]at C1;have hx:-4611686018427387903<=x/\x<=4611686018427387903:=(not_great x).1 (by simp at hg;exact hg.1);have hy:-4611686018427387903<=y/\y<=4611686018427387903:=(not_great y).1 (by simp at hg;exact hg.2);have C2:BU _:=Jec b off f (x-y) _ hc' hf';have K1:BU _:=C1;have HB:BU _:=hb;clear C1 hb hc hf hc' hf' hg kv;go_enter func159,ntmps159;go_wp2_with (first |(go_at_call 164;refine(JA K1.out ?_);rintro e w' ⟨rfl,rfl⟩) |(go_at_call 166;refine(JA C2.out ?_);rintro e w' ⟨rfl,aj⟩));go_ret;exact⟨rfl,Ja5 HB.out aj⟩
 ·have kv:sub x y=none:=by simp only[sub,hg,if_true]
  rw[kv];rw[hg]at C1;have C2:BU _:=Jcf b off f _ hc' hf';have K1:BU _:=C1;have HB:BU _:=Jc6 (p:=⟨b,off,none⟩) (v:=BT true) hb;clear C1 hb hc hf hc' hf' hg kv;go_enter func159,ntmps159;go_wp2_with (first |(go_at_call 164;refine(JA K1.out ?_);rintro e w' ⟨rfl,rfl⟩) |(go_at_call 165;refine(JA C2.out ?_);rintro e w' ⟨rfl,rfl⟩));go_ret;exact⟨rfl,HB.out⟩
theorem Jtk(b off:Nat)(f:Bool)(zs:List Int)(bl ol cap:Nat)(w:BV)(hc:w.cell? ⟨b,off,none⟩=some (BT f))(hf:w.frozen? ⟨b,off,none⟩=false)
  (cJ:zs.length<=4611686018427387904) (hl:∀ k,k<zs.length->w.cell? ⟨bl,ol+k,none⟩=some (J I (zs.getD k 0))) (di:8<zs.length\/zs.any great=true) :
  Cd Tryz.prog 148 #[BO (some ⟨b,off,none⟩),BQ (some ⟨bl,ol,none⟩) zs.length cap] w fun e w'=>e = BZ (J I 0)/\w'=w.setCell ⟨b,off,none⟩ (BT true):=by
 have C2:BU _:=Jcf b off f w hc hf;have C1:=Jc5 zs bl ol cap w cJ hl;clear hl hc hf;by_cases h8:8<zs.length
 ·clear C1 di;go_enter func148,ntmps148;go_wp2_with (first |(go_at_call 165;refine(JA C2.out ?_);rintro e w' ⟨rfl,rfl⟩));go_ret;exact⟨rfl,rfl⟩
 ·have hg:zs.any great=true:=di.resolve_left h8;rw[hg]at C1;have K1:BU _:=C1;clear C1 di hg;go_enter func148,ntmps148;go_wp2_with (first |(go_at_call 164;refine(JA K1.out ?_);rintro e w' ⟨rfl,rfl⟩) |(go_at_call 165;refine(JA C2.out ?_);rintro e w' ⟨rfl,rfl⟩));go_ret;exact⟨rfl,rfl⟩
theorem Jpc{w wr w1 w2:BV}{u0 u1:B7}(v0 v1:B7)(HB:B9 w.heap.size w wr)(cF:w.heap.size<wr.heap.size)(ac:B9 wr.drew.heap.size wr.drew w1)(aj:B9 w1.heap.size w1 w2)
  (r0:w2.cell? ⟨w.heap.size,0,none⟩=some u0) (r1:w2.cell? ⟨w.heap.size,1,none⟩=some u1) (s0:w2.frozen? ⟨w.heap.size,0,none⟩=false) (s1:w2.frozen? ⟨w.heap.size,1,none⟩=false) :
  B9 w.heap.size w ((w2.setCell ⟨w.heap.size,0,none⟩ v0).setCell ⟨w.heap.size,1,none⟩ v1)/\w.heap.size<((w2.setCell ⟨w.heap.size,0,none⟩ v0).setCell ⟨w.heap.size,1,none⟩ v1).heap.size /\
  ((w2.setCell ⟨w.heap.size,0,none⟩ v0).setCell ⟨w.heap.size,1,none⟩ v1).cell? ⟨w.heap.size,0,none⟩=some v0/\((w2.setCell ⟨w.heap.size,0,none⟩ v0).setCell ⟨w.heap.size,1,none⟩ v1).cell? ⟨w.heap.size,1,none⟩=some v1 /\
  ((w2.setCell ⟨w.heap.size,0,none⟩ v0).setCell ⟨w.heap.size,1,none⟩ v1).frozen? ⟨w.heap.size,0,none⟩=false/\((w2.setCell ⟨w.heap.size,0,none⟩ v0).setCell ⟨w.heap.size,1,none⟩ v1).frozen? ⟨w.heap.size,1,none⟩=false:=by
 have a1:B9 w.heap.size w w1:=(HB.drew).trans (ac.mono (by simp;omega));have a2:=Ju a1 aj;have h1:=ac.size;have h2:=aj.size;simp at h1;refine⟨(a2.setCell (Nat.le_refl _) _).setCell (Nat.le_refl _) _,?_,?_,?_,?_,?_⟩
 ·simp;omega
 ·simp[go_sem,r0]
 ·simp[go_sem,r1]
 ·simp[go_sem,s0]
 ·simp[go_sem,s1]
theorem Jr1(b off:Nat)(f:Bool)(zs:List Int)(bl ol cap:Nat)(w:BV)(hc:w.cell? ⟨b,off,none⟩=some (BT f))(hf:w.frozen? ⟨b,off,none⟩=false)
  (hl:∀ k,k<zs.length->w.cell? ⟨bl,ol+k,none⟩=some (J I (zs.getD k 0))) (cJ:zs.length<=8) (hg:zs.any great=false) :
  Cd Tryz.prog 148 #[BO (some ⟨b,off,none⟩),BQ (some ⟨bl,ol,none⟩) zs.length cap] w fun e w'=>e = BZ (J I ((Fx.told (isq (Jaf zs zs).toNat)).getD 0))/\B9 w.heap.size (Jc1 ⟨b,off,none⟩ (Fx.told (isq (Jaf zs zs).toNat)) w) w':=by
 obtain⟨S,hS⟩:∃ S,S=Jaf zs zs:=⟨_,rfl⟩
 rw[<- hS];have hb:=Jdo zs zs hg hg;have hs:=Jei zs;rw[<- hS]at hb hs;have qC:S<170141183460469231731687303715884105728:=by omega
 have C4:=fun w=>Js7 S w hs qC;have kA:BU _:=hS;clear hb hS qC hs;have C1:=Jc5 zs bl ol cap w (by omega) hl;rw[hg]at C1;have K1:BU _:=C1;have K0:BU _:=C4;clear C4;have HC:BU _:=hc;have HF:BU _:=hf;have HL:BU _:=hl;have HG:BU _:=hg;clear C1 hc hf hl hg;go_enter func148,ntmps148;go_wp2_with (first |(go_at_call 164;refine(JA K1.out ?_);rintro e w' ⟨rfl,hw⟩;rw[hw];clear hw))
 go_loopw [19] (fun i wr=>∃(k:Nat) (X:Int),k<=zs.length/\i=J I k/\BU (X=Jaf (zs.take k) (zs.take k))/\BU (B9 w.heap.size w wr)/\w.heap.size<wr.heap.size/\wr.cell? ⟨w.heap.size,0,none⟩=some (.int .u64 (X / 18446744073709551616%18446744073709551616))/\wr.cell? ⟨w.heap.size,1,none⟩=some (.int .u64 (X%18446744073709551616))/\wr.frozen? ⟨w.heap.size,0,none⟩=false/\wr.frozen? ⟨w.heap.size,1,none⟩=false) (fun i _=>zs.length-(intOf i).toNat)
 case atStart=>exact⟨0,0,Nat.zero_le _,rfl,by simp[BU,Jaf],Jd _ _,by simp,by simp,by simp,by simp,by simp⟩
 case round =>
  obtain⟨k,X,hk,rfl,HX,HB,cF,d0,d1,f0,f1⟩:=hrel;by_cases aG:k<zs.length
  ·have ar:=Jf HB.out (HL.out k aG);have hz:=(not_great _).1 (Jdc HG.out aG);have HS:BU _:=Jej k zs zs aG aG;obtain⟨z,ez⟩:∃ z,zs.getD k 0=z:=⟨_,rfl⟩
   rw[ez]at ar hz HS;clear ez;have C3:BU _:=fun w=>Jdq z z w (by omega) (by omega) (by omega) (by omega);have C4:BU _:=fun w=>Jla X (z*z) w;obtain⟨xh,dS⟩:∃ u,u=X / 18446744073709551616%18446744073709551616:=⟨_,rfl⟩
   obtain⟨xl,db⟩:∃ u,u=X%18446744073709551616:=⟨_,rfl⟩
   rw[<- dS]at d0;rw[<- db]at d1;rw[<- dS,<- db]at C4;clear dS db;go_wp2
   go_region_with (first
    |(go_at_call 167;refine(JA (C3.out _) ?_);rintro e w1 ⟨rfl,ac⟩;have p0:=Jf ac d0;have p1:=Jf ac d1;have q0:=Jg ac d0 f0;have q1:=Jg ac d1 f1;have iV:=ac.size)
    |(go_at_call 185;refine(JA (C4.out _) ?_);rintro e w2 ⟨rfl,aj⟩;have r0:=Jf aj p0;have r1:=Jf aj p1;have s0:=Jg aj p0 q0;have s1:=Jg aj p1 q1;have nD:=aj.size))
   all_goals go_wp2
   all_goals go_roundw
   all_goals try (case rel=>obtain⟨m1,m2,m3,m4,m5,m6⟩:=Jpc (.int .u64 ((X+z*z) / 18446744073709551616%18446744073709551616)) (.int .u64 ((X+z*z)%18446744073709551616)) HB.out cF ac aj r0 r1 s0 s1;exact⟨k+1,X+z*z,by omega,by go_num,by show _=_;rw[HS.out,HX.out],m1,m2,m3,m4,m5,m6⟩)
   all_goals try (case measure=>simp[intOf];omega)
  ·obtain rfl:k=zs.length:=by omega
   obtain rfl:X=S:=by have:=HX.out;rw[List.take_length]at this;rw[this,kA.out]
   have C4:=K0.out;clear K0 HX kA hk aG;have mH:(0:Int)<=(isq X.toNat:Int):=by omega
   obtain⟨xh,dS⟩:∃ u,u=X / 18446744073709551616%18446744073709551616:=⟨_,rfl⟩
   obtain⟨xl,db⟩:∃ u,u=X%18446744073709551616:=⟨_,rfl⟩
   rw[<- dS]at d0;rw[<- db]at d1;rw[<- dS,<- db]at C4;clear dS db;have HB':=HB.out;by_cases aP:(isq X.toNat:Int)<=4611686018427387903
   ·rw[IntWalk.wrap64_in _ (by omega),decide_eq_true aP]at C4;have K4:BU _:=C4;clear C4 aP mH;go_wp2_with (first
     |(go_at_call 186;refine(JA (K4.out _) ?_);rintro e w2 ⟨rfl,aj⟩;have B2:BU _:=Ju HB.out aj)
     |(go_at_call 166;refine(JA (Jec b off f _ _ (Jf B2.out HC.out) (Jg B2.out HC.out HF.out)) ?_);rintro e w3 ⟨rfl,ao⟩))
    go_ret;exact⟨rfl,Ja5 B2.out ao⟩
   ·have ht:Fx.told (isq X.toNat)=none:=by
     have iD:great (isq X.toNat)=true:=by rw[great_iff];omega
     simp only[Fx.told,iD];rfl
    rw[decide_eq_false aP]at C4;have K4:BU _:=C4;have HT:BU _:=ht;clear C4 aP mH ht;go_wp2_with (first
     |(go_at_call 186;refine(JA (K4.out _) ?_);rintro e w2 ⟨rfl,aj⟩;have B2:BU _:=Ju HB.out aj)
     |(go_at_call 166;refine(JA (Jcu b off f _ _ (Jf B2.out HC.out) (Jg B2.out HC.out HF.out)) ?_);rintro e w3 ⟨rfl,ao⟩))
    go_ret;rw[HT.out];exact⟨rfl,Ja5 B2.out ao⟩
theorem Jlc(b off:Nat)(f:Bool)(zs:List Int)(bl ol cap:Nat)(w:BV)(hc:w.cell? ⟨b,off,none⟩=some (BT f))(hf:w.frozen? ⟨b,off,none⟩=false)
  (hl:∀ k,k<zs.length->w.cell? ⟨bl,ol+k,none⟩=some (J I (zs.getD k 0))) (cJ:zs.length<=4611686018427387904) :
  Cd Tryz.prog 148 #[BO (some ⟨b,off,none⟩),BQ (some ⟨bl,ol,none⟩) zs.length cap] w fun e w'=>e = BZ (J I ((Jah zs).getD 0))/\B9 w.heap.size (Jc1 ⟨b,off,none⟩ (Jah zs) w) w':=by
 by_cases h:8<zs.length\/zs.any great=true
 ·have hn:Jah zs=none:=by
   unfold Jah;rcases h with h | h
   ·rw[if_pos h]
   ·simp only[h,if_true,ite_self]
  rw[hn];exact(Jtk b off f zs bl ol cap w hc hf cJ hl h).mono fun e w' ⟨a,c⟩=>⟨a,by rw[c];exact Below.refl _ _⟩
 ·have h8:¬ 8<zs.length:=fun g=>h (Or.inl g);have hg:zs.any great=false:=by cases e:zs.any great with
   | false=>rfl
   | true=>exact absurd (Or.inr e) h
  have hn:Jah zs=Fx.told (isq (Jaf zs zs).toNat):=by unfold Jah;simp only[h8,hg,if_false];rfl
  rw[hn];exact Jr1 b off f zs bl ol cap w hc hf hl (by omega) hg
def Ja1(f:Bool)(o:Option Int)(v:Int)(g:Bool):Prop:=v=o.getD 0/\g=(f||o.isNone)
structure After(p:Ce)(g:Bool)(W W':BV):Prop where
 cell:W'.cell? p=some (BT g)
 frozen:W'.frozen? p=false
 size:W.heap.size<=W'.heap.size
 other:∀ q:Ce,q.block<W.heap.size->q.block≠p.block->W'.cell? q=W.cell? q/\W'.frozen? q=W.frozen? q
 below:∀(B:Nat) (w:BV),B9 B w W->B<=p.block->B<=W.heap.size->B9 B w W'
 kept:W'.os=W.os/\W'.tape=W.tape/\W'.output=W.output/\∀ k,k<W.heap.size->k≠p.block->W'.heap[k]?=W.heap[k]?
 beside:p.block<W.heap.size->∀ o,o≠p.off->W'.cell? ⟨p.block,o,none⟩=W.cell? ⟨p.block,o,none⟩/\W'.frozen? ⟨p.block,o,none⟩=W.frozen? ⟨p.block,o,none⟩
theorem After.cellOf{p q:Ce}{g:Bool}{W W':BV}(h:After p g W W'){v:B7}(hq:W.cell? q=some v)(ak:q.block≠p.block):W'.cell? q=some v:=(h.other q (JB _ _ hq) ak).1.trans hq
theorem After.frozenOf{p q:Ce}{g:Bool}{W W':BV}(h:After p g W W'){v:B7}(hq:W.cell? q=some v)(hf:W.frozen? q=false)(ak:q.block≠p.block):W'.frozen? q=false:=(h.other q (JB _ _ hq) ak).2.trans hf
theorem After.on{w W W':BV}{p:Ce}{g:Bool}(h:After p g W W')(hb:B9 w.heap.size w W)(hp:w.heap.size<=p.block):B9 w.heap.size w W':=h.below _ _ hb hp hb.size
theorem Jb5{b off:Nat}{f:Bool}{o:Option Int}{W W':BV}(hb:B9 W.heap.size (Jc1 ⟨b,off,none⟩ o W) W')(hc:W.cell? ⟨b,off,none⟩=some (BT f))(hf:W.frozen? ⟨b,off,none⟩=false):
  After ⟨b,off,none⟩ (f||o.isNone) W W':=by
 have aG:=JB _ _ hc;cases o with
 | some n =>
  have hb:B9 W.heap.size W W':=hb;refine⟨by rw[hb.cell aG,hc];simp,by rw[hb.frozen aG,hf],hb.size,fun q hq _=>⟨hb.cell hq,hb.frozen hq⟩,fun B w h _ hB=>h.trans (hb.mono hB),⟨hb.os,hb.tape,hb.output,fun k hk _=>hb.block k hk⟩,fun hp o _=>⟨hb.cell hp,hb.frozen hp⟩⟩
 | none =>
  have hb:B9 W.heap.size (W.setCell ⟨b,off,none⟩ (BT true)) W':=hb;have hs:=hb.size;simp[World.setCell]at hs;refine⟨?_,?_,by simpa using hs,fun q hq ak=>⟨?_,?_⟩,fun B w h hp hB=>(h.setCell hp _).trans (hb.mono hB),⟨hb.os,hb.tape,hb.output,fun k hk ak=>(hb.block k hk).trans (Below.heap_setCell _ _ _ _ ak)⟩,fun hp o ho=>⟨?_,?_⟩⟩
  ·rw[hb.cell aG];simp[go_sem,hc]
  ·rw[hb.frozen aG];simp[go_sem,hf]
  ·rw[hb.cell hq];exact World.cell?_of_block (w:=W) (Below.heap_setCell _ _ _ _ ak)
  ·rw[hb.frozen hq];exact World.frozen?_of_block (w:=W) (Below.heap_setCell _ _ _ _ ak)
  ·exact(hb.cell (p:=⟨b,o,none⟩) aG).trans (World.cell?_setCell_other _ _ _ _ (fun e=>ho (Addr.mk.inj e).2.1.symm))
  ·exact(hb.frozen (p:=⟨b,o,none⟩) aG).trans (by simp[go_sem])
theorem Jo9(b off:Nat)(f:Bool)(x y:Int)(W:BV)(hc:W.cell? ⟨b,off,none⟩=some (BT f))(hf:W.frozen? ⟨b,off,none⟩=false):
  Cd Tryz.prog 125 #[BO (some ⟨b,off,none⟩),J I x,J I y] W fun e W'=>∃ v g,e = BZ (J I v)/\BU (Ja1 f (add x y) v g)/\BU (After ⟨b,off,none⟩ g W W'):=
 (Jtf b off f x y W hc hf).mono fun _ _ ⟨a,h⟩=>⟨_,_,a,⟨rfl,rfl⟩,Jb5 h hc hf⟩
theorem Jgo(b off:Nat)(f:Bool)(x y:Int)(W:BV)(hc:W.cell? ⟨b,off,none⟩=some (BT f))(hf:W.frozen? ⟨b,off,none⟩=false):
  Cd Tryz.prog 159 #[BO (some ⟨b,off,none⟩),J I x,J I y] W fun e W'=>∃ v g,e = BZ (J I v)/\BU (Ja1 f (sub x y) v g)/\BU (After ⟨b,off,none⟩ g W W'):=
 (Juo b off f x y W hc hf).mono fun _ _ ⟨a,h⟩=>⟨_,_,a,⟨rfl,rfl⟩,Jb5 h hc hf⟩
theorem Jpj(b off:Nat)(f:Bool)(x y:Int)(W:BV)(hc:W.cell? ⟨b,off,none⟩=some (BT f))(hf:W.frozen? ⟨b,off,none⟩=false):
  Cd Tryz.prog 111 #[BO (some ⟨b,off,none⟩),J I x,J I y] W fun e W'=>∃ v g,e = BZ (J I v)/\BU (Ja1 f (mul x y) v g)/\BU (After ⟨b,off,none⟩ g W W'):=
 (Jts b off f x y W hc hf).mono fun _ _ ⟨a,h⟩=>⟨_,_,a,⟨rfl,rfl⟩,Jb5 h hc hf⟩
theorem Jph(b off:Nat)(f:Bool)(x y:Int)(W:BV)(hc:W.cell? ⟨b,off,none⟩=some (BT f))(hf:W.frozen? ⟨b,off,none⟩=false):
  Cd Tryz.prog 157 #[BO (some ⟨b,off,none⟩),J I x,J I y] W fun e W'=>∃ v g,e = BZ (J I v)/\BU (Ja1 f (Jw x 4294967296 y) v g)/\BU (After ⟨b,off,none⟩ g W W'):=
 (Jtt b off f x y W hc hf).mono fun _ _ ⟨a,h⟩=>⟨_,_,a,⟨rfl,rfl⟩,Jb5 h hc hf⟩
theorem Jp7(b off:Nat)(f:Bool)(x y z:Int)(W:BV)(hc:W.cell? ⟨b,off,none⟩=some (BT f))(hf:W.frozen? ⟨b,off,none⟩=false):
  Cd Tryz.prog 148 #[BO (some ⟨b,off,none⟩),BQ (some ⟨W.heap.size,0,none⟩) 3 3] (W.alloc (BP #[J I x,J I y,J I z] 3)) fun e W'=>∃ v g,e = BZ (J I v)/\BU (Ja1 f (Jah [x,y,z]) v g)/\BU (After ⟨b,off,none⟩ g W W'):=by
 have hb:=Jd W (BP #[J I x,J I y,J I z] 3);have hc':=Jf hb hc;have hf':=Jg hb hc hf;have h:=Jlc b off f [x,y,z] W.heap.size 0 3 (W.alloc (BP #[J I x,J I y,J I z] 3)) hc' hf' (fun k hk=>by
  match k,hk with
  | 0,_=>simp
  | 1,_=>simp
  | 2,_=>simp) (by simp)
 exact h.mono fun _ _ ⟨a,h⟩=>⟨_,_,a,⟨rfl,rfl⟩,Jb5 (Ja5 hb h) hc hf⟩
end
end Go.Proofs.YtkblcfgamnmbkaaGreat
