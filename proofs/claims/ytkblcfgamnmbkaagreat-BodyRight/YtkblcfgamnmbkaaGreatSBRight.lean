/- Bodies that may be are taken, checked, pushed and moved as the document says; steps of a 64th lead to none that may not be, but out of the world: for all raw bodies and vectors. -/
import Derived.Test.YtkblcfgamnmbkaaGreatEBRight14
import Derived.Test.YtkblcfgamnmbkaaGreatEBRight15
import Derived.Test.YtkblcfgamnmbkaaGreatEBRight7
import Derived.Test.YtkblcfgamnmbkaaGreatEBRight8
import Derived.Deep.CutRange
import Derived.Deep.LoopGhost
import Derived.Test.YtkblcfgamnmbkaaGreatRows
import Derived.ProofKit
import Derived.OpenShut
set_option maxHeartbeats 32000000
set_option maxRecDepth 100000
set_option linter.unusedVariables false
namespace Go.Proofs.YtkblcfgamnmbkaaGreat
open Go.Calls renaming mono -> JA
open Go.Proofs.Tryz
open Go.Value renaming int -> J
open Go.IntKind renaming i64 -> I
open Go.Obj renaming cells -> BP
open Go.Value renaming slice -> BQ
open Go.Value renaming bool -> BT
open Go.RowKit renaming Hid -> BU
open Go renaming World -> BV
open Go.Ending renaming returned -> BZ
open Go renaming Value -> B7
open Go.RowKit renaming Below -> B9
open Go.Value renaming agg -> B_
open Go renaming Calls -> Cd
open Go renaming Addr -> Ce
section
namespace bodyRight
open Go.ChangeShapes Go.WideShapes Go.ChangeAt Go.RowKit Go.Shelf
theorem own:ownKnob Tryz.prog.godebug=none:=by kernel_rfl
theorem Jkv:laidOutB Tryz.prog=true:=by kernel_rfl
open Fx
theorem walk(sk sr sx sy sz:Int)(so:Option Ce)(Ls:List Pt)(sc:Nat)(cg at1 at2 qa cv qc qd ms fr p0 p1 p2 l0 l1 l2:Int)(fx fa:Bool)(gr ma:Int)(v1 v2:V3)(w0:BV)
  (hb:∀ v∈([sk,sr,sx,sy,sz,cg,at1,at2,qa,cv,qc,qd,ms,fr,p0,p1,p2,l0,l1,l2,gr,ma]:List Int),-9223372036854775808<=v/\v<=9223372036854775807) (hL:Lies w0 (BQ so Ls.length sc) Ls) (hF:∀ p∈Ls,p.fits) (pT:∀ n∈([v1.x,v1.y,v1.z]:List Int),-9223372036854775808<=n/\n<=9223372036854775807) (uh:∀ n∈([v2.x,v2.y,v2.z]:List Int),-9223372036854775808<=n/\n<=9223372036854775807) :
  Cd Tryz.prog 3 #[B_ #[J I sk,J I sr,J I sx,J I sy,J I sz,BQ so Ls.length sc,J I cg,J I at1,J I at2,J I qa,J I cv,J I qc,J I qd,J I ms,J I fr,J I p0,J I p1,J I p2,J I l0,J I l1,J I l2,BT fx,BT fa,J I gr,J I ma],v1.val,v2.val] w0 fun e w'=>e = BZ (BT true)/\B9 w0.heap.size w0 w':=by
 have Aa:BU _:=fun(w':BV)(h:B9 w0.heap.size w0 w')=>Jlr sk sr sx sy sz so Ls sc cg at1 at2 qa cv qc qd ms fr p0 p1 p2 l0 l1 l2 fx fa gr ma w' hb (hL.below h) hF;have AW:BU _:=fun W=>Jhk W;have wU:BU _:=fun W=>Jf0 v1.x v1.y v1.z 274877906944 W (pT _ (by simp)) (pT _ (by simp)) (pT _ (by simp)) (by decide);have oH:isV ⟨Jak v1.x 274877906944,Jak v1.y 274877906944,Jak v1.z 274877906944⟩ 274877906944:=⟨Jbe _ (by decide),Jbe _ (by decide),Jbe _ (by decide)⟩
 obtain⟨q1,fK⟩:∃ q:V3,(⟨Jak v1.x 274877906944,Jak v1.y 274877906944,Jak v1.z 274877906944⟩:V3)=q:=⟨_,rfl⟩
 have Ab:Jak v1.x 274877906944=q1.x:=by rw[<- fK]
 have Ac:Jak v1.y 274877906944=q1.y:=by rw[<- fK]
 have Ad:Jak v1.z 274877906944=q1.z:=by rw[<- fK]
 rw[Ab,Ac,Ad]at wU;rw[fK]at oH;have bR:BU _:=oH;clear Ab Ac Ad fK oH pT;have wV:BU _:=fun W=>Jf0 v2.x v2.y v2.z 1099511627776 W (uh _ (by simp)) (uh _ (by simp)) (uh _ (by simp)) (by decide);have oI:isV ⟨Jak v2.x 1099511627776,Jak v2.y 1099511627776,Jak v2.z 1099511627776⟩ 1099511627776:=⟨Jbe _ (by decide),Jbe _ (by decide),Jbe _ (by decide)⟩
 obtain⟨q2,fL⟩:∃ q:V3,(⟨Jak v2.x 1099511627776,Jak v2.y 1099511627776,Jak v2.z 1099511627776⟩:V3)=q:=⟨_,rfl⟩
 have Ae:Jak v2.x 1099511627776=q2.x:=by rw[<- fL]
 have Af:Jak v2.y 1099511627776=q2.y:=by rw[<- fL]
 have Ag:Jak v2.z 1099511627776=q2.z:=by rw[<- fL]
 rw[Ae,Af,Ag]at wV;rw[fL]at oI;have cf:BU _:=oI;clear Ae Af Ag fL oI uh;clear hb hL hF;obtain⟨A0,iC⟩:∃ V,V=w0.alloc (BP #[J I sk,J I sr,J I sx,J I sy,J I sz,BQ so Ls.length sc,J I cg,J I at1,J I at2,J I qa,J I cv,J I qc,J I qd,J I ms,J I fr,J I p0,J I p1,J I p2,J I l0,J I l1,J I l2,BT fx,BT fa,J I gr,J I ma] 33):=⟨_,rfl⟩
 obtain⟨A1,sj⟩:∃ V,V=A0.alloc (BP #[J I v1.x,J I v1.y,J I v1.z] 27):=⟨_,rfl⟩
 obtain⟨A2,tV⟩:∃ V,V=A1.alloc (BP #[J I v2.x,J I v2.y,J I v2.z] 27):=⟨_,rfl⟩
 obtain⟨tb,pp⟩:∃ b,b=w0.heap.size:=⟨_,rfl⟩
 obtain⟨b1,ac⟩:∃ b,b=w0.heap.size+1:=⟨_,rfl⟩
 obtain⟨b2,aj⟩:∃ b,b=w0.heap.size+1+1:=⟨_,rfl⟩
 have z0:A0.heap.size=w0.heap.size+1:=by rw[iC,World.size_alloc]
 have z1:A1.heap.size=w0.heap.size+1+1:=by rw[sj,World.size_alloc,z0]
 have k0:=Jb w0 (BP #[J I sk,J I sr,J I sx,J I sy,J I sz,BQ so Ls.length sc,J I cg,J I at1,J I at2,J I qa,J I cv,J I qc,J I qd,J I ms,J I fr,J I p0,J I p1,J I p2,J I l0,J I l1,J I l2,BT fx,BT fa,J I gr,J I ma] 33);rw[<- iC]at k0;have n0:=CW.new w0 [J I sk,J I sr,J I sx,J I sy,J I sz,BQ so Ls.length sc,J I cg,J I at1,J I at2,J I qa,J I cv,J I qc,J I qd,J I ms,J I fr,J I p0,J I p1,J I p2,J I l0,J I l1,J I l2,BT fx,BT fa,J I gr,J I ma] 33;rw[<- iC,<- pp]at n0;have k1:=Jb A0 (BP #[J I v1.x,J I v1.y,J I v1.z] 27);rw[<- sj]at k1;have n1:=CW.new A0 [J I v1.x,J I v1.y,J I v1.z] 27;rw[<- sj,z0,<- ac]at n1;have k2:=Jb A1 (BP #[J I v2.x,J I v2.y,J I v2.z] 27);rw[<- tV]at k2;have n2:=CW.new A1 [J I v2.x,J I v2.y,J I v2.z] 27;rw[<- tV,z1,<- aj]at n2;have C0:BU (CW A2 tb [J I sk,J I sr,J I sx,J I sy,J I sz,BQ so Ls.length sc,J I cg,J I at1,J I at2,J I qa,J I cv,J I qc,J I qd,J I ms,J I fr,J I p0,J I p1,J I p2,J I l0,J I l1,J I l2,BT fx,BT fa,J I gr,J I ma]):=((n0.step k1).step k2)
 have C1:BU (CW A2 b1 [J I v1.x,J I v1.y,J I v1.z]):=(n1.step k2)
 have C2:BU (CW A2 b2 [J I v2.x,J I v2.y,J I v2.z]):=n2;have HB:BU (B9 w0.heap.size w0 A2):=(Jc (Jc k0 k1) k2)
 have h4:=CW.lt n2;have tH:BU (w0.heap.size<=tb/\tb<b1/\b1<b2/\b2<A2.heap.size):=by show _/\_;omega
 clear n0 k0 n1 k1 n2 k2 h4;go_enter func3,ntmps3;go_upto_region 1 with fail;rw[<- iC,<- sj,<- tV,<- aj,<- ac,<- pp];clear iC sj tV ac aj pp z0 z1;obtain⟨V1,dI⟩:∃ V,A2=V:=⟨_,rfl⟩
 rw[dI]at C0 C1 C2 HB tH ⊢;have wW:BU (b2<V1.heap.size):=by have h9:=tH.out;show _<_;omega
 clear dI AW;have au:BU (World.rangeAt V1 tb 0 [J I sk,J I sr,J I sx,J I sy,J I sz,BQ so Ls.length sc,J I cg,J I at1,J I at2,J I qa,J I cv,J I qc,J I qd,J I ms,J I fr,J I p0,J I p1,J I p2,J I l0,J I l1,J I l2,BT fx,BT fa,J I gr,J I ma]):=C0.out.range;go_wp2_with (refine wpList_load_mid rfl 33 _ rfl tb 0 rfl _ _ au.out underlying33 rfl (by kernel_rfl) ?_);refine JA (Aa.out _ HB.out) ?_;rintro e V2 ⟨bd,rs,u,rfl,bD,pX⟩;have kY:=bD.below;have C0:BU (CW _ _ _):=C0.out.step kY;have C1:BU (CW _ _ _):=C1.out.step kY;have C2:BU (CW _ _ _):=C2.out.step kY;have HB:BU (B9 w0.heap.size w0 V2):=Jc HB.out kY;have bQ:RestP (rs.l u) u:=Rs.rest rs (Jbb bD.row);have HRS:BU _:=bQ;obtain⟨x,yb⟩:∃ x,Jbr bd=x:=⟨_,rfl⟩
 rw[yb];have kJ:BU _:=Jn bQ.rest x;have fC:BU _:=Jj bQ.rest x;have kX:BU _:=bQ.rest.each x;have iQ:BU _:=bQ.rest.all x;obtain⟨cs,aM⟩:∃ l,x.L (rs.l u)=l:=⟨_,rfl⟩
 rw[aM]at kJ fC kX iQ ⊢;have bH:BU _:=aM;obtain⟨X2,fP⟩:∃ X,X=(V2.alloc (BP #[J I 0,J I 0,J I 0,J I 0,J I 0,J I 0,J I 0,J I 0,J I 0,J I 0,J I 0,J I 0,J I 0,J I 0,J I 0,J I 0,J I 0,J I 0,J I 0,J I 0,J I 0,J I 0,J I 0,BQ none 0 0,J I 0,J I 0,J I 0,BT false,J I 0,BT false,BT false] 39)).setCells V2.heap.size 0 cs:=⟨_,rfl⟩
 obtain⟨NX,BX,SX,TX⟩:=Jb3 V2 cs iQ.out;rw[<- fP]at NX BX SX;have i9:BU (World.there _ _ _ _):=TX;obtain⟨xb,yc⟩:∃ p,p=V2.heap.size:=⟨_,rfl⟩
 rw[<- yc]at NX;have C0:BU (CW _ _ _):=C0.out.step BX;have C1:BU (CW _ _ _):=C1.out.step BX;have C2:BU (CW _ _ _):=C2.out.step BX;have HB:BU (B9 w0.heap.size w0 X2):=Jc HB.out BX;have CX:BU (CW X2 xb cs):=NX;have Ah:BU (u.ownBlock≠some xb):=fun e=>by have:=(bD.row.lt _ e).2;omega
 have kS:BU (Row V1 X2 u rs.sh.pts):=bD.step BX;have kP:BU _:=pX;have tI:BU _:=yb;have Ai:BU (V1.heap.size<=xb/\xb<X2.heap.size):=by have h1:=bD.below.size;have h2:=CW.lt31 NX iQ.out;show _/\_;omega
 clear kY bD bQ aM NX BX SX TX pX yb Aa au;go_upto_region 2 with (refine wpList_store_mid rfl 39 _ _ rfl V2.heap.size 0 _ rfl rfl i9.out kJ.out kX.out ?_);rw[<- fP,<- yc];clear fP yc i9;have dR:BU (X2.ownsRow V1.heap.size 23 3 u rs.sh.pts.length (fl3 rs.sh.pts)):=kS.out.row;have p_:BU (rs.sh.pts.length<=100000):=Jne kP.out.good;clear kS C0;have rN:BU _:=kP.out.free tI.out;have kN:BU _:=kP.out.check tI.out;have wX:BU _:=And.intro (Jkz kP.out.p kP.out.l).1 (Jkz kP.out.p kP.out.l).2;rw[tI.out]at wX;obtain⟨uo,uc_,tT,_⟩:=(Lies.of_row dR.out).form;have wY:BU _:=tT;clear tT;have lD:BU (w0.heap.size<=b1/\b1<b2/\b2<xb/\xb<X2.heap.size):=by have e1:=tH.out;have e2:=wW.out;have e3:=Ai.out;show _/\_;omega
 have wZ:BU (b2<V1.heap.size):=wW.out;clear tH wW Ai kP tI;obtain⟨g0,lg⟩:=C1.out 0 _ rfl;obtain⟨g1,pD⟩:=C1.out 1 _ rfl;obtain⟨g2,pE⟩:=C1.out 2 _ rfl;go_wp2_with (fail);refine JA (wU.out _) ?_;rintro e Y1 ⟨rfl,hb⟩;clear g0 g1 g2 lg pD pE;have C1:BU (CW _ _ _):=C1.out.step hb;have C2:BU (CW _ _ _):=C2.out.step hb;have CX:BU (CW _ _ _):=CX.out.step hb;have HB:BU (B9 w0.heap.size w0 Y1):=Jc HB.out hb;have dR:BU (World.ownsRow _ _ _ _ _ _ _):=Jq dR.out hb;obtain⟨g0,lg⟩:=C1.out 0 _ rfl;obtain⟨g1,pD⟩:=C1.out 1 _ rfl;obtain⟨g2,pE⟩:=C1.out 2 _ rfl;obtain⟨Z1,hZ⟩:∃ V,V=(((Y1.setCell ⟨b1,0,none⟩ (J I q1.x)).setCell ⟨b1,1,none⟩ (J I q1.y)).setCell ⟨b1,2,none⟩ (J I q1.z)):=⟨_,rfl⟩
 have C2:BU (CW Z1 b2 [J I v2.x,J I v2.y,J I v2.z]):=by show CW _ _ _;rw[hZ];have ak:b1≠b2:=(by have:=lD.out;omega);exact(((C2.out.other (a:=⟨b1,0,none⟩) ak _).other (a:=⟨b1,1,none⟩) ak _).other (a:=⟨b1,2,none⟩) ak _)
 have C1:BU (CW Z1 b1 [J I q1.x,J I q1.y,J I q1.z]):=by show CW _ _ _;rw[hZ];exact(((C1.out.set 0 (J I q1.x) (by simp)).set 1 (J I q1.y) (by simp)).set 2 (J I q1.z) (by simp))
 have CX:BU (CW Z1 xb cs):=by show CW _ _ _;rw[hZ];have ak:b1≠xb:=(by have:=lD.out;omega);exact(((CX.out.other (a:=⟨b1,0,none⟩) ak _).other (a:=⟨b1,1,none⟩) ak _).other (a:=⟨b1,2,none⟩) ak _)
 have HB:BU (B9 w0.heap.size w0 Z1):=by show B9 _ _ _;rw[hZ];have hw:w0.heap.size<=b1:=(by have:=lD.out;omega);exact((HB.out.setCell hw _).setCell hw _).setCell hw _
 have dR:BU (Z1.ownsRow V1.heap.size 23 3 u rs.sh.pts.length (fl3 rs.sh.pts)):=by show World.ownsRow _ _ _ _ _ _ _;rw[hZ];refine Jed dR.out fun g hg=>?_;have ak:g≠b1:=(by have:=(dR.out.lt g hg).1;have h1:=lD.out;have h2:=wZ.out;omega);rw[Go.heap_setCell_other _ _ _ _ ak,Go.heap_setCell_other _ _ _ _ ak,Go.heap_setCell_other _ _ _ _ ak]
 go_upto_region 3 with fail;rw[<- hZ];clear hZ hb g0 g1 g2 lg pD pE wU;obtain⟨g0,lg⟩:=C2.out 0 _ rfl;obtain⟨g1,pD⟩:=C2.out 1 _ rfl;obtain⟨g2,pE⟩:=C2.out 2 _ rfl;go_wp2_with (fail);refine JA (wV.out _) ?_;rintro e Y2 ⟨rfl,hb⟩;clear g0 g1 g2 lg pD pE;have C1:BU (CW _ _ _):=C1.out.step hb;have C2:BU (CW _ _ _):=C2.out.step hb;have CX:BU (CW _ _ _):=CX.out.step hb;have HB:BU (B9 w0.heap.size w0 Y2):=Jc HB.out hb;have dR:BU (World.ownsRow _ _ _ _ _ _ _):=Jq dR.out hb;obtain⟨g0,lg⟩:=C2.out 0 _ rfl;obtain⟨g1,pD⟩:=C2.out 1 _ rfl;obtain⟨g2,pE⟩:=C2.out 2 _ rfl;obtain⟨Z2,hZ⟩:∃ V,V=(((Y2.setCell ⟨b2,0,none⟩ (J I q2.x)).setCell ⟨b2,1,none⟩ (J I q2.y)).setCell ⟨b2,2,none⟩ (J I q2.z)):=⟨_,rfl⟩
 have C1:BU (CW Z2 b1 [J I q1.x,J I q1.y,J I q1.z]):=by show CW _ _ _;rw[hZ];have ak:b2≠b1:=(by have:=lD.out;omega);exact(((C1.out.other (a:=⟨b2,0,none⟩) ak _).other (a:=⟨b2,1,none⟩) ak _).other (a:=⟨b2,2,none⟩) ak _)
 have C2:BU (CW Z2 b2 [J I q2.x,J I q2.y,J I q2.z]):=by show CW _ _ _;rw[hZ];exact(((C2.out.set 0 (J I q2.x) (by simp)).set 1 (J I q2.y) (by simp)).set 2 (J I q2.z) (by simp))
 have CX:BU (CW Z2 xb cs):=by show CW _ _ _;rw[hZ];have ak:b2≠xb:=(by have:=lD.out;omega);exact(((CX.out.other (a:=⟨b2,0,none⟩) ak _).other (a:=⟨b2,1,none⟩) ak _).other (a:=⟨b2,2,none⟩) ak _)
 have HB:BU (B9 w0.heap.size w0 Z2):=by show B9 _ _ _;rw[hZ];have hw:w0.heap.size<=b2:=(by have:=lD.out;omega);exact((HB.out.setCell hw _).setCell hw _).setCell hw _
 have dR:BU (Z2.ownsRow V1.heap.size 23 3 u rs.sh.pts.length (fl3 rs.sh.pts)):=by show World.ownsRow _ _ _ _ _ _ _;rw[hZ];refine Jed dR.out fun g hg=>?_;have ak:g≠b2:=(by have:=(dR.out.lt g hg).1;have h1:=lD.out;have h2:=wZ.out;omega);rw[Go.heap_setCell_other _ _ _ _ ak,Go.heap_setCell_other _ _ _ _ ak,Go.heap_setCell_other _ _ _ _ ak]
 go_upto_region 4 with fail;rw[<- hZ];clear hZ hb g0 g1 g2 lg pD pE wV;have au:BU (World.rangeAt Z2 xb 0 cs):=CX.out.range;have HC:BU _:=Jdd x rs u Z2 (Lies.of_row dR.out);rw[bH.out,kN.out]at HC;go_wp2_with (refine wpList_load_mid rfl 39 _ rfl xb 0 rfl _ _ au.out underlying39 rfl fC.out ?_);refine JA HC.out ?_;rintro e Z3 ⟨rfl,hb⟩;have C1:BU (CW _ _ _):=C1.out.step hb.out;have C2:BU (CW _ _ _):=C2.out.step hb.out;have CX:BU (CW _ _ _):=CX.out.step hb.out;have HB:BU (B9 w0.heap.size w0 Z3):=Jc HB.out hb.out;have dR:BU (World.ownsRow _ _ _ _ _ _ _):=Jq dR.out hb.out;clear HC hb au;have au:BU (World.rangeAt Z3 xb 0 cs):=CX.out.range;have HC:BU _:=bodyTells.walk x rs uo uc_ q1 q2 67108864 Z3 (by rw[<- wY.out];exact Lies.of_row dR.out) (fun v hv=>by have h:=wX.out;unfold isV at h;simp only[List.mem_cons,List.not_mem_nil,or_false]at hv;rcases hv with rfl | rfl | rfl | rfl | rfl | rfl <;> omega) (by decide);rw[<- wY.out,bH.out]at HC;have g0:=(C1.out 0 _ rfl).1;have k0:=(C2.out 0 _ rfl).1;have g1:=(C1.out 1 _ rfl).1;have k1:=(C2.out 1 _ rfl).1;have g2:=(C1.out 2 _ rfl).1;have k2:=(C2.out 2 _ rfl).1;go_wp2_with (first | refine Jck rfl 39 _ rfl xb 0 rfl _ _ au.out underlying39 rfl fC.out ?_);refine JA HC.out ?_;rintro e Z4 ⟨rfl,hb⟩;have CX:BU (CW _ _ _):=CX.out.step hb;have HB:BU (B9 w0.heap.size w0 Z4):=Jc HB.out hb;have dR:BU (World.ownsRow _ _ _ _ _ _ _):=Jq dR.out hb;clear HC hb au g0 g1 g2 k0 k1 k2 C1 C2 wX wY bR cf;obtain⟨P,hP⟩:∃ V,V=Z4.alloc (BP #[BT false] 47):=⟨_,rfl⟩
 obtain⟨pw,bE⟩:∃ b,b=Z4.heap.size:=⟨_,rfl⟩
 have tJ:B9 Z4.heap.size Z4 P:=by rw[hP];exact Jb _ _
 have Cw:CW P pw [BT false]:=by rw[hP,bE];exact CW.new Z4 [BT false] 47
 have Aj:BU (u.ownBlock≠some pw):=fun e=>by have:=(dR.out.lt _ e).2;omega
 have lY:xb<pw:=by have:=CW.lt31 CX.out iQ.out;omega
 have CX:BU (CW _ _ _):=CX.out.step tJ;have HB:BU (B9 w0.heap.size w0 P):=Jc HB.out tJ;have dR:BU (World.ownsRow _ _ _ _ _ _ _):=Jq dR.out tJ;have Ak:CW P xb (x.L (rs.l u)):=by have:=CX.out;rwa [<- bH.out]at this
 have HS:BU (GS w0 xb pw rs x u P):=⟨Cw,Ak,HB.out,⟨_,dR.out,Aj.out,Ah.out⟩,by have h1:=lD.out;have h2:=CW.lt Cw;omega⟩
 go_upto_region 7 with fail;rw[<- hP,<- bE];clear hP bE tJ Cw CX Ak HB dR Aj Ah lD wZ lY bH kJ fC kX iQ HRS;go_wp2_with (fail)
 go_loopg [9] 20 (fun gm s9 wr=>∃ i:Nat,i+gm=20/\s9=J I i/\∃(c:Bd) (uc:B7),BU (FJ x i c)/\BU (GS w0 xb pw rs c uc wr))
 case atStart=>exact⟨0,rfl,rfl,x,u,rN.out.2.1,HS⟩
 case round =>
  obtain⟨i,hi,rfl,c,uc,HJ,HS⟩:=hrel;rcases Nat.eq_zero_or_pos gk with h0 | h0
  ·obtain rfl:i=20:=by omega
   go_wp2;go_ret;exact⟨rfl,HS.out.below⟩
  ·obtain⟨gm,rfl⟩:∃ m,gk=m+1:=⟨gk-1,by omega⟩
   have hi20:(i:Int)<20:=by omega
   obtain⟨c',e1,e2,oJ,_,_⟩:=FJ.go rN.out.1 HJ.out (by omega);have oJ:BU (FJ x (i+1) c'):=oJ;obtain⟨bc,oc,yd,ye⟩:=HS.out.oc;have w7:=rs.rest (Jbb oc);have Al:BU _:=Jj w7.rest c;have au:BU (World.rangeAt wr xb 0 (c.L (rs.l uc))):=HS.out.c.range;have HC:BU _:=Jny pw 0 false c (rs.l uc) uc rs.sh.pts 67108864 (by decide) w7 wr (HS.out.w 0 _ rfl).1 (HS.out.w 0 _ rfl).2 (Lies.of_row oc) p_.out;rw[e1,e2]at HC;clear bc oc yd ye w7 e1 e2 HJ;go_wp2_with (refine wpList_load_mid rfl 39 _ rfl xb 0 rfl _ _ au.out underlying39 rfl Al.out ?_);refine JA HC.out ?_;rintro e M1 ⟨u1,rfl,A,HO⟩;rw[Rs.set]at *;have Am:BU (pw<wr.heap.size):=HS.out.o.2.2;have HS:BU (GS w0 xb pw rs c uc M1):=HS.out.flag A.out;have lK:=(rs.rest (Jbb HO.out)).rest;clear HC au A Al;obtain⟨bc,oc,yd,ye⟩:=HS.out.oc;have HT:BU (World.there M1 xb 0 (c'.L (rs.l u1)).toArray.size):=HS.out.c.thereB (rs.rest (Jbb oc)).rest lK;have hy:BU _:=Jn lK c';have h1:BU _:=lK.each c';have hz:BU _:=Jj lK c';have dh:BU (GS w0 xb pw rs c' u1 (M1.setCells xb 0 (c'.L (rs.l u1)))):=HS.out.put HO.out Am.out;clear bc oc yd ye HS lK HO Am;go_upto_region 11 with (refine wpList_store_mid rfl 39 _ _ rfl xb 0 _ rfl rfl HT.out hy.out h1.out ?_);generalize hY:World.setCells M1 xb 0 _=Y at dh ⊢;clear hY HT hy h1;obtain⟨g0,lg⟩:=dh.out.w 0 _ rfl;have au:BU (World.rangeAt Y xb 0 (c'.L (rs.l u1))):=dh.out.c.range;have HC:BU _:=Jkc c' (rs.l u1) Y;go_wp2_with (refine wpList_load_mid rfl 39 _ rfl xb 0 rfl _ _ au.out underlying39 rfl hz.out ?_);refine JA HC.out ?_;rintro e Y2 ⟨rfl,hb⟩;have dh:BU (GS w0 xb pw rs c' u1 Y2):=dh.out.step hb.out;clear HC au hb g0 lg;cases dN:inV c'.s 4398046511104 with
   | false =>
    go_wp2_with (fail);go_ret;exact⟨rfl,dh.out.below⟩
   | true =>
    obtain⟨bc,oc,_,_⟩:=dh.out.oc;have au:BU (World.rangeAt Y2 xb 0 (c'.L (rs.l u1))):=dh.out.c.range;have HC:BU _:=Jdd c' rs u1 Y2 (Lies.of_row oc);rw[oJ.out.check kN.out dN]at HC;clear bc oc dN;go_wp2_with (refine wpList_load_mid rfl 39 _ rfl xb 0 rfl _ _ au.out underlying39 rfl hz.out ?_);refine JA HC.out ?_;rintro e Y3 ⟨rfl,hb⟩;have dh:BU (GS w0 xb pw rs c' u1 Y3):=dh.out.step hb.out;clear HC au hb;go_wp2_with (fail)
    go_roundg gm
    case rel=>exact⟨i+1,by omega,by go_num,c',u1,oJ,dh⟩
    omega
theorem Jvm(os:Os)(started:os.Started)(H:Type)(enc:TypeId × B7->H):
  ReturnsInHanded {} Tryz.checked os 3 .any (Rows.bodyRightSpec.pre6 enc Tryz.prog Tryz.f3 Rows.bodyRightRow.domain false) (Rows.bodyRightSpec.post enc Tryz.prog Tryz.f3 false true false false):=by
 refine returnsInHanded_of_change (C:=Tryz.checked) own started (by kernel_rfl) func3
  (ChangeSpec.witness6 (enc:=enc) (C:=Tryz.checked) false ⟨#[],#[B_ #[J I 0,J I 0,J I 0,J I 0,J I 0,BQ none 0 0,J I 0,J I 0,J I 0,J I 0,J I 0,J I 0,J I 0,J I 0,J I 0,J I 0,J I 0,J I 0,J I 0,J I 0,J I 0,BT false,BT false,J I 0,J I 0],B_ #[J I 0,J I 0,J I 0],B_ #[J I 0,J I 0,J I 0]],[]⟩ 8 (by kernel_rfl) (by kernel_rfl) (by kernel_rfl) (by kernel_rfl)) ?_
 intro W base args ds gs before hval0 hW hcnd _;have hval:∀(j:Nat) t v,Tryz.f3.params[j]?=some t->args[j]?=some v->Value.okWide Tryz.prog W .any base t v:=hval0;have hW':=hW;obtain⟨p,q,iC,hV,rfl,hfz,pF⟩:=hW;have hA:DataW.TrodAll enc Tryz.prog W 0 (fun _=>true) true Tryz.f3.params.toList args.toList ds p:=iC;rw[params3]at hA hval;obtain⟨v0,vs0,d0,ds0,p0,q0,Bc,rfl,rfl,h0,r0⟩:=trodAll_cons hA;obtain⟨v1,vs1,d1,ds1,p1,q1,rfl,rfl,rfl,h1,r1⟩:=trodAll_cons r0;obtain⟨v2,vs2,d2,ds2,p2,q2,rfl,rfl,rfl,h2,r2⟩:=trodAll_cons r1;obtain⟨rfl,rfl,rfl⟩:=trodAll_nil r2;obtain rfl:args = #[v0,v1,v2]:=by cases args;simp_all
 obtain⟨rfl,rfl⟩:=trodVars_none hV;have k0:=h0;have lt0:∀ x∈p0,x.block<W.heap.size:=by obtain⟨m,hm⟩:=k0;exact DataW.trod_lt m _ _ _ hm
 obtain⟨kz,rz,hx,hy,hz,o,Ls,c,cg,at1,at2,qa,cv,qc,qd,ms,fr,pp0,pp1,pp2,l0,l1,l2,fx,fa,gr,ma,rfl,hLz,hFz,tt⟩:=Jnr (hval 0 33 v0 rfl rfl) h0;have k1:=h1;have sQ:∀ x∈p1,x.block<W.heap.size:=by obtain⟨m,hm⟩:=k1;exact DataW.trod_lt m _ _ _ hm
 obtain⟨am1,rfl,yf⟩:=Jjo (hval 1 27 v1 rfl rfl) h1;have k2:=h2;have nG:∀ x∈p2,x.block<W.heap.size:=by obtain⟨m,hm⟩:=k2;exact DataW.trod_lt m _ _ _ hm
 obtain⟨am2,rfl,yh⟩:=Jjo (hval 2 27 v2 rfl rfl) h2;clear iC hval0;refine(walk kz rz hx hy hz o Ls c cg at1 at2 qa cv qc qd ms fr pp0 pp1 pp2 l0 l1 l2 fx fa gr ma am1 am2 W tt hLz hFz yf yh).mono fun e W' ⟨he,bel⟩=>?_;subst he;exact⟨_,rfl,_,_,_,[],_,[],hW',trodAll_mk1 (shut_bool underlying4 _),(trodAll_cons_mk (Below.trod Jkv (by kernel_rfl) (of_decide_eq_true (by kernel_rfl)) k0 bel lt0) (trodAll_cons_mk (Below.trod Jkv (by kernel_rfl) (of_decide_eq_true (by kernel_rfl)) k1 bel sQ) (trodAll_cons_mk (Below.trod Jkv (by kernel_rfl) (of_decide_eq_true (by kernel_rfl)) k2 bel nG) trodAll_mk0))),rfl,bel.frame _,fun h=>by cases h⟩
theorem over:Rows.bodyRightRow.holds Tryz.pinned (OpenSpec.ofChange Rows.bodyRightSpec):=
 OpenClaim.holds_of_wide 3 Tryz.f3 rfl rfl rfl rfl rfl rfl rfl ⟨rfl,rfl,rfl,rfl,rfl⟩ rfl rfl rfl rfl rfl (by kernel_rfl) func3 (by kernel_rfl)
  (of_decide_eq_true (by kernel_rfl)) (by unfold Func.isWrapper;first |(rw[if_pos (by decide +kernel)];kernel_rfl) |(rw[if_neg (by decide +kernel)];exact⟨rfl,rfl⟩))
  (fun os started H enc _=>Jvm os started H enc)
end bodyRight
theorem bodyRight_holds:Rows.BodyRightSaid:=bodyRight.over
#print axioms bodyRight_holds
end
end Go.Proofs.YtkblcfgamnmbkaaGreat
