/- Layer 12's raw bodies: Right, of every raw body. -/
import Derived.Test.YtkblcfgamnmbkaaGreatEBRight8
import Derived.Test.YtkblcfgamnmbkaaGreatEBRight11
import Derived.Test.YtkblcfgamnmbkaaGreatEBRight9
import Derived.Test.YtkblcfgamnmbkaaGreatEBRight13
import Derived.Deep.CutRange
import Derived.Test.YtkblcfgamnmbkaaGreatEBRight7
import Derived.Test.YtkblcfgamnmbkaaGreatEBRight3
import Derived.Test.YtkblcfgamnmbkaaGreatEBRight10
import Derived.Deep.LoopGhost
import Derived.ProofKit
import Derived.OpenShut
set_option maxHeartbeats 16000000
set_option maxRecDepth 100000
set_option linter.unusedVariables false
namespace Go.Proofs.YtkblcfgamnmbkaaGreat
open Go.Calls renaming mono -> JA
open Go.Region renaming binds -> JC
open Go renaming execOp -> JD
open Go.World renaming size_alloc -> JE
open List renaming set_cons_succ -> JF
open List renaming set_cons_zero -> JG
open List renaming setIfInBounds_toArray -> JH
open Go.Proofs.Tryz
open Go.Value renaming int -> J
open Go.IntKind renaming i64 -> Y
open Go.Value renaming pointer -> BO
open Go.Obj renaming cells -> BP
open Go.Value renaming slice -> BQ
open Go.Value renaming bool -> BT
open Go.RowKit renaming Hid -> BU
open Go renaming World -> BV
open Go.Ending renaming returned -> BZ
open Go renaming Value -> B7
open Go.RowKit renaming Below -> B9
open Go.Value renaming agg -> B_
open Go renaming Calls -> Cd
open Go renaming Addr -> Ce
section
open Go.RowKit Go.Shelf Fx
theorem Jms{w:BV}{a b:Nat}{e:TypeId}{sz m:Nat}{v:B7}{xs:List B7}(hab:a<=b)(h:w.ownsRow b e sz v m xs):w.ownsRow a e sz v m xs:=by
 obtain⟨h1,h2⟩:=h;refine⟨h1,?_⟩;rcases h2 with h2 |⟨g,cap,cur,e,hb,r⟩
 ·exact Or.inl h2
 ·exact Or.inr ⟨g,cap,cur,e,Nat.le_trans hab hb,r⟩
structure Ok12(fx fa:Bool)(gr ma:Int)(b:Bd)(r:Rs):Prop where
 k:b.k=if fx then 1 else 2
 at_:Pt.inB ⟨b.s.x,b.s.y,b.s.z⟩ 4398046511104=true
 wh:WM.Whole b.q.w b.q.x b.q.y b.q.z
 m:16777216<=b.m/\b.m<=1099511627776
 i:b.i=⟨Jbp (Jex r.sh b.m).x 4096,Jbp (Jex r.sh b.m).y 4096,Jbp (Jex r.sh b.m).z 4096⟩
 p:(-1099511627776<=b.p.x/\b.p.x<=1099511627776)/\(-1099511627776<=b.p.y/\b.p.y<=1099511627776)/\(-1099511627776<=b.p.z/\b.p.z<=1099511627776)
 l:(-68719476736<=b.l.x/\b.l.x<=68719476736)/\(-68719476736<=b.l.y/\b.l.y<=68719476736)/\(-68719476736<=b.l.z/\b.l.z<=68719476736)
 fx:fx=true->b.p=⟨0,0,0⟩/\b.l=⟨0,0,0⟩
 good:Good r.sh
 rest:r.g=gr/\r.ma=ma/\r.fa=fa/\r.qu=0/\r.al=false/\r.ou=false/\0<=r.fr/\r.fr<=4294967296
theorem Jlr(k r hx hy hz:Int)(o:Option Ce)(Ls:List Pt)(c:Nat)(cg at1 at2 qa cv qc qd ms fr p0 p1 p2 l0 l1 l2:Int)(fx fa:Bool)(gr ma:Int)(w0:BV)
  (hb:∀ v∈([k,r,hx,hy,hz,cg,at1,at2,qa,cv,qc,qd,ms,fr,p0,p1,p2,l0,l1,l2,gr,ma]:List Int),-9223372036854775808<=v/\v<=9223372036854775807) (hL:Lies w0 (BQ o Ls.length c) Ls) (hF:∀ p∈Ls,p.fits) :
  Cd Tryz.prog 9 #[B_ #[J Y k,J Y r,J Y hx,J Y hy,J Y hz,BQ o Ls.length c,J Y cg,J Y at1,J Y at2,J Y qa,J Y cv,J Y qc,J Y qd,J Y ms,J Y fr,J Y p0,J Y p1,J Y p2,J Y l0,J Y l1,J Y l2,BT fx,BT fa,J Y gr,J Y ma]] w0 fun e W=>∃(b:Bd) (r:Rs) (u:B7),e = BZ (B_ ((Jbr b).L (r.l u)).toArray)/\Row w0 W u r.sh.pts/\Ok12 fx fa gr ma b r:=by
 have zS:BU _:=fun(w':BV)(h:B9 w0.heap.size w0 w')=>Jqn k r hx hy hz _ Ls w' (hb k (by simp)) (hb r (by simp)) (hb hx (by simp)) (hb hy (by simp)) (hb hz (by simp)) (hL.below h) hF;have ui:BU _:=fun w'=>Jgi ms 1099494850561 w' (hb ms (by simp)) (by decide) (by decide);have rN:BU _:=fun w'=>Jgv (Jgi fr 4294967297 w' (hb fr (by simp)) (by decide) (by decide));have zT:BU _:=fun w'=>Jo1 cg at1 at2 qa cv qc qd w' (hb cg (by simp)) (hb at1 (by simp)) (hb at2 (by simp)) (hb qa (by simp)) (hb cv (by simp)) (hb qc (by simp)) (hb qd (by simp));have zU:BU _:=fun w'=>Jf0 p0 p1 p2 1099511627776 w' (hb p0 (by simp)) (hb p1 (by simp)) (hb p2 (by simp)) (by decide);have zV:BU _:=fun w'=>Jf0 l0 l1 l2 68719476736 w' (hb l0 (by simp)) (hb l1 (by simp)) (hb l2 (by simp)) (by decide);have ja0:=Jbe p0 (m:=1099511627776) (by decide);have jb0:=Jbe l0 (m:=68719476736) (by decide);generalize Jak p0 1099511627776=a0 at *;generalize Jak l0 68719476736=b0 at *;have ja1:=Jbe p1 (m:=1099511627776) (by decide);have jb1:=Jbe l1 (m:=68719476736) (by decide);generalize Jak p1 1099511627776=a1 at *;generalize Jak l1 68719476736=b1 at *;have ja2:=Jbe p2 (m:=1099511627776) (by decide);have jb2:=Jbe l2 (m:=68719476736) (by decide);generalize Jak p2 1099511627776=a2 at *;generalize Jak l2 68719476736=b2 at *;have jm0:=Jby ms (n:=1099494850561) (by decide);have jm1:=Jbz ms (n:=1099494850561) (by decide);have jf0:=Jby fr (n:=4294967297) (by decide);have jf1:=Jbz fr (n:=4294967297) (by decide);generalize Jbq ms 1099494850561=mp at *;generalize Jbq fr 4294967297=fn at *;obtain⟨m,hm⟩:∃ x,16777216+mp=x:=⟨_,rfl⟩
 have zW:IntKind.i64.wrap (16777216+mp)=m:=by rw[hm,IntKind.wrap_i64];omega
 have HJ:BU ((16777216<=m/\m<=1099511627776)/\(0<=fn/\fn<=4294967296)/\(-1099511627776<=a0/\a0<=1099511627776)/\(-1099511627776<=a1/\a1<=1099511627776)/\(-1099511627776<=a2/\a2<=1099511627776)/\(-68719476736<=b0/\b0<=68719476736)/\(-68719476736<=b1/\b1<=68719476736)/\(-68719476736<=b2/\b2<=68719476736)):=by show _/\_;omega
 clear hb hL hF hm jm0 jm1 jf0 jf1 ja0 jb0 ja1 jb1 ja2 jb2;obtain⟨V0,iv⟩:∃ V,V=w0.alloc (BP #[J Y k,J Y r,J Y hx,J Y hy,J Y hz,BQ o Ls.length c,J Y cg,J Y at1,J Y at2,J Y qa,J Y cv,J Y qc,J Y qd,J Y ms,J Y fr,J Y p0,J Y p1,J Y p2,J Y l0,J Y l1,J Y l2,BT fx,BT fa,J Y gr,J Y ma] 33):=⟨_,rfl⟩
 obtain⟨V1,dI⟩:∃ V,V=V0.alloc (BP #[J Y 0,J Y 0,J Y 0,J Y 0,J Y 0,J Y 0,J Y 0,J Y 0,J Y 0,J Y 0,J Y 0,J Y 0,J Y 0,J Y 0,J Y 0,J Y 0,J Y 0,J Y 0,J Y 0,J Y 0,J Y 0,J Y 0,J Y 0,BQ none 0 0,J Y 0,J Y 0,J Y 0,BT false,J Y 0,BT false,BT false] 39):=⟨_,rfl⟩
 obtain⟨tb,pp⟩:∃ b,b=w0.heap.size:=⟨_,rfl⟩
 obtain⟨rb,lc⟩:∃ b,b=w0.heap.size+1:=⟨_,rfl⟩
 have z0:V0.heap.size=w0.heap.size+1:=by rw[iv,JE]
 have k0:=Jb w0 (BP #[J Y k,J Y r,J Y hx,J Y hy,J Y hz,BQ o Ls.length c,J Y cg,J Y at1,J Y at2,J Y qa,J Y cv,J Y qc,J Y qd,J Y ms,J Y fr,J Y p0,J Y p1,J Y p2,J Y l0,J Y l1,J Y l2,BT fx,BT fa,J Y gr,J Y ma] 33);have k1:=Jb V0 (BP #[J Y 0,J Y 0,J Y 0,J Y 0,J Y 0,J Y 0,J Y 0,J Y 0,J Y 0,J Y 0,J Y 0,J Y 0,J Y 0,J Y 0,J Y 0,J Y 0,J Y 0,J Y 0,J Y 0,J Y 0,J Y 0,J Y 0,J Y 0,BQ none 0 0,J Y 0,J Y 0,J Y 0,BT false,J Y 0,BT false,BT false] 39);rw[<- iv]at k0;rw[<- dI]at k1;have n0:=CW.new w0 [J Y k,J Y r,J Y hx,J Y hy,J Y hz,BQ o Ls.length c,J Y cg,J Y at1,J Y at2,J Y qa,J Y cv,J Y qc,J Y qd,J Y ms,J Y fr,J Y p0,J Y p1,J Y p2,J Y l0,J Y l1,J Y l2,BT fx,BT fa,J Y gr,J Y ma] 33;have n1:=CW.new V0 [J Y 0,J Y 0,J Y 0,J Y 0,J Y 0,J Y 0,J Y 0,J Y 0,J Y 0,J Y 0,J Y 0,J Y 0,J Y 0,J Y 0,J Y 0,J Y 0,J Y 0,J Y 0,J Y 0,J Y 0,J Y 0,J Y 0,J Y 0,BQ none 0 0,J Y 0,J Y 0,J Y 0,BT false,J Y 0,BT false,BT false] 39;rw[<- iv,<- pp]at n0;rw[<- dI,z0,<- lc]at n1;have CT:BU (CW V1 tb [J Y k,J Y r,J Y hx,J Y hy,J Y hz,BQ o Ls.length c,J Y cg,J Y at1,J Y at2,J Y qa,J Y cv,J Y qc,J Y qd,J Y ms,J Y fr,J Y p0,J Y p1,J Y p2,J Y l0,J Y l1,J Y l2,BT fx,BT fa,J Y gr,J Y ma]):=n0.step k1;have CR:BU (CW V1 rb [J Y 0,J Y 0,J Y 0,J Y 0,J Y 0,J Y 0,J Y 0,J Y 0,J Y 0,J Y 0,J Y 0,J Y 0,J Y 0,J Y 0,J Y 0,J Y 0,J Y 0,J Y 0,J Y 0,J Y 0,J Y 0,J Y 0,J Y 0,BQ none 0 0,J Y 0,J Y 0,J Y 0,BT false,J Y 0,BT false,BT false]):=n1;have HB:BU (B9 w0.heap.size w0 V1):=Jc k0 k1;have io:BU (w0.heap.size<=rb/\rb<V1.heap.size):=by have:=CW.lt n1;show _/\_;omega
 clear n0 n1 k0 k1;have c0:=(CT.out 0 _ rfl).1;have c1:=(CT.out 1 _ rfl).1;have c2:=(CT.out 2 _ rfl).1;have c3:=(CT.out 3 _ rfl).1;have c4:=(CT.out 4 _ rfl).1;have c5:=(CT.out 5 _ rfl).1;go_enter func9,ntmps9;go_upto_region 1 with fail;rw[<- iv,<- dI,<- lc,<- pp];clear iv dI pp lc z0;go_wp2_with (fail);refine JA (zS.out _ HB.out) ?_;rintro e V2 ⟨s,u,rfl,bD,fW,_⟩;obtain⟨uo,uc,rfl,_⟩:=bD.lies.form;have aj:=bD.below;have CT:BU (CW _ _ _):=CT.out.step aj;have CR:BU (CW _ _ _):=CR.out.step aj;have HB:BU (B9 w0.heap.size w0 V2):=Jc HB.out aj;clear aj c0 c1 c2 c3 c4 c5 zS;obtain⟨V3,o7⟩:∃ V,V=V2.alloc (BP #[J Y s.kind,J Y s.radius,J Y s.half.x,J Y s.half.y,J Y s.half.z,BQ uo s.pts.length uc] 37):=⟨_,rfl⟩
 obtain⟨sb,xV⟩:∃ b,b=V2.heap.size:=⟨_,rfl⟩
 have ao:B9 V2.heap.size V2 V3:=by rw[o7];exact Jb _ _
 have CS:BU (CW V3 sb [J Y s.kind,J Y s.radius,J Y s.half.x,J Y s.half.y,J Y s.half.z,BQ uo s.pts.length uc]):=by show CW _ _ _;rw[o7,xV];exact CW.new _ [J Y s.kind,J Y s.radius,J Y s.half.x,J Y s.half.y,J Y s.half.z,BQ uo s.pts.length uc] _
 have CT:BU (CW _ _ _):=CT.out.step ao;have CR:BU (CW _ _ _):=CR.out.step ao;have HB:BU (B9 w0.heap.size w0 V3):=Jc HB.out ao;have kS:BU (Row V1 V3 (BQ uo s.pts.length uc) s.pts):=bD.step ao;have vS:BU (Good s):=fW;unfold Sh.v;clear bD fW;go_upto_region 2 with fail;rw[<- o7,<- xV];clear o7 xV ao;have tw:=(CT.out 13 _ rfl).1;go_wp2_with (fail);refine JA (ui.out _) ?_;rintro e V4 ⟨rfl,h4⟩;obtain rfl:V3=V4:=h4.symm;clear ui tw;have ot:=(CS.out 0 _ rfl).1;have ov:=(CS.out 1 _ rfl).1;have ow:=(CS.out 2 _ rfl).1;have oA:=(CS.out 3 _ rfl).1;have tE:=(CS.out 4 _ rfl).1;have tF:=(CS.out 5 _ rfl).1;have tG:BU _:=Jr0 s (BQ uo s.pts.length uc) m V3 kS.out.lies (vS.out.ok) HJ.out.1.1 HJ.out.1.2;unfold Sh.v at tG;obtain⟨ix,xW⟩:∃ x,Jbp (Jex s m).x 4096=x:=⟨_,rfl⟩
 obtain⟨iy,xX⟩:∃ x,Jbp (Jex s m).y 4096=x:=⟨_,rfl⟩
 obtain⟨iz,dQ⟩:∃ x,Jbp (Jex s m).z 4096=x:=⟨_,rfl⟩
 rw[xW,xX,dQ]at tG;have dj:BU _:=And.intro xW (And.intro xX dQ);clear xW xX dQ;go_upto_region 3 with fail
 try simp only[zW]
 clear zW;go_wp2_with (fail);refine JA tG.out ?_;rintro e V4 ⟨rfl,bM⟩;obtain⟨V5,o8⟩:∃ V,V=V4.alloc (BP #[J Y m,J Y ix,J Y iy,J Y iz] 36):=⟨_,rfl⟩
 obtain⟨mb,eM⟩:∃ b,b=V4.heap.size:=⟨_,rfl⟩
 have cB:B9 V4.heap.size V4 V5:=by rw[o8];exact Jb _ _
 have CM:BU (CW V5 mb [J Y m,J Y ix,J Y iy,J Y iz]):=by show CW _ _ _;rw[o8,eM];exact CW.new _ [J Y m,J Y ix,J Y iy,J Y iz] _
 have iO:=Jc bM cB;have CT:BU (CW _ _ _):=CT.out.step iO;have CR:BU (CW _ _ _):=CR.out.step iO;have HB:BU (B9 w0.heap.size w0 V5):=Jc HB.out iO;have CS:BU (CW _ _ _):=CS.out.step iO;have kS:BU (Row V1 V5 (BQ uo s.pts.length uc) s.pts):=kS.out.step iO;clear bM iO tG ot ov ow oA tE tF;go_upto_region 4 with fail;rw[<- o8,<- eM];clear o8 eM cB;have c0:=(CT.out 0 _ rfl).1;have c1:=(CT.out 1 _ rfl).1;have c2:=(CT.out 2 _ rfl).1;have c3:=(CT.out 3 _ rfl).1;have c4:=(CT.out 4 _ rfl).1;have c5:=(CT.out 5 _ rfl).1;have c6:=(CT.out 6 _ rfl).1;have c7:=(CT.out 7 _ rfl).1;have c8:=(CT.out 8 _ rfl).1;have c9:=(CT.out 9 _ rfl).1;have rK:=(CT.out 10 _ rfl).1;have rL:=(CT.out 11 _ rfl).1;have rM:=(CT.out 12 _ rfl).1;have tw:=(CT.out 13 _ rfl).1;have vI:=(CT.out 14 _ rfl).1;have vJ:=(CT.out 15 _ rfl).1;have vK:=(CT.out 16 _ rfl).1;have vL:=(CT.out 17 _ rfl).1;have vM:=(CT.out 18 _ rfl).1;have vN:=(CT.out 19 _ rfl).1;have vO:=(CT.out 20 _ rfl).1;have zP:=(CT.out 21 _ rfl).1;have vP:=(CT.out 22 _ rfl).1;have qk:=(CT.out 23 _ rfl).1;have vQ:=(CT.out 24 _ rfl).1;have ot:=(CS.out 0 _ rfl).1;have ov:=(CS.out 1 _ rfl).1;have ow:=(CS.out 2 _ rfl).1;have oA:=(CS.out 3 _ rfl).1;have tE:=(CS.out 4 _ rfl).1;have tF:=(CS.out 5 _ rfl).1;have m0:=(CM.out 0 _ rfl).1;have m1:=(CM.out 1 _ rfl).1;have m2:=(CM.out 2 _ rfl).1;have m3:=(CM.out 3 _ rfl).1;have HOC:BU (∀(t:Pt) (q:Q4),([J Y 2,J Y t.x,J Y t.y,J Y t.z,J Y q.w,J Y q.x,J Y q.y,J Y q.z,J Y a0,J Y a1,J Y a2,J Y b0,J Y b1,J Y b2,J Y m,J Y ix,J Y iy,J Y iz,J Y s.kind,J Y s.radius,J Y s.half.x,J Y s.half.y,J Y s.half.z,BQ uo s.pts.length uc,J Y gr,J Y ma,J Y fn,BT fa,J Y 0,BT false,BT false]:List B7).toArray.all (·.oneCell')=true):=fun t q=>(Rs.rest ⟨s,gr,ma,fn,fa,0,false,false⟩ (pv:=BQ uo s.pts.length uc) rfl).rest.each ⟨2,⟨t.x,t.y,t.z⟩,⟨q.w,q.x,q.y,q.z⟩,⟨a0,a1,a2⟩,⟨b0,b1,b2⟩,m,⟨ix,iy,iz⟩⟩;have zX:BU (V1.heap.size<=V5.heap.size):=kS.out.below.size;go_cut [1,2,7] from 0 to 44 (fun s1 s2 s7 wx=>s1 = BO (some ⟨tb,0,none⟩)/\s2 = BO (some ⟨rb,0,none⟩)/\∃(b9:Nat) (t:Pt) (q:Q4),s7 = BO (some ⟨b9,0,none⟩)/\BU (CW wx b9 [J Y 2,J Y t.x,J Y t.y,J Y t.z,J Y q.w,J Y q.x,J Y q.y,J Y q.z,J Y a0,J Y a1,J Y a2,J Y b0,J Y b1,J Y b2,J Y m,J Y ix,J Y iy,J Y iz,J Y s.kind,J Y s.radius,J Y s.half.x,J Y s.half.y,J Y s.half.z,BQ uo s.pts.length uc,J Y gr,J Y ma,J Y fn,BT fa,J Y 0,BT false,BT false])/\BU (V5.heap.size<=b9)/\BU (B9 V5.heap.size V5 wx)/\t.inB 4398046511104=true/\WM.Whole q.w q.x q.y q.z)
 case first =>
  refine Bq [.some (BO (some ⟨tb,6,none⟩)),.some (B_ #[J Y cg,J Y at1,J Y at2,J Y qa,J Y cv,J Y qc,J Y qd]),none,.some (BO (some ⟨tb,15,none⟩)),.some (B_ #[J Y p0,J Y p1,J Y p2]),.some (B_ #[J Y a0,J Y a1,J Y a2]),.some (BO (some ⟨tb,18,none⟩)),.some (B_ #[J Y l0,J Y l1,J Y l2]),.some (B_ #[J Y b0,J Y b1,J Y b2]),.some (B_ #[J Y m,J Y ix,J Y iy,J Y iz]),.some (B_ #[J Y s.kind,J Y s.radius,J Y s.half.x,J Y s.half.y,J Y s.half.z,BQ uo s.pts.length uc]),.some (BO (some ⟨tb,23,none⟩)),.some (J Y gr),.some (BO (some ⟨tb,24,none⟩)),.some (J Y ma),.some (BO (some ⟨tb,14,none⟩)),.some (J Y fr),.some (J Y fn),.some (BO (some ⟨tb,22,none⟩)),.some (BT fa),none,none,none] [25,26,27,28,29,30,31,32,33,34,35,36,37,38,39,40,41,42,43,44,45,8,0] [(1,BO (some ⟨tb,0,none⟩)),(5,BO (some ⟨mb,0,none⟩)),(3,BO (some ⟨sb,0,none⟩))] (fun γ L w=>RG V5 (fun(t:Pt)(q:Q4)=>t.inB 4398046511104=true/\WM.Whole q.w q.x q.y q.z) (fun t q=>[J Y 2,J Y t.x,J Y t.y,J Y t.z,J Y q.w,J Y q.x,J Y q.y,J Y q.z,J Y a0,J Y a1,J Y a2,J Y b0,J Y b1,J Y b2,J Y m,J Y ix,J Y iy,J Y iz,J Y s.kind,J Y s.radius,J Y s.half.x,J Y s.half.y,J Y s.half.z,BQ uo s.pts.length uc,J Y gr,J Y ma,J Y fn,BT fa,J Y 0,BT false,BT false]) γ L w) ⟨rfl,rfl,rfl,trivial⟩ (RG.start (Below.refl _ V5).drew rfl) ?_ ?_
  ·intro D WA Z hD ah hZ T;simp only[RV.Outs,RV.Slots,Nat.reduceAdd]at T
   (refine Br _ (Bs T (fun γ v L w hl h=>h.other _ (by decide) (by decide) (by decide) (by decide)) (fun γ L a w hH hl h9 k9=>⟨_,?_,rfl⟩)) ?_;· simp[JD,go_sem,h9])
   (refine Br _ (Bs T (fun γ v L w hl h=>h.other _ (by decide) (by decide) (by decide) (by decide)) (fun γ L a w hH hl h9 k9=>⟨_,?_,rfl⟩)) ?_;· have dc6:=Ja hH.glob.1 c6;have dc7:=Ja hH.glob.1 c7;have dc8:=Ja hH.glob.1 c8;have dc9:=Ja hH.glob.1 c9;have vT:=Ja hH.glob.1 rK;have vU:=Ja hH.glob.1 rL;have vV:=Ja hH.glob.1 rM;simp[JC]at k9;simp[JD,go_sem,h9,k9,dc6,dc7,dc8,dc9,vT,vU,vV])
   refine Br _ (Bw (fun γ L a w hH hl hA=>by have h9:=T γ L a w hH;have k9:=hA;simp[JC]at k9;exact⟨_,_,by simp[go_sem,h9,k9],JA (zT.out w) (by rintro e w2 ⟨t9,q9,rfl,o1,o2,hb⟩;exact⟨_,rfl,trivial,fun j v _ h=>h.keep _,hH.glob.got ⟨o1,o2⟩ hb⟩)⟩)) ?_
   (refine Br _ (Bs T (fun γ v L w hl h=>h.other _ (by decide) (by decide) (by decide) (by decide)) (fun γ L a w hH hl h9 k9=>⟨_,?_,rfl⟩)) ?_;· simp[JD,go_sem,h9])
   (refine Br _ (Bs T (fun γ v L w hl h=>h.other _ (by decide) (by decide) (by decide) (by decide)) (fun γ L a w hH hl h9 k9=>⟨_,?_,rfl⟩)) ?_;· have vW:=Ja hH.glob.1 vJ;have vX:=Ja hH.glob.1 vK;have vY:=Ja hH.glob.1 vL;simp[JC]at k9;simp[JD,go_sem,h9,k9,vW,vX,vY])
   refine Br _ (Bw (fun γ L a w hH hl hA=>by have h9:=T γ L a w hH;have k9:=hA;simp[JC]at k9;exact⟨_,_,by simp[go_sem,h9,k9],JA (zU.out w) (by rintro e w2 ⟨rfl,hb⟩;exact⟨_,rfl,rfl,fun j v _ h=>h.keep _,(hH.glob.below hb).other _ (by decide) (by decide) (by decide) (by decide)⟩)⟩)) ?_
   (refine Br _ (Bs T (fun γ v L w hl h=>h.other _ (by decide) (by decide) (by decide) (by decide)) (fun γ L a w hH hl h9 k9=>⟨_,?_,rfl⟩)) ?_;· simp[JD,go_sem,h9])
   (refine Br _ (Bs T (fun γ v L w hl h=>h.other _ (by decide) (by decide) (by decide) (by decide)) (fun γ L a w hH hl h9 k9=>⟨_,?_,rfl⟩)) ?_;· have vZ:=Ja hH.glob.1 vM;have v_:=Ja hH.glob.1 vN;have wa:=Ja hH.glob.1 vO;simp[JC]at k9;simp[JD,go_sem,h9,k9,vZ,v_,wa])
   refine Br _ (Bw (fun γ L a w hH hl hA=>by have h9:=T γ L a w hH;have k9:=hA;simp[JC]at k9;exact⟨_,_,by simp[go_sem,h9,k9],JA (zV.out w) (by rintro e w2 ⟨rfl,hb⟩;exact⟨_,rfl,rfl,fun j v _ h=>h.keep _,(hH.glob.below hb).other _ (by decide) (by decide) (by decide) (by decide)⟩)⟩)) ?_
   (refine Br _ (Bs T (fun γ v L w hl h=>h.other _ (by decide) (by decide) (by decide) (by decide)) (fun γ L a w hH hl h9 k9=>⟨_,?_,rfl⟩)) ?_;· have dm0:=Ja hH.glob.1 m0;have dm1:=Ja hH.glob.1 m1;have dm2:=Ja hH.glob.1 m2;have dm3:=Ja hH.glob.1 m3;simp[JD,go_sem,h9,dm0,dm1,dm2,dm3])
   (refine Br _ (Bs T (fun γ v L w hl h=>h.other _ (by decide) (by decide) (by decide) (by decide)) (fun γ L a w hH hl h9 k9=>⟨_,?_,rfl⟩)) ?_;· have wd:=Ja hH.glob.1 ot;have we:=Ja hH.glob.1 ov;have wg:=Ja hH.glob.1 ow;have wi:=Ja hH.glob.1 oA;have wj:=Ja hH.glob.1 tE;have wm:=Ja hH.glob.1 tF;simp[JD,go_sem,h9,wd,we,wg,wi,wj,wm])
   (refine Br _ (Bs T (fun γ v L w hl h=>h.other _ (by decide) (by decide) (by decide) (by decide)) (fun γ L a w hH hl h9 k9=>⟨_,?_,rfl⟩)) ?_;· simp[JD,go_sem,h9])
   (refine Br _ (Bs T (fun γ v L w hl h=>h.other _ (by decide) (by decide) (by decide) (by decide)) (fun γ L a w hH hl h9 k9=>⟨_,?_,rfl⟩)) ?_;· have wo:=Ja hH.glob.1 qk;simp[JC]at k9;simp[JD,go_sem,h9,k9,wo])
   (refine Br _ (Bs T (fun γ v L w hl h=>h.other _ (by decide) (by decide) (by decide) (by decide)) (fun γ L a w hH hl h9 k9=>⟨_,?_,rfl⟩)) ?_;· simp[JD,go_sem,h9])
   (refine Br _ (Bs T (fun γ v L w hl h=>h.other _ (by decide) (by decide) (by decide) (by decide)) (fun γ L a w hH hl h9 k9=>⟨_,?_,rfl⟩)) ?_;· have wu:=Ja hH.glob.1 vQ;simp[JC]at k9;simp[JD,go_sem,h9,k9,wu])
   (refine Br _ (Bs T (fun γ v L w hl h=>h.other _ (by decide) (by decide) (by decide) (by decide)) (fun γ L a w hH hl h9 k9=>⟨_,?_,rfl⟩)) ?_;· simp[JD,go_sem,h9])
   (refine Br _ (Bs T (fun γ v L w hl h=>h.other _ (by decide) (by decide) (by decide) (by decide)) (fun γ L a w hH hl h9 k9=>⟨_,?_,rfl⟩)) ?_;· have ww:=Ja hH.glob.1 vI;simp[JC]at k9;simp[JD,go_sem,h9,k9,ww])
   refine Br _ (Bw (fun γ L a w hH hl hA=>by have h9:=T γ L a w hH;have k9:=hA;simp[JC]at k9;exact⟨_,_,by simp[go_sem,h9,k9],JA (rN.out w) (by rintro e w2 ⟨rfl,hb⟩;exact⟨_,rfl,rfl,fun j v _ h=>h.keep _,(hH.glob.below hb).other _ (by decide) (by decide) (by decide) (by decide)⟩)⟩)) ?_
   (refine Br _ (Bs T (fun γ v L w hl h=>h.other _ (by decide) (by decide) (by decide) (by decide)) (fun γ L a w hH hl h9 k9=>⟨_,?_,rfl⟩)) ?_;· simp[JD,go_sem,h9])
   (refine Br _ (Bs T (fun γ v L w hl h=>h.other _ (by decide) (by decide) (by decide) (by decide)) (fun γ L a w hH hl h9 k9=>⟨_,?_,rfl⟩)) ?_;· have wB:=Ja hH.glob.1 vP;simp[JC]at k9;simp[JD,go_sem,h9,k9,wB])
   refine Br _ (BJ (fun γ L a w hH hl hA=>by have h9:=T γ L a w hH;have k9:=hA;simp[JC]at k9;have l0:L 2=true:=hA ⟨2,.data⟩ (by simp) rfl;have e0:=hH.slot 2 26 (by rw[<- hD];rfl) l0;obtain⟨t9,q9,o1,e1⟩:=hH.glob.2.1 l0;rw[e1]at e0;unfold Jpq at e0;exact⟨_,w,by simp[JD,go_sem,h9,k9,e0],trivial,fun j v _ h=>h,hH.glob.put o1⟩)) ?_;refine Br _ (BJ (fun γ L a w hH hl hA=>by exact⟨BO (some ⟨w.heap.size,0,none⟩),w.alloc (BP #[J Y 0,J Y 0,J Y 0,J Y 0,J Y 0,J Y 0,J Y 0,J Y 0,J Y 0,J Y 0,J Y 0,J Y 0,J Y 0,J Y 0,J Y 0,J Y 0,J Y 0,J Y 0,J Y 0,J Y 0,J Y 0,J Y 0,J Y 0,BQ none 0 0,J Y 0,J Y 0,J Y 0,BT false,J Y 0,BT false,BT false] 39),by simp[JD,go_sem],trivial,fun j v _ h=>h.keep _,hH.glob.made (Bu hH (Bv (j:=22) (i:=21) ah (by kernel_rfl)) hl) [J Y 0,J Y 0,J Y 0,J Y 0,J Y 0,J Y 0,J Y 0,J Y 0,J Y 0,J Y 0,J Y 0,J Y 0,J Y 0,J Y 0,J Y 0,J Y 0,J Y 0,J Y 0,J Y 0,J Y 0,J Y 0,J Y 0,J Y 0,BQ none 0 0,J Y 0,J Y 0,J Y 0,BT false,J Y 0,BT false,BT false] rfl⟩)) ?_;refine Br _ (Bz (fun γ L a w hH hl hA=>by have l0:L 21=true:=hA ⟨21,.data⟩ (by simp) rfl;have l8:L 20=true:=hA ⟨20,.data⟩ (by simp) rfl;have e0:=hH.slot 21 7 (by rw[<- hD];rfl) l0;have e8:=hH.slot 20 44 (by rw[<- hD];rfl) l8;obtain⟨b9,cs,ac,aj,ao,bM,_⟩:=hH.glob.2.2.2 l0;obtain⟨t9,q9,o1,q1⟩:=hH.glob.2.2.1 l8;rw[ac]at e0;rw[q1]at e8;have dm:=hH.glob.fill ac aj ao bM o1 rfl;exact⟨_,Jdk 39 _ _ rfl b9 0 _ (by simp[Act.eval,e0]) (by simp[Act.eval,e8]) (by rw[List.size_toArray];have ht:=ao.there;rw[bM]at ht;exact ht) (by kernel_rfl) (HOC.out t9 q9),trivial,fun j v _ h=>h.keep _,dm _⟩)) ?_;exact RV.AllDo.nil
  ·intro γ w5 L9 hL aX aD;obtain⟨b9,cs,ac,aj,ao,_,cB⟩:=aD.2.2.2 (hL 21 (by decide));obtain⟨t,q,⟨o1,o2⟩,aM⟩:=cB (hL 22 (by decide));rw[aM]at ao;have cN:BU (B9 V5.heap.size V5 w5):=aD.1;simp only[RV.putL,Act.put,JH,JG,JF,Nat.reduceAdd];rw[ac];have iP:BU (CW w5 b9 [J Y 2,J Y t.x,J Y t.y,J Y t.z,J Y q.w,J Y q.x,J Y q.y,J Y q.z,J Y a0,J Y a1,J Y a2,J Y b0,J Y b1,J Y b2,J Y m,J Y ix,J Y iy,J Y iz,J Y s.kind,J Y s.radius,J Y s.half.x,J Y s.half.y,J Y s.half.z,BQ uo s.pts.length uc,J Y gr,J Y ma,J Y fn,BT fa,J Y 0,BT false,BT false]):=ao;have kT:BU (V5.heap.size<=b9):=aj;clear aD aX hL ac aj ao cB aM;go_wp2_with (fail);go_meet
   case rel=>exact⟨rfl,rfl,b9,t,q,rfl,iP,kT,cN,o1,o2⟩
 case rest =>
  obtain⟨rfl,rfl,b9,t,q,rfl,iP,kT,cN,o1,o2⟩:=hcut;have CT:BU (CW _ _ _):=CT.out.step cN.out;have CR:BU (CW wc rb [J Y 0,J Y 0,J Y 0,J Y 0,J Y 0,J Y 0,J Y 0,J Y 0,J Y 0,J Y 0,J Y 0,J Y 0,J Y 0,J Y 0,J Y 0,J Y 0,J Y 0,J Y 0,J Y 0,J Y 0,J Y 0,J Y 0,J Y 0,BQ none 0 0,J Y 0,J Y 0,J Y 0,BT false,J Y 0,BT false,BT false]):=CR.out.step cN.out;have HB:BU (B9 w0.heap.size w0 wc):=Jc HB.out cN.out;clear c0 c1 c2 c3 c4 c5 c6 c7 c8 c9 rK rL rM tw vI vJ vK vL vM vN vO zP vP qk vQ ot ov ow oA tE tF m0 m1 m2 m3 zT zU zV rN CM CS;have zY:=(CT.out 21 _ rfl).1;cases fx with
  | false =>
   obtain⟨X,hX⟩:∃ V,V=wc:=⟨_,rfl⟩
   obtain⟨dH,pq⟩:∃ b,(⟨2,⟨t.x,t.y,t.z⟩,⟨q.w,q.x,q.y,q.z⟩,⟨a0,a1,a2⟩,⟨b0,b1,b2⟩,m,⟨ix,iy,iz⟩⟩:Bd)=b:=⟨_,rfl⟩
   have gi:BU (CW wc b9 ((⟨2,⟨t.x,t.y,t.z⟩,⟨q.w,q.x,q.y,q.z⟩,⟨a0,a1,a2⟩,⟨b0,b1,b2⟩,m,⟨ix,iy,iz⟩⟩:Bd).L (Rs.l ⟨s,gr,ma,fn,fa,0,false,false⟩ (BQ uo s.pts.length uc)))):=iP.out;rw[pq]at gi;have oD:BU _:=pq;have i_:=CR;have iq:=cN;have ir:=HB;clear pq iP CR cN HB CT;go_upto_region 9 with fail;rw[<- hX]at gi i_ iq ir ⊢;clear hX zY;have oE:(2:Nat) ^ 64=18446744073709551616:=by decide
   have wD:Sml 64 dH.p:=by rw[<- oD.out];unfold Sml;rw[oE];dsimp only;have:=HJ.out;omega
   have cQ:Sml 64 dH.l:=by rw[<- oD.out];unfold Sml;rw[oE];dsimp only;have:=HJ.out;omega
   clear oE;have bQ:Rest (Rs.l ⟨s,gr,ma,fn,fa,0,false,false⟩ (BQ uo s.pts.length uc)):=(Rs.rest _ rfl).rest;obtain⟨Rl,pA⟩:∃ x,(Rs.l ⟨s,gr,ma,fn,fa,0,false,false⟩ (BQ uo s.pts.length uc))=x:=⟨_,rfl⟩
   rw[pA]at gi bQ;have wE:BU _:=pA;clear pA;obtain⟨X1,ef⟩:∃ V,V=X.alloc (BP #[BT false] 57):=⟨_,rfl⟩
   obtain⟨pw,bE⟩:∃ b,b=X.heap.size:=⟨_,rfl⟩
   have ac:B9 X.heap.size X X1:=by rw[ef];exact Jb _ _
   have Cw:CW X1 pw [BT false]:=by rw[ef,bE];exact CW.new X [BT false] 57
   have nb:b9≠pw:=by have:=CW.lt gi.out;omega
   have nr:rb≠pw:=by have:=CW.lt i_.out;omega
   have kU:V5.heap.size<=pw:=by have:=iq.out.size;omega
   have kV:w0.heap.size<=pw:=by have:=ir.out.size;omega
   have gi:BU (CW X1 b9 (dH.L Rl)):=gi.out.step ac;have i_:BU (CW X1 rb [J Y 0,J Y 0,J Y 0,J Y 0,J Y 0,J Y 0,J Y 0,J Y 0,J Y 0,J Y 0,J Y 0,J Y 0,J Y 0,J Y 0,J Y 0,J Y 0,J Y 0,J Y 0,J Y 0,J Y 0,J Y 0,J Y 0,J Y 0,BQ none 0 0,J Y 0,J Y 0,J Y 0,BT false,J Y 0,BT false,BT false]):=i_.out.step ac;have iq:BU (B9 V5.heap.size V5 X1):=Jc iq.out ac;have ir:BU (B9 w0.heap.size w0 X1):=Jc ir.out ac;have kW:BU _:=Jhv pw 0 false dH Rl bQ wD cQ X1 (Cw 0 _ rfl).1 (Cw 0 _ rfl).2;have au:BU (World.rangeAt X1 b9 0 (dH.L Rl)):=gi.out.range;have hz:BU _:=Jj bQ dH;generalize hcs0:dH.L Rl=pQ at *;go_upto_region 10 with fail;rw[<- ef,<- bE];clear ef bE ac Cw hcs0;go_wp2_with (refine wpList_load_mid rfl 39 _ rfl b9 0 rfl _ _ au.out underlying39 rfl hz.out ?_);refine JA kW.out ?_;rintro e V8 ⟨rfl,A⟩;have hA:=A.out;have kJ:BU _:=Jn bQ (Jbr dH);have fC:BU _:=Jj bQ (Jbr dH);have kX:BU _:=bQ.each (Jbr dH);have iQ:BU _:=bQ.all (Jbr dH);generalize hcs9:(Jbr dH).L Rl=cs at *;have bH:BU _:=hcs9;clear hcs9;obtain⟨X9,fH⟩:∃ X,X=(V8.alloc (BP #[J Y 0,J Y 0,J Y 0,J Y 0,J Y 0,J Y 0,J Y 0,J Y 0,J Y 0,J Y 0,J Y 0,J Y 0,J Y 0,J Y 0,J Y 0,J Y 0,J Y 0,J Y 0,J Y 0,J Y 0,J Y 0,J Y 0,J Y 0,BQ none 0 0,J Y 0,J Y 0,J Y 0,BT false,J Y 0,BT false,BT false] 39)).setCells V8.heap.size 0 cs:=⟨_,rfl⟩
   obtain⟨mF,lf,se,sf⟩:=Jb3 V8 cs iQ.out;rw[<- fH]at mF lf se;have i9:BU (World.there _ _ _ _):=sf;obtain⟨p9,pB⟩:∃ p,p=V8.heap.size:=⟨_,rfl⟩
   rw[<- pB]at mF;have rO:BU (B9 V5.heap.size V5 X9):=Jc (hA.below _ _ iq.out kU iq.out.size) lf;have wF:BU (B9 w0.heap.size w0 X9):=Jc (hA.below _ _ ir.out kV ir.out.size) lf;have oF:CW X9 rb [J Y 0,J Y 0,J Y 0,J Y 0,J Y 0,J Y 0,J Y 0,J Y 0,J Y 0,J Y 0,J Y 0,J Y 0,J Y 0,J Y 0,J Y 0,J Y 0,J Y 0,J Y 0,J Y 0,J Y 0,J Y 0,J Y 0,J Y 0,BQ none 0 0,J Y 0,J Y 0,J Y 0,BT false,J Y 0,BT false,BT false]:=(i_.out.after hA nr).step lf;have oG:BU (World.rangeAt X9 p9 0 cs):=mF.range;have bT:BU (World.there X9 rb 0 cs.toArray.size):=by show World.there _ _ _ _;rw[<- bH.out];exact oF.there31 rfl bQ
   have cH:BU (World.rangeAt (X9.setCells rb 0 cs) rb 0 cs):=(oF.sets (by rw[iQ.out];rfl)).range;have dR:BU _:=Jad ((kS.out.step rO.out).row) (Jb8 ((kS.out.step rO.out).row) io.out.2) cs 0;clear oF mF sf se lf A hA gi i_ iq ir au hz kW nb nr kU kV bQ;go_upto_region 11 with (refine wpList_store_mid rfl 39 _ _ rfl V8.heap.size 0 _ rfl rfl i9.out kJ.out kX.out ?_);rw[<- fH,<- pB];clear fH pB i9;go_wp2_with (first | refine wpList_load_mid rfl 39 _ rfl p9 0 rfl _ _ oG.out underlying39 rfl fC.out ?_ | refine wpList_store_mid rfl 39 _ _ rfl rb 0 _ rfl rfl bT.out kJ.out kX.out ?_);refine bodyPost_ret (J7 2 39 results9 ⟨rb,0,none⟩ rfl (run_loadVar_mid _ rb 0 39 cs _ cH.out underlying39 rfl fC.out)) rfl ?_;refine⟨dH,⟨s,gr,ma,fn,fa,0,false,false⟩,BQ uo s.pts.length uc,by rw[wE.out,bH.out],⟨Jms (Nat.le_trans io.out.1 (Nat.le_of_lt io.out.2)) dR.out,wF.out.trans (Jbd io.out.1 _ _ _)⟩,?_⟩;obtain⟨j1,j2,j3,j4,j5,j6,j7,j8⟩:=HJ.out;obtain⟨i1,i2,i3⟩:=dj.out;rw[<- oD.out];have z9:(-1099511627776:Int)<=0/\(0:Int)<=1099511627776:=by decide
   have z8:(-68719476736:Int)<=0/\(0:Int)<=68719476736:=by decide
   exact⟨rfl,o1,o2,j1,(by rw[i1,i2,i3]),⟨j3,j4,j5⟩,⟨j6,j7,j8⟩,(fun e=>by cases e),vS.out,rfl,rfl,rfl,rfl,rfl,rfl,j2.1,j2.2⟩
  | true =>
   obtain⟨g0,lg⟩:=iP.out 0 _ rfl;obtain⟨g8,gf8⟩:=iP.out 8 _ rfl;obtain⟨g9,gf9⟩:=iP.out 9 _ rfl;obtain⟨qp,xY⟩:=iP.out 10 _ rfl;obtain⟨qr,xZ⟩:=iP.out 11 _ rfl;obtain⟨qs,x_⟩:=iP.out 12 _ rfl;obtain⟨pC,ya⟩:=iP.out 13 _ rfl;obtain⟨X,hX⟩:∃ V,V=(((((((wc.setCell ⟨b9,0,none⟩ (J Y 1)).setCell ⟨b9,8,none⟩ (J Y 0)).setCell ⟨b9,9,none⟩ (J Y 0)).setCell ⟨b9,10,none⟩ (J Y 0)).setCell ⟨b9,11,none⟩ (J Y 0)).setCell ⟨b9,12,none⟩ (J Y 0)).setCell ⟨b9,13,none⟩ (J Y 0)):=⟨_,rfl⟩
   obtain⟨dH,pq⟩:∃ b,(⟨1,⟨t.x,t.y,t.z⟩,⟨q.w,q.x,q.y,q.z⟩,⟨0,0,0⟩,⟨0,0,0⟩,m,⟨ix,iy,iz⟩⟩:Bd)=b:=⟨_,rfl⟩
   have ki:b9≠rb:=by have:=kT.out;have h2:=io.out.2;have h3:=zX.out;omega
   have mY:w0.heap.size<=b9:=by have:=kT.out;have h2:=io.out;have h3:=zX.out;omega
   have zZ:=(((((((iP.out.set 0 (J Y 1) (by simp)).set 8 (J Y 0) (by simp)).set 9 (J Y 0) (by simp)).set 10 (J Y 0) (by simp)).set 11 (J Y 0) (by simp)).set 12 (J Y 0) (by simp)).set 13 (J Y 0) (by simp))
   have gi:BU (CW X b9 ((⟨1,⟨t.x,t.y,t.z⟩,⟨q.w,q.x,q.y,q.z⟩,⟨0,0,0⟩,⟨0,0,0⟩,m,⟨ix,iy,iz⟩⟩:Bd).L (Rs.l ⟨s,gr,ma,fn,fa,0,false,false⟩ (BQ uo s.pts.length uc)))):=by show CW _ _ _;rw[hX];exact zZ
   rw[pq]at gi;have oD:BU _:=pq;have i_:BU (CW X rb [J Y 0,J Y 0,J Y 0,J Y 0,J Y 0,J Y 0,J Y 0,J Y 0,J Y 0,J Y 0,J Y 0,J Y 0,J Y 0,J Y 0,J Y 0,J Y 0,J Y 0,J Y 0,J Y 0,J Y 0,J Y 0,J Y 0,J Y 0,BQ none 0 0,J Y 0,J Y 0,J Y 0,BT false,J Y 0,BT false,BT false]):=by show CW _ _ _;rw[hX];exact(((((((CR.out.other (a:=⟨b9,0,none⟩) ki _).other (a:=⟨b9,8,none⟩) ki _).other (a:=⟨b9,9,none⟩) ki _).other (a:=⟨b9,10,none⟩) ki _).other (a:=⟨b9,11,none⟩) ki _).other (a:=⟨b9,12,none⟩) ki _).other (a:=⟨b9,13,none⟩) ki _)
   have iq:BU (B9 V5.heap.size V5 X):=by show B9 _ _ _;rw[hX];exact(((((((cN.out.setCell kT.out _).setCell kT.out _).setCell kT.out _).setCell kT.out _).setCell kT.out _).setCell kT.out _).setCell kT.out _)
   have ir:BU (B9 w0.heap.size w0 X):=by show B9 _ _ _;rw[hX];exact(((((((HB.out.setCell mY _).setCell mY _).setCell mY _).setCell mY _).setCell mY _).setCell mY _).setCell mY _)
   clear pq iP CR cN HB CT ki mY zZ;go_upto_region 9 with fail;rw[<- hX];clear hX zY g0 lg g8 gf8 g9 gf9 qp xY qr xZ qs x_ pC ya;have oE:(2:Nat) ^ 64=18446744073709551616:=by decide
   have wD:Sml 64 dH.p:=by rw[<- oD.out];unfold Sml;rw[oE];dsimp only;have:=HJ.out;omega
   have cQ:Sml 64 dH.l:=by rw[<- oD.out];unfold Sml;rw[oE];dsimp only;have:=HJ.out;omega
   clear oE;have bQ:Rest (Rs.l ⟨s,gr,ma,fn,fa,0,false,false⟩ (BQ uo s.pts.length uc)):=(Rs.rest _ rfl).rest;obtain⟨Rl,pA⟩:∃ x,(Rs.l ⟨s,gr,ma,fn,fa,0,false,false⟩ (BQ uo s.pts.length uc))=x:=⟨_,rfl⟩
   rw[pA]at gi bQ;have wE:BU _:=pA;clear pA;obtain⟨X1,ef⟩:∃ V,V=X.alloc (BP #[BT false] 57):=⟨_,rfl⟩
   obtain⟨pw,bE⟩:∃ b,b=X.heap.size:=⟨_,rfl⟩
   have ac:B9 X.heap.size X X1:=by rw[ef];exact Jb _ _
   have Cw:CW X1 pw [BT false]:=by rw[ef,bE];exact CW.new X [BT false] 57
   have nb:b9≠pw:=by have:=CW.lt gi.out;omega
   have nr:rb≠pw:=by have:=CW.lt i_.out;omega
   have kU:V5.heap.size<=pw:=by have:=iq.out.size;omega
   have kV:w0.heap.size<=pw:=by have:=ir.out.size;omega
   have gi:BU (CW X1 b9 (dH.L Rl)):=gi.out.step ac;have i_:BU (CW X1 rb [J Y 0,J Y 0,J Y 0,J Y 0,J Y 0,J Y 0,J Y 0,J Y 0,J Y 0,J Y 0,J Y 0,J Y 0,J Y 0,J Y 0,J Y 0,J Y 0,J Y 0,J Y 0,J Y 0,J Y 0,J Y 0,J Y 0,J Y 0,BQ none 0 0,J Y 0,J Y 0,J Y 0,BT false,J Y 0,BT false,BT false]):=i_.out.step ac;have iq:BU (B9 V5.heap.size V5 X1):=Jc iq.out ac;have ir:BU (B9 w0.heap.size w0 X1):=Jc ir.out ac;have kW:BU _:=Jhv pw 0 false dH Rl bQ wD cQ X1 (Cw 0 _ rfl).1 (Cw 0 _ rfl).2;have au:BU (World.rangeAt X1 b9 0 (dH.L Rl)):=gi.out.range;have hz:BU _:=Jj bQ dH;generalize hcs0:dH.L Rl=pQ at *;go_upto_region 10 with fail;rw[<- ef,<- bE];clear ef bE ac Cw hcs0;go_wp2_with (refine wpList_load_mid rfl 39 _ rfl b9 0 rfl _ _ au.out underlying39 rfl hz.out ?_);refine JA kW.out ?_;rintro e V8 ⟨rfl,A⟩;have hA:=A.out;have kJ:BU _:=Jn bQ (Jbr dH);have fC:BU _:=Jj bQ (Jbr dH);have kX:BU _:=bQ.each (Jbr dH);have iQ:BU _:=bQ.all (Jbr dH);generalize hcs9:(Jbr dH).L Rl=cs at *;have bH:BU _:=hcs9;clear hcs9;obtain⟨X9,fH⟩:∃ X,X=(V8.alloc (BP #[J Y 0,J Y 0,J Y 0,J Y 0,J Y 0,J Y 0,J Y 0,J Y 0,J Y 0,J Y 0,J Y 0,J Y 0,J Y 0,J Y 0,J Y 0,J Y 0,J Y 0,J Y 0,J Y 0,J Y 0,J Y 0,J Y 0,J Y 0,BQ none 0 0,J Y 0,J Y 0,J Y 0,BT false,J Y 0,BT false,BT false] 39)).setCells V8.heap.size 0 cs:=⟨_,rfl⟩
   obtain⟨mF,lf,se,sf⟩:=Jb3 V8 cs iQ.out;rw[<- fH]at mF lf se;have i9:BU (World.there _ _ _ _):=sf;obtain⟨p9,pB⟩:∃ p,p=V8.heap.size:=⟨_,rfl⟩
   rw[<- pB]at mF;have rO:BU (B9 V5.heap.size V5 X9):=Jc (hA.below _ _ iq.out kU iq.out.size) lf;have wF:BU (B9 w0.heap.size w0 X9):=Jc (hA.below _ _ ir.out kV ir.out.size) lf;have oF:CW X9 rb [J Y 0,J Y 0,J Y 0,J Y 0,J Y 0,J Y 0,J Y 0,J Y 0,J Y 0,J Y 0,J Y 0,J Y 0,J Y 0,J Y 0,J Y 0,J Y 0,J Y 0,J Y 0,J Y 0,J Y 0,J Y 0,J Y 0,J Y 0,BQ none 0 0,J Y 0,J Y 0,J Y 0,BT false,J Y 0,BT false,BT false]:=(i_.out.after hA nr).step lf;have oG:BU (World.rangeAt X9 p9 0 cs):=mF.range;have bT:BU (World.there X9 rb 0 cs.toArray.size):=by show World.there _ _ _ _;rw[<- bH.out];exact oF.there31 rfl bQ
   have cH:BU (World.rangeAt (X9.setCells rb 0 cs) rb 0 cs):=(oF.sets (by rw[iQ.out];rfl)).range;have dR:BU _:=Jad ((kS.out.step rO.out).row) (Jb8 ((kS.out.step rO.out).row) io.out.2) cs 0;clear oF mF sf se lf A hA gi i_ iq ir au hz kW nb nr kU kV bQ;go_upto_region 11 with (refine wpList_store_mid rfl 39 _ _ rfl V8.heap.size 0 _ rfl rfl i9.out kJ.out kX.out ?_);rw[<- fH,<- pB];clear fH pB i9;go_wp2_with (first | refine wpList_load_mid rfl 39 _ rfl p9 0 rfl _ _ oG.out underlying39 rfl fC.out ?_ | refine wpList_store_mid rfl 39 _ _ rfl rb 0 _ rfl rfl bT.out kJ.out kX.out ?_);refine bodyPost_ret (J7 2 39 results9 ⟨rb,0,none⟩ rfl (run_loadVar_mid _ rb 0 39 cs _ cH.out underlying39 rfl fC.out)) rfl ?_;refine⟨dH,⟨s,gr,ma,fn,fa,0,false,false⟩,BQ uo s.pts.length uc,by rw[wE.out,bH.out],⟨Jms (Nat.le_trans io.out.1 (Nat.le_of_lt io.out.2)) dR.out,wF.out.trans (Jbd io.out.1 _ _ _)⟩,?_⟩;obtain⟨j1,j2,j3,j4,j5,j6,j7,j8⟩:=HJ.out;obtain⟨i1,i2,i3⟩:=dj.out;rw[<- oD.out];have z9:(-1099511627776:Int)<=0/\(0:Int)<=1099511627776:=by decide
   have z8:(-68719476736:Int)<=0/\(0:Int)<=68719476736:=by decide
   exact⟨rfl,o1,o2,j1,(by rw[i1,i2,i3]),⟨z9,z9,z9⟩,⟨z8,z8,z8⟩,(fun _=>⟨rfl,rfl⟩),vS.out,rfl,rfl,rfl,rfl,rfl,rfl,j2.1,j2.2⟩
end
section
open Fx
def isV(a:V3)(C:Int):Prop:=(-C<=a.x/\a.x<=C)/\(-C<=a.y/\a.y<=C)/\(-C<=a.z/\a.z<=C)
theorem Jmh{a:V3}{C D:Int}(h:isV a C)(hd:C<=D):isV a D:=by unfold isV at *;omega
theorem Juc{a:V3}{C:Int}(h:isV a C):isV (hlf a) C:=by
 unfold isV hlf at *;have key:∀ x:Int,-C<=x/\x<=C->-C<=x.tdiv 2/\x.tdiv 2<=C:=fun x hx=>by
  by_cases h0:0<=x
  ·rw[Int.tdiv_eq_ediv_of_nonneg h0];omega
  ·have e:x.tdiv 2 = -((-x) / 2):=by
    have:=Int.neg_tdiv (a:=x) (b:=2);rw[<- Int.tdiv_eq_ediv_of_nonneg (by omega),this,Int.neg_neg]
   rw[e];omega
 exact⟨key _ h.1,key _ h.2.1,key _ h.2.2⟩
theorem Jkw{slow bad:V3->Bool}{C:Int}:∀(n:Nat) (p:V3),isV p C->isV (hvd slow bad n p).1 C
 | 0,p,h=>h
 | n+1,p,h=>by
  unfold hvd
  split
  ·exact h
  ·exact Jkw n _ (Juc h)
theorem Jkz{b:Bd}{C D:Int}(hp:isV b.p C)(hl:isV b.l D):isV (Jbr b).p C/\isV (Jbr b).l D:=by
 unfold Jbr
 split
 ·exact⟨Jkw _ _ hp,Jkw _ _ hl⟩
 ·exact⟨hp,hl⟩
theorem Jln(b:Bd):(Jbr b).k=b.k/\(Jbr b).s=b.s/\(Jbr b).q=b.q/\(Jbr b).m=b.m/\(Jbr b).i=b.i:=by
 unfold Jbr
 split <;> exact⟨rfl,rfl,rfl,rfl,rfl⟩
theorem Jn8{x y:Int}(hx:-1152921504606846976<=x/\x<=1152921504606846976)(hy:-1152921504606846976<=y/\y<=1152921504606846976):add x y=some (x+y):=by
 unfold add told great;rw[if_neg (by simp;omega),if_neg (by simp;omega)]
theorem Jtp{a b:V3}(ha:isV a 1152921504606846976)(hb:isV b 1152921504606846976):Jbh a b=false/\Jt a b=⟨a.x+b.x,a.y+b.y,a.z+b.z⟩:=by
 unfold Jbh Jt;rw[Jn8 ha.1 hb.1,Jn8 ha.2.1 hb.2.1,Jn8 ha.2.2 hb.2.2];exact⟨rfl,rfl⟩
theorem Jv9{X C:Int}(h:-(C*4294967296)<=X/\X<=C*4294967296):-C<=X / 4294967296/\X / 4294967296<=C:=by omega
theorem Jvx{x y C:Int}(hx:-4611686018427387903<=x/\x<=4611686018427387903)(hy:-4611686018427387903<=y/\y<=4611686018427387903)(h:-(C*4294967296)<=x*y/\x*y<=C*4294967296)(hC:C<=4611686018427387903):mul x y=some (x*y / 4294967296)/\(-C<=x*y / 4294967296/\x*y / 4294967296<=C):=by
 have hf:=Jv9 h;refine⟨?_,hf⟩;unfold mul told great;rw[if_neg (by simp;omega),if_neg (by simp;omega)]
theorem Juh{a b A B:Int}(ha:-A<=a/\a<=A)(hb:-B<=b/\b<=B):-(A*B)<=a*b/\a*b<=A*B:=by
 have h1:=Int.mul_nonneg (a:=A-a) (b:=B-b) (by omega) (by omega);have h2:=Int.mul_nonneg (a:=A-a) (b:=B+b) (by omega) (by omega);have h3:=Int.mul_nonneg (a:=A+a) (b:=B-b) (by omega) (by omega);have h4:=Int.mul_nonneg (a:=A+a) (b:=B+b) (by omega) (by omega);simp only[Int.sub_mul,Int.mul_sub,Int.add_mul,Int.mul_add]at h1 h2 h3 h4;omega
theorem Jo4{a:V3}{n A N C:Int}(ha:isV a A)(hn:-N<=n/\n<=N)(hA:A<=4611686018427387903)(hN:N<=4611686018427387903)(h:A*N<=C*4294967296)(hC:C<=4611686018427387903):Jcb a n=false/\isV (Jau a n) C:=by
 have key:∀ x:Int,-A<=x/\x<=A->mul x n=some (x*n / 4294967296)/\(-C<=x*n / 4294967296/\x*n / 4294967296<=C):=fun x hx=>by
  have:=Juh hx hn;exact Jvx (by omega) (by omega) (by omega) hC
 obtain⟨e1,b1⟩:=key _ ha.1;obtain⟨e2,b2⟩:=key _ ha.2.1;obtain⟨e3,lB⟩:=key _ ha.2.2;unfold Jcb Jau;rw[e1,e2,e3];exact⟨rfl,b1,b2,lB⟩
end
section
open Go.RowKit Go.Shelf
def Jwd(V:BV)(pts:List Pt)(R:List B7)(D:Bd)(v bx:B7)(lb:Bool)(w:BV):Prop:=
 ∃ u,v = B_ (D.L (R.set 5 u)).toArray/\w.ownsRow V.heap.size 23 3 u pts.length (fl3 pts)/\(lb=true->∀ b,bx = BO (some ⟨b,0,none⟩)->u.ownBlock≠some b)
structure OG(V:BV)(pb:Nat)(pts:List Pt)(R:List B7)(Ds:List (Nat × Bd))(ib st:Nat)(fin:Bd)(γ:Nat->B7)(L:Nat->Bool)(w:BV):Prop where
 leaves:Leaves ⟨pb,0,none⟩ V w
 cell:w.cell? ⟨pb,0,none⟩=some (BT false)
 frozen:w.frozen? ⟨pb,0,none⟩=false
 hp:pb<V.heap.size
 told:∀ x∈Ds,L x.1=true->Jwd V pts R x.2 (γ x.1) (γ ib) (L ib) w
 box:L ib=true->∃ b cs,γ ib = BO (some ⟨b,0,none⟩)/\V.heap.size<=b/\CW w b cs/\cs.length=31/\(L st=true->∃ u,cs=fin.L (R.set 5 u)/\w.ownsRow V.heap.size 23 3 u pts.length (fl3 pts))
section
variable {V w w':BV} {pb:Nat} {pts:List Pt} {R:List B7} {Ds:List (Nat × Bd)} {ib st:Nat} {fin:Bd} {γ:Nat->B7} {L:Nat->Bool}
theorem CW.lt31{W:BV}{b:Nat}{cs:List B7}(h:CW W b cs)(hl:cs.length=31):b<W.heap.size:=by
 cases cs with
 | nil=>simp at hl
 | cons v vs=>exact CW.lt h
end
end
section
open Go.RowKit Go.Shelf Fx
theorem Jne{s:Sh}(h:Good s):s.pts.length<=100000:=by
 by_cases k3:s.kind<=3
 ·rw[h.none k3];decide
 ·have k4:s.kind=4:=by have:=h.k;omega
  have hf:Jbs s=true:=by
   cases hf:Jbs s with
   | true=>rfl
   | false=>have:=h.ok;unfold J9 at this;rw[hf]at this;simp at this
  have hm:Jcw s.pts=true:=by
   unfold Jbs at hf;rw[if_neg (by omega),if_neg (by omega),if_neg (by omega),if_pos k4]at hf;simp only[Bool.and_eq_true]at hf;exact hf.2
  unfold Jcw at hm;simp only[Bool.and_eq_true,decide_eq_true_eq]at hm;omega
section
variable {V w w':BV} {pb:Nat} {pts:List Pt} {R:List B7} {Ds:List (Nat × Bd)} {ib st:Nat} {fin:Bd} {γ:Nat->B7} {L:Nat->Bool}
variable {pv:B7} (hR:RestP R pv) (cJ:pts.length<=100000) (h:OG V pb pts R Ds ib st fin γ L w) {k:Nat} {D D':Bd} {u:B7} (lK:u.oneCell'=true) (hL:Lies w u pts)
 (hD:∀ x∈Ds,x.1=k->x.2=D') (h1:ib≠k) (h2:st≠k) (ig:L st=false)
include hR cJ h lK hL hD h1 h2 ig
end
end
section
open Fx
def Mt.Fit(m:Mt):Prop:=isV m.a 8589934592/\isV m.b 8589934592/\isV m.c 8589934592
theorem Jt0{q:V4}(h:WM.Whole q.w q.x q.y q.z):Jho q=false/\(Jo q).Fit/\(Jo q).t.Fit:=by
 obtain⟨hw,hx,hy,hz,hN1,A6⟩:=id h;obtain⟨fU,n0,n1,n2,n3,n4,n5,n6,n7,n8⟩:=WM.rows_near hw hx hy hz A6;refine⟨fU,?_⟩;unfold Jo Mt.t Mt.Fit isV;rw[fU];exact⟨⟨⟨n0.2.2,n1.2.2,n2.2.2⟩,⟨n3.2.2,n4.2.2,n5.2.2⟩,⟨n6.2.2,n7.2.2,n8.2.2⟩⟩,⟨⟨n0.2.2,n3.2.2,n6.2.2⟩,⟨n1.2.2,n4.2.2,n7.2.2⟩,⟨n2.2.2,n5.2.2,n8.2.2⟩⟩⟩
theorem Jkl{a x:V3}{B:Int}(ha:isV a 8589934592)(hx:isV x B)(hB:6*B<=4611686018427387903)(h0:0<=B):
  ∃ r:Int,dot [a.x,a.y,a.z] [x.x,x.y,x.z]=some r/\(-(6*B)<=r/\r<=6*B):=by
 have j0:=WM.mul_in ha.1 hx.1;have j1:=WM.mul_in ha.2.1 hx.2.1;have j2:=WM.mul_in ha.2.2 hx.2.2;obtain⟨k0,k1,k2⟩:=hx;obtain⟨h0,h1,h2⟩:=ha;have e:Jaf [a.x,a.y,a.z] [x.x,x.y,x.z] / 4294967296=(a.x*x.x+(a.y*x.y+a.z*x.z)) / 4294967296:=by simp only[Jaf,Int.add_zero]
 have g1:[a.x,a.y,a.z].any great=false:=by simp[(not_great a.x).2 (by omega),(not_great a.y).2 (by omega),(not_great a.z).2 (by omega)]
 have g2:[x.x,x.y,x.z].any great=false:=by simp[(not_great x.x).2 (by omega),(not_great x.y).2 (by omega),(not_great x.z).2 (by omega)]
 have hX:-(25769803776*B)<=a.x*x.x+(a.y*x.y+a.z*x.z)/\a.x*x.x+(a.y*x.y+a.z*x.z)<=25769803776*B:=by omega
 generalize a.x*x.x+(a.y*x.y+a.z*x.z)=X at *;refine⟨X / 4294967296,?_,by omega⟩;have g3:great (X / 4294967296)=false:=(not_great _).2 (by omega);unfold dot;rw[if_neg (by simp),if_neg (by simp),g1,g2,e];simp[Fx.told,g3]
theorem Jsu{m:Mt}{x:V3}{B:Int}(hm:m.Fit)(hx:isV x B)(hB:6*B<=4611686018427387903)(h0:0<=B):Jdm m x=false/\isV (Ja0 m x) (6*B):=by
 obtain⟨r0,e0,b0⟩:=Jkl hm.1 hx hB h0;obtain⟨r1,e1,b1⟩:=Jkl hm.2.1 hx hB h0;obtain⟨r2,e2,b2⟩:=Jkl hm.2.2 hx hB h0;unfold Jdm Ja0;rw[e0,e1,e2];exact⟨rfl,b0,b1,b2⟩
theorem Joc{x n A N C:Int}(hx:-A<=x/\x<=A)(hn:N<=n/\n<=4611686018427387903)(hN:0<N)(hA:A<=4611686018427387903)(h0:0<=C)(h:A*4294967296<=C*N)(hC:C<=4611686018427387903):
  Jb1 x n=false/\(-C<=dv1 x n/\dv1 x n<=C):=by
 have hCn:C*N<=C*n:=Int.mul_le_mul_of_nonneg_left hn.1 h0;have b1:x*4294967296 / n<=C:=by
  have:=Int.ediv_le_ediv (by omega:0<n) (by omega:x*4294967296<=C*n);rwa [Int.mul_ediv_cancel _ (by omega)]at this
 have b2:-C<=x*4294967296 / n:=by
  have:=Int.ediv_le_ediv (by omega:0<n) (by rw[Int.neg_mul];omega:-C*n<=x*4294967296);rwa [Int.mul_ediv_cancel _ (by omega)]at this
 have g1:great x=false:=(not_great x).2 (by omega);have g2:great n=false:=(not_great n).2 (by omega);have g3:great (x*4294967296 / n)=false:=(not_great _).2 (by omega);have e:Jw x 4294967296 n=some (x*4294967296 / n):=by
  unfold Jw fl told;rw[if_neg (show ¬ n=0 by omega),g1,g2,if_neg (by simp[great])];simp only[if_neg (show ¬ n<0 by omega),g3]
  rfl
 unfold Jb1 dv1;rw[e];exact⟨rfl,b2,b1⟩
theorem Jff{a i:V3}{A N C:Int}(ha:isV a A)(hi:(N<=i.x/\i.x<=4611686018427387903)/\(N<=i.y/\i.y<=4611686018427387903)/\(N<=i.z/\i.z<=4611686018427387903))(hN:0<N)(hA:A<=4611686018427387903)(h0:0<=C)(h:A*4294967296<=C*N)(hC:C<=4611686018427387903):Jhp a i=false/\isV (Jm1 a i) C:=by
 obtain⟨e1,b1⟩:=Joc ha.1 hi.1 hN hA h0 h hC;obtain⟨e2,b2⟩:=Joc ha.2.1 hi.2.1 hN hA h0 h hC;obtain⟨e3,lB⟩:=Joc ha.2.2 hi.2.2 hN hA h0 h hC;unfold Jhp Jm1;rw[e1,e2,e3];exact⟨rfl,b1,b2,lB⟩
def Jur(i:V3):Prop:=(4096<=i.x/\i.x<=4611686018427387903)/\(4096<=i.y/\i.y<=4611686018427387903)/\(4096<=i.z/\i.z<=4611686018427387903)
theorem Js2{b:Bd}{p:V3}(hm:16777216<=b.m/\b.m<=1099511627776)(hp:isV p 1099511627776):Jcm (b.wp p)=false/\isV (Jap (b.wp p)) 281474976710656:=
 Jff (N:=16777216) hp ⟨⟨hm.1,Int.le_trans hm.2 (by decide)⟩,⟨hm.1,Int.le_trans hm.2 (by decide)⟩,⟨hm.1,Int.le_trans hm.2 (by decide)⟩⟩ (by decide) (by decide) (by decide) (by decide) (by decide)
theorem Jvy{b:Bd}{l:V3}(hq:WM.Whole b.q.w b.q.x b.q.y b.q.z)(hi:Jur b.i)(hl:isV l 68719476736):Jcg b l=false/\isV (Jag b l) 2594073385365405696:=by
 obtain⟨r,f1,f2⟩:=Jt0 hq;obtain⟨t1,t2⟩:=Jsu f2 hl (by decide) (by decide);obtain⟨d1,d2⟩:=Jff (N:=4096) (C:=432345564227567616) t2 hi (by decide) (by decide) (by decide) (by decide) (by decide);obtain⟨u1,u2⟩:=Jsu f1 d2 (by decide) (by decide);refine⟨?_,u2⟩;unfold Jcg;rw[r,t1,d1];exact u1
theorem Jhr{p0 p1 p2 p3 y0 y1 y2 y3:Int}(h0:-36028797018963968<=p0/\p0<=36028797018963968)(h1:-36028797018963968<=p1/\p1<=36028797018963968)(h2:-36028797018963968<=p2/\p2<=36028797018963968)(h3:-36028797018963968<=p3/\p3<=36028797018963968)
  (k0:-4294967296<=y0/\y0<=4294967296) (k1:-4294967296<=y1/\y1<=4294967296) (k2:-4294967296<=y2/\y2<=4294967296) (k3:-4294967296<=y3/\y3<=4294967296) :
  ∃ r t X:Int,X=p0*y0+(p1*y1+(p2*y2+p3*y3))/\dot [p0,p1,p2,p3] [y0,y1,y2,y3]=some t/\X=4294967296*t+r/\(0<=r/\r<4294967296)/\(-144115188075855872<=t/\t<=144115188075855872):=by
 have j0:=WM.mul_in h0 k0;have j1:=WM.mul_in h1 k1;have j2:=WM.mul_in h2 k2;have j3:=WM.mul_in h3 k3;have e:Jaf [p0,p1,p2,p3] [y0,y1,y2,y3] / 4294967296=(p0*y0+(p1*y1+(p2*y2+p3*y3))) / 4294967296:=by simp only[Jaf,Int.add_zero]
 have g1:[p0,p1,p2,p3].any great=false:=by simp[(not_great p0).2 (by omega),(not_great p1).2 (by omega),(not_great p2).2 (by omega),(not_great p3).2 (by omega)]
 have g2:[y0,y1,y2,y3].any great=false:=by simp[(not_great y0).2 (by omega),(not_great y1).2 (by omega),(not_great y2).2 (by omega),(not_great y3).2 (by omega)]
 have hX:-618970019642690137449562112<=p0*y0+(p1*y1+(p2*y2+p3*y3))/\p0*y0+(p1*y1+(p2*y2+p3*y3))<=618970019642690137449562112:=by omega
 generalize p0*y0+(p1*y1+(p2*y2+p3*y3))=X at *;refine⟨X%4294967296,X / 4294967296,X,rfl,?_,by omega,by omega,by omega⟩;have g3:great (X / 4294967296)=false:=(not_great _).2 (by omega);unfold dot;rw[if_neg (by simp),if_neg (by simp),g1,g2,e];simp[Fx.told,g3]
theorem Jt4(o a b c w x y z:Int):(o*w+(a * -x+(b * -y+c * -z)))*(o*w+(a * -x+(b * -y+c * -z)))+((o*x+(a*w+(b*z+c * -y)))*(o*x+(a*w+(b*z+c * -y)))+((o*y+(a * -z+(b*w+c*x)))*(o*y+(a * -z+(b*w+c*x)))+(o*z+(a*y+(b * -x+c*w)))*(o*z+(a*y+(b * -x+c*w)))))=(o*o+(a*a+(b*b+c*c)))*(w*w+(x*x+(y*y+z*z))):=by grind
theorem Jpk{X t r:Int}(hX:X=4294967296*t+r)(hr:0<=r/\r<4294967296)(ht:-2147483648<=t/\t<=2147483648):X*X<=18446744073709551616*(t*t)+79228162532711081671548469248:=by
 have h1:=WM.mul_in ht (b:=r) (B:=4294967296) (by omega);have h2:=WM.mul_in (a:=r) (b:=r) (A:=4294967296) (B:=4294967296) (by omega) (by omega);have e:X*X=18446744073709551616*(t*t)+8589934592*(t*r)+r*r:=by rw[hX];grind
 omega
theorem Jmf{x y z u:Int}(hx:-144115188075855872<=x/\x<=144115188075855872)(hy:-144115188075855872<=y/\y<=144115188075855872)(hz:-144115188075855872<=z/\z<=144115188075855872)(hu:-144115188075855872<=u/\u<=144115188075855872):∃ n,Jah [x,y,z,u]=some n:=by
 have q1:=WM.mul_in hx hx;have q2:=WM.mul_in hy hy;have q3:=WM.mul_in hz hz;have q4:=WM.mul_in hu hu;have p1:=J3 x;have p2:=J3 y;have p3:=J3 z;have p4:=J3 u;have g:[x,y,z,u].any great=false:=by simp[(not_great x).2 (by omega),(not_great y).2 (by omega),(not_great z).2 (by omega),(not_great u).2 (by omega)]
 have e:Jaf [x,y,z,u] [x,y,z,u]=x*x+(y*y+(z*z+u*u)):=by simp only[Jaf,Int.add_zero]
 unfold Jah;rw[if_neg (by simp),g,e];have hX:0<=x*x+(y*y+(z*z+u*u))/\x*x+(y*y+(z*z+u*u))<=83076749736557242056487941267521536:=by omega
 generalize x*x+(y*y+(z*z+u*u))=X at hX ⊢;obtain⟨n,rfl⟩:=Int.eq_ofNat_of_zero_le hX.1;rw[Int.toNat_natCast];obtain⟨i1,_⟩:=isq_is n;have:isq n<=4611686018427387903:=by
  refine Nat.le_of_lt_succ (Nat.lt_of_not_le fun hn=>?_);have:=Nat.mul_le_mul hn hn;omega
 unfold told;rw[(not_great _).2 (by omega)];exact⟨_,rfl⟩
theorem Jnv{q:V4}{h:V3}(hq:WM.Whole q.w q.x q.y q.z)(hh:isV h 36028797018963968):Jgg q h=false/\WM.Whole (Ja4 q h).w (Ja4 q h).x (Ja4 q h).y (Ja4 q h).z:=by
 obtain⟨w,x,y,z⟩:=q;obtain⟨a,b,c⟩:=h;obtain⟨hw,hx,hy,hz,hN1,A6⟩:=hq;obtain⟨ha,hb,hc⟩:=hh;dsimp only at *;have hp:(-36028797018963968:Int)<=4294967296/\(4294967296:Int)<=36028797018963968:=by decide
 obtain⟨r0,t0,X0,E0,d0,f0,u0,v0⟩:=Jhr hp ha hb hc hw (WM.neg_in hx) (WM.neg_in hy) (WM.neg_in hz);obtain⟨r1,t1,X1,E1,d1,f1,u1,v1⟩:=Jhr hp ha hb hc hx hw hz (WM.neg_in hy);obtain⟨r2,t2,X2,E2,d2,f2,u2,v2⟩:=Jhr hp ha hb hc hy (WM.neg_in hz) hw hx;obtain⟨r3,t3,X3,E3,d3,f3,u3,v3⟩:=Jhr hp ha hb hc hz hy (WM.neg_in hx) hw;have z7:=Jt4 4294967296 a b c w x y z;rw[<- E0,<- E1,<- E2,<- E3]at z7;have aL:Jh 4294967296 a b c w x y z=false:=by
  unfold Jh;simp only[WM.sub0 hx,WM.sub0 hy,WM.sub0 hz,Option.getD_some,d0,d1,d2,d3]
  rfl
 have a0:Jas 4294967296 a b c w x y z=t0:=by unfold Jas;simp only[WM.sub0 hx,WM.sub0 hy,WM.sub0 hz,Option.getD_some,d0]
 have a1:Jat 4294967296 a b c w x y z=t1:=by unfold Jat;simp only[WM.sub0 hy,Option.getD_some,d1]
 have a2:Jar 4294967296 a b c w x y z=t2:=by unfold Jar;simp only[WM.sub0 hz,Option.getD_some,d2]
 have a3:Jaq 4294967296 a b c w x y z=t3:=by unfold Jaq;simp only[WM.sub0 hx,Option.getD_some,d3]
 obtain⟨n,hn⟩:=Jmf v0 v1 v2 v3;obtain⟨_,_,_,_,_,n0,n1,n2⟩:=WM.norm4_some hn;have big:2147483648<=n:=by
  refine Int.not_lt.1 fun aG=>?_;have m1:=(WM.mul_in (a:=n+1) (b:=n+1) (A:=2147483648) (B:=2147483648) (by omega) (by omega)).2;have p0:=J3 t0;have p1:=J3 t1;have p2:=J3 t2;have p3:=J3 t3;have ss:∀ t:Int,t*t<=4611686018427387904->-2147483648<=t/\t<=2147483648:=fun t h=>by
   have:=Jd3 (x:=t) (n:=2147483648) (R:=0) (by decide) (by decide) (by omega);exact this
  have s0:=Jpk f0 u0 (ss t0 (by omega));have s1:=Jpk f1 u1 (ss t1 (by omega));have s2:=Jpk f2 u2 (ss t2 (by omega));have s3:=Jpk f3 u3 (ss t3 (by omega));have qa:=J3 a;have qb:=J3 b;have qc:=J3 c;have hQ:18446744039349813240<=w*w+(x*x+(y*y+z*z)):=by omega
  have lo:18446744073709551616*18446744039349813240<=(4294967296*4294967296+(a*a+(b*b+c*c)))*(w*w+(x*x+(y*y+z*z))):=
   Int.mul_le_mul (by omega) hQ (by decide) (by omega)
  rw[<- z7]at lo;omega
 obtain⟨A,B,C,D,l,e0,e1,e2,e3,_,_,_,w1,w2,w3,w4,w5,w6⟩:=WM.whole_long hn big;have hwb:Jr t0 t1 t2 t3=false:=by
  unfold Jr;rw[hn];simp only[Option.getD_some,e0,e1,e2,e3];rw[decide_eq_false (by omega)]
  rfl
 unfold Jgg Ja4 Jb0 Jen Jek Jef Je0;dsimp only;rw[aL,a0,a1,a2,a3];dsimp only[cond];rw[hwb,hn];dsimp only[cond,Option.getD];rw[e0,e1,e2,e3];exact⟨rfl,w1,w2,w3,w4,w5,w6⟩
theorem Jq5{s:Sh}(h:J9 s=0):(0<=(Jbo (Jcn s) s.radius).x/\(Jbo (Jcn s) s.radius).x<=137438953472)/\(0<=(Jbo (Jcn s) s.radius).y/\(Jbo (Jcn s) s.radius).y<=137438953472)/\(0<=(Jbo (Jcn s) s.radius).z/\(Jbo (Jcn s) s.radius).z<=137438953472):=by
 obtain⟨_,hr,p1,p2,p3⟩:=Jgx h;obtain⟨a,b,c1,c2,c3⟩:=Jfd (Jcn s) 65536 p3 p1 _ (Nat.le_refl _);obtain⟨a1,a2,a3⟩:=(Pt.inB_iff _ _).1 a;obtain⟨b1,b2,lB⟩:=(Pt.inB_iff _ _).1 b;have e1:=Jf6 a1.1 b1.2 c1 hr.1 hr.2;have e2:=Jf6 a2.1 b2.2 c2 hr.1 hr.2;have e3:=Jf6 a3.1 lB.2 c3 hr.1 hr.2;unfold Jbo;dsimp only;omega
theorem Jfq{a:Int}(h:a<=4611686018427387903):4096<=Jbp a 4096/\Jbp a 4096<=4611686018427387903:=by
 unfold Jbp
 split <;> omega
theorem Jov{m a b:Int}(m0:0<=m)(m1:m<=1099511627776)(ha:0<=a/\a<=137438953472)(hb:0<=b/\b<=137438953472):Ji6 m a b<=4611686018427387903:=by
 have h1:=Je9 m0 m1 ha.1 ha.2;have h2:=Je9 m0 m1 hb.1 hb.2;unfold Ji6;omega
theorem Js5{s:Sh}{m:Int}(h:J9 s=0)(m0:0<=m)(m1:m<=1099511627776):Jur ⟨Jbp (Jex s m).x 4096,Jbp (Jex s m).y 4096,Jbp (Jex s m).z 4096⟩:=by
 obtain⟨_,hr,_⟩:=Jgx h;obtain⟨w1,w2,w3⟩:=Jq5 h;unfold Jex
 split
 ·have h1:=Je9 (h:=s.radius*1048576) m0 m1 (by omega) (by omega);have:Jf2 m (s.radius*1048576)<=4611686018427387903:=by unfold Jf2;omega
  exact⟨Jfq this,Jfq this,Jfq this⟩
 ·exact⟨Jfq (Jov m0 m1 w2 w3),Jfq (Jov m0 m1 w3 w1),Jfq (Jov m0 m1 w1 w2)⟩
theorem Ok12.big{fx fa:Bool}{gr ma:Int}{b:Bd}{r:Rs}(h:Ok12 fx fa gr ma b r):Jur b.i:=by
 rw[h.i];exact Js5 h.good.ok (by have:=h.m;omega) h.m.2
end
section
open Go.RowKit Go.Shelf Fx
structure FX(x:Bd):Prop where
 m:16777216<=x.m/\x.m<=1099511627776
 p:isV x.p 1099511627776
 l:isV x.l 68719476736
 i:Jur x.i
structure FJ(x:Bd)(i:Nat)(c:Bd):Prop where
 k:c.k=x.k
 p:c.p=x.p
 l:c.l=x.l
 m:c.m=x.m
 ii:c.i=x.i
 mv:x.k=2->WM.Whole c.q.w c.q.x c.q.y c.q.z/\isV c.s (4398046511104*((i:Int)+1))
 st:x.k≠2->c=x
theorem Jn5{x y:Int}(hx:-1152921504606846976<=x/\x<=1152921504606846976)(hy:-1152921504606846976<=y/\y<=1152921504606846976):sub x y=some (x-y):=by
 unfold sub told great;rw[if_neg (by simp;omega),if_neg (by simp;omega)]
theorem Jub{a b:V3}(ha:isV a 1152921504606846976)(hb:isV b 1152921504606846976):Jv0 a b=false/\Juj a b=⟨a.x-b.x,a.y-b.y,a.z-b.z⟩:=by
 unfold Jv0 Juj;rw[Jn5 ha.1 hb.1,Jn5 ha.2.1 hb.2.1,Jn5 ha.2.2 hb.2.2];exact⟨rfl,rfl⟩
theorem FJ.go{x c:Bd}{i:Nat}(hx:FX x)(h:FJ x i c)(hi:i<=1000):∃ c',ifB c (goD c 67108864)=c'/\Jav c.k (goB c 67108864)=false/\FJ x (i+1) c'/\(x.k=2->Juj c'.s c.s=Jau (if2 x.k (Jap x)) 67108864)/\(x.k=2->Jcm c=false):=by
 by_cases hk:x.k=2
 ·obtain⟨hq,hs⟩:=h.mv hk;have g_:c.k=2:=h.k.trans hk;have es:Jap c=Jap x:=by unfold Jap;rw[h.p,h.m]
  obtain⟨a1,a2⟩:=Js2 (b:=c) (p:=c.p) (by rw[h.m];exact hx.m) (by rw[h.p];exact hx.p);have ec:c.wp c.p=c:=rfl;rw[ec]at a1 a2;obtain⟨b1,b2⟩:=Jo4 (n:=67108864) (N:=67108864) (C:=4398046511104) a2 (by decide) (by decide) (by decide) (by decide) (by decide);obtain⟨c1,c2⟩:=Jvy (b:=c) (l:=c.l) hq (by rw[h.ii];exact hx.i) (by rw[h.l];exact hx.l);obtain⟨d1,d2⟩:=Jo4 (n:=33554432) (N:=33554432) (C:=36028797018963968) c2 (by decide) (by decide) (by decide) (by decide) (by decide);obtain⟨e1,e2⟩:=Jnv hq (h:=Jae c 67108864) d2;have hs':isV c.s 1152921504606846976:=Jmh hs (by omega);obtain⟨f1,f2⟩:=Jtp (b:=Jab c 67108864) hs' (Jmh b2 (by decide));have hB:goB c 67108864=false:=by
   unfold goB Jkd;rw[a1,b1,c1]
   show(Jcb (Jag c c.l) 33554432||_)=false
   rw[d1,f1,e1];rfl
  refine⟨goD c 67108864,by unfold ifB;rw[if_pos g_],by unfold Jav;rw[if_pos g_,hB],⟨h.k,h.p,h.l,h.m,h.ii,fun _=>⟨e2,?_⟩,fun hn=>absurd hk hn⟩,fun _=>?_,fun _=>a1⟩
  ·show isV (Jt c.s (Jab c 67108864)) _
   rw[f2];have lB:isV (Jab c 67108864) 4398046511104:=b2;generalize Jab c 67108864=W at *;unfold isV at *;dsimp only;omega
  ·show Juj (Jt c.s (Jab c 67108864)) c.s=_
   rw[f2];have lB:isV (Jab c 67108864) 4398046511104:=b2;have ew:Jab c 67108864=Jau (if2 x.k (Jap x)) 67108864:=by unfold Jab if2;rw[if_pos hk,es]
   rw[<- ew];generalize Jab c 67108864=W at *;have g:=Jub (a:=⟨c.s.x+W.x,c.s.y+W.y,c.s.z+W.z⟩) (b:=c.s) (by unfold isV at *;dsimp only;omega) hs';rw[g.2];obtain⟨wx,wy,wz⟩:=W;dsimp only
   congr 1 <;> omega
 ·have g_:c.k≠2:=by rw[h.k];exact hk
  exact⟨c,by unfold ifB;rw[if_neg g_],by unfold Jav;rw[if_neg g_],⟨h.k,h.p,h.l,h.m,h.ii,fun e=>absurd e hk,h.st⟩,fun e=>absurd e hk,fun e=>absurd e hk⟩
theorem Ok12.free{fx fa:Bool}{gr ma:Int}{b x:Bd}{r:Rs}(h:Ok12 fx fa gr ma b r)(hx:Jbr b=x):FX x/\FJ x 0 x/\(x.k=if fx then 1 else 2)/\(x.k=2->Jcm x=false)/\(fx=true->if2 x.k (Jap x)=⟨0,0,0⟩):=by
 obtain⟨i1,i2⟩:=Jkz (b:=b) h.p h.l;obtain⟨s1,s2,s3,s4,s5⟩:=Jln b;rw[hx]at i1 i2 s1 s2 s3 s4 s5;have hm:16777216<=x.m/\x.m<=1099511627776:=by rw[s4];exact h.m
 have hk:x.k=if fx then 1 else 2:=s1.trans h.k
 refine⟨⟨hm,i1,i2,by rw[s5];exact h.big⟩,⟨rfl,rfl,rfl,rfl,rfl,fun _=>⟨by rw[s3];exact h.wh,?_⟩,fun _=>rfl⟩,hk,fun _=>?_,fun hf=>?_⟩
 ·have:=(Pt.inB_iff _ _).1 h.at_;rw[s2];unfold isV;dsimp only at this;omega
 ·have:=(Js2 (b:=x) (p:=x.p) hm i1).1;exact this
 ·unfold if2;rw[hk,hf];rfl
section
variable {w0 W W':BV} {tb xb pw vb cb:Nat} {tl xl vl:List B7} {rs:Rs} {u:B7} {c:Bd} {uc:B7}
end
end
section
open Go.RowKit Go.Shelf Fx
theorem Jjj{q:V4}(h:WM.Whole q.w q.x q.y q.z):Jg1 q=true:=by
 obtain⟨hw,hx,hy,hz,h1,h2⟩:=h;obtain⟨n,hn⟩:=Jmf (x:=q.w) (y:=q.x) (z:=q.y) (u:=q.z) (by omega) (by omega) (by omega) (by omega);obtain⟨_,_,_,_,_,n0,n1,n2⟩:=WM.norm4_some hn;have lo:4294967288<=n:=by
  refine Int.not_lt.1 fun aG=>?_;have:=(WM.mul_in (a:=n+1) (b:=n+1) (A:=4294967288) (B:=4294967288) (by omega) (by omega)).2;omega
 have hi:n<=4294967304:=by
  refine Int.not_lt.1 fun aG=>?_;have:=Int.mul_le_mul (a:=4294967305) (b:=4294967305) (c:=n) (d:=n) (by omega) (by omega) (by decide) (by omega);omega
 unfold Jg1;rw[hn];unfold inR;simp only[Option.getD_some,decide_eq_true_eq];omega
theorem Jnc{a:V3}{C D:Int}(h:isV a C)(hd:C<=D):inV a D=true:=by
 unfold isV at h;unfold inV inR;simp only[Bool.and_eq_true,decide_eq_true_eq];omega
theorem Jix{m h:Int}(m0:0<=m)(m1:m<=1099511627776)(h0:0<=h)(h1:h<=85899345920):0<=sqM m h/\sqM m h<=439804651110400:=by
 unfold sqM;have a:=(WM.mul_in (a:=h) (b:=h) (A:=85899345920) (B:=85899345920) (by omega) (by omega)).2;have b:=J3 h;have c:0<=h*h / 4294967296/\h*h / 4294967296<=1717986918400:=by omega
 generalize h*h / 4294967296=k at *;have d:=(WM.mul_in (a:=m) (b:=k) (A:=1099511627776) (B:=1717986918400) (by omega) (by omega)).2;have e:=Int.mul_nonneg m0 c.1;omega
theorem Jfz{a:Int}(h:a<=562949953421312):inR (Jbp a 4096) 4096 562949953421312=true:=by
 unfold inR Jbp;simp only[decide_eq_true_eq]
 split <;> omega
theorem Jsf{s:Sh}{m:Int}(h:J9 s=0)(m0:0<=m)(m1:m<=1099511627776):inR (Jbp (Jex s m).x 4096) 4096 562949953421312=true/\inR (Jbp (Jex s m).y 4096) 4096 562949953421312=true/\inR (Jbp (Jex s m).z 4096) 4096 562949953421312=true:=by
 obtain⟨_,hr,p1,p2,p3⟩:=Jgx h;obtain⟨a,b,c1,c2,c3⟩:=Jfd (Jcn s) 65536 p3 p1 _ (Nat.le_refl _);obtain⟨a1,a2,a3⟩:=(Pt.inB_iff _ _).1 a;obtain⟨b1,b2,lB⟩:=(Pt.inB_iff _ _).1 b;have e1:=Jf6 a1.1 b1.2 c1 hr.1 hr.2;have e2:=Jf6 a2.1 b2.2 c2 hr.1 hr.2;have e3:=Jf6 a3.1 lB.2 c3 hr.1 hr.2;have bx:∀ u v:Int,(0<=u/\u<=85899345920)->(0<=v/\v<=85899345920)->Ji6 m u v<=562949953421312:=fun u v hu hv=>by
  have h1:=Jix m0 m1 hu.1 hu.2;have h2:=Jix m0 m1 hv.1 hv.2;unfold Ji6;omega
 unfold Jex
 split
 ·have h1:=Jix (h:=s.radius*1048576) m0 m1 (by omega) (by omega);have:Jf2 m (s.radius*1048576)<=562949953421312:=by unfold Jf2;omega
  exact⟨Jfz this,Jfz this,Jfz this⟩
 ·unfold Jbo;dsimp only;exact⟨Jfz (bx _ _ ⟨e2.1,e2.2.1⟩ ⟨e3.1,e3.2.1⟩),Jfz (bx _ _ ⟨e3.1,e3.2.1⟩ ⟨e1.1,e1.2.1⟩),Jfz (bx _ _ ⟨e1.1,e1.2.1⟩ ⟨e2.1,e2.2.1⟩)⟩
theorem Ok12.check{fx fa:Bool}{gr ma:Int}{b x:Bd}{r:Rs}(h:Ok12 fx fa gr ma b r)(hx:Jbr b=x):Jfl x r.fr r.sh=0:=by
 obtain⟨i1,i2⟩:=Jkz (b:=b) h.p h.l;obtain⟨s1,s2,s3,s4,s5⟩:=Jln b;rw[hx]at i1 i2 s1 s2 s3 s4 s5;have hm:=h.m;have hk:x.k=1\/x.k=2:=by rw[s1,h.k];cases fx <;> simp
 have e1:inV x.s 4398046511104=true:=by
  rw[s2];have:=(Pt.inB_iff _ _).1 h.at_;exact Jnc (C:=4398046511104) this (by decide)
 have e2:Jg1 x.q=true:=by rw[s3];exact Jjj h.wh
 have e3:inR r.fr 0 4294967296=true:=by
  have:=h.rest;unfold inR;simp only[decide_eq_true_eq];omega
 have e4:Jem x r.fr=true:=by
  unfold Jem;rw[e1,e2,e3,Jnc i1 (by decide),Jnc i2 (by decide)];rcases hk with k | k <;> simp[k]
 have e5:Jjf x=true:=by
  obtain⟨q1,q2,q3⟩:=Jsf (m:=b.m) h.good.ok (by omega) hm.2;unfold Jjf;rw[s5,h.i,s4];dsimp only;rw[q1,q2,q3];unfold inR;simp;omega
 unfold Jfl;rw[if_pos e4,if_pos h.good.ok,if_neg (by rw[e5];simp)]
theorem FJ.check{x c:Bd}{i:Nat}{fr:Int}{sh:Sh}(h:FJ x i c)(hx:Jfl x fr sh=0)(hs:inV c.s 4398046511104=true):Jfl c fr sh=0:=by
 by_cases hk:x.k=2
 ·have hq:=Jjj (h.mv hk).1;unfold Jfl Jem Jjf at hx ⊢;rw[h.k,h.p,h.l,h.m,h.ii,hq,hs];cases h1:(decide (x.k=1)||decide (x.k=2))&&(inV x.s 4398046511104&&(Jg1 x.q&&(inR fr 0 4294967296&&(inV x.p 18014398509481984&&inV x.l 18014398509481984)))) with
  | false=>rw[h1]at hx;simp at hx
  | true =>
   rw[h1]at hx;simp only[Bool.and_eq_true]at h1;obtain⟨q1,q2,q3,q4,q5,q6⟩:=h1;rw[q1,q4,q5,q6];exact hx
 ·rw[h.st hk];exact hx
structure GS(w0:BV)(cb pw:Nat)(rs:Rs)(c:Bd)(uc:B7)(W:BV):Prop where
 w:CW W pw [BT false]
 c:CW W cb (c.L (rs.l uc))
 below:B9 w0.heap.size w0 W
 oc:∃ base,W.ownsRow base 23 3 uc rs.sh.pts.length (fl3 rs.sh.pts)/\uc.ownBlock≠some pw/\uc.ownBlock≠some cb
 o:w0.heap.size<=cb/\cb<pw/\pw<W.heap.size
section
variable {w0 W W':BV} {cb pw:Nat} {rs:Rs} {c:Bd} {uc:B7}
theorem GS.step(h:GS w0 cb pw rs c uc W)(hb:B9 W.heap.size W W'):GS w0 cb pw rs c uc W':=by
 obtain⟨b2,o2,n2⟩:=h.oc;exact⟨h.w.step hb,h.c.step hb,Jc h.below hb,⟨b2,Jq o2 hb,n2⟩,by have:=h.o;have:=hb.size;omega⟩
theorem GS.flag(h:GS w0 cb pw rs c uc W)(a:After ⟨pw,0,none⟩ false W W'):GS w0 cb pw rs c uc W':=by
 obtain⟨b2,o2,n2⟩:=h.oc;have ho:=h.o;have hs:=a.size;exact⟨CW.flag a,h.c.after a (by show cb≠pw;omega),a.leaves.below _ _ h.below (by show _<=pw;omega) h.below.size,⟨b2,Jed o2 fun g hg=>a.kept.2.2.2 g (o2.lt g hg).2 (fun e=>n2.1 (by rw[hg];exact congrArg some e)),n2⟩,by omega⟩
theorem GS.put{c':Bd}{u':B7}{base:Nat}(h:GS w0 cb pw rs c uc W)(h':W.ownsRow base 23 3 u' rs.sh.pts.length (fl3 rs.sh.pts))(hb:pw<base):GS w0 cb pw rs c' u' (W.setCells cb 0 (c'.L (rs.l u'))):=by
 have ho:=h.o;have hu:=(rs.rest (Jbb h')).rest;have cJ:(c'.L (rs.l u')).length=(c.L (rs.l uc)).length:=by
  rw[hu.all];obtain⟨b2,o2,_⟩:=h.oc;rw[(rs.rest (Jbb o2)).rest.all]
 exact⟨h.w.apart (by omega),h.c.sets cJ,h.below.trans (Jbd (by omega) _ _ _),⟨base,Jad h' (Jb8 h' (by omega)) _ 0,Jb8 h' hb,Jb8 h' (by omega)⟩,by rw[Jfv];omega⟩
end
end
section
namespace bodyTells
open Go.ChangeShapes Go.WideShapes Go.ChangeAt Go.RowKit Go.Shelf
open Fx
theorem walk(b:Bd)(r:Rs)(o:Option Ce)(c:Nat)(am jm:V3)(tm:Int)(W0:BV)(hL:Lies W0 (BQ o r.sh.pts.length c) r.sh.pts)(hb:∀ v∈([b.p.x,b.p.y,b.p.z,b.l.x,b.l.y,b.l.z]:List Int),-9223372036854775808<=v/\v<=9223372036854775807)(ht:-9223372036854775808<=tm/\tm<=9223372036854775807):
  Cd Tryz.prog 12 #[B_ (b.L (r.l (BQ o r.sh.pts.length c))).toArray,am.val,jm.val,J Y tm] W0 fun e W=>e = BZ (BT true)/\B9 W0.heap.size W0 W:=by
 have hR:=r.rest (pv:=(BQ o r.sh.pts.length c)) rfl;have hz:BU _:=Jj hR.rest b;obtain⟨hp,hl⟩:=Jve hb;clear hb;obtain⟨V,hV⟩:∃ V,V=((W0.alloc (BP (b.L (r.l (BQ o r.sh.pts.length c))).toArray 39)).alloc (BP #[J Y am.x,J Y am.y,J Y am.z] 27)).alloc (BP #[J Y jm.x,J Y jm.y,J Y jm.z] 27):=⟨_,rfl⟩
 have Cb:CW V W0.heap.size (b.L (r.l (BQ o r.sh.pts.length c))):=by rw[hV];exact((CW.new W0 (b.L (r.l (BQ o r.sh.pts.length c))) 39).step (Jb _ _)).step (Jb _ _)
 have Ca:CW V (W0.heap.size+1) am.l:=by rw[hV];have h9:=(CW.new (W0.alloc (BP (b.L (r.l (BQ o r.sh.pts.length c))).toArray 39)) am.l 27).step (Jb _ (BP #[J Y jm.x,J Y jm.y,J Y jm.z] 27));rw[JE]at h9;exact h9
 have Cj:CW V (W0.heap.size+1+1) jm.l:=by rw[hV];have h9:=CW.new ((W0.alloc (BP (b.L (r.l (BQ o r.sh.pts.length c))).toArray 39)).alloc (BP #[J Y am.x,J Y am.y,J Y am.z] 27)) jm.l 27;simp only[JE]at h9;exact h9
 have fw:BU (B9 W0.heap.size W0 V):=by show B9 _ _ _;rw[hV];exact Jc (Jc (Jb _ _) (Jb _ _)) (Jb _ _)
 obtain⟨pj,dL⟩:∃ p,p=W0.heap.size+1+1:=⟨_,rfl⟩
 obtain⟨pa,aU⟩:∃ p,p=W0.heap.size+1:=⟨_,rfl⟩
 obtain⟨pb,aF⟩:∃ p,p=W0.heap.size:=⟨_,rfl⟩
 rw[<- dL]at Cj;rw[<- aU]at Ca;rw[<- aF]at Cb;have o0:W0.heap.size<=pb:=by omega
 have o1:pb<pa:=by omega
 have o2:pa<pj:=by omega
 have mi:BU (CW _ _ _):=Cb;have rP:BU (CW _ _ _):=Ca;have rQ:BU (CW _ _ _):=Cj;clear Cb Ca Cj;go_enter func12,ntmps12;go_upto_region 1 with fail;rw[<- hV,<- dL,<- aU,<- aF];clear hV dL aU aF;go_wp2_with (fail);refine(Jhk V).mono ?_;rintro e V1 ⟨rfl,H1⟩;have Cb:=mi.out.step H1.out;have Ca:=rP.out.step H1.out;have Cj:=rQ.out.step H1.out;clear mi rP rQ;have fw:BU (B9 W0.heap.size W0 V1):=Jc fw.out H1.out;clear H1;have o3:pj<V1.heap.size:=CW.lt Cj;have qk:=(Cb 23 _ rfl).1;have mi:BU (CW _ _ _):=Cb;have rP:BU (CW _ _ _):=Ca;have rQ:BU (CW _ _ _):=Cj;clear Cb Ca Cj;by_cases h40:r.sh.pts.length<=40
 ·have z_:((r.sh.pts.length:Nat):Int)<=40:=by omega
  go_upto_region 4 with fail;clear qk z_;refine Bq [.some (BT true),.some (BT false),.some (BT false),.some (B_ (b.L (r.l (BQ o r.sh.pts.length c))).toArray),.some (J Y (Jfl b r.fr r.sh)),.some (B_ (b.L (r.l (BQ o r.sh.pts.length c))).toArray),.some (J Y (Jfl b r.fr r.sh)),.some (BT false),.some (BT false),.some (BT false),.some (B_ (b.L (r.l (BQ o r.sh.pts.length c))).toArray),.some (BT (!inV b.s 4398046511104)),.some (B_ (b.L (r.l (BQ o r.sh.pts.length c))).toArray),.some (BT (!inV b.s 4398046511104)),.some (BT false),.some (BT false)] [27,28,29,30,31,32,33,34,35,36,37,38,39,40,41,42] [(9,BT true),(4,BO (some ⟨pb,0,none⟩))] (fun γ L w=>B9 V1.heap.size V1 w) ⟨rfl,rfl,trivial⟩ (Below.refl _ _).drew ?_ ?_
  ·intro D WA Z hD ah hZ T;simp only[RV.Outs,RV.Slots,Nat.reduceAdd]at T
   (refine Br _ (Bs T (fun γ v L w hl h=>h) (fun γ L a w hH hl h9 k9=>⟨_,?_,rfl⟩)) ?_;· simp[JD,go_sem,h9])
   iterate 2 (refine Br _ (Bs T (fun γ v L w hl h=>h) (fun γ L a w hH hl h9 k9=>⟨_,?_,rfl⟩)) ?_;· simp[JC]at k9;simp[JD,go_sem,h9,k9])
   refine Br _ (BH rfl (by rw[<- hD];rfl) (fun v w h=>h) (by simp) (Bs T (fun γ v L w hl h=>h) (fun γ L a w hH hl h9 k9=>⟨_,Jax 39 _ rfl pb 0 (by simp[go_sem,h9]) _ _ (mi.out.step hH.glob).range underlying39 rfl hz.out,rfl⟩))) ?_;refine Br _ (BH rfl (by rw[<- hD];rfl) (fun v w h=>h) (by simp) (Bw (fun γ L a w hH hl hA=>by have h9:=T γ L a w hH;have k9:=hA;simp[JC]at k9;exact⟨_,_,by simp[go_sem,h9,k9],JA (Jdd b r _ w (hL.below (Jc fw.out hH.glob))) (by rintro e w2 ⟨rfl,hb⟩;exact⟨_,rfl,rfl,fun j v _ h=>h.keep _,Jc hH.glob hb.out⟩)⟩))) ?_;refine Br _ (BH rfl (by rw[<- hD];rfl) (fun v w h=>h) (by simp) (Bs T (fun γ v L w hl h=>h) (fun γ L a w hH hl h9 k9=>⟨_,Jax 39 _ rfl pb 0 (by simp[go_sem,h9]) _ _ (mi.out.step hH.glob).range underlying39 rfl hz.out,rfl⟩))) ?_;refine Br _ (BH rfl (by rw[<- hD];rfl) (fun v w h=>h) (by simp) (Bw (fun γ L a w hH hl hA=>by have h9:=T γ L a w hH;have k9:=hA;simp[JC]at k9;exact⟨_,_,by simp[go_sem,h9,k9],JA (Jkn b r _ w (hL.below (Jc fw.out hH.glob))) (by rintro e w2 ⟨rfl,hb⟩;exact⟨_,rfl,rfl,fun j v _ h=>h.keep _,Jc hH.glob hb.out⟩)⟩))) ?_
   (refine Br _ (BH rfl (by rw[<- hD];rfl) (fun v w h=>h) (by simp) (Bs T (fun γ v L w hl h=>h) (fun γ L a w hH hl h9 k9=>⟨_,?_,rfl⟩))) ?_;· simp[JC]at k9;simp[JD,go_sem,h9,k9])
   iterate 2 (refine Br _ (Bs T (fun γ v L w hl h=>h) (fun γ L a w hH hl h9 k9=>⟨_,?_,rfl⟩)) ?_;· simp[JC]at k9;simp[JD,go_sem,h9,k9])
   refine Br _ (BH rfl (by rw[<- hD];rfl) (fun v w h=>h) (by simp) (Bs T (fun γ v L w hl h=>h) (fun γ L a w hH hl h9 k9=>⟨_,Jax 39 _ rfl pb 0 (by simp[go_sem,h9]) _ _ (mi.out.step hH.glob).range underlying39 rfl hz.out,rfl⟩))) ?_;refine Br _ (BH rfl (by rw[<- hD];rfl) (fun v w h=>h) (by simp) (Bw (fun γ L a w hH hl hA=>by have h9:=T γ L a w hH;have k9:=hA;simp[JC]at k9;exact⟨_,_,by simp[go_sem,h9,k9],JA (Jkc b (r.l (BQ o r.sh.pts.length c)) w) (by rintro e w2 ⟨rfl,hb⟩;exact⟨_,rfl,rfl,fun j v _ h=>h.keep _,Jc hH.glob hb.out⟩)⟩))) ?_;refine Br _ (BH rfl (by rw[<- hD];rfl) (fun v w h=>h) (by simp) (Bs T (fun γ v L w hl h=>h) (fun γ L a w hH hl h9 k9=>⟨_,Jax 39 _ rfl pb 0 (by simp[go_sem,h9]) _ _ (mi.out.step hH.glob).range underlying39 rfl hz.out,rfl⟩))) ?_;refine Br _ (BH rfl (by rw[<- hD];rfl) (fun v w h=>h) (by simp) (Bw (fun γ L a w hH hl hA=>by have h9:=T γ L a w hH;have k9:=hA;simp[JC]at k9;exact⟨_,_,by simp[go_sem,h9,k9],JA (Jqx b (r.l (BQ o r.sh.pts.length c)) w) (by rintro e w2 ⟨rfl,hb⟩;exact⟨_,rfl,rfl,fun j v _ h=>h.keep _,Jc hH.glob hb.out⟩)⟩))) ?_
   (refine Br _ (BH rfl (by rw[<- hD];rfl) (fun v w h=>h) (by simp) (Bs T (fun γ v L w hl h=>h) (fun γ L a w hH hl h9 k9=>⟨_,?_,rfl⟩))) ?_;· simp[JC]at k9;simp[JD,go_sem,h9,k9])
   (refine Br _ (Bs T (fun γ v L w hl h=>h) (fun γ L a w hH hl h9 k9=>⟨_,?_,rfl⟩)) ?_;· simp[JC]at k9;simp[JD,go_sem,h9,k9])
   exact RV.AllDo.nil
  ·intro γ w5 L9 yo aX aD;simp only[RV.putL,Act.put,JH,JG,JF];have HS:BU (BS _ _ _ _ _ _ _ _):=⟨Jc fw.out aD,mi.out.step aD,rP.out.step aD,rQ.out.step aD,o0,o1,o2,Nat.lt_of_lt_of_le o3 aD.size⟩
   clear aX yo mi rP rQ fw aD o3;go_wp2_with (fail)
   go_loopg [10] 8 (fun gm s10 wr=>∃ k:Nat,k+gm=8/\s10=J Y k/\BU (BS W0 pb pa pj (b.L (r.l (BQ o r.sh.pts.length c))) am jm wr))
   case atStart=>exact⟨0,rfl,rfl,HS⟩
   case round =>
    obtain⟨k,hk,rfl,HS⟩:=hrel;rcases Nat.eq_zero_or_pos gk with h0 | h0
    ·obtain rfl:k=8:=by omega
     go_wp2;go_ret;exact⟨rfl,HS.out.below⟩
    ·obtain⟨gm,rfl⟩:∃ m,gk=m+1:=⟨gk-1,by omega⟩
     have nV:(k:Int)<8:=by omega
     go_upto_region 11 with fail;generalize iB:World.alloc (World.alloc wr _) _=X0;have b0:B9 wr.heap.size wr X0:=by rw[<- iB];exact Jc (Jb _ _) (Jb _ _)
     have wG:CW X0 wr.heap.size [BT false]:=by rw[<- iB];exact(CW.new wr [BT false] _).step (Jb _ _)
     have wH:CW X0 (wr.heap.size+1) [BT false]:=by rw[<- iB];have h9:=CW.new (wr.alloc (BP #[BT false] 47)) [BT false] 57;rw[JE]at h9;exact h9
     have s0:X0.heap.size=wr.heap.size+2:=by rw[<- iB];simp only[JE]
     obtain⟨pr,aB⟩:∃ p,p=wr.heap.size+1:=⟨_,rfl⟩
     obtain⟨pw,bE⟩:∃ p,p=wr.heap.size:=⟨_,rfl⟩
     rw[<- aB]at wH ⊢;rw[<- bE]at wG ⊢;have kA:BU (BS _ _ _ _ _ _ _ _):=HS.out.step b0;have H0:BU (CW X0 pw [BT false]/\CW X0 pr [BT false]/\pj<pw/\pw<pr/\pr<X0.heap.size):=⟨wG,wH,by have h7:=HS.out.o;omega,by omega,by omega⟩
     clear iB b0 wG wH s0 aB bE HS;obtain⟨N1,B1,S1,T1⟩:=Jb3 X0 (b.L (r.l (BQ o r.sh.pts.length c))) (hR.rest.all b);have HT:BU (World.there _ _ _ _):=T1;have HN:BU _:=And.intro N1 (And.intro B1 S1);have au:BU (World.rangeAt X0 pb 0 (b.L (r.l (BQ o r.sh.pts.length c)))):=kA.out.cb.range;have hy:BU _:=Jn hR.rest b;have h1:BU _:=hR.rest.each b;clear T1 N1 B1 S1;go_upto_region 12 with (first | refine wpList_load_mid rfl 39 _ rfl pb 0 rfl _ _ au.out underlying39 rfl hz.out ?_ | refine wpList_store_mid rfl 39 _ _ rfl X0.heap.size 0 _ rfl rfl HT.out hy.out h1.out ?_);generalize ef:World.setCells (World.alloc X0 _) _ 0 _=X1 at HN ⊢;obtain⟨N1,B1,S1⟩:=HN.out;obtain⟨px,A7⟩:∃ p,p=X0.heap.size:=⟨_,rfl⟩
     rw[<- A7]at N1 S1 ⊢;have bG:BU (BS _ _ _ _ _ _ _ _):=kA.out.step B1;have H1:BU (CW X1 pw [BT false]/\CW X1 pr [BT false]/\CW X1 px (b.L (r.l (BQ o r.sh.pts.length c)))/\pj<pw/\pw<pr/\pr<px/\px<X1.heap.size):=⟨H0.out.1.step B1,H0.out.2.1.step B1,N1,H0.out.2.2.1,H0.out.2.2.2.1,by have h7:=H0.out.2.2.2.2;omega,by omega⟩
     clear ef HT au HN N1 B1 S1 A7 kA H0;obtain⟨N2,B2,S2,T2⟩:=Jb3 X1 (b.L (r.l (BQ o r.sh.pts.length c))) (hR.rest.all b);have HT:BU (World.there _ _ _ _):=T2;have HN:BU _:=And.intro N2 (And.intro B2 S2);have au:BU (World.rangeAt X1 pb 0 (b.L (r.l (BQ o r.sh.pts.length c)))):=bG.out.cb.range;clear T2 N2 B2 S2;go_upto_region 13 with (first | refine wpList_load_mid rfl 39 _ rfl pb 0 rfl _ _ au.out underlying39 rfl hz.out ?_ | refine wpList_store_mid rfl 39 _ _ rfl X1.heap.size 0 _ rfl rfl HT.out hy.out h1.out ?_);generalize fP:World.setCells (World.alloc X1 _) _ 0 _=X2 at HN ⊢;obtain⟨N2,B2,S2⟩:=HN.out;obtain⟨py,A_⟩:∃ p,p=X1.heap.size:=⟨_,rfl⟩
     rw[<- A_]at N2 ⊢;have HB:BU (BR W0 pb pa pj pw pr px py (b.L (r.l (BQ o r.sh.pts.length c))) am jm false false (b.L (r.l (BQ o r.sh.pts.length c))) (b.L (r.l (BQ o r.sh.pts.length c))) X2):=⟨Jc bG.out.below B2,bG.out.cb.step B2,bG.out.ca.step B2,bG.out.cj.step B2,H1.out.1.step B2,H1.out.2.1.step B2,H1.out.2.2.1.step B2,N2,by have h7:=bG.out.o;have h8:=H1.out.2.2.2;omega⟩
     clear fP HT au HN N2 B2 S2 A_ bG H1 hy h1;simp only[Act.put]
     go_upto_block 2 with fail
     go_cut [15,16,17,18] from 42 to 160 (fun Bh s16 Bi Bj wx=>∃(bx:Bd) (ux:B7) (g:Bool),Rest (r.l ux)/\BU (BR W0 pb pa pj pw pr px py (b.L (r.l (BQ o r.sh.pts.length c))) am jm g g (bx.L (r.l ux)) (bx.L (r.l (BQ o r.sh.pts.length c))) wx)/\BU (Lies wx ux r.sh.pts))
     case first =>
      match k,hk,nV with
      | 0,_,_ =>
       obtain⟨q,fy⟩:∃ q,q=if2 b.k (Jap b):=⟨_,rfl⟩
       have hq:BU _:=fy;clear fy;have au:BU (World.rangeAt X2 pb 0 (b.L (r.l (BQ o r.sh.pts.length c)))):=HB.out.cb.range;have HC:BU _:=Jg7 pw 0 false b _ hR.rest X2 (HB.out.cw 0 _ rfl).1 (HB.out.cw 0 _ rfl).2;rw[<- hq.out]at HC;go_wp2_with (refine wpList_load_mid rfl 39 _ rfl pb 0 rfl _ _ au.out underlying39 rfl hz.out ?_);refine JA HC.out ?_;rintro e Y1 ⟨rfl,A⟩;have bK:BU (BR _ _ _ _ _ _ _ _ _ _ _ _ _ _ _ _):=HB.out.w A.out;clear HC au A HB;have d8:=(bK.out.cx 8 _ rfl).1;have d9:=(bK.out.cx 9 _ rfl).1;have ik:=(bK.out.cx 10 _ rfl).1;have f8:=(bK.out.cx 8 _ rfl).2;have f9:=(bK.out.cx 9 _ rfl).2;have mZ:=(bK.out.cx 10 _ rfl).2;go_upto_region 22 with fail;have aZ:BU (BR _ _ _ _ _ _ _ _ _ _ _ _ _ _ _ _):=bK.out.x3 hR.rest q;generalize dY:World.setCell (World.setCell (World.setCell Y1 _ _) _ _) _ _=Y2 at aZ ⊢;clear dY bK d8 d9 ik f8 f9 mZ;have au:BU (World.rangeAt Y2 pb 0 (b.L (r.l (BQ o r.sh.pts.length c)))):=aZ.out.cb.range;have HC:BU _:=Jh5 pr 0 false b (r.l (BQ o r.sh.pts.length c)) Y2 (aZ.out.cr 0 _ rfl).1 (aZ.out.cr 0 _ rfl).2;rw[<- hq.out]at HC;go_wp2_with (refine wpList_load_mid rfl 39 _ rfl pb 0 rfl _ _ au.out underlying39 rfl hz.out ?_);refine JA HC.out ?_;rintro e Y3 ⟨rfl,A⟩;have co:BU (BR _ _ _ _ _ _ _ _ _ _ _ _ _ _ _ _):=aZ.out.r A.out;clear HC au A aZ;have d8:=(co.out.cy 8 _ rfl).1;have d9:=(co.out.cy 9 _ rfl).1;have ik:=(co.out.cy 10 _ rfl).1;have f8:=(co.out.cy 8 _ rfl).2;have f9:=(co.out.cy 9 _ rfl).2;have mZ:=(co.out.cy 10 _ rfl).2;clear hq;go_wp2_with (fail);go_meet
       case rel=>exact⟨b.wp q,(BQ o r.sh.pts.length c),_,hR.rest,co.out.y3 hR.rest q,hL.below (co.out.y3 hR.rest q).below⟩
      | 1,_,_ =>
       obtain⟨q,fy⟩:∃ q,q=if2 b.k (Jag b b.l):=⟨_,rfl⟩
       have hq:BU _:=fy;clear fy;have au:BU (World.rangeAt X2 pb 0 (b.L (r.l (BQ o r.sh.pts.length c)))):=HB.out.cb.range;have HC:BU _:=Jmi pw 0 false b _ hR.rest X2 (HB.out.cw 0 _ rfl).1 (HB.out.cw 0 _ rfl).2;rw[<- hq.out]at HC;go_wp2_with (refine wpList_load_mid rfl 39 _ rfl pb 0 rfl _ _ au.out underlying39 rfl hz.out ?_);refine JA HC.out ?_;rintro e Y1 ⟨rfl,A⟩;have bK:BU (BR _ _ _ _ _ _ _ _ _ _ _ _ _ _ _ _):=HB.out.w A.out;clear HC au A HB;have d8:=(bK.out.cx 8 _ rfl).1;have d9:=(bK.out.cx 9 _ rfl).1;have ik:=(bK.out.cx 10 _ rfl).1;have f8:=(bK.out.cx 8 _ rfl).2;have f9:=(bK.out.cx 9 _ rfl).2;have mZ:=(bK.out.cx 10 _ rfl).2;go_upto_region 25 with fail;have aZ:BU (BR _ _ _ _ _ _ _ _ _ _ _ _ _ _ _ _):=bK.out.x3 hR.rest q;generalize dY:World.setCell (World.setCell (World.setCell Y1 _ _) _ _) _ _=Y2 at aZ ⊢;clear dY bK d8 d9 ik f8 f9 mZ;have au:BU (World.rangeAt Y2 pb 0 (b.L (r.l (BQ o r.sh.pts.length c)))):=aZ.out.cb.range;have HC:BU _:=Jj5 pr 0 false b _ hR.rest Y2 (aZ.out.cr 0 _ rfl).1 (aZ.out.cr 0 _ rfl).2;rw[<- hq.out]at HC;go_wp2_with (refine wpList_load_mid rfl 39 _ rfl pb 0 rfl _ _ au.out underlying39 rfl hz.out ?_);refine JA HC.out ?_;rintro e Y3 ⟨rfl,A⟩;have co:BU (BR _ _ _ _ _ _ _ _ _ _ _ _ _ _ _ _):=aZ.out.r A.out;clear HC au A aZ;have d8:=(co.out.cy 8 _ rfl).1;have d9:=(co.out.cy 9 _ rfl).1;have ik:=(co.out.cy 10 _ rfl).1;have f8:=(co.out.cy 8 _ rfl).2;have f9:=(co.out.cy 9 _ rfl).2;have mZ:=(co.out.cy 10 _ rfl).2;clear hq;go_wp2_with (fail);go_meet
       case rel=>exact⟨b.wp q,(BQ o r.sh.pts.length c),_,hR.rest,co.out.y3 hR.rest q,hL.below (co.out.y3 hR.rest q).below⟩
      | 2,_,_ =>
       obtain⟨q,fy⟩:∃ q,q=if2 b.k (Jag b jm):=⟨_,rfl⟩
       have hq:BU _:=fy;clear fy;have au:BU (World.rangeAt X2 pb 0 (b.L (r.l (BQ o r.sh.pts.length c)))):=HB.out.cb.range;obtain⟨j0,j1,j2⟩:(X2.cell? ⟨pj,0,none⟩=some (J Y jm.x))/\(X2.cell? ⟨pj,1,none⟩=some (J Y jm.y))/\(X2.cell? ⟨pj,2,none⟩=some (J Y jm.z)):=⟨(HB.out.cj 0 _ rfl).1,(HB.out.cj 1 _ rfl).1,(HB.out.cj 2 _ rfl).1⟩
       have HC:BU _:=Jjs pw 0 false b _ jm hR.rest X2 (HB.out.cw 0 _ rfl).1 (HB.out.cw 0 _ rfl).2;rw[<- hq.out]at HC;go_wp2_with (refine wpList_load_mid rfl 39 _ rfl pb 0 rfl _ _ au.out underlying39 rfl hz.out ?_);refine JA HC.out ?_;rintro e Y1 ⟨rfl,A⟩;have bK:BU (BR _ _ _ _ _ _ _ _ _ _ _ _ _ _ _ _):=HB.out.w A.out;clear HC au A j0 j1 j2 HB;have d8:=(bK.out.cx 8 _ rfl).1;have d9:=(bK.out.cx 9 _ rfl).1;have ik:=(bK.out.cx 10 _ rfl).1;have f8:=(bK.out.cx 8 _ rfl).2;have f9:=(bK.out.cx 9 _ rfl).2;have mZ:=(bK.out.cx 10 _ rfl).2;go_upto_region 28 with fail;have aZ:BU (BR _ _ _ _ _ _ _ _ _ _ _ _ _ _ _ _):=bK.out.x3 hR.rest q;generalize dY:World.setCell (World.setCell (World.setCell Y1 _ _) _ _) _ _=Y2 at aZ ⊢;clear dY bK d8 d9 ik f8 f9 mZ;have au:BU (World.rangeAt Y2 pb 0 (b.L (r.l (BQ o r.sh.pts.length c)))):=aZ.out.cb.range;obtain⟨j0,j1,j2⟩:(Y2.cell? ⟨pj,0,none⟩=some (J Y jm.x))/\(Y2.cell? ⟨pj,1,none⟩=some (J Y jm.y))/\(Y2.cell? ⟨pj,2,none⟩=some (J Y jm.z)):=⟨(aZ.out.cj 0 _ rfl).1,(aZ.out.cj 1 _ rfl).1,(aZ.out.cj 2 _ rfl).1⟩
       have HC:BU _:=Jiz pr 0 false b (r.l (BQ o r.sh.pts.length c)) jm Y2 (aZ.out.cr 0 _ rfl).1 (aZ.out.cr 0 _ rfl).2;rw[<- hq.out]at HC;go_wp2_with (refine wpList_load_mid rfl 39 _ rfl pb 0 rfl _ _ au.out underlying39 rfl hz.out ?_);refine JA HC.out ?_;rintro e Y3 ⟨rfl,A⟩;have co:BU (BR _ _ _ _ _ _ _ _ _ _ _ _ _ _ _ _):=aZ.out.r A.out;clear HC au A j0 j1 j2 aZ;have d8:=(co.out.cy 8 _ rfl).1;have d9:=(co.out.cy 9 _ rfl).1;have ik:=(co.out.cy 10 _ rfl).1;have f8:=(co.out.cy 8 _ rfl).2;have f9:=(co.out.cy 9 _ rfl).2;have mZ:=(co.out.cy 10 _ rfl).2;clear hq;go_wp2_with (fail);go_meet
       case rel=>exact⟨b.wp q,(BQ o r.sh.pts.length c),_,hR.rest,co.out.y3 hR.rest q,hL.below (co.out.y3 hR.rest q).below⟩
      | 3,_,_ =>
       obtain⟨d,eV⟩:∃ d,d=ifB b (Jcc b am jm):=⟨_,rfl⟩
       have hd:BU _:=eV;clear eV;have au:BU (World.rangeAt X2 pb 0 (b.L (r.l (BQ o r.sh.pts.length c)))):=HB.out.cb.range;obtain⟨a0,a1,a2⟩:(X2.cell? ⟨pa,0,none⟩=some (J Y am.x))/\(X2.cell? ⟨pa,1,none⟩=some (J Y am.y))/\(X2.cell? ⟨pa,2,none⟩=some (J Y am.z)):=⟨(HB.out.ca 0 _ rfl).1,(HB.out.ca 1 _ rfl).1,(HB.out.ca 2 _ rfl).1⟩
       obtain⟨j0,j1,j2⟩:(X2.cell? ⟨pj,0,none⟩=some (J Y jm.x))/\(X2.cell? ⟨pj,1,none⟩=some (J Y jm.y))/\(X2.cell? ⟨pj,2,none⟩=some (J Y jm.z)):=⟨(HB.out.cj 0 _ rfl).1,(HB.out.cj 1 _ rfl).1,(HB.out.cj 2 _ rfl).1⟩
       have HC:BU _:=Jli pw 0 false b _ _ r.sh.pts am jm hR X2 (HB.out.cw 0 _ rfl).1 (HB.out.cw 0 _ rfl).2 (hL.below HB.out.below) (by omega);rw[<- hd.out]at HC;go_wp2_with (refine wpList_load_mid rfl 39 _ rfl pb 0 rfl _ _ au.out underlying39 rfl hz.out ?_);refine JA HC.out ?_;rintro e Y1 ⟨u,rfl,A,HO⟩;rw[Rs.set]at *;have bK:BU (BR _ _ _ _ _ _ _ _ _ _ _ _ _ _ _ _):=HB.out.w A.out;have hu:=(r.rest (Jbb HO.out)).rest;have mj:px<X2.heap.size:=CW.lt HB.out.cx;have ml:py<X2.heap.size:=CW.lt HB.out.cy;have mq:pr<X2.heap.size:=CW.lt HB.out.cr;clear HC au A HB a0 a1 a2 j0 j1 j2;have HT:BU (World.there Y1 px 0 (d.L (r.l u)).toArray.size):=bK.out.cx.thereB hR.rest hu;have hy:BU _:=Jn hu d;have h1:BU _:=hu.each d;go_upto_region 31 with (refine wpList_store_mid rfl 39 _ _ rfl px 0 _ rfl rfl HT.out hy.out h1.out ?_);have aZ:BU (BR _ _ _ _ _ _ _ _ _ _ _ _ _ _ _ _):=bK.out.sx (us:=d.L (r.l u)) (by rw[hu.all,hR.rest.all]);have bX:BU _:=Jad HO.out (Jb8 HO.out mj) (d.L (r.l u)) 0;generalize dY:World.setCells Y1 px 0 _=Y2 at aZ bX ⊢;clear dY bK HO HT hy h1;have au:BU (World.rangeAt Y2 pb 0 (b.L (r.l (BQ o r.sh.pts.length c)))):=aZ.out.cb.range;obtain⟨a0,a1,a2⟩:(Y2.cell? ⟨pa,0,none⟩=some (J Y am.x))/\(Y2.cell? ⟨pa,1,none⟩=some (J Y am.y))/\(Y2.cell? ⟨pa,2,none⟩=some (J Y am.z)):=⟨(aZ.out.ca 0 _ rfl).1,(aZ.out.ca 1 _ rfl).1,(aZ.out.ca 2 _ rfl).1⟩
       obtain⟨j0,j1,j2⟩:(Y2.cell? ⟨pj,0,none⟩=some (J Y jm.x))/\(Y2.cell? ⟨pj,1,none⟩=some (J Y jm.y))/\(Y2.cell? ⟨pj,2,none⟩=some (J Y jm.z)):=⟨(aZ.out.cj 0 _ rfl).1,(aZ.out.cj 1 _ rfl).1,(aZ.out.cj 2 _ rfl).1⟩
       have HC:BU _:=Jqm pr 0 false b _ am jm hR.rest Y2 (aZ.out.cr 0 _ rfl).1 (aZ.out.cr 0 _ rfl).2;rw[<- hd.out]at HC;go_wp2_with (refine wpList_load_mid rfl 39 _ rfl pb 0 rfl _ _ au.out underlying39 rfl hz.out ?_);refine JA HC.out ?_;rintro e Y3 ⟨rfl,A⟩;have co:BU (BR _ _ _ _ _ _ _ _ _ _ _ _ _ _ _ _):=aZ.out.r A.out;have cm:BU _:=Jdy bX.out A.out mq;clear HC au A aZ bX hd a0 a1 a2 j0 j1 j2;have HT:BU (World.there Y3 py 0 (d.L (r.l (BQ o r.sh.pts.length c))).toArray.size):=co.out.cy.thereB hR.rest hR.rest;have hy:BU _:=Jn hR.rest d;have h1:BU _:=hR.rest.each d;go_wp2_with (refine wpList_store_mid rfl 39 _ _ rfl py 0 _ rfl rfl HT.out hy.out h1.out ?_);go_meet
       case rel=>exact⟨d,u,_,hu,co.out.sy (by rw[hR.rest.all,hR.rest.all]),Lies.of_row (Jad cm.out (Jb8 cm.out ml) _ 0)⟩
      | 4,_,_ =>
       obtain⟨d,eV⟩:∃ d,d=ifB b (Jcl b jm):=⟨_,rfl⟩
       have hd:BU _:=eV;clear eV;have au:BU (World.rangeAt X2 pb 0 (b.L (r.l (BQ o r.sh.pts.length c)))):=HB.out.cb.range;obtain⟨j0,j1,j2⟩:(X2.cell? ⟨pj,0,none⟩=some (J Y jm.x))/\(X2.cell? ⟨pj,1,none⟩=some (J Y jm.y))/\(X2.cell? ⟨pj,2,none⟩=some (J Y jm.z)):=⟨(HB.out.cj 0 _ rfl).1,(HB.out.cj 1 _ rfl).1,(HB.out.cj 2 _ rfl).1⟩
       have HC:BU _:=Jqs pw 0 false b _ _ r.sh.pts jm hR X2 (HB.out.cw 0 _ rfl).1 (HB.out.cw 0 _ rfl).2 (hL.below HB.out.below) (by omega);rw[<- hd.out]at HC;go_wp2_with (refine wpList_load_mid rfl 39 _ rfl pb 0 rfl _ _ au.out underlying39 rfl hz.out ?_);refine JA HC.out ?_;rintro e Y1 ⟨u,rfl,A,HO⟩;rw[Rs.set]at *;have bK:BU (BR _ _ _ _ _ _ _ _ _ _ _ _ _ _ _ _):=HB.out.w A.out;have hu:=(r.rest (Jbb HO.out)).rest;have mj:px<X2.heap.size:=CW.lt HB.out.cx;have ml:py<X2.heap.size:=CW.lt HB.out.cy;have mq:pr<X2.heap.size:=CW.lt HB.out.cr;clear HC au A HB j0 j1 j2;have HT:BU (World.there Y1 px 0 (d.L (r.l u)).toArray.size):=bK.out.cx.thereB hR.rest hu;have hy:BU _:=Jn hu d;have h1:BU _:=hu.each d;go_upto_region 34 with (refine wpList_store_mid rfl 39 _ _ rfl px 0 _ rfl rfl HT.out hy.out h1.out ?_);have aZ:BU (BR _ _ _ _ _ _ _ _ _ _ _ _ _ _ _ _):=bK.out.sx (us:=d.L (r.l u)) (by rw[hu.all,hR.rest.all]);have bX:BU _:=Jad HO.out (Jb8 HO.out mj) (d.L (r.l u)) 0;generalize dY:World.setCells Y1 px 0 _=Y2 at aZ bX ⊢;clear dY bK HO HT hy h1;have au:BU (World.rangeAt Y2 pb 0 (b.L (r.l (BQ o r.sh.pts.length c)))):=aZ.out.cb.range;obtain⟨j0,j1,j2⟩:(Y2.cell? ⟨pj,0,none⟩=some (J Y jm.x))/\(Y2.cell? ⟨pj,1,none⟩=some (J Y jm.y))/\(Y2.cell? ⟨pj,2,none⟩=some (J Y jm.z)):=⟨(aZ.out.cj 0 _ rfl).1,(aZ.out.cj 1 _ rfl).1,(aZ.out.cj 2 _ rfl).1⟩
       have HC:BU _:=Jof pr 0 false b _ jm hR.rest Y2 (aZ.out.cr 0 _ rfl).1 (aZ.out.cr 0 _ rfl).2;rw[<- hd.out]at HC;go_wp2_with (refine wpList_load_mid rfl 39 _ rfl pb 0 rfl _ _ au.out underlying39 rfl hz.out ?_);refine JA HC.out ?_;rintro e Y3 ⟨rfl,A⟩;have co:BU (BR _ _ _ _ _ _ _ _ _ _ _ _ _ _ _ _):=aZ.out.r A.out;have cm:BU _:=Jdy bX.out A.out mq;clear HC au A aZ bX hd j0 j1 j2;have HT:BU (World.there Y3 py 0 (d.L (r.l (BQ o r.sh.pts.length c))).toArray.size):=co.out.cy.thereB hR.rest hR.rest;have hy:BU _:=Jn hR.rest d;have h1:BU _:=hR.rest.each d;go_wp2_with (refine wpList_store_mid rfl 39 _ _ rfl py 0 _ rfl rfl HT.out hy.out h1.out ?_);go_meet
       case rel=>exact⟨d,u,_,hu,co.out.sy (by rw[hR.rest.all,hR.rest.all]),Lies.of_row (Jad cm.out (Jb8 cm.out ml) _ 0)⟩
      | 5,_,_ =>
       obtain⟨d,eV⟩:∃ d,d=ifB b (Jce b jm tm):=⟨_,rfl⟩
       have hd:BU _:=eV;clear eV;have au:BU (World.rangeAt X2 pb 0 (b.L (r.l (BQ o r.sh.pts.length c)))):=HB.out.cb.range;obtain⟨j0,j1,j2⟩:(X2.cell? ⟨pj,0,none⟩=some (J Y jm.x))/\(X2.cell? ⟨pj,1,none⟩=some (J Y jm.y))/\(X2.cell? ⟨pj,2,none⟩=some (J Y jm.z)):=⟨(HB.out.cj 0 _ rfl).1,(HB.out.cj 1 _ rfl).1,(HB.out.cj 2 _ rfl).1⟩
       have HC:BU _:=Jr4 pw 0 false b _ _ r.sh.pts jm tm hR X2 (HB.out.cw 0 _ rfl).1 (HB.out.cw 0 _ rfl).2 (hL.below HB.out.below) (by omega);rw[<- hd.out]at HC;go_wp2_with (refine wpList_load_mid rfl 39 _ rfl pb 0 rfl _ _ au.out underlying39 rfl hz.out ?_);refine JA HC.out ?_;rintro e Y1 ⟨u,rfl,A,HO⟩;rw[Rs.set]at *;have bK:BU (BR _ _ _ _ _ _ _ _ _ _ _ _ _ _ _ _):=HB.out.w A.out;have hu:=(r.rest (Jbb HO.out)).rest;have mj:px<X2.heap.size:=CW.lt HB.out.cx;have ml:py<X2.heap.size:=CW.lt HB.out.cy;have mq:pr<X2.heap.size:=CW.lt HB.out.cr;clear HC au A HB j0 j1 j2;have HT:BU (World.there Y1 px 0 (d.L (r.l u)).toArray.size):=bK.out.cx.thereB hR.rest hu;have hy:BU _:=Jn hu d;have h1:BU _:=hu.each d;go_upto_region 37 with (refine wpList_store_mid rfl 39 _ _ rfl px 0 _ rfl rfl HT.out hy.out h1.out ?_);have aZ:BU (BR _ _ _ _ _ _ _ _ _ _ _ _ _ _ _ _):=bK.out.sx (us:=d.L (r.l u)) (by rw[hu.all,hR.rest.all]);have bX:BU _:=Jad HO.out (Jb8 HO.out mj) (d.L (r.l u)) 0;generalize dY:World.setCells Y1 px 0 _=Y2 at aZ bX ⊢;clear dY bK HO HT hy h1;have au:BU (World.rangeAt Y2 pb 0 (b.L (r.l (BQ o r.sh.pts.length c)))):=aZ.out.cb.range;obtain⟨j0,j1,j2⟩:(Y2.cell? ⟨pj,0,none⟩=some (J Y jm.x))/\(Y2.cell? ⟨pj,1,none⟩=some (J Y jm.y))/\(Y2.cell? ⟨pj,2,none⟩=some (J Y jm.z)):=⟨(aZ.out.cj 0 _ rfl).1,(aZ.out.cj 1 _ rfl).1,(aZ.out.cj 2 _ rfl).1⟩
       have HC:BU _:=Jqy pr 0 false b _ jm tm hR.rest Y2 (aZ.out.cr 0 _ rfl).1 (aZ.out.cr 0 _ rfl).2;rw[<- hd.out]at HC;go_wp2_with (refine wpList_load_mid rfl 39 _ rfl pb 0 rfl _ _ au.out underlying39 rfl hz.out ?_);refine JA HC.out ?_;rintro e Y3 ⟨rfl,A⟩;have co:BU (BR _ _ _ _ _ _ _ _ _ _ _ _ _ _ _ _):=aZ.out.r A.out;have cm:BU _:=Jdy bX.out A.out mq;clear HC au A aZ bX hd j0 j1 j2;have HT:BU (World.there Y3 py 0 (d.L (r.l (BQ o r.sh.pts.length c))).toArray.size):=co.out.cy.thereB hR.rest hR.rest;have hy:BU _:=Jn hR.rest d;have h1:BU _:=hR.rest.each d;go_wp2_with (refine wpList_store_mid rfl 39 _ _ rfl py 0 _ rfl rfl HT.out hy.out h1.out ?_);go_meet
       case rel=>exact⟨d,u,_,hu,co.out.sy (by rw[hR.rest.all,hR.rest.all]),Lies.of_row (Jad cm.out (Jb8 cm.out ml) _ 0)⟩
      | 6,_,_ =>
       obtain⟨d,eV⟩:∃ d,d=ifB b (goD b tm):=⟨_,rfl⟩
       have hd:BU _:=eV;clear eV;have au:BU (World.rangeAt X2 pb 0 (b.L (r.l (BQ o r.sh.pts.length c)))):=HB.out.cb.range;have HC:BU _:=Jny pw 0 false b _ _ r.sh.pts tm ht hR X2 (HB.out.cw 0 _ rfl).1 (HB.out.cw 0 _ rfl).2 (hL.below HB.out.below) (by omega);rw[<- hd.out]at HC;go_wp2_with (refine wpList_load_mid rfl 39 _ rfl pb 0 rfl _ _ au.out underlying39 rfl hz.out ?_);refine JA HC.out ?_;rintro e Y1 ⟨u,rfl,A,HO⟩;rw[Rs.set]at *;have bK:BU (BR _ _ _ _ _ _ _ _ _ _ _ _ _ _ _ _):=HB.out.w A.out;have hu:=(r.rest (Jbb HO.out)).rest;have mj:px<X2.heap.size:=CW.lt HB.out.cx;have ml:py<X2.heap.size:=CW.lt HB.out.cy;have mq:pr<X2.heap.size:=CW.lt HB.out.cr;clear HC au A HB;have HT:BU (World.there Y1 px 0 (d.L (r.l u)).toArray.size):=bK.out.cx.thereB hR.rest hu;have hy:BU _:=Jn hu d;have h1:BU _:=hu.each d;go_upto_region 40 with (refine wpList_store_mid rfl 39 _ _ rfl px 0 _ rfl rfl HT.out hy.out h1.out ?_);have aZ:BU (BR _ _ _ _ _ _ _ _ _ _ _ _ _ _ _ _):=bK.out.sx (us:=d.L (r.l u)) (by rw[hu.all,hR.rest.all]);have bX:BU _:=Jad HO.out (Jb8 HO.out mj) (d.L (r.l u)) 0;generalize dY:World.setCells Y1 px 0 _=Y2 at aZ bX ⊢;clear dY bK HO HT hy h1;have au:BU (World.rangeAt Y2 pb 0 (b.L (r.l (BQ o r.sh.pts.length c)))):=aZ.out.cb.range;have HC:BU _:=Jtj pr 0 false b _ tm ht hR.rest Y2 (aZ.out.cr 0 _ rfl).1 (aZ.out.cr 0 _ rfl).2;rw[<- hd.out]at HC;go_wp2_with (refine wpList_load_mid rfl 39 _ rfl pb 0 rfl _ _ au.out underlying39 rfl hz.out ?_);refine JA HC.out ?_;rintro e Y3 ⟨rfl,A⟩;have co:BU (BR _ _ _ _ _ _ _ _ _ _ _ _ _ _ _ _):=aZ.out.r A.out;have cm:BU _:=Jdy bX.out A.out mq;clear HC au A aZ bX hd;have HT:BU (World.there Y3 py 0 (d.L (r.l (BQ o r.sh.pts.length c))).toArray.size):=co.out.cy.thereB hR.rest hR.rest;have hy:BU _:=Jn hR.rest d;have h1:BU _:=hR.rest.each d;go_wp2_with (refine wpList_store_mid rfl 39 _ _ rfl py 0 _ rfl rfl HT.out hy.out h1.out ?_);go_meet
       case rel=>exact⟨d,u,_,hu,co.out.sy (by rw[hR.rest.all,hR.rest.all]),Lies.of_row (Jad cm.out (Jb8 cm.out ml) _ 0)⟩
      | 7,_,_ =>
       have au:BU (World.rangeAt X2 pb 0 (b.L (r.l (BQ o r.sh.pts.length c)))):=HB.out.cb.range;have HC:BU _:=Juf pw 0 false b _ _ r.sh.pts hR hp hl X2 (HB.out.cw 0 _ rfl).1 (HB.out.cw 0 _ rfl).2 (hL.below HB.out.below) (by omega);obtain⟨d,eV⟩:∃ d,d=Jbr b:=⟨_,rfl⟩
       obtain⟨ct,sg⟩:∃ d,d=Jgr b:=⟨_,rfl⟩
       have hd:BU _:=eV;have lC:BU _:=sg;clear eV sg;rw[<- hd.out,<- lC.out]at HC;go_wp2_with (refine wpList_load_mid rfl 39 _ rfl pb 0 rfl _ _ au.out underlying39 rfl hz.out ?_);refine JA HC.out ?_;rintro e Y1 ⟨u,rfl,A,HO⟩;rw[Rs.set]at *;have bK:BU (BR _ _ _ _ _ _ _ _ _ _ _ _ _ _ _ _):=HB.out.w A.out;have hu:=(r.rest (Jbb HO.out)).rest;have mj:px<X2.heap.size:=CW.lt HB.out.cx;have ml:py<X2.heap.size:=CW.lt HB.out.cy;have mq:pr<X2.heap.size:=CW.lt HB.out.cr;clear HC au A HB;obtain⟨N1,B1,S1,T1⟩:=Jb3 Y1 (d.L (r.l u)) (hu.all d);have HT:BU (World.there _ _ _ _):=T1;have hy:BU _:=Jn hu d;have h1:BU _:=hu.each d;have HN:BU _:=And.intro N1 B1;clear T1 S1 N1 B1;dsimp only
       iterate 12 go_step
       rename_i hK;refine hK _ _ ?_;clear hK;refine wpList_store_mid rfl 39 _ _ rfl Y1.heap.size 0 _ rfl rfl HT.out hy.out h1.out ?_;go_upto_region 15 with fail;have gg:BU _:=Jj hu d;generalize dY:World.setCells (World.alloc Y1 _) _ 0 _=Y2 at HN ⊢;obtain⟨N1,B1⟩:=HN.out;have aZ:BU (BR _ _ _ _ _ _ _ _ _ _ _ _ _ _ _ _):=bK.out.step B1;have bX:BU _:=Jq HO.out B1;obtain⟨p1,fj⟩:∃ p,p=Y1.heap.size:=⟨_,rfl⟩
       rw[<- fj]at N1 ⊢;have hpx1:px<p1:=by rw[fj];exact CW.lt bK.out.cx
       have hpy1:py<p1:=by rw[fj];exact CW.lt bK.out.cy
       have hpr1:pr<p1:=by rw[fj];exact CW.lt bK.out.cr
       have bR:BU (CW _ _ _):=N1;clear dY fj bK HO HT hy h1 B1 HN N1;have au:BU (World.rangeAt Y2 pb 0 (b.L (r.l (BQ o r.sh.pts.length c)))):=aZ.out.cb.range;have HC:BU _:=Jhv pr 0 false b _ hR.rest hp hl Y2 (aZ.out.cr 0 _ rfl).1 (aZ.out.cr 0 _ rfl).2;rw[<- hd.out,<- lC.out]at HC;go_wp2_with (refine wpList_load_mid rfl 39 _ rfl pb 0 rfl _ _ au.out underlying39 rfl hz.out ?_);refine JA HC.out ?_;rintro e Y3 ⟨rfl,A⟩;have co:BU (BR _ _ _ _ _ _ _ _ _ _ _ _ _ _ _ _):=aZ.out.r A.out;have cm:BU _:=Jdy bX.out A.out mq;have N3:BU (CW _ _ _):=bR.out.after A.out (by show p1≠pr;omega);clear HC au A aZ bX hd bR;obtain⟨M1,B1,S1,T1⟩:=Jb3 Y3 (d.L (r.l (BQ o r.sh.pts.length c))) (hR.rest.all d);have HT:BU (World.there _ _ _ _):=T1;have hy:BU _:=Jn hR.rest d;have h1:BU _:=hR.rest.each d;have hp13:p1<Y3.heap.size:=CW.lt N3.out;have HN:BU _:=And.intro M1 B1;clear T1 S1 M1 B1;dsimp only
       iterate 12 go_step
       rename_i hK;refine hK _ _ ?_;clear hK;refine wpList_store_mid rfl 39 _ _ rfl Y3.heap.size 0 _ rfl rfl HT.out hy.out h1.out ?_;go_upto_region 16 with fail;have wI:BU _:=Jj hR.rest d;generalize rY:World.setCells (World.alloc Y3 _) _ 0 _=Y4 at HN ⊢;obtain⟨M1,B1⟩:=HN.out;have nB:BU (BR _ _ _ _ _ _ _ _ _ _ _ _ _ _ _ _):=co.out.step B1;have fD:BU _:=Jq cm.out B1;have N4:BU (CW _ _ _):=N3.out.step B1;obtain⟨p3,mC⟩:∃ p,p=Y3.heap.size:=⟨_,rfl⟩
       rw[<- mC]at M1 ⊢;have h3x:px<p3:=by omega
       clear rY mC co cm HT hy h1 B1 N3 lC HN;have HT:BU (World.there Y4 px 0 (d.L (r.l u)).toArray.size):=nB.out.cx.thereB hR.rest hu;have hy:BU _:=Jn hu d;have h1:BU _:=hu.each d;have au:BU (World.rangeAt Y4 p1 0 (d.L (r.l u))):=N4.out.range;have M4:BU (CW _ _ _):=M1;clear M1;go_upto_region 19 with (first | refine wpList_load_mid rfl 39 _ rfl p1 0 rfl _ _ au.out underlying39 rfl gg.out ?_ | refine wpList_store_mid rfl 39 _ _ rfl px 0 _ rfl rfl HT.out hy.out h1.out ?_);have cN:BU (BR _ _ _ _ _ _ _ _ _ _ _ _ _ _ _ _):=nB.out.sx (us:=d.L (r.l u)) (by rw[hu.all,hR.rest.all]);have wJ:BU _:=Jad fD.out (Jb8 fD.out mj) (d.L (r.l u)) 0;have M5:=M4.out.apart (us:=d.L (r.l u)) (k:=px) (by omega);generalize rZ:World.setCells Y4 px 0 _=Y5 at cN wJ M5 ⊢;clear rZ nB fD HT hy h1 au N4 M4;have HT:BU (World.there Y5 py 0 (d.L (r.l (BQ o r.sh.pts.length c))).toArray.size):=cN.out.cy.thereB hR.rest hR.rest;have hy:BU _:=Jn hR.rest d;have h1:BU _:=hR.rest.each d;have au:BU (World.rangeAt Y5 p3 0 (d.L (r.l (BQ o r.sh.pts.length c)))):=M5.range;clear M5;go_wp2_with (first | refine wpList_load_mid rfl 39 _ rfl p3 0 rfl _ _ au.out underlying39 rfl wI.out ?_ | refine wpList_store_mid rfl 39 _ _ rfl py 0 _ rfl rfl HT.out hy.out h1.out ?_);go_meet
       case rel=>exact⟨d,u,_,hu,cN.out.sy (by rw[hR.rest.all,hR.rest.all]),Lies.of_row (Jad wJ.out (Jb8 wJ.out ml) _ 0)⟩
      | n+8,hk,h9=>exact absurd h9 (by omega)
     case rest =>
      obtain⟨bx,ux,g,hu,HR,Ba⟩:=hcut;have hzu:BU _:=Jj hu bx;have hzb:BU _:=Jj hR.rest bx;go_upto_region 41 with fail;refine Bq [.some (B_ (bx.L (r.l ux)).toArray),.some (B_ (bx.L (r.l (BQ o r.sh.pts.length c))).toArray),.some (BT true),.some (BT false),.some (BT false),.some (BO (some ⟨pw,0,none⟩)),.some (BO (some ⟨pw,0,none⟩)),.some (BO (some ⟨pw,0,none⟩)),.some (BT g),.some (BO (some ⟨pr,0,none⟩)),.some (BO (some ⟨pr,0,none⟩)),.some (BO (some ⟨pr,0,none⟩)),.some (BT g),.some (BT false),.some (BT false)] [147,148,149,150,151,152,153,154,155,156,157,158,159,160,161] [(13,BO (some ⟨px,0,none⟩)),(14,BO (some ⟨py,0,none⟩)),(11,BO (some ⟨pw,0,none⟩)),(12,BO (some ⟨pr,0,none⟩))] (fun γ L w=>B9 wc.heap.size wc w) ⟨rfl,rfl,rfl,rfl,trivial⟩ (Below.refl _ _).drew ?_ ?_
      ·intro D WA Z hD ah hZ T;simp only[RV.Outs,RV.Slots,Nat.reduceAdd]at T;refine Br _ (Bs T (fun γ v L w hl h=>h) (fun γ L a w hH hl h9 k9=>⟨_,Jax 39 _ rfl px 0 (by simp[go_sem,h9]) _ _ (HR.out.cx.step hH.glob).range underlying39 rfl hzu.out,rfl⟩)) ?_;refine Br _ (Bs T (fun γ v L w hl h=>h) (fun γ L a w hH hl h9 k9=>⟨_,Jax 39 _ rfl py 0 (by simp[go_sem,h9]) _ _ (HR.out.cy.step hH.glob).range underlying39 rfl hzb.out,rfl⟩)) ?_;refine Br _ (Bw (fun γ L a w hH hl hA=>by have h9:=T γ L a w hH;have k9:=hA;simp[JC]at k9;exact⟨_,_,by simp[go_sem,h9,k9],JA (Jnh bx r ux _ w (Ba.out.below hH.glob) (hL.below (Jc HR.out.below hH.glob))) (by rintro e w2 ⟨rfl,hb⟩;exact⟨_,rfl,rfl,fun j v _ h=>h.keep _,Jc hH.glob hb.out⟩)⟩)) ?_
       iterate 2 (refine Br _ (Bs T (fun γ v L w hl h=>h) (fun γ L a w hH hl h9 k9=>⟨_,?_,rfl⟩)) ?_;· simp[JC]at k9;simp[JD,go_sem,h9,k9])
       (refine Br _ (BH rfl (by rw[<- hD];rfl) (fun v w h=>h) (by simp) (Bs T (fun γ v L w hl h=>h) (fun γ L a w hH hl h9 k9=>⟨_,?_,rfl⟩))) ?_;· simp[JD,go_sem,h9])
       iterate 2 (refine Br _ (BH rfl (by rw[<- hD];rfl) (fun v w h=>h) (by simp) (Bs T (fun γ v L w hl h=>h) (fun γ L a w hH hl h9 k9=>⟨_,?_,rfl⟩))) ?_;· simp[JC]at k9;simp[JD,go_sem,h9,k9])
       (refine Br _ (BH rfl (by rw[<- hD];rfl) (fun v w h=>h) (by simp) (Bs T (fun γ v L w hl h=>h) (fun γ L a w hH hl h9 k9=>⟨_,?_,rfl⟩))) ?_;· have q0:=((HR.out.cw.step hH.glob) 0 _ rfl).1;simp[JC]at k9;simp[JD,go_sem,h9,k9,q0])
       (refine Br _ (BH rfl (by rw[<- hD];rfl) (fun v w h=>h) (by simp) (Bs T (fun γ v L w hl h=>h) (fun γ L a w hH hl h9 k9=>⟨_,?_,rfl⟩))) ?_;· simp[JD,go_sem,h9])
       iterate 2 (refine Br _ (BH rfl (by rw[<- hD];rfl) (fun v w h=>h) (by simp) (Bs T (fun γ v L w hl h=>h) (fun γ L a w hH hl h9 k9=>⟨_,?_,rfl⟩))) ?_;· simp[JC]at k9;simp[JD,go_sem,h9,k9])
       (refine Br _ (BH rfl (by rw[<- hD];rfl) (fun v w h=>h) (by simp) (Bs T (fun γ v L w hl h=>h) (fun γ L a w hH hl h9 k9=>⟨_,?_,rfl⟩))) ?_;· have q0:=((HR.out.cr.step hH.glob) 0 _ rfl).1;simp[JC]at k9;simp[JD,go_sem,h9,k9,q0])
       (refine Br _ (BH rfl (by rw[<- hD];rfl) (fun v w h=>h) (by simp) (Bs T (fun γ v L w hl h=>h) (fun γ L a w hH hl h9 k9=>⟨_,?_,rfl⟩))) ?_;· simp[JC]at k9;simp[JD,go_sem,h9,k9])
       (refine Br _ (Bs T (fun γ v L w hl h=>h) (fun γ L a w hH hl h9 k9=>⟨_,?_,rfl⟩)) ?_;· simp[JC]at k9;simp[JD,go_sem,h9,k9])
       exact RV.AllDo.nil
      ·intro γ w5 L9 yo aX aD;simp only[RV.putL,Act.put,JH,JG,JF];have dh:BU (BS _ _ _ _ _ _ _ _):=⟨Jc HR.out.below aD,HR.out.cb.step aD,HR.out.ca.step aD,HR.out.cj.step aD,HR.out.o.1,HR.out.o.2.1,HR.out.o.2.2.1,by have:=HR.out.o.2.2.2.1;have h7:=CW.lt HR.out.cw;have:=aD.size;omega⟩
       clear aX yo aD HR Ba;go_wp2_with (fail)
       go_roundg gm
       case rel=>exact⟨k+1,by omega,by go_num,dh⟩
       omega
 ·have z_:(40:Int)<((r.sh.pts.length:Nat):Int):=by omega
  go_wp2;go_ret;exact⟨rfl,fw.out⟩
end bodyTells
end
section
open Go.ChangeShapes Go.WideShapes Go.Deep Go.Joins
section
variable {H:Type} {enc:TypeId × B7->H} {w:BV} {base:Nat} {spare:Nat->Bool} {held:Bool}
theorem Jt8{fuel:Nat}{u0 u1 u2 u3 u4 u5:B7}{z:DataW H × List MemPlace}(b_:DataW.trod enc Tryz.prog w base spare held fuel 26 [u0,u1,u2,u3,u4,u5]=some z):
  ∃(k rr x y z:Int) (a:Option Ce) (L:List Pt) (cap:Nat),u0=J Y k/\u1=J Y rr/\u2=J Y x/\u3=J Y y/\u4=J Y z/\u5 = BQ a L.length cap/\Lies w (BQ a L.length cap) L/\(∀ p∈L,p.fits)/\(Lit.int .i64 k).wf=true/\(Lit.int .i64 rr).wf=true/\(Lit.int .i64 x).wf=true/\(Lit.int .i64 y).wf=true/\(Lit.int .i64 z).wf=true:=by
 obtain⟨xs,n,_,_,_,db,eG⟩:=DataW.trod_struct underlying26 b_;have bU:Tryz.prog.cellsOf 3=1:=by kernel_rfl
 have bV:Tryz.prog.cellsOf 23=3:=by kernel_rfl
 have aM:Tryz.prog.cellsOf 24=1:=by kernel_rfl
 have aI:∀ j,j<4->∃ z,xs[j]?=some z:=fun j hj=>⟨_,List.getElem?_eq_getElem (by rw[db];exact hj)⟩
 obtain⟨z0,eW⟩:=aI 0 (by omega);obtain⟨z1,gg⟩:=aI 1 (by omega);obtain⟨z2,fe⟩:=aI 2 (by omega);obtain⟨z3,bC⟩:=aI 3 (by omega);have e0:=eG 0 _ rfl;have e1:=eG 1 _ rfl;have e2:=eG 2 _ rfl;have e3:=eG 3 _ rfl;rw[eW]at e0;rw[gg]at e1;rw[fe]at e2;rw[bC]at e3;have q0:DataW.trod enc Tryz.prog w base spare held n 3 [u0]=some z0:=by have this:DataW.trod enc Tryz.prog w base spare held n 3 (([u0,u1,u2,u3,u4,u5].drop 0).take (Tryz.prog.cellsOf 3))=some z0:=e0;rw[bU]at this;exact this
 have q1:DataW.trod enc Tryz.prog w base spare held n 3 [u1]=some z1:=by have this:DataW.trod enc Tryz.prog w base spare held n 3 (([u0,u1,u2,u3,u4,u5].drop 1).take (Tryz.prog.cellsOf 3))=some z1:=e1;rw[bU]at this;exact this
 have q2:DataW.trod enc Tryz.prog w base spare held n 23 [u2,u3,u4]=some z2:=by have this:DataW.trod enc Tryz.prog w base spare held n 23 (([u0,u1,u2,u3,u4,u5].drop 2).take (Tryz.prog.cellsOf 23))=some z2:=e2;rw[bV]at this;exact this
 have q3:DataW.trod enc Tryz.prog w base spare held n 24 [u5]=some z3:=by have this:DataW.trod enc Tryz.prog w base spare held n 24 (([u0,u1,u2,u3,u4,u5].drop 5).take (Tryz.prog.cellsOf 24))=some z3:=e3;rw[aM]at this;exact this
 obtain⟨k,rfl,_,wk⟩:=Jbu q0;obtain⟨rr,rfl,_,wr⟩:=Jbu q1;obtain⟨ys,m,_,_,_,pg,gu⟩:=DataW.trod_struct underlying23 q2;have bu:∀ j,j<3->∃ z,ys[j]?=some z:=fun j hj=>⟨_,List.getElem?_eq_getElem (by rw[pg];exact hj)⟩
 obtain⟨y0,dG⟩:=bu 0 (by omega);obtain⟨y1,fq⟩:=bu 1 (by omega);obtain⟨y2,eL⟩:=bu 2 (by omega);have g0:=gu 0 _ rfl;have g1:=gu 1 _ rfl;have g2:=gu 2 _ rfl;rw[dG]at g0;rw[fq]at g1;rw[eL]at g2;have p0:DataW.trod enc Tryz.prog w base spare held m 3 [u2]=some y0:=by have this:DataW.trod enc Tryz.prog w base spare held m 3 (([u2,u3,u4].drop 0).take (Tryz.prog.cellsOf 3))=some y0:=g0;rw[bU]at this;exact this
 have p1:DataW.trod enc Tryz.prog w base spare held m 3 [u3]=some y1:=by have this:DataW.trod enc Tryz.prog w base spare held m 3 (([u2,u3,u4].drop 1).take (Tryz.prog.cellsOf 3))=some y1:=g1;rw[bU]at this;exact this
 have p2:DataW.trod enc Tryz.prog w base spare held m 3 [u4]=some y2:=by have this:DataW.trod enc Tryz.prog w base spare held m 3 (([u2,u3,u4].drop 2).take (Tryz.prog.cellsOf 3))=some y2:=g2;rw[bU]at this;exact this
 obtain⟨x,rfl,_,wx⟩:=Jbu p0;obtain⟨y,rfl,_,wy⟩:=Jbu p1;obtain⟨z,rfl,_,wz⟩:=Jbu p2;have hs:∃ a len cap,u5 = BQ a len cap:=by
  rcases Deep.open_slice underlying24 q3 with ⟨aM,_⟩ |⟨y,l,c,mm,nn,D,Pl,aM,_⟩
  ·simp at aM;exact⟨_,_,_,aM⟩
  ·simp at aM;exact⟨_,_,_,aM⟩
 obtain⟨a,len,cap,rfl⟩:=hs;obtain⟨L,rfl,hL,hF⟩:=Jqo q3;exact⟨k,rr,x,y,z,a,L,cap,rfl,rfl,rfl,rfl,rfl,rfl,hL,hF,wk,wr,wx,wy,wz⟩
theorem Jut{fuel:Nat}{u0 u1 u2 u3 u4 u5 u6:B7}{z:DataW H × List MemPlace}(b_:DataW.trod enc Tryz.prog w base spare held fuel 31 [u0,u1,u2,u3,u4,u5,u6]=some z):
  ∃ x0 x1 x2 x3 x4 x5 x6:Int,u0=J Y x0/\u1=J Y x1/\u2=J Y x2/\u3=J Y x3/\u4=J Y x4/\u5=J Y x5/\u6=J Y x6/\(Lit.int .i64 x0).wf=true/\(Lit.int .i64 x1).wf=true/\(Lit.int .i64 x2).wf=true/\(Lit.int .i64 x3).wf=true/\(Lit.int .i64 x4).wf=true/\(Lit.int .i64 x5).wf=true/\(Lit.int .i64 x6).wf=true:=by
 obtain⟨xs,n,_,_,_,db,eG⟩:=DataW.trod_struct underlying31 b_;have bV:Tryz.prog.cellsOf 27=3:=by kernel_rfl
 have cI:Tryz.prog.cellsOf 29=4:=by kernel_rfl
 have aI:∀ j,j<2->∃ z,xs[j]?=some z:=fun j hj=>⟨_,List.getElem?_eq_getElem (by rw[db];exact hj)⟩
 obtain⟨z0,eW⟩:=aI 0 (by omega);obtain⟨z1,gg⟩:=aI 1 (by omega);have e0:=eG 0 _ rfl;have e1:=eG 1 _ rfl;rw[eW]at e0;rw[gg]at e1;have q0:DataW.trod enc Tryz.prog w base spare held n 27 [u0,u1,u2]=some z0:=by have this:DataW.trod enc Tryz.prog w base spare held n 27 (([u0,u1,u2,u3,u4,u5,u6].drop 0).take (Tryz.prog.cellsOf 27))=some z0:=e0;rw[bV]at this;exact this
 have q1:DataW.trod enc Tryz.prog w base spare held n 29 [u3,u4,u5,u6]=some z1:=by have this:DataW.trod enc Tryz.prog w base spare held n 29 (([u0,u1,u2,u3,u4,u5,u6].drop 3).take (Tryz.prog.cellsOf 29))=some z1:=e1;rw[cI]at this;exact this
 obtain⟨x0,x1,x2,rfl,rfl,rfl,k0,k1,k2⟩:=Jvk q0;obtain⟨x3,x4,x5,x6,rfl,rfl,rfl,rfl,k3,k4,k5,k6⟩:=Jt3 q1;exact⟨x0,x1,x2,x3,x4,x5,x6,rfl,rfl,rfl,rfl,rfl,rfl,rfl,k0,k1,k2,k3,k4,k5,k6⟩
end
end
end Go.Proofs.YtkblcfgamnmbkaaGreat
