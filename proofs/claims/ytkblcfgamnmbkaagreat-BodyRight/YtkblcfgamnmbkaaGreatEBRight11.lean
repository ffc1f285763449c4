/- The document's own mass of a shape that may be. -/
import Derived.Test.YtkblcfgamnmbkaaGreatEBRight0
import Derived.Test.YtkblcfgamnmbkaaGreatEBRight10
import Derived.Test.YtkblcfgamnmbkaaGreatEBRight5
import Derived.Test.YtkblcfgamnmbkaaGreatEBRight3
import Derived.Deep.CutBlock
set_option maxHeartbeats 4000000
set_option maxRecDepth 100000
set_option linter.unusedVariables false
namespace Go.Proofs.YtkblcfgamnmbkaaGreat
open Go.Calls renaming mono -> JA
open Go.World renaming block_lt_of_cell? -> JB
open Go.Region renaming binds -> JC
open Go renaming execOp -> JD
open List renaming set_cons_succ -> JF
open List renaming set_cons_zero -> JG
open List renaming setIfInBounds_toArray -> JH
open Go.Proofs.Tryz
open Go.Value renaming int -> J
open Go.IntKind renaming i64 -> I
open Go.Value renaming pointer -> BO
open Go.Obj renaming cells -> BP
open Go.Value renaming slice -> BQ
open Go.Value renaming bool -> BT
open Go.RowKit renaming Hid -> BU
open Go renaming World -> BV
open Go.Ending renaming returned -> BZ
open Go renaming Value -> B7
open Go.RowKit renaming Below -> B9
open Go.Value renaming agg -> B_
open Go renaming Calls -> Cd
open Go renaming Addr -> Ce
section
open Go.RowKit Go.Shelf Fx
theorem Jtd:(Tryz.prog.info? 3).map (fun i=>(i.zero,i.size,i.bytes))=some (some (J I 0),1,8):=by kernel_rfl
structure N3(w0 W:BV)(vx vy vz:B7)(X Y Z:List Int):Prop where
 rx:W.ownsRow w0.heap.size 3 1 vx X.length (X.map (.int .i64))
 ry:W.ownsRow w0.heap.size 3 1 vy Y.length (Y.map (.int .i64))
 rz:W.ownsRow w0.heap.size 3 1 vz Z.length (Z.map (.int .i64))
 xy:∀ k,vx.ownBlock=some k->vy.ownBlock≠some k
 xz:∀ k,vx.ownBlock=some k->vz.ownBlock≠some k
 yz:∀ k,vy.ownBlock=some k->vz.ownBlock≠some k
 below:B9 w0.heap.size w0 W
theorem N3.rot{w0 W:BV}{vx vy vz:B7}{X Y Z:List Int}(h:N3 w0 W vx vy vz X Y Z):N3 w0 W vy vz vx Y Z X:=⟨h.ry,h.rz,h.rx,h.yz,fun k e e'=>h.xy k e' e,fun k e e'=>h.xz k e' e,h.below⟩
theorem N3.step{w0 W V:BV}{vx vy vz:B7}{X Y Z:List Int}(h:N3 w0 W vx vy vz X Y Z)(hb:B9 W.heap.size W V):N3 w0 V vx vy vz X Y Z:=⟨Jq h.rx hb,Jq h.ry hb,Jq h.rz hb,h.xy,h.xz,h.yz,Jc h.below hb⟩
theorem N3.gx{w0 W V:BV}{vx vy vz v':B7}{X Y Z X':List Int}(h:N3 w0 W vx vy vz X Y Z)(hr:V.ownsRow w0.heap.size 3 1 v' X'.length (X'.map (.int .i64)))(hg:Grew W V vx v'):N3 w0 V v' vy vz X' Y Z:=by
 obtain⟨a1,a2⟩:=hg.beside h.ry (fun k e e'=>h.xy k e' e);obtain⟨b1,b2⟩:=hg.beside h.rz (fun k e e'=>h.xz k e' e);exact⟨hr,a1,b1,fun k e e'=>a2 k e' e,fun k e e'=>b2 k e' e,h.yz,hg.on h.below h.rx h.below.size⟩
theorem Jg0{w:BV}{base n:Nat}{v:B7}{xs:List B7}(h:w.ownsRow base 3 1 v n xs):∃ o c,v = BQ o n c:=by
 rcases h.2 with ⟨rfl,h0⟩ |⟨g,cap,cur,rfl,_⟩
 ·exact⟨none,0,by rw[h0]⟩
 ·exact⟨_,_,rfl⟩
theorem Jk6{w w':BV}{v v':B7}(hg:w.grownBy w' v.ownBlock)(hs:v'.ownBlock=v.ownBlock\/v'.ownBlock=some w.heap.size):Grew w w' v v':=
 ⟨hg,by rcases hs with e | e;exact Or.inl e;exact Or.inr ⟨_,e,Nat.le_refl _⟩⟩
def A9(p q:Nat)(W7:BV)(B:Nat)(u:B7)(n:Nat)(xs:List B7)(new:B7)(γ:Nat->B7)(L:Nat->Bool)(w:BV):Prop:=
 (L q=false/\B9 W7.heap.size W7 w/\(L p=true->∃ g,γ p = BQ (some ⟨g,0,none⟩) 1 1/\w.cell? ⟨g,0,none⟩=some new)) \/
 (L q=true/\w.ownsRow B 3 1 (γ q) (n+1) (xs ++ [new])/\Grew W7 w u (γ q))
section
variable {p q:Nat} {W7:BV} {B:Nat} {u:B7} {n:Nat} {xs:List B7} {new:B7} {γ:Nat->B7} {L:Nat->Bool} {w:BV}
theorem A9.other(h:A9 p q W7 B u n xs new γ L w){i:Nat}(v:B7)(hp:p≠i)(hq:q≠i):A9 p q W7 B u n xs new (RV.upd γ i v) (more L i) w:=by
 unfold A9;rw[Bt hp,Bt hq,BI _ _ hp,BI _ _ hq];exact h
theorem A9.early(h:A9 p q W7 B u n xs new γ L w)(hq:L q=false):B9 W7.heap.size W7 w/\(L p=true->∃ g,γ p = BQ (some ⟨g,0,none⟩) 1 1/\w.cell? ⟨g,0,none⟩=some new):=by
 rcases h with h | h
 ·exact h.2
 ·rw[hq]at h;cases h.1
theorem A9.call{w':BV}(h:A9 p q W7 B u n xs new γ L w)(hq:L q=false)(hb:B9 w.heap.size w w'){i:Nat}(v:B7)(r_:p≠i)(hqi:q≠i):A9 p q W7 B u n xs new (RV.upd γ i v) (more L i) w':=by
 obtain⟨h1,h2⟩:=h.early hq;refine Or.inl ⟨by rw[Bt hqi];exact hq,Jc h1 hb,fun e=>?_⟩;rw[Bt r_]at e;rw[BI _ _ r_];obtain⟨g,e1,e2⟩:=h2 e;exact⟨g,e1,Ja hb e2⟩
theorem A9.lay(h:A9 p q W7 B u n xs new γ L w)(hq:L q=false)(npq:q≠p):A9 p q W7 B u n xs new (RV.upd γ p (BQ (some ⟨w.heap.size,0,none⟩) 1 1)) (more L p) (w.alloc (BP #[new] 3)):=
 Or.inl ⟨by rw[Bt npq];exact hq,Jc (h.early hq).1 (Jb _ _),fun _=>⟨w.heap.size,by rw[RV.upd_self],by simp⟩⟩
theorem A9.app{w':BV}{v':B7}(hr:w'.ownsRow B 3 1 v' (n+1) (xs ++ [new]))(hg:Grew W7 w' u v'):A9 p q W7 B u n xs new (RV.upd γ q v') (more L q) w':=
 Or.inr ⟨BD,by rw[RV.upd_self];exact hr,by rw[RV.upd_self];exact hg⟩
theorem A9.done(h:A9 p q W7 B u n xs new γ L w)(hq:L q=true):w.ownsRow B 3 1 (γ q) (n+1) (xs ++ [new])/\Grew W7 w u (γ q):=by
 rcases h with h | h
 ·rw[hq]at h;cases h.1
 ·exact h.2
end
theorem Ju5{w:BV}{g:Nat}{x:B7}(h:w.cell? ⟨g,0,none⟩=some x):∀ j u,[x][j]?=some u->w.cell? ((⟨g,0,none⟩:Ce).add j)=some u:=by
 intro j u hj
 match j,hj with
 | 0,hj=>simp at hj;subst hj;simpa [Addr.add] using h
theorem Jr0(s:Sh)(pv:B7)(m:Int)(w0:BV)(hv:Lies w0 pv s.pts)(g_:J9 s=0)(hm0:16777216<=m)(dT:m<=1099511627776):
  Cd Tryz.prog 27 #[s.v pv,J I m] w0 fun e W=>e = BZ (.tuple #[B_ #[J I m,J I (Jbp (Jex s m).x 4096),J I (Jbp (Jex s m).y 4096),J I (Jbp (Jex s m).z 4096)],J I 0])/\B9 w0.heap.size w0 W:=by
 have hB:BU (B9 w0.heap.size w0 ((w0.alloc (BP #[J I s.kind,J I s.radius,J I s.half.x,J I s.half.y,J I s.half.z,pv] 37)).alloc (BP #[J I 0,J I 0,J I 0,J I 0] 36))):=Jc (Jb w0 _) (Jb _ _);have HF:BU _:=Jp6 s pv ((w0.alloc (BP #[J I s.kind,J I s.radius,J I s.half.x,J I s.half.y,J I s.half.z,pv] 37)).alloc (BP #[J I 0,J I 0,J I 0,J I 0] 36)) (hv.below hB.out);have B1:BU (Cells ((w0.alloc (BP #[J I s.kind,J I s.radius,J I s.half.x,J I s.half.y,J I s.half.z,pv] 37)).alloc (BP #[J I 0,J I 0,J I 0,J I 0] 36)) w0.heap.size [J I s.kind,J I s.radius,J I s.half.x,J I s.half.y,J I s.half.z,pv]):=(Cells.new w0 [J I s.kind,J I s.radius,J I s.half.x,J I s.half.y,J I s.half.z,pv] _).step (Jb _ _);have B2:BU (Cells ((w0.alloc (BP #[J I s.kind,J I s.radius,J I s.half.x,J I s.half.y,J I s.half.z,pv] 37)).alloc (BP #[J I 0,J I 0,J I 0,J I 0] 36)) (w0.heap.size+1) [J I 0,J I 0,J I 0,J I 0]):=by have:=Cells.new (w0.alloc (BP #[J I s.kind,J I s.radius,J I s.half.x,J I s.half.y,J I s.half.z,pv] 37)) [J I 0,J I 0,J I 0,J I 0] 36;rwa [World.size_alloc]at this
 have kP:BU (J9 s=0->_):=fun h=>Jgx h;have dj:BU (Jex s m=if s.kind=1 then ⟨Jf2 m (s.radius*1048576),Jf2 m (s.radius*1048576),Jf2 m (s.radius*1048576)⟩ else ⟨Ji6 m (Jbo (Jcn s) s.radius).y (Jbo (Jcn s) s.radius).z,Ji6 m (Jbo (Jcn s) s.radius).z (Jbo (Jcn s) s.radius).x,Ji6 m (Jbo (Jcn s) s.radius).x (Jbo (Jcn s) s.radius).y⟩):=rfl;obtain⟨ix,iy,iz,hI⟩:∃ ix iy iz,Jex s m=⟨ix,iy,iz⟩:=⟨_,_,_,rfl⟩
 rw[hI]at dj ⊢;dsimp only;clear hI;obtain⟨jx,xx⟩:∃ j,Jbp ix 4096=j:=⟨_,rfl⟩
 obtain⟨jy,xA⟩:∃ j,Jbp iy 4096=j:=⟨_,rfl⟩
 obtain⟨jz,lv⟩:∃ j,Jbp iz 4096=j:=⟨_,rfl⟩
 rw[xx,xA,lv];unfold Jbp at xx xA lv;generalize Jcn s=P at *;generalize Jo7 s=A at *;generalize Jkx s=E at *;generalize J9 s=C at *;obtain⟨k,r,⟨hx,hy,hz⟩,L⟩:=s;obtain⟨o,c,rfl,fE,fF,_⟩:=hv.form;clear hv;unfold Sh.v at *;dsimp only at *;go_enter func27,ntmps27;go_wp2_with (fail);refine JA HF.out ?_;clear HF;rintro e V ⟨vp,va,ve,fU,fW⟩;obtain⟨br,fM⟩:∃ b,b=w0.heap.size+1:=⟨_,rfl⟩
 have iW:w0.heap.size<=br:=by omega
 rw[<- fM]at B2 ⊢;clear fM;have hC:=g_;obtain⟨rfl,hT⟩:=fW hC;subst hC;have aL:=hT.below;obtain⟨op,cp,rfl,_⟩:=(Lies.of_row hT.rp).form;obtain⟨oa,ca,rfl,_⟩:=(Lies.of_row hT.ra).form;obtain⟨oe,ce,rfl,_⟩:=(Lies.of_row hT.re).form;have LP:BU _:=Lies.of_row hT.rp;obtain⟨X,hX⟩:∃ X:BV,X=V.alloc (BP #[BQ op P.length cp,BQ oa A.length ca,BQ oe E.length ce,J I r] 127):=⟨_,rfl⟩
 obtain⟨b6,xC⟩:∃ b,b=V.heap.size:=⟨_,rfl⟩
 have hb:B9 V.heap.size V X:=by rw[hX];exact Jb _ _
 have BC:BU (Cells X b6 [BQ op P.length cp,BQ oa A.length ca,BQ oe E.length ce,J I r]):=by rw[hX,xC];exact Cells.new V [BQ op P.length cp,BQ oa A.length ca,BQ oe E.length ce,J I r] _
 have LP:BU _:=LP.out.below hb;have hD:BU (B9 w0.heap.size w0 X):=Jc (Jc hB.out aL) hb;have D1:BU (Cells X w0.heap.size [J I k,J I r,J I hx,J I hy,J I hz,BQ o L.length c]):=Cells.step (Cells.step B1.out aL) hb;have D2:BU (Cells X br [J I 0,J I 0,J I 0,J I 0]):=Cells.step (Cells.step B2.out aL) hb;obtain⟨_,hr,p1,p2,p3⟩:=kP.out rfl;have P3:BU _:=p3;go_upto_region 2 with fail;rw[<- hX,<- xC];clear hX xC hb aL hT fU fW B1 B2 hB kP p3;have h1:¬ m<16777216:=by omega
 have h2:¬ m>1099511627776:=by omega
 have c0:=(D1.out 0 _ rfl).1;go_upto_region 8 with fail;obtain⟨Wb,dB⟩:∃ Y:BV,Y=X.alloc (BP #[BT false] 57):=⟨_,rfl⟩
 obtain⟨b8,bB⟩:∃ b,b=X.heap.size:=⟨_,rfl⟩
 have hb:B9 X.heap.size X Wb:=by rw[dB];exact Jb _ _
 have BW:BU (Cells Wb b8 [BT false]):=by rw[dB,bB];exact Cells.new X [BT false] _
 have LP:BU _:=LP.out.below hb;have BC:BU _:=Cells.step BC.out hb;have hD:BU _:=Jc hD.out hb;have D1:BU _:=Cells.step D1.out hb;have D2:BU _:=Cells.step D2.out hb;rw[<- dB,<- bB];clear dB bB hb c0;have c0:=(D1.out 0 _ rfl).1;have c1:=(D1.out 1 _ rfl).1
 go_upto_if 39 with fail
 go_cut [9] from 10 (fun s9 wx=>∃ gl:Nat,s9 = BQ (some ⟨gl,0,none⟩) 3 3/\BU (Cells wx gl [J I ix,J I iy,J I iz])/\BU (B9 Wb.heap.size Wb wx))
 case first =>
  by_cases hk1:k=1
  ·have e9:=dj.out;rw[if_pos hk1]at e9;simp only[Pt.mk.injEq]at e9;obtain⟨u1,u2,u3⟩:=e9;subst hk1;have q0:0<=r*1048576/\r*1048576<=137438953472:=by omega
   have q1:=Jk2 q0.1 q0.2;have q2:=Jhs (m:=m) (by omega) dT q0.1 q0.2;have q3:=Je9 (m:=m) (by omega) dT q0.1 q0.2;have q4:=Jog q3.1 q3.2;have M1:BU _:=fun w' (hu:Cells w' b8 [BT false])=>RF.rmul_ok b8 (r*1048576) (r*1048576) _ w' (hu 0 _ rfl).1 (hu 0 _ rfl).2 q1;have M2:BU _:=fun w' (hu:Cells w' b8 [BT false])=>RF.rmul_ok b8 m _ _ w' (hu 0 _ rfl).1 (hu 0 _ rfl).2 q2;have M3:BU _:=fun w' (hu:Cells w' b8 [BT false])=>RF.rratio_ok b8 _ 2 5 _ w' (hu 0 _ rfl).1 (hu 0 _ rfl).2 q4;have e1:ix=sqM m (r*1048576)*2 / 5:=u1;have e2:iy=ix:=by rw[u2,e1];rfl
   have e3:iz=ix:=by rw[u3,e1];rfl
   rw[<- e1]at M3;have E2:BU _:=e2;have E3:BU _:=e3;clear q0 q1 q2 q3 q4 e1 e2 e3 u1 u2 u3 dj;generalize sqM m (r*1048576)=sq at *;generalize r*1048576*(r*1048576) / 4294967296=rq at *;go_wp2_with (fail);refine JA (M1.out _ BW.out) ?_;rintro e U1 ⟨rfl,ac⟩;go_wp2_with (fail);refine JA (M2.out _ (Cells.step BW.out ac)) ?_;rintro e U2 ⟨rfl,aj⟩;go_wp2_with (fail);refine JA (M3.out _ (Cells.step (Cells.step BW.out ac) aj)) ?_;rintro e U3 ⟨rfl,ao⟩;go_wp2_with (fail);go_meet
   case rel=>exact⟨U3.heap.size,rfl,by show Cells _ _ _;rw[E2.out,E3.out];exact Cells.new U3 [J I ix,J I ix,J I ix] _,Jc (Jc (Jc ac aj) ao) (Jb _ _)⟩
  ·have e9:=dj.out;rw[if_neg hk1]at e9;simp only[Pt.mk.injEq]at e9;obtain⟨e1,e2,e3⟩:=e9;have hk1':(k == 1)=false:=beq_eq_false_iff_ne.2 hk1;obtain⟨l1,l2,l3⟩:=Jfd P 65536 P3.out p1 P.length (Nat.le_refl _);rw[Pt.inB_iff]at l1 l2;have wx:=Jf6 (r:=r) l1.1.1 l2.1.2 l3.1 hr.1 hr.2;have wy:=Jf6 (r:=r) l1.2.1.1 l2.2.1.2 l3.2.1 hr.1 hr.2;have wz:=Jf6 (r:=r) l1.2.2.1 l2.2.2.2 l3.2.2 hr.1 hr.2;have oo:=Jkp (fun p=>p.x) P p1 (fun a p=>rfl) (fun a p=>rfl);have fq:=Jkp (fun p=>p.y) P p1 (fun a p=>rfl) (fun a p=>rfl);have gg:=Jkp (fun p=>p.z) P p1 (fun a p=>rfl) (fun a p=>rfl);have inx:∀ n∈P.map (fun p=>p.x),-65536<=n/\n<=65536:=fun n hn=>by
    obtain⟨p,hp,rfl⟩:=List.mem_map.1 hn;exact((Pt.inB_iff _ _).1 (P3.out p hp)).1
   have iny:∀ n∈P.map (fun p=>p.y),-65536<=n/\n<=65536:=fun n hn=>by
    obtain⟨p,hp,rfl⟩:=List.mem_map.1 hn;exact((Pt.inB_iff _ _).1 (P3.out p hp)).2.1
   have inz:∀ n∈P.map (fun p=>p.z),-65536<=n/\n<=65536:=fun n hn=>by
    obtain⟨p,hp,rfl⟩:=List.mem_map.1 hn;exact((Pt.inB_iff _ _).1 (P3.out p hp)).2.2
   have H1:BU _:=fun w' v (h:LiesI w' v (P.map (fun p=>p.x)))=>Ji1 v _ r w' h (by simpa using p1) (by simpa using p2) inx hr;have H2:BU _:=fun w' v (h:LiesI w' v (P.map (fun p=>p.y)))=>Ji1 v _ r w' h (by simpa using p1) (by simpa using p2) iny hr;have H3:BU _:=fun w' v (h:LiesI w' v (P.map (fun p=>p.z)))=>Ji1 v _ r w' h (by simpa using p1) (by simpa using p2) inz hr;rw[oo.1,oo.2]at H1;rw[fq.1,fq.2]at H2;rw[gg.1,gg.2]at H3;unfold Jbo at e1 e2 e3;dsimp only at e1 e2 e3;generalize hw (Jdb P P.length).x (Jb9 P P.length).x r=ex at *;generalize hw (Jdb P P.length).y (Jb9 P P.length).y r=ey at *;generalize hw (Jdb P P.length).z (Jb9 P P.length).z r=ez at *;have E1:BU _:=e1;have E2:BU _:=e2;have E3:BU _:=e3;have RX:BU (0<=ex/\ex<=137438953472):=⟨by omega,by omega⟩
   have RY:BU (0<=ey/\ey<=137438953472):=⟨by omega,by omega⟩
   have RZ:BU (0<=ez/\ez<=137438953472):=⟨by omega,by omega⟩
   clear e1 e2 e3 l1 l2 l3 wx wy wz oo fq gg inx iny inz dj;obtain⟨j0,iw,dQ,dE,iA⟩:=info_parts Jtd;have HJ:BU _:=And.intro iw (And.intro dQ (And.intro dE iA));clear iw dQ dE iA;go_wp2_with (fail)
   go_loopg [12,13,14,15] P.length (fun gm Bg s13 yp Bh wr=>∃(i:Nat) (ox oy oz:Option Ce) (cx cy cz:Nat),Bg = BQ ox i cx/\s13 = BQ oy i cy/\yp = BQ oz i cz/\Bh=J I (i:Int)/\i<=P.length/\gm=P.length-i/\BU (N3 Wb wr (BQ ox i cx) (BQ oy i cy) (BQ oz i cz) ((P.take i).map (fun p=>p.x)) ((P.take i).map (fun p=>p.y)) ((P.take i).map (fun p=>p.z))))
   case atStart=>exact⟨0,none,none,none,0,0,0,rfl,rfl,rfl,rfl,Nat.zero_le _,rfl,⟨World.ownsRow_nil _ _ _ _,World.ownsRow_nil _ _ _ _,World.ownsRow_nil _ _ _ _,(fun _ h=>by cases h),(fun _ h=>by cases h),(fun _ h=>by cases h),Below.refl _ _⟩⟩
   case round =>
    obtain⟨ii,ox,oy,oz,cx,cy,cz,rfl,rfl,rfl,rfl,hi,be,HN⟩:=hrel;have eH:BU _:=be;clear be;have qe:(P.take ii).length=ii:=by rw[List.length_take,Nat.min_eq_left hi]
    by_cases hit:ii<P.length
    ·obtain⟨_,_,e9,_,hcp,da⟩:=LP.out.form;cases e9;obtain⟨g,off,e9,x0,x1,x2⟩:=da ii hit;subst e9;clear da;have XX:BU _:=And.intro x0 (And.intro x1 x2);clear x0 x1 x2;have zv:BU ((P.take ii).map (fun p=>p.x) ++ [(pt P ii).x]=(P.take (ii+1)).map (fun p=>p.x)):=by show _=_;rw[Jb6 hit,List.map_append];rfl
     have zx:BU ((P.take ii).map (fun p=>p.y) ++ [(pt P ii).y]=(P.take (ii+1)).map (fun p=>p.y)):=by show _=_;rw[Jb6 hit,List.map_append];rfl
     have rD:BU ((P.take ii).map (fun p=>p.z) ++ [(pt P ii).z]=(P.take (ii+1)).map (fun p=>p.z)):=by show _=_;rw[Jb6 hit,List.map_append];rfl
     generalize(pt P ii).x=px at *;generalize(pt P ii).y=py at *;generalize(pt P ii).z=pz at *;have dQ:(ii:Int)<(P.length:Int):=by omega
     have cF:=HN.out.below.size;have d0:=(Cells.step BC.out HN.out.below 0 _ rfl).1;have x0:=Ja HN.out.below XX.out.1;go_upto_region 19 with (at_builtin;refine wpList_append_own_at _ rfl _ _ 72 rfl Wb.heap.size 3 j0 _ 1 8 underlying72 HJ.out.1 HJ.out.2.1 HJ.out.2.2.1 HJ.out.2.2.2 rfl (by decide) _ _ _ rfl (Jq HN.out.rx (Jb wr _)) ⟨wr.heap.size,0,none⟩ 1 1 [J I px] rfl rfl (cell_one_new _ _ _) (by intro u hu;simp at hu;rw[hu];rfl) (by unfold maxLen;rw[List.length_map,qe];omega) (by rw[List.length_map,qe];omega) (by simp;omega) ?_;intro u1 V1 r1 g1 _ b1);have dD:V1.ownsRow Wb.heap.size 3 1 u1 ((P.take (ii+1)).map (fun p=>p.x)).length (((P.take (ii+1)).map (fun p=>p.x)).map (.int .i64)):=by rw[<- zv.out,List.length_append,List.map_append];exact r1
     have cT:((P.take (ii+1)).map (fun p=>p.x)).length=ii+1:=by rw[List.length_map,List.length_take];omega
     have bR:BU _:=((HN.out.step (Jb wr (BP #[J I px] 3))).gx dD (Jk6 g1 b1)).rot;rw[cT]at dD;obtain⟨ox',cx',rfl⟩:=Jg0 dD;clear r1 g1 b1 dD cT d0 x0 zv HN;have cF:=bR.out.below.size;have d0:=(Cells.step BC.out bR.out.below 0 _ rfl).1;have x1:=Ja bR.out.below XX.out.2.1;go_upto_region 20 with (at_builtin;refine wpList_append_own_at _ rfl _ _ 72 rfl Wb.heap.size 3 j0 _ 1 8 underlying72 HJ.out.1 HJ.out.2.1 HJ.out.2.2.1 HJ.out.2.2.2 rfl (by decide) _ _ _ rfl (Jq bR.out.rx (Jb V1 _)) ⟨V1.heap.size,0,none⟩ 1 1 [J I py] rfl rfl (cell_one_new _ _ _) (by intro u hu;simp at hu;rw[hu];rfl) (by unfold maxLen;rw[List.length_map,qe];omega) (by rw[List.length_map,qe];omega) (by simp;omega) ?_;intro u2 V2 r1 g1 _ b1);have dD:V2.ownsRow Wb.heap.size 3 1 u2 ((P.take (ii+1)).map (fun p=>p.y)).length (((P.take (ii+1)).map (fun p=>p.y)).map (.int .i64)):=by rw[<- zx.out,List.length_append,List.map_append];exact r1
     have cT:((P.take (ii+1)).map (fun p=>p.y)).length=ii+1:=by rw[List.length_map,List.length_take];omega
     have cf:BU _:=((bR.out.step (Jb V1 (BP #[J I py] 3))).gx dD (Jk6 g1 b1)).rot;rw[cT]at dD;obtain⟨oy',cy',rfl⟩:=Jg0 dD;clear r1 g1 b1 dD cT d0 x1 zx bR;have cF:=cf.out.below.size;have d0:=(Cells.step BC.out cf.out.below 0 _ rfl).1;have x2:=Ja cf.out.below XX.out.2.2;go_wp2_with (at_builtin;refine wpList_append_own_at _ rfl _ _ 72 rfl Wb.heap.size 3 j0 _ 1 8 underlying72 HJ.out.1 HJ.out.2.1 HJ.out.2.2.1 HJ.out.2.2.2 rfl (by decide) _ _ _ rfl (Jq cf.out.rx (Jb V2 _)) ⟨V2.heap.size,0,none⟩ 1 1 [J I pz] rfl rfl (cell_one_new _ _ _) (by intro u hu;simp at hu;rw[hu];rfl) (by unfold maxLen;rw[List.length_map,qe];omega) (by rw[List.length_map,qe];omega) (by simp;omega) ?_;intro u3 V3 r1 g1 _ b1);have dD:V3.ownsRow Wb.heap.size 3 1 u3 ((P.take (ii+1)).map (fun p=>p.z)).length (((P.take (ii+1)).map (fun p=>p.z)).map (.int .i64)):=by rw[<- rD.out,List.length_append,List.map_append];exact r1
     have cT:((P.take (ii+1)).map (fun p=>p.z)).length=ii+1:=by rw[List.length_map,List.length_take];omega
     have sR:BU _:=((cf.out.step (Jb V2 (BP #[J I pz] 3))).gx dD (Jk6 g1 b1)).rot;rw[cT]at dD;obtain⟨oz',cz',rfl⟩:=Jg0 dD;clear r1 g1 b1 dD cT d0 x2 rD cf
     go_roundg (P.length-(ii+1))
     case measure=>have:=eH.out;omega
     case rel=>exact⟨ii+1,ox',oy',oz',cx',cy',cz',rfl,rfl,rfl,by go_num,by omega,rfl,sR⟩
    ·have e:ii=P.length:=by omega
     subst e;rw[List.take_length]at HN;have zz:BU (LiesI wr (BQ ox P.length cx) (P.map (fun p=>p.x))):=LiesI.of_row HN.out.rx;have zA:BU (LiesI wr (BQ oy P.length cy) (P.map (fun p=>p.y))):=LiesI.of_row HN.out.ry;have zB:BU (LiesI wr (BQ oz P.length cz) (P.map (fun p=>p.z))):=LiesI.of_row HN.out.rz;have d0:=(Cells.step BC.out HN.out.below 0 _ rfl).1;go_upto_region 21 with fail;clear d0;have tq:=(Cells.step D1.out HN.out.below 1 _ rfl).1;refine RV.region_by (fun j v w=>match j with | 0=>v = BQ ox P.length cx | 1=>v = BO (some ⟨w0.heap.size,1,none⟩) | 2=>v=J I r | 3=>v=J I ex | 4=>v = BQ oy P.length cy | 5=>v = BO (some ⟨w0.heap.size,1,none⟩) | 6=>v=J I r | 7=>v=J I ey | 8=>v = BQ oz P.length cz | 9=>v = BO (some ⟨w0.heap.size,1,none⟩) | 10=>v=J I r | 11=>v=J I ez | 12=>(fun v w=>∃ g9,v = BQ (some ⟨g9,0,none⟩) 3 3/\wr.heap.size<=g9/\Cells w g9 [J I ex,J I ey,J I ez]) v w | 13=>(fun v w=>∃ g9,v = BQ (some ⟨g9,0,none⟩) 3 3/\wr.heap.size<=g9/\Cells w g9 [J I ex,J I ey,J I ez]) v w | _=>True) (fun γ L w=>B9 wr.heap.size wr w) (by kernel_rfl) (by kernel_rfl) (by kernel_rfl) (by kernel_rfl) ?_ ?_ ?_
     ·exact(Below.refl _ wr).drew
     ·generalize hD:Jam _=D;generalize ah:Jai _=WA;generalize hZ:Act.mk _ _=Z;refine RV.AllDo.name ?_;intro R hR;have kn:RV.Kn R [.some (BQ ox P.length cx),.some (BO (some ⟨w0.heap.size,1,none⟩)),.some (J I r),.some (J I ex),.some (BQ oy P.length cy),.some (BO (some ⟨w0.heap.size,1,none⟩)),.some (J I r),.some (J I ey),.some (BQ oz P.length cz),.some (BO (some ⟨w0.heap.size,1,none⟩)),.some (J I r),.some (J I ez),none,none] 0:=by rw[hR];exact⟨fun _ _=>Iff.rfl,fun _ _=>Iff.rfl,fun _ _=>Iff.rfl,fun _ _=>Iff.rfl,fun _ _=>Iff.rfl,fun _ _=>Iff.rfl,fun _ _=>Iff.rfl,fun _ _=>Iff.rfl,fun _ _=>Iff.rfl,fun _ _=>Iff.rfl,fun _ _=>Iff.rfl,fun _ _=>Iff.rfl,trivial⟩
      have T:=RV.kfacts [91,92,93,94,95,96,97,98,99,100,101,102,103,17] [(2,BO (some ⟨w0.heap.size,0,none⟩)),(12,BQ ox P.length cx),(13,BQ oy P.length cy),(14,BQ oz P.length cz)] hD hZ kn ⟨rfl,rfl,rfl,rfl,trivial⟩ (by kernel_rfl) (by kernel_rfl);simp only[RV.Outs,RV.Slots,Nat.reduceAdd]at T;have kQ:∀ v w,R 12 v w=((fun v w=>∃ g9,v = BQ (some ⟨g9,0,none⟩) 3 3/\wr.heap.size<=g9/\Cells w g9 [J I ex,J I ey,J I ez]) v w):=fun v w=>by rw[hR];rfl
      have r13:∀ v w,R 13 v w=((fun v w=>∃ g9,v = BQ (some ⟨g9,0,none⟩) 3 3/\wr.heap.size<=g9/\Cells w g9 [J I ex,J I ey,J I ez]) v w):=fun v w=>by rw[hR];rfl
      have K:∀ j v w w',B9 w.heap.size w w'->R j v w->R j v w':=by
       rw[hR];intro j v w w' hb h
       revert h
       dsimp only
       split
       all_goals first | exact id | exact(fun⟨g9,t1,t2,t4⟩=>⟨g9,t1,t2,t4.step hb⟩)
      iterate 3 first
       |(refine Br _ (BK kn T (fun γ v L w hl h=>h) (fun γ L a w hH hl h9 k9=>⟨_,?_,rfl⟩)) ?_;· simp[JD,go_sem,h9])
       |(refine Br _ (BK kn T (fun γ v L w hl h=>h) (fun γ L a w hH hl h9 k9=>⟨_,?_,rfl⟩)) ?_;· have q0:=Ja hH.glob tq;simp[JC]at k9;simp[JD,go_sem,h9,k9,q0])
      refine Br _ (Bw (fun γ L a w hH hl hA=>by have h9:=T _ _ γ L a w hH;have k9:=hA;simp[JC]at k9;exact⟨84,#[BQ ox P.length cx,J I r],by simp[go_sem,h9,k9],JA (H1.out w _ (LiesI.below zz.out hH.glob)) (by rintro e w2 ⟨rfl,hb⟩;exact⟨_,rfl,((kn.at (k:=3) rfl _ _).2 rfl),fun j v _ h=>K j v _ _ hb h,hH.glob.trans (hb.mono hH.glob.size)⟩)⟩)) ?_
      iterate 3 first
       |(refine Br _ (BK kn T (fun γ v L w hl h=>h) (fun γ L a w hH hl h9 k9=>⟨_,?_,rfl⟩)) ?_;· simp[JD,go_sem,h9])
       |(refine Br _ (BK kn T (fun γ v L w hl h=>h) (fun γ L a w hH hl h9 k9=>⟨_,?_,rfl⟩)) ?_;· have q0:=Ja hH.glob tq;simp[JC]at k9;simp[JD,go_sem,h9,k9,q0])
      refine Br _ (Bw (fun γ L a w hH hl hA=>by have h9:=T _ _ γ L a w hH;have k9:=hA;simp[JC]at k9;exact⟨84,#[BQ oy P.length cy,J I r],by simp[go_sem,h9,k9],JA (H2.out w _ (LiesI.below zA.out hH.glob)) (by rintro e w2 ⟨rfl,hb⟩;exact⟨_,rfl,((kn.at (k:=7) rfl _ _).2 rfl),fun j v _ h=>K j v _ _ hb h,hH.glob.trans (hb.mono hH.glob.size)⟩)⟩)) ?_
      iterate 3 first
       |(refine Br _ (BK kn T (fun γ v L w hl h=>h) (fun γ L a w hH hl h9 k9=>⟨_,?_,rfl⟩)) ?_;· simp[JD,go_sem,h9])
       |(refine Br _ (BK kn T (fun γ v L w hl h=>h) (fun γ L a w hH hl h9 k9=>⟨_,?_,rfl⟩)) ?_;· have q0:=Ja hH.glob tq;simp[JC]at k9;simp[JD,go_sem,h9,k9,q0])
      refine Br _ (Bw (fun γ L a w hH hl hA=>by have h9:=T _ _ γ L a w hH;have k9:=hA;simp[JC]at k9;exact⟨84,#[BQ oz P.length cz,J I r],by simp[go_sem,h9,k9],JA (H3.out w _ (LiesI.below zB.out hH.glob)) (by rintro e w2 ⟨rfl,hb⟩;exact⟨_,rfl,((kn.at (k:=11) rfl _ _).2 rfl),fun j v _ h=>K j v _ _ hb h,hH.glob.trans (hb.mono hH.glob.size)⟩)⟩)) ?_;refine Br _ (BJ (fun γ L a w hH hl hA=>by have h9:=T _ _ γ L a w hH;have k9:=hA;simp[JC]at k9;exact⟨BQ (some ⟨w.heap.size,0,none⟩) 3 3,w.alloc (BP #[J I ex,J I ey,J I ez] 3),by simp[JD,go_sem,h9,k9],(kQ _ _).mpr ⟨w.heap.size,rfl,hH.glob.size,Cells.new w [J I ex,J I ey,J I ez] _⟩,fun j v _ h=>K j v _ _ (Jb w _) h,hH.glob.trans ((Jb w _).mono hH.glob.size)⟩)) ?_;refine Br _ (RV.dp (fun γ v L w hl h=>h) (fun γ L a w hH hl hA=>by have l0:L 12=true:=hA ⟨12,.data⟩ (by simp) rfl;have e0:=hH.slot 12 102 (by rw[<- hD];rfl) l0;have g0:=hH.holds 12 l0;rw[kQ]at g0;exact⟨γ 12,by simp[JD,go_sem,e0],(r13 _ _).mpr g0⟩)) ?_;exact RV.AllDo.nil
     ·intro γ a5 w5 L9 hL dU hH;have ha:=RV.held_act hH hL (by kernel_rfl) (by kernel_rfl);obtain⟨ge,m9,yg,yat⟩:∃ g9,γ 13 = BQ (some ⟨g9,0,none⟩) 3 3/\wr.heap.size<=g9/\Cells w5 g9 [J I ex,J I ey,J I ez]:=hH.holds 13 (hL 13 (by decide));have lw:=hH.glob;rw[ha];clear ha hH hL dU;simp only[RV.putAll,Act.put,JH,JG,JF,Nat.zero_add,Nat.reduceAdd];rw[m9];obtain⟨Wc,kj⟩:∃ X:BV,X=w5:=⟨_,rfl⟩
      have BE:BU (Cells Wc ge [J I ex,J I ey,J I ez]):=by rw[kj];exact yat
      have HB:BU (B9 Wb.heap.size Wb Wc):=by rw[kj];exact Jc HN.out.below lw
      rw[<- kj];clear kj m9 yat yg lw HN H1 H2 H3 zz zA zB tq;have BW:BU _:=Cells.step BW.out HB.out;have HQ:BU (∀ j:Nat,j<3->∃ ej rj qj:Int,[ex,ey,ez][j]?=some ej/\[sqM m ex,sqM m ey,sqM m ez][j]?=some qj/\mul ej ej=some rj/\mul m rj=some qj):=fun j hj=>by
       match j,hj with
       | 0,_=>exact⟨ex,_,_,rfl,rfl,Jk2 RX.out.1 RX.out.2,Jhs (by omega) dT RX.out.1 RX.out.2⟩
       | 1,_=>exact⟨ey,_,_,rfl,rfl,Jk2 RY.out.1 RY.out.2,Jhs (by omega) dT RY.out.1 RY.out.2⟩
       | 2,_=>exact⟨ez,_,_,rfl,rfl,Jk2 RZ.out.1 RZ.out.2,Jhs (by omega) dT RZ.out.1 RZ.out.2⟩
      have sx:=Je9 (m:=m) (by omega) dT RX.out.1 RX.out.2;have sy:=Je9 (m:=m) (by omega) dT RY.out.1 RY.out.2;have sz:=Je9 (m:=m) (by omega) dT RZ.out.1 RZ.out.2;unfold Ji6 at E1 E2 E3;generalize sqM m ex=qx at *;generalize sqM m ey=qy at *;generalize sqM m ez=qz at *;have mV:BU _:=sx;have mW:BU _:=sy;have mX:BU _:=sz;clear sx sy sz RX RY RZ;go_wp2_with (fail)
      go_loopg [17,18] 3 (fun gm Bi Bj wz=>∃(jq:Nat) (oq:Option Ce) (cq:Nat),Bi = BQ oq jq cq/\Bj=J I (jq:Int)/\jq<=3/\gm=3-jq/\BU (wz.ownsRow Wc.heap.size 3 1 (BQ oq jq cq) jq (([qx,qy,qz].take jq).map (.int .i64))/\B9 Wc.heap.size Wc wz))
      case atStart=>exact⟨0,none,0,rfl,rfl,by omega,rfl,World.ownsRow_nil _ _ _ _,Below.refl _ _⟩
      case round =>
       obtain⟨jq,oq,cq,rfl,rfl,hj,be,HO⟩:=hrel;have gU:BU _:=be;clear be;by_cases hjt:jq<3
       ·obtain⟨ej,rj,qj,AR,xE,AS,AU⟩:=HQ.out jq hjt;have M1:BU _:=fun w' (hu:Cells w' b8 [BT false])=>RF.rmul_ok b8 ej ej _ w' (hu 0 _ rfl).1 (hu 0 _ rfl).2 AS;have M2:BU _:=fun w' (hu:Cells w' b8 [BT false])=>RF.rmul_ok b8 m _ _ w' (hu 0 _ rfl).1 (hu 0 _ rfl).2 AU;have vv:wr.cell? ⟨ge,jq,none⟩=some (J I ej):=Ja HO.out.2 (BE.out jq (J I ej) (by have:[Value.int .i64 ex,J I ey,J I ez] = [ex,ey,ez].map (.int .i64):=rfl;rw[this,List.getElem?_map,AR];rfl)).1;have zC:BU (([qx,qy,qz].take jq).map (Value.int .i64) ++ [J I qj]=([qx,qy,qz].take (jq+1)).map (.int .i64)):=by
         show _=_
         have zD:jq < [qx,qy,qz].length:=hjt;rw[List.take_succ_eq_append_getElem zD,List.map_append];rw[List.getElem?_eq_getElem zD]at xE;cases xE
         rfl
        have lv:(jq:Int)<3:=by omega
        have UW:BU _:=Cells.step BW.out HO.out.2;clear AR xE AS AU;go_upto_region 26 with fail;refine Bq [.some (BQ oq jq cq),.some (BO (some ⟨b8,0,none⟩)),.some (J I m),.some (BO (some ⟨b8,0,none⟩)),.some (BQ (some ⟨ge,0,none⟩) 3 3),.some (J I (jq:Int)),.some (BO (some ⟨ge,jq,none⟩)),.some (J I ej),.some (BQ (some ⟨ge,0,none⟩) 3 3),.some (J I (jq:Int)),.some (BO (some ⟨ge,jq,none⟩)),.some (J I ej),.some (J I rj),.some (J I qj),none,none,none] [108,109,110,111,112,113,114,115,116,117,118,119,120,121,122,123,18] [(1,J I m),(8,BO (some ⟨b8,0,none⟩)),(16,BQ (some ⟨ge,0,none⟩) 3 3),(18,J I (jq:Int))] (fun γ L w=>A9 14 15 wr Wc.heap.size (BQ oq jq cq) jq (([qx,qy,qz].take jq).map (.int .i64)) (J I qj) γ L w/\(L 16=true->γ 16 = γ 15)) ⟨rfl,rfl,rfl,rfl,trivial⟩ ?_ ?_ ?_
        ·exact⟨Or.inl ⟨rfl,(Below.refl _ wr).drew,fun e=>by cases e⟩,fun e=>by cases e⟩
        ·intro D WA Z hD ah hZ T;simp only[RV.Outs,RV.Slots,Nat.reduceAdd]at T;have X17:∀ j,D j=some 17->j=16:=fun j hj=>by rw[<- hD]at hj;exact Ji7 (by kernel_rfl) hj rfl
         have Y17:Z.tmps[17]?=some (BQ oq jq cq):=by rw[<- hZ];rfl
         refine Br _ (RV.dp (fun γ v L w hl h=>⟨A9.other h.1 _ (by decide) (by decide),fun e=>by rw[Bt (by decide)]at e;rw[BI _ _ (by decide),BI _ _ (by decide)];exact h.2 e⟩) (fun γ L a w hH hl hA=>by have e0:=(hH.early 17 (fun j hj=>by rw[X17 j hj];exact Bu hH (Bv (j:=16) (i:=0) ah (by kernel_rfl)) hl)).trans Y17;exact⟨_,by simp[JD,go_sem,e0],rfl⟩)) ?_
         iterate 6 first
          |(refine Br _ (Bs T (fun γ v L w hl h=>⟨A9.other h.1 _ (by decide) (by decide),fun e=>by rw[Bt (by decide)]at e;rw[BI _ _ (by decide),BI _ _ (by decide)];exact h.2 e⟩) (fun γ L a w hH hl h9 k9=>⟨_,?_,rfl⟩)) ?_;· simp[JD,go_sem,h9])
          |(refine Br _ (Bs T (fun γ v L w hl h=>⟨A9.other h.1 _ (by decide) (by decide),fun e=>by rw[Bt (by decide)]at e;rw[BI _ _ (by decide),BI _ _ (by decide)];exact h.2 e⟩) (fun γ L a w hH hl h9 k9=>⟨_,?_,rfl⟩)) ?_;· simp[JC]at k9;simp[JD,go_sem,h9,k9,lv])
         refine Br _ (RV.dp (fun γ v L w hl h=>⟨A9.other h.1 _ (by decide) (by decide),fun e=>by rw[Bt (by decide)]at e;rw[BI _ _ (by decide),BI _ _ (by decide)];exact h.2 e⟩) (fun γ L a w hH hl hA=>by have h9:=T γ L a w hH;have k9:=hA;simp[JC]at k9;have z0:=Ja (A9.early hH.glob.1 (Bu hH (Bv (j:=15) (i:=14) ah (by kernel_rfl)) (Bu hH (Bv (j:=14) (i:=13) ah (by kernel_rfl)) (Bu hH (Bv (j:=13) (i:=12) ah (by kernel_rfl)) (Bu hH (Bv (j:=12) (i:=7) ah (by kernel_rfl)) hl))))).1 vv;exact⟨_,by simp[JD,go_sem,h9,z0,k9],rfl⟩)) ?_
         iterate 3 first
          |(refine Br _ (Bs T (fun γ v L w hl h=>⟨A9.other h.1 _ (by decide) (by decide),fun e=>by rw[Bt (by decide)]at e;rw[BI _ _ (by decide),BI _ _ (by decide)];exact h.2 e⟩) (fun γ L a w hH hl h9 k9=>⟨_,?_,rfl⟩)) ?_;· simp[JD,go_sem,h9])
          |(refine Br _ (Bs T (fun γ v L w hl h=>⟨A9.other h.1 _ (by decide) (by decide),fun e=>by rw[Bt (by decide)]at e;rw[BI _ _ (by decide),BI _ _ (by decide)];exact h.2 e⟩) (fun γ L a w hH hl h9 k9=>⟨_,?_,rfl⟩)) ?_;· simp[JC]at k9;simp[JD,go_sem,h9,k9,lv])
         refine Br _ (RV.dp (fun γ v L w hl h=>⟨A9.other h.1 _ (by decide) (by decide),fun e=>by rw[Bt (by decide)]at e;rw[BI _ _ (by decide),BI _ _ (by decide)];exact h.2 e⟩) (fun γ L a w hH hl hA=>by have h9:=T γ L a w hH;have k9:=hA;simp[JC]at k9;have z0:=Ja (A9.early hH.glob.1 (Bu hH (Bv (j:=15) (i:=14) ah (by kernel_rfl)) (Bu hH (Bv (j:=14) (i:=13) ah (by kernel_rfl)) (Bu hH (Bv (j:=13) (i:=12) ah (by kernel_rfl)) (Bu hH (Bv (j:=12) (i:=11) ah (by kernel_rfl)) hl))))).1 vv;exact⟨_,by simp[JD,go_sem,h9,z0,k9],rfl⟩)) ?_;refine Br _ (Bw (fun γ L a w hH hl hA=>by have h9:=T γ L a w hH;have k9:=hA;simp[JC]at k9;have rE:L 15=false:=Bu hH (Bv (j:=15) (i:=14) ah (by kernel_rfl)) (Bu hH (Bv (j:=14) (i:=13) ah (by kernel_rfl)) (Bu hH (Bv (j:=13) (i:=12) ah (by kernel_rfl)) hl));have y:=A9.early hH.glob.1 rE;exact⟨66,#[BO (some ⟨b8,0,none⟩),J I ej,J I ej],by simp[go_sem,h9,k9],JA (M1.out w (Cells.step UW.out y.1)) (by rintro e w2 ⟨rfl,hb⟩;exact⟨_,rfl,rfl,fun j v _ h=>h.keep _,A9.call hH.glob.1 rE hb _ (by decide) (by decide),fun e=>by rw[Bt (by decide)]at e;rw[BI _ _ (by decide),BI _ _ (by decide)];exact hH.glob.2 e⟩)⟩)) ?_;refine Br _ (Bw (fun γ L a w hH hl hA=>by have h9:=T γ L a w hH;have k9:=hA;simp[JC]at k9;have rE:L 15=false:=Bu hH (Bv (j:=15) (i:=14) ah (by kernel_rfl)) (Bu hH (Bv (j:=14) (i:=13) ah (by kernel_rfl)) hl);have y:=A9.early hH.glob.1 rE;exact⟨66,#[BO (some ⟨b8,0,none⟩),J I m,J I rj],by simp[go_sem,h9,k9],JA (M2.out w (Cells.step UW.out y.1)) (by rintro e w2 ⟨rfl,hb⟩;exact⟨_,rfl,rfl,fun j v _ h=>h.keep _,A9.call hH.glob.1 rE hb _ (by decide) (by decide),fun e=>by rw[Bt (by decide)]at e;rw[BI _ _ (by decide),BI _ _ (by decide)];exact hH.glob.2 e⟩)⟩)) ?_;refine Br _ (BJ (fun γ L a w hH hl hA=>by have h9:=T γ L a w hH;have k9:=hA;simp[JC]at k9;exact⟨BQ (some ⟨w.heap.size,0,none⟩) 1 1,w.alloc (BP #[J I qj] 3),by simp[JD,go_sem,h9,k9],trivial,fun j v _ h=>h.keep _,A9.lay hH.glob.1 (Bu hH (Bv (j:=15) (i:=14) ah (by kernel_rfl)) hl) (by decide),fun e=>by rw[Bt (by decide)]at e;rw[BI _ _ (by decide),BI _ _ (by decide)];exact hH.glob.2 e⟩)) ?_;refine Br _ (BJ (fun γ L a w hH hl hA=>by have h9:=T γ L a w hH;have k9:=hA;simp[JC]at k9;have l1:L 14=true:=hA ⟨14,.data⟩ (by simp) rfl;have e1:=hH.slot 14 121 (by rw[<- hD];rfl) l1;obtain⟨y2,y3⟩:=A9.early hH.glob.1 hl;obtain⟨g9,t1,t2⟩:=y3 l1;rw[t1]at e1;have q16:L 16=false:=Bu hH (Bv (j:=16) (i:=15) ah (by kernel_rfl)) hl;obtain⟨v9,w9,t3,t4,t5⟩:=Jhj (P:=Tryz.prog) (w:=w) (a:=a) (.tmp 107) (.tmp 121) 72 72 Wc.heap.size 3 j0 _ 1 8 underlying72 HJ.out.1 HJ.out.2.1 HJ.out.2.2.1 HJ.out.2.2.2 rfl (by decide) (BQ oq jq cq) jq _ (by simp[go_sem,h9,k9]) (Jq HO.out.1 y2) ⟨g9,0,none⟩ 1 1 [J I qj] (by simp[go_sem,e1]) rfl (Ju5 t2) (by intro u hu;simp at hu;rw[hu];rfl) (by unfold maxLen;omega) (by omega) (Nat.le_trans HO.out.2.size y2.size);exact⟨v9,w9,t3 _ rfl rfl,trivial,fun j v _ h=>h.keep _,A9.app t4 ((Grew.below y2 _).trans t5),fun e=>by rw[Bt (by decide),q16]at e;cases e⟩)) ?_;refine Br _ (BJ (fun γ L a w hH hl hA=>by have l0:L 15=true:=hA ⟨15,.data⟩ (by simp) rfl;have e0:=hH.slot 15 122 (by rw[<- hD];rfl) l0;exact⟨γ 15,w,by simp[JD,go_sem,e0],trivial,fun j v _ h=>h,A9.other hH.glob.1 _ (by decide) (by decide),fun e=>by rw[RV.upd_self,BI _ _ (by decide)]⟩)) ?_;exact RV.AllDo.nil
        ·intro γ w5 L9 hL aX aD;obtain⟨y1,y2⟩:=A9.done aD.1 (hL 15 (by decide));have y3:=aD.2 (hL 16 (by decide));clear hL aX aD;simp only[RV.putL,Act.put,JH,JG,JF,Nat.reduceAdd];rw[y3];rw[zC.out]at y1;have y4:=y2.on HO.out.2 HO.out.1 HO.out.2.size;generalize γ 15=u9 at *;obtain⟨o9,c9,rfl⟩:=Jg0 y1;have HO:BU _:=And.intro y1 y4;clear y1 y2 y3 y4 vv M1 M2 zC UW;go_wp2_with (fail)
         go_roundg (3-(jq+1))
         case measure=>have:=gU.out;omega
         case rel=>exact⟨jq+1,o9,c9,rfl,by go_num,by omega,rfl,HO⟩
       ·have e:jq=3:=by omega
        subst e;have LQ:LiesI wr (BQ oq 3 cq) [qx,qy,qz]:=LiesI.of_row (base:=Wc.heap.size) HO.out.1;obtain⟨_,_,e9,_,_,da⟩:=LQ.form;cases e9;obtain⟨gq,e9,xF⟩:=da 0 (by simp);subst e9;obtain⟨g',e',xG⟩:=da 1 (by simp);cases e';obtain⟨g',e',xH⟩:=da 2 (by simp);cases e';simp at xF xG xH;clear da LQ;have hB7:BU _:=Jc HB.out HO.out.2;have UW:BU _:=Cells.step BW.out HO.out.2;have A1:BU _:=fun w' (hu:Cells w' b8 [BT false])=>RF.radd_ok b8 qy qz _ w' (hu 0 _ rfl).1 (hu 0 _ rfl).2 (Jk4 mW.out.1 mW.out.2 mX.out.1 mX.out.2);have A2:BU _:=fun w' (hu:Cells w' b8 [BT false])=>RF.radd_ok b8 qz qx _ w' (hu 0 _ rfl).1 (hu 0 _ rfl).2 (Jk4 mX.out.1 mX.out.2 mV.out.1 mV.out.2);have A3:BU _:=fun w' (hu:Cells w' b8 [BT false])=>RF.radd_ok b8 qx qy _ w' (hu 0 _ rfl).1 (hu 0 _ rfl).2 (Jk4 mV.out.1 mV.out.2 mW.out.1 mW.out.2);have B1_:BU _:=fun w' (hu:Cells w' b8 [BT false])=>RF.rratio_ok b8 (qy+qz) 1 3 ix w' (hu 0 _ rfl).1 (hu 0 _ rfl).2 (by rw[E1.out];exact Jhb (by have:=mW.out;have:=mX.out;omega) (by have:=mW.out;have:=mX.out;omega));have B2_:BU _:=fun w' (hu:Cells w' b8 [BT false])=>RF.rratio_ok b8 (qz+qx) 1 3 iy w' (hu 0 _ rfl).1 (hu 0 _ rfl).2 (by rw[E2.out];exact Jhb (by have:=mV.out;have:=mX.out;omega) (by have:=mV.out;have:=mX.out;omega));have B3_:BU _:=fun w' (hu:Cells w' b8 [BT false])=>RF.rratio_ok b8 (qx+qy) 1 3 iz w' (hu 0 _ rfl).1 (hu 0 _ rfl).2 (by rw[E3.out];exact Jhb (by have:=mW.out;have:=mV.out;omega) (by have:=mW.out;have:=mV.out;omega));go_upto_region 27 with fail;refine RV.region_by (fun j v w=>match j with | 0=>v = BO (some ⟨b8,0,none⟩) | 1=>v = BO (some ⟨b8,0,none⟩) | 2=>v = BQ (some ⟨gq,0,none⟩) 3 cq | 3=>v = BO (some ⟨gq,1,none⟩) | 4=>v=J I qy | 5=>v = BQ (some ⟨gq,0,none⟩) 3 cq | 6=>v = BO (some ⟨gq,2,none⟩) | 7=>v=J I qz | 8=>v=J I (qy+qz) | 9=>v=J I ix | 10=>v = BO (some ⟨b8,0,none⟩) | 11=>v = BO (some ⟨b8,0,none⟩) | 12=>v = BQ (some ⟨gq,0,none⟩) 3 cq | 13=>v = BO (some ⟨gq,2,none⟩) | 14=>v=J I qz | 15=>v = BQ (some ⟨gq,0,none⟩) 3 cq | 16=>v = BO (some ⟨gq,0,none⟩) | 17=>v=J I qx | 18=>v=J I (qz+qx) | 19=>v=J I iy | 20=>v = BO (some ⟨b8,0,none⟩) | 21=>v = BO (some ⟨b8,0,none⟩) | 22=>v = BQ (some ⟨gq,0,none⟩) 3 cq | 23=>v = BO (some ⟨gq,0,none⟩) | 24=>v=J I qx | 25=>v = BQ (some ⟨gq,0,none⟩) 3 cq | 26=>v = BO (some ⟨gq,1,none⟩) | 27=>v=J I qy | 28=>v=J I (qx+qy) | 29=>v=J I iz | 30=>(fun v w=>∃ g9,v = BQ (some ⟨g9,0,none⟩) 3 3/\wr.heap.size<=g9/\Cells w g9 [J I ix,J I iy,J I iz]) v w | 31=>(fun v w=>∃ g9,v = BQ (some ⟨g9,0,none⟩) 3 3/\wr.heap.size<=g9/\Cells w g9 [J I ix,J I iy,J I iz]) v w | _=>True) (fun γ L w=>B9 wr.heap.size wr w) (by kernel_rfl) (by kernel_rfl) (by kernel_rfl) (by kernel_rfl) ?_ ?_ ?_
        ·exact(Below.refl _ wr).drew
        ·generalize hD:Jam _=D;generalize ah:Jai _=WA;generalize hZ:Act.mk _ _=Z;refine RV.AllDo.name ?_;intro R hR;have kn:RV.Kn R [.some (BO (some ⟨b8,0,none⟩)),.some (BO (some ⟨b8,0,none⟩)),.some (BQ (some ⟨gq,0,none⟩) 3 cq),.some (BO (some ⟨gq,1,none⟩)),.some (J I qy),.some (BQ (some ⟨gq,0,none⟩) 3 cq),.some (BO (some ⟨gq,2,none⟩)),.some (J I qz),.some (J I (qy+qz)),.some (J I ix),.some (BO (some ⟨b8,0,none⟩)),.some (BO (some ⟨b8,0,none⟩)),.some (BQ (some ⟨gq,0,none⟩) 3 cq),.some (BO (some ⟨gq,2,none⟩)),.some (J I qz),.some (BQ (some ⟨gq,0,none⟩) 3 cq),.some (BO (some ⟨gq,0,none⟩)),.some (J I qx),.some (J I (qz+qx)),.some (J I iy),.some (BO (some ⟨b8,0,none⟩)),.some (BO (some ⟨b8,0,none⟩)),.some (BQ (some ⟨gq,0,none⟩) 3 cq),.some (BO (some ⟨gq,0,none⟩)),.some (J I qx),.some (BQ (some ⟨gq,0,none⟩) 3 cq),.some (BO (some ⟨gq,1,none⟩)),.some (J I qy),.some (J I (qx+qy)),.some (J I iz),none,none] 0:=by rw[hR];exact⟨fun _ _=>Iff.rfl,fun _ _=>Iff.rfl,fun _ _=>Iff.rfl,fun _ _=>Iff.rfl,fun _ _=>Iff.rfl,fun _ _=>Iff.rfl,fun _ _=>Iff.rfl,fun _ _=>Iff.rfl,fun _ _=>Iff.rfl,fun _ _=>Iff.rfl,fun _ _=>Iff.rfl,fun _ _=>Iff.rfl,fun _ _=>Iff.rfl,fun _ _=>Iff.rfl,fun _ _=>Iff.rfl,fun _ _=>Iff.rfl,fun _ _=>Iff.rfl,fun _ _=>Iff.rfl,fun _ _=>Iff.rfl,fun _ _=>Iff.rfl,fun _ _=>Iff.rfl,fun _ _=>Iff.rfl,fun _ _=>Iff.rfl,fun _ _=>Iff.rfl,fun _ _=>Iff.rfl,fun _ _=>Iff.rfl,fun _ _=>Iff.rfl,fun _ _=>Iff.rfl,fun _ _=>Iff.rfl,fun _ _=>Iff.rfl,trivial⟩
         have T:=RV.kfacts [124,125,126,127,128,129,130,131,132,133,134,135,136,137,138,139,140,141,142,143,144,145,146,147,148,149,150,151,152,153,154,10] [(8,BO (some ⟨b8,0,none⟩)),(17,BQ (some ⟨gq,0,none⟩) 3 cq)] hD hZ kn ⟨rfl,rfl,trivial⟩ (by kernel_rfl) (by kernel_rfl);simp only[RV.Outs,RV.Slots,Nat.reduceAdd]at T;have rA:∀ v w,R 30 v w=((fun v w=>∃ g9,v = BQ (some ⟨g9,0,none⟩) 3 3/\wr.heap.size<=g9/\Cells w g9 [J I ix,J I iy,J I iz]) v w):=fun v w=>by rw[hR];rfl
         have vn:∀ v w,R 31 v w=((fun v w=>∃ g9,v = BQ (some ⟨g9,0,none⟩) 3 3/\wr.heap.size<=g9/\Cells w g9 [J I ix,J I iy,J I iz]) v w):=fun v w=>by rw[hR];rfl
         have K:∀ j v w w',B9 w.heap.size w w'->R j v w->R j v w':=by
          rw[hR];intro j v w w' hb h
          revert h
          dsimp only
          split
          all_goals first | exact id | exact(fun⟨g9,t1,t2,t4⟩=>⟨g9,t1,t2,t4.step hb⟩)
         iterate 8 first
          |(refine Br _ (BK kn T (fun γ v L w hl h=>h) (fun γ L a w hH hl h9 k9=>⟨_,?_,rfl⟩)) ?_;· simp[JD,go_sem,h9])
          |(refine Br _ (BK kn T (fun γ v L w hl h=>h) (fun γ L a w hH hl h9 k9=>⟨_,?_,rfl⟩)) ?_;· have q0:=Ja hH.glob xG;have q1:=Ja hH.glob xH;simp[JC]at k9;simp[JD,go_sem,h9,k9,q0,q1])
         refine Br _ (Bw (fun γ L a w hH hl hA=>by have h9:=T _ _ γ L a w hH;have k9:=hA;simp[JC]at k9;exact⟨85,#[BO (some ⟨b8,0,none⟩),J I qy,J I qz],by simp[go_sem,h9,k9],JA (A1.out w (Cells.step UW.out hH.glob)) (by rintro e w2 ⟨rfl,hb⟩;exact⟨_,rfl,((kn.at (k:=8) rfl _ _).2 rfl),fun j v _ h=>K j v _ _ hb h,hH.glob.trans (hb.mono hH.glob.size)⟩)⟩)) ?_;refine Br _ (Bw (fun γ L a w hH hl hA=>by have h9:=T _ _ γ L a w hH;have k9:=hA;simp[JC]at k9;exact⟨83,#[BO (some ⟨b8,0,none⟩),J I (qy+qz),J I 1,J I 3],by simp[go_sem,h9,k9],JA (B1_.out w (Cells.step UW.out hH.glob)) (by rintro e w2 ⟨rfl,hb⟩;exact⟨_,rfl,((kn.at (k:=9) rfl _ _).2 rfl),fun j v _ h=>K j v _ _ hb h,hH.glob.trans (hb.mono hH.glob.size)⟩)⟩)) ?_
         iterate 8 first
          |(refine Br _ (BK kn T (fun γ v L w hl h=>h) (fun γ L a w hH hl h9 k9=>⟨_,?_,rfl⟩)) ?_;· simp[JD,go_sem,h9])
          |(refine Br _ (BK kn T (fun γ v L w hl h=>h) (fun γ L a w hH hl h9 k9=>⟨_,?_,rfl⟩)) ?_;· have q0:=Ja hH.glob xH;have q1:=Ja hH.glob xF;simp[JC]at k9;simp[JD,go_sem,h9,k9,q0,q1])
         refine Br _ (Bw (fun γ L a w hH hl hA=>by have h9:=T _ _ γ L a w hH;have k9:=hA;simp[JC]at k9;exact⟨85,#[BO (some ⟨b8,0,none⟩),J I qz,J I qx],by simp[go_sem,h9,k9],JA (A2.out w (Cells.step UW.out hH.glob)) (by rintro e w2 ⟨rfl,hb⟩;exact⟨_,rfl,((kn.at (k:=18) rfl _ _).2 rfl),fun j v _ h=>K j v _ _ hb h,hH.glob.trans (hb.mono hH.glob.size)⟩)⟩)) ?_;refine Br _ (Bw (fun γ L a w hH hl hA=>by have h9:=T _ _ γ L a w hH;have k9:=hA;simp[JC]at k9;exact⟨83,#[BO (some ⟨b8,0,none⟩),J I (qz+qx),J I 1,J I 3],by simp[go_sem,h9,k9],JA (B2_.out w (Cells.step UW.out hH.glob)) (by rintro e w2 ⟨rfl,hb⟩;exact⟨_,rfl,((kn.at (k:=19) rfl _ _).2 rfl),fun j v _ h=>K j v _ _ hb h,hH.glob.trans (hb.mono hH.glob.size)⟩)⟩)) ?_
         iterate 8 first
          |(refine Br _ (BK kn T (fun γ v L w hl h=>h) (fun γ L a w hH hl h9 k9=>⟨_,?_,rfl⟩)) ?_;· simp[JD,go_sem,h9])
          |(refine Br _ (BK kn T (fun γ v L w hl h=>h) (fun γ L a w hH hl h9 k9=>⟨_,?_,rfl⟩)) ?_;· have q0:=Ja hH.glob xF;have q1:=Ja hH.glob xG;simp[JC]at k9;simp[JD,go_sem,h9,k9,q0,q1])
         refine Br _ (Bw (fun γ L a w hH hl hA=>by have h9:=T _ _ γ L a w hH;have k9:=hA;simp[JC]at k9;exact⟨85,#[BO (some ⟨b8,0,none⟩),J I qx,J I qy],by simp[go_sem,h9,k9],JA (A3.out w (Cells.step UW.out hH.glob)) (by rintro e w2 ⟨rfl,hb⟩;exact⟨_,rfl,((kn.at (k:=28) rfl _ _).2 rfl),fun j v _ h=>K j v _ _ hb h,hH.glob.trans (hb.mono hH.glob.size)⟩)⟩)) ?_;refine Br _ (Bw (fun γ L a w hH hl hA=>by have h9:=T _ _ γ L a w hH;have k9:=hA;simp[JC]at k9;exact⟨83,#[BO (some ⟨b8,0,none⟩),J I (qx+qy),J I 1,J I 3],by simp[go_sem,h9,k9],JA (B3_.out w (Cells.step UW.out hH.glob)) (by rintro e w2 ⟨rfl,hb⟩;exact⟨_,rfl,((kn.at (k:=29) rfl _ _).2 rfl),fun j v _ h=>K j v _ _ hb h,hH.glob.trans (hb.mono hH.glob.size)⟩)⟩)) ?_;refine Br _ (BJ (fun γ L a w hH hl hA=>by have h9:=T _ _ γ L a w hH;have k9:=hA;simp[JC]at k9;exact⟨BQ (some ⟨w.heap.size,0,none⟩) 3 3,w.alloc (BP #[J I ix,J I iy,J I iz] 3),by simp[JD,go_sem,h9,k9],(rA _ _).mpr ⟨w.heap.size,rfl,hH.glob.size,Cells.new w [J I ix,J I iy,J I iz] _⟩,fun j v _ h=>K j v _ _ (Jb w _) h,hH.glob.trans ((Jb w _).mono hH.glob.size)⟩)) ?_;refine Br _ (RV.dp (fun γ v L w hl h=>h) (fun γ L a w hH hl hA=>by have l0:L 30=true:=hA ⟨30,.data⟩ (by simp) rfl;have e0:=hH.slot 30 153 (by rw[<- hD];rfl) l0;have g0:=hH.holds 30 l0;rw[rA]at g0;exact⟨γ 30,by simp[JD,go_sem,e0],(vn _ _).mpr g0⟩)) ?_;exact RV.AllDo.nil
        ·intro γ a5 w5 L9 hL dU hH;have ha:=RV.held_act hH hL (by kernel_rfl) (by kernel_rfl);obtain⟨gl,m9,yg,yat⟩:∃ g9,γ 31 = BQ (some ⟨g9,0,none⟩) 3 3/\wr.heap.size<=g9/\Cells w5 g9 [J I ix,J I iy,J I iz]:=hH.holds 31 (hL 31 (by decide));have lw:=hH.glob;rw[ha];clear ha hH hL dU;simp only[RV.putAll,Act.put,JH,JG,JF,Nat.zero_add,Nat.reduceAdd];rw[m9];have hB8:BU _:=Jc hB7.out lw;have YAT:BU _:=yat;clear m9 yg yat lw;go_wp2_with (fail);go_meet
         case rel=>exact⟨gl,rfl,YAT,hB8⟩
 case rest =>
  obtain⟨gl,rfl,BL,HB⟩:=hcut;have hD:BU _:=Jc hD.out HB.out;have D2:BU _:=Cells.step D2.out HB.out;have u0:=(Cells.step BW.out HB.out 0 _ rfl).1;clear c0 c1 D1 BC LP BW dj;go_upto_region 30 with fail;clear u0;have l0_:=(BL.out 0 _ rfl).1;have l1_:=(BL.out 1 _ rfl).1;have l2_:=(BL.out 2 _ rfl).1;have ot:=(D2.out 0 _ rfl).1;have t0_:=(D2.out 0 _ rfl).2;have ov:=(D2.out 1 _ rfl).1;have t1_:=(D2.out 1 _ rfl).2;have ow:=(D2.out 2 _ rfl).1;have t2_:=(D2.out 2 _ rfl).2;have oA:=(D2.out 3 _ rfl).1;have t3_:=(D2.out 3 _ rfl).2;refine Bq [.some (J I m),.some (BQ (some ⟨gl,0,none⟩) 3 3),.some (BO (some ⟨gl,0,none⟩)),.some (J I ix),.some (J I jx),.some (BQ (some ⟨gl,0,none⟩) 3 3),.some (BO (some ⟨gl,1,none⟩)),.some (J I iy),.some (J I jy),.some (BQ (some ⟨gl,0,none⟩) 3 3),.some (BO (some ⟨gl,2,none⟩)),.some (J I iz),.some (J I jz),.some (B_ #[J I jx,J I jy,J I jz]),.some (B_ #[J I m,J I jx,J I jy,J I jz]),none,.some (J I 0)] [160,161,162,163,164,165,166,167,168,169,170,171,172,173,174,0,6] [(1,J I m),(4,BO (some ⟨br,0,none⟩)),(9,BQ (some ⟨gl,0,none⟩) 3 3)] (fun γ L w9=>(L 15=false/\B9 wc.heap.size wc w9)\/(L 15=true/\∃ w,B9 wc.heap.size wc w/\w9=((((w.setCell ⟨br,0,none⟩ (J I m)).setCell ⟨br,1,none⟩ (J I jx)).setCell ⟨br,2,none⟩ (J I jy)).setCell ⟨br,3,none⟩ (J I jz)))) ⟨rfl,rfl,rfl,trivial⟩ ?_ ?_ ?_
  ·exact Or.inl ⟨rfl,(Below.refl _ wc).drew⟩
  ·intro D WA Z hD ah hZ T;simp only[RV.Outs,RV.Slots,Nat.reduceAdd]at T
   iterate 15 first
    |(refine Br _ (Bs T (fun γ v L w hl h=>by rw[Bt (L:=L) (i:=_) (j:=15) (by decide)];exact h) (fun γ L a w hH hl h9 k9=>⟨_,?_,rfl⟩)) ?_;· simp[JD,go_sem,h9])
    |(refine Br _ (Bs T (fun γ v L w hl h=>by rw[Bt (L:=L) (i:=_) (j:=15) (by decide)];exact h) (fun γ L a w hH hl h9 k9=>⟨_,?_,rfl⟩)) ?_;· simp[JC]at k9;simp[JD,go_sem,h9,k9])
    |(refine Br _ (Bs T (fun γ v L w hl h=>by rw[Bt (L:=L) (i:=_) (j:=15) (by decide)];exact h) (fun γ L a w hH hl h9 k9=>⟨_,?_,rfl⟩)) ?_;· simp[JC]at k9;simp[go_sem,h9,k9,xx,xA,lv])
    |(refine Br _ (Bs T (fun γ v L w hl h=>by rw[Bt (L:=L) (i:=_) (j:=15) (by decide)];exact h) (fun γ L a w hH hl h9 k9=>⟨_,?_,rfl⟩)) ?_;· have ai:=Jaw hH.glob (Bu hH (Bv (j:=15) ah (by kernel_rfl)) hl);have v0:=Ja ai l0_;simp[JC]at k9;simp[JD,go_sem,h9,k9,v0])
    |(refine Br _ (Bs T (fun γ v L w hl h=>by rw[Bt (L:=L) (i:=_) (j:=15) (by decide)];exact h) (fun γ L a w hH hl h9 k9=>⟨_,?_,rfl⟩)) ?_;· have ai:=Jaw hH.glob (Bu hH (Bv (j:=15) ah (by kernel_rfl)) hl);have v0:=Ja ai l1_;simp[JC]at k9;simp[JD,go_sem,h9,k9,v0])
    |(refine Br _ (Bs T (fun γ v L w hl h=>by rw[Bt (L:=L) (i:=_) (j:=15) (by decide)];exact h) (fun γ L a w hH hl h9 k9=>⟨_,?_,rfl⟩)) ?_;· have ai:=Jaw hH.glob (Bu hH (Bv (j:=15) ah (by kernel_rfl)) hl);have v0:=Ja ai l2_;simp[JC]at k9;simp[JD,go_sem,h9,k9,v0])
   refine Br _ (Bz (fun γ L a w hH hl hA=>by have h9:=T γ L a w hH;have k9:=hA;simp[JC]at k9;have ai:=Jaw hH.glob hl;have z0:=Ja ai ot;have cX:=Jm ai ot t0_;have z1:=Ja ai ov;have cY:=Jm ai ov t1_;have z2:=Ja ai ow;have cZ:=Jm ai ow t2_;have z3:=Ja ai oA;have nI:=Jm ai oA t3_;exact⟨((((w.setCell ⟨br,0,none⟩ (J I m)).setCell ⟨br,1,none⟩ (J I jx)).setCell ⟨br,2,none⟩ (J I jy)).setCell ⟨br,3,none⟩ (J I jz)),by simp[JD,go_sem,z0,cX,z1,cY,z2,cZ,z3,nI,h9,k9],trivial,fun j v _ h=>h.keep _,Or.inr ⟨BD,w,ai,rfl⟩⟩)) ?_
   (refine Br _ (Bs T (fun γ v L w hl h=>by rw[Bt (L:=L) (i:=_) (j:=15) (by decide)];exact h) (fun γ L a w hH hl h9 k9=>⟨_,?_,rfl⟩)) ?_;· simp[JD,go_sem])
   exact RV.AllDo.nil
  ·intro γ w5 L9 hL aX aD;obtain⟨w8,bB,rfl⟩:=Jl8 aD (hL 15 (by decide));clear hL aX aD;simp only[RV.putL,Act.put,JH,JG,JF];have E2:Cells ((((w8.setCell ⟨br,0,none⟩ (J I m)).setCell ⟨br,1,none⟩ (J I jx)).setCell ⟨br,2,none⟩ (J I jy)).setCell ⟨br,3,none⟩ (J I jz)) br [J I m,J I jx,J I jy,J I jz]:=Cells.set (Cells.set (Cells.set (Cells.set (Cells.step D2.out bB) 0 (J I m) (by simp)) 1 (J I jx) (by simp)) 2 (J I jy) (by simp)) 3 (J I jz) (by simp);have hE:BU (B9 w0.heap.size w0 ((((w8.setCell ⟨br,0,none⟩ (J I m)).setCell ⟨br,1,none⟩ (J I jx)).setCell ⟨br,2,none⟩ (J I jy)).setCell ⟨br,3,none⟩ (J I jz))):=((((Jc hD.out bB).setCell iW _).setCell iW _).setCell iW _).setCell iW _;generalize(((w8.setCell ⟨br,0,none⟩ (J I m)).setCell ⟨br,1,none⟩ (J I jx)).setCell ⟨br,2,none⟩ (J I jy)).setCell ⟨br,3,none⟩ (J I jz)=Xe at *;have r0:=(E2 0 _ rfl).1;have r1:=(E2 1 _ rfl).1;have r2:=(E2 2 _ rfl).1;have r3:=(E2 3 _ rfl).1;go_wp2_with (fail);refine bodyPost_ret (v:=.tuple #[B_ #[J I m,J I jx,J I jy,J I jz],J I 0]) (by simp[results,results27,go_sem,r0,r1,r2,r3]) rfl ⟨rfl,hE.out⟩
end
section
open Go.RowKit Ref Fx
def Sl(po:Nat)(zs:List Int)(v:B7)(w:BV):Prop:=∃ g,v = BQ (some ⟨g,0,none⟩) 2 2/\g≠po/\∀ k,k<zs.length->w.cell? ⟨g,k,none⟩=some (J I (zs.getD k 0))
theorem Sl.alloc{po:Nat}{zs:List Int}{v:B7}{w:BV}(h:Sl po zs v w)(o:Obj):Sl po zs v (w.alloc o):=by
 obtain⟨g,h1,h2,h3⟩:=h;exact⟨g,h1,h2,fun k hk=>Jf (Jd w o) (h3 k hk)⟩
theorem Sl.after{po:Nat}{zs:List Int}{v:B7}{w w':BV}{f:Bool}(h:Sl po zs v w)(A:After ⟨po,0,none⟩ f w w'):Sl po zs v w':=by
 obtain⟨g,h1,h2,h3⟩:=h;exact⟨g,h1,h2,fun k hk=>A.cellOf (h3 k hk) h2⟩
theorem Sl.new{po:Nat}{x y:Int}{u:B7}{w:BV}(h:w.cell? ⟨po,0,none⟩=some u):Sl po [x,y] (BQ (some ⟨w.heap.size,0,none⟩) 2 2) (w.alloc (BP #[J I x,J I y] 3)):=by
 have aG:=JB _ _ h;refine⟨w.heap.size,rfl,fun e=>by rw[e]at aG;exact Nat.lt_irrefl _ aG,fun k hk=>?_⟩
 match k,hk with
 | 0,_=>simp[go_sem]
 | 1,_=>simp[go_sem]
theorem Jg6{w:BV}{g:Nat}{zs:List Int}(h:∀ k,k<zs.length->w.cell? ⟨g,k,none⟩=some (J I (zs.getD k 0))):Jc2 w (some ⟨g,0,none⟩) zs:=
 Or.inr ⟨g,0,rfl,fun k hk=>by rw[Nat.zero_add];exact h k hk⟩
theorem Ju2{g0 a b:Bool}:((g0 ||(false&&a)||b)||a)=(g0 ||(true&&a)||b):=by cases g0 <;> cases a <;> cases b <;> rfl
theorem Jvb{g0 a b:Bool}:((g0||a ||(false&&b))||b)=(g0||a ||(true&&b)):=by cases g0 <;> cases a <;> cases b <;> rfl
theorem Jl9{f g1 g2 g3:Bool}{x0 x1 x2 y0 y1 y2:Int}
  (h1:g1=(false ||(true&&(sub 0 y1).isNone) ||(true&&(dot [x1,x2] [y2,(sub 0 y1).getD 0]).isNone)))
  (h2:g2=(g1 ||(true&&(sub 0 y2).isNone) ||(true&&(dot [x2,x0] [y0,(sub 0 y2).getD 0]).isNone)))
  (h3:g3=(g2 ||(true&&(sub 0 y0).isNone) ||(true&&(dot [x0,x1] [y1,(sub 0 y0).getD 0]).isNone))) :
  Jco f (dot [x1,x2] [y2,-y1]) (dot [x2,x0] [y0,-y2]) (dot [x0,x1] [y1,-y0]) (cond g3 0 ((dot [x1,x2] [y2,(sub 0 y1).getD 0]).getD 0)) (cond g3 0 ((dot [x2,x0] [y0,(sub 0 y2).getD 0]).getD 0)) (cond g3 0 ((dot [x0,x1] [y1,(sub 0 y0).getD 0]).getD 0)) (f||g3):=by
 refine Ji2 (g0:=(false ||((sub 0 y0).isNone ||(sub 0 y1).isNone ||(sub 0 y2).isNone))) rfl ?_;rw[h3,h2,h1];generalize(sub 0 y0).isNone=a;generalize(sub 0 y1).isNone=b;generalize(sub 0 y2).isNone=c;generalize(dot [x1,x2] [y2,(sub 0 y1).getD 0]).isNone=d;generalize(dot [x2,x0] [y0,(sub 0 y2).getD 0]).isNone=e;generalize(dot [x0,x1] [y1,(sub 0 y0).getD 0]).isNone=f;cases a <;> cases b <;> cases c <;> cases d <;> cases e <;> cases f <;> rfl
theorem Jm0(b off:Nat)(f:Bool)(x0 x1 x2 y0 y1 y2:Int)(W:BV)(hc:W.cell? ⟨b,off,none⟩=some (BT f))(hf:W.frozen? ⟨b,off,none⟩=false):
  Cd Tryz.prog 108 #[BO (some ⟨b,off,none⟩),B_ #[J I x0,J I x1,J I x2],B_ #[J I y0,J I y1,J I y2]] W fun e W'=>∃ v0 v1 v2 g,e = BZ (B_ #[J I v0,J I v1,J I v2])/\BU (Jco f (dot [x1,x2] [y2,-y1]) (dot [x2,x0] [y0,-y2]) (dot [x0,x1] [y1,-y0]) v0 v1 v2 g)/\BU (After ⟨b,off,none⟩ g W W'):=by
 have aO:b<W.heap.size:=JB _ _ hc;go_enter func108,ntmps108;go_wp2_with (fail);refine(Jbm _).mono ?_;rintro e W1 ⟨rfl,rfl⟩;obtain⟨U,hU⟩:∃ U,U=((((W.alloc (BP #[J I x0,J I x1,J I x2] 27)).alloc (BP #[J I y0,J I y1,J I y2] 27)).alloc (BP #[J I 0,J I 0,J I 0] 27)).alloc (BP #[BT false] 57)):=⟨_,rfl⟩
 obtain⟨pa,aU⟩:∃ p,p=W.heap.size:=⟨_,rfl⟩
 obtain⟨pb,aF⟩:∃ p,p=W.heap.size+1:=⟨_,rfl⟩
 obtain⟨pr,aB⟩:∃ p,p=W.heap.size+1+1:=⟨_,rfl⟩
 obtain⟨po,aV⟩:∃ p,p=W.heap.size+1+1+1:=⟨_,rfl⟩
 have H:BU (Ho W U ⟨b,off,none⟩ po f false [(⟨pa,0,none⟩,J I x0),(⟨pa,1,none⟩,J I x1),(⟨pa,2,none⟩,J I x2),(⟨pb,0,none⟩,J I y0),(⟨pb,1,none⟩,J I y1),(⟨pb,2,none⟩,J I y2),(⟨pr,0,none⟩,J I 0),(⟨pr,1,none⟩,J I 0),(⟨pr,2,none⟩,J I 0)]):=by
  refine⟨by rw[hU];exact(((((Leaves.refl _ _).alloc _).alloc _).alloc _).alloc _),by rw[hU,World.cell?_alloc_past _ _ _ (by simp;omega),World.cell?_alloc_past _ _ _ (by simp;omega),World.cell?_alloc_past _ _ _ (by simp;omega),World.cell?_alloc_past _ _ _ aO];exact hc,by rw[hU,((Jd _ _).frozen (by simp;omega)),((Jd _ _).frozen (by simp;omega)),((Jd _ _).frozen (by simp;omega)),((Jd _ _).frozen aO)];exact hf,by rw[hU,aV];simp[go_sem],by rw[hU,aV];simp[go_sem],?_,?_,aO,by omega⟩
  ·intro c hc;simp only[List.mem_cons,List.not_mem_nil,or_false]at hc;rcases hc with rfl | rfl | rfl | rfl | rfl | rfl | rfl | rfl | rfl <;> rw[hU] <;> dsimp only <;> first |(rw[aU];exact⟨by simp[go_sem],by simp[go_sem]⟩) |(rw[aF];exact⟨by simp[go_sem],by simp[go_sem]⟩) |(rw[aB];exact⟨by simp[go_sem],by simp[go_sem]⟩)
  ·intro c hc;simp only[List.mem_cons,List.not_mem_nil,or_false]at hc;rcases hc with rfl | rfl | rfl | rfl | rfl | rfl | rfl | rfl | rfl <;> (dsimp only) <;> omega
 rw[<- hU];simp only[World.size_alloc];rw[<- aV,<- aB,<- aF,<- aU];have q1:pa<pb:=by omega
 have q2:pb<pr:=by omega
 have q3:pr<po:=by omega
 have q0:W.heap.size<=pa:=by omega
 clear hU hc hf aU aF aB aV;go_upto_region 2 with fail;go_cut [8] from 12 (fun s wx=>s=J I ((dot [x1,x2] [y2,(sub 0 y1).getD 0]).getD 0)/\BU (Ho W wx ⟨b,off,none⟩ po f (false ||(true&&(sub 0 y1).isNone) ||(true&&(dot [x1,x2] [y2,(sub 0 y1).getD 0]).isNone)) [(⟨pa,0,none⟩,J I x0),(⟨pa,1,none⟩,J I x1),(⟨pa,2,none⟩,J I x2),(⟨pb,0,none⟩,J I y0),(⟨pb,1,none⟩,J I y1),(⟨pb,2,none⟩,J I y2),(⟨pr,0,none⟩,J I 0),(⟨pr,1,none⟩,J I 0),(⟨pr,2,none⟩,J I 0)]))
 case first =>
  refine RV.region_by (fun j v w=>match j with | 0=>v = BO (some ⟨po,0,none⟩) | 1=>v = BO (some ⟨pa,1,none⟩) | 2=>v=J I x1 | 3=>v = BO (some ⟨pa,2,none⟩) | 4=>v=J I x2 | 5=>(fun v w=>Sl po [x1,x2] v w) v w | 6=>v = BO (some ⟨pb,2,none⟩) | 7=>v=J I y2 | 8=>v = BO (some ⟨po,0,none⟩) | 9=>v = BO (some ⟨pb,1,none⟩) | 10=>v=J I y1 | 11=>v=J I ((sub 0 y1).getD 0) | 12=>(fun v w=>Sl po [y2,(sub 0 y1).getD 0] v w) v w | 13=>v=J I ((dot [x1,x2] [y2,(sub 0 y1).getD 0]).getD 0) | 14=>v=J I ((dot [x1,x2] [y2,(sub 0 y1).getD 0]).getD 0) | _=>True) (fun γ L V=>Ho W V ⟨b,off,none⟩ po f (false ||(L 11&&(sub 0 y1).isNone) ||(L 13&&(dot [x1,x2] [y2,(sub 0 y1).getD 0]).isNone)) [(⟨pa,0,none⟩,J I x0),(⟨pa,1,none⟩,J I x1),(⟨pa,2,none⟩,J I x2),(⟨pb,0,none⟩,J I y0),(⟨pb,1,none⟩,J I y1),(⟨pb,2,none⟩,J I y2),(⟨pr,0,none⟩,J I 0),(⟨pr,1,none⟩,J I 0),(⟨pr,2,none⟩,J I 0)]) (by kernel_rfl) (by kernel_rfl) (by kernel_rfl) (by kernel_rfl) ?_ ?_ ?_
  ·have h9:=H.out.drew;simp only[Bool.false_and,Bool.or_false];exact h9
  ·generalize hD:Jam _=D;generalize ah:Jai _=WA;generalize hZ:Act.mk _ _=Z;refine RV.AllDo.name ?_;intro R hR;have kn:RV.Kn R [.some (BO (some ⟨po,0,none⟩)),.some (BO (some ⟨pa,1,none⟩)),.some (J I x1),.some (BO (some ⟨pa,2,none⟩)),.some (J I x2),none,.some (BO (some ⟨pb,2,none⟩)),.some (J I y2),.some (BO (some ⟨po,0,none⟩)),.some (BO (some ⟨pb,1,none⟩)),.some (J I y1),.some (J I ((sub 0 y1).getD 0)),none,.some (J I ((dot [x1,x2] [y2,(sub 0 y1).getD 0]).getD 0)),.some (J I ((dot [x1,x2] [y2,(sub 0 y1).getD 0]).getD 0))] 0:=by rw[hR];exact⟨fun _ _=>Iff.rfl,fun _ _=>Iff.rfl,fun _ _=>Iff.rfl,fun _ _=>Iff.rfl,fun _ _=>Iff.rfl,fun _ _=>Iff.rfl,fun _ _=>Iff.rfl,fun _ _=>Iff.rfl,fun _ _=>Iff.rfl,fun _ _=>Iff.rfl,fun _ _=>Iff.rfl,fun _ _=>Iff.rfl,fun _ _=>Iff.rfl,trivial⟩
   have T:=RV.kfacts [14,15,16,17,18,19,20,21,22,23,24,25,26,27,9] [(4,BO (some ⟨pa,0,none⟩)),(5,BO (some ⟨pb,0,none⟩)),(7,BO (some ⟨po,0,none⟩))] hD hZ kn ⟨rfl,rfl,rfl,trivial⟩ (by kernel_rfl) (by kernel_rfl);simp only[RV.Outs,RV.Slots,Nat.reduceAdd]at T;have r5:∀ v w,R 5 v w=((fun v w=>Sl po [x1,x2] v w) v w):=fun v w=>by rw[hR];rfl
   have kQ:∀ v w,R 12 v w=((fun v w=>Sl po [y2,(sub 0 y1).getD 0] v w) v w):=fun v w=>by rw[hR];rfl
   have K1:∀ j v w o,R j v w->R j v (World.alloc w o):=by
    rw[hR];intro j v w o h
    revert h
    dsimp only
    split
    all_goals first | exact id | exact fun h=>Sl.alloc h o
   have K2:∀ j v w w' g,After ⟨po,0,none⟩ g w w'->R j v w->R j v w':=by
    rw[hR];intro j v w w' g A h
    revert h
    dsimp only
    split
    all_goals first | exact id | exact fun h=>Sl.after h A
   iterate 5 first
    |(refine Br _ (BK kn T (fun γ v L w hl h=>by rw[Bt (L:=L) (i:=_) (j:=11) (by decide),Bt (L:=L) (i:=_) (j:=13) (by decide)];exact h) (fun γ L a w hH hl h9 k9=>⟨_,?_,rfl⟩)) ?_;· simp[JD,go_sem,h9])
    |(refine Br _ (BK kn T (fun γ v L w hl h=>by rw[Bt (L:=L) (i:=_) (j:=11) (by decide),Bt (L:=L) (i:=_) (j:=13) (by decide)];exact h) (fun γ L a w hH hl h9 k9=>⟨_,?_,rfl⟩)) ?_;· have z:=(hH.glob.fix (⟨pa,1,none⟩,J I x1) (by simp)).1;simp[JC]at k9;simp[JD,go_sem,h9,k9,z])
    |(refine Br _ (BK kn T (fun γ v L w hl h=>by rw[Bt (L:=L) (i:=_) (j:=11) (by decide),Bt (L:=L) (i:=_) (j:=13) (by decide)];exact h) (fun γ L a w hH hl h9 k9=>⟨_,?_,rfl⟩)) ?_;· have z:=(hH.glob.fix (⟨pa,2,none⟩,J I x2) (by simp)).1;simp[JC]at k9;simp[JD,go_sem,h9,k9,z])
   refine Br _ (BJ (fun γ L a w hH hl hA=>by have h9:=T _ _ γ L a w hH;have k9:=hA;simp[JC]at k9;exact⟨BQ (some ⟨w.heap.size,0,none⟩) 2 2,w.alloc (BP #[J I x1,J I x2] 3),by simp[JD,go_sem,h9,k9],(r5 _ _).mpr (Sl.new hH.glob.own),fun j v _ h=>K1 j v _ _ h,by rw[Bt (L:=L) (i:=5) (j:=11) (by decide),Bt (L:=L) (i:=5) (j:=13) (by decide)];exact hH.glob.alloc _⟩)) ?_
   iterate 5 first
    |(refine Br _ (BK kn T (fun γ v L w hl h=>by rw[Bt (L:=L) (i:=_) (j:=11) (by decide),Bt (L:=L) (i:=_) (j:=13) (by decide)];exact h) (fun γ L a w hH hl h9 k9=>⟨_,?_,rfl⟩)) ?_;· simp[JD,go_sem,h9])
    |(refine Br _ (BK kn T (fun γ v L w hl h=>by rw[Bt (L:=L) (i:=_) (j:=11) (by decide),Bt (L:=L) (i:=_) (j:=13) (by decide)];exact h) (fun γ L a w hH hl h9 k9=>⟨_,?_,rfl⟩)) ?_;· have z:=(hH.glob.fix (⟨pb,2,none⟩,J I y2) (by simp)).1;simp[JC]at k9;simp[JD,go_sem,h9,k9,z])
    |(refine Br _ (BK kn T (fun γ v L w hl h=>by rw[Bt (L:=L) (i:=_) (j:=11) (by decide),Bt (L:=L) (i:=_) (j:=13) (by decide)];exact h) (fun γ L a w hH hl h9 k9=>⟨_,?_,rfl⟩)) ?_;· have z:=(hH.glob.fix (⟨pb,1,none⟩,J I y1) (by simp)).1;simp[JC]at k9;simp[JD,go_sem,h9,k9,z])
   refine Br _ (Bw (fun γ L a w hH hl hA=>by have h9:=T _ _ γ L a w hH;have k9:=hA;simp[JC]at k9;refine⟨67,#[BO (some ⟨po,0,none⟩),J I 0,J I y1],by simp[go_sem,h9,k9],JA (Jbv po 0 _ 0 y1 w hH.glob.own hH.glob.ownf) ?_⟩;rintro e w2 ⟨v,g,rfl,SS,A⟩;obtain⟨rfl,rfl⟩:=SS.out;exact⟨_,rfl,((kn.at (k:=11) rfl _ _).2 rfl),fun j v _ h=>K2 j v _ _ _ A.out h,by have h9:=hH.glob.after A.out;rw[hl]at h9;rw[BD,Bt (L:=L) (i:=11) (j:=13) (by decide)];rw[Ju2]at h9;exact h9⟩)) ?_;refine Br _ (BJ (fun γ L a w hH hl hA=>by have h9:=T _ _ γ L a w hH;have k9:=hA;simp[JC]at k9;exact⟨BQ (some ⟨w.heap.size,0,none⟩) 2 2,w.alloc (BP #[J I y2,J I ((sub 0 y1).getD 0)] 3),by simp[JD,go_sem,h9,k9],(kQ _ _).mpr (Sl.new hH.glob.own),fun j v _ h=>K1 j v _ _ h,by rw[Bt (L:=L) (i:=12) (j:=11) (by decide),Bt (L:=L) (i:=12) (j:=13) (by decide)];exact hH.glob.alloc _⟩)) ?_;refine Br _ (Bw (fun γ L a w hH hl hA=>by have h9:=T _ _ γ L a w hH;have k9:=hA;simp[JC]at k9;have l1:L 5=true:=hA ⟨5,.data⟩ (by simp) rfl;have l2:L 12=true:=hA ⟨12,.data⟩ (by simp) rfl;have e1:=hH.slot 5 18 (by rw[<- hD];rfl) l1;have g1:=hH.holds 5 l1;rw[r5]at g1;have e2:=hH.slot 12 25 (by rw[<- hD];rfl) l2;have g2:=hH.holds 12 l2;rw[kQ]at g2;obtain⟨s1,q1,c1⟩:=g1;obtain⟨s2,q2,c2⟩:=g2;rw[q1]at e1;rw[q2]at e2;refine⟨163,#[BO (some ⟨po,0,none⟩),BQ (some ⟨s1,0,none⟩) 2 2,BQ (some ⟨s2,0,none⟩) 2 2],by simp[go_sem,e1,e2,h9,k9],JA (Jch po 0 _ [x1,x2] [y2,(sub 0 y1).getD 0] _ _ 2 2 w hH.glob.own hH.glob.ownf (by simp) (by simp) (Jg6 c1.2) (Jg6 c2.2)) ?_⟩;rintro e w2 ⟨v,g,rfl,SS,A⟩;obtain⟨rfl,rfl⟩:=SS.out;exact⟨_,rfl,((kn.at (k:=13) rfl _ _).2 rfl),fun j v _ h=>K2 j v _ _ _ A.out h,by have h9:=hH.glob.after A.out;rw[hl]at h9;rw[BD,Bt (L:=L) (i:=13) (j:=11) (by decide)];rw[Jvb]at h9;exact h9⟩)) ?_
   (refine Br _ (BK kn T (fun γ v L w hl h=>by rw[Bt (L:=L) (i:=_) (j:=11) (by decide),Bt (L:=L) (i:=_) (j:=13) (by decide)];exact h) (fun γ L a w hH hl h9 k9=>⟨_,?_,rfl⟩)) ?_;· simp[JC]at k9;simp[JD,go_sem,h9,k9])
   exact RV.AllDo.nil
  ·intro γ a5 w5 L9 hL dU hH;have ha:=RV.held_act hH hL (by kernel_rfl) (by kernel_rfl);have hG:=hH.glob;rw[hL 11 (by decide),hL 13 (by decide)]at hG;have rF:γ 14=J I ((dot [x1,x2] [y2,(sub 0 y1).getD 0]).getD 0):=hH.holds 14 (hL 14 (by decide));rw[ha];clear ha hH hL dU;simp only[RV.putAll,Act.put,JH,JG,JF,Nat.zero_add,Nat.reduceAdd];rw[rF];go_wp2_with (fail);go_meet
   case rel=>exact⟨rfl,hG⟩
 case rest =>
  clear H;obtain⟨rfl,H⟩:=hcut;obtain⟨xI,oX⟩:∃ g:Bool,g=(false ||(true&&(sub 0 y1).isNone) ||(true&&(dot [x1,x2] [y2,(sub 0 y1).getD 0]).isNone)):=⟨_,rfl⟩
  rw[<- oX]at H;go_upto_region 3 with fail;go_cut [9] from 12 (fun s wx=>s=J I ((dot [x2,x0] [y0,(sub 0 y2).getD 0]).getD 0)/\BU (Ho W wx ⟨b,off,none⟩ po f (xI ||(true&&(sub 0 y2).isNone) ||(true&&(dot [x2,x0] [y0,(sub 0 y2).getD 0]).isNone)) [(⟨pa,0,none⟩,J I x0),(⟨pa,1,none⟩,J I x1),(⟨pa,2,none⟩,J I x2),(⟨pb,0,none⟩,J I y0),(⟨pb,1,none⟩,J I y1),(⟨pb,2,none⟩,J I y2),(⟨pr,0,none⟩,J I 0),(⟨pr,1,none⟩,J I 0),(⟨pr,2,none⟩,J I 0)]))
  case first =>
   refine RV.region_by (fun j v w=>match j with | 0=>v = BO (some ⟨po,0,none⟩) | 1=>v = BO (some ⟨pa,2,none⟩) | 2=>v=J I x2 | 3=>v = BO (some ⟨pa,0,none⟩) | 4=>v=J I x0 | 5=>(fun v w=>Sl po [x2,x0] v w) v w | 6=>v = BO (some ⟨pb,0,none⟩) | 7=>v=J I y0 | 8=>v = BO (some ⟨po,0,none⟩) | 9=>v = BO (some ⟨pb,2,none⟩) | 10=>v=J I y2 | 11=>v=J I ((sub 0 y2).getD 0) | 12=>(fun v w=>Sl po [y0,(sub 0 y2).getD 0] v w) v w | 13=>v=J I ((dot [x2,x0] [y0,(sub 0 y2).getD 0]).getD 0) | 14=>v=J I ((dot [x2,x0] [y0,(sub 0 y2).getD 0]).getD 0) | _=>True) (fun γ L V=>Ho W V ⟨b,off,none⟩ po f (xI ||(L 11&&(sub 0 y2).isNone) ||(L 13&&(dot [x2,x0] [y0,(sub 0 y2).getD 0]).isNone)) [(⟨pa,0,none⟩,J I x0),(⟨pa,1,none⟩,J I x1),(⟨pa,2,none⟩,J I x2),(⟨pb,0,none⟩,J I y0),(⟨pb,1,none⟩,J I y1),(⟨pb,2,none⟩,J I y2),(⟨pr,0,none⟩,J I 0),(⟨pr,1,none⟩,J I 0),(⟨pr,2,none⟩,J I 0)]) (by kernel_rfl) (by kernel_rfl) (by kernel_rfl) (by kernel_rfl) ?_ ?_ ?_
   ·have h9:=H.out.drew;simp only[Bool.false_and,Bool.or_false];exact h9
   ·generalize hD:Jam _=D;generalize ah:Jai _=WA;generalize hZ:Act.mk _ _=Z;refine RV.AllDo.name ?_;intro R hR;have kn:RV.Kn R [.some (BO (some ⟨po,0,none⟩)),.some (BO (some ⟨pa,2,none⟩)),.some (J I x2),.some (BO (some ⟨pa,0,none⟩)),.some (J I x0),none,.some (BO (some ⟨pb,0,none⟩)),.some (J I y0),.some (BO (some ⟨po,0,none⟩)),.some (BO (some ⟨pb,2,none⟩)),.some (J I y2),.some (J I ((sub 0 y2).getD 0)),none,.some (J I ((dot [x2,x0] [y0,(sub 0 y2).getD 0]).getD 0)),.some (J I ((dot [x2,x0] [y0,(sub 0 y2).getD 0]).getD 0))] 0:=by rw[hR];exact⟨fun _ _=>Iff.rfl,fun _ _=>Iff.rfl,fun _ _=>Iff.rfl,fun _ _=>Iff.rfl,fun _ _=>Iff.rfl,fun _ _=>Iff.rfl,fun _ _=>Iff.rfl,fun _ _=>Iff.rfl,fun _ _=>Iff.rfl,fun _ _=>Iff.rfl,fun _ _=>Iff.rfl,fun _ _=>Iff.rfl,fun _ _=>Iff.rfl,trivial⟩
    have T:=RV.kfacts [28,29,30,31,32,33,34,35,36,37,38,39,40,41,10] [(4,BO (some ⟨pa,0,none⟩)),(5,BO (some ⟨pb,0,none⟩)),(7,BO (some ⟨po,0,none⟩))] hD hZ kn ⟨rfl,rfl,rfl,trivial⟩ (by kernel_rfl) (by kernel_rfl);simp only[RV.Outs,RV.Slots,Nat.reduceAdd]at T;have r5:∀ v w,R 5 v w=((fun v w=>Sl po [x2,x0] v w) v w):=fun v w=>by rw[hR];rfl
    have kQ:∀ v w,R 12 v w=((fun v w=>Sl po [y0,(sub 0 y2).getD 0] v w) v w):=fun v w=>by rw[hR];rfl
    have K1:∀ j v w o,R j v w->R j v (World.alloc w o):=by
     rw[hR];intro j v w o h
     revert h
     dsimp only
     split
     all_goals first | exact id | exact fun h=>Sl.alloc h o
    have K2:∀ j v w w' g,After ⟨po,0,none⟩ g w w'->R j v w->R j v w':=by
     rw[hR];intro j v w w' g A h
     revert h
     dsimp only
     split
     all_goals first | exact id | exact fun h=>Sl.after h A
    iterate 5 first
     |(refine Br _ (BK kn T (fun γ v L w hl h=>by rw[Bt (L:=L) (i:=_) (j:=11) (by decide),Bt (L:=L) (i:=_) (j:=13) (by decide)];exact h) (fun γ L a w hH hl h9 k9=>⟨_,?_,rfl⟩)) ?_;· simp[JD,go_sem,h9])
     |(refine Br _ (BK kn T (fun γ v L w hl h=>by rw[Bt (L:=L) (i:=_) (j:=11) (by decide),Bt (L:=L) (i:=_) (j:=13) (by decide)];exact h) (fun γ L a w hH hl h9 k9=>⟨_,?_,rfl⟩)) ?_;· have z:=(hH.glob.fix (⟨pa,2,none⟩,J I x2) (by simp)).1;simp[JC]at k9;simp[JD,go_sem,h9,k9,z])
     |(refine Br _ (BK kn T (fun γ v L w hl h=>by rw[Bt (L:=L) (i:=_) (j:=11) (by decide),Bt (L:=L) (i:=_) (j:=13) (by decide)];exact h) (fun γ L a w hH hl h9 k9=>⟨_,?_,rfl⟩)) ?_;· have z:=(hH.glob.fix (⟨pa,0,none⟩,J I x0) (by simp)).1;simp[JC]at k9;simp[JD,go_sem,h9,k9,z])
    refine Br _ (BJ (fun γ L a w hH hl hA=>by have h9:=T _ _ γ L a w hH;have k9:=hA;simp[JC]at k9;exact⟨BQ (some ⟨w.heap.size,0,none⟩) 2 2,w.alloc (BP #[J I x2,J I x0] 3),by simp[JD,go_sem,h9,k9],(r5 _ _).mpr (Sl.new hH.glob.own),fun j v _ h=>K1 j v _ _ h,by rw[Bt (L:=L) (i:=5) (j:=11) (by decide),Bt (L:=L) (i:=5) (j:=13) (by decide)];exact hH.glob.alloc _⟩)) ?_
    iterate 5 first
     |(refine Br _ (BK kn T (fun γ v L w hl h=>by rw[Bt (L:=L) (i:=_) (j:=11) (by decide),Bt (L:=L) (i:=_) (j:=13) (by decide)];exact h) (fun γ L a w hH hl h9 k9=>⟨_,?_,rfl⟩)) ?_;· simp[JD,go_sem,h9])
     |(refine Br _ (BK kn T (fun γ v L w hl h=>by rw[Bt (L:=L) (i:=_) (j:=11) (by decide),Bt (L:=L) (i:=_) (j:=13) (by decide)];exact h) (fun γ L a w hH hl h9 k9=>⟨_,?_,rfl⟩)) ?_;· have z:=(hH.glob.fix (⟨pb,0,none⟩,J I y0) (by simp)).1;simp[JC]at k9;simp[JD,go_sem,h9,k9,z])
     |(refine Br _ (BK kn T (fun γ v L w hl h=>by rw[Bt (L:=L) (i:=_) (j:=11) (by decide),Bt (L:=L) (i:=_) (j:=13) (by decide)];exact h) (fun γ L a w hH hl h9 k9=>⟨_,?_,rfl⟩)) ?_;· have z:=(hH.glob.fix (⟨pb,2,none⟩,J I y2) (by simp)).1;simp[JC]at k9;simp[JD,go_sem,h9,k9,z])
    refine Br _ (Bw (fun γ L a w hH hl hA=>by have h9:=T _ _ γ L a w hH;have k9:=hA;simp[JC]at k9;refine⟨67,#[BO (some ⟨po,0,none⟩),J I 0,J I y2],by simp[go_sem,h9,k9],JA (Jbv po 0 _ 0 y2 w hH.glob.own hH.glob.ownf) ?_⟩;rintro e w2 ⟨v,g,rfl,SS,A⟩;obtain⟨rfl,rfl⟩:=SS.out;exact⟨_,rfl,((kn.at (k:=11) rfl _ _).2 rfl),fun j v _ h=>K2 j v _ _ _ A.out h,by have h9:=hH.glob.after A.out;rw[hl]at h9;rw[BD,Bt (L:=L) (i:=11) (j:=13) (by decide)];rw[Ju2]at h9;exact h9⟩)) ?_;refine Br _ (BJ (fun γ L a w hH hl hA=>by have h9:=T _ _ γ L a w hH;have k9:=hA;simp[JC]at k9;exact⟨BQ (some ⟨w.heap.size,0,none⟩) 2 2,w.alloc (BP #[J I y0,J I ((sub 0 y2).getD 0)] 3),by simp[JD,go_sem,h9,k9],(kQ _ _).mpr (Sl.new hH.glob.own),fun j v _ h=>K1 j v _ _ h,by rw[Bt (L:=L) (i:=12) (j:=11) (by decide),Bt (L:=L) (i:=12) (j:=13) (by decide)];exact hH.glob.alloc _⟩)) ?_;refine Br _ (Bw (fun γ L a w hH hl hA=>by have h9:=T _ _ γ L a w hH;have k9:=hA;simp[JC]at k9;have l1:L 5=true:=hA ⟨5,.data⟩ (by simp) rfl;have l2:L 12=true:=hA ⟨12,.data⟩ (by simp) rfl;have e1:=hH.slot 5 32 (by rw[<- hD];rfl) l1;have g1:=hH.holds 5 l1;rw[r5]at g1;have e2:=hH.slot 12 39 (by rw[<- hD];rfl) l2;have g2:=hH.holds 12 l2;rw[kQ]at g2;obtain⟨s1,q1,c1⟩:=g1;obtain⟨s2,q2,c2⟩:=g2;rw[q1]at e1;rw[q2]at e2;refine⟨163,#[BO (some ⟨po,0,none⟩),BQ (some ⟨s1,0,none⟩) 2 2,BQ (some ⟨s2,0,none⟩) 2 2],by simp[go_sem,e1,e2,h9,k9],JA (Jch po 0 _ [x2,x0] [y0,(sub 0 y2).getD 0] _ _ 2 2 w hH.glob.own hH.glob.ownf (by simp) (by simp) (Jg6 c1.2) (Jg6 c2.2)) ?_⟩;rintro e w2 ⟨v,g,rfl,SS,A⟩;obtain⟨rfl,rfl⟩:=SS.out;exact⟨_,rfl,((kn.at (k:=13) rfl _ _).2 rfl),fun j v _ h=>K2 j v _ _ _ A.out h,by have h9:=hH.glob.after A.out;rw[hl]at h9;rw[BD,Bt (L:=L) (i:=13) (j:=11) (by decide)];rw[Jvb]at h9;exact h9⟩)) ?_
    (refine Br _ (BK kn T (fun γ v L w hl h=>by rw[Bt (L:=L) (i:=_) (j:=11) (by decide),Bt (L:=L) (i:=_) (j:=13) (by decide)];exact h) (fun γ L a w hH hl h9 k9=>⟨_,?_,rfl⟩)) ?_;· simp[JC]at k9;simp[JD,go_sem,h9,k9])
    exact RV.AllDo.nil
   ·intro γ a5 w5 L9 hL dU hH;have ha:=RV.held_act hH hL (by kernel_rfl) (by kernel_rfl);have hG:=hH.glob;rw[hL 11 (by decide),hL 13 (by decide)]at hG;have rF:γ 14=J I ((dot [x2,x0] [y0,(sub 0 y2).getD 0]).getD 0):=hH.holds 14 (hL 14 (by decide));rw[ha];clear ha hH hL dU;simp only[RV.putAll,Act.put,JH,JG,JF,Nat.zero_add,Nat.reduceAdd];rw[rF];go_wp2_with (fail);go_meet
    case rel=>exact⟨rfl,hG⟩
  case rest =>
   clear H;obtain⟨rfl,H⟩:=hcut;obtain⟨xJ,oY⟩:∃ g:Bool,g=(xI ||(true&&(sub 0 y2).isNone) ||(true&&(dot [x2,x0] [y0,(sub 0 y2).getD 0]).isNone)):=⟨_,rfl⟩
   rw[<- oY]at H;go_upto_region 4 with fail;go_cut [10] from 12 (fun s wx=>s=J I ((dot [x0,x1] [y1,(sub 0 y0).getD 0]).getD 0)/\BU (Ho W wx ⟨b,off,none⟩ po f (xJ ||(true&&(sub 0 y0).isNone) ||(true&&(dot [x0,x1] [y1,(sub 0 y0).getD 0]).isNone)) [(⟨pa,0,none⟩,J I x0),(⟨pa,1,none⟩,J I x1),(⟨pa,2,none⟩,J I x2),(⟨pb,0,none⟩,J I y0),(⟨pb,1,none⟩,J I y1),(⟨pb,2,none⟩,J I y2),(⟨pr,0,none⟩,J I 0),(⟨pr,1,none⟩,J I 0),(⟨pr,2,none⟩,J I 0)]))
   case first =>
    refine RV.region_by (fun j v w=>match j with | 0=>v = BO (some ⟨po,0,none⟩) | 1=>v = BO (some ⟨pa,0,none⟩) | 2=>v=J I x0 | 3=>v = BO (some ⟨pa,1,none⟩) | 4=>v=J I x1 | 5=>(fun v w=>Sl po [x0,x1] v w) v w | 6=>v = BO (some ⟨pb,1,none⟩) | 7=>v=J I y1 | 8=>v = BO (some ⟨po,0,none⟩) | 9=>v = BO (some ⟨pb,0,none⟩) | 10=>v=J I y0 | 11=>v=J I ((sub 0 y0).getD 0) | 12=>(fun v w=>Sl po [y1,(sub 0 y0).getD 0] v w) v w | 13=>v=J I ((dot [x0,x1] [y1,(sub 0 y0).getD 0]).getD 0) | 14=>v=J I ((dot [x0,x1] [y1,(sub 0 y0).getD 0]).getD 0) | _=>True) (fun γ L V=>Ho W V ⟨b,off,none⟩ po f (xJ ||(L 11&&(sub 0 y0).isNone) ||(L 13&&(dot [x0,x1] [y1,(sub 0 y0).getD 0]).isNone)) [(⟨pa,0,none⟩,J I x0),(⟨pa,1,none⟩,J I x1),(⟨pa,2,none⟩,J I x2),(⟨pb,0,none⟩,J I y0),(⟨pb,1,none⟩,J I y1),(⟨pb,2,none⟩,J I y2),(⟨pr,0,none⟩,J I 0),(⟨pr,1,none⟩,J I 0),(⟨pr,2,none⟩,J I 0)]) (by kernel_rfl) (by kernel_rfl) (by kernel_rfl) (by kernel_rfl) ?_ ?_ ?_
    ·have h9:=H.out.drew;simp only[Bool.false_and,Bool.or_false];exact h9
    ·generalize hD:Jam _=D;generalize ah:Jai _=WA;generalize hZ:Act.mk _ _=Z;refine RV.AllDo.name ?_;intro R hR;have kn:RV.Kn R [.some (BO (some ⟨po,0,none⟩)),.some (BO (some ⟨pa,0,none⟩)),.some (J I x0),.some (BO (some ⟨pa,1,none⟩)),.some (J I x1),none,.some (BO (some ⟨pb,1,none⟩)),.some (J I y1),.some (BO (some ⟨po,0,none⟩)),.some (BO (some ⟨pb,0,none⟩)),.some (J I y0),.some (J I ((sub 0 y0).getD 0)),none,.some (J I ((dot [x0,x1] [y1,(sub 0 y0).getD 0]).getD 0)),.some (J I ((dot [x0,x1] [y1,(sub 0 y0).getD 0]).getD 0))] 0:=by rw[hR];exact⟨fun _ _=>Iff.rfl,fun _ _=>Iff.rfl,fun _ _=>Iff.rfl,fun _ _=>Iff.rfl,fun _ _=>Iff.rfl,fun _ _=>Iff.rfl,fun _ _=>Iff.rfl,fun _ _=>Iff.rfl,fun _ _=>Iff.rfl,fun _ _=>Iff.rfl,fun _ _=>Iff.rfl,fun _ _=>Iff.rfl,fun _ _=>Iff.rfl,trivial⟩
     have T:=RV.kfacts [42,43,44,45,46,47,48,49,50,51,52,53,54,55,11] [(4,BO (some ⟨pa,0,none⟩)),(5,BO (some ⟨pb,0,none⟩)),(7,BO (some ⟨po,0,none⟩))] hD hZ kn ⟨rfl,rfl,rfl,trivial⟩ (by kernel_rfl) (by kernel_rfl);simp only[RV.Outs,RV.Slots,Nat.reduceAdd]at T;have r5:∀ v w,R 5 v w=((fun v w=>Sl po [x0,x1] v w) v w):=fun v w=>by rw[hR];rfl
     have kQ:∀ v w,R 12 v w=((fun v w=>Sl po [y1,(sub 0 y0).getD 0] v w) v w):=fun v w=>by rw[hR];rfl
     have K1:∀ j v w o,R j v w->R j v (World.alloc w o):=by
      rw[hR];intro j v w o h
      revert h
      dsimp only
      split
      all_goals first | exact id | exact fun h=>Sl.alloc h o
     have K2:∀ j v w w' g,After ⟨po,0,none⟩ g w w'->R j v w->R j v w':=by
      rw[hR];intro j v w w' g A h
      revert h
      dsimp only
      split
      all_goals first | exact id | exact fun h=>Sl.after h A
     iterate 5 first
      |(refine Br _ (BK kn T (fun γ v L w hl h=>by rw[Bt (L:=L) (i:=_) (j:=11) (by decide),Bt (L:=L) (i:=_) (j:=13) (by decide)];exact h) (fun γ L a w hH hl h9 k9=>⟨_,?_,rfl⟩)) ?_;· simp[JD,go_sem,h9])
      |(refine Br _ (BK kn T (fun γ v L w hl h=>by rw[Bt (L:=L) (i:=_) (j:=11) (by decide),Bt (L:=L) (i:=_) (j:=13) (by decide)];exact h) (fun γ L a w hH hl h9 k9=>⟨_,?_,rfl⟩)) ?_;· have z:=(hH.glob.fix (⟨pa,0,none⟩,J I x0) (by simp)).1;simp[JC]at k9;simp[JD,go_sem,h9,k9,z])
      |(refine Br _ (BK kn T (fun γ v L w hl h=>by rw[Bt (L:=L) (i:=_) (j:=11) (by decide),Bt (L:=L) (i:=_) (j:=13) (by decide)];exact h) (fun γ L a w hH hl h9 k9=>⟨_,?_,rfl⟩)) ?_;· have z:=(hH.glob.fix (⟨pa,1,none⟩,J I x1) (by simp)).1;simp[JC]at k9;simp[JD,go_sem,h9,k9,z])
     refine Br _ (BJ (fun γ L a w hH hl hA=>by have h9:=T _ _ γ L a w hH;have k9:=hA;simp[JC]at k9;exact⟨BQ (some ⟨w.heap.size,0,none⟩) 2 2,w.alloc (BP #[J I x0,J I x1] 3),by simp[JD,go_sem,h9,k9],(r5 _ _).mpr (Sl.new hH.glob.own),fun j v _ h=>K1 j v _ _ h,by rw[Bt (L:=L) (i:=5) (j:=11) (by decide),Bt (L:=L) (i:=5) (j:=13) (by decide)];exact hH.glob.alloc _⟩)) ?_
     iterate 5 first
      |(refine Br _ (BK kn T (fun γ v L w hl h=>by rw[Bt (L:=L) (i:=_) (j:=11) (by decide),Bt (L:=L) (i:=_) (j:=13) (by decide)];exact h) (fun γ L a w hH hl h9 k9=>⟨_,?_,rfl⟩)) ?_;· simp[JD,go_sem,h9])
      |(refine Br _ (BK kn T (fun γ v L w hl h=>by rw[Bt (L:=L) (i:=_) (j:=11) (by decide),Bt (L:=L) (i:=_) (j:=13) (by decide)];exact h) (fun γ L a w hH hl h9 k9=>⟨_,?_,rfl⟩)) ?_;· have z:=(hH.glob.fix (⟨pb,1,none⟩,J I y1) (by simp)).1;simp[JC]at k9;simp[JD,go_sem,h9,k9,z])
      |(refine Br _ (BK kn T (fun γ v L w hl h=>by rw[Bt (L:=L) (i:=_) (j:=11) (by decide),Bt (L:=L) (i:=_) (j:=13) (by decide)];exact h) (fun γ L a w hH hl h9 k9=>⟨_,?_,rfl⟩)) ?_;· have z:=(hH.glob.fix (⟨pb,0,none⟩,J I y0) (by simp)).1;simp[JC]at k9;simp[JD,go_sem,h9,k9,z])
     refine Br _ (Bw (fun γ L a w hH hl hA=>by have h9:=T _ _ γ L a w hH;have k9:=hA;simp[JC]at k9;refine⟨67,#[BO (some ⟨po,0,none⟩),J I 0,J I y0],by simp[go_sem,h9,k9],JA (Jbv po 0 _ 0 y0 w hH.glob.own hH.glob.ownf) ?_⟩;rintro e w2 ⟨v,g,rfl,SS,A⟩;obtain⟨rfl,rfl⟩:=SS.out;exact⟨_,rfl,((kn.at (k:=11) rfl _ _).2 rfl),fun j v _ h=>K2 j v _ _ _ A.out h,by have h9:=hH.glob.after A.out;rw[hl]at h9;rw[BD,Bt (L:=L) (i:=11) (j:=13) (by decide)];rw[Ju2]at h9;exact h9⟩)) ?_;refine Br _ (BJ (fun γ L a w hH hl hA=>by have h9:=T _ _ γ L a w hH;have k9:=hA;simp[JC]at k9;exact⟨BQ (some ⟨w.heap.size,0,none⟩) 2 2,w.alloc (BP #[J I y1,J I ((sub 0 y0).getD 0)] 3),by simp[JD,go_sem,h9,k9],(kQ _ _).mpr (Sl.new hH.glob.own),fun j v _ h=>K1 j v _ _ h,by rw[Bt (L:=L) (i:=12) (j:=11) (by decide),Bt (L:=L) (i:=12) (j:=13) (by decide)];exact hH.glob.alloc _⟩)) ?_;refine Br _ (Bw (fun γ L a w hH hl hA=>by have h9:=T _ _ γ L a w hH;have k9:=hA;simp[JC]at k9;have l1:L 5=true:=hA ⟨5,.data⟩ (by simp) rfl;have l2:L 12=true:=hA ⟨12,.data⟩ (by simp) rfl;have e1:=hH.slot 5 46 (by rw[<- hD];rfl) l1;have g1:=hH.holds 5 l1;rw[r5]at g1;have e2:=hH.slot 12 53 (by rw[<- hD];rfl) l2;have g2:=hH.holds 12 l2;rw[kQ]at g2;obtain⟨s1,q1,c1⟩:=g1;obtain⟨s2,q2,c2⟩:=g2;rw[q1]at e1;rw[q2]at e2;refine⟨163,#[BO (some ⟨po,0,none⟩),BQ (some ⟨s1,0,none⟩) 2 2,BQ (some ⟨s2,0,none⟩) 2 2],by simp[go_sem,e1,e2,h9,k9],JA (Jch po 0 _ [x0,x1] [y1,(sub 0 y0).getD 0] _ _ 2 2 w hH.glob.own hH.glob.ownf (by simp) (by simp) (Jg6 c1.2) (Jg6 c2.2)) ?_⟩;rintro e w2 ⟨v,g,rfl,SS,A⟩;obtain⟨rfl,rfl⟩:=SS.out;exact⟨_,rfl,((kn.at (k:=13) rfl _ _).2 rfl),fun j v _ h=>K2 j v _ _ _ A.out h,by have h9:=hH.glob.after A.out;rw[hl]at h9;rw[BD,Bt (L:=L) (i:=13) (j:=11) (by decide)];rw[Jvb]at h9;exact h9⟩)) ?_
     (refine Br _ (BK kn T (fun γ v L w hl h=>by rw[Bt (L:=L) (i:=_) (j:=11) (by decide),Bt (L:=L) (i:=_) (j:=13) (by decide)];exact h) (fun γ L a w hH hl h9 k9=>⟨_,?_,rfl⟩)) ?_;· simp[JC]at k9;simp[JD,go_sem,h9,k9])
     exact RV.AllDo.nil
    ·intro γ a5 w5 L9 hL dU hH;have ha:=RV.held_act hH hL (by kernel_rfl) (by kernel_rfl);have hG:=hH.glob;rw[hL 11 (by decide),hL 13 (by decide)]at hG;have rF:γ 14=J I ((dot [x0,x1] [y1,(sub 0 y0).getD 0]).getD 0):=hH.holds 14 (hL 14 (by decide));rw[ha];clear ha hH hL dU;simp only[RV.putAll,Act.put,JH,JG,JF,Nat.zero_add,Nat.reduceAdd];rw[rF];go_wp2_with (fail);go_meet
     case rel=>exact⟨rfl,hG⟩
   case rest =>
    clear H;obtain⟨rfl,H⟩:=hcut;obtain⟨AV,oZ⟩:∃ g:Bool,g=(xJ ||(true&&(sub 0 y0).isNone) ||(true&&(dot [x0,x1] [y1,(sub 0 y0).getD 0]).isNone)):=⟨_,rfl⟩
    rw[<- oZ]at H;go_wp2_with (fail);refine(Jb4 b off po f AV _ H.out.flag H.out.flagf H.out.own (by omega)).mono ?_;rintro e V9 ⟨rfl,A⟩;have bN:=A.out.cellOf (H.out.fix (⟨pr,0,none⟩,J I 0) (by simp)).1 (by show pr≠b;omega);have dt:=A.out.frozenOf (H.out.fix (⟨pr,0,none⟩,J I 0) (by simp)).1 (H.out.fix (⟨pr,0,none⟩,J I 0) (by simp)).2 (by show pr≠b;omega);have bO:=A.out.cellOf (H.out.fix (⟨pr,1,none⟩,J I 0) (by simp)).1 (by show pr≠b;omega);have du:=A.out.frozenOf (H.out.fix (⟨pr,1,none⟩,J I 0) (by simp)).1 (H.out.fix (⟨pr,1,none⟩,J I 0) (by simp)).2 (by show pr≠b;omega);have bP:=A.out.cellOf (H.out.fix (⟨pr,2,none⟩,J I 0) (by simp)).1 (by show pr≠b;omega);have dv:=A.out.frozenOf (H.out.fix (⟨pr,2,none⟩,J I 0) (by simp)).1 (H.out.fix (⟨pr,2,none⟩,J I 0) (by simp)).2 (by show pr≠b;omega);have HL:BU (Leaves ⟨b,off,none⟩ W V9):=H.out.leaves.same A.out;have hp:=A.out.cell;have bg:=A.out.frozen;have n1:b≠pr:=by omega
    have n2:pr≠b:=by omega
    have aE:W.heap.size<=pr:=by omega
    have HS:BU _:=Jl9 (f:=f) oX oY oZ;clear oX oY oZ;clear A H;cases AV with
    | true =>
     go_wp2_with (fail);refine bodyPost_ret (by simp[results,results108,go_sem,bN,bO,bP];try rfl) rfl ?_;refine⟨0,0,0,_,rfl,HS.out,(((HL.out.set aE _).set aE _).set aE _).done ?_ ?_⟩
     ·simp[go_sem,hp]
     ·simp[go_sem,bg]
    | false =>
     go_wp2_with (fail);refine bodyPost_ret (by simp[results,results108,go_sem,bN,bO,bP];try rfl) rfl ?_;refine⟨_,_,_,_,rfl,HS.out,(((HL.out.set aE _).set aE _).set aE _).done ?_ ?_⟩
     ·simp[go_sem,hp]
     ·simp[go_sem,bg]
theorem Jvz{w:BV}{b:Nat}{x y:Int}(h0:w.cell? ⟨b,0,none⟩=some (J I x))(h1:w.cell? ⟨b,1,none⟩=some (J I y)):Jc2 w (some ⟨b,0,none⟩) [x,y]:=
 Or.inr ⟨b,0,rfl,fun k hk=>by
  match k,hk with
  | 0,_=>exact h0
  | 1,_=>exact h1⟩
def Jdu(b:Nat):Nat->List Int->List (Ce × B7)
 | _,[]=>[]
 | n,v::r=>(⟨b,n,none⟩,J I v)::Jdu b (n+1) r
theorem Jih{b:Nat}:∀ {l:List Int} {n:Nat} {c:Ce × B7},c∈Jdu b n l->∃ i,i<l.length/\c=(⟨b,n+i,none⟩,J I (l.getD i 0))
 | [],_,_,h=>by simp[Jdu]at h
 | v::r,n,c,h=>by
  unfold Jdu at h;rcases List.mem_cons.1 h with rfl | h
  ·exact⟨0,by simp,rfl⟩
  ·obtain⟨i,hi,rfl⟩:=Jih h;exact⟨i+1,by simpa using hi,by rw[show n+1+i=n+(i+1) by omega];rfl⟩
theorem Jpm{b:Nat}:∀ {l:List Int} {n i:Nat},i<l.length->((⟨b,n+i,none⟩,J I (l.getD i 0)):Ce × B7)∈Jdu b n l
 | [],_,_,h=>by simp at h
 | v::r,n,0,_=>by unfold Jdu;exact List.mem_cons_self
 | v::r,n,i+1,h=>by
  unfold Jdu;have:=Jpm (b:=b) (l:=r) (n:=n+1) (i:=i) (by simpa using h);rw[show n+1+i=n+(i+1) by omega]at this;exact List.mem_cons_of_mem _ this
section
variable {W V:BV} {p:Ce} {po:Nat} {f g:Bool} {b:Nat} {l:List Int} {K:List (Ce × B7)}
theorem Ho.atC(h:Ho W V p po f g (Jdu b 0 l++K))(i:Nat)(hi:i<l.length):V.cell? ⟨b,i,none⟩=some (J I (l.getD i 0))/\V.frozen? ⟨b,i,none⟩=false:=by
 have:=Jpm (b:=b) (n:=0) hi;rw[Nat.zero_add]at this;exact h.fix _ (List.mem_append_left _ this)
theorem Ho.putC(h:Ho W V p po f g (Jdu b 0 l++K))(i:Nat)(hi:i<l.length)(v:Int)(hK:∀ c∈K,c.1.block≠b)(hw:W.heap.size<=b)(aV:b≠po)(hap:b≠p.block):Ho W (V.setCell ⟨b,i,none⟩ (J I v)) p po f g (Jdu b 0 (l.set i v)++K):=by
 have far:∀ q:Ce,q.block≠b->(V.setCell ⟨b,i,none⟩ (J I v)).cell? q=V.cell? q:=fun q hq=>World.cell?_of_block (w:=V) (Below.heap_setCell V ⟨b,i,none⟩ (J I v) q.block hq);have h0:=h.atC i hi;refine⟨h.leaves.set hw _,(far p (Ne.symm hap)).trans h.flag,by rw[World.frozen?_setCell];exact h.flagf,(far _ (Ne.symm aV)).trans h.own,by rw[World.frozen?_setCell];exact h.ownf,fun c hc=>?_,fun c hc=>?_,h.hp,h.ho⟩
 ·rcases List.mem_append.1 hc with hc | hc
  ·obtain⟨j,hj,rfl⟩:=Jih hc;rw[List.length_set]at hj;rw[Nat.zero_add];have h1:=h.atC j hj;refine⟨?_,by rw[World.frozen?_setCell];exact h1.2⟩;by_cases e:i=j
   ·subst e;have e2:(l.set i v).getD i 0=v:=by simp[List.getD_eq_getElem?_getD,hi]
    dsimp only;rw[e2];exact World.cell?_setCell_same' _ _ _ (by rw[h0.1];rfl)
   ·have e2:(l.set i v).getD j 0=l.getD j 0:=by simp[List.getD_eq_getElem?_getD,e]
    dsimp only;rw[e2,World.cell?_setCell_other _ _ _ _ (fun e9=>e (by have e8:=congrArg Addr.off e9;dsimp only at e8;omega))];exact h1.1
  ·have h1:=h.fix c (List.mem_append_right _ hc);exact⟨(far _ (hK c hc)).trans h1.1,by rw[World.frozen?_setCell];exact h1.2⟩
 ·rcases List.mem_append.1 hc with hc | hc
  ·obtain⟨j,hj,rfl⟩:=Jih hc;exact aV
  ·exact h.far c (List.mem_append_right _ hc)
end
theorem rd2{W Y:BV}{p:Ce}{po:Nat}{f g:Bool}{l:List (Ce × B7)}(x0 x1 y0 y1:Int)(h:Ho W Y p po f g l):
  Cd Tryz.prog 163 #[BO (some ⟨po,0,none⟩),BQ (some ⟨Y.heap.size,0,none⟩) 2 2,BQ (some ⟨Y.heap.size+1,0,none⟩) 2 2] ((Y.alloc (BP #[J I x0,J I x1] 3)).alloc (BP #[J I y0,J I y1] 3)) fun e W'=>∃ v g',e = BZ (J I v)/\BU (Ja1 g (dot [x0,x1] [y0,y1]) v g')/\BU (Ho W W' p po f g' l):=by
 have HH:=(h.alloc (BP #[J I x0,J I x1] 3)).alloc (BP #[J I y0,J I y1] 3);exact(Jch po 0 g [x0,x1] [y0,y1] (some ⟨Y.heap.size,0,none⟩) (some ⟨Y.heap.size+1,0,none⟩) 2 2 _ HH.own HH.ownf (by simp) (by simp) (Jvz (by simp[go_sem]) (by simp[go_sem])) (Jvz (by simp[go_sem]) (by simp[go_sem]))).mono (by rintro e W' ⟨v,g',rfl,S,A⟩;exact⟨v,g',rfl,S,HH.after A.out⟩)
theorem Jkk{q:Int}(h:(sub 0 q).isNone=true):(add q q).isNone=true:=by
 rcases Jiq q with ⟨_,a,_⟩ |⟨a,_,_⟩
 ·simp[add,a]
 ·rw[a]at h;cases h
theorem Joe{f g1 g2 g3 g4 g5 g6 g7 g8 g9 qp qr qs pC t_ ue sB sD uf gK:Bool}{q0 q1 q2 q3 t0 t1 t2 t3 n1 n2 n3 d0 s0 d1 d2 d3 d4 s4 d5 d6 d7 d8 s8:Int}(h1:Ja1 false (add q0 q0) t0 g1)(h2:Ja1 g1 (add q1 q1) t1 g2)(h3:Ja1 g2 (add q2 q2) t2 g3)(h4:Ja1 g3 (add q3 q3) t3 g4)(h5:Ja1 g4 (sub 0 q1) n1 g5)(h6:Ja1 g5 (sub 0 q2) n2 g6)(h7:Ja1 g6 (sub 0 q3) n3 g7)(h8:Ja1 g7 (dot [t2,t3] [q2,q3]) d0 g8)(h9:Ja1 g8 (sub 4294967296 d0) s0 g9)(gY:Ja1 g9 (dot [t1,t0] [q2,n3]) d1 qp)(oh:Ja1 qp (dot [t1,t0] [q3,q2]) d2 qr)(dw:Ja1 qr (dot [t1,t0] [q2,q3]) d3 qs)(bW:Ja1 qs (dot [t1,t3] [q1,q3]) d4 pC)(mJ:Ja1 pC (sub 4294967296 d4) s4 t_)(s_:Ja1 t_ (dot [t2,t0] [q3,n1]) d5 ue)(h16:Ja1 ue (dot [t1,t0] [q3,n2]) d6 sB)(h17:Ja1 sB (dot [t2,t0] [q3,q1]) d7 sD)(h18:Ja1 sD (dot [t1,t2] [q1,q2]) d8 uf)(kX:Ja1 uf (sub 4294967296 d8) s8 gK):
  cond gK 0 s0=cond (J1 q0 q1 q2 q3) 0 (Jer q0 q1 q2 q3)/\cond gK 0 d1=cond (J1 q0 q1 q2 q3) 0 (Je3 q0 q1 q2 q3)/\cond gK 0 d2=cond (J1 q0 q1 q2 q3) 0 (Je6 q0 q1 q2 q3)/\cond gK 0 d3=cond (J1 q0 q1 q2 q3) 0 (Jeu q0 q1 q2 q3)/\cond gK 0 s4=cond (J1 q0 q1 q2 q3) 0 (Jeg q0 q1 q2 q3)/\cond gK 0 d5=cond (J1 q0 q1 q2 q3) 0 (Jew q0 q1 q2 q3)/\cond gK 0 d6=cond (J1 q0 q1 q2 q3) 0 (Je2 q0 q1 q2 q3)/\cond gK 0 d7=cond (J1 q0 q1 q2 q3) 0 (Jez q0 q1 q2 q3)/\cond gK 0 s8=cond (J1 q0 q1 q2 q3) 0 (Je5 q0 q1 q2 q3)/\(f||gK)=(f||J1 q0 q1 q2 q3):=by
 obtain⟨rfl,e1⟩:=h1;obtain⟨rfl,e2⟩:=h2;obtain⟨rfl,e3⟩:=h3;obtain⟨rfl,e4⟩:=h4;obtain⟨rfl,e5⟩:=h5;obtain⟨rfl,e6⟩:=h6;obtain⟨rfl,e7⟩:=h7;obtain⟨rfl,e8⟩:=h8;obtain⟨rfl,e9⟩:=h9;obtain⟨rfl,sT⟩:=gY;obtain⟨rfl,sU⟩:=oh;obtain⟨rfl,sV⟩:=dw;obtain⟨rfl,e13⟩:=bW;obtain⟨rfl,e14⟩:=mJ;obtain⟨rfl,e15⟩:=s_;obtain⟨rfl,e16⟩:=h16;obtain⟨rfl,e17⟩:=h17;obtain⟨rfl,e18⟩:=h18;obtain⟨rfl,e19⟩:=kX;have hb:gK=J1 q0 q1 q2 q3:=by
  rw[e19,e18,e17,e16,e15,e14,e13,sV,sU,sT,e9,e8,e7,e6,e5,e4,e3,e2,e1];unfold J1;simp only[List.any_cons,List.any_nil,id_eq,Bool.or_false,Bool.false_or];cases hs:(sub 0 q0).isNone with
  | true =>
   rw[Jkk hs];simp
  | false =>
   simp only[Bool.false_or]
   ac_rfl
 rw[hb];exact⟨rfl,rfl,rfl,rfl,rfl,rfl,rfl,rfl,rfl,rfl⟩
theorem Jn1(b off:Nat)(f:Bool)(q0 q1 q2 q3:Int)(W:BV)(hc:W.cell? ⟨b,off,none⟩=some (BT f))(hf:W.frozen? ⟨b,off,none⟩=false):
  Cd Tryz.prog 102 #[BO (some ⟨b,off,none⟩),B_ #[J I q0,J I q1,J I q2,J I q3]] W fun e W'=>e = BZ (B_ #[J I (cond (J1 q0 q1 q2 q3) 0 (Jer q0 q1 q2 q3)),J I (cond (J1 q0 q1 q2 q3) 0 (Je3 q0 q1 q2 q3)),J I (cond (J1 q0 q1 q2 q3) 0 (Je6 q0 q1 q2 q3)),J I (cond (J1 q0 q1 q2 q3) 0 (Jeu q0 q1 q2 q3)),J I (cond (J1 q0 q1 q2 q3) 0 (Jeg q0 q1 q2 q3)),J I (cond (J1 q0 q1 q2 q3) 0 (Jew q0 q1 q2 q3)),J I (cond (J1 q0 q1 q2 q3) 0 (Je2 q0 q1 q2 q3)),J I (cond (J1 q0 q1 q2 q3) 0 (Jez q0 q1 q2 q3)),J I (cond (J1 q0 q1 q2 q3) 0 (Je5 q0 q1 q2 q3))])/\BU (After ⟨b,off,none⟩ (f||J1 q0 q1 q2 q3) W W'):=by
 have aO:b<W.heap.size:=JB _ _ hc;go_enter func102,ntmps102;go_wp2_with (fail);refine(Jbm _).mono ?_;rintro e W1 ⟨rfl,rfl⟩;obtain⟨U,hU⟩:∃ U,U=(((W.alloc (BP #[J I q0,J I q1,J I q2,J I q3] 29)).alloc (BP #[J I 0,J I 0,J I 0,J I 0,J I 0,J I 0,J I 0,J I 0,J I 0] 105)).alloc (BP #[BT false] 57)):=⟨_,rfl⟩
 obtain⟨pa,aU⟩:∃ p,p=W.heap.size:=⟨_,rfl⟩
 obtain⟨pr,aB⟩:∃ p,p=W.heap.size+1:=⟨_,rfl⟩
 obtain⟨po,aV⟩:∃ p,p=W.heap.size+1+1:=⟨_,rfl⟩
 have H:BU (Ho W U ⟨b,off,none⟩ po f false [(⟨pa,0,none⟩,J I q0),(⟨pa,1,none⟩,J I q1),(⟨pa,2,none⟩,J I q2),(⟨pa,3,none⟩,J I q3),(⟨pr,0,none⟩,J I 0),(⟨pr,1,none⟩,J I 0),(⟨pr,2,none⟩,J I 0),(⟨pr,3,none⟩,J I 0),(⟨pr,4,none⟩,J I 0),(⟨pr,5,none⟩,J I 0),(⟨pr,6,none⟩,J I 0),(⟨pr,7,none⟩,J I 0),(⟨pr,8,none⟩,J I 0)]):=by
  refine⟨by rw[hU];exact((((Leaves.refl _ _).alloc _).alloc _).alloc _),by rw[hU,World.cell?_alloc_past _ _ _ (by simp;omega),World.cell?_alloc_past _ _ _ (by simp;omega),World.cell?_alloc_past _ _ _ aO];exact hc,by rw[hU,((Jd _ _).frozen (by simp;omega)),((Jd _ _).frozen (by simp;omega)),((Jd _ _).frozen aO)];exact hf,by rw[hU,aV];simp[go_sem],by rw[hU,aV];simp[go_sem],?_,?_,aO,by omega⟩
  ·intro c hc;simp only[List.mem_cons,List.not_mem_nil,or_false]at hc;rcases hc with rfl | rfl | rfl | rfl | rfl | rfl | rfl | rfl | rfl | rfl | rfl | rfl | rfl <;> rw[hU] <;> dsimp only <;> first |(rw[aU];exact⟨by simp[go_sem],by simp[go_sem]⟩) |(rw[aB];exact⟨by simp[go_sem],by simp[go_sem]⟩)
  ·intro c hc;simp only[List.mem_cons,List.not_mem_nil,or_false]at hc;rcases hc with rfl | rfl | rfl | rfl | rfl | rfl | rfl | rfl | rfl | rfl | rfl | rfl | rfl <;> (dsimp only) <;> omega
 rw[<- hU];simp only[World.size_alloc];rw[<- aV,<- aB,<- aU];have qU:pa<pr:=by omega
 have qV:pr<po:=by omega
 have qW:W.heap.size<=pa:=by omega
 clear hU hc hf aU aB aV;obtain⟨K,hK⟩:∃ K:List (Ce × B7),K = [(⟨pa,0,none⟩,J I q0),(⟨pa,1,none⟩,J I q1),(⟨pa,2,none⟩,J I q2),(⟨pa,3,none⟩,J I q3),(⟨pr,0,none⟩,J I 0),(⟨pr,1,none⟩,J I 0),(⟨pr,2,none⟩,J I 0),(⟨pr,3,none⟩,J I 0),(⟨pr,4,none⟩,J I 0),(⟨pr,5,none⟩,J I 0),(⟨pr,6,none⟩,J I 0),(⟨pr,7,none⟩,J I 0),(⟨pr,8,none⟩,J I 0)]:=⟨_,rfl⟩
 rw[<- hK]at H;have KA:BU (∀(V:BV) (g:Bool) (l:List (Ce × B7)),Ho W V ⟨b,off,none⟩ po f g (l++K)->V.cell? ⟨pa,0,none⟩=some (J I q0)/\V.cell? ⟨pa,1,none⟩=some (J I q1)/\V.cell? ⟨pa,2,none⟩=some (J I q2)/\V.cell? ⟨pa,3,none⟩=some (J I q3)/\pa<V.heap.size/\V.cell? ⟨po,0,none⟩=some (BT g)/\V.frozen? ⟨po,0,none⟩=false):=fun V g l h=>by
  have m0:=(h.fix (⟨pa,0,none⟩,J I q0) (by rw[hK];simp)).1;exact⟨m0,(h.fix (⟨pa,1,none⟩,J I q1) (by rw[hK];simp)).1,(h.fix (⟨pa,2,none⟩,J I q2) (by rw[hK];simp)).1,(h.fix (⟨pa,3,none⟩,J I q3) (by rw[hK];simp)).1,JB _ _ m0,h.own,h.ownf⟩
 have KR:BU (∀(V:BV) (g:Bool) (l:List (Ce × B7)),Ho W V ⟨b,off,none⟩ po f g (l++K)->∀ i,i<9->V.cell? ⟨pr,i,none⟩=some (J I 0)/\V.frozen? ⟨pr,i,none⟩=false):=fun V g l h i hi=>h.fix (⟨pr,i,none⟩,J I 0) (by
  rw[hK];have:i=0\/i=1\/i=2\/i=3\/i=4\/i=5\/i=6\/i=7\/i=8:=by omega
  rcases this with rfl | rfl | rfl | rfl | rfl | rfl | rfl | rfl | rfl <;> simp)
 have KN:BU (∀ c∈K,c.1.block=pa\/c.1.block=pr):=fun c hc=>by
  rw[hK]at hc;simp only[List.mem_cons,List.not_mem_nil,or_false]at hc;rcases hc with rfl | rfl | rfl | rfl | rfl | rfl | rfl | rfl | rfl | rfl | rfl | rfl | rfl <;> simp
 clear hK;obtain⟨aa,af,ag,an,aq,ho,aH⟩:=KA.out _ _ [] H.out;go_wp2_with (fail);refine(Jc8 po 0 false q0 q0 _ ho aH).mono ?_;rintro e lH ⟨t0,g1,rfl,fI,A⟩;have H:BU _:=H.out.after A.out;clear A aa af ag an aq ho aH;obtain⟨aa,af,ag,an,aq,ho,aH⟩:=KA.out _ _ [] H.out;go_wp2_with (fail);refine(Jc8 po 0 g1 q1 q1 _ ho aH).mono ?_;rintro e nd ⟨t1,g2,rfl,ic,A⟩;have H:BU _:=H.out.after A.out;clear A aa af ag an aq ho aH;obtain⟨aa,af,ag,an,aq,ho,aH⟩:=KA.out _ _ [] H.out;go_wp2_with (fail);refine(Jc8 po 0 g2 q2 q2 _ ho aH).mono ?_;rintro e pG ⟨t2,g3,rfl,kl,A⟩;have H:BU _:=H.out.after A.out;clear A aa af ag an aq ho aH;obtain⟨aa,af,ag,an,aq,ho,aH⟩:=KA.out _ _ [] H.out;go_wp2_with (fail);refine(Jc8 po 0 g3 q3 q3 _ ho aH).mono ?_;rintro e tW ⟨t3,g4,rfl,qt,A⟩;have H:BU _:=H.out.after A.out;clear A aa af ag an aq ho aH;obtain⟨aa,af,ag,an,aq,ho,aH⟩:=KA.out _ _ [] H.out;go_wp2_with (fail);refine(Jbv po 0 g4 0 q1 _ ho aH).mono ?_;rintro e yj ⟨n1,g5,rfl,tX,A⟩;have H:BU _:=H.out.after A.out;clear A aa af ag an aq ho aH;obtain⟨aa,af,ag,an,aq,ho,aH⟩:=KA.out _ _ [] H.out;go_wp2_with (fail);refine(Jbv po 0 g5 0 q2 _ ho aH).mono ?_;rintro e yk ⟨n2,g6,rfl,tY,A⟩;have H:BU _:=H.out.after A.out;clear A aa af ag an aq ho aH;obtain⟨aa,af,ag,an,aq,ho,aH⟩:=KA.out _ _ [] H.out;go_wp2_with (fail);refine(Jbv po 0 g6 0 q3 _ ho aH).mono ?_;rintro e ym ⟨n3,g7,rfl,tZ,A⟩;have H:BU _:=H.out.after A.out;clear A aa af ag an aq ho aH;go_upto_region 10 with fail;obtain⟨pm,cS⟩:∃ p,p=ym.heap.size:=⟨_,rfl⟩
 obtain⟨Y0,xK⟩:∃ X,X=ym.alloc (BP #[J I 0,J I 0,J I 0,J I 0,J I 0,J I 0,J I 0,J I 0,J I 0] 105):=⟨_,rfl⟩
 have H2:BU (Ho W Y0 ⟨b,off,none⟩ po f g7 (Jdu pm 0 [0,0,0,0,0,0,0,0,0]++K)):=by
  show Ho _ _ _ _ _ _ _
  rw[xK];refine H.out.lay _ _ _ (fun c hc=>?_);simp only[Jdu,List.mem_cons,List.not_mem_nil,or_false]at hc;rcases hc with rfl | rfl | rfl | rfl | rfl | rfl | rfl | rfl | rfl
  ·exact⟨0,by rw[cS],rfl⟩
  ·exact⟨1,by rw[cS],rfl⟩
  ·exact⟨2,by rw[cS],rfl⟩
  ·exact⟨3,by rw[cS],rfl⟩
  ·exact⟨4,by rw[cS],rfl⟩
  ·exact⟨5,by rw[cS],rfl⟩
  ·exact⟨6,by rw[cS],rfl⟩
  ·exact⟨7,by rw[cS],rfl⟩
  ·exact⟨8,by rw[cS],rfl⟩
 have zm1:po<pm:=by rw[cS];exact JB _ _ H.out.own
 rw[<- xK,<- cS];have H:BU _:=H2.out;have KM:BU (∀ c∈K,c.1.block≠pm):=fun c hc=>by rcases KN.out c hc with e | e <;> rw[e] <;> omega
 have qf:b<pa:=by omega
 have mf:W.heap.size<=pm:=by omega
 have mg:pm≠po:=by omega
 have eM:pm≠b:=by omega
 clear xK cS H2 KN;obtain⟨aa,af,ag,an,aq,ho,aH⟩:=KA.out _ _ _ H.out;go_wp2_with (fail);refine JA (rd2 t2 t3 q2 q3 H.out) ?_;rintro e Wg8 ⟨d0,g8,rfl,Be,H⟩;clear aa af ag an aq ho aH;go_wp2_with (fail);refine(Jbv po 0 g8 4294967296 d0 _ H.out.own H.out.ownf).mono ?_;rintro e yn ⟨s0,g9,rfl,Bf,A⟩;have H:BU _:=H.out.after A.out;clear A;have rk:yn.cell? ⟨pm,0,none⟩=some (J I 0):=(Ho.atC H.out 0 (by simp)).1;have rkf:yn.frozen? ⟨pm,0,none⟩=false:=(Ho.atC H.out 0 (by simp)).2;go_upto_region 11 with fail;obtain⟨Y1,xM⟩:∃ X,X=yn.setCell ⟨pm,0,none⟩ (J I s0):=⟨_,rfl⟩
 have H:BU (Ho W Y1 ⟨b,off,none⟩ po f g9 (Jdu pm 0 [s0,0,0,0,0,0,0,0,0]++K)):=by show Ho _ _ _ _ _ _ _;rw[xM];exact Ho.putC H.out 0 (by simp) s0 KM.out mf mg eM
 rw[<- xM];clear xM rk rkf;obtain⟨aa,af,ag,an,aq,ho,aH⟩:=KA.out _ _ _ H.out;go_wp2_with (fail);refine JA (rd2 t1 t0 q2 n3 H.out) ?_;rintro e pH ⟨d1,qp,rfl,sm,H⟩;clear aa af ag an aq ho aH;have rk:pH.cell? ⟨pm,1,none⟩=some (J I 0):=(Ho.atC H.out 1 (by simp)).1;have rkf:pH.frozen? ⟨pm,1,none⟩=false:=(Ho.atC H.out 1 (by simp)).2;go_upto_region 12 with fail;obtain⟨Y2,dY⟩:∃ X,X=pH.setCell ⟨pm,1,none⟩ (J I d1):=⟨_,rfl⟩
 have H:BU (Ho W Y2 ⟨b,off,none⟩ po f qp (Jdu pm 0 [s0,d1,0,0,0,0,0,0,0]++K)):=by show Ho _ _ _ _ _ _ _;rw[dY];exact Ho.putC H.out 1 (by simp) d1 KM.out mf mg eM
 rw[<- dY];clear dY rk rkf;obtain⟨aa,af,ag,an,aq,ho,aH⟩:=KA.out _ _ _ H.out;go_wp2_with (fail);refine JA (rd2 t1 t0 q3 q2 H.out) ?_;rintro e pI ⟨d2,qr,rfl,sn,H⟩;clear aa af ag an aq ho aH;have rk:pI.cell? ⟨pm,2,none⟩=some (J I 0):=(Ho.atC H.out 2 (by simp)).1;have rkf:pI.frozen? ⟨pm,2,none⟩=false:=(Ho.atC H.out 2 (by simp)).2;go_upto_region 13 with fail;obtain⟨Y3,xN⟩:∃ X,X=pI.setCell ⟨pm,2,none⟩ (J I d2):=⟨_,rfl⟩
 have H:BU (Ho W Y3 ⟨b,off,none⟩ po f qr (Jdu pm 0 [s0,d1,d2,0,0,0,0,0,0]++K)):=by show Ho _ _ _ _ _ _ _;rw[xN];exact Ho.putC H.out 2 (by simp) d2 KM.out mf mg eM
 rw[<- xN];clear xN rk rkf;obtain⟨aa,af,ag,an,aq,ho,aH⟩:=KA.out _ _ _ H.out;go_wp2_with (fail);refine JA (rd2 t1 t0 q2 q3 H.out) ?_;rintro e pJ ⟨d3,qs,rfl,sp,H⟩;clear aa af ag an aq ho aH;have rk:pJ.cell? ⟨pm,3,none⟩=some (J I 0):=(Ho.atC H.out 3 (by simp)).1;have rkf:pJ.frozen? ⟨pm,3,none⟩=false:=(Ho.atC H.out 3 (by simp)).2;go_upto_region 14 with fail;obtain⟨Y4,rY⟩:∃ X,X=pJ.setCell ⟨pm,3,none⟩ (J I d3):=⟨_,rfl⟩
 have H:BU (Ho W Y4 ⟨b,off,none⟩ po f qs (Jdu pm 0 [s0,d1,d2,d3,0,0,0,0,0]++K)):=by show Ho _ _ _ _ _ _ _;rw[rY];exact Ho.putC H.out 3 (by simp) d3 KM.out mf mg eM
 rw[<- rY];clear rY rk rkf;obtain⟨aa,af,ag,an,aq,ho,aH⟩:=KA.out _ _ _ H.out;go_wp2_with (fail);refine JA (rd2 t1 t3 q1 q3 H.out) ?_;rintro e Wg13 ⟨d4,pC,rfl,su,H⟩;clear aa af ag an aq ho aH;go_wp2_with (fail);refine(Jbv po 0 pC 4294967296 d4 _ H.out.own H.out.ownf).mono ?_;rintro e pK ⟨s4,t_,rfl,sw,A⟩;have H:BU _:=H.out.after A.out;clear A;have rk:pK.cell? ⟨pm,4,none⟩=some (J I 0):=(Ho.atC H.out 4 (by simp)).1;have rkf:pK.frozen? ⟨pm,4,none⟩=false:=(Ho.atC H.out 4 (by simp)).2;go_upto_region 15 with fail;obtain⟨Y5,rZ⟩:∃ X,X=pK.setCell ⟨pm,4,none⟩ (J I s4):=⟨_,rfl⟩
 have H:BU (Ho W Y5 ⟨b,off,none⟩ po f t_ (Jdu pm 0 [s0,d1,d2,d3,s4,0,0,0,0]++K)):=by show Ho _ _ _ _ _ _ _;rw[rZ];exact Ho.putC H.out 4 (by simp) s4 KM.out mf mg eM
 rw[<- rZ];clear rZ rk rkf;obtain⟨aa,af,ag,an,aq,ho,aH⟩:=KA.out _ _ _ H.out;go_wp2_with (fail);refine JA (rd2 t2 t0 q3 n1 H.out) ?_;rintro e pL ⟨d5,ue,rfl,sA,H⟩;clear aa af ag an aq ho aH;have rk:pL.cell? ⟨pm,5,none⟩=some (J I 0):=(Ho.atC H.out 5 (by simp)).1;have rkf:pL.frozen? ⟨pm,5,none⟩=false:=(Ho.atC H.out 5 (by simp)).2;go_upto_region 16 with fail;obtain⟨Y6,xO⟩:∃ X,X=pL.setCell ⟨pm,5,none⟩ (J I d5):=⟨_,rfl⟩
 have H:BU (Ho W Y6 ⟨b,off,none⟩ po f ue (Jdu pm 0 [s0,d1,d2,d3,s4,d5,0,0,0]++K)):=by show Ho _ _ _ _ _ _ _;rw[xO];exact Ho.putC H.out 5 (by simp) d5 KM.out mf mg eM
 rw[<- xO];clear xO rk rkf;obtain⟨aa,af,ag,an,aq,ho,aH⟩:=KA.out _ _ _ H.out;go_wp2_with (fail);refine JA (rd2 t1 t0 q3 n2 H.out) ?_;rintro e pM ⟨d6,sB,rfl,sC,H⟩;clear aa af ag an aq ho aH;have rk:pM.cell? ⟨pm,6,none⟩=some (J I 0):=(Ho.atC H.out 6 (by simp)).1;have rkf:pM.frozen? ⟨pm,6,none⟩=false:=(Ho.atC H.out 6 (by simp)).2;go_upto_region 17 with fail;obtain⟨Y7,xP⟩:∃ X,X=pM.setCell ⟨pm,6,none⟩ (J I d6):=⟨_,rfl⟩
 have H:BU (Ho W Y7 ⟨b,off,none⟩ po f sB (Jdu pm 0 [s0,d1,d2,d3,s4,d5,d6,0,0]++K)):=by show Ho _ _ _ _ _ _ _;rw[xP];exact Ho.putC H.out 6 (by simp) d6 KM.out mf mg eM
 rw[<- xP];clear xP rk rkf;obtain⟨aa,af,ag,an,aq,ho,aH⟩:=KA.out _ _ _ H.out;go_wp2_with (fail);refine JA (rd2 t2 t0 q3 q1 H.out) ?_;rintro e pN ⟨d7,sD,rfl,sE,H⟩;clear aa af ag an aq ho aH;have rk:pN.cell? ⟨pm,7,none⟩=some (J I 0):=(Ho.atC H.out 7 (by simp)).1;have rkf:pN.frozen? ⟨pm,7,none⟩=false:=(Ho.atC H.out 7 (by simp)).2;go_upto_region 18 with fail;obtain⟨Y8,xQ⟩:∃ X,X=pN.setCell ⟨pm,7,none⟩ (J I d7):=⟨_,rfl⟩
 have H:BU (Ho W Y8 ⟨b,off,none⟩ po f sD (Jdu pm 0 [s0,d1,d2,d3,s4,d5,d6,d7,0]++K)):=by show Ho _ _ _ _ _ _ _;rw[xQ];exact Ho.putC H.out 7 (by simp) d7 KM.out mf mg eM
 rw[<- xQ];clear xQ rk rkf;obtain⟨aa,af,ag,an,aq,ho,aH⟩:=KA.out _ _ _ H.out;go_wp2_with (fail);refine JA (rd2 t1 t2 q1 q2 H.out) ?_;rintro e Wg18 ⟨d8,uf,rfl,sF,H⟩;clear aa af ag an aq ho aH;go_wp2_with (fail);refine(Jbv po 0 uf 4294967296 d8 _ H.out.own H.out.ownf).mono ?_;rintro e pO ⟨s8,gK,rfl,sG,A⟩;have H:BU _:=H.out.after A.out;clear A;have rk:pO.cell? ⟨pm,8,none⟩=some (J I 0):=(Ho.atC H.out 8 (by simp)).1;have rkf:pO.frozen? ⟨pm,8,none⟩=false:=(Ho.atC H.out 8 (by simp)).2;go_upto_region 19 with fail;obtain⟨Y9,xR⟩:∃ X,X=pO.setCell ⟨pm,8,none⟩ (J I s8):=⟨_,rfl⟩
 have H:BU (Ho W Y9 ⟨b,off,none⟩ po f gK (Jdu pm 0 [s0,d1,d2,d3,s4,d5,d6,d7,s8]++K)):=by show Ho _ _ _ _ _ _ _;rw[xR];exact Ho.putC H.out 8 (by simp) s8 KM.out mf mg eM
 rw[<- xR];clear xR rk rkf;go_wp2_with (fail);refine(Jb4 b off po f gK _ H.out.flag H.out.flagf H.out.own (by omega)).mono ?_;rintro e V9 ⟨rfl,A⟩;have bN:=A.out.cellOf (KR.out _ _ _ H.out 0 (by decide)).1 (by show pr≠b;omega);have dt:=A.out.frozenOf (KR.out _ _ _ H.out 0 (by decide)).1 (KR.out _ _ _ H.out 0 (by decide)).2 (by show pr≠b;omega);have mm0:V9.cell? ⟨pm,0,none⟩=some (J I s0):=A.out.cellOf (Ho.atC H.out 0 (by simp)).1 eM;have bO:=A.out.cellOf (KR.out _ _ _ H.out 1 (by decide)).1 (by show pr≠b;omega);have du:=A.out.frozenOf (KR.out _ _ _ H.out 1 (by decide)).1 (KR.out _ _ _ H.out 1 (by decide)).2 (by show pr≠b;omega);have mm1:V9.cell? ⟨pm,1,none⟩=some (J I d1):=A.out.cellOf (Ho.atC H.out 1 (by simp)).1 eM;have bP:=A.out.cellOf (KR.out _ _ _ H.out 2 (by decide)).1 (by show pr≠b;omega);have dv:=A.out.frozenOf (KR.out _ _ _ H.out 2 (by decide)).1 (KR.out _ _ _ H.out 2 (by decide)).2 (by show pr≠b;omega);have mm2:V9.cell? ⟨pm,2,none⟩=some (J I d2):=A.out.cellOf (Ho.atC H.out 2 (by simp)).1 eM;have eb:=A.out.cellOf (KR.out _ _ _ H.out 3 (by decide)).1 (by show pr≠b;omega);have iX:=A.out.frozenOf (KR.out _ _ _ H.out 3 (by decide)).1 (KR.out _ _ _ H.out 3 (by decide)).2 (by show pr≠b;omega);have mm3:V9.cell? ⟨pm,3,none⟩=some (J I d3):=A.out.cellOf (Ho.atC H.out 3 (by simp)).1 eM;have qD:=A.out.cellOf (KR.out _ _ _ H.out 4 (by decide)).1 (by show pr≠b;omega);have uw:=A.out.frozenOf (KR.out _ _ _ H.out 4 (by decide)).1 (KR.out _ _ _ H.out 4 (by decide)).2 (by show pr≠b;omega);have mm4:V9.cell? ⟨pm,4,none⟩=some (J I s4):=A.out.cellOf (Ho.atC H.out 4 (by simp)).1 eM;have qE:=A.out.cellOf (KR.out _ _ _ H.out 5 (by decide)).1 (by show pr≠b;omega);have uy:=A.out.frozenOf (KR.out _ _ _ H.out 5 (by decide)).1 (KR.out _ _ _ H.out 5 (by decide)).2 (by show pr≠b;omega);have mm5:V9.cell? ⟨pm,5,none⟩=some (J I d5):=A.out.cellOf (Ho.atC H.out 5 (by simp)).1 eM;have qF:=A.out.cellOf (KR.out _ _ _ H.out 6 (by decide)).1 (by show pr≠b;omega);have uz:=A.out.frozenOf (KR.out _ _ _ H.out 6 (by decide)).1 (KR.out _ _ _ H.out 6 (by decide)).2 (by show pr≠b;omega);have mm6:V9.cell? ⟨pm,6,none⟩=some (J I d6):=A.out.cellOf (Ho.atC H.out 6 (by simp)).1 eM;have qG:=A.out.cellOf (KR.out _ _ _ H.out 7 (by decide)).1 (by show pr≠b;omega);have uA:=A.out.frozenOf (KR.out _ _ _ H.out 7 (by decide)).1 (KR.out _ _ _ H.out 7 (by decide)).2 (by show pr≠b;omega);have mm7:V9.cell? ⟨pm,7,none⟩=some (J I d7):=A.out.cellOf (Ho.atC H.out 7 (by simp)).1 eM;have qH:=A.out.cellOf (KR.out _ _ _ H.out 8 (by decide)).1 (by show pr≠b;omega);have uB:=A.out.frozenOf (KR.out _ _ _ H.out 8 (by decide)).1 (KR.out _ _ _ H.out 8 (by decide)).2 (by show pr≠b;omega);have mm8:V9.cell? ⟨pm,8,none⟩=some (J I s8):=A.out.cellOf (Ho.atC H.out 8 (by simp)).1 eM;have HL:BU (Leaves ⟨b,off,none⟩ W V9):=H.out.leaves.same A.out;have hp:=A.out.cell;have bg:=A.out.frozen;have n1':b≠pr:=by omega
 have n2':pr≠b:=by omega
 have n3':pr≠pm:=by omega
 have n4':pm≠pr:=by omega
 have aE:W.heap.size<=pr:=by omega
 have HS:BU _:=Joe (f:=f) fI.out ic.out kl.out qt.out tX.out tY.out tZ.out Be.out Bf.out sm.out sn.out sp.out su.out sw.out sA.out sC.out sE.out sF.out sG.out;clear A H KA KR KM fI ic kl qt tX tY tZ Be Bf sm sn sp su sw sA sC sE sF sG;cases gK with
 | true =>
  clear mm0 mm1 mm2 mm3 mm4 mm5 mm6 mm7 mm8;go_wp2_with (fail);refine bodyPost_ret (by simp[results,results102,go_sem,bN,bO,bP,eb,qD,qE,qF,qG,qH];try rfl) rfl ?_;obtain⟨e0,e1,e2,e3,e4,e5,e6,e7,e8,eg⟩:=HS.out;refine⟨by rw[<- e0,<- e1,<- e2,<- e3,<- e4,<- e5,<- e6,<- e7,<- e8];rfl,by rw[<- eg];exact(((((((((HL.out.set aE _).set aE _).set aE _).set aE _).set aE _).set aE _).set aE _).set aE _).set aE _).done (by simp[go_sem,hp]) (by simp[go_sem,bg])⟩
 | false =>
  go_wp2_with (fail);refine bodyPost_ret (by simp[results,results102,go_sem,bN,bO,bP,eb,qD,qE,qF,qG,qH];try rfl) rfl ?_;obtain⟨e0,e1,e2,e3,e4,e5,e6,e7,e8,eg⟩:=HS.out;refine⟨by rw[<- e0,<- e1,<- e2,<- e3,<- e4,<- e5,<- e6,<- e7,<- e8];rfl,by rw[<- eg];exact(((((((((HL.out.set aE _).set aE _).set aE _).set aE _).set aE _).set aE _).set aE _).set aE _).set aE _).done (by simp[go_sem,hp]) (by simp[go_sem,bg])⟩
end
end Go.Proofs.YtkblcfgamnmbkaaGreat
