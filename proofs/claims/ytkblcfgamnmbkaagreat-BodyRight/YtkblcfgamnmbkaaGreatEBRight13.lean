/- Package body: Cap. -/
import Derived.Test.YtkblcfgamnmbkaaGreatEBRight0
import Derived.Test.YtkblcfgamnmbkaaGreatEBRight12
import Derived.Test.YtkblcfgamnmbkaaGreatEBRight9
import Derived.Test.YtkblcfgamnmbkaaGreatEBRight8
import Derived.Test.YtkblcfgamnmbkaaGreatProg
import Derived.Lib.SmallJoins
import Derived.OpenShut
import Derived.Deep.Slices
set_option maxHeartbeats 8000000
set_option maxRecDepth 100000
set_option linter.unusedVariables false
namespace Go.Proofs.YtkblcfgamnmbkaaGreat
open Go.Calls renaming mono -> JA
open Go.World renaming block_lt_of_cell? -> JB
open Go.Region renaming binds -> JC
open Go.World renaming size_alloc -> JE
open Go.Proofs.Tryz
open Go.Value renaming int -> J
open Go.IntKind renaming i64 -> Y
open Go.Value renaming pointer -> BO
open Go.Obj renaming cells -> BP
open Go.Value renaming slice -> BQ
open Go.Value renaming bool -> BT
open Go.RowKit renaming Hid -> BU
open Go renaming World -> BV
open Go.Ending renaming returned -> BZ
open Go renaming Value -> B7
open Go.RowKit renaming Below -> B9
open Go.Value renaming agg -> B_
open Go renaming Calls -> Cd
open Go renaming Addr -> Ce
open Go renaming Act -> Cf
section
open Go.RowKit Go.Shelf Fx
theorem Jjv:told 0=some 0:=by unfold told;rw[if_neg (by decide)]
theorem Js0(n:Int):dv1 0 n=0:=by
 unfold dv1 Jw
 split
 ·rfl
 ·split
  ·rfl
  ·have:fl (0*4294967296) n=0:=by unfold fl;simp
   rw[this,Jjv];rfl
theorem Jjh(a:V3):Jm1 ⟨0,0,0⟩ a=⟨0,0,0⟩:=by unfold Jm1;simp only[Js0]
theorem Jsv(a b c:Int):(dot [a,b,c] [0,0,0]).getD 0=0:=by
 unfold dot
 split
 ·rfl
 ·split
  ·rfl
  ·split
   ·rfl
   ·have:Jaf [a,b,c] [0,0,0] / 4294967296=0:=by simp[Jaf]
    rw[this,Jjv];rfl
theorem Jlz(m:Mt):Ja0 m ⟨0,0,0⟩=⟨0,0,0⟩:=by
 unfold Ja0 t3;simp only[Jsv];cases b3 (dot [m.a.x,m.a.y,m.a.z] [0,0,0]) (dot [m.b.x,m.b.y,m.b.z] [0,0,0]) (dot [m.c.x,m.c.y,m.c.z] [0,0,0]) <;> rfl
theorem Jmc:Jgy ⟨0,0,0⟩=0:=by
 unfold Jgy Jah;rw[if_neg (by simp),if_neg (by simp[great])];have:isq (Jaf [0,0,0] [0,0,0]).toNat=0:=by simp[Jaf,isq]
 rw[this]
 rfl
theorem Jig(b:Bd):Jh6 b ⟨0,0,0⟩=true:=by
 unfold Jh6 Jap;have:Jm1 (b.wp ⟨0,0,0⟩).p ⟨(b.wp ⟨0,0,0⟩).m,(b.wp ⟨0,0,0⟩).m,(b.wp ⟨0,0,0⟩).m⟩=⟨0,0,0⟩:=Jjh _;rw[this,Jmc];rfl
theorem Jiv(b:Bd):Jhy b ⟨0,0,0⟩=true:=by
 unfold Jhy Jag Jeh;rw[Jlz,Jjh,Jlz,Jmc];rfl
def Jds(b:Bd):V3 × Bool × Bool:=hvd (Jh6 b) (Jfh b) 64 b.p
def Jdx(b:Bd):V3 × Bool × Bool:=hvd (Jhy (b.wp (Jds b).1)) (Ji4 (b.wp (Jds b).1)) 64 b.l
def Jet(b:Bd):Bool:=(Jds b).2.2 ||(Jdx b).2.2
def Jbr(b:Bd):Bd:=if b.k=2/\Jet b=false then (b.wp (Jds b).1).wl (Jdx b).1 else b
def Jgr(b:Bd):Bool:=if b.k=2/\Jet b=false then (Jds b).2.1 ||(Jdx b).2.1 else false
theorem Two2.keep{p:Ce}{k:Nat}{V W:BV}{B:Nat}(t:Two2 p k V W)(h1:B<=p.block)(h2:B<=k)(h3:B<=V.heap.size):B9 B V W:=t.below B V (Below.refl _ _) h1 h2 h3
structure CapE(p:Ce)(g:Bool)(pc pk:Nat)(cs:List B7)(ct:Bool)(W V X:BV):Prop where
 leaves:Leaves p W X
 cell:X.cell? p=some (BT g)
 frozen:X.frozen? p=false
 cw:CW X pc cs
 ck:CW X pk [BT ct]
 heap:∀ j,j<V.heap.size->j≠p.block->j≠pc->j≠pk->X.heap[j]?=V.heap[j]?
theorem CapE.flag{fb fo pc pk:Nat}{g ct:Bool}{cs:List B7}{W V X:BV}(h:CapE ⟨fb,fo,none⟩ g pc pk cs ct W V X)(nc:pc≠fb)(nk:pk≠fb):CapE ⟨fb,fo,none⟩ true pc pk cs ct W V (X.setCell ⟨fb,fo,none⟩ (BT true)):=
 ⟨h.leaves.own _,by simp[go_sem,h.cell],by simp[go_sem,h.frozen],h.cw.other (a:=⟨fb,fo,none⟩) (Ne.symm nc) _,h.ck.other (a:=⟨fb,fo,none⟩) (Ne.symm nk) _,fun j h1 h2 h3 h4=>(Below.heap_setCell _ _ _ _ h2).trans (h.heap j h1 h2 h3 h4)⟩
theorem CapE.put{fb fo pc pk:Nat}{g ct:Bool}{cs:List B7}{W V X:BV}(h:CapE ⟨fb,fo,none⟩ g pc pk cs ct W V X)(hW:W.heap.size<=pc)(nc:pc≠fb)(ck:pk≠pc)(o:Nat)(v:B7)(ho:o<cs.length):CapE ⟨fb,fo,none⟩ g pc pk (cs.set o v) ct W V (X.setCell ⟨pc,o,none⟩ v):=
 ⟨h.leaves.set (a:=⟨pc,o,none⟩) hW _,(World.cell?_setCell_other _ _ _ _ (fun e=>nc (Addr.mk.inj e).1)).trans h.cell,by simp[go_sem,h.frozen],h.cw.set o v ho,h.ck.other (a:=⟨pc,o,none⟩) (Ne.symm ck) _,fun j h1 h2 h3 h4=>(Below.heap_setCell _ _ _ _ h3).trans (h.heap j h1 h2 h3 h4)⟩
theorem CapE.drew{p:Ce}{pc pk:Nat}{g ct:Bool}{cs:List B7}{W V X:BV}(h:CapE p g pc pk cs ct W V X):CapE p g pc pk cs ct W V X.drew:=⟨h.leaves.drew,h.cell,h.frozen,h.cw,h.ck,h.heap⟩
theorem Jdk{P:Program}{a:Cf}{o:Oper}{w:BV}(ty:TypeId)(x y:Operand)(ho:o.op = .store ty x y)(b off:Nat)(cells:Array B7)(hx:a.eval x = BO (some ⟨b,off,none⟩))(hy:a.eval y = B_ cells)
  (ht:w.there b off cells.size) (hi:(P.info? ty).map (·.size)=some cells.size) (h1:cells.all (·.oneCell')=true):(execOp a.eval o).run P w = .ok .skip (w.setCells b off cells.toList):=by
 unfold execOp;simp only[ho,hx,hy,Instr.storeAt,Instr.sureAddr,Sem.run_bind,Sem.run_pure,Result.andThen_ok,run_storeVar_mid w b off ty cells ht hi h1]
structure CapG(W:BV)(p:Ce)(g:Bool)(pr pk:Nat)(cs:List B7)(ct:Bool)(u:B7)(Ls:List Pt)(w:BV):Prop where
 leaves:Leaves p W w
 cell:w.cell? p=some (BT g)
 frozen:w.frozen? p=false
 cw:CW w pr cs
 ck:CW w pk [BT ct]
 row:w.ownsRow W.heap.size 23 3 u Ls.length (fl3 Ls)
theorem CapG.sets{W:BV}{fb fo:Nat}{g:Bool}{pr pk:Nat}{cs:List B7}{ct:Bool}{u:B7}{Ls:List Pt}{w:BV}(h:CapG W ⟨fb,fo,none⟩ g pr pk cs ct u Ls w)(hW:W.heap.size<=pr)(nr:fb≠pr)(rk:pk≠pr)(nu:u.ownBlock≠some pr):CapG W ⟨fb,fo,none⟩ g pr pk cs ct u Ls (w.setCells pr 0 cs):=
 ⟨h.leaves.sets hW _,(Jaj nr).trans h.cell,(World.frozen?_setCells _ _ _ _ _).trans h.frozen,h.cw.sets rfl,h.ck.apart rk,Jad h.row nu _ _⟩
theorem CapG.put{W:BV}{fb fo:Nat}{g:Bool}{pr pk:Nat}{cs:List B7}{ct:Bool}{u:B7}{Ls:List Pt}{w:BV}(h:CapG W ⟨fb,fo,none⟩ g pr pk cs ct u Ls w)(hW:W.heap.size<=pk)(nk:fb≠pk)(rk:pk≠pr)(nu:u.ownBlock≠some pk):CapG W ⟨fb,fo,none⟩ g pr pk cs ct u Ls (w.setCell ⟨pk,0,none⟩ (BT ct)):=
 ⟨h.leaves.set (a:=⟨pk,0,none⟩) hW _,(World.cell?_setCell_other _ _ _ _ (fun e=>nk (Addr.mk.inj e).1.symm)).trans h.cell,by simp[go_sem,h.frozen],h.cw.other (a:=⟨pk,0,none⟩) rk _,h.ck.set 0 _ (by simp),ownsRow_setCell_other (a:=⟨pk,0,none⟩) h.row nu _⟩
theorem CapG.drew{W:BV}{p:Ce}{g:Bool}{pr pk:Nat}{cs:List B7}{ct:Bool}{u:B7}{Ls:List Pt}{w:BV}(h:CapG W p g pr pk cs ct u Ls w):CapG W p g pr pk cs ct u Ls w.drew:=⟨h.leaves.drew,h.cell,h.frozen,h.cw,h.ck,h.row⟩
theorem Jwg(b:Bd)(R:List B7)(q:V3):((((b.L R).set 8 (J Y q.x)).set 9 (J Y q.y)).set 10 (J Y q.z))=(b.wp q).L R:=rfl
theorem Js1(fb fo pc pw pb pk:Nat)(f:Bool)(b:Bd)(R R1:List B7)(W:BV)(hR:Rest R)(hk:b.k=2)(hp:Sml 64 b.p)(hl:Sml 64 b.l)(V:BV)(aO:fb<W.heap.size)(kj:W.heap.size<=pc)(qg:W.heap.size<=pk)(fZ:Leaves ⟨fb,fo,none⟩ W V)
  (hc:V.cell? ⟨fb,fo,none⟩=some (BT f)) (hf:V.frozen? ⟨fb,fo,none⟩=false) (Cc:CW V pc (b.L R)) (Cw:CW V pw [BO (some ⟨fb,fo,none⟩)]) (Cb:CW V pb (b.L R1)) (Ck:CW V pk [BT false]) (nc:pc≠fb) (nw:pw≠fb) (nb:pb≠fb) (nk:pk≠fb) (cw:pw≠pc) (cb:pb≠pc) (ck:pk≠pc) :
  Cd Tryz.prog 115 #[BO (some ⟨pc,0,none⟩),BO (some ⟨pw,0,none⟩),BO (some ⟨pb,0,none⟩),BO (some ⟨pk,0,none⟩)] V fun e W'=>e = BZ (.tuple #[])/\BU (CapE ⟨fb,fo,none⟩ (f||Jet b) pc pk ((Jbr b).L R) (Jgr b) W V W'):=by
 have aT:fb<V.heap.size:=JB _ _ hc;have aN:pc<V.heap.size:=Cc.lt;have hkV:pk<V.heap.size:=Ck.lt;have yU:pw<V.heap.size:=Cw.lt;have lq:pb<V.heap.size:=Cb.lt;have cO:W.heap.size<=V.heap.size:=fZ.size;obtain⟨X0,iB⟩:∃ X,X=V.alloc (BP #[BT false] 47):=⟨_,rfl⟩
 have aL:B9 V.heap.size V X0:=by rw[iB];exact Jb _ _
 have Co:CW X0 V.heap.size [BT false]:=by rw[iB];exact CW.new V [BT false] 47
 obtain⟨ob,kL⟩:∃ o,o=V.heap.size:=⟨_,rfl⟩
 rw[<- kL]at Co;have Cc:=Cc.step aL;have Cw:=Cw.step aL;have Cb:=Cb.step aL;have Ck:=Ck.step aL;have hf:=Jm aL hc hf;have hc:=Ja aL hc;have no:pc≠ob:=by omega
 have e1:b.wp b.p=b:=rfl;have H1:BU _:=Jj0 117 #[BO (some ⟨ob,0,none⟩),BO (some ⟨pc,0,none⟩)] (enters_of func117 (by kernel_rfl) rfl) ob pc 8 b.wp R (Jh6 b) (Jfh b) false b.p X0 (Co 0 _ rfl).1 (Co 0 _ rfl).2 Cc no hR (by decide) (fun _=>rfl) (fun _=>rfl) (fun _=>rfl) (fun _ _=>rfl)
  (fun q g X h1 h2 h3=>Jqw ob pc b R hR hk q g X h1 h2 h3) (Jig b) hp
 obtain⟨x9,lY⟩:∃ x,x=Jet b:=⟨_,rfl⟩
 obtain⟨d9,o_⟩:∃ x,x=Jbr b:=⟨_,rfl⟩
 obtain⟨t9,i8⟩:∃ x,x=Jgr b:=⟨_,rfl⟩
 rw[<- lY,<- o_,<- i8];have HE:BU (Jdx b=hvd (Jhy (b.wp (Jds b).1)) (Ji4 (b.wp (Jds b).1)) 64 b.l/\x9=((Jds b).2.2 ||(Jdx b).2.2)/\(d9=if b.k=2/\x9=false then (b.wp (Jds b).1).wl (Jdx b).1 else b)/\(t9=if b.k=2/\x9=false then (Jds b).2.1 ||(Jdx b).2.1 else false)):=⟨rfl,lY,by rw[o_,lY];rfl,by rw[i8,lY];rfl⟩
 clear lY o_ i8;have H1:BU (Cd Tryz.prog 116 #[BO (some ⟨pc,8,none⟩),.func (.func 117) #[] #[BO (some ⟨ob,0,none⟩),BO (some ⟨pc,0,none⟩)]] X0 fun e W'=>e = BZ (BT (Jds b).2.1)/\BU (Clo ⟨ob,0,none⟩ (Jds b).2.2 pc ((b.wp (Jds b).1).L R) X0 W')):=by
  have h9:=H1.out;have e9:hvd (Jh6 b) (Jfh b) 64 b.p=Jds b:=rfl;rw[e9]at h9;rw[Bool.false_or]at h9;exact h9
 generalize Jds b=rp at *;have fZ:BU (Leaves _ _ _):=fZ.step (aL.mono cO);have zE:BU (∀ j,j<V.heap.size->X0.heap[j]?=V.heap[j]?):=fun j h=>aL.block j h;have pW:=aL.size;clear Co aL e1;go_enter func115,ntmps115;go_upto_region 1 with fail;rw[<- iB,<- kL];have ho1:ob<=V.heap.size:=by omega
 have eI:V.heap.size<=ob:=by omega
 clear iB kL;go_wp2_with (fail);refine JA H1.out ?_;rintro e X1 ⟨rfl,K1⟩;have K1:BU (Clo _ _ _ _ _ _):=K1.out;clear H1;have H2:BU _:=Jj0 119 #[BO (some ⟨ob,0,none⟩),BO (some ⟨pc,0,none⟩)] (enters_of func119 (by kernel_rfl) rfl) ob pc 11 (b.wp rp.1).wl R (Jhy (b.wp rp.1)) (Ji4 (b.wp rp.1)) rp.2.2 b.l X1 K1.out.cell K1.out.frozen K1.out.cw no hR (by decide) (fun _=>rfl) (fun _=>rfl) (fun _=>rfl) (fun _ _=>rfl)
  (fun q g X h1 h2 h3=>Jp0 ob pc (b.wp rp.1) R hR hk q g X h1 h2 h3) (Jiv (b.wp rp.1)) hl
 have H2:BU (Cd Tryz.prog 116 #[BO (some ⟨pc,11,none⟩),.func (.func 119) #[] #[BO (some ⟨ob,0,none⟩),BO (some ⟨pc,0,none⟩)]] X1 fun e W'=>e = BZ (BT (Jdx b).2.1)/\BU (Clo ⟨ob,0,none⟩ (rp.2.2 ||(Jdx b).2.2) pc (((b.wp rp.1).wl (Jdx b).1).L R) X1 W')):=by
  have h9:=H2.out;rw[<- HE.out.1]at h9;exact h9
 generalize Jdx b=rl at *;go_wp2_with (fail);refine JA H2.out ?_;rintro e X2 ⟨rfl,K2⟩;have T2:=K1.out.two.trans K2.out.two;have K2:BU (Clo _ _ _ _ _ _):=K2.out;have l_:BU (Leaves ⟨fb,fo,none⟩ W X2):=fZ.out.step (T2.keep (B:=W.heap.size) (by show _<=ob;omega) kj (by omega));have vA:BU (∀ j,j<V.heap.size->j≠pc->X2.heap[j]?=V.heap[j]?):=fun j h1 h2=>(T2.kept.2.2.2 j (by omega) (by show j≠ob;omega) h2).trans (zE.out j h1);have Cw:=Cw.two T2 (by show pw≠ob;omega) cw;have Cb:=Cb.two T2 (by show pb≠ob;omega) cb;have Ck:=Ck.two T2 (by show pk≠ob;omega) ck;have dm:=T2.other ⟨fb,fo,none⟩ (by show fb<_;omega) (by show fb≠ob;omega) (fun e=>nc e.symm);have bF:=dm.1.trans hc;have b_:=dm.2.trans hf;have ho:=K2.out.cell;have Cc:=K2.out.cw;have nc':fb≠pc:=fun e=>nc e.symm;have nk':fb≠pk:=fun e=>nk e.symm;have kw:=(Cw 0 _ rfl).1;clear H2 K1 T2 dm hc hf fZ zE K2;have HX:BU (x9=(rp.2.2||rl.2.2)):=HE.out.2.1;have HD:BU (d9=if b.k=2/\x9=false then (b.wp rp.1).wl rl.1 else b):=HE.out.2.2.1;have HT:BU (t9=if b.k=2/\x9=false then rp.2.1||rl.2.1 else false):=HE.out.2.2.2;clear HE;rw[<- HX.out]at ho;cases x9 with
 | true =>
  obtain⟨p0,g0⟩:=Cc 8 _ rfl;obtain⟨p1,g1⟩:=Cc 9 _ rfl;obtain⟨p2,g2⟩:=Cc 10 _ rfl;obtain⟨p3,g3⟩:=Cc 11 _ rfl;obtain⟨p4,g4⟩:=Cc 12 _ rfl;obtain⟨p5,g5⟩:=Cc 13 _ rfl;have b0:=(Cb 8 _ rfl).1;have b1:=(Cb 9 _ rfl).1;have b2:=(Cb 10 _ rfl).1;have b3:=(Cb 11 _ rfl).1;have b4:=(Cb 12 _ rfl).1;have b5:=(Cb 13 _ rfl).1;have tr:BU (CW _ _ _):=Cc;have kN:BU (CW _ _ _):=Ck;clear Cb Cw Ck Cc;have fC:BU (d9=b):=by show _=_;rw[HD.out,if_neg (fun h=>by cases h.2)]
  have i8:BU (t9=false):=by show _=_;rw[HT.out,if_neg (fun h=>by cases h.2)]
  clear HD HT HX;go_upto_region 5 with fail;go_region;go_wp2_with (fail);refine bodyPost_ret (results_none results115 _ _ _) rfl ?_;refine⟨rfl,?_⟩;rw[fC.out,i8.out,Bool.or_true];have zF:=hR.all ((b.wp rp.1).wl rl.1);have h9:CapE ⟨fb,fo,none⟩ f pc pk (((b.wp rp.1).wl rl.1).L R) false W V X2:=⟨l_.out,bF,b_,tr.out,kN.out,fun j h1 _ h3 _=>vA.out j h1 h3⟩
  have h9:=(((h9.flag nc nk).put kj nc ck 8 (J Y b.p.x) (by omega)).put kj nc ck 9 (J Y b.p.y) (by simp;omega)).put kj nc ck 10 (J Y b.p.z) (by simp;omega);have h9:=((h9.put kj nc ck 11 (J Y b.l.x) (by simp;omega)).put kj nc ck 12 (J Y b.l.y) (by simp;omega)).put kj nc ck 13 (J Y b.l.z) (by simp;omega);exact h9.drew
 | false =>
  obtain⟨r0,q0⟩:=Ck 0 _ rfl;have tr:BU (CW _ _ _):=Cc;have kN:BU (CW _ _ _):=Ck;clear Cb Cw Ck Cc;have fC:BU (d9=(b.wp rp.1).wl rl.1):=by show _=_;rw[HD.out,if_pos ⟨hk,rfl⟩]
  have i8:BU (t9=(rp.2.1||rl.2.1)):=by show _=_;rw[HT.out,if_pos ⟨hk,rfl⟩]
  clear HD HT HX;generalize rp.2.1=s1 at *;generalize rl.2.1=s2 at *;cases s1 with
  | true =>
   go_wp2_with (fail)
   go_end0
   refine⟨rfl,?_⟩;rw[fC.out,i8.out,Bool.or_false,Bool.true_or];exact⟨l_.out.set qg _,(World.cell?_setCell_other _ _ _ _ (fun e=>nk (Addr.mk.inj e).1)).trans bF,by simp[go_sem,b_],tr.out.other (a:=⟨pk,0,none⟩) ck _,kN.out.set 0 (BT true) (by simp),fun j h1 h2 h3 h4=>(Below.heap_setCell _ _ _ _ h4).trans (vA.out j h1 h3)⟩
  | false =>
   go_wp2_with (fail)
   go_end0
   refine⟨rfl,?_⟩;rw[fC.out,i8.out,Bool.or_false,Bool.false_or];exact⟨l_.out.set qg _,(World.cell?_setCell_other _ _ _ _ (fun e=>nk (Addr.mk.inj e).1)).trans bF,by simp[go_sem,b_],tr.out.other (a:=⟨pk,0,none⟩) ck _,kN.out.set 0 (BT s2) (by simp),fun j h1 h2 h3 h4=>(Below.heap_setCell _ _ _ _ h4).trans (vA.out j h1 h3)⟩
theorem Juf(fb fo:Nat)(f:Bool)(b:Bd)(R:List B7)(pv:B7)(Ls:List Pt)(hR:RestP R pv)(hp:Sml 64 b.p)(iQ:Sml 64 b.l)(W:BV)(hc:W.cell? ⟨fb,fo,none⟩=some (BT f))(hf:W.frozen? ⟨fb,fo,none⟩=false)(hv:Lies W pv Ls)(hl:Ls.length<=100000):
  Cd Tryz.prog 50 #[BO (some ⟨fb,fo,none⟩),B_ (b.L R).toArray] W fun e W'=>∃ u,e = BZ (.tuple #[B_ ((Jbr b).L (R.set 5 u)).toArray,BT (Jgr b)])/\BU (After ⟨fb,fo,none⟩ (f||Jav b.k (Jet b)) W W')/\BU (W'.ownsRow W.heap.size 23 3 u Ls.length (fl3 Ls)):=by
 have aO:fb<W.heap.size:=JB _ _ hc;have hz:BU _:=Jj hR.rest b;obtain⟨V,hV⟩:∃ V,V=((((W.alloc (BP #[BO (some ⟨fb,fo,none⟩)] 45)).alloc (BP (b.L R).toArray 39)).alloc (BP #[J Y 0,J Y 0,J Y 0,J Y 0,J Y 0,J Y 0,J Y 0,J Y 0,J Y 0,J Y 0,J Y 0,J Y 0,J Y 0,J Y 0,J Y 0,J Y 0,J Y 0,J Y 0,J Y 0,J Y 0,J Y 0,J Y 0,J Y 0,BQ none 0 0,J Y 0,J Y 0,J Y 0,BT false,J Y 0,BT false,BT false] 39)).alloc (BP #[BT false] 4)):=⟨_,rfl⟩
 have aL:=Jb W (BP #[BO (some ⟨fb,fo,none⟩)] 45);have ac:=Jb (W.alloc (BP #[BO (some ⟨fb,fo,none⟩)] 45)) (BP (b.L R).toArray 39);have aj:=Jb ((W.alloc (BP #[BO (some ⟨fb,fo,none⟩)] 45)).alloc (BP (b.L R).toArray 39)) (BP #[J Y 0,J Y 0,J Y 0,J Y 0,J Y 0,J Y 0,J Y 0,J Y 0,J Y 0,J Y 0,J Y 0,J Y 0,J Y 0,J Y 0,J Y 0,J Y 0,J Y 0,J Y 0,J Y 0,J Y 0,J Y 0,J Y 0,J Y 0,BQ none 0 0,J Y 0,J Y 0,J Y 0,BT false,J Y 0,BT false,BT false] 39);have ao:=Jb (((W.alloc (BP #[BO (some ⟨fb,fo,none⟩)] 45)).alloc (BP (b.L R).toArray 39)).alloc (BP #[J Y 0,J Y 0,J Y 0,J Y 0,J Y 0,J Y 0,J Y 0,J Y 0,J Y 0,J Y 0,J Y 0,J Y 0,J Y 0,J Y 0,J Y 0,J Y 0,J Y 0,J Y 0,J Y 0,J Y 0,J Y 0,J Y 0,J Y 0,BQ none 0 0,J Y 0,J Y 0,J Y 0,BT false,J Y 0,BT false,BT false] 39)) (BP #[BT false] 4);have Cw:CW V (W.heap.size) [BO (some ⟨fb,fo,none⟩)]:=by
  have h9:=(((CW.new W [BO (some ⟨fb,fo,none⟩)] 45).step ac).step aj).step ao;rw[hV];exact h9
 have Cb:CW V (W.heap.size+1) (b.L R):=by
  have h9:=((CW.new (W.alloc (BP #[BO (some ⟨fb,fo,none⟩)] 45)) (b.L R) 39).step aj).step ao;simp only[JE]at h9;rw[hV];exact h9
 have Cr:CW V (W.heap.size+1+1) [J Y 0,J Y 0,J Y 0,J Y 0,J Y 0,J Y 0,J Y 0,J Y 0,J Y 0,J Y 0,J Y 0,J Y 0,J Y 0,J Y 0,J Y 0,J Y 0,J Y 0,J Y 0,J Y 0,J Y 0,J Y 0,J Y 0,J Y 0,BQ none 0 0,J Y 0,J Y 0,J Y 0,BT false,J Y 0,BT false,BT false]:=by
  have h9:=(CW.new ((W.alloc (BP #[BO (some ⟨fb,fo,none⟩)] 45)).alloc (BP (b.L R).toArray 39)) [J Y 0,J Y 0,J Y 0,J Y 0,J Y 0,J Y 0,J Y 0,J Y 0,J Y 0,J Y 0,J Y 0,J Y 0,J Y 0,J Y 0,J Y 0,J Y 0,J Y 0,J Y 0,J Y 0,J Y 0,J Y 0,J Y 0,J Y 0,BQ none 0 0,J Y 0,J Y 0,J Y 0,BT false,J Y 0,BT false,BT false] 39).step ao;simp only[JE]at h9;rw[hV];exact h9
 have Ck:CW V (W.heap.size+1+1+1) [BT false]:=by
  have h9:=CW.new (((W.alloc (BP #[BO (some ⟨fb,fo,none⟩)] 45)).alloc (BP (b.L R).toArray 39)).alloc (BP #[J Y 0,J Y 0,J Y 0,J Y 0,J Y 0,J Y 0,J Y 0,J Y 0,J Y 0,J Y 0,J Y 0,J Y 0,J Y 0,J Y 0,J Y 0,J Y 0,J Y 0,J Y 0,J Y 0,J Y 0,J Y 0,J Y 0,J Y 0,BQ none 0 0,J Y 0,J Y 0,J Y 0,BT false,J Y 0,BT false,BT false] 39)) [BT false] 4;simp only[JE]at h9;rw[hV];exact h9
 have hB:B9 W.heap.size W V:=by rw[hV];exact(Jc (Jc (Jc aL ac) aj) ao)
 have aN:=Ja hB hc;have aT:=Jm hB hc hf;have aY:BU (Leaves ⟨fb,fo,none⟩ W V):=(Leaves.refl _ _).step hB;clear aL ac aj ao;have fZ:W.heap.size<=V.heap.size:=hB.size;have im:BU _:=Jda b R pv Ls hR V (hv.below hB) hl;clear hc hf hv hB;go_enter func50,ntmps50;go_upto_region 1 with fail;rw[<- hV];clear hV;obtain⟨pk,xS⟩:∃ p,p=W.heap.size+1+1+1:=⟨_,rfl⟩
 obtain⟨pr,aB⟩:∃ p,p=W.heap.size+1+1:=⟨_,rfl⟩
 obtain⟨pb,aF⟩:∃ p,p=W.heap.size+1:=⟨_,rfl⟩
 obtain⟨pw,bE⟩:∃ p,p=W.heap.size:=⟨_,rfl⟩
 rw[<- xS]at Ck;rw[<- aB]at Cr;rw[<- aF]at Cb;rw[<- bE]at Cw;rw[<- xS,<- aB,<- aF,<- bE];have nw:pw≠fb:=by omega
 have nb:pb≠fb:=by omega
 have nr:pr≠fb:=by omega
 have nk:pk≠fb:=by omega
 have rw:pw≠pr:=by omega
 have rb:pb≠pr:=by omega
 have rk:pk≠pr:=by omega
 have nr':fb≠pr:=by omega
 have nk':fb≠pk:=by omega
 have aE:W.heap.size<=pr:=by omega
 have qg:W.heap.size<=pk:=by omega
 have nX:pr<V.heap.size:=Cr.lt;have hkV:pk<V.heap.size:=Ck.lt;have bS:([J Y 0,J Y 0,J Y 0,J Y 0,J Y 0,J Y 0,J Y 0,J Y 0,J Y 0,J Y 0,J Y 0,J Y 0,J Y 0,J Y 0,J Y 0,J Y 0,J Y 0,J Y 0,J Y 0,J Y 0,J Y 0,J Y 0,J Y 0,BQ none 0 0,J Y 0,J Y 0,J Y 0,BT false,J Y 0,BT false,BT false]:List B7).length=31:=rfl;generalize([J Y 0,J Y 0,J Y 0,J Y 0,J Y 0,J Y 0,J Y 0,J Y 0,J Y 0,J Y 0,J Y 0,J Y 0,J Y 0,J Y 0,J Y 0,J Y 0,J Y 0,J Y 0,J Y 0,J Y 0,J Y 0,J Y 0,J Y 0,BQ none 0 0,J Y 0,J Y 0,J Y 0,BT false,J Y 0,BT false,BT false]:List B7)=zl at *;have au:BU (World.rangeAt V pb 0 (b.L R)):=Cb.range;clear bE aF aB xS;go_wp2_with (refine wpList_load_mid rfl 39 _ rfl pb 0 rfl _ _ au.out underlying39 rfl hz.out ?_);refine JA im.out ?_;rintro e W1 ⟨u,rfl,HR⟩;have aW:=hR.set (Jbb HR.out.row);have ac:=HR.out.below;have iV:=ac.size;have Cw:=Cw.step ac;have Cb:=Cb.step ac;have Cr:=Cr.step ac;have Ck:=Ck.step ac;have dF:=aY.out.step (ac.mono aY.out.size);have bU:=Ja ac aN;have eK:=Jm ac aN aT;have nuk:u.ownBlock≠some pk:=fun e=>by have:=(HR.out.row.lt _ e).1;omega
 have nuf:u.ownBlock≠some fb:=fun e=>by have:=(HR.out.row.lt _ e).1;omega
 have nur:u.ownBlock≠some pr:=fun e=>by have:=(HR.out.row.lt _ e).1;omega
 have bX:BU _:=Jad (Go.Joins.ownsRow_le HR.out.row fZ) nur (b.L (R.set 5 u)) 0;have bT:BU (World.there W1 pr 0 (b.L (R.set 5 u)).toArray.size):=Cr.there31 bS aW.rest;have eL:BU _:=Jn aW.rest b;have dw:BU _:=aW.rest.each b;have Cr:=Cr.sets (us:=b.L (R.set 5 u)) (by rw[aW.rest.all,bS]);have Cw:=Cw.apart (us:=b.L (R.set 5 u)) rw;have Cb:=Cb.apart (us:=b.L (R.set 5 u)) rb;have Ck:=Ck.apart (us:=b.L (R.set 5 u)) rk;have bL:BU (Leaves ⟨fb,fo,none⟩ W (W1.setCells pr 0 (b.L (R.set 5 u)))):=dF.sets aE _;have bF:=(Jaj (w:=W1) (vs:=b.L (R.set 5 u)) (o:=fo) nr').trans bU;have b_:=(World.frozen?_setCells pr (b.L (R.set 5 u)) 0 W1 ⟨fb,fo,none⟩).trans eK;have bJ:BU (World.rangeAt (W1.setCells pr 0 (b.L (R.set 5 u))) pb 0 (b.L R)):=Cb.range;clear im au aN aT aY dF bU eK ac HR;by_cases hk:b.k=2
 ·have HC:BU _:=Jeq b R hk 115 #[BO (some ⟨pr,0,none⟩),BO (some ⟨pw,0,none⟩),BO (some ⟨pb,0,none⟩),BO (some ⟨pk,0,none⟩)] (enters_of func115 (by kernel_rfl) rfl) (fun X=>BU (CapE ⟨fb,fo,none⟩ (f||Jet b) pr pk ((Jbr b).L (R.set 5 u)) (Jgr b) W ((W1.setCells pr 0 (b.L (R.set 5 u))).alloc (BP (b.L R).toArray 39)) X)) (W1.setCells pr 0 (b.L (R.set 5 u)))
   (Js1 fb fo pr pw pb pk f b (R.set 5 u) R W aW.rest hk hp iQ ((W1.setCells pr 0 (b.L (R.set 5 u))).alloc (BP (b.L R).toArray 39)) aO aE qg (bL.out.step ((Jb (W1.setCells pr 0 (b.L (R.set 5 u))) _).mono bL.out.size)) (Ja (Jb _ _) bF) (Jm (Jb _ _) bF b_) (Cr.step (Jb _ _)) (Cw.step (Jb _ _)) (Cb.step (Jb _ _)) (Ck.step (Jb _ _)) nr nw nb nk rw rb rk)
  clear Cw Cb Cr Ck;go_wp2_with (first | refine wpList_store_mid rfl 39 _ _ rfl pr 0 _ rfl rfl bT.out eL.out dw.out ?_ | refine wpList_load_mid rfl 39 _ rfl pb 0 rfl _ _ bJ.out underlying39 rfl hz.out ?_);refine JA HC.out ?_;rintro e W3 ⟨rfl,HK⟩;have cG:BU (Leaves ⟨fb,fo,none⟩ W W3):=HK.out.leaves;have bV:=HK.out.cell;have cP:=HK.out.frozen;have bZ:=HK.out.cw;have rG:=HK.out.ck;have cm:BU _:=Jed (w':=W3) (Jq bX.out (Jb _ _)) (fun g hg=>HK.out.heap g ((Jq bX.out (Jb _ _)).lt g hg).2 (fun e=>nuf (by rw[hg,e])) (fun e=>nur (by rw[hg,e])) (fun e=>nuk (by rw[hg,e])));clear HC HK bJ bT bF b_ bX bL;have bC:BU _:=Jj aW.rest (Jbr b);have cd:BU _:=Jn aW.rest (Jbr b);have bW:BU _:=aW.rest.each (Jbr b);have HG:BU _:=(⟨cG.out,bV,cP,bZ,rG,cm.out⟩:CapG W ⟨fb,fo,none⟩ ((f||Jet b)) pr pk ((Jbr b).L (R.set 5 u)) (Jgr b) u Ls W3)
  clear bZ rG cG cm bV cP;generalize aM:(Jbr b).L (R.set 5 u)=cs at *;have bH:BU _:=aM;clear aM;generalize lC:Jgr b=ct at *;have vB:BU _:=lC;clear lC;go_upto_region 3 with fail;refine Bq [.some (B_ cs.toArray),.some (BT ct),none,none] [12,13,0,0] [(4,BO (some ⟨pr,0,none⟩)),(5,BO (some ⟨pk,0,none⟩))] (fun(γ:Nat->B7) (L:Nat->Bool) w=>CapG W ⟨fb,fo,none⟩ (f||Jet b) pr pk cs ct u Ls w) ⟨rfl,rfl,trivial⟩ ?_ ?_ ?_
  ·exact HG.out.drew
  ·intro D WA Z hD ah hZ T;simp only[RV.Outs,RV.Slots,Nat.reduceAdd]at T;refine Br _ (BJ (fun γ L a w hH hl hA=>by have h9:=T γ L a w hH;exact⟨B_ cs.toArray,w,Jax 39 _ rfl pr 0 (by simp[go_sem,h9]) _ _ hH.glob.cw.range underlying39 rfl bC.out,rfl,fun _ _ _ h=>h,hH.glob⟩)) ?_
   (refine Br _ (Bs T (fun γ v L w hl h=>h) (fun γ L a w hH hl h9 k9=>⟨_,?_,rfl⟩)) ?_;· have q0:=(hH.glob.ck 0 _ rfl).1;simp[execOp,go_sem,h9,q0])
   refine Br _ (Bz (fun γ L a w hH hl hA=>by have h9:=T γ L a w hH;have k9:=hA;simp[JC]at k9;exact⟨w.setCells pr 0 cs,Jdk 39 _ _ rfl pr 0 cs.toArray (by simp[go_sem,h9]) (by simp[go_sem,h9,k9]) (by rw[List.size_toArray];exact hH.glob.cw.there) cd.out bW.out,trivial,fun j v _ h=>h.keep _,hH.glob.sets aE nr' rk nur⟩)) ?_;refine Br _ (Bz (fun γ L a w hH hl hA=>by have h9:=T γ L a w hH;have k9:=hA;simp[JC]at k9;have z0:=(hH.glob.ck 0 _ rfl).1;have zf:=(hH.glob.ck 0 _ rfl).2;exact⟨w.setCell ⟨pk,0,none⟩ (BT ct),by simp[execOp,go_sem,z0,zf,h9,k9],trivial,fun j v _ h=>h.keep _,hH.glob.put qg nk' rk nuk⟩)) ?_;exact RV.AllDo.nil
  ·intro γ w5 L9 hL aX aD;have iI:BU (CapG _ _ _ _ _ _ _ _ _ _):=aD;clear hL aX aD;simp only[RV.putL,Act.put,List.setIfInBounds_toArray,List.set_cons_zero,List.set_cons_succ];go_wp2_with (fail);refine bodyPost_ret (Jhl (u:=BT ct) 4 5 39 4 results50 ⟨pr,0,none⟩ ⟨pk,0,none⟩ rfl rfl (run_loadVar_mid _ pr 0 39 cs _ iI.out.cw.range underlying39 rfl bC.out) (by have z0:=(iI.out.ck 0 _ rfl).1;simp[go_sem,z0])) rfl ?_;exact⟨u,by rw[<- bH.out,<- vB.out],by rw[Jav,if_pos hk];exact iI.out.leaves.done iI.out.cell iI.out.frozen,iI.out.row⟩
 ·have HC:BU _:=Jgl b R (.func (.func 115) #[] #[BO (some ⟨pr,0,none⟩),BO (some ⟨pw,0,none⟩),BO (some ⟨pb,0,none⟩),BO (some ⟨pk,0,none⟩)]) hk (W1.setCells pr 0 (b.L (R.set 5 u)));have dC:BU (CW _ _ _):=Cr;have zG:BU (CW _ _ _):=Ck;have hD:Jbr b=b:=by unfold Jbr;rw[if_neg (fun h=>hk h.1)]
  have hC:Jgr b=false:=by unfold Jgr;rw[if_neg (fun h=>hk h.1)]
  have qh:BU _:=And.intro hD hC;clear Cw Cb Cr Ck hD hC;go_wp2_with (first | refine wpList_store_mid rfl 39 _ _ rfl pr 0 _ rfl rfl bT.out eL.out dw.out ?_ | refine wpList_load_mid rfl 39 _ rfl pb 0 rfl _ _ bJ.out underlying39 rfl hz.out ?_);refine JA HC.out ?_;rintro e W3 ⟨rfl,HK⟩;have cG:BU (Leaves ⟨fb,fo,none⟩ W W3):=bL.out.step (HK.out.mono bL.out.size);have bV:=Ja HK.out bF;have cP:=Jm HK.out bF b_;have bZ:=dC.out.step HK.out;have rG:=zG.out.step HK.out;have cm:BU _:=Jq bX.out HK.out;clear HC HK bJ bT bF b_ bX bL dC zG;have bC:BU _:=Jj aW.rest (b);have cd:BU _:=Jn aW.rest (b);have bW:BU _:=aW.rest.each (b);have HG:BU _:=(⟨cG.out,bV,cP,bZ,rG,cm.out⟩:CapG W ⟨fb,fo,none⟩ (f) pr pk ((b).L (R.set 5 u)) (false) u Ls W3)
  clear bZ rG cG cm bV cP;generalize aM:(b).L (R.set 5 u)=cs at *;have bH:BU _:=aM;clear aM;obtain⟨ct,lC⟩:∃ x,false=x:=⟨_,rfl⟩
  rw[lC]at HG;have vB:BU _:=lC;clear lC;go_upto_region 3 with fail;refine Bq [.some (B_ cs.toArray),.some (BT ct),none,none] [12,13,0,0] [(4,BO (some ⟨pr,0,none⟩)),(5,BO (some ⟨pk,0,none⟩))] (fun(γ:Nat->B7) (L:Nat->Bool) w=>CapG W ⟨fb,fo,none⟩ f pr pk cs ct u Ls w) ⟨rfl,rfl,trivial⟩ ?_ ?_ ?_
  ·exact HG.out.drew
  ·intro D WA Z hD ah hZ T;simp only[RV.Outs,RV.Slots,Nat.reduceAdd]at T;refine Br _ (BJ (fun γ L a w hH hl hA=>by have h9:=T γ L a w hH;exact⟨B_ cs.toArray,w,Jax 39 _ rfl pr 0 (by simp[go_sem,h9]) _ _ hH.glob.cw.range underlying39 rfl bC.out,rfl,fun _ _ _ h=>h,hH.glob⟩)) ?_
   (refine Br _ (Bs T (fun γ v L w hl h=>h) (fun γ L a w hH hl h9 k9=>⟨_,?_,rfl⟩)) ?_;· have q0:=(hH.glob.ck 0 _ rfl).1;simp[execOp,go_sem,h9,q0])
   refine Br _ (Bz (fun γ L a w hH hl hA=>by have h9:=T γ L a w hH;have k9:=hA;simp[JC]at k9;exact⟨w.setCells pr 0 cs,Jdk 39 _ _ rfl pr 0 cs.toArray (by simp[go_sem,h9]) (by simp[go_sem,h9,k9]) (by rw[List.size_toArray];exact hH.glob.cw.there) cd.out bW.out,trivial,fun j v _ h=>h.keep _,hH.glob.sets aE nr' rk nur⟩)) ?_;refine Br _ (Bz (fun γ L a w hH hl hA=>by have h9:=T γ L a w hH;have k9:=hA;simp[JC]at k9;have z0:=(hH.glob.ck 0 _ rfl).1;have zf:=(hH.glob.ck 0 _ rfl).2;exact⟨w.setCell ⟨pk,0,none⟩ (BT ct),by simp[execOp,go_sem,z0,zf,h9,k9],trivial,fun j v _ h=>h.keep _,hH.glob.put qg nk' rk nuk⟩)) ?_;exact RV.AllDo.nil
  ·intro γ w5 L9 hL aX aD;have iI:BU (CapG _ _ _ _ _ _ _ _ _ _):=aD;clear hL aX aD;simp only[RV.putL,Act.put,List.setIfInBounds_toArray,List.set_cons_zero,List.set_cons_succ];go_wp2_with (fail);refine bodyPost_ret (Jhl (u:=BT ct) 4 5 39 4 results50 ⟨pr,0,none⟩ ⟨pk,0,none⟩ rfl rfl (run_loadVar_mid _ pr 0 39 cs _ iI.out.cw.range underlying39 rfl bC.out) (by have z0:=(iI.out.ck 0 _ rfl).1;simp[go_sem,z0])) rfl ?_;exact⟨u,by rw[qh.out.1,qh.out.2,bH.out,vB.out],by rw[Jav,if_neg hk,Bool.or_false];exact iI.out.leaves.done iI.out.cell iI.out.frozen,iI.out.row⟩
theorem Jhi(a:V3)(w:BV)(ha:Sml 64 a):
  Cd Tryz.prog 88 #[a.val] w fun e W=>e = BZ (hlf a).val/\BU (B9 w.heap.size w W):=by
 obtain⟨w0,w1,w2⟩:=Jmb ha;obtain⟨x,y,z⟩:=a;have HW:BU _:=And.intro w0 (And.intro w1 w2);have hB:BU (B9 w.heap.size w ((w.alloc (BP #[J Y x,J Y y,J Y z] 27)).alloc (BP #[J Y 0,J Y 0,J Y 0] 27))):=Jc (Jb w _) (Jb _ _);clear w0 w1 w2;go_enter func88,ntmps88;go_wp2;refine bodyPost_ret (v:=B_ #[J Y (wrap64 (x.tdiv 2)),J Y (wrap64 (y.tdiv 2)),J Y (wrap64 (z.tdiv 2))]) (by simp[results,results88,go_sem]) rfl ?_;refine⟨?_,?_⟩
 ·rw[HW.out.1,HW.out.2.1,HW.out.2.2]
 ·show B9 _ _ _
  go_grown
theorem Jdt{P:Program}{fn:Func}{tmps:Array B7}{w:BV}{v:B7}(a c:Nat)(t:TypeId)(hr:fn.results = #[.cell a t,.tmp c])(p:Ce)(ha:tmps[a]?.getD undef = BO (some p))(h:(loadVar t p).run P w = .ok v w):(results fn tmps).run P w = .ok (.tuple #[v,tmps[c]?.getD undef]) w:=by
 unfold results;rw[hr];simp[ha,asAddr,h]
theorem Jck{P:Program}{ops:Array Oper}{rest:List Oper}{op:Oper}{a:Cf}{w:BV}{Q:Exit->Cf->BV->Prop}(hw:Region.wanted op (yielded ops a.tmps)=true)(ty:TypeId)(x:Operand)(ho:op.op = .load ty x)
  (b o:Nat) (hx:a.eval x = BO (some ⟨b,o,none⟩)) (cs:List B7) (d:TypeDesc) (hc:w.rangeAt b o cs)
  (hu:P.underlying ty=some d) (hd:d.isRow=true) (hi:(P.info? ty).map (·.size)=some cs.length)
  (h:wpList P ops Q rest (a.put op.dst (B_ cs.toArray)) w):wpList P ops Q (op::rest) a w:=by
 unfold wpList;rw[if_pos hw];exact .inl (wp_load_mid ty x ho b o hx cs d hc hu hd hi h)
def Jv(slow bad:V3->Bool)(R9:V3 × Bool × Bool)(n:Nat)(q:V3)(did g:Bool):Prop:=(g=true/\R9.2.2=true)\/(g=false/\Hv slow bad R9 false n q did false)
def Je(R9:V3 × Bool × Bool)(q:V3)(did g:Bool):Prop:=g=R9.2.2/\(g=false->q=R9.1/\did=R9.2.1)
theorem Jv.stop{slow bad:V3->Bool}{R9:V3 × Bool × Bool}{n:Nat}{q:V3}{did:Bool}(h:Hv slow bad R9 false n q did false)(hs:slow q=true):Je R9 q did (bad q):=by
 obtain⟨a,b,c⟩:=h.stop hs;rw[Bool.false_or,Bool.false_or]at c;exact⟨c,fun _=>⟨a,b⟩⟩
theorem Jv.next{slow bad:V3->Bool}{R9:V3 × Bool × Bool}{n:Nat}{q:V3}{did:Bool}(h:Hv slow bad R9 false n q did false)(h0:slow ⟨0,0,0⟩=true)(hs:slow q=false):∃ m,n=m+1/\Jv slow bad R9 m (hlf q) true (bad q):=by
 obtain⟨m,e,k⟩:=h.next h0 hs
 refine⟨m,e,?_⟩;cases hb:bad q with
 | true =>
  have:=k.bad;rw[hb]at this;simp at this;exact Or.inl ⟨rfl,this⟩
 | false =>
  rw[hb]at k;exact Or.inr ⟨rfl,k⟩
def Jwe(d:Bool)(r:V3 × Bool × Bool):V3 × Bool × Bool:=(r.1,d||r.2.1,r.2.2)
theorem Jt6{b:Bd}{rp:V3 × Bool × Bool}{q1:V3}{d1 g1:Bool}(m_:Jds b=rp)(h:Je rp q1 d1 g1)(hl:Sml 64 b.l):∃ rl,Jv (Jhy (b.wp q1)) (Ji4 (b.wp q1)) rl 64 b.l d1 g1/\∀ q d g,Je rl q d g->g=Jet b/\(g=false->(b.wp q1).wl q=(b.wp (Jds b).1).wl (Jdx b).1/\d=((Jds b).2.1 ||(Jdx b).2.1)):=by
 obtain⟨h1,h2⟩:=h;cases g1 with
 | true =>
  refine⟨(b.l,d1,true),Or.inl ⟨rfl,rfl⟩,fun q d g hj=>?_⟩;have hg:g=true:=hj.1;refine⟨?_,fun e=>by rw[hg]at e;cases e⟩;unfold Jet;rw[hg,m_,<- h1];rfl
 | false =>
  obtain⟨e1,e2⟩:=h2 rfl;refine⟨Jwe d1 (Jdx b),Or.inr ⟨rfl,?_⟩,fun q d g hj=>?_⟩
  ·have e:Jdx b=hvd (Jhy (b.wp q1)) (Ji4 (b.wp q1)) 64 b.l:=by unfold Jdx;rw[m_,e1]
   rw[e];exact⟨rfl,rfl,rfl,hl⟩
  ·have hg:g=(Jdx b).2.2:=hj.1;refine⟨?_,fun e=>?_⟩
   ·unfold Jet;rw[m_,<- h1,hg];rfl
   ·obtain⟨k1,k2⟩:=hj.2 e;have k1:q=(Jdx b).1:=k1;have k2:d=(d1 ||(Jdx b).2.1):=k2;rw[m_,<- e1,<- e2,k1,k2];exact⟨rfl,rfl⟩
theorem Jhv(fb fo:Nat)(f:Bool)(b:Bd)(R0:List B7)(dZ:Rest R0)(hp:Sml 64 b.p)(hl:Sml 64 b.l)(W:BV)(hc:W.cell? ⟨fb,fo,none⟩=some (BT f))(hf:W.frozen? ⟨fb,fo,none⟩=false):
  Cd Tryz.prog 29 #[BO (some ⟨fb,fo,none⟩),B_ (b.L R0).toArray] W fun e W'=>e = BZ (.tuple #[B_ ((Jbr b).L R0).toArray,BT (Jgr b)])/\BU (After ⟨fb,fo,none⟩ (f||Jav b.k (Jet b)) W W'):=by
 have aO:fb<W.heap.size:=JB _ _ hc;have hR:BU (Rest _):=dZ;have eW:BU _:=Jj dZ b;obtain⟨V,hV⟩:∃ V,V=((W.alloc (BP (b.L R0).toArray 39)).alloc (BP #[J Y 0,J Y 0,J Y 0,J Y 0,J Y 0,J Y 0,J Y 0,J Y 0,J Y 0,J Y 0,J Y 0,J Y 0,J Y 0,J Y 0,J Y 0,J Y 0,J Y 0,J Y 0,J Y 0,J Y 0,J Y 0,J Y 0,J Y 0,BQ none 0 0,J Y 0,J Y 0,J Y 0,BT false,J Y 0,BT false,BT false] 39)):=⟨_,rfl⟩
 have aL:=Jb W (BP (b.L R0).toArray 39);have ac:=Jb (W.alloc (BP (b.L R0).toArray 39)) (BP #[J Y 0,J Y 0,J Y 0,J Y 0,J Y 0,J Y 0,J Y 0,J Y 0,J Y 0,J Y 0,J Y 0,J Y 0,J Y 0,J Y 0,J Y 0,J Y 0,J Y 0,J Y 0,J Y 0,J Y 0,J Y 0,J Y 0,J Y 0,BQ none 0 0,J Y 0,J Y 0,J Y 0,BT false,J Y 0,BT false,BT false] 39);have Cb:CW V (W.heap.size) (b.L R0):=by
  have h9:=(CW.new W (b.L R0) 39).step ac;rw[hV];exact h9
 have Cr:CW V (W.heap.size+1) [J Y 0,J Y 0,J Y 0,J Y 0,J Y 0,J Y 0,J Y 0,J Y 0,J Y 0,J Y 0,J Y 0,J Y 0,J Y 0,J Y 0,J Y 0,J Y 0,J Y 0,J Y 0,J Y 0,J Y 0,J Y 0,J Y 0,J Y 0,BQ none 0 0,J Y 0,J Y 0,J Y 0,BT false,J Y 0,BT false,BT false]:=by
  have h9:=CW.new (W.alloc (BP (b.L R0).toArray 39)) [J Y 0,J Y 0,J Y 0,J Y 0,J Y 0,J Y 0,J Y 0,J Y 0,J Y 0,J Y 0,J Y 0,J Y 0,J Y 0,J Y 0,J Y 0,J Y 0,J Y 0,J Y 0,J Y 0,J Y 0,J Y 0,J Y 0,J Y 0,BQ none 0 0,J Y 0,J Y 0,J Y 0,BT false,J Y 0,BT false,BT false] 39;simp only[JE]at h9;rw[hV];exact h9
 have hB:B9 W.heap.size W V:=by rw[hV];exact(Jc aL ac)
 have aN:=Ja hB hc;have aT:=Jm hB hc hf;have aY:BU (Leaves ⟨fb,fo,none⟩ W V):=(Leaves.refl _ _).step hB;clear aL ac;clear hc hf dZ;have fZ:=hB.size;clear hB;obtain⟨d9,o_⟩:∃ x,x=Jbr b:=⟨_,rfl⟩
 obtain⟨t9,i8⟩:∃ x,x=Jgr b:=⟨_,rfl⟩
 obtain⟨g9,dM⟩:∃ x,x=(f||Jav b.k (Jet b)):=⟨_,rfl⟩
 rw[<- o_,<- i8,<- dM];have HE:BU (d9=Jbr b/\t9=Jgr b/\g9=(f||Jav b.k (Jet b))):=⟨o_,i8,dM⟩
 clear o_ i8 dM;go_enter func29,ntmps29;go_upto_region 1 with fail;rw[<- hV];clear hV;obtain⟨pr,aB⟩:∃ p,p=W.heap.size+1:=⟨_,rfl⟩
 obtain⟨pb,aF⟩:∃ p,p=W.heap.size:=⟨_,rfl⟩
 rw[<- aB]at Cr;rw[<- aF]at Cb;rw[<- aB,<- aF];have nb:pb≠fb:=by omega
 have nr:pr≠fb:=by omega
 have nr':fb≠pr:=by omega
 have br:pb≠pr:=by omega
 have aE:W.heap.size<=pr:=by omega
 have dB:W.heap.size<=pb:=by omega
 have hfV0:fb<V.heap.size:=JB _ _ aN;have lq:pb<V.heap.size:=Cb.lt;have nX:pr<V.heap.size:=Cr.lt;clear aF aB;have bS:([J Y 0,J Y 0,J Y 0,J Y 0,J Y 0,J Y 0,J Y 0,J Y 0,J Y 0,J Y 0,J Y 0,J Y 0,J Y 0,J Y 0,J Y 0,J Y 0,J Y 0,J Y 0,J Y 0,J Y 0,J Y 0,J Y 0,J Y 0,BQ none 0 0,J Y 0,J Y 0,J Y 0,BT false,J Y 0,BT false,BT false]:List B7).length=31:=rfl;generalize iR:([J Y 0,J Y 0,J Y 0,J Y 0,J Y 0,J Y 0,J Y 0,J Y 0,J Y 0,J Y 0,J Y 0,J Y 0,J Y 0,J Y 0,J Y 0,J Y 0,J Y 0,J Y 0,J Y 0,J Y 0,J Y 0,J Y 0,J Y 0,BQ none 0 0,J Y 0,J Y 0,J Y 0,BT false,J Y 0,BT false,BT false]:List B7)=zl at *;have HZ:BU _:=iR;clear iR;have k0:=(Cb 0 _ rfl).1;by_cases hk:b.k=2
 ·rw[hk]at k0;have HD:BU (d9=if Jet b=false then (b.wp (Jds b).1).wl (Jdx b).1 else b):=by
   show _=_
   rw[HE.out.1];unfold Jbr;cases Jet b <;> simp[hk]
  have HT:BU (t9=if Jet b=false then (Jds b).2.1 ||(Jdx b).2.1 else false):=by
   show _=_
   rw[HE.out.2.1];unfold Jgr;cases Jet b <;> simp[hk]
  have HG:BU (g9=(f||Jet b)):=by have h9:=HE.out.2.2;rw[Jav,if_pos hk]at h9;exact h9
  clear HE;have au:BU (World.rangeAt V pb 0 (b.L R0)):=Cb.range;obtain⟨X1,ef⟩:∃ X,X=(V.alloc (BP #[J Y 0,J Y 0,J Y 0,J Y 0,J Y 0,J Y 0,J Y 0,J Y 0,J Y 0,J Y 0,J Y 0,J Y 0,J Y 0,J Y 0,J Y 0,J Y 0,J Y 0,J Y 0,J Y 0,J Y 0,J Y 0,J Y 0,J Y 0,BQ none 0 0,J Y 0,J Y 0,J Y 0,BT false,J Y 0,BT false,BT false] 39)).setCells V.heap.size 0 (b.L R0):=⟨_,rfl⟩
  obtain⟨X2,fP⟩:∃ X,X=X1.alloc (BP #[BT false] 57):=⟨_,rfl⟩
  have tt:=Jb V (BP #[J Y 0,J Y 0,J Y 0,J Y 0,J Y 0,J Y 0,J Y 0,J Y 0,J Y 0,J Y 0,J Y 0,J Y 0,J Y 0,J Y 0,J Y 0,J Y 0,J Y 0,J Y 0,J Y 0,J Y 0,J Y 0,J Y 0,J Y 0,BQ none 0 0,J Y 0,J Y 0,J Y 0,BT false,J Y 0,BT false,BT false] 39);have vC:=CW.new V [J Y 0,J Y 0,J Y 0,J Y 0,J Y 0,J Y 0,J Y 0,J Y 0,J Y 0,J Y 0,J Y 0,J Y 0,J Y 0,J Y 0,J Y 0,J Y 0,J Y 0,J Y 0,J Y 0,J Y 0,J Y 0,J Y 0,J Y 0,BQ none 0 0,J Y 0,J Y 0,J Y 0,BT false,J Y 0,BT false,BT false] 39;have dG:BU _:=Jn hR.out b;have gY:BU _:=hR.out.each b;have rD:BU (World.there (V.alloc (BP #[J Y 0,J Y 0,J Y 0,J Y 0,J Y 0,J Y 0,J Y 0,J Y 0,J Y 0,J Y 0,J Y 0,J Y 0,J Y 0,J Y 0,J Y 0,J Y 0,J Y 0,J Y 0,J Y 0,J Y 0,J Y 0,J Y 0,J Y 0,BQ none 0 0,J Y 0,J Y 0,J Y 0,BT false,J Y 0,BT false,BT false] 39)) V.heap.size 0 (b.L R0).toArray.size):=vC.there31 rfl hR.out;have iV:X1.heap.size=V.heap.size+1:=by rw[ef,Jfv,JE]
  have ac:B9 V.heap.size V X1:=by rw[ef];exact tt.trans (Jbd (Nat.le_refl _) _ _ _)
  have Cz:CW X1 V.heap.size (b.L R0):=by rw[ef];exact vC.sets (by rw[hR.out.all];rfl)
  have aj:B9 X1.heap.size X1 X2:=by rw[fP];exact Jb _ _
  have Co:CW X2 X1.heap.size [BT false]:=by rw[fP];exact CW.new X1 [BT false] 57
  have Cz:=Cz.step aj;have ao:=Jc ac aj;have Cb:=Cb.step ao;have Cr:=Cr.step ao;have b_:=Jm ao aN aT;have bF:=Ja ao aN;have bL:BU (Leaves ⟨fb,fo,none⟩ W X2):=aY.out.step (ao.mono aY.out.size);have nD:=ao.size;clear vC tt ac aj ao aY aN aT
  go_upto_block 0 with (first | refine wpList_load_mid rfl 39 _ rfl pb 0 rfl _ _ au.out underlying39 rfl eW.out ?_ | refine wpList_store_mid rfl 39 _ _ rfl V.heap.size 0 _ rfl rfl rD.out dG.out gY.out ?_)
  rw[<- ef,<- fP];have tu:X1.heap.size<=V.heap.size+1:=by omega
  obtain⟨po,aV⟩:∃ p,p=X1.heap.size:=⟨_,rfl⟩
  obtain⟨pz,AZ⟩:∃ p,p=V.heap.size:=⟨_,rfl⟩
  rw[<- aV]at Co ⊢;rw[<- AZ]at Cz ⊢;have nfz:fb≠pz:=by omega
  have no:pb≠po:=by omega
  have nz:pz≠po:=by omega
  have bz:pz≠pb:=by omega
  have nof:fb≠po:=by omega
  have nro:pr≠po:=by omega
  have nbr:pr≠pb:=by omega
  have nbf:fb≠pb:=by omega
  have vD:W.heap.size<=po:=by omega
  have eI:fb<X2.heap.size:=by omega
  have HS:BU (Clo _ _ _ _ _ _):=Clo.start (Co 0 _ rfl).1 (Co 0 _ rfl).2 Cb;clear ef fP aV AZ iV nD rD tu au k0 Co;obtain⟨rp,m_⟩:∃ r,r=hvd (Jh6 b) (Jfh b) 64 b.p:=⟨_,rfl⟩
  have HI:BU (Jv (Jh6 b) (Jfh b) rp 64 b.p false false):=Or.inr ⟨rfl,by rw[m_];exact⟨rfl,by simp,by simp,hp⟩⟩;have zH:BU (Jds b=rp):=by show _=_;rw[m_];rfl
  clear m_;have zI:BU _:=fun w q g=>Jka po 0 g (b.wp q) R0 hk w;have p_:BU _:=fun w q g=>Jrg po 0 g (Jap (b.wp q)) w;go_cut [8] from 16 to 32 (fun s8 wx=>∃(q:V3) (did g:Bool),s8 = BT did/\BU (Je rp q did g)/\BU (Clo ⟨po,0,none⟩ g pb ((b.wp q).L R0) X2 wx))
  case first =>
   go_wp2_with (fail)
   go_loopg [8] 64 (fun gm s8 wr=>∃(q:V3) (did g:Bool),s8 = BT did/\gm<=64/\BU (Jv (Jh6 b) (Jfh b) rp gm q did g)/\BU (Clo ⟨po,0,none⟩ g pb ((b.wp q).L R0) X2 wr))
   case atStart=>exact⟨b.p,false,false,rfl,Nat.le_refl _,HI,HS⟩
   case round =>
    obtain⟨q,did,g,rfl,be,HJ,HK⟩:=hrel;clear HI HS;rcases HJ.out with ⟨rfl,h9⟩ |⟨rfl,hv⟩
    ·have vE:BU _:=h9;have ho:=HK.out.cell;clear HJ h9;go_wp2_with (fail);go_meet
     case rel=>exact⟨q,did,true,rfl,⟨vE.out.symm,fun h=>by cases h⟩,HK⟩
    ·have HV:BU _:=hv;have hq:=hv.sml;have ho:=HK.out.cell;have vF:BU _:=Jj hR.out (b.wp q);have au:BU (World.rangeAt wr pb 0 ((b.wp q).L R0)):=HK.out.cw.range;have bo:BU _:=zI.out wr q false HK.out.cell HK.out.frozen;clear HJ hv;go_wp2_with (refine Jck (by rfl) 39 _ rfl pb 0 rfl _ _ au.out underlying39 rfl vF.out ?_);refine JA bo.out ?_;rintro e Y1 ⟨rfl,A⟩;have HK:BU (Clo _ _ _ _ _ _):=HK.out.same A.out no;have cC:BU _:=p_.out Y1 q (false||Jcm (b.wp q)) HK.out.cell HK.out.frozen;clear bo A au ho;go_wp2_with (fail);refine JA cC.out ?_;rintro e Y2 ⟨rfl,A⟩;have HK:BU (Clo ⟨po,0,none⟩ (Jfh b q) pb ((b.wp q).L R0) X2 Y2):=by
      have h9:=HK.out.same A.out no;rw[Bool.false_or]at h9;exact h9
     clear cC A;have mh:BU (Jh6 b q=decide (Jgy (Jap (b.wp q))<=274877906944)):=rfl;by_cases ie:Jgy (Jap (b.wp q))<=274877906944
     ·have vG:BU _:=Jv.stop HV.out (by rw[mh.out];exact decide_eq_true ie);generalize Jgy (Jap (b.wp q))=ln at *;clear mh HV;go_wp2_with (fail);go_meet
      case rel=>exact⟨q,did,Jfh b q,rfl,vG,HK⟩
     ·obtain⟨m,rfl,HN⟩:=Jv.next HV.out (Jig b) (by rw[mh.out];exact decide_eq_false ie)
      have HN:BU _:=HN;generalize Jgy (Jap (b.wp q))=ln at *;clear mh HV;obtain⟨c0,f0⟩:=HK.out.cw 8 _ rfl;obtain⟨c1,f1⟩:=HK.out.cw 9 _ rfl;obtain⟨c2,f2⟩:=HK.out.cw 10 _ rfl;go_wp2_with (fail);refine JA (Jhi q Y2 (Joz hq be)) ?_;rintro e Y3 ⟨rfl,hb⟩;have HK:BU (Clo _ _ _ _ _ _):=HK.out.step hb.out;clear c0 c1 c2 f0 f1 f2 hb;obtain⟨c0,f0⟩:=HK.out.cw 8 _ rfl;obtain⟨c1,f1⟩:=HK.out.cw 9 _ rfl;obtain⟨c2,f2⟩:=HK.out.cw 10 _ rfl;go_wp2_with (fail)
      go_roundg m
      case measure=>omega
      case rel=>exact⟨hlf q,true,Jfh b q,rfl,by omega,HN,HK.out.set3 no 8 (J Y (hlf q).x) (J Y (hlf q).y) (J Y (hlf q).z) (Jcd hR.out (by decide))⟩
  case rest =>
   obtain⟨q1,d1,g1,rfl,A4,p8⟩:=hcut;clear HI HS zI p_;obtain⟨rl,A5,sa⟩:=Jt6 (b:=b) zH.out A4.out hl;have tv:BU _:=A5;have oB:BU _:=sa;clear A5 sa A4 zH;obtain⟨b9,lw⟩:∃ x,x=b.wp q1:=⟨_,rfl⟩
   have dh:BU (Clo ⟨po,0,none⟩ g1 pb ((b9.wl b.l).L R0) X2 wc):=by rw[lw];exact p8.out
   rw[<- lw]at tv oB;have vH:b9.k=2:=by rw[lw];exact hk
   clear lw p8;have rH:BU _:=fun w q g=>Jly po 0 g (b9.wl q) R0 hR.out vH w;have rI:BU _:=fun w q g=>Jrg po 0 g (Jag (b9.wl q) q) w
   go_upto_block 2 with fail
   go_cut [8] from 33 to 49 (fun s8 wx=>∃(q:V3) (did g:Bool),s8 = BT did/\BU (Je rl q did g)/\BU (Clo ⟨po,0,none⟩ g pb ((b9.wl q).L R0) X2 wx))
   case first =>
    go_wp2_with (fail)
    go_loopg [8] 64 (fun gm s8 wr=>∃(q:V3) (did g:Bool),s8 = BT did/\gm<=64/\BU (Jv (Jhy b9) (Ji4 b9) rl gm q did g)/\BU (Clo ⟨po,0,none⟩ g pb ((b9.wl q).L R0) X2 wr))
    case atStart=>exact⟨b.l,d1,g1,rfl,Nat.le_refl _,tv,dh⟩
    case round =>
     obtain⟨q,did,g,rfl,be,HJ,HK⟩:=hrel;clear tv dh;rcases HJ.out with ⟨rfl,h9⟩ |⟨rfl,hv⟩
     ·have vE:BU _:=h9;have ho:=HK.out.cell;clear HJ h9;go_wp2_with (fail);go_meet
      case rel=>exact⟨q,did,true,rfl,⟨vE.out.symm,fun h=>by cases h⟩,HK⟩
     ·have HV:BU _:=hv;have hq:=hv.sml;have ho:=HK.out.cell;have vF:BU _:=Jj hR.out (b9.wl q);have au:BU (World.rangeAt wr pb 0 ((b9.wl q).L R0)):=HK.out.cw.range;have bo:BU _:=rH.out wr q false HK.out.cell HK.out.frozen;clear HJ hv;go_wp2_with (refine Jck (by rfl) 39 _ rfl pb 0 rfl _ _ au.out underlying39 rfl vF.out ?_);refine JA bo.out ?_;rintro e Y1 ⟨rfl,A⟩;have HK:BU (Clo _ _ _ _ _ _):=HK.out.same A.out no;have cC:BU _:=rI.out Y1 q (false||Jcg (b9.wl q) q) HK.out.cell HK.out.frozen;clear bo A au ho;go_wp2_with (fail);refine JA cC.out ?_;rintro e Y2 ⟨rfl,A⟩;have HK:BU (Clo ⟨po,0,none⟩ (Ji4 b9 q) pb ((b9.wl q).L R0) X2 Y2):=by
       have h9:=HK.out.same A.out no;rw[Bool.false_or]at h9;exact h9
      clear cC A;have mh:BU (Jhy b9 q=decide (Jgy (Jag (b9.wl q) q)<=68719476736)):=rfl;by_cases ie:Jgy (Jag (b9.wl q) q)<=68719476736
      ·have vG:BU _:=Jv.stop HV.out (by rw[mh.out];exact decide_eq_true ie);generalize Jgy (Jag (b9.wl q) q)=ln at *;clear mh HV;go_wp2_with (fail);go_meet
       case rel=>exact⟨q,did,Ji4 b9 q,rfl,vG,HK⟩
      ·obtain⟨m,rfl,HN⟩:=Jv.next HV.out (Jiv b9) (by rw[mh.out];exact decide_eq_false ie)
       have HN:BU _:=HN;generalize Jgy (Jag (b9.wl q) q)=ln at *;clear mh HV;obtain⟨c0,f0⟩:=HK.out.cw 11 _ rfl;obtain⟨c1,f1⟩:=HK.out.cw 12 _ rfl;obtain⟨c2,f2⟩:=HK.out.cw 13 _ rfl;go_wp2_with (fail);refine JA (Jhi q Y2 (Joz hq be)) ?_;rintro e Y3 ⟨rfl,hb⟩;have HK:BU (Clo _ _ _ _ _ _):=HK.out.step hb.out;clear c0 c1 c2 f0 f1 f2 hb;obtain⟨c0,f0⟩:=HK.out.cw 11 _ rfl;obtain⟨c1,f1⟩:=HK.out.cw 12 _ rfl;obtain⟨c2,f2⟩:=HK.out.cw 13 _ rfl;go_wp2_with (fail)
       go_roundg m
       case measure=>omega
       case rel=>exact⟨hlf q,true,Ji4 b9 q,rfl,by omega,HN,HK.out.set3 no 11 (J Y (hlf q).x) (J Y (hlf q).y) (J Y (hlf q).z) (Jcd hR.out (by decide))⟩
   case rest =>
    obtain⟨q2,d2,g2,rfl,oJ,oi⟩:=hcut;obtain⟨e1,e2⟩:=oB.out q2 d2 g2 oJ.out;have T:=oi.out.two;have cG:BU (Leaves ⟨fb,fo,none⟩ W wc):=bL.out.step (T.keep (B:=W.heap.size) vD dB bL.out.size);have dm:=T.other ⟨fb,fo,none⟩ eI nof nbf;have bV:=dm.1.trans bF;have cP:=dm.2.trans b_;have qi:=Cz.two T nz bz;have bZ:=Cr.two T nro nbr;have dA:=oi.out.cw;have ho:=oi.out.cell;rw[<- e1]at HD HT HG;have rJ:BU _:=e2;clear T dm tv dh rH rI oB oJ oi bF b_ Cz Cr bL e1 e2;cases g2 with
    | true =>
     have qh:BU (d9=b):=HD.out;have i9:BU (t9=false):=HT.out;have dJ:BU (g9=true):=by show _=_;rw[HG.out,Bool.or_true]
     clear HD HT HG rJ;go_upto_region 14 with fail;obtain⟨X5,pf⟩:∃ X,X=wc.setCell ⟨fb,fo,none⟩ (BT true):=⟨_,rfl⟩
     have zJ:X5.cell? ⟨fb,fo,none⟩=some (BT true):=by rw[pf];simp[go_sem,bV]
     have zK:X5.frozen? ⟨fb,fo,none⟩=false:=by rw[pf];simp[go_sem,cP]
     have zL:BU (Leaves ⟨fb,fo,none⟩ W X5):=by show Leaves _ _ _;rw[pf];exact cG.out.own _
     have zM:CW X5 pz (b.L R0):=by rw[pf];exact qi.other (a:=⟨fb,fo,none⟩) nfz _
     have zN:CW X5 pr zl:=by rw[pf];exact bZ.other (a:=⟨fb,fo,none⟩) nr' _
     rw[<- pf];clear pf bV cP cG qi bZ ho;have bV:=zJ;have cP:=zK;have cG:=zL;have qi:=zM;have bZ:=zN;clear zJ zK zL zM zN;have bC:BU _:=Jj hR.out (b);have cd:BU _:=Jn hR.out (b);have bW:BU _:=hR.out.each (b);have au:BU (World.rangeAt X5 pz 0 ((b).L R0)):=qi.range;have bT:BU (World.there X5 pr 0 ((b).L R0).toArray.size):=bZ.there31 bS hR.out;have cH:BU (World.rangeAt _ _ _ _):=(bZ.sets (us:=(b).L R0) (by rw[hR.out.all,bS])).range;have cV:BU (Leaves ⟨fb,fo,none⟩ W (X5.setCells pr 0 ((b).L R0))):=cG.out.sets aE _;have cI:BU _:=(Jaj (w:=X5) (vs:=(b).L R0) (o:=fo) nr').trans bV;have cW:BU _:=(World.frozen?_setCells pr ((b).L R0) 0 X5 ⟨fb,fo,none⟩).trans cP;generalize aM:(b).L R0=cs at *;have bH:BU _:=aM;clear aM dA qi bZ cG bV cP;go_wp2_with (first | refine wpList_load_mid rfl 39 _ rfl pz 0 rfl _ _ au.out underlying39 rfl bC.out ?_ | refine wpList_store_mid rfl 39 _ _ rfl pr 0 _ rfl rfl bT.out cd.out bW.out ?_);refine bodyPost_ret (Jdt 4 5 39 results29 ⟨pr,0,none⟩ rfl (run_loadVar_mid _ pr 0 39 cs _ cH.out underlying39 rfl bC.out)) rfl ?_;refine⟨by rw[qh.out,i9.out,bH.out];rfl,?_⟩;rw[dJ.out];exact cV.out.done cI.out cW.out
    | false =>
     obtain⟨e3,e4⟩:=rJ.out rfl;have qh:BU (d9=b9.wl q2):=by show _=_;rw[HD.out,e3];rfl
     have i9:BU (t9=d2):=by show _=_;rw[HT.out,e4];rfl
     have dJ:BU (g9=f):=by show _=_;rw[HG.out,Bool.or_false]
     clear HD HT HG rJ e3 e4;have bC:BU _:=Jj hR.out (b9.wl q2);have cd:BU _:=Jn hR.out (b9.wl q2);have bW:BU _:=hR.out.each (b9.wl q2);have au:BU (World.rangeAt wc pb 0 ((b9.wl q2).L R0)):=dA.range;have bT:BU (World.there wc pr 0 ((b9.wl q2).L R0).toArray.size):=bZ.there31 bS hR.out;have cH:BU (World.rangeAt _ _ _ _):=(bZ.sets (us:=(b9.wl q2).L R0) (by rw[hR.out.all,bS])).range;have cV:BU (Leaves ⟨fb,fo,none⟩ W (wc.setCells pr 0 ((b9.wl q2).L R0))):=cG.out.sets aE _;have cI:BU _:=(Jaj (w:=wc) (vs:=(b9.wl q2).L R0) (o:=fo) nr').trans bV;have cW:BU _:=(World.frozen?_setCells pr ((b9.wl q2).L R0) 0 wc ⟨fb,fo,none⟩).trans cP;generalize aM:(b9.wl q2).L R0=cs at *;have bH:BU _:=aM;clear aM dA qi bZ cG bV cP;go_wp2_with (first | refine wpList_load_mid rfl 39 _ rfl pb 0 rfl _ _ au.out underlying39 rfl bC.out ?_ | refine wpList_store_mid rfl 39 _ _ rfl pr 0 _ rfl rfl bT.out cd.out bW.out ?_);refine bodyPost_ret (Jdt 4 5 39 results29 ⟨pr,0,none⟩ rfl (run_loadVar_mid _ pr 0 39 cs _ cH.out underlying39 rfl bC.out)) rfl ?_;refine⟨by rw[qh.out,i9.out,bH.out];rfl,?_⟩;rw[dJ.out];exact cV.out.done cI.out cW.out
 ·have mK:(b.k == 2)=false:=by simpa using hk
  have HD:BU (d9=b):=by show _=_;rw[HE.out.1];unfold Jbr;simp[hk]
  have HT:BU (t9=false):=by show _=_;rw[HE.out.2.1];unfold Jgr;simp[hk]
  have HG:BU (g9=f):=by have h9:=HE.out.2.2;rw[Jav,if_neg hk,Bool.or_false]at h9;exact h9
  clear HE;have au:BU (World.rangeAt V pb 0 (b.L R0)):=Cb.range;have cd:BU _:=Jn hR.out b;have bW:BU _:=hR.out.each b;have bT:BU (World.there V pr 0 (b.L R0).toArray.size):=Cr.there31 bS hR.out;have cH:BU (World.rangeAt _ _ _ _):=(Cr.sets (us:=b.L R0) (by rw[hR.out.all,bS])).range;have cV:BU (Leaves ⟨fb,fo,none⟩ W (V.setCells pr 0 (b.L R0))):=aY.out.sets aE _;have cI:BU _:=(Jaj (w:=V) (vs:=b.L R0) (o:=fo) nr').trans aN;have cW:BU _:=(World.frozen?_setCells pr (b.L R0) 0 V ⟨fb,fo,none⟩).trans aT;generalize aM:b.L R0=cs at *;have bH:BU _:=aM;clear aM Cb Cr aY aN aT;go_wp2_with (first | refine wpList_load_mid rfl 39 _ rfl pb 0 rfl _ _ au.out underlying39 rfl eW.out ?_ | refine wpList_store_mid rfl 39 _ _ rfl pr 0 _ rfl rfl bT.out cd.out bW.out ?_);refine bodyPost_ret (Jdt 4 5 39 results29 ⟨pr,0,none⟩ rfl (run_loadVar_mid _ pr 0 39 cs _ cH.out underlying39 rfl eW.out)) rfl ?_;refine⟨by rw[HD.out,HT.out,bH.out];rfl,?_⟩;rw[HG.out];exact cV.out.done cI.out cW.out
theorem Jol(v u:B7)(L M:List Pt)(w:BV)(hv:Lies w v L)(hu:Lies w u M):
  Cd Tryz.prog 120 #[v,u] w fun e W=>e = BZ (BT (decide (L=M)))/\B9 w.heap.size w W:=by
 obtain⟨o,c,rfl,fE,fF,ar⟩:=hv.form;obtain⟨o',c',rfl,hlc',hcm',hcell'⟩:=hu.form;have HC:BU _:=ar;have HC':BU _:=hcell';clear hv hu ar hcell';by_cases hl:L.length=M.length
 ·rw[<- hl]at hlc' ⊢;have zO:BU (L.length=M.length):=hl;clear hl;obtain⟨D,hD⟩:∃ D,decide (L=M)=D:=⟨_,rfl⟩
  rw[hD];have HD:BU _:=hD;clear hD;go_enter func120,ntmps120;go_wp2_with (fail)
  go_loopg [5] L.length (fun gm i wr=>∃ k:Nat,i=J Y (k:Int)/\k<=L.length/\gm=L.length-k/\BU (∀ j,j<k->pt L j=pt M j)/\BU (B9 w.heap.size w wr))
  case atStart=>exact⟨0,rfl,Nat.zero_le _,rfl,fun j hj=>absurd hj (by omega),Below.refl _ w⟩
  case round =>
   obtain⟨k,rfl,hk,be,HN,HB⟩:=hrel;have HG:BU _:=be;clear be;by_cases aG:k<L.length
   ·obtain⟨g,off,rfl,x0,x1,x2⟩:=HC.out k aG;obtain⟨g',off',rfl,y0,y1,y2⟩:=HC'.out k (by rw[<- zO.out];exact aG);have x0:=Ja HB.out x0;have x1:=Ja HB.out x1;have x2:=Ja HB.out x2;have y0:=Ja HB.out y0;have y1:=Ja HB.out y1;have y2:=Ja HB.out y2;have eR:BU (pt L k≠pt M k->D=false):=fun ak=>by rw[<- HD.out];exact decide_eq_false (fun e=>ak (by rw[e]))
    have gS:BU (pt L k=pt M k->∀ j,j<k+1->pt L j=pt M j):=fun e j hj=>by
     by_cases ej:j=k
     ·subst ej;exact e
     ·exact HN.out j (by omega)
    rw[Jbl]at gS;rw[Ne,Jbl]at eR;generalize(pt L k).x=lx at *;generalize(pt L k).y=ly at *;generalize(pt L k).z=lz at *;generalize(pt M k).x=mx at *;generalize(pt M k).y=my at *;generalize(pt M k).z=mz at *;by_cases ex:lx=mx
    ·subst ex;by_cases ey:ly=my
     ·subst ey;by_cases ez:lz=mz
      ·subst ez;have rJ:BU (∀ j,j<k+1->pt L j=pt M j):=gS.out ⟨rfl,rfl,rfl⟩;clear eR gS;go_wp2_with (fail);go_region;go_wp2_with (fail)
       go_roundg (L.length-(k+1))
       case measure=>have:=HG.out;omega
       case rel=>exact⟨k+1,by go_num,by omega,rfl,rJ,HB.out.drew⟩
      ·have e:D=false:=eR.out (fun h=>ez h.2.2);subst e;have e1:(lz == mz)=false:=beq_eq_false_iff_ne.2 ez;clear eR gS;go_wp2_with (fail);go_region;go_wp2_with (fail);go_ret;exact⟨rfl,HB.out.drew⟩
     ·have e:D=false:=eR.out (fun h=>ey h.2.1);subst e;have e1:(ly == my)=false:=beq_eq_false_iff_ne.2 ey;clear eR gS;go_wp2_with (fail);go_region;go_wp2_with (fail);go_ret;exact⟨rfl,HB.out.drew⟩
    ·have e:D=false:=eR.out (fun h=>ex h.1);subst e;have e1:(lx == mx)=false:=beq_eq_false_iff_ne.2 ex;clear eR gS;go_wp2_with (fail);go_region;go_wp2_with (fail);go_ret;exact⟨rfl,HB.out.drew⟩
   ·have e:D=true:=by rw[<- HD.out];exact decide_eq_true (Jra zO.out (fun i hi=>HN.out i (by omega)))
    subst e;go_wp2_with (fail);go_ret;exact⟨rfl,HB.out⟩
 ·have hd:decide (L=M)=false:=decide_eq_false (fun e=>hl (by rw[e]));rw[hd];have hl':¬ (L.length:Int)=(M.length:Int):=by omega
  clear hd;go_enter func120,ntmps120;go_wp2_with (fail);go_ret;exact⟨rfl,Below.refl _ w⟩
def Jwh:Sh:=⟨4,0,Pt.O,[⟨0,0,0⟩,⟨1,0,0⟩,⟨0,1,0⟩,⟨1,1,0⟩]⟩
theorem Jnh(b:Bd)(r:Rs)(pv pu:B7)(W:BV)(hv:Lies W pv r.sh.pts)(hu:Lies W pu r.sh.pts):
  Cd Tryz.prog 51 #[B_ (b.L (r.l pv)).toArray,B_ (b.L (r.l pu)).toArray] W fun e W'=>e = BZ (BT true)/\BU (B9 W.heap.size W W'):=by
 obtain⟨V,hV⟩:∃ V,V=((W.alloc (BP (b.L (r.l pv)).toArray 39)).alloc (BP (b.L (r.l pu)).toArray 39)):=⟨_,rfl⟩
 have aL:=Jb W (BP (b.L (r.l pv)).toArray 39);have ac:=Jb (W.alloc (BP (b.L (r.l pv)).toArray 39)) (BP (b.L (r.l pu)).toArray 39);have Ca:CW V (W.heap.size) (b.L (r.l pv)):=by
  have h9:=(CW.new W (b.L (r.l pv)) 39).step ac;rw[hV];exact h9
 have Cc:CW V (W.heap.size+1) (b.L (r.l pu)):=by
  have h9:=CW.new (W.alloc (BP (b.L (r.l pv)).toArray 39)) (b.L (r.l pu)) 39;simp only[JE]at h9;rw[hV];exact h9
 have hB:B9 W.heap.size W V:=by rw[hV];exact(Jc aL ac)
 clear aL ac;have HB:BU (B9 _ _ _):=hB;have HC:BU _:=Jol pv pu r.sh.pts r.sh.pts V (hv.below hB) (hu.below hB);obtain⟨o1,k1,e1,_⟩:=hv.form;obtain⟨o2,k2,e2,_⟩:=hu.form;have E:BU _:=And.intro e1 e2;clear hv hu hB e1 e2;go_enter func51,ntmps51;go_upto_region 1 with fail;rw[<- hV];clear hV;obtain⟨pc,xT⟩:∃ p,p=W.heap.size+1:=⟨_,rfl⟩
 obtain⟨pa,aU⟩:∃ p,p=W.heap.size:=⟨_,rfl⟩
 rw[<- xT]at Cc;rw[<- aU]at Ca;rw[<- xT,<- aU];clear aU xT;have a0:=(Ca 0 _ rfl).1;have c0:=(Cc 0 _ rfl).1;have a1:=(Ca 1 _ rfl).1;have c1:=(Cc 1 _ rfl).1;have a2:=(Ca 2 _ rfl).1;have c2:=(Cc 2 _ rfl).1;have a3:=(Ca 3 _ rfl).1;have c3:=(Cc 3 _ rfl).1;have a4:=(Ca 4 _ rfl).1;have c4:=(Cc 4 _ rfl).1;have a5:=(Ca 5 _ rfl).1;have c5:=(Cc 5 _ rfl).1;have a6:=(Ca 6 _ rfl).1;have c6:=(Cc 6 _ rfl).1;have a7:=(Ca 7 _ rfl).1;have c7:=(Cc 7 _ rfl).1;have a8:=(Ca 8 _ rfl).1;have c8:=(Cc 8 _ rfl).1;have a9:=(Ca 9 _ rfl).1;have c9:=(Cc 9 _ rfl).1;have a10:=(Ca 10 _ rfl).1;have rK:=(Cc 10 _ rfl).1;have a11:=(Ca 11 _ rfl).1;have rL:=(Cc 11 _ rfl).1;have a12:=(Ca 12 _ rfl).1;have rM:=(Cc 12 _ rfl).1;have a13:=(Ca 13 _ rfl).1;have tw:=(Cc 13 _ rfl).1;have a14:=(Ca 14 _ rfl).1;have vI:=(Cc 14 _ rfl).1;have a15:=(Ca 15 _ rfl).1;have vJ:=(Cc 15 _ rfl).1;have a16:=(Ca 16 _ rfl).1;have vK:=(Cc 16 _ rfl).1;have a17:=(Ca 17 _ rfl).1;have vL:=(Cc 17 _ rfl).1;have a18:=(Ca 18 _ rfl).1;have vM:=(Cc 18 _ rfl).1;have a19:=(Ca 19 _ rfl).1;have vN:=(Cc 19 _ rfl).1;have a20:=(Ca 20 _ rfl).1;have vO:=(Cc 20 _ rfl).1;have a21:=(Ca 21 _ rfl).1;have zP:=(Cc 21 _ rfl).1;have a22:=(Ca 22 _ rfl).1;have vP:=(Cc 22 _ rfl).1;have a23:=(Ca 23 _ rfl).1;have qk:=(Cc 23 _ rfl).1;have a24:=(Ca 24 _ rfl).1;have vQ:=(Cc 24 _ rfl).1;have a25:=(Ca 25 _ rfl).1;have c25:=(Cc 25 _ rfl).1;have a26:=(Ca 26 _ rfl).1;have c26:=(Cc 26 _ rfl).1;have a27:=(Ca 27 _ rfl).1;have c27:=(Cc 27 _ rfl).1;have a28:=(Ca 28 _ rfl).1;have c28:=(Cc 28 _ rfl).1;have a29:=(Ca 29 _ rfl).1;have c29:=(Cc 29 _ rfl).1;have a30:=(Ca 30 _ rfl).1;have c30:=(Cc 30 _ rfl).1;rw[E.out.1]at a23 HC;rw[E.out.2]at qk HC;clear Ca Cc E;obtain⟨k,⟨sx,sy,sz⟩,⟨qw,qx,qy,qz⟩,⟨px,py,pz⟩,⟨lx,ly,lz⟩,m,⟨ix,iy,iz⟩⟩:=b;obtain⟨⟨sk,sr,⟨hx,hy,hz⟩,Ls⟩,g,ma,fr,fa,qu,al,ou⟩:=r;dsimp only at *;generalize Bd.L _ _=csa at *;go_wp2_with (fail);refine JA HC.out ?_;rintro e V1 ⟨rfl,hb⟩;go_wp2_with (fail);go_ret;exact⟨by simp,Jc HB.out hb⟩
def inL(a:V3)(lo hi:Int):Bool:=inR a.x lo hi&&(inR a.y lo hi&&inR a.z lo hi)
theorem Jd7(a:V3)(lo hi:Int)(w:BV):
  Cd Tryz.prog 94 #[a.val,J Y lo,J Y hi] w fun e W=>e = BZ (BT (inL a lo hi))/\BU (B9 w.heap.size w W):=by
 obtain⟨x,y,z⟩:=a;have HE:BU (∀ b:Bool,(b=true↔(lo<=x/\x<=hi)/\(lo<=y/\y<=hi)/\(lo<=z/\z<=hi))->inL ⟨x,y,z⟩ lo hi=b):=fun b h=>by
  rw[Bool.eq_iff_iff,h];unfold inL inR;simp only[Bool.and_eq_true,decide_eq_true_eq]
 go_enter func94,ntmps94;go_wp2
 all_goals
  go_ret;exact⟨congrArg (fun b=>Ending.returned (BT b)) (HE.out _ ⟨fun h=>by first |(cases h;done) | omega |(have h':=of_decide_eq_true h;omega),fun h=>by first | rfl |(exfalso;omega) | exact decide_eq_true (by omega)⟩).symm,Jb w _⟩
theorem Jqx(b:Bd)(R:List B7)(W:BV):
  Cd Tryz.prog 36 #[B_ (b.L R).toArray] W fun e W'=>e = BZ (BT (!inV b.s 4398046511104))/\BU (B9 W.heap.size W W'):=by
 have H1:BU (∀ w,Cd Tryz.prog 94 #[b.s.val,J Y (-4398046511104),J Y 4398046511104] w fun e W=>e = BZ (BT (inV b.s 4398046511104))/\BU (B9 w.heap.size w W)):=fun w=>Jd7 b.s (-4398046511104) 4398046511104 w;have HX:BU (B9 _ _ _):=Jb W (BP (b.L R).toArray 39);have CX:BU (CW _ _ _):=CW.new W (b.L R) 39;have k1:=(CX.out 1 _ rfl).1;have k2:=(CX.out 2 _ rfl).1;have k3:=(CX.out 3 _ rfl).1;generalize inV b.s 4398046511104=c1 at *;generalize b.L R=cs at *;go_enter func36,ntmps36;go_wp2_with (fail);refine JA (H1.out _) ?_;rintro e V1 ⟨rfl,hb⟩;go_wp2_with (fail);go_ret;exact⟨rfl,Jc HX.out hb.out⟩
theorem Jwb{w:BV}{b:Nat}{x y z u:Int}(h0:w.cell? ⟨b,0,none⟩=some (J Y x))(h1:w.cell? ⟨b,1,none⟩=some (J Y y))(h2:w.cell? ⟨b,2,none⟩=some (J Y z))(h3:w.cell? ⟨b,3,none⟩=some (J Y u)):Jc2 w (some ⟨b,0,none⟩) [x,y,z,u]:=
 Or.inr ⟨b,0,rfl,fun k hk=>by
  match k,hk with
  | 0,_=>exact h0
  | 1,_=>exact h1
  | 2,_=>exact h2
  | 3,_=>exact h3⟩
theorem Jp3{b:Bd}{fr:Int}(h:Jem b fr=true):(b.k=1\/b.k=2)/\inV b.s 4398046511104=true/\Jg1 b.q=true/\(0<=fr/\fr<=4294967296)/\inV b.p 18014398509481984=true/\inV b.l 18014398509481984=true:=by
 unfold Jem inR at h;simp only[Bool.and_eq_true,Bool.or_eq_true,decide_eq_true_eq]at h;exact h
theorem Jvt{b:Bd}{fr:Int}(h:(b.k=1\/b.k=2)/\inV b.s 4398046511104=true/\Jg1 b.q=true/\(0<=fr/\fr<=4294967296)/\inV b.p 18014398509481984=true/\inV b.l 18014398509481984=true):Jem b fr=true:=by
 unfold Jem inR;simp only[Bool.and_eq_true,Bool.or_eq_true,decide_eq_true_eq];exact h
theorem Jkn(b:Bd)(r:Rs)(pv:B7)(W:BV)(hv:Lies W pv r.sh.pts):
  Cd Tryz.prog 35 #[B_ (b.L (r.l pv)).toArray] W fun e W'=>e = BZ (J Y (Jfl b r.fr r.sh))/\BU (B9 W.heap.size W W'):=by
 obtain⟨c9,da⟩:∃ c,c=Jfl b r.fr r.sh:=⟨_,rfl⟩
 rw[<- da];have vR:BU _:=da;clear da;obtain⟨V,hV⟩:∃ V,V=((W.alloc (BP (b.L (r.l pv)).toArray 39)).alloc (BP #[BT false] 57)):=⟨_,rfl⟩
 have aL:=Jb W (BP (b.L (r.l pv)).toArray 39);have ac:=Jb (W.alloc (BP (b.L (r.l pv)).toArray 39)) (BP #[BT false] 57);have Cb:CW V (W.heap.size) (b.L (r.l pv)):=by
  have h9:=(CW.new W (b.L (r.l pv)) 39).step ac;rw[hV];exact h9
 have Co:CW V (W.heap.size+1) [BT false]:=by
  have h9:=CW.new (W.alloc (BP (b.L (r.l pv)).toArray 39)) [BT false] 57;simp only[JE]at h9;rw[hV];exact h9
 have hB:B9 W.heap.size W V:=by rw[hV];exact(Jc aL ac)
 clear aL ac;have HX:BU (B9 _ _ _):=hB;have HV:BU (Lies _ _ _):=hv;obtain⟨o,c,ld,_⟩:=hv.form;have ip:BU _:=ld;clear hv hB ld;have H1:BU (∀ w,Cd Tryz.prog 94 #[b.s.val,J Y (-4398046511104),J Y 4398046511104] w fun e W=>e = BZ (BT (inV b.s 4398046511104))/\BU (B9 w.heap.size w W)):=fun w=>Jd7 b.s (-4398046511104) 4398046511104 w;have H2:BU (∀ w,Cd Tryz.prog 94 #[b.p.val,J Y (-18014398509481984),J Y 18014398509481984] w fun e W=>e = BZ (BT (inV b.p 18014398509481984))/\BU (B9 w.heap.size w W)):=fun w=>Jd7 b.p (-18014398509481984) 18014398509481984 w;have H3:BU (∀ w,Cd Tryz.prog 94 #[b.l.val,J Y (-18014398509481984),J Y 18014398509481984] w fun e W=>e = BZ (BT (inV b.l 18014398509481984))/\BU (B9 w.heap.size w W)):=fun w=>Jd7 b.l (-18014398509481984) 18014398509481984 w;have H4:BU _:=fun w=>Jd7 b.i 4096 562949953421312 w;have HS:BU _:=fun w h=>Jeo r.sh pv w h;unfold Sh.v at HS;go_enter func35,ntmps35;go_upto_region 2 with fail;rw[<- hV];clear hV;obtain⟨po,aV⟩:∃ p,p=W.heap.size+1:=⟨_,rfl⟩
 obtain⟨pb,aF⟩:∃ p,p=W.heap.size:=⟨_,rfl⟩
 rw[<- aV]at Co;rw[<- aF]at Cb;rw[<- aV,<- aF];have vD:W.heap.size<=po:=by omega
 have qX:po<V.heap.size:=Co.lt;have nbo:pb≠po:=by omega
 clear aF aV;have Q4:=(Cb 4 _ rfl).1;have Q5:=(Cb 5 _ rfl).1;have Q6:=(Cb 6 _ rfl).1;have Q7:=(Cb 7 _ rfl).1;obtain⟨V0,iv⟩:∃ X,X=V.alloc (BP #[J Y b.q.w,J Y b.q.x,J Y b.q.y,J Y b.q.z] 3):=⟨_,rfl⟩
 have aL:B9 V.heap.size V V0:=by rw[iv];exact Jb _ _
 have Cn:CW V0 V.heap.size [J Y b.q.w,J Y b.q.x,J Y b.q.y,J Y b.q.z]:=by rw[iv];exact CW.new V [J Y b.q.w,J Y b.q.x,J Y b.q.y,J Y b.q.z] 3
 have HN:BU _:=Jg8 po 0 false [b.q.w,b.q.x,b.q.y,b.q.z] (some ⟨V.heap.size,0,none⟩) 4 V0 (Ja aL (Co 0 _ rfl).1) (Jm aL (Co 0 _ rfl).1 (Co 0 _ rfl).2) (by simp) (Jwb (Cn 0 _ rfl).1 (Cn 1 _ rfl).1 (Cn 2 _ rfl).1 (Cn 3 _ rfl).1);have CX:BU (CW _ _ _):=Cb.step aL;have HX:BU (B9 _ _ _):=Jc HX.out aL;have qX:=Nat.lt_of_lt_of_le qX aL.size;clear Co Cn Cb aL;rw[iv]at HN CX HX qX;clear iv;simp only[List.length_cons,List.length_nil,Nat.zero_add,Nat.reduceAdd]at HN;go_wp2_with (fail);refine JA HN.out ?_;rintro e W1 ⟨nn,g,rfl,SS,A⟩;obtain⟨xU,hg⟩:=SS.out;have CX:BU (CW _ _ _):=CX.out.after A.out nbo;have HX:BU (B9 _ _ _):=A.out.below _ _ HX.out vD HX.out.size;have ho:=A.out.cell;have zQ:BU (Jg1 b.q=(!g&&inR nn 4294967288 4294967304)):=by
  show _=_
  unfold Jg1;rw[<- xU,hg,Bool.false_or];cases hh:(Jah [b.q.w,b.q.x,b.q.y,b.q.z]).isNone with
  | false=>simp
  | true =>
   have:nn=0:=by rw[xU];cases h2:Jah [b.q.w,b.q.x,b.q.y,b.q.z] with
    | none=>rfl
    | some v=>rw[h2]at hh;cases hh
   rw[this];rfl
 clear SS A HN xU hg Q4 Q5 Q6 Q7 qX;have K1:=(CX.out 1 _ rfl).1;have K2:=(CX.out 2 _ rfl).1;have K3:=(CX.out 3 _ rfl).1;go_wp2_with (fail);refine JA (H1.out _) ?_;rintro e W2 ⟨rfl,hb⟩;have CX:BU (CW _ _ _):=CX.out.step hb.out;have HX:BU (B9 _ _ _):=Jc HX.out hb.out;have ho:=Ja hb.out ho;clear hb K1 K2 K3 H1;have K1:=(CX.out 8 _ rfl).1;have K2:=(CX.out 9 _ rfl).1;have K3:=(CX.out 10 _ rfl).1;go_wp2_with (fail);refine JA (H2.out _) ?_;rintro e W3 ⟨rfl,hb⟩;have CX:BU (CW _ _ _):=CX.out.step hb.out;have HX:BU (B9 _ _ _):=Jc HX.out hb.out;have ho:=Ja hb.out ho;clear hb K1 K2 K3 H2;have K1:=(CX.out 11 _ rfl).1;have K2:=(CX.out 12 _ rfl).1;have K3:=(CX.out 13 _ rfl).1;go_wp2_with (fail);refine JA (H3.out _) ?_;rintro e W4 ⟨rfl,hb⟩;have CX:BU (CW _ _ _):=CX.out.step hb.out;have HX:BU (B9 _ _ _):=Jc HX.out hb.out;have ho:=Ja hb.out ho;clear hb K1 K2 K3 H3;have K0:=(CX.out 0 _ rfl).1;have oC:=(CX.out 26 _ rfl).1;have HF:BU (Jem b r.fr=true↔(b.k=1\/b.k=2)/\inV b.s 4398046511104=true/\(!g&&inR nn 4294967288 4294967304)=true/\(0<=r.fr/\r.fr<=4294967296)/\inV b.p 18014398509481984=true/\inV b.l 18014398509481984=true):=by
  show _↔_
  rw[<- zQ.out];exact⟨Jp3,Jvt⟩
 have bo:BU (Jem b r.fr=false->c9=1):=fun h=>by rw[vR.out];unfold Jfl;rw[h];rfl
 have cC:BU (Jem b r.fr=true->c9=if J9 r.sh=0 then (if b.k=2/\Jjf b=false then 120 else 0) else J9 r.sh):=fun h=>by rw[vR.out];unfold Jfl;rw[h];rfl
 clear zQ vR;generalize inV b.s 4398046511104=c1 at *;generalize inV b.p 18014398509481984=c4 at *;generalize inV b.l 18014398509481984=c5 at *;generalize Jem b r.fr=ff at *;have kk:b.k=1\/b.k=2\/((b.k == 1)=false/\(b.k == 2)=false):=by
  by_cases h1:b.k=1
  ·exact Or.inl h1
  ·by_cases h2:b.k=2
   ·exact Or.inr (Or.inl h2)
   ·exact Or.inr (Or.inr ⟨by simpa using h1,by simpa using h2⟩)
 rcases kk with k1 | k2 |⟨k1,k2⟩
 ·have f_:b.k=1\/b.k=2:=Or.inl k1;rw[k1]at K0;cases c1 with
  | false =>
   have E9:BU (c9=1):=bo.out (by cases ff with | false=>rfl | true=>(exfalso;have h9:=HF.out.1 rfl;cases h9.2.1));clear HF bo cC;go_wp2_with (fail);go_ret;exact⟨by rw[E9.out];rfl,HX⟩
  | true =>
   cases g with
   | true =>
    have E9:BU (c9=1):=bo.out (by cases ff with | false=>rfl | true=>(exfalso;have h9:=HF.out.1 rfl;have:=h9.2.2.1;simp at this));clear HF bo cC;go_wp2_with (fail);go_ret;exact⟨by rw[E9.out];rfl,HX⟩
   | false =>
    by_cases t2:nn<4294967288
    ·have E9:BU (c9=1):=bo.out (by cases ff with | false=>rfl | true=>(exfalso;have h9:=HF.out.1 rfl;have:=h9.2.2.1;simp[inR]at this;omega));clear HF bo cC;go_wp2_with (fail);go_ret;exact⟨by rw[E9.out];rfl,HX⟩
    ·by_cases t3:4294967304<nn
     ·have E9:BU (c9=1):=bo.out (by cases ff with | false=>rfl | true=>(exfalso;have h9:=HF.out.1 rfl;have:=h9.2.2.1;simp[inR]at this;omega));clear HF bo cC;go_wp2_with (fail);go_ret;exact⟨by rw[E9.out];rfl,HX⟩
     ·by_cases t4:r.fr<0
      ·have E9:BU (c9=1):=bo.out (by cases ff with | false=>rfl | true=>(exfalso;have h9:=HF.out.1 rfl;omega));clear HF bo cC;go_wp2_with (fail);go_ret;exact⟨by rw[E9.out];rfl,HX⟩
      ·by_cases t5:4294967296<r.fr
       ·have E9:BU (c9=1):=bo.out (by cases ff with | false=>rfl | true=>(exfalso;have h9:=HF.out.1 rfl;omega));clear HF bo cC;go_wp2_with (fail);go_ret;exact⟨by rw[E9.out];rfl,HX⟩
       ·cases c4 with
        | false =>
         have E9:BU (c9=1):=bo.out (by cases ff with | false=>rfl | true=>(exfalso;have h9:=HF.out.1 rfl;cases h9.2.2.2.2.1));clear HF bo cC;go_wp2_with (fail);go_ret;exact⟨by rw[E9.out];rfl,HX⟩
        | true =>
         cases c5 with
         | false =>
          have E9:BU (c9=1):=bo.out (by cases ff with | false=>rfl | true=>(exfalso;have h9:=HF.out.1 rfl;cases h9.2.2.2.2.2));clear HF bo cC;go_wp2_with (fail);go_ret;exact⟨by rw[E9.out];rfl,HX⟩
         | true =>
          have E9:BU (ff=true):=HF.out.2 ⟨f_,rfl,by simp[inR];omega,by omega,rfl,rfl⟩;have E2:BU _:=cC.out E9.out;clear HF bo cC E9;by_cases hcc:J9 r.sh=0
          ·have E3:BU (c9=0):=by show _=_;rw[E2.out,if_pos hcc,if_neg (fun h=>by rw[k1]at h;cases h.1)]
           have iJ:=(CX.out 18 _ rfl).1;have iK:=(CX.out 19 _ rfl).1;have iL:=(CX.out 20 _ rfl).1;have iM:=(CX.out 21 _ rfl).1;have iN:=(CX.out 22 _ rfl).1;have ft:=(CX.out 23 _ rfl).1;rw[ip.out]at ft;have bG:BU _:=HS.out W4 (HV.out.below HX.out);rw[ip.out,hcc]at bG;clear HS E2 hcc;go_wp2_with (fail);refine JA bG.out ?_;rintro e V2 ⟨rfl,hb⟩;have HX:BU (B9 _ _ _):=Jc HX.out hb;have CX:BU (CW _ _ _):=CX.out.step hb;clear hb bG iJ iK iL iM iN ft K0 oC ho;have K0:=(CX.out 0 _ rfl).1;have KF:=(CX.out 15 _ rfl).1;have KG:=(CX.out 16 _ rfl).1;have KH:=(CX.out 17 _ rfl).1;go_wp2_with (fail);refine JA (H4.out _) ?_;rintro e V3 ⟨rfl,hb⟩;have HX:BU (B9 _ _ _):=Jc HX.out hb.out;have CX:BU (CW _ _ _):=CX.out.step hb.out;clear hb K0 KF KG KH;have K0:=(CX.out 0 _ rfl).1;have KE:=(CX.out 14 _ rfl).1;rw[k1]at K0;go_wp2_with (fail);go_ret;exact⟨by rw[E3.out];rfl,HX⟩
          ·have E3:BU (c9=J9 r.sh):=by show _=_;rw[E2.out,if_neg hcc]
           have bF:(J9 r.sh == 0)=false:=by simpa using hcc
           have iJ:=(CX.out 18 _ rfl).1;have iK:=(CX.out 19 _ rfl).1;have iL:=(CX.out 20 _ rfl).1;have iM:=(CX.out 21 _ rfl).1;have iN:=(CX.out 22 _ rfl).1;have ft:=(CX.out 23 _ rfl).1;rw[ip.out]at ft;have bG:BU _:=HS.out W4 (HV.out.below HX.out);rw[ip.out]at bG;clear HS E2;generalize J9 r.sh=cc at *;go_wp2_with (fail);refine JA bG.out ?_;rintro e V2 ⟨rfl,hb⟩;have HX:BU (B9 _ _ _):=Jc HX.out hb;have CX:BU (CW _ _ _):=CX.out.step hb;clear hb bG iJ iK iL iM iN ft K0 oC ho;go_wp2_with (fail);go_ret;exact⟨by rw[E3.out];rfl,HX⟩
 ·have f_:b.k=1\/b.k=2:=Or.inr k2;rw[k2]at K0;cases c1 with
  | false =>
   have E9:BU (c9=1):=bo.out (by cases ff with | false=>rfl | true=>(exfalso;have h9:=HF.out.1 rfl;cases h9.2.1));clear HF bo cC;go_wp2_with (fail);go_ret;exact⟨by rw[E9.out];rfl,HX⟩
  | true =>
   cases g with
   | true =>
    have E9:BU (c9=1):=bo.out (by cases ff with | false=>rfl | true=>(exfalso;have h9:=HF.out.1 rfl;have:=h9.2.2.1;simp at this));clear HF bo cC;go_wp2_with (fail);go_ret;exact⟨by rw[E9.out];rfl,HX⟩
   | false =>
    by_cases t2:nn<4294967288
    ·have E9:BU (c9=1):=bo.out (by cases ff with | false=>rfl | true=>(exfalso;have h9:=HF.out.1 rfl;have:=h9.2.2.1;simp[inR]at this;omega));clear HF bo cC;go_wp2_with (fail);go_ret;exact⟨by rw[E9.out];rfl,HX⟩
    ·by_cases t3:4294967304<nn
     ·have E9:BU (c9=1):=bo.out (by cases ff with | false=>rfl | true=>(exfalso;have h9:=HF.out.1 rfl;have:=h9.2.2.1;simp[inR]at this;omega));clear HF bo cC;go_wp2_with (fail);go_ret;exact⟨by rw[E9.out];rfl,HX⟩
     ·by_cases t4:r.fr<0
      ·have E9:BU (c9=1):=bo.out (by cases ff with | false=>rfl | true=>(exfalso;have h9:=HF.out.1 rfl;omega));clear HF bo cC;go_wp2_with (fail);go_ret;exact⟨by rw[E9.out];rfl,HX⟩
      ·by_cases t5:4294967296<r.fr
       ·have E9:BU (c9=1):=bo.out (by cases ff with | false=>rfl | true=>(exfalso;have h9:=HF.out.1 rfl;omega));clear HF bo cC;go_wp2_with (fail);go_ret;exact⟨by rw[E9.out];rfl,HX⟩
       ·cases c4 with
        | false =>
         have E9:BU (c9=1):=bo.out (by cases ff with | false=>rfl | true=>(exfalso;have h9:=HF.out.1 rfl;cases h9.2.2.2.2.1));clear HF bo cC;go_wp2_with (fail);go_ret;exact⟨by rw[E9.out];rfl,HX⟩
        | true =>
         cases c5 with
         | false =>
          have E9:BU (c9=1):=bo.out (by cases ff with | false=>rfl | true=>(exfalso;have h9:=HF.out.1 rfl;cases h9.2.2.2.2.2));clear HF bo cC;go_wp2_with (fail);go_ret;exact⟨by rw[E9.out];rfl,HX⟩
         | true =>
          have E9:BU (ff=true):=HF.out.2 ⟨f_,rfl,by simp[inR];omega,by omega,rfl,rfl⟩;have E2:BU _:=cC.out E9.out;clear HF bo cC E9;by_cases hcc:J9 r.sh=0
          ·have HM:Jjf b=(inR b.m 16777216 1099511627776&&inL b.i 4096 562949953421312):=rfl;by_cases m1:b.m<16777216
           ·have E3:BU (c9=120):=by show _=_;rw[E2.out,if_pos hcc,if_pos ⟨k2,by rw[HM];unfold inR;rw[decide_eq_false (by omega)];rfl⟩]
            clear HM;have iJ:=(CX.out 18 _ rfl).1;have iK:=(CX.out 19 _ rfl).1;have iL:=(CX.out 20 _ rfl).1;have iM:=(CX.out 21 _ rfl).1;have iN:=(CX.out 22 _ rfl).1;have ft:=(CX.out 23 _ rfl).1;rw[ip.out]at ft;have bG:BU _:=HS.out W4 (HV.out.below HX.out);rw[ip.out,hcc]at bG;clear HS E2 hcc;go_wp2_with (fail);refine JA bG.out ?_;rintro e V2 ⟨rfl,hb⟩;have HX:BU (B9 _ _ _):=Jc HX.out hb;have CX:BU (CW _ _ _):=CX.out.step hb;clear hb bG iJ iK iL iM iN ft K0 oC ho;have K0:=(CX.out 0 _ rfl).1;have KF:=(CX.out 15 _ rfl).1;have KG:=(CX.out 16 _ rfl).1;have KH:=(CX.out 17 _ rfl).1;go_wp2_with (fail);refine JA (H4.out _) ?_;rintro e V3 ⟨rfl,hb⟩;have HX:BU (B9 _ _ _):=Jc HX.out hb.out;have CX:BU (CW _ _ _):=CX.out.step hb.out;clear hb K0 KF KG KH;have K0:=(CX.out 0 _ rfl).1;have KE:=(CX.out 14 _ rfl).1;rw[k2]at K0;go_wp2_with (fail);go_ret;exact⟨by rw[E3.out];rfl,HX⟩
           by_cases m2:1099511627776<b.m
           ·have E3:BU (c9=120):=by show _=_;rw[E2.out,if_pos hcc,if_pos ⟨k2,by rw[HM];unfold inR;rw[decide_eq_false (by omega)];rfl⟩]
            clear HM;have iJ:=(CX.out 18 _ rfl).1;have iK:=(CX.out 19 _ rfl).1;have iL:=(CX.out 20 _ rfl).1;have iM:=(CX.out 21 _ rfl).1;have iN:=(CX.out 22 _ rfl).1;have ft:=(CX.out 23 _ rfl).1;rw[ip.out]at ft;have bG:BU _:=HS.out W4 (HV.out.below HX.out);rw[ip.out,hcc]at bG;clear HS E2 hcc;go_wp2_with (fail);refine JA bG.out ?_;rintro e V2 ⟨rfl,hb⟩;have HX:BU (B9 _ _ _):=Jc HX.out hb;have CX:BU (CW _ _ _):=CX.out.step hb;clear hb bG iJ iK iL iM iN ft K0 oC ho;have K0:=(CX.out 0 _ rfl).1;have KF:=(CX.out 15 _ rfl).1;have KG:=(CX.out 16 _ rfl).1;have KH:=(CX.out 17 _ rfl).1;go_wp2_with (fail);refine JA (H4.out _) ?_;rintro e V3 ⟨rfl,hb⟩;have HX:BU (B9 _ _ _):=Jc HX.out hb.out;have CX:BU (CW _ _ _):=CX.out.step hb.out;clear hb K0 KF KG KH;have K0:=(CX.out 0 _ rfl).1;have KE:=(CX.out 14 _ rfl).1;rw[k2]at K0;go_wp2_with (fail);go_ret;exact⟨by rw[E3.out];rfl,HX⟩
           have em:Jjf b=inL b.i 4096 562949953421312:=by rw[HM];unfold inR;rw[decide_eq_true (by omega)];rfl
           generalize inL b.i 4096 562949953421312=ci at *;cases ci with
           | false =>
            have E3:BU (c9=120):=by show _=_;rw[E2.out,if_pos hcc,if_pos ⟨k2,em⟩]
            clear HM em;have iJ:=(CX.out 18 _ rfl).1;have iK:=(CX.out 19 _ rfl).1;have iL:=(CX.out 20 _ rfl).1;have iM:=(CX.out 21 _ rfl).1;have iN:=(CX.out 22 _ rfl).1;have ft:=(CX.out 23 _ rfl).1;rw[ip.out]at ft;have bG:BU _:=HS.out W4 (HV.out.below HX.out);rw[ip.out,hcc]at bG;clear HS E2 hcc;go_wp2_with (fail);refine JA bG.out ?_;rintro e V2 ⟨rfl,hb⟩;have HX:BU (B9 _ _ _):=Jc HX.out hb;have CX:BU (CW _ _ _):=CX.out.step hb;clear hb bG iJ iK iL iM iN ft K0 oC ho;have K0:=(CX.out 0 _ rfl).1;have KF:=(CX.out 15 _ rfl).1;have KG:=(CX.out 16 _ rfl).1;have KH:=(CX.out 17 _ rfl).1;go_wp2_with (fail);refine JA (H4.out _) ?_;rintro e V3 ⟨rfl,hb⟩;have HX:BU (B9 _ _ _):=Jc HX.out hb.out;have CX:BU (CW _ _ _):=CX.out.step hb.out;clear hb K0 KF KG KH;have K0:=(CX.out 0 _ rfl).1;have KE:=(CX.out 14 _ rfl).1;rw[k2]at K0;go_wp2_with (fail);go_ret;exact⟨by rw[E3.out];rfl,HX⟩
           | true =>
            have E3:BU (c9=0):=by show _=_;rw[E2.out,if_pos hcc,if_neg (fun h=>by rw[em]at h;cases h.2)]
            clear HM em;have iJ:=(CX.out 18 _ rfl).1;have iK:=(CX.out 19 _ rfl).1;have iL:=(CX.out 20 _ rfl).1;have iM:=(CX.out 21 _ rfl).1;have iN:=(CX.out 22 _ rfl).1;have ft:=(CX.out 23 _ rfl).1;rw[ip.out]at ft;have bG:BU _:=HS.out W4 (HV.out.below HX.out);rw[ip.out,hcc]at bG;clear HS E2 hcc;go_wp2_with (fail);refine JA bG.out ?_;rintro e V2 ⟨rfl,hb⟩;have HX:BU (B9 _ _ _):=Jc HX.out hb;have CX:BU (CW _ _ _):=CX.out.step hb;clear hb bG iJ iK iL iM iN ft K0 oC ho;have K0:=(CX.out 0 _ rfl).1;have KF:=(CX.out 15 _ rfl).1;have KG:=(CX.out 16 _ rfl).1;have KH:=(CX.out 17 _ rfl).1;go_wp2_with (fail);refine JA (H4.out _) ?_;rintro e V3 ⟨rfl,hb⟩;have HX:BU (B9 _ _ _):=Jc HX.out hb.out;have CX:BU (CW _ _ _):=CX.out.step hb.out;clear hb K0 KF KG KH;have K0:=(CX.out 0 _ rfl).1;have KE:=(CX.out 14 _ rfl).1;rw[k2]at K0;go_wp2_with (fail);go_ret;exact⟨by rw[E3.out];rfl,HX⟩
          ·have E3:BU (c9=J9 r.sh):=by show _=_;rw[E2.out,if_neg hcc]
           have bF:(J9 r.sh == 0)=false:=by simpa using hcc
           have iJ:=(CX.out 18 _ rfl).1;have iK:=(CX.out 19 _ rfl).1;have iL:=(CX.out 20 _ rfl).1;have iM:=(CX.out 21 _ rfl).1;have iN:=(CX.out 22 _ rfl).1;have ft:=(CX.out 23 _ rfl).1;rw[ip.out]at ft;have bG:BU _:=HS.out W4 (HV.out.below HX.out);rw[ip.out]at bG;clear HS E2;generalize J9 r.sh=cc at *;go_wp2_with (fail);refine JA bG.out ?_;rintro e V2 ⟨rfl,hb⟩;have HX:BU (B9 _ _ _):=Jc HX.out hb;have CX:BU (CW _ _ _):=CX.out.step hb;clear hb bG iJ iK iL iM iN ft K0 oC ho;go_wp2_with (fail);go_ret;exact⟨by rw[E3.out];rfl,HX⟩
 ·have E9:BU (c9=1):=bo.out (by cases ff with | false=>rfl | true=>(exfalso;have h9:=(HF.out.1 rfl).1;simp at k1 k2;omega));clear HF bo cC;have n1:(b.k != 1)=true:=by unfold bne;rw[k1];rfl
  have n2:(b.k != 2)=true:=by unfold bne;rw[k2];rfl
  go_wp2_with (fail);go_ret;exact⟨by rw[E9.out];rfl,HX⟩
end
section
open Go.ChangeShapes Go.WideShapes Go.Deep Go.Joins
section
variable {H:Type} {enc:TypeId × B7->H} {w:BV} {base:Nat} {spare:Nat->Bool} {held:Bool}
theorem Jbu{n:Nat}{c:B7}{y:DataW H × List MemPlace}(h:DataW.trod enc Tryz.prog w base spare held n 3 [c]=some y):∃ x:Int,c=J Y x/\y=(.lit (.int .i64 x),[])/\(Lit.int .i64 x).wf=true:=by
 obtain⟨x,h1,h2,h3⟩:=DataW.trod_int underlying3 h;simp at h1;exact⟨x,h1,h2,h3⟩
end
end
section
open Go.ChangeShapes Go.WideShapes Go.Deep Go.Joins
theorem Jqo{H:Type}{enc:TypeId × B7->H}{W:BV}{base:Nat}{spare:Nat->Bool}{held:Bool}{a:Option Ce}{len cap fuel:Nat}{x:DataW H × List MemPlace}
  (h:DataW.trod enc Tryz.prog W base spare held fuel 24 [BQ a len cap]=some x):∃ L:List Pt,L.length=len/\Lies W (BQ a len cap) L/\∀ p∈L,p.fits:=by
 rcases Deep.open_slice underlying24 h with ⟨aM,_⟩ |⟨y,l,c,m,n,D,Pl,aM,_,hl,hm,hmm,_,hx⟩
 ·simp at aM;obtain⟨rfl,rfl,rfl⟩:=aM;exact⟨[],rfl,⟨none,0,rfl,by simp,by omega,fun i hi=>by simp at hi⟩,by simp⟩
 ·simp at aM;obtain⟨rfl,rfl,rfl⟩:=aM;unfold maxLen at hm;have hlm:len<=m:=by rw[hmm];split <;> omega
  have bV:Tryz.prog.cellsOf 23=3:=by kernel_rfl
  have bU:Tryz.prog.cellsOf 3=1:=by kernel_rfl
  have each:∀ i,i<len->∃ q:Pt,(W.cell? ((y.add (i*3)).add 0)=some (J Y q.x)/\W.cell? ((y.add (i*3)).add 1)=some (J Y q.y)/\W.cell? ((y.add (i*3)).add 2)=some (J Y q.z))/\q.fits:=by
   intro i hi;obtain⟨cs',hcells,ht⟩:=hx i (by omega);rw[bV]at hcells;obtain⟨_,cJ,ar⟩:=World.cells?_some hcells;obtain⟨xs,k,_,_,_,db,eG⟩:=DataW.trod_struct underlying23 ht;have get:∀(v:B7) (j:Nat),((cs'.drop j).take 1) = [v]->cs'[j]?=some v:=fun v j h=>by
    have h2:((cs'.drop j).take 1)[0]?=some v:=by rw[h];rfl
    simpa [List.getElem?_take,List.getElem?_drop] using h2
   have aI:∀ j,j<3->∃ z,xs[j]?=some z:=fun j hj=>⟨_,List.getElem?_eq_getElem (by rw[db];exact hj)⟩
   have e0:=eG 0 _ rfl;have e1:=eG 1 _ rfl;have e2:=eG 2 _ rfl;obtain⟨z0,eW⟩:=aI 0 (by omega);obtain⟨z1,gg⟩:=aI 1 (by omega);obtain⟨z2,fe⟩:=aI 2 (by omega);rw[eW]at e0;rw[gg]at e1;rw[fe]at e2;obtain⟨p,hp,_,wp⟩:=DataW.trod_int underlying3 e0;obtain⟨q,hq,_,wq⟩:=DataW.trod_int underlying3 e1;obtain⟨r,hr,_,wr⟩:=DataW.trod_int underlying3 e2;have gV:(cs'.drop 0).take (Tryz.prog.cellsOf 3) = [J Y p]:=hp;have fL:(cs'.drop 1).take (Tryz.prog.cellsOf 3) = [J Y q]:=hq;have zR:(cs'.drop 2).take (Tryz.prog.cellsOf 3) = [J Y r]:=hr;rw[bU]at gV fL zR;have b0:=bounds_i64 wp;have b1:=bounds_i64 wq;have b2:=bounds_i64 wr;exact⟨⟨p,q,r⟩,⟨(ar 0 (by omega)).trans (get _ 0 gV),(ar 1 (by omega)).trans (get _ 1 fL),(ar 2 (by omega)).trans (get _ 2 zR)⟩,⟨by dsimp only;omega,by dsimp only;omega⟩,⟨by dsimp only;omega,by dsimp only;omega⟩,⟨by dsimp only;omega,by dsimp only;omega⟩⟩
  have ch:∃(l:Nat->Pt),∀ i,i<len->(W.cell? ((y.add (i*3)).add 0)=some (J Y (l i).x)/\W.cell? ((y.add (i*3)).add 1)=some (J Y (l i).y)/\W.cell? ((y.add (i*3)).add 2)=some (J Y (l i).z))/\(l i).fits:=by
   refine⟨fun i=>if h:i<len then (each i h).choose else Pt.O,fun i hi=>?_⟩;simp only[dif_pos hi];exact(each i hi).choose_spec
  obtain⟨l,de⟩:=ch;have tC:((List.range len).map l).length=len:=by simp
  have lA:∀ i,i<len->pt ((List.range len).map l) i=l i:=fun i hi=>by unfold pt;simp[hi]
  refine⟨(List.range len).map l,tC,⟨some y,cap,by rw[tC],by rw[tC];exact hl,by omega,fun i hi=>?_⟩,fun p hp=>?_⟩
  ·rw[tC]at hi;obtain⟨b,off,spot⟩:=y;obtain⟨⟨h0,h1,h2⟩,_⟩:=de i hi;have hs:spot=none:=by simpa [Addr.add] using World.cell?_spot (de 0 (by omega)).1.1
   subst hs;have ad:∀ i j,((⟨b,off,none⟩:Ce).add (i*3)).add j=⟨b,off+i*3+j,none⟩:=fun i j=>by
    unfold Addr.add
    split <;> split <;> simp_all
   rw[ad]at h0 h1 h2;exact⟨b,off,rfl,by rw[lA i hi];exact h0,by rw[lA i hi];exact h1,by rw[lA i hi];exact h2⟩
  ·rw[List.mem_map]at hp;obtain⟨i,hi,rfl⟩:=hp;exact(de i (by simpa using hi)).2
section
variable {H:Type} {enc:TypeId × B7->H} {w:BV} {base:Nat} {spare:Nat->Bool} {held:Bool}
theorem Jvk{n:Nat}{u0 u1 u2:B7}{z:DataW H × List MemPlace}(h:DataW.trod enc Tryz.prog w base spare held n 27 [u0,u1,u2]=some z):∃ x0 x1 x2:Int,u0=J Y x0/\u1=J Y x1/\u2=J Y x2/\(Lit.int .i64 x0).wf=true/\(Lit.int .i64 x1).wf=true/\(Lit.int .i64 x2).wf=true:=by
 have bU:Tryz.prog.cellsOf 3=1:=by kernel_rfl
 obtain⟨ys,m,_,_,_,pg,gu⟩:=DataW.trod_struct underlying27 h;have bu:∀ j,j<3->∃ z,ys[j]?=some z:=fun j hj=>⟨_,List.getElem?_eq_getElem (by rw[pg];exact hj)⟩
 obtain⟨y0,dG⟩:=bu 0 (by omega);have g0:=gu 0 _ rfl;rw[dG]at g0;have p0:DataW.trod enc Tryz.prog w base spare held m 3 [u0]=some y0:=by have this:DataW.trod enc Tryz.prog w base spare held m 3 (([u0,u1,u2].drop 0).take (Tryz.prog.cellsOf 3))=some y0:=g0;rw[bU]at this;exact this
 obtain⟨y1,fq⟩:=bu 1 (by omega);have g1:=gu 1 _ rfl;rw[fq]at g1;have p1:DataW.trod enc Tryz.prog w base spare held m 3 [u1]=some y1:=by have this:DataW.trod enc Tryz.prog w base spare held m 3 (([u0,u1,u2].drop 1).take (Tryz.prog.cellsOf 3))=some y1:=g1;rw[bU]at this;exact this
 obtain⟨y2,eL⟩:=bu 2 (by omega);have g2:=gu 2 _ rfl;rw[eL]at g2;have p2:DataW.trod enc Tryz.prog w base spare held m 3 [u2]=some y2:=by have this:DataW.trod enc Tryz.prog w base spare held m 3 (([u0,u1,u2].drop 2).take (Tryz.prog.cellsOf 3))=some y2:=g2;rw[bU]at this;exact this
 obtain⟨x0,rfl,_,k0⟩:=Jbu p0;obtain⟨x1,rfl,_,k1⟩:=Jbu p1;obtain⟨x2,rfl,_,k2⟩:=Jbu p2;exact⟨x0,x1,x2,rfl,rfl,rfl,k0,k1,k2⟩
theorem Jt3{n:Nat}{u0 u1 u2 u3:B7}{z:DataW H × List MemPlace}(h:DataW.trod enc Tryz.prog w base spare held n 29 [u0,u1,u2,u3]=some z):∃ x0 x1 x2 x3:Int,u0=J Y x0/\u1=J Y x1/\u2=J Y x2/\u3=J Y x3/\(Lit.int .i64 x0).wf=true/\(Lit.int .i64 x1).wf=true/\(Lit.int .i64 x2).wf=true/\(Lit.int .i64 x3).wf=true:=by
 have bU:Tryz.prog.cellsOf 3=1:=by kernel_rfl
 obtain⟨ys,m,_,_,_,pg,gu⟩:=DataW.trod_struct underlying29 h;have bu:∀ j,j<4->∃ z,ys[j]?=some z:=fun j hj=>⟨_,List.getElem?_eq_getElem (by rw[pg];exact hj)⟩
 obtain⟨y0,dG⟩:=bu 0 (by omega);have g0:=gu 0 _ rfl;rw[dG]at g0;have p0:DataW.trod enc Tryz.prog w base spare held m 3 [u0]=some y0:=by have this:DataW.trod enc Tryz.prog w base spare held m 3 (([u0,u1,u2,u3].drop 0).take (Tryz.prog.cellsOf 3))=some y0:=g0;rw[bU]at this;exact this
 obtain⟨y1,fq⟩:=bu 1 (by omega);have g1:=gu 1 _ rfl;rw[fq]at g1;have p1:DataW.trod enc Tryz.prog w base spare held m 3 [u1]=some y1:=by have this:DataW.trod enc Tryz.prog w base spare held m 3 (([u0,u1,u2,u3].drop 1).take (Tryz.prog.cellsOf 3))=some y1:=g1;rw[bU]at this;exact this
 obtain⟨y2,eL⟩:=bu 2 (by omega);have g2:=gu 2 _ rfl;rw[eL]at g2;have p2:DataW.trod enc Tryz.prog w base spare held m 3 [u2]=some y2:=by have this:DataW.trod enc Tryz.prog w base spare held m 3 (([u0,u1,u2,u3].drop 2).take (Tryz.prog.cellsOf 3))=some y2:=g2;rw[bU]at this;exact this
 obtain⟨y3,cd⟩:=bu 3 (by omega);have g3:=gu 3 _ rfl;rw[cd]at g3;have p3:DataW.trod enc Tryz.prog w base spare held m 3 [u3]=some y3:=by have this:DataW.trod enc Tryz.prog w base spare held m 3 (([u0,u1,u2,u3].drop 3).take (Tryz.prog.cellsOf 3))=some y3:=g3;rw[bU]at this;exact this
 obtain⟨x0,rfl,_,k0⟩:=Jbu p0;obtain⟨x1,rfl,_,k1⟩:=Jbu p1;obtain⟨x2,rfl,_,k2⟩:=Jbu p2;obtain⟨x3,rfl,_,k3⟩:=Jbu p3;exact⟨x0,x1,x2,x3,rfl,rfl,rfl,rfl,k0,k1,k2,k3⟩
end
end
section
open Go.ChangeShapes Go.WideShapes Go.Deep Go.Joins
section
variable {H:Type} {enc:TypeId × B7->H} {w:BV} {base:Nat} {spare:Nat->Bool} {held:Bool}
theorem Jii{m:Nat}{u0 u1 u2:B7}{z:DataW H × List MemPlace}(h:DataW.trod enc Tryz.prog w base spare held m 27 [u0,u1,u2]=some z):∃ x0 x1 x2:Int,u0=J Y x0/\u1=J Y x1/\u2=J Y x2/\(Lit.int .i64 x0).wf=true/\(Lit.int .i64 x1).wf=true/\(Lit.int .i64 x2).wf=true:=by
 have bU:Tryz.prog.cellsOf 3=1:=by kernel_rfl
 obtain⟨ys,m,_,_,_,pg,gu⟩:=DataW.trod_struct underlying27 h;have bu:∀ j,j<3->∃ z,ys[j]?=some z:=fun j hj=>⟨_,List.getElem?_eq_getElem (by rw[pg];exact hj)⟩
 obtain⟨y0,dG⟩:=bu 0 (by omega);have g0:=gu 0 _ rfl;rw[dG]at g0;have p0:DataW.trod enc Tryz.prog w base spare held m 3 [u0]=some y0:=by have this:DataW.trod enc Tryz.prog w base spare held m 3 (([u0,u1,u2].drop 0).take (Tryz.prog.cellsOf 3))=some y0:=g0;rw[bU]at this;exact this
 obtain⟨y1,fq⟩:=bu 1 (by omega);have g1:=gu 1 _ rfl;rw[fq]at g1;have p1:DataW.trod enc Tryz.prog w base spare held m 3 [u1]=some y1:=by have this:DataW.trod enc Tryz.prog w base spare held m 3 (([u0,u1,u2].drop 1).take (Tryz.prog.cellsOf 3))=some y1:=g1;rw[bU]at this;exact this
 obtain⟨y2,eL⟩:=bu 2 (by omega);have g2:=gu 2 _ rfl;rw[eL]at g2;have p2:DataW.trod enc Tryz.prog w base spare held m 3 [u2]=some y2:=by have this:DataW.trod enc Tryz.prog w base spare held m 3 (([u0,u1,u2].drop 2).take (Tryz.prog.cellsOf 3))=some y2:=g2;rw[bU]at this;exact this
 obtain⟨x0,rfl,_,k0⟩:=Jbu p0;obtain⟨x1,rfl,_,k1⟩:=Jbu p1;obtain⟨x2,rfl,_,k2⟩:=Jbu p2;exact⟨x0,x1,x2,rfl,rfl,rfl,k0,k1,k2⟩
theorem Jpb{m:Nat}{u:B7}{z:DataW H × List MemPlace}(h:DataW.trod enc Tryz.prog w base spare held m 4 [u]=some z):∃ x:Bool,u = BT x:=by
 obtain⟨x,hx,_⟩:=DataW.trod_bool underlying4 h;exact⟨x,by simpa using hx⟩
theorem Jv3{cs:Array B7}(h:cs.size=3):∃ u0 u1 u2,cs = #[u0,u1,u2]:=by
 obtain⟨l⟩:=cs
 match l,h with
 | [a,b,c],_=>exact⟨a,b,c,rfl⟩
end
end
section
open Go.RowKit Go.Shelf Fx
theorem CW.flag{p:Nat}{g:Bool}{V V':BV}(a:After ⟨p,0,none⟩ g V V'):CW V' p [BT g]:=fun i v e=>by
 match i,e with
 | 0,e=>cases e;exact⟨a.cell,a.frozen⟩
 | n+1,e=>simp at e
def V3.l(a:V3):List B7:=[J Y a.x,J Y a.y,J Y a.z]
structure BR(W0:BV)(pb pa pj pw pr px py:Nat)(cb:List B7)(am jm:V3)(g1 g2:Bool)(cx cy:List B7)(V:BV):Prop where
 below:B9 W0.heap.size W0 V
 cb:CW V pb cb
 ca:CW V pa am.l
 cj:CW V pj jm.l
 cw:CW V pw [BT g1]
 cr:CW V pr [BT g2]
 cx:CW V px cx
 cy:CW V py cy
 o:W0.heap.size<=pb/\pb<pa/\pa<pj/\pj<pw/\pw<pr/\pr<px/\px<py
section
variable {W0 V V':BV} {pb pa pj pw pr px py:Nat} {cb cx cy us:List B7} {am jm:V3} {g1 g2 g:Bool}
theorem BR.w(h:BR W0 pb pa pj pw pr px py cb am jm g1 g2 cx cy V)(a:After ⟨pw,0,none⟩ g V V'):BR W0 pb pa pj pw pr px py cb am jm g g2 cx cy V':=by
 obtain⟨o0,o1,o2,o3,o4,o5,o6⟩:=h.o;exact⟨a.on h.below (by show _<=pw;omega),h.cb.after a (by show pb≠pw;omega),h.ca.after a (by show pa≠pw;omega),h.cj.after a (by show pj≠pw;omega),CW.flag a,h.cr.after a (by show pr≠pw;omega),h.cx.after a (by show px≠pw;omega),h.cy.after a (by show py≠pw;omega),h.o⟩
theorem BR.r(h:BR W0 pb pa pj pw pr px py cb am jm g1 g2 cx cy V)(a:After ⟨pr,0,none⟩ g V V'):BR W0 pb pa pj pw pr px py cb am jm g1 g cx cy V':=by
 obtain⟨o0,o1,o2,o3,o4,o5,o6⟩:=h.o;exact⟨a.on h.below (by show _<=pr;omega),h.cb.after a (by show pb≠pr;omega),h.ca.after a (by show pa≠pr;omega),h.cj.after a (by show pj≠pr;omega),h.cw.after a (by show pw≠pr;omega),CW.flag a,h.cx.after a (by show px≠pr;omega),h.cy.after a (by show py≠pr;omega),h.o⟩
theorem BR.sx(h:BR W0 pb pa pj pw pr px py cb am jm g1 g2 cx cy V)(hl:us.length=cx.length):BR W0 pb pa pj pw pr px py cb am jm g1 g2 us cy (V.setCells px 0 us):=by
 obtain⟨o0,o1,o2,o3,o4,o5,o6⟩:=h.o;exact⟨h.below.trans (Jbd (by omega) _ _ _),h.cb.apart (by omega),h.ca.apart (by omega),h.cj.apart (by omega),h.cw.apart (by omega),h.cr.apart (by omega),h.cx.sets hl,h.cy.apart (by omega),h.o⟩
theorem BR.sy(h:BR W0 pb pa pj pw pr px py cb am jm g1 g2 cx cy V)(hl:us.length=cy.length):BR W0 pb pa pj pw pr px py cb am jm g1 g2 cx us (V.setCells py 0 us):=by
 obtain⟨o0,o1,o2,o3,o4,o5,o6⟩:=h.o;exact⟨h.below.trans (Jbd (by omega) _ _ _),h.cb.apart (by omega),h.ca.apart (by omega),h.cj.apart (by omega),h.cw.apart (by omega),h.cr.apart (by omega),h.cx.apart (by omega),h.cy.sets hl,h.o⟩
theorem CW.put3{b:Nat}(h:CW V pb cb)(ak:b≠pb)(i j k:Nat)(x y z:B7):CW (((V.setCell ⟨b,i,none⟩ x).setCell ⟨b,j,none⟩ y).setCell ⟨b,k,none⟩ z) pb cb:=
 ((h.other (a:=⟨b,i,none⟩) ak x).other (a:=⟨b,j,none⟩) ak y).other (a:=⟨b,k,none⟩) ak z
theorem Jjc{b B:Nat}(hb:B<=b)(i j k:Nat)(x y z:B7):B9 B V (((V.setCell ⟨b,i,none⟩ x).setCell ⟨b,j,none⟩ y).setCell ⟨b,k,none⟩ z):=
 (((Below.refl B V).setCell hb x).setCell hb y).setCell hb z
theorem CW.wp{b:Bd}{R:List B7}{p:Nat}(hR:Rest R)(h:CW V p (b.L R))(q:V3):CW (((V.setCell ⟨p,8,none⟩ (J Y q.x)).setCell ⟨p,9,none⟩ (J Y q.y)).setCell ⟨p,10,none⟩ (J Y q.z)) p ((b.wp q).L R):=by
 have:=((h.set 8 (J Y q.x) (by rw[hR.all];decide)).set 9 (J Y q.y) (by rw[List.length_set,hR.all];decide)).set 10 (J Y q.z) (by rw[List.length_set,List.length_set,hR.all];decide);rwa [Jwg]at this
theorem BR.x3{b:Bd}{R:List B7}(hR:Rest R)(h:BR W0 pb pa pj pw pr px py cb am jm g1 g2 (b.L R) cy V)(q:V3):BR W0 pb pa pj pw pr px py cb am jm g1 g2 ((b.wp q).L R) cy (((V.setCell ⟨px,8,none⟩ (J Y q.x)).setCell ⟨px,9,none⟩ (J Y q.y)).setCell ⟨px,10,none⟩ (J Y q.z)):=by
 obtain⟨o0,o1,o2,o3,o4,o5,o6⟩:=h.o;exact⟨h.below.trans (Jjc (by omega) _ _ _ _ _ _),h.cb.put3 (by omega) _ _ _ _ _ _,h.ca.put3 (by omega) _ _ _ _ _ _,h.cj.put3 (by omega) _ _ _ _ _ _,h.cw.put3 (by omega) _ _ _ _ _ _,h.cr.put3 (by omega) _ _ _ _ _ _,h.cx.wp hR q,h.cy.put3 (by omega) _ _ _ _ _ _,h.o⟩
theorem BR.y3{b:Bd}{R:List B7}(hR:Rest R)(h:BR W0 pb pa pj pw pr px py cb am jm g1 g2 cx (b.L R) V)(q:V3):BR W0 pb pa pj pw pr px py cb am jm g1 g2 cx ((b.wp q).L R) (((V.setCell ⟨py,8,none⟩ (J Y q.x)).setCell ⟨py,9,none⟩ (J Y q.y)).setCell ⟨py,10,none⟩ (J Y q.z)):=by
 obtain⟨o0,o1,o2,o3,o4,o5,o6⟩:=h.o;exact⟨h.below.trans (Jjc (by omega) _ _ _ _ _ _),h.cb.put3 (by omega) _ _ _ _ _ _,h.ca.put3 (by omega) _ _ _ _ _ _,h.cj.put3 (by omega) _ _ _ _ _ _,h.cw.put3 (by omega) _ _ _ _ _ _,h.cr.put3 (by omega) _ _ _ _ _ _,h.cx.put3 (by omega) _ _ _ _ _ _,h.cy.wp hR q,h.o⟩
theorem BR.step(h:BR W0 pb pa pj pw pr px py cb am jm g1 g2 cx cy V)(hb:B9 V.heap.size V V'):BR W0 pb pa pj pw pr px py cb am jm g1 g2 cx cy V':=
 ⟨Jc h.below hb,h.cb.step hb,h.ca.step hb,h.cj.step hb,h.cw.step hb,h.cr.step hb,h.cx.step hb,h.cy.step hb,h.o⟩
theorem Jdy{p:Ce}{base n:Nat}{u:B7}{xs:List B7}{T sz:Nat}(h:V.ownsRow base T sz u n xs)(a:After p g V V')(hp:p.block<base):V'.ownsRow base T sz u n xs:=
 Jed h fun k hk=>a.kept.2.2.2 k (h.lt k hk).2 (fun e=>by have:=(h.lt k hk).1;rw[e]at this;exact absurd this (Nat.not_le.2 hp))
theorem Jb8{base n k:Nat}{u:B7}{xs:List B7}{T sz:Nat}(h:V.ownsRow base T sz u n xs)(hk:k<base):u.ownBlock≠some k:=fun e=>by have:=(h.lt k e).1;omega
structure BS(W0:BV)(pb pa pj:Nat)(cb:List B7)(am jm:V3)(V:BV):Prop where
 below:B9 W0.heap.size W0 V
 cb:CW V pb cb
 ca:CW V pa am.l
 cj:CW V pj jm.l
 o:W0.heap.size<=pb/\pb<pa/\pa<pj/\pj<V.heap.size
theorem BS.step(h:BS W0 pb pa pj cb am jm V)(hb:B9 V.heap.size V V'):BS W0 pb pa pj cb am jm V':=
 ⟨Jc h.below hb,h.cb.step hb,h.ca.step hb,h.cj.step hb,h.o.1,h.o.2.1,h.o.2.2.1,Nat.lt_of_lt_of_le h.o.2.2.2 hb.size⟩
end
theorem Jve{b:Bd}(hb:∀ v∈([b.p.x,b.p.y,b.p.z,b.l.x,b.l.y,b.l.z]:List Int),-9223372036854775808<=v/\v<=9223372036854775807):Sml 64 b.p/\Sml 64 b.l:=by
 have h0:=hb b.p.x (by simp);have h1:=hb b.p.y (by simp);have h2:=hb b.p.z (by simp);have h3:=hb b.l.x (by simp);have h4:=hb b.l.y (by simp);have h5:=hb b.l.z (by simp);refine⟨⟨?_,?_,?_⟩,?_,?_,?_⟩ <;> omega
end
end Go.Proofs.YtkblcfgamnmbkaaGreat
