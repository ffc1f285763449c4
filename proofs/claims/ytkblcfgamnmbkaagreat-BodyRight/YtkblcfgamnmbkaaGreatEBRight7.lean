/- Package body: what is done to a Moving body alone. -/
import Derived.Test.YtkblcfgamnmbkaaGreatEBRight2
import Derived.Test.YtkblcfgamnmbkaaGreatEBRight0
import Derived.Test.YtkblcfgamnmbkaaGreatEBRight6
import Derived.Test.YtkblcfgamnmbkaaGreatEBRight1
import Derived.OneCell
set_option maxHeartbeats 2000000
set_option maxRecDepth 100000
set_option linter.unusedVariables false
namespace Go.Proofs.YtkblcfgamnmbkaaGreat
open Go.Calls renaming mono -> JA
open Go.World renaming block_lt_of_cell? -> JB
open Go.Region renaming binds -> JC
open Go renaming execOp -> JD
open Go.World renaming size_alloc -> JE
open List renaming set_cons_succ -> JF
open List renaming set_cons_zero -> JG
open List renaming setIfInBounds_toArray -> JH
open Go.Proofs.Tryz
open Go.Value renaming int -> J
open Go.IntKind renaming i64 -> Y
open Go.Value renaming pointer -> BO
open Go.Obj renaming cells -> BP
open Go.Value renaming slice -> BQ
open Go.Value renaming bool -> BT
open Go.RowKit renaming Hid -> BU
open Go renaming World -> BV
open Go.Ending renaming returned -> BZ
open Go renaming Value -> B7
open Go.RowKit renaming Below -> B9
open Go.Value renaming agg -> B_
open Go renaming Calls -> Cd
open Go renaming Addr -> Ce
section
open Go.RowKit Go.Shelf Fx
theorem Jj{R:List B7}(hR:Rest R)(b:Bd):(Tryz.prog.info? 39).map (·.size)=some (b.L R).length:=by rw[hR.all];kernel_rfl
theorem Jgl(b:Bd)(R:List B7)(fv:B7)(hk:b.k≠2)(W:BV):
  Cd Tryz.prog 53 #[B_ (b.L R).toArray,fv] W fun e W'=>e = BZ (.tuple #[])/\BU (B9 W.heap.size W W'):=by
 have hb:BU _:=Jb W (BP (b.L R).toArray 39);have h0:=(CW.new W (b.L R) 39 0 _ rfl).1;have mK:(b.k == 2)=false:=by simpa using hk
 generalize b.L R=cs at *;generalize b.k=k at *;go_enter func53,ntmps53;go_wp2_with (fail)
 go_end0
 exact⟨rfl,hb⟩
theorem Jeq(b:Bd)(R:List B7)(hk:b.k=2)(gf:Nat)(caps:Array B7)(eg:∀ args w,(callFunc gf args).run Tryz.prog w = .ok (.enter gf args) w)(Q:BV->Prop)(W:BV)
  (hf:Cd Tryz.prog gf caps (W.alloc (BP (b.L R).toArray 39)) fun e W'=>e = BZ (.tuple #[])/\Q W') :
  Cd Tryz.prog 53 #[B_ (b.L R).toArray,.func (.func gf) #[] caps] W fun e W'=>e = BZ (.tuple #[])/\Q W':=by
 have HF:BU _:=hf;clear hf;have h0:=(CW.new W (b.L R) 39 0 _ rfl).1;rw[hk]at h0;generalize b.L R=cs at *;go_enter func53,ntmps53;go_wp2_with (fail);refine JA HF.out ?_;rintro e W' ⟨rfl,hq⟩;clear h0 HF;go_wp2_with (fail)
 go_end0
 exact⟨rfl,hq⟩
structure Two2(p:Ce)(k:Nat)(V W:BV):Prop where
 size:V.heap.size<=W.heap.size
 other:∀ q:Ce,q.block<V.heap.size->q.block≠p.block->q.block≠k->W.cell? q=V.cell? q/\W.frozen? q=V.frozen? q
 below:∀(B:Nat) (w:BV),B9 B w V->B<=p.block->B<=k->B<=V.heap.size->B9 B w W
 kept:W.os=V.os/\W.tape=V.tape/\W.output=V.output/\∀ j,j<V.heap.size->j≠p.block->j≠k->W.heap[j]?=V.heap[j]?
 beside:p.block<V.heap.size->p.block≠k->∀ o,o≠p.off->W.cell? ⟨p.block,o,none⟩=V.cell? ⟨p.block,o,none⟩/\W.frozen? ⟨p.block,o,none⟩=V.frozen? ⟨p.block,o,none⟩
section
variable {p:Ce} {k:Nat} {U V W X:BV} {g:Bool} {vs:List B7}
theorem Two2.of(h:Leaves p V W):Two2 p k V W:=⟨h.size,fun q a b _=>h.other q a b,fun B w a b _ d=>h.below B w a b d,⟨h.kept.1,h.kept.2.1,h.kept.2.2.1,fun j a b _=>h.kept.2.2.2 j a b⟩,fun a _ o b=>h.beside a o b⟩
theorem Two2.trans(h:Two2 p k U V)(h':Two2 p k V W):Two2 p k U W:=by
 refine⟨Nat.le_trans h.size h'.size,fun q a b c=>?_,fun B w a b c d=>h'.below B w (h.below B w a b c d) b c (Nat.le_trans d h.size),⟨h'.kept.1.trans h.kept.1,h'.kept.2.1.trans h.kept.2.1,h'.kept.2.2.1.trans h.kept.2.2.1,fun j a b c=>(h'.kept.2.2.2 j (Nat.lt_of_lt_of_le a h.size) b c).trans (h.kept.2.2.2 j a b c)⟩,fun a b o c=>?_⟩
 ·have e1:=h.other q a b c;have e2:=h'.other q (Nat.lt_of_lt_of_le a h.size) b c;exact⟨e2.1.trans e1.1,e2.2.trans e1.2⟩
 ·have e1:=h.beside a b o c;have e2:=h'.beside (Nat.lt_of_lt_of_le a h.size) b o c;exact⟨e2.1.trans e1.1,e2.2.trans e1.2⟩
theorem Two2.same(h:Two2 p k U V)(a:After p g V W):Two2 p k U W:=h.trans (Two2.of a.leaves)
theorem Two2.set(h:Two2 p k U V)(o:Nat)(v:B7):Two2 p k U (V.setCell ⟨k,o,none⟩ v):=by
 refine h.trans ⟨by simp[World.setCell],fun q a b c=>?_,fun B w a b c d=>a.setCell c v,⟨rfl,rfl,rfl,fun j a b c=>Below.heap_setCell _ _ _ _ c⟩,fun a b o' c=>?_⟩
 ·exact⟨World.cell?_of_block (w:=V) (Below.heap_setCell _ _ _ _ c),World.frozen?_of_block (w:=V) (Below.heap_setCell _ _ _ _ c)⟩
 ·exact⟨World.cell?_of_block (w:=V) (Below.heap_setCell _ _ _ _ b),World.frozen?_of_block (w:=V) (Below.heap_setCell _ _ _ _ b)⟩
theorem Two2.step(h:Two2 p k U V)(hb:B9 V.heap.size V W):Two2 p k U W:=h.trans (Two2.of ((Leaves.refl p V).step hb))
theorem Leaves.two(h:Leaves p U V)(t:Two2 p k V W)(hp:p.block<U.heap.size)(hk:U.heap.size<=k):Leaves p U W:=by
 refine⟨Nat.le_trans h.size t.size,fun q a b=>?_,fun B w a b c=>t.below B w (h.below B w a b c) b (Nat.le_trans c hk) (Nat.le_trans c h.size),⟨t.kept.1.trans h.kept.1,t.kept.2.1.trans h.kept.2.1,t.kept.2.2.1.trans h.kept.2.2.1,fun j a b=>(t.kept.2.2.2 j (Nat.lt_of_lt_of_le a h.size) b (by omega)).trans (h.kept.2.2.2 j a b)⟩,fun a o c=>?_⟩
 ·have e1:=h.other q a b;have e2:=t.other q (Nat.lt_of_lt_of_le a h.size) b (by omega);exact⟨e2.1.trans e1.1,e2.2.trans e1.2⟩
 ·have e1:=h.beside a o c;have e2:=t.beside (Nat.lt_of_lt_of_le a h.size) (by omega) o c;exact⟨e2.1.trans e1.1,e2.2.trans e1.2⟩
theorem CW.two{b:Nat}(h:CW V b vs)(t:Two2 p k V W)(h1:b≠p.block)(h2:b≠k):CW W b vs:=fun i v e=>by
 have:=t.other ⟨b,i,none⟩ (JB _ _ (h i v e).1) h1 h2;exact⟨this.1.trans (h i v e).1,this.2.trans (h i v e).2⟩
structure Clo(p:Ce)(g:Bool)(k:Nat)(cs:List B7)(V W:BV):Prop where
 two:Two2 p k V W
 cell:W.cell? p=some (BT g)
 frozen:W.frozen? p=false
 cw:CW W k cs
theorem Clo.start(hc:V.cell? p=some (BT g))(hf:V.frozen? p=false)(h:CW V k vs):Clo p g k vs V V:=⟨Two2.of (Leaves.refl _ _),hc,hf,h⟩
theorem Clo.same{g':Bool}(h:Clo p g k vs U V)(a:After p g' V W)(hk:k≠p.block):Clo p g' k vs U W:=⟨h.two.same a,a.cell,a.frozen,h.cw.after a hk⟩
theorem Clo.set(h:Clo p g k vs U V)(hk:k≠p.block)(o:Nat)(v:B7)(ho:o<vs.length):Clo p g k (vs.set o v) U (V.setCell ⟨k,o,none⟩ v):=
 ⟨h.two.set o v,(World.cell?_setCell_other _ _ _ _ (fun e=>hk (by cases p;exact(Addr.mk.inj e).1))).trans h.cell,by simp[go_sem,h.frozen],h.cw.set o v ho⟩
theorem Clo.step(h:Clo p g k vs U V)(hb:B9 V.heap.size V W):Clo p g k vs U W:=⟨h.two.step hb,Ja hb h.cell,Jm hb h.cell h.frozen,h.cw.step hb⟩
end
end
section
open Go.RowKit Go.Shelf Fx
theorem Jk7(fb fo:Nat)(f:Bool)(x y:V3)(W:BV)(hc:W.cell? ⟨fb,fo,none⟩=some (BT f))(hf:W.frozen? ⟨fb,fo,none⟩=false):
  Cd Tryz.prog 96 #[BO (some ⟨fb,fo,none⟩),x.val,y.val] W fun e W'=>e = BZ (Jm1 x y).val/\BU (After ⟨fb,fo,none⟩ (f||Jhp x y) W W'):=by
 have aO:fb<W.heap.size:=JB _ _ hc;obtain⟨V,hV⟩:∃ V,V=((W.alloc (BP #[J Y x.x,J Y x.y,J Y x.z] 27)).alloc (BP #[J Y y.x,J Y y.y,J Y y.z] 27)).alloc (BP #[J Y 0,J Y 0,J Y 0] 27):=⟨_,rfl⟩
 have ac:=Jb W (BP #[J Y x.x,J Y x.y,J Y x.z] 27);have aj:=Jb (W.alloc (BP #[J Y x.x,J Y x.y,J Y x.z] 27)) (BP #[J Y y.x,J Y y.y,J Y y.z] 27);have ao:=Jb ((W.alloc (BP #[J Y x.x,J Y x.y,J Y x.z] 27)).alloc (BP #[J Y y.x,J Y y.y,J Y y.z] 27)) (BP #[J Y 0,J Y 0,J Y 0] 27);have CA:CW V W.heap.size [J Y x.x,J Y x.y,J Y x.z]:=by rw[hV];exact((CW.new W [J Y x.x,J Y x.y,J Y x.z] 27).step aj).step ao
 have CB:CW V (W.heap.size+1) [J Y y.x,J Y y.y,J Y y.z]:=by
  have:=(CW.new (W.alloc (BP #[J Y x.x,J Y x.y,J Y x.z] 27)) [J Y y.x,J Y y.y,J Y y.z] 27).step ao;rw[JE]at this;rw[hV];exact this
 have CR:CW V (W.heap.size+1+1) [J Y 0,J Y 0,J Y 0]:=by
  have:=CW.new ((W.alloc (BP #[J Y x.x,J Y x.y,J Y x.z] 27)).alloc (BP #[J Y y.x,J Y y.y,J Y y.z] 27)) [J Y 0,J Y 0,J Y 0] 27;simp only[JE]at this;rw[hV];exact this
 have hB:B9 W.heap.size W V:=by rw[hV];exact Jc (Jc ac aj) ao
 have aN:=Ja hB hc;have aT:=Jm hB hc hf;have aY:BU (Leaves ⟨fb,fo,none⟩ W V):=(Leaves.refl _ _).step hB;clear hc hf hB ac aj ao;go_enter func96,ntmps96;go_upto_region 1 with fail;rw[<- hV];clear hV;obtain⟨pr,oR⟩:∃ p,p=W.heap.size+1+1:=⟨_,rfl⟩
 obtain⟨pb,oS⟩:∃ p,p=W.heap.size+1:=⟨_,rfl⟩
 obtain⟨pa,oT⟩:∃ p,p=W.heap.size:=⟨_,rfl⟩
 rw[<- oR]at CR;rw[<- oS]at CB;rw[<- oT]at CA;rw[<- oR,<- oS,<- oT];have na:pa≠fb:=by omega
 have nb:pb≠fb:=by omega
 have nr:pr≠fb:=by omega
 have nr':fb≠pr:=by omega
 have aB:W.heap.size<=pr:=by omega
 clear oR oS oT aO;refine Bq [.some (BO (some ⟨fb,fo,none⟩)),.some (BO (some ⟨pa,0,none⟩)),.some (J Y x.x),.some (BO (some ⟨pb,0,none⟩)),.some (J Y y.x),.some (J Y (dv1 x.x y.x)),.some (BO (some ⟨fb,fo,none⟩)),.some (BO (some ⟨pa,1,none⟩)),.some (J Y x.y),.some (BO (some ⟨pb,1,none⟩)),.some (J Y y.y),.some (J Y (dv1 x.y y.y)),.some (BO (some ⟨fb,fo,none⟩)),.some (BO (some ⟨pa,2,none⟩)),.some (J Y x.z),.some (BO (some ⟨pb,2,none⟩)),.some (J Y y.z),.some (J Y (dv1 x.z y.z)),.some (B_ #[J Y (dv1 x.x y.x),J Y (dv1 x.y y.y),J Y (dv1 x.z y.z)]),none] [8,9,10,11,12,13,14,15,16,17,18,19,20,21,22,23,24,25,26,0] [(0,BO (some ⟨fb,fo,none⟩)),(4,BO (some ⟨pa,0,none⟩)),(5,BO (some ⟨pb,0,none⟩)),(6,BO (some ⟨pr,0,none⟩))] (fun γ L w9=>FGS V ⟨fb,fo,none⟩ f [(5,Jb1 x.x y.x),(11,Jb1 x.y y.y),(17,Jb1 x.z y.z)] 19 (fun w=>(((w.setCell ⟨pr,0,none⟩ (J Y (dv1 x.x y.x))).setCell ⟨pr,1,none⟩ (J Y (dv1 x.y y.y))).setCell ⟨pr,2,none⟩ (J Y (dv1 x.z y.z)))) L w9) ⟨rfl,rfl,rfl,rfl,trivial⟩ ?_ ?_ ?_
 ·exact FGS.start aN aT
 ·intro D WA Z hD ah hZ T;simp only[RV.Outs,RV.Slots,Nat.reduceAdd]at T
  iterate 5 first
   |(refine Br _ (Bs T (fun γ v L w hl h=>h.stay (by decide) rfl) (fun γ L a w hH hl h9 k9=>⟨_,?_,rfl⟩)) ?_;· simp[JD,go_sem,h9])
   |(refine Br _ (Bs T (fun γ v L w hl h=>h.stay (by decide) rfl) (fun γ L a w hH hl h9 k9=>⟨_,?_,rfl⟩)) ?_;· have hG:=hH.glob.early (Bu hH (Bv (j:=19) ah (by kernel_rfl)) hl);have q0:=hG.at (CA 0 _ rfl).1 na;have q1:=hG.at (CB 0 _ rfl).1 nb;simp[JC]at k9;simp[JD,go_sem,h9,k9,q0,q1])
  refine Br _ (Bw (fun γ L a w hH hl hA=>by have h9:=T γ L a w hH;have k9:=hA;simp[JC]at k9;have hG:=hH.glob.early (Bu hH (Bv (j:=19) (i:=5) ah (by kernel_rfl)) hl);exact⟨157,#[BO (some ⟨fb,fo,none⟩),J Y x.x,J Y y.x],by simp[go_sem,h9,k9],JA (Jnm fb fo _ x.x y.x w hG.cell hG.frozen) (by rintro e w2 ⟨rfl,ha⟩;exact⟨_,rfl,rfl,fun j v _ h=>h.keep _,FGS.come hG (by decide) (Bu hH (Bv (j:=19) (i:=5) ah (by kernel_rfl)) hl) hl rfl ha.out⟩)⟩)) ?_
  iterate 5 first
   |(refine Br _ (Bs T (fun γ v L w hl h=>h.stay (by decide) rfl) (fun γ L a w hH hl h9 k9=>⟨_,?_,rfl⟩)) ?_;· simp[JD,go_sem,h9])
   |(refine Br _ (Bs T (fun γ v L w hl h=>h.stay (by decide) rfl) (fun γ L a w hH hl h9 k9=>⟨_,?_,rfl⟩)) ?_;· have hG:=hH.glob.early (Bu hH (Bv (j:=19) ah (by kernel_rfl)) hl);have q0:=hG.at (CA 1 _ rfl).1 na;have q1:=hG.at (CB 1 _ rfl).1 nb;simp[JC]at k9;simp[JD,go_sem,h9,k9,q0,q1])
  refine Br _ (Bw (fun γ L a w hH hl hA=>by have h9:=T γ L a w hH;have k9:=hA;simp[JC]at k9;have hG:=hH.glob.early (Bu hH (Bv (j:=19) (i:=11) ah (by kernel_rfl)) hl);exact⟨157,#[BO (some ⟨fb,fo,none⟩),J Y x.y,J Y y.y],by simp[go_sem,h9,k9],JA (Jnm fb fo _ x.y y.y w hG.cell hG.frozen) (by rintro e w2 ⟨rfl,ha⟩;exact⟨_,rfl,rfl,fun j v _ h=>h.keep _,FGS.come hG (by decide) (Bu hH (Bv (j:=19) (i:=11) ah (by kernel_rfl)) hl) hl rfl ha.out⟩)⟩)) ?_
  iterate 5 first
   |(refine Br _ (Bs T (fun γ v L w hl h=>h.stay (by decide) rfl) (fun γ L a w hH hl h9 k9=>⟨_,?_,rfl⟩)) ?_;· simp[JD,go_sem,h9])
   |(refine Br _ (Bs T (fun γ v L w hl h=>h.stay (by decide) rfl) (fun γ L a w hH hl h9 k9=>⟨_,?_,rfl⟩)) ?_;· have hG:=hH.glob.early (Bu hH (Bv (j:=19) ah (by kernel_rfl)) hl);have q0:=hG.at (CA 2 _ rfl).1 na;have q1:=hG.at (CB 2 _ rfl).1 nb;simp[JC]at k9;simp[JD,go_sem,h9,k9,q0,q1])
  refine Br _ (Bw (fun γ L a w hH hl hA=>by have h9:=T γ L a w hH;have k9:=hA;simp[JC]at k9;have hG:=hH.glob.early (Bu hH (Bv (j:=19) (i:=17) ah (by kernel_rfl)) hl);exact⟨157,#[BO (some ⟨fb,fo,none⟩),J Y x.z,J Y y.z],by simp[go_sem,h9,k9],JA (Jnm fb fo _ x.z y.z w hG.cell hG.frozen) (by rintro e w2 ⟨rfl,ha⟩;exact⟨_,rfl,rfl,fun j v _ h=>h.keep _,FGS.come hG (by decide) (Bu hH (Bv (j:=19) (i:=17) ah (by kernel_rfl)) hl) hl rfl ha.out⟩)⟩)) ?_
  (refine Br _ (Bs T (fun γ v L w hl h=>h.stay (by decide) rfl) (fun γ L a w hH hl h9 k9=>⟨_,?_,rfl⟩)) ?_;· simp[JC]at k9;simp[JD,go_sem,h9,k9])
  refine Br _ (Bz (fun γ L a w hH hl hA=>by have h9:=T γ L a w hH;have k9:=hA;simp[JC]at k9;have hG:=hH.glob.early hl;have z0:=hG.at (CR 0 _ rfl).1 nr;have cX:=hG.open (CR 0 _ rfl).1 (CR 0 _ rfl).2 nr;have z1:=hG.at (CR 1 _ rfl).1 nr;have cY:=hG.open (CR 1 _ rfl).1 (CR 1 _ rfl).2 nr;have z2:=hG.at (CR 2 _ rfl).1 nr;have cZ:=hG.open (CR 2 _ rfl).1 (CR 2 _ rfl).2 nr;exact⟨(((w.setCell ⟨pr,0,none⟩ (J Y (dv1 x.x y.x))).setCell ⟨pr,1,none⟩ (J Y (dv1 x.y y.y))).setCell ⟨pr,2,none⟩ (J Y (dv1 x.z y.z))),by simp[JD,go_sem,z0,cX,z1,cY,z2,cZ,h9,k9],trivial,fun j v _ h=>h.keep _,FGS.store (S:=fun w=>(((w.setCell ⟨pr,0,none⟩ (J Y (dv1 x.x y.x))).setCell ⟨pr,1,none⟩ (J Y (dv1 x.y y.y))).setCell ⟨pr,2,none⟩ (J Y (dv1 x.z y.z)))) hG rfl⟩)) ?_;exact RV.AllDo.nil
 ·intro γ w5 L9 hL aX aD;obtain⟨w8,bi,rfl⟩:=aD.late (hL 19 (by decide));have cE:orL f [(5,Jb1 x.x y.x),(11,Jb1 x.y y.y),(17,Jb1 x.z y.z)] L9=(f ||(Jb1 x.x y.x||Jb1 x.y y.y||Jb1 x.z y.z)):=by unfold orL;simp only[List.any_cons,List.any_nil,hL 5 (by decide),hL 11 (by decide),hL 17 (by decide),Bool.true_and,Bool.or_false,Bool.or_assoc]
  have a_:BU (After _ _ _ _):=bi.leaves.done bi.cell bi.frozen;rw[cE]at a_;clear bi cE;clear hL aX aD;simp only[RV.putL,Act.put,JH,JG,JF];have C1:BU (CW w8 pr _):=(CR.leaves a_.out.leaves nr)
  have HL:BU (Leaves ⟨fb,fo,none⟩ W _):=aY.out.same a_.out;have eY:=a_.out.cell;have e_:=a_.out.frozen;obtain⟨r0,q0⟩:=C1.out 0 _ rfl;obtain⟨r1,q1⟩:=C1.out 1 _ rfl;obtain⟨r2,q2⟩:=C1.out 2 _ rfl;clear C1 a_;go_wp2_with (fail);refine bodyPost_ret (by simp[results,results96,go_sem,r0,r1,r2];try rfl) rfl ?_;refine⟨rfl,(((HL.out.set aB _).set aB _).set aB _).done ?_ ?_⟩
  ·simp[go_sem,eY,Jhp]
  ·simp[go_sem,e_]
def if2(k:Int)(a:V3):V3:=if k=2 then a else ⟨0,0,0⟩
def Jav(k:Int)(a:Bool):Bool:=if k=2 then a else false
def Jap(b:Bd):V3:=Jm1 b.p ⟨b.m,b.m,b.m⟩
def Jcm(b:Bd):Bool:=Jhp b.p ⟨b.m,b.m,b.m⟩
def Jeh(b:Bd)(l:V3):V3:=Jm1 (Ja0 (Jo b.q).t l) b.i
def Jag(b:Bd)(l:V3):V3:=Ja0 (Jo b.q) (Jeh b l)
def Jcg(b:Bd)(l:V3):Bool:=Jho b.q ||(Jdm (Jo b.q).t l||Jhp (Ja0 (Jo b.q).t l) b.i||Jdm (Jo b.q) (Jeh b l))
theorem Jor(fb fo pb pw ps:Nat)(f:Bool)(b:Bd)(R:List B7)(u0 u1 u2:B7)(V:BV)(hc:V.cell? ⟨fb,fo,none⟩=some (BT f))(hf:V.frozen? ⟨fb,fo,none⟩=false)
  (CB:CW V pb (b.L R)) (CP:CW V pw [BO (some ⟨fb,fo,none⟩)]) (CS:CW V ps [u0,u1,u2]) (n3:ps≠fb) :
  Cd Tryz.prog 95 #[BO (some ⟨pb,0,none⟩),BO (some ⟨pw,0,none⟩),BO (some ⟨ps,0,none⟩)] V fun e W'=>e = BZ (.tuple #[])/\BU (Clo ⟨fb,fo,none⟩ (f||Jcm b) ps [J Y (Jap b).x,J Y (Jap b).y,J Y (Jap b).z] V W'):=by
 have k8:=(CB 8 _ rfl).1;have k9:=(CB 9 _ rfl).1;have ka:=(CB 10 _ rfl).1;have ke:=(CB 14 _ rfl).1;have kw:=(CP 0 _ rfl).1;have HC:BU _:=Jk7 fb fo f b.p ⟨b.m,b.m,b.m⟩ V hc hf;have HS:BU _:=Clo.start hc hf CS;clear CB CP CS hc hf;go_enter func95,ntmps95;go_wp2_with (fail);refine JA HC.out ?_;rintro e W1 ⟨rfl,A⟩;have HS:BU (Clo _ _ _ _ _ _):=HS.out.same A.out n3;obtain⟨r0,q0⟩:=HS.out.cw 0 _ rfl;obtain⟨r1,q1⟩:=HS.out.cw 1 _ rfl;obtain⟨r2,q2⟩:=HS.out.cw 2 _ rfl;clear HC A k8 k9 ka ke kw;go_wp2_with (fail)
 go_end0
 exact⟨rfl,((HS.out.set n3 0 _ (by simp)).set n3 1 _ (by simp)).set n3 2 _ (by simp)⟩
theorem Jnp(fb fo pw pb pl ps:Nat)(f:Bool)(b:Bd)(R:List B7)(l:V3)(u0 u1 u2:B7)(V:BV)(hc:V.cell? ⟨fb,fo,none⟩=some (BT f))(hf:V.frozen? ⟨fb,fo,none⟩=false)
  (Cb:CW V pb (b.L R)) (Cw:CW V pw [BO (some ⟨fb,fo,none⟩)]) (Cl:CW V pl [J Y l.x,J Y l.y,J Y l.z]) (Cs:CW V ps [u0,u1,u2]) (nb:pb≠fb) (nw:pw≠fb) (nl:pl≠fb) (n3:ps≠fb) :
  Cd Tryz.prog 98 #[BO (some ⟨pw,0,none⟩),BO (some ⟨pb,0,none⟩),BO (some ⟨pl,0,none⟩),BO (some ⟨ps,0,none⟩)] V fun e W'=>e = BZ (.tuple #[])/\BU (Clo ⟨fb,fo,none⟩ (f||Jcg b l) ps [J Y (Jag b l).x,J Y (Jag b l).y,J Y (Jag b l).z] V W'):=by
 have k4:=(Cb 4 _ rfl).1;have k5:=(Cb 5 _ rfl).1;have k6:=(Cb 6 _ rfl).1;have k7:=(Cb 7 _ rfl).1;have kw:=(Cw 0 _ rfl).1;have dm:fb<V.heap.size:=JB _ _ hc;have HC:BU _:=Ju1 fb fo f b.q V hc hf;have HS:BU _:=Clo.start hc hf Cs;clear hc hf;go_enter func98,ntmps98;go_wp2_with (fail);refine JA HC.out ?_;rintro e W1 ⟨rfl,A⟩;have HS:BU (Clo _ _ _ _ _ _):=HS.out.same A.out n3;have Cb:=Cb.after A.out nb;have Cw:=Cw.after A.out nw;have Cl:=Cl.after A.out nl;have dm:=Nat.lt_of_lt_of_le dm A.out.size;clear HC A k4 k5 k6 k7 kw Cs;go_upto_region 1 with fail;obtain⟨V1,dI⟩:∃ X,X=W1.alloc (BP #[J Y (Jo b.q).a.x,J Y (Jo b.q).a.y,J Y (Jo b.q).a.z,J Y (Jo b.q).b.x,J Y (Jo b.q).b.y,J Y (Jo b.q).b.z,J Y (Jo b.q).c.x,J Y (Jo b.q).c.y,J Y (Jo b.q).c.z] 105):=⟨_,rfl⟩
 have hb:=Jb W1 (BP #[J Y (Jo b.q).a.x,J Y (Jo b.q).a.y,J Y (Jo b.q).a.z,J Y (Jo b.q).b.x,J Y (Jo b.q).b.y,J Y (Jo b.q).b.z,J Y (Jo b.q).c.x,J Y (Jo b.q).c.y,J Y (Jo b.q).c.z] 105);have Cm:=CW.new W1 [J Y (Jo b.q).a.x,J Y (Jo b.q).a.y,J Y (Jo b.q).a.z,J Y (Jo b.q).b.x,J Y (Jo b.q).b.y,J Y (Jo b.q).b.z,J Y (Jo b.q).c.x,J Y (Jo b.q).c.y,J Y (Jo b.q).c.z] 105;rw[<- dI]at hb Cm;have HS:BU (Clo _ _ _ _ _ _):=HS.out.step hb;have Cb:=Cb.step hb;have Cw:=Cw.step hb;have Cl:=Cl.step hb;have Cs:=HS.out.cw;have aN:=HS.out.cell;have aT:=HS.out.frozen;rw[<- dI];obtain⟨pm,cS⟩:∃ p,p=W1.heap.size:=⟨_,rfl⟩
 rw[<- cS]at Cm ⊢;have nm:pm≠fb:=by omega
 clear cS hb dm dI;refine Bq [.some (BO (some ⟨fb,fo,none⟩)),.some (B_ #[J Y ((Jo b.q).a.x),J Y ((Jo b.q).a.y),J Y ((Jo b.q).a.z),J Y ((Jo b.q).b.x),J Y ((Jo b.q).b.y),J Y ((Jo b.q).b.z),J Y ((Jo b.q).c.x),J Y ((Jo b.q).c.y),J Y ((Jo b.q).c.z)]),.some (BO (some ⟨fb,fo,none⟩)),.some (BO (some ⟨fb,fo,none⟩)),.some (B_ #[J Y ((Jo b.q).a.x),J Y ((Jo b.q).a.y),J Y ((Jo b.q).a.z),J Y ((Jo b.q).b.x),J Y ((Jo b.q).b.y),J Y ((Jo b.q).b.z),J Y ((Jo b.q).c.x),J Y ((Jo b.q).c.y),J Y ((Jo b.q).c.z)]),.some (B_ #[J Y l.x,J Y l.y,J Y l.z]),.some (B_ #[J Y ((Ja0 (Jo b.q).t l).x),J Y ((Ja0 (Jo b.q).t l).y),J Y ((Ja0 (Jo b.q).t l).z)]),.some (BO (some ⟨pb,14,none⟩)),.some (BO (some ⟨pb,15,none⟩)),.some (B_ #[J Y b.i.x,J Y b.i.y,J Y b.i.z]),.some (B_ #[J Y ((Jeh b l).x),J Y ((Jeh b l).y),J Y ((Jeh b l).z)]),.some (B_ #[J Y ((Jag b l).x),J Y ((Jag b l).y),J Y ((Jag b l).z)]),none] [11,12,13,14,15,16,17,18,19,20,21,22,0] [(0,BO (some ⟨pw,0,none⟩)),(1,BO (some ⟨pb,0,none⟩)),(2,BO (some ⟨pl,0,none⟩)),(3,BO (some ⟨ps,0,none⟩)),(4,BO (some ⟨pm,0,none⟩))] (fun γ L w9=>FGS V1 ⟨fb,fo,none⟩ (f||Jho b.q) [(6,Jdm (Jo b.q).t l),(10,Jhp (Ja0 (Jo b.q).t l) b.i),(11,Jdm (Jo b.q) (Jeh b l))] 12 (fun w=>(((w.setCell ⟨ps,0,none⟩ (J Y ((Jag b l).x))).setCell ⟨ps,1,none⟩ (J Y ((Jag b l).y))).setCell ⟨ps,2,none⟩ (J Y ((Jag b l).z)))) L w9) ⟨rfl,rfl,rfl,rfl,rfl,trivial⟩ ?_ ?_ ?_
 ·exact FGS.start aN aT
 ·intro D WA Z hD ah hZ T;simp only[RV.Outs,RV.Slots,Nat.reduceAdd]at T
  iterate 6 (refine Br _ (Bs T (fun γ v L w hl h=>h.stay (by decide) rfl) (fun γ L a w hH hl h9 k9=>⟨_,?_,rfl⟩)) ?_;· have hG:=hH.glob.early (Bu hH (Bv (j:=12) ah (by kernel_rfl)) hl);have q0:=hG.at (Cw 0 _ rfl).1 nw;have q1:=hG.at (Cm 0 _ rfl).1 nm;have q2:=hG.at (Cm 1 _ rfl).1 nm;have q3:=hG.at (Cm 2 _ rfl).1 nm;have q4:=hG.at (Cm 3 _ rfl).1 nm;have q5:=hG.at (Cm 4 _ rfl).1 nm;have q6:=hG.at (Cm 5 _ rfl).1 nm;have q7:=hG.at (Cm 6 _ rfl).1 nm;have q8:=hG.at (Cm 7 _ rfl).1 nm;have q9:=hG.at (Cm 8 _ rfl).1 nm;have q10:=hG.at (Cl 0 _ rfl).1 nl;have q11:=hG.at (Cl 1 _ rfl).1 nl;have q12:=hG.at (Cl 2 _ rfl).1 nl;simp[JD,go_sem,h9,q0,q1,q2,q3,q4,q5,q6,q7,q8,q9,q10,q11,q12])
  refine Br _ (Bw (fun γ L a w hH hl hA=>by have h9:=T γ L a w hH;have k9:=hA;simp[JC]at k9;have hG:=hH.glob.early (Bu hH (Bv (j:=12) (i:=6) ah (by kernel_rfl)) hl);exact⟨101,#[BO (some ⟨fb,fo,none⟩),B_ #[J Y ((Jo b.q).a.x),J Y ((Jo b.q).a.y),J Y ((Jo b.q).a.z),J Y ((Jo b.q).b.x),J Y ((Jo b.q).b.y),J Y ((Jo b.q).b.z),J Y ((Jo b.q).c.x),J Y ((Jo b.q).c.y),J Y ((Jo b.q).c.z)],B_ #[J Y l.x,J Y l.y,J Y l.z]],by simp[go_sem,h9,k9],JA (Jvq fb fo _ (Jo b.q) l w hG.cell hG.frozen) (by rintro e w2 ⟨rfl,ha⟩;exact⟨_,rfl,rfl,fun j v _ h=>h.keep _,FGS.come hG (by decide) (Bu hH (Bv (j:=12) (i:=6) ah (by kernel_rfl)) hl) hl rfl ha.out⟩)⟩)) ?_
  iterate 3 first
   |(refine Br _ (Bs T (fun γ v L w hl h=>h.stay (by decide) rfl) (fun γ L a w hH hl h9 k9=>⟨_,?_,rfl⟩)) ?_;· simp[JD,go_sem,h9])
   |(refine Br _ (Bs T (fun γ v L w hl h=>h.stay (by decide) rfl) (fun γ L a w hH hl h9 k9=>⟨_,?_,rfl⟩)) ?_;· simp[JC]at k9;simp[JD,go_sem,h9,k9])
   |(refine Br _ (Bs T (fun γ v L w hl h=>h.stay (by decide) rfl) (fun γ L a w hH hl h9 k9=>⟨_,?_,rfl⟩)) ?_;· have hG:=hH.glob.early (Bu hH (Bv (j:=12) ah (by kernel_rfl)) hl);have q0:=hG.at (Cb 15 _ rfl).1 nb;have q1:=hG.at (Cb 16 _ rfl).1 nb;have q2:=hG.at (Cb 17 _ rfl).1 nb;simp[JC]at k9;simp[JD,go_sem,h9,k9,q0,q1,q2])
  refine Br _ (Bw (fun γ L a w hH hl hA=>by have h9:=T γ L a w hH;have k9:=hA;simp[JC]at k9;have hG:=hH.glob.early (Bu hH (Bv (j:=12) (i:=10) ah (by kernel_rfl)) hl);exact⟨96,#[BO (some ⟨fb,fo,none⟩),B_ #[J Y ((Ja0 (Jo b.q).t l).x),J Y ((Ja0 (Jo b.q).t l).y),J Y ((Ja0 (Jo b.q).t l).z)],B_ #[J Y b.i.x,J Y b.i.y,J Y b.i.z]],by simp[go_sem,h9,k9],JA (Jk7 fb fo _ (Ja0 (Jo b.q).t l) b.i w hG.cell hG.frozen) (by rintro e w2 ⟨rfl,ha⟩;exact⟨_,rfl,rfl,fun j v _ h=>h.keep _,FGS.come hG (by decide) (Bu hH (Bv (j:=12) (i:=10) ah (by kernel_rfl)) hl) hl rfl ha.out⟩)⟩)) ?_;refine Br _ (Bw (fun γ L a w hH hl hA=>by have h9:=T γ L a w hH;have k9:=hA;simp[JC]at k9;have hG:=hH.glob.early (Bu hH (Bv (j:=12) (i:=11) ah (by kernel_rfl)) hl);exact⟨100,#[BO (some ⟨fb,fo,none⟩),B_ #[J Y ((Jo b.q).a.x),J Y ((Jo b.q).a.y),J Y ((Jo b.q).a.z),J Y ((Jo b.q).b.x),J Y ((Jo b.q).b.y),J Y ((Jo b.q).b.z),J Y ((Jo b.q).c.x),J Y ((Jo b.q).c.y),J Y ((Jo b.q).c.z)],B_ #[J Y ((Jeh b l).x),J Y ((Jeh b l).y),J Y ((Jeh b l).z)]],by simp[go_sem,h9,k9],JA (Jvr fb fo _ (Jo b.q) (Jeh b l) w hG.cell hG.frozen) (by rintro e w2 ⟨rfl,ha⟩;exact⟨_,rfl,rfl,fun j v _ h=>h.keep _,FGS.come hG (by decide) (Bu hH (Bv (j:=12) (i:=11) ah (by kernel_rfl)) hl) hl rfl ha.out⟩)⟩)) ?_;refine Br _ (Bz (fun γ L a w hH hl hA=>by have h9:=T γ L a w hH;have k9:=hA;simp[JC]at k9;have hG:=hH.glob.early hl;have z0:=hG.at (Cs 0 _ rfl).1 n3;have cX:=hG.open (Cs 0 _ rfl).1 (Cs 0 _ rfl).2 n3;have z1:=hG.at (Cs 1 _ rfl).1 n3;have cY:=hG.open (Cs 1 _ rfl).1 (Cs 1 _ rfl).2 n3;have z2:=hG.at (Cs 2 _ rfl).1 n3;have cZ:=hG.open (Cs 2 _ rfl).1 (Cs 2 _ rfl).2 n3;exact⟨(((w.setCell ⟨ps,0,none⟩ (J Y ((Jag b l).x))).setCell ⟨ps,1,none⟩ (J Y ((Jag b l).y))).setCell ⟨ps,2,none⟩ (J Y ((Jag b l).z))),by simp[JD,go_sem,z0,cX,z1,cY,z2,cZ,h9,k9],trivial,fun j v _ h=>h.keep _,FGS.store (S:=fun w=>(((w.setCell ⟨ps,0,none⟩ (J Y ((Jag b l).x))).setCell ⟨ps,1,none⟩ (J Y ((Jag b l).y))).setCell ⟨ps,2,none⟩ (J Y ((Jag b l).z)))) hG rfl⟩)) ?_;exact RV.AllDo.nil
 ·intro γ w5 L9 hL aX aD;obtain⟨w8,bi,rfl⟩:=aD.late (hL 12 (by decide));have cE:orL (f||Jho b.q) [(6,Jdm (Jo b.q).t l),(10,Jhp (Ja0 (Jo b.q).t l) b.i),(11,Jdm (Jo b.q) (Jeh b l))] L9=((f||Jho b.q) ||(Jdm (Jo b.q).t l||Jhp (Ja0 (Jo b.q).t l) b.i||Jdm (Jo b.q) (Jeh b l))):=by unfold orL;simp only[List.any_cons,List.any_nil,hL 6 (by decide),hL 10 (by decide),hL 11 (by decide),Bool.true_and,Bool.or_false,Bool.or_assoc]
  have a_:BU (After _ _ _ _):=bi.leaves.done bi.cell bi.frozen;rw[cE]at a_;clear bi cE;clear hL aX aD;simp only[RV.putL,Act.put,JH,JG,JF];have HS:BU (Clo _ _ _ _ _ _):=HS.out.same a_.out n3;have e9:(f||Jho b.q ||(Jdm (Jo b.q).t l||Jhp (Ja0 (Jo b.q).t l) b.i||Jdm (Jo b.q) (Jeh b l)))=(f||Jcg b l):=by unfold Jcg;rw[Bool.or_assoc f]
  rw[e9]at HS;clear a_ e9;go_wp2_with (fail)
  go_end0
  exact⟨rfl,((HS.out.set n3 0 _ (by simp)).set n3 1 _ (by simp)).set n3 2 _ (by simp)⟩
theorem Jg7(fb fo:Nat)(f:Bool)(b:Bd)(R:List B7)(hR:Rest R)(W:BV)(hc:W.cell? ⟨fb,fo,none⟩=some (BT f))(hf:W.frozen? ⟨fb,fo,none⟩=false):
  Cd Tryz.prog 37 #[BO (some ⟨fb,fo,none⟩),B_ (b.L R).toArray] W fun e W'=>e = BZ (if2 b.k (Jap b)).val/\BU (After ⟨fb,fo,none⟩ (f||Jav b.k (Jcm b)) W W'):=by
 have aO:fb<W.heap.size:=JB _ _ hc;have hz:BU _:=Jj hR b;obtain⟨V,hV⟩:∃ V,V=(((W.alloc (BP #[BO (some ⟨fb,fo,none⟩)] 45)).alloc (BP (b.L R).toArray 39)).alloc (BP #[J Y 0,J Y 0,J Y 0] 27)):=⟨_,rfl⟩
 have aL:=Jb W (BP #[BO (some ⟨fb,fo,none⟩)] 45);have ac:=Jb (W.alloc (BP #[BO (some ⟨fb,fo,none⟩)] 45)) (BP (b.L R).toArray 39);have aj:=Jb ((W.alloc (BP #[BO (some ⟨fb,fo,none⟩)] 45)).alloc (BP (b.L R).toArray 39)) (BP #[J Y 0,J Y 0,J Y 0] 27);have Cw:CW V (W.heap.size) [BO (some ⟨fb,fo,none⟩)]:=by
  have h9:=((CW.new W [BO (some ⟨fb,fo,none⟩)] 45).step ac).step aj;rw[hV];exact h9
 have Cb:CW V (W.heap.size+1) (b.L R):=by
  have h9:=(CW.new (W.alloc (BP #[BO (some ⟨fb,fo,none⟩)] 45)) (b.L R) 39).step aj;simp only[JE]at h9;rw[hV];exact h9
 have Cs:CW V (W.heap.size+1+1) [J Y 0,J Y 0,J Y 0]:=by
  have h9:=CW.new ((W.alloc (BP #[BO (some ⟨fb,fo,none⟩)] 45)).alloc (BP (b.L R).toArray 39)) [J Y 0,J Y 0,J Y 0] 27;simp only[JE]at h9;rw[hV];exact h9
 have hB:B9 W.heap.size W V:=by rw[hV];exact(Jc (Jc aL ac) aj)
 have aN:=Ja hB hc;have aT:=Jm hB hc hf;have aY:BU (Leaves ⟨fb,fo,none⟩ W V):=(Leaves.refl _ _).step hB;clear aL ac aj;clear hc hf hB;go_enter func37,ntmps37;go_upto_region 1 with fail;rw[<- hV];clear hV;obtain⟨ps,dX⟩:∃ p,p=W.heap.size+1+1:=⟨_,rfl⟩
 obtain⟨pb,aF⟩:∃ p,p=W.heap.size+1:=⟨_,rfl⟩
 obtain⟨pw,bE⟩:∃ p,p=W.heap.size:=⟨_,rfl⟩
 rw[<- dX]at Cs;rw[<- aF]at Cb;rw[<- bE]at Cw;rw[<- dX,<- aF,<- bE];have nw:pw≠fb:=by omega
 have nb:pb≠fb:=by omega
 have ns:ps≠fb:=by omega
 have cO:W.heap.size<=ps:=by omega
 have au:BU (World.rangeAt V pb 0 (b.L R)):=Cb.range;by_cases hk:b.k=2
 ·have HC:BU _:=Jeq b R hk 95 #[BO (some ⟨pb,0,none⟩),BO (some ⟨pw,0,none⟩),BO (some ⟨ps,0,none⟩)] (enters_of func95 (by kernel_rfl) rfl) (fun X=>BU (Clo ⟨fb,fo,none⟩ (f||Jcm b) ps [J Y (Jap b).x,J Y (Jap b).y,J Y (Jap b).z] (V.alloc (BP (b.L R).toArray 39)) X)) V
   (Jor fb fo pb pw ps f b R _ _ _ (V.alloc (BP (b.L R).toArray 39)) (Ja (Jb _ _) aN) (Jm (Jb _ _) aN aT) (Cb.step (Jb _ _)) (Cw.step (Jb _ _)) (Cs.step (Jb _ _)) ns)
  clear Cw Cb Cs bE aF dX;go_wp2_with (refine wpList_load_mid rfl 39 _ rfl pb 0 rfl _ _ au.out underlying39 rfl hz.out ?_);refine JA HC.out ?_;rintro e W1 ⟨rfl,HK⟩;have HL:BU (Leaves ⟨fb,fo,none⟩ W W1):=(aY.out.step ((Jb V _).mono aY.out.size)).two HK.out.two aO cO;obtain⟨r0,q0⟩:=HK.out.cw 0 _ rfl;obtain⟨r1,q1⟩:=HK.out.cw 1 _ rfl;obtain⟨r2,q2⟩:=HK.out.cw 2 _ rfl;have eY:=HK.out.cell;have e_:=HK.out.frozen;have n3':fb≠ps:=fun e=>ns e.symm;clear HC HK au aN aT aY;go_wp2_with (fail);refine bodyPost_ret (by simp[results,results37,go_sem,r0,r1,r2];try rfl) rfl ?_;refine⟨by rw[if2,if_pos hk],(((HL.out.set cO _).set cO _).set cO _).done ?_ ?_⟩
  ·rw[Jav,if_pos hk];simp[go_sem,eY]
  ·simp[go_sem,e_]
 ·have HC:BU _:=Jgl b R (.func (.func 95) #[] #[BO (some ⟨pb,0,none⟩),BO (some ⟨pw,0,none⟩),BO (some ⟨ps,0,none⟩)]) hk V;clear Cw Cb bE aF dX;go_wp2_with (refine wpList_load_mid rfl 39 _ rfl pb 0 rfl _ _ au.out underlying39 rfl hz.out ?_);refine JA HC.out ?_;rintro e W1 ⟨rfl,HK⟩;have HL:BU (Leaves ⟨fb,fo,none⟩ W W1):=aY.out.step (HK.out.mono aY.out.size);have Cs:=Cs.step HK.out;obtain⟨r0,q0⟩:=Cs 0 _ rfl;obtain⟨r1,q1⟩:=Cs 1 _ rfl;obtain⟨r2,q2⟩:=Cs 2 _ rfl;have eY:=Ja HK.out aN;have e_:=Jm HK.out aN aT;have n3':fb≠ps:=fun e=>ns e.symm;clear HC HK au aN aT aY Cs;go_wp2_with (fail);refine bodyPost_ret (by simp[results,results37,go_sem,r0,r1,r2];try rfl) rfl ?_;refine⟨by rw[if2,if_neg hk],(((HL.out.set cO _).set cO _).set cO _).done ?_ ?_⟩
  ·rw[Jav,if_neg hk];simp[go_sem,eY]
  ·simp[go_sem,e_]
theorem Jjs(fb fo:Nat)(f:Bool)(b:Bd)(R:List B7)(l:V3)(hR:Rest R)(W:BV)(hc:W.cell? ⟨fb,fo,none⟩=some (BT f))(hf:W.frozen? ⟨fb,fo,none⟩=false):
  Cd Tryz.prog 41 #[BO (some ⟨fb,fo,none⟩),B_ (b.L R).toArray,l.val] W fun e W'=>e = BZ (if2 b.k (Jag b l)).val/\BU (After ⟨fb,fo,none⟩ (f||Jav b.k (Jcg b l)) W W'):=by
 have aO:fb<W.heap.size:=JB _ _ hc;have hz:BU _:=Jj hR b;obtain⟨V,hV⟩:∃ V,V=((((W.alloc (BP #[BO (some ⟨fb,fo,none⟩)] 45)).alloc (BP (b.L R).toArray 39)).alloc (BP #[J Y l.x,J Y l.y,J Y l.z] 27)).alloc (BP #[J Y 0,J Y 0,J Y 0] 27)):=⟨_,rfl⟩
 have aL:=Jb W (BP #[BO (some ⟨fb,fo,none⟩)] 45);have ac:=Jb (W.alloc (BP #[BO (some ⟨fb,fo,none⟩)] 45)) (BP (b.L R).toArray 39);have aj:=Jb ((W.alloc (BP #[BO (some ⟨fb,fo,none⟩)] 45)).alloc (BP (b.L R).toArray 39)) (BP #[J Y l.x,J Y l.y,J Y l.z] 27);have ao:=Jb (((W.alloc (BP #[BO (some ⟨fb,fo,none⟩)] 45)).alloc (BP (b.L R).toArray 39)).alloc (BP #[J Y l.x,J Y l.y,J Y l.z] 27)) (BP #[J Y 0,J Y 0,J Y 0] 27);have Cw:CW V (W.heap.size) [BO (some ⟨fb,fo,none⟩)]:=by
  have h9:=(((CW.new W [BO (some ⟨fb,fo,none⟩)] 45).step ac).step aj).step ao;rw[hV];exact h9
 have Cb:CW V (W.heap.size+1) (b.L R):=by
  have h9:=((CW.new (W.alloc (BP #[BO (some ⟨fb,fo,none⟩)] 45)) (b.L R) 39).step aj).step ao;simp only[JE]at h9;rw[hV];exact h9
 have Cl:CW V (W.heap.size+1+1) [J Y l.x,J Y l.y,J Y l.z]:=by
  have h9:=(CW.new ((W.alloc (BP #[BO (some ⟨fb,fo,none⟩)] 45)).alloc (BP (b.L R).toArray 39)) [J Y l.x,J Y l.y,J Y l.z] 27).step ao;simp only[JE]at h9;rw[hV];exact h9
 have Cs:CW V (W.heap.size+1+1+1) [J Y 0,J Y 0,J Y 0]:=by
  have h9:=CW.new (((W.alloc (BP #[BO (some ⟨fb,fo,none⟩)] 45)).alloc (BP (b.L R).toArray 39)).alloc (BP #[J Y l.x,J Y l.y,J Y l.z] 27)) [J Y 0,J Y 0,J Y 0] 27;simp only[JE]at h9;rw[hV];exact h9
 have hB:B9 W.heap.size W V:=by rw[hV];exact(Jc (Jc (Jc aL ac) aj) ao)
 have aN:=Ja hB hc;have aT:=Jm hB hc hf;have aY:BU (Leaves ⟨fb,fo,none⟩ W V):=(Leaves.refl _ _).step hB;clear aL ac aj ao;clear hc hf hB;go_enter func41,ntmps41;go_upto_region 1 with fail;rw[<- hV];clear hV;obtain⟨ps,dX⟩:∃ p,p=W.heap.size+1+1+1:=⟨_,rfl⟩
 obtain⟨pl,fd⟩:∃ p,p=W.heap.size+1+1:=⟨_,rfl⟩
 obtain⟨pb,aF⟩:∃ p,p=W.heap.size+1:=⟨_,rfl⟩
 obtain⟨pw,bE⟩:∃ p,p=W.heap.size:=⟨_,rfl⟩
 rw[<- dX]at Cs;rw[<- fd]at Cl;rw[<- aF]at Cb;rw[<- bE]at Cw;rw[<- dX,<- fd,<- aF,<- bE];have nw:pw≠fb:=by omega
 have nb:pb≠fb:=by omega
 have nl:pl≠fb:=by omega
 have ns:ps≠fb:=by omega
 have cO:W.heap.size<=ps:=by omega
 have au:BU (World.rangeAt V pb 0 (b.L R)):=Cb.range;by_cases hk:b.k=2
 ·have HC:BU _:=Jeq b R hk 98 #[BO (some ⟨pw,0,none⟩),BO (some ⟨pb,0,none⟩),BO (some ⟨pl,0,none⟩),BO (some ⟨ps,0,none⟩)] (enters_of func98 (by kernel_rfl) rfl) (fun X=>BU (Clo ⟨fb,fo,none⟩ (f||Jcg b l) ps [J Y (Jag b l).x,J Y (Jag b l).y,J Y (Jag b l).z] (V.alloc (BP (b.L R).toArray 39)) X)) V
   (Jnp fb fo pw pb pl ps f b R l _ _ _ (V.alloc (BP (b.L R).toArray 39)) (Ja (Jb _ _) aN) (Jm (Jb _ _) aN aT) (Cb.step (Jb _ _)) (Cw.step (Jb _ _)) (Cl.step (Jb _ _)) (Cs.step (Jb _ _)) nb nw nl ns)
  clear Cw Cb Cl Cs bE aF fd dX;go_wp2_with (refine wpList_load_mid rfl 39 _ rfl pb 0 rfl _ _ au.out underlying39 rfl hz.out ?_);refine JA HC.out ?_;rintro e W1 ⟨rfl,HK⟩;have HL:BU (Leaves ⟨fb,fo,none⟩ W W1):=(aY.out.step ((Jb V _).mono aY.out.size)).two HK.out.two aO cO;obtain⟨r0,q0⟩:=HK.out.cw 0 _ rfl;obtain⟨r1,q1⟩:=HK.out.cw 1 _ rfl;obtain⟨r2,q2⟩:=HK.out.cw 2 _ rfl;have eY:=HK.out.cell;have e_:=HK.out.frozen;have n3':fb≠ps:=fun e=>ns e.symm;clear HC HK au aN aT aY;go_wp2_with (fail);refine bodyPost_ret (by simp[results,results41,go_sem,r0,r1,r2];try rfl) rfl ?_;refine⟨by rw[if2,if_pos hk],(((HL.out.set cO _).set cO _).set cO _).done ?_ ?_⟩
  ·rw[Jav,if_pos hk];simp[go_sem,eY]
  ·simp[go_sem,e_]
 ·have HC:BU _:=Jgl b R (.func (.func 98) #[] #[BO (some ⟨pw,0,none⟩),BO (some ⟨pb,0,none⟩),BO (some ⟨pl,0,none⟩),BO (some ⟨ps,0,none⟩)]) hk V;clear Cw Cb Cl bE aF fd dX;go_wp2_with (refine wpList_load_mid rfl 39 _ rfl pb 0 rfl _ _ au.out underlying39 rfl hz.out ?_);refine JA HC.out ?_;rintro e W1 ⟨rfl,HK⟩;have HL:BU (Leaves ⟨fb,fo,none⟩ W W1):=aY.out.step (HK.out.mono aY.out.size);have Cs:=Cs.step HK.out;obtain⟨r0,q0⟩:=Cs 0 _ rfl;obtain⟨r1,q1⟩:=Cs 1 _ rfl;obtain⟨r2,q2⟩:=Cs 2 _ rfl;have eY:=Ja HK.out aN;have e_:=Jm HK.out aN aT;have n3':fb≠ps:=fun e=>ns e.symm;clear HC HK au aN aT aY Cs;go_wp2_with (fail);refine bodyPost_ret (by simp[results,results41,go_sem,r0,r1,r2];try rfl) rfl ?_;refine⟨by rw[if2,if_neg hk],(((HL.out.set cO _).set cO _).set cO _).done ?_ ?_⟩
  ·rw[Jav,if_neg hk];simp[go_sem,eY]
  ·simp[go_sem,e_]
theorem Jmi(fb fo:Nat)(f:Bool)(b:Bd)(R:List B7)(hR:Rest R)(W:BV)(hc:W.cell? ⟨fb,fo,none⟩=some (BT f))(hf:W.frozen? ⟨fb,fo,none⟩=false):
  Cd Tryz.prog 39 #[BO (some ⟨fb,fo,none⟩),B_ (b.L R).toArray] W fun e W'=>e = BZ (if2 b.k (Jag b b.l)).val/\BU (After ⟨fb,fo,none⟩ (f||Jav b.k (Jcg b b.l)) W W'):=by
 have aO:fb<W.heap.size:=JB _ _ hc;have hz:BU _:=Jj hR b;obtain⟨V,hV⟩:∃ V,V=((W.alloc (BP (b.L R).toArray 39)).alloc (BP #[J Y 0,J Y 0,J Y 0] 27)):=⟨_,rfl⟩
 have aL:=Jb W (BP (b.L R).toArray 39);have ac:=Jb (W.alloc (BP (b.L R).toArray 39)) (BP #[J Y 0,J Y 0,J Y 0] 27);have Cb:CW V (W.heap.size) (b.L R):=by
  have h9:=(CW.new W (b.L R) 39).step ac;rw[hV];exact h9
 have Cs:CW V (W.heap.size+1) [J Y 0,J Y 0,J Y 0]:=by
  have h9:=CW.new (W.alloc (BP (b.L R).toArray 39)) [J Y 0,J Y 0,J Y 0] 27;simp only[JE]at h9;rw[hV];exact h9
 have hB:B9 W.heap.size W V:=by rw[hV];exact(Jc aL ac)
 have aN:=Ja hB hc;have aT:=Jm hB hc hf;have aY:BU (Leaves ⟨fb,fo,none⟩ W V):=(Leaves.refl _ _).step hB;clear aL ac;clear hc hf hB;go_enter func39,ntmps39;go_upto_region 1 with fail;rw[<- hV];clear hV;obtain⟨ps,dX⟩:∃ p,p=W.heap.size+1:=⟨_,rfl⟩
 obtain⟨pb,aF⟩:∃ p,p=W.heap.size:=⟨_,rfl⟩
 rw[<- dX]at Cs;rw[<- aF]at Cb;rw[<- dX,<- aF];have ns:ps≠fb:=by omega
 have cO:W.heap.size<=ps:=by omega
 have au:BU (World.rangeAt V pb 0 (b.L R)):=Cb.range;have kb:=(Cb 11 _ rfl).1;have kc:=(Cb 12 _ rfl).1;have kd:=(Cb 13 _ rfl).1;have HC:BU _:=Jjs fb fo f b R b.l hR V aN aT;clear Cb aF dX;go_wp2_with (refine wpList_load_mid rfl 39 _ rfl pb 0 rfl _ _ au.out underlying39 rfl hz.out ?_);refine JA HC.out ?_;rintro e W1 ⟨rfl,A⟩;have HL:BU (Leaves ⟨fb,fo,none⟩ W W1):=aY.out.same A.out;have Cs:=Cs.after A.out ns;obtain⟨r0,q0⟩:=Cs 0 _ rfl;obtain⟨r1,q1⟩:=Cs 1 _ rfl;obtain⟨r2,q2⟩:=Cs 2 _ rfl;have eY:=A.out.cell;have e_:=A.out.frozen;have n3':fb≠ps:=fun e=>ns e.symm;clear HC A au aN aT aY Cs kb kc kd;go_wp2_with (fail);refine bodyPost_ret (by simp[results,results39,go_sem,r0,r1,r2];try rfl) rfl ?_;refine⟨rfl,(((HL.out.set cO _).set cO _).set cO _).done ?_ ?_⟩
 ·simp[go_sem,eY]
 ·simp[go_sem,e_]
theorem Joj(v:B7)(L:List Pt)(w:BV)(hv:Lies w v L)(hl:L.length<=100000):
  Cd Tryz.prog 121 #[v] w fun e W=>∃ u,e = BZ u/\Row w W u L:=by
 obtain⟨i0,iw,dQ,dE,iA⟩:=info_parts Jes;have HI:BU _:=And.intro iw (And.intro dQ (And.intro dE iA));clear iw dQ dE iA;obtain⟨o,cp,rfl,fE,fF,hx⟩:=hv.cells;cases o with
 | none =>
  have h0:L = []:=hx.resolve_right (by rintro⟨g,off,e,_⟩;cases e);subst h0;have uU:∀ W,(binOp .eql 24 (BQ none 0 cp) (BQ none 0 0)).run Tryz.prog W = .ok (BT true) W:=fun W=>Lib.run_eql_slice_nil_nil W _ _ underlying24;clear hv hx HI;go_enter func121,ntmps121;go_wp2;go_ret;exact⟨_,rfl,Row.start w⟩
 | some ad =>
  have HC:BU (∀ j u,(fl3 L)[j]?=some u->(w.alloc (BP #[] 23)).cell? (ad.add j)=some u):=fun j u hj=>by
   rcases hx with h0 |⟨g,off,e,ar⟩
   ·subst h0;simp[fl3]at hj
   ·cases e;have ad:(⟨g,off,none⟩:Ce).add j=⟨g,off+j,none⟩:=by unfold Addr.add;split <;> simp_all
    rw[ad];exact Ja (Jb w _) (ar j u hj)
  have qZ:BU _:=Jev L;clear hv hx;have uU:∀ W,(binOp .eql 24 (BQ (some ad) L.length cp) (BQ none 0 0)).run Tryz.prog W = .ok (BT false) W:=fun W=>Lib.run_eql_slice_some_nil W _ _ _ underlying24;go_enter func121,ntmps121;go_wp2_with (at_builtin;refine wpList_append_own _ rfl _ _ 24 rfl w.heap.size 23 i0 _ 3 24 underlying24 HI.out.1 HI.out.2.1 HI.out.2.2.1 HI.out.2.2.2 rfl (by decide) _ 0 [] rfl (World.ownsRow_lit (e:=23) (size:=3) w #[] 0 (Nat.le_refl _) (by unfold maxLen;omega) rfl) ad L.length cp (fl3 L) rfl qZ.out HC.out (Jpe L) (by unfold maxLen;omega) (by omega) (by simp) ?_;intro u9 V2 r8 g8 _);go_ret;rw[Nat.zero_add,List.nil_append]at r8;exact⟨_,rfl,r8,((Below.refl _ w).alloc (Nat.le_refl _) _).grown g8 (by simp) (fun k e=>by cases e;exact Nat.le_refl _)⟩
theorem J7{P:Program}{fn:Func}{tmps:Array B7}{w:BV}{v:B7}(a:Nat)(t:TypeId)(hr:fn.results = #[.cell a t])(p:Ce)(ha:tmps[a]?.getD undef = BO (some p))(h:(loadVar t p).run P w = .ok v w):(results fn tmps).run P w = .ok v w:=by
 unfold results;rw[hr];simp[ha,asAddr,h]
theorem Jhl{P:Program}{fn:Func}{tmps:Array B7}{w:BV}{v u:B7}(a c:Nat)(t s:TypeId)(hr:fn.results = #[.cell a t,.cell c s])(p q:Ce)(ha:tmps[a]?.getD undef = BO (some p))(hc:tmps[c]?.getD undef = BO (some q))(h:(loadVar t p).run P w = .ok v w)(k:(loadVar s q).run P w = .ok u w):(results fn tmps).run P w = .ok (.tuple #[v,u]) w:=by
 unfold results;rw[hr];simp[Sem.run_bind,ha,hc,asAddr,h,k]
theorem CW.apart{W:BV}{b k:Nat}{vs us:List B7}(h:CW W b vs)(ak:b≠k):CW (W.setCells k 0 us) b vs:=fun i v e=>by
 obtain⟨h1,h2⟩:=h i v e;exact⟨(World.cell?_setCells_out _ _ _ _ _ (fun e=>absurd e ak)).trans h1,(World.frozen?_setCells _ _ _ _ _).trans h2⟩
theorem Jad{w:BV}{base:Nat}{t:TypeId}{sz m:Nat}{v:B7}{xs:List B7}{b:Nat}(h:w.ownsRow base t sz v m xs)(ak:v.ownBlock≠some b):∀(vs:List B7) (o:Nat),(w.setCells b o vs).ownsRow base t sz v m xs:=by
 intro vs
 induction vs generalizing w with
 | nil=>intro o;exact h
 | cons x r ih=>intro o;exact ih (ownsRow_setCell_other h ak x) (o+1)
theorem Jfv(b:Nat):∀(vs:List B7) (o:Nat) (w:BV),(w.setCells b o vs).heap.size=w.heap.size
 | [],_,_=>rfl
 | v::r,o,w=>by rw[World.setCells,Jfv b r];simp[World.setCell]
theorem Jbd{B g:Nat}(hg:B<=g):∀(vs:List B7) (o:Nat) (w:BV),B9 B w (w.setCells g o vs)
 | [],_,w=>Below.refl _ w
 | v::r,o,w=>((Below.refl B w).setCell (p:=⟨g,o,none⟩) hg v).trans (Jbd hg r (o+1) _)
theorem Leaves.sets{p:Ce}{W w:BV}(h:Leaves p W w){k:Nat}(hk:W.heap.size<=k)(vs:List B7):Leaves p W (w.setCells k 0 vs):=h.step (Jbd hk vs 0 w)
structure RestP(R:List B7)(pv:B7):Prop where
 rest:Rest R
 pts:R[5]?=some pv
theorem RestP.set{R:List B7}{pv u:B7}(h:RestP R pv)(hu:u.oneCell'=true):RestP (R.set 5 u) u:=by
 have hl:=h.rest.len;refine⟨⟨by simp[hl],fun v hv=>?_⟩,List.getElem?_set_self (by omega)⟩;rcases List.mem_or_eq_of_mem_set hv with hv | rfl
 ·exact h.rest.one v hv
 ·exact hu
theorem Jvv(b:Bd)(R:List B7)(u:B7):(b.L R).set 23 u=b.L (R.set 5 u):=rfl
theorem Jbb{w:BV}{base:Nat}{u:B7}{L:List Pt}(h:w.ownsRow base 23 3 u L.length (fl3 L)):u.oneCell'=true:=by
 obtain⟨o,c,rfl,_⟩:=(Lies.of_row h).form
 rfl
theorem Jda(b:Bd)(R:List B7)(pv:B7)(Ls:List Pt)(hR:RestP R pv)(W:BV)(hv:Lies W pv Ls)(hl:Ls.length<=100000):
  Cd Tryz.prog 52 #[B_ (b.L R).toArray] W fun e W'=>∃ u,e = BZ (B_ (b.L (R.set 5 u)).toArray)/\BU (Row W W' u Ls):=by
 have hz:BU _:=Jj hR.rest b;obtain⟨V,hV⟩:∃ V,V=((W.alloc (BP (b.L R).toArray 39)).alloc (BP #[J Y 0,J Y 0,J Y 0,J Y 0,J Y 0,J Y 0,J Y 0,J Y 0,J Y 0,J Y 0,J Y 0,J Y 0,J Y 0,J Y 0,J Y 0,J Y 0,J Y 0,J Y 0,J Y 0,J Y 0,J Y 0,J Y 0,J Y 0,BQ none 0 0,J Y 0,J Y 0,J Y 0,BT false,J Y 0,BT false,BT false] 39)):=⟨_,rfl⟩
 have aL:=Jb W (BP (b.L R).toArray 39);have ac:=Jb (W.alloc (BP (b.L R).toArray 39)) (BP #[J Y 0,J Y 0,J Y 0,J Y 0,J Y 0,J Y 0,J Y 0,J Y 0,J Y 0,J Y 0,J Y 0,J Y 0,J Y 0,J Y 0,J Y 0,J Y 0,J Y 0,J Y 0,J Y 0,J Y 0,J Y 0,J Y 0,J Y 0,BQ none 0 0,J Y 0,J Y 0,J Y 0,BT false,J Y 0,BT false,BT false] 39);have Cb:CW V (W.heap.size) (b.L R):=by
  have h9:=(CW.new W (b.L R) 39).step ac;rw[hV];exact h9
 have Cr:CW V (W.heap.size+1) [J Y 0,J Y 0,J Y 0,J Y 0,J Y 0,J Y 0,J Y 0,J Y 0,J Y 0,J Y 0,J Y 0,J Y 0,J Y 0,J Y 0,J Y 0,J Y 0,J Y 0,J Y 0,J Y 0,J Y 0,J Y 0,J Y 0,J Y 0,BQ none 0 0,J Y 0,J Y 0,J Y 0,BT false,J Y 0,BT false,BT false]:=by
  have h9:=CW.new (W.alloc (BP (b.L R).toArray 39)) [J Y 0,J Y 0,J Y 0,J Y 0,J Y 0,J Y 0,J Y 0,J Y 0,J Y 0,J Y 0,J Y 0,J Y 0,J Y 0,J Y 0,J Y 0,J Y 0,J Y 0,J Y 0,J Y 0,J Y 0,J Y 0,J Y 0,J Y 0,BQ none 0 0,J Y 0,J Y 0,J Y 0,BT false,J Y 0,BT false,BT false] 39;simp only[JE]at h9;rw[hV];exact h9
 have hB:B9 W.heap.size W V:=by rw[hV];exact(Jc aL ac)
 clear aL ac;have HB:BU _:=hB;have HC:BU _:=Joj pv Ls V (hv.below hB) hl;clear hv hB;go_enter func52,ntmps52;go_upto_region 1 with fail;rw[<- hV];clear hV;obtain⟨pr,aB⟩:∃ p,p=W.heap.size+1:=⟨_,rfl⟩
 obtain⟨pb,aF⟩:∃ p,p=W.heap.size:=⟨_,rfl⟩
 rw[<- aB]at Cr;rw[<- aF]at Cb;rw[<- aB,<- aF];have kp:V.cell? ⟨pb,23,none⟩=some pv:=(Cb 23 _ hR.pts).1;have HF:BU (V.frozen? ⟨pb,23,none⟩=false):=(Cb 23 _ hR.pts).2;have bS:([J Y 0,J Y 0,J Y 0,J Y 0,J Y 0,J Y 0,J Y 0,J Y 0,J Y 0,J Y 0,J Y 0,J Y 0,J Y 0,J Y 0,J Y 0,J Y 0,J Y 0,J Y 0,J Y 0,J Y 0,J Y 0,J Y 0,J Y 0,BQ none 0 0,J Y 0,J Y 0,J Y 0,BT false,J Y 0,BT false,BT false]:List B7).length=31:=rfl;have dB:W.heap.size<=pb:=by omega
 have aE:W.heap.size<=pr:=by omega
 have nbr:pb≠pr:=by omega
 have lq:pb<V.heap.size:=Cb.lt;have nX:pr<V.heap.size:=Cr.lt;generalize([J Y 0,J Y 0,J Y 0,J Y 0,J Y 0,J Y 0,J Y 0,J Y 0,J Y 0,J Y 0,J Y 0,J Y 0,J Y 0,J Y 0,J Y 0,J Y 0,J Y 0,J Y 0,J Y 0,J Y 0,J Y 0,J Y 0,J Y 0,BQ none 0 0,J Y 0,J Y 0,J Y 0,BT false,J Y 0,BT false,BT false]:List B7)=zl at *;clear aF aB;go_wp2_with (fail);refine JA HC.out ?_;rintro e W1 ⟨u,rfl,bD⟩;obtain⟨uo,uc,tT,_⟩:=(Lies.of_row bD.row).form;have hu:=Jbb bD.row;have Cb:=(Cb.step bD.below).set 23 u (by rw[hR.rest.all];decide);have Cr:=(Cr.step bD.below).other (a:=⟨pb,23,none⟩) nbr u;rw[Jvv]at Cb;have nub:u.ownBlock≠some pb:=fun e=>by have:=(bD.row.lt _ e).1;omega
 have nur:u.ownBlock≠some pr:=fun e=>by have:=(bD.row.lt _ e).1;omega
 have HW:BU (Row W (W1.setCell ⟨pb,23,none⟩ u) u Ls):=⟨ownsRow_setCell_other (Go.Joins.ownsRow_le bD.row HB.out.size) nub u,(Jc HB.out bD.below).setCell dB u⟩
 have uV:W1.cell? ⟨pb,23,none⟩=some pv:=Ja bD.below kp;have f23:W1.frozen? ⟨pb,23,none⟩=false:=Jm bD.below kp HF.out;have aW:RestP (R.set 5 u) u:=hR.set hu;have fe:BU _:=Jj aW.rest b;have h1:BU _:=aW.rest.each b;have bC:BU ((Tryz.prog.info? 39).map (·.size)=some (b.L (R.set 5 u)).toArray.size):=by show _=_;rw[fe.out];simp
 have ze:(b.L (R.set 5 u)).length=31:=aW.rest.all b;have au:BU (World.rangeAt (W1.setCell ⟨pb,23,none⟩ u) pb 0 (b.L (R.set 5 u))):=Cb.range;have bT:BU (World.there (W1.setCell ⟨pb,23,none⟩ u) pr 0 (b.L (R.set 5 u)).toArray.size):=by
  have:=Cr.there;rw[bS]at this
  show World.there _ _ _ _
  rw[List.size_toArray,ze];exact this
 have zg:=Cr.sets (us:=b.L (R.set 5 u)) (by rw[ze,bS]);have HW2:BU (Row W ((W1.setCell ⟨pb,23,none⟩ u).setCells pr 0 (b.L (R.set 5 u))) u Ls):=⟨Jad HW.out.row nur _ _,(HW.out.below).trans (Jbd aE _ _ _)⟩
 have HX:BU _:=zg.range;generalize aM:b.L (R.set 5 u)=cs at *;have bH:BU _:=aM;clear aM;clear bD Cb Cr zg HC HW kp hu HF;subst tT;go_wp2_with (first | refine wpList_load_mid rfl 39 _ rfl pb 0 rfl _ _ au.out underlying39 rfl fe.out ?_ | refine wpList_store_mid rfl 39 _ _ rfl pr 0 _ rfl rfl bT.out bC.out h1.out ?_);refine bodyPost_ret (J7 2 39 results52 ⟨pr,0,none⟩ rfl (run_loadVar_mid _ pr 0 39 cs _ HX.out underlying39 rfl fe.out)) rfl ?_;exact⟨_,by rw[bH.out],HW2⟩
def Bd.wp(b:Bd)(p:V3):Bd:=⟨b.k,b.s,b.q,p,b.l,b.m,b.i⟩
def Bd.wl(b:Bd)(l:V3):Bd:=⟨b.k,b.s,b.q,b.p,l,b.m,b.i⟩
def Bd.ws(b:Bd)(s:V3)(q:V4):Bd:=⟨b.k,s,q,b.p,b.l,b.m,b.i⟩
def ifB(b b':Bd):Bd:=if b.k=2 then b' else b
def Jcc(b:Bd)(a j:V3):Bd:=(b.wp (Jt b.p j)).wl (Jt b.l (Ja3 a j))
def Jmd(b:Bd)(a j:V3):Bool:=Jbh b.p j ||(Jkq a j||Jbh b.l (Ja3 a j))
def Jcl(b:Bd)(j:V3):Bd:=b.wl (Jt b.l j)
def Jce(b:Bd)(j:V3)(n:Int):Bd:=b.wp (Jt b.p (Jau j (Jal b.m n)))
def Joa(b:Bd)(j:V3)(n:Int):Bool:=Jfc b.m n ||(Jcb j (Jal b.m n)||Jbh b.p (Jau j (Jal b.m n)))
theorem Clo.set3{p:Ce}{g:Bool}{k:Nat}{vs:List B7}{U V:BV}(h:Clo p g k vs U V)(hk:k≠p.block)(o:Nat)(x y z:B7)(ho:o+2<vs.length):Clo p g k (((vs.set o x).set (o+1) y).set (o+2) z) U (((V.setCell ⟨k,o,none⟩ x).setCell ⟨k,o+1,none⟩ y).setCell ⟨k,o+2,none⟩ z):=
 ((h.set hk o x (by omega)).set hk (o+1) y (by simp;omega)).set hk (o+2) z (by simp;omega)
theorem Jcd{b:Bd}{R:List B7}(h:Rest R){o:Nat}(ho:o<31):o<(b.L R).length:=by rw[h.all];exact ho
theorem Jp9(fb fo pw pb pj pa:Nat)(f:Bool)(b:Bd)(R:List B7)(am jm:V3)(hR:Rest R)(V:BV)(hc:V.cell? ⟨fb,fo,none⟩=some (BT f))(hf:V.frozen? ⟨fb,fo,none⟩=false)
  (Cw:CW V pw [BO (some ⟨fb,fo,none⟩)]) (Cb:CW V pb (b.L R)) (Cj:CW V pj [J Y jm.x,J Y jm.y,J Y jm.z]) (Ca:CW V pa [J Y am.x,J Y am.y,J Y am.z]) (nw:pw≠fb) (nb:pb≠fb) (nj:pj≠fb) (na:pa≠fb) (wb:pw≠pb) (jb:pj≠pb) (ab:pa≠pb) :
  Cd Tryz.prog 105 #[BO (some ⟨pw,0,none⟩),BO (some ⟨pb,0,none⟩),BO (some ⟨pj,0,none⟩),BO (some ⟨pa,0,none⟩)] V fun e W'=>e = BZ (.tuple #[])/\BU (Clo ⟨fb,fo,none⟩ (f||Jmd b am jm) pb ((Jcc b am jm).L R) V W'):=by
 have k8:=(Cb 8 _ rfl).1;have k9:=(Cb 9 _ rfl).1;have ka:=(Cb 10 _ rfl).1;have j0:=(Cj 0 _ rfl).1;have j1:=(Cj 1 _ rfl).1;have j2:=(Cj 2 _ rfl).1;have kw:=(Cw 0 _ rfl).1;have HC:BU _:=Ji0 fb fo f b.p jm V hc hf;have HS:BU _:=Clo.start hc hf Cb;clear hc hf;go_enter func105,ntmps105;go_wp2_with (fail);refine JA HC.out ?_;rintro e W1 ⟨rfl,A⟩;have HS:BU (Clo _ _ _ _ _ _):=HS.out.same A.out nb;have Cw:=Cw.after A.out nw;have Cj:=Cj.after A.out nj;have Ca:=Ca.after A.out na;obtain⟨r0,q0⟩:=HS.out.cw 8 _ rfl;obtain⟨r1,q1⟩:=HS.out.cw 9 _ rfl;obtain⟨r2,q2⟩:=HS.out.cw 10 _ rfl;have HS:BU (Clo _ _ _ _ _ _):=HS.out.set3 nb 8 (J Y (Jt b.p jm).x) (J Y (Jt b.p jm).y) (J Y (Jt b.p jm).z) (Jcd hR (by decide));clear HC A k8 k9 ka j0 j1 j2 kw Cb;go_upto_region 1 with fail;obtain⟨V1,dI⟩:∃ X,X=((W1.setCell ⟨pb,8,none⟩ (J Y (Jt b.p jm).x)).setCell ⟨pb,8+1,none⟩ (J Y (Jt b.p jm).y)).setCell ⟨pb,8+2,none⟩ (J Y (Jt b.p jm).z):=⟨_,rfl⟩
 have Cw:=((Cw.other (a:=⟨pb,8,none⟩) wb.symm (J Y (Jt b.p jm).x)).other (a:=⟨pb,8+1,none⟩) wb.symm (J Y (Jt b.p jm).y)).other (a:=⟨pb,8+2,none⟩) wb.symm (J Y (Jt b.p jm).z);have Cj:=((Cj.other (a:=⟨pb,8,none⟩) jb.symm (J Y (Jt b.p jm).x)).other (a:=⟨pb,8+1,none⟩) jb.symm (J Y (Jt b.p jm).y)).other (a:=⟨pb,8+2,none⟩) jb.symm (J Y (Jt b.p jm).z);have Ca:=((Ca.other (a:=⟨pb,8,none⟩) ab.symm (J Y (Jt b.p jm).x)).other (a:=⟨pb,8+1,none⟩) ab.symm (J Y (Jt b.p jm).y)).other (a:=⟨pb,8+2,none⟩) ab.symm (J Y (Jt b.p jm).z);obtain⟨b1,ac⟩:∃ x,x=b.wp (Jt b.p jm):=⟨_,rfl⟩
 rw[<- dI]at HS Cw Cj Ca;have HS:BU (Clo ⟨fb,fo,none⟩ (f||Jbh b.p jm) pb (b1.L R) V V1):=by rw[ac];exact HS.out
 try simp only[Nat.reduceAdd]at dI
 rw[<- dI];have Cb:=HS.out.cw;have aN:=HS.out.cell;have aT:=HS.out.frozen;clear dI r0 r1 r2 q0 q1 q2;refine Bq [.some (BO (some ⟨fb,fo,none⟩)),.some (BO (some ⟨pb,11,none⟩)),.some (B_ #[J Y b1.l.x,J Y b1.l.y,J Y b1.l.z]),.some (BO (some ⟨fb,fo,none⟩)),.some (B_ #[J Y am.x,J Y am.y,J Y am.z]),.some (B_ #[J Y jm.x,J Y jm.y,J Y jm.z]),.some (B_ #[J Y ((Ja3 am jm).x),J Y ((Ja3 am jm).y),J Y ((Ja3 am jm).z)]),.some (B_ #[J Y ((Jt b1.l (Ja3 am jm)).x),J Y ((Jt b1.l (Ja3 am jm)).y),J Y ((Jt b1.l (Ja3 am jm)).z)]),.some (BO (some ⟨pb,11,none⟩)),none] [11,12,13,14,15,16,17,18,19,0] [(0,BO (some ⟨pw,0,none⟩)),(1,BO (some ⟨pb,0,none⟩)),(2,BO (some ⟨pj,0,none⟩)),(3,BO (some ⟨pa,0,none⟩))] (fun γ L w9=>FGS V1 ⟨fb,fo,none⟩ (f||Jbh b.p jm) [(6,Jkq am jm),(7,Jbh b1.l (Ja3 am jm))] 9 (fun w=>(((w.setCell ⟨pb,11,none⟩ (J Y ((Jt b1.l (Ja3 am jm)).x))).setCell ⟨pb,12,none⟩ (J Y ((Jt b1.l (Ja3 am jm)).y))).setCell ⟨pb,13,none⟩ (J Y ((Jt b1.l (Ja3 am jm)).z)))) L w9) ⟨rfl,rfl,rfl,rfl,trivial⟩ ?_ ?_ ?_
 ·exact FGS.start aN aT
 ·intro D WA Z hD ah hZ T;simp only[RV.Outs,RV.Slots,Nat.reduceAdd]at T
  iterate 6 first
   |(refine Br _ (Bs T (fun γ v L w hl h=>h.stay (by decide) rfl) (fun γ L a w hH hl h9 k9=>⟨_,?_,rfl⟩)) ?_;· simp[JD,go_sem,h9])
   |(refine Br _ (Bs T (fun γ v L w hl h=>h.stay (by decide) rfl) (fun γ L a w hH hl h9 k9=>⟨_,?_,rfl⟩)) ?_;· have hG:=hH.glob.early (Bu hH (Bv (j:=9) ah (by kernel_rfl)) hl);have q0:=hG.at (Cb 11 _ rfl).1 nb;have q1:=hG.at (Cb 12 _ rfl).1 nb;have q2:=hG.at (Cb 13 _ rfl).1 nb;simp[JC]at k9;simp[JD,go_sem,h9,k9,q0,q1,q2])
   |(refine Br _ (Bs T (fun γ v L w hl h=>h.stay (by decide) rfl) (fun γ L a w hH hl h9 k9=>⟨_,?_,rfl⟩)) ?_;· have hG:=hH.glob.early (Bu hH (Bv (j:=9) ah (by kernel_rfl)) hl);have q0:=hG.at (Cw 0 _ rfl).1 nw;have q1:=hG.at (Ca 0 _ rfl).1 na;have q2:=hG.at (Ca 1 _ rfl).1 na;have q3:=hG.at (Ca 2 _ rfl).1 na;have q4:=hG.at (Cj 0 _ rfl).1 nj;have q5:=hG.at (Cj 1 _ rfl).1 nj;have q6:=hG.at (Cj 2 _ rfl).1 nj;simp[JD,go_sem,h9,q0,q1,q2,q3,q4,q5,q6])
  refine Br _ (Bw (fun γ L a w hH hl hA=>by have h9:=T γ L a w hH;have k9:=hA;simp[JC]at k9;have hG:=hH.glob.early (Bu hH (Bv (j:=9) (i:=6) ah (by kernel_rfl)) hl);exact⟨106,#[BO (some ⟨fb,fo,none⟩),B_ #[J Y am.x,J Y am.y,J Y am.z],B_ #[J Y jm.x,J Y jm.y,J Y jm.z]],by simp[go_sem,h9,k9],JA (Ju9 fb fo _ am jm w hG.cell hG.frozen) (by rintro e w2 ⟨rfl,ha⟩;exact⟨_,rfl,rfl,fun j v _ h=>h.keep _,FGS.come hG (by decide) (Bu hH (Bv (j:=9) (i:=6) ah (by kernel_rfl)) hl) hl rfl ha.out⟩)⟩)) ?_;refine Br _ (Bw (fun γ L a w hH hl hA=>by have h9:=T γ L a w hH;have k9:=hA;simp[JC]at k9;have hG:=hH.glob.early (Bu hH (Bv (j:=9) (i:=7) ah (by kernel_rfl)) hl);exact⟨56,#[BO (some ⟨fb,fo,none⟩),B_ #[J Y b1.l.x,J Y b1.l.y,J Y b1.l.z],B_ #[J Y ((Ja3 am jm).x),J Y ((Ja3 am jm).y),J Y ((Ja3 am jm).z)]],by simp[go_sem,h9,k9],JA (Ji0 fb fo _ b1.l (Ja3 am jm) w hG.cell hG.frozen) (by rintro e w2 ⟨rfl,ha⟩;exact⟨_,rfl,rfl,fun j v _ h=>h.keep _,FGS.come hG (by decide) (Bu hH (Bv (j:=9) (i:=7) ah (by kernel_rfl)) hl) hl rfl ha.out⟩)⟩)) ?_
  (refine Br _ (Bs T (fun γ v L w hl h=>h.stay (by decide) rfl) (fun γ L a w hH hl h9 k9=>⟨_,?_,rfl⟩)) ?_;· simp[JD,go_sem,h9])
  refine Br _ (Bz (fun γ L a w hH hl hA=>by have h9:=T γ L a w hH;have k9:=hA;simp[JC]at k9;have hG:=hH.glob.early hl;have z0:=hG.at (Cb 11 _ rfl).1 nb;have cX:=hG.open (Cb 11 _ rfl).1 (Cb 11 _ rfl).2 nb;have z1:=hG.at (Cb 12 _ rfl).1 nb;have cY:=hG.open (Cb 12 _ rfl).1 (Cb 12 _ rfl).2 nb;have z2:=hG.at (Cb 13 _ rfl).1 nb;have cZ:=hG.open (Cb 13 _ rfl).1 (Cb 13 _ rfl).2 nb;exact⟨(((w.setCell ⟨pb,11,none⟩ (J Y ((Jt b1.l (Ja3 am jm)).x))).setCell ⟨pb,12,none⟩ (J Y ((Jt b1.l (Ja3 am jm)).y))).setCell ⟨pb,13,none⟩ (J Y ((Jt b1.l (Ja3 am jm)).z))),by simp[JD,go_sem,z0,cX,z1,cY,z2,cZ,h9,k9],trivial,fun j v _ h=>h.keep _,FGS.store (S:=fun w=>(((w.setCell ⟨pb,11,none⟩ (J Y ((Jt b1.l (Ja3 am jm)).x))).setCell ⟨pb,12,none⟩ (J Y ((Jt b1.l (Ja3 am jm)).y))).setCell ⟨pb,13,none⟩ (J Y ((Jt b1.l (Ja3 am jm)).z)))) hG rfl⟩)) ?_;exact RV.AllDo.nil
 ·intro γ w5 L9 hL aX aD;obtain⟨w8,bi,rfl⟩:=aD.late (hL 9 (by decide));have cE:orL (f||Jbh b.p jm) [(6,Jkq am jm),(7,Jbh b1.l (Ja3 am jm))] L9=((f||Jbh b.p jm) ||(Jkq am jm||Jbh b1.l (Ja3 am jm))):=by unfold orL;simp only[List.any_cons,List.any_nil,hL 6 (by decide),hL 7 (by decide),Bool.true_and,Bool.or_false,Bool.or_assoc]
  have a_:BU (After _ _ _ _):=bi.leaves.done bi.cell bi.frozen;rw[cE]at a_;clear bi cE;clear hL aX aD;simp only[RV.putL,Act.put,JH,JG,JF];have HS:BU (Clo _ _ _ _ _ _):=HS.out.same a_.out nb;clear a_;go_wp2_with (fail)
  go_end0
  refine⟨rfl,?_⟩;have h9:=HS.out.set3 nb 11 (J Y (Jt b1.l (Ja3 am jm)).x) (J Y (Jt b1.l (Ja3 am jm)).y) (J Y (Jt b1.l (Ja3 am jm)).z) (Jcd hR (by decide));rw[Bool.or_assoc]at h9;subst ac;exact h9
theorem Jod(fb fo pw pb pj:Nat)(f:Bool)(b:Bd)(R:List B7)(jm:V3)(hR:Rest R)(V:BV)(hc:V.cell? ⟨fb,fo,none⟩=some (BT f))(hf:V.frozen? ⟨fb,fo,none⟩=false)
  (Cw:CW V pw [BO (some ⟨fb,fo,none⟩)]) (Cb:CW V pb (b.L R)) (Cj:CW V pj [J Y jm.x,J Y jm.y,J Y jm.z]) (nb:pb≠fb) :
  Cd Tryz.prog 109 #[BO (some ⟨pw,0,none⟩),BO (some ⟨pb,0,none⟩),BO (some ⟨pj,0,none⟩)] V fun e W'=>e = BZ (.tuple #[])/\BU (Clo ⟨fb,fo,none⟩ (f||Jbh b.l jm) pb ((Jcl b jm).L R) V W'):=by
 have k8:=(Cb 11 _ rfl).1;have k9:=(Cb 12 _ rfl).1;have ka:=(Cb 13 _ rfl).1;have j0:=(Cj 0 _ rfl).1;have j1:=(Cj 1 _ rfl).1;have j2:=(Cj 2 _ rfl).1;have kw:=(Cw 0 _ rfl).1;have HC:BU _:=Ji0 fb fo f b.l jm V hc hf;have HS:BU _:=Clo.start hc hf Cb;clear hc hf Cw Cb Cj;go_enter func109,ntmps109;go_wp2_with (fail);refine JA HC.out ?_;rintro e W1 ⟨rfl,A⟩;have HS:BU (Clo _ _ _ _ _ _):=HS.out.same A.out nb;obtain⟨r0,q0⟩:=HS.out.cw 11 _ rfl;obtain⟨r1,q1⟩:=HS.out.cw 12 _ rfl;obtain⟨r2,q2⟩:=HS.out.cw 13 _ rfl;clear HC A k8 k9 ka j0 j1 j2 kw;go_wp2_with (fail)
 go_end0
 exact⟨rfl,HS.out.set3 nb 11 (J Y (Jt b.l jm).x) (J Y (Jt b.l jm).y) (J Y (Jt b.l jm).z) (Jcd hR (by decide))⟩
theorem Jq7(fb fo pw pb pj pn:Nat)(f:Bool)(b:Bd)(R:List B7)(jm:V3)(n:Int)(hR:Rest R)(V:BV)(hc:V.cell? ⟨fb,fo,none⟩=some (BT f))(hf:V.frozen? ⟨fb,fo,none⟩=false)
  (Cw:CW V pw [BO (some ⟨fb,fo,none⟩)]) (Cb:CW V pb (b.L R)) (Cj:CW V pj [J Y jm.x,J Y jm.y,J Y jm.z]) (Cn:CW V pn [J Y n]) (nw:pw≠fb) (nb:pb≠fb) (nj:pj≠fb) (nn:pn≠fb) :
  Cd Tryz.prog 110 #[BO (some ⟨pw,0,none⟩),BO (some ⟨pb,0,none⟩),BO (some ⟨pj,0,none⟩),BO (some ⟨pn,0,none⟩)] V fun e W'=>e = BZ (.tuple #[])/\BU (Clo ⟨fb,fo,none⟩ (f||Joa b jm n) pb ((Jce b jm n).L R) V W'):=by
 have HS:BU _:=Clo.start hc hf Cb;go_enter func110,ntmps110;go_upto_region 0 with fail;refine Bq [.some (BO (some ⟨fb,fo,none⟩)),.some (BO (some ⟨pb,8,none⟩)),.some (B_ #[J Y b.p.x,J Y b.p.y,J Y b.p.z]),.some (BO (some ⟨fb,fo,none⟩)),.some (B_ #[J Y jm.x,J Y jm.y,J Y jm.z]),.some (BO (some ⟨fb,fo,none⟩)),.some (BO (some ⟨pb,14,none⟩)),.some (BO (some ⟨pb,14,none⟩)),.some (J Y b.m),.some (J Y n),.some (J Y (Jal b.m n)),.some (B_ #[J Y ((Jau jm (Jal b.m n)).x),J Y ((Jau jm (Jal b.m n)).y),J Y ((Jau jm (Jal b.m n)).z)]),.some (B_ #[J Y ((Jt b.p (Jau jm (Jal b.m n))).x),J Y ((Jt b.p (Jau jm (Jal b.m n))).y),J Y ((Jt b.p (Jau jm (Jal b.m n))).z)]),.some (BO (some ⟨pb,8,none⟩)),none] [5,6,7,8,9,10,11,12,13,14,15,16,17,18,0] [(0,BO (some ⟨pw,0,none⟩)),(1,BO (some ⟨pb,0,none⟩)),(2,BO (some ⟨pj,0,none⟩)),(3,BO (some ⟨pn,0,none⟩))] (fun γ L w9=>FGS V ⟨fb,fo,none⟩ f [(10,Jfc b.m n),(11,Jcb jm (Jal b.m n)),(12,Jbh b.p (Jau jm (Jal b.m n)))] 14 (fun w=>(((w.setCell ⟨pb,8,none⟩ (J Y ((Jt b.p (Jau jm (Jal b.m n))).x))).setCell ⟨pb,9,none⟩ (J Y ((Jt b.p (Jau jm (Jal b.m n))).y))).setCell ⟨pb,10,none⟩ (J Y ((Jt b.p (Jau jm (Jal b.m n))).z)))) L w9) ⟨rfl,rfl,rfl,rfl,trivial⟩ ?_ ?_ ?_
 ·exact FGS.start hc hf
 ·intro D WA Z hD ah hZ T;simp only[RV.Outs,RV.Slots,Nat.reduceAdd]at T
  iterate 10 first
   |(refine Br _ (Bs T (fun γ v L w hl h=>h.stay (by decide) rfl) (fun γ L a w hH hl h9 k9=>⟨_,?_,rfl⟩)) ?_;· simp[JD,go_sem,h9])
   |(refine Br _ (Bs T (fun γ v L w hl h=>h.stay (by decide) rfl) (fun γ L a w hH hl h9 k9=>⟨_,?_,rfl⟩)) ?_;· simp[JC]at k9;simp[JD,go_sem,h9,k9])
   |(refine Br _ (Bs T (fun γ v L w hl h=>h.stay (by decide) rfl) (fun γ L a w hH hl h9 k9=>⟨_,?_,rfl⟩)) ?_;· have hG:=hH.glob.early (Bu hH (Bv (j:=14) ah (by kernel_rfl)) hl);have q0:=hG.at (Cb 8 _ rfl).1 nb;have q1:=hG.at (Cb 9 _ rfl).1 nb;have q2:=hG.at (Cb 10 _ rfl).1 nb;have q3:=hG.at (Cb 14 _ rfl).1 nb;simp[JC]at k9;simp[JD,go_sem,h9,k9,q0,q1,q2,q3])
   |(refine Br _ (Bs T (fun γ v L w hl h=>h.stay (by decide) rfl) (fun γ L a w hH hl h9 k9=>⟨_,?_,rfl⟩)) ?_;· have hG:=hH.glob.early (Bu hH (Bv (j:=14) ah (by kernel_rfl)) hl);have q0:=hG.at (Cw 0 _ rfl).1 nw;have q1:=hG.at (Cj 0 _ rfl).1 nj;have q2:=hG.at (Cj 1 _ rfl).1 nj;have q3:=hG.at (Cj 2 _ rfl).1 nj;have q4:=hG.at (Cn 0 _ rfl).1 nn;simp[JD,go_sem,h9,q0,q1,q2,q3,q4])
  refine Br _ (Bw (fun γ L a w hH hl hA=>by have h9:=T γ L a w hH;have k9:=hA;simp[JC]at k9;have hG:=hH.glob.early (Bu hH (Bv (j:=14) (i:=10) ah (by kernel_rfl)) hl);exact⟨111,#[BO (some ⟨fb,fo,none⟩),J Y b.m,J Y n],by simp[go_sem,h9,k9],JA (Ju6 fb fo _ b.m n w hG.cell hG.frozen) (by rintro e w2 ⟨rfl,ha⟩;exact⟨_,rfl,rfl,fun j v _ h=>h.keep _,FGS.come hG (by decide) (Bu hH (Bv (j:=14) (i:=10) ah (by kernel_rfl)) hl) hl rfl ha.out⟩)⟩)) ?_;refine Br _ (Bw (fun γ L a w hH hl hA=>by have h9:=T γ L a w hH;have k9:=hA;simp[JC]at k9;have hG:=hH.glob.early (Bu hH (Bv (j:=14) (i:=11) ah (by kernel_rfl)) hl);exact⟨55,#[BO (some ⟨fb,fo,none⟩),B_ #[J Y jm.x,J Y jm.y,J Y jm.z],J Y (Jal b.m n)],by simp[go_sem,h9,k9],JA (Jn9 fb fo _ jm (Jal b.m n) w hG.cell hG.frozen) (by rintro e w2 ⟨rfl,ha⟩;exact⟨_,rfl,rfl,fun j v _ h=>h.keep _,FGS.come hG (by decide) (Bu hH (Bv (j:=14) (i:=11) ah (by kernel_rfl)) hl) hl rfl ha.out⟩)⟩)) ?_;refine Br _ (Bw (fun γ L a w hH hl hA=>by have h9:=T γ L a w hH;have k9:=hA;simp[JC]at k9;have hG:=hH.glob.early (Bu hH (Bv (j:=14) (i:=12) ah (by kernel_rfl)) hl);exact⟨56,#[BO (some ⟨fb,fo,none⟩),B_ #[J Y b.p.x,J Y b.p.y,J Y b.p.z],B_ #[J Y ((Jau jm (Jal b.m n)).x),J Y ((Jau jm (Jal b.m n)).y),J Y ((Jau jm (Jal b.m n)).z)]],by simp[go_sem,h9,k9],JA (Ji0 fb fo _ b.p (Jau jm (Jal b.m n)) w hG.cell hG.frozen) (by rintro e w2 ⟨rfl,ha⟩;exact⟨_,rfl,rfl,fun j v _ h=>h.keep _,FGS.come hG (by decide) (Bu hH (Bv (j:=14) (i:=12) ah (by kernel_rfl)) hl) hl rfl ha.out⟩)⟩)) ?_
  (refine Br _ (Bs T (fun γ v L w hl h=>h.stay (by decide) rfl) (fun γ L a w hH hl h9 k9=>⟨_,?_,rfl⟩)) ?_;· simp[JD,go_sem,h9])
  refine Br _ (Bz (fun γ L a w hH hl hA=>by have h9:=T γ L a w hH;have k9:=hA;simp[JC]at k9;have hG:=hH.glob.early hl;have z0:=hG.at (Cb 8 _ rfl).1 nb;have cX:=hG.open (Cb 8 _ rfl).1 (Cb 8 _ rfl).2 nb;have z1:=hG.at (Cb 9 _ rfl).1 nb;have cY:=hG.open (Cb 9 _ rfl).1 (Cb 9 _ rfl).2 nb;have z2:=hG.at (Cb 10 _ rfl).1 nb;have cZ:=hG.open (Cb 10 _ rfl).1 (Cb 10 _ rfl).2 nb;exact⟨(((w.setCell ⟨pb,8,none⟩ (J Y ((Jt b.p (Jau jm (Jal b.m n))).x))).setCell ⟨pb,9,none⟩ (J Y ((Jt b.p (Jau jm (Jal b.m n))).y))).setCell ⟨pb,10,none⟩ (J Y ((Jt b.p (Jau jm (Jal b.m n))).z))),by simp[JD,go_sem,z0,cX,z1,cY,z2,cZ,h9,k9],trivial,fun j v _ h=>h.keep _,FGS.store (S:=fun w=>(((w.setCell ⟨pb,8,none⟩ (J Y ((Jt b.p (Jau jm (Jal b.m n))).x))).setCell ⟨pb,9,none⟩ (J Y ((Jt b.p (Jau jm (Jal b.m n))).y))).setCell ⟨pb,10,none⟩ (J Y ((Jt b.p (Jau jm (Jal b.m n))).z)))) hG rfl⟩)) ?_;exact RV.AllDo.nil
 ·intro γ w5 L9 hL aX aD;obtain⟨w8,bi,rfl⟩:=aD.late (hL 14 (by decide));have cE:orL f [(10,Jfc b.m n),(11,Jcb jm (Jal b.m n)),(12,Jbh b.p (Jau jm (Jal b.m n)))] L9=(f ||(Jfc b.m n||Jcb jm (Jal b.m n)||Jbh b.p (Jau jm (Jal b.m n)))):=by unfold orL;simp only[List.any_cons,List.any_nil,hL 10 (by decide),hL 11 (by decide),hL 12 (by decide),Bool.true_and,Bool.or_false,Bool.or_assoc]
  have a_:BU (After _ _ _ _):=bi.leaves.done bi.cell bi.frozen;rw[cE]at a_;clear bi cE;clear hL aX aD;simp only[RV.putL,Act.put,JH,JG,JF];have HS:BU (Clo _ _ _ _ _ _):=HS.out.same a_.out nb;clear a_;go_wp2_with (fail)
  go_end0
  have h9:=HS.out.set3 nb 8 (J Y (Jt b.p (Jau jm (Jal b.m n))).x) (J Y (Jt b.p (Jau jm (Jal b.m n))).y) (J Y (Jt b.p (Jau jm (Jal b.m n))).z) (Jcd hR (by decide));rw[Bool.or_assoc (Jfc b.m n)]at h9;exact⟨rfl,h9⟩
theorem Jed{w w':BV}{base:Nat}{e:TypeId}{sz m:Nat}{v:B7}{xs:List B7}(h:w.ownsRow base e sz v m xs)(hk:∀ g,v.ownBlock=some g->w'.heap[g]?=w.heap[g]?):w'.ownsRow base e sz v m xs:=by
 obtain⟨h1,h2⟩:=h;refine⟨h1,?_⟩;rcases h2 with h2 |⟨g,cap,cur,rfl,hg,hh,r⟩
 ·exact Or.inl h2
 ·exact Or.inr ⟨g,cap,cur,rfl,hg,(hk g rfl).trans hh,r⟩
theorem Jgw{p:Ce}{k:Nat}{w w':BV}{base:Nat}{e:TypeId}{sz m:Nat}{v:B7}{xs:List B7}(h:w.ownsRow base e sz v m xs)(t:Two2 p k w w')(h1:v.ownBlock≠some p.block)(h2:v.ownBlock≠some k):w'.ownsRow base e sz v m xs:=
 Jed h fun g hg=>t.kept.2.2.2 g (h.lt g hg).2 (fun e=>h1 (by rw[hg,e])) (fun e=>h2 (by rw[hg,e]))
theorem Jaj{w:BV}{k:Nat}{vs:List B7}{b o:Nat}(ak:b≠k):(w.setCells k 0 vs).cell? ⟨b,o,none⟩=w.cell? ⟨b,o,none⟩:=World.cell?_setCells_out _ _ _ _ _ (fun e=>absurd e ak)
theorem CW.thereB{W:BV}{k:Nat}{b b':Bd}{R R':List B7}(h:CW W k (b.L R))(hR:Rest R)(hR':Rest R'):World.there W k 0 (b'.L R').toArray.size:=by
 have:=h.there;rw[hR.all]at this;rw[List.size_toArray,hR'.all];exact this
theorem CW.there31{W:BV}{k:Nat}{zl:List B7}{b':Bd}{R':List B7}(h:CW W k zl)(hz:zl.length=31)(hR':Rest R'):World.there W k 0 (b'.L R').toArray.size:=by
 have:=h.there;rw[hz]at this;rw[List.size_toArray,hR'.all];exact this
theorem Jn{R:List B7}(hR:Rest R)(b:Bd):(Tryz.prog.info? 39).map (·.size)=some (b.L R).toArray.size:=by rw[List.size_toArray];exact Jj hR b
theorem Jli(fb fo:Nat)(f:Bool)(b:Bd)(R:List B7)(pv:B7)(Ls:List Pt)(am jm:V3)(hR:RestP R pv)(W:BV)(hc:W.cell? ⟨fb,fo,none⟩=some (BT f))(hf:W.frozen? ⟨fb,fo,none⟩=false)(hv:Lies W pv Ls)(hl:Ls.length<=100000):
  Cd Tryz.prog 43 #[BO (some ⟨fb,fo,none⟩),B_ (b.L R).toArray,am.val,jm.val] W fun e W'=>∃ u,e = BZ (B_ ((ifB b (Jcc b am jm)).L (R.set 5 u)).toArray)/\BU (After ⟨fb,fo,none⟩ (f||Jav b.k (Jmd b am jm)) W W')/\BU (W'.ownsRow W.heap.size 23 3 u Ls.length (fl3 Ls)):=by
 have aO:fb<W.heap.size:=JB _ _ hc;have hz:BU _:=Jj hR.rest b;obtain⟨V,hV⟩:∃ V,V=(((((W.alloc (BP #[BO (some ⟨fb,fo,none⟩)] 45)).alloc (BP (b.L R).toArray 39)).alloc (BP #[J Y am.x,J Y am.y,J Y am.z] 27)).alloc (BP #[J Y jm.x,J Y jm.y,J Y jm.z] 27)).alloc (BP #[J Y 0,J Y 0,J Y 0,J Y 0,J Y 0,J Y 0,J Y 0,J Y 0,J Y 0,J Y 0,J Y 0,J Y 0,J Y 0,J Y 0,J Y 0,J Y 0,J Y 0,J Y 0,J Y 0,J Y 0,J Y 0,J Y 0,J Y 0,BQ none 0 0,J Y 0,J Y 0,J Y 0,BT false,J Y 0,BT false,BT false] 39)):=⟨_,rfl⟩
 have aL:=Jb W (BP #[BO (some ⟨fb,fo,none⟩)] 45);have ac:=Jb (W.alloc (BP #[BO (some ⟨fb,fo,none⟩)] 45)) (BP (b.L R).toArray 39);have aj:=Jb ((W.alloc (BP #[BO (some ⟨fb,fo,none⟩)] 45)).alloc (BP (b.L R).toArray 39)) (BP #[J Y am.x,J Y am.y,J Y am.z] 27);have ao:=Jb (((W.alloc (BP #[BO (some ⟨fb,fo,none⟩)] 45)).alloc (BP (b.L R).toArray 39)).alloc (BP #[J Y am.x,J Y am.y,J Y am.z] 27)) (BP #[J Y jm.x,J Y jm.y,J Y jm.z] 27);have bM:=Jb ((((W.alloc (BP #[BO (some ⟨fb,fo,none⟩)] 45)).alloc (BP (b.L R).toArray 39)).alloc (BP #[J Y am.x,J Y am.y,J Y am.z] 27)).alloc (BP #[J Y jm.x,J Y jm.y,J Y jm.z] 27)) (BP #[J Y 0,J Y 0,J Y 0,J Y 0,J Y 0,J Y 0,J Y 0,J Y 0,J Y 0,J Y 0,J Y 0,J Y 0,J Y 0,J Y 0,J Y 0,J Y 0,J Y 0,J Y 0,J Y 0,J Y 0,J Y 0,J Y 0,J Y 0,BQ none 0 0,J Y 0,J Y 0,J Y 0,BT false,J Y 0,BT false,BT false] 39);have Cw:CW V (W.heap.size) [BO (some ⟨fb,fo,none⟩)]:=by
  have h9:=((((CW.new W [BO (some ⟨fb,fo,none⟩)] 45).step ac).step aj).step ao).step bM;rw[hV];exact h9
 have Cb:CW V (W.heap.size+1) (b.L R):=by
  have h9:=(((CW.new (W.alloc (BP #[BO (some ⟨fb,fo,none⟩)] 45)) (b.L R) 39).step aj).step ao).step bM;simp only[JE]at h9;rw[hV];exact h9
 have Ca:CW V (W.heap.size+1+1) [J Y am.x,J Y am.y,J Y am.z]:=by
  have h9:=((CW.new ((W.alloc (BP #[BO (some ⟨fb,fo,none⟩)] 45)).alloc (BP (b.L R).toArray 39)) [J Y am.x,J Y am.y,J Y am.z] 27).step ao).step bM;simp only[JE]at h9;rw[hV];exact h9
 have Cj:CW V (W.heap.size+1+1+1) [J Y jm.x,J Y jm.y,J Y jm.z]:=by
  have h9:=(CW.new (((W.alloc (BP #[BO (some ⟨fb,fo,none⟩)] 45)).alloc (BP (b.L R).toArray 39)).alloc (BP #[J Y am.x,J Y am.y,J Y am.z] 27)) [J Y jm.x,J Y jm.y,J Y jm.z] 27).step bM;simp only[JE]at h9;rw[hV];exact h9
 have Cr:CW V (W.heap.size+1+1+1+1) [J Y 0,J Y 0,J Y 0,J Y 0,J Y 0,J Y 0,J Y 0,J Y 0,J Y 0,J Y 0,J Y 0,J Y 0,J Y 0,J Y 0,J Y 0,J Y 0,J Y 0,J Y 0,J Y 0,J Y 0,J Y 0,J Y 0,J Y 0,BQ none 0 0,J Y 0,J Y 0,J Y 0,BT false,J Y 0,BT false,BT false]:=by
  have h9:=CW.new ((((W.alloc (BP #[BO (some ⟨fb,fo,none⟩)] 45)).alloc (BP (b.L R).toArray 39)).alloc (BP #[J Y am.x,J Y am.y,J Y am.z] 27)).alloc (BP #[J Y jm.x,J Y jm.y,J Y jm.z] 27)) [J Y 0,J Y 0,J Y 0,J Y 0,J Y 0,J Y 0,J Y 0,J Y 0,J Y 0,J Y 0,J Y 0,J Y 0,J Y 0,J Y 0,J Y 0,J Y 0,J Y 0,J Y 0,J Y 0,J Y 0,J Y 0,J Y 0,J Y 0,BQ none 0 0,J Y 0,J Y 0,J Y 0,BT false,J Y 0,BT false,BT false] 39;simp only[JE]at h9;rw[hV];exact h9
 have hB:B9 W.heap.size W V:=by rw[hV];exact(Jc (Jc (Jc (Jc aL ac) aj) ao) bM)
 have aN:=Ja hB hc;have aT:=Jm hB hc hf;have aY:BU (Leaves ⟨fb,fo,none⟩ W V):=(Leaves.refl _ _).step hB;clear aL ac aj ao bM;have fZ:W.heap.size<=V.heap.size:=hB.size;have im:BU _:=Jda b R pv Ls hR V (hv.below hB) hl;clear hc hf hv hB;go_enter func43,ntmps43;go_upto_region 1 with fail;rw[<- hV];clear hV;obtain⟨pr,aB⟩:∃ p,p=W.heap.size+1+1+1+1:=⟨_,rfl⟩
 obtain⟨pj,dL⟩:∃ p,p=W.heap.size+1+1+1:=⟨_,rfl⟩
 obtain⟨pa,aU⟩:∃ p,p=W.heap.size+1+1:=⟨_,rfl⟩
 obtain⟨pb,aF⟩:∃ p,p=W.heap.size+1:=⟨_,rfl⟩
 obtain⟨pw,bE⟩:∃ p,p=W.heap.size:=⟨_,rfl⟩
 rw[<- aB]at Cr;rw[<- dL]at Cj;rw[<- aU]at Ca;rw[<- aF]at Cb;rw[<- bE]at Cw;rw[<- aB,<- dL,<- aU,<- aF,<- bE];have nw:pw≠fb:=by omega
 have nb:pb≠fb:=by omega
 have na:pa≠fb:=by omega
 have nj:pj≠fb:=by omega
 have nr:pr≠fb:=by omega
 have bw:pw≠pb:=by omega
 have ba:pa≠pb:=by omega
 have bj:pj≠pb:=by omega
 have br:pr≠pb:=by omega
 have nr':fb≠pr:=by omega
 have nb':fb≠pb:=by omega
 have dB:W.heap.size<=pb:=by omega
 have aE:W.heap.size<=pr:=by omega
 have lq:pb<V.heap.size:=Cb.lt;have nX:pr<V.heap.size:=Cr.lt;have bS:([J Y 0,J Y 0,J Y 0,J Y 0,J Y 0,J Y 0,J Y 0,J Y 0,J Y 0,J Y 0,J Y 0,J Y 0,J Y 0,J Y 0,J Y 0,J Y 0,J Y 0,J Y 0,J Y 0,J Y 0,J Y 0,J Y 0,J Y 0,BQ none 0 0,J Y 0,J Y 0,J Y 0,BT false,J Y 0,BT false,BT false]:List B7).length=31:=rfl;generalize([J Y 0,J Y 0,J Y 0,J Y 0,J Y 0,J Y 0,J Y 0,J Y 0,J Y 0,J Y 0,J Y 0,J Y 0,J Y 0,J Y 0,J Y 0,J Y 0,J Y 0,J Y 0,J Y 0,J Y 0,J Y 0,J Y 0,J Y 0,BQ none 0 0,J Y 0,J Y 0,J Y 0,BT false,J Y 0,BT false,BT false]:List B7)=zl at *;have au:BU (World.rangeAt V pb 0 (b.L R)):=Cb.range;clear bE aF aU dL aB;go_wp2_with (refine wpList_load_mid rfl 39 _ rfl pb 0 rfl _ _ au.out underlying39 rfl hz.out ?_);refine JA im.out ?_;rintro e W1 ⟨u,rfl,HR⟩;have aW:=hR.set (Jbb HR.out.row);have ac:=HR.out.below;have Cw:=Cw.step ac;have Cb:=Cb.step ac;have Ca:=Ca.step ac;have Cj:=Cj.step ac;have Cr:=Cr.step ac;have dF:=aY.out.step (ac.mono aY.out.size);have bU:=Ja ac aN;have eK:=Jm ac aN aT;have nub:u.ownBlock≠some pb:=fun e=>by have:=(HR.out.row.lt _ e).1;omega
 have nuf:u.ownBlock≠some fb:=fun e=>by have:=(HR.out.row.lt _ e).1;omega
 have nur:u.ownBlock≠some pr:=fun e=>by have:=(HR.out.row.lt _ e).1;omega
 have bX:BU _:=Jad (Go.Joins.ownsRow_le HR.out.row fZ) nub (b.L (R.set 5 u)) 0;have bT:BU (World.there W1 pb 0 (b.L (R.set 5 u)).toArray.size):=Cb.thereB hR.rest aW.rest;have fe:BU _:=Jj aW.rest b;have eL:BU _:=Jn aW.rest b;have dw:BU _:=aW.rest.each b;have Cb:=Cb.sets (us:=b.L (R.set 5 u)) (by rw[hR.rest.all,aW.rest.all]);have Cw:=Cw.apart (us:=b.L (R.set 5 u)) bw;have Ca:=Ca.apart (us:=b.L (R.set 5 u)) ba;have Cj:=Cj.apart (us:=b.L (R.set 5 u)) bj;have Cr:=Cr.apart (us:=b.L (R.set 5 u)) br;have bL:BU (Leaves ⟨fb,fo,none⟩ W (W1.setCells pb 0 (b.L (R.set 5 u)))):=dF.sets dB _;have bF:=(Jaj (w:=W1) (vs:=b.L (R.set 5 u)) nb').trans bU;have b_:=(World.frozen?_setCells pb (b.L (R.set 5 u)) 0 W1 ⟨fb,fo,none⟩).trans eK;have bJ:BU (World.rangeAt (W1.setCells pb 0 (b.L (R.set 5 u))) pb 0 (b.L (R.set 5 u))):=Cb.range;clear im au aN aT aY dF bU eK ac HR;by_cases hk:b.k=2
 ·have HC:BU _:=Jeq b (R.set 5 u) hk 105 #[BO (some ⟨pw,0,none⟩),BO (some ⟨pb,0,none⟩),BO (some ⟨pj,0,none⟩),BO (some ⟨pa,0,none⟩)] (enters_of func105 (by kernel_rfl) rfl) (fun X=>BU (Clo ⟨fb,fo,none⟩ (f||Jmd b am jm) pb ((Jcc b am jm).L (R.set 5 u)) ((W1.setCells pb 0 (b.L (R.set 5 u))).alloc (BP (b.L (R.set 5 u)).toArray 39)) X)) (W1.setCells pb 0 (b.L (R.set 5 u)))
   (Jp9 fb fo pw pb pj pa f b (R.set 5 u) am jm aW.rest ((W1.setCells pb 0 (b.L (R.set 5 u))).alloc (BP (b.L (R.set 5 u)).toArray 39)) (Ja (Jb _ _) bF) (Jm (Jb _ _) bF b_) (Cw.step (Jb _ _)) (Cb.step (Jb _ _)) (Cj.step (Jb _ _)) (Ca.step (Jb _ _)) nw nb nj na bw bj ba)
  have dC:BU (CW _ _ _):=Cr;clear Cw Cb Ca Cj Cr;go_wp2_with (first | refine wpList_store_mid rfl 39 _ _ rfl pb 0 _ rfl rfl bT.out eL.out dw.out ?_ | refine wpList_load_mid rfl 39 _ rfl pb 0 rfl _ _ bJ.out underlying39 rfl fe.out ?_);refine JA HC.out ?_;rintro e W3 ⟨rfl,HK⟩;have cG:BU (Leaves ⟨fb,fo,none⟩ W W3):=(bL.out.step ((Jb (W1.setCells pb 0 (b.L (R.set 5 u))) _).mono bL.out.size)).two HK.out.two aO dB;have bV:=HK.out.cell;have cP:=HK.out.frozen;have dA:=HK.out.cw;have bZ:=(dC.out.step (Jb _ _)).two HK.out.two nr br;have cm:BU _:=Jgw (Jq bX.out (Jb _ _)) HK.out.two nuf nub;clear HC HK bJ bT bF b_ bX bL dC;have bC:BU _:=Jj aW.rest ((Jcc b am jm));have cd:BU _:=Jn aW.rest ((Jcc b am jm));have bW:BU _:=aW.rest.each ((Jcc b am jm));have cU:BU (World.rangeAt W3 pb 0 (((Jcc b am jm)).L (R.set 5 u))):=dA.range;have dq:BU (World.there W3 pr 0 (((Jcc b am jm)).L (R.set 5 u)).toArray.size):=bZ.there31 bS aW.rest;have cH:BU _:=(bZ.sets (us:=((Jcc b am jm)).L (R.set 5 u)) (by rw[aW.rest.all,bS])).range;have cV:BU (Leaves ⟨fb,fo,none⟩ W (W3.setCells pr 0 (((Jcc b am jm)).L (R.set 5 u)))):=cG.out.sets aE _;have cI:BU _:=(Jaj (w:=W3) (vs:=((Jcc b am jm)).L (R.set 5 u)) nr').trans bV;have cW:BU _:=(World.frozen?_setCells pr (((Jcc b am jm)).L (R.set 5 u)) 0 W3 ⟨fb,fo,none⟩).trans cP;have fD:BU _:=Jad cm.out nur (((Jcc b am jm)).L (R.set 5 u)) 0;generalize aM:((Jcc b am jm)).L (R.set 5 u)=cs at *;have bH:BU _:=aM;clear aM dA bZ cG cm bV cP;go_wp2_with (first | refine wpList_load_mid rfl 39 _ rfl pb 0 rfl _ _ cU.out underlying39 rfl bC.out ?_ | refine wpList_store_mid rfl 39 _ _ rfl pr 0 _ rfl rfl dq.out cd.out bW.out ?_);refine bodyPost_ret (J7 8 39 results43 ⟨pr,0,none⟩ rfl (run_loadVar_mid _ pr 0 39 cs _ cH.out underlying39 rfl bC.out)) rfl ?_;refine⟨u,by rw[<- bH.out,ifB,if_pos hk],?_,fD⟩;rw[Jav,if_pos hk];exact cV.out.done cI.out cW.out
 ·have HC:BU _:=Jgl b (R.set 5 u) (.func (.func 105) #[] #[BO (some ⟨pw,0,none⟩),BO (some ⟨pb,0,none⟩),BO (some ⟨pj,0,none⟩),BO (some ⟨pa,0,none⟩)]) hk (W1.setCells pb 0 (b.L (R.set 5 u)));have dC:BU (CW _ _ _):=Cr;have kM:BU (CW _ _ _):=Cb;clear Cw Cb Ca Cj Cr;go_wp2_with (first | refine wpList_store_mid rfl 39 _ _ rfl pb 0 _ rfl rfl bT.out eL.out dw.out ?_ | refine wpList_load_mid rfl 39 _ rfl pb 0 rfl _ _ bJ.out underlying39 rfl fe.out ?_);refine JA HC.out ?_;rintro e W3 ⟨rfl,HK⟩;have cG:BU (Leaves ⟨fb,fo,none⟩ W W3):=bL.out.step (HK.out.mono bL.out.size);have bV:=Ja HK.out bF;have cP:=Jm HK.out bF b_;have dA:=kM.out.step HK.out;have bZ:=dC.out.step HK.out;have cm:BU _:=Jq bX.out HK.out;clear HC HK bJ bT bF b_ bX bL dC kM;have bC:BU _:=Jj aW.rest (b);have cd:BU _:=Jn aW.rest (b);have bW:BU _:=aW.rest.each (b);have cU:BU (World.rangeAt W3 pb 0 ((b).L (R.set 5 u))):=dA.range;have dq:BU (World.there W3 pr 0 ((b).L (R.set 5 u)).toArray.size):=bZ.there31 bS aW.rest;have cH:BU _:=(bZ.sets (us:=(b).L (R.set 5 u)) (by rw[aW.rest.all,bS])).range;have cV:BU (Leaves ⟨fb,fo,none⟩ W (W3.setCells pr 0 ((b).L (R.set 5 u)))):=cG.out.sets aE _;have cI:BU _:=(Jaj (w:=W3) (vs:=(b).L (R.set 5 u)) nr').trans bV;have cW:BU _:=(World.frozen?_setCells pr ((b).L (R.set 5 u)) 0 W3 ⟨fb,fo,none⟩).trans cP;have fD:BU _:=Jad cm.out nur ((b).L (R.set 5 u)) 0;generalize aM:(b).L (R.set 5 u)=cs at *;have bH:BU _:=aM;clear aM dA bZ cG cm bV cP;go_wp2_with (first | refine wpList_load_mid rfl 39 _ rfl pb 0 rfl _ _ cU.out underlying39 rfl bC.out ?_ | refine wpList_store_mid rfl 39 _ _ rfl pr 0 _ rfl rfl dq.out cd.out bW.out ?_);refine bodyPost_ret (J7 8 39 results43 ⟨pr,0,none⟩ rfl (run_loadVar_mid _ pr 0 39 cs _ cH.out underlying39 rfl bC.out)) rfl ?_;refine⟨u,by rw[<- bH.out,ifB,if_neg hk],?_,fD⟩;rw[Jav,if_neg hk,Bool.or_false];exact cV.out.done cI.out cW.out
theorem Jqs(fb fo:Nat)(f:Bool)(b:Bd)(R:List B7)(pv:B7)(Ls:List Pt)(jm:V3)(hR:RestP R pv)(W:BV)(hc:W.cell? ⟨fb,fo,none⟩=some (BT f))(hf:W.frozen? ⟨fb,fo,none⟩=false)(hv:Lies W pv Ls)(hl:Ls.length<=100000):
  Cd Tryz.prog 45 #[BO (some ⟨fb,fo,none⟩),B_ (b.L R).toArray,jm.val] W fun e W'=>∃ u,e = BZ (B_ ((ifB b (Jcl b jm)).L (R.set 5 u)).toArray)/\BU (After ⟨fb,fo,none⟩ (f||Jav b.k (Jbh b.l jm)) W W')/\BU (W'.ownsRow W.heap.size 23 3 u Ls.length (fl3 Ls)):=by
 have aO:fb<W.heap.size:=JB _ _ hc;have hz:BU _:=Jj hR.rest b;obtain⟨V,hV⟩:∃ V,V=((((W.alloc (BP #[BO (some ⟨fb,fo,none⟩)] 45)).alloc (BP (b.L R).toArray 39)).alloc (BP #[J Y jm.x,J Y jm.y,J Y jm.z] 27)).alloc (BP #[J Y 0,J Y 0,J Y 0,J Y 0,J Y 0,J Y 0,J Y 0,J Y 0,J Y 0,J Y 0,J Y 0,J Y 0,J Y 0,J Y 0,J Y 0,J Y 0,J Y 0,J Y 0,J Y 0,J Y 0,J Y 0,J Y 0,J Y 0,BQ none 0 0,J Y 0,J Y 0,J Y 0,BT false,J Y 0,BT false,BT false] 39)):=⟨_,rfl⟩
 have aL:=Jb W (BP #[BO (some ⟨fb,fo,none⟩)] 45);have ac:=Jb (W.alloc (BP #[BO (some ⟨fb,fo,none⟩)] 45)) (BP (b.L R).toArray 39);have aj:=Jb ((W.alloc (BP #[BO (some ⟨fb,fo,none⟩)] 45)).alloc (BP (b.L R).toArray 39)) (BP #[J Y jm.x,J Y jm.y,J Y jm.z] 27);have ao:=Jb (((W.alloc (BP #[BO (some ⟨fb,fo,none⟩)] 45)).alloc (BP (b.L R).toArray 39)).alloc (BP #[J Y jm.x,J Y jm.y,J Y jm.z] 27)) (BP #[J Y 0,J Y 0,J Y 0,J Y 0,J Y 0,J Y 0,J Y 0,J Y 0,J Y 0,J Y 0,J Y 0,J Y 0,J Y 0,J Y 0,J Y 0,J Y 0,J Y 0,J Y 0,J Y 0,J Y 0,J Y 0,J Y 0,J Y 0,BQ none 0 0,J Y 0,J Y 0,J Y 0,BT false,J Y 0,BT false,BT false] 39);have Cw:CW V (W.heap.size) [BO (some ⟨fb,fo,none⟩)]:=by
  have h9:=(((CW.new W [BO (some ⟨fb,fo,none⟩)] 45).step ac).step aj).step ao;rw[hV];exact h9
 have Cb:CW V (W.heap.size+1) (b.L R):=by
  have h9:=((CW.new (W.alloc (BP #[BO (some ⟨fb,fo,none⟩)] 45)) (b.L R) 39).step aj).step ao;simp only[JE]at h9;rw[hV];exact h9
 have Cj:CW V (W.heap.size+1+1) [J Y jm.x,J Y jm.y,J Y jm.z]:=by
  have h9:=(CW.new ((W.alloc (BP #[BO (some ⟨fb,fo,none⟩)] 45)).alloc (BP (b.L R).toArray 39)) [J Y jm.x,J Y jm.y,J Y jm.z] 27).step ao;simp only[JE]at h9;rw[hV];exact h9
 have Cr:CW V (W.heap.size+1+1+1) [J Y 0,J Y 0,J Y 0,J Y 0,J Y 0,J Y 0,J Y 0,J Y 0,J Y 0,J Y 0,J Y 0,J Y 0,J Y 0,J Y 0,J Y 0,J Y 0,J Y 0,J Y 0,J Y 0,J Y 0,J Y 0,J Y 0,J Y 0,BQ none 0 0,J Y 0,J Y 0,J Y 0,BT false,J Y 0,BT false,BT false]:=by
  have h9:=CW.new (((W.alloc (BP #[BO (some ⟨fb,fo,none⟩)] 45)).alloc (BP (b.L R).toArray 39)).alloc (BP #[J Y jm.x,J Y jm.y,J Y jm.z] 27)) [J Y 0,J Y 0,J Y 0,J Y 0,J Y 0,J Y 0,J Y 0,J Y 0,J Y 0,J Y 0,J Y 0,J Y 0,J Y 0,J Y 0,J Y 0,J Y 0,J Y 0,J Y 0,J Y 0,J Y 0,J Y 0,J Y 0,J Y 0,BQ none 0 0,J Y 0,J Y 0,J Y 0,BT false,J Y 0,BT false,BT false] 39;simp only[JE]at h9;rw[hV];exact h9
 have hB:B9 W.heap.size W V:=by rw[hV];exact(Jc (Jc (Jc aL ac) aj) ao)
 have aN:=Ja hB hc;have aT:=Jm hB hc hf;have aY:BU (Leaves ⟨fb,fo,none⟩ W V):=(Leaves.refl _ _).step hB;clear aL ac aj ao;have fZ:W.heap.size<=V.heap.size:=hB.size;have im:BU _:=Jda b R pv Ls hR V (hv.below hB) hl;clear hc hf hv hB;go_enter func45,ntmps45;go_upto_region 1 with fail;rw[<- hV];clear hV;obtain⟨pr,aB⟩:∃ p,p=W.heap.size+1+1+1:=⟨_,rfl⟩
 obtain⟨pj,dL⟩:∃ p,p=W.heap.size+1+1:=⟨_,rfl⟩
 obtain⟨pb,aF⟩:∃ p,p=W.heap.size+1:=⟨_,rfl⟩
 obtain⟨pw,bE⟩:∃ p,p=W.heap.size:=⟨_,rfl⟩
 rw[<- aB]at Cr;rw[<- dL]at Cj;rw[<- aF]at Cb;rw[<- bE]at Cw;rw[<- aB,<- dL,<- aF,<- bE];have nw:pw≠fb:=by omega
 have nb:pb≠fb:=by omega
 have nj:pj≠fb:=by omega
 have nr:pr≠fb:=by omega
 have bw:pw≠pb:=by omega
 have bj:pj≠pb:=by omega
 have br:pr≠pb:=by omega
 have nr':fb≠pr:=by omega
 have nb':fb≠pb:=by omega
 have dB:W.heap.size<=pb:=by omega
 have aE:W.heap.size<=pr:=by omega
 have lq:pb<V.heap.size:=Cb.lt;have nX:pr<V.heap.size:=Cr.lt;have bS:([J Y 0,J Y 0,J Y 0,J Y 0,J Y 0,J Y 0,J Y 0,J Y 0,J Y 0,J Y 0,J Y 0,J Y 0,J Y 0,J Y 0,J Y 0,J Y 0,J Y 0,J Y 0,J Y 0,J Y 0,J Y 0,J Y 0,J Y 0,BQ none 0 0,J Y 0,J Y 0,J Y 0,BT false,J Y 0,BT false,BT false]:List B7).length=31:=rfl;generalize([J Y 0,J Y 0,J Y 0,J Y 0,J Y 0,J Y 0,J Y 0,J Y 0,J Y 0,J Y 0,J Y 0,J Y 0,J Y 0,J Y 0,J Y 0,J Y 0,J Y 0,J Y 0,J Y 0,J Y 0,J Y 0,J Y 0,J Y 0,BQ none 0 0,J Y 0,J Y 0,J Y 0,BT false,J Y 0,BT false,BT false]:List B7)=zl at *;have au:BU (World.rangeAt V pb 0 (b.L R)):=Cb.range;clear bE aF dL aB;go_wp2_with (refine wpList_load_mid rfl 39 _ rfl pb 0 rfl _ _ au.out underlying39 rfl hz.out ?_);refine JA im.out ?_;rintro e W1 ⟨u,rfl,HR⟩;have aW:=hR.set (Jbb HR.out.row);have ac:=HR.out.below;have Cw:=Cw.step ac;have Cb:=Cb.step ac;have Cj:=Cj.step ac;have Cr:=Cr.step ac;have dF:=aY.out.step (ac.mono aY.out.size);have bU:=Ja ac aN;have eK:=Jm ac aN aT;have nub:u.ownBlock≠some pb:=fun e=>by have:=(HR.out.row.lt _ e).1;omega
 have nuf:u.ownBlock≠some fb:=fun e=>by have:=(HR.out.row.lt _ e).1;omega
 have nur:u.ownBlock≠some pr:=fun e=>by have:=(HR.out.row.lt _ e).1;omega
 have bX:BU _:=Jad (Go.Joins.ownsRow_le HR.out.row fZ) nub (b.L (R.set 5 u)) 0;have bT:BU (World.there W1 pb 0 (b.L (R.set 5 u)).toArray.size):=Cb.thereB hR.rest aW.rest;have fe:BU _:=Jj aW.rest b;have eL:BU _:=Jn aW.rest b;have dw:BU _:=aW.rest.each b;have Cb:=Cb.sets (us:=b.L (R.set 5 u)) (by rw[hR.rest.all,aW.rest.all]);have Cw:=Cw.apart (us:=b.L (R.set 5 u)) bw;have Cj:=Cj.apart (us:=b.L (R.set 5 u)) bj;have Cr:=Cr.apart (us:=b.L (R.set 5 u)) br;have bL:BU (Leaves ⟨fb,fo,none⟩ W (W1.setCells pb 0 (b.L (R.set 5 u)))):=dF.sets dB _;have bF:=(Jaj (w:=W1) (vs:=b.L (R.set 5 u)) nb').trans bU;have b_:=(World.frozen?_setCells pb (b.L (R.set 5 u)) 0 W1 ⟨fb,fo,none⟩).trans eK;have bJ:BU (World.rangeAt (W1.setCells pb 0 (b.L (R.set 5 u))) pb 0 (b.L (R.set 5 u))):=Cb.range;clear im au aN aT aY dF bU eK ac HR;by_cases hk:b.k=2
 ·have HC:BU _:=Jeq b (R.set 5 u) hk 109 #[BO (some ⟨pw,0,none⟩),BO (some ⟨pb,0,none⟩),BO (some ⟨pj,0,none⟩)] (enters_of func109 (by kernel_rfl) rfl) (fun X=>BU (Clo ⟨fb,fo,none⟩ (f||Jbh b.l jm) pb ((Jcl b jm).L (R.set 5 u)) ((W1.setCells pb 0 (b.L (R.set 5 u))).alloc (BP (b.L (R.set 5 u)).toArray 39)) X)) (W1.setCells pb 0 (b.L (R.set 5 u)))
   (Jod fb fo pw pb pj f b (R.set 5 u) jm aW.rest ((W1.setCells pb 0 (b.L (R.set 5 u))).alloc (BP (b.L (R.set 5 u)).toArray 39)) (Ja (Jb _ _) bF) (Jm (Jb _ _) bF b_) (Cw.step (Jb _ _)) (Cb.step (Jb _ _)) (Cj.step (Jb _ _)) nb)
  have dC:BU (CW _ _ _):=Cr;clear Cw Cb Cj Cr;go_wp2_with (first | refine wpList_store_mid rfl 39 _ _ rfl pb 0 _ rfl rfl bT.out eL.out dw.out ?_ | refine wpList_load_mid rfl 39 _ rfl pb 0 rfl _ _ bJ.out underlying39 rfl fe.out ?_);refine JA HC.out ?_;rintro e W3 ⟨rfl,HK⟩;have cG:BU (Leaves ⟨fb,fo,none⟩ W W3):=(bL.out.step ((Jb (W1.setCells pb 0 (b.L (R.set 5 u))) _).mono bL.out.size)).two HK.out.two aO dB;have bV:=HK.out.cell;have cP:=HK.out.frozen;have dA:=HK.out.cw;have bZ:=(dC.out.step (Jb _ _)).two HK.out.two nr br;have cm:BU _:=Jgw (Jq bX.out (Jb _ _)) HK.out.two nuf nub;clear HC HK bJ bT bF b_ bX bL dC;have bC:BU _:=Jj aW.rest ((Jcl b jm));have cd:BU _:=Jn aW.rest ((Jcl b jm));have bW:BU _:=aW.rest.each ((Jcl b jm));have cU:BU (World.rangeAt W3 pb 0 (((Jcl b jm)).L (R.set 5 u))):=dA.range;have dq:BU (World.there W3 pr 0 (((Jcl b jm)).L (R.set 5 u)).toArray.size):=bZ.there31 bS aW.rest;have cH:BU _:=(bZ.sets (us:=((Jcl b jm)).L (R.set 5 u)) (by rw[aW.rest.all,bS])).range;have cV:BU (Leaves ⟨fb,fo,none⟩ W (W3.setCells pr 0 (((Jcl b jm)).L (R.set 5 u)))):=cG.out.sets aE _;have cI:BU _:=(Jaj (w:=W3) (vs:=((Jcl b jm)).L (R.set 5 u)) nr').trans bV;have cW:BU _:=(World.frozen?_setCells pr (((Jcl b jm)).L (R.set 5 u)) 0 W3 ⟨fb,fo,none⟩).trans cP;have fD:BU _:=Jad cm.out nur (((Jcl b jm)).L (R.set 5 u)) 0;generalize aM:((Jcl b jm)).L (R.set 5 u)=cs at *;have bH:BU _:=aM;clear aM dA bZ cG cm bV cP;go_wp2_with (first | refine wpList_load_mid rfl 39 _ rfl pb 0 rfl _ _ cU.out underlying39 rfl bC.out ?_ | refine wpList_store_mid rfl 39 _ _ rfl pr 0 _ rfl rfl dq.out cd.out bW.out ?_);refine bodyPost_ret (J7 6 39 results45 ⟨pr,0,none⟩ rfl (run_loadVar_mid _ pr 0 39 cs _ cH.out underlying39 rfl bC.out)) rfl ?_;refine⟨u,by rw[<- bH.out,ifB,if_pos hk],?_,fD⟩;rw[Jav,if_pos hk];exact cV.out.done cI.out cW.out
 ·have HC:BU _:=Jgl b (R.set 5 u) (.func (.func 109) #[] #[BO (some ⟨pw,0,none⟩),BO (some ⟨pb,0,none⟩),BO (some ⟨pj,0,none⟩)]) hk (W1.setCells pb 0 (b.L (R.set 5 u)));have dC:BU (CW _ _ _):=Cr;have kM:BU (CW _ _ _):=Cb;clear Cw Cb Cj Cr;go_wp2_with (first | refine wpList_store_mid rfl 39 _ _ rfl pb 0 _ rfl rfl bT.out eL.out dw.out ?_ | refine wpList_load_mid rfl 39 _ rfl pb 0 rfl _ _ bJ.out underlying39 rfl fe.out ?_);refine JA HC.out ?_;rintro e W3 ⟨rfl,HK⟩;have cG:BU (Leaves ⟨fb,fo,none⟩ W W3):=bL.out.step (HK.out.mono bL.out.size);have bV:=Ja HK.out bF;have cP:=Jm HK.out bF b_;have dA:=kM.out.step HK.out;have bZ:=dC.out.step HK.out;have cm:BU _:=Jq bX.out HK.out;clear HC HK bJ bT bF b_ bX bL dC kM;have bC:BU _:=Jj aW.rest (b);have cd:BU _:=Jn aW.rest (b);have bW:BU _:=aW.rest.each (b);have cU:BU (World.rangeAt W3 pb 0 ((b).L (R.set 5 u))):=dA.range;have dq:BU (World.there W3 pr 0 ((b).L (R.set 5 u)).toArray.size):=bZ.there31 bS aW.rest;have cH:BU _:=(bZ.sets (us:=(b).L (R.set 5 u)) (by rw[aW.rest.all,bS])).range;have cV:BU (Leaves ⟨fb,fo,none⟩ W (W3.setCells pr 0 ((b).L (R.set 5 u)))):=cG.out.sets aE _;have cI:BU _:=(Jaj (w:=W3) (vs:=(b).L (R.set 5 u)) nr').trans bV;have cW:BU _:=(World.frozen?_setCells pr ((b).L (R.set 5 u)) 0 W3 ⟨fb,fo,none⟩).trans cP;have fD:BU _:=Jad cm.out nur ((b).L (R.set 5 u)) 0;generalize aM:(b).L (R.set 5 u)=cs at *;have bH:BU _:=aM;clear aM dA bZ cG cm bV cP;go_wp2_with (first | refine wpList_load_mid rfl 39 _ rfl pb 0 rfl _ _ cU.out underlying39 rfl bC.out ?_ | refine wpList_store_mid rfl 39 _ _ rfl pr 0 _ rfl rfl dq.out cd.out bW.out ?_);refine bodyPost_ret (J7 6 39 results45 ⟨pr,0,none⟩ rfl (run_loadVar_mid _ pr 0 39 cs _ cH.out underlying39 rfl bC.out)) rfl ?_;refine⟨u,by rw[<- bH.out,ifB,if_neg hk],?_,fD⟩;rw[Jav,if_neg hk,Bool.or_false];exact cV.out.done cI.out cW.out
theorem Jr4(fb fo:Nat)(f:Bool)(b:Bd)(R:List B7)(pv:B7)(Ls:List Pt)(jm:V3)(n:Int)(hR:RestP R pv)(W:BV)(hc:W.cell? ⟨fb,fo,none⟩=some (BT f))(hf:W.frozen? ⟨fb,fo,none⟩=false)(hv:Lies W pv Ls)(hl:Ls.length<=100000):
  Cd Tryz.prog 47 #[BO (some ⟨fb,fo,none⟩),B_ (b.L R).toArray,jm.val,J Y n] W fun e W'=>∃ u,e = BZ (B_ ((ifB b (Jce b jm n)).L (R.set 5 u)).toArray)/\BU (After ⟨fb,fo,none⟩ (f||Jav b.k (Joa b jm n)) W W')/\BU (W'.ownsRow W.heap.size 23 3 u Ls.length (fl3 Ls)):=by
 have aO:fb<W.heap.size:=JB _ _ hc;have hz:BU _:=Jj hR.rest b;obtain⟨V,hV⟩:∃ V,V=(((((W.alloc (BP #[BO (some ⟨fb,fo,none⟩)] 45)).alloc (BP (b.L R).toArray 39)).alloc (BP #[J Y jm.x,J Y jm.y,J Y jm.z] 27)).alloc (BP #[J Y n] 3)).alloc (BP #[J Y 0,J Y 0,J Y 0,J Y 0,J Y 0,J Y 0,J Y 0,J Y 0,J Y 0,J Y 0,J Y 0,J Y 0,J Y 0,J Y 0,J Y 0,J Y 0,J Y 0,J Y 0,J Y 0,J Y 0,J Y 0,J Y 0,J Y 0,BQ none 0 0,J Y 0,J Y 0,J Y 0,BT false,J Y 0,BT false,BT false] 39)):=⟨_,rfl⟩
 have aL:=Jb W (BP #[BO (some ⟨fb,fo,none⟩)] 45);have ac:=Jb (W.alloc (BP #[BO (some ⟨fb,fo,none⟩)] 45)) (BP (b.L R).toArray 39);have aj:=Jb ((W.alloc (BP #[BO (some ⟨fb,fo,none⟩)] 45)).alloc (BP (b.L R).toArray 39)) (BP #[J Y jm.x,J Y jm.y,J Y jm.z] 27);have ao:=Jb (((W.alloc (BP #[BO (some ⟨fb,fo,none⟩)] 45)).alloc (BP (b.L R).toArray 39)).alloc (BP #[J Y jm.x,J Y jm.y,J Y jm.z] 27)) (BP #[J Y n] 3);have bM:=Jb ((((W.alloc (BP #[BO (some ⟨fb,fo,none⟩)] 45)).alloc (BP (b.L R).toArray 39)).alloc (BP #[J Y jm.x,J Y jm.y,J Y jm.z] 27)).alloc (BP #[J Y n] 3)) (BP #[J Y 0,J Y 0,J Y 0,J Y 0,J Y 0,J Y 0,J Y 0,J Y 0,J Y 0,J Y 0,J Y 0,J Y 0,J Y 0,J Y 0,J Y 0,J Y 0,J Y 0,J Y 0,J Y 0,J Y 0,J Y 0,J Y 0,J Y 0,BQ none 0 0,J Y 0,J Y 0,J Y 0,BT false,J Y 0,BT false,BT false] 39);have Cw:CW V (W.heap.size) [BO (some ⟨fb,fo,none⟩)]:=by
  have h9:=((((CW.new W [BO (some ⟨fb,fo,none⟩)] 45).step ac).step aj).step ao).step bM;rw[hV];exact h9
 have Cb:CW V (W.heap.size+1) (b.L R):=by
  have h9:=(((CW.new (W.alloc (BP #[BO (some ⟨fb,fo,none⟩)] 45)) (b.L R) 39).step aj).step ao).step bM;simp only[JE]at h9;rw[hV];exact h9
 have Cj:CW V (W.heap.size+1+1) [J Y jm.x,J Y jm.y,J Y jm.z]:=by
  have h9:=((CW.new ((W.alloc (BP #[BO (some ⟨fb,fo,none⟩)] 45)).alloc (BP (b.L R).toArray 39)) [J Y jm.x,J Y jm.y,J Y jm.z] 27).step ao).step bM;simp only[JE]at h9;rw[hV];exact h9
 have Cn:CW V (W.heap.size+1+1+1) [J Y n]:=by
  have h9:=(CW.new (((W.alloc (BP #[BO (some ⟨fb,fo,none⟩)] 45)).alloc (BP (b.L R).toArray 39)).alloc (BP #[J Y jm.x,J Y jm.y,J Y jm.z] 27)) [J Y n] 3).step bM;simp only[JE]at h9;rw[hV];exact h9
 have Cr:CW V (W.heap.size+1+1+1+1) [J Y 0,J Y 0,J Y 0,J Y 0,J Y 0,J Y 0,J Y 0,J Y 0,J Y 0,J Y 0,J Y 0,J Y 0,J Y 0,J Y 0,J Y 0,J Y 0,J Y 0,J Y 0,J Y 0,J Y 0,J Y 0,J Y 0,J Y 0,BQ none 0 0,J Y 0,J Y 0,J Y 0,BT false,J Y 0,BT false,BT false]:=by
  have h9:=CW.new ((((W.alloc (BP #[BO (some ⟨fb,fo,none⟩)] 45)).alloc (BP (b.L R).toArray 39)).alloc (BP #[J Y jm.x,J Y jm.y,J Y jm.z] 27)).alloc (BP #[J Y n] 3)) [J Y 0,J Y 0,J Y 0,J Y 0,J Y 0,J Y 0,J Y 0,J Y 0,J Y 0,J Y 0,J Y 0,J Y 0,J Y 0,J Y 0,J Y 0,J Y 0,J Y 0,J Y 0,J Y 0,J Y 0,J Y 0,J Y 0,J Y 0,BQ none 0 0,J Y 0,J Y 0,J Y 0,BT false,J Y 0,BT false,BT false] 39;simp only[JE]at h9;rw[hV];exact h9
 have hB:B9 W.heap.size W V:=by rw[hV];exact(Jc (Jc (Jc (Jc aL ac) aj) ao) bM)
 have aN:=Ja hB hc;have aT:=Jm hB hc hf;have aY:BU (Leaves ⟨fb,fo,none⟩ W V):=(Leaves.refl _ _).step hB;clear aL ac aj ao bM;have fZ:W.heap.size<=V.heap.size:=hB.size;have im:BU _:=Jda b R pv Ls hR V (hv.below hB) hl;clear hc hf hv hB;go_enter func47,ntmps47;go_upto_region 1 with fail;rw[<- hV];clear hV;obtain⟨pr,aB⟩:∃ p,p=W.heap.size+1+1+1+1:=⟨_,rfl⟩
 obtain⟨pn,oU⟩:∃ p,p=W.heap.size+1+1+1:=⟨_,rfl⟩
 obtain⟨pj,dL⟩:∃ p,p=W.heap.size+1+1:=⟨_,rfl⟩
 obtain⟨pb,aF⟩:∃ p,p=W.heap.size+1:=⟨_,rfl⟩
 obtain⟨pw,bE⟩:∃ p,p=W.heap.size:=⟨_,rfl⟩
 rw[<- aB]at Cr;rw[<- oU]at Cn;rw[<- dL]at Cj;rw[<- aF]at Cb;rw[<- bE]at Cw;rw[<- aB,<- oU,<- dL,<- aF,<- bE];have nw:pw≠fb:=by omega
 have nb:pb≠fb:=by omega
 have nj:pj≠fb:=by omega
 have nn:pn≠fb:=by omega
 have nr:pr≠fb:=by omega
 have bw:pw≠pb:=by omega
 have bj:pj≠pb:=by omega
 have bn:pn≠pb:=by omega
 have br:pr≠pb:=by omega
 have nr':fb≠pr:=by omega
 have nb':fb≠pb:=by omega
 have dB:W.heap.size<=pb:=by omega
 have aE:W.heap.size<=pr:=by omega
 have lq:pb<V.heap.size:=Cb.lt;have nX:pr<V.heap.size:=Cr.lt;have bS:([J Y 0,J Y 0,J Y 0,J Y 0,J Y 0,J Y 0,J Y 0,J Y 0,J Y 0,J Y 0,J Y 0,J Y 0,J Y 0,J Y 0,J Y 0,J Y 0,J Y 0,J Y 0,J Y 0,J Y 0,J Y 0,J Y 0,J Y 0,BQ none 0 0,J Y 0,J Y 0,J Y 0,BT false,J Y 0,BT false,BT false]:List B7).length=31:=rfl;generalize([J Y 0,J Y 0,J Y 0,J Y 0,J Y 0,J Y 0,J Y 0,J Y 0,J Y 0,J Y 0,J Y 0,J Y 0,J Y 0,J Y 0,J Y 0,J Y 0,J Y 0,J Y 0,J Y 0,J Y 0,J Y 0,J Y 0,J Y 0,BQ none 0 0,J Y 0,J Y 0,J Y 0,BT false,J Y 0,BT false,BT false]:List B7)=zl at *;have au:BU (World.rangeAt V pb 0 (b.L R)):=Cb.range;clear bE aF dL oU aB;go_wp2_with (refine wpList_load_mid rfl 39 _ rfl pb 0 rfl _ _ au.out underlying39 rfl hz.out ?_);refine JA im.out ?_;rintro e W1 ⟨u,rfl,HR⟩;have aW:=hR.set (Jbb HR.out.row);have ac:=HR.out.below;have Cw:=Cw.step ac;have Cb:=Cb.step ac;have Cj:=Cj.step ac;have Cn:=Cn.step ac;have Cr:=Cr.step ac;have dF:=aY.out.step (ac.mono aY.out.size);have bU:=Ja ac aN;have eK:=Jm ac aN aT;have nub:u.ownBlock≠some pb:=fun e=>by have:=(HR.out.row.lt _ e).1;omega
 have nuf:u.ownBlock≠some fb:=fun e=>by have:=(HR.out.row.lt _ e).1;omega
 have nur:u.ownBlock≠some pr:=fun e=>by have:=(HR.out.row.lt _ e).1;omega
 have bX:BU _:=Jad (Go.Joins.ownsRow_le HR.out.row fZ) nub (b.L (R.set 5 u)) 0;have bT:BU (World.there W1 pb 0 (b.L (R.set 5 u)).toArray.size):=Cb.thereB hR.rest aW.rest;have fe:BU _:=Jj aW.rest b;have eL:BU _:=Jn aW.rest b;have dw:BU _:=aW.rest.each b;have Cb:=Cb.sets (us:=b.L (R.set 5 u)) (by rw[hR.rest.all,aW.rest.all]);have Cw:=Cw.apart (us:=b.L (R.set 5 u)) bw;have Cj:=Cj.apart (us:=b.L (R.set 5 u)) bj;have Cn:=Cn.apart (us:=b.L (R.set 5 u)) bn;have Cr:=Cr.apart (us:=b.L (R.set 5 u)) br;have bL:BU (Leaves ⟨fb,fo,none⟩ W (W1.setCells pb 0 (b.L (R.set 5 u)))):=dF.sets dB _;have bF:=(Jaj (w:=W1) (vs:=b.L (R.set 5 u)) nb').trans bU;have b_:=(World.frozen?_setCells pb (b.L (R.set 5 u)) 0 W1 ⟨fb,fo,none⟩).trans eK;have bJ:BU (World.rangeAt (W1.setCells pb 0 (b.L (R.set 5 u))) pb 0 (b.L (R.set 5 u))):=Cb.range;clear im au aN aT aY dF bU eK ac HR;by_cases hk:b.k=2
 ·have HC:BU _:=Jeq b (R.set 5 u) hk 110 #[BO (some ⟨pw,0,none⟩),BO (some ⟨pb,0,none⟩),BO (some ⟨pj,0,none⟩),BO (some ⟨pn,0,none⟩)] (enters_of func110 (by kernel_rfl) rfl) (fun X=>BU (Clo ⟨fb,fo,none⟩ (f||Joa b jm n) pb ((Jce b jm n).L (R.set 5 u)) ((W1.setCells pb 0 (b.L (R.set 5 u))).alloc (BP (b.L (R.set 5 u)).toArray 39)) X)) (W1.setCells pb 0 (b.L (R.set 5 u)))
   (Jq7 fb fo pw pb pj pn f b (R.set 5 u) jm n aW.rest ((W1.setCells pb 0 (b.L (R.set 5 u))).alloc (BP (b.L (R.set 5 u)).toArray 39)) (Ja (Jb _ _) bF) (Jm (Jb _ _) bF b_) (Cw.step (Jb _ _)) (Cb.step (Jb _ _)) (Cj.step (Jb _ _)) (Cn.step (Jb _ _)) nw nb nj nn)
  have dC:BU (CW _ _ _):=Cr;clear Cw Cb Cj Cn Cr;go_wp2_with (first | refine wpList_store_mid rfl 39 _ _ rfl pb 0 _ rfl rfl bT.out eL.out dw.out ?_ | refine wpList_load_mid rfl 39 _ rfl pb 0 rfl _ _ bJ.out underlying39 rfl fe.out ?_);refine JA HC.out ?_;rintro e W3 ⟨rfl,HK⟩;have cG:BU (Leaves ⟨fb,fo,none⟩ W W3):=(bL.out.step ((Jb (W1.setCells pb 0 (b.L (R.set 5 u))) _).mono bL.out.size)).two HK.out.two aO dB;have bV:=HK.out.cell;have cP:=HK.out.frozen;have dA:=HK.out.cw;have bZ:=(dC.out.step (Jb _ _)).two HK.out.two nr br;have cm:BU _:=Jgw (Jq bX.out (Jb _ _)) HK.out.two nuf nub;clear HC HK bJ bT bF b_ bX bL dC;have bC:BU _:=Jj aW.rest ((Jce b jm n));have cd:BU _:=Jn aW.rest ((Jce b jm n));have bW:BU _:=aW.rest.each ((Jce b jm n));have cU:BU (World.rangeAt W3 pb 0 (((Jce b jm n)).L (R.set 5 u))):=dA.range;have dq:BU (World.there W3 pr 0 (((Jce b jm n)).L (R.set 5 u)).toArray.size):=bZ.there31 bS aW.rest;have cH:BU _:=(bZ.sets (us:=((Jce b jm n)).L (R.set 5 u)) (by rw[aW.rest.all,bS])).range;have cV:BU (Leaves ⟨fb,fo,none⟩ W (W3.setCells pr 0 (((Jce b jm n)).L (R.set 5 u)))):=cG.out.sets aE _;have cI:BU _:=(Jaj (w:=W3) (vs:=((Jce b jm n)).L (R.set 5 u)) nr').trans bV;have cW:BU _:=(World.frozen?_setCells pr (((Jce b jm n)).L (R.set 5 u)) 0 W3 ⟨fb,fo,none⟩).trans cP;have fD:BU _:=Jad cm.out nur (((Jce b jm n)).L (R.set 5 u)) 0;generalize aM:((Jce b jm n)).L (R.set 5 u)=cs at *;have bH:BU _:=aM;clear aM dA bZ cG cm bV cP;go_wp2_with (first | refine wpList_load_mid rfl 39 _ rfl pb 0 rfl _ _ cU.out underlying39 rfl bC.out ?_ | refine wpList_store_mid rfl 39 _ _ rfl pr 0 _ rfl rfl dq.out cd.out bW.out ?_);refine bodyPost_ret (J7 8 39 results47 ⟨pr,0,none⟩ rfl (run_loadVar_mid _ pr 0 39 cs _ cH.out underlying39 rfl bC.out)) rfl ?_;refine⟨u,by rw[<- bH.out,ifB,if_pos hk],?_,fD⟩;rw[Jav,if_pos hk];exact cV.out.done cI.out cW.out
 ·have HC:BU _:=Jgl b (R.set 5 u) (.func (.func 110) #[] #[BO (some ⟨pw,0,none⟩),BO (some ⟨pb,0,none⟩),BO (some ⟨pj,0,none⟩),BO (some ⟨pn,0,none⟩)]) hk (W1.setCells pb 0 (b.L (R.set 5 u)));have dC:BU (CW _ _ _):=Cr;have kM:BU (CW _ _ _):=Cb;clear Cw Cb Cj Cn Cr;go_wp2_with (first | refine wpList_store_mid rfl 39 _ _ rfl pb 0 _ rfl rfl bT.out eL.out dw.out ?_ | refine wpList_load_mid rfl 39 _ rfl pb 0 rfl _ _ bJ.out underlying39 rfl fe.out ?_);refine JA HC.out ?_;rintro e W3 ⟨rfl,HK⟩;have cG:BU (Leaves ⟨fb,fo,none⟩ W W3):=bL.out.step (HK.out.mono bL.out.size);have bV:=Ja HK.out bF;have cP:=Jm HK.out bF b_;have dA:=kM.out.step HK.out;have bZ:=dC.out.step HK.out;have cm:BU _:=Jq bX.out HK.out;clear HC HK bJ bT bF b_ bX bL dC kM;have bC:BU _:=Jj aW.rest (b);have cd:BU _:=Jn aW.rest (b);have bW:BU _:=aW.rest.each (b);have cU:BU (World.rangeAt W3 pb 0 ((b).L (R.set 5 u))):=dA.range;have dq:BU (World.there W3 pr 0 ((b).L (R.set 5 u)).toArray.size):=bZ.there31 bS aW.rest;have cH:BU _:=(bZ.sets (us:=(b).L (R.set 5 u)) (by rw[aW.rest.all,bS])).range;have cV:BU (Leaves ⟨fb,fo,none⟩ W (W3.setCells pr 0 ((b).L (R.set 5 u)))):=cG.out.sets aE _;have cI:BU _:=(Jaj (w:=W3) (vs:=(b).L (R.set 5 u)) nr').trans bV;have cW:BU _:=(World.frozen?_setCells pr ((b).L (R.set 5 u)) 0 W3 ⟨fb,fo,none⟩).trans cP;have fD:BU _:=Jad cm.out nur ((b).L (R.set 5 u)) 0;generalize aM:(b).L (R.set 5 u)=cs at *;have bH:BU _:=aM;clear aM dA bZ cG cm bV cP;go_wp2_with (first | refine wpList_load_mid rfl 39 _ rfl pb 0 rfl _ _ cU.out underlying39 rfl bC.out ?_ | refine wpList_store_mid rfl 39 _ _ rfl pr 0 _ rfl rfl dq.out cd.out bW.out ?_);refine bodyPost_ret (J7 8 39 results47 ⟨pr,0,none⟩ rfl (run_loadVar_mid _ pr 0 39 cs _ cH.out underlying39 rfl bC.out)) rfl ?_;refine⟨u,by rw[<- bH.out,ifB,if_neg hk],?_,fD⟩;rw[Jav,if_neg hk,Bool.or_false];exact cV.out.done cI.out cW.out
end
end Go.Proofs.YtkblcfgamnmbkaaGreat
