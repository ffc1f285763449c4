/- The document's own layers 1 and 2, over the same Jd8 functions. -/
import Derived.Test.YtkblcfgamnmbkaaGreatEBRight6
import Derived.Test.YtkblcfgamnmbkaaGreatEBRight11
import Derived.Test.YtkblcfgamnmbkaaGreatEBRight0
import Derived.Test.YtkblcfgamnmbkaaGreatEBRight8
set_option maxHeartbeats 4000000
set_option maxRecDepth 100000
set_option linter.unusedVariables false
namespace Go.Proofs.YtkblcfgamnmbkaaGreat
open Go.Calls renaming mono -> JA
open Go.World renaming block_lt_of_cell? -> JB
open Go.Region renaming binds -> JC
open Go renaming execOp -> JD
open Go.World renaming size_alloc -> JE
open List renaming set_cons_succ -> JF
open List renaming set_cons_zero -> JG
open List renaming setIfInBounds_toArray -> JH
open Go.Proofs.Tryz
open Go.Value renaming int -> J
open Go.IntKind renaming i64 -> Y
open Go.Value renaming pointer -> BO
open Go.Obj renaming cells -> BP
open Go.Value renaming slice -> BQ
open Go.Value renaming bool -> BT
open Go.RowKit renaming Hid -> BU
open Go renaming World -> BV
open Go.Ending renaming returned -> BZ
open Go renaming Value -> B7
open Go.RowKit renaming Below -> B9
open Go.Value renaming agg -> B_
open Go renaming Calls -> Cd
section
open Go.RowKit Fx Ref
theorem Jhw(b off:Nat)(f:Bool)(x y:V3)(W:BV)(hc:W.cell? ⟨b,off,none⟩=some (BT f))(hf:W.frozen? ⟨b,off,none⟩=false):
  Cd Tryz.prog 107 #[BO (some ⟨b,off,none⟩),x.val,y.val] W fun e W'=>e = BZ (Jt x y).val/\BU (After ⟨b,off,none⟩ (f||Jbh x y) W W'):=by
 refine JA (Jq0 b off f x.x x.y x.z y.x y.y y.z W hc hf) ?_;rintro e W' ⟨v0,v1,v2,g,rfl,SS,A⟩;obtain⟨rfl,rfl,rfl,rfl⟩:=Jf3 SS.out;exact⟨rfl,A⟩
theorem Joi(b off:Nat)(f:Bool)(x:V3)(n:Int)(W:BV)(hc:W.cell? ⟨b,off,none⟩=some (BT f))(hf:W.frozen? ⟨b,off,none⟩=false):
  Cd Tryz.prog 112 #[BO (some ⟨b,off,none⟩),x.val,J Y n] W fun e W'=>e = BZ (Jau x n).val/\BU (After ⟨b,off,none⟩ (f||Jcb x n) W W'):=by
 refine JA (Jl6 b off f x.x x.y x.z n W hc hf) ?_;rintro e W' ⟨v0,v1,v2,g,rfl,SS,A⟩;obtain⟨rfl,rfl,rfl,rfl⟩:=Jf3 SS.out;exact⟨rfl,A⟩
theorem Jvh(b off:Nat)(f:Bool)(x y:V3)(W:BV)(hc:W.cell? ⟨b,off,none⟩=some (BT f))(hf:W.frozen? ⟨b,off,none⟩=false):
  Cd Tryz.prog 108 #[BO (some ⟨b,off,none⟩),x.val,y.val] W fun e W'=>e = BZ (Ja3 x y).val/\BU (After ⟨b,off,none⟩ (f||Jkq x y) W W'):=by
 refine JA (Jm0 b off f x.x x.y x.z y.x y.y y.z W hc hf) ?_;rintro e W' ⟨v0,v1,v2,g,rfl,SS,A⟩;obtain⟨rfl,rfl,rfl,rfl⟩:=Jf3 SS.out;exact⟨rfl,A⟩
theorem Ju0(b off:Nat)(f:Bool)(m:Mt)(x:V3)(W:BV)(hc:W.cell? ⟨b,off,none⟩=some (BT f))(hf:W.frozen? ⟨b,off,none⟩=false):
  Cd Tryz.prog 104 #[BO (some ⟨b,off,none⟩),m.val,x.val] W fun e W'=>e = BZ (Ja0 m x).val/\BU (After ⟨b,off,none⟩ (f||Jdm m x) W W'):=by
 refine JA (Jhu b off f m.a.x m.a.y m.a.z m.b.x m.b.y m.b.z m.c.x m.c.y m.c.z x.x x.y x.z W hc hf) ?_;rintro e W' ⟨v0,v1,v2,g,rfl,SS,A⟩;obtain⟨rfl,rfl,rfl,rfl⟩:=Jf3 SS.out;exact⟨rfl,A⟩
theorem Ju7(b off:Nat)(f:Bool)(m:Mt)(x:V3)(W:BV)(hc:W.cell? ⟨b,off,none⟩=some (BT f))(hf:W.frozen? ⟨b,off,none⟩=false):
  Cd Tryz.prog 103 #[BO (some ⟨b,off,none⟩),m.val,x.val] W fun e W'=>e = BZ (Ja0 m.t x).val/\BU (After ⟨b,off,none⟩ (f||Jdm m.t x) W W'):=by
 refine JA (Jo0 b off f m.a.x m.a.y m.a.z m.b.x m.b.y m.b.z m.c.x m.c.y m.c.z x.x x.y x.z W hc hf) ?_;rintro e W' ⟨v0,v1,v2,g,rfl,SS,A⟩;obtain⟨rfl,rfl,rfl,rfl⟩:=Jf3 SS.out;exact⟨rfl,A⟩
theorem Jva(b off:Nat)(f:Bool)(q:V4)(W:BV)(hc:W.cell? ⟨b,off,none⟩=some (BT f))(hf:W.frozen? ⟨b,off,none⟩=false):
  Cd Tryz.prog 102 #[BO (some ⟨b,off,none⟩),q.val] W fun e W'=>e = BZ (Jo q).val/\BU (After ⟨b,off,none⟩ (f||Jho q) W W'):=Jn1 b off f q.w q.x q.y q.z W hc hf
theorem Jvi(b off:Nat)(f:Bool)(q:V4)(x:V3)(W:BV)(hc:W.cell? ⟨b,off,none⟩=some (BT f))(hf:W.frozen? ⟨b,off,none⟩=false):
  Cd Tryz.prog 113 #[BO (some ⟨b,off,none⟩),q.val,x.val] W fun e W'=>e = BZ (Ja4 q x).val/\BU (After ⟨b,off,none⟩ (f||Jgg q x) W W'):=by
 refine JA (Jnu b off f q.w q.x q.y q.z x.x x.y x.z W hc hf) ?_;rintro e W' ⟨v0,v1,v2,v3,g,rfl,SS,A⟩;obtain⟨rfl,rfl,rfl,rfl,rfl⟩:=SS.out;exact⟨rfl,A⟩
theorem Jrg(b off:Nat)(f:Bool)(x:V3)(W:BV)(hc:W.cell? ⟨b,off,none⟩=some (BT f))(hf:W.frozen? ⟨b,off,none⟩=false):
  Cd Tryz.prog 64 #[BO (some ⟨b,off,none⟩),x.val] W fun e W'=>e = BZ (J Y (Jgy x))/\BU (After ⟨b,off,none⟩ (f||Jug x) W W'):=by
 refine JA (Jq2 b off f x.x x.y x.z W hc hf) ?_;rintro e W' ⟨v0,g,rfl,SS,A⟩;obtain⟨rfl,rfl⟩:=SS.out;exact⟨rfl,A⟩
theorem Jhc(b off:Nat)(f:Bool)(x n:Int)(W:BV)(hc:W.cell? ⟨b,off,none⟩=some (BT f))(hf:W.frozen? ⟨b,off,none⟩=false):
  Cd Tryz.prog 97 #[BO (some ⟨b,off,none⟩),J Y x,J Y n] W fun e W'=>e = BZ (J Y (dv1 x n))/\BU (After ⟨b,off,none⟩ (f||Jb1 x n) W W'):=by
 refine JA (Jfe b off f x n W hc hf) ?_;rintro e W' ⟨v0,g,rfl,SS,A⟩;obtain⟨rfl,rfl⟩:=SS.out;exact⟨rfl,A⟩
theorem Juz(b off:Nat)(f:Bool)(x n:Int)(W:BV)(hc:W.cell? ⟨b,off,none⟩=some (BT f))(hf:W.frozen? ⟨b,off,none⟩=false):
  Cd Tryz.prog 66 #[BO (some ⟨b,off,none⟩),J Y x,J Y n] W fun e W'=>e = BZ (J Y (Jal x n))/\BU (After ⟨b,off,none⟩ (f||Jfc x n) W W'):=by
 refine JA (Jgn b off f x n W hc hf) ?_;rintro e W' ⟨v0,g,rfl,SS,A⟩;obtain⟨rfl,rfl⟩:=SS.out;exact⟨rfl,A⟩
end
section
open Go.RowKit Go.Shelf Fx
theorem Jh5(fb fo:Nat)(f:Bool)(b:Bd)(R0:List B7)(W:BV)(hc:W.cell? ⟨fb,fo,none⟩=some (BT f))(hf:W.frozen? ⟨fb,fo,none⟩=false):
  Cd Tryz.prog 38 #[BO (some ⟨fb,fo,none⟩),B_ (b.L R0).toArray] W fun e W'=>e = BZ (if2 b.k (Jap b)).val/\BU (After ⟨fb,fo,none⟩ (f||Jav b.k (Jcm b)) W W'):=by
 have aO:fb<W.heap.size:=JB _ _ hc;obtain⟨V,hV⟩:∃ V,V=((W.alloc (BP (b.L R0).toArray 39)).alloc (BP #[J Y 0,J Y 0,J Y 0] 27)):=⟨_,rfl⟩
 have aL:=Jb W (BP (b.L R0).toArray 39);have ac:=Jb (W.alloc (BP (b.L R0).toArray 39)) (BP #[J Y 0,J Y 0,J Y 0] 27);have Cb:CW V (W.heap.size) (b.L R0):=by
  have h9:=(CW.new W (b.L R0) 39).step ac;rw[hV];exact h9
 have Cs:CW V (W.heap.size+1) [J Y 0,J Y 0,J Y 0]:=by
  have h9:=CW.new (W.alloc (BP (b.L R0).toArray 39)) [J Y 0,J Y 0,J Y 0] 27;simp only[JE]at h9;rw[hV];exact h9
 have hB:B9 W.heap.size W V:=by rw[hV];exact(Jc aL ac)
 have aN:=Ja hB hc;have aT:=Jm hB hc hf;have aY:BU (Leaves ⟨fb,fo,none⟩ W V):=(Leaves.refl _ _).step hB;clear aL ac;clear hc hf hB;obtain⟨v9,eF⟩:∃ v,v=if2 b.k (Jap b):=⟨_,rfl⟩
 obtain⟨g9,dM⟩:∃ g,g=Jav b.k (Jcm b):=⟨_,rfl⟩
 rw[<- eF,<- dM];have HE:BU _:=And.intro eF dM;clear eF dM;go_enter func38,ntmps38;go_upto_region 1 with fail;rw[<- hV];clear hV;obtain⟨ps,dX⟩:∃ p,p=W.heap.size+1:=⟨_,rfl⟩
 obtain⟨pb,aF⟩:∃ p,p=W.heap.size:=⟨_,rfl⟩
 rw[<- dX]at Cs;rw[<- aF]at Cb;rw[<- dX,<- aF];have nb:pb≠fb:=by omega
 have ns:ps≠fb:=by omega
 have ns':fb≠ps:=by omega
 have cO:W.heap.size<=ps:=by omega
 clear aF dX;have k0:=(Cb 0 _ rfl).1;by_cases hk:b.k=2
 ·rw[hk]at k0;have eu:BU (v9=Jap b):=by have h9:=HE.out.1;rw[if2,if_pos hk]at h9;exact h9
  have dJ:BU (g9=(Jcm b)):=by have h9:=HE.out.2;rw[Jav,if_pos hk]at h9;exact h9
  clear HE;go_upto_region 3 with fail;refine Bq [.some (BO (some ⟨fb,fo,none⟩)),.some (BO (some ⟨pb,8,none⟩)),.some (BO (some ⟨pb,8,none⟩)),.some (J Y b.p.x),.some (BO (some ⟨pb,14,none⟩)),.some (BO (some ⟨pb,14,none⟩)),.some (J Y b.m),.some (J Y (dv1 b.p.x b.m)),.some (BO (some ⟨fb,fo,none⟩)),.some (BO (some ⟨pb,8,none⟩)),.some (BO (some ⟨pb,9,none⟩)),.some (J Y b.p.y),.some (BO (some ⟨pb,14,none⟩)),.some (BO (some ⟨pb,14,none⟩)),.some (J Y b.m),.some (J Y (dv1 b.p.y b.m)),.some (BO (some ⟨fb,fo,none⟩)),.some (BO (some ⟨pb,8,none⟩)),.some (BO (some ⟨pb,10,none⟩)),.some (J Y b.p.z),.some (BO (some ⟨pb,14,none⟩)),.some (BO (some ⟨pb,14,none⟩)),.some (J Y b.m),.some (J Y (dv1 b.p.z b.m)),.some (B_ #[J Y (dv1 b.p.x b.m),J Y (dv1 b.p.y b.m),J Y (dv1 b.p.z b.m)]),none] [10,11,12,13,14,15,16,17,18,19,20,21,22,23,24,25,26,27,28,29,30,31,32,33,34,0] [(0,BO (some ⟨fb,fo,none⟩)),(3,BO (some ⟨pb,0,none⟩)),(4,BO (some ⟨ps,0,none⟩))] (fun γ L w9=>FGS V ⟨fb,fo,none⟩ f [(7,Jb1 b.p.x b.m),(15,Jb1 b.p.y b.m),(23,Jb1 b.p.z b.m)] 25 (fun w=>(((w.setCell ⟨ps,0,none⟩ (J Y (dv1 b.p.x b.m))).setCell ⟨ps,1,none⟩ (J Y (dv1 b.p.y b.m))).setCell ⟨ps,2,none⟩ (J Y (dv1 b.p.z b.m)))) L w9) ⟨rfl,rfl,rfl,trivial⟩ ?_ ?_ ?_
  ·exact FGS.start aN aT
  ·intro D WA Z hD ah hZ T;simp only[RV.Outs,RV.Slots,Nat.reduceAdd]at T
   iterate 7 first
    |(refine Br _ (Bs T (fun γ v L w hl h=>h.stay (by decide) rfl) (fun γ L a w hH hl h9 k9=>⟨_,?_,rfl⟩)) ?_;· simp[JD,go_sem,h9])
    |(refine Br _ (Bs T (fun γ v L w hl h=>h.stay (by decide) rfl) (fun γ L a w hH hl h9 k9=>⟨_,?_,rfl⟩)) ?_;· simp[JC]at k9;simp[JD,go_sem,h9,k9])
    |(refine Br _ (Bs T (fun γ v L w hl h=>h.stay (by decide) rfl) (fun γ L a w hH hl h9 k9=>⟨_,?_,rfl⟩)) ?_;· have hG:=hH.glob.early (Bu hH (Bv (j:=25) ah (by kernel_rfl)) hl);have q0:=hG.at (Cb 8 _ rfl).1 nb;have q1:=hG.at (Cb 14 _ rfl).1 nb;simp[JC]at k9;simp[JD,go_sem,h9,k9,q0,q1])
   refine Br _ (Bw (fun γ L a w hH hl hA=>by have h9:=T γ L a w hH;have k9:=hA;simp[JC]at k9;have hG:=hH.glob.early (Bu hH (Bv (j:=25) (i:=7) ah (by kernel_rfl)) hl);exact⟨97,#[BO (some ⟨fb,fo,none⟩),J Y b.p.x,J Y b.m],by simp[go_sem,h9,k9],JA (Jhc fb fo _ b.p.x b.m w hG.cell hG.frozen) (by rintro e w2 ⟨rfl,ha⟩;exact⟨_,rfl,rfl,fun j v _ h=>h.keep _,FGS.come hG (by decide) (Bu hH (Bv (j:=25) (i:=7) ah (by kernel_rfl)) hl) hl rfl ha.out⟩)⟩)) ?_
   iterate 7 first
    |(refine Br _ (Bs T (fun γ v L w hl h=>h.stay (by decide) rfl) (fun γ L a w hH hl h9 k9=>⟨_,?_,rfl⟩)) ?_;· simp[JD,go_sem,h9])
    |(refine Br _ (Bs T (fun γ v L w hl h=>h.stay (by decide) rfl) (fun γ L a w hH hl h9 k9=>⟨_,?_,rfl⟩)) ?_;· simp[JC]at k9;simp[JD,go_sem,h9,k9])
    |(refine Br _ (Bs T (fun γ v L w hl h=>h.stay (by decide) rfl) (fun γ L a w hH hl h9 k9=>⟨_,?_,rfl⟩)) ?_;· have hG:=hH.glob.early (Bu hH (Bv (j:=25) ah (by kernel_rfl)) hl);have q0:=hG.at (Cb 9 _ rfl).1 nb;have q1:=hG.at (Cb 14 _ rfl).1 nb;simp[JC]at k9;simp[JD,go_sem,h9,k9,q0,q1])
   refine Br _ (Bw (fun γ L a w hH hl hA=>by have h9:=T γ L a w hH;have k9:=hA;simp[JC]at k9;have hG:=hH.glob.early (Bu hH (Bv (j:=25) (i:=15) ah (by kernel_rfl)) hl);exact⟨97,#[BO (some ⟨fb,fo,none⟩),J Y b.p.y,J Y b.m],by simp[go_sem,h9,k9],JA (Jhc fb fo _ b.p.y b.m w hG.cell hG.frozen) (by rintro e w2 ⟨rfl,ha⟩;exact⟨_,rfl,rfl,fun j v _ h=>h.keep _,FGS.come hG (by decide) (Bu hH (Bv (j:=25) (i:=15) ah (by kernel_rfl)) hl) hl rfl ha.out⟩)⟩)) ?_
   iterate 7 first
    |(refine Br _ (Bs T (fun γ v L w hl h=>h.stay (by decide) rfl) (fun γ L a w hH hl h9 k9=>⟨_,?_,rfl⟩)) ?_;· simp[JD,go_sem,h9])
    |(refine Br _ (Bs T (fun γ v L w hl h=>h.stay (by decide) rfl) (fun γ L a w hH hl h9 k9=>⟨_,?_,rfl⟩)) ?_;· simp[JC]at k9;simp[JD,go_sem,h9,k9])
    |(refine Br _ (Bs T (fun γ v L w hl h=>h.stay (by decide) rfl) (fun γ L a w hH hl h9 k9=>⟨_,?_,rfl⟩)) ?_;· have hG:=hH.glob.early (Bu hH (Bv (j:=25) ah (by kernel_rfl)) hl);have q0:=hG.at (Cb 10 _ rfl).1 nb;have q1:=hG.at (Cb 14 _ rfl).1 nb;simp[JC]at k9;simp[JD,go_sem,h9,k9,q0,q1])
   refine Br _ (Bw (fun γ L a w hH hl hA=>by have h9:=T γ L a w hH;have k9:=hA;simp[JC]at k9;have hG:=hH.glob.early (Bu hH (Bv (j:=25) (i:=23) ah (by kernel_rfl)) hl);exact⟨97,#[BO (some ⟨fb,fo,none⟩),J Y b.p.z,J Y b.m],by simp[go_sem,h9,k9],JA (Jhc fb fo _ b.p.z b.m w hG.cell hG.frozen) (by rintro e w2 ⟨rfl,ha⟩;exact⟨_,rfl,rfl,fun j v _ h=>h.keep _,FGS.come hG (by decide) (Bu hH (Bv (j:=25) (i:=23) ah (by kernel_rfl)) hl) hl rfl ha.out⟩)⟩)) ?_
   (refine Br _ (Bs T (fun γ v L w hl h=>h.stay (by decide) rfl) (fun γ L a w hH hl h9 k9=>⟨_,?_,rfl⟩)) ?_;· simp[JC]at k9;simp[JD,go_sem,h9,k9])
   refine Br _ (Bz (fun γ L a w hH hl hA=>by have h9:=T γ L a w hH;have k9:=hA;simp[JC]at k9;have hG:=hH.glob.early hl;have z0:=hG.at (Cs 0 _ rfl).1 ns;have cX:=hG.open (Cs 0 _ rfl).1 (Cs 0 _ rfl).2 ns;have z1:=hG.at (Cs 1 _ rfl).1 ns;have cY:=hG.open (Cs 1 _ rfl).1 (Cs 1 _ rfl).2 ns;have z2:=hG.at (Cs 2 _ rfl).1 ns;have cZ:=hG.open (Cs 2 _ rfl).1 (Cs 2 _ rfl).2 ns;exact⟨(((w.setCell ⟨ps,0,none⟩ (J Y (dv1 b.p.x b.m))).setCell ⟨ps,1,none⟩ (J Y (dv1 b.p.y b.m))).setCell ⟨ps,2,none⟩ (J Y (dv1 b.p.z b.m))),by simp[JD,go_sem,z0,cX,z1,cY,z2,cZ,h9,k9],trivial,fun j v _ h=>h.keep _,FGS.store (S:=fun w=>(((w.setCell ⟨ps,0,none⟩ (J Y (dv1 b.p.x b.m))).setCell ⟨ps,1,none⟩ (J Y (dv1 b.p.y b.m))).setCell ⟨ps,2,none⟩ (J Y (dv1 b.p.z b.m)))) hG rfl⟩)) ?_;exact RV.AllDo.nil
  ·intro γ w5 L9 hL aX aD;obtain⟨w8,bi,rfl⟩:=aD.late (hL 25 (by decide));have cE:orL f [(7,Jb1 b.p.x b.m),(15,Jb1 b.p.y b.m),(23,Jb1 b.p.z b.m)] L9=(f ||(Jb1 b.p.x b.m||Jb1 b.p.y b.m||Jb1 b.p.z b.m)):=by unfold orL;simp only[List.any_cons,List.any_nil,hL 7 (by decide),hL 15 (by decide),hL 23 (by decide),Bool.true_and,Bool.or_false,Bool.or_assoc]
   have a_:BU (After _ _ _ _):=bi.leaves.done bi.cell bi.frozen;rw[cE]at a_;clear bi cE;clear hL aX aD;simp only[RV.putL,Act.put,JH,JG,JF];obtain⟨r0,q0⟩:=(Cs.after a_.out ns) 0 _ rfl;obtain⟨r1,q1⟩:=(Cs.after a_.out ns) 1 _ rfl;obtain⟨r2,q2⟩:=(Cs.after a_.out ns) 2 _ rfl;have HL:BU (Leaves ⟨fb,fo,none⟩ W _):=aY.out.same a_.out;have eY:=a_.out.cell;have e_:=a_.out.frozen;clear a_;go_wp2_with (fail);refine bodyPost_ret (by simp[results,results38,go_sem,r0,r1,r2];try rfl) rfl ?_;refine⟨by have h9:=eu.out;subst h9;rfl,(((HL.out.set cO _).set cO _).set cO _).done ?_ ?_⟩
   ·rw[dJ.out];simp[go_sem,eY,Jcm,Jhp]
   ·simp[go_sem,e_]
 ·have mK:(b.k == 2)=false:=by simpa using hk
  have eu:BU (v9=⟨0,0,0⟩):=by have h9:=HE.out.1;rw[if2,if_neg hk]at h9;exact h9
  have dJ:BU (g9=false):=by have h9:=HE.out.2;rw[Jav,if_neg hk]at h9;exact h9
  clear HE;obtain⟨r0,q0⟩:=Cs 0 _ rfl;obtain⟨r1,q1⟩:=Cs 1 _ rfl;obtain⟨r2,q2⟩:=Cs 2 _ rfl;clear Cb Cs;go_wp2_with (fail);refine bodyPost_ret (by simp[results,results38,go_sem,r0,r1,r2];try rfl) rfl ?_;refine⟨by have h9:=eu.out;subst h9;rfl,(((aY.out.set cO _).set cO _).set cO _).done ?_ ?_⟩
  ·rw[dJ.out,Bool.or_false];simp[go_sem,aN]
  ·simp[go_sem,aT]
theorem Jiz(fb fo:Nat)(f:Bool)(b:Bd)(R0:List B7)(l:V3)(W:BV)(hc:W.cell? ⟨fb,fo,none⟩=some (BT f))(hf:W.frozen? ⟨fb,fo,none⟩=false):
  Cd Tryz.prog 42 #[BO (some ⟨fb,fo,none⟩),B_ (b.L R0).toArray,l.val] W fun e W'=>e = BZ (if2 b.k (Jag b l)).val/\BU (After ⟨fb,fo,none⟩ (f||Jav b.k (Jcg b l)) W W'):=by
 have aO:fb<W.heap.size:=JB _ _ hc;obtain⟨V,hV⟩:∃ V,V=(((W.alloc (BP (b.L R0).toArray 39)).alloc (BP #[J Y l.x,J Y l.y,J Y l.z] 27)).alloc (BP #[J Y 0,J Y 0,J Y 0] 27)):=⟨_,rfl⟩
 have aL:=Jb W (BP (b.L R0).toArray 39);have ac:=Jb (W.alloc (BP (b.L R0).toArray 39)) (BP #[J Y l.x,J Y l.y,J Y l.z] 27);have aj:=Jb ((W.alloc (BP (b.L R0).toArray 39)).alloc (BP #[J Y l.x,J Y l.y,J Y l.z] 27)) (BP #[J Y 0,J Y 0,J Y 0] 27);have Cb:CW V (W.heap.size) (b.L R0):=by
  have h9:=((CW.new W (b.L R0) 39).step ac).step aj;rw[hV];exact h9
 have Cl:CW V (W.heap.size+1) [J Y l.x,J Y l.y,J Y l.z]:=by
  have h9:=(CW.new (W.alloc (BP (b.L R0).toArray 39)) [J Y l.x,J Y l.y,J Y l.z] 27).step aj;simp only[JE]at h9;rw[hV];exact h9
 have Cs:CW V (W.heap.size+1+1) [J Y 0,J Y 0,J Y 0]:=by
  have h9:=CW.new ((W.alloc (BP (b.L R0).toArray 39)).alloc (BP #[J Y l.x,J Y l.y,J Y l.z] 27)) [J Y 0,J Y 0,J Y 0] 27;simp only[JE]at h9;rw[hV];exact h9
 have hB:B9 W.heap.size W V:=by rw[hV];exact(Jc (Jc aL ac) aj)
 have aN:=Ja hB hc;have aT:=Jm hB hc hf;have aY:BU (Leaves ⟨fb,fo,none⟩ W V):=(Leaves.refl _ _).step hB;clear aL ac aj;clear hc hf hB;obtain⟨v9,eF⟩:∃ v,v=if2 b.k (Jag b l):=⟨_,rfl⟩
 obtain⟨g9,dM⟩:∃ g,g=Jav b.k (Jcg b l):=⟨_,rfl⟩
 rw[<- eF,<- dM];have HE:BU _:=And.intro eF dM;clear eF dM;go_enter func42,ntmps42;go_upto_region 1 with fail;rw[<- hV];clear hV;obtain⟨ps,dX⟩:∃ p,p=W.heap.size+1+1:=⟨_,rfl⟩
 obtain⟨pl,fd⟩:∃ p,p=W.heap.size+1:=⟨_,rfl⟩
 obtain⟨pb,aF⟩:∃ p,p=W.heap.size:=⟨_,rfl⟩
 rw[<- dX]at Cs;rw[<- fd]at Cl;rw[<- aF]at Cb;rw[<- dX,<- fd,<- aF];have nb:pb≠fb:=by omega
 have nl:pl≠fb:=by omega
 have ns:ps≠fb:=by omega
 have ns':fb≠ps:=by omega
 have cO:W.heap.size<=ps:=by omega
 clear aF fd dX;have k0:=(Cb 0 _ rfl).1;by_cases hk:b.k=2
 ·rw[hk]at k0;have eu:BU (v9=Jag b l):=by have h9:=HE.out.1;rw[if2,if_pos hk]at h9;exact h9
  have dJ:BU (g9=(Jcg b l)):=by have h9:=HE.out.2;rw[Jav,if_pos hk]at h9;exact h9
  clear HE;have k4:=(Cb 4 _ rfl).1;have k5:=(Cb 5 _ rfl).1;have k6:=(Cb 6 _ rfl).1;have k7:=(Cb 7 _ rfl).1;have bo:BU _:=Jva fb fo f b.q V aN aT;clear aN aT;go_wp2_with (fail);refine JA bo.out ?_;rintro e W1 ⟨rfl,A⟩;have dF:BU (Leaves ⟨fb,fo,none⟩ W W1):=aY.out.same A.out;have Cb:=Cb.after A.out nb;have Cl:=Cl.after A.out nl;have Cs:=Cs.after A.out ns;have bU:=A.out.cell;have eK:=A.out.frozen;clear bo A k0 k4 k5 k6 k7 aY;go_upto_region 4 with fail;obtain⟨V1,dI⟩:∃ X,X=W1.alloc (BP #[J Y (Jo b.q).a.x,J Y (Jo b.q).a.y,J Y (Jo b.q).a.z,J Y (Jo b.q).b.x,J Y (Jo b.q).b.y,J Y (Jo b.q).b.z,J Y (Jo b.q).c.x,J Y (Jo b.q).c.y,J Y (Jo b.q).c.z] 105):=⟨_,rfl⟩
  have hb:=Jb W1 (BP #[J Y (Jo b.q).a.x,J Y (Jo b.q).a.y,J Y (Jo b.q).a.z,J Y (Jo b.q).b.x,J Y (Jo b.q).b.y,J Y (Jo b.q).b.z,J Y (Jo b.q).c.x,J Y (Jo b.q).c.y,J Y (Jo b.q).c.z] 105);have Cm:=CW.new W1 [J Y (Jo b.q).a.x,J Y (Jo b.q).a.y,J Y (Jo b.q).a.z,J Y (Jo b.q).b.x,J Y (Jo b.q).b.y,J Y (Jo b.q).b.z,J Y (Jo b.q).c.x,J Y (Jo b.q).c.y,J Y (Jo b.q).c.z] 105;rw[<- dI]at hb Cm ⊢;obtain⟨pm,cS⟩:∃ p,p=W1.heap.size:=⟨_,rfl⟩
  rw[<- cS]at Cm ⊢;have nm:pm≠fb:=by have:=dF.out.size;omega
  have Cb:=Cb.step hb;have Cl:=Cl.step hb;have Cs:=Cs.step hb;have eK:=Jm hb bU eK;have bU:=Ja hb bU;have dF:BU (Leaves ⟨fb,fo,none⟩ W V1):=dF.out.step (hb.mono dF.out.size);clear dI hb cS;have l0:=(Cl 0 _ rfl).1;have l1:=(Cl 1 _ rfl).1;have l2:=(Cl 2 _ rfl).1;have m0:=(Cm 0 _ rfl).1;have m1:=(Cm 1 _ rfl).1;have m2:=(Cm 2 _ rfl).1;have m3:=(Cm 3 _ rfl).1;have m4:=(Cm 4 _ rfl).1;have m5:=(Cm 5 _ rfl).1;have m6:=(Cm 6 _ rfl).1;have m7:=(Cm 7 _ rfl).1;have m8:=(Cm 8 _ rfl).1;have cC:BU _:=Ju7 fb fo (f||Jho b.q) (Jo b.q) l V1 bU eK;go_wp2_with (fail);refine JA cC.out ?_;rintro e W2 ⟨rfl,A⟩;have bL:BU (Leaves ⟨fb,fo,none⟩ W W2):=dF.out.same A.out;have Cb:=Cb.after A.out nb;have Cm:=Cm.after A.out nm;have Cs:=Cs.after A.out ns;have bF:=A.out.cell;have b_:=A.out.frozen;clear cC A l0 l1 l2 m0 m1 m2 m3 m4 m5 m6 m7 m8 dF bU eK Cl;have kf:=(Cb 15 _ rfl).1;have kg:=(Cb 16 _ rfl).1;have kh:=(Cb 17 _ rfl).1;go_upto_region 5 with fail;obtain⟨V2,tn⟩:∃ X,X=W2.alloc (BP #[J Y (Ja0 (Jo b.q).t l).x,J Y (Ja0 (Jo b.q).t l).y,J Y (Ja0 (Jo b.q).t l).z] 27):=⟨_,rfl⟩
  have hb:=Jb W2 (BP #[J Y (Ja0 (Jo b.q).t l).x,J Y (Ja0 (Jo b.q).t l).y,J Y (Ja0 (Jo b.q).t l).z] 27);have Cv:=CW.new W2 [J Y (Ja0 (Jo b.q).t l).x,J Y (Ja0 (Jo b.q).t l).y,J Y (Ja0 (Jo b.q).t l).z] 27;rw[<- tn]at hb Cv ⊢;obtain⟨pv,ld⟩:∃ p,p=W2.heap.size:=⟨_,rfl⟩
  rw[<- ld]at Cv ⊢;have nv:pv≠fb:=by have:=bL.out.size;omega
  have Cm:=Cm.step hb;have Cs:=Cs.step hb;have kf:=Ja hb kf;have kg:=Ja hb kg;have kh:=Ja hb kh;have b_:=Jm hb bF b_;have bF:=Ja hb bF;have bL:BU (Leaves ⟨fb,fo,none⟩ W V2):=bL.out.step (hb.mono bL.out.size);clear tn hb ld Cb;go_upto_region 6 with fail;obtain⟨V3,o7⟩:∃ X,X=V2.alloc (BP #[J Y b.i.x,J Y b.i.y,J Y b.i.z] 27):=⟨_,rfl⟩
  have hb:=Jb V2 (BP #[J Y b.i.x,J Y b.i.y,J Y b.i.z] 27);have Ci:=CW.new V2 [J Y b.i.x,J Y b.i.y,J Y b.i.z] 27;rw[<- o7]at hb Ci ⊢;obtain⟨pi,r_⟩:∃ p,p=V2.heap.size:=⟨_,rfl⟩
  rw[<- r_]at Ci ⊢;have ni:pi≠fb:=by have:=bL.out.size;omega
  have Cm:=Cm.step hb;have Cs:=Cs.step hb;have Cv:=Cv.step hb;have cP:=Jm hb bF b_;have bV:=Ja hb bF;have cG:BU (Leaves ⟨fb,fo,none⟩ W V3):=bL.out.step (hb.mono bL.out.size);clear o7 hb r_ kf kg kh bL bF b_;refine Bq [.some (BO (some ⟨fb,fo,none⟩)),.some (B_ #[J Y ((Jo b.q).a.x),J Y ((Jo b.q).a.y),J Y ((Jo b.q).a.z),J Y ((Jo b.q).b.x),J Y ((Jo b.q).b.y),J Y ((Jo b.q).b.z),J Y ((Jo b.q).c.x),J Y ((Jo b.q).c.y),J Y ((Jo b.q).c.z)]),.some (BO (some ⟨fb,fo,none⟩)),.some (BO (some ⟨pv,0,none⟩)),.some (J Y ((Ja0 (Jo b.q).t l).x)),.some (BO (some ⟨pi,0,none⟩)),.some (J Y b.i.x),.some (J Y (dv1 (Ja0 (Jo b.q).t l).x b.i.x)),.some (BO (some ⟨fb,fo,none⟩)),.some (BO (some ⟨pv,1,none⟩)),.some (J Y ((Ja0 (Jo b.q).t l).y)),.some (BO (some ⟨pi,1,none⟩)),.some (J Y b.i.y),.some (J Y (dv1 (Ja0 (Jo b.q).t l).y b.i.y)),.some (BO (some ⟨fb,fo,none⟩)),.some (BO (some ⟨pv,2,none⟩)),.some (J Y ((Ja0 (Jo b.q).t l).z)),.some (BO (some ⟨pi,2,none⟩)),.some (J Y b.i.z),.some (J Y (dv1 (Ja0 (Jo b.q).t l).z b.i.z)),.some (B_ #[J Y (dv1 (Ja0 (Jo b.q).t l).x b.i.x),J Y (dv1 (Ja0 (Jo b.q).t l).y b.i.y),J Y (dv1 (Ja0 (Jo b.q).t l).z b.i.z)]),.some (B_ #[J Y ((Jag b l).x),J Y ((Jag b l).y),J Y ((Jag b l).z)]),none] [27,28,29,30,31,32,33,34,35,36,37,38,39,40,41,42,43,44,45,46,47,48,0] [(0,BO (some ⟨fb,fo,none⟩)),(6,BO (some ⟨ps,0,none⟩)),(7,BO (some ⟨pm,0,none⟩)),(8,BO (some ⟨pv,0,none⟩)),(9,BO (some ⟨pi,0,none⟩))] (fun γ L w9=>FGS V3 ⟨fb,fo,none⟩ (f||Jho b.q||Jdm (Jo b.q).t l) [(7,Jb1 (Ja0 (Jo b.q).t l).x b.i.x),(13,Jb1 (Ja0 (Jo b.q).t l).y b.i.y),(19,Jb1 (Ja0 (Jo b.q).t l).z b.i.z),(21,Jdm (Jo b.q) (Jeh b l))] 22 (fun w=>(((w.setCell ⟨ps,0,none⟩ (J Y ((Jag b l).x))).setCell ⟨ps,1,none⟩ (J Y ((Jag b l).y))).setCell ⟨ps,2,none⟩ (J Y ((Jag b l).z)))) L w9) ⟨rfl,rfl,rfl,rfl,rfl,trivial⟩ ?_ ?_ ?_
  ·exact FGS.start bV cP
  ·intro D WA Z hD ah hZ T;simp only[RV.Outs,RV.Slots,Nat.reduceAdd]at T
   iterate 7 first
    |(refine Br _ (Bs T (fun γ v L w hl h=>h.stay (by decide) rfl) (fun γ L a w hH hl h9 k9=>⟨_,?_,rfl⟩)) ?_;· simp[JD,go_sem,h9])
    |(refine Br _ (Bs T (fun γ v L w hl h=>h.stay (by decide) rfl) (fun γ L a w hH hl h9 k9=>⟨_,?_,rfl⟩)) ?_;· have hG:=hH.glob.early (Bu hH (Bv (j:=22) ah (by kernel_rfl)) hl);have q0:=hG.at (Cv 0 _ rfl).1 nv;have q1:=hG.at (Ci 0 _ rfl).1 ni;simp[JC]at k9;simp[JD,go_sem,h9,k9,q0,q1])
    |(refine Br _ (Bs T (fun γ v L w hl h=>h.stay (by decide) rfl) (fun γ L a w hH hl h9 k9=>⟨_,?_,rfl⟩)) ?_;· have hG:=hH.glob.early (Bu hH (Bv (j:=22) ah (by kernel_rfl)) hl);have q0:=hG.at (Cm 0 _ rfl).1 nm;have q1:=hG.at (Cm 1 _ rfl).1 nm;have q2:=hG.at (Cm 2 _ rfl).1 nm;have q3:=hG.at (Cm 3 _ rfl).1 nm;have q4:=hG.at (Cm 4 _ rfl).1 nm;have q5:=hG.at (Cm 5 _ rfl).1 nm;have q6:=hG.at (Cm 6 _ rfl).1 nm;have q7:=hG.at (Cm 7 _ rfl).1 nm;have q8:=hG.at (Cm 8 _ rfl).1 nm;simp[JD,go_sem,h9,q0,q1,q2,q3,q4,q5,q6,q7,q8])
   refine Br _ (Bw (fun γ L a w hH hl hA=>by have h9:=T γ L a w hH;have k9:=hA;simp[JC]at k9;have hG:=hH.glob.early (Bu hH (Bv (j:=22) (i:=7) ah (by kernel_rfl)) hl);exact⟨97,#[BO (some ⟨fb,fo,none⟩),J Y ((Ja0 (Jo b.q).t l).x),J Y b.i.x],by simp[go_sem,h9,k9],JA (Jhc fb fo _ (Ja0 (Jo b.q).t l).x b.i.x w hG.cell hG.frozen) (by rintro e w2 ⟨rfl,ha⟩;exact⟨_,rfl,rfl,fun j v _ h=>h.keep _,FGS.come hG (by decide) (Bu hH (Bv (j:=22) (i:=7) ah (by kernel_rfl)) hl) hl rfl ha.out⟩)⟩)) ?_
   iterate 5 first
    |(refine Br _ (Bs T (fun γ v L w hl h=>h.stay (by decide) rfl) (fun γ L a w hH hl h9 k9=>⟨_,?_,rfl⟩)) ?_;· simp[JD,go_sem,h9])
    |(refine Br _ (Bs T (fun γ v L w hl h=>h.stay (by decide) rfl) (fun γ L a w hH hl h9 k9=>⟨_,?_,rfl⟩)) ?_;· have hG:=hH.glob.early (Bu hH (Bv (j:=22) ah (by kernel_rfl)) hl);have q0:=hG.at (Cv 1 _ rfl).1 nv;have q1:=hG.at (Ci 1 _ rfl).1 ni;simp[JC]at k9;simp[JD,go_sem,h9,k9,q0,q1])
   refine Br _ (Bw (fun γ L a w hH hl hA=>by have h9:=T γ L a w hH;have k9:=hA;simp[JC]at k9;have hG:=hH.glob.early (Bu hH (Bv (j:=22) (i:=13) ah (by kernel_rfl)) hl);exact⟨97,#[BO (some ⟨fb,fo,none⟩),J Y ((Ja0 (Jo b.q).t l).y),J Y b.i.y],by simp[go_sem,h9,k9],JA (Jhc fb fo _ (Ja0 (Jo b.q).t l).y b.i.y w hG.cell hG.frozen) (by rintro e w2 ⟨rfl,ha⟩;exact⟨_,rfl,rfl,fun j v _ h=>h.keep _,FGS.come hG (by decide) (Bu hH (Bv (j:=22) (i:=13) ah (by kernel_rfl)) hl) hl rfl ha.out⟩)⟩)) ?_
   iterate 5 first
    |(refine Br _ (Bs T (fun γ v L w hl h=>h.stay (by decide) rfl) (fun γ L a w hH hl h9 k9=>⟨_,?_,rfl⟩)) ?_;· simp[JD,go_sem,h9])
    |(refine Br _ (Bs T (fun γ v L w hl h=>h.stay (by decide) rfl) (fun γ L a w hH hl h9 k9=>⟨_,?_,rfl⟩)) ?_;· have hG:=hH.glob.early (Bu hH (Bv (j:=22) ah (by kernel_rfl)) hl);have q0:=hG.at (Cv 2 _ rfl).1 nv;have q1:=hG.at (Ci 2 _ rfl).1 ni;simp[JC]at k9;simp[JD,go_sem,h9,k9,q0,q1])
   refine Br _ (Bw (fun γ L a w hH hl hA=>by have h9:=T γ L a w hH;have k9:=hA;simp[JC]at k9;have hG:=hH.glob.early (Bu hH (Bv (j:=22) (i:=19) ah (by kernel_rfl)) hl);exact⟨97,#[BO (some ⟨fb,fo,none⟩),J Y ((Ja0 (Jo b.q).t l).z),J Y b.i.z],by simp[go_sem,h9,k9],JA (Jhc fb fo _ (Ja0 (Jo b.q).t l).z b.i.z w hG.cell hG.frozen) (by rintro e w2 ⟨rfl,ha⟩;exact⟨_,rfl,rfl,fun j v _ h=>h.keep _,FGS.come hG (by decide) (Bu hH (Bv (j:=22) (i:=19) ah (by kernel_rfl)) hl) hl rfl ha.out⟩)⟩)) ?_
   (refine Br _ (Bs T (fun γ v L w hl h=>h.stay (by decide) rfl) (fun γ L a w hH hl h9 k9=>⟨_,?_,rfl⟩)) ?_;· simp[JC]at k9;simp[JD,go_sem,h9,k9])
   refine Br _ (Bw (fun γ L a w hH hl hA=>by have h9:=T γ L a w hH;have k9:=hA;simp[JC]at k9;have hG:=hH.glob.early (Bu hH (Bv (j:=22) (i:=21) ah (by kernel_rfl)) hl);exact⟨104,#[BO (some ⟨fb,fo,none⟩),B_ #[J Y ((Jo b.q).a.x),J Y ((Jo b.q).a.y),J Y ((Jo b.q).a.z),J Y ((Jo b.q).b.x),J Y ((Jo b.q).b.y),J Y ((Jo b.q).b.z),J Y ((Jo b.q).c.x),J Y ((Jo b.q).c.y),J Y ((Jo b.q).c.z)],B_ #[J Y (dv1 (Ja0 (Jo b.q).t l).x b.i.x),J Y (dv1 (Ja0 (Jo b.q).t l).y b.i.y),J Y (dv1 (Ja0 (Jo b.q).t l).z b.i.z)]],by simp[go_sem,h9,k9],JA (Ju0 fb fo _ (Jo b.q) (Jeh b l) w hG.cell hG.frozen) (by rintro e w2 ⟨rfl,ha⟩;exact⟨_,rfl,rfl,fun j v _ h=>h.keep _,FGS.come hG (by decide) (Bu hH (Bv (j:=22) (i:=21) ah (by kernel_rfl)) hl) hl rfl ha.out⟩)⟩)) ?_;refine Br _ (Bz (fun γ L a w hH hl hA=>by have h9:=T γ L a w hH;have k9:=hA;simp[JC]at k9;have hG:=hH.glob.early hl;have z0:=hG.at (Cs 0 _ rfl).1 ns;have cX:=hG.open (Cs 0 _ rfl).1 (Cs 0 _ rfl).2 ns;have z1:=hG.at (Cs 1 _ rfl).1 ns;have cY:=hG.open (Cs 1 _ rfl).1 (Cs 1 _ rfl).2 ns;have z2:=hG.at (Cs 2 _ rfl).1 ns;have cZ:=hG.open (Cs 2 _ rfl).1 (Cs 2 _ rfl).2 ns;exact⟨(((w.setCell ⟨ps,0,none⟩ (J Y ((Jag b l).x))).setCell ⟨ps,1,none⟩ (J Y ((Jag b l).y))).setCell ⟨ps,2,none⟩ (J Y ((Jag b l).z))),by simp[JD,go_sem,z0,cX,z1,cY,z2,cZ,h9,k9],trivial,fun j v _ h=>h.keep _,FGS.store (S:=fun w=>(((w.setCell ⟨ps,0,none⟩ (J Y ((Jag b l).x))).setCell ⟨ps,1,none⟩ (J Y ((Jag b l).y))).setCell ⟨ps,2,none⟩ (J Y ((Jag b l).z)))) hG rfl⟩)) ?_;exact RV.AllDo.nil
  ·intro γ w5 L9 hL aX aD;obtain⟨w8,bi,rfl⟩:=aD.late (hL 22 (by decide));have cE:orL (f||Jho b.q||Jdm (Jo b.q).t l) [(7,Jb1 (Ja0 (Jo b.q).t l).x b.i.x),(13,Jb1 (Ja0 (Jo b.q).t l).y b.i.y),(19,Jb1 (Ja0 (Jo b.q).t l).z b.i.z),(21,Jdm (Jo b.q) (Jeh b l))] L9=((f||Jho b.q||Jdm (Jo b.q).t l) ||(Jb1 (Ja0 (Jo b.q).t l).x b.i.x||Jb1 (Ja0 (Jo b.q).t l).y b.i.y||Jb1 (Ja0 (Jo b.q).t l).z b.i.z||Jdm (Jo b.q) (Jeh b l))):=by unfold orL;simp only[List.any_cons,List.any_nil,hL 7 (by decide),hL 13 (by decide),hL 19 (by decide),hL 21 (by decide),Bool.true_and,Bool.or_false,Bool.or_assoc]
   have a_:BU (After _ _ _ _):=bi.leaves.done bi.cell bi.frozen;rw[cE]at a_;clear bi cE;clear hL aX aD;simp only[RV.putL,Act.put,JH,JG,JF];obtain⟨r0,q0⟩:=(Cs.after a_.out ns) 0 _ rfl;obtain⟨r1,q1⟩:=(Cs.after a_.out ns) 1 _ rfl;obtain⟨r2,q2⟩:=(Cs.after a_.out ns) 2 _ rfl;have HL:BU (Leaves ⟨fb,fo,none⟩ W _):=cG.out.same a_.out;have eY:=a_.out.cell;have e_:=a_.out.frozen;clear a_;go_wp2_with (fail);refine bodyPost_ret (by simp[results,results42,go_sem,r0,r1,r2];try rfl) rfl ?_;refine⟨by have h9:=eu.out;subst h9;rfl,(((HL.out.set cO _).set cO _).set cO _).done ?_ ?_⟩
   ·rw[dJ.out];simp only[World.cell?_setCell_other _ _ _ _ (fun e=>ns (Addr.mk.inj e).1),eY];unfold Jcg Jhp Jeh;simp only[Bool.or_assoc]
   ·simp[go_sem,e_]
 ·have mK:(b.k == 2)=false:=by simpa using hk
  have eu:BU (v9=⟨0,0,0⟩):=by have h9:=HE.out.1;rw[if2,if_neg hk]at h9;exact h9
  have dJ:BU (g9=false):=by have h9:=HE.out.2;rw[Jav,if_neg hk]at h9;exact h9
  clear HE;obtain⟨r0,q0⟩:=Cs 0 _ rfl;obtain⟨r1,q1⟩:=Cs 1 _ rfl;obtain⟨r2,q2⟩:=Cs 2 _ rfl;clear Cb Cs;go_wp2_with (fail);refine bodyPost_ret (by simp[results,results42,go_sem,r0,r1,r2];try rfl) rfl ?_;refine⟨by have h9:=eu.out;subst h9;rfl,(((aY.out.set cO _).set cO _).set cO _).done ?_ ?_⟩
  ·rw[dJ.out,Bool.or_false];simp[go_sem,aN]
  ·simp[go_sem,aT]
theorem Jj5(fb fo:Nat)(f:Bool)(b:Bd)(R0:List B7)(hR:Rest R0)(W:BV)(hc:W.cell? ⟨fb,fo,none⟩=some (BT f))(hf:W.frozen? ⟨fb,fo,none⟩=false):
  Cd Tryz.prog 40 #[BO (some ⟨fb,fo,none⟩),B_ (b.L R0).toArray] W fun e W'=>e = BZ (if2 b.k (Jag b b.l)).val/\BU (After ⟨fb,fo,none⟩ (f||Jav b.k (Jcg b b.l)) W W'):=by
 have aO:fb<W.heap.size:=JB _ _ hc;have hz:BU _:=Jj hR b;obtain⟨V,hV⟩:∃ V,V=((W.alloc (BP (b.L R0).toArray 39)).alloc (BP #[J Y 0,J Y 0,J Y 0] 27)):=⟨_,rfl⟩
 have aL:=Jb W (BP (b.L R0).toArray 39);have ac:=Jb (W.alloc (BP (b.L R0).toArray 39)) (BP #[J Y 0,J Y 0,J Y 0] 27);have Cb:CW V (W.heap.size) (b.L R0):=by
  have h9:=(CW.new W (b.L R0) 39).step ac;rw[hV];exact h9
 have Cs:CW V (W.heap.size+1) [J Y 0,J Y 0,J Y 0]:=by
  have h9:=CW.new (W.alloc (BP (b.L R0).toArray 39)) [J Y 0,J Y 0,J Y 0] 27;simp only[JE]at h9;rw[hV];exact h9
 have hB:B9 W.heap.size W V:=by rw[hV];exact(Jc aL ac)
 have aN:=Ja hB hc;have aT:=Jm hB hc hf;have aY:BU (Leaves ⟨fb,fo,none⟩ W V):=(Leaves.refl _ _).step hB;clear aL ac;clear hc hf hB;go_enter func40,ntmps40;go_upto_region 1 with fail;rw[<- hV];clear hV;obtain⟨ps,dX⟩:∃ p,p=W.heap.size+1:=⟨_,rfl⟩
 obtain⟨pb,aF⟩:∃ p,p=W.heap.size:=⟨_,rfl⟩
 rw[<- dX]at Cs;rw[<- aF]at Cb;rw[<- dX,<- aF];have ns:ps≠fb:=by omega
 have cO:W.heap.size<=ps:=by omega
 have au:BU (World.rangeAt V pb 0 (b.L R0)):=Cb.range;have kb:=(Cb 11 _ rfl).1;have kc:=(Cb 12 _ rfl).1;have kd:=(Cb 13 _ rfl).1;have HC:BU _:=Jiz fb fo f b R0 b.l V aN aT;clear Cb aF dX;go_wp2_with (refine wpList_load_mid rfl 39 _ rfl pb 0 rfl _ _ au.out underlying39 rfl hz.out ?_);refine JA HC.out ?_;rintro e W1 ⟨rfl,A⟩;have HL:BU (Leaves ⟨fb,fo,none⟩ W W1):=aY.out.same A.out;have Cs:=Cs.after A.out ns;obtain⟨r0,q0⟩:=Cs 0 _ rfl;obtain⟨r1,q1⟩:=Cs 1 _ rfl;obtain⟨r2,q2⟩:=Cs 2 _ rfl;have eY:=A.out.cell;have e_:=A.out.frozen;have n3':fb≠ps:=fun e=>ns e.symm;clear HC A au aN aT aY Cs kb kc kd;go_wp2_with (fail);refine bodyPost_ret (by simp[results,results40,go_sem,r0,r1,r2];try rfl) rfl ?_;refine⟨rfl,(((HL.out.set cO _).set cO _).set cO _).done ?_ ?_⟩
 ·simp[go_sem,eY]
 ·simp[go_sem,e_]
theorem Jof(fb fo:Nat)(f:Bool)(b:Bd)(R0:List B7)(jm:V3)(dZ:Rest R0)(W:BV)(hc:W.cell? ⟨fb,fo,none⟩=some (BT f))(hf:W.frozen? ⟨fb,fo,none⟩=false):
  Cd Tryz.prog 46 #[BO (some ⟨fb,fo,none⟩),B_ (b.L R0).toArray,jm.val] W fun e W'=>e = BZ (B_ ((ifB b (Jcl b jm)).L R0).toArray)/\BU (After ⟨fb,fo,none⟩ (f||Jav b.k (Jbh b.l jm)) W W'):=by
 have aO:fb<W.heap.size:=JB _ _ hc;have hR:BU (Rest _):=dZ;obtain⟨V,hV⟩:∃ V,V=(((W.alloc (BP (b.L R0).toArray 39)).alloc (BP #[J Y jm.x,J Y jm.y,J Y jm.z] 27)).alloc (BP #[J Y 0,J Y 0,J Y 0,J Y 0,J Y 0,J Y 0,J Y 0,J Y 0,J Y 0,J Y 0,J Y 0,J Y 0,J Y 0,J Y 0,J Y 0,J Y 0,J Y 0,J Y 0,J Y 0,J Y 0,J Y 0,J Y 0,J Y 0,BQ none 0 0,J Y 0,J Y 0,J Y 0,BT false,J Y 0,BT false,BT false] 39)):=⟨_,rfl⟩
 have aL:=Jb W (BP (b.L R0).toArray 39);have ac:=Jb (W.alloc (BP (b.L R0).toArray 39)) (BP #[J Y jm.x,J Y jm.y,J Y jm.z] 27);have aj:=Jb ((W.alloc (BP (b.L R0).toArray 39)).alloc (BP #[J Y jm.x,J Y jm.y,J Y jm.z] 27)) (BP #[J Y 0,J Y 0,J Y 0,J Y 0,J Y 0,J Y 0,J Y 0,J Y 0,J Y 0,J Y 0,J Y 0,J Y 0,J Y 0,J Y 0,J Y 0,J Y 0,J Y 0,J Y 0,J Y 0,J Y 0,J Y 0,J Y 0,J Y 0,BQ none 0 0,J Y 0,J Y 0,J Y 0,BT false,J Y 0,BT false,BT false] 39);have Cb:CW V (W.heap.size) (b.L R0):=by
  have h9:=((CW.new W (b.L R0) 39).step ac).step aj;rw[hV];exact h9
 have Cj:CW V (W.heap.size+1) [J Y jm.x,J Y jm.y,J Y jm.z]:=by
  have h9:=(CW.new (W.alloc (BP (b.L R0).toArray 39)) [J Y jm.x,J Y jm.y,J Y jm.z] 27).step aj;simp only[JE]at h9;rw[hV];exact h9
 have Cr:CW V (W.heap.size+1+1) [J Y 0,J Y 0,J Y 0,J Y 0,J Y 0,J Y 0,J Y 0,J Y 0,J Y 0,J Y 0,J Y 0,J Y 0,J Y 0,J Y 0,J Y 0,J Y 0,J Y 0,J Y 0,J Y 0,J Y 0,J Y 0,J Y 0,J Y 0,BQ none 0 0,J Y 0,J Y 0,J Y 0,BT false,J Y 0,BT false,BT false]:=by
  have h9:=CW.new ((W.alloc (BP (b.L R0).toArray 39)).alloc (BP #[J Y jm.x,J Y jm.y,J Y jm.z] 27)) [J Y 0,J Y 0,J Y 0,J Y 0,J Y 0,J Y 0,J Y 0,J Y 0,J Y 0,J Y 0,J Y 0,J Y 0,J Y 0,J Y 0,J Y 0,J Y 0,J Y 0,J Y 0,J Y 0,J Y 0,J Y 0,J Y 0,J Y 0,BQ none 0 0,J Y 0,J Y 0,J Y 0,BT false,J Y 0,BT false,BT false] 39;simp only[JE]at h9;rw[hV];exact h9
 have hB:B9 W.heap.size W V:=by rw[hV];exact(Jc (Jc aL ac) aj)
 have aN:=Ja hB hc;have aT:=Jm hB hc hf;have aY:BU (Leaves ⟨fb,fo,none⟩ W V):=(Leaves.refl _ _).step hB;clear aL ac aj;clear hc hf hB dZ;obtain⟨v9,eF⟩:∃ v,v=ifB b (Jcl b jm):=⟨_,rfl⟩
 obtain⟨g9,dM⟩:∃ g,g=(f||Jav b.k (Jbh b.l jm)):=⟨_,rfl⟩
 rw[<- eF,<- dM];have HE:BU _:=And.intro eF dM;clear eF dM;go_enter func46,ntmps46;go_upto_region 1 with fail;rw[<- hV];clear hV;obtain⟨pr,aB⟩:∃ p,p=W.heap.size+1+1:=⟨_,rfl⟩
 obtain⟨pj,dL⟩:∃ p,p=W.heap.size+1:=⟨_,rfl⟩
 obtain⟨pb,aF⟩:∃ p,p=W.heap.size:=⟨_,rfl⟩
 rw[<- aB]at Cr;rw[<- dL]at Cj;rw[<- aF]at Cb;rw[<- aB,<- dL,<- aF];have nb:pb≠fb:=by omega
 have nj:pj≠fb:=by omega
 have nr:pr≠fb:=by omega
 have nr':fb≠pr:=by omega
 have br:pr≠pb:=by omega
 have bj:pj≠pb:=by omega
 have aE:W.heap.size<=pr:=by omega
 have dB:W.heap.size<=pb:=by omega
 clear aF dL aB;have bS:([J Y 0,J Y 0,J Y 0,J Y 0,J Y 0,J Y 0,J Y 0,J Y 0,J Y 0,J Y 0,J Y 0,J Y 0,J Y 0,J Y 0,J Y 0,J Y 0,J Y 0,J Y 0,J Y 0,J Y 0,J Y 0,J Y 0,J Y 0,BQ none 0 0,J Y 0,J Y 0,J Y 0,BT false,J Y 0,BT false,BT false]:List B7).length=31:=rfl;generalize([J Y 0,J Y 0,J Y 0,J Y 0,J Y 0,J Y 0,J Y 0,J Y 0,J Y 0,J Y 0,J Y 0,J Y 0,J Y 0,J Y 0,J Y 0,J Y 0,J Y 0,J Y 0,J Y 0,J Y 0,J Y 0,J Y 0,J Y 0,BQ none 0 0,J Y 0,J Y 0,J Y 0,BT false,J Y 0,BT false,BT false]:List B7)=zl at *;have k0:=(Cb 0 _ rfl).1;have HS:BU (Clo _ _ _ _ _ _):=Clo.start aN aT Cb;by_cases hk:b.k=2
 ·rw[hk]at k0;have eu:BU (v9=Jcl b jm):=by have h9:=HE.out.1;rw[ifB,if_pos hk]at h9;exact h9
  have dJ:BU (g9=(f||Jbh b.l jm)):=by have h9:=HE.out.2;rw[Jav,if_pos hk]at h9;exact h9
  clear HE;have k8:=(Cb 11 _ rfl).1;have k9:=(Cb 12 _ rfl).1;have ka:=(Cb 13 _ rfl).1;have j0:=(Cj 0 _ rfl).1;have j1:=(Cj 1 _ rfl).1;have j2:=(Cj 2 _ rfl).1;have bo:BU _:=Jhw fb fo f b.l jm V aN aT;clear aN aT;go_wp2_with (fail);refine JA bo.out ?_;rintro e W1 ⟨rfl,A⟩;have HS:BU (Clo _ _ _ _ _ _):=HS.out.same A.out nb;obtain⟨r0,q0⟩:=HS.out.cw 11 _ rfl;obtain⟨r1,q1⟩:=HS.out.cw 12 _ rfl;obtain⟨r2,q2⟩:=HS.out.cw 13 _ rfl;have HS:BU (Clo _ _ _ _ _ _):=HS.out.set3 nb 11 (J Y (Jt b.l jm).x) (J Y (Jt b.l jm).y) (J Y (Jt b.l jm).z) (Jcd hR.out (by decide));simp only[Nat.reduceAdd]at HS;clear bo A k0 k8 k9 ka j0 j1 j2 Cb Cj;go_upto_region 4 with fail;obtain⟨X9,fH⟩:∃ X,X=(((W1.setCell ⟨pb,11,none⟩ (J Y (Jt b.l jm).x)).setCell ⟨pb,12,none⟩ (J Y (Jt b.l jm).y)).setCell ⟨pb,13,none⟩ (J Y (Jt b.l jm).z)):=⟨_,rfl⟩
  rw[<- fH]at HS ⊢;have HS:BU (Clo ⟨fb,fo,none⟩ (f||Jbh b.l jm) pb ((Jcl b jm).L R0) V X9):=HS.out;clear r0 r1 r2 q0 q1 q2;clear fH;have eB:=HS.out.cw;have dr:=Cr.two HS.out.two nr br;have eC:BU (Leaves ⟨fb,fo,none⟩ W X9):=aY.out.two HS.out.two aO dB;have da:=HS.out.cell;have eD:=HS.out.frozen;clear HS Cr aY;have bC:BU _:=Jj hR.out ((Jcl b jm));have cd:BU _:=Jn hR.out ((Jcl b jm));have bW:BU _:=hR.out.each ((Jcl b jm));have au:BU (World.rangeAt X9 pb 0 (((Jcl b jm)).L R0)):=eB.range;have bT:BU (World.there X9 pr 0 (((Jcl b jm)).L R0).toArray.size):=dr.there31 bS hR.out;have cH:BU (World.rangeAt _ _ _ _):=(dr.sets (us:=((Jcl b jm)).L R0) (by rw[hR.out.all,bS])).range;have cV:BU (Leaves ⟨fb,fo,none⟩ W (X9.setCells pr 0 (((Jcl b jm)).L R0))):=eC.out.sets aE _;have cI:BU _:=(Jaj (w:=X9) (vs:=((Jcl b jm)).L R0) (o:=fo) nr').trans da;have cW:BU _:=(World.frozen?_setCells pr (((Jcl b jm)).L R0) 0 X9 ⟨fb,fo,none⟩).trans eD;generalize aM:((Jcl b jm)).L R0=cs at *;have bH:BU _:=aM;clear aM eB dr eC da eD;go_wp2_with (first | refine wpList_load_mid rfl 39 _ rfl pb 0 rfl _ _ au.out underlying39 rfl bC.out ?_ | refine wpList_store_mid rfl 39 _ _ rfl pr 0 _ rfl rfl bT.out cd.out bW.out ?_);refine bodyPost_ret (J7 6 39 results46 ⟨pr,0,none⟩ rfl (run_loadVar_mid _ pr 0 39 cs _ cH.out underlying39 rfl bC.out)) rfl ?_;refine⟨by rw[eu.out,bH.out],?_⟩;rw[dJ.out];exact cV.out.done cI.out cW.out
 ·have mK:(b.k == 2)=false:=by simpa using hk
  have eu:BU (v9=b):=by have h9:=HE.out.1;rw[ifB,if_neg hk]at h9;exact h9
  have dJ:BU (g9=f):=by have h9:=HE.out.2;rw[Jav,if_neg hk,Bool.or_false]at h9;exact h9
  clear HE HS;have eB:=Cb;have dr:=Cr;have eC:=aY;have da:=aN;have eD:=aT;clear Cb Cr aY aN aT Cj;have bC:BU _:=Jj hR.out (b);have cd:BU _:=Jn hR.out (b);have bW:BU _:=hR.out.each (b);have au:BU (World.rangeAt V pb 0 ((b).L R0)):=eB.range;have bT:BU (World.there V pr 0 ((b).L R0).toArray.size):=dr.there31 bS hR.out;have cH:BU (World.rangeAt _ _ _ _):=(dr.sets (us:=(b).L R0) (by rw[hR.out.all,bS])).range;have cV:BU (Leaves ⟨fb,fo,none⟩ W (V.setCells pr 0 ((b).L R0))):=eC.out.sets aE _;have cI:BU _:=(Jaj (w:=V) (vs:=(b).L R0) (o:=fo) nr').trans da;have cW:BU _:=(World.frozen?_setCells pr ((b).L R0) 0 V ⟨fb,fo,none⟩).trans eD;generalize aM:(b).L R0=cs at *;have bH:BU _:=aM;clear aM eB dr eC da eD;go_wp2_with (first | refine wpList_load_mid rfl 39 _ rfl pb 0 rfl _ _ au.out underlying39 rfl bC.out ?_ | refine wpList_store_mid rfl 39 _ _ rfl pr 0 _ rfl rfl bT.out cd.out bW.out ?_);refine bodyPost_ret (J7 6 39 results46 ⟨pr,0,none⟩ rfl (run_loadVar_mid _ pr 0 39 cs _ cH.out underlying39 rfl bC.out)) rfl ?_;refine⟨by rw[eu.out,bH.out],?_⟩;rw[dJ.out];exact cV.out.done cI.out cW.out
theorem Jqm(fb fo:Nat)(f:Bool)(b:Bd)(R0:List B7)(am jm:V3)(dZ:Rest R0)(W:BV)(hc:W.cell? ⟨fb,fo,none⟩=some (BT f))(hf:W.frozen? ⟨fb,fo,none⟩=false):
  Cd Tryz.prog 44 #[BO (some ⟨fb,fo,none⟩),B_ (b.L R0).toArray,am.val,jm.val] W fun e W'=>e = BZ (B_ ((ifB b (Jcc b am jm)).L R0).toArray)/\BU (After ⟨fb,fo,none⟩ (f||Jav b.k (Jmd b am jm)) W W'):=by
 have aO:fb<W.heap.size:=JB _ _ hc;have hR:BU (Rest _):=dZ;obtain⟨V,hV⟩:∃ V,V=((((W.alloc (BP (b.L R0).toArray 39)).alloc (BP #[J Y am.x,J Y am.y,J Y am.z] 27)).alloc (BP #[J Y jm.x,J Y jm.y,J Y jm.z] 27)).alloc (BP #[J Y 0,J Y 0,J Y 0,J Y 0,J Y 0,J Y 0,J Y 0,J Y 0,J Y 0,J Y 0,J Y 0,J Y 0,J Y 0,J Y 0,J Y 0,J Y 0,J Y 0,J Y 0,J Y 0,J Y 0,J Y 0,J Y 0,J Y 0,BQ none 0 0,J Y 0,J Y 0,J Y 0,BT false,J Y 0,BT false,BT false] 39)):=⟨_,rfl⟩
 have aL:=Jb W (BP (b.L R0).toArray 39);have ac:=Jb (W.alloc (BP (b.L R0).toArray 39)) (BP #[J Y am.x,J Y am.y,J Y am.z] 27);have aj:=Jb ((W.alloc (BP (b.L R0).toArray 39)).alloc (BP #[J Y am.x,J Y am.y,J Y am.z] 27)) (BP #[J Y jm.x,J Y jm.y,J Y jm.z] 27);have ao:=Jb (((W.alloc (BP (b.L R0).toArray 39)).alloc (BP #[J Y am.x,J Y am.y,J Y am.z] 27)).alloc (BP #[J Y jm.x,J Y jm.y,J Y jm.z] 27)) (BP #[J Y 0,J Y 0,J Y 0,J Y 0,J Y 0,J Y 0,J Y 0,J Y 0,J Y 0,J Y 0,J Y 0,J Y 0,J Y 0,J Y 0,J Y 0,J Y 0,J Y 0,J Y 0,J Y 0,J Y 0,J Y 0,J Y 0,J Y 0,BQ none 0 0,J Y 0,J Y 0,J Y 0,BT false,J Y 0,BT false,BT false] 39);have Cb:CW V (W.heap.size) (b.L R0):=by
  have h9:=(((CW.new W (b.L R0) 39).step ac).step aj).step ao;rw[hV];exact h9
 have Ca:CW V (W.heap.size+1) [J Y am.x,J Y am.y,J Y am.z]:=by
  have h9:=((CW.new (W.alloc (BP (b.L R0).toArray 39)) [J Y am.x,J Y am.y,J Y am.z] 27).step aj).step ao;simp only[JE]at h9;rw[hV];exact h9
 have Cj:CW V (W.heap.size+1+1) [J Y jm.x,J Y jm.y,J Y jm.z]:=by
  have h9:=(CW.new ((W.alloc (BP (b.L R0).toArray 39)).alloc (BP #[J Y am.x,J Y am.y,J Y am.z] 27)) [J Y jm.x,J Y jm.y,J Y jm.z] 27).step ao;simp only[JE]at h9;rw[hV];exact h9
 have Cr:CW V (W.heap.size+1+1+1) [J Y 0,J Y 0,J Y 0,J Y 0,J Y 0,J Y 0,J Y 0,J Y 0,J Y 0,J Y 0,J Y 0,J Y 0,J Y 0,J Y 0,J Y 0,J Y 0,J Y 0,J Y 0,J Y 0,J Y 0,J Y 0,J Y 0,J Y 0,BQ none 0 0,J Y 0,J Y 0,J Y 0,BT false,J Y 0,BT false,BT false]:=by
  have h9:=CW.new (((W.alloc (BP (b.L R0).toArray 39)).alloc (BP #[J Y am.x,J Y am.y,J Y am.z] 27)).alloc (BP #[J Y jm.x,J Y jm.y,J Y jm.z] 27)) [J Y 0,J Y 0,J Y 0,J Y 0,J Y 0,J Y 0,J Y 0,J Y 0,J Y 0,J Y 0,J Y 0,J Y 0,J Y 0,J Y 0,J Y 0,J Y 0,J Y 0,J Y 0,J Y 0,J Y 0,J Y 0,J Y 0,J Y 0,BQ none 0 0,J Y 0,J Y 0,J Y 0,BT false,J Y 0,BT false,BT false] 39;simp only[JE]at h9;rw[hV];exact h9
 have hB:B9 W.heap.size W V:=by rw[hV];exact(Jc (Jc (Jc aL ac) aj) ao)
 have aN:=Ja hB hc;have aT:=Jm hB hc hf;have aY:BU (Leaves ⟨fb,fo,none⟩ W V):=(Leaves.refl _ _).step hB;clear aL ac aj ao;clear hc hf hB dZ;obtain⟨v9,eF⟩:∃ v,v=ifB b (Jcc b am jm):=⟨_,rfl⟩
 obtain⟨g9,dM⟩:∃ g,g=(f||Jav b.k (Jmd b am jm)):=⟨_,rfl⟩
 rw[<- eF,<- dM];have HE:BU _:=And.intro eF dM;clear eF dM;go_enter func44,ntmps44;go_upto_region 1 with fail;rw[<- hV];clear hV;obtain⟨pr,aB⟩:∃ p,p=W.heap.size+1+1+1:=⟨_,rfl⟩
 obtain⟨pj,dL⟩:∃ p,p=W.heap.size+1+1:=⟨_,rfl⟩
 obtain⟨pa,aU⟩:∃ p,p=W.heap.size+1:=⟨_,rfl⟩
 obtain⟨pb,aF⟩:∃ p,p=W.heap.size:=⟨_,rfl⟩
 rw[<- aB]at Cr;rw[<- dL]at Cj;rw[<- aU]at Ca;rw[<- aF]at Cb;rw[<- aB,<- dL,<- aU,<- aF];have nb:pb≠fb:=by omega
 have na:pa≠fb:=by omega
 have nj:pj≠fb:=by omega
 have nr:pr≠fb:=by omega
 have nr':fb≠pr:=by omega
 have br:pr≠pb:=by omega
 have ba:pa≠pb:=by omega
 have bj:pj≠pb:=by omega
 have aE:W.heap.size<=pr:=by omega
 have dB:W.heap.size<=pb:=by omega
 clear aF aU dL aB;have bS:([J Y 0,J Y 0,J Y 0,J Y 0,J Y 0,J Y 0,J Y 0,J Y 0,J Y 0,J Y 0,J Y 0,J Y 0,J Y 0,J Y 0,J Y 0,J Y 0,J Y 0,J Y 0,J Y 0,J Y 0,J Y 0,J Y 0,J Y 0,BQ none 0 0,J Y 0,J Y 0,J Y 0,BT false,J Y 0,BT false,BT false]:List B7).length=31:=rfl;generalize([J Y 0,J Y 0,J Y 0,J Y 0,J Y 0,J Y 0,J Y 0,J Y 0,J Y 0,J Y 0,J Y 0,J Y 0,J Y 0,J Y 0,J Y 0,J Y 0,J Y 0,J Y 0,J Y 0,J Y 0,J Y 0,J Y 0,J Y 0,BQ none 0 0,J Y 0,J Y 0,J Y 0,BT false,J Y 0,BT false,BT false]:List B7)=zl at *;have k0:=(Cb 0 _ rfl).1;have HS:BU (Clo _ _ _ _ _ _):=Clo.start aN aT Cb;by_cases hk:b.k=2
 ·rw[hk]at k0;have eu:BU (v9=Jcc b am jm):=by have h9:=HE.out.1;rw[ifB,if_pos hk]at h9;exact h9
  have dJ:BU (g9=(f||Jmd b am jm)):=by have h9:=HE.out.2;rw[Jav,if_pos hk]at h9;exact h9
  clear HE;have k8:=(Cb 8 _ rfl).1;have k9:=(Cb 9 _ rfl).1;have ka:=(Cb 10 _ rfl).1;have j0:=(Cj 0 _ rfl).1;have j1:=(Cj 1 _ rfl).1;have j2:=(Cj 2 _ rfl).1;have bo:BU _:=Jhw fb fo f b.p jm V aN aT;clear aN aT;go_wp2_with (fail);refine JA bo.out ?_;rintro e W1 ⟨rfl,A⟩;have HS:BU (Clo _ _ _ _ _ _):=HS.out.same A.out nb;obtain⟨r0,q0⟩:=HS.out.cw 8 _ rfl;obtain⟨r1,q1⟩:=HS.out.cw 9 _ rfl;obtain⟨r2,q2⟩:=HS.out.cw 10 _ rfl;have HS:BU (Clo _ _ _ _ _ _):=HS.out.set3 nb 8 (J Y (Jt b.p jm).x) (J Y (Jt b.p jm).y) (J Y (Jt b.p jm).z) (Jcd hR.out (by decide));simp only[Nat.reduceAdd]at HS;have Cj:=Cj.after A.out nj;have Ca:=Ca.after A.out na;have Cj:=((Cj.other (a:=⟨pb,8,none⟩) bj.symm (J Y (Jt b.p jm).x)).other (a:=⟨pb,9,none⟩) bj.symm (J Y (Jt b.p jm).y)).other (a:=⟨pb,10,none⟩) bj.symm (J Y (Jt b.p jm).z);have Ca:=((Ca.other (a:=⟨pb,8,none⟩) ba.symm (J Y (Jt b.p jm).x)).other (a:=⟨pb,9,none⟩) ba.symm (J Y (Jt b.p jm).y)).other (a:=⟨pb,10,none⟩) ba.symm (J Y (Jt b.p jm).z);clear bo A k0 k8 k9 ka j0 j1 j2 Cb;go_upto_region 4 with fail;obtain⟨V1,dI⟩:∃ X,X=(((W1.setCell ⟨pb,8,none⟩ (J Y (Jt b.p jm).x)).setCell ⟨pb,9,none⟩ (J Y (Jt b.p jm).y)).setCell ⟨pb,10,none⟩ (J Y (Jt b.p jm).z)):=⟨_,rfl⟩
  rw[<- dI]at HS Cj Ca ⊢;obtain⟨b1,ac⟩:∃ x,x=b.wp (Jt b.p jm):=⟨_,rfl⟩
  have HS:BU (Clo ⟨fb,fo,none⟩ (f||Jbh b.p jm) pb (b1.L R0) V V1):=by rw[ac];exact HS.out
  have Cb:=HS.out.cw;have aN:=HS.out.cell;have aT:=HS.out.frozen;clear dI r0 r1 r2 q0 q1 q2;refine Bq [.some (BO (some ⟨fb,fo,none⟩)),.some (BO (some ⟨pb,11,none⟩)),.some (B_ #[J Y b1.l.x,J Y b1.l.y,J Y b1.l.z]),.some (BO (some ⟨fb,fo,none⟩)),.some (B_ #[J Y am.x,J Y am.y,J Y am.z]),.some (B_ #[J Y jm.x,J Y jm.y,J Y jm.z]),.some (B_ #[J Y ((Ja3 am jm).x),J Y ((Ja3 am jm).y),J Y ((Ja3 am jm).z)]),.some (B_ #[J Y ((Jt b1.l (Ja3 am jm)).x),J Y ((Jt b1.l (Ja3 am jm)).y),J Y ((Jt b1.l (Ja3 am jm)).z)]),.some (BO (some ⟨pb,11,none⟩)),none] [20,21,22,23,24,25,26,27,28,0] [(0,BO (some ⟨fb,fo,none⟩)),(5,BO (some ⟨pb,0,none⟩)),(6,BO (some ⟨pa,0,none⟩)),(7,BO (some ⟨pj,0,none⟩))] (fun γ L w9=>FGS V1 ⟨fb,fo,none⟩ (f||Jbh b.p jm) [(6,Jkq am jm),(7,Jbh b1.l (Ja3 am jm))] 9 (fun w=>(((w.setCell ⟨pb,11,none⟩ (J Y ((Jt b1.l (Ja3 am jm)).x))).setCell ⟨pb,12,none⟩ (J Y ((Jt b1.l (Ja3 am jm)).y))).setCell ⟨pb,13,none⟩ (J Y ((Jt b1.l (Ja3 am jm)).z)))) L w9) ⟨rfl,rfl,rfl,rfl,trivial⟩ ?_ ?_ ?_
  ·exact FGS.start aN aT
  ·intro D WA Z hD ah hZ T;simp only[RV.Outs,RV.Slots,Nat.reduceAdd]at T
   iterate 6 first
    |(refine Br _ (Bs T (fun γ v L w hl h=>h.stay (by decide) rfl) (fun γ L a w hH hl h9 k9=>⟨_,?_,rfl⟩)) ?_;· simp[JD,go_sem,h9])
    |(refine Br _ (Bs T (fun γ v L w hl h=>h.stay (by decide) rfl) (fun γ L a w hH hl h9 k9=>⟨_,?_,rfl⟩)) ?_;· have hG:=hH.glob.early (Bu hH (Bv (j:=9) ah (by kernel_rfl)) hl);have q0:=hG.at (Cb 11 _ rfl).1 nb;have q1:=hG.at (Cb 12 _ rfl).1 nb;have q2:=hG.at (Cb 13 _ rfl).1 nb;simp[JC]at k9;simp[JD,go_sem,h9,k9,q0,q1,q2])
    |(refine Br _ (Bs T (fun γ v L w hl h=>h.stay (by decide) rfl) (fun γ L a w hH hl h9 k9=>⟨_,?_,rfl⟩)) ?_;· have hG:=hH.glob.early (Bu hH (Bv (j:=9) ah (by kernel_rfl)) hl);have q0:=hG.at (Ca 0 _ rfl).1 na;have q1:=hG.at (Ca 1 _ rfl).1 na;have q2:=hG.at (Ca 2 _ rfl).1 na;have q3:=hG.at (Cj 0 _ rfl).1 nj;have q4:=hG.at (Cj 1 _ rfl).1 nj;have q5:=hG.at (Cj 2 _ rfl).1 nj;simp[JD,go_sem,h9,q0,q1,q2,q3,q4,q5])
   refine Br _ (Bw (fun γ L a w hH hl hA=>by have h9:=T γ L a w hH;have k9:=hA;simp[JC]at k9;have hG:=hH.glob.early (Bu hH (Bv (j:=9) (i:=6) ah (by kernel_rfl)) hl);exact⟨108,#[BO (some ⟨fb,fo,none⟩),B_ #[J Y am.x,J Y am.y,J Y am.z],B_ #[J Y jm.x,J Y jm.y,J Y jm.z]],by simp[go_sem,h9,k9],JA (Jvh fb fo _ am jm w hG.cell hG.frozen) (by rintro e w2 ⟨rfl,ha⟩;exact⟨_,rfl,rfl,fun j v _ h=>h.keep _,FGS.come hG (by decide) (Bu hH (Bv (j:=9) (i:=6) ah (by kernel_rfl)) hl) hl rfl ha.out⟩)⟩)) ?_;refine Br _ (Bw (fun γ L a w hH hl hA=>by have h9:=T γ L a w hH;have k9:=hA;simp[JC]at k9;have hG:=hH.glob.early (Bu hH (Bv (j:=9) (i:=7) ah (by kernel_rfl)) hl);exact⟨107,#[BO (some ⟨fb,fo,none⟩),B_ #[J Y b1.l.x,J Y b1.l.y,J Y b1.l.z],B_ #[J Y ((Ja3 am jm).x),J Y ((Ja3 am jm).y),J Y ((Ja3 am jm).z)]],by simp[go_sem,h9,k9],JA (Jhw fb fo _ b1.l (Ja3 am jm) w hG.cell hG.frozen) (by rintro e w2 ⟨rfl,ha⟩;exact⟨_,rfl,rfl,fun j v _ h=>h.keep _,FGS.come hG (by decide) (Bu hH (Bv (j:=9) (i:=7) ah (by kernel_rfl)) hl) hl rfl ha.out⟩)⟩)) ?_
   (refine Br _ (Bs T (fun γ v L w hl h=>h.stay (by decide) rfl) (fun γ L a w hH hl h9 k9=>⟨_,?_,rfl⟩)) ?_;· simp[JD,go_sem,h9])
   refine Br _ (Bz (fun γ L a w hH hl hA=>by have h9:=T γ L a w hH;have k9:=hA;simp[JC]at k9;have hG:=hH.glob.early hl;have z0:=hG.at (Cb 11 _ rfl).1 nb;have cX:=hG.open (Cb 11 _ rfl).1 (Cb 11 _ rfl).2 nb;have z1:=hG.at (Cb 12 _ rfl).1 nb;have cY:=hG.open (Cb 12 _ rfl).1 (Cb 12 _ rfl).2 nb;have z2:=hG.at (Cb 13 _ rfl).1 nb;have cZ:=hG.open (Cb 13 _ rfl).1 (Cb 13 _ rfl).2 nb;exact⟨(((w.setCell ⟨pb,11,none⟩ (J Y ((Jt b1.l (Ja3 am jm)).x))).setCell ⟨pb,12,none⟩ (J Y ((Jt b1.l (Ja3 am jm)).y))).setCell ⟨pb,13,none⟩ (J Y ((Jt b1.l (Ja3 am jm)).z))),by simp[JD,go_sem,z0,cX,z1,cY,z2,cZ,h9,k9],trivial,fun j v _ h=>h.keep _,FGS.store (S:=fun w=>(((w.setCell ⟨pb,11,none⟩ (J Y ((Jt b1.l (Ja3 am jm)).x))).setCell ⟨pb,12,none⟩ (J Y ((Jt b1.l (Ja3 am jm)).y))).setCell ⟨pb,13,none⟩ (J Y ((Jt b1.l (Ja3 am jm)).z)))) hG rfl⟩)) ?_;exact RV.AllDo.nil
  ·intro γ w5 L9 hL aX aD;obtain⟨w8,bi,rfl⟩:=aD.late (hL 9 (by decide));have cE:orL (f||Jbh b.p jm) [(6,Jkq am jm),(7,Jbh b1.l (Ja3 am jm))] L9=((f||Jbh b.p jm) ||(Jkq am jm||Jbh b1.l (Ja3 am jm))):=by unfold orL;simp only[List.any_cons,List.any_nil,hL 6 (by decide),hL 7 (by decide),Bool.true_and,Bool.or_false,Bool.or_assoc]
   have a_:BU (After _ _ _ _):=bi.leaves.done bi.cell bi.frozen;rw[cE]at a_;clear bi cE;clear hL aX aD;simp only[RV.putL,Act.put,JH,JG,JF];have HS:BU (Clo _ _ _ _ _ _):=HS.out.same a_.out nb;have HS:BU (Clo _ _ _ _ _ _):=HS.out.set3 nb 11 (J Y (Jt b1.l (Ja3 am jm)).x) (J Y (Jt b1.l (Ja3 am jm)).y) (J Y (Jt b1.l (Ja3 am jm)).z) (Jcd hR.out (by decide));simp only[Nat.reduceAdd]at HS;rw[Bool.or_assoc]at HS;clear a_;obtain⟨X9,fH⟩:∃ X,X=(((w8.setCell ⟨pb,11,none⟩ (J Y (Jt b1.l (Ja3 am jm)).x)).setCell ⟨pb,12,none⟩ (J Y (Jt b1.l (Ja3 am jm)).y)).setCell ⟨pb,13,none⟩ (J Y (Jt b1.l (Ja3 am jm)).z)):=⟨_,rfl⟩
   rw[<- fH]at HS ⊢;have HS:BU (Clo ⟨fb,fo,none⟩ (f||Jmd b am jm) pb ((Jcc b am jm).L R0) V X9):=by subst ac;exact HS.out
   clear ac Cb Cj Ca aN aT;clear fH;have eB:=HS.out.cw;have dr:=Cr.two HS.out.two nr br;have eC:BU (Leaves ⟨fb,fo,none⟩ W X9):=aY.out.two HS.out.two aO dB;have da:=HS.out.cell;have eD:=HS.out.frozen;clear HS Cr aY;have bC:BU _:=Jj hR.out ((Jcc b am jm));have cd:BU _:=Jn hR.out ((Jcc b am jm));have bW:BU _:=hR.out.each ((Jcc b am jm));have au:BU (World.rangeAt X9 pb 0 (((Jcc b am jm)).L R0)):=eB.range;have bT:BU (World.there X9 pr 0 (((Jcc b am jm)).L R0).toArray.size):=dr.there31 bS hR.out;have cH:BU (World.rangeAt _ _ _ _):=(dr.sets (us:=((Jcc b am jm)).L R0) (by rw[hR.out.all,bS])).range;have cV:BU (Leaves ⟨fb,fo,none⟩ W (X9.setCells pr 0 (((Jcc b am jm)).L R0))):=eC.out.sets aE _;have cI:BU _:=(Jaj (w:=X9) (vs:=((Jcc b am jm)).L R0) (o:=fo) nr').trans da;have cW:BU _:=(World.frozen?_setCells pr (((Jcc b am jm)).L R0) 0 X9 ⟨fb,fo,none⟩).trans eD;generalize aM:((Jcc b am jm)).L R0=cs at *;have bH:BU _:=aM;clear aM eB dr eC da eD;go_wp2_with (first | refine wpList_load_mid rfl 39 _ rfl pb 0 rfl _ _ au.out underlying39 rfl bC.out ?_ | refine wpList_store_mid rfl 39 _ _ rfl pr 0 _ rfl rfl bT.out cd.out bW.out ?_);refine bodyPost_ret (J7 8 39 results44 ⟨pr,0,none⟩ rfl (run_loadVar_mid _ pr 0 39 cs _ cH.out underlying39 rfl bC.out)) rfl ?_;refine⟨by rw[eu.out,bH.out],?_⟩;rw[dJ.out];exact cV.out.done cI.out cW.out
 ·have mK:(b.k == 2)=false:=by simpa using hk
  have eu:BU (v9=b):=by have h9:=HE.out.1;rw[ifB,if_neg hk]at h9;exact h9
  have dJ:BU (g9=f):=by have h9:=HE.out.2;rw[Jav,if_neg hk,Bool.or_false]at h9;exact h9
  clear HE HS;have eB:=Cb;have dr:=Cr;have eC:=aY;have da:=aN;have eD:=aT;clear Cb Cr aY aN aT Ca Cj;have bC:BU _:=Jj hR.out (b);have cd:BU _:=Jn hR.out (b);have bW:BU _:=hR.out.each (b);have au:BU (World.rangeAt V pb 0 ((b).L R0)):=eB.range;have bT:BU (World.there V pr 0 ((b).L R0).toArray.size):=dr.there31 bS hR.out;have cH:BU (World.rangeAt _ _ _ _):=(dr.sets (us:=(b).L R0) (by rw[hR.out.all,bS])).range;have cV:BU (Leaves ⟨fb,fo,none⟩ W (V.setCells pr 0 ((b).L R0))):=eC.out.sets aE _;have cI:BU _:=(Jaj (w:=V) (vs:=(b).L R0) (o:=fo) nr').trans da;have cW:BU _:=(World.frozen?_setCells pr ((b).L R0) 0 V ⟨fb,fo,none⟩).trans eD;generalize aM:(b).L R0=cs at *;have bH:BU _:=aM;clear aM eB dr eC da eD;go_wp2_with (first | refine wpList_load_mid rfl 39 _ rfl pb 0 rfl _ _ au.out underlying39 rfl bC.out ?_ | refine wpList_store_mid rfl 39 _ _ rfl pr 0 _ rfl rfl bT.out cd.out bW.out ?_);refine bodyPost_ret (J7 8 39 results44 ⟨pr,0,none⟩ rfl (run_loadVar_mid _ pr 0 39 cs _ cH.out underlying39 rfl bC.out)) rfl ?_;refine⟨by rw[eu.out,bH.out],?_⟩;rw[dJ.out];exact cV.out.done cI.out cW.out
theorem Jqy(fb fo:Nat)(f:Bool)(b:Bd)(R0:List B7)(jm:V3)(n:Int)(dZ:Rest R0)(W:BV)(hc:W.cell? ⟨fb,fo,none⟩=some (BT f))(hf:W.frozen? ⟨fb,fo,none⟩=false):
  Cd Tryz.prog 48 #[BO (some ⟨fb,fo,none⟩),B_ (b.L R0).toArray,jm.val,J Y n] W fun e W'=>e = BZ (B_ ((ifB b (Jce b jm n)).L R0).toArray)/\BU (After ⟨fb,fo,none⟩ (f||Jav b.k (Joa b jm n)) W W'):=by
 have aO:fb<W.heap.size:=JB _ _ hc;have hR:BU (Rest _):=dZ;obtain⟨V,hV⟩:∃ V,V=(((W.alloc (BP (b.L R0).toArray 39)).alloc (BP #[J Y jm.x,J Y jm.y,J Y jm.z] 27)).alloc (BP #[J Y 0,J Y 0,J Y 0,J Y 0,J Y 0,J Y 0,J Y 0,J Y 0,J Y 0,J Y 0,J Y 0,J Y 0,J Y 0,J Y 0,J Y 0,J Y 0,J Y 0,J Y 0,J Y 0,J Y 0,J Y 0,J Y 0,J Y 0,BQ none 0 0,J Y 0,J Y 0,J Y 0,BT false,J Y 0,BT false,BT false] 39)):=⟨_,rfl⟩
 have aL:=Jb W (BP (b.L R0).toArray 39);have ac:=Jb (W.alloc (BP (b.L R0).toArray 39)) (BP #[J Y jm.x,J Y jm.y,J Y jm.z] 27);have aj:=Jb ((W.alloc (BP (b.L R0).toArray 39)).alloc (BP #[J Y jm.x,J Y jm.y,J Y jm.z] 27)) (BP #[J Y 0,J Y 0,J Y 0,J Y 0,J Y 0,J Y 0,J Y 0,J Y 0,J Y 0,J Y 0,J Y 0,J Y 0,J Y 0,J Y 0,J Y 0,J Y 0,J Y 0,J Y 0,J Y 0,J Y 0,J Y 0,J Y 0,J Y 0,BQ none 0 0,J Y 0,J Y 0,J Y 0,BT false,J Y 0,BT false,BT false] 39);have Cb:CW V (W.heap.size) (b.L R0):=by
  have h9:=((CW.new W (b.L R0) 39).step ac).step aj;rw[hV];exact h9
 have Cj:CW V (W.heap.size+1) [J Y jm.x,J Y jm.y,J Y jm.z]:=by
  have h9:=(CW.new (W.alloc (BP (b.L R0).toArray 39)) [J Y jm.x,J Y jm.y,J Y jm.z] 27).step aj;simp only[JE]at h9;rw[hV];exact h9
 have Cr:CW V (W.heap.size+1+1) [J Y 0,J Y 0,J Y 0,J Y 0,J Y 0,J Y 0,J Y 0,J Y 0,J Y 0,J Y 0,J Y 0,J Y 0,J Y 0,J Y 0,J Y 0,J Y 0,J Y 0,J Y 0,J Y 0,J Y 0,J Y 0,J Y 0,J Y 0,BQ none 0 0,J Y 0,J Y 0,J Y 0,BT false,J Y 0,BT false,BT false]:=by
  have h9:=CW.new ((W.alloc (BP (b.L R0).toArray 39)).alloc (BP #[J Y jm.x,J Y jm.y,J Y jm.z] 27)) [J Y 0,J Y 0,J Y 0,J Y 0,J Y 0,J Y 0,J Y 0,J Y 0,J Y 0,J Y 0,J Y 0,J Y 0,J Y 0,J Y 0,J Y 0,J Y 0,J Y 0,J Y 0,J Y 0,J Y 0,J Y 0,J Y 0,J Y 0,BQ none 0 0,J Y 0,J Y 0,J Y 0,BT false,J Y 0,BT false,BT false] 39;simp only[JE]at h9;rw[hV];exact h9
 have hB:B9 W.heap.size W V:=by rw[hV];exact(Jc (Jc aL ac) aj)
 have aN:=Ja hB hc;have aT:=Jm hB hc hf;have aY:BU (Leaves ⟨fb,fo,none⟩ W V):=(Leaves.refl _ _).step hB;clear aL ac aj;clear hc hf hB dZ;obtain⟨v9,eF⟩:∃ v,v=ifB b (Jce b jm n):=⟨_,rfl⟩
 obtain⟨g9,dM⟩:∃ g,g=(f||Jav b.k (Joa b jm n)):=⟨_,rfl⟩
 rw[<- eF,<- dM];have HE:BU _:=And.intro eF dM;clear eF dM;go_enter func48,ntmps48;go_upto_region 1 with fail;rw[<- hV];clear hV;obtain⟨pr,aB⟩:∃ p,p=W.heap.size+1+1:=⟨_,rfl⟩
 obtain⟨pj,dL⟩:∃ p,p=W.heap.size+1:=⟨_,rfl⟩
 obtain⟨pb,aF⟩:∃ p,p=W.heap.size:=⟨_,rfl⟩
 rw[<- aB]at Cr;rw[<- dL]at Cj;rw[<- aF]at Cb;rw[<- aB,<- dL,<- aF];have nb:pb≠fb:=by omega
 have nj:pj≠fb:=by omega
 have nr:pr≠fb:=by omega
 have nr':fb≠pr:=by omega
 have br:pr≠pb:=by omega
 have bj:pj≠pb:=by omega
 have aE:W.heap.size<=pr:=by omega
 have dB:W.heap.size<=pb:=by omega
 clear aF dL aB;have bS:([J Y 0,J Y 0,J Y 0,J Y 0,J Y 0,J Y 0,J Y 0,J Y 0,J Y 0,J Y 0,J Y 0,J Y 0,J Y 0,J Y 0,J Y 0,J Y 0,J Y 0,J Y 0,J Y 0,J Y 0,J Y 0,J Y 0,J Y 0,BQ none 0 0,J Y 0,J Y 0,J Y 0,BT false,J Y 0,BT false,BT false]:List B7).length=31:=rfl;generalize([J Y 0,J Y 0,J Y 0,J Y 0,J Y 0,J Y 0,J Y 0,J Y 0,J Y 0,J Y 0,J Y 0,J Y 0,J Y 0,J Y 0,J Y 0,J Y 0,J Y 0,J Y 0,J Y 0,J Y 0,J Y 0,J Y 0,J Y 0,BQ none 0 0,J Y 0,J Y 0,J Y 0,BT false,J Y 0,BT false,BT false]:List B7)=zl at *;have k0:=(Cb 0 _ rfl).1;have HS:BU (Clo _ _ _ _ _ _):=Clo.start aN aT Cb;by_cases hk:b.k=2
 ·rw[hk]at k0;have eu:BU (v9=Jce b jm n):=by have h9:=HE.out.1;rw[ifB,if_pos hk]at h9;exact h9
  have dJ:BU (g9=(f||Joa b jm n)):=by have h9:=HE.out.2;rw[Jav,if_pos hk]at h9;exact h9
  clear HE;go_upto_region 3 with fail;clear k0;refine Bq [.some (BO (some ⟨fb,fo,none⟩)),.some (BO (some ⟨pb,8,none⟩)),.some (B_ #[J Y b.p.x,J Y b.p.y,J Y b.p.z]),.some (BO (some ⟨fb,fo,none⟩)),.some (B_ #[J Y jm.x,J Y jm.y,J Y jm.z]),.some (BO (some ⟨fb,fo,none⟩)),.some (BO (some ⟨pb,14,none⟩)),.some (BO (some ⟨pb,14,none⟩)),.some (J Y b.m),.some (J Y n),.some (J Y (Jal b.m n)),.some (B_ #[J Y ((Jau jm (Jal b.m n)).x),J Y ((Jau jm (Jal b.m n)).y),J Y ((Jau jm (Jal b.m n)).z)]),.some (B_ #[J Y ((Jt b.p (Jau jm (Jal b.m n))).x),J Y ((Jt b.p (Jau jm (Jal b.m n))).y),J Y ((Jt b.p (Jau jm (Jal b.m n))).z)]),.some (BO (some ⟨pb,8,none⟩)),none] [14,15,16,17,18,19,20,21,22,23,24,25,26,27,0] [(0,BO (some ⟨fb,fo,none⟩)),(3,J Y n),(5,BO (some ⟨pb,0,none⟩)),(6,BO (some ⟨pj,0,none⟩))] (fun γ L w9=>FGS V ⟨fb,fo,none⟩ f [(10,Jfc b.m n),(11,Jcb jm (Jal b.m n)),(12,Jbh b.p (Jau jm (Jal b.m n)))] 14 (fun w=>(((w.setCell ⟨pb,8,none⟩ (J Y ((Jt b.p (Jau jm (Jal b.m n))).x))).setCell ⟨pb,9,none⟩ (J Y ((Jt b.p (Jau jm (Jal b.m n))).y))).setCell ⟨pb,10,none⟩ (J Y ((Jt b.p (Jau jm (Jal b.m n))).z)))) L w9) ⟨rfl,rfl,rfl,rfl,trivial⟩ ?_ ?_ ?_
  ·exact FGS.start aN aT
  ·intro D WA Z hD ah hZ T;simp only[RV.Outs,RV.Slots,Nat.reduceAdd]at T
   iterate 10 first
    |(refine Br _ (Bs T (fun γ v L w hl h=>h.stay (by decide) rfl) (fun γ L a w hH hl h9 k9=>⟨_,?_,rfl⟩)) ?_;· simp[JD,go_sem,h9])
    |(refine Br _ (Bs T (fun γ v L w hl h=>h.stay (by decide) rfl) (fun γ L a w hH hl h9 k9=>⟨_,?_,rfl⟩)) ?_;· simp[JC]at k9;simp[JD,go_sem,h9,k9])
    |(refine Br _ (Bs T (fun γ v L w hl h=>h.stay (by decide) rfl) (fun γ L a w hH hl h9 k9=>⟨_,?_,rfl⟩)) ?_;· have hG:=hH.glob.early (Bu hH (Bv (j:=14) ah (by kernel_rfl)) hl);have q0:=hG.at (Cj 0 _ rfl).1 nj;have q1:=hG.at (Cj 1 _ rfl).1 nj;have q2:=hG.at (Cj 2 _ rfl).1 nj;simp[JD,go_sem,h9,q0,q1,q2])
    |(refine Br _ (Bs T (fun γ v L w hl h=>h.stay (by decide) rfl) (fun γ L a w hH hl h9 k9=>⟨_,?_,rfl⟩)) ?_;· have hG:=hH.glob.early (Bu hH (Bv (j:=14) ah (by kernel_rfl)) hl);have q0:=hG.at (Cb 8 _ rfl).1 nb;have q1:=hG.at (Cb 9 _ rfl).1 nb;have q2:=hG.at (Cb 10 _ rfl).1 nb;have q3:=hG.at (Cb 14 _ rfl).1 nb;simp[JC]at k9;simp[JD,go_sem,h9,k9,q0,q1,q2,q3])
   refine Br _ (Bw (fun γ L a w hH hl hA=>by have h9:=T γ L a w hH;have k9:=hA;simp[JC]at k9;have hG:=hH.glob.early (Bu hH (Bv (j:=14) (i:=10) ah (by kernel_rfl)) hl);exact⟨66,#[BO (some ⟨fb,fo,none⟩),J Y b.m,J Y n],by simp[go_sem,h9,k9],JA (Juz fb fo _ b.m n w hG.cell hG.frozen) (by rintro e w2 ⟨rfl,ha⟩;exact⟨_,rfl,rfl,fun j v _ h=>h.keep _,FGS.come hG (by decide) (Bu hH (Bv (j:=14) (i:=10) ah (by kernel_rfl)) hl) hl rfl ha.out⟩)⟩)) ?_;refine Br _ (Bw (fun γ L a w hH hl hA=>by have h9:=T γ L a w hH;have k9:=hA;simp[JC]at k9;have hG:=hH.glob.early (Bu hH (Bv (j:=14) (i:=11) ah (by kernel_rfl)) hl);exact⟨112,#[BO (some ⟨fb,fo,none⟩),B_ #[J Y jm.x,J Y jm.y,J Y jm.z],J Y (Jal b.m n)],by simp[go_sem,h9,k9],JA (Joi fb fo _ jm (Jal b.m n) w hG.cell hG.frozen) (by rintro e w2 ⟨rfl,ha⟩;exact⟨_,rfl,rfl,fun j v _ h=>h.keep _,FGS.come hG (by decide) (Bu hH (Bv (j:=14) (i:=11) ah (by kernel_rfl)) hl) hl rfl ha.out⟩)⟩)) ?_;refine Br _ (Bw (fun γ L a w hH hl hA=>by have h9:=T γ L a w hH;have k9:=hA;simp[JC]at k9;have hG:=hH.glob.early (Bu hH (Bv (j:=14) (i:=12) ah (by kernel_rfl)) hl);exact⟨107,#[BO (some ⟨fb,fo,none⟩),B_ #[J Y b.p.x,J Y b.p.y,J Y b.p.z],B_ #[J Y ((Jau jm (Jal b.m n)).x),J Y ((Jau jm (Jal b.m n)).y),J Y ((Jau jm (Jal b.m n)).z)]],by simp[go_sem,h9,k9],JA (Jhw fb fo _ b.p (Jau jm (Jal b.m n)) w hG.cell hG.frozen) (by rintro e w2 ⟨rfl,ha⟩;exact⟨_,rfl,rfl,fun j v _ h=>h.keep _,FGS.come hG (by decide) (Bu hH (Bv (j:=14) (i:=12) ah (by kernel_rfl)) hl) hl rfl ha.out⟩)⟩)) ?_
   (refine Br _ (Bs T (fun γ v L w hl h=>h.stay (by decide) rfl) (fun γ L a w hH hl h9 k9=>⟨_,?_,rfl⟩)) ?_;· simp[JD,go_sem,h9])
   refine Br _ (Bz (fun γ L a w hH hl hA=>by have h9:=T γ L a w hH;have k9:=hA;simp[JC]at k9;have hG:=hH.glob.early hl;have z0:=hG.at (Cb 8 _ rfl).1 nb;have cX:=hG.open (Cb 8 _ rfl).1 (Cb 8 _ rfl).2 nb;have z1:=hG.at (Cb 9 _ rfl).1 nb;have cY:=hG.open (Cb 9 _ rfl).1 (Cb 9 _ rfl).2 nb;have z2:=hG.at (Cb 10 _ rfl).1 nb;have cZ:=hG.open (Cb 10 _ rfl).1 (Cb 10 _ rfl).2 nb;exact⟨(((w.setCell ⟨pb,8,none⟩ (J Y ((Jt b.p (Jau jm (Jal b.m n))).x))).setCell ⟨pb,9,none⟩ (J Y ((Jt b.p (Jau jm (Jal b.m n))).y))).setCell ⟨pb,10,none⟩ (J Y ((Jt b.p (Jau jm (Jal b.m n))).z))),by simp[JD,go_sem,z0,cX,z1,cY,z2,cZ,h9,k9],trivial,fun j v _ h=>h.keep _,FGS.store (S:=fun w=>(((w.setCell ⟨pb,8,none⟩ (J Y ((Jt b.p (Jau jm (Jal b.m n))).x))).setCell ⟨pb,9,none⟩ (J Y ((Jt b.p (Jau jm (Jal b.m n))).y))).setCell ⟨pb,10,none⟩ (J Y ((Jt b.p (Jau jm (Jal b.m n))).z)))) hG rfl⟩)) ?_;exact RV.AllDo.nil
  ·intro γ w5 L9 hL aX aD;obtain⟨w8,bi,rfl⟩:=aD.late (hL 14 (by decide));have cE:orL f [(10,Jfc b.m n),(11,Jcb jm (Jal b.m n)),(12,Jbh b.p (Jau jm (Jal b.m n)))] L9=(f ||(Jfc b.m n||Jcb jm (Jal b.m n)||Jbh b.p (Jau jm (Jal b.m n)))):=by unfold orL;simp only[List.any_cons,List.any_nil,hL 10 (by decide),hL 11 (by decide),hL 12 (by decide),Bool.true_and,Bool.or_false,Bool.or_assoc]
   have a_:BU (After _ _ _ _):=bi.leaves.done bi.cell bi.frozen;rw[cE]at a_;clear bi cE;clear hL aX aD;simp only[RV.putL,Act.put,JH,JG,JF];have HS:BU (Clo _ _ _ _ _ _):=HS.out.same a_.out nb;have HS:BU (Clo _ _ _ _ _ _):=HS.out.set3 nb 8 (J Y (Jt b.p (Jau jm (Jal b.m n))).x) (J Y (Jt b.p (Jau jm (Jal b.m n))).y) (J Y (Jt b.p (Jau jm (Jal b.m n))).z) (Jcd hR.out (by decide));simp only[Nat.reduceAdd]at HS;rw[Bool.or_assoc (Jfc b.m n)]at HS;clear a_;obtain⟨X9,fH⟩:∃ X,X=(((w8.setCell ⟨pb,8,none⟩ (J Y (Jt b.p (Jau jm (Jal b.m n))).x)).setCell ⟨pb,9,none⟩ (J Y (Jt b.p (Jau jm (Jal b.m n))).y)).setCell ⟨pb,10,none⟩ (J Y (Jt b.p (Jau jm (Jal b.m n))).z)):=⟨_,rfl⟩
   rw[<- fH]at HS ⊢;have HS:BU (Clo ⟨fb,fo,none⟩ (f||Joa b jm n) pb ((Jce b jm n).L R0) V X9):=HS.out;clear Cb Cj aN aT;clear fH;have eB:=HS.out.cw;have dr:=Cr.two HS.out.two nr br;have eC:BU (Leaves ⟨fb,fo,none⟩ W X9):=aY.out.two HS.out.two aO dB;have da:=HS.out.cell;have eD:=HS.out.frozen;clear HS Cr aY;have bC:BU _:=Jj hR.out ((Jce b jm n));have cd:BU _:=Jn hR.out ((Jce b jm n));have bW:BU _:=hR.out.each ((Jce b jm n));have au:BU (World.rangeAt X9 pb 0 (((Jce b jm n)).L R0)):=eB.range;have bT:BU (World.there X9 pr 0 (((Jce b jm n)).L R0).toArray.size):=dr.there31 bS hR.out;have cH:BU (World.rangeAt _ _ _ _):=(dr.sets (us:=((Jce b jm n)).L R0) (by rw[hR.out.all,bS])).range;have cV:BU (Leaves ⟨fb,fo,none⟩ W (X9.setCells pr 0 (((Jce b jm n)).L R0))):=eC.out.sets aE _;have cI:BU _:=(Jaj (w:=X9) (vs:=((Jce b jm n)).L R0) (o:=fo) nr').trans da;have cW:BU _:=(World.frozen?_setCells pr (((Jce b jm n)).L R0) 0 X9 ⟨fb,fo,none⟩).trans eD;generalize aM:((Jce b jm n)).L R0=cs at *;have bH:BU _:=aM;clear aM eB dr eC da eD;go_wp2_with (first | refine wpList_load_mid rfl 39 _ rfl pb 0 rfl _ _ au.out underlying39 rfl bC.out ?_ | refine wpList_store_mid rfl 39 _ _ rfl pr 0 _ rfl rfl bT.out cd.out bW.out ?_);refine bodyPost_ret (J7 8 39 results48 ⟨pr,0,none⟩ rfl (run_loadVar_mid _ pr 0 39 cs _ cH.out underlying39 rfl bC.out)) rfl ?_;refine⟨by rw[eu.out,bH.out],?_⟩;rw[dJ.out];exact cV.out.done cI.out cW.out
 ·have mK:(b.k == 2)=false:=by simpa using hk
  have eu:BU (v9=b):=by have h9:=HE.out.1;rw[ifB,if_neg hk]at h9;exact h9
  have dJ:BU (g9=f):=by have h9:=HE.out.2;rw[Jav,if_neg hk,Bool.or_false]at h9;exact h9
  clear HE HS;have eB:=Cb;have dr:=Cr;have eC:=aY;have da:=aN;have eD:=aT;clear Cb Cr aY aN aT Cj;have bC:BU _:=Jj hR.out (b);have cd:BU _:=Jn hR.out (b);have bW:BU _:=hR.out.each (b);have au:BU (World.rangeAt V pb 0 ((b).L R0)):=eB.range;have bT:BU (World.there V pr 0 ((b).L R0).toArray.size):=dr.there31 bS hR.out;have cH:BU (World.rangeAt _ _ _ _):=(dr.sets (us:=(b).L R0) (by rw[hR.out.all,bS])).range;have cV:BU (Leaves ⟨fb,fo,none⟩ W (V.setCells pr 0 ((b).L R0))):=eC.out.sets aE _;have cI:BU _:=(Jaj (w:=V) (vs:=(b).L R0) (o:=fo) nr').trans da;have cW:BU _:=(World.frozen?_setCells pr ((b).L R0) 0 V ⟨fb,fo,none⟩).trans eD;generalize aM:(b).L R0=cs at *;have bH:BU _:=aM;clear aM eB dr eC da eD;go_wp2_with (first | refine wpList_load_mid rfl 39 _ rfl pb 0 rfl _ _ au.out underlying39 rfl bC.out ?_ | refine wpList_store_mid rfl 39 _ _ rfl pr 0 _ rfl rfl bT.out cd.out bW.out ?_);refine bodyPost_ret (J7 8 39 results48 ⟨pr,0,none⟩ rfl (run_loadVar_mid _ pr 0 39 cs _ cH.out underlying39 rfl bC.out)) rfl ?_;refine⟨by rw[eu.out,bH.out],?_⟩;rw[dJ.out];exact cV.out.done cI.out cW.out
theorem Jth(n:Int):(n.tmod 2<0->n.tdiv 2-1=n / 2)/\(¬ n.tmod 2<0->n.tdiv 2=n / 2):=by
 have h1:=Int.tmod_add_mul_tdiv n 2;have h2:=Int.tmod_lt_of_pos n (show(0:Int)<2 by decide);have h3:=Int.lt_tmod_of_pos n (show(0:Int)<2 by decide);omega
theorem Jqj(n:Int)(w:BV)(hn:-9223372036854775808<=n/\n<=9223372036854775807):
  Cd Tryz.prog 114 #[J Y n] w fun e w'=>e = BZ (J Y (n / 2))/\w'=w:=by
 obtain⟨h1,h2⟩:=Jth n;have h4:=Int.tmod_add_mul_tdiv n 2;have h5:=Int.tmod_lt_of_pos n (show(0:Int)<2 by decide);have h6:=Int.lt_tmod_of_pos n (show(0:Int)<2 by decide);have e1:wrap64 (n.tdiv 2)=n.tdiv 2:=w64 (by omega) (by omega);have e2:n.tmod 2<0->wrap64 (n.tdiv 2-1)=n / 2:=fun h=>by rw[w64 (by omega) (by omega)];exact h1 h
 have E2:BU _:=e2;have H2:BU _:=h2;clear h1 h2 e2 h4;by_cases h:n.tmod 2<0
 ·have e3:=E2.out h;go_enter func114,ntmps114;go_wp2;go_ret;exact⟨by rw[<- e3];rfl,rfl⟩
 ·have e3:=H2.out h;go_enter func114,ntmps114;go_wp2;go_ret;exact⟨by rw[<- e3];rfl,rfl⟩
theorem Jte(fb fo:Nat)(f:Bool)(n:Int)(hn:-9223372036854775808<=n/\n<=9223372036854775807)(W:BV)(hc:W.cell? ⟨fb,fo,none⟩=some (BT f))(hf:W.frozen? ⟨fb,fo,none⟩=false):
  Cd Tryz.prog 114 #[J Y n] W fun e W'=>e = BZ (J Y (n / 2))/\BU (After ⟨fb,fo,none⟩ (f||false) W W'):=by
 refine JA (Jqj n W hn) ?_;rintro e w ⟨rfl,rfl⟩;exact⟨rfl,(Leaves.refl _ _).done (by rw[Bool.or_false];exact hc) hf⟩
theorem Jka(fb fo:Nat)(f:Bool)(b:Bd)(R:List B7)(hk:b.k=2)(W:BV)(hc:W.cell? ⟨fb,fo,none⟩=some (BT f))(hf:W.frozen? ⟨fb,fo,none⟩=false):
  Cd Tryz.prog 38 #[BO (some ⟨fb,fo,none⟩),B_ (b.L R).toArray] W fun e W'=>e = BZ (Jap b).val/\BU (After ⟨fb,fo,none⟩ (f||Jcm b) W W'):=by
 have:=Jh5 fb fo f b R W hc hf;unfold if2 Jav at this;rw[if_pos hk,if_pos hk]at this;exact this
theorem Jly(fb fo:Nat)(f:Bool)(b:Bd)(R:List B7)(hR:Rest R)(hk:b.k=2)(W:BV)(hc:W.cell? ⟨fb,fo,none⟩=some (BT f))(hf:W.frozen? ⟨fb,fo,none⟩=false):
  Cd Tryz.prog 40 #[BO (some ⟨fb,fo,none⟩),B_ (b.L R).toArray] W fun e W'=>e = BZ (Jag b b.l).val/\BU (After ⟨fb,fo,none⟩ (f||Jcg b b.l) W W'):=by
 have:=Jj5 fb fo f b R hR W hc hf;unfold if2 Jav at this;rw[if_pos hk,if_pos hk]at this;exact this
theorem Jtj(fb fo:Nat)(f:Bool)(b:Bd)(R0:List B7)(n:Int)(hn:-9223372036854775808<=n/\n<=9223372036854775807)(dZ:Rest R0)(W:BV)(hc:W.cell? ⟨fb,fo,none⟩=some (BT f))(hf:W.frozen? ⟨fb,fo,none⟩=false):
  Cd Tryz.prog 49 #[BO (some ⟨fb,fo,none⟩),B_ (b.L R0).toArray,J Y n] W fun e W'=>e = BZ (B_ ((ifB b (goD b n)).L R0).toArray)/\BU (After ⟨fb,fo,none⟩ (f||Jav b.k (goB b n)) W W'):=by
 have aO:fb<W.heap.size:=JB _ _ hc;have hR:BU (Rest _):=dZ;obtain⟨V,hV⟩:∃ V,V=((W.alloc (BP (b.L R0).toArray 39)).alloc (BP #[J Y 0,J Y 0,J Y 0,J Y 0,J Y 0,J Y 0,J Y 0,J Y 0,J Y 0,J Y 0,J Y 0,J Y 0,J Y 0,J Y 0,J Y 0,J Y 0,J Y 0,J Y 0,J Y 0,J Y 0,J Y 0,J Y 0,J Y 0,BQ none 0 0,J Y 0,J Y 0,J Y 0,BT false,J Y 0,BT false,BT false] 39)):=⟨_,rfl⟩
 have aL:=Jb W (BP (b.L R0).toArray 39);have ac:=Jb (W.alloc (BP (b.L R0).toArray 39)) (BP #[J Y 0,J Y 0,J Y 0,J Y 0,J Y 0,J Y 0,J Y 0,J Y 0,J Y 0,J Y 0,J Y 0,J Y 0,J Y 0,J Y 0,J Y 0,J Y 0,J Y 0,J Y 0,J Y 0,J Y 0,J Y 0,J Y 0,J Y 0,BQ none 0 0,J Y 0,J Y 0,J Y 0,BT false,J Y 0,BT false,BT false] 39);have Cb:CW V (W.heap.size) (b.L R0):=by
  have h9:=(CW.new W (b.L R0) 39).step ac;rw[hV];exact h9
 have Cr:CW V (W.heap.size+1) [J Y 0,J Y 0,J Y 0,J Y 0,J Y 0,J Y 0,J Y 0,J Y 0,J Y 0,J Y 0,J Y 0,J Y 0,J Y 0,J Y 0,J Y 0,J Y 0,J Y 0,J Y 0,J Y 0,J Y 0,J Y 0,J Y 0,J Y 0,BQ none 0 0,J Y 0,J Y 0,J Y 0,BT false,J Y 0,BT false,BT false]:=by
  have h9:=CW.new (W.alloc (BP (b.L R0).toArray 39)) [J Y 0,J Y 0,J Y 0,J Y 0,J Y 0,J Y 0,J Y 0,J Y 0,J Y 0,J Y 0,J Y 0,J Y 0,J Y 0,J Y 0,J Y 0,J Y 0,J Y 0,J Y 0,J Y 0,J Y 0,J Y 0,J Y 0,J Y 0,BQ none 0 0,J Y 0,J Y 0,J Y 0,BT false,J Y 0,BT false,BT false] 39;simp only[JE]at h9;rw[hV];exact h9
 have hB:B9 W.heap.size W V:=by rw[hV];exact(Jc aL ac)
 have aN:=Ja hB hc;have aT:=Jm hB hc hf;have aY:BU (Leaves ⟨fb,fo,none⟩ W V):=(Leaves.refl _ _).step hB;clear aL ac;clear hc hf hB dZ;obtain⟨v9,eF⟩:∃ v,v=ifB b (goD b n):=⟨_,rfl⟩
 obtain⟨g9,dM⟩:∃ g,g=(f||Jav b.k (goB b n)):=⟨_,rfl⟩
 rw[<- eF,<- dM];have HE:BU _:=And.intro eF dM;clear eF dM;go_enter func49,ntmps49;go_upto_region 1 with fail;rw[<- hV];clear hV;obtain⟨pr,aB⟩:∃ p,p=W.heap.size+1:=⟨_,rfl⟩
 obtain⟨pb,aF⟩:∃ p,p=W.heap.size:=⟨_,rfl⟩
 rw[<- aB]at Cr;rw[<- aF]at Cb;rw[<- aB,<- aF];have nb:pb≠fb:=by omega
 have nr:pr≠fb:=by omega
 have nr':fb≠pr:=by omega
 have br:pr≠pb:=by omega
 have aE:W.heap.size<=pr:=by omega
 have dB:W.heap.size<=pb:=by omega
 clear aF aB;have bS:([J Y 0,J Y 0,J Y 0,J Y 0,J Y 0,J Y 0,J Y 0,J Y 0,J Y 0,J Y 0,J Y 0,J Y 0,J Y 0,J Y 0,J Y 0,J Y 0,J Y 0,J Y 0,J Y 0,J Y 0,J Y 0,J Y 0,J Y 0,BQ none 0 0,J Y 0,J Y 0,J Y 0,BT false,J Y 0,BT false,BT false]:List B7).length=31:=rfl;generalize([J Y 0,J Y 0,J Y 0,J Y 0,J Y 0,J Y 0,J Y 0,J Y 0,J Y 0,J Y 0,J Y 0,J Y 0,J Y 0,J Y 0,J Y 0,J Y 0,J Y 0,J Y 0,J Y 0,J Y 0,J Y 0,J Y 0,J Y 0,BQ none 0 0,J Y 0,J Y 0,J Y 0,BT false,J Y 0,BT false,BT false]:List B7)=zl at *;have k0:=(Cb 0 _ rfl).1;have HS:BU (Clo _ _ _ _ _ _):=Clo.start aN aT Cb;by_cases hk:b.k=2
 ·rw[hk]at k0;have eu:BU (v9=goD b n):=by have h9:=HE.out.1;rw[ifB,if_pos hk]at h9;exact h9
  have dJ:BU (g9=(f||goB b n)):=by have h9:=HE.out.2;rw[Jav,if_pos hk]at h9;exact h9
  clear HE;have eW:BU _:=Jj hR.out b;have cF:fb<V.heap.size/\pb<V.heap.size:=⟨JB _ _ aN,Cb.lt⟩
  obtain⟨hszf,hszb⟩:=cF;have cF:=Nat.le_refl V.heap.size;have kR:BU (World.rangeAt V pb 0 (b.L R0)):=Cb.range;have bo:BU _:=Jka fb fo f b R0 hk V aN aT;clear aN aT Cb;go_wp2_with (refine wpList_load_mid rfl 39 _ rfl pb 0 rfl _ _ kR.out underlying39 rfl eW.out ?_);refine JA bo.out ?_;rintro e W1 ⟨rfl,A⟩;have HS:BU (Clo _ _ _ _ _ _):=HS.out.same A.out nb;have cF:=Nat.le_trans cF A.out.size;clear bo A k0 kR;go_upto_region 4 with fail;obtain⟨V4,AX⟩:∃ X,X=W1.alloc (BP #[J Y (Jap b).x,J Y (Jap b).y,J Y (Jap b).z] 27):=⟨_,rfl⟩
  have hb:=Jb W1 (BP #[J Y (Jap b).x,J Y (Jap b).y,J Y (Jap b).z] 27);have Cv:=CW.new W1 [J Y (Jap b).x,J Y (Jap b).y,J Y (Jap b).z] 27;rw[<- AX]at hb Cv ⊢;obtain⟨pv,ld⟩:∃ p,p=W1.heap.size:=⟨_,rfl⟩
  rw[<- ld]at Cv ⊢;have nv:pv≠fb:=by omega
  have bv:pv≠pb:=by omega
  have HS:BU (Clo _ _ _ _ _ _):=HS.out.step hb;have Cb:=HS.out.cw;have cF:=Nat.le_trans cF hb.size;have aN:=HS.out.cell;have aT:=HS.out.frozen;clear AX ld hb;have kR:BU (World.rangeAt V4 pb 0 (b.L R0)):=Cb.range;have bo:BU _:=Jly fb fo (f||Jcm b) b R0 hR.out hk V4 aN aT;clear aN aT Cb;go_wp2_with (refine wpList_load_mid rfl 39 _ rfl pb 0 rfl _ _ kR.out underlying39 rfl eW.out ?_);refine JA bo.out ?_;rintro e W2 ⟨rfl,A⟩;have HS:BU (Clo _ _ _ _ _ _):=HS.out.same A.out nb;have cF:=Nat.le_trans cF A.out.size;have Cv:=Cv.after A.out nv;clear bo A kR;go_upto_region 5 with fail;obtain⟨V5,o8⟩:∃ X,X=W2.alloc (BP #[J Y (Jag b b.l).x,J Y (Jag b b.l).y,J Y (Jag b b.l).z] 27):=⟨_,rfl⟩
  have hb:=Jb W2 (BP #[J Y (Jag b b.l).x,J Y (Jag b b.l).y,J Y (Jag b b.l).z] 27);have Ch:=CW.new W2 [J Y (Jag b b.l).x,J Y (Jag b b.l).y,J Y (Jag b b.l).z] 27;rw[<- o8]at hb Ch ⊢;obtain⟨ph,oO⟩:∃ p,p=W2.heap.size:=⟨_,rfl⟩
  rw[<- oO]at Ch ⊢;have nh:ph≠fb:=by omega
  have bh:ph≠pb:=by omega
  have HS:BU (Clo _ _ _ _ _ _):=HS.out.step hb;have Cb:=HS.out.cw;have Cv:=Cv.step hb;have cF:=Nat.le_trans cF hb.size;have aN:=HS.out.cell;have aT:=HS.out.frozen;clear o8 oO hb;refine Bq [.some (BO (some ⟨fb,fo,none⟩)),.some (BO (some ⟨pb,1,none⟩)),.some (BO (some ⟨pb,1,none⟩)),.some (B_ #[J Y b.s.x,J Y b.s.y,J Y b.s.z]),.some (BO (some ⟨fb,fo,none⟩)),.some (B_ #[J Y ((Jap b).x),J Y ((Jap b).y),J Y ((Jap b).z)]),.some (J Y n),.some (B_ #[J Y ((Jab b n).x),J Y ((Jab b n).y),J Y ((Jab b n).z)]),.some (B_ #[J Y ((Jt b.s (Jab b n)).x),J Y ((Jt b.s (Jab b n)).y),J Y ((Jt b.s (Jab b n)).z)]),.some (BO (some ⟨pb,1,none⟩)),.some (BO (some ⟨pb,1,none⟩)),none] [20,21,22,23,24,25,26,27,28,29,30,0] [(0,BO (some ⟨fb,fo,none⟩)),(2,J Y n),(4,BO (some ⟨pb,0,none⟩)),(7,BO (some ⟨pv,0,none⟩))] (fun γ L w9=>FGS V5 ⟨fb,fo,none⟩ (f||Jcm b||Jcg b b.l) [(7,Jcb (Jap b) n),(8,Jbh b.s (Jab b n))] 11 (fun w=>(((w.setCell ⟨pb,1,none⟩ (J Y ((Jt b.s (Jab b n)).x))).setCell ⟨pb,2,none⟩ (J Y ((Jt b.s (Jab b n)).y))).setCell ⟨pb,3,none⟩ (J Y ((Jt b.s (Jab b n)).z)))) L w9) ⟨rfl,rfl,rfl,rfl,trivial⟩ ?_ ?_ ?_
  ·exact FGS.start aN aT
  ·intro D WA Z hD ah hZ T;simp only[RV.Outs,RV.Slots,Nat.reduceAdd]at T
   iterate 7 first
    |(refine Br _ (Bs T (fun γ v L w hl h=>h.stay (by decide) rfl) (fun γ L a w hH hl h9 k9=>⟨_,?_,rfl⟩)) ?_;· simp[JD,go_sem,h9])
    |(refine Br _ (Bs T (fun γ v L w hl h=>h.stay (by decide) rfl) (fun γ L a w hH hl h9 k9=>⟨_,?_,rfl⟩)) ?_;· simp[JC]at k9;simp[JD,go_sem,h9,k9])
    |(refine Br _ (Bs T (fun γ v L w hl h=>h.stay (by decide) rfl) (fun γ L a w hH hl h9 k9=>⟨_,?_,rfl⟩)) ?_;· have hG:=hH.glob.early (Bu hH (Bv (j:=11) ah (by kernel_rfl)) hl);have q0:=hG.at (Cv 0 _ rfl).1 nv;have q1:=hG.at (Cv 1 _ rfl).1 nv;have q2:=hG.at (Cv 2 _ rfl).1 nv;simp[JD,go_sem,h9,q0,q1,q2])
    |(refine Br _ (Bs T (fun γ v L w hl h=>h.stay (by decide) rfl) (fun γ L a w hH hl h9 k9=>⟨_,?_,rfl⟩)) ?_;· have hG:=hH.glob.early (Bu hH (Bv (j:=11) ah (by kernel_rfl)) hl);have q0:=hG.at (Cb 1 _ rfl).1 nb;have q1:=hG.at (Cb 2 _ rfl).1 nb;have q2:=hG.at (Cb 3 _ rfl).1 nb;simp[JC]at k9;simp[JD,go_sem,h9,k9,q0,q1,q2])
   refine Br _ (Bw (fun γ L a w hH hl hA=>by have h9:=T γ L a w hH;have k9:=hA;simp[JC]at k9;have hG:=hH.glob.early (Bu hH (Bv (j:=11) (i:=7) ah (by kernel_rfl)) hl);exact⟨112,#[BO (some ⟨fb,fo,none⟩),B_ #[J Y ((Jap b).x),J Y ((Jap b).y),J Y ((Jap b).z)],J Y n],by simp[go_sem,h9,k9],JA (Joi fb fo _ (Jap b) n w hG.cell hG.frozen) (by rintro e w2 ⟨rfl,ha⟩;exact⟨_,rfl,rfl,fun j v _ h=>h.keep _,FGS.come hG (by decide) (Bu hH (Bv (j:=11) (i:=7) ah (by kernel_rfl)) hl) hl rfl ha.out⟩)⟩)) ?_;refine Br _ (Bw (fun γ L a w hH hl hA=>by have h9:=T γ L a w hH;have k9:=hA;simp[JC]at k9;have hG:=hH.glob.early (Bu hH (Bv (j:=11) (i:=8) ah (by kernel_rfl)) hl);exact⟨107,#[BO (some ⟨fb,fo,none⟩),B_ #[J Y b.s.x,J Y b.s.y,J Y b.s.z],B_ #[J Y ((Jab b n).x),J Y ((Jab b n).y),J Y ((Jab b n).z)]],by simp[go_sem,h9,k9],JA (Jhw fb fo _ b.s (Jab b n) w hG.cell hG.frozen) (by rintro e w2 ⟨rfl,ha⟩;exact⟨_,rfl,rfl,fun j v _ h=>h.keep _,FGS.come hG (by decide) (Bu hH (Bv (j:=11) (i:=8) ah (by kernel_rfl)) hl) hl rfl ha.out⟩)⟩)) ?_
   iterate 2 first
    |(refine Br _ (Bs T (fun γ v L w hl h=>h.stay (by decide) rfl) (fun γ L a w hH hl h9 k9=>⟨_,?_,rfl⟩)) ?_;· simp[JD,go_sem,h9])
    |(refine Br _ (Bs T (fun γ v L w hl h=>h.stay (by decide) rfl) (fun γ L a w hH hl h9 k9=>⟨_,?_,rfl⟩)) ?_;· simp[JC]at k9;simp[JD,go_sem,h9,k9])
   refine Br _ (Bz (fun γ L a w hH hl hA=>by have h9:=T γ L a w hH;have k9:=hA;simp[JC]at k9;have hG:=hH.glob.early hl;have z0:=hG.at (Cb 1 _ rfl).1 nb;have cX:=hG.open (Cb 1 _ rfl).1 (Cb 1 _ rfl).2 nb;have z1:=hG.at (Cb 2 _ rfl).1 nb;have cY:=hG.open (Cb 2 _ rfl).1 (Cb 2 _ rfl).2 nb;have z2:=hG.at (Cb 3 _ rfl).1 nb;have cZ:=hG.open (Cb 3 _ rfl).1 (Cb 3 _ rfl).2 nb;exact⟨(((w.setCell ⟨pb,1,none⟩ (J Y ((Jt b.s (Jab b n)).x))).setCell ⟨pb,2,none⟩ (J Y ((Jt b.s (Jab b n)).y))).setCell ⟨pb,3,none⟩ (J Y ((Jt b.s (Jab b n)).z))),by simp[JD,go_sem,z0,cX,z1,cY,z2,cZ,h9,k9],trivial,fun j v _ h=>h.keep _,FGS.store (S:=fun w=>(((w.setCell ⟨pb,1,none⟩ (J Y ((Jt b.s (Jab b n)).x))).setCell ⟨pb,2,none⟩ (J Y ((Jt b.s (Jab b n)).y))).setCell ⟨pb,3,none⟩ (J Y ((Jt b.s (Jab b n)).z)))) hG rfl⟩)) ?_;exact RV.AllDo.nil
  ·intro γ w5 L9 hL aX aD;obtain⟨w8,bi,rfl⟩:=aD.late (hL 11 (by decide));have cE:orL (f||Jcm b||Jcg b b.l) [(7,Jcb (Jap b) n),(8,Jbh b.s (Jab b n))] L9=((f||Jcm b||Jcg b b.l) ||(Jcb (Jap b) n||Jbh b.s (Jab b n))):=by unfold orL;simp only[List.any_cons,List.any_nil,hL 7 (by decide),hL 8 (by decide),Bool.true_and,Bool.or_false,Bool.or_assoc]
   have a_:BU (After _ _ _ _):=bi.leaves.done bi.cell bi.frozen;rw[cE]at a_;clear bi cE;clear hL aX aD;simp only[RV.putL,Act.put,JH,JG,JF];have HS:BU (Clo _ _ _ _ _ _):=HS.out.same a_.out nb;have HS:BU (Clo _ _ _ _ _ _):=HS.out.set3 nb 1 (J Y (Jt b.s (Jab b n)).x) (J Y (Jt b.s (Jab b n)).y) (J Y (Jt b.s (Jab b n)).z) (Jcd hR.out (by decide));simp only[Nat.reduceAdd]at HS;have Ch:=Ch.after a_.out nh;have Ch:=((Ch.other (a:=⟨pb,1,none⟩) bh.symm (J Y (Jt b.s (Jab b n)).x)).other (a:=⟨pb,2,none⟩) bh.symm (J Y (Jt b.s (Jab b n)).y)).other (a:=⟨pb,3,none⟩) bh.symm (J Y (Jt b.s (Jab b n)).z);clear a_ Cv Cb aN aT;obtain⟨V6,AY⟩:∃ X,X=(((w8.setCell ⟨pb,1,none⟩ (J Y (Jt b.s (Jab b n)).x)).setCell ⟨pb,2,none⟩ (J Y (Jt b.s (Jab b n)).y)).setCell ⟨pb,3,none⟩ (J Y (Jt b.s (Jab b n)).z)):=⟨_,rfl⟩
   rw[<- AY]at HS Ch ⊢;obtain⟨b1,ac⟩:∃ x,x=b.ws (Jt b.s (Jab b n)) b.q:=⟨_,rfl⟩
   have HS:BU (Clo ⟨fb,fo,none⟩ ((f||Jcm b||Jcg b b.l) ||(Jcb (Jap b) n||Jbh b.s (Jab b n))) pb (b1.L R0) V V6):=by rw[ac];exact HS.out
   have Cb:=HS.out.cw;have aN:=HS.out.cell;have aT:=HS.out.frozen;clear AY;go_upto_region 6 with fail;refine Bq [.some (BO (some ⟨fb,fo,none⟩)),.some (BO (some ⟨pb,1,none⟩)),.some (BO (some ⟨pb,4,none⟩)),.some (B_ #[J Y b1.q.w,J Y b1.q.x,J Y b1.q.y,J Y b1.q.z]),.some (BO (some ⟨fb,fo,none⟩)),.some (B_ #[J Y ((Jag b b.l).x),J Y ((Jag b b.l).y),J Y ((Jag b b.l).z)]),.some (J Y n),.some (J Y (n / 2)),.some (B_ #[J Y ((Jae b n).x),J Y ((Jae b n).y),J Y ((Jae b n).z)]),.some (B_ #[J Y ((Ja4 b1.q (Jae b n)).w),J Y ((Ja4 b1.q (Jae b n)).x),J Y ((Ja4 b1.q (Jae b n)).y),J Y ((Ja4 b1.q (Jae b n)).z)]),.some (BO (some ⟨pb,1,none⟩)),.some (BO (some ⟨pb,4,none⟩)),none] [31,32,33,34,35,36,37,38,39,40,41,42,0] [(0,BO (some ⟨fb,fo,none⟩)),(2,J Y n),(4,BO (some ⟨pb,0,none⟩)),(8,BO (some ⟨ph,0,none⟩))] (fun γ L w9=>FGS V6 ⟨fb,fo,none⟩ ((f||Jcm b||Jcg b b.l) ||(Jcb (Jap b) n||Jbh b.s (Jab b n))) [(7,false),(8,Jcb (Jag b b.l) (n / 2)),(9,Jgg b1.q (Jae b n))] 12 (fun w=>((((w.setCell ⟨pb,4,none⟩ (J Y ((Ja4 b1.q (Jae b n)).w))).setCell ⟨pb,5,none⟩ (J Y ((Ja4 b1.q (Jae b n)).x))).setCell ⟨pb,6,none⟩ (J Y ((Ja4 b1.q (Jae b n)).y))).setCell ⟨pb,7,none⟩ (J Y ((Ja4 b1.q (Jae b n)).z)))) L w9) ⟨rfl,rfl,rfl,rfl,trivial⟩ ?_ ?_ ?_
   ·exact FGS.start aN aT
   ·intro D WA Z hD ah hZ T;simp only[RV.Outs,RV.Slots,Nat.reduceAdd]at T
    iterate 7 first
     |(refine Br _ (Bs T (fun γ v L w hl h=>h.stay (by decide) rfl) (fun γ L a w hH hl h9 k9=>⟨_,?_,rfl⟩)) ?_;· simp[JD,go_sem,h9])
     |(refine Br _ (Bs T (fun γ v L w hl h=>h.stay (by decide) rfl) (fun γ L a w hH hl h9 k9=>⟨_,?_,rfl⟩)) ?_;· simp[JC]at k9;simp[JD,go_sem,h9,k9])
     |(refine Br _ (Bs T (fun γ v L w hl h=>h.stay (by decide) rfl) (fun γ L a w hH hl h9 k9=>⟨_,?_,rfl⟩)) ?_;· have hG:=hH.glob.early (Bu hH (Bv (j:=12) ah (by kernel_rfl)) hl);have q0:=hG.at (Ch 0 _ rfl).1 nh;have q1:=hG.at (Ch 1 _ rfl).1 nh;have q2:=hG.at (Ch 2 _ rfl).1 nh;simp[JD,go_sem,h9,q0,q1,q2])
     |(refine Br _ (Bs T (fun γ v L w hl h=>h.stay (by decide) rfl) (fun γ L a w hH hl h9 k9=>⟨_,?_,rfl⟩)) ?_;· have hG:=hH.glob.early (Bu hH (Bv (j:=12) ah (by kernel_rfl)) hl);have q0:=hG.at (Cb 4 _ rfl).1 nb;have q1:=hG.at (Cb 5 _ rfl).1 nb;have q2:=hG.at (Cb 6 _ rfl).1 nb;have q3:=hG.at (Cb 7 _ rfl).1 nb;simp[JC]at k9;simp[JD,go_sem,h9,k9,q0,q1,q2,q3])
    refine Br _ (Bw (fun γ L a w hH hl hA=>by have h9:=T γ L a w hH;have k9:=hA;simp[JC]at k9;have hG:=hH.glob.early (Bu hH (Bv (j:=12) (i:=7) ah (by kernel_rfl)) hl);exact⟨114,#[J Y n],by simp[go_sem,h9,k9],JA (Jte fb fo _ n hn w hG.cell hG.frozen) (by rintro e w2 ⟨rfl,ha⟩;exact⟨_,rfl,rfl,fun j v _ h=>h.keep _,FGS.come hG (by decide) (Bu hH (Bv (j:=12) (i:=7) ah (by kernel_rfl)) hl) hl rfl ha.out⟩)⟩)) ?_;refine Br _ (Bw (fun γ L a w hH hl hA=>by have h9:=T γ L a w hH;have k9:=hA;simp[JC]at k9;have hG:=hH.glob.early (Bu hH (Bv (j:=12) (i:=8) ah (by kernel_rfl)) hl);exact⟨112,#[BO (some ⟨fb,fo,none⟩),B_ #[J Y ((Jag b b.l).x),J Y ((Jag b b.l).y),J Y ((Jag b b.l).z)],J Y (n / 2)],by simp[go_sem,h9,k9],JA (Joi fb fo _ (Jag b b.l) (n / 2) w hG.cell hG.frozen) (by rintro e w2 ⟨rfl,ha⟩;exact⟨_,rfl,rfl,fun j v _ h=>h.keep _,FGS.come hG (by decide) (Bu hH (Bv (j:=12) (i:=8) ah (by kernel_rfl)) hl) hl rfl ha.out⟩)⟩)) ?_;refine Br _ (Bw (fun γ L a w hH hl hA=>by have h9:=T γ L a w hH;have k9:=hA;simp[JC]at k9;have hG:=hH.glob.early (Bu hH (Bv (j:=12) (i:=9) ah (by kernel_rfl)) hl);exact⟨113,#[BO (some ⟨fb,fo,none⟩),B_ #[J Y b1.q.w,J Y b1.q.x,J Y b1.q.y,J Y b1.q.z],B_ #[J Y ((Jae b n).x),J Y ((Jae b n).y),J Y ((Jae b n).z)]],by simp[go_sem,h9,k9],JA (Jvi fb fo _ b1.q (Jae b n) w hG.cell hG.frozen) (by rintro e w2 ⟨rfl,ha⟩;exact⟨_,rfl,rfl,fun j v _ h=>h.keep _,FGS.come hG (by decide) (Bu hH (Bv (j:=12) (i:=9) ah (by kernel_rfl)) hl) hl rfl ha.out⟩)⟩)) ?_
    iterate 2 first
     |(refine Br _ (Bs T (fun γ v L w hl h=>h.stay (by decide) rfl) (fun γ L a w hH hl h9 k9=>⟨_,?_,rfl⟩)) ?_;· simp[JD,go_sem,h9])
     |(refine Br _ (Bs T (fun γ v L w hl h=>h.stay (by decide) rfl) (fun γ L a w hH hl h9 k9=>⟨_,?_,rfl⟩)) ?_;· simp[JC]at k9;simp[JD,go_sem,h9,k9])
    refine Br _ (Bz (fun γ L a w hH hl hA=>by have h9:=T γ L a w hH;have k9:=hA;simp[JC]at k9;have hG:=hH.glob.early hl;have z0:=hG.at (Cb 4 _ rfl).1 nb;have cX:=hG.open (Cb 4 _ rfl).1 (Cb 4 _ rfl).2 nb;have z1:=hG.at (Cb 5 _ rfl).1 nb;have cY:=hG.open (Cb 5 _ rfl).1 (Cb 5 _ rfl).2 nb;have z2:=hG.at (Cb 6 _ rfl).1 nb;have cZ:=hG.open (Cb 6 _ rfl).1 (Cb 6 _ rfl).2 nb;have z3:=hG.at (Cb 7 _ rfl).1 nb;have nI:=hG.open (Cb 7 _ rfl).1 (Cb 7 _ rfl).2 nb;exact⟨((((w.setCell ⟨pb,4,none⟩ (J Y ((Ja4 b1.q (Jae b n)).w))).setCell ⟨pb,5,none⟩ (J Y ((Ja4 b1.q (Jae b n)).x))).setCell ⟨pb,6,none⟩ (J Y ((Ja4 b1.q (Jae b n)).y))).setCell ⟨pb,7,none⟩ (J Y ((Ja4 b1.q (Jae b n)).z))),by simp[JD,go_sem,z0,cX,z1,cY,z2,cZ,z3,nI,h9,k9],trivial,fun j v _ h=>h.keep _,FGS.store (S:=fun w=>((((w.setCell ⟨pb,4,none⟩ (J Y ((Ja4 b1.q (Jae b n)).w))).setCell ⟨pb,5,none⟩ (J Y ((Ja4 b1.q (Jae b n)).x))).setCell ⟨pb,6,none⟩ (J Y ((Ja4 b1.q (Jae b n)).y))).setCell ⟨pb,7,none⟩ (J Y ((Ja4 b1.q (Jae b n)).z)))) hG rfl⟩)) ?_;exact RV.AllDo.nil
   ·intro γ w5 L9 hL aX aD;obtain⟨w8,bi,rfl⟩:=aD.late (hL 12 (by decide));have cE:orL ((f||Jcm b||Jcg b b.l) ||(Jcb (Jap b) n||Jbh b.s (Jab b n))) [(7,false),(8,Jcb (Jag b b.l) (n / 2)),(9,Jgg b1.q (Jae b n))] L9=(((f||Jcm b||Jcg b b.l) ||(Jcb (Jap b) n||Jbh b.s (Jab b n))) ||(false||Jcb (Jag b b.l) (n / 2)||Jgg b1.q (Jae b n))):=by unfold orL;simp only[List.any_cons,List.any_nil,hL 7 (by decide),hL 8 (by decide),hL 9 (by decide),Bool.true_and,Bool.or_false,Bool.or_assoc]
    have a_:BU (After _ _ _ _):=bi.leaves.done bi.cell bi.frozen;rw[cE]at a_;clear bi cE;clear hL aX aD;simp only[RV.putL,Act.put,JH,JG,JF];have HS:BU (Clo _ _ _ _ _ _):=HS.out.same a_.out nb;have HS:BU (Clo _ _ _ _ _ _):=(HS.out.set nb 4 (J Y (Ja4 b1.q (Jae b n)).w) (Jcd hR.out (by decide))).set3 nb 5 (J Y (Ja4 b1.q (Jae b n)).x) (J Y (Ja4 b1.q (Jae b n)).y) (J Y (Ja4 b1.q (Jae b n)).z) (by simp[hR.out.all]);simp only[Nat.reduceAdd]at HS;clear a_;obtain⟨X9,fH⟩:∃ X,X=((((w8.setCell ⟨pb,4,none⟩ (J Y (Ja4 b1.q (Jae b n)).w)).setCell ⟨pb,5,none⟩ (J Y (Ja4 b1.q (Jae b n)).x)).setCell ⟨pb,6,none⟩ (J Y (Ja4 b1.q (Jae b n)).y)).setCell ⟨pb,7,none⟩ (J Y (Ja4 b1.q (Jae b n)).z)):=⟨_,rfl⟩
    rw[<- fH]at HS ⊢;have HS:BU (Clo ⟨fb,fo,none⟩ (f||goB b n) pb ((goD b n).L R0) V X9):=by
     have e9:(((f||Jcm b||Jcg b b.l) ||(Jcb (Jap b) n||Jbh b.s (Jab b n))) ||(false||Jcb (Jag b b.l) (n / 2)||Jgg b1.q (Jae b n)))=(f||goB b n):=by
      subst ac;unfold goB Jkd;rw[Bool.false_or];show _=(f ||(_ ||(_||Jgg b.q (Jae b n))));ac_rfl
     rw[e9]at HS;subst ac;exact HS.out
    clear ac Cb Ch aN aT;clear fH;have eB:=HS.out.cw;have dr:=Cr.two HS.out.two nr br;have eC:BU (Leaves ⟨fb,fo,none⟩ W X9):=aY.out.two HS.out.two aO dB;have da:=HS.out.cell;have eD:=HS.out.frozen;clear HS Cr aY;have bC:BU _:=Jj hR.out ((goD b n));have cd:BU _:=Jn hR.out ((goD b n));have bW:BU _:=hR.out.each ((goD b n));have au:BU (World.rangeAt X9 pb 0 (((goD b n)).L R0)):=eB.range;have bT:BU (World.there X9 pr 0 (((goD b n)).L R0).toArray.size):=dr.there31 bS hR.out;have cH:BU (World.rangeAt _ _ _ _):=(dr.sets (us:=((goD b n)).L R0) (by rw[hR.out.all,bS])).range;have cV:BU (Leaves ⟨fb,fo,none⟩ W (X9.setCells pr 0 (((goD b n)).L R0))):=eC.out.sets aE _;have cI:BU _:=(Jaj (w:=X9) (vs:=((goD b n)).L R0) (o:=fo) nr').trans da;have cW:BU _:=(World.frozen?_setCells pr (((goD b n)).L R0) 0 X9 ⟨fb,fo,none⟩).trans eD;generalize aM:((goD b n)).L R0=cs at *;have bH:BU _:=aM;clear aM eB dr eC da eD;go_wp2_with (first | refine wpList_load_mid rfl 39 _ rfl pb 0 rfl _ _ au.out underlying39 rfl bC.out ?_ | refine wpList_store_mid rfl 39 _ _ rfl pr 0 _ rfl rfl bT.out cd.out bW.out ?_);refine bodyPost_ret (J7 6 39 results49 ⟨pr,0,none⟩ rfl (run_loadVar_mid _ pr 0 39 cs _ cH.out underlying39 rfl bC.out)) rfl ?_;refine⟨by rw[eu.out,bH.out],?_⟩;rw[dJ.out];exact cV.out.done cI.out cW.out
 ·have mK:(b.k == 2)=false:=by simpa using hk
  have eu:BU (v9=b):=by have h9:=HE.out.1;rw[ifB,if_neg hk]at h9;exact h9
  have dJ:BU (g9=f):=by have h9:=HE.out.2;rw[Jav,if_neg hk,Bool.or_false]at h9;exact h9
  clear HE HS;have eB:=Cb;have dr:=Cr;have eC:=aY;have da:=aN;have eD:=aT;clear Cb Cr aY aN aT;have bC:BU _:=Jj hR.out (b);have cd:BU _:=Jn hR.out (b);have bW:BU _:=hR.out.each (b);have au:BU (World.rangeAt V pb 0 ((b).L R0)):=eB.range;have bT:BU (World.there V pr 0 ((b).L R0).toArray.size):=dr.there31 bS hR.out;have cH:BU (World.rangeAt _ _ _ _):=(dr.sets (us:=(b).L R0) (by rw[hR.out.all,bS])).range;have cV:BU (Leaves ⟨fb,fo,none⟩ W (V.setCells pr 0 ((b).L R0))):=eC.out.sets aE _;have cI:BU _:=(Jaj (w:=V) (vs:=(b).L R0) (o:=fo) nr').trans da;have cW:BU _:=(World.frozen?_setCells pr ((b).L R0) 0 V ⟨fb,fo,none⟩).trans eD;generalize aM:(b).L R0=cs at *;have bH:BU _:=aM;clear aM eB dr eC da eD;go_wp2_with (first | refine wpList_load_mid rfl 39 _ rfl pb 0 rfl _ _ au.out underlying39 rfl bC.out ?_ | refine wpList_store_mid rfl 39 _ _ rfl pr 0 _ rfl rfl bT.out cd.out bW.out ?_);refine bodyPost_ret (J7 6 39 results49 ⟨pr,0,none⟩ rfl (run_loadVar_mid _ pr 0 39 cs _ cH.out underlying39 rfl bC.out)) rfl ?_;refine⟨by rw[eu.out,bH.out],?_⟩;rw[dJ.out];exact cV.out.done cI.out cW.out
def hlf(a:V3):V3:=⟨a.x.tdiv 2,a.y.tdiv 2,a.z.tdiv 2⟩
def hvd(slow bad:V3->Bool):Nat->V3->V3 × Bool × Bool
 | 0,p=>(p,false,bad p)
 | n+1,p=>if slow p then (p,false,bad p) else ((hvd slow bad n (hlf p)).1,true,bad p ||(hvd slow bad n (hlf p)).2.2)
def Sml(n:Nat)(a:V3):Prop:=a.x.natAbs<2 ^ n/\a.y.natAbs<2 ^ n/\a.z.natAbs<2 ^ n
theorem Jti{n:Nat}{a:V3}(h:Sml (n+1) a):Sml n (hlf a):=by
 obtain⟨h1,h2,h3⟩:=h;have e:2 ^ (n+1)=2*2 ^ n:=by rw[Nat.pow_succ,Nat.mul_comm]
 rw[e]at h1 h2 h3;have e2:∀ x:Int,(x.tdiv 2).natAbs=x.natAbs / 2:=fun x=>by rw[Int.natAbs_tdiv];rfl
 refine⟨?_,?_,?_⟩ <;> simp only[hlf,e2] <;> omega
theorem Jrv{a:V3}(h:Sml 0 a):a=⟨0,0,0⟩:=by
 obtain⟨x,y,z⟩:=a;obtain⟨h1,h2,h3⟩:=h;simp only[Nat.pow_zero]at h1 h2 h3
 congr 1 <;> omega
theorem Joz{n:Nat}{a:V3}(h:Sml n a)(hn:n<=64):Sml 64 a:=by
 have:2 ^ n<=2 ^ 64:=Nat.pow_le_pow_right (by decide) hn;obtain⟨h1,h2,h3⟩:=h;exact⟨by omega,by omega,by omega⟩
theorem Jmb{a:V3}(h:Sml 64 a):wrap64 (a.x.tdiv 2)=(hlf a).x/\wrap64 (a.y.tdiv 2)=(hlf a).y/\wrap64 (a.z.tdiv 2)=(hlf a).z:=by
 obtain⟨h1,h2,h3⟩:=h;have e2:∀ x:Int,(x.tdiv 2).natAbs=x.natAbs / 2:=fun x=>by rw[Int.natAbs_tdiv];rfl
 have k1:=e2 a.x;have k2:=e2 a.y;have k3:=e2 a.z;simp only[Nat.reducePow]at h1 h2 h3;exact⟨w64 (by omega) (by omega),w64 (by omega) (by omega),w64 (by omega) (by omega)⟩
structure Hv(slow bad:V3->Bool)(R9:V3 × Bool × Bool)(f:Bool)(n:Nat)(p:V3)(did g:Bool):Prop where
 fin:(hvd slow bad n p).1=R9.1
 did:(did ||(hvd slow bad n p).2.1)=R9.2.1
 bad:(g ||(hvd slow bad n p).2.2)=(f||R9.2.2)
 sml:Sml n p
theorem Hv.stop{slow bad:V3->Bool}{R9:V3 × Bool × Bool}{f:Bool}{n:Nat}{p:V3}{did g:Bool}(h:Hv slow bad R9 f n p did g)(hs:slow p=true):p=R9.1/\did=R9.2.1/\(g||bad p)=(f||R9.2.2):=by
 obtain⟨h1,h2,h3,_⟩:=h;have e:hvd slow bad n p=(p,false,bad p):=by
  cases n with
  | zero=>rfl
  | succ n=>rw[hvd,if_pos hs]
 rw[e]at h1 h2 h3;exact⟨h1,by simpa using h2,h3⟩
theorem Hv.next{slow bad:V3->Bool}{R9:V3 × Bool × Bool}{f:Bool}{n:Nat}{p:V3}{did g:Bool}(h:Hv slow bad R9 f n p did g)(h0:slow ⟨0,0,0⟩=true)(hs:slow p=false):∃ m,n=m+1/\Hv slow bad R9 f m (hlf p) true (g||bad p):=by
 cases n with
 | zero =>
  have:=Jrv h.sml;rw[this,h0]at hs;cases hs
 | succ m =>
  obtain⟨h1,h2,h3,h4⟩:=h;rw[hvd,hs]at h1 h2 h3;simp only[Bool.false_eq_true,if_false]at h1 h2 h3;exact⟨m,rfl,h1,by simpa using h2,by rw[Bool.or_assoc];exact h3,Jti h4⟩
theorem Jj0(gf:Nat)(caps:Array B7)(eg:∀ args w,(callFunc gf args).run Tryz.prog w = .ok (.enter gf args) w)(ob pb o:Nat)(D:V3->Bd)(R:List B7)(slow bad:V3->Bool)(f:Bool)(p:V3)(V:BV)
  (hc:V.cell? ⟨ob,0,none⟩=some (BT f)) (hf:V.frozen? ⟨ob,0,none⟩=false) (Cb:CW V pb ((D p).L R)) (nb:pb≠ob) (hR:Rest R) (ho:o+2<31)
  (Bm:∀ q,((D q).L R)[o]?=some (J Y q.x)) (Bn:∀ q,((D q).L R)[o+1]?=some (J Y q.y)) (Bo:∀ q,((D q).L R)[o+2]?=some (J Y q.z))
  (Bp:∀ q q',((((D q).L R).set o (J Y q'.x)).set (o+1) (J Y q'.y)).set (o+2) (J Y q'.z)=(D q').L R)
  (dl:∀(q:V3) (g:Bool) (X:BV),X.cell? ⟨ob,0,none⟩=some (BT g)->X.frozen? ⟨ob,0,none⟩=false->CW X pb ((D q).L R)->Cd Tryz.prog gf caps X fun e X'=>e = BZ (BT (slow q))/\BU (After ⟨ob,0,none⟩ (g||bad q) X X'))
  (pW:slow ⟨0,0,0⟩=true) (hp:Sml 64 p) :
  Cd Tryz.prog 116 #[BO (some ⟨pb,o,none⟩),.func (.func gf) #[] caps] V fun e W'=>e = BZ (BT (hvd slow bad 64 p).2.1)/\BU (Clo ⟨ob,0,none⟩ (f ||(hvd slow bad 64 p).2.2) pb ((D (hvd slow bad 64 p).1).L R) V W'):=by
 have HV:BU _:=(⟨rfl,rfl,rfl,hp⟩:Hv slow bad (hvd slow bad 64 p) f 64 p false f)
 have qZ:BU _:=dl;have HS:BU (Clo _ _ _ _ _ _):=Clo.start hc hf Cb;have HDS:BU _:=Bp;have kA:BU _:=pW;have HD0:BU _:=Bm;have HD1:BU _:=Bn;have HD2:BU _:=Bo;generalize hvd slow bad 64 p=R9 at *;clear dl hc hf Cb Bp pW Bm Bn Bo;go_enter func116,ntmps116;go_wp2_with (fail)
 go_loopg [5] 64 (fun gm s5 wr=>∃(q:V3) (did g:Bool),s5 = BT did/\gm<=64/\BU (Hv slow bad R9 f gm q did g)/\BU (Clo ⟨ob,0,none⟩ g pb ((D q).L R) V wr))
 case atStart=>exact⟨p,false,f,rfl,Nat.le_refl _,HV,HS⟩
 case round =>
  obtain⟨q,did,g,rfl,be,HI,HK⟩:=hrel;clear HV HS;go_wp2_with (fail);refine JA (qZ.out q g wr HK.out.cell HK.out.frozen HK.out.cw) ?_;rintro e X1 ⟨rfl,A⟩;have HK:BU (Clo _ _ _ _ _ _):=HK.out.same A.out nb;clear A;cases cQ:slow q with
  | true =>
   obtain⟨e1,e2,e3⟩:=HI.out.stop cQ;have HE:BU _:=And.intro e1 (And.intro e2 e3);clear e1 e2 e3 cQ HI;go_wp2_with (fail);go_ret;refine⟨by rw[HE.out.2.1];rfl,?_⟩;rw[<- HE.out.2.2,<- HE.out.1];exact HK
  | false =>
   obtain⟨m,rfl,HN⟩:=HI.out.next kA.out cQ
   have hq:=HI.out.sml;have HN:BU (Hv _ _ _ _ _ _ _ _):=HN;clear cQ HI;obtain⟨c0,f0⟩:=HK.out.cw o _ (HD0.out q);obtain⟨c1,f1⟩:=HK.out.cw (o+1) _ (HD1.out q);obtain⟨c2,f2⟩:=HK.out.cw (o+2) _ (HD2.out q);go_wp2_with (fail);go_region;go_wp2_with (fail)
   go_roundg m
   case measure=>omega
   case rel =>
    have h9:=HK.out.set3 nb o (J Y (hlf q).x) (J Y (hlf q).y) (J Y (hlf q).z) (Jcd hR ho);rw[HDS.out]at h9;obtain⟨w0,w1,w2⟩:=Jmb (Joz hq be);refine⟨hlf q,true,g||bad q,rfl,by omega,HN,?_⟩;rw[w0,w1,w2];exact h9.step (Below.refl _ _).drew
def Jh6(b:Bd)(p:V3):Bool:=decide (Jgy (Jap (b.wp p))<=274877906944)
def Jfh(b:Bd)(p:V3):Bool:=Jcm (b.wp p)||Jug (Jap (b.wp p))
def Jhy(b:Bd)(l:V3):Bool:=decide (Jgy (Jag (b.wl l) l)<=68719476736)
def Ji4(b:Bd)(l:V3):Bool:=Jcg (b.wl l) l||Jug (Jag (b.wl l) l)
theorem Jqw(ob pb:Nat)(b:Bd)(R:List B7)(hR:Rest R)(hk:b.k=2)(q:V3)(g:Bool)(X:BV)(hc:X.cell? ⟨ob,0,none⟩=some (BT g))(hf:X.frozen? ⟨ob,0,none⟩=false)(Cb:CW X pb ((b.wp q).L R)):
  Cd Tryz.prog 117 #[BO (some ⟨ob,0,none⟩),BO (some ⟨pb,0,none⟩)] X fun e X'=>e = BZ (BT (Jh6 b q))/\BU (After ⟨ob,0,none⟩ (g||Jfh b q) X X'):=by
 have hz:BU _:=Jj hR (b.wp q);have au:BU (World.rangeAt X pb 0 _):=Cb.range;have HC:BU _:=Jmk ob 0 g (b.wp q) R hR hk X hc hf;have HN:BU _:=fun w=>Jsh ob 0 (g||Jcm (b.wp q)) (Jap (b.wp q)) w;clear Cb hc hf;unfold Jh6 Jfh;go_enter func117,ntmps117;go_wp2_with (refine wpList_load_mid rfl 39 _ rfl pb 0 rfl _ _ au.out underlying39 rfl hz.out ?_);refine JA HC.out ?_;rintro e X1 ⟨rfl,A⟩;have HA:BU (After _ _ _ _):=A.out;clear A HC au;go_wp2_with (fail);refine JA (HN.out X1 HA.out.cell HA.out.frozen) ?_;rintro e X2 ⟨rfl,A⟩;have HA:BU (After _ _ _ _):=HA.out.trans A.out;rw[Bool.or_assoc]at HA;clear A HN;go_wp2_with (fail);go_ret;exact⟨rfl,HA⟩
theorem Jp0(ob pb:Nat)(b:Bd)(R:List B7)(hR:Rest R)(hk:b.k=2)(q:V3)(g:Bool)(X:BV)(hc:X.cell? ⟨ob,0,none⟩=some (BT g))(hf:X.frozen? ⟨ob,0,none⟩=false)(Cb:CW X pb ((b.wl q).L R)):
  Cd Tryz.prog 119 #[BO (some ⟨ob,0,none⟩),BO (some ⟨pb,0,none⟩)] X fun e X'=>e = BZ (BT (Jhy b q))/\BU (After ⟨ob,0,none⟩ (g||Ji4 b q) X X'):=by
 have hz:BU _:=Jj hR (b.wl q);have au:BU (World.rangeAt X pb 0 _):=Cb.range;have HC:BU _:=Jpo ob 0 g (b.wl q) R hR hk X hc hf;have HN:BU _:=fun w=>Jsh ob 0 (g||Jcg (b.wl q) q) (Jag (b.wl q) q) w;clear Cb hc hf;unfold Jhy Ji4;go_enter func119,ntmps119;go_wp2_with (refine wpList_load_mid rfl 39 _ rfl pb 0 rfl _ _ au.out underlying39 rfl hz.out ?_);refine JA HC.out ?_;rintro e X1 ⟨rfl,A⟩;have HA:BU (After _ _ _ _):=A.out;clear A HC au;go_wp2_with (fail);refine JA (HN.out X1 HA.out.cell HA.out.frozen) ?_;rintro e X2 ⟨rfl,A⟩;have HA:BU (After _ _ _ _):=HA.out.trans A.out;rw[Bool.or_assoc]at HA;clear A HN;go_wp2_with (fail);go_ret;exact⟨rfl,HA⟩
end
end Go.Proofs.YtkblcfgamnmbkaaGreat
