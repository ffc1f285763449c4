/- The document's own functions of points. -/
import Derived.Test.YtkblcfgamnmbkaaGreatEBRight0
import Derived.Test.YtkblcfgamnmbkaaGreatEBRight8
import Derived.Test.YtkblcfgamnmbkaaGreatEBRight1
import Derived.Test.YtkblcfgamnmbkaaGreatEBRight3
set_option maxHeartbeats 4000000
set_option maxRecDepth 100000
set_option linter.unusedVariables false
namespace Go.Proofs.YtkblcfgamnmbkaaGreat
open Go.Calls renaming mono -> JA
open Go.World renaming block_lt_of_cell? -> JB
open Go.Region renaming binds -> JC
open Go renaming execOp -> JD
open List renaming set_cons_succ -> JF
open List renaming set_cons_zero -> JG
open List renaming setIfInBounds_toArray -> JH
open Go.Proofs.Tryz
open Go.Value renaming int -> J
open Go.IntKind renaming i64 -> I
open Go.Value renaming pointer -> BO
open Go.Obj renaming cells -> BP
open Go.Value renaming slice -> BQ
open Go.Value renaming bool -> BT
open Go.RowKit renaming Hid -> BU
open Go renaming World -> BV
open Go.Ending renaming returned -> BZ
open Go renaming Value -> B7
open Go.RowKit renaming Below -> B9
open Go.Value renaming agg -> B_
open Go renaming Calls -> Cd
open Go renaming Addr -> Ce
open Go renaming Act -> Cf
section
open Go.RowKit Go.Shelf
theorem Jcp(p q:Pt)(w:BV)(hp:p.inB 1152921504606846976=true)(hq:q.inB 1152921504606846976=true):
  Cd Tryz.prog 181 #[p.v,q.v] w fun e W=>e = BZ (p.sub q).v/\B9 w.heap.size w W:=by
 obtain⟨x,y,z⟩:=p;obtain⟨x',y',z'⟩:=q;rw[Pt.inB_iff]at hp hq;unfold Pt.v Pt.sub;dsimp only at *;go_enter func181,ntmps181;go_wp2;exact bodyPost_ret (v:=B_ #[J I (x-x'),J I (y-y'),J I (z-z')]) (by simp[results,results181,go_sem]) rfl ⟨rfl,(((Below.refl _ w).alloc (Nat.le_refl _) _).alloc (by simp) _).alloc (by simp;omega) _⟩
theorem Jlb(p q:Pt)(w:BV)(hp:p.inB 34359738368=true)(hq:q.inB 131072=true):
  Cd Tryz.prog 180 #[p.v,q.v] w fun e W=>e = BZ (J I (p.dot q))/\B9 w.heap.size w W:=by
 obtain⟨x,y,z⟩:=p;obtain⟨x',y',z'⟩:=q;rw[Pt.inB_iff]at hp hq;unfold Pt.v Pt.dot;dsimp only at *;have h1:=Jbj hp.1 hq.1 (by decide);have h2:=Jbj hp.2.1 hq.2.1 (by decide);have h3:=Jbj hp.2.2 hq.2.2 (by decide);clear hp hq;go_enter func180,ntmps180;go_wp2;go_ret;exact⟨rfl,((Below.refl _ w).alloc (Nat.le_refl _) _).alloc (by simp) _⟩
theorem Jnn(p q:Pt)(w:BV)(hp:p.inB 131072=true)(hq:q.inB 131072=true):
  Cd Tryz.prog 198 #[p.v,q.v] w fun e W=>e = BZ (p.cross q).v/\B9 w.heap.size w W:=by
 obtain⟨x,y,z⟩:=p;obtain⟨x',y',z'⟩:=q;rw[Pt.inB_iff]at hp hq;unfold Pt.v Pt.cross;dsimp only at *;have h1:=Jbj hp.2.1 hq.2.2 (by decide);have h2:=Jbj hp.2.2 hq.2.1 (by decide);have h3:=Jbj hp.2.2 hq.1 (by decide);have h4:=Jbj hp.1 hq.2.2 (by decide);have h5:=Jbj hp.1 hq.2.1 (by decide);have h6:=Jbj hp.2.1 hq.1 (by decide);clear hp hq;go_enter func198,ntmps198;go_wp2;refine bodyPost_ret (v:=B_ #[J I (y*z'-z*y'),J I (z*x'-x*z'),J I (x*y'-y*x')]) ?_ rfl ⟨rfl,(((Below.refl _ w).alloc (Nat.le_refl _) _).alloc (by simp) _).alloc (by simp;omega) _⟩;simp[results,results198,go_sem]
theorem Jif(a b c:Pt)(w0:BV)(ha:a.inB 65536=true)(hb:b.inB 65536=true)(hc:c.inB 65536=true):
  Cd Tryz.prog 179 #[a.v,b.v,c.v] w0 fun e W=>e = BZ ((b.sub a).cross (c.sub a)).v/\B9 w0.heap.size w0 W:=by
 have L1:BU _:=fun w'=>Jcp b a w' (J8 hb (by decide)) (J8 ha (by decide));have L2:BU _:=fun w'=>Jcp c a w' (J8 hc (by decide)) (J8 ha (by decide));have L3:BU _:=fun w'=>Jnn (b.sub a) (c.sub a) w' (Jcq hb ha) (Jcq hc ha);clear ha hb hc;obtain⟨ax,ay,az⟩:=a;obtain⟨bx,dk,bz⟩:=b;obtain⟨cx,cy,cz⟩:=c;unfold Pt.v Pt.sub Pt.cross at *;dsimp only at *;go_enter func179,ntmps179;go_wp2_with (fail);obtain⟨V,hV⟩:∃ V:BV,V=((((w0.alloc (BP #[J I ax,J I ay,J I az] 23)).alloc (BP #[J I bx,J I dk,J I bz] 23)).alloc (BP #[J I cx,J I cy,J I cz] 23)).alloc (BP #[J I 0,J I 0,J I 0] 23)):=⟨_,rfl⟩
 have iU:B9 w0.heap.size w0 V:=by rw[hV];exact(((((Below.refl _ w0).alloc (by simp;try omega) _).alloc (by simp;try omega) _).alloc (by simp;try omega) _).alloc (by simp;try omega) _)
 have eN:V.cell? ⟨w0.heap.size,0,none⟩=some (J I ax):=by rw[hV];simp[go_sem]
 have eO:V.cell? ⟨w0.heap.size,1,none⟩=some (J I ay):=by rw[hV];simp[go_sem]
 have eQ:V.cell? ⟨w0.heap.size,2,none⟩=some (J I az):=by rw[hV];simp[go_sem]
 have gM:V.cell? ⟨w0.heap.size+1,0,none⟩=some (J I bx):=by rw[hV];simp[go_sem]
 have gN:V.cell? ⟨w0.heap.size+1,1,none⟩=some (J I dk):=by rw[hV];simp[go_sem]
 have gO:V.cell? ⟨w0.heap.size+1,2,none⟩=some (J I bz):=by rw[hV];simp[go_sem]
 have nq:V.cell? ⟨w0.heap.size+1+1,0,none⟩=some (J I cx):=by rw[hV];simp[go_sem]
 have nt:V.cell? ⟨w0.heap.size+1+1,1,none⟩=some (J I cy):=by rw[hV];simp[go_sem]
 have nA:V.cell? ⟨w0.heap.size+1+1,2,none⟩=some (J I cz):=by rw[hV];simp[go_sem]
 have gP:V.cell? ⟨w0.heap.size+1+1+1,0,none⟩=some (J I 0):=by rw[hV];simp[go_sem]
 have gQ:V.cell? ⟨w0.heap.size+1+1+1,1,none⟩=some (J I 0):=by rw[hV];simp[go_sem]
 have gR:V.cell? ⟨w0.heap.size+1+1+1,2,none⟩=some (J I 0):=by rw[hV];simp[go_sem]
 have ko:V.frozen? ⟨w0.heap.size+1+1+1,0,none⟩=false:=by rw[hV];simp[go_sem]
 have kq:V.frozen? ⟨w0.heap.size+1+1+1,1,none⟩=false:=by rw[hV];simp[go_sem]
 have kr:V.frozen? ⟨w0.heap.size+1+1+1,2,none⟩=false:=by rw[hV];simp[go_sem]
 rw[<- hV];clear hV;refine Bq [.some (B_ #[J I bx,J I dk,J I bz]),.some (B_ #[J I ax,J I ay,J I az]),.some (B_ #[J I (bx-ax),J I (dk-ay),J I (bz-az)]),.some (B_ #[J I cx,J I cy,J I cz]),.some (B_ #[J I ax,J I ay,J I az]),.some (B_ #[J I (cx-ax),J I (cy-ay),J I (cz-az)]),.some (B_ #[J I ((dk-ay)*(cz-az)-(bz-az)*(cy-ay)),J I ((bz-az)*(cx-ax)-(bx-ax)*(cz-az)),J I ((bx-ax)*(cy-ay)-(dk-ay)*(cx-ax))]),none] [8,9,10,11,12,13,14,0] [(3,BO (some ⟨w0.heap.size,0,none⟩)),(4,BO (some ⟨w0.heap.size+1,0,none⟩)),(5,BO (some ⟨w0.heap.size+1+1,0,none⟩)),(6,BO (some ⟨w0.heap.size+1+1+1,0,none⟩))] (fun γ L w9=>(L 7=false/\B9 V.heap.size V w9)\/(L 7=true/\∃ w,B9 V.heap.size V w/\w9=(((w.setCell ⟨w0.heap.size+1+1+1,0,none⟩ (J I ((dk-ay)*(cz-az)-(bz-az)*(cy-ay)))).setCell ⟨w0.heap.size+1+1+1,1,none⟩ (J I ((bz-az)*(cx-ax)-(bx-ax)*(cz-az)))).setCell ⟨w0.heap.size+1+1+1,2,none⟩ (J I ((bx-ax)*(cy-ay)-(dk-ay)*(cx-ax)))))) ⟨rfl,rfl,rfl,rfl,trivial⟩ ?_ ?_ ?_
 ·exact Or.inl ⟨rfl,(Below.refl _ V).drew⟩
 ·intro D WA Z hD ah hZ T;simp only[RV.Outs,RV.Slots,Nat.reduceAdd]at T
  iterate 2 (refine Br _ (Bs T (fun γ v L w hl h=>by rw[Bt (L:=L) (i:=_) (j:=7) (by decide)];exact h) (fun γ L a w hH hl h9 k9=>⟨_,?_,rfl⟩)) ?_;· have ai:=Jaw hH.glob (Bu hH (Bv (j:=7) ah (by kernel_rfl)) hl);have q0:=Ja ai gM;have q1:=Ja ai gN;have q2:=Ja ai gO;have q3:=Ja ai eN;have q4:=Ja ai eO;have q5:=Ja ai eQ;simp[JD,go_sem,h9,q0,q1,q2,q3,q4,q5])
  refine Br _ (Bw (fun γ L a w hH hl hA=>by have h9:=T γ L a w hH;have k9:=hA;simp[JC]at k9;have ai:=Jaw hH.glob (Bu hH (Bv (j:=7) (i:=2) ah (by kernel_rfl)) hl);exact⟨181,#[B_ #[J I bx,J I dk,J I bz],B_ #[J I ax,J I ay,J I az]],by simp[go_sem,h9,k9],JA (L1.out w) (by rintro e w2 ⟨rfl,hb⟩;exact⟨_,rfl,rfl,fun j v _ h=>h.keep _,Or.inl ⟨by rw[Bt (L:=L) (i:=2) (j:=7) (by decide)];exact Bu hH (Bv (j:=7) (i:=2) ah (by kernel_rfl)) hl,ai.trans (hb.mono ai.size)⟩⟩)⟩)) ?_
  iterate 2 (refine Br _ (Bs T (fun γ v L w hl h=>by rw[Bt (L:=L) (i:=_) (j:=7) (by decide)];exact h) (fun γ L a w hH hl h9 k9=>⟨_,?_,rfl⟩)) ?_;· have ai:=Jaw hH.glob (Bu hH (Bv (j:=7) ah (by kernel_rfl)) hl);have q0:=Ja ai nq;have q1:=Ja ai nt;have q2:=Ja ai nA;have q3:=Ja ai eN;have q4:=Ja ai eO;have q5:=Ja ai eQ;simp[JD,go_sem,h9,q0,q1,q2,q3,q4,q5])
  refine Br _ (Bw (fun γ L a w hH hl hA=>by have h9:=T γ L a w hH;have k9:=hA;simp[JC]at k9;have ai:=Jaw hH.glob (Bu hH (Bv (j:=7) (i:=5) ah (by kernel_rfl)) hl);exact⟨181,#[B_ #[J I cx,J I cy,J I cz],B_ #[J I ax,J I ay,J I az]],by simp[go_sem,h9,k9],JA (L2.out w) (by rintro e w2 ⟨rfl,hb⟩;exact⟨_,rfl,rfl,fun j v _ h=>h.keep _,Or.inl ⟨by rw[Bt (L:=L) (i:=5) (j:=7) (by decide)];exact Bu hH (Bv (j:=7) (i:=5) ah (by kernel_rfl)) hl,ai.trans (hb.mono ai.size)⟩⟩)⟩)) ?_;refine Br _ (Bw (fun γ L a w hH hl hA=>by have h9:=T γ L a w hH;have k9:=hA;simp[JC]at k9;have ai:=Jaw hH.glob (Bu hH (Bv (j:=7) (i:=6) ah (by kernel_rfl)) hl);exact⟨198,#[B_ #[J I (bx-ax),J I (dk-ay),J I (bz-az)],B_ #[J I (cx-ax),J I (cy-ay),J I (cz-az)]],by simp[go_sem,h9,k9],JA (L3.out w) (by rintro e w2 ⟨rfl,hb⟩;exact⟨_,rfl,rfl,fun j v _ h=>h.keep _,Or.inl ⟨by rw[Bt (L:=L) (i:=6) (j:=7) (by decide)];exact Bu hH (Bv (j:=7) (i:=6) ah (by kernel_rfl)) hl,ai.trans (hb.mono ai.size)⟩⟩)⟩)) ?_;refine Br _ (Bz (fun γ L a w hH hl hA=>by have h9:=T γ L a w hH;have k9:=hA;simp[JC]at k9;have ai:=Jaw hH.glob hl;have z0:=Ja ai gP;have cX:=Jm ai gP ko;have z1:=Ja ai gQ;have cY:=Jm ai gQ kq;have z2:=Ja ai gR;have cZ:=Jm ai gR kr;exact⟨(((w.setCell ⟨w0.heap.size+1+1+1,0,none⟩ (J I ((dk-ay)*(cz-az)-(bz-az)*(cy-ay)))).setCell ⟨w0.heap.size+1+1+1,1,none⟩ (J I ((bz-az)*(cx-ax)-(bx-ax)*(cz-az)))).setCell ⟨w0.heap.size+1+1+1,2,none⟩ (J I ((bx-ax)*(cy-ay)-(dk-ay)*(cx-ax)))),by simp[JD,go_sem,z0,cX,z1,cY,z2,cZ,h9,k9],trivial,fun j v _ h=>h.keep _,Or.inr ⟨BD,w,ai,rfl⟩⟩)) ?_;exact RV.AllDo.nil
 ·intro γ w5 L9 hL aX aD;obtain⟨w8,bB,rfl⟩:=Jl8 aD (hL 7 (by decide));clear hL aX aD;simp only[RV.putL,Act.put,JH,JG,JF];have q0:=Ja bB gP;have q1:=Ja bB gQ;have q2:=Ja bB gR;go_wp2;refine bodyPost_ret (v:=B_ #[J I ((dk-ay)*(cz-az)-(bz-az)*(cy-ay)),J I ((bz-az)*(cx-ax)-(bx-ax)*(cz-az)),J I ((bx-ax)*(cy-ay)-(dk-ay)*(cx-ax))]) (by simp[results,results179,go_sem,q0,q1,q2]) rfl ⟨rfl,?_⟩;exact((((iU.trans (bB.mono iU.size)).setCell (by simp;omega) _).setCell (by simp;omega) _).setCell (by simp;omega) _)
def inP(p:Pt)(lo hi:Int):Bool:=inR p.x lo hi&&(inR p.y lo hi&&inR p.z lo hi)
theorem Jtn(p:Pt)(m:Int):inP p (-m) m=p.inB m:=by rw[Bool.eq_iff_iff,Pt.inB_iff];simp[inP,inR]
theorem Jhh(p:Pt)(lo hi:Int)(w0:BV):
  Cd Tryz.prog 178 #[p.v,J I lo,J I hi] w0 fun e W=>e = BZ (BT (inP p lo hi))/\B9 w0.heap.size w0 W:=by
 obtain⟨x,y,z⟩:=p;unfold Pt.v inP;dsimp only;cases hx:inR x lo hi with
 | false =>
  go_enter func178,ntmps178;go_wp2_with (fail);refine JA (Jaz x lo hi _ false hx) ?_;rintro e w' ⟨rfl,rfl⟩;go_wp2_with (fail);go_ret;exact⟨rfl,Jb w0 _⟩
 | true =>
  cases hy:inR y lo hi with
  | false =>
   go_enter func178,ntmps178;go_wp2_with (fail);refine JA (Jaz x lo hi _ true hx) ?_;rintro e w' ⟨rfl,rfl⟩;go_wp2_with (fail);refine JA (Jaz y lo hi _ false hy) ?_;rintro e w' ⟨rfl,rfl⟩;go_wp2_with (fail);go_ret;exact⟨rfl,Jb w0 _⟩
  | true =>
   cases hz:inR z lo hi with
   | false =>
    go_enter func178,ntmps178;go_wp2_with (fail);refine JA (Jaz x lo hi _ true hx) ?_;rintro e w' ⟨rfl,rfl⟩;go_wp2_with (fail);refine JA (Jaz y lo hi _ true hy) ?_;rintro e w' ⟨rfl,rfl⟩;go_wp2_with (fail);refine JA (Jaz z lo hi _ false hz) ?_;rintro e w' ⟨rfl,rfl⟩;go_wp2_with (fail);go_ret;exact⟨rfl,Jb w0 _⟩
   | true =>
    go_enter func178,ntmps178;go_wp2_with (fail);refine JA (Jaz x lo hi _ true hx) ?_;rintro e w' ⟨rfl,rfl⟩;go_wp2_with (fail);refine JA (Jaz y lo hi _ true hy) ?_;rintro e w' ⟨rfl,rfl⟩;go_wp2_with (fail);refine JA (Jaz z lo hi _ true hz) ?_;rintro e w' ⟨rfl,rfl⟩;go_wp2_with (fail);go_ret;exact⟨rfl,Jb w0 _⟩
theorem Jv1{cs:Array B7}(h:cs.size=3):∃ a b c,cs = #[a,b,c]:=by
 obtain⟨l⟩:=cs
 match l,h with
 | [a,b,c],_=>exact⟨a,b,c,rfl⟩
theorem Jrb(v:B7)(Ls:List Pt)(w0:BV)(hv:Lies w0 v Ls)(h4:4<=Ls.length)(dw:Ls.length<=12)(dN:∀ p∈Ls,p.inB 65536=true)(ak:pt Ls 0≠pt Ls 1):
  Cd Tryz.prog 142 #[v] w0 fun e W=>e = BZ (BT (Jee Ls))/\B9 w0.heap.size w0 W:=by
 obtain⟨o,c,rfl,fE,fF,ar⟩:=hv.form;have HC:BU _:=ar;have dj:BU _:=dN;obtain⟨g,off,rfl,_,_,_⟩:=ar 0 (by omega);clear ar hv dN;have HF:BU _:=Jpz (show 2<=Ls.length by omega) ak;clear ak;obtain⟨R,hR⟩:∃ R,Jee Ls=R:=⟨_,rfl⟩
 rw[hR]at HF ⊢;clear hR;go_enter func142,ntmps142;go_wp2_with (fail)
 go_loopg [3] Ls.length (fun gm s wr=>∃ i:Nat,s=J I (i:Int)/\i<=Ls.length/\gm=Ls.length-i/\BU (∀ i' k m q,i'<i->m<k->k<i'->q<Ls.length->vol (pt Ls m) (pt Ls k) (pt Ls i') (pt Ls q)=0)/\BU (B9 w0.heap.size w0 wr))
 case atStart=>exact⟨0,rfl,Nat.zero_le _,rfl,fun i' k m q h=>absurd h (Nat.not_lt_zero _),Below.refl _ _⟩
 case round =>
  obtain⟨i,rfl,hi,be,HA,lF⟩:=hrel;have eH:BU _:=be;clear be;by_cases hit:i<Ls.length
  ·go_wp2_with (fail)
   go_loopg [4] i (fun gm s wr=>∃ k:Nat,s=J I (k:Int)/\k<=i/\gm=i-k/\BU (∀ k' m q,k'<k->m<k'->q<Ls.length->vol (pt Ls m) (pt Ls k') (pt Ls i) (pt Ls q)=0)/\BU (B9 w0.heap.size w0 wr))
   case atStart=>exact⟨0,rfl,Nat.zero_le _,rfl,fun k' m q h=>absurd h (Nat.not_lt_zero _),lF⟩
   case round =>
    clear lF;obtain⟨k,rfl,hk,be,lp,gp⟩:=hrel;have gU:BU _:=be;clear be;by_cases hkt:k<i
    ·have th:k<Ls.length:=by omega
     go_wp2_with (fail)
     go_loopg [5] k (fun gm s wr=>∃ m:Nat,s=J I (m:Int)/\m<=k/\gm=k-m/\BU (∀ m' q,m'<m->q<Ls.length->vol (pt Ls m') (pt Ls k) (pt Ls i) (pt Ls q)=0)/\BU (B9 w0.heap.size w0 wr))
     case atStart=>exact⟨0,rfl,Nat.zero_le _,rfl,fun m' q h=>absurd h (Nat.not_lt_zero _),gp⟩
     case round =>
      clear gp;obtain⟨m,rfl,hm,be,AL,le⟩:=hrel;have tj:BU _:=be;clear be;by_cases qA:m<k
      ·have zn:m<Ls.length:=by omega
       obtain⟨g',off',e',x0,x1,x2⟩:=HC.out i hit;simp only[Option.some.injEq,Addr.mk.injEq,and_true]at e';obtain⟨rfl,rfl⟩:=e';obtain⟨g',off',e',y0,y1,y2⟩:=HC.out k th;simp only[Option.some.injEq,Addr.mk.injEq,and_true]at e';obtain⟨rfl,rfl⟩:=e';obtain⟨g',off',e',z0,z1,z2⟩:=HC.out m zn;simp only[Option.some.injEq,Addr.mk.injEq,and_true]at e';obtain⟨rfl,rfl⟩:=e';have x0:=Ja le.out x0;have x1:=Ja le.out x1;have x2:=Ja le.out x2;have y0:=Ja le.out y0;have y1:=Ja le.out y1;have y2:=Ja le.out y2;have HZ:BU _:=And.intro z0 (And.intro z1 z2);have z0:=Ja le.out z0;have z1:=Ja le.out z1;have z2:=Ja le.out z2;have cA:=dj.out _ (Ja2 zn);have eS:=dj.out _ (Ja2 th);have eT:=dj.out _ (Ja2 hit);have HM:BU ((∃ q,q<Ls.length/\vol (pt Ls m) (pt Ls k) (pt Ls i) (pt Ls q)≠0)->R=false):=fun⟨q,h1,h2⟩=>by
        cases R with
        | false=>rfl
        | true=>exact absurd (HF.out.2 rfl i k m q qA hkt hit h1) h2
       have ri:BU ((∀ q,q<Ls.length->vol (pt Ls m) (pt Ls k) (pt Ls i) (pt Ls q)=0)->∀ m' q,m'<m+1->q<Ls.length->vol (pt Ls m') (pt Ls k) (pt Ls i) (pt Ls q)=0):=fun h m' q h1 h2=>by
        by_cases e:m'=m
        ·subst e;exact h q h2
        ·exact AL.out m' q (by omega) h2
       generalize pt Ls i=pc at *;generalize pt Ls k=pb at *;generalize pt Ls m=pa at *;have L3:BU _:=fun w'=>Jif pa pb pc w' cA eS eT;have fS:=Jja (Jcq eS cA) (Jcq eT cA);have sM:BU (∀ q,vol pa pb pc q=((pb.sub pa).cross (pc.sub pa)).dot (q.sub pa)):=fun q=>rfl;generalize(pb.sub pa).cross (pc.sub pa)=n at *;unfold Pt.v at L3;have dQ:(i:Int)<(Ls.length:Int):=by omega
       have mR:(k:Int)<(Ls.length:Int):=by omega
       have vh:(m:Int)<(Ls.length:Int):=by omega
       go_upto_region 10 with fail;refine Bq [.some (BQ (some ⟨g,off,none⟩) Ls.length c),.some (J I (m:Int)),.some (BO (some ⟨g,off+m*3,none⟩)),.some (B_ #[J I pa.x,J I pa.y,J I pa.z]),.some (BQ (some ⟨g,off,none⟩) Ls.length c),.some (J I (k:Int)),.some (BO (some ⟨g,off+k*3,none⟩)),.some (B_ #[J I pb.x,J I pb.y,J I pb.z]),.some (BQ (some ⟨g,off,none⟩) Ls.length c),.some (J I (i:Int)),.some (BO (some ⟨g,off+i*3,none⟩)),.some (B_ #[J I pc.x,J I pc.y,J I pc.z]),.some (B_ #[J I n.x,J I n.y,J I n.z]),none,none] [25,26,27,28,29,30,31,32,33,34,35,36,37,7,0] [(0,BQ (some ⟨g,off,none⟩) Ls.length c),(3,J I (i:Int)),(4,J I (k:Int)),(5,J I (m:Int))] (fun γ L w=>B9 wr.heap.size wr w/\RV.Pend wr 23 13 14 #[J I n.x,J I n.y,J I n.z] γ L w) ⟨rfl,rfl,rfl,rfl,trivial⟩ ?_ ?_ ?_
       ·exact⟨(Below.refl _ wr).drew,RV.Pend.start rfl⟩
       ·intro D WA Z hD ah hZ T;simp only[RV.Outs,RV.Slots,Nat.reduceAdd]at T
        iterate 12 first
         |(refine Br _ (Bs T (fun γ v L w hl h=>⟨h.1,h.2.other v (by decide) (by decide)⟩) (fun γ L a w hH hl h9 k9=>⟨_,?_,rfl⟩)) ?_;· simp[JD,go_sem,h9])
         |(refine Br _ (Bs T (fun γ v L w hl h=>⟨h.1,h.2.other v (by decide) (by decide)⟩) (fun γ L a w hH hl h9 k9=>⟨_,?_,rfl⟩)) ?_;· simp[JC]at k9;simp[JD,go_sem,h9,k9,vh,mR,dQ])
         |(refine Br _ (Bs T (fun γ v L w hl h=>⟨h.1,h.2.other v (by decide) (by decide)⟩) (fun γ L a w hH hl h9 k9=>⟨_,?_,rfl⟩)) ?_;· have v0:=Ja hH.glob.1 z0;have v1:=Ja hH.glob.1 z1;have v2:=Ja hH.glob.1 z2;simp[JC]at k9;simp[JD,go_sem,h9,k9,v0,v1,v2])
         |(refine Br _ (Bs T (fun γ v L w hl h=>⟨h.1,h.2.other v (by decide) (by decide)⟩) (fun γ L a w hH hl h9 k9=>⟨_,?_,rfl⟩)) ?_;· have v0:=Ja hH.glob.1 y0;have v1:=Ja hH.glob.1 y1;have v2:=Ja hH.glob.1 y2;simp[JC]at k9;simp[JD,go_sem,h9,k9,v0,v1,v2])
         |(refine Br _ (Bs T (fun γ v L w hl h=>⟨h.1,h.2.other v (by decide) (by decide)⟩) (fun γ L a w hH hl h9 k9=>⟨_,?_,rfl⟩)) ?_;· have v0:=Ja hH.glob.1 x0;have v1:=Ja hH.glob.1 x1;have v2:=Ja hH.glob.1 x2;simp[JC]at k9;simp[JD,go_sem,h9,k9,v0,v1,v2])
        refine Br _ (Bw (fun γ L a w hH hl hA=>by have h9:=T γ L a w hH;have k9:=hA;simp[JC]at k9;exact⟨179,#[B_ #[J I pa.x,J I pa.y,J I pa.z],B_ #[J I pb.x,J I pb.y,J I pb.z],B_ #[J I pc.x,J I pc.y,J I pc.z]],by simp[go_sem,h9,k9],JA (L3.out w) (by rintro e w2 ⟨rfl,hb⟩;exact⟨_,rfl,rfl,fun j v _ h=>h.keep _,hH.glob.1.trans (hb.mono hH.glob.1.size),(hH.glob.2.below hb).other _ (by decide) (by decide)⟩)⟩)) ?_;refine Br _ (BJ (fun γ L a w hH hl hA=>by have gY:L 14=false:=Bu hH (Bv (j:=14) (i:=13) ah (by kernel_rfl)) hl;exact⟨BO (some ⟨w.heap.size,0,none⟩),w.alloc (BP #[J I 0,J I 0,J I 0] 23),by simp[JD,go_sem],trivial,fun j v _ h=>h.keep _,hH.glob.1.alloc hH.glob.1.size _,RV.Pend.made _ rfl hH.glob.1.size gY (by decide)⟩)) ?_;refine Br _ (Bz (fun γ L a w hH hl hA=>by have h9:=T γ L a w hH;have k9:=hA;simp[JC]at k9;have l0:L 13=true:=hA ⟨13,.data⟩ (by simp) rfl;have e0:=hH.slot 13 6 (by rw[<- hD];rfl) l0;obtain⟨b,cs,ac,aj,ao,bM,_⟩:=hH.glob.2 l0;rw[ac]at e0;obtain⟨u0,u1,u2,rfl⟩:=Jv1 bM;have n_:w.cell? ⟨b,0,none⟩=some u0:=(by simp[World.cell?,ao]);have od:w.cell? ⟨b,1,none⟩=some u1:=(by simp[World.cell?,ao]);have og:w.cell? ⟨b,2,none⟩=some u2:=(by simp[World.cell?,ao]);have zf:∀ o,w.frozen? ⟨b,o,none⟩=false:=fun o=>(by simp[World.frozen?,ao]);exact⟨(((w.setCell ⟨b,0,none⟩ (J I n.x)).setCell ⟨b,1,none⟩ (J I n.y)).setCell ⟨b,2,none⟩ (J I n.z)),by simp[JD,go_sem,e0,n_,od,og,zf,h9,k9],trivial,fun j v _ h=>h.keep _,((hH.glob.1.setCell aj _).setCell aj _).setCell aj _,RV.Pend.filled ac aj (by have q0:=Go.heap_setCell_same w b 0 _ _ (J I n.x) ao;have q1:=Go.heap_setCell_same _ b 1 _ _ (J I n.y) q0;have q2:=Go.heap_setCell_same _ b 2 _ _ (J I n.z) q1;simpa using q2) (by decide) _⟩)) ?_;exact RV.AllDo.nil
       ·intro γ w5 L9 hL aX aD;obtain⟨bn,cs,ac,aj,ao,_,cB⟩:=aD.2 (hL 13 (by decide));rw[cB (hL 14 (by decide))]at ao;have gh:=aD.1;clear hL cB aX aD;simp only[RV.putL,Act.put,JH,JG,JF,Nat.reduceAdd];rw[ac];obtain⟨W5,mr⟩:∃ X:BV,X=w5:=⟨_,rfl⟩
        rw[<- mr]at gh ao ⊢;have BN:BU (Box3 W5 bn n):=⟨by simp[World.cell?,ao],by simp[World.cell?,ao],by simp[World.cell?,ao],by simp[World.frozen?,ao],by simp[World.frozen?,ao],by simp[World.frozen?,ao]⟩
        have cN:BU (B9 w0.heap.size w0 W5):=Jc le.out gh;clear mr ac ao gh L3 x0 x1 x2 y0 y1 y2 z0 z1 z2;go_wp2_with (fail)
        go_loopg [7] Ls.length (fun gm s wx=>∃ q:Nat,s=J I (q:Int)/\q<=Ls.length/\gm=Ls.length-q/\BU (∀ q',q'<q->vol pa pb pc (pt Ls q')=0)/\BU (B9 W5.heap.size W5 wx))
        case atStart=>exact⟨0,rfl,Nat.zero_le _,rfl,fun q' h=>absurd h (Nat.not_lt_zero _),Below.refl _ _⟩
        case round =>
         obtain⟨q,rfl,hq,be,AM,hO⟩:=hrel;have tk:BU _:=be;clear be;by_cases hqt:q<Ls.length
         ·obtain⟨g',off',e',x0,x1,x2⟩:=HC.out q hqt;simp only[Option.some.injEq,Addr.mk.injEq,and_true]at e';obtain⟨rfl,rfl⟩:=e';have x0:=Ja (Jc cN.out hO.out) x0;have x1:=Ja (Jc cN.out hO.out) x1;have x2:=Ja (Jc cN.out hO.out) x2;have y0:=Ja (Jc cN.out hO.out) HZ.out.1;have y1:=Ja (Jc cN.out hO.out) HZ.out.2.1;have y2:=Ja (Jc cN.out hO.out) HZ.out.2.2;have eU:=dj.out _ (Ja2 hqt);have lI:BU (¬ vol pa pb pc (pt Ls q)=0->R=false):=fun h=>HM.out ⟨q,hqt,h⟩;have zo:BU (vol pa pb pc (pt Ls q)=0->∀ q',q'<q+1->vol pa pb pc (pt Ls q')=0):=fun h q' h1=>by
           by_cases e:q'=q
           ·subst e;exact h
           ·exact AM.out q' (by omega)
          rw[sM.out]at lI zo;generalize pt Ls q=mo at *;have L1:BU _:=fun w'=>Jcp mo pa w' (J8 eU (by decide)) (J8 cA (by decide));have L2:BU _:=fun w'=>Jlb n (mo.sub pa) w' fS (Jcq eU cA);unfold Pt.v at L1 L2;obtain⟨q0,q1,q2,_,_,_⟩:=BN.out.step hO.out;have hqz:(q:Int)<(Ls.length:Int):=by omega
          go_upto_region 14 with fail;refine Bq [.some (B_ #[J I n.x,J I n.y,J I n.z]),.some (BQ (some ⟨g,off,none⟩) Ls.length c),.some (J I ((q:Int))),.some (BO (some ⟨g,off+q*3,none⟩)),.some (B_ #[J I mo.x,J I mo.y,J I mo.z]),.some (BQ (some ⟨g,off,none⟩) Ls.length c),.some (J I ((m:Int))),.some (BO (some ⟨g,off+m*3,none⟩)),.some (B_ #[J I pa.x,J I pa.y,J I pa.z]),.some (B_ #[J I ((mo.sub pa).x),J I ((mo.sub pa).y),J I ((mo.sub pa).z)]),.some (J I (n.dot (mo.sub pa))),.some (BT (n.dot (mo.sub pa) != 0))] [44,45,46,47,48,49,50,51,52,53,54,55] [(0,BQ (some ⟨g,off,none⟩) Ls.length c),(5,J I ((m:Int))),(6,BO (some ⟨bn,0,none⟩)),(7,J I ((q:Int)))] (fun γ L w9=>B9 wr.heap.size wr w9) ⟨rfl,rfl,rfl,rfl,trivial⟩ ?_ ?_ ?_
          ·exact(Below.refl _ wr).drew
          ·intro D WA Z hD ah hZ T;simp only[RV.Outs,RV.Slots,Nat.reduceAdd]at T
           iterate 9 first
            |(refine Br _ (Bs T (fun γ v L w hl h=>h) (fun γ L a w hH hl h9 k9=>⟨_,?_,rfl⟩)) ?_;· simp[JD,go_sem,h9])
            |(refine Br _ (Bs T (fun γ v L w hl h=>h) (fun γ L a w hH hl h9 k9=>⟨_,?_,rfl⟩)) ?_;· simp[JC]at k9;simp[JD,go_sem,h9,k9,hqz,vh])
            |(refine Br _ (Bs T (fun γ v L w hl h=>h) (fun γ L a w hH hl h9 k9=>⟨_,?_,rfl⟩)) ?_;· have ai:=hH.glob;have v0:=Ja ai x0;have v1:=Ja ai x1;have v2:=Ja ai x2;simp[JC]at k9;simp[JD,go_sem,h9,k9,v0,v1,v2])
            |(refine Br _ (Bs T (fun γ v L w hl h=>h) (fun γ L a w hH hl h9 k9=>⟨_,?_,rfl⟩)) ?_;· have ai:=hH.glob;have v0:=Ja ai y0;have v1:=Ja ai y1;have v2:=Ja ai y2;simp[JC]at k9;simp[JD,go_sem,h9,k9,v0,v1,v2])
            |(refine Br _ (Bs T (fun γ v L w hl h=>h) (fun γ L a w hH hl h9 k9=>⟨_,?_,rfl⟩)) ?_;· have ai:=hH.glob;have q0:=Ja ai q0;have q1:=Ja ai q1;have q2:=Ja ai q2;simp[JD,go_sem,h9,q0,q1,q2])
           refine Br _ (Bw (fun γ L a w hH hl hA=>by have h9:=T γ L a w hH;have k9:=hA;simp[JC]at k9;have ai:=hH.glob;exact⟨181,#[B_ #[J I mo.x,J I mo.y,J I mo.z],B_ #[J I pa.x,J I pa.y,J I pa.z]],by simp[go_sem,h9,k9],JA (L1.out w) (by rintro e w2 ⟨rfl,hb⟩;exact⟨_,rfl,rfl,fun j v _ h=>h.keep _,ai.trans (hb.mono ai.size)⟩)⟩)) ?_;refine Br _ (Bw (fun γ L a w hH hl hA=>by have h9:=T γ L a w hH;have k9:=hA;simp[JC]at k9;have ai:=hH.glob;exact⟨180,#[B_ #[J I n.x,J I n.y,J I n.z],B_ #[J I ((mo.sub pa).x),J I ((mo.sub pa).y),J I ((mo.sub pa).z)]],by simp[go_sem,h9,k9],JA (L2.out w) (by rintro e w2 ⟨rfl,hb⟩;exact⟨_,rfl,rfl,fun j v _ h=>h.keep _,ai.trans (hb.mono ai.size)⟩)⟩)) ?_
           (refine Br _ (Bs T (fun γ v L w hl h=>h) (fun γ L a w hH hl h9 k9=>⟨_,?_,rfl⟩)) ?_;· simp[JC]at k9;simp[JD,go_sem,h9,k9])
           exact RV.AllDo.nil
          ·intro γ w5 L9 hL aX aD;have bB:=aD;clear hL aX aD;simp only[RV.putL,Act.put,JH,JG,JF];have nC:BU _:=Jc hO.out bB;clear bB L1 L2 q0 q1 q2 x0 x1 x2;generalize n.dot (mo.sub pa)=dd at *;by_cases hd:dd=0
           ·have HS5:BU _:=zo.out hd;subst hd;clear lI;go_wp2_with (fail)
            go_roundg (Ls.length-(q+1))
            case measure=>have:=tk.out;omega
            case rel=>exact⟨q+1,by go_num,by omega,rfl,HS5,nC⟩
           ·have e:R=false:=lI.out hd;subst e;have hd2:(dd != 0)=true:=bne_iff_ne.2 hd;go_wp2_with (fail);go_ret;exact⟨rfl,Jc cN.out nC.out⟩
         ·have ri:BU _:=ri.out (fun q' h=>AM.out q' (by omega));go_wp2_with (fail)
          go_roundg (k-(m+1))
          case measure=>have:=tj.out;omega
          case rel=>exact⟨m+1,by go_num,by omega,rfl,ri,Jc cN.out hO.out⟩
      ·have dh:BU (∀ k' m q,k'<k+1->m<k'->q<Ls.length->vol (pt Ls m) (pt Ls k') (pt Ls i) (pt Ls q)=0):=fun k' m' q h1 h2 h3=>by
        by_cases e:k'=k
        ·subst e;exact AL.out m' q (by omega) h3
        ·exact lp.out k' m' q (by omega) h2 h3
       go_wp2_with (fail)
       go_roundg (i-(k+1))
       case measure=>have:=gU.out;omega
       case rel=>exact⟨k+1,by go_num,by omega,rfl,dh,le⟩
    ·have bG:BU (∀ i' k m q,i'<i+1->m<k->k<i'->q<Ls.length->vol (pt Ls m) (pt Ls k) (pt Ls i') (pt Ls q)=0):=fun i' k' m' q h1 h2 h3 h4=>by
      by_cases e:i'=i
      ·subst e;exact lp.out k' m' q (by omega) h2 h4
      ·exact HA.out i' k' m' q (by omega) h2 h3 h4
     go_wp2_with (fail)
     go_roundg (Ls.length-(i+1))
     case measure=>have:=eH.out;omega
     case rel=>exact⟨i+1,by go_num,by omega,rfl,bG,gp⟩
  ·have e:R=true:=HF.out.1 (fun i' k' m' q h1 h2 h3 h4=>HA.out i' k' m' q (by omega) h1 h2 h4);subst e;go_wp2_with (fail);go_ret;exact⟨rfl,lF.out⟩
theorem Jb7{L:List Pt}{i:Nat}(h:i<L.length):pt L i=L[i]:=by unfold pt;simp[h]
theorem Jue{L:List Pt}(h4:4<=L.length)(dw:L.length<=12):Jcw L=true ↔ ∀ j,j<L.length->(pt L j).inB 65536=true/\∀ j',j'<j->pt L j'≠pt L j:=by
 unfold Jcw;rw[decide_eq_true (p:=4<=L.length/\L.length<=12) ⟨h4,dw⟩,Bool.true_and,Bool.and_eq_true,decide_eq_true_eq,List.all_eq_true];constructor
 ·rintro⟨h1,h2⟩ j hj;refine⟨h1 _ (Ja2 hj),fun j' hj' e=>?_⟩;rw[Jb7 hj,Jb7 (by omega:j'<L.length)]at e;exact(List.pairwise_iff_getElem.1 h2 j' j (by omega) hj hj') e
 ·intro h;refine⟨fun p hp=>?_,List.pairwise_iff_getElem.2 fun i j hi hj qo e=>?_⟩
  ·obtain⟨i,hi,rfl⟩:=List.getElem_of_mem hp;rw[<- Jb7 hi];exact(h i hi).1
  ·exact(h j hj).2 i qo (by rw[Jb7 hi,Jb7 hj];exact e)
theorem Jnb(r:Int)(hf:Pt)(pv:B7)(Ls:List Pt)(w:BV)(hv:Lies w pv Ls):
  Cd Tryz.prog 141 #[B_ #[J I 4,J I r,J I hf.x,J I hf.y,J I hf.z,pv]] w fun e W=>e = BZ (BT (inR r 0 16384&&Jcw Ls))/\B9 w.heap.size w W:=by
 obtain⟨hx,hy,hz⟩:=hf;obtain⟨o,c,rfl,fE,fF,ar⟩:=hv.form;have HC:BU _:=ar;clear ar hv;dsimp only;have hB:BU (B9 w.heap.size w (w.alloc (BP #[J I 4,J I r,J I hx,J I hy,J I hz,BQ o Ls.length c] 37))):=Jb w _;have B1:BU (Cells (w.alloc (BP #[J I 4,J I r,J I hx,J I hy,J I hz,BQ o Ls.length c] 37)) w.heap.size [J I 4,J I r,J I hx,J I hy,J I hz,BQ o Ls.length c]):=Cells.new w [J I 4,J I r,J I hx,J I hy,J I hz,BQ o Ls.length c] _;cases hb:inR r 0 16384 with
 | false =>
  go_enter func141,ntmps141;go_wp2_with (fail);refine JA (Jaz r 0 16384 _ false hb) ?_;rintro e w' ⟨rfl,rfl⟩;go_wp2_with (fail);go_ret;exact⟨rfl,hB.out⟩
 | true =>
  cases hl:inR (Ls.length:Int) 4 12 with
  | false =>
   have e:Jcw Ls=false:=by
    unfold Jcw;rw[decide_eq_false (p:=4<=Ls.length/\Ls.length<=12) (by have:=of_decide_eq_false hl;omega)];rfl
   rw[e];clear e;go_enter func141,ntmps141;go_wp2_with (fail);refine JA (Jaz r 0 16384 _ true hb) ?_;rintro e w' ⟨rfl,rfl⟩;go_wp2_with (fail);refine JA (Jaz _ 4 12 _ false hl) ?_;rintro e w' ⟨rfl,rfl⟩;go_wp2_with (fail);go_ret;exact⟨rfl,hB.out⟩
  | true =>
   have h4:4<=Ls.length:=by have:=of_decide_eq_true hl;omega
   have dw:Ls.length<=12:=by have:=of_decide_eq_true hl;omega
   have HF:BU _:=Jue h4 dw;generalize Jcw Ls=R at *;obtain⟨g,off,rfl,_,_,_⟩:=HC.out 0 (by omega);go_enter func141,ntmps141;go_wp2_with (fail);refine JA (Jaz r 0 16384 _ true hb) ?_;rintro e w' ⟨rfl,rfl⟩;go_wp2_with (fail);refine JA (Jaz _ 4 12 _ true hl) ?_;rintro e V ⟨rfl,rfl⟩;clear hb hl;go_wp2_with (fail);obtain⟨V,hV⟩:∃ V:BV,V=w.alloc (BP #[J I 4,J I r,J I hx,J I hy,J I hz,BQ (some ⟨g,off,none⟩) Ls.length c] 37):=⟨_,rfl⟩
   rw[<- hV]at B1 hB ⊢;clear hV
   go_loopg [4] Ls.length (fun gm s wr=>∃ i:Nat,s=J I (i:Int)/\i<=Ls.length/\gm=Ls.length-i/\BU (∀ j,j<i->(pt Ls j).inB 65536=true/\∀ j',j'<j->pt Ls j'≠pt Ls j)/\BU (B9 V.heap.size V wr))
   case atStart=>exact⟨0,rfl,Nat.zero_le _,rfl,fun j h=>absurd h (Nat.not_lt_zero _),Below.refl _ _⟩
   case round =>
    obtain⟨i,rfl,hi,be,HA,lF⟩:=hrel;have eH:BU _:=be;clear be;have s5:=(Cells.step B1.out lF.out 5 _ rfl).1;by_cases hit:i<Ls.length
    ·obtain⟨g',off',e',x0,x1,x2⟩:=HC.out i hit;simp only[Option.some.injEq,Addr.mk.injEq,and_true]at e';obtain⟨rfl,rfl⟩:=e';have HX:BU _:=And.intro (Ja hB.out x0) (And.intro (Ja hB.out x1) (Ja hB.out x2));clear x0 x1 x2;have x0:=Ja lF.out HX.out.1;have x1:=Ja lF.out HX.out.2.1;have x2:=Ja lF.out HX.out.2.2;have HW:BU _:=fun w'=>Jhh (pt Ls i) (-65536) 65536 w';rw[Jtn]at HW;have HM:BU ((pt Ls i).inB 65536=false->R=false):=fun h=>by
      cases R with
      | false=>rfl
      | true=>have:=(HF.out.1 rfl i hit).1;rw[h]at this;cases this
     have lI:BU (∀ k,k<i->pt Ls k=pt Ls i->R=false):=fun k hk h=>by
      cases R with
      | false=>rfl
      | true=>exact absurd h ((HF.out.1 rfl i hit).2 k hk)
     have bG:BU ((pt Ls i).inB 65536=true->(∀ j',j'<i->pt Ls j'≠pt Ls i)->∀ j,j<i+1->(pt Ls j).inB 65536=true/\∀ j',j'<j->pt Ls j'≠pt Ls j):=fun h1 h2 j hj=>by
      by_cases e:j=i
      ·subst e;exact⟨h1,h2⟩
      ·exact HA.out j (by omega)
     generalize pt Ls i=pc at *;unfold Pt.v at HW;generalize pc.inB 65536=t at *;go_wp2_with (fail);refine JA (HW.out _) ?_;rintro e V1 ⟨rfl,ac⟩;have bK:BU _:=Jc lF.out ac;clear ac x0 x1 x2 s5 HW;cases t with
     | false =>
      have e:R=false:=HM.out rfl;subst e;go_wp2_with (fail);go_ret;exact⟨rfl,Jc hB.out bK.out⟩
     | true =>
      have dh:BU _:=bG.out rfl;clear bG HM;go_wp2_with (fail)
      go_loopg [6] i (fun gm s wr=>∃ k:Nat,s=J I (k:Int)/\k<=i/\gm=i-k/\BU (∀ j',j'<k->pt Ls j'≠pc)/\BU (B9 V.heap.size V wr))
      case atStart=>exact⟨0,rfl,Nat.zero_le _,rfl,fun j' h=>absurd h (Nat.not_lt_zero _),bK⟩
      case round =>
       obtain⟨k,rfl,hk,be,lp,gp⟩:=hrel;have gU:BU _:=be;clear be;by_cases hkt:k<i
       ·have th:k<Ls.length:=by omega
        obtain⟨g',off',e',y0,y1,y2⟩:=HC.out k th;simp only[Option.some.injEq,Addr.mk.injEq,and_true]at e';obtain⟨rfl,rfl⟩:=e';have y0:=Ja (Jc hB.out gp.out) y0;have y1:=Ja (Jc hB.out gp.out) y1;have y2:=Ja (Jc hB.out gp.out) y2;have x0:=Ja gp.out HX.out.1;have x1:=Ja gp.out HX.out.2.1;have x2:=Ja gp.out HX.out.2.2;have s5:=(Cells.step B1.out gp.out 5 _ rfl).1;have gS:BU (pt Ls k=pc->R=false):=lI.out k hkt;have eR:BU (¬ pt Ls k=pc->∀ j',j'<k+1->pt Ls j'≠pc):=fun h j' hj=>by
         by_cases e:j'=k
         ·subst e;exact h
         ·exact lp.out j' (by omega)
        rw[Jbl]at gS eR;generalize(pt Ls k).x=lx at *;generalize(pt Ls k).y=ly at *;generalize(pt Ls k).z=lz at *;by_cases ex:lx=pc.x
        ·by_cases ey:ly=pc.y
         ·by_cases ez:lz=pc.z
          ·have e:R=false:=gS.out ⟨ex,ey,ez⟩;subst e ex ey ez;go_wp2_with (fail);go_region;go_wp2_with (fail);go_ret;exact⟨rfl,Jc hB.out gp.out.drew⟩
          ·have HN:BU _:=eR.out (fun h=>ez h.2.2);have e1:(lz == pc.z)=false:=beq_eq_false_iff_ne.2 ez;clear gS eR;go_wp2_with (fail);go_region;go_wp2_with (fail)
           go_roundg (i-(k+1))
           case measure=>have:=gU.out;omega
           case rel=>exact⟨k+1,by go_num,by omega,rfl,HN,gp.out.drew⟩
         ·have HN:BU _:=eR.out (fun h=>ey h.2.1);have e1:(ly == pc.y)=false:=beq_eq_false_iff_ne.2 ey;clear gS eR;go_wp2_with (fail);go_region;go_wp2_with (fail)
          go_roundg (i-(k+1))
          case measure=>have:=gU.out;omega
          case rel=>exact⟨k+1,by go_num,by omega,rfl,HN,gp.out.drew⟩
        ·have HN:BU _:=eR.out (fun h=>ex h.1);have e1:(lx == pc.x)=false:=beq_eq_false_iff_ne.2 ex;clear gS eR;go_wp2_with (fail);go_region;go_wp2_with (fail)
         go_roundg (i-(k+1))
         case measure=>have:=gU.out;omega
         case rel=>exact⟨k+1,by go_num,by omega,rfl,HN,gp.out.drew⟩
       ·have ri:BU _:=dh.out (fun j' h=>lp.out j' (by omega));go_wp2_with (fail)
        go_roundg (Ls.length-(i+1))
        case measure=>have:=eH.out;omega
        case rel=>exact⟨i+1,by go_num,by omega,rfl,ri,gp⟩
    ·have e:R=true:=HF.out.2 (fun j hj=>HA.out j (by omega));subst e;go_wp2_with (fail);go_ret;exact⟨rfl,Jc hB.out lF.out⟩
theorem Jqz(s:Sh)(pv:B7)(w:BV)(hv:Lies w pv s.pts):
  Cd Tryz.prog 141 #[s.v pv] w fun e W=>e = BZ (BT (Jbs s))/\B9 w.heap.size w W:=by
 obtain⟨k,r,⟨hx,hy,hz⟩,L⟩:=s;have HF:BU (Jbs ⟨k,r,⟨hx,hy,hz⟩,L⟩=if k=1 then inR r 1 16384 else if k=2 then inR r 1 16384&&Jaa hx else if k=3 then inR r 0 16384&&(Jaa hx&&(Jaa hy&&Jaa hz)) else if k=4 then inR r 0 16384&&Jcw L else false):=rfl;generalize Jbs ⟨k,r,⟨hx,hy,hz⟩,L⟩=F at *;have HV:BU _:=hv;have hB:BU (B9 w.heap.size w (w.alloc (BP #[J I k,J I r,J I hx,J I hy,J I hz,pv] 37))):=Jb w _;have B1:BU (Cells (w.alloc (BP #[J I k,J I r,J I hx,J I hy,J I hz,pv] 37)) w.heap.size [J I k,J I r,J I hx,J I hy,J I hz,pv]):=Cells.new w [J I k,J I r,J I hx,J I hy,J I hz,pv] _;obtain⟨o,c,rfl,fE,fF,_⟩:=hv.form;dsimp only at fE fF hB HV ⊢;clear hv;unfold Sh.v;dsimp only;by_cases k1:k=1
 ·subst k1;have e:F=inR r 1 16384:=HF.out;subst e;generalize hb:inR r 1 16384=t;go_enter func141,ntmps141;go_wp2_with (fail);refine JA (Jaz r 1 16384 _ t hb) ?_;rintro e w' ⟨rfl,rfl⟩;go_wp2_with (fail);go_ret;exact⟨rfl,hB.out⟩
 by_cases k2:k=2
 ·subst k2;have e:F=(inR r 1 16384&&Jaa hx):=HF.out;cases hb:inR r 1 16384 with
  | false =>
   rw[hb]at e;subst e;go_enter func141,ntmps141;go_wp2_with (fail);refine JA (Jaz r 1 16384 _ false hb) ?_;rintro e w' ⟨rfl,rfl⟩;go_wp2_with (fail);go_ret;exact⟨rfl,hB.out⟩
  | true =>
   rw[hb]at e;have e2:F=inR hx 1 65536:=e;clear e;subst e2;generalize hh:inR hx 1 65536=t;go_enter func141,ntmps141;go_wp2_with (fail);refine JA (Jaz r 1 16384 _ true hb) ?_;rintro e w' ⟨rfl,rfl⟩;go_wp2_with (fail);refine JA (Jaz hx 1 65536 _ t hh) ?_;rintro e w' ⟨rfl,rfl⟩;go_wp2_with (fail);go_ret;exact⟨rfl,hB.out⟩
 by_cases k3:k=3
 ·subst k3;have e:F=(inR r 0 16384&&inP ⟨hx,hy,hz⟩ 1 65536):=HF.out;have HW:BU _:=fun w'=>Jhh ⟨hx,hy,hz⟩ 1 65536 w';generalize inP ⟨hx,hy,hz⟩ 1 65536=u at *;unfold Pt.v at HW;dsimp only at HW;subst e;generalize hb:inR r 0 16384=t;have c2:=(B1.out 2 _ rfl).1;have c3:=(B1.out 3 _ rfl).1;have c4:=(B1.out 4 _ rfl).1;go_enter func141,ntmps141;go_wp2_with (fail);refine JA (HW.out _) ?_;rintro e V ⟨rfl,aj⟩;have c1:=(Cells.step B1.out aj 1 _ rfl).1;have ij:BU _:=Jc hB.out aj;clear aj c2 c3 c4;cases t with
  | false =>
   go_wp2_with (fail);refine JA (Jaz r 0 16384 _ false hb) ?_;rintro e w' ⟨rfl,rfl⟩;go_wp2_with (fail);go_ret;exact⟨rfl,ij.out⟩
  | true =>
   go_wp2_with (fail);refine JA (Jaz r 0 16384 _ true hb) ?_;rintro e w' ⟨rfl,rfl⟩;go_wp2_with (fail);go_ret;exact⟨rfl,ij.out⟩
 by_cases k4:k=4
 ·subst k4;have e:F=(inR r 0 16384&&Jcw L):=HF.out;rw[e];exact Jnb r ⟨hx,hy,hz⟩ _ L w HV.out
 ·have e:F=false:=by rw[HF.out,if_neg k1,if_neg k2,if_neg k3,if_neg k4]
  subst e;go_enter func141,ntmps141;go_wp2;go_ret;exact⟨rfl,hB.out⟩
theorem Jeo(s:Sh)(pv:B7)(w:BV)(hv:Lies w pv s.pts):
  Cd Tryz.prog 81 #[s.v pv] w fun e W=>e = BZ (J I (J9 s))/\B9 w.heap.size w W:=by
 have hB:BU (B9 w.heap.size w (w.alloc (BP #[J I s.kind,J I s.radius,J I s.half.x,J I s.half.y,J I s.half.z,pv] 37))):=Jb w _;have HF:BU _:=Jqz s pv (w.alloc (BP #[J I s.kind,J I s.radius,J I s.half.x,J I s.half.y,J I s.half.z,pv] 37)) (hv.below hB.out);have HC:BU (J9 s=if Jbs s then (if s.kind=4/\Jee s.pts=true then 51 else 0) else 50):=rfl;have HM:BU (Jbs s=true->s.kind=4->Jcw s.pts=true):=fun a b=>Jj4 a b;generalize J9 s=C at *;have HV:BU _:=hv;obtain⟨o,c,rfl,fE,fF,_⟩:=hv.form;clear hv;generalize Jbs s=F at *;obtain⟨k,r,⟨hx,hy,hz⟩,L⟩:=s;unfold Sh.v at *;dsimp only at *;cases F with
 | false =>
  have e:C=50:=HC.out;subst e;go_enter func81,ntmps81;go_wp2_with (go_at_call 141;refine JA HF.out ?_;rintro e V ⟨rfl,hb⟩);go_ret;exact⟨rfl,Jc hB.out hb⟩
 | true =>
  have c0:(w.alloc (BP #[J I k,J I r,J I hx,J I hy,J I hz,BQ o L.length c] 37)).cell? ⟨w.heap.size,0,none⟩=some (J I k):=by simp
  have c5:(w.alloc (BP #[J I k,J I r,J I hx,J I hy,J I hz,BQ o L.length c] 37)).cell? ⟨w.heap.size,5,none⟩=some (BQ o L.length c):=by simp
  by_cases k4:k=4
  ·subst k4;obtain⟨m1,m2,m3,m4⟩:=Jft (HM.out rfl rfl);have m3:BU _:=m3;have m5:BU (pt L 0≠pt L 1):=fun e=>by
    rw[Jb7 (by omega:0<L.length),Jb7 (by omega:1<L.length)]at e;exact(List.pairwise_iff_getElem.1 m4 0 1 (by omega) (by omega) (by omega)) e
   have HC:BU (C=if Jee L=true then 51 else 0):=by show _=_;rw[HC.out];simp
   go_enter func81,ntmps81;go_wp2_with (fail);refine JA HF.out ?_;clear HF;rintro e V ⟨rfl,hb⟩;have d0:=Ja hb c0;have d5:=Ja hb c5;have ij:BU _:=Jc hB.out hb;clear hb c0 c5;go_wp2_with (fail);refine JA (Jrb _ L V (HV.out.below ij.out) m1 m2 m3.out m5.out) ?_;rintro e V2 ⟨rfl,hb⟩;clear d0 d5;generalize Jee L=fl at *;cases fl with
   | true =>
    have e:C=51:=HC.out;subst e;go_wp2_with (fail);go_ret;exact⟨rfl,Jc ij.out hb⟩
   | false =>
    have e:C=0:=HC.out;subst e;go_wp2_with (fail);go_ret;exact⟨rfl,Jc ij.out hb⟩
  ·have e:C=0:=by rw[HC.out,if_pos rfl,if_neg (fun h=>k4 h.1)]
   subst e;go_enter func81,ntmps81;go_wp2_with (fail);refine JA HF.out ?_;clear HF;rintro e V ⟨rfl,hb⟩;have d0:=Ja hb c0;have ij:BU _:=Jc hB.out hb;clear hb c0 c5;go_wp2_with (fail);go_ret;exact⟨rfl,ij.out⟩
end
section
open Fx
def sqM(m h:Int):Int:=m*(h*h / 4294967296) / 4294967296
def Jf2(m r:Int):Int:=sqM m r*2 / 5
def Ji6(m b c:Int):Int:=(sqM m b+sqM m c) / 3
theorem Jsx{h:Int}(h0:0<=h)(h1:h<=137438953472):0<=h*h/\h*h<=18889465931478580854784/\0<=h*h / 4294967296/\h*h / 4294967296<=4398046511104:=by
 have a:=Int.mul_nonneg h0 h0;have b:=Int.mul_le_mul h1 h1 h0 (by decide);have:(137438953472:Int)*137438953472=18889465931478580854784:=by decide
 generalize h*h=q at *;omega
theorem Je9{m h:Int}(m0:0<=m)(m1:m<=1099511627776)(h0:0<=h)(h1:h<=137438953472):0<=sqM m h/\sqM m h<=1125899906842624:=by
 obtain⟨_,_,a,b⟩:=Jsx h0 h1;unfold sqM;generalize h*h / 4294967296=q at *;have c:=Int.mul_nonneg m0 a;have d:=Int.mul_le_mul m1 b a (by decide);have:(1099511627776:Int)*4398046511104=4835703278458516698824704:=by decide
 generalize m*q=s at *;omega
theorem Jbw{n:Int}(h:0<=n)(k:n<=4611686018427387903):great n=false:=by unfold great;simp;omega
theorem Jd9{n:Int}(h:0<=n)(k:n<=4611686018427387903):Fx.told n=some n:=by unfold Fx.told;rw[Jbw h k];rfl
theorem Jk2{h:Int}(h0:0<=h)(h1:h<=137438953472):mul h h=some (h*h / 4294967296):=by
 obtain⟨_,_,a,b⟩:=Jsx h0 h1;unfold mul;rw[Jbw h0 (by omega)];simp only[Bool.or_self,Bool.false_eq_true,if_false];exact Jd9 a (by omega)
theorem Jhs{m h:Int}(m0:0<=m)(m1:m<=1099511627776)(h0:0<=h)(h1:h<=137438953472):mul m (h*h / 4294967296)=some (sqM m h):=by
 obtain⟨_,_,a,b⟩:=Jsx h0 h1;obtain⟨c,d⟩:=Je9 m0 m1 h0 h1;unfold mul;rw[Jbw m0 (by omega),Jbw a (by omega)];simp only[Bool.or_self,Bool.false_eq_true,if_false];exact Jd9 (n:=sqM m h) c (by omega)
theorem Jog{s:Int}(h0:0<=s)(h1:s<=1125899906842624):Jw s 2 5=some (s*2 / 5):=by
 unfold Jw;rw[Jbw h0 (by omega),Jbw (n:=2) (by omega) (by omega),Jbw (n:=5) (by omega) (by omega)];simp only[Bool.or_self,Bool.false_eq_true,if_false];rw[show Fx.fl (s*2) 5=s*2 / 5 by simp[Fx.fl]];exact Jd9 (by omega) (by omega)
theorem Jk4{a b:Int}(h0:0<=a)(h1:a<=1125899906842624)(k0:0<=b)(k1:b<=1125899906842624):add a b=some (a+b):=by
 unfold add;rw[Jbw h0 (by omega),Jbw k0 (by omega)];simp only[Bool.or_self,Bool.false_eq_true,if_false];exact Jd9 (by omega) (by omega)
theorem Jhb{s:Int}(h0:0<=s)(h1:s<=2251799813685248):Jw s 1 3=some (s / 3):=by
 unfold Jw;rw[Jbw h0 (by omega),Jbw (n:=1) (by omega) (by omega),Jbw (n:=3) (by omega) (by omega)];simp only[Bool.or_self,Bool.false_eq_true,if_false];rw[show Fx.fl (s*1) 3=s / 3 by simp[Fx.fl]];exact Jd9 (by omega) (by omega)
end
section
open Go.RowKit Go.Shelf Fx
def Jbp(n a:Int):Int:=if a>n then a else n
def Jfb(n a:Int):Int:=if a<n then a else n
end
section
open Go.RowKit Go.Shelf
theorem Js3(n:Int)(w:BV)(hn:-9223372036854775808<=n/\n<=9223372036854775807):
  Cd Tryz.prog 80 #[J I n,J I 65536] w fun e w'=>e = BZ (J I (Jbq n 131073-65536))/\w'=w:=by
 have HP:BU _:=Jgq n 131073 w hn (by decide) (by decide);have l:=Jby n (n:=131073) (by decide);have u:=Jbz n (n:=131073) (by decide);generalize Jbq n 131073=q at *;have e1:IntKind.i64.wrap (q-65536)=q-65536:=by rw[IntKind.wrap_i64];omega
 clear hn l u;go_enter func80,ntmps80;go_wp2_with (fail);refine JA HP.out ?_;rintro e w' ⟨rfl,rfl⟩;go_wp2_with (fail);go_ret;exact⟨rfl,rfl⟩
def Jky(L:List Pt)(n a:Pt)(k:Nat):Int:=(L.take k).foldl (fun s p=>Jfb s (n.dot (p.sub a))) 0
def Jgu(L:List Pt)(n a:Pt)(k:Nat):Int:=(L.take k).foldl (fun s p=>Jbp s (n.dot (p.sub a))) 0
theorem Jqb(L:List Pt)(n a:Pt)(k:Nat)(hk:k<L.length):Jky L n a (k+1)=Jfb (Jky L n a k) (n.dot ((pt L k).sub a)):=by unfold Jky;rw[Jb6 hk,List.foldl_append];rfl
theorem Jox(L:List Pt)(n a:Pt)(k:Nat)(hk:k<L.length):Jgu L n a (k+1)=Jbp (Jgu L n a k) (n.dot ((pt L k).sub a)):=by unfold Jgu;rw[Jb6 hk,List.foldl_append];rfl
def Jfj(L:List Pt)(n a:Pt):Int:=if Jgu L n a L.length<=0 then 1 else if 0<=Jky L n a L.length then -1 else 0
theorem Jsj(v:B7)(Ls:List Pt)(n pa:Pt)(w0:BV)(hv:Lies w0 v Ls)(hl:Ls.length<=100)(dN:∀ p∈Ls,p.inB 65536=true)(cA:pa.inB 65536=true)(fS:n.inB 34359738368=true):
  Cd Tryz.prog 182 #[v,n.v,pa.v] w0 fun e W=>e = BZ (J I (Jfj Ls n pa))/\B9 w0.heap.size w0 W:=by
 obtain⟨o,c,rfl,fE,fF,ar⟩:=hv.form;have HC:BU _:=ar;have dj:BU _:=dN;clear ar hv dN;have HS:BU (Jfj Ls n pa=if Jgu Ls n pa Ls.length<=0 then 1 else if 0<=Jky Ls n pa Ls.length then -1 else 0):=rfl;generalize Jfj Ls n pa=R at *;have B1:BU (Box3 ((w0.alloc (BP #[J I n.x,J I n.y,J I n.z] 23)).alloc (BP #[J I pa.x,J I pa.y,J I pa.z] 23)) w0.heap.size n):=(Box3.new w0 n.x n.y n.z _).step (Jb _ _);have B2:BU (Box3 ((w0.alloc (BP #[J I n.x,J I n.y,J I n.z] 23)).alloc (BP #[J I pa.x,J I pa.y,J I pa.z] 23)) (w0.heap.size+1) pa):=by have:=Box3.new (w0.alloc (BP #[J I n.x,J I n.y,J I n.z] 23)) pa.x pa.y pa.z 23;rwa [World.size_alloc]at this
 have hB:BU (B9 w0.heap.size w0 ((w0.alloc (BP #[J I n.x,J I n.y,J I n.z] 23)).alloc (BP #[J I pa.x,J I pa.y,J I pa.z] 23))):=Jc (Jb w0 _) (Jb _ _);unfold Pt.v;go_enter func182,ntmps182;go_wp2_with (fail);obtain⟨V,hV⟩:∃ V:BV,V=(w0.alloc (BP #[J I n.x,J I n.y,J I n.z] 23)).alloc (BP #[J I pa.x,J I pa.y,J I pa.z] 23):=⟨_,rfl⟩
 obtain⟨ba,lG⟩:∃ ba,ba=w0.heap.size+1:=⟨_,rfl⟩
 obtain⟨bn,rS⟩:∃ bn,bn=w0.heap.size:=⟨_,rfl⟩
 rw[<- hV]at B1 B2 hB ⊢;rw[<- lG]at B2 ⊢;rw[<- rS]at B1 ⊢;clear hV lG rS
 go_loopg [7,8,9] Ls.length (fun gm s7 s8 s9 wr=>∃ k:Nat,s7=J I (Jky Ls n pa k)/\s8=J I (Jgu Ls n pa k)/\s9=J I (k:Int)/\k<=Ls.length/\gm=Ls.length-k/\BU (B9 V.heap.size V wr))
 case atStart=>exact⟨0,rfl,rfl,rfl,Nat.zero_le _,rfl,Below.refl _ _⟩
 case round =>
  obtain⟨k,rfl,rfl,rfl,hk,be,HB⟩:=hrel;have HG:BU _:=be;clear be;by_cases hkt:k<Ls.length
  ·obtain⟨g,off,rfl,x0,x1,x2⟩:=HC.out k hkt;have x0:=Ja HB.out (Ja hB.out x0);have x1:=Ja HB.out (Ja hB.out x1);have x2:=Ja HB.out (Ja hB.out x2);have eU:=dj.out _ (Ja2 hkt);have bR:BU _:=Jqb Ls n pa k hkt;have cf:BU _:=Jox Ls n pa k hkt;generalize pt Ls k=mo at *;generalize Jky Ls n pa k=lo at *;generalize Jgu Ls n pa k=hi at *;have L1:BU _:=fun w'=>Jcp mo pa w' (J8 eU (by decide)) (J8 cA (by decide));have L2:BU _:=fun w'=>Jlb n (mo.sub pa) w' fS (Jcq eU cA);unfold Pt.v at L1 L2;obtain⟨q0,q1,q2,_,_,_⟩:=B1.out.step HB.out;obtain⟨p0,p1,p2,_,_,_⟩:=B2.out.step HB.out;have mR:(k:Int)<(Ls.length:Int):=by omega
   unfold Jfb at bR;unfold Jbp at cf;obtain⟨nl,e1⟩:∃ v,(if n.dot (mo.sub pa)<lo then n.dot (mo.sub pa) else lo)=v:=⟨_,rfl⟩
   obtain⟨nh,e2⟩:∃ v,(if n.dot (mo.sub pa)>hi then n.dot (mo.sub pa) else hi)=v:=⟨_,rfl⟩
   rw[e1]at bR;rw[e2]at cf;go_upto_region 6 with fail;refine Bq [.some (B_ #[J I n.x,J I n.y,J I n.z]),.some (BQ (some ⟨g,off,none⟩) Ls.length c),.some (J I ((k:Int))),.some (BO (some ⟨g,off+k*3,none⟩)),.some (B_ #[J I mo.x,J I mo.y,J I mo.z]),.some (B_ #[J I pa.x,J I pa.y,J I pa.z]),.some (B_ #[J I ((mo.sub pa).x),J I ((mo.sub pa).y),J I ((mo.sub pa).z)]),.some (J I (n.dot (mo.sub pa))),.some (J I (n.dot (mo.sub pa)))] [18,19,20,21,22,23,24,25,11] [(0,BQ (some ⟨g,off,none⟩) Ls.length c),(4,BO (some ⟨bn,0,none⟩)),(5,BO (some ⟨ba,0,none⟩)),(9,J I ((k:Int)))] (fun γ L w9=>B9 wr.heap.size wr w9) ⟨rfl,rfl,rfl,rfl,trivial⟩ ?_ ?_ ?_
   ·exact(Below.refl _ wr).drew
   ·intro D WA Z hD ah hZ T;simp only[RV.Outs,RV.Slots,Nat.reduceAdd]at T
    iterate 6 first
     |(refine Br _ (Bs T (fun γ v L w hl h=>h) (fun γ L a w hH hl h9 k9=>⟨_,?_,rfl⟩)) ?_;· simp[JD,go_sem,h9])
     |(refine Br _ (Bs T (fun γ v L w hl h=>h) (fun γ L a w hH hl h9 k9=>⟨_,?_,rfl⟩)) ?_;· simp[JC]at k9;simp[JD,go_sem,h9,k9,mR])
     |(refine Br _ (Bs T (fun γ v L w hl h=>h) (fun γ L a w hH hl h9 k9=>⟨_,?_,rfl⟩)) ?_;· have ai:=hH.glob;have v0:=Ja ai x0;have v1:=Ja ai x1;have v2:=Ja ai x2;simp[JC]at k9;simp[JD,go_sem,h9,k9,v0,v1,v2])
     |(refine Br _ (Bs T (fun γ v L w hl h=>h) (fun γ L a w hH hl h9 k9=>⟨_,?_,rfl⟩)) ?_;· have ai:=hH.glob;have q0:=Ja ai q0;have q1:=Ja ai q1;have q2:=Ja ai q2;have q3:=Ja ai p0;have q4:=Ja ai p1;have q5:=Ja ai p2;simp[JD,go_sem,h9,q0,q1,q2,q3,q4,q5])
    refine Br _ (Bw (fun γ L a w hH hl hA=>by have h9:=T γ L a w hH;have k9:=hA;simp[JC]at k9;have ai:=hH.glob;exact⟨181,#[B_ #[J I mo.x,J I mo.y,J I mo.z],B_ #[J I pa.x,J I pa.y,J I pa.z]],by simp[go_sem,h9,k9],JA (L1.out w) (by rintro e w2 ⟨rfl,hb⟩;exact⟨_,rfl,rfl,fun j v _ h=>h.keep _,ai.trans (hb.mono ai.size)⟩)⟩)) ?_;refine Br _ (Bw (fun γ L a w hH hl hA=>by have h9:=T γ L a w hH;have k9:=hA;simp[JC]at k9;have ai:=hH.glob;exact⟨180,#[B_ #[J I n.x,J I n.y,J I n.z],B_ #[J I ((mo.sub pa).x),J I ((mo.sub pa).y),J I ((mo.sub pa).z)]],by simp[go_sem,h9,k9],JA (L2.out w) (by rintro e w2 ⟨rfl,hb⟩;exact⟨_,rfl,rfl,fun j v _ h=>h.keep _,ai.trans (hb.mono ai.size)⟩)⟩)) ?_
    (refine Br _ (Bs T (fun γ v L w hl h=>h) (fun γ L a w hH hl h9 k9=>⟨_,?_,rfl⟩)) ?_;· simp[JC]at k9;simp[JD,go_sem,h9,k9])
    exact RV.AllDo.nil
   ·intro γ w5 L9 hL aX aD;have bB:=aD;clear hL aX aD;simp only[RV.putL,Act.put,JH,JG,JF];have nC:BU _:=Jc HB.out bB;clear bB L1 L2 q0 q1 q2 p0 p1 p2 x0 x1 x2;go_wp2_with (fail)
    go_roundg (Ls.length-(k+1))
    case measure=>have:=HG.out;omega
    case rel=>exact⟨k+1,by rw[bR.out],by rw[cf.out],by go_num,by omega,rfl,nC⟩
  ·have e:k=Ls.length:=by omega
   subst e;generalize Jky Ls n pa Ls.length=lo at *;generalize Jgu Ls n pa Ls.length=hi at *;by_cases h1:hi<=0
   ·have e:R=1:=by rw[HS.out,if_pos h1]
    subst e;clear HS;go_wp2_with (fail);go_ret;exact⟨rfl,Jc hB.out HB.out⟩
   ·by_cases h2:0<=lo
    ·have e:R = -1:=by rw[HS.out,if_neg h1,if_pos h2]
     subst e;clear HS;go_wp2_with (fail);go_ret;exact⟨rfl,Jc hB.out HB.out⟩
    ·have e:R=0:=by rw[HS.out,if_neg h1,if_neg h2]
     subst e;clear HS;go_wp2_with (fail);go_ret;exact⟨rfl,Jc hB.out HB.out⟩
theorem Jpd(v:B7)(Ls:List Pt)(p:Pt)(both:Bool)(w0:BV)(hv:Lies w0 v Ls)(hl:Ls.length<=1000000)(hp:p.inB 1152921504606846976=true):
  Cd Tryz.prog 184 #[v,p.v,BT both] w0 fun e W=>e = BZ (BT (decide (p∈Ls) ||(both&&decide (p.neg∈Ls))))/\B9 w0.heap.size w0 W:=by
 obtain⟨o,c,rfl,fE,fF,ar⟩:=hv.form;have HC:BU _:=ar;clear ar hv;rw[Pt.inB_iff]at hp;have HT:BU (∀ k,k<Ls.length->(pt Ls k=p\/(both=true/\pt Ls k=p.neg))->(decide (p∈Ls) ||(both&&decide (p.neg∈Ls)))=true):=fun k hk h=>by
  rcases h with h |⟨h1,h2⟩
  ·rw[decide_eq_true (h▸Ja2 hk:p∈Ls)];rfl
  ·rw[h1,decide_eq_true (h2▸Ja2 hk:p.neg∈Ls)];simp
 have HE:BU ((∀ k,k<Ls.length->¬ (pt Ls k=p\/(both=true/\pt Ls k=p.neg)))->(decide (p∈Ls) ||(both&&decide (p.neg∈Ls)))=false):=fun h=>by
  have h1:¬ p∈Ls:=fun hm=>by
   obtain⟨k,hk,e⟩:=Jd4 hm;exact h k hk (Or.inl e)
  rw[decide_eq_false h1];cases both with
  | false=>rfl
  | true =>
   have h2:¬ p.neg∈Ls:=fun hm=>by
    obtain⟨k,hk,e⟩:=Jd4 hm;exact h k hk (Or.inr ⟨rfl,e⟩)
   rw[decide_eq_false h2];rfl
 generalize(decide (p∈Ls) ||(both&&decide (p.neg∈Ls)))=R at *;have B1:BU (Box3 (w0.alloc (BP #[J I p.x,J I p.y,J I p.z] 23)) w0.heap.size p):=Box3.new w0 p.x p.y p.z _;have hB:BU (B9 w0.heap.size w0 (w0.alloc (BP #[J I p.x,J I p.y,J I p.z] 23))):=Jb w0 _;have n1:IntKind.i64.wrap (-p.x) = -p.x:=by rw[IntKind.wrap_i64];omega
 have n2:IntKind.i64.wrap (-p.y) = -p.y:=by rw[IntKind.wrap_i64];omega
 have n3:IntKind.i64.wrap (-p.z) = -p.z:=by rw[IntKind.wrap_i64];omega
 clear hp;unfold Pt.v;go_enter func184,ntmps184;go_wp2_with (fail);obtain⟨V,hV⟩:∃ V:BV,V=w0.alloc (BP #[J I p.x,J I p.y,J I p.z] 23):=⟨_,rfl⟩
 obtain⟨bp,qf⟩:∃ bp,bp=w0.heap.size:=⟨_,rfl⟩
 rw[<- hV]at B1 hB ⊢;rw[<- qf]at B1 ⊢;clear hV qf
 go_loopg [7] Ls.length (fun gm s wr=>∃ k:Nat,s=J I (k:Int)/\k<=Ls.length/\gm=Ls.length-k/\BU (∀ j,j<k->¬ (pt Ls j=p\/(both=true/\pt Ls j=p.neg)))/\BU (B9 V.heap.size V wr))
 case atStart=>exact⟨0,rfl,Nat.zero_le _,rfl,fun j h=>absurd h (Nat.not_lt_zero _),Below.refl _ _⟩
 case round =>
  obtain⟨k,rfl,hk,be,HA,HB⟩:=hrel;have HG:BU _:=be;clear be;by_cases hkt:k<Ls.length
  ·obtain⟨g,off,rfl,x0,x1,x2⟩:=HC.out k hkt;have x0:=Ja HB.out (Ja hB.out x0);have x1:=Ja HB.out (Ja hB.out x1);have x2:=Ja HB.out (Ja hB.out x2);obtain⟨p0,p1,p2,_,_,_⟩:=B1.out.step HB.out;have dV:BU _:=HT.out k hkt;have bR:BU (¬ (pt Ls k=p\/(both=true/\pt Ls k=p.neg))->∀ j,j<k+1->¬ (pt Ls j=p\/(both=true/\pt Ls j=p.neg))):=fun h j hj=>by
    by_cases e:j=k
    ·subst e;exact h
    ·exact HA.out j (by omega)
   clear HT HE HA;generalize pt Ls k=m at *;cases both with
   | false =>
    by_cases ex:m.x=p.x
    ·by_cases ey:m.y=p.y
     ·by_cases ez:m.z=p.z
      ·have e:R=true:=dV.out (Or.inl ((Jbl _ _).2 ⟨ex,ey,ez⟩));subst e;clear dV bR;go_wp2_with (fail);go_region;go_wp2_with (fail);go_ret;exact⟨rfl,Jc hB.out HB.out.drew⟩
      ·have cf:BU _:=bR.out (fun h=>h.elim (fun h=>ez ((Jbl _ _).1 h).2.2) (fun h=>by cases h.1));clear dV bR;go_wp2_with (fail);go_region;go_wp2_with (fail)
       go_roundg (Ls.length-(k+1))
       case measure=>have:=HG.out;omega
       case rel=>exact⟨k+1,by go_num,by omega,rfl,cf,HB.out.drew⟩
     ·have cf:BU _:=bR.out (fun h=>h.elim (fun h=>ey ((Jbl _ _).1 h).2.1) (fun h=>by cases h.1));clear dV bR;go_wp2_with (fail);go_region;go_wp2_with (fail)
      go_roundg (Ls.length-(k+1))
      case measure=>have:=HG.out;omega
      case rel=>exact⟨k+1,by go_num,by omega,rfl,cf,HB.out.drew⟩
    ·have cf:BU _:=bR.out (fun h=>h.elim (fun h=>ex ((Jbl _ _).1 h).1) (fun h=>by cases h.1));clear dV bR;go_wp2_with (fail);go_region;go_wp2_with (fail)
     go_roundg (Ls.length-(k+1))
     case measure=>have:=HG.out;omega
     case rel=>exact⟨k+1,by go_num,by omega,rfl,cf,HB.out.drew⟩
   | true =>
    by_cases ex:m.x=p.x
    ·by_cases ey:m.y=p.y
     ·by_cases ez:m.z=p.z
      ·have e:R=true:=dV.out (Or.inl ((Jbl _ _).2 ⟨ex,ey,ez⟩));subst e;clear dV bR;go_wp2_with (fail);go_region;go_wp2_with (fail);go_ret;exact⟨rfl,Jc hB.out HB.out.drew⟩
      ·have ak:¬ m=p:=fun h=>ez ((Jbl _ _).1 h).2.2;by_cases dx:m.x = -p.x
       ·by_cases dy:m.y = -p.y
        ·by_cases dz:m.z = -p.z
         ·have e:R=true:=dV.out (Or.inr ⟨rfl,(Jbl _ _).2 ⟨dx,dy,dz⟩⟩);subst e;clear dV bR;go_wp2_with (fail);go_region;go_wp2_with (fail);go_ret;exact⟨rfl,Jc hB.out HB.out.drew⟩
         ·have cf:BU _:=bR.out (fun h=>h.elim ak (fun h=>(fun h=>dz ((Jbl _ _).1 h).2.2) h.2));clear dV bR;go_wp2_with (fail);go_region;go_wp2_with (fail)
          go_roundg (Ls.length-(k+1))
          case measure=>have:=HG.out;omega
          case rel=>exact⟨k+1,by go_num,by omega,rfl,cf,HB.out.drew⟩
        ·have cf:BU _:=bR.out (fun h=>h.elim ak (fun h=>(fun h=>dy ((Jbl _ _).1 h).2.1) h.2));clear dV bR;go_wp2_with (fail);go_region;go_wp2_with (fail)
         go_roundg (Ls.length-(k+1))
         case measure=>have:=HG.out;omega
         case rel=>exact⟨k+1,by go_num,by omega,rfl,cf,HB.out.drew⟩
       ·have cf:BU _:=bR.out (fun h=>h.elim ak (fun h=>(fun h=>dx ((Jbl _ _).1 h).1) h.2));clear dV bR;go_wp2_with (fail);go_region;go_wp2_with (fail)
        go_roundg (Ls.length-(k+1))
        case measure=>have:=HG.out;omega
        case rel=>exact⟨k+1,by go_num,by omega,rfl,cf,HB.out.drew⟩
     ·have ak:¬ m=p:=fun h=>ey ((Jbl _ _).1 h).2.1;by_cases dx:m.x = -p.x
      ·by_cases dy:m.y = -p.y
       ·by_cases dz:m.z = -p.z
        ·have e:R=true:=dV.out (Or.inr ⟨rfl,(Jbl _ _).2 ⟨dx,dy,dz⟩⟩);subst e;clear dV bR;go_wp2_with (fail);go_region;go_wp2_with (fail);go_ret;exact⟨rfl,Jc hB.out HB.out.drew⟩
        ·have cf:BU _:=bR.out (fun h=>h.elim ak (fun h=>(fun h=>dz ((Jbl _ _).1 h).2.2) h.2));clear dV bR;go_wp2_with (fail);go_region;go_wp2_with (fail)
         go_roundg (Ls.length-(k+1))
         case measure=>have:=HG.out;omega
         case rel=>exact⟨k+1,by go_num,by omega,rfl,cf,HB.out.drew⟩
       ·have cf:BU _:=bR.out (fun h=>h.elim ak (fun h=>(fun h=>dy ((Jbl _ _).1 h).2.1) h.2));clear dV bR;go_wp2_with (fail);go_region;go_wp2_with (fail)
        go_roundg (Ls.length-(k+1))
        case measure=>have:=HG.out;omega
        case rel=>exact⟨k+1,by go_num,by omega,rfl,cf,HB.out.drew⟩
      ·have cf:BU _:=bR.out (fun h=>h.elim ak (fun h=>(fun h=>dx ((Jbl _ _).1 h).1) h.2));clear dV bR;go_wp2_with (fail);go_region;go_wp2_with (fail)
       go_roundg (Ls.length-(k+1))
       case measure=>have:=HG.out;omega
       case rel=>exact⟨k+1,by go_num,by omega,rfl,cf,HB.out.drew⟩
    ·have ak:¬ m=p:=fun h=>ex ((Jbl _ _).1 h).1;by_cases dx:m.x = -p.x
     ·by_cases dy:m.y = -p.y
      ·by_cases dz:m.z = -p.z
       ·have e:R=true:=dV.out (Or.inr ⟨rfl,(Jbl _ _).2 ⟨dx,dy,dz⟩⟩);subst e;clear dV bR;go_wp2_with (fail);go_region;go_wp2_with (fail);go_ret;exact⟨rfl,Jc hB.out HB.out.drew⟩
       ·have cf:BU _:=bR.out (fun h=>h.elim ak (fun h=>(fun h=>dz ((Jbl _ _).1 h).2.2) h.2));clear dV bR;go_wp2_with (fail);go_region;go_wp2_with (fail)
        go_roundg (Ls.length-(k+1))
        case measure=>have:=HG.out;omega
        case rel=>exact⟨k+1,by go_num,by omega,rfl,cf,HB.out.drew⟩
      ·have cf:BU _:=bR.out (fun h=>h.elim ak (fun h=>(fun h=>dy ((Jbl _ _).1 h).2.1) h.2));clear dV bR;go_wp2_with (fail);go_region;go_wp2_with (fail)
       go_roundg (Ls.length-(k+1))
       case measure=>have:=HG.out;omega
       case rel=>exact⟨k+1,by go_num,by omega,rfl,cf,HB.out.drew⟩
     ·have cf:BU _:=bR.out (fun h=>h.elim ak (fun h=>(fun h=>dx ((Jbl _ _).1 h).1) h.2));clear dV bR;go_wp2_with (fail);go_region;go_wp2_with (fail)
      go_roundg (Ls.length-(k+1))
      case measure=>have:=HG.out;omega
      case rel=>exact⟨k+1,by go_num,by omega,rfl,cf,HB.out.drew⟩
  ·have e:R=false:=HE.out (fun j hj=>HA.out j (by omega));subst e;go_wp2_with (fail);go_ret;exact⟨rfl,Jc hB.out HB.out⟩
def Jdz(p:Pt):Pt:=⟨Jbq p.x 131073-65536,Jbq p.y 131073-65536,Jbq p.z 131073-65536⟩
def Pt.fits(p:Pt):Prop:=(-9223372036854775808<=p.x/\p.x<=9223372036854775807)/\(-9223372036854775808<=p.y/\p.y<=9223372036854775807)/\(-9223372036854775808<=p.z/\p.z<=9223372036854775807)
structure Good(s:Sh):Prop where
 k:1<=s.kind/\s.kind<=4
 r:1<=s.radius/\s.radius<=16384
 hx:1<=s.half.x/\s.half.x<=65536
 hy:1<=s.half.y/\s.half.y<=65536
 hz:1<=s.half.z/\s.half.z<=65536
 none:s.kind<=3->s.pts = []
 ok:J9 s=0
theorem Jf8{k r x y z:Int}(hk:1<=k/\k<=3)(hr:1<=r/\r<=16384)(hx:1<=x/\x<=65536)(hy:1<=y/\y<=65536)(hz:1<=z/\z<=65536):Good ⟨k,r,⟨x,y,z⟩,[]⟩:=
 ⟨⟨hk.1,by dsimp only;omega⟩,hr,hx,hy,hz,fun _=>rfl,by
  have:k=1\/k=2\/k=3:=by omega
  rcases this with rfl | rfl | rfl <;> simp[J9,Jbs,inR,Jaa] <;> omega⟩
theorem Jjz{r x y z:Int}{M:List Pt}(hr:1<=r/\r<=16384)(hx:1<=x/\x<=65536)(hy:1<=y/\y<=65536)(hz:1<=z/\z<=65536)(hc:J9 ⟨4,r,⟨x,y,z⟩,M⟩=0):Good ⟨4,r,⟨x,y,z⟩,M⟩:=
 ⟨⟨by dsimp only;omega,by dsimp only;omega⟩,hr,hx,hy,hz,fun h=>by dsimp only at h;omega,hc⟩
theorem Cells.grown{A B:BV}{b:Nat}{vs:List B7}{row:Option Nat}(h:Cells A b vs)(hg:A.grownBy B row)(ak:row≠some b):Cells B b vs:=fun i v e=>by
 have hb:B.heap[b]?=A.heap[b]?:=hg.block b (JB _ _ (h i v e).1) (fun e=>ak e.symm);exact⟨(World.cell?_of_block (a:=⟨b,i,none⟩) hb).trans (h i v e).1,(World.frozen?_of_block (a:=⟨b,i,none⟩) hb).trans (h i v e).2⟩
theorem Cells.put{W:BV}{b g:Nat}{vs:List B7}(h:Cells W b vs)(ak:b≠g)(k:Nat)(u:B7):Cells (W.setCell ⟨g,k,none⟩ u) b vs:=fun i v e=>by
 obtain⟨q1,q2⟩:=h i v e;exact⟨by simp[go_sem,q1],by simp[go_sem,q2]⟩
theorem Ja7{w:BV}{base:Nat}{t:TypeId}{sz n:Nat}{v:B7}{xs:List B7}(h:w.ownsRow base t sz v n xs):∃ o l c,v = BQ o l c:=by
 rcases h.2 with ⟨rfl,h0⟩ |⟨g,cap,cur,rfl,_⟩
 ·exact⟨_,_,_,rfl⟩
 ·exact⟨_,_,_,rfl⟩
structure RS(w0 W:BV)(ba bs b3:Nat)(raw:List B7)(a0 a1 a2 a3 a4:B7)(u:B7)(M:List Pt):Prop where
 c1:Cells W ba raw
 c2:Cells W bs [J I 0,J I 0,J I 0,J I 0,J I 0,BQ none 0 0]
 c3:Cells W b3 [a0,a1,a2,a3,a4,u]
 row:W.ownsRow w0.heap.size 23 3 u M.length (fl3 M)
 na:u.ownBlock≠some ba
 ns:u.ownBlock≠some bs
 n3:u.ownBlock≠some b3
 below:B9 w0.heap.size w0 W
 l3:w0.heap.size<=b3
 d1:ba≠b3
 d2:bs≠b3
 r0:∃ v,raw[0]?=some v
theorem RS.step{w0 W X:BV}{ba bs b3:Nat}{raw:List B7}{a0 a1 a2 a3 a4 u:B7}{M:List Pt}(h:RS w0 W ba bs b3 raw a0 a1 a2 a3 a4 u M)(hb:B9 W.heap.size W X):RS w0 X ba bs b3 raw a0 a1 a2 a3 a4 u M:=
 ⟨h.c1.step hb,h.c2.step hb,h.c3.step hb,Jq h.row hb,h.na,h.ns,h.n3,Jc h.below hb,h.l3,h.d1,h.d2,h.r0⟩
theorem RS.app{w0 V W:BV}{ba bs b3:Nat}{raw:List B7}{a0 a1 a2 a3 a4 u u':B7}{M:List Pt}{p:Pt}(h:RS w0 V ba bs b3 raw a0 a1 a2 a3 a4 u M)(hr:W.ownsRow w0.heap.size 23 3 u' (M.length+1) (fl3 M ++ [J I p.x,J I p.y,J I p.z]))(hg:Grew V W u u'):RS w0 (W.setCell ⟨b3,5,none⟩ u') ba bs b3 raw a0 a1 a2 a3 a4 u' (M ++ [p]):=by
 obtain⟨v0,e0⟩:=h.r0;have la:ba<V.heap.size:=JB _ _ (h.c1 0 _ e0).1;have ls:bs<V.heap.size:=JB _ _ (h.c2 0 _ rfl).1;have l3:b3<V.heap.size:=JB _ _ (h.c3 0 _ rfl).1;have off:∀ b,b<V.heap.size->u.ownBlock≠some b->u'.ownBlock≠some b:=fun b hb ak e=>by
  rcases hg.same with s |⟨k,s,hk⟩
  ·exact ak (s▸e)
  ·rw[s]at e;cases e;omega
 refine⟨(h.c1.grown hg.grown h.na).put h.d1 _ _,(h.c2.grown hg.grown h.ns).put h.d2 _ _,(h.c3.grown hg.grown h.n3).set 5 u' (by simp),?_,off _ la h.na,off _ ls h.ns,off _ l3 h.n3,(h.below.grown hg.grown h.below.size (fun k e=>(h.row.lt k e).1)).setCell h.l3 _,h.l3,h.d1,h.d2,h.r0⟩;refine ownsRow_setCell_other ?_ (off _ l3 h.n3) _;rw[Ja6,List.length_append];exact hr
theorem Jkj(x:Int)(hx:-9223372036854775808<=x/\x<=9223372036854775807):∃ q:Int,Jbq x 131073-65536=q/\∀ w:BV,Cd Tryz.prog 80 #[J I x,J I 65536] w fun e w'=>e = BZ (J I q)/\w'=w:=⟨_,rfl,fun w=>Js3 x w hx⟩
theorem Jhj{P:Program}{w:BV}{a:Cf}(s x:Operand)(t ty:TypeId)
  (base:Nat) (e:TypeId) (i:TypeInfo) (z:B7) (size bytes:Nat) (ht:P.underlying t=some (.slice e)) (hi:P.info? e=some i) (hz:i.zero=some z)
  (sJ:i.size=size) (hby:i.bytes=bytes) (hzs:z.cells.size=size) (cF:0<size)
  (v:B7) (n:Nat) (xs:List B7) (hs:a.eval s=v) (yu:w.ownsRow base e size v n xs)
  (ad:Ce) (m c:Nat) (news:List B7) (hx:a.eval x = BQ (some ad) m c) (hl:news.length=m*size) (sK:∀ j u,news[j]?=some u->w.cell? (ad.add j)=some u) (h1:∀ u∈news,u.oneCell'=true)
  (yA:n+m<=maxLen) (hbytes:(n+m)*bytes<=140737488355328) (sL:base<=w.heap.size) :
  ∃ v' w',(∀ o:Oper,o.op = .call { callee:=.builtin .append,args:=#[s,x],argTypes:=#[t,t] }->o.type=ty->(JD a.eval o).run P w = .ok (.value v') w')/\w'.ownsRow base e size v' (n+m) (xs++news)/\Grew w w' v v':=by
 obtain⟨v',w',hr,h2,h3,h4,h5⟩:=run_append_own_at (P:=P) w base t ty e i z size bytes ht hi hz sJ hby hzs cF v n xs yu ad m c news hl sK h1 yA hbytes sL;refine⟨v',w',?_,h2,h3,?_⟩
 ·intro o ho hty;unfold JD;simp only[ho,hty,resolve,invoke,builtin,Sem.run_bind,Sem.run_pure,Result.andThen_ok,List.map_toArray,List.map_cons,List.map_nil,hs,hx,hr]
 ·rcases h5 with e | e
  ·exact Or.inl e
  ·exact Or.inr ⟨_,e,Nat.le_refl _⟩
def A8(p q s:Nat)(W7:BV)(B:Nat)(u:B7)(b3 k n:Nat)(xs news:List B7)(γ:Nat->B7)(L:Nat->Bool)(w:BV):Prop:=
 (L q=false/\L s=false/\B9 W7.heap.size W7 w/\(L p=true->∃ g,γ p = BQ (some ⟨g,0,none⟩) 1 1/\w.heap[g]?=some (BP news.toArray 23 (0,0)))) \/
 (L q=true/\L s=false/\w.ownsRow B 23 3 (γ q) (n+1) (xs++news)/\Grew W7 w u (γ q)) \/
 (L q=true/\L s=true/\∃ w8:BV,w8.ownsRow B 23 3 (γ q) (n+1) (xs++news)/\Grew W7 w8 u (γ q)/\w=w8.setCell ⟨b3,k,none⟩ (γ q))
section
variable {p q s:Nat} {W7:BV} {B:Nat} {u:B7} {b3 k n:Nat} {xs news:List B7} {γ:Nat->B7} {L:Nat->Bool} {w:BV}
theorem A8.start(hp:L p=false)(hq:L q=false)(hs:L s=false)(hb:B9 W7.heap.size W7 w):A8 p q s W7 B u b3 k n xs news γ L w:=Or.inl ⟨hq,hs,hb,fun e=>by rw[hp]at e;cases e⟩
theorem A8.other(h:A8 p q s W7 B u b3 k n xs news γ L w){i:Nat}(v:B7)(hp:p≠i)(hq:q≠i)(hs:s≠i):A8 p q s W7 B u b3 k n xs news (RV.upd γ i v) (more L i) w:=by
 unfold A8;rw[Bt hp,Bt hq,Bt hs,BI _ _ hp,BI _ _ hq];exact h
theorem A8.early(h:A8 p q s W7 B u b3 k n xs news γ L w)(hq:L q=false):L s=false/\B9 W7.heap.size W7 w/\(L p=true->∃ g,γ p = BQ (some ⟨g,0,none⟩) 1 1/\w.heap[g]?=some (BP news.toArray 23 (0,0))):=by
 rcases h with h | h | h
 ·exact h.2
 ·rw[hq]at h;cases h.1
 ·rw[hq]at h;cases h.1
theorem A8.lay(h:A8 p q s W7 B u b3 k n xs news γ L w)(hq:L q=false)(npq:q≠p)(nps:s≠p):A8 p q s W7 B u b3 k n xs news (RV.upd γ p (BQ (some ⟨w.heap.size,0,none⟩) 1 1)) (more L p) (w.alloc (BP news.toArray 23)):=by
 obtain⟨h1,h2,_⟩:=h.early hq;refine Or.inl ⟨by rw[Bt npq];exact hq,by rw[Bt nps];exact h1,Jc h2 (Jb _ _),fun _=>⟨w.heap.size,by rw[RV.upd_self],heap_alloc_new _ _⟩⟩
theorem A8.app{w':BV}{v':B7}(hs:L s=false)(nqs:s≠q)(hr:w'.ownsRow B 23 3 v' (n+1) (xs++news))(hg:Grew W7 w' u v'):A8 p q s W7 B u b3 k n xs news (RV.upd γ q v') (more L q) w':=
 Or.inr (Or.inl ⟨BD,by rw[Bt nqs];exact hs,by rw[RV.upd_self];exact hr,by rw[RV.upd_self];exact hg⟩)
theorem A8.mid(h:A8 p q s W7 B u b3 k n xs news γ L w)(hq:L q=true)(hs:L s=false):w.ownsRow B 23 3 (γ q) (n+1) (xs++news)/\Grew W7 w u (γ q):=by
 rcases h with h | h | h
 ·rw[hq]at h;cases h.1
 ·exact h.2.2
 ·rw[hs]at h;cases h.2.1
theorem A8.store(h:A8 p q s W7 B u b3 k n xs news γ L w)(hq:L q=true)(hs:L s=false)(nqs:q≠s)(v:B7):A8 p q s W7 B u b3 k n xs news (RV.upd γ s v) (more L s) (w.setCell ⟨b3,k,none⟩ (γ q)):=
 Or.inr (Or.inr ⟨by rw[Bt nqs];exact hq,BD,w,by rw[BI _ _ nqs];exact(h.mid hq hs).1,by rw[BI _ _ nqs];exact(h.mid hq hs).2,by rw[BI _ _ nqs]⟩)
theorem A8.done(h:A8 p q s W7 B u b3 k n xs news γ L w)(hs:L s=true):∃ w8:BV,w8.ownsRow B 23 3 (γ q) (n+1) (xs++news)/\Grew W7 w8 u (γ q)/\w=w8.setCell ⟨b3,k,none⟩ (γ q):=by
 rcases h with h | h | h
 ·rw[hs]at h;cases h.2.1
 ·rw[hs]at h;cases h.2.1
 ·exact h.2.2
end
theorem Jqn(k r hx hy hz:Int)(pv:B7)(Ls:List Pt)(w0:BV)(bk:-9223372036854775808<=k/\k<=9223372036854775807)(br:-9223372036854775808<=r/\r<=9223372036854775807)(bx:-9223372036854775808<=hx/\hx<=9223372036854775807)(dk:-9223372036854775808<=hy/\hy<=9223372036854775807)(bz:-9223372036854775808<=hz/\hz<=9223372036854775807)(hv:Lies w0 pv Ls)(aP:∀ p∈Ls,p.fits):
  Cd Tryz.prog 25 #[B_ #[J I k,J I r,J I hx,J I hy,J I hz,pv]] w0 fun e W=>∃(s:Sh) (u:B7),e = BZ (s.v u)/\Row w0 W u s.pts/\Good s/\(s.kind=4->Jbq k 4=3):=by
 have HV:BU _:=hv;have vi:BU _:=aP;obtain⟨o,c,rfl,fE,fF,ar⟩:=hv.form;have qZ:BU _:=ar;clear hv aP ar;have P1:BU (∀ w',Cd Tryz.prog 79 #[J I k,J I 4] w' fun e W=>e = BZ (J I (Jbq k 4))/\W=w'):=fun w'=>Jgq k 4 w' bk (by decide) (by decide);have P2:BU _:=fun w'=>Jgq r 16384 w' br (by decide) (by decide);have P3:BU _:=fun w'=>Jge hx 65536 w' bx (by decide) (by decide);have P4:BU _:=fun w'=>Jge hy 65536 w' dk (by decide) (by decide);have P5:BU _:=fun w'=>Jge hz 65536 w' bz (by decide) (by decide);have l1:=Jby k (n:=4) (by decide);have u1:=Jbz k (n:=4) (by decide);have l2:=Jby r (n:=16384) (by decide);have u2:=Jbz r (n:=16384) (by decide);have l3:=Jby hx (n:=65536) (by decide);have u3:=Jbz hx (n:=65536) (by decide);have l4:=Jby hy (n:=65536) (by decide);have u4:=Jbz hy (n:=65536) (by decide);have l5:=Jby hz (n:=65536) (by decide);have u5:=Jbz hz (n:=65536) (by decide);generalize Jbq k 4=kz at *;generalize Jbq r 16384=pr at *;generalize Jbq hx 65536=px at *;generalize Jbq hy 65536=py at *;generalize Jbq hz 65536=pz at *;have n1:IntKind.i64.wrap (1+kz)=1+kz:=by rw[IntKind.wrap_i64];omega
 have n2:IntKind.i64.wrap (1+pr)=1+pr:=by rw[IntKind.wrap_i64];omega
 have n3:IntKind.i64.wrap (1+px)=1+px:=by rw[IntKind.wrap_i64];omega
 have n4:IntKind.i64.wrap (1+py)=1+py:=by rw[IntKind.wrap_i64];omega
 have n5:IntKind.i64.wrap (1+pz)=1+pz:=by rw[IntKind.wrap_i64];omega
 clear bk br bx dk bz;go_enter func25,ntmps25;go_upto_region 1 with fail;obtain⟨V,hV⟩:∃ V:BV,V=(w0.alloc (BP #[J I k,J I r,J I hx,J I hy,J I hz,BQ o Ls.length c] 26)).alloc (BP #[J I 0,J I 0,J I 0,J I 0,J I 0,BQ none 0 0] 37):=⟨_,rfl⟩
 have hD:BU (B9 w0.heap.size w0 V):=by rw[hV];exact Jc (Jb w0 _) (Jb _ _)
 have C1:BU (Cells V w0.heap.size [J I k,J I r,J I hx,J I hy,J I hz,BQ o Ls.length c]):=by rw[hV];exact Cells.step (Cells.new w0 [J I k,J I r,J I hx,J I hy,J I hz,BQ o Ls.length c] _) (Jb _ _)
 have C2:BU (Cells V (w0.heap.size+1) [J I 0,J I 0,J I 0,J I 0,J I 0,BQ none 0 0]):=by rw[hV];have:=Cells.new (w0.alloc (BP #[J I k,J I r,J I hx,J I hy,J I hz,BQ o Ls.length c] 26)) [J I 0,J I 0,J I 0,J I 0,J I 0,BQ none 0 0] 37;rwa [World.size_alloc]at this
 rw[<- hV];clear hV;obtain⟨ba,lG⟩:∃ ba,ba=w0.heap.size:=⟨_,rfl⟩
 obtain⟨bs,AN⟩:∃ bs,bs=w0.heap.size+1:=⟨_,rfl⟩
 have cQ:w0.heap.size<=bs:=by omega
 rw[<- AN]at C2 ⊢;rw[<- lG]at C1 ⊢;clear lG AN;have c0:=(C1.out 0 _ rfl).1;have c1:=(C1.out 1 _ rfl).1;refine Bq [.some (BO (some ⟨ba,0,none⟩)),.some (J I k),.some (J I kz),.some (J I (1+kz)),.some (BO (some ⟨ba,1,none⟩)),.some (J I r),.some (J I pr),.some (J I (1+pr)),.some (B_ #[J I (1+kz),J I (1+pr),J I 0,J I 0,J I 0,BQ none 0 0]),none,none] [7,8,9,10,11,12,13,14,15,4,0] [(1,BO (some ⟨ba,0,none⟩))] (fun γ L w=>B9 V.heap.size V w/\RV.Pend V 37 9 10 #[J I (1+kz),J I (1+pr),J I 0,J I 0,J I 0,BQ none 0 0] γ L w) ⟨rfl,trivial⟩ ?_ ?_ ?_
 ·exact⟨(Below.refl _ V).drew,RV.Pend.start rfl⟩
 ·intro D WA Z hD ah hZ T;simp only[RV.Outs,RV.Slots,Nat.reduceAdd]at T
  iterate 2 first
   |(refine Br _ (Bs T (fun γ v L w hl h=>⟨h.1,h.2.other v (by decide) (by decide)⟩) (fun γ L a w hH hl h9 k9=>⟨_,?_,rfl⟩)) ?_;· simp[JD,go_sem,h9])
   |(refine Br _ (Bs T (fun γ v L w hl h=>⟨h.1,h.2.other v (by decide) (by decide)⟩) (fun γ L a w hH hl h9 k9=>⟨_,?_,rfl⟩)) ?_;· have q0:=Ja hH.glob.1 c0;simp[JC]at k9;simp[JD,go_sem,h9,k9,q0])
  refine Br _ (Bw (fun γ L a w hH hl hA=>by have h9:=T γ L a w hH;have k9:=hA;simp[JC]at k9;exact⟨79,#[J I k,J I 4],by simp[go_sem,h9,k9],JA (P1.out w) (by rintro e w2 ⟨rfl,rfl⟩;exact⟨_,rfl,rfl,fun _ _ _ h=>h,hH.glob.1,hH.glob.2.other _ (by decide) (by decide)⟩)⟩)) ?_
  iterate 3 first
   |(refine Br _ (Bs T (fun γ v L w hl h=>⟨h.1,h.2.other v (by decide) (by decide)⟩) (fun γ L a w hH hl h9 k9=>⟨_,?_,rfl⟩)) ?_;· simp[JD,go_sem,h9])
   |(refine Br _ (Bs T (fun γ v L w hl h=>⟨h.1,h.2.other v (by decide) (by decide)⟩) (fun γ L a w hH hl h9 k9=>⟨_,?_,rfl⟩)) ?_;· have q0:=Ja hH.glob.1 c1;simp[JC]at k9;simp[JD,go_sem,h9,k9,n1,q0])
  refine Br _ (Bw (fun γ L a w hH hl hA=>by have h9:=T γ L a w hH;have k9:=hA;simp[JC]at k9;exact⟨79,#[J I r,J I 16384],by simp[go_sem,h9,k9],JA (P2.out w) (by rintro e w2 ⟨rfl,rfl⟩;exact⟨_,rfl,rfl,fun _ _ _ h=>h,hH.glob.1,hH.glob.2.other _ (by decide) (by decide)⟩)⟩)) ?_
  iterate 2 (refine Br _ (Bs T (fun γ v L w hl h=>⟨h.1,h.2.other v (by decide) (by decide)⟩) (fun γ L a w hH hl h9 k9=>⟨_,?_,rfl⟩)) ?_;· simp[JC]at k9;simp[JD,go_sem,h9,k9,n2])
  refine Br _ (BJ (fun γ L a w hH hl hA=>by have gY:L 10=false:=Bu hH (Bv (j:=10) (i:=9) ah (by kernel_rfl)) hl;exact⟨BO (some ⟨w.heap.size,0,none⟩),w.alloc (BP #[J I 0,J I 0,J I 0,J I 0,J I 0,BQ none 0 0] 37),by simp[JD,go_sem],trivial,fun j v _ h=>h.keep _,hH.glob.1.alloc hH.glob.1.size _,RV.Pend.made _ rfl hH.glob.1.size gY (by decide)⟩)) ?_;refine Br _ (Bz (fun γ L a w hH hl hA=>by have h9:=T γ L a w hH;have k9:=hA;simp[JC]at k9;have l0:L 9=true:=hA ⟨9,.data⟩ (by simp) rfl;have e0:=hH.slot 9 3 (by rw[<- hD];rfl) l0;obtain⟨b,cs,ac,aj,ao,bM,_⟩:=hH.glob.2 l0;rw[ac]at e0;obtain⟨u0,u1,u2,u3,u4,u5,rfl⟩:=Jwf bM;have z0:w.cell? ⟨b,0,none⟩=some u0:=(by simp[World.cell?,ao]);have z1:w.cell? ⟨b,1,none⟩=some u1:=(by simp[World.cell?,ao]);have z2:w.cell? ⟨b,2,none⟩=some u2:=(by simp[World.cell?,ao]);have z3:w.cell? ⟨b,3,none⟩=some u3:=(by simp[World.cell?,ao]);have z4:w.cell? ⟨b,4,none⟩=some u4:=(by simp[World.cell?,ao]);have z5:w.cell? ⟨b,5,none⟩=some u5:=(by simp[World.cell?,ao]);have zf:∀ o,w.frozen? ⟨b,o,none⟩=false:=fun o=>(by simp[World.frozen?,ao]);exact⟨((((((w.setCell ⟨b,0,none⟩ (J I (1+kz))).setCell ⟨b,1,none⟩ (J I (1+pr))).setCell ⟨b,2,none⟩ (J I 0)).setCell ⟨b,3,none⟩ (J I 0)).setCell ⟨b,4,none⟩ (J I 0)).setCell ⟨b,5,none⟩ (BQ none 0 0)),by simp[JD,go_sem,e0,z0,z1,z2,z3,z4,z5,zf,h9,k9],trivial,fun j v _ h=>h.keep _,(((((hH.glob.1.setCell aj _).setCell aj _).setCell aj _).setCell aj _).setCell aj _).setCell aj _,RV.Pend.filled ac aj (by have q0:=Go.heap_setCell_same w b 0 _ _ (J I (1+kz)) ao;have q1:=Go.heap_setCell_same _ b 1 _ _ (J I (1+pr)) q0;have q2:=Go.heap_setCell_same _ b 2 _ _ (J I 0) q1;have q3:=Go.heap_setCell_same _ b 3 _ _ (J I 0) q2;have q4:=Go.heap_setCell_same _ b 4 _ _ (J I 0) q3;have q5:=Go.heap_setCell_same _ b 5 _ _ (BQ none 0 0) q4;simpa using q5) (by decide) _⟩)) ?_;exact RV.AllDo.nil
 ·intro γ w5 L9 hL aX aD;obtain⟨b3,cs,ac,aj,ao,_,cB⟩:=aD.2 (hL 9 (by decide));rw[cB (hL 10 (by decide))]at ao;have gh:=aD.1;clear hL cB aX aD;simp only[RV.putL,Act.put,JH,JG,JF,Nat.reduceAdd];rw[ac];obtain⟨X1,ef⟩:∃ X:BV,X=w5:=⟨_,rfl⟩
  rw[<- ef]at gh ao ⊢;have C3:BU (Cells X1 b3 [J I (1+kz),J I (1+pr),J I 0,J I 0,J I 0,BQ none 0 0]):=fun i v e=>⟨by simp[World.cell?,ao];exact e,by simp[World.frozen?,ao]⟩
  have C1':BU (Cells X1 ba [J I k,J I r,J I hx,J I hy,J I hz,BQ o Ls.length c]):=Cells.step C1.out gh;have C2':BU (Cells X1 bs [J I 0,J I 0,J I 0,J I 0,J I 0,BQ none 0 0]):=Cells.step C2.out gh;have hE:BU _:=Jc hD.out gh;have tn:bs<V.heap.size:=JB _ _ (C2.out 0 _ rfl).1;have dI:ba<V.heap.size:=JB _ _ (C1.out 0 _ rfl).1;have hws:=hD.out.size;clear ef ac ao gh c0 c1 C1 C2 hD P1 P2;go_upto_region 2 with fail;have zp:=(C1'.out 2 _ rfl).1;have zq:=(C1'.out 3 _ rfl).1;have zr:=(C1'.out 4 _ rfl).1;have s2:=(C3.out 2 _ rfl).1;have s3:=(C3.out 3 _ rfl).1;have s4:=(C3.out 4 _ rfl).1;have t2:=(C3.out 2 _ rfl).2;have t3:=(C3.out 3 _ rfl).2;have t4:=(C3.out 4 _ rfl).2;refine Bq [.some (BO (some ⟨ba,2,none⟩)),.some (BO (some ⟨ba,2,none⟩)),.some (J I hx),.some (J I px),.some (J I (1+px)),.some (BO (some ⟨ba,2,none⟩)),.some (BO (some ⟨ba,3,none⟩)),.some (J I hy),.some (J I py),.some (J I (1+py)),.some (BO (some ⟨ba,2,none⟩)),.some (BO (some ⟨ba,4,none⟩)),.some (J I hz),.some (J I pz),.some (J I (1+pz)),.some (B_ #[J I (1+px),J I (1+py),J I (1+pz)]),.some (BO (some ⟨b3,2,none⟩)),none] [16,17,18,19,20,21,22,23,24,25,26,27,28,29,30,31,32,0] [(1,BO (some ⟨ba,0,none⟩)),(3,BO (some ⟨b3,0,none⟩))] (fun γ L w9=>(L 17=false/\B9 X1.heap.size X1 w9)\/(L 17=true/\∃ w,B9 X1.heap.size X1 w/\w9=(((w.setCell ⟨b3,2,none⟩ (J I (1+px))).setCell ⟨b3,2+1,none⟩ (J I (1+py))).setCell ⟨b3,2+2,none⟩ (J I (1+pz))))) ⟨rfl,rfl,trivial⟩ ?_ ?_ ?_
  ·exact Or.inl ⟨rfl,(Below.refl _ X1).drew⟩
  ·intro D WA Z hD ah hZ T;simp only[RV.Outs,RV.Slots,Nat.reduceAdd]at T
   iterate 3 first
    |(refine Br _ (Bs T (fun γ v L w hl h=>by rw[Bt (L:=L) (i:=_) (j:=17) (by decide)];exact h) (fun γ L a w hH hl h9 k9=>⟨_,?_,rfl⟩)) ?_;· simp[JD,go_sem,h9])
    |(refine Br _ (Bs T (fun γ v L w hl h=>by rw[Bt (L:=L) (i:=_) (j:=17) (by decide)];exact h) (fun γ L a w hH hl h9 k9=>⟨_,?_,rfl⟩)) ?_;· simp[JC]at k9;simp[JD,go_sem,h9,k9])
    |(refine Br _ (Bs T (fun γ v L w hl h=>by rw[Bt (L:=L) (i:=_) (j:=17) (by decide)];exact h) (fun γ L a w hH hl h9 k9=>⟨_,?_,rfl⟩)) ?_;· have ai:=Jaw hH.glob (Bu hH (Bv (j:=17) ah (by kernel_rfl)) hl);have q0:=Ja ai zp;simp[JC]at k9;simp[JD,go_sem,h9,k9,q0])
   refine Br _ (Bw (fun γ L a w hH hl hA=>by have h9:=T γ L a w hH;have k9:=hA;simp[JC]at k9;have ai:=Jaw hH.glob (Bu hH (Bv (j:=17) (i:=3) ah (by kernel_rfl)) hl);exact⟨79,#[J I hx,J I 65536],by simp[go_sem,h9,k9],JA (P3.out w) (by rintro e w2 ⟨rfl,hb⟩;exact⟨_,rfl,rfl,fun j v _ h=>h.keep _,Or.inl ⟨by rw[Bt (L:=L) (i:=3) (j:=17) (by decide)];exact Bu hH (Bv (j:=17) (i:=3) ah (by kernel_rfl)) hl,ai.trans (hb.mono ai.size)⟩⟩)⟩)) ?_
   iterate 4 first
    |(refine Br _ (Bs T (fun γ v L w hl h=>by rw[Bt (L:=L) (i:=_) (j:=17) (by decide)];exact h) (fun γ L a w hH hl h9 k9=>⟨_,?_,rfl⟩)) ?_;· simp[JD,go_sem,h9])
    |(refine Br _ (Bs T (fun γ v L w hl h=>by rw[Bt (L:=L) (i:=_) (j:=17) (by decide)];exact h) (fun γ L a w hH hl h9 k9=>⟨_,?_,rfl⟩)) ?_;· simp[JC]at k9;simp[JD,go_sem,h9,k9,n3])
    |(refine Br _ (Bs T (fun γ v L w hl h=>by rw[Bt (L:=L) (i:=_) (j:=17) (by decide)];exact h) (fun γ L a w hH hl h9 k9=>⟨_,?_,rfl⟩)) ?_;· have ai:=Jaw hH.glob (Bu hH (Bv (j:=17) ah (by kernel_rfl)) hl);have q0:=Ja ai zq;simp[JC]at k9;simp[JD,go_sem,h9,k9,q0])
   refine Br _ (Bw (fun γ L a w hH hl hA=>by have h9:=T γ L a w hH;have k9:=hA;simp[JC]at k9;have ai:=Jaw hH.glob (Bu hH (Bv (j:=17) (i:=8) ah (by kernel_rfl)) hl);exact⟨79,#[J I hy,J I 65536],by simp[go_sem,h9,k9],JA (P4.out w) (by rintro e w2 ⟨rfl,hb⟩;exact⟨_,rfl,rfl,fun j v _ h=>h.keep _,Or.inl ⟨by rw[Bt (L:=L) (i:=8) (j:=17) (by decide)];exact Bu hH (Bv (j:=17) (i:=8) ah (by kernel_rfl)) hl,ai.trans (hb.mono ai.size)⟩⟩)⟩)) ?_
   iterate 4 first
    |(refine Br _ (Bs T (fun γ v L w hl h=>by rw[Bt (L:=L) (i:=_) (j:=17) (by decide)];exact h) (fun γ L a w hH hl h9 k9=>⟨_,?_,rfl⟩)) ?_;· simp[JD,go_sem,h9])
    |(refine Br _ (Bs T (fun γ v L w hl h=>by rw[Bt (L:=L) (i:=_) (j:=17) (by decide)];exact h) (fun γ L a w hH hl h9 k9=>⟨_,?_,rfl⟩)) ?_;· simp[JC]at k9;simp[JD,go_sem,h9,k9,n4])
    |(refine Br _ (Bs T (fun γ v L w hl h=>by rw[Bt (L:=L) (i:=_) (j:=17) (by decide)];exact h) (fun γ L a w hH hl h9 k9=>⟨_,?_,rfl⟩)) ?_;· have ai:=Jaw hH.glob (Bu hH (Bv (j:=17) ah (by kernel_rfl)) hl);have q0:=Ja ai zr;simp[JC]at k9;simp[JD,go_sem,h9,k9,q0])
   refine Br _ (Bw (fun γ L a w hH hl hA=>by have h9:=T γ L a w hH;have k9:=hA;simp[JC]at k9;have ai:=Jaw hH.glob (Bu hH (Bv (j:=17) (i:=13) ah (by kernel_rfl)) hl);exact⟨79,#[J I hz,J I 65536],by simp[go_sem,h9,k9],JA (P5.out w) (by rintro e w2 ⟨rfl,hb⟩;exact⟨_,rfl,rfl,fun j v _ h=>h.keep _,Or.inl ⟨by rw[Bt (L:=L) (i:=13) (j:=17) (by decide)];exact Bu hH (Bv (j:=17) (i:=13) ah (by kernel_rfl)) hl,ai.trans (hb.mono ai.size)⟩⟩)⟩)) ?_
   iterate 3 first
    |(refine Br _ (Bs T (fun γ v L w hl h=>by rw[Bt (L:=L) (i:=_) (j:=17) (by decide)];exact h) (fun γ L a w hH hl h9 k9=>⟨_,?_,rfl⟩)) ?_;· simp[JD,go_sem,h9])
    |(refine Br _ (Bs T (fun γ v L w hl h=>by rw[Bt (L:=L) (i:=_) (j:=17) (by decide)];exact h) (fun γ L a w hH hl h9 k9=>⟨_,?_,rfl⟩)) ?_;· simp[JC]at k9;simp[JD,go_sem,h9,k9,n5])
   refine Br _ (Bz (fun γ L a w hH hl hA=>by have h9:=T γ L a w hH;have k9:=hA;simp[JC]at k9;have ai:=Jaw hH.glob hl;have z0:=Ja ai s2;have cX:=Jm ai s2 t2;have z1:=Ja ai s3;have cY:=Jm ai s3 t3;have z2:=Ja ai s4;have cZ:=Jm ai s4 t4;exact⟨(((w.setCell ⟨b3,2,none⟩ (J I (1+px))).setCell ⟨b3,2+1,none⟩ (J I (1+py))).setCell ⟨b3,2+2,none⟩ (J I (1+pz))),by simp[JD,go_sem,z0,cX,z1,cY,z2,cZ,h9,k9],trivial,fun j v _ h=>h.keep _,Or.inr ⟨BD,w,ai,rfl⟩⟩)) ?_;exact RV.AllDo.nil
  ·intro γ w5 L9 hL aX aD;obtain⟨w8,bB,rfl⟩:=Jl8 aD (hL 17 (by decide));clear hL aX aD;simp only[RV.putL,Act.put,JH,JG,JF];have D3:=Cells.set (Cells.set (Cells.set (Cells.step C3.out bB) 2 (J I (1+px)) (by simp)) 3 (J I (1+py)) (by simp)) 4 (J I (1+pz)) (by simp);have ak:b3≠bs:=by omega
   have tp:b3≠ba:=by omega
   have HS:RS w0 (((w8.setCell ⟨b3,2,none⟩ (J I (1+px))).setCell ⟨b3,3,none⟩ (J I (1+py))).setCell ⟨b3,4,none⟩ (J I (1+pz))) ba bs b3 [J I k,J I r,J I hx,J I hy,J I hz,BQ o Ls.length c] (J I (1+kz)) (J I (1+pr)) (J I (1+px)) (J I (1+py)) (J I (1+pz)) (BQ none 0 0) []:=
    ⟨(((Cells.step C1'.out bB).put (Ne.symm tp) _ _).put (Ne.symm tp) _ _).put (Ne.symm tp) _ _,(((Cells.step C2'.out bB).put (Ne.symm ak) _ _).put (Ne.symm ak) _ _).put (Ne.symm ak) _ _,D3,World.ownsRow_nil _ _ _ _,(fun e=>by cases e),(fun e=>by cases e),(fun e=>by cases e),(((Jc hE.out bB).setCell (show w0.heap.size<=b3 by omega) _).setCell (show w0.heap.size<=b3 by omega) _).setCell (show w0.heap.size<=b3 by omega) _,(by omega),Ne.symm tp,Ne.symm ak,⟨_,rfl⟩⟩
   obtain⟨X2,fP⟩:∃ X:BV,X=(((w8.setCell ⟨b3,2,none⟩ (J I (1+px))).setCell ⟨b3,3,none⟩ (J I (1+py))).setCell ⟨b3,4,none⟩ (J I (1+pz))):=⟨_,rfl⟩
   rw[<- fP]at HS ⊢;clear fP bB zp zq zr s2 s3 s4 t2 t3 t4 D3 C1' C2' C3 hE n1 n2 n3 n4 n5 P3 P4 P5 dI tn hws;have rm:BU (1<=1+pr/\1+pr<=16384):=⟨by omega,by omega⟩
   have rn:BU (1<=1+px/\1+px<=65536):=⟨by omega,by omega⟩
   have ro:BU (1<=1+py/\1+py<=65536):=⟨by omega,by omega⟩
   have rt:BU (1<=1+pz/\1+pz<=65536):=⟨by omega,by omega⟩
   clear l2 u2 l3 u3 l4 u4 l5 u5;have HS':BU _:=HS;clear HS;by_cases hk3:kz=3
   ·subst hk3;have s0:=(HS'.out.c3 0 _ rfl).1;rw[show(1:Int)+3=4 from rfl]at s0;go_wp2_with (fail);clear s0
    go_loopg [4] 12 (fun gm s wr=>∃ i:Nat,s=J I (i:Int)/\i<=Ls.length/\i<=12/\gm=12-i/\BU (∃ u,RS w0 wr ba bs b3 [J I k,J I r,J I hx,J I hy,J I hz,BQ o Ls.length c] (J I 4) (J I (1+pr)) (J I (1+px)) (J I (1+py)) (J I (1+pz)) u ((Ls.take i).map Jdz)))
    case atStart=>exact⟨0,rfl,Nat.zero_le _,by omega,rfl,_,HS'.out⟩
    case round =>
     obtain⟨i,rfl,hi,hi2,be,HR⟩:=hrel;have eH:BU _:=be;clear be;obtain⟨u,HR'⟩:=HR.out;have HQ:BU _:=HR';clear HR' HR;have m5:=(HQ.out.c1 5 _ rfl).1;by_cases hit:i<Ls.length
     ·by_cases dw:i<12
      ·obtain⟨g,off,e9,x0,x1,x2⟩:=qZ.out i hit;have x0:=Ja HQ.out.below x0;have x1:=Ja HQ.out.below x1;have x2:=Ja HQ.out.below x2;subst e9;have HP:BU ((pt Ls i).fits):=vi.out _ (Ja2 hit);have HT:BU ((Ls.take i).map Jdz ++ [Jdz (pt Ls i)]=(Ls.take (i+1)).map Jdz):=by show _=_;rw[Jb6 hit,List.map_append];rfl
       obtain⟨qx,ex,PX'⟩:=Jkj (pt Ls i).x HP.out.1;obtain⟨qy,ey,PY'⟩:=Jkj (pt Ls i).y HP.out.2.1;obtain⟨qz,ez,PZ'⟩:=Jkj (pt Ls i).z HP.out.2.2;have HE:BU (Jdz (pt Ls i)=⟨qx,qy,qz⟩):=by show _=_;rw[<- ex,<- ey,<- ez];rfl
       have PX:BU _:=PX';have PY:BU _:=PY';have PZ:BU _:=PZ';clear PX' PY' PZ' ex ey ez HP;generalize hlx:(pt Ls i).x=lx at *;generalize yL:(pt Ls i).y=ly at *;generalize hlz:(pt Ls i).z=lz at *;clear hlx yL hlz;have hn:((Ls.take i).map Jdz).length=i:=by simp;omega
       generalize hM:(Ls.take i).map Jdz=M at *;have HM:BU _:=hM;clear hM;go_upto_region 7 with fail;go_upto_region 8 with fail;obtain⟨W7,tU⟩:∃ X:BV,X=wr.alloc (BP #[J I lx,J I ly,J I lz] 23):=⟨_,rfl⟩
       obtain⟨b5,cB⟩:∃ b,b=wr.heap.size:=⟨_,rfl⟩
       have om:BU (RS w0 W7 ba bs b3 [J I k,J I r,J I hx,J I hy,J I hz,BQ (some ⟨g,off,none⟩) Ls.length c] (J I 4) (J I (1+pr)) (J I (1+px)) (J I (1+py)) (J I (1+pz)) u M):=by rw[tU];exact HQ.out.step (Jb _ _)
       have bx:Box3 W7 b5 ⟨lx,ly,lz⟩:=by rw[tU,cB];exact Box3.new wr lx ly lz _
       rw[<- tU,<- cB];clear tU cB HQ x0 x1 x2 m5;obtain⟨k0,k1,k2,_,_,_⟩:=bx;have q5:=(om.out.c3 5 _ rfl).1;obtain⟨i0,iw,dQ,dE,iA⟩:=info_parts Jes;have HI:BU _:=And.intro iw (And.intro dQ (And.intro dE iA));clear iw dQ dE iA;refine Bq [.some (BO (some ⟨b3,5,none⟩)),.some (u),.some (BO (some ⟨b5,0,none⟩)),.some (J I lx),.some (J I qx),.some (BO (some ⟨b5,1,none⟩)),.some (J I ly),.some (J I qy),.some (BO (some ⟨b5,2,none⟩)),.some (J I lz),.some (J I qz),.some (B_ #[J I qx,J I qy,J I qz]),none,none,.some (BO (some ⟨b3,5,none⟩)),none] [52,53,54,55,56,57,58,59,60,61,62,63,64,65,66,0] [(3,BO (some ⟨b3,0,none⟩)),(5,BO (some ⟨b5,0,none⟩))] (fun γ L w=>A8 12 13 15 W7 w0.heap.size u b3 5 M.length (fl3 M) [J I qx,J I qy,J I qz] γ L w) ⟨rfl,rfl,trivial⟩ ?_ ?_ ?_
       ·exact A8.start rfl rfl rfl (Below.refl _ W7).drew
       ·intro D WA Z hD ah hZ T;simp only[RV.Outs,RV.Slots,Nat.reduceAdd]at T
        (refine Br _ (Bs T (fun γ v L w hl h=>A8.other h _ (by decide) (by decide) (by decide)) (fun γ L a w hH hl h9 k9=>⟨_,?_,rfl⟩)) ?_;· simp[JD,go_sem,h9])
        refine Br _ (RV.dp (fun γ v L w hl h=>A8.other h _ (by decide) (by decide) (by decide)) (fun γ L a w hH hl hA=>by have h9:=T γ L a w hH;have k9:=hA;simp[JC]at k9;have z0:=Ja (A8.early hH.glob (Bu hH (Bv (j:=13) (i:=1) ah (by kernel_rfl)) hl)).2.1 q5;exact⟨_,by simp[JD,go_sem,h9,z0,k9],rfl⟩)) ?_
        (refine Br _ (Bs T (fun γ v L w hl h=>A8.other h _ (by decide) (by decide) (by decide)) (fun γ L a w hH hl h9 k9=>⟨_,?_,rfl⟩)) ?_;· simp[JD,go_sem,h9])
        refine Br _ (RV.dp (fun γ v L w hl h=>A8.other h _ (by decide) (by decide) (by decide)) (fun γ L a w hH hl hA=>by have h9:=T γ L a w hH;have k9:=hA;simp[JC]at k9;have z0:=Ja (A8.early hH.glob (Bu hH (Bv (j:=13) (i:=12) ah (by kernel_rfl)) (Bu hH (Bv (j:=12) (i:=11) ah (by kernel_rfl)) (Bu hH (Bv (j:=11) (i:=4) ah (by kernel_rfl)) (Bu hH (Bv (j:=4) (i:=3) ah (by kernel_rfl)) hl))))).2.1 k0;exact⟨_,by simp[JD,go_sem,h9,z0,k9],rfl⟩)) ?_;refine Br _ (Bw (fun γ L a w hH hl hA=>by have h9:=T γ L a w hH;have k9:=hA;simp[JC]at k9;exact⟨80,#[J I lx,J I 65536],by simp[go_sem,h9,k9],JA (PX.out w) (by rintro e w2 ⟨rfl,rfl⟩;exact⟨_,rfl,rfl,fun _ _ _ h=>h,A8.other hH.glob _ (by decide) (by decide) (by decide)⟩)⟩)) ?_
        (refine Br _ (Bs T (fun γ v L w hl h=>A8.other h _ (by decide) (by decide) (by decide)) (fun γ L a w hH hl h9 k9=>⟨_,?_,rfl⟩)) ?_;· simp[JD,go_sem,h9])
        refine Br _ (RV.dp (fun γ v L w hl h=>A8.other h _ (by decide) (by decide) (by decide)) (fun γ L a w hH hl hA=>by have h9:=T γ L a w hH;have k9:=hA;simp[JC]at k9;have z0:=Ja (A8.early hH.glob (Bu hH (Bv (j:=13) (i:=12) ah (by kernel_rfl)) (Bu hH (Bv (j:=12) (i:=11) ah (by kernel_rfl)) (Bu hH (Bv (j:=11) (i:=7) ah (by kernel_rfl)) (Bu hH (Bv (j:=7) (i:=6) ah (by kernel_rfl)) hl))))).2.1 k1;exact⟨_,by simp[JD,go_sem,h9,z0,k9],rfl⟩)) ?_;refine Br _ (Bw (fun γ L a w hH hl hA=>by have h9:=T γ L a w hH;have k9:=hA;simp[JC]at k9;exact⟨80,#[J I ly,J I 65536],by simp[go_sem,h9,k9],JA (PY.out w) (by rintro e w2 ⟨rfl,rfl⟩;exact⟨_,rfl,rfl,fun _ _ _ h=>h,A8.other hH.glob _ (by decide) (by decide) (by decide)⟩)⟩)) ?_
        (refine Br _ (Bs T (fun γ v L w hl h=>A8.other h _ (by decide) (by decide) (by decide)) (fun γ L a w hH hl h9 k9=>⟨_,?_,rfl⟩)) ?_;· simp[JD,go_sem,h9])
        refine Br _ (RV.dp (fun γ v L w hl h=>A8.other h _ (by decide) (by decide) (by decide)) (fun γ L a w hH hl hA=>by have h9:=T γ L a w hH;have k9:=hA;simp[JC]at k9;have z0:=Ja (A8.early hH.glob (Bu hH (Bv (j:=13) (i:=12) ah (by kernel_rfl)) (Bu hH (Bv (j:=12) (i:=11) ah (by kernel_rfl)) (Bu hH (Bv (j:=11) (i:=10) ah (by kernel_rfl)) (Bu hH (Bv (j:=10) (i:=9) ah (by kernel_rfl)) hl))))).2.1 k2;exact⟨_,by simp[JD,go_sem,h9,z0,k9],rfl⟩)) ?_;refine Br _ (Bw (fun γ L a w hH hl hA=>by have h9:=T γ L a w hH;have k9:=hA;simp[JC]at k9;exact⟨80,#[J I lz,J I 65536],by simp[go_sem,h9,k9],JA (PZ.out w) (by rintro e w2 ⟨rfl,rfl⟩;exact⟨_,rfl,rfl,fun _ _ _ h=>h,A8.other hH.glob _ (by decide) (by decide) (by decide)⟩)⟩)) ?_
        (refine Br _ (Bs T (fun γ v L w hl h=>A8.other h _ (by decide) (by decide) (by decide)) (fun γ L a w hH hl h9 k9=>⟨_,?_,rfl⟩)) ?_;· simp[JC]at k9;simp[JD,go_sem,h9,k9])
        refine Br _ (BJ (fun γ L a w hH hl hA=>by have h9:=T γ L a w hH;have k9:=hA;simp[JC]at k9;exact⟨BQ (some ⟨w.heap.size,0,none⟩) 1 1,w.alloc (BP #[J I qx,J I qy,J I qz] 23),by simp[JD,go_sem,h9,k9],trivial,fun j v _ h=>h.keep _,A8.lay hH.glob (Bu hH (Bv (j:=13) (i:=12) ah (by kernel_rfl)) hl) (by decide) (by decide)⟩)) ?_;refine Br _ (BJ (fun γ L a w hH hl hA=>by have h9:=T γ L a w hH;have k9:=hA;simp[JC]at k9;have l1:L 12=true:=hA ⟨12,.data⟩ (by simp) rfl;have e1:=hH.slot 12 63 (by rw[<- hD];rfl) l1;obtain⟨y1,y2,y3⟩:=A8.early hH.glob hl;obtain⟨g9,t1,t2⟩:=y3 l1;rw[t1]at e1;obtain⟨v9,w9,t3,t4,t5⟩:=Jhj (P:=Tryz.prog) (w:=w) (a:=a) (.tmp 52) (.tmp 63) 24 24 w0.heap.size 23 i0 _ 3 24 underlying24 HI.out.1 HI.out.2.1 HI.out.2.2.1 HI.out.2.2.2 rfl (by decide) u M.length (fl3 M) (by simp[go_sem,h9,k9]) (Jq om.out.row y2) ⟨g9,0,none⟩ 1 1 [J I qx,J I qy,J I qz] (by simp[go_sem,e1]) rfl (Jcj t2) (by intro u hu;simp at hu;rcases hu with rfl | rfl | rfl <;> rfl) (by unfold maxLen;omega) (by omega) (Nat.le_trans om.out.below.size y2.size);exact⟨v9,w9,t3 _ rfl rfl,trivial,fun j v _ h=>h.keep _,A8.app y1 (by decide) t4 ((Grew.below y2 _).trans t5)⟩)) ?_
        (refine Br _ (Bs T (fun γ v L w hl h=>A8.other h _ (by decide) (by decide) (by decide)) (fun γ L a w hH hl h9 k9=>⟨_,?_,rfl⟩)) ?_;· simp[JD,go_sem,h9])
        refine Br _ (Bz (fun γ L a w hH hl hA=>by have h9:=T γ L a w hH;have k9:=hA;simp[JC]at k9;have l0:L 13=true:=hA ⟨13,.data⟩ (by simp) rfl;have e0:=hH.slot 13 64 (by rw[<- hD];rfl) l0;have y:=A8.mid hH.glob (hA ⟨13,.data⟩ (by simp) rfl) hl;have z:=(Cells.grown om.out.c3 y.2.grown om.out.n3) 5 _ rfl;have z0:=z.1;have z1:=z.2;obtain⟨o9,l9,c9,e9⟩:=Ja7 y.1;exact⟨w.setCell ⟨b3,5,none⟩ (γ 13),by simp[JD,go_sem,e0,z0,z1,e9,h9,k9],trivial,fun j v _ h=>h.keep _,A8.store hH.glob (hA ⟨13,.data⟩ (by simp) rfl) hl (by decide) _⟩)) ?_;exact RV.AllDo.nil
       ·intro γ w5 L9 hL aX aD;obtain⟨w8b,y1,y2,y3⟩:=A8.done aD (hL 15 (by decide));clear hL aX aD;simp only[RV.putL,Act.put,JH,JG,JF,Nat.reduceAdd];have HX:=om.out.app (p:=⟨qx,qy,qz⟩) y1 y2;rw[<- y3,<- HE.out,HT.out]at HX;have HX:BU _:=HX;clear y1 y2 y3 q5 k0 k1 k2 PX PY PZ om;go_wp2_with (fail)
        go_roundg (12-(i+1))
        case measure=>have:=eH.out;omega
        case rel=>exact⟨i+1,by go_num,by omega,by omega,rfl,_,HX.out⟩
      ·have h12':i=12:=by omega
       clear dw;obtain⟨ou,lu,cu,xw⟩:=Ja7 HQ.out.row;subst xw;have HC:BU _:=fun w' (h:Lies w' (BQ ou lu cu) ((Ls.take i).map Jdz))=>Jeo ⟨4,1+pr,⟨1+px,1+py,1+pz⟩,(Ls.take i).map Jdz⟩ (BQ ou lu cu) w' h;unfold Sh.v at HC;dsimp only at HC;generalize(Ls.take i).map Jdz=M at *;have kN:BU (J9 ⟨4,1+pr,⟨1+px,1+py,1+pz⟩,M⟩=J9 ⟨4,1+pr,⟨1+px,1+py,1+pz⟩,M⟩):=rfl;obtain⟨ck,g_⟩:∃ ck,J9 ⟨4,1+pr,⟨1+px,1+py,1+pz⟩,M⟩=ck:=⟨_,rfl⟩
       rw[g_]at HC;clear kN;have HK:BU _:=g_;clear g_;have s0:=(HQ.out.c3 0 _ rfl).1;have s1:=(HQ.out.c3 1 _ rfl).1;have s2:=(HQ.out.c3 2 _ rfl).1;have s3:=(HQ.out.c3 3 _ rfl).1;have s4:=(HQ.out.c3 4 _ rfl).1;have s5:=(HQ.out.c3 5 _ rfl).1;go_wp2_with (fail);refine JA (HC.out _ (Lies.of_row HQ.out.row)) ?_;rintro e Y ⟨rfl,hb⟩;have HQ:BU (RS w0 Y ba bs b3 [J I k,J I r,J I hx,J I hy,J I hz,BQ o Ls.length c] (J I 4) (J I (1+pr)) (J I (1+px)) (J I (1+py)) (J I (1+pz)) (BQ ou lu cu) M):=HQ.out.step hb;clear hb HC s0 s1 s2 s3 s4 s5 m5;by_cases eJ:ck=0
       ·subst eJ;have s0:=(HQ.out.c3 0 _ rfl).1;have r0:=(HQ.out.c2 0 _ rfl).1;have f0:=(HQ.out.c2 0 _ rfl).2;have s1:=(HQ.out.c3 1 _ rfl).1;have r1:=(HQ.out.c2 1 _ rfl).1;have f1:=(HQ.out.c2 1 _ rfl).2;have s2:=(HQ.out.c3 2 _ rfl).1;have r2:=(HQ.out.c2 2 _ rfl).1;have f2:=(HQ.out.c2 2 _ rfl).2;have s3:=(HQ.out.c3 3 _ rfl).1;have r3:=(HQ.out.c2 3 _ rfl).1;have f3:=(HQ.out.c2 3 _ rfl).2;have s4:=(HQ.out.c3 4 _ rfl).1;have r4:=(HQ.out.c2 4 _ rfl).1;have f4:=(HQ.out.c2 4 _ rfl).2;have s5:=(HQ.out.c3 5 _ rfl).1;have r5:=(HQ.out.c2 5 _ rfl).1;have f5:=(HQ.out.c2 5 _ rfl).2;have DN:BU _:=HQ.out.ns;go_wp2_with (fail);refine bodyPost_ret (v:=B_ #[J I 4,J I (1+pr),J I (1+px),J I (1+py),J I (1+pz),BQ ou lu cu]) (by simp[results,results25,go_sem,r0,r1,r2,r3,r4,r5]) rfl ?_;exact⟨⟨4,1+pr,⟨1+px,1+py,1+pz⟩,M⟩,BQ ou lu cu,rfl,⟨ownsRow_setCell_other (ownsRow_setCell_other (ownsRow_setCell_other (ownsRow_setCell_other (ownsRow_setCell_other (ownsRow_setCell_other (HQ.out.row) DN.out _) DN.out _) DN.out _) DN.out _) DN.out _) DN.out _,(((((HQ.out.below.setCell cQ _).setCell cQ _).setCell cQ _).setCell cQ _).setCell cQ _).setCell cQ _⟩,Jjz rm.out rn.out ro.out rt.out HK.out⟩
       ·have vj:(ck == 0)=false:=beq_eq_false_iff_ne.2 eJ;have g0:=(HQ.out.c3 0 _ rfl).1;have g5:=(HQ.out.c3 5 _ rfl).1;have h0:=(HQ.out.c3 0 _ rfl).2;have h5:=(HQ.out.c3 5 _ rfl).2;go_upto_region 12 with fail;have E3:=Cells.set (Cells.set HQ.out.c3 0 (J I 3) (by simp)) 5 (BQ none 0 0) (by simp);have E2:=Cells.put (Cells.put HQ.out.c2 HQ.out.d2 0 (J I 3)) HQ.out.d2 5 (BQ none 0 0);have E4:B9 w0.heap.size w0 ((Y.setCell ⟨b3,0,none⟩ (J I 3)).setCell ⟨b3,5,none⟩ (BQ none 0 0)):=(HQ.out.below.setCell HQ.out.l3 _).setCell HQ.out.l3 _;obtain⟨Y2,dY⟩:∃ X:BV,X=(Y.setCell ⟨b3,0,none⟩ (J I 3)).setCell ⟨b3,5,none⟩ (BQ none 0 0):=⟨_,rfl⟩
        rw[<- dY]at E3 E2 E4 ⊢;clear dY g0 g5 h0 h5 vj eJ;have E4:BU _:=E4;have s0:=(E3 0 _ rfl).1;have r0:=(E2 0 _ rfl).1;have f0:=(E2 0 _ rfl).2;have s1:=(E3 1 _ rfl).1;have r1:=(E2 1 _ rfl).1;have f1:=(E2 1 _ rfl).2;have s2:=(E3 2 _ rfl).1;have r2:=(E2 2 _ rfl).1;have f2:=(E2 2 _ rfl).2;have s3:=(E3 3 _ rfl).1;have r3:=(E2 3 _ rfl).1;have f3:=(E2 3 _ rfl).2;have s4:=(E3 4 _ rfl).1;have r4:=(E2 4 _ rfl).1;have f4:=(E2 4 _ rfl).2;have s5:=(E3 5 _ rfl).1;have r5:=(E2 5 _ rfl).1;have f5:=(E2 5 _ rfl).2;go_wp2_with (fail);refine bodyPost_ret (v:=B_ #[J I 3,J I (1+pr),J I (1+px),J I (1+py),J I (1+pz),BQ none 0 0]) (by simp[results,results25,go_sem,r0,r1,r2,r3,r4,r5]) rfl ?_;exact⟨⟨3,1+pr,⟨1+px,1+py,1+pz⟩,[]⟩,BQ none 0 0,rfl,⟨World.ownsRow_nil _ _ _ _,(((((E4.out.setCell cQ _).setCell cQ _).setCell cQ _).setCell cQ _).setCell cQ _).setCell cQ _⟩,Jf8 ⟨by decide,by decide⟩ rm.out rn.out ro.out rt.out⟩
     ·clear hi2;obtain⟨ou,lu,cu,xw⟩:=Ja7 HQ.out.row;subst xw;have HC:BU _:=fun w' (h:Lies w' (BQ ou lu cu) ((Ls.take i).map Jdz))=>Jeo ⟨4,1+pr,⟨1+px,1+py,1+pz⟩,(Ls.take i).map Jdz⟩ (BQ ou lu cu) w' h;unfold Sh.v at HC;dsimp only at HC;generalize(Ls.take i).map Jdz=M at *;have kN:BU (J9 ⟨4,1+pr,⟨1+px,1+py,1+pz⟩,M⟩=J9 ⟨4,1+pr,⟨1+px,1+py,1+pz⟩,M⟩):=rfl;obtain⟨ck,g_⟩:∃ ck,J9 ⟨4,1+pr,⟨1+px,1+py,1+pz⟩,M⟩=ck:=⟨_,rfl⟩
      rw[g_]at HC;clear kN;have HK:BU _:=g_;clear g_;have s0:=(HQ.out.c3 0 _ rfl).1;have s1:=(HQ.out.c3 1 _ rfl).1;have s2:=(HQ.out.c3 2 _ rfl).1;have s3:=(HQ.out.c3 3 _ rfl).1;have s4:=(HQ.out.c3 4 _ rfl).1;have s5:=(HQ.out.c3 5 _ rfl).1;go_wp2_with (fail);refine JA (HC.out _ (Lies.of_row HQ.out.row)) ?_;rintro e Y ⟨rfl,hb⟩;have HQ:BU (RS w0 Y ba bs b3 [J I k,J I r,J I hx,J I hy,J I hz,BQ o Ls.length c] (J I 4) (J I (1+pr)) (J I (1+px)) (J I (1+py)) (J I (1+pz)) (BQ ou lu cu) M):=HQ.out.step hb;clear hb HC s0 s1 s2 s3 s4 s5 m5;by_cases eJ:ck=0
      ·subst eJ;have s0:=(HQ.out.c3 0 _ rfl).1;have r0:=(HQ.out.c2 0 _ rfl).1;have f0:=(HQ.out.c2 0 _ rfl).2;have s1:=(HQ.out.c3 1 _ rfl).1;have r1:=(HQ.out.c2 1 _ rfl).1;have f1:=(HQ.out.c2 1 _ rfl).2;have s2:=(HQ.out.c3 2 _ rfl).1;have r2:=(HQ.out.c2 2 _ rfl).1;have f2:=(HQ.out.c2 2 _ rfl).2;have s3:=(HQ.out.c3 3 _ rfl).1;have r3:=(HQ.out.c2 3 _ rfl).1;have f3:=(HQ.out.c2 3 _ rfl).2;have s4:=(HQ.out.c3 4 _ rfl).1;have r4:=(HQ.out.c2 4 _ rfl).1;have f4:=(HQ.out.c2 4 _ rfl).2;have s5:=(HQ.out.c3 5 _ rfl).1;have r5:=(HQ.out.c2 5 _ rfl).1;have f5:=(HQ.out.c2 5 _ rfl).2;have DN:BU _:=HQ.out.ns;go_wp2_with (fail);refine bodyPost_ret (v:=B_ #[J I 4,J I (1+pr),J I (1+px),J I (1+py),J I (1+pz),BQ ou lu cu]) (by simp[results,results25,go_sem,r0,r1,r2,r3,r4,r5]) rfl ?_;exact⟨⟨4,1+pr,⟨1+px,1+py,1+pz⟩,M⟩,BQ ou lu cu,rfl,⟨ownsRow_setCell_other (ownsRow_setCell_other (ownsRow_setCell_other (ownsRow_setCell_other (ownsRow_setCell_other (ownsRow_setCell_other (HQ.out.row) DN.out _) DN.out _) DN.out _) DN.out _) DN.out _) DN.out _,(((((HQ.out.below.setCell cQ _).setCell cQ _).setCell cQ _).setCell cQ _).setCell cQ _).setCell cQ _⟩,Jjz rm.out rn.out ro.out rt.out HK.out⟩
      ·have vj:(ck == 0)=false:=beq_eq_false_iff_ne.2 eJ;have g0:=(HQ.out.c3 0 _ rfl).1;have g5:=(HQ.out.c3 5 _ rfl).1;have h0:=(HQ.out.c3 0 _ rfl).2;have h5:=(HQ.out.c3 5 _ rfl).2;go_upto_region 12 with fail;have E3:=Cells.set (Cells.set HQ.out.c3 0 (J I 3) (by simp)) 5 (BQ none 0 0) (by simp);have E2:=Cells.put (Cells.put HQ.out.c2 HQ.out.d2 0 (J I 3)) HQ.out.d2 5 (BQ none 0 0);have E4:B9 w0.heap.size w0 ((Y.setCell ⟨b3,0,none⟩ (J I 3)).setCell ⟨b3,5,none⟩ (BQ none 0 0)):=(HQ.out.below.setCell HQ.out.l3 _).setCell HQ.out.l3 _;obtain⟨Y2,dY⟩:∃ X:BV,X=(Y.setCell ⟨b3,0,none⟩ (J I 3)).setCell ⟨b3,5,none⟩ (BQ none 0 0):=⟨_,rfl⟩
       rw[<- dY]at E3 E2 E4 ⊢;clear dY g0 g5 h0 h5 vj eJ;have E4:BU _:=E4;have s0:=(E3 0 _ rfl).1;have r0:=(E2 0 _ rfl).1;have f0:=(E2 0 _ rfl).2;have s1:=(E3 1 _ rfl).1;have r1:=(E2 1 _ rfl).1;have f1:=(E2 1 _ rfl).2;have s2:=(E3 2 _ rfl).1;have r2:=(E2 2 _ rfl).1;have f2:=(E2 2 _ rfl).2;have s3:=(E3 3 _ rfl).1;have r3:=(E2 3 _ rfl).1;have f3:=(E2 3 _ rfl).2;have s4:=(E3 4 _ rfl).1;have r4:=(E2 4 _ rfl).1;have f4:=(E2 4 _ rfl).2;have s5:=(E3 5 _ rfl).1;have r5:=(E2 5 _ rfl).1;have f5:=(E2 5 _ rfl).2;go_wp2_with (fail);refine bodyPost_ret (v:=B_ #[J I 3,J I (1+pr),J I (1+px),J I (1+py),J I (1+pz),BQ none 0 0]) (by simp[results,results25,go_sem,r0,r1,r2,r3,r4,r5]) rfl ?_;exact⟨⟨3,1+pr,⟨1+px,1+py,1+pz⟩,[]⟩,BQ none 0 0,rfl,⟨World.ownsRow_nil _ _ _ _,(((((E4.out.setCell cQ _).setCell cQ _).setCell cQ _).setCell cQ _).setCell cQ _).setCell cQ _⟩,Jf8 ⟨by decide,by decide⟩ rm.out rn.out ro.out rt.out⟩
   ·have ru:¬ 1+kz=4:=by omega
    have HK:BU (1<=1+kz/\1+kz<=3):=⟨by omega,by omega⟩
    clear hk3 l1 u1;have s0:=(HS'.out.c3 0 _ rfl).1;have r0:=(HS'.out.c2 0 _ rfl).1;have f0:=(HS'.out.c2 0 _ rfl).2;have s1:=(HS'.out.c3 1 _ rfl).1;have r1:=(HS'.out.c2 1 _ rfl).1;have f1:=(HS'.out.c2 1 _ rfl).2;have s2:=(HS'.out.c3 2 _ rfl).1;have r2:=(HS'.out.c2 2 _ rfl).1;have f2:=(HS'.out.c2 2 _ rfl).2;have s3:=(HS'.out.c3 3 _ rfl).1;have r3:=(HS'.out.c2 3 _ rfl).1;have f3:=(HS'.out.c2 3 _ rfl).2;have s4:=(HS'.out.c3 4 _ rfl).1;have r4:=(HS'.out.c2 4 _ rfl).1;have f4:=(HS'.out.c2 4 _ rfl).2;have s5:=(HS'.out.c3 5 _ rfl).1;have r5:=(HS'.out.c2 5 _ rfl).1;have f5:=(HS'.out.c2 5 _ rfl).2;go_wp2_with (fail);refine bodyPost_ret (v:=B_ #[J I (1+kz),J I (1+pr),J I (1+px),J I (1+py),J I (1+pz),BQ none 0 0]) (by simp[results,results25,go_sem,r0,r1,r2,r3,r4,r5]) rfl ?_;exact⟨⟨1+kz,1+pr,⟨1+px,1+py,1+pz⟩,[]⟩,BQ none 0 0,rfl,⟨World.ownsRow_nil _ _ _ _,(((((HS'.out.below.setCell cQ _).setCell cQ _).setCell cQ _).setCell cQ _).setCell cQ _).setCell cQ _⟩,Jf8 HK.out rm.out rn.out ro.out rt.out,fun h=>absurd h ru⟩
end
end Go.Proofs.YtkblcfgamnmbkaaGreat
