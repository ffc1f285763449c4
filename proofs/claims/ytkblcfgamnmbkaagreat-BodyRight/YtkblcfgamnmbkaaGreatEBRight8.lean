/- Package body: a body that moves for a time. -/
import Derived.Test.YtkblcfgamnmbkaaGreatEBRight0
import Derived.Test.YtkblcfgamnmbkaaGreatEBRight7
import Derived.Test.YtkblcfgamnmbkaaGreatEBRight1
import Derived.Test.YtkblcfgamnmbkaaGreatEBRight5
set_option maxHeartbeats 8000000
set_option maxRecDepth 100000
set_option linter.unusedVariables false
namespace Go.Proofs.YtkblcfgamnmbkaaGreat
open Go.Calls renaming mono -> JA
open Go.World renaming block_lt_of_cell? -> JB
open Go.Region renaming binds -> JC
open Go renaming execOp -> JD
open Go.World renaming size_alloc -> JE
open List renaming set_cons_succ -> JF
open List renaming set_cons_zero -> JG
open List renaming setIfInBounds_toArray -> JH
open Go.Proofs.Tryz
open Go.Value renaming int -> J
open Go.IntKind renaming i64 -> Y
open Go.Value renaming pointer -> BO
open Go.Obj renaming cells -> BP
open Go.Value renaming slice -> BQ
open Go.Value renaming bool -> BT
open Go.RowKit renaming Hid -> BU
open Go renaming World -> BV
open Go.Ending renaming returned -> BZ
open Go renaming Value -> B7
open Go.RowKit renaming Below -> B9
open Go.Value renaming agg -> B_
open Go renaming Calls -> Cd
open Go renaming Addr -> Ce
open Go renaming Act -> Cf
section
open Go.RowKit Go.Shelf Fx
theorem FG.alloc{V:BV}{p:Ce}{f:Bool}{cs:List (Nat × Bool)}{L:Nat->Bool}{w:BV}(h:FG V p f cs L w)(o:Obj):FG V p f cs L (w.alloc o):=
 ⟨h.leaves.alloc o,Ja (Jb w o) h.cell,Jm (Jb w o) h.cell h.frozen⟩
theorem FG.put{V:BV}{p:Ce}{f:Bool}{cs:List (Nat × Bool)}{L:Nat->Bool}{w:BV}(h:FG V p f cs L w)(hp:p.block<V.heap.size){b:Nat}(hb:V.heap.size<=b)(o:Nat)(v:B7):FG V p f cs L (w.setCell ⟨b,o,none⟩ v):=by
 refine⟨h.leaves.set (a:=⟨b,o,none⟩) hb v,(World.cell?_setCell_other _ _ _ _ (fun e=>?_)).trans h.cell,by simp[go_sem,h.frozen]⟩;rw[<- e]at hp;exact absurd hp (by simp;omega)
theorem Jax{P:Program}{a:Cf}{o:Oper}{w:BV}(ty:TypeId)(x:Operand)(ho:o.op = .load ty x)(b off:Nat)(hx:a.eval x = BO (some ⟨b,off,none⟩))(cs:List B7)(d:TypeDesc)(hc:w.rangeAt b off cs)
  (hu:P.underlying ty=some d) (hd:d.isRow=true) (hi:(P.info? ty).map (·.size)=some cs.length):(JD a.eval o).run P w = .ok (.value (B_ cs.toArray)) w:=by
 unfold JD;simp only[ho,hx,Instr.loadAt,Instr.sureAddr,Sem.run_bind,Sem.run_pure,Result.andThen_ok,run_loadVar_mid w b off ty cs d hc hu hd hi]
theorem Js8{cs:Array B7}(h:cs.size=3):∃ a b c,cs = #[a,b,c]:=by
 obtain⟨l⟩:=cs
 match l,h with
 | [a,b,c],_=>exact⟨a,b,c,rfl⟩
theorem Juu{w:BV}{b:Nat}{x y z:B7}{t:TypeId}(h:w.heap[b]?=some (BP #[x,y,z] t (0,0))):CW w b [x,y,z]:=fun i v e =>
 ⟨by match i,e with | 0,e=>cases e;simp[World.cell?,h] | 1,e=>cases e;simp[World.cell?,h] | 2,e=>cases e;simp[World.cell?,h],by simp[World.frozen?,h]⟩
theorem Jh4{w:BV}{b:Nat}{cs:Array B7}(hx:w.heap[b]?=some (BP cs 27 (0,0)))(hc:cs.size=3)(x y z:B7):(((w.setCell ⟨b,0,none⟩ x).setCell ⟨b,1,none⟩ y).setCell ⟨b,2,none⟩ z).heap[b]?=some (BP #[x,y,z] 27 (0,0)):=by
 obtain⟨u0,u1,u2,rfl⟩:=Js8 hc;have q0:=Go.heap_setCell_same w b 0 _ _ x hx;have q1:=Go.heap_setCell_same _ b 1 _ _ y q0;have q2:=Go.heap_setCell_same _ b 2 _ _ z q1
 simpa using q2
section
variable {V:BV} {p:Ce} {f:Bool} {cs:List (Nat × Bool)} {fa fc:V3} {γ:Nat->B7} {L:Nat->Bool} {w w':BV} {i j b:Nat} {fin:Array B7}
theorem PendV.after{g:Bool}(h:RV.Pend V 27 i j fin γ L w)(hp:p.block<V.heap.size)(a:After p g w w'):RV.Pend V 27 i j fin γ L w':=by
 intro l;obtain⟨c,cs,h1,h2,h3,h4,h5⟩:=h l;exact⟨c,cs,h1,h2,(a.kept.2.2.2 c (Array.getElem?_eq_some_iff.1 h3).1 (by omega)).trans h3,h4,h5⟩
theorem PendV.lt(h:RV.Pend V 27 i j fin γ L w)(l:L i=true):γ i ≠ BO (some ⟨w.heap.size,0,none⟩):=by
 obtain⟨b,cs,h1,_,h3,_⟩:=h l;rw[h1];intro e;have:=(Array.getElem?_eq_some_iff.1 h3).1;simp only[Value.pointer.injEq,Option.some.injEq,Addr.mk.injEq,and_true]at e;omega
theorem PendV.set3(h:RV.Pend V 27 i j fin γ L w)(ak:L i=true->γ i ≠ BO (some ⟨b,0,none⟩))(x y z:B7):RV.Pend V 27 i j fin γ L (((w.setCell ⟨b,0,none⟩ x).setCell ⟨b,1,none⟩ y).setCell ⟨b,2,none⟩ z):=by
 intro l;obtain⟨c,cs,h1,h2,h3,h4,h5⟩:=h l;have hc:c≠b:=fun e=>ak l (by rw[h1,e]);refine⟨c,cs,h1,h2,?_,h4,h5⟩;rw[Below.heap_setCell _ _ _ _ hc,Below.heap_setCell _ _ _ _ hc,Below.heap_setCell _ _ _ _ hc];exact h3
def a3(x:V3):Array B7:=#[J Y x.x,J Y x.y,J Y x.z]
def FT(V:BV)(p:Ce)(f:Bool)(cs:List (Nat × Bool))(fa fc:V3)(γ:Nat->B7)(L:Nat->Bool)(w:BV):Prop:=
 FG V p f cs L w/\RV.Pend V 27 13 15 (a3 fa) γ L w/\RV.Pend V 27 14 16 (a3 fc) γ L w/\(L 13=true->L 14=true->γ 13 ≠ γ 14)
theorem FT.other(h:FT V p f cs fa fc γ L w)(v:B7)(h6:13≠i)(h7:14≠i)(h8:15≠i)(h9:16≠i)(hi:(cs.all fun c=>decide (c.1≠i))=true):FT V p f cs fa fc (RV.upd γ i v) (more L i) w:=
 ⟨h.1.stay hi,h.2.1.other v h6 h8,h.2.2.1.other v h7 h9,by rw[Bt h6,Bt h7,BI _ _ h6,BI _ _ h7];exact h.2.2.2⟩
theorem FT.come{g:Bool}(h:FT V p f cs fa fc γ L w)(hp:p.block<V.heap.size)(v:B7)(h6:13≠i)(h7:14≠i)(h8:15≠i)(h9:16≠i)(hl:L i=false)(hi:(cs.filter fun c=>decide (c.1=i)) = [(i,g)])(ha:After p (orL f cs L||g) w w'):FT V p f cs fa fc (RV.upd γ i v) (more L i) w':=
 ⟨h.1.come hl hi ha,(PendV.after h.2.1 hp ha).other v h6 h8,(PendV.after h.2.2.1 hp ha).other v h7 h9,by rw[Bt h6,Bt h7,BI _ _ h6,BI _ _ h7];exact h.2.2.2⟩
theorem FT.made3(h:FT V p f cs fa fc γ L w)(h8:L 15=false)(hi:(cs.all fun c=>decide (c.1≠13))=true):FT V p f cs fa fc (RV.upd γ 13 (BO (some ⟨w.heap.size,0,none⟩))) (more L 13) (w.alloc (BP #[J Y 0,J Y 0,J Y 0] 27)):=by
 refine⟨(h.1.stay hi).alloc _,RV.Pend.made _ rfl h.1.leaves.size h8 (by decide),(h.2.2.1.below (Jb w _)).other _ (by decide) (by decide),fun _ l7=>?_⟩;rw[Bt (by decide)]at l7;rw[RV.upd_self,BI _ _ (by decide)];exact Ne.symm (PendV.lt h.2.2.1 l7)
theorem FT.made4(h:FT V p f cs fa fc γ L w)(h9:L 16=false)(hi:(cs.all fun c=>decide (c.1≠14))=true):FT V p f cs fa fc (RV.upd γ 14 (BO (some ⟨w.heap.size,0,none⟩))) (more L 14) (w.alloc (BP #[J Y 0,J Y 0,J Y 0] 27)):=by
 refine⟨(h.1.stay hi).alloc _,(h.2.1.below (Jb w _)).other _ (by decide) (by decide),RV.Pend.made _ rfl h.1.leaves.size h9 (by decide),fun l6 _=>?_⟩;rw[Bt (by decide)]at l6;rw[RV.upd_self,BI _ _ (by decide)];exact PendV.lt h.2.1 l6
theorem FT.fill3(h:FT V p f cs fa fc γ L w)(hp:p.block<V.heap.size)(l6:L 13=true)(hi:(cs.all fun c=>decide (c.1≠15))=true){cc:Array B7}(e:γ 13 = BO (some ⟨b,0,none⟩))(hb:V.heap.size<=b)(hx:w.heap[b]?=some (BP cc 27 (0,0)))(hc:cc.size=3){v:B7}:FT V p f cs fa fc (RV.upd γ 15 v) (more L 15) (((w.setCell ⟨b,0,none⟩ (J Y fa.x)).setCell ⟨b,1,none⟩ (J Y fa.y)).setCell ⟨b,2,none⟩ (J Y fa.z)):=by
 refine⟨(((h.1.stay hi).put hp hb _ _).put hp hb _ _).put hp hb _ _,RV.Pend.filled e hb (Jh4 hx hc _ _ _) (by decide) _,(PendV.set3 h.2.2.1 (fun l7 e7=>h.2.2.2 l6 l7 (by rw[e,e7])) _ _ _).other _ (by decide) (by decide),?_⟩;rw[Bt (by decide),Bt (by decide),BI _ _ (by decide),BI _ _ (by decide)];exact h.2.2.2
theorem FT.fill4(h:FT V p f cs fa fc γ L w)(hp:p.block<V.heap.size)(l7:L 14=true)(hi:(cs.all fun c=>decide (c.1≠16))=true){cc:Array B7}(e:γ 14 = BO (some ⟨b,0,none⟩))(hb:V.heap.size<=b)(hx:w.heap[b]?=some (BP cc 27 (0,0)))(hc:cc.size=3){v:B7}:FT V p f cs fa fc (RV.upd γ 16 v) (more L 16) (((w.setCell ⟨b,0,none⟩ (J Y fc.x)).setCell ⟨b,1,none⟩ (J Y fc.y)).setCell ⟨b,2,none⟩ (J Y fc.z)):=by
 refine⟨(((h.1.stay hi).put hp hb _ _).put hp hb _ _).put hp hb _ _,(PendV.set3 h.2.1 (fun l6 e6=>h.2.2.2 l6 l7 (by rw[e,e6])) _ _ _).other _ (by decide) (by decide),RV.Pend.filled e hb (Jh4 hx hc _ _ _) (by decide) _,?_⟩;rw[Bt (by decide),Bt (by decide),BI _ _ (by decide),BI _ _ (by decide)];exact h.2.2.2
end
theorem Jmk(fb fo:Nat)(f:Bool)(b:Bd)(R:List B7)(hR:Rest R)(hk:b.k=2)(W:BV)(hc:W.cell? ⟨fb,fo,none⟩=some (BT f))(hf:W.frozen? ⟨fb,fo,none⟩=false):
  Cd Tryz.prog 37 #[BO (some ⟨fb,fo,none⟩),B_ (b.L R).toArray] W fun e W'=>e = BZ (Jap b).val/\BU (After ⟨fb,fo,none⟩ (f||Jcm b) W W'):=by
 have:=Jg7 fb fo f b R hR W hc hf;unfold if2 Jav at this;rw[if_pos hk,if_pos hk]at this;exact this
theorem Jpo(fb fo:Nat)(f:Bool)(b:Bd)(R:List B7)(hR:Rest R)(hk:b.k=2)(W:BV)(hc:W.cell? ⟨fb,fo,none⟩=some (BT f))(hf:W.frozen? ⟨fb,fo,none⟩=false):
  Cd Tryz.prog 39 #[BO (some ⟨fb,fo,none⟩),B_ (b.L R).toArray] W fun e W'=>e = BZ (Jag b b.l).val/\BU (After ⟨fb,fo,none⟩ (f||Jcg b b.l) W W'):=by
 have:=Jmi fb fo f b R hR W hc hf;unfold if2 Jav at this;rw[if_pos hk,if_pos hk]at this;exact this
def Jab(b:Bd)(n:Int):V3:=Jau (Jap b) n
def Jae(b:Bd)(n:Int):V3:=Jau (Jag b b.l) (n / 2)
def goD(b:Bd)(n:Int):Bd:=b.ws (Jt b.s (Jab b n)) (Ja4 b.q (Jae b n))
def Jkd(b:Bd)(n:Int):Bool:=Jcm b ||(Jcb (Jap b) n ||(Jcg b b.l||Jcb (Jag b b.l) (n / 2)))
def goB(b:Bd)(n:Int):Bool:=Jkd b n ||(Jbh b.s (Jab b n)||Jgg b.q (Jae b n))
theorem Jul(fb fo pw pb pn:Nat)(f:Bool)(b:Bd)(R0:List B7)(n:Int)(hk:b.k=2)(hn:-9223372036854775808<=n/\n<=9223372036854775807)(hR:Rest R0)(V:BV)(hc:V.cell? ⟨fb,fo,none⟩=some (BT f))(hf:V.frozen? ⟨fb,fo,none⟩=false)
  (Cw:CW V pw [BO (some ⟨fb,fo,none⟩)]) (Cb:CW V pb (b.L R0)) (Cn:CW V pn [J Y n]) (nw:pw≠fb) (nb:pb≠fb) (nn:pn≠fb) :
  Cd Tryz.prog 54 #[BO (some ⟨pw,0,none⟩),BO (some ⟨pb,0,none⟩),BO (some ⟨pn,0,none⟩)] V fun e W'=>e = BZ (.tuple #[])/\BU (Clo ⟨fb,fo,none⟩ (f||goB b n) pb ((goD b n).L R0) V W'):=by
 have hz:BU _:=Jj hR b;have dZ:BU _:=hR;have nZ:(⟨fb,fo,none⟩:Ce).block<V.heap.size:=JB _ _ hc;have hpV':fb<V.heap.size:=nZ;have HS:BU (Clo _ _ _ _ _ _):=Clo.start hc hf Cb;clear hR;go_enter func54,ntmps54;go_upto_region 0 with fail;refine Bq [.some (BO (some ⟨fb,fo,none⟩)),.some (BO (some ⟨fb,fo,none⟩)),.some (B_ (b.L R0).toArray),.some (B_ #[J Y (Jap b).x,J Y (Jap b).y,J Y (Jap b).z]),.some (J Y n),.some (B_ #[J Y (Jab b n).x,J Y (Jab b n).y,J Y (Jab b n).z]),.some (BO (some ⟨fb,fo,none⟩)),.some (BO (some ⟨fb,fo,none⟩)),.some (B_ (b.L R0).toArray),.some (B_ #[J Y (Jag b b.l).x,J Y (Jag b b.l).y,J Y (Jag b b.l).z]),.some (J Y n),.some (J Y (n / 2)),.some (B_ #[J Y (Jae b n).x,J Y (Jae b n).y,J Y (Jae b n).z]),none,none,none,none] [6,7,8,9,10,11,12,13,14,15,16,17,18,4,5,0,0] [(0,BO (some ⟨pw,0,none⟩)),(1,BO (some ⟨pb,0,none⟩)),(2,BO (some ⟨pn,0,none⟩))] (fun γ L w=>FT V ⟨fb,fo,none⟩ f [(3,Jcm b),(5,Jcb (Jap b) n),(9,Jcg b b.l),(12,Jcb (Jag b b.l) (n / 2))] (Jab b n) (Jae b n) γ L w) ⟨rfl,rfl,rfl,trivial⟩ ?_ ?_ ?_
 ·exact⟨FG.start hc hf,RV.Pend.start rfl,RV.Pend.start rfl,fun e=>by cases e⟩
 ·intro D WA Z hD ah hZ T;simp only[RV.Outs,RV.Slots,Nat.reduceAdd]at T
  iterate 2 (refine Br _ (Bs T (fun γ v L w hl h=>h.other v (by decide) (by decide) (by decide) (by decide) rfl) (fun γ L a w hH hl h9 k9=>⟨_,?_,rfl⟩)) ?_;· have q0:=hH.glob.1.at (Cw 0 _ rfl).1 nw;simp[JD,go_sem,h9,q0])
  refine Br _ (BJ (fun γ L a w hH hl hA=>by have h9:=T γ L a w hH;exact⟨B_ (b.L R0).toArray,w,Jax 39 _ rfl pb 0 (by simp[go_sem,h9]) _ _ (hH.glob.1.range Cb nb) underlying39 rfl hz.out,rfl,fun _ _ _ h=>h,hH.glob.other _ (by decide) (by decide) (by decide) (by decide) rfl⟩)) ?_;refine Br _ (Bw (fun γ L a w hH hl hA=>by have h9:=T γ L a w hH;have k9:=hA;simp[JC]at k9;exact⟨37,#[BO (some ⟨fb,fo,none⟩),B_ (b.L R0).toArray],by simp[go_sem,h9,k9],JA (Jmk fb fo _ b R0 dZ.out hk w hH.glob.1.cell hH.glob.1.frozen) (by rintro e w2 ⟨rfl,ha⟩;exact⟨_,rfl,rfl,fun j v _ h=>h.keep _,hH.glob.come nZ _ (by decide) (by decide) (by decide) (by decide) hl rfl ha.out⟩)⟩)) ?_
  (refine Br _ (Bs T (fun γ v L w hl h=>h.other v (by decide) (by decide) (by decide) (by decide) rfl) (fun γ L a w hH hl h9 k9=>⟨_,?_,rfl⟩)) ?_;· have q0:=hH.glob.1.at (Cn 0 _ rfl).1 nn;simp[JD,go_sem,h9,q0])
  refine Br _ (Bw (fun γ L a w hH hl hA=>by have h9:=T γ L a w hH;have k9:=hA;simp[JC]at k9;exact⟨55,#[BO (some ⟨fb,fo,none⟩),B_ #[J Y (Jap b).x,J Y (Jap b).y,J Y (Jap b).z],J Y n],by simp[go_sem,h9,k9],JA (Jn9 fb fo _ (Jap b) n w hH.glob.1.cell hH.glob.1.frozen) (by rintro e w2 ⟨rfl,ha⟩;exact⟨_,rfl,rfl,fun j v _ h=>h.keep _,hH.glob.come nZ _ (by decide) (by decide) (by decide) (by decide) hl rfl ha.out⟩)⟩)) ?_
  iterate 2 (refine Br _ (Bs T (fun γ v L w hl h=>h.other v (by decide) (by decide) (by decide) (by decide) rfl) (fun γ L a w hH hl h9 k9=>⟨_,?_,rfl⟩)) ?_;· have q0:=hH.glob.1.at (Cw 0 _ rfl).1 nw;simp[JD,go_sem,h9,q0])
  refine Br _ (BJ (fun γ L a w hH hl hA=>by have h9:=T γ L a w hH;exact⟨B_ (b.L R0).toArray,w,Jax 39 _ rfl pb 0 (by simp[go_sem,h9]) _ _ (hH.glob.1.range Cb nb) underlying39 rfl hz.out,rfl,fun _ _ _ h=>h,hH.glob.other _ (by decide) (by decide) (by decide) (by decide) rfl⟩)) ?_;refine Br _ (Bw (fun γ L a w hH hl hA=>by have h9:=T γ L a w hH;have k9:=hA;simp[JC]at k9;exact⟨39,#[BO (some ⟨fb,fo,none⟩),B_ (b.L R0).toArray],by simp[go_sem,h9,k9],JA (Jpo fb fo _ b R0 dZ.out hk w hH.glob.1.cell hH.glob.1.frozen) (by rintro e w2 ⟨rfl,ha⟩;exact⟨_,rfl,rfl,fun j v _ h=>h.keep _,hH.glob.come nZ _ (by decide) (by decide) (by decide) (by decide) hl rfl ha.out⟩)⟩)) ?_
  iterate 2 first
   |(refine Br _ (Bs T (fun γ v L w hl h=>h.other v (by decide) (by decide) (by decide) (by decide) rfl) (fun γ L a w hH hl h9 k9=>⟨_,?_,rfl⟩)) ?_;· simp[JC]at k9;simp[JD,go_sem,h9,k9])
   |(refine Br _ (Bs T (fun γ v L w hl h=>h.other v (by decide) (by decide) (by decide) (by decide) rfl) (fun γ L a w hH hl h9 k9=>⟨_,?_,rfl⟩)) ?_;· have q0:=hH.glob.1.at (Cn 0 _ rfl).1 nn;simp[JD,go_sem,h9,q0])
  refine Br _ (Bw (fun γ L a w hH hl hA=>by have h9:=T γ L a w hH;have k9:=hA;simp[JC]at k9;exact⟨55,#[BO (some ⟨fb,fo,none⟩),B_ #[J Y (Jag b b.l).x,J Y (Jag b b.l).y,J Y (Jag b b.l).z],J Y (n / 2)],by simp[go_sem,h9,k9],JA (Jn9 fb fo _ (Jag b b.l) (n / 2) w hH.glob.1.cell hH.glob.1.frozen) (by rintro e w2 ⟨rfl,ha⟩;exact⟨_,rfl,rfl,fun j v _ h=>h.keep _,hH.glob.come nZ _ (by decide) (by decide) (by decide) (by decide) hl rfl ha.out⟩)⟩)) ?_;refine Br _ (BJ (fun γ L a w hH hl hA=>by exact⟨BO (some ⟨w.heap.size,0,none⟩),w.alloc (BP #[J Y 0,J Y 0,J Y 0] 27),by simp[JD,go_sem],trivial,fun j v _ h=>h.keep _,hH.glob.made3 (Bu hH (Bv (j:=15) (i:=13) ah (by kernel_rfl)) hl) rfl⟩)) ?_;refine Br _ (BJ (fun γ L a w hH hl hA=>by exact⟨BO (some ⟨w.heap.size,0,none⟩),w.alloc (BP #[J Y 0,J Y 0,J Y 0] 27),by simp[JD,go_sem],trivial,fun j v _ h=>h.keep _,hH.glob.made4 (Bu hH (Bv (j:=16) (i:=14) ah (by kernel_rfl)) hl) rfl⟩)) ?_;refine Br _ (Bz (fun γ L a w hH hl hA=>by have h9:=T γ L a w hH;have k9:=hA;simp[JC]at k9;have l0:L 13=true:=hA ⟨13,.data⟩ (by simp) rfl;have e0:=hH.slot 13 3 (by rw[<- hD];rfl) l0;obtain⟨q,cs,ac,aj,ao,bM,_⟩:=hH.glob.2.1 l0;rw[ac]at e0;have hF:=fun v=>hH.glob.fill3 nZ l0 rfl ac aj ao bM (v:=v);obtain⟨u0,u1,u2,rfl⟩:=Js8 bM;have n_:w.cell? ⟨q,0,none⟩=some u0:=(by simp[World.cell?,ao]);have od:w.cell? ⟨q,1,none⟩=some u1:=(by simp[World.cell?,ao]);have og:w.cell? ⟨q,2,none⟩=some u2:=(by simp[World.cell?,ao]);have zf:∀ o,w.frozen? ⟨q,o,none⟩=false:=fun o=>(by simp[World.frozen?,ao]);exact⟨(((w.setCell ⟨q,0,none⟩ (J Y (Jab b n).x)).setCell ⟨q,1,none⟩ (J Y (Jab b n).y)).setCell ⟨q,2,none⟩ (J Y (Jab b n).z)),by simp[JD,go_sem,e0,n_,od,og,zf,h9,k9],trivial,fun j v _ h=>h.keep _,hF _⟩)) ?_;refine Br _ (Bz (fun γ L a w hH hl hA=>by have h9:=T γ L a w hH;have k9:=hA;simp[JC]at k9;have l0:L 14=true:=hA ⟨14,.data⟩ (by simp) rfl;have e0:=hH.slot 14 4 (by rw[<- hD];rfl) l0;obtain⟨q,cs,ac,aj,ao,bM,_⟩:=hH.glob.2.2.1 l0;rw[ac]at e0;have hF:=fun v=>hH.glob.fill4 nZ l0 rfl ac aj ao bM (v:=v);obtain⟨u0,u1,u2,rfl⟩:=Js8 bM;have n_:w.cell? ⟨q,0,none⟩=some u0:=(by simp[World.cell?,ao]);have od:w.cell? ⟨q,1,none⟩=some u1:=(by simp[World.cell?,ao]);have og:w.cell? ⟨q,2,none⟩=some u2:=(by simp[World.cell?,ao]);have zf:∀ o,w.frozen? ⟨q,o,none⟩=false:=fun o=>(by simp[World.frozen?,ao]);exact⟨(((w.setCell ⟨q,0,none⟩ (J Y (Jae b n).x)).setCell ⟨q,1,none⟩ (J Y (Jae b n).y)).setCell ⟨q,2,none⟩ (J Y (Jae b n).z)),by simp[JD,go_sem,e0,n_,od,og,zf,h9,k9],trivial,fun j v _ h=>h.keep _,hF _⟩)) ?_;exact RV.AllDo.nil
 ·intro γ w5 L9 hL aX aD;obtain⟨b3,cs3,k1,k2,k3,_,k5⟩:=aD.2.1 (hL 13 (by decide));obtain⟨b4,cs4,m1,m2,m3,_,m5⟩:=aD.2.2.1 (hL 14 (by decide));rw[k5 (hL 15 (by decide))]at k3;rw[m5 (hL 16 (by decide))]at m3;have bi:=aD.1;have cE:orL f [(3,Jcm b),(5,Jcb (Jap b) n),(9,Jcg b b.l),(12,Jcb (Jag b b.l) (n / 2))] L9=(f||Jkd b n):=by unfold orL Jkd;simp only[List.any_cons,List.any_nil,hL 3 (by decide),hL 5 (by decide),hL 9 (by decide),hL 12 (by decide),Bool.true_and,Bool.or_false]
  have a_:BU (After _ _ _ _):=bi.leaves.done bi.cell bi.frozen;rw[cE]at a_;clear hL k5 m5 bi cE aX aD;simp only[RV.putL,Act.put,JH,JG,JF,Nat.reduceAdd];rw[k1,m1];have C3:CW w5 b3 [J Y (Jab b n).x,J Y (Jab b n).y,J Y (Jab b n).z]:=Juu k3;have C4:CW w5 b4 [J Y (Jae b n).x,J Y (Jae b n).y,J Y (Jae b n).z]:=Juu m3;have n3:b3≠fb:=by omega
  have n4:b4≠fb:=by omega
  have HS:BU (Clo _ _ _ _ _ _):=HS.out.same a_.out nb;have Cw:=Cw.after a_.out nw;have Cn:=Cn.after a_.out nn;have Cb:=HS.out.cw;have aN:=HS.out.cell;have aT:=HS.out.frozen;clear k1 m1 k2 m2 k3 m3 a_;obtain⟨V1,dI⟩:∃ X,X=w5:=⟨_,rfl⟩
  rw[<- dI]at HS Cw Cn Cb aN aT C3 C4 ⊢;clear dI;go_upto_region 1 with fail;refine Bq [.some (BO (some ⟨fb,fo,none⟩)),.some (BO (some ⟨pb,1,none⟩)),.some (BO (some ⟨pb,1,none⟩)),.some (B_ #[J Y b.s.x,J Y b.s.y,J Y b.s.z]),.some (B_ #[J Y ((Jab b n).x),J Y ((Jab b n).y),J Y ((Jab b n).z)]),.some (B_ #[J Y ((Jt b.s (Jab b n)).x),J Y ((Jt b.s (Jab b n)).y),J Y ((Jt b.s (Jab b n)).z)]),.some (BO (some ⟨fb,fo,none⟩)),.some (BO (some ⟨pb,1,none⟩)),.some (BO (some ⟨pb,4,none⟩)),.some (B_ #[J Y b.q.w,J Y b.q.x,J Y b.q.y,J Y b.q.z]),.some (B_ #[J Y ((Jae b n).x),J Y ((Jae b n).y),J Y ((Jae b n).z)]),.some (B_ #[J Y ((Ja4 b.q (Jae b n)).w),J Y ((Ja4 b.q (Jae b n)).x),J Y ((Ja4 b.q (Jae b n)).y),J Y ((Ja4 b.q (Jae b n)).z)]),.some (B_ #[J Y ((Jt b.s (Jab b n)).x),J Y ((Jt b.s (Jab b n)).y),J Y ((Jt b.s (Jab b n)).z),J Y ((Ja4 b.q (Jae b n)).w),J Y ((Ja4 b.q (Jae b n)).x),J Y ((Ja4 b.q (Jae b n)).y),J Y ((Ja4 b.q (Jae b n)).z)]),.some (BO (some ⟨pb,1,none⟩)),none] [19,20,21,22,23,24,25,26,27,28,29,30,31,32,0] [(0,BO (some ⟨pw,0,none⟩)),(1,BO (some ⟨pb,0,none⟩)),(3,BO (some ⟨b3,0,none⟩)),(4,BO (some ⟨b4,0,none⟩))] (fun γ L w9=>FGS V1 ⟨fb,fo,none⟩ (f||Jkd b n) [(5,Jbh b.s (Jab b n)),(11,Jgg b.q (Jae b n))] 14 (fun w=>(((((((w.setCell ⟨pb,1,none⟩ (J Y ((Jt b.s (Jab b n)).x))).setCell ⟨pb,2,none⟩ (J Y ((Jt b.s (Jab b n)).y))).setCell ⟨pb,3,none⟩ (J Y ((Jt b.s (Jab b n)).z))).setCell ⟨pb,4,none⟩ (J Y ((Ja4 b.q (Jae b n)).w))).setCell ⟨pb,5,none⟩ (J Y ((Ja4 b.q (Jae b n)).x))).setCell ⟨pb,6,none⟩ (J Y ((Ja4 b.q (Jae b n)).y))).setCell ⟨pb,7,none⟩ (J Y ((Ja4 b.q (Jae b n)).z)))) L w9) ⟨rfl,rfl,rfl,rfl,trivial⟩ ?_ ?_ ?_
  ·exact FGS.start aN aT
  ·intro D WA Z hD ah hZ T;simp only[RV.Outs,RV.Slots,Nat.reduceAdd]at T
   iterate 5 first
    |(refine Br _ (Bs T (fun γ v L w hl h=>h.stay (by decide) rfl) (fun γ L a w hH hl h9 k9=>⟨_,?_,rfl⟩)) ?_;· simp[JD,go_sem,h9])
    |(refine Br _ (Bs T (fun γ v L w hl h=>h.stay (by decide) rfl) (fun γ L a w hH hl h9 k9=>⟨_,?_,rfl⟩)) ?_;· simp[JC]at k9;simp[JD,go_sem,h9,k9])
    |(refine Br _ (Bs T (fun γ v L w hl h=>h.stay (by decide) rfl) (fun γ L a w hH hl h9 k9=>⟨_,?_,rfl⟩)) ?_;· have hG:=hH.glob.early (Bu hH (Bv (j:=14) ah (by kernel_rfl)) hl);have q0:=hG.at (Cb 1 _ rfl).1 nb;have q1:=hG.at (Cb 2 _ rfl).1 nb;have q2:=hG.at (Cb 3 _ rfl).1 nb;simp[JC]at k9;simp[JD,go_sem,h9,k9,q0,q1,q2])
    |(refine Br _ (Bs T (fun γ v L w hl h=>h.stay (by decide) rfl) (fun γ L a w hH hl h9 k9=>⟨_,?_,rfl⟩)) ?_;· have hG:=hH.glob.early (Bu hH (Bv (j:=14) ah (by kernel_rfl)) hl);have q0:=hG.at (Cw 0 _ rfl).1 nw;have q1:=hG.at (C3 0 _ rfl).1 n3;have q2:=hG.at (C3 1 _ rfl).1 n3;have q3:=hG.at (C3 2 _ rfl).1 n3;simp[JD,go_sem,h9,q0,q1,q2,q3])
   refine Br _ (Bw (fun γ L a w hH hl hA=>by have h9:=T γ L a w hH;have k9:=hA;simp[JC]at k9;have hG:=hH.glob.early (Bu hH (Bv (j:=14) (i:=5) ah (by kernel_rfl)) hl);exact⟨56,#[BO (some ⟨fb,fo,none⟩),B_ #[J Y b.s.x,J Y b.s.y,J Y b.s.z],B_ #[J Y ((Jab b n).x),J Y ((Jab b n).y),J Y ((Jab b n).z)]],by simp[go_sem,h9,k9],JA (Ji0 fb fo _ b.s (Jab b n) w hG.cell hG.frozen) (by rintro e w2 ⟨rfl,ha⟩;exact⟨_,rfl,rfl,fun j v _ h=>h.keep _,FGS.come hG (by decide) (Bu hH (Bv (j:=14) (i:=5) ah (by kernel_rfl)) hl) hl rfl ha.out⟩)⟩)) ?_
   iterate 5 first
    |(refine Br _ (Bs T (fun γ v L w hl h=>h.stay (by decide) rfl) (fun γ L a w hH hl h9 k9=>⟨_,?_,rfl⟩)) ?_;· simp[JD,go_sem,h9])
    |(refine Br _ (Bs T (fun γ v L w hl h=>h.stay (by decide) rfl) (fun γ L a w hH hl h9 k9=>⟨_,?_,rfl⟩)) ?_;· simp[JC]at k9;simp[JD,go_sem,h9,k9])
    |(refine Br _ (Bs T (fun γ v L w hl h=>h.stay (by decide) rfl) (fun γ L a w hH hl h9 k9=>⟨_,?_,rfl⟩)) ?_;· have hG:=hH.glob.early (Bu hH (Bv (j:=14) ah (by kernel_rfl)) hl);have q0:=hG.at (Cw 0 _ rfl).1 nw;have q1:=hG.at (C4 0 _ rfl).1 n4;have q2:=hG.at (C4 1 _ rfl).1 n4;have q3:=hG.at (C4 2 _ rfl).1 n4;simp[JD,go_sem,h9,q0,q1,q2,q3])
    |(refine Br _ (Bs T (fun γ v L w hl h=>h.stay (by decide) rfl) (fun γ L a w hH hl h9 k9=>⟨_,?_,rfl⟩)) ?_;· have hG:=hH.glob.early (Bu hH (Bv (j:=14) ah (by kernel_rfl)) hl);have q0:=hG.at (Cb 4 _ rfl).1 nb;have q1:=hG.at (Cb 5 _ rfl).1 nb;have q2:=hG.at (Cb 6 _ rfl).1 nb;have q3:=hG.at (Cb 7 _ rfl).1 nb;simp[JC]at k9;simp[JD,go_sem,h9,k9,q0,q1,q2,q3])
   refine Br _ (Bw (fun γ L a w hH hl hA=>by have h9:=T γ L a w hH;have k9:=hA;simp[JC]at k9;have hG:=hH.glob.early (Bu hH (Bv (j:=14) (i:=11) ah (by kernel_rfl)) hl);exact⟨57,#[BO (some ⟨fb,fo,none⟩),B_ #[J Y b.q.w,J Y b.q.x,J Y b.q.y,J Y b.q.z],B_ #[J Y ((Jae b n).x),J Y ((Jae b n).y),J Y ((Jae b n).z)]],by simp[go_sem,h9,k9],JA (Jvf fb fo _ b.q (Jae b n) w hG.cell hG.frozen) (by rintro e w2 ⟨rfl,ha⟩;exact⟨_,rfl,rfl,fun j v _ h=>h.keep _,FGS.come hG (by decide) (Bu hH (Bv (j:=14) (i:=11) ah (by kernel_rfl)) hl) hl rfl ha.out⟩)⟩)) ?_
   iterate 2 first
    |(refine Br _ (Bs T (fun γ v L w hl h=>h.stay (by decide) rfl) (fun γ L a w hH hl h9 k9=>⟨_,?_,rfl⟩)) ?_;· simp[JD,go_sem,h9])
    |(refine Br _ (Bs T (fun γ v L w hl h=>h.stay (by decide) rfl) (fun γ L a w hH hl h9 k9=>⟨_,?_,rfl⟩)) ?_;· simp[JC]at k9;simp[JD,go_sem,h9,k9])
   refine Br _ (Bz (fun γ L a w hH hl hA=>by have h9:=T γ L a w hH;have k9:=hA;simp[JC]at k9;have hG:=hH.glob.early hl;have z0:=hG.at (Cb 1 _ rfl).1 nb;have cX:=hG.open (Cb 1 _ rfl).1 (Cb 1 _ rfl).2 nb;have z1:=hG.at (Cb 2 _ rfl).1 nb;have cY:=hG.open (Cb 2 _ rfl).1 (Cb 2 _ rfl).2 nb;have z2:=hG.at (Cb 3 _ rfl).1 nb;have cZ:=hG.open (Cb 3 _ rfl).1 (Cb 3 _ rfl).2 nb;have z3:=hG.at (Cb 4 _ rfl).1 nb;have nI:=hG.open (Cb 4 _ rfl).1 (Cb 4 _ rfl).2 nb;have z4:=hG.at (Cb 5 _ rfl).1 nb;have zf4:=hG.open (Cb 5 _ rfl).1 (Cb 5 _ rfl).2 nb;have z5:=hG.at (Cb 6 _ rfl).1 nb;have zf5:=hG.open (Cb 6 _ rfl).1 (Cb 6 _ rfl).2 nb;have z6:=hG.at (Cb 7 _ rfl).1 nb;have zf6:=hG.open (Cb 7 _ rfl).1 (Cb 7 _ rfl).2 nb;exact⟨(((((((w.setCell ⟨pb,1,none⟩ (J Y ((Jt b.s (Jab b n)).x))).setCell ⟨pb,2,none⟩ (J Y ((Jt b.s (Jab b n)).y))).setCell ⟨pb,3,none⟩ (J Y ((Jt b.s (Jab b n)).z))).setCell ⟨pb,4,none⟩ (J Y ((Ja4 b.q (Jae b n)).w))).setCell ⟨pb,5,none⟩ (J Y ((Ja4 b.q (Jae b n)).x))).setCell ⟨pb,6,none⟩ (J Y ((Ja4 b.q (Jae b n)).y))).setCell ⟨pb,7,none⟩ (J Y ((Ja4 b.q (Jae b n)).z))),by simp[JD,go_sem,z0,cX,z1,cY,z2,cZ,z3,nI,z4,zf4,z5,zf5,z6,zf6,h9,k9],trivial,fun j v _ h=>h.keep _,FGS.store (S:=fun w=>(((((((w.setCell ⟨pb,1,none⟩ (J Y ((Jt b.s (Jab b n)).x))).setCell ⟨pb,2,none⟩ (J Y ((Jt b.s (Jab b n)).y))).setCell ⟨pb,3,none⟩ (J Y ((Jt b.s (Jab b n)).z))).setCell ⟨pb,4,none⟩ (J Y ((Ja4 b.q (Jae b n)).w))).setCell ⟨pb,5,none⟩ (J Y ((Ja4 b.q (Jae b n)).x))).setCell ⟨pb,6,none⟩ (J Y ((Ja4 b.q (Jae b n)).y))).setCell ⟨pb,7,none⟩ (J Y ((Ja4 b.q (Jae b n)).z)))) hG rfl⟩)) ?_;exact RV.AllDo.nil
  ·intro γ w5 L9 hL aX aD;obtain⟨w8,bi,rfl⟩:=aD.late (hL 14 (by decide));have cE:orL (f||Jkd b n) [(5,Jbh b.s (Jab b n)),(11,Jgg b.q (Jae b n))] L9=((f||Jkd b n) ||(Jbh b.s (Jab b n)||Jgg b.q (Jae b n))):=by unfold orL;simp only[List.any_cons,List.any_nil,hL 5 (by decide),hL 11 (by decide),Bool.true_and,Bool.or_false,Bool.or_assoc]
   have a_:BU (After _ _ _ _):=bi.leaves.done bi.cell bi.frozen;rw[cE]at a_;clear bi cE;clear hL aX aD;simp only[RV.putL,Act.put,JH,JG,JF];have HS:BU (Clo _ _ _ _ _ _):=HS.out.same a_.out nb;clear a_;go_wp2_with (fail)
   go_end0
   refine⟨rfl,?_⟩;have h9:=(HS.out.set3 nb 1 (J Y (Jt b.s (Jab b n)).x) (J Y (Jt b.s (Jab b n)).y) (J Y (Jt b.s (Jab b n)).z) (Jcd dZ.out (by decide))).set nb 4 (J Y (Ja4 b.q (Jae b n)).w) (by simp[dZ.out.all]);have h9:=h9.set3 nb 5 (J Y (Ja4 b.q (Jae b n)).x) (J Y (Ja4 b.q (Jae b n)).y) (J Y (Ja4 b.q (Jae b n)).z) (by simp[dZ.out.all]);rw[Bool.or_assoc]at h9;exact h9
theorem Jny(fb fo:Nat)(f:Bool)(b:Bd)(R:List B7)(pv:B7)(Ls:List Pt)(n:Int)(hn:-9223372036854775808<=n/\n<=9223372036854775807)(hR:RestP R pv)(W:BV)(hc:W.cell? ⟨fb,fo,none⟩=some (BT f))(hf:W.frozen? ⟨fb,fo,none⟩=false)(hv:Lies W pv Ls)(hl:Ls.length<=100000):
  Cd Tryz.prog 13 #[BO (some ⟨fb,fo,none⟩),B_ (b.L R).toArray,J Y n] W fun e W'=>∃ u,e = BZ (B_ ((ifB b (goD b n)).L (R.set 5 u)).toArray)/\BU (After ⟨fb,fo,none⟩ (f||Jav b.k (goB b n)) W W')/\BU (W'.ownsRow W.heap.size 23 3 u Ls.length (fl3 Ls)):=by
 have aO:fb<W.heap.size:=JB _ _ hc;have hz:BU _:=Jj hR.rest b;obtain⟨V,hV⟩:∃ V,V=((((W.alloc (BP #[BO (some ⟨fb,fo,none⟩)] 45)).alloc (BP (b.L R).toArray 39)).alloc (BP #[J Y n] 3)).alloc (BP #[J Y 0,J Y 0,J Y 0,J Y 0,J Y 0,J Y 0,J Y 0,J Y 0,J Y 0,J Y 0,J Y 0,J Y 0,J Y 0,J Y 0,J Y 0,J Y 0,J Y 0,J Y 0,J Y 0,J Y 0,J Y 0,J Y 0,J Y 0,BQ none 0 0,J Y 0,J Y 0,J Y 0,BT false,J Y 0,BT false,BT false] 39)):=⟨_,rfl⟩
 have aL:=Jb W (BP #[BO (some ⟨fb,fo,none⟩)] 45);have ac:=Jb (W.alloc (BP #[BO (some ⟨fb,fo,none⟩)] 45)) (BP (b.L R).toArray 39);have aj:=Jb ((W.alloc (BP #[BO (some ⟨fb,fo,none⟩)] 45)).alloc (BP (b.L R).toArray 39)) (BP #[J Y n] 3);have ao:=Jb (((W.alloc (BP #[BO (some ⟨fb,fo,none⟩)] 45)).alloc (BP (b.L R).toArray 39)).alloc (BP #[J Y n] 3)) (BP #[J Y 0,J Y 0,J Y 0,J Y 0,J Y 0,J Y 0,J Y 0,J Y 0,J Y 0,J Y 0,J Y 0,J Y 0,J Y 0,J Y 0,J Y 0,J Y 0,J Y 0,J Y 0,J Y 0,J Y 0,J Y 0,J Y 0,J Y 0,BQ none 0 0,J Y 0,J Y 0,J Y 0,BT false,J Y 0,BT false,BT false] 39);have Cw:CW V (W.heap.size) [BO (some ⟨fb,fo,none⟩)]:=by
  have h9:=(((CW.new W [BO (some ⟨fb,fo,none⟩)] 45).step ac).step aj).step ao;rw[hV];exact h9
 have Cb:CW V (W.heap.size+1) (b.L R):=by
  have h9:=((CW.new (W.alloc (BP #[BO (some ⟨fb,fo,none⟩)] 45)) (b.L R) 39).step aj).step ao;simp only[JE]at h9;rw[hV];exact h9
 have Cn:CW V (W.heap.size+1+1) [J Y n]:=by
  have h9:=(CW.new ((W.alloc (BP #[BO (some ⟨fb,fo,none⟩)] 45)).alloc (BP (b.L R).toArray 39)) [J Y n] 3).step ao;simp only[JE]at h9;rw[hV];exact h9
 have Cr:CW V (W.heap.size+1+1+1) [J Y 0,J Y 0,J Y 0,J Y 0,J Y 0,J Y 0,J Y 0,J Y 0,J Y 0,J Y 0,J Y 0,J Y 0,J Y 0,J Y 0,J Y 0,J Y 0,J Y 0,J Y 0,J Y 0,J Y 0,J Y 0,J Y 0,J Y 0,BQ none 0 0,J Y 0,J Y 0,J Y 0,BT false,J Y 0,BT false,BT false]:=by
  have h9:=CW.new (((W.alloc (BP #[BO (some ⟨fb,fo,none⟩)] 45)).alloc (BP (b.L R).toArray 39)).alloc (BP #[J Y n] 3)) [J Y 0,J Y 0,J Y 0,J Y 0,J Y 0,J Y 0,J Y 0,J Y 0,J Y 0,J Y 0,J Y 0,J Y 0,J Y 0,J Y 0,J Y 0,J Y 0,J Y 0,J Y 0,J Y 0,J Y 0,J Y 0,J Y 0,J Y 0,BQ none 0 0,J Y 0,J Y 0,J Y 0,BT false,J Y 0,BT false,BT false] 39;simp only[JE]at h9;rw[hV];exact h9
 have hB:B9 W.heap.size W V:=by rw[hV];exact(Jc (Jc (Jc aL ac) aj) ao)
 have aN:=Ja hB hc;have aT:=Jm hB hc hf;have aY:BU (Leaves ⟨fb,fo,none⟩ W V):=(Leaves.refl _ _).step hB;clear aL ac aj ao;have fZ:W.heap.size<=V.heap.size:=hB.size;have im:BU _:=Jda b R pv Ls hR V (hv.below hB) hl;clear hc hf hv hB;go_enter func13,ntmps13;go_upto_region 1 with fail;rw[<- hV];clear hV;obtain⟨pr,aB⟩:∃ p,p=W.heap.size+1+1+1:=⟨_,rfl⟩
 obtain⟨pn,oU⟩:∃ p,p=W.heap.size+1+1:=⟨_,rfl⟩
 obtain⟨pb,aF⟩:∃ p,p=W.heap.size+1:=⟨_,rfl⟩
 obtain⟨pw,bE⟩:∃ p,p=W.heap.size:=⟨_,rfl⟩
 rw[<- aB]at Cr;rw[<- oU]at Cn;rw[<- aF]at Cb;rw[<- bE]at Cw;rw[<- aB,<- oU,<- aF,<- bE];have nw:pw≠fb:=by omega
 have nb:pb≠fb:=by omega
 have nn:pn≠fb:=by omega
 have nr:pr≠fb:=by omega
 have bw:pw≠pb:=by omega
 have bn:pn≠pb:=by omega
 have br:pr≠pb:=by omega
 have nr':fb≠pr:=by omega
 have nb':fb≠pb:=by omega
 have dB:W.heap.size<=pb:=by omega
 have aE:W.heap.size<=pr:=by omega
 have lq:pb<V.heap.size:=Cb.lt;have nX:pr<V.heap.size:=Cr.lt;have bS:([J Y 0,J Y 0,J Y 0,J Y 0,J Y 0,J Y 0,J Y 0,J Y 0,J Y 0,J Y 0,J Y 0,J Y 0,J Y 0,J Y 0,J Y 0,J Y 0,J Y 0,J Y 0,J Y 0,J Y 0,J Y 0,J Y 0,J Y 0,BQ none 0 0,J Y 0,J Y 0,J Y 0,BT false,J Y 0,BT false,BT false]:List B7).length=31:=rfl;generalize([J Y 0,J Y 0,J Y 0,J Y 0,J Y 0,J Y 0,J Y 0,J Y 0,J Y 0,J Y 0,J Y 0,J Y 0,J Y 0,J Y 0,J Y 0,J Y 0,J Y 0,J Y 0,J Y 0,J Y 0,J Y 0,J Y 0,J Y 0,BQ none 0 0,J Y 0,J Y 0,J Y 0,BT false,J Y 0,BT false,BT false]:List B7)=zl at *;have au:BU (World.rangeAt V pb 0 (b.L R)):=Cb.range;clear bE aF oU aB;go_wp2_with (refine wpList_load_mid rfl 39 _ rfl pb 0 rfl _ _ au.out underlying39 rfl hz.out ?_);refine JA im.out ?_;rintro e W1 ⟨u,rfl,HR⟩;have aW:=hR.set (Jbb HR.out.row);have ac:=HR.out.below;have Cw:=Cw.step ac;have Cb:=Cb.step ac;have Cn:=Cn.step ac;have Cr:=Cr.step ac;have dF:=aY.out.step (ac.mono aY.out.size);have bU:=Ja ac aN;have eK:=Jm ac aN aT;have nub:u.ownBlock≠some pb:=fun e=>by have:=(HR.out.row.lt _ e).1;omega
 have nuf:u.ownBlock≠some fb:=fun e=>by have:=(HR.out.row.lt _ e).1;omega
 have nur:u.ownBlock≠some pr:=fun e=>by have:=(HR.out.row.lt _ e).1;omega
 have bX:BU _:=Jad (Go.Joins.ownsRow_le HR.out.row fZ) nub (b.L (R.set 5 u)) 0;have bT:BU (World.there W1 pb 0 (b.L (R.set 5 u)).toArray.size):=Cb.thereB hR.rest aW.rest;have fe:BU _:=Jj aW.rest b;have eL:BU _:=Jn aW.rest b;have dw:BU _:=aW.rest.each b;have Cb:=Cb.sets (us:=b.L (R.set 5 u)) (by rw[hR.rest.all,aW.rest.all]);have Cw:=Cw.apart (us:=b.L (R.set 5 u)) bw;have Cn:=Cn.apart (us:=b.L (R.set 5 u)) bn;have Cr:=Cr.apart (us:=b.L (R.set 5 u)) br;have bL:BU (Leaves ⟨fb,fo,none⟩ W (W1.setCells pb 0 (b.L (R.set 5 u)))):=dF.sets dB _;have bF:=(Jaj (w:=W1) (vs:=b.L (R.set 5 u)) nb').trans bU;have b_:=(World.frozen?_setCells pb (b.L (R.set 5 u)) 0 W1 ⟨fb,fo,none⟩).trans eK;have bJ:BU (World.rangeAt (W1.setCells pb 0 (b.L (R.set 5 u))) pb 0 (b.L (R.set 5 u))):=Cb.range;clear im au aN aT aY dF bU eK ac HR;by_cases hk:b.k=2
 ·have HC:BU _:=Jeq b (R.set 5 u) hk 54 #[BO (some ⟨pw,0,none⟩),BO (some ⟨pb,0,none⟩),BO (some ⟨pn,0,none⟩)] (enters_of func54 (by kernel_rfl) rfl) (fun X=>BU (Clo ⟨fb,fo,none⟩ (f||goB b n) pb ((goD b n).L (R.set 5 u)) ((W1.setCells pb 0 (b.L (R.set 5 u))).alloc (BP (b.L (R.set 5 u)).toArray 39)) X)) (W1.setCells pb 0 (b.L (R.set 5 u)))
   (Jul fb fo pw pb pn f b (R.set 5 u) n hk hn aW.rest ((W1.setCells pb 0 (b.L (R.set 5 u))).alloc (BP (b.L (R.set 5 u)).toArray 39)) (Ja (Jb _ _) bF) (Jm (Jb _ _) bF b_) (Cw.step (Jb _ _)) (Cb.step (Jb _ _)) (Cn.step (Jb _ _)) nw nb nn)
  have dC:BU (CW _ _ _):=Cr;clear Cw Cb Cn Cr;go_wp2_with (first | refine wpList_store_mid rfl 39 _ _ rfl pb 0 _ rfl rfl bT.out eL.out dw.out ?_ | refine wpList_load_mid rfl 39 _ rfl pb 0 rfl _ _ bJ.out underlying39 rfl fe.out ?_);refine JA HC.out ?_;rintro e W3 ⟨rfl,HK⟩;have cG:BU (Leaves ⟨fb,fo,none⟩ W W3):=(bL.out.step ((Jb (W1.setCells pb 0 (b.L (R.set 5 u))) _).mono bL.out.size)).two HK.out.two aO dB;have bV:=HK.out.cell;have cP:=HK.out.frozen;have dA:=HK.out.cw;have bZ:=(dC.out.step (Jb _ _)).two HK.out.two nr br;have cm:BU _:=Jgw (Jq bX.out (Jb _ _)) HK.out.two nuf nub;clear HC HK bJ bT bF b_ bX bL dC;have bC:BU _:=Jj aW.rest ((goD b n));have cd:BU _:=Jn aW.rest ((goD b n));have bW:BU _:=aW.rest.each ((goD b n));have cU:BU (World.rangeAt W3 pb 0 (((goD b n)).L (R.set 5 u))):=dA.range;have dq:BU (World.there W3 pr 0 (((goD b n)).L (R.set 5 u)).toArray.size):=bZ.there31 bS aW.rest;have cH:BU _:=(bZ.sets (us:=((goD b n)).L (R.set 5 u)) (by rw[aW.rest.all,bS])).range;have cV:BU (Leaves ⟨fb,fo,none⟩ W (W3.setCells pr 0 (((goD b n)).L (R.set 5 u)))):=cG.out.sets aE _;have cI:BU _:=(Jaj (w:=W3) (vs:=((goD b n)).L (R.set 5 u)) nr').trans bV;have cW:BU _:=(World.frozen?_setCells pr (((goD b n)).L (R.set 5 u)) 0 W3 ⟨fb,fo,none⟩).trans cP;have fD:BU _:=Jad cm.out nur (((goD b n)).L (R.set 5 u)) 0;generalize aM:((goD b n)).L (R.set 5 u)=cs at *;have bH:BU _:=aM;clear aM dA bZ cG cm bV cP;go_wp2_with (first | refine wpList_load_mid rfl 39 _ rfl pb 0 rfl _ _ cU.out underlying39 rfl bC.out ?_ | refine wpList_store_mid rfl 39 _ _ rfl pr 0 _ rfl rfl dq.out cd.out bW.out ?_);refine bodyPost_ret (J7 6 39 results13 ⟨pr,0,none⟩ rfl (run_loadVar_mid _ pr 0 39 cs _ cH.out underlying39 rfl bC.out)) rfl ?_;refine⟨u,by rw[<- bH.out,ifB,if_pos hk],?_,fD⟩;rw[Jav,if_pos hk];exact cV.out.done cI.out cW.out
 ·have HC:BU _:=Jgl b (R.set 5 u) (.func (.func 54) #[] #[BO (some ⟨pw,0,none⟩),BO (some ⟨pb,0,none⟩),BO (some ⟨pn,0,none⟩)]) hk (W1.setCells pb 0 (b.L (R.set 5 u)));have dC:BU (CW _ _ _):=Cr;have kM:BU (CW _ _ _):=Cb;clear Cw Cb Cn Cr;go_wp2_with (first | refine wpList_store_mid rfl 39 _ _ rfl pb 0 _ rfl rfl bT.out eL.out dw.out ?_ | refine wpList_load_mid rfl 39 _ rfl pb 0 rfl _ _ bJ.out underlying39 rfl fe.out ?_);refine JA HC.out ?_;rintro e W3 ⟨rfl,HK⟩;have cG:BU (Leaves ⟨fb,fo,none⟩ W W3):=bL.out.step (HK.out.mono bL.out.size);have bV:=Ja HK.out bF;have cP:=Jm HK.out bF b_;have dA:=kM.out.step HK.out;have bZ:=dC.out.step HK.out;have cm:BU _:=Jq bX.out HK.out;clear HC HK bJ bT bF b_ bX bL dC kM;have bC:BU _:=Jj aW.rest (b);have cd:BU _:=Jn aW.rest (b);have bW:BU _:=aW.rest.each (b);have cU:BU (World.rangeAt W3 pb 0 ((b).L (R.set 5 u))):=dA.range;have dq:BU (World.there W3 pr 0 ((b).L (R.set 5 u)).toArray.size):=bZ.there31 bS aW.rest;have cH:BU _:=(bZ.sets (us:=(b).L (R.set 5 u)) (by rw[aW.rest.all,bS])).range;have cV:BU (Leaves ⟨fb,fo,none⟩ W (W3.setCells pr 0 ((b).L (R.set 5 u)))):=cG.out.sets aE _;have cI:BU _:=(Jaj (w:=W3) (vs:=(b).L (R.set 5 u)) nr').trans bV;have cW:BU _:=(World.frozen?_setCells pr ((b).L (R.set 5 u)) 0 W3 ⟨fb,fo,none⟩).trans cP;have fD:BU _:=Jad cm.out nur ((b).L (R.set 5 u)) 0;generalize aM:(b).L (R.set 5 u)=cs at *;have bH:BU _:=aM;clear aM dA bZ cG cm bV cP;go_wp2_with (first | refine wpList_load_mid rfl 39 _ rfl pb 0 rfl _ _ cU.out underlying39 rfl bC.out ?_ | refine wpList_store_mid rfl 39 _ _ rfl pr 0 _ rfl rfl dq.out cd.out bW.out ?_);refine bodyPost_ret (J7 6 39 results13 ⟨pr,0,none⟩ rfl (run_loadVar_mid _ pr 0 39 cs _ cH.out underlying39 rfl bC.out)) rfl ?_;refine⟨u,by rw[<- bH.out,ifB,if_neg hk],?_,fD⟩;rw[Jav,if_neg hk,Bool.or_false];exact cV.out.done cI.out cW.out
end
section
open Go.RowKit Go.Shelf Fx
def inV(a:V3)(m:Int):Bool:=inR a.x (-m) m&&(inR a.y (-m) m&&inR a.z (-m) m)
def Jg1(q:V4):Bool:=inR ((Jah [q.w,q.x,q.y,q.z]).getD 0) 4294967288 4294967304
def Jjf(b:Bd):Bool:=inR b.m 16777216 1099511627776&&(inR b.i.x 4096 562949953421312&&(inR b.i.y 4096 562949953421312&&inR b.i.z 4096 562949953421312))
def Jem(b:Bd)(fr:Int):Bool:=(decide (b.k=1)||decide (b.k=2))&&(inV b.s 4398046511104&&(Jg1 b.q&&(inR fr 0 4294967296&&(inV b.p 18014398509481984&&inV b.l 18014398509481984))))
def Jfl(b:Bd)(fr:Int)(sh:Sh):Int:=if Jem b fr then (if J9 sh=0 then (if b.k=2/\Jjf b=false then 120 else 0) else J9 sh) else 1
theorem Ja9(n a b:Int)(w:BV):
  Cd Tryz.prog 90 #[J Y n,J Y a,J Y b] w fun e w'=>e = BZ (BT (inR n a b))/\w'=w:=by
 unfold inR;by_cases h1:a<=n
 ·go_enter func90,ntmps90;go_wp2;go_ret;exact⟨by simp[h1],rfl⟩
 ·go_enter func90,ntmps90;go_wp2;go_ret;exact⟨by simp;omega,rfl⟩
theorem Jdn(a:V3)(m:Int)(W:BV)(hm:0<=m)(hm':m<=1152921504606846976):
  Cd Tryz.prog 58 #[a.val,J Y m] W fun e W'=>e = BZ (BT (inV a m))/\BU (B9 W.heap.size W W'):=by
 obtain⟨x,y,z⟩:=a;have H0:BU _:=Ja9 x (-m) m;have H1:BU _:=Ja9 y (-m) m;have H2:BU _:=Ja9 z (-m) m;have HB:BU _:=Jb W (BP #[J Y x,J Y y,J Y z] 27);have e0:IntKind.i64.wrap (-m) = -m:=by rw[IntKind.wrap_i64];omega
 unfold inV;dsimp only;generalize inR x (-m) m=c0 at *;generalize inR y (-m) m=c1 at *;generalize inR z (-m) m=c2 at *;cases c0 with
 | false =>
  go_enter func58,ntmps58;go_wp2_with (fail);refine JA (H0.out _) ?_;rintro e w0 ⟨rfl,rfl⟩;go_wp2_with (fail);go_ret;exact⟨by simp,HB⟩
 | true =>
  cases c1 with
  | false =>
   go_enter func58,ntmps58;go_wp2_with (fail);refine JA (H0.out _) ?_;rintro e w0 ⟨rfl,rfl⟩;go_wp2_with (fail);refine JA (H1.out _) ?_;rintro e w1 ⟨rfl,rfl⟩;go_wp2_with (fail);go_ret;exact⟨by simp,HB⟩
  | true =>
   go_enter func58,ntmps58;go_wp2_with (fail);refine JA (H0.out _) ?_;rintro e w0 ⟨rfl,rfl⟩;go_wp2_with (fail);refine JA (H1.out _) ?_;rintro e w1 ⟨rfl,rfl⟩;go_wp2_with (fail);refine JA (H2.out _) ?_;rintro e w2 ⟨rfl,rfl⟩;go_wp2_with (fail);go_ret;exact⟨by simp,HB⟩
theorem Jn2(q:V4)(W:BV):
  Cd Tryz.prog 89 #[q.val] W fun e W'=>e = BZ (BT (Jg1 q))/\BU (B9 W.heap.size W W'):=by
 obtain⟨V,hV⟩:∃ V,V=((W.alloc (BP #[J Y q.w,J Y q.x,J Y q.y,J Y q.z] 29)).alloc (BP #[BT false] 47)):=⟨_,rfl⟩
 have aL:=Jb W (BP #[J Y q.w,J Y q.x,J Y q.y,J Y q.z] 29);have ac:=Jb (W.alloc (BP #[J Y q.w,J Y q.x,J Y q.y,J Y q.z] 29)) (BP #[BT false] 47);have Cq:CW V (W.heap.size) [J Y q.w,J Y q.x,J Y q.y,J Y q.z]:=by
  have h9:=(CW.new W [J Y q.w,J Y q.x,J Y q.y,J Y q.z] 29).step ac;rw[hV];exact h9
 have Cw:CW V (W.heap.size+1) [BT false]:=by
  have h9:=CW.new (W.alloc (BP #[J Y q.w,J Y q.x,J Y q.y,J Y q.z] 29)) [BT false] 47;simp only[JE]at h9;rw[hV];exact h9
 have hB:B9 W.heap.size W V:=by rw[hV];exact(Jc aL ac)
 clear aL ac;have HN:BU _:=Jju (W.heap.size+1) 0 false q.w q.x q.y q.z V (Cw 0 _ rfl).1 (Cw 0 _ rfl).2;have HBT:BU _:=fun w=>Ja9 ((Jah [q.w,q.x,q.y,q.z]).getD 0) 4294967288 4294967304 w;unfold Jg1;have HB:BU _:=hB;have q0:=(Cq 0 _ rfl).1;have q1:=(Cq 1 _ rfl).1;have q2:=(Cq 2 _ rfl).1;have q3:=(Cq 3 _ rfl).1;clear Cq Cw hB;rw[hV]at q0 q1 q2 q3 HN HB;simp only[JE]at HN;clear hV;go_enter func89,ntmps89;go_wp2_with (fail);refine JA HN.out ?_;rintro e W1 ⟨v,g,rfl,SS,A⟩;obtain⟨rfl,-⟩:=SS.out;have hb:B9 W.heap.size W W1:=A.out.below _ _ HB.out (by simp) (by simp;omega);clear A SS q0 q1 q2 q3 HN;go_wp2_with (fail);refine JA (HBT.out _) ?_;rintro e W2 ⟨rfl,rfl⟩;go_wp2_with (fail);go_ret;exact⟨rfl,hb⟩
theorem Jrd(b:Bd)(W:BV):
  Cd Tryz.prog 33 #[B_ #[J Y b.m,J Y b.i.x,J Y b.i.y,J Y b.i.z]] W fun e W'=>e = BZ (BT (Jjf b))/\BU (B9 W.heap.size W W'):=by
 have H0:BU _:=Ja9 b.m 16777216 1099511627776;have H1:BU _:=Ja9 b.i.x 4096 562949953421312;have H2:BU _:=Ja9 b.i.y 4096 562949953421312;have H3:BU _:=Ja9 b.i.z 4096 562949953421312;have HB:BU _:=Jb W (BP #[J Y b.m,J Y b.i.x,J Y b.i.y,J Y b.i.z] 36);unfold Jjf;generalize inR b.m 16777216 1099511627776=c0 at *;generalize inR b.i.x 4096 562949953421312=c1 at *;generalize inR b.i.y 4096 562949953421312=c2 at *;generalize inR b.i.z 4096 562949953421312=c3 at *;cases c0 with
 | false =>
  go_enter func33,ntmps33;go_wp2_with (fail);refine JA (H0.out _) ?_;rintro e w0 ⟨rfl,rfl⟩;go_wp2_with (fail);go_ret;exact⟨by simp,HB⟩
 | true =>
  cases c1 with
  | false =>
   go_enter func33,ntmps33;go_wp2_with (fail);refine JA (H0.out _) ?_;rintro e w0 ⟨rfl,rfl⟩;go_wp2_with (fail);refine JA (H1.out _) ?_;rintro e w1 ⟨rfl,rfl⟩;go_wp2_with (fail);go_ret;exact⟨by simp,HB⟩
  | true =>
   cases c2 with
   | false =>
    go_enter func33,ntmps33;go_wp2_with (fail);refine JA (H0.out _) ?_;rintro e w0 ⟨rfl,rfl⟩;go_wp2_with (fail);refine JA (H1.out _) ?_;rintro e w1 ⟨rfl,rfl⟩;go_wp2_with (fail);refine JA (H2.out _) ?_;rintro e w2 ⟨rfl,rfl⟩;go_wp2_with (fail);go_ret;exact⟨by simp,HB⟩
   | true =>
    go_enter func33,ntmps33;go_wp2_with (fail);refine JA (H0.out _) ?_;rintro e w0 ⟨rfl,rfl⟩;go_wp2_with (fail);refine JA (H1.out _) ?_;rintro e w1 ⟨rfl,rfl⟩;go_wp2_with (fail);refine JA (H2.out _) ?_;rintro e w2 ⟨rfl,rfl⟩;go_wp2_with (fail);refine JA (H3.out _) ?_;rintro e w3 ⟨rfl,rfl⟩;go_wp2_with (fail);go_ret;exact⟨by simp,HB⟩
theorem Jls(b:Bd)(R:List B7)(fr:Int)(dO:R[8]?=some (J Y fr))(W:BV):
  Cd Tryz.prog 31 #[B_ (b.L R).toArray] W fun e W'=>e = BZ (BT (Jem b fr))/\BU (B9 W.heap.size W W'):=by
 have hfr:(b.L R)[26]?=some (J Y fr):=dO;have H1:BU _:=fun w=>Jdn b.s 4398046511104 w (by decide) (by decide);have H2:BU _:=fun w=>Jn2 b.q w;have H3:BU _:=fun w=>Ja9 fr 0 4294967296 w;have H4:BU _:=fun w=>Jdn b.p 18014398509481984 w (by decide) (by decide);have H5:BU _:=fun w=>Jdn b.l 18014398509481984 w (by decide) (by decide);have HX:BU (B9 _ _ _):=Jb W (BP (b.L R).toArray 39);have CX:BU (CW _ _ _):=CW.new W (b.L R) 39;unfold Jem;generalize inV b.s 4398046511104=c1 at *;generalize Jg1 b.q=c2 at *;generalize inR fr 0 4294967296=c3 at *;generalize inV b.p 18014398509481984=c4 at *;generalize inV b.l 18014398509481984=c5 at *;have k0:=(CX.out 0 _ rfl).1;have k1:=(CX.out 1 _ rfl).1;have k2:=(CX.out 2 _ rfl).1;have k3:=(CX.out 3 _ rfl).1;have k4:=(CX.out 4 _ rfl).1;have k5:=(CX.out 5 _ rfl).1;have k6:=(CX.out 6 _ rfl).1;have k7:=(CX.out 7 _ rfl).1;have k8:=(CX.out 8 _ rfl).1;have k9:=(CX.out 9 _ rfl).1;have iY:=(CX.out 10 _ rfl).1;have iZ:=(CX.out 11 _ rfl).1;have f_:=(CX.out 12 _ rfl).1;have i5:=(CX.out 13 _ rfl).1;have i6:=(CX.out 26 _ hfr).1;generalize aM:b.L R=cs at *;have HK:BU _:=aM;clear aM;by_cases hk12:b.k=1\/b.k=2
 ·have e0:(decide (b.k=1)||decide (b.k=2))=true:=by rcases hk12 with h | h <;> rw[h] <;> rfl
  rw[e0];rcases hk12 with h1 | h1
  all_goals
   rw[h1]at k0;cases c1 with
   | false =>
    go_enter func31,ntmps31;go_wp2_with (fail);refine JA (H1.out _) ?_;rintro e V1 ⟨rfl,ac⟩;have HX:BU (B9 _ _ _):=Jc HX.out ac.out;have CX:BU (CW _ _ _):=CX.out.step ac.out;clear ac;have k1:=(CX.out 1 _ (by rw[<- HK.out];rfl)).1;have k2:=(CX.out 2 _ (by rw[<- HK.out];rfl)).1;have k3:=(CX.out 3 _ (by rw[<- HK.out];rfl)).1;have k4:=(CX.out 4 _ (by rw[<- HK.out];rfl)).1;have k5:=(CX.out 5 _ (by rw[<- HK.out];rfl)).1;have k6:=(CX.out 6 _ (by rw[<- HK.out];rfl)).1;have k7:=(CX.out 7 _ (by rw[<- HK.out];rfl)).1;have k8:=(CX.out 8 _ (by rw[<- HK.out];rfl)).1;have k9:=(CX.out 9 _ (by rw[<- HK.out];rfl)).1;have iY:=(CX.out 10 _ (by rw[<- HK.out];rfl)).1;have iZ:=(CX.out 11 _ (by rw[<- HK.out];rfl)).1;have f_:=(CX.out 12 _ (by rw[<- HK.out];rfl)).1;have i5:=(CX.out 13 _ (by rw[<- HK.out];rfl)).1;have i6:=(CX.out 26 _ (by rw[<- HK.out];exact dO)).1;go_wp2_with (fail);go_ret;exact⟨by simp,HX⟩
   | true =>
    cases c2 with
    | false =>
     go_enter func31,ntmps31;go_wp2_with (fail);refine JA (H1.out _) ?_;rintro e V1 ⟨rfl,ac⟩;have HX:BU (B9 _ _ _):=Jc HX.out ac.out;have CX:BU (CW _ _ _):=CX.out.step ac.out;clear ac;have k1:=(CX.out 1 _ (by rw[<- HK.out];rfl)).1;have k2:=(CX.out 2 _ (by rw[<- HK.out];rfl)).1;have k3:=(CX.out 3 _ (by rw[<- HK.out];rfl)).1;have k4:=(CX.out 4 _ (by rw[<- HK.out];rfl)).1;have k5:=(CX.out 5 _ (by rw[<- HK.out];rfl)).1;have k6:=(CX.out 6 _ (by rw[<- HK.out];rfl)).1;have k7:=(CX.out 7 _ (by rw[<- HK.out];rfl)).1;have k8:=(CX.out 8 _ (by rw[<- HK.out];rfl)).1;have k9:=(CX.out 9 _ (by rw[<- HK.out];rfl)).1;have iY:=(CX.out 10 _ (by rw[<- HK.out];rfl)).1;have iZ:=(CX.out 11 _ (by rw[<- HK.out];rfl)).1;have f_:=(CX.out 12 _ (by rw[<- HK.out];rfl)).1;have i5:=(CX.out 13 _ (by rw[<- HK.out];rfl)).1;have i6:=(CX.out 26 _ (by rw[<- HK.out];exact dO)).1;go_wp2_with (fail);refine JA (H2.out _) ?_;rintro e V2 ⟨rfl,aj⟩;have HX:BU (B9 _ _ _):=Jc HX.out aj.out;have CX:BU (CW _ _ _):=CX.out.step aj.out;clear aj;have k1:=(CX.out 1 _ (by rw[<- HK.out];rfl)).1;have k2:=(CX.out 2 _ (by rw[<- HK.out];rfl)).1;have k3:=(CX.out 3 _ (by rw[<- HK.out];rfl)).1;have k4:=(CX.out 4 _ (by rw[<- HK.out];rfl)).1;have k5:=(CX.out 5 _ (by rw[<- HK.out];rfl)).1;have k6:=(CX.out 6 _ (by rw[<- HK.out];rfl)).1;have k7:=(CX.out 7 _ (by rw[<- HK.out];rfl)).1;have k8:=(CX.out 8 _ (by rw[<- HK.out];rfl)).1;have k9:=(CX.out 9 _ (by rw[<- HK.out];rfl)).1;have iY:=(CX.out 10 _ (by rw[<- HK.out];rfl)).1;have iZ:=(CX.out 11 _ (by rw[<- HK.out];rfl)).1;have f_:=(CX.out 12 _ (by rw[<- HK.out];rfl)).1;have i5:=(CX.out 13 _ (by rw[<- HK.out];rfl)).1;have i6:=(CX.out 26 _ (by rw[<- HK.out];exact dO)).1;go_wp2_with (fail);go_ret;exact⟨by simp,HX⟩
    | true =>
     cases c3 with
     | false =>
      go_enter func31,ntmps31;go_wp2_with (fail);refine JA (H1.out _) ?_;rintro e V1 ⟨rfl,ac⟩;have HX:BU (B9 _ _ _):=Jc HX.out ac.out;have CX:BU (CW _ _ _):=CX.out.step ac.out;clear ac;have k1:=(CX.out 1 _ (by rw[<- HK.out];rfl)).1;have k2:=(CX.out 2 _ (by rw[<- HK.out];rfl)).1;have k3:=(CX.out 3 _ (by rw[<- HK.out];rfl)).1;have k4:=(CX.out 4 _ (by rw[<- HK.out];rfl)).1;have k5:=(CX.out 5 _ (by rw[<- HK.out];rfl)).1;have k6:=(CX.out 6 _ (by rw[<- HK.out];rfl)).1;have k7:=(CX.out 7 _ (by rw[<- HK.out];rfl)).1;have k8:=(CX.out 8 _ (by rw[<- HK.out];rfl)).1;have k9:=(CX.out 9 _ (by rw[<- HK.out];rfl)).1;have iY:=(CX.out 10 _ (by rw[<- HK.out];rfl)).1;have iZ:=(CX.out 11 _ (by rw[<- HK.out];rfl)).1;have f_:=(CX.out 12 _ (by rw[<- HK.out];rfl)).1;have i5:=(CX.out 13 _ (by rw[<- HK.out];rfl)).1;have i6:=(CX.out 26 _ (by rw[<- HK.out];exact dO)).1;go_wp2_with (fail);refine JA (H2.out _) ?_;rintro e V2 ⟨rfl,aj⟩;have HX:BU (B9 _ _ _):=Jc HX.out aj.out;have CX:BU (CW _ _ _):=CX.out.step aj.out;clear aj;have k1:=(CX.out 1 _ (by rw[<- HK.out];rfl)).1;have k2:=(CX.out 2 _ (by rw[<- HK.out];rfl)).1;have k3:=(CX.out 3 _ (by rw[<- HK.out];rfl)).1;have k4:=(CX.out 4 _ (by rw[<- HK.out];rfl)).1;have k5:=(CX.out 5 _ (by rw[<- HK.out];rfl)).1;have k6:=(CX.out 6 _ (by rw[<- HK.out];rfl)).1;have k7:=(CX.out 7 _ (by rw[<- HK.out];rfl)).1;have k8:=(CX.out 8 _ (by rw[<- HK.out];rfl)).1;have k9:=(CX.out 9 _ (by rw[<- HK.out];rfl)).1;have iY:=(CX.out 10 _ (by rw[<- HK.out];rfl)).1;have iZ:=(CX.out 11 _ (by rw[<- HK.out];rfl)).1;have f_:=(CX.out 12 _ (by rw[<- HK.out];rfl)).1;have i5:=(CX.out 13 _ (by rw[<- HK.out];rfl)).1;have i6:=(CX.out 26 _ (by rw[<- HK.out];exact dO)).1;go_wp2_with (fail);refine JA (H3.out _) ?_;rintro e V3 ⟨rfl,rfl⟩;go_wp2_with (fail);go_ret;exact⟨by simp,HX⟩
     | true =>
      cases c4 with
      | false =>
       go_enter func31,ntmps31;go_wp2_with (fail);refine JA (H1.out _) ?_;rintro e V1 ⟨rfl,ac⟩;have HX:BU (B9 _ _ _):=Jc HX.out ac.out;have CX:BU (CW _ _ _):=CX.out.step ac.out;clear ac;have k1:=(CX.out 1 _ (by rw[<- HK.out];rfl)).1;have k2:=(CX.out 2 _ (by rw[<- HK.out];rfl)).1;have k3:=(CX.out 3 _ (by rw[<- HK.out];rfl)).1;have k4:=(CX.out 4 _ (by rw[<- HK.out];rfl)).1;have k5:=(CX.out 5 _ (by rw[<- HK.out];rfl)).1;have k6:=(CX.out 6 _ (by rw[<- HK.out];rfl)).1;have k7:=(CX.out 7 _ (by rw[<- HK.out];rfl)).1;have k8:=(CX.out 8 _ (by rw[<- HK.out];rfl)).1;have k9:=(CX.out 9 _ (by rw[<- HK.out];rfl)).1;have iY:=(CX.out 10 _ (by rw[<- HK.out];rfl)).1;have iZ:=(CX.out 11 _ (by rw[<- HK.out];rfl)).1;have f_:=(CX.out 12 _ (by rw[<- HK.out];rfl)).1;have i5:=(CX.out 13 _ (by rw[<- HK.out];rfl)).1;have i6:=(CX.out 26 _ (by rw[<- HK.out];exact dO)).1;go_wp2_with (fail);refine JA (H2.out _) ?_;rintro e V2 ⟨rfl,aj⟩;have HX:BU (B9 _ _ _):=Jc HX.out aj.out;have CX:BU (CW _ _ _):=CX.out.step aj.out;clear aj;have k1:=(CX.out 1 _ (by rw[<- HK.out];rfl)).1;have k2:=(CX.out 2 _ (by rw[<- HK.out];rfl)).1;have k3:=(CX.out 3 _ (by rw[<- HK.out];rfl)).1;have k4:=(CX.out 4 _ (by rw[<- HK.out];rfl)).1;have k5:=(CX.out 5 _ (by rw[<- HK.out];rfl)).1;have k6:=(CX.out 6 _ (by rw[<- HK.out];rfl)).1;have k7:=(CX.out 7 _ (by rw[<- HK.out];rfl)).1;have k8:=(CX.out 8 _ (by rw[<- HK.out];rfl)).1;have k9:=(CX.out 9 _ (by rw[<- HK.out];rfl)).1;have iY:=(CX.out 10 _ (by rw[<- HK.out];rfl)).1;have iZ:=(CX.out 11 _ (by rw[<- HK.out];rfl)).1;have f_:=(CX.out 12 _ (by rw[<- HK.out];rfl)).1;have i5:=(CX.out 13 _ (by rw[<- HK.out];rfl)).1;have i6:=(CX.out 26 _ (by rw[<- HK.out];exact dO)).1;go_wp2_with (fail);refine JA (H3.out _) ?_;rintro e V3 ⟨rfl,rfl⟩;go_wp2_with (fail);refine JA (H4.out _) ?_;rintro e V4 ⟨rfl,bM⟩;have HX:BU (B9 _ _ _):=Jc HX.out bM.out;have CX:BU (CW _ _ _):=CX.out.step bM.out;clear bM;have k1:=(CX.out 1 _ (by rw[<- HK.out];rfl)).1;have k2:=(CX.out 2 _ (by rw[<- HK.out];rfl)).1;have k3:=(CX.out 3 _ (by rw[<- HK.out];rfl)).1;have k4:=(CX.out 4 _ (by rw[<- HK.out];rfl)).1;have k5:=(CX.out 5 _ (by rw[<- HK.out];rfl)).1;have k6:=(CX.out 6 _ (by rw[<- HK.out];rfl)).1;have k7:=(CX.out 7 _ (by rw[<- HK.out];rfl)).1;have k8:=(CX.out 8 _ (by rw[<- HK.out];rfl)).1;have k9:=(CX.out 9 _ (by rw[<- HK.out];rfl)).1;have iY:=(CX.out 10 _ (by rw[<- HK.out];rfl)).1;have iZ:=(CX.out 11 _ (by rw[<- HK.out];rfl)).1;have f_:=(CX.out 12 _ (by rw[<- HK.out];rfl)).1;have i5:=(CX.out 13 _ (by rw[<- HK.out];rfl)).1;have i6:=(CX.out 26 _ (by rw[<- HK.out];exact dO)).1;go_wp2_with (fail);go_ret;exact⟨by simp,HX⟩
      | true =>
       go_enter func31,ntmps31;go_wp2_with (fail);refine JA (H1.out _) ?_;rintro e V1 ⟨rfl,ac⟩;have HX:BU (B9 _ _ _):=Jc HX.out ac.out;have CX:BU (CW _ _ _):=CX.out.step ac.out;clear ac;have k1:=(CX.out 1 _ (by rw[<- HK.out];rfl)).1;have k2:=(CX.out 2 _ (by rw[<- HK.out];rfl)).1;have k3:=(CX.out 3 _ (by rw[<- HK.out];rfl)).1;have k4:=(CX.out 4 _ (by rw[<- HK.out];rfl)).1;have k5:=(CX.out 5 _ (by rw[<- HK.out];rfl)).1;have k6:=(CX.out 6 _ (by rw[<- HK.out];rfl)).1;have k7:=(CX.out 7 _ (by rw[<- HK.out];rfl)).1;have k8:=(CX.out 8 _ (by rw[<- HK.out];rfl)).1;have k9:=(CX.out 9 _ (by rw[<- HK.out];rfl)).1;have iY:=(CX.out 10 _ (by rw[<- HK.out];rfl)).1;have iZ:=(CX.out 11 _ (by rw[<- HK.out];rfl)).1;have f_:=(CX.out 12 _ (by rw[<- HK.out];rfl)).1;have i5:=(CX.out 13 _ (by rw[<- HK.out];rfl)).1;have i6:=(CX.out 26 _ (by rw[<- HK.out];exact dO)).1;go_wp2_with (fail);refine JA (H2.out _) ?_;rintro e V2 ⟨rfl,aj⟩;have HX:BU (B9 _ _ _):=Jc HX.out aj.out;have CX:BU (CW _ _ _):=CX.out.step aj.out;clear aj;have k1:=(CX.out 1 _ (by rw[<- HK.out];rfl)).1;have k2:=(CX.out 2 _ (by rw[<- HK.out];rfl)).1;have k3:=(CX.out 3 _ (by rw[<- HK.out];rfl)).1;have k4:=(CX.out 4 _ (by rw[<- HK.out];rfl)).1;have k5:=(CX.out 5 _ (by rw[<- HK.out];rfl)).1;have k6:=(CX.out 6 _ (by rw[<- HK.out];rfl)).1;have k7:=(CX.out 7 _ (by rw[<- HK.out];rfl)).1;have k8:=(CX.out 8 _ (by rw[<- HK.out];rfl)).1;have k9:=(CX.out 9 _ (by rw[<- HK.out];rfl)).1;have iY:=(CX.out 10 _ (by rw[<- HK.out];rfl)).1;have iZ:=(CX.out 11 _ (by rw[<- HK.out];rfl)).1;have f_:=(CX.out 12 _ (by rw[<- HK.out];rfl)).1;have i5:=(CX.out 13 _ (by rw[<- HK.out];rfl)).1;have i6:=(CX.out 26 _ (by rw[<- HK.out];exact dO)).1;go_wp2_with (fail);refine JA (H3.out _) ?_;rintro e V3 ⟨rfl,rfl⟩;go_wp2_with (fail);refine JA (H4.out _) ?_;rintro e V4 ⟨rfl,bM⟩;have HX:BU (B9 _ _ _):=Jc HX.out bM.out;have CX:BU (CW _ _ _):=CX.out.step bM.out;clear bM;have k1:=(CX.out 1 _ (by rw[<- HK.out];rfl)).1;have k2:=(CX.out 2 _ (by rw[<- HK.out];rfl)).1;have k3:=(CX.out 3 _ (by rw[<- HK.out];rfl)).1;have k4:=(CX.out 4 _ (by rw[<- HK.out];rfl)).1;have k5:=(CX.out 5 _ (by rw[<- HK.out];rfl)).1;have k6:=(CX.out 6 _ (by rw[<- HK.out];rfl)).1;have k7:=(CX.out 7 _ (by rw[<- HK.out];rfl)).1;have k8:=(CX.out 8 _ (by rw[<- HK.out];rfl)).1;have k9:=(CX.out 9 _ (by rw[<- HK.out];rfl)).1;have iY:=(CX.out 10 _ (by rw[<- HK.out];rfl)).1;have iZ:=(CX.out 11 _ (by rw[<- HK.out];rfl)).1;have f_:=(CX.out 12 _ (by rw[<- HK.out];rfl)).1;have i5:=(CX.out 13 _ (by rw[<- HK.out];rfl)).1;have i6:=(CX.out 26 _ (by rw[<- HK.out];exact dO)).1;go_wp2_with (fail);refine JA (H5.out _) ?_;rintro e V5 ⟨rfl,cB⟩;have HX:BU (B9 _ _ _):=Jc HX.out cB.out;have CX:BU (CW _ _ _):=CX.out.step cB.out;clear cB;have k1:=(CX.out 1 _ (by rw[<- HK.out];rfl)).1;have k2:=(CX.out 2 _ (by rw[<- HK.out];rfl)).1;have k3:=(CX.out 3 _ (by rw[<- HK.out];rfl)).1;have k4:=(CX.out 4 _ (by rw[<- HK.out];rfl)).1;have k5:=(CX.out 5 _ (by rw[<- HK.out];rfl)).1;have k6:=(CX.out 6 _ (by rw[<- HK.out];rfl)).1;have k7:=(CX.out 7 _ (by rw[<- HK.out];rfl)).1;have k8:=(CX.out 8 _ (by rw[<- HK.out];rfl)).1;have k9:=(CX.out 9 _ (by rw[<- HK.out];rfl)).1;have iY:=(CX.out 10 _ (by rw[<- HK.out];rfl)).1;have iZ:=(CX.out 11 _ (by rw[<- HK.out];rfl)).1;have f_:=(CX.out 12 _ (by rw[<- HK.out];rfl)).1;have i5:=(CX.out 13 _ (by rw[<- HK.out];rfl)).1;have i6:=(CX.out 26 _ (by rw[<- HK.out];exact dO)).1;go_wp2_with (fail);go_ret;exact⟨by simp,HX⟩
 ·have h1:¬ b.k=1:=fun h=>hk12 (Or.inl h);have h2:¬ b.k=2:=fun h=>hk12 (Or.inr h);have e0:(decide (b.k=1)||decide (b.k=2))=false:=by rw[decide_eq_false h1,decide_eq_false h2];rfl
  have e1:(b.k == 1)=false:=by simpa using h1
  have e2:(b.k == 2)=false:=by simpa using h2
  rw[e0];go_enter func31,ntmps31;go_wp2_with (fail);go_ret;exact⟨by simp,HX⟩
theorem Jkc(b:Bd)(R:List B7)(W:BV):
  Cd Tryz.prog 14 #[B_ (b.L R).toArray] W fun e W'=>e = BZ (BT (!inV b.s 4398046511104))/\BU (B9 W.heap.size W W'):=by
 have H1:BU _:=fun w=>Jdn b.s 4398046511104 w (by decide) (by decide);have HX:BU (B9 _ _ _):=Jb W (BP (b.L R).toArray 39);have CX:BU (CW _ _ _):=CW.new W (b.L R) 39;have k1:=(CX.out 1 _ rfl).1;have k2:=(CX.out 2 _ rfl).1;have k3:=(CX.out 3 _ rfl).1;generalize inV b.s 4398046511104=c1 at *;generalize b.L R=cs at *;go_enter func14,ntmps14;go_wp2_with (fail);refine JA (H1.out _) ?_;rintro e V1 ⟨rfl,hb⟩;go_wp2_with (fail);go_ret;exact⟨rfl,Jc HX.out hb.out⟩
structure Rs where
 sh:Sh
 g:Int
 ma:Int
 fr:Int
 fa:Bool
 qu:Int
 al:Bool
 ou:Bool
def Rs.l(r:Rs)(pv:B7):List B7:=[J Y r.sh.kind,J Y r.sh.radius,J Y r.sh.half.x,J Y r.sh.half.y,J Y r.sh.half.z,pv,J Y r.g,J Y r.ma,J Y r.fr,BT r.fa,J Y r.qu,BT r.al,BT r.ou]
theorem Rs.rest(r:Rs){pv:B7}(h:pv.oneCell'=true):RestP (r.l pv) pv:=by
 refine⟨⟨rfl,fun v hv=>?_⟩,rfl⟩;simp only[Rs.l,List.mem_cons,List.not_mem_nil,or_false]at hv;rcases hv with rfl | rfl | rfl | rfl | rfl | rfl | rfl | rfl | rfl | rfl | rfl | rfl | rfl
 all_goals first | rfl | exact h
theorem Rs.set(r:Rs)(pv u:B7):(r.l pv).set 5 u=r.l u:=rfl
theorem Jdd(b:Bd)(r:Rs)(pv:B7)(W:BV)(hv:Lies W pv r.sh.pts):
  Cd Tryz.prog 11 #[B_ (b.L (r.l pv)).toArray] W fun e W'=>e = BZ (J Y (Jfl b r.fr r.sh))/\BU (B9 W.heap.size W W'):=by
 have HX:BU (B9 _ _ _):=Jb W (BP (b.L (r.l pv)).toArray 39);have CX:BU (CW _ _ _):=CW.new W (b.L (r.l pv)) 39;have hz:BU ((Tryz.prog.info? 39).map (·.size)=some (b.L (r.l pv)).length):=Jj (r.rest (by obtain⟨o,c,rfl,_⟩:=hv.form;rfl)).rest b;have au:BU _:=CX.out.range;have HF:BU _:=fun w=>Jls b (r.l pv) r.fr rfl w;have HV:BU (Lies _ _ _):=hv.below HX.out;have HM:BU _:=fun w=>Jrd b w;have HS:BU _:=fun w h=>Jq3 r.sh pv w h;unfold Sh.v at HS;unfold Jfl;obtain⟨o,c,ld,_⟩:=hv.form;generalize Jem b r.fr=ff at *;generalize Jjf b=mm at *;generalize J9 r.sh=cc at *;clear hv;cases ff with
 | false =>
  generalize b.L (r.l pv)=cs at *;go_enter func11,ntmps11;go_wp2_with (refine wpList_load_mid rfl 39 _ rfl W.heap.size 0 rfl _ _ au.out underlying39 rfl hz.out ?_);refine JA (HF.out _) ?_;rintro e V1 ⟨rfl,hb⟩;go_wp2_with (fail);go_ret;exact⟨rfl,Jc HX.out hb.out⟩
 | true =>
  obtain⟨cs,aM⟩:∃ cs,cs=b.L (r.l pv):=⟨_,rfl⟩
  rw[<- aM]at HX CX hz au HF HV ⊢;have bH:BU _:=aM;clear aM;go_enter func11,ntmps11;go_wp2_with (refine wpList_load_mid rfl 39 _ rfl W.heap.size 0 rfl _ _ au.out underlying39 rfl hz.out ?_);refine JA (HF.out _) ?_;rintro e V1 ⟨rfl,hb⟩;have HX:BU (B9 _ _ _):=Jc HX.out hb.out;have CX:BU (CW _ _ _):=CX.out.step hb.out;have HV:BU (Lies _ _ _):=HV.out.below hb.out;rw[bH.out]at CX;have k18:=(CX.out 18 _ rfl).1;have k19:=(CX.out 19 _ rfl).1;have k20:=(CX.out 20 _ rfl).1;have k21:=(CX.out 21 _ rfl).1;have k22:=(CX.out 22 _ rfl).1;have uV:=(CX.out 23 _ rfl).1;rw[ld]at uV;have bG:BU _:=HS.out _ HV.out;rw[ld]at bG;clear hb au HF HS HV;go_wp2_with (fail);refine JA bG.out ?_;rintro e V2 ⟨rfl,hb⟩;have HX:BU (B9 _ _ _):=Jc HX.out hb;have CX:BU (CW _ _ _):=CX.out.step hb;clear hb bG k18 k19 k20 k21 k22 uV;by_cases hc:cc=0
  ·subst hc;have k0:=(CX.out 0 _ rfl).1;have ke:=(CX.out 14 _ rfl).1;have kf:=(CX.out 15 _ rfl).1;have kg:=(CX.out 16 _ rfl).1;have kh:=(CX.out 17 _ rfl).1;by_cases hk:b.k=2
   ·rw[hk]at k0;go_wp2_with (fail);refine JA (HM.out _) ?_;rintro e V3 ⟨rfl,hb⟩;clear k0 ke kf kg kh;cases mm with
    | false =>
     go_wp2_with (fail);go_ret;exact⟨by simp,Jc HX.out hb.out⟩
    | true =>
     go_wp2_with (fail);go_ret;exact⟨by simp,Jc HX.out hb.out⟩
   ·have mK:(b.k == 2)=false:=by simpa using hk
    go_wp2_with (fail);go_ret;exact⟨by simp,HX⟩
  ·have bF:(cc == 0)=false:=by simpa using hc
   go_wp2_with (fail);go_ret;exact⟨by simp,HX⟩
def eb0:Bd:=⟨2,⟨0,0,0⟩,⟨4294967296,0,0,0⟩,⟨0,0,0⟩,⟨0,0,0⟩,8589934592,⟨4294967296,4294967296,4294967296⟩⟩
def er0:Rs:=⟨⟨1,9,⟨0,0,0⟩,[]⟩,0,0,0,false,0,false,false⟩
def eb1:Bd:=eb0.wp ⟨17179869184,0,0⟩
def ebz:Bd:=⟨0,⟨0,0,0⟩,⟨0,0,0,0⟩,⟨0,0,0⟩,⟨0,0,0⟩,0,⟨0,0,0⟩⟩
def erz:Rs:=⟨⟨0,0,⟨0,0,0⟩,[]⟩,0,0,0,false,0,false,false⟩
theorem Jma:Jah [4294967296,0,0,0]=some 4294967296:=by
 have e:((isq (Jaf [4294967296,0,0,0] [4294967296,0,0,0]).toNat:Nat):Int)=4294967296:=(isq_of (X:=Jaf [4294967296,0,0,0] [4294967296,0,0,0]) (by decide) (by decide) (by decide)).symm;unfold Jah;rw[if_neg (by decide),if_neg (by decide),e];decide
theorem Jtr:ifB eb0 (Jcc eb0 ⟨0,0,0⟩ ⟨17179869184,0,0⟩)=eb1:=by kernel_rfl
theorem Jrq:Jav eb0.k (Jmd eb0 ⟨0,0,0⟩ ⟨17179869184,0,0⟩)=false:=by kernel_rfl
theorem Jtb:if2 eb1.k (Jap eb1)=⟨8589934592,0,0⟩:=by kernel_rfl
theorem Jq9:Jav eb1.k (Jcm eb1)=false:=by kernel_rfl
theorem Jtu:Jae eb1 4294967296=⟨0,0,0⟩:=by kernel_rfl
theorem Js4:(ifB eb1 (goD eb1 4294967296)).s=⟨8589934592,0,0⟩:=by kernel_rfl
theorem Jtq:Jgg ⟨4294967296,0,0,0⟩ ⟨0,0,0⟩=false:=by
 have t:Jh 4294967296 0 0 0 4294967296 0 0 0=false:=by kernel_rfl
 have t0:Jas 4294967296 0 0 0 4294967296 0 0 0=4294967296:=by kernel_rfl
 have t1:Jat 4294967296 0 0 0 4294967296 0 0 0=0:=by kernel_rfl
 have t2:Jar 4294967296 0 0 0 4294967296 0 0 0=0:=by kernel_rfl
 have t3:Jaq 4294967296 0 0 0 4294967296 0 0 0=0:=by kernel_rfl
 unfold Jgg Jb0;dsimp only;rw[t,t0,t1,t2,t3];simp only[cond_false];unfold Jr;rw[Jma]
 rfl
theorem Jvo:Jav eb1.k (goB eb1 4294967296)=false:=by
 have h1:Jkd eb1 4294967296=false:=by kernel_rfl
 have h2:Jbh eb1.s (Jab eb1 4294967296)=false:=by kernel_rfl
 have h3:eb1.q=⟨4294967296,0,0,0⟩:=rfl;unfold Jav goB;rw[if_pos (show eb1.k=2 from rfl),h1,h2,Jtu,h3,Jtq]
 rfl
theorem Jsm:Jfl eb0 er0.fr er0.sh=0:=by
 have h:Jg1 eb0.q=true:=by
  unfold Jg1;have:Jah [eb0.q.w,eb0.q.x,eb0.q.y,eb0.q.z]=some 4294967296:=Jma;rw[this];rfl
 have hf:Jem eb0 er0.fr=true:=by
  unfold Jem;rw[h];rfl
 unfold Jfl;rw[hf];rfl
theorem Jqf:Jfl ebz erz.fr erz.sh=1:=by
 have hf:Jem ebz erz.fr=false:=by unfold Jem;rfl
 unfold Jfl;rw[hf];rfl
theorem Jgh(w:BV):Lies w (BQ none 0 0) []:=Lies.of_row (base:=0) (World.ownsRow_nil _ _ _ _)
theorem Lies.any_nil{W W':BV}{v:B7}(h:Lies W v []):Lies W' v []:=by
 obtain⟨o,c,e,h1,h2,_⟩:=h.form;exact⟨o,c,e,h1,h2,fun i hi=>by simp at hi⟩
theorem Jtc:RestP (er0.l (BQ none 0 0)) (BQ none 0 0):=er0.rest rfl
theorem Jb3(W:BV)(us:List B7)(hu:us.length=31):
  CW ((W.alloc (BP #[J Y 0,J Y 0,J Y 0,J Y 0,J Y 0,J Y 0,J Y 0,J Y 0,J Y 0,J Y 0,J Y 0,J Y 0,J Y 0,J Y 0,J Y 0,J Y 0,J Y 0,J Y 0,J Y 0,J Y 0,J Y 0,J Y 0,J Y 0,BQ none 0 0,J Y 0,J Y 0,J Y 0,BT false,J Y 0,BT false,BT false] 39)).setCells W.heap.size 0 us) W.heap.size us/\B9 W.heap.size W ((W.alloc (BP #[J Y 0,J Y 0,J Y 0,J Y 0,J Y 0,J Y 0,J Y 0,J Y 0,J Y 0,J Y 0,J Y 0,J Y 0,J Y 0,J Y 0,J Y 0,J Y 0,J Y 0,J Y 0,J Y 0,J Y 0,J Y 0,J Y 0,J Y 0,BQ none 0 0,J Y 0,J Y 0,J Y 0,BT false,J Y 0,BT false,BT false] 39)).setCells W.heap.size 0 us)/\((W.alloc (BP #[J Y 0,J Y 0,J Y 0,J Y 0,J Y 0,J Y 0,J Y 0,J Y 0,J Y 0,J Y 0,J Y 0,J Y 0,J Y 0,J Y 0,J Y 0,J Y 0,J Y 0,J Y 0,J Y 0,J Y 0,J Y 0,J Y 0,J Y 0,BQ none 0 0,J Y 0,J Y 0,J Y 0,BT false,J Y 0,BT false,BT false] 39)).setCells W.heap.size 0 us).heap.size=W.heap.size+1/\World.there (W.alloc (BP #[J Y 0,J Y 0,J Y 0,J Y 0,J Y 0,J Y 0,J Y 0,J Y 0,J Y 0,J Y 0,J Y 0,J Y 0,J Y 0,J Y 0,J Y 0,J Y 0,J Y 0,J Y 0,J Y 0,J Y 0,J Y 0,J Y 0,J Y 0,BQ none 0 0,J Y 0,J Y 0,J Y 0,BT false,J Y 0,BT false,BT false] 39)) W.heap.size 0 us.toArray.size:=by
 have C:=CW.new W [J Y 0,J Y 0,J Y 0,J Y 0,J Y 0,J Y 0,J Y 0,J Y 0,J Y 0,J Y 0,J Y 0,J Y 0,J Y 0,J Y 0,J Y 0,J Y 0,J Y 0,J Y 0,J Y 0,J Y 0,J Y 0,J Y 0,J Y 0,BQ none 0 0,J Y 0,J Y 0,J Y 0,BT false,J Y 0,BT false,BT false] 39;refine⟨C.sets (by rw[hu];rfl),(Jb W _).trans (Jbd (Nat.le_refl _) _ _ _),by rw[Jfv,JE],?_⟩;have e:us.toArray.size=31:=by rw[List.size_toArray,hu]
 rw[e];exact C.there
theorem Jhk(W:BV):Cd Tryz.prog 34 #[] W fun e W'=>e = BZ (BT true)/\BU (B9 W.heap.size W W'):=by
 have d_:=Jtc;have eW:BU _:=Jj d_.rest eb0;have dG:BU ((Tryz.prog.info? 39).map (·.size)=some (#[J Y 2,J Y 0,J Y 0,J Y 0,J Y 4294967296,J Y 0,J Y 0,J Y 0,J Y 0,J Y 0,J Y 0,J Y 0,J Y 0,J Y 0,J Y 8589934592,J Y 4294967296,J Y 4294967296,J Y 4294967296,J Y 1,J Y 9,J Y 0,J Y 0,J Y 0,BQ none 0 0,J Y 0,J Y 0,J Y 0,BT false,J Y 0,BT false,BT false]:Array B7).size):=Jn d_.rest eb0;have gY:BU ((#[J Y 2,J Y 0,J Y 0,J Y 0,J Y 4294967296,J Y 0,J Y 0,J Y 0,J Y 0,J Y 0,J Y 0,J Y 0,J Y 0,J Y 0,J Y 8589934592,J Y 4294967296,J Y 4294967296,J Y 4294967296,J Y 1,J Y 9,J Y 0,J Y 0,J Y 0,BQ none 0 0,J Y 0,J Y 0,J Y 0,BT false,J Y 0,BT false,BT false]:Array B7).all (·.oneCell')=true):=d_.rest.each eb0;obtain⟨X0,iB⟩:∃ X,X=(W.alloc (BP #[J Y 0,J Y 0,J Y 0,J Y 0,J Y 0,J Y 0,J Y 0,J Y 0,J Y 0,J Y 0,J Y 0,J Y 0,J Y 0,J Y 0,J Y 0,J Y 0,J Y 0,J Y 0,J Y 0,J Y 0,J Y 0,J Y 0,J Y 0,BQ none 0 0,J Y 0,J Y 0,J Y 0,BT false,J Y 0,BT false,BT false] 39)).setCells W.heap.size 0 ([J Y 2,J Y 0,J Y 0,J Y 0,J Y 4294967296,J Y 0,J Y 0,J Y 0,J Y 0,J Y 0,J Y 0,J Y 0,J Y 0,J Y 0,J Y 8589934592,J Y 4294967296,J Y 4294967296,J Y 4294967296,J Y 1,J Y 9,J Y 0,J Y 0,J Y 0,BQ none 0 0,J Y 0,J Y 0,J Y 0,BT false,J Y 0,BT false,BT false]):=⟨_,rfl⟩
 obtain⟨xn,xo,xp,AE⟩:=Jb3 W ([J Y 2,J Y 0,J Y 0,J Y 0,J Y 4294967296,J Y 0,J Y 0,J Y 0,J Y 0,J Y 0,J Y 0,J Y 0,J Y 0,J Y 0,J Y 8589934592,J Y 4294967296,J Y 4294967296,J Y 4294967296,J Y 1,J Y 9,J Y 0,J Y 0,J Y 0,BQ none 0 0,J Y 0,J Y 0,J Y 0,BT false,J Y 0,BT false,BT false]) rfl;rw[<- iB]at xn xo xp;have q_:BU (World.there _ _ _ _):=AE;clear AE;obtain⟨V,hV⟩:∃ V,V=X0.alloc (BP #[BT false] 47):=⟨_,rfl⟩
 have lq:B9 X0.heap.size X0 V:=by rw[hV];exact Jb _ _
 have Cw:CW V X0.heap.size [BT false]:=by rw[hV];exact CW.new _ [BT false] 47
 have Cb:CW V W.heap.size (eb0.L (er0.l (BQ none 0 0))):=xn.step lq;have HB:BU (B9 _ _ _):=Jc xo lq;clear xn xo;go_enter func34,ntmps34;go_upto_region 2 with (refine wpList_store_mid rfl 39 _ _ rfl W.heap.size 0 _ rfl rfl q_.out dG.out gY.out ?_);rw[<- iB];obtain⟨pb,aF⟩:∃ p,p=W.heap.size:=⟨_,rfl⟩
 rw[<- aF]at Cb xp ⊢;have s1:X0.heap.size<=pb+1:=by omega
 have s2:pb+1<=X0.heap.size:=by omega
 have dB:W.heap.size<=pb:=by omega
 clear iB q_ dG gY aF xp;go_upto_region 3 with fail;rw[<- hV];obtain⟨pw,bE⟩:∃ p,p=X0.heap.size:=⟨_,rfl⟩
 rw[<- bE]at Cw ⊢;have nb:pb≠pw:=by omega
 have uW:W.heap.size<=pw:=by omega
 clear hV bE lq s1 s2;have hc:=(Cw 0 _ rfl).1;have hf:=(Cw 0 _ rfl).2;have au:BU (World.rangeAt V pb 0 (eb0.L (er0.l (BQ none 0 0)))):=Cb.range;have bo:BU _:=Jli pw 0 false eb0 (er0.l (BQ none 0 0)) (BQ none 0 0) [] ⟨0,0,0⟩ ⟨17179869184,0,0⟩ d_ V hc hf (Jgh V) (by simp);rw[Jtr,Jrq]at bo;have uX:BU (CW _ _ _):=Cb;generalize hcs0:eb0.L (er0.l (BQ none 0 0))=pQ at *;have rc:BU _:=hcs0;clear hcs0;go_wp2_with (refine wpList_load_mid rfl 39 _ rfl pb 0 rfl _ _ au.out underlying39 rfl eW.out ?_);refine JA bo.out ?_;rintro e V1 ⟨u,rfl,A,HO⟩;have kt:=d_.set (Jbb HO.out);have hA:=A.out;rw[Bool.or_false]at hA;have gg:BU _:=Jj kt.rest eb1;have fq:BU _:=Jn kt.rest eb1;have oh:BU _:=kt.rest.each eb1;obtain⟨X1,ef⟩:∃ X,X=(V1.alloc (BP #[J Y 0,J Y 0,J Y 0,J Y 0,J Y 0,J Y 0,J Y 0,J Y 0,J Y 0,J Y 0,J Y 0,J Y 0,J Y 0,J Y 0,J Y 0,J Y 0,J Y 0,J Y 0,J Y 0,J Y 0,J Y 0,J Y 0,J Y 0,BQ none 0 0,J Y 0,J Y 0,J Y 0,BT false,J Y 0,BT false,BT false] 39)).setCells V1.heap.size 0 (eb1.L ((er0.l (BQ none 0 0)).set 5 u)):=⟨_,rfl⟩
 obtain⟨rU,oV,AF,AG⟩:=Jb3 V1 (eb1.L ((er0.l (BQ none 0 0)).set 5 u)) (kt.rest.all _);rw[<- ef]at rU oV AF;have rd:BU (World.there _ _ _ _):=AG;clear AG;have zi:BU (CW _ _ _):=(uX.out.after hA nb).step oV;have bU:=Ja oV hA.cell;have eK:=Jm oV hA.cell hA.frozen;have bK:BU (B9 _ _ _):=Jc (hA.below _ _ HB.out uW HB.out.size) oV;have te:Lies X1 u ([]:List Pt):=(Lies.of_row HO.out).below oV;obtain⟨p1,fj⟩:∃ p,p=V1.heap.size:=⟨_,rfl⟩
 have n1:p1≠pw:=by have:=JB _ _ hA.cell;rw[fj];exact Nat.ne_of_gt this
 have nb1:p1≠pb:=by have h9:=(uX.out.after hA nb);have h8:=JB _ _ (h9 0 _ (by rw[<- rc.out];rfl)).1;rw[fj];exact Nat.ne_of_gt h8
 clear bo A hA HO Cw Cb HB uX au hc hf;generalize hcs1:eb1.L ((er0.l (BQ none 0 0)).set 5 u)=cs1 at *;have rf:BU _:=hcs1;clear hcs1;go_upto_region 4 with (refine wpList_store_mid rfl 39 _ _ rfl V1.heap.size 0 _ rfl rfl rd.out fq.out oh.out ?_);rw[<- ef,<- fj];rw[<- fj]at rU;clear ef fj rd AF oV fq oh;have rg:BU (World.rangeAt X1 p1 0 cs1):=rU.range;have cC:BU _:=Jg7 pw 0 false eb1 ((er0.l (BQ none 0 0)).set 5 u) kt.rest X1 bU eK;rw[Jtb,Jq9,rf.out]at cC;go_wp2_with (refine wpList_load_mid rfl 39 _ rfl p1 0 rfl _ _ rg.out underlying39 rfl gg.out ?_);refine JA cC.out ?_;rintro e V2 ⟨rfl,A⟩;have hA:=A.out;rw[Bool.or_false]at hA;go_upto_region 5 with fail;obtain⟨X2,fP⟩:∃ X,X=V2.alloc (BP #[J Y 8589934592,J Y 0,J Y 0] 27):=⟨_,rfl⟩
 rw[<- fP];have aj:B9 V2.heap.size V2 X2:=by rw[fP];exact Jb _ _
 have Cv:CW X2 V2.heap.size [J Y 8589934592,J Y 0,J Y 0]:=by rw[fP];exact CW.new V2 [J Y 8589934592,J Y 0,J Y 0] 27
 obtain⟨p2,gV⟩:∃ p,p=V2.heap.size:=⟨_,rfl⟩
 rw[<- gV]at Cv ⊢;have n2:p2≠pw:=by have:=JB _ _ hA.cell;rw[gV];exact Nat.ne_of_gt this
 have zj:BU (CW _ _ _):=(zi.out.after hA nb).step aj;have zk:=(rU.after hA n1).step aj;have bF:=Ja aj hA.cell;have b_:=Jm aj hA.cell hA.frozen;have aZ:BU (B9 _ _ _):=Jc (hA.below _ _ bK.out uW bK.out.size) aj;have l_:Lies X2 u ([]:List Pt):=te.any_nil;clear fP gV aj A hA cC bK te rU zi rg bU eK;have bJ:BU (World.rangeAt X2 p1 0 cs1):=zk.range;have uY:BU _:=Jny pw 0 false eb1 ((er0.l (BQ none 0 0)).set 5 u) u [] 4294967296 (by decide) kt X2 bF b_ l_ (by simp);rw[Jvo,rf.out]at uY;go_wp2_with (refine wpList_load_mid rfl 39 _ rfl p1 0 rfl _ _ bJ.out underlying39 rfl gg.out ?_);refine JA uY.out ?_;rintro e V3 ⟨u2,rfl,A,HO⟩;have uZ:=kt.set (Jbb HO.out);have hA:=A.out;rw[Bool.or_false]at hA;have cd:BU _:=Jn uZ.rest (ifB eb1 (goD eb1 4294967296));have bW:BU _:=uZ.rest.each (ifB eb1 (goD eb1 4294967296));obtain⟨X3,xq⟩:∃ X,X=(V3.alloc (BP #[J Y 0,J Y 0,J Y 0,J Y 0,J Y 0,J Y 0,J Y 0,J Y 0,J Y 0,J Y 0,J Y 0,J Y 0,J Y 0,J Y 0,J Y 0,J Y 0,J Y 0,J Y 0,J Y 0,J Y 0,J Y 0,J Y 0,J Y 0,BQ none 0 0,J Y 0,J Y 0,J Y 0,BT false,J Y 0,BT false,BT false] 39)).setCells V3.heap.size 0 ((ifB eb1 (goD eb1 4294967296)).L (((er0.l (BQ none 0 0)).set 5 u).set 5 u2)):=⟨_,rfl⟩
 obtain⟨rV,qn,AH,AJ⟩:=Jb3 V3 ((ifB eb1 (goD eb1 4294967296)).L (((er0.l (BQ none 0 0)).set 5 u).set 5 u2)) (uZ.rest.all _);rw[<- xq]at rV qn AH;have rh:BU (World.there _ _ _ _):=AJ;clear AJ;have dA:=(zj.out.after hA nb).step qn;have tf:=(Cv.after hA n2).step qn;have bV:=Ja qn hA.cell;have co:BU (B9 _ _ _):=Jc (hA.below _ _ aZ.out uW aZ.out.size) qn;have d1:=(rV 1 _ rfl).1;have d2:=(rV 2 _ rfl).1;have d3:=(rV 3 _ rfl).1;have g1:(ifB eb1 (goD eb1 4294967296)).s.x=8589934592:=by rw[Js4]
 have g2:(ifB eb1 (goD eb1 4294967296)).s.y=0:=by rw[Js4]
 have g3:(ifB eb1 (goD eb1 4294967296)).s.z=0:=by rw[Js4]
 rw[g1]at d1;rw[g2]at d2;rw[g3]at d3;obtain⟨p3,mC⟩:∃ p,p=V3.heap.size:=⟨_,rfl⟩
 clear g1 g2 g3 uY A hA HO Cv zj aZ bJ bF b_ zk l_ rV;generalize(ifB eb1 (goD eb1 4294967296)).L (((er0.l (BQ none 0 0)).set 5 u).set 5 u2)=cs3 at *;go_upto_region 6 with (refine wpList_store_mid rfl 39 _ _ rfl V3.heap.size 0 _ rfl rfl rh.out cd.out bW.out ?_);rw[<- xq,<- mC];rw[<- mC]at d1 d2 d3;clear xq mC rh AH qn cd bW;have cU:BU (World.rangeAt X3 pb 0 pQ):=dA.range;have p8:BU _:=Jdd eb0 er0 (BQ none 0 0) X3 (Jgh X3);rw[Jsm,rc.out]at p8;go_wp2_with (refine wpList_load_mid rfl 39 _ rfl pb 0 rfl _ _ cU.out underlying39 rfl eW.out ?_);refine JA p8.out ?_;rintro e V4 ⟨rfl,hb⟩;have bM:=hb.out;have d1:=Ja bM d1;have d2:=Ja bM d2;have d3:=Ja bM d3;have v0:=Ja bM (tf 0 _ rfl).1;have v1:=Ja bM (tf 1 _ rfl).1;have v2:=Ja bM (tf 2 _ rfl).1;have cI:=Ja bM bV;have nB:BU (B9 _ _ _):=Jc co.out bM;have oi:BU (Cd Tryz.prog 11 #[B_ #[J Y 0,J Y 0,J Y 0,J Y 0,J Y 0,J Y 0,J Y 0,J Y 0,J Y 0,J Y 0,J Y 0,J Y 0,J Y 0,J Y 0,J Y 0,J Y 0,J Y 0,J Y 0,J Y 0,J Y 0,J Y 0,J Y 0,J Y 0,BQ none 0 0,J Y 0,J Y 0,J Y 0,BT false,J Y 0,BT false,BT false]] V4 fun e W'=>e = BZ (J Y 1)/\BU (B9 V4.heap.size V4 W')):=by
  have h9:=Jdd ebz erz (BQ none 0 0) V4 (Jgh V4);rw[Jqf]at h9;exact h9
 clear p8 cU hb bM tf dA bV co;go_wp2_with (fail);refine JA oi.out ?_;rintro e V5 ⟨rfl,hb⟩;have cN:BU (B9 _ _ _):=Jc nB.out hb.out;clear oi hb d1 d2 d3 v0 v1 v2 cI;go_wp2_with (fail);go_ret;exact⟨rfl,cN⟩
end
section
open Go.RowKit Go.Shelf
theorem Jgi(c n:Int)(w:BV)(hc:-9223372036854775808<=c/\c<=9223372036854775807)(hn:0<n)(hn':n<=9223372036854775807):
  Cd Tryz.prog 26 #[J Y c,J Y n] w fun e w'=>e = BZ (J Y (Jbq c n))/\w'=w:=by
 unfold Jbq;by_cases h:c<0
 ·have hb:0 <= -(c+1):=by omega
  have hb':-(c+1)<=9223372036854775807:=by omega
  have hz:(n == 0)=false:=beq_eq_false_iff_ne.2 (by omega);rw[if_pos h];go_enter func26,ntmps26;go_wp2;go_ret;have e:(c+1).tmod n = -(-(c+1)%n):=by
   rw[<- Int.tmod_eq_emod_of_nonneg hb,Int.neg_tmod,Int.neg_neg]
  exact⟨by rw[e,Int.neg_neg];rfl,rfl⟩
 ·have hz:(n == 0)=false:=beq_eq_false_iff_ne.2 (by omega);rw[if_neg h];go_enter func26,ntmps26;go_wp2;go_ret;exact⟨rfl,rfl⟩
theorem Jgd(n m:Int)(w:BV)(hn:-9223372036854775808<=n/\n<=9223372036854775807)(hm:0<=m/\m<=4611686018427387903):
  Cd Tryz.prog 30 #[J Y n,J Y m] w fun e w'=>e = BZ (J Y (Jak n m))/\w'=w:=by
 have HP:BU _:=fun w'=>Jgi n (2*m+1) w' hn (by omega) (by omega);have h1:=Jby n (n:=2*m+1) (by omega);have h2:=Jbz n (n:=2*m+1) (by omega);unfold Jak;generalize Jbq n (2*m+1)=pz at *;have e1:IntKind.i64.wrap (2*m)=2*m:=by rw[IntKind.wrap_i64];omega
 have e2:IntKind.i64.wrap (2*m+1)=2*m+1:=by rw[IntKind.wrap_i64];omega
 have e3:IntKind.i64.wrap (pz-m)=pz-m:=by rw[IntKind.wrap_i64];omega
 go_enter func30,ntmps30;go_wp2_with (fail);refine JA (HP.out _) ?_;rintro e w' ⟨rfl,rfl⟩;go_wp2_with (fail);go_ret;exact⟨rfl,rfl⟩
theorem Jgv{P:Program}{F:Nat}{xs:Array B7}{w:BV}{v:B7}(h:Cd P F xs w fun e w'=>e = BZ v/\w'=w):Cd P F xs w fun e W=>e = BZ v/\B9 w.heap.size w W:=
 h.mono (by rintro e W ⟨h1,rfl⟩;exact⟨h1,Below.refl _ _⟩)
theorem Jf0(x y z m:Int)(W:BV)(hx:-9223372036854775808<=x/\x<=9223372036854775807)(hy:-9223372036854775808<=y/\y<=9223372036854775807)(hz:-9223372036854775808<=z/\z<=9223372036854775807)(hm:0<=m/\m<=4611686018427387903):
  Cd Tryz.prog 10 #[B_ #[J Y x,J Y y,J Y z],J Y m] W fun e W'=>e = BZ (B_ #[J Y (Jak x m),J Y (Jak y m),J Y (Jak z m)])/\B9 W.heap.size W W':=by
 have HPx:BU _:=fun w=>Jgv (Jgd x m w hx hm);have HPy:BU _:=fun w=>Jgv (Jgd y m w hy hm);have HPz:BU _:=fun w=>Jgv (Jgd z m w hz hm);generalize Jak x m=px at *;generalize Jak y m=py at *;generalize Jak z m=pz at *;obtain⟨V,hV⟩:∃ V,V=(W.alloc (BP #[J Y x,J Y y,J Y z] 27)).alloc (BP #[J Y 0,J Y 0,J Y 0] 27):=⟨_,rfl⟩
 obtain⟨vb,xr⟩:∃ b,b=W.heap.size:=⟨_,rfl⟩
 obtain⟨rb,lc⟩:∃ b,b=W.heap.size+1:=⟨_,rfl⟩
 have n2:=CW.new (W.alloc (BP #[J Y x,J Y y,J Y z] 27)) [J Y 0,J Y 0,J Y 0] 27;rw[JE]at n2;have CR:BU (CW V rb [J Y 0,J Y 0,J Y 0]):=by show CW _ _ _;rw[hV,lc];exact n2
 have CV:CW V vb [J Y x,J Y y,J Y z]:=by rw[hV,xr];exact(CW.new W [J Y x,J Y y,J Y z] 27).step (Jb _ _)
 have HB:BU (B9 W.heap.size W V):=by show B9 _ _ _;rw[hV];exact Jc (Jb _ _) (Jb _ _)
 have io:BU (W.heap.size<=rb):=by show _<=_;omega
 have v0:=(CV 0 _ rfl).1;have v1:=(CV 1 _ rfl).1;have v2:=(CV 2 _ rfl).1;obtain⟨sX,xt⟩:=CR.out 0 _ rfl;obtain⟨sY,xu⟩:=CR.out 1 _ rfl;obtain⟨sZ,xv⟩:=CR.out 2 _ rfl;clear n2 CV hx hy hz hm;go_enter func10,ntmps10;go_upto_region 1 with fail;rw[<- hV,<- lc,<- xr];clear hV xr lc;refine Bq [.some (BO (some ⟨vb,0,none⟩)),.some (J Y x),.some (J Y m),.some (J Y px),.some (BO (some ⟨vb,1,none⟩)),.some (J Y y),.some (J Y m),.some (J Y py),.some (BO (some ⟨vb,2,none⟩)),.some (J Y z),.some (J Y m),.some (J Y pz),.some (B_ #[J Y px,J Y py,J Y pz]),none] [6,7,8,9,10,11,12,13,14,15,16,17,18,0] [(1,J Y m),(2,BO (some ⟨vb,0,none⟩)),(4,BO (some ⟨rb,0,none⟩))] (fun γ L w9=>(L 13=false/\B9 V.heap.size V w9)\/(L 13=true/\∃ w,B9 V.heap.size V w/\w9=(((w.setCell ⟨rb,0,none⟩ (J Y px)).setCell ⟨rb,1,none⟩ (J Y py)).setCell ⟨rb,2,none⟩ (J Y pz)))) ⟨rfl,rfl,rfl,trivial⟩ ?_ ?_ ?_
 ·exact Or.inl ⟨rfl,(Below.refl _ V).drew⟩
 ·intro D WA Z hD ah hZ T;simp only[RV.Outs,RV.Slots,Nat.reduceAdd]at T
  iterate 3 first
   |(refine Br _ (Bs T (fun γ v L w hl h=>by rw[Bt (L:=L) (i:=_) (j:=13) (by decide)];exact h) (fun γ L a w hH hl h9 k9=>⟨_,?_,rfl⟩)) ?_;· simp[JD,go_sem,h9])
   |(refine Br _ (Bs T (fun γ v L w hl h=>by rw[Bt (L:=L) (i:=_) (j:=13) (by decide)];exact h) (fun γ L a w hH hl h9 k9=>⟨_,?_,rfl⟩)) ?_;· have ai:=Jaw hH.glob (Bu hH (Bv (j:=13) ah (by kernel_rfl)) hl);have q0:=Ja ai v0;simp[JC]at k9;simp[JD,go_sem,h9,k9,q0])
  refine Br _ (Bw (fun γ L a w hH hl hA=>by have h9:=T γ L a w hH;have k9:=hA;simp[JC]at k9;have ai:=Jaw hH.glob (Bu hH (Bv (j:=13) (i:=3) ah (by kernel_rfl)) hl);exact⟨30,#[J Y x,J Y m],by simp[go_sem,h9,k9],JA (HPx.out w) (by rintro e w2 ⟨rfl,hb⟩;exact⟨_,rfl,rfl,fun j v _ h=>h.keep _,Or.inl ⟨by rw[Bt (L:=L) (i:=3) (j:=13) (by decide)];exact Bu hH (Bv (j:=13) (i:=3) ah (by kernel_rfl)) hl,ai.trans (hb.mono ai.size)⟩⟩)⟩)) ?_
  iterate 3 first
   |(refine Br _ (Bs T (fun γ v L w hl h=>by rw[Bt (L:=L) (i:=_) (j:=13) (by decide)];exact h) (fun γ L a w hH hl h9 k9=>⟨_,?_,rfl⟩)) ?_;· simp[JD,go_sem,h9])
   |(refine Br _ (Bs T (fun γ v L w hl h=>by rw[Bt (L:=L) (i:=_) (j:=13) (by decide)];exact h) (fun γ L a w hH hl h9 k9=>⟨_,?_,rfl⟩)) ?_;· have ai:=Jaw hH.glob (Bu hH (Bv (j:=13) ah (by kernel_rfl)) hl);have q0:=Ja ai v1;simp[JC]at k9;simp[JD,go_sem,h9,k9,q0])
  refine Br _ (Bw (fun γ L a w hH hl hA=>by have h9:=T γ L a w hH;have k9:=hA;simp[JC]at k9;have ai:=Jaw hH.glob (Bu hH (Bv (j:=13) (i:=7) ah (by kernel_rfl)) hl);exact⟨30,#[J Y y,J Y m],by simp[go_sem,h9,k9],JA (HPy.out w) (by rintro e w2 ⟨rfl,hb⟩;exact⟨_,rfl,rfl,fun j v _ h=>h.keep _,Or.inl ⟨by rw[Bt (L:=L) (i:=7) (j:=13) (by decide)];exact Bu hH (Bv (j:=13) (i:=7) ah (by kernel_rfl)) hl,ai.trans (hb.mono ai.size)⟩⟩)⟩)) ?_
  iterate 3 first
   |(refine Br _ (Bs T (fun γ v L w hl h=>by rw[Bt (L:=L) (i:=_) (j:=13) (by decide)];exact h) (fun γ L a w hH hl h9 k9=>⟨_,?_,rfl⟩)) ?_;· simp[JD,go_sem,h9])
   |(refine Br _ (Bs T (fun γ v L w hl h=>by rw[Bt (L:=L) (i:=_) (j:=13) (by decide)];exact h) (fun γ L a w hH hl h9 k9=>⟨_,?_,rfl⟩)) ?_;· have ai:=Jaw hH.glob (Bu hH (Bv (j:=13) ah (by kernel_rfl)) hl);have q0:=Ja ai v2;simp[JC]at k9;simp[JD,go_sem,h9,k9,q0])
  refine Br _ (Bw (fun γ L a w hH hl hA=>by have h9:=T γ L a w hH;have k9:=hA;simp[JC]at k9;have ai:=Jaw hH.glob (Bu hH (Bv (j:=13) (i:=11) ah (by kernel_rfl)) hl);exact⟨30,#[J Y z,J Y m],by simp[go_sem,h9,k9],JA (HPz.out w) (by rintro e w2 ⟨rfl,hb⟩;exact⟨_,rfl,rfl,fun j v _ h=>h.keep _,Or.inl ⟨by rw[Bt (L:=L) (i:=11) (j:=13) (by decide)];exact Bu hH (Bv (j:=13) (i:=11) ah (by kernel_rfl)) hl,ai.trans (hb.mono ai.size)⟩⟩)⟩)) ?_
  (refine Br _ (Bs T (fun γ v L w hl h=>by rw[Bt (L:=L) (i:=_) (j:=13) (by decide)];exact h) (fun γ L a w hH hl h9 k9=>⟨_,?_,rfl⟩)) ?_;· simp[JC]at k9;simp[JD,go_sem,h9,k9])
  refine Br _ (Bz (fun γ L a w hH hl hA=>by have h9:=T γ L a w hH;have k9:=hA;simp[JC]at k9;have ai:=Jaw hH.glob hl;have z0:=Ja ai sX;have cX:=Jm ai sX xt;have z1:=Ja ai sY;have cY:=Jm ai sY xu;have z2:=Ja ai sZ;have cZ:=Jm ai sZ xv;exact⟨(((w.setCell ⟨rb,0,none⟩ (J Y px)).setCell ⟨rb,1,none⟩ (J Y py)).setCell ⟨rb,2,none⟩ (J Y pz)),by simp[JD,go_sem,z0,cX,z1,cY,z2,cZ,h9,k9],trivial,fun j v _ h=>h.keep _,Or.inr ⟨BD,w,ai,rfl⟩⟩)) ?_;exact RV.AllDo.nil
 ·intro γ w5 L9 hL aX aD;obtain⟨w8,bB,rfl⟩:=Jl8 aD (hL 13 (by decide));clear hL aX aD;simp only[RV.putL,Act.put,JH,JG,JF];have HZ:BU (B9 W.heap.size W w8):=Jc HB.out bB;have r0:=((((CW.step CR.out bB).set 0 (J Y px) (by simp)).set 1 (J Y py) (by simp)).set 2 (J Y pz) (by simp))
  have q0:=(r0 0 _ rfl).1;have q1:=(r0 1 _ rfl).1;have q2:=(r0 2 _ rfl).1;clear r0;go_wp2;exact bodyPost_ret (v:=B_ #[J Y px,J Y py,J Y pz]) (by simp[results,results10,go_sem,q0,q1,q2]) rfl ⟨rfl,((HZ.out.setCell io.out _).setCell io.out _).setCell io.out _⟩
def RG(W0:BV)(ok:Pt->Q4->Prop)(bd:Pt->Q4->List B7)(γ:Nat->B7)(L:Nat->Bool)(w:BV):Prop:=
 B9 W0.heap.size W0 w/\(L 2=true->∃ t q,ok t q/\γ 2=Jpq t q)/\(L 20=true->∃ t q,ok t q/\γ 20 = B_ (bd t q).toArray) /\
 (L 21=true->∃ b cs,γ 21 = BO (some ⟨b,0,none⟩)/\W0.heap.size<=b/\CW w b cs/\cs.length=31/\(L 22=true->∃ t q,ok t q/\cs=bd t q))
section
variable {W0 w w':BV} {ok:Pt->Q4->Prop} {bd:Pt->Q4->List B7} {γ:Nat->B7} {L:Nat->Bool}
theorem RG.start(hb:B9 W0.heap.size W0 w)(h:L=fun _=>false):RG W0 ok bd γ L w:=by
 subst h;exact⟨hb,(fun e=>by cases e),(fun e=>by cases e),(fun e=>by cases e)⟩
theorem RG.below(h:RG W0 ok bd γ L w)(hb:B9 w.heap.size w w'):RG W0 ok bd γ L w':=by
 refine⟨Jc h.1 hb,h.2.1,h.2.2.1,fun e=>?_⟩;obtain⟨b,cs,x1,x2,x3,x4,x5⟩:=h.2.2.2 e;exact⟨b,cs,x1,x2,x3.step hb,x4,x5⟩
theorem RG.other(h:RG W0 ok bd γ L w){k:Nat}(v:B7)(h2:2≠k)(sW:20≠k)(Bl:21≠k)(yt:22≠k):RG W0 ok bd (RV.upd γ k v) (more L k) w:=by
 refine⟨h.1,fun e=>?_,fun e=>?_,fun e=>?_⟩
 ·rw[Bt h2]at e;rw[BI _ _ h2];exact h.2.1 e
 ·rw[Bt sW]at e;rw[BI _ _ sW];exact h.2.2.1 e
 ·rw[Bt Bl]at e;rw[BI _ _ Bl,Bt yt];exact h.2.2.2 e
theorem RG.got(h:RG W0 ok bd γ L w){t:Pt}{q:Q4}(ho:ok t q)(hb:B9 w.heap.size w w'):RG W0 ok bd (RV.upd γ 2 (Jpq t q)) (more L 2) w':=by
 have h9:=h.below hb;refine⟨h9.1,fun _=>⟨t,q,ho,by rw[RV.upd_self]⟩,fun e=>?_,fun e=>?_⟩
 ·rw[Bt (by decide)]at e;rw[BI _ _ (by decide)];exact h9.2.2.1 e
 ·rw[Bt (by decide)]at e;rw[BI _ _ (by decide),Bt (by decide)];exact h9.2.2.2 e
theorem RG.put(h:RG W0 ok bd γ L w){t:Pt}{q:Q4}(ho:ok t q):RG W0 ok bd (RV.upd γ 20 (B_ (bd t q).toArray)) (more L 20) w:=by
 refine⟨h.1,fun e=>?_,fun _=>⟨t,q,ho,by rw[RV.upd_self]⟩,fun e=>?_⟩
 ·rw[Bt (by decide)]at e;rw[BI _ _ (by decide)];exact h.2.1 e
 ·rw[Bt (by decide)]at e;rw[BI _ _ (by decide),Bt (by decide)];exact h.2.2.2 e
theorem RG.made(h:RG W0 ok bd γ L w)(yt:L 22=false)(cs:List B7)(hc:cs.length=31):RG W0 ok bd (RV.upd γ 21 (BO (some ⟨w.heap.size,0,none⟩))) (more L 21) (w.alloc (BP cs.toArray 39)):=by
 have h9:=h.below (Jb w (BP cs.toArray 39));refine⟨h9.1,fun e=>?_,fun e=>?_,fun _=>⟨_,cs,by rw[RV.upd_self],h.1.size,CW.new _ _ _,hc,fun e=>by rw[Bt (by decide),yt]at e;cases e⟩⟩
 ·rw[Bt (by decide)]at e;rw[BI _ _ (by decide)];exact h9.2.1 e
 ·rw[Bt (by decide)]at e;rw[BI _ _ (by decide)];exact h9.2.2.1 e
theorem RG.fill(h:RG W0 ok bd γ L w){b:Nat}{cs:List B7}(hb:γ 21 = BO (some ⟨b,0,none⟩))(hw:W0.heap.size<=b)(hc:CW w b cs)(zF:cs.length=31){t:Pt}{q:Q4}(ho:ok t q)(hl:(bd t q).length=31)(v:B7):
  RG W0 ok bd (RV.upd γ 22 v) (more L 22) (w.setCells b 0 (bd t q)):=by
 refine⟨h.1.trans (Jbd hw _ _ _),fun e=>?_,fun e=>?_,fun e=>⟨b,bd t q,by rw[BI _ _ (by decide)];exact hb,hw,hc.sets (by rw[hl,zF]),hl,fun _=>⟨t,q,ho,rfl⟩⟩⟩
 ·rw[Bt (by decide)]at e;rw[BI _ _ (by decide)];exact h.2.1 e
 ·rw[Bt (by decide)]at e;rw[BI _ _ (by decide)];exact h.2.2.1 e
end
end
section
open Go.RowKit Go.Shelf
theorem Jtl(n a b:Int)(w:BV):
  Cd Tryz.prog 177 #[J Y n,J Y a,J Y b] w fun e w'=>e = BZ (BT (inR n a b))/\w'=w:=by
 unfold inR;by_cases h1:a<=n
 ·go_enter func177,ntmps177;go_wp2;go_ret;exact⟨by simp[h1],rfl⟩
 ·go_enter func177,ntmps177;go_wp2;go_ret;exact⟨by simp;omega,rfl⟩
theorem Jaz(n a b:Int)(w:BV)(t:Bool)(h:inR n a b=t):
  Cd Tryz.prog 177 #[J Y n,J Y a,J Y b] w fun e w'=>e = BZ (BT t)/\w'=w:=by subst h;exact Jtl n a b w
theorem Jb2(n:Int)(w:BV)(h:-1152921504606846976<=n/\n<=1152921504606846976):
  Cd Tryz.prog 200 #[J Y n] w fun e w'=>e = BZ (J Y (n.natAbs:Nat))/\w'=w:=by
 by_cases h1:n<0
 ·go_enter func200,ntmps200;go_wp2;go_ret;exact⟨congrArg (fun k=>Ending.returned (J Y k)) (by omega),rfl⟩
 ·go_enter func200,ntmps200;go_wp2;go_ret;exact⟨congrArg (fun k=>Ending.returned (J Y k)) (by omega),rfl⟩
def Jdv(x y z:Nat):Nat->Nat
 | 0=>0
 | 1=>x
 | 2=>Nat.gcd x y
 | _=>Nat.gcd (Nat.gcd x y) z
def Jrn(x y z:Nat):Nat->Nat
 | 0=>x
 | 1=>y
 | _=>z
theorem Jl2(x y z i:Nat)(hi:i<3):Nat.gcd (Jdv x y z i) (Jrn x y z i)=Jdv x y z (i+1):=by
 have:i=0\/i=1\/i=2:=by omega
 rcases this with rfl | rfl | rfl
 ·exact Nat.gcd_zero_left x
 ·rfl
 ·rfl
theorem Jqr(x y z B i:Nat)(hx:x<=B)(hy:y<=B)(hz:z<=B):Jdv x y z i<=B:=by
 match i with
 | 0=>exact Nat.zero_le _
 | 1=>exact hx
 | 2=>exact Jnt hx hy
 | _+3=>exact Jnt (Jnt hx hy) hz
theorem Jtz(x y z B i:Nat)(hx:x<=B)(hy:y<=B)(hz:z<=B):Jrn x y z i<=B:=by
 match i with
 | 0=>exact hx
 | 1=>exact hy
 | _+2=>exact hz
theorem Jq4{W:BV}{g:Nat}{x y z:Nat}(h:Cells W g [J Y (x:Int),J Y (y:Int),J Y (z:Int)])(i:Nat)(hi:i<3):W.cell? ⟨g,i,none⟩=some (J Y (Jrn x y z i:Int)):=by
 have:i=0\/i=1\/i=2:=by omega
 rcases this with rfl | rfl | rfl
 ·exact(h 0 _ rfl).1
 ·exact(h 1 _ rfl).1
 ·exact(h 2 _ rfl).1
theorem Jta(p:Pt)(w0:BV)(hp:p.inB 4398046511104=true):
  Cd Tryz.prog 199 #[p.v] w0 fun e W=>e = BZ p.low.v/\B9 w0.heap.size w0 W:=by
 have hq:=hp;rw[Pt.inB_iff]at hq;have S1:BU _:=fun w'=>Jb2 p.x w' (by omega);have S2:BU _:=fun w'=>Jb2 p.y w' (by omega);have S3:BU _:=fun w'=>Jb2 p.z w' (by omega);have mG:BU (Jdv p.x.natAbs p.y.natAbs p.z.natAbs 3=p.g):=rfl;have zm:BU (∀ i,Jdv p.x.natAbs p.y.natAbs p.z.natAbs i<=4398046511104):=fun i=>Jqr _ _ _ _ _ (by omega) (by omega) (by omega);have p_:BU (∀ i,Jrn p.x.natAbs p.y.natAbs p.z.natAbs i<=4398046511104):=fun i=>Jtz _ _ _ _ _ (by omega) (by omega) (by omega);have HL:BU (p.low=if p.g=0 then p else p.by p.g):=rfl;generalize p.low=r at *;generalize p.g=G at *;obtain⟨x,y,z⟩:=p;dsimp only at *;generalize hnx:x.natAbs=nx at *;generalize hny:y.natAbs=ny at *;generalize hnz:z.natAbs=nz at *;clear hp hnx hny hnz;unfold Pt.v at *;dsimp only at *;go_enter func199,ntmps199;go_upto_region 2 with fail;obtain⟨V,hV⟩:∃ V:BV,V=((w0.alloc (BP #[J Y x,J Y y,J Y z] 23)).alloc (BP #[J Y 0,J Y 0,J Y 0] 23)):=⟨_,rfl⟩
 have iU:B9 w0.heap.size w0 V:=by rw[hV];exact(((Below.refl _ w0).alloc (by simp;try omega) _).alloc (by simp;try omega) _)
 have eN:V.cell? ⟨w0.heap.size,0,none⟩=some (J Y x):=by rw[hV];simp[go_sem]
 have eO:V.cell? ⟨w0.heap.size,1,none⟩=some (J Y y):=by rw[hV];simp[go_sem]
 have eQ:V.cell? ⟨w0.heap.size,2,none⟩=some (J Y z):=by rw[hV];simp[go_sem]
 have gM:V.cell? ⟨w0.heap.size+1,0,none⟩=some (J Y 0):=by rw[hV];simp[go_sem]
 have gN:V.cell? ⟨w0.heap.size+1,1,none⟩=some (J Y 0):=by rw[hV];simp[go_sem]
 have gO:V.cell? ⟨w0.heap.size+1,2,none⟩=some (J Y 0):=by rw[hV];simp[go_sem]
 have mL:V.frozen? ⟨w0.heap.size+1,0,none⟩=false:=by rw[hV];simp[go_sem]
 have mM:V.frozen? ⟨w0.heap.size+1,1,none⟩=false:=by rw[hV];simp[go_sem]
 have mN:V.frozen? ⟨w0.heap.size+1,2,none⟩=false:=by rw[hV];simp[go_sem]
 have mO:V.frozen? ⟨w0.heap.size,0,none⟩=false:=by rw[hV];simp[go_sem]
 have mP:V.frozen? ⟨w0.heap.size,1,none⟩=false:=by rw[hV];simp[go_sem]
 have mQ:V.frozen? ⟨w0.heap.size,2,none⟩=false:=by rw[hV];simp[go_sem]
 rw[<- hV];clear hV;refine RV.region_by (fun j v w=>match j with | 0=>v = BO (some ⟨w0.heap.size,0,none⟩) | 1=>v=J Y x | 2=>v=J Y (nx:Int) | 3=>v = BO (some ⟨w0.heap.size,1,none⟩) | 4=>v=J Y y | 5=>v=J Y (ny:Int) | 6=>v = BO (some ⟨w0.heap.size,2,none⟩) | 7=>v=J Y z | 8=>v=J Y (nz:Int) | 9=>(fun v w=>∃ g,v = BQ (some ⟨g,0,none⟩) 3 3/\V.heap.size<=g/\Cells w g [J Y (nx:Int),J Y (ny:Int),J Y (nz:Int)]) v w | 10=>(fun v w=>∃ g,v = BQ (some ⟨g,0,none⟩) 3 3/\V.heap.size<=g/\Cells w g [J Y (nx:Int),J Y (ny:Int),J Y (nz:Int)]) v w | _=>True) (fun γ L w9=>B9 V.heap.size V w9) (by kernel_rfl) (by kernel_rfl) (by kernel_rfl) (by kernel_rfl) ?_ ?_ ?_
 ·exact(Below.refl _ V).drew
 ·generalize hD:Jam _=D;generalize ah:Jai _=WA;generalize hZ:Act.mk _ _=Z;refine RV.AllDo.name ?_;intro R hR;have kn:RV.Kn R [.some (BO (some ⟨w0.heap.size,0,none⟩)),.some (J Y x),.some (J Y (nx:Int)),.some (BO (some ⟨w0.heap.size,1,none⟩)),.some (J Y y),.some (J Y (ny:Int)),.some (BO (some ⟨w0.heap.size,2,none⟩)),.some (J Y z),.some (J Y (nz:Int)),none,none] 0:=by rw[hR];exact⟨fun _ _=>Iff.rfl,fun _ _=>Iff.rfl,fun _ _=>Iff.rfl,fun _ _=>Iff.rfl,fun _ _=>Iff.rfl,fun _ _=>Iff.rfl,fun _ _=>Iff.rfl,fun _ _=>Iff.rfl,fun _ _=>Iff.rfl,trivial⟩
  have T:=RV.kfacts [10,11,12,13,14,15,16,17,18,19,5] [(1,BO (some ⟨w0.heap.size,0,none⟩))] hD hZ kn ⟨rfl,trivial⟩ (by kernel_rfl) (by kernel_rfl);simp only[RV.Outs,RV.Slots,Nat.reduceAdd]at T;have r9:∀ v w,R 9 v w=((fun v w=>∃ g,v = BQ (some ⟨g,0,none⟩) 3 3/\V.heap.size<=g/\Cells w g [J Y (nx:Int),J Y (ny:Int),J Y (nz:Int)]) v w):=fun v w=>by rw[hR];rfl
  have td:∀ v w,R 10 v w=((fun v w=>∃ g,v = BQ (some ⟨g,0,none⟩) 3 3/\V.heap.size<=g/\Cells w g [J Y (nx:Int),J Y (ny:Int),J Y (nz:Int)]) v w):=fun v w=>by rw[hR];rfl
  have K:∀ j v w w',B9 w.heap.size w w'->R j v w->R j v w':=by
   rw[hR];intro j v w w' hb h
   revert h
   dsimp only
   split
   all_goals first | exact id | exact(fun⟨g,t1,t2,t3⟩=>⟨g,t1,t2,Cells.step t3 hb⟩)
  iterate 2 first
   |(refine Br _ (BK kn T (fun γ v L w hl h=>h) (fun γ L a w hH hl h9 k9=>⟨_,?_,rfl⟩)) ?_;· simp[JD,go_sem,h9])
   |(refine Br _ (BK kn T (fun γ v L w hl h=>h) (fun γ L a w hH hl h9 k9=>⟨_,?_,rfl⟩)) ?_;· have ai:=hH.glob;have q0:=Ja ai eN;simp[JC]at k9;simp[JD,go_sem,h9,k9,q0])
  refine Br _ (Bw (fun γ L a w hH hl hA=>by have h9:=T _ _ γ L a w hH;have k9:=hA;simp[JC]at k9;have ai:=hH.glob;exact⟨200,#[J Y x],by simp[go_sem,h9,k9],JA (S1.out w) (by rintro e w2 ⟨rfl,rfl⟩;exact⟨_,rfl,((kn.at (k:=2) rfl _ _).2 rfl),fun j v _ h=>h,ai⟩)⟩)) ?_
  iterate 2 first
   |(refine Br _ (BK kn T (fun γ v L w hl h=>h) (fun γ L a w hH hl h9 k9=>⟨_,?_,rfl⟩)) ?_;· simp[JD,go_sem,h9])
   |(refine Br _ (BK kn T (fun γ v L w hl h=>h) (fun γ L a w hH hl h9 k9=>⟨_,?_,rfl⟩)) ?_;· have ai:=hH.glob;have q0:=Ja ai eO;simp[JC]at k9;simp[JD,go_sem,h9,k9,q0])
  refine Br _ (Bw (fun γ L a w hH hl hA=>by have h9:=T _ _ γ L a w hH;have k9:=hA;simp[JC]at k9;have ai:=hH.glob;exact⟨200,#[J Y y],by simp[go_sem,h9,k9],JA (S2.out w) (by rintro e w2 ⟨rfl,rfl⟩;exact⟨_,rfl,((kn.at (k:=5) rfl _ _).2 rfl),fun j v _ h=>h,ai⟩)⟩)) ?_
  iterate 2 first
   |(refine Br _ (BK kn T (fun γ v L w hl h=>h) (fun γ L a w hH hl h9 k9=>⟨_,?_,rfl⟩)) ?_;· simp[JD,go_sem,h9])
   |(refine Br _ (BK kn T (fun γ v L w hl h=>h) (fun γ L a w hH hl h9 k9=>⟨_,?_,rfl⟩)) ?_;· have ai:=hH.glob;have q0:=Ja ai eQ;simp[JC]at k9;simp[JD,go_sem,h9,k9,q0])
  refine Br _ (Bw (fun γ L a w hH hl hA=>by have h9:=T _ _ γ L a w hH;have k9:=hA;simp[JC]at k9;have ai:=hH.glob;exact⟨200,#[J Y z],by simp[go_sem,h9,k9],JA (S3.out w) (by rintro e w2 ⟨rfl,rfl⟩;exact⟨_,rfl,((kn.at (k:=8) rfl _ _).2 rfl),fun j v _ h=>h,ai⟩)⟩)) ?_;refine Br _ (BJ (fun γ L a w hH hl hA=>by have h9:=T _ _ γ L a w hH;have k9:=hA;simp[JC]at k9;have ai:=hH.glob;exact⟨BQ (some ⟨w.heap.size,0,none⟩) 3 3,w.alloc (BP #[J Y (nx:Int),J Y (ny:Int),J Y (nz:Int)] 3),by simp[JD,go_sem,h9,k9],(r9 _ _).mpr ⟨w.heap.size,rfl,ai.size,Cells.new w [J Y (nx:Int),J Y (ny:Int),J Y (nz:Int)] 3⟩,fun j v _ h=>K j v _ _ (Jb w _) h,ai.trans ((Jb w _).mono ai.size)⟩)) ?_;refine Br _ (RV.dp (fun γ v L w hl h=>h) (fun γ L a w hH hl hA=>by have l0:L 9=true:=hA ⟨9,.data⟩ (by simp) rfl;have e0:=hH.slot 9 18 (by rw[<- hD];rfl) l0;have g0:=hH.holds 9 l0;rw[r9]at g0;exact⟨γ 9,by simp[JD,go_sem,e0],(td _ _).mpr g0⟩)) ?_;exact RV.AllDo.nil
 ·intro γ a5 w5 L9 hL dU hH;have ha:=RV.held_act hH hL (by kernel_rfl) (by kernel_rfl);have bB:=hH.glob;obtain⟨gs,tR,hgs,u_⟩:=hH.holds 10 (hL 10 (by decide));rw[ha];clear ha hH hL dU;simp only[RV.putAll,Act.put,JH,JG,JF,Nat.zero_add,Nat.reduceAdd];rw[tR];have gh:BU _:=iU.trans (bB.mono iU.size);have u_:BU _:=u_;have b0:BU (Box3 w5 w0.heap.size ⟨x,y,z⟩):=⟨Ja bB eN,Ja bB eO,Ja bB eQ,Jm bB eN mO,Jm bB eO mP,Jm bB eQ mQ⟩
  have b1:BU (Box3 w5 (w0.heap.size+1) Pt.O):=⟨Ja bB gM,Ja bB gN,Ja bB gO,Jm bB gM mL,Jm bB gN mM,Jm bB gO mN⟩
  clear tR bB eN eO eQ mO mP mQ gM gN gO mL mM mN iU S1 S2 S3;go_wp2_with (fail)
  go_loopg [3,5] 3 (fun gm s3 s5 wr=>∃ i:Nat,s3=J Y (Jdv nx ny nz i:Nat)/\s5=J Y (i:Int)/\i<=3/\gm=3-i/\wr=w5)
  case atStart=>exact⟨0,rfl,rfl,by omega,rfl,rfl⟩
  case round =>
   obtain⟨i,rfl,rfl,hi,be,hwr⟩:=hrel;subst hwr;have eH:BU _:=be;clear be;by_cases hit:i<3
   ·have hc:=Jq4 u_.out i hit;have HN:BU _:=Jl2 nx ny nz i hit;have l1:=zm.out i;have l2:=p_.out i;generalize Jrn nx ny nz i=nb at *;generalize hga:Jdv nx ny nz i=na at *;clear hga;go_wp2_with (fail)
    go_loopg [6,7] nb (fun gm s6 s7 wx=>∃ a b:Nat,s6=J Y (a:Int)/\s7=J Y (b:Int)/\a<=4398046511104/\b<=4398046511104/\gm=b/\wx=wr/\BU (Nat.gcd a b=Jdv nx ny nz (i+1)))
    case atStart=>exact⟨na,nb,rfl,rfl,l1,l2,rfl,rfl,HN⟩
    case round =>
     clear HN l1 l2;obtain⟨a,b,rfl,rfl,la,lb,be,hwx,HN⟩:=hrel;subst hwx;have gU:BU _:=be;clear be;by_cases aL:b=0
     ·subst aL;have e:a=Jdv nx ny nz (i+1):=by rw[<- HN.out];simp
      clear HN;have HE:BU _:=e;clear e;go_wp2_with (fail)
      go_roundg (3-(i+1))
      case measure=>have:=eH.out;omega
      case rel=>exact⟨i+1,by rw[<- HE.out],by go_num,by omega,rfl,rfl⟩
     ·have ac:¬ (b:Int)=0:=by omega
      have aG:=Nat.mod_lt a (Nat.pos_of_ne_zero aL);have cf:BU (Nat.gcd b (a%b)=Jdv nx ny nz (i+1)):=by show _=_;rw[<- HN.out,Nat.gcd_comm a b,Nat.gcd_rec b a,Nat.gcd_comm]
      clear HN aL;go_wp2_with (fail)
      go_roundg (a%b)
      case measure=>have:=gU.out;omega
      case rel=>exact⟨b,a%b,rfl,by go_num,lb,by omega,rfl,rfl,cf⟩
   ·have e:i=3:=by omega
    subst e;rw[mG.out];have hGl:G<=4398046511104:=by have:=zm.out 3;rw[mG.out]at this;exact this
    obtain⟨c0,c1,c2,_,_,_⟩:=b0.out;obtain⟨r0,r1,r2,f0,f1,f2⟩:=b1.out;simp only[Pt.O]at r0 r1 r2;dsimp only at c0 c1 c2;by_cases h0:G=0
    ·have h0':(G:Int)=0:=by omega
     have e:r=⟨x,y,z⟩:=by rw[HL.out,if_pos h0]
     subst e;clear HL h0;go_wp2_with (fail);refine bodyPost_ret (v:=B_ #[J Y x,J Y y,J Y z]) (by simp[results,results199,go_sem,r0,r1,r2]) rfl ⟨rfl,?_⟩;exact Jc7 gh.out (by omega) _ _ _
    ·have h0':¬ (G:Int)=0:=by omega
     have h0p:0<(G:Int):=by omega
     have e:r=Pt.by ⟨x,y,z⟩ G:=by rw[HL.out,if_neg h0]
     clear HL;obtain⟨rx,ry,rz⟩:=r;simp only[Pt.by,Pt.mk.injEq]at e;obtain⟨rfl,rfl,rfl⟩:=e;clear h0;have ak:¬ w0.heap.size=w0.heap.size+1:=by omega
     go_wp2_with (fail);go_region;go_wp2_with (fail);refine bodyPost_ret (v:=B_ #[J Y (x.tdiv G),J Y (y.tdiv G),J Y (z.tdiv G)]) (by simp[results,results199,go_sem,r0,r1,r2]) rfl ⟨rfl,?_⟩;exact Jc7 gh.out.drew (by omega) _ _ _
theorem Jdh(p:Pt)(w0:BV):
  Cd Tryz.prog 183 #[p.v] w0 fun e W=>e = BZ p.short.v/\B9 w0.heap.size w0 W:=by
 have vf:BU (∀ q:Pt,q.inB 4398046511104=true->∀ w',Cd Tryz.prog 199 #[q.v] w' fun e W=>e = BZ q.low.v/\B9 w'.heap.size w' W):=fun q hq w'=>Jta q w' hq;have vg:BU (Box3 ((w0.alloc (BP #[J Y p.x,J Y p.y,J Y p.z] 23)).alloc (BP #[J Y 0,J Y 0,J Y 0] 23)) w0.heap.size p):=(Box3.new w0 p.x p.y p.z _).step (Jb _ _);have tg:BU (Box3 ((w0.alloc (BP #[J Y p.x,J Y p.y,J Y p.z] 23)).alloc (BP #[J Y 0,J Y 0,J Y 0] 23)) (w0.heap.size+1) Pt.O):=by have:=Box3.new (w0.alloc (BP #[J Y p.x,J Y p.y,J Y p.z] 23)) 0 0 0 23;rwa [JE]at this
 have mc:BU (B9 w0.heap.size w0 ((w0.alloc (BP #[J Y p.x,J Y p.y,J Y p.z] 23)).alloc (BP #[J Y 0,J Y 0,J Y 0] 23))):=Jc (Jb w0 _) (Jb _ _);obtain⟨r,hr⟩:∃ r,p.short=r:=⟨_,rfl⟩
 rw[hr];have HR:BU _:=hr;clear hr;have dj:BU (p.inB 4398046511104=(inR p.x (-4398046511104) 4398046511104&&(inR p.y (-4398046511104) 4398046511104&&inR p.z (-4398046511104) 4398046511104))):=by
  show _=_
  rw[Bool.eq_iff_iff,Pt.inB_iff];simp[inR]
 unfold Pt.v at *;go_enter func183,ntmps183;go_upto_region 1 with fail;obtain⟨V,hV⟩:∃ V:BV,V=(w0.alloc (BP #[J Y p.x,J Y p.y,J Y p.z] 23)).alloc (BP #[J Y 0,J Y 0,J Y 0] 23):=⟨_,rfl⟩
 rw[<- hV]at vg tg mc ⊢;clear hV;obtain⟨c0,c1,c2,_,_,_⟩:=vg.out;go_cut [19] from 4 (fun s wc=>s = BT (!(p.inB 4398046511104))/\wc=V)
 case first =>
  cases h1:inR p.x (-4398046511104) 4398046511104 with
  | false =>
   go_wp2_with (go_at_call 177;refine(Jaz _ _ _ _ false h1).mono ?_;rintro e w' ⟨rfl,rfl⟩);go_meet
   case rel=>exact⟨by rw[dj.out,h1];rfl,rfl⟩
  | true =>
   cases h2:inR p.y (-4398046511104) 4398046511104 with
   | false =>
    go_wp2_with (fail);refine JA (Jaz p.x _ _ _ true h1) ?_;rintro e w' ⟨rfl,rfl⟩;go_wp2_with (fail);refine JA (Jaz p.y _ _ _ false h2) ?_;rintro e w' ⟨rfl,rfl⟩;go_wp2_with (fail);go_meet
    case rel=>exact⟨by rw[dj.out,h1,h2];rfl,rfl⟩
   | true =>
    cases h3:inR p.z (-4398046511104) 4398046511104 with
    | false =>
     go_wp2_with (fail);refine JA (Jaz p.x _ _ _ true h1) ?_;rintro e w' ⟨rfl,rfl⟩;go_wp2_with (fail);refine JA (Jaz p.y _ _ _ true h2) ?_;rintro e w' ⟨rfl,rfl⟩;go_wp2_with (fail);refine JA (Jaz p.z _ _ _ false h3) ?_;rintro e w' ⟨rfl,rfl⟩;go_wp2_with (fail);go_meet
     case rel=>exact⟨by rw[dj.out,h1,h2,h3];rfl,rfl⟩
    | true =>
     go_wp2_with (fail);refine JA (Jaz p.x _ _ _ true h1) ?_;rintro e w' ⟨rfl,rfl⟩;go_wp2_with (fail);refine JA (Jaz p.y _ _ _ true h2) ?_;rintro e w' ⟨rfl,rfl⟩;go_wp2_with (fail);refine JA (Jaz p.z _ _ _ true h3) ?_;rintro e w' ⟨rfl,rfl⟩;go_wp2_with (fail);go_meet
     case rel=>exact⟨by rw[dj.out,h1,h2,h3];rfl,rfl⟩
 case rest =>
  obtain⟨rfl,rW⟩:=hcut;subst rW;clear dj c0 c1 c2;cases dN:p.inB 4398046511104 with
  | false =>
   have e:r=Pt.O:=by rw[<- HR.out];unfold Pt.short;rw[if_neg (by rw[dN];decide)]
   clear HR;subst e;obtain⟨c0,c1,c2,f0,f1,f2⟩:=tg.out;simp only[Pt.O]at c0 c1 c2;go_wp2_with (fail);refine bodyPost_ret (v:=B_ #[J Y 0,J Y 0,J Y 0]) (by simp[results,results183,go_sem,c0,c1,c2]) rfl ⟨rfl,?_⟩;exact Jc7 mc.out (by omega) 0 0 0
  | true =>
   have oj:=Pt.low_in dN;have HR:BU (r=(Jcy 43 p.low).low):=by show _=_;rw[<- HR.out];unfold Pt.short;rw[if_pos dN];rfl
   have dF:BU _:=vf.out p dN;obtain⟨c0,c1,c2,_,_,_⟩:=vg.out;go_wp2_with (fail);refine JA (dF.out _) ?_;clear dF c0 c1 c2;rintro e V2 ⟨rfl,hb⟩;have b1:BU _:=(tg.out.step hb).step (Jb V2 (BP #[J Y p.low.x,J Y p.low.y,J Y p.low.z] 23));have hB:BU _:=Jc (Jc mc.out hb) (Jb V2 (BP #[J Y p.low.x,J Y p.low.y,J Y p.low.z] 23));have b3:BU _:=Box3.new V2 p.low.x p.low.y p.low.z 23;have cF:w0.heap.size+1<V2.heap.size:=(tg.out.step hb).lt;clear hb;go_wp2_with (fail);obtain⟨bq,AK⟩:∃ bq,bq=V2.heap.size:=⟨_,rfl⟩
   rw[<- AK]at b3 cF ⊢;have l_:p.low.inB (2 ^ 43:Nat)=true:=J8 oj (by decide)
   go_loopg [] 43 (fun g wr=>∃ q:Pt,BU (Box3 wr bq q)/\BU (Box3 wr (w0.heap.size+1) Pt.O)/\BU (B9 w0.heap.size w0 wr)/\g<=43/\BU (Jcy g q=Jcy 43 p.low)/\BU (q.inB (2 ^ g:Nat)=true))
   case atStart=>exact⟨p.low,b3,b1,hB,Nat.le_refl _,rfl,l_⟩
   case round =>
    clear b3 b1 hB l_ AK;obtain⟨q,b3,b1,hB,hg,HF,HI⟩:=hrel;have hG:BU _:=hg;have fL:q.inB 1152921504606846976=true:=J8 HI.out (by have:=Jsk _ hg;omega);rw[Pt.inB_iff]at fL;clear hg;obtain⟨c0,c1,c2,f0,f1,f2⟩:=b3.out;have HX:BU (q.inB 1048576 = !(decide (1048576<(q.x.natAbs:Int)) ||(decide (1048576<(q.y.natAbs:Int))||decide (1048576<(q.z.natAbs:Int))))):=by
     show _=_
     rw[Bool.eq_iff_iff,Pt.inB_iff];simp;omega
    go_upto_region 4 with fail;go_cut [38] from 23 to 48 (fun s wc=>s = BT (!(q.inB 1048576))/\wc=wr)
    case first =>
     by_cases h1:1048576<(q.x.natAbs:Int)
     ·go_wp2_with (fail);refine JA (Jb2 q.x _ fL.1) ?_;rintro e w' ⟨rfl,rfl⟩;go_wp2_with (fail);go_meet
      case rel=>exact⟨by rw[HX.out];simp[h1],rfl⟩
     ·by_cases h2:1048576<(q.y.natAbs:Int)
      ·go_wp2_with (fail);refine JA (Jb2 q.x _ fL.1) ?_;rintro e w' ⟨rfl,rfl⟩;go_wp2_with (fail);refine JA (Jb2 q.y _ fL.2.1) ?_;rintro e w' ⟨rfl,rfl⟩;go_wp2_with (fail);go_meet
       case rel=>exact⟨by rw[HX.out];simp[h2],rfl⟩
      ·go_wp2_with (fail);refine JA (Jb2 q.x _ fL.1) ?_;rintro e w' ⟨rfl,rfl⟩;go_wp2_with (fail);refine JA (Jb2 q.y _ fL.2.1) ?_;rintro e w' ⟨rfl,rfl⟩;go_wp2_with (fail);refine JA (Jb2 q.z _ fL.2.2) ?_;rintro e w' ⟨rfl,rfl⟩;go_wp2_with (fail);go_meet
       case rel=>exact⟨by rw[HX.out,Bool.not_not,decide_eq_false (p:=1048576<(q.x.natAbs:Int)) (by omega),decide_eq_false (p:=1048576<(q.y.natAbs:Int)) (by omega)];rfl,rfl⟩
    case rest =>
     obtain⟨rfl,rW⟩:=hcut;subst rW;clear HX;cases hq:q.inB 1048576 with
     | false =>
      obtain⟨j,hj,ej,rX⟩:=Jlf _ q hq HI.out;have HJ:BU _:=And.intro hj (And.intro ej rX);have b3:BU (Box3 (set3 wc bq (q.by 2).x (q.by 2).y (q.by 2).z) bq (q.by 2)):=b3.out.set _ _ _;have b1:BU (Box3 (set3 wc bq (q.by 2).x (q.by 2).y (q.by 2).z) (w0.heap.size+1) Pt.O):=b1.out.other (by omega) _ _ _;have hB:BU (B9 w0.heap.size w0 (set3 wc bq (q.by 2).x (q.by 2).y (q.by 2).z)):=Jc7 hB.out (by omega) _ _ _;unfold set3 at b3 b1 hB;clear hj ej rX;go_wp2_with (fail)
      go_roundg j
      case measure=>have:=HJ.out.1;omega
      case rel=>exact⟨q.by 2,b3,b1,hB,by have:=HJ.out.1;have:=hG.out;omega,HJ.out.2.1.symm.trans HF.out,HJ.out.2.2⟩
     | true =>
      have e:r=q.low:=by rw[HR.out,<- HF.out,Jqa _ _ hq]
      have dF:BU _:=vf.out q (J8 hq (by decide));rw[<- e]at dF;clear e HR HF HI vf;go_wp2_with (fail);refine JA (dF.out _) ?_;clear dF c0 c1 c2 f0 f1 f2;rintro e V4 ⟨rfl,hb⟩;obtain⟨c0,c1,c2,f0,f1,f2⟩:=b1.out.step hb;have hB:BU _:=Jc hB.out hb;go_wp2_with (fail);refine bodyPost_ret (v:=B_ #[J Y r.x,J Y r.y,J Y r.z]) (by simp[results,results183,go_sem,c0,c1,c2]) rfl ⟨rfl,?_⟩;exact Jc7 hB.out (by omega) _ _ _
end
end Go.Proofs.YtkblcfgamnmbkaaGreat
