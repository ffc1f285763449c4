/- The reference's sums of products and norms (tumblerref01), and package fx's Jah of whatever slice. -/
import Derived.Test.YtkblcfgamnmbkaaGreatEBRight4
import Derived.Test.YtkblcfgamnmbkaaGreatEBRight2
import Derived.Test.YtkblcfgamnmbkaaGreatEBRight3
import Derived.Test.YtkblcfgamnmbkaaGreatEBRight0
set_option maxHeartbeats 8000000
set_option maxRecDepth 100000
set_option linter.unusedVariables false
namespace Go.Proofs.YtkblcfgamnmbkaaGreat
open Go.Calls renaming mono -> JA
open Go.World renaming block_lt_of_cell? -> JB
open Go.Region renaming binds -> JC
open Go renaming execOp -> JD
open Go.World renaming size_alloc -> JE
open Go.Proofs.Tryz
open Go.Value renaming int -> J
open Go.IntKind renaming i64 -> Y
open Go.Value renaming pointer -> BO
open Go.Obj renaming cells -> BP
open Go.Value renaming slice -> BQ
open Go.Value renaming bool -> BT
open Go.RowKit renaming Hid -> BU
open Go renaming World -> BV
open Go.Ending renaming returned -> BZ
open Go renaming Value -> B7
open Go.RowKit renaming Below -> B9
open Go.Value renaming agg -> B_
open Go renaming Calls -> Cd
open Go renaming Addr -> Ce
section
open Go.RowKit Ref Fx
theorem Jga(zs:List Int)(a:Option Ce)(cap:Nat)(w:BV)(cJ:zs.length<=4611686018427387904)(h:Jc2 w a zs):
  Cd Tryz.prog 133 #[BQ a zs.length cap] w fun e w'=>e = BZ (BT (zs.any great))/\w'=w:=by
 rcases h with h |⟨b,off,rfl,h⟩
 ·obtain rfl:zs = []:=List.length_eq_zero_iff.1 h;exact Jnw a cap w
 ·exact Jgk zs b off cap w cJ h
theorem Jro(a c:Option Ce)(cap cap':Nat)(w:BV):
  Cd Tryz.prog 156 #[BQ a 0 cap,BQ c 0 cap'] w fun e w'=>∃ s d,e = BZ (wv s d)/\BU (Digs d/\sv s d=0)/\BU (B9 w.heap.size w w'):=by
 go_enter func156,ntmps156;go_wp2
 go_rounds 1
 try simp only[Exit.inBlock,Exit.then]
 refine bodyPost_ret (by simp[results,results156,go_sem];try rfl) rfl ?_;exact⟨false,fun _=>0,rfl,⟨fun j _=>by simp,by simp[sv,val]⟩,by show B9 _ _ _;go_grown⟩
theorem Jlk(zs ys:List Int)(a c:Option Ce)(cap cap':Nat)(w:BV)(hl:zs.length<=8)(he:zs.length=ys.length)(hg:zs.any great=false)(hg':ys.any great=false)(ha:Jc2 w a zs)(hb:Jc2 w c ys):
  Cd Tryz.prog 156 #[BQ a zs.length cap,BQ c ys.length cap'] w fun e w'=>∃ s d,e = BZ (wv s d)/\BU (Digs d/\sv s d=Jaf zs ys)/\BU (B9 w.heap.size w w'):=by
 by_cases h0:zs.length=0
 ·obtain rfl:zs = []:=List.length_eq_zero_iff.1 h0;obtain rfl:ys = []:=List.length_eq_zero_iff.1 (by omega);exact Jro a c cap cap' w
 ·obtain⟨ba,oa,rfl,hz⟩:=ha.resolve_left h0;obtain⟨bb,ob,rfl,hy⟩:=hb.resolve_left (by omega);exact Jsg zs ys ba oa bb ob cap cap' w hl he hg hg' hz hy
theorem Jvc(X:Int):fl X 4294967296=X / 4294967296:=by unfold fl;rw[if_neg (by omega)]
theorem Jch(b off:Nat)(f:Bool)(zs ys:List Int)(a c:Option Ce)(cap cap':Nat)(w:BV)(hc:w.cell? ⟨b,off,none⟩=some (BT f))(hf:w.frozen? ⟨b,off,none⟩=false)
  (hz:zs.length<=4611686018427387904) (hy:ys.length<=4611686018427387904) (ha:Jc2 w a zs) (hb:Jc2 w c ys) :
  Cd Tryz.prog 163 #[BO (some ⟨b,off,none⟩),BQ a zs.length cap,BQ c ys.length cap'] w fun e W'=>∃ v g,e = BZ (J Y v)/\BU (Ja1 f (dot zs ys) v g)/\BU (After ⟨b,off,none⟩ g w W'):=by
 have HC:BU _:=hc;have HF:BU _:=hf;have C2:BU _:=Ja8 b off f 0 false w hc hf;have C1:=Jga zs a cap w hz ha;have C3:=Jga ys c cap' w hy hb;by_cases h1:zs.length=ys.length
 ·have h1':((zs.length:Int) != (ys.length:Int))=false:=by simp[h1]
  by_cases h8:8<zs.length
  ·have HA:BU _:=(by unfold dot;rw[if_neg (by omega),if_pos h8]:dot zs ys=none)
   clear C1 C3 h1 hc hf ha hb;go_enter func163,ntmps163;go_wp2_with (fail);refine JA C2.out ?_;rintro e w2 ⟨rfl,aj⟩;go_wp2_with (fail);go_ret;exact Jbg HA.out.symm (Below.refl _ _) aj HC.out HF.out
  ·cases hg:zs.any great
   ·cases eX:ys.any great
    ·have HA:BU _:=(by unfold dot;rw[if_neg (by omega),if_neg h8,hg,eX];rfl:dot zs ys=Fx.told (Jaf zs ys / 4294967296))
     have HS:BU _:=Jlk zs ys a c cap cap' w (by omega) h1 hg eX ha hb;rw[hg]at C1;rw[eX]at C3;have K1:BU _:=C1;have K3:BU _:=C3;clear C1 C3 h1 hc hf ha hb hg eX C2;go_enter func163,ntmps163;go_wp2_with (fail);refine JA K1.out ?_;rintro e w1 ⟨rfl,hw⟩;rw[hw];clear hw;go_wp2_with (fail);refine JA K3.out ?_;rintro e w1 ⟨rfl,hw⟩;rw[hw];clear hw;go_wp2_with (fail);refine JA HS.out ?_;rintro e w1 ⟨s,d,rfl,S1,B1⟩;go_wp2_with (fail);refine(Jh3 s d 4294967296 _ S1.out.1 (by omega) (by omega) (by omega)).mono ?_;rintro e w3 ⟨n,ok,rfl,S3,B3⟩;have B5:BU (B9 w.heap.size w w3):=Ju B1.out B3.out;have S5:BU _:=Jfu S3.out;rw[S1.out.2,Jvc]at S5;clear S1 S3 B1 B3 K1 K3 HS;go_wp2_with (fail);refine(Ja8 b off f n ok _ (Jf B5.out HC.out) (Jg B5.out HC.out HF.out)).mono ?_;rintro e w6 ⟨rfl,aj⟩;go_wp2_with (fail);go_ret;exact Jbg (S5.out.trans HA.out.symm) B5.out aj HC.out HF.out
    ·have HA:BU _:=(by unfold dot;rw[if_neg (by omega),if_neg h8,hg,eX];rfl:dot zs ys=none)
     rw[hg]at C1;rw[eX]at C3;have K1:BU _:=C1;have K3:BU _:=C3;clear C1 C3 h1 hc hf ha hb hg eX;go_enter func163,ntmps163;go_wp2_with (fail);refine JA K1.out ?_;rintro e w1 ⟨rfl,hw⟩;rw[hw];clear hw;go_wp2_with (fail);refine JA K3.out ?_;rintro e w1 ⟨rfl,hw⟩;rw[hw];clear hw;go_wp2_with (fail);refine JA C2.out ?_;rintro e w2 ⟨rfl,aj⟩;go_wp2_with (fail);go_ret;exact Jbg HA.out.symm (Below.refl _ _) aj HC.out HF.out
   ·have HA:BU _:=(by unfold dot;rw[if_neg (by omega),if_neg h8,hg];rfl:dot zs ys=none)
    obtain⟨g2,eX⟩:∃ g,g=ys.any great:=⟨_,rfl⟩
    rw[hg]at C1;rw[<- eX]at C3;have K1:BU _:=C1;have K3:BU _:=C3;clear C1 C3 h1 hc hf ha hb hg eX;go_enter func163,ntmps163;go_wp2_with (fail);refine JA K1.out ?_;rintro e w1 ⟨rfl,hw⟩;rw[hw];clear hw;go_wp2_with (fail);refine JA K3.out ?_;rintro e w1 ⟨rfl,hw⟩;rw[hw];clear hw;go_wp2_with (fail);refine JA C2.out ?_;rintro e w2 ⟨rfl,aj⟩;go_wp2_with (fail);go_ret;exact Jbg HA.out.symm (Below.refl _ _) aj HC.out HF.out
 ·have h1':((zs.length:Int) != (ys.length:Int))=true:=by simp;omega
  have HA:BU _:=(by unfold dot;rw[if_pos h1]:dot zs ys=none)
  clear C1 C3 hc hf ha hb;go_enter func163,ntmps163;go_wp2_with (fail);refine JA C2.out ?_;rintro e w2 ⟨rfl,aj⟩;go_wp2_with (fail);go_ret;exact Jbg HA.out.symm (Below.refl _ _) aj HC.out HF.out
theorem Jg8(b off:Nat)(f:Bool)(zs:List Int)(a:Option Ce)(cap:Nat)(w:BV)(hc:w.cell? ⟨b,off,none⟩=some (BT f))(hf:w.frozen? ⟨b,off,none⟩=false)
  (hz:zs.length<=4611686018427387904) (ha:Jc2 w a zs) :
  Cd Tryz.prog 93 #[BO (some ⟨b,off,none⟩),BQ a zs.length cap] w fun e W'=>∃ v g,e = BZ (J Y v)/\BU (Ja1 f (Jah zs) v g)/\BU (After ⟨b,off,none⟩ g w W'):=by
 have HC:BU _:=hc;have HF:BU _:=hf;have C2:BU _:=Ja8 b off f 0 false w hc hf;have C1:=Jga zs a cap w hz ha;by_cases h8:8<zs.length
 ·have HA:BU _:=(by unfold Jah;rw[if_pos h8]:Jah zs=none)
  clear C1 hc hf ha;go_enter func93,ntmps93;go_wp2_with (fail);refine JA C2.out ?_;rintro e w2 ⟨rfl,aj⟩;go_wp2_with (fail);go_ret;exact Jbg HA.out.symm (Below.refl _ _) aj HC.out HF.out
 ·cases hg:zs.any great
  ·have HA:BU _:=(by unfold Jah;rw[if_neg h8,hg];rfl:Jah zs=Fx.told (isq (Jaf zs zs).toNat))
   have HS:BU _:=Jlk zs zs a a cap cap w (by omega) rfl hg hg ha ha;rw[hg]at C1;have K1:BU _:=C1;clear C1 hc hf ha hg C2;go_enter func93,ntmps93;go_wp2_with (fail);refine JA K1.out ?_;rintro e w1 ⟨rfl,hw⟩;rw[hw];clear hw;go_wp2_with (fail);refine JA HS.out ?_;rintro e w1 ⟨s,d,rfl,S1,B1⟩;go_wp2_with (fail);refine(Jqg s d _ S1.out.1 (by rw[S1.out.2];exact Jei zs)).mono ?_;rintro e w3 ⟨n,ok,rfl,S3,B3⟩;have B5:BU (B9 w.heap.size w w3):=Ju B1.out B3.out;have S5:BU _:=Jfu S3.out;rw[S1.out.2]at S5;clear S1 S3 B1 B3 K1 HS;go_wp2_with (fail);refine(Ja8 b off f n ok _ (Jf B5.out HC.out) (Jg B5.out HC.out HF.out)).mono ?_;rintro e w6 ⟨rfl,aj⟩;go_wp2_with (fail);go_ret;exact Jbg (S5.out.trans HA.out.symm) B5.out aj HC.out HF.out
  ·have HA:BU _:=(by unfold Jah;rw[if_neg h8,hg];rfl:Jah zs=none)
   rw[hg]at C1;have K1:BU _:=C1;clear C1 hc hf ha hg;go_enter func93,ntmps93;go_wp2_with (fail);refine JA K1.out ?_;rintro e w1 ⟨rfl,hw⟩;rw[hw];clear hw;go_wp2_with (fail);refine JA C2.out ?_;rintro e w2 ⟨rfl,aj⟩;go_wp2_with (fail);go_ret;exact Jbg HA.out.symm (Below.refl _ _) aj HC.out HF.out
theorem Jq0(b off:Nat)(f:Bool)(x0 x1 x2 y0 y1 y2:Int)(W:BV)(hc:W.cell? ⟨b,off,none⟩=some (BT f))(hf:W.frozen? ⟨b,off,none⟩=false):
  Cd Tryz.prog 107 #[BO (some ⟨b,off,none⟩),B_ #[J Y x0,J Y x1,J Y x2],B_ #[J Y y0,J Y y1,J Y y2]] W fun e W'=>∃ v0 v1 v2 g,e = BZ (B_ #[J Y v0,J Y v1,J Y v2])/\BU (Jco f (add x0 y0) (add x1 y1) (add x2 y2) v0 v1 v2 g)/\BU (After ⟨b,off,none⟩ g W W'):=by
 have aO:b<W.heap.size:=JB _ _ hc;go_enter func107,ntmps107;go_wp2_with (fail);refine(Jbm _).mono ?_;rintro e W1 ⟨rfl,rfl⟩;obtain⟨U,hU⟩:∃ U,U=((((W.alloc (BP #[J Y x0,J Y x1,J Y x2] 27)).alloc (BP #[J Y y0,J Y y1,J Y y2] 27)).alloc (BP #[J Y 0,J Y 0,J Y 0] 27)).alloc (BP #[BT false] 57)):=⟨_,rfl⟩
 obtain⟨pa,aU⟩:∃ p,p=W.heap.size:=⟨_,rfl⟩
 obtain⟨pb,aF⟩:∃ p,p=W.heap.size+1:=⟨_,rfl⟩
 obtain⟨pr,aB⟩:∃ p,p=W.heap.size+1+1:=⟨_,rfl⟩
 obtain⟨po,aV⟩:∃ p,p=W.heap.size+1+1+1:=⟨_,rfl⟩
 have H:BU (Ho W U ⟨b,off,none⟩ po f false [(⟨pa,0,none⟩,J Y x0),(⟨pa,1,none⟩,J Y x1),(⟨pa,2,none⟩,J Y x2),(⟨pb,0,none⟩,J Y y0),(⟨pb,1,none⟩,J Y y1),(⟨pb,2,none⟩,J Y y2),(⟨pr,0,none⟩,J Y 0),(⟨pr,1,none⟩,J Y 0),(⟨pr,2,none⟩,J Y 0)]):=by
  refine⟨by rw[hU];exact(((((Leaves.refl _ _).alloc _).alloc _).alloc _).alloc _),by rw[hU,World.cell?_alloc_past _ _ _ (by simp;omega),World.cell?_alloc_past _ _ _ (by simp;omega),World.cell?_alloc_past _ _ _ (by simp;omega),World.cell?_alloc_past _ _ _ aO];exact hc,by rw[hU,((Jd _ _).frozen (by simp;omega)),((Jd _ _).frozen (by simp;omega)),((Jd _ _).frozen (by simp;omega)),((Jd _ _).frozen aO)];exact hf,by rw[hU,aV];simp[go_sem],by rw[hU,aV];simp[go_sem],?_,?_,aO,by omega⟩
  ·intro c hc;simp only[List.mem_cons,List.not_mem_nil,or_false]at hc;rcases hc with rfl | rfl | rfl | rfl | rfl | rfl | rfl | rfl | rfl <;> rw[hU] <;> dsimp only <;> first |(rw[aU];exact⟨by simp[go_sem],by simp[go_sem]⟩) |(rw[aF];exact⟨by simp[go_sem],by simp[go_sem]⟩) |(rw[aB];exact⟨by simp[go_sem],by simp[go_sem]⟩)
  ·intro c hc;simp only[List.mem_cons,List.not_mem_nil,or_false]at hc;rcases hc with rfl | rfl | rfl | rfl | rfl | rfl | rfl | rfl | rfl <;> (dsimp only) <;> omega
 rw[<- hU];simp only[JE];rw[<- aV,<- aB,<- aF,<- aU];have q1:pa<pb:=by omega
 have q2:pb<pr:=by omega
 have q3:pr<po:=by omega
 have q0:W.heap.size<=pa:=by omega
 clear hU hc hf aU aF aB aV;have aa:=(H.out.fix (⟨pa,0,none⟩,J Y x0) (by simp)).1;have af:=(H.out.fix (⟨pa,1,none⟩,J Y x1) (by simp)).1;have ag:=(H.out.fix (⟨pa,2,none⟩,J Y x2) (by simp)).1;have aw:=(H.out.fix (⟨pb,0,none⟩,J Y y0) (by simp)).1;have aR:=(H.out.fix (⟨pb,1,none⟩,J Y y1) (by simp)).1;have aS:=(H.out.fix (⟨pb,2,none⟩,J Y y2) (by simp)).1;have aq:=JB _ _ aa;dsimp only at aq;have bf:=JB _ _ aw;dsimp only at bf;have ho:=H.out.own;have aH:=H.out.ownf;go_wp2_with (fail);refine(Jc8 po 0 false x0 y0 _ ho aH).mono ?_;rintro e lH ⟨v0,g1,rfl,fI,A⟩;have H:BU _:=H.out.after A.out;clear A aa af ag aw aR aS aq bf ho aH;have aa:=(H.out.fix (⟨pa,0,none⟩,J Y x0) (by simp)).1;have af:=(H.out.fix (⟨pa,1,none⟩,J Y x1) (by simp)).1;have ag:=(H.out.fix (⟨pa,2,none⟩,J Y x2) (by simp)).1;have aw:=(H.out.fix (⟨pb,0,none⟩,J Y y0) (by simp)).1;have aR:=(H.out.fix (⟨pb,1,none⟩,J Y y1) (by simp)).1;have aS:=(H.out.fix (⟨pb,2,none⟩,J Y y2) (by simp)).1;have aq:=JB _ _ aa;dsimp only at aq;have bf:=JB _ _ aw;dsimp only at bf;have ho:=H.out.own;have aH:=H.out.ownf;go_wp2_with (fail);refine(Jc8 po 0 g1 x1 y1 _ ho aH).mono ?_;rintro e nd ⟨v1,g2,rfl,ic,A⟩;have H:BU _:=H.out.after A.out;clear A aa af ag aw aR aS aq bf ho aH;have aa:=(H.out.fix (⟨pa,0,none⟩,J Y x0) (by simp)).1;have af:=(H.out.fix (⟨pa,1,none⟩,J Y x1) (by simp)).1;have ag:=(H.out.fix (⟨pa,2,none⟩,J Y x2) (by simp)).1;have aw:=(H.out.fix (⟨pb,0,none⟩,J Y y0) (by simp)).1;have aR:=(H.out.fix (⟨pb,1,none⟩,J Y y1) (by simp)).1;have aS:=(H.out.fix (⟨pb,2,none⟩,J Y y2) (by simp)).1;have aq:=JB _ _ aa;dsimp only at aq;have bf:=JB _ _ aw;dsimp only at bf;have ho:=H.out.own;have aH:=H.out.ownf;go_wp2_with (fail);refine(Jc8 po 0 g2 x2 y2 _ ho aH).mono ?_;rintro e pG ⟨v2,g3,rfl,kl,A⟩;have H:BU _:=H.out.after A.out;clear A aa af ag aw aR aS aq bf ho aH;go_wp2_with (fail);refine(Jb4 b off po f g3 _ H.out.flag H.out.flagf H.out.own (by omega)).mono ?_;rintro e V9 ⟨rfl,A⟩;have bN:=A.out.cellOf (H.out.fix (⟨pr,0,none⟩,J Y 0) (by simp)).1 (by show pr≠b;omega);have dt:=A.out.frozenOf (H.out.fix (⟨pr,0,none⟩,J Y 0) (by simp)).1 (H.out.fix (⟨pr,0,none⟩,J Y 0) (by simp)).2 (by show pr≠b;omega);have bO:=A.out.cellOf (H.out.fix (⟨pr,1,none⟩,J Y 0) (by simp)).1 (by show pr≠b;omega);have du:=A.out.frozenOf (H.out.fix (⟨pr,1,none⟩,J Y 0) (by simp)).1 (H.out.fix (⟨pr,1,none⟩,J Y 0) (by simp)).2 (by show pr≠b;omega);have bP:=A.out.cellOf (H.out.fix (⟨pr,2,none⟩,J Y 0) (by simp)).1 (by show pr≠b;omega);have dv:=A.out.frozenOf (H.out.fix (⟨pr,2,none⟩,J Y 0) (by simp)).1 (H.out.fix (⟨pr,2,none⟩,J Y 0) (by simp)).2 (by show pr≠b;omega);have HL:BU (Leaves ⟨b,off,none⟩ W V9):=H.out.leaves.same A.out;have hp:=A.out.cell;have bg:=A.out.frozen;have n1:b≠pr:=by omega
 have n2:pr≠b:=by omega
 have aE:W.heap.size<=pr:=by omega
 have HS:BU _:=Jfm (f:=f) fI.out ic.out kl.out;clear A H;cases g3 with
 | true =>
  go_wp2_with (fail);refine bodyPost_ret (by simp[results,results107,go_sem,bN,bO,bP];try rfl) rfl ?_;refine⟨0,0,0,_,rfl,HS.out,(((HL.out.set aE _).set aE _).set aE _).done ?_ ?_⟩
  ·simp[go_sem,hp]
  ·simp[go_sem,bg]
 | false =>
  go_wp2_with (fail);refine bodyPost_ret (by simp[results,results107,go_sem,bN,bO,bP];try rfl) rfl ?_;refine⟨_,_,_,_,rfl,HS.out,(((HL.out.set aE _).set aE _).set aE _).done ?_ ?_⟩
  ·simp[go_sem,hp]
  ·simp[go_sem,bg]
theorem Jl6(b off:Nat)(f:Bool)(x0 x1 x2 n:Int)(W:BV)(hc:W.cell? ⟨b,off,none⟩=some (BT f))(hf:W.frozen? ⟨b,off,none⟩=false):
  Cd Tryz.prog 112 #[BO (some ⟨b,off,none⟩),B_ #[J Y x0,J Y x1,J Y x2],J Y n] W fun e W'=>∃ v0 v1 v2 g,e = BZ (B_ #[J Y v0,J Y v1,J Y v2])/\BU (Jco f (mul x0 n) (mul x1 n) (mul x2 n) v0 v1 v2 g)/\BU (After ⟨b,off,none⟩ g W W'):=by
 have aO:b<W.heap.size:=JB _ _ hc;go_enter func112,ntmps112;go_wp2_with (fail);refine(Jbm _).mono ?_;rintro e W1 ⟨rfl,rfl⟩;obtain⟨U,hU⟩:∃ U,U=(((W.alloc (BP #[J Y x0,J Y x1,J Y x2] 27)).alloc (BP #[J Y 0,J Y 0,J Y 0] 27)).alloc (BP #[BT false] 57)):=⟨_,rfl⟩
 obtain⟨pa,aU⟩:∃ p,p=W.heap.size:=⟨_,rfl⟩
 obtain⟨pr,aB⟩:∃ p,p=W.heap.size+1:=⟨_,rfl⟩
 obtain⟨po,aV⟩:∃ p,p=W.heap.size+1+1:=⟨_,rfl⟩
 have H:BU (Ho W U ⟨b,off,none⟩ po f false [(⟨pa,0,none⟩,J Y x0),(⟨pa,1,none⟩,J Y x1),(⟨pa,2,none⟩,J Y x2),(⟨pr,0,none⟩,J Y 0),(⟨pr,1,none⟩,J Y 0),(⟨pr,2,none⟩,J Y 0)]):=by
  refine⟨by rw[hU];exact((((Leaves.refl _ _).alloc _).alloc _).alloc _),by rw[hU,World.cell?_alloc_past _ _ _ (by simp;omega),World.cell?_alloc_past _ _ _ (by simp;omega),World.cell?_alloc_past _ _ _ aO];exact hc,by rw[hU,((Jd _ _).frozen (by simp;omega)),((Jd _ _).frozen (by simp;omega)),((Jd _ _).frozen aO)];exact hf,by rw[hU,aV];simp[go_sem],by rw[hU,aV];simp[go_sem],?_,?_,aO,by omega⟩
  ·intro c hc;simp only[List.mem_cons,List.not_mem_nil,or_false]at hc;rcases hc with rfl | rfl | rfl | rfl | rfl | rfl <;> rw[hU] <;> dsimp only <;> first |(rw[aU];exact⟨by simp[go_sem],by simp[go_sem]⟩) |(rw[aB];exact⟨by simp[go_sem],by simp[go_sem]⟩)
  ·intro c hc;simp only[List.mem_cons,List.not_mem_nil,or_false]at hc;rcases hc with rfl | rfl | rfl | rfl | rfl | rfl <;> (dsimp only) <;> omega
 rw[<- hU];simp only[JE];rw[<- aV,<- aB,<- aU];have q1:pa<pr:=by omega
 have q2:pr<po:=by omega
 have q0:W.heap.size<=pa:=by omega
 clear hU hc hf aU aB aV;have aa:=(H.out.fix (⟨pa,0,none⟩,J Y x0) (by simp)).1;have af:=(H.out.fix (⟨pa,1,none⟩,J Y x1) (by simp)).1;have ag:=(H.out.fix (⟨pa,2,none⟩,J Y x2) (by simp)).1;have aq:=JB _ _ aa;dsimp only at aq;have ho:=H.out.own;have aH:=H.out.ownf;go_wp2_with (fail);refine(Jgn po 0 false x0 n _ ho aH).mono ?_;rintro e lH ⟨v0,g1,rfl,fI,A⟩;have H:BU _:=H.out.after A.out;clear A aa af ag aq ho aH;have aa:=(H.out.fix (⟨pa,0,none⟩,J Y x0) (by simp)).1;have af:=(H.out.fix (⟨pa,1,none⟩,J Y x1) (by simp)).1;have ag:=(H.out.fix (⟨pa,2,none⟩,J Y x2) (by simp)).1;have aq:=JB _ _ aa;dsimp only at aq;have ho:=H.out.own;have aH:=H.out.ownf;go_wp2_with (fail);refine(Jgn po 0 g1 x1 n _ ho aH).mono ?_;rintro e nd ⟨v1,g2,rfl,ic,A⟩;have H:BU _:=H.out.after A.out;clear A aa af ag aq ho aH;have aa:=(H.out.fix (⟨pa,0,none⟩,J Y x0) (by simp)).1;have af:=(H.out.fix (⟨pa,1,none⟩,J Y x1) (by simp)).1;have ag:=(H.out.fix (⟨pa,2,none⟩,J Y x2) (by simp)).1;have aq:=JB _ _ aa;dsimp only at aq;have ho:=H.out.own;have aH:=H.out.ownf;go_wp2_with (fail);refine(Jgn po 0 g2 x2 n _ ho aH).mono ?_;rintro e pG ⟨v2,g3,rfl,kl,A⟩;have H:BU _:=H.out.after A.out;clear A aa af ag aq ho aH;go_wp2_with (fail);refine(Jb4 b off po f g3 _ H.out.flag H.out.flagf H.out.own (by omega)).mono ?_;rintro e V9 ⟨rfl,A⟩;have bN:=A.out.cellOf (H.out.fix (⟨pr,0,none⟩,J Y 0) (by simp)).1 (by show pr≠b;omega);have dt:=A.out.frozenOf (H.out.fix (⟨pr,0,none⟩,J Y 0) (by simp)).1 (H.out.fix (⟨pr,0,none⟩,J Y 0) (by simp)).2 (by show pr≠b;omega);have bO:=A.out.cellOf (H.out.fix (⟨pr,1,none⟩,J Y 0) (by simp)).1 (by show pr≠b;omega);have du:=A.out.frozenOf (H.out.fix (⟨pr,1,none⟩,J Y 0) (by simp)).1 (H.out.fix (⟨pr,1,none⟩,J Y 0) (by simp)).2 (by show pr≠b;omega);have bP:=A.out.cellOf (H.out.fix (⟨pr,2,none⟩,J Y 0) (by simp)).1 (by show pr≠b;omega);have dv:=A.out.frozenOf (H.out.fix (⟨pr,2,none⟩,J Y 0) (by simp)).1 (H.out.fix (⟨pr,2,none⟩,J Y 0) (by simp)).2 (by show pr≠b;omega);have HL:BU (Leaves ⟨b,off,none⟩ W V9):=H.out.leaves.same A.out;have hp:=A.out.cell;have bg:=A.out.frozen;have n1:b≠pr:=by omega
 have n2:pr≠b:=by omega
 have aE:W.heap.size<=pr:=by omega
 have HS:BU _:=Jfm (f:=f) fI.out ic.out kl.out;clear A H;cases g3 with
 | true =>
  go_wp2_with (fail);refine bodyPost_ret (by simp[results,results112,go_sem,bN,bO,bP];try rfl) rfl ?_;refine⟨0,0,0,_,rfl,HS.out,(((HL.out.set aE _).set aE _).set aE _).done ?_ ?_⟩
  ·simp[go_sem,hp]
  ·simp[go_sem,bg]
 | false =>
  go_wp2_with (fail);refine bodyPost_ret (by simp[results,results112,go_sem,bN,bO,bP];try rfl) rfl ?_;refine⟨_,_,_,_,rfl,HS.out,(((HL.out.set aE _).set aE _).set aE _).done ?_ ?_⟩
  ·simp[go_sem,hp]
  ·simp[go_sem,bg]
theorem Jiu{f g:Bool}{o:Option Int}{v:Int}(h:Ja1 false o v g):Ja1 f o v (f||g):=by
 obtain⟨rfl,rfl⟩:=h;exact⟨rfl,by simp only[Bool.false_or]⟩
theorem Jhd(b off:Nat)(f:Bool)(x0 x1 x2 y0 y1 y2:Int)(W:BV)(hc:W.cell? ⟨b,off,none⟩=some (BT f))(hf:W.frozen? ⟨b,off,none⟩=false):
  Cd Tryz.prog 136 #[BO (some ⟨b,off,none⟩),B_ #[J Y x0,J Y x1,J Y x2],B_ #[J Y y0,J Y y1,J Y y2]] W fun e W'=>∃ v g,e = BZ (J Y v)/\BU (Ja1 f (dot [x0,x1,x2] [y0,y1,y2]) v g)/\BU (After ⟨b,off,none⟩ g W W'):=by
 have aO:b<W.heap.size:=JB _ _ hc;go_enter func136,ntmps136;go_wp2_with (fail);refine(Jbm _).mono ?_;rintro e W1 ⟨rfl,rfl⟩;obtain⟨U,hU⟩:∃ U,U=(((W.alloc (BP #[J Y x0,J Y x1,J Y x2] 27)).alloc (BP #[J Y y0,J Y y1,J Y y2] 27)).alloc (BP #[BT false] 57)):=⟨_,rfl⟩
 obtain⟨pa,aU⟩:∃ p,p=W.heap.size:=⟨_,rfl⟩
 obtain⟨pb,aF⟩:∃ p,p=W.heap.size+1:=⟨_,rfl⟩
 obtain⟨po,aV⟩:∃ p,p=W.heap.size+1+1:=⟨_,rfl⟩
 have H:BU (Ho W U ⟨b,off,none⟩ po f false [(⟨pa,0,none⟩,J Y x0),(⟨pa,1,none⟩,J Y x1),(⟨pa,2,none⟩,J Y x2),(⟨pb,0,none⟩,J Y y0),(⟨pb,1,none⟩,J Y y1),(⟨pb,2,none⟩,J Y y2)]):=by
  refine⟨by rw[hU];exact((((Leaves.refl _ _).alloc _).alloc _).alloc _),by rw[hU,World.cell?_alloc_past _ _ _ (by simp;omega),World.cell?_alloc_past _ _ _ (by simp;omega),World.cell?_alloc_past _ _ _ aO];exact hc,by rw[hU,((Jd _ _).frozen (by simp;omega)),((Jd _ _).frozen (by simp;omega)),((Jd _ _).frozen aO)];exact hf,by rw[hU,aV];simp[go_sem],by rw[hU,aV];simp[go_sem],?_,?_,aO,by omega⟩
  ·intro c hc;simp only[List.mem_cons,List.not_mem_nil,or_false]at hc;rcases hc with rfl | rfl | rfl | rfl | rfl | rfl <;> rw[hU] <;> dsimp only <;> first |(rw[aU];exact⟨by simp[go_sem],by simp[go_sem]⟩) |(rw[aF];exact⟨by simp[go_sem],by simp[go_sem]⟩)
  ·intro c hc;simp only[List.mem_cons,List.not_mem_nil,or_false]at hc;rcases hc with rfl | rfl | rfl | rfl | rfl | rfl <;> (dsimp only) <;> omega
 rw[<- hU];simp only[JE];rw[<- aV,<- aF,<- aU];have q1:pa<pb:=by omega
 have q2:pb<po:=by omega
 have q0:W.heap.size<=pa:=by omega
 clear hU hc hf aU aF aV;have aa:=(H.out.fix (⟨pa,0,none⟩,J Y x0) (by simp)).1;have af:=(H.out.fix (⟨pa,1,none⟩,J Y x1) (by simp)).1;have ag:=(H.out.fix (⟨pa,2,none⟩,J Y x2) (by simp)).1;have aw:=(H.out.fix (⟨pb,0,none⟩,J Y y0) (by simp)).1;have aR:=(H.out.fix (⟨pb,1,none⟩,J Y y1) (by simp)).1;have aS:=(H.out.fix (⟨pb,2,none⟩,J Y y2) (by simp)).1;have aq:=JB _ _ aa;dsimp only at aq;have bf:=JB _ _ aw;dsimp only at bf;have ho:=H.out.own;have aH:=H.out.ownf;go_wp2_with (fail);refine(Jch po 0 false [x0,x1,x2] [y0,y1,y2] (some ⟨U.heap.size,0,none⟩) (some ⟨U.heap.size+1,0,none⟩) 3 3 ((U.alloc (BP #[J Y x0,J Y x1,J Y x2] 3)).alloc (BP #[J Y y0,J Y y1,J Y y2] 3)) ((H.out.alloc (BP #[J Y x0,J Y x1,J Y x2] 3)).alloc (BP #[J Y y0,J Y y1,J Y y2] 3)).own ((H.out.alloc (BP #[J Y x0,J Y x1,J Y x2] 3)).alloc (BP #[J Y y0,J Y y1,J Y y2] 3)).ownf (by simp) (by simp) (Js6 (by simp[go_sem]) (by simp[go_sem]) (by simp[go_sem])) (Js6 (by simp[go_sem]) (by simp[go_sem]) (by simp[go_sem]))).mono ?_;rintro e lH ⟨v0,g1,rfl,fI,A⟩;have H:BU _:=((H.out.alloc (BP #[J Y x0,J Y x1,J Y x2] 3)).alloc (BP #[J Y y0,J Y y1,J Y y2] 3)).after A.out;clear A aa af ag aw aR aS aq bf ho aH;go_wp2_with (fail);refine(Jb4 b off po f g1 _ H.out.flag H.out.flagf H.out.own (by omega)).mono ?_;rintro e V9 ⟨rfl,A⟩;have HA:BU (After ⟨b,off,none⟩ (f||g1) W V9):=(H.out.leaves.same A.out).done A.out.cell A.out.frozen;clear A H;go_wp2_with (fail);go_ret;exact⟨v0,_,rfl,Jiu fI.out,HA⟩
theorem Jq2(b off:Nat)(f:Bool)(x0 x1 x2:Int)(W:BV)(hc:W.cell? ⟨b,off,none⟩=some (BT f))(hf:W.frozen? ⟨b,off,none⟩=false):
  Cd Tryz.prog 64 #[BO (some ⟨b,off,none⟩),B_ #[J Y x0,J Y x1,J Y x2]] W fun e W'=>∃ v g,e = BZ (J Y v)/\BU (Ja1 f (Jah [x0,x1,x2]) v g)/\BU (After ⟨b,off,none⟩ g W W'):=by
 have aO:b<W.heap.size:=JB _ _ hc;go_enter func64,ntmps64;go_wp2_with (fail);refine(Jbm _).mono ?_;rintro e W1 ⟨rfl,rfl⟩;obtain⟨U,hU⟩:∃ U,U=((W.alloc (BP #[J Y x0,J Y x1,J Y x2] 27)).alloc (BP #[BT false] 57)):=⟨_,rfl⟩
 obtain⟨pa,aU⟩:∃ p,p=W.heap.size:=⟨_,rfl⟩
 obtain⟨po,aV⟩:∃ p,p=W.heap.size+1:=⟨_,rfl⟩
 have H:BU (Ho W U ⟨b,off,none⟩ po f false [(⟨pa,0,none⟩,J Y x0),(⟨pa,1,none⟩,J Y x1),(⟨pa,2,none⟩,J Y x2)]):=by
  refine⟨by rw[hU];exact(((Leaves.refl _ _).alloc _).alloc _),by rw[hU,World.cell?_alloc_past _ _ _ (by simp;omega),World.cell?_alloc_past _ _ _ aO];exact hc,by rw[hU,((Jd _ _).frozen (by simp;omega)),((Jd _ _).frozen aO)];exact hf,by rw[hU,aV];simp[go_sem],by rw[hU,aV];simp[go_sem],?_,?_,aO,by omega⟩
  ·intro c hc;simp only[List.mem_cons,List.not_mem_nil,or_false]at hc;rcases hc with rfl | rfl | rfl <;> rw[hU] <;> dsimp only <;> first |(rw[aU];exact⟨by simp[go_sem],by simp[go_sem]⟩)
  ·intro c hc;simp only[List.mem_cons,List.not_mem_nil,or_false]at hc;rcases hc with rfl | rfl | rfl <;> (dsimp only) <;> omega
 rw[<- hU];simp only[JE];rw[<- aV,<- aU];have q1:pa<po:=by omega
 have q0:W.heap.size<=pa:=by omega
 clear hU hc hf aU aV;have aa:=(H.out.fix (⟨pa,0,none⟩,J Y x0) (by simp)).1;have af:=(H.out.fix (⟨pa,1,none⟩,J Y x1) (by simp)).1;have ag:=(H.out.fix (⟨pa,2,none⟩,J Y x2) (by simp)).1;have aq:=JB _ _ aa;dsimp only at aq;have ho:=H.out.own;have aH:=H.out.ownf;go_wp2_with (fail);refine(Jg8 po 0 false [x0,x1,x2] _ 3 _ (H.out.alloc (BP #[J Y x0,J Y x1,J Y x2] 3)).own (H.out.alloc (BP #[J Y x0,J Y x1,J Y x2] 3)).ownf (by simp) (Js6 (by simp[go_sem]) (by simp[go_sem]) (by simp[go_sem]))).mono ?_;rintro e lH ⟨v0,g1,rfl,fI,A⟩;have H:BU _:=(H.out.alloc (BP #[J Y x0,J Y x1,J Y x2] 3)).after A.out;clear A aa af ag aq ho aH;go_wp2_with (fail);refine(Jb4 b off po f g1 _ H.out.flag H.out.flagf H.out.own (by omega)).mono ?_;rintro e V9 ⟨rfl,A⟩;have HA:BU (After ⟨b,off,none⟩ (f||g1) W V9):=(H.out.leaves.same A.out).done A.out.cell A.out.frozen;clear A H;go_wp2_with (fail);go_ret;exact⟨v0,_,rfl,Jiu fI.out,HA⟩
theorem Jg9{w:BV}{b:Nat}{x y z u:Int}(h0:w.cell? ⟨b,0,none⟩=some (J Y x))(h1:w.cell? ⟨b,1,none⟩=some (J Y y))(h2:w.cell? ⟨b,2,none⟩=some (J Y z))(h3:w.cell? ⟨b,3,none⟩=some (J Y u)):Jc2 w (some ⟨b,0,none⟩) [x,y,z,u]:=
 Or.inr ⟨b,0,rfl,fun k hk=>by
  match k,hk with
  | 0,_=>exact h0
  | 1,_=>exact h1
  | 2,_=>exact h2
  | 3,_=>exact h3⟩
theorem Jhu(b off:Nat)(f:Bool)(m0 m1 m2 m3 m4 m5 m6 m7 m8 x0 x1 x2:Int)(W:BV)(hc:W.cell? ⟨b,off,none⟩=some (BT f))(hf:W.frozen? ⟨b,off,none⟩=false):
  Cd Tryz.prog 104 #[BO (some ⟨b,off,none⟩),B_ #[J Y m0,J Y m1,J Y m2,J Y m3,J Y m4,J Y m5,J Y m6,J Y m7,J Y m8],B_ #[J Y x0,J Y x1,J Y x2]] W fun e W'=>∃ v0 v1 v2 g,e = BZ (B_ #[J Y v0,J Y v1,J Y v2])/\BU (Jco f (dot [m0,m1,m2] [x0,x1,x2]) (dot [m3,m4,m5] [x0,x1,x2]) (dot [m6,m7,m8] [x0,x1,x2]) v0 v1 v2 g)/\BU (After ⟨b,off,none⟩ g W W'):=by
 have aO:b<W.heap.size:=JB _ _ hc;go_enter func104,ntmps104;go_wp2_with (fail);refine(Jbm _).mono ?_;rintro e W1 ⟨rfl,rfl⟩;obtain⟨U,hU⟩:∃ U,U=((((W.alloc (BP #[J Y m0,J Y m1,J Y m2,J Y m3,J Y m4,J Y m5,J Y m6,J Y m7,J Y m8] 105)).alloc (BP #[J Y x0,J Y x1,J Y x2] 27)).alloc (BP #[J Y 0,J Y 0,J Y 0] 27)).alloc (BP #[BT false] 57)):=⟨_,rfl⟩
 obtain⟨pm,cS⟩:∃ p,p=W.heap.size:=⟨_,rfl⟩
 obtain⟨pa,aU⟩:∃ p,p=W.heap.size+1:=⟨_,rfl⟩
 obtain⟨pr,aB⟩:∃ p,p=W.heap.size+1+1:=⟨_,rfl⟩
 obtain⟨po,aV⟩:∃ p,p=W.heap.size+1+1+1:=⟨_,rfl⟩
 have H:BU (Ho W U ⟨b,off,none⟩ po f false [(⟨pm,0,none⟩,J Y m0),(⟨pm,1,none⟩,J Y m1),(⟨pm,2,none⟩,J Y m2),(⟨pm,3,none⟩,J Y m3),(⟨pm,4,none⟩,J Y m4),(⟨pm,5,none⟩,J Y m5),(⟨pm,6,none⟩,J Y m6),(⟨pm,7,none⟩,J Y m7),(⟨pm,8,none⟩,J Y m8),(⟨pa,0,none⟩,J Y x0),(⟨pa,1,none⟩,J Y x1),(⟨pa,2,none⟩,J Y x2),(⟨pr,0,none⟩,J Y 0),(⟨pr,1,none⟩,J Y 0),(⟨pr,2,none⟩,J Y 0)]):=by
  refine⟨by rw[hU];exact(((((Leaves.refl _ _).alloc _).alloc _).alloc _).alloc _),by rw[hU,World.cell?_alloc_past _ _ _ (by simp;omega),World.cell?_alloc_past _ _ _ (by simp;omega),World.cell?_alloc_past _ _ _ (by simp;omega),World.cell?_alloc_past _ _ _ aO];exact hc,by rw[hU,((Jd _ _).frozen (by simp;omega)),((Jd _ _).frozen (by simp;omega)),((Jd _ _).frozen (by simp;omega)),((Jd _ _).frozen aO)];exact hf,by rw[hU,aV];simp[go_sem],by rw[hU,aV];simp[go_sem],?_,?_,aO,by omega⟩
  ·intro c hc;simp only[List.mem_cons,List.not_mem_nil,or_false]at hc;rcases hc with rfl | rfl | rfl | rfl | rfl | rfl | rfl | rfl | rfl | rfl | rfl | rfl | rfl | rfl | rfl <;> rw[hU] <;> dsimp only <;> first |(rw[cS];exact⟨by simp[go_sem],by simp[go_sem]⟩) |(rw[aU];exact⟨by simp[go_sem],by simp[go_sem]⟩) |(rw[aB];exact⟨by simp[go_sem],by simp[go_sem]⟩)
  ·intro c hc;simp only[List.mem_cons,List.not_mem_nil,or_false]at hc;rcases hc with rfl | rfl | rfl | rfl | rfl | rfl | rfl | rfl | rfl | rfl | rfl | rfl | rfl | rfl | rfl <;> (dsimp only) <;> omega
 rw[<- hU];simp only[JE];rw[<- aV,<- aB,<- aU,<- cS];have qU:pm<pa:=by omega
 have qV:pa<pr:=by omega
 have uP:pr<po:=by omega
 have qW:W.heap.size<=pm:=by omega
 clear hU hc hf cS aU aB aV;have c_:=(H.out.fix (⟨pm,0,none⟩,J Y m0) (by simp)).1;have eh:=(H.out.fix (⟨pm,1,none⟩,J Y m1) (by simp)).1;have ei:=(H.out.fix (⟨pm,2,none⟩,J Y m2) (by simp)).1;have ek:=(H.out.fix (⟨pm,3,none⟩,J Y m3) (by simp)).1;have el:=(H.out.fix (⟨pm,4,none⟩,J Y m4) (by simp)).1;have ep:=(H.out.fix (⟨pm,5,none⟩,J Y m5) (by simp)).1;have eq:=(H.out.fix (⟨pm,6,none⟩,J Y m6) (by simp)).1;have er:=(H.out.fix (⟨pm,7,none⟩,J Y m7) (by simp)).1;have et:=(H.out.fix (⟨pm,8,none⟩,J Y m8) (by simp)).1;have aa:=(H.out.fix (⟨pa,0,none⟩,J Y x0) (by simp)).1;have af:=(H.out.fix (⟨pa,1,none⟩,J Y x1) (by simp)).1;have ag:=(H.out.fix (⟨pa,2,none⟩,J Y x2) (by simp)).1;have fV:=JB _ _ c_;dsimp only at fV;have aq:=JB _ _ aa;dsimp only at aq;have ho:=H.out.own;have aH:=H.out.ownf;go_wp2_with (fail);refine(Jhd po 0 false m0 m1 m2 x0 x1 x2 _ ho aH).mono ?_;rintro e lH ⟨v0,g1,rfl,fI,A⟩;have H:BU _:=H.out.after A.out;clear A c_ eh ei ek el ep eq er et aa af ag fV aq ho aH;have c_:=(H.out.fix (⟨pm,0,none⟩,J Y m0) (by simp)).1;have eh:=(H.out.fix (⟨pm,1,none⟩,J Y m1) (by simp)).1;have ei:=(H.out.fix (⟨pm,2,none⟩,J Y m2) (by simp)).1;have ek:=(H.out.fix (⟨pm,3,none⟩,J Y m3) (by simp)).1;have el:=(H.out.fix (⟨pm,4,none⟩,J Y m4) (by simp)).1;have ep:=(H.out.fix (⟨pm,5,none⟩,J Y m5) (by simp)).1;have eq:=(H.out.fix (⟨pm,6,none⟩,J Y m6) (by simp)).1;have er:=(H.out.fix (⟨pm,7,none⟩,J Y m7) (by simp)).1;have et:=(H.out.fix (⟨pm,8,none⟩,J Y m8) (by simp)).1;have aa:=(H.out.fix (⟨pa,0,none⟩,J Y x0) (by simp)).1;have af:=(H.out.fix (⟨pa,1,none⟩,J Y x1) (by simp)).1;have ag:=(H.out.fix (⟨pa,2,none⟩,J Y x2) (by simp)).1;have fV:=JB _ _ c_;dsimp only at fV;have aq:=JB _ _ aa;dsimp only at aq;have ho:=H.out.own;have aH:=H.out.ownf;go_wp2_with (fail);refine(Jhd po 0 g1 m3 m4 m5 x0 x1 x2 _ ho aH).mono ?_;rintro e nd ⟨v1,g2,rfl,ic,A⟩;have H:BU _:=H.out.after A.out;clear A c_ eh ei ek el ep eq er et aa af ag fV aq ho aH;have c_:=(H.out.fix (⟨pm,0,none⟩,J Y m0) (by simp)).1;have eh:=(H.out.fix (⟨pm,1,none⟩,J Y m1) (by simp)).1;have ei:=(H.out.fix (⟨pm,2,none⟩,J Y m2) (by simp)).1;have ek:=(H.out.fix (⟨pm,3,none⟩,J Y m3) (by simp)).1;have el:=(H.out.fix (⟨pm,4,none⟩,J Y m4) (by simp)).1;have ep:=(H.out.fix (⟨pm,5,none⟩,J Y m5) (by simp)).1;have eq:=(H.out.fix (⟨pm,6,none⟩,J Y m6) (by simp)).1;have er:=(H.out.fix (⟨pm,7,none⟩,J Y m7) (by simp)).1;have et:=(H.out.fix (⟨pm,8,none⟩,J Y m8) (by simp)).1;have aa:=(H.out.fix (⟨pa,0,none⟩,J Y x0) (by simp)).1;have af:=(H.out.fix (⟨pa,1,none⟩,J Y x1) (by simp)).1;have ag:=(H.out.fix (⟨pa,2,none⟩,J Y x2) (by simp)).1;have fV:=JB _ _ c_;dsimp only at fV;have aq:=JB _ _ aa;dsimp only at aq;have ho:=H.out.own;have aH:=H.out.ownf;go_wp2_with (fail);refine(Jhd po 0 g2 m6 m7 m8 x0 x1 x2 _ ho aH).mono ?_;rintro e pG ⟨v2,g3,rfl,kl,A⟩;have H:BU _:=H.out.after A.out;clear A c_ eh ei ek el ep eq er et aa af ag fV aq ho aH;go_wp2_with (fail);refine(Jb4 b off po f g3 _ H.out.flag H.out.flagf H.out.own (by omega)).mono ?_;rintro e V9 ⟨rfl,A⟩;have bN:=A.out.cellOf (H.out.fix (⟨pr,0,none⟩,J Y 0) (by simp)).1 (by show pr≠b;omega);have dt:=A.out.frozenOf (H.out.fix (⟨pr,0,none⟩,J Y 0) (by simp)).1 (H.out.fix (⟨pr,0,none⟩,J Y 0) (by simp)).2 (by show pr≠b;omega);have bO:=A.out.cellOf (H.out.fix (⟨pr,1,none⟩,J Y 0) (by simp)).1 (by show pr≠b;omega);have du:=A.out.frozenOf (H.out.fix (⟨pr,1,none⟩,J Y 0) (by simp)).1 (H.out.fix (⟨pr,1,none⟩,J Y 0) (by simp)).2 (by show pr≠b;omega);have bP:=A.out.cellOf (H.out.fix (⟨pr,2,none⟩,J Y 0) (by simp)).1 (by show pr≠b;omega);have dv:=A.out.frozenOf (H.out.fix (⟨pr,2,none⟩,J Y 0) (by simp)).1 (H.out.fix (⟨pr,2,none⟩,J Y 0) (by simp)).2 (by show pr≠b;omega);have HL:BU (Leaves ⟨b,off,none⟩ W V9):=H.out.leaves.same A.out;have hp:=A.out.cell;have bg:=A.out.frozen;have n1:b≠pr:=by omega
 have n2:pr≠b:=by omega
 have aE:W.heap.size<=pr:=by omega
 have HS:BU _:=Jfm (f:=f) fI.out ic.out kl.out;clear A H;cases g3 with
 | true =>
  go_wp2_with (fail);refine bodyPost_ret (by simp[results,results104,go_sem,bN,bO,bP];try rfl) rfl ?_;refine⟨0,0,0,_,rfl,HS.out,(((HL.out.set aE _).set aE _).set aE _).done ?_ ?_⟩
  ·simp[go_sem,hp]
  ·simp[go_sem,bg]
 | false =>
  go_wp2_with (fail);refine bodyPost_ret (by simp[results,results104,go_sem,bN,bO,bP];try rfl) rfl ?_;refine⟨_,_,_,_,rfl,HS.out,(((HL.out.set aE _).set aE _).set aE _).done ?_ ?_⟩
  ·simp[go_sem,hp]
  ·simp[go_sem,bg]
theorem Jqp{f g0:Bool}{q0 q1 q2 q3 nn:Int}(h0:Ja1 false (Jah [q0,q1,q2,q3]) nn g0)(hn:nn<2147483648):
  (0:Int)=cond (Jr q0 q1 q2 q3) 0 ((Jw q0 4294967296 ((Jah [q0,q1,q2,q3]).getD 0)).getD 0)/\(0:Int)=cond (Jr q0 q1 q2 q3) 0 ((Jw q1 4294967296 ((Jah [q0,q1,q2,q3]).getD 0)).getD 0)/\(0:Int)=cond (Jr q0 q1 q2 q3) 0 ((Jw q2 4294967296 ((Jah [q0,q1,q2,q3]).getD 0)).getD 0)/\(0:Int)=cond (Jr q0 q1 q2 q3) 0 ((Jw q3 4294967296 ((Jah [q0,q1,q2,q3]).getD 0)).getD 0)/\true=(f||Jr q0 q1 q2 q3):=by
 have hb:Jr q0 q1 q2 q3=true:=by
  unfold Jr;rw[<- h0.1,decide_eq_true hn,Bool.true_or]
 rw[hb];exact⟨rfl,rfl,rfl,rfl,by simp⟩
theorem Jmo{f g0 g1 g2 g3 g4:Bool}{q0 q1 q2 q3 nn v0 v1 v2 v3:Int}(hn:¬ nn<2147483648)(h0:Ja1 false (Jah [q0,q1,q2,q3]) nn g0)(h1:Ja1 g0 (Jw q0 4294967296 nn) v0 g1)(h2:Ja1 g1 (Jw q1 4294967296 nn) v1 g2)(h3:Ja1 g2 (Jw q2 4294967296 nn) v2 g3)(h4:Ja1 g3 (Jw q3 4294967296 nn) v3 g4):
  cond g4 0 v0=cond (Jr q0 q1 q2 q3) 0 ((Jw q0 4294967296 ((Jah [q0,q1,q2,q3]).getD 0)).getD 0)/\cond g4 0 v1=cond (Jr q0 q1 q2 q3) 0 ((Jw q1 4294967296 ((Jah [q0,q1,q2,q3]).getD 0)).getD 0)/\cond g4 0 v2=cond (Jr q0 q1 q2 q3) 0 ((Jw q2 4294967296 ((Jah [q0,q1,q2,q3]).getD 0)).getD 0)/\cond g4 0 v3=cond (Jr q0 q1 q2 q3) 0 ((Jw q3 4294967296 ((Jah [q0,q1,q2,q3]).getD 0)).getD 0)/\(f||g4)=(f||Jr q0 q1 q2 q3):=by
 obtain⟨e0,rfl⟩:=h0;have hs:(Jah [q0,q1,q2,q3]).isNone=false:=by
  cases hq:Jah [q0,q1,q2,q3] with
  | none=>rw[hq]at e0;simp at e0;omega
  | some m=>rfl
 rw[e0]at h1 h2 h3 h4 hn;obtain⟨rfl,rfl⟩:=h1;obtain⟨rfl,rfl⟩:=h2;obtain⟨rfl,rfl⟩:=h3;obtain⟨rfl,rfl⟩:=h4;have hb:Jr q0 q1 q2 q3=((((false ||(Jah [q0,q1,q2,q3]).isNone ||(Jw q0 4294967296 ((Jah [q0,q1,q2,q3]).getD 0)).isNone) ||(Jw q1 4294967296 ((Jah [q0,q1,q2,q3]).getD 0)).isNone) ||(Jw q2 4294967296 ((Jah [q0,q1,q2,q3]).getD 0)).isNone) ||(Jw q3 4294967296 ((Jah [q0,q1,q2,q3]).getD 0)).isNone):=by
  unfold Jr;rw[decide_eq_false hn,hs,Bool.false_or,Bool.false_or,Bool.false_or]
 rw[<- hb];exact⟨rfl,rfl,rfl,rfl,rfl⟩
theorem Jhg(b off:Nat)(f:Bool)(q0 q1 q2 q3:Int)(W:BV)(hc:W.cell? ⟨b,off,none⟩=some (BT f))(hf:W.frozen? ⟨b,off,none⟩=false):
  Cd Tryz.prog 86 #[BO (some ⟨b,off,none⟩),B_ #[J Y q0,J Y q1,J Y q2,J Y q3]] W fun e W'=>∃ v0 v1 v2 v3 g,e = BZ (B_ #[J Y v0,J Y v1,J Y v2,J Y v3])/\BU (v0=cond (Jr q0 q1 q2 q3) 0 ((Jw q0 4294967296 ((Jah [q0,q1,q2,q3]).getD 0)).getD 0)/\v1=cond (Jr q0 q1 q2 q3) 0 ((Jw q1 4294967296 ((Jah [q0,q1,q2,q3]).getD 0)).getD 0)/\v2=cond (Jr q0 q1 q2 q3) 0 ((Jw q2 4294967296 ((Jah [q0,q1,q2,q3]).getD 0)).getD 0)/\v3=cond (Jr q0 q1 q2 q3) 0 ((Jw q3 4294967296 ((Jah [q0,q1,q2,q3]).getD 0)).getD 0)/\g=(f||Jr q0 q1 q2 q3))/\BU (After ⟨b,off,none⟩ g W W'):=by
 have aO:b<W.heap.size:=JB _ _ hc;go_enter func86,ntmps86;go_wp2_with (fail);refine(Jbm _).mono ?_;rintro e W1 ⟨rfl,rfl⟩;obtain⟨U,hU⟩:∃ U,U=(((W.alloc (BP #[J Y q0,J Y q1,J Y q2,J Y q3] 29)).alloc (BP #[J Y 0,J Y 0,J Y 0,J Y 0] 29)).alloc (BP #[BT false] 57)):=⟨_,rfl⟩
 obtain⟨pa,aU⟩:∃ p,p=W.heap.size:=⟨_,rfl⟩
 obtain⟨pr,aB⟩:∃ p,p=W.heap.size+1:=⟨_,rfl⟩
 obtain⟨po,aV⟩:∃ p,p=W.heap.size+1+1:=⟨_,rfl⟩
 have H:BU (Ho W U ⟨b,off,none⟩ po f false [(⟨pa,0,none⟩,J Y q0),(⟨pa,1,none⟩,J Y q1),(⟨pa,2,none⟩,J Y q2),(⟨pa,3,none⟩,J Y q3),(⟨pr,0,none⟩,J Y 0),(⟨pr,1,none⟩,J Y 0),(⟨pr,2,none⟩,J Y 0),(⟨pr,3,none⟩,J Y 0)]):=by
  refine⟨by rw[hU];exact((((Leaves.refl _ _).alloc _).alloc _).alloc _),by rw[hU,World.cell?_alloc_past _ _ _ (by simp;omega),World.cell?_alloc_past _ _ _ (by simp;omega),World.cell?_alloc_past _ _ _ aO];exact hc,by rw[hU,((Jd _ _).frozen (by simp;omega)),((Jd _ _).frozen (by simp;omega)),((Jd _ _).frozen aO)];exact hf,by rw[hU,aV];simp[go_sem],by rw[hU,aV];simp[go_sem],?_,?_,aO,by omega⟩
  ·intro c hc;simp only[List.mem_cons,List.not_mem_nil,or_false]at hc;rcases hc with rfl | rfl | rfl | rfl | rfl | rfl | rfl | rfl <;> rw[hU] <;> dsimp only <;> first |(rw[aU];exact⟨by simp[go_sem],by simp[go_sem]⟩) |(rw[aB];exact⟨by simp[go_sem],by simp[go_sem]⟩)
  ·intro c hc;simp only[List.mem_cons,List.not_mem_nil,or_false]at hc;rcases hc with rfl | rfl | rfl | rfl | rfl | rfl | rfl | rfl <;> (dsimp only) <;> omega
 rw[<- hU];simp only[JE];rw[<- aV,<- aB,<- aU];have qU:pa<pr:=by omega
 have qV:pr<po:=by omega
 have qW:W.heap.size<=pa:=by omega
 clear hU hc hf aU aB aV;have aa:=(H.out.fix (⟨pa,0,none⟩,J Y q0) (by simp)).1;have af:=(H.out.fix (⟨pa,1,none⟩,J Y q1) (by simp)).1;have ag:=(H.out.fix (⟨pa,2,none⟩,J Y q2) (by simp)).1;have an:=(H.out.fix (⟨pa,3,none⟩,J Y q3) (by simp)).1;have aq:=JB _ _ aa;dsimp only at aq;have ho:=H.out.own;have aH:=H.out.ownf;go_wp2_with (fail);refine(Jg8 po 0 false [q0,q1,q2,q3] _ 4 _ (H.out.alloc (BP #[J Y q0,J Y q1,J Y q2,J Y q3] 3)).own (H.out.alloc (BP #[J Y q0,J Y q1,J Y q2,J Y q3] 3)).ownf (by simp) (Jg9 (by simp[go_sem]) (by simp[go_sem]) (by simp[go_sem]) (by simp[go_sem]))).mono ?_;rintro e Wg0 ⟨nn,g0,rfl,yi,A⟩;have H:BU _:=(H.out.alloc (BP #[J Y q0,J Y q1,J Y q2,J Y q3] 3)).after A.out;clear A aa af ag an aq ho aH;by_cases hn:nn<2147483648
 ·have hp:=H.out.flag;have bg:=H.out.flagf;have n1:b≠pr:=by omega
  have n2:pr≠b:=by omega
  have aE:W.heap.size<=pr:=by omega
  have bN:=(H.out.fix (⟨pr,0,none⟩,J Y 0) (by simp)).1;have dt:=(H.out.fix (⟨pr,0,none⟩,J Y 0) (by simp)).2;have bO:=(H.out.fix (⟨pr,1,none⟩,J Y 0) (by simp)).1;have du:=(H.out.fix (⟨pr,1,none⟩,J Y 0) (by simp)).2;have bP:=(H.out.fix (⟨pr,2,none⟩,J Y 0) (by simp)).1;have dv:=(H.out.fix (⟨pr,2,none⟩,J Y 0) (by simp)).2;have eb:=(H.out.fix (⟨pr,3,none⟩,J Y 0) (by simp)).1;have iX:=(H.out.fix (⟨pr,3,none⟩,J Y 0) (by simp)).2;have HL:BU _:=H.out.leaves;have HS:BU _:=Jqp (f:=f) (q0:=q0) (q1:=q1) (q2:=q2) (q3:=q3) yi.out hn;clear H yi;go_wp2_with (fail);refine bodyPost_ret (by simp[results,results86,go_sem,bN,bO,bP,eb];try rfl) rfl ?_;refine⟨0,0,0,0,true,rfl,HS.out,(((((HL.out.own _).set aE _).set aE _).set aE _).set aE _).done ?_ ?_⟩
  ·simp[go_sem,hp]
  ·simp[go_sem,bg]
 ·have HN:BU _:=hn;have aa:=(H.out.fix (⟨pa,0,none⟩,J Y q0) (by simp)).1;have af:=(H.out.fix (⟨pa,1,none⟩,J Y q1) (by simp)).1;have ag:=(H.out.fix (⟨pa,2,none⟩,J Y q2) (by simp)).1;have an:=(H.out.fix (⟨pa,3,none⟩,J Y q3) (by simp)).1;have aq:=JB _ _ aa;dsimp only at aq;have ho:=H.out.own;have aH:=H.out.ownf;go_wp2_with (fail);refine(Jfe po 0 g0 q0 nn _ ho aH).mono ?_;rintro e lH ⟨v0,g1,rfl,fI,A⟩;have H:BU _:=H.out.after A.out;clear A aa af ag an aq ho aH;have aa:=(H.out.fix (⟨pa,0,none⟩,J Y q0) (by simp)).1;have af:=(H.out.fix (⟨pa,1,none⟩,J Y q1) (by simp)).1;have ag:=(H.out.fix (⟨pa,2,none⟩,J Y q2) (by simp)).1;have an:=(H.out.fix (⟨pa,3,none⟩,J Y q3) (by simp)).1;have aq:=JB _ _ aa;dsimp only at aq;have ho:=H.out.own;have aH:=H.out.ownf;go_wp2_with (fail);refine(Jfe po 0 g1 q1 nn _ ho aH).mono ?_;rintro e nd ⟨v1,g2,rfl,ic,A⟩;have H:BU _:=H.out.after A.out;clear A aa af ag an aq ho aH;have aa:=(H.out.fix (⟨pa,0,none⟩,J Y q0) (by simp)).1;have af:=(H.out.fix (⟨pa,1,none⟩,J Y q1) (by simp)).1;have ag:=(H.out.fix (⟨pa,2,none⟩,J Y q2) (by simp)).1;have an:=(H.out.fix (⟨pa,3,none⟩,J Y q3) (by simp)).1;have aq:=JB _ _ aa;dsimp only at aq;have ho:=H.out.own;have aH:=H.out.ownf;go_wp2_with (fail);refine(Jfe po 0 g2 q2 nn _ ho aH).mono ?_;rintro e pG ⟨v2,g3,rfl,kl,A⟩;have H:BU _:=H.out.after A.out;clear A aa af ag an aq ho aH;have aa:=(H.out.fix (⟨pa,0,none⟩,J Y q0) (by simp)).1;have af:=(H.out.fix (⟨pa,1,none⟩,J Y q1) (by simp)).1;have ag:=(H.out.fix (⟨pa,2,none⟩,J Y q2) (by simp)).1;have an:=(H.out.fix (⟨pa,3,none⟩,J Y q3) (by simp)).1;have aq:=JB _ _ aa;dsimp only at aq;have ho:=H.out.own;have aH:=H.out.ownf;go_wp2_with (fail);refine(Jfe po 0 g3 q3 nn _ ho aH).mono ?_;rintro e tW ⟨v3,g4,rfl,qt,A⟩;have H:BU _:=H.out.after A.out;clear A aa af ag an aq ho aH;go_wp2_with (fail);refine(Jb4 b off po f g4 _ H.out.flag H.out.flagf H.out.own (by omega)).mono ?_;rintro e V9 ⟨rfl,A⟩;have bN:=A.out.cellOf (H.out.fix (⟨pr,0,none⟩,J Y 0) (by simp)).1 (by show pr≠b;omega);have dt:=A.out.frozenOf (H.out.fix (⟨pr,0,none⟩,J Y 0) (by simp)).1 (H.out.fix (⟨pr,0,none⟩,J Y 0) (by simp)).2 (by show pr≠b;omega);have bO:=A.out.cellOf (H.out.fix (⟨pr,1,none⟩,J Y 0) (by simp)).1 (by show pr≠b;omega);have du:=A.out.frozenOf (H.out.fix (⟨pr,1,none⟩,J Y 0) (by simp)).1 (H.out.fix (⟨pr,1,none⟩,J Y 0) (by simp)).2 (by show pr≠b;omega);have bP:=A.out.cellOf (H.out.fix (⟨pr,2,none⟩,J Y 0) (by simp)).1 (by show pr≠b;omega);have dv:=A.out.frozenOf (H.out.fix (⟨pr,2,none⟩,J Y 0) (by simp)).1 (H.out.fix (⟨pr,2,none⟩,J Y 0) (by simp)).2 (by show pr≠b;omega);have eb:=A.out.cellOf (H.out.fix (⟨pr,3,none⟩,J Y 0) (by simp)).1 (by show pr≠b;omega);have iX:=A.out.frozenOf (H.out.fix (⟨pr,3,none⟩,J Y 0) (by simp)).1 (H.out.fix (⟨pr,3,none⟩,J Y 0) (by simp)).2 (by show pr≠b;omega);have HL:BU (Leaves ⟨b,off,none⟩ W V9):=H.out.leaves.same A.out;have hp:=A.out.cell;have bg:=A.out.frozen;have n1:b≠pr:=by omega
  have n2:pr≠b:=by omega
  have aE:W.heap.size<=pr:=by omega
  have HS:BU _:=Jmo (f:=f) HN.out yi.out fI.out ic.out kl.out qt.out;clear A H;cases g4 with
  | true =>
   go_wp2_with (fail);refine bodyPost_ret (by simp[results,results86,go_sem,bN,bO,bP,eb];try rfl) rfl ?_;refine⟨0,0,0,0,_,rfl,HS.out,((((HL.out.set aE _).set aE _).set aE _).set aE _).done ?_ ?_⟩
   ·simp[go_sem,hp]
   ·simp[go_sem,bg]
  | false =>
   go_wp2_with (fail);refine bodyPost_ret (by simp[results,results86,go_sem,bN,bO,bP,eb];try rfl) rfl ?_;refine⟨_,_,_,_,_,rfl,HS.out,((((HL.out.set aE _).set aE _).set aE _).set aE _).done ?_ ?_⟩
   ·simp[go_sem,hp]
   ·simp[go_sem,bg]
end
section
open Go.RowKit Go.Shelf Fx
theorem Jqq(c n:Int)(w:BV)(hc:-9223372036854775808<=c/\c<=9223372036854775807)(hn:0<n)(hn':n<=9223372036854775807):
  Cd Tryz.prog 147 #[J Y c,J Y n] w fun e w'=>e = BZ (J Y (Jbq c n))/\w'=w:=by
 unfold Jbq;by_cases h:c<0
 ·have hb:0 <= -(c+1):=by omega
  have hb':-(c+1)<=9223372036854775807:=by omega
  have hz:(n == 0)=false:=beq_eq_false_iff_ne.2 (by omega);rw[if_pos h];go_enter func147,ntmps147;go_wp2;go_ret;have e:(c+1).tmod n = -(-(c+1)%n):=by
   rw[<- Int.tmod_eq_emod_of_nonneg hb,Int.neg_tmod,Int.neg_neg]
  exact⟨by rw[e,Int.neg_neg];rfl,rfl⟩
 ·have hz:(n == 0)=false:=beq_eq_false_iff_ne.2 (by omega);rw[if_neg h];go_enter func147,ntmps147;go_wp2;go_ret;exact⟨rfl,rfl⟩
def Jak(n m:Int):Int:=Jbq n (2*m+1)-m
theorem Jbe(n:Int){m:Int}(hm:0<=m):-m<=Jak n m/\Jak n m<=m:=by
 have h1:=Jby n (n:=2*m+1) (by omega);have h2:=Jbz n (n:=2*m+1) (by omega);unfold Jak;omega
theorem Jcs(n m:Int)(w:BV)(hn:-9223372036854775808<=n/\n<=9223372036854775807)(hm:0<=m/\m<=4611686018427387903):
  Cd Tryz.prog 87 #[J Y n,J Y m] w fun e w'=>e = BZ (J Y (Jak n m))/\w'=w:=by
 have HP:BU _:=fun w'=>Jqq n (2*m+1) w' hn (by omega) (by omega);have h1:=Jby n (n:=2*m+1) (by omega);have h2:=Jbz n (n:=2*m+1) (by omega);unfold Jak;generalize Jbq n (2*m+1)=pz at *;have e1:IntKind.i64.wrap (2*m)=2*m:=by rw[IntKind.wrap_i64];omega
 have e2:IntKind.i64.wrap (2*m+1)=2*m+1:=by rw[IntKind.wrap_i64];omega
 have e3:IntKind.i64.wrap (pz-m)=pz-m:=by rw[IntKind.wrap_i64];omega
 go_enter func87,ntmps87;go_wp2_with (fail);refine JA (HP.out _) ?_;rintro e w' ⟨rfl,rfl⟩;go_wp2_with (fail);go_ret;exact⟨rfl,rfl⟩
def Q4.v(q:Q4):B7:=B_ #[J Y q.w,J Y q.x,J Y q.y,J Y q.z]
def Jel(q:Q4):Int:=(Jah [q.w,q.x,q.y,q.z]).getD 0
def Jey(q:Q4):Bool:=Jr q.w q.x q.y q.z
def Jdg(q:Q4):Q4:=⟨cond (Jey q) 0 ((Jw q.w 4294967296 (Jel q)).getD 0),cond (Jey q) 0 ((Jw q.x 4294967296 (Jel q)).getD 0),cond (Jey q) 0 ((Jw q.y 4294967296 (Jel q)).getD 0),cond (Jey q) 0 ((Jw q.z 4294967296 (Jel q)).getD 0)⟩
theorem Jn3(b off:Nat)(f:Bool)(q:Q4)(W:BV)(hc:W.cell? ⟨b,off,none⟩=some (BT f))(hf:W.frozen? ⟨b,off,none⟩=false):
  Cd Tryz.prog 86 #[BO (some ⟨b,off,none⟩),q.v] W fun e W'=>e = BZ (Jdg q).v/\BU (After ⟨b,off,none⟩ (f||Jey q) W W'):=by
 refine JA (Jhg b off f q.w q.x q.y q.z W hc hf) ?_;rintro e W' ⟨v0,v1,v2,v3,g,rfl,SS,A⟩;obtain⟨rfl,rfl,rfl,rfl,rfl⟩:=SS.out;exact⟨rfl,A⟩
theorem Jrc{q:Q4}(h:Jey q=false):WM.Whole (Jdg q).w (Jdg q).x (Jdg q).y (Jdg q).z:=by
 have hn:2147483648<=Jel q:=by
  have h9:=h;unfold Jey Jr at h9;simp only[Bool.or_eq_false_iff,decide_eq_false_iff_not]at h9;have:=h9.1;unfold Jel;omega
 cases hx:Jah [q.w,q.x,q.y,q.z] with
 | none=>unfold Jel at hn;rw[hx]at hn;simp at hn
 | some n =>
  have en:Jel q=n:=by unfold Jel;rw[hx];rfl
  rw[en]at hn;obtain⟨a,b,c,d,l,e1,e2,e3,e4,_,_,_,k1,k2,k3,k4,k5,k6⟩:=WM.whole_long hx hn;unfold Jdg;rw[h,en,e1,e2,e3,e4];exact⟨k1,k2,k3,k4,k5,k6⟩
theorem Jo1(cg at1 at2 qa cv qc qd:Int)(w0:BV)(f0:-9223372036854775808<=cg/\cg<=9223372036854775807)(f1:-9223372036854775808<=at1/\at1<=9223372036854775807)(f2:-9223372036854775808<=at2/\at2<=9223372036854775807)(f3:-9223372036854775808<=qa/\qa<=9223372036854775807)(f4:-9223372036854775808<=cv/\cv<=9223372036854775807)(f5:-9223372036854775808<=qc/\qc<=9223372036854775807)(f6:-9223372036854775808<=qd/\qd<=9223372036854775807):
  Cd Tryz.prog 28 #[B_ #[J Y cg,J Y at1,J Y at2,J Y qa,J Y cv,J Y qc,J Y qd]] w0 fun e W=>∃(t:Pt) (q:Q4),e = BZ (Jpq t q)/\t.inB 4398046511104=true/\WM.Whole q.w q.x q.y q.z/\B9 w0.heap.size w0 W:=by
 have yQ:BU _:=fun w'=>Jcs qa 1099511627776 w' f3 (by decide);have yR:BU _:=fun w'=>Jcs cv 1099511627776 w' f4 (by decide);have yS:BU _:=fun w'=>Jcs qc 1099511627776 w' f5 (by decide);have yT:BU _:=fun w'=>Jcs qd 1099511627776 w' f6 (by decide);have HA0:BU _:=fun w'=>Jcs cg 4398046511104 w' f0 (by decide);have HA1:BU _:=fun w'=>Jcs at1 4398046511104 w' f1 (by decide);have lp:BU _:=fun w'=>Jcs at2 4398046511104 w' f2 (by decide);have HT:BU (Pt.inB ⟨Jak cg 4398046511104,Jak at1 4398046511104,Jak at2 4398046511104⟩ 4398046511104=true):=(Pt.inB_iff _ _).2 ⟨Jbe _ (by decide),Jbe _ (by decide),Jbe _ (by decide)⟩;generalize Jak cg 4398046511104=ta at *;generalize Jak at1 4398046511104=tb at *;generalize Jak at2 4398046511104=tc at *;generalize Jak qa 1099511627776=pw at *;generalize Jak cv 1099511627776=px at *;generalize Jak qc 1099511627776=py at *;generalize Jak qd 1099511627776=pz at *;have HW:BU _:=fun(b:Nat)(w:BV)(f:Bool)=>Jn3 b 0 f ⟨pw,px,py,pz⟩ w;have HI:BU (Jey ⟨pw,px,py,pz⟩=false->WM.Whole (Jdg ⟨pw,px,py,pz⟩).w (Jdg ⟨pw,px,py,pz⟩).x (Jdg ⟨pw,px,py,pz⟩).y (Jdg ⟨pw,px,py,pz⟩).z):=Jrc;generalize Jdg ⟨pw,px,py,pz⟩=vq at *;generalize Jey ⟨pw,px,py,pz⟩=bd at *;obtain⟨vw,vx,vy,vz⟩:=vq;unfold Q4.v at HW;dsimp only at HW HI;clear f0 f1 f2 f3 f4 f5 f6;go_enter func28,ntmps28;go_upto_region 2 with fail;obtain⟨V,hV⟩:∃ V:BV,V=((w0.alloc (BP #[J Y cg,J Y at1,J Y at2,J Y qa,J Y cv,J Y qc,J Y qd] 31)).alloc (BP #[J Y 0,J Y 0,J Y 0,J Y 0,J Y 0,J Y 0,J Y 0] 34)).alloc (BP #[BT false] 57):=⟨_,rfl⟩
 obtain⟨rb,lc⟩:∃ b,b=w0.heap.size:=⟨_,rfl⟩
 obtain⟨ob,hob'⟩:∃ b,b=w0.heap.size+1:=⟨_,rfl⟩
 obtain⟨wb,hwb'⟩:∃ b,b=w0.heap.size+1+1:=⟨_,rfl⟩
 have iU:BU (B9 w0.heap.size w0 V):=by show B9 _ _ _;rw[hV];exact Jc (Jc (Jb _ _) (Jb _ _)) (Jb _ _)
 have B1:BU (Cells V rb [J Y cg,J Y at1,J Y at2,J Y qa,J Y cv,J Y qc,J Y qd]):=by show Cells _ _ _;rw[hV,lc];exact((Cells.new w0 [J Y cg,J Y at1,J Y at2,J Y qa,J Y cv,J Y qc,J Y qd] _).step (Jb _ _)).step (Jb _ _)
 have B3:BU (Cells V ob [J Y 0,J Y 0,J Y 0,J Y 0,J Y 0,J Y 0,J Y 0]):=by show Cells _ _ _;rw[hV,hob'];have h9:=(Cells.new (w0.alloc (BP #[J Y cg,J Y at1,J Y at2,J Y qa,J Y cv,J Y qc,J Y qd] 31)) [J Y 0,J Y 0,J Y 0,J Y 0,J Y 0,J Y 0,J Y 0] 34).step (Jb _ (BP #[BT false] 57));rw[JE]at h9;exact h9
 have B2:BU (Cells V wb [BT false]):=by show Cells _ _ _;rw[hV,hwb'];have h9:=Cells.new ((w0.alloc (BP #[J Y cg,J Y at1,J Y at2,J Y qa,J Y cv,J Y qc,J Y qd] 31)).alloc (BP #[J Y 0,J Y 0,J Y 0,J Y 0,J Y 0,J Y 0,J Y 0] 34)) [BT false] 57;rw[JE,JE]at h9;exact h9
 have hVs:V.heap.size=w0.heap.size+3:=by rw[hV];simp
 rw[<- hV,<- hwb',<- hob',<- lc];have hwb:w0.heap.size<=wb:=by omega
 have kL:w0.heap.size<=ob:=by omega
 have hrw:rb≠wb:=by omega
 have uQ:ob≠wb:=by omega
 have nW:rb≠ob:=by omega
 have yU:wb<V.heap.size:=by omega
 have nX:rb<V.heap.size:=by omega
 have qX:ob<V.heap.size:=by omega
 clear hV lc hob' hwb';have HW:BU _:=HW.out wb;go_cut [4] from 5 (fun s4 wx=>∃ b3:Nat,s4 = BO (some ⟨b3,0,none⟩)/\B9 w0.heap.size w0 wx/\Cells wx rb [J Y cg,J Y at1,J Y at2,J Y qa,J Y cv,J Y qc,J Y qd]/\Cells wx ob [J Y 0,J Y 0,J Y 0,J Y 0,J Y 0,J Y 0,J Y 0]/\Cells wx b3 [J Y vw,J Y vx,J Y vy,J Y vz]/\w0.heap.size<=b3/\rb≠b3/\ob≠b3/\wx.cell? ⟨wb,0,none⟩=some (BT bd))
 case first =>
  refine Bq [.some (BO (some ⟨wb,0,none⟩)),.some (BO (some ⟨rb,3,none⟩)),.some (BO (some ⟨rb,3,none⟩)),.some (J Y qa),.some (J Y pw),.some (BO (some ⟨rb,3,none⟩)),.some (BO (some ⟨rb,4,none⟩)),.some (J Y cv),.some (J Y px),.some (BO (some ⟨rb,3,none⟩)),.some (BO (some ⟨rb,5,none⟩)),.some (J Y qc),.some (J Y py),.some (BO (some ⟨rb,3,none⟩)),.some (BO (some ⟨rb,6,none⟩)),.some (J Y qd),.some (J Y pz),.some (B_ #[J Y pw,J Y px,J Y py,J Y pz]),.some (B_ #[J Y vw,J Y vx,J Y vy,J Y vz]),none,none] [8,9,10,11,12,13,14,15,16,17,18,19,20,21,22,23,24,25,26,5,0] [(1,BO (some ⟨rb,0,none⟩)),(3,BO (some ⟨wb,0,none⟩))] (fun γ L w=>B9 w0.heap.size w0 w/\Cells w rb [J Y cg,J Y at1,J Y at2,J Y qa,J Y cv,J Y qc,J Y qd]/\Cells w wb [BT (L 18&&bd)]/\Cells w ob [J Y 0,J Y 0,J Y 0,J Y 0,J Y 0,J Y 0,J Y 0]/\RV.Pend V 29 19 20 #[J Y vw,J Y vx,J Y vy,J Y vz] γ L w/\V.heap.size<=w.heap.size) ⟨rfl,rfl,trivial⟩ ?_ ?_ ?_
  ·have b9:B9 V.heap.size V V.drew:=(Below.refl _ _).drew;exact⟨Jc iU.out b9,B1.out.step b9,B2.out.step b9,B3.out.step b9,RV.Pend.start rfl,Nat.le_refl _⟩
  ·intro D WA Z hD ah hZ T;simp only[RV.Outs,RV.Slots,Nat.reduceAdd]at T
   iterate 4 first
    |(refine Br _ (Bs T (fun γ v L w hl h=>⟨h.1,h.2.1,by rw[Bt (L:=L) (i:=_) (j:=18) (by decide)];exact h.2.2.1,h.2.2.2.1,h.2.2.2.2.1.other v (by decide) (by decide),h.2.2.2.2.2⟩) (fun γ L a w hH hl h9 k9=>⟨_,?_,rfl⟩)) ?_;· simp[JD,go_sem,h9])
    |(refine Br _ (Bs T (fun γ v L w hl h=>⟨h.1,h.2.1,by rw[Bt (L:=L) (i:=_) (j:=18) (by decide)];exact h.2.2.1,h.2.2.2.1,h.2.2.2.2.1.other v (by decide) (by decide),h.2.2.2.2.2⟩) (fun γ L a w hH hl h9 k9=>⟨_,?_,rfl⟩)) ?_;· simp[JC]at k9;simp[JD,go_sem,h9,k9])
    |(refine Br _ (Bs T (fun γ v L w hl h=>⟨h.1,h.2.1,by rw[Bt (L:=L) (i:=_) (j:=18) (by decide)];exact h.2.2.1,h.2.2.2.1,h.2.2.2.2.1.other v (by decide) (by decide),h.2.2.2.2.2⟩) (fun γ L a w hH hl h9 k9=>⟨_,?_,rfl⟩)) ?_;· have iH:=(hH.glob.2.1 3 _ rfl).1;simp[JC]at k9;simp[JD,go_sem,h9,k9,iH])
   refine Br _ (Bw (fun γ L a w hH hl hA=>by have h9:=T γ L a w hH;have k9:=hA;simp[JC]at k9;refine⟨87,#[J Y qa,J Y 1099511627776],by simp[go_sem,h9,k9],JA (yQ.out w) ?_⟩;rintro e w2 ⟨rfl,rfl⟩;exact⟨_,rfl,rfl,fun j v _ h=>h.keep _,hH.glob.1,hH.glob.2.1,by rw[Bt (L:=L) (i:=4) (j:=18) (by decide)];exact hH.glob.2.2.1,hH.glob.2.2.2.1,hH.glob.2.2.2.2.1.other _ (by decide) (by decide),hH.glob.2.2.2.2.2⟩)) ?_
   iterate 3 first
    |(refine Br _ (Bs T (fun γ v L w hl h=>⟨h.1,h.2.1,by rw[Bt (L:=L) (i:=_) (j:=18) (by decide)];exact h.2.2.1,h.2.2.2.1,h.2.2.2.2.1.other v (by decide) (by decide),h.2.2.2.2.2⟩) (fun γ L a w hH hl h9 k9=>⟨_,?_,rfl⟩)) ?_;· simp[JD,go_sem,h9])
    |(refine Br _ (Bs T (fun γ v L w hl h=>⟨h.1,h.2.1,by rw[Bt (L:=L) (i:=_) (j:=18) (by decide)];exact h.2.2.1,h.2.2.2.1,h.2.2.2.2.1.other v (by decide) (by decide),h.2.2.2.2.2⟩) (fun γ L a w hH hl h9 k9=>⟨_,?_,rfl⟩)) ?_;· simp[JC]at k9;simp[JD,go_sem,h9,k9])
    |(refine Br _ (Bs T (fun γ v L w hl h=>⟨h.1,h.2.1,by rw[Bt (L:=L) (i:=_) (j:=18) (by decide)];exact h.2.2.1,h.2.2.2.1,h.2.2.2.2.1.other v (by decide) (by decide),h.2.2.2.2.2⟩) (fun γ L a w hH hl h9 k9=>⟨_,?_,rfl⟩)) ?_;· have iH:=(hH.glob.2.1 4 _ rfl).1;simp[JC]at k9;simp[JD,go_sem,h9,k9,iH])
   refine Br _ (Bw (fun γ L a w hH hl hA=>by have h9:=T γ L a w hH;have k9:=hA;simp[JC]at k9;refine⟨87,#[J Y cv,J Y 1099511627776],by simp[go_sem,h9,k9],JA (yR.out w) ?_⟩;rintro e w2 ⟨rfl,rfl⟩;exact⟨_,rfl,rfl,fun j v _ h=>h.keep _,hH.glob.1,hH.glob.2.1,by rw[Bt (L:=L) (i:=8) (j:=18) (by decide)];exact hH.glob.2.2.1,hH.glob.2.2.2.1,hH.glob.2.2.2.2.1.other _ (by decide) (by decide),hH.glob.2.2.2.2.2⟩)) ?_
   iterate 3 first
    |(refine Br _ (Bs T (fun γ v L w hl h=>⟨h.1,h.2.1,by rw[Bt (L:=L) (i:=_) (j:=18) (by decide)];exact h.2.2.1,h.2.2.2.1,h.2.2.2.2.1.other v (by decide) (by decide),h.2.2.2.2.2⟩) (fun γ L a w hH hl h9 k9=>⟨_,?_,rfl⟩)) ?_;· simp[JD,go_sem,h9])
    |(refine Br _ (Bs T (fun γ v L w hl h=>⟨h.1,h.2.1,by rw[Bt (L:=L) (i:=_) (j:=18) (by decide)];exact h.2.2.1,h.2.2.2.1,h.2.2.2.2.1.other v (by decide) (by decide),h.2.2.2.2.2⟩) (fun γ L a w hH hl h9 k9=>⟨_,?_,rfl⟩)) ?_;· simp[JC]at k9;simp[JD,go_sem,h9,k9])
    |(refine Br _ (Bs T (fun γ v L w hl h=>⟨h.1,h.2.1,by rw[Bt (L:=L) (i:=_) (j:=18) (by decide)];exact h.2.2.1,h.2.2.2.1,h.2.2.2.2.1.other v (by decide) (by decide),h.2.2.2.2.2⟩) (fun γ L a w hH hl h9 k9=>⟨_,?_,rfl⟩)) ?_;· have iH:=(hH.glob.2.1 5 _ rfl).1;simp[JC]at k9;simp[JD,go_sem,h9,k9,iH])
   refine Br _ (Bw (fun γ L a w hH hl hA=>by have h9:=T γ L a w hH;have k9:=hA;simp[JC]at k9;refine⟨87,#[J Y qc,J Y 1099511627776],by simp[go_sem,h9,k9],JA (yS.out w) ?_⟩;rintro e w2 ⟨rfl,rfl⟩;exact⟨_,rfl,rfl,fun j v _ h=>h.keep _,hH.glob.1,hH.glob.2.1,by rw[Bt (L:=L) (i:=12) (j:=18) (by decide)];exact hH.glob.2.2.1,hH.glob.2.2.2.1,hH.glob.2.2.2.2.1.other _ (by decide) (by decide),hH.glob.2.2.2.2.2⟩)) ?_
   iterate 3 first
    |(refine Br _ (Bs T (fun γ v L w hl h=>⟨h.1,h.2.1,by rw[Bt (L:=L) (i:=_) (j:=18) (by decide)];exact h.2.2.1,h.2.2.2.1,h.2.2.2.2.1.other v (by decide) (by decide),h.2.2.2.2.2⟩) (fun γ L a w hH hl h9 k9=>⟨_,?_,rfl⟩)) ?_;· simp[JD,go_sem,h9])
    |(refine Br _ (Bs T (fun γ v L w hl h=>⟨h.1,h.2.1,by rw[Bt (L:=L) (i:=_) (j:=18) (by decide)];exact h.2.2.1,h.2.2.2.1,h.2.2.2.2.1.other v (by decide) (by decide),h.2.2.2.2.2⟩) (fun γ L a w hH hl h9 k9=>⟨_,?_,rfl⟩)) ?_;· simp[JC]at k9;simp[JD,go_sem,h9,k9])
    |(refine Br _ (Bs T (fun γ v L w hl h=>⟨h.1,h.2.1,by rw[Bt (L:=L) (i:=_) (j:=18) (by decide)];exact h.2.2.1,h.2.2.2.1,h.2.2.2.2.1.other v (by decide) (by decide),h.2.2.2.2.2⟩) (fun γ L a w hH hl h9 k9=>⟨_,?_,rfl⟩)) ?_;· have iH:=(hH.glob.2.1 6 _ rfl).1;simp[JC]at k9;simp[JD,go_sem,h9,k9,iH])
   refine Br _ (Bw (fun γ L a w hH hl hA=>by have h9:=T γ L a w hH;have k9:=hA;simp[JC]at k9;refine⟨87,#[J Y qd,J Y 1099511627776],by simp[go_sem,h9,k9],JA (yT.out w) ?_⟩;rintro e w2 ⟨rfl,rfl⟩;exact⟨_,rfl,rfl,fun j v _ h=>h.keep _,hH.glob.1,hH.glob.2.1,by rw[Bt (L:=L) (i:=16) (j:=18) (by decide)];exact hH.glob.2.2.1,hH.glob.2.2.2.1,hH.glob.2.2.2.2.1.other _ (by decide) (by decide),hH.glob.2.2.2.2.2⟩)) ?_
   (refine Br _ (Bs T (fun γ v L w hl h=>⟨h.1,h.2.1,by rw[Bt (L:=L) (i:=_) (j:=18) (by decide)];exact h.2.2.1,h.2.2.2.1,h.2.2.2.2.1.other v (by decide) (by decide),h.2.2.2.2.2⟩) (fun γ L a w hH hl h9 k9=>⟨_,?_,rfl⟩)) ?_;· simp[JC]at k9;simp[JD,go_sem,h9,k9])
   refine Br _ (Bw (fun γ L a w hH hl hA=>by have h9:=T γ L a w hH;have k9:=hA;simp[JC]at k9;have hG:=hH.glob;rw[hl]at hG;have wz:=hG.2.2.1 0 _ rfl;refine⟨86,#[BO (some ⟨wb,0,none⟩),B_ #[J Y pw,J Y px,J Y py,J Y pz]],by simp[go_sem,h9,k9],JA (HW.out w _ wz.1 wz.2) ?_⟩;rintro e w2 ⟨rfl,A⟩;refine⟨_,rfl,rfl,fun j v _ h=>h.keep _,?_⟩;have A9:=A.out;exact⟨A9.on hG.1 hwb,hG.2.1.beside A9 hrw,by rw[BD];exact Cells.after hG.2.2.1 A9,hG.2.2.2.1.beside A9 uQ,(hG.2.2.2.2.1.after A9 yU).other _ (by decide) (by decide),Nat.le_trans hG.2.2.2.2.2 A9.size⟩)) ?_;refine Br _ (BJ (fun γ L a w hH hl hA=>by have hG:=hH.glob;have sW:L 20=false:=Bu hH (Bv (j:=20) (i:=19) ah (by kernel_rfl)) hl;exact⟨BO (some ⟨w.heap.size,0,none⟩),w.alloc (BP #[J Y 0,J Y 0,J Y 0,J Y 0] 29),by simp[JD,go_sem],trivial,fun j v _ h=>h.keep _,hG.1.alloc hG.1.size _,hG.2.1.step (Jb _ _),by rw[Bt (L:=L) (i:=19) (j:=18) (by decide)];exact hG.2.2.1.step (Jb _ _),hG.2.2.2.1.step (Jb _ _),RV.Pend.made _ rfl hG.2.2.2.2.2 sW (by decide),by rw[JE];have h8:=hG.2.2.2.2.2;omega⟩)) ?_;refine Br _ (Bz (fun γ L a w hH hl hA=>by have h9:=T γ L a w hH;have k9:=hA;simp[JC]at k9;have l0:L 19=true:=hA ⟨19,.data⟩ (by simp) rfl;have e0:=hH.slot 19 4 (by rw[<- hD];rfl) l0;have hG:=hH.glob;obtain⟨b,cs,ac,aj,ao,bM,_⟩:=hG.2.2.2.2.1 l0;rw[ac]at e0;obtain⟨u0,u1,u2,u3,rfl⟩:=Jv2 bM;have pY:w.cell? ⟨b,0,none⟩=some u0:=(by simp[World.cell?,ao]);have pZ:w.cell? ⟨b,1,none⟩=some u1:=(by simp[World.cell?,ao]);have p6:w.cell? ⟨b,2,none⟩=some u2:=(by simp[World.cell?,ao]);have p7:w.cell? ⟨b,3,none⟩=some u3:=(by simp[World.cell?,ao]);have zf:∀ o,w.frozen? ⟨b,o,none⟩=false:=fun o=>(by simp[World.frozen?,ao]);have n1:rb≠b:=(by omega);have n2:wb≠b:=(by omega);have n3:ob≠b:=(by omega);have n4:w0.heap.size<=b:=(by omega);exact⟨((((w.setCell ⟨b,0,none⟩ (J Y vw)).setCell ⟨b,1,none⟩ (J Y vx)).setCell ⟨b,2,none⟩ (J Y vy)).setCell ⟨b,3,none⟩ (J Y vz)),by simp[JD,go_sem,e0,pY,pZ,p6,p7,zf,h9,k9],trivial,fun j v _ h=>h.keep _,((((hG.1.setCell n4 _).setCell n4 _).setCell n4 _).setCell n4 _),((((hG.2.1.apart n1 0 _).apart n1 1 _).apart n1 2 _).apart n1 3 _),by rw[Bt (L:=L) (i:=20) (j:=18) (by decide)];exact((((hG.2.2.1.apart n2 0 _).apart n2 1 _).apart n2 2 _).apart n2 3 _),((((hG.2.2.2.1.apart n3 0 _).apart n3 1 _).apart n3 2 _).apart n3 3 _),RV.Pend.filled ac aj (by have q0:=Go.heap_setCell_same w b 0 _ _ (J Y vw) ao;have q1:=Go.heap_setCell_same _ b 1 _ _ (J Y vx) q0;have q2:=Go.heap_setCell_same _ b 2 _ _ (J Y vy) q1;have q3:=Go.heap_setCell_same _ b 3 _ _ (J Y vz) q2;simpa using q3) (by decide) _,by have h8:=hG.2.2.2.2.2;simpa [World.setCell] using h8⟩)) ?_;exact RV.AllDo.nil
  ·intro γ w5 L9 hL aX aD;have hG:=aD;rw[hL 18 (by decide)]at hG;obtain⟨b3,cs,ac,aj,ao,_,cB⟩:=hG.2.2.2.2.1 (hL 19 (by decide));rw[cB (hL 20 (by decide))]at ao;clear hL cB aX aD;simp only[RV.putL,Act.put,List.setIfInBounds_toArray,List.set_cons_zero,List.set_cons_succ,Nat.reduceAdd];rw[ac];have C3:Cells w5 b3 [J Y vw,J Y vx,J Y vy,J Y vz]:=fun i v e=>⟨by simp[World.cell?,ao];exact e,by simp[World.frozen?,ao]⟩
   have HH:BU (B9 w0.heap.size w0 w5/\Cells w5 rb [J Y cg,J Y at1,J Y at2,J Y qa,J Y cv,J Y qc,J Y qd]/\Cells w5 ob [J Y 0,J Y 0,J Y 0,J Y 0,J Y 0,J Y 0,J Y 0]):=⟨hG.1,hG.2.1,hG.2.2.2.1⟩
   have fl:=(hG.2.2.1 0 _ rfl).1;have nrb:rb≠b3:=by omega
   have nob:ob≠b3:=by omega
   have uR:w0.heap.size<=b3:=by omega
   clear hG ac ao;go_wp2_with (fail);go_meet
   case rel=>exact⟨b3,rfl,HH.out.1,HH.out.2.1,HH.out.2.2,C3,uR,nrb,nob,by simpa using fl⟩
 case rest =>
  obtain⟨b3,rfl,k1,k2,k3,k4,uR,nrb,nob,fl⟩:=hcut;have nY:b3≠ob:=fun e=>nob e.symm;have H1:BU _:=And.intro k1 (And.intro k2 (And.intro k3 k4));clear k1 k2 k3 k4 B1 B2 B3 iU yQ yR yS yT HW
  go_upto_if 29 with fail
  go_cut [] from 26 (fun wx=>∃ ua ub uc ud:Int,BU (WM.Whole ua ub uc ud)/\B9 w0.heap.size w0 wx/\Cells wx rb [J Y cg,J Y at1,J Y at2,J Y qa,J Y cv,J Y qc,J Y qd]/\Cells wx ob [J Y 0,J Y 0,J Y 0,J Y 0,J Y 0,J Y 0,J Y 0]/\Cells wx b3 [J Y ua,J Y ub,J Y uc,J Y ud])
  case first =>
   cases bd with
   | false =>
    go_wp2_with (fail);go_meet
    case rel=>exact⟨vw,vx,vy,vz,(by first | exact HI.out rfl | exact HI.out trivial),H1.out.1,H1.out.2.1,H1.out.2.2.1,H1.out.2.2.2⟩
   | true =>
    obtain⟨k1,k2,k3,k4⟩:=H1.out;have HN:BU (B9 w0.heap.size w0 (set4 wc b3 (J Y 4294967296) (J Y 0) (J Y 0) (J Y 0))/\Cells (set4 wc b3 (J Y 4294967296) (J Y 0) (J Y 0) (J Y 0)) rb [J Y cg,J Y at1,J Y at2,J Y qa,J Y cv,J Y qc,J Y qd]/\Cells (set4 wc b3 (J Y 4294967296) (J Y 0) (J Y 0) (J Y 0)) ob [J Y 0,J Y 0,J Y 0,J Y 0,J Y 0,J Y 0,J Y 0]/\Cells (set4 wc b3 (J Y 4294967296) (J Y 0) (J Y 0) (J Y 0)) b3 [J Y 4294967296,J Y 0,J Y 0,J Y 0]):=
     ⟨Jgj k1 uR _ _ _ _,((((Cells.apart k2 nrb 0 _).apart nrb 1 _).apart nrb 2 _).apart nrb 3 _),((((Cells.apart k3 nob 0 _).apart nob 1 _).apart nob 2 _).apart nob 3 _),Cells.set4 k4 _ _ _ _⟩
    obtain⟨z0,z0f⟩:=k4 0 _ rfl;obtain⟨z1,z1f⟩:=k4 1 _ rfl;obtain⟨z2,z2f⟩:=k4 2 _ rfl;obtain⟨z3,z3f⟩:=k4 3 _ rfl;unfold set4 at HN;clear k1 k2 k3 k4;go_wp2_with (fail);go_meet
    case rel=>exact⟨4294967296,0,0,0,(by unfold WM.Whole;decide:WM.Whole 4294967296 0 0 0),HN.out.1,HN.out.2.1,HN.out.2.2.1,HN.out.2.2.2⟩
  case rest =>
   obtain⟨ua,ub,uc,ud,HQ9,k1,k2,k3,k4⟩:=hcut;clear H1 fl HI;go_upto_region 5 with fail;obtain⟨X,hX⟩:∃ X:BV,X=wc:=⟨_,rfl⟩
   rw[<- hX]at k1 k2 k3 k4 ⊢;clear hX;refine Bq [.some (BO (some ⟨rb,0,none⟩)),.some (BO (some ⟨rb,0,none⟩)),.some (J Y cg),.some (J Y ta),.some (BO (some ⟨rb,0,none⟩)),.some (BO (some ⟨rb,1,none⟩)),.some (J Y at1),.some (J Y tb),.some (BO (some ⟨rb,0,none⟩)),.some (BO (some ⟨rb,2,none⟩)),.some (J Y at2),.some (J Y tc),.some (B_ #[J Y ta,J Y tb,J Y tc]),.some (B_ #[J Y ua,J Y ub,J Y uc,J Y ud]),.some (B_ #[J Y ta,J Y tb,J Y tc,J Y ua,J Y ub,J Y uc,J Y ud]),none] [32,33,34,35,36,37,38,39,40,41,42,43,44,45,46,0] [(1,BO (some ⟨rb,0,none⟩)),(2,BO (some ⟨ob,0,none⟩)),(4,BO (some ⟨b3,0,none⟩))] (fun γ L w=>B9 w0.heap.size w0 w/\Cells w rb [J Y cg,J Y at1,J Y at2,J Y qa,J Y cv,J Y qc,J Y qd]/\Cells w b3 [J Y ua,J Y ub,J Y uc,J Y ud]/\Cells w ob (cond (L 15) [J Y ta,J Y tb,J Y tc,J Y ua,J Y ub,J Y uc,J Y ud] [J Y 0,J Y 0,J Y 0,J Y 0,J Y 0,J Y 0,J Y 0])) ⟨rfl,rfl,rfl,trivial⟩ ?_ ?_ ?_
   ·have b9:B9 X.heap.size X X.drew:=(Below.refl _ _).drew;exact⟨Jc k1 b9,Cells.step k2 b9,Cells.step k4 b9,Cells.step k3 b9⟩
   ·intro D WA Z hD ah hZ T;simp only[RV.Outs,RV.Slots,Nat.reduceAdd]at T
    iterate 3 first
     |(refine Br _ (Bs T (fun γ v L w hl h=>⟨h.1,h.2.1,h.2.2.1,by rw[Bt (L:=L) (i:=_) (j:=15) (by decide)];exact h.2.2.2⟩) (fun γ L a w hH hl h9 k9=>⟨_,?_,rfl⟩)) ?_;· simp[JD,go_sem,h9])
     |(refine Br _ (Bs T (fun γ v L w hl h=>⟨h.1,h.2.1,h.2.2.1,by rw[Bt (L:=L) (i:=_) (j:=15) (by decide)];exact h.2.2.2⟩) (fun γ L a w hH hl h9 k9=>⟨_,?_,rfl⟩)) ?_;· simp[JC]at k9;simp[JD,go_sem,h9,k9])
     |(refine Br _ (Bs T (fun γ v L w hl h=>⟨h.1,h.2.1,h.2.2.1,by rw[Bt (L:=L) (i:=_) (j:=15) (by decide)];exact h.2.2.2⟩) (fun γ L a w hH hl h9 k9=>⟨_,?_,rfl⟩)) ?_;· have iH:=(hH.glob.2.1 0 _ rfl).1;simp[JC]at k9;simp[JD,go_sem,h9,k9,iH])
    refine Br _ (Bw (fun γ L a w hH hl hA=>by have h9:=T γ L a w hH;have k9:=hA;simp[JC]at k9;refine⟨87,#[J Y cg,J Y 4398046511104],by simp[go_sem,h9,k9],JA (HA0.out w) ?_⟩;rintro e w2 ⟨rfl,rfl⟩;exact⟨_,rfl,rfl,fun j v _ h=>h.keep _,hH.glob.1,hH.glob.2.1,hH.glob.2.2.1,by rw[Bt (L:=L) (i:=3) (j:=15) (by decide)];exact hH.glob.2.2.2⟩)) ?_
    iterate 3 first
     |(refine Br _ (Bs T (fun γ v L w hl h=>⟨h.1,h.2.1,h.2.2.1,by rw[Bt (L:=L) (i:=_) (j:=15) (by decide)];exact h.2.2.2⟩) (fun γ L a w hH hl h9 k9=>⟨_,?_,rfl⟩)) ?_;· simp[JD,go_sem,h9])
     |(refine Br _ (Bs T (fun γ v L w hl h=>⟨h.1,h.2.1,h.2.2.1,by rw[Bt (L:=L) (i:=_) (j:=15) (by decide)];exact h.2.2.2⟩) (fun γ L a w hH hl h9 k9=>⟨_,?_,rfl⟩)) ?_;· simp[JC]at k9;simp[JD,go_sem,h9,k9])
     |(refine Br _ (Bs T (fun γ v L w hl h=>⟨h.1,h.2.1,h.2.2.1,by rw[Bt (L:=L) (i:=_) (j:=15) (by decide)];exact h.2.2.2⟩) (fun γ L a w hH hl h9 k9=>⟨_,?_,rfl⟩)) ?_;· have iH:=(hH.glob.2.1 1 _ rfl).1;simp[JC]at k9;simp[JD,go_sem,h9,k9,iH])
    refine Br _ (Bw (fun γ L a w hH hl hA=>by have h9:=T γ L a w hH;have k9:=hA;simp[JC]at k9;refine⟨87,#[J Y at1,J Y 4398046511104],by simp[go_sem,h9,k9],JA (HA1.out w) ?_⟩;rintro e w2 ⟨rfl,rfl⟩;exact⟨_,rfl,rfl,fun j v _ h=>h.keep _,hH.glob.1,hH.glob.2.1,hH.glob.2.2.1,by rw[Bt (L:=L) (i:=7) (j:=15) (by decide)];exact hH.glob.2.2.2⟩)) ?_
    iterate 3 first
     |(refine Br _ (Bs T (fun γ v L w hl h=>⟨h.1,h.2.1,h.2.2.1,by rw[Bt (L:=L) (i:=_) (j:=15) (by decide)];exact h.2.2.2⟩) (fun γ L a w hH hl h9 k9=>⟨_,?_,rfl⟩)) ?_;· simp[JD,go_sem,h9])
     |(refine Br _ (Bs T (fun γ v L w hl h=>⟨h.1,h.2.1,h.2.2.1,by rw[Bt (L:=L) (i:=_) (j:=15) (by decide)];exact h.2.2.2⟩) (fun γ L a w hH hl h9 k9=>⟨_,?_,rfl⟩)) ?_;· simp[JC]at k9;simp[JD,go_sem,h9,k9])
     |(refine Br _ (Bs T (fun γ v L w hl h=>⟨h.1,h.2.1,h.2.2.1,by rw[Bt (L:=L) (i:=_) (j:=15) (by decide)];exact h.2.2.2⟩) (fun γ L a w hH hl h9 k9=>⟨_,?_,rfl⟩)) ?_;· have iH:=(hH.glob.2.1 2 _ rfl).1;simp[JC]at k9;simp[JD,go_sem,h9,k9,iH])
    refine Br _ (Bw (fun γ L a w hH hl hA=>by have h9:=T γ L a w hH;have k9:=hA;simp[JC]at k9;refine⟨87,#[J Y at2,J Y 4398046511104],by simp[go_sem,h9,k9],JA (lp.out w) ?_⟩;rintro e w2 ⟨rfl,rfl⟩;exact⟨_,rfl,rfl,fun j v _ h=>h.keep _,hH.glob.1,hH.glob.2.1,hH.glob.2.2.1,by rw[Bt (L:=L) (i:=11) (j:=15) (by decide)];exact hH.glob.2.2.2⟩)) ?_
    iterate 3 first
     |(refine Br _ (Bs T (fun γ v L w hl h=>⟨h.1,h.2.1,h.2.2.1,by rw[Bt (L:=L) (i:=_) (j:=15) (by decide)];exact h.2.2.2⟩) (fun γ L a w hH hl h9 k9=>⟨_,?_,rfl⟩)) ?_;· have pY:=(hH.glob.2.2.1 0 _ rfl).1;have pZ:=(hH.glob.2.2.1 1 _ rfl).1;have p6:=(hH.glob.2.2.1 2 _ rfl).1;have p7:=(hH.glob.2.2.1 3 _ rfl).1;simp[JD,go_sem,h9,pY,pZ,p6,p7])
     |(refine Br _ (Bs T (fun γ v L w hl h=>⟨h.1,h.2.1,h.2.2.1,by rw[Bt (L:=L) (i:=_) (j:=15) (by decide)];exact h.2.2.2⟩) (fun γ L a w hH hl h9 k9=>⟨_,?_,rfl⟩)) ?_;· simp[JC]at k9;simp[JD,go_sem,h9,k9])
    refine Br _ (Bz (fun γ L a w hH hl hA=>by have h9:=T γ L a w hH;have k9:=hA;simp[JC]at k9;have hG:=hH.glob;rw[hl]at hG;have pY:=hG.2.2.2 0 _ rfl;have pZ:=hG.2.2.2 1 _ rfl;have p6:=hG.2.2.2 2 _ rfl;have p7:=hG.2.2.2 3 _ rfl;have yV:=hG.2.2.2 4 _ rfl;have yW:=hG.2.2.2 5 _ rfl;have yX:=hG.2.2.2 6 _ rfl;refine⟨(((((((w.setCell ⟨ob,0,none⟩ (J Y ta)).setCell ⟨ob,1,none⟩ (J Y tb)).setCell ⟨ob,2,none⟩ (J Y tc)).setCell ⟨ob,3,none⟩ (J Y ua)).setCell ⟨ob,4,none⟩ (J Y ub)).setCell ⟨ob,5,none⟩ (J Y uc)).setCell ⟨ob,6,none⟩ (J Y ud)),by simp[JD,go_sem,pY.1,pY.2,pZ.1,pZ.2,p6.1,p6.2,p7.1,p7.2,yV.1,yV.2,yW.1,yW.2,yX.1,yX.2,h9,k9],trivial,fun j v _ h=>h.keep _,(((((((hG.1.setCell kL _).setCell kL _).setCell kL _).setCell kL _).setCell kL _).setCell kL _).setCell kL _),(((((((hG.2.1.apart nW 0 _).apart nW 1 _).apart nW 2 _).apart nW 3 _).apart nW 4 _).apart nW 5 _).apart nW 6 _),(((((((hG.2.2.1.apart nY 0 _).apart nY 1 _).apart nY 2 _).apart nY 3 _).apart nY 4 _).apart nY 5 _).apart nY 6 _),?_⟩;rw[BD];exact(Cells.set (Cells.set (Cells.set (Cells.set (Cells.set (Cells.set (Cells.set hG.2.2.2 0 (J Y ta) (by simp)) 1 (J Y tb) (by simp)) 2 (J Y tc) (by simp)) 3 (J Y ua) (by simp)) 4 (J Y ub) (by simp)) 5 (J Y uc) (by simp)) 6 (J Y ud) (by simp)))) ?_;exact RV.AllDo.nil
   ·intro γ w5 L9 hL aX aD;have hG:=aD;rw[hL 15 (by decide)]at hG;clear hL aX aD;simp only[RV.putL,Act.put,List.setIfInBounds_toArray,List.set_cons_zero,List.set_cons_succ];have cN:BU _:=hG.1;have C5:Cells w5 ob [J Y ta,J Y tb,J Y tc,J Y ua,J Y ub,J Y uc,J Y ud]:=hG.2.2.2;have sX:=(C5 0 _ rfl).1;have sY:=(C5 1 _ rfl).1;have sZ:=(C5 2 _ rfl).1;have z3_:=(C5 3 _ rfl).1;have z4_:=(C5 4 _ rfl).1;have z5_:=(C5 5 _ rfl).1;have z6_:=(C5 6 _ rfl).1;clear hG C5;go_wp2;exact bodyPost_ret (v:=B_ #[J Y ta,J Y tb,J Y tc,J Y ua,J Y ub,J Y uc,J Y ud]) (by simp[results,results28,go_sem,sX,sY,sZ,z3_,z4_,z5_,z6_]) rfl ⟨⟨ta,tb,tc⟩,⟨ua,ub,uc,ud⟩,rfl,HT.out,HQ9.out,cN.out⟩
end
section
open Go.RowKit Ref Fx
def Jh(p0 p1 p2 p3 q0 q1 q2 q3:Int):Bool:=(((((((false ||(sub 0 q1).isNone) ||(sub 0 q2).isNone) ||(sub 0 q3).isNone) ||(dot [p0,p1,p2,p3] [q0,((sub 0 q1).getD 0),((sub 0 q2).getD 0),((sub 0 q3).getD 0)]).isNone) ||(dot [p0,p1,p2,p3] [q1,q0,q3,((sub 0 q2).getD 0)]).isNone) ||(dot [p0,p1,p2,p3] [q2,((sub 0 q3).getD 0),q0,q1]).isNone) ||(dot [p0,p1,p2,p3] [q3,q2,((sub 0 q1).getD 0),q0]).isNone)
def Jas(p0 p1 p2 p3 q0 q1 q2 q3:Int):Int:=(dot [p0,p1,p2,p3] [q0,((sub 0 q1).getD 0),((sub 0 q2).getD 0),((sub 0 q3).getD 0)]).getD 0
def Jat(p0 p1 p2 p3 q0 q1 q2 q3:Int):Int:=(dot [p0,p1,p2,p3] [q1,q0,q3,((sub 0 q2).getD 0)]).getD 0
def Jar(p0 p1 p2 p3 q0 q1 q2 q3:Int):Int:=(dot [p0,p1,p2,p3] [q2,((sub 0 q3).getD 0),q0,q1]).getD 0
def Jaq(p0 p1 p2 p3 q0 q1 q2 q3:Int):Int:=(dot [p0,p1,p2,p3] [q3,q2,((sub 0 q1).getD 0),q0]).getD 0
theorem Ho.lay{W V:BV}{p:Ce}{po:Nat}{f g:Bool}{l:List (Ce × B7)}(h:Ho W V p po f g l)(cs:Array B7)(t:TypeId)(k:List (Ce × B7))(hk:∀ c∈k,∃ i:Nat,c.1=⟨V.heap.size,i,none⟩/\cs[i]?=some c.2):Ho W (V.alloc (BP cs t)) p po f g (k++l):=by
 have h2:=h.alloc (BP cs t);have aG:=JB _ _ h.own;dsimp only at aG;refine⟨h2.leaves,h2.flag,h2.flagf,h2.own,h2.ownf,fun c hc=>?_,fun c hc=>?_,h2.hp,h2.ho⟩
 ·rcases List.mem_append.1 hc with hc | hc
  ·obtain⟨i,e,hi⟩:=hk c hc;rw[e];exact⟨by rw[World.cell?_alloc_at _ _ _ _ rfl];exact hi,by simp[go_sem]⟩
  ·exact h2.fix c hc
 ·rcases List.mem_append.1 hc with hc | hc
  ·obtain⟨i,e,hi⟩:=hk c hc;rw[e];show V.heap.size≠po;omega
  ·exact h2.far c hc
theorem Jmp{f g1 g2 g3 g4 g5 g6 g7:Bool}{p0 p1 p2 p3 q0 q1 q2 q3 x y z a b c d:Int}(h1:Ja1 false (sub 0 q1) x g1)(h2:Ja1 g1 (sub 0 q2) y g2)(h3:Ja1 g2 (sub 0 q3) z g3)(h4:Ja1 g3 (dot [p0,p1,p2,p3] [q0,x,y,z]) a g4)(h5:Ja1 g4 (dot [p0,p1,p2,p3] [q1,q0,q3,y]) b g5)(h6:Ja1 g5 (dot [p0,p1,p2,p3] [q2,z,q0,q1]) c g6)(h7:Ja1 g6 (dot [p0,p1,p2,p3] [q3,q2,x,q0]) d g7):
  cond g7 0 a=cond (Jh p0 p1 p2 p3 q0 q1 q2 q3) 0 (Jas p0 p1 p2 p3 q0 q1 q2 q3)/\cond g7 0 b=cond (Jh p0 p1 p2 p3 q0 q1 q2 q3) 0 (Jat p0 p1 p2 p3 q0 q1 q2 q3)/\cond g7 0 c=cond (Jh p0 p1 p2 p3 q0 q1 q2 q3) 0 (Jar p0 p1 p2 p3 q0 q1 q2 q3)/\cond g7 0 d=cond (Jh p0 p1 p2 p3 q0 q1 q2 q3) 0 (Jaq p0 p1 p2 p3 q0 q1 q2 q3)/\(f||g7)=(f||Jh p0 p1 p2 p3 q0 q1 q2 q3):=by
 obtain⟨rfl,rfl⟩:=h1;obtain⟨rfl,rfl⟩:=h2;obtain⟨rfl,rfl⟩:=h3;obtain⟨rfl,rfl⟩:=h4;obtain⟨rfl,rfl⟩:=h5;obtain⟨rfl,rfl⟩:=h6;obtain⟨rfl,rfl⟩:=h7;exact⟨rfl,rfl,rfl,rfl,rfl⟩
theorem Jmw(b off:Nat)(f:Bool)(p0 p1 p2 p3 q0 q1 q2 q3:Int)(W:BV)(hc:W.cell? ⟨b,off,none⟩=some (BT f))(hf:W.frozen? ⟨b,off,none⟩=false):
  Cd Tryz.prog 137 #[BO (some ⟨b,off,none⟩),B_ #[J Y p0,J Y p1,J Y p2,J Y p3],B_ #[J Y q0,J Y q1,J Y q2,J Y q3]] W fun e W'=>∃ v0 v1 v2 v3 g,e = BZ (B_ #[J Y v0,J Y v1,J Y v2,J Y v3])/\BU (v0=cond (Jh p0 p1 p2 p3 q0 q1 q2 q3) 0 (Jas p0 p1 p2 p3 q0 q1 q2 q3)/\v1=cond (Jh p0 p1 p2 p3 q0 q1 q2 q3) 0 (Jat p0 p1 p2 p3 q0 q1 q2 q3)/\v2=cond (Jh p0 p1 p2 p3 q0 q1 q2 q3) 0 (Jar p0 p1 p2 p3 q0 q1 q2 q3)/\v3=cond (Jh p0 p1 p2 p3 q0 q1 q2 q3) 0 (Jaq p0 p1 p2 p3 q0 q1 q2 q3)/\g=(f||Jh p0 p1 p2 p3 q0 q1 q2 q3))/\BU (After ⟨b,off,none⟩ g W W'):=by
 have aO:b<W.heap.size:=JB _ _ hc;go_enter func137,ntmps137;go_wp2_with (fail);refine(Jbm _).mono ?_;rintro e W1 ⟨rfl,rfl⟩;obtain⟨U,hU⟩:∃ U,U=((((W.alloc (BP #[J Y p0,J Y p1,J Y p2,J Y p3] 29)).alloc (BP #[J Y q0,J Y q1,J Y q2,J Y q3] 29)).alloc (BP #[J Y 0,J Y 0,J Y 0,J Y 0] 29)).alloc (BP #[BT false] 57)):=⟨_,rfl⟩
 obtain⟨pa,aU⟩:∃ p,p=W.heap.size:=⟨_,rfl⟩
 obtain⟨pb,aF⟩:∃ p,p=W.heap.size+1:=⟨_,rfl⟩
 obtain⟨pr,aB⟩:∃ p,p=W.heap.size+1+1:=⟨_,rfl⟩
 obtain⟨po,aV⟩:∃ p,p=W.heap.size+1+1+1:=⟨_,rfl⟩
 have H:BU (Ho W U ⟨b,off,none⟩ po f false [(⟨pa,0,none⟩,J Y p0),(⟨pa,1,none⟩,J Y p1),(⟨pa,2,none⟩,J Y p2),(⟨pa,3,none⟩,J Y p3),(⟨pb,0,none⟩,J Y q0),(⟨pb,1,none⟩,J Y q1),(⟨pb,2,none⟩,J Y q2),(⟨pb,3,none⟩,J Y q3),(⟨pr,0,none⟩,J Y 0),(⟨pr,1,none⟩,J Y 0),(⟨pr,2,none⟩,J Y 0),(⟨pr,3,none⟩,J Y 0)]):=by
  refine⟨by rw[hU];exact(((((Leaves.refl _ _).alloc _).alloc _).alloc _).alloc _),by rw[hU,World.cell?_alloc_past _ _ _ (by simp;omega),World.cell?_alloc_past _ _ _ (by simp;omega),World.cell?_alloc_past _ _ _ (by simp;omega),World.cell?_alloc_past _ _ _ aO];exact hc,by rw[hU,((Jd _ _).frozen (by simp;omega)),((Jd _ _).frozen (by simp;omega)),((Jd _ _).frozen (by simp;omega)),((Jd _ _).frozen aO)];exact hf,by rw[hU,aV];simp[go_sem],by rw[hU,aV];simp[go_sem],?_,?_,aO,by omega⟩
  ·intro c hc;simp only[List.mem_cons,List.not_mem_nil,or_false]at hc;rcases hc with rfl | rfl | rfl | rfl | rfl | rfl | rfl | rfl | rfl | rfl | rfl | rfl <;> rw[hU] <;> dsimp only <;> first |(rw[aU];exact⟨by simp[go_sem],by simp[go_sem]⟩) |(rw[aF];exact⟨by simp[go_sem],by simp[go_sem]⟩) |(rw[aB];exact⟨by simp[go_sem],by simp[go_sem]⟩)
  ·intro c hc;simp only[List.mem_cons,List.not_mem_nil,or_false]at hc;rcases hc with rfl | rfl | rfl | rfl | rfl | rfl | rfl | rfl | rfl | rfl | rfl | rfl <;> (dsimp only) <;> omega
 rw[<- hU];simp only[JE];rw[<- aV,<- aB,<- aF,<- aU];have qU:pa<pb:=by omega
 have qV:pb<pr:=by omega
 have uP:pr<po:=by omega
 have qW:W.heap.size<=pa:=by omega
 clear hU hc hf aU aF aB aV;have aa:=(H.out.fix (⟨pa,0,none⟩,J Y p0) (by simp)).1;have af:=(H.out.fix (⟨pa,1,none⟩,J Y p1) (by simp)).1;have ag:=(H.out.fix (⟨pa,2,none⟩,J Y p2) (by simp)).1;have an:=(H.out.fix (⟨pa,3,none⟩,J Y p3) (by simp)).1;have aw:=(H.out.fix (⟨pb,0,none⟩,J Y q0) (by simp)).1;have aR:=(H.out.fix (⟨pb,1,none⟩,J Y q1) (by simp)).1;have aS:=(H.out.fix (⟨pb,2,none⟩,J Y q2) (by simp)).1;have bI:=(H.out.fix (⟨pb,3,none⟩,J Y q3) (by simp)).1;have aq:=JB _ _ aa;dsimp only at aq;have bf:=JB _ _ aw;dsimp only at bf;have ho:=H.out.own;have aH:=H.out.ownf;obtain⟨pl,fd⟩:∃ p,p=U.heap.size:=⟨_,rfl⟩
 obtain⟨U2,xj⟩:∃ X,X=U.alloc (BP #[J Y p0,J Y p1,J Y p2,J Y p3] 3):=⟨_,rfl⟩
 have H2:BU (Ho W U2 ⟨b,off,none⟩ po f false ([(⟨pl,0,none⟩,J Y p0),(⟨pl,1,none⟩,J Y p1),(⟨pl,2,none⟩,J Y p2),(⟨pl,3,none⟩,J Y p3)] ++ [(⟨pa,0,none⟩,J Y p0),(⟨pa,1,none⟩,J Y p1),(⟨pa,2,none⟩,J Y p2),(⟨pa,3,none⟩,J Y p3),(⟨pb,0,none⟩,J Y q0),(⟨pb,1,none⟩,J Y q1),(⟨pb,2,none⟩,J Y q2),(⟨pb,3,none⟩,J Y q3),(⟨pr,0,none⟩,J Y 0),(⟨pr,1,none⟩,J Y 0),(⟨pr,2,none⟩,J Y 0),(⟨pr,3,none⟩,J Y 0)])):=by
  show Ho _ _ _ _ _ _ _
  rw[xj];refine H.out.lay _ _ _ (fun c hc=>?_);simp only[List.mem_cons,List.not_mem_nil,or_false]at hc;rcases hc with rfl | rfl | rfl | rfl
  ·exact⟨0,by rw[fd],rfl⟩
  ·exact⟨1,by rw[fd],rfl⟩
  ·exact⟨2,by rw[fd],rfl⟩
  ·exact⟨3,by rw[fd],rfl⟩
 go_wp2_with (fail);rw[<- xj,<- fd];have H:BU _:=H2.out;clear xj fd H2 aa af ag an aw aR aS bI aq bf ho aH;refine(Jbv po 0 false 0 q1 _ H.out.own H.out.ownf).mono ?_;rintro e lH ⟨x,g1,rfl,fI,A⟩;have H:BU _:=H.out.after A.out;clear A;have aw:=(H.out.fix (⟨pb,0,none⟩,J Y q0) (by simp)).1;have aR:=(H.out.fix (⟨pb,1,none⟩,J Y q1) (by simp)).1;have aS:=(H.out.fix (⟨pb,2,none⟩,J Y q2) (by simp)).1;have bI:=(H.out.fix (⟨pb,3,none⟩,J Y q3) (by simp)).1;have bf:=JB _ _ aw;dsimp only at bf;have ho:=H.out.own;have aH:=H.out.ownf;go_wp2_with (fail);refine(Jbv po 0 g1 0 q2 _ ho aH).mono ?_;rintro e nd ⟨y,g2,rfl,ic,A⟩;have H:BU _:=H.out.after A.out;clear A aw aR aS bI bf ho aH;have aw:=(H.out.fix (⟨pb,0,none⟩,J Y q0) (by simp)).1;have aR:=(H.out.fix (⟨pb,1,none⟩,J Y q1) (by simp)).1;have aS:=(H.out.fix (⟨pb,2,none⟩,J Y q2) (by simp)).1;have bI:=(H.out.fix (⟨pb,3,none⟩,J Y q3) (by simp)).1;have bf:=JB _ _ aw;dsimp only at bf;have ho:=H.out.own;have aH:=H.out.ownf;go_wp2_with (fail);refine(Jbv po 0 g2 0 q3 _ ho aH).mono ?_;rintro e pG ⟨z,g3,rfl,kl,A⟩;have H:BU _:=H.out.after A.out;clear A aw aR aS bI bf ho aH;have aw:=(H.out.fix (⟨pb,0,none⟩,J Y q0) (by simp)).1;have aR:=(H.out.fix (⟨pb,1,none⟩,J Y q1) (by simp)).1;have aS:=(H.out.fix (⟨pb,2,none⟩,J Y q2) (by simp)).1;have bI:=(H.out.fix (⟨pb,3,none⟩,J Y q3) (by simp)).1;have bf:=JB _ _ aw;dsimp only at bf;have ho:=H.out.own;have aH:=H.out.ownf;go_wp2_with (fail);refine(Jch po 0 g3 [p0,p1,p2,p3] [q0,x,y,z] (some ⟨pl,0,none⟩) (some ⟨pG.heap.size,0,none⟩) 4 4 (pG.alloc (BP #[J Y q0,J Y x,J Y y,J Y z] 3)) (H.out.alloc (BP #[J Y q0,J Y x,J Y y,J Y z] 3)).own (H.out.alloc (BP #[J Y q0,J Y x,J Y y,J Y z] 3)).ownf (by simp) (by simp) (Jg9 ((H.out.alloc (BP #[J Y q0,J Y x,J Y y,J Y z] 3)).fix (⟨pl,0,none⟩,J Y p0) (by simp)).1 ((H.out.alloc (BP #[J Y q0,J Y x,J Y y,J Y z] 3)).fix (⟨pl,1,none⟩,J Y p1) (by simp)).1 ((H.out.alloc (BP #[J Y q0,J Y x,J Y y,J Y z] 3)).fix (⟨pl,2,none⟩,J Y p2) (by simp)).1 ((H.out.alloc (BP #[J Y q0,J Y x,J Y y,J Y z] 3)).fix (⟨pl,3,none⟩,J Y p3) (by simp)).1) (Jg9 (by simp[go_sem]) (by simp[go_sem]) (by simp[go_sem]) (by simp[go_sem]))).mono ?_;rintro e tW ⟨va,g4,rfl,qt,A⟩;have H:BU _:=(H.out.alloc (BP #[J Y q0,J Y x,J Y y,J Y z] 3)).after A.out;clear A aw aR aS bI bf ho aH;have aw:=(H.out.fix (⟨pb,0,none⟩,J Y q0) (by simp)).1;have aR:=(H.out.fix (⟨pb,1,none⟩,J Y q1) (by simp)).1;have aS:=(H.out.fix (⟨pb,2,none⟩,J Y q2) (by simp)).1;have bI:=(H.out.fix (⟨pb,3,none⟩,J Y q3) (by simp)).1;have bf:=JB _ _ aw;dsimp only at bf;have ho:=H.out.own;have aH:=H.out.ownf;go_wp2_with (fail);refine(Jch po 0 g4 [p0,p1,p2,p3] [q1,q0,q3,y] (some ⟨pl,0,none⟩) (some ⟨tW.heap.size,0,none⟩) 4 4 (tW.alloc (BP #[J Y q1,J Y q0,J Y q3,J Y y] 3)) (H.out.alloc (BP #[J Y q1,J Y q0,J Y q3,J Y y] 3)).own (H.out.alloc (BP #[J Y q1,J Y q0,J Y q3,J Y y] 3)).ownf (by simp) (by simp) (Jg9 ((H.out.alloc (BP #[J Y q1,J Y q0,J Y q3,J Y y] 3)).fix (⟨pl,0,none⟩,J Y p0) (by simp)).1 ((H.out.alloc (BP #[J Y q1,J Y q0,J Y q3,J Y y] 3)).fix (⟨pl,1,none⟩,J Y p1) (by simp)).1 ((H.out.alloc (BP #[J Y q1,J Y q0,J Y q3,J Y y] 3)).fix (⟨pl,2,none⟩,J Y p2) (by simp)).1 ((H.out.alloc (BP #[J Y q1,J Y q0,J Y q3,J Y y] 3)).fix (⟨pl,3,none⟩,J Y p3) (by simp)).1) (Jg9 (by simp[go_sem]) (by simp[go_sem]) (by simp[go_sem]) (by simp[go_sem]))).mono ?_;rintro e yj ⟨vb,g5,rfl,tX,A⟩;have H:BU _:=(H.out.alloc (BP #[J Y q1,J Y q0,J Y q3,J Y y] 3)).after A.out;clear A aw aR aS bI bf ho aH;have aw:=(H.out.fix (⟨pb,0,none⟩,J Y q0) (by simp)).1;have aR:=(H.out.fix (⟨pb,1,none⟩,J Y q1) (by simp)).1;have aS:=(H.out.fix (⟨pb,2,none⟩,J Y q2) (by simp)).1;have bI:=(H.out.fix (⟨pb,3,none⟩,J Y q3) (by simp)).1;have bf:=JB _ _ aw;dsimp only at bf;have ho:=H.out.own;have aH:=H.out.ownf;go_wp2_with (fail);refine(Jch po 0 g5 [p0,p1,p2,p3] [q2,z,q0,q1] (some ⟨pl,0,none⟩) (some ⟨yj.heap.size,0,none⟩) 4 4 (yj.alloc (BP #[J Y q2,J Y z,J Y q0,J Y q1] 3)) (H.out.alloc (BP #[J Y q2,J Y z,J Y q0,J Y q1] 3)).own (H.out.alloc (BP #[J Y q2,J Y z,J Y q0,J Y q1] 3)).ownf (by simp) (by simp) (Jg9 ((H.out.alloc (BP #[J Y q2,J Y z,J Y q0,J Y q1] 3)).fix (⟨pl,0,none⟩,J Y p0) (by simp)).1 ((H.out.alloc (BP #[J Y q2,J Y z,J Y q0,J Y q1] 3)).fix (⟨pl,1,none⟩,J Y p1) (by simp)).1 ((H.out.alloc (BP #[J Y q2,J Y z,J Y q0,J Y q1] 3)).fix (⟨pl,2,none⟩,J Y p2) (by simp)).1 ((H.out.alloc (BP #[J Y q2,J Y z,J Y q0,J Y q1] 3)).fix (⟨pl,3,none⟩,J Y p3) (by simp)).1) (Jg9 (by simp[go_sem]) (by simp[go_sem]) (by simp[go_sem]) (by simp[go_sem]))).mono ?_;rintro e yk ⟨vc,g6,rfl,tY,A⟩;have H:BU _:=(H.out.alloc (BP #[J Y q2,J Y z,J Y q0,J Y q1] 3)).after A.out;clear A aw aR aS bI bf ho aH;have aw:=(H.out.fix (⟨pb,0,none⟩,J Y q0) (by simp)).1;have aR:=(H.out.fix (⟨pb,1,none⟩,J Y q1) (by simp)).1;have aS:=(H.out.fix (⟨pb,2,none⟩,J Y q2) (by simp)).1;have bI:=(H.out.fix (⟨pb,3,none⟩,J Y q3) (by simp)).1;have bf:=JB _ _ aw;dsimp only at bf;have ho:=H.out.own;have aH:=H.out.ownf;go_wp2_with (fail)
 refine(Jch po 0 g6 [p0,p1,p2,p3] [q3,q2,x,q0] (some ⟨pl,0,none⟩) (some ⟨yk.heap.size,0,none⟩) 4 4 (yk.alloc (BP #[J Y q3,J Y q2,J Y x,J Y q0] 3)) (H.out.alloc (BP #[J Y q3,J Y q2,J Y x,J Y q0] 3)).own (H.out.alloc (BP #[J Y q3,J Y q2,J Y x,J Y q0] 3)).ownf (by simp) (by simp) (Jg9 ((H.out.alloc (BP #[J Y q3,J Y q2,J Y x,J Y q0] 3)).fix (⟨pl,0,none⟩,J Y p0) (by simp)).1 ((H.out.alloc (BP #[J Y q3,J Y q2,J Y x,J Y q0] 3)).fix (⟨pl,1,none⟩,J Y p1) (by simp)).1 ((H.out.alloc (BP #[J Y q3,J Y q2,J Y x,J Y q0] 3)).fix (⟨pl,2,none⟩,J Y p2) (by simp)).1 ((H.out.alloc (BP #[J Y q3,J Y q2,J Y x,J Y q0] 3)).fix (⟨pl,3,none⟩,J Y p3) (by simp)).1) (Jg9 (by simp[go_sem]) (by simp[go_sem]) (by simp[go_sem]) (by simp[go_sem]))).mono ?_;rintro e ym ⟨vd,g7,rfl,tZ,A⟩;have H:BU _:=(H.out.alloc (BP #[J Y q3,J Y q2,J Y x,J Y q0] 3)).after A.out;clear A aw aR aS bI bf ho aH;go_wp2_with (fail);refine(Jb4 b off po f g7 _ H.out.flag H.out.flagf H.out.own (by omega)).mono ?_;rintro e V9 ⟨rfl,A⟩;have bN:=A.out.cellOf (H.out.fix (⟨pr,0,none⟩,J Y 0) (by simp)).1 (by show pr≠b;omega);have dt:=A.out.frozenOf (H.out.fix (⟨pr,0,none⟩,J Y 0) (by simp)).1 (H.out.fix (⟨pr,0,none⟩,J Y 0) (by simp)).2 (by show pr≠b;omega);have bO:=A.out.cellOf (H.out.fix (⟨pr,1,none⟩,J Y 0) (by simp)).1 (by show pr≠b;omega);have du:=A.out.frozenOf (H.out.fix (⟨pr,1,none⟩,J Y 0) (by simp)).1 (H.out.fix (⟨pr,1,none⟩,J Y 0) (by simp)).2 (by show pr≠b;omega);have bP:=A.out.cellOf (H.out.fix (⟨pr,2,none⟩,J Y 0) (by simp)).1 (by show pr≠b;omega);have dv:=A.out.frozenOf (H.out.fix (⟨pr,2,none⟩,J Y 0) (by simp)).1 (H.out.fix (⟨pr,2,none⟩,J Y 0) (by simp)).2 (by show pr≠b;omega);have eb:=A.out.cellOf (H.out.fix (⟨pr,3,none⟩,J Y 0) (by simp)).1 (by show pr≠b;omega);have iX:=A.out.frozenOf (H.out.fix (⟨pr,3,none⟩,J Y 0) (by simp)).1 (H.out.fix (⟨pr,3,none⟩,J Y 0) (by simp)).2 (by show pr≠b;omega);have HL:BU (Leaves ⟨b,off,none⟩ W V9):=H.out.leaves.same A.out;have hp:=A.out.cell;have bg:=A.out.frozen;have n1:b≠pr:=by omega
 have n2:pr≠b:=by omega
 have aE:W.heap.size<=pr:=by omega
 have HS:BU _:=Jmp (f:=f) fI.out ic.out kl.out qt.out tX.out tY.out tZ.out;clear A H;cases g7 with
 | true =>
  go_wp2_with (fail);refine bodyPost_ret (by simp[results,results137,go_sem,bN,bO,bP,eb];try rfl) rfl ?_;refine⟨0,0,0,0,_,rfl,HS.out,((((HL.out.set aE _).set aE _).set aE _).set aE _).done ?_ ?_⟩
  ·simp[go_sem,hp]
  ·simp[go_sem,bg]
 | false =>
  go_wp2_with (fail);refine bodyPost_ret (by simp[results,results137,go_sem,bN,bO,bP,eb];try rfl) rfl ?_;refine⟨_,_,_,_,_,rfl,HS.out,((((HL.out.set aE _).set aE _).set aE _).set aE _).done ?_ ?_⟩
  ·simp[go_sem,hp]
  ·simp[go_sem,bg]
end
end Go.Proofs.YtkblcfgamnmbkaaGreat
