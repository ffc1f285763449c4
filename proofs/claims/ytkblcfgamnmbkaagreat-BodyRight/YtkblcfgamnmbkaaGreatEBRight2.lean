/- Package fx's call Dot: what it returns, and that but for the flag it leaves all memory as it was. -/
import Derived.Test.YtkblcfgamnmbkaaGreatEBRight1
import Derived.Test.YtkblcfgamnmbkaaGreatEBRight0
import Derived.Deep.MidRow
set_option maxHeartbeats 4000000
set_option maxRecDepth 100000
set_option linter.unusedVariables false
namespace Go.Proofs.YtkblcfgamnmbkaaGreat
open Go.Calls renaming mono -> JA
open Go.World renaming block_lt_of_cell? -> JB
open Go.Region renaming binds -> JC
open Go renaming execOp -> JD
open Go.World renaming size_alloc -> JE
open Go.Proofs.Tryz
open Go.Value renaming int -> J
open Go.IntKind renaming i64 -> Y
open Go.Value renaming pointer -> BO
open Go.Obj renaming cells -> BP
open Go.Value renaming slice -> BQ
open Go.Value renaming bool -> BT
open Go.RowKit renaming Hid -> BU
open Go renaming World -> BV
open Go.Ending renaming returned -> BZ
open Go renaming Value -> B7
open Go.RowKit renaming Below -> B9
open Go.Value renaming agg -> B_
open Go renaming Calls -> Cd
open Go renaming Addr -> Ce
open Go renaming Act -> Cf
section
open Go.RowKit Fx
def Jc2(w:BV)(a:Option Ce)(zs:List Int):Prop:=zs.length=0 \/ ∃ b off,a=some ⟨b,off,none⟩/\∀ k,k<zs.length->w.cell? ⟨b,off+k,none⟩=some (J Y (zs.getD k 0))
theorem Jfw(zs:List Int)(a:Option Ce)(cap:Nat)(w:BV)(cJ:zs.length<=4611686018427387904)(h:Jc2 w a zs):
  Cd Tryz.prog 164 #[BQ a zs.length cap] w fun e w'=>e = BZ (BT (zs.any great))/\w'=w:=by
 rcases h with h |⟨b,off,rfl,h⟩
 ·obtain rfl:zs = []:=List.length_eq_zero_iff.1 h;exact Jp1 a cap w
 ·exact Jc5 zs b off cap w cJ h
theorem Ju8(b off:Nat)(f:Bool)(zs ys:List Int)(a c:Option Ce)(cap cap':Nat)(w:BV)(hc:w.cell? ⟨b,off,none⟩=some (BT f))(hf:w.frozen? ⟨b,off,none⟩=false)
  (hz:zs.length<=4611686018427387904) (hy:ys.length<=4611686018427387904) (ha:Jc2 w a zs) (hb:Jc2 w c ys) (di:zs.length≠ys.length\/8<zs.length\/zs.any great=true\/ys.any great=true) :
  Cd Tryz.prog 161 #[BO (some ⟨b,off,none⟩),BQ a zs.length cap,BQ c ys.length cap'] w fun e w'=>e = BZ (J Y 0)/\w'=w.setCell ⟨b,off,none⟩ (BT true):=by
 have C2:BU _:=Jcf b off f w hc hf;have C1:=Jfw zs a cap w hz ha;have C3:=Jfw ys c cap' w hy hb;clear ha hb hc hf;by_cases h1:zs.length=ys.length
 ·have h1':((zs.length:Int) != (ys.length:Int))=false:=by simp[h1]
  by_cases h8:8<zs.length
  ·clear C1 C3 di h1;go_enter func161,ntmps161;go_wp2_with (first |(go_at_call 165;refine(JA C2.out ?_);rintro e w' ⟨rfl,rfl⟩));go_ret;exact⟨rfl,rfl⟩
  ·cases hg:zs.any great
   ·have eX:ys.any great=true:=by
     rcases di with h | h | h | h
     ·exact absurd h1 h
     ·exact absurd h h8
     ·rw[hg]at h;cases h
     ·exact h
    rw[hg]at C1;rw[eX]at C3;have K1:BU _:=C1;have K3:BU _:=C3;clear C1 C3 di h1 hg eX;go_enter func161,ntmps161;go_wp2_with (fail);refine(JA K1.out ?_);rintro e w' ⟨rfl,hw⟩;rw[hw];clear hw;go_wp2_with (fail);refine(JA K3.out ?_);rintro e w' ⟨rfl,hw⟩;rw[hw];clear hw;go_wp2_with (fail);refine(JA C2.out ?_);rintro e w' ⟨rfl,rfl⟩;go_wp2_with (fail);go_ret;exact⟨rfl,rfl⟩
   ·rw[hg]at C1;have K1:BU _:=C1;clear C1 C3 di h1 hg;go_enter func161,ntmps161;go_wp2_with (fail);refine(JA K1.out ?_);rintro e w' ⟨rfl,hw⟩;rw[hw];clear hw;go_wp2_with (fail);refine(JA C2.out ?_);rintro e w' ⟨rfl,rfl⟩;go_wp2_with (fail);go_ret;exact⟨rfl,rfl⟩
 ·have h1':((zs.length:Int) != (ys.length:Int))=true:=by simp;omega
  clear C1 C3 di;go_enter func161,ntmps161;go_wp2_with (first |(go_at_call 165;refine(JA C2.out ?_);rintro e w' ⟨rfl,rfl⟩));go_ret;exact⟨rfl,rfl⟩
theorem Jto(b off:Nat)(f:Bool)(zs ys:List Int)(a c:Option Ce)(cap cap':Nat)(w:BV)(hc:w.cell? ⟨b,off,none⟩=some (BT f))(hf:w.frozen? ⟨b,off,none⟩=false)
  (ha:Jc2 w a zs) (hb:Jc2 w c ys) (h1:zs.length=ys.length) (cJ:zs.length<=8) (hg:zs.any great=false) (eX:ys.any great=false) :
  Cd Tryz.prog 161 #[BO (some ⟨b,off,none⟩),BQ a zs.length cap,BQ c ys.length cap'] w fun e w'=>e = BZ (J Y ((Fx.told (Jaf zs ys / 4294967296)).getD 0))/\B9 w.heap.size (Jc1 ⟨b,off,none⟩ (Fx.told (Jaf zs ys / 4294967296)) w) w':=by
 obtain⟨S,hS⟩:∃ S,S=Jaf zs ys:=⟨_,rfl⟩
 rw[<- hS];have yB:=Jdo zs ys hg eX;rw[<- hS]at yB;have yC:-170141183460469231731687303715884105728<=S:=by omega
 have qC:S<170141183460469231731687303715884105728:=by omega
 have K0:BU _:=fun w=>Jjw S w yC qC;have kA:BU _:=hS;clear yB hS yC qC;have C1:=Jfw zs a cap w (by omega) ha;have C3:=Jfw ys c cap' w (by omega) hb;rw[hg]at C1;rw[eX]at C3;have K1:BU _:=C1;have K3:BU _:=C3;have HC:BU _:=hc;have HF:BU _:=hf;have HA:BU _:=ha;have HD:BU _:=hb;have HG:BU _:=hg;have gU:BU _:=eX;have H1:BU _:=h1;have h1':((zs.length:Int) != (ys.length:Int))=false:=by simp[h1]
 have hy8:ys.length<=8:=by omega
 clear C1 C3 hc hf ha hb hg eX h1;go_enter func161,ntmps161;go_wp2_with (fail);refine(JA K1.out ?_);rintro e w' ⟨rfl,hw⟩;rw[hw];clear hw;go_wp2_with (fail);refine(JA K3.out ?_);rintro e w' ⟨rfl,hw⟩;rw[hw];clear hw;go_wp2_with (fail)
 go_loopw [32] (fun i wr=>∃(k:Nat) (X:Int),k<=zs.length/\i=J Y k/\BU (X=Jaf (zs.take k) (ys.take k))/\BU (B9 w.heap.size w wr)/\w.heap.size<wr.heap.size/\wr.cell? ⟨w.heap.size,0,none⟩=some (.int .u64 (X / 18446744073709551616%18446744073709551616))/\wr.cell? ⟨w.heap.size,1,none⟩=some (.int .u64 (X%18446744073709551616))/\wr.frozen? ⟨w.heap.size,0,none⟩=false/\wr.frozen? ⟨w.heap.size,1,none⟩=false) (fun i _=>zs.length-(intOf i).toNat)
 case atStart=>exact⟨0,0,Nat.zero_le _,rfl,by simp[BU,Jaf],Jd _ _,by simp,by simp,by simp,by simp,by simp⟩
 case round =>
  obtain⟨k,X,hk,rfl,HX,HB,cF,d0,d1,f0,f1⟩:=hrel;by_cases aG:k<zs.length
  ·have gW:k<ys.length:=by have:=H1.out;omega
   rcases HA.out with h |⟨ba,oa,rfl,hza⟩
   ·omega
   rcases HD.out with h |⟨bb,ob,rfl,hyb⟩
   ·omega
   have ar:=Jf HB.out (hza k aG);have nF:=Jf HB.out (hyb k gW);have hz:=(not_great _).1 (Jdc HG.out aG);have hy:=(not_great _).1 (Jdc gU.out gW);have HS:BU _:=Jej k zs ys aG gW;obtain⟨z,ez⟩:∃ z,zs.getD k 0=z:=⟨_,rfl⟩
   obtain⟨y,ey⟩:∃ y,ys.getD k 0=y:=⟨_,rfl⟩
   rw[ez]at ar hz HS;rw[ey]at nF hy HS;clear ez ey hza hyb HA HD;have C3:BU _:=fun w=>Jdq z y w (by omega) (by omega) (by omega) (by omega);have C4:BU _:=fun w=>Jla X (z*y) w;obtain⟨xh,dS⟩:∃ u,u=X / 18446744073709551616%18446744073709551616:=⟨_,rfl⟩
   obtain⟨xl,db⟩:∃ u,u=X%18446744073709551616:=⟨_,rfl⟩
   rw[<- dS]at d0;rw[<- db]at d1;rw[<- dS,<- db]at C4;clear dS db;have hi0:(0:Int)<=(k:Int):=by omega
   have hi1:(k:Int)<(ys.length:Int):=by omega
   go_wp2
   go_region_with (first
    |(go_at_call 167;refine(JA (C3.out _) ?_);rintro e w1 ⟨rfl,ac⟩;have p0:=Jf ac d0;have p1:=Jf ac d1;have q0:=Jg ac d0 f0;have q1:=Jg ac d1 f1;have iV:=ac.size)
    |(go_at_call 185;refine(JA (C4.out _) ?_);rintro e w2 ⟨rfl,aj⟩;have r0:=Jf aj p0;have r1:=Jf aj p1;have s0:=Jg aj p0 q0;have s1:=Jg aj p1 q1;have nD:=aj.size))
   all_goals go_wp2
   all_goals go_roundw
   all_goals try (case rel=>obtain⟨m1,m2,m3,m4,m5,m6⟩:=Jpc (.int .u64 ((X+z*y) / 18446744073709551616%18446744073709551616)) (.int .u64 ((X+z*y)%18446744073709551616)) HB.out cF ac aj r0 r1 s0 s1;exact⟨k+1,X+z*y,by omega,by go_num,by show _=_;rw[HS.out,HX.out],m1,m2,m3,m4,m5,m6⟩)
   all_goals try (case measure=>simp[intOf];omega)
  ·obtain rfl:k=zs.length:=by omega
   obtain rfl:X=S:=by have:=HX.out;rw[List.take_length,H1.out,List.take_length]at this;rw[this,kA.out]
   have C4:=K0.out;clear K0 HX kA hk aG;obtain⟨xh,dS⟩:∃ u,u=X / 18446744073709551616%18446744073709551616:=⟨_,rfl⟩
   obtain⟨xl,db⟩:∃ u,u=X%18446744073709551616:=⟨_,rfl⟩
   rw[<- dS]at d0;rw[<- db]at d1;rw[<- dS,<- db]at C4;clear dS db;by_cases aP:-9223372036854775808<=X / 4294967296/\X / 4294967296<9223372036854775808
   ·rw[IntWalk.wrap64_in _ (by omega),decide_eq_true aP]at C4;have K4:BU _:=C4;clear C4 aP;go_wp2_with (first
     |(go_at_call 168;refine(JA (K4.out _) ?_);rintro e w2 ⟨rfl,aj⟩;have B2:BU _:=Ju HB.out aj)
     |(go_at_call 166;refine(JA (Jec b off f _ _ (Jf B2.out HC.out) (Jg B2.out HC.out HF.out)) ?_);rintro e w3 ⟨rfl,ao⟩))
    go_ret;exact⟨rfl,Ja5 B2.out ao⟩
   ·have ht:Fx.told (X / 4294967296)=none:=by
     have iD:great (X / 4294967296)=true:=by rw[great_iff];omega
     simp only[Fx.told,iD];rfl
    rw[decide_eq_false aP]at C4;have K4:BU _:=C4;have HT:BU _:=ht;clear C4 aP ht;go_wp2_with (first
     |(go_at_call 168;refine(JA (K4.out _) ?_);rintro e w2 ⟨rfl,aj⟩;have B2:BU _:=Ju HB.out aj)
     |(go_at_call 166;refine(JA (Jcu b off f _ _ (Jf B2.out HC.out) (Jg B2.out HC.out HF.out)) ?_);rintro e w3 ⟨rfl,ao⟩))
    go_ret;rw[HT.out];exact⟨rfl,Ja5 B2.out ao⟩
theorem Jd2(b off:Nat)(f:Bool)(zs ys:List Int)(a c:Option Ce)(cap cap':Nat)(w:BV)(hc:w.cell? ⟨b,off,none⟩=some (BT f))(hf:w.frozen? ⟨b,off,none⟩=false)
  (hz:zs.length<=4611686018427387904) (hy:ys.length<=4611686018427387904) (ha:Jc2 w a zs) (hb:Jc2 w c ys) :
  Cd Tryz.prog 161 #[BO (some ⟨b,off,none⟩),BQ a zs.length cap,BQ c ys.length cap'] w fun e W'=>∃ v g,e = BZ (J Y v)/\BU (Ja1 f (dot zs ys) v g)/\BU (After ⟨b,off,none⟩ g w W'):=by
 by_cases h:zs.length≠ys.length\/8<zs.length\/zs.any great=true\/ys.any great=true
 ·have hn:dot zs ys=none:=by
   unfold dot;rcases h with h | h | h | h
   ·rw[if_pos h]
   ·simp only[h,if_true,ite_self]
   ·simp only[h,Bool.true_or,if_true,ite_self]
   ·simp only[h,Bool.or_true,if_true,ite_self]
  rw[hn];exact(Ju8 b off f zs ys a c cap cap' w hc hf hz hy ha hb h).mono fun e w' ⟨x,y⟩=>⟨_,_,x,⟨rfl,rfl⟩,Jb5 (o:=none) (by rw[y];exact Below.refl _ _) hc hf⟩
 ·have h1:zs.length=ys.length:=by omega
  have h8:¬ 8<zs.length:=fun g=>h (Or.inr (Or.inl g));have hg:zs.any great=false:=by cases e:zs.any great with
   | false=>rfl
   | true=>exact absurd (Or.inr (Or.inr (Or.inl e))) h
  have eX:ys.any great=false:=by cases e:ys.any great with
   | false=>rfl
   | true=>exact absurd (Or.inr (Or.inr (Or.inr e))) h
  have hn:dot zs ys=Fx.told (Jaf zs ys / 4294967296):=by
   unfold dot;rw[if_neg (by omega),if_neg h8,hg,eX];rfl
  rw[hn];exact(Jto b off f zs ys a c cap cap' w hc hf ha hb h1 (by omega) hg eX).mono fun e w' ⟨x,y⟩=>⟨_,_,x,⟨rfl,rfl⟩,Jb5 y hc hf⟩
structure Leaves(p:Ce)(W W':BV):Prop where
 size:W.heap.size<=W'.heap.size
 other:∀ q:Ce,q.block<W.heap.size->q.block≠p.block->W'.cell? q=W.cell? q/\W'.frozen? q=W.frozen? q
 below:∀(B:Nat) (w:BV),B9 B w W->B<=p.block->B<=W.heap.size->B9 B w W'
 kept:W'.os=W.os/\W'.tape=W.tape/\W'.output=W.output/\∀ k,k<W.heap.size->k≠p.block->W'.heap[k]?=W.heap[k]?
 beside:p.block<W.heap.size->∀ o,o≠p.off->W'.cell? ⟨p.block,o,none⟩=W.cell? ⟨p.block,o,none⟩/\W'.frozen? ⟨p.block,o,none⟩=W.frozen? ⟨p.block,o,none⟩
theorem Leaves.refl(p:Ce)(W:BV):Leaves p W W:=⟨Nat.le_refl _,fun _ _ _=>⟨rfl,rfl⟩,fun _ _ h _ _=>h,⟨rfl,rfl,rfl,fun _ _ _=>rfl⟩,fun _ _ _=>⟨rfl,rfl⟩⟩
theorem Leaves.drew{p:Ce}{W w:BV}(h:Leaves p W w):Leaves p W w.drew:=⟨h.size,h.other,fun B w' hb h1 h2=>(h.below B w' hb h1 h2).drew,h.kept,h.beside⟩
theorem Leaves.step{p:Ce}{W w w':BV}(h:Leaves p W w)(k:B9 W.heap.size w w'):Leaves p W w':=by
 refine⟨Nat.le_trans h.size k.size,fun q hq ak=>?_,fun B w0 hb h1 h2=>(h.below B w0 hb h1 h2).trans (k.mono h2),⟨k.os.trans h.kept.1,k.tape.trans h.kept.2.1,k.output.trans h.kept.2.2.1,fun i hi ak=>(k.block i hi).trans (h.kept.2.2.2 i hi ak)⟩,fun hp o ho=>?_⟩
 ·exact⟨(k.cell hq).trans (h.other q hq ak).1,(k.frozen hq).trans (h.other q hq ak).2⟩
 ·exact⟨(k.cell (p:=⟨p.block,o,none⟩) hp).trans (h.beside hp o ho).1,(k.frozen (p:=⟨p.block,o,none⟩) hp).trans (h.beside hp o ho).2⟩
theorem Leaves.alloc{p:Ce}{W w:BV}(h:Leaves p W w)(o:Obj):Leaves p W (w.alloc o):=h.step ((Jd w o).mono h.size)
theorem Leaves.set{p:Ce}{W w:BV}(h:Leaves p W w){a:Ce}(ha:W.heap.size<=a.block)(v:B7):Leaves p W (w.setCell a v):=h.step ((Below.refl _ _).setCell ha v)
theorem Leaves.after{p q:Ce}{g:Bool}{W w w':BV}(h:Leaves p W w)(a:After q g w w')(hq:W.heap.size<=q.block):Leaves p W w':=
 h.step (a.below _ _ (Below.refl _ _) hq h.size)
theorem Leaves.same{p:Ce}{g:Bool}{W w w':BV}(h:Leaves p W w)(a:After p g w w'):Leaves p W w':=by
 refine⟨Nat.le_trans h.size a.size,fun x hx ak=>?_,fun B w0 hb h1 h2=>a.below B w0 (h.below B w0 hb h1 h2) h1 (Nat.le_trans h2 h.size),⟨a.kept.1.trans h.kept.1,a.kept.2.1.trans h.kept.2.1,a.kept.2.2.1.trans h.kept.2.2.1,fun i hi ak=>(a.kept.2.2.2 i (Nat.lt_of_lt_of_le hi h.size) ak).trans (h.kept.2.2.2 i hi ak)⟩,fun hp o ho=>?_⟩
 ·have aG:x.block<w.heap.size:=Nat.lt_of_lt_of_le hx h.size;have:=a.other x aG ak;exact⟨this.1.trans (h.other x hx ak).1,this.2.trans (h.other x hx ak).2⟩
 ·have:=a.beside (Nat.lt_of_lt_of_le hp h.size) o ho;exact⟨this.1.trans (h.beside hp o ho).1,this.2.trans (h.beside hp o ho).2⟩
theorem Leaves.done{p:Ce}{g:Bool}{W W':BV}(h:Leaves p W W')(hc:W'.cell? p=some (BT g))(hf:W'.frozen? p=false):After p g W W':=⟨hc,hf,h.size,h.other,h.below,h.kept,h.beside⟩
theorem After.leaves{p:Ce}{g:Bool}{W W':BV}(h:After p g W W'):Leaves p W W':=⟨h.size,h.other,h.below,h.kept,h.beside⟩
theorem After.trans{p:Ce}{g g':Bool}{W W' W'':BV}(h:After p g W W')(h':After p g' W' W''):After p g' W W'':=(h.leaves.same h').done h'.cell h'.frozen
structure V3 where
 x:Int
 y:Int
 z:Int
structure V4 where
 w:Int
 x:Int
 y:Int
 z:Int
@[reducible] def V3.val(v:V3):B7:=B_ #[J Y v.x,J Y v.y,J Y v.z]
@[reducible] def V4.val(v:V4):B7:=B_ #[J Y v.w,J Y v.x,J Y v.y,J Y v.z]
def V3.zero:V3:=⟨0,0,0⟩
def V4.zero:V4:=⟨0,0,0,0⟩
structure Shape where
 k:Nat
 v:B7
 n:Nat
@[reducible] def Shape.is(v:B7):Shape:=⟨0,v,0⟩
@[reducible] def Shape.ptr:Shape:=⟨1,undef,0⟩
@[reducible] def Shape.row(n:Nat):Shape:=⟨2,undef,n⟩
def Jl(sh:Nat->Shape)(γ:Nat->Nat)(i:Nat):B7:=
 match (sh i).k with
 | 0=>(sh i).v
 | 1=>BO (some ⟨γ i,0,none⟩)
 | _=>BQ (some ⟨γ i,0,none⟩) (sh i).n (sh i).n
structure Made where
 i:Nat
 s:Nat
 cs:List B7
structure Plan where
 W:BV
 N:Nat
 p:Ce
 fl:Ce
 g0:Bool
 bad:Bool
 f:Bool
 calls:List (Nat × Bool)
 tl:Nat
 st:Nat
 r:Nat
 res:List B7
 fixed:List (Ce × B7)
 made:List Made
def Holds(w:BV)(b:Nat)(cs:List B7):Prop:=∀ k v,cs[k]?=some v->w.cell? ⟨b,k,none⟩=some v/\w.frozen? ⟨b,k,none⟩=false
structure Glob(π:Plan)(γ:Nat->Nat)(L:Nat->Bool)(w:BV):Prop where
 leaves:Leaves π.p π.W w
 size:π.N<=w.heap.size
 flag:∃ g,w.cell? π.fl=some (BT g)/\w.frozen? π.fl=false/\(g=true->π.bad=true)/\(π.g0=true->g=true)/\∀ c ∈ π.calls,L c.1=true->c.2=true->g=true
 outer:π.fl = π.p\/(w.cell? π.p=some (BT (π.f ||(L π.tl && π.bad)))/\w.frozen? π.p=false)
 res:∃ cs:List B7,cs.length = π.res.length/\Holds w π.r cs/\(L π.st=true->cs = π.res)
 fix:∀ c ∈ π.fixed,w.cell? c.1=some c.2
 made:∀ m ∈ π.made,L m.i=true->π.N <= γ m.i/\γ m.i<w.heap.size/\∃ cs:List B7,cs.length=m.cs.length/\Holds w (γ m.i) cs/\(L m.s=true->cs=m.cs)
 apart:∀ m ∈ π.made,∀ m' ∈ π.made,L m.i=true->L m'.i=true->γ m.i = γ m'.i->m.i=m'.i
structure Plan.Good(π:Plan):Prop where
 wn:π.W.heap.size <= π.N
 rr:π.res = []\/(π.W.heap.size <= π.r/\π.r < π.N/\π.fl.block ≠ π.r/\π.p.block ≠ π.r/\∀ c ∈ π.fixed,c.1.block ≠ π.r)
 fl0:π.fl = π.p \/ π.W.heap.size <= π.fl.block
 fl1:π.fl.block < π.N
 p0:π.fl = π.p \/ π.p.block < π.W.heap.size
 fx:∀ c ∈ π.fixed,c.1.block < π.N/\c.1.block ≠ π.fl.block/\c.1.block ≠ π.p.block
 badOf:π.bad=true->π.g0=true \/ ∃ c ∈ π.calls,c.2=true
 callBad:∀ c ∈ π.calls,c.2=true->π.bad=true
theorem Jgm{π:Plan}(r0:π.W.heap.size <= π.r)(r1:π.r < π.N)(fl0:π.fl = π.p \/ π.W.heap.size <= π.fl.block)(fl1:π.fl.block < π.N)(flr:π.fl.block ≠ π.r)(p0:π.p.block < π.W.heap.size)
  (fx:∀ c ∈ π.fixed,c.1.block < π.N/\c.1.block ≠ π.fl.block/\c.1.block ≠ π.p.block/\c.1.block ≠ π.r) (badOf:π.bad=true->π.g0=true \/ ∃ c ∈ π.calls,c.2=true) (callBad:∀ c ∈ π.calls,c.2=true->π.bad=true):π.Good:=
 ⟨by omega,Or.inr ⟨r0,r1,flr,by omega,fun c hc=>(fx c hc).2.2.2⟩,fl0,fl1,Or.inr p0,fun c hc=>⟨(fx c hc).1,(fx c hc).2.1,(fx c hc).2.2.1⟩,badOf,callBad⟩
theorem Jis{π:Plan}(hπ:π.Good){w w':BV}{cs:List B7}(hl:cs.length = π.res.length)(h:Holds w π.r cs)(hX:π.r < π.N->π.W.heap.size <= π.r->π.fl.block ≠ π.r->π.p.block ≠ π.r->∀ q:Ce,q.block = π.r->w'.cell? q=w.cell? q/\w'.frozen? q=w.frozen? q):Holds w' π.r cs:=by
 rcases hπ.rr with e |⟨r0,r1,r2,r3,_⟩
 ·rw[e]at hl;obtain rfl:cs = []:=List.length_eq_zero_iff.1 hl;intro k v hk;simp at hk
 ·exact fun k v hk=>by
   have:=h k v hk;have e:=hX r1 r0 r2 r3 ⟨π.r,k,none⟩ rfl;exact⟨e.1.trans this.1,e.2.trans this.2⟩
def Jd8(π:Plan)(i:Nat):Bool:=π.calls.all (fun c=>decide (c.1≠i))&&decide (π.tl≠i)&&decide (π.st≠i) && π.made.all (fun m=>decide (m.i≠i)&&decide (m.s≠i))
theorem Jz{L:Nat->Bool}{i j:Nat}(h:j≠i):more L i j=L j:=by simp[more,h]
theorem more_self(L:Nat->Bool)(i:Nat):more L i i=true:=by simp[more]
theorem Holds.move{w w':BV}{b:Nat}{cs:List B7}(h:Holds w b cs)(hX:∀ q:Ce,q.block=b->w'.cell? q=w.cell? q/\w'.frozen? q=w.frozen? q):Holds w' b cs:=fun k v hk=>by
 have:=h k v hk;have e:=hX ⟨b,k,none⟩ rfl;exact⟨e.1.trans this.1,e.2.trans this.2⟩
theorem Je7{π:Plan}{i:Nat}(h:Jd8 π i=true){m:Made}(hm:m ∈ π.made):m.i≠i/\m.s≠i:=by
 simp only[Jd8,Bool.and_eq_true]at h;have:=List.all_eq_true.1 h.2 m hm
 simpa using this
theorem Jmj{π:Plan}{i:Nat}(h:Jd8 π i=true){c:Nat × Bool}(hc:c ∈ π.calls):c.1≠i:=by
 simp only[Jd8,Bool.and_eq_true]at h;have:=List.all_eq_true.1 h.1.1.1 c hc
 simpa using this
theorem Jl5{π:Plan}{i:Nat}(h:Jd8 π i=true):π.tl≠i/\π.st≠i:=by
 simp only[Jd8,Bool.and_eq_true]at h;exact⟨by simpa using h.1.1.2,by simpa using h.1.2⟩
theorem Glob.stay{π:Plan}{γ:Nat->Nat}{L:Nat->Bool}{w:BV}(h:Glob π γ L w){i:Nat}(hi:Jd8 π i=true):Glob π γ (more L i) w:=by
 obtain⟨g,h1,h2,h3,h4,h5⟩:=h.flag;obtain⟨cs,r1,r2,r3⟩:=h.res;refine⟨h.leaves,h.size,⟨g,h1,h2,h3,h4,fun c hc hl=>h5 c hc (by rwa [Jz (Jmj hi hc)]at hl)⟩,?_,⟨cs,r1,r2,fun hl=>r3 (by rwa [Jz (Jl5 hi).2]at hl)⟩,h.fix,fun m hm hl=>?_,fun m hm m' hm' hl hl'=>?_⟩
 ·rw[Jz (Jl5 hi).1];exact h.outer
 ·rw[Jz (Je7 hi hm).1]at hl;rw[Jz (Je7 hi hm).2];exact h.made m hm hl
 ·rw[Jz (Je7 hi hm).1]at hl;rw[Jz (Je7 hi hm').1]at hl';exact h.apart m hm m' hm' hl hl'
def upd(γ:Nat->Nat)(i b:Nat):Nat->Nat:=fun j=>if j=i then b else γ j
theorem upd_self(γ:Nat->Nat)(i b:Nat):upd γ i b i=b:=by simp[upd]
theorem upd_ne{γ:Nat->Nat}{i b j:Nat}(h:j≠i):upd γ i b j = γ j:=by simp[upd,h]
def Jpg(π:Plan)(i:Nat):Bool:=π.calls.all (fun c=>decide (c.1≠i))&&decide (π.tl≠i)&&decide (π.st≠i) && π.made.all (fun m=>decide (m.s≠i)||decide (m.i=i))
theorem Glob.makes{π:Plan}{γ:Nat->Nat}{L:Nat->Bool}{w:BV}(h:Glob π γ L w){i:Nat}(hi:Jpg π i=true){m:Made}(hm:m ∈ π.made)(nf:m.i=i)(df:∀ m' ∈ π.made,m'.i=i->m'=m)
  (hls:m.s=i\/L m.s=false) (cs:List B7) (t:TypeId) (cJ:cs.length=m.cs.length) (aM:m.s=i->cs=m.cs):Glob π (upd γ i w.heap.size) (more L i) (w.alloc (BP cs.toArray t)):=by
 obtain⟨g,h1,h2,h3,h4,h5⟩:=h.flag;obtain⟨rs,r1,r2,r3⟩:=h.res;simp only[Jpg,Bool.and_eq_true]at hi;have ci:∀ c ∈ π.calls,c.1≠i:=fun c hc=>by simpa using List.all_eq_true.1 hi.1.1.1 c hc
 have ti:π.tl≠i:=by simpa using hi.1.1.2
 have si:π.st≠i:=by simpa using hi.1.2
 have ms:∀ m' ∈ π.made,m'.i≠i->m'.s≠i:=fun m' hm' ak=>by
  have:=List.all_eq_true.1 hi.2 m' hm';simp only[Bool.or_eq_true,decide_eq_true_eq]at this;exact this.resolve_right ak
 have hb:=Jd w (BP cs.toArray t);have old:∀ q:Ce,q.block<w.heap.size->(w.alloc (BP cs.toArray t)).cell? q=w.cell? q/\(w.alloc (BP cs.toArray t)).frozen? q=w.frozen? q:=fun q hq=>⟨hb.cell hq,hb.frozen hq⟩
 have sQ:=JB _ _ h1;refine⟨h.leaves.alloc _,by have:=h.size;simp;omega,⟨g,(old _ sQ).1.trans h1,(old _ sQ).2.trans h2,h3,h4,fun c hc hl=>h5 c hc (by rwa [Jz (ci c hc)]at hl)⟩,?_,⟨rs,r1,?_,fun hl=>r3 (by rwa [Jz si]at hl)⟩,?_,?_,?_⟩
 ·rw[Jz ti];rcases h.outer with e |⟨e1,e2⟩
  ·exact Or.inl e
  ·have nG:=JB _ _ e1;exact Or.inr ⟨(old _ nG).1.trans e1,(old _ nG).2.trans e2⟩
 ·intro k v hk;have:=r2 k v hk;have nG:=JB _ _ this.1;exact⟨(old _ nG).1.trans this.1,(old _ nG).2.trans this.2⟩
 ·intro c hc;have:=h.fix c hc;exact(old _ (JB _ _ this)).1.trans this
 ·intro m' hm' hl;by_cases e:m'.i=i
  ·obtain rfl:=df m' hm' e;rw[e,upd_self];refine⟨h.size,by simp,cs,cJ,?_,?_⟩
   ·intro k v hk;have hk':cs.toArray[k]?=some v:=by simpa using hk
    constructor
    ·rw[World.cell?_alloc_new];exact hk'
    ·simp
   ·intro hs;rcases hls with h' | h'
    ·exact aM h'
    ·by_cases e':m'.s=i
     ·exact aM e'
     ·rw[Jz e',h']at hs;cases hs
  ·rw[Jz e]at hl;rw[upd_ne e,Jz (ms m' hm' e)];obtain⟨a1,a2,xs,a3,a4,a5⟩:=h.made m' hm' hl;exact⟨a1,by simp;omega,xs,a3,a4.move fun q hq=>old q (by omega),a5⟩
 ·intro m1 dT m2 gj cT fh he;by_cases e1:m1.i=i <;> by_cases e2:m2.i=i
  ·rw[e1,e2]
  ·rw[Jz e2]at fh;rw[e1,upd_self,upd_ne e2]at he;have:=(h.made m2 gj fh).2.1;omega
  ·rw[Jz e1]at cT;rw[e2,upd_self,upd_ne e1]at he;have:=(h.made m1 dT cT).2.1;omega
  ·rw[Jz e1]at cT;rw[Jz e2]at fh;rw[upd_ne e1,upd_ne e2]at he;exact h.apart m1 dT m2 gj cT fh he
def Jki(π:Plan)(i:Nat):Bool:=decide (π.tl≠i)&&decide (π.st≠i) && π.made.all (fun m=>decide (m.i≠i)&&decide (m.s≠i))
theorem Glob.called{π:Plan}{γ:Nat->Nat}{L:Nat->Bool}{w w':BV}(hπ:π.Good)(h:Glob π γ L w){i:Nat}(hi:Jki π i=true){c:Bool}(hc:(i,c) ∈ π.calls)(df:∀ c' ∈ π.calls,c'.1=i->c'.2=c)
  {g g':Bool} (hg:w.cell? π.fl=some (BT g)) (hg':g'=(g||c)) (ha:After π.fl g' w w'):Glob π γ (more L i) w':=by
 obtain⟨g₁,h1,h2,h3,h4,h5⟩:=h.flag;obtain rfl:g=g₁:=by rw[hg]at h1;simpa using h1
 obtain⟨rs,r1,r2,r3⟩:=h.res;simp only[Jki,Bool.and_eq_true]at hi;have ti:π.tl≠i:=by simpa using hi.1.1
 have si:π.st≠i:=by simpa using hi.1.2
 have ms:∀ m ∈ π.made,m.i≠i/\m.s≠i:=fun m hm=>by simpa using List.all_eq_true.1 hi.2 m hm
 have sz:=h.size;have f1:=hπ.fl1;refine⟨?_,Nat.le_trans sz ha.size,⟨g',ha.cell,ha.frozen,?_,?_,?_⟩,?_,⟨rs,r1,Jis hπ r1 r2 fun a1 _ a3 _ q hq=>ha.other q (by omega) (by omega),fun hl=>r3 (by rwa [Jz si]at hl)⟩,?_,?_,?_⟩
 ·rcases hπ.fl0 with e | e
  ·rw[e]at ha;exact h.leaves.same ha
  ·exact h.leaves.after ha e
 ·intro e;rw[hg']at e;rcases Bool.or_eq_true _ _ |>.mp e with e | e
  ·exact h3 e
  ·exact hπ.callBad _ hc e
 ·intro e;rw[hg',h4 e];rfl
 ·intro c' hc' hl hn;by_cases e:c'.1=i
  ·have:=df c' hc' e;rw[hg',<- this,hn];simp
  ·rw[Jz e]at hl;rw[hg',h5 c' hc' hl hn];rfl
 ·rw[Jz ti];rcases hπ.fl0 with e | e
  ·exact Or.inl e
  ·rcases h.outer with e' |⟨e1,e2⟩
   ·exact Or.inl e'
   ·rcases hπ.p0 with p0 | p0
    ·exact Or.inl p0
    ·have:=ha.other π.p (JB _ _ e1) (by omega);exact Or.inr ⟨this.1.trans e1,this.2.trans e2⟩
 ·intro x hx;obtain⟨x1,x2,_⟩:=hπ.fx x hx;exact(ha.other x.1 (by omega) x2).1.trans (h.fix x hx)
 ·intro m hm hl;rw[Jz (ms m hm).1]at hl;rw[Jz (ms m hm).2];obtain⟨a1,a2,xs,a3,a4,a5⟩:=h.made m hm hl;exact⟨a1,Nat.lt_of_lt_of_le a2 ha.size,xs,a3,a4.move fun q hq=>ha.other q (by omega) (by omega),a5⟩
 ·intro m1 dT m2 gj cT fh he;rw[Jz (ms m1 dT).1]at cT;rw[Jz (ms m2 gj).1]at fh;exact h.apart m1 dT m2 gj cT fh he
theorem Glob.flagAll{π:Plan}{γ:Nat->Nat}{L:Nat->Bool}{w:BV}(hπ:π.Good)(h:Glob π γ L w)(de:∀ c ∈ π.calls,L c.1=true):w.cell? π.fl=some (BT π.bad)/\w.frozen? π.fl=false:=by
 obtain⟨g,h1,h2,h3,h4,h5⟩:=h.flag;have:g = π.bad:=by
  cases hb:π.bad
  ·cases hg:g
   ·rfl
   ·have:=h3 hg;rw[hb]at this;cases this
  ·rcases hπ.badOf hb with e |⟨c,hc,e⟩
   ·exact h4 e
   ·exact h5 c hc (de c hc) e
 rw[this]at h1;exact⟨h1,h2⟩
theorem Glob.told{π:Plan}{γ:Nat->Nat}{L:Nat->Bool}{w w':BV}(hπ:π.Good)(h:Glob π γ L w)(ak:π.fl ≠ π.p)(lk:π.tl ≠ π.st)(aM:∀ c ∈ π.calls,c.1 ≠ π.tl)(iT:∀ m ∈ π.made,m.i ≠ π.tl/\m.s ≠ π.tl)
  (ha:After π.p (π.f || π.bad) w w'):Glob π γ (more L π.tl) w':=by
 obtain⟨g,h1,h2,h3,h4,h5⟩:=h.flag;obtain⟨rs,r1,r2,r3⟩:=h.res;have sz:=h.size;have p0:=hπ.p0.resolve_left ak;have fl0:=hπ.fl0.resolve_left ak;have hWN:=hπ.wn;refine⟨h.leaves.same ha,Nat.le_trans sz ha.size,⟨g,?_,?_,h3,h4,fun c hc hl=>h5 c hc (by rwa [Jz (aM c hc)]at hl)⟩,Or.inr ⟨?_,ha.frozen⟩,⟨rs,r1,Jis hπ r1 r2 fun a1 _ _ a4 q hq=>ha.other q (by omega) (by omega),fun hl=>r3 (by rwa [Jz (Ne.symm lk)]at hl)⟩,?_,?_,?_⟩
 ·exact(ha.other _ (JB _ _ h1) (by omega)).1.trans h1
 ·exact(ha.other _ (JB _ _ h1) (by omega)).2.trans h2
 ·rw[more_self];simpa using ha.cell
 ·intro x hx;obtain⟨x1,_,x3⟩:=hπ.fx x hx;exact(ha.other x.1 (by omega) x3).1.trans (h.fix x hx)
 ·intro m hm hl;rw[Jz (iT m hm).1]at hl;rw[Jz (iT m hm).2];obtain⟨a1,a2,xs,a3,a4,a5⟩:=h.made m hm hl;exact⟨a1,Nat.lt_of_lt_of_le a2 ha.size,xs,a3,a4.move fun q hq=>ha.other q (by omega) (by omega),a5⟩
 ·intro m1 dT m2 gj cT fh he;rw[Jz (iT m1 dT).1]at cT;rw[Jz (iT m2 gj).1]at fh;exact h.apart m1 dT m2 gj cT fh he
structure Only(X:Nat)(w w':BV):Prop where
 size:w'.heap.size=w.heap.size
 other:∀ q:Ce,q.block≠X->w'.cell? q=w.cell? q/\w'.frozen? q=w.frozen? q
 leaves:∀(p:Ce) (W:BV),Leaves p W w->W.heap.size<=X->Leaves p W w'
theorem Only.refl(X:Nat)(w:BV):Only X w w:=⟨rfl,fun _ _=>⟨rfl,rfl⟩,fun _ _ h _=>h⟩
theorem Only.set{X:Nat}{w w':BV}(h:Only X w w')(k:Nat)(v:B7):Only X w (w'.setCell ⟨X,k,none⟩ v):=by
 refine⟨by simpa [World.setCell] using h.size,fun q hq=>?_,fun p W hl hX=>(h.leaves p W hl hX).set hX v⟩;exact⟨(World.cell?_of_block (w:=w') (Below.heap_setCell _ _ _ _ hq)).trans (h.other q hq).1,(World.frozen?_of_block (w:=w') (Below.heap_setCell _ _ _ _ hq)).trans (h.other q hq).2⟩
theorem Glob.stored{π:Plan}{γ:Nat->Nat}{L:Nat->Bool}{w w':BV}(hπ:π.Good)(h:Glob π γ L w)(lk:π.tl ≠ π.st)(aM:∀ c ∈ π.calls,c.1 ≠ π.st)(iT:∀ m ∈ π.made,m.i ≠ π.st/\m.s ≠ π.st)
  (ak:π.res ≠ []) (ho:Only π.r w w') (hr:Holds w' π.r π.res):Glob π γ (more L π.st) w':=by
 obtain⟨g,h1,h2,h3,h4,h5⟩:=h.flag;have sz:=h.size;obtain⟨r0,r1',flr,rp,rfx⟩:=hπ.rr.resolve_left ak;refine⟨ho.leaves _ _ h.leaves r0,by rw[ho.size];exact sz,⟨g,(ho.other _ flr).1.trans h1,(ho.other _ flr).2.trans h2,h3,h4,fun c hc hl=>h5 c hc (by rwa [Jz (aM c hc)]at hl)⟩,?_,⟨π.res,rfl,hr,fun _=>rfl⟩,?_,?_,?_⟩
 ·rw[Jz lk];rcases h.outer with e |⟨e1,e2⟩
  ·exact Or.inl e
  ·exact Or.inr ⟨(ho.other _ rp).1.trans e1,(ho.other _ rp).2.trans e2⟩
 ·intro x hx;exact(ho.other x.1 (rfx x hx)).1.trans (h.fix x hx)
 ·intro m hm hl;rw[Jz (iT m hm).1]at hl;rw[Jz (iT m hm).2];obtain⟨a1,a2,xs,a3,a4,a5⟩:=h.made m hm hl;exact⟨a1,by rw[ho.size];exact a2,xs,a3,a4.move fun q hq=>ho.other q (by omega),a5⟩
 ·intro m1 dT m2 gj cT fh he;rw[Jz (iT m1 dT).1]at cT;rw[Jz (iT m2 gj).1]at fh;exact h.apart m1 dT m2 gj cT fh he
theorem Glob.filled{π:Plan}{γ:Nat->Nat}{L:Nat->Bool}{w w':BV}(hπ:π.Good)(h:Glob π γ L w){s:Nat}(lk:π.tl≠s)(yr:π.st≠s)(aM:∀ c ∈ π.calls,c.1≠s){m:Made}(hm:m ∈ π.made)(hs:m.s=s)(hi:L m.i=true)
  (nf:∀ m' ∈ π.made,m'.i≠s) (df:∀ m' ∈ π.made,m'.s=s->m'=m) (pP:∀ m' ∈ π.made,m'.i=m.i->m'=m) (ho:Only (γ m.i) w w') (hr:Holds w' (γ m.i) m.cs):Glob π γ (more L s) w':=by
 obtain⟨g,h1,h2,h3,h4,h5⟩:=h.flag;obtain⟨rs,r1,r2,r3⟩:=h.res;have sz:=h.size;have fl1:=hπ.fl1;have hwn:=hπ.wn;obtain⟨b1,b2,_⟩:=h.made m hm hi;refine⟨ho.leaves _ _ h.leaves (by omega),by rw[ho.size];exact sz,⟨g,(ho.other _ (by omega)).1.trans h1,(ho.other _ (by omega)).2.trans h2,h3,h4,fun c hc hl=>h5 c hc (by rwa [Jz (aM c hc)]at hl)⟩,?_,⟨rs,r1,Jis hπ r1 r2 fun a1 _ _ _ q hq=>ho.other q (by omega),fun hl=>r3 (by rwa [Jz yr]at hl)⟩,?_,?_,?_⟩
 ·rw[Jz lk];rcases hπ.p0 with e | p0
  ·exact Or.inl e
  ·rcases h.outer with e |⟨e1,e2⟩
   ·exact Or.inl e
   ·exact Or.inr ⟨(ho.other _ (by omega)).1.trans e1,(ho.other _ (by omega)).2.trans e2⟩
 ·intro x hx;obtain⟨x1,_⟩:=hπ.fx x hx;exact(ho.other x.1 (by omega)).1.trans (h.fix x hx)
 ·intro m' hm' hl;rw[Jz (nf m' hm')]at hl;obtain⟨a1,a2,xs,a3,a4,a5⟩:=h.made m' hm' hl;by_cases e:m'.i=m.i
  ·obtain rfl:=pP m' hm' e;exact⟨a1,by rw[ho.size];exact a2,m'.cs,rfl,hr,fun _=>rfl⟩
  ·have hg:γ m'.i ≠ γ m.i:=fun e'=>e (h.apart m' hm' m hm hl hi e');have hs':m'.s≠s:=fun e'=>e (by rw[df m' hm' e']);rw[Jz hs'];exact⟨a1,by rw[ho.size];exact a2,xs,a3,a4.move fun q hq=>ho.other q (by omega),a5⟩
 ·intro m1 dT m2 gj cT fh he;rw[Jz (nf m1 dT)]at cT;rw[Jz (nf m2 gj)]at fh;exact h.apart m1 dT m2 gj cT fh he
section
variable {P:Program} {Q:Exit->Cf->BV->Prop} {D:Nat->Option Tmp} {A:Nat->Nat->Prop} {sh:Nat->Shape} {π:Plan} {a₀:Cf}
theorem Held.at{γ:Nat->Nat}{L:Nat->Bool}{a:Cf}{w:BV}(h:Held D A (Jl sh) (Glob π) a₀ γ L a w){j:Nat}{t:Tmp}{v:B7}(hD:D j=some t)(hs:sh j = .is v)(hl:L j=true):a.tmps[t]?=some v:=by
 rw[h.slot j t hD hl];simp[Jl,hs]
theorem Held.rowAt{γ:Nat->Nat}{L:Nat->Bool}{a:Cf}{w:BV}(h:Held D A (Jl sh) (Glob π) a₀ γ L a w){j n:Nat}{t:Tmp}(hD:D j=some t)(hs:sh j = .row n)(hl:L j=true):a.tmps[t]?=some (BQ (some ⟨γ j,0,none⟩) n n):=by
 rw[h.slot j t hD hl];simp[Jl,hs]
theorem Held.ptrAt{γ:Nat->Nat}{L:Nat->Bool}{a:Cf}{w:BV}(h:Held D A (Jl sh) (Glob π) a₀ γ L a w){j:Nat}{t:Tmp}(hD:D j=some t)(hs:sh j = .ptr)(hl:L j=true):a.tmps[t]?=some (BO (some ⟨γ j,0,none⟩)):=by
 rw[h.slot j t hD hl];simp[Jl,hs]
theorem Jks{γ:Nat->Nat}{i b j:Nat}(h:j≠i):Jl sh (upd γ i b) j=Jl sh γ j:=by
 unfold Jl;rw[upd_ne h]
theorem J2{i:Nat}{o:Oper}(v:B7)(hi:Jd8 π i=true)(fX:sh i = .is v)
  (dK:∀ γ L a w,Held D A (Jl sh) (Glob π) a₀ γ L a w->(∀ e∈o.after,JC .any e=true->L e.on=true)->(JD a.eval o).run P w = .ok (.value v) w) (cR:o.guard=none:=by rfl):Jci P Q D A (Jl sh) (Glob π) a₀ i o:=by
 intro γ L a w hH hl bA;refine⟨fun _=>?_,fun hw=>by simp[Jbi,cR]at hw⟩;unfold Oper.wp;rw[dK γ L a w hH bA];exact⟨v,γ,rfl,fun _ _=>rfl,fun _=>by simp[Jl,fX],hH.glob.stay hi⟩
theorem Jgc{i:Nat}{o:Oper}(hi:Jpg π i=true)(m:Made)(hm:m ∈ π.made)(nf:m.i=i)(df:∀ m' ∈ π.made,m'.i=i->m'=m)(hs:m.s=i\/A m.s i)(cs:List B7)(t:TypeId)(cJ:cs.length=m.cs.length)(aM:m.s=i->cs=m.cs)
  (dK:∀ γ L a w,Held D A (Jl sh) (Glob π) a₀ γ L a w->(∀ e∈o.after,JC .any e=true->L e.on=true)->(JD a.eval o).run P w = .ok (.value (Jl sh (upd γ i w.heap.size) i)) (w.alloc (BP cs.toArray t))) (cR:o.guard=none:=by rfl):Jci P Q D A (Jl sh) (Glob π) a₀ i o:=by
 intro γ L a w hH hl bA;refine⟨fun _=>?_,fun hw=>by simp[Jbi,cR]at hw⟩;unfold Oper.wp;rw[dK γ L a w hH bA];refine⟨_,upd γ i w.heap.size,rfl,fun j hj=>Jks (fun e=>by rw[e,hl]at hj;cases hj),fun _=>rfl,hH.glob.makes hi hm nf df ?_ cs t cJ aM⟩;rcases hs with e | e
 ·exact Or.inl e
 ·refine Or.inr ?_;cases h:L m.s with
  | false=>rfl
  | true=>have:=hH.closed _ _ e h;rw[hl]at this;cases this
theorem Jbc{i:Nat}{o:Oper}(hπ:π.Good)(v:B7)(c:Bool)(hi:Jki π i=true)(hc:(i,c) ∈ π.calls)(df:∀ c' ∈ π.calls,c'.1=i->c'.2=c)(fX:sh i = .is v)
  (dK:∀ γ L a w,Held D A (Jl sh) (Glob π) a₀ γ L a w->(∀ e∈o.after,JC .any e=true->L e.on=true)->∀ g,w.cell? π.fl=some (BT g)->w.frozen? π.fl=false ->
   ∃ F args,(JD a.eval o).run P w = .ok (.enter F args) w/\Cd P F args w fun e w'=>e = BZ v/\∃ g',g'=(g||c)/\After π.fl g' w w') (cR:o.guard=none:=by rfl):Jci P Q D A (Jl sh) (Glob π) a₀ i o:=by
 intro γ L a w hH hl bA;refine⟨fun _=>?_,fun hw=>by simp[Jbi,cR]at hw⟩;obtain⟨g,h1,h2,_⟩:=hH.glob.flag;obtain⟨F,args,hr,k_⟩:=dK γ L a w hH bA g h1 h2;unfold Oper.wp;rw[hr];refine JA k_ ?_;rintro e w' ⟨rfl,g',hg',ha⟩;exact⟨v,γ,rfl,fun _ _=>rfl,fun _=>by simp[Jl,fX],hH.glob.called hπ hi hc df h1 hg' ha⟩
theorem Jfr{i:Nat}{o:Oper}(hπ:π.Good)(v:B7)(hi:i = π.tl)(ak:π.fl ≠ π.p)(lk:π.tl ≠ π.st)(aM:∀ c ∈ π.calls,c.1 ≠ π.tl)(iT:∀ m ∈ π.made,m.i ≠ π.tl/\m.s ≠ π.tl)(fX:sh i = .is v)
  (de:∀ L:Nat->Bool,(∀ j e,A j e->L j=true->L e=true)->(∀ e∈o.after,JC .any e=true->L e.on=true)->∀ c ∈ π.calls,L c.1=true)
  (dK:∀ γ L a w,Held D A (Jl sh) (Glob π) a₀ γ L a w->(∀ e∈o.after,JC .any e=true->L e.on=true)->w.cell? π.fl=some (BT π.bad)->w.cell? π.p=some (BT π.f)->w.frozen? π.p=false ->
   ∃ F args,(JD a.eval o).run P w = .ok (.enter F args) w/\Cd P F args w fun e w'=>e = BZ v/\After π.p (π.f || π.bad) w w') (cR:o.guard=none:=by rfl):Jci P Q D A (Jl sh) (Glob π) a₀ i o:=by
 subst hi;intro γ L a w hH hl bA;refine⟨fun _=>?_,fun hw=>by simp[Jbi,cR]at hw⟩;have dm:=hH.glob.flagAll hπ (de L hH.closed bA);obtain⟨o1,o2⟩:=hH.glob.outer.resolve_left ak;rw[hl]at o1;obtain⟨F,args,hr,k_⟩:=dK γ L a w hH bA dm.1 (by simpa using o1) o2;unfold Oper.wp;rw[hr];refine JA k_ ?_;rintro e w' ⟨rfl,ha⟩;exact⟨v,γ,rfl,fun _ _=>rfl,fun _=>by simp[Jl,fX],hH.glob.told hπ ak lk aM iT ha⟩
theorem does_store{i:Nat}{o:Oper}(hπ:π.Good)(ak:π.res ≠ [])(hi:i = π.st)(hd:o.dst=none)(lk:π.tl ≠ π.st)(aM:∀ c ∈ π.calls,c.1 ≠ π.st)(iT:∀ m ∈ π.made,m.i ≠ π.st/\m.s ≠ π.st)
  (dK:∀ γ L a w,Held D A (Jl sh) (Glob π) a₀ γ L a w->(∀ e∈o.after,JC .any e=true->L e.on=true)->∀ cs:List B7,cs.length = π.res.length->Holds w π.r cs ->
   ∃ w',(JD a.eval o).run P w = .ok .skip w'/\Only π.r w w'/\Holds w' π.r π.res) (cR:o.guard=none:=by rfl):Jci P Q D A (Jl sh) (Glob π) a₀ i o:=by
 subst hi;intro γ L a w hH hl bA;refine⟨fun _=>?_,fun hw=>by simp[Jbi,cR]at hw⟩;obtain⟨cs,c1,c2,_⟩:=hH.glob.res;obtain⟨w',hr,ho,hh⟩:=dK γ L a w hH bA cs c1 c2;unfold Oper.wp;rw[hr];exact⟨undef,γ,rfl,fun _ _=>rfl,fun h=>by simp[hd]at h,hH.glob.stored hπ lk aM iT ak ho hh⟩
theorem Jj9{i:Nat}{o:Oper}(hπ:π.Good)(hd:o.dst=none)(lk:π.tl≠i)(yr:π.st≠i)(aM:∀ c ∈ π.calls,c.1≠i)(m:Made)(hm:m ∈ π.made)(hs:m.s=i)
  (nf:∀ m' ∈ π.made,m'.i≠i) (df:∀ m' ∈ π.made,m'.s=i->m'=m) (pP:∀ m' ∈ π.made,m'.i=m.i->m'=m)
  (dK:∀ γ L a w,Held D A (Jl sh) (Glob π) a₀ γ L a w->(∀ e∈o.after,JC .any e=true->L e.on=true)->L m.i=true/\∀ cs:List B7,cs.length=m.cs.length->Holds w (γ m.i) cs ->
   ∃ w',(JD a.eval o).run P w = .ok .skip w'/\Only (γ m.i) w w'/\Holds w' (γ m.i) m.cs) (cR:o.guard=none:=by rfl):Jci P Q D A (Jl sh) (Glob π) a₀ i o:=by
 intro γ L a w hH hl bA;refine⟨fun _=>?_,fun hw=>by simp[Jbi,cR]at hw⟩;obtain⟨Av,dK⟩:=dK γ L a w hH bA;obtain⟨_,_,cs,c1,c2,_⟩:=hH.glob.made m hm Av;obtain⟨w',hr,ho,hh⟩:=dK cs c1 c2;unfold Oper.wp;rw[hr];exact⟨undef,γ,rfl,fun _ _=>rfl,fun h=>by simp[hd]at h,hH.glob.filled hπ lk yr aM hm hs Av nf df pP ho hh⟩
end
theorem Jgt{α:Type}{f:α->Nat}:∀ {l:List α},(l.map f).Nodup->∀ {x y:α},x∈l->y∈l->f x=f y->x=y
 | [],_,_,_,h,_,_=>by simp at h
 | z::l,hn,x,y,hx,hy,he=>by
  rw[List.map_cons,List.nodup_cons]at hn;rcases List.mem_cons.1 hx with ex | hx' <;> rcases List.mem_cons.1 hy with ey | hy'
  ·rw[ex,ey]
  ·exact absurd (List.mem_map.2 ⟨y,hy',by rw[<- he,ex]⟩) hn.1
  ·exact absurd (List.mem_map.2 ⟨x,hx',by rw[he,ey]⟩) hn.1
  ·exact Jgt hn.2 hx' hy' he
theorem Jbf{π:Plan}(h:(π.calls.map (·.1)).Nodup){i:Nat}{c:Bool}(hc:(i,c) ∈ π.calls):∀ c' ∈ π.calls,c'.1=i->c'.2=c:=fun c' hc' he=>by rw[Jgt h hc' hc he]
theorem Jea{π:Plan}(h:(π.made.map (·.i)).Nodup){m:Made}(hm:m ∈ π.made):∀ m' ∈ π.made,m'.i=m.i->m'=m:=fun _ hm' he=>Jgt h hm' hm he
theorem Jj2{π:Plan}(h:(π.made.map (·.s)).Nodup){m:Made}(hm:m ∈ π.made):∀ m' ∈ π.made,m'.s=m.s->m'=m:=fun _ hm' he=>Jgt h hm' hm he
theorem Jo3{w:BV}{b N:Nat}{s:Bool}{pQ:List B7}(xs:List Int)(h:N<=b/\b<w.heap.size/\∃ cs:List B7,cs.length=pQ.length/\Holds w b cs/\(s=true->cs=pQ))(hs:s=true)(he:pQ=xs.map (Value.int .i64)):Jc2 w (some ⟨b,0,none⟩) xs:=by
 obtain⟨_,_,cs,_,h2,h3⟩:=h;refine Or.inr ⟨b,0,rfl,fun k hk=>?_⟩;rw[h3 hs,he]at h2;have:=(h2 k (J Y xs[k]) (by simp[hk])).1;rw[Nat.zero_add,this];simp[List.getD_eq_getElem?_getD,hk]
theorem J6{ops:Array Oper}{t:Tmp}(h:(ops.toList.all fun o=>o.dst != some t)=true):∀ j,Jam ops j≠some t:=by
 intro j e;obtain⟨o,ho,hd⟩:=Option.bind_eq_some_iff.1 e;have:=List.all_eq_true.1 h o (List.mem_of_getElem? (by simpa using ho));simp[hd]at this
theorem AllDo.cons{P:Program}{Q:Exit->Cf->BV->Prop}{D:Nat->Option Tmp}{A:Nat->Nat->Prop}{val:(Nat->Nat)->Nat->B7}{G:(Nat->Nat)->(Nat->Bool)->BV->Prop}{a₀:Cf}{o:Oper}{rest:List Oper}{n:Nat}(i:Nat)(hi:i=n)
  (h:Jci P Q D A val G a₀ i o) (h':AllDo P Q D A val G a₀ rest (i+1)):AllDo P Q D A val G a₀ (o::rest) n:=by subst hi;exact⟨h,h'⟩
theorem AllDo.nil{P:Program}{Q:Exit->Cf->BV->Prop}{D:Nat->Option Tmp}{A:Nat->Nat->Prop}{val:(Nat->Nat)->Nat->B7}{G:(Nat->Nat)->(Nat->Bool)->BV->Prop}{a₀:Cf}{n:Nat}:AllDo P Q D A val G a₀ [] n:=trivial
theorem Jso{α:Type}{l:List α}(h:l.length=3):∃ a b c,l = [a,b,c]:=by
 match l,h with
 | [a,b,c],_=>exact⟨a,b,c,rfl⟩
theorem Juv{α:Type}{l:List α}(h:l.length=4):∃ a b c d,l = [a,b,c,d]:=by
 match l,h with
 | [a,b,c,d],_=>exact⟨a,b,c,d,rfl⟩
theorem Jux{α:Type}{l:List α}(h:l.length=9):∃ a b c d e f g i j,l = [a,b,c,d,e,f,g,i,j]:=by
 match l,h with
 | [a,b,c,d,e,f,g,i,j],_=>exact⟨a,b,c,d,e,f,g,i,j,rfl⟩
theorem Jn6{w:BV}{b:Nat}{u0 u1 u2 v0 v1 v2:B7}(h:Holds w b [u0,u1,u2]):Holds (((w.setCell ⟨b,0,none⟩ v0).setCell ⟨b,1,none⟩ v1).setCell ⟨b,2,none⟩ v2) b [v0,v1,v2]:=by
 have h0:=h 0 u0 rfl;have h1:=h 1 u1 rfl;have h2:=h 2 u2 rfl;intro k v hk
 match k,hk with
 | 0,hk=>simp at hk;subst hk;simp[go_sem,h0]
 | 1,hk=>simp at hk;subst hk;simp[go_sem,h1]
 | 2,hk=>simp at hk;subst hk;simp[go_sem,h2]
theorem Jsn{w:BV}{b:Nat}{u0 u1 u2 u3 v0 v1 v2 v3:B7}(h:Holds w b [u0,u1,u2,u3]):Holds ((((w.setCell ⟨b,0,none⟩ v0).setCell ⟨b,1,none⟩ v1).setCell ⟨b,2,none⟩ v2).setCell ⟨b,3,none⟩ v3) b [v0,v1,v2,v3]:=by
 have h0:=h 0 u0 rfl;have h1:=h 1 u1 rfl;have h2:=h 2 u2 rfl;have h3:=h 3 u3 rfl;intro k v hk
 match k,hk with
 | 0,hk=>simp at hk;subst hk;simp[go_sem,h0]
 | 1,hk=>simp at hk;subst hk;simp[go_sem,h1]
 | 2,hk=>simp at hk;subst hk;simp[go_sem,h2]
 | 3,hk=>simp at hk;subst hk;simp[go_sem,h3]
theorem Jvs{w:BV}{b:Nat}{u0 u1 u2 u3 u4 u5 u6 u7 u8 v0 v1 v2 v3 v4 v5 v6 v7 v8:B7}(h:Holds w b [u0,u1,u2,u3,u4,u5,u6,u7,u8]):
  Holds (((((((((w.setCell ⟨b,0,none⟩ v0).setCell ⟨b,1,none⟩ v1).setCell ⟨b,2,none⟩ v2).setCell ⟨b,3,none⟩ v3).setCell ⟨b,4,none⟩ v4).setCell ⟨b,5,none⟩ v5).setCell ⟨b,6,none⟩ v6).setCell ⟨b,7,none⟩ v7).setCell ⟨b,8,none⟩ v8) b [v0,v1,v2,v3,v4,v5,v6,v7,v8]:=by
 have h0:=h 0 u0 rfl;have h1:=h 1 u1 rfl;have h2:=h 2 u2 rfl;have h3:=h 3 u3 rfl;have h4:=h 4 u4 rfl;have h5:=h 5 u5 rfl;have h6:=h 6 u6 rfl;have h7:=h 7 u7 rfl;have h8:=h 8 u8 rfl;intro k v hk
 match k,hk with
 | 0,hk=>simp at hk;subst hk;simp[go_sem,h0]
 | 1,hk=>simp at hk;subst hk;simp[go_sem,h1]
 | 2,hk=>simp at hk;subst hk;simp[go_sem,h2]
 | 3,hk=>simp at hk;subst hk;simp[go_sem,h3]
 | 4,hk=>simp at hk;subst hk;simp[go_sem,h4]
 | 5,hk=>simp at hk;subst hk;simp[go_sem,h5]
 | 6,hk=>simp at hk;subst hk;simp[go_sem,h6]
 | 7,hk=>simp at hk;subst hk;simp[go_sem,h7]
 | 8,hk=>simp at hk;subst hk;simp[go_sem,h8]
theorem Jc9(π:Plan)(h:π.bad=(π.g0 || π.calls.any (·.2))):(π.bad=true->π.g0=true \/ ∃ c ∈ π.calls,c.2=true)/\∀ c ∈ π.calls,c.2=true->π.bad=true:=by
 refine⟨fun e=>?_,fun c hc e=>?_⟩
 ·rw[h]at e;rcases Bool.or_eq_true _ _ |>.mp e with e | e
  ·exact Or.inl e
  ·obtain⟨c,hc,e⟩:=List.any_eq_true.1 e;exact Or.inr ⟨c,hc,e⟩
 ·rw[h];have:π.calls.any (·.2)=true:=List.any_eq_true.2 ⟨c,hc,e⟩;rw[this];simp
end
section
open Go.RowKit Go.Shelf Fx
structure Bd where
 k:Int
 s:V3
 q:V4
 p:V3
 l:V3
 m:Int
 i:V3
def Bd.L(b:Bd)(R:List B7):List B7:=
 J Y b.k::J Y b.s.x::J Y b.s.y::J Y b.s.z::J Y b.q.w::J Y b.q.x::J Y b.q.y::J Y b.q.z ::
 J Y b.p.x::J Y b.p.y::J Y b.p.z::J Y b.l.x::J Y b.l.y::J Y b.l.z ::
 J Y b.m::J Y b.i.x::J Y b.i.y::J Y b.i.z::R
structure Rest(R:List B7):Prop where
 len:R.length=13
 one:∀ v∈R,v.oneCell'=true
theorem Rest.all{R:List B7}(h:Rest R)(b:Bd):(b.L R).length=31:=by simp[Bd.L,h.len]
theorem Rest.each{R:List B7}(h:Rest R)(b:Bd):(b.L R).toArray.all (·.oneCell')=true:=by
 apply all_oneCell_toArray
 intro v hv;simp only[Bd.L,List.mem_cons]at hv;rcases hv with rfl | rfl | rfl | rfl | rfl | rfl | rfl | rfl | rfl | rfl | rfl | rfl | rfl | rfl | rfl | rfl | rfl | rfl | hv
 all_goals first | rfl | exact h.one v hv
def CW(W:BV)(b:Nat)(vs:List B7):Prop:=∀ i v,vs[i]?=some v->W.cell? ⟨b,i,none⟩=some v/\W.frozen? ⟨b,i,none⟩=false
theorem CW.step{A B:BV}{b:Nat}{vs:List B7}(h:CW A b vs)(hb:B9 A.heap.size A B):CW B b vs:=fun i v e=>⟨Ja hb (h i v e).1,Jm hb (h i v e).1 (h i v e).2⟩
theorem CW.new(w:BV)(vs:List B7)(t:TypeId):CW (w.alloc (BP vs.toArray t)) w.heap.size vs:=fun i v e=>⟨by simp[e],by simp[go_sem]⟩
theorem CW.lt{W:BV}{b:Nat}{v:B7}{vs:List B7}(h:CW W b (v::vs)):b<W.heap.size:=JB _ _ (h 0 v rfl).1
theorem CW.leaves{p:Ce}{A B:BV}{b:Nat}{vs:List B7}(h:CW A b vs)(hl:Leaves p A B)(ak:b≠p.block):CW B b vs:=fun i v e=>by
 have:=hl.other ⟨b,i,none⟩ (JB _ _ (h i v e).1) ak;exact⟨this.1.trans (h i v e).1,this.2.trans (h i v e).2⟩
theorem CW.after{p:Ce}{g:Bool}{A B:BV}{b:Nat}{vs:List B7}(h:CW A b vs)(hl:After p g A B)(ak:b≠p.block):CW B b vs:=h.leaves hl.leaves ak
theorem CW.set{W:BV}{b:Nat}{vs:List B7}(h:CW W b vs)(k:Nat)(u:B7)(hk:k<vs.length):CW (W.setCell ⟨b,k,none⟩ u) b (vs.set k u):=by
 intro i v e;by_cases hik:i=k
 ·subst hik;rw[List.getElem?_set_self hk]at e;cases e;obtain⟨h1,h2⟩:=h i _ (List.getElem?_eq_getElem hk);exact⟨by simp[go_sem,h1],by simp[go_sem,h2]⟩
 ·rw[List.getElem?_set_ne (Ne.symm hik)]at e;obtain⟨h1,h2⟩:=h i v e;exact⟨by simp[go_sem,h1],by simp[go_sem,h2]⟩
theorem CW.other{W:BV}{b:Nat}{vs:List B7}(h:CW W b vs){a:Ce}(ak:a.block≠b)(u:B7):CW (W.setCell a u) b vs:=by
 intro i v e;obtain⟨h1,h2⟩:=h i v e;refine⟨(World.cell?_setCell_other _ _ _ _ (fun e=>ak (by rw[e]))).trans h1,?_⟩;simp[go_sem,h2]
theorem CW.range{W:BV}{b:Nat}{vs:List B7}(h:CW W b vs):World.rangeAt W b 0 vs:=fun j v e=>by rw[Nat.zero_add];exact(h j v e).1
theorem CW.there{W:BV}{b:Nat}{vs:List B7}(h:CW W b vs):World.there W b 0 vs.length:=fun j hj=>by
 rw[Nat.zero_add];obtain⟨h1,h2⟩:=h j _ (List.getElem?_eq_getElem hj);exact⟨by rw[h1];rfl,h2⟩
theorem CW.sets{W:BV}{b:Nat}{vs us:List B7}(h:CW W b vs)(hl:us.length=vs.length):CW (W.setCells b 0 us) b us:=by
 have ht:=h.there;rw[<- hl]at ht;intro i v e;have:=World.rangeAt_setCells_same W b 0 us ht i v e;rw[Nat.zero_add]at this;refine⟨this,?_⟩;have hi:i<us.length:=(List.getElem?_eq_some_iff.1 e).1;have:=(ht i hi).2;rw[Nat.zero_add]at this;rw[World.frozen?_setCells];exact this
def orL(f:Bool)(cs:List (Nat × Bool))(L:Nat->Bool):Bool:=f||cs.any (fun c=>L c.1&&c.2)
theorem Jrw(f:Bool)(cs:List (Nat × Bool)):orL f cs (fun _=>false)=f:=by
 unfold orL
 induction cs with
 | nil=>simp
 | cons c r ih=>simp at ih ⊢
theorem Jmu{f:Bool}{cs:List (Nat × Bool)}{L:Nat->Bool}{i:Nat}(h:(cs.all fun c=>decide (c.1≠i))=true):orL f cs (more L i)=orL f cs L:=by
 unfold orL
 congr 1
 induction cs with
 | nil=>rfl
 | cons c r ih =>
  simp only[List.all_cons,Bool.and_eq_true,decide_eq_true_eq]at h;simp only[List.any_cons];rw[ih h.2,Bt h.1]
theorem Jre{f:Bool}{cs:List (Nat × Bool)}{L:Nat->Bool}{i:Nat}{b:Bool}(hl:L i=false)(h:(cs.filter fun c=>decide (c.1=i)) = [(i,b)]):orL f cs (more L i)=(orL f cs L||b):=by
 unfold orL;rw[Bool.or_assoc]
 congr 1
 induction cs with
 | nil=>simp at h
 | cons c r ih =>
  simp only[List.any_cons];by_cases e:c.1=i
  ·rw[List.filter_cons_of_pos (by simpa using e)]at h;obtain⟨rfl,hr⟩:=List.cons.inj h;have h2:(r.all fun c=>decide (c.1≠i))=true:=by
    rw[List.all_eq_true];intro x hx;rw[decide_eq_true_eq];intro hxi;have:x∈r.filter fun c=>decide (c.1=i):=List.mem_filter.2 ⟨hx,by simpa using hxi⟩;rw[hr]at this;cases this
   have h3:=Jmu (f:=false) (L:=L) h2;unfold orL at h3;simp only[Bool.false_or]at h3;rw[h3];simp only[BD,hl,Bool.true_and,Bool.false_and,Bool.false_or];rw[Bool.or_comm]
  ·rw[List.filter_cons_of_neg (by simpa using e)]at h;rw[ih h,Bt e,Bool.or_assoc]
structure FG(V:BV)(p:Ce)(f:Bool)(cs:List (Nat × Bool))(L:Nat->Bool)(w:BV):Prop where
 leaves:Leaves p V w
 cell:w.cell? p=some (BT (orL f cs L))
 frozen:w.frozen? p=false
theorem FG.start{V:BV}{p:Ce}{f:Bool}{cs:List (Nat × Bool)}(hc:V.cell? p=some (BT f))(hf:V.frozen? p=false):FG V p f cs (fun _=>false) V.drew:=
 ⟨(Leaves.refl _ _).drew,by rw[Jrw];exact hc,hf⟩
theorem FG.stay{V:BV}{p:Ce}{f:Bool}{cs:List (Nat × Bool)}{L:Nat->Bool}{w:BV}(h:FG V p f cs L w){i:Nat}(hi:(cs.all fun c=>decide (c.1≠i))=true):FG V p f cs (more L i) w:=
 ⟨h.leaves,by rw[Jmu hi];exact h.cell,h.frozen⟩
theorem FG.come{V:BV}{p:Ce}{f:Bool}{cs:List (Nat × Bool)}{L:Nat->Bool}{w w':BV}(h:FG V p f cs L w){i:Nat}{b:Bool}(hl:L i=false)(hi:(cs.filter fun c=>decide (c.1=i)) = [(i,b)])(ha:After p (orL f cs L||b) w w'):FG V p f cs (more L i) w':=
 ⟨h.leaves.same ha,by rw[Jre hl hi];exact ha.cell,ha.frozen⟩
theorem FG.at{V:BV}{p:Ce}{f:Bool}{cs:List (Nat × Bool)}{L:Nat->Bool}{w:BV}(h:FG V p f cs L w){q:Ce}{v:B7}(hq:V.cell? q=some v)(ak:q.block≠p.block):w.cell? q=some v:=
 (h.leaves.other q (JB _ _ hq) ak).1.trans hq
theorem FG.open{V:BV}{p:Ce}{f:Bool}{cs:List (Nat × Bool)}{L:Nat->Bool}{w:BV}(h:FG V p f cs L w){q:Ce}{v:B7}(hq:V.cell? q=some v)(hf:V.frozen? q=false)(ak:q.block≠p.block):w.frozen? q=false:=
 (h.leaves.other q (JB _ _ hq) ak).2.trans hf
theorem FG.range{V:BV}{p:Ce}{f:Bool}{cs:List (Nat × Bool)}{L:Nat->Bool}{w:BV}(h:FG V p f cs L w){b:Nat}{vs:List B7}(hq:CW V b vs)(ak:b≠p.block):World.rangeAt w b 0 vs:=(hq.leaves h.leaves ak).range
def FGS(V:BV)(p:Ce)(f:Bool)(cs:List (Nat × Bool))(st:Nat)(S:BV->BV)(L:Nat->Bool)(w9:BV):Prop:=(L st=false/\FG V p f cs L w9)\/(L st=true/\∃ w,FG V p f cs L w/\w9=S w)
section
variable {V:BV} {p:Ce} {f:Bool} {cs:List (Nat × Bool)} {st:Nat} {S:BV->BV} {L:Nat->Bool} {w w':BV} {i:Nat}
theorem FGS.start(hc:V.cell? p=some (BT f))(hf:V.frozen? p=false):FGS V p f cs st S (fun _=>false) V.drew:=Or.inl ⟨rfl,FG.start hc hf⟩
theorem FGS.stay(h:FGS V p f cs st S L w)(hs:st≠i)(hi:(cs.all fun c=>decide (c.1≠i))=true):FGS V p f cs st S (more L i) w:=by
 unfold FGS;rw[Bt hs];rcases h with ⟨a,b⟩ |⟨a,x,b,c⟩
 ·exact Or.inl ⟨a,b.stay hi⟩
 ·exact Or.inr ⟨a,x,b.stay hi,c⟩
theorem FGS.early(h:FGS V p f cs st S L w)(hl:L st=false):FG V p f cs L w:=by
 rcases h with h | h
 ·exact h.2
 ·rw[hl]at h;cases h.1
theorem FGS.late(h:FGS V p f cs st S L w)(hl:L st=true):∃ x,FG V p f cs L x/\w=S x:=by
 rcases h with h | h
 ·rw[hl]at h;cases h.1
 ·exact h.2
theorem FGS.come{b:Bool}(h:FG V p f cs L w)(hs:st≠i)(he:L st=false)(hl:L i=false)(hi:(cs.filter fun c=>decide (c.1=i)) = [(i,b)])(ha:After p (orL f cs L||b) w w'):FGS V p f cs st S (more L i) w':=
 Or.inl ⟨by rw[Bt hs];exact he,h.come hl hi ha⟩
theorem FGS.store(h:FG V p f cs L w)(hi:(cs.all fun c=>decide (c.1≠st))=true):FGS V p f cs st S (more L st) (S w):=Or.inr ⟨BD,w,h.stay hi,rfl⟩
end
end
section
open Go.RowKit Go.Shelf Fx
theorem Jh2(gf:Nat)(fv:Int->Int->Option Int)(fb:Nat)(eg:∀ args w,(callFunc gf args).run Tryz.prog w = .ok (.enter gf args) w)
  (fY:∀(x y:Int) (g:Bool) (w:BV),w.cell? ⟨fb,0,none⟩=some (BT g)->w.frozen? ⟨fb,0,none⟩=false->Cd Tryz.prog gf #[BO (some ⟨fb,0,none⟩),J Y x,J Y y] w fun e w'=>e = BZ (J Y ((fv x y).getD 0))/\BU (After ⟨fb,0,none⟩ (g ||(fv x y).isNone) w w'))
  (f:Bool) (cl aJ aK cK cL cM:Int) (W:BV) (hc:W.cell? ⟨fb,0,none⟩=some (BT f)) (hf:W.frozen? ⟨fb,0,none⟩=false) :
  Cd Tryz.prog 123 #[.func (.func gf) #[BO (some ⟨fb,0,none⟩)] #[],B_ #[J Y cl,J Y aJ,J Y aK],B_ #[J Y cK,J Y cL,J Y cM]] W fun e W'=>∃ g,e = BZ (B_ #[J Y ((fv cl cK).getD 0),J Y ((fv aJ cL).getD 0),J Y ((fv aK cM).getD 0)])/\BU (g=(f ||((fv cl cK).isNone ||(fv aJ cL).isNone ||(fv aK cM).isNone)))/\BU (After ⟨fb,0,none⟩ g W W'):=by
 have aO:fb<W.heap.size:=JB _ _ hc;obtain⟨V,hV⟩:∃ V,V=(((W.alloc (BP #[J Y cl,J Y aJ,J Y aK] 27)).alloc (BP #[J Y cK,J Y cL,J Y cM] 27)).alloc (BP #[J Y 0,J Y 0,J Y 0] 27)):=⟨_,rfl⟩
 have aL:=Jb W (BP #[J Y cl,J Y aJ,J Y aK] 27);have ac:=Jb (W.alloc (BP #[J Y cl,J Y aJ,J Y aK] 27)) (BP #[J Y cK,J Y cL,J Y cM] 27);have aj:=Jb ((W.alloc (BP #[J Y cl,J Y aJ,J Y aK] 27)).alloc (BP #[J Y cK,J Y cL,J Y cM] 27)) (BP #[J Y 0,J Y 0,J Y 0] 27);have CA:CW V (W.heap.size) [J Y cl,J Y aJ,J Y aK]:=by
  have h9:=((CW.new W [J Y cl,J Y aJ,J Y aK] 27).step ac).step aj;rw[hV];exact h9
 have CB:CW V (W.heap.size+1) [J Y cK,J Y cL,J Y cM]:=by
  have h9:=(CW.new (W.alloc (BP #[J Y cl,J Y aJ,J Y aK] 27)) [J Y cK,J Y cL,J Y cM] 27).step aj;simp only[JE]at h9;rw[hV];exact h9
 have CR:CW V (W.heap.size+1+1) [J Y 0,J Y 0,J Y 0]:=by
  have h9:=CW.new ((W.alloc (BP #[J Y cl,J Y aJ,J Y aK] 27)).alloc (BP #[J Y cK,J Y cL,J Y cM] 27)) [J Y 0,J Y 0,J Y 0] 27;simp only[JE]at h9;rw[hV];exact h9
 have hB:B9 W.heap.size W V:=by rw[hV];exact(Jc (Jc aL ac) aj)
 have aN:=Ja hB hc;have aT:=Jm hB hc hf;have aY:BU (Leaves ⟨fb,0,none⟩ W V):=(Leaves.refl _ _).step hB;clear aL ac aj;clear hc hf hB;go_enter func123,ntmps123;go_upto_region 1 with fail;rw[<- hV];clear hV;obtain⟨pr,aB⟩:∃ p,p=W.heap.size+1+1:=⟨_,rfl⟩
 obtain⟨pb,aF⟩:∃ p,p=W.heap.size+1:=⟨_,rfl⟩
 obtain⟨pa,aU⟩:∃ p,p=W.heap.size:=⟨_,rfl⟩
 rw[<- aB]at CR;rw[<- aF]at CB;rw[<- aU]at CA;rw[<- aB,<- aF,<- aU];have na:pa≠fb:=by omega
 have nb:pb≠fb:=by omega
 have nr:pr≠fb:=by omega
 have nr':fb≠pr:=by omega
 have nH:W.heap.size<=pr:=by omega
 clear aB aU aF aO;have aB:=nH;refine Bq [.some (.func (.func gf) #[BO (some ⟨fb,0,none⟩)] #[]),.some (BO (some ⟨pa,0,none⟩)),.some (J Y cl),.some (BO (some ⟨pb,0,none⟩)),.some (J Y cK),.some (J Y ((fv cl cK).getD 0)),.some (.func (.func gf) #[BO (some ⟨fb,0,none⟩)] #[]),.some (BO (some ⟨pa,1,none⟩)),.some (J Y aJ),.some (BO (some ⟨pb,1,none⟩)),.some (J Y cL),.some (J Y ((fv aJ cL).getD 0)),.some (.func (.func gf) #[BO (some ⟨fb,0,none⟩)] #[]),.some (BO (some ⟨pa,2,none⟩)),.some (J Y aK),.some (BO (some ⟨pb,2,none⟩)),.some (J Y cM),.some (J Y ((fv aK cM).getD 0)),.some (B_ #[J Y ((fv cl cK).getD 0),J Y ((fv aJ cL).getD 0),J Y ((fv aK cM).getD 0)]),none] [8,9,10,11,12,13,14,15,16,17,18,19,20,21,22,23,24,25,26,0] [(0,.func (.func gf) #[BO (some ⟨fb,0,none⟩)] #[]),(4,BO (some ⟨pa,0,none⟩)),(5,BO (some ⟨pb,0,none⟩)),(6,BO (some ⟨pr,0,none⟩))] (fun γ L w9=>FGS V ⟨fb,0,none⟩ f [(5,(fv cl cK).isNone),(11,(fv aJ cL).isNone),(17,(fv aK cM).isNone)] 19 (fun w=>(((w.setCell ⟨pr,0,none⟩ (J Y ((fv cl cK).getD 0))).setCell ⟨pr,1,none⟩ (J Y ((fv aJ cL).getD 0))).setCell ⟨pr,2,none⟩ (J Y ((fv aK cM).getD 0)))) L w9) ⟨rfl,rfl,rfl,rfl,trivial⟩ ?_ ?_ ?_
 ·exact FGS.start aN aT
 ·intro D WA Z hD ah hZ T;simp only[RV.Outs,RV.Slots,Nat.reduceAdd]at T
  iterate 5 first
   |(refine Br _ (Bs T (fun γ v L w hl h=>h.stay (by decide) rfl) (fun γ L a w hH hl h9 k9=>⟨_,?_,rfl⟩)) ?_;· simp[JD,go_sem,h9])
   |(refine Br _ (Bs T (fun γ v L w hl h=>h.stay (by decide) rfl) (fun γ L a w hH hl h9 k9=>⟨_,?_,rfl⟩)) ?_;· have hG:=hH.glob.early (Bu hH (Bv (j:=19) ah (by kernel_rfl)) hl);have q0:=hG.at (CA 0 _ rfl).1 na;have q1:=hG.at (CB 0 _ rfl).1 nb;simp[JC]at k9;simp[JD,go_sem,h9,k9,q0,q1])
  refine Br _ (Bw (fun γ L a w hH hl hA=>by have h9:=T γ L a w hH;have k9:=hA;simp[JC]at k9;have hG:=hH.glob.early (Bu hH (Bv (j:=19) (i:=5) ah (by kernel_rfl)) hl);exact⟨gf,#[BO (some ⟨fb,0,none⟩),J Y cl,J Y cK],by simp[go_sem,eg,h9,k9],JA (fY cl cK _ w hG.cell hG.frozen) (by rintro e w2 ⟨rfl,ha⟩;exact⟨_,rfl,rfl,fun j v _ h=>h.keep _,FGS.come hG (by decide) (Bu hH (Bv (j:=19) (i:=5) ah (by kernel_rfl)) hl) hl rfl ha.out⟩)⟩)) ?_
  iterate 5 first
   |(refine Br _ (Bs T (fun γ v L w hl h=>h.stay (by decide) rfl) (fun γ L a w hH hl h9 k9=>⟨_,?_,rfl⟩)) ?_;· simp[JD,go_sem,h9])
   |(refine Br _ (Bs T (fun γ v L w hl h=>h.stay (by decide) rfl) (fun γ L a w hH hl h9 k9=>⟨_,?_,rfl⟩)) ?_;· have hG:=hH.glob.early (Bu hH (Bv (j:=19) ah (by kernel_rfl)) hl);have q0:=hG.at (CA 1 _ rfl).1 na;have q1:=hG.at (CB 1 _ rfl).1 nb;simp[JC]at k9;simp[JD,go_sem,h9,k9,q0,q1])
  refine Br _ (Bw (fun γ L a w hH hl hA=>by have h9:=T γ L a w hH;have k9:=hA;simp[JC]at k9;have hG:=hH.glob.early (Bu hH (Bv (j:=19) (i:=11) ah (by kernel_rfl)) hl);exact⟨gf,#[BO (some ⟨fb,0,none⟩),J Y aJ,J Y cL],by simp[go_sem,eg,h9,k9],JA (fY aJ cL _ w hG.cell hG.frozen) (by rintro e w2 ⟨rfl,ha⟩;exact⟨_,rfl,rfl,fun j v _ h=>h.keep _,FGS.come hG (by decide) (Bu hH (Bv (j:=19) (i:=11) ah (by kernel_rfl)) hl) hl rfl ha.out⟩)⟩)) ?_
  iterate 5 first
   |(refine Br _ (Bs T (fun γ v L w hl h=>h.stay (by decide) rfl) (fun γ L a w hH hl h9 k9=>⟨_,?_,rfl⟩)) ?_;· simp[JD,go_sem,h9])
   |(refine Br _ (Bs T (fun γ v L w hl h=>h.stay (by decide) rfl) (fun γ L a w hH hl h9 k9=>⟨_,?_,rfl⟩)) ?_;· have hG:=hH.glob.early (Bu hH (Bv (j:=19) ah (by kernel_rfl)) hl);have q0:=hG.at (CA 2 _ rfl).1 na;have q1:=hG.at (CB 2 _ rfl).1 nb;simp[JC]at k9;simp[JD,go_sem,h9,k9,q0,q1])
  refine Br _ (Bw (fun γ L a w hH hl hA=>by have h9:=T γ L a w hH;have k9:=hA;simp[JC]at k9;have hG:=hH.glob.early (Bu hH (Bv (j:=19) (i:=17) ah (by kernel_rfl)) hl);exact⟨gf,#[BO (some ⟨fb,0,none⟩),J Y aK,J Y cM],by simp[go_sem,eg,h9,k9],JA (fY aK cM _ w hG.cell hG.frozen) (by rintro e w2 ⟨rfl,ha⟩;exact⟨_,rfl,rfl,fun j v _ h=>h.keep _,FGS.come hG (by decide) (Bu hH (Bv (j:=19) (i:=17) ah (by kernel_rfl)) hl) hl rfl ha.out⟩)⟩)) ?_
  (refine Br _ (Bs T (fun γ v L w hl h=>h.stay (by decide) rfl) (fun γ L a w hH hl h9 k9=>⟨_,?_,rfl⟩)) ?_;· simp[JC]at k9;simp[JD,go_sem,h9,k9])
  refine Br _ (Bz (fun γ L a w hH hl hA=>by have h9:=T γ L a w hH;have k9:=hA;simp[JC]at k9;have hG:=hH.glob.early hl;have z0:=hG.at (CR 0 _ rfl).1 nr;have cX:=hG.open (CR 0 _ rfl).1 (CR 0 _ rfl).2 nr;have z1:=hG.at (CR 1 _ rfl).1 nr;have cY:=hG.open (CR 1 _ rfl).1 (CR 1 _ rfl).2 nr;have z2:=hG.at (CR 2 _ rfl).1 nr;have cZ:=hG.open (CR 2 _ rfl).1 (CR 2 _ rfl).2 nr;exact⟨(((w.setCell ⟨pr,0,none⟩ (J Y ((fv cl cK).getD 0))).setCell ⟨pr,1,none⟩ (J Y ((fv aJ cL).getD 0))).setCell ⟨pr,2,none⟩ (J Y ((fv aK cM).getD 0))),by simp[JD,go_sem,z0,cX,z1,cY,z2,cZ,h9,k9],trivial,fun j v _ h=>h.keep _,FGS.store (S:=fun w=>(((w.setCell ⟨pr,0,none⟩ (J Y ((fv cl cK).getD 0))).setCell ⟨pr,1,none⟩ (J Y ((fv aJ cL).getD 0))).setCell ⟨pr,2,none⟩ (J Y ((fv aK cM).getD 0)))) hG rfl⟩)) ?_;exact RV.AllDo.nil
 ·intro γ w5 L9 hL aX aD;obtain⟨w8,bi,rfl⟩:=aD.late (hL 19 (by decide));have cE:orL f [(5,(fv cl cK).isNone),(11,(fv aJ cL).isNone),(17,(fv aK cM).isNone)] L9=(f ||((fv cl cK).isNone ||(fv aJ cL).isNone ||(fv aK cM).isNone)):=by unfold orL;simp only[List.any_cons,List.any_nil,hL 5 (by decide),hL 11 (by decide),hL 17 (by decide),Bool.true_and,Bool.or_false,Bool.or_assoc]
  have a_:BU (After _ _ _ _):=bi.leaves.done bi.cell bi.frozen;rw[cE]at a_;clear bi cE;clear hL aX aD;simp only[RV.putL,Act.put,List.setIfInBounds_toArray,List.set_cons_zero,List.set_cons_succ];have C1:BU (CW w8 pr _):=(CR.leaves a_.out.leaves nr)
  have HL:BU (Leaves ⟨fb,0,none⟩ W _):=aY.out.same a_.out;have eY:=a_.out.cell;have e_:=a_.out.frozen;obtain⟨r0,q0⟩:=C1.out 0 _ rfl;obtain⟨r1,q1⟩:=C1.out 1 _ rfl;obtain⟨r2,q2⟩:=C1.out 2 _ rfl;clear C1 a_;go_wp2_with (fail);refine bodyPost_ret (by simp[results,results123,go_sem,r0,r1,r2];try rfl) rfl ?_;refine⟨_,rfl,rfl,(((HL.out.set aB _).set aB _).set aB _).done ?_ ?_⟩
  ·simp[go_sem,eY]
  ·simp[go_sem,e_]
theorem Jkt(b:Nat)(f:Bool)(x0 x1 x2 y0 y1 y2:Int)(W:BV)(hc:W.cell? ⟨b,0,none⟩=some (BT f))(hf:W.frozen? ⟨b,0,none⟩=false):
  Cd Tryz.prog 123 #[.func (.func 125) #[BO (some ⟨b,0,none⟩)] #[],B_ #[J Y x0,J Y x1,J Y x2],B_ #[J Y y0,J Y y1,J Y y2]] W fun e W' =>
   ∃ g,e = BZ (B_ #[J Y ((add x0 y0).getD 0),J Y ((add x1 y1).getD 0),J Y ((add x2 y2).getD 0)])/\BU (g=(f ||((add x0 y0).isNone ||(add x1 y1).isNone ||(add x2 y2).isNone)))/\BU (After ⟨b,0,none⟩ g W W'):=
 Jh2 125 (add) b (enters_of func125 (by kernel_rfl) rfl) (fun x y g w h1 h2=>by
  refine JA (Jo9 b 0 g x y w h1 h2) ?_;rintro e w' ⟨v0,g0,rfl,SS,A⟩;obtain⟨rfl,rfl⟩:=SS.out;exact⟨rfl,A⟩) f x0 x1 x2 y0 y1 y2 W hc hf
theorem Jko(b:Nat)(f:Bool)(x0 x1 x2 y0 y1 y2:Int)(W:BV)(hc:W.cell? ⟨b,0,none⟩=some (BT f))(hf:W.frozen? ⟨b,0,none⟩=false):
  Cd Tryz.prog 123 #[.func (.func 159) #[BO (some ⟨b,0,none⟩)] #[],B_ #[J Y x0,J Y x1,J Y x2],B_ #[J Y y0,J Y y1,J Y y2]] W fun e W' =>
   ∃ g,e = BZ (B_ #[J Y ((sub x0 y0).getD 0),J Y ((sub x1 y1).getD 0),J Y ((sub x2 y2).getD 0)])/\BU (g=(f ||((sub x0 y0).isNone ||(sub x1 y1).isNone ||(sub x2 y2).isNone)))/\BU (After ⟨b,0,none⟩ g W W'):=
 Jh2 159 (sub) b (enters_of func159 (by kernel_rfl) rfl) (fun x y g w h1 h2=>by
  refine JA (Jgo b 0 g x y w h1 h2) ?_;rintro e w' ⟨v0,g0,rfl,SS,A⟩;obtain⟨rfl,rfl⟩:=SS.out;exact⟨rfl,A⟩) f x0 x1 x2 y0 y1 y2 W hc hf
theorem Jkg(b:Nat)(f:Bool)(x0 x1 x2 y0 y1 y2:Int)(W:BV)(hc:W.cell? ⟨b,0,none⟩=some (BT f))(hf:W.frozen? ⟨b,0,none⟩=false):
  Cd Tryz.prog 123 #[.func (.func 111) #[BO (some ⟨b,0,none⟩)] #[],B_ #[J Y x0,J Y x1,J Y x2],B_ #[J Y y0,J Y y1,J Y y2]] W fun e W' =>
   ∃ g,e = BZ (B_ #[J Y ((mul x0 y0).getD 0),J Y ((mul x1 y1).getD 0),J Y ((mul x2 y2).getD 0)])/\BU (g=(f ||((mul x0 y0).isNone ||(mul x1 y1).isNone ||(mul x2 y2).isNone)))/\BU (After ⟨b,0,none⟩ g W W'):=
 Jh2 111 (mul) b (enters_of func111 (by kernel_rfl) rfl) (fun x y g w h1 h2=>by
  refine JA (Jpj b 0 g x y w h1 h2) ?_;rintro e w' ⟨v0,g0,rfl,SS,A⟩;obtain⟨rfl,rfl⟩:=SS.out;exact⟨rfl,A⟩) f x0 x1 x2 y0 y1 y2 W hc hf
theorem Jhf(gf:Nat)(fv:Int->Int->Option Int)(fb:Nat)(eg:∀ args w,(callFunc gf args).run Tryz.prog w = .ok (.enter gf args) w)
  (fY:∀(x y:Int) (g:Bool) (w:BV),w.cell? ⟨fb,0,none⟩=some (BT g)->w.frozen? ⟨fb,0,none⟩=false->Cd Tryz.prog gf #[BO (some ⟨fb,0,none⟩),J Y x,J Y y] w fun e w'=>e = BZ (J Y ((fv x y).getD 0))/\BU (After ⟨fb,0,none⟩ (g ||(fv x y).isNone) w w'))
  (f:Bool) (cl aJ aK aQ cK cL cM fu:Int) (W:BV) (hc:W.cell? ⟨fb,0,none⟩=some (BT f)) (hf:W.frozen? ⟨fb,0,none⟩=false) :
  Cd Tryz.prog 158 #[.func (.func gf) #[BO (some ⟨fb,0,none⟩)] #[],B_ #[J Y cl,J Y aJ,J Y aK,J Y aQ],B_ #[J Y cK,J Y cL,J Y cM,J Y fu]] W fun e W'=>∃ g,e = BZ (B_ #[J Y ((fv cl cK).getD 0),J Y ((fv aJ cL).getD 0),J Y ((fv aK cM).getD 0),J Y ((fv aQ fu).getD 0)])/\BU (g=(f ||((fv cl cK).isNone ||(fv aJ cL).isNone ||(fv aK cM).isNone ||(fv aQ fu).isNone)))/\BU (After ⟨fb,0,none⟩ g W W'):=by
 have aO:fb<W.heap.size:=JB _ _ hc;obtain⟨V,hV⟩:∃ V,V=(((W.alloc (BP #[J Y cl,J Y aJ,J Y aK,J Y aQ] 29)).alloc (BP #[J Y cK,J Y cL,J Y cM,J Y fu] 29)).alloc (BP #[J Y 0,J Y 0,J Y 0,J Y 0] 29)):=⟨_,rfl⟩
 have aL:=Jb W (BP #[J Y cl,J Y aJ,J Y aK,J Y aQ] 29);have ac:=Jb (W.alloc (BP #[J Y cl,J Y aJ,J Y aK,J Y aQ] 29)) (BP #[J Y cK,J Y cL,J Y cM,J Y fu] 29);have aj:=Jb ((W.alloc (BP #[J Y cl,J Y aJ,J Y aK,J Y aQ] 29)).alloc (BP #[J Y cK,J Y cL,J Y cM,J Y fu] 29)) (BP #[J Y 0,J Y 0,J Y 0,J Y 0] 29);have CA:CW V (W.heap.size) [J Y cl,J Y aJ,J Y aK,J Y aQ]:=by
  have h9:=((CW.new W [J Y cl,J Y aJ,J Y aK,J Y aQ] 29).step ac).step aj;rw[hV];exact h9
 have CB:CW V (W.heap.size+1) [J Y cK,J Y cL,J Y cM,J Y fu]:=by
  have h9:=(CW.new (W.alloc (BP #[J Y cl,J Y aJ,J Y aK,J Y aQ] 29)) [J Y cK,J Y cL,J Y cM,J Y fu] 29).step aj;simp only[JE]at h9;rw[hV];exact h9
 have CR:CW V (W.heap.size+1+1) [J Y 0,J Y 0,J Y 0,J Y 0]:=by
  have h9:=CW.new ((W.alloc (BP #[J Y cl,J Y aJ,J Y aK,J Y aQ] 29)).alloc (BP #[J Y cK,J Y cL,J Y cM,J Y fu] 29)) [J Y 0,J Y 0,J Y 0,J Y 0] 29;simp only[JE]at h9;rw[hV];exact h9
 have hB:B9 W.heap.size W V:=by rw[hV];exact(Jc (Jc aL ac) aj)
 have aN:=Ja hB hc;have aT:=Jm hB hc hf;have aY:BU (Leaves ⟨fb,0,none⟩ W V):=(Leaves.refl _ _).step hB;clear aL ac aj;clear hc hf hB;go_enter func158,ntmps158;go_upto_region 1 with fail;rw[<- hV];clear hV;obtain⟨pr,aB⟩:∃ p,p=W.heap.size+1+1:=⟨_,rfl⟩
 obtain⟨pb,aF⟩:∃ p,p=W.heap.size+1:=⟨_,rfl⟩
 obtain⟨pa,aU⟩:∃ p,p=W.heap.size:=⟨_,rfl⟩
 rw[<- aB]at CR;rw[<- aF]at CB;rw[<- aU]at CA;rw[<- aB,<- aF,<- aU];have na:pa≠fb:=by omega
 have nb:pb≠fb:=by omega
 have nr:pr≠fb:=by omega
 have nr':fb≠pr:=by omega
 have nH:W.heap.size<=pr:=by omega
 clear aB aU aF aO;have aB:=nH;refine Bq [.some (.func (.func gf) #[BO (some ⟨fb,0,none⟩)] #[]),.some (BO (some ⟨pa,0,none⟩)),.some (J Y cl),.some (BO (some ⟨pb,0,none⟩)),.some (J Y cK),.some (J Y ((fv cl cK).getD 0)),.some (.func (.func gf) #[BO (some ⟨fb,0,none⟩)] #[]),.some (BO (some ⟨pa,1,none⟩)),.some (J Y aJ),.some (BO (some ⟨pb,1,none⟩)),.some (J Y cL),.some (J Y ((fv aJ cL).getD 0)),.some (.func (.func gf) #[BO (some ⟨fb,0,none⟩)] #[]),.some (BO (some ⟨pa,2,none⟩)),.some (J Y aK),.some (BO (some ⟨pb,2,none⟩)),.some (J Y cM),.some (J Y ((fv aK cM).getD 0)),.some (.func (.func gf) #[BO (some ⟨fb,0,none⟩)] #[]),.some (BO (some ⟨pa,3,none⟩)),.some (J Y aQ),.some (BO (some ⟨pb,3,none⟩)),.some (J Y fu),.some (J Y ((fv aQ fu).getD 0)),.some (B_ #[J Y ((fv cl cK).getD 0),J Y ((fv aJ cL).getD 0),J Y ((fv aK cM).getD 0),J Y ((fv aQ fu).getD 0)]),none] [8,9,10,11,12,13,14,15,16,17,18,19,20,21,22,23,24,25,26,27,28,29,30,31,32,0] [(0,.func (.func gf) #[BO (some ⟨fb,0,none⟩)] #[]),(4,BO (some ⟨pa,0,none⟩)),(5,BO (some ⟨pb,0,none⟩)),(6,BO (some ⟨pr,0,none⟩))] (fun γ L w9=>FGS V ⟨fb,0,none⟩ f [(5,(fv cl cK).isNone),(11,(fv aJ cL).isNone),(17,(fv aK cM).isNone),(23,(fv aQ fu).isNone)] 25 (fun w=>((((w.setCell ⟨pr,0,none⟩ (J Y ((fv cl cK).getD 0))).setCell ⟨pr,1,none⟩ (J Y ((fv aJ cL).getD 0))).setCell ⟨pr,2,none⟩ (J Y ((fv aK cM).getD 0))).setCell ⟨pr,3,none⟩ (J Y ((fv aQ fu).getD 0)))) L w9) ⟨rfl,rfl,rfl,rfl,trivial⟩ ?_ ?_ ?_
 ·exact FGS.start aN aT
 ·intro D WA Z hD ah hZ T;simp only[RV.Outs,RV.Slots,Nat.reduceAdd]at T
  iterate 5 first
   |(refine Br _ (Bs T (fun γ v L w hl h=>h.stay (by decide) rfl) (fun γ L a w hH hl h9 k9=>⟨_,?_,rfl⟩)) ?_;· simp[JD,go_sem,h9])
   |(refine Br _ (Bs T (fun γ v L w hl h=>h.stay (by decide) rfl) (fun γ L a w hH hl h9 k9=>⟨_,?_,rfl⟩)) ?_;· have hG:=hH.glob.early (Bu hH (Bv (j:=25) ah (by kernel_rfl)) hl);have q0:=hG.at (CA 0 _ rfl).1 na;have q1:=hG.at (CB 0 _ rfl).1 nb;simp[JC]at k9;simp[JD,go_sem,h9,k9,q0,q1])
  refine Br _ (Bw (fun γ L a w hH hl hA=>by have h9:=T γ L a w hH;have k9:=hA;simp[JC]at k9;have hG:=hH.glob.early (Bu hH (Bv (j:=25) (i:=5) ah (by kernel_rfl)) hl);exact⟨gf,#[BO (some ⟨fb,0,none⟩),J Y cl,J Y cK],by simp[go_sem,eg,h9,k9],JA (fY cl cK _ w hG.cell hG.frozen) (by rintro e w2 ⟨rfl,ha⟩;exact⟨_,rfl,rfl,fun j v _ h=>h.keep _,FGS.come hG (by decide) (Bu hH (Bv (j:=25) (i:=5) ah (by kernel_rfl)) hl) hl rfl ha.out⟩)⟩)) ?_
  iterate 5 first
   |(refine Br _ (Bs T (fun γ v L w hl h=>h.stay (by decide) rfl) (fun γ L a w hH hl h9 k9=>⟨_,?_,rfl⟩)) ?_;· simp[JD,go_sem,h9])
   |(refine Br _ (Bs T (fun γ v L w hl h=>h.stay (by decide) rfl) (fun γ L a w hH hl h9 k9=>⟨_,?_,rfl⟩)) ?_;· have hG:=hH.glob.early (Bu hH (Bv (j:=25) ah (by kernel_rfl)) hl);have q0:=hG.at (CA 1 _ rfl).1 na;have q1:=hG.at (CB 1 _ rfl).1 nb;simp[JC]at k9;simp[JD,go_sem,h9,k9,q0,q1])
  refine Br _ (Bw (fun γ L a w hH hl hA=>by have h9:=T γ L a w hH;have k9:=hA;simp[JC]at k9;have hG:=hH.glob.early (Bu hH (Bv (j:=25) (i:=11) ah (by kernel_rfl)) hl);exact⟨gf,#[BO (some ⟨fb,0,none⟩),J Y aJ,J Y cL],by simp[go_sem,eg,h9,k9],JA (fY aJ cL _ w hG.cell hG.frozen) (by rintro e w2 ⟨rfl,ha⟩;exact⟨_,rfl,rfl,fun j v _ h=>h.keep _,FGS.come hG (by decide) (Bu hH (Bv (j:=25) (i:=11) ah (by kernel_rfl)) hl) hl rfl ha.out⟩)⟩)) ?_
  iterate 5 first
   |(refine Br _ (Bs T (fun γ v L w hl h=>h.stay (by decide) rfl) (fun γ L a w hH hl h9 k9=>⟨_,?_,rfl⟩)) ?_;· simp[JD,go_sem,h9])
   |(refine Br _ (Bs T (fun γ v L w hl h=>h.stay (by decide) rfl) (fun γ L a w hH hl h9 k9=>⟨_,?_,rfl⟩)) ?_;· have hG:=hH.glob.early (Bu hH (Bv (j:=25) ah (by kernel_rfl)) hl);have q0:=hG.at (CA 2 _ rfl).1 na;have q1:=hG.at (CB 2 _ rfl).1 nb;simp[JC]at k9;simp[JD,go_sem,h9,k9,q0,q1])
  refine Br _ (Bw (fun γ L a w hH hl hA=>by have h9:=T γ L a w hH;have k9:=hA;simp[JC]at k9;have hG:=hH.glob.early (Bu hH (Bv (j:=25) (i:=17) ah (by kernel_rfl)) hl);exact⟨gf,#[BO (some ⟨fb,0,none⟩),J Y aK,J Y cM],by simp[go_sem,eg,h9,k9],JA (fY aK cM _ w hG.cell hG.frozen) (by rintro e w2 ⟨rfl,ha⟩;exact⟨_,rfl,rfl,fun j v _ h=>h.keep _,FGS.come hG (by decide) (Bu hH (Bv (j:=25) (i:=17) ah (by kernel_rfl)) hl) hl rfl ha.out⟩)⟩)) ?_
  iterate 5 first
   |(refine Br _ (Bs T (fun γ v L w hl h=>h.stay (by decide) rfl) (fun γ L a w hH hl h9 k9=>⟨_,?_,rfl⟩)) ?_;· simp[JD,go_sem,h9])
   |(refine Br _ (Bs T (fun γ v L w hl h=>h.stay (by decide) rfl) (fun γ L a w hH hl h9 k9=>⟨_,?_,rfl⟩)) ?_;· have hG:=hH.glob.early (Bu hH (Bv (j:=25) ah (by kernel_rfl)) hl);have q0:=hG.at (CA 3 _ rfl).1 na;have q1:=hG.at (CB 3 _ rfl).1 nb;simp[JC]at k9;simp[JD,go_sem,h9,k9,q0,q1])
  refine Br _ (Bw (fun γ L a w hH hl hA=>by have h9:=T γ L a w hH;have k9:=hA;simp[JC]at k9;have hG:=hH.glob.early (Bu hH (Bv (j:=25) (i:=23) ah (by kernel_rfl)) hl);exact⟨gf,#[BO (some ⟨fb,0,none⟩),J Y aQ,J Y fu],by simp[go_sem,eg,h9,k9],JA (fY aQ fu _ w hG.cell hG.frozen) (by rintro e w2 ⟨rfl,ha⟩;exact⟨_,rfl,rfl,fun j v _ h=>h.keep _,FGS.come hG (by decide) (Bu hH (Bv (j:=25) (i:=23) ah (by kernel_rfl)) hl) hl rfl ha.out⟩)⟩)) ?_
  (refine Br _ (Bs T (fun γ v L w hl h=>h.stay (by decide) rfl) (fun γ L a w hH hl h9 k9=>⟨_,?_,rfl⟩)) ?_;· simp[JC]at k9;simp[JD,go_sem,h9,k9])
  refine Br _ (Bz (fun γ L a w hH hl hA=>by have h9:=T γ L a w hH;have k9:=hA;simp[JC]at k9;have hG:=hH.glob.early hl;have z0:=hG.at (CR 0 _ rfl).1 nr;have cX:=hG.open (CR 0 _ rfl).1 (CR 0 _ rfl).2 nr;have z1:=hG.at (CR 1 _ rfl).1 nr;have cY:=hG.open (CR 1 _ rfl).1 (CR 1 _ rfl).2 nr;have z2:=hG.at (CR 2 _ rfl).1 nr;have cZ:=hG.open (CR 2 _ rfl).1 (CR 2 _ rfl).2 nr;have z3:=hG.at (CR 3 _ rfl).1 nr;have nI:=hG.open (CR 3 _ rfl).1 (CR 3 _ rfl).2 nr;exact⟨((((w.setCell ⟨pr,0,none⟩ (J Y ((fv cl cK).getD 0))).setCell ⟨pr,1,none⟩ (J Y ((fv aJ cL).getD 0))).setCell ⟨pr,2,none⟩ (J Y ((fv aK cM).getD 0))).setCell ⟨pr,3,none⟩ (J Y ((fv aQ fu).getD 0))),by simp[JD,go_sem,z0,cX,z1,cY,z2,cZ,z3,nI,h9,k9],trivial,fun j v _ h=>h.keep _,FGS.store (S:=fun w=>((((w.setCell ⟨pr,0,none⟩ (J Y ((fv cl cK).getD 0))).setCell ⟨pr,1,none⟩ (J Y ((fv aJ cL).getD 0))).setCell ⟨pr,2,none⟩ (J Y ((fv aK cM).getD 0))).setCell ⟨pr,3,none⟩ (J Y ((fv aQ fu).getD 0)))) hG rfl⟩)) ?_;exact RV.AllDo.nil
 ·intro γ w5 L9 hL aX aD;obtain⟨w8,bi,rfl⟩:=aD.late (hL 25 (by decide));have cE:orL f [(5,(fv cl cK).isNone),(11,(fv aJ cL).isNone),(17,(fv aK cM).isNone),(23,(fv aQ fu).isNone)] L9=(f ||((fv cl cK).isNone ||(fv aJ cL).isNone ||(fv aK cM).isNone ||(fv aQ fu).isNone)):=by unfold orL;simp only[List.any_cons,List.any_nil,hL 5 (by decide),hL 11 (by decide),hL 17 (by decide),hL 23 (by decide),Bool.true_and,Bool.or_false,Bool.or_assoc]
  have a_:BU (After _ _ _ _):=bi.leaves.done bi.cell bi.frozen;rw[cE]at a_;clear bi cE;clear hL aX aD;simp only[RV.putL,Act.put,List.setIfInBounds_toArray,List.set_cons_zero,List.set_cons_succ];have C1:BU (CW w8 pr _):=(CR.leaves a_.out.leaves nr)
  have HL:BU (Leaves ⟨fb,0,none⟩ W _):=aY.out.same a_.out;have eY:=a_.out.cell;have e_:=a_.out.frozen;obtain⟨r0,q0⟩:=C1.out 0 _ rfl;obtain⟨r1,q1⟩:=C1.out 1 _ rfl;obtain⟨r2,q2⟩:=C1.out 2 _ rfl;obtain⟨r3,q3⟩:=C1.out 3 _ rfl;clear C1 a_;go_wp2_with (fail);refine bodyPost_ret (by simp[results,results158,go_sem,r0,r1,r2,r3];try rfl) rfl ?_;refine⟨_,rfl,rfl,((((HL.out.set aB _).set aB _).set aB _).set aB _).done ?_ ?_⟩
  ·simp[go_sem,eY]
  ·simp[go_sem,e_]
theorem Jjg(b:Nat)(f:Bool)(x0 x1 x2 x3 y0 y1 y2 y3:Int)(W:BV)(hc:W.cell? ⟨b,0,none⟩=some (BT f))(hf:W.frozen? ⟨b,0,none⟩=false):
  Cd Tryz.prog 158 #[.func (.func 125) #[BO (some ⟨b,0,none⟩)] #[],B_ #[J Y x0,J Y x1,J Y x2,J Y x3],B_ #[J Y y0,J Y y1,J Y y2,J Y y3]] W fun e W' =>
   ∃ g,e = BZ (B_ #[J Y ((add x0 y0).getD 0),J Y ((add x1 y1).getD 0),J Y ((add x2 y2).getD 0),J Y ((add x3 y3).getD 0)])/\BU (g=(f ||((add x0 y0).isNone ||(add x1 y1).isNone ||(add x2 y2).isNone ||(add x3 y3).isNone)))/\BU (After ⟨b,0,none⟩ g W W'):=
 Jhf 125 (add) b (enters_of func125 (by kernel_rfl) rfl) (fun x y g w h1 h2=>by
  refine JA (Jo9 b 0 g x y w h1 h2) ?_;rintro e w' ⟨v0,g0,rfl,SS,A⟩;obtain⟨rfl,rfl⟩:=SS.out;exact⟨rfl,A⟩) f x0 x1 x2 x3 y0 y1 y2 y3 W hc hf
theorem Jf7(b:Nat)(f:Bool)(x0 x1 x2 x3 y0 y1 y2 y3:Int)(W:BV)(hc:W.cell? ⟨b,0,none⟩=some (BT f))(hf:W.frozen? ⟨b,0,none⟩=false):
  Cd Tryz.prog 158 #[.func (.func 159) #[BO (some ⟨b,0,none⟩)] #[],B_ #[J Y x0,J Y x1,J Y x2,J Y x3],B_ #[J Y y0,J Y y1,J Y y2,J Y y3]] W fun e W' =>
   ∃ g,e = BZ (B_ #[J Y ((sub x0 y0).getD 0),J Y ((sub x1 y1).getD 0),J Y ((sub x2 y2).getD 0),J Y ((sub x3 y3).getD 0)])/\BU (g=(f ||((sub x0 y0).isNone ||(sub x1 y1).isNone ||(sub x2 y2).isNone ||(sub x3 y3).isNone)))/\BU (After ⟨b,0,none⟩ g W W'):=
 Jhf 159 (sub) b (enters_of func159 (by kernel_rfl) rfl) (fun x y g w h1 h2=>by
  refine JA (Jgo b 0 g x y w h1 h2) ?_;rintro e w' ⟨v0,g0,rfl,SS,A⟩;obtain⟨rfl,rfl⟩:=SS.out;exact⟨rfl,A⟩) f x0 x1 x2 x3 y0 y1 y2 y3 W hc hf
theorem Jjd(b:Nat)(f:Bool)(x0 x1 x2 x3 y0 y1 y2 y3:Int)(W:BV)(hc:W.cell? ⟨b,0,none⟩=some (BT f))(hf:W.frozen? ⟨b,0,none⟩=false):
  Cd Tryz.prog 158 #[.func (.func 157) #[BO (some ⟨b,0,none⟩)] #[],B_ #[J Y x0,J Y x1,J Y x2,J Y x3],B_ #[J Y y0,J Y y1,J Y y2,J Y y3]] W fun e W' =>
   ∃ g,e = BZ (B_ #[J Y ((Jw x0 4294967296 y0).getD 0),J Y ((Jw x1 4294967296 y1).getD 0),J Y ((Jw x2 4294967296 y2).getD 0),J Y ((Jw x3 4294967296 y3).getD 0)])/\BU (g=(f ||((Jw x0 4294967296 y0).isNone ||(Jw x1 4294967296 y1).isNone ||(Jw x2 4294967296 y2).isNone ||(Jw x3 4294967296 y3).isNone)))/\BU (After ⟨b,0,none⟩ g W W'):=
 Jhf 157 (fun x y=>Jw x 4294967296 y) b (enters_of func157 (by kernel_rfl) rfl) (fun x y g w h1 h2=>by
  refine JA (Jph b 0 g x y w h1 h2) ?_;rintro e w' ⟨v0,g0,rfl,SS,A⟩;obtain⟨rfl,rfl⟩:=SS.out;exact⟨rfl,A⟩) f x0 x1 x2 x3 y0 y1 y2 y3 W hc hf
end
section
open Go.RowKit Fx
theorem Leaves.own{p:Ce}{W w:BV}(h:Leaves p W w)(v:B7):Leaves p W (w.setCell p v):=by
 refine⟨by simpa [World.setCell] using h.size,fun q hq ak=>?_,fun B w' hb h1 h2=>(h.below B w' hb h1 h2).setCell h1 v,⟨h.kept.1,h.kept.2.1,h.kept.2.2.1,fun i hi ak=>(Below.heap_setCell _ _ _ _ ak).trans (h.kept.2.2.2 i hi ak)⟩,fun hp o ho=>⟨(World.cell?_setCell_other _ _ _ _ (fun e=>ho (by cases p;exact((Addr.mk.inj e).2.1).symm))).trans (h.beside hp o ho).1,by rw[show(w.setCell p v).frozen? ⟨p.block,o,none⟩=w.frozen? ⟨p.block,o,none⟩ by simp[go_sem]];exact(h.beside hp o ho).2⟩⟩;exact⟨(World.cell?_of_block (w:=w) (Below.heap_setCell _ _ _ _ ak)).trans (h.other q hq ak).1,(World.frozen?_of_block (w:=w) (Below.heap_setCell _ _ _ _ ak)).trans (h.other q hq ak).2⟩
theorem Jfs(b off o:Nat)(f g:Bool)(x0 x1 x2:Int)(W:BV)(hc:W.cell? ⟨b,off,none⟩=some (BT f))(hf:W.frozen? ⟨b,off,none⟩=false)(ho:W.cell? ⟨o,0,none⟩=some (BT g)):
  Cd Tryz.prog 122 #[BO (some ⟨b,off,none⟩),BO (some ⟨o,0,none⟩),B_ #[J Y x0,J Y x1,J Y x2]] W fun e W' =>
   e = BZ (B_ #[J Y (cond g 0 x0),J Y (cond g 0 x1),J Y (cond g 0 x2)])/\BU (After ⟨b,off,none⟩ (f||g) W W'):=by
 have m1:b<W.heap.size:=JB _ _ hc;have m2:o<W.heap.size:=JB _ _ ho;have HL:BU _:=Leaves.refl ⟨b,off,none⟩ W;have n1:b≠W.heap.size:=by omega
 have n2:o≠W.heap.size:=by omega
 have n3:W.heap.size≠b:=by omega
 cases g
 ·go_enter func122,ntmps122;go_wp2
  go_returns
  refine⟨rfl,((HL.out.alloc _).alloc _).done ?_ ?_⟩
  ·rw[World.cell?_alloc_past _ _ _ (by rw[JE];omega),World.cell?_alloc_past _ _ _ m1,hc];simp
  ·rw[((Jd _ _).frozen (by rw[JE];show b<_;omega)),((Jd _ _).frozen (show b<_ from m1)),hf]
 ·go_enter func122,ntmps122;go_wp2
  go_returns
  refine⟨rfl,((((HL.out.own _).alloc _).alloc _).alloc _).done ?_ ?_⟩
  ·have e:(W.setCell ⟨b,off,none⟩ (BT true)).cell? ⟨b,off,none⟩=some (BT true):=by simp[go_sem,hc]
   have s:(W.setCell ⟨b,off,none⟩ (BT true)).heap.size=W.heap.size:=by simp[World.setCell]
   rw[World.cell?_alloc_past _ _ _ (by rw[JE,JE,s];omega),World.cell?_alloc_past _ _ _ (by rw[JE,s];omega),World.cell?_alloc_past _ _ _ (by rw[s];omega),e];simp
  ·have e:(W.setCell ⟨b,off,none⟩ (BT true)).frozen? ⟨b,off,none⟩=false:=by simp[go_sem,hf]
   have s:(W.setCell ⟨b,off,none⟩ (BT true)).heap.size=W.heap.size:=by simp[World.setCell]
   rw[((Jd _ _).frozen (by rw[JE,JE,s];show b<_;omega)),((Jd _ _).frozen (by rw[JE,s];show b<_;omega)),((Jd _ _).frozen (by rw[s];exact m1)),e]
theorem Jjx(b off o:Nat)(f g:Bool)(x0 x1 x2 x3:Int)(W:BV)(hc:W.cell? ⟨b,off,none⟩=some (BT f))(hf:W.frozen? ⟨b,off,none⟩=false)(ho:W.cell? ⟨o,0,none⟩=some (BT g)):
  Cd Tryz.prog 169 #[BO (some ⟨b,off,none⟩),BO (some ⟨o,0,none⟩),B_ #[J Y x0,J Y x1,J Y x2,J Y x3]] W fun e W' =>
   e = BZ (B_ #[J Y (cond g 0 x0),J Y (cond g 0 x1),J Y (cond g 0 x2),J Y (cond g 0 x3)])/\BU (After ⟨b,off,none⟩ (f||g) W W'):=by
 have m1:b<W.heap.size:=JB _ _ hc;have m2:o<W.heap.size:=JB _ _ ho;have HL:BU _:=Leaves.refl ⟨b,off,none⟩ W;have n1:b≠W.heap.size:=by omega
 have n2:o≠W.heap.size:=by omega
 have n3:W.heap.size≠b:=by omega
 cases g
 ·go_enter func169,ntmps169;go_wp2
  go_returns
  refine⟨rfl,((HL.out.alloc _).alloc _).done ?_ ?_⟩
  ·rw[World.cell?_alloc_past _ _ _ (by rw[JE];omega),World.cell?_alloc_past _ _ _ m1,hc];simp
  ·rw[((Jd _ _).frozen (by rw[JE];show b<_;omega)),((Jd _ _).frozen (show b<_ from m1)),hf]
 ·go_enter func169,ntmps169;go_wp2
  go_returns
  refine⟨rfl,((((HL.out.own _).alloc _).alloc _).alloc _).done ?_ ?_⟩
  ·have e:(W.setCell ⟨b,off,none⟩ (BT true)).cell? ⟨b,off,none⟩=some (BT true):=by simp[go_sem,hc]
   have s:(W.setCell ⟨b,off,none⟩ (BT true)).heap.size=W.heap.size:=by simp[World.setCell]
   rw[World.cell?_alloc_past _ _ _ (by rw[JE,JE,s];omega),World.cell?_alloc_past _ _ _ (by rw[JE,s];omega),World.cell?_alloc_past _ _ _ (by rw[s];omega),e];simp
  ·have e:(W.setCell ⟨b,off,none⟩ (BT true)).frozen? ⟨b,off,none⟩=false:=by simp[go_sem,hf]
   have s:(W.setCell ⟨b,off,none⟩ (BT true)).heap.size=W.heap.size:=by simp[World.setCell]
   rw[((Jd _ _).frozen (by rw[JE,JE,s];show b<_;omega)),((Jd _ _).frozen (by rw[JE,s];show b<_;omega)),((Jd _ _).frozen (by rw[s];exact m1)),e]
theorem Jp4(b off o:Nat)(f g:Bool)(x0 x1 x2 x3 x4 x5 x6 x7 x8:Int)(W:BV)(hc:W.cell? ⟨b,off,none⟩=some (BT f))(hf:W.frozen? ⟨b,off,none⟩=false)(ho:W.cell? ⟨o,0,none⟩=some (BT g)):
  Cd Tryz.prog 160 #[BO (some ⟨b,off,none⟩),BO (some ⟨o,0,none⟩),B_ #[J Y x0,J Y x1,J Y x2,J Y x3,J Y x4,J Y x5,J Y x6,J Y x7,J Y x8]] W fun e W' =>
   e = BZ (B_ #[J Y (cond g 0 x0),J Y (cond g 0 x1),J Y (cond g 0 x2),J Y (cond g 0 x3),J Y (cond g 0 x4),J Y (cond g 0 x5),J Y (cond g 0 x6),J Y (cond g 0 x7),J Y (cond g 0 x8)])/\BU (After ⟨b,off,none⟩ (f||g) W W'):=by
 have m1:b<W.heap.size:=JB _ _ hc;have m2:o<W.heap.size:=JB _ _ ho;have HL:BU _:=Leaves.refl ⟨b,off,none⟩ W;have n1:b≠W.heap.size:=by omega
 have n2:o≠W.heap.size:=by omega
 have n3:W.heap.size≠b:=by omega
 cases g
 ·go_enter func160,ntmps160;go_wp2
  go_returns
  refine⟨rfl,((HL.out.alloc _).alloc _).done ?_ ?_⟩
  ·rw[World.cell?_alloc_past _ _ _ (by rw[JE];omega),World.cell?_alloc_past _ _ _ m1,hc];simp
  ·rw[((Jd _ _).frozen (by rw[JE];show b<_;omega)),((Jd _ _).frozen (show b<_ from m1)),hf]
 ·go_enter func160,ntmps160;go_wp2
  go_returns
  refine⟨rfl,((((HL.out.own _).alloc _).alloc _).alloc _).done ?_ ?_⟩
  ·have e:(W.setCell ⟨b,off,none⟩ (BT true)).cell? ⟨b,off,none⟩=some (BT true):=by simp[go_sem,hc]
   have s:(W.setCell ⟨b,off,none⟩ (BT true)).heap.size=W.heap.size:=by simp[World.setCell]
   rw[World.cell?_alloc_past _ _ _ (by rw[JE,JE,s];omega),World.cell?_alloc_past _ _ _ (by rw[JE,s];omega),World.cell?_alloc_past _ _ _ (by rw[s];omega),e];simp
  ·have e:(W.setCell ⟨b,off,none⟩ (BT true)).frozen? ⟨b,off,none⟩=false:=by simp[go_sem,hf]
   have s:(W.setCell ⟨b,off,none⟩ (BT true)).heap.size=W.heap.size:=by simp[World.setCell]
   rw[((Jd _ _).frozen (by rw[JE,JE,s];show b<_;omega)),((Jd _ _).frozen (by rw[JE,s];show b<_;omega)),((Jd _ _).frozen (by rw[s];exact m1)),e]
def Jco(f:Bool)(a b c:Option Int)(x y z:Int)(g:Bool):Prop:=
 x=cond (a.isNone||b.isNone||c.isNone) 0 (a.getD 0)/\y=cond (a.isNone||b.isNone||c.isNone) 0 (b.getD 0)/\z=cond (a.isNone||b.isNone||c.isNone) 0 (c.getD 0)/\g=(f ||(a.isNone||b.isNone||c.isNone))
theorem Jrs{f g:Bool}{a b c:Option Int}(h:g=(false ||(a.isNone||b.isNone||c.isNone))):Jco f a b c (cond g 0 (a.getD 0)) (cond g 0 (b.getD 0)) (cond g 0 (c.getD 0)) (f||g):=by
 rw[Bool.false_or]at h;subst h;exact⟨rfl,rfl,rfl,rfl⟩
theorem Jnd{b off:Nat}{g:Bool}{w w':BV}(h:B9 w.heap.size w w')(hc:w.cell? ⟨b,off,none⟩=some (BT g))(hf:w.frozen? ⟨b,off,none⟩=false):After ⟨b,off,none⟩ (g||false) w w':=Jb5 (o:=some 0) h hc hf
theorem Js6{w:BV}{b:Nat}{x y z:Int}(h0:w.cell? ⟨b,0,none⟩=some (J Y x))(h1:w.cell? ⟨b,1,none⟩=some (J Y y))(h2:w.cell? ⟨b,2,none⟩=some (J Y z)):Jc2 w (some ⟨b,0,none⟩) [x,y,z]:=
 Or.inr ⟨b,0,rfl,fun k hk=>by
  match k,hk with
  | 0,_=>exact h0
  | 1,_=>exact h1
  | 2,_=>exact h2⟩
theorem Jia(b off:Nat)(f:Bool)(x0 x1 x2 y0 y1 y2:Int)(W:BV)(hc:W.cell? ⟨b,off,none⟩=some (BT f))(hf:W.frozen? ⟨b,off,none⟩=false):
  Cd Tryz.prog 162 #[BO (some ⟨b,off,none⟩),B_ #[J Y x0,J Y x1,J Y x2],B_ #[J Y y0,J Y y1,J Y y2]] W fun e W'=>∃ v g,e = BZ (J Y v)/\BU (Ja1 f (dot [x0,x1,x2] [y0,y1,y2]) v g)/\BU (After ⟨b,off,none⟩ g W W'):=by
 have m1:b<W.heap.size:=JB _ _ hc;have HC:BU _:=hc;have HF:BU _:=hf;clear hc hf;go_enter func162,ntmps162;go_wp2_with (fail);refine(Jd2 b off f [x0,x1,x2] [y0,y1,y2] _ _ 3 3 _ (by rw[World.cell?_alloc_past _ _ _ (by simp;omega),World.cell?_alloc_past _ _ _ (by simp;omega),World.cell?_alloc_past _ _ _ (by simp;omega),World.cell?_alloc_past _ _ _ m1];exact HC.out) (by rw[((Jd _ _).frozen (by simp;omega)),((Jd _ _).frozen (by simp;omega)),((Jd _ _).frozen (by simp;omega)),((Jd _ _).frozen m1)];exact HF.out) (by simp) (by simp) (Js6 (by simp[go_sem]) (by simp[go_sem]) (by simp[go_sem])) (Js6 (by simp[go_sem]) (by simp[go_sem]) (by simp[go_sem]))).mono ?_;rintro e W1 ⟨v,g,rfl,S,A⟩;have HA:BU (After ⟨b,off,none⟩ g W W1):=(((((Leaves.refl _ _).alloc _).alloc _).alloc _).alloc _).same A.out |>.done A.out.cell A.out.frozen
 clear A;go_wp2_with (fail);go_ret;exact⟨v,g,rfl,S,HA⟩
theorem Jrk(b off:Nat)(f:Bool)(x0 x1 x2:Int)(W:BV)(hc:W.cell? ⟨b,off,none⟩=some (BT f))(hf:W.frozen? ⟨b,off,none⟩=false):
  Cd Tryz.prog 118 #[BO (some ⟨b,off,none⟩),B_ #[J Y x0,J Y x1,J Y x2]] W fun e W'=>∃ v g,e = BZ (J Y v)/\BU (Ja1 f (Jah [x0,x1,x2]) v g)/\BU (After ⟨b,off,none⟩ g W W'):=by
 have m1:b<W.heap.size:=JB _ _ hc;have HC:BU _:=hc;have HF:BU _:=hf;clear hc hf;go_enter func118,ntmps118;go_wp2_with (fail);have N:=Jp7 b off f x0 x1 x2 (W.alloc (BP #[J Y x0,J Y x1,J Y x2] 27)) (by rw[World.cell?_alloc_past _ _ _ m1];exact HC.out) (by rw[((Jd _ _).frozen m1)];exact HF.out);simp only[JE]at N;refine N.mono ?_;rintro e W1 ⟨v,g,rfl,S,A⟩;have HA:BU (After ⟨b,off,none⟩ g W W1):=(((Leaves.refl _ _).alloc _).same A.out).done A.out.cell A.out.frozen;clear A N;go_wp2_with (fail);go_ret;exact⟨v,g,rfl,S,HA⟩
theorem Jn4(n:Int)(W:BV):Cd Tryz.prog 124 #[J Y n] W fun e W'=>e = BZ (B_ #[J Y n,J Y n,J Y n])/\BU (B9 W.heap.size W W'):=by
 go_enter func124,ntmps124;go_wp2
 go_returns
 exact⟨rfl,by show B9 _ _ _;go_grown⟩
theorem Jrr(b off:Nat)(f:Bool)(x0 x1 x2 y0 y1 y2:Int)(W:BV)(hc:W.cell? ⟨b,off,none⟩=some (BT f))(hf:W.frozen? ⟨b,off,none⟩=false):
  Cd Tryz.prog 56 #[BO (some ⟨b,off,none⟩),B_ #[J Y x0,J Y x1,J Y x2],B_ #[J Y y0,J Y y1,J Y y2]] W fun e W'=>∃ v0 v1 v2 g,e = BZ (B_ #[J Y v0,J Y v1,J Y v2])/\BU (Jco f (add x0 y0) (add x1 y1) (add x2 y2) v0 v1 v2 g)/\BU (After ⟨b,off,none⟩ g W W'):=by
 have m1:b<W.heap.size:=JB _ _ hc;have HC:BU _:=hc;have HF:BU _:=hf;clear hc hf;go_enter func56,ntmps56;go_wp2_with (fail);refine(Jkt (W.heap.size+1+1+1) false _ _ _ _ _ _ _ (by simp[go_sem]) (by simp[go_sem])).mono ?_;rintro e W1 ⟨g,rfl,SG,A⟩;have hp:=A.out.cellOf (q:=⟨b,off,none⟩) (v:=BT f) (by rw[World.cell?_alloc_past _ _ _ (by simp;omega),World.cell?_alloc_past _ _ _ (by simp;omega),World.cell?_alloc_past _ _ _ (by simp;omega),World.cell?_alloc_past _ _ _ m1];exact HC.out) (by simp;omega);have bg:=A.out.frozenOf (q:=⟨b,off,none⟩) (v:=BT f) (by rw[World.cell?_alloc_past _ _ _ (by simp;omega),World.cell?_alloc_past _ _ _ (by simp;omega),World.cell?_alloc_past _ _ _ (by simp;omega),World.cell?_alloc_past _ _ _ m1];exact HC.out) (by rw[((Jd _ _).frozen (by simp;omega)),((Jd _ _).frozen (by simp;omega)),((Jd _ _).frozen (by simp;omega)),((Jd _ _).frozen m1)];exact HF.out) (by simp;omega);have HL:BU (Leaves ⟨b,off,none⟩ W W1):=(((((Leaves.refl _ _).alloc _).alloc _).alloc _).alloc _).after A.out (by simp;omega);have ho:=A.out.cell;have r0:=A.out.cellOf (q:=⟨W.heap.size+1+1,0,none⟩) (v:=J Y 0) (by simp[go_sem]) (by simp);have r1:=A.out.cellOf (q:=⟨W.heap.size+1+1,1,none⟩) (v:=J Y 0) (by simp[go_sem]) (by simp);have r2:=A.out.cellOf (q:=⟨W.heap.size+1+1,2,none⟩) (v:=J Y 0) (by simp[go_sem]) (by simp);have f0:=A.out.frozenOf (q:=⟨W.heap.size+1+1,0,none⟩) (v:=J Y 0) (by simp[go_sem]) (by simp[go_sem]) (by simp);have f1:=A.out.frozenOf (q:=⟨W.heap.size+1+1,1,none⟩) (v:=J Y 0) (by simp[go_sem]) (by simp[go_sem]) (by simp);have f2:=A.out.frozenOf (q:=⟨W.heap.size+1+1,2,none⟩) (v:=J Y 0) (by simp[go_sem]) (by simp[go_sem]) (by simp);clear A HC HF;go_wp2_with (fail);refine(Jfs b off (W.heap.size+1+1+1) f g _ _ _ W1 hp bg ho).mono ?_;rintro e W2 ⟨rfl,A⟩;have bL:BU (Leaves ⟨b,off,none⟩ W W2):=HL.out.same A.out;have hp:=A.out.cell;have bg:=A.out.frozen;have f0:=A.out.frozenOf r0 f0 (by simp;omega);have f1:=A.out.frozenOf r1 f1 (by simp;omega);have f2:=A.out.frozenOf r2 f2 (by simp;omega);have r0:=A.out.cellOf r0 (by simp;omega);have r1:=A.out.cellOf r1 (by simp;omega);have r2:=A.out.cellOf r2 (by simp;omega);have n1:b≠W.heap.size+1+1:=by omega
 have n2:W.heap.size+1+1≠b:=by omega
 clear A HL;go_wp2_with (fail);refine bodyPost_ret (by simp[results,results56,go_sem,r0,r1,r2];try rfl) rfl ?_;refine⟨_,_,_,_,rfl,Jrs SG.out,(((bL.out.set (by simp;omega) _).set (by simp;omega) _).set (by simp;omega) _).done ?_ ?_⟩
 ·simp[go_sem,hp]
 ·simp[go_sem,bg]
theorem Jj3{f:Bool}{a b c:Option Int}{bd:Bool}(hb:bd=(a.isNone ||(b.isNone||c.isNone))):Jco f a b c (cond bd 0 (a.getD 0)) (cond bd 0 (b.getD 0)) (cond bd 0 (c.getD 0)) (f||bd):=by
 rw[<- Bool.or_assoc]at hb;rw[hb];exact⟨rfl,rfl,rfl,rfl⟩
def Jay(b off:Nat)(f:Bool)(pm pa pr po:Nat)(m0 m1 m2 m3 m4 m5 m6 m7 m8 x0 x1 x2:Int)(W U:BV):Bool:=false ||([(4,(dot [m0,m1,m2] [x0,x1,x2]).isNone),(8,(dot [m3,m4,m5] [x0,x1,x2]).isNone),(12,(dot [m6,m7,m8] [x0,x1,x2]).isNone)]:List (Nat × Bool)).any (·.2)
def Jfo(b off:Nat)(f:Bool)(pm pa pr po:Nat)(m0 m1 m2 m3 m4 m5 m6 m7 m8 x0 x1 x2:Int)(W U:BV):Nat->Shape
 | 0=>.is (BO (some ⟨b,off,none⟩))
 | 1=>.is (BO (some ⟨pm,0,none⟩))
 | 2=>.is (B_ #[J Y m0,J Y m1,J Y m2])
 | 3=>.is (B_ #[J Y x0,J Y x1,J Y x2])
 | 4=>.is (J Y ((dot [m0,m1,m2] [x0,x1,x2]).getD 0))
 | 5=>.is (BO (some ⟨pm,3,none⟩))
 | 6=>.is (B_ #[J Y m3,J Y m4,J Y m5])
 | 7=>.is (B_ #[J Y x0,J Y x1,J Y x2])
 | 8=>.is (J Y ((dot [m3,m4,m5] [x0,x1,x2]).getD 0))
 | 9=>.is (BO (some ⟨pm,6,none⟩))
 | 10=>.is (B_ #[J Y m6,J Y m7,J Y m8])
 | 11=>.is (B_ #[J Y x0,J Y x1,J Y x2])
 | 12=>.is (J Y ((dot [m6,m7,m8] [x0,x1,x2]).getD 0))
 | 13=>.is (B_ #[J Y ((dot [m0,m1,m2] [x0,x1,x2]).getD 0),J Y ((dot [m3,m4,m5] [x0,x1,x2]).getD 0),J Y ((dot [m6,m7,m8] [x0,x1,x2]).getD 0)])
 | 14=>.is (B_ #[J Y (cond (Jay b off f pm pa pr po m0 m1 m2 m3 m4 m5 m6 m7 m8 x0 x1 x2 W U) 0 ((dot [m0,m1,m2] [x0,x1,x2]).getD 0)),J Y (cond (Jay b off f pm pa pr po m0 m1 m2 m3 m4 m5 m6 m7 m8 x0 x1 x2 W U) 0 ((dot [m3,m4,m5] [x0,x1,x2]).getD 0)),J Y (cond (Jay b off f pm pa pr po m0 m1 m2 m3 m4 m5 m6 m7 m8 x0 x1 x2 W U) 0 ((dot [m6,m7,m8] [x0,x1,x2]).getD 0))])
 | 15=>.ptr
 | _=>.ptr
def Jp(b off:Nat)(f:Bool)(pm pa pr po:Nat)(m0 m1 m2 m3 m4 m5 m6 m7 m8 x0 x1 x2:Int)(W U:BV):Plan where
 W:=W
 N:=U.heap.size
 p:=⟨b,off,none⟩
 fl:=⟨po,0,none⟩
 g0:=false
 bad:=Jay b off f pm pa pr po m0 m1 m2 m3 m4 m5 m6 m7 m8 x0 x1 x2 W U
 f:=f
 calls:=[(4,(dot [m0,m1,m2] [x0,x1,x2]).isNone),(8,(dot [m3,m4,m5] [x0,x1,x2]).isNone),(12,(dot [m6,m7,m8] [x0,x1,x2]).isNone)]
 tl:=14
 st:=15
 r:=pr
 res:=[J Y (cond (Jay b off f pm pa pr po m0 m1 m2 m3 m4 m5 m6 m7 m8 x0 x1 x2 W U) 0 ((dot [m0,m1,m2] [x0,x1,x2]).getD 0)),J Y (cond (Jay b off f pm pa pr po m0 m1 m2 m3 m4 m5 m6 m7 m8 x0 x1 x2 W U) 0 ((dot [m3,m4,m5] [x0,x1,x2]).getD 0)),J Y (cond (Jay b off f pm pa pr po m0 m1 m2 m3 m4 m5 m6 m7 m8 x0 x1 x2 W U) 0 ((dot [m6,m7,m8] [x0,x1,x2]).getD 0))]
 fixed:=[(⟨pm,0,none⟩,J Y m0),
  (⟨pm,1,none⟩,J Y m1),
  (⟨pm,2,none⟩,J Y m2),
  (⟨pm,3,none⟩,J Y m3),
  (⟨pm,4,none⟩,J Y m4),
  (⟨pm,5,none⟩,J Y m5),
  (⟨pm,6,none⟩,J Y m6),
  (⟨pm,7,none⟩,J Y m7),
  (⟨pm,8,none⟩,J Y m8),
  (⟨pa,0,none⟩,J Y x0),
  (⟨pa,1,none⟩,J Y x1),
  (⟨pa,2,none⟩,J Y x2)]
 made:=[]
theorem Jk3(b off:Nat)(f:Bool)(pm pa pr po:Nat)(m0 m1 m2 m3 m4 m5 m6 m7 m8 x0 x1 x2:Int)(W U:BV):((Jp b off f pm pa pr po m0 m1 m2 m3 m4 m5 m6 m7 m8 x0 x1 x2 W U).calls.map (·.1)).Nodup:=of_decide_eq_true rfl
theorem Jjn(b off:Nat)(f:Bool)(pm pa pr po:Nat)(m0 m1 m2 m3 m4 m5 m6 m7 m8 x0 x1 x2:Int)(W U:BV):((Jp b off f pm pa pr po m0 m1 m2 m3 m4 m5 m6 m7 m8 x0 x1 x2 W U).bad=true->(Jp b off f pm pa pr po m0 m1 m2 m3 m4 m5 m6 m7 m8 x0 x1 x2 W U).g0=true \/ ∃ c∈(Jp b off f pm pa pr po m0 m1 m2 m3 m4 m5 m6 m7 m8 x0 x1 x2 W U).calls,c.2=true)/\∀ c∈(Jp b off f pm pa pr po m0 m1 m2 m3 m4 m5 m6 m7 m8 x0 x1 x2 W U).calls,c.2=true->(Jp b off f pm pa pr po m0 m1 m2 m3 m4 m5 m6 m7 m8 x0 x1 x2 W U).bad=true:=
 Jc9 _ rfl
theorem Jji(b off:Nat)(f:Bool)(m0 m1 m2 m3 m4 m5 m6 m7 m8 x0 x1 x2:Int)(W:BV)(hc:W.cell? ⟨b,off,none⟩=some (BT f))(hf:W.frozen? ⟨b,off,none⟩=false):
  Cd Tryz.prog 100 #[BO (some ⟨b,off,none⟩),B_ #[J Y m0,J Y m1,J Y m2,J Y m3,J Y m4,J Y m5,J Y m6,J Y m7,J Y m8],B_ #[J Y x0,J Y x1,J Y x2]] W fun e W'=>∃ v0 v1 v2 g,e = BZ (B_ #[J Y v0,J Y v1,J Y v2])/\BU (Jco f (dot [m0,m1,m2] [x0,x1,x2]) (dot [m3,m4,m5] [x0,x1,x2]) (dot [m6,m7,m8] [x0,x1,x2]) v0 v1 v2 g)/\BU (After ⟨b,off,none⟩ g W W'):=by
 have aO:b<W.heap.size:=JB _ _ hc;go_enter func100,ntmps100;go_wp2_with (fail);obtain⟨U,hU⟩:∃ U,U=((((W.alloc (BP #[J Y m0,J Y m1,J Y m2,J Y m3,J Y m4,J Y m5,J Y m6,J Y m7,J Y m8] 105)).alloc (BP #[J Y x0,J Y x1,J Y x2] 27)).alloc (BP #[J Y 0,J Y 0,J Y 0] 27)).alloc (BP #[BT false] 47)):=⟨_,rfl⟩
 have pV:U.heap.size=W.heap.size+4:=by rw[hU];simp
 have HL:BU (Leaves ⟨b,off,none⟩ W U):=by show Leaves _ _ _;rw[hU];exact(((((Leaves.refl _ _).alloc _).alloc _).alloc _).alloc _)
 have hp:U.cell? ⟨b,off,none⟩=some (BT f):=(by rw[hU,World.cell?_alloc_past _ _ _ (by simp;omega),World.cell?_alloc_past _ _ _ (by simp;omega),World.cell?_alloc_past _ _ _ (by simp;omega),World.cell?_alloc_past _ _ _ aO];exact hc)
 have bg:U.frozen? ⟨b,off,none⟩=false:=by rw[hU,((Jd _ _).frozen (by simp;omega)),((Jd _ _).frozen (by simp;omega)),((Jd _ _).frozen (by simp;omega)),((Jd _ _).frozen aO)];exact hf
 have ho:U.cell? ⟨W.heap.size+1+1+1,0,none⟩=some (BT false):=by rw[hU];simp[go_sem]
 have aH:U.frozen? ⟨W.heap.size+1+1+1,0,none⟩=false:=by rw[hU];simp[go_sem]
 have fz:U.cell? ⟨W.heap.size,0,none⟩=some (J Y m0):=by rw[hU];simp[go_sem]
 have fA:U.cell? ⟨W.heap.size,1,none⟩=some (J Y m1):=by rw[hU];simp[go_sem]
 have fB:U.cell? ⟨W.heap.size,2,none⟩=some (J Y m2):=by rw[hU];simp[go_sem]
 have nJ:U.cell? ⟨W.heap.size,3,none⟩=some (J Y m3):=by rw[hU];simp[go_sem]
 have uk:U.cell? ⟨W.heap.size,4,none⟩=some (J Y m4):=by rw[hU];simp[go_sem]
 have ul:U.cell? ⟨W.heap.size,5,none⟩=some (J Y m5):=by rw[hU];simp[go_sem]
 have um:U.cell? ⟨W.heap.size,6,none⟩=some (J Y m6):=by rw[hU];simp[go_sem]
 have uq:U.cell? ⟨W.heap.size,7,none⟩=some (J Y m7):=by rw[hU];simp[go_sem]
 have ur:U.cell? ⟨W.heap.size,8,none⟩=some (J Y m8):=by rw[hU];simp[go_sem]
 have kB:U.cell? ⟨W.heap.size+1,0,none⟩=some (J Y x0):=by rw[hU];simp[go_sem]
 have kC:U.cell? ⟨W.heap.size+1,1,none⟩=some (J Y x1):=by rw[hU];simp[go_sem]
 have kD:U.cell? ⟨W.heap.size+1,2,none⟩=some (J Y x2):=by rw[hU];simp[go_sem]
 have bN:U.cell? ⟨W.heap.size+1+1,0,none⟩=some (J Y 0):=by rw[hU];simp[go_sem]
 have dt:U.frozen? ⟨W.heap.size+1+1,0,none⟩=false:=by rw[hU];simp[go_sem]
 have bO:U.cell? ⟨W.heap.size+1+1,1,none⟩=some (J Y 0):=by rw[hU];simp[go_sem]
 have du:U.frozen? ⟨W.heap.size+1+1,1,none⟩=false:=by rw[hU];simp[go_sem]
 have bP:U.cell? ⟨W.heap.size+1+1,2,none⟩=some (J Y 0):=by rw[hU];simp[go_sem]
 have dv:U.frozen? ⟨W.heap.size+1+1,2,none⟩=false:=by rw[hU];simp[go_sem]
 rw[<- hU];clear hU hc hf;obtain⟨pm,cS⟩:∃ p,p=W.heap.size:=⟨_,rfl⟩
 obtain⟨pa,aU⟩:∃ p,p=W.heap.size+1:=⟨_,rfl⟩
 obtain⟨pr,aB⟩:∃ p,p=W.heap.size+1+1:=⟨_,rfl⟩
 obtain⟨po,aV⟩:∃ p,p=W.heap.size+1+1+1:=⟨_,rfl⟩
 rw[<- aV]at ho aH;rw[<- aV];rw[<- aB]at bN dt bO du bP dv;rw[<- aB];rw[<- aU]at kB kC kD;rw[<- aU];rw[<- cS]at fz fA fB nJ uk ul um uq ur;rw[<- cS];have q0:W.heap.size<=pm:=by omega
 have q1:pm<pa:=by omega
 have q2:pa<pr:=by omega
 have q3:pr<po:=by omega
 have q9:po<U.heap.size:=by omega
 clear cS aU aB aV pV;have hπ:(Jp b off f pm pa pr po m0 m1 m2 m3 m4 m5 m6 m7 m8 x0 x1 x2 W U).Good:=by
  refine Jgm ?_ ?_ ?_ ?_ ?_ ?_ ?_ (Jjn b off f pm pa pr po m0 m1 m2 m3 m4 m5 m6 m7 m8 x0 x1 x2 W U).1 (Jjn b off f pm pa pr po m0 m1 m2 m3 m4 m5 m6 m7 m8 x0 x1 x2 W U).2
  ·show W.heap.size<=pr;omega
  ·show pr<U.heap.size;omega
  ·exact Or.inr (by show W.heap.size<=po;omega)
  ·show po<U.heap.size;omega
  ·show po≠pr;omega
  ·show b<W.heap.size;omega
  ·intro c hc;simp only[Jp,List.mem_cons,List.not_mem_nil,or_false]at hc;rcases hc with rfl | rfl | rfl | rfl | rfl | rfl | rfl | rfl | rfl | rfl | rfl | rfl <;> (show _<U.heap.size/\_≠po/\_≠b/\_≠pr) <;> (dsimp only) <;> omega
 refine region_by (Jl (Jfo b off f pm pa pr po m0 m1 m2 m3 m4 m5 m6 m7 m8 x0 x1 x2 W U)) (Glob (Jp b off f pm pa pr po m0 m1 m2 m3 m4 m5 m6 m7 m8 x0 x1 x2 W U)) (by kernel_rfl) (by kernel_rfl) (by kernel_rfl) (by kernel_rfl) (fun _=>0) ?_ ?_ ?_
 ·refine⟨?_,?_,?_,?_,?_,?_,(fun _ _ h=>by cases h),(fun _ _ _ _ h=>by cases h)⟩
  ·exact HL.out.drew
  ·exact Nat.le_refl _
  ·exact⟨false,ho,aH,fun h=>by show Jay b off f pm pa pr po m0 m1 m2 m3 m4 m5 m6 m7 m8 x0 x1 x2 W U=true;simp[Jay,h],fun h=>h,fun _ _ h=>by cases h⟩
  ·refine Or.inr ⟨?_,bg⟩
   show U.cell? ⟨b,off,none⟩=some (BT (f ||(false&&Jay b off f pm pa pr po m0 m1 m2 m3 m4 m5 m6 m7 m8 x0 x1 x2 W U)))
   rw[Bool.false_and,Bool.or_false];exact hp
  ·refine⟨[J Y 0,J Y 0,J Y 0],rfl,?_,fun h=>by cases h⟩;intro k v hk
   match k,hk with
   | 0,hk=>simp at hk;subst hk;exact⟨bN,dt⟩
   | 1,hk=>simp at hk;subst hk;exact⟨bO,du⟩
   | 2,hk=>simp at hk;subst hk;exact⟨bP,dv⟩
  ·intro c hc;simp only[Jp,List.mem_cons,List.not_mem_nil,or_false]at hc;rcases hc with rfl | rfl | rfl | rfl | rfl | rfl | rfl | rfl | rfl | rfl | rfl | rfl <;> assumption
 ·generalize hD:Jam _=D;generalize hA:Jai _=A;generalize hZ:Act.mk _ _=Z;have d0:D 0=some 8:=by rw[<- hD];rfl
  have d1:D 1=some 9:=by rw[<- hD];rfl
  have d2:D 2=some 10:=by rw[<- hD];rfl
  have d3:D 3=some 11:=by rw[<- hD];rfl
  have d4:D 4=some 12:=by rw[<- hD];rfl
  have d5:D 5=some 13:=by rw[<- hD];rfl
  have d6:D 6=some 14:=by rw[<- hD];rfl
  have d7:D 7=some 15:=by rw[<- hD];rfl
  have d8:D 8=some 16:=by rw[<- hD];rfl
  have d9:D 9=some 17:=by rw[<- hD];rfl
  have ik:D 10=some 18:=by rw[<- hD];rfl
  have nK:D 11=some 19:=by rw[<- hD];rfl
  have il:D 12=some 20:=by rw[<- hD];rfl
  have ut:D 13=some 21:=by rw[<- hD];rfl
  have uu:D 14=some 22:=by rw[<- hD];rfl
  have R0:∀(γ:Nat->Nat) (L:Nat->Bool) (a:Cf) (w:BV),Held D A (Jl (Jfo b off f pm pa pr po m0 m1 m2 m3 m4 m5 m6 m7 m8 x0 x1 x2 W U)) (Glob (Jp b off f pm pa pr po m0 m1 m2 m3 m4 m5 m6 m7 m8 x0 x1 x2 W U)) Z γ L a w->a.tmps[0]?=some (BO (some ⟨b,off,none⟩)):=fun γ L a w hH=>(hH.rest 0 (by rw[<- hD];exact J6 (by kernel_rfl))).trans (by rw[<- hZ];rfl);have R4:∀(γ:Nat->Nat) (L:Nat->Bool) (a:Cf) (w:BV),Held D A (Jl (Jfo b off f pm pa pr po m0 m1 m2 m3 m4 m5 m6 m7 m8 x0 x1 x2 W U)) (Glob (Jp b off f pm pa pr po m0 m1 m2 m3 m4 m5 m6 m7 m8 x0 x1 x2 W U)) Z γ L a w->a.tmps[4]?=some (BO (some ⟨pm,0,none⟩)):=fun γ L a w hH=>(hH.rest 4 (by rw[<- hD];exact J6 (by kernel_rfl))).trans (by rw[<- hZ];rfl);have R5:∀(γ:Nat->Nat) (L:Nat->Bool) (a:Cf) (w:BV),Held D A (Jl (Jfo b off f pm pa pr po m0 m1 m2 m3 m4 m5 m6 m7 m8 x0 x1 x2 W U)) (Glob (Jp b off f pm pa pr po m0 m1 m2 m3 m4 m5 m6 m7 m8 x0 x1 x2 W U)) Z γ L a w->a.tmps[5]?=some (BO (some ⟨pa,0,none⟩)):=fun γ L a w hH=>(hH.rest 5 (by rw[<- hD];exact J6 (by kernel_rfl))).trans (by rw[<- hZ];rfl);have R6:∀(γ:Nat->Nat) (L:Nat->Bool) (a:Cf) (w:BV),Held D A (Jl (Jfo b off f pm pa pr po m0 m1 m2 m3 m4 m5 m6 m7 m8 x0 x1 x2 W U)) (Glob (Jp b off f pm pa pr po m0 m1 m2 m3 m4 m5 m6 m7 m8 x0 x1 x2 W U)) Z γ L a w->a.tmps[6]?=some (BO (some ⟨pr,0,none⟩)):=fun γ L a w hH=>(hH.rest 6 (by rw[<- hD];exact J6 (by kernel_rfl))).trans (by rw[<- hZ];rfl);have R7:∀(γ:Nat->Nat) (L:Nat->Bool) (a:Cf) (w:BV),Held D A (Jl (Jfo b off f pm pa pr po m0 m1 m2 m3 m4 m5 m6 m7 m8 x0 x1 x2 W U)) (Glob (Jp b off f pm pa pr po m0 m1 m2 m3 m4 m5 m6 m7 m8 x0 x1 x2 W U)) Z γ L a w->a.tmps[7]?=some (BO (some ⟨po,0,none⟩)):=fun γ L a w hH=>(hH.rest 7 (by rw[<- hD];exact J6 (by kernel_rfl))).trans (by rw[<- hZ];rfl);have nL:A 13 4:=by rw[<- hA];exact⟨_,rfl,⟨4,.data⟩,by simp,rfl,rfl⟩
  have nM:A 13 8:=by rw[<- hA];exact⟨_,rfl,⟨8,.data⟩,by simp,rfl,rfl⟩
  have lM:A 13 12:=by rw[<- hA];exact⟨_,rfl,⟨12,.data⟩,by simp,rfl,rfl⟩
  clear hD hA hZ;refine AllDo.cons 0 rfl (J2 _ rfl rfl (fun γ L a w hH hA=>by have e1:=R0 γ L a w hH;simp[JD,go_sem,e1])) ?_;refine AllDo.cons 1 rfl (J2 _ rfl rfl (fun γ L a w hH hA=>by have e1:=R4 γ L a w hH;simp[JD,go_sem,e1])) ?_;refine AllDo.cons 2 rfl (J2 _ rfl rfl (fun γ L a w hH hA=>by have e1:=hH.at d1 rfl (hA ⟨1,.data⟩ (by simp) rfl);have e2:=hH.glob.fix (⟨pm,0,none⟩,J Y m0) (by simp[Jp]);have e3:=hH.glob.fix (⟨pm,1,none⟩,J Y m1) (by simp[Jp]);have e4:=hH.glob.fix (⟨pm,2,none⟩,J Y m2) (by simp[Jp]);simp[JD,go_sem,e1,e2,e3,e4])) ?_;refine AllDo.cons 3 rfl (J2 _ rfl rfl (fun γ L a w hH hA=>by have e1:=R5 γ L a w hH;have e2:=hH.glob.fix (⟨pa,0,none⟩,J Y x0) (by simp[Jp]);have e3:=hH.glob.fix (⟨pa,1,none⟩,J Y x1) (by simp[Jp]);have e4:=hH.glob.fix (⟨pa,2,none⟩,J Y x2) (by simp[Jp]);simp[JD,go_sem,e1,e2,e3,e4])) ?_;refine AllDo.cons 4 rfl (Jbc hπ _ ((dot [m0,m1,m2] [x0,x1,x2]).isNone) rfl (by simp[Jp]) (Jbf (Jk3 b off f pm pa pr po m0 m1 m2 m3 m4 m5 m6 m7 m8 x0 x1 x2 W U) (by simp[Jp])) rfl (fun γ L a w hH hA g hg hz=>by have e1:=R7 γ L a w hH;have e2:=hH.at d2 rfl (hA ⟨2,.data⟩ (by simp) rfl);have e3:=hH.at d3 rfl (hA ⟨3,.data⟩ (by simp) rfl);exact⟨162,#[BO (some ⟨po,0,none⟩),B_ #[J Y m0,J Y m1,J Y m2],B_ #[J Y x0,J Y x1,J Y x2]],by simp[go_sem,e1,e2,e3],(Jia po 0 g (m0) (m1) (m2) (x0) (x1) (x2) w hg hz).mono (by rintro e W1 ⟨v,g1,rfl,S,Z⟩;exact⟨by rw[S.out.1],g1,S.out.2,Z.out⟩)⟩)) ?_;refine AllDo.cons 5 rfl (J2 _ rfl rfl (fun γ L a w hH hA=>by have e1:=R4 γ L a w hH;simp[JD,go_sem,e1])) ?_;refine AllDo.cons 6 rfl (J2 _ rfl rfl (fun γ L a w hH hA=>by have e1:=hH.at d5 rfl (hA ⟨5,.data⟩ (by simp) rfl);have e2:=hH.glob.fix (⟨pm,3,none⟩,J Y m3) (by simp[Jp]);have e3:=hH.glob.fix (⟨pm,4,none⟩,J Y m4) (by simp[Jp]);have e4:=hH.glob.fix (⟨pm,5,none⟩,J Y m5) (by simp[Jp]);simp[JD,go_sem,e1,e2,e3,e4])) ?_;refine AllDo.cons 7 rfl (J2 _ rfl rfl (fun γ L a w hH hA=>by have e1:=R5 γ L a w hH;have e2:=hH.glob.fix (⟨pa,0,none⟩,J Y x0) (by simp[Jp]);have e3:=hH.glob.fix (⟨pa,1,none⟩,J Y x1) (by simp[Jp]);have e4:=hH.glob.fix (⟨pa,2,none⟩,J Y x2) (by simp[Jp]);simp[JD,go_sem,e1,e2,e3,e4])) ?_;refine AllDo.cons 8 rfl (Jbc hπ _ ((dot [m3,m4,m5] [x0,x1,x2]).isNone) rfl (by simp[Jp]) (Jbf (Jk3 b off f pm pa pr po m0 m1 m2 m3 m4 m5 m6 m7 m8 x0 x1 x2 W U) (by simp[Jp])) rfl (fun γ L a w hH hA g hg hz=>by have e1:=R7 γ L a w hH;have e2:=hH.at d6 rfl (hA ⟨6,.data⟩ (by simp) rfl);have e3:=hH.at d7 rfl (hA ⟨7,.data⟩ (by simp) rfl);exact⟨162,#[BO (some ⟨po,0,none⟩),B_ #[J Y m3,J Y m4,J Y m5],B_ #[J Y x0,J Y x1,J Y x2]],by simp[go_sem,e1,e2,e3],(Jia po 0 g (m3) (m4) (m5) (x0) (x1) (x2) w hg hz).mono (by rintro e W1 ⟨v,g1,rfl,S,Z⟩;exact⟨by rw[S.out.1],g1,S.out.2,Z.out⟩)⟩)) ?_;refine AllDo.cons 9 rfl (J2 _ rfl rfl (fun γ L a w hH hA=>by have e1:=R4 γ L a w hH;simp[JD,go_sem,e1])) ?_;refine AllDo.cons 10 rfl (J2 _ rfl rfl (fun γ L a w hH hA=>by have e1:=hH.at d9 rfl (hA ⟨9,.data⟩ (by simp) rfl);have e2:=hH.glob.fix (⟨pm,6,none⟩,J Y m6) (by simp[Jp]);have e3:=hH.glob.fix (⟨pm,7,none⟩,J Y m7) (by simp[Jp]);have e4:=hH.glob.fix (⟨pm,8,none⟩,J Y m8) (by simp[Jp]);simp[JD,go_sem,e1,e2,e3,e4])) ?_;refine AllDo.cons 11 rfl (J2 _ rfl rfl (fun γ L a w hH hA=>by have e1:=R5 γ L a w hH;have e2:=hH.glob.fix (⟨pa,0,none⟩,J Y x0) (by simp[Jp]);have e3:=hH.glob.fix (⟨pa,1,none⟩,J Y x1) (by simp[Jp]);have e4:=hH.glob.fix (⟨pa,2,none⟩,J Y x2) (by simp[Jp]);simp[JD,go_sem,e1,e2,e3,e4])) ?_;refine AllDo.cons 12 rfl (Jbc hπ _ ((dot [m6,m7,m8] [x0,x1,x2]).isNone) rfl (by simp[Jp]) (Jbf (Jk3 b off f pm pa pr po m0 m1 m2 m3 m4 m5 m6 m7 m8 x0 x1 x2 W U) (by simp[Jp])) rfl (fun γ L a w hH hA g hg hz=>by have e1:=R7 γ L a w hH;have e2:=hH.at ik rfl (hA ⟨10,.data⟩ (by simp) rfl);have e3:=hH.at nK rfl (hA ⟨11,.data⟩ (by simp) rfl);exact⟨162,#[BO (some ⟨po,0,none⟩),B_ #[J Y m6,J Y m7,J Y m8],B_ #[J Y x0,J Y x1,J Y x2]],by simp[go_sem,e1,e2,e3],(Jia po 0 g (m6) (m7) (m8) (x0) (x1) (x2) w hg hz).mono (by rintro e W1 ⟨v,g1,rfl,S,Z⟩;exact⟨by rw[S.out.1],g1,S.out.2,Z.out⟩)⟩)) ?_;refine AllDo.cons 13 rfl (J2 _ rfl rfl (fun γ L a w hH hA=>by have e1:=hH.at d4 rfl (hA ⟨4,.data⟩ (by simp) rfl);have e2:=hH.at d8 rfl (hA ⟨8,.data⟩ (by simp) rfl);have e3:=hH.at il rfl (hA ⟨12,.data⟩ (by simp) rfl);simp[JD,go_sem,e1,e2,e3])) ?_;refine AllDo.cons 14 rfl (Jfr hπ _ rfl (fun e=>by have e2:po=b:=congrArg Addr.block e;omega) (by simp[Jp]) (by simp[Jp]) (by simp[Jp]) rfl (fun L dl bA c hc=>by have uv:L 13=true:=bA ⟨13,.data⟩ (by simp) rfl;have L4:L 4=true:=dl 13 4 nL uv;have L8:L 8=true:=dl 13 8 nM uv;have yD:L 12=true:=dl 13 12 lM uv;simp only[Jp,List.mem_cons,List.not_mem_nil,or_false]at hc;rcases hc with rfl | rfl | rfl;all_goals assumption) (fun γ L a w hH hA hb hp bg=>by have e1:=hH.at d0 rfl (hA ⟨0,.data⟩ (by simp) rfl);have e2:=R7 γ L a w hH;have e3:=hH.at ut rfl (hA ⟨13,.data⟩ (by simp) rfl);exact⟨122,#[BO (some ⟨b,off,none⟩),BO (some ⟨po,0,none⟩),B_ #[J Y ((dot [m0,m1,m2] [x0,x1,x2]).getD 0),J Y ((dot [m3,m4,m5] [x0,x1,x2]).getD 0),J Y ((dot [m6,m7,m8] [x0,x1,x2]).getD 0)]],by simp[go_sem,e1,e2,e3],(Jfs b off po f (Jay b off f pm pa pr po m0 m1 m2 m3 m4 m5 m6 m7 m8 x0 x1 x2 W U) ((dot [m0,m1,m2] [x0,x1,x2]).getD 0) ((dot [m3,m4,m5] [x0,x1,x2]).getD 0) ((dot [m6,m7,m8] [x0,x1,x2]).getD 0) w hp bg hb).mono (by rintro e W1 ⟨rfl,Z⟩;exact⟨rfl,Z.out⟩)⟩)) ?_
  refine AllDo.cons 15 rfl (does_store hπ (by simp[Jp]) rfl rfl (by simp[Jp]) (by simp[Jp]) (by simp[Jp]) (fun γ L a w hH hA cs hl hh=>by have e1:=R6 γ L a w hH;have e2:=hH.at uu rfl (hA ⟨14,.data⟩ (by simp) rfl);obtain⟨u0,u1,u2,rfl⟩:=Jso hl;have fk:w.cell? ⟨pr,0,none⟩=some u0/\w.frozen? ⟨pr,0,none⟩=false:=hh 0 u0 rfl;have fm:w.cell? ⟨pr,1,none⟩=some u1/\w.frozen? ⟨pr,1,none⟩=false:=hh 1 u1 rfl;have fp:w.cell? ⟨pr,2,none⟩=some u2/\w.frozen? ⟨pr,2,none⟩=false:=hh 2 u2 rfl;exact⟨(((w.setCell ⟨pr,0,none⟩ (J Y (cond (Jay b off f pm pa pr po m0 m1 m2 m3 m4 m5 m6 m7 m8 x0 x1 x2 W U) 0 ((dot [m0,m1,m2] [x0,x1,x2]).getD 0)))).setCell ⟨pr,1,none⟩ (J Y (cond (Jay b off f pm pa pr po m0 m1 m2 m3 m4 m5 m6 m7 m8 x0 x1 x2 W U) 0 ((dot [m3,m4,m5] [x0,x1,x2]).getD 0)))).setCell ⟨pr,2,none⟩ (J Y (cond (Jay b off f pm pa pr po m0 m1 m2 m3 m4 m5 m6 m7 m8 x0 x1 x2 W U) 0 ((dot [m6,m7,m8] [x0,x1,x2]).getD 0)))),by simp[JD,go_sem,e1,e2,fk.1,fk.2,fm.1,fm.2,fp.1,fp.2],((((Only.refl _ _).set 0 _).set 1 _).set 2 _),Jn6 hh⟩)) ?_;exact AllDo.nil
 ·intro γ a w L hL dU hH;have hL':∀ j,j<16->L j=true:=fun j hj=>hL j hj;have hG:=hH.glob;have nN:a.defers = []:=hH.defers.trans rfl;have hs:a.tmps[6]?=some (BO (some ⟨pr,0,none⟩)):=(hH.rest 6 (J6 (by kernel_rfl))).trans rfl;obtain⟨cs,c1,c2,c3⟩:=hG.res;obtain rfl:=c3 (hL' 15 (by omega));have eI:=hG.outer.resolve_left (fun e=>by have e2:po=b:=congrArg Addr.block e;omega);have hA:BU (After ⟨b,off,none⟩ (f||Jay b off f pm pa pr po m0 m1 m2 m3 m4 m5 m6 m7 m8 x0 x1 x2 W U) W w):=by
   have e:=eI.1;rw[show(Jp b off f pm pa pr po m0 m1 m2 m3 m4 m5 m6 m7 m8 x0 x1 x2 W U).tl=14 from rfl,hL' 14 (by omega),Bool.true_and]at e;exact hG.leaves.done e eI.2
  have r0:w.cell? ⟨pr,0,none⟩=some (J Y (cond (Jay b off f pm pa pr po m0 m1 m2 m3 m4 m5 m6 m7 m8 x0 x1 x2 W U) 0 ((dot [m0,m1,m2] [x0,x1,x2]).getD 0))):=(c2 0 _ rfl).1;have r1:w.cell? ⟨pr,1,none⟩=some (J Y (cond (Jay b off f pm pa pr po m0 m1 m2 m3 m4 m5 m6 m7 m8 x0 x1 x2 W U) 0 ((dot [m3,m4,m5] [x0,x1,x2]).getD 0))):=(c2 1 _ rfl).1;have r2:w.cell? ⟨pr,2,none⟩=some (J Y (cond (Jay b off f pm pa pr po m0 m1 m2 m3 m4 m5 m6 m7 m8 x0 x1 x2 W U) 0 ((dot [m6,m7,m8] [x0,x1,x2]).getD 0))):=(c2 2 _ rfl).1;clear hL dU hL' hH hG c1 c2 c3 eI hπ;go_wp2;refine bodyPost_ret (by simp[results,results100,go_sem,hs,r0,r1,r2];try rfl) nN ?_;exact⟨_,_,_,_,rfl,Jj3 (by simp[Jay]),hA⟩
end
end Go.Proofs.YtkblcfgamnmbkaaGreat
