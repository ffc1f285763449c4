/- Plain arithmetic of numbers by digits of 24 bits, no program in sight: sums, differences, products and what they compare to. -/
import Derived.Test.YtkblcfgamnmbkaaGreatEBRight1
import Derived.Deep.RegionWith
import Derived.Deep.RegionHeld3
import Derived.Test.YtkblcfgamnmbkaaGreatEBRight2
import Derived.Test.YtkblcfgamnmbkaaGreatEBRight0
import Derived.Deep.CutRange
set_option maxHeartbeats 4000000
set_option maxRecDepth 100000
set_option linter.unusedVariables false
namespace Go.Proofs.YtkblcfgamnmbkaaGreat
open Go.Calls renaming mono -> JA
open Go.Region renaming binds -> JC
open Go renaming execOp -> JD
open Go.World renaming size_alloc -> JE
open Go.Proofs.Tryz
open Go.Value renaming int -> J
open Go.IntKind renaming i64 -> I
open Go.Value renaming pointer -> BO
open Go.Obj renaming cells -> BP
open Go.Value renaming slice -> BQ
open Go.Value renaming bool -> BT
open Go.RowKit renaming Hid -> BU
open Go renaming World -> BV
open Go.Ending renaming returned -> BZ
open Go renaming Value -> B7
open Go.RowKit renaming Below -> B9
open Go.Value renaming agg -> B_
open Go renaming Calls -> Cd
open Go renaming Addr -> Ce
section
namespace Ref
def val(d:Nat->Int):Nat->Int
 | 0=>0
 | n+1=>val d n+d n*16777216 ^ n
def Digs(d:Nat->Int):Prop:=∀ j,j<8->0<=d j/\d j<16777216
def put(d:Nat->Int)(k:Nat)(v:Int):Nat->Int:=fun j=>if j=k then v else d j
theorem Jdi(d:Nat->Int)(k:Nat)(v:Int):put d k v k=v:=by simp[put]
theorem Jc3(d:Nat->Int){k j:Nat}(v:Int)(h:j≠k):put d k v j=d j:=by simp[put,h]
theorem pos(n:Nat):(0:Int)<16777216 ^ n:=Int.pow_pos (by omega)
theorem Jfn{d e:Nat->Int}:∀ n,(∀ j,j<n->d j=e j)->val d n=val e n
 | 0,_=>rfl
 | n+1,h=>by
  simp only[val];rw[Jfn n (fun j hj=>h j (by omega)),h n (by omega)]
theorem Jf9(d:Nat->Int)(k:Nat)(v:Int)(n:Nat)(h:n<=k):val (put d k v) n=val d n:=
 Jfn n fun j hj=>Jc3 d v (by omega)
theorem Jpn(d:Nat->Int)(k:Nat)(v:Int):∀ n,k<n->val (put d k v) n=val d n+(v-d k)*16777216 ^ k
 | 0,h=>by omega
 | n+1,h=>by
  simp only[val];by_cases e:k=n
  ·subst e;rw[Jf9 d k v k (Nat.le_refl _),Jdi,Int.sub_mul];omega
  ·rw[Jpn d k v n (by omega),Jc3 d v (by omega:n≠k)];omega
theorem Jcr{d:Nat->Int}:∀ n,(∀ j,j<n->0<=d j)->0<=val d n
 | 0,_=>by simp[val]
 | n+1,h=>by
  have a:=Jcr n (fun j hj=>h j (by omega));have b:=Int.mul_nonneg (h n (by omega)) (Int.le_of_lt (pos n));simp only[val];omega
theorem Joo{d:Nat->Int}:∀ n,(∀ j,j<n->0<=d j/\d j<16777216)->val d n<16777216 ^ n
 | 0,_=>by simp[val]
 | n+1,h=>by
  have a:=Joo n (fun j hj=>h j (by omega));have b:=Int.mul_le_mul_of_nonneg_right (by have:=h n (by omega);omega:d n<=16777215) (Int.le_of_lt (pos n));simp only[val,Int.pow_succ];omega
theorem Digs.nonneg{d:Nat->Int}(h:Digs d):0<=val d 8:=Jcr 8 fun j hj=>(h j hj).1
theorem Digs.lt{d:Nat->Int}(h:Digs d):val d 8<6277101735386680763835789423207666416102355444464034512896:=by
 have:=Joo 8 h;simpa using this
theorem Digs.put{d:Nat->Int}(h:Digs d)(k:Nat){v:Int}(hv:0<=v/\v<16777216):Digs (put d k v):=by
 intro j hj;by_cases e:j=k
 ·subst e;rw[Jdi];exact hv
 ·rw[Jc3 d v e];exact h j hj
theorem Jlh{a b:Nat->Int}(i:Nat)(ha:∀ j,j<i->0<=a j/\a j<16777216)(hb:∀ j,j<i->0<=b j)(h:a i<b i):∀ n,i<n->(∀ j,i<j->j<n->a j=b j)->val a n<val b n
 | 0,hn,_=>by omega
 | n+1,hn,he=>by
  simp only[val];by_cases e:i=n
  ·subst e;have h1:=Joo i ha;have h2:=Jcr i hb;have h3:=Int.mul_le_mul_of_nonneg_right (by omega:a i+1<=b i) (Int.le_of_lt (pos i));rw[Int.add_mul]at h3;omega
  ·have:=Jlh i ha hb h n (by omega) (fun j h1 h2=>he j h1 (by omega));rw[he n (by omega) (by omega)];omega
theorem Jst{V A B c x y P:Int}(h:V+c*P=A+B):V+(x+y+c)%16777216*P+(x+y+c) / 16777216*(P*16777216)=A+x*P+(B+y*P):=by
 have e:=Int.emod_add_mul_ediv (x+y+c) 16777216;obtain⟨r,hr⟩:∃ r,r=(x+y+c)%16777216:=⟨_,rfl⟩
 obtain⟨q,hq⟩:∃ q,q=(x+y+c) / 16777216:=⟨_,rfl⟩
 rw[<- hr,<- hq]at e ⊢;have:(r+16777216*q)*P=(x+y+c)*P:=by rw[e]
 grind
theorem Jsq{V c o x y P R:Int}(h:V+c*P=R):V+((o+x*y+c)%16777216-o)*P+(o+x*y+c) / 16777216*(P*16777216)=R+x*y*P:=by
 have e:=Int.emod_add_mul_ediv (o+x*y+c) 16777216;obtain⟨r,hr⟩:∃ r,r=(o+x*y+c)%16777216:=⟨_,rfl⟩
 obtain⟨q,hq⟩:∃ q,q=(o+x*y+c) / 16777216:=⟨_,rfl⟩
 rw[<- hr,<- hq]at e ⊢;have:(r+16777216*q)*P=(o+x*y+c)*P:=by rw[e]
 grind
def dig(u:Int)(j:Nat):Int:=u / 16777216 ^ j%16777216
theorem Jlv(u:Int)(k:Nat):u / 16777216 ^ k / 16777216=u / 16777216 ^ (k+1):=by
 rw[Int.pow_succ,Int.ediv_ediv_of_nonneg (Int.le_of_lt (pos k))]
theorem Jpl(u:Int):∀ n,val (dig u) n=u%16777216 ^ n
 | 0=>by simp[val,Int.emod_one]
 | n+1=>by
  simp only[val,Jpl u n,dig];rw[Int.pow_succ];have h1:=Int.emod_add_mul_ediv u (16777216 ^ n);have h2:=Int.emod_add_mul_ediv (u / 16777216 ^ n) 16777216;have hp:=pos n;have b1:=Int.emod_nonneg u (by omega:(16777216:Int) ^ n≠0);have b2:=Int.emod_lt_of_pos u hp;have b3:=Int.emod_nonneg (u / 16777216 ^ n) (by omega:(16777216:Int)≠0);have b4:=Int.emod_lt_of_pos (u / 16777216 ^ n) (by omega:(0:Int)<16777216);generalize(16777216:Int) ^ n=P at *;generalize u%P=r at *;generalize u / P=q at *;generalize q%16777216=s at *;generalize q / 16777216=t at *;have hs:s*P<=16777215*P:=Int.mul_le_mul_of_nonneg_right (by omega) (by omega);have pW:0<=s*P:=Int.mul_nonneg b3 (by omega);have e:u=(P*16777216)*t+(r+s*P):=by rw[<- h1,<- h2];grind
  rw[e,Int.mul_add_emod_self_left,Int.emod_eq_of_lt (by omega) (by omega)]
def sv(s:Bool)(d:Nat->Int):Int:=if s then -val d 8 else val d 8
end Ref
end
section
open Go.RowKit Ref
@[reducible] def wv(s:Bool)(d:Nat->Int):B7:=B_ #[BT s,J I (d 0),J I (d 1),J I (d 2),J I (d 3),J I (d 4),J I (d 5),J I (d 6),J I (d 7)]
structure RLies(w:BV)(b:Nat)(s:Bool)(d:Nat->Int):Prop where
 neg:w.cell? ⟨b,0,none⟩=some (BT s)
 dig:∀ k,k<8->w.cell? ⟨b,1+k,none⟩=some (J I (d k))
 free:∀ k,k<9->w.frozen? ⟨b,k,none⟩=false
theorem RLies.lt{w:BV}{b:Nat}{s:Bool}{d:Nat->Int}(h:RLies w b s d):b<w.heap.size:=World.block_lt_of_cell? _ _ h.neg
theorem Jac(w:BV)(s:Bool)(d:Nat->Int)(t:TypeId):
  RLies (w.alloc (BP #[BT s,J I (d 0),J I (d 1),J I (d 2),J I (d 3),J I (d 4),J I (d 5),J I (d 6),J I (d 7)] t)) w.heap.size s d:=by
 refine⟨by simp,fun k hk=>?_,fun k hk=>by simp⟩
 match k,hk with
 | 0,_=>simp
 | 1,_=>simp
 | 2,_=>simp
 | 3,_=>simp
 | 4,_=>simp
 | 5,_=>simp
 | 6,_=>simp
 | 7,_=>simp
theorem RLies.below{w w':BV}{b B:Nat}{s:Bool}{d:Nat->Int}(h:RLies w b s d)(hb:B9 B w w')(hB:b<B):RLies w' b s d:=
 ⟨(hb.cell hB).trans h.neg,fun k hk=>(hb.cell hB).trans (h.dig k hk),fun k hk=>(hb.frozen hB).trans (h.free k hk)⟩
theorem RLies.alloc{w:BV}{b:Nat}{s:Bool}{d:Nat->Int}(h:RLies w b s d)(o:Obj):RLies (w.alloc o) b s d:=
 h.below (Jd w o) h.lt
theorem RLies.other{w:BV}{b:Nat}{s:Bool}{d:Nat->Int}(h:RLies w b s d){a:Ce}(ak:b≠a.block)(v:B7):RLies (w.setCell a v) b s d:=
 ⟨(World.cell?_of_block (w:=w) (Below.heap_setCell _ _ _ _ ak)).trans h.neg,fun k hk=>(World.cell?_of_block (w:=w) (Below.heap_setCell _ _ _ _ ak)).trans (h.dig k hk),
  fun k hk=>(World.frozen?_of_block (w:=w) (Below.heap_setCell _ _ _ _ ak)).trans (h.free k hk)⟩
theorem RLies.put{w:BV}{b:Nat}{s:Bool}{d:Nat->Int}(h:RLies w b s d){k:Nat}(hk:k<8)(v:Int):RLies (w.setCell ⟨b,1+k,none⟩ (J I v)) b s (put d k v):=by
 have hd:=h.dig k hk;refine⟨?_,fun j hj=>?_,fun j hj=>?_⟩
 ·rw[<- h.neg];simp[go_sem]
 ·have hj':=h.dig j hj;by_cases e:j=k
  ·subst e;simp[go_sem,hd,Jdi]
  ·rw[Jc3 d v e,<- hj'];simp[go_sem]
 ·rw[<- h.free j hj];simp[go_sem]
theorem RLies.drew{w:BV}{b:Nat}{s:Bool}{d:Nat->Int}(h:RLies w b s d):RLies w.drew b s d:=⟨h.neg,h.dig,h.free⟩
theorem RLies.cells{w:BV}{b:Nat}{s:Bool}{d:Nat->Int}(h:RLies w b s d):w.cell? ⟨b,0,none⟩=some (BT s)/\w.cell? ⟨b,1,none⟩=some (J I (d 0))/\w.cell? ⟨b,2,none⟩=some (J I (d 1))/\w.cell? ⟨b,3,none⟩=some (J I (d 2))/\w.cell? ⟨b,4,none⟩=some (J I (d 3))/\w.cell? ⟨b,5,none⟩=some (J I (d 4))/\w.cell? ⟨b,6,none⟩=some (J I (d 5))/\w.cell? ⟨b,7,none⟩=some (J I (d 6))/\w.cell? ⟨b,8,none⟩=some (J I (d 7)):=
 ⟨h.neg,h.dig 0 (by omega),h.dig 1 (by omega),h.dig 2 (by omega),h.dig 3 (by omega),h.dig 4 (by omega),h.dig 5 (by omega),h.dig 6 (by omega),h.dig 7 (by omega)⟩
theorem RLies.frees{w:BV}{b:Nat}{s:Bool}{d:Nat->Int}(h:RLies w b s d):w.frozen? ⟨b,0,none⟩=false/\w.frozen? ⟨b,1,none⟩=false/\w.frozen? ⟨b,2,none⟩=false/\w.frozen? ⟨b,3,none⟩=false/\w.frozen? ⟨b,4,none⟩=false/\w.frozen? ⟨b,5,none⟩=false/\w.frozen? ⟨b,6,none⟩=false/\w.frozen? ⟨b,7,none⟩=false/\w.frozen? ⟨b,8,none⟩=false:=
 ⟨h.free 0 (by omega),h.free 1 (by omega),h.free 2 (by omega),h.free 3 (by omega),h.free 4 (by omega),h.free 5 (by omega),h.free 6 (by omega),h.free 7 (by omega),h.free 8 (by omega)⟩
theorem Jbn{w W:BV}{b:Nat}{v0 v1 v2 v3 v4 v5 v6 v7 v8:B7}(h:B9 w.heap.size w W)(hb:w.heap.size<=b):
  B9 w.heap.size w (((((((((W.setCell ⟨b,0,none⟩ v0).setCell ⟨b,1,none⟩ v1).setCell ⟨b,2,none⟩ v2).setCell ⟨b,3,none⟩ v3).setCell ⟨b,4,none⟩ v4).setCell ⟨b,5,none⟩ v5).setCell ⟨b,6,none⟩ v6).setCell ⟨b,7,none⟩ v7).setCell ⟨b,8,none⟩ v8):=
 ((((((((h.setCell hb _).setCell hb _).setCell hb _).setCell hb _).setCell hb _).setCell hb _).setCell hb _).setCell hb _).setCell hb _
theorem Jvu{n U:Int}{s:Bool}(h1:-9223372036854775808<=n)(h2:n<9223372036854775808)(hs:s=decide (n<0))(hU:U=n.natAbs)(d:Nat->Int)(hd:∀ j,j<8->d j=dig U j):Digs d/\sv s d=n:=by
 refine⟨fun j hj=>?_,?_⟩
 ·rw[hd j hj];exact⟨Int.emod_nonneg _ (by omega),Int.emod_lt_of_pos _ (by omega)⟩
 ·have h:=Jfn (e:=dig U) 8 hd;rw[Jpl]at h;unfold sv;rw[h,hs,hU];by_cases g:n<0
  ·simp[g];omega
  ·simp[g];omega
theorem Je4(n:Int)(w:BV)(h1:-9223372036854775808<=n)(h2:n<9223372036854775808):
  Cd Tryz.prog 146 #[J I n] w fun e w'=>∃ s d,e = BZ (wv s d)/\BU (Digs d/\sv s d=n)/\BU (B9 w.heap.size w w'):=by
 obtain⟨s,hs⟩:∃ s,s=decide (n<0):=⟨_,rfl⟩
 obtain⟨U,hU⟩:∃ U:Int,U=n.natAbs:=⟨_,rfl⟩
 have HE:BU (∀ d,(∀ j,j<8->d j=dig U j)->Digs d/\sv s d=n):=Jvu h1 h2 hs hU;by_cases hn:n<0
 ·obtain rfl:s=true:=by rw[hs];simp[hn]
  clear hs;obtain rfl:n = -U:=by omega
  clear hU;go_enter func146,ntmps146;go_wp2
  go_loopw [4,5] (fun u i wr=>∃(k:Nat) (d:Nat->Int),k<=8/\i=J I k/\u = .int .u64 (U / 16777216 ^ k)/\BU (∀ j,j<k->d j=dig U j)/\BU (RLies wr (w.heap.size+1) true d)/\BU (RLies wr w.heap.size false (fun _=>0))/\BU (B9 w.heap.size w wr)) (fun _ i _=>8-(intOf i).toNat)
  case atStart=>exact⟨0,fun _=>0,Nat.zero_le _,rfl,by simp[IntKind.wrap,IntKind.bits,IntKind.signed];omega,fun j hj=>by omega,by show RLies _ _ _ _;have:=Jac (w.alloc (BP #[BT false,J I 0,J I 0,J I 0,J I 0,J I 0,J I 0,J I 0,J I 0] 168)) true (fun _=>0) 168;simpa only[JE] using this,RLies.alloc (Jac w false (fun _=>0) 168) _,(Jd w _).alloc (by simp) _⟩
  case round =>
   obtain⟨k,d,hk,rfl,rfl,HD,HL,HR,HB⟩:=hrel;by_cases aG:k<8
   ·have ar:=HL.out.dig k aG;have qT:=HL.out.free (1+k) (by omega);have i0:(0:Int)<=(k:Int):=by omega
    have i1:(k:Int)<8:=by omega
    have HS:BU _:=Jlv U k;have HP:BU (put d k (U / 16777216 ^ k%16777216) k=dig U k):=Jdi _ _ _;have u0:0<=U / 16777216 ^ k:=Int.ediv_nonneg (by omega) (Int.le_of_lt (pos k));have u1:U / 16777216 ^ k<18446744073709551616:=Int.lt_of_le_of_lt (Int.ediv_le_self _ (by omega)) (by omega);obtain⟨x,hx⟩:∃ x,x=U / 16777216 ^ k:=⟨_,rfl⟩
    rw[<- hx]at HS HP u0 u1;rw[<- hx];have HX:BU _:=hx;clear hx;go_wp2
    go_roundw
    case rel =>
     refine⟨k+1,put d k (x%16777216),by omega,by go_num,by rw[<- HS.out],fun j hj=>?_,?_,?_,?_⟩
     ·by_cases e:j=k
      ·subst e;exact HP.out
      ·rw[Jc3 _ _ e];exact HD.out j (by omega)
     ·exact HL.out.put aG _
     ·exact HR.out.other (by simp) _
     ·exact HB.out.setCell (by simp) _
    case measure=>simp[intOf];omega
   ·have nV:8<=(k:Int):=by omega
    obtain⟨c0,c1,c2,c3,c4,c5,c6,c7,c8⟩:=HL.out.cells;obtain⟨r0,r1,r2,r3,r4,r5,r6,r7,r8⟩:=HR.out.cells;obtain⟨f0,f1,f2,f3,f4,f5,f6,f7,f8⟩:=HR.out.frees;go_wp2
    try simp only[Exit.inBlock,Exit.then]
    refine bodyPost_ret (by simp[results,results146,go_sem,r0,r1,r2,r3,r4,r5,r6,r7,r8];try rfl) rfl ?_;refine⟨_,d,rfl,HE.out d (fun j hj=>HD.out j (by omega)),?_⟩;exact Jbn HB.out (Nat.le_refl _)
 ·obtain rfl:s=false:=by rw[hs];simp[hn]
  clear hs;obtain rfl:U=n:=by omega
  clear hU;go_enter func146,ntmps146;go_wp2
  go_loopw [4,5] (fun u i wr=>∃(k:Nat) (d:Nat->Int),k<=8/\i=J I k/\u = .int .u64 (U / 16777216 ^ k)/\BU (∀ j,j<k->d j=dig U j)/\BU (RLies wr (w.heap.size+1) false d)/\BU (RLies wr w.heap.size false (fun _=>0))/\BU (B9 w.heap.size w wr)) (fun _ i _=>8-(intOf i).toNat)
  case atStart=>exact⟨0,fun _=>0,Nat.zero_le _,rfl,by simp,fun j hj=>by omega,by show RLies _ _ _ _;have:=Jac (w.alloc (BP #[BT false,J I 0,J I 0,J I 0,J I 0,J I 0,J I 0,J I 0,J I 0] 168)) false (fun _=>0) 168;simpa only[JE] using this,RLies.alloc (Jac w false (fun _=>0) 168) _,(Jd w _).alloc (by simp) _⟩
  case round =>
   obtain⟨k,d,hk,rfl,rfl,HD,HL,HR,HB⟩:=hrel;by_cases aG:k<8
   ·have ar:=HL.out.dig k aG;have qT:=HL.out.free (1+k) (by omega);have i0:(0:Int)<=(k:Int):=by omega
    have i1:(k:Int)<8:=by omega
    have HS:BU _:=Jlv U k;have HP:BU (put d k (U / 16777216 ^ k%16777216) k=dig U k):=Jdi _ _ _;have u0:0<=U / 16777216 ^ k:=Int.ediv_nonneg (by omega) (Int.le_of_lt (pos k));have u1:U / 16777216 ^ k<18446744073709551616:=Int.lt_of_le_of_lt (Int.ediv_le_self _ (by omega)) (by omega);obtain⟨x,hx⟩:∃ x,x=U / 16777216 ^ k:=⟨_,rfl⟩
    rw[<- hx]at HS HP u0 u1;rw[<- hx];have HX:BU _:=hx;clear hx;go_wp2
    go_roundw
    case rel =>
     refine⟨k+1,put d k (x%16777216),by omega,by go_num,by rw[<- HS.out],fun j hj=>?_,?_,?_,?_⟩
     ·by_cases e:j=k
      ·subst e;exact HP.out
      ·rw[Jc3 _ _ e];exact HD.out j (by omega)
     ·exact HL.out.put aG _
     ·exact HR.out.other (by simp) _
     ·exact HB.out.setCell (by simp) _
    case measure=>simp[intOf];omega
   ·have nV:8<=(k:Int):=by omega
    obtain⟨c0,c1,c2,c3,c4,c5,c6,c7,c8⟩:=HL.out.cells;obtain⟨r0,r1,r2,r3,r4,r5,r6,r7,r8⟩:=HR.out.cells;obtain⟨f0,f1,f2,f3,f4,f5,f6,f7,f8⟩:=HR.out.frees;go_wp2
    try simp only[Exit.inBlock,Exit.then]
    refine bodyPost_ret (by simp[results,results146,go_sem,r0,r1,r2,r3,r4,r5,r6,r7,r8];try rfl) rfl ?_;refine⟨_,d,rfl,HE.out d (fun j hj=>HD.out j (by omega)),?_⟩;exact Jbn HB.out (Nat.le_refl _)
theorem Jpy{a b:Nat->Int}(h:∀ j,0<=j->j<8->a j=b j):val a 8=val b 8:=Jfn 8 fun j hj=>h j (Nat.zero_le _) hj
theorem Jjm{a b:Nat->Int}{m:Nat}(ha:Digs a)(hb:Digs b)(hm:m<8)(h:∀ j,m+1<=j->j<8->a j=b j)(hl:a m<b m):val a 8<val b 8:=
 Jlh m (fun j hj=>ha j (by omega)) (fun j hj=>(hb j (by omega)).1) hl 8 hm (fun j h1 h2=>h j h1 h2)
theorem Jhe(s t:Bool)(a b:Nat->Int)(w:BV)(ha:Digs a)(hb:Digs b):
  Cd Tryz.prog 206 #[wv s a,wv t b] w fun e w'=>∃ c,e = BZ (J I c)/\BU ((c = -1/\val a 8<val b 8)\/(c=0/\val a 8=val b 8)\/(c=1/\val b 8<val a 8))/\BU (B9 w.heap.size w w'):=by
 have HA:BU _:=ha;have HC:BU _:=hb;clear ha hb;go_enter func206,ntmps206;go_wp2
 go_loopw [5] (fun i wr=>∃(k:Nat),k<=8/\i=J I ((k:Int)-1)/\BU (∀ j,k<=j->j<8->a j=b j)/\BU (RLies wr w.heap.size s a)/\BU (RLies wr (w.heap.size+1) t b)/\BU (B9 w.heap.size w wr)) (fun i _=>(intOf i+1).toNat)
 case atStart=>exact⟨8,Nat.le_refl _,rfl,fun j h1 h2=>by omega,RLies.alloc (Jac w s a 168) _,by show RLies _ _ _ _;have:=Jac (w.alloc (BP #[BT s,J I (a 0),J I (a 1),J I (a 2),J I (a 3),J I (a 4),J I (a 5),J I (a 6),J I (a 7)] 168)) t b 168;simpa only[JE] using this,(Jd w _).alloc (by simp) _⟩
 case round =>
  obtain⟨k,hk,rfl,HD,HL,HR,HB⟩:=hrel
  match k,hk,HD with
  | 0,_,HD =>
   go_wp2;go_ret;exact⟨0,rfl,Or.inr (Or.inl ⟨rfl,Jpy HD.out⟩),HB.out⟩
  | m+1,hm,HD =>
   have e:((m+1:Nat):Int)-1=(m:Int):=by omega
   rw[e];have i0:(0:Int)<=(m:Int):=by omega
   have i1:(m:Int)<8:=by omega
   have c0:=HL.out.dig m (by omega);have c1:=HR.out.dig m (by omega);have HX:BU _:=HD;clear HD e;rcases Int.lt_trichotomy (a m) (b m) with g | g | g
   ·have HG:BU _:=Jjm HA.out HC.out (by omega) HX.out g;go_wp2;go_region
    all_goals go_wp2
    all_goals go_ret
    all_goals exact⟨-1,rfl,Or.inl ⟨rfl,HG.out⟩,HB.out.drew⟩
   ·have HG:BU _:=g;rw[<- g]at c1;clear g;go_wp2;go_region
    all_goals go_wp2
    all_goals go_region
    all_goals go_wp2
    all_goals go_roundw
    all_goals try (case rel=>exact⟨m,by omega,by go_num,fun j h1 h2=>by by_cases e:j=m;(subst e;exact HG.out);exact HX.out j (by omega) h2,HL.out.drew.drew,HR.out.drew.drew,HB.out.drew.drew⟩)
    all_goals try (case measure=>show(((m:Int)-1)+1).toNat<((m:Int)+1).toNat;omega)
   ·have HG:BU _:=Jjm HC.out HA.out (by omega) (fun j h1 h2=>(HX.out j h1 h2).symm) g;go_wp2;go_region
    all_goals go_wp2
    all_goals go_region
    all_goals go_wp2
    all_goals go_ret
    all_goals exact⟨1,rfl,Or.inr (Or.inr ⟨rfl,HG.out⟩),HB.out.drew.drew⟩
theorem Jty{s:Bool}{d:Nat->Int}(h:val d 8=0):sv s d=0:=by unfold sv;cases s <;> simp[h]
theorem Jrp(s:Bool)(a:Nat->Int)(w:BV)(ha:Digs a):
  Cd Tryz.prog 205 #[wv s a] w fun e w'=>∃ c,e = BZ (J I c)/\BU (-1<=c/\c<=1/\(c<0↔sv s a<0))/\BU (B9 w.heap.size w w'):=by
 have HC:BU _:=fun w=>Jhe s false a (fun _=>0) w ha (fun j _=>by simp);have hz:val (fun _=>0) 8=0:=by simp[val]
 have HZ:BU _:=hz;have HA:BU _:=ha.nonneg;clear ha hz;go_enter func205,ntmps205;go_wp2_with (fail);refine(HC.out _).mono ?_;rintro e w' ⟨c,rfl,S,B⟩;have HB:BU _:=Ju (w:=w) ((Jd w _).alloc (by simp) _) B.out;rw[HZ.out]at S;have ar:w'.cell? ⟨w.heap.size,0,none⟩=some (BT s):=Jf B.out (by simp);clear B HC HZ;rcases S.out with ⟨rfl,h⟩ |⟨rfl,h⟩ |⟨rfl,h⟩
 ·exact absurd h (by have:=HA.out;omega)
 ·have HH:BU _:=Jty (s:=s) h;clear h;go_wp2;go_ret;exact⟨0,rfl,⟨by omega,by omega,by have:=HH.out;omega⟩,HB.out⟩
 ·cases s
  ·go_wp2;go_ret;exact⟨1,rfl,⟨by omega,by omega,by unfold sv;simp;omega⟩,HB.out⟩
  ·go_wp2;go_ret;exact⟨-1,rfl,⟨by omega,by omega,by unfold sv;simp;omega⟩,HB.out⟩
theorem Jg3{W:BV}{b:Nat}{s₀ s:Bool}{d₀ d:Nat->Int}(h:RLies W b s₀ d₀):RLies (((((((((W.setCell ⟨b,0,none⟩ (BT s)).setCell ⟨b,1,none⟩ (J I (d 0))).setCell ⟨b,2,none⟩ (J I (d 1))).setCell ⟨b,3,none⟩ (J I (d 2))).setCell ⟨b,4,none⟩ (J I (d 3))).setCell ⟨b,5,none⟩ (J I (d 4))).setCell ⟨b,6,none⟩ (J I (d 5))).setCell ⟨b,7,none⟩ (J I (d 6))).setCell ⟨b,8,none⟩ (J I (d 7))) b s d:=by
 obtain⟨c0,c1,c2,c3,c4,c5,c6,c7,c8⟩:=h.cells;refine⟨by simp[go_sem,c0],fun k hk=>?_,fun k hk=>by rw[<- h.free k hk];simp[go_sem]⟩
 match k,hk with
 | 0,_=>simp[go_sem,c1]
 | 1,_=>simp[go_sem,c2]
 | 2,_=>simp[go_sem,c3]
 | 3,_=>simp[go_sem,c4]
 | 4,_=>simp[go_sem,c5]
 | 5,_=>simp[go_sem,c6]
 | 6,_=>simp[go_sem,c7]
 | 7,_=>simp[go_sem,c8]
theorem RLies.nine{W:BV}{b e:Nat}{s t:Bool}{d x:Nat->Int}(h:RLies W e t x)(ak:e≠b):RLies (((((((((W.setCell ⟨b,0,none⟩ (BT s)).setCell ⟨b,1,none⟩ (J I (d 0))).setCell ⟨b,2,none⟩ (J I (d 1))).setCell ⟨b,3,none⟩ (J I (d 2))).setCell ⟨b,4,none⟩ (J I (d 3))).setCell ⟨b,5,none⟩ (J I (d 4))).setCell ⟨b,6,none⟩ (J I (d 5))).setCell ⟨b,7,none⟩ (J I (d 6))).setCell ⟨b,8,none⟩ (J I (d 7))) e t x:=
 ((((((((h.other ak _).other ak _).other ak _).other ak _).other ak _).other ak _).other ak _).other ak _).other ak _
theorem RLies.otherAt{W:BV}{b:Nat}{s:Bool}{d:Nat->Int}(h:RLies W b s d){e off:Nat}(ak:b≠e)(v:B7):RLies (W.setCell ⟨e,off,none⟩ v) b s d:=h.other ak v
theorem Jid{H:Nat}{w W:BV}(h:B9 H w W){e off:Nat}(he:H<=e)(v:B7):B9 H w (W.setCell ⟨e,off,none⟩ v):=h.setCell he v
theorem Jrl{a b d:Nat->Int}{k:Nat}{c n:Int}(ha:Digs a)(hb:Digs b)(hd:Digs d)(hk:k<8)(hc:0<=c/\c<=1)(h:val d k+c*16777216 ^ k=val a k+val b k)(hn:n=a k+b k+c):
  Digs (put d k (n%16777216))/\0<=n / 16777216/\n / 16777216<=1/\val (put d k (n%16777216)) (k+1)+n / 16777216*16777216 ^ (k+1)=val a (k+1)+val b (k+1):=by
 have h1:=ha k hk;have h2:=hb k hk;refine⟨hd.put k ⟨Int.emod_nonneg _ (by omega),Int.emod_lt_of_pos _ (by omega)⟩,by omega,by omega,?_⟩;simp only[val];rw[Jf9 _ _ _ _ (Nat.le_refl _),Jdi,Int.pow_succ,hn];exact Jst h
theorem Jrz{a b d:Nat->Int}{s:Bool}{c:Int}(hd:Digs d)(hc:0<=c)(h:val d 8+c*16777216 ^ 8=val a 8+val b 8)(aP:(sv s a+sv s b).natAbs<6277101735386680763835789423207666416102355444464034512896):sv s d=sv s a+sv s b:=by
 have h0:=hd.nonneg;have h1:(16777216:Int) ^ 8=6277101735386680763835789423207666416102355444464034512896:=by decide
 rw[h1]at h;have e:(sv s a+sv s b).natAbs=(val a 8+val b 8).natAbs:=by unfold sv;cases s <;> simp;omega
 rw[e]at aP;have:c=0:=by omega
 subst this;unfold sv;cases s <;> simp <;> omega
theorem Jlg{a b d:Nat->Int}{k:Nat}{c n c':Int}(ha:Digs a)(hb:Digs b)(hd:Digs d)(hk:k<8)(hc:0<=c/\c<=1)(h:val d k-c*16777216 ^ k=val a k-val b k)
  (hn:(a k-b k-c<0/\n=a k-b k-c+16777216/\c'=1)\/(0<=a k-b k-c/\n=a k-b k-c/\c'=0)) :
  Digs (put d k n)/\0<=c'/\c'<=1/\val (put d k n) (k+1)-c'*16777216 ^ (k+1)=val a (k+1)-val b (k+1):=by
 have h1:=ha k hk;have h2:=hb k hk;refine⟨hd.put k (by omega),by omega,by omega,?_⟩;simp only[val];rw[Jf9 _ _ _ _ (Nat.le_refl _),Jdi,Int.pow_succ];generalize(16777216:Int) ^ k=X at *;rcases hn with ⟨_,rfl,rfl⟩ |⟨_,rfl,rfl⟩ <;> grind
theorem Jk8{a b d:Nat->Int}{c:Int}(hd:Digs d)(hc:0<=c)(h:val d 8-c*16777216 ^ 8=val a 8-val b 8)(ie:val b 8<=val a 8):val d 8=val a 8-val b 8:=by
 have h0:=hd.lt;have h1:(16777216:Int) ^ 8=6277101735386680763835789423207666416102355444464034512896:=by decide
 rw[h1]at h;have:c=0:=by omega
 subst this;omega
theorem Jp8(s:Bool)(a b:Nat->Int)(w:BV)(ha:Digs a)(hb:Digs b)(aP:(sv s a+sv s b).natAbs<6277101735386680763835789423207666416102355444464034512896):
  Cd Tryz.prog 191 #[wv s a,wv s b] w fun e w'=>∃ u d,e = BZ (wv u d)/\BU (Digs d/\sv u d=sv s a+sv s b)/\BU (B9 w.heap.size w w'):=by
 have HA:BU _:=ha;have HC:BU _:=hb;have HF:BU _:=aP;clear ha hb aP;go_enter func191,ntmps191;go_wp2
 go_loopw [5,7] (fun cc i wr=>∃(k:Nat) (d:Nat->Int) (c:Int),k<=8/\i=J I k/\cc=J I c/\0<=c/\c<=1/\BU (Digs d/\val d k+c*16777216 ^ k=val a k+val b k)/\BU (RLies wr w.heap.size s a)/\BU (RLies wr (w.heap.size+1) s b)/\BU (RLies wr (w.heap.size+1+1) false (fun _=>0))/\BU (RLies wr (w.heap.size+1+1+1) s d)/\BU (B9 w.heap.size w wr)) (fun _ i _=>8-(intOf i).toNat)
 case atStart =>
  exact⟨0,a,0,Nat.zero_le _,rfl,rfl,by omega,by omega,⟨HA.out,by simp[val]⟩,(RLies.alloc (RLies.alloc (RLies.alloc (by show RLies _ _ _ _;have:=Jac w s a 168;simpa only[JE] using this) _) _) _),(RLies.alloc (RLies.alloc (by show RLies _ _ _ _;have:=Jac (w.alloc (BP #[BT s,J I (a 0),J I (a 1),J I (a 2),J I (a 3),J I (a 4),J I (a 5),J I (a 6),J I (a 7)] 168)) s b 168;simpa only[JE] using this) _) _),(RLies.alloc (by show RLies _ _ _ _;have:=Jac ((w.alloc (BP #[BT s,J I (a 0),J I (a 1),J I (a 2),J I (a 3),J I (a 4),J I (a 5),J I (a 6),J I (a 7)] 168)).alloc (BP #[BT s,J I (b 0),J I (b 1),J I (b 2),J I (b 3),J I (b 4),J I (b 5),J I (b 6),J I (b 7)] 168)) false (fun _=>0) 168;simpa only[JE] using this) _),(by show RLies _ _ _ _;have:=Jac (((w.alloc (BP #[BT s,J I (a 0),J I (a 1),J I (a 2),J I (a 3),J I (a 4),J I (a 5),J I (a 6),J I (a 7)] 168)).alloc (BP #[BT s,J I (b 0),J I (b 1),J I (b 2),J I (b 3),J I (b 4),J I (b 5),J I (b 6),J I (b 7)] 168)).alloc (BP #[BT false,J I 0,J I 0,J I 0,J I 0,J I 0,J I 0,J I 0,J I 0] 168)) s a 168;simpa only[JE] using this),((((Jd w _).alloc (by simp) _).alloc (by simp;omega) _).alloc (by simp;omega) _)⟩
 case round =>
  obtain⟨k,d,c,hk,rfl,rfl,eJ,bU,HD,HL,HR,HZ,HO,HB⟩:=hrel;by_cases aG:k<8
  ·have e1:=HL.out.dig k aG;have e2:=HR.out.dig k aG;have e3:=HO.out.dig k aG;have e4:=HO.out.free (1+k) (by omega);have i0:(0:Int)<=(k:Int):=by omega
   have i1:(k:Int)<8:=by omega
   have b1:=HA.out k aG;have b2:=HC.out k aG;have HN:BU _:=fun n hn=>Jrl (n:=n) HA.out HC.out HD.out.1 aG ⟨eJ,bU⟩ HD.out.2 hn;obtain⟨p,hp⟩:∃ p,p=a k:=⟨_,rfl⟩
   obtain⟨q,hq⟩:∃ q,q=b k:=⟨_,rfl⟩
   rw[<- hp]at e1 b1 HN;rw[<- hq]at e2 b2 HN;clear hp hq;go_wp2;go_region
   all_goals go_wp2
   all_goals go_roundw
   all_goals try (case rel=>obtain⟨n1,n2,n3,n4⟩:=HN.out _ rfl;exact⟨k+1,put d k ((p+q+c)%16777216),(p+q+c) / 16777216,by omega,by go_num,rfl,n2,n3,⟨n1,n4⟩,(HL.out.otherAt (by omega) _).drew,(HR.out.otherAt (by omega) _).drew,(HZ.out.otherAt (by omega) _).drew,(HO.out.put aG _).drew,(Jid HB.out (by omega) _).drew⟩)
   all_goals try (case measure=>simp[intOf];omega)
  ·have nV:8<=(k:Int):=by omega
   have e8:k=8:=by omega
   have HE:BU (Digs d/\sv s d=sv s a+sv s b):=by
    obtain⟨d1,d2⟩:=HD.out;rw[e8]at d2;exact⟨d1,Jrz d1 eJ d2 HF.out⟩
   obtain⟨c0,c1,c2,c3,c4,c5,c6,c7,c8⟩:=HO.out.cells;obtain⟨r0,r1,r2,r3,r4,r5,r6,r7,r8⟩:=HZ.out.cells;obtain⟨f0,f1,f2,f3,f4,f5,f6,f7,f8⟩:=HZ.out.frees;clear e8 HD HF HA HC;go_wp2
   try simp only[Exit.inBlock,Exit.then]
   refine bodyPost_ret (by simp[results,results191,go_sem,r0,r1,r2,r3,r4,r5,r6,r7,r8];try rfl) rfl ?_;exact⟨_,d,rfl,HE.out,Jbn HB.out (by omega)⟩
theorem Ju4{s t:Bool}{a b d:Nat->Int}(ig:s≠t)(h:val d 8=val a 8-val b 8):sv s d=sv s a+sv t b:=by
 unfold sv;cases s <;> cases t <;> simp_all <;> omega
theorem Jt1{s t:Bool}{a b d:Nat->Int}(ig:s≠t)(h:val d 8=val b 8-val a 8):sv t d=sv s a+sv t b:=by
 unfold sv;cases s <;> cases t <;> simp_all <;> omega
theorem Joy(s t:Bool)(a b:Nat->Int)(w:BV)(ha:Digs a)(hb:Digs b)(ig:s≠t)(ie:val b 8<=val a 8):
  Cd Tryz.prog 191 #[wv s a,wv t b] w fun e w'=>∃ u d,e = BZ (wv u d)/\BU (Digs d/\sv u d=sv s a+sv t b)/\BU (B9 w.heap.size w w'):=by
 have HS:BU _:=fun w=>Jhe s t a b w ha hb;have HA:BU _:=ha;have HC:BU _:=hb;have HF:BU (s≠t/\val b 8<=val a 8):=⟨ig,ie⟩
 have ac:(s == t)=false:=by simp[ig]
 clear ha hb ig ie;go_enter func191,ntmps191;go_wp2_with (fail);refine(HS.out _).mono ?_;rintro e w1 ⟨c,rfl,SC,B⟩;have eJ:0<=c:=by have:=HF.out.2;rcases SC.out with h | h | h <;> omega
 have LA:BU _:=RLies.below (RLies.alloc (RLies.alloc (by show RLies _ _ _ _;have:=Jac w s a 168;simpa only[JE] using this) _) _) B.out (by first |(simp;done) |(simp;omega));have LB:BU _:=RLies.below (RLies.alloc (by show RLies _ _ _ _;have:=Jac (w.alloc (BP #[BT s,J I (a 0),J I (a 1),J I (a 2),J I (a 3),J I (a 4),J I (a 5),J I (a 6),J I (a 7)] 168)) t b 168;simpa only[JE] using this) _) B.out (by first |(simp;done) |(simp;omega));have LZ:BU _:=RLies.below (by show RLies _ _ _ _;have:=Jac ((w.alloc (BP #[BT s,J I (a 0),J I (a 1),J I (a 2),J I (a 3),J I (a 4),J I (a 5),J I (a 6),J I (a 7)] 168)).alloc (BP #[BT t,J I (b 0),J I (b 1),J I (b 2),J I (b 3),J I (b 4),J I (b 5),J I (b 6),J I (b 7)] 168)) false (fun _=>0) 168;simpa only[JE] using this) B.out (by first |(simp;done) |(simp;omega));have iV:=B.out.size;simp only[JE]at iV;have HB:BU _:=Ju (w:=w) (((Jd w _).alloc (by simp) _).alloc (by simp;omega) _) B.out;obtain⟨a0,a1,a2,a3,a4,a5,a6,a7,a8⟩:=LA.out.cells;clear HS SC B;go_wp2;obtain⟨tQ,h_⟩:∃ o,o=w1.heap.size:=⟨_,rfl⟩
 rw[<- h_]at iV ⊢;have uO:BU _:=h_;clear h_
 go_loopw [11,12] (fun cc i wr=>∃(k:Nat) (d:Nat->Int) (c:Int),k<=8/\i=J I k/\cc=J I c/\0<=c/\c<=1/\BU (Digs d/\val d k-c*16777216 ^ k=val a k-val b k)/\BU (RLies wr w.heap.size s a)/\BU (RLies wr (w.heap.size+1) t b)/\BU (RLies wr (w.heap.size+1+1) false (fun _=>0))/\BU (RLies wr tQ s d)/\BU (B9 w.heap.size w wr)) (fun _ i _=>8-(intOf i).toNat)
 case atStart =>
  exact⟨0,a,0,Nat.zero_le _,rfl,rfl,by omega,by omega,⟨HA.out,by simp[val]⟩,LA.out.alloc _,LB.out.alloc _,LZ.out.alloc _,by show RLies _ _ _ _;rw[uO.out];exact Jac w1 s a 168,HB.out.alloc HB.out.size _⟩
 case round =>
  obtain⟨k,d,c,hk,rfl,rfl,eJ,bU,HD,HL,HR,HZ,HO,HB⟩:=hrel;by_cases aG:k<8
  ·have e1:=HL.out.dig k aG;have e2:=HR.out.dig k aG;have e3:=HO.out.dig k aG;have e4:=HO.out.free (1+k) (by omega);have i0:(0:Int)<=(k:Int):=by omega
   have i1:(k:Int)<8:=by omega
   have b1:=HA.out k aG;have b2:=HC.out k aG;have HN:BU _:=fun n c' hn=>Jlg (n:=n) (c':=c') HA.out HC.out HD.out.1 aG ⟨eJ,bU⟩ HD.out.2 hn;obtain⟨p,hp⟩:∃ p,p=a k:=⟨_,rfl⟩
   obtain⟨q,hq⟩:∃ q,q=b k:=⟨_,rfl⟩
   rw[<- hp]at e1 b1 HN;rw[<- hq]at e2 b2 HN;clear hp hq;by_cases hneg:p-q-c<0
   ·have HM:BU _:=HN.out _ _ (Or.inl ⟨hneg,rfl,rfl⟩);clear HN;go_wp2;go_region
    all_goals go_wp2
    all_goals go_roundw
    all_goals try (case rel=>obtain⟨n1,n2,n3,n4⟩:=HM.out;exact⟨k+1,put d k (p-q-c+16777216),1,by omega,by go_num,rfl,n2,n3,⟨n1,n4⟩,(HL.out.otherAt (by omega) _).drew,(HR.out.otherAt (by omega) _).drew,(HZ.out.otherAt (by omega) _).drew,(HO.out.put aG _).drew,(Jid HB.out (by omega) _).drew⟩)
    all_goals try (case measure=>simp[intOf];omega)
   ·have HM:BU _:=HN.out _ _ (Or.inr ⟨by omega,rfl,rfl⟩);clear HN;go_wp2;go_region
    all_goals go_wp2
    all_goals go_roundw
    all_goals try (case rel=>obtain⟨n1,n2,n3,n4⟩:=HM.out;exact⟨k+1,put d k (p-q-c),0,by omega,by go_num,rfl,n2,n3,⟨n1,n4⟩,(HL.out.otherAt (by omega) _).drew,(HR.out.otherAt (by omega) _).drew,(HZ.out.otherAt (by omega) _).drew,(HO.out.put aG _).drew,(Jid HB.out (by omega) _).drew⟩)
    all_goals try (case measure=>simp[intOf];omega)
  ·have nV:8<=(k:Int):=by omega
   have e8:k=8:=by omega
   have HE:BU (Digs d/\sv s d=sv s a+sv t b):=by
    obtain⟨d1,d2⟩:=HD.out;rw[e8]at d2;exact⟨d1,Ju4 HF.out.1 (Jk8 d1 eJ d2 HF.out.2)⟩
   obtain⟨c0,c1,c2,c3,c4,c5,c6,c7,c8⟩:=HO.out.cells;obtain⟨r0,r1,r2,r3,r4,r5,r6,r7,r8⟩:=HZ.out.cells;obtain⟨f0,f1,f2,f3,f4,f5,f6,f7,f8⟩:=HZ.out.frees;clear e8 HD HF HA HC;go_wp2
   try simp only[Exit.inBlock,Exit.then]
   refine bodyPost_ret (by simp[results,results191,go_sem,r0,r1,r2,r3,r4,r5,r6,r7,r8];try rfl) rfl ?_;exact⟨_,d,rfl,HE.out,Jbn HB.out (by omega)⟩
theorem Jjt{W:BV}{b:Nat}{s:Bool}{d:Nat->Int}:(((((((((W.setCell ⟨b,0,none⟩ (BT s)).setCell ⟨b,1,none⟩ (J I (d 0))).setCell ⟨b,2,none⟩ (J I (d 1))).setCell ⟨b,3,none⟩ (J I (d 2))).setCell ⟨b,4,none⟩ (J I (d 3))).setCell ⟨b,5,none⟩ (J I (d 4))).setCell ⟨b,6,none⟩ (J I (d 5))).setCell ⟨b,7,none⟩ (J I (d 6))).setCell ⟨b,8,none⟩ (J I (d 7))).heap.size=W.heap.size:=by simp[World.setCell]
theorem Jt2{w w1:BV}{s t:Bool}{a b:Nat->Int}(LA:RLies w1 w.heap.size s a)(LB:RLies w1 (w.heap.size+1) t b)(LZ:RLies w1 (w.heap.size+1+1) false (fun _=>0))(HB:B9 w.heap.size w w1):
  RLies ((((((((((((((((((((w1.setCell ⟨w.heap.size,0,none⟩ (BT t)).setCell ⟨w.heap.size,1,none⟩ (J I (b 0))).setCell ⟨w.heap.size,2,none⟩ (J I (b 1))).setCell ⟨w.heap.size,3,none⟩ (J I (b 2))).setCell ⟨w.heap.size,4,none⟩ (J I (b 3))).setCell ⟨w.heap.size,5,none⟩ (J I (b 4))).setCell ⟨w.heap.size,6,none⟩ (J I (b 5))).setCell ⟨w.heap.size,7,none⟩ (J I (b 6))).setCell ⟨w.heap.size,8,none⟩ (J I (b 7))).setCell ⟨(w.heap.size+1),0,none⟩ (BT s)).setCell ⟨(w.heap.size+1),1,none⟩ (J I (a 0))).setCell ⟨(w.heap.size+1),2,none⟩ (J I (a 1))).setCell ⟨(w.heap.size+1),3,none⟩ (J I (a 2))).setCell ⟨(w.heap.size+1),4,none⟩ (J I (a 3))).setCell ⟨(w.heap.size+1),5,none⟩ (J I (a 4))).setCell ⟨(w.heap.size+1),6,none⟩ (J I (a 5))).setCell ⟨(w.heap.size+1),7,none⟩ (J I (a 6))).setCell ⟨(w.heap.size+1),8,none⟩ (J I (a 7))).alloc (BP #[BT s,J I (a 0),J I (a 1),J I (a 2),J I (a 3),J I (a 4),J I (a 5),J I (a 6),J I (a 7)] 168)).alloc (BP #[BT t,J I (b 0),J I (b 1),J I (b 2),J I (b 3),J I (b 4),J I (b 5),J I (b 6),J I (b 7)] 168)) w.heap.size t b/\RLies ((((((((((((((((((((w1.setCell ⟨w.heap.size,0,none⟩ (BT t)).setCell ⟨w.heap.size,1,none⟩ (J I (b 0))).setCell ⟨w.heap.size,2,none⟩ (J I (b 1))).setCell ⟨w.heap.size,3,none⟩ (J I (b 2))).setCell ⟨w.heap.size,4,none⟩ (J I (b 3))).setCell ⟨w.heap.size,5,none⟩ (J I (b 4))).setCell ⟨w.heap.size,6,none⟩ (J I (b 5))).setCell ⟨w.heap.size,7,none⟩ (J I (b 6))).setCell ⟨w.heap.size,8,none⟩ (J I (b 7))).setCell ⟨(w.heap.size+1),0,none⟩ (BT s)).setCell ⟨(w.heap.size+1),1,none⟩ (J I (a 0))).setCell ⟨(w.heap.size+1),2,none⟩ (J I (a 1))).setCell ⟨(w.heap.size+1),3,none⟩ (J I (a 2))).setCell ⟨(w.heap.size+1),4,none⟩ (J I (a 3))).setCell ⟨(w.heap.size+1),5,none⟩ (J I (a 4))).setCell ⟨(w.heap.size+1),6,none⟩ (J I (a 5))).setCell ⟨(w.heap.size+1),7,none⟩ (J I (a 6))).setCell ⟨(w.heap.size+1),8,none⟩ (J I (a 7))).alloc (BP #[BT s,J I (a 0),J I (a 1),J I (a 2),J I (a 3),J I (a 4),J I (a 5),J I (a 6),J I (a 7)] 168)).alloc (BP #[BT t,J I (b 0),J I (b 1),J I (b 2),J I (b 3),J I (b 4),J I (b 5),J I (b 6),J I (b 7)] 168)) (w.heap.size+1) s a/\RLies ((((((((((((((((((((w1.setCell ⟨w.heap.size,0,none⟩ (BT t)).setCell ⟨w.heap.size,1,none⟩ (J I (b 0))).setCell ⟨w.heap.size,2,none⟩ (J I (b 1))).setCell ⟨w.heap.size,3,none⟩ (J I (b 2))).setCell ⟨w.heap.size,4,none⟩ (J I (b 3))).setCell ⟨w.heap.size,5,none⟩ (J I (b 4))).setCell ⟨w.heap.size,6,none⟩ (J I (b 5))).setCell ⟨w.heap.size,7,none⟩ (J I (b 6))).setCell ⟨w.heap.size,8,none⟩ (J I (b 7))).setCell ⟨(w.heap.size+1),0,none⟩ (BT s)).setCell ⟨(w.heap.size+1),1,none⟩ (J I (a 0))).setCell ⟨(w.heap.size+1),2,none⟩ (J I (a 1))).setCell ⟨(w.heap.size+1),3,none⟩ (J I (a 2))).setCell ⟨(w.heap.size+1),4,none⟩ (J I (a 3))).setCell ⟨(w.heap.size+1),5,none⟩ (J I (a 4))).setCell ⟨(w.heap.size+1),6,none⟩ (J I (a 5))).setCell ⟨(w.heap.size+1),7,none⟩ (J I (a 6))).setCell ⟨(w.heap.size+1),8,none⟩ (J I (a 7))).alloc (BP #[BT s,J I (a 0),J I (a 1),J I (a 2),J I (a 3),J I (a 4),J I (a 5),J I (a 6),J I (a 7)] 168)).alloc (BP #[BT t,J I (b 0),J I (b 1),J I (b 2),J I (b 3),J I (b 4),J I (b 5),J I (b 6),J I (b 7)] 168)) (w.heap.size+1+1) false (fun _=>0) /\
  RLies ((((((((((((((((((((w1.setCell ⟨w.heap.size,0,none⟩ (BT t)).setCell ⟨w.heap.size,1,none⟩ (J I (b 0))).setCell ⟨w.heap.size,2,none⟩ (J I (b 1))).setCell ⟨w.heap.size,3,none⟩ (J I (b 2))).setCell ⟨w.heap.size,4,none⟩ (J I (b 3))).setCell ⟨w.heap.size,5,none⟩ (J I (b 4))).setCell ⟨w.heap.size,6,none⟩ (J I (b 5))).setCell ⟨w.heap.size,7,none⟩ (J I (b 6))).setCell ⟨w.heap.size,8,none⟩ (J I (b 7))).setCell ⟨(w.heap.size+1),0,none⟩ (BT s)).setCell ⟨(w.heap.size+1),1,none⟩ (J I (a 0))).setCell ⟨(w.heap.size+1),2,none⟩ (J I (a 1))).setCell ⟨(w.heap.size+1),3,none⟩ (J I (a 2))).setCell ⟨(w.heap.size+1),4,none⟩ (J I (a 3))).setCell ⟨(w.heap.size+1),5,none⟩ (J I (a 4))).setCell ⟨(w.heap.size+1),6,none⟩ (J I (a 5))).setCell ⟨(w.heap.size+1),7,none⟩ (J I (a 6))).setCell ⟨(w.heap.size+1),8,none⟩ (J I (a 7))).alloc (BP #[BT s,J I (a 0),J I (a 1),J I (a 2),J I (a 3),J I (a 4),J I (a 5),J I (a 6),J I (a 7)] 168)).alloc (BP #[BT t,J I (b 0),J I (b 1),J I (b 2),J I (b 3),J I (b 4),J I (b 5),J I (b 6),J I (b 7)] 168)) (w1.heap.size+1) t b/\B9 w.heap.size w ((((((((((((((((((((w1.setCell ⟨w.heap.size,0,none⟩ (BT t)).setCell ⟨w.heap.size,1,none⟩ (J I (b 0))).setCell ⟨w.heap.size,2,none⟩ (J I (b 1))).setCell ⟨w.heap.size,3,none⟩ (J I (b 2))).setCell ⟨w.heap.size,4,none⟩ (J I (b 3))).setCell ⟨w.heap.size,5,none⟩ (J I (b 4))).setCell ⟨w.heap.size,6,none⟩ (J I (b 5))).setCell ⟨w.heap.size,7,none⟩ (J I (b 6))).setCell ⟨w.heap.size,8,none⟩ (J I (b 7))).setCell ⟨(w.heap.size+1),0,none⟩ (BT s)).setCell ⟨(w.heap.size+1),1,none⟩ (J I (a 0))).setCell ⟨(w.heap.size+1),2,none⟩ (J I (a 1))).setCell ⟨(w.heap.size+1),3,none⟩ (J I (a 2))).setCell ⟨(w.heap.size+1),4,none⟩ (J I (a 3))).setCell ⟨(w.heap.size+1),5,none⟩ (J I (a 4))).setCell ⟨(w.heap.size+1),6,none⟩ (J I (a 5))).setCell ⟨(w.heap.size+1),7,none⟩ (J I (a 6))).setCell ⟨(w.heap.size+1),8,none⟩ (J I (a 7))).alloc (BP #[BT s,J I (a 0),J I (a 1),J I (a 2),J I (a 3),J I (a 4),J I (a 5),J I (a 6),J I (a 7)] 168)).alloc (BP #[BT t,J I (b 0),J I (b 1),J I (b 2),J I (b 3),J I (b 4),J I (b 5),J I (b 6),J I (b 7)] 168)):=by
 have hs:((((((((((((((((((w1.setCell ⟨w.heap.size,0,none⟩ (BT t)).setCell ⟨w.heap.size,1,none⟩ (J I (b 0))).setCell ⟨w.heap.size,2,none⟩ (J I (b 1))).setCell ⟨w.heap.size,3,none⟩ (J I (b 2))).setCell ⟨w.heap.size,4,none⟩ (J I (b 3))).setCell ⟨w.heap.size,5,none⟩ (J I (b 4))).setCell ⟨w.heap.size,6,none⟩ (J I (b 5))).setCell ⟨w.heap.size,7,none⟩ (J I (b 6))).setCell ⟨w.heap.size,8,none⟩ (J I (b 7))).setCell ⟨(w.heap.size+1),0,none⟩ (BT s)).setCell ⟨(w.heap.size+1),1,none⟩ (J I (a 0))).setCell ⟨(w.heap.size+1),2,none⟩ (J I (a 1))).setCell ⟨(w.heap.size+1),3,none⟩ (J I (a 2))).setCell ⟨(w.heap.size+1),4,none⟩ (J I (a 3))).setCell ⟨(w.heap.size+1),5,none⟩ (J I (a 4))).setCell ⟨(w.heap.size+1),6,none⟩ (J I (a 5))).setCell ⟨(w.heap.size+1),7,none⟩ (J I (a 6))).setCell ⟨(w.heap.size+1),8,none⟩ (J I (a 7))).heap.size=w1.heap.size:=by rw[Jjt,Jjt]
 refine⟨(((Jg3 LA).nine (by omega)).alloc _).alloc _,((Jg3 (LB.nine (by omega))).alloc _).alloc _,(((LZ.nine (by omega)).nine (by omega)).alloc _).alloc _,?_,?_⟩
 ·have:=Jac (((((((((((((((((((w1.setCell ⟨w.heap.size,0,none⟩ (BT t)).setCell ⟨w.heap.size,1,none⟩ (J I (b 0))).setCell ⟨w.heap.size,2,none⟩ (J I (b 1))).setCell ⟨w.heap.size,3,none⟩ (J I (b 2))).setCell ⟨w.heap.size,4,none⟩ (J I (b 3))).setCell ⟨w.heap.size,5,none⟩ (J I (b 4))).setCell ⟨w.heap.size,6,none⟩ (J I (b 5))).setCell ⟨w.heap.size,7,none⟩ (J I (b 6))).setCell ⟨w.heap.size,8,none⟩ (J I (b 7))).setCell ⟨(w.heap.size+1),0,none⟩ (BT s)).setCell ⟨(w.heap.size+1),1,none⟩ (J I (a 0))).setCell ⟨(w.heap.size+1),2,none⟩ (J I (a 1))).setCell ⟨(w.heap.size+1),3,none⟩ (J I (a 2))).setCell ⟨(w.heap.size+1),4,none⟩ (J I (a 3))).setCell ⟨(w.heap.size+1),5,none⟩ (J I (a 4))).setCell ⟨(w.heap.size+1),6,none⟩ (J I (a 5))).setCell ⟨(w.heap.size+1),7,none⟩ (J I (a 6))).setCell ⟨(w.heap.size+1),8,none⟩ (J I (a 7))).alloc (BP #[BT s,J I (a 0),J I (a 1),J I (a 2),J I (a 3),J I (a 4),J I (a 5),J I (a 6),J I (a 7)] 168)) t b 168;rwa [JE,hs]at this
 ·have h1:B9 w.heap.size w ((((((((((((((((((w1.setCell ⟨w.heap.size,0,none⟩ (BT t)).setCell ⟨w.heap.size,1,none⟩ (J I (b 0))).setCell ⟨w.heap.size,2,none⟩ (J I (b 1))).setCell ⟨w.heap.size,3,none⟩ (J I (b 2))).setCell ⟨w.heap.size,4,none⟩ (J I (b 3))).setCell ⟨w.heap.size,5,none⟩ (J I (b 4))).setCell ⟨w.heap.size,6,none⟩ (J I (b 5))).setCell ⟨w.heap.size,7,none⟩ (J I (b 6))).setCell ⟨w.heap.size,8,none⟩ (J I (b 7))).setCell ⟨(w.heap.size+1),0,none⟩ (BT s)).setCell ⟨(w.heap.size+1),1,none⟩ (J I (a 0))).setCell ⟨(w.heap.size+1),2,none⟩ (J I (a 1))).setCell ⟨(w.heap.size+1),3,none⟩ (J I (a 2))).setCell ⟨(w.heap.size+1),4,none⟩ (J I (a 3))).setCell ⟨(w.heap.size+1),5,none⟩ (J I (a 4))).setCell ⟨(w.heap.size+1),6,none⟩ (J I (a 5))).setCell ⟨(w.heap.size+1),7,none⟩ (J I (a 6))).setCell ⟨(w.heap.size+1),8,none⟩ (J I (a 7))):=Jbn (Jbn HB (Nat.le_refl _)) (by omega);have h2:=h1.size;exact(h1.alloc h2 _).alloc (by rw[JE];omega) _
theorem Jpx(s t:Bool)(a b:Nat->Int)(w:BV)(ha:Digs a)(hb:Digs b)(ig:s≠t)(ie:val a 8<val b 8):
  Cd Tryz.prog 191 #[wv s a,wv t b] w fun e w'=>∃ u d,e = BZ (wv u d)/\BU (Digs d/\sv u d=sv s a+sv t b)/\BU (B9 w.heap.size w w'):=by
 have HS:BU _:=fun w=>Jhe s t a b w ha hb;have HC:BU _:=ha;have HA:BU _:=hb;have HF:BU (s≠t/\val a 8<val b 8):=⟨ig,ie⟩
 have ac:(s == t)=false:=by simp[ig]
 clear ha hb ig ie;go_enter func191,ntmps191;go_wp2_with (fail);refine(HS.out _).mono ?_;rintro e w1 ⟨c,rfl,SC,B⟩;have eJ:c<0:=by have:=HF.out.2;rcases SC.out with h | h | h <;> omega
 have LA:BU _:=RLies.below (RLies.alloc (RLies.alloc (by show RLies _ _ _ _;have:=Jac w s a 168;simpa only[JE] using this) _) _) B.out (by first |(simp;done) |(simp;omega));have LB:BU _:=RLies.below (RLies.alloc (by show RLies _ _ _ _;have:=Jac (w.alloc (BP #[BT s,J I (a 0),J I (a 1),J I (a 2),J I (a 3),J I (a 4),J I (a 5),J I (a 6),J I (a 7)] 168)) t b 168;simpa only[JE] using this) _) B.out (by first |(simp;done) |(simp;omega));have LZ:BU _:=RLies.below (by show RLies _ _ _ _;have:=Jac ((w.alloc (BP #[BT s,J I (a 0),J I (a 1),J I (a 2),J I (a 3),J I (a 4),J I (a 5),J I (a 6),J I (a 7)] 168)).alloc (BP #[BT t,J I (b 0),J I (b 1),J I (b 2),J I (b 3),J I (b 4),J I (b 5),J I (b 6),J I (b 7)] 168)) false (fun _=>0) 168;simpa only[JE] using this) B.out (by first |(simp;done) |(simp;omega));have iV:=B.out.size;simp only[JE]at iV;have HB:BU _:=Ju (w:=w) (((Jd w _).alloc (by simp) _).alloc (by simp;omega) _) B.out;obtain⟨a0,a1,a2,a3,a4,a5,a6,a7,a8⟩:=LA.out.cells;obtain⟨g0,g1,g2,g3,g4,g5,g6,g7,g8⟩:=LA.out.frees;obtain⟨b0,b1,b2,b3,b4,b5,b6,b7,b8⟩:=LB.out.cells;obtain⟨h0,h1,h2,h3,h4,h5,h6,h7,h8⟩:=LB.out.frees;have m0:w.heap.size<w1.heap.size:=by omega
 have m1:w.heap.size+1<w1.heap.size:=by omega
 have n0:w.heap.size≠w1.heap.size:=by omega
 have n1:w.heap.size+1≠w1.heap.size:=by omega
 have n2:w1.heap.size≠w.heap.size:=by omega
 have n3:w1.heap.size≠w.heap.size+1:=by omega
 clear HS SC B;go_wp2;obtain⟨x1,x2,x3,x4,x5⟩:=Jt2 LA.out LB.out LZ.out HB.out;have X1:BU _:=x1;have X2:BU _:=x2;have X3:BU _:=x3;have X4:BU _:=x4;have X5:BU _:=x5;clear x1 x2 x3 x4 x5 LA LB LZ HB a0 a1 a2 a3 a4 a5 a6 a7 a8 g0 g1 g2 g3 g4 g5 g6 g7 g8 b0 b1 b2 b3 b4 b5 b6 b7 b8 h0 h1 h2 h3 h4 h5 h6 h7 h8;obtain⟨tQ,h_⟩:∃ o,o=w1.heap.size+1:=⟨_,rfl⟩
 rw[<- h_];rw[<- h_]at X4;have nD:w.heap.size+3<tQ:=by omega
 clear h_
 go_loopw [11,12] (fun cc i wr=>∃(k:Nat) (d:Nat->Int) (c:Int),k<=8/\i=J I k/\cc=J I c/\0<=c/\c<=1/\BU (Digs d/\val d k-c*16777216 ^ k=val b k-val a k)/\BU (RLies wr w.heap.size t b)/\BU (RLies wr (w.heap.size+1) s a)/\BU (RLies wr (w.heap.size+1+1) false (fun _=>0))/\BU (RLies wr tQ t d)/\BU (B9 w.heap.size w wr)) (fun _ i _=>8-(intOf i).toNat)
 case atStart =>
  exact⟨0,b,0,Nat.zero_le _,rfl,rfl,by omega,by omega,⟨HA.out,by simp[val]⟩,X1,X2,X3,X4,X5⟩
 case round =>
  obtain⟨k,d,c,hk,rfl,rfl,eJ,bU,HD,HL,HR,HZ,HO,HB⟩:=hrel;by_cases aG:k<8
  ·have e1:=HL.out.dig k aG;have e2:=HR.out.dig k aG;have e3:=HO.out.dig k aG;have e4:=HO.out.free (1+k) (by omega);have i0:(0:Int)<=(k:Int):=by omega
   have i1:(k:Int)<8:=by omega
   have b1:=HA.out k aG;have b2:=HC.out k aG;have HN:BU _:=fun n c' hn=>Jlg (n:=n) (c':=c') HA.out HC.out HD.out.1 aG ⟨eJ,bU⟩ HD.out.2 hn;obtain⟨p,hp⟩:∃ p,p=b k:=⟨_,rfl⟩
   obtain⟨q,hq⟩:∃ q,q=a k:=⟨_,rfl⟩
   rw[<- hp]at e1 b1 HN;rw[<- hq]at e2 b2 HN;clear hp hq;by_cases hneg:p-q-c<0
   ·have HM:BU _:=HN.out _ _ (Or.inl ⟨hneg,rfl,rfl⟩);clear HN;go_wp2;go_region
    all_goals go_wp2
    all_goals go_roundw
    all_goals try (case rel=>obtain⟨n1,n2,n3,n4⟩:=HM.out;exact⟨k+1,put d k (p-q-c+16777216),1,by omega,by go_num,rfl,n2,n3,⟨n1,n4⟩,(HL.out.otherAt (by omega) _).drew,(HR.out.otherAt (by omega) _).drew,(HZ.out.otherAt (by omega) _).drew,(HO.out.put aG _).drew,(Jid HB.out (by omega) _).drew⟩)
    all_goals try (case measure=>simp[intOf];omega)
   ·have HM:BU _:=HN.out _ _ (Or.inr ⟨by omega,rfl,rfl⟩);clear HN;go_wp2;go_region
    all_goals go_wp2
    all_goals go_roundw
    all_goals try (case rel=>obtain⟨n1,n2,n3,n4⟩:=HM.out;exact⟨k+1,put d k (p-q-c),0,by omega,by go_num,rfl,n2,n3,⟨n1,n4⟩,(HL.out.otherAt (by omega) _).drew,(HR.out.otherAt (by omega) _).drew,(HZ.out.otherAt (by omega) _).drew,(HO.out.put aG _).drew,(Jid HB.out (by omega) _).drew⟩)
    all_goals try (case measure=>simp[intOf];omega)
  ·have nV:8<=(k:Int):=by omega
   have e8:k=8:=by omega
   have HE:BU (Digs d/\sv t d=sv s a+sv t b):=by
    obtain⟨d1,d2⟩:=HD.out;rw[e8]at d2;exact⟨d1,Jt1 HF.out.1 (Jk8 d1 eJ d2 (Int.le_of_lt HF.out.2))⟩
   obtain⟨c0,c1,c2,c3,c4,c5,c6,c7,c8⟩:=HO.out.cells;obtain⟨r0,r1,r2,r3,r4,r5,r6,r7,r8⟩:=HZ.out.cells;obtain⟨f0,f1,f2,f3,f4,f5,f6,f7,f8⟩:=HZ.out.frees;clear e8 HD HF HA HC;go_wp2
   try simp only[Exit.inBlock,Exit.then]
   refine bodyPost_ret (by simp[results,results191,go_sem,r0,r1,r2,r3,r4,r5,r6,r7,r8];try rfl) rfl ?_;exact⟨_,d,rfl,HE.out,Jbn HB.out (by omega)⟩
theorem Jj6(s t:Bool)(a b:Nat->Int)(w:BV)(ha:Digs a)(hb:Digs b)(aP:(sv s a+sv t b).natAbs<6277101735386680763835789423207666416102355444464034512896):
  Cd Tryz.prog 191 #[wv s a,wv t b] w fun e w'=>∃ u d,e = BZ (wv u d)/\BU (Digs d/\sv u d=sv s a+sv t b)/\BU (B9 w.heap.size w w'):=by
 by_cases ig:s=t
 ·subst ig;exact Jp8 s a b w ha hb aP
 ·by_cases ie:val b 8<=val a 8
  ·exact Joy s t a b w ha hb ig ie
  ·exact Jpx s t a b w ha hb ig (by omega)
theorem Jm3(t:Bool)(b:Nat->Int):sv (!t) b = -sv t b:=by unfold sv;cases t <;> simp
theorem Jjq(s t:Bool)(a b:Nat->Int)(w:BV)(ha:Digs a)(hb:Digs b)(aP:(sv s a-sv t b).natAbs<6277101735386680763835789423207666416102355444464034512896):
  Cd Tryz.prog 190 #[wv s a,wv t b] w fun e w'=>∃ c,e = BZ (BT c)/\BU (c=true↔sv s a<sv t b)/\BU (B9 w.heap.size w w'):=by
 have HP:BU _:=fun w=>Jj6 s (!t) a b w ha hb (by rw[Jm3];exact aP);clear ha hb aP;go_enter func190,ntmps190;go_wp2_with (fail);refine(HP.out _).mono ?_;rintro e w1 ⟨u,d,rfl,SC,B⟩;have HS:BU _:=fun w=>Jrp u d w SC.out.1;have HB:BU _:=Ju (w:=w) ((Jd w _).alloc (by simp) _) B.out;clear B HP;go_wp2_with (fail);refine(HS.out _).mono ?_;rintro e w2 ⟨c,rfl,SD,B⟩;have aZ:BU _:=Ju HB.out B.out;clear B HS HB;go_wp2_with (fail);go_ret;refine⟨_,rfl,?_,aZ.out⟩;have h1:=SD.out.2.2;have h2:=SC.out.2;rw[Jm3]at h2
 show _↔_
 simp only[decide_eq_true_eq];omega
theorem Jit(d:Nat->Int)(n:Nat):val d (n+1)=val d n+d n*16777216 ^ n:=rfl
theorem Jfx(b:Nat->Int)(n:Nat):∀ m,val b (n+m)=val b n+16777216 ^ n*val (fun j=>b (n+j)) m
 | 0=>by simp[val]
 | m+1=>by
  rw[<- Nat.add_assoc];simp only[val];rw[Jfx b n m,Int.pow_add]
  grind
theorem Jm6{a b d:Nat->Int}{k:Nat}(h:∃ m:Int,val d 8+m*16777216 ^ 8=val a k*val b 8)(hz:a k=0):∃ m:Int,val d 8+m*16777216 ^ 8=val a (k+1)*val b 8:=by
 obtain⟨m,h⟩:=h;exact⟨m,by rw[Jit a k,hz,Int.zero_mul,Int.add_zero];exact h⟩
theorem Jnl{b d e:Nat->Int}{k j:Nat}{x c y o:Int}(hb:0<=y/\y<16777216)(hx:0<=x/\x<16777216)(ho:0<=o/\o<16777216)(he:Digs e)(hkj:k+j<8)(hc:0<=c/\c<16777216)(ey:y=b j)(eo:o=e (k+j))
  (h:val e 8+c*16777216 ^ (k+j)=val d 8+x*val b j*16777216 ^ k) :
  Digs (put e (k+j) ((o+x*y+c)%16777216))/\0<=(o+x*y+c) / 16777216/\(o+x*y+c) / 16777216<16777216 /\
  val (put e (k+j) ((o+x*y+c)%16777216)) 8+(o+x*y+c) / 16777216*16777216 ^ (k+(j+1))=val d 8+x*val b (j+1)*16777216 ^ k:=by
 have sO:0<=x*y:=Int.mul_nonneg hx.1 hb.1;have fj:x*y<=16777215*16777215:=Int.mul_le_mul (by omega) (by omega) hb.1 (by omega);refine⟨he.put _ ⟨Int.emod_nonneg _ (by omega),Int.emod_lt_of_pos _ (by omega)⟩,by omega,by omega,?_⟩;rw[Jpn _ _ _ 8 hkj,<- eo,<- Nat.add_assoc,Int.pow_succ];have:=Jsq (o:=o) (x:=x) (y:=y) h;rw[this,Jit b j,<- ey,Int.pow_add];generalize val d 8=D8 at *
 grind
theorem Jmq{a b d e:Nat->Int}{k j:Nat}{c:Int}(h:∃ m:Int,val d 8+m*16777216 ^ 8=val a k*val b 8)(hj:k+j=8)
  (hi:val e 8+c*16777216 ^ (k+j)=val d 8+a k*val b j*16777216 ^ k):∃ m:Int,val e 8+m*16777216 ^ 8=val a (k+1)*val b 8:=by
 obtain⟨m,h⟩:=h;have hs:=Jfx b j k;rw[Nat.add_comm j k,hj]at hs;have hp:(16777216:Int) ^ 8=16777216 ^ j*16777216 ^ k:=by rw[<- Int.pow_add,Nat.add_comm j k,hj]
 rw[hj]at hi;refine⟨c+m+a k*val (fun i=>b (j+i)) k,?_⟩;rw[Jit a k];rw[hp]at h hi ⊢;clear hp;generalize val (fun i=>b (j+i)) k=R at *;generalize val b 8=B8 at *;generalize val d 8=D8 at *;generalize val e 8=E8 at *;generalize(16777216:Int) ^ j=X at *;generalize(16777216:Int) ^ k=Y at *
 grind
theorem Jou{a b d:Nat->Int}{s t:Bool}(ha:Digs a)(hb:Digs b)(hd:Digs d)(h:∃ m:Int,val d 8+m*16777216 ^ 8=val a 8*val b 8)(aP:(sv s a*sv t b).natAbs<6277101735386680763835789423207666416102355444464034512896):
  sv (s != t) d=sv s a*sv t b:=by
 obtain⟨m,h⟩:=h;have h1:(16777216:Int) ^ 8=6277101735386680763835789423207666416102355444464034512896:=by decide
 rw[h1]at h;have d0:=hd.nonneg;have d1:=hd.lt;have hp:0<=val a 8*val b 8:=Int.mul_nonneg ha.nonneg hb.nonneg;have e:(sv s a*sv t b).natAbs=(val a 8*val b 8).natAbs:=by unfold sv;cases s <;> cases t <;> simp[Int.natAbs_mul]
 rw[e]at aP;have hv:val d 8=val a 8*val b 8:=by omega
 unfold sv;rw[hv];cases s <;> cases t <;> simp[Int.neg_mul,Int.mul_neg]
theorem RLies.sign{W:BV}{b:Nat}{s:Bool}{d:Nat->Int}(h:RLies W b s d)(t:Bool):RLies (W.setCell ⟨b,0,none⟩ (BT t)) b t d:=by
 have hn:=h.neg;refine⟨by simp[go_sem,hn],fun k hk=>?_,fun k hk=>?_⟩
 ·rw[<- h.dig k hk];simp[go_sem]
 ·rw[<- h.free k hk];simp[go_sem]
theorem Jeb(s t:Bool)(a b:Nat->Int)(w:BV)(ha:Digs a)(hb:Digs b)(aP:(sv s a*sv t b).natAbs<6277101735386680763835789423207666416102355444464034512896):
  Cd Tryz.prog 145 #[wv s a,wv t b] w fun e w'=>∃ u d,e = BZ (wv u d)/\BU (Digs d/\sv u d=sv s a*sv t b)/\BU (B9 w.heap.size w w'):=by
 have HE:BU _:=fun d (hd:Digs d) h=>Jou (s:=s) (t:=t) ha hb hd h aP;have HA:BU _:=ha;have HC:BU _:=hb;clear ha hb aP;go_enter func145,ntmps145;go_wp2
 go_loopw [6] (fun i wr=>∃(k:Nat) (d:Nat->Int),k<=8/\i=J I k/\BU (Digs d/\∃ m:Int,val d 8+m*16777216 ^ 8=val a k*val b 8)/\BU (RLies wr w.heap.size s a)/\BU (RLies wr (w.heap.size+1) t b)/\BU (RLies wr (w.heap.size+1+1) false (fun _=>0))/\BU (RLies wr (w.heap.size+1+1+1) false d)/\BU (B9 w.heap.size w wr)) (fun i _=>8-(intOf i).toNat)
 case atStart =>
  exact⟨0,fun _=>0,Nat.zero_le _,rfl,⟨fun j _=>by simp,0,by simp[val]⟩,(RLies.alloc (RLies.alloc (RLies.alloc (by show RLies _ _ _ _;have:=Jac w s a 168;simpa only[JE] using this) _) _) _),(RLies.alloc (RLies.alloc (by show RLies _ _ _ _;have:=Jac (w.alloc (BP #[BT s,J I (a 0),J I (a 1),J I (a 2),J I (a 3),J I (a 4),J I (a 5),J I (a 6),J I (a 7)] 168)) t b 168;simpa only[JE] using this) _) _),(RLies.alloc (by show RLies _ _ _ _;have:=Jac ((w.alloc (BP #[BT s,J I (a 0),J I (a 1),J I (a 2),J I (a 3),J I (a 4),J I (a 5),J I (a 6),J I (a 7)] 168)).alloc (BP #[BT t,J I (b 0),J I (b 1),J I (b 2),J I (b 3),J I (b 4),J I (b 5),J I (b 6),J I (b 7)] 168)) false (fun _=>0) 168;simpa only[JE] using this) _),(by show RLies _ _ _ _;have:=Jac (((w.alloc (BP #[BT s,J I (a 0),J I (a 1),J I (a 2),J I (a 3),J I (a 4),J I (a 5),J I (a 6),J I (a 7)] 168)).alloc (BP #[BT t,J I (b 0),J I (b 1),J I (b 2),J I (b 3),J I (b 4),J I (b 5),J I (b 6),J I (b 7)] 168)).alloc (BP #[BT false,J I 0,J I 0,J I 0,J I 0,J I 0,J I 0,J I 0,J I 0] 168)) false (fun _=>0) 168;simpa only[JE] using this),((((Jd w _).alloc (by simp) _).alloc (by simp;omega) _).alloc (by simp;omega) _)⟩
 case round =>
  obtain⟨k,d,hk,rfl,HD,HL,HR,HZ,HO,HB⟩:=hrel;by_cases aG:k<8
  ·have e1:=HL.out.dig k aG;have i0:(0:Int)<=(k:Int):=by omega
   have i1:(k:Int)<8:=by omega
   have b1:=HA.out k aG;obtain⟨x,hx⟩:∃ x,x=a k:=⟨_,rfl⟩
   rw[<- hx]at e1 b1;by_cases hz:x=0
   ·have HM:BU _:=Jm6 HD.out.2 (by rw[<- hx,hz]);clear hx;go_wp2
    go_roundw
    case rel=>exact⟨k+1,d,by omega,by go_num,⟨HD.out.1,HM.out⟩,HL.out,HR.out,HZ.out,HO.out,HB.out⟩
    case measure=>simp[intOf];omega
   ·have HX:BU _:=hx;clear hx;go_wp2
    go_loopw [7,8] (fun cc i wr=>∃(j:Nat) (e:Nat->Int) (c:Int),k+j<=8/\i=J I j/\cc=J I c/\0<=c/\c<16777216/\BU (Digs e/\val e 8+c*16777216 ^ (k+j)=val d 8+x*val b j*16777216 ^ k)/\BU (RLies wr w.heap.size s a)/\BU (RLies wr (w.heap.size+1) t b)/\BU (RLies wr (w.heap.size+1+1) false (fun _=>0))/\BU (RLies wr (w.heap.size+1+1+1) false e)/\BU (B9 w.heap.size w wr)) (fun _ i _=>8-(intOf i).toNat)
    case atStart=>exact⟨0,d,0,by omega,rfl,rfl,by omega,by omega,⟨HD.out.1,by simp[val]⟩,HL.out,HR.out,HZ.out,HO.out,HB.out⟩
    case round =>
     clear HL HR HZ HO HB e1;obtain⟨j,e,c,hj,rfl,rfl,eJ,bU,HI,HL,HR,HZ,HO,HB⟩:=hrel;by_cases hjl:k+j<8
     ·have e1:=HL.out.dig k aG;rw[<- HX.out]at e1;have e2:=HR.out.dig j (by omega);have e3:=HO.out.dig (k+j) hjl;have e4:=HO.out.free (1+(k+j)) (by omega);have j0:(0:Int)<=(j:Int):=by omega
      have j1:(j:Int)<8:=by omega
      have k0:(0:Int)<=(k:Int)+(j:Int):=by omega
      have k1:(k:Int)+(j:Int)<8:=by omega
      have b2:=HC.out j (by omega);have b3:=HI.out.1 (k+j) hjl;obtain⟨y,hy⟩:∃ y,y=b j:=⟨_,rfl⟩
      obtain⟨o,ho⟩:∃ o,o=e (k+j):=⟨_,rfl⟩
      rw[<- hy]at e2 b2;rw[<- ho]at e3 b3;have HN:BU _:=Jnl b2 b1 b3 HI.out.1 hjl ⟨eJ,bU⟩ hy ho HI.out.2;have sO:0<=x*y:=Int.mul_nonneg b1.1 b2.1;have fj:x*y<=16777215*16777215:=Int.mul_le_mul (by omega) (by omega) b2.1 (by omega);clear hy ho;go_wp2;go_region
      all_goals go_wp2
      all_goals go_roundw
      all_goals try (case rel=>obtain⟨n1,n2,n3,n4⟩:=HN.out;exact⟨j+1,put e (k+j) ((o+x*y+c)%16777216),(o+x*y+c) / 16777216,by omega,by go_num,rfl,n2,n3,⟨n1,n4⟩,(HL.out.otherAt (by omega) _).drew,(HR.out.otherAt (by omega) _).drew,(HZ.out.otherAt (by omega) _).drew,(HO.out.put hjl _).drew,(Jid HB.out (by omega) _).drew⟩)
      all_goals try (case measure=>simp[intOf];omega)
     ·have k8:¬ (k:Int)+(j:Int)<8:=by omega
      have HM:BU _:=Jmq (e:=e) (c:=c) HD.out.2 (by omega:k+j=8) (by rw[<- HX.out];exact HI.out.2);go_wp2
      go_roundw
      case rel=>exact⟨k+1,e,by omega,by go_num,⟨HI.out.1,HM.out⟩,HL.out,HR.out,HZ.out,HO.out,HB.out⟩
      case measure=>simp[intOf];omega
  ·have k8:8<=(k:Int):=by omega
   have HV:BU (Digs d/\sv (s != t) d=sv s a*sv t b):=by
    obtain⟨d1,d2⟩:=HD.out;rw[(by omega:k=8)]at d2;exact⟨d1,HE.out d d1 d2⟩
   have HO':BU _:=HO.out.sign (s != t);obtain⟨q0,q1,q2,q3,q4,q5,q6,q7,q8⟩:=HO.out.cells;have y0:=HO.out.free 0 (by omega);obtain⟨r0,r1,r2,r3,r4,r5,r6,r7,r8⟩:=HZ.out.cells;obtain⟨f0,f1,f2,f3,f4,f5,f6,f7,f8⟩:=HZ.out.frees;have z0:=HL.out.neg;have z1:=HR.out.neg;clear HD HA HC HE;go_wp2
   try simp only[Exit.inBlock,Exit.then]
   refine bodyPost_ret (by simp[results,results145,go_sem,r0,r1,r2,r3,r4,r5,r6,r7,r8];try rfl) rfl ?_;exact⟨_,d,rfl,HV.out,Jbn (Jid HB.out (by omega) _) (by omega)⟩
def top(d:Nat->Int)(k:Nat):Int:=val (fun j=>d (k+j)) (8-k)
theorem Jpa(d:Nat->Int):top d 8=0:=rfl
theorem Jld(d:Nat->Int):top d 0=val d 8:=Jfn 8 fun j _=>by simp
theorem Jl7(d:Nat->Int)(k:Nat)(hk:k<8):top d k=top d (k+1)*16777216+d k:=by
 unfold top;have h:=Jfx (fun j=>d (k+j)) 1 (8-(k+1));rw[show 1+(8-(k+1))=8-k by omega]at h;rw[h];have e:val (fun j=>d (k+(1+j))) (8-(k+1))=val (fun j=>d (k+1+j)) (8-(k+1)):=Jfn _ fun j _=>by rw[<- Nat.add_assoc]
 rw[e];have e1:val (fun j=>d (k+j)) 1=d k:=by simp[val]
 rw[e1,Int.pow_succ,Int.pow_zero];generalize val (fun j=>d (k+1+j)) (8-(k+1))=R;omega
theorem Jsp{d:Nat->Int}(hd:Digs d)(k:Nat)(hk:k<=8):top d k<=val d 8:=by
 have h:=Jfx d k (8-k);rw[show k+(8-k)=8 by omega]at h;have h0:0<=val d k:=Jcr k fun j hj=>(hd j (by omega)).1;have h1:0<=top d k:=Jcr _ fun j hj=>(hd (k+j) (by omega)).1;have h2:=pos k;have h3:1*top d k<=16777216 ^ k*top d k:=Int.mul_le_mul_of_nonneg_right (by omega) h1;unfold top at *;omega
theorem Jip{d:Nat->Int}(hd:Digs d)(k:Nat)(hk:k<=8):0<=top d k:=Jcr _ fun j hj=>(hd (k+j) (by omega)).1
def Jd0:Nat->Int
 | 0=>0
 | m+1=>2 ^ m
theorem Jh1(m:Nat):(2:Int) ^ m / 2=Jd0 m:=by
 cases m with
 | zero=>rfl
 | succ m=>simp only[Jd0,Int.pow_succ];omega
theorem Jct(m:Nat):(0:Int)<2 ^ m:=Int.pow_pos (by omega)
theorem Jsi{m:Nat}(h:m<24):(2:Int) ^ m<=8388608:=by
 have h1:(2:Int) ^ 23=2 ^ m*2 ^ (23-m):=by rw[<- Int.pow_add];congr 1;omega
 have h2:=Jct (23-m);have h3:=Jct m;have h4:(2:Int) ^ m*1<=2 ^ m*2 ^ (23-m):=Int.mul_le_mul_of_nonneg_left (by omega) (by omega);have h5:(2:Int) ^ 23=8388608:=by decide
 omega
theorem Jl3{P x N q r C:Int}{m:Nat}(hm:m<24)(hN:N=P*2 ^ (24-(m+1))+x / 2 ^ (m+1))(h:q*C+r=N):2*q*C+(2*r+x / 2 ^ m%2)=P*2 ^ (24-m)+x / 2 ^ m:=by
 have e:x / 2 ^ (m+1)=x / 2 ^ m / 2:=by rw[Int.pow_succ,Int.ediv_ediv_of_nonneg (Int.le_of_lt (Jct m))]
 have e2:(2:Int) ^ (24-m)=2 ^ (24-(m+1))*2:=by rw[<- Int.pow_succ];congr 1;omega
 rw[e]at hN;rw[e2];generalize x / 2 ^ m=y at *;generalize(2:Int) ^ (24-(m+1))=Z at *;have h2:y / 2*2+y%2=y:=by omega
 subst hN
 grind
theorem Jh0{P x N q r C V:Int}{m:Nat}(hm:m<24)(hP:0<=P)(hx:0<=x)(hr:0<=r)(hC:0<C)(hN:N=P*2 ^ (24-(m+1))+x / 2 ^ (m+1))(h:q*C+r=N)(hq:2305843009213693951<q)(hV:P*16777216+x<=V):
  4611686018427387904<=V / C:=by
 apply(Int.le_ediv_iff_mul_le hC).2
 have e1:(16777216:Int)=2 ^ (24-(m+1))*2 ^ (m+1):=by rw[<- Int.pow_add,show 24-(m+1)+(m+1)=24 by omega];decide
 have h1:=Jct (24-(m+1));have h2:=Jct m;have h3:(2:Int) ^ (m+1)=2 ^ m*2:=Int.pow_succ ..;have h4:0<=P*2 ^ (24-(m+1)):=Int.mul_nonneg hP (by omega);have h5:P*2 ^ (24-(m+1))*2<=P*2 ^ (24-(m+1))*2 ^ (m+1):=Int.mul_le_mul_of_nonneg_left (by omega) h4;have h6:P*16777216=P*2 ^ (24-(m+1))*2 ^ (m+1):=by rw[Int.mul_assoc,<- e1]
 have h7:x / 2 ^ (m+1)*2<=x:=by
  have a:=Int.emod_add_mul_ediv x (2 ^ (m+1));have b:=Int.emod_nonneg x (by omega:(2:Int) ^ (m+1)≠0);have c:0<=x / 2 ^ (m+1):=Int.ediv_nonneg hx (by omega);have d:2*(x / 2 ^ (m+1))<=2 ^ (m+1)*(x / 2 ^ (m+1)):=Int.mul_le_mul_of_nonneg_right (by omega) c;omega
 have h8:2305843009213693952*C<=q*C:=Int.mul_le_mul_of_nonneg_right (by omega) (by omega);omega
theorem Jmr{n:Bool}{d:Nat->Int}{q r C:Int}(hC:0<C)(d_:0<=r)(hr:r<C)(h:q*C+r=val d 8):sv n d / C=if n then (if r=0 then -q else -(q+1)) else q:=by
 have hd:=Fx.div_of (n:=val d 8) (q:=q) hC (by omega) (by rw[Int.add_mul];omega);unfold sv;cases n
 ·simp[hd.1]
 ·simp only[if_true];rw[Fx.neg_div hC,hd.1,hd.2];have:(val d 8-q*C=0)↔r=0:=by omega
  simp[this]
theorem Jiy{n:Bool}{d:Nat->Int}{C:Int}(hC:0<C)(h:4611686018427387904<=val d 8 / C):Fx.great (sv n d / C)=true:=by
 rw[Fx.great_iff];unfold sv;cases n
 ·simp;omega
 ·simp only[if_true];rw[Fx.neg_div hC]
  split <;> omega
theorem Jrf(s:Bool)(a:Nat->Int)(c:Int)(w:BV)(ha:Digs a)(hc:0<c)(bF:c<=4611686018427387903):
  Cd Tryz.prog 144 #[wv s a,J I c] w fun e w'=>∃ n ok,e = BZ (.tuple #[J I n,BT ok])/\BU (ok = !Fx.great (sv s a / c)/\n=if ok then sv s a / c else 0)/\BU (B9 w.heap.size w w'):=by
 obtain⟨C,hC⟩:∃ C,C=c:=⟨_,rfl⟩
 have kK:0<C:=by omega
 have hC1:C<=4611686018427387903:=by omega
 rw[<- hC];have HA:BU _:=ha;have HG:BU (4611686018427387904<=val a 8 / C->Fx.great (sv s a / C)=true):=Jiy kK;have HE:BU (∀ q r,0<=r->r<C->q*C+r=val a 8->sv s a / C=if s then (if r=0 then -q else -(q+1)) else q):=fun q r h1 h2 h3=>Jmr kK h1 h2 h3;clear ha;go_enter func144,ntmps144;go_wp2;rw[<- hC];clear hC
 go_loopw [7,8,9] (fun qq rr i wr=>∃(k:Nat) (q r:Int),k<=8/\i=J I ((k:Int)-1)/\qq=J I q/\rr=J I r/\0<=q/\q<=4611686018427387903/\0<=r/\r<C/\BU (q*C+r=top a k)/\BU (RLies wr w.heap.size s a)/\BU (B9 w.heap.size w wr)) (fun _ _ i _=>(intOf i+1).toNat)
 case atStart=>exact⟨8,0,0,Nat.le_refl _,rfl,rfl,rfl,by omega,by omega,by omega,kK,by show _=_;rw[Jpa];simp,Jac w s a 168,Jd w _⟩
 case round =>
  obtain⟨k,q,r,hk,rfl,rfl,rfl,fy,fK,d_,dD,HI,HL,HB⟩:=hrel
  match k,hk,HI with
  | 0,_,HI =>
   have HV:BU _:=HE.out q r d_ dD (by rw[<- Jld];exact HI.out);clear HE HG HI HA;cases s
   ·skip
    go_wp2
    go_ret2
    exact⟨q,true,rfl,⟨by rw[HV.out,if_neg (by simp),(Fx.not_great _).2 ⟨by omega,fK⟩];rfl,by rw[HV.out];simp⟩,HB.out⟩
   ·skip
    rcases Int.lt_trichotomy r 0 with hr | hr | hr
    ·omega
    ·subst hr;rw[if_pos (by simp),if_pos rfl]at HV;go_wp2
     go_ret2
     exact⟨-q,true,rfl,⟨by rw[HV.out,(Fx.not_great _).2 ⟨by omega,by omega⟩];rfl,by rw[HV.out];simp⟩,HB.out⟩
    ·rw[if_pos (by simp),if_neg (by omega)]at HV;by_cases hm:q=4611686018427387903
     ·subst hm;go_wp2
      go_ret2
      exact⟨0,false,rfl,⟨by rw[HV.out];decide,by simp⟩,HB.out⟩
     ·go_wp2
      go_ret2
      exact⟨-(q+1),true,rfl,⟨by rw[HV.out,(Fx.not_great _).2 ⟨by omega,by omega⟩];rfl,by rw[HV.out];simp⟩,HB.out⟩
  | k+1,hk,HI =>
   have e:((k+1:Nat):Int)-1=(k:Int):=by omega
   rw[e];have i0:(0:Int)<=(k:Int):=by omega
   have i1:(k:Int)<8:=by omega
   have c0:=HL.out.dig k (by omega);have b0:=HA.out k (by omega);have HT:BU _:=Jl7 a k (by omega);have HP:BU _:=Jip HA.out (k+1) (by omega);have HW:BU _:=Jsp HA.out k (by omega);obtain⟨x,hx⟩:∃ x,x=a k:=⟨_,rfl⟩
   obtain⟨P,hP⟩:∃ P,P=top a (k+1):=⟨_,rfl⟩
   rw[<- hx]at c0 b0 HT;rw[<- hP]at HT HP HI;have HX:BU _:=hx;clear hx hP e;by_cases hskip:x=0/\q=0/\r=0
   ·obtain⟨rfl,rfl,rfl⟩:=hskip;have HM:BU (0*C+0=top a k):=by show _=_;rw[HT.out,<- HI.out];omega
    go_wp2
    go_roundw
    case rel=>exact⟨k,0,0,by omega,by go_num,rfl,rfl,by omega,by omega,by omega,kK,HM.out,HL.out,HB.out⟩
    case measure=>show(((k:Int)-1)+1).toNat<((k:Int)+1).toNat;omega
   ·have nE:x≠0\/(x=0/\q≠0)\/(x=0/\q=0/\r≠0):=by omega
    clear hskip;rcases nE with g |⟨g,g'⟩ |⟨g,g',g''⟩
    all_goals go_wp2
    all_goals try clear g''
    all_goals try clear g'
    all_goals clear g
    all_goals (
     go_loopw [7,8,10] (fun qq rr bb wr=>∃(m:Nat) (q r:Int),m<=24/\bb=J I (Jd0 m)/\qq=J I q/\rr=J I r/\0<=q/\q<=4611686018427387903/\0<=r/\r<C/\BU (q*C+r=P*2 ^ (24-m)+x / 2 ^ m)/\BU (RLies wr w.heap.size s a)/\BU (B9 w.heap.size w wr)) (fun _ _ bb _=>(intOf bb).toNat)
     case atStart=>exact⟨24,q,r,Nat.le_refl _,by simp[Jd0],rfl,rfl,fy,fK,d_,dD,by show _=_;rw[HI.out,Int.ediv_eq_zero_of_lt (by omega) (by simpa using b0.2)];simp,HL.out,HB.out⟩
     case round =>
      clear HI HL HB c0 fy fK d_ dD;obtain⟨m,q,r,hm,rfl,rfl,rfl,fy,fK,d_,dD,HI,HL,HB⟩:=hrel
      match m,hm,HI with
      | 0,_,HI =>
       have HM:BU (q*C+r=top a k):=by show _=_;rw[HI.out,HT.out];simp
       have aL:Jd0 0=0:=rfl;rw[aL];go_wp2
       go_roundw
       case rel=>exact⟨k,q,r,by omega,by go_num,rfl,rfl,fy,fK,d_,dD,HM.out,HL.out,HB.out⟩
       case measure=>show(((k:Int)-1)+1).toNat<((k:Int)+1).toNat;omega
      | m+1,hm,HI =>
       have aL:Jd0 (m+1)=2 ^ m:=rfl;rw[aL];have c0:=HL.out.dig k (by omega);rw[<- HX.out]at c0;have HN:BU (∀ q' r':Int,q'*C+r'=2*q*C+(2*r+x / 2 ^ m%2)->q'*C+r'=P*2 ^ (24-m)+x / 2 ^ m):=fun q' r' h=>h.trans (Jl3 (by omega:m<24) rfl HI.out);have HY:BU (2305843009213693951<q->4611686018427387904<=val a 8 / C):=fun h=>Jh0 (by omega:m<24) HP.out b0.1 d_ kK rfl HI.out h (by rw[<- HT.out];exact HW.out);have HH:BU _:=Jh1 m;have ac:=Jct m;have aj:=Jsi (by omega:m<24);obtain⟨bt,ia⟩:∃ b,b=(2:Int) ^ m:=⟨_,rfl⟩
       rw[<- ia]at HH ac aj;rw[<- ia];have y0:0<=x / bt:=Int.ediv_nonneg b0.1 (by omega);have y1:x / bt<=x:=Int.ediv_le_self _ b0.1;obtain⟨y,hy⟩:∃ y,y=x / bt:=⟨_,rfl⟩
       have lZ:BU (y=x / 2 ^ m):=by show _=_;rw[<- ia];exact hy
       rw[<- hy]at y0 y1;clear ia aL HI;have dn:y%2=1\/y%2=0:=by omega
       rcases dn with dn | dn
       ·skip
        by_cases hq:2305843009213693951<q
        ·have HZ:BU _:=HG.out (HY.out hq);go_wp2
         go_ret2
         exact⟨0,false,rfl,⟨by rw[HZ.out];rfl,rfl⟩,HB.out⟩
        by_cases hr:C<=2*r+1
        ·skip
         go_wp2
         go_roundw
         case rel=>exact⟨m,2*q+1,2*r+1-C,by omega,by rw[HH.out],rfl,rfl,by omega,by omega,by omega,by omega,HN.out _ _ (by rw[<- lZ.out,dn];rw[Int.add_mul];omega),HL.out,HB.out⟩
         case measure=>show(bt / 2).toNat<bt.toNat;omega
        ·skip
         go_wp2
         go_roundw
         case rel=>exact⟨m,2*q,2*r+1,by omega,by rw[HH.out],rfl,rfl,by omega,by omega,by omega,by omega,HN.out _ _ (by rw[<- lZ.out,dn]),HL.out,HB.out⟩
         case measure=>show(bt / 2).toNat<bt.toNat;omega
       ·skip
        by_cases hq:2305843009213693951<q
        ·have HZ:BU _:=HG.out (HY.out hq);go_wp2
         go_ret2
         exact⟨0,false,rfl,⟨by rw[HZ.out];rfl,rfl⟩,HB.out⟩
        by_cases hr:C<=2*r
        ·skip
         go_wp2
         go_roundw
         case rel=>exact⟨m,2*q+1,2*r-C,by omega,by rw[HH.out],rfl,rfl,by omega,by omega,by omega,by omega,HN.out _ _ (by rw[<- lZ.out,dn];rw[Int.add_mul];omega),HL.out,HB.out⟩
         case measure=>show(bt / 2).toNat<bt.toNat;omega
        ·skip
         go_wp2
         go_roundw
         case rel=>exact⟨m,2*q,2*r,by omega,by rw[HH.out],rfl,rfl,by omega,by omega,by omega,by omega,HN.out _ _ (by rw[<- lZ.out,dn];omega),HL.out,HB.out⟩
         case measure=>show(bt / 2).toNat<bt.toNat;omega)
theorem Jsa(s:Bool)(a:Nat->Int)(c:Int)(w:BV)(ha:Digs a)(hc:c<0)(bF:-4611686018427387903<=c):
  Cd Tryz.prog 144 #[wv s a,J I c] w fun e w'=>∃ n ok,e = BZ (.tuple #[J I n,BT ok])/\BU (ok = !Fx.great (sv (!s) a / (-c))/\n=if ok then sv (!s) a / (-c) else 0)/\BU (B9 w.heap.size w w'):=by
 obtain⟨C,hC⟩:∃ C,C=(-c):=⟨_,rfl⟩
 have kK:0<C:=by omega
 have hC1:C<=4611686018427387903:=by omega
 rw[<- hC];have HA:BU _:=ha;have HG:BU (4611686018427387904<=val a 8 / C->Fx.great (sv (!s) a / C)=true):=Jiy kK;have HE:BU (∀ q r,0<=r->r<C->q*C+r=val a 8->sv (!s) a / C=if (!s) then (if r=0 then -q else -(q+1)) else q):=fun q r h1 h2 h3=>Jmr kK h1 h2 h3;clear ha;go_enter func144,ntmps144;go_wp2;rw[<- hC];clear hC
 go_loopw [7,8,9] (fun qq rr i wr=>∃(k:Nat) (q r:Int),k<=8/\i=J I ((k:Int)-1)/\qq=J I q/\rr=J I r/\0<=q/\q<=4611686018427387903/\0<=r/\r<C/\BU (q*C+r=top a k)/\BU (RLies wr w.heap.size s a)/\BU (B9 w.heap.size w wr)) (fun _ _ i _=>(intOf i+1).toNat)
 case atStart=>exact⟨8,0,0,Nat.le_refl _,rfl,rfl,rfl,by omega,by omega,by omega,kK,by show _=_;rw[Jpa];simp,Jac w s a 168,Jd w _⟩
 case round =>
  obtain⟨k,q,r,hk,rfl,rfl,rfl,fy,fK,d_,dD,HI,HL,HB⟩:=hrel
  match k,hk,HI with
  | 0,_,HI =>
   have HV:BU _:=HE.out q r d_ dD (by rw[<- Jld];exact HI.out);clear HE HG HI HA;cases s
   ·skip
    rcases Int.lt_trichotomy r 0 with hr | hr | hr
    ·omega
    ·subst hr;rw[if_pos (by simp),if_pos rfl]at HV;go_wp2
     go_ret2
     exact⟨-q,true,rfl,⟨by rw[HV.out,(Fx.not_great _).2 ⟨by omega,by omega⟩];rfl,by rw[HV.out];simp⟩,HB.out⟩
    ·rw[if_pos (by simp),if_neg (by omega)]at HV;by_cases hm:q=4611686018427387903
     ·subst hm;go_wp2
      go_ret2
      exact⟨0,false,rfl,⟨by rw[HV.out];decide,by simp⟩,HB.out⟩
     ·go_wp2
      go_ret2
      exact⟨-(q+1),true,rfl,⟨by rw[HV.out,(Fx.not_great _).2 ⟨by omega,by omega⟩];rfl,by rw[HV.out];simp⟩,HB.out⟩
   ·skip
    go_wp2
    go_ret2
    exact⟨q,true,rfl,⟨by rw[HV.out,if_neg (by simp),(Fx.not_great _).2 ⟨by omega,fK⟩];rfl,by rw[HV.out];simp⟩,HB.out⟩
  | k+1,hk,HI =>
   have e:((k+1:Nat):Int)-1=(k:Int):=by omega
   rw[e];have i0:(0:Int)<=(k:Int):=by omega
   have i1:(k:Int)<8:=by omega
   have c0:=HL.out.dig k (by omega);have b0:=HA.out k (by omega);have HT:BU _:=Jl7 a k (by omega);have HP:BU _:=Jip HA.out (k+1) (by omega);have HW:BU _:=Jsp HA.out k (by omega);obtain⟨x,hx⟩:∃ x,x=a k:=⟨_,rfl⟩
   obtain⟨P,hP⟩:∃ P,P=top a (k+1):=⟨_,rfl⟩
   rw[<- hx]at c0 b0 HT;rw[<- hP]at HT HP HI;have HX:BU _:=hx;clear hx hP e;by_cases hskip:x=0/\q=0/\r=0
   ·obtain⟨rfl,rfl,rfl⟩:=hskip;have HM:BU (0*C+0=top a k):=by show _=_;rw[HT.out,<- HI.out];omega
    go_wp2
    go_roundw
    case rel=>exact⟨k,0,0,by omega,by go_num,rfl,rfl,by omega,by omega,by omega,kK,HM.out,HL.out,HB.out⟩
    case measure=>show(((k:Int)-1)+1).toNat<((k:Int)+1).toNat;omega
   ·have nE:x≠0\/(x=0/\q≠0)\/(x=0/\q=0/\r≠0):=by omega
    clear hskip;rcases nE with g |⟨g,g'⟩ |⟨g,g',g''⟩
    all_goals go_wp2
    all_goals try clear g''
    all_goals try clear g'
    all_goals clear g
    all_goals (
     go_loopw [7,8,10] (fun qq rr bb wr=>∃(m:Nat) (q r:Int),m<=24/\bb=J I (Jd0 m)/\qq=J I q/\rr=J I r/\0<=q/\q<=4611686018427387903/\0<=r/\r<C/\BU (q*C+r=P*2 ^ (24-m)+x / 2 ^ m)/\BU (RLies wr w.heap.size s a)/\BU (B9 w.heap.size w wr)) (fun _ _ bb _=>(intOf bb).toNat)
     case atStart=>exact⟨24,q,r,Nat.le_refl _,by simp[Jd0],rfl,rfl,fy,fK,d_,dD,by show _=_;rw[HI.out,Int.ediv_eq_zero_of_lt (by omega) (by simpa using b0.2)];simp,HL.out,HB.out⟩
     case round =>
      clear HI HL HB c0 fy fK d_ dD;obtain⟨m,q,r,hm,rfl,rfl,rfl,fy,fK,d_,dD,HI,HL,HB⟩:=hrel
      match m,hm,HI with
      | 0,_,HI =>
       have HM:BU (q*C+r=top a k):=by show _=_;rw[HI.out,HT.out];simp
       have aL:Jd0 0=0:=rfl;rw[aL];go_wp2
       go_roundw
       case rel=>exact⟨k,q,r,by omega,by go_num,rfl,rfl,fy,fK,d_,dD,HM.out,HL.out,HB.out⟩
       case measure=>show(((k:Int)-1)+1).toNat<((k:Int)+1).toNat;omega
      | m+1,hm,HI =>
       have aL:Jd0 (m+1)=2 ^ m:=rfl;rw[aL];have c0:=HL.out.dig k (by omega);rw[<- HX.out]at c0;have HN:BU (∀ q' r':Int,q'*C+r'=2*q*C+(2*r+x / 2 ^ m%2)->q'*C+r'=P*2 ^ (24-m)+x / 2 ^ m):=fun q' r' h=>h.trans (Jl3 (by omega:m<24) rfl HI.out);have HY:BU (2305843009213693951<q->4611686018427387904<=val a 8 / C):=fun h=>Jh0 (by omega:m<24) HP.out b0.1 d_ kK rfl HI.out h (by rw[<- HT.out];exact HW.out);have HH:BU _:=Jh1 m;have ac:=Jct m;have aj:=Jsi (by omega:m<24);obtain⟨bt,ia⟩:∃ b,b=(2:Int) ^ m:=⟨_,rfl⟩
       rw[<- ia]at HH ac aj;rw[<- ia];have y0:0<=x / bt:=Int.ediv_nonneg b0.1 (by omega);have y1:x / bt<=x:=Int.ediv_le_self _ b0.1;obtain⟨y,hy⟩:∃ y,y=x / bt:=⟨_,rfl⟩
       have lZ:BU (y=x / 2 ^ m):=by show _=_;rw[<- ia];exact hy
       rw[<- hy]at y0 y1;clear ia aL HI;have dn:y%2=1\/y%2=0:=by omega
       rcases dn with dn | dn
       ·skip
        by_cases hq:2305843009213693951<q
        ·have HZ:BU _:=HG.out (HY.out hq);go_wp2
         go_ret2
         exact⟨0,false,rfl,⟨by rw[HZ.out];rfl,rfl⟩,HB.out⟩
        by_cases hr:C<=2*r+1
        ·skip
         go_wp2
         go_roundw
         case rel=>exact⟨m,2*q+1,2*r+1-C,by omega,by rw[HH.out],rfl,rfl,by omega,by omega,by omega,by omega,HN.out _ _ (by rw[<- lZ.out,dn];rw[Int.add_mul];omega),HL.out,HB.out⟩
         case measure=>show(bt / 2).toNat<bt.toNat;omega
        ·skip
         go_wp2
         go_roundw
         case rel=>exact⟨m,2*q,2*r+1,by omega,by rw[HH.out],rfl,rfl,by omega,by omega,by omega,by omega,HN.out _ _ (by rw[<- lZ.out,dn]),HL.out,HB.out⟩
         case measure=>show(bt / 2).toNat<bt.toNat;omega
       ·skip
        by_cases hq:2305843009213693951<q
        ·have HZ:BU _:=HG.out (HY.out hq);go_wp2
         go_ret2
         exact⟨0,false,rfl,⟨by rw[HZ.out];rfl,rfl⟩,HB.out⟩
        by_cases hr:C<=2*r
        ·skip
         go_wp2
         go_roundw
         case rel=>exact⟨m,2*q+1,2*r-C,by omega,by rw[HH.out],rfl,rfl,by omega,by omega,by omega,by omega,HN.out _ _ (by rw[<- lZ.out,dn];rw[Int.add_mul];omega),HL.out,HB.out⟩
         case measure=>show(bt / 2).toNat<bt.toNat;omega
        ·skip
         go_wp2
         go_roundw
         case rel=>exact⟨m,2*q,2*r,by omega,by rw[HH.out],rfl,rfl,by omega,by omega,by omega,by omega,HN.out _ _ (by rw[<- lZ.out,dn];omega),HL.out,HB.out⟩
         case measure=>show(bt / 2).toNat<bt.toNat;omega)
theorem Jh3(s:Bool)(a:Nat->Int)(c:Int)(w:BV)(ha:Digs a)(hc:c≠0)(h1:-4611686018427387903<=c)(h2:c<=4611686018427387903):
  Cd Tryz.prog 144 #[wv s a,J I c] w fun e w'=>∃ n ok,e = BZ (.tuple #[J I n,BT ok])/\BU (ok = !Fx.great (Fx.fl (sv s a) c)/\n=if ok then Fx.fl (sv s a) c else 0)/\BU (B9 w.heap.size w w'):=by
 unfold Fx.fl;by_cases h:c<0
 ·rw[if_pos h,<- Jm3];exact Jsa s a c w ha h h1
 ·rw[if_neg h];exact Jrf s a c w ha (by omega) h2
def RI(X r:Int)(m:Nat):Prop:=0<=r/\r*r<=X/\X<(r+2 ^ m)*(r+2 ^ m)/\r+2 ^ m<=4611686018427387904
theorem Jsz{X:Int}(h0:0<=X)(h:X<4611686018427387904*4611686018427387904):RI X 0 62:=⟨by omega,by omega,by simpa using h,by decide⟩
theorem Jv5{X r:Int}{m:Nat}(h:RI X r (m+1))(hc:(r+2 ^ m)*(r+2 ^ m)<=X):RI X (r+2 ^ m) m:=by
 obtain⟨h1,h2,h3,h4⟩:=h;have hp:=Jct m;rw[Int.pow_succ]at h3 h4;have e:r+2 ^ m+2 ^ m=r+2 ^ m*2:=by omega
 exact⟨by omega,hc,by rw[e];exact h3,by omega⟩
theorem Jud{X r:Int}{m:Nat}(h:RI X r (m+1))(hc:X<(r+2 ^ m)*(r+2 ^ m)):RI X r m:=by
 obtain⟨h1,h2,h3,h4⟩:=h;have hp:=Jct m;rw[Int.pow_succ]at h4;exact⟨h1,h2,hc,by omega⟩
theorem Jvd{X r:Int}(h:RI X r 0):r=(Fx.isq X.toNat:Int)/\Fx.great (Fx.isq X.toNat:Int)=false:=by
 obtain⟨h1,h2,h3,h4⟩:=h;have e:=Fx.isq_of h1 h2 (by simpa using h3);refine⟨e,?_⟩;rw[<- e,Fx.not_great];simp at h4;omega
theorem Jt5{X:Int}(h:4611686018427387904*4611686018427387904<=X):Fx.great (Fx.isq X.toNat:Int)=true:=by
 have hX:(0:Int)<=X:=by omega
 obtain⟨x,rfl⟩:=Int.eq_ofNat_of_zero_le hX;simp only[Int.toNat_natCast];obtain⟨_,b⟩:=Fx.isq_is x;rw[Fx.great_iff]
 right
 generalize Fx.isq x=y at *;have hc:4611686018427387904*4611686018427387904<(y+1)*(y+1):=by omega
 apply Int.not_le.1
 intro ie;have hy:y+1<=4611686018427387904:=by omega
 have:=Nat.mul_le_mul hy hy;omega
theorem Jij{a b:Int}(ha:a.natAbs<=9223372036854775808)(hb:b.natAbs<=9223372036854775808):(a*b).natAbs<6277101735386680763835789423207666416102355444464034512896:=by
 rw[Int.natAbs_mul];exact Nat.lt_of_le_of_lt (Nat.mul_le_mul ha hb) (by decide)
theorem Jqg(s:Bool)(a:Nat->Int)(w:BV)(ha:Digs a)(h0:0<=sv s a):
  Cd Tryz.prog 155 #[wv s a] w fun e w'=>∃ n ok,e = BZ (.tuple #[J I n,BT ok])/\BU (ok = !Fx.great (Fx.isq (sv s a).toNat:Int)/\n=if ok then (Fx.isq (sv s a).toNat:Int) else 0)/\BU (B9 w.heap.size w w'):=by
 have HA:BU _:=ha;have hX:(sv s a).natAbs<6277101735386680763835789423207666416102355444464034512896:=by have:=ha.lt;have:=ha.nonneg;unfold sv;split <;> omega
 have HX:BU _:=hX;have H0:BU _:=h0;clear ha hX h0;go_enter func155,ntmps155;go_wp2_with (fail);refine(Je4 4611686018427387904 _ (by omega) (by omega)).mono ?_;rintro e w1 ⟨u1,d1,rfl,S1,B1⟩;go_wp2_with (fail);refine(Je4 4611686018427387904 _ (by omega) (by omega)).mono ?_;rintro e w2 ⟨u2,d2,rfl,S2,B2⟩;go_wp2_with (fail);refine(Jeb u1 u2 d1 d2 _ S1.out.1 S2.out.1 (by rw[S1.out.2,S2.out.2];decide)).mono ?_;rintro e w3 ⟨u3,d3,rfl,S3,B3⟩;have B4:BU (B9 w.heap.size w w3):=Ju (Ju (Ju (Jd w _) B1.out) B2.out) B3.out;have LA:BU (RLies w3 w.heap.size s a):=((RLies.below (Jac w s a 168) B1.out (by simp)).below B2.out (by have:=B1.out.size;simp at this;omega)).below B3.out (by have:=B1.out.size;have:=B2.out.size;simp at *;omega);have S4:BU (Digs d3/\sv u3 d3=4611686018427387904*4611686018427387904):=⟨S3.out.1,by rw[S3.out.2,S1.out.2,S2.out.2]⟩
 obtain⟨a0,a1,a2,a3,a4,a5,a6,a7,a8⟩:=LA.out.cells;have hs:w.heap.size<w3.heap.size:=LA.out.lt;clear S1 S2 S3 B1 B2 B3;go_wp2_with (fail);refine(Jjq s u3 a d3 _ HA.out S4.out.1 (by rw[S4.out.2];have:=HX.out;have:=H0.out;omega)).mono ?_;rintro e w5 ⟨is,rfl,S5,B5⟩;have LB:BU (RLies w5 w.heap.size s a):=(LA.out.alloc _).below B5.out (by simp;omega);have B6:BU (B9 w.heap.size w w5):=Ju (B4.out.alloc B4.out.size _) B5.out;have S6:BU (is=true↔sv s a<4611686018427387904*4611686018427387904):=by show _↔_;rw[<- S4.out.2];exact S5.out
 clear LA B4 S4 S5 B5 a0 a1 a2 a3 a4 a5 a6 a7 a8 hs;cases is
 ·go_wp2
  go_ret2
  have hg:=Jt5 (X:=sv s a) (by have:=S6.out;simp at this;omega);exact⟨0,false,rfl,⟨by rw[hg];rfl,rfl⟩,B6.out⟩
 ·have HR:BU _:=Jsz H0.out (S6.out.1 rfl);clear S6;go_wp2
  go_loopw [6,7] (fun rr bb wr=>∃(m:Nat) (r:Int),m<=62/\bb=J I (Jd0 m)/\rr=J I r/\0<=r/\r<=4611686018427387904/\BU (RI (sv s a) r m)/\BU (RLies wr w.heap.size s a)/\BU (B9 w.heap.size w wr)) (fun _ bb _=>(intOf bb).toNat)
  case atStart=>exact⟨62,0,Nat.le_refl _,rfl,rfl,by omega,by omega,HR.out,LB.out,B6.out⟩
  case round =>
   clear LB B6 HR;obtain⟨m,r,hm,rfl,rfl,d_,dD,HI,HL,HB⟩:=hrel
   match m,hm,HI with
   | 0,_,HI =>
    have aL:Jd0 0=0:=rfl;rw[aL];have HE:BU _:=Jvd HI.out;go_wp2
    go_ret2
    exact⟨r,true,rfl,⟨by rw[HE.out.2];rfl,by rw[HE.out.1];rfl⟩,HB.out⟩
   | m+1,hm,HI =>
    have aL:Jd0 (m+1)=2 ^ m:=rfl;rw[aL];have HU:BU (∀ b:Int,b=2 ^ m->(r+b)*(r+b)<=sv s a->RI (sv s a) (r+b) m):=fun b hb h=>by subst hb;exact Jv5 HI.out h
    have HV:BU (∀ b:Int,b=2 ^ m->sv s a<(r+b)*(r+b)->RI (sv s a) r m):=fun b hb h=>by subst hb;exact Jud HI.out h
    have ac:=Jct m;have aj:r+2 ^ m<=4611686018427387904:=by have:=HI.out.2.2.2;rw[Int.pow_succ]at this;omega
    have HH:BU _:=Jh1 m;obtain⟨bt,ia⟩:∃ b,b=(2:Int) ^ m:=⟨_,rfl⟩
    rw[<- ia]at HH ac aj;rw[<- ia];have HU':BU _:=HU.out bt ia;have HV':BU _:=HV.out bt ia;clear ia HU HV HI aL;go_wp2_with (fail);refine(Je4 (r+bt) _ (by omega) (by omega)).mono ?_;rintro e w1 ⟨u1,d1,rfl,S1,B1⟩;have B2:BU (B9 w.heap.size w w1):=Ju HB.out B1.out;have LA:BU (RLies w1 w.heap.size s a):=HL.out.below B1.out HL.out.lt;have hs:w.heap.size<w1.heap.size:=LA.out.lt;clear B1 HB HL;have HT:BU _:=fun W=>Jeb u1 u1 d1 d1 W S1.out.1 S1.out.1 (by rw[S1.out.2];exact Jij (by omega) (by omega));go_wp2_with (fail);obtain⟨W,hW⟩:∃ W,W=w1.alloc (BP #[BT u1,J I (d1 0),J I (d1 1),J I (d1 2),J I (d1 3),J I (d1 4),J I (d1 5),J I (d1 6),J I (d1 7)] 168):=⟨_,rfl⟩
    obtain⟨t8,xi⟩:∃ t,t=w1.heap.size:=⟨_,rfl⟩
    have LW:BU (RLies W w.heap.size s a):=by show RLies _ _ _ _;rw[hW];exact LA.out.alloc _
    have LT:BU (RLies W t8 u1 d1):=by show RLies _ _ _ _;rw[hW,xi];exact Jac _ _ _ _
    have BW:BU (B9 w.heap.size w W):=by show B9 _ _ _;rw[hW];exact B2.out.alloc B2.out.size _
    rw[<- hW,<- xi];clear hW xi LA B2 hs;obtain⟨a0,a1,a2,a3,a4,a5,a6,a7,a8⟩:=LW.out.drew.cells;obtain⟨t0,t1,t2,t3,t4,t5,t6,t7,t8⟩:=LT.out.drew.cells
    go_region_with (first
     |(go_at_call 145;refine(HT.out _).mono ?_;rintro e w4 ⟨u4,d4,rfl,S4,B4⟩;obtain⟨x0,x1,x2,x3,x4,x5,x6,x7,x8⟩:=(LW.out.drew.below B4.out LW.out.drew.lt).cells)
     |(go_at_call 190;refine(Jjq s u4 a d4 _ HA.out S4.out.1 (by have h1:=HX.out;have h2:=H0.out;have h3:=S4.out.1.lt;have h4:=S4.out.1.nonneg;have h5:0<=sv u4 d4:=(by rw[S4.out.2,S1.out.2];exact Int.mul_nonneg (by omega) (by omega));have h6:sv u4 d4<=val d4 8:=(by unfold sv;split <;> omega);omega)).mono ?_;rintro e w5 ⟨c,rfl,S5,B5⟩))
    all_goals (
     have HC:BU (c=true↔sv s a<(r+bt)*(r+bt)):=(by show _↔_;rw[<- S1.out.2,<- S4.out.2];exact S5.out)
     have LF:BU (RLies w5 w.heap.size s a):=(LW.out.drew.below B4.out LW.out.drew.lt).below B5.out (LW.out.drew.below B4.out LW.out.drew.lt).lt;have BF:BU (B9 w.heap.size w w5):=Ju (Ju BW.out.drew B4.out) B5.out;clear S1 S4 S5 B4 B5 LW LT BW a0 a1 a2 a3 a4 a5 a6 a7 a8 t0 t1 t2 t3 t4 t5 t6 t7 t8 x0 x1 x2 x3 x4 x5 x6 x7 x8;cases c
     ·go_wp2
      go_roundw
      case rel=>exact⟨m,r+bt,by omega,by rw[HH.out],rfl,by omega,by omega,HU'.out (by have:=HC.out;simp at this;omega),LF.out,BF.out⟩
      case measure=>show(bt / 2).toNat<bt.toNat;omega
     ·go_wp2
      go_roundw
      case rel=>exact⟨m,r,by omega,by rw[HH.out],rfl,by omega,by omega,HV'.out (HC.out.1 rfl),LF.out,BF.out⟩
      case measure=>show(bt / 2).toNat<bt.toNat;omega)
end
section
open Go.RowKit Ref Fx
theorem Jgk(zs:List Int)(b off cap:Nat)(w:BV)(cJ:zs.length<=4611686018427387904)(hc:∀ k,k<zs.length->w.cell? ⟨b,off+k,none⟩=some (J I (zs.getD k 0))):
  Cd Tryz.prog 133 #[BQ (some ⟨b,off,none⟩) zs.length cap] w fun e w'=>e = BZ (BT (zs.any great))/\w'=w:=by
 have HC:BU _:=hc;clear hc;go_enter func133,ntmps133;go_wp2
 go_loop [3] (fun i=>∃ k:Nat,k<=zs.length/\i=J I k/\BU ((zs.take k).any great=false)) (fun i=>zs.length-(intOf i).toNat)
 case atStart=>exact⟨0,Nat.zero_le _,rfl,by simp[BU]⟩
 case round =>
  obtain⟨k,hk,rfl,HG⟩:=hrel;by_cases aG:k<zs.length
  ·have ar:=HC.out k aG;have hs:=Jhx zs k aG HG.out;obtain⟨z,hz⟩:∃ z,zs.getD k 0=z:=⟨_,rfl⟩
   rw[hz]at ar hs;have HS:BU _:=hs;clear hs hz;by_cases g1:z < -4611686018427387903
   ·have ku:zs.any great=true:=by
     have:(zs.take (k+1)).any great=true:=by rw[HS.out];simp[great,g1]
     rw[List.any_eq_true]at this ⊢;obtain⟨x,hx,hg⟩:=this;exact⟨x,List.mem_of_mem_take hx,hg⟩
    go_wp2;go_ret;exact⟨rfl,rfl⟩
   ·by_cases g2:4611686018427387903<z
    ·have ku:zs.any great=true:=by
      have:(zs.take (k+1)).any great=true:=by rw[HS.out];simp[great,g2]
      rw[List.any_eq_true]at this ⊢;obtain⟨x,hx,hg⟩:=this;exact⟨x,List.mem_of_mem_take hx,hg⟩
     go_wp2;go_ret;exact⟨rfl,rfl⟩
    ·have di:BU ((zs.take (k+1)).any great=false):=by
      show _=false
      rw[HS.out];simp[great];omega
     go_wp2
     go_round
     case rel=>exact⟨k+1,by omega,by go_num,di⟩
     case measure=>simp[intOf];omega
  ·have ku:zs.any great=false:=by
    have:=HG.out;rwa [List.take_of_length_le (by omega)]at this
   go_wp2;go_ret;exact⟨rfl,rfl⟩
theorem Jnw(a:Option Ce)(cap:Nat)(w:BV):
  Cd Tryz.prog 133 #[BQ a 0 cap] w fun e w'=>e = BZ (BT false)/\w'=w:=by
 go_enter func133,ntmps133;go_wp2
 go_rounds 1
 go_ret;exact⟨rfl,rfl⟩
theorem Jku(a b:Int)(w:BV):Cd Tryz.prog 133 #[BQ (some ⟨w.heap.size,0,none⟩) 2 2] (w.alloc (BP #[J I a,J I b] 3)) fun e w'=>e = BZ (BT (great a||great b))/\w'=w.alloc (BP #[J I a,J I b] 3):=by
 have h:=Jgk [a,b] w.heap.size 0 2 (w.alloc (BP #[J I a,J I b] 3)) (by simp) (fun k hk=>by
  match k,hk with
  | 0,_=>simp
  | 1,_=>simp)
 simpa using h
theorem Jo5(a b c:Int)(w:BV):Cd Tryz.prog 133 #[BQ (some ⟨w.heap.size,0,none⟩) 3 3] (w.alloc (BP #[J I a,J I b,J I c] 3)) fun e w'=>e = BZ (BT (great a ||(great b||great c)))/\w'=w.alloc (BP #[J I a,J I b,J I c] 3):=by
 have h:=Jgk [a,b,c] w.heap.size 0 3 (w.alloc (BP #[J I a,J I b,J I c] 3)) (by simp) (fun k hk=>by
  match k,hk with
  | 0,_=>simp
  | 1,_=>simp
  | 2,_=>simp)
 simpa using h
def Jba(n:Int)(ok:Bool):Option Int:=if ok then Fx.told n else none
theorem Ja8(b off:Nat)(f:Bool)(n:Int)(ok:Bool)(w:BV)(hc:w.cell? ⟨b,off,none⟩=some (BT f))(hf:w.frozen? ⟨b,off,none⟩=false):
  Cd Tryz.prog 134 #[BO (some ⟨b,off,none⟩),J I n,BT ok] w fun e w'=>e = BZ (J I ((Jba n ok).getD 0))/\B9 w.heap.size (Jc1 ⟨b,off,none⟩ (Jba n ok) w) w':=by
 cases ok
 ·go_enter func134,ntmps134;go_wp2;go_ret;exact⟨rfl,by simp[Jba,Jc1];exact Below.refl _ _⟩
 ·by_cases h1:n < -4611686018427387903
  ·have hg:great n=true:=(great_iff n).2 (Or.inl h1);go_enter func134,ntmps134;go_wp2;go_ret;exact⟨by simp[Jba,Fx.told,hg],by simp[Jba,Fx.told,hg,Jc1];exact Below.refl _ _⟩
  ·by_cases h2:4611686018427387903<n
   ·have hg:great n=true:=(great_iff n).2 (Or.inr h2);go_enter func134,ntmps134;go_wp2;go_ret;exact⟨by simp[Jba,Fx.told,hg],by simp[Jba,Fx.told,hg,Jc1];exact Below.refl _ _⟩
   ·have hg:great n=false:=(not_great n).2 (by omega);go_enter func134,ntmps134;go_wp2;go_ret;exact⟨by simp[Jba,Fx.told,hg],by simp[Jba,Fx.told,hg,Jc1];exact Below.refl _ _⟩
theorem Jbg{b off:Nat}{f:Bool}{o:Option Int}{n:Int}{ok:Bool}{w w1 w2:BV}(ho:Jba n ok=o)(h1:B9 w.heap.size w w1)(h2:B9 w1.heap.size (Jc1 ⟨b,off,none⟩ (Jba n ok) w1) w2)
  (hc:w.cell? ⟨b,off,none⟩=some (BT f)) (hf:w.frozen? ⟨b,off,none⟩=false) :
  ∃ v g,Ending.returned (J I ((Jba n ok).getD 0)) = BZ (J I v)/\BU (Ja1 f o v g)/\BU (After ⟨b,off,none⟩ g w w2):=by
 subst ho;exact⟨_,_,rfl,⟨rfl,rfl⟩,Jb5 (Ja5 h1 h2) hc hf⟩
theorem Jc8(b off:Nat)(f:Bool)(x y:Int)(w:BV)(hc:w.cell? ⟨b,off,none⟩=some (BT f))(hf:w.frozen? ⟨b,off,none⟩=false):
  Cd Tryz.prog 85 #[BO (some ⟨b,off,none⟩),J I x,J I y] w fun e W'=>∃ v g,e = BZ (J I v)/\BU (Ja1 f (add x y) v g)/\BU (After ⟨b,off,none⟩ g w W'):=by
 have hb:=Jd w (BP #[J I x,J I y] 3);have hc':=Jf hb hc;have hf':=Jg hb hc hf;have C1:=Jku x y w;cases hg:(great x||great y)
 ·have cD:add x y=Fx.told (x+y):=by simp[add,hg]
  rw[hg]at C1;have hx:-4611686018427387903<=x/\x<=4611686018427387903:=(not_great x).1 (by simp at hg;exact hg.1);have hy:-4611686018427387903<=y/\y<=4611686018427387903:=(not_great y).1 (by simp at hg;exact hg.2);have C2:BU _:=Ja8 b off f (x+y) true _ hc' hf';have K1:BU _:=C1;have HB:BU _:=hb;have HC:BU _:=hc;have HF:BU _:=hf;have HA:BU _:=cD;clear C1 hb hc hf hc' hf' hg cD;go_enter func85,ntmps85;go_wp2_with (fail);refine JA K1.out ?_;rintro e w1 ⟨rfl,rfl⟩;go_wp2_with (fail);refine JA C2.out ?_;rintro e w2 ⟨rfl,aj⟩;go_wp2_with (fail);go_ret;exact Jbg (HA.out.symm) HB.out aj HC.out HF.out
 ·have cD:add x y=none:=by simp only[add,hg,if_true]
  rw[hg]at C1;have C2:BU _:=Ja8 b off f 0 false _ hc' hf';have K1:BU _:=C1;have HB:BU _:=hb;have HC:BU _:=hc;have HF:BU _:=hf;have HA:BU _:=cD;clear C1 hb hc hf hc' hf' hg cD;go_enter func85,ntmps85;go_wp2_with (fail);refine JA K1.out ?_;rintro e w1 ⟨rfl,rfl⟩;go_wp2_with (fail);refine JA C2.out ?_;rintro e w2 ⟨rfl,aj⟩;go_wp2_with (fail);go_ret;exact Jbg (HA.out.symm) HB.out aj HC.out HF.out
theorem Jbv(b off:Nat)(f:Bool)(x y:Int)(w:BV)(hc:w.cell? ⟨b,off,none⟩=some (BT f))(hf:w.frozen? ⟨b,off,none⟩=false):
  Cd Tryz.prog 67 #[BO (some ⟨b,off,none⟩),J I x,J I y] w fun e W'=>∃ v g,e = BZ (J I v)/\BU (Ja1 f (sub x y) v g)/\BU (After ⟨b,off,none⟩ g w W'):=by
 have hb:=Jd w (BP #[J I x,J I y] 3);have hc':=Jf hb hc;have hf':=Jg hb hc hf;have C1:=Jku x y w;cases hg:(great x||great y)
 ·have cD:sub x y=Fx.told (x-y):=by simp[sub,hg]
  rw[hg]at C1;have hx:-4611686018427387903<=x/\x<=4611686018427387903:=(not_great x).1 (by simp at hg;exact hg.1);have hy:-4611686018427387903<=y/\y<=4611686018427387903:=(not_great y).1 (by simp at hg;exact hg.2);have C2:BU _:=Ja8 b off f (x-y) true _ hc' hf';have K1:BU _:=C1;have HB:BU _:=hb;have HC:BU _:=hc;have HF:BU _:=hf;have HA:BU _:=cD;clear C1 hb hc hf hc' hf' hg cD;go_enter func67,ntmps67;go_wp2_with (fail);refine JA K1.out ?_;rintro e w1 ⟨rfl,rfl⟩;go_wp2_with (fail);refine JA C2.out ?_;rintro e w2 ⟨rfl,aj⟩;go_wp2_with (fail);go_ret;exact Jbg (HA.out.symm) HB.out aj HC.out HF.out
 ·have cD:sub x y=none:=by simp only[sub,hg,if_true]
  rw[hg]at C1;have C2:BU _:=Ja8 b off f 0 false _ hc' hf';have K1:BU _:=C1;have HB:BU _:=hb;have HC:BU _:=hc;have HF:BU _:=hf;have HA:BU _:=cD;clear C1 hb hc hf hc' hf' hg cD;go_enter func67,ntmps67;go_wp2_with (fail);refine JA K1.out ?_;rintro e w1 ⟨rfl,rfl⟩;go_wp2_with (fail);refine JA C2.out ?_;rintro e w2 ⟨rfl,aj⟩;go_wp2_with (fail);go_ret;exact Jbg (HA.out.symm) HB.out aj HC.out HF.out
theorem Jfu{X:Int}{ok:Bool}{n:Int}(h:ok = !great X/\n=if ok then X else 0):Jba n ok=Fx.told X:=by
 obtain⟨h1,h2⟩:=h;unfold Jba Fx.told;cases hg:great X
 ·have pX:ok=true:=by rw[h1,hg];rfl
  rw[pX]at h2 ⊢;simp only[if_true]at h2;subst h2;simp[hg]
 ·have pX:ok=false:=by rw[h1,hg];rfl
  rw[pX];simp
theorem Jh9(b off:Nat)(f:Bool)(x y z:Int)(w:BV)(hc:w.cell? ⟨b,off,none⟩=some (BT f))(hf:w.frozen? ⟨b,off,none⟩=false):
  Cd Tryz.prog 83 #[BO (some ⟨b,off,none⟩),J I x,J I y,J I z] w fun e W'=>∃ v g,e = BZ (J I v)/\BU (Ja1 f (Jw x y z) v g)/\BU (After ⟨b,off,none⟩ g w W'):=by
 have hb:=Jd w (BP #[J I x,J I y,J I z] 3);have C1:=Jo5 x y z w;have HB:BU _:=hb;have HC:BU _:=hc;have HF:BU _:=hf;have HN:BU (∀ W,B9 w.heap.size w W->Cd Tryz.prog 134 #[BO (some ⟨b,off,none⟩),J I 0,BT false] W fun e w'=>e = BZ (J I ((Jba 0 false).getD 0))/\B9 W.heap.size (Jc1 ⟨b,off,none⟩ (Jba 0 false) W) w'):=fun W h=>Ja8 b off f 0 false W (Jf h hc) (Jg h hc hf);cases hg:(great x ||(great y||great z))
 ·have hx:-4611686018427387903<=x/\x<=4611686018427387903:=(not_great x).1 (by simp at hg;exact hg.1);have hy:-4611686018427387903<=y/\y<=4611686018427387903:=(not_great y).1 (by simp at hg;exact hg.2.1);have hz:-4611686018427387903<=z/\z<=4611686018427387903:=(not_great z).1 (by simp at hg;exact hg.2.2);rw[hg]at C1;have K1:BU _:=C1;by_cases z0:z=0
  ·subst z0;have HA:BU _:=(by simp[Jw]:Jw x y 0=none)
   clear C1 hb hc hf hg;go_enter func83,ntmps83;go_wp2_with (fail);refine JA K1.out ?_;rintro e w1 ⟨rfl,rfl⟩;go_wp2_with (fail);refine JA (HN.out _ HB.out) ?_;rintro e w2 ⟨rfl,aj⟩;go_wp2_with (fail);go_ret;exact Jbg (HA.out.symm) HB.out aj HC.out HF.out
  ·have HA:BU _:=(by simp only[Jw,z0,hg];rfl:Jw x y z=Fx.told (fl (x*y) z))
   clear C1 hb hc hf hg HN;go_enter func83,ntmps83;go_wp2_with (fail);refine JA K1.out ?_;rintro e w1 ⟨rfl,rfl⟩;go_wp2_with (fail);refine(Je4 x _ (by omega) (by omega)).mono ?_;rintro e w1 ⟨u1,d1,rfl,S1,B1⟩;go_wp2_with (fail);refine(Je4 y _ (by omega) (by omega)).mono ?_;rintro e w2 ⟨u2,d2,rfl,S2,B2⟩;go_wp2_with (fail);refine(Jeb u1 u2 d1 d2 _ S1.out.1 S2.out.1 (by rw[S1.out.2,S2.out.2];exact Jij (by omega) (by omega))).mono ?_;rintro e w3 ⟨u3,d3,rfl,S3,B3⟩;go_wp2_with (fail);refine(Jh3 u3 d3 z _ S3.out.1 z0 hz.1 hz.2).mono ?_;rintro e w4 ⟨n,ok,rfl,S4,B4⟩;have B5:BU (B9 w.heap.size w w4):=Ju (Ju (Ju (Ju HB.out B1.out) B2.out) B3.out) B4.out;have S5:BU _:=Jfu S4.out;rw[S3.out.2,S1.out.2,S2.out.2]at S5;clear S1 S2 S3 S4 B1 B2 B3 B4 K1;go_wp2_with (fail);refine(Ja8 b off f n ok _ (Jf B5.out HC.out) (Jg B5.out HC.out HF.out)).mono ?_;rintro e w6 ⟨rfl,aj⟩;go_wp2_with (fail);go_ret;exact Jbg (S5.out.trans HA.out.symm) B5.out aj HC.out HF.out
 ·have HA:BU _:=(by simp only[Jw,hg];simp:Jw x y z=none)
  rw[hg]at C1;have K1:BU _:=C1;clear C1 hb hc hf hg;go_enter func83,ntmps83;go_wp2_with (fail);refine JA K1.out ?_;rintro e w1 ⟨rfl,rfl⟩;go_wp2_with (fail);refine JA (HN.out _ HB.out) ?_;rintro e w2 ⟨rfl,aj⟩;go_wp2_with (fail);go_ret;exact Jbg (HA.out.symm) HB.out aj HC.out HF.out
theorem Jj7(x y:Int):Jw x y 4294967296=mul x y:=by
 have h:great 4294967296=false:=by decide
 have e:fl (x*y) 4294967296=x*y / 4294967296:=by unfold fl;rw[if_neg (by omega)]
 unfold Jw mul;rw[if_neg (by omega:¬ (4294967296:Int)=0),h,e,Bool.or_false]
theorem Jgn(b off:Nat)(f:Bool)(x y:Int)(w:BV)(hc:w.cell? ⟨b,off,none⟩=some (BT f))(hf:w.frozen? ⟨b,off,none⟩=false):
  Cd Tryz.prog 66 #[BO (some ⟨b,off,none⟩),J I x,J I y] w fun e W'=>∃ v g,e = BZ (J I v)/\BU (Ja1 f (mul x y) v g)/\BU (After ⟨b,off,none⟩ g w W'):=by
 have C:BU _:=Jh9 b off f x y 4294967296 w hc hf;rw[Jj7]at C;clear hc hf;go_enter func66,ntmps66;go_wp2_with (fail);refine JA C.out ?_;rintro e w1 ⟨v,g,rfl,S,A⟩;go_wp2_with (fail);go_ret;exact⟨v,g,rfl,S,A⟩
theorem Jfe(b off:Nat)(f:Bool)(x y:Int)(w:BV)(hc:w.cell? ⟨b,off,none⟩=some (BT f))(hf:w.frozen? ⟨b,off,none⟩=false):
  Cd Tryz.prog 97 #[BO (some ⟨b,off,none⟩),J I x,J I y] w fun e W'=>∃ v g,e = BZ (J I v)/\BU (Ja1 f (Jw x 4294967296 y) v g)/\BU (After ⟨b,off,none⟩ g w W'):=by
 have C:BU _:=Jh9 b off f x 4294967296 y w hc hf;clear hc hf;go_enter func97,ntmps97;go_wp2_with (fail);refine JA C.out ?_;rintro e w1 ⟨v,g,rfl,S,A⟩;go_wp2_with (fail);go_ret;exact⟨v,g,rfl,S,A⟩
theorem Jbm(W:BV):Cd Tryz.prog 131 #[] W fun e W'=>e = BZ (BO (some ⟨W.heap.size,0,none⟩))/\W'=W.alloc (BP #[BT false] 57):=by
 go_enter func131,ntmps131;go_wp2;go_ret;exact⟨rfl,rfl⟩
theorem Jb4(b off o:Nat)(f g:Bool)(W:BV)(hc:W.cell? ⟨b,off,none⟩=some (BT f))(hf:W.frozen? ⟨b,off,none⟩=false)(ho:W.cell? ⟨o,0,none⟩=some (BT g))(ak:o≠b):
  Cd Tryz.prog 132 #[BO (some ⟨b,off,none⟩),BO (some ⟨o,0,none⟩)] W fun e W'=>e = BZ (BT (!g))/\BU (After ⟨b,off,none⟩ (f||g) W W'):=by
 have n1:b≠o:=Ne.symm ak;have fin:∀ x:Bool,After ⟨b,off,none⟩ x W (W.setCell ⟨b,off,none⟩ (BT x)):=fun x=>((Leaves.refl ⟨b,off,none⟩ W).own _).done (by simp[go_sem,hc]) (by simp[go_sem,hf]);have HF:BU _:=fin;clear fin;cases f
 ·go_enter func132,ntmps132;go_wp2;go_ret;exact⟨rfl,HF.out _⟩
 ·go_enter func132,ntmps132;go_wp2;go_ret;exact⟨rfl,HF.out _⟩
structure Ho(W V:BV)(p:Ce)(po:Nat)(f g:Bool)(l:List (Ce × B7)):Prop where
 leaves:Leaves p W V
 flag:V.cell? p=some (BT f)
 flagf:V.frozen? p=false
 own:V.cell? ⟨po,0,none⟩=some (BT g)
 ownf:V.frozen? ⟨po,0,none⟩=false
 fix:∀ c∈l,V.cell? c.1=some c.2/\V.frozen? c.1=false
 far:∀ c∈l,c.1.block≠po
 hp:p.block<W.heap.size
 ho:W.heap.size<=po
theorem Ho.after{W V V':BV}{p:Ce}{po:Nat}{f g g':Bool}{l:List (Ce × B7)}(h:Ho W V p po f g l)(A:After ⟨po,0,none⟩ g' V V'):Ho W V' p po f g' l:=
 ⟨h.leaves.after A h.ho,A.cellOf h.flag (by have:=h.hp;have:=h.ho;show p.block≠po;omega),A.frozenOf h.flag h.flagf (by have:=h.hp;have:=h.ho;show p.block≠po;omega),A.cell,A.frozen,fun c hc=>⟨A.cellOf (h.fix c hc).1 (h.far c hc),A.frozenOf (h.fix c hc).1 (h.fix c hc).2 (h.far c hc)⟩,h.far,h.hp,h.ho⟩
theorem Ho.alloc{W V:BV}{p:Ce}{po:Nat}{f g:Bool}{l:List (Ce × B7)}(h:Ho W V p po f g l)(o:Obj):Ho W (V.alloc o) p po f g l:=by
 have hb:=Jd V o;exact⟨h.leaves.alloc o,Jf hb h.flag,Jg hb h.flag h.flagf,Jf hb h.own,Jg hb h.own h.ownf,fun c hc=>⟨Jf hb (h.fix c hc).1,Jg hb (h.fix c hc).1 (h.fix c hc).2⟩,h.far,h.hp,h.ho⟩
theorem Ho.drew{W V:BV}{p:Ce}{po:Nat}{f g:Bool}{l:List (Ce × B7)}(h:Ho W V p po f g l):Ho W V.drew p po f g l:=⟨h.leaves.drew,h.flag,h.flagf,h.own,h.ownf,h.fix,h.far,h.hp,h.ho⟩
theorem Jfm{f g1 g2 g3:Bool}{a b c:Option Int}{x y z:Int}(h1:Ja1 false a x g1)(h2:Ja1 g1 b y g2)(h3:Ja1 g2 c z g3):Jco f a b c (cond g3 0 x) (cond g3 0 y) (cond g3 0 z) (f||g3):=by
 obtain⟨rfl,rfl⟩:=h1;obtain⟨rfl,rfl⟩:=h2;obtain⟨rfl,rfl⟩:=h3;simp only[Bool.false_or];exact⟨rfl,rfl,rfl,rfl⟩
theorem Jqd{l m:List Int}(k:Nat)(hl:l.length<=8)(h:l.any great=false)(h':m.any great=false):(Jaf (l.take k) (m.take k)).natAbs<3138550867693340381917894711603833208051177722232017256448:=by
 have:=Jdo (l.take k) (m.take k) (Jlp k h) (Jlp k h');have e:(l.take k).length<=8:=by simp;omega
 have:=Nat.mul_le_mul_right 21267647932558653957237540927630737409 e;omega
theorem Js9{a b:Int}(ha:great a=false)(hb:great b=false):(a*b).natAbs<3138550867693340381917894711603833208051177722232017256448:=by
 have h1:=(not_great a).1 ha;have h2:=(not_great b).1 hb;rw[Int.natAbs_mul];exact Nat.lt_of_le_of_lt (Nat.mul_le_mul (show a.natAbs<=4611686018427387903 by omega) (show b.natAbs<=4611686018427387903 by omega)) (by decide)
def Wn(v:B7)(n:Int):Prop:=∃ u e,v=wv u e/\Digs e/\sv u e=n
def SG8(W0:BV)(ob:Nat)(z y zy pn:Int)(γ:Nat->B7)(L:Nat->Bool)(w:BV):Prop:=
 (L 13=false->B9 W0.heap.size W0 w)/\(L 5=true->Wn (γ 5) z)/\(L 10=true->Wn (γ 10) y)/\(L 11=true->Wn (γ 11) zy)/\(L 12=true->Wn (γ 12) pn)/\(L 13=true->∃ V u e,B9 W0.heap.size W0 V/\Digs e/\sv u e=pn/\w=(((((((((V.setCell ⟨ob,0,none⟩ (BT u)).setCell ⟨ob,1,none⟩ (J I (e 0))).setCell ⟨ob,2,none⟩ (J I (e 1))).setCell ⟨ob,3,none⟩ (J I (e 2))).setCell ⟨ob,4,none⟩ (J I (e 3))).setCell ⟨ob,5,none⟩ (J I (e 4))).setCell ⟨ob,6,none⟩ (J I (e 5))).setCell ⟨ob,7,none⟩ (J I (e 6))).setCell ⟨ob,8,none⟩ (J I (e 7))))
section
variable {W0 w w':BV} {ob:Nat} {z y zy pn:Int} {γ:Nat->B7} {L:Nat->Bool}
theorem SG8.other(h:SG8 W0 ob z y zy pn γ L w){k:Nat}(v:B7)(h5:5≠k)(gY:10≠k)(oh:11≠k)(dw:12≠k)(bW:13≠k):SG8 W0 ob z y zy pn (RV.upd γ k v) (more L k) w:=by
 unfold SG8;rw[Bt h5,Bt gY,Bt oh,Bt dw,Bt bW,BI _ _ h5,BI _ _ gY,BI _ _ oh,BI _ _ dw];exact h
theorem SG8.called(h:SG8 W0 ob z y zy pn γ L w){k:Nat}{v:B7}(hn:L 13=false)(hb:B9 w.heap.size w w')(bW:13≠k)(c5:k=5->Wn v z)(rK:k=10->Wn v y)(rL:k=11->Wn v zy)(rM:k=12->Wn v pn):SG8 W0 ob z y zy pn (RV.upd γ k v) (more L k) w':=by
 have key:∀(i:Nat) (n:Int),(k=i->Wn v n)->(L i=true->Wn (γ i) n)->more L k i=true->Wn (RV.upd γ k v i) n:=fun i n c g e=>by
  by_cases hi:k=i
  ·subst hi;rw[RV.upd_self];exact c rfl
  ·rw[Bt (fun e=>hi e.symm)]at e;rw[BI _ _ (fun e=>hi e.symm)];exact g e
 refine⟨fun _=>(h.1 hn).trans (hb.mono (h.1 hn).size),key 5 z c5 h.2.1,key 10 y rK h.2.2.1,key 11 zy rL h.2.2.2.1,key 12 pn rM h.2.2.2.2.1,fun e=>?_⟩;rw[Bt bW,hn]at e;cases e
end
theorem Jsg(zs ys:List Int)(ba oa bb ob cap cap':Nat)(w0:BV)(hl:zs.length<=8)(he:zs.length=ys.length)(hg:zs.any great=false)(hg':ys.any great=false)
  (hz:∀ k,k<zs.length->w0.cell? ⟨ba,oa+k,none⟩=some (J I (zs.getD k 0))) (hy:∀ k,k<ys.length->w0.cell? ⟨bb,ob+k,none⟩=some (J I (ys.getD k 0))) :
  Cd Tryz.prog 156 #[BQ (some ⟨ba,oa,none⟩) zs.length cap,BQ (some ⟨bb,ob,none⟩) ys.length cap'] w0 fun e w'=>∃ s d,e = BZ (wv s d)/\BU (Digs d/\sv s d=Jaf zs ys)/\BU (B9 w0.heap.size w0 w'):=by
 have HZ:BU _:=hz;have HY:BU _:=hy;have HG:BU (zs.any great=false/\ys.any great=false):=⟨hg,hg'⟩
 have HE:BU _:=he;have yL:ys.length<=8:=by omega
 clear hz hy hg hg' he;go_enter func156,ntmps156;go_wp2
 go_loopw [6] (fun i wr=>∃(k:Nat) (s:Bool) (d:Nat->Int),k<=zs.length/\i=J I k/\BU (Digs d/\sv s d=Jaf (zs.take k) (ys.take k))/\BU (RLies wr w0.heap.size false (fun _=>0))/\BU (RLies wr (w0.heap.size+1) s d)/\BU (B9 w0.heap.size w0 wr)) (fun i _=>zs.length-(intOf i).toNat)
 case atStart=>exact⟨0,false,fun _=>0,Nat.zero_le _,rfl,⟨fun j _=>by simp,by simp[sv,val,Jaf]⟩,RLies.alloc (Jac w0 false (fun _=>0) 168) _,by show RLies _ _ _ _;have:=Jac (w0.alloc (BP #[BT false,J I 0,J I 0,J I 0,J I 0,J I 0,J I 0,J I 0,J I 0] 168)) false (fun _=>0) 168;simpa only[JE] using this,(Jd w0 _).alloc (by simp) _⟩
 case round =>
  obtain⟨k,s,d,hk,rfl,HD,HR,HO,HB⟩:=hrel;by_cases aG:k<zs.length
  ·have gW:k<ys.length:=by have:=HE.out;omega
   have c1:=Jf HB.out (HZ.out k aG);have c2:=Jf HB.out (HY.out k gW);have g1:=Jdc HG.out.1 aG;have g2:=Jdc HG.out.2 gW;have HS:BU _:=Jej k zs ys aG gW;have HP:BU _:=Js9 g1 g2;have HQ:BU _:=Jqd k hl HG.out.1 HG.out.2;obtain⟨z,ez⟩:∃ z,zs.getD k 0=z:=⟨_,rfl⟩
   obtain⟨y,ey⟩:∃ y,ys.getD k 0=y:=⟨_,rfl⟩
   rw[ez]at c1 g1 HS HP;rw[ey]at c2 g2 HS HP;have bz:=(not_great z).1 g1;have bY:=(not_great y).1 g2;clear ez ey g1 g2;have i0:(0:Int)<=(k:Int):=by omega
   have i1:(k:Int)<(zs.length:Int):=by omega
   have i2:(k:Int)<(ys.length:Int):=by omega
   obtain⟨a0,a1,a2,a3,a4,a5,a6,a7,a8⟩:=HO.out.cells;obtain⟨f0,f1,f2,f3,f4,f5,f6,f7,f8⟩:=HO.out.frees;go_upto_region 5 with fail;refine Bq [.some (wv s d),.some (BQ (some ⟨ba,oa,none⟩) zs.length cap),.some (J I (k:Int)),.some (BO (some ⟨ba,oa+k,none⟩)),.some (J I z),none,.some (BQ (some ⟨bb,ob,none⟩) ys.length cap'),.some (J I (k:Int)),.some (BO (some ⟨bb,ob+k,none⟩)),.some (J I y),none,none,none,none] [14,15,16,17,18,19,20,21,22,23,24,25,26,0] [(5,BO (some ⟨w0.heap.size+1,0,none⟩)),(0,BQ (some ⟨ba,oa,none⟩) zs.length cap),(6,J I (k:Int)),(1,BQ (some ⟨bb,ob,none⟩) ys.length cap')] (fun γ L W=>SG8 wr (w0.heap.size+1) z y (z*y) (Jaf (zs.take (k+1)) (ys.take (k+1))) γ L W) ⟨rfl,rfl,rfl,rfl,trivial⟩ ⟨(fun _=>(Below.refl _ wr).drew),(fun e=>by cases e),(fun e=>by cases e),(fun e=>by cases e),(fun e=>by cases e),(fun e=>by cases e)⟩ ?_ ?_
   ·intro D WA Z hD ah hZ T;simp only[RV.Outs,RV.Slots,Nat.reduceAdd]at T
    (refine Br _ (Bs T (fun γ v L w hl h=>h.other v (by decide) (by decide) (by decide) (by decide) (by decide)) (fun γ L a w hH hl h9 k9=>⟨_,?_,rfl⟩)) ?_;· have q9:=hH.glob.1 (Bu hH (Bv (j:=13) (i:=0) ah (by kernel_rfl)) hl);have q0:=Jf q9 a0;have q1:=Jf q9 a1;have q2:=Jf q9 a2;have q3:=Jf q9 a3;have q4:=Jf q9 a4;have q5:=Jf q9 a5;have q6:=Jf q9 a6;have q7:=Jf q9 a7;have q8:=Jf q9 a8;simp[JD,go_sem,h9,q0,q1,q2,q3,q4,q5,q6,q7,q8])
    (refine Br _ (Bs T (fun γ v L w hl h=>h.other v (by decide) (by decide) (by decide) (by decide) (by decide)) (fun γ L a w hH hl h9 k9=>⟨_,?_,rfl⟩)) ?_;· simp[JD,go_sem,h9])
    (refine Br _ (Bs T (fun γ v L w hl h=>h.other v (by decide) (by decide) (by decide) (by decide) (by decide)) (fun γ L a w hH hl h9 k9=>⟨_,?_,rfl⟩)) ?_;· simp[JD,go_sem,h9])
    (refine Br _ (Bs T (fun γ v L w hl h=>h.other v (by decide) (by decide) (by decide) (by decide) (by decide)) (fun γ L a w hH hl h9 k9=>⟨_,?_,rfl⟩)) ?_;· simp[JC]at k9;simp[JD,go_sem,h9,k9,i0,i1])
    (refine Br _ (Bs T (fun γ v L w hl h=>h.other v (by decide) (by decide) (by decide) (by decide) (by decide)) (fun γ L a w hH hl h9 k9=>⟨_,?_,rfl⟩)) ?_;· have q9:=hH.glob.1 (Bu hH (Bv (j:=13) (i:=4) ah (by kernel_rfl)) hl);have q0:=Jf q9 c1;simp[JC]at k9;simp[JD,go_sem,h9,k9,q0])
    refine Br _ (Bw (fun γ L a w hH hl hA=>by have h9:=T γ L a w hH;have k9:=hA;simp[JC]at k9;have n9:=Bu hH (Bv (j:=13) (i:=5) ah (by kernel_rfl)) hl;exact⟨_,_,by simp[go_sem,h9,k9],(Je4 z w (by omega) (by omega)).mono (by rintro e w2 ⟨u,e1,rfl,S,B⟩;exact⟨_,rfl,trivial,fun j v _ h=>h.keep _,hH.glob.called n9 B.out (by decide) (fun _=>⟨u,e1,rfl,S.out.1,S.out.2⟩) (fun e=>absurd e (by decide)) (fun e=>absurd e (by decide)) (fun e=>absurd e (by decide))⟩)⟩)) ?_
    (refine Br _ (Bs T (fun γ v L w hl h=>h.other v (by decide) (by decide) (by decide) (by decide) (by decide)) (fun γ L a w hH hl h9 k9=>⟨_,?_,rfl⟩)) ?_;· simp[JD,go_sem,h9])
    (refine Br _ (Bs T (fun γ v L w hl h=>h.other v (by decide) (by decide) (by decide) (by decide) (by decide)) (fun γ L a w hH hl h9 k9=>⟨_,?_,rfl⟩)) ?_;· simp[JD,go_sem,h9])
    (refine Br _ (Bs T (fun γ v L w hl h=>h.other v (by decide) (by decide) (by decide) (by decide) (by decide)) (fun γ L a w hH hl h9 k9=>⟨_,?_,rfl⟩)) ?_;· simp[JC]at k9;simp[JD,go_sem,h9,k9,i0,i2])
    (refine Br _ (Bs T (fun γ v L w hl h=>h.other v (by decide) (by decide) (by decide) (by decide) (by decide)) (fun γ L a w hH hl h9 k9=>⟨_,?_,rfl⟩)) ?_;· have q9:=hH.glob.1 (Bu hH (Bv (j:=13) (i:=9) ah (by kernel_rfl)) hl);have q0:=Jf q9 c2;simp[JC]at k9;simp[JD,go_sem,h9,k9,q0])
    refine Br _ (Bw (fun γ L a w hH hl hA=>by have h9:=T γ L a w hH;have k9:=hA;simp[JC]at k9;have n9:=Bu hH (Bv (j:=13) (i:=10) ah (by kernel_rfl)) hl;exact⟨_,_,by simp[go_sem,h9,k9],(Je4 y w (by omega) (by omega)).mono (by rintro e w2 ⟨u,e1,rfl,S,B⟩;exact⟨_,rfl,trivial,fun j v _ h=>h.keep _,hH.glob.called n9 B.out (by decide) (fun e=>absurd e (by decide)) (fun _=>⟨u,e1,rfl,S.out.1,S.out.2⟩) (fun e=>absurd e (by decide)) (fun e=>absurd e (by decide))⟩)⟩)) ?_;refine Br _ (Bw (fun γ L a w hH hl hA=>by have h9:=T γ L a w hH;have k9:=hA;simp[JC]at k9;have n9:=Bu hH (Bv (j:=13) (i:=11) ah (by kernel_rfl)) hl;have l5:L 5=true:=hA ⟨5,.data⟩ (by simp) rfl;have e5:=hH.slot 5 18 (by rw[<- hD];rfl) l5;obtain⟨u5,d5,x5,y5,z5⟩:=hH.glob.2.1 l5;rw[x5]at e5;have yM:L 10=true:=hA ⟨10,.data⟩ (by simp) rfl;have sT:=hH.slot 10 23 (by rw[<- hD];rfl) yM;obtain⟨fN,ik,x10,tR,AB⟩:=hH.glob.2.2.1 yM;rw[x10]at sT;exact⟨_,_,by simp[go_sem,e5,sT],(Jeb u5 fN d5 ik w y5 tR (by rw[z5,AB];exact Nat.lt_trans HP.out (by decide))).mono (by rintro e w2 ⟨u,e1,rfl,S,B⟩;exact⟨_,rfl,trivial,fun j v _ h=>h.keep _,hH.glob.called n9 B.out (by decide) (fun e=>absurd e (by decide)) (fun e=>absurd e (by decide)) (fun _=>⟨u,e1,rfl,S.out.1,by rw[S.out.2,z5,AB]⟩) (fun e=>absurd e (by decide))⟩)⟩)) ?_;refine Br _ (Bw (fun γ L a w hH hl hA=>by have h9:=T γ L a w hH;have k9:=hA;simp[JC]at k9;have n9:=Bu hH (Bv (j:=13) (i:=12) ah (by kernel_rfl)) hl;have yN:L 11=true:=hA ⟨11,.data⟩ (by simp) rfl;have sU:=hH.slot 11 24 (by rw[<- hD];rfl) yN;obtain⟨fO,nK,x11,y11,AC⟩:=hH.glob.2.2.2.1 yN;rw[x11]at sU;exact⟨_,_,by simp[go_sem,h9,k9,sU],(Jj6 s fO d nK w HD.out.1 y11 (by rw[HD.out.2,AC];have h1:=HP.out;have h2:=HQ.out;omega)).mono (by rintro e w2 ⟨u,e1,rfl,S,B⟩;exact⟨_,rfl,trivial,fun j v _ h=>h.keep _,hH.glob.called n9 B.out (by decide) (fun e=>absurd e (by decide)) (fun e=>absurd e (by decide)) (fun e=>absurd e (by decide)) (fun _=>⟨u,e1,rfl,S.out.1,by rw[S.out.2,HD.out.2,AC,HS.out]⟩)⟩)⟩)) ?_;refine Br _ (Bz (fun γ L a w hH hl hA=>by have h9:=T γ L a w hH;have yO:L 12=true:=hA ⟨12,.data⟩ (by simp) rfl;have sV:=hH.slot 12 25 (by rw[<- hD];rfl) yO;obtain⟨fG,il,x12,y12,z12⟩:=hH.glob.2.2.2.2.1 yO;rw[x12]at sV;have q9:=hH.glob.1 hl;have q0:=Jf q9 a0;have g0:=Jg q9 a0 f0;have q1:=Jf q9 a1;have g1:=Jg q9 a1 f1;have q2:=Jf q9 a2;have g2:=Jg q9 a2 f2;have q3:=Jf q9 a3;have g3:=Jg q9 a3 f3;have q4:=Jf q9 a4;have g4:=Jg q9 a4 f4;have q5:=Jf q9 a5;have g5:=Jg q9 a5 f5;have q6:=Jf q9 a6;have g6:=Jg q9 a6 f6;have q7:=Jf q9 a7;have g7:=Jg q9 a7 f7;have q8:=Jf q9 a8;have g8:=Jg q9 a8 f8;exact⟨(((((((((w.setCell ⟨(w0.heap.size+1),0,none⟩ (BT fG)).setCell ⟨(w0.heap.size+1),1,none⟩ (J I (il 0))).setCell ⟨(w0.heap.size+1),2,none⟩ (J I (il 1))).setCell ⟨(w0.heap.size+1),3,none⟩ (J I (il 2))).setCell ⟨(w0.heap.size+1),4,none⟩ (J I (il 3))).setCell ⟨(w0.heap.size+1),5,none⟩ (J I (il 4))).setCell ⟨(w0.heap.size+1),6,none⟩ (J I (il 5))).setCell ⟨(w0.heap.size+1),7,none⟩ (J I (il 6))).setCell ⟨(w0.heap.size+1),8,none⟩ (J I (il 7))),by simp[JD,go_sem,h9,sV,q0,g0,q1,g1,q2,g2,q3,g3,q4,g4,q5,g5,q6,g6,q7,g7,q8,g8],trivial,fun j v _ h=>h.keep _,⟨(fun e=>by rw[BD]at e;cases e),(fun e=>hH.glob.2.1 (by rwa [Bt (by decide)]at e)),(fun e=>hH.glob.2.2.1 (by rwa [Bt (by decide)]at e)),(fun e=>hH.glob.2.2.2.1 (by rwa [Bt (by decide)]at e)),(fun e=>hH.glob.2.2.2.2.1 (by rwa [Bt (by decide)]at e)),fun _=>⟨w,fG,il,q9,y12,z12,rfl⟩⟩⟩)) ?_;exact RV.AllDo.nil
   ·intro γ w5 L9 hL aX aD;obtain⟨V,u,e1,hV,g1,g2,rfl⟩:=aD.2.2.2.2.2 (hL 13 (by decide));have bX:RLies V (w0.heap.size+1) s d:=RLies.below HO.out hV HO.out.lt;have yP:RLies V w0.heap.size false (fun _=>0):=RLies.below HR.out hV HR.out.lt;have aZ:B9 w0.heap.size w0 V:=Ju HB.out hV;have X1:BU _:=Jg3 (s:=u) (d:=e1) bX;have X2:BU _:=RLies.nine (s:=u) (d:=e1) (b:=w0.heap.size+1) yP (by omega);have X3:BU _:=Jbn (b:=w0.heap.size+1) (v0:=BT u) (v1:=J I (e1 0)) (v2:=J I (e1 1)) (v3:=J I (e1 2)) (v4:=J I (e1 3)) (v5:=J I (e1 4)) (v6:=J I (e1 5)) (v7:=J I (e1 6)) (v8:=J I (e1 7)) aZ (by omega);have HU:BU (Digs e1/\sv u e1=Jaf (zs.take (k+1)) (ys.take (k+1))):=⟨g1,g2⟩
    simp only[RV.putL,Act.put,List.setIfInBounds_toArray,List.set_cons_zero,List.set_cons_succ,Nat.reduceAdd];clear a0 f0 a1 f1 a2 f2 a3 f3 a4 f4 a5 f5 a6 f6 a7 f7 a8 f8 HO HR HB HP HQ bX yP aZ aD aX hL hV g1 g2 c1 c2;go_wp2
    go_roundw
    case rel=>exact⟨k+1,u,e1,by omega,by go_num,HU.out,X2.out,X1.out,X3.out⟩
    case measure=>simp[intOf];omega
  ·have nV:(zs.length:Int)<=(k:Int):=by omega
   have HV:BU (Digs d/\sv s d=Jaf zs ys):=by
    obtain⟨d1,d2⟩:=HD.out;have e:k=zs.length:=by omega
    rw[e,List.take_length,HE.out,List.take_length]at d2;exact⟨d1,d2⟩
   obtain⟨c0,c1,c2,c3,c4,c5,c6,c7,c8⟩:=HO.out.cells;obtain⟨r0,r1,r2,r3,r4,r5,r6,r7,r8⟩:=HR.out.cells;obtain⟨f0,f1,f2,f3,f4,f5,f6,f7,f8⟩:=HR.out.frees;clear HD HZ HY HG;go_wp2
   try simp only[Exit.inBlock,Exit.then]
   refine bodyPost_ret (by simp[results,results156,go_sem,r0,r1,r2,r3,r4,r5,r6,r7,r8];try rfl) rfl ?_;exact⟨_,d,rfl,HV.out,Jbn HB.out (by omega)⟩
end
end Go.Proofs.YtkblcfgamnmbkaaGreat
