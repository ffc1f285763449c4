/- Package fx's call Dot: what it returns, and that but for the flag it leaves all memory as it was. -/
import Derived.Test.YteebbpioffdncaaGreatEBBack3
import Derived.Test.YteebbpioffdncaaGreatEBBack0
import Derived.Deep.MidRow
set_option maxHeartbeats 2000000
set_option linter.unusedVariables false
namespace Go.Proofs.YteebbpioffdncaaGreat
open Go.Calls renaming mono -> JA
open Go.World renaming block_lt_of_cell? -> JB
open Go.Region renaming binds -> JC
open Tryz
open Go.Value renaming int -> J
open Go.IntKind renaming i64 -> Y
section
open Go.RowKit Fx
def Jd9 (w:World) (a:Option Addr) (zs:List Int):Prop:=zs.length = 0 \/ ∃ b off,a = some ⟨b,off,none⟩/\∀ k,k < zs.length->w.cell? ⟨b,off + k,none⟩ = some (J Y (zs.getD k 0))
theorem Jep (zs:List Int) (a:Option Addr) (cap:Nat) (w:World) (hlen:zs.length <= 4611686018427387904) (h:Jd9 w a zs) :
  Calls Tryz.prog 119 #[.slice a zs.length cap] w fun e w'=>e = .returned (.bool (zs.any great))/\w' = w:=by
 rcases h with h | ⟨b,off,rfl,h⟩
 ·obtain rfl:zs = []:=List.length_eq_zero_iff.1 h
  exact Jpj a cap w
 ·exact Jcv zs b off cap w hlen h
theorem Jtf (b off:Nat) (f:Bool) (zs ys:List Int) (a c:Option Addr) (cap cap':Nat) (w:World) (hc:w.cell? ⟨b,off,none⟩ = some (.bool f)) (hf:w.frozen? ⟨b,off,none⟩ = false)
  (hz:zs.length <= 4611686018427387904) (hy:ys.length <= 4611686018427387904) (ha:Jd9 w a zs) (hb:Jd9 w c ys) (hno:zs.length ≠ ys.length \/ 8 < zs.length \/ zs.any great = true \/ ys.any great = true) :
  Calls Tryz.prog 114 #[.pointer (some ⟨b,off,none⟩),.slice a zs.length cap,.slice c ys.length cap'] w fun e w'=>e = .returned (J Y 0)/\w' = w.setCell ⟨b,off,none⟩ (.bool true):=by
 have C2:Hid _:=Jcb b off f w hc hf
 have C1:=Jep zs a cap w hz ha
 have C3:=Jep ys c cap' w hy hb
 clear ha hb hc hf
 by_cases h1:zs.length = ys.length
 ·have h1':((zs.length:Int) != (ys.length:Int)) = false:=by simp [h1]
  by_cases h8:8 < zs.length
  ·clear C1 C3 hno h1
   go_enter func114,ntmps114
   go_wp2_with (first | (go_at_call 120;refine (JA C2.out ?_);rintro e w' ⟨rfl,rfl⟩))
   go_ret
   exact ⟨rfl,rfl⟩
  ·cases hg:zs.any great
   ·have hg2:ys.any great = true:=by
     rcases hno with h | h | h | h
     ·exact absurd h1 h
     ·exact absurd h h8
     ·rw [hg] at h;cases h
     ·exact h
    rw [hg] at C1
    rw [hg2] at C3
    have K1:Hid _:=C1
    have K3:Hid _:=C3
    clear C1 C3 hno h1 hg hg2
    go_enter func114,ntmps114
    go_wp2_with (fail)
    refine (JA K1.out ?_);rintro e w' ⟨rfl,hw⟩;rw [hw];clear hw
    go_wp2_with (fail)
    refine (JA K3.out ?_);rintro e w' ⟨rfl,hw⟩;rw [hw];clear hw
    go_wp2_with (fail)
    refine (JA C2.out ?_);rintro e w' ⟨rfl,rfl⟩
    go_wp2_with (fail)
    go_ret
    exact ⟨rfl,rfl⟩
   ·rw [hg] at C1
    have K1:Hid _:=C1
    clear C1 C3 hno h1 hg
    go_enter func114,ntmps114
    go_wp2_with (fail)
    refine (JA K1.out ?_);rintro e w' ⟨rfl,hw⟩;rw [hw];clear hw
    go_wp2_with (fail)
    refine (JA C2.out ?_);rintro e w' ⟨rfl,rfl⟩
    go_wp2_with (fail)
    go_ret
    exact ⟨rfl,rfl⟩
 ·have h1':((zs.length:Int) != (ys.length:Int)) = true:=by simp;omega
  clear C1 C3 hno
  go_enter func114,ntmps114
  go_wp2_with (first | (go_at_call 120;refine (JA C2.out ?_);rintro e w' ⟨rfl,rfl⟩))
  go_ret
  exact ⟨rfl,rfl⟩
theorem Jsk (b off:Nat) (f:Bool) (zs ys:List Int) (a c:Option Addr) (cap cap':Nat) (w:World) (hc:w.cell? ⟨b,off,none⟩ = some (.bool f)) (hf:w.frozen? ⟨b,off,none⟩ = false)
  (ha:Jd9 w a zs) (hb:Jd9 w c ys) (h1:zs.length = ys.length) (hlen:zs.length <= 8) (hg:zs.any great = false) (hg2:ys.any great = false) :
  Calls Tryz.prog 114 #[.pointer (some ⟨b,off,none⟩),.slice a zs.length cap,.slice c ys.length cap'] w fun e w'=>e = .returned (J Y ((Fx.told (Jad zs ys / 4294967296)).getD 0))/\Below w.heap.size (Jct ⟨b,off,none⟩ (Fx.told (Jad zs ys / 4294967296)) w) w':=by
 obtain ⟨S,hS⟩:∃ S,S = Jad zs ys:=⟨_,rfl⟩
 rw [<- hS]
 have hbd:=Jdb zs ys hg hg2
 rw [<- hS] at hbd
 have hS0:-170141183460469231731687303715884105728 <= S:=by omega
 have hS1:S < 170141183460469231731687303715884105728:=by omega
 have K0:Hid _:=fun w=>Jiu S w hS0 hS1
 have HS0:Hid _:=hS
 clear hbd hS hS0 hS1
 have C1:=Jep zs a cap w (by omega) ha
 have C3:=Jep ys c cap' w (by omega) hb
 rw [hg] at C1
 rw [hg2] at C3
 have K1:Hid _:=C1
 have K3:Hid _:=C3
 have HC:Hid _:=hc
 have HF:Hid _:=hf
 have HA:Hid _:=ha
 have HD:Hid _:=hb
 have HG:Hid _:=hg
 have HG2:Hid _:=hg2
 have H1:Hid _:=h1
 have h1':((zs.length:Int) != (ys.length:Int)) = false:=by simp [h1]
 have hy8:ys.length <= 8:=by omega
 clear C1 C3 hc hf ha hb hg hg2 h1
 go_enter func114,ntmps114
 go_wp2_with (fail)
 refine (JA K1.out ?_);rintro e w' ⟨rfl,hw⟩;rw [hw];clear hw
 go_wp2_with (fail)
 refine (JA K3.out ?_);rintro e w' ⟨rfl,hw⟩;rw [hw];clear hw
 go_wp2_with (fail)
 go_loopw [32] (fun i wr=>∃ (k:Nat) (X:Int),k <= zs.length/\i = J Y k/\Hid (X = Jad (zs.take k) (ys.take k))/\Hid (Below w.heap.size w wr)/\w.heap.size < wr.heap.size/\wr.cell? ⟨w.heap.size,0,none⟩ = some (.int .u64 (X / 18446744073709551616 % 18446744073709551616))/\wr.cell? ⟨w.heap.size,1,none⟩ = some (.int .u64 (X % 18446744073709551616))/\wr.frozen? ⟨w.heap.size,0,none⟩ = false/\wr.frozen? ⟨w.heap.size,1,none⟩ = false) (fun i _=>zs.length - (intOf i).toNat)
 case atStart=>exact ⟨0,0,Nat.zero_le _,rfl,by simp [Hid,Jad],Jg _ _,by simp,by simp,by simp,by simp,by simp⟩
 case round =>
  obtain ⟨k,X,hk,rfl,HX,HB,hsz,d0,d1,f0,f1⟩:=hrel
  by_cases hlt:k < zs.length
  ·have hlt2:k < ys.length:=by have:=H1.out;omega
   rcases HA.out with h | ⟨ba,oa,rfl,hza⟩
   ·omega
   rcases HD.out with h | ⟨bb,ob,rfl,hyb⟩
   ·omega
   have hcell:=Jh HB.out (hza k hlt)
   have hcell2:=Jh HB.out (hyb k hlt2)
   have hz:=(not_great _).1 (Jcz HG.out hlt)
   have hy:=(not_great _).1 (Jcz HG2.out hlt2)
   have HS:Hid _:=Jd5 k zs ys hlt hlt2
   obtain ⟨z,ez⟩:∃ z,zs.getD k 0 = z:=⟨_,rfl⟩
   obtain ⟨y,ey⟩:∃ y,ys.getD k 0 = y:=⟨_,rfl⟩
   rw [ez] at hcell hz HS
   rw [ey] at hcell2 hy HS
   clear ez ey hza hyb HA HD
   have C3:Hid _:=fun w=>Jdc z y w (by omega) (by omega) (by omega) (by omega)
   have C4:Hid _:=fun w=>Jkg X (z * y) w
   obtain ⟨xh,hxh⟩:∃ u,u = X / 18446744073709551616 % 18446744073709551616:=⟨_,rfl⟩
   obtain ⟨xl,hxl⟩:∃ u,u = X % 18446744073709551616:=⟨_,rfl⟩
   rw [<- hxh] at d0
   rw [<- hxl] at d1
   rw [<- hxh,<- hxl] at C4
   clear hxh hxl
   have hi0:(0:Int) <= (k:Int):=by omega
   have hi1:(k:Int) < (ys.length:Int):=by omega
   go_wp2
   go_region_with (first
    | (go_at_call 122;refine (JA (C3.out _) ?_);rintro e w1 ⟨rfl,hb1⟩;have p0:=Jh hb1 d0;have p1:=Jh hb1 d1;have q0:=Ji hb1 d0 f0;have q1:=Ji hb1 d1 f1;have hs1:=hb1.size)
    | (go_at_call 142;refine (JA (C4.out _) ?_);rintro e w2 ⟨rfl,hb2⟩;have r0:=Jh hb2 p0;have r1:=Jh hb2 p1;have s0:=Ji hb2 p0 q0;have s1:=Ji hb2 p1 q1;have hs2:=hb2.size))
   all_goals go_wp2
   all_goals go_roundw
   all_goals try (case rel=>obtain ⟨m1,m2,m3,m4,m5,m6⟩:=Jnq (.int .u64 ((X + z * y) / 18446744073709551616 % 18446744073709551616)) (.int .u64 ((X + z * y) % 18446744073709551616)) HB.out hsz hb1 hb2 r0 r1 s0 s1;exact ⟨k + 1,X + z * y,by omega,by go_num,by show _ = _;rw [HS.out,HX.out],m1,m2,m3,m4,m5,m6⟩)
   all_goals try (case measure=>simp [intOf];omega)
  ·obtain rfl:k = zs.length:=by omega
   obtain rfl:X = S:=by have:=HX.out;rw [List.take_length,H1.out,List.take_length] at this;rw [this,HS0.out]
   have C4:=K0.out
   clear K0 HX HS0 hk hlt
   obtain ⟨xh,hxh⟩:∃ u,u = X / 18446744073709551616 % 18446744073709551616:=⟨_,rfl⟩
   obtain ⟨xl,hxl⟩:∃ u,u = X % 18446744073709551616:=⟨_,rfl⟩
   rw [<- hxh] at d0
   rw [<- hxl] at d1
   rw [<- hxh,<- hxl] at C4
   clear hxh hxl
   by_cases hfit:-9223372036854775808 <= X / 4294967296/\X / 4294967296 < 9223372036854775808
   ·rw [IntWalk.wrap64_in _ (by omega),decide_eq_true hfit] at C4
    have K4:Hid _:=C4
    clear C4 hfit
    go_wp2_with (first
     | (go_at_call 123;refine (JA (K4.out _) ?_);rintro e w2 ⟨rfl,hb2⟩;have B2:Hid _:=Jr HB.out hb2)
     | (go_at_call 121;refine (JA (Jdn b off f _ _ (Jh B2.out HC.out) (Ji B2.out HC.out HF.out)) ?_);rintro e w3 ⟨rfl,hb3⟩))
    go_ret
    exact ⟨rfl,Jax B2.out hb3⟩
   ·have ht:Fx.told (X / 4294967296) = none:=by
     have hgr:great (X / 4294967296) = true:=by rw [great_iff];omega
     simp only [Fx.told,hgr];rfl
    rw [decide_eq_false hfit] at C4
    have K4:Hid _:=C4
    have HT:Hid _:=ht
    clear C4 hfit ht
    go_wp2_with (first
     | (go_at_call 123;refine (JA (K4.out _) ?_);rintro e w2 ⟨rfl,hb2⟩;have B2:Hid _:=Jr HB.out hb2)
     | (go_at_call 121;refine (JA (Jcl b off f _ _ (Jh B2.out HC.out) (Ji B2.out HC.out HF.out)) ?_);rintro e w3 ⟨rfl,hb3⟩))
    go_ret
    rw [HT.out]
    exact ⟨rfl,Jax B2.out hb3⟩
theorem Jau (b off:Nat) (f:Bool) (zs ys:List Int) (a c:Option Addr) (cap cap':Nat) (w:World) (hc:w.cell? ⟨b,off,none⟩ = some (.bool f)) (hf:w.frozen? ⟨b,off,none⟩ = false)
  (hz:zs.length <= 4611686018427387904) (hy:ys.length <= 4611686018427387904) (ha:Jd9 w a zs) (hb:Jd9 w c ys) :
  Calls Tryz.prog 114 #[.pointer (some ⟨b,off,none⟩),.slice a zs.length cap,.slice c ys.length cap'] w fun e W'=>∃ v g,e = .returned (J Y v)/\Hid (Ja7 f (dot zs ys) v g)/\Hid (After ⟨b,off,none⟩ g w W'):=by
 by_cases h:zs.length ≠ ys.length \/ 8 < zs.length \/ zs.any great = true \/ ys.any great = true
 ·have hn:dot zs ys = none:=by
   unfold dot
   rcases h with h | h | h | h
   ·rw [if_pos h]
   ·simp only [h,if_true,ite_self]
   ·simp only [h,Bool.true_or,if_true,ite_self]
   ·simp only [h,Bool.or_true,if_true,ite_self]
  rw [hn]
  exact (Jtf b off f zs ys a c cap cap' w hc hf hz hy ha hb h).mono fun e w' ⟨x,y⟩=>⟨_,_,x,⟨rfl,rfl⟩,Jb9 (o:=none) (by rw [y];exact Below.refl _ _) hc hf⟩
 ·have h1:zs.length = ys.length:=by omega
  have h8:¬ 8 < zs.length:=fun g=>h (Or.inr (Or.inl g))
  have hg:zs.any great = false:=by cases e:zs.any great with
   | false=>rfl
   | true=>exact absurd (Or.inr (Or.inr (Or.inl e))) h
  have hg2:ys.any great = false:=by cases e:ys.any great with
   | false=>rfl
   | true=>exact absurd (Or.inr (Or.inr (Or.inr e))) h
  have hn:dot zs ys = Fx.told (Jad zs ys / 4294967296):=by
   unfold dot
   rw [if_neg (by omega),if_neg h8,hg,hg2];rfl
  rw [hn]
  exact (Jsk b off f zs ys a c cap cap' w hc hf ha hb h1 (by omega) hg hg2).mono fun e w' ⟨x,y⟩=>⟨_,_,x,⟨rfl,rfl⟩,Jb9 y hc hf⟩
end
section
open Go.RowKit Fx
structure Leaves (p:Addr) (W W':World):Prop where
 size:W.heap.size <= W'.heap.size
 other:∀ q:Addr,q.block < W.heap.size->q.block ≠ p.block->W'.cell? q = W.cell? q/\W'.frozen? q = W.frozen? q
 below:∀ (B:Nat) (w:World),Below B w W->B <= p.block->B <= W.heap.size->Below B w W'
 kept:W'.os = W.os/\W'.tape = W.tape/\W'.output = W.output/\∀ k,k < W.heap.size->k ≠ p.block->W'.heap[k]? = W.heap[k]?
 beside:p.block < W.heap.size->∀ o,o ≠ p.off->W'.cell? ⟨p.block,o,none⟩ = W.cell? ⟨p.block,o,none⟩/\W'.frozen? ⟨p.block,o,none⟩ = W.frozen? ⟨p.block,o,none⟩
theorem Leaves.refl (p:Addr) (W:World):Leaves p W W:=⟨Nat.le_refl _,fun _ _ _=>⟨rfl,rfl⟩,fun _ _ h _ _=>h,⟨rfl,rfl,rfl,fun _ _ _=>rfl⟩,fun _ _ _=>⟨rfl,rfl⟩⟩
theorem Leaves.drew {p:Addr} {W w:World} (h:Leaves p W w):Leaves p W w.drew:=⟨h.size,h.other,fun B w' hb h1 h2=>(h.below B w' hb h1 h2).drew,h.kept,h.beside⟩
theorem Leaves.step {p:Addr} {W w w':World} (h:Leaves p W w) (k:Below W.heap.size w w'):Leaves p W w':=by
 refine ⟨Nat.le_trans h.size k.size,fun q hq hne=>?_,fun B w0 hb h1 h2=>(h.below B w0 hb h1 h2).trans (k.mono h2),⟨k.os.trans h.kept.1,k.tape.trans h.kept.2.1,k.output.trans h.kept.2.2.1,fun i hi hne=>(k.block i hi).trans (h.kept.2.2.2 i hi hne)⟩,fun hp o ho=>?_⟩
 ·exact ⟨(k.cell hq).trans (h.other q hq hne).1,(k.frozen hq).trans (h.other q hq hne).2⟩
 ·exact ⟨(k.cell (p:=⟨p.block,o,none⟩) hp).trans (h.beside hp o ho).1,(k.frozen (p:=⟨p.block,o,none⟩) hp).trans (h.beside hp o ho).2⟩
theorem Leaves.alloc {p:Addr} {W w:World} (h:Leaves p W w) (o:Obj):Leaves p W (w.alloc o):=h.step ((Jg w o).mono h.size)
theorem Leaves.set {p:Addr} {W w:World} (h:Leaves p W w) {a:Addr} (ha:W.heap.size <= a.block) (v:Value):Leaves p W (w.setCell a v):=h.step ((Below.refl _ _).setCell ha v)
theorem Leaves.after {p q:Addr} {g:Bool} {W w w':World} (h:Leaves p W w) (a:After q g w w') (hq:W.heap.size <= q.block):Leaves p W w':=
 h.step (a.below _ _ (Below.refl _ _) hq h.size)
theorem Leaves.same {p:Addr} {g:Bool} {W w w':World} (h:Leaves p W w) (a:After p g w w'):Leaves p W w':=by
 refine ⟨Nat.le_trans h.size a.size,fun x hx hne=>?_,fun B w0 hb h1 h2=>a.below B w0 (h.below B w0 hb h1 h2) h1 (Nat.le_trans h2 h.size),⟨a.kept.1.trans h.kept.1,a.kept.2.1.trans h.kept.2.1,a.kept.2.2.1.trans h.kept.2.2.1,fun i hi hne=>(a.kept.2.2.2 i (Nat.lt_of_lt_of_le hi h.size) hne).trans (h.kept.2.2.2 i hi hne)⟩,fun hp o ho=>?_⟩
 ·have hlt:x.block < w.heap.size:=Nat.lt_of_lt_of_le hx h.size
  have:=a.other x hlt hne
  exact ⟨this.1.trans (h.other x hx hne).1,this.2.trans (h.other x hx hne).2⟩
 ·have:=a.beside (Nat.lt_of_lt_of_le hp h.size) o ho
  exact ⟨this.1.trans (h.beside hp o ho).1,this.2.trans (h.beside hp o ho).2⟩
theorem Leaves.done {p:Addr} {g:Bool} {W W':World} (h:Leaves p W W') (hc:W'.cell? p = some (.bool g)) (hf:W'.frozen? p = false):After p g W W':=⟨hc,hf,h.size,h.other,h.below,h.kept,h.beside⟩
theorem After.leaves {p:Addr} {g:Bool} {W W':World} (h:After p g W W'):Leaves p W W':=⟨h.size,h.other,h.below,h.kept,h.beside⟩
structure V3 where
 x:Int
 y:Int
 z:Int
structure V4 where
 w:Int
 x:Int
 y:Int
 z:Int
@[reducible] def V3.val (v:V3):Value:=.agg #[J Y v.x,J Y v.y,J Y v.z]
@[reducible] def V4.val (v:V4):Value:=.agg #[J Y v.w,J Y v.x,J Y v.y,J Y v.z]
def V3.zero:V3:=⟨0,0,0⟩
def V4.zero:V4:=⟨0,0,0,0⟩
end
section
open Go.RowKit Fx
structure Shape where
 k:Nat
 v:Value
 n:Nat
@[reducible] def Shape.is (v:Value):Shape:=⟨0,v,0⟩
@[reducible] def Shape.ptr:Shape:=⟨1,undef,0⟩
@[reducible] def Shape.row (n:Nat):Shape:=⟨2,undef,n⟩
def Jl (sh:Nat->Shape) (γ:Nat->Nat) (i:Nat):Value:=
 match (sh i).k with
 | 0=>(sh i).v
 | 1=>.pointer (some ⟨γ i,0,none⟩)
 | _=>.slice (some ⟨γ i,0,none⟩) (sh i).n (sh i).n
structure Made where
 i:Nat
 s:Nat
 cs:List Value
structure Plan where
 W:World
 N:Nat
 p:Addr
 fl:Addr
 g0:Bool
 bad:Bool
 f:Bool
 calls:List (Nat × Bool)
 tl:Nat
 st:Nat
 r:Nat
 res:List Value
 fixed:List (Addr × Value)
 made:List Made
def Holds (w:World) (b:Nat) (cs:List Value):Prop:=∀ k v,cs[k]? = some v->w.cell? ⟨b,k,none⟩ = some v/\w.frozen? ⟨b,k,none⟩ = false
structure Glob (π:Plan) (γ:Nat->Nat) (L:Nat->Bool) (w:World):Prop where
 leaves:Leaves π.p π.W w
 size:π.N <= w.heap.size
 flag:∃ g,w.cell? π.fl = some (.bool g)/\w.frozen? π.fl = false/\(g = true->π.bad = true)/\(π.g0 = true->g = true)/\∀ c ∈ π.calls,L c.1 = true->c.2 = true->g = true
 outer:π.fl = π.p \/ (w.cell? π.p = some (.bool (π.f || (L π.tl && π.bad)))/\w.frozen? π.p = false)
 res:∃ cs:List Value,cs.length = π.res.length/\Holds w π.r cs/\(L π.st = true->cs = π.res)
 fix:∀ c ∈ π.fixed,w.cell? c.1 = some c.2
 made:∀ m ∈ π.made,L m.i = true->π.N <= γ m.i/\γ m.i < w.heap.size/\∃ cs:List Value,cs.length = m.cs.length/\Holds w (γ m.i) cs/\(L m.s = true->cs = m.cs)
 apart:∀ m ∈ π.made,∀ m' ∈ π.made,L m.i = true->L m'.i = true->γ m.i = γ m'.i->m.i = m'.i
structure Plan.Good (π:Plan):Prop where
 wn:π.W.heap.size <= π.N
 rr:π.res = [] \/ (π.W.heap.size <= π.r/\π.r < π.N/\π.fl.block ≠ π.r/\π.p.block ≠ π.r/\∀ c ∈ π.fixed,c.1.block ≠ π.r)
 fl0:π.fl = π.p \/ π.W.heap.size <= π.fl.block
 fl1:π.fl.block < π.N
 p0:π.fl = π.p \/ π.p.block < π.W.heap.size
 fx:∀ c ∈ π.fixed,c.1.block < π.N/\c.1.block ≠ π.fl.block/\c.1.block ≠ π.p.block
 badOf:π.bad = true->π.g0 = true \/ ∃ c ∈ π.calls,c.2 = true
 callBad:∀ c ∈ π.calls,c.2 = true->π.bad = true
theorem Jfr {π:Plan} (r0:π.W.heap.size <= π.r) (r1:π.r < π.N) (fl0:π.fl = π.p \/ π.W.heap.size <= π.fl.block) (fl1:π.fl.block < π.N) (flr:π.fl.block ≠ π.r) (p0:π.p.block < π.W.heap.size)
  (fx:∀ c ∈ π.fixed,c.1.block < π.N/\c.1.block ≠ π.fl.block/\c.1.block ≠ π.p.block/\c.1.block ≠ π.r) (badOf:π.bad = true->π.g0 = true \/ ∃ c ∈ π.calls,c.2 = true) (callBad:∀ c ∈ π.calls,c.2 = true->π.bad = true):π.Good:=
 ⟨by omega,Or.inr ⟨r0,r1,flr,by omega,fun c hc=>(fx c hc).2.2.2⟩,fl0,fl1,Or.inr p0,fun c hc=>⟨(fx c hc).1,(fx c hc).2.1,(fx c hc).2.2.1⟩,badOf,callBad⟩
theorem Jh0 {π:Plan} (hπ:π.Good) {w w':World} {cs:List Value} (hl:cs.length = π.res.length) (h:Holds w π.r cs) (hX:π.r < π.N->π.W.heap.size <= π.r->π.fl.block ≠ π.r->π.p.block ≠ π.r->∀ q:Addr,q.block = π.r->w'.cell? q = w.cell? q/\w'.frozen? q = w.frozen? q):Holds w' π.r cs:=by
 rcases hπ.rr with e | ⟨r0,r1,r2,r3,_⟩
 ·rw [e] at hl
  obtain rfl:cs = []:=List.length_eq_zero_iff.1 hl
  intro k v hk;simp at hk
 ·exact fun k v hk=>by
   have:=h k v hk
   have e:=hX r1 r0 r2 r3 ⟨π.r,k,none⟩ rfl
   exact ⟨e.1.trans this.1,e.2.trans this.2⟩
def Jf3 (π:Plan) (i:Nat):Bool:=π.calls.all (fun c=>decide (c.1 ≠ i)) && decide (π.tl ≠ i) && decide (π.st ≠ i) && π.made.all (fun m=>decide (m.i ≠ i) && decide (m.s ≠ i))
theorem Jy {L:Nat->Bool} {i j:Nat} (h:j ≠ i):more L i j = L j:=by simp [more,h]
theorem more_self (L:Nat->Bool) (i:Nat):more L i i = true:=by simp [more]
theorem Holds.move {w w':World} {b:Nat} {cs:List Value} (h:Holds w b cs) (hX:∀ q:Addr,q.block = b->w'.cell? q = w.cell? q/\w'.frozen? q = w.frozen? q):Holds w' b cs:=fun k v hk=>by
 have:=h k v hk
 have e:=hX ⟨b,k,none⟩ rfl
 exact ⟨e.1.trans this.1,e.2.trans this.2⟩
theorem Jdw {π:Plan} {i:Nat} (h:Jf3 π i = true) {m:Made} (hm:m ∈ π.made):m.i ≠ i/\m.s ≠ i:=by
 simp only [Jf3,Bool.and_eq_true] at h
 have:=List.all_eq_true.1 h.2 m hm
 simpa using this
theorem Jkb {π:Plan} {i:Nat} (h:Jf3 π i = true) {c:Nat × Bool} (hc:c ∈ π.calls):c.1 ≠ i:=by
 simp only [Jf3,Bool.and_eq_true] at h
 have:=List.all_eq_true.1 h.1.1.1 c hc
 simpa using this
theorem Jks {π:Plan} {i:Nat} (h:Jf3 π i = true):π.tl ≠ i/\π.st ≠ i:=by
 simp only [Jf3,Bool.and_eq_true] at h
 exact ⟨by simpa using h.1.1.2,by simpa using h.1.2⟩
theorem Glob.stay {π:Plan} {γ:Nat->Nat} {L:Nat->Bool} {w:World} (h:Glob π γ L w) {i:Nat} (hi:Jf3 π i = true):Glob π γ (more L i) w:=by
 obtain ⟨g,h1,h2,h3,h4,h5⟩:=h.flag
 obtain ⟨cs,r1,r2,r3⟩:=h.res
 refine ⟨h.leaves,h.size,⟨g,h1,h2,h3,h4,fun c hc hl=>h5 c hc (by rwa [Jy (Jkb hi hc)] at hl)⟩,?_,⟨cs,r1,r2,fun hl=>r3 (by rwa [Jy (Jks hi).2] at hl)⟩,h.fix,fun m hm hl=>?_,fun m hm m' hm' hl hl'=>?_⟩
 ·rw [Jy (Jks hi).1];exact h.outer
 ·rw [Jy (Jdw hi hm).1] at hl
  rw [Jy (Jdw hi hm).2]
  exact h.made m hm hl
 ·rw [Jy (Jdw hi hm).1] at hl
  rw [Jy (Jdw hi hm').1] at hl'
  exact h.apart m hm m' hm' hl hl'
def upd (γ:Nat->Nat) (i b:Nat):Nat->Nat:=fun j=>if j = i then b else γ j
theorem upd_self (γ:Nat->Nat) (i b:Nat):upd γ i b i = b:=by simp [upd]
theorem upd_ne {γ:Nat->Nat} {i b j:Nat} (h:j ≠ i):upd γ i b j = γ j:=by simp [upd,h]
def Jpy (π:Plan) (i:Nat):Bool:=π.calls.all (fun c=>decide (c.1 ≠ i)) && decide (π.tl ≠ i) && decide (π.st ≠ i) && π.made.all (fun m=>decide (m.s ≠ i) || decide (m.i = i))
theorem Glob.makes {π:Plan} {γ:Nat->Nat} {L:Nat->Bool} {w:World} (h:Glob π γ L w) {i:Nat} (hi:Jpy π i = true) {m:Made} (hm:m ∈ π.made) (hmi:m.i = i) (honly:∀ m' ∈ π.made,m'.i = i->m' = m)
  (hls:m.s = i \/ L m.s = false) (cs:List Value) (t:TypeId) (hlen:cs.length = m.cs.length) (hcs:m.s = i->cs = m.cs):Glob π (upd γ i w.heap.size) (more L i) (w.alloc (.cells cs.toArray t)):=by
 obtain ⟨g,h1,h2,h3,h4,h5⟩:=h.flag
 obtain ⟨rs,r1,r2,r3⟩:=h.res
 simp only [Jpy,Bool.and_eq_true] at hi
 have ci:∀ c ∈ π.calls,c.1 ≠ i:=fun c hc=>by simpa using List.all_eq_true.1 hi.1.1.1 c hc
 have ti:π.tl ≠ i:=by simpa using hi.1.1.2
 have si:π.st ≠ i:=by simpa using hi.1.2
 have ms:∀ m' ∈ π.made,m'.i ≠ i->m'.s ≠ i:=fun m' hm' hne=>by
  have:=List.all_eq_true.1 hi.2 m' hm'
  simp only [Bool.or_eq_true,decide_eq_true_eq] at this
  exact this.resolve_right hne
 have hb:=Jg w (.cells cs.toArray t)
 have old:∀ q:Addr,q.block < w.heap.size->(w.alloc (.cells cs.toArray t)).cell? q = w.cell? q/\(w.alloc (.cells cs.toArray t)).frozen? q = w.frozen? q:=fun q hq=>⟨hb.cell hq,hb.frozen hq⟩
 have lt1:=JB _ _ h1
 refine ⟨h.leaves.alloc _,by have:=h.size;simp;omega,⟨g,(old _ lt1).1.trans h1,(old _ lt1).2.trans h2,h3,h4,fun c hc hl=>h5 c hc (by rwa [Jy (ci c hc)] at hl)⟩,?_,⟨rs,r1,?_,fun hl=>r3 (by rwa [Jy si] at hl)⟩,?_,?_,?_⟩
 ·rw [Jy ti]
  rcases h.outer with e | ⟨e1,e2⟩
  ·exact Or.inl e
  ·have lt2:=JB _ _ e1
   exact Or.inr ⟨(old _ lt2).1.trans e1,(old _ lt2).2.trans e2⟩
 ·intro k v hk
  have:=r2 k v hk
  have lt2:=JB _ _ this.1
  exact ⟨(old _ lt2).1.trans this.1,(old _ lt2).2.trans this.2⟩
 ·intro c hc
  have:=h.fix c hc
  exact (old _ (JB _ _ this)).1.trans this
 ·intro m' hm' hl
  by_cases e:m'.i = i
  ·obtain rfl:=honly m' hm' e
   rw [e,upd_self]
   refine ⟨h.size,by simp,cs,hlen,?_,?_⟩
   ·intro k v hk
    have hk':cs.toArray[k]? = some v:=by simpa using hk
    constructor
    ·rw [World.cell?_alloc_new];exact hk'
    ·simp
   ·intro hs
    rcases hls with h' | h'
    ·exact hcs h'
    ·by_cases e':m'.s = i
     ·exact hcs e'
     ·rw [Jy e',h'] at hs;cases hs
  ·rw [Jy e] at hl
   rw [upd_ne e,Jy (ms m' hm' e)]
   obtain ⟨a1,a2,xs,a3,a4,a5⟩:=h.made m' hm' hl
   exact ⟨a1,by simp;omega,xs,a3,a4.move fun q hq=>old q (by omega),a5⟩
 ·intro m1 hm1 m2 hm2 hl1 hl2 he
  by_cases e1:m1.i = i <;> by_cases e2:m2.i = i
  ·rw [e1,e2]
  ·rw [Jy e2] at hl2
   rw [e1,upd_self,upd_ne e2] at he
   have:=(h.made m2 hm2 hl2).2.1
   omega
  ·rw [Jy e1] at hl1
   rw [e2,upd_self,upd_ne e1] at he
   have:=(h.made m1 hm1 hl1).2.1
   omega
  ·rw [Jy e1] at hl1
   rw [Jy e2] at hl2
   rw [upd_ne e1,upd_ne e2] at he
   exact h.apart m1 hm1 m2 hm2 hl1 hl2 he
def Jm3 (π:Plan) (i:Nat):Bool:=decide (π.tl ≠ i) && decide (π.st ≠ i) && π.made.all (fun m=>decide (m.i ≠ i) && decide (m.s ≠ i))
theorem Glob.called {π:Plan} {γ:Nat->Nat} {L:Nat->Bool} {w w':World} (hπ:π.Good) (h:Glob π γ L w) {i:Nat} (hi:Jm3 π i = true) {c:Bool} (hc:(i,c) ∈ π.calls) (honly:∀ c' ∈ π.calls,c'.1 = i->c'.2 = c)
  {g g':Bool} (hg:w.cell? π.fl = some (.bool g)) (hg':g' = (g || c)) (ha:After π.fl g' w w'):Glob π γ (more L i) w':=by
 obtain ⟨g₁,h1,h2,h3,h4,h5⟩:=h.flag
 obtain rfl:g = g₁:=by rw [hg] at h1;simpa using h1
 obtain ⟨rs,r1,r2,r3⟩:=h.res
 simp only [Jm3,Bool.and_eq_true] at hi
 have ti:π.tl ≠ i:=by simpa using hi.1.1
 have si:π.st ≠ i:=by simpa using hi.1.2
 have ms:∀ m ∈ π.made,m.i ≠ i/\m.s ≠ i:=fun m hm=>by simpa using List.all_eq_true.1 hi.2 m hm
 have sz:=h.size
 have f1:=hπ.fl1
 refine ⟨?_,Nat.le_trans sz ha.size,⟨g',ha.cell,ha.frozen,?_,?_,?_⟩,?_,⟨rs,r1,Jh0 hπ r1 r2 fun a1 _ a3 _ q hq=>ha.other q (by omega) (by omega),fun hl=>r3 (by rwa [Jy si] at hl)⟩,?_,?_,?_⟩
 ·rcases hπ.fl0 with e | e
  ·rw [e] at ha;exact h.leaves.same ha
  ·exact h.leaves.after ha e
 ·intro e
  rw [hg'] at e
  rcases Bool.or_eq_true _ _ |>.mp e with e | e
  ·exact h3 e
  ·exact hπ.callBad _ hc e
 ·intro e;rw [hg',h4 e];rfl
 ·intro c' hc' hl hn
  by_cases e:c'.1 = i
  ·have:=honly c' hc' e
   rw [hg',<- this,hn];simp
  ·rw [Jy e] at hl
   rw [hg',h5 c' hc' hl hn];rfl
 ·rw [Jy ti]
  rcases hπ.fl0 with e | e
  ·exact Or.inl e
  ·rcases h.outer with e' | ⟨e1,e2⟩
   ·exact Or.inl e'
   ·rcases hπ.p0 with p0 | p0
    ·exact Or.inl p0
    ·have:=ha.other π.p (JB _ _ e1) (by omega)
     exact Or.inr ⟨this.1.trans e1,this.2.trans e2⟩
 ·intro x hx
  obtain ⟨x1,x2,_⟩:=hπ.fx x hx
  exact (ha.other x.1 (by omega) x2).1.trans (h.fix x hx)
 ·intro m hm hl
  rw [Jy (ms m hm).1] at hl
  rw [Jy (ms m hm).2]
  obtain ⟨a1,a2,xs,a3,a4,a5⟩:=h.made m hm hl
  exact ⟨a1,Nat.lt_of_lt_of_le a2 ha.size,xs,a3,a4.move fun q hq=>ha.other q (by omega) (by omega),a5⟩
 ·intro m1 hm1 m2 hm2 hl1 hl2 he
  rw [Jy (ms m1 hm1).1] at hl1
  rw [Jy (ms m2 hm2).1] at hl2
  exact h.apart m1 hm1 m2 hm2 hl1 hl2 he
theorem Glob.flagAll {π:Plan} {γ:Nat->Nat} {L:Nat->Bool} {w:World} (hπ:π.Good) (h:Glob π γ L w) (hall:∀ c ∈ π.calls,L c.1 = true):w.cell? π.fl = some (.bool π.bad)/\w.frozen? π.fl = false:=by
 obtain ⟨g,h1,h2,h3,h4,h5⟩:=h.flag
 have:g = π.bad:=by
  cases hb:π.bad
  ·cases hg:g
   ·rfl
   ·have:=h3 hg;rw [hb] at this;cases this
  ·rcases hπ.badOf hb with e | ⟨c,hc,e⟩
   ·exact h4 e
   ·exact h5 c hc (hall c hc) e
 rw [this] at h1
 exact ⟨h1,h2⟩
theorem Glob.told {π:Plan} {γ:Nat->Nat} {L:Nat->Bool} {w w':World} (hπ:π.Good) (h:Glob π γ L w) (hne:π.fl ≠ π.p) (hts:π.tl ≠ π.st) (hcs:∀ c ∈ π.calls,c.1 ≠ π.tl) (hms:∀ m ∈ π.made,m.i ≠ π.tl/\m.s ≠ π.tl)
  (ha:After π.p (π.f || π.bad) w w'):Glob π γ (more L π.tl) w':=by
 obtain ⟨g,h1,h2,h3,h4,h5⟩:=h.flag
 obtain ⟨rs,r1,r2,r3⟩:=h.res
 have sz:=h.size
 have p0:=hπ.p0.resolve_left hne
 have fl0:=hπ.fl0.resolve_left hne
 have hWN:=hπ.wn
 refine ⟨h.leaves.same ha,Nat.le_trans sz ha.size,⟨g,?_,?_,h3,h4,fun c hc hl=>h5 c hc (by rwa [Jy (hcs c hc)] at hl)⟩,Or.inr ⟨?_,ha.frozen⟩,⟨rs,r1,Jh0 hπ r1 r2 fun a1 _ _ a4 q hq=>ha.other q (by omega) (by omega),fun hl=>r3 (by rwa [Jy (Ne.symm hts)] at hl)⟩,?_,?_,?_⟩
 ·exact (ha.other _ (JB _ _ h1) (by omega)).1.trans h1
 ·exact (ha.other _ (JB _ _ h1) (by omega)).2.trans h2
 ·rw [more_self];simpa using ha.cell
 ·intro x hx
  obtain ⟨x1,_,x3⟩:=hπ.fx x hx
  exact (ha.other x.1 (by omega) x3).1.trans (h.fix x hx)
 ·intro m hm hl
  rw [Jy (hms m hm).1] at hl
  rw [Jy (hms m hm).2]
  obtain ⟨a1,a2,xs,a3,a4,a5⟩:=h.made m hm hl
  exact ⟨a1,Nat.lt_of_lt_of_le a2 ha.size,xs,a3,a4.move fun q hq=>ha.other q (by omega) (by omega),a5⟩
 ·intro m1 hm1 m2 hm2 hl1 hl2 he
  rw [Jy (hms m1 hm1).1] at hl1
  rw [Jy (hms m2 hm2).1] at hl2
  exact h.apart m1 hm1 m2 hm2 hl1 hl2 he
structure Only (X:Nat) (w w':World):Prop where
 size:w'.heap.size = w.heap.size
 other:∀ q:Addr,q.block ≠ X->w'.cell? q = w.cell? q/\w'.frozen? q = w.frozen? q
 leaves:∀ (p:Addr) (W:World),Leaves p W w->W.heap.size <= X->Leaves p W w'
theorem Only.refl (X:Nat) (w:World):Only X w w:=⟨rfl,fun _ _=>⟨rfl,rfl⟩,fun _ _ h _=>h⟩
theorem Only.set {X:Nat} {w w':World} (h:Only X w w') (k:Nat) (v:Value):Only X w (w'.setCell ⟨X,k,none⟩ v):=by
 refine ⟨by simpa [World.setCell] using h.size,fun q hq=>?_,fun p W hl hX=>(h.leaves p W hl hX).set hX v⟩
 exact ⟨(World.cell?_of_block (w:=w') (Below.heap_setCell _ _ _ _ hq)).trans (h.other q hq).1,(World.frozen?_of_block (w:=w') (Below.heap_setCell _ _ _ _ hq)).trans (h.other q hq).2⟩
theorem Glob.stored {π:Plan} {γ:Nat->Nat} {L:Nat->Bool} {w w':World} (hπ:π.Good) (h:Glob π γ L w) (hts:π.tl ≠ π.st) (hcs:∀ c ∈ π.calls,c.1 ≠ π.st) (hms:∀ m ∈ π.made,m.i ≠ π.st/\m.s ≠ π.st)
  (hne:π.res ≠ []) (ho:Only π.r w w') (hr:Holds w' π.r π.res):Glob π γ (more L π.st) w':=by
 obtain ⟨g,h1,h2,h3,h4,h5⟩:=h.flag
 have sz:=h.size
 obtain ⟨r0,r1',flr,rp,rfx⟩:=hπ.rr.resolve_left hne
 refine ⟨ho.leaves _ _ h.leaves r0,by rw [ho.size];exact sz,⟨g,(ho.other _ flr).1.trans h1,(ho.other _ flr).2.trans h2,h3,h4,fun c hc hl=>h5 c hc (by rwa [Jy (hcs c hc)] at hl)⟩,?_,⟨π.res,rfl,hr,fun _=>rfl⟩,?_,?_,?_⟩
 ·rw [Jy hts]
  rcases h.outer with e | ⟨e1,e2⟩
  ·exact Or.inl e
  ·exact Or.inr ⟨(ho.other _ rp).1.trans e1,(ho.other _ rp).2.trans e2⟩
 ·intro x hx
  exact (ho.other x.1 (rfx x hx)).1.trans (h.fix x hx)
 ·intro m hm hl
  rw [Jy (hms m hm).1] at hl
  rw [Jy (hms m hm).2]
  obtain ⟨a1,a2,xs,a3,a4,a5⟩:=h.made m hm hl
  exact ⟨a1,by rw [ho.size];exact a2,xs,a3,a4.move fun q hq=>ho.other q (by omega),a5⟩
 ·intro m1 hm1 m2 hm2 hl1 hl2 he
  rw [Jy (hms m1 hm1).1] at hl1
  rw [Jy (hms m2 hm2).1] at hl2
  exact h.apart m1 hm1 m2 hm2 hl1 hl2 he
theorem Glob.filled {π:Plan} {γ:Nat->Nat} {L:Nat->Bool} {w w':World} (hπ:π.Good) (h:Glob π γ L w) {s:Nat} (hts:π.tl ≠ s) (hss:π.st ≠ s) (hcs:∀ c ∈ π.calls,c.1 ≠ s) {m:Made} (hm:m ∈ π.made) (hs:m.s = s) (hi:L m.i = true)
  (hmi:∀ m' ∈ π.made,m'.i ≠ s) (honly:∀ m' ∈ π.made,m'.s = s->m' = m) (hone:∀ m' ∈ π.made,m'.i = m.i->m' = m) (ho:Only (γ m.i) w w') (hr:Holds w' (γ m.i) m.cs):Glob π γ (more L s) w':=by
 obtain ⟨g,h1,h2,h3,h4,h5⟩:=h.flag
 obtain ⟨rs,r1,r2,r3⟩:=h.res
 have sz:=h.size
 have fl1:=hπ.fl1
 have hwn:=hπ.wn
 obtain ⟨b1,b2,_⟩:=h.made m hm hi
 refine ⟨ho.leaves _ _ h.leaves (by omega),by rw [ho.size];exact sz,⟨g,(ho.other _ (by omega)).1.trans h1,(ho.other _ (by omega)).2.trans h2,h3,h4,fun c hc hl=>h5 c hc (by rwa [Jy (hcs c hc)] at hl)⟩,?_,⟨rs,r1,Jh0 hπ r1 r2 fun a1 _ _ _ q hq=>ho.other q (by omega),fun hl=>r3 (by rwa [Jy hss] at hl)⟩,?_,?_,?_⟩
 ·rw [Jy hts]
  rcases hπ.p0 with e | p0
  ·exact Or.inl e
  ·rcases h.outer with e | ⟨e1,e2⟩
   ·exact Or.inl e
   ·exact Or.inr ⟨(ho.other _ (by omega)).1.trans e1,(ho.other _ (by omega)).2.trans e2⟩
 ·intro x hx
  obtain ⟨x1,_⟩:=hπ.fx x hx
  exact (ho.other x.1 (by omega)).1.trans (h.fix x hx)
 ·intro m' hm' hl
  rw [Jy (hmi m' hm')] at hl
  obtain ⟨a1,a2,xs,a3,a4,a5⟩:=h.made m' hm' hl
  by_cases e:m'.i = m.i
  ·obtain rfl:=hone m' hm' e
   exact ⟨a1,by rw [ho.size];exact a2,m'.cs,rfl,hr,fun _=>rfl⟩
  ·have hg:γ m'.i ≠ γ m.i:=fun e'=>e (h.apart m' hm' m hm hl hi e')
   have hs':m'.s ≠ s:=fun e'=>e (by rw [honly m' hm' e'])
   rw [Jy hs']
   exact ⟨a1,by rw [ho.size];exact a2,xs,a3,a4.move fun q hq=>ho.other q (by omega),a5⟩
 ·intro m1 hm1 m2 hm2 hl1 hl2 he
  rw [Jy (hmi m1 hm1)] at hl1
  rw [Jy (hmi m2 hm2)] at hl2
  exact h.apart m1 hm1 m2 hm2 hl1 hl2 he
section
variable {P:Program} {Q:Exit->Act->World->Prop} {D:Nat->Option Tmp} {A:Nat->Nat->Prop} {sh:Nat->Shape} {π:Plan} {a₀:Act}
theorem Held.at {γ:Nat->Nat} {L:Nat->Bool} {a:Act} {w:World} (h:Held D A (Jl sh) (Glob π) a₀ γ L a w) {j:Nat} {t:Tmp} {v:Value} (hD:D j = some t) (hs:sh j = .is v) (hl:L j = true):a.tmps[t]? = some v:=by
 rw [h.slot j t hD hl];simp [Jl,hs]
theorem Held.rowAt {γ:Nat->Nat} {L:Nat->Bool} {a:Act} {w:World} (h:Held D A (Jl sh) (Glob π) a₀ γ L a w) {j n:Nat} {t:Tmp} (hD:D j = some t) (hs:sh j = .row n) (hl:L j = true):a.tmps[t]? = some (.slice (some ⟨γ j,0,none⟩) n n):=by
 rw [h.slot j t hD hl];simp [Jl,hs]
theorem Held.ptrAt {γ:Nat->Nat} {L:Nat->Bool} {a:Act} {w:World} (h:Held D A (Jl sh) (Glob π) a₀ γ L a w) {j:Nat} {t:Tmp} (hD:D j = some t) (hs:sh j = .ptr) (hl:L j = true):a.tmps[t]? = some (.pointer (some ⟨γ j,0,none⟩)):=by
 rw [h.slot j t hD hl];simp [Jl,hs]
theorem Jjh {γ:Nat->Nat} {i b j:Nat} (h:j ≠ i):Jl sh (upd γ i b) j = Jl sh γ j:=by
 unfold Jl
 rw [upd_ne h]
theorem Jd {i:Nat} {o:Oper} (v:Value) (hi:Jf3 π i = true) (hsh:sh i = .is v)
  (hrun:∀ γ L a w,Held D A (Jl sh) (Glob π) a₀ γ L a w->(∀ e ∈ o.after,JC .any e = true->L e.on = true)->(execOp a.eval o).run P w = .ok (.value v) w) (hgd:o.guard = none:=by rfl):Does P Q D A (Jl sh) (Glob π) a₀ i o:=by
 intro γ L a w hH hl haft
 refine ⟨fun _=>?_,fun hw=>by simp [Ja5,hgd] at hw⟩
 unfold Oper.wp
 rw [hrun γ L a w hH haft]
 exact ⟨v,γ,rfl,fun _ _=>rfl,fun _=>by simp [Jl,hsh],hH.glob.stay hi⟩
theorem J3 {i:Nat} {o:Oper} (hi:Jpy π i = true) (m:Made) (hm:m ∈ π.made) (hmi:m.i = i) (honly:∀ m' ∈ π.made,m'.i = i->m' = m) (hs:m.s = i \/ A m.s i) (cs:List Value) (t:TypeId) (hlen:cs.length = m.cs.length) (hcs:m.s = i->cs = m.cs)
  (hrun:∀ γ L a w,Held D A (Jl sh) (Glob π) a₀ γ L a w->(∀ e ∈ o.after,JC .any e = true->L e.on = true)->(execOp a.eval o).run P w = .ok (.value (Jl sh (upd γ i w.heap.size) i)) (w.alloc (.cells cs.toArray t))) (hgd:o.guard = none:=by rfl):Does P Q D A (Jl sh) (Glob π) a₀ i o:=by
 intro γ L a w hH hl haft
 refine ⟨fun _=>?_,fun hw=>by simp [Ja5,hgd] at hw⟩
 unfold Oper.wp
 rw [hrun γ L a w hH haft]
 refine ⟨_,upd γ i w.heap.size,rfl,fun j hj=>Jjh (fun e=>by rw [e,hl] at hj;cases hj),fun _=>rfl,hH.glob.makes hi hm hmi honly ?_ cs t hlen hcs⟩
 rcases hs with e | e
 ·exact Or.inl e
 ·refine Or.inr ?_
  cases h:L m.s with
  | false=>rfl
  | true=>have:=hH.closed _ _ e h;rw [hl] at this;cases this
theorem J9 {i:Nat} {o:Oper} (hπ:π.Good) (v:Value) (c:Bool) (hi:Jm3 π i = true) (hc:(i,c) ∈ π.calls) (honly:∀ c' ∈ π.calls,c'.1 = i->c'.2 = c) (hsh:sh i = .is v)
  (hrun:∀ γ L a w,Held D A (Jl sh) (Glob π) a₀ γ L a w->(∀ e ∈ o.after,JC .any e = true->L e.on = true)->∀ g,w.cell? π.fl = some (.bool g)->w.frozen? π.fl = false ->
   ∃ F args,(execOp a.eval o).run P w = .ok (.enter F args) w/\Calls P F args w fun e w'=>e = .returned v/\∃ g',g' = (g || c)/\After π.fl g' w w') (hgd:o.guard = none:=by rfl):Does P Q D A (Jl sh) (Glob π) a₀ i o:=by
 intro γ L a w hH hl haft
 refine ⟨fun _=>?_,fun hw=>by simp [Ja5,hgd] at hw⟩
 obtain ⟨g,h1,h2,_⟩:=hH.glob.flag
 obtain ⟨F,args,hr,hcall⟩:=hrun γ L a w hH haft g h1 h2
 unfold Oper.wp
 rw [hr]
 refine JA hcall ?_
 rintro e w' ⟨rfl,g',hg',ha⟩
 exact ⟨v,γ,rfl,fun _ _=>rfl,fun _=>by simp [Jl,hsh],hH.glob.called hπ hi hc honly h1 hg' ha⟩
theorem Jet {i:Nat} {o:Oper} (hπ:π.Good) (v:Value) (hi:i = π.tl) (hne:π.fl ≠ π.p) (hts:π.tl ≠ π.st) (hcs:∀ c ∈ π.calls,c.1 ≠ π.tl) (hms:∀ m ∈ π.made,m.i ≠ π.tl/\m.s ≠ π.tl) (hsh:sh i = .is v)
  (hall:∀ L:Nat->Bool,(∀ j e,A j e->L j = true->L e = true)->(∀ e ∈ o.after,JC .any e = true->L e.on = true)->∀ c ∈ π.calls,L c.1 = true)
  (hrun:∀ γ L a w,Held D A (Jl sh) (Glob π) a₀ γ L a w->(∀ e ∈ o.after,JC .any e = true->L e.on = true)->w.cell? π.fl = some (.bool π.bad)->w.cell? π.p = some (.bool π.f)->w.frozen? π.p = false ->
   ∃ F args,(execOp a.eval o).run P w = .ok (.enter F args) w/\Calls P F args w fun e w'=>e = .returned v/\After π.p (π.f || π.bad) w w') (hgd:o.guard = none:=by rfl):Does P Q D A (Jl sh) (Glob π) a₀ i o:=by
 subst hi
 intro γ L a w hH hl haft
 refine ⟨fun _=>?_,fun hw=>by simp [Ja5,hgd] at hw⟩
 have hfl:=hH.glob.flagAll hπ (hall L hH.closed haft)
 obtain ⟨o1,o2⟩:=hH.glob.outer.resolve_left hne
 rw [hl] at o1
 obtain ⟨F,args,hr,hcall⟩:=hrun γ L a w hH haft hfl.1 (by simpa using o1) o2
 unfold Oper.wp
 rw [hr]
 refine JA hcall ?_
 rintro e w' ⟨rfl,ha⟩
 exact ⟨v,γ,rfl,fun _ _=>rfl,fun _=>by simp [Jl,hsh],hH.glob.told hπ hne hts hcs hms ha⟩
theorem does_store {i:Nat} {o:Oper} (hπ:π.Good) (hne:π.res ≠ []) (hi:i = π.st) (hd:o.dst = none) (hts:π.tl ≠ π.st) (hcs:∀ c ∈ π.calls,c.1 ≠ π.st) (hms:∀ m ∈ π.made,m.i ≠ π.st/\m.s ≠ π.st)
  (hrun:∀ γ L a w,Held D A (Jl sh) (Glob π) a₀ γ L a w->(∀ e ∈ o.after,JC .any e = true->L e.on = true)->∀ cs:List Value,cs.length = π.res.length->Holds w π.r cs ->
   ∃ w',(execOp a.eval o).run P w = .ok .skip w'/\Only π.r w w'/\Holds w' π.r π.res) (hgd:o.guard = none:=by rfl):Does P Q D A (Jl sh) (Glob π) a₀ i o:=by
 subst hi
 intro γ L a w hH hl haft
 refine ⟨fun _=>?_,fun hw=>by simp [Ja5,hgd] at hw⟩
 obtain ⟨cs,c1,c2,_⟩:=hH.glob.res
 obtain ⟨w',hr,ho,hh⟩:=hrun γ L a w hH haft cs c1 c2
 unfold Oper.wp
 rw [hr]
 exact ⟨undef,γ,rfl,fun _ _=>rfl,fun h=>by simp [hd] at h,hH.glob.stored hπ hts hcs hms hne ho hh⟩
theorem Ji5 {i:Nat} {o:Oper} (hπ:π.Good) (hd:o.dst = none) (hts:π.tl ≠ i) (hss:π.st ≠ i) (hcs:∀ c ∈ π.calls,c.1 ≠ i) (m:Made) (hm:m ∈ π.made) (hs:m.s = i)
  (hmi:∀ m' ∈ π.made,m'.i ≠ i) (honly:∀ m' ∈ π.made,m'.s = i->m' = m) (hone:∀ m' ∈ π.made,m'.i = m.i->m' = m)
  (hrun:∀ γ L a w,Held D A (Jl sh) (Glob π) a₀ γ L a w->(∀ e ∈ o.after,JC .any e = true->L e.on = true)->L m.i = true/\∀ cs:List Value,cs.length = m.cs.length->Holds w (γ m.i) cs ->
   ∃ w',(execOp a.eval o).run P w = .ok .skip w'/\Only (γ m.i) w w'/\Holds w' (γ m.i) m.cs) (hgd:o.guard = none:=by rfl):Does P Q D A (Jl sh) (Glob π) a₀ i o:=by
 intro γ L a w hH hl haft
 refine ⟨fun _=>?_,fun hw=>by simp [Ja5,hgd] at hw⟩
 obtain ⟨hmL,hrun⟩:=hrun γ L a w hH haft
 obtain ⟨_,_,cs,c1,c2,_⟩:=hH.glob.made m hm hmL
 obtain ⟨w',hr,ho,hh⟩:=hrun cs c1 c2
 unfold Oper.wp
 rw [hr]
 exact ⟨undef,γ,rfl,fun _ _=>rfl,fun h=>by simp [hd] at h,hH.glob.filled hπ hts hss hcs hm hs hmL hmi honly hone ho hh⟩
end
theorem Jfs {α:Type} {f:α->Nat}:∀ {l:List α},(l.map f).Nodup->∀ {x y:α},x ∈ l->y ∈ l->f x = f y->x = y
 | [],_,_,_,h,_,_=>by simp at h
 | z :: l,hn,x,y,hx,hy,he=>by
  rw [List.map_cons,List.nodup_cons] at hn
  rcases List.mem_cons.1 hx with ex | hx' <;> rcases List.mem_cons.1 hy with ey | hy'
  ·rw [ex,ey]
  ·exact absurd (List.mem_map.2 ⟨y,hy',by rw [<- he,ex]⟩) hn.1
  ·exact absurd (List.mem_map.2 ⟨x,hx',by rw [he,ey]⟩) hn.1
  ·exact Jfs hn.2 hx' hy' he
theorem J7 {π:Plan} (h:(π.calls.map (·.1)).Nodup) {i:Nat} {c:Bool} (hc:(i,c) ∈ π.calls):∀ c' ∈ π.calls,c'.1 = i->c'.2 = c:=fun c' hc' he=>by rw [Jfs h hc' hc he]
theorem J5 {π:Plan} (h:(π.made.map (·.i)).Nodup) {m:Made} (hm:m ∈ π.made):∀ m' ∈ π.made,m'.i = m.i->m' = m:=fun _ hm' he=>Jfs h hm' hm he
theorem Ji2 {π:Plan} (h:(π.made.map (·.s)).Nodup) {m:Made} (hm:m ∈ π.made):∀ m' ∈ π.made,m'.s = m.s->m' = m:=fun _ hm' he=>Jfs h hm' hm he
theorem Jak {w:World} {b N:Nat} {s:Bool} {cs0:List Value} (xs:List Int) (h:N <= b/\b < w.heap.size/\∃ cs:List Value,cs.length = cs0.length/\Holds w b cs/\(s = true->cs = cs0)) (hs:s = true) (he:cs0 = xs.map (Value.int .i64)):Jd9 w (some ⟨b,0,none⟩) xs:=by
 obtain ⟨_,_,cs,_,h2,h3⟩:=h
 refine Or.inr ⟨b,0,rfl,fun k hk=>?_⟩
 rw [h3 hs,he] at h2
 have:=(h2 k (J Y xs[k]) (by simp [hk])).1
 rw [Nat.zero_add,this]
 simp [List.getD_eq_getElem?_getD,hk]
theorem dst_free {ops:Array Oper} {t:Tmp} (h:(ops.toList.all fun o=>o.dst != some t) = true):∀ j,Jai ops j ≠ some t:=by
 intro j e
 obtain ⟨o,ho,hd⟩:=Option.bind_eq_some_iff.1 e
 have:=List.all_eq_true.1 h o (List.mem_of_getElem? (by simpa using ho))
 simp [hd] at this
theorem AllDo.cons {P:Program} {Q:Exit->Act->World->Prop} {D:Nat->Option Tmp} {A:Nat->Nat->Prop} {val:(Nat->Nat)->Nat->Value} {G:(Nat->Nat)->(Nat->Bool)->World->Prop} {a₀:Act} {o:Oper} {rest:List Oper} {n:Nat} (i:Nat) (hi:i = n)
  (h:Does P Q D A val G a₀ i o) (h':AllDo P Q D A val G a₀ rest (i + 1)):AllDo P Q D A val G a₀ (o :: rest) n:=by subst hi;exact ⟨h,h'⟩
theorem AllDo.nil {P:Program} {Q:Exit->Act->World->Prop} {D:Nat->Option Tmp} {A:Nat->Nat->Prop} {val:(Nat->Nat)->Nat->Value} {G:(Nat->Nat)->(Nat->Bool)->World->Prop} {a₀:Act} {n:Nat}:AllDo P Q D A val G a₀ [] n:=trivial
theorem Jpt {α:Type} {l:List α} (h:l.length = 3):∃ a b c,l = [a,b,c]:=by
 match l,h with
 | [a,b,c],_=>exact ⟨a,b,c,rfl⟩
theorem Js4 {α:Type} {l:List α} (h:l.length = 4):∃ a b c d,l = [a,b,c,d]:=by
 match l,h with
 | [a,b,c,d],_=>exact ⟨a,b,c,d,rfl⟩
theorem Js8 {α:Type} {l:List α} (h:l.length = 9):∃ a b c d e f g i j,l = [a,b,c,d,e,f,g,i,j]:=by
 match l,h with
 | [a,b,c,d,e,f,g,i,j],_=>exact ⟨a,b,c,d,e,f,g,i,j,rfl⟩
theorem Jl7 {w:World} {b:Nat} {u0 u1 u2 v0 v1 v2:Value} (h:Holds w b [u0,u1,u2]):Holds (((w.setCell ⟨b,0,none⟩ v0).setCell ⟨b,1,none⟩ v1).setCell ⟨b,2,none⟩ v2) b [v0,v1,v2]:=by
 have h0:=h 0 u0 rfl
 have h1:=h 1 u1 rfl
 have h2:=h 2 u2 rfl
 intro k v hk
 match k,hk with
 | 0,hk=>simp at hk;subst hk;simp [go_sem,h0]
 | 1,hk=>simp at hk;subst hk;simp [go_sem,h1]
 | 2,hk=>simp at hk;subst hk;simp [go_sem,h2]
theorem Jq7 {w:World} {b:Nat} {u0 u1 u2 u3 v0 v1 v2 v3:Value} (h:Holds w b [u0,u1,u2,u3]):Holds ((((w.setCell ⟨b,0,none⟩ v0).setCell ⟨b,1,none⟩ v1).setCell ⟨b,2,none⟩ v2).setCell ⟨b,3,none⟩ v3) b [v0,v1,v2,v3]:=by
 have h0:=h 0 u0 rfl
 have h1:=h 1 u1 rfl
 have h2:=h 2 u2 rfl
 have h3:=h 3 u3 rfl
 intro k v hk
 match k,hk with
 | 0,hk=>simp at hk;subst hk;simp [go_sem,h0]
 | 1,hk=>simp at hk;subst hk;simp [go_sem,h1]
 | 2,hk=>simp at hk;subst hk;simp [go_sem,h2]
 | 3,hk=>simp at hk;subst hk;simp [go_sem,h3]
theorem Jt0 {w:World} {b:Nat} {u0 u1 u2 u3 u4 u5 u6 u7 u8 v0 v1 v2 v3 v4 v5 v6 v7 v8:Value} (h:Holds w b [u0,u1,u2,u3,u4,u5,u6,u7,u8]) :
  Holds (((((((((w.setCell ⟨b,0,none⟩ v0).setCell ⟨b,1,none⟩ v1).setCell ⟨b,2,none⟩ v2).setCell ⟨b,3,none⟩ v3).setCell ⟨b,4,none⟩ v4).setCell ⟨b,5,none⟩ v5).setCell ⟨b,6,none⟩ v6).setCell ⟨b,7,none⟩ v7).setCell ⟨b,8,none⟩ v8) b [v0,v1,v2,v3,v4,v5,v6,v7,v8]:=by
 have h0:=h 0 u0 rfl
 have h1:=h 1 u1 rfl
 have h2:=h 2 u2 rfl
 have h3:=h 3 u3 rfl
 have h4:=h 4 u4 rfl
 have h5:=h 5 u5 rfl
 have h6:=h 6 u6 rfl
 have h7:=h 7 u7 rfl
 have h8:=h 8 u8 rfl
 intro k v hk
 match k,hk with
 | 0,hk=>simp at hk;subst hk;simp [go_sem,h0]
 | 1,hk=>simp at hk;subst hk;simp [go_sem,h1]
 | 2,hk=>simp at hk;subst hk;simp [go_sem,h2]
 | 3,hk=>simp at hk;subst hk;simp [go_sem,h3]
 | 4,hk=>simp at hk;subst hk;simp [go_sem,h4]
 | 5,hk=>simp at hk;subst hk;simp [go_sem,h5]
 | 6,hk=>simp at hk;subst hk;simp [go_sem,h6]
 | 7,hk=>simp at hk;subst hk;simp [go_sem,h7]
 | 8,hk=>simp at hk;subst hk;simp [go_sem,h8]
theorem Jc9 (π:Plan) (h:π.bad = (π.g0 || π.calls.any (·.2))):(π.bad = true->π.g0 = true \/ ∃ c ∈ π.calls,c.2 = true)/\∀ c ∈ π.calls,c.2 = true->π.bad = true:=by
 refine ⟨fun e=>?_,fun c hc e=>?_⟩
 ·rw [h] at e
  rcases Bool.or_eq_true _ _ |>.mp e with e | e
  ·exact Or.inl e
  ·obtain ⟨c,hc,e⟩:=List.any_eq_true.1 e
   exact Or.inr ⟨c,hc,e⟩
 ·rw [h]
  have:π.calls.any (·.2) = true:=List.any_eq_true.2 ⟨c,hc,e⟩
  rw [this];simp
end
section
open Go.RowKit Go.Shelf Fx
structure Bd where
 k:Int
 s:V3
 q:V4
 p:V3
 l:V3
 m:Int
 i:V3
def Bd.L (b:Bd) (R:List Value):List Value:=
 J Y b.k :: J Y b.s.x :: J Y b.s.y :: J Y b.s.z :: J Y b.q.w :: J Y b.q.x :: J Y b.q.y :: J Y b.q.z ::
 J Y b.p.x :: J Y b.p.y :: J Y b.p.z :: J Y b.l.x :: J Y b.l.y :: J Y b.l.z ::
 J Y b.m :: J Y b.i.x :: J Y b.i.y :: J Y b.i.z :: R
structure Rest (R:List Value):Prop where
 len:R.length = 13
 one:∀ v ∈ R,v.oneCell' = true
theorem Rest.all {R:List Value} (h:Rest R) (b:Bd):(b.L R).length = 31:=by simp [Bd.L,h.len]
theorem Rest.each {R:List Value} (h:Rest R) (b:Bd):(b.L R).toArray.all (·.oneCell') = true:=by
 apply all_oneCell_toArray
 intro v hv
 simp only [Bd.L,List.mem_cons] at hv
 rcases hv with rfl | rfl | rfl | rfl | rfl | rfl | rfl | rfl | rfl | rfl | rfl | rfl | rfl | rfl | rfl | rfl | rfl | rfl | hv
 all_goals first | rfl | exact h.one v hv
def CW (W:World) (b:Nat) (vs:List Value):Prop:=∀ i v,vs[i]? = some v->W.cell? ⟨b,i,none⟩ = some v/\W.frozen? ⟨b,i,none⟩ = false
theorem CW.step {A B:World} {b:Nat} {vs:List Value} (h:CW A b vs) (hb:Below A.heap.size A B):CW B b vs:=fun i v e=>⟨Ja hb (h i v e).1,Jt hb (h i v e).1 (h i v e).2⟩
theorem CW.new (w:World) (vs:List Value) (t:TypeId):CW (w.alloc (.cells vs.toArray t)) w.heap.size vs:=fun i v e=>⟨by simp [e],by simp [go_sem]⟩
theorem CW.lt {W:World} {b:Nat} {v:Value} {vs:List Value} (h:CW W b (v :: vs)):b < W.heap.size:=JB _ _ (h 0 v rfl).1
theorem CW.leaves {p:Addr} {A B:World} {b:Nat} {vs:List Value} (h:CW A b vs) (hl:Leaves p A B) (hne:b ≠ p.block):CW B b vs:=fun i v e=>by
 have:=hl.other ⟨b,i,none⟩ (JB _ _ (h i v e).1) hne
 exact ⟨this.1.trans (h i v e).1,this.2.trans (h i v e).2⟩
theorem CW.after {p:Addr} {g:Bool} {A B:World} {b:Nat} {vs:List Value} (h:CW A b vs) (hl:After p g A B) (hne:b ≠ p.block):CW B b vs:=h.leaves hl.leaves hne
theorem CW.set {W:World} {b:Nat} {vs:List Value} (h:CW W b vs) (k:Nat) (u:Value) (hk:k < vs.length):CW (W.setCell ⟨b,k,none⟩ u) b (vs.set k u):=by
 intro i v e
 by_cases hik:i = k
 ·subst hik
  rw [List.getElem?_set_self hk] at e
  cases e
  obtain ⟨h1,h2⟩:=h i _ (List.getElem?_eq_getElem hk)
  exact ⟨by simp [go_sem,h1],by simp [go_sem,h2]⟩
 ·rw [List.getElem?_set_ne (Ne.symm hik)] at e
  obtain ⟨h1,h2⟩:=h i v e
  exact ⟨by simp [go_sem,h1],by simp [go_sem,h2]⟩
theorem CW.other {W:World} {b:Nat} {vs:List Value} (h:CW W b vs) {a:Addr} (hne:a.block ≠ b) (u:Value):CW (W.setCell a u) b vs:=by
 intro i v e
 obtain ⟨h1,h2⟩:=h i v e
 refine ⟨(World.cell?_setCell_other _ _ _ _ (fun e=>hne (by rw [e]))).trans h1,?_⟩
 simp [go_sem,h2]
theorem CW.range {W:World} {b:Nat} {vs:List Value} (h:CW W b vs):World.rangeAt W b 0 vs:=fun j v e=>by rw [Nat.zero_add];exact (h j v e).1
theorem CW.there {W:World} {b:Nat} {vs:List Value} (h:CW W b vs):World.there W b 0 vs.length:=fun j hj=>by
 rw [Nat.zero_add]
 obtain ⟨h1,h2⟩:=h j _ (List.getElem?_eq_getElem hj)
 exact ⟨by rw [h1];rfl,h2⟩
theorem CW.sets {W:World} {b:Nat} {vs us:List Value} (h:CW W b vs) (hl:us.length = vs.length):CW (W.setCells b 0 us) b us:=by
 have ht:=h.there
 rw [<- hl] at ht
 intro i v e
 have:=World.rangeAt_setCells_same W b 0 us ht i v e
 rw [Nat.zero_add] at this
 refine ⟨this,?_⟩
 have hi:i < us.length:=(List.getElem?_eq_some_iff.1 e).1
 have:=(ht i hi).2
 rw [Nat.zero_add] at this
 rw [World.frozen?_setCells]
 exact this
def orL (f:Bool) (cs:List (Nat × Bool)) (L:Nat->Bool):Bool:=f || cs.any (fun c=>L c.1 && c.2)
theorem Jrm (f:Bool) (cs:List (Nat × Bool)):orL f cs (fun _=>false) = f:=by
 unfold orL
 induction cs with
 | nil=>simp
 | cons c r ih=>simp at ih ⊢
theorem Jj3 {f:Bool} {cs:List (Nat × Bool)} {L:Nat->Bool} {i:Nat} (h:(cs.all fun c=>decide (c.1 ≠ i)) = true):orL f cs (more L i) = orL f cs L:=by
 unfold orL
 congr 1
 induction cs with
 | nil=>rfl
 | cons c r ih =>
  simp only [List.all_cons,Bool.and_eq_true,decide_eq_true_eq] at h
  simp only [List.any_cons]
  rw [ih h.2,RV.mn h.1]
theorem Jq0 {f:Bool} {cs:List (Nat × Bool)} {L:Nat->Bool} {i:Nat} {b:Bool} (hl:L i = false) (h:(cs.filter fun c=>decide (c.1 = i)) = [(i,b)]):orL f cs (more L i) = (orL f cs L || b):=by
 unfold orL
 rw [Bool.or_assoc]
 congr 1
 induction cs with
 | nil=>simp at h
 | cons c r ih =>
  simp only [List.any_cons]
  by_cases e:c.1 = i
  ·rw [List.filter_cons_of_pos (by simpa using e)] at h
   obtain ⟨rfl,hr⟩:=List.cons.inj h
   have h2:(r.all fun c=>decide (c.1 ≠ i)) = true:=by
    rw [List.all_eq_true]
    intro x hx
    rw [decide_eq_true_eq]
    intro hxi
    have:x ∈ r.filter fun c=>decide (c.1 = i):=List.mem_filter.2 ⟨hx,by simpa using hxi⟩
    rw [hr] at this
    cases this
   have h3:=Jj3 (f:=false) (L:=L) h2
   unfold orL at h3
   simp only [Bool.false_or] at h3
   rw [h3]
   simp only [RV.more_self,hl,Bool.true_and,Bool.false_and,Bool.false_or]
   rw [Bool.or_comm]
  ·rw [List.filter_cons_of_neg (by simpa using e)] at h
   rw [ih h,RV.mn e,Bool.or_assoc]
structure FG (V:World) (p:Addr) (f:Bool) (cs:List (Nat × Bool)) (L:Nat->Bool) (w:World):Prop where
 leaves:Leaves p V w
 cell:w.cell? p = some (.bool (orL f cs L))
 frozen:w.frozen? p = false
theorem FG.start {V:World} {p:Addr} {f:Bool} {cs:List (Nat × Bool)} (hc:V.cell? p = some (.bool f)) (hf:V.frozen? p = false):FG V p f cs (fun _=>false) V.drew:=
 ⟨(Leaves.refl _ _).drew,by rw [Jrm];exact hc,hf⟩
theorem FG.stay {V:World} {p:Addr} {f:Bool} {cs:List (Nat × Bool)} {L:Nat->Bool} {w:World} (h:FG V p f cs L w) {i:Nat} (hi:(cs.all fun c=>decide (c.1 ≠ i)) = true):FG V p f cs (more L i) w:=
 ⟨h.leaves,by rw [Jj3 hi];exact h.cell,h.frozen⟩
theorem FG.come {V:World} {p:Addr} {f:Bool} {cs:List (Nat × Bool)} {L:Nat->Bool} {w w':World} (h:FG V p f cs L w) {i:Nat} {b:Bool} (hl:L i = false) (hi:(cs.filter fun c=>decide (c.1 = i)) = [(i,b)]) (ha:After p (orL f cs L || b) w w'):FG V p f cs (more L i) w':=
 ⟨h.leaves.same ha,by rw [Jq0 hl hi];exact ha.cell,ha.frozen⟩
theorem FG.at {V:World} {p:Addr} {f:Bool} {cs:List (Nat × Bool)} {L:Nat->Bool} {w:World} (h:FG V p f cs L w) {q:Addr} {v:Value} (hq:V.cell? q = some v) (hne:q.block ≠ p.block):w.cell? q = some v:=
 (h.leaves.other q (JB _ _ hq) hne).1.trans hq
theorem FG.open {V:World} {p:Addr} {f:Bool} {cs:List (Nat × Bool)} {L:Nat->Bool} {w:World} (h:FG V p f cs L w) {q:Addr} {v:Value} (hq:V.cell? q = some v) (hf:V.frozen? q = false) (hne:q.block ≠ p.block):w.frozen? q = false:=
 (h.leaves.other q (JB _ _ hq) hne).2.trans hf
theorem FG.range {V:World} {p:Addr} {f:Bool} {cs:List (Nat × Bool)} {L:Nat->Bool} {w:World} (h:FG V p f cs L w) {b:Nat} {vs:List Value} (hq:CW V b vs) (hne:b ≠ p.block):World.rangeAt w b 0 vs:=(hq.leaves h.leaves hne).range
def FGS (V:World) (p:Addr) (f:Bool) (cs:List (Nat × Bool)) (st:Nat) (S:World->World) (L:Nat->Bool) (w9:World):Prop:=(L st = false/\FG V p f cs L w9) \/ (L st = true/\∃ w,FG V p f cs L w/\w9 = S w)
section
variable {V:World} {p:Addr} {f:Bool} {cs:List (Nat × Bool)} {st:Nat} {S:World->World} {L:Nat->Bool} {w w':World} {i:Nat}
theorem FGS.start (hc:V.cell? p = some (.bool f)) (hf:V.frozen? p = false):FGS V p f cs st S (fun _=>false) V.drew:=Or.inl ⟨rfl,FG.start hc hf⟩
theorem FGS.stay (h:FGS V p f cs st S L w) (hs:st ≠ i) (hi:(cs.all fun c=>decide (c.1 ≠ i)) = true):FGS V p f cs st S (more L i) w:=by
 unfold FGS
 rw [RV.mn hs]
 rcases h with ⟨a,b⟩ | ⟨a,x,b,c⟩
 ·exact Or.inl ⟨a,b.stay hi⟩
 ·exact Or.inr ⟨a,x,b.stay hi,c⟩
theorem FGS.early (h:FGS V p f cs st S L w) (hl:L st = false):FG V p f cs L w:=by
 rcases h with h | h
 ·exact h.2
 ·rw [hl] at h;cases h.1
theorem FGS.late (h:FGS V p f cs st S L w) (hl:L st = true):∃ x,FG V p f cs L x/\w = S x:=by
 rcases h with h | h
 ·rw [hl] at h;cases h.1
 ·exact h.2
theorem FGS.come {b:Bool} (h:FG V p f cs L w) (hs:st ≠ i) (he:L st = false) (hl:L i = false) (hi:(cs.filter fun c=>decide (c.1 = i)) = [(i,b)]) (ha:After p (orL f cs L || b) w w'):FGS V p f cs st S (more L i) w':=
 Or.inl ⟨by rw [RV.mn hs];exact he,h.come hl hi ha⟩
theorem FGS.store (h:FG V p f cs L w) (hi:(cs.all fun c=>decide (c.1 ≠ st)) = true):FGS V p f cs st S (more L st) (S w):=Or.inr ⟨RV.more_self,w,h.stay hi,rfl⟩
end
end
end Go.Proofs.YteebbpioffdncaaGreat
