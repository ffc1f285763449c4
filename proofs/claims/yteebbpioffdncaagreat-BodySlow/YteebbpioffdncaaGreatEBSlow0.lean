/- Package fx's calls as the laws meet them: what is told, what becomes of the flag, and that nothing else of what was there has turned. -/
import Derived.Test.YteebbpioffdncaaGreatBW3
import Derived.Test.YteebbpioffdncaaGreatBW2
import Derived.Test.YteebbpioffdncaaGreatProg
import Derived.WalkKit
import Derived.Laws.MathBits
import Derived.Laws.Externs
import Derived.Handy
import Derived.Laws.BitsAllLaws
import Derived.WalkLawsBesides
import Derived.Deep.RegionWith
import Derived.Test.YteebbpioffdncaaGreatBW4
import Derived.Test.YteebbpioffdncaaGreatBW5
import Derived.Test.YteebbpioffdncaaGreatBW0
import Derived.Orders
import Derived.Below
import Derived.Laws.Rows
import Derived.RangeFuncBox
import Derived.Shelf.Abstract
import Derived.OwnWalkIn
import Derived.TacticsInMore
import Derived.LoopNIn
import Derived.LoopIn
import Derived.LoopTactic
import Derived.ProofKit
import Derived.Laws.MakeOwn
import Derived.Laws.OwnMore
import Derived.Maps.AppendAt
import Derived.Deep.QuietTactic
import Derived.BigQuiet
import Derived.Deep.CutBlock
import Derived.Deep.CutRange
import Derived.Deep.LoopGhost
import Derived.Lib.SmallJoins
import Derived.RowKit
import Derived.Deep.MidRow
import Derived.Test.YteebbpioffdncaaGreatBW8
import Derived.RangeFuncNested
import Derived.RangeFuncBound
import Derived.RangeFuncCalls
import Derived.RangeFuncLeaves
import Derived.Test.YteebbpioffdncaaGreatBW1
import Derived.OneCell
import Derived.WalkMore
import Derived.Lib.BufferMore
import Derived.Test.YteebbpioffdncaaGreatBW6
import Derived.Test.YteebbpioffdncaaGreatBW7
import Derived.Test.YteebbpioffdncaaGreatBW14
import Derived.Test.YteebbpioffdncaaGreatBW13
import Derived.Test.YteebbpioffdncaaGreatBW12
import Derived.Test.YteebbpioffdncaaGreatBW11
import Derived.Test.YteebbpioffdncaaGreatBW10
import Derived.Test.YteebbpioffdncaaGreatBW9
import Derived.Deep.RegionHeld3
import Derived.Test.YteebbpioffdncaaGreatBW15
import Derived.Test.YteebbpioffdncaaGreatBW17
import Derived.Test.YteebbpioffdncaaGreatBW16
import Derived.Test.YteebbpioffdncaaGreatBW24
import Derived.Test.YteebbpioffdncaaGreatBW25
import Derived.OpenShut
import Derived.Test.YteebbpioffdncaaGreatBW19
import Derived.Test.YteebbpioffdncaaGreatBW18
import Derived.Deep.Slices
import Derived.Test.YteebbpioffdncaaGreatBW26
import Derived.Test.YteebbpioffdncaaGreatBW22
import Derived.Test.YteebbpioffdncaaGreatBW21
import Derived.Test.YteebbpioffdncaaGreatBW20
import Derived.Test.YteebbpioffdncaaGreatBW23
set_option maxHeartbeats 4000000
set_option maxRecDepth 100000
set_option linter.unusedVariables false
namespace Go.Proofs.YteebbpioffdncaaGreat
open Go.Value renaming int -> J
open Go.IntKind renaming i64 -> Jk
section
open Go.RowKit Fx
theorem Jq8 (b off:Nat) (f:Bool) (x y z:Int) (W:World) (hc:W.cell? ⟨b,off,none⟩ = some (.bool f)) (hf:W.frozen? ⟨b,off,none⟩ = false) :
  Calls Tryz.prog 116 #[.pointer (some ⟨b,off,none⟩),.slice (some ⟨W.heap.size,0,none⟩) 3 3] (W.alloc (.cells #[J Jk x,J Jk y,J Jk z] 3)) fun e W'=>∃ v g,e = .returned (J Jk v)/\Hid (Jbi f (Jak [x,y,z]) v g)/\Hid (After ⟨b,off,none⟩ g W W'):=by
 have hb:=Jg W (.cells #[J Jk x,J Jk y,J Jk z] 3)
 have hc':=Jh hb hc
 have hf':=Ji hb hc hf
 have h:=Jlx b off f [x,y,z] W.heap.size 0 3 (W.alloc (.cells #[J Jk x,J Jk y,J Jk z] 3)) hc' hf' (fun k hk=>by
  match k,hk with
  | 0,_=>simp
  | 1,_=>simp
  | 2,_=>simp) (by simp)
 exact h.mono fun _ _ ⟨a,h⟩=>⟨_,_,a,⟨rfl,rfl⟩,Jch (Ja6 hb h) hc hf⟩
end
section
open Go.RowKit Fx
theorem After.trans {p:Addr} {g g':Bool} {W W' W'':World} (h:After p g W W') (h':After p g' W' W''):After p g' W W'':=(h.leaves.same h').done h'.cell h'.frozen
end
section
open Go.RowKit Fx
theorem Jsp (b off:Nat) (f:Bool) (x0 x1 x2:Int) (W:World) (hc:W.cell? ⟨b,off,none⟩ = some (.bool f)) (hf:W.frozen? ⟨b,off,none⟩ = false) :
  Calls Tryz.prog 71 #[.pointer (some ⟨b,off,none⟩),.agg #[J Jk x0,J Jk x1,J Jk x2]] W fun e W'=>∃ v g,e = .returned (J Jk v)/\Hid (Jbi f (Jak [x0,x1,x2]) v g)/\Hid (After ⟨b,off,none⟩ g W W'):=by
 have m1:b < W.heap.size:=World.block_lt_of_cell? _ _ hc
 have HC:Hid _:=hc
 have HF:Hid _:=hf
 clear hc hf
 go_enter Tryz.func71,Tryz.ntmps71
 go_wp2_with (fail)
 have N:=Jq8 b off f x0 x1 x2 (W.alloc (.cells #[J Jk x0,J Jk x1,J Jk x2] 27)) (by rw [World.cell?_alloc_past _ _ _ m1];exact HC.out) (by rw [((Jg _ _).frozen m1)];exact HF.out)
 simp only [World.size_alloc] at N
 refine N.mono ?_
 rintro e W1 ⟨v,g,rfl,S,A⟩
 have HA:Hid (After ⟨b,off,none⟩ g W W1):=(((Leaves.refl _ _).alloc _).same A.out).done A.out.cell A.out.frozen
 clear A N
 go_wp2_with (fail)
 go_ret
 exact ⟨v,g,rfl,S,HA⟩
end
section
open Go.RowKit Go.Shelf
def Pt.big (p:Pt) (n:Nat):Prop:=2 ^ n <= p.x.natAbs \/ 2 ^ n <= p.y.natAbs \/ 2 ^ n <= p.z.natAbs
end
section
open Go.RowKit Fx
namespace WM
theorem Jfc {a b c d:Int} (ha:-8589934592 <= a/\a <= 8589934592) (hb:-8589934592 <= b/\b <= 8589934592) (hc:-4294967296 <= c/\c <= 4294967296) (hd:-4294967296 <= d/\d <= 4294967296) :
  ∃ r:Int,dot [a,b] [c,d] = some r/\4294967296 * r <= a * c + b * d/\a * c + b * d < 4294967296 * r + 4294967296/\-17179869184 <= r/\r <= 17179869184:=by
 have k1:=mul_in ha hc
 have k2:=mul_in hb hd
 have hv:=Jc9 (a * c + b * d) 4294967296 (by omega)
 have e:Jaa [a,b] [c,d] / 4294967296 = (a * c + b * d) / 4294967296:=by simp only [Jaa,Int.add_zero]
 refine ⟨(a * c + b * d) / 4294967296,?_,by omega,by omega,by omega,by omega⟩
 have g1:[a,b].any great = false:=by simp [(not_great a).2 (by omega),(not_great b).2 (by omega)]
 have g2:[c,d].any great = false:=by simp [(not_great c).2 (by omega),(not_great d).2 (by omega)]
 have g3:great ((a * c + b * d) / 4294967296) = false:=(not_great _).2 (by omega)
 unfold dot
 rw [if_neg (by simp),if_neg (by simp),g1,g2,e]
 simp [Fx.told,g3]
theorem Jk0 {q:Int} (h:-4294967296 <= q/\q <= 4294967296):add q q = some (2 * q):=by
 unfold add
 rw [(not_great q).2 (by omega),show q + q = 2 * q by omega]
 simp [Fx.told,(not_great (2 * q)).2 (by omega)]
theorem sub0 {q:Int} (h:-4294967296 <= q/\q <= 4294967296):sub 0 q = some (-q):=by
 unfold sub
 rw [(not_great q).2 (by omega),show (0:Int) - q = -q by omega,(not_great 0).2 (by omega)]
 simp [Fx.told,(not_great (-q)).2 (by omega)]
theorem Jno {q:Int} (h:-17179869184 <= q/\q <= 17179869184):sub 4294967296 q = some (4294967296 - q):=by
 unfold sub
 rw [(not_great q).2 (by omega),(not_great 4294967296).2 (by omega)]
 simp [Fx.told,(not_great (4294967296 - q)).2 (by omega)]
def Jc1 (m R:Int):Prop:=(-4294967296 <= 4294967296 * m - R/\4294967296 * m - R <= 4294967296)/\(-36893488147419103232 <= R/\R <= 36893488147419103232)/\(-8589934592 <= m/\m <= 8589934592)
theorem Jbt {r P:Int} (l:4294967296 * r <= P) (u:P < 4294967296 * r + 4294967296) (hP:-18446744108069289992 <= P/\P <= 18446744108069289992):Jc1 r P:=by
 unfold Jc1
 omega
theorem Jd7 {r P:Int} (l:4294967296 * r <= P) (u:P < 4294967296 * r + 4294967296) (hP:0 <= P/\P <= 36893488216138579984):Jc1 (4294967296 - r) (18446744073709551616 - P):=by
 unfold Jc1
 omega
theorem Jjb {a b:Int}:-(a * a + b * b) <= 2 * (a * b)/\2 * (a * b) <= a * a + b * b:=by
 have h3:=Jz (a + b)
 have h4:=Jz (a - b)
 have e3:(a + b) * (a + b) = a * a + b * b + 2 * (a * b):=by grind
 have e4:(a - b) * (a - b) = a * a + b * b - 2 * (a * b):=by grind
 omega
theorem Jgf {a b c d M:Int} (h:a * a + b * b + (c * c + d * d) <= M):(-M <= 2 * (a * b) + 2 * (c * d)/\2 * (a * b) + 2 * (c * d) <= M)/\(-M <= 2 * (a * b) + 2 * (c * -d)/\2 * (a * b) + 2 * (c * -d) <= M):=by
 have h1:=Jjb (a:=a) (b:=b)
 have h2:=Jjb (a:=c) (b:=d)
 rw [Int.mul_neg]
 omega
theorem Jgq {a b c d M:Int} (h:a * a + b * b + (c * c + d * d) <= M):0 <= 2 * (a * a) + 2 * (b * b)/\2 * (a * a) + 2 * (b * b) <= 2 * M:=by
 have h1:=Jz a
 have h2:=Jz b
 have h3:=Jz c
 have h4:=Jz d
 omega
theorem neg_in {q:Int} (h:-4294967296 <= q/\q <= 4294967296):-4294967296 <= -q/\-q <= 4294967296:=by omega
theorem Jal {q:Int} (h:-4294967296 <= q/\q <= 4294967296):-8589934592 <= 2 * q/\2 * q <= 8589934592:=by omega
theorem rows_near {w x y z:Int} (hw:-4294967296 <= w/\w <= 4294967296) (hx:-4294967296 <= x/\x <= 4294967296) (hy:-4294967296 <= y/\y <= 4294967296) (hz:-4294967296 <= z/\z <= 4294967296)
  (h2:w * w + (x * x + (y * y + z * z)) - 18446744073709551616 <= 34359738376):J5 w x y z = false /\
  Jc1 (Jdd w x y z) (18446744073709551616 - (2 * (y * y) + 2 * (z * z)))/\Jc1 (Jdn w x y z) (2 * (x * y) + 2 * (w * -z))/\Jc1 (Jdg w x y z) (2 * (x * z) + 2 * (w * y)) /\
  Jc1 (Jdi w x y z) (2 * (x * y) + 2 * (w * z))/\Jc1 (Jde w x y z) (18446744073709551616 - (2 * (x * x) + 2 * (z * z)))/\Jc1 (Jdl w x y z) (2 * (y * z) + 2 * (w * -x)) /\
  Jc1 (Jdh w x y z) (2 * (x * z) + 2 * (w * -y))/\Jc1 (Jdj w x y z) (2 * (y * z) + 2 * (w * x))/\Jc1 (Jdk w x y z) (18446744073709551616 - (2 * (x * x) + 2 * (y * y))):=by
 have B0:=Jgq (a:=y) (b:=z) (c:=w) (d:=x) (M:=18446744108069289992) (by omega)
 have B1:=Jgf (a:=x) (b:=y) (c:=w) (d:=z) (M:=18446744108069289992) (by omega)
 have B2:=Jgf (a:=x) (b:=z) (c:=w) (d:=y) (M:=18446744108069289992) (by omega)
 have B4:=Jgq (a:=x) (b:=z) (c:=w) (d:=y) (M:=18446744108069289992) (by omega)
 have B5:=Jgf (a:=y) (b:=z) (c:=w) (d:=x) (M:=18446744108069289992) (by omega)
 have B8:=Jgq (a:=x) (b:=y) (c:=w) (d:=z) (M:=18446744108069289992) (by omega)
 obtain ⟨r0,d0,l0,u0,k0,j0⟩:=Jfc (Jal hy) (Jal hz) hy hz
 obtain ⟨r1,d1,l1,u1,k1,j1⟩:=Jfc (Jal hx) (Jal hw) hy (neg_in hz)
 obtain ⟨r2,d2,l2,u2,k2,j2⟩:=Jfc (Jal hx) (Jal hw) hz hy
 obtain ⟨r3,d3,l3,u3,k3,j3⟩:=Jfc (Jal hx) (Jal hw) hy hz
 obtain ⟨r4,d4,l4,u4,k4,j4⟩:=Jfc (Jal hx) (Jal hz) hx hz
 obtain ⟨r5,d5,l5,u5,k5,j5⟩:=Jfc (Jal hy) (Jal hw) hz (neg_in hx)
 obtain ⟨r6,d6,l6,u6,k6,j6⟩:=Jfc (Jal hx) (Jal hw) hz (neg_in hy)
 obtain ⟨r7,d7,l7,u7,k7,j7⟩:=Jfc (Jal hy) (Jal hw) hz hx
 obtain ⟨r8,d8,l8,u8,k8,j8⟩:=Jfc (Jal hx) (Jal hy) hx hy
 simp only [Int.mul_assoc] at l0 u0 l1 u1 l2 u2 l3 u3 l4 u4 l5 u5 l6 u6 l7 u7 l8 u8
 unfold J5 Jdd Jdn Jdg Jdi Jde Jdl Jdh Jdj Jdk
 simp only [Jk0 hw,Jk0 hx,Jk0 hy,Jk0 hz,sub0 hw,sub0 hx,sub0 hy,sub0 hz,Option.getD_some,Option.isNone_some,d0,d1,d2,d3,d4,d5,d6,d7,d8,Jno ⟨k0,j0⟩,Jno ⟨k4,j4⟩,Jno ⟨k8,j8⟩]
 exact ⟨by simp,Jd7 l0 u0 B0,Jbt l1 u1 B1.2,Jbt l2 u2 B2.1,Jbt l3 u3 B1.1,Jd7 l4 u4 B4,Jbt l5 u5 B5.2,Jbt l6 u6 B2.2,Jbt l7 u7 B5.1,Jd7 l8 u8 B8⟩
end WM
end
section
open Go.RowKit Fx
theorem Jrp (b off:Nat) (f:Bool) (x:V3) (W:World) (hc:W.cell? ⟨b,off,none⟩ = some (.bool f)) (hf:W.frozen? ⟨b,off,none⟩ = false) :
  Calls Tryz.prog 71 #[.pointer (some ⟨b,off,none⟩),x.val] W fun e W'=>e = .returned (J Jk (Jes x))/\Hid (After ⟨b,off,none⟩ (f || Jqi x) W W'):=by
 refine Calls.mono (Jsp b off f x.x x.y x.z W hc hf) ?_
 rintro e W' ⟨v0,g,rfl,SS,A⟩
 obtain ⟨rfl,rfl⟩:=SS.out
 exact ⟨rfl,A⟩
end
section
open Go.RowKit Go.Shelf Fx
theorem Jhw {P:Program} {fn:Func} {tmps:Array Value} {w:World} {v u:Value} (a c:Nat) (t s:TypeId) (hr:fn.results = #[.cell a t,.cell c s]) (p q:Addr) (ha:tmps[a]?.getD undef = .pointer (some p)) (hc:tmps[c]?.getD undef = .pointer (some q)) (h:(loadVar t p).run P w = .ok v w) (k:(loadVar s q).run P w = .ok u w):(results fn tmps).run P w = .ok (.tuple #[v,u]) w:=by
 unfold results
 rw [hr]
 simp [Sem.run_bind,ha,hc,asAddr,h,k]
end
section
open Go.RowKit Go.Shelf Fx
theorem Rs.set (r:Rs) (pv u:Value):(r.l pv).set 5 u = r.l u:=rfl
end
section
open Go.RowKit Go.Shelf Fx
theorem Jjr (gf:Nat) (caps:Array Value) (eg:∀ args w,(callFunc gf args).run Tryz.prog w = .ok (.enter gf args) w) (ob pb o:Nat) (D:V3->Bd) (R:List Value) (slow bad:V3->Bool) (f:Bool) (p:V3) (V:World)
  (hc:V.cell? ⟨ob,0,none⟩ = some (.bool f)) (hf:V.frozen? ⟨ob,0,none⟩ = false) (Cb:CW V pb ((D p).L R)) (nb:pb ≠ ob) (hR:Rest R) (ho:o + 2 < 31)
  (hD0:∀ q,((D q).L R)[o]? = some (J Jk q.x)) (hD1:∀ q,((D q).L R)[o + 1]? = some (J Jk q.y)) (hD2:∀ q,((D q).L R)[o + 2]? = some (J Jk q.z))
  (hDs:∀ q q',((((D q).L R).set o (J Jk q'.x)).set (o + 1) (J Jk q'.y)).set (o + 2) (J Jk q'.z) = (D q').L R)
  (hcl:∀ (q:V3) (g:Bool) (X:World),X.cell? ⟨ob,0,none⟩ = some (.bool g)->X.frozen? ⟨ob,0,none⟩ = false->CW X pb ((D q).L R)->Calls Tryz.prog gf caps X fun e X'=>e = .returned (.bool (slow q))/\Hid (After ⟨ob,0,none⟩ (g || bad q) X X'))
  (hs0:slow ⟨0,0,0⟩ = true) (hp:Sml 64 p) :
  Calls Tryz.prog 69 #[.pointer (some ⟨pb,o,none⟩),.func (.func gf) #[] caps] V fun e W'=>e = .returned (.bool (hvd slow bad 64 p).2.1)/\Hid (Clo ⟨ob,0,none⟩ (f || (hvd slow bad 64 p).2.2) pb ((D (hvd slow bad 64 p).1).L R) V W'):=by
 have HV:Hid _:=(⟨rfl,rfl,rfl,hp⟩:Hv slow bad (hvd slow bad 64 p) f 64 p false f)
 have HCL:Hid _:=hcl
 have HS:Hid (Clo _ _ _ _ _ _):=Clo.start hc hf Cb
 have HDS:Hid _:=hDs
 have HS0:Hid _:=hs0
 have HD0:Hid _:=hD0
 have HD1:Hid _:=hD1
 have HD2:Hid _:=hD2
 generalize hvd slow bad 64 p = R9 at *
 clear hcl hc hf Cb hDs hs0 hD0 hD1 hD2
 go_enter Tryz.func69,Tryz.ntmps69
 go_wp2_with (fail)
 go_loopg [5] 64 (fun gm s5 wr=>∃ (q:V3) (did g:Bool),s5 = .bool did/\gm <= 64/\Hid (Hv slow bad R9 f gm q did g)/\Hid (Clo ⟨ob,0,none⟩ g pb ((D q).L R) V wr))
 case atStart=>exact ⟨p,false,f,rfl,Nat.le_refl _,HV,HS⟩
 case round =>
  obtain ⟨q,did,g,rfl,hgm,HI,HK⟩:=hrel
  clear HV HS
  go_wp2_with (fail)
  refine Calls.mono (HCL.out q g wr HK.out.cell HK.out.frozen HK.out.cw) ?_
  rintro e X1 ⟨rfl,A⟩
  have HK:Hid (Clo _ _ _ _ _ _):=HK.out.same A.out nb
  clear A
  cases hsl:slow q with
  | true =>
   obtain ⟨e1,e2,e3⟩:=HI.out.stop hsl
   have HE:Hid _:=And.intro e1 (And.intro e2 e3)
   clear e1 e2 e3 hsl HI
   go_wp2_with (fail)
   go_ret
   refine ⟨by rw [HE.out.2.1];rfl,?_⟩
   rw [<- HE.out.2.2,<- HE.out.1]
   exact HK
  | false =>
   obtain ⟨m,rfl,HN⟩:=HI.out.next HS0.out hsl
   have hq:=HI.out.sml
   have HN:Hid (Hv _ _ _ _ _ _ _ _):=HN
   clear hsl HI
   obtain ⟨c0,f0⟩:=HK.out.cw o _ (HD0.out q)
   obtain ⟨c1,f1⟩:=HK.out.cw (o + 1) _ (HD1.out q)
   obtain ⟨c2,f2⟩:=HK.out.cw (o + 2) _ (HD2.out q)
   go_wp2_with (fail)
   go_region
   go_wp2_with (fail)
   go_roundg m
   case measure=>omega
   case rel =>
    have h9:=HK.out.set3 nb o (J Jk (hlf q).x) (J Jk (hlf q).y) (J Jk (hlf q).z) (Jfi hR ho)
    rw [HDS.out] at h9
    obtain ⟨w0,w1,w2⟩:=Jmr (Joe hq hgm)
    refine ⟨hlf q,true,g || bad q,rfl,by omega,HN,?_⟩
    rw [w0,w1,w2]
    exact h9.step (Below.refl _ _).drew
theorem Jq9 (ob pb:Nat) (b:Bd) (R:List Value) (hR:Rest R) (hk:b.k = 2) (q:V3) (g:Bool) (X:World) (hc:X.cell? ⟨ob,0,none⟩ = some (.bool g)) (hf:X.frozen? ⟨ob,0,none⟩ = false) (Cb:CW X pb ((b.wp q).L R)) :
  Calls Tryz.prog 70 #[.pointer (some ⟨ob,0,none⟩),.pointer (some ⟨pb,0,none⟩)] X fun e X'=>e = .returned (.bool (Jgg b q))/\Hid (After ⟨ob,0,none⟩ (g || Jef b q) X X'):=by
 have hz:Hid _:=Jp hR (b.wp q)
 have HRG:Hid (World.rangeAt X pb 0 _):=Cb.range
 have HC:Hid _:=Jl2 ob 0 g (b.wp q) R hR hk X hc hf
 have HN:Hid _:=fun w=>Jrp ob 0 (g || Jdy (b.wp q)) (Jbj (b.wp q)) w
 clear Cb hc hf
 unfold Jgg Jef
 go_enter Tryz.func70,Tryz.ntmps70
 go_wp2_with (refine wpList_load_mid rfl 39 _ rfl pb 0 rfl _ _ HRG.out Tryz.underlying39 rfl hz.out ?_)
 refine Calls.mono HC.out ?_
 rintro e X1 ⟨rfl,A⟩
 have HA:Hid (After _ _ _ _):=A.out
 clear A HC HRG
 go_wp2_with (fail)
 refine Calls.mono (HN.out X1 HA.out.cell HA.out.frozen) ?_
 rintro e X2 ⟨rfl,A⟩
 have HA:Hid (After _ _ _ _):=HA.out.trans A.out
 rw [Bool.or_assoc] at HA
 clear A HN
 go_wp2_with (fail)
 go_ret
 exact ⟨rfl,HA⟩
theorem Jq0 (ob pb:Nat) (b:Bd) (R:List Value) (hR:Rest R) (hk:b.k = 2) (q:V3) (g:Bool) (X:World) (hc:X.cell? ⟨ob,0,none⟩ = some (.bool g)) (hf:X.frozen? ⟨ob,0,none⟩ = false) (Cb:CW X pb ((b.wl q).L R)) :
  Calls Tryz.prog 72 #[.pointer (some ⟨ob,0,none⟩),.pointer (some ⟨pb,0,none⟩)] X fun e X'=>e = .returned (.bool (Jgl b q))/\Hid (After ⟨ob,0,none⟩ (g || Jhe b q) X X'):=by
 have hz:Hid _:=Jp hR (b.wl q)
 have HRG:Hid (World.rangeAt X pb 0 _):=Cb.range
 have HC:Hid _:=Jpq ob 0 g (b.wl q) R hR hk X hc hf
 have HN:Hid _:=fun w=>Jrp ob 0 (g || Jd4 (b.wl q) q) (Jau (b.wl q) q) w
 clear Cb hc hf
 unfold Jgl Jhe
 go_enter Tryz.func72,Tryz.ntmps72
 go_wp2_with (refine wpList_load_mid rfl 39 _ rfl pb 0 rfl _ _ HRG.out Tryz.underlying39 rfl hz.out ?_)
 refine Calls.mono HC.out ?_
 rintro e X1 ⟨rfl,A⟩
 have HA:Hid (After _ _ _ _):=A.out
 clear A HC HRG
 go_wp2_with (fail)
 refine Calls.mono (HN.out X1 HA.out.cell HA.out.frozen) ?_
 rintro e X2 ⟨rfl,A⟩
 have HA:Hid (After _ _ _ _):=HA.out.trans A.out
 rw [Bool.or_assoc] at HA
 clear A HN
 go_wp2_with (fail)
 go_ret
 exact ⟨rfl,HA⟩
end
section
open Go.RowKit Go.Shelf Fx
structure CapE (p:Addr) (g:Bool) (pc pk:Nat) (cs:List Value) (ct:Bool) (W V X:World):Prop where
 leaves:Leaves p W X
 cell:X.cell? p = some (.bool g)
 frozen:X.frozen? p = false
 cw:CW X pc cs
 ck:CW X pk [.bool ct]
 heap:∀ j,j < V.heap.size->j ≠ p.block->j ≠ pc->j ≠ pk->X.heap[j]? = V.heap[j]?
theorem CapE.flag {fb fo pc pk:Nat} {g ct:Bool} {cs:List Value} {W V X:World} (h:CapE ⟨fb,fo,none⟩ g pc pk cs ct W V X) (nc:pc ≠ fb) (nk:pk ≠ fb):CapE ⟨fb,fo,none⟩ true pc pk cs ct W V (X.setCell ⟨fb,fo,none⟩ (.bool true)):=
 ⟨h.leaves.own _,by simp [go_sem,h.cell],by simp [go_sem,h.frozen],h.cw.other (a:=⟨fb,fo,none⟩) (Ne.symm nc) _,h.ck.other (a:=⟨fb,fo,none⟩) (Ne.symm nk) _,fun j h1 h2 h3 h4=>(Below.heap_setCell _ _ _ _ h2).trans (h.heap j h1 h2 h3 h4)⟩
theorem CapE.put {fb fo pc pk:Nat} {g ct:Bool} {cs:List Value} {W V X:World} (h:CapE ⟨fb,fo,none⟩ g pc pk cs ct W V X) (hW:W.heap.size <= pc) (nc:pc ≠ fb) (ck:pk ≠ pc) (o:Nat) (v:Value) (ho:o < cs.length):CapE ⟨fb,fo,none⟩ g pc pk (cs.set o v) ct W V (X.setCell ⟨pc,o,none⟩ v):=
 ⟨h.leaves.set (a:=⟨pc,o,none⟩) hW _,(World.cell?_setCell_other _ _ _ _ (fun e=>nc (Addr.mk.inj e).1)).trans h.cell,by simp [go_sem,h.frozen],h.cw.set o v ho,h.ck.other (a:=⟨pc,o,none⟩) (Ne.symm ck) _,fun j h1 h2 h3 h4=>(Below.heap_setCell _ _ _ _ h3).trans (h.heap j h1 h2 h3 h4)⟩
theorem CapE.drew {p:Addr} {pc pk:Nat} {g ct:Bool} {cs:List Value} {W V X:World} (h:CapE p g pc pk cs ct W V X):CapE p g pc pk cs ct W V X.drew:=⟨h.leaves.drew,h.cell,h.frozen,h.cw,h.ck,h.heap⟩
structure CapG (W:World) (p:Addr) (g:Bool) (pr pk:Nat) (cs:List Value) (ct:Bool) (u:Value) (Ls:List Pt) (w:World):Prop where
 leaves:Leaves p W w
 cell:w.cell? p = some (.bool g)
 frozen:w.frozen? p = false
 cw:CW w pr cs
 ck:CW w pk [.bool ct]
 row:w.ownsRow W.heap.size 23 3 u Ls.length (fl3 Ls)
theorem CapG.sets {W:World} {fb fo:Nat} {g:Bool} {pr pk:Nat} {cs:List Value} {ct:Bool} {u:Value} {Ls:List Pt} {w:World} (h:CapG W ⟨fb,fo,none⟩ g pr pk cs ct u Ls w) (hW:W.heap.size <= pr) (nr:fb ≠ pr) (rk:pk ≠ pr) (nu:u.ownBlock ≠ some pr):CapG W ⟨fb,fo,none⟩ g pr pk cs ct u Ls (w.setCells pr 0 cs):=
 ⟨h.leaves.sets hW _,(Ja3 nr).trans h.cell,(World.frozen?_setCells _ _ _ _ _).trans h.frozen,h.cw.sets rfl,h.ck.apart rk,Jat h.row nu _ _⟩
theorem CapG.put {W:World} {fb fo:Nat} {g:Bool} {pr pk:Nat} {cs:List Value} {ct:Bool} {u:Value} {Ls:List Pt} {w:World} (h:CapG W ⟨fb,fo,none⟩ g pr pk cs ct u Ls w) (hW:W.heap.size <= pk) (nk:fb ≠ pk) (rk:pk ≠ pr) (nu:u.ownBlock ≠ some pk):CapG W ⟨fb,fo,none⟩ g pr pk cs ct u Ls (w.setCell ⟨pk,0,none⟩ (.bool ct)):=
 ⟨h.leaves.set (a:=⟨pk,0,none⟩) hW _,(World.cell?_setCell_other _ _ _ _ (fun e=>nk (Addr.mk.inj e).1.symm)).trans h.cell,by simp [go_sem,h.frozen],h.cw.other (a:=⟨pk,0,none⟩) rk _,h.ck.set 0 _ (by simp),ownsRow_setCell_other (a:=⟨pk,0,none⟩) h.row nu _⟩
theorem CapG.drew {W:World} {p:Addr} {g:Bool} {pr pk:Nat} {cs:List Value} {ct:Bool} {u:Value} {Ls:List Pt} {w:World} (h:CapG W p g pr pk cs ct u Ls w):CapG W p g pr pk cs ct u Ls w.drew:=⟨h.leaves.drew,h.cell,h.frozen,h.cw,h.ck,h.row⟩
theorem Jrl (fb fo pc pw pb pk:Nat) (f:Bool) (b:Bd) (R R1:List Value) (W:World) (hR:Rest R) (hk:b.k = 2) (hp:Sml 64 b.p) (hl:Sml 64 b.l) (V:World) (hbW:fb < W.heap.size) (hWc:W.heap.size <= pc) (hWk:W.heap.size <= pk) (hWV:Leaves ⟨fb,fo,none⟩ W V)
  (hc:V.cell? ⟨fb,fo,none⟩ = some (.bool f)) (hf:V.frozen? ⟨fb,fo,none⟩ = false) (Cc:CW V pc (b.L R)) (Cw:CW V pw [.pointer (some ⟨fb,fo,none⟩)]) (Cb:CW V pb (b.L R1)) (Ck:CW V pk [.bool false]) (nc:pc ≠ fb) (nw:pw ≠ fb) (nb:pb ≠ fb) (nk:pk ≠ fb) (cw:pw ≠ pc) (cb:pb ≠ pc) (ck:pk ≠ pc) :
  Calls Tryz.prog 68 #[.pointer (some ⟨pc,0,none⟩),.pointer (some ⟨pw,0,none⟩),.pointer (some ⟨pb,0,none⟩),.pointer (some ⟨pk,0,none⟩)] V fun e W'=>e = .returned (.tuple #[])/\Hid (CapE ⟨fb,fo,none⟩ (f || Jct b) pc pk ((Ja1 b).L R) (Jej b) W V W'):=by
 have hfV:fb < V.heap.size:=World.block_lt_of_cell? _ _ hc
 have hcV:pc < V.heap.size:=Cc.lt
 have hkV:pk < V.heap.size:=Ck.lt
 have hwV:pw < V.heap.size:=Cw.lt
 have hbV:pb < V.heap.size:=Cb.lt
 have hWs:W.heap.size <= V.heap.size:=hWV.size
 obtain ⟨X0,hX0⟩:∃ X,X = V.alloc (.cells #[.bool false] 47):=⟨_,rfl⟩
 have hb0:Below V.heap.size V X0:=by rw [hX0];exact Jb _ _
 have Co:CW X0 V.heap.size [.bool false]:=by rw [hX0];exact CW.new V [.bool false] 47
 obtain ⟨ob,hob⟩:∃ o,o = V.heap.size:=⟨_,rfl⟩
 rw [<- hob] at Co
 have Cc:=Cc.step hb0
 have Cw:=Cw.step hb0
 have Cb:=Cb.step hb0
 have Ck:=Ck.step hb0
 have hf:=Jq hb0 hc hf
 have hc:=Ja hb0 hc
 have no:pc ≠ ob:=by omega
 have e1:b.wp b.p = b:=rfl
 have H1:Hid _:=Jjr 70 #[.pointer (some ⟨ob,0,none⟩),.pointer (some ⟨pc,0,none⟩)] (enters_of Tryz.func70 (by kernel_rfl) rfl) ob pc 8 b.wp R (Jgg b) (Jef b) false b.p X0 (Co 0 _ rfl).1 (Co 0 _ rfl).2 Cc no hR (by decide) (fun _=>rfl) (fun _=>rfl) (fun _=>rfl) (fun _ _=>rfl)
  (fun q g X h1 h2 h3=>Jq9 ob pc b R hR hk q g X h1 h2 h3) (Jd5 b) hp
 obtain ⟨x9,hx9⟩:∃ x,x = Jct b:=⟨_,rfl⟩
 obtain ⟨d9,hd9⟩:∃ x,x = Ja1 b:=⟨_,rfl⟩
 obtain ⟨t9,ht9⟩:∃ x,x = Jej b:=⟨_,rfl⟩
 rw [<- hx9,<- hd9,<- ht9]
 have HE:Hid (Jce b = hvd (Jgl (b.wp (Jb8 b).1)) (Jhe (b.wp (Jb8 b).1)) 64 b.l/\x9 = ((Jb8 b).2.2 || (Jce b).2.2)/\(d9 = if b.k = 2/\x9 = false then (b.wp (Jb8 b).1).wl (Jce b).1 else b)/\(t9 = if b.k = 2/\x9 = false then (Jb8 b).2.1 || (Jce b).2.1 else false)):=⟨rfl,hx9,by rw [hd9,hx9];rfl,by rw [ht9,hx9];rfl⟩
 clear hx9 hd9 ht9
 have H1:Hid (Calls Tryz.prog 69 #[.pointer (some ⟨pc,8,none⟩),.func (.func 70) #[] #[.pointer (some ⟨ob,0,none⟩),.pointer (some ⟨pc,0,none⟩)]] X0 fun e W'=>e = .returned (.bool (Jb8 b).2.1)/\Hid (Clo ⟨ob,0,none⟩ (Jb8 b).2.2 pc ((b.wp (Jb8 b).1).L R) X0 W')):=by
  have h9:=H1.out
  have e9:hvd (Jgg b) (Jef b) 64 b.p = Jb8 b:=rfl
  rw [e9] at h9
  rw [Bool.false_or] at h9
  exact h9
 generalize Jb8 b = rp at *
 have hWV:Hid (Leaves _ _ _):=hWV.step (hb0.mono hWs)
 have h0V:Hid (∀ j,j < V.heap.size->X0.heap[j]? = V.heap[j]?):=fun j h=>hb0.block j h
 have hs0:=hb0.size
 clear Co hb0 e1
 go_enter Tryz.func68,Tryz.ntmps68
 go_upto_region 1 with fail
 rw [<- hX0,<- hob]
 have ho1:ob <= V.heap.size:=by omega
 have ho2:V.heap.size <= ob:=by omega
 clear hX0 hob
 go_wp2_with (fail)
 refine Calls.mono H1.out ?_
 rintro e X1 ⟨rfl,K1⟩
 have K1:Hid (Clo _ _ _ _ _ _):=K1.out
 clear H1
 have H2:Hid _:=Jjr 72 #[.pointer (some ⟨ob,0,none⟩),.pointer (some ⟨pc,0,none⟩)] (enters_of Tryz.func72 (by kernel_rfl) rfl) ob pc 11 (b.wp rp.1).wl R (Jgl (b.wp rp.1)) (Jhe (b.wp rp.1)) rp.2.2 b.l X1 K1.out.cell K1.out.frozen K1.out.cw no hR (by decide) (fun _=>rfl) (fun _=>rfl) (fun _=>rfl) (fun _ _=>rfl)
  (fun q g X h1 h2 h3=>Jq0 ob pc (b.wp rp.1) R hR hk q g X h1 h2 h3) (Jdz (b.wp rp.1)) hl
 have H2:Hid (Calls Tryz.prog 69 #[.pointer (some ⟨pc,11,none⟩),.func (.func 72) #[] #[.pointer (some ⟨ob,0,none⟩),.pointer (some ⟨pc,0,none⟩)]] X1 fun e W'=>e = .returned (.bool (Jce b).2.1)/\Hid (Clo ⟨ob,0,none⟩ (rp.2.2 || (Jce b).2.2) pc (((b.wp rp.1).wl (Jce b).1).L R) X1 W')):=by
  have h9:=H2.out
  rw [<- HE.out.1] at h9
  exact h9
 generalize Jce b = rl at *
 go_wp2_with (fail)
 refine Calls.mono H2.out ?_
 rintro e X2 ⟨rfl,K2⟩
 have T2:=K1.out.two.trans K2.out.two
 have K2:Hid (Clo _ _ _ _ _ _):=K2.out
 have hL2:Hid (Leaves ⟨fb,fo,none⟩ W X2):=hWV.out.step (T2.keep (B:=W.heap.size) (by show _ <= ob;omega) hWc (by omega))
 have h2V:Hid (∀ j,j < V.heap.size->j ≠ pc->X2.heap[j]? = V.heap[j]?):=fun j h1 h2=>(T2.kept.2.2.2 j (by omega) (by show j ≠ ob;omega) h2).trans (h0V.out j h1)
 have Cw:=Cw.two T2 (by show pw ≠ ob;omega) cw
 have Cb:=Cb.two T2 (by show pb ≠ ob;omega) cb
 have Ck:=Ck.two T2 (by show pk ≠ ob;omega) ck
 have hfl:=T2.other ⟨fb,fo,none⟩ (by show fb < _;omega) (by show fb ≠ ob;omega) (fun e=>nc e.symm)
 have hc2:=hfl.1.trans hc
 have hf2:=hfl.2.trans hf
 have ho:=K2.out.cell
 have Cc:=K2.out.cw
 have nc':fb ≠ pc:=fun e=>nc e.symm
 have nk':fb ≠ pk:=fun e=>nk e.symm
 have kw:=(Cw 0 _ rfl).1
 clear H2 K1 T2 hfl hc hf hWV h0V K2
 have HX:Hid (x9 = (rp.2.2 || rl.2.2)):=HE.out.2.1
 have HD:Hid (d9 = if b.k = 2/\x9 = false then (b.wp rp.1).wl rl.1 else b):=HE.out.2.2.1
 have HT:Hid (t9 = if b.k = 2/\x9 = false then rp.2.1 || rl.2.1 else false):=HE.out.2.2.2
 clear HE
 rw [<- HX.out] at ho
 cases x9 with
 | true =>
  obtain ⟨p0,g0⟩:=Cc 8 _ rfl
  obtain ⟨p1,g1⟩:=Cc 9 _ rfl
  obtain ⟨p2,g2⟩:=Cc 10 _ rfl
  obtain ⟨p3,g3⟩:=Cc 11 _ rfl
  obtain ⟨p4,g4⟩:=Cc 12 _ rfl
  obtain ⟨p5,g5⟩:=Cc 13 _ rfl
  have b0:=(Cb 8 _ rfl).1
  have b1:=(Cb 9 _ rfl).1
  have b2:=(Cb 10 _ rfl).1
  have b3:=(Cb 11 _ rfl).1
  have b4:=(Cb 12 _ rfl).1
  have b5:=(Cb 13 _ rfl).1
  have HCC:Hid (CW _ _ _):=Cc
  have HCK:Hid (CW _ _ _):=Ck
  clear Cb Cw Ck Cc
  have hz9:Hid (d9 = b):=by show _ = _;rw [HD.out,if_neg (fun h=>by cases h.2)]
  have ht9:Hid (t9 = false):=by show _ = _;rw [HT.out,if_neg (fun h=>by cases h.2)]
  clear HD HT HX
  go_upto_region 5 with fail
  go_region
  go_wp2_with (fail)
  refine bodyPost_ret (results_none Tryz.results68 _ _ _) rfl ?_
  refine ⟨rfl,?_⟩
  rw [hz9.out,ht9.out,Bool.or_true]
  have h31:=hR.all ((b.wp rp.1).wl rl.1)
  have h9:CapE ⟨fb,fo,none⟩ f pc pk (((b.wp rp.1).wl rl.1).L R) false W V X2:=⟨hL2.out,hc2,hf2,HCC.out,HCK.out,fun j h1 _ h3 _=>h2V.out j h1 h3⟩
  have h9:=(((h9.flag nc nk).put hWc nc ck 8 (J Jk b.p.x) (by omega)).put hWc nc ck 9 (J Jk b.p.y) (by simp;omega)).put hWc nc ck 10 (J Jk b.p.z) (by simp;omega)
  have h9:=((h9.put hWc nc ck 11 (J Jk b.l.x) (by simp;omega)).put hWc nc ck 12 (J Jk b.l.y) (by simp;omega)).put hWc nc ck 13 (J Jk b.l.z) (by simp;omega)
  exact h9.drew
 | false =>
  obtain ⟨r0,q0⟩:=Ck 0 _ rfl
  have HCC:Hid (CW _ _ _):=Cc
  have HCK:Hid (CW _ _ _):=Ck
  clear Cb Cw Ck Cc
  have hz9:Hid (d9 = (b.wp rp.1).wl rl.1):=by show _ = _;rw [HD.out,if_pos ⟨hk,rfl⟩]
  have ht9:Hid (t9 = (rp.2.1 || rl.2.1)):=by show _ = _;rw [HT.out,if_pos ⟨hk,rfl⟩]
  clear HD HT HX
  generalize rp.2.1 = s1 at *
  generalize rl.2.1 = s2 at *
  cases s1 with
  | true =>
   go_wp2_with (fail)
   go_end0
   refine ⟨rfl,?_⟩
   rw [hz9.out,ht9.out,Bool.or_false,Bool.true_or]
   exact ⟨hL2.out.set hWk _,(World.cell?_setCell_other _ _ _ _ (fun e=>nk (Addr.mk.inj e).1)).trans hc2,by simp [go_sem,hf2],HCC.out.other (a:=⟨pk,0,none⟩) ck _,HCK.out.set 0 (.bool true) (by simp),fun j h1 h2 h3 h4=>(Below.heap_setCell _ _ _ _ h4).trans (h2V.out j h1 h3)⟩
  | false =>
   go_wp2_with (fail)
   go_end0
   refine ⟨rfl,?_⟩
   rw [hz9.out,ht9.out,Bool.or_false,Bool.false_or]
   exact ⟨hL2.out.set hWk _,(World.cell?_setCell_other _ _ _ _ (fun e=>nk (Addr.mk.inj e).1)).trans hc2,by simp [go_sem,hf2],HCC.out.other (a:=⟨pk,0,none⟩) ck _,HCK.out.set 0 (.bool s2) (by simp),fun j h1 h2 h3 h4=>(Below.heap_setCell _ _ _ _ h4).trans (h2V.out j h1 h3)⟩
theorem Jpc (fb fo:Nat) (f:Bool) (b:Bd) (R:List Value) (pv:Value) (Ls:List Pt) (hR:RestP R pv) (hp:Sml 64 b.p) (hl9:Sml 64 b.l) (W:World) (hc:W.cell? ⟨fb,fo,none⟩ = some (.bool f)) (hf:W.frozen? ⟨fb,fo,none⟩ = false) (hv:Lies W pv Ls) (hl:Ls.length <= 100000) :
  Calls Tryz.prog 26 #[.pointer (some ⟨fb,fo,none⟩),.agg (b.L R).toArray] W fun e W'=>∃ u,e = .returned (.tuple #[.agg ((Ja1 b).L (R.set 5 u)).toArray,.bool (Jej b)])/\Hid (After ⟨fb,fo,none⟩ (f || Jan b.k (Jct b)) W W')/\Hid (W'.ownsRow W.heap.size 23 3 u Ls.length (fl3 Ls)):=by
 have hbW:fb < W.heap.size:=World.block_lt_of_cell? _ _ hc
 have hz:Hid _:=Jp hR.rest b
 obtain ⟨V,hV⟩:∃ V,V = ((((W.alloc (.cells #[.pointer (some ⟨fb,fo,none⟩)] 45)).alloc (.cells (b.L R).toArray 39)).alloc (.cells #[J Jk 0,J Jk 0,J Jk 0,J Jk 0,J Jk 0,J Jk 0,J Jk 0,J Jk 0,J Jk 0,J Jk 0,J Jk 0,J Jk 0,J Jk 0,J Jk 0,J Jk 0,J Jk 0,J Jk 0,J Jk 0,J Jk 0,J Jk 0,J Jk 0,J Jk 0,J Jk 0,.slice none 0 0,J Jk 0,J Jk 0,J Jk 0,.bool false,J Jk 0,.bool false,.bool false] 39)).alloc (.cells #[.bool false] 4)):=⟨_,rfl⟩
 have hb0:=Jb W (.cells #[.pointer (some ⟨fb,fo,none⟩)] 45)
 have hb1:=Jb (W.alloc (.cells #[.pointer (some ⟨fb,fo,none⟩)] 45)) (.cells (b.L R).toArray 39)
 have hb2:=Jb ((W.alloc (.cells #[.pointer (some ⟨fb,fo,none⟩)] 45)).alloc (.cells (b.L R).toArray 39)) (.cells #[J Jk 0,J Jk 0,J Jk 0,J Jk 0,J Jk 0,J Jk 0,J Jk 0,J Jk 0,J Jk 0,J Jk 0,J Jk 0,J Jk 0,J Jk 0,J Jk 0,J Jk 0,J Jk 0,J Jk 0,J Jk 0,J Jk 0,J Jk 0,J Jk 0,J Jk 0,J Jk 0,.slice none 0 0,J Jk 0,J Jk 0,J Jk 0,.bool false,J Jk 0,.bool false,.bool false] 39)
 have hb3:=Jb (((W.alloc (.cells #[.pointer (some ⟨fb,fo,none⟩)] 45)).alloc (.cells (b.L R).toArray 39)).alloc (.cells #[J Jk 0,J Jk 0,J Jk 0,J Jk 0,J Jk 0,J Jk 0,J Jk 0,J Jk 0,J Jk 0,J Jk 0,J Jk 0,J Jk 0,J Jk 0,J Jk 0,J Jk 0,J Jk 0,J Jk 0,J Jk 0,J Jk 0,J Jk 0,J Jk 0,J Jk 0,J Jk 0,.slice none 0 0,J Jk 0,J Jk 0,J Jk 0,.bool false,J Jk 0,.bool false,.bool false] 39)) (.cells #[.bool false] 4)
 have Cw:CW V (W.heap.size) [.pointer (some ⟨fb,fo,none⟩)]:=by
  have h9:=(((CW.new W [.pointer (some ⟨fb,fo,none⟩)] 45).step hb1).step hb2).step hb3
  rw [hV];exact h9
 have Cb:CW V (W.heap.size + 1) (b.L R):=by
  have h9:=((CW.new (W.alloc (.cells #[.pointer (some ⟨fb,fo,none⟩)] 45)) (b.L R) 39).step hb2).step hb3
  simp only [World.size_alloc] at h9
  rw [hV];exact h9
 have Cr:CW V (W.heap.size + 1 + 1) [J Jk 0,J Jk 0,J Jk 0,J Jk 0,J Jk 0,J Jk 0,J Jk 0,J Jk 0,J Jk 0,J Jk 0,J Jk 0,J Jk 0,J Jk 0,J Jk 0,J Jk 0,J Jk 0,J Jk 0,J Jk 0,J Jk 0,J Jk 0,J Jk 0,J Jk 0,J Jk 0,.slice none 0 0,J Jk 0,J Jk 0,J Jk 0,.bool false,J Jk 0,.bool false,.bool false]:=by
  have h9:=(CW.new ((W.alloc (.cells #[.pointer (some ⟨fb,fo,none⟩)] 45)).alloc (.cells (b.L R).toArray 39)) [J Jk 0,J Jk 0,J Jk 0,J Jk 0,J Jk 0,J Jk 0,J Jk 0,J Jk 0,J Jk 0,J Jk 0,J Jk 0,J Jk 0,J Jk 0,J Jk 0,J Jk 0,J Jk 0,J Jk 0,J Jk 0,J Jk 0,J Jk 0,J Jk 0,J Jk 0,J Jk 0,.slice none 0 0,J Jk 0,J Jk 0,J Jk 0,.bool false,J Jk 0,.bool false,.bool false] 39).step hb3
  simp only [World.size_alloc] at h9
  rw [hV];exact h9
 have Ck:CW V (W.heap.size + 1 + 1 + 1) [.bool false]:=by
  have h9:=CW.new (((W.alloc (.cells #[.pointer (some ⟨fb,fo,none⟩)] 45)).alloc (.cells (b.L R).toArray 39)).alloc (.cells #[J Jk 0,J Jk 0,J Jk 0,J Jk 0,J Jk 0,J Jk 0,J Jk 0,J Jk 0,J Jk 0,J Jk 0,J Jk 0,J Jk 0,J Jk 0,J Jk 0,J Jk 0,J Jk 0,J Jk 0,J Jk 0,J Jk 0,J Jk 0,J Jk 0,J Jk 0,J Jk 0,.slice none 0 0,J Jk 0,J Jk 0,J Jk 0,.bool false,J Jk 0,.bool false,.bool false] 39)) [.bool false] 4
  simp only [World.size_alloc] at h9
  rw [hV];exact h9
 have hB:Below W.heap.size W V:=by rw [hV];exact (Jd (Jd (Jd hb0 hb1) hb2) hb3)
 have hcV:=Ja hB hc
 have hfV:=Jq hB hc hf
 have HLV:Hid (Leaves ⟨fb,fo,none⟩ W V):=(Leaves.refl _ _).step hB
 clear hb0 hb1 hb2 hb3
 have hWV:W.heap.size <= V.heap.size:=hB.size
 have HCP:Hid _:=Jdu b R pv Ls hR V (hv.below hB) hl
 clear hc hf hv hB
 go_enter Tryz.func26,Tryz.ntmps26
 go_upto_region 1 with fail
 rw [<- hV]
 clear hV
 obtain ⟨pk,hpk⟩:∃ p,p = W.heap.size + 1 + 1 + 1:=⟨_,rfl⟩
 obtain ⟨pr,hpr⟩:∃ p,p = W.heap.size + 1 + 1:=⟨_,rfl⟩
 obtain ⟨pb,hpb⟩:∃ p,p = W.heap.size + 1:=⟨_,rfl⟩
 obtain ⟨pw,hpw⟩:∃ p,p = W.heap.size:=⟨_,rfl⟩
 rw [<- hpk] at Ck
 rw [<- hpr] at Cr
 rw [<- hpb] at Cb
 rw [<- hpw] at Cw
 rw [<- hpk,<- hpr,<- hpb,<- hpw]
 have nw:pw ≠ fb:=by omega
 have nb:pb ≠ fb:=by omega
 have nr:pr ≠ fb:=by omega
 have nk:pk ≠ fb:=by omega
 have rw:pw ≠ pr:=by omega
 have rb:pb ≠ pr:=by omega
 have rk:pk ≠ pr:=by omega
 have nr':fb ≠ pr:=by omega
 have nk':fb ≠ pk:=by omega
 have hWr:W.heap.size <= pr:=by omega
 have hWk:W.heap.size <= pk:=by omega
 have hrV:pr < V.heap.size:=Cr.lt
 have hkV:pk < V.heap.size:=Ck.lt
 have hZl:([J Jk 0,J Jk 0,J Jk 0,J Jk 0,J Jk 0,J Jk 0,J Jk 0,J Jk 0,J Jk 0,J Jk 0,J Jk 0,J Jk 0,J Jk 0,J Jk 0,J Jk 0,J Jk 0,J Jk 0,J Jk 0,J Jk 0,J Jk 0,J Jk 0,J Jk 0,J Jk 0,.slice none 0 0,J Jk 0,J Jk 0,J Jk 0,.bool false,J Jk 0,.bool false,.bool false]:List Value).length = 31:=rfl
 generalize ([J Jk 0,J Jk 0,J Jk 0,J Jk 0,J Jk 0,J Jk 0,J Jk 0,J Jk 0,J Jk 0,J Jk 0,J Jk 0,J Jk 0,J Jk 0,J Jk 0,J Jk 0,J Jk 0,J Jk 0,J Jk 0,J Jk 0,J Jk 0,J Jk 0,J Jk 0,J Jk 0,.slice none 0 0,J Jk 0,J Jk 0,J Jk 0,.bool false,J Jk 0,.bool false,.bool false]:List Value) = zl at *
 have HRG:Hid (World.rangeAt V pb 0 (b.L R)):=Cb.range
 clear hpw hpb hpr hpk
 go_wp2_with (refine wpList_load_mid rfl 39 _ rfl pb 0 rfl _ _ HRG.out Tryz.underlying39 rfl hz.out ?_)
 refine Calls.mono HCP.out ?_
 rintro e W1 ⟨u,rfl,HR⟩
 have hR2:=hR.set (Jam HR.out.row)
 have hb1:=HR.out.below
 have hs1:=hb1.size
 have Cw:=Cw.step hb1
 have Cb:=Cb.step hb1
 have Cr:=Cr.step hb1
 have Ck:=Ck.step hb1
 have HL1:=HLV.out.step (hb1.mono HLV.out.size)
 have hc1:=Ja hb1 hcV
 have hf1:=Jq hb1 hcV hfV
 have nuk:u.ownBlock ≠ some pk:=fun e=>by have:=(HR.out.row.lt _ e).1;omega
 have nuf:u.ownBlock ≠ some fb:=fun e=>by have:=(HR.out.row.lt _ e).1;omega
 have nur:u.ownBlock ≠ some pr:=fun e=>by have:=(HR.out.row.lt _ e).1;omega
 have HO2:Hid _:=Jat (Go.Joins.ownsRow_le HR.out.row hWV) nur (b.L (R.set 5 u)) 0
 have HTH:Hid (World.there W1 pr 0 (b.L (R.set 5 u)).toArray.size):=Cr.there31 hZl hR2.rest
 have hy2:Hid _:=J1 hR2.rest b
 have h12:Hid _:=hR2.rest.each b
 have Cr:=Cr.sets (us:=b.L (R.set 5 u)) (by rw [hR2.rest.all,hZl])
 have Cw:=Cw.apart (us:=b.L (R.set 5 u)) rw
 have Cb:=Cb.apart (us:=b.L (R.set 5 u)) rb
 have Ck:=Ck.apart (us:=b.L (R.set 5 u)) rk
 have HL2:Hid (Leaves ⟨fb,fo,none⟩ W (W1.setCells pr 0 (b.L (R.set 5 u)))):=HL1.sets hWr _
 have hc2:=(Ja3 (w:=W1) (vs:=b.L (R.set 5 u)) (o:=fo) nr').trans hc1
 have hf2:=(World.frozen?_setCells pr (b.L (R.set 5 u)) 0 W1 ⟨fb,fo,none⟩).trans hf1
 have HRG2:Hid (World.rangeAt (W1.setCells pr 0 (b.L (R.set 5 u))) pb 0 (b.L R)):=Cb.range
 clear HCP HRG hcV hfV HLV HL1 hc1 hf1 hb1 HR
 by_cases hk:b.k = 2
 ·have HC:Hid _:=Je4 b R hk 68 #[.pointer (some ⟨pr,0,none⟩),.pointer (some ⟨pw,0,none⟩),.pointer (some ⟨pb,0,none⟩),.pointer (some ⟨pk,0,none⟩)] (enters_of Tryz.func68 (by kernel_rfl) rfl) (fun X=>Hid (CapE ⟨fb,fo,none⟩ (f || Jct b) pr pk ((Ja1 b).L (R.set 5 u)) (Jej b) W ((W1.setCells pr 0 (b.L (R.set 5 u))).alloc (.cells (b.L R).toArray 39)) X)) (W1.setCells pr 0 (b.L (R.set 5 u)))
   (Jrl fb fo pr pw pb pk f b (R.set 5 u) R W hR2.rest hk hp hl9 ((W1.setCells pr 0 (b.L (R.set 5 u))).alloc (.cells (b.L R).toArray 39)) hbW hWr hWk (HL2.out.step ((Jb (W1.setCells pr 0 (b.L (R.set 5 u))) _).mono HL2.out.size)) (Ja (Jb _ _) hc2) (Jq (Jb _ _) hc2 hf2) (Cr.step (Jb _ _)) (Cw.step (Jb _ _)) (Cb.step (Jb _ _)) (Ck.step (Jb _ _)) nr nw nb nk rw rb rk)
  clear Cw Cb Cr Ck
  go_wp2_with (first | refine wpList_store_mid rfl 39 _ _ rfl pr 0 _ rfl rfl HTH.out hy2.out h12.out ?_ | refine wpList_load_mid rfl 39 _ rfl pb 0 rfl _ _ HRG2.out Tryz.underlying39 rfl hz.out ?_)
  refine Calls.mono HC.out ?_
  rintro e W3 ⟨rfl,HK⟩
  have HL3:Hid (Leaves ⟨fb,fo,none⟩ W W3):=HK.out.leaves
  have hc3:=HK.out.cell
  have hf3:=HK.out.frozen
  have Cr3:=HK.out.cw
  have Ck3:=HK.out.ck
  have HO3:Hid _:=Jao (w':=W3) (Js HO2.out (Jb _ _)) (fun g hg=>HK.out.heap g ((Js HO2.out (Jb _ _)).lt g hg).2 (fun e=>nuf (by rw [hg,e])) (fun e=>nur (by rw [hg,e])) (fun e=>nuk (by rw [hg,e])))
  clear HC HK HRG2 HTH hc2 hf2 HO2 HL2
  have hz3:Hid _:=Jp hR2.rest (Ja1 b)
  have hy3:Hid _:=J1 hR2.rest (Ja1 b)
  have h13:Hid _:=hR2.rest.each (Ja1 b)
  have HG:Hid _:=(⟨HL3.out,hc3,hf3,Cr3,Ck3,HO3.out⟩:CapG W ⟨fb,fo,none⟩ ((f || Jct b)) pr pk ((Ja1 b).L (R.set 5 u)) (Jej b) u Ls W3)
  clear Cr3 Ck3 HL3 HO3 hc3 hf3
  generalize hcs:(Ja1 b).L (R.set 5 u) = cs at *
  have HCS:Hid _:=hcs
  clear hcs
  generalize hct:Jej b = ct at *
  have HCT:Hid _:=hct
  clear hct
  go_upto_region 3 with fail
  refine RV.rs [.some (.agg cs.toArray),.some (.bool ct),none,none] [12,13,0,0] [(4,.pointer (some ⟨pr,0,none⟩)),(5,.pointer (some ⟨pk,0,none⟩))] (fun (γ:Nat->Value) (L:Nat->Bool) w=>CapG W ⟨fb,fo,none⟩ (f || Jct b) pr pk cs ct u Ls w) ⟨rfl,rfl,trivial⟩ ?_ ?_ ?_
  ·exact HG.out.drew
  ·intro D WA Z hD hWA hZ T
   simp only [RV.Outs,RV.Slots,Nat.reduceAdd] at T
   refine RV.cc _ (RV.does_step (fun γ L a w hH hl hA=>by have h9:=T γ L a w hH;exact ⟨.agg cs.toArray,w,J7 39 _ rfl pr 0 (by simp [go_sem,h9]) _ _ hH.glob.cw.range Tryz.underlying39 rfl hz3.out,rfl,fun _ _ _ h=>h,hH.glob⟩)) ?_
   (refine RV.cc _ (RV.pu T (fun γ v L w hl h=>h) (fun γ L a w hH hl h9 k9=>⟨_,?_,rfl⟩)) ?_;· have q0:=(hH.glob.ck 0 _ rfl).1;simp [execOp,go_sem,h9,q0])
   refine RV.cc _ (RV.does_store (fun γ L a w hH hl hA=>by have h9:=T γ L a w hH;have k9:=hA;simp [Region.binds] at k9;exact ⟨w.setCells pr 0 cs,Jb9 39 _ _ rfl pr 0 cs.toArray (by simp [go_sem,h9]) (by simp [go_sem,h9,k9]) (by rw [List.size_toArray];exact hH.glob.cw.there) hy3.out h13.out,trivial,fun j v _ h=>h.keep _,hH.glob.sets hWr nr' rk nur⟩)) ?_
   refine RV.cc _ (RV.does_store (fun γ L a w hH hl hA=>by have h9:=T γ L a w hH;have k9:=hA;simp [Region.binds] at k9;have z0:=(hH.glob.ck 0 _ rfl).1;have zf:=(hH.glob.ck 0 _ rfl).2;exact ⟨w.setCell ⟨pk,0,none⟩ (.bool ct),by simp [execOp,go_sem,z0,zf,h9,k9],trivial,fun j v _ h=>h.keep _,hH.glob.put hWk nk' rk nuk⟩)) ?_
   exact RV.AllDo.nil
  ·intro γ w5 L9 hL hI9 hG9
   have HG5:Hid (CapG _ _ _ _ _ _ _ _ _ _):=hG9
   clear hL hI9 hG9
   simp only [RV.putL,Act.put,List.setIfInBounds_toArray,List.set_cons_zero,List.set_cons_succ]
   go_wp2_with (fail)
   refine bodyPost_ret (Jhw (u:=.bool ct) 4 5 39 4 Tryz.results26 ⟨pr,0,none⟩ ⟨pk,0,none⟩ rfl rfl (run_loadVar_mid _ pr 0 39 cs _ HG5.out.cw.range Tryz.underlying39 rfl hz3.out) (by have z0:=(HG5.out.ck 0 _ rfl).1;simp [go_sem,z0])) rfl ?_
   exact ⟨u,by rw [<- HCS.out,<- HCT.out],by rw [Jan,if_pos hk];exact HG5.out.leaves.done HG5.out.cell HG5.out.frozen,HG5.out.row⟩
 ·have HC:Hid _:=Jgw b R (.func (.func 68) #[] #[.pointer (some ⟨pr,0,none⟩),.pointer (some ⟨pw,0,none⟩),.pointer (some ⟨pb,0,none⟩),.pointer (some ⟨pk,0,none⟩)]) hk (W1.setCells pr 0 (b.L (R.set 5 u)))
  have HRR:Hid (CW _ _ _):=Cr
  have HKK:Hid (CW _ _ _):=Ck
  have hD:Ja1 b = b:=by unfold Ja1;rw [if_neg (fun h=>hk h.1)]
  have hC:Jej b = false:=by unfold Jej;rw [if_neg (fun h=>hk h.1)]
  have HD9:Hid _:=And.intro hD hC
  clear Cw Cb Cr Ck hD hC
  go_wp2_with (first | refine wpList_store_mid rfl 39 _ _ rfl pr 0 _ rfl rfl HTH.out hy2.out h12.out ?_ | refine wpList_load_mid rfl 39 _ rfl pb 0 rfl _ _ HRG2.out Tryz.underlying39 rfl hz.out ?_)
  refine Calls.mono HC.out ?_
  rintro e W3 ⟨rfl,HK⟩
  have HL3:Hid (Leaves ⟨fb,fo,none⟩ W W3):=HL2.out.step (HK.out.mono HL2.out.size)
  have hc3:=Ja HK.out hc2
  have hf3:=Jq HK.out hc2 hf2
  have Cr3:=HRR.out.step HK.out
  have Ck3:=HKK.out.step HK.out
  have HO3:Hid _:=Js HO2.out HK.out
  clear HC HK HRG2 HTH hc2 hf2 HO2 HL2 HRR HKK
  have hz3:Hid _:=Jp hR2.rest (b)
  have hy3:Hid _:=J1 hR2.rest (b)
  have h13:Hid _:=hR2.rest.each (b)
  have HG:Hid _:=(⟨HL3.out,hc3,hf3,Cr3,Ck3,HO3.out⟩:CapG W ⟨fb,fo,none⟩ (f) pr pk ((b).L (R.set 5 u)) (false) u Ls W3)
  clear Cr3 Ck3 HL3 HO3 hc3 hf3
  generalize hcs:(b).L (R.set 5 u) = cs at *
  have HCS:Hid _:=hcs
  clear hcs
  obtain ⟨ct,hct⟩:∃ x,false = x:=⟨_,rfl⟩
  rw [hct] at HG
  have HCT:Hid _:=hct
  clear hct
  go_upto_region 3 with fail
  refine RV.rs [.some (.agg cs.toArray),.some (.bool ct),none,none] [12,13,0,0] [(4,.pointer (some ⟨pr,0,none⟩)),(5,.pointer (some ⟨pk,0,none⟩))] (fun (γ:Nat->Value) (L:Nat->Bool) w=>CapG W ⟨fb,fo,none⟩ f pr pk cs ct u Ls w) ⟨rfl,rfl,trivial⟩ ?_ ?_ ?_
  ·exact HG.out.drew
  ·intro D WA Z hD hWA hZ T
   simp only [RV.Outs,RV.Slots,Nat.reduceAdd] at T
   refine RV.cc _ (RV.does_step (fun γ L a w hH hl hA=>by have h9:=T γ L a w hH;exact ⟨.agg cs.toArray,w,J7 39 _ rfl pr 0 (by simp [go_sem,h9]) _ _ hH.glob.cw.range Tryz.underlying39 rfl hz3.out,rfl,fun _ _ _ h=>h,hH.glob⟩)) ?_
   (refine RV.cc _ (RV.pu T (fun γ v L w hl h=>h) (fun γ L a w hH hl h9 k9=>⟨_,?_,rfl⟩)) ?_;· have q0:=(hH.glob.ck 0 _ rfl).1;simp [execOp,go_sem,h9,q0])
   refine RV.cc _ (RV.does_store (fun γ L a w hH hl hA=>by have h9:=T γ L a w hH;have k9:=hA;simp [Region.binds] at k9;exact ⟨w.setCells pr 0 cs,Jb9 39 _ _ rfl pr 0 cs.toArray (by simp [go_sem,h9]) (by simp [go_sem,h9,k9]) (by rw [List.size_toArray];exact hH.glob.cw.there) hy3.out h13.out,trivial,fun j v _ h=>h.keep _,hH.glob.sets hWr nr' rk nur⟩)) ?_
   refine RV.cc _ (RV.does_store (fun γ L a w hH hl hA=>by have h9:=T γ L a w hH;have k9:=hA;simp [Region.binds] at k9;have z0:=(hH.glob.ck 0 _ rfl).1;have zf:=(hH.glob.ck 0 _ rfl).2;exact ⟨w.setCell ⟨pk,0,none⟩ (.bool ct),by simp [execOp,go_sem,z0,zf,h9,k9],trivial,fun j v _ h=>h.keep _,hH.glob.put hWk nk' rk nuk⟩)) ?_
   exact RV.AllDo.nil
  ·intro γ w5 L9 hL hI9 hG9
   have HG5:Hid (CapG _ _ _ _ _ _ _ _ _ _):=hG9
   clear hL hI9 hG9
   simp only [RV.putL,Act.put,List.setIfInBounds_toArray,List.set_cons_zero,List.set_cons_succ]
   go_wp2_with (fail)
   refine bodyPost_ret (Jhw (u:=.bool ct) 4 5 39 4 Tryz.results26 ⟨pr,0,none⟩ ⟨pk,0,none⟩ rfl rfl (run_loadVar_mid _ pr 0 39 cs _ HG5.out.cw.range Tryz.underlying39 rfl hz3.out) (by have z0:=(HG5.out.ck 0 _ rfl).1;simp [go_sem,z0])) rfl ?_
   exact ⟨u,by rw [HD9.out.1,HD9.out.2,HCS.out,HCT.out],by rw [Jan,if_neg hk,Bool.or_false];exact HG5.out.leaves.done HG5.out.cell HG5.out.frozen,HG5.out.row⟩
end
section
open Go.ChangeShapes Go.WideShapes Go.Deep Go.Joins
section
variable {H:Type} {enc:TypeId × Value->H} {w:World} {base:Nat} {spare:Nat->Bool} {held:Bool}
theorem Jrg {cs:Array Value} (h:cs.size = 3):∃ u0 u1 u2,cs = #[u0,u1,u2]:=by
 obtain ⟨l⟩:=cs
 match l,h with
 | [a,b,c],_=>exact ⟨a,b,c,rfl⟩
end
end
section
open Go.RowKit Go.Shelf Fx
theorem CW.pose {W:World} {b:Nat} {D:Bd} {R:List Value} (h:CW W b (D.L R)):World.rangeAt W b 1 [J Jk D.s.x,J Jk D.s.y,J Jk D.s.z,J Jk D.q.w,J Jk D.q.x,J Jk D.q.y,J Jk D.q.z]:=fun j v e=>by
 rw [Nat.add_comm]
 refine (h (j + 1) v ?_).1
 match j,e with
 | 0,e=>exact e
 | 1,e=>exact e
 | 2,e=>exact e
 | 3,e=>exact e
 | 4,e=>exact e
 | 5,e=>exact e
 | 6,e=>exact e
 | n + 7,e=>simp at e
section
variable {V w w':World} {pb:Nat} {pts:List Pt} {R:List Value} {Ds:List (Nat × Bd)} {ib st:Nat} {fin:Bd} {γ:Nat->Value} {L:Nat->Bool}
variable {pv:Value} (hR:RestP R pv) (hlen:pts.length <= 100000) (h:OG V pb pts R Ds ib st fin γ L w) {k:Nat} {D D':Bd} {u:Value} (hu1:u.oneCell' = true) (hL:Lies w u pts)
 (hD:∀ x ∈ Ds,x.1 = k->x.2 = D') (h1:ib ≠ k) (h2:st ≠ k) (hst:L st = false)
include hR hlen h hu1 hL hD h1 h2 hst
end
end
section
open Go.ChangeShapes Go.WideShapes Go.Deep Go.Joins
section
variable {H:Type} {enc:TypeId × Value->H} {w:World} {base:Nat} {spare:Nat->Bool} {held:Bool}
theorem Jc0 {rr:Reach} {b0:Nat} {v:Value} {d:DataW H} {p:List MemPlace} (hv:Value.okWide Tryz.prog w rr b0 27 v) (h:DataW.Trod enc Tryz.prog w base spare held 27 v d p):∃ a:V3,v = a.val/\∀ n ∈ ([a.x,a.y,a.z]:List Int),-9223372036854775808 <= n/\n <= 9223372036854775807:=by
 obtain ⟨cs,rfl,hsz⟩:=okWide_struct Tryz.underlying27 hv
 have hC:Tryz.prog.cellsOf 27 = 3:=by kernel_rfl
 obtain ⟨u0,u1,u2,rfl⟩:=Jrg (hsz.trans hC)
 obtain ⟨fuel,hf⟩:=h
 obtain ⟨x,y,z,rfl,rfl,rfl,w1,w2,w3⟩:=Jha (show DataW.trod enc Tryz.prog w base spare held fuel 27 [u0,u1,u2] = some (d,p) from hf)
 refine ⟨⟨x,y,z⟩,rfl,fun n hn=>?_⟩
 have wf:(Lit.int .i64 n).wf = true:=by
  simp only [List.mem_cons,List.not_mem_nil,or_false] at hn
  rcases hn with rfl | rfl | rfl <;> assumption
 have:=bounds_i64 wf
 omega
end
end
section
open Fx
def Mt.Fit (m:Mt):Prop:=isV m.a 8589934592/\isV m.b 8589934592/\isV m.c 8589934592
theorem Jkx {q:V4} (h:WM.Whole q.w q.x q.y q.z):Jhp q = false/\(Jo q).Fit/\(Jo q).t.Fit:=by
 obtain ⟨hw,hx,hy,hz,hN1,hN2⟩:=id h
 obtain ⟨hbad,n0,n1,n2,n3,n4,n5,n6,n7,n8⟩:=WM.rows_near hw hx hy hz hN2
 refine ⟨hbad,?_⟩
 unfold Jo Mt.t Mt.Fit isV
 rw [hbad]
 exact ⟨⟨⟨n0.2.2,n1.2.2,n2.2.2⟩,⟨n3.2.2,n4.2.2,n5.2.2⟩,⟨n6.2.2,n7.2.2,n8.2.2⟩⟩,⟨⟨n0.2.2,n3.2.2,n6.2.2⟩,⟨n1.2.2,n4.2.2,n7.2.2⟩,⟨n2.2.2,n5.2.2,n8.2.2⟩⟩⟩
theorem Jex {a x:V3} {B:Int} (ha:isV a 8589934592) (hx:isV x B) (hB:6 * B <= 4611686018427387903) (h0:0 <= B) :
  ∃ r:Int,dot [a.x,a.y,a.z] [x.x,x.y,x.z] = some r/\(-(6 * B) <= r/\r <= 6 * B):=by
 have j0:=WM.mul_in ha.1 hx.1
 have j1:=WM.mul_in ha.2.1 hx.2.1
 have j2:=WM.mul_in ha.2.2 hx.2.2
 obtain ⟨k0,k1,k2⟩:=hx
 obtain ⟨h0,h1,h2⟩:=ha
 have e:Jaa [a.x,a.y,a.z] [x.x,x.y,x.z] / 4294967296 = (a.x * x.x + (a.y * x.y + a.z * x.z)) / 4294967296:=by simp only [Jaa,Int.add_zero]
 have g1:[a.x,a.y,a.z].any great = false:=by simp [(not_great a.x).2 (by omega),(not_great a.y).2 (by omega),(not_great a.z).2 (by omega)]
 have g2:[x.x,x.y,x.z].any great = false:=by simp [(not_great x.x).2 (by omega),(not_great x.y).2 (by omega),(not_great x.z).2 (by omega)]
 have hX:-(25769803776 * B) <= a.x * x.x + (a.y * x.y + a.z * x.z)/\a.x * x.x + (a.y * x.y + a.z * x.z) <= 25769803776 * B:=by omega
 generalize a.x * x.x + (a.y * x.y + a.z * x.z) = X at *
 refine ⟨X / 4294967296,?_,by omega⟩
 have g3:great (X / 4294967296) = false:=(not_great _).2 (by omega)
 unfold dot
 rw [if_neg (by simp),if_neg (by simp),g1,g2,e]
 simp [Fx.told,g3]
theorem Jif {m:Mt} {x:V3} {B:Int} (hm:m.Fit) (hx:isV x B) (hB:6 * B <= 4611686018427387903) (h0:0 <= B):Jdm m x = false/\isV (Jax m x) (6 * B):=by
 obtain ⟨r0,e0,b0⟩:=Jex hm.1 hx hB h0
 obtain ⟨r1,e1,b1⟩:=Jex hm.2.1 hx hB h0
 obtain ⟨r2,e2,b2⟩:=Jex hm.2.2 hx hB h0
 unfold Jdm Jax
 rw [e0,e1,e2]
 exact ⟨rfl,b0,b1,b2⟩
theorem Jgj {x n A N C:Int} (hx:-A <= x/\x <= A) (hn:N <= n/\n <= 4611686018427387903) (hN:0 < N) (hA:A <= 4611686018427387903) (h0:0 <= C) (h:A * 4294967296 <= C * N) (hC:C <= 4611686018427387903) :
  Jb7 x n = false/\(-C <= dv1 x n/\dv1 x n <= C):=by
 have hCn:C * N <= C * n:=Int.mul_le_mul_of_nonneg_left hn.1 h0
 have b1:x * 4294967296 / n <= C:=by
  have:=Int.ediv_le_ediv (by omega:0 < n) (by omega:x * 4294967296 <= C * n)
  rwa [Int.mul_ediv_cancel _ (by omega)] at this
 have b2:-C <= x * 4294967296 / n:=by
  have:=Int.ediv_le_ediv (by omega:0 < n) (by rw [Int.neg_mul];omega:-C * n <= x * 4294967296)
  rwa [Int.mul_ediv_cancel _ (by omega)] at this
 have g1:great x = false:=(not_great x).2 (by omega)
 have g2:great n = false:=(not_great n).2 (by omega)
 have g3:great (x * 4294967296 / n) = false:=(not_great _).2 (by omega)
 have e:Jx x 4294967296 n = some (x * 4294967296 / n):=by
  unfold Jx fl told
  rw [if_neg (show ¬ n = 0 by omega),g1,g2,if_neg (by simp [great])]
  simp only [if_neg (show ¬ n < 0 by omega),g3]
  rfl
 unfold Jb7 dv1
 rw [e]
 exact ⟨rfl,b2,b1⟩
theorem Jc9 {a i:V3} {A N C:Int} (ha:isV a A) (hi:(N <= i.x/\i.x <= 4611686018427387903)/\(N <= i.y/\i.y <= 4611686018427387903)/\(N <= i.z/\i.z <= 4611686018427387903)) (hN:0 < N) (hA:A <= 4611686018427387903) (h0:0 <= C) (h:A * 4294967296 <= C * N) (hC:C <= 4611686018427387903):Jg4 a i = false/\isV (Jjo a i) C:=by
 obtain ⟨e1,b1⟩:=Jgj ha.1 hi.1 hN hA h0 h hC
 obtain ⟨e2,b2⟩:=Jgj ha.2.1 hi.2.1 hN hA h0 h hC
 obtain ⟨e3,b3_⟩:=Jgj ha.2.2 hi.2.2 hN hA h0 h hC
 unfold Jg4 Jjo
 rw [e1,e2,e3]
 exact ⟨rfl,b1,b2,b3_⟩
theorem Jr7 {a:V3} {A:Int} (ha:isV a A) (hA:A <= 2594073385365405696):Jqi a = false:=by
 obtain ⟨h1,h2,h3⟩:=ha
 have g:∀ x:Int,-A <= x/\x <= A->great x = false/\(0 <= x * x/\x * x <= 6729216728661136606575523242669244416):=fun x hx=>by
  refine ⟨(not_great x).2 (by omega),Jz x,?_⟩
  have:=(WM.mul_in (a:=x) (b:=x) (A:=2594073385365405696) (B:=2594073385365405696) (by omega) (by omega)).2
  omega
 obtain ⟨g1,p1,q1⟩:=g _ h1
 obtain ⟨g2,p2,q2⟩:=g _ h2
 obtain ⟨g3,p3,q3⟩:=g _ h3
 have e:Jaa [a.x,a.y,a.z] [a.x,a.y,a.z] = a.x * a.x + (a.y * a.y + a.z * a.z):=by simp only [Jaa,Int.add_zero]
 unfold Jqi Jak
 rw [if_neg (by simp),if_neg (by simp [g1,g2,g3]),e]
 have hX:0 <= a.x * a.x + (a.y * a.y + a.z * a.z)/\a.x * a.x + (a.y * a.y + a.z * a.z) <= 20187650185983409819726569728007733248:=by omega
 generalize a.x * a.x + (a.y * a.y + a.z * a.z) = X at hX ⊢
 obtain ⟨n,rfl⟩:=Int.eq_ofNat_of_zero_le hX.1
 rw [Int.toNat_natCast]
 obtain ⟨i1,_⟩:=isq_is n
 have:isq n <= 4611686018427387903:=by
  refine Nat.le_of_lt_succ (Nat.lt_of_not_le fun hn=>?_)
  have:=Nat.mul_le_mul hn hn
  omega
 unfold told
 rw [(not_great _).2 (by omega)]
 rfl
theorem Jlv {slow bad:V3->Bool} {p:V3} (h:slow p = true):∀ n,hvd slow bad n p = (p,false,bad p)
 | 0=>rfl
 | n + 1=>by rw [hvd,if_pos h]
theorem Jg3 {slow bad:V3->Bool} (h0:slow ⟨0,0,0⟩ = true):∀ (n:Nat) (p:V3),Sml n p->slow (hvd slow bad n p).1 = true
 | 0,p,h=>by rw [Jmv h];exact h0
 | n + 1,p,h=>by
  unfold hvd
  split
  ·assumption
  ·exact Jg3 h0 n _ (Jpp h)
theorem Jhq {slow bad:V3->Bool}:∀ (n:Nat) (p:V3),(hvd slow bad n p).2.2 = false->bad (hvd slow bad n p).1 = false
 | 0,p,h=>h
 | n + 1,p,h=>by
  unfold hvd at h ⊢
  split
  ·rename_i hs;rw [if_pos hs] at h;exact h
  ·rename_i hs
   rw [if_neg hs] at h
   simp only [Bool.or_eq_false_iff] at h
   exact Jhq n _ h.2
theorem Jjk {slow bad:V3->Bool} {C:Int} (hb:∀ q,isV q C->bad q = false):∀ (n:Nat) (p:V3),isV p C->(hvd slow bad n p).2.2 = false
 | 0,p,h=>hb p h
 | n + 1,p,h=>by
  unfold hvd
  split
  ·exact hb p h
  ·simp only [Bool.or_eq_false_iff]
   exact ⟨hb p h,Jjk hb n _ (Jpa h)⟩
def szV (a:V3):Nat:=a.x.natAbs + a.y.natAbs + a.z.natAbs
theorem Jo9 (a:V3):szV (hlf a) <= szV a/\(a ≠ ⟨0,0,0⟩->szV (hlf a) < szV a):=by
 have e2:∀ x:Int,(x.tdiv 2).natAbs = x.natAbs / 2:=fun x=>by rw [Int.natAbs_tdiv];rfl
 obtain ⟨x,y,z⟩:=a
 unfold szV hlf
 simp only [e2]
 refine ⟨by omega,fun h=>?_⟩
 have:¬ (x = 0/\y = 0/\z = 0):=fun ⟨a,b,c⟩=>h (by rw [a,b,c])
 omega
theorem Jo1 {slow bad:V3->Bool}:∀ (n:Nat) (p:V3),szV (hvd slow bad n p).1 <= szV p
 | 0,p=>Nat.le_refl _
 | n + 1,p=>by
  unfold hvd
  split
  ·exact Nat.le_refl _
  ·exact Nat.le_trans (Jo1 n _) (Jo9 p).1
theorem Jpu {slow bad:V3->Bool} (h0:slow ⟨0,0,0⟩ = true):∀ (n:Nat) (p:V3),((hvd slow bad n p).2.1 = true ↔ (hvd slow bad n p).1 ≠ p)
 | 0,p=>by simp [hvd]
 | n + 1,p=>by
  unfold hvd
  split
  ·simp
  ·rename_i hs
   have hp:p ≠ ⟨0,0,0⟩:=fun e=>hs (by rw [e];exact h0)
   have h1:=Jo1 (slow:=slow) (bad:=bad) n (hlf p)
   have h2:=(Jo9 p).2 hp
   simp only [true_iff]
   intro e
   rw [e] at h1
   omega
theorem Jfx {a:V3} {C:Int} (h:isV a C) (hC:C <= 18446744073709551615):Sml 64 a:=by
 unfold isV at h
 unfold Sml
 simp only [Nat.reducePow]
 omega
theorem Jsz {b:Bd} (hk:b.k = 2) (hx:Jct b = false) (hp:Sml 64 b.p) (hl:Sml 64 b.l) :
  Jes (Jbj (Ja1 b)) <= 274877906944/\Jes (Jau (Ja1 b) (Ja1 b).l) <= 68719476736/\(Jej b = true ↔ ((Ja1 b).p ≠ b.p \/ (Ja1 b).l ≠ b.l)):=by
 have e1:Ja1 b = (b.wp (Jb8 b).1).wl (Jce b).1:=by unfold Ja1;rw [if_pos ⟨hk,hx⟩]
 have e2:Jej b = ((Jb8 b).2.1 || (Jce b).2.1):=by unfold Jej;rw [if_pos ⟨hk,hx⟩]
 have s1:Jgg b (Jb8 b).1 = true:=Jg3 (Jd5 b) 64 b.p hp
 have s2:Jgl (b.wp (Jb8 b).1) (Jce b).1 = true:=Jg3 (Jdz _) 64 b.l hl
 have d1:(Jb8 b).2.1 = true ↔ (Jb8 b).1 ≠ b.p:=Jpu (Jd5 b) 64 b.p
 have d2:(Jce b).2.1 = true ↔ (Jce b).1 ≠ b.l:=Jpu (Jdz _) 64 b.l
 rw [e1,e2]
 refine ⟨?_,?_,?_⟩
 ·have:=of_decide_eq_true s1;exact this
 ·have:=of_decide_eq_true s2;exact this
 ·rw [Bool.or_eq_true,d1,d2];exact Iff.rfl
theorem Jt8 {b:Bd} (hk:b.k = 2) (hx:Jct b = false) (hp:Sml 64 b.p) (hl:Sml 64 b.l):Jct (Ja1 b) = false/\Jej (Ja1 b) = false/\Ja1 (Ja1 b) = Ja1 b:=by
 have e1:Ja1 b = (b.wp (Jb8 b).1).wl (Jce b).1:=by unfold Ja1;rw [if_pos ⟨hk,hx⟩]
 have s1:Jgg b (Jb8 b).1 = true:=Jg3 (Jd5 b) 64 b.p hp
 have s2:Jgl (b.wp (Jb8 b).1) (Jce b).1 = true:=Jg3 (Jdz _) 64 b.l hl
 unfold Jct at hx
 simp only [Bool.or_eq_false_iff] at hx
 have b1:Jef b (Jb8 b).1 = false:=Jhq 64 b.p hx.1
 have b2:Jhe (b.wp (Jb8 b).1) (Jce b).1 = false:=Jhq 64 b.l hx.2
 rw [e1]
 generalize (Jb8 b).1 = P at *
 generalize (Jce b).1 = L at *
 have f1:Jb8 ((b.wp P).wl L) = (P,false,false):=by
  show hvd (Jgg ((b.wp P).wl L)) (Jef ((b.wp P).wl L)) 64 P = _
  rw [Jlv (show Jgg ((b.wp P).wl L) P = true from s1)]
  exact congrArg (fun z=>(P,false,z)) b1
 have f2:Jce ((b.wp P).wl L) = (L,false,false):=by
  unfold Jce
  rw [f1]
  show hvd (Jgl (((b.wp P).wl L).wp P)) (Jhe (((b.wp P).wl L).wp P)) 64 L = _
  rw [Jlv (show Jgl (((b.wp P).wl L).wp P) L = true from s2)]
  exact congrArg (fun z=>(L,false,z)) b2
 have f3:Jct ((b.wp P).wl L) = false:=by unfold Jct;rw [f1,f2];rfl
 refine ⟨f3,?_,?_⟩
 ·unfold Jej;rw [if_pos ⟨hk,f3⟩,f1,f2];rfl
 ·unfold Ja1;rw [if_pos ⟨hk,f3⟩,f1,f2];rfl
def Jkp (i:V3):Prop:=(4096 <= i.x/\i.x <= 4611686018427387903)/\(4096 <= i.y/\i.y <= 4611686018427387903)/\(4096 <= i.z/\i.z <= 4611686018427387903)
theorem Jkz {b:Bd} {p:V3} (hm:16777216 <= b.m/\b.m <= 1099511627776) (hp:isV p 1099511627776):Jdy (b.wp p) = false/\isV (Jbj (b.wp p)) 281474976710656:=
 Jc9 (N:=16777216) hp ⟨⟨hm.1,Int.le_trans hm.2 (by decide)⟩,⟨hm.1,Int.le_trans hm.2 (by decide)⟩,⟨hm.1,Int.le_trans hm.2 (by decide)⟩⟩ (by decide) (by decide) (by decide) (by decide) (by decide)
theorem Jni {b:Bd} {l:V3} (hq:WM.Whole b.q.w b.q.x b.q.y b.q.z) (hi:Jkp b.i) (hl:isV l 68719476736):Jd4 b l = false/\isV (Jau b l) 2594073385365405696:=by
 obtain ⟨r,f1,f2⟩:=Jkx hq
 obtain ⟨t1,t2⟩:=Jif f2 hl (by decide) (by decide)
 obtain ⟨d1,d2⟩:=Jc9 (N:=4096) (C:=432345564227567616) t2 hi (by decide) (by decide) (by decide) (by decide) (by decide)
 obtain ⟨u1,u2⟩:=Jif f1 d2 (by decide) (by decide)
 refine ⟨?_,u2⟩
 unfold Jd4
 rw [r,t1,d1]
 exact u1
theorem Ju4 {b:Bd} (hm:16777216 <= b.m/\b.m <= 1099511627776) (hq:WM.Whole b.q.w b.q.x b.q.y b.q.z) (hi:Jkp b.i) (hp:isV b.p 1099511627776) (hl:isV b.l 68719476736):Jct b = false:=by
 have h1:(Jb8 b).2.2 = false:=Jjk (C:=1099511627776) (fun q hq=>by
  obtain ⟨e1,e2⟩:=Jkz (b:=b) hm hq
  unfold Jef
  rw [e1,Jr7 e2 (by decide)];rfl) 64 b.p hp
 have h2:(Jce b).2.2 = false:=Jjk (C:=68719476736) (fun q hq9=>by
  obtain ⟨e1,e2⟩:=Jni (b:=(b.wp (Jb8 b).1).wl q) hq hi hq9
  unfold Jhe
  rw [e1,Jr7 e2 (by decide)];rfl) 64 b.l hl
 unfold Jct
 rw [h1,h2];rfl
theorem Jhm {s:Sh} (h:Jaq s = 0):(0 <= (Ja7 (Jcb s) s.radius).x/\(Ja7 (Jcb s) s.radius).x <= 137438953472)/\(0 <= (Ja7 (Jcb s) s.radius).y/\(Ja7 (Jcb s) s.radius).y <= 137438953472)/\(0 <= (Ja7 (Jcb s) s.radius).z/\(Ja7 (Jcb s) s.radius).z <= 137438953472):=by
 obtain ⟨_,hr,p1,p2,p3⟩:=Jfu h
 obtain ⟨a,b,c1,c2,c3⟩:=Jfo (Jcb s) 65536 p3 p1 _ (Nat.le_refl _)
 obtain ⟨a1,a2,a3⟩:=(Pt.inB_iff _ _).1 a
 obtain ⟨b1,b2,b3_⟩:=(Pt.inB_iff _ _).1 b
 have e1:=Jf9 a1.1 b1.2 c1 hr.1 hr.2
 have e2:=Jf9 a2.1 b2.2 c2 hr.1 hr.2
 have e3:=Jf9 a3.1 b3_.2 c3 hr.1 hr.2
 unfold Ja7
 dsimp only
 omega
theorem Jcc {a:Int} (h:a <= 4611686018427387903):4096 <= Jbs a 4096/\Jbs a 4096 <= 4611686018427387903:=by
 unfold Jbs
 split <;> omega
theorem Jgx {m a b:Int} (m0:0 <= m) (m1:m <= 1099511627776) (ha:0 <= a/\a <= 137438953472) (hb:0 <= b/\b <= 137438953472):Jit m a b <= 4611686018427387903:=by
 have h1:=Jd0 m0 m1 ha.1 ha.2
 have h2:=Jd0 m0 m1 hb.1 hb.2
 unfold Jit
 omega
theorem Ji7 {s:Sh} {m:Int} (h:Jaq s = 0) (m0:0 <= m) (m1:m <= 1099511627776):Jkp ⟨Jbs (Je8 s m).x 4096,Jbs (Je8 s m).y 4096,Jbs (Je8 s m).z 4096⟩:=by
 obtain ⟨_,hr,_⟩:=Jfu h
 obtain ⟨w1,w2,w3⟩:=Jhm h
 unfold Je8
 split
 ·have h1:=Jd0 (h:=s.radius * 1048576) m0 m1 (by omega) (by omega)
  have:Jgc m (s.radius * 1048576) <= 4611686018427387903:=by unfold Jgc;omega
  exact ⟨Jcc this,Jcc this,Jcc this⟩
 ·exact ⟨Jcc (Jgx m0 m1 w2 w3),Jcc (Jgx m0 m1 w3 w1),Jcc (Jgx m0 m1 w1 w2)⟩
theorem Ok12.big {fx fa:Bool} {gr ma:Int} {b:Bd} {r:Rs} (h:Ok12 fx fa gr ma b r):Jkp b.i:=by
 rw [h.i];exact Ji7 h.good.ok (by have:=h.m;omega) h.m.2
theorem Ok12.caps {fa:Bool} {gr ma:Int} {b x:Bd} {r:Rs} (h:Ok12 false fa gr ma b r) (hx:Ja1 b = x):Jct x = false/\Jej x = false/\Ja1 x = x/\x.k = 2/\Sml 64 x.p/\Sml 64 x.l:=by
 have hp:=Jfx (a:=b.p) h.p (by decide)
 have hl:=Jfx (a:=b.l) h.l (by decide)
 obtain ⟨e1,e2,e3⟩:=Jt8 h.k (Ju4 h.m h.wh h.big h.p h.l) hp hl
 obtain ⟨i1,i2⟩:=Jld (b:=b) h.p h.l
 rw [hx] at e1 e2 e3 i1 i2
 exact ⟨e1,e2,e3,by rw [<- hx,(Jg5 b).1];exact h.k,Jfx i1 (by decide),Jfx i2 (by decide)⟩
theorem Jng (y:Bd) (hk:y.k = 2) (hp:Sml 64 y.p) (hl:Sml 64 y.l):∃ (d:Bd) (ct g:Bool),Ja1 y = d/\Jej y = ct/\Jan y.k (Jct y) = g/\d.k = 2/\d.s = y.s/\d.q = y.q/\(g = true->d = y/\ct = false)/\(g = false->Jes (if2 d.k (Jbj d)) <= 274877906944/\Jes (if2 d.k (Jau d d.l)) <= 68719476736/\(ct = true ↔ (d.p ≠ y.p \/ d.l ≠ y.l))):=by
 obtain ⟨s1,s2,s3,_⟩:=Jg5 y
 refine ⟨_,_,_,rfl,rfl,rfl,s1.trans hk,s2,s3,fun h=>?_,fun h=>?_⟩
 ·unfold Jan at h
  rw [if_pos hk] at h
  unfold Ja1 Jej
  rw [if_neg (by rw [h];simp),if_neg (by rw [h];simp)]
  exact ⟨rfl,rfl⟩
 ·unfold Jan at h
  rw [if_pos hk] at h
  obtain ⟨a,b,c⟩:=Jsz hk h hp hl
  unfold if2
  rw [if_pos (s1.trans hk),if_pos (s1.trans hk)]
  exact ⟨a,b,c⟩
end
end Go.Proofs.YteebbpioffdncaaGreat
