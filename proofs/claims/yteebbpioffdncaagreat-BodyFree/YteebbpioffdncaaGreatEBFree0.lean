/- Package pose: directions that are made long, turned, and made short. -/
import Derived.Test.YteebbpioffdncaaGreatBW8
import Derived.Test.YteebbpioffdncaaGreatBW0
import Derived.Test.YteebbpioffdncaaGreatProg
import Derived.WalkKit
import Derived.Orders
import Derived.Below
import Derived.Laws.Rows
import Derived.Test.YteebbpioffdncaaGreatBW2
import Derived.RangeFuncNested
import Derived.RangeFuncBound
import Derived.RangeFuncCalls
import Derived.RangeFuncLeaves
import Derived.RangeFuncBox
import Derived.Shelf.Abstract
import Derived.OwnWalkIn
import Derived.TacticsInMore
import Derived.LoopNIn
import Derived.LoopIn
import Derived.LoopTactic
import Derived.ProofKit
import Derived.Handy
import Derived.Test.YteebbpioffdncaaGreatBW1
import Derived.Laws.MakeOwn
import Derived.Laws.OwnMore
import Derived.Maps.AppendAt
import Derived.Deep.RegionWith
import Derived.Deep.QuietTactic
import Derived.BigQuiet
import Derived.Deep.CutBlock
import Derived.Deep.CutRange
import Derived.Deep.LoopGhost
import Derived.Lib.SmallJoins
import Derived.RowKit
import Derived.OneCell
import Derived.WalkMore
import Derived.Lib.BufferMore
import Derived.Test.YteebbpioffdncaaGreatBW6
import Derived.Test.YteebbpioffdncaaGreatBW5
import Derived.Test.YteebbpioffdncaaGreatBW4
import Derived.Test.YteebbpioffdncaaGreatBW3
import Derived.Laws.MathBits
import Derived.Laws.Externs
import Derived.Laws.BitsAllLaws
import Derived.WalkLawsBesides
import Derived.Deep.MidRow
import Derived.Test.YteebbpioffdncaaGreatBW7
import Derived.Test.YteebbpioffdncaaGreatBW10
import Derived.Test.YteebbpioffdncaaGreatBW9
import Derived.Deep.RegionHeld3
import Derived.Test.YteebbpioffdncaaGreatBW11
import Derived.Test.YteebbpioffdncaaGreatBW14
import Derived.Test.YteebbpioffdncaaGreatBW13
import Derived.Test.YteebbpioffdncaaGreatBW12
import Derived.Test.YteebbpioffdncaaGreatBW17
import Derived.Test.YteebbpioffdncaaGreatBW16
import Derived.Test.YteebbpioffdncaaGreatBW15
import Derived.Test.YteebbpioffdncaaGreatBW23
import Derived.Test.YteebbpioffdncaaGreatBW26
import Derived.Test.YteebbpioffdncaaGreatBW24
import Derived.Test.YteebbpioffdncaaGreatBW22
import Derived.Test.YteebbpioffdncaaGreatBW21
import Derived.Test.YteebbpioffdncaaGreatBW20
import Derived.Test.YteebbpioffdncaaGreatBW19
import Derived.Test.YteebbpioffdncaaGreatBW18
import Derived.Test.YteebbpioffdncaaGreatBW25
import Derived.OpenShut
import Derived.Deep.Slices
set_option maxHeartbeats 2000000
set_option maxRecDepth 100000
set_option linter.unusedVariables false
namespace Go.Proofs.YteebbpioffdncaaGreat
open Go.Value renaming int -> J
open Go.IntKind renaming i64 -> Jk
section
open Go.RowKit Go.Shelf
def Pt.big (p:Pt) (n:Nat):Prop:=2 ^ n <= p.x.natAbs \/ 2 ^ n <= p.y.natAbs \/ 2 ^ n <= p.z.natAbs
end
section
open Go.RowKit Fx
namespace WM
theorem Jfc {a b c d:Int} (ha:-8589934592 <= a/\a <= 8589934592) (hb:-8589934592 <= b/\b <= 8589934592) (hc:-4294967296 <= c/\c <= 4294967296) (hd:-4294967296 <= d/\d <= 4294967296) :
  ∃ r:Int,dot [a,b] [c,d] = some r/\4294967296 * r <= a * c + b * d/\a * c + b * d < 4294967296 * r + 4294967296/\-17179869184 <= r/\r <= 17179869184:=by
 have k1:=mul_in ha hc
 have k2:=mul_in hb hd
 have hv:=Jc9 (a * c + b * d) 4294967296 (by omega)
 have e:Jaa [a,b] [c,d] / 4294967296 = (a * c + b * d) / 4294967296:=by simp only [Jaa,Int.add_zero]
 refine ⟨(a * c + b * d) / 4294967296,?_,by omega,by omega,by omega,by omega⟩
 have g1:[a,b].any great = false:=by simp [(not_great a).2 (by omega),(not_great b).2 (by omega)]
 have g2:[c,d].any great = false:=by simp [(not_great c).2 (by omega),(not_great d).2 (by omega)]
 have g3:great ((a * c + b * d) / 4294967296) = false:=(not_great _).2 (by omega)
 unfold dot
 rw [if_neg (by simp),if_neg (by simp),g1,g2,e]
 simp [Fx.told,g3]
theorem Jk0 {q:Int} (h:-4294967296 <= q/\q <= 4294967296):add q q = some (2 * q):=by
 unfold add
 rw [(not_great q).2 (by omega),show q + q = 2 * q by omega]
 simp [Fx.told,(not_great (2 * q)).2 (by omega)]
theorem sub0 {q:Int} (h:-4294967296 <= q/\q <= 4294967296):sub 0 q = some (-q):=by
 unfold sub
 rw [(not_great q).2 (by omega),show (0:Int) - q = -q by omega,(not_great 0).2 (by omega)]
 simp [Fx.told,(not_great (-q)).2 (by omega)]
theorem Jno {q:Int} (h:-17179869184 <= q/\q <= 17179869184):sub 4294967296 q = some (4294967296 - q):=by
 unfold sub
 rw [(not_great q).2 (by omega),(not_great 4294967296).2 (by omega)]
 simp [Fx.told,(not_great (4294967296 - q)).2 (by omega)]
def Jc1 (m R:Int):Prop:=(-4294967296 <= 4294967296 * m - R/\4294967296 * m - R <= 4294967296)/\(-36893488147419103232 <= R/\R <= 36893488147419103232)/\(-8589934592 <= m/\m <= 8589934592)
theorem Jbt {r P:Int} (l:4294967296 * r <= P) (u:P < 4294967296 * r + 4294967296) (hP:-18446744108069289992 <= P/\P <= 18446744108069289992):Jc1 r P:=by
 unfold Jc1
 omega
theorem Jd7 {r P:Int} (l:4294967296 * r <= P) (u:P < 4294967296 * r + 4294967296) (hP:0 <= P/\P <= 36893488216138579984):Jc1 (4294967296 - r) (18446744073709551616 - P):=by
 unfold Jc1
 omega
theorem Jjb {a b:Int}:-(a * a + b * b) <= 2 * (a * b)/\2 * (a * b) <= a * a + b * b:=by
 have h3:=Jz (a + b)
 have h4:=Jz (a - b)
 have e3:(a + b) * (a + b) = a * a + b * b + 2 * (a * b):=by grind
 have e4:(a - b) * (a - b) = a * a + b * b - 2 * (a * b):=by grind
 omega
theorem Jgf {a b c d M:Int} (h:a * a + b * b + (c * c + d * d) <= M):(-M <= 2 * (a * b) + 2 * (c * d)/\2 * (a * b) + 2 * (c * d) <= M)/\(-M <= 2 * (a * b) + 2 * (c * -d)/\2 * (a * b) + 2 * (c * -d) <= M):=by
 have h1:=Jjb (a:=a) (b:=b)
 have h2:=Jjb (a:=c) (b:=d)
 rw [Int.mul_neg]
 omega
theorem Jgq {a b c d M:Int} (h:a * a + b * b + (c * c + d * d) <= M):0 <= 2 * (a * a) + 2 * (b * b)/\2 * (a * a) + 2 * (b * b) <= 2 * M:=by
 have h1:=Jz a
 have h2:=Jz b
 have h3:=Jz c
 have h4:=Jz d
 omega
theorem neg_in {q:Int} (h:-4294967296 <= q/\q <= 4294967296):-4294967296 <= -q/\-q <= 4294967296:=by omega
theorem Jal {q:Int} (h:-4294967296 <= q/\q <= 4294967296):-8589934592 <= 2 * q/\2 * q <= 8589934592:=by omega
theorem rows_near {w x y z:Int} (hw:-4294967296 <= w/\w <= 4294967296) (hx:-4294967296 <= x/\x <= 4294967296) (hy:-4294967296 <= y/\y <= 4294967296) (hz:-4294967296 <= z/\z <= 4294967296)
  (h2:w * w + (x * x + (y * y + z * z)) - 18446744073709551616 <= 34359738376):J5 w x y z = false /\
  Jc1 (Jdd w x y z) (18446744073709551616 - (2 * (y * y) + 2 * (z * z)))/\Jc1 (Jdn w x y z) (2 * (x * y) + 2 * (w * -z))/\Jc1 (Jdg w x y z) (2 * (x * z) + 2 * (w * y)) /\
  Jc1 (Jdi w x y z) (2 * (x * y) + 2 * (w * z))/\Jc1 (Jde w x y z) (18446744073709551616 - (2 * (x * x) + 2 * (z * z)))/\Jc1 (Jdl w x y z) (2 * (y * z) + 2 * (w * -x)) /\
  Jc1 (Jdh w x y z) (2 * (x * z) + 2 * (w * -y))/\Jc1 (Jdj w x y z) (2 * (y * z) + 2 * (w * x))/\Jc1 (Jdk w x y z) (18446744073709551616 - (2 * (x * x) + 2 * (y * y))):=by
 have B0:=Jgq (a:=y) (b:=z) (c:=w) (d:=x) (M:=18446744108069289992) (by omega)
 have B1:=Jgf (a:=x) (b:=y) (c:=w) (d:=z) (M:=18446744108069289992) (by omega)
 have B2:=Jgf (a:=x) (b:=z) (c:=w) (d:=y) (M:=18446744108069289992) (by omega)
 have B4:=Jgq (a:=x) (b:=z) (c:=w) (d:=y) (M:=18446744108069289992) (by omega)
 have B5:=Jgf (a:=y) (b:=z) (c:=w) (d:=x) (M:=18446744108069289992) (by omega)
 have B8:=Jgq (a:=x) (b:=y) (c:=w) (d:=z) (M:=18446744108069289992) (by omega)
 obtain ⟨r0,d0,l0,u0,k0,j0⟩:=Jfc (Jal hy) (Jal hz) hy hz
 obtain ⟨r1,d1,l1,u1,k1,j1⟩:=Jfc (Jal hx) (Jal hw) hy (neg_in hz)
 obtain ⟨r2,d2,l2,u2,k2,j2⟩:=Jfc (Jal hx) (Jal hw) hz hy
 obtain ⟨r3,d3,l3,u3,k3,j3⟩:=Jfc (Jal hx) (Jal hw) hy hz
 obtain ⟨r4,d4,l4,u4,k4,j4⟩:=Jfc (Jal hx) (Jal hz) hx hz
 obtain ⟨r5,d5,l5,u5,k5,j5⟩:=Jfc (Jal hy) (Jal hw) hz (neg_in hx)
 obtain ⟨r6,d6,l6,u6,k6,j6⟩:=Jfc (Jal hx) (Jal hw) hz (neg_in hy)
 obtain ⟨r7,d7,l7,u7,k7,j7⟩:=Jfc (Jal hy) (Jal hw) hz hx
 obtain ⟨r8,d8,l8,u8,k8,j8⟩:=Jfc (Jal hx) (Jal hy) hx hy
 simp only [Int.mul_assoc] at l0 u0 l1 u1 l2 u2 l3 u3 l4 u4 l5 u5 l6 u6 l7 u7 l8 u8
 unfold J5 Jdd Jdn Jdg Jdi Jde Jdl Jdh Jdj Jdk
 simp only [Jk0 hw,Jk0 hx,Jk0 hy,Jk0 hz,sub0 hw,sub0 hx,sub0 hy,sub0 hz,Option.getD_some,Option.isNone_some,d0,d1,d2,d3,d4,d5,d6,d7,d8,Jno ⟨k0,j0⟩,Jno ⟨k4,j4⟩,Jno ⟨k8,j8⟩]
 exact ⟨by simp,Jd7 l0 u0 B0,Jbt l1 u1 B1.2,Jbt l2 u2 B2.1,Jbt l3 u3 B1.1,Jd7 l4 u4 B4,Jbt l5 u5 B5.2,Jbt l6 u6 B2.2,Jbt l7 u7 B5.1,Jd7 l8 u8 B8⟩
end WM
end
section
open Go.RowKit Ref Fx
theorem Jiv (b off:Nat) (f:Bool) (x y:Int) (w:World) (hc:w.cell? ⟨b,off,none⟩ = some (.bool f)) (hf:w.frozen? ⟨b,off,none⟩ = false) :
  Calls Tryz.prog 66 #[.pointer (some ⟨b,off,none⟩),J Jk x,J Jk y] w fun e W'=>∃ v g,e = .returned (J Jk v)/\Hid (Jbi f (mul x y) v g)/\Hid (After ⟨b,off,none⟩ g w W'):=by
 have C:Hid _:=Jjf b off f x y 4294967296 w hc hf
 rw [Jj2] at C
 clear hc hf
 go_enter Tryz.func66,Tryz.ntmps66
 go_wp2_with (fail)
 refine Calls.mono C.out ?_
 rintro e w1 ⟨v,g,rfl,S,A⟩
 go_wp2_with (fail)
 go_ret
 exact ⟨v,g,rfl,S,A⟩
end
section
open Go.RowKit Ref Fx
theorem Jrb (b off:Nat) (f:Bool) (x0 x1 x2 y0 y1 y2:Int) (W:World) (hc:W.cell? ⟨b,off,none⟩ = some (.bool f)) (hf:W.frozen? ⟨b,off,none⟩ = false) :
  Calls Tryz.prog 15 #[.pointer (some ⟨b,off,none⟩),.agg #[J Jk x0,J Jk x1,J Jk x2],.agg #[J Jk y0,J Jk y1,J Jk y2]] W fun e W'=>∃ v0 v1 v2 g,e = .returned (.agg #[J Jk v0,J Jk v1,J Jk v2])/\Hid (Jdc f (sub x0 y0) (sub x1 y1) (sub x2 y2) v0 v1 v2 g)/\Hid (After ⟨b,off,none⟩ g W W'):=by
 have hbW:b < W.heap.size:=World.block_lt_of_cell? _ _ hc
 go_enter Tryz.func15,Tryz.ntmps15
 go_wp2_with (fail)
 refine (Jcn _).mono ?_
 rintro e W1 ⟨rfl,rfl⟩
 obtain ⟨U,hU⟩:∃ U,U = ((((W.alloc (.cells #[J Jk x0,J Jk x1,J Jk x2] 27)).alloc (.cells #[J Jk y0,J Jk y1,J Jk y2] 27)).alloc (.cells #[J Jk 0,J Jk 0,J Jk 0] 27)).alloc (.cells #[.bool false] 53)):=⟨_,rfl⟩
 obtain ⟨pa,hpa⟩:∃ p,p = W.heap.size:=⟨_,rfl⟩
 obtain ⟨pb,hpb⟩:∃ p,p = W.heap.size + 1:=⟨_,rfl⟩
 obtain ⟨pr,hpr⟩:∃ p,p = W.heap.size + 1 + 1:=⟨_,rfl⟩
 obtain ⟨po,hpo⟩:∃ p,p = W.heap.size + 1 + 1 + 1:=⟨_,rfl⟩
 have H:Hid (Ho W U ⟨b,off,none⟩ po f false [(⟨pa,0,none⟩,J Jk x0),(⟨pa,1,none⟩,J Jk x1),(⟨pa,2,none⟩,J Jk x2),(⟨pb,0,none⟩,J Jk y0),(⟨pb,1,none⟩,J Jk y1),(⟨pb,2,none⟩,J Jk y2),(⟨pr,0,none⟩,J Jk 0),(⟨pr,1,none⟩,J Jk 0),(⟨pr,2,none⟩,J Jk 0)]):=by
  refine ⟨by rw [hU];exact (((((Leaves.refl _ _).alloc _).alloc _).alloc _).alloc _),by rw [hU,World.cell?_alloc_past _ _ _ (by simp;omega),World.cell?_alloc_past _ _ _ (by simp;omega),World.cell?_alloc_past _ _ _ (by simp;omega),World.cell?_alloc_past _ _ _ hbW];exact hc,by rw [hU,((Jg _ _).frozen (by simp;omega)),((Jg _ _).frozen (by simp;omega)),((Jg _ _).frozen (by simp;omega)),((Jg _ _).frozen hbW)];exact hf,by rw [hU,hpo];simp [go_sem],by rw [hU,hpo];simp [go_sem],?_,?_,hbW,by omega⟩
  ·intro c hc
   simp only [List.mem_cons,List.not_mem_nil,or_false] at hc
   rcases hc with rfl | rfl | rfl | rfl | rfl | rfl | rfl | rfl | rfl <;> rw [hU] <;> dsimp only <;> first | (rw [hpa];exact ⟨by simp [go_sem],by simp [go_sem]⟩) | (rw [hpb];exact ⟨by simp [go_sem],by simp [go_sem]⟩) | (rw [hpr];exact ⟨by simp [go_sem],by simp [go_sem]⟩)
  ·intro c hc
   simp only [List.mem_cons,List.not_mem_nil,or_false] at hc
   rcases hc with rfl | rfl | rfl | rfl | rfl | rfl | rfl | rfl | rfl <;> (dsimp only) <;> omega
 rw [<- hU]
 simp only [World.size_alloc]
 rw [<- hpo,<- hpr,<- hpb,<- hpa]
 have q1:pa < pb:=by omega
 have q2:pb < pr:=by omega
 have q3:pr < po:=by omega
 have q0:W.heap.size <= pa:=by omega
 clear hU hc hf hpa hpb hpr hpo
 have k_pa_0:=(H.out.fix (⟨pa,0,none⟩,J Jk x0) (by simp)).1
 have k_pa_1:=(H.out.fix (⟨pa,1,none⟩,J Jk x1) (by simp)).1
 have k_pa_2:=(H.out.fix (⟨pa,2,none⟩,J Jk x2) (by simp)).1
 have k_pb_0:=(H.out.fix (⟨pb,0,none⟩,J Jk y0) (by simp)).1
 have k_pb_1:=(H.out.fix (⟨pb,1,none⟩,J Jk y1) (by simp)).1
 have k_pb_2:=(H.out.fix (⟨pb,2,none⟩,J Jk y2) (by simp)).1
 have l_pa:=World.block_lt_of_cell? _ _ k_pa_0
 dsimp only at l_pa
 have l_pb:=World.block_lt_of_cell? _ _ k_pb_0
 dsimp only at l_pb
 have ho:=H.out.own
 have hof:=H.out.ownf
 go_wp2_with (fail)
 refine (Jcq po 0 false x0 y0 _ ho hof).mono ?_
 rintro e Wg1 ⟨v0,g1,rfl,Sg1,A⟩
 have H:Hid _:=H.out.after A.out
 clear A k_pa_0 k_pa_1 k_pa_2 k_pb_0 k_pb_1 k_pb_2 l_pa l_pb ho hof
 have k_pa_0:=(H.out.fix (⟨pa,0,none⟩,J Jk x0) (by simp)).1
 have k_pa_1:=(H.out.fix (⟨pa,1,none⟩,J Jk x1) (by simp)).1
 have k_pa_2:=(H.out.fix (⟨pa,2,none⟩,J Jk x2) (by simp)).1
 have k_pb_0:=(H.out.fix (⟨pb,0,none⟩,J Jk y0) (by simp)).1
 have k_pb_1:=(H.out.fix (⟨pb,1,none⟩,J Jk y1) (by simp)).1
 have k_pb_2:=(H.out.fix (⟨pb,2,none⟩,J Jk y2) (by simp)).1
 have l_pa:=World.block_lt_of_cell? _ _ k_pa_0
 dsimp only at l_pa
 have l_pb:=World.block_lt_of_cell? _ _ k_pb_0
 dsimp only at l_pb
 have ho:=H.out.own
 have hof:=H.out.ownf
 go_wp2_with (fail)
 refine (Jcq po 0 g1 x1 y1 _ ho hof).mono ?_
 rintro e Wg2 ⟨v1,g2,rfl,Sg2,A⟩
 have H:Hid _:=H.out.after A.out
 clear A k_pa_0 k_pa_1 k_pa_2 k_pb_0 k_pb_1 k_pb_2 l_pa l_pb ho hof
 have k_pa_0:=(H.out.fix (⟨pa,0,none⟩,J Jk x0) (by simp)).1
 have k_pa_1:=(H.out.fix (⟨pa,1,none⟩,J Jk x1) (by simp)).1
 have k_pa_2:=(H.out.fix (⟨pa,2,none⟩,J Jk x2) (by simp)).1
 have k_pb_0:=(H.out.fix (⟨pb,0,none⟩,J Jk y0) (by simp)).1
 have k_pb_1:=(H.out.fix (⟨pb,1,none⟩,J Jk y1) (by simp)).1
 have k_pb_2:=(H.out.fix (⟨pb,2,none⟩,J Jk y2) (by simp)).1
 have l_pa:=World.block_lt_of_cell? _ _ k_pa_0
 dsimp only at l_pa
 have l_pb:=World.block_lt_of_cell? _ _ k_pb_0
 dsimp only at l_pb
 have ho:=H.out.own
 have hof:=H.out.ownf
 go_wp2_with (fail)
 refine (Jcq po 0 g2 x2 y2 _ ho hof).mono ?_
 rintro e Wg3 ⟨v2,g3,rfl,Sg3,A⟩
 have H:Hid _:=H.out.after A.out
 clear A k_pa_0 k_pa_1 k_pa_2 k_pb_0 k_pb_1 k_pb_2 l_pa l_pb ho hof
 go_wp2_with (fail)
 refine (Jd2 b off po f g3 _ H.out.flag H.out.flagf H.out.own (by omega)).mono ?_
 rintro e V9 ⟨rfl,A⟩
 have rr0:=A.out.cellOf (H.out.fix (⟨pr,0,none⟩,J Jk 0) (by simp)).1 (by show pr ≠ b;omega)
 have rf0:=A.out.frozenOf (H.out.fix (⟨pr,0,none⟩,J Jk 0) (by simp)).1 (H.out.fix (⟨pr,0,none⟩,J Jk 0) (by simp)).2 (by show pr ≠ b;omega)
 have rr1:=A.out.cellOf (H.out.fix (⟨pr,1,none⟩,J Jk 0) (by simp)).1 (by show pr ≠ b;omega)
 have rf1:=A.out.frozenOf (H.out.fix (⟨pr,1,none⟩,J Jk 0) (by simp)).1 (H.out.fix (⟨pr,1,none⟩,J Jk 0) (by simp)).2 (by show pr ≠ b;omega)
 have rr2:=A.out.cellOf (H.out.fix (⟨pr,2,none⟩,J Jk 0) (by simp)).1 (by show pr ≠ b;omega)
 have rf2:=A.out.frozenOf (H.out.fix (⟨pr,2,none⟩,J Jk 0) (by simp)).1 (H.out.fix (⟨pr,2,none⟩,J Jk 0) (by simp)).2 (by show pr ≠ b;omega)
 have HL:Hid (Leaves ⟨b,off,none⟩ W V9):=H.out.leaves.same A.out
 have hp:=A.out.cell
 have hpf:=A.out.frozen
 have n1:b ≠ pr:=by omega
 have n2:pr ≠ b:=by omega
 have hWr:W.heap.size <= pr:=by omega
 have HS:Hid _:=Jfq (f:=f) Sg1.out Sg2.out Sg3.out
 clear A H
 cases g3 with
 | true =>
  go_wp2_with (fail)
  refine bodyPost_ret (by simp [results,Tryz.results15,go_sem,rr0,rr1,rr2];try rfl) rfl ?_
  refine ⟨0,0,0,_,rfl,HS.out,(((HL.out.set hWr _).set hWr _).set hWr _).done ?_ ?_⟩
  ·simp [go_sem,hp]
  ·simp [go_sem,hpf]
 | false =>
  go_wp2_with (fail)
  refine bodyPost_ret (by simp [results,Tryz.results15,go_sem,rr0,rr1,rr2];try rfl) rfl ?_
  refine ⟨_,_,_,_,rfl,HS.out,(((HL.out.set hWr _).set hWr _).set hWr _).done ?_ ?_⟩
  ·simp [go_sem,hp]
  ·simp [go_sem,hpf]
theorem Jmi (b off:Nat) (f:Bool) (x0 x1 x2 n:Int) (W:World) (hc:W.cell? ⟨b,off,none⟩ = some (.bool f)) (hf:W.frozen? ⟨b,off,none⟩ = false) :
  Calls Tryz.prog 24 #[.pointer (some ⟨b,off,none⟩),.agg #[J Jk x0,J Jk x1,J Jk x2],J Jk n] W fun e W'=>∃ v0 v1 v2 g,e = .returned (.agg #[J Jk v0,J Jk v1,J Jk v2])/\Hid (Jdc f (mul x0 n) (mul x1 n) (mul x2 n) v0 v1 v2 g)/\Hid (After ⟨b,off,none⟩ g W W'):=by
 have hbW:b < W.heap.size:=World.block_lt_of_cell? _ _ hc
 go_enter Tryz.func24,Tryz.ntmps24
 go_wp2_with (fail)
 refine (Jcn _).mono ?_
 rintro e W1 ⟨rfl,rfl⟩
 obtain ⟨U,hU⟩:∃ U,U = (((W.alloc (.cells #[J Jk x0,J Jk x1,J Jk x2] 27)).alloc (.cells #[J Jk 0,J Jk 0,J Jk 0] 27)).alloc (.cells #[.bool false] 53)):=⟨_,rfl⟩
 obtain ⟨pa,hpa⟩:∃ p,p = W.heap.size:=⟨_,rfl⟩
 obtain ⟨pr,hpr⟩:∃ p,p = W.heap.size + 1:=⟨_,rfl⟩
 obtain ⟨po,hpo⟩:∃ p,p = W.heap.size + 1 + 1:=⟨_,rfl⟩
 have H:Hid (Ho W U ⟨b,off,none⟩ po f false [(⟨pa,0,none⟩,J Jk x0),(⟨pa,1,none⟩,J Jk x1),(⟨pa,2,none⟩,J Jk x2),(⟨pr,0,none⟩,J Jk 0),(⟨pr,1,none⟩,J Jk 0),(⟨pr,2,none⟩,J Jk 0)]):=by
  refine ⟨by rw [hU];exact ((((Leaves.refl _ _).alloc _).alloc _).alloc _),by rw [hU,World.cell?_alloc_past _ _ _ (by simp;omega),World.cell?_alloc_past _ _ _ (by simp;omega),World.cell?_alloc_past _ _ _ hbW];exact hc,by rw [hU,((Jg _ _).frozen (by simp;omega)),((Jg _ _).frozen (by simp;omega)),((Jg _ _).frozen hbW)];exact hf,by rw [hU,hpo];simp [go_sem],by rw [hU,hpo];simp [go_sem],?_,?_,hbW,by omega⟩
  ·intro c hc
   simp only [List.mem_cons,List.not_mem_nil,or_false] at hc
   rcases hc with rfl | rfl | rfl | rfl | rfl | rfl <;> rw [hU] <;> dsimp only <;> first | (rw [hpa];exact ⟨by simp [go_sem],by simp [go_sem]⟩) | (rw [hpr];exact ⟨by simp [go_sem],by simp [go_sem]⟩)
  ·intro c hc
   simp only [List.mem_cons,List.not_mem_nil,or_false] at hc
   rcases hc with rfl | rfl | rfl | rfl | rfl | rfl <;> (dsimp only) <;> omega
 rw [<- hU]
 simp only [World.size_alloc]
 rw [<- hpo,<- hpr,<- hpa]
 have q1:pa < pr:=by omega
 have q2:pr < po:=by omega
 have q0:W.heap.size <= pa:=by omega
 clear hU hc hf hpa hpr hpo
 have k_pa_0:=(H.out.fix (⟨pa,0,none⟩,J Jk x0) (by simp)).1
 have k_pa_1:=(H.out.fix (⟨pa,1,none⟩,J Jk x1) (by simp)).1
 have k_pa_2:=(H.out.fix (⟨pa,2,none⟩,J Jk x2) (by simp)).1
 have l_pa:=World.block_lt_of_cell? _ _ k_pa_0
 dsimp only at l_pa
 have ho:=H.out.own
 have hof:=H.out.ownf
 go_wp2_with (fail)
 refine (Jiv po 0 false x0 n _ ho hof).mono ?_
 rintro e Wg1 ⟨v0,g1,rfl,Sg1,A⟩
 have H:Hid _:=H.out.after A.out
 clear A k_pa_0 k_pa_1 k_pa_2 l_pa ho hof
 have k_pa_0:=(H.out.fix (⟨pa,0,none⟩,J Jk x0) (by simp)).1
 have k_pa_1:=(H.out.fix (⟨pa,1,none⟩,J Jk x1) (by simp)).1
 have k_pa_2:=(H.out.fix (⟨pa,2,none⟩,J Jk x2) (by simp)).1
 have l_pa:=World.block_lt_of_cell? _ _ k_pa_0
 dsimp only at l_pa
 have ho:=H.out.own
 have hof:=H.out.ownf
 go_wp2_with (fail)
 refine (Jiv po 0 g1 x1 n _ ho hof).mono ?_
 rintro e Wg2 ⟨v1,g2,rfl,Sg2,A⟩
 have H:Hid _:=H.out.after A.out
 clear A k_pa_0 k_pa_1 k_pa_2 l_pa ho hof
 have k_pa_0:=(H.out.fix (⟨pa,0,none⟩,J Jk x0) (by simp)).1
 have k_pa_1:=(H.out.fix (⟨pa,1,none⟩,J Jk x1) (by simp)).1
 have k_pa_2:=(H.out.fix (⟨pa,2,none⟩,J Jk x2) (by simp)).1
 have l_pa:=World.block_lt_of_cell? _ _ k_pa_0
 dsimp only at l_pa
 have ho:=H.out.own
 have hof:=H.out.ownf
 go_wp2_with (fail)
 refine (Jiv po 0 g2 x2 n _ ho hof).mono ?_
 rintro e Wg3 ⟨v2,g3,rfl,Sg3,A⟩
 have H:Hid _:=H.out.after A.out
 clear A k_pa_0 k_pa_1 k_pa_2 l_pa ho hof
 go_wp2_with (fail)
 refine (Jd2 b off po f g3 _ H.out.flag H.out.flagf H.out.own (by omega)).mono ?_
 rintro e V9 ⟨rfl,A⟩
 have rr0:=A.out.cellOf (H.out.fix (⟨pr,0,none⟩,J Jk 0) (by simp)).1 (by show pr ≠ b;omega)
 have rf0:=A.out.frozenOf (H.out.fix (⟨pr,0,none⟩,J Jk 0) (by simp)).1 (H.out.fix (⟨pr,0,none⟩,J Jk 0) (by simp)).2 (by show pr ≠ b;omega)
 have rr1:=A.out.cellOf (H.out.fix (⟨pr,1,none⟩,J Jk 0) (by simp)).1 (by show pr ≠ b;omega)
 have rf1:=A.out.frozenOf (H.out.fix (⟨pr,1,none⟩,J Jk 0) (by simp)).1 (H.out.fix (⟨pr,1,none⟩,J Jk 0) (by simp)).2 (by show pr ≠ b;omega)
 have rr2:=A.out.cellOf (H.out.fix (⟨pr,2,none⟩,J Jk 0) (by simp)).1 (by show pr ≠ b;omega)
 have rf2:=A.out.frozenOf (H.out.fix (⟨pr,2,none⟩,J Jk 0) (by simp)).1 (H.out.fix (⟨pr,2,none⟩,J Jk 0) (by simp)).2 (by show pr ≠ b;omega)
 have HL:Hid (Leaves ⟨b,off,none⟩ W V9):=H.out.leaves.same A.out
 have hp:=A.out.cell
 have hpf:=A.out.frozen
 have n1:b ≠ pr:=by omega
 have n2:pr ≠ b:=by omega
 have hWr:W.heap.size <= pr:=by omega
 have HS:Hid _:=Jfq (f:=f) Sg1.out Sg2.out Sg3.out
 clear A H
 cases g3 with
 | true =>
  go_wp2_with (fail)
  refine bodyPost_ret (by simp [results,Tryz.results24,go_sem,rr0,rr1,rr2];try rfl) rfl ?_
  refine ⟨0,0,0,_,rfl,HS.out,(((HL.out.set hWr _).set hWr _).set hWr _).done ?_ ?_⟩
  ·simp [go_sem,hp]
  ·simp [go_sem,hpf]
 | false =>
  go_wp2_with (fail)
  refine bodyPost_ret (by simp [results,Tryz.results24,go_sem,rr0,rr1,rr2];try rfl) rfl ?_
  refine ⟨_,_,_,_,rfl,HS.out,(((HL.out.set hWr _).set hWr _).set hWr _).done ?_ ?_⟩
  ·simp [go_sem,hp]
  ·simp [go_sem,hpf]
end
section
open Go.RowKit Fx
def Jqy (a b:V3):V3:=t3 (sub a.x b.x) (sub a.y b.y) (sub a.z b.z)
def Ju5 (a b:V3):Bool:=b3 (sub a.x b.x) (sub a.y b.y) (sub a.z b.z)
end
section
open Go.RowKit Go.Shelf Fx
theorem Rs.set (r:Rs) (pv u:Value):(r.l pv).set 5 u = r.l u:=rfl
end
section
open Go.RowKit Fx Ref
theorem Jvh (b off:Nat) (f:Bool) (x y:V3) (W:World) (hc:W.cell? ⟨b,off,none⟩ = some (.bool f)) (hf:W.frozen? ⟨b,off,none⟩ = false) :
  Calls Tryz.prog 15 #[.pointer (some ⟨b,off,none⟩),x.val,y.val] W fun e W'=>e = .returned (Jqy x y).val/\Hid (After ⟨b,off,none⟩ (f || Ju5 x y) W W'):=by
 refine Calls.mono (Jrb b off f x.x x.y x.z y.x y.y y.z W hc hf) ?_
 rintro e W' ⟨v0,v1,v2,g,rfl,SS,A⟩
 obtain ⟨rfl,rfl,rfl,rfl⟩:=Jg2 SS.out
 exact ⟨rfl,A⟩
theorem Jvg (b off:Nat) (f:Bool) (x:V3) (n:Int) (W:World) (hc:W.cell? ⟨b,off,none⟩ = some (.bool f)) (hf:W.frozen? ⟨b,off,none⟩ = false) :
  Calls Tryz.prog 24 #[.pointer (some ⟨b,off,none⟩),x.val,J Jk n] W fun e W'=>e = .returned (Jbz x n).val/\Hid (After ⟨b,off,none⟩ (f || Jfh x n) W W'):=by
 refine Calls.mono (Jmi b off f x.x x.y x.z n W hc hf) ?_
 rintro e W' ⟨v0,v1,v2,g,rfl,SS,A⟩
 obtain ⟨rfl,rfl,rfl,rfl⟩:=Jg2 SS.out
 exact ⟨rfl,A⟩
end
section
open Fx
theorem Jmc {a:V3} {C D:Int} (h:isV a C) (hd:C <= D):isV a D:=by unfold isV at *;omega
theorem Jgh {x y:Int} (hx:-1152921504606846976 <= x/\x <= 1152921504606846976) (hy:-1152921504606846976 <= y/\y <= 1152921504606846976):add x y = some (x + y):=by
 unfold add told great
 rw [if_neg (by simp;omega),if_neg (by simp;omega)]
theorem Jb6 {a b:V3} (ha:isV a 1152921504606846976) (hb:isV b 1152921504606846976):Jck a b = false/\Jah a b = ⟨a.x + b.x,a.y + b.y,a.z + b.z⟩:=by
 unfold Jck Jah
 rw [Jgh ha.1 hb.1,Jgh ha.2.1 hb.2.1,Jgh ha.2.2 hb.2.2]
 exact ⟨rfl,rfl⟩
theorem Jo5 {X C:Int} (h:-(C * 4294967296) <= X/\X <= C * 4294967296):-C <= X / 4294967296/\X / 4294967296 <= C:=by omega
theorem Jk8 {x y C:Int} (hx:-4611686018427387903 <= x/\x <= 4611686018427387903) (hy:-4611686018427387903 <= y/\y <= 4611686018427387903) (h:-(C * 4294967296) <= x * y/\x * y <= C * 4294967296) (hC:C <= 4611686018427387903):mul x y = some (x * y / 4294967296)/\(-C <= x * y / 4294967296/\x * y / 4294967296 <= C):=by
 have hf:=Jo5 h
 refine ⟨?_,hf⟩
 unfold mul told great
 rw [if_neg (by simp;omega),if_neg (by simp;omega)]
theorem Jhk {a b A B:Int} (ha:-A <= a/\a <= A) (hb:-B <= b/\b <= B):-(A * B) <= a * b/\a * b <= A * B:=by
 have h1:=Int.mul_nonneg (a:=A - a) (b:=B - b) (by omega) (by omega)
 have h2:=Int.mul_nonneg (a:=A - a) (b:=B + b) (by omega) (by omega)
 have h3:=Int.mul_nonneg (a:=A + a) (b:=B - b) (by omega) (by omega)
 have h4:=Int.mul_nonneg (a:=A + a) (b:=B + b) (by omega) (by omega)
 simp only [Int.sub_mul,Int.mul_sub,Int.add_mul,Int.mul_add] at h1 h2 h3 h4
 omega
theorem Jh9 {a:V3} {n A N C:Int} (ha:isV a A) (hn:-N <= n/\n <= N) (hA:A <= 4611686018427387903) (hN:N <= 4611686018427387903) (h:A * N <= C * 4294967296) (hC:C <= 4611686018427387903):Jfh a n = false/\isV (Jbz a n) C:=by
 have key:∀ x:Int,-A <= x/\x <= A->mul x n = some (x * n / 4294967296)/\(-C <= x * n / 4294967296/\x * n / 4294967296 <= C):=fun x hx=>by
  have:=Jhk hx hn
  exact Jk8 (by omega) (by omega) (by omega) hC
 obtain ⟨e1,b1⟩:=key _ ha.1
 obtain ⟨e2,b2⟩:=key _ ha.2.1
 obtain ⟨e3,b3_⟩:=key _ ha.2.2
 unfold Jfh Jbz
 rw [e1,e2,e3]
 exact ⟨rfl,b1,b2,b3_⟩
end
section
open Fx
def Mt.Fit (m:Mt):Prop:=isV m.a 8589934592/\isV m.b 8589934592/\isV m.c 8589934592
theorem Jkx {q:V4} (h:WM.Whole q.w q.x q.y q.z):Jhp q = false/\(Jo q).Fit/\(Jo q).t.Fit:=by
 obtain ⟨hw,hx,hy,hz,hN1,hN2⟩:=id h
 obtain ⟨hbad,n0,n1,n2,n3,n4,n5,n6,n7,n8⟩:=WM.rows_near hw hx hy hz hN2
 refine ⟨hbad,?_⟩
 unfold Jo Mt.t Mt.Fit isV
 rw [hbad]
 exact ⟨⟨⟨n0.2.2,n1.2.2,n2.2.2⟩,⟨n3.2.2,n4.2.2,n5.2.2⟩,⟨n6.2.2,n7.2.2,n8.2.2⟩⟩,⟨⟨n0.2.2,n3.2.2,n6.2.2⟩,⟨n1.2.2,n4.2.2,n7.2.2⟩,⟨n2.2.2,n5.2.2,n8.2.2⟩⟩⟩
theorem Jex {a x:V3} {B:Int} (ha:isV a 8589934592) (hx:isV x B) (hB:6 * B <= 4611686018427387903) (h0:0 <= B) :
  ∃ r:Int,dot [a.x,a.y,a.z] [x.x,x.y,x.z] = some r/\(-(6 * B) <= r/\r <= 6 * B):=by
 have j0:=WM.mul_in ha.1 hx.1
 have j1:=WM.mul_in ha.2.1 hx.2.1
 have j2:=WM.mul_in ha.2.2 hx.2.2
 obtain ⟨k0,k1,k2⟩:=hx
 obtain ⟨h0,h1,h2⟩:=ha
 have e:Jaa [a.x,a.y,a.z] [x.x,x.y,x.z] / 4294967296 = (a.x * x.x + (a.y * x.y + a.z * x.z)) / 4294967296:=by simp only [Jaa,Int.add_zero]
 have g1:[a.x,a.y,a.z].any great = false:=by simp [(not_great a.x).2 (by omega),(not_great a.y).2 (by omega),(not_great a.z).2 (by omega)]
 have g2:[x.x,x.y,x.z].any great = false:=by simp [(not_great x.x).2 (by omega),(not_great x.y).2 (by omega),(not_great x.z).2 (by omega)]
 have hX:-(25769803776 * B) <= a.x * x.x + (a.y * x.y + a.z * x.z)/\a.x * x.x + (a.y * x.y + a.z * x.z) <= 25769803776 * B:=by omega
 generalize a.x * x.x + (a.y * x.y + a.z * x.z) = X at *
 refine ⟨X / 4294967296,?_,by omega⟩
 have g3:great (X / 4294967296) = false:=(not_great _).2 (by omega)
 unfold dot
 rw [if_neg (by simp),if_neg (by simp),g1,g2,e]
 simp [Fx.told,g3]
theorem Jif {m:Mt} {x:V3} {B:Int} (hm:m.Fit) (hx:isV x B) (hB:6 * B <= 4611686018427387903) (h0:0 <= B):Jdm m x = false/\isV (Jax m x) (6 * B):=by
 obtain ⟨r0,e0,b0⟩:=Jex hm.1 hx hB h0
 obtain ⟨r1,e1,b1⟩:=Jex hm.2.1 hx hB h0
 obtain ⟨r2,e2,b2⟩:=Jex hm.2.2 hx hB h0
 unfold Jdm Jax
 rw [e0,e1,e2]
 exact ⟨rfl,b0,b1,b2⟩
theorem Jgj {x n A N C:Int} (hx:-A <= x/\x <= A) (hn:N <= n/\n <= 4611686018427387903) (hN:0 < N) (hA:A <= 4611686018427387903) (h0:0 <= C) (h:A * 4294967296 <= C * N) (hC:C <= 4611686018427387903) :
  Jb7 x n = false/\(-C <= dv1 x n/\dv1 x n <= C):=by
 have hCn:C * N <= C * n:=Int.mul_le_mul_of_nonneg_left hn.1 h0
 have b1:x * 4294967296 / n <= C:=by
  have:=Int.ediv_le_ediv (by omega:0 < n) (by omega:x * 4294967296 <= C * n)
  rwa [Int.mul_ediv_cancel _ (by omega)] at this
 have b2:-C <= x * 4294967296 / n:=by
  have:=Int.ediv_le_ediv (by omega:0 < n) (by rw [Int.neg_mul];omega:-C * n <= x * 4294967296)
  rwa [Int.mul_ediv_cancel _ (by omega)] at this
 have g1:great x = false:=(not_great x).2 (by omega)
 have g2:great n = false:=(not_great n).2 (by omega)
 have g3:great (x * 4294967296 / n) = false:=(not_great _).2 (by omega)
 have e:Jx x 4294967296 n = some (x * 4294967296 / n):=by
  unfold Jx fl told
  rw [if_neg (show ¬ n = 0 by omega),g1,g2,if_neg (by simp [great])]
  simp only [if_neg (show ¬ n < 0 by omega),g3]
  rfl
 unfold Jb7 dv1
 rw [e]
 exact ⟨rfl,b2,b1⟩
theorem Jc9 {a i:V3} {A N C:Int} (ha:isV a A) (hi:(N <= i.x/\i.x <= 4611686018427387903)/\(N <= i.y/\i.y <= 4611686018427387903)/\(N <= i.z/\i.z <= 4611686018427387903)) (hN:0 < N) (hA:A <= 4611686018427387903) (h0:0 <= C) (h:A * 4294967296 <= C * N) (hC:C <= 4611686018427387903):Jg4 a i = false/\isV (Jjo a i) C:=by
 obtain ⟨e1,b1⟩:=Jgj ha.1 hi.1 hN hA h0 h hC
 obtain ⟨e2,b2⟩:=Jgj ha.2.1 hi.2.1 hN hA h0 h hC
 obtain ⟨e3,b3_⟩:=Jgj ha.2.2 hi.2.2 hN hA h0 h hC
 unfold Jg4 Jjo
 rw [e1,e2,e3]
 exact ⟨rfl,b1,b2,b3_⟩
def Jkp (i:V3):Prop:=(4096 <= i.x/\i.x <= 4611686018427387903)/\(4096 <= i.y/\i.y <= 4611686018427387903)/\(4096 <= i.z/\i.z <= 4611686018427387903)
theorem Jkz {b:Bd} {p:V3} (hm:16777216 <= b.m/\b.m <= 1099511627776) (hp:isV p 1099511627776):Jdy (b.wp p) = false/\isV (Jbj (b.wp p)) 281474976710656:=
 Jc9 (N:=16777216) hp ⟨⟨hm.1,Int.le_trans hm.2 (by decide)⟩,⟨hm.1,Int.le_trans hm.2 (by decide)⟩,⟨hm.1,Int.le_trans hm.2 (by decide)⟩⟩ (by decide) (by decide) (by decide) (by decide) (by decide)
theorem Jni {b:Bd} {l:V3} (hq:WM.Whole b.q.w b.q.x b.q.y b.q.z) (hi:Jkp b.i) (hl:isV l 68719476736):Jd4 b l = false/\isV (Jau b l) 2594073385365405696:=by
 obtain ⟨r,f1,f2⟩:=Jkx hq
 obtain ⟨t1,t2⟩:=Jif f2 hl (by decide) (by decide)
 obtain ⟨d1,d2⟩:=Jc9 (N:=4096) (C:=432345564227567616) t2 hi (by decide) (by decide) (by decide) (by decide) (by decide)
 obtain ⟨u1,u2⟩:=Jif f1 d2 (by decide) (by decide)
 refine ⟨?_,u2⟩
 unfold Jd4
 rw [r,t1,d1]
 exact u1
theorem Jh6 {p0 p1 p2 p3 y0 y1 y2 y3:Int} (h0:-36028797018963968 <= p0/\p0 <= 36028797018963968) (h1:-36028797018963968 <= p1/\p1 <= 36028797018963968) (h2:-36028797018963968 <= p2/\p2 <= 36028797018963968) (h3:-36028797018963968 <= p3/\p3 <= 36028797018963968)
  (k0:-4294967296 <= y0/\y0 <= 4294967296) (k1:-4294967296 <= y1/\y1 <= 4294967296) (k2:-4294967296 <= y2/\y2 <= 4294967296) (k3:-4294967296 <= y3/\y3 <= 4294967296) :
  ∃ r t X:Int,X = p0 * y0 + (p1 * y1 + (p2 * y2 + p3 * y3))/\dot [p0,p1,p2,p3] [y0,y1,y2,y3] = some t/\X = 4294967296 * t + r/\(0 <= r/\r < 4294967296)/\(-144115188075855872 <= t/\t <= 144115188075855872):=by
 have j0:=WM.mul_in h0 k0
 have j1:=WM.mul_in h1 k1
 have j2:=WM.mul_in h2 k2
 have j3:=WM.mul_in h3 k3
 have e:Jaa [p0,p1,p2,p3] [y0,y1,y2,y3] / 4294967296 = (p0 * y0 + (p1 * y1 + (p2 * y2 + p3 * y3))) / 4294967296:=by simp only [Jaa,Int.add_zero]
 have g1:[p0,p1,p2,p3].any great = false:=by simp [(not_great p0).2 (by omega),(not_great p1).2 (by omega),(not_great p2).2 (by omega),(not_great p3).2 (by omega)]
 have g2:[y0,y1,y2,y3].any great = false:=by simp [(not_great y0).2 (by omega),(not_great y1).2 (by omega),(not_great y2).2 (by omega),(not_great y3).2 (by omega)]
 have hX:-618970019642690137449562112 <= p0 * y0 + (p1 * y1 + (p2 * y2 + p3 * y3))/\p0 * y0 + (p1 * y1 + (p2 * y2 + p3 * y3)) <= 618970019642690137449562112:=by omega
 generalize p0 * y0 + (p1 * y1 + (p2 * y2 + p3 * y3)) = X at *
 refine ⟨X % 4294967296,X / 4294967296,X,rfl,?_,by omega,by omega,by omega⟩
 have g3:great (X / 4294967296) = false:=(not_great _).2 (by omega)
 unfold dot
 rw [if_neg (by simp),if_neg (by simp),g1,g2,e]
 simp [Fx.told,g3]
theorem Juh (o a b c w x y z:Int):(o * w + (a * -x + (b * -y + c * -z))) * (o * w + (a * -x + (b * -y + c * -z))) + ((o * x + (a * w + (b * z + c * -y))) * (o * x + (a * w + (b * z + c * -y))) + ((o * y + (a * -z + (b * w + c * x))) * (o * y + (a * -z + (b * w + c * x))) + (o * z + (a * y + (b * -x + c * w))) * (o * z + (a * y + (b * -x + c * w))))) = (o * o + (a * a + (b * b + c * c))) * (w * w + (x * x + (y * y + z * z))):=by grind
theorem Jpk {X t r:Int} (hX:X = 4294967296 * t + r) (hr:0 <= r/\r < 4294967296) (ht:-2147483648 <= t/\t <= 2147483648):X * X <= 18446744073709551616 * (t * t) + 79228162532711081671548469248:=by
 have h1:=WM.mul_in ht (b:=r) (B:=4294967296) (by omega)
 have h2:=WM.mul_in (a:=r) (b:=r) (A:=4294967296) (B:=4294967296) (by omega) (by omega)
 have e:X * X = 18446744073709551616 * (t * t) + 8589934592 * (t * r) + r * r:=by rw [hX];grind
 omega
theorem Js0 {x y z u:Int} (hx:-144115188075855872 <= x/\x <= 144115188075855872) (hy:-144115188075855872 <= y/\y <= 144115188075855872) (hz:-144115188075855872 <= z/\z <= 144115188075855872) (hu:-144115188075855872 <= u/\u <= 144115188075855872):∃ n,Jak [x,y,z,u] = some n:=by
 have q1:=WM.mul_in hx hx
 have q2:=WM.mul_in hy hy
 have q3:=WM.mul_in hz hz
 have q4:=WM.mul_in hu hu
 have p1:=Jz x
 have p2:=Jz y
 have p3:=Jz z
 have p4:=Jz u
 have g:[x,y,z,u].any great = false:=by simp [(not_great x).2 (by omega),(not_great y).2 (by omega),(not_great z).2 (by omega),(not_great u).2 (by omega)]
 have e:Jaa [x,y,z,u] [x,y,z,u] = x * x + (y * y + (z * z + u * u)):=by simp only [Jaa,Int.add_zero]
 unfold Jak
 rw [if_neg (by simp),g,e]
 have hX:0 <= x * x + (y * y + (z * z + u * u))/\x * x + (y * y + (z * z + u * u)) <= 83076749736557242056487941267521536:=by omega
 generalize x * x + (y * y + (z * z + u * u)) = X at hX ⊢
 obtain ⟨n,rfl⟩:=Int.eq_ofNat_of_zero_le hX.1
 rw [Int.toNat_natCast]
 obtain ⟨i1,_⟩:=isq_is n
 have:isq n <= 4611686018427387903:=by
  refine Nat.le_of_lt_succ (Nat.lt_of_not_le fun hn=>?_)
  have:=Nat.mul_le_mul hn hn
  omega
 unfold told
 rw [(not_great _).2 (by omega)]
 exact ⟨_,rfl⟩
theorem Joc {q:V4} {h:V3} (hq:WM.Whole q.w q.x q.y q.z) (hh:isV h 36028797018963968):Jk1 q h = false/\WM.Whole (Jcj q h).w (Jcj q h).x (Jcj q h).y (Jcj q h).z:=by
 obtain ⟨w,x,y,z⟩:=q
 obtain ⟨a,b,c⟩:=h
 obtain ⟨hw,hx,hy,hz,hN1,hN2⟩:=hq
 obtain ⟨ha,hb,hc⟩:=hh
 dsimp only at *
 have hp:(-36028797018963968:Int) <= 4294967296/\(4294967296:Int) <= 36028797018963968:=by decide
 obtain ⟨r0,t0,X0,E0,d0,f0,u0,v0⟩:=Jh6 hp ha hb hc hw (WM.neg_in hx) (WM.neg_in hy) (WM.neg_in hz)
 obtain ⟨r1,t1,X1,E1,d1,f1,u1,v1⟩:=Jh6 hp ha hb hc hx hw hz (WM.neg_in hy)
 obtain ⟨r2,t2,X2,E2,d2,f2,u2,v2⟩:=Jh6 hp ha hb hc hy (WM.neg_in hz) hw hx
 obtain ⟨r3,t3,X3,E3,d3,f3,u3,v3⟩:=Jh6 hp ha hb hc hz hy (WM.neg_in hx) hw
 have id4:=Juh 4294967296 a b c w x y z
 rw [<- E0,<- E1,<- E2,<- E3] at id4
 have hb0:Jn 4294967296 a b c w x y z = false:=by
  unfold Jn
  simp only [WM.sub0 hx,WM.sub0 hy,WM.sub0 hz,Option.getD_some,d0,d1,d2,d3]
  rfl
 have a0:Jbf 4294967296 a b c w x y z = t0:=by unfold Jbf;simp only [WM.sub0 hx,WM.sub0 hy,WM.sub0 hz,Option.getD_some,d0]
 have a1:Jbc 4294967296 a b c w x y z = t1:=by unfold Jbc;simp only [WM.sub0 hy,Option.getD_some,d1]
 have a2:Jbe 4294967296 a b c w x y z = t2:=by unfold Jbe;simp only [WM.sub0 hz,Option.getD_some,d2]
 have a3:Jbb 4294967296 a b c w x y z = t3:=by unfold Jbb;simp only [WM.sub0 hx,Option.getD_some,d3]
 obtain ⟨n,hn⟩:=Js0 v0 v1 v2 v3
 obtain ⟨_,_,_,_,_,n0,n1,n2⟩:=WM.norm4_some hn
 have big:2147483648 <= n:=by
  refine Int.not_lt.1 fun hlt=>?_
  have m1:=(WM.mul_in (a:=n + 1) (b:=n + 1) (A:=2147483648) (B:=2147483648) (by omega) (by omega)).2
  have p0:=Jz t0
  have p1:=Jz t1
  have p2:=Jz t2
  have p3:=Jz t3
  have ss:∀ t:Int,t * t <= 4611686018427387904->-2147483648 <= t/\t <= 2147483648:=fun t h=>by
   have:=Jeq (x:=t) (n:=2147483648) (R:=0) (by decide) (by decide) (by omega)
   exact this
  have s0:=Jpk f0 u0 (ss t0 (by omega))
  have s1:=Jpk f1 u1 (ss t1 (by omega))
  have s2:=Jpk f2 u2 (ss t2 (by omega))
  have s3:=Jpk f3 u3 (ss t3 (by omega))
  have qa:=Jz a
  have qb:=Jz b
  have qc:=Jz c
  have hQ:18446744039349813240 <= w * w + (x * x + (y * y + z * z)):=by omega
  have lo:18446744073709551616 * 18446744039349813240 <= (4294967296 * 4294967296 + (a * a + (b * b + c * c))) * (w * w + (x * x + (y * y + z * z))):=
   Int.mul_le_mul (by omega) hQ (by decide) (by omega)
  rw [<- id4] at lo
  omega
 obtain ⟨A,B,C,D,l,e0,e1,e2,e3,_,_,_,w1,w2,w3,w4,w5,w6⟩:=WM.whole_long hn big
 have hwb:Jy t0 t1 t2 t3 = false:=by
  unfold Jy
  rw [hn]
  simp only [Option.getD_some,e0,e1,e2,e3]
  rw [decide_eq_false (by omega)]
  rfl
 unfold Jk1 Jcj Jeb Jh3 Jia Jh7 Jh4
 dsimp only
 rw [hb0,a0,a1,a2,a3]
 dsimp only [cond]
 rw [hwb,hn]
 dsimp only [cond,Option.getD]
 rw [e0,e1,e2,e3]
 exact ⟨rfl,w1,w2,w3,w4,w5,w6⟩
theorem Jhm {s:Sh} (h:Jaq s = 0):(0 <= (Ja7 (Jcb s) s.radius).x/\(Ja7 (Jcb s) s.radius).x <= 137438953472)/\(0 <= (Ja7 (Jcb s) s.radius).y/\(Ja7 (Jcb s) s.radius).y <= 137438953472)/\(0 <= (Ja7 (Jcb s) s.radius).z/\(Ja7 (Jcb s) s.radius).z <= 137438953472):=by
 obtain ⟨_,hr,p1,p2,p3⟩:=Jfu h
 obtain ⟨a,b,c1,c2,c3⟩:=Jfo (Jcb s) 65536 p3 p1 _ (Nat.le_refl _)
 obtain ⟨a1,a2,a3⟩:=(Pt.inB_iff _ _).1 a
 obtain ⟨b1,b2,b3_⟩:=(Pt.inB_iff _ _).1 b
 have e1:=Jf9 a1.1 b1.2 c1 hr.1 hr.2
 have e2:=Jf9 a2.1 b2.2 c2 hr.1 hr.2
 have e3:=Jf9 a3.1 b3_.2 c3 hr.1 hr.2
 unfold Ja7
 dsimp only
 omega
theorem Jcc {a:Int} (h:a <= 4611686018427387903):4096 <= Jbs a 4096/\Jbs a 4096 <= 4611686018427387903:=by
 unfold Jbs
 split <;> omega
theorem Jgx {m a b:Int} (m0:0 <= m) (m1:m <= 1099511627776) (ha:0 <= a/\a <= 137438953472) (hb:0 <= b/\b <= 137438953472):Jit m a b <= 4611686018427387903:=by
 have h1:=Jd0 m0 m1 ha.1 ha.2
 have h2:=Jd0 m0 m1 hb.1 hb.2
 unfold Jit
 omega
theorem Ji7 {s:Sh} {m:Int} (h:Jaq s = 0) (m0:0 <= m) (m1:m <= 1099511627776):Jkp ⟨Jbs (Je8 s m).x 4096,Jbs (Je8 s m).y 4096,Jbs (Je8 s m).z 4096⟩:=by
 obtain ⟨_,hr,_⟩:=Jfu h
 obtain ⟨w1,w2,w3⟩:=Jhm h
 unfold Je8
 split
 ·have h1:=Jd0 (h:=s.radius * 1048576) m0 m1 (by omega) (by omega)
  have:Jgc m (s.radius * 1048576) <= 4611686018427387903:=by unfold Jgc;omega
  exact ⟨Jcc this,Jcc this,Jcc this⟩
 ·exact ⟨Jcc (Jgx m0 m1 w2 w3),Jcc (Jgx m0 m1 w3 w1),Jcc (Jgx m0 m1 w1 w2)⟩
theorem Ok12.big {fx fa:Bool} {gr ma:Int} {b:Bd} {r:Rs} (h:Ok12 fx fa gr ma b r):Jkp b.i:=by
 rw [h.i];exact Ji7 h.good.ok (by have:=h.m;omega) h.m.2
end
section
open Go.RowKit Go.Shelf Fx
structure FX (x:Bd):Prop where
 m:16777216 <= x.m/\x.m <= 1099511627776
 p:isV x.p 1099511627776
 l:isV x.l 68719476736
 i:Jkp x.i
structure FJ (x:Bd) (i:Nat) (c:Bd):Prop where
 k:c.k = x.k
 p:c.p = x.p
 l:c.l = x.l
 m:c.m = x.m
 ii:c.i = x.i
 mv:x.k = 2->WM.Whole c.q.w c.q.x c.q.y c.q.z/\isV c.s (4398046511104 * ((i:Int) + 1))
 st:x.k ≠ 2->c = x
theorem Joy {x y:Int} (hx:-1152921504606846976 <= x/\x <= 1152921504606846976) (hy:-1152921504606846976 <= y/\y <= 1152921504606846976):sub x y = some (x - y):=by
 unfold sub told great
 rw [if_neg (by simp;omega),if_neg (by simp;omega)]
theorem Jtw {a b:V3} (ha:isV a 1152921504606846976) (hb:isV b 1152921504606846976):Ju5 a b = false/\Jqy a b = ⟨a.x - b.x,a.y - b.y,a.z - b.z⟩:=by
 unfold Ju5 Jqy
 rw [Joy ha.1 hb.1,Joy ha.2.1 hb.2.1,Joy ha.2.2 hb.2.2]
 exact ⟨rfl,rfl⟩
theorem FJ.go {x c:Bd} {i:Nat} (hx:FX x) (h:FJ x i c) (hi:i <= 1000):∃ c',ifB c (goD c 67108864) = c'/\Jan c.k (goB c 67108864) = false/\FJ x (i + 1) c'/\(x.k = 2->Jqy c'.s c.s = Jbz (if2 x.k (Jbj x)) 67108864)/\(x.k = 2->Jdy c = false):=by
 by_cases hk:x.k = 2
 ·obtain ⟨hq,hs⟩:=h.mv hk
  have hck:c.k = 2:=h.k.trans hk
  have es:Jbj c = Jbj x:=by unfold Jbj;rw [h.p,h.m]
  obtain ⟨a1,a2⟩:=Jkz (b:=c) (p:=c.p) (by rw [h.m];exact hx.m) (by rw [h.p];exact hx.p)
  have ec:c.wp c.p = c:=rfl
  rw [ec] at a1 a2
  obtain ⟨b1,b2⟩:=Jh9 (n:=67108864) (N:=67108864) (C:=4398046511104) a2 (by decide) (by decide) (by decide) (by decide) (by decide)
  obtain ⟨c1,c2⟩:=Jni (b:=c) (l:=c.l) hq (by rw [h.ii];exact hx.i) (by rw [h.l];exact hx.l)
  obtain ⟨d1,d2⟩:=Jh9 (n:=33554432) (N:=33554432) (C:=36028797018963968) c2 (by decide) (by decide) (by decide) (by decide) (by decide)
  obtain ⟨e1,e2⟩:=Joc hq (h:=Jbk c 67108864) d2
  have hs':isV c.s 1152921504606846976:=Jmc hs (by omega)
  obtain ⟨f1,f2⟩:=Jb6 (b:=Jbd c 67108864) hs' (Jmc b2 (by decide))
  have hB:goB c 67108864 = false:=by
   unfold goB Jmd
   rw [a1,b1,c1]
   show (Jfh (Jau c c.l) 33554432 || _) = false
   rw [d1,f1,e1];rfl
  refine ⟨goD c 67108864,by unfold ifB;rw [if_pos hck],by unfold Jan;rw [if_pos hck,hB],⟨h.k,h.p,h.l,h.m,h.ii,fun _=>⟨e2,?_⟩,fun hn=>absurd hk hn⟩,fun _=>?_,fun _=>a1⟩
  ·show isV (Jah c.s (Jbd c 67108864)) _
   rw [f2]
   have b3_:isV (Jbd c 67108864) 4398046511104:=b2
   generalize Jbd c 67108864 = W at *
   unfold isV at *
   dsimp only
   omega
  ·show Jqy (Jah c.s (Jbd c 67108864)) c.s = _
   rw [f2]
   have b3_:isV (Jbd c 67108864) 4398046511104:=b2
   have ew:Jbd c 67108864 = Jbz (if2 x.k (Jbj x)) 67108864:=by unfold Jbd if2;rw [if_pos hk,es]
   rw [<- ew]
   generalize Jbd c 67108864 = W at *
   have g:=Jtw (a:=⟨c.s.x + W.x,c.s.y + W.y,c.s.z + W.z⟩) (b:=c.s) (by unfold isV at *;dsimp only;omega) hs'
   rw [g.2]
   obtain ⟨wx,wy,wz⟩:=W
   dsimp only
   congr 1 <;> omega
 ·have hck:c.k ≠ 2:=by rw [h.k];exact hk
  exact ⟨c,by unfold ifB;rw [if_neg hck],by unfold Jan;rw [if_neg hck],⟨h.k,h.p,h.l,h.m,h.ii,fun e=>absurd e hk,h.st⟩,fun e=>absurd e hk,fun e=>absurd e hk⟩
theorem Ok12.free {fx fa:Bool} {gr ma:Int} {b x:Bd} {r:Rs} (h:Ok12 fx fa gr ma b r) (hx:Ja1 b = x):FX x/\FJ x 0 x/\(x.k = if fx then 1 else 2)/\(x.k = 2->Jdy x = false)/\(fx = true->if2 x.k (Jbj x) = ⟨0,0,0⟩):=by
 obtain ⟨i1,i2⟩:=Jld (b:=b) h.p h.l
 obtain ⟨s1,s2,s3,s4,s5⟩:=Jg5 b
 rw [hx] at i1 i2 s1 s2 s3 s4 s5
 have hm:16777216 <= x.m/\x.m <= 1099511627776:=by rw [s4];exact h.m
 have hk:x.k = if fx then 1 else 2:=s1.trans h.k
 refine ⟨⟨hm,i1,i2,by rw [s5];exact h.big⟩,⟨rfl,rfl,rfl,rfl,rfl,fun _=>⟨by rw [s3];exact h.wh,?_⟩,fun _=>rfl⟩,hk,fun _=>?_,fun hf=>?_⟩
 ·have:=(Pt.inB_iff _ _).1 h.at_
  rw [s2]
  unfold isV
  dsimp only at this
  omega
 ·have:=(Jkz (b:=x) (p:=x.p) hm i1).1
  exact this
 ·unfold if2;rw [hk,hf];rfl
structure FS (w0:World) (tb xb pw vb cb:Nat) (tl xl vl:List Value) (rs:Rs) (u:Value) (c:Bd) (uc:Value) (W:World):Prop where
 t:CW W tb tl
 x:CW W xb xl
 w:CW W pw [.bool false]
 v:CW W vb vl
 c:CW W cb (c.L (rs.l uc))
 below:Below w0.heap.size w0 W
 ou:∃ base,W.ownsRow base 23 3 u rs.sh.pts.length (fl3 rs.sh.pts)/\u.ownBlock ≠ some pw/\u.ownBlock ≠ some cb
 oc:∃ base,W.ownsRow base 23 3 uc rs.sh.pts.length (fl3 rs.sh.pts)/\uc.ownBlock ≠ some pw/\uc.ownBlock ≠ some cb
 o:w0.heap.size <= tb/\tb < xb/\xb < pw/\pw < vb/\vb < cb/\cb < W.heap.size
section
variable {w0 W W':World} {tb xb pw vb cb:Nat} {tl xl vl:List Value} {rs:Rs} {u:Value} {c:Bd} {uc:Value}
theorem FS.step (h:FS w0 tb xb pw vb cb tl xl vl rs u c uc W) (hb:Below W.heap.size W W'):FS w0 tb xb pw vb cb tl xl vl rs u c uc W':=by
 obtain ⟨b1,o1,n1⟩:=h.ou
 obtain ⟨b2,o2,n2⟩:=h.oc
 exact ⟨h.t.step hb,h.x.step hb,h.w.step hb,h.v.step hb,h.c.step hb,Jd h.below hb,⟨b1,Js o1 hb,n1⟩,⟨b2,Js o2 hb,n2⟩,by have:=h.o;have:=hb.size;omega⟩
theorem FS.flag (h:FS w0 tb xb pw vb cb tl xl vl rs u c uc W) (a:After ⟨pw,0,none⟩ false W W'):FS w0 tb xb pw vb cb tl xl vl rs u c uc W':=by
 obtain ⟨b1,o1,n1⟩:=h.ou
 obtain ⟨b2,o2,n2⟩:=h.oc
 have ho:=h.o
 have hs:=a.size
 have k:∀ {base:Nat} {z:Value},W.ownsRow base 23 3 z rs.sh.pts.length (fl3 rs.sh.pts)->z.ownBlock ≠ some pw->W'.ownsRow base 23 3 z rs.sh.pts.length (fl3 rs.sh.pts):=fun hz hn =>
  Jao hz fun g hg=>a.kept.2.2.2 g (hz.lt g hg).2 (fun e=>hn (by rw [hg];exact congrArg some e))
 exact ⟨h.t.after a (by show tb ≠ pw;omega),h.x.after a (by show xb ≠ pw;omega),CW.flag a,h.v.after a (by show vb ≠ pw;omega),h.c.after a (by show cb ≠ pw;omega),a.leaves.below _ _ h.below (by show _ <= pw;omega) h.below.size,⟨b1,k o1 n1.1,n1⟩,⟨b2,k o2 n2.1,n2⟩,by omega⟩
theorem FS.put {c':Bd} {u':Value} {base:Nat} (h:FS w0 tb xb pw vb cb tl xl vl rs u c uc W) (h':W.ownsRow base 23 3 u' rs.sh.pts.length (fl3 rs.sh.pts)) (hb:cb < base) (h1:u.ownBlock ≠ some cb):FS w0 tb xb pw vb cb tl xl vl rs u c' u' (W.setCells cb 0 (c'.L (rs.l u'))):=by
 obtain ⟨b1,o1,n1⟩:=h.ou
 have ho:=h.o
 have hu:=(rs.rest (Jam h')).rest
 have hlen:(c'.L (rs.l u')).length = (c.L (rs.l uc)).length:=by
  rw [hu.all];obtain ⟨b2,o2,_⟩:=h.oc;rw [(rs.rest (Jam o2)).rest.all]
 exact ⟨h.t.apart (by omega),h.x.apart (by omega),h.w.apart (by omega),h.v.apart (by omega),h.c.sets hlen,h.below.trans (Jby (by omega) _ _ _),⟨b1,Jat o1 n1.2 _ 0,n1⟩,⟨base,Jat h' (Jgr h' hb) _ 0,Jgr h' (by omega),Jgr h' hb⟩,by rw [Jf2];omega⟩
theorem FS.other {po:Nat} {g:Bool} (h:FS w0 tb xb pw vb cb tl xl vl rs u c uc W) (a:After ⟨po,0,none⟩ g W W') (hp:cb < po) (h1:u.ownBlock ≠ some po) (h2:uc.ownBlock ≠ some po):FS w0 tb xb pw vb cb tl xl vl rs u c uc W':=by
 obtain ⟨b1,o1,n1⟩:=h.ou
 obtain ⟨b2,o2,n2⟩:=h.oc
 have ho:=h.o
 have hs:=a.size
 have k:∀ {base:Nat} {z:Value},W.ownsRow base 23 3 z rs.sh.pts.length (fl3 rs.sh.pts)->z.ownBlock ≠ some po->W'.ownsRow base 23 3 z rs.sh.pts.length (fl3 rs.sh.pts):=fun hz hn =>
  Jao hz fun g hg=>a.kept.2.2.2 g (hz.lt g hg).2 (fun e=>hn (by rw [hg];exact congrArg some e))
 exact ⟨h.t.after a (by show tb ≠ po;omega),h.x.after a (by show xb ≠ po;omega),h.w.after a (by show pw ≠ po;omega),h.v.after a (by show vb ≠ po;omega),h.c.after a (by show cb ≠ po;omega),a.leaves.below _ _ h.below (by show _ <= po;omega) h.below.size,⟨b1,k o1 h1,n1⟩,⟨b2,k o2 h2,n2⟩,by omega⟩
structure FO (w0:World) (tb xb pw vb cb:Nat) (tl xl vl:List Value) (rs:Rs) (u:Value) (c:Bd) (uc:Value) (po sb:Nat) (bl:List Value) (w:World):Prop where
 s:FS w0 tb xb pw vb cb tl xl vl rs u c uc w
 b:CW w sb bl
 o:∃ g,CW w po [.bool g]
 ne:cb < po/\sb < po/\u.ownBlock ≠ some po/\uc.ownBlock ≠ some po
theorem FO.step {po sb:Nat} {bl:List Value} (h:FO w0 tb xb pw vb cb tl xl vl rs u c uc po sb bl W) (hb:Below W.heap.size W W'):FO w0 tb xb pw vb cb tl xl vl rs u c uc po sb bl W':=by
 obtain ⟨g,ho⟩:=h.o
 exact ⟨h.s.step hb,h.b.step hb,⟨g,ho.step hb⟩,h.ne⟩
theorem FO.a {po sb:Nat} {bl:List Value} {g:Bool} (h:FO w0 tb xb pw vb cb tl xl vl rs u c uc po sb bl W) (a:After ⟨po,0,none⟩ g W W'):FO w0 tb xb pw vb cb tl xl vl rs u c uc po sb bl W':=by
 have hn:=h.ne
 exact ⟨h.s.other a hn.1 hn.2.2.1 hn.2.2.2,h.b.after a (by show sb ≠ po;omega),⟨g,CW.flag a⟩,hn⟩
end
end
end Go.Proofs.YteebbpioffdncaaGreat
