/- In whatever order a body is pushed it comes out the same; to push, to twist and to fall do not move it: for all raw bodies and vectors. -/
import Derived.Test.YteebbpioffdncaaGreatBW26
import Derived.Test.YteebbpioffdncaaGreatBW17
import Derived.Test.YteebbpioffdncaaGreatBW12
import Derived.Test.YteebbpioffdncaaGreatBW0
import Derived.Test.YteebbpioffdncaaGreatProg
import Derived.WalkKit
import Derived.Orders
import Derived.Below
import Derived.Laws.Rows
import Derived.Test.YteebbpioffdncaaGreatBW8
import Derived.Test.YteebbpioffdncaaGreatBW2
import Derived.RangeFuncNested
import Derived.RangeFuncBound
import Derived.RangeFuncCalls
import Derived.RangeFuncLeaves
import Derived.RangeFuncBox
import Derived.Shelf.Abstract
import Derived.OwnWalkIn
import Derived.TacticsInMore
import Derived.LoopNIn
import Derived.LoopIn
import Derived.LoopTactic
import Derived.ProofKit
import Derived.Handy
import Derived.Test.YteebbpioffdncaaGreatBW1
import Derived.Laws.MakeOwn
import Derived.Laws.OwnMore
import Derived.Maps.AppendAt
import Derived.Deep.RegionWith
import Derived.Deep.QuietTactic
import Derived.BigQuiet
import Derived.Deep.CutBlock
import Derived.Deep.CutRange
import Derived.Deep.LoopGhost
import Derived.Lib.SmallJoins
import Derived.RowKit
import Derived.OneCell
import Derived.WalkMore
import Derived.Lib.BufferMore
import Derived.Test.YteebbpioffdncaaGreatBW6
import Derived.Test.YteebbpioffdncaaGreatBW5
import Derived.Test.YteebbpioffdncaaGreatBW4
import Derived.Test.YteebbpioffdncaaGreatBW3
import Derived.Laws.MathBits
import Derived.Laws.Externs
import Derived.Laws.BitsAllLaws
import Derived.WalkLawsBesides
import Derived.Deep.MidRow
import Derived.Test.YteebbpioffdncaaGreatBW7
import Derived.Test.YteebbpioffdncaaGreatBW11
import Derived.Test.YteebbpioffdncaaGreatBW10
import Derived.Test.YteebbpioffdncaaGreatBW9
import Derived.Deep.RegionHeld3
import Derived.Test.YteebbpioffdncaaGreatBW16
import Derived.Test.YteebbpioffdncaaGreatBW15
import Derived.Test.YteebbpioffdncaaGreatEBOrder0
import Derived.Test.YteebbpioffdncaaGreatBW14
import Derived.Test.YteebbpioffdncaaGreatBW13
import Derived.Test.YteebbpioffdncaaGreatBW22
import Derived.Test.YteebbpioffdncaaGreatBW21
import Derived.Test.YteebbpioffdncaaGreatBW20
import Derived.Test.YteebbpioffdncaaGreatBW19
import Derived.Test.YteebbpioffdncaaGreatBW18
import Derived.Test.YteebbpioffdncaaGreatBW25
import Derived.Test.YteebbpioffdncaaGreatBW24
import Derived.Test.YteebbpioffdncaaGreatBW23
import Derived.OpenShut
import Derived.Deep.Slices
import Derived.Test.YteebbpioffdncaaGreatRows
set_option maxHeartbeats 32000000
set_option maxRecDepth 100000
set_option linter.unusedVariables false
namespace Go.Proofs.YteebbpioffdncaaGreat
open Go.Value renaming int -> J
open Go.IntKind renaming i64 -> Jk
section
namespace bodyOrder
open Go.ChangeShapes Go.WideShapes Go.ChangeAt Go.RowKit Go.Shelf
theorem own:ownKnob Tryz.prog.godebug = none:=by kernel_rfl
theorem Jcs:laidOutB Tryz.prog = true:=by kernel_rfl
theorem Jrm (k r hx hy hz:Int) (o:Option Addr) (Ls:List Pt) (c:Nat) (at0 at1 at2 qa qb_ qc qd ms fr p0 p1 p2 l0 l1 l2:Int) (fx fa:Bool) (gr ma:Int) (v1 v2 v3 v4:V3) (w0:World)
  (hb:∀ v ∈ ([k,r,hx,hy,hz,at0,at1,at2,qa,qb_,qc,qd,ms,fr,p0,p1,p2,l0,l1,l2,gr,ma]:List Int),-9223372036854775808 <= v/\v <= 9223372036854775807) (hL:Lies w0 (.slice o Ls.length c) Ls) (hF:∀ p ∈ Ls,p.fits) (hv1:∀ n ∈ ([v1.x,v1.y,v1.z]:List Int),-9223372036854775808 <= n/\n <= 9223372036854775807) (hv2:∀ n ∈ ([v2.x,v2.y,v2.z]:List Int),-9223372036854775808 <= n/\n <= 9223372036854775807) (hv3:∀ n ∈ ([v3.x,v3.y,v3.z]:List Int),-9223372036854775808 <= n/\n <= 9223372036854775807) (hv4:∀ n ∈ ([v4.x,v4.y,v4.z]:List Int),-9223372036854775808 <= n/\n <= 9223372036854775807) :
  Calls Tryz.prog 7 #[.agg #[J Jk k,J Jk r,J Jk hx,J Jk hy,J Jk hz,.slice o Ls.length c,J Jk at0,J Jk at1,J Jk at2,J Jk qa,J Jk qb_,J Jk qc,J Jk qd,J Jk ms,J Jk fr,J Jk p0,J Jk p1,J Jk p2,J Jk l0,J Jk l1,J Jk l2,.bool fx,.bool fa,J Jk gr,J Jk ma],v1.val,v2.val,v3.val,v4.val] w0 fun e w'=>e = .returned (.bool true)/\Below w0.heap.size w0 w':=by
 have HRI:Hid _:=fun (w':World) (h:Below w0.heap.size w0 w')=>Jfs k r hx hy hz o Ls c at0 at1 at2 qa qb_ qc qd ms fr p0 p1 p2 l0 l1 l2 fx fa gr ma w' hb (hL.below h) hF
 have AW:Hid _:=fun W=>Jfr W
 have HV1:Hid _:=fun W=>Jcp v1.x v1.y v1.z 68719476736 W (hv1 _ (by simp)) (hv1 _ (by simp)) (hv1 _ (by simp)) (by decide)
 have hn1:isV ⟨J3 v1.x 68719476736,J3 v1.y 68719476736,J3 v1.z 68719476736⟩ 68719476736:=⟨Jag _ (by decide),Jag _ (by decide),Jag _ (by decide)⟩
 obtain ⟨q1,hq1⟩:∃ q:V3,(⟨J3 v1.x 68719476736,J3 v1.y 68719476736,J3 v1.z 68719476736⟩:V3) = q:=⟨_,rfl⟩
 have ex1:J3 v1.x 68719476736 = q1.x:=by rw [<- hq1]
 have ey1:J3 v1.y 68719476736 = q1.y:=by rw [<- hq1]
 have ez1:J3 v1.z 68719476736 = q1.z:=by rw [<- hq1]
 rw [ex1,ey1,ez1] at HV1
 rw [hq1] at hn1
 have HN1:Hid _:=hn1
 clear ex1 ey1 ez1 hq1 hn1 hv1
 have HV2:Hid _:=fun W=>Jcp v2.x v2.y v2.z 68719476736 W (hv2 _ (by simp)) (hv2 _ (by simp)) (hv2 _ (by simp)) (by decide)
 have hn2:isV ⟨J3 v2.x 68719476736,J3 v2.y 68719476736,J3 v2.z 68719476736⟩ 68719476736:=⟨Jag _ (by decide),Jag _ (by decide),Jag _ (by decide)⟩
 obtain ⟨q2,hq2⟩:∃ q:V3,(⟨J3 v2.x 68719476736,J3 v2.y 68719476736,J3 v2.z 68719476736⟩:V3) = q:=⟨_,rfl⟩
 have ex2:J3 v2.x 68719476736 = q2.x:=by rw [<- hq2]
 have ey2:J3 v2.y 68719476736 = q2.y:=by rw [<- hq2]
 have ez2:J3 v2.z 68719476736 = q2.z:=by rw [<- hq2]
 rw [ex2,ey2,ez2] at HV2
 rw [hq2] at hn2
 have HN2:Hid _:=hn2
 clear ex2 ey2 ez2 hq2 hn2 hv2
 have HV3:Hid _:=fun W=>Jcp v3.x v3.y v3.z 1099511627776 W (hv3 _ (by simp)) (hv3 _ (by simp)) (hv3 _ (by simp)) (by decide)
 have hn3:isV ⟨J3 v3.x 1099511627776,J3 v3.y 1099511627776,J3 v3.z 1099511627776⟩ 1099511627776:=⟨Jag _ (by decide),Jag _ (by decide),Jag _ (by decide)⟩
 obtain ⟨q3,hq3⟩:∃ q:V3,(⟨J3 v3.x 1099511627776,J3 v3.y 1099511627776,J3 v3.z 1099511627776⟩:V3) = q:=⟨_,rfl⟩
 have ex3:J3 v3.x 1099511627776 = q3.x:=by rw [<- hq3]
 have ey3:J3 v3.y 1099511627776 = q3.y:=by rw [<- hq3]
 have ez3:J3 v3.z 1099511627776 = q3.z:=by rw [<- hq3]
 rw [ex3,ey3,ez3] at HV3
 rw [hq3] at hn3
 have HN3:Hid _:=hn3
 clear ex3 ey3 ez3 hq3 hn3 hv3
 have HV4:Hid _:=fun W=>Jcp v4.x v4.y v4.z 1099511627776 W (hv4 _ (by simp)) (hv4 _ (by simp)) (hv4 _ (by simp)) (by decide)
 have hn4:isV ⟨J3 v4.x 1099511627776,J3 v4.y 1099511627776,J3 v4.z 1099511627776⟩ 1099511627776:=⟨Jag _ (by decide),Jag _ (by decide),Jag _ (by decide)⟩
 obtain ⟨q4,hq4⟩:∃ q:V3,(⟨J3 v4.x 1099511627776,J3 v4.y 1099511627776,J3 v4.z 1099511627776⟩:V3) = q:=⟨_,rfl⟩
 have ex4:J3 v4.x 1099511627776 = q4.x:=by rw [<- hq4]
 have ey4:J3 v4.y 1099511627776 = q4.y:=by rw [<- hq4]
 have ez4:J3 v4.z 1099511627776 = q4.z:=by rw [<- hq4]
 rw [ex4,ey4,ez4] at HV4
 rw [hq4] at hn4
 have HN4:Hid _:=hn4
 clear ex4 ey4 ez4 hq4 hn4 hv4
 clear hb hL hF
 obtain ⟨A0,hA0⟩:∃ V,V = w0.alloc (.cells #[J Jk k,J Jk r,J Jk hx,J Jk hy,J Jk hz,.slice o Ls.length c,J Jk at0,J Jk at1,J Jk at2,J Jk qa,J Jk qb_,J Jk qc,J Jk qd,J Jk ms,J Jk fr,J Jk p0,J Jk p1,J Jk p2,J Jk l0,J Jk l1,J Jk l2,.bool fx,.bool fa,J Jk gr,J Jk ma] 33):=⟨_,rfl⟩
 obtain ⟨A1,hA1⟩:∃ V,V = A0.alloc (.cells #[J Jk v1.x,J Jk v1.y,J Jk v1.z] 27):=⟨_,rfl⟩
 obtain ⟨A2,hA2⟩:∃ V,V = A1.alloc (.cells #[J Jk v2.x,J Jk v2.y,J Jk v2.z] 27):=⟨_,rfl⟩
 obtain ⟨A3,hA3⟩:∃ V,V = A2.alloc (.cells #[J Jk v3.x,J Jk v3.y,J Jk v3.z] 27):=⟨_,rfl⟩
 obtain ⟨A4,hA4⟩:∃ V,V = A3.alloc (.cells #[J Jk v4.x,J Jk v4.y,J Jk v4.z] 27):=⟨_,rfl⟩
 obtain ⟨tb,htb⟩:∃ b,b = w0.heap.size:=⟨_,rfl⟩
 obtain ⟨b1,hb1⟩:∃ b,b = w0.heap.size + 1:=⟨_,rfl⟩
 obtain ⟨b2,hb2⟩:∃ b,b = w0.heap.size + 1 + 1:=⟨_,rfl⟩
 obtain ⟨b3,hb3⟩:∃ b,b = w0.heap.size + 1 + 1 + 1:=⟨_,rfl⟩
 obtain ⟨b4,hb4⟩:∃ b,b = w0.heap.size + 1 + 1 + 1 + 1:=⟨_,rfl⟩
 have z0:A0.heap.size = w0.heap.size + 1:=by rw [hA0,World.size_alloc]
 have z1:A1.heap.size = w0.heap.size + 1 + 1:=by rw [hA1,World.size_alloc,z0]
 have z2:A2.heap.size = w0.heap.size + 1 + 1 + 1:=by rw [hA2,World.size_alloc,z1]
 have z3:A3.heap.size = w0.heap.size + 1 + 1 + 1 + 1:=by rw [hA3,World.size_alloc,z2]
 have k0:=Jb w0 (.cells #[J Jk k,J Jk r,J Jk hx,J Jk hy,J Jk hz,.slice o Ls.length c,J Jk at0,J Jk at1,J Jk at2,J Jk qa,J Jk qb_,J Jk qc,J Jk qd,J Jk ms,J Jk fr,J Jk p0,J Jk p1,J Jk p2,J Jk l0,J Jk l1,J Jk l2,.bool fx,.bool fa,J Jk gr,J Jk ma] 33)
 rw [<- hA0] at k0
 have n0:=CW.new w0 [J Jk k,J Jk r,J Jk hx,J Jk hy,J Jk hz,.slice o Ls.length c,J Jk at0,J Jk at1,J Jk at2,J Jk qa,J Jk qb_,J Jk qc,J Jk qd,J Jk ms,J Jk fr,J Jk p0,J Jk p1,J Jk p2,J Jk l0,J Jk l1,J Jk l2,.bool fx,.bool fa,J Jk gr,J Jk ma] 33
 rw [<- hA0,<- htb] at n0
 have k1:=Jb A0 (.cells #[J Jk v1.x,J Jk v1.y,J Jk v1.z] 27)
 rw [<- hA1] at k1
 have n1:=CW.new A0 [J Jk v1.x,J Jk v1.y,J Jk v1.z] 27
 rw [<- hA1,z0,<- hb1] at n1
 have k2:=Jb A1 (.cells #[J Jk v2.x,J Jk v2.y,J Jk v2.z] 27)
 rw [<- hA2] at k2
 have n2:=CW.new A1 [J Jk v2.x,J Jk v2.y,J Jk v2.z] 27
 rw [<- hA2,z1,<- hb2] at n2
 have k3:=Jb A2 (.cells #[J Jk v3.x,J Jk v3.y,J Jk v3.z] 27)
 rw [<- hA3] at k3
 have n3:=CW.new A2 [J Jk v3.x,J Jk v3.y,J Jk v3.z] 27
 rw [<- hA3,z2,<- hb3] at n3
 have k4:=Jb A3 (.cells #[J Jk v4.x,J Jk v4.y,J Jk v4.z] 27)
 rw [<- hA4] at k4
 have n4:=CW.new A3 [J Jk v4.x,J Jk v4.y,J Jk v4.z] 27
 rw [<- hA4,z3,<- hb4] at n4
 have C0:Hid (CW A4 tb [J Jk k,J Jk r,J Jk hx,J Jk hy,J Jk hz,.slice o Ls.length c,J Jk at0,J Jk at1,J Jk at2,J Jk qa,J Jk qb_,J Jk qc,J Jk qd,J Jk ms,J Jk fr,J Jk p0,J Jk p1,J Jk p2,J Jk l0,J Jk l1,J Jk l2,.bool fx,.bool fa,J Jk gr,J Jk ma]):=(((n0.step k1).step k2).step k3).step k4
 have C1:Hid (CW A4 b1 [J Jk v1.x,J Jk v1.y,J Jk v1.z]):=((n1.step k2).step k3).step k4
 have C2:Hid (CW A4 b2 [J Jk v2.x,J Jk v2.y,J Jk v2.z]):=(n2.step k3).step k4
 have C3:Hid (CW A4 b3 [J Jk v3.x,J Jk v3.y,J Jk v3.z]):=n3.step k4
 have C4:Hid (CW A4 b4 [J Jk v4.x,J Jk v4.y,J Jk v4.z]):=n4
 have HB:Hid (Below w0.heap.size w0 A4):=Jd (Jd (Jd (Jd k0 k1) k2) k3) k4
 have h4:=CW.lt n4
 have HLT:Hid (w0.heap.size <= b1/\b1 < b2/\b2 < b3/\b3 < b4/\b4 < A4.heap.size):=by show _/\_;omega
 clear n0 n1 n2 n3 n4 k0 k1 k2 k3 k4 h4
 go_enter Tryz.func7,Tryz.ntmps7
 go_upto_region 1 with fail
 rw [<- hA0,<- hA1,<- hA2,<- hA3,<- hA4,<- hb4,<- hb3,<- hb2,<- hb1,<- htb]
 clear hA0 hA1 hA2 hA3 hA4 hb1 hb2 hb3 hb4 htb z0 z1 z2 z3
 go_wp2_with (fail)
 refine Calls.mono (AW.out _) ?_
 rintro e V1 ⟨rfl,HBa⟩
 have C0:Hid (CW _ _ _):=C0.out.step HBa.out
 have C1:Hid (CW _ _ _):=C1.out.step HBa.out
 have C2:Hid (CW _ _ _):=C2.out.step HBa.out
 have C3:Hid (CW _ _ _):=C3.out.step HBa.out
 have C4:Hid (CW _ _ _):=C4.out.step HBa.out
 have HB:Hid (Below w0.heap.size w0 V1):=Jd HB.out HBa.out
 have HSZ:Hid (b4 < V1.heap.size):=by have:=HBa.out.size;have h9:=HLT.out;show _ < _;omega
 clear HBa AW
 have HRG:Hid (World.rangeAt V1 tb 0 [J Jk k,J Jk r,J Jk hx,J Jk hy,J Jk hz,.slice o Ls.length c,J Jk at0,J Jk at1,J Jk at2,J Jk qa,J Jk qb_,J Jk qc,J Jk qd,J Jk ms,J Jk fr,J Jk p0,J Jk p1,J Jk p2,J Jk l0,J Jk l1,J Jk l2,.bool fx,.bool fa,J Jk gr,J Jk ma]):=C0.out.range
 go_wp2_with (refine wpList_load_mid rfl 33 _ rfl tb 0 rfl _ _ HRG.out Tryz.underlying33 rfl (by kernel_rfl) ?_)
 refine Calls.mono (HRI.out _ HB.out) ?_
 rintro e V2 ⟨bd,rs,u,rfl,hrow,hok⟩
 have hb2_:=hrow.below
 have C0:Hid (CW _ _ _):=C0.out.step hb2_
 have C1:Hid (CW _ _ _):=C1.out.step hb2_
 have C2:Hid (CW _ _ _):=C2.out.step hb2_
 have C3:Hid (CW _ _ _):=C3.out.step hb2_
 have C4:Hid (CW _ _ _):=C4.out.step hb2_
 have HB:Hid (Below w0.heap.size w0 V2):=Jd HB.out hb2_
 have hRst:RestP (rs.l u) u:=Rs.rest rs (Jam hrow.row)
 have HRS:Hid _:=hRst
 obtain ⟨x,hx_⟩:∃ x,Ja1 bd = x:=⟨_,rfl⟩
 rw [hx_]
 have hy9:Hid _:=J1 hRst.rest x
 have hz9:Hid _:=Jp hRst.rest x
 have h19:Hid _:=hRst.rest.each x
 have hl9:Hid _:=hRst.rest.all x
 obtain ⟨cs,hcs⟩:∃ l,x.L (rs.l u) = l:=⟨_,rfl⟩
 rw [hcs] at hy9 hz9 h19 hl9 ⊢
 have HCS:Hid _:=hcs
 obtain ⟨X2,hX2⟩:∃ X,X = (V2.alloc (.cells #[J Jk 0,J Jk 0,J Jk 0,J Jk 0,J Jk 0,J Jk 0,J Jk 0,J Jk 0,J Jk 0,J Jk 0,J Jk 0,J Jk 0,J Jk 0,J Jk 0,J Jk 0,J Jk 0,J Jk 0,J Jk 0,J Jk 0,J Jk 0,J Jk 0,J Jk 0,J Jk 0,.slice none 0 0,J Jk 0,J Jk 0,J Jk 0,.bool false,J Jk 0,.bool false,.bool false] 39)).setCells V2.heap.size 0 cs:=⟨_,rfl⟩
 obtain ⟨NX,BX,SX,TX⟩:=Jca V2 cs hl9.out
 rw [<- hX2] at NX BX SX
 have HT9:Hid (World.there _ _ _ _):=TX
 obtain ⟨xb,hxb⟩:∃ p,p = V2.heap.size:=⟨_,rfl⟩
 rw [<- hxb] at NX
 have C0:Hid (CW _ _ _):=C0.out.step BX
 have C1:Hid (CW _ _ _):=C1.out.step BX
 have C2:Hid (CW _ _ _):=C2.out.step BX
 have C3:Hid (CW _ _ _):=C3.out.step BX
 have C4:Hid (CW _ _ _):=C4.out.step BX
 have HB:Hid (Below w0.heap.size w0 X2):=Jd HB.out BX
 have CX:Hid (CW X2 xb cs):=NX
 have HRW:Hid (Row V1 X2 u rs.sh.pts):=hrow.step BX
 have HOK:Hid _:=hok
 have HXE:Hid _:=hx_
 have HXS:Hid (V1.heap.size <= xb/\xb < X2.heap.size):=by have h1:=hrow.below.size;have h2:=CW.lt31 NX hl9.out;show _/\_;omega
 clear hb2_ hrow hRst hcs NX BX SX TX hok hx_ HRI HRG
 go_upto_region 3 with (refine wpList_store_mid rfl 39 _ _ rfl V2.heap.size 0 _ rfl rfl HT9.out hy9.out h19.out ?_)
 rw [<- hX2,<- hxb]
 clear hX2 hxb HT9
 have HOW:Hid (X2.ownsRow V1.heap.size 23 3 u rs.sh.pts.length (fl3 rs.sh.pts)):=HRW.out.row
 clear HRW C0
 obtain ⟨g0,gf0⟩:=C1.out 0 _ rfl
 obtain ⟨g1,gf1⟩:=C1.out 1 _ rfl
 obtain ⟨g2,gf2⟩:=C1.out 2 _ rfl
 go_wp2_with (fail)
 refine Calls.mono (HV1.out _) ?_
 rintro e Y1 ⟨rfl,hb⟩
 clear g0 g1 g2 gf0 gf1 gf2
 have C1:Hid (CW _ _ _):=C1.out.step hb
 have C2:Hid (CW _ _ _):=C2.out.step hb
 have C3:Hid (CW _ _ _):=C3.out.step hb
 have C4:Hid (CW _ _ _):=C4.out.step hb
 have CX:Hid (CW _ _ _):=CX.out.step hb
 have HB:Hid (Below w0.heap.size w0 Y1):=Jd HB.out hb
 have HOW:Hid (World.ownsRow _ _ _ _ _ _ _):=Jao HOW.out fun g hg=>hb.block g (HOW.out.lt g hg).2
 obtain ⟨g0,gf0⟩:=C1.out 0 _ rfl
 obtain ⟨g1,gf1⟩:=C1.out 1 _ rfl
 obtain ⟨g2,gf2⟩:=C1.out 2 _ rfl
 obtain ⟨Z1,hZ⟩:∃ V,V = (((Y1.setCell ⟨b1,0,none⟩ (J Jk q1.x)).setCell ⟨b1,1,none⟩ (J Jk q1.y)).setCell ⟨b1,2,none⟩ (J Jk q1.z)):=⟨_,rfl⟩
 have C1:Hid (CW Z1 b1 [J Jk q1.x,J Jk q1.y,J Jk q1.z]):=by show CW _ _ _;rw [hZ];exact (((C1.out.set 0 (J Jk q1.x) (by simp)).set 1 (J Jk q1.y) (by simp)).set 2 (J Jk q1.z) (by simp))
 have C2:Hid (CW Z1 b2 [J Jk v2.x,J Jk v2.y,J Jk v2.z]):=by show CW _ _ _;rw [hZ];have hne:b1 ≠ b2:=(by have:=HLT.out;omega);exact (((C2.out.other (a:=⟨b1,0,none⟩) hne _).other (a:=⟨b1,1,none⟩) hne _).other (a:=⟨b1,2,none⟩) hne _)
 have C3:Hid (CW Z1 b3 [J Jk v3.x,J Jk v3.y,J Jk v3.z]):=by show CW _ _ _;rw [hZ];have hne:b1 ≠ b3:=(by have:=HLT.out;omega);exact (((C3.out.other (a:=⟨b1,0,none⟩) hne _).other (a:=⟨b1,1,none⟩) hne _).other (a:=⟨b1,2,none⟩) hne _)
 have C4:Hid (CW Z1 b4 [J Jk v4.x,J Jk v4.y,J Jk v4.z]):=by show CW _ _ _;rw [hZ];have hne:b1 ≠ b4:=(by have:=HLT.out;omega);exact (((C4.out.other (a:=⟨b1,0,none⟩) hne _).other (a:=⟨b1,1,none⟩) hne _).other (a:=⟨b1,2,none⟩) hne _)
 have CX:Hid (CW Z1 xb cs):=by show CW _ _ _;rw [hZ];have hne:b1 ≠ xb:=(by have:=HLT.out;have h2:=HSZ.out;have h3:=HXS.out;omega);exact (((CX.out.other (a:=⟨b1,0,none⟩) hne _).other (a:=⟨b1,1,none⟩) hne _).other (a:=⟨b1,2,none⟩) hne _)
 have HB:Hid (Below w0.heap.size w0 Z1):=by show Below _ _ _;rw [hZ];have hw:w0.heap.size <= b1:=(by have:=HLT.out;omega);exact ((HB.out.setCell hw _).setCell hw _).setCell hw _
 have HOW:Hid (World.ownsRow Z1 V1.heap.size 23 3 u rs.sh.pts.length (fl3 rs.sh.pts)):=by show World.ownsRow _ _ _ _ _ _ _;rw [hZ];refine Jao HOW.out fun g hg=>?_;have hne:g ≠ b1:=(by have:=(HOW.out.lt g hg).1;have h1:=HLT.out;have h2:=HSZ.out;omega);rw [Go.heap_setCell_other _ _ _ _ hne,Go.heap_setCell_other _ _ _ _ hne,Go.heap_setCell_other _ _ _ _ hne]
 go_upto_region 4 with fail
 rw [<- hZ]
 clear hZ hb g0 g1 g2 gf0 gf1 gf2 HV1
 obtain ⟨g0,gf0⟩:=C2.out 0 _ rfl
 obtain ⟨g1,gf1⟩:=C2.out 1 _ rfl
 obtain ⟨g2,gf2⟩:=C2.out 2 _ rfl
 go_wp2_with (fail)
 refine Calls.mono (HV2.out _) ?_
 rintro e Y2 ⟨rfl,hb⟩
 clear g0 g1 g2 gf0 gf1 gf2
 have C1:Hid (CW _ _ _):=C1.out.step hb
 have C2:Hid (CW _ _ _):=C2.out.step hb
 have C3:Hid (CW _ _ _):=C3.out.step hb
 have C4:Hid (CW _ _ _):=C4.out.step hb
 have CX:Hid (CW _ _ _):=CX.out.step hb
 have HB:Hid (Below w0.heap.size w0 Y2):=Jd HB.out hb
 have HOW:Hid (World.ownsRow _ _ _ _ _ _ _):=Jao HOW.out fun g hg=>hb.block g (HOW.out.lt g hg).2
 obtain ⟨g0,gf0⟩:=C2.out 0 _ rfl
 obtain ⟨g1,gf1⟩:=C2.out 1 _ rfl
 obtain ⟨g2,gf2⟩:=C2.out 2 _ rfl
 obtain ⟨Z2,hZ⟩:∃ V,V = (((Y2.setCell ⟨b2,0,none⟩ (J Jk q2.x)).setCell ⟨b2,1,none⟩ (J Jk q2.y)).setCell ⟨b2,2,none⟩ (J Jk q2.z)):=⟨_,rfl⟩
 have C2:Hid (CW Z2 b2 [J Jk q2.x,J Jk q2.y,J Jk q2.z]):=by show CW _ _ _;rw [hZ];exact (((C2.out.set 0 (J Jk q2.x) (by simp)).set 1 (J Jk q2.y) (by simp)).set 2 (J Jk q2.z) (by simp))
 have C1:Hid (CW Z2 b1 [J Jk q1.x,J Jk q1.y,J Jk q1.z]):=by show CW _ _ _;rw [hZ];have hne:b2 ≠ b1:=(by have:=HLT.out;omega);exact (((C1.out.other (a:=⟨b2,0,none⟩) hne _).other (a:=⟨b2,1,none⟩) hne _).other (a:=⟨b2,2,none⟩) hne _)
 have C3:Hid (CW Z2 b3 [J Jk v3.x,J Jk v3.y,J Jk v3.z]):=by show CW _ _ _;rw [hZ];have hne:b2 ≠ b3:=(by have:=HLT.out;omega);exact (((C3.out.other (a:=⟨b2,0,none⟩) hne _).other (a:=⟨b2,1,none⟩) hne _).other (a:=⟨b2,2,none⟩) hne _)
 have C4:Hid (CW Z2 b4 [J Jk v4.x,J Jk v4.y,J Jk v4.z]):=by show CW _ _ _;rw [hZ];have hne:b2 ≠ b4:=(by have:=HLT.out;omega);exact (((C4.out.other (a:=⟨b2,0,none⟩) hne _).other (a:=⟨b2,1,none⟩) hne _).other (a:=⟨b2,2,none⟩) hne _)
 have CX:Hid (CW Z2 xb cs):=by show CW _ _ _;rw [hZ];have hne:b2 ≠ xb:=(by have:=HLT.out;have h2:=HSZ.out;have h3:=HXS.out;omega);exact (((CX.out.other (a:=⟨b2,0,none⟩) hne _).other (a:=⟨b2,1,none⟩) hne _).other (a:=⟨b2,2,none⟩) hne _)
 have HB:Hid (Below w0.heap.size w0 Z2):=by show Below _ _ _;rw [hZ];have hw:w0.heap.size <= b2:=(by have:=HLT.out;omega);exact ((HB.out.setCell hw _).setCell hw _).setCell hw _
 have HOW:Hid (World.ownsRow Z2 V1.heap.size 23 3 u rs.sh.pts.length (fl3 rs.sh.pts)):=by show World.ownsRow _ _ _ _ _ _ _;rw [hZ];refine Jao HOW.out fun g hg=>?_;have hne:g ≠ b2:=(by have:=(HOW.out.lt g hg).1;have h1:=HLT.out;have h2:=HSZ.out;omega);rw [Go.heap_setCell_other _ _ _ _ hne,Go.heap_setCell_other _ _ _ _ hne,Go.heap_setCell_other _ _ _ _ hne]
 go_upto_region 5 with fail
 rw [<- hZ]
 clear hZ hb g0 g1 g2 gf0 gf1 gf2 HV2
 obtain ⟨g0,gf0⟩:=C3.out 0 _ rfl
 obtain ⟨g1,gf1⟩:=C3.out 1 _ rfl
 obtain ⟨g2,gf2⟩:=C3.out 2 _ rfl
 go_wp2_with (fail)
 refine Calls.mono (HV3.out _) ?_
 rintro e Y3 ⟨rfl,hb⟩
 clear g0 g1 g2 gf0 gf1 gf2
 have C1:Hid (CW _ _ _):=C1.out.step hb
 have C2:Hid (CW _ _ _):=C2.out.step hb
 have C3:Hid (CW _ _ _):=C3.out.step hb
 have C4:Hid (CW _ _ _):=C4.out.step hb
 have CX:Hid (CW _ _ _):=CX.out.step hb
 have HB:Hid (Below w0.heap.size w0 Y3):=Jd HB.out hb
 have HOW:Hid (World.ownsRow _ _ _ _ _ _ _):=Jao HOW.out fun g hg=>hb.block g (HOW.out.lt g hg).2
 obtain ⟨g0,gf0⟩:=C3.out 0 _ rfl
 obtain ⟨g1,gf1⟩:=C3.out 1 _ rfl
 obtain ⟨g2,gf2⟩:=C3.out 2 _ rfl
 obtain ⟨Z3,hZ⟩:∃ V,V = (((Y3.setCell ⟨b3,0,none⟩ (J Jk q3.x)).setCell ⟨b3,1,none⟩ (J Jk q3.y)).setCell ⟨b3,2,none⟩ (J Jk q3.z)):=⟨_,rfl⟩
 have C3:Hid (CW Z3 b3 [J Jk q3.x,J Jk q3.y,J Jk q3.z]):=by show CW _ _ _;rw [hZ];exact (((C3.out.set 0 (J Jk q3.x) (by simp)).set 1 (J Jk q3.y) (by simp)).set 2 (J Jk q3.z) (by simp))
 have C1:Hid (CW Z3 b1 [J Jk q1.x,J Jk q1.y,J Jk q1.z]):=by show CW _ _ _;rw [hZ];have hne:b3 ≠ b1:=(by have:=HLT.out;omega);exact (((C1.out.other (a:=⟨b3,0,none⟩) hne _).other (a:=⟨b3,1,none⟩) hne _).other (a:=⟨b3,2,none⟩) hne _)
 have C2:Hid (CW Z3 b2 [J Jk q2.x,J Jk q2.y,J Jk q2.z]):=by show CW _ _ _;rw [hZ];have hne:b3 ≠ b2:=(by have:=HLT.out;omega);exact (((C2.out.other (a:=⟨b3,0,none⟩) hne _).other (a:=⟨b3,1,none⟩) hne _).other (a:=⟨b3,2,none⟩) hne _)
 have C4:Hid (CW Z3 b4 [J Jk v4.x,J Jk v4.y,J Jk v4.z]):=by show CW _ _ _;rw [hZ];have hne:b3 ≠ b4:=(by have:=HLT.out;omega);exact (((C4.out.other (a:=⟨b3,0,none⟩) hne _).other (a:=⟨b3,1,none⟩) hne _).other (a:=⟨b3,2,none⟩) hne _)
 have CX:Hid (CW Z3 xb cs):=by show CW _ _ _;rw [hZ];have hne:b3 ≠ xb:=(by have:=HLT.out;have h2:=HSZ.out;have h3:=HXS.out;omega);exact (((CX.out.other (a:=⟨b3,0,none⟩) hne _).other (a:=⟨b3,1,none⟩) hne _).other (a:=⟨b3,2,none⟩) hne _)
 have HB:Hid (Below w0.heap.size w0 Z3):=by show Below _ _ _;rw [hZ];have hw:w0.heap.size <= b3:=(by have:=HLT.out;omega);exact ((HB.out.setCell hw _).setCell hw _).setCell hw _
 have HOW:Hid (World.ownsRow Z3 V1.heap.size 23 3 u rs.sh.pts.length (fl3 rs.sh.pts)):=by show World.ownsRow _ _ _ _ _ _ _;rw [hZ];refine Jao HOW.out fun g hg=>?_;have hne:g ≠ b3:=(by have:=(HOW.out.lt g hg).1;have h1:=HLT.out;have h2:=HSZ.out;omega);rw [Go.heap_setCell_other _ _ _ _ hne,Go.heap_setCell_other _ _ _ _ hne,Go.heap_setCell_other _ _ _ _ hne]
 go_upto_region 6 with fail
 rw [<- hZ]
 clear hZ hb g0 g1 g2 gf0 gf1 gf2 HV3
 obtain ⟨g0,gf0⟩:=C4.out 0 _ rfl
 obtain ⟨g1,gf1⟩:=C4.out 1 _ rfl
 obtain ⟨g2,gf2⟩:=C4.out 2 _ rfl
 go_wp2_with (fail)
 refine Calls.mono (HV4.out _) ?_
 rintro e Y4 ⟨rfl,hb⟩
 clear g0 g1 g2 gf0 gf1 gf2
 have C1:Hid (CW _ _ _):=C1.out.step hb
 have C2:Hid (CW _ _ _):=C2.out.step hb
 have C3:Hid (CW _ _ _):=C3.out.step hb
 have C4:Hid (CW _ _ _):=C4.out.step hb
 have CX:Hid (CW _ _ _):=CX.out.step hb
 have HB:Hid (Below w0.heap.size w0 Y4):=Jd HB.out hb
 have HOW:Hid (World.ownsRow _ _ _ _ _ _ _):=Jao HOW.out fun g hg=>hb.block g (HOW.out.lt g hg).2
 obtain ⟨g0,gf0⟩:=C4.out 0 _ rfl
 obtain ⟨g1,gf1⟩:=C4.out 1 _ rfl
 obtain ⟨g2,gf2⟩:=C4.out 2 _ rfl
 obtain ⟨Z4,hZ⟩:∃ V,V = (((Y4.setCell ⟨b4,0,none⟩ (J Jk q4.x)).setCell ⟨b4,1,none⟩ (J Jk q4.y)).setCell ⟨b4,2,none⟩ (J Jk q4.z)):=⟨_,rfl⟩
 have C4:Hid (CW Z4 b4 [J Jk q4.x,J Jk q4.y,J Jk q4.z]):=by show CW _ _ _;rw [hZ];exact (((C4.out.set 0 (J Jk q4.x) (by simp)).set 1 (J Jk q4.y) (by simp)).set 2 (J Jk q4.z) (by simp))
 have C1:Hid (CW Z4 b1 [J Jk q1.x,J Jk q1.y,J Jk q1.z]):=by show CW _ _ _;rw [hZ];have hne:b4 ≠ b1:=(by have:=HLT.out;omega);exact (((C1.out.other (a:=⟨b4,0,none⟩) hne _).other (a:=⟨b4,1,none⟩) hne _).other (a:=⟨b4,2,none⟩) hne _)
 have C2:Hid (CW Z4 b2 [J Jk q2.x,J Jk q2.y,J Jk q2.z]):=by show CW _ _ _;rw [hZ];have hne:b4 ≠ b2:=(by have:=HLT.out;omega);exact (((C2.out.other (a:=⟨b4,0,none⟩) hne _).other (a:=⟨b4,1,none⟩) hne _).other (a:=⟨b4,2,none⟩) hne _)
 have C3:Hid (CW Z4 b3 [J Jk q3.x,J Jk q3.y,J Jk q3.z]):=by show CW _ _ _;rw [hZ];have hne:b4 ≠ b3:=(by have:=HLT.out;omega);exact (((C3.out.other (a:=⟨b4,0,none⟩) hne _).other (a:=⟨b4,1,none⟩) hne _).other (a:=⟨b4,2,none⟩) hne _)
 have CX:Hid (CW Z4 xb cs):=by show CW _ _ _;rw [hZ];have hne:b4 ≠ xb:=(by have:=HLT.out;have h2:=HSZ.out;have h3:=HXS.out;omega);exact (((CX.out.other (a:=⟨b4,0,none⟩) hne _).other (a:=⟨b4,1,none⟩) hne _).other (a:=⟨b4,2,none⟩) hne _)
 have HB:Hid (Below w0.heap.size w0 Z4):=by show Below _ _ _;rw [hZ];have hw:w0.heap.size <= b4:=(by have:=HLT.out;omega);exact ((HB.out.setCell hw _).setCell hw _).setCell hw _
 have HOW:Hid (World.ownsRow Z4 V1.heap.size 23 3 u rs.sh.pts.length (fl3 rs.sh.pts)):=by show World.ownsRow _ _ _ _ _ _ _;rw [hZ];refine Jao HOW.out fun g hg=>?_;have hne:g ≠ b4:=(by have:=(HOW.out.lt g hg).1;have h1:=HLT.out;have h2:=HSZ.out;omega);rw [Go.heap_setCell_other _ _ _ _ hne,Go.heap_setCell_other _ _ _ _ hne,Go.heap_setCell_other _ _ _ _ hne]
 go_upto_region 7 with fail
 rw [<- hZ]
 clear hZ hb g0 g1 g2 gf0 gf1 gf2 HV4
 obtain ⟨P,hP⟩:∃ V,V = Z4.alloc (.cells #[.bool false] 47):=⟨_,rfl⟩
 obtain ⟨pw,hpw⟩:∃ b,b = Z4.heap.size:=⟨_,rfl⟩
 have hbP:Below Z4.heap.size Z4 P:=by rw [hP];exact Jb _ _
 have Cw:CW P pw [.bool false]:=by rw [hP,hpw];exact CW.new Z4 [.bool false] 47
 have HPW:Hid (b1 < pw/\b2 < pw/\b3 < pw/\b4 < pw/\xb < pw/\w0.heap.size <= pw/\pw < P.heap.size/\V1.heap.size <= pw):=by
  have e1:=CW.lt C1.out;have e2:=CW.lt C2.out;have e3:=CW.lt C3.out;have e4:=CW.lt C4.out;have e5:=CW.lt31 CX.out hl9.out;have e6:=HB.out.size;have e7:=CW.lt Cw;have e8:=HXS.out
  show _/\_
  omega
 have HNU:Hid (u.ownBlock ≠ some pw):=fun e=>by have:=(HOW.out.lt _ e).2;omega
 have C1:Hid (CW _ _ _):=C1.out.step hbP
 have C2:Hid (CW _ _ _):=C2.out.step hbP
 have C3:Hid (CW _ _ _):=C3.out.step hbP
 have C4:Hid (CW _ _ _):=C4.out.step hbP
 have CX:Hid (CW _ _ _):=CX.out.step hbP
 have HB:Hid (Below w0.heap.size w0 P):=Jd HB.out hbP
 have HOW:Hid (P.ownsRow V1.heap.size 23 3 u rs.sh.pts.length (fl3 rs.sh.pts)):=Jao HOW.out fun g hg=>hbP.block g (HOW.out.lt g hg).2
 have CWP:Hid (CW P pw [.bool false]):=Cw
 go_upto_region 8 with fail
 rw [<- hP,<- hpw]
 clear hP hpw hbP Cw
 have HMX:Hid _:=Jr5 (x:=x) (a:=q1) (b:=q2) (j:=q3) (k:=q4) (by rw [<- HXE.out];exact (Jld HOK.out.p HOK.out.l).1) (by rw [<- HXE.out];exact (Jld HOK.out.p HOK.out.l).2) (by rw [<- HXE.out,(Jg5 bd).2.2.2.1];have:=HOK.out.m;omega) HN1.out HN2.out HN3.out HN4.out
 obtain ⟨D1,D2,D3,D4,E1,E2,E3,F1,F2,F3,F4,F5,F6,F7,F8,fs,fq⟩:=HMX.out
 have hlen:rs.sh.pts.length <= 100000:=Jgp HOK.out.good
 have G1:Hid _:=F1
 have G2:Hid _:=F2
 have G3:Hid _:=F3
 have G4:Hid _:=F4
 have G5:Hid _:=F5
 have G6:Hid _:=F6
 have G7:Hid _:=F7
 have G8:Hid _:=F8
 have HSQ:Hid _:=And.intro fs fq
 have HLN:Hid _:=hlen
 clear F1 F2 F3 F4 F5 F6 F7 F8 fs fq hlen HMX HN1 HN2 HN3 HN4
 refine RV.rs [.some (.pointer (some ⟨pw,0,none⟩)),.some (.pointer (some ⟨pw,0,none⟩)),.some (.pointer (some ⟨pw,0,none⟩)),.some (.pointer (some ⟨pw,0,none⟩)),.some (.agg cs.toArray),.some q1.val,.some q3.val,.none,.some q2.val,.some q4.val,.none,.some q3.val,.none,.some q4.val,.none,.none,.none] [30,31,32,33,34,35,36,37,38,39,40,41,42,43,44,15,0] [(13,.pointer (some ⟨pw,0,none⟩)),(12,.pointer (some ⟨xb,0,none⟩)),(6,.pointer (some ⟨b1,0,none⟩)),(7,.pointer (some ⟨b2,0,none⟩)),(8,.pointer (some ⟨b3,0,none⟩)),(9,.pointer (some ⟨b4,0,none⟩))] (fun γ L w=>OG P pw rs.sh.pts (rs.l u) [(7,D1),(10,D2),(12,D3),(14,D4)] 15 16 D4 γ L w) ⟨rfl,rfl,rfl,rfl,rfl,rfl,trivial⟩ (OG.start (CWP.out 0 _ rfl).1 (CWP.out 0 _ rfl).2 rfl) ?_ ?_
 ·intro D WA Z hD hWA hZ T
  simp only [RV.Outs,RV.Slots,Nat.reduceAdd] at T
  (refine RV.cc _ (RV.pu T (fun γ v L w hl h=>h.other v rfl (by decide) (by decide)) (fun γ L a w hH hl h9 k9=>⟨_,?_,rfl⟩)) ?_;· simp [execOp,go_sem,h9])
  (refine RV.cc _ (RV.pu T (fun γ v L w hl h=>h.other v rfl (by decide) (by decide)) (fun γ L a w hH hl h9 k9=>⟨_,?_,rfl⟩)) ?_;· simp [execOp,go_sem,h9])
  (refine RV.cc _ (RV.pu T (fun γ v L w hl h=>h.other v rfl (by decide) (by decide)) (fun γ L a w hH hl h9 k9=>⟨_,?_,rfl⟩)) ?_;· simp [execOp,go_sem,h9])
  (refine RV.cc _ (RV.pu T (fun γ v L w hl h=>h.other v rfl (by decide) (by decide)) (fun γ L a w hH hl h9 k9=>⟨_,?_,rfl⟩)) ?_;· simp [execOp,go_sem,h9])
  refine RV.cc _ (RV.pu T (fun γ v L w hl h=>h.other v rfl (by decide) (by decide)) (fun γ L a w hH hl h9 k9=>⟨_,J7 39 _ rfl xb 0 (by simp [go_sem,h9]) _ _ (hH.glob.has CX.out (by have:=HPW.out;omega)).range Tryz.underlying39 rfl hz9.out,rfl⟩)) ?_
  refine RV.cc _ (RV.pu T (fun γ v L w hl h=>h.other v rfl (by decide) (by decide)) (fun γ L a w hH hl h9 k9=>⟨_,J7 27 _ rfl b1 0 (by simp [go_sem,h9]) _ _ (hH.glob.has C1.out (by have:=HPW.out;omega)).range Tryz.underlying27 rfl (by kernel_rfl),rfl⟩)) ?_
  refine RV.cc _ (RV.pu T (fun γ v L w hl h=>h.other v rfl (by decide) (by decide)) (fun γ L a w hH hl h9 k9=>⟨_,J7 27 _ rfl b3 0 (by simp [go_sem,h9]) _ _ (hH.glob.has C3.out (by have:=HPW.out;omega)).range Tryz.underlying27 rfl (by kernel_rfl),rfl⟩)) ?_
  refine RV.cc _ (RV.dc (fun γ L a w hH hl hA=>by have h9:=T γ L a w hH;have k9:=hA;simp [Region.binds] at k9;have hst:=(RV.ny hH (RV.wt (j:=16) (i:=14) hWA (by kernel_rfl)) (RV.ny hH (RV.wt (j:=14) (i:=12) hWA (by kernel_rfl)) (RV.ny hH (RV.wt (j:=12) (i:=10) hWA (by kernel_rfl)) (RV.ny hH (RV.wt (j:=10) (i:=7) hWA (by kernel_rfl)) hl))));have hp:=OG.push HRS.out HLN.out hH.glob (k:=7) (D:=x) (D':=D1) (u:=u) (Jam HOW.out) (Lies.of_row (hH.glob.here HOW.out HNU.out)) (by intro z hz h7;simp only [List.mem_cons,List.not_mem_nil,or_false] at hz;rcases hz with rfl | rfl | rfl | rfl <;> first | rfl | (simp at h7)) (by decide) (by decide) hst G1.out;rw [show x.L ((rs.l u).set 5 u) = cs from HCS.out] at hp;exact ⟨_,_,by simp [go_sem,h9,k9],Calls.mono hp (by rintro e w2 ⟨v,rfl,hg⟩;exact ⟨v,rfl,trivial,fun j v _ h=>h.keep _,hg⟩)⟩)) ?_
  refine RV.cc _ (RV.pu T (fun γ v L w hl h=>h.other v rfl (by decide) (by decide)) (fun γ L a w hH hl h9 k9=>⟨_,J7 27 _ rfl b2 0 (by simp [go_sem,h9]) _ _ (hH.glob.has C2.out (by have:=HPW.out;omega)).range Tryz.underlying27 rfl (by kernel_rfl),rfl⟩)) ?_
  refine RV.cc _ (RV.pu T (fun γ v L w hl h=>h.other v rfl (by decide) (by decide)) (fun γ L a w hH hl h9 k9=>⟨_,J7 27 _ rfl b4 0 (by simp [go_sem,h9]) _ _ (hH.glob.has C4.out (by have:=HPW.out;omega)).range Tryz.underlying27 rfl (by kernel_rfl),rfl⟩)) ?_
  refine RV.cc _ (RV.dc (fun γ L a w hH hl hA=>by have h9:=T γ L a w hH;have k9:=hA;simp [Region.binds] at k9;have l0:L 7 = true:=hA ⟨7,.data⟩ (by simp) rfl;have e0:=hH.slot 7 36 (by rw [<- hD];rfl) l0;obtain ⟨u0,e1,e2,e3⟩:=hH.glob.hand (k:=7) (D:=D1) (by simp) l0;rw [e1] at e0;have hst:=(RV.ny hH (RV.wt (j:=16) (i:=14) hWA (by kernel_rfl)) (RV.ny hH (RV.wt (j:=14) (i:=12) hWA (by kernel_rfl)) (RV.ny hH (RV.wt (j:=12) (i:=10) hWA (by kernel_rfl)) hl)));have hp:=OG.push HRS.out HLN.out hH.glob (k:=10) (D:=D1) (D':=D2) (u:=u0) e2 e3 (by intro z hz h7;simp only [List.mem_cons,List.not_mem_nil,or_false] at hz;rcases hz with rfl | rfl | rfl | rfl <;> first | rfl | (simp at h7)) (by decide) (by decide) hst G2.out;exact ⟨_,_,by simp [go_sem,h9,k9,e0],Calls.mono hp (by rintro e w2 ⟨v,rfl,hg⟩;exact ⟨v,rfl,trivial,fun j v _ h=>h.keep _,hg⟩)⟩)) ?_
  refine RV.cc _ (RV.pu T (fun γ v L w hl h=>h.other v rfl (by decide) (by decide)) (fun γ L a w hH hl h9 k9=>⟨_,J7 27 _ rfl b3 0 (by simp [go_sem,h9]) _ _ (hH.glob.has C3.out (by have:=HPW.out;omega)).range Tryz.underlying27 rfl (by kernel_rfl),rfl⟩)) ?_
  refine RV.cc _ (RV.dc (fun γ L a w hH hl hA=>by have h9:=T γ L a w hH;have k9:=hA;simp [Region.binds] at k9;have l0:L 10 = true:=hA ⟨10,.data⟩ (by simp) rfl;have e0:=hH.slot 10 39 (by rw [<- hD];rfl) l0;obtain ⟨u0,e1,e2,e3⟩:=hH.glob.hand (k:=10) (D:=D2) (by simp) l0;rw [e1] at e0;have hst:=(RV.ny hH (RV.wt (j:=16) (i:=14) hWA (by kernel_rfl)) (RV.ny hH (RV.wt (j:=14) (i:=12) hWA (by kernel_rfl)) hl));have hp:=OG.twist HRS.out HLN.out hH.glob (k:=12) (D:=D2) (D':=D3) (u:=u0) e2 e3 (by intro z hz h7;simp only [List.mem_cons,List.not_mem_nil,or_false] at hz;rcases hz with rfl | rfl | rfl | rfl <;> first | rfl | (simp at h7)) (by decide) (by decide) hst G3.out;exact ⟨_,_,by simp [go_sem,h9,k9,e0],Calls.mono hp (by rintro e w2 ⟨v,rfl,hg⟩;exact ⟨v,rfl,trivial,fun j v _ h=>h.keep _,hg⟩)⟩)) ?_
  refine RV.cc _ (RV.pu T (fun γ v L w hl h=>h.other v rfl (by decide) (by decide)) (fun γ L a w hH hl h9 k9=>⟨_,J7 27 _ rfl b4 0 (by simp [go_sem,h9]) _ _ (hH.glob.has C4.out (by have:=HPW.out;omega)).range Tryz.underlying27 rfl (by kernel_rfl),rfl⟩)) ?_
  refine RV.cc _ (RV.dc (fun γ L a w hH hl hA=>by have h9:=T γ L a w hH;have k9:=hA;simp [Region.binds] at k9;have l0:L 12 = true:=hA ⟨12,.data⟩ (by simp) rfl;have e0:=hH.slot 12 41 (by rw [<- hD];rfl) l0;obtain ⟨u0,e1,e2,e3⟩:=hH.glob.hand (k:=12) (D:=D3) (by simp) l0;rw [e1] at e0;have hst:=(RV.ny hH (RV.wt (j:=16) (i:=14) hWA (by kernel_rfl)) hl);have hp:=OG.fall HRS.out HLN.out hH.glob (k:=14) (D:=D3) (D':=D4) (u:=u0) e2 e3 (by intro z hz h7;simp only [List.mem_cons,List.not_mem_nil,or_false] at hz;rcases hz with rfl | rfl | rfl | rfl <;> first | rfl | (simp at h7)) (by decide) (by decide) hst G4.out;exact ⟨_,_,by simp [go_sem,h9,k9,e0],Calls.mono hp (by rintro e w2 ⟨v,rfl,hg⟩;exact ⟨v,rfl,trivial,fun j v _ h=>h.keep _,hg⟩)⟩)) ?_
  refine RV.cc _ (RV.does_step (fun γ L a w hH hl hA=>by exact ⟨.pointer (some ⟨w.heap.size,0,none⟩),w.alloc (.cells #[J Jk 0,J Jk 0,J Jk 0,J Jk 0,J Jk 0,J Jk 0,J Jk 0,J Jk 0,J Jk 0,J Jk 0,J Jk 0,J Jk 0,J Jk 0,J Jk 0,J Jk 0,J Jk 0,J Jk 0,J Jk 0,J Jk 0,J Jk 0,J Jk 0,J Jk 0,J Jk 0,.slice none 0 0,J Jk 0,J Jk 0,J Jk 0,.bool false,J Jk 0,.bool false,.bool false] 39),by simp [execOp,go_sem],trivial,fun j v _ h=>h.keep _,hH.glob.made rfl (by decide) (RV.ny hH (RV.wt (j:=16) (i:=15) hWA (by kernel_rfl)) hl) [J Jk 0,J Jk 0,J Jk 0,J Jk 0,J Jk 0,J Jk 0,J Jk 0,J Jk 0,J Jk 0,J Jk 0,J Jk 0,J Jk 0,J Jk 0,J Jk 0,J Jk 0,J Jk 0,J Jk 0,J Jk 0,J Jk 0,J Jk 0,J Jk 0,J Jk 0,J Jk 0,.slice none 0 0,J Jk 0,J Jk 0,J Jk 0,.bool false,J Jk 0,.bool false,.bool false] rfl⟩)) ?_
  refine RV.cc _ (RV.does_store (fun γ L a w hH hl hA=>by have l0:L 15 = true:=hA ⟨15,.data⟩ (by simp) rfl;have l8:L 14 = true:=hA ⟨14,.data⟩ (by simp) rfl;have e0:=hH.slot 15 14 (by rw [<- hD];rfl) l0;have e8:=hH.slot 14 43 (by rw [<- hD];rfl) l8;obtain ⟨b9,c9,u9,f1,f2,f3,f4,f5,f6⟩:=hH.glob.fill (k:=14) (by simp) l8 l0 (by decide) rfl (fun z hz=>(HRS.out.set hz).rest);rw [f1] at e0;rw [f2] at e8;have hr9:=(HRS.out.set f5).rest;exact ⟨_,Jb9 39 _ _ rfl b9 0 _ (by simp [Act.eval,e0]) (by simp [Act.eval,e8]) (f3.there31 f4 hr9) (J1 hr9 _) (hr9.each _),trivial,fun j v _ h=>h.keep _,f6 _⟩)) ?_
  exact RV.AllDo.nil
 ·intro γ w9 L9 hL9 hI9 hG9
  obtain ⟨bx,c9,hb1,hb2,hb3,_,hb5⟩:=hG9.box (hL9 15 (by decide))
  obtain ⟨ux,hcs9,ho9⟩:=hb5 (hL9 16 (by decide))
  rw [hcs9] at hb3
  have HB:Hid (Below w0.heap.size w0 w9):=hG9.leaves.below _ _ HB.out (by have:=HPW.out;show _ <= pw;omega) (HB.out.size)
  have HSP:Hid (P.heap.size <= w9.heap.size):=hG9.leaves.size
  have CX:Hid (CW w9 xb cs):=hG9.has CX.out (by have:=HPW.out;omega)
  have C1:Hid (CW w9 _ _):=hG9.has C1.out (by have:=HPW.out;omega)
  have C2:Hid (CW w9 _ _):=hG9.has C2.out (by have:=HPW.out;omega)
  have C3:Hid (CW w9 _ _):=hG9.has C3.out (by have:=HPW.out;omega)
  have C4:Hid (CW w9 _ _):=hG9.has C4.out (by have:=HPW.out;omega)
  have CWP:Hid (CW w9 pw [.bool false]):=CW.flag (hG9.leaves.done hG9.cell hG9.frozen)
  have HOW:Hid (w9.ownsRow V1.heap.size 23 3 u rs.sh.pts.length (fl3 rs.sh.pts)):=hG9.here HOW.out HNU.out
  have HUX:Hid (w9.ownsRow P.heap.size 23 3 ux rs.sh.pts.length (fl3 rs.sh.pts)):=ho9
  have CO:Hid (CW w9 bx (D4.L ((rs.l u).set 5 ux))):=hb3
  have HOX:Hid (P.heap.size <= bx):=hb2
  simp only [RV.putL,Act.put,List.setIfInBounds_toArray,List.set_cons_zero,List.set_cons_succ,Nat.reduceAdd]
  rw [hb1]
  clear hG9 hI9 hL9 hb1 hb2 hb3 hb5 hcs9 ho9
  obtain ⟨Q,hQ⟩:∃ Q,w9 = Q:=⟨_,rfl⟩
  rw [hQ] at HB HSP CX C1 C2 C3 C4 CWP HOW HUX CO ⊢
  clear hQ
  go_upto_region 9 with fail
  refine RV.rs [.some (.pointer (some ⟨pw,0,none⟩)),.some (.pointer (some ⟨pw,0,none⟩)),.some (.pointer (some ⟨pw,0,none⟩)),.some (.pointer (some ⟨pw,0,none⟩)),.some (.agg cs.toArray),.some q4.val,.none,.some q3.val,.none,.some q2.val,.some q4.val,.none,.some q1.val,.some q3.val,.none,.none,.none] [45,46,47,48,49,50,51,52,53,54,55,56,57,58,59,16,0] [(13,.pointer (some ⟨pw,0,none⟩)),(12,.pointer (some ⟨xb,0,none⟩)),(6,.pointer (some ⟨b1,0,none⟩)),(7,.pointer (some ⟨b2,0,none⟩)),(8,.pointer (some ⟨b3,0,none⟩)),(9,.pointer (some ⟨b4,0,none⟩))] (fun γ L w=>OG Q pw rs.sh.pts (rs.l u) [(6,E1),(8,E2),(11,E3),(14,D4)] 15 16 D4 γ L w) ⟨rfl,rfl,rfl,rfl,rfl,rfl,trivial⟩ (OG.start (CWP.out 0 _ rfl).1 (CWP.out 0 _ rfl).2 rfl) ?_ ?_
  ·intro D WA Z hD hWA hZ T
   simp only [RV.Outs,RV.Slots,Nat.reduceAdd] at T
   (refine RV.cc _ (RV.pu T (fun γ v L w hl h=>h.other v rfl (by decide) (by decide)) (fun γ L a w hH hl h9 k9=>⟨_,?_,rfl⟩)) ?_;· simp [execOp,go_sem,h9])
   (refine RV.cc _ (RV.pu T (fun γ v L w hl h=>h.other v rfl (by decide) (by decide)) (fun γ L a w hH hl h9 k9=>⟨_,?_,rfl⟩)) ?_;· simp [execOp,go_sem,h9])
   (refine RV.cc _ (RV.pu T (fun γ v L w hl h=>h.other v rfl (by decide) (by decide)) (fun γ L a w hH hl h9 k9=>⟨_,?_,rfl⟩)) ?_;· simp [execOp,go_sem,h9])
   (refine RV.cc _ (RV.pu T (fun γ v L w hl h=>h.other v rfl (by decide) (by decide)) (fun γ L a w hH hl h9 k9=>⟨_,?_,rfl⟩)) ?_;· simp [execOp,go_sem,h9])
   refine RV.cc _ (RV.pu T (fun γ v L w hl h=>h.other v rfl (by decide) (by decide)) (fun γ L a w hH hl h9 k9=>⟨_,J7 39 _ rfl xb 0 (by simp [go_sem,h9]) _ _ (hH.glob.has CX.out (by have:=HPW.out;omega)).range Tryz.underlying39 rfl hz9.out,rfl⟩)) ?_
   refine RV.cc _ (RV.pu T (fun γ v L w hl h=>h.other v rfl (by decide) (by decide)) (fun γ L a w hH hl h9 k9=>⟨_,J7 27 _ rfl b4 0 (by simp [go_sem,h9]) _ _ (hH.glob.has C4.out (by have:=HPW.out;omega)).range Tryz.underlying27 rfl (by kernel_rfl),rfl⟩)) ?_
   refine RV.cc _ (RV.dc (fun γ L a w hH hl hA=>by have h9:=T γ L a w hH;have k9:=hA;simp [Region.binds] at k9;have hst:=(RV.ny hH (RV.wt (j:=16) (i:=14) hWA (by kernel_rfl)) (RV.ny hH (RV.wt (j:=14) (i:=11) hWA (by kernel_rfl)) (RV.ny hH (RV.wt (j:=11) (i:=8) hWA (by kernel_rfl)) (RV.ny hH (RV.wt (j:=8) (i:=6) hWA (by kernel_rfl)) hl))));have hp:=OG.fall HRS.out HLN.out hH.glob (k:=6) (D:=x) (D':=E1) (u:=u) (Jam HOW.out) (Lies.of_row (hH.glob.here HOW.out HNU.out)) (by intro z hz h7;simp only [List.mem_cons,List.not_mem_nil,or_false] at hz;rcases hz with rfl | rfl | rfl | rfl <;> first | rfl | (simp at h7)) (by decide) (by decide) hst G5.out;rw [show x.L ((rs.l u).set 5 u) = cs from HCS.out] at hp;exact ⟨_,_,by simp [go_sem,h9,k9],Calls.mono hp (by rintro e w2 ⟨v,rfl,hg⟩;exact ⟨v,rfl,trivial,fun j v _ h=>h.keep _,hg⟩)⟩)) ?_
   refine RV.cc _ (RV.pu T (fun γ v L w hl h=>h.other v rfl (by decide) (by decide)) (fun γ L a w hH hl h9 k9=>⟨_,J7 27 _ rfl b3 0 (by simp [go_sem,h9]) _ _ (hH.glob.has C3.out (by have:=HPW.out;omega)).range Tryz.underlying27 rfl (by kernel_rfl),rfl⟩)) ?_
   refine RV.cc _ (RV.dc (fun γ L a w hH hl hA=>by have h9:=T γ L a w hH;have k9:=hA;simp [Region.binds] at k9;have l0:L 6 = true:=hA ⟨6,.data⟩ (by simp) rfl;have e0:=hH.slot 6 50 (by rw [<- hD];rfl) l0;obtain ⟨u0,e1,e2,e3⟩:=hH.glob.hand (k:=6) (D:=E1) (by simp) l0;rw [e1] at e0;have hst:=(RV.ny hH (RV.wt (j:=16) (i:=14) hWA (by kernel_rfl)) (RV.ny hH (RV.wt (j:=14) (i:=11) hWA (by kernel_rfl)) (RV.ny hH (RV.wt (j:=11) (i:=8) hWA (by kernel_rfl)) hl)));have hp:=OG.twist HRS.out HLN.out hH.glob (k:=8) (D:=E1) (D':=E2) (u:=u0) e2 e3 (by intro z hz h7;simp only [List.mem_cons,List.not_mem_nil,or_false] at hz;rcases hz with rfl | rfl | rfl | rfl <;> first | rfl | (simp at h7)) (by decide) (by decide) hst G6.out;exact ⟨_,_,by simp [go_sem,h9,k9,e0],Calls.mono hp (by rintro e w2 ⟨v,rfl,hg⟩;exact ⟨v,rfl,trivial,fun j v _ h=>h.keep _,hg⟩)⟩)) ?_
   refine RV.cc _ (RV.pu T (fun γ v L w hl h=>h.other v rfl (by decide) (by decide)) (fun γ L a w hH hl h9 k9=>⟨_,J7 27 _ rfl b2 0 (by simp [go_sem,h9]) _ _ (hH.glob.has C2.out (by have:=HPW.out;omega)).range Tryz.underlying27 rfl (by kernel_rfl),rfl⟩)) ?_
   refine RV.cc _ (RV.pu T (fun γ v L w hl h=>h.other v rfl (by decide) (by decide)) (fun γ L a w hH hl h9 k9=>⟨_,J7 27 _ rfl b4 0 (by simp [go_sem,h9]) _ _ (hH.glob.has C4.out (by have:=HPW.out;omega)).range Tryz.underlying27 rfl (by kernel_rfl),rfl⟩)) ?_
   refine RV.cc _ (RV.dc (fun γ L a w hH hl hA=>by have h9:=T γ L a w hH;have k9:=hA;simp [Region.binds] at k9;have l0:L 8 = true:=hA ⟨8,.data⟩ (by simp) rfl;have e0:=hH.slot 8 52 (by rw [<- hD];rfl) l0;obtain ⟨u0,e1,e2,e3⟩:=hH.glob.hand (k:=8) (D:=E2) (by simp) l0;rw [e1] at e0;have hst:=(RV.ny hH (RV.wt (j:=16) (i:=14) hWA (by kernel_rfl)) (RV.ny hH (RV.wt (j:=14) (i:=11) hWA (by kernel_rfl)) hl));have hp:=OG.push HRS.out HLN.out hH.glob (k:=11) (D:=E2) (D':=E3) (u:=u0) e2 e3 (by intro z hz h7;simp only [List.mem_cons,List.not_mem_nil,or_false] at hz;rcases hz with rfl | rfl | rfl | rfl <;> first | rfl | (simp at h7)) (by decide) (by decide) hst G7.out;exact ⟨_,_,by simp [go_sem,h9,k9,e0],Calls.mono hp (by rintro e w2 ⟨v,rfl,hg⟩;exact ⟨v,rfl,trivial,fun j v _ h=>h.keep _,hg⟩)⟩)) ?_
   refine RV.cc _ (RV.pu T (fun γ v L w hl h=>h.other v rfl (by decide) (by decide)) (fun γ L a w hH hl h9 k9=>⟨_,J7 27 _ rfl b1 0 (by simp [go_sem,h9]) _ _ (hH.glob.has C1.out (by have:=HPW.out;omega)).range Tryz.underlying27 rfl (by kernel_rfl),rfl⟩)) ?_
   refine RV.cc _ (RV.pu T (fun γ v L w hl h=>h.other v rfl (by decide) (by decide)) (fun γ L a w hH hl h9 k9=>⟨_,J7 27 _ rfl b3 0 (by simp [go_sem,h9]) _ _ (hH.glob.has C3.out (by have:=HPW.out;omega)).range Tryz.underlying27 rfl (by kernel_rfl),rfl⟩)) ?_
   refine RV.cc _ (RV.dc (fun γ L a w hH hl hA=>by have h9:=T γ L a w hH;have k9:=hA;simp [Region.binds] at k9;have l0:L 11 = true:=hA ⟨11,.data⟩ (by simp) rfl;have e0:=hH.slot 11 55 (by rw [<- hD];rfl) l0;obtain ⟨u0,e1,e2,e3⟩:=hH.glob.hand (k:=11) (D:=E3) (by simp) l0;rw [e1] at e0;have hst:=(RV.ny hH (RV.wt (j:=16) (i:=14) hWA (by kernel_rfl)) hl);have hp:=OG.push HRS.out HLN.out hH.glob (k:=14) (D:=E3) (D':=D4) (u:=u0) e2 e3 (by intro z hz h7;simp only [List.mem_cons,List.not_mem_nil,or_false] at hz;rcases hz with rfl | rfl | rfl | rfl <;> first | rfl | (simp at h7)) (by decide) (by decide) hst G8.out;exact ⟨_,_,by simp [go_sem,h9,k9,e0],Calls.mono hp (by rintro e w2 ⟨v,rfl,hg⟩;exact ⟨v,rfl,trivial,fun j v _ h=>h.keep _,hg⟩)⟩)) ?_
   refine RV.cc _ (RV.does_step (fun γ L a w hH hl hA=>by exact ⟨.pointer (some ⟨w.heap.size,0,none⟩),w.alloc (.cells #[J Jk 0,J Jk 0,J Jk 0,J Jk 0,J Jk 0,J Jk 0,J Jk 0,J Jk 0,J Jk 0,J Jk 0,J Jk 0,J Jk 0,J Jk 0,J Jk 0,J Jk 0,J Jk 0,J Jk 0,J Jk 0,J Jk 0,J Jk 0,J Jk 0,J Jk 0,J Jk 0,.slice none 0 0,J Jk 0,J Jk 0,J Jk 0,.bool false,J Jk 0,.bool false,.bool false] 39),by simp [execOp,go_sem],trivial,fun j v _ h=>h.keep _,hH.glob.made rfl (by decide) (RV.ny hH (RV.wt (j:=16) (i:=15) hWA (by kernel_rfl)) hl) [J Jk 0,J Jk 0,J Jk 0,J Jk 0,J Jk 0,J Jk 0,J Jk 0,J Jk 0,J Jk 0,J Jk 0,J Jk 0,J Jk 0,J Jk 0,J Jk 0,J Jk 0,J Jk 0,J Jk 0,J Jk 0,J Jk 0,J Jk 0,J Jk 0,J Jk 0,J Jk 0,.slice none 0 0,J Jk 0,J Jk 0,J Jk 0,.bool false,J Jk 0,.bool false,.bool false] rfl⟩)) ?_
   refine RV.cc _ (RV.does_store (fun γ L a w hH hl hA=>by have l0:L 15 = true:=hA ⟨15,.data⟩ (by simp) rfl;have l8:L 14 = true:=hA ⟨14,.data⟩ (by simp) rfl;have e0:=hH.slot 15 15 (by rw [<- hD];rfl) l0;have e8:=hH.slot 14 58 (by rw [<- hD];rfl) l8;obtain ⟨b9,c9,u9,f1,f2,f3,f4,f5,f6⟩:=hH.glob.fill (k:=14) (by simp) l8 l0 (by decide) rfl (fun z hz=>(HRS.out.set hz).rest);rw [f1] at e0;rw [f2] at e8;have hr9:=(HRS.out.set f5).rest;exact ⟨_,Jb9 39 _ _ rfl b9 0 _ (by simp [Act.eval,e0]) (by simp [Act.eval,e8]) (f3.there31 f4 hr9) (J1 hr9 _) (hr9.each _),trivial,fun j v _ h=>h.keep _,f6 _⟩)) ?_
   exact RV.AllDo.nil
  ·intro γ w9 L9 hL9 hI9 hG9
   obtain ⟨by_,c9,hb1,hb2,hb3,_,hb5⟩:=hG9.box (hL9 15 (by decide))
   obtain ⟨uy,hcs9,ho9⟩:=hb5 (hL9 16 (by decide))
   rw [hcs9] at hb3
   have HBX:Hid (Below w0.heap.size w0 w9):=hG9.leaves.below _ _ HB.out (by have:=HPW.out;show _ <= pw;omega) (HB.out.size)
   have CXX:Hid (CW w9 xb cs):=hG9.has CX.out (by have:=HPW.out;omega)
   have CWW:Hid (CW w9 pw [.bool false]):=CW.flag (hG9.leaves.done hG9.cell hG9.frozen)
   have COO:Hid (CW w9 bx (D4.L ((rs.l u).set 5 ux))):=CO.out.leaves hG9.leaves (by have h7:=HPW.out;have h8:=HOX.out;show bx ≠ pw;omega)
   have HLX:Hid (w9.ownsRow P.heap.size 23 3 ux rs.sh.pts.length (fl3 rs.sh.pts)):=hG9.here HUX.out (Jgr HUX.out (by have:=HPW.out;omega))
   have HLY:Hid (w9.ownsRow Q.heap.size 23 3 uy rs.sh.pts.length (fl3 rs.sh.pts)):=ho9
   have CYY:Hid (CW w9 by_ (D4.L ((rs.l u).set 5 uy))):=hb3
   simp only [RV.putL,Act.put,List.setIfInBounds_toArray,List.set_cons_zero,List.set_cons_succ,Nat.reduceAdd]
   rw [hb1]
   clear hG9 hI9 hL9 hb1 hb2 hb3 hb5 hcs9 ho9 HOW HNU HB CX CWP CO C1 C2 C3 C4 G1 G2 G3 G4 G5 G6 G7 G8 HUX
   have hrx:RestP (rs.l ux) ux:=Rs.rest rs (Jam HLX.out)
   have hry:RestP (rs.l uy) uy:=Rs.rest rs (Jam HLY.out)
   have hzx:Hid _:=Jp hrx.rest D4
   have hzy:Hid _:=Jp hry.rest D4
   have HRX:Hid (World.rangeAt w9 bx 0 (D4.L (rs.l ux))):=COO.out.range
   have HRY:Hid (World.rangeAt w9 by_ 0 (D4.L (rs.l uy))):=CYY.out.range
   obtain ⟨g0,gf0⟩:=CWW.out 0 _ rfl
   clear hrx hry
   go_wp2_with (first | refine Jw rfl 39 _ rfl bx 0 rfl _ _ HRX.out Tryz.underlying39 rfl hzx.out ?_ | refine Jw rfl 39 _ rfl by_ 0 rfl _ _ HRY.out Tryz.underlying39 rfl hzy.out ?_)
   refine Calls.mono (Jfa D4 rs ux uy _ (Lies.of_row HLX.out) (Lies.of_row HLY.out)) ?_
   rintro e VZ ⟨rfl,hbz⟩
   have HBZ:Hid (Below w0.heap.size w0 VZ):=Jd HBX.out hbz.out
   have HPX:Hid (World.rangeAt VZ bx 1 _):=(COO.out.step hbz.out).pose
   have CXZ:CW VZ xb cs:=CXX.out.step hbz.out
   rw [<- HCS.out] at CXZ
   have HPY:Hid (World.rangeAt VZ xb 1 _):=CXZ.pose
   rw [HSQ.out.1,HSQ.out.2] at HPX
   clear CXZ COO CYY CXX CWW HBX HLX HLY HRX HRY hbz g0 gf0
   go_wp2_with (first | refine Jw rfl 34 _ rfl bx 1 rfl _ _ HPX.out Tryz.underlying34 rfl (by kernel_rfl) ?_ | refine Jw rfl 34 _ rfl xb 1 rfl _ _ HPY.out Tryz.underlying34 rfl (by kernel_rfl) ?_)
   go_ret
   exact ⟨rfl,HBZ.out⟩
theorem Ji2 (os:Os) (started:os.Started) (H:Type) (enc:TypeId × Value->H) :
  ReturnsInHanded {} Tryz.checked os 7 .any (Rows.bodyOrderSpec.pre6 enc Tryz.prog Tryz.f7 Rows.bodyOrderRow.domain false) (Rows.bodyOrderSpec.post enc Tryz.prog Tryz.f7 false true false false):=by
 refine returnsInHanded_of_change (C:=Tryz.checked) own started (by kernel_rfl) Tryz.func7
  (ChangeSpec.witness6 (enc:=enc) (C:=Tryz.checked) false ⟨#[],#[.agg #[J Jk 0,J Jk 0,J Jk 0,J Jk 0,J Jk 0,.slice none 0 0,J Jk 0,J Jk 0,J Jk 0,J Jk 0,J Jk 0,J Jk 0,J Jk 0,J Jk 0,J Jk 0,J Jk 0,J Jk 0,J Jk 0,J Jk 0,J Jk 0,J Jk 0,.bool false,.bool false,J Jk 0,J Jk 0],.agg #[J Jk 0,J Jk 0,J Jk 0],.agg #[J Jk 0,J Jk 0,J Jk 0],.agg #[J Jk 0,J Jk 0,J Jk 0],.agg #[J Jk 0,J Jk 0,J Jk 0]],[]⟩ 8 (by kernel_rfl) (by kernel_rfl) (by kernel_rfl) (by kernel_rfl)) ?_
 intro W base args ds gs before hval0 hW hcnd _
 have hval:∀ (j:Nat) t v,Tryz.f7.params[j]? = some t->args[j]? = some v->Value.okWide Tryz.prog W .any base t v:=hval0
 have hW':=hW
 obtain ⟨p,q,hA0,hV,rfl,hfz,hnd⟩:=hW
 have hA:DataW.TrodAll enc Tryz.prog W 0 (fun _=>true) true Tryz.f7.params.toList args.toList ds p:=hA0
 rw [Tryz.params7] at hA hval
 obtain ⟨v0,vs0,d0,ds0,p0,q0,hargs,rfl,rfl,h0,r0⟩:=trodAll_cons hA
 obtain ⟨v1,vs1,d1,ds1,p1,q1,rfl,rfl,rfl,h1,r1⟩:=trodAll_cons r0
 obtain ⟨v2,vs2,d2,ds2,p2,q2,rfl,rfl,rfl,h2,r2⟩:=trodAll_cons r1
 obtain ⟨v3,vs3,d3,ds3,p3,q3,rfl,rfl,rfl,h3,r3⟩:=trodAll_cons r2
 obtain ⟨v4,vs4,d4,ds4,p4,q4,rfl,rfl,rfl,h4,r4⟩:=trodAll_cons r3
 obtain ⟨rfl,rfl,rfl⟩:=trodAll_nil r4
 obtain rfl:args = #[v0,v1,v2,v3,v4]:=by cases args;simp_all
 obtain ⟨rfl,rfl⟩:=trodVars_none hV
 have k0:=h0
 have lt0:∀ x ∈ p0,x.block < W.heap.size:=by obtain ⟨m,hm⟩:=k0;exact DataW.trod_lt m _ _ _ hm
 obtain ⟨kz,rz,hx,hy,hz,o,Ls,c,at0,at1,at2,qa,qb_,qc,qd,ms,fr,pp0,pp1,pp2,l0,l1,l2,fx,fa,gr,ma,rfl,hLz,hFz,hbz⟩:=Jgk (hval 0 33 v0 rfl rfl) h0
 have k1:=h1
 have lt1:∀ x ∈ p1,x.block < W.heap.size:=by obtain ⟨m,hm⟩:=k1;exact DataW.trod_lt m _ _ _ hm
 obtain ⟨am1,rfl,hbm1⟩:=Jc0 (hval 1 27 v1 rfl rfl) h1
 have k2:=h2
 have lt2:∀ x ∈ p2,x.block < W.heap.size:=by obtain ⟨m,hm⟩:=k2;exact DataW.trod_lt m _ _ _ hm
 obtain ⟨am2,rfl,hbm2⟩:=Jc0 (hval 2 27 v2 rfl rfl) h2
 have k3:=h3
 have lt3:∀ x ∈ p3,x.block < W.heap.size:=by obtain ⟨m,hm⟩:=k3;exact DataW.trod_lt m _ _ _ hm
 obtain ⟨am3,rfl,hbm3⟩:=Jc0 (hval 3 27 v3 rfl rfl) h3
 have k4:=h4
 have lt4:∀ x ∈ p4,x.block < W.heap.size:=by obtain ⟨m,hm⟩:=k4;exact DataW.trod_lt m _ _ _ hm
 obtain ⟨am4,rfl,hbm4⟩:=Jc0 (hval 4 27 v4 rfl rfl) h4
 clear hA0 hval0
 refine (Jrm kz rz hx hy hz o Ls c at0 at1 at2 qa qb_ qc qd ms fr pp0 pp1 pp2 l0 l1 l2 fx fa gr ma am1 am2 am3 am4 W hbz hLz hFz hbm1 hbm2 hbm3 hbm4).mono fun e W' ⟨he,bel⟩=>?_
 subst he
 exact ⟨_,rfl,_,_,_,[],_,[],hW',trodAll_mk1 (shut_bool Tryz.underlying4 _),(trodAll_cons_mk (Below.trod Jcs (by kernel_rfl) (of_decide_eq_true (by kernel_rfl)) k0 bel lt0) (trodAll_cons_mk (Below.trod Jcs (by kernel_rfl) (of_decide_eq_true (by kernel_rfl)) k1 bel lt1) (trodAll_cons_mk (Below.trod Jcs (by kernel_rfl) (of_decide_eq_true (by kernel_rfl)) k2 bel lt2) (trodAll_cons_mk (Below.trod Jcs (by kernel_rfl) (of_decide_eq_true (by kernel_rfl)) k3 bel lt3) (trodAll_cons_mk (Below.trod Jcs (by kernel_rfl) (of_decide_eq_true (by kernel_rfl)) k4 bel lt4) trodAll_mk0))))),rfl,bel.frame _,fun h=>by cases h⟩
theorem over:Rows.bodyOrderRow.holds Tryz.pinned (OpenSpec.ofChange Rows.bodyOrderSpec):=
 OpenClaim.holds_of_wide 7 Tryz.f7 rfl rfl rfl rfl rfl rfl rfl ⟨rfl,rfl,rfl,rfl,rfl⟩ rfl rfl rfl rfl rfl (by kernel_rfl) Tryz.func7 (by kernel_rfl)
  (of_decide_eq_true (by kernel_rfl)) (by unfold Func.isWrapper;first | (rw [if_pos (by decide +kernel)];kernel_rfl) | (rw [if_neg (by decide +kernel)];exact ⟨rfl,rfl⟩))
  (fun os started H enc _=>Ji2 os started H enc)
end bodyOrder
theorem bodyOrder_holds:Rows.BodyOrderSaid:=bodyOrder.over
#print axioms bodyOrder_holds
end
end Go.Proofs.YteebbpioffdncaaGreat
