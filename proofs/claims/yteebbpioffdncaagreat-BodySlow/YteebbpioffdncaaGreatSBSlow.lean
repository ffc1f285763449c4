/- What is capped is not too fast, and what was not too fast stays as it was: for all raw bodies and momenta. -/
import Derived.Test.YteebbpioffdncaaGreatBW26
import Derived.Test.YteebbpioffdncaaGreatBW17
import Derived.Test.YteebbpioffdncaaGreatBW12
import Derived.Test.YteebbpioffdncaaGreatBW0
import Derived.Test.YteebbpioffdncaaGreatProg
import Derived.WalkKit
import Derived.Orders
import Derived.Below
import Derived.Laws.Rows
import Derived.Test.YteebbpioffdncaaGreatBW8
import Derived.Test.YteebbpioffdncaaGreatEBSlow0
import Derived.Test.YteebbpioffdncaaGreatBW2
import Derived.RangeFuncNested
import Derived.RangeFuncBound
import Derived.RangeFuncCalls
import Derived.RangeFuncLeaves
import Derived.RangeFuncBox
import Derived.Shelf.Abstract
import Derived.OwnWalkIn
import Derived.TacticsInMore
import Derived.LoopNIn
import Derived.LoopIn
import Derived.LoopTactic
import Derived.ProofKit
import Derived.Handy
import Derived.Test.YteebbpioffdncaaGreatBW1
import Derived.Laws.MakeOwn
import Derived.Laws.OwnMore
import Derived.Maps.AppendAt
import Derived.Deep.RegionWith
import Derived.Deep.QuietTactic
import Derived.BigQuiet
import Derived.Deep.CutBlock
import Derived.Deep.CutRange
import Derived.Deep.LoopGhost
import Derived.Lib.SmallJoins
import Derived.RowKit
import Derived.OneCell
import Derived.WalkMore
import Derived.Lib.BufferMore
import Derived.Test.YteebbpioffdncaaGreatBW6
import Derived.Test.YteebbpioffdncaaGreatBW5
import Derived.Test.YteebbpioffdncaaGreatBW4
import Derived.Test.YteebbpioffdncaaGreatBW3
import Derived.Laws.MathBits
import Derived.Laws.Externs
import Derived.Laws.BitsAllLaws
import Derived.WalkLawsBesides
import Derived.Deep.MidRow
import Derived.Test.YteebbpioffdncaaGreatBW7
import Derived.Test.YteebbpioffdncaaGreatBW11
import Derived.Test.YteebbpioffdncaaGreatBW10
import Derived.Test.YteebbpioffdncaaGreatBW9
import Derived.Deep.RegionHeld3
import Derived.Test.YteebbpioffdncaaGreatBW16
import Derived.Test.YteebbpioffdncaaGreatBW15
import Derived.Test.YteebbpioffdncaaGreatBW14
import Derived.Test.YteebbpioffdncaaGreatBW13
import Derived.Test.YteebbpioffdncaaGreatBW22
import Derived.Test.YteebbpioffdncaaGreatBW21
import Derived.Test.YteebbpioffdncaaGreatBW20
import Derived.Test.YteebbpioffdncaaGreatBW19
import Derived.Test.YteebbpioffdncaaGreatBW18
import Derived.Test.YteebbpioffdncaaGreatBW25
import Derived.Test.YteebbpioffdncaaGreatBW24
import Derived.Test.YteebbpioffdncaaGreatBW23
import Derived.OpenShut
import Derived.Deep.Slices
import Derived.Test.YteebbpioffdncaaGreatEBSlow1
import Derived.Test.YteebbpioffdncaaGreatRows
set_option maxHeartbeats 32000000
set_option maxRecDepth 100000
set_option linter.unusedVariables false
namespace Go.Proofs.YteebbpioffdncaaGreat
open Go.Value renaming int -> J
open Go.IntKind renaming i64 -> Jk
section
namespace bodySlow
open Go.ChangeShapes Go.WideShapes Go.ChangeAt Go.RowKit Go.Shelf
theorem own:ownKnob Tryz.prog.godebug = none:=by kernel_rfl
theorem Jcs:laidOutB Tryz.prog = true:=by kernel_rfl
open Fx
theorem Jrm (sk sr sx sy sz:Int) (so:Option Addr) (Ls:List Pt) (sc:Nat) (at0 at1 at2 qa qb_ qc qd ms fr p0 p1 p2 l0 l1 l2:Int) (fx fa:Bool) (gr ma:Int) (v1 v2:V3) (w0:World)
  (hb:∀ v ∈ ([sk,sr,sx,sy,sz,at0,at1,at2,qa,qb_,qc,qd,ms,fr,p0,p1,p2,l0,l1,l2,gr,ma]:List Int),-9223372036854775808 <= v/\v <= 9223372036854775807) (hL:Lies w0 (.slice so Ls.length sc) Ls) (hF:∀ p ∈ Ls,p.fits) (hv1:∀ n ∈ ([v1.x,v1.y,v1.z]:List Int),-9223372036854775808 <= n/\n <= 9223372036854775807) (hv2:∀ n ∈ ([v2.x,v2.y,v2.z]:List Int),-9223372036854775808 <= n/\n <= 9223372036854775807) :
  Calls Tryz.prog 6 #[.agg #[J Jk sk,J Jk sr,J Jk sx,J Jk sy,J Jk sz,.slice so Ls.length sc,J Jk at0,J Jk at1,J Jk at2,J Jk qa,J Jk qb_,J Jk qc,J Jk qd,J Jk ms,J Jk fr,J Jk p0,J Jk p1,J Jk p2,J Jk l0,J Jk l1,J Jk l2,.bool fx,.bool fa,J Jk gr,J Jk ma],v1.val,v2.val] w0 fun e w'=>e = .returned (.bool true)/\Below w0.heap.size w0 w':=by
 have HRI:Hid _:=fun (w':World) (h:Below w0.heap.size w0 w')=>Jfs sk sr sx sy sz so Ls sc at0 at1 at2 qa qb_ qc qd ms fr p0 p1 p2 l0 l1 l2 false fa gr ma w' hb (hL.below h) hF
 have AW:Hid _:=fun W=>Jfr W
 have HV1:Hid _:=fun W=>Jcp v1.x v1.y v1.z 18014398509481984 W (hv1 _ (by simp)) (hv1 _ (by simp)) (hv1 _ (by simp)) (by decide)
 have hn1:isV ⟨J3 v1.x 18014398509481984,J3 v1.y 18014398509481984,J3 v1.z 18014398509481984⟩ 18014398509481984:=⟨Jag _ (by decide),Jag _ (by decide),Jag _ (by decide)⟩
 obtain ⟨q1,hq1⟩:∃ q:V3,(⟨J3 v1.x 18014398509481984,J3 v1.y 18014398509481984,J3 v1.z 18014398509481984⟩:V3) = q:=⟨_,rfl⟩
 have ex1:J3 v1.x 18014398509481984 = q1.x:=by rw [<- hq1]
 have ey1:J3 v1.y 18014398509481984 = q1.y:=by rw [<- hq1]
 have ez1:J3 v1.z 18014398509481984 = q1.z:=by rw [<- hq1]
 rw [ex1,ey1,ez1] at HV1
 rw [hq1] at hn1
 have HN1:Hid _:=hn1
 clear ex1 ey1 ez1 hq1 hn1 hv1
 have HV2:Hid _:=fun W=>Jcp v2.x v2.y v2.z 18014398509481984 W (hv2 _ (by simp)) (hv2 _ (by simp)) (hv2 _ (by simp)) (by decide)
 have hn2:isV ⟨J3 v2.x 18014398509481984,J3 v2.y 18014398509481984,J3 v2.z 18014398509481984⟩ 18014398509481984:=⟨Jag _ (by decide),Jag _ (by decide),Jag _ (by decide)⟩
 obtain ⟨q2,hq2⟩:∃ q:V3,(⟨J3 v2.x 18014398509481984,J3 v2.y 18014398509481984,J3 v2.z 18014398509481984⟩:V3) = q:=⟨_,rfl⟩
 have ex2:J3 v2.x 18014398509481984 = q2.x:=by rw [<- hq2]
 have ey2:J3 v2.y 18014398509481984 = q2.y:=by rw [<- hq2]
 have ez2:J3 v2.z 18014398509481984 = q2.z:=by rw [<- hq2]
 rw [ex2,ey2,ez2] at HV2
 rw [hq2] at hn2
 have HN2:Hid _:=hn2
 clear ex2 ey2 ez2 hq2 hn2 hv2
 clear hb hL hF
 obtain ⟨A0,hA0⟩:∃ V,V = w0.alloc (.cells #[J Jk sk,J Jk sr,J Jk sx,J Jk sy,J Jk sz,.slice so Ls.length sc,J Jk at0,J Jk at1,J Jk at2,J Jk qa,J Jk qb_,J Jk qc,J Jk qd,J Jk ms,J Jk fr,J Jk p0,J Jk p1,J Jk p2,J Jk l0,J Jk l1,J Jk l2,.bool fx,.bool fa,J Jk gr,J Jk ma] 33):=⟨_,rfl⟩
 obtain ⟨A1,hA1⟩:∃ V,V = A0.alloc (.cells #[J Jk v1.x,J Jk v1.y,J Jk v1.z] 27):=⟨_,rfl⟩
 obtain ⟨A2,hA2⟩:∃ V,V = A1.alloc (.cells #[J Jk v2.x,J Jk v2.y,J Jk v2.z] 27):=⟨_,rfl⟩
 obtain ⟨tb,htb⟩:∃ b,b = w0.heap.size:=⟨_,rfl⟩
 obtain ⟨b1,hb1⟩:∃ b,b = w0.heap.size + 1:=⟨_,rfl⟩
 obtain ⟨b2,hb2⟩:∃ b,b = w0.heap.size + 1 + 1:=⟨_,rfl⟩
 have z0:A0.heap.size = w0.heap.size + 1:=by rw [hA0,World.size_alloc]
 have z1:A1.heap.size = w0.heap.size + 1 + 1:=by rw [hA1,World.size_alloc,z0]
 have k0:=Jb w0 (.cells #[J Jk sk,J Jk sr,J Jk sx,J Jk sy,J Jk sz,.slice so Ls.length sc,J Jk at0,J Jk at1,J Jk at2,J Jk qa,J Jk qb_,J Jk qc,J Jk qd,J Jk ms,J Jk fr,J Jk p0,J Jk p1,J Jk p2,J Jk l0,J Jk l1,J Jk l2,.bool fx,.bool fa,J Jk gr,J Jk ma] 33)
 rw [<- hA0] at k0
 have n0:=CW.new w0 [J Jk sk,J Jk sr,J Jk sx,J Jk sy,J Jk sz,.slice so Ls.length sc,J Jk at0,J Jk at1,J Jk at2,J Jk qa,J Jk qb_,J Jk qc,J Jk qd,J Jk ms,J Jk fr,J Jk p0,J Jk p1,J Jk p2,J Jk l0,J Jk l1,J Jk l2,.bool fx,.bool fa,J Jk gr,J Jk ma] 33
 rw [<- hA0,<- htb] at n0
 have k1:=Jb A0 (.cells #[J Jk v1.x,J Jk v1.y,J Jk v1.z] 27)
 rw [<- hA1] at k1
 have n1:=CW.new A0 [J Jk v1.x,J Jk v1.y,J Jk v1.z] 27
 rw [<- hA1,z0,<- hb1] at n1
 have k2:=Jb A1 (.cells #[J Jk v2.x,J Jk v2.y,J Jk v2.z] 27)
 rw [<- hA2] at k2
 have n2:=CW.new A1 [J Jk v2.x,J Jk v2.y,J Jk v2.z] 27
 rw [<- hA2,z1,<- hb2] at n2
 have C0:Hid (CW A2 tb [J Jk sk,J Jk sr,J Jk sx,J Jk sy,J Jk sz,.slice so Ls.length sc,J Jk at0,J Jk at1,J Jk at2,J Jk qa,J Jk qb_,J Jk qc,J Jk qd,J Jk ms,J Jk fr,J Jk p0,J Jk p1,J Jk p2,J Jk l0,J Jk l1,J Jk l2,.bool fx,.bool fa,J Jk gr,J Jk ma]):=((n0.step k1).step k2)
 have C1:Hid (CW A2 b1 [J Jk v1.x,J Jk v1.y,J Jk v1.z]):=(n1.step k2)
 have C2:Hid (CW A2 b2 [J Jk v2.x,J Jk v2.y,J Jk v2.z]):=n2
 have HB:Hid (Below w0.heap.size w0 A2):=(Jd (Jd k0 k1) k2)
 have h4:=CW.lt n2
 have HLT:Hid (w0.heap.size <= tb/\tb < b1/\b1 < b2/\b2 < A2.heap.size):=by show _/\_;omega
 clear n0 k0 n1 k1 n2 k2 h4
 go_enter Tryz.func6,Tryz.ntmps6
 go_upto_region 1 with fail
 rw [<- hA0,<- hA1,<- hA2,<- hb2,<- hb1,<- htb]
 clear hA0 hA1 hA2 hb1 hb2 htb z0 z1
 go_wp2_with (fail)
 refine Calls.mono (AW.out _) ?_
 rintro e V1 ⟨rfl,HBa⟩
 have C0:Hid (CW _ _ _):=C0.out.step HBa.out
 have C1:Hid (CW _ _ _):=C1.out.step HBa.out
 have C2:Hid (CW _ _ _):=C2.out.step HBa.out
 have HB:Hid (Below w0.heap.size w0 V1):=Jd HB.out HBa.out
 have HSZ:Hid (b2 < V1.heap.size):=by have:=HBa.out.size;have h9:=HLT.out;show _ < _;omega
 clear HBa AW
 obtain ⟨g0,gf0⟩:=C0.out 21 _ rfl
 obtain ⟨Y1,hY1⟩:∃ V,V = V1.setCell ⟨tb,21,none⟩ (.bool false):=⟨_,rfl⟩
 have C0:Hid (CW Y1 tb [J Jk sk,J Jk sr,J Jk sx,J Jk sy,J Jk sz,.slice so Ls.length sc,J Jk at0,J Jk at1,J Jk at2,J Jk qa,J Jk qb_,J Jk qc,J Jk qd,J Jk ms,J Jk fr,J Jk p0,J Jk p1,J Jk p2,J Jk l0,J Jk l1,J Jk l2,.bool false,.bool fa,J Jk gr,J Jk ma]):=by show CW _ _ _;rw [hY1];exact C0.out.set 21 (.bool false) (by simp)
 have C1:Hid (CW Y1 b1 [J Jk v1.x,J Jk v1.y,J Jk v1.z]):=by show CW _ _ _;rw [hY1];have hne:tb ≠ b1:=(by have:=HLT.out;omega);exact C1.out.other (a:=⟨tb,21,none⟩) hne _
 have C2:Hid (CW Y1 b2 [J Jk v2.x,J Jk v2.y,J Jk v2.z]):=by show CW _ _ _;rw [hY1];have hne:tb ≠ b2:=(by have:=HLT.out;omega);exact C2.out.other (a:=⟨tb,21,none⟩) hne _
 have HB:Hid (Below w0.heap.size w0 Y1):=by show Below _ _ _;rw [hY1];have hw:w0.heap.size <= tb:=(by have:=HLT.out;omega);exact HB.out.setCell hw _
 have HSZ:Hid (b2 < Y1.heap.size):=by have h9:=HSZ.out;show _ < _;rw [hY1,World.size_setCell];exact h9
 go_upto_region 3 with fail
 rw [<- hY1]
 clear hY1 g0 gf0
 have HRG:Hid (World.rangeAt Y1 tb 0 [J Jk sk,J Jk sr,J Jk sx,J Jk sy,J Jk sz,.slice so Ls.length sc,J Jk at0,J Jk at1,J Jk at2,J Jk qa,J Jk qb_,J Jk qc,J Jk qd,J Jk ms,J Jk fr,J Jk p0,J Jk p1,J Jk p2,J Jk l0,J Jk l1,J Jk l2,.bool false,.bool fa,J Jk gr,J Jk ma]):=C0.out.range
 go_wp2_with (refine wpList_load_mid rfl 33 _ rfl tb 0 rfl _ _ HRG.out Tryz.underlying33 rfl (by kernel_rfl) ?_)
 refine Calls.mono (HRI.out _ HB.out) ?_
 rintro e V2 ⟨bd,rs,u,rfl,hrow,hok⟩
 have hb2_:=hrow.below
 have C0:Hid (CW _ _ _):=C0.out.step hb2_
 have C1:Hid (CW _ _ _):=C1.out.step hb2_
 have C2:Hid (CW _ _ _):=C2.out.step hb2_
 have HB:Hid (Below w0.heap.size w0 V2):=Jd HB.out hb2_
 have hRst:RestP (rs.l u) u:=Rs.rest rs (Jam hrow.row)
 have HRS:Hid _:=hRst
 obtain ⟨x,hx_⟩:∃ x,Ja1 bd = x:=⟨_,rfl⟩
 rw [hx_]
 have hy9:Hid _:=J1 hRst.rest x
 have hz9:Hid _:=Jp hRst.rest x
 have h19:Hid _:=hRst.rest.each x
 have hl9:Hid _:=hRst.rest.all x
 obtain ⟨cs,hcs⟩:∃ l,x.L (rs.l u) = l:=⟨_,rfl⟩
 rw [hcs] at hy9 hz9 h19 hl9 ⊢
 have HCS:Hid _:=hcs
 obtain ⟨X2,hX2⟩:∃ X,X = (V2.alloc (.cells #[J Jk 0,J Jk 0,J Jk 0,J Jk 0,J Jk 0,J Jk 0,J Jk 0,J Jk 0,J Jk 0,J Jk 0,J Jk 0,J Jk 0,J Jk 0,J Jk 0,J Jk 0,J Jk 0,J Jk 0,J Jk 0,J Jk 0,J Jk 0,J Jk 0,J Jk 0,J Jk 0,.slice none 0 0,J Jk 0,J Jk 0,J Jk 0,.bool false,J Jk 0,.bool false,.bool false] 39)).setCells V2.heap.size 0 cs:=⟨_,rfl⟩
 obtain ⟨NX,BX,SX,TX⟩:=Jca V2 cs hl9.out
 rw [<- hX2] at NX BX SX
 have HT9:Hid (World.there _ _ _ _):=TX
 obtain ⟨xb,hxb⟩:∃ p,p = V2.heap.size:=⟨_,rfl⟩
 rw [<- hxb] at NX
 have C0:Hid (CW _ _ _):=C0.out.step BX
 have C1:Hid (CW _ _ _):=C1.out.step BX
 have C2:Hid (CW _ _ _):=C2.out.step BX
 have HB:Hid (Below w0.heap.size w0 X2):=Jd HB.out BX
 have CX:Hid (CW X2 xb cs):=NX
 have HUX:Hid (u.ownBlock ≠ some xb):=fun e=>by have:=(hrow.row.lt _ e).2;omega
 have HRW:Hid (Row Y1 X2 u rs.sh.pts):=hrow.step BX
 have HOK:Hid _:=hok
 have HXE:Hid _:=hx_
 have HXS:Hid (Y1.heap.size <= xb/\xb < X2.heap.size):=by have h1:=hrow.below.size;have h2:=CW.lt31 NX hl9.out;show _/\_;omega
 clear hb2_ hrow hRst hcs NX BX SX TX hok hx_ HRI HRG
 go_upto_region 4 with (refine wpList_store_mid rfl 39 _ _ rfl V2.heap.size 0 _ rfl rfl HT9.out hy9.out h19.out ?_)
 rw [<- hX2,<- hxb]
 clear hX2 hxb HT9
 have HOW:Hid (X2.ownsRow Y1.heap.size 23 3 u rs.sh.pts.length (fl3 rs.sh.pts)):=HRW.out.row
 have HLN:Hid (rs.sh.pts.length <= 100000):=Jgp HOK.out.good
 clear HRW C0
 have HCP:Hid _:=HOK.out.caps HXE.out
 have HK2:Hid _:=HCP.out.2.2.2.1
 obtain ⟨P,hP⟩:∃ V,V = X2.alloc (.cells #[.bool false] 47):=⟨_,rfl⟩
 obtain ⟨pw,hpw⟩:∃ b,b = X2.heap.size:=⟨_,rfl⟩
 have hbP:Below X2.heap.size X2 P:=by rw [hP];exact Jb _ _
 have Cw:CW P pw [.bool false]:=by rw [hP,hpw];exact CW.new X2 [.bool false] 47
 have HPW:Hid (b1 < pw/\b2 < pw/\xb < pw/\b1 < xb/\b2 < xb/\b1 < b2/\w0.heap.size <= b1/\pw < P.heap.size/\Y1.heap.size <= pw/\Y1.heap.size <= xb):=by
  have e1:=HLT.out;have e2:=HSZ.out;have e3:=HXS.out;have e7:=CW.lt Cw
  show _/\_
  omega
 have HNU:Hid (u.ownBlock ≠ some pw):=fun e=>by have:=(HOW.out.lt _ e).2;omega
 have C1:Hid (CW _ _ _):=C1.out.step hbP
 have C2:Hid (CW _ _ _):=C2.out.step hbP
 have CX:Hid (CW _ _ _):=CX.out.step hbP
 have HB:Hid (Below w0.heap.size w0 P):=Jd HB.out hbP
 have HOW:Hid (P.ownsRow Y1.heap.size 23 3 u rs.sh.pts.length (fl3 rs.sh.pts)):=Jao HOW.out fun g hg=>hbP.block g (HOW.out.lt g hg).2
 have CWP:Hid (CW P pw [.bool false]):=Cw
 go_upto_region 5 with fail
 rw [<- hP,<- hpw]
 clear hP hpw hbP Cw HLT HSZ HXS
 have HRG:Hid (World.rangeAt P xb 0 cs):=CX.out.range
 have HC:Hid _:=(by have h:=Jpc pw 0 false x (rs.l u) u rs.sh.pts HRS.out HCP.out.2.2.2.2.1 HCP.out.2.2.2.2.2 P (CWP.out 0 _ rfl).1 (CWP.out 0 _ rfl).2 (Lies.of_row HOW.out) HLN.out;rw [HCP.out.2.2.1,HCP.out.2.1,HCP.out.1,show Jan x.k false = false by unfold Jan;split <;> rfl,HCS.out] at h;exact h)
 go_wp2_with (refine wpList_load_mid rfl 39 _ rfl xb 0 rfl _ _ HRG.out Tryz.underlying39 rfl hz9.out ?_)
 refine Calls.mono HC.out ?_
 rintro e M1 ⟨u1,rfl,A,HO⟩
 rw [Rs.set] at *
 have hu:=(rs.rest (Jam HO.out)).rest
 have HS0:Hid (P.heap.size <= M1.heap.size):=A.out.size
 have C1:Hid (CW _ _ _):=C1.out.after A.out (by have:=HPW.out;show b1 ≠ pw;omega)
 have C2:Hid (CW _ _ _):=C2.out.after A.out (by have:=HPW.out;show b2 ≠ pw;omega)
 have CX:Hid (CW _ _ _):=CX.out.after A.out (by have:=HPW.out;show xb ≠ pw;omega)
 have HB:Hid (Below w0.heap.size w0 M1):=A.out.leaves.below _ _ HB.out (by have:=HPW.out;show _ <= pw;omega) HB.out.size
 have HOW:Hid (M1.ownsRow Y1.heap.size 23 3 u rs.sh.pts.length (fl3 rs.sh.pts)):=Jao HOW.out fun g hg=>A.out.kept.2.2.2 g (HOW.out.lt g hg).2 (fun e=>HNU.out (by rw [hg];exact congrArg some e))
 have CWP:Hid (CW M1 pw [.bool false]):=CW.flag A.out
 clear HC HRG A
 obtain ⟨N1,B1,S1,T1⟩:=Jca M1 (x.L (rs.l u1)) (hu.all x)
 have HT:Hid (World.there _ _ _ _):=T1
 have hy:Hid _:=J1 hu x
 have h1:Hid _:=hu.each x
 have HN:Hid _:=And.intro N1 B1
 clear T1 S1 N1 B1
 dsimp only
 iterate 12 go_step
 rename_i hK
 refine hK _ _ ?_
 clear hK
 refine wpList_store_mid rfl 39 _ _ rfl M1.heap.size 0 _ rfl rfl HT.out hy.out h1.out ?_
 go_upto_region 6 with fail
 have hz1:Hid _:=Jp hu x
 generalize hQ:World.setCells (World.alloc M1 _) _ 0 _ = Q1 at HN ⊢
 obtain ⟨N1,B1⟩:=HN.out
 obtain ⟨c1,hc1⟩:∃ p,p = M1.heap.size:=⟨_,rfl⟩
 rw [<- hc1] at N1 ⊢
 have HO1:Hid (Q1.ownsRow P.heap.size 23 3 u1 rs.sh.pts.length (fl3 rs.sh.pts)):=Js HO.out B1
 have HS1:Hid (P.heap.size <= c1/\c1 < Q1.heap.size):=by have:=HS0.out;have h2:=CW.lt31 N1 (hu.all x);show _/\_;omega
 have C1:Hid (CW _ _ _):=C1.out.step B1
 have C2:Hid (CW _ _ _):=C2.out.step B1
 have CX:Hid (CW _ _ _):=CX.out.step B1
 have HB:Hid (Below w0.heap.size w0 Q1):=Jd HB.out B1
 have HOW:Hid (Q1.ownsRow Y1.heap.size 23 3 u rs.sh.pts.length (fl3 rs.sh.pts)):=Js HOW.out B1
 have CWP:Hid (CW Q1 pw [.bool false]):=CWP.out.step B1
 have CC1:Hid (CW Q1 c1 (x.L (rs.l u1))):=N1
 have HRS1:Hid _:=(rs.rest (Jam HO.out))
 clear hQ HO HT hy h1 HN N1 B1 hc1 hu HS0
 have HRX:Hid (World.rangeAt Q1 xb 0 cs):=CX.out.range
 have HRY:Hid (World.rangeAt Q1 c1 0 (x.L (rs.l u1))):=CC1.out.range
 obtain ⟨g0,gf0⟩:=CWP.out 0 _ rfl
 go_wp2_with (first | refine Jw rfl 39 _ rfl xb 0 rfl _ _ HRX.out Tryz.underlying39 rfl hz9.out ?_ | refine Jw rfl 39 _ rfl c1 0 rfl _ _ HRY.out Tryz.underlying39 rfl hz1.out ?_)
 have HSM:Hid _:=Jfa x rs u u1 Q1 (Lies.of_row HOW.out) (Lies.of_row HO1.out)
 rw [HCS.out] at HSM
 refine Calls.mono HSM.out ?_
 rintro e Q2 ⟨rfl,hbz⟩
 have C1:Hid (CW _ _ _):=C1.out.step hbz.out
 have C2:Hid (CW _ _ _):=C2.out.step hbz.out
 have CX:Hid (CW _ _ _):=CX.out.step hbz.out
 have CWP:Hid (CW _ _ _):=CWP.out.step hbz.out
 have HB:Hid (Below w0.heap.size w0 Q2):=Jd HB.out hbz.out
 have HOW:Hid (Q2.ownsRow Y1.heap.size 23 3 u rs.sh.pts.length (fl3 rs.sh.pts)):=Js HOW.out hbz.out
 have HPQ:Hid (pw < Q2.heap.size):=CW.lt CWP.out
 clear hbz HSM HRX HRY g0 gf0 CC1 HO1 HRS1 HS1 hz1
 go_upto_region 8 with fail
 obtain ⟨g0,gf0⟩:=C1.out 0 _ rfl
 obtain ⟨g1,gf1⟩:=C1.out 1 _ rfl
 obtain ⟨g2,gf2⟩:=C1.out 2 _ rfl
 go_wp2_with (fail)
 refine Calls.mono (HV1.out _) ?_
 rintro e Y10 ⟨rfl,hb⟩
 clear g0 g1 g2 gf0 gf1 gf2
 have HSY:Hid (Q2.heap.size <= Y10.heap.size):=hb.size
 have C2:Hid (CW _ _ _):=C2.out.step hb
 have CX:Hid (CW _ _ _):=CX.out.step hb
 have CWP:Hid (CW _ _ _):=CWP.out.step hb
 have HB:Hid (Below w0.heap.size w0 Y10):=Jd HB.out hb
 have HOW:Hid (Y10.ownsRow Y1.heap.size 23 3 u rs.sh.pts.length (fl3 rs.sh.pts)):=Js HOW.out hb
 rw [<- HCS.out] at CX
 obtain ⟨g0,gf0⟩:=CX.out 8 _ rfl
 obtain ⟨g1,gf1⟩:=CX.out 9 _ rfl
 obtain ⟨g2,gf2⟩:=CX.out 10 _ rfl
 obtain ⟨Z1,hZ⟩:∃ V,V = (((Y10.setCell ⟨xb,8,none⟩ (J Jk q1.x)).setCell ⟨xb,9,none⟩ (J Jk q1.y)).setCell ⟨xb,10,none⟩ (J Jk q1.z)):=⟨_,rfl⟩
 have CX:Hid (CW Z1 xb ((x.wp q1).L (rs.l u))):=by show CW _ _ _;rw [hZ];exact (((CX.out.set 8 (J Jk q1.x) (by have h:=HRS.out.rest.all x;(try simp only [List.length_set]);rw [h];decide)).set 9 (J Jk q1.y) (by have h:=HRS.out.rest.all x;(try simp only [List.length_set]);rw [h];decide)).set 10 (J Jk q1.z) (by have h:=HRS.out.rest.all x;(try simp only [List.length_set]);rw [h];decide))
 have C2:Hid (CW Z1 b2 [J Jk v2.x,J Jk v2.y,J Jk v2.z]):=by show CW _ _ _;rw [hZ];have hne:xb ≠ b2:=(by have:=HPW.out;omega);exact (((C2.out.other (a:=⟨xb,8,none⟩) hne _).other (a:=⟨xb,9,none⟩) hne _).other (a:=⟨xb,10,none⟩) hne _)
 have CWP:Hid (CW Z1 pw [.bool false]):=by show CW _ _ _;rw [hZ];have hne:xb ≠ pw:=(by have:=HPW.out;omega);exact (((CWP.out.other (a:=⟨xb,8,none⟩) hne _).other (a:=⟨xb,9,none⟩) hne _).other (a:=⟨xb,10,none⟩) hne _)
 have HB:Hid (Below w0.heap.size w0 Z1):=by show Below _ _ _;rw [hZ];have hw:w0.heap.size <= xb:=(by have:=HPW.out;omega);exact ((HB.out.setCell hw _).setCell hw _).setCell hw _
 have HOW:Hid (Z1.ownsRow Y1.heap.size 23 3 u rs.sh.pts.length (fl3 rs.sh.pts)):=by show World.ownsRow _ _ _ _ _ _ _;rw [hZ];refine Jao HOW.out fun g hg=>?_;have hne:g ≠ xb:=(fun e=>HUX.out (by rw [hg,e]));rw [Go.heap_setCell_other _ _ _ _ hne,Go.heap_setCell_other _ _ _ _ hne,Go.heap_setCell_other _ _ _ _ hne]
 go_upto_region 9 with fail
 rw [<- hZ]
 clear hZ hb g0 g1 g2 gf0 gf1 gf2 HV1 HSY
 obtain ⟨g0,gf0⟩:=C2.out 0 _ rfl
 obtain ⟨g1,gf1⟩:=C2.out 1 _ rfl
 obtain ⟨g2,gf2⟩:=C2.out 2 _ rfl
 go_wp2_with (fail)
 refine Calls.mono (HV2.out _) ?_
 rintro e Y20 ⟨rfl,hb⟩
 clear g0 g1 g2 gf0 gf1 gf2
 have HSY:Hid (Z1.heap.size <= Y20.heap.size):=hb.size
 have C2:Hid (CW _ _ _):=C2.out.step hb
 have CX:Hid (CW _ _ _):=CX.out.step hb
 have CWP:Hid (CW _ _ _):=CWP.out.step hb
 have HB:Hid (Below w0.heap.size w0 Y20):=Jd HB.out hb
 have HOW:Hid (Y20.ownsRow Y1.heap.size 23 3 u rs.sh.pts.length (fl3 rs.sh.pts)):=Js HOW.out hb
 obtain ⟨g0,gf0⟩:=CX.out 11 _ rfl
 obtain ⟨g1,gf1⟩:=CX.out 12 _ rfl
 obtain ⟨g2,gf2⟩:=CX.out 13 _ rfl
 obtain ⟨Z2,hZ⟩:∃ V,V = (((Y20.setCell ⟨xb,11,none⟩ (J Jk q2.x)).setCell ⟨xb,12,none⟩ (J Jk q2.y)).setCell ⟨xb,13,none⟩ (J Jk q2.z)):=⟨_,rfl⟩
 have CX:Hid (CW Z2 xb (((x.wp q1).wl q2).L (rs.l u))):=by show CW _ _ _;rw [hZ];exact (((CX.out.set 11 (J Jk q2.x) (by have h:=HRS.out.rest.all (x.wp q1);(try simp only [List.length_set]);rw [h];decide)).set 12 (J Jk q2.y) (by have h:=HRS.out.rest.all (x.wp q1);(try simp only [List.length_set]);rw [h];decide)).set 13 (J Jk q2.z) (by have h:=HRS.out.rest.all (x.wp q1);(try simp only [List.length_set]);rw [h];decide))
 have CWP:Hid (CW Z2 pw [.bool false]):=by show CW _ _ _;rw [hZ];have hne:xb ≠ pw:=(by have:=HPW.out;omega);exact (((CWP.out.other (a:=⟨xb,11,none⟩) hne _).other (a:=⟨xb,12,none⟩) hne _).other (a:=⟨xb,13,none⟩) hne _)
 have HB:Hid (Below w0.heap.size w0 Z2):=by show Below _ _ _;rw [hZ];have hw:w0.heap.size <= xb:=(by have:=HPW.out;omega);exact ((HB.out.setCell hw _).setCell hw _).setCell hw _
 have HOW:Hid (Z2.ownsRow Y1.heap.size 23 3 u rs.sh.pts.length (fl3 rs.sh.pts)):=by show World.ownsRow _ _ _ _ _ _ _;rw [hZ];refine Jao HOW.out fun g hg=>?_;have hne:g ≠ xb:=(fun e=>HUX.out (by rw [hg,e]));rw [Go.heap_setCell_other _ _ _ _ hne,Go.heap_setCell_other _ _ _ _ hne,Go.heap_setCell_other _ _ _ _ hne]
 go_upto_region 10 with fail
 rw [<- hZ]
 clear hZ hb g0 g1 g2 gf0 gf1 gf2 HV2 HSY
 obtain ⟨y,hy_⟩:∃ y,(x.wp q1).wl q2 = y:=⟨_,rfl⟩
 rw [hy_] at CX
 have HYK:Hid (y.k = 2):=by show y.k = 2;rw [<- hy_];exact HK2.out
 have HYP:Hid (Sml 64 y.p):=by show Sml _ _;rw [<- hy_];exact Jfx HN1.out (by decide)
 have HYL:Hid (Sml 64 y.l):=by show Sml _ _;rw [<- hy_];exact Jfx HN2.out (by decide)
 have CXZ:Hid (CW Z2 xb _):=CX.out
 have CWZ:Hid (CW Z2 pw _):=CWP.out
 obtain ⟨d,ct,g,hd,hct,hg,hdk,hds,hdq,ht,hf⟩:=Jng y HYK.out HYP.out HYL.out
 have HCN:Hid _:=fun (W:World) h1 h2 h3=>Jpc pw 0 false y (rs.l u) u rs.sh.pts HRS.out HYP.out HYL.out W h1 h2 h3 HLN.out
 rw [hd,hct,hg,Bool.false_or] at HCN
 have hz9:Hid _:=Jp HRS.out.rest y
 have HDF:Hid _:=And.intro hdk (And.intro hds (And.intro hdq (And.intro ht hf)))
 clear hd hct hg hdk hds hdq ht hf hy_ HYP HYL HCP HK2 HN1 HN2 HCS HXE HOK hy9 h19 hl9 HPQ C1 C2
 have HRG:Hid (World.rangeAt Z2 xb 0 (y.L (rs.l u))):=CX.out.range
 have HC:Hid _:=HCN.out Z2 (CWP.out 0 _ rfl).1 (CWP.out 0 _ rfl).2 (Lies.of_row HOW.out)
 go_wp2_with (refine wpList_load_mid rfl 39 _ rfl xb 0 rfl _ _ HRG.out Tryz.underlying39 rfl hz9.out ?_)
 refine Calls.mono HC.out ?_
 rintro e M3 ⟨u3,rfl,A,HO⟩
 rw [Rs.set] at *
 have hu:=(rs.rest (Jam HO.out)).rest
 have HS0:Hid (Z2.heap.size <= M3.heap.size):=A.out.size
 have CX:Hid (CW _ _ _):=CX.out.after A.out (by have:=HPW.out;show xb ≠ pw;omega)
 have HB:Hid (Below w0.heap.size w0 M3):=A.out.leaves.below _ _ HB.out (by have:=HPW.out;show _ <= pw;omega) HB.out.size
 have HOW:Hid (M3.ownsRow Y1.heap.size 23 3 u rs.sh.pts.length (fl3 rs.sh.pts)):=Jao HOW.out fun g hg=>A.out.kept.2.2.2 g (HOW.out.lt g hg).2 (fun e=>HNU.out (by rw [hg];exact congrArg some e))
 have CWP:Hid (CW M3 pw [.bool g]):=CW.flag A.out
 clear HC HRG A
 obtain ⟨N1,B1,S1,T1⟩:=Jca M3 (d.L (rs.l u3)) (hu.all d)
 have HT:Hid (World.there _ _ _ _):=T1
 have hy:Hid _:=J1 hu d
 have h1:Hid _:=hu.each d
 have HN:Hid _:=And.intro N1 B1
 clear T1 S1 N1 B1
 dsimp only
 iterate 12 go_step
 rename_i hK
 refine hK _ _ ?_
 clear hK
 refine wpList_store_mid rfl 39 _ _ rfl M3.heap.size 0 _ rfl rfl HT.out hy.out h1.out ?_
 go_upto_region 11 with fail
 have hz3:Hid _:=Jp hu d
 generalize hQ:World.setCells (World.alloc M3 _) _ 0 _ = Q3 at HN ⊢
 obtain ⟨N1,B1⟩:=HN.out
 obtain ⟨c3,hc3⟩:∃ p,p = M3.heap.size:=⟨_,rfl⟩
 rw [<- hc3] at N1 ⊢
 have HO3:Hid (Q3.ownsRow Z2.heap.size 23 3 u3 rs.sh.pts.length (fl3 rs.sh.pts)):=Js HO.out B1
 have HS3:Hid (Z2.heap.size <= c3/\c3 < Q3.heap.size):=by have:=HS0.out;have h2:=CW.lt31 N1 (hu.all d);show _/\_;omega
 have CX:Hid (CW _ _ _):=CX.out.step B1
 have HB:Hid (Below w0.heap.size w0 Q3):=Jd HB.out B1
 have HOW:Hid (Q3.ownsRow Y1.heap.size 23 3 u rs.sh.pts.length (fl3 rs.sh.pts)):=Js HOW.out B1
 have CWP:Hid (CW Q3 pw [.bool g]):=CWP.out.step B1
 have CC3:Hid (CW Q3 c3 (d.L (rs.l u3))):=N1
 have HRS3:Hid _:=(rs.rest (Jam HO.out))
 clear hQ HO HT hy h1 HN N1 B1 hc3 hu HS0
 have HN3:Hid (pw < c3/\xb < c3):=by have:=HPW.out;have h2:=HS3.out;have h3:=CW.lt31 CXZ.out (HRS.out.rest.all y);have h4:=CW.lt CWZ.out;show _/\_;omega
 clear CXZ CWZ HCN HNU
 obtain ⟨g0,gf0⟩:=CWP.out 0 _ rfl
 cases g with
 | true =>
  obtain ⟨rfl,rfl⟩:=HDF.out.2.2.2.1 rfl
  have HRX:Hid (World.rangeAt Q3 xb 0 (d.L (rs.l u))):=CX.out.range
  have HRY:Hid (World.rangeAt Q3 c3 0 (d.L (rs.l u3))):=CC3.out.range
  clear HDF
  go_wp2_with (first | refine Jw rfl 39 _ rfl xb 0 rfl _ _ HRX.out Tryz.underlying39 rfl hz9.out ?_ | refine Jw rfl 39 _ rfl c3 0 rfl _ _ HRY.out Tryz.underlying39 rfl hz3.out ?_)
  refine Calls.mono (Jfa d rs u u3 Q3 (Lies.of_row HOW.out) (Lies.of_row HO3.out)) ?_
  rintro e Q4 ⟨rfl,hbz⟩
  have HB:Hid (Below w0.heap.size w0 Q4):=Jd HB.out hbz.out
  clear hbz
  go_wp2_with (fail)
  go_ret
  exact ⟨rfl,HB.out⟩
 | false =>
  obtain ⟨n1,hn1⟩:∃ n,Jes (if2 d.k (Jbj d)) = n:=⟨_,rfl⟩
  obtain ⟨n2,hn2⟩:∃ n,Jes (if2 d.k (Jau d d.l)) = n:=⟨_,rfl⟩
  obtain ⟨m1,m2,m3⟩:=HDF.out.2.2.2.2 rfl
  rw [hn1] at m1
  rw [hn2] at m2
  have HM3:Hid _:=m3
  have HN1:Hid _:=hn1
  have HN2:Hid _:=hn2
  obtain ⟨U,hU⟩:∃ V,V = Q3.alloc (.cells #[.bool false] 53):=⟨_,rfl⟩
  obtain ⟨po,hpo⟩:∃ b,b = Q3.heap.size:=⟨_,rfl⟩
  have hbU:Below Q3.heap.size Q3 U:=by rw [hU];exact Jb _ _
  have Co:CW U po [.bool false]:=by rw [hU,hpo];exact CW.new Q3 [.bool false] 53
  have HPO:Hid (pw < po/\xb < po/\c3 < po/\w0.heap.size <= po):=by have h1:=HS3.out;have h2:=HN3.out;have h3:=HPW.out;have h4:=HB.out.size;show _/\_;omega
  have HGQ:Hid (GQ w0 pw po c3 xb (d.L (rs.l u3)) (y.L (rs.l u)) U):=⟨⟨_,CWP.out.step hbU⟩,⟨_,Co⟩,CC3.out.step hbU,CX.out.step hbU,Jd HB.out hbU,by have h2:=HN3.out;have h3:=HPW.out;have h4:=HPO.out;omega⟩
  have HLE:Hid _:=And.intro m1 m2
  clear m3 hn1 hn2 Co m1 m2 CWP CX CC3 HB HOW HO3 hbU
  go_upto_region 14 with fail
  rw [<- hU,<- hpo]
  clear hU hpo g0 gf0
  obtain ⟨fl,hfl⟩:=HGQ.out.fw
  have HC:Hid _:=Jew pw 0 fl d (rs.l u3) HRS3.out.rest U (hfl 0 _ rfl).1 (hfl 0 _ rfl).2
  have HRD:Hid (World.rangeAt U c3 0 (d.L (rs.l u3))):=HGQ.out.d.range
  clear hfl
  go_wp2_with (refine wpList_load_mid rfl 39 _ rfl c3 0 rfl _ _ HRD.out Tryz.underlying39 rfl hz3.out ?_)
  refine Calls.mono HC.out ?_
  rintro e K1 ⟨rfl,A⟩
  have HGQ:Hid (GQ w0 pw po c3 xb (d.L (rs.l u3)) (y.L (rs.l u)) K1):=HGQ.out.fl A.out
  clear HC A HRD
  obtain ⟨fl,hfl⟩:=HGQ.out.fo
  have HC:Hid _:=Jko po 0 fl (if2 d.k (Jbj d)) K1 (hfl 0 _ rfl).1 (hfl 0 _ rfl).2
  skip
  clear hfl
  go_wp2_with (fail)
  refine Calls.mono HC.out ?_
  rintro e K2 ⟨rfl,A⟩
  have HGQ:Hid (GQ w0 pw po c3 xb (d.L (rs.l u3)) (y.L (rs.l u)) K2):=HGQ.out.fo_ A.out
  clear HC A
  rw [HN1.out]
  have m1:decide ((274877906944:Int) < n1) = false:=decide_eq_false (by have:=HLE.out.1;omega)
  obtain ⟨fl,hfl⟩:=HGQ.out.fw
  have HC:Hid _:=Jll pw 0 fl d (rs.l u3) HRS3.out.rest K2 (hfl 0 _ rfl).1 (hfl 0 _ rfl).2
  have HRD:Hid (World.rangeAt K2 c3 0 (d.L (rs.l u3))):=HGQ.out.d.range
  clear hfl
  go_wp2_with (first | refine Jw rfl 39 _ rfl c3 0 rfl _ _ HRD.out Tryz.underlying39 rfl hz3.out ?_)
  refine Calls.mono HC.out ?_
  rintro e K3 ⟨rfl,A⟩
  have HGQ:Hid (GQ w0 pw po c3 xb (d.L (rs.l u3)) (y.L (rs.l u)) K3):=HGQ.out.fl A.out
  clear HC A HRD
  obtain ⟨fl,hfl⟩:=HGQ.out.fo
  have HC:Hid _:=Jko po 0 fl (if2 d.k (Jau d d.l)) K3 (hfl 0 _ rfl).1 (hfl 0 _ rfl).2
  skip
  clear hfl
  go_wp2_with (fail)
  refine Calls.mono HC.out ?_
  rintro e K4 ⟨rfl,A⟩
  have HGQ:Hid (GQ w0 pw po c3 xb (d.L (rs.l u3)) (y.L (rs.l u)) K4):=HGQ.out.fo_ A.out
  clear HC A
  rw [HN2.out]
  have m2:decide ((68719476736:Int) < n2) = false:=decide_eq_false (by have:=HLE.out.2;omega)
  obtain ⟨hGd,hGy,hGb⟩:CW K4 c3 (d.L (rs.l u3))/\CW K4 xb (y.L (rs.l u))/\Below w0.heap.size w0 K4:=⟨HGQ.out.d,HGQ.out.y,HGQ.out.below⟩
  have HPX:Hid (World.rangeAt K4 c3 1 _):=hGd.pose
  have HPY:Hid (World.rangeAt K4 xb 1 _):=hGy.pose
  rw [HDF.out.2.1,HDF.out.2.2.1] at HPX
  have HBB:Hid _:=hGb
  have HCT:Hid _:=HM3.out
  have HGD:Hid (CW _ _ _):=hGd
  have HGY:Hid (CW _ _ _):=hGy
  clear HGQ HM3 HDF HLE HN1 HN2 hGd hGy hGb
  go_upto_region 16 with fail
  clear m1 m2
  have e8:=(HGD.out 8 _ rfl).1
  have f8:=(HGY.out 8 _ rfl).1
  have e9:=(HGD.out 9 _ rfl).1
  have f9:=(HGY.out 9 _ rfl).1
  have e10:=(HGD.out 10 _ rfl).1
  have f10:=(HGY.out 10 _ rfl).1
  have e11:=(HGD.out 11 _ rfl).1
  have f11:=(HGY.out 11 _ rfl).1
  have e12:=(HGD.out 12 _ rfl).1
  have f12:=(HGY.out 12 _ rfl).1
  have e13:=(HGD.out 13 _ rfl).1
  have f13:=(HGY.out 13 _ rfl).1
  clear HGD HGY
  by_cases k1:d.p = y.p
  ·rw [k1] at e8 e9 e10
   by_cases k2:d.l = y.l
   ·rw [k2] at e11 e12 e13
    obtain rfl:ct = false:=by
     cases ct with
     | false=>rfl
     | true=>rcases HCT.out.1 rfl with h | h <;> contradiction
    clear k1 k2 HCT
    go_wp2_with (first | refine Jw rfl 34 _ rfl c3 1 rfl _ _ HPX.out Tryz.underlying34 rfl (by kernel_rfl) ?_ | refine Jw rfl 34 _ rfl xb 1 rfl _ _ HPY.out Tryz.underlying34 rfl (by kernel_rfl) ?_)
    go_ret
    exact ⟨rfl,HBB.out⟩
   ·obtain rfl:ct = true:=HCT.out.2 (Or.inr k2)
    have k3:=Jur k2
    clear k1 k2 HCT
    go_wp2_with (first | refine Jw rfl 34 _ rfl c3 1 rfl _ _ HPX.out Tryz.underlying34 rfl (by kernel_rfl) ?_ | refine Jw rfl 34 _ rfl xb 1 rfl _ _ HPY.out Tryz.underlying34 rfl (by kernel_rfl) ?_)
    all_goals (go_ret;exact ⟨rfl,HBB.out⟩)
  ·obtain rfl:ct = true:=HCT.out.2 (Or.inl k1)
   have k3:=Jur k1
   clear k1 HCT
   go_wp2_with (first | refine Jw rfl 34 _ rfl c3 1 rfl _ _ HPX.out Tryz.underlying34 rfl (by kernel_rfl) ?_ | refine Jw rfl 34 _ rfl xb 1 rfl _ _ HPY.out Tryz.underlying34 rfl (by kernel_rfl) ?_)
   all_goals (go_ret;exact ⟨rfl,HBB.out⟩)
theorem Ji2 (os:Os) (started:os.Started) (H:Type) (enc:TypeId × Value->H) :
  ReturnsInHanded {} Tryz.checked os 6 .any (Rows.bodySlowSpec.pre6 enc Tryz.prog Tryz.f6 Rows.bodySlowRow.domain false) (Rows.bodySlowSpec.post enc Tryz.prog Tryz.f6 false true false false):=by
 refine returnsInHanded_of_change (C:=Tryz.checked) own started (by kernel_rfl) Tryz.func6
  (ChangeSpec.witness6 (enc:=enc) (C:=Tryz.checked) false ⟨#[],#[.agg #[J Jk 0,J Jk 0,J Jk 0,J Jk 0,J Jk 0,.slice none 0 0,J Jk 0,J Jk 0,J Jk 0,J Jk 0,J Jk 0,J Jk 0,J Jk 0,J Jk 0,J Jk 0,J Jk 0,J Jk 0,J Jk 0,J Jk 0,J Jk 0,J Jk 0,.bool false,.bool false,J Jk 0,J Jk 0],.agg #[J Jk 0,J Jk 0,J Jk 0],.agg #[J Jk 0,J Jk 0,J Jk 0]],[]⟩ 8 (by kernel_rfl) (by kernel_rfl) (by kernel_rfl) (by kernel_rfl)) ?_
 intro W base args ds gs before hval0 hW hcnd _
 have hval:∀ (j:Nat) t v,Tryz.f6.params[j]? = some t->args[j]? = some v->Value.okWide Tryz.prog W .any base t v:=hval0
 have hW':=hW
 obtain ⟨p,q,hA0,hV,rfl,hfz,hnd⟩:=hW
 have hA:DataW.TrodAll enc Tryz.prog W 0 (fun _=>true) true Tryz.f6.params.toList args.toList ds p:=hA0
 rw [Tryz.params6] at hA hval
 obtain ⟨v0,vs0,d0,ds0,p0,q0,hargs,rfl,rfl,h0,r0⟩:=trodAll_cons hA
 obtain ⟨v1,vs1,d1,ds1,p1,q1,rfl,rfl,rfl,h1,r1⟩:=trodAll_cons r0
 obtain ⟨v2,vs2,d2,ds2,p2,q2,rfl,rfl,rfl,h2,r2⟩:=trodAll_cons r1
 obtain ⟨rfl,rfl,rfl⟩:=trodAll_nil r2
 obtain rfl:args = #[v0,v1,v2]:=by cases args;simp_all
 obtain ⟨rfl,rfl⟩:=trodVars_none hV
 have k0:=h0
 have lt0:∀ x ∈ p0,x.block < W.heap.size:=by obtain ⟨m,hm⟩:=k0;exact DataW.trod_lt m _ _ _ hm
 obtain ⟨kz,rz,hx,hy,hz,o,Ls,c,at0,at1,at2,qa,qb_,qc,qd,ms,fr,pp0,pp1,pp2,l0,l1,l2,fx,fa,gr,ma,rfl,hLz,hFz,hbz⟩:=Jgk (hval 0 33 v0 rfl rfl) h0
 have k1:=h1
 have lt1:∀ x ∈ p1,x.block < W.heap.size:=by obtain ⟨m,hm⟩:=k1;exact DataW.trod_lt m _ _ _ hm
 obtain ⟨am1,rfl,hbm1⟩:=Jc0 (hval 1 27 v1 rfl rfl) h1
 have k2:=h2
 have lt2:∀ x ∈ p2,x.block < W.heap.size:=by obtain ⟨m,hm⟩:=k2;exact DataW.trod_lt m _ _ _ hm
 obtain ⟨am2,rfl,hbm2⟩:=Jc0 (hval 2 27 v2 rfl rfl) h2
 clear hA0 hval0
 refine (Jrm kz rz hx hy hz o Ls c at0 at1 at2 qa qb_ qc qd ms fr pp0 pp1 pp2 l0 l1 l2 fx fa gr ma am1 am2 W hbz hLz hFz hbm1 hbm2).mono fun e W' ⟨he,bel⟩=>?_
 subst he
 exact ⟨_,rfl,_,_,_,[],_,[],hW',trodAll_mk1 (shut_bool Tryz.underlying4 _),(trodAll_cons_mk (Below.trod Jcs (by kernel_rfl) (of_decide_eq_true (by kernel_rfl)) k0 bel lt0) (trodAll_cons_mk (Below.trod Jcs (by kernel_rfl) (of_decide_eq_true (by kernel_rfl)) k1 bel lt1) (trodAll_cons_mk (Below.trod Jcs (by kernel_rfl) (of_decide_eq_true (by kernel_rfl)) k2 bel lt2) trodAll_mk0))),rfl,bel.frame _,fun h=>by cases h⟩
theorem over:Rows.bodySlowRow.holds Tryz.pinned (OpenSpec.ofChange Rows.bodySlowSpec):=
 OpenClaim.holds_of_wide 6 Tryz.f6 rfl rfl rfl rfl rfl rfl rfl ⟨rfl,rfl,rfl,rfl,rfl⟩ rfl rfl rfl rfl rfl (by kernel_rfl) Tryz.func6 (by kernel_rfl)
  (of_decide_eq_true (by kernel_rfl)) (by unfold Func.isWrapper;first | (rw [if_pos (by decide +kernel)];kernel_rfl) | (rw [if_neg (by decide +kernel)];exact ⟨rfl,rfl⟩))
  (fun os started H enc _=>Ji2 os started H enc)
end bodySlow
theorem bodySlow_holds:Rows.BodySlowSaid:=bodySlow.over
#print axioms bodySlow_holds
end
end Go.Proofs.YteebbpioffdncaaGreat
