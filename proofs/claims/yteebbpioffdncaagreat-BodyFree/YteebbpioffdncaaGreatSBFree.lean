/- A body that no one pushes keeps its momenta, and its speed; one that is fixed stays: for all raw bodies and numbers of steps. -/
import Derived.Test.YteebbpioffdncaaGreatBW26
import Derived.Test.YteebbpioffdncaaGreatBW17
import Derived.Test.YteebbpioffdncaaGreatBW12
import Derived.Test.YteebbpioffdncaaGreatBW0
import Derived.Test.YteebbpioffdncaaGreatProg
import Derived.WalkKit
import Derived.Orders
import Derived.Below
import Derived.Laws.Rows
import Derived.Test.YteebbpioffdncaaGreatBW8
import Derived.Test.YteebbpioffdncaaGreatEBFree0
import Derived.Test.YteebbpioffdncaaGreatBW2
import Derived.RangeFuncNested
import Derived.RangeFuncBound
import Derived.RangeFuncCalls
import Derived.RangeFuncLeaves
import Derived.RangeFuncBox
import Derived.Shelf.Abstract
import Derived.OwnWalkIn
import Derived.TacticsInMore
import Derived.LoopNIn
import Derived.LoopIn
import Derived.LoopTactic
import Derived.ProofKit
import Derived.Handy
import Derived.Test.YteebbpioffdncaaGreatBW1
import Derived.Laws.MakeOwn
import Derived.Laws.OwnMore
import Derived.Maps.AppendAt
import Derived.Deep.RegionWith
import Derived.Deep.QuietTactic
import Derived.BigQuiet
import Derived.Deep.CutBlock
import Derived.Deep.CutRange
import Derived.Deep.LoopGhost
import Derived.Lib.SmallJoins
import Derived.RowKit
import Derived.OneCell
import Derived.WalkMore
import Derived.Lib.BufferMore
import Derived.Test.YteebbpioffdncaaGreatBW6
import Derived.Test.YteebbpioffdncaaGreatBW5
import Derived.Test.YteebbpioffdncaaGreatBW4
import Derived.Test.YteebbpioffdncaaGreatBW3
import Derived.Laws.MathBits
import Derived.Laws.Externs
import Derived.Laws.BitsAllLaws
import Derived.WalkLawsBesides
import Derived.Deep.MidRow
import Derived.Test.YteebbpioffdncaaGreatBW7
import Derived.Test.YteebbpioffdncaaGreatBW11
import Derived.Test.YteebbpioffdncaaGreatBW10
import Derived.Test.YteebbpioffdncaaGreatBW9
import Derived.Deep.RegionHeld3
import Derived.Test.YteebbpioffdncaaGreatBW16
import Derived.Test.YteebbpioffdncaaGreatBW15
import Derived.Test.YteebbpioffdncaaGreatBW14
import Derived.Test.YteebbpioffdncaaGreatBW13
import Derived.Test.YteebbpioffdncaaGreatBW22
import Derived.Test.YteebbpioffdncaaGreatBW21
import Derived.Test.YteebbpioffdncaaGreatBW20
import Derived.Test.YteebbpioffdncaaGreatBW19
import Derived.Test.YteebbpioffdncaaGreatBW18
import Derived.Test.YteebbpioffdncaaGreatBW25
import Derived.Test.YteebbpioffdncaaGreatBW24
import Derived.Test.YteebbpioffdncaaGreatBW23
import Derived.OpenShut
import Derived.Deep.Slices
import Derived.Test.YteebbpioffdncaaGreatRows
set_option maxHeartbeats 32000000
set_option maxRecDepth 100000
set_option linter.unusedVariables false
namespace Go.Proofs.YteebbpioffdncaaGreat
open Go.Value renaming int -> J
open Go.IntKind renaming i64 -> Jk
section
namespace bodyFree
open Go.ChangeShapes Go.WideShapes Go.ChangeAt Go.RowKit Go.Shelf
theorem own:ownKnob Tryz.prog.godebug = none:=by kernel_rfl
theorem Jcs:laidOutB Tryz.prog = true:=by kernel_rfl
open Fx
theorem Jrm (sk sr sx sy sz:Int) (so:Option Addr) (Ls:List Pt) (sc:Nat) (at0 at1 at2 qa qb_ qc qd ms fr p0 p1 p2 l0 l1 l2:Int) (fx fa:Bool) (gr ma:Int) (st:Int) (w0:World)
  (hb:∀ v ∈ ([sk,sr,sx,sy,sz,at0,at1,at2,qa,qb_,qc,qd,ms,fr,p0,p1,p2,l0,l1,l2,gr,ma]:List Int),-9223372036854775808 <= v/\v <= 9223372036854775807) (hL:Lies w0 (.slice so Ls.length sc) Ls) (hF:∀ p ∈ Ls,p.fits)  (hst:-9223372036854775808 <= st/\st <= 9223372036854775807) :
  Calls Tryz.prog 5 #[.agg #[J Jk sk,J Jk sr,J Jk sx,J Jk sy,J Jk sz,.slice so Ls.length sc,J Jk at0,J Jk at1,J Jk at2,J Jk qa,J Jk qb_,J Jk qc,J Jk qd,J Jk ms,J Jk fr,J Jk p0,J Jk p1,J Jk p2,J Jk l0,J Jk l1,J Jk l2,.bool fx,.bool fa,J Jk gr,J Jk ma],J Jk st] w0 fun e w'=>e = .returned (.bool true)/\Below w0.heap.size w0 w':=by
 have HRI:Hid _:=fun (w':World) (h:Below w0.heap.size w0 w')=>Jfs sk sr sx sy sz so Ls sc at0 at1 at2 qa qb_ qc qd ms fr p0 p1 p2 l0 l1 l2 fx fa gr ma w' hb (hL.below h) hF
 have AW:Hid _:=fun W=>Jfr W
 clear hb hL hF
 obtain ⟨A0,hA0⟩:∃ V,V = w0.alloc (.cells #[J Jk sk,J Jk sr,J Jk sx,J Jk sy,J Jk sz,.slice so Ls.length sc,J Jk at0,J Jk at1,J Jk at2,J Jk qa,J Jk qb_,J Jk qc,J Jk qd,J Jk ms,J Jk fr,J Jk p0,J Jk p1,J Jk p2,J Jk l0,J Jk l1,J Jk l2,.bool fx,.bool fa,J Jk gr,J Jk ma] 33):=⟨_,rfl⟩
 obtain ⟨tb,htb⟩:∃ b,b = w0.heap.size:=⟨_,rfl⟩
 have k0:=Jb w0 (.cells #[J Jk sk,J Jk sr,J Jk sx,J Jk sy,J Jk sz,.slice so Ls.length sc,J Jk at0,J Jk at1,J Jk at2,J Jk qa,J Jk qb_,J Jk qc,J Jk qd,J Jk ms,J Jk fr,J Jk p0,J Jk p1,J Jk p2,J Jk l0,J Jk l1,J Jk l2,.bool fx,.bool fa,J Jk gr,J Jk ma] 33)
 rw [<- hA0] at k0
 have n0:=CW.new w0 [J Jk sk,J Jk sr,J Jk sx,J Jk sy,J Jk sz,.slice so Ls.length sc,J Jk at0,J Jk at1,J Jk at2,J Jk qa,J Jk qb_,J Jk qc,J Jk qd,J Jk ms,J Jk fr,J Jk p0,J Jk p1,J Jk p2,J Jk l0,J Jk l1,J Jk l2,.bool fx,.bool fa,J Jk gr,J Jk ma] 33
 rw [<- hA0,<- htb] at n0
 have C0:Hid (CW A0 tb [J Jk sk,J Jk sr,J Jk sx,J Jk sy,J Jk sz,.slice so Ls.length sc,J Jk at0,J Jk at1,J Jk at2,J Jk qa,J Jk qb_,J Jk qc,J Jk qd,J Jk ms,J Jk fr,J Jk p0,J Jk p1,J Jk p2,J Jk l0,J Jk l1,J Jk l2,.bool fx,.bool fa,J Jk gr,J Jk ma]):=n0
 have HB:Hid (Below w0.heap.size w0 A0):=k0
 have h4:=CW.lt n0
 have HLT:Hid (w0.heap.size <= tb/\tb < A0.heap.size):=by show _/\_;omega
 clear n0 k0 h4
 go_enter Tryz.func5,Tryz.ntmps5
 go_upto_region 1 with fail
 rw [<- hA0,<- htb]
 clear hA0  htb
 go_wp2_with (fail)
 refine Calls.mono (AW.out _) ?_
 rintro e V1 ⟨rfl,HBa⟩
 have C0:Hid (CW _ _ _):=C0.out.step HBa.out
 have HB:Hid (Below w0.heap.size w0 V1):=Jd HB.out HBa.out
 have HSZ:Hid (tb < V1.heap.size):=by have:=HBa.out.size;have h9:=HLT.out;show _ < _;omega
 clear HBa AW
 have HRG:Hid (World.rangeAt V1 tb 0 [J Jk sk,J Jk sr,J Jk sx,J Jk sy,J Jk sz,.slice so Ls.length sc,J Jk at0,J Jk at1,J Jk at2,J Jk qa,J Jk qb_,J Jk qc,J Jk qd,J Jk ms,J Jk fr,J Jk p0,J Jk p1,J Jk p2,J Jk l0,J Jk l1,J Jk l2,.bool fx,.bool fa,J Jk gr,J Jk ma]):=C0.out.range
 go_wp2_with (refine wpList_load_mid rfl 33 _ rfl tb 0 rfl _ _ HRG.out Tryz.underlying33 rfl (by kernel_rfl) ?_)
 refine Calls.mono (HRI.out _ HB.out) ?_
 rintro e V2 ⟨bd,rs,u,rfl,hrow,hok⟩
 have hb2_:=hrow.below
 have C0:Hid (CW _ _ _):=C0.out.step hb2_
 have HB:Hid (Below w0.heap.size w0 V2):=Jd HB.out hb2_
 have hRst:RestP (rs.l u) u:=Rs.rest rs (Jam hrow.row)
 have HRS:Hid _:=hRst
 obtain ⟨x,hx_⟩:∃ x,Ja1 bd = x:=⟨_,rfl⟩
 rw [hx_]
 have hy9:Hid _:=J1 hRst.rest x
 have hz9:Hid _:=Jp hRst.rest x
 have h19:Hid _:=hRst.rest.each x
 have hl9:Hid _:=hRst.rest.all x
 obtain ⟨cs,hcs⟩:∃ l,x.L (rs.l u) = l:=⟨_,rfl⟩
 rw [hcs] at hy9 hz9 h19 hl9 ⊢
 have HCS:Hid _:=hcs
 obtain ⟨X2,hX2⟩:∃ X,X = (V2.alloc (.cells #[J Jk 0,J Jk 0,J Jk 0,J Jk 0,J Jk 0,J Jk 0,J Jk 0,J Jk 0,J Jk 0,J Jk 0,J Jk 0,J Jk 0,J Jk 0,J Jk 0,J Jk 0,J Jk 0,J Jk 0,J Jk 0,J Jk 0,J Jk 0,J Jk 0,J Jk 0,J Jk 0,.slice none 0 0,J Jk 0,J Jk 0,J Jk 0,.bool false,J Jk 0,.bool false,.bool false] 39)).setCells V2.heap.size 0 cs:=⟨_,rfl⟩
 obtain ⟨NX,BX,SX,TX⟩:=Jca V2 cs hl9.out
 rw [<- hX2] at NX BX SX
 have HT9:Hid (World.there _ _ _ _):=TX
 obtain ⟨xb,hxb⟩:∃ p,p = V2.heap.size:=⟨_,rfl⟩
 rw [<- hxb] at NX
 have C0:Hid (CW _ _ _):=C0.out.step BX
 have HB:Hid (Below w0.heap.size w0 X2):=Jd HB.out BX
 have CX:Hid (CW X2 xb cs):=NX
 have HUX:Hid (u.ownBlock ≠ some xb):=fun e=>by have:=(hrow.row.lt _ e).2;omega
 have HRW:Hid (Row V1 X2 u rs.sh.pts):=hrow.step BX
 have HOK:Hid _:=hok
 have HXE:Hid _:=hx_
 have HXS:Hid (V1.heap.size <= xb/\xb < X2.heap.size):=by have h1:=hrow.below.size;have h2:=CW.lt31 NX hl9.out;show _/\_;omega
 clear hb2_ hrow hRst hcs NX BX SX TX hok hx_ HRI HRG
 go_upto_region 3 with (refine wpList_store_mid rfl 39 _ _ rfl V2.heap.size 0 _ rfl rfl HT9.out hy9.out h19.out ?_)
 rw [<- hX2,<- hxb]
 clear hX2 hxb HT9
 have HOW:Hid (X2.ownsRow V1.heap.size 23 3 u rs.sh.pts.length (fl3 rs.sh.pts)):=HRW.out.row
 have HLN:Hid (rs.sh.pts.length <= 100000):=Jgp HOK.out.good
 clear HRW
 have HFR:Hid _:=HOK.out.free HXE.out
 have HPK:Hid _:=fun w=>Je9 st 40 w hst (by decide) (by decide)
 have hn0:=Jb3 st (n:=40) (by decide)
 have hn1:=Jb5 st (n:=40) (by decide)
 generalize Jbr st 40 = n at HPK hn0 hn1
 clear hst
 obtain ⟨P,hP⟩:∃ V,V = X2.alloc (.cells #[.bool false] 47):=⟨_,rfl⟩
 obtain ⟨pw,hpw⟩:∃ b,b = X2.heap.size:=⟨_,rfl⟩
 have hbP:Below X2.heap.size X2 P:=by rw [hP];exact Jb _ _
 have Cw:CW P pw [.bool false]:=by rw [hP,hpw];exact CW.new X2 [.bool false] 47
 have HPW:Hid (w0.heap.size <= tb/\tb < xb/\xb < pw/\pw < P.heap.size):=by
  have e1:=HLT.out;have e2:=HSZ.out;have e3:=HXS.out;have e7:=CW.lt Cw
  show _/\_
  omega
 have HNU:Hid (u.ownBlock ≠ some pw):=fun e=>by have:=(HOW.out.lt _ e).2;omega
 have C0:Hid (CW _ _ _):=C0.out.step hbP
 have CX:Hid (CW _ _ _):=CX.out.step hbP
 have HB:Hid (Below w0.heap.size w0 P):=Jd HB.out hbP
 have HOW:Hid (P.ownsRow V1.heap.size 23 3 u rs.sh.pts.length (fl3 rs.sh.pts)):=Jao HOW.out fun g hg=>hbP.block g (HOW.out.lt g hg).2
 have CWP:Hid (CW P pw [.bool false]):=Cw
 go_upto_region 4 with fail
 rw [<- hP,<- hpw]
 clear hP hpw hbP Cw HLT HSZ HXS
 have HRG:Hid (World.rangeAt P xb 0 cs):=CX.out.range
 have HC:Hid _:=Jew pw 0 false x (rs.l u) HRS.out.rest P (CWP.out 0 _ rfl).1 (CWP.out 0 _ rfl).2
 obtain ⟨v,hv⟩:∃ v,if2 x.k (Jbj x) = v:=⟨_,rfl⟩
 have hfl:Jan x.k (Jdy x) = false:=by
  unfold Jan
  split
  ·exact HFR.out.2.2.2.1 (by assumption)
  ·rfl
 rw [hv,hfl,HCS.out] at HC
 have HVE:Hid _:=hv
 clear hv hfl
 go_wp2_with (refine wpList_load_mid rfl 39 _ rfl xb 0 rfl _ _ HRG.out Tryz.underlying39 rfl hz9.out ?_)
 refine Calls.mono HC.out ?_
 rintro e M ⟨rfl,A⟩
 have C0:Hid (CW _ _ _):=C0.out.after A.out (by have:=HPW.out;show tb ≠ pw;omega)
 have CX:Hid (CW _ _ _):=CX.out.after A.out (by have:=HPW.out;show xb ≠ pw;omega)
 have HB:Hid (Below w0.heap.size w0 M):=A.out.leaves.below _ _ HB.out (by have:=HPW.out;show _ <= pw;omega) HB.out.size
 have HOW:Hid (M.ownsRow V1.heap.size 23 3 u rs.sh.pts.length (fl3 rs.sh.pts)):=Jao HOW.out fun g hg=>A.out.kept.2.2.2 g (HOW.out.lt g hg).2 (fun e=>HNU.out (by rw [hg];exact congrArg some e))
 have CWP:Hid (CW M pw [.bool false]):=CW.flag A.out
 have HPM:Hid (P.heap.size <= M.heap.size):=A.out.size
 clear HC HRG A
 obtain ⟨N,hN⟩:∃ V,V = M.alloc (.cells #[J Jk v.x,J Jk v.y,J Jk v.z] 27):=⟨_,rfl⟩
 obtain ⟨vb,hvb⟩:∃ b,b = M.heap.size:=⟨_,rfl⟩
 have hbN:Below M.heap.size M N:=by rw [hN];exact Jb _ _
 have Cv:CW N vb [J Jk v.x,J Jk v.y,J Jk v.z]:=by rw [hN,hvb];exact CW.new M [J Jk v.x,J Jk v.y,J Jk v.z] 27
 have HPV:Hid (pw < vb/\vb < N.heap.size):=by have h1:=HPW.out;have h2:=HPM.out;have h3:=CW.lt Cv;show _/\_;omega
 have HNV:Hid (u.ownBlock ≠ some vb):=fun e=>by have:=(HOW.out.lt _ e).2;omega
 have C0:Hid (CW _ _ _):=C0.out.step hbN
 have CX:Hid (CW _ _ _):=CX.out.step hbN
 have CWP:Hid (CW _ _ _):=CWP.out.step hbN
 have HB:Hid (Below w0.heap.size w0 N):=Jd HB.out hbN
 have HOW:Hid (N.ownsRow V1.heap.size 23 3 u rs.sh.pts.length (fl3 rs.sh.pts)):=Js HOW.out hbN
 have CV:Hid (CW N vb [J Jk v.x,J Jk v.y,J Jk v.z]):=Cv
 go_upto_region 5 with fail
 rw [<- hN,<- hvb]
 clear hN hvb hbN Cv HPM
 have HRG:Hid (World.rangeAt N xb 0 cs):=CX.out.range
 obtain ⟨O,hO⟩:∃ X,X = (N.alloc (.cells #[J Jk 0,J Jk 0,J Jk 0,J Jk 0,J Jk 0,J Jk 0,J Jk 0,J Jk 0,J Jk 0,J Jk 0,J Jk 0,J Jk 0,J Jk 0,J Jk 0,J Jk 0,J Jk 0,J Jk 0,J Jk 0,J Jk 0,J Jk 0,J Jk 0,J Jk 0,J Jk 0,.slice none 0 0,J Jk 0,J Jk 0,J Jk 0,.bool false,J Jk 0,.bool false,.bool false] 39)).setCells N.heap.size 0 cs:=⟨_,rfl⟩
 obtain ⟨NX,BX,SX,TX⟩:=Jca N cs hl9.out
 rw [<- hO] at NX BX SX
 have HT9:Hid (World.there _ _ _ _):=TX
 obtain ⟨cb,hcb⟩:∃ p,p = N.heap.size:=⟨_,rfl⟩
 rw [<- hcb] at NX SX
 have HNC:Hid (u.ownBlock ≠ some cb):=fun e=>by have:=(HOW.out.lt _ e).2;omega
 have C0:Hid (CW _ _ _):=C0.out.step BX
 have CX:Hid (CW _ _ _):=CX.out.step BX
 have CWP:Hid (CW _ _ _):=CWP.out.step BX
 have CV:Hid (CW _ _ _):=CV.out.step BX
 have HB:Hid (Below w0.heap.size w0 O):=Jd HB.out BX
 have HOW:Hid (O.ownsRow V1.heap.size 23 3 u rs.sh.pts.length (fl3 rs.sh.pts)):=Js HOW.out BX
 have CX2:CW O xb (x.L (rs.l u)):=by have:=CX.out;rwa [<- HCS.out] at this
 rw [<- HCS.out] at NX
 have HS:Hid (FS w0 tb xb pw vb cb [J Jk sk,J Jk sr,J Jk sx,J Jk sy,J Jk sz,.slice so Ls.length sc,J Jk at0,J Jk at1,J Jk at2,J Jk qa,J Jk qb_,J Jk qc,J Jk qd,J Jk ms,J Jk fr,J Jk p0,J Jk p1,J Jk p2,J Jk l0,J Jk l1,J Jk l2,.bool fx,.bool fa,J Jk gr,J Jk ma] (x.L (rs.l u)) [J Jk v.x,J Jk v.y,J Jk v.z] rs u x u O):=⟨C0.out,CX2,CWP.out,CV.out,NX,HB.out,⟨_,HOW.out,HNU.out,HNC.out⟩,⟨_,HOW.out,HNU.out,HNC.out⟩,by have h1:=HPW.out;have h2:=HPV.out;omega⟩
 clear NX BX SX TX CX2 C0 CX CWP CV HB HOW HNU HNV HPW HPV HCS HOK HXE HUX
 go_upto_region 6 with (first | refine wpList_load_mid rfl 39 _ rfl xb 0 rfl _ _ HRG.out Tryz.underlying39 rfl hz9.out ?_ | refine wpList_store_mid rfl 39 _ _ rfl N.heap.size 0 _ rfl rfl HT9.out hy9.out h19.out ?_)
 rw [<- hO,<- hcb]
 clear hO hcb HRG HT9 hy9 hz9 h19 hl9
 go_wp2_with (fail)
 go_loopg [10] 41 (fun gm s10 wr=>∃ i:Nat,i + gm = 41/\s10 = J Jk i/\∃ (c:Bd) (uc:Value),Hid (FJ x i c)/\Hid (FS w0 tb xb pw vb cb [J Jk sk,J Jk sr,J Jk sx,J Jk sy,J Jk sz,.slice so Ls.length sc,J Jk at0,J Jk at1,J Jk at2,J Jk qa,J Jk qb_,J Jk qc,J Jk qd,J Jk ms,J Jk fr,J Jk p0,J Jk p1,J Jk p2,J Jk l0,J Jk l1,J Jk l2,.bool fx,.bool fa,J Jk gr,J Jk ma] (x.L (rs.l u)) [J Jk v.x,J Jk v.y,J Jk v.z] rs u c uc wr))
 case atStart=>exact ⟨0,rfl,rfl,x,u,HFR.out.2.1,HS⟩
 case round =>
  obtain ⟨i,hi,rfl,c,uc,HJ,HS⟩:=hrel
  go_wp2_with (fail)
  refine Calls.mono (HPK.out _) ?_
  rintro e W9 ⟨rfl,rfl⟩
  by_cases hlt:(i:Int) < n
  ·obtain ⟨gm,rfl⟩:∃ m,gk = m + 1:=⟨gk - 1,by omega⟩
   obtain ⟨c',e1,e2,HJ2,e3,e4⟩:=FJ.go HFR.out.1 HJ.out (by omega)
   have HJ2:Hid (FJ x (i + 1) c'):=HJ2
   have HE3:Hid _:=e3
   have s1:=(HS.out.c 1 _ rfl).1
   have s2:=(HS.out.c 2 _ rfl).1
   have s3:=(HS.out.c 3 _ rfl).1
   obtain ⟨V3_,hV⟩:∃ V,V = W9.alloc (.cells #[J Jk c.s.x,J Jk c.s.y,J Jk c.s.z] 27):=⟨_,rfl⟩
   obtain ⟨sb,hsb⟩:∃ b,b = W9.heap.size:=⟨_,rfl⟩
   have hbV:Below W9.heap.size W9 V3_:=by rw [hV];exact Jb _ _
   have CS:Hid (CW V3_ sb [J Jk c.s.x,J Jk c.s.y,J Jk c.s.z]):=by show CW _ _ _;rw [hV,hsb];exact CW.new W9 [J Jk c.s.x,J Jk c.s.y,J Jk c.s.z] 27
   have HSB:Hid (cb < sb/\pw ≠ sb):=by have:=HS.out.o;show _/\_;omega
   have HS:Hid (FS w0 tb xb pw vb cb [J Jk sk,J Jk sr,J Jk sx,J Jk sy,J Jk sz,.slice so Ls.length sc,J Jk at0,J Jk at1,J Jk at2,J Jk qa,J Jk qb_,J Jk qc,J Jk qd,J Jk ms,J Jk fr,J Jk p0,J Jk p1,J Jk p2,J Jk l0,J Jk l1,J Jk l2,.bool fx,.bool fa,J Jk gr,J Jk ma] (x.L (rs.l u)) [J Jk v.x,J Jk v.y,J Jk v.z] rs u c uc V3_):=HS.out.step hbV
   have HE:Hid _:=And.intro e1 e2
   clear e1 e2 e3 e4 hbV
   go_upto_region 10 with fail
   rw [<- hV,<- hsb]
   clear hV hsb s1 s2 s3
   obtain ⟨bc,oc,nc1,nc2⟩:=HS.out.oc
   have hRc:=rs.rest (Jam oc)
   have hzc:Hid _:=Jp hRc.rest c
   have HRG:Hid (World.rangeAt V3_ cb 0 (c.L (rs.l uc))):=HS.out.c.range
   have HC:Hid _:=Jth pw 0 false c (rs.l uc) uc rs.sh.pts 67108864 (by decide) hRc V3_ (HS.out.w 0 _ rfl).1 (HS.out.w 0 _ rfl).2 (Lies.of_row oc) HLN.out
   rw [HE.out.1,HE.out.2] at HC
   clear bc oc nc1 nc2 hRc HE
   go_wp2_with (refine wpList_load_mid rfl 39 _ rfl cb 0 rfl _ _ HRG.out Tryz.underlying39 rfl hzc.out ?_)
   refine Calls.mono HC.out ?_
   rintro e M1 ⟨u1,rfl,A,HO⟩
   rw [Rs.set] at *
   have HS0:=HS
   have HS:Hid (FS w0 tb xb pw vb cb [J Jk sk,J Jk sr,J Jk sx,J Jk sy,J Jk sz,.slice so Ls.length sc,J Jk at0,J Jk at1,J Jk at2,J Jk qa,J Jk qb_,J Jk qc,J Jk qd,J Jk ms,J Jk fr,J Jk p0,J Jk p1,J Jk p2,J Jk l0,J Jk l1,J Jk l2,.bool fx,.bool fa,J Jk gr,J Jk ma] (x.L (rs.l u)) [J Jk v.x,J Jk v.y,J Jk v.z] rs u c uc M1):=HS.out.flag A.out
   have CS:Hid (CW M1 sb [J Jk c.s.x,J Jk c.s.y,J Jk c.s.z]):=CS.out.after A.out (by have:=HSB.out;show sb ≠ pw;omega)
   have HCB:Hid (cb < V3_.heap.size):=by have:=CW.lt (HS0.out.c);exact this
   have hu1:=(rs.rest (Jam HO.out)).rest
   clear HC HRG A hzc HS0
   obtain ⟨bc,oc,nc1,nc2⟩:=HS.out.oc
   have HT:Hid (World.there M1 cb 0 (c'.L (rs.l u1)).toArray.size):=HS.out.c.thereB (rs.rest (Jam oc)).rest hu1
   have hy:Hid _:=J1 hu1 c'
   have h1:Hid _:=hu1.each c'
   have HS2:Hid (FS w0 tb xb pw vb cb [J Jk sk,J Jk sr,J Jk sx,J Jk sy,J Jk sz,.slice so Ls.length sc,J Jk at0,J Jk at1,J Jk at2,J Jk qa,J Jk qb_,J Jk qc,J Jk qd,J Jk ms,J Jk fr,J Jk p0,J Jk p1,J Jk p2,J Jk l0,J Jk l1,J Jk l2,.bool fx,.bool fa,J Jk gr,J Jk ma] (x.L (rs.l u)) [J Jk v.x,J Jk v.y,J Jk v.z] rs u c' u1 (M1.setCells cb 0 (c'.L (rs.l u1)))):=HS.out.put HO.out HCB.out HS.out.ou.choose_spec.2.2
   have CS:Hid (CW (M1.setCells cb 0 (c'.L (rs.l u1))) sb [J Jk c.s.x,J Jk c.s.y,J Jk c.s.z]):=CS.out.apart (by have:=HSB.out;omega)
   clear bc oc nc1 nc2 HS hu1 HO HCB
   go_upto_region 11 with (refine wpList_store_mid rfl 39 _ _ rfl cb 0 _ rfl rfl HT.out hy.out h1.out ?_)
   generalize hY:World.setCells M1 cb 0 _ = Y at HS2 CS ⊢
   clear hY HT hy h1 HJ
   obtain ⟨U,hU⟩:∃ V,V = Y.alloc (.cells #[.bool false] 53):=⟨_,rfl⟩
   obtain ⟨po,hpo⟩:∃ b,b = Y.heap.size:=⟨_,rfl⟩
   have hbU:Below Y.heap.size Y U:=by rw [hU];exact Jb _ _
   have Co:CW U po [.bool false]:=by rw [hU,hpo];exact CW.new Y [.bool false] 53
   have HPO:Hid (cb < po/\sb < po/\u.ownBlock ≠ some po/\u1.ownBlock ≠ some po):=by
    have h1:=HS2.out.o
    have h2:=CW.lt CS.out
    obtain ⟨_,q1,_⟩:=HS2.out.ou
    obtain ⟨_,q2,_⟩:=HS2.out.oc
    exact ⟨by omega,by omega,fun e=>by have:=(q1.lt _ e).2;omega,fun e=>by have:=(q2.lt _ e).2;omega⟩
   have CO:Hid (CW U po [.bool false]):=Co
   have HS2:Hid (FS w0 tb xb pw vb cb [J Jk sk,J Jk sr,J Jk sx,J Jk sy,J Jk sz,.slice so Ls.length sc,J Jk at0,J Jk at1,J Jk at2,J Jk qa,J Jk qb_,J Jk qc,J Jk qd,J Jk ms,J Jk fr,J Jk p0,J Jk p1,J Jk p2,J Jk l0,J Jk l1,J Jk l2,.bool fx,.bool fa,J Jk gr,J Jk ma] (x.L (rs.l u)) [J Jk v.x,J Jk v.y,J Jk v.z] rs u c' u1 U):=HS2.out.step hbU
   have CS:Hid (CW U sb [J Jk c.s.x,J Jk c.s.y,J Jk c.s.z]):=CS.out.step hbU
   clear Co hbU
   go_upto_region 12 with fail
   rw [<- hU,<- hpo]
   clear hU hpo
   by_cases hk2:x.k = 2
   ·obtain ⟨z,hz⟩:∃ z,Jbz v 67108864 = z:=⟨_,rfl⟩
    have HZ2:Hid _:=hz
    have HZ1:Hid (Jqy c'.s c.s = z):=by show _ = _;rw [HE3.out hk2,HVE.out];exact hz
    have hck:c'.k = 2:=by rw [HJ2.out.k];exact hk2
    have HGO:Hid (FO w0 tb xb pw vb cb [J Jk sk,J Jk sr,J Jk sx,J Jk sy,J Jk sz,.slice so Ls.length sc,J Jk at0,J Jk at1,J Jk at2,J Jk qa,J Jk qb_,J Jk qc,J Jk qd,J Jk ms,J Jk fr,J Jk p0,J Jk p1,J Jk p2,J Jk l0,J Jk l1,J Jk l2,.bool fx,.bool fa,J Jk gr,J Jk ma] (x.L (rs.l u)) [J Jk v.x,J Jk v.y,J Jk v.z] rs u c' u1 po sb [J Jk c.s.x,J Jk c.s.y,J Jk c.s.z] U):=⟨HS2.out,CS.out,⟨_,CO.out⟩,HPO.out⟩
    clear hz HE3 CS CO HS2 HPO HSB
    refine RV.rs [.some (.pointer (some ⟨cb,0,none⟩)),.some (J Jk 2),.some (.bool true),.some (.bool true),.some (.pointer (some ⟨po,0,none⟩)),.some (.pointer (some ⟨cb,1,none⟩)),.some (.pointer (some ⟨cb,1,none⟩)),.some c'.s.val,.some c.s.val,.some z.val,.some (.pointer (some ⟨po,0,none⟩)),.some v.val,.some z.val,.some (.bool false),.some (.bool false)] [37,38,39,40,41,42,43,44,45,46,47,48,49,50,51] [(9,.pointer (some ⟨cb,0,none⟩)),(12,.pointer (some ⟨po,0,none⟩)),(11,.pointer (some ⟨sb,0,none⟩)),(8,.pointer (some ⟨vb,0,none⟩))] (fun γ L w=>FO w0 tb xb pw vb cb [J Jk sk,J Jk sr,J Jk sx,J Jk sy,J Jk sz,.slice so Ls.length sc,J Jk at0,J Jk at1,J Jk at2,J Jk qa,J Jk qb_,J Jk qc,J Jk qd,J Jk ms,J Jk fr,J Jk p0,J Jk p1,J Jk p2,J Jk l0,J Jk l1,J Jk l2,.bool fx,.bool fa,J Jk gr,J Jk ma] (x.L (rs.l u)) [J Jk v.x,J Jk v.y,J Jk v.z] rs u c' u1 po sb [J Jk c.s.x,J Jk c.s.y,J Jk c.s.z] w) ⟨rfl,rfl,rfl,rfl,trivial⟩ (HGO.out.step (Below.refl _ _).drew) ?_ ?_
    ·intro D WA Z hD hWA hZ T
     simp only [RV.Outs,RV.Slots,Nat.reduceAdd] at T
     (refine RV.cc _ (RV.pu T (fun γ v L w hl h=>h) (fun γ L a w hH hl h9 k9=>⟨_,?_,rfl⟩)) ?_;· simp [execOp,go_sem,h9])
     (refine RV.cc _ (RV.pu T (fun γ v L w hl h=>h) (fun γ L a w hH hl h9 k9=>⟨_,?_,rfl⟩)) ?_;· have q0:=(hH.glob.s.c 0 _ rfl).1;simp [Region.binds] at k9;simp [execOp,go_sem,h9,k9,q0,hck])
     (refine RV.cc _ (RV.pu T (fun γ v L w hl h=>h) (fun γ L a w hH hl h9 k9=>⟨_,?_,rfl⟩)) ?_;· simp [Region.binds] at k9;simp [execOp,go_sem,h9,k9])
     (refine RV.cc _ (RV.pu T (fun γ v L w hl h=>h) (fun γ L a w hH hl h9 k9=>⟨_,?_,rfl⟩)) ?_;· simp [Region.binds] at k9;simp [execOp,go_sem,h9,k9])
     (refine RV.cc _ (RV.dg rfl (by rw [<- hD];rfl) (fun v w h=>h) (by simp) (RV.pu T (fun γ v L w hl h=>h) (fun γ L a w hH hl h9 k9=>⟨_,?_,rfl⟩))) ?_;· simp [execOp,go_sem,h9])
     (refine RV.cc _ (RV.dg rfl (by rw [<- hD];rfl) (fun v w h=>h) (by simp) (RV.pu T (fun γ v L w hl h=>h) (fun γ L a w hH hl h9 k9=>⟨_,?_,rfl⟩))) ?_;· simp [execOp,go_sem,h9])
     (refine RV.cc _ (RV.dg rfl (by rw [<- hD];rfl) (fun v w h=>h) (by simp) (RV.pu T (fun γ v L w hl h=>h) (fun γ L a w hH hl h9 k9=>⟨_,?_,rfl⟩))) ?_;· simp [Region.binds] at k9;simp [execOp,go_sem,h9,k9])
     (refine RV.cc _ (RV.dg rfl (by rw [<- hD];rfl) (fun v w h=>h) (by simp) (RV.pu T (fun γ v L w hl h=>h) (fun γ L a w hH hl h9 k9=>⟨_,?_,rfl⟩))) ?_;· have q1:=(hH.glob.s.c 1 _ rfl).1;have q2:=(hH.glob.s.c 2 _ rfl).1;have q3:=(hH.glob.s.c 3 _ rfl).1;simp [Region.binds] at k9;simp [execOp,go_sem,h9,k9,q1,q2,q3])
     (refine RV.cc _ (RV.dg rfl (by rw [<- hD];rfl) (fun v w h=>h) (by simp) (RV.pu T (fun γ v L w hl h=>h) (fun γ L a w hH hl h9 k9=>⟨_,?_,rfl⟩))) ?_;· have q0:=(hH.glob.b 0 _ rfl).1;have q1:=(hH.glob.b 1 _ rfl).1;have q2:=(hH.glob.b 2 _ rfl).1;simp [execOp,go_sem,h9,q0,q1,q2])
     refine RV.cc _ (RV.dg rfl (by rw [<- hD];rfl) (fun v w h=>h) (by simp) (RV.dc (fun γ L a w hH hl hA=>by have h9:=T γ L a w hH;have k9:=hA;simp [Region.binds] at k9;obtain ⟨fl,hfl⟩:=hH.glob.o;exact ⟨_,_,by simp [go_sem,h9,k9],Calls.mono (Jvh po 0 fl c'.s c.s w (hfl 0 _ rfl).1 (hfl 0 _ rfl).2) (by rintro e w2 ⟨rfl,hb⟩;exact ⟨_,rfl,congrArg V3.val HZ1.out,fun j v _ h=>h.keep _,hH.glob.a hb.out⟩)⟩))) ?_
     (refine RV.cc _ (RV.dg rfl (by rw [<- hD];rfl) (fun v w h=>h) (by simp) (RV.pu T (fun γ v L w hl h=>h) (fun γ L a w hH hl h9 k9=>⟨_,?_,rfl⟩))) ?_;· simp [execOp,go_sem,h9])
     (refine RV.cc _ (RV.dg rfl (by rw [<- hD];rfl) (fun v w h=>h) (by simp) (RV.pu T (fun γ v L w hl h=>h) (fun γ L a w hH hl h9 k9=>⟨_,?_,rfl⟩))) ?_;· have q0:=(hH.glob.s.v 0 _ rfl).1;have q1:=(hH.glob.s.v 1 _ rfl).1;have q2:=(hH.glob.s.v 2 _ rfl).1;simp [execOp,go_sem,h9,q0,q1,q2])
     refine RV.cc _ (RV.dg rfl (by rw [<- hD];rfl) (fun v w h=>h) (by simp) (RV.dc (fun γ L a w hH hl hA=>by have h9:=T γ L a w hH;have k9:=hA;simp [Region.binds] at k9;obtain ⟨fl,hfl⟩:=hH.glob.o;exact ⟨_,_,by simp [go_sem,h9,k9],Calls.mono (Jvg po 0 fl v 67108864 w (hfl 0 _ rfl).1 (hfl 0 _ rfl).2) (by rintro e w2 ⟨rfl,hb⟩;exact ⟨_,rfl,congrArg V3.val HZ2.out,fun j v _ h=>h.keep _,hH.glob.a hb.out⟩)⟩))) ?_
     (refine RV.cc _ (RV.dg rfl (by rw [<- hD];rfl) (fun v w h=>h) (by simp) (RV.pu T (fun γ v L w hl h=>h) (fun γ L a w hH hl h9 k9=>⟨_,?_,rfl⟩))) ?_;· simp [Region.binds] at k9;simp [execOp,go_sem,h9,k9])
     (refine RV.cc _ (RV.pu T (fun γ v L w hl h=>h) (fun γ L a w hH hl h9 k9=>⟨_,?_,rfl⟩)) ?_;· simp [Region.binds] at k9;simp [execOp,go_sem,h9,k9])
     exact RV.AllDo.nil
    ·intro γ w5 L9 hL9 hI9 hG9
     simp only [RV.putL,Act.put,List.setIfInBounds_toArray,List.set_cons_zero,List.set_cons_succ]
     have HS2:Hid (FS w0 tb xb pw vb cb [J Jk sk,J Jk sr,J Jk sx,J Jk sy,J Jk sz,.slice so Ls.length sc,J Jk at0,J Jk at1,J Jk at2,J Jk qa,J Jk qb_,J Jk qc,J Jk qd,J Jk ms,J Jk fr,J Jk p0,J Jk p1,J Jk p2,J Jk l0,J Jk l1,J Jk l2,.bool fx,.bool fa,J Jk gr,J Jk ma] (x.L (rs.l u)) [J Jk v.x,J Jk v.y,J Jk v.z] rs u c' u1 w5):=hG9.s
     clear hG9 hI9 hL9 HZ1 HZ2 HGO hck hk2
     go_wp2_with (fail)
     go_roundg gm
     case rel=>exact ⟨i + 1,by omega,by go_num,c',u1,HJ2,HS2⟩
     omega
   ·have hck:c'.k ≠ 2:=by rw [HJ2.out.k];exact hk2
    clear CS CO HPO HSB HE3
    refine RV.rs [.some (.pointer (some ⟨cb,0,none⟩)),.some (J Jk c'.k),.some (.bool false),.some (.bool false),.none,.none,.none,.none,.none,.none,.none,.none,.none,.none,.some (.bool false)] [37,38,39,40,41,42,43,44,45,46,47,48,49,50,51] [(9,.pointer (some ⟨cb,0,none⟩))] (fun γ L w=>FS w0 tb xb pw vb cb [J Jk sk,J Jk sr,J Jk sx,J Jk sy,J Jk sz,.slice so Ls.length sc,J Jk at0,J Jk at1,J Jk at2,J Jk qa,J Jk qb_,J Jk qc,J Jk qd,J Jk ms,J Jk fr,J Jk p0,J Jk p1,J Jk p2,J Jk l0,J Jk l1,J Jk l2,.bool fx,.bool fa,J Jk gr,J Jk ma] (x.L (rs.l u)) [J Jk v.x,J Jk v.y,J Jk v.z] rs u c' u1 w) ⟨rfl,trivial⟩ (HS2.out.step (Below.refl _ _).drew) ?_ ?_
    ·intro D WA Z hD hWA hZ T
     simp only [RV.Outs,RV.Slots,Nat.reduceAdd] at T
     (refine RV.cc _ (RV.pu T (fun γ v L w hl h=>h) (fun γ L a w hH hl h9 k9=>⟨_,?_,rfl⟩)) ?_;· simp [execOp,go_sem,h9])
     (refine RV.cc _ (RV.pu T (fun γ v L w hl h=>h) (fun γ L a w hH hl h9 k9=>⟨_,?_,rfl⟩)) ?_;· have q0:=(hH.glob.c 0 _ rfl).1;simp [Region.binds] at k9;simp [execOp,go_sem,h9,k9,q0])
     (refine RV.cc _ (RV.pu T (fun γ v L w hl h=>h) (fun γ L a w hH hl h9 k9=>⟨_,?_,rfl⟩)) ?_;· simp [Region.binds] at k9;simp [execOp,go_sem,h9,k9,hck])
     (refine RV.cc _ (RV.pu T (fun γ v L w hl h=>h) (fun γ L a w hH hl h9 k9=>⟨_,?_,rfl⟩)) ?_;· simp [Region.binds] at k9;simp [execOp,go_sem,h9,k9])
     refine RV.cc _ (RV.does_skip rfl (by rw [<- hD];rfl) (fun v w h=>h) (by simp) (fun w=>trivial) (fun γ v L w hl h=>h)) ?_
     refine RV.cc _ (RV.does_skip rfl (by rw [<- hD];rfl) (fun v w h=>h) (by simp) (fun w=>trivial) (fun γ v L w hl h=>h)) ?_
     refine RV.cc _ (RV.does_skip rfl (by rw [<- hD];rfl) (fun v w h=>h) (by simp) (fun w=>trivial) (fun γ v L w hl h=>h)) ?_
     refine RV.cc _ (RV.does_skip rfl (by rw [<- hD];rfl) (fun v w h=>h) (by simp) (fun w=>trivial) (fun γ v L w hl h=>h)) ?_
     refine RV.cc _ (RV.does_skip rfl (by rw [<- hD];rfl) (fun v w h=>h) (by simp) (fun w=>trivial) (fun γ v L w hl h=>h)) ?_
     refine RV.cc _ (RV.does_skip rfl (by rw [<- hD];rfl) (fun v w h=>h) (by simp) (fun w=>trivial) (fun γ v L w hl h=>h)) ?_
     refine RV.cc _ (RV.does_skip rfl (by rw [<- hD];rfl) (fun v w h=>h) (by simp) (fun w=>trivial) (fun γ v L w hl h=>h)) ?_
     refine RV.cc _ (RV.does_skip rfl (by rw [<- hD];rfl) (fun v w h=>h) (by simp) (fun w=>trivial) (fun γ v L w hl h=>h)) ?_
     refine RV.cc _ (RV.does_skip rfl (by rw [<- hD];rfl) (fun v w h=>h) (by simp) (fun w=>trivial) (fun γ v L w hl h=>h)) ?_
     refine RV.cc _ (RV.does_skip rfl (by rw [<- hD];rfl) (fun v w h=>h) (by simp) (fun w=>trivial) (fun γ v L w hl h=>h)) ?_
     (refine RV.cc _ (RV.pu T (fun γ v L w hl h=>h) (fun γ L a w hH hl h9 k9=>⟨_,?_,rfl⟩)) ?_;· simp [Region.binds] at k9;simp [execOp,go_sem,h9,k9])
     exact RV.AllDo.nil
    ·intro γ w5 L9 hL9 hI9 hG9
     simp only [RV.putL,Act.put,List.setIfInBounds_toArray,List.set_cons_zero,List.set_cons_succ]
     have HS2:Hid (FS w0 tb xb pw vb cb [J Jk sk,J Jk sr,J Jk sx,J Jk sy,J Jk sz,.slice so Ls.length sc,J Jk at0,J Jk at1,J Jk at2,J Jk qa,J Jk qb_,J Jk qc,J Jk qd,J Jk ms,J Jk fr,J Jk p0,J Jk p1,J Jk p2,J Jk l0,J Jk l1,J Jk l2,.bool fx,.bool fa,J Jk gr,J Jk ma] (x.L (rs.l u)) [J Jk v.x,J Jk v.y,J Jk v.z] rs u c' u1 w5):=hG9
     clear hG9 hI9 hL9 hck hk2
     go_wp2_with (fail)
     go_roundg gm
     case rel=>exact ⟨i + 1,by omega,by go_num,c',u1,HJ2,HS2⟩
     omega
  ·clear HPK hn0 hn1
   obtain ⟨bc,oc,nc1,nc2⟩:=HS.out.oc
   obtain ⟨bu,ou,nu1,nu2⟩:=HS.out.ou
   have hzc:Hid _:=Jp (rs.rest (Jam oc)).rest c
   have hzx:Hid _:=Jp (rs.rest (Jam ou)).rest x
   have HOC:Hid _:=oc
   have HOU:Hid _:=ou
   have t21:=(HS.out.t 21 _ rfl).1
   clear oc ou nc1 nc2 nu1 nu2
   cases fx with
   | true =>
    have hk1:x.k = 1:=HFR.out.2.2.1
    obtain rfl:c = x:=HJ.out.st (by omega)
    obtain rfl:v = ⟨0,0,0⟩:=by rw [<- HVE.out];exact HFR.out.2.2.2.2 rfl
    have HRX:Hid (World.rangeAt W9 xb 0 (c.L (rs.l u))):=HS.out.x.range
    have HRC:Hid (World.rangeAt W9 cb 0 (c.L (rs.l uc))):=HS.out.c.range
    clear hk1 HVE HFR
    go_wp2_with (first | refine Jw rfl 39 _ rfl xb 0 rfl _ _ HRX.out Tryz.underlying39 rfl hzx.out ?_ | refine Jw rfl 39 _ rfl cb 0 rfl _ _ HRC.out Tryz.underlying39 rfl hzc.out ?_)
    refine Calls.mono (Jfa c rs u uc W9 (Lies.of_row HOU.out) (Lies.of_row HOC.out)) ?_
    rintro e Q ⟨rfl,hbz⟩
    have HS:Hid (FS _ _ _ _ _ _ _ _ _ _ _ _ _ _):=HS.out.step hbz.out
    have v0:=(HS.out.v 0 _ rfl).1
    have v1:=(HS.out.v 1 _ rfl).1
    have v2:=(HS.out.v 2 _ rfl).1
    have HBB:Hid _:=HS.out.below
    clear hbz HRX HRC HOU HOC t21
    go_wp2_with (fail)
    go_ret
    exact ⟨rfl,HBB.out⟩
   | false =>
    have hk2:x.k = 2:=HFR.out.2.2.1
    have hck:c.k = 2:=by rw [HJ.out.k];exact hk2
    have HCV:Hid (if2 c.k (Jbj c) = v):=by
     show _ = _
     rw [<- HVE.out]
     unfold if2 Jbj
     rw [HJ.out.k,HJ.out.p,HJ.out.m]
    have hcp:c.p = x.p:=HJ.out.p
    have hcl:c.l = x.l:=HJ.out.l
    have HRS2:Hid _:=(rs.rest (Jam HOC.out)).rest
    have HFB:Hid ((false || Jan c.k (Jdy c)) = false):=by
     show (_ || _) = _
     unfold Jan Jdy
     rw [HJ.out.p,HJ.out.m,if_pos hck]
     exact HFR.out.2.2.2.1 hk2
    have HSP:Hid (∀ w:World,w.cell? ⟨pw,0,none⟩ = some (.bool false)->w.frozen? ⟨pw,0,none⟩ = false->Calls Tryz.prog 22 #[.pointer (some ⟨pw,0,none⟩),.agg (c.L (rs.l uc)).toArray] w fun e w'=>e = .returned v.val/\Hid (After ⟨pw,0,none⟩ false w w')):=fun w h1 h2=>by
     have h:=Jew pw 0 false c (rs.l uc) HRS2.out w h1 h2
     rw [HCV.out,HFB.out] at h
     exact h
    clear HVE HOU HOC hzx hk2 hck HCV HFB HRS2
    go_upto_region 16 with fail
    clear t21
    refine RV.rs [.some (.bool true),.some (.bool true),.some (.pointer (some ⟨pw,0,none⟩)),.some (.pointer (some ⟨pw,0,none⟩)),.some (.pointer (some ⟨pw,0,none⟩)),.some (.bool false),.some (.bool true),.some (.bool true),.some (.bool true),.some (.pointer (some ⟨cb,8,none⟩)),.some x.p.val,.some (.pointer (some ⟨xb,8,none⟩)),.some x.p.val,.some (.bool true),.some (.bool true),.some (.bool true),.some (.pointer (some ⟨cb,11,none⟩)),.some x.l.val,.some (.pointer (some ⟨xb,11,none⟩)),.some x.l.val,.some (.bool true),.some (.bool true),.some (.bool true),.some (.pointer (some ⟨pw,0,none⟩)),.some (.agg (c.L (rs.l uc)).toArray),.some v.val,.some v.val,.some (.bool true),.some (.bool true),.some (.bool true)] [65,66,67,68,69,70,71,72,73,74,75,76,77,78,79,80,81,82,83,84,85,86,87,88,89,90,91,92,93,5] [(5,.bool true),(7,.pointer (some ⟨pw,0,none⟩)),(9,.pointer (some ⟨cb,0,none⟩)),(6,.pointer (some ⟨xb,0,none⟩)),(8,.pointer (some ⟨vb,0,none⟩))] (fun γ L w=>FS w0 tb xb pw vb cb [J Jk sk,J Jk sr,J Jk sx,J Jk sy,J Jk sz,.slice so Ls.length sc,J Jk at0,J Jk at1,J Jk at2,J Jk qa,J Jk qb_,J Jk qc,J Jk qd,J Jk ms,J Jk fr,J Jk p0,J Jk p1,J Jk p2,J Jk l0,J Jk l1,J Jk l2,.bool false,.bool fa,J Jk gr,J Jk ma] (x.L (rs.l u)) [J Jk v.x,J Jk v.y,J Jk v.z] rs u c uc w) ⟨rfl,rfl,rfl,rfl,rfl,trivial⟩ (HS.out.step (Below.refl _ _).drew) ?_ ?_
    ·intro D WA Z hD hWA hZ T
     simp only [RV.Outs,RV.Slots,Nat.reduceAdd] at T
     (refine RV.cc _ (RV.pu T (fun γ v L w hl h=>h) (fun γ L a w hH hl h9 k9=>⟨_,?_,rfl⟩)) ?_;· simp [execOp,go_sem,h9])
     (refine RV.cc _ (RV.pu T (fun γ v L w hl h=>h) (fun γ L a w hH hl h9 k9=>⟨_,?_,rfl⟩)) ?_;· simp [Region.binds] at k9;simp [execOp,go_sem,h9,k9])
     (refine RV.cc _ (RV.dg rfl (by rw [<- hD];rfl) (fun v w h=>h) (by simp) (RV.pu T (fun γ v L w hl h=>h) (fun γ L a w hH hl h9 k9=>⟨_,?_,rfl⟩))) ?_;· simp [execOp,go_sem,h9])
     (refine RV.cc _ (RV.dg rfl (by rw [<- hD];rfl) (fun v w h=>h) (by simp) (RV.pu T (fun γ v L w hl h=>h) (fun γ L a w hH hl h9 k9=>⟨_,?_,rfl⟩))) ?_;· simp [Region.binds] at k9;simp [execOp,go_sem,h9,k9])
     (refine RV.cc _ (RV.dg rfl (by rw [<- hD];rfl) (fun v w h=>h) (by simp) (RV.pu T (fun γ v L w hl h=>h) (fun γ L a w hH hl h9 k9=>⟨_,?_,rfl⟩))) ?_;· simp [Region.binds] at k9;simp [execOp,go_sem,h9,k9])
     (refine RV.cc _ (RV.dg rfl (by rw [<- hD];rfl) (fun v w h=>h) (by simp) (RV.pu T (fun γ v L w hl h=>h) (fun γ L a w hH hl h9 k9=>⟨_,?_,rfl⟩))) ?_;· have q0:=(hH.glob.w 0 _ rfl).1;simp [Region.binds] at k9;simp [execOp,go_sem,h9,k9,q0])
     (refine RV.cc _ (RV.dg rfl (by rw [<- hD];rfl) (fun v w h=>h) (by simp) (RV.pu T (fun γ v L w hl h=>h) (fun γ L a w hH hl h9 k9=>⟨_,?_,rfl⟩))) ?_;· simp [Region.binds] at k9;simp [execOp,go_sem,h9,k9])
     (refine RV.cc _ (RV.pu T (fun γ v L w hl h=>h) (fun γ L a w hH hl h9 k9=>⟨_,?_,rfl⟩)) ?_;· simp [Region.binds] at k9;simp [execOp,go_sem,h9,k9])
     (refine RV.cc _ (RV.pu T (fun γ v L w hl h=>h) (fun γ L a w hH hl h9 k9=>⟨_,?_,rfl⟩)) ?_;· simp [Region.binds] at k9;simp [execOp,go_sem,h9,k9])
     (refine RV.cc _ (RV.dg rfl (by rw [<- hD];rfl) (fun v w h=>h) (by simp) (RV.pu T (fun γ v L w hl h=>h) (fun γ L a w hH hl h9 k9=>⟨_,?_,rfl⟩))) ?_;· simp [execOp,go_sem,h9])
     (refine RV.cc _ (RV.dg rfl (by rw [<- hD];rfl) (fun v w h=>h) (by simp) (RV.pu T (fun γ v L w hl h=>h) (fun γ L a w hH hl h9 k9=>⟨_,?_,rfl⟩))) ?_;· have q8:=(hH.glob.c 8 _ rfl).1;have q9:=(hH.glob.c 9 _ rfl).1;have q10:=(hH.glob.c 10 _ rfl).1;simp [Region.binds] at k9;simp [execOp,go_sem,h9,k9,q8,q9,q10,hcp])
     (refine RV.cc _ (RV.dg rfl (by rw [<- hD];rfl) (fun v w h=>h) (by simp) (RV.pu T (fun γ v L w hl h=>h) (fun γ L a w hH hl h9 k9=>⟨_,?_,rfl⟩))) ?_;· simp [execOp,go_sem,h9])
     (refine RV.cc _ (RV.dg rfl (by rw [<- hD];rfl) (fun v w h=>h) (by simp) (RV.pu T (fun γ v L w hl h=>h) (fun γ L a w hH hl h9 k9=>⟨_,?_,rfl⟩))) ?_;· have q8:=(hH.glob.x 8 _ rfl).1;have q9:=(hH.glob.x 9 _ rfl).1;have q10:=(hH.glob.x 10 _ rfl).1;simp [Region.binds] at k9;simp [execOp,go_sem,h9,k9,q8,q9,q10])
     (refine RV.cc _ (RV.dg rfl (by rw [<- hD];rfl) (fun v w h=>h) (by simp) (RV.pu T (fun γ v L w hl h=>h) (fun γ L a w hH hl h9 k9=>⟨_,?_,rfl⟩))) ?_;· simp [Region.binds] at k9;simp [execOp,go_sem,h9,k9])
     (refine RV.cc _ (RV.pu T (fun γ v L w hl h=>h) (fun γ L a w hH hl h9 k9=>⟨_,?_,rfl⟩)) ?_;· simp [Region.binds] at k9;simp [execOp,go_sem,h9,k9])
     (refine RV.cc _ (RV.pu T (fun γ v L w hl h=>h) (fun γ L a w hH hl h9 k9=>⟨_,?_,rfl⟩)) ?_;· simp [Region.binds] at k9;simp [execOp,go_sem,h9,k9])
     (refine RV.cc _ (RV.dg rfl (by rw [<- hD];rfl) (fun v w h=>h) (by simp) (RV.pu T (fun γ v L w hl h=>h) (fun γ L a w hH hl h9 k9=>⟨_,?_,rfl⟩))) ?_;· simp [execOp,go_sem,h9])
     (refine RV.cc _ (RV.dg rfl (by rw [<- hD];rfl) (fun v w h=>h) (by simp) (RV.pu T (fun γ v L w hl h=>h) (fun γ L a w hH hl h9 k9=>⟨_,?_,rfl⟩))) ?_;· have q11:=(hH.glob.c 11 _ rfl).1;have q12:=(hH.glob.c 12 _ rfl).1;have q13:=(hH.glob.c 13 _ rfl).1;simp [Region.binds] at k9;simp [execOp,go_sem,h9,k9,q11,q12,q13,hcl])
     (refine RV.cc _ (RV.dg rfl (by rw [<- hD];rfl) (fun v w h=>h) (by simp) (RV.pu T (fun γ v L w hl h=>h) (fun γ L a w hH hl h9 k9=>⟨_,?_,rfl⟩))) ?_;· simp [execOp,go_sem,h9])
     (refine RV.cc _ (RV.dg rfl (by rw [<- hD];rfl) (fun v w h=>h) (by simp) (RV.pu T (fun γ v L w hl h=>h) (fun γ L a w hH hl h9 k9=>⟨_,?_,rfl⟩))) ?_;· have q11:=(hH.glob.x 11 _ rfl).1;have q12:=(hH.glob.x 12 _ rfl).1;have q13:=(hH.glob.x 13 _ rfl).1;simp [Region.binds] at k9;simp [execOp,go_sem,h9,k9,q11,q12,q13])
     (refine RV.cc _ (RV.dg rfl (by rw [<- hD];rfl) (fun v w h=>h) (by simp) (RV.pu T (fun γ v L w hl h=>h) (fun γ L a w hH hl h9 k9=>⟨_,?_,rfl⟩))) ?_;· simp [Region.binds] at k9;simp [execOp,go_sem,h9,k9])
     (refine RV.cc _ (RV.pu T (fun γ v L w hl h=>h) (fun γ L a w hH hl h9 k9=>⟨_,?_,rfl⟩)) ?_;· simp [Region.binds] at k9;simp [execOp,go_sem,h9,k9])
     (refine RV.cc _ (RV.pu T (fun γ v L w hl h=>h) (fun γ L a w hH hl h9 k9=>⟨_,?_,rfl⟩)) ?_;· simp [Region.binds] at k9;simp [execOp,go_sem,h9,k9])
     (refine RV.cc _ (RV.dg rfl (by rw [<- hD];rfl) (fun v w h=>h) (by simp) (RV.pu T (fun γ v L w hl h=>h) (fun γ L a w hH hl h9 k9=>⟨_,?_,rfl⟩))) ?_;· simp [execOp,go_sem,h9])
     refine RV.cc _ (RV.dg rfl (by rw [<- hD];rfl) (fun v w h=>h) (by simp) (RV.pu T (fun γ v L w hl h=>h) (fun γ L a w hH hl h9 k9=>⟨_,J7 39 _ rfl cb 0 (by simp [go_sem,h9]) _ _ hH.glob.c.range Tryz.underlying39 rfl hzc.out,rfl⟩))) ?_
     refine RV.cc _ (RV.dg rfl (by rw [<- hD];rfl) (fun v w h=>h) (by simp) (RV.dc (fun γ L a w hH hl hA=>by have h9:=T γ L a w hH;have k9:=hA;simp [Region.binds] at k9;have hfl:=hH.glob.w;exact ⟨_,_,by simp [go_sem,h9,k9],Calls.mono (HSP.out w (hfl 0 _ rfl).1 (hfl 0 _ rfl).2) (by rintro e w2 ⟨rfl,hb⟩;exact ⟨_,rfl,rfl,fun j v _ h=>h.keep _,hH.glob.flag hb.out⟩)⟩))) ?_
     (refine RV.cc _ (RV.dg rfl (by rw [<- hD];rfl) (fun v w h=>h) (by simp) (RV.pu T (fun γ v L w hl h=>h) (fun γ L a w hH hl h9 k9=>⟨_,?_,rfl⟩))) ?_;· have q0:=(hH.glob.v 0 _ rfl).1;have q1:=(hH.glob.v 1 _ rfl).1;have q2:=(hH.glob.v 2 _ rfl).1;simp [execOp,go_sem,h9,q0,q1,q2])
     (refine RV.cc _ (RV.dg rfl (by rw [<- hD];rfl) (fun v w h=>h) (by simp) (RV.pu T (fun γ v L w hl h=>h) (fun γ L a w hH hl h9 k9=>⟨_,?_,rfl⟩))) ?_;· simp [Region.binds] at k9;simp [execOp,go_sem,h9,k9])
     (refine RV.cc _ (RV.pu T (fun γ v L w hl h=>h) (fun γ L a w hH hl h9 k9=>⟨_,?_,rfl⟩)) ?_;· simp [Region.binds] at k9;simp [execOp,go_sem,h9,k9])
     (refine RV.cc _ (RV.pu T (fun γ v L w hl h=>h) (fun γ L a w hH hl h9 k9=>⟨_,?_,rfl⟩)) ?_;· simp [Region.binds] at k9;simp [execOp,go_sem,h9,k9])
     exact RV.AllDo.nil
    ·intro γ w5 L9 hL9 hI9 hG9
     simp only [RV.putL,Act.put,List.setIfInBounds_toArray,List.set_cons_zero,List.set_cons_succ]
     have HBB:Hid _:=hG9.below
     clear hG9 hI9 hL9
     go_wp2_with (fail)
     go_ret
     exact ⟨rfl,HBB.out⟩
theorem Ji2 (os:Os) (started:os.Started) (H:Type) (enc:TypeId × Value->H) :
  ReturnsInHanded {} Tryz.checked os 5 .any (Rows.bodyFreeSpec.pre6 enc Tryz.prog Tryz.f5 Rows.bodyFreeRow.domain false) (Rows.bodyFreeSpec.post enc Tryz.prog Tryz.f5 false true false false):=by
 refine returnsInHanded_of_change (C:=Tryz.checked) own started (by kernel_rfl) Tryz.func5
  (ChangeSpec.witness6 (enc:=enc) (C:=Tryz.checked) false ⟨#[],#[.agg #[J Jk 0,J Jk 0,J Jk 0,J Jk 0,J Jk 0,.slice none 0 0,J Jk 0,J Jk 0,J Jk 0,J Jk 0,J Jk 0,J Jk 0,J Jk 0,J Jk 0,J Jk 0,J Jk 0,J Jk 0,J Jk 0,J Jk 0,J Jk 0,J Jk 0,.bool false,.bool false,J Jk 0,J Jk 0],J Jk 0],[]⟩ 8 (by kernel_rfl) (by kernel_rfl) (by kernel_rfl) (by kernel_rfl)) ?_
 intro W base args ds gs before hval0 hW hcnd _
 have hval:∀ (j:Nat) t v,Tryz.f5.params[j]? = some t->args[j]? = some v->Value.okWide Tryz.prog W .any base t v:=hval0
 have hW':=hW
 obtain ⟨p,q,hA0,hV,rfl,hfz,hnd⟩:=hW
 have hA:DataW.TrodAll enc Tryz.prog W 0 (fun _=>true) true Tryz.f5.params.toList args.toList ds p:=hA0
 rw [Tryz.params5] at hA hval
 obtain ⟨v0,vs0,d0,ds0,p0,q0,hargs,rfl,rfl,h0,r0⟩:=trodAll_cons hA
 obtain ⟨v1,vs1,d1,ds1,p1,q1,rfl,rfl,rfl,h1,r1⟩:=trodAll_cons r0
 obtain ⟨rfl,rfl,rfl⟩:=trodAll_nil r1
 obtain rfl:args = #[v0,v1]:=by cases args;simp_all
 obtain ⟨rfl,rfl⟩:=trodVars_none hV
 have k0:=h0
 have lt0:∀ x ∈ p0,x.block < W.heap.size:=by obtain ⟨m,hm⟩:=k0;exact DataW.trod_lt m _ _ _ hm
 obtain ⟨kz,rz,hx,hy,hz,o,Ls,c,at0,at1,at2,qa,qb_,qc,qd,ms,fr,pp0,pp1,pp2,l0,l1,l2,fx,fa,gr,ma,rfl,hLz,hFz,hbz⟩:=Jgk (hval 0 33 v0 rfl rfl) h0
 obtain ⟨a1,rfl,rfl,rfl,w1⟩:=open_int Tryz.underlying3 (hval 1 3 v1 rfl rfl) h1
 have b1:=bounds_i64 w1
 clear hA0 hval0
 refine (Jrm kz rz hx hy hz o Ls c at0 at1 at2 qa qb_ qc qd ms fr pp0 pp1 pp2 l0 l1 l2 fx fa gr ma a1 W hbz hLz hFz (by omega)).mono fun e W' ⟨he,bel⟩=>?_
 subst he
 exact ⟨_,rfl,_,_,_,[],_,[],hW',trodAll_mk1 (shut_bool Tryz.underlying4 _),(trodAll_cons_mk (Below.trod Jcs (by kernel_rfl) (of_decide_eq_true (by kernel_rfl)) k0 bel lt0) (trodAll_cons_mk (shut_int Tryz.underlying3 w1) trodAll_mk0)),rfl,bel.frame _,fun h=>by cases h⟩
theorem over:Rows.bodyFreeRow.holds Tryz.pinned (OpenSpec.ofChange Rows.bodyFreeSpec):=
 OpenClaim.holds_of_wide 5 Tryz.f5 rfl rfl rfl rfl rfl rfl rfl ⟨rfl,rfl,rfl,rfl,rfl⟩ rfl rfl rfl rfl rfl (by kernel_rfl) Tryz.func5 (by kernel_rfl)
  (of_decide_eq_true (by kernel_rfl)) (by unfold Func.isWrapper;first | (rw [if_pos (by decide +kernel)];kernel_rfl) | (rw [if_neg (by decide +kernel)];exact ⟨rfl,rfl⟩))
  (fun os started H enc _=>Ji2 os started H enc)
end bodyFree
theorem bodyFree_holds:Rows.BodyFreeSaid:=bodyFree.over
#print axioms bodyFree_holds
end
end Go.Proofs.YteebbpioffdncaaGreat
