/- What one body is pushed by and another one pushed back by leaves the sum of their momenta as it was, exactly; and of their angular momenta about the middle, but for less than 2 in the last place: for all raw bodies, places and impulses. -/
import Derived.Test.YteebbpioffdncaaGreatEBBack26
import Derived.Test.YteebbpioffdncaaGreatEBBack27
import Derived.Test.YteebbpioffdncaaGreatEBBack15
import Derived.Test.YteebbpioffdncaaGreatEBBack23
import Derived.Deep.CutRange
import Derived.Deep.LoopGhost
import Derived.Test.YteebbpioffdncaaGreatRows
import Derived.ProofKit
import Derived.OpenShut
set_option maxHeartbeats 64000000
set_option maxRecDepth 100000
set_option linter.unusedVariables false
namespace Go.Proofs.YteebbpioffdncaaGreat
open Go.Calls renaming mono -> JA
open Go.Region renaming binds -> JC
open Go renaming execOp -> JD
open Go.World renaming size_alloc -> JE
open List renaming set_cons_succ -> JF
open List renaming set_cons_zero -> JG
open List renaming setIfInBounds_toArray -> JH
open Go.Proofs.Tryz
open Go.Value renaming int -> J
open Go.IntKind renaming i64 -> Y
section
namespace bodyBack
open Go.ChangeShapes Go.WideShapes Go.ChangeAt Go.RowKit Go.Shelf
theorem own:ownKnob Tryz.prog.godebug = none:=by kernel_rfl
theorem Jgt:laidOutB Tryz.prog = true:=by kernel_rfl
open Fx Ref
theorem Juf (sk sr sx sy sz:Int) (so:Option Addr) (Ls:List Pt) (sc:Nat) (at0 at1 at2 qa qb_ qc qd ms fr p0 p1 p2 l0 l1 l2:Int) (fx fa:Bool) (gr ma:Int) (skB srB sxB syB szB:Int) (soB:Option Addr) (LsB:List Pt) (scB:Nat) (at0B at1B at2B qaB qb_B qcB qdB msB frB p0B p1B p2B l0B l1B l2B:Int) (fxB faB:Bool) (grB maB:Int) (v1 v2:V3) (w0:World)
  (hb:∀ v ∈ ([sk,sr,sx,sy,sz,at0,at1,at2,qa,qb_,qc,qd,ms,fr,p0,p1,p2,l0,l1,l2,gr,ma]:List Int),-9223372036854775808 <= v/\v <= 9223372036854775807) (hL:Lies w0 (.slice so Ls.length sc) Ls) (hF:∀ p ∈ Ls,p.fits) (hbB:∀ v ∈ ([skB,srB,sxB,syB,szB,at0B,at1B,at2B,qaB,qb_B,qcB,qdB,msB,frB,p0B,p1B,p2B,l0B,l1B,l2B,grB,maB]:List Int),-9223372036854775808 <= v/\v <= 9223372036854775807) (hLB:Lies w0 (.slice soB LsB.length scB) LsB) (hFB:∀ p ∈ LsB,p.fits) (hv1:∀ n ∈ ([v1.x,v1.y,v1.z]:List Int),-9223372036854775808 <= n/\n <= 9223372036854775807) (hv2:∀ n ∈ ([v2.x,v2.y,v2.z]:List Int),-9223372036854775808 <= n/\n <= 9223372036854775807) :
  Calls Tryz.prog 4 #[.agg #[J Y sk,J Y sr,J Y sx,J Y sy,J Y sz,.slice so Ls.length sc,J Y at0,J Y at1,J Y at2,J Y qa,J Y qb_,J Y qc,J Y qd,J Y ms,J Y fr,J Y p0,J Y p1,J Y p2,J Y l0,J Y l1,J Y l2,.bool fx,.bool fa,J Y gr,J Y ma],.agg #[J Y skB,J Y srB,J Y sxB,J Y syB,J Y szB,.slice soB LsB.length scB,J Y at0B,J Y at1B,J Y at2B,J Y qaB,J Y qb_B,J Y qcB,J Y qdB,J Y msB,J Y frB,J Y p0B,J Y p1B,J Y p2B,J Y l0B,J Y l1B,J Y l2B,.bool fxB,.bool faB,J Y grB,J Y maB],v1.val,v2.val] w0 fun e w'=>e = .returned (.bool true)/\Below w0.heap.size w0 w':=by
 have AW:Hid _:=fun W=>Jlh W
 have HRI:Hid _:=fun (w':World) (h:Below w0.heap.size w0 w')=>Jgn sk sr sx sy sz so Ls sc at0 at1 at2 qa qb_ qc qd ms fr p0 p1 p2 l0 l1 l2 false fa gr ma w' hb (hL.below h) hF
 have HRIB:Hid _:=fun (w':World) (h:Below w0.heap.size w0 w')=>Jgn skB srB sxB syB szB soB LsB scB at0B at1B at2B qaB qb_B qcB qdB msB frB p0B p1B p2B l0B l1B l2B false faB grB maB w' hbB (hLB.below h) hFB
 have HV1:Hid _:=fun W=>Jeo v1.x v1.y v1.z 4398046511104 W (hv1 _ (by simp)) (hv1 _ (by simp)) (hv1 _ (by simp)) (by decide)
 have hn1:isV ⟨Jaf v1.x 4398046511104,Jaf v1.y 4398046511104,Jaf v1.z 4398046511104⟩ 4398046511104:=⟨Ja2 _ (by decide),Ja2 _ (by decide),Ja2 _ (by decide)⟩
 obtain ⟨q1,hq1⟩:∃ q:V3,(⟨Jaf v1.x 4398046511104,Jaf v1.y 4398046511104,Jaf v1.z 4398046511104⟩:V3) = q:=⟨_,rfl⟩
 have ex1:Jaf v1.x 4398046511104 = q1.x:=by rw [<- hq1]
 have ey1:Jaf v1.y 4398046511104 = q1.y:=by rw [<- hq1]
 have ez1:Jaf v1.z 4398046511104 = q1.z:=by rw [<- hq1]
 rw [ex1,ey1,ez1] at HV1
 rw [hq1] at hn1
 have HN1:Hid _:=hn1
 clear ex1 ey1 ez1 hq1 hn1 hv1
 have HV2:Hid _:=fun W=>Jeo v2.x v2.y v2.z 1099511627776 W (hv2 _ (by simp)) (hv2 _ (by simp)) (hv2 _ (by simp)) (by decide)
 have hn2:isV ⟨Jaf v2.x 1099511627776,Jaf v2.y 1099511627776,Jaf v2.z 1099511627776⟩ 1099511627776:=⟨Ja2 _ (by decide),Ja2 _ (by decide),Ja2 _ (by decide)⟩
 obtain ⟨q2,hq2⟩:∃ q:V3,(⟨Jaf v2.x 1099511627776,Jaf v2.y 1099511627776,Jaf v2.z 1099511627776⟩:V3) = q:=⟨_,rfl⟩
 have ex2:Jaf v2.x 1099511627776 = q2.x:=by rw [<- hq2]
 have ey2:Jaf v2.y 1099511627776 = q2.y:=by rw [<- hq2]
 have ez2:Jaf v2.z 1099511627776 = q2.z:=by rw [<- hq2]
 rw [ex2,ey2,ez2] at HV2
 rw [hq2] at hn2
 have HN2:Hid _:=hn2
 clear ex2 ey2 ez2 hq2 hn2 hv2
 clear hb hL hF hbB hLB hFB
 obtain ⟨A0,hA0⟩:∃ V,V = w0.alloc (.cells #[J Y sk,J Y sr,J Y sx,J Y sy,J Y sz,.slice so Ls.length sc,J Y at0,J Y at1,J Y at2,J Y qa,J Y qb_,J Y qc,J Y qd,J Y ms,J Y fr,J Y p0,J Y p1,J Y p2,J Y l0,J Y l1,J Y l2,.bool fx,.bool fa,J Y gr,J Y ma] 33):=⟨_,rfl⟩
 obtain ⟨A1,hA1⟩:∃ V,V = A0.alloc (.cells #[J Y skB,J Y srB,J Y sxB,J Y syB,J Y szB,.slice soB LsB.length scB,J Y at0B,J Y at1B,J Y at2B,J Y qaB,J Y qb_B,J Y qcB,J Y qdB,J Y msB,J Y frB,J Y p0B,J Y p1B,J Y p2B,J Y l0B,J Y l1B,J Y l2B,.bool fxB,.bool faB,J Y grB,J Y maB] 33):=⟨_,rfl⟩
 obtain ⟨A2,hA2⟩:∃ V,V = A1.alloc (.cells #[J Y v1.x,J Y v1.y,J Y v1.z] 27):=⟨_,rfl⟩
 obtain ⟨A3,hA3⟩:∃ V,V = A2.alloc (.cells #[J Y v2.x,J Y v2.y,J Y v2.z] 27):=⟨_,rfl⟩
 obtain ⟨ta,hta⟩:∃ b,b = w0.heap.size:=⟨_,rfl⟩
 obtain ⟨tb,htb⟩:∃ b,b = w0.heap.size + 1:=⟨_,rfl⟩
 obtain ⟨b1,hb1⟩:∃ b,b = w0.heap.size + 1 + 1:=⟨_,rfl⟩
 obtain ⟨b2,hb2⟩:∃ b,b = w0.heap.size + 1 + 1 + 1:=⟨_,rfl⟩
 have z0:A0.heap.size = w0.heap.size + 1:=by rw [hA0,JE]
 have z1:A1.heap.size = w0.heap.size + 1 + 1:=by rw [hA1,JE,z0]
 have z2:A2.heap.size = w0.heap.size + 1 + 1 + 1:=by rw [hA2,JE,z1]
 have k0:=Jb w0 (.cells #[J Y sk,J Y sr,J Y sx,J Y sy,J Y sz,.slice so Ls.length sc,J Y at0,J Y at1,J Y at2,J Y qa,J Y qb_,J Y qc,J Y qd,J Y ms,J Y fr,J Y p0,J Y p1,J Y p2,J Y l0,J Y l1,J Y l2,.bool fx,.bool fa,J Y gr,J Y ma] 33)
 rw [<- hA0] at k0
 have n0:=CW.new w0 [J Y sk,J Y sr,J Y sx,J Y sy,J Y sz,.slice so Ls.length sc,J Y at0,J Y at1,J Y at2,J Y qa,J Y qb_,J Y qc,J Y qd,J Y ms,J Y fr,J Y p0,J Y p1,J Y p2,J Y l0,J Y l1,J Y l2,.bool fx,.bool fa,J Y gr,J Y ma] 33
 rw [<- hA0,<- hta] at n0
 have k1:=Jb A0 (.cells #[J Y skB,J Y srB,J Y sxB,J Y syB,J Y szB,.slice soB LsB.length scB,J Y at0B,J Y at1B,J Y at2B,J Y qaB,J Y qb_B,J Y qcB,J Y qdB,J Y msB,J Y frB,J Y p0B,J Y p1B,J Y p2B,J Y l0B,J Y l1B,J Y l2B,.bool fxB,.bool faB,J Y grB,J Y maB] 33)
 rw [<- hA1] at k1
 have n1:=CW.new A0 [J Y skB,J Y srB,J Y sxB,J Y syB,J Y szB,.slice soB LsB.length scB,J Y at0B,J Y at1B,J Y at2B,J Y qaB,J Y qb_B,J Y qcB,J Y qdB,J Y msB,J Y frB,J Y p0B,J Y p1B,J Y p2B,J Y l0B,J Y l1B,J Y l2B,.bool fxB,.bool faB,J Y grB,J Y maB] 33
 rw [<- hA1,z0,<- htb] at n1
 have k2:=Jb A1 (.cells #[J Y v1.x,J Y v1.y,J Y v1.z] 27)
 rw [<- hA2] at k2
 have n2:=CW.new A1 [J Y v1.x,J Y v1.y,J Y v1.z] 27
 rw [<- hA2,z1,<- hb1] at n2
 have k3:=Jb A2 (.cells #[J Y v2.x,J Y v2.y,J Y v2.z] 27)
 rw [<- hA3] at k3
 have n3:=CW.new A2 [J Y v2.x,J Y v2.y,J Y v2.z] 27
 rw [<- hA3,z2,<- hb2] at n3
 have C0:Hid (CW A3 ta [J Y sk,J Y sr,J Y sx,J Y sy,J Y sz,.slice so Ls.length sc,J Y at0,J Y at1,J Y at2,J Y qa,J Y qb_,J Y qc,J Y qd,J Y ms,J Y fr,J Y p0,J Y p1,J Y p2,J Y l0,J Y l1,J Y l2,.bool fx,.bool fa,J Y gr,J Y ma]):=(((n0.step k1).step k2).step k3)
 have C1:Hid (CW A3 tb [J Y skB,J Y srB,J Y sxB,J Y syB,J Y szB,.slice soB LsB.length scB,J Y at0B,J Y at1B,J Y at2B,J Y qaB,J Y qb_B,J Y qcB,J Y qdB,J Y msB,J Y frB,J Y p0B,J Y p1B,J Y p2B,J Y l0B,J Y l1B,J Y l2B,.bool fxB,.bool faB,J Y grB,J Y maB]):=((n1.step k2).step k3)
 have C2:Hid (CW A3 b1 [J Y v1.x,J Y v1.y,J Y v1.z]):=(n2.step k3)
 have C3:Hid (CW A3 b2 [J Y v2.x,J Y v2.y,J Y v2.z]):=n3
 have HB:Hid (Below w0.heap.size w0 A3):=Jf (Jf (Jf k0 k1) k2) k3
 have h4:=CW.lt n3
 have HLT:Hid (w0.heap.size <= ta/\ta < tb/\tb < b1/\b1 < b2/\b2 < A3.heap.size):=by show _/\_;omega
 clear n0 n1 n2 n3 k0 k1 k2 k3 h4
 go_enter func4,ntmps4
 go_upto_region 1 with fail
 rw [<- hA0,<- hA1,<- hA2,<- hA3,<- hb2,<- hb1,<- htb,<- hta]
 clear hA0 hA1 hA2 hA3 hb1 hb2 hta htb z0 z1 z2
 go_wp2_with (fail)
 refine JA (AW.out _) ?_
 rintro e V1 ⟨rfl,HBa⟩
 have C0:Hid (CW _ _ _):=C0.out.step HBa.out
 have C1:Hid (CW _ _ _):=C1.out.step HBa.out
 have C2:Hid (CW _ _ _):=C2.out.step HBa.out
 have C3:Hid (CW _ _ _):=C3.out.step HBa.out
 have HB:Hid (Below w0.heap.size w0 V1):=Jf HB.out HBa.out
 have HSZ:Hid (b2 < V1.heap.size):=by have:=HBa.out.size;have h9:=HLT.out;show _ < _;omega
 clear HBa AW
 obtain ⟨g0,gf0⟩:=C0.out 21 _ rfl
 obtain ⟨g1,gf1⟩:=C1.out 21 _ rfl
 obtain ⟨Y1,hY1⟩:∃ V,V = (V1.setCell ⟨ta,21,none⟩ (.bool false)).setCell ⟨tb,21,none⟩ (.bool false):=⟨_,rfl⟩
 have C0:Hid (CW Y1 ta [J Y sk,J Y sr,J Y sx,J Y sy,J Y sz,.slice so Ls.length sc,J Y at0,J Y at1,J Y at2,J Y qa,J Y qb_,J Y qc,J Y qd,J Y ms,J Y fr,J Y p0,J Y p1,J Y p2,J Y l0,J Y l1,J Y l2,.bool false,.bool fa,J Y gr,J Y ma]):=by show CW _ _ _;rw [hY1];have hne:tb ≠ ta:=(by have:=HLT.out;omega);exact (C0.out.set 21 (.bool false) (by simp)).other (a:=⟨tb,21,none⟩) hne _
 have C1:Hid (CW Y1 tb [J Y skB,J Y srB,J Y sxB,J Y syB,J Y szB,.slice soB LsB.length scB,J Y at0B,J Y at1B,J Y at2B,J Y qaB,J Y qb_B,J Y qcB,J Y qdB,J Y msB,J Y frB,J Y p0B,J Y p1B,J Y p2B,J Y l0B,J Y l1B,J Y l2B,.bool false,.bool faB,J Y grB,J Y maB]):=by show CW _ _ _;rw [hY1];have hne:ta ≠ tb:=(by have:=HLT.out;omega);exact (C1.out.other (a:=⟨ta,21,none⟩) hne _).set 21 (.bool false) (by simp)
 have C2:Hid (CW Y1 b1 [J Y v1.x,J Y v1.y,J Y v1.z]):=by show CW _ _ _;rw [hY1];have hne:ta ≠ b1:=(by have:=HLT.out;omega);have hne2:tb ≠ b1:=(by have:=HLT.out;omega);exact (C2.out.other (a:=⟨ta,21,none⟩) hne _).other (a:=⟨tb,21,none⟩) hne2 _
 have C3:Hid (CW Y1 b2 [J Y v2.x,J Y v2.y,J Y v2.z]):=by show CW _ _ _;rw [hY1];have hne:ta ≠ b2:=(by have:=HLT.out;omega);have hne2:tb ≠ b2:=(by have:=HLT.out;omega);exact (C3.out.other (a:=⟨ta,21,none⟩) hne _).other (a:=⟨tb,21,none⟩) hne2 _
 have HB:Hid (Below w0.heap.size w0 Y1):=by show Below _ _ _;rw [hY1];have hw:w0.heap.size <= ta:=(by have:=HLT.out;omega);have hw2:w0.heap.size <= tb:=(by have:=HLT.out;omega);exact (HB.out.setCell hw _).setCell hw2 _
 have HSZ:Hid (b2 < Y1.heap.size):=by have h9:=HSZ.out;show _ < _;rw [hY1,World.size_setCell,World.size_setCell];exact h9
 have hne1:ta ≠ tb:=by have:=HLT.out;omega
 have hne2:tb ≠ ta:=by have:=HLT.out;omega
 go_upto_region 4 with fail
 rw [<- hY1]
 clear hY1 g0 g1 gf0 gf1 hne1 hne2
 have HRG:Hid (World.rangeAt Y1 ta 0 [J Y sk,J Y sr,J Y sx,J Y sy,J Y sz,.slice so Ls.length sc,J Y at0,J Y at1,J Y at2,J Y qa,J Y qb_,J Y qc,J Y qd,J Y ms,J Y fr,J Y p0,J Y p1,J Y p2,J Y l0,J Y l1,J Y l2,.bool false,.bool fa,J Y gr,J Y ma]):=C0.out.range
 go_wp2_with (refine wpList_load_mid rfl 33 _ rfl ta 0 rfl _ _ HRG.out underlying33 rfl (by kernel_rfl) ?_)
 refine JA (HRI.out _ HB.out) ?_
 rintro e V2 ⟨bd1,rs1,ur1,rfl,hrow,hok⟩
 have hb2_:=hrow.below
 have C0:Hid (CW _ _ _):=C0.out.step hb2_
 have C1:Hid (CW _ _ _):=C1.out.step hb2_
 have C2:Hid (CW _ _ _):=C2.out.step hb2_
 have C3:Hid (CW _ _ _):=C3.out.step hb2_
 have HB:Hid (Below w0.heap.size w0 V2):=Jf HB.out hb2_
 have hRst:RestP (rs1.l ur1) ur1:=Rs.rest rs1 (Jdf hrow.row)
 have HRS1:Hid _:=hRst
 obtain ⟨x1,hx_⟩:∃ x,Jcd bd1 = x:=⟨_,rfl⟩
 rw [hx_]
 have hy9:Hid _:=Jaa hRst.rest x1
 have hz1:Hid _:=J2 hRst.rest x1
 have h19:Hid _:=hRst.rest.each x1
 have hl9:Hid _:=hRst.rest.all x1
 obtain ⟨X1,hX2⟩:∃ X,X = (V2.alloc (.cells #[J Y 0,J Y 0,J Y 0,J Y 0,J Y 0,J Y 0,J Y 0,J Y 0,J Y 0,J Y 0,J Y 0,J Y 0,J Y 0,J Y 0,J Y 0,J Y 0,J Y 0,J Y 0,J Y 0,J Y 0,J Y 0,J Y 0,J Y 0,.slice none 0 0,J Y 0,J Y 0,J Y 0,.bool false,J Y 0,.bool false,.bool false] 39)).setCells V2.heap.size 0 (x1.L (rs1.l ur1)):=⟨_,rfl⟩
 obtain ⟨NX,BX,SX,TX⟩:=Jc1 V2 (x1.L (rs1.l ur1)) hl9.out
 rw [<- hX2] at NX BX SX
 have HT9:Hid (World.there _ _ _ _):=TX
 obtain ⟨xb1,hxb⟩:∃ p,p = V2.heap.size:=⟨_,rfl⟩
 rw [<- hxb] at NX
 have C0:Hid (CW _ _ _):=C0.out.step BX
 have C1:Hid (CW _ _ _):=C1.out.step BX
 have C2:Hid (CW _ _ _):=C2.out.step BX
 have C3:Hid (CW _ _ _):=C3.out.step BX
 have HB:Hid (Below w0.heap.size w0 X1):=Jf HB.out BX
 have CX1:Hid (CW X1 xb1 (x1.L (rs1.l ur1))):=NX
 have HUX1:Hid (ur1.ownBlock ≠ some xb1):=fun e=>by have:=(hrow.row.lt _ e).2;omega
 have HFR1:Hid (FX x1/\FJ x1 0 x1/\(x1.k = if false = true then 1 else 2)/\_/\_):=hok.free hx_
 have HLN1:Hid (rs1.sh.pts.length <= 100000):=Jhy hok.good
 have HXS1:Hid (Y1.heap.size <= xb1/\xb1 < X1.heap.size):=by have h1:=hrow.below.size;have h2:=CW.lt31 NX hl9.out;show _/\_;omega
 have HOW1:Hid (X1.ownsRow Y1.heap.size 23 3 ur1 rs1.sh.pts.length (fl3 rs1.sh.pts)):=(hrow.step BX).row
 clear hb2_ hrow hRst NX BX SX TX hok hx_ HRI HRG
 go_upto_region 5 with (refine wpList_store_mid rfl 39 _ _ rfl V2.heap.size 0 _ rfl rfl HT9.out hy9.out h19.out ?_)
 rw [<- hX2,<- hxb]
 clear hX2 hxb HT9 hy9 h19 hl9
 have HOX:=HOW1
 clear C0
 have HRG:Hid (World.rangeAt X1 tb 0 [J Y skB,J Y srB,J Y sxB,J Y syB,J Y szB,.slice soB LsB.length scB,J Y at0B,J Y at1B,J Y at2B,J Y qaB,J Y qb_B,J Y qcB,J Y qdB,J Y msB,J Y frB,J Y p0B,J Y p1B,J Y p2B,J Y l0B,J Y l1B,J Y l2B,.bool false,.bool faB,J Y grB,J Y maB]):=C1.out.range
 go_wp2_with (refine wpList_load_mid rfl 33 _ rfl tb 0 rfl _ _ HRG.out underlying33 rfl (by kernel_rfl) ?_)
 refine JA (HRIB.out _ HB.out) ?_
 rintro e V2 ⟨bd2,rs2,ur2,rfl,hrow,hok⟩
 have hb2_:=hrow.below
 have C1:Hid (CW _ _ _):=C1.out.step hb2_
 have C2:Hid (CW _ _ _):=C2.out.step hb2_
 have C3:Hid (CW _ _ _):=C3.out.step hb2_
 have CX1:Hid (CW _ _ _):=CX1.out.step hb2_
 have HB:Hid (Below w0.heap.size w0 V2):=Jf HB.out hb2_
 have HOW1:Hid (V2.ownsRow Y1.heap.size 23 3 ur1 rs1.sh.pts.length (fl3 rs1.sh.pts)):=Jq HOW1.out hb2_
 have hRst:RestP (rs2.l ur2) ur2:=Rs.rest rs2 (Jdf hrow.row)
 have HRS2:Hid _:=hRst
 obtain ⟨x2,hx_⟩:∃ x,Jcd bd2 = x:=⟨_,rfl⟩
 rw [hx_]
 have hy9:Hid _:=Jaa hRst.rest x2
 have hz2:Hid _:=J2 hRst.rest x2
 have h19:Hid _:=hRst.rest.each x2
 have hl9:Hid _:=hRst.rest.all x2
 obtain ⟨X2,hX2⟩:∃ X,X = (V2.alloc (.cells #[J Y 0,J Y 0,J Y 0,J Y 0,J Y 0,J Y 0,J Y 0,J Y 0,J Y 0,J Y 0,J Y 0,J Y 0,J Y 0,J Y 0,J Y 0,J Y 0,J Y 0,J Y 0,J Y 0,J Y 0,J Y 0,J Y 0,J Y 0,.slice none 0 0,J Y 0,J Y 0,J Y 0,.bool false,J Y 0,.bool false,.bool false] 39)).setCells V2.heap.size 0 (x2.L (rs2.l ur2)):=⟨_,rfl⟩
 obtain ⟨NX,BX,SX,TX⟩:=Jc1 V2 (x2.L (rs2.l ur2)) hl9.out
 rw [<- hX2] at NX BX SX
 have HT9:Hid (World.there _ _ _ _):=TX
 obtain ⟨xb2,hxb⟩:∃ p,p = V2.heap.size:=⟨_,rfl⟩
 rw [<- hxb] at NX
 have C1:Hid (CW _ _ _):=C1.out.step BX
 have C2:Hid (CW _ _ _):=C2.out.step BX
 have C3:Hid (CW _ _ _):=C3.out.step BX
 have CX1:Hid (CW _ _ _):=CX1.out.step BX
 have HB:Hid (Below w0.heap.size w0 X2):=Jf HB.out BX
 have HOW1:Hid (X2.ownsRow Y1.heap.size 23 3 ur1 rs1.sh.pts.length (fl3 rs1.sh.pts)):=Jq HOW1.out BX
 have CX2:Hid (CW X2 xb2 (x2.L (rs2.l ur2))):=NX
 have HUX2:Hid (ur2.ownBlock ≠ some xb2):=fun e=>by have:=(hrow.row.lt _ e).2;omega
 have HFR2:Hid (FX x2/\FJ x2 0 x2/\(x2.k = if false = true then 1 else 2)/\_/\_):=hok.free hx_
 have HLN2:Hid (rs2.sh.pts.length <= 100000):=Jhy hok.good
 have HXS2:Hid (X1.heap.size <= xb2/\xb2 < X2.heap.size):=by have h1:=hrow.below.size;have h2:=CW.lt31 NX hl9.out;show _/\_;omega
 have HOW2:Hid (X2.ownsRow X1.heap.size 23 3 ur2 rs2.sh.pts.length (fl3 rs2.sh.pts)):=(hrow.step BX).row
 clear hb2_ hrow hRst NX BX SX TX hok hx_ HRIB HRG
 go_upto_region 6 with (refine wpList_store_mid rfl 39 _ _ rfl V2.heap.size 0 _ rfl rfl HT9.out hy9.out h19.out ?_)
 rw [<- hX2,<- hxb]
 clear hX2 hxb HT9 hy9 h19 hl9
 clear C1
 have HPX:Hid (w0.heap.size <= b1/\b1 < b2/\b2 < xb1/\xb1 < xb2/\xb2 < X2.heap.size):=by have h1:=HLT.out;have h2:=HSZ.out;have h3:=HXS1.out;have h4:=HXS2.out;show _/\_;omega
 have HU12:Hid (ur1.ownBlock ≠ some xb2):=fun e=>by have:=(HOX.out.lt _ e).2;have h3:=HXS2.out;omega
 have HYB:Hid (b1 < Y1.heap.size/\b1 < X1.heap.size):=by have h1:=HLT.out;have h2:=HSZ.out;have h3:=HXS1.out;show _/\_;omega
 clear HLT HSZ HXS1 HXS2 HOX
 obtain ⟨g0,gf0⟩:=C2.out 0 _ rfl
 obtain ⟨g1,gf1⟩:=C2.out 1 _ rfl
 obtain ⟨g2,gf2⟩:=C2.out 2 _ rfl
 go_wp2_with (fail)
 refine JA (HV1.out _) ?_
 rintro e Y2 ⟨rfl,hb⟩
 clear g0 g1 g2 gf0 gf1 gf2
 have C2:Hid (CW _ _ _):=C2.out.step hb
 have C3:Hid (CW _ _ _):=C3.out.step hb
 have CX1:Hid (CW _ _ _):=CX1.out.step hb
 have CX2:Hid (CW _ _ _):=CX2.out.step hb
 have HB:Hid (Below w0.heap.size w0 Y2):=Jf HB.out hb
 have HOW1:Hid (World.ownsRow _ _ _ _ _ _ _):=Jq HOW1.out hb
 have HOW2:Hid (World.ownsRow _ _ _ _ _ _ _):=Jq HOW2.out hb
 obtain ⟨g0,gf0⟩:=C2.out 0 _ rfl
 obtain ⟨g1,gf1⟩:=C2.out 1 _ rfl
 obtain ⟨g2,gf2⟩:=C2.out 2 _ rfl
 obtain ⟨Z1,hZ⟩:∃ V,V = (((Y2.setCell ⟨b1,0,none⟩ (J Y q1.x)).setCell ⟨b1,1,none⟩ (J Y q1.y)).setCell ⟨b1,2,none⟩ (J Y q1.z)):=⟨_,rfl⟩
 have C2:Hid (CW Z1 b1 [J Y q1.x,J Y q1.y,J Y q1.z]):=by show CW _ _ _;rw [hZ];exact (((C2.out.set 0 (J Y q1.x) (by simp)).set 1 (J Y q1.y) (by simp)).set 2 (J Y q1.z) (by simp))
 have C3:Hid (CW Z1 b2 [J Y v2.x,J Y v2.y,J Y v2.z]):=by show CW _ _ _;rw [hZ];have hne:b1 ≠ b2:=(by have:=HPX.out;omega);exact (((C3.out.other (a:=⟨b1,0,none⟩) hne _).other (a:=⟨b1,1,none⟩) hne _).other (a:=⟨b1,2,none⟩) hne _)
 have CX1:Hid (CW Z1 xb1 (x1.L (rs1.l ur1))):=by show CW _ _ _;rw [hZ];have hne:b1 ≠ xb1:=(by have:=HPX.out;omega);exact (((CX1.out.other (a:=⟨b1,0,none⟩) hne _).other (a:=⟨b1,1,none⟩) hne _).other (a:=⟨b1,2,none⟩) hne _)
 have CX2:Hid (CW Z1 xb2 (x2.L (rs2.l ur2))):=by show CW _ _ _;rw [hZ];have hne:b1 ≠ xb2:=(by have:=HPX.out;omega);exact (((CX2.out.other (a:=⟨b1,0,none⟩) hne _).other (a:=⟨b1,1,none⟩) hne _).other (a:=⟨b1,2,none⟩) hne _)
 have HB:Hid (Below w0.heap.size w0 Z1):=by show Below _ _ _;rw [hZ];have hw:w0.heap.size <= b1:=(by have:=HPX.out;omega);exact ((HB.out.setCell hw _).setCell hw _).setCell hw _
 have HOW1:Hid (Z1.ownsRow Y1.heap.size 23 3 ur1 rs1.sh.pts.length (fl3 rs1.sh.pts)):=by show World.ownsRow _ _ _ _ _ _ _;rw [hZ];refine Jc2 HOW1.out fun g hg=>?_;have hne:g ≠ b1:=(by have h1:=(HOW1.out.lt g hg).1;have h2:=HYB.out;omega);rw [Go.heap_setCell_other _ _ _ _ hne,Go.heap_setCell_other _ _ _ _ hne,Go.heap_setCell_other _ _ _ _ hne]
 have HOW2:Hid (Z1.ownsRow X1.heap.size 23 3 ur2 rs2.sh.pts.length (fl3 rs2.sh.pts)):=by show World.ownsRow _ _ _ _ _ _ _;rw [hZ];refine Jc2 HOW2.out fun g hg=>?_;have hne:g ≠ b1:=(by have h1:=(HOW2.out.lt g hg).1;have h2:=HYB.out;omega);rw [Go.heap_setCell_other _ _ _ _ hne,Go.heap_setCell_other _ _ _ _ hne,Go.heap_setCell_other _ _ _ _ hne]
 go_upto_region 7 with fail
 rw [<- hZ]
 clear hZ hb g0 g1 g2 gf0 gf1 gf2 HV1
 obtain ⟨g0,gf0⟩:=C3.out 0 _ rfl
 obtain ⟨g1,gf1⟩:=C3.out 1 _ rfl
 obtain ⟨g2,gf2⟩:=C3.out 2 _ rfl
 go_wp2_with (fail)
 refine JA (HV2.out _) ?_
 rintro e Y3 ⟨rfl,hb⟩
 clear g0 g1 g2 gf0 gf1 gf2
 have C2:Hid (CW _ _ _):=C2.out.step hb
 have CX1:Hid (CW _ _ _):=CX1.out.step hb
 have CX2:Hid (CW _ _ _):=CX2.out.step hb
 have HB:Hid (Below w0.heap.size w0 Y3):=Jf HB.out hb
 have HOW1:Hid (World.ownsRow _ _ _ _ _ _ _):=Jq HOW1.out hb
 have HOW2:Hid (World.ownsRow _ _ _ _ _ _ _):=Jq HOW2.out hb
 have HSY:Hid (xb2 < Y3.heap.size):=CW.lt31 CX2.out (HRS2.out.rest.all x2)
 clear hb HV2 C3
 obtain ⟨V4,hV⟩:∃ V,V = Y3.alloc (.cells #[J Y q2.x,J Y q2.y,J Y q2.z] 27):=⟨_,rfl⟩
 obtain ⟨jb,hbb⟩:∃ b,b = Y3.heap.size:=⟨_,rfl⟩
 have hb:Below Y3.heap.size Y3 V4:=by rw [hV];exact Jb _ _
 have Cn:CW V4 jb [J Y q2.x,J Y q2.y,J Y q2.z]:=by rw [hV,hbb];exact CW.new Y3 [J Y q2.x,J Y q2.y,J Y q2.z] 27
 have HNU1jb:Hid (ur1.ownBlock ≠ some jb):=fun e=>by have:=(HOW1.out.lt _ e).2;omega
 have HNU2jb:Hid (ur2.ownBlock ≠ some jb):=fun e=>by have:=(HOW2.out.lt _ e).2;omega
 have C2:Hid (CW _ _ _):=C2.out.step hb
 have CX1:Hid (CW _ _ _):=CX1.out.step hb
 have CX2:Hid (CW _ _ _):=CX2.out.step hb
 have HB:Hid (Below w0.heap.size w0 V4):=Jf HB.out hb
 have HOW1:Hid (World.ownsRow _ _ _ _ _ _ _):=Jq HOW1.out hb
 have HOW2:Hid (World.ownsRow _ _ _ _ _ _ _):=Jq HOW2.out hb
 have CJ:Hid (CW V4 jb [J Y q2.x,J Y q2.y,J Y q2.z]):=Cn
 have HPJ:Hid (xb2 < jb/\jb < V4.heap.size):=by have h1:=HSY.out;have h2:=CW.lt Cn;show _/\_;omega
 go_upto_region 8 with fail
 rw [<- hV,<- hbb]
 clear hV hbb hb Cn
 obtain ⟨V5,hV⟩:∃ V,V = V4.alloc (.cells #[.bool false] 53):=⟨_,rfl⟩
 obtain ⟨po,hbb⟩:∃ b,b = V4.heap.size:=⟨_,rfl⟩
 have hb:Below V4.heap.size V4 V5:=by rw [hV];exact Jb _ _
 have Cn:CW V5 po [.bool false]:=by rw [hV,hbb];exact CW.new V4 [.bool false] 53
 have HNU1po:Hid (ur1.ownBlock ≠ some po):=fun e=>by have:=(HOW1.out.lt _ e).2;omega
 have HNU2po:Hid (ur2.ownBlock ≠ some po):=fun e=>by have:=(HOW2.out.lt _ e).2;omega
 have C2:Hid (CW _ _ _):=C2.out.step hb
 have CX1:Hid (CW _ _ _):=CX1.out.step hb
 have CX2:Hid (CW _ _ _):=CX2.out.step hb
 have CJ:Hid (CW _ _ _):=CJ.out.step hb
 have HB:Hid (Below w0.heap.size w0 V5):=Jf HB.out hb
 have HOW1:Hid (World.ownsRow _ _ _ _ _ _ _):=Jq HOW1.out hb
 have HOW2:Hid (World.ownsRow _ _ _ _ _ _ _):=Jq HOW2.out hb
 have CO:Hid (CW V5 po [.bool false]):=Cn
 have HPO:Hid (jb < po/\po < V5.heap.size):=by have h1:=HPJ.out;have h2:=CW.lt Cn;show _/\_;omega
 go_upto_region 9 with fail
 rw [<- hV,<- hbb]
 clear hV hbb hb Cn
 have HBK:Hid _:=Jn2 (a:=⟨0,0,0⟩) (b:=q2) (by unfold isV;simp) (Jbw HN2.out (by decide))
 have HC:Hid _:=Jlt po 0 false ⟨0,0,0⟩ q2 V5 (CO.out 0 _ rfl).1 (CO.out 0 _ rfl).2
 obtain ⟨bk,hbk⟩:∃ b,Jig ⟨0,0,0⟩ q2 = b:=⟨_,rfl⟩
 rw [hbk,HBK.out.1] at HC
 have HBE:Hid (bk = ⟨-q2.x,-q2.y,-q2.z⟩):=by show _ = _;rw [<- hbk,HBK.out.2];simp only [Int.zero_sub]
 clear hbk HBK
 have g0:=(CJ.out 0 _ rfl).1
 have g1:=(CJ.out 1 _ rfl).1
 have g2:=(CJ.out 2 _ rfl).1
 go_wp2_with (fail)
 refine JA HC.out ?_
 rintro e V6 ⟨rfl,A⟩
 clear g0 g1 g2 HC
 have C2:Hid (CW _ _ _):=C2.out.after A.out (by have h1:=HPX.out;have h2:=HPJ.out;have h3:=HPO.out;show b1 ≠ po;omega)
 have CX1:Hid (CW _ _ _):=CX1.out.after A.out (by have h1:=HPX.out;have h2:=HPJ.out;have h3:=HPO.out;show xb1 ≠ po;omega)
 have CX2:Hid (CW _ _ _):=CX2.out.after A.out (by have h1:=HPX.out;have h2:=HPJ.out;have h3:=HPO.out;show xb2 ≠ po;omega)
 have CJ:Hid (CW _ _ _):=CJ.out.after A.out (by have h1:=HPX.out;have h2:=HPJ.out;have h3:=HPO.out;show jb ≠ po;omega)
 have CO:Hid (CW V6 po [.bool false]):=CW.flag A.out
 have HB:Hid (Below w0.heap.size w0 V6):=A.out.leaves.below _ _ HB.out (by have h1:=HPX.out;have h2:=HPJ.out;have h3:=HPO.out;show _ <= po;omega) HB.out.size
 have HOW1:Hid (World.ownsRow _ _ _ _ _ _ _):=Jc2 HOW1.out fun g hg=>A.out.kept.2.2.2 g (HOW1.out.lt g hg).2 (fun e=>HNU1po.out (by rw [hg];exact congrArg some e))
 have HOW2:Hid (World.ownsRow _ _ _ _ _ _ _):=Jc2 HOW2.out fun g hg=>A.out.kept.2.2.2 g (HOW2.out.lt g hg).2 (fun e=>HNU2po.out (by rw [hg];exact congrArg some e))
 have HSZ6:Hid (po < V6.heap.size):=CW.lt CO.out
 clear A
 obtain ⟨V7,hV⟩:∃ V,V = V6.alloc (.cells #[J Y bk.x,J Y bk.y,J Y bk.z] 27):=⟨_,rfl⟩
 obtain ⟨bb,hbb⟩:∃ b,b = V6.heap.size:=⟨_,rfl⟩
 have hb:Below V6.heap.size V6 V7:=by rw [hV];exact Jb _ _
 have Cn:CW V7 bb [J Y bk.x,J Y bk.y,J Y bk.z]:=by rw [hV,hbb];exact CW.new V6 [J Y bk.x,J Y bk.y,J Y bk.z] 27
 have HNU1bb:Hid (ur1.ownBlock ≠ some bb):=fun e=>by have:=(HOW1.out.lt _ e).2;omega
 have HNU2bb:Hid (ur2.ownBlock ≠ some bb):=fun e=>by have:=(HOW2.out.lt _ e).2;omega
 have C2:Hid (CW _ _ _):=C2.out.step hb
 have CX1:Hid (CW _ _ _):=CX1.out.step hb
 have CX2:Hid (CW _ _ _):=CX2.out.step hb
 have CJ:Hid (CW _ _ _):=CJ.out.step hb
 have CO:Hid (CW _ _ _):=CO.out.step hb
 have HB:Hid (Below w0.heap.size w0 V7):=Jf HB.out hb
 have HOW1:Hid (World.ownsRow _ _ _ _ _ _ _):=Jq HOW1.out hb
 have HOW2:Hid (World.ownsRow _ _ _ _ _ _ _):=Jq HOW2.out hb
 have CB:Hid (CW V7 bb [J Y bk.x,J Y bk.y,J Y bk.z]):=Cn
 have HPB:Hid (po < bb/\bb < V7.heap.size):=by have h1:=HSZ6.out;have h2:=CW.lt Cn;show _/\_;omega
 go_upto_region 10 with fail
 rw [<- hV,<- hbb]
 clear hV hbb hb Cn
 obtain ⟨V8,hV⟩:∃ V,V = V7.alloc (.cells #[.bool false] 47):=⟨_,rfl⟩
 obtain ⟨pw,hbb⟩:∃ b,b = V7.heap.size:=⟨_,rfl⟩
 have hb:Below V7.heap.size V7 V8:=by rw [hV];exact Jb _ _
 have Cn:CW V8 pw [.bool false]:=by rw [hV,hbb];exact CW.new V7 [.bool false] 47
 have HNU1pw:Hid (ur1.ownBlock ≠ some pw):=fun e=>by have:=(HOW1.out.lt _ e).2;omega
 have HNU2pw:Hid (ur2.ownBlock ≠ some pw):=fun e=>by have:=(HOW2.out.lt _ e).2;omega
 have C2:Hid (CW _ _ _):=C2.out.step hb
 have CX1:Hid (CW _ _ _):=CX1.out.step hb
 have CX2:Hid (CW _ _ _):=CX2.out.step hb
 have CJ:Hid (CW _ _ _):=CJ.out.step hb
 have CO:Hid (CW _ _ _):=CO.out.step hb
 have CB:Hid (CW _ _ _):=CB.out.step hb
 have HB:Hid (Below w0.heap.size w0 V8):=Jf HB.out hb
 have HOW1:Hid (World.ownsRow _ _ _ _ _ _ _):=Jq HOW1.out hb
 have HOW2:Hid (World.ownsRow _ _ _ _ _ _ _):=Jq HOW2.out hb
 have CP:Hid (CW V8 pw [.bool false]):=Cn
 have HPW:Hid (bb < pw/\pw < V8.heap.size):=by have h1:=HPB.out;have h2:=CW.lt Cn;show _/\_;omega
 go_upto_region 11 with fail
 rw [<- hV,<- hbb]
 clear hV hbb hb Cn
 have HK:Hid (BK w0 pw po [(b1,[J Y q1.x,J Y q1.y,J Y q1.z]),(xb1,x1.L (rs1.l ur1)),(xb2,x2.L (rs2.l ur2)),(jb,[J Y q2.x,J Y q2.y,J Y q2.z]),(bb,[J Y bk.x,J Y bk.y,J Y bk.z])] [(ur1,rs1.sh.pts),(ur2,rs2.sh.pts)] V8):=by
  have h1:=HPX.out;have h2:=HPJ.out;have h3:=HPO.out;have h4:=HPB.out;have h5:=HPW.out
  refine ⟨fun x hx=>?_,CP.out,CO.out,HB.out,fun x hx=>?_,by omega,by omega,by omega,fun x hx=>?_⟩
  ·simp only [List.mem_cons,List.not_mem_nil,or_false] at hx
   rcases hx with rfl | rfl | rfl | rfl | rfl
   ·exact C2.out
   ·exact CX1.out
   ·exact CX2.out
   ·exact CJ.out
   ·exact CB.out
  ·simp only [List.mem_cons,List.not_mem_nil,or_false] at hx
   rcases hx with rfl | rfl
   ·exact ⟨_,HOW1.out,HNU1pw.out,HNU1po.out⟩
   ·exact ⟨_,HOW2.out,HNU2pw.out,HNU2po.out⟩
  ·simp only [List.mem_cons,List.not_mem_nil,or_false] at hx
   rcases hx with rfl | rfl | rfl | rfl | rfl <;> (dsimp only;omega)
 have HKL:Hid (∀ x ∈ ([(b1,[J Y q1.x,J Y q1.y,J Y q1.z]),(xb1,x1.L (rs1.l ur1)),(xb2,x2.L (rs2.l ur2)),(jb,[J Y q2.x,J Y q2.y,J Y q2.z]),(bb,[J Y bk.x,J Y bk.y,J Y bk.z])]:List (Nat × List Value)),x.1 < V8.heap.size):=fun x hx=>by
  have h1:=HPX.out;have h2:=HPJ.out;have h3:=HPO.out;have h4:=HPB.out;have h5:=HPW.out
  simp only [List.mem_cons,List.not_mem_nil,or_false] at hx
  rcases hx with rfl | rfl | rfl | rfl | rfl <;> (dsimp only;omega)
 obtain ⟨sb1,m1,c1,hm1,hc1,hg1,f1⟩:=Jhz (x:=x1) (at_:=q1) (j:=q2) HFR1.out.2.2.1 (Jbw (HFR1.out.2.1.mv HFR1.out.2.2.1).2 (by decide)) HFR1.out.1.p HFR1.out.1.l HN1.out HN2.out
 obtain ⟨sb2,m2,c2,hm2,hc2,hg2,f2⟩:=Jhz (x:=x2) (at_:=q1) (j:=bk) HFR2.out.2.2.1 (Jbw (HFR2.out.2.1.mv HFR2.out.2.2.1).2 (by decide)) HFR2.out.1.p HFR2.out.1.l HN1.out (by rw [HBE.out];have h:=HN2.out;unfold isV at *;dsimp only;omega)
 have HM1:Hid _:=And.intro sb1 (And.intro hm1 (And.intro hc1 hg1))
 have HM2:Hid _:=And.intro sb2 (And.intro hm2 (And.intro hc2 hg2))
 have HF1:Hid _:=f1
 have HF2:Hid _:=f2
 clear sb1 sb2 hm1 hm2 hc1 hc2 hg1 hg2 f1 f2 C2 CX1 CX2 CJ CB CO CP HB HOW1 HOW2 HPX HPJ HPO HPB HPW HYB HSY HSZ6 HNU1jb HNU1po HNU1bb HNU1pw HNU2jb HNU2po HNU2bb HNU2pw HUX1 HUX2 HU12
 refine RV.rs [.some (.pointer (some ⟨pw,0,none⟩)),.some (.agg (x1.L (rs1.l ur1)).toArray),.some (.pointer (some ⟨po,0,none⟩)),.some q1.val,.some (.pointer (some ⟨xb1,1,none⟩)),.some (.pointer (some ⟨xb1,1,none⟩)),.some x1.s.val,.some m1.val,.some q2.val,.none,.none,.none] [42,43,44,45,46,47,48,49,50,51,17,0] [(15,.pointer (some ⟨pw,0,none⟩)),(10,.pointer (some ⟨xb1,0,none⟩)),(13,.pointer (some ⟨po,0,none⟩)),(6,.pointer (some ⟨b1,0,none⟩)),(12,.pointer (some ⟨jb,0,none⟩))] (fun γ L w=>PuG w0 V8 pw po [(b1,[J Y q1.x,J Y q1.y,J Y q1.z]),(xb1,x1.L (rs1.l ur1)),(xb2,x2.L (rs2.l ur2)),(jb,[J Y q2.x,J Y q2.y,J Y q2.z]),(bb,[J Y bk.x,J Y bk.y,J Y bk.z])] [(ur1,rs1.sh.pts),(ur2,rs2.sh.pts)] rs1.sh.pts (rs1.l ur1) c1 γ L w) ⟨rfl,rfl,rfl,rfl,rfl,trivial⟩ (PuG.start HK.out HKL.out) ?_ ?_
 ·intro D WA Z hD hWA hZ T
  simp only [RV.Outs,RV.Slots,Nat.reduceAdd] at T
  (refine RV.cc _ (RV.pu T (fun γ v L w hl h=>h.other v (by decide) (by decide) (by decide)) (fun γ L a w hH hl h9 k9=>⟨_,?_,rfl⟩)) ?_;· simp [JD,go_sem,h9])
  refine RV.cc _ (RV.pu T (fun γ v L w hl h=>h.other v (by decide) (by decide) (by decide)) (fun γ L a w hH hl h9 k9=>⟨_,Jbp 39 _ rfl xb1 0 (by simp [go_sem,h9]) _ _ (hH.glob.k.c (xb1,x1.L (rs1.l ur1)) (by simp)).range underlying39 rfl hz1.out,rfl⟩)) ?_
  (refine RV.cc _ (RV.pu T (fun γ v L w hl h=>h.other v (by decide) (by decide) (by decide)) (fun γ L a w hH hl h9 k9=>⟨_,?_,rfl⟩)) ?_;· simp [JD,go_sem,h9])
  (refine RV.cc _ (RV.pu T (fun γ v L w hl h=>h.other v (by decide) (by decide) (by decide)) (fun γ L a w hH hl h9 k9=>⟨_,?_,rfl⟩)) ?_;· have q5:=((hH.glob.k.c (b1,[J Y q1.x,J Y q1.y,J Y q1.z]) (by simp)) 0 _ rfl).1;have q6:=((hH.glob.k.c (b1,[J Y q1.x,J Y q1.y,J Y q1.z]) (by simp)) 1 _ rfl).1;have q7:=((hH.glob.k.c (b1,[J Y q1.x,J Y q1.y,J Y q1.z]) (by simp)) 2 _ rfl).1;simp [JD,go_sem,h9,q5,q6,q7])
  (refine RV.cc _ (RV.pu T (fun γ v L w hl h=>h.other v (by decide) (by decide) (by decide)) (fun γ L a w hH hl h9 k9=>⟨_,?_,rfl⟩)) ?_;· simp [JD,go_sem,h9])
  (refine RV.cc _ (RV.pu T (fun γ v L w hl h=>h.other v (by decide) (by decide) (by decide)) (fun γ L a w hH hl h9 k9=>⟨_,?_,rfl⟩)) ?_;· simp [JC] at k9;simp [JD,go_sem,h9,k9])
  (refine RV.cc _ (RV.pu T (fun γ v L w hl h=>h.other v (by decide) (by decide) (by decide)) (fun γ L a w hH hl h9 k9=>⟨_,?_,rfl⟩)) ?_;· have q5:=((hH.glob.k.c (xb1,x1.L (rs1.l ur1)) (by simp)) 1 _ rfl).1;have q6:=((hH.glob.k.c (xb1,x1.L (rs1.l ur1)) (by simp)) 2 _ rfl).1;have q7:=((hH.glob.k.c (xb1,x1.L (rs1.l ur1)) (by simp)) 3 _ rfl).1;simp [JC] at k9;simp [JD,go_sem,h9,k9,q5,q6,q7])
  refine RV.cc _ (RV.dc (fun γ L a w hH hl hA=>by have h9:=T γ L a w hH;have k9:=hA;simp [JC] at k9;have hp:=Jlt po 0 false q1 x1.s w (hH.glob.k.o 0 _ rfl).1 (hH.glob.k.o 0 _ rfl).2;rw [HM1.out.1,HM1.out.2.1] at hp;exact ⟨_,_,by simp [go_sem,h9,k9],JA hp (by rintro e w2 ⟨rfl,ha⟩;exact ⟨_,rfl,rfl,fun j v _ h=>h.keep _,hH.glob.sub _ ha.out (by decide) (by decide) (by decide) (RV.ny hH (RV.wt (j:=9) (i:=7) hWA (by kernel_rfl)) hl) (RV.ny hH (RV.wt (j:=11) (i:=9) hWA (by kernel_rfl)) (RV.ny hH (RV.wt (j:=9) (i:=7) hWA (by kernel_rfl)) hl))⟩)⟩)) ?_
  (refine RV.cc _ (RV.pu T (fun γ v L w hl h=>h.other v (by decide) (by decide) (by decide)) (fun γ L a w hH hl h9 k9=>⟨_,?_,rfl⟩)) ?_;· have q5:=((hH.glob.k.c (jb,[J Y q2.x,J Y q2.y,J Y q2.z]) (by simp)) 0 _ rfl).1;have q6:=((hH.glob.k.c (jb,[J Y q2.x,J Y q2.y,J Y q2.z]) (by simp)) 1 _ rfl).1;have q7:=((hH.glob.k.c (jb,[J Y q2.x,J Y q2.y,J Y q2.z]) (by simp)) 2 _ rfl).1;simp [JD,go_sem,h9,q5,q6,q7])
  refine RV.cc _ (RV.dc (fun γ L a w hH hl hA=>by have h9:=T γ L a w hH;have k9:=hA;simp [JC] at k9;obtain ⟨_,ow,_⟩:=hH.glob.k.own (ur1,rs1.sh.pts) (by simp);have hp:=Jha pw 0 false x1 (rs1.l ur1) ur1 rs1.sh.pts m1 q2 HRS1.out w (hH.glob.k.w 0 _ rfl).1 (hH.glob.k.w 0 _ rfl).2 (Lies.of_row ow) HLN1.out;rw [HM1.out.2.2.1,HM1.out.2.2.2] at hp;exact ⟨_,_,by simp [go_sem,h9,k9],JA hp (by rintro e w2 ⟨uu,rfl,ha,ho⟩;exact ⟨_,rfl,trivial,fun j v _ h=>h.keep _,hH.glob.push ha.out ho.out (RV.ny hH (RV.wt (j:=11) (i:=9) hWA (by kernel_rfl)) hl)⟩)⟩)) ?_
  refine RV.cc _ (RV.does_step (fun γ L a w hH hl hA=>by exact ⟨.pointer (some ⟨w.heap.size,0,none⟩),w.alloc (.cells #[J Y 0,J Y 0,J Y 0,J Y 0,J Y 0,J Y 0,J Y 0,J Y 0,J Y 0,J Y 0,J Y 0,J Y 0,J Y 0,J Y 0,J Y 0,J Y 0,J Y 0,J Y 0,J Y 0,J Y 0,J Y 0,J Y 0,J Y 0,.slice none 0 0,J Y 0,J Y 0,J Y 0,.bool false,J Y 0,.bool false,.bool false] 39),by simp [JD,go_sem],trivial,fun j v _ h=>h.keep _,hH.glob.made (RV.ny hH (RV.wt (j:=11) (i:=10) hWA (by kernel_rfl)) hl) [J Y 0,J Y 0,J Y 0,J Y 0,J Y 0,J Y 0,J Y 0,J Y 0,J Y 0,J Y 0,J Y 0,J Y 0,J Y 0,J Y 0,J Y 0,J Y 0,J Y 0,J Y 0,J Y 0,J Y 0,J Y 0,J Y 0,J Y 0,.slice none 0 0,J Y 0,J Y 0,J Y 0,.bool false,J Y 0,.bool false,.bool false] rfl⟩)) ?_
  refine RV.cc _ (RV.does_store (fun γ L a w hH hl hA=>by have l0:L 10 = true:=hA ⟨10,.data⟩ (by simp) rfl;have l8:L 9 = true:=hA ⟨9,.data⟩ (by simp) rfl;have e0:=hH.slot 10 16 (by rw [<- hD];rfl) l0;have e8:=hH.slot 9 50 (by rw [<- hD];rfl) l8;obtain ⟨b9,c9,u9,f1,f2,f3,f4,f5,f6⟩:=hH.glob.fill l8 l0 (fun z hz=>(HRS1.out.set hz).rest);rw [f1] at e0;rw [f2] at e8;have hr9:=(HRS1.out.set f5).rest;exact ⟨_,Jcy 39 _ _ rfl b9 0 _ (by simp [Act.eval,e0]) (by simp [Act.eval,e8]) (f3.there31 f4 hr9) (Jaa hr9 _) (hr9.each _),trivial,fun j v _ h=>h.keep _,f6 _⟩)) ?_
  exact RV.AllDo.nil
 ·intro γ W1 L9 hL9 hI9 hG9
  obtain ⟨cb1,cs9,e1,e2,e3,e4,e5⟩:=hG9.box (hL9 10 (by decide))
  obtain ⟨uc1,e6,huc1⟩:=e5 (hL9 11 (by decide))
  rw [e6,Rs.set] at e3
  have hlt9:=CW.lt31 e3 ((Rs.rest rs1 huc1).rest.all c1)
  have HKL:Hid (∀ x ∈ (((cb1,c1.L (rs1.l uc1)) :: [(b1,[J Y q1.x,J Y q1.y,J Y q1.z]),(xb1,x1.L (rs1.l ur1)),(xb2,x2.L (rs2.l ur2)),(jb,[J Y q2.x,J Y q2.y,J Y q2.z]),(bb,[J Y bk.x,J Y bk.y,J Y bk.z])]):List (Nat × List Value)),x.1 < W1.heap.size):=fun x hx=>(List.mem_cons.1 hx).elim (fun e=>by rw [e];exact hlt9) (fun h=>Nat.lt_of_lt_of_le (hG9.lt x h) hG9.size)
  have HK:Hid (BK w0 pw po ((cb1,c1.L (rs1.l uc1)) :: [(b1,[J Y q1.x,J Y q1.y,J Y q1.z]),(xb1,x1.L (rs1.l ur1)),(xb2,x2.L (rs2.l ur2)),(jb,[J Y q2.x,J Y q2.y,J Y q2.z]),(bb,[J Y bk.x,J Y bk.y,J Y bk.z])]) [(ur1,rs1.sh.pts),(ur2,rs2.sh.pts)] W1):=hG9.k.add e3 (by have:=CW.lt hG9.v.w;omega) (by have:=CW.lt hG9.v.o;omega)
  have HUC1:Hid _:=huc1
  simp only [RV.putL,Act.put,JH,JG,JF,Nat.reduceAdd]
  rw [e1]
  clear hG9 hI9 hL9 e1 e2 e3 e4 e5 e6 hlt9 huc1 HM1
  go_upto_region 12 with fail
  refine RV.rs [.some (.pointer (some ⟨pw,0,none⟩)),.some (.agg (x2.L (rs2.l ur2)).toArray),.some (.pointer (some ⟨po,0,none⟩)),.some q1.val,.some (.pointer (some ⟨xb2,1,none⟩)),.some (.pointer (some ⟨xb2,1,none⟩)),.some x2.s.val,.some m2.val,.some bk.val,.none,.none,.none] [52,53,54,55,56,57,58,59,60,61,18,0] [(15,.pointer (some ⟨pw,0,none⟩)),(11,.pointer (some ⟨xb2,0,none⟩)),(13,.pointer (some ⟨po,0,none⟩)),(6,.pointer (some ⟨b1,0,none⟩)),(14,.pointer (some ⟨bb,0,none⟩))] (fun γ L w=>PuG w0 W1 pw po ((cb1,c1.L (rs1.l uc1)) :: [(b1,[J Y q1.x,J Y q1.y,J Y q1.z]),(xb1,x1.L (rs1.l ur1)),(xb2,x2.L (rs2.l ur2)),(jb,[J Y q2.x,J Y q2.y,J Y q2.z]),(bb,[J Y bk.x,J Y bk.y,J Y bk.z])]) [(ur1,rs1.sh.pts),(ur2,rs2.sh.pts)] rs2.sh.pts (rs2.l ur2) c2 γ L w) ⟨rfl,rfl,rfl,rfl,rfl,trivial⟩ (PuG.start HK.out HKL.out) ?_ ?_
  ·intro D WA Z hD hWA hZ T
   simp only [RV.Outs,RV.Slots,Nat.reduceAdd] at T
   (refine RV.cc _ (RV.pu T (fun γ v L w hl h=>h.other v (by decide) (by decide) (by decide)) (fun γ L a w hH hl h9 k9=>⟨_,?_,rfl⟩)) ?_;· simp [JD,go_sem,h9])
   refine RV.cc _ (RV.pu T (fun γ v L w hl h=>h.other v (by decide) (by decide) (by decide)) (fun γ L a w hH hl h9 k9=>⟨_,Jbp 39 _ rfl xb2 0 (by simp [go_sem,h9]) _ _ (hH.glob.k.c (xb2,x2.L (rs2.l ur2)) (by simp)).range underlying39 rfl hz2.out,rfl⟩)) ?_
   (refine RV.cc _ (RV.pu T (fun γ v L w hl h=>h.other v (by decide) (by decide) (by decide)) (fun γ L a w hH hl h9 k9=>⟨_,?_,rfl⟩)) ?_;· simp [JD,go_sem,h9])
   (refine RV.cc _ (RV.pu T (fun γ v L w hl h=>h.other v (by decide) (by decide) (by decide)) (fun γ L a w hH hl h9 k9=>⟨_,?_,rfl⟩)) ?_;· have q5:=((hH.glob.k.c (b1,[J Y q1.x,J Y q1.y,J Y q1.z]) (by simp)) 0 _ rfl).1;have q6:=((hH.glob.k.c (b1,[J Y q1.x,J Y q1.y,J Y q1.z]) (by simp)) 1 _ rfl).1;have q7:=((hH.glob.k.c (b1,[J Y q1.x,J Y q1.y,J Y q1.z]) (by simp)) 2 _ rfl).1;simp [JD,go_sem,h9,q5,q6,q7])
   (refine RV.cc _ (RV.pu T (fun γ v L w hl h=>h.other v (by decide) (by decide) (by decide)) (fun γ L a w hH hl h9 k9=>⟨_,?_,rfl⟩)) ?_;· simp [JD,go_sem,h9])
   (refine RV.cc _ (RV.pu T (fun γ v L w hl h=>h.other v (by decide) (by decide) (by decide)) (fun γ L a w hH hl h9 k9=>⟨_,?_,rfl⟩)) ?_;· simp [JC] at k9;simp [JD,go_sem,h9,k9])
   (refine RV.cc _ (RV.pu T (fun γ v L w hl h=>h.other v (by decide) (by decide) (by decide)) (fun γ L a w hH hl h9 k9=>⟨_,?_,rfl⟩)) ?_;· have q5:=((hH.glob.k.c (xb2,x2.L (rs2.l ur2)) (by simp)) 1 _ rfl).1;have q6:=((hH.glob.k.c (xb2,x2.L (rs2.l ur2)) (by simp)) 2 _ rfl).1;have q7:=((hH.glob.k.c (xb2,x2.L (rs2.l ur2)) (by simp)) 3 _ rfl).1;simp [JC] at k9;simp [JD,go_sem,h9,k9,q5,q6,q7])
   refine RV.cc _ (RV.dc (fun γ L a w hH hl hA=>by have h9:=T γ L a w hH;have k9:=hA;simp [JC] at k9;have hp:=Jlt po 0 false q1 x2.s w (hH.glob.k.o 0 _ rfl).1 (hH.glob.k.o 0 _ rfl).2;rw [HM2.out.1,HM2.out.2.1] at hp;exact ⟨_,_,by simp [go_sem,h9,k9],JA hp (by rintro e w2 ⟨rfl,ha⟩;exact ⟨_,rfl,rfl,fun j v _ h=>h.keep _,hH.glob.sub _ ha.out (by decide) (by decide) (by decide) (RV.ny hH (RV.wt (j:=9) (i:=7) hWA (by kernel_rfl)) hl) (RV.ny hH (RV.wt (j:=11) (i:=9) hWA (by kernel_rfl)) (RV.ny hH (RV.wt (j:=9) (i:=7) hWA (by kernel_rfl)) hl))⟩)⟩)) ?_
   (refine RV.cc _ (RV.pu T (fun γ v L w hl h=>h.other v (by decide) (by decide) (by decide)) (fun γ L a w hH hl h9 k9=>⟨_,?_,rfl⟩)) ?_;· have q5:=((hH.glob.k.c (bb,[J Y bk.x,J Y bk.y,J Y bk.z]) (by simp)) 0 _ rfl).1;have q6:=((hH.glob.k.c (bb,[J Y bk.x,J Y bk.y,J Y bk.z]) (by simp)) 1 _ rfl).1;have q7:=((hH.glob.k.c (bb,[J Y bk.x,J Y bk.y,J Y bk.z]) (by simp)) 2 _ rfl).1;simp [JD,go_sem,h9,q5,q6,q7])
   refine RV.cc _ (RV.dc (fun γ L a w hH hl hA=>by have h9:=T γ L a w hH;have k9:=hA;simp [JC] at k9;obtain ⟨_,ow,_⟩:=hH.glob.k.own (ur2,rs2.sh.pts) (by simp);have hp:=Jha pw 0 false x2 (rs2.l ur2) ur2 rs2.sh.pts m2 bk HRS2.out w (hH.glob.k.w 0 _ rfl).1 (hH.glob.k.w 0 _ rfl).2 (Lies.of_row ow) HLN2.out;rw [HM2.out.2.2.1,HM2.out.2.2.2] at hp;exact ⟨_,_,by simp [go_sem,h9,k9],JA hp (by rintro e w2 ⟨uu,rfl,ha,ho⟩;exact ⟨_,rfl,trivial,fun j v _ h=>h.keep _,hH.glob.push ha.out ho.out (RV.ny hH (RV.wt (j:=11) (i:=9) hWA (by kernel_rfl)) hl)⟩)⟩)) ?_
   refine RV.cc _ (RV.does_step (fun γ L a w hH hl hA=>by exact ⟨.pointer (some ⟨w.heap.size,0,none⟩),w.alloc (.cells #[J Y 0,J Y 0,J Y 0,J Y 0,J Y 0,J Y 0,J Y 0,J Y 0,J Y 0,J Y 0,J Y 0,J Y 0,J Y 0,J Y 0,J Y 0,J Y 0,J Y 0,J Y 0,J Y 0,J Y 0,J Y 0,J Y 0,J Y 0,.slice none 0 0,J Y 0,J Y 0,J Y 0,.bool false,J Y 0,.bool false,.bool false] 39),by simp [JD,go_sem],trivial,fun j v _ h=>h.keep _,hH.glob.made (RV.ny hH (RV.wt (j:=11) (i:=10) hWA (by kernel_rfl)) hl) [J Y 0,J Y 0,J Y 0,J Y 0,J Y 0,J Y 0,J Y 0,J Y 0,J Y 0,J Y 0,J Y 0,J Y 0,J Y 0,J Y 0,J Y 0,J Y 0,J Y 0,J Y 0,J Y 0,J Y 0,J Y 0,J Y 0,J Y 0,.slice none 0 0,J Y 0,J Y 0,J Y 0,.bool false,J Y 0,.bool false,.bool false] rfl⟩)) ?_
   refine RV.cc _ (RV.does_store (fun γ L a w hH hl hA=>by have l0:L 10 = true:=hA ⟨10,.data⟩ (by simp) rfl;have l8:L 9 = true:=hA ⟨9,.data⟩ (by simp) rfl;have e0:=hH.slot 10 17 (by rw [<- hD];rfl) l0;have e8:=hH.slot 9 60 (by rw [<- hD];rfl) l8;obtain ⟨b9,c9,u9,f1,f2,f3,f4,f5,f6⟩:=hH.glob.fill l8 l0 (fun z hz=>(HRS2.out.set hz).rest);rw [f1] at e0;rw [f2] at e8;have hr9:=(HRS2.out.set f5).rest;exact ⟨_,Jcy 39 _ _ rfl b9 0 _ (by simp [Act.eval,e0]) (by simp [Act.eval,e8]) (f3.there31 f4 hr9) (Jaa hr9 _) (hr9.each _),trivial,fun j v _ h=>h.keep _,f6 _⟩)) ?_
   exact RV.AllDo.nil
  ·intro γ W2 L9 hL9 hI9 hG9
   obtain ⟨cb2,cs9,e1,e2,e3,e4,e5⟩:=hG9.box (hL9 10 (by decide))
   obtain ⟨uc2,e6,huc2⟩:=e5 (hL9 11 (by decide))
   rw [e6,Rs.set] at e3
   have hlt9:=CW.lt31 e3 ((Rs.rest rs2 huc2).rest.all c2)
   have HKL:Hid (∀ x ∈ (((cb2,c2.L (rs2.l uc2)) :: ((cb1,c1.L (rs1.l uc1)) :: [(b1,[J Y q1.x,J Y q1.y,J Y q1.z]),(xb1,x1.L (rs1.l ur1)),(xb2,x2.L (rs2.l ur2)),(jb,[J Y q2.x,J Y q2.y,J Y q2.z]),(bb,[J Y bk.x,J Y bk.y,J Y bk.z])])):List (Nat × List Value)),x.1 < W2.heap.size):=fun x hx=>(List.mem_cons.1 hx).elim (fun e=>by rw [e];exact hlt9) (fun h=>Nat.lt_of_lt_of_le (hG9.lt x h) hG9.size)
   have HK:Hid (BK w0 pw po ((cb2,c2.L (rs2.l uc2)) :: ((cb1,c1.L (rs1.l uc1)) :: [(b1,[J Y q1.x,J Y q1.y,J Y q1.z]),(xb1,x1.L (rs1.l ur1)),(xb2,x2.L (rs2.l ur2)),(jb,[J Y q2.x,J Y q2.y,J Y q2.z]),(bb,[J Y bk.x,J Y bk.y,J Y bk.z])])) [(ur1,rs1.sh.pts),(ur2,rs2.sh.pts)] W2):=hG9.k.add e3 (by have:=CW.lt hG9.v.w;omega) (by have:=CW.lt hG9.v.o;omega)
   have HUC2:Hid _:=huc2
   simp only [RV.putL,Act.put,JH,JG,JF,Nat.reduceAdd]
   rw [e1]
   clear hG9 hI9 hL9 e1 e2 e3 e4 e5 e6 hlt9 huc2 HM2
   have g0:=(HK.out.w 0 _ rfl).1
   have g1:=(HK.out.o 0 _ rfl).1
   have HSM:Hid (c1.p.x + c2.p.x = x1.p.x + x2.p.x/\c1.p.y + c2.p.y = x1.p.y + x2.p.y/\c1.p.z + c2.p.z = x1.p.z + x2.p.z):=by
    show _/\_
    rw [HF1.out.2.2.1,HF2.out.2.2.1,HBE.out]
    dsimp only
    omega
   go_upto_region 13 with fail
   go_cut [6,10,11,12,13,14,15,16,17,74] from 0 to 74 (fun s6 s10 s11 s12 s13 s14 s15 s16 s17 s74 wx=>s6 = .pointer (some ⟨b1,0,none⟩)/\s10 = .pointer (some ⟨xb1,0,none⟩)/\s11 = .pointer (some ⟨xb2,0,none⟩)/\s12 = .pointer (some ⟨jb,0,none⟩)/\s13 = .pointer (some ⟨po,0,none⟩)/\s14 = .pointer (some ⟨bb,0,none⟩)/\s15 = .pointer (some ⟨pw,0,none⟩)/\s16 = .pointer (some ⟨cb1,0,none⟩)/\s17 = .pointer (some ⟨cb2,0,none⟩)/\s74 = .bool false/\wx = W2)
   case first =>
    go_wp2_with (fail)
    go_meet
    case rel=>exact ⟨rfl,rfl,rfl,rfl,rfl,rfl,rfl,rfl,rfl,rfl,rfl⟩
   case rest =>
    obtain ⟨rfl,rfl,rfl,rfl,rfl,rfl,rfl,rfl,rfl,rfl,e8⟩:=hcut
    rw [e8]
    clear g0 g1 e8
    go_upto_region 15 with fail
    have HP1:Hid (World.rangeAt W2 cb1 1 _):=(HK.out.c (cb1,c1.L (rs1.l uc1)) (by simp)).pose
    have HP2:Hid (World.rangeAt W2 cb2 1 _):=(HK.out.c (cb2,c2.L (rs2.l uc2)) (by simp)).pose
    rw [HF1.out.1,HF1.out.2.1] at HP1
    rw [HF2.out.1,HF2.out.2.1] at HP2
    have HP3:Hid (World.rangeAt W2 xb1 1 _):=(HK.out.c (xb1,x1.L (rs1.l ur1)) (by simp)).pose
    have HP4:Hid (World.rangeAt W2 xb2 1 _):=(HK.out.c (xb2,x2.L (rs2.l ur2)) (by simp)).pose
    obtain ⟨sx,sy,sz_⟩:=HSM.out
    have a8:=((HK.out.c (cb1,c1.L (rs1.l uc1)) (by simp)) 8 _ rfl).1
    have a9:=((HK.out.c (cb1,c1.L (rs1.l uc1)) (by simp)) 9 _ rfl).1
    have a10:=((HK.out.c (cb1,c1.L (rs1.l uc1)) (by simp)) 10 _ rfl).1
    have b8:=((HK.out.c (cb2,c2.L (rs2.l uc2)) (by simp)) 8 _ rfl).1
    have b9:=((HK.out.c (cb2,c2.L (rs2.l uc2)) (by simp)) 9 _ rfl).1
    have b10:=((HK.out.c (cb2,c2.L (rs2.l uc2)) (by simp)) 10 _ rfl).1
    have c8:=((HK.out.c (xb1,x1.L (rs1.l ur1)) (by simp)) 8 _ rfl).1
    have c9:=((HK.out.c (xb1,x1.L (rs1.l ur1)) (by simp)) 9 _ rfl).1
    have c10:=((HK.out.c (xb1,x1.L (rs1.l ur1)) (by simp)) 10 _ rfl).1
    have d8:=((HK.out.c (xb2,x2.L (rs2.l ur2)) (by simp)) 8 _ rfl).1
    have d9:=((HK.out.c (xb2,x2.L (rs2.l ur2)) (by simp)) 9 _ rfl).1
    have d10:=((HK.out.c (xb2,x2.L (rs2.l ur2)) (by simp)) 10 _ rfl).1
    go_upto_region 17 with (refine Jb8 rfl 34 _ rfl _ 1 rfl _ _ (by first | exact HP1.out | exact HP3.out | exact HP2.out | exact HP4.out) underlying34 rfl (by kernel_rfl) ?_)
    clear HP1 HP2 HP3 HP4 sx sy sz_ HSM a8 a9 a10 b8 b9 b10 c8 c9 c10 d8 d9 d10
    have ea1:=((HK.out.c (xb1,x1.L (rs1.l ur1)) (by simp)) 1 _ rfl).1
    have ea2:=((HK.out.c (xb1,x1.L (rs1.l ur1)) (by simp)) 2 _ rfl).1
    have ea3:=((HK.out.c (xb1,x1.L (rs1.l ur1)) (by simp)) 3 _ rfl).1
    have eb1:=((HK.out.c (xb2,x2.L (rs2.l ur2)) (by simp)) 1 _ rfl).1
    have eb2:=((HK.out.c (xb2,x2.L (rs2.l ur2)) (by simp)) 2 _ rfl).1
    have eb3:=((HK.out.c (xb2,x2.L (rs2.l ur2)) (by simp)) 3 _ rfl).1
    obtain ⟨V9,hV9⟩:∃ V,V = W2.alloc (.cells #[J Y x1.s.x,J Y x1.s.y,J Y x1.s.z] 27):=⟨_,rfl⟩
    obtain ⟨V10,hV10⟩:∃ V,V = V9.alloc (.cells #[J Y x2.s.x,J Y x2.s.y,J Y x2.s.z] 27):=⟨_,rfl⟩
    obtain ⟨pb1,hpb1⟩:∃ b,b = W2.heap.size:=⟨_,rfl⟩
    obtain ⟨pb2,hpb2⟩:∃ b,b = W2.heap.size + 1:=⟨_,rfl⟩
    have z9:V9.heap.size = W2.heap.size + 1:=by rw [hV9,JE]
    have k9:Below W2.heap.size W2 V9:=by rw [hV9];exact Jb _ _
    have k10:Below V9.heap.size V9 V10:=by rw [hV10];exact Jb _ _
    have n9:CW V9 pb1 [J Y x1.s.x,J Y x1.s.y,J Y x1.s.z]:=by rw [hV9,hpb1];exact CW.new W2 [J Y x1.s.x,J Y x1.s.y,J Y x1.s.z] 27
    have n10:CW V10 pb2 [J Y x2.s.x,J Y x2.s.y,J Y x2.s.z]:=by rw [hV10,hpb2,<- z9];exact CW.new V9 [J Y x2.s.x,J Y x2.s.y,J Y x2.s.z] 27
    have hw2:=CW.lt HK.out.w
    have ho2:=CW.lt HK.out.o
    have HK:Hid (BK w0 pw po ((pb2,[J Y x2.s.x,J Y x2.s.y,J Y x2.s.z]) :: (pb1,[J Y x1.s.x,J Y x1.s.y,J Y x1.s.z]) :: ((cb2,c2.L (rs2.l uc2)) :: ((cb1,c1.L (rs1.l uc1)) :: [(b1,[J Y q1.x,J Y q1.y,J Y q1.z]),(xb1,x1.L (rs1.l ur1)),(xb2,x2.L (rs2.l ur2)),(jb,[J Y q2.x,J Y q2.y,J Y q2.z]),(bb,[J Y bk.x,J Y bk.y,J Y bk.z])]))) [(ur1,rs1.sh.pts),(ur2,rs2.sh.pts)] V10):=(((HK.out.step k9).add n9 (by omega) (by omega)).step k10).add n10 (by omega) (by omega)
    clear n9 n10 k9 k10 hw2 ho2
    have hx2:xb2 < W2.heap.size:=HKL.out (xb2,x2.L (rs2.l ur2)) (by simp)
    go_upto_region 19 with fail
    rw [<- hV9,<- hV10,<- hpb2,<- hpb1]
    clear hV9 hV10 hpb1 hpb2 z9 hx2 ea1 ea2 ea3 eb1 eb2 eb3 HKL
    have HIV:Hid ((isV c1.l 9007199254740992/\isV c2.l 9007199254740992/\isV x1.l 68719476736/\isV x2.l 68719476736)/\isV x1.s 4398046511104/\isV x2.s 4398046511104/\isV q2 1099511627776/\isV bk 1099511627776):=⟨⟨HF1.out.2.2.2.2,HF2.out.2.2.2.2,HFR1.out.1.l,HFR2.out.1.l⟩,Jbw (HFR1.out.2.1.mv HFR1.out.2.2.1).2 (by decide),Jbw (HFR2.out.2.1.mv HFR2.out.2.2.1).2 (by decide),HN2.out,by rw [HBE.out];have h:=HN2.out;unfold isV at *;dsimp only;omega⟩
    obtain ⟨kax,kbx,ex,fx,Ax,Bx,nx,hx⟩:=Jf7 (cl:=c1.l.x) (xl:=x1.l.x) (dl:=c2.l.x) (yl:=x2.l.x) (ay:=q1.y) (az:=q1.z) (py:=x1.s.y) (pz:=x1.s.z) (qy:=x2.s.y) (qz:=x2.s.z) (jy:=q2.y) (jz:=q2.z) (ky:=bk.y) (kz:=bk.z) (by rw [HF1.out.2.2.2.1]) (by rw [HF2.out.2.2.2.1]) (by rw [HBE.out]) (by rw [HBE.out]) (by have h1:=HIV.out;unfold isV at h1;omega) (by have h1:=HIV.out;unfold isV at h1;omega) (by have h1:=HIV.out;unfold isV at h1;omega) (by have h1:=HIV.out;unfold isV at h1;omega) (by have h1:=HIV.out;unfold isV at h1;omega) (by have h1:=HIV.out;unfold isV at h1;omega) (by have h1:=HIV.out;unfold isV at h1;omega) (by have h1:=HIV.out;unfold isV at h1;omega) (by have h1:=HIV.out;unfold isV at h1;omega) (by have h1:=HIV.out;unfold isV at h1;omega)
    have HBx:Hid _:=hx
    have wex:IntKind.i64.wrap (c1.l.x - x1.l.x) = ex:=hx.2.1.1
    have wfx:IntKind.i64.wrap (c2.l.x - x2.l.x) = fx:=hx.2.1.2
    clear hx
    obtain ⟨kay,kby,ey,fy,Ay,By,ny,hy⟩:=Jf7 (cl:=c1.l.y) (xl:=x1.l.y) (dl:=c2.l.y) (yl:=x2.l.y) (ay:=q1.z) (az:=q1.x) (py:=x1.s.z) (pz:=x1.s.x) (qy:=x2.s.z) (qz:=x2.s.x) (jy:=q2.z) (jz:=q2.x) (ky:=bk.z) (kz:=bk.x) (by rw [HF1.out.2.2.2.1]) (by rw [HF2.out.2.2.2.1]) (by rw [HBE.out]) (by rw [HBE.out]) (by have h1:=HIV.out;unfold isV at h1;omega) (by have h1:=HIV.out;unfold isV at h1;omega) (by have h1:=HIV.out;unfold isV at h1;omega) (by have h1:=HIV.out;unfold isV at h1;omega) (by have h1:=HIV.out;unfold isV at h1;omega) (by have h1:=HIV.out;unfold isV at h1;omega) (by have h1:=HIV.out;unfold isV at h1;omega) (by have h1:=HIV.out;unfold isV at h1;omega) (by have h1:=HIV.out;unfold isV at h1;omega) (by have h1:=HIV.out;unfold isV at h1;omega)
    have HBy:Hid _:=hy
    have wey:IntKind.i64.wrap (c1.l.y - x1.l.y) = ey:=hy.2.1.1
    have wfy:IntKind.i64.wrap (c2.l.y - x2.l.y) = fy:=hy.2.1.2
    clear hy
    obtain ⟨kaz,kbz,ez,fz,Az,Bz,nz,hz⟩:=Jf7 (cl:=c1.l.z) (xl:=x1.l.z) (dl:=c2.l.z) (yl:=x2.l.z) (ay:=q1.x) (az:=q1.y) (py:=x1.s.x) (pz:=x1.s.y) (qy:=x2.s.x) (qz:=x2.s.y) (jy:=q2.x) (jz:=q2.y) (ky:=bk.x) (kz:=bk.y) (by rw [HF1.out.2.2.2.1]) (by rw [HF2.out.2.2.2.1]) (by rw [HBE.out]) (by rw [HBE.out]) (by have h1:=HIV.out;unfold isV at h1;omega) (by have h1:=HIV.out;unfold isV at h1;omega) (by have h1:=HIV.out;unfold isV at h1;omega) (by have h1:=HIV.out;unfold isV at h1;omega) (by have h1:=HIV.out;unfold isV at h1;omega) (by have h1:=HIV.out;unfold isV at h1;omega) (by have h1:=HIV.out;unfold isV at h1;omega) (by have h1:=HIV.out;unfold isV at h1;omega) (by have h1:=HIV.out;unfold isV at h1;omega) (by have h1:=HIV.out;unfold isV at h1;omega)
    have HBz:Hid _:=hz
    have wez:IntKind.i64.wrap (c1.l.z - x1.l.z) = ez:=hz.2.1.1
    have wfz:IntKind.i64.wrap (c2.l.z - x2.l.z) = fz:=hz.2.1.2
    clear hz
    have HQ:Hid _:=fun (w:World) (h:BK w0 pw po ((pb2,[J Y x2.s.x,J Y x2.s.y,J Y x2.s.z]) :: (pb1,[J Y x1.s.x,J Y x1.s.y,J Y x1.s.z]) :: ((cb2,c2.L (rs2.l uc2)) :: ((cb1,c1.L (rs1.l uc1)) :: [(b1,[J Y q1.x,J Y q1.y,J Y q1.z]),(xb1,x1.L (rs1.l ur1)),(xb2,x2.L (rs2.l ur2)),(jb,[J Y q2.x,J Y q2.y,J Y q2.z]),(bb,[J Y bk.x,J Y bk.y,J Y bk.z])]))) [(ur1,rs1.sh.pts),(ur2,rs2.sh.pts)] w)=>And.intro (h.c (pb1,[J Y x1.s.x,J Y x1.s.y,J Y x1.s.z]) (by simp)).c3 (And.intro (h.c (pb2,[J Y x2.s.x,J Y x2.s.y,J Y x2.s.z]) (by simp)).c3 (And.intro (h.c (jb,[J Y q2.x,J Y q2.y,J Y q2.z]) (by simp)).c3 (And.intro (h.c (bb,[J Y bk.x,J Y bk.y,J Y bk.z]) (by simp)).c3 (And.intro (h.c (cb1,c1.L (rs1.l uc1)) (by simp)).cl (And.intro (h.c (xb1,x1.L (rs1.l ur1)) (by simp)).cl (And.intro (h.c (cb2,c2.L (rs2.l uc2)) (by simp)).cl (h.c (xb2,x2.L (rs2.l ur2)) (by simp)).cl))))))
    have X1:=HIV.out.2.1.i64 (by decide)
    have X2:=HIV.out.2.2.1.i64 (by decide)
    have X3:=HIV.out.2.2.2.1.i64 (by decide)
    have X4:=HIV.out.2.2.2.2.i64 (by decide)
    clear HF1 HF2 HFR1 HFR2 HBE HN1 HN2
    refine RV.rs [.some (.pointer (some ⟨pb1,1,none⟩)),.some (J Y x1.s.y),.some (.pointer (some ⟨jb,2,none⟩)),.some (J Y q2.z),.some (.pointer (some ⟨pb1,2,none⟩)),.some (J Y x1.s.z),.some (.pointer (some ⟨jb,1,none⟩)),.some (J Y q2.y),.none,.some (.pointer (some ⟨cb1,11,none⟩)),.some (.pointer (some ⟨cb1,11,none⟩)),.some (J Y c1.l.x),.some (.pointer (some ⟨xb1,11,none⟩)),.some (.pointer (some ⟨xb1,11,none⟩)),.some (J Y x1.l.x),.some (J Y ex),.none,.some (.pointer (some ⟨pb2,1,none⟩)),.some (J Y x2.s.y),.some (.pointer (some ⟨bb,2,none⟩)),.some (J Y bk.z),.some (.pointer (some ⟨pb2,2,none⟩)),.some (J Y x2.s.z),.some (.pointer (some ⟨bb,1,none⟩)),.some (J Y bk.y),.none,.some (.pointer (some ⟨cb2,11,none⟩)),.some (.pointer (some ⟨cb2,11,none⟩)),.some (J Y c2.l.x),.some (.pointer (some ⟨xb2,11,none⟩)),.some (.pointer (some ⟨xb2,11,none⟩)),.some (J Y x2.l.x),.some (J Y fx),.none,.none,.some (.pointer (some ⟨pb1,2,none⟩)),.some (J Y x1.s.z),.some (.pointer (some ⟨jb,0,none⟩)),.some (J Y q2.x),.some (.pointer (some ⟨pb1,0,none⟩)),.some (J Y x1.s.x),.some (.pointer (some ⟨jb,2,none⟩)),.some (J Y q2.z),.none,.some (.pointer (some ⟨cb1,11,none⟩)),.some (.pointer (some ⟨cb1,12,none⟩)),.some (J Y c1.l.y),.some (.pointer (some ⟨xb1,11,none⟩)),.some (.pointer (some ⟨xb1,12,none⟩)),.some (J Y x1.l.y),.some (J Y ey),.none,.some (.pointer (some ⟨pb2,2,none⟩)),.some (J Y x2.s.z),.some (.pointer (some ⟨bb,0,none⟩)),.some (J Y bk.x),.some (.pointer (some ⟨pb2,0,none⟩)),.some (J Y x2.s.x),.some (.pointer (some ⟨bb,2,none⟩)),.some (J Y bk.z),.none,.some (.pointer (some ⟨cb2,11,none⟩)),.some (.pointer (some ⟨cb2,12,none⟩)),.some (J Y c2.l.y),.some (.pointer (some ⟨xb2,11,none⟩)),.some (.pointer (some ⟨xb2,12,none⟩)),.some (J Y x2.l.y),.some (J Y fy),.none,.none,.some (.pointer (some ⟨pb1,0,none⟩)),.some (J Y x1.s.x),.some (.pointer (some ⟨jb,1,none⟩)),.some (J Y q2.y),.some (.pointer (some ⟨pb1,1,none⟩)),.some (J Y x1.s.y),.some (.pointer (some ⟨jb,0,none⟩)),.some (J Y q2.x),.none,.some (.pointer (some ⟨cb1,11,none⟩)),.some (.pointer (some ⟨cb1,13,none⟩)),.some (J Y c1.l.z),.some (.pointer (some ⟨xb1,11,none⟩)),.some (.pointer (some ⟨xb1,13,none⟩)),.some (J Y x1.l.z),.some (J Y ez),.none,.some (.pointer (some ⟨pb2,0,none⟩)),.some (J Y x2.s.x),.some (.pointer (some ⟨bb,1,none⟩)),.some (J Y bk.y),.some (.pointer (some ⟨pb2,1,none⟩)),.some (J Y x2.s.y),.some (.pointer (some ⟨bb,0,none⟩)),.some (J Y bk.x),.none,.some (.pointer (some ⟨cb2,11,none⟩)),.some (.pointer (some ⟨cb2,13,none⟩)),.some (J Y c2.l.z),.some (.pointer (some ⟨xb2,11,none⟩)),.some (.pointer (some ⟨xb2,13,none⟩)),.some (J Y x2.l.z),.some (J Y fz),.none,.none,.none,.none] [145,146,147,148,149,150,151,152,153,154,155,156,157,158,159,160,161,162,163,164,165,166,167,168,169,170,171,172,173,174,175,176,177,178,179,180,181,182,183,184,185,186,187,188,189,190,191,192,193,194,195,196,197,198,199,200,201,202,203,204,205,206,207,208,209,210,211,212,213,214,215,216,217,218,219,220,221,222,223,224,225,226,227,228,229,230,231,232,233,234,235,236,237,238,239,240,241,242,243,244,245,246,247,248,249,250,21] [(18,.pointer (some ⟨pb1,0,none⟩)),(19,.pointer (some ⟨pb2,0,none⟩)),(12,.pointer (some ⟨jb,0,none⟩)),(14,.pointer (some ⟨bb,0,none⟩)),(16,.pointer (some ⟨cb1,0,none⟩)),(10,.pointer (some ⟨xb1,0,none⟩)),(17,.pointer (some ⟨cb2,0,none⟩)),(11,.pointer (some ⟨xb2,0,none⟩))] (LG w0 pw po ((pb2,[J Y x2.s.x,J Y x2.s.y,J Y x2.s.z]) :: (pb1,[J Y x1.s.x,J Y x1.s.y,J Y x1.s.z]) :: ((cb2,c2.L (rs2.l uc2)) :: ((cb1,c1.L (rs1.l uc1)) :: [(b1,[J Y q1.x,J Y q1.y,J Y q1.z]),(xb1,x1.L (rs1.l ur1)),(xb2,x2.L (rs2.l ur2)),(jb,[J Y q2.x,J Y q2.y,J Y q2.z]),(bb,[J Y bk.x,J Y bk.y,J Y bk.z])]))) [(ur1,rs1.sh.pts),(ur2,rs2.sh.pts)] [(8,kax),(16,Ax),(25,kbx),(33,Bx),(34,nx),(43,kay),(51,Ay),(60,kby),(68,By),(69,ny),(78,kaz),(86,Az),(95,kbz),(103,Bz),(104,nz)] (fun k=>if k = 0 then nx else if k = 1 then ny else nz)) ⟨rfl,rfl,rfl,rfl,rfl,rfl,rfl,rfl,trivial⟩ ⟨HK.out.step (Below.refl _ _).drew,WT.start,fun e=>(by cases e),fun e=>(by cases e)⟩ ?_ ?_
    ·intro D WA Z hD hWA hZ T
     simp only [RV.Outs,RV.Slots,Nat.reduceAdd] at T
     iterate 8 first
      | (refine RV.cc _ (RV.pu T (fun γ v L w hl h=>h.other v rfl (by decide) (by decide)) (fun γ L a w hH hl h9 k9=>⟨_,?_,rfl⟩)) ?_;· simp [JD,go_sem,h9])
      | (refine RV.cc _ (RV.pu T (fun γ v L w hl h=>h.other v rfl (by decide) (by decide)) (fun γ L a w hH hl h9 k9=>⟨_,?_,rfl⟩)) ?_;· simp [JC] at k9;simp [JD,go_sem,h9,k9])
      | (refine RV.cc _ (RV.pu T (fun γ v L w hl h=>h.other v rfl (by decide) (by decide)) (fun γ L a w hH hl h9 k9=>⟨_,?_,rfl⟩)) ?_;· have hq:=HQ.out w hH.glob.k;simp [JC] at k9;simp [JD,go_sem,h9,k9,hq])
     refine RV.cc _ (LG.wideD T X1.2.1 X3.2.2 X1.2.2 X3.2.1 HBx.out.1.1 (by simp) (by decide) (by decide) (fun _ _=>trivial) (fun L a w h9 k9=>by simp [JC] at k9;simp [go_sem,h9,k9])) ?_
     iterate 6 first
      | (refine RV.cc _ (RV.pu T (fun γ v L w hl h=>h.other v rfl (by decide) (by decide)) (fun γ L a w hH hl h9 k9=>⟨_,?_,rfl⟩)) ?_;· simp [JD,go_sem,h9])
      | (refine RV.cc _ (RV.pu T (fun γ v L w hl h=>h.other v rfl (by decide) (by decide)) (fun γ L a w hH hl h9 k9=>⟨_,?_,rfl⟩)) ?_;· simp [JC] at k9;simp [JD,go_sem,h9,k9])
      | (refine RV.cc _ (RV.pu T (fun γ v L w hl h=>h.other v rfl (by decide) (by decide)) (fun γ L a w hH hl h9 k9=>⟨_,?_,rfl⟩)) ?_;· have hq:=HQ.out w hH.glob.k;simp [JC] at k9;simp [JD,go_sem,h9,k9,hq])
     (refine RV.cc _ (RV.pu T (fun γ v L w hl h=>h.other v rfl (by decide) (by decide)) (fun γ L a w hH hl h9 k9=>⟨_,?_,rfl⟩)) ?_;· simp [JC] at k9;simp [JD,go_sem,h9,k9,wex])
     refine RV.cc _ (LG.aboutD T 8 152 (by rw [<- hD];rfl) (by simp:(8,kax) ∈ _) (by simp) HBx.out.2.2.2.2.1.1 HBx.out.2.2.2.2.2.1.1 HBx.out.2.2.1.1 (by simp) (by decide) (by decide) (fun _ _=>trivial) (fun L a w u d h9 k9 s0=>by simp [JC] at k9;simp [go_sem,h9,k9,s0])) ?_
     iterate 8 first
      | (refine RV.cc _ (RV.pu T (fun γ v L w hl h=>h.other v rfl (by decide) (by decide)) (fun γ L a w hH hl h9 k9=>⟨_,?_,rfl⟩)) ?_;· simp [JD,go_sem,h9])
      | (refine RV.cc _ (RV.pu T (fun γ v L w hl h=>h.other v rfl (by decide) (by decide)) (fun γ L a w hH hl h9 k9=>⟨_,?_,rfl⟩)) ?_;· simp [JC] at k9;simp [JD,go_sem,h9,k9])
      | (refine RV.cc _ (RV.pu T (fun γ v L w hl h=>h.other v rfl (by decide) (by decide)) (fun γ L a w hH hl h9 k9=>⟨_,?_,rfl⟩)) ?_;· have hq:=HQ.out w hH.glob.k;simp [JC] at k9;simp [JD,go_sem,h9,k9,hq])
     refine RV.cc _ (LG.wideD T X2.2.1 X4.2.2 X2.2.2 X4.2.1 HBx.out.1.2 (by simp) (by decide) (by decide) (fun _ _=>trivial) (fun L a w h9 k9=>by simp [JC] at k9;simp [go_sem,h9,k9])) ?_
     iterate 6 first
      | (refine RV.cc _ (RV.pu T (fun γ v L w hl h=>h.other v rfl (by decide) (by decide)) (fun γ L a w hH hl h9 k9=>⟨_,?_,rfl⟩)) ?_;· simp [JD,go_sem,h9])
      | (refine RV.cc _ (RV.pu T (fun γ v L w hl h=>h.other v rfl (by decide) (by decide)) (fun γ L a w hH hl h9 k9=>⟨_,?_,rfl⟩)) ?_;· simp [JC] at k9;simp [JD,go_sem,h9,k9])
      | (refine RV.cc _ (RV.pu T (fun γ v L w hl h=>h.other v rfl (by decide) (by decide)) (fun γ L a w hH hl h9 k9=>⟨_,?_,rfl⟩)) ?_;· have hq:=HQ.out w hH.glob.k;simp [JC] at k9;simp [JD,go_sem,h9,k9,hq])
     (refine RV.cc _ (RV.pu T (fun γ v L w hl h=>h.other v rfl (by decide) (by decide)) (fun γ L a w hH hl h9 k9=>⟨_,?_,rfl⟩)) ?_;· simp [JC] at k9;simp [JD,go_sem,h9,k9,wfx])
     refine RV.cc _ (LG.aboutD T 25 169 (by rw [<- hD];rfl) (by simp:(25,kbx) ∈ _) (by simp) HBx.out.2.2.2.2.1.2 HBx.out.2.2.2.2.2.1.2 HBx.out.2.2.1.2 (by simp) (by decide) (by decide) (fun _ _=>trivial) (fun L a w u d h9 k9 s0=>by simp [JC] at k9;simp [go_sem,h9,k9,s0])) ?_
     refine RV.cc _ (LG.plusD 16 160 33 177 (by rw [<- hD];rfl) (by rw [<- hD];rfl) (by simp:(16,Ax) ∈ _) (by simp:(33,Bx) ∈ _) (by simp) (by simp) (by have h:=HBx.out.2.2.2.2.2.2;omega) HBx.out.2.2.2.1.1 (by simp) (by decide) (by decide) (fun _ _=>trivial) (fun a w u d u' d' s0 s1=>by simp [go_sem,s0,s1])) ?_
     iterate 8 first
      | (refine RV.cc _ (RV.pu T (fun γ v L w hl h=>h.other v rfl (by decide) (by decide)) (fun γ L a w hH hl h9 k9=>⟨_,?_,rfl⟩)) ?_;· simp [JD,go_sem,h9])
      | (refine RV.cc _ (RV.pu T (fun γ v L w hl h=>h.other v rfl (by decide) (by decide)) (fun γ L a w hH hl h9 k9=>⟨_,?_,rfl⟩)) ?_;· simp [JC] at k9;simp [JD,go_sem,h9,k9])
      | (refine RV.cc _ (RV.pu T (fun γ v L w hl h=>h.other v rfl (by decide) (by decide)) (fun γ L a w hH hl h9 k9=>⟨_,?_,rfl⟩)) ?_;· have hq:=HQ.out w hH.glob.k;simp [JC] at k9;simp [JD,go_sem,h9,k9,hq])
     refine RV.cc _ (LG.wideD T X1.2.2 X3.1 X1.1 X3.2.2 HBy.out.1.1 (by simp) (by decide) (by decide) (fun _ _=>trivial) (fun L a w h9 k9=>by simp [JC] at k9;simp [go_sem,h9,k9])) ?_
     iterate 6 first
      | (refine RV.cc _ (RV.pu T (fun γ v L w hl h=>h.other v rfl (by decide) (by decide)) (fun γ L a w hH hl h9 k9=>⟨_,?_,rfl⟩)) ?_;· simp [JD,go_sem,h9])
      | (refine RV.cc _ (RV.pu T (fun γ v L w hl h=>h.other v rfl (by decide) (by decide)) (fun γ L a w hH hl h9 k9=>⟨_,?_,rfl⟩)) ?_;· simp [JC] at k9;simp [JD,go_sem,h9,k9])
      | (refine RV.cc _ (RV.pu T (fun γ v L w hl h=>h.other v rfl (by decide) (by decide)) (fun γ L a w hH hl h9 k9=>⟨_,?_,rfl⟩)) ?_;· have hq:=HQ.out w hH.glob.k;simp [JC] at k9;simp [JD,go_sem,h9,k9,hq])
     (refine RV.cc _ (RV.pu T (fun γ v L w hl h=>h.other v rfl (by decide) (by decide)) (fun γ L a w hH hl h9 k9=>⟨_,?_,rfl⟩)) ?_;· simp [JC] at k9;simp [JD,go_sem,h9,k9,wey])
     refine RV.cc _ (LG.aboutD T 43 187 (by rw [<- hD];rfl) (by simp:(43,kay) ∈ _) (by simp) HBy.out.2.2.2.2.1.1 HBy.out.2.2.2.2.2.1.1 HBy.out.2.2.1.1 (by simp) (by decide) (by decide) (fun _ _=>trivial) (fun L a w u d h9 k9 s0=>by simp [JC] at k9;simp [go_sem,h9,k9,s0])) ?_
     iterate 8 first
      | (refine RV.cc _ (RV.pu T (fun γ v L w hl h=>h.other v rfl (by decide) (by decide)) (fun γ L a w hH hl h9 k9=>⟨_,?_,rfl⟩)) ?_;· simp [JD,go_sem,h9])
      | (refine RV.cc _ (RV.pu T (fun γ v L w hl h=>h.other v rfl (by decide) (by decide)) (fun γ L a w hH hl h9 k9=>⟨_,?_,rfl⟩)) ?_;· simp [JC] at k9;simp [JD,go_sem,h9,k9])
      | (refine RV.cc _ (RV.pu T (fun γ v L w hl h=>h.other v rfl (by decide) (by decide)) (fun γ L a w hH hl h9 k9=>⟨_,?_,rfl⟩)) ?_;· have hq:=HQ.out w hH.glob.k;simp [JC] at k9;simp [JD,go_sem,h9,k9,hq])
     refine RV.cc _ (LG.wideD T X2.2.2 X4.1 X2.1 X4.2.2 HBy.out.1.2 (by simp) (by decide) (by decide) (fun _ _=>trivial) (fun L a w h9 k9=>by simp [JC] at k9;simp [go_sem,h9,k9])) ?_
     iterate 6 first
      | (refine RV.cc _ (RV.pu T (fun γ v L w hl h=>h.other v rfl (by decide) (by decide)) (fun γ L a w hH hl h9 k9=>⟨_,?_,rfl⟩)) ?_;· simp [JD,go_sem,h9])
      | (refine RV.cc _ (RV.pu T (fun γ v L w hl h=>h.other v rfl (by decide) (by decide)) (fun γ L a w hH hl h9 k9=>⟨_,?_,rfl⟩)) ?_;· simp [JC] at k9;simp [JD,go_sem,h9,k9])
      | (refine RV.cc _ (RV.pu T (fun γ v L w hl h=>h.other v rfl (by decide) (by decide)) (fun γ L a w hH hl h9 k9=>⟨_,?_,rfl⟩)) ?_;· have hq:=HQ.out w hH.glob.k;simp [JC] at k9;simp [JD,go_sem,h9,k9,hq])
     (refine RV.cc _ (RV.pu T (fun γ v L w hl h=>h.other v rfl (by decide) (by decide)) (fun γ L a w hH hl h9 k9=>⟨_,?_,rfl⟩)) ?_;· simp [JC] at k9;simp [JD,go_sem,h9,k9,wfy])
     refine RV.cc _ (LG.aboutD T 60 204 (by rw [<- hD];rfl) (by simp:(60,kby) ∈ _) (by simp) HBy.out.2.2.2.2.1.2 HBy.out.2.2.2.2.2.1.2 HBy.out.2.2.1.2 (by simp) (by decide) (by decide) (fun _ _=>trivial) (fun L a w u d h9 k9 s0=>by simp [JC] at k9;simp [go_sem,h9,k9,s0])) ?_
     refine RV.cc _ (LG.plusD 51 195 68 212 (by rw [<- hD];rfl) (by rw [<- hD];rfl) (by simp:(51,Ay) ∈ _) (by simp:(68,By) ∈ _) (by simp) (by simp) (by have h:=HBy.out.2.2.2.2.2.2;omega) HBy.out.2.2.2.1.1 (by simp) (by decide) (by decide) (fun _ _=>trivial) (fun a w u d u' d' s0 s1=>by simp [go_sem,s0,s1])) ?_
     iterate 8 first
      | (refine RV.cc _ (RV.pu T (fun γ v L w hl h=>h.other v rfl (by decide) (by decide)) (fun γ L a w hH hl h9 k9=>⟨_,?_,rfl⟩)) ?_;· simp [JD,go_sem,h9])
      | (refine RV.cc _ (RV.pu T (fun γ v L w hl h=>h.other v rfl (by decide) (by decide)) (fun γ L a w hH hl h9 k9=>⟨_,?_,rfl⟩)) ?_;· simp [JC] at k9;simp [JD,go_sem,h9,k9])
      | (refine RV.cc _ (RV.pu T (fun γ v L w hl h=>h.other v rfl (by decide) (by decide)) (fun γ L a w hH hl h9 k9=>⟨_,?_,rfl⟩)) ?_;· have hq:=HQ.out w hH.glob.k;simp [JC] at k9;simp [JD,go_sem,h9,k9,hq])
     refine RV.cc _ (LG.wideD T X1.1 X3.2.1 X1.2.1 X3.1 HBz.out.1.1 (by simp) (by decide) (by decide) (fun _ _=>trivial) (fun L a w h9 k9=>by simp [JC] at k9;simp [go_sem,h9,k9])) ?_
     iterate 6 first
      | (refine RV.cc _ (RV.pu T (fun γ v L w hl h=>h.other v rfl (by decide) (by decide)) (fun γ L a w hH hl h9 k9=>⟨_,?_,rfl⟩)) ?_;· simp [JD,go_sem,h9])
      | (refine RV.cc _ (RV.pu T (fun γ v L w hl h=>h.other v rfl (by decide) (by decide)) (fun γ L a w hH hl h9 k9=>⟨_,?_,rfl⟩)) ?_;· simp [JC] at k9;simp [JD,go_sem,h9,k9])
      | (refine RV.cc _ (RV.pu T (fun γ v L w hl h=>h.other v rfl (by decide) (by decide)) (fun γ L a w hH hl h9 k9=>⟨_,?_,rfl⟩)) ?_;· have hq:=HQ.out w hH.glob.k;simp [JC] at k9;simp [JD,go_sem,h9,k9,hq])
     (refine RV.cc _ (RV.pu T (fun γ v L w hl h=>h.other v rfl (by decide) (by decide)) (fun γ L a w hH hl h9 k9=>⟨_,?_,rfl⟩)) ?_;· simp [JC] at k9;simp [JD,go_sem,h9,k9,wez])
     refine RV.cc _ (LG.aboutD T 78 222 (by rw [<- hD];rfl) (by simp:(78,kaz) ∈ _) (by simp) HBz.out.2.2.2.2.1.1 HBz.out.2.2.2.2.2.1.1 HBz.out.2.2.1.1 (by simp) (by decide) (by decide) (fun _ _=>trivial) (fun L a w u d h9 k9 s0=>by simp [JC] at k9;simp [go_sem,h9,k9,s0])) ?_
     iterate 8 first
      | (refine RV.cc _ (RV.pu T (fun γ v L w hl h=>h.other v rfl (by decide) (by decide)) (fun γ L a w hH hl h9 k9=>⟨_,?_,rfl⟩)) ?_;· simp [JD,go_sem,h9])
      | (refine RV.cc _ (RV.pu T (fun γ v L w hl h=>h.other v rfl (by decide) (by decide)) (fun γ L a w hH hl h9 k9=>⟨_,?_,rfl⟩)) ?_;· simp [JC] at k9;simp [JD,go_sem,h9,k9])
      | (refine RV.cc _ (RV.pu T (fun γ v L w hl h=>h.other v rfl (by decide) (by decide)) (fun γ L a w hH hl h9 k9=>⟨_,?_,rfl⟩)) ?_;· have hq:=HQ.out w hH.glob.k;simp [JC] at k9;simp [JD,go_sem,h9,k9,hq])
     refine RV.cc _ (LG.wideD T X2.1 X4.2.1 X2.2.1 X4.1 HBz.out.1.2 (by simp) (by decide) (by decide) (fun _ _=>trivial) (fun L a w h9 k9=>by simp [JC] at k9;simp [go_sem,h9,k9])) ?_
     iterate 6 first
      | (refine RV.cc _ (RV.pu T (fun γ v L w hl h=>h.other v rfl (by decide) (by decide)) (fun γ L a w hH hl h9 k9=>⟨_,?_,rfl⟩)) ?_;· simp [JD,go_sem,h9])
      | (refine RV.cc _ (RV.pu T (fun γ v L w hl h=>h.other v rfl (by decide) (by decide)) (fun γ L a w hH hl h9 k9=>⟨_,?_,rfl⟩)) ?_;· simp [JC] at k9;simp [JD,go_sem,h9,k9])
      | (refine RV.cc _ (RV.pu T (fun γ v L w hl h=>h.other v rfl (by decide) (by decide)) (fun γ L a w hH hl h9 k9=>⟨_,?_,rfl⟩)) ?_;· have hq:=HQ.out w hH.glob.k;simp [JC] at k9;simp [JD,go_sem,h9,k9,hq])
     (refine RV.cc _ (RV.pu T (fun γ v L w hl h=>h.other v rfl (by decide) (by decide)) (fun γ L a w hH hl h9 k9=>⟨_,?_,rfl⟩)) ?_;· simp [JC] at k9;simp [JD,go_sem,h9,k9,wfz])
     refine RV.cc _ (LG.aboutD T 95 239 (by rw [<- hD];rfl) (by simp:(95,kbz) ∈ _) (by simp) HBz.out.2.2.2.2.1.2 HBz.out.2.2.2.2.2.1.2 HBz.out.2.2.1.2 (by simp) (by decide) (by decide) (fun _ _=>trivial) (fun L a w u d h9 k9 s0=>by simp [JC] at k9;simp [go_sem,h9,k9,s0])) ?_
     refine RV.cc _ (LG.plusD 86 230 103 247 (by rw [<- hD];rfl) (by rw [<- hD];rfl) (by simp:(86,Az) ∈ _) (by simp:(103,Bz) ∈ _) (by simp) (by simp) (by have h:=HBz.out.2.2.2.2.2.2;omega) HBz.out.2.2.2.1.1 (by simp) (by decide) (by decide) (fun _ _=>trivial) (fun a w u d u' d' s0 s1=>by simp [go_sem,s0,s1])) ?_
     refine RV.cc _ (RV.does_step (fun γ L a w hH hl hA=>by have l0:L 34 = true:=hA ⟨34,.data⟩ (by simp) rfl;have s0:=hH.slot 34 178 (by rw [<- hD];rfl) l0;obtain ⟨u0,d0,g0,D0,S0⟩:=hH.glob.told (34,nx) (by simp) l0;rw [g0] at s0;have l1:L 69 = true:=hA ⟨69,.data⟩ (by simp) rfl;have s1:=hH.slot 69 213 (by rw [<- hD];rfl) l1;obtain ⟨u1,d1,g1,D1,S1⟩:=hH.glob.told (69,ny) (by simp) l1;rw [g1] at s1;have l2:L 104 = true:=hA ⟨104,.data⟩ (by simp) rfl;have s2:=hH.slot 104 248 (by rw [<- hD];rfl) l2;obtain ⟨u2,d2,g2,D2,S2⟩:=hH.glob.told (104,nz) (by simp) l2;rw [g2] at s2;exact ⟨.slice (some ⟨w.heap.size,0,none⟩) 3 3,w.alloc (.cells #[.bool u0,J Y (d0 0),J Y (d0 1),J Y (d0 2),J Y (d0 3),J Y (d0 4),J Y (d0 5),J Y (d0 6),J Y (d0 7),.bool u1,J Y (d1 0),J Y (d1 1),J Y (d1 2),J Y (d1 3),J Y (d1 4),J Y (d1 5),J Y (d1 6),J Y (d1 7),.bool u2,J Y (d2 0),J Y (d2 1),J Y (d2 2),J Y (d2 3),J Y (d2 4),J Y (d2 5),J Y (d2 6),J Y (d2 7)] 58),by simp [JD,go_sem,s0,s1,s2],trivial,fun j v _ h=>h.keep _,⟨hH.glob.k.step (Jb _ _),hH.glob.told.other _ rfl,fun _=>(by rw [RV.upd_self];exact ⟨w.heap.size,fun k=>if k = 0 then u0 else if k = 1 then u1 else u2,fun k=>if k = 0 then d0 else if k = 1 then d1 else d2,rfl,CW.new w (wl u0 d0 ++ (wl u1 d1 ++ wl u2 d2)) _,fun k hk=>by match k,hk with | 0,_=>exact ⟨D0,S0⟩ | 1,_=>exact ⟨D1,S1⟩ | 2,_=>exact ⟨D2,S2⟩⟩),fun e=>(by rw [RV.mn (by decide)] at e;rw [RV.upd_ne _ _ (by decide)];exact (hH.glob.as_ e).step (Jb _ _))⟩⟩)) ?_
     refine RV.cc _ (RV.does_step (fun γ L a w hH hl hA=>by have l0:L 105 = true:=hA ⟨105,.data⟩ (by simp) rfl;have s0:=hH.slot 105 249 (by rw [<- hD];rfl) l0;exact ⟨γ 105,w,by simp [JD,go_sem,s0],trivial,fun j v _ h=>h.keep _,⟨hH.glob.k,hH.glob.told.other _ rfl,fun e=>(by rw [RV.upd_ne _ _ (by decide)];exact hH.glob.sl l0),fun _=>(by rw [RV.upd_self];exact hH.glob.sl l0)⟩⟩)) ?_
     exact RV.AllDo.nil
    ·intro γ w9 L9 hL9 hI9 hG9
     obtain ⟨lb,U,E,e1,e2,e3⟩:=hG9.as_ (hL9 106 (by decide))
     have HL:Hid _:=Jhf e2
     have HB:Hid (Below w0.heap.size w0 w9):=hG9.k.below
     have HLL:Hid (CW w9 lb _):=e2
     have HNN:Hid (∀ k,k < 3->Digs (E k)/\(-8589934592 < sv (U k) (E k)/\sv (U k) (E k) < 8589934592)):=fun k hk=>by
      obtain ⟨d1,d2⟩:=e3 k hk
      refine ⟨d1,?_⟩
      rw [d2]
      match k,hk with
      | 0,_=>exact HBx.out.2.2.2.1.2
      | 1,_=>exact HBy.out.2.2.2.1.2
      | 2,_=>exact HBz.out.2.2.2.1.2
     simp only [List.append_eq,List.cons_append,List.nil_append,RV.putL,Act.put,JH,JG,JF,Nat.reduceAdd]
     rw [e1]
     clear hG9 hI9 hL9 e1 e2 e3 HBx HBy HBz HIV wex wey wez wfx wfy wfz HK HL HQ X1 X2 X3 X4
     have HO1:Hid _:=fun w=>Jb0 8589934592 w (by decide) (by decide)
     have HO2:Hid _:=fun w=>Jb0 (-8589934592) w (by decide) (by decide)
     go_wp2_with (fail)
     go_loopg [21] 3 (fun gm s21 wr=>∃ k:Nat,k + gm = 3/\s21 = J Y k/\Hid (Below w0.heap.size w0 wr)/\Hid (CW wr lb (wl (U 0) (E 0) ++ (wl (U 1) (E 1) ++ wl (U 2) (E 2)))))
     case atStart=>exact ⟨0,rfl,rfl,HB,HLL⟩
     case round =>
      obtain ⟨k,hk,rfl,HB,HLL⟩:=hrel
      rcases Nat.eq_zero_or_pos gk with h0 | h0
      ·obtain rfl:k = 3:=by omega
       go_wp2
       go_ret
       exact ⟨rfl,HB.out⟩
      ·obtain ⟨gm,rfl⟩:∃ m,gk = m + 1:=⟨gk - 1,by omega⟩
       have hk3:k < 3:=by omega
       have hki:(k:Int) < 3:=by omega
       go_upto_region 23 with fail
       have hkn:((k:Int).toNat) = k:=Int.toNat_natCast k
       refine RV.rs [.some (.slice (some ⟨lb,0,none⟩) 3 3),.some (J Y k),.some (.pointer (some ⟨lb,k * 9,none⟩)),.some (.agg (wl (U k) (E k)).toArray),.none,.some (.bool true),.some (.bool false),.some (.bool false),.none,.some (.slice (some ⟨lb,0,none⟩) 3 3),.some (J Y k),.some (.pointer (some ⟨lb,k * 9,none⟩)),.some (.agg (wl (U k) (E k)).toArray),.some (.bool true),.some (.bool false),.some (.bool false)] [255,256,257,258,259,260,261,262,263,264,265,266,267,268,269,270] [(20,.slice (some ⟨lb,0,none⟩) 3 3),(21,J Y k)] (fun γ L w=>Below wr.heap.size wr w/\WT [(4,8589934592),(8,-8589934592)] γ L) ⟨rfl,rfl,trivial⟩ ⟨(Below.refl _ _).drew,WT.start⟩ ?_ ?_
       ·intro D WA Z hD hWA hZ T
        simp only [RV.Outs,RV.Slots,Nat.reduceAdd] at T
        (refine RV.cc _ (RV.pu T (fun γ v L w hl h=>⟨h.1,h.2.other v rfl⟩) (fun γ L a w hH hl h9 k9=>⟨_,?_,rfl⟩)) ?_;· simp [JD,go_sem,h9])
        (refine RV.cc _ (RV.pu T (fun γ v L w hl h=>⟨h.1,h.2.other v rfl⟩) (fun γ L a w hH hl h9 k9=>⟨_,?_,rfl⟩)) ?_;· simp [JD,go_sem,h9])
        (refine RV.cc _ (RV.pu T (fun γ v L w hl h=>⟨h.1,h.2.other v rfl⟩) (fun γ L a w hH hl h9 k9=>⟨_,?_,rfl⟩)) ?_;· simp [JC] at k9;simp [JD,go_sem,h9,k9,hki,hkn])
        refine RV.cc _ (RV.pu T (fun γ v L w hl h=>⟨h.1,h.2.other v rfl⟩) (fun γ L a w hH hl h9 k9=>⟨_,Jbp 58 _ rfl lb (k * 9) (by simp [JC] at k9;simp [go_sem,h9,k9]) _ _ (Jhf (HLL.out.step hH.glob.1) k hk3) underlying58 rfl (by kernel_rfl),rfl⟩)) ?_
        refine RV.cc _ (RV.dc (fun γ L a w hH hl hA=>by exact ⟨_,_,by simp [go_sem],JA (HO1.out w) (by rintro e w2 ⟨u,d2,rfl,hS,hb⟩;exact ⟨_,rfl,trivial,fun j v _ h=>h.keep _,⟨Jf hH.glob.1 hb.out,hH.glob.2.call (n:=8589934592) hS.out.1 hS.out.2 (by simp)⟩⟩)⟩)) ?_
        refine RV.cc _ (RV.dc (fun γ L a w hH hl hA=>by have h9:=T γ L a w hH;have k9:=hA;simp [JC] at k9;have l0:L 4 = true:=hA ⟨4,.data⟩ (by simp) rfl;have s0:=hH.slot 4 258 (by rw [<- hD];rfl) l0;obtain ⟨u0,d0,g0,D0,S0⟩:=hH.glob.2 (4,8589934592) (by simp) l0;rw [g0] at s0;exact ⟨_,_,by simp [go_sem,h9,k9,s0,wl],JA (Je1 (U k) u0 (E k) d0 w (HNN.out k hk3).1 D0 (by have h:=(HNN.out k hk3).2;dsimp only at S0;rw [S0];omega)) (by rintro e w2 ⟨c9,rfl,hS,hb⟩;have e9:c9 = true:=hS.out.2 (by have h:=(HNN.out k hk3).2;dsimp only at S0;rw [S0];omega);exact ⟨_,rfl,congrArg Value.bool e9,fun j v _ h=>h.keep _,⟨Jf hH.glob.1 hb.out,hH.glob.2.other _ rfl⟩⟩)⟩)) ?_
        (refine RV.cc _ (RV.pu T (fun γ v L w hl h=>⟨h.1,h.2.other v rfl⟩) (fun γ L a w hH hl h9 k9=>⟨_,?_,rfl⟩)) ?_;· simp [JC] at k9;simp [JD,go_sem,h9,k9])
        (refine RV.cc _ (RV.pu T (fun γ v L w hl h=>⟨h.1,h.2.other v rfl⟩) (fun γ L a w hH hl h9 k9=>⟨_,?_,rfl⟩)) ?_;· simp [JC] at k9;simp [JD,go_sem,h9,k9])
        refine RV.cc _ (RV.dg rfl (by rw [<- hD];rfl) (fun v w h=>h) (by simp) (RV.dc (fun γ L a w hH hl hA=>by exact ⟨_,_,by simp [go_sem],JA (HO2.out w) (by rintro e w2 ⟨u,d2,rfl,hS,hb⟩;exact ⟨_,rfl,trivial,fun j v _ h=>h.keep _,⟨Jf hH.glob.1 hb.out,hH.glob.2.call (n:=-8589934592) hS.out.1 hS.out.2 (by simp)⟩⟩)⟩))) ?_
        (refine RV.cc _ (RV.dg rfl (by rw [<- hD];rfl) (fun v w h=>h) (by simp) (RV.pu T (fun γ v L w hl h=>⟨h.1,h.2.other v rfl⟩) (fun γ L a w hH hl h9 k9=>⟨_,?_,rfl⟩))) ?_;· simp [JD,go_sem,h9])
        (refine RV.cc _ (RV.dg rfl (by rw [<- hD];rfl) (fun v w h=>h) (by simp) (RV.pu T (fun γ v L w hl h=>⟨h.1,h.2.other v rfl⟩) (fun γ L a w hH hl h9 k9=>⟨_,?_,rfl⟩))) ?_;· simp [JD,go_sem,h9])
        (refine RV.cc _ (RV.dg rfl (by rw [<- hD];rfl) (fun v w h=>h) (by simp) (RV.pu T (fun γ v L w hl h=>⟨h.1,h.2.other v rfl⟩) (fun γ L a w hH hl h9 k9=>⟨_,?_,rfl⟩))) ?_;· simp [JC] at k9;simp [JD,go_sem,h9,k9,hki,hkn])
        refine RV.cc _ (RV.dg rfl (by rw [<- hD];rfl) (fun v w h=>h) (by simp) (RV.pu T (fun γ v L w hl h=>⟨h.1,h.2.other v rfl⟩) (fun γ L a w hH hl h9 k9=>⟨_,Jbp 58 _ rfl lb (k * 9) (by simp [JC] at k9;simp [go_sem,h9,k9]) _ _ (Jhf (HLL.out.step hH.glob.1) k hk3) underlying58 rfl (by kernel_rfl),rfl⟩))) ?_
        refine RV.cc _ (RV.dg rfl (by rw [<- hD];rfl) (fun v w h=>h) (by simp) (RV.dc (fun γ L a w hH hl hA=>by have h9:=T γ L a w hH;have k9:=hA;simp [JC] at k9;have l0:L 8 = true:=hA ⟨8,.data⟩ (by simp) rfl;have s0:=hH.slot 8 262 (by rw [<- hD];rfl) l0;obtain ⟨u0,d0,g0,D0,S0⟩:=hH.glob.2 (8,-8589934592) (by simp) l0;rw [g0] at s0;exact ⟨_,_,by simp [go_sem,h9,k9,s0,wl],JA (Je1 u0 (U k) d0 (E k) w D0 (HNN.out k hk3).1 (by have h:=(HNN.out k hk3).2;dsimp only at S0;rw [S0];omega)) (by rintro e w2 ⟨c9,rfl,hS,hb⟩;have e9:c9 = true:=hS.out.2 (by have h:=(HNN.out k hk3).2;dsimp only at S0;rw [S0];omega);exact ⟨_,rfl,congrArg Value.bool e9,fun j v _ h=>h.keep _,⟨Jf hH.glob.1 hb.out,hH.glob.2.other _ rfl⟩⟩)⟩))) ?_
        (refine RV.cc _ (RV.dg rfl (by rw [<- hD];rfl) (fun v w h=>h) (by simp) (RV.pu T (fun γ v L w hl h=>⟨h.1,h.2.other v rfl⟩) (fun γ L a w hH hl h9 k9=>⟨_,?_,rfl⟩))) ?_;· simp [JC] at k9;simp [JD,go_sem,h9,k9])
        (refine RV.cc _ (RV.pu T (fun γ v L w hl h=>⟨h.1,h.2.other v rfl⟩) (fun γ L a w hH hl h9 k9=>⟨_,?_,rfl⟩)) ?_;· simp [JC] at k9;simp [JD,go_sem,h9,k9])
        exact RV.AllDo.nil
       ·intro γ w5 L9 hL9 hI9 hG9
        simp only [RV.putL,Act.put,JH,JG,JF,Nat.reduceAdd]
        have HLL:Hid (CW w5 lb (wl (U 0) (E 0) ++ (wl (U 1) (E 1) ++ wl (U 2) (E 2)))):=HLL.out.step hG9.1
        have HB:Hid (Below w0.heap.size w0 w5):=Jf HB.out hG9.1
        clear hG9 hI9 hL9 hki hkn
        go_wp2_with (fail)
        go_roundg gm
        case rel=>exact ⟨k + 1,by omega,by go_num,HB,HLL⟩
        omega
theorem Jtm (os:Os) (started:os.Started) (H:Type) (enc:TypeId × Value->H) :
  ReturnsInHanded {} Tryz.checked os 4 .any (Rows.bodyBackSpec.pre6 enc Tryz.prog Tryz.f4 Rows.bodyBackRow.domain false) (Rows.bodyBackSpec.post enc Tryz.prog Tryz.f4 false true false false):=by
 refine returnsInHanded_of_change (C:=Tryz.checked) own started (by kernel_rfl) func4
  (ChangeSpec.witness6 (enc:=enc) (C:=Tryz.checked) false ⟨#[],#[.agg #[J Y 0,J Y 0,J Y 0,J Y 0,J Y 0,.slice none 0 0,J Y 0,J Y 0,J Y 0,J Y 0,J Y 0,J Y 0,J Y 0,J Y 0,J Y 0,J Y 0,J Y 0,J Y 0,J Y 0,J Y 0,J Y 0,.bool false,.bool false,J Y 0,J Y 0],.agg #[J Y 0,J Y 0,J Y 0,J Y 0,J Y 0,.slice none 0 0,J Y 0,J Y 0,J Y 0,J Y 0,J Y 0,J Y 0,J Y 0,J Y 0,J Y 0,J Y 0,J Y 0,J Y 0,J Y 0,J Y 0,J Y 0,.bool false,.bool false,J Y 0,J Y 0],.agg #[J Y 0,J Y 0,J Y 0],.agg #[J Y 0,J Y 0,J Y 0]],[]⟩ 8 (by kernel_rfl) (by kernel_rfl) (by kernel_rfl) (by kernel_rfl)) ?_
 intro W base args ds gs before hval0 hW hcnd _
 have hval:∀ (j:Nat) t v,Tryz.f4.params[j]? = some t->args[j]? = some v->Value.okWide Tryz.prog W .any base t v:=hval0
 have hW':=hW
 obtain ⟨p,q,hA0,hV,rfl,hfz,hnd⟩:=hW
 have hA:DataW.TrodAll enc Tryz.prog W 0 (fun _=>true) true Tryz.f4.params.toList args.toList ds p:=hA0
 rw [params4] at hA hval
 obtain ⟨v0,vs0,d0,ds0,p0,q0,hargs,rfl,rfl,h0,r0⟩:=trodAll_cons hA
 obtain ⟨v1,vs1,d1,ds1,p1,q1,rfl,rfl,rfl,h1,r1⟩:=trodAll_cons r0
 obtain ⟨v2,vs2,d2,ds2,p2,q2,rfl,rfl,rfl,h2,r2⟩:=trodAll_cons r1
 obtain ⟨v3,vs3,d3,ds3,p3,q3,rfl,rfl,rfl,h3,r3⟩:=trodAll_cons r2
 obtain ⟨rfl,rfl,rfl⟩:=trodAll_nil r3
 obtain rfl:args = #[v0,v1,v2,v3]:=by cases args;simp_all
 obtain ⟨rfl,rfl⟩:=trodVars_none hV
 have k0:=h0
 have lt0:∀ x ∈ p0,x.block < W.heap.size:=by obtain ⟨m,hm⟩:=k0;exact DataW.trod_lt m _ _ _ hm
 obtain ⟨kz,rz,hx,hy,hz,o,Ls,c,at0,at1,at2,qa,qb_,qc,qd,ms,fr,pp0,pp1,pp2,l0,l1,l2,fx,fa,gr,ma,rfl,hLz,hFz,hbz⟩:=Jhw (hval 0 33 v0 rfl rfl) h0
 have k1:=h1
 have lt1:∀ x ∈ p1,x.block < W.heap.size:=by obtain ⟨m,hm⟩:=k1;exact DataW.trod_lt m _ _ _ hm
 obtain ⟨kg,rg,hxg,hyg,hzg,og,Lsg,cg,at0g,at1g,at2g,qag,qb_g,qcg,qdg,msg,frg,pp0g,pp1g,pp2g,l0g,l1g,l2g,fxg,fag,grg,mag,rfl,hLg,hFg,hbg⟩:=Jhw (hval 1 33 v1 rfl rfl) h1
 have k2:=h2
 have lt2:∀ x ∈ p2,x.block < W.heap.size:=by obtain ⟨m,hm⟩:=k2;exact DataW.trod_lt m _ _ _ hm
 obtain ⟨am2,rfl,hbm2⟩:=Jiy (hval 2 27 v2 rfl rfl) h2
 have k3:=h3
 have lt3:∀ x ∈ p3,x.block < W.heap.size:=by obtain ⟨m,hm⟩:=k3;exact DataW.trod_lt m _ _ _ hm
 obtain ⟨am3,rfl,hbm3⟩:=Jiy (hval 3 27 v3 rfl rfl) h3
 clear hA0 hval0
 refine (Juf kz rz hx hy hz o Ls c at0 at1 at2 qa qb_ qc qd ms fr pp0 pp1 pp2 l0 l1 l2 fx fa gr ma kg rg hxg hyg hzg og Lsg cg at0g at1g at2g qag qb_g qcg qdg msg frg pp0g pp1g pp2g l0g l1g l2g fxg fag grg mag am2 am3 W hbz hLz hFz hbg hLg hFg hbm2 hbm3).mono fun e W' ⟨he,bel⟩=>?_
 subst he
 exact ⟨_,rfl,_,_,_,[],_,[],hW',trodAll_mk1 (shut_bool underlying4 _),(trodAll_cons_mk (Below.trod Jgt (by kernel_rfl) (of_decide_eq_true (by kernel_rfl)) k0 bel lt0) (trodAll_cons_mk (Below.trod Jgt (by kernel_rfl) (of_decide_eq_true (by kernel_rfl)) k1 bel lt1) (trodAll_cons_mk (Below.trod Jgt (by kernel_rfl) (of_decide_eq_true (by kernel_rfl)) k2 bel lt2) (trodAll_cons_mk (Below.trod Jgt (by kernel_rfl) (of_decide_eq_true (by kernel_rfl)) k3 bel lt3) trodAll_mk0)))),rfl,bel.frame _,fun h=>by cases h⟩
theorem over:Rows.bodyBackRow.holds Tryz.pinned (OpenSpec.ofChange Rows.bodyBackSpec):=
 OpenClaim.holds_of_wide 4 Tryz.f4 rfl rfl rfl rfl rfl rfl rfl ⟨rfl,rfl,rfl,rfl,rfl⟩ rfl rfl rfl rfl rfl (by kernel_rfl) func4 (by kernel_rfl)
  (of_decide_eq_true (by kernel_rfl)) (by unfold Func.isWrapper;first | (rw [if_pos (by decide +kernel)];kernel_rfl) | (rw [if_neg (by decide +kernel)];exact ⟨rfl,rfl⟩))
  (fun os started H enc _=>Jtm os started H enc)
end bodyBack
theorem bodyBack_holds:Rows.BodyBackSaid:=bodyBack.over
#print axioms bodyBack_holds
end
end Go.Proofs.YteebbpioffdncaaGreat
