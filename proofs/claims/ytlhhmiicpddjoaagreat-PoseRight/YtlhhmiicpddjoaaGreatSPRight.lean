/- Cores of shapes that may be, at poses within the world, are the document's own and can be placed: for every raw shape, raw pose and way. -/
import Derived.Test.YtlhhmiicpddjoaaGreatSPRight16
import Derived.Test.YtlhhmiicpddjoaaGreatSPRight18
import Derived.Test.YtlhhmiicpddjoaaGreatSPRight0
import Derived.Test.YtlhhmiicpddjoaaGreatRows
import Derived.ProofKit
import Derived.OpenShut
set_option maxHeartbeats 8000000
set_option maxRecDepth 100000
set_option linter.unusedVariables false
namespace Go.Proofs.YtlhhmiicpddjoaaGreat
section
namespace poseRight
open Go.ChangeShapes Go.WideShapes Go.ChangeAt Go.RowKit Go.Shelf
theorem own:ownKnob Tryz.prog.godebug = none:=by kernel_rfl
theorem laidOut:laidOutB Tryz.prog = true:=by kernel_rfl
theorem walk (k rr x y z:Int) (o:Option Addr) (L:List Pt) (c:Nat) (y0 y1 y2 y3 y4 y5 y6:Int) (tx ty tz:Int) (w0:World) (hL:Lies w0 (.slice o L.length c) L) (hF:∀ p ∈ L,p.fits) (bk:-9223372036854775808 <= k/\k <= 9223372036854775807) (br:-9223372036854775808 <= rr/\rr <= 9223372036854775807) (bx:-9223372036854775808 <= x/\x <= 9223372036854775807) (by_:-9223372036854775808 <= y/\y <= 9223372036854775807) (bz:-9223372036854775808 <= z/\z <= 9223372036854775807) (bq0:-9223372036854775808 <= y0/\y0 <= 9223372036854775807) (bq1:-9223372036854775808 <= y1/\y1 <= 9223372036854775807) (bq2:-9223372036854775808 <= y2/\y2 <= 9223372036854775807) (bq3:-9223372036854775808 <= y3/\y3 <= 9223372036854775807) (bq4:-9223372036854775808 <= y4/\y4 <= 9223372036854775807) (bq5:-9223372036854775808 <= y5/\y5 <= 9223372036854775807) (bq6:-9223372036854775808 <= y6/\y6 <= 9223372036854775807) (b0:-9223372036854775808 <= tx/\tx <= 9223372036854775807) (b1:-9223372036854775808 <= ty/\ty <= 9223372036854775807) (b2:-9223372036854775808 <= tz/\tz <= 9223372036854775807) :
  Calls Tryz.prog 3 #[.agg #[.int .i64 k,.int .i64 rr,.int .i64 x,.int .i64 y,.int .i64 z,.slice o L.length c],.agg #[.int .i64 y0,.int .i64 y1,.int .i64 y2,.int .i64 y3,.int .i64 y4,.int .i64 y5,.int .i64 y6],.agg #[.int .i64 tx,.int .i64 ty,.int .i64 tz]] w0 fun e w'=>e = .returned (.bool true)/\Below w0.heap.size w0 w':=by
 have HR:Hid _:=fun w' (h:Lies w' (.slice o L.length c) L)=>right_any k rr x y z (.slice o L.length c) L w' bk br bx by_ bz h hF
 have HQ:Hid _:=fun w'=>right6_any y0 y1 y2 y3 y4 y5 y6 w' bq0 bq1 bq2 bq3 bq4 bq5 bq6
 have HL:Hid _:=hL
 clear bk br bx by_ bz hF hL bq0 bq1 bq2 bq3 bq4 bq5 bq6 b0 b1 b2
 obtain ⟨W1,hW1⟩:∃ W1,W1 = ((w0.alloc (.cells #[.int .i64 k,.int .i64 rr,.int .i64 x,.int .i64 y,.int .i64 z,.slice o L.length c] 26)).alloc (.cells #[.int .i64 y0,.int .i64 y1,.int .i64 y2,.int .i64 y3,.int .i64 y4,.int .i64 y5,.int .i64 y6] 31)).alloc (.cells #[.int .i64 tx,.int .i64 ty,.int .i64 tz] 23):=⟨_,rfl⟩
 have B1:Hid (Cells W1 w0.heap.size [.int .i64 k,.int .i64 rr,.int .i64 x,.int .i64 y,.int .i64 z,.slice o L.length c]):=by show Cells _ _ _;rw [hW1];exact ((Cells.new w0 [.int .i64 k,.int .i64 rr,.int .i64 x,.int .i64 y,.int .i64 z,.slice o L.length c] _).step (n_after _ _)).step (n_after _ _)
 have B2:Hid (Cells W1 (w0.heap.size + 1) [.int .i64 y0,.int .i64 y1,.int .i64 y2,.int .i64 y3,.int .i64 y4,.int .i64 y5,.int .i64 y6]):=by show Cells _ _ _;rw [hW1];have h9:=(Cells.new (w0.alloc (.cells #[.int .i64 k,.int .i64 rr,.int .i64 x,.int .i64 y,.int .i64 z,.slice o L.length c] 26)) [.int .i64 y0,.int .i64 y1,.int .i64 y2,.int .i64 y3,.int .i64 y4,.int .i64 y5,.int .i64 y6] 31).step (n_after _ (.cells #[.int .i64 tx,.int .i64 ty,.int .i64 tz] 23));rw [World.size_alloc] at h9;exact h9
 have CY:Hid (Cells W1 (w0.heap.size + 1 + 1) [.int .i64 tx,.int .i64 ty,.int .i64 tz]):=by show Cells _ _ _;rw [hW1];have h9:=Cells.new ((w0.alloc (.cells #[.int .i64 k,.int .i64 rr,.int .i64 x,.int .i64 y,.int .i64 z,.slice o L.length c] 26)).alloc (.cells #[.int .i64 y0,.int .i64 y1,.int .i64 y2,.int .i64 y3,.int .i64 y4,.int .i64 y5,.int .i64 y6] 31)) [.int .i64 tx,.int .i64 ty,.int .i64 tz] 23;rw [World.size_alloc,World.size_alloc] at h9;exact h9
 have hB:Hid (Below w0.heap.size w0 W1):=by show Below _ _ _;rw [hW1];exact b_step (b_step (n_after _ _) (n_after _ _)) (n_after _ _)
 go_enter Tryz.func3,Tryz.ntmps3
 go_upto_region 1 with fail
 rw [<- hW1]
 clear hW1
 obtain ⟨qb,hqb⟩:∃ b,b = w0.heap.size + 1:=⟨_,rfl⟩
 obtain ⟨yb,hyb⟩:∃ b,b = w0.heap.size + 1 + 1:=⟨_,rfl⟩
 rw [<- hyb,<- hqb]
 rw [<- hqb] at B2
 rw [<- hyb] at CY
 clear hqb hyb
 have c0:=(B1.out 0 _ rfl).1
 have c1:=(B1.out 1 _ rfl).1
 have c2:=(B1.out 2 _ rfl).1
 have c3:=(B1.out 3 _ rfl).1
 have c4:=(B1.out 4 _ rfl).1
 have c5:=(B1.out 5 _ rfl).1
 go_wp2_with (fail)
 refine Calls.mono (HR.out _ (HL.out.below hB.out)) ?_
 clear HR
 rintro e V2 ⟨s,u,rfl,hRow,hGood,_⟩
 obtain ⟨ou,lu,cu,rfl⟩:=own_slice hRow.row
 have hD:Hid _:=b_step hB.out hRow.below
 have B2:Hid (Cells V2 qb [.int .i64 y0,.int .i64 y1,.int .i64 y2,.int .i64 y3,.int .i64 y4,.int .i64 y5,.int .i64 y6]):=Cells.step B2.out hRow.below
 have CY:Hid (Cells V2 yb [.int .i64 tx,.int .i64 ty,.int .i64 tz]):=Cells.step CY.out hRow.below
 have HC:Hid _:=rcore_any s (.slice ou lu cu) V2 hRow.lies
 have HK:Hid _:=hGood
 clear hRow hGood c0 c1 c2 c3 c4 c5 B1 HL hB
 have HAt:Hid (∀ p ∈ axesP s,p ≠ Pt.O/\p.short = p):=(gd_axes HK.out).one
 have HEt:Hid (∀ p ∈ edgesP s,p ≠ Pt.O/\p.short = p):=(gd_edges HK.out).one
 have HPn:Hid _:=gd_pts HK.out
 have HPi:Hid _:=gd_in HK.out
 have HAl:Hid _:=gd_alen HK.out
 have hPl:(ptsP s).length < 1099511627776:=by have:=gd_len HK.out;omega
 have HO:Hid _:=HK.out.ok
 clear HK
 generalize axesP s = As at *
 generalize edgesP s = Es at *
 generalize ptsP s = Ps at *
 obtain ⟨sk,sr,⟨sx,sy,sz⟩,M⟩:=s
 unfold Sh.v at *
 dsimp only at *
 go_wp2_with (fail)
 refine Calls.mono HC.out ?_
 clear HC
 rintro e V3 ⟨vp,va,ve,_,hcore⟩
 obtain ⟨rfl,hT⟩:=hcore HO.out
 have HT:Hid _:=hT
 clear hT hcore HO
 obtain ⟨op,cp,rfl,_⟩:=(Lies.of_row HT.out.rp).form
 obtain ⟨oa,ca,rfl,_⟩:=(Lies.of_row HT.out.ra).form
 obtain ⟨oe,ce,rfl,_⟩:=(Lies.of_row HT.out.re).form
 go_upto_region 2 with fail
 obtain ⟨X,hX⟩:∃ X:World,X = V3.alloc (.cells #[.slice op Ps.length cp,.slice oa As.length ca,.slice oe Es.length ce,.int .i64 sr] 33):=⟨_,rfl⟩
 obtain ⟨b4,hb4⟩:∃ b,b = V3.heap.size:=⟨_,rfl⟩
 have CC:Hid (Cells X b4 [.slice op Ps.length cp,.slice oa As.length ca,.slice oe Es.length ce,.int .i64 sr]):=by show Cells _ _ _;rw [hX,hb4];exact Cells.new V3 [.slice op Ps.length cp,.slice oa As.length ca,.slice oe Es.length ce,.int .i64 sr] _
 have LP:Hid (Lies X (.slice op Ps.length cp) Ps):=by show Lies _ _ _;rw [hX];exact (Lies.of_row HT.out.rp).below (n_after _ _)
 have LA:Hid (Lies X (.slice oa As.length ca) As):=by show Lies _ _ _;rw [hX];exact (Lies.of_row HT.out.ra).below (n_after _ _)
 have LE:Hid (Lies X (.slice oe Es.length ce) Es):=by show Lies _ _ _;rw [hX];exact (Lies.of_row HT.out.re).below (n_after _ _)
 have CQ:Hid (Cells X qb [.int .i64 y0,.int .i64 y1,.int .i64 y2,.int .i64 y3,.int .i64 y4,.int .i64 y5,.int .i64 y6]):=by show Cells _ _ _;rw [hX];exact (Cells.step B2.out HT.out.below).step (n_after _ _)
 have CY:Hid (Cells X yb [.int .i64 tx,.int .i64 ty,.int .i64 tz]):=by show Cells _ _ _;rw [hX];exact (Cells.step CY.out HT.out.below).step (n_after _ _)
 have hD:Hid (Below w0.heap.size w0 X):=by show Below _ _ _;rw [hX];exact b_step (b_step hD.out HT.out.below) (n_after _ _)
 rw [<- hX,<- hb4]
 clear hX hb4 HT B2
 have HPP:Hid (∀ (t:Pt) (q:Q4) (w':World),Lies w' (.slice op Ps.length cp) Ps->Lies w' (.slice oa As.length ca) As->Lies w' (.slice oe Es.length ce) Es->Calls Tryz.prog 8 #[.agg #[.slice op Ps.length cp,.slice oa As.length ca,.slice oe Es.length ce,.int .i64 sr],poseV t q,.agg #[.int .i64 tx,.int .i64 ty,.int .i64 tz]] w' fun e W=>e = .returned (.bool true)/\Below w'.heap.size w' W):=fun t q w' h1 h2 h3=>places_any t q ⟨tx,ty,tz⟩ Ps As Es sr _ _ _ w' h1 h2 h3 (by have:=HAl.out;omega)
 go_cut [9,10] from 17 to 35 (fun s9 s10 wx=>∃ (b8:Nat),s9 = .pointer (some ⟨b8,0,none⟩)/\s10 = .bool true/\Below X.heap.size X wx)
 case first =>
  clear HPP
  refine RV.region_by2 (fun j v w=>match j with | 0=>v = .agg #[.slice op Ps.length cp,.slice oa As.length ca,.slice oe Es.length ce,.int .i64 sr] | 1=>v = .agg #[.int .i64 y0,.int .i64 y1,.int .i64 y2,.int .i64 y3,.int .i64 y4,.int .i64 y5,.int .i64 y6] | 2=>(fun v w=>∃ (t:Pt) (q:Q4),v = poseV t q/\t.inB 4398046511104 = true/\WM.Whole q.w q.x q.y q.z) v w | 3=>True | 4=>True | 5=>True | 6=>v = .bool true | 7=>True | 8=>True | 9=>v = .bool true | _=>True) (fun γ L w=>SG X sr Ps As Es (γ 2) (γ 3) (γ 4) (γ 5) (γ 7) (L 2) (L 3) (L 4) (L 5) (L 7) (L 8) w) (by kernel_rfl) (by kernel_rfl) (by kernel_rfl) (by kernel_rfl) ?_ ?_ ?_
  ·have b9:Below X.heap.size X X.drew:=(Below.refl _ _).drew;exact ⟨b9,(fun e=>by cases e),(fun e=>by cases e),(fun e=>by cases e),(fun e=>by cases e)⟩
  ·generalize hD:dstOf _ = D
   generalize hWA:waitsFor _ = WA
   generalize hZ:Act.mk _ _ = Z
   refine RV.AllDo.name ?_
   intro R hR
   have d0:D 0 = some 18:=by rw [<- hD];rfl
   have d1:D 1 = some 19:=by rw [<- hD];rfl
   have d2:D 2 = some 20:=by rw [<- hD];rfl
   have d3:D 3 = some 21:=by rw [<- hD];rfl
   have d4:D 4 = some 17:=by rw [<- hD];rfl
   have d5:D 5 = some 22:=by rw [<- hD];rfl
   have d6:D 6 = some 23:=by rw [<- hD];rfl
   have d7:D 7 = some 9:=by rw [<- hD];rfl
   have d9:D 9 = some 10:=by rw [<- hD];rfl
   have r0:∀ v w,R 0 v w = (v = .agg #[.slice op Ps.length cp,.slice oa As.length ca,.slice oe Es.length ce,.int .i64 sr]):=fun v w=>by rw [hR];rfl
   have r1:∀ v w,R 1 v w = (v = .agg #[.int .i64 y0,.int .i64 y1,.int .i64 y2,.int .i64 y3,.int .i64 y4,.int .i64 y5,.int .i64 y6]):=fun v w=>by rw [hR];rfl
   have r2:∀ v w,R 2 v w = ((fun v w=>∃ (t:Pt) (q:Q4),v = poseV t q/\t.inB 4398046511104 = true/\WM.Whole q.w q.x q.y q.z) v w):=fun v w=>by rw [hR];rfl
   have r3:∀ v w,R 3 v w = (True):=fun v w=>by rw [hR];rfl
   have r4:∀ v w,R 4 v w = (True):=fun v w=>by rw [hR];rfl
   have r5:∀ v w,R 5 v w = (True):=fun v w=>by rw [hR];rfl
   have r6:∀ v w,R 6 v w = (v = .bool true):=fun v w=>by rw [hR];rfl
   have r7:∀ v w,R 7 v w = (True):=fun v w=>by rw [hR];rfl
   have r8:∀ v w,R 8 v w = (True):=fun v w=>by rw [hR];rfl
   have r9:∀ v w,R 9 v w = (v = .bool true):=fun v w=>by rw [hR];rfl
   have F4_:∀ j,D j ≠ some 4:=by rw [<- hD];exact RV.dst_free (by kernel_rfl)
   have Z4_:Z.tmps[4]? = some (.pointer (some ⟨qb,0,none⟩)):=by rw [<- hZ];rfl
   have F7_:∀ j,D j ≠ some 7:=by rw [<- hD];exact RV.dst_free (by kernel_rfl)
   have Z7_:Z.tmps[7]? = some (.pointer (some ⟨b4,0,none⟩)):=by rw [<- hZ];rfl
   have K:∀ j v w w',R j v w->R j v w':=by rw [hR];intro j v w w' h;exact h
   have A_4_3:WA 4 3:=by rw [<- hWA];exact ⟨_,rfl,⟨3,.data⟩,by simp,rfl,rfl⟩
   have A_5_4:WA 5 4:=by rw [<- hWA];exact ⟨_,rfl,⟨4,.data⟩,by simp,rfl,rfl⟩
   have A_8_5:WA 8 5:=by rw [<- hWA];exact ⟨_,rfl,⟨5,.data⟩,by simp,rfl,rfl⟩
   have A_8_7:WA 8 7:=by rw [<- hWA];exact ⟨_,rfl,⟨7,.data⟩,by simp,rfl,rfl⟩
   clear hD hWA hZ hR
   refine RV.cc 0 (RV.dp (fun γ v L w hl h=>by rw [RV.upd_ne γ (i:=0) (j:=2) _ (by decide),RV.upd_ne γ (i:=0) (j:=3) _ (by decide),RV.upd_ne γ (i:=0) (j:=4) _ (by decide),RV.upd_ne γ (i:=0) (j:=5) _ (by decide),RV.upd_ne γ (i:=0) (j:=7) _ (by decide),RV.mn (L:=L) (i:=0) (j:=2) (by decide),RV.mn (L:=L) (i:=0) (j:=3) (by decide),RV.mn (L:=L) (i:=0) (j:=4) (by decide),RV.mn (L:=L) (i:=0) (j:=5) (by decide),RV.mn (L:=L) (i:=0) (j:=7) (by decide),RV.mn (L:=L) (i:=0) (j:=8) (by decide)];exact h) (fun γ L a w hH hl hA=>by have e0:=((hH.rest 7 F7_).trans Z7_);have wz0:=(Cells.step CC.out hH.glob.be 0 _ rfl).1;have wz1:=(Cells.step CC.out hH.glob.be 1 _ rfl).1;have wz2:=(Cells.step CC.out hH.glob.be 2 _ rfl).1;have wz3:=(Cells.step CC.out hH.glob.be 3 _ rfl).1;exact ⟨.agg #[.slice op Ps.length cp,.slice oa As.length ca,.slice oe Es.length ce,.int .i64 sr],by simp [execOp,go_sem,e0,wz0,wz1,wz2,wz3],(r0 _ _).mpr rfl⟩)) ?_
   refine RV.cc 1 (RV.dp (fun γ v L w hl h=>by rw [RV.upd_ne γ (i:=1) (j:=2) _ (by decide),RV.upd_ne γ (i:=1) (j:=3) _ (by decide),RV.upd_ne γ (i:=1) (j:=4) _ (by decide),RV.upd_ne γ (i:=1) (j:=5) _ (by decide),RV.upd_ne γ (i:=1) (j:=7) _ (by decide),RV.mn (L:=L) (i:=1) (j:=2) (by decide),RV.mn (L:=L) (i:=1) (j:=3) (by decide),RV.mn (L:=L) (i:=1) (j:=4) (by decide),RV.mn (L:=L) (i:=1) (j:=5) (by decide),RV.mn (L:=L) (i:=1) (j:=7) (by decide),RV.mn (L:=L) (i:=1) (j:=8) (by decide)];exact h) (fun γ L a w hH hl hA=>by have e0:=((hH.rest 4 F4_).trans Z4_);have wz0:=(Cells.step CQ.out hH.glob.be 0 _ rfl).1;have wz1:=(Cells.step CQ.out hH.glob.be 1 _ rfl).1;have wz2:=(Cells.step CQ.out hH.glob.be 2 _ rfl).1;have wz3:=(Cells.step CQ.out hH.glob.be 3 _ rfl).1;have wz4:=(Cells.step CQ.out hH.glob.be 4 _ rfl).1;have wz5:=(Cells.step CQ.out hH.glob.be 5 _ rfl).1;have wz6:=(Cells.step CQ.out hH.glob.be 6 _ rfl).1;exact ⟨.agg #[.int .i64 y0,.int .i64 y1,.int .i64 y2,.int .i64 y3,.int .i64 y4,.int .i64 y5,.int .i64 y6],by simp [execOp,go_sem,e0,wz0,wz1,wz2,wz3,wz4,wz5,wz6],(r1 _ _).mpr rfl⟩)) ?_
   refine RV.cc 2 (RV.dc (fun γ L a w hH hl hA=>by have e0:=hH.got d1 r1 (hA ⟨1,.data⟩ (by simp) rfl);refine ⟨7,#[.agg #[.int .i64 y0,.int .i64 y1,.int .i64 y2,.int .i64 y3,.int .i64 y4,.int .i64 y5,.int .i64 y6]],by simp [go_sem,e0],Calls.mono (HQ.out w) ?_⟩;rintro e w2 ⟨t,q,rfl,ht,hq,hb⟩;refine ⟨_,rfl,(r2 _ _).mpr ⟨t,q,rfl,ht,hq⟩,fun j v _ h=>K j v _ _ h,?_⟩;rw [RV.upd_ne γ (i:=2) (j:=3) _ (by decide),RV.upd_ne γ (i:=2) (j:=4) _ (by decide),RV.upd_ne γ (i:=2) (j:=5) _ (by decide),RV.upd_ne γ (i:=2) (j:=7) _ (by decide),RV.mn (L:=L) (i:=2) (j:=3) (by decide),RV.mn (L:=L) (i:=2) (j:=4) (by decide),RV.mn (L:=L) (i:=2) (j:=5) (by decide),RV.mn (L:=L) (i:=2) (j:=7) (by decide),RV.mn (L:=L) (i:=2) (j:=8) (by decide)];have h9:=hH.glob.step hb;exact ⟨h9.be,h9.t3,h9.m4,h9.m5,h9.pd⟩)) ?_
   refine RV.cc 3 (RV.dc (fun γ L a w hH hl hA=>by have e0:=hH.got d0 r0 (hA ⟨0,.data⟩ (by simp) rfl);have l1:L 2 = true:=hA ⟨2,.data⟩ (by simp) rfl;have e1:=hH.slot 2 20 d2 l1;have g1:=hH.holds 2 l1;rw [r2] at g1;have h4:L 4 = false:=RV.ny hH A_4_3 hl;have h5:L 5 = false:=RV.ny hH A_5_4 h4;have h8:L 8 = false:=RV.ny hH A_8_5 h5;obtain ⟨t,q,hv1,ht,hq⟩:=g1;rw [hv1] at e1;refine ⟨6,#[.agg #[.slice op Ps.length cp,.slice oa As.length ca,.slice oe Es.length ce,.int .i64 sr],poseV t q],by simp [go_sem,e0,e1],Calls.mono (place_right t q (inB_mono ht (by decide)) hq Ps As Es HPn.out HPi.out HAt.out HEt.out hPl HAl.out.1 HAl.out.2 sr _ _ _ _ _ _ w (LP.out.below hH.glob.be) (LA.out.below hH.glob.be) (LE.out.below hH.glob.be)) ?_⟩;rintro e w2 ⟨Px2,Ax2,Ex2,vp,va,ve,rfl,hT,hC⟩;refine ⟨_,rfl,(r3 _ _).mpr trivial,fun j v _ h=>K j v _ _ h,?_⟩;rw [RV.upd_ne γ (i:=3) (j:=2) _ (by decide),RV.upd_ne γ (i:=3) (j:=4) _ (by decide),RV.upd_ne γ (i:=3) (j:=5) _ (by decide),RV.upd_ne γ (i:=3) (j:=7) _ (by decide),RV.mn (L:=L) (i:=3) (j:=2) (by decide),RV.mn (L:=L) (i:=3) (j:=4) (by decide),RV.mn (L:=L) (i:=3) (j:=5) (by decide),RV.mn (L:=L) (i:=3) (j:=7) (by decide),RV.mn (L:=L) (i:=3) (j:=8) (by decide),RV.upd_self,RV.more_self];exact hH.glob.got h4 h5 h8 hT hC)) ?_
   refine RV.cc 4 (RV.does_step (fun γ L a w hH hl hA=>by have l0:L 3 = true:=hA ⟨3,.data⟩ (by simp) rfl;have e0:=hH.slot 3 21 d3 l0;have g0:=hH.holds 3 l0;rw [r3] at g0;exact ⟨γ 3,w,by simp [execOp,go_sem,e0],(r4 _ _).mpr trivial,fun j v _ h=>K j v _ _ h,by rw [RV.upd_ne γ (i:=4) (j:=2) _ (by decide),RV.upd_ne γ (i:=4) (j:=3) _ (by decide),RV.upd_ne γ (i:=4) (j:=5) _ (by decide),RV.upd_ne γ (i:=4) (j:=7) _ (by decide),RV.mn (L:=L) (i:=4) (j:=2) (by decide),RV.mn (L:=L) (i:=4) (j:=3) (by decide),RV.mn (L:=L) (i:=4) (j:=5) (by decide),RV.mn (L:=L) (i:=4) (j:=7) (by decide),RV.mn (L:=L) (i:=4) (j:=8) (by decide),RV.upd_self];exact ⟨hH.glob.be,hH.glob.t3,fun _=>rfl,hH.glob.m5,hH.glob.pd⟩⟩)) ?_
   refine RV.cc 5 (RV.does_step (fun γ L a w hH hl hA=>by have l0:L 4 = true:=hA ⟨4,.data⟩ (by simp) rfl;have e0:=hH.slot 4 17 d4 l0;have g0:=hH.holds 4 l0;rw [r4] at g0;have l3:L 3 = true:=hH.closed 4 3 A_4_3 l0;obtain ⟨Px2,Ax2,Ex2,vp,va,ve,t,q,x1,x2,x3⟩:=hH.glob.t3 l3;have x4:=hH.glob.m4 l0;rw [x4,x1] at e0;refine ⟨.agg #[vp,va,ve,.int .i64 sr],w,by simp [execOp,go_sem,e0],(r5 _ _).mpr trivial,fun j v _ h=>K j v _ _ h,?_⟩;rw [RV.upd_ne γ (i:=5) (j:=2) _ (by decide),RV.upd_ne γ (i:=5) (j:=3) _ (by decide),RV.upd_ne γ (i:=5) (j:=4) _ (by decide),RV.upd_ne γ (i:=5) (j:=7) _ (by decide),RV.mn (L:=L) (i:=5) (j:=2) (by decide),RV.mn (L:=L) (i:=5) (j:=3) (by decide),RV.mn (L:=L) (i:=5) (j:=4) (by decide),RV.mn (L:=L) (i:=5) (j:=7) (by decide),RV.mn (L:=L) (i:=5) (j:=8) (by decide),RV.upd_self];exact ⟨hH.glob.be,hH.glob.t3,hH.glob.m4,fun _=>by rw [x1];rfl,hH.glob.pd⟩)) ?_
   refine RV.cc 6 (RV.does_step (fun γ L a w hH hl hA=>by have l0:L 4 = true:=hA ⟨4,.data⟩ (by simp) rfl;have e0:=hH.slot 4 17 d4 l0;have g0:=hH.holds 4 l0;rw [r4] at g0;have l3:L 3 = true:=hH.closed 4 3 A_4_3 l0;obtain ⟨Px2,Ax2,Ex2,vp,va,ve,t,q,x1,x2,x3⟩:=hH.glob.t3 l3;have x4:=hH.glob.m4 l0;rw [x4,x1] at e0;refine ⟨.bool true,w,by simp [execOp,go_sem,e0],(r6 _ _).mpr rfl,fun j v _ h=>K j v _ _ h,?_⟩;rw [RV.upd_ne γ (i:=6) (j:=2) _ (by decide),RV.upd_ne γ (i:=6) (j:=3) _ (by decide),RV.upd_ne γ (i:=6) (j:=4) _ (by decide),RV.upd_ne γ (i:=6) (j:=5) _ (by decide),RV.upd_ne γ (i:=6) (j:=7) _ (by decide),RV.mn (L:=L) (i:=6) (j:=2) (by decide),RV.mn (L:=L) (i:=6) (j:=3) (by decide),RV.mn (L:=L) (i:=6) (j:=4) (by decide),RV.mn (L:=L) (i:=6) (j:=5) (by decide),RV.mn (L:=L) (i:=6) (j:=7) (by decide),RV.mn (L:=L) (i:=6) (j:=8) (by decide)];exact hH.glob)) ?_
   refine RV.cc 7 (RV.does_step (fun γ L a w hH hl hA=>by have h8:L 8 = false:=RV.ny hH A_8_7 hl;refine ⟨.pointer (some ⟨w.heap.size,0,none⟩),w.alloc (.cells #[.slice none 0 0,.slice none 0 0,.slice none 0 0,.int .i64 0] 33),by simp [execOp,go_sem],(r7 _ _).mpr trivial,fun j v _ h=>K j v _ _ h,?_⟩;rw [RV.upd_ne γ (i:=7) (j:=2) _ (by decide),RV.upd_ne γ (i:=7) (j:=3) _ (by decide),RV.upd_ne γ (i:=7) (j:=4) _ (by decide),RV.upd_ne γ (i:=7) (j:=5) _ (by decide),RV.mn (L:=L) (i:=7) (j:=2) (by decide),RV.mn (L:=L) (i:=7) (j:=3) (by decide),RV.mn (L:=L) (i:=7) (j:=4) (by decide),RV.mn (L:=L) (i:=7) (j:=5) (by decide),RV.mn (L:=L) (i:=7) (j:=8) (by decide),RV.upd_self,RV.more_self];exact hH.glob.made h8)) ?_
   refine RV.cc 8 (RV.does_store (fun γ L a w hH hl hA=>by have l0:L 7 = true:=hA ⟨7,.data⟩ (by simp) rfl;have e0:=hH.slot 7 9 d7 l0;have g0:=hH.holds 7 l0;rw [r7] at g0;have l1:L 5 = true:=hA ⟨5,.data⟩ (by simp) rfl;have e1:=hH.slot 5 22 d5 l1;have g1:=hH.holds 5 l1;rw [r5] at g1;have hG:=hH.glob;have m4:L 4 = true:=hH.closed 5 4 A_5_4 l1;have m3:L 3 = true:=hH.closed 4 3 A_4_3 m4;rw [m3,l0] at hG;obtain ⟨Px2,Ax2,Ex2,vp,va,ve,t,q,x1,x2,x3⟩:=hG.t3 rfl;obtain ⟨b,cs,k1,k2,k3,k4,_⟩:=hG.pd rfl;have x5:=hG.m5 l1;rw [x1] at x5;obtain ⟨o5_,c5_,rfl⟩:=rowp_form x2.rp;obtain ⟨o9_,c9_,rfl⟩:=rowp_form x2.ra;obtain ⟨o13_,c13_,rfl⟩:=rowp_form x2.re;rw [k1] at e0;rw [x5] at e1;have q9:=hG.fill k1 k2 k3 k4 x1;obtain ⟨q0,q1,q2,q3,rfl⟩:=arr4' k4;have wz0:w.cell? ⟨b,0,none⟩ = some q0:=(by simp [World.cell?,k3]);have wz1:w.cell? ⟨b,1,none⟩ = some q1:=(by simp [World.cell?,k3]);have wz2:w.cell? ⟨b,2,none⟩ = some q2:=(by simp [World.cell?,k3]);have wz3:w.cell? ⟨b,3,none⟩ = some q3:=(by simp [World.cell?,k3]);have zf:∀ o,w.frozen? ⟨b,o,none⟩ = false:=fun o=>(by simp [World.frozen?,k3]);refine ⟨_,by simp [execOp,go_sem,e0,e1,cp0,wz0,wz1,wz2,wz3,zf];rfl,(r8 _ _).mpr trivial,fun j v _ h=>K j v _ _ h,?_⟩;rw [RV.upd_ne γ (i:=8) (j:=2) _ (by decide),RV.upd_ne γ (i:=8) (j:=3) _ (by decide),RV.upd_ne γ (i:=8) (j:=4) _ (by decide),RV.upd_ne γ (i:=8) (j:=5) _ (by decide),RV.upd_ne γ (i:=8) (j:=7) _ (by decide),RV.mn (L:=L) (i:=8) (j:=2) (by decide),RV.mn (L:=L) (i:=8) (j:=3) (by decide),RV.mn (L:=L) (i:=8) (j:=4) (by decide),RV.mn (L:=L) (i:=8) (j:=5) (by decide),RV.mn (L:=L) (i:=8) (j:=7) (by decide),RV.more_self,m3,l0];exact q9)) ?_
   refine RV.cc 9 (RV.dp (fun γ v L w hl h=>by rw [RV.upd_ne γ (i:=9) (j:=2) _ (by decide),RV.upd_ne γ (i:=9) (j:=3) _ (by decide),RV.upd_ne γ (i:=9) (j:=4) _ (by decide),RV.upd_ne γ (i:=9) (j:=5) _ (by decide),RV.upd_ne γ (i:=9) (j:=7) _ (by decide),RV.mn (L:=L) (i:=9) (j:=2) (by decide),RV.mn (L:=L) (i:=9) (j:=3) (by decide),RV.mn (L:=L) (i:=9) (j:=4) (by decide),RV.mn (L:=L) (i:=9) (j:=5) (by decide),RV.mn (L:=L) (i:=9) (j:=7) (by decide),RV.mn (L:=L) (i:=9) (j:=8) (by decide)];exact h) (fun γ L a w hH hl hA=>by have e0:=hH.got d6 r6 (hA ⟨6,.data⟩ (by simp) rfl);exact ⟨.bool true,by simp [execOp,go_sem,e0],(r9 _ _).mpr rfl⟩)) ?_
   exact RV.AllDo.nil
  ·intro γ a5 w5 L9 hL hLo hH
   have ha:=RV.held_act hH hL (by kernel_rfl) (by kernel_rfl)
   have hG:=hH.glob
   rw [hL 2 (by decide),hL 3 (by decide),hL 4 (by decide),hL 5 (by decide),hL 7 (by decide),hL 8 (by decide)] at hG
   obtain ⟨Px2,Ax2,Ex2,vp,va,ve,t,q,x1,x2,x3⟩:=hG.t3 rfl
   obtain ⟨b8,cs,k1,k2,k3,k4,k5⟩:=hG.pd rfl
   have e6:γ 6 = .bool true:=hH.holds 6 (hL 6 (by decide))
   have e9_:γ 9 = .bool true:=hH.holds 9 (hL 9 (by decide))
   rw [(k5 rfl).2 _ _ _ x1] at k3
   rw [ha]
   clear ha hH hL hLo k5
   simp only [RV.putAll,Act.put,List.setIfInBounds_toArray,List.set_cons_zero,List.set_cons_succ,Nat.zero_add,Nat.reduceAdd]
   rw [k1,e9_,e6]
   have C8:Cells w5 b8 [vp,va,ve,.int .i64 sr]:=fun i v e=>⟨by simp [World.cell?,k3];exact e,by simp [World.frozen?,k3]⟩
   obtain ⟨o5_,c5_,rfl⟩:=rowp_form x2.rp
   obtain ⟨o9_,c9_,rfl⟩:=rowp_form x2.ra
   obtain ⟨o13_,c13_,rfl⟩:=rowp_form x2.re
   have hB5:=hG.be
   clear hG k1 k3 k4 x1
   go_wp2_with (fail)
   go_meet
   case rel=>exact ⟨b8,rfl,rfl,hB5⟩
 case rest =>
  obtain ⟨b8,rfl,rfl,hb⟩:=hcut
  obtain ⟨Y,hY⟩:∃ Y:World,Y = wc:=⟨_,rfl⟩
  rw [<- hY] at hb ⊢
  have CC:Hid _:=Cells.step CC.out hb
  have CQ:Hid _:=Cells.step CQ.out hb
  have CY:Hid _:=Cells.step CY.out hb
  have LP:Hid _:=LP.out.below hb
  have LA:Hid _:=LA.out.below hb
  have LE:Hid _:=LE.out.below hb
  have hD:Hid _:=b_step hD.out hb
  clear hb hY HPi HAt HEt HAl hPl HPn
  go_upto_region 3 with fail
  refine RV.region_by (fun j v w=>match j with | 0=>v = .int .i64 0 | 1=>v = .bool true | 2=>v = .bool true | 3=>v = .bool true | 4=>v = .bool true | 5=>v = .bool true | 6=>v = .agg #[.slice op Ps.length cp,.slice oa As.length ca,.slice oe Es.length ce,.int .i64 sr] | 7=>v = .agg #[.int .i64 y0,.int .i64 y1,.int .i64 y2,.int .i64 y3,.int .i64 y4,.int .i64 y5,.int .i64 y6] | 8=>(fun v w=>∃ (t:Pt) (q:Q4),v = poseV t q/\t.inB 4398046511104 = true/\WM.Whole q.w q.x q.y q.z) v w | 9=>v = .agg #[.int .i64 tx,.int .i64 ty,.int .i64 tz] | 10=>v = .bool true | 11=>v = .bool true | 12=>v = .bool true | _=>True) (fun γ L w=>Below Y.heap.size Y w) (by kernel_rfl) (by kernel_rfl) (by kernel_rfl) (by kernel_rfl) ?_ ?_ ?_
  ·exact (Below.refl _ Y).drew
  ·generalize hD:dstOf _ = D
   generalize hWA:waitsFor _ = WA
   generalize hZ:Act.mk _ _ = Z
   refine RV.AllDo.name ?_
   intro R hR
   have d0:D 0 = some 24:=by rw [<- hD];rfl
   have d1:D 1 = some 25:=by rw [<- hD];rfl
   have d2:D 2 = some 26:=by rw [<- hD];rfl
   have d3:D 3 = some 27:=by rw [<- hD];rfl
   have d4:D 4 = some 28:=by rw [<- hD];rfl
   have d5:D 5 = some 29:=by rw [<- hD];rfl
   have d6:D 6 = some 30:=by rw [<- hD];rfl
   have d7:D 7 = some 31:=by rw [<- hD];rfl
   have d8:D 8 = some 32:=by rw [<- hD];rfl
   have d9:D 9 = some 33:=by rw [<- hD];rfl
   have d10:D 10 = some 34:=by rw [<- hD];rfl
   have d11:D 11 = some 35:=by rw [<- hD];rfl
   have d12:D 12 = some 6:=by rw [<- hD];rfl
   have r0:∀ v w,R 0 v w = (v = .int .i64 0):=fun v w=>by rw [hR];rfl
   have r1:∀ v w,R 1 v w = (v = .bool true):=fun v w=>by rw [hR];rfl
   have r2:∀ v w,R 2 v w = (v = .bool true):=fun v w=>by rw [hR];rfl
   have r3:∀ v w,R 3 v w = (v = .bool true):=fun v w=>by rw [hR];rfl
   have r4:∀ v w,R 4 v w = (v = .bool true):=fun v w=>by rw [hR];rfl
   have r5:∀ v w,R 5 v w = (v = .bool true):=fun v w=>by rw [hR];rfl
   have r6:∀ v w,R 6 v w = (v = .agg #[.slice op Ps.length cp,.slice oa As.length ca,.slice oe Es.length ce,.int .i64 sr]):=fun v w=>by rw [hR];rfl
   have r7:∀ v w,R 7 v w = (v = .agg #[.int .i64 y0,.int .i64 y1,.int .i64 y2,.int .i64 y3,.int .i64 y4,.int .i64 y5,.int .i64 y6]):=fun v w=>by rw [hR];rfl
   have r8:∀ v w,R 8 v w = ((fun v w=>∃ (t:Pt) (q:Q4),v = poseV t q/\t.inB 4398046511104 = true/\WM.Whole q.w q.x q.y q.z) v w):=fun v w=>by rw [hR];rfl
   have r9:∀ v w,R 9 v w = (v = .agg #[.int .i64 tx,.int .i64 ty,.int .i64 tz]):=fun v w=>by rw [hR];rfl
   have r10:∀ v w,R 10 v w = (v = .bool true):=fun v w=>by rw [hR];rfl
   have r11:∀ v w,R 11 v w = (v = .bool true):=fun v w=>by rw [hR];rfl
   have r12:∀ v w,R 12 v w = (v = .bool true):=fun v w=>by rw [hR];rfl
   have F4_:∀ j,D j ≠ some 4:=by rw [<- hD];exact RV.dst_free (by kernel_rfl)
   have Z4_:Z.tmps[4]? = some (.pointer (some ⟨qb,0,none⟩)):=by rw [<- hZ];rfl
   have F5_:∀ j,D j ≠ some 5:=by rw [<- hD];exact RV.dst_free (by kernel_rfl)
   have Z5_:Z.tmps[5]? = some (.pointer (some ⟨yb,0,none⟩)):=by rw [<- hZ];rfl
   have F7_:∀ j,D j ≠ some 7:=by rw [<- hD];exact RV.dst_free (by kernel_rfl)
   have Z7_:Z.tmps[7]? = some (.pointer (some ⟨b4,0,none⟩)):=by rw [<- hZ];rfl
   have F8_:∀ j,D j ≠ some 8:=by rw [<- hD];exact RV.dst_free (by kernel_rfl)
   have Z8_:Z.tmps[8]? = some (.int .i64 0):=by rw [<- hZ];rfl
   have F10_:∀ j,D j ≠ some 10:=by rw [<- hD];exact RV.dst_free (by kernel_rfl)
   have Z10_:Z.tmps[10]? = some (.bool true):=by rw [<- hZ];rfl
   have K:∀ j v w w',R j v w->R j v w':=by rw [hR];intro j v w w' h;exact h
   clear hD hWA hZ hR
   refine RV.cc 0 (RV.dp (fun γ v L w hl h=>h) (fun γ L a w hH hl hA=>by have e0:=((hH.rest 8 F8_).trans Z8_);exact ⟨.int .i64 0,by simp [execOp,go_sem,e0],(r0 _ _).mpr rfl⟩)) ?_
   refine RV.cc 1 (RV.dp (fun γ v L w hl h=>h) (fun γ L a w hH hl hA=>by have e0:=hH.got d0 r0 (hA ⟨0,.data⟩ (by simp) rfl);exact ⟨.bool true,by simp [execOp,go_sem,e0],(r1 _ _).mpr rfl⟩)) ?_
   refine RV.cc 2 (RV.dp (fun γ v L w hl h=>h) (fun γ L a w hH hl hA=>by have e0:=hH.got d1 r1 (hA ⟨1,.data⟩ (by simp) rfl);exact ⟨.bool true,by simp [execOp,go_sem,e0],(r2 _ _).mpr rfl⟩)) ?_
   refine RV.cc 3 (RV.dg rfl d2 (fun v w h=>by rw [r2] at h;exact h) (by simp) (RV.dp (fun γ v L w hl h=>h) (fun γ L a w hH hl hA=>by have e0:=((hH.rest 10 F10_).trans Z10_);exact ⟨.bool true,by simp [execOp,go_sem,e0],(r3 _ _).mpr rfl⟩))) ?_
   refine RV.cc 4 (RV.dp (fun γ v L w hl h=>h) (fun γ L a w hH hl hA=>by have e0:=hH.got d2 r2 (hA ⟨2,.data⟩ (by simp) rfl);have e1:=hH.got d3 r3 (hA ⟨3,.data⟩ (by simp) rfl);exact ⟨.bool true,by simp [execOp,go_sem,e0,e1],(r4 _ _).mpr rfl⟩)) ?_
   refine RV.cc 5 (RV.dp (fun γ v L w hl h=>h) (fun γ L a w hH hl hA=>by have e0:=hH.got d4 r4 (hA ⟨4,.data⟩ (by simp) rfl);exact ⟨.bool true,by simp [execOp,go_sem,e0],(r5 _ _).mpr rfl⟩)) ?_
   refine RV.cc 6 (RV.dg rfl d5 (fun v w h=>by rw [r5] at h;exact h) (by simp) (RV.dp (fun γ v L w hl h=>h) (fun γ L a w hH hl hA=>by have e0:=((hH.rest 7 F7_).trans Z7_);have wz0:=(Cells.step CC.out hH.glob 0 _ rfl).1;have wz1:=(Cells.step CC.out hH.glob 1 _ rfl).1;have wz2:=(Cells.step CC.out hH.glob 2 _ rfl).1;have wz3:=(Cells.step CC.out hH.glob 3 _ rfl).1;exact ⟨.agg #[.slice op Ps.length cp,.slice oa As.length ca,.slice oe Es.length ce,.int .i64 sr],by simp [execOp,go_sem,e0,wz0,wz1,wz2,wz3],(r6 _ _).mpr rfl⟩))) ?_
   refine RV.cc 7 (RV.dg rfl d5 (fun v w h=>by rw [r5] at h;exact h) (by simp) (RV.dp (fun γ v L w hl h=>h) (fun γ L a w hH hl hA=>by have e0:=((hH.rest 4 F4_).trans Z4_);have wz0:=(Cells.step CQ.out hH.glob 0 _ rfl).1;have wz1:=(Cells.step CQ.out hH.glob 1 _ rfl).1;have wz2:=(Cells.step CQ.out hH.glob 2 _ rfl).1;have wz3:=(Cells.step CQ.out hH.glob 3 _ rfl).1;have wz4:=(Cells.step CQ.out hH.glob 4 _ rfl).1;have wz5:=(Cells.step CQ.out hH.glob 5 _ rfl).1;have wz6:=(Cells.step CQ.out hH.glob 6 _ rfl).1;exact ⟨.agg #[.int .i64 y0,.int .i64 y1,.int .i64 y2,.int .i64 y3,.int .i64 y4,.int .i64 y5,.int .i64 y6],by simp [execOp,go_sem,e0,wz0,wz1,wz2,wz3,wz4,wz5,wz6],(r7 _ _).mpr rfl⟩))) ?_
   refine RV.cc 8 (RV.dg rfl d5 (fun v w h=>by rw [r5] at h;exact h) (by simp) (RV.dc (fun γ L a w hH hl hA=>by have e0:=hH.got d7 r7 (hA ⟨7,.data⟩ (by simp) rfl);refine ⟨7,#[.agg #[.int .i64 y0,.int .i64 y1,.int .i64 y2,.int .i64 y3,.int .i64 y4,.int .i64 y5,.int .i64 y6]],by simp [go_sem,e0],Calls.mono (HQ.out w) ?_⟩;rintro e w2 ⟨t,q,rfl,ht,hq,hb⟩;exact ⟨_,rfl,(r8 _ _).mpr ⟨t,q,rfl,ht,hq⟩,fun j v _ h=>K j v _ _ h,b_step hH.glob hb⟩))) ?_
   refine RV.cc 9 (RV.dg rfl d5 (fun v w h=>by rw [r5] at h;exact h) (by simp) (RV.dp (fun γ v L w hl h=>h) (fun γ L a w hH hl hA=>by have e0:=((hH.rest 5 F5_).trans Z5_);have wz0:=(Cells.step CY.out hH.glob 0 _ rfl).1;have wz1:=(Cells.step CY.out hH.glob 1 _ rfl).1;have wz2:=(Cells.step CY.out hH.glob 2 _ rfl).1;exact ⟨.agg #[.int .i64 tx,.int .i64 ty,.int .i64 tz],by simp [execOp,go_sem,e0,wz0,wz1,wz2],(r9 _ _).mpr rfl⟩))) ?_
   refine RV.cc 10 (RV.dg rfl d5 (fun v w h=>by rw [r5] at h;exact h) (by simp) (RV.dc (fun γ L a w hH hl hA=>by have e0:=hH.got d6 r6 (hA ⟨6,.data⟩ (by simp) rfl);have l1:L 8 = true:=hA ⟨8,.data⟩ (by simp) rfl;have e1:=hH.slot 8 32 d8 l1;have g1:=hH.holds 8 l1;rw [r8] at g1;have e2:=hH.got d9 r9 (hA ⟨9,.data⟩ (by simp) rfl);obtain ⟨t,q,hv1,ht,hq⟩:=g1;rw [hv1] at e1;refine ⟨8,#[.agg #[.slice op Ps.length cp,.slice oa As.length ca,.slice oe Es.length ce,.int .i64 sr],poseV t q,.agg #[.int .i64 tx,.int .i64 ty,.int .i64 tz]],by simp [go_sem,e0,e1,e2],Calls.mono (HPP.out t q w (LP.out.below hH.glob) (LA.out.below hH.glob) (LE.out.below hH.glob)) ?_⟩;rintro e w2 ⟨rfl,hb⟩;exact ⟨_,rfl,(r10 _ _).mpr rfl,fun j v _ h=>K j v _ _ h,b_step hH.glob hb⟩))) ?_
   refine RV.cc 11 (RV.dp (fun γ v L w hl h=>h) (fun γ L a w hH hl hA=>by have e0:=hH.got d5 r5 (hA ⟨5,.data⟩ (by simp) rfl);have e1:=hH.got d10 r10 (hA ⟨10,.data⟩ (by simp) rfl);exact ⟨.bool true,by simp [execOp,go_sem,e0,e1],(r11 _ _).mpr rfl⟩)) ?_
   refine RV.cc 12 (RV.dp (fun γ v L w hl h=>h) (fun γ L a w hH hl hA=>by have e0:=hH.got d11 r11 (hA ⟨11,.data⟩ (by simp) rfl);exact ⟨.bool true,by simp [execOp,go_sem,e0],(r12 _ _).mpr rfl⟩)) ?_
   exact RV.AllDo.nil
  ·intro γ a5 w5 L9 hL hLo hH
   have ha:=RV.held_act hH hL (by kernel_rfl) (by kernel_rfl)
   have hG:=hH.glob
   have e12_:γ 12 = .bool true:=hH.holds 12 (hL 12 (by decide))
   rw [ha]
   clear ha hH hL hLo
   simp only [RV.putAll,Act.put,List.setIfInBounds_toArray,List.set_cons_zero,List.set_cons_succ,Nat.zero_add,Nat.reduceAdd]
   rw [e12_]
   have HE:Hid _:=b_step hD.out hG
   clear hG
   go_wp2_with (fail)
   go_ret
   exact ⟨rfl,HE.out⟩
theorem lifted (os:Os) (started:os.Started) (H:Type) (enc:TypeId × Value->H) :
  ReturnsInHanded {} Tryz.checked os 3 .any (Rows.poseRightSpec.pre6 enc Tryz.prog Tryz.f3 Rows.poseRightRow.domain false) (Rows.poseRightSpec.post enc Tryz.prog Tryz.f3 false true false false):=by
 refine returnsInHanded_of_change (C:=Tryz.checked) own started (by kernel_rfl) Tryz.func3
  (ChangeSpec.witness6 (enc:=enc) (C:=Tryz.checked) false ⟨#[],#[.agg #[.int .i64 0,.int .i64 0,.int .i64 0,.int .i64 0,.int .i64 0,.slice none 0 0],.agg #[.int .i64 0,.int .i64 0,.int .i64 0,.int .i64 0,.int .i64 0,.int .i64 0,.int .i64 0],.agg #[.int .i64 0,.int .i64 0,.int .i64 0]],[]⟩ 8 (by kernel_rfl) (by kernel_rfl) (by kernel_rfl) (by kernel_rfl)) ?_
 intro W base args ds gs before hval0 hW hcnd _
 have hval:∀ (j:Nat) t v,Tryz.f3.params[j]? = some t->args[j]? = some v->Value.okWide Tryz.prog W .any base t v:=hval0
 have hW':=hW
 obtain ⟨p,q,hA0,hV,rfl,hfz,hnd⟩:=hW
 have hA:DataW.TrodAll enc Tryz.prog W 0 (fun _=>true) true Tryz.f3.params.toList args.toList ds p:=hA0
 rw [Tryz.params3] at hA hval
 obtain ⟨v0,vs0,d0,ds0,p0,q0,hargs,rfl,rfl,h0,r0⟩:=trodAll_cons hA
 obtain ⟨v1,vs1,d1,ds1,p1,q1,rfl,rfl,rfl,h1,r1⟩:=trodAll_cons r0
 obtain ⟨v2,vs2,d2,ds2,p2,q2,rfl,rfl,rfl,h2,r2⟩:=trodAll_cons r1
 obtain ⟨rfl,rfl,rfl⟩:=trodAll_nil r2
 obtain rfl:args = #[v0,v1,v2]:=by cases args;simp_all
 obtain ⟨rfl,rfl⟩:=trodVars_none hV
 have k0:=h0
 have lt0:∀ x ∈ p0,x.block < W.heap.size:=by obtain ⟨m,hm⟩:=k0;exact DataW.trod_lt m _ _ _ hm
 obtain ⟨k,rr,x,y,z,o,L,c,rfl,hL,hF,wk,wr,wx,wy,wz⟩:=open_raw2 (hval 0 26 v0 rfl rfl) h0
 have bk_:=bounds_i64 wk
 have br_:=bounds_i64 wr
 have bx_:=bounds_i64 wx
 have by_:=bounds_i64 wy
 have bz_:=bounds_i64 wz
 have k1:=h1
 have lt1:∀ x ∈ p1,x.block < W.heap.size:=by obtain ⟨m,hm⟩:=k1;exact DataW.trod_lt m _ _ _ hm
 obtain ⟨y0,y1,y2,y3,y4,y5,y6,rfl,n0,n1,n2,n3,n4,n5,n6⟩:=open_rawp (hval 1 31 v1 rfl rfl) h1
 have bq0_:=bounds_i64 n0
 have bq1_:=bounds_i64 n1
 have bq2_:=bounds_i64 n2
 have bq3_:=bounds_i64 n3
 have bq4_:=bounds_i64 n4
 have bq5_:=bounds_i64 n5
 have bq6_:=bounds_i64 n6
 have k2:=h2
 have lt2:∀ x ∈ p2,x.block < W.heap.size:=by obtain ⟨m,hm⟩:=k2;exact DataW.trod_lt m _ _ _ hm
 obtain ⟨tx,ty,tz,rfl,_,_,nx,ny,nz⟩:=open_point (hval 2 23 v2 rfl rfl) h2
 have btx_:=bounds_i64 nx
 have bty_:=bounds_i64 ny
 have btz_:=bounds_i64 nz
 clear hA0 hval0
 refine (walk k rr x y z o L c y0 y1 y2 y3 y4 y5 y6 tx ty tz W hL hF (by omega) (by omega) (by omega) (by omega) (by omega) (by omega) (by omega) (by omega) (by omega) (by omega) (by omega) (by omega) (by omega) (by omega) (by omega)).mono fun e W' ⟨he,bel⟩=>?_
 subst he
 exact ⟨_,rfl,_,_,_,[],_,[],hW',trodAll_mk1 (shut_bool Tryz.underlying4 _),(trodAll_cons_mk (Below.trod laidOut (by kernel_rfl) (of_decide_eq_true (by kernel_rfl)) k0 bel lt0) (trodAll_cons_mk (Below.trod laidOut (by kernel_rfl) (of_decide_eq_true (by kernel_rfl)) k1 bel lt1) (trodAll_cons_mk (Below.trod laidOut (by kernel_rfl) (of_decide_eq_true (by kernel_rfl)) k2 bel lt2) trodAll_mk0))),rfl,bel.frame _,fun h=>by cases h⟩
theorem over:Rows.poseRightRow.holds Tryz.pinned (OpenSpec.ofChange Rows.poseRightSpec):=
 OpenClaim.holds_of_wide 3 Tryz.f3 rfl rfl rfl rfl rfl rfl rfl ⟨rfl,rfl,rfl,rfl,rfl⟩ rfl rfl rfl rfl rfl (by kernel_rfl) Tryz.func3 (by kernel_rfl)
  (of_decide_eq_true (by kernel_rfl)) (by unfold Func.isWrapper;first | (rw [if_pos (by decide +kernel)];kernel_rfl) | (rw [if_neg (by decide +kernel)];exact ⟨rfl,rfl⟩))
  (fun os started H enc _=>lifted os started H enc)
end poseRight
theorem poseRight_holds:Rows.PoseRightSaid:=poseRight.over
#print axioms poseRight_holds
end
end Go.Proofs.YtlhhmiicpddjoaaGreat
