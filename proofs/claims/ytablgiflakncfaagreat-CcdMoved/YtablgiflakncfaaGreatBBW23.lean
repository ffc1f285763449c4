/- A raw shape at a raw pose, by the document: a core that may be told apart. -/
import Derived.Test.YtablgiflakncfaaGreatBBW0
import Derived.Test.YtablgiflakncfaaGreatBBW22
import Derived.Test.YtablgiflakncfaaGreatBBW9
import Derived.Test.YtablgiflakncfaaGreatBBW5
import Derived.Test.YtablgiflakncfaaGreatBBW13
import Derived.Test.YtablgiflakncfaaGreatBBW6
import Derived.Test.YtablgiflakncfaaGreatBBW12
import Derived.Deep.Onto
import Derived.Test.YtablgiflakncfaaGreatProg
import Derived.Lib.SmallJoins
import Derived.OpenShut
import Derived.Deep.Slices
set_option maxHeartbeats 8000000
set_option maxRecDepth 100000
set_option linter.unusedVariables false
namespace Go.Proofs.YtablgiflakncfaaGreat
section
open Go.RowKit Go.Shelf
theorem placed_any (k rr x y z:Int) (pv:Value) (Ls:List Pt) (y0 y1 y2 y3 y4 y5 y6:Int) (w0:World) (bk:-9223372036854775808 <= k/\k <= 9223372036854775807) (br:-9223372036854775808 <= rr/\rr <= 9223372036854775807) (bx:-9223372036854775808 <= x/\x <= 9223372036854775807) (by_:-9223372036854775808 <= y/\y <= 9223372036854775807) (bz:-9223372036854775808 <= z/\z <= 9223372036854775807) (hv:Lies w0 pv Ls) (hfit:∀ p ∈ Ls,p.fits) (bq0:-9223372036854775808 <= y0/\y0 <= 9223372036854775807) (bq1:-9223372036854775808 <= y1/\y1 <= 9223372036854775807) (bq2:-9223372036854775808 <= y2/\y2 <= 9223372036854775807) (bq3:-9223372036854775808 <= y3/\y3 <= 9223372036854775807) (bq4:-9223372036854775808 <= y4/\y4 <= 9223372036854775807) (bq5:-9223372036854775808 <= y5/\y5 <= 9223372036854775807) (bq6:-9223372036854775808 <= y6/\y6 <= 9223372036854775807) :
  Calls Tryz.prog 29 #[.agg #[.int .i64 k,.int .i64 rr,.int .i64 x,.int .i64 y,.int .i64 z,pv],.agg #[.int .i64 y0,.int .i64 y1,.int .i64 y2,.int .i64 y3,.int .i64 y4,.int .i64 y5,.int .i64 y6]] w0 fun e W=>∃ (c:Cr) (vp va ve:Value),e = .returned (.agg #[vp,va,ve,.int .i64 c.r])/\Hid (Three w0 W vp va ve c.P c.A c.E)/\mayN c/\(1 <= c.r/\c.r <= 16384):=by
 have HR:Hid _:=fun w' (h:Below w0.heap.size w0 w')=>right_any k rr x y z pv Ls w' bk br bx by_ bz (hv.below h) hfit
 have HQ:Hid _:=fun w'=>right6_any y0 y1 y2 y3 y4 y5 y6 w' bq0 bq1 bq2 bq3 bq4 bq5 bq6
 clear bk br bx by_ bz bq0 bq1 bq2 bq3 bq4 bq5 bq6 hfit
 obtain ⟨po,pc,rfl,_⟩:=hv.form
 clear hv
 obtain ⟨W1,hW1⟩:∃ W1,W1 = ((w0.alloc (.cells #[.int .i64 k,.int .i64 rr,.int .i64 x,.int .i64 y,.int .i64 z,.slice po Ls.length pc] 67)).alloc (.cells #[.int .i64 y0,.int .i64 y1,.int .i64 y2,.int .i64 y3,.int .i64 y4,.int .i64 y5,.int .i64 y6] 71)).alloc (.cells #[.slice none 0 0,.slice none 0 0,.slice none 0 0,.int .i64 0] 28):=⟨_,rfl⟩
 have B1:Hid (Cells W1 w0.heap.size [.int .i64 k,.int .i64 rr,.int .i64 x,.int .i64 y,.int .i64 z,.slice po Ls.length pc]):=by show Cells _ _ _;rw [hW1];exact ((Cells.new w0 [.int .i64 k,.int .i64 rr,.int .i64 x,.int .i64 y,.int .i64 z,.slice po Ls.length pc] _).step (n_after _ _)).step (n_after _ _)
 have CQ:Hid (Cells W1 (w0.heap.size + 1) [.int .i64 y0,.int .i64 y1,.int .i64 y2,.int .i64 y3,.int .i64 y4,.int .i64 y5,.int .i64 y6]):=by show Cells _ _ _;rw [hW1];have h9:=(Cells.new (w0.alloc (.cells #[.int .i64 k,.int .i64 rr,.int .i64 x,.int .i64 y,.int .i64 z,.slice po Ls.length pc] 67)) [.int .i64 y0,.int .i64 y1,.int .i64 y2,.int .i64 y3,.int .i64 y4,.int .i64 y5,.int .i64 y6] 71).step (n_after _ (.cells #[.slice none 0 0,.slice none 0 0,.slice none 0 0,.int .i64 0] 28));rw [World.size_alloc] at h9;exact h9
 have CO:Hid (Cells W1 (w0.heap.size + 1 + 1) [.slice none 0 0,.slice none 0 0,.slice none 0 0,.int .i64 0]):=by show Cells _ _ _;rw [hW1];have h9:=Cells.new ((w0.alloc (.cells #[.int .i64 k,.int .i64 rr,.int .i64 x,.int .i64 y,.int .i64 z,.slice po Ls.length pc] 67)).alloc (.cells #[.int .i64 y0,.int .i64 y1,.int .i64 y2,.int .i64 y3,.int .i64 y4,.int .i64 y5,.int .i64 y6] 71)) [.slice none 0 0,.slice none 0 0,.slice none 0 0,.int .i64 0] 28;rw [World.size_alloc,World.size_alloc] at h9;exact h9
 have HB:Hid (Below w0.heap.size w0 W1):=by show Below _ _ _;rw [hW1];exact b_step (b_step (n_after _ _) (n_after _ _)) (n_after _ _)
 obtain ⟨rb,hrb⟩:∃ b,b = w0.heap.size:=⟨_,rfl⟩
 obtain ⟨qb,hqb⟩:∃ b,b = w0.heap.size + 1:=⟨_,rfl⟩
 obtain ⟨ob,hob⟩:∃ b,b = w0.heap.size + 1 + 1:=⟨_,rfl⟩
 rw [<- hob] at CO
 rw [<- hqb] at CQ
 rw [<- hrb] at B1
 have hob0:w0.heap.size <= ob:=by omega
 go_enter Tryz.func29,Tryz.ntmps29
 go_upto_region 1 with fail
 rw [<- hW1,<- hob,<- hqb,<- hrb]
 clear hW1 hrb hqb hob
 obtain ⟨x0,x1,x2,x3,x4,x5⟩:_/\_/\_/\_/\_/\_:=⟨(B1.out 0 _ rfl).1,(B1.out 1 _ rfl).1,(B1.out 2 _ rfl).1,(B1.out 3 _ rfl).1,(B1.out 4 _ rfl).1,(B1.out 5 _ rfl).1⟩
 go_wp2_with (fail)
 refine Calls.mono (HR.out _ HB.out) ?_
 rintro e V1 ⟨sh,u,rfl,hrow,hgd,_⟩
 have hb:=hrow.below
 have HC:Hid _:=rcore_any sh u V1 hrow.lies
 have CQ:Hid _:=Cells.step CQ.out hb
 have CO:Hid _:=Cells.step CO.out hb
 have HB:Hid _:=b_step HB.out hb
 have HGD:Hid _:=hgd
 clear hb x0 x1 x2 x3 x4 x5 B1 HR hrow hgd
 unfold Sh.v at HC
 go_wp2_with (fail)
 refine Calls.mono HC.out ?_
 rintro e V2 ⟨vp,va,ve,_,hok⟩
 obtain ⟨rfl,h3⟩:=hok HGD.out.ok
 have hb:=h3.below
 have CQ:Hid _:=Cells.step CQ.out hb
 have CO:Hid _:=Cells.step CO.out hb
 have HB:Hid _:=b_step HB.out hb
 obtain ⟨op,cp,rfl⟩:=rowp_form h3.rp
 obtain ⟨oa,ca,rfl⟩:=rowp_form h3.ra
 obtain ⟨oe,ce,rfl⟩:=rowp_form h3.re
 have LP:Hid _:=Lies.of_row h3.rp
 have LA:Hid _:=Lies.of_row h3.ra
 have LE:Hid _:=Lies.of_row h3.re
 clear hb h3 HC hok
 have HPn:Hid _:=gd_pts HGD.out
 have HPi:Hid _:=gd_in HGD.out
 have HAt:Hid (∀ p ∈ axesP sh,p ≠ Pt.O/\p.short = p):=(gd_axes HGD.out).1
 have HEt:Hid (∀ p ∈ edgesP sh,p ≠ Pt.O/\p.short = p):=(gd_edges HGD.out).1
 have HAl:Hid _:=gd_alen HGD.out
 have hPl:(ptsP sh).length < 1099511627776:=by have:=gd_len HGD.out;omega
 have HMY:Hid (∀ t q P2 A2 E2,Came t q (ptsP sh) (axesP sh) (edgesP sh) P2 A2 E2->mayN ⟨P2,A2,E2,sh.radius⟩):=fun t q P2 A2 E2 h=>came_near HGD.out h
 have HRR:Hid (1 <= sh.radius/\sh.radius <= 16384):=HGD.out.r
 generalize ptsP sh = Ps at *
 generalize axesP sh = As at *
 generalize edgesP sh = Es at *
 generalize sh.radius = sr at *
 clear HGD
 obtain ⟨X,hX⟩:∃ V,V = V2.alloc (.cells #[.slice op Ps.length cp,.slice oa As.length ca,.slice oe Es.length ce,.int .i64 sr] 28):=⟨_,rfl⟩
 obtain ⟨b4,hb4⟩:∃ b,b = V2.heap.size:=⟨_,rfl⟩
 have hbx:Below V2.heap.size V2 X:=by rw [hX];exact n_after _ _
 have CC:Hid (Cells X b4 [.slice op Ps.length cp,.slice oa As.length ca,.slice oe Es.length ce,.int .i64 sr]):=by show Cells _ _ _;rw [hX,hb4];exact Cells.new _ _ _
 go_upto_region 2 with fail
 rw [<- hX,<- hb4]
 have CQ:Hid _:=Cells.step CQ.out hbx
 have CO:Hid _:=Cells.step CO.out hbx
 have HB:Hid _:=b_step HB.out hbx
 have LP:Hid _:=LP.out.below hbx
 have LA:Hid _:=LA.out.below hbx
 have LE:Hid _:=LE.out.below hbx
 have hol:ob < X.heap.size:=Cells.lt CO.out
 clear hX hb4 hbx
 go_cut [7] from 15 to 21 (fun s7 wx=>∃ (P2 A2 E2:List Pt) (vp va ve:Value) (t:Pt) (q:Q4) (b8:Nat),s7 = .pointer (some ⟨b8,0,none⟩)/\Three X wx vp va ve P2 A2 E2/\Came t q Ps As Es P2 A2 E2/\Cells wx b8 [vp,va,ve,.int .i64 sr]/\Below X.heap.size X wx)
 case first =>
   refine RV.region_by2 (fun j v w=>match j with | 0=>v = .agg #[.slice op Ps.length cp,.slice oa As.length ca,.slice oe Es.length ce,.int .i64 sr] | 1=>v = .agg #[.int .i64 y0,.int .i64 y1,.int .i64 y2,.int .i64 y3,.int .i64 y4,.int .i64 y5,.int .i64 y6] | 2=>(fun v w=>∃ (t:Pt) (q:Q4),v = poseV t q/\t.inB 4398046511104 = true/\WM.Whole q.w q.x q.y q.z) v w | 3=>True | 4=>True | 5=>True | 6=>v = .bool true | 7=>True | 8=>True | 9=>v = .bool true | _=>True) (fun γ L w=>SG X sr Ps As Es (γ 2) (γ 3) (γ 4) (γ 5) (γ 7) (L 2) (L 3) (L 4) (L 5) (L 7) (L 8) w) (by kernel_rfl) (by kernel_rfl) (by kernel_rfl) (by kernel_rfl) ?_ ?_ ?_
   ·have b9:Below X.heap.size X X.drew:=(Below.refl _ _).drew;exact ⟨b9,(fun e=>by cases e),(fun e=>by cases e),(fun e=>by cases e),(fun e=>by cases e)⟩
   ·generalize hD:dstOf _ = D
    generalize hWA:waitsFor _ = WA
    generalize hZ:Act.mk _ _ = Z
    refine RV.AllDo.name ?_
    intro R hR
    have kn:RV.Kn R [.some (.agg #[.slice op Ps.length cp,.slice oa As.length ca,.slice oe Es.length ce,.int .i64 sr]),.some (.agg #[.int .i64 y0,.int .i64 y1,.int .i64 y2,.int .i64 y3,.int .i64 y4,.int .i64 y5,.int .i64 y6]),none,none,none,none,.some (.bool true),none,none,.some (.bool true)] 0:=by rw [hR];exact ⟨fun _ _=>Iff.rfl,fun _ _=>Iff.rfl,fun _ _=>Iff.rfl,fun _ _=>Iff.rfl,trivial⟩
    have T:=RV.kfacts [17,18,19,20,16,21,22,8,0,9] [(3,.pointer (some ⟨qb,0,none⟩)),(5,.pointer (some ⟨b4,0,none⟩))] hD hZ kn ⟨rfl,rfl,trivial⟩ (by kernel_rfl) (by kernel_rfl)
    simp only [RV.Outs,RV.Slots,Nat.reduceAdd] at T
    have r2:∀ v w,R 2 v w = ((fun v w=>∃ (t:Pt) (q:Q4),v = poseV t q/\t.inB 4398046511104 = true/\WM.Whole q.w q.x q.y q.z) v w):=fun v w=>by rw [hR];rfl
    have r3:∀ v w,R 3 v w = (True):=fun v w=>by rw [hR];rfl
    have r4:∀ v w,R 4 v w = (True):=fun v w=>by rw [hR];rfl
    have r5:∀ v w,R 5 v w = (True):=fun v w=>by rw [hR];rfl
    have r7:∀ v w,R 7 v w = (True):=fun v w=>by rw [hR];rfl
    have r8:∀ v w,R 8 v w = (True):=fun v w=>by rw [hR];rfl
    have K:∀ j v w w',R j v w->R j v w':=by rw [hR];intro j v w w' h;exact h
    iterate 2 first
     | (refine RV.cc _ (RV.pk kn T (fun γ v L w hl h=>by rw [RV.upd_ne γ (i:=_) (j:=2) _ (by decide),RV.upd_ne γ (i:=_) (j:=3) _ (by decide),RV.upd_ne γ (i:=_) (j:=4) _ (by decide),RV.upd_ne γ (i:=_) (j:=5) _ (by decide),RV.upd_ne γ (i:=_) (j:=7) _ (by decide),RV.mn (L:=L) (i:=_) (j:=2) (by decide),RV.mn (L:=L) (i:=_) (j:=3) (by decide),RV.mn (L:=L) (i:=_) (j:=4) (by decide),RV.mn (L:=L) (i:=_) (j:=5) (by decide),RV.mn (L:=L) (i:=_) (j:=7) (by decide),RV.mn (L:=L) (i:=_) (j:=8) (by decide)];exact h) (fun γ L a w hH hl h9 k9=>⟨_,?_,rfl⟩)) ?_;· have wz0:=(Cells.step CC.out hH.glob.be 0 _ rfl).1;have wz1:=(Cells.step CC.out hH.glob.be 1 _ rfl).1;have wz2:=(Cells.step CC.out hH.glob.be 2 _ rfl).1;have wz3:=(Cells.step CC.out hH.glob.be 3 _ rfl).1;simp [execOp,go_sem,h9,wz0,wz1,wz2,wz3])
     | (refine RV.cc _ (RV.pk kn T (fun γ v L w hl h=>by rw [RV.upd_ne γ (i:=_) (j:=2) _ (by decide),RV.upd_ne γ (i:=_) (j:=3) _ (by decide),RV.upd_ne γ (i:=_) (j:=4) _ (by decide),RV.upd_ne γ (i:=_) (j:=5) _ (by decide),RV.upd_ne γ (i:=_) (j:=7) _ (by decide),RV.mn (L:=L) (i:=_) (j:=2) (by decide),RV.mn (L:=L) (i:=_) (j:=3) (by decide),RV.mn (L:=L) (i:=_) (j:=4) (by decide),RV.mn (L:=L) (i:=_) (j:=5) (by decide),RV.mn (L:=L) (i:=_) (j:=7) (by decide),RV.mn (L:=L) (i:=_) (j:=8) (by decide)];exact h) (fun γ L a w hH hl h9 k9=>⟨_,?_,rfl⟩)) ?_;· have wz0:=(Cells.step CQ.out hH.glob.be 0 _ rfl).1;have wz1:=(Cells.step CQ.out hH.glob.be 1 _ rfl).1;have wz2:=(Cells.step CQ.out hH.glob.be 2 _ rfl).1;have wz3:=(Cells.step CQ.out hH.glob.be 3 _ rfl).1;have wz4:=(Cells.step CQ.out hH.glob.be 4 _ rfl).1;have wz5:=(Cells.step CQ.out hH.glob.be 5 _ rfl).1;have wz6:=(Cells.step CQ.out hH.glob.be 6 _ rfl).1;simp [execOp,go_sem,h9,wz0,wz1,wz2,wz3,wz4,wz5,wz6])
    refine RV.cc _ (RV.dc (fun γ L a w hH hl hA=>by have h9:=T _ _ γ L a w hH;have k9:=hA;simp [Region.binds] at k9;refine ⟨58,#[.agg #[.int .i64 y0,.int .i64 y1,.int .i64 y2,.int .i64 y3,.int .i64 y4,.int .i64 y5,.int .i64 y6]],by simp [go_sem,h9,k9],Calls.mono (HQ.out w) ?_⟩;rintro e w2 ⟨t,q,rfl,ht,hq,hb⟩;refine ⟨_,rfl,(r2 _ _).mpr ⟨t,q,rfl,ht,hq⟩,fun j v _ h=>K j v _ _ h,?_⟩;rw [RV.upd_ne γ (i:=2) (j:=3) _ (by decide),RV.upd_ne γ (i:=2) (j:=4) _ (by decide),RV.upd_ne γ (i:=2) (j:=5) _ (by decide),RV.upd_ne γ (i:=2) (j:=7) _ (by decide),RV.mn (L:=L) (i:=2) (j:=3) (by decide),RV.mn (L:=L) (i:=2) (j:=4) (by decide),RV.mn (L:=L) (i:=2) (j:=5) (by decide),RV.mn (L:=L) (i:=2) (j:=7) (by decide),RV.mn (L:=L) (i:=2) (j:=8) (by decide)];have h9:=hH.glob.step hb;exact ⟨h9.be,h9.t3,h9.m4,h9.m5,h9.pd⟩)) ?_
    refine RV.cc _ (RV.dc (fun γ L a w hH hl hA=>by have h9:=T _ _ γ L a w hH;have k9:=hA;simp [Region.binds] at k9;have l1:L 2 = true:=hA ⟨2,.data⟩ (by simp) rfl;have e1:=hH.slot 2 18 (by rw [<- hD];rfl) l1;have g1:=hH.holds 2 l1;rw [r2] at g1;have h4:L 4 = false:=RV.ny hH (RV.wt (j:=4) (i:=3) hWA (by kernel_rfl)) hl;have h5:L 5 = false:=RV.ny hH (RV.wt (j:=5) (i:=4) hWA (by kernel_rfl)) h4;have h8:L 8 = false:=RV.ny hH (RV.wt (j:=8) (i:=5) hWA (by kernel_rfl)) h5;obtain ⟨t,q,hv1,ht,hq⟩:=g1;rw [hv1] at e1;refine ⟨57,#[.agg #[.slice op Ps.length cp,.slice oa As.length ca,.slice oe Es.length ce,.int .i64 sr],poseV t q],by simp [go_sem,e1,h9,k9],Calls.mono (rplace_right t q (inB_mono ht (by decide)) hq Ps As Es HPn.out HPi.out HAt.out HEt.out hPl HAl.out.1 HAl.out.2 sr _ _ _ _ _ _ w (LP.out.below hH.glob.be) (LA.out.below hH.glob.be) (LE.out.below hH.glob.be)) ?_⟩;rintro e w2 ⟨Px2,Ax2,Ex2,vp,va,ve,rfl,hT,hC⟩;refine ⟨_,rfl,(r3 _ _).mpr trivial,fun j v _ h=>K j v _ _ h,?_⟩;rw [RV.upd_ne γ (i:=3) (j:=2) _ (by decide),RV.upd_ne γ (i:=3) (j:=4) _ (by decide),RV.upd_ne γ (i:=3) (j:=5) _ (by decide),RV.upd_ne γ (i:=3) (j:=7) _ (by decide),RV.mn (L:=L) (i:=3) (j:=2) (by decide),RV.mn (L:=L) (i:=3) (j:=4) (by decide),RV.mn (L:=L) (i:=3) (j:=5) (by decide),RV.mn (L:=L) (i:=3) (j:=7) (by decide),RV.mn (L:=L) (i:=3) (j:=8) (by decide),RV.upd_self,RV.more_self];exact hH.glob.got h4 h5 h8 hT hC)) ?_
    refine RV.cc _ (RV.does_step (fun γ L a w hH hl hA=>by have l0:L 3 = true:=hA ⟨3,.data⟩ (by simp) rfl;have e0:=hH.slot 3 19 (by rw [<- hD];rfl) l0;exact ⟨γ 3,w,by simp [execOp,go_sem,e0],(r4 _ _).mpr trivial,fun j v _ h=>K j v _ _ h,by rw [RV.upd_ne γ (i:=4) (j:=2) _ (by decide),RV.upd_ne γ (i:=4) (j:=3) _ (by decide),RV.upd_ne γ (i:=4) (j:=5) _ (by decide),RV.upd_ne γ (i:=4) (j:=7) _ (by decide),RV.mn (L:=L) (i:=4) (j:=2) (by decide),RV.mn (L:=L) (i:=4) (j:=3) (by decide),RV.mn (L:=L) (i:=4) (j:=5) (by decide),RV.mn (L:=L) (i:=4) (j:=7) (by decide),RV.mn (L:=L) (i:=4) (j:=8) (by decide),RV.upd_self];exact ⟨hH.glob.be,hH.glob.t3,fun _=>rfl,hH.glob.m5,hH.glob.pd⟩⟩)) ?_
    refine RV.cc _ (RV.does_step (fun γ L a w hH hl hA=>by have l0:L 4 = true:=hA ⟨4,.data⟩ (by simp) rfl;have e0:=hH.slot 4 15 (by rw [<- hD];rfl) l0;have l3:L 3 = true:=hH.closed 4 3 (RV.wt (j:=4) (i:=3) hWA (by kernel_rfl)) l0;obtain ⟨Px2,Ax2,Ex2,vp,va,ve,t,q,x1,x2,x3⟩:=hH.glob.t3 l3;have x4:=hH.glob.m4 l0;rw [x4,x1] at e0;refine ⟨.agg #[vp,va,ve,.int .i64 sr],w,by simp [execOp,go_sem,e0],(r5 _ _).mpr trivial,fun j v _ h=>K j v _ _ h,?_⟩;rw [RV.upd_ne γ (i:=5) (j:=2) _ (by decide),RV.upd_ne γ (i:=5) (j:=3) _ (by decide),RV.upd_ne γ (i:=5) (j:=4) _ (by decide),RV.upd_ne γ (i:=5) (j:=7) _ (by decide),RV.mn (L:=L) (i:=5) (j:=2) (by decide),RV.mn (L:=L) (i:=5) (j:=3) (by decide),RV.mn (L:=L) (i:=5) (j:=4) (by decide),RV.mn (L:=L) (i:=5) (j:=7) (by decide),RV.mn (L:=L) (i:=5) (j:=8) (by decide),RV.upd_self];exact ⟨hH.glob.be,hH.glob.t3,hH.glob.m4,fun _=>by rw [x1];rfl,hH.glob.pd⟩)) ?_
    refine RV.cc _ (RV.does_step (fun γ L a w hH hl hA=>by have l0:L 4 = true:=hA ⟨4,.data⟩ (by simp) rfl;have e0:=hH.slot 4 15 (by rw [<- hD];rfl) l0;have l3:L 3 = true:=hH.closed 4 3 (RV.wt (j:=4) (i:=3) hWA (by kernel_rfl)) l0;obtain ⟨Px2,Ax2,Ex2,vp,va,ve,t,q,x1,x2,x3⟩:=hH.glob.t3 l3;have x4:=hH.glob.m4 l0;rw [x4,x1] at e0;refine ⟨.bool true,w,by simp [execOp,go_sem,e0],((kn.at (k:=6) rfl _ _).2 rfl),fun j v _ h=>K j v _ _ h,?_⟩;rw [RV.upd_ne γ (i:=6) (j:=2) _ (by decide),RV.upd_ne γ (i:=6) (j:=3) _ (by decide),RV.upd_ne γ (i:=6) (j:=4) _ (by decide),RV.upd_ne γ (i:=6) (j:=5) _ (by decide),RV.upd_ne γ (i:=6) (j:=7) _ (by decide),RV.mn (L:=L) (i:=6) (j:=2) (by decide),RV.mn (L:=L) (i:=6) (j:=3) (by decide),RV.mn (L:=L) (i:=6) (j:=4) (by decide),RV.mn (L:=L) (i:=6) (j:=5) (by decide),RV.mn (L:=L) (i:=6) (j:=7) (by decide),RV.mn (L:=L) (i:=6) (j:=8) (by decide)];exact hH.glob)) ?_
    refine RV.cc _ (RV.does_step (fun γ L a w hH hl hA=>by have h8:L 8 = false:=RV.ny hH (RV.wt (j:=8) (i:=7) hWA (by kernel_rfl)) hl;refine ⟨.pointer (some ⟨w.heap.size,0,none⟩),w.alloc (.cells #[.slice none 0 0,.slice none 0 0,.slice none 0 0,.int .i64 0] 28),by simp [execOp,go_sem],(r7 _ _).mpr trivial,fun j v _ h=>K j v _ _ h,?_⟩;rw [RV.upd_ne γ (i:=7) (j:=2) _ (by decide),RV.upd_ne γ (i:=7) (j:=3) _ (by decide),RV.upd_ne γ (i:=7) (j:=4) _ (by decide),RV.upd_ne γ (i:=7) (j:=5) _ (by decide),RV.mn (L:=L) (i:=7) (j:=2) (by decide),RV.mn (L:=L) (i:=7) (j:=3) (by decide),RV.mn (L:=L) (i:=7) (j:=4) (by decide),RV.mn (L:=L) (i:=7) (j:=5) (by decide),RV.mn (L:=L) (i:=7) (j:=8) (by decide),RV.upd_self,RV.more_self];exact hH.glob.made h8)) ?_
    refine RV.cc _ (RV.does_store (fun γ L a w hH hl hA=>by have l0:L 7 = true:=hA ⟨7,.data⟩ (by simp) rfl;have l1:L 5 = true:=hA ⟨5,.data⟩ (by simp) rfl;have e0:=hH.slot 7 7 (by rw [<- hD];rfl) l0;have e1:=hH.slot 5 20 (by rw [<- hD];rfl) l1;have hG:=hH.glob;have m4:L 4 = true:=hH.closed 5 4 (RV.wt (j:=5) (i:=4) hWA (by kernel_rfl)) l1;have m3:L 3 = true:=hH.closed 4 3 (RV.wt (j:=4) (i:=3) hWA (by kernel_rfl)) m4;rw [m3,l0] at hG;obtain ⟨Px2,Ax2,Ex2,vp,va,ve,t,q,x1,x2,x3⟩:=hG.t3 rfl;obtain ⟨b,cs,k1,k2,k3,k4,_⟩:=hG.pd rfl;have x5:=hG.m5 l1;rw [x1] at x5;obtain ⟨o5_,c5_,rfl⟩:=rowp_form x2.rp;obtain ⟨o9_,c9_,rfl⟩:=rowp_form x2.ra;obtain ⟨o13_,c13_,rfl⟩:=rowp_form x2.re;rw [k1] at e0;rw [x5] at e1;have q9:=hG.fill k1 k2 k3 k4 x1;obtain ⟨q0,q1,q2,q3,rfl⟩:=arr4' k4;have wz0:w.cell? ⟨b,0,none⟩ = some q0:=(by simp [World.cell?,k3]);have wz1:w.cell? ⟨b,1,none⟩ = some q1:=(by simp [World.cell?,k3]);have wz2:w.cell? ⟨b,2,none⟩ = some q2:=(by simp [World.cell?,k3]);have wz3:w.cell? ⟨b,3,none⟩ = some q3:=(by simp [World.cell?,k3]);have zf:∀ o,w.frozen? ⟨b,o,none⟩ = false:=fun o=>(by simp [World.frozen?,k3]);refine ⟨_,by simp [execOp,go_sem,e0,e1,cp0,wz0,wz1,wz2,wz3,zf];rfl,(r8 _ _).mpr trivial,fun j v _ h=>K j v _ _ h,?_⟩;rw [RV.upd_ne γ (i:=8) (j:=2) _ (by decide),RV.upd_ne γ (i:=8) (j:=3) _ (by decide),RV.upd_ne γ (i:=8) (j:=4) _ (by decide),RV.upd_ne γ (i:=8) (j:=5) _ (by decide),RV.upd_ne γ (i:=8) (j:=7) _ (by decide),RV.mn (L:=L) (i:=8) (j:=2) (by decide),RV.mn (L:=L) (i:=8) (j:=3) (by decide),RV.mn (L:=L) (i:=8) (j:=4) (by decide),RV.mn (L:=L) (i:=8) (j:=5) (by decide),RV.mn (L:=L) (i:=8) (j:=7) (by decide),RV.more_self,m3,l0];exact q9)) ?_
    (refine RV.cc _ (RV.pk kn T (fun γ v L w hl h=>by rw [RV.upd_ne γ (i:=_) (j:=2) _ (by decide),RV.upd_ne γ (i:=_) (j:=3) _ (by decide),RV.upd_ne γ (i:=_) (j:=4) _ (by decide),RV.upd_ne γ (i:=_) (j:=5) _ (by decide),RV.upd_ne γ (i:=_) (j:=7) _ (by decide),RV.mn (L:=L) (i:=_) (j:=2) (by decide),RV.mn (L:=L) (i:=_) (j:=3) (by decide),RV.mn (L:=L) (i:=_) (j:=4) (by decide),RV.mn (L:=L) (i:=_) (j:=5) (by decide),RV.mn (L:=L) (i:=_) (j:=7) (by decide),RV.mn (L:=L) (i:=_) (j:=8) (by decide)];exact h) (fun γ L a w hH hl h9 k9=>⟨_,?_,rfl⟩)) ?_;· simp [Region.binds] at k9;simp [execOp,go_sem,h9,k9])
    exact RV.AllDo.nil
   ·intro γ a5 w5 L9 hL hLo hH
    have ha:=RV.held_act hH hL (by kernel_rfl) (by kernel_rfl)
    have hG:=hH.glob
    rw [hL 2 (by decide),hL 3 (by decide),hL 4 (by decide),hL 5 (by decide),hL 7 (by decide),hL 8 (by decide)] at hG
    obtain ⟨Px2,Ax2,Ex2,vp,va,ve,t,q,x1,x2,x3⟩:=hG.t3 rfl
    obtain ⟨b8,cs,k1,k2,k3,k4,k5⟩:=hG.pd rfl
    have e6:γ 6 = .bool true:=hH.holds 6 (hL 6 (by decide))
    have e9_:γ 9 = .bool true:=hH.holds 9 (hL 9 (by decide))
    rw [(k5 rfl).2 _ _ _ x1] at k3
    rw [ha]
    clear ha hH hL hLo k5
    simp only [RV.putAll,Act.put,List.setIfInBounds_toArray,List.set_cons_zero,List.set_cons_succ,Nat.zero_add,Nat.reduceAdd]
    rw [k1,e9_,e6]
    have C8:Cells w5 b8 [vp,va,ve,.int .i64 sr]:=fun i v e=>⟨by simp [World.cell?,k3];exact e,by simp [World.frozen?,k3]⟩
    obtain ⟨o5_,c5_,rfl⟩:=rowp_form x2.rp
    obtain ⟨o9_,c9_,rfl⟩:=rowp_form x2.ra
    obtain ⟨o13_,c13_,rfl⟩:=rowp_form x2.re
    have hB5:=hG.be
    clear hG k1 k3 k4 x1
    go_wp2_with (fail)
    go_meet
    case rel=>exact ⟨Px2,Ax2,Ex2,_,_,_,t,q,b8,rfl,x2,x3,C8,hB5⟩
 case rest =>
  obtain ⟨P2,A2,E2,vp,va,ve,t,q,b8,rfl,hT,hC,h8,hbw⟩:=hcut
  have HM:Hid _:=HMY.out _ _ _ _ _ hC
  have CO:Hid _:=Cells.step CO.out hbw
  have hr:∀ {u:Value} {n:Nat} {xs:List Value},wc.ownsRow X.heap.size 45 3 u n xs->u.ownBlock ≠ some ob:=fun h9 e=>by have:=(h9.lt ob e).1;omega
  have HT:Hid _:=(hT.up HB.out).set hob0 (hr hT.rp) (hr hT.ra) (hr hT.re) vp va ve (.int .i64 sr)
  obtain ⟨o7,c7,rfl⟩:=rowp_form hT.rp
  obtain ⟨o8,c8,rfl⟩:=rowp_form hT.ra
  obtain ⟨o9,c9,rfl⟩:=rowp_form hT.re
  obtain ⟨m0,m1,m2,m3⟩:_/\_/\_/\_:=⟨(h8 0 _ rfl).1,(h8 1 _ rfl).1,(h8 2 _ rfl).1,(h8 3 _ rfl).1⟩
  obtain ⟨z0,zf0⟩:=CO.out 0 _ rfl
  obtain ⟨z1,zf1⟩:=CO.out 1 _ rfl
  obtain ⟨z2,zf2⟩:=CO.out 2 _ rfl
  obtain ⟨z3,zf3⟩:=CO.out 3 _ rfl
  unfold set4 at HT
  clear hT hC h8 hbw hr HMY LP LA LE CC CQ HB HQ
  go_wp2_with (fail)
  exact bodyPost_ret (v:=.agg #[.slice o7 P2.length c7,.slice o8 A2.length c8,.slice o9 E2.length c9,.int .i64 sr]) (by simp [results,Tryz.results29,go_sem,z0,z1,z2,z3]) rfl ⟨⟨P2,A2,E2,sr⟩,_,_,_,rfl,HT,HM.out,HRR.out⟩
end
section
open Go.RowKit Go.Shelf
structure CoK where
 p:Value
 a:Value
 e:Value
 c:Cr
def CoK.O:CoK:=⟨.slice none 0 0,.slice none 0 0,.slice none 0 0,nilC⟩
def flK:List CoK->List Value
 | []=>[]
 | k :: r=>k.p :: k.a :: k.e :: .int .i64 k.c.r :: flK r
theorem flK_append:∀ A B:List CoK,flK (A ++ B) = flK A ++ flK B
 | [],B=>rfl
 | p :: r,B=>by simp [flK,flK_append r B]
theorem flK_at:∀ (K:List CoK) (i:Nat),i < K.length->(flK K)[i * 4]? = some (K[i]?.getD CoK.O).p/\(flK K)[i * 4 + 1]? = some (K[i]?.getD CoK.O).a/\(flK K)[i * 4 + 2]? = some (K[i]?.getD CoK.O).e/\(flK K)[i * 4 + 3]? = some (.int .i64 (K[i]?.getD CoK.O).c.r)
 | [],i,h=>by simp at h
 | k :: r,0,_=>⟨rfl,rfl,rfl,rfl⟩
 | k :: r,i + 1,h=>by
  have:=flK_at r i (by simpa using h)
  rw [show (i + 1) * 4 = i * 4 + 4 by omega]
  simpa [flK] using this
def CoK.lie (W:World) (k:CoK):Prop:=Lies W k.p k.c.P/\Lies W k.a k.c.A/\Lies W k.e k.c.E
def farB (b:Option Nat) (v:Value) (L:List Pt):Prop:=∀ q n c,v = .slice (some q) n c->L ≠ []->b ≠ some q.block
def highB (n:Nat) (v:Value) (L:List Pt):Prop:=∀ q k c,v = .slice (some q) k c->L ≠ []->n <= q.block
def CoK.high (n:Nat) (k:CoK):Prop:=highB n k.p k.c.P/\highB n k.a k.c.A/\highB n k.e k.c.E
def CoK.far (b:Option Nat) (k:CoK):Prop:=farB b k.p k.c.P/\farB b k.a k.c.A/\farB b k.e k.c.E
theorem lies_far {A B:World} {v:Value} {L:List Pt} {row:Option Nat} (h:Lies A v L) (hg:A.grownBy B row) (hf:farB row v L):Lies B v L:=by
 obtain ⟨o,cap,e,h1,h2,h3⟩:=h.form
 refine ⟨o,cap,e,h1,h2,fun i hi=>?_⟩
 obtain ⟨g,off,e',a,b,c⟩:=h3 i hi
 have hn:row ≠ some g:=hf ⟨g,off,none⟩ _ _ (by rw [e,e']) (fun e0=>by rw [e0] at hi;simp at hi)
 have hbl:B.heap[g]? = A.heap[g]?:=hg.block g (World.block_lt_of_cell? _ _ a) (fun e=>hn e.symm)
 exact ⟨g,off,e',(World.cell?_of_block (w:=A) hbl).trans a,(World.cell?_of_block (w:=A) hbl).trans b,(World.cell?_of_block (w:=A) hbl).trans c⟩
theorem CoK.lie.below {w W:World} {k:CoK} (h:k.lie w) (hb:Below w.heap.size w W):k.lie W:=⟨h.1.below hb,h.2.1.below hb,h.2.2.below hb⟩
theorem far_same {A:World} {v:Value} {L:List Pt} (h:Lies A v L) {x y:Option Nat} (hf:farB x v L) (hs:y = x \/ y = some A.heap.size):farB y v L:=fun q n c e h0=>by
 rcases hs with rfl | rfl
 ·exact hf q n c e h0
 ·subst e
  have h1:=Lies.lt h h0
  intro e
  have:=Option.some.inj e
  omega
theorem CoK.high.mono {m n:Nat} {k:CoK} (h:k.high n) (hm:m <= n):k.high m:=⟨fun q n c e h0=>Nat.le_trans hm (h.1 q n c e h0),fun q n c e h0=>Nat.le_trans hm (h.2.1 q n c e h0),fun q n c e h0=>Nat.le_trans hm (h.2.2 q n c e h0)⟩
structure LK (n:Nat) (V:World) (u:Value) (K:List CoK):Prop where
 row:V.ownsRow n 28 4 u K.length (flK K)
 lie:∀ k ∈ K,k.lie V
 far:∀ k ∈ K,k.far u.ownBlock
 high:∀ k ∈ K,k.high n
theorem LK.start (n:Nat) (w:World):LK n w (.slice none 0 0) []:=⟨World.ownsRow_nil _ _ _ _,fun k h=>(by cases h),fun k h=>(by cases h),fun k h=>(by cases h)⟩
theorem LK.step {n:Nat} {V X:World} {u:Value} {K:List CoK} (h:LK n V u K) (hb:Below V.heap.size V X):LK n X u K:=
 ⟨own_below h.row hb,fun k hk=>(h.lie k hk).below hb,h.far,h.high⟩
theorem LK.app {n:Nat} {V X:World} {u u':Value} {K:List CoK} (h:LK n V u K) {k:CoK} (hk:k.lie V) (hf:k.far u.ownBlock) (hh:k.high n) (hr:X.ownsRow n 28 4 u' (K.length + 1) (flK K ++ [k.p,k.a,k.e,.int .i64 k.c.r])) (hg:V.grownBy X u.ownBlock) (hs:u'.ownBlock = u.ownBlock \/ u'.ownBlock = some V.heap.size):LK n X u' (K ++ [k]):=by
 have key:∀ c ∈ K ++ [k],(c.lie V/\c.far u.ownBlock)/\c.high n:=fun c hc=>by
  rcases List.mem_append.1 hc with hc | hc
  ·exact ⟨⟨h.lie c hc,h.far c hc⟩,h.high c hc⟩
  ·rw [List.mem_singleton.1 hc];exact ⟨⟨hk,hf⟩,hh⟩
 refine ⟨?_,fun c hc=>?_,fun c hc=>?_,fun c hc=>(key c hc).2⟩
 ·rw [flK_append,List.length_append];exact hr
 ·obtain ⟨⟨a1,a2,a3⟩,f1,f2,f3⟩:=(key c hc).1
  exact ⟨lies_far a1 hg f1,lies_far a2 hg f2,lies_far a3 hg f3⟩
 ·obtain ⟨⟨a1,a2,a3⟩,f1,f2,f3⟩:=(key c hc).1
  exact ⟨far_same a1 f1 hs,far_same a2 f2 hs,far_same a3 f3 hs⟩
theorem cr_map {K:List CoK} {i:Nat}:cr (K.map CoK.c) i = (K[i]?.getD CoK.O).c:=by
 unfold cr
 rw [List.getElem?_map]
 cases K[i]? <;> rfl
theorem LK.liesC {n:Nat} {V:World} {u:Value} {K:List CoK} (h:LK n V u K):LiesC V u (K.map CoK.c):=by
 refine ⟨?_⟩
 rw [List.length_map]
 rcases h.row.2 with ⟨rfl,h0⟩ | ⟨g,cap,cur,rfl,hb,hg,h1,h2,h3,h4⟩
 ·exact ⟨none,0,by rw [h0],by omega,by omega,fun i hi=>by omega⟩
 ·refine ⟨_,cap,rfl,h1,by unfold maxLen at h2;omega,fun i hi=>?_⟩
  obtain ⟨f0,f1,f2,f3⟩:=flK_at K i hi
  have hm:(K[i]?.getD CoK.O) ∈ K:=by rw [List.getElem?_eq_getElem hi];exact List.getElem_mem hi
  obtain ⟨l1,l2,l3⟩:=h.lie _ hm
  have at4:∀ j,j < 4->V.cell? ⟨g,0 + i * 4 + j,none⟩ = (flK K)[i * 4 + j]?:=fun j hj=>by rw [Nat.zero_add];exact h.row.cellAt (i * 4 + j) (by omega)
  rw [cr_map]
  exact ⟨g,0,_,_,_,rfl,(at4 0 (by decide)).trans f0,(at4 1 (by decide)).trans f1,(at4 2 (by decide)).trans f2,(at4 3 (by decide)).trans f3,l1,l2,l3⟩
theorem LK.kept {n:Nat} {V X:World} {u:Value} {K:List CoK} (h:LK n V u K) (hk:∀ b,n <= b->b < V.heap.size->X.heap[b]? = V.heap[b]?):LK n X u K:=by
 have hl:∀ v L,Lies V v L->highB n v L->Lies X v L:=fun v L h hh=>by
  obtain ⟨o,cap,e,h1,h2,h3⟩:=h.form
  refine ⟨o,cap,e,h1,h2,fun i hi=>?_⟩
  obtain ⟨g,off,e',a,b,c⟩:=h3 i hi
  have hn:=hh ⟨g,off,none⟩ _ _ (by rw [e,e']) (fun e0=>by rw [e0] at hi;simp at hi)
  have hbl:X.heap[g]? = V.heap[g]?:=hk g hn (World.block_lt_of_cell? _ _ a)
  exact ⟨g,off,e',(World.cell?_of_block (w:=V) hbl).trans a,(World.cell?_of_block (w:=V) hbl).trans b,(World.cell?_of_block (w:=V) hbl).trans c⟩
 refine ⟨⟨h.row.1,?_⟩,fun k hk=>⟨hl _ _ (h.lie k hk).1 (h.high k hk).1,hl _ _ (h.lie k hk).2.1 (h.high k hk).2.1,hl _ _ (h.lie k hk).2.2 (h.high k hk).2.2⟩,h.far,h.high⟩
 rcases h.row.2 with hn | ⟨g,cap,cur,rfl,hg,hgg,rest⟩
 ·exact .inl hn
 ·exact .inr ⟨g,cap,cur,rfl,hg,(hk g hg (Array.getElem?_eq_some_iff.1 hgg).1).trans hgg,rest⟩
theorem LK.mono {m n:Nat} {V:World} {u:Value} {K:List CoK} (h:LK n V u K) (hm:m <= n):LK m V u K:=
 ⟨World.ownsRow.mono h.row hm,h.lie,h.far,fun k hk=>(h.high k hk).mono hm⟩
theorem setcells_grown:∀ (vs:List Value) (o b:Nat) (w:World),w.grownBy (w.setCells b o vs) (some b)
 | [],o,b,w=>below_grown (Below.refl _ w) _
 | v :: r,o,b,w=>G.trans (show w.grownBy (w.setCell ⟨b,o,none⟩ v) (some b) from ⟨rfl,rfl,rfl,by simp [World.setCell],fun k _ hk=>Below.heap_setCell _ _ _ k (fun e=>hk (by rw [e]))⟩) (setcells_grown r (o + 1) b _)
structure RB (V:World) (T ra rb:Nat) (xa xb:Array Value) (w:World):Prop where
 os:w.os = V.os
 tape:w.tape = V.tape
 output:w.output = V.output
 size:V.heap.size <= w.heap.size
 keep:∀ k,k < V.heap.size->k ≠ ra->k ≠ rb->w.heap[k]? = V.heap[k]?
 ha:w.heap[ra]? = some (.cells xa T (0,0))
 hb:w.heap[rb]? = some (.cells xb T (0,0))
theorem RB.at {V w:World} {T ra rb:Nat} {xa xb:Array Value} (h:RB V T ra rb xa xb w) {p:Addr} {v:Value} (hc:V.cell? p = some v) (n1:p.block ≠ ra) (n2:p.block ≠ rb):w.cell? p = some v:=
 (World.cell?_of_block (w:=V) (h.keep p.block (World.block_lt_of_cell? _ _ hc) n1 n2)).trans hc
theorem RB.a {V w:World} {T ra rb:Nat} {xa xb:Array Value} (h:RB V T ra rb xa xb w) (hne:ra ≠ rb) (fin:Array Value) (hs:xa.size = fin.size):RB V T ra rb fin xb (w.setCells ra 0 fin.toList):=by
 have hg:=setcells_grown fin.toList 0 ra w
 exact ⟨hg.os.trans h.os,hg.tape.trans h.tape,hg.output.trans h.output,Nat.le_trans h.size hg.size,fun k hk n1 n2=>(hg.block k (Nat.lt_of_lt_of_le hk h.size) (fun e=>n1 (by simpa using e))).trans (h.keep k hk n1 n2),heap_all h.ha hs,(hg.block rb (Array.getElem?_eq_some_iff.1 h.hb).1 (fun e=>hne (by simpa using e.symm))).trans h.hb⟩
theorem RB.b {V w:World} {T ra rb:Nat} {xa xb:Array Value} (h:RB V T ra rb xa xb w) (hne:ra ≠ rb) (fin:Array Value) (hs:xb.size = fin.size):RB V T ra rb xa fin (w.setCells rb 0 fin.toList):=by
 have hg:=setcells_grown fin.toList 0 rb w
 exact ⟨hg.os.trans h.os,hg.tape.trans h.tape,hg.output.trans h.output,Nat.le_trans h.size hg.size,fun k hk n1 n2=>(hg.block k (Nat.lt_of_lt_of_le hk h.size) (fun e=>n2 (by simpa using e))).trans (h.keep k hk n1 n2),(hg.block ra (Array.getElem?_eq_some_iff.1 h.ha).1 (fun e=>hne (by simpa using e))).trans h.ha,heap_all h.hb hs⟩
theorem RB.below {V w w0:World} {T ra rb:Nat} {xa xb:Array Value} (h:RB V T ra rb xa xb w) (hb:Below w0.heap.size w0 V) (h1:w0.heap.size <= ra) (h2:w0.heap.size <= rb):Below w0.heap.size w0 w:=
 hb.trans ⟨h.os,h.tape,h.output,h.size,fun k hk=>h.keep k (Nat.lt_of_lt_of_le hk hb.size) (by omega) (by omega)⟩
theorem three_far {A W:World} {k:CoK} (h:Three A W k.p k.a k.e k.c.P k.c.A k.c.E):k.lie W/\k.high A.heap.size/\∀ b,b < A.heap.size->k.far (some b):=by
 have hi:∀ {v:Value} {L:List Pt},W.ownsRow A.heap.size 45 3 v L.length (fl3 L)->highB A.heap.size v L/\∀ b,b < A.heap.size->farB (some b) v L:=fun {v L} h=>by
  have key:∀ q n c,v = .slice (some q) n c->A.heap.size <= q.block:=fun q n c e=>by subst e;exact (h.lt q.block rfl).1
  exact ⟨fun q n c e _=>key q n c e,fun b hb q n c e _ e'=>by have:=key q n c e;cases e';omega⟩
 exact ⟨⟨Lies.of_row h.rp,Lies.of_row h.ra,Lies.of_row h.re⟩,⟨(hi h.rp).1,(hi h.ra).1,(hi h.re).1⟩,fun b hb=>⟨(hi h.rp).2 b hb,(hi h.ra).2 b hb,(hi h.re).2 b hb⟩⟩
def CoK.cells (k:CoK):Array Value:=#[k.p,k.a,k.e,.int .i64 k.c.r]
structure KG (V:World) (ob:Option Nat) (Ok:Cr->Prop) (ic ib st:Nat) (γ:Nat->Value) (L:Nat->Bool) (w:World):Prop where
 below:Below V.heap.size V w
 told:L ic = true->∃ k:CoK,γ ic = .agg k.cells/\k.lie w/\k.far ob/\k.high V.heap.size/\Ok k.c/\(L ib = true->∀ b,γ ib = .pointer (some ⟨b,0,none⟩)->k.far (some b))
 box:L ib = true->∃ b cs,γ ib = .pointer (some ⟨b,0,none⟩)/\V.heap.size <= b/\w.heap[b]? = some (.cells cs 28 (0,0))/\cs.size = 4/\(L st = true->γ ic = .agg cs)
section
variable {V w w':World} {ob:Option Nat} {Ok:Cr->Prop} {ic ib st:Nat} {γ:Nat->Value} {L:Nat->Bool}
theorem KG.start:KG V ob Ok ic ib st (fun _=>undef) (fun _=>false) V.drew:=⟨(Below.refl _ V).drew,fun h=>(by cases h),fun h=>(by cases h)⟩
theorem KG.other (h:KG V ob Ok ic ib st γ L w) {k:Nat} (v:Value) (h1:ic ≠ k) (h2:ib ≠ k) (h3:st ≠ k):KG V ob Ok ic ib st (RV.upd γ k v) (more L k) w:=by
 refine ⟨h.below,fun l=>?_,fun l=>?_⟩
 ·rw [RV.mn h1] at l
  rw [RV.upd_ne γ v h1,RV.upd_ne γ v h2,RV.mn h2]
  exact h.told l
 ·rw [RV.mn h2] at l
  rw [RV.upd_ne γ v h1,RV.upd_ne γ v h2,RV.mn h3]
  exact h.box l
theorem KG.come (h:KG V ob Ok ic ib st γ L w) (hst:L st = false) {k:CoK} (h3:Three w w' k.p k.a k.e k.c.P k.c.A k.c.E) (ho:∀ b,ob = some b->b < V.heap.size) (hok:Ok k.c) (h1:ic ≠ ib) (h2:ic ≠ st):KG V ob Ok ic ib st (RV.upd γ ic (.agg k.cells)) (more L ic) w':=by
 obtain ⟨l1,l2,l3⟩:=three_far h3
 have hfo:k.far ob:=by
  cases ob with
  | none=>exact ⟨fun q n c e _ e'=>(by cases e'),fun q n c e _ e'=>(by cases e'),fun q n c e _ e'=>(by cases e')⟩
  | some b=>exact l3 b (Nat.lt_of_lt_of_le (ho b rfl) h.below.size)
 have hh:k.high V.heap.size:=⟨fun q n c e h0=>Nat.le_trans h.below.size (l2.1 q n c e h0),fun q n c e h0=>Nat.le_trans h.below.size (l2.2.1 q n c e h0),fun q n c e h0=>Nat.le_trans h.below.size (l2.2.2 q n c e h0)⟩
 refine ⟨b_step h.below h3.below,fun _=>⟨k,RV.upd_self _ _ _,l1,hfo,hh,hok,fun l b e=>?_⟩,fun l=>?_⟩
 ·rw [RV.mn (Ne.symm h1)] at l
  rw [RV.upd_ne γ _ (Ne.symm h1)] at e
  obtain ⟨b',cs,e1,e2,e3,_⟩:=h.box l
  rw [e1] at e
  cases e
  exact l3 b (Array.getElem?_eq_some_iff.1 e3).1
 ·rw [RV.mn (Ne.symm h1)] at l
  rw [RV.upd_ne γ _ (Ne.symm h1),RV.mn (Ne.symm h2)]
  obtain ⟨b',cs,e1,e2,e3,e4,_⟩:=h.box l
  exact ⟨b',cs,e1,e2,(h3.below.block b' (Array.getElem?_eq_some_iff.1 e3).1).trans e3,e4,fun l'=>by rw [hst] at l';cases l'⟩
theorem KG.made (h:KG V ob Ok ic ib st γ L w) (hst:L st = false) {z:Array Value} (hz:z.size = 4) (h1:ic ≠ ib) (h2:ib ≠ st):KG V ob Ok ic ib st (RV.upd γ ib (.pointer (some ⟨w.heap.size,0,none⟩))) (more L ib) (w.alloc (.cells z 28)):=by
 have hb:=n_after w (.cells z 28)
 refine ⟨b_step h.below hb,fun l=>?_,fun _=>⟨w.heap.size,z,RV.upd_self _ _ _,h.below.size,heap_alloc_new w _,hz,fun l'=>by rw [RV.mn (Ne.symm h2),hst] at l';cases l'⟩⟩
 rw [RV.mn h1] at l
 rw [RV.upd_ne γ _ h1]
 obtain ⟨k,e1,e2,e3,e4,e5,_⟩:=h.told l
 have hf:∀ v L,Lies w v L->farB (some w.heap.size) v L:=fun v L hl=>far_same hl (x:=none) (fun q n c e _ e'=>by cases e') (Or.inr rfl)
 refine ⟨k,e1,e2.below hb,e3,e4,e5,fun _ b e=>?_⟩
 rw [RV.upd_self] at e
 cases e
 exact ⟨hf _ _ e2.1,hf _ _ e2.2.1,hf _ _ e2.2.2⟩
theorem lies_one {W:World} {v:Value} {L:List Pt} (h:Lies W v L):v.oneCell' = true:=by
 obtain ⟨o,c,rfl,_⟩:=h.form
 rfl
theorem KG.spot (h:KG V ob Ok ic ib st γ L w) (l1:L ic = true) (l2:L ib = true):∃ (k:CoK) (b:Nat),γ ic = .agg k.cells/\γ ib = .pointer (some ⟨b,0,none⟩)/\w.there b 0 4/\k.cells.all (·.oneCell') = true/\(ic ≠ st->ib ≠ st->∀ v,KG V ob Ok ic ib st (RV.upd γ st v) (more L st) (w.setCells b 0 k.cells.toList)):=by
 obtain ⟨k,e1,e2,e3,e4,e5,e6⟩:=h.told l1
 obtain ⟨b,cs,f1,f2,f3,f4,_⟩:=h.box l2
 have hall:k.cells.all (·.oneCell') = true:=by
  unfold CoK.cells
  simp only [List.all_toArray,List.all_cons,List.all_nil,lies_one e2.1,lies_one e2.2.1,lies_one e2.2.2,Bool.and_true]
  rfl
 have hall2:k.cells.size = 4:=rfl
 refine ⟨k,b,e1,f1,there_all f3 f4,hall,fun h1 h2 v=>?_⟩
 have hg:w.grownBy (w.setCells b 0 k.cells.toList) (some b):=setcells_grown k.cells.toList 0 b w
 have hf:=e6 l2 b f1
 refine ⟨h.below.trans (sets_keeps f2 _ _ _),fun _=>?_,fun _=>?_⟩
 ·rw [RV.upd_ne γ v h1,RV.upd_ne γ v h2,RV.mn h2]
  exact ⟨k,e1,⟨lies_far e2.1 hg hf.1,lies_far e2.2.1 hg hf.2.1,lies_far e2.2.2 hg hf.2.2⟩,e3,e4,e5,e6⟩
 ·rw [RV.upd_ne γ v h1,RV.upd_ne γ v h2]
  exact ⟨b,k.cells,f1,f2,heap_all f3 f4,rfl,fun _=>e1⟩
theorem KG.done (h:KG V ob Ok ic ib st γ L w) (l1:L ic = true) (l2:L ib = true) (l3:L st = true):∃ (k:CoK) (b:Nat),γ ib = .pointer (some ⟨b,0,none⟩)/\V.heap.size <= b/\CW w b [k.p,k.a,k.e,.int .i64 k.c.r]/\k.lie w/\k.far ob/\k.high V.heap.size/\Ok k.c/\Below V.heap.size V w/\γ ic = .agg k.cells:=by
 obtain ⟨k,e1,e2,e3,e4,e5,e6⟩:=h.told l1
 obtain ⟨b,cs,f1,f2,f3,f4,f5⟩:=h.box l2
 have e7:=f5 l3
 rw [e1] at e7
 cases e7
 exact ⟨k,b,f1,f2,cw_all f3,e2,e3,e4,e5,h.below,e1⟩
end
end
section
open Go.ChangeShapes Go.WideShapes Go.Deep Go.Joins
section
variable {H:Type} {enc:TypeId × Value->H} {w:World} {base:Nat} {spare:Nat->Bool} {held:Bool}
theorem lit_of {n:Nat} {c:Value} {y:DataW H × List MemPlace} (h:DataW.trod enc Tryz.prog w base spare held n 3 [c] = some y):∃ x:Int,c = .int .i64 x/\y = (.lit (.int .i64 x),[])/\(Lit.int .i64 x).wf = true:=by
 obtain ⟨x,h1,h2,h3⟩:=DataW.trod_int Tryz.underlying3 h
 simp at h1
 exact ⟨x,h1,h2,h3⟩
end
end
section
open Go.ChangeShapes Go.WideShapes Go.Deep Go.Joins
theorem points_of {H:Type} {enc:TypeId × Value->H} {W:World} {base:Nat} {spare:Nat->Bool} {held:Bool} {a:Option Addr} {len cap fuel:Nat} {x:DataW H × List MemPlace}
  (h:DataW.trod enc Tryz.prog W base spare held fuel 26 [.slice a len cap] = some x):∃ L:List Pt,L.length = len/\Lies W (.slice a len cap) L/\∀ p ∈ L,p.fits:=by
 rcases Deep.open_slice Tryz.underlying26 h with ⟨hcs,_⟩ | ⟨y,l,c,m,n,D,Pl,hcs,_,hl,hm,hmm,_,hx⟩
 ·simp at hcs
  obtain ⟨rfl,rfl,rfl⟩:=hcs
  exact ⟨[],rfl,⟨none,0,rfl,by simp,by omega,fun i hi=>by simp at hi⟩,by simp⟩
 ·simp at hcs
  obtain ⟨rfl,rfl,rfl⟩:=hcs
  unfold maxLen at hm
  have hlm:len <= m:=by rw [hmm];split <;> omega
  have hc3:Tryz.prog.cellsOf 45 = 3:=by kernel_rfl
  have hc1:Tryz.prog.cellsOf 3 = 1:=by kernel_rfl
  have each:∀ i,i < len->∃ q:Pt,(W.cell? ((y.add (i * 3)).add 0) = some (.int .i64 q.x)/\W.cell? ((y.add (i * 3)).add 1) = some (.int .i64 q.y)/\W.cell? ((y.add (i * 3)).add 2) = some (.int .i64 q.z))/\q.fits:=by
   intro i hi
   obtain ⟨cs',hcells,ht⟩:=hx i (by omega)
   rw [hc3] at hcells
   obtain ⟨_,hlen,hcell⟩:=World.cells?_some hcells
   obtain ⟨xs,k,_,_,_,hxl,hel⟩:=DataW.trod_struct Tryz.underlying45 ht
   have get:∀ (v:Value) (j:Nat),((cs'.drop j).take 1) = [v]->cs'[j]? = some v:=fun v j h=>by
    have h2:((cs'.drop j).take 1)[0]? = some v:=by rw [h];rfl
    simpa [List.getElem?_take,List.getElem?_drop] using h2
   have some_of:∀ j,j < 3->∃ z,xs[j]? = some z:=fun j hj=>⟨_,List.getElem?_eq_getElem (by rw [hxl];exact hj)⟩
   have e0:=hel 0 _ rfl
   have e1:=hel 1 _ rfl
   have e2:=hel 2 _ rfl
   obtain ⟨z0,hz0⟩:=some_of 0 (by omega)
   obtain ⟨z1,hz1⟩:=some_of 1 (by omega)
   obtain ⟨z2,hz2⟩:=some_of 2 (by omega)
   rw [hz0] at e0
   rw [hz1] at e1
   rw [hz2] at e2
   obtain ⟨p,hp,_,wp⟩:=DataW.trod_int Tryz.underlying3 e0
   obtain ⟨q,hq,_,wq⟩:=DataW.trod_int Tryz.underlying3 e1
   obtain ⟨r,hr,_,wr⟩:=DataW.trod_int Tryz.underlying3 e2
   have hp2:(cs'.drop 0).take (Tryz.prog.cellsOf 3) = [.int .i64 p]:=hp
   have hq2:(cs'.drop 1).take (Tryz.prog.cellsOf 3) = [.int .i64 q]:=hq
   have hr2:(cs'.drop 2).take (Tryz.prog.cellsOf 3) = [.int .i64 r]:=hr
   rw [hc1] at hp2 hq2 hr2
   have b0:=bounds_i64 wp
   have b1:=bounds_i64 wq
   have b2:=bounds_i64 wr
   exact ⟨⟨p,q,r⟩,⟨(hcell 0 (by omega)).trans (get _ 0 hp2),(hcell 1 (by omega)).trans (get _ 1 hq2),(hcell 2 (by omega)).trans (get _ 2 hr2)⟩,⟨by dsimp only;omega,by dsimp only;omega⟩,⟨by dsimp only;omega,by dsimp only;omega⟩,⟨by dsimp only;omega,by dsimp only;omega⟩⟩
  have ch:∃ (l:Nat->Pt),∀ i,i < len->(W.cell? ((y.add (i * 3)).add 0) = some (.int .i64 (l i).x)/\W.cell? ((y.add (i * 3)).add 1) = some (.int .i64 (l i).y)/\W.cell? ((y.add (i * 3)).add 2) = some (.int .i64 (l i).z))/\(l i).fits:=by
   refine ⟨fun i=>if h:i < len then (each i h).choose else Pt.O,fun i hi=>?_⟩
   simp only [dif_pos hi]
   exact (each i hi).choose_spec
  obtain ⟨l,hall⟩:=ch
  have hln:((List.range len).map l).length = len:=by simp
  have hpt:∀ i,i < len->pt ((List.range len).map l) i = l i:=fun i hi=>by unfold pt;simp [hi]
  refine ⟨(List.range len).map l,hln,⟨some y,cap,by rw [hln],by rw [hln];exact hl,by omega,fun i hi=>?_⟩,fun p hp=>?_⟩
  ·rw [hln] at hi
   obtain ⟨b,off,spot⟩:=y
   obtain ⟨⟨h0,h1,h2⟩,_⟩:=hall i hi
   have hs:spot = none:=by simpa [Addr.add] using World.cell?_spot (hall 0 (by omega)).1.1
   subst hs
   have ad:∀ i j,((⟨b,off,none⟩:Addr).add (i * 3)).add j = ⟨b,off + i * 3 + j,none⟩:=fun i j=>by
    unfold Addr.add
    split <;> split <;> simp_all
   rw [ad] at h0 h1 h2
   exact ⟨b,off,rfl,by rw [hpt i hi];exact h0,by rw [hpt i hi];exact h1,by rw [hpt i hi];exact h2⟩
  ·rw [List.mem_map] at hp
   obtain ⟨i,hi,rfl⟩:=hp
   exact (hall i (by simpa using hi)).2
end
section
open Go.ChangeShapes Go.WideShapes Go.Deep Go.Joins
section
variable {H:Type} {enc:TypeId × Value->H} {w:World} {base:Nat} {spare:Nat->Bool} {held:Bool}
theorem vec_of {n:Nat} {u0 u1 u2:Value} {z:DataW H × List MemPlace} (h:DataW.trod enc Tryz.prog w base spare held n 23 [u0,u1,u2] = some z):∃ x0 x1 x2:Int,u0 = .int .i64 x0/\u1 = .int .i64 x1/\u2 = .int .i64 x2/\(Lit.int .i64 x0).wf = true/\(Lit.int .i64 x1).wf = true/\(Lit.int .i64 x2).wf = true:=by
 have hc1:Tryz.prog.cellsOf 3 = 1:=by kernel_rfl
 obtain ⟨ys,m,_,_,_,hyl,hey⟩:=DataW.trod_struct Tryz.underlying23 h
 have some_y:∀ j,j < 3->∃ z,ys[j]? = some z:=fun j hj=>⟨_,List.getElem?_eq_getElem (by rw [hyl];exact hj)⟩
 obtain ⟨y0,hy0⟩:=some_y 0 (by omega)
 have g0:=hey 0 _ rfl
 rw [hy0] at g0
 have p0:DataW.trod enc Tryz.prog w base spare held m 3 [u0] = some y0:=by have this:DataW.trod enc Tryz.prog w base spare held m 3 (([u0,u1,u2].drop 0).take (Tryz.prog.cellsOf 3)) = some y0:=g0;rw [hc1] at this;exact this
 obtain ⟨y1,hy1⟩:=some_y 1 (by omega)
 have g1:=hey 1 _ rfl
 rw [hy1] at g1
 have p1:DataW.trod enc Tryz.prog w base spare held m 3 [u1] = some y1:=by have this:DataW.trod enc Tryz.prog w base spare held m 3 (([u0,u1,u2].drop 1).take (Tryz.prog.cellsOf 3)) = some y1:=g1;rw [hc1] at this;exact this
 obtain ⟨y2,hy2⟩:=some_y 2 (by omega)
 have g2:=hey 2 _ rfl
 rw [hy2] at g2
 have p2:DataW.trod enc Tryz.prog w base spare held m 3 [u2] = some y2:=by have this:DataW.trod enc Tryz.prog w base spare held m 3 (([u0,u1,u2].drop 2).take (Tryz.prog.cellsOf 3)) = some y2:=g2;rw [hc1] at this;exact this
 obtain ⟨x0,rfl,_,k0⟩:=lit_of p0
 obtain ⟨x1,rfl,_,k1⟩:=lit_of p1
 obtain ⟨x2,rfl,_,k2⟩:=lit_of p2
 exact ⟨x0,x1,x2,rfl,rfl,rfl,k0,k1,k2⟩
theorem quat_of {n:Nat} {u0 u1 u2 u3:Value} {z:DataW H × List MemPlace} (h:DataW.trod enc Tryz.prog w base spare held n 69 [u0,u1,u2,u3] = some z):∃ x0 x1 x2 x3:Int,u0 = .int .i64 x0/\u1 = .int .i64 x1/\u2 = .int .i64 x2/\u3 = .int .i64 x3/\(Lit.int .i64 x0).wf = true/\(Lit.int .i64 x1).wf = true/\(Lit.int .i64 x2).wf = true/\(Lit.int .i64 x3).wf = true:=by
 have hc1:Tryz.prog.cellsOf 3 = 1:=by kernel_rfl
 obtain ⟨ys,m,_,_,_,hyl,hey⟩:=DataW.trod_struct Tryz.underlying69 h
 have some_y:∀ j,j < 4->∃ z,ys[j]? = some z:=fun j hj=>⟨_,List.getElem?_eq_getElem (by rw [hyl];exact hj)⟩
 obtain ⟨y0,hy0⟩:=some_y 0 (by omega)
 have g0:=hey 0 _ rfl
 rw [hy0] at g0
 have p0:DataW.trod enc Tryz.prog w base spare held m 3 [u0] = some y0:=by have this:DataW.trod enc Tryz.prog w base spare held m 3 (([u0,u1,u2,u3].drop 0).take (Tryz.prog.cellsOf 3)) = some y0:=g0;rw [hc1] at this;exact this
 obtain ⟨y1,hy1⟩:=some_y 1 (by omega)
 have g1:=hey 1 _ rfl
 rw [hy1] at g1
 have p1:DataW.trod enc Tryz.prog w base spare held m 3 [u1] = some y1:=by have this:DataW.trod enc Tryz.prog w base spare held m 3 (([u0,u1,u2,u3].drop 1).take (Tryz.prog.cellsOf 3)) = some y1:=g1;rw [hc1] at this;exact this
 obtain ⟨y2,hy2⟩:=some_y 2 (by omega)
 have g2:=hey 2 _ rfl
 rw [hy2] at g2
 have p2:DataW.trod enc Tryz.prog w base spare held m 3 [u2] = some y2:=by have this:DataW.trod enc Tryz.prog w base spare held m 3 (([u0,u1,u2,u3].drop 2).take (Tryz.prog.cellsOf 3)) = some y2:=g2;rw [hc1] at this;exact this
 obtain ⟨y3,hy3⟩:=some_y 3 (by omega)
 have g3:=hey 3 _ rfl
 rw [hy3] at g3
 have p3:DataW.trod enc Tryz.prog w base spare held m 3 [u3] = some y3:=by have this:DataW.trod enc Tryz.prog w base spare held m 3 (([u0,u1,u2,u3].drop 3).take (Tryz.prog.cellsOf 3)) = some y3:=g3;rw [hc1] at this;exact this
 obtain ⟨x0,rfl,_,k0⟩:=lit_of p0
 obtain ⟨x1,rfl,_,k1⟩:=lit_of p1
 obtain ⟨x2,rfl,_,k2⟩:=lit_of p2
 obtain ⟨x3,rfl,_,k3⟩:=lit_of p3
 exact ⟨x0,x1,x2,x3,rfl,rfl,rfl,rfl,k0,k1,k2,k3⟩
end
end
end Go.Proofs.YtablgiflakncfaaGreat
