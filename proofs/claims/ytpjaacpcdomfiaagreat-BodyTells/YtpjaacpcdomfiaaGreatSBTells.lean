/- BodyTells: bodies are checked, as fast, pushed, and moved as the document says, with the flag: any body. -/
import Derived.Test.YtpjaacpcdomfiaaGreatSBTells19
import Derived.Deep.CutRange
import Derived.Deep.LoopGhost
import Derived.Test.YtpjaacpcdomfiaaGreatRows
import Derived.ProofKit
import Derived.OpenShut
set_option maxHeartbeats 16000000
set_option maxRecDepth 100000
set_option linter.unusedVariables false
namespace Go.Proofs.YtpjaacpcdomfiaaGreat
section
namespace bodyTells
open Go.ChangeShapes Go.WideShapes Go.ChangeAt Go.RowKit Go.Shelf
theorem own:ownKnob Tryz.prog.godebug = none:=by kernel_rfl
theorem laidOut:laidOutB Tryz.prog = true:=by kernel_rfl
open Fx
theorem walk (b:Bd) (r:Rs) (o:Option Addr) (c:Nat) (am jm:V3) (tm:Int) (W0:World) (hL:Lies W0 (.slice o r.sh.pts.length c) r.sh.pts) (hb:∀ v ∈ ([b.p.x,b.p.y,b.p.z,b.l.x,b.l.y,b.l.z]:List Int),-9223372036854775808 <= v/\v <= 9223372036854775807) (ht:-9223372036854775808 <= tm/\tm <= 9223372036854775807) :
  Calls Tryz.prog 3 #[.agg (b.L (r.l (.slice o r.sh.pts.length c))).toArray,am.val,jm.val,.int .i64 tm] W0 fun e W=>e = .returned (.bool true)/\Below W0.heap.size W0 W:=by
 have hR:=r.rest (pv:=(.slice o r.sh.pts.length c)) rfl
 have hz:Hid _:=body_size hR.rest b
 obtain ⟨hp,hl⟩:=sml_of hb
 clear hb
 obtain ⟨V,hV⟩:∃ V,V = ((W0.alloc (.cells (b.L (r.l (.slice o r.sh.pts.length c))).toArray 35)).alloc (.cells #[.int .i64 am.x,.int .i64 am.y,.int .i64 am.z] 23)).alloc (.cells #[.int .i64 jm.x,.int .i64 jm.y,.int .i64 jm.z] 23):=⟨_,rfl⟩
 have Cb:CW V W0.heap.size (b.L (r.l (.slice o r.sh.pts.length c))):=by rw [hV];exact ((CW.new W0 (b.L (r.l (.slice o r.sh.pts.length c))) 35).step (n_after _ _)).step (n_after _ _)
 have Ca:CW V (W0.heap.size + 1) am.l:=by rw [hV];have h9:=(CW.new (W0.alloc (.cells (b.L (r.l (.slice o r.sh.pts.length c))).toArray 35)) am.l 23).step (n_after _ (.cells #[.int .i64 jm.x,.int .i64 jm.y,.int .i64 jm.z] 23));rw [World.size_alloc] at h9;exact h9
 have Cj:CW V (W0.heap.size + 1 + 1) jm.l:=by rw [hV];have h9:=CW.new ((W0.alloc (.cells (b.L (r.l (.slice o r.sh.pts.length c))).toArray 35)).alloc (.cells #[.int .i64 am.x,.int .i64 am.y,.int .i64 am.z] 23)) jm.l 23;simp only [World.size_alloc] at h9;exact h9
 have HBV:Hid (Below W0.heap.size W0 V):=by show Below _ _ _;rw [hV];exact b_step (b_step (n_after _ _) (n_after _ _)) (n_after _ _)
 obtain ⟨pj,hpj⟩:∃ p,p = W0.heap.size + 1 + 1:=⟨_,rfl⟩
 obtain ⟨pa,hpa⟩:∃ p,p = W0.heap.size + 1:=⟨_,rfl⟩
 obtain ⟨pb,hpb⟩:∃ p,p = W0.heap.size:=⟨_,rfl⟩
 rw [<- hpj] at Cj
 rw [<- hpa] at Ca
 rw [<- hpb] at Cb
 have o0:W0.heap.size <= pb:=by omega
 have o1:pb < pa:=by omega
 have o2:pa < pj:=by omega
 have HCb:Hid (CW _ _ _):=Cb
 have HCa:Hid (CW _ _ _):=Ca
 have HCj:Hid (CW _ _ _):=Cj
 clear Cb Ca Cj
 go_enter Tryz.func3,Tryz.ntmps3
 go_upto_region 1 with fail
 rw [<- hV,<- hpj,<- hpa,<- hpb]
 clear hV hpj hpa hpb
 go_wp2_with (fail)
 refine (awake12_any V).mono ?_
 rintro e V1 ⟨rfl,H1⟩
 have Cb:=HCb.out.step H1.out
 have Ca:=HCa.out.step H1.out
 have Cj:=HCj.out.step H1.out
 clear HCb HCa HCj
 have HBV:Hid (Below W0.heap.size W0 V1):=b_step HBV.out H1.out
 clear H1
 have o3:pj < V1.heap.size:=CW.lt Cj
 have c23:=(Cb 23 _ rfl).1
 have HCb:Hid (CW _ _ _):=Cb
 have HCa:Hid (CW _ _ _):=Ca
 have HCj:Hid (CW _ _ _):=Cj
 clear Cb Ca Cj
 by_cases h40:r.sh.pts.length <= 40
 ·have h41:((r.sh.pts.length:Nat):Int) <= 40:=by omega
  go_upto_region 4 with fail
  clear c23 h41
  refine RV.rs [.some (.bool true),.some (.bool false),.some (.bool false),.some (.agg (b.L (r.l (.slice o r.sh.pts.length c))).toArray),.some (.int .i64 (chkB b r.fr r.sh)),.some (.agg (b.L (r.l (.slice o r.sh.pts.length c))).toArray),.some (.int .i64 (chkB b r.fr r.sh)),.some (.bool false),.some (.bool false),.some (.bool false),.some (.agg (b.L (r.l (.slice o r.sh.pts.length c))).toArray),.some (.bool (!inV b.s 4398046511104)),.some (.agg (b.L (r.l (.slice o r.sh.pts.length c))).toArray),.some (.bool (!inV b.s 4398046511104)),.some (.bool false),.some (.bool false)] [27,28,29,30,31,32,33,34,35,36,37,38,39,40,41,42] [(9,.bool true),(4,.pointer (some ⟨pb,0,none⟩))] (fun γ L w=>Below V1.heap.size V1 w) ⟨rfl,rfl,trivial⟩ (Below.refl _ _).drew ?_ ?_
  ·intro D WA Z hD hWA hZ T
   simp only [RV.Outs,RV.Slots,Nat.reduceAdd] at T
   (refine RV.cc _ (RV.pu T (fun γ v L w hl h=>h) (fun γ L a w hH hl h9 k9=>⟨_,?_,rfl⟩)) ?_;· simp [execOp,go_sem,h9])
   iterate 2 (refine RV.cc _ (RV.pu T (fun γ v L w hl h=>h) (fun γ L a w hH hl h9 k9=>⟨_,?_,rfl⟩)) ?_;· simp [Region.binds] at k9;simp [execOp,go_sem,h9,k9])
   refine RV.cc _ (RV.dg rfl (by rw [<- hD];rfl) (fun v w h=>h) (by simp) (RV.pu T (fun γ v L w hl h=>h) (fun γ L a w hH hl h9 k9=>⟨_,exec_load_mid 35 _ rfl pb 0 (by simp [go_sem,h9]) _ _ (HCb.out.step hH.glob).range Tryz.underlying35 rfl hz.out,rfl⟩))) ?_
   refine RV.cc _ (RV.dg rfl (by rw [<- hD];rfl) (fun v w h=>h) (by simp) (RV.dc (fun γ L a w hH hl hA=>by have h9:=T γ L a w hH;have k9:=hA;simp [Region.binds] at k9;exact ⟨_,_,by simp [go_sem,h9,k9],Calls.mono (tcheck_any b r _ w (hL.below (b_step HBV.out hH.glob))) (by rintro e w2 ⟨rfl,hb⟩;exact ⟨_,rfl,rfl,fun j v _ h=>h.keep _,b_step hH.glob hb.out⟩)⟩))) ?_
   refine RV.cc _ (RV.dg rfl (by rw [<- hD];rfl) (fun v w h=>h) (by simp) (RV.pu T (fun γ v L w hl h=>h) (fun γ L a w hH hl h9 k9=>⟨_,exec_load_mid 35 _ rfl pb 0 (by simp [go_sem,h9]) _ _ (HCb.out.step hH.glob).range Tryz.underlying35 rfl hz.out,rfl⟩))) ?_
   refine RV.cc _ (RV.dg rfl (by rw [<- hD];rfl) (fun v w h=>h) (by simp) (RV.dc (fun γ L a w hH hl hA=>by have h9:=T γ L a w hH;have k9:=hA;simp [Region.binds] at k9;exact ⟨_,_,by simp [go_sem,h9,k9],Calls.mono (rcheck12_any b r _ w (hL.below (b_step HBV.out hH.glob))) (by rintro e w2 ⟨rfl,hb⟩;exact ⟨_,rfl,rfl,fun j v _ h=>h.keep _,b_step hH.glob hb.out⟩)⟩))) ?_
   (refine RV.cc _ (RV.dg rfl (by rw [<- hD];rfl) (fun v w h=>h) (by simp) (RV.pu T (fun γ v L w hl h=>h) (fun γ L a w hH hl h9 k9=>⟨_,?_,rfl⟩))) ?_;· simp [Region.binds] at k9;simp [execOp,go_sem,h9,k9])
   iterate 2 (refine RV.cc _ (RV.pu T (fun γ v L w hl h=>h) (fun γ L a w hH hl h9 k9=>⟨_,?_,rfl⟩)) ?_;· simp [Region.binds] at k9;simp [execOp,go_sem,h9,k9])
   refine RV.cc _ (RV.dg rfl (by rw [<- hD];rfl) (fun v w h=>h) (by simp) (RV.pu T (fun γ v L w hl h=>h) (fun γ L a w hH hl h9 k9=>⟨_,exec_load_mid 35 _ rfl pb 0 (by simp [go_sem,h9]) _ _ (HCb.out.step hH.glob).range Tryz.underlying35 rfl hz.out,rfl⟩))) ?_
   refine RV.cc _ (RV.dg rfl (by rw [<- hD];rfl) (fun v w h=>h) (by simp) (RV.dc (fun γ L a w hH hl hA=>by have h9:=T γ L a w hH;have k9:=hA;simp [Region.binds] at k9;exact ⟨_,_,by simp [go_sem,h9,k9],Calls.mono (tgone_any b (r.l (.slice o r.sh.pts.length c)) w) (by rintro e w2 ⟨rfl,hb⟩;exact ⟨_,rfl,rfl,fun j v _ h=>h.keep _,b_step hH.glob hb.out⟩)⟩))) ?_
   refine RV.cc _ (RV.dg rfl (by rw [<- hD];rfl) (fun v w h=>h) (by simp) (RV.pu T (fun γ v L w hl h=>h) (fun γ L a w hH hl h9 k9=>⟨_,exec_load_mid 35 _ rfl pb 0 (by simp [go_sem,h9]) _ _ (HCb.out.step hH.glob).range Tryz.underlying35 rfl hz.out,rfl⟩))) ?_
   refine RV.cc _ (RV.dg rfl (by rw [<- hD];rfl) (fun v w h=>h) (by simp) (RV.dc (fun γ L a w hH hl hA=>by have h9:=T γ L a w hH;have k9:=hA;simp [Region.binds] at k9;exact ⟨_,_,by simp [go_sem,h9,k9],Calls.mono (rgone_any b (r.l (.slice o r.sh.pts.length c)) w) (by rintro e w2 ⟨rfl,hb⟩;exact ⟨_,rfl,rfl,fun j v _ h=>h.keep _,b_step hH.glob hb.out⟩)⟩))) ?_
   (refine RV.cc _ (RV.dg rfl (by rw [<- hD];rfl) (fun v w h=>h) (by simp) (RV.pu T (fun γ v L w hl h=>h) (fun γ L a w hH hl h9 k9=>⟨_,?_,rfl⟩))) ?_;· simp [Region.binds] at k9;simp [execOp,go_sem,h9,k9])
   (refine RV.cc _ (RV.pu T (fun γ v L w hl h=>h) (fun γ L a w hH hl h9 k9=>⟨_,?_,rfl⟩)) ?_;· simp [Region.binds] at k9;simp [execOp,go_sem,h9,k9])
   exact RV.AllDo.nil
  ·intro γ w5 L9 hL9 hI9 hG9
   simp only [RV.putL,Act.put,List.setIfInBounds_toArray,List.set_cons_zero,List.set_cons_succ]
   have HS:Hid (BS _ _ _ _ _ _ _ _):=⟨b_step HBV.out hG9,HCb.out.step hG9,HCa.out.step hG9,HCj.out.step hG9,o0,o1,o2,Nat.lt_of_lt_of_le o3 hG9.size⟩
   clear hI9 hL9 HCb HCa HCj HBV hG9 o3
   go_wp2_with (fail)
   go_loopg [10] 8 (fun gm s10 wr=>∃ k:Nat,k + gm = 8/\s10 = .int .i64 k/\Hid (BS W0 pb pa pj (b.L (r.l (.slice o r.sh.pts.length c))) am jm wr))
   case atStart=>exact ⟨0,rfl,rfl,HS⟩
   case round =>
    obtain ⟨k,hk,rfl,HS⟩:=hrel
    rcases Nat.eq_zero_or_pos gk with h0 | h0
    ·obtain rfl:k = 8:=by omega
     go_wp2
     go_ret
     exact ⟨rfl,HS.out.below⟩
    ·obtain ⟨gm,rfl⟩:∃ m,gk = m + 1:=⟨gk - 1,by omega⟩
     have hk8:(k:Int) < 8:=by omega
     go_upto_region 11 with fail
     generalize hX0:World.alloc (World.alloc wr _) _ = X0
     have b0:Below wr.heap.size wr X0:=by rw [<- hX0];exact b_step (n_after _ _) (n_after _ _)
     have cw0:CW X0 wr.heap.size [.bool false]:=by rw [<- hX0];exact (CW.new wr [.bool false] _).step (n_after _ _)
     have cr0:CW X0 (wr.heap.size + 1) [.bool false]:=by rw [<- hX0];have h9:=CW.new (wr.alloc (.cells #[.bool false] 42)) [.bool false] 44;rw [World.size_alloc] at h9;exact h9
     have s0:X0.heap.size = wr.heap.size + 2:=by rw [<- hX0];simp only [World.size_alloc]
     obtain ⟨pr,hpr⟩:∃ p,p = wr.heap.size + 1:=⟨_,rfl⟩
     obtain ⟨pw,hpw⟩:∃ p,p = wr.heap.size:=⟨_,rfl⟩
     rw [<- hpr] at cr0 ⊢
     rw [<- hpw] at cw0 ⊢
     have HS0:Hid (BS _ _ _ _ _ _ _ _):=HS.out.step b0
     have H0:Hid (CW X0 pw [.bool false]/\CW X0 pr [.bool false]/\pj < pw/\pw < pr/\pr < X0.heap.size):=⟨cw0,cr0,by have h7:=HS.out.o;omega,by omega,by omega⟩
     clear hX0 b0 cw0 cr0 s0 hpr hpw HS
     obtain ⟨N1,B1,S1,T1⟩:=new_body X0 (b.L (r.l (.slice o r.sh.pts.length c))) (hR.rest.all b)
     have HT:Hid (World.there _ _ _ _):=T1
     have HN:Hid _:=And.intro N1 (And.intro B1 S1)
     have HRG:Hid (World.rangeAt X0 pb 0 (b.L (r.l (.slice o r.sh.pts.length c)))):=HS0.out.cb.range
     have hy:Hid _:=body_size2 hR.rest b
     have h1:Hid _:=hR.rest.each b
     clear T1 N1 B1 S1
     go_upto_region 12 with (first | refine wpList_load_mid rfl 35 _ rfl pb 0 rfl _ _ HRG.out Tryz.underlying35 rfl hz.out ?_ | refine wpList_store_mid rfl 35 _ _ rfl X0.heap.size 0 _ rfl rfl HT.out hy.out h1.out ?_)
     generalize hX1:World.setCells (World.alloc X0 _) _ 0 _ = X1 at HN ⊢
     obtain ⟨N1,B1,S1⟩:=HN.out
     obtain ⟨px,hpx⟩:∃ p,p = X0.heap.size:=⟨_,rfl⟩
     rw [<- hpx] at N1 S1 ⊢
     have HS1:Hid (BS _ _ _ _ _ _ _ _):=HS0.out.step B1
     have H1:Hid (CW X1 pw [.bool false]/\CW X1 pr [.bool false]/\CW X1 px (b.L (r.l (.slice o r.sh.pts.length c)))/\pj < pw/\pw < pr/\pr < px/\px < X1.heap.size):=⟨H0.out.1.step B1,H0.out.2.1.step B1,N1,H0.out.2.2.1,H0.out.2.2.2.1,by have h7:=H0.out.2.2.2.2;omega,by omega⟩
     clear hX1 HT HRG HN N1 B1 S1 hpx HS0 H0
     obtain ⟨N2,B2,S2,T2⟩:=new_body X1 (b.L (r.l (.slice o r.sh.pts.length c))) (hR.rest.all b)
     have HT:Hid (World.there _ _ _ _):=T2
     have HN:Hid _:=And.intro N2 (And.intro B2 S2)
     have HRG:Hid (World.rangeAt X1 pb 0 (b.L (r.l (.slice o r.sh.pts.length c)))):=HS1.out.cb.range
     clear T2 N2 B2 S2
     go_upto_region 13 with (first | refine wpList_load_mid rfl 35 _ rfl pb 0 rfl _ _ HRG.out Tryz.underlying35 rfl hz.out ?_ | refine wpList_store_mid rfl 35 _ _ rfl X1.heap.size 0 _ rfl rfl HT.out hy.out h1.out ?_)
     generalize hX2:World.setCells (World.alloc X1 _) _ 0 _ = X2 at HN ⊢
     obtain ⟨N2,B2,S2⟩:=HN.out
     obtain ⟨py,hpy⟩:∃ p,p = X1.heap.size:=⟨_,rfl⟩
     rw [<- hpy] at N2 ⊢
     have HB:Hid (BR W0 pb pa pj pw pr px py (b.L (r.l (.slice o r.sh.pts.length c))) am jm false false (b.L (r.l (.slice o r.sh.pts.length c))) (b.L (r.l (.slice o r.sh.pts.length c))) X2):=⟨b_step HS1.out.below B2,HS1.out.cb.step B2,HS1.out.ca.step B2,HS1.out.cj.step B2,H1.out.1.step B2,H1.out.2.1.step B2,H1.out.2.2.1.step B2,N2,by have h7:=HS1.out.o;have h8:=H1.out.2.2.2;omega⟩
     clear hX2 HT HRG HN N2 B2 S2 hpy HS1 H1 hy h1
     simp only [Act.put]
     go_upto_block 2 with fail
     go_cut [15,16,17,18] from 42 to 160 (fun s15 s16 s17 s18 wx=>∃ (bx:Bd) (ux:Value) (g:Bool),Rest (r.l ux)/\Hid (BR W0 pb pa pj pw pr px py (b.L (r.l (.slice o r.sh.pts.length c))) am jm g g (bx.L (r.l ux)) (bx.L (r.l (.slice o r.sh.pts.length c))) wx)/\Hid (Lies wx ux r.sh.pts))
     case first =>
      match k,hk,hk8 with
      | 0,_,_ =>
       obtain ⟨q,hq0⟩:∃ q,q = if2 b.k (spdV b):=⟨_,rfl⟩
       have hq:Hid _:=hq0
       clear hq0
       have HRG:Hid (World.rangeAt X2 pb 0 (b.L (r.l (.slice o r.sh.pts.length c)))):=HB.out.cb.range
       have HC:Hid _:=speed_any pw 0 false b _ hR.rest X2 (HB.out.cw 0 _ rfl).1 (HB.out.cw 0 _ rfl).2
       rw [<- hq.out] at HC
       go_wp2_with (refine wpList_load_mid rfl 35 _ rfl pb 0 rfl _ _ HRG.out Tryz.underlying35 rfl hz.out ?_)
       refine Calls.mono HC.out ?_
       rintro e Y1 ⟨rfl,A⟩
       have HB1:Hid (BR _ _ _ _ _ _ _ _ _ _ _ _ _ _ _ _):=HB.out.w A.out
       clear HC HRG A HB
       have d8:=(HB1.out.cx 8 _ rfl).1
       have d9:=(HB1.out.cx 9 _ rfl).1
       have d10:=(HB1.out.cx 10 _ rfl).1
       have f8:=(HB1.out.cx 8 _ rfl).2
       have f9:=(HB1.out.cx 9 _ rfl).2
       have f10:=(HB1.out.cx 10 _ rfl).2
       go_upto_region 22 with fail
       have HB2:Hid (BR _ _ _ _ _ _ _ _ _ _ _ _ _ _ _ _):=HB1.out.x3 hR.rest q
       generalize hY2:World.setCell (World.setCell (World.setCell Y1 _ _) _ _) _ _ = Y2 at HB2 ⊢
       clear hY2 HB1 d8 d9 d10 f8 f9 f10
       have HRG:Hid (World.rangeAt Y2 pb 0 (b.L (r.l (.slice o r.sh.pts.length c)))):=HB2.out.cb.range
       have HC:Hid _:=rspeed_any pr 0 false b (r.l (.slice o r.sh.pts.length c)) Y2 (HB2.out.cr 0 _ rfl).1 (HB2.out.cr 0 _ rfl).2
       rw [<- hq.out] at HC
       go_wp2_with (refine wpList_load_mid rfl 35 _ rfl pb 0 rfl _ _ HRG.out Tryz.underlying35 rfl hz.out ?_)
       refine Calls.mono HC.out ?_
       rintro e Y3 ⟨rfl,A⟩
       have HB3:Hid (BR _ _ _ _ _ _ _ _ _ _ _ _ _ _ _ _):=HB2.out.r A.out
       clear HC HRG A HB2
       have d8:=(HB3.out.cy 8 _ rfl).1
       have d9:=(HB3.out.cy 9 _ rfl).1
       have d10:=(HB3.out.cy 10 _ rfl).1
       have f8:=(HB3.out.cy 8 _ rfl).2
       have f9:=(HB3.out.cy 9 _ rfl).2
       have f10:=(HB3.out.cy 10 _ rfl).2
       clear hq
       go_wp2_with (fail)
       go_meet
       case rel=>exact ⟨b.wp q,(.slice o r.sh.pts.length c),_,hR.rest,HB3.out.y3 hR.rest q,hL.below (HB3.out.y3 hR.rest q).below⟩
      | 1,_,_ =>
       obtain ⟨q,hq0⟩:∃ q,q = if2 b.k (yldV b b.l):=⟨_,rfl⟩
       have hq:Hid _:=hq0
       clear hq0
       have HRG:Hid (World.rangeAt X2 pb 0 (b.L (r.l (.slice o r.sh.pts.length c)))):=HB.out.cb.range
       have HC:Hid _:=spin_any pw 0 false b _ hR.rest X2 (HB.out.cw 0 _ rfl).1 (HB.out.cw 0 _ rfl).2
       rw [<- hq.out] at HC
       go_wp2_with (refine wpList_load_mid rfl 35 _ rfl pb 0 rfl _ _ HRG.out Tryz.underlying35 rfl hz.out ?_)
       refine Calls.mono HC.out ?_
       rintro e Y1 ⟨rfl,A⟩
       have HB1:Hid (BR _ _ _ _ _ _ _ _ _ _ _ _ _ _ _ _):=HB.out.w A.out
       clear HC HRG A HB
       have d8:=(HB1.out.cx 8 _ rfl).1
       have d9:=(HB1.out.cx 9 _ rfl).1
       have d10:=(HB1.out.cx 10 _ rfl).1
       have f8:=(HB1.out.cx 8 _ rfl).2
       have f9:=(HB1.out.cx 9 _ rfl).2
       have f10:=(HB1.out.cx 10 _ rfl).2
       go_upto_region 25 with fail
       have HB2:Hid (BR _ _ _ _ _ _ _ _ _ _ _ _ _ _ _ _):=HB1.out.x3 hR.rest q
       generalize hY2:World.setCell (World.setCell (World.setCell Y1 _ _) _ _) _ _ = Y2 at HB2 ⊢
       clear hY2 HB1 d8 d9 d10 f8 f9 f10
       have HRG:Hid (World.rangeAt Y2 pb 0 (b.L (r.l (.slice o r.sh.pts.length c)))):=HB2.out.cb.range
       have HC:Hid _:=rspin_any pr 0 false b _ hR.rest Y2 (HB2.out.cr 0 _ rfl).1 (HB2.out.cr 0 _ rfl).2
       rw [<- hq.out] at HC
       go_wp2_with (refine wpList_load_mid rfl 35 _ rfl pb 0 rfl _ _ HRG.out Tryz.underlying35 rfl hz.out ?_)
       refine Calls.mono HC.out ?_
       rintro e Y3 ⟨rfl,A⟩
       have HB3:Hid (BR _ _ _ _ _ _ _ _ _ _ _ _ _ _ _ _):=HB2.out.r A.out
       clear HC HRG A HB2
       have d8:=(HB3.out.cy 8 _ rfl).1
       have d9:=(HB3.out.cy 9 _ rfl).1
       have d10:=(HB3.out.cy 10 _ rfl).1
       have f8:=(HB3.out.cy 8 _ rfl).2
       have f9:=(HB3.out.cy 9 _ rfl).2
       have f10:=(HB3.out.cy 10 _ rfl).2
       clear hq
       go_wp2_with (fail)
       go_meet
       case rel=>exact ⟨b.wp q,(.slice o r.sh.pts.length c),_,hR.rest,HB3.out.y3 hR.rest q,hL.below (HB3.out.y3 hR.rest q).below⟩
      | 2,_,_ =>
       obtain ⟨q,hq0⟩:∃ q,q = if2 b.k (yldV b jm):=⟨_,rfl⟩
       have hq:Hid _:=hq0
       clear hq0
       have HRG:Hid (World.rangeAt X2 pb 0 (b.L (r.l (.slice o r.sh.pts.length c)))):=HB.out.cb.range
       obtain ⟨j0,j1,j2⟩:(X2.cell? ⟨pj,0,none⟩ = some (.int .i64 jm.x))/\(X2.cell? ⟨pj,1,none⟩ = some (.int .i64 jm.y))/\(X2.cell? ⟨pj,2,none⟩ = some (.int .i64 jm.z)):=⟨(HB.out.cj 0 _ rfl).1,(HB.out.cj 1 _ rfl).1,(HB.out.cj 2 _ rfl).1⟩
       have HC:Hid _:=yield_any pw 0 false b _ jm hR.rest X2 (HB.out.cw 0 _ rfl).1 (HB.out.cw 0 _ rfl).2
       rw [<- hq.out] at HC
       go_wp2_with (refine wpList_load_mid rfl 35 _ rfl pb 0 rfl _ _ HRG.out Tryz.underlying35 rfl hz.out ?_)
       refine Calls.mono HC.out ?_
       rintro e Y1 ⟨rfl,A⟩
       have HB1:Hid (BR _ _ _ _ _ _ _ _ _ _ _ _ _ _ _ _):=HB.out.w A.out
       clear HC HRG A j0 j1 j2 HB
       have d8:=(HB1.out.cx 8 _ rfl).1
       have d9:=(HB1.out.cx 9 _ rfl).1
       have d10:=(HB1.out.cx 10 _ rfl).1
       have f8:=(HB1.out.cx 8 _ rfl).2
       have f9:=(HB1.out.cx 9 _ rfl).2
       have f10:=(HB1.out.cx 10 _ rfl).2
       go_upto_region 28 with fail
       have HB2:Hid (BR _ _ _ _ _ _ _ _ _ _ _ _ _ _ _ _):=HB1.out.x3 hR.rest q
       generalize hY2:World.setCell (World.setCell (World.setCell Y1 _ _) _ _) _ _ = Y2 at HB2 ⊢
       clear hY2 HB1 d8 d9 d10 f8 f9 f10
       have HRG:Hid (World.rangeAt Y2 pb 0 (b.L (r.l (.slice o r.sh.pts.length c)))):=HB2.out.cb.range
       obtain ⟨j0,j1,j2⟩:(Y2.cell? ⟨pj,0,none⟩ = some (.int .i64 jm.x))/\(Y2.cell? ⟨pj,1,none⟩ = some (.int .i64 jm.y))/\(Y2.cell? ⟨pj,2,none⟩ = some (.int .i64 jm.z)):=⟨(HB2.out.cj 0 _ rfl).1,(HB2.out.cj 1 _ rfl).1,(HB2.out.cj 2 _ rfl).1⟩
       have HC:Hid _:=ryield_any pr 0 false b (r.l (.slice o r.sh.pts.length c)) jm Y2 (HB2.out.cr 0 _ rfl).1 (HB2.out.cr 0 _ rfl).2
       rw [<- hq.out] at HC
       go_wp2_with (refine wpList_load_mid rfl 35 _ rfl pb 0 rfl _ _ HRG.out Tryz.underlying35 rfl hz.out ?_)
       refine Calls.mono HC.out ?_
       rintro e Y3 ⟨rfl,A⟩
       have HB3:Hid (BR _ _ _ _ _ _ _ _ _ _ _ _ _ _ _ _):=HB2.out.r A.out
       clear HC HRG A j0 j1 j2 HB2
       have d8:=(HB3.out.cy 8 _ rfl).1
       have d9:=(HB3.out.cy 9 _ rfl).1
       have d10:=(HB3.out.cy 10 _ rfl).1
       have f8:=(HB3.out.cy 8 _ rfl).2
       have f9:=(HB3.out.cy 9 _ rfl).2
       have f10:=(HB3.out.cy 10 _ rfl).2
       clear hq
       go_wp2_with (fail)
       go_meet
       case rel=>exact ⟨b.wp q,(.slice o r.sh.pts.length c),_,hR.rest,HB3.out.y3 hR.rest q,hL.below (HB3.out.y3 hR.rest q).below⟩
      | 3,_,_ =>
       obtain ⟨d,hd0⟩:∃ d,d = ifB b (pshD b am jm):=⟨_,rfl⟩
       have hd:Hid _:=hd0
       clear hd0
       have HRG:Hid (World.rangeAt X2 pb 0 (b.L (r.l (.slice o r.sh.pts.length c)))):=HB.out.cb.range
       obtain ⟨a0,a1,a2⟩:(X2.cell? ⟨pa,0,none⟩ = some (.int .i64 am.x))/\(X2.cell? ⟨pa,1,none⟩ = some (.int .i64 am.y))/\(X2.cell? ⟨pa,2,none⟩ = some (.int .i64 am.z)):=⟨(HB.out.ca 0 _ rfl).1,(HB.out.ca 1 _ rfl).1,(HB.out.ca 2 _ rfl).1⟩
       obtain ⟨j0,j1,j2⟩:(X2.cell? ⟨pj,0,none⟩ = some (.int .i64 jm.x))/\(X2.cell? ⟨pj,1,none⟩ = some (.int .i64 jm.y))/\(X2.cell? ⟨pj,2,none⟩ = some (.int .i64 jm.z)):=⟨(HB.out.cj 0 _ rfl).1,(HB.out.cj 1 _ rfl).1,(HB.out.cj 2 _ rfl).1⟩
       have HC:Hid _:=push_any pw 0 false b _ _ r.sh.pts am jm hR X2 (HB.out.cw 0 _ rfl).1 (HB.out.cw 0 _ rfl).2 (hL.below HB.out.below) (by omega)
       rw [<- hd.out] at HC
       go_wp2_with (refine wpList_load_mid rfl 35 _ rfl pb 0 rfl _ _ HRG.out Tryz.underlying35 rfl hz.out ?_)
       refine Calls.mono HC.out ?_
       rintro e Y1 ⟨u,rfl,A,HO⟩
       rw [Rs.set] at *
       have HB1:Hid (BR _ _ _ _ _ _ _ _ _ _ _ _ _ _ _ _):=HB.out.w A.out
       have hu:=(r.rest (row_one HO.out)).rest
       have hxX:px < X2.heap.size:=CW.lt HB.out.cx
       have hyX:py < X2.heap.size:=CW.lt HB.out.cy
       have hrX:pr < X2.heap.size:=CW.lt HB.out.cr
       clear HC HRG A HB a0 a1 a2 j0 j1 j2
       have HT:Hid (World.there Y1 px 0 (d.L (r.l u)).toArray.size):=HB1.out.cx.thereB hR.rest hu
       have hy:Hid _:=body_size2 hu d
       have h1:Hid _:=hu.each d
       go_upto_region 31 with (refine wpList_store_mid rfl 35 _ _ rfl px 0 _ rfl rfl HT.out hy.out h1.out ?_)
       have HB2:Hid (BR _ _ _ _ _ _ _ _ _ _ _ _ _ _ _ _):=HB1.out.sx (us:=d.L (r.l u)) (by rw [hu.all,hR.rest.all])
       have HO2:Hid _:=own_sets HO.out (own_ne HO.out hxX) (d.L (r.l u)) 0
       generalize hY2:World.setCells Y1 px 0 _ = Y2 at HB2 HO2 ⊢
       clear hY2 HB1 HO HT hy h1
       have HRG:Hid (World.rangeAt Y2 pb 0 (b.L (r.l (.slice o r.sh.pts.length c)))):=HB2.out.cb.range
       obtain ⟨a0,a1,a2⟩:(Y2.cell? ⟨pa,0,none⟩ = some (.int .i64 am.x))/\(Y2.cell? ⟨pa,1,none⟩ = some (.int .i64 am.y))/\(Y2.cell? ⟨pa,2,none⟩ = some (.int .i64 am.z)):=⟨(HB2.out.ca 0 _ rfl).1,(HB2.out.ca 1 _ rfl).1,(HB2.out.ca 2 _ rfl).1⟩
       obtain ⟨j0,j1,j2⟩:(Y2.cell? ⟨pj,0,none⟩ = some (.int .i64 jm.x))/\(Y2.cell? ⟨pj,1,none⟩ = some (.int .i64 jm.y))/\(Y2.cell? ⟨pj,2,none⟩ = some (.int .i64 jm.z)):=⟨(HB2.out.cj 0 _ rfl).1,(HB2.out.cj 1 _ rfl).1,(HB2.out.cj 2 _ rfl).1⟩
       have HC:Hid _:=rpush_any pr 0 false b _ am jm hR.rest Y2 (HB2.out.cr 0 _ rfl).1 (HB2.out.cr 0 _ rfl).2
       rw [<- hd.out] at HC
       go_wp2_with (refine wpList_load_mid rfl 35 _ rfl pb 0 rfl _ _ HRG.out Tryz.underlying35 rfl hz.out ?_)
       refine Calls.mono HC.out ?_
       rintro e Y3 ⟨rfl,A⟩
       have HB3:Hid (BR _ _ _ _ _ _ _ _ _ _ _ _ _ _ _ _):=HB2.out.r A.out
       have HO3:Hid _:=own_after HO2.out A.out hrX
       clear HC HRG A HB2 HO2 hd a0 a1 a2 j0 j1 j2
       have HT:Hid (World.there Y3 py 0 (d.L (r.l (.slice o r.sh.pts.length c))).toArray.size):=HB3.out.cy.thereB hR.rest hR.rest
       have hy:Hid _:=body_size2 hR.rest d
       have h1:Hid _:=hR.rest.each d
       go_wp2_with (refine wpList_store_mid rfl 35 _ _ rfl py 0 _ rfl rfl HT.out hy.out h1.out ?_)
       go_meet
       case rel=>exact ⟨d,u,_,hu,HB3.out.sy (by rw [hR.rest.all,hR.rest.all]),Lies.of_row (own_sets HO3.out (own_ne HO3.out hyX) _ 0)⟩
      | 4,_,_ =>
       obtain ⟨d,hd0⟩:∃ d,d = ifB b (twsD b jm):=⟨_,rfl⟩
       have hd:Hid _:=hd0
       clear hd0
       have HRG:Hid (World.rangeAt X2 pb 0 (b.L (r.l (.slice o r.sh.pts.length c)))):=HB.out.cb.range
       obtain ⟨j0,j1,j2⟩:(X2.cell? ⟨pj,0,none⟩ = some (.int .i64 jm.x))/\(X2.cell? ⟨pj,1,none⟩ = some (.int .i64 jm.y))/\(X2.cell? ⟨pj,2,none⟩ = some (.int .i64 jm.z)):=⟨(HB.out.cj 0 _ rfl).1,(HB.out.cj 1 _ rfl).1,(HB.out.cj 2 _ rfl).1⟩
       have HC:Hid _:=twist_any pw 0 false b _ _ r.sh.pts jm hR X2 (HB.out.cw 0 _ rfl).1 (HB.out.cw 0 _ rfl).2 (hL.below HB.out.below) (by omega)
       rw [<- hd.out] at HC
       go_wp2_with (refine wpList_load_mid rfl 35 _ rfl pb 0 rfl _ _ HRG.out Tryz.underlying35 rfl hz.out ?_)
       refine Calls.mono HC.out ?_
       rintro e Y1 ⟨u,rfl,A,HO⟩
       rw [Rs.set] at *
       have HB1:Hid (BR _ _ _ _ _ _ _ _ _ _ _ _ _ _ _ _):=HB.out.w A.out
       have hu:=(r.rest (row_one HO.out)).rest
       have hxX:px < X2.heap.size:=CW.lt HB.out.cx
       have hyX:py < X2.heap.size:=CW.lt HB.out.cy
       have hrX:pr < X2.heap.size:=CW.lt HB.out.cr
       clear HC HRG A HB j0 j1 j2
       have HT:Hid (World.there Y1 px 0 (d.L (r.l u)).toArray.size):=HB1.out.cx.thereB hR.rest hu
       have hy:Hid _:=body_size2 hu d
       have h1:Hid _:=hu.each d
       go_upto_region 34 with (refine wpList_store_mid rfl 35 _ _ rfl px 0 _ rfl rfl HT.out hy.out h1.out ?_)
       have HB2:Hid (BR _ _ _ _ _ _ _ _ _ _ _ _ _ _ _ _):=HB1.out.sx (us:=d.L (r.l u)) (by rw [hu.all,hR.rest.all])
       have HO2:Hid _:=own_sets HO.out (own_ne HO.out hxX) (d.L (r.l u)) 0
       generalize hY2:World.setCells Y1 px 0 _ = Y2 at HB2 HO2 ⊢
       clear hY2 HB1 HO HT hy h1
       have HRG:Hid (World.rangeAt Y2 pb 0 (b.L (r.l (.slice o r.sh.pts.length c)))):=HB2.out.cb.range
       obtain ⟨j0,j1,j2⟩:(Y2.cell? ⟨pj,0,none⟩ = some (.int .i64 jm.x))/\(Y2.cell? ⟨pj,1,none⟩ = some (.int .i64 jm.y))/\(Y2.cell? ⟨pj,2,none⟩ = some (.int .i64 jm.z)):=⟨(HB2.out.cj 0 _ rfl).1,(HB2.out.cj 1 _ rfl).1,(HB2.out.cj 2 _ rfl).1⟩
       have HC:Hid _:=rtwist_any pr 0 false b _ jm hR.rest Y2 (HB2.out.cr 0 _ rfl).1 (HB2.out.cr 0 _ rfl).2
       rw [<- hd.out] at HC
       go_wp2_with (refine wpList_load_mid rfl 35 _ rfl pb 0 rfl _ _ HRG.out Tryz.underlying35 rfl hz.out ?_)
       refine Calls.mono HC.out ?_
       rintro e Y3 ⟨rfl,A⟩
       have HB3:Hid (BR _ _ _ _ _ _ _ _ _ _ _ _ _ _ _ _):=HB2.out.r A.out
       have HO3:Hid _:=own_after HO2.out A.out hrX
       clear HC HRG A HB2 HO2 hd j0 j1 j2
       have HT:Hid (World.there Y3 py 0 (d.L (r.l (.slice o r.sh.pts.length c))).toArray.size):=HB3.out.cy.thereB hR.rest hR.rest
       have hy:Hid _:=body_size2 hR.rest d
       have h1:Hid _:=hR.rest.each d
       go_wp2_with (refine wpList_store_mid rfl 35 _ _ rfl py 0 _ rfl rfl HT.out hy.out h1.out ?_)
       go_meet
       case rel=>exact ⟨d,u,_,hu,HB3.out.sy (by rw [hR.rest.all,hR.rest.all]),Lies.of_row (own_sets HO3.out (own_ne HO3.out hyX) _ 0)⟩
      | 5,_,_ =>
       obtain ⟨d,hd0⟩:∃ d,d = ifB b (fllD b jm tm):=⟨_,rfl⟩
       have hd:Hid _:=hd0
       clear hd0
       have HRG:Hid (World.rangeAt X2 pb 0 (b.L (r.l (.slice o r.sh.pts.length c)))):=HB.out.cb.range
       obtain ⟨j0,j1,j2⟩:(X2.cell? ⟨pj,0,none⟩ = some (.int .i64 jm.x))/\(X2.cell? ⟨pj,1,none⟩ = some (.int .i64 jm.y))/\(X2.cell? ⟨pj,2,none⟩ = some (.int .i64 jm.z)):=⟨(HB.out.cj 0 _ rfl).1,(HB.out.cj 1 _ rfl).1,(HB.out.cj 2 _ rfl).1⟩
       have HC:Hid _:=fall_any pw 0 false b _ _ r.sh.pts jm tm hR X2 (HB.out.cw 0 _ rfl).1 (HB.out.cw 0 _ rfl).2 (hL.below HB.out.below) (by omega)
       rw [<- hd.out] at HC
       go_wp2_with (refine wpList_load_mid rfl 35 _ rfl pb 0 rfl _ _ HRG.out Tryz.underlying35 rfl hz.out ?_)
       refine Calls.mono HC.out ?_
       rintro e Y1 ⟨u,rfl,A,HO⟩
       rw [Rs.set] at *
       have HB1:Hid (BR _ _ _ _ _ _ _ _ _ _ _ _ _ _ _ _):=HB.out.w A.out
       have hu:=(r.rest (row_one HO.out)).rest
       have hxX:px < X2.heap.size:=CW.lt HB.out.cx
       have hyX:py < X2.heap.size:=CW.lt HB.out.cy
       have hrX:pr < X2.heap.size:=CW.lt HB.out.cr
       clear HC HRG A HB j0 j1 j2
       have HT:Hid (World.there Y1 px 0 (d.L (r.l u)).toArray.size):=HB1.out.cx.thereB hR.rest hu
       have hy:Hid _:=body_size2 hu d
       have h1:Hid _:=hu.each d
       go_upto_region 37 with (refine wpList_store_mid rfl 35 _ _ rfl px 0 _ rfl rfl HT.out hy.out h1.out ?_)
       have HB2:Hid (BR _ _ _ _ _ _ _ _ _ _ _ _ _ _ _ _):=HB1.out.sx (us:=d.L (r.l u)) (by rw [hu.all,hR.rest.all])
       have HO2:Hid _:=own_sets HO.out (own_ne HO.out hxX) (d.L (r.l u)) 0
       generalize hY2:World.setCells Y1 px 0 _ = Y2 at HB2 HO2 ⊢
       clear hY2 HB1 HO HT hy h1
       have HRG:Hid (World.rangeAt Y2 pb 0 (b.L (r.l (.slice o r.sh.pts.length c)))):=HB2.out.cb.range
       obtain ⟨j0,j1,j2⟩:(Y2.cell? ⟨pj,0,none⟩ = some (.int .i64 jm.x))/\(Y2.cell? ⟨pj,1,none⟩ = some (.int .i64 jm.y))/\(Y2.cell? ⟨pj,2,none⟩ = some (.int .i64 jm.z)):=⟨(HB2.out.cj 0 _ rfl).1,(HB2.out.cj 1 _ rfl).1,(HB2.out.cj 2 _ rfl).1⟩
       have HC:Hid _:=rfall_any pr 0 false b _ jm tm hR.rest Y2 (HB2.out.cr 0 _ rfl).1 (HB2.out.cr 0 _ rfl).2
       rw [<- hd.out] at HC
       go_wp2_with (refine wpList_load_mid rfl 35 _ rfl pb 0 rfl _ _ HRG.out Tryz.underlying35 rfl hz.out ?_)
       refine Calls.mono HC.out ?_
       rintro e Y3 ⟨rfl,A⟩
       have HB3:Hid (BR _ _ _ _ _ _ _ _ _ _ _ _ _ _ _ _):=HB2.out.r A.out
       have HO3:Hid _:=own_after HO2.out A.out hrX
       clear HC HRG A HB2 HO2 hd j0 j1 j2
       have HT:Hid (World.there Y3 py 0 (d.L (r.l (.slice o r.sh.pts.length c))).toArray.size):=HB3.out.cy.thereB hR.rest hR.rest
       have hy:Hid _:=body_size2 hR.rest d
       have h1:Hid _:=hR.rest.each d
       go_wp2_with (refine wpList_store_mid rfl 35 _ _ rfl py 0 _ rfl rfl HT.out hy.out h1.out ?_)
       go_meet
       case rel=>exact ⟨d,u,_,hu,HB3.out.sy (by rw [hR.rest.all,hR.rest.all]),Lies.of_row (own_sets HO3.out (own_ne HO3.out hyX) _ 0)⟩
      | 6,_,_ =>
       obtain ⟨d,hd0⟩:∃ d,d = ifB b (goD b tm):=⟨_,rfl⟩
       have hd:Hid _:=hd0
       clear hd0
       have HRG:Hid (World.rangeAt X2 pb 0 (b.L (r.l (.slice o r.sh.pts.length c)))):=HB.out.cb.range
       have HC:Hid _:=go_any pw 0 false b _ _ r.sh.pts tm ht hR X2 (HB.out.cw 0 _ rfl).1 (HB.out.cw 0 _ rfl).2 (hL.below HB.out.below) (by omega)
       rw [<- hd.out] at HC
       go_wp2_with (refine wpList_load_mid rfl 35 _ rfl pb 0 rfl _ _ HRG.out Tryz.underlying35 rfl hz.out ?_)
       refine Calls.mono HC.out ?_
       rintro e Y1 ⟨u,rfl,A,HO⟩
       rw [Rs.set] at *
       have HB1:Hid (BR _ _ _ _ _ _ _ _ _ _ _ _ _ _ _ _):=HB.out.w A.out
       have hu:=(r.rest (row_one HO.out)).rest
       have hxX:px < X2.heap.size:=CW.lt HB.out.cx
       have hyX:py < X2.heap.size:=CW.lt HB.out.cy
       have hrX:pr < X2.heap.size:=CW.lt HB.out.cr
       clear HC HRG A HB
       have HT:Hid (World.there Y1 px 0 (d.L (r.l u)).toArray.size):=HB1.out.cx.thereB hR.rest hu
       have hy:Hid _:=body_size2 hu d
       have h1:Hid _:=hu.each d
       go_upto_region 40 with (refine wpList_store_mid rfl 35 _ _ rfl px 0 _ rfl rfl HT.out hy.out h1.out ?_)
       have HB2:Hid (BR _ _ _ _ _ _ _ _ _ _ _ _ _ _ _ _):=HB1.out.sx (us:=d.L (r.l u)) (by rw [hu.all,hR.rest.all])
       have HO2:Hid _:=own_sets HO.out (own_ne HO.out hxX) (d.L (r.l u)) 0
       generalize hY2:World.setCells Y1 px 0 _ = Y2 at HB2 HO2 ⊢
       clear hY2 HB1 HO HT hy h1
       have HRG:Hid (World.rangeAt Y2 pb 0 (b.L (r.l (.slice o r.sh.pts.length c)))):=HB2.out.cb.range
       have HC:Hid _:=rgo_any pr 0 false b _ tm ht hR.rest Y2 (HB2.out.cr 0 _ rfl).1 (HB2.out.cr 0 _ rfl).2
       rw [<- hd.out] at HC
       go_wp2_with (refine wpList_load_mid rfl 35 _ rfl pb 0 rfl _ _ HRG.out Tryz.underlying35 rfl hz.out ?_)
       refine Calls.mono HC.out ?_
       rintro e Y3 ⟨rfl,A⟩
       have HB3:Hid (BR _ _ _ _ _ _ _ _ _ _ _ _ _ _ _ _):=HB2.out.r A.out
       have HO3:Hid _:=own_after HO2.out A.out hrX
       clear HC HRG A HB2 HO2 hd
       have HT:Hid (World.there Y3 py 0 (d.L (r.l (.slice o r.sh.pts.length c))).toArray.size):=HB3.out.cy.thereB hR.rest hR.rest
       have hy:Hid _:=body_size2 hR.rest d
       have h1:Hid _:=hR.rest.each d
       go_wp2_with (refine wpList_store_mid rfl 35 _ _ rfl py 0 _ rfl rfl HT.out hy.out h1.out ?_)
       go_meet
       case rel=>exact ⟨d,u,_,hu,HB3.out.sy (by rw [hR.rest.all,hR.rest.all]),Lies.of_row (own_sets HO3.out (own_ne HO3.out hyX) _ 0)⟩
      | 7,_,_ =>
       have HRG:Hid (World.rangeAt X2 pb 0 (b.L (r.l (.slice o r.sh.pts.length c)))):=HB.out.cb.range
       have HC:Hid _:=cap_any pw 0 false b _ _ r.sh.pts hR hp hl X2 (HB.out.cw 0 _ rfl).1 (HB.out.cw 0 _ rfl).2 (hL.below HB.out.below) (by omega)
       obtain ⟨d,hd0⟩:∃ d,d = capD b:=⟨_,rfl⟩
       obtain ⟨ct,hct0⟩:∃ d,d = capC b:=⟨_,rfl⟩
       have hd:Hid _:=hd0
       have hct:Hid _:=hct0
       clear hd0 hct0
       rw [<- hd.out,<- hct.out] at HC
       go_wp2_with (refine wpList_load_mid rfl 35 _ rfl pb 0 rfl _ _ HRG.out Tryz.underlying35 rfl hz.out ?_)
       refine Calls.mono HC.out ?_
       rintro e Y1 ⟨u,rfl,A,HO⟩
       rw [Rs.set] at *
       have HB1:Hid (BR _ _ _ _ _ _ _ _ _ _ _ _ _ _ _ _):=HB.out.w A.out
       have hu:=(r.rest (row_one HO.out)).rest
       have hxX:px < X2.heap.size:=CW.lt HB.out.cx
       have hyX:py < X2.heap.size:=CW.lt HB.out.cy
       have hrX:pr < X2.heap.size:=CW.lt HB.out.cr
       clear HC HRG A HB
       obtain ⟨N1,B1,S1,T1⟩:=new_body Y1 (d.L (r.l u)) (hu.all d)
       have HT:Hid (World.there _ _ _ _):=T1
       have hy:Hid _:=body_size2 hu d
       have h1:Hid _:=hu.each d
       have HN:Hid _:=And.intro N1 B1
       clear T1 S1 N1 B1
       dsimp only
       iterate 12 go_step
       rename_i hK
       refine hK _ _ ?_
       clear hK
       refine wpList_store_mid rfl 35 _ _ rfl Y1.heap.size 0 _ rfl rfl HT.out hy.out h1.out ?_
       go_upto_region 15 with fail
       have hz1:Hid _:=body_size hu d
       generalize hY2:World.setCells (World.alloc Y1 _) _ 0 _ = Y2 at HN ⊢
       obtain ⟨N1,B1⟩:=HN.out
       have HB2:Hid (BR _ _ _ _ _ _ _ _ _ _ _ _ _ _ _ _):=HB1.out.step B1
       have HO2:Hid _:=own_below HO.out B1
       obtain ⟨p1,hp1⟩:∃ p,p = Y1.heap.size:=⟨_,rfl⟩
       rw [<- hp1] at N1 ⊢
       have hpx1:px < p1:=by rw [hp1];exact CW.lt HB1.out.cx
       have hpy1:py < p1:=by rw [hp1];exact CW.lt HB1.out.cy
       have hpr1:pr < p1:=by rw [hp1];exact CW.lt HB1.out.cr
       have HN1:Hid (CW _ _ _):=N1
       clear hY2 hp1 HB1 HO HT hy h1 B1 HN N1
       have HRG:Hid (World.rangeAt Y2 pb 0 (b.L (r.l (.slice o r.sh.pts.length c)))):=HB2.out.cb.range
       have HC:Hid _:=rcap_any pr 0 false b _ hR.rest hp hl Y2 (HB2.out.cr 0 _ rfl).1 (HB2.out.cr 0 _ rfl).2
       rw [<- hd.out,<- hct.out] at HC
       go_wp2_with (refine wpList_load_mid rfl 35 _ rfl pb 0 rfl _ _ HRG.out Tryz.underlying35 rfl hz.out ?_)
       refine Calls.mono HC.out ?_
       rintro e Y3 ⟨rfl,A⟩
       have HB3:Hid (BR _ _ _ _ _ _ _ _ _ _ _ _ _ _ _ _):=HB2.out.r A.out
       have HO3:Hid _:=own_after HO2.out A.out hrX
       have N3:Hid (CW _ _ _):=HN1.out.after A.out (by show p1 ≠ pr;omega)
       clear HC HRG A HB2 HO2 hd HN1
       obtain ⟨M1,B1,S1,T1⟩:=new_body Y3 (d.L (r.l (.slice o r.sh.pts.length c))) (hR.rest.all d)
       have HT:Hid (World.there _ _ _ _):=T1
       have hy:Hid _:=body_size2 hR.rest d
       have h1:Hid _:=hR.rest.each d
       have hp13:p1 < Y3.heap.size:=CW.lt N3.out
       have HN:Hid _:=And.intro M1 B1
       clear T1 S1 M1 B1
       dsimp only
       iterate 12 go_step
       rename_i hK
       refine hK _ _ ?_
       clear hK
       refine wpList_store_mid rfl 35 _ _ rfl Y3.heap.size 0 _ rfl rfl HT.out hy.out h1.out ?_
       go_upto_region 16 with fail
       have hz4:Hid _:=body_size hR.rest d
       generalize hY4:World.setCells (World.alloc Y3 _) _ 0 _ = Y4 at HN ⊢
       obtain ⟨M1,B1⟩:=HN.out
       have HB4:Hid (BR _ _ _ _ _ _ _ _ _ _ _ _ _ _ _ _):=HB3.out.step B1
       have HO4:Hid _:=own_below HO3.out B1
       have N4:Hid (CW _ _ _):=N3.out.step B1
       obtain ⟨p3,hp3⟩:∃ p,p = Y3.heap.size:=⟨_,rfl⟩
       rw [<- hp3] at M1 ⊢
       have h3x:px < p3:=by omega
       clear hY4 hp3 HB3 HO3 HT hy h1 B1 N3 hct HN
       have HT:Hid (World.there Y4 px 0 (d.L (r.l u)).toArray.size):=HB4.out.cx.thereB hR.rest hu
       have hy:Hid _:=body_size2 hu d
       have h1:Hid _:=hu.each d
       have HRG:Hid (World.rangeAt Y4 p1 0 (d.L (r.l u))):=N4.out.range
       have M4:Hid (CW _ _ _):=M1
       clear M1
       go_upto_region 19 with (first | refine wpList_load_mid rfl 35 _ rfl p1 0 rfl _ _ HRG.out Tryz.underlying35 rfl hz1.out ?_ | refine wpList_store_mid rfl 35 _ _ rfl px 0 _ rfl rfl HT.out hy.out h1.out ?_)
       have HB5:Hid (BR _ _ _ _ _ _ _ _ _ _ _ _ _ _ _ _):=HB4.out.sx (us:=d.L (r.l u)) (by rw [hu.all,hR.rest.all])
       have HO5:Hid _:=own_sets HO4.out (own_ne HO4.out hxX) (d.L (r.l u)) 0
       have M5:=M4.out.apart (us:=d.L (r.l u)) (k:=px) (by omega)
       generalize hY5:World.setCells Y4 px 0 _ = Y5 at HB5 HO5 M5 ⊢
       clear hY5 HB4 HO4 HT hy h1 HRG N4 M4
       have HT:Hid (World.there Y5 py 0 (d.L (r.l (.slice o r.sh.pts.length c))).toArray.size):=HB5.out.cy.thereB hR.rest hR.rest
       have hy:Hid _:=body_size2 hR.rest d
       have h1:Hid _:=hR.rest.each d
       have HRG:Hid (World.rangeAt Y5 p3 0 (d.L (r.l (.slice o r.sh.pts.length c)))):=M5.range
       clear M5
       go_wp2_with (first | refine wpList_load_mid rfl 35 _ rfl p3 0 rfl _ _ HRG.out Tryz.underlying35 rfl hz4.out ?_ | refine wpList_store_mid rfl 35 _ _ rfl py 0 _ rfl rfl HT.out hy.out h1.out ?_)
       go_meet
       case rel=>exact ⟨d,u,_,hu,HB5.out.sy (by rw [hR.rest.all,hR.rest.all]),Lies.of_row (own_sets HO5.out (own_ne HO5.out hyX) _ 0)⟩
      | n + 8,hk,h9=>exact absurd h9 (by omega)
     case rest =>
      obtain ⟨bx,ux,g,hu,HR,HLu⟩:=hcut
      have hzu:Hid _:=body_size hu bx
      have hzb:Hid _:=body_size hR.rest bx
      go_upto_region 41 with fail
      refine RV.rs [.some (.agg (bx.L (r.l ux)).toArray),.some (.agg (bx.L (r.l (.slice o r.sh.pts.length c))).toArray),.some (.bool true),.some (.bool false),.some (.bool false),.some (.pointer (some ⟨pw,0,none⟩)),.some (.pointer (some ⟨pw,0,none⟩)),.some (.pointer (some ⟨pw,0,none⟩)),.some (.bool g),.some (.pointer (some ⟨pr,0,none⟩)),.some (.pointer (some ⟨pr,0,none⟩)),.some (.pointer (some ⟨pr,0,none⟩)),.some (.bool g),.some (.bool false),.some (.bool false)] [147,148,149,150,151,152,153,154,155,156,157,158,159,160,161] [(13,.pointer (some ⟨px,0,none⟩)),(14,.pointer (some ⟨py,0,none⟩)),(11,.pointer (some ⟨pw,0,none⟩)),(12,.pointer (some ⟨pr,0,none⟩))] (fun γ L w=>Below wc.heap.size wc w) ⟨rfl,rfl,rfl,rfl,trivial⟩ (Below.refl _ _).drew ?_ ?_
      ·intro D WA Z hD hWA hZ T
       simp only [RV.Outs,RV.Slots,Nat.reduceAdd] at T
       refine RV.cc _ (RV.pu T (fun γ v L w hl h=>h) (fun γ L a w hH hl h9 k9=>⟨_,exec_load_mid 35 _ rfl px 0 (by simp [go_sem,h9]) _ _ (HR.out.cx.step hH.glob).range Tryz.underlying35 rfl hzu.out,rfl⟩)) ?_
       refine RV.cc _ (RV.pu T (fun γ v L w hl h=>h) (fun γ L a w hH hl h9 k9=>⟨_,exec_load_mid 35 _ rfl py 0 (by simp [go_sem,h9]) _ _ (HR.out.cy.step hH.glob).range Tryz.underlying35 rfl hzb.out,rfl⟩)) ?_
       refine RV.cc _ (RV.dc (fun γ L a w hH hl hA=>by have h9:=T γ L a w hH;have k9:=hA;simp [Region.binds] at k9;exact ⟨_,_,by simp [go_sem,h9,k9],Calls.mono (same12_yes bx r ux _ w (HLu.out.below hH.glob) (hL.below (b_step HR.out.below hH.glob))) (by rintro e w2 ⟨rfl,hb⟩;exact ⟨_,rfl,rfl,fun j v _ h=>h.keep _,b_step hH.glob hb.out⟩)⟩)) ?_
       iterate 2 (refine RV.cc _ (RV.pu T (fun γ v L w hl h=>h) (fun γ L a w hH hl h9 k9=>⟨_,?_,rfl⟩)) ?_;· simp [Region.binds] at k9;simp [execOp,go_sem,h9,k9])
       (refine RV.cc _ (RV.dg rfl (by rw [<- hD];rfl) (fun v w h=>h) (by simp) (RV.pu T (fun γ v L w hl h=>h) (fun γ L a w hH hl h9 k9=>⟨_,?_,rfl⟩))) ?_;· simp [execOp,go_sem,h9])
       iterate 2 (refine RV.cc _ (RV.dg rfl (by rw [<- hD];rfl) (fun v w h=>h) (by simp) (RV.pu T (fun γ v L w hl h=>h) (fun γ L a w hH hl h9 k9=>⟨_,?_,rfl⟩))) ?_;· simp [Region.binds] at k9;simp [execOp,go_sem,h9,k9])
       (refine RV.cc _ (RV.dg rfl (by rw [<- hD];rfl) (fun v w h=>h) (by simp) (RV.pu T (fun γ v L w hl h=>h) (fun γ L a w hH hl h9 k9=>⟨_,?_,rfl⟩))) ?_;· have q0:=((HR.out.cw.step hH.glob) 0 _ rfl).1;simp [Region.binds] at k9;simp [execOp,go_sem,h9,k9,q0])
       (refine RV.cc _ (RV.dg rfl (by rw [<- hD];rfl) (fun v w h=>h) (by simp) (RV.pu T (fun γ v L w hl h=>h) (fun γ L a w hH hl h9 k9=>⟨_,?_,rfl⟩))) ?_;· simp [execOp,go_sem,h9])
       iterate 2 (refine RV.cc _ (RV.dg rfl (by rw [<- hD];rfl) (fun v w h=>h) (by simp) (RV.pu T (fun γ v L w hl h=>h) (fun γ L a w hH hl h9 k9=>⟨_,?_,rfl⟩))) ?_;· simp [Region.binds] at k9;simp [execOp,go_sem,h9,k9])
       (refine RV.cc _ (RV.dg rfl (by rw [<- hD];rfl) (fun v w h=>h) (by simp) (RV.pu T (fun γ v L w hl h=>h) (fun γ L a w hH hl h9 k9=>⟨_,?_,rfl⟩))) ?_;· have q0:=((HR.out.cr.step hH.glob) 0 _ rfl).1;simp [Region.binds] at k9;simp [execOp,go_sem,h9,k9,q0])
       (refine RV.cc _ (RV.dg rfl (by rw [<- hD];rfl) (fun v w h=>h) (by simp) (RV.pu T (fun γ v L w hl h=>h) (fun γ L a w hH hl h9 k9=>⟨_,?_,rfl⟩))) ?_;· simp [Region.binds] at k9;simp [execOp,go_sem,h9,k9])
       (refine RV.cc _ (RV.pu T (fun γ v L w hl h=>h) (fun γ L a w hH hl h9 k9=>⟨_,?_,rfl⟩)) ?_;· simp [Region.binds] at k9;simp [execOp,go_sem,h9,k9])
       exact RV.AllDo.nil
      ·intro γ w5 L9 hL9 hI9 hG9
       simp only [RV.putL,Act.put,List.setIfInBounds_toArray,List.set_cons_zero,List.set_cons_succ]
       have HS2:Hid (BS _ _ _ _ _ _ _ _):=⟨b_step HR.out.below hG9,HR.out.cb.step hG9,HR.out.ca.step hG9,HR.out.cj.step hG9,HR.out.o.1,HR.out.o.2.1,HR.out.o.2.2.1,by have:=HR.out.o.2.2.2.1;have h7:=CW.lt HR.out.cw;have:=hG9.size;omega⟩
       clear hI9 hL9 hG9 HR HLu
       go_wp2_with (fail)
       go_roundg gm
       case rel=>exact ⟨k + 1,by omega,by go_num,HS2⟩
       omega
 ·have h41:(40:Int) < ((r.sh.pts.length:Nat):Int):=by omega
  go_wp2
  go_ret
  exact ⟨rfl,HBV.out⟩
theorem lifted (os:Os) (started:os.Started) (H:Type) (enc:TypeId × Value->H) :
  ReturnsInHanded {} Tryz.checked os 3 .any (Rows.bodyTellsSpec.pre6 enc Tryz.prog Tryz.f3 Rows.bodyTellsRow.domain false) (Rows.bodyTellsSpec.post enc Tryz.prog Tryz.f3 false true false false):=by
 refine returnsInHanded_of_change (C:=Tryz.checked) own started (by kernel_rfl) Tryz.func3
  (ChangeSpec.witness6 (enc:=enc) (C:=Tryz.checked) false ⟨#[],#[.agg #[.int .i64 0,.int .i64 0,.int .i64 0,.int .i64 0,.int .i64 0,.int .i64 0,.int .i64 0,.int .i64 0,.int .i64 0,.int .i64 0,.int .i64 0,.int .i64 0,.int .i64 0,.int .i64 0,.int .i64 0,.int .i64 0,.int .i64 0,.int .i64 0,.int .i64 0,.int .i64 0,.int .i64 0,.int .i64 0,.int .i64 0,.slice none 0 0,.int .i64 0,.int .i64 0,.int .i64 0,.bool false,.int .i64 0,.bool false,.bool false],.agg #[.int .i64 0,.int .i64 0,.int .i64 0],.agg #[.int .i64 0,.int .i64 0,.int .i64 0],.int .i64 0],[]⟩ 8 (by kernel_rfl) (by kernel_rfl) (by kernel_rfl) (by kernel_rfl)) ?_
 intro W base args ds gs before hval0 hW hcnd _
 have hval:∀ (j:Nat) t v,Tryz.f3.params[j]? = some t->args[j]? = some v->Value.okWide Tryz.prog W .any base t v:=hval0
 have hW':=hW
 obtain ⟨p,q,hA0,hV,rfl,hfz,hnd⟩:=hW
 have hA:DataW.TrodAll enc Tryz.prog W 0 (fun _=>true) true Tryz.f3.params.toList args.toList ds p:=hA0
 rw [Tryz.params3] at hA hval
 obtain ⟨v0,vs0,d0,ds0,p0,q0,hargs,rfl,rfl,h0,r0⟩:=trodAll_cons hA
 obtain ⟨v1,vs1,d1,ds1,p1,q1,rfl,rfl,rfl,h1,r1⟩:=trodAll_cons r0
 obtain ⟨v2,vs2,d2,ds2,p2,q2,rfl,rfl,rfl,h2,r2⟩:=trodAll_cons r1
 obtain ⟨v3,vs3,d3,ds3,p3,q3,rfl,rfl,rfl,h3,r3⟩:=trodAll_cons r2
 obtain ⟨rfl,rfl,rfl⟩:=trodAll_nil r3
 obtain rfl:args = #[v0,v1,v2,v3]:=by cases args;simp_all
 obtain ⟨rfl,rfl⟩:=trodVars_none hV
 have k0:=h0
 have lt0:∀ x ∈ p0,x.block < W.heap.size:=by obtain ⟨m,hm⟩:=k0;exact DataW.trod_lt m _ _ _ hm
 obtain ⟨bb0,rr0,oo0,cc0,rfl,hL0,hbs0⟩:=open_body (hval 0 35 v0 rfl rfl) h0
 have k1:=h1
 have lt1:∀ x ∈ p1,x.block < W.heap.size:=by obtain ⟨m,hm⟩:=k1;exact DataW.trod_lt m _ _ _ hm
 obtain ⟨am1,rfl⟩:=open_vec12 (hval 1 23 v1 rfl rfl) h1
 have k2:=h2
 have lt2:∀ x ∈ p2,x.block < W.heap.size:=by obtain ⟨m,hm⟩:=k2;exact DataW.trod_lt m _ _ _ hm
 obtain ⟨am2,rfl⟩:=open_vec12 (hval 2 23 v2 rfl rfl) h2
 obtain ⟨a3,rfl,rfl,rfl,w3⟩:=open_int Tryz.underlying3 (hval 3 3 v3 rfl rfl) h3
 have b3:=bounds_i64 w3
 clear hA0 hval0
 refine (walk bb0 rr0 oo0 cc0 am1 am2 a3 W hL0 hbs0 (by omega)).mono fun e W' ⟨he,bel⟩=>?_
 subst he
 exact ⟨_,rfl,_,_,_,[],_,[],hW',trodAll_mk1 (shut_bool Tryz.underlying4 _),(trodAll_cons_mk (Below.trod laidOut (by kernel_rfl) (of_decide_eq_true (by kernel_rfl)) k0 bel lt0) (trodAll_cons_mk (Below.trod laidOut (by kernel_rfl) (of_decide_eq_true (by kernel_rfl)) k1 bel lt1) (trodAll_cons_mk (Below.trod laidOut (by kernel_rfl) (of_decide_eq_true (by kernel_rfl)) k2 bel lt2) (trodAll_cons_mk (shut_int Tryz.underlying3 w3) trodAll_mk0)))),rfl,bel.frame _,fun h=>by cases h⟩
theorem over:Rows.bodyTellsRow.holds Tryz.pinned (OpenSpec.ofChange Rows.bodyTellsSpec):=
 OpenClaim.holds_of_wide 3 Tryz.f3 rfl rfl rfl rfl rfl rfl rfl ⟨rfl,rfl,rfl,rfl,rfl⟩ rfl rfl rfl rfl rfl (by kernel_rfl) Tryz.func3 (by kernel_rfl)
  (of_decide_eq_true (by kernel_rfl)) (by unfold Func.isWrapper;first | (rw [if_pos (by decide +kernel)];kernel_rfl) | (rw [if_neg (by decide +kernel)];exact ⟨rfl,rfl⟩))
  (fun os started H enc _=>lifted os started H enc)
end bodyTells
theorem bodyTells_holds:Rows.BodyTellsSaid:=bodyTells.over
#print axioms bodyTells_holds
end
end Go.Proofs.YtpjaacpcdomfiaaGreat
