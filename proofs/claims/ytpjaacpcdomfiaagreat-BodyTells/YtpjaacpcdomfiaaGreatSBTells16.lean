/- The document's own layer 12: speeds, pushes, falls, and what moves. -/
import Derived.Test.YtpjaacpcdomfiaaGreatSBTells0
import Derived.Test.YtpjaacpcdomfiaaGreatSBTells15
import Derived.Test.YtpjaacpcdomfiaaGreatSBTells12
set_option maxHeartbeats 2000000
set_option maxRecDepth 100000
set_option linter.unusedVariables false
namespace Go.Proofs.YtpjaacpcdomfiaaGreat
section
open Go.RowKit Go.Shelf Fx
theorem rspeed_any (fb fo:Nat) (f:Bool) (b:Bd) (R0:List Value) (W:World) (hc:W.cell? ⟨fb,fo,none⟩ = some (.bool f)) (hf:W.frozen? ⟨fb,fo,none⟩ = false) :
  Calls Tryz.prog 15 #[.pointer (some ⟨fb,fo,none⟩),.agg (b.L R0).toArray] W fun e W'=>e = .returned (if2 b.k (spdV b)).val/\Hid (After ⟨fb,fo,none⟩ (f || if2B b.k (spdB b)) W W'):=by
 have hbW:fb < W.heap.size:=World.block_lt_of_cell? _ _ hc
 obtain ⟨V,hV⟩:∃ V,V = ((W.alloc (.cells (b.L R0).toArray 35)).alloc (.cells #[.int .i64 0,.int .i64 0,.int .i64 0] 23)):=⟨_,rfl⟩
 have hb0:=n_after W (.cells (b.L R0).toArray 35)
 have hb1:=n_after (W.alloc (.cells (b.L R0).toArray 35)) (.cells #[.int .i64 0,.int .i64 0,.int .i64 0] 23)
 have Cb:CW V (W.heap.size) (b.L R0):=by
  have h9:=(CW.new W (b.L R0) 35).step hb1
  rw [hV];exact h9
 have Cs:CW V (W.heap.size + 1) [.int .i64 0,.int .i64 0,.int .i64 0]:=by
  have h9:=CW.new (W.alloc (.cells (b.L R0).toArray 35)) [.int .i64 0,.int .i64 0,.int .i64 0] 23
  simp only [World.size_alloc] at h9
  rw [hV];exact h9
 have hB:Below W.heap.size W V:=by rw [hV];exact (b_step hb0 hb1)
 have hcV:=c_after hB hc
 have hfV:=f_after hB hc hf
 have HLV:Hid (Leaves ⟨fb,fo,none⟩ W V):=(Leaves.refl _ _).step hB
 clear hb0 hb1
 clear hc hf hB
 obtain ⟨v9,hv9⟩:∃ v,v = if2 b.k (spdV b):=⟨_,rfl⟩
 obtain ⟨g9,hg9⟩:∃ g,g = if2B b.k (spdB b):=⟨_,rfl⟩
 rw [<- hv9,<- hg9]
 have HE:Hid _:=And.intro hv9 hg9
 clear hv9 hg9
 go_enter Tryz.func15,Tryz.ntmps15
 go_upto_region 1 with fail
 rw [<- hV]
 clear hV
 obtain ⟨ps,hps⟩:∃ p,p = W.heap.size + 1:=⟨_,rfl⟩
 obtain ⟨pb,hpb⟩:∃ p,p = W.heap.size:=⟨_,rfl⟩
 rw [<- hps] at Cs
 rw [<- hpb] at Cb
 rw [<- hps,<- hpb]
 have nb:pb ≠ fb:=by omega
 have ns:ps ≠ fb:=by omega
 have ns':fb ≠ ps:=by omega
 have hWs:W.heap.size <= ps:=by omega
 clear hpb hps
 have k0:=(Cb 0 _ rfl).1
 by_cases hk:b.k = 2
 ·rw [hk] at k0
  have HV9:Hid (v9 = spdV b):=by have h9:=HE.out.1;rw [if2,if_pos hk] at h9;exact h9
  have HG9:Hid (g9 = (spdB b)):=by have h9:=HE.out.2;rw [if2B,if_pos hk] at h9;exact h9
  clear HE
  go_upto_region 3 with fail
  refine RV.rs [.some (.pointer (some ⟨fb,fo,none⟩)),.some (.pointer (some ⟨pb,8,none⟩)),.some (.pointer (some ⟨pb,8,none⟩)),.some (.int .i64 b.p.x),.some (.pointer (some ⟨pb,14,none⟩)),.some (.pointer (some ⟨pb,14,none⟩)),.some (.int .i64 b.m),.some (.int .i64 (dv1 b.p.x b.m)),.some (.pointer (some ⟨fb,fo,none⟩)),.some (.pointer (some ⟨pb,8,none⟩)),.some (.pointer (some ⟨pb,9,none⟩)),.some (.int .i64 b.p.y),.some (.pointer (some ⟨pb,14,none⟩)),.some (.pointer (some ⟨pb,14,none⟩)),.some (.int .i64 b.m),.some (.int .i64 (dv1 b.p.y b.m)),.some (.pointer (some ⟨fb,fo,none⟩)),.some (.pointer (some ⟨pb,8,none⟩)),.some (.pointer (some ⟨pb,10,none⟩)),.some (.int .i64 b.p.z),.some (.pointer (some ⟨pb,14,none⟩)),.some (.pointer (some ⟨pb,14,none⟩)),.some (.int .i64 b.m),.some (.int .i64 (dv1 b.p.z b.m)),.some (.agg #[.int .i64 (dv1 b.p.x b.m),.int .i64 (dv1 b.p.y b.m),.int .i64 (dv1 b.p.z b.m)]),none] [10,11,12,13,14,15,16,17,18,19,20,21,22,23,24,25,26,27,28,29,30,31,32,33,34,0] [(0,.pointer (some ⟨fb,fo,none⟩)),(3,.pointer (some ⟨pb,0,none⟩)),(4,.pointer (some ⟨ps,0,none⟩))] (fun γ L w9=>FGS V ⟨fb,fo,none⟩ f [(7,dv1B b.p.x b.m),(15,dv1B b.p.y b.m),(23,dv1B b.p.z b.m)] 25 (fun w=>(((w.setCell ⟨ps,0,none⟩ (.int .i64 (dv1 b.p.x b.m))).setCell ⟨ps,1,none⟩ (.int .i64 (dv1 b.p.y b.m))).setCell ⟨ps,2,none⟩ (.int .i64 (dv1 b.p.z b.m)))) L w9) ⟨rfl,rfl,rfl,trivial⟩ ?_ ?_ ?_
  ·exact FGS.start hcV hfV
  ·intro D WA Z hD hWA hZ T
   simp only [RV.Outs,RV.Slots,Nat.reduceAdd] at T
   iterate 7 first
    | (refine RV.cc _ (RV.pu T (fun γ v L w hl h=>h.stay (by decide) rfl) (fun γ L a w hH hl h9 k9=>⟨_,?_,rfl⟩)) ?_;· simp [execOp,go_sem,h9])
    | (refine RV.cc _ (RV.pu T (fun γ v L w hl h=>h.stay (by decide) rfl) (fun γ L a w hH hl h9 k9=>⟨_,?_,rfl⟩)) ?_;· simp [Region.binds] at k9;simp [execOp,go_sem,h9,k9])
    | (refine RV.cc _ (RV.pu T (fun γ v L w hl h=>h.stay (by decide) rfl) (fun γ L a w hH hl h9 k9=>⟨_,?_,rfl⟩)) ?_;· have hG:=hH.glob.early (RV.ny hH (RV.wt (j:=25) hWA (by kernel_rfl)) hl);have q0:=hG.at (Cb 8 _ rfl).1 nb;have q1:=hG.at (Cb 14 _ rfl).1 nb;simp [Region.binds] at k9;simp [execOp,go_sem,h9,k9,q0,q1])
   refine RV.cc _ (RV.dc (fun γ L a w hH hl hA=>by have h9:=T γ L a w hH;have k9:=hA;simp [Region.binds] at k9;have hG:=hH.glob.early (RV.ny hH (RV.wt (j:=25) (i:=7) hWA (by kernel_rfl)) hl);exact ⟨52,#[.pointer (some ⟨fb,fo,none⟩),.int .i64 b.p.x,.int .i64 b.m],by simp [go_sem,h9,k9],Calls.mono (rdv1_c fb fo _ b.p.x b.m w hG.cell hG.frozen) (by rintro e w2 ⟨rfl,ha⟩;exact ⟨_,rfl,rfl,fun j v _ h=>h.keep _,FGS.come hG (by decide) (RV.ny hH (RV.wt (j:=25) (i:=7) hWA (by kernel_rfl)) hl) hl rfl ha.out⟩)⟩)) ?_
   iterate 7 first
    | (refine RV.cc _ (RV.pu T (fun γ v L w hl h=>h.stay (by decide) rfl) (fun γ L a w hH hl h9 k9=>⟨_,?_,rfl⟩)) ?_;· simp [execOp,go_sem,h9])
    | (refine RV.cc _ (RV.pu T (fun γ v L w hl h=>h.stay (by decide) rfl) (fun γ L a w hH hl h9 k9=>⟨_,?_,rfl⟩)) ?_;· simp [Region.binds] at k9;simp [execOp,go_sem,h9,k9])
    | (refine RV.cc _ (RV.pu T (fun γ v L w hl h=>h.stay (by decide) rfl) (fun γ L a w hH hl h9 k9=>⟨_,?_,rfl⟩)) ?_;· have hG:=hH.glob.early (RV.ny hH (RV.wt (j:=25) hWA (by kernel_rfl)) hl);have q0:=hG.at (Cb 9 _ rfl).1 nb;have q1:=hG.at (Cb 14 _ rfl).1 nb;simp [Region.binds] at k9;simp [execOp,go_sem,h9,k9,q0,q1])
   refine RV.cc _ (RV.dc (fun γ L a w hH hl hA=>by have h9:=T γ L a w hH;have k9:=hA;simp [Region.binds] at k9;have hG:=hH.glob.early (RV.ny hH (RV.wt (j:=25) (i:=15) hWA (by kernel_rfl)) hl);exact ⟨52,#[.pointer (some ⟨fb,fo,none⟩),.int .i64 b.p.y,.int .i64 b.m],by simp [go_sem,h9,k9],Calls.mono (rdv1_c fb fo _ b.p.y b.m w hG.cell hG.frozen) (by rintro e w2 ⟨rfl,ha⟩;exact ⟨_,rfl,rfl,fun j v _ h=>h.keep _,FGS.come hG (by decide) (RV.ny hH (RV.wt (j:=25) (i:=15) hWA (by kernel_rfl)) hl) hl rfl ha.out⟩)⟩)) ?_
   iterate 7 first
    | (refine RV.cc _ (RV.pu T (fun γ v L w hl h=>h.stay (by decide) rfl) (fun γ L a w hH hl h9 k9=>⟨_,?_,rfl⟩)) ?_;· simp [execOp,go_sem,h9])
    | (refine RV.cc _ (RV.pu T (fun γ v L w hl h=>h.stay (by decide) rfl) (fun γ L a w hH hl h9 k9=>⟨_,?_,rfl⟩)) ?_;· simp [Region.binds] at k9;simp [execOp,go_sem,h9,k9])
    | (refine RV.cc _ (RV.pu T (fun γ v L w hl h=>h.stay (by decide) rfl) (fun γ L a w hH hl h9 k9=>⟨_,?_,rfl⟩)) ?_;· have hG:=hH.glob.early (RV.ny hH (RV.wt (j:=25) hWA (by kernel_rfl)) hl);have q0:=hG.at (Cb 10 _ rfl).1 nb;have q1:=hG.at (Cb 14 _ rfl).1 nb;simp [Region.binds] at k9;simp [execOp,go_sem,h9,k9,q0,q1])
   refine RV.cc _ (RV.dc (fun γ L a w hH hl hA=>by have h9:=T γ L a w hH;have k9:=hA;simp [Region.binds] at k9;have hG:=hH.glob.early (RV.ny hH (RV.wt (j:=25) (i:=23) hWA (by kernel_rfl)) hl);exact ⟨52,#[.pointer (some ⟨fb,fo,none⟩),.int .i64 b.p.z,.int .i64 b.m],by simp [go_sem,h9,k9],Calls.mono (rdv1_c fb fo _ b.p.z b.m w hG.cell hG.frozen) (by rintro e w2 ⟨rfl,ha⟩;exact ⟨_,rfl,rfl,fun j v _ h=>h.keep _,FGS.come hG (by decide) (RV.ny hH (RV.wt (j:=25) (i:=23) hWA (by kernel_rfl)) hl) hl rfl ha.out⟩)⟩)) ?_
   (refine RV.cc _ (RV.pu T (fun γ v L w hl h=>h.stay (by decide) rfl) (fun γ L a w hH hl h9 k9=>⟨_,?_,rfl⟩)) ?_;· simp [Region.binds] at k9;simp [execOp,go_sem,h9,k9])
   refine RV.cc _ (RV.does_store (fun γ L a w hH hl hA=>by have h9:=T γ L a w hH;have k9:=hA;simp [Region.binds] at k9;have hG:=hH.glob.early hl;have z0:=hG.at (Cs 0 _ rfl).1 ns;have zf0:=hG.open (Cs 0 _ rfl).1 (Cs 0 _ rfl).2 ns;have z1:=hG.at (Cs 1 _ rfl).1 ns;have zf1:=hG.open (Cs 1 _ rfl).1 (Cs 1 _ rfl).2 ns;have z2:=hG.at (Cs 2 _ rfl).1 ns;have zf2:=hG.open (Cs 2 _ rfl).1 (Cs 2 _ rfl).2 ns;exact ⟨(((w.setCell ⟨ps,0,none⟩ (.int .i64 (dv1 b.p.x b.m))).setCell ⟨ps,1,none⟩ (.int .i64 (dv1 b.p.y b.m))).setCell ⟨ps,2,none⟩ (.int .i64 (dv1 b.p.z b.m))),by simp [execOp,go_sem,z0,zf0,z1,zf1,z2,zf2,h9,k9],trivial,fun j v _ h=>h.keep _,FGS.store (S:=fun w=>(((w.setCell ⟨ps,0,none⟩ (.int .i64 (dv1 b.p.x b.m))).setCell ⟨ps,1,none⟩ (.int .i64 (dv1 b.p.y b.m))).setCell ⟨ps,2,none⟩ (.int .i64 (dv1 b.p.z b.m)))) hG rfl⟩)) ?_
   exact RV.AllDo.nil
  ·intro γ w5 L9 hL hI9 hG9
   obtain ⟨w8,hF8,rfl⟩:=hG9.late (hL 25 (by decide))
   have hFL:orL f [(7,dv1B b.p.x b.m),(15,dv1B b.p.y b.m),(23,dv1B b.p.z b.m)] L9 = (f || (dv1B b.p.x b.m || dv1B b.p.y b.m || dv1B b.p.z b.m)):=by unfold orL;simp only [List.any_cons,List.any_nil,hL 7 (by decide),hL 15 (by decide),hL 23 (by decide),Bool.true_and,Bool.or_false,Bool.or_assoc]
   have HA8:Hid (After _ _ _ _):=hF8.leaves.done hF8.cell hF8.frozen
   rw [hFL] at HA8
   clear hF8 hFL
   clear hL hI9 hG9
   simp only [RV.putL,Act.put,List.setIfInBounds_toArray,List.set_cons_zero,List.set_cons_succ]
   obtain ⟨r0,q0⟩:=(Cs.after HA8.out ns) 0 _ rfl
   obtain ⟨r1,q1⟩:=(Cs.after HA8.out ns) 1 _ rfl
   obtain ⟨r2,q2⟩:=(Cs.after HA8.out ns) 2 _ rfl
   have HL:Hid (Leaves ⟨fb,fo,none⟩ W _):=HLV.out.same HA8.out
   have hc8:=HA8.out.cell
   have hf8:=HA8.out.frozen
   clear HA8
   go_wp2_with (fail)
   refine bodyPost_ret (by simp [results,Tryz.results15,go_sem,r0,r1,r2];try rfl) rfl ?_
   refine ⟨by have h9:=HV9.out;subst h9;rfl,(((HL.out.set hWs _).set hWs _).set hWs _).done ?_ ?_⟩
   ·rw [HG9.out];simp [go_sem,hc8,spdB,divB]
   ·simp [go_sem,hf8]
 ·have hk2:(b.k == 2) = false:=by simpa using hk
  have HV9:Hid (v9 = ⟨0,0,0⟩):=by have h9:=HE.out.1;rw [if2,if_neg hk] at h9;exact h9
  have HG9:Hid (g9 = false):=by have h9:=HE.out.2;rw [if2B,if_neg hk] at h9;exact h9
  clear HE
  obtain ⟨r0,q0⟩:=Cs 0 _ rfl
  obtain ⟨r1,q1⟩:=Cs 1 _ rfl
  obtain ⟨r2,q2⟩:=Cs 2 _ rfl
  clear Cb Cs
  go_wp2_with (fail)
  refine bodyPost_ret (by simp [results,Tryz.results15,go_sem,r0,r1,r2];try rfl) rfl ?_
  refine ⟨by have h9:=HV9.out;subst h9;rfl,(((HLV.out.set hWs _).set hWs _).set hWs _).done ?_ ?_⟩
  ·rw [HG9.out,Bool.or_false];simp [go_sem,hcV]
  ·simp [go_sem,hfV]
theorem ryield_any (fb fo:Nat) (f:Bool) (b:Bd) (R0:List Value) (l:V3) (W:World) (hc:W.cell? ⟨fb,fo,none⟩ = some (.bool f)) (hf:W.frozen? ⟨fb,fo,none⟩ = false) :
  Calls Tryz.prog 19 #[.pointer (some ⟨fb,fo,none⟩),.agg (b.L R0).toArray,l.val] W fun e W'=>e = .returned (if2 b.k (yldV b l)).val/\Hid (After ⟨fb,fo,none⟩ (f || if2B b.k (yldB b l)) W W'):=by
 have hbW:fb < W.heap.size:=World.block_lt_of_cell? _ _ hc
 obtain ⟨V,hV⟩:∃ V,V = (((W.alloc (.cells (b.L R0).toArray 35)).alloc (.cells #[.int .i64 l.x,.int .i64 l.y,.int .i64 l.z] 23)).alloc (.cells #[.int .i64 0,.int .i64 0,.int .i64 0] 23)):=⟨_,rfl⟩
 have hb0:=n_after W (.cells (b.L R0).toArray 35)
 have hb1:=n_after (W.alloc (.cells (b.L R0).toArray 35)) (.cells #[.int .i64 l.x,.int .i64 l.y,.int .i64 l.z] 23)
 have hb2:=n_after ((W.alloc (.cells (b.L R0).toArray 35)).alloc (.cells #[.int .i64 l.x,.int .i64 l.y,.int .i64 l.z] 23)) (.cells #[.int .i64 0,.int .i64 0,.int .i64 0] 23)
 have Cb:CW V (W.heap.size) (b.L R0):=by
  have h9:=((CW.new W (b.L R0) 35).step hb1).step hb2
  rw [hV];exact h9
 have Cl:CW V (W.heap.size + 1) [.int .i64 l.x,.int .i64 l.y,.int .i64 l.z]:=by
  have h9:=(CW.new (W.alloc (.cells (b.L R0).toArray 35)) [.int .i64 l.x,.int .i64 l.y,.int .i64 l.z] 23).step hb2
  simp only [World.size_alloc] at h9
  rw [hV];exact h9
 have Cs:CW V (W.heap.size + 1 + 1) [.int .i64 0,.int .i64 0,.int .i64 0]:=by
  have h9:=CW.new ((W.alloc (.cells (b.L R0).toArray 35)).alloc (.cells #[.int .i64 l.x,.int .i64 l.y,.int .i64 l.z] 23)) [.int .i64 0,.int .i64 0,.int .i64 0] 23
  simp only [World.size_alloc] at h9
  rw [hV];exact h9
 have hB:Below W.heap.size W V:=by rw [hV];exact (b_step (b_step hb0 hb1) hb2)
 have hcV:=c_after hB hc
 have hfV:=f_after hB hc hf
 have HLV:Hid (Leaves ⟨fb,fo,none⟩ W V):=(Leaves.refl _ _).step hB
 clear hb0 hb1 hb2
 clear hc hf hB
 obtain ⟨v9,hv9⟩:∃ v,v = if2 b.k (yldV b l):=⟨_,rfl⟩
 obtain ⟨g9,hg9⟩:∃ g,g = if2B b.k (yldB b l):=⟨_,rfl⟩
 rw [<- hv9,<- hg9]
 have HE:Hid _:=And.intro hv9 hg9
 clear hv9 hg9
 go_enter Tryz.func19,Tryz.ntmps19
 go_upto_region 1 with fail
 rw [<- hV]
 clear hV
 obtain ⟨ps,hps⟩:∃ p,p = W.heap.size + 1 + 1:=⟨_,rfl⟩
 obtain ⟨pl,hpl⟩:∃ p,p = W.heap.size + 1:=⟨_,rfl⟩
 obtain ⟨pb,hpb⟩:∃ p,p = W.heap.size:=⟨_,rfl⟩
 rw [<- hps] at Cs
 rw [<- hpl] at Cl
 rw [<- hpb] at Cb
 rw [<- hps,<- hpl,<- hpb]
 have nb:pb ≠ fb:=by omega
 have nl:pl ≠ fb:=by omega
 have ns:ps ≠ fb:=by omega
 have ns':fb ≠ ps:=by omega
 have hWs:W.heap.size <= ps:=by omega
 clear hpb hpl hps
 have k0:=(Cb 0 _ rfl).1
 by_cases hk:b.k = 2
 ·rw [hk] at k0
  have HV9:Hid (v9 = yldV b l):=by have h9:=HE.out.1;rw [if2,if_pos hk] at h9;exact h9
  have HG9:Hid (g9 = (yldB b l)):=by have h9:=HE.out.2;rw [if2B,if_pos hk] at h9;exact h9
  clear HE
  have k4:=(Cb 4 _ rfl).1
  have k5:=(Cb 5 _ rfl).1
  have k6:=(Cb 6 _ rfl).1
  have k7:=(Cb 7 _ rfl).1
  have HC1:Hid _:=rrow_c fb fo f b.q V hcV hfV
  clear hcV hfV
  go_wp2_with (fail)
  refine Calls.mono HC1.out ?_
  rintro e W1 ⟨rfl,A⟩
  have HL1:Hid (Leaves ⟨fb,fo,none⟩ W W1):=HLV.out.same A.out
  have Cb:=Cb.after A.out nb
  have Cl:=Cl.after A.out nl
  have Cs:=Cs.after A.out ns
  have hc1:=A.out.cell
  have hf1:=A.out.frozen
  clear HC1 A k0 k4 k5 k6 k7 HLV
  go_upto_region 4 with fail
  obtain ⟨V1,hV1⟩:∃ X,X = W1.alloc (.cells #[.int .i64 (rowM b.q).a.x,.int .i64 (rowM b.q).a.y,.int .i64 (rowM b.q).a.z,.int .i64 (rowM b.q).b.x,.int .i64 (rowM b.q).b.y,.int .i64 (rowM b.q).b.z,.int .i64 (rowM b.q).c.x,.int .i64 (rowM b.q).c.y,.int .i64 (rowM b.q).c.z] 94):=⟨_,rfl⟩
  have hb:=n_after W1 (.cells #[.int .i64 (rowM b.q).a.x,.int .i64 (rowM b.q).a.y,.int .i64 (rowM b.q).a.z,.int .i64 (rowM b.q).b.x,.int .i64 (rowM b.q).b.y,.int .i64 (rowM b.q).b.z,.int .i64 (rowM b.q).c.x,.int .i64 (rowM b.q).c.y,.int .i64 (rowM b.q).c.z] 94)
  have Cm:=CW.new W1 [.int .i64 (rowM b.q).a.x,.int .i64 (rowM b.q).a.y,.int .i64 (rowM b.q).a.z,.int .i64 (rowM b.q).b.x,.int .i64 (rowM b.q).b.y,.int .i64 (rowM b.q).b.z,.int .i64 (rowM b.q).c.x,.int .i64 (rowM b.q).c.y,.int .i64 (rowM b.q).c.z] 94
  rw [<- hV1] at hb Cm ⊢
  obtain ⟨pm,hpm⟩:∃ p,p = W1.heap.size:=⟨_,rfl⟩
  rw [<- hpm] at Cm ⊢
  have nm:pm ≠ fb:=by have:=HL1.out.size;omega
  have Cb:=Cb.step hb
  have Cl:=Cl.step hb
  have Cs:=Cs.step hb
  have hf1:=f_after hb hc1 hf1
  have hc1:=c_after hb hc1
  have HL1:Hid (Leaves ⟨fb,fo,none⟩ W V1):=HL1.out.step (hb.mono HL1.out.size)
  clear hV1 hb hpm
  have l0:=(Cl 0 _ rfl).1
  have l1:=(Cl 1 _ rfl).1
  have l2:=(Cl 2 _ rfl).1
  have m0:=(Cm 0 _ rfl).1
  have m1:=(Cm 1 _ rfl).1
  have m2:=(Cm 2 _ rfl).1
  have m3:=(Cm 3 _ rfl).1
  have m4:=(Cm 4 _ rfl).1
  have m5:=(Cm 5 _ rfl).1
  have m6:=(Cm 6 _ rfl).1
  have m7:=(Cm 7 _ rfl).1
  have m8:=(Cm 8 _ rfl).1
  have HC2:Hid _:=rbck_c fb fo (f || rowB b.q) (rowM b.q) l V1 hc1 hf1
  go_wp2_with (fail)
  refine Calls.mono HC2.out ?_
  rintro e W2 ⟨rfl,A⟩
  have HL2:Hid (Leaves ⟨fb,fo,none⟩ W W2):=HL1.out.same A.out
  have Cb:=Cb.after A.out nb
  have Cm:=Cm.after A.out nm
  have Cs:=Cs.after A.out ns
  have hc2:=A.out.cell
  have hf2:=A.out.frozen
  clear HC2 A l0 l1 l2 m0 m1 m2 m3 m4 m5 m6 m7 m8 HL1 hc1 hf1 Cl
  have kf:=(Cb 15 _ rfl).1
  have kg:=(Cb 16 _ rfl).1
  have kh:=(Cb 17 _ rfl).1
  go_upto_region 5 with fail
  obtain ⟨V2,hV2⟩:∃ X,X = W2.alloc (.cells #[.int .i64 (trnV (rowM b.q).t l).x,.int .i64 (trnV (rowM b.q).t l).y,.int .i64 (trnV (rowM b.q).t l).z] 23):=⟨_,rfl⟩
  have hb:=n_after W2 (.cells #[.int .i64 (trnV (rowM b.q).t l).x,.int .i64 (trnV (rowM b.q).t l).y,.int .i64 (trnV (rowM b.q).t l).z] 23)
  have Cv:=CW.new W2 [.int .i64 (trnV (rowM b.q).t l).x,.int .i64 (trnV (rowM b.q).t l).y,.int .i64 (trnV (rowM b.q).t l).z] 23
  rw [<- hV2] at hb Cv ⊢
  obtain ⟨pv,hpv⟩:∃ p,p = W2.heap.size:=⟨_,rfl⟩
  rw [<- hpv] at Cv ⊢
  have nv:pv ≠ fb:=by have:=HL2.out.size;omega
  have Cm:=Cm.step hb
  have Cs:=Cs.step hb
  have kf:=c_after hb kf
  have kg:=c_after hb kg
  have kh:=c_after hb kh
  have hf2:=f_after hb hc2 hf2
  have hc2:=c_after hb hc2
  have HL2:Hid (Leaves ⟨fb,fo,none⟩ W V2):=HL2.out.step (hb.mono HL2.out.size)
  clear hV2 hb hpv Cb
  go_upto_region 6 with fail
  obtain ⟨V3,hV3⟩:∃ X,X = V2.alloc (.cells #[.int .i64 b.i.x,.int .i64 b.i.y,.int .i64 b.i.z] 23):=⟨_,rfl⟩
  have hb:=n_after V2 (.cells #[.int .i64 b.i.x,.int .i64 b.i.y,.int .i64 b.i.z] 23)
  have Ci:=CW.new V2 [.int .i64 b.i.x,.int .i64 b.i.y,.int .i64 b.i.z] 23
  rw [<- hV3] at hb Ci ⊢
  obtain ⟨pi,hpi⟩:∃ p,p = V2.heap.size:=⟨_,rfl⟩
  rw [<- hpi] at Ci ⊢
  have ni:pi ≠ fb:=by have:=HL2.out.size;omega
  have Cm:=Cm.step hb
  have Cs:=Cs.step hb
  have Cv:=Cv.step hb
  have hf3:=f_after hb hc2 hf2
  have hc3:=c_after hb hc2
  have HL3:Hid (Leaves ⟨fb,fo,none⟩ W V3):=HL2.out.step (hb.mono HL2.out.size)
  clear hV3 hb hpi kf kg kh HL2 hc2 hf2
  refine RV.rs [.some (.pointer (some ⟨fb,fo,none⟩)),.some (.agg #[.int .i64 ((rowM b.q).a.x),.int .i64 ((rowM b.q).a.y),.int .i64 ((rowM b.q).a.z),.int .i64 ((rowM b.q).b.x),.int .i64 ((rowM b.q).b.y),.int .i64 ((rowM b.q).b.z),.int .i64 ((rowM b.q).c.x),.int .i64 ((rowM b.q).c.y),.int .i64 ((rowM b.q).c.z)]),.some (.pointer (some ⟨fb,fo,none⟩)),.some (.pointer (some ⟨pv,0,none⟩)),.some (.int .i64 ((trnV (rowM b.q).t l).x)),.some (.pointer (some ⟨pi,0,none⟩)),.some (.int .i64 b.i.x),.some (.int .i64 (dv1 (trnV (rowM b.q).t l).x b.i.x)),.some (.pointer (some ⟨fb,fo,none⟩)),.some (.pointer (some ⟨pv,1,none⟩)),.some (.int .i64 ((trnV (rowM b.q).t l).y)),.some (.pointer (some ⟨pi,1,none⟩)),.some (.int .i64 b.i.y),.some (.int .i64 (dv1 (trnV (rowM b.q).t l).y b.i.y)),.some (.pointer (some ⟨fb,fo,none⟩)),.some (.pointer (some ⟨pv,2,none⟩)),.some (.int .i64 ((trnV (rowM b.q).t l).z)),.some (.pointer (some ⟨pi,2,none⟩)),.some (.int .i64 b.i.z),.some (.int .i64 (dv1 (trnV (rowM b.q).t l).z b.i.z)),.some (.agg #[.int .i64 (dv1 (trnV (rowM b.q).t l).x b.i.x),.int .i64 (dv1 (trnV (rowM b.q).t l).y b.i.y),.int .i64 (dv1 (trnV (rowM b.q).t l).z b.i.z)]),.some (.agg #[.int .i64 ((yldV b l).x),.int .i64 ((yldV b l).y),.int .i64 ((yldV b l).z)]),none] [27,28,29,30,31,32,33,34,35,36,37,38,39,40,41,42,43,44,45,46,47,48,0] [(0,.pointer (some ⟨fb,fo,none⟩)),(6,.pointer (some ⟨ps,0,none⟩)),(7,.pointer (some ⟨pm,0,none⟩)),(8,.pointer (some ⟨pv,0,none⟩)),(9,.pointer (some ⟨pi,0,none⟩))] (fun γ L w9=>FGS V3 ⟨fb,fo,none⟩ (f || rowB b.q || trnB (rowM b.q).t l) [(7,dv1B (trnV (rowM b.q).t l).x b.i.x),(13,dv1B (trnV (rowM b.q).t l).y b.i.y),(19,dv1B (trnV (rowM b.q).t l).z b.i.z),(21,trnB (rowM b.q) (yldM b l))] 22 (fun w=>(((w.setCell ⟨ps,0,none⟩ (.int .i64 ((yldV b l).x))).setCell ⟨ps,1,none⟩ (.int .i64 ((yldV b l).y))).setCell ⟨ps,2,none⟩ (.int .i64 ((yldV b l).z)))) L w9) ⟨rfl,rfl,rfl,rfl,rfl,trivial⟩ ?_ ?_ ?_
  ·exact FGS.start hc3 hf3
  ·intro D WA Z hD hWA hZ T
   simp only [RV.Outs,RV.Slots,Nat.reduceAdd] at T
   iterate 7 first
    | (refine RV.cc _ (RV.pu T (fun γ v L w hl h=>h.stay (by decide) rfl) (fun γ L a w hH hl h9 k9=>⟨_,?_,rfl⟩)) ?_;· simp [execOp,go_sem,h9])
    | (refine RV.cc _ (RV.pu T (fun γ v L w hl h=>h.stay (by decide) rfl) (fun γ L a w hH hl h9 k9=>⟨_,?_,rfl⟩)) ?_;· have hG:=hH.glob.early (RV.ny hH (RV.wt (j:=22) hWA (by kernel_rfl)) hl);have q0:=hG.at (Cv 0 _ rfl).1 nv;have q1:=hG.at (Ci 0 _ rfl).1 ni;simp [Region.binds] at k9;simp [execOp,go_sem,h9,k9,q0,q1])
    | (refine RV.cc _ (RV.pu T (fun γ v L w hl h=>h.stay (by decide) rfl) (fun γ L a w hH hl h9 k9=>⟨_,?_,rfl⟩)) ?_;· have hG:=hH.glob.early (RV.ny hH (RV.wt (j:=22) hWA (by kernel_rfl)) hl);have q0:=hG.at (Cm 0 _ rfl).1 nm;have q1:=hG.at (Cm 1 _ rfl).1 nm;have q2:=hG.at (Cm 2 _ rfl).1 nm;have q3:=hG.at (Cm 3 _ rfl).1 nm;have q4:=hG.at (Cm 4 _ rfl).1 nm;have q5:=hG.at (Cm 5 _ rfl).1 nm;have q6:=hG.at (Cm 6 _ rfl).1 nm;have q7:=hG.at (Cm 7 _ rfl).1 nm;have q8:=hG.at (Cm 8 _ rfl).1 nm;simp [execOp,go_sem,h9,q0,q1,q2,q3,q4,q5,q6,q7,q8])
   refine RV.cc _ (RV.dc (fun γ L a w hH hl hA=>by have h9:=T γ L a w hH;have k9:=hA;simp [Region.binds] at k9;have hG:=hH.glob.early (RV.ny hH (RV.wt (j:=22) (i:=7) hWA (by kernel_rfl)) hl);exact ⟨52,#[.pointer (some ⟨fb,fo,none⟩),.int .i64 ((trnV (rowM b.q).t l).x),.int .i64 b.i.x],by simp [go_sem,h9,k9],Calls.mono (rdv1_c fb fo _ (trnV (rowM b.q).t l).x b.i.x w hG.cell hG.frozen) (by rintro e w2 ⟨rfl,ha⟩;exact ⟨_,rfl,rfl,fun j v _ h=>h.keep _,FGS.come hG (by decide) (RV.ny hH (RV.wt (j:=22) (i:=7) hWA (by kernel_rfl)) hl) hl rfl ha.out⟩)⟩)) ?_
   iterate 5 first
    | (refine RV.cc _ (RV.pu T (fun γ v L w hl h=>h.stay (by decide) rfl) (fun γ L a w hH hl h9 k9=>⟨_,?_,rfl⟩)) ?_;· simp [execOp,go_sem,h9])
    | (refine RV.cc _ (RV.pu T (fun γ v L w hl h=>h.stay (by decide) rfl) (fun γ L a w hH hl h9 k9=>⟨_,?_,rfl⟩)) ?_;· have hG:=hH.glob.early (RV.ny hH (RV.wt (j:=22) hWA (by kernel_rfl)) hl);have q0:=hG.at (Cv 1 _ rfl).1 nv;have q1:=hG.at (Ci 1 _ rfl).1 ni;simp [Region.binds] at k9;simp [execOp,go_sem,h9,k9,q0,q1])
   refine RV.cc _ (RV.dc (fun γ L a w hH hl hA=>by have h9:=T γ L a w hH;have k9:=hA;simp [Region.binds] at k9;have hG:=hH.glob.early (RV.ny hH (RV.wt (j:=22) (i:=13) hWA (by kernel_rfl)) hl);exact ⟨52,#[.pointer (some ⟨fb,fo,none⟩),.int .i64 ((trnV (rowM b.q).t l).y),.int .i64 b.i.y],by simp [go_sem,h9,k9],Calls.mono (rdv1_c fb fo _ (trnV (rowM b.q).t l).y b.i.y w hG.cell hG.frozen) (by rintro e w2 ⟨rfl,ha⟩;exact ⟨_,rfl,rfl,fun j v _ h=>h.keep _,FGS.come hG (by decide) (RV.ny hH (RV.wt (j:=22) (i:=13) hWA (by kernel_rfl)) hl) hl rfl ha.out⟩)⟩)) ?_
   iterate 5 first
    | (refine RV.cc _ (RV.pu T (fun γ v L w hl h=>h.stay (by decide) rfl) (fun γ L a w hH hl h9 k9=>⟨_,?_,rfl⟩)) ?_;· simp [execOp,go_sem,h9])
    | (refine RV.cc _ (RV.pu T (fun γ v L w hl h=>h.stay (by decide) rfl) (fun γ L a w hH hl h9 k9=>⟨_,?_,rfl⟩)) ?_;· have hG:=hH.glob.early (RV.ny hH (RV.wt (j:=22) hWA (by kernel_rfl)) hl);have q0:=hG.at (Cv 2 _ rfl).1 nv;have q1:=hG.at (Ci 2 _ rfl).1 ni;simp [Region.binds] at k9;simp [execOp,go_sem,h9,k9,q0,q1])
   refine RV.cc _ (RV.dc (fun γ L a w hH hl hA=>by have h9:=T γ L a w hH;have k9:=hA;simp [Region.binds] at k9;have hG:=hH.glob.early (RV.ny hH (RV.wt (j:=22) (i:=19) hWA (by kernel_rfl)) hl);exact ⟨52,#[.pointer (some ⟨fb,fo,none⟩),.int .i64 ((trnV (rowM b.q).t l).z),.int .i64 b.i.z],by simp [go_sem,h9,k9],Calls.mono (rdv1_c fb fo _ (trnV (rowM b.q).t l).z b.i.z w hG.cell hG.frozen) (by rintro e w2 ⟨rfl,ha⟩;exact ⟨_,rfl,rfl,fun j v _ h=>h.keep _,FGS.come hG (by decide) (RV.ny hH (RV.wt (j:=22) (i:=19) hWA (by kernel_rfl)) hl) hl rfl ha.out⟩)⟩)) ?_
   (refine RV.cc _ (RV.pu T (fun γ v L w hl h=>h.stay (by decide) rfl) (fun γ L a w hH hl h9 k9=>⟨_,?_,rfl⟩)) ?_;· simp [Region.binds] at k9;simp [execOp,go_sem,h9,k9])
   refine RV.cc _ (RV.dc (fun γ L a w hH hl hA=>by have h9:=T γ L a w hH;have k9:=hA;simp [Region.binds] at k9;have hG:=hH.glob.early (RV.ny hH (RV.wt (j:=22) (i:=21) hWA (by kernel_rfl)) hl);exact ⟨59,#[.pointer (some ⟨fb,fo,none⟩),.agg #[.int .i64 ((rowM b.q).a.x),.int .i64 ((rowM b.q).a.y),.int .i64 ((rowM b.q).a.z),.int .i64 ((rowM b.q).b.x),.int .i64 ((rowM b.q).b.y),.int .i64 ((rowM b.q).b.z),.int .i64 ((rowM b.q).c.x),.int .i64 ((rowM b.q).c.y),.int .i64 ((rowM b.q).c.z)],.agg #[.int .i64 (dv1 (trnV (rowM b.q).t l).x b.i.x),.int .i64 (dv1 (trnV (rowM b.q).t l).y b.i.y),.int .i64 (dv1 (trnV (rowM b.q).t l).z b.i.z)]],by simp [go_sem,h9,k9],Calls.mono (rtrn_c fb fo _ (rowM b.q) (yldM b l) w hG.cell hG.frozen) (by rintro e w2 ⟨rfl,ha⟩;exact ⟨_,rfl,rfl,fun j v _ h=>h.keep _,FGS.come hG (by decide) (RV.ny hH (RV.wt (j:=22) (i:=21) hWA (by kernel_rfl)) hl) hl rfl ha.out⟩)⟩)) ?_
   refine RV.cc _ (RV.does_store (fun γ L a w hH hl hA=>by have h9:=T γ L a w hH;have k9:=hA;simp [Region.binds] at k9;have hG:=hH.glob.early hl;have z0:=hG.at (Cs 0 _ rfl).1 ns;have zf0:=hG.open (Cs 0 _ rfl).1 (Cs 0 _ rfl).2 ns;have z1:=hG.at (Cs 1 _ rfl).1 ns;have zf1:=hG.open (Cs 1 _ rfl).1 (Cs 1 _ rfl).2 ns;have z2:=hG.at (Cs 2 _ rfl).1 ns;have zf2:=hG.open (Cs 2 _ rfl).1 (Cs 2 _ rfl).2 ns;exact ⟨(((w.setCell ⟨ps,0,none⟩ (.int .i64 ((yldV b l).x))).setCell ⟨ps,1,none⟩ (.int .i64 ((yldV b l).y))).setCell ⟨ps,2,none⟩ (.int .i64 ((yldV b l).z))),by simp [execOp,go_sem,z0,zf0,z1,zf1,z2,zf2,h9,k9],trivial,fun j v _ h=>h.keep _,FGS.store (S:=fun w=>(((w.setCell ⟨ps,0,none⟩ (.int .i64 ((yldV b l).x))).setCell ⟨ps,1,none⟩ (.int .i64 ((yldV b l).y))).setCell ⟨ps,2,none⟩ (.int .i64 ((yldV b l).z)))) hG rfl⟩)) ?_
   exact RV.AllDo.nil
  ·intro γ w5 L9 hL hI9 hG9
   obtain ⟨w8,hF8,rfl⟩:=hG9.late (hL 22 (by decide))
   have hFL:orL (f || rowB b.q || trnB (rowM b.q).t l) [(7,dv1B (trnV (rowM b.q).t l).x b.i.x),(13,dv1B (trnV (rowM b.q).t l).y b.i.y),(19,dv1B (trnV (rowM b.q).t l).z b.i.z),(21,trnB (rowM b.q) (yldM b l))] L9 = ((f || rowB b.q || trnB (rowM b.q).t l) || (dv1B (trnV (rowM b.q).t l).x b.i.x || dv1B (trnV (rowM b.q).t l).y b.i.y || dv1B (trnV (rowM b.q).t l).z b.i.z || trnB (rowM b.q) (yldM b l))):=by unfold orL;simp only [List.any_cons,List.any_nil,hL 7 (by decide),hL 13 (by decide),hL 19 (by decide),hL 21 (by decide),Bool.true_and,Bool.or_false,Bool.or_assoc]
   have HA8:Hid (After _ _ _ _):=hF8.leaves.done hF8.cell hF8.frozen
   rw [hFL] at HA8
   clear hF8 hFL
   clear hL hI9 hG9
   simp only [RV.putL,Act.put,List.setIfInBounds_toArray,List.set_cons_zero,List.set_cons_succ]
   obtain ⟨r0,q0⟩:=(Cs.after HA8.out ns) 0 _ rfl
   obtain ⟨r1,q1⟩:=(Cs.after HA8.out ns) 1 _ rfl
   obtain ⟨r2,q2⟩:=(Cs.after HA8.out ns) 2 _ rfl
   have HL:Hid (Leaves ⟨fb,fo,none⟩ W _):=HL3.out.same HA8.out
   have hc8:=HA8.out.cell
   have hf8:=HA8.out.frozen
   clear HA8
   go_wp2_with (fail)
   refine bodyPost_ret (by simp [results,Tryz.results19,go_sem,r0,r1,r2];try rfl) rfl ?_
   refine ⟨by have h9:=HV9.out;subst h9;rfl,(((HL.out.set hWs _).set hWs _).set hWs _).done ?_ ?_⟩
   ·rw [HG9.out]
    simp only [World.cell?_setCell_other _ _ _ _ (fun e=>ns (Addr.mk.inj e).1),hc8]
    unfold yldB divB yldM
    simp only [Bool.or_assoc]
   ·simp [go_sem,hf8]
 ·have hk2:(b.k == 2) = false:=by simpa using hk
  have HV9:Hid (v9 = ⟨0,0,0⟩):=by have h9:=HE.out.1;rw [if2,if_neg hk] at h9;exact h9
  have HG9:Hid (g9 = false):=by have h9:=HE.out.2;rw [if2B,if_neg hk] at h9;exact h9
  clear HE
  obtain ⟨r0,q0⟩:=Cs 0 _ rfl
  obtain ⟨r1,q1⟩:=Cs 1 _ rfl
  obtain ⟨r2,q2⟩:=Cs 2 _ rfl
  clear Cb Cs
  go_wp2_with (fail)
  refine bodyPost_ret (by simp [results,Tryz.results19,go_sem,r0,r1,r2];try rfl) rfl ?_
  refine ⟨by have h9:=HV9.out;subst h9;rfl,(((HLV.out.set hWs _).set hWs _).set hWs _).done ?_ ?_⟩
  ·rw [HG9.out,Bool.or_false];simp [go_sem,hcV]
  ·simp [go_sem,hfV]
theorem rspin_any (fb fo:Nat) (f:Bool) (b:Bd) (R0:List Value) (hR:Rest R0) (W:World) (hc:W.cell? ⟨fb,fo,none⟩ = some (.bool f)) (hf:W.frozen? ⟨fb,fo,none⟩ = false) :
  Calls Tryz.prog 17 #[.pointer (some ⟨fb,fo,none⟩),.agg (b.L R0).toArray] W fun e W'=>e = .returned (if2 b.k (yldV b b.l)).val/\Hid (After ⟨fb,fo,none⟩ (f || if2B b.k (yldB b b.l)) W W'):=by
 have hbW:fb < W.heap.size:=World.block_lt_of_cell? _ _ hc
 have hz:Hid _:=body_size hR b
 obtain ⟨V,hV⟩:∃ V,V = ((W.alloc (.cells (b.L R0).toArray 35)).alloc (.cells #[.int .i64 0,.int .i64 0,.int .i64 0] 23)):=⟨_,rfl⟩
 have hb0:=n_after W (.cells (b.L R0).toArray 35)
 have hb1:=n_after (W.alloc (.cells (b.L R0).toArray 35)) (.cells #[.int .i64 0,.int .i64 0,.int .i64 0] 23)
 have Cb:CW V (W.heap.size) (b.L R0):=by
  have h9:=(CW.new W (b.L R0) 35).step hb1
  rw [hV];exact h9
 have Cs:CW V (W.heap.size + 1) [.int .i64 0,.int .i64 0,.int .i64 0]:=by
  have h9:=CW.new (W.alloc (.cells (b.L R0).toArray 35)) [.int .i64 0,.int .i64 0,.int .i64 0] 23
  simp only [World.size_alloc] at h9
  rw [hV];exact h9
 have hB:Below W.heap.size W V:=by rw [hV];exact (b_step hb0 hb1)
 have hcV:=c_after hB hc
 have hfV:=f_after hB hc hf
 have HLV:Hid (Leaves ⟨fb,fo,none⟩ W V):=(Leaves.refl _ _).step hB
 clear hb0 hb1
 clear hc hf hB
 go_enter Tryz.func17,Tryz.ntmps17
 go_upto_region 1 with fail
 rw [<- hV]
 clear hV
 obtain ⟨ps,hps⟩:∃ p,p = W.heap.size + 1:=⟨_,rfl⟩
 obtain ⟨pb,hpb⟩:∃ p,p = W.heap.size:=⟨_,rfl⟩
 rw [<- hps] at Cs
 rw [<- hpb] at Cb
 rw [<- hps,<- hpb]
 have ns:ps ≠ fb:=by omega
 have hWs:W.heap.size <= ps:=by omega
 have HRG:Hid (World.rangeAt V pb 0 (b.L R0)):=Cb.range
 have kb:=(Cb 11 _ rfl).1
 have kc:=(Cb 12 _ rfl).1
 have kd:=(Cb 13 _ rfl).1
 have HC:Hid _:=ryield_any fb fo f b R0 b.l V hcV hfV
 clear Cb hpb hps
 go_wp2_with (refine wpList_load_mid rfl 35 _ rfl pb 0 rfl _ _ HRG.out Tryz.underlying35 rfl hz.out ?_)
 refine Calls.mono HC.out ?_
 rintro e W1 ⟨rfl,A⟩
 have HL:Hid (Leaves ⟨fb,fo,none⟩ W W1):=HLV.out.same A.out
 have Cs:=Cs.after A.out ns
 obtain ⟨r0,q0⟩:=Cs 0 _ rfl
 obtain ⟨r1,q1⟩:=Cs 1 _ rfl
 obtain ⟨r2,q2⟩:=Cs 2 _ rfl
 have hc8:=A.out.cell
 have hf8:=A.out.frozen
 have n3':fb ≠ ps:=fun e=>ns e.symm
 clear HC A HRG hcV hfV HLV Cs kb kc kd
 go_wp2_with (fail)
 refine bodyPost_ret (by simp [results,Tryz.results17,go_sem,r0,r1,r2];try rfl) rfl ?_
 refine ⟨rfl,(((HL.out.set hWs _).set hWs _).set hWs _).done ?_ ?_⟩
 ·simp [go_sem,hc8]
 ·simp [go_sem,hf8]
theorem rtwist_any (fb fo:Nat) (f:Bool) (b:Bd) (R0:List Value) (jm:V3) (hR0:Rest R0) (W:World) (hc:W.cell? ⟨fb,fo,none⟩ = some (.bool f)) (hf:W.frozen? ⟨fb,fo,none⟩ = false) :
  Calls Tryz.prog 23 #[.pointer (some ⟨fb,fo,none⟩),.agg (b.L R0).toArray,jm.val] W fun e W'=>e = .returned (.agg ((ifB b (twsD b jm)).L R0).toArray)/\Hid (After ⟨fb,fo,none⟩ (f || if2B b.k (addB b.l jm)) W W'):=by
 have hbW:fb < W.heap.size:=World.block_lt_of_cell? _ _ hc
 have hR:Hid (Rest _):=hR0
 obtain ⟨V,hV⟩:∃ V,V = (((W.alloc (.cells (b.L R0).toArray 35)).alloc (.cells #[.int .i64 jm.x,.int .i64 jm.y,.int .i64 jm.z] 23)).alloc (.cells #[.int .i64 0,.int .i64 0,.int .i64 0,.int .i64 0,.int .i64 0,.int .i64 0,.int .i64 0,.int .i64 0,.int .i64 0,.int .i64 0,.int .i64 0,.int .i64 0,.int .i64 0,.int .i64 0,.int .i64 0,.int .i64 0,.int .i64 0,.int .i64 0,.int .i64 0,.int .i64 0,.int .i64 0,.int .i64 0,.int .i64 0,.slice none 0 0,.int .i64 0,.int .i64 0,.int .i64 0,.bool false,.int .i64 0,.bool false,.bool false] 35)):=⟨_,rfl⟩
 have hb0:=n_after W (.cells (b.L R0).toArray 35)
 have hb1:=n_after (W.alloc (.cells (b.L R0).toArray 35)) (.cells #[.int .i64 jm.x,.int .i64 jm.y,.int .i64 jm.z] 23)
 have hb2:=n_after ((W.alloc (.cells (b.L R0).toArray 35)).alloc (.cells #[.int .i64 jm.x,.int .i64 jm.y,.int .i64 jm.z] 23)) (.cells #[.int .i64 0,.int .i64 0,.int .i64 0,.int .i64 0,.int .i64 0,.int .i64 0,.int .i64 0,.int .i64 0,.int .i64 0,.int .i64 0,.int .i64 0,.int .i64 0,.int .i64 0,.int .i64 0,.int .i64 0,.int .i64 0,.int .i64 0,.int .i64 0,.int .i64 0,.int .i64 0,.int .i64 0,.int .i64 0,.int .i64 0,.slice none 0 0,.int .i64 0,.int .i64 0,.int .i64 0,.bool false,.int .i64 0,.bool false,.bool false] 35)
 have Cb:CW V (W.heap.size) (b.L R0):=by
  have h9:=((CW.new W (b.L R0) 35).step hb1).step hb2
  rw [hV];exact h9
 have Cj:CW V (W.heap.size + 1) [.int .i64 jm.x,.int .i64 jm.y,.int .i64 jm.z]:=by
  have h9:=(CW.new (W.alloc (.cells (b.L R0).toArray 35)) [.int .i64 jm.x,.int .i64 jm.y,.int .i64 jm.z] 23).step hb2
  simp only [World.size_alloc] at h9
  rw [hV];exact h9
 have Cr:CW V (W.heap.size + 1 + 1) [.int .i64 0,.int .i64 0,.int .i64 0,.int .i64 0,.int .i64 0,.int .i64 0,.int .i64 0,.int .i64 0,.int .i64 0,.int .i64 0,.int .i64 0,.int .i64 0,.int .i64 0,.int .i64 0,.int .i64 0,.int .i64 0,.int .i64 0,.int .i64 0,.int .i64 0,.int .i64 0,.int .i64 0,.int .i64 0,.int .i64 0,.slice none 0 0,.int .i64 0,.int .i64 0,.int .i64 0,.bool false,.int .i64 0,.bool false,.bool false]:=by
  have h9:=CW.new ((W.alloc (.cells (b.L R0).toArray 35)).alloc (.cells #[.int .i64 jm.x,.int .i64 jm.y,.int .i64 jm.z] 23)) [.int .i64 0,.int .i64 0,.int .i64 0,.int .i64 0,.int .i64 0,.int .i64 0,.int .i64 0,.int .i64 0,.int .i64 0,.int .i64 0,.int .i64 0,.int .i64 0,.int .i64 0,.int .i64 0,.int .i64 0,.int .i64 0,.int .i64 0,.int .i64 0,.int .i64 0,.int .i64 0,.int .i64 0,.int .i64 0,.int .i64 0,.slice none 0 0,.int .i64 0,.int .i64 0,.int .i64 0,.bool false,.int .i64 0,.bool false,.bool false] 35
  simp only [World.size_alloc] at h9
  rw [hV];exact h9
 have hB:Below W.heap.size W V:=by rw [hV];exact (b_step (b_step hb0 hb1) hb2)
 have hcV:=c_after hB hc
 have hfV:=f_after hB hc hf
 have HLV:Hid (Leaves ⟨fb,fo,none⟩ W V):=(Leaves.refl _ _).step hB
 clear hb0 hb1 hb2
 clear hc hf hB hR0
 obtain ⟨v9,hv9⟩:∃ v,v = ifB b (twsD b jm):=⟨_,rfl⟩
 obtain ⟨g9,hg9⟩:∃ g,g = (f || if2B b.k (addB b.l jm)):=⟨_,rfl⟩
 rw [<- hv9,<- hg9]
 have HE:Hid _:=And.intro hv9 hg9
 clear hv9 hg9
 go_enter Tryz.func23,Tryz.ntmps23
 go_upto_region 1 with fail
 rw [<- hV]
 clear hV
 obtain ⟨pr,hpr⟩:∃ p,p = W.heap.size + 1 + 1:=⟨_,rfl⟩
 obtain ⟨pj,hpj⟩:∃ p,p = W.heap.size + 1:=⟨_,rfl⟩
 obtain ⟨pb,hpb⟩:∃ p,p = W.heap.size:=⟨_,rfl⟩
 rw [<- hpr] at Cr
 rw [<- hpj] at Cj
 rw [<- hpb] at Cb
 rw [<- hpr,<- hpj,<- hpb]
 have nb:pb ≠ fb:=by omega
 have nj:pj ≠ fb:=by omega
 have nr:pr ≠ fb:=by omega
 have nr':fb ≠ pr:=by omega
 have br:pr ≠ pb:=by omega
 have bj:pj ≠ pb:=by omega
 have hWr:W.heap.size <= pr:=by omega
 have hWb:W.heap.size <= pb:=by omega
 clear hpb hpj hpr
 have hZl:([.int .i64 0,.int .i64 0,.int .i64 0,.int .i64 0,.int .i64 0,.int .i64 0,.int .i64 0,.int .i64 0,.int .i64 0,.int .i64 0,.int .i64 0,.int .i64 0,.int .i64 0,.int .i64 0,.int .i64 0,.int .i64 0,.int .i64 0,.int .i64 0,.int .i64 0,.int .i64 0,.int .i64 0,.int .i64 0,.int .i64 0,.slice none 0 0,.int .i64 0,.int .i64 0,.int .i64 0,.bool false,.int .i64 0,.bool false,.bool false]:List Value).length = 31:=rfl
 generalize ([.int .i64 0,.int .i64 0,.int .i64 0,.int .i64 0,.int .i64 0,.int .i64 0,.int .i64 0,.int .i64 0,.int .i64 0,.int .i64 0,.int .i64 0,.int .i64 0,.int .i64 0,.int .i64 0,.int .i64 0,.int .i64 0,.int .i64 0,.int .i64 0,.int .i64 0,.int .i64 0,.int .i64 0,.int .i64 0,.int .i64 0,.slice none 0 0,.int .i64 0,.int .i64 0,.int .i64 0,.bool false,.int .i64 0,.bool false,.bool false]:List Value) = zl at *
 have k0:=(Cb 0 _ rfl).1
 have HS:Hid (Clo _ _ _ _ _ _):=Clo.start hcV hfV Cb
 by_cases hk:b.k = 2
 ·rw [hk] at k0
  have HV9:Hid (v9 = twsD b jm):=by have h9:=HE.out.1;rw [ifB,if_pos hk] at h9;exact h9
  have HG9:Hid (g9 = (f || addB b.l jm)):=by have h9:=HE.out.2;rw [if2B,if_pos hk] at h9;exact h9
  clear HE
  have k8:=(Cb 11 _ rfl).1
  have k9:=(Cb 12 _ rfl).1
  have ka:=(Cb 13 _ rfl).1
  have j0:=(Cj 0 _ rfl).1
  have j1:=(Cj 1 _ rfl).1
  have j2:=(Cj 2 _ rfl).1
  have HC1:Hid _:=radd_c fb fo f b.l jm V hcV hfV
  clear hcV hfV
  go_wp2_with (fail)
  refine Calls.mono HC1.out ?_
  rintro e W1 ⟨rfl,A⟩
  have HS:Hid (Clo _ _ _ _ _ _):=HS.out.same A.out nb
  obtain ⟨r0,q0⟩:=HS.out.cw 11 _ rfl
  obtain ⟨r1,q1⟩:=HS.out.cw 12 _ rfl
  obtain ⟨r2,q2⟩:=HS.out.cw 13 _ rfl
  have HS:Hid (Clo _ _ _ _ _ _):=HS.out.set3 nb 11 (.int .i64 (addV b.l jm).x) (.int .i64 (addV b.l jm).y) (.int .i64 (addV b.l jm).z) (long31 hR.out (by decide))
  simp only [Nat.reduceAdd] at HS
  clear HC1 A k0 k8 k9 ka j0 j1 j2 Cb Cj
  go_upto_region 4 with fail
  obtain ⟨X9,hX9⟩:∃ X,X = (((W1.setCell ⟨pb,11,none⟩ (.int .i64 (addV b.l jm).x)).setCell ⟨pb,12,none⟩ (.int .i64 (addV b.l jm).y)).setCell ⟨pb,13,none⟩ (.int .i64 (addV b.l jm).z)):=⟨_,rfl⟩
  rw [<- hX9] at HS ⊢
  have HS:Hid (Clo ⟨fb,fo,none⟩ (f || addB b.l jm) pb ((twsD b jm).L R0) V X9):=HS.out
  clear r0 r1 r2 q0 q1 q2
  clear hX9
  have Cb9:=HS.out.cw
  have Cr9:=Cr.two HS.out.two nr br
  have HL9:Hid (Leaves ⟨fb,fo,none⟩ W X9):=HLV.out.two HS.out.two hbW hWb
  have hc9:=HS.out.cell
  have hf9:=HS.out.frozen
  clear HS Cr HLV
  have hz3:Hid _:=body_size hR.out ((twsD b jm))
  have hy3:Hid _:=body_size2 hR.out ((twsD b jm))
  have h13:Hid _:=hR.out.each ((twsD b jm))
  have HRG:Hid (World.rangeAt X9 pb 0 (((twsD b jm)).L R0)):=Cb9.range
  have HTH:Hid (World.there X9 pr 0 (((twsD b jm)).L R0).toArray.size):=Cr9.there31 hZl hR.out
  have HX3:Hid (World.rangeAt _ _ _ _):=(Cr9.sets (us:=((twsD b jm)).L R0) (by rw [hR.out.all,hZl])).range
  have HL4:Hid (Leaves ⟨fb,fo,none⟩ W (X9.setCells pr 0 (((twsD b jm)).L R0))):=HL9.out.sets hWr _
  have hc4:Hid _:=(out_sets (w:=X9) (vs:=((twsD b jm)).L R0) (o:=fo) nr').trans hc9
  have hf4:Hid _:=(World.frozen?_setCells pr (((twsD b jm)).L R0) 0 X9 ⟨fb,fo,none⟩).trans hf9
  generalize hcs:((twsD b jm)).L R0 = cs at *
  have HCS:Hid _:=hcs
  clear hcs Cb9 Cr9 HL9 hc9 hf9
  go_wp2_with (first | refine wpList_load_mid rfl 35 _ rfl pb 0 rfl _ _ HRG.out Tryz.underlying35 rfl hz3.out ?_ | refine wpList_store_mid rfl 35 _ _ rfl pr 0 _ rfl rfl HTH.out hy3.out h13.out ?_)
  refine bodyPost_ret (results_cell 6 35 Tryz.results23 ⟨pr,0,none⟩ rfl (run_loadVar_mid _ pr 0 35 cs _ HX3.out Tryz.underlying35 rfl hz3.out)) rfl ?_
  refine ⟨by rw [HV9.out,HCS.out],?_⟩
  rw [HG9.out]
  exact HL4.out.done hc4.out hf4.out
 ·have hk2:(b.k == 2) = false:=by simpa using hk
  have HV9:Hid (v9 = b):=by have h9:=HE.out.1;rw [ifB,if_neg hk] at h9;exact h9
  have HG9:Hid (g9 = f):=by have h9:=HE.out.2;rw [if2B,if_neg hk,Bool.or_false] at h9;exact h9
  clear HE HS
  have Cb9:=Cb
  have Cr9:=Cr
  have HL9:=HLV
  have hc9:=hcV
  have hf9:=hfV
  clear Cb Cr HLV hcV hfV Cj
  have hz3:Hid _:=body_size hR.out (b)
  have hy3:Hid _:=body_size2 hR.out (b)
  have h13:Hid _:=hR.out.each (b)
  have HRG:Hid (World.rangeAt V pb 0 ((b).L R0)):=Cb9.range
  have HTH:Hid (World.there V pr 0 ((b).L R0).toArray.size):=Cr9.there31 hZl hR.out
  have HX3:Hid (World.rangeAt _ _ _ _):=(Cr9.sets (us:=(b).L R0) (by rw [hR.out.all,hZl])).range
  have HL4:Hid (Leaves ⟨fb,fo,none⟩ W (V.setCells pr 0 ((b).L R0))):=HL9.out.sets hWr _
  have hc4:Hid _:=(out_sets (w:=V) (vs:=(b).L R0) (o:=fo) nr').trans hc9
  have hf4:Hid _:=(World.frozen?_setCells pr ((b).L R0) 0 V ⟨fb,fo,none⟩).trans hf9
  generalize hcs:(b).L R0 = cs at *
  have HCS:Hid _:=hcs
  clear hcs Cb9 Cr9 HL9 hc9 hf9
  go_wp2_with (first | refine wpList_load_mid rfl 35 _ rfl pb 0 rfl _ _ HRG.out Tryz.underlying35 rfl hz3.out ?_ | refine wpList_store_mid rfl 35 _ _ rfl pr 0 _ rfl rfl HTH.out hy3.out h13.out ?_)
  refine bodyPost_ret (results_cell 6 35 Tryz.results23 ⟨pr,0,none⟩ rfl (run_loadVar_mid _ pr 0 35 cs _ HX3.out Tryz.underlying35 rfl hz3.out)) rfl ?_
  refine ⟨by rw [HV9.out,HCS.out],?_⟩
  rw [HG9.out]
  exact HL4.out.done hc4.out hf4.out
theorem rpush_any (fb fo:Nat) (f:Bool) (b:Bd) (R0:List Value) (am jm:V3) (hR0:Rest R0) (W:World) (hc:W.cell? ⟨fb,fo,none⟩ = some (.bool f)) (hf:W.frozen? ⟨fb,fo,none⟩ = false) :
  Calls Tryz.prog 21 #[.pointer (some ⟨fb,fo,none⟩),.agg (b.L R0).toArray,am.val,jm.val] W fun e W'=>e = .returned (.agg ((ifB b (pshD b am jm)).L R0).toArray)/\Hid (After ⟨fb,fo,none⟩ (f || if2B b.k (pshB b am jm)) W W'):=by
 have hbW:fb < W.heap.size:=World.block_lt_of_cell? _ _ hc
 have hR:Hid (Rest _):=hR0
 obtain ⟨V,hV⟩:∃ V,V = ((((W.alloc (.cells (b.L R0).toArray 35)).alloc (.cells #[.int .i64 am.x,.int .i64 am.y,.int .i64 am.z] 23)).alloc (.cells #[.int .i64 jm.x,.int .i64 jm.y,.int .i64 jm.z] 23)).alloc (.cells #[.int .i64 0,.int .i64 0,.int .i64 0,.int .i64 0,.int .i64 0,.int .i64 0,.int .i64 0,.int .i64 0,.int .i64 0,.int .i64 0,.int .i64 0,.int .i64 0,.int .i64 0,.int .i64 0,.int .i64 0,.int .i64 0,.int .i64 0,.int .i64 0,.int .i64 0,.int .i64 0,.int .i64 0,.int .i64 0,.int .i64 0,.slice none 0 0,.int .i64 0,.int .i64 0,.int .i64 0,.bool false,.int .i64 0,.bool false,.bool false] 35)):=⟨_,rfl⟩
 have hb0:=n_after W (.cells (b.L R0).toArray 35)
 have hb1:=n_after (W.alloc (.cells (b.L R0).toArray 35)) (.cells #[.int .i64 am.x,.int .i64 am.y,.int .i64 am.z] 23)
 have hb2:=n_after ((W.alloc (.cells (b.L R0).toArray 35)).alloc (.cells #[.int .i64 am.x,.int .i64 am.y,.int .i64 am.z] 23)) (.cells #[.int .i64 jm.x,.int .i64 jm.y,.int .i64 jm.z] 23)
 have hb3:=n_after (((W.alloc (.cells (b.L R0).toArray 35)).alloc (.cells #[.int .i64 am.x,.int .i64 am.y,.int .i64 am.z] 23)).alloc (.cells #[.int .i64 jm.x,.int .i64 jm.y,.int .i64 jm.z] 23)) (.cells #[.int .i64 0,.int .i64 0,.int .i64 0,.int .i64 0,.int .i64 0,.int .i64 0,.int .i64 0,.int .i64 0,.int .i64 0,.int .i64 0,.int .i64 0,.int .i64 0,.int .i64 0,.int .i64 0,.int .i64 0,.int .i64 0,.int .i64 0,.int .i64 0,.int .i64 0,.int .i64 0,.int .i64 0,.int .i64 0,.int .i64 0,.slice none 0 0,.int .i64 0,.int .i64 0,.int .i64 0,.bool false,.int .i64 0,.bool false,.bool false] 35)
 have Cb:CW V (W.heap.size) (b.L R0):=by
  have h9:=(((CW.new W (b.L R0) 35).step hb1).step hb2).step hb3
  rw [hV];exact h9
 have Ca:CW V (W.heap.size + 1) [.int .i64 am.x,.int .i64 am.y,.int .i64 am.z]:=by
  have h9:=((CW.new (W.alloc (.cells (b.L R0).toArray 35)) [.int .i64 am.x,.int .i64 am.y,.int .i64 am.z] 23).step hb2).step hb3
  simp only [World.size_alloc] at h9
  rw [hV];exact h9
 have Cj:CW V (W.heap.size + 1 + 1) [.int .i64 jm.x,.int .i64 jm.y,.int .i64 jm.z]:=by
  have h9:=(CW.new ((W.alloc (.cells (b.L R0).toArray 35)).alloc (.cells #[.int .i64 am.x,.int .i64 am.y,.int .i64 am.z] 23)) [.int .i64 jm.x,.int .i64 jm.y,.int .i64 jm.z] 23).step hb3
  simp only [World.size_alloc] at h9
  rw [hV];exact h9
 have Cr:CW V (W.heap.size + 1 + 1 + 1) [.int .i64 0,.int .i64 0,.int .i64 0,.int .i64 0,.int .i64 0,.int .i64 0,.int .i64 0,.int .i64 0,.int .i64 0,.int .i64 0,.int .i64 0,.int .i64 0,.int .i64 0,.int .i64 0,.int .i64 0,.int .i64 0,.int .i64 0,.int .i64 0,.int .i64 0,.int .i64 0,.int .i64 0,.int .i64 0,.int .i64 0,.slice none 0 0,.int .i64 0,.int .i64 0,.int .i64 0,.bool false,.int .i64 0,.bool false,.bool false]:=by
  have h9:=CW.new (((W.alloc (.cells (b.L R0).toArray 35)).alloc (.cells #[.int .i64 am.x,.int .i64 am.y,.int .i64 am.z] 23)).alloc (.cells #[.int .i64 jm.x,.int .i64 jm.y,.int .i64 jm.z] 23)) [.int .i64 0,.int .i64 0,.int .i64 0,.int .i64 0,.int .i64 0,.int .i64 0,.int .i64 0,.int .i64 0,.int .i64 0,.int .i64 0,.int .i64 0,.int .i64 0,.int .i64 0,.int .i64 0,.int .i64 0,.int .i64 0,.int .i64 0,.int .i64 0,.int .i64 0,.int .i64 0,.int .i64 0,.int .i64 0,.int .i64 0,.slice none 0 0,.int .i64 0,.int .i64 0,.int .i64 0,.bool false,.int .i64 0,.bool false,.bool false] 35
  simp only [World.size_alloc] at h9
  rw [hV];exact h9
 have hB:Below W.heap.size W V:=by rw [hV];exact (b_step (b_step (b_step hb0 hb1) hb2) hb3)
 have hcV:=c_after hB hc
 have hfV:=f_after hB hc hf
 have HLV:Hid (Leaves ⟨fb,fo,none⟩ W V):=(Leaves.refl _ _).step hB
 clear hb0 hb1 hb2 hb3
 clear hc hf hB hR0
 obtain ⟨v9,hv9⟩:∃ v,v = ifB b (pshD b am jm):=⟨_,rfl⟩
 obtain ⟨g9,hg9⟩:∃ g,g = (f || if2B b.k (pshB b am jm)):=⟨_,rfl⟩
 rw [<- hv9,<- hg9]
 have HE:Hid _:=And.intro hv9 hg9
 clear hv9 hg9
 go_enter Tryz.func21,Tryz.ntmps21
 go_upto_region 1 with fail
 rw [<- hV]
 clear hV
 obtain ⟨pr,hpr⟩:∃ p,p = W.heap.size + 1 + 1 + 1:=⟨_,rfl⟩
 obtain ⟨pj,hpj⟩:∃ p,p = W.heap.size + 1 + 1:=⟨_,rfl⟩
 obtain ⟨pa,hpa⟩:∃ p,p = W.heap.size + 1:=⟨_,rfl⟩
 obtain ⟨pb,hpb⟩:∃ p,p = W.heap.size:=⟨_,rfl⟩
 rw [<- hpr] at Cr
 rw [<- hpj] at Cj
 rw [<- hpa] at Ca
 rw [<- hpb] at Cb
 rw [<- hpr,<- hpj,<- hpa,<- hpb]
 have nb:pb ≠ fb:=by omega
 have na:pa ≠ fb:=by omega
 have nj:pj ≠ fb:=by omega
 have nr:pr ≠ fb:=by omega
 have nr':fb ≠ pr:=by omega
 have br:pr ≠ pb:=by omega
 have ba:pa ≠ pb:=by omega
 have bj:pj ≠ pb:=by omega
 have hWr:W.heap.size <= pr:=by omega
 have hWb:W.heap.size <= pb:=by omega
 clear hpb hpa hpj hpr
 have hZl:([.int .i64 0,.int .i64 0,.int .i64 0,.int .i64 0,.int .i64 0,.int .i64 0,.int .i64 0,.int .i64 0,.int .i64 0,.int .i64 0,.int .i64 0,.int .i64 0,.int .i64 0,.int .i64 0,.int .i64 0,.int .i64 0,.int .i64 0,.int .i64 0,.int .i64 0,.int .i64 0,.int .i64 0,.int .i64 0,.int .i64 0,.slice none 0 0,.int .i64 0,.int .i64 0,.int .i64 0,.bool false,.int .i64 0,.bool false,.bool false]:List Value).length = 31:=rfl
 generalize ([.int .i64 0,.int .i64 0,.int .i64 0,.int .i64 0,.int .i64 0,.int .i64 0,.int .i64 0,.int .i64 0,.int .i64 0,.int .i64 0,.int .i64 0,.int .i64 0,.int .i64 0,.int .i64 0,.int .i64 0,.int .i64 0,.int .i64 0,.int .i64 0,.int .i64 0,.int .i64 0,.int .i64 0,.int .i64 0,.int .i64 0,.slice none 0 0,.int .i64 0,.int .i64 0,.int .i64 0,.bool false,.int .i64 0,.bool false,.bool false]:List Value) = zl at *
 have k0:=(Cb 0 _ rfl).1
 have HS:Hid (Clo _ _ _ _ _ _):=Clo.start hcV hfV Cb
 by_cases hk:b.k = 2
 ·rw [hk] at k0
  have HV9:Hid (v9 = pshD b am jm):=by have h9:=HE.out.1;rw [ifB,if_pos hk] at h9;exact h9
  have HG9:Hid (g9 = (f || pshB b am jm)):=by have h9:=HE.out.2;rw [if2B,if_pos hk] at h9;exact h9
  clear HE
  have k8:=(Cb 8 _ rfl).1
  have k9:=(Cb 9 _ rfl).1
  have ka:=(Cb 10 _ rfl).1
  have j0:=(Cj 0 _ rfl).1
  have j1:=(Cj 1 _ rfl).1
  have j2:=(Cj 2 _ rfl).1
  have HC1:Hid _:=radd_c fb fo f b.p jm V hcV hfV
  clear hcV hfV
  go_wp2_with (fail)
  refine Calls.mono HC1.out ?_
  rintro e W1 ⟨rfl,A⟩
  have HS:Hid (Clo _ _ _ _ _ _):=HS.out.same A.out nb
  obtain ⟨r0,q0⟩:=HS.out.cw 8 _ rfl
  obtain ⟨r1,q1⟩:=HS.out.cw 9 _ rfl
  obtain ⟨r2,q2⟩:=HS.out.cw 10 _ rfl
  have HS:Hid (Clo _ _ _ _ _ _):=HS.out.set3 nb 8 (.int .i64 (addV b.p jm).x) (.int .i64 (addV b.p jm).y) (.int .i64 (addV b.p jm).z) (long31 hR.out (by decide))
  simp only [Nat.reduceAdd] at HS
  have Cj:=Cj.after A.out nj
  have Ca:=Ca.after A.out na
  have Cj:=((Cj.other (a:=⟨pb,8,none⟩) bj.symm (.int .i64 (addV b.p jm).x)).other (a:=⟨pb,9,none⟩) bj.symm (.int .i64 (addV b.p jm).y)).other (a:=⟨pb,10,none⟩) bj.symm (.int .i64 (addV b.p jm).z)
  have Ca:=((Ca.other (a:=⟨pb,8,none⟩) ba.symm (.int .i64 (addV b.p jm).x)).other (a:=⟨pb,9,none⟩) ba.symm (.int .i64 (addV b.p jm).y)).other (a:=⟨pb,10,none⟩) ba.symm (.int .i64 (addV b.p jm).z)
  clear HC1 A k0 k8 k9 ka j0 j1 j2 Cb
  go_upto_region 4 with fail
  obtain ⟨V1,hV1⟩:∃ X,X = (((W1.setCell ⟨pb,8,none⟩ (.int .i64 (addV b.p jm).x)).setCell ⟨pb,9,none⟩ (.int .i64 (addV b.p jm).y)).setCell ⟨pb,10,none⟩ (.int .i64 (addV b.p jm).z)):=⟨_,rfl⟩
  rw [<- hV1] at HS Cj Ca ⊢
  obtain ⟨b1,hb1⟩:∃ x,x = b.wp (addV b.p jm):=⟨_,rfl⟩
  have HS:Hid (Clo ⟨fb,fo,none⟩ (f || addB b.p jm) pb (b1.L R0) V V1):=by rw [hb1];exact HS.out
  have Cb:=HS.out.cw
  have hcV:=HS.out.cell
  have hfV:=HS.out.frozen
  clear hV1 r0 r1 r2 q0 q1 q2
  refine RV.rs [.some (.pointer (some ⟨fb,fo,none⟩)),.some (.pointer (some ⟨pb,11,none⟩)),.some (.agg #[.int .i64 b1.l.x,.int .i64 b1.l.y,.int .i64 b1.l.z]),.some (.pointer (some ⟨fb,fo,none⟩)),.some (.agg #[.int .i64 am.x,.int .i64 am.y,.int .i64 am.z]),.some (.agg #[.int .i64 jm.x,.int .i64 jm.y,.int .i64 jm.z]),.some (.agg #[.int .i64 ((crsV am jm).x),.int .i64 ((crsV am jm).y),.int .i64 ((crsV am jm).z)]),.some (.agg #[.int .i64 ((addV b1.l (crsV am jm)).x),.int .i64 ((addV b1.l (crsV am jm)).y),.int .i64 ((addV b1.l (crsV am jm)).z)]),.some (.pointer (some ⟨pb,11,none⟩)),none] [20,21,22,23,24,25,26,27,28,0] [(0,.pointer (some ⟨fb,fo,none⟩)),(5,.pointer (some ⟨pb,0,none⟩)),(6,.pointer (some ⟨pa,0,none⟩)),(7,.pointer (some ⟨pj,0,none⟩))] (fun γ L w9=>FGS V1 ⟨fb,fo,none⟩ (f || addB b.p jm) [(6,crsB am jm),(7,addB b1.l (crsV am jm))] 9 (fun w=>(((w.setCell ⟨pb,11,none⟩ (.int .i64 ((addV b1.l (crsV am jm)).x))).setCell ⟨pb,12,none⟩ (.int .i64 ((addV b1.l (crsV am jm)).y))).setCell ⟨pb,13,none⟩ (.int .i64 ((addV b1.l (crsV am jm)).z)))) L w9) ⟨rfl,rfl,rfl,rfl,trivial⟩ ?_ ?_ ?_
  ·exact FGS.start hcV hfV
  ·intro D WA Z hD hWA hZ T
   simp only [RV.Outs,RV.Slots,Nat.reduceAdd] at T
   iterate 6 first
    | (refine RV.cc _ (RV.pu T (fun γ v L w hl h=>h.stay (by decide) rfl) (fun γ L a w hH hl h9 k9=>⟨_,?_,rfl⟩)) ?_;· simp [execOp,go_sem,h9])
    | (refine RV.cc _ (RV.pu T (fun γ v L w hl h=>h.stay (by decide) rfl) (fun γ L a w hH hl h9 k9=>⟨_,?_,rfl⟩)) ?_;· have hG:=hH.glob.early (RV.ny hH (RV.wt (j:=9) hWA (by kernel_rfl)) hl);have q0:=hG.at (Cb 11 _ rfl).1 nb;have q1:=hG.at (Cb 12 _ rfl).1 nb;have q2:=hG.at (Cb 13 _ rfl).1 nb;simp [Region.binds] at k9;simp [execOp,go_sem,h9,k9,q0,q1,q2])
    | (refine RV.cc _ (RV.pu T (fun γ v L w hl h=>h.stay (by decide) rfl) (fun γ L a w hH hl h9 k9=>⟨_,?_,rfl⟩)) ?_;· have hG:=hH.glob.early (RV.ny hH (RV.wt (j:=9) hWA (by kernel_rfl)) hl);have q0:=hG.at (Ca 0 _ rfl).1 na;have q1:=hG.at (Ca 1 _ rfl).1 na;have q2:=hG.at (Ca 2 _ rfl).1 na;have q3:=hG.at (Cj 0 _ rfl).1 nj;have q4:=hG.at (Cj 1 _ rfl).1 nj;have q5:=hG.at (Cj 2 _ rfl).1 nj;simp [execOp,go_sem,h9,q0,q1,q2,q3,q4,q5])
   refine RV.cc _ (RV.dc (fun γ L a w hH hl hA=>by have h9:=T γ L a w hH;have k9:=hA;simp [Region.binds] at k9;have hG:=hH.glob.early (RV.ny hH (RV.wt (j:=9) (i:=6) hWA (by kernel_rfl)) hl);exact ⟨65,#[.pointer (some ⟨fb,fo,none⟩),.agg #[.int .i64 am.x,.int .i64 am.y,.int .i64 am.z],.agg #[.int .i64 jm.x,.int .i64 jm.y,.int .i64 jm.z]],by simp [go_sem,h9,k9],Calls.mono (rcrs_c fb fo _ am jm w hG.cell hG.frozen) (by rintro e w2 ⟨rfl,ha⟩;exact ⟨_,rfl,rfl,fun j v _ h=>h.keep _,FGS.come hG (by decide) (RV.ny hH (RV.wt (j:=9) (i:=6) hWA (by kernel_rfl)) hl) hl rfl ha.out⟩)⟩)) ?_
   refine RV.cc _ (RV.dc (fun γ L a w hH hl hA=>by have h9:=T γ L a w hH;have k9:=hA;simp [Region.binds] at k9;have hG:=hH.glob.early (RV.ny hH (RV.wt (j:=9) (i:=7) hWA (by kernel_rfl)) hl);exact ⟨64,#[.pointer (some ⟨fb,fo,none⟩),.agg #[.int .i64 b1.l.x,.int .i64 b1.l.y,.int .i64 b1.l.z],.agg #[.int .i64 ((crsV am jm).x),.int .i64 ((crsV am jm).y),.int .i64 ((crsV am jm).z)]],by simp [go_sem,h9,k9],Calls.mono (radd_c fb fo _ b1.l (crsV am jm) w hG.cell hG.frozen) (by rintro e w2 ⟨rfl,ha⟩;exact ⟨_,rfl,rfl,fun j v _ h=>h.keep _,FGS.come hG (by decide) (RV.ny hH (RV.wt (j:=9) (i:=7) hWA (by kernel_rfl)) hl) hl rfl ha.out⟩)⟩)) ?_
   (refine RV.cc _ (RV.pu T (fun γ v L w hl h=>h.stay (by decide) rfl) (fun γ L a w hH hl h9 k9=>⟨_,?_,rfl⟩)) ?_;· simp [execOp,go_sem,h9])
   refine RV.cc _ (RV.does_store (fun γ L a w hH hl hA=>by have h9:=T γ L a w hH;have k9:=hA;simp [Region.binds] at k9;have hG:=hH.glob.early hl;have z0:=hG.at (Cb 11 _ rfl).1 nb;have zf0:=hG.open (Cb 11 _ rfl).1 (Cb 11 _ rfl).2 nb;have z1:=hG.at (Cb 12 _ rfl).1 nb;have zf1:=hG.open (Cb 12 _ rfl).1 (Cb 12 _ rfl).2 nb;have z2:=hG.at (Cb 13 _ rfl).1 nb;have zf2:=hG.open (Cb 13 _ rfl).1 (Cb 13 _ rfl).2 nb;exact ⟨(((w.setCell ⟨pb,11,none⟩ (.int .i64 ((addV b1.l (crsV am jm)).x))).setCell ⟨pb,12,none⟩ (.int .i64 ((addV b1.l (crsV am jm)).y))).setCell ⟨pb,13,none⟩ (.int .i64 ((addV b1.l (crsV am jm)).z))),by simp [execOp,go_sem,z0,zf0,z1,zf1,z2,zf2,h9,k9],trivial,fun j v _ h=>h.keep _,FGS.store (S:=fun w=>(((w.setCell ⟨pb,11,none⟩ (.int .i64 ((addV b1.l (crsV am jm)).x))).setCell ⟨pb,12,none⟩ (.int .i64 ((addV b1.l (crsV am jm)).y))).setCell ⟨pb,13,none⟩ (.int .i64 ((addV b1.l (crsV am jm)).z)))) hG rfl⟩)) ?_
   exact RV.AllDo.nil
  ·intro γ w5 L9 hL hI9 hG9
   obtain ⟨w8,hF8,rfl⟩:=hG9.late (hL 9 (by decide))
   have hFL:orL (f || addB b.p jm) [(6,crsB am jm),(7,addB b1.l (crsV am jm))] L9 = ((f || addB b.p jm) || (crsB am jm || addB b1.l (crsV am jm))):=by unfold orL;simp only [List.any_cons,List.any_nil,hL 6 (by decide),hL 7 (by decide),Bool.true_and,Bool.or_false,Bool.or_assoc]
   have HA8:Hid (After _ _ _ _):=hF8.leaves.done hF8.cell hF8.frozen
   rw [hFL] at HA8
   clear hF8 hFL
   clear hL hI9 hG9
   simp only [RV.putL,Act.put,List.setIfInBounds_toArray,List.set_cons_zero,List.set_cons_succ]
   have HS:Hid (Clo _ _ _ _ _ _):=HS.out.same HA8.out nb
   have HS:Hid (Clo _ _ _ _ _ _):=HS.out.set3 nb 11 (.int .i64 (addV b1.l (crsV am jm)).x) (.int .i64 (addV b1.l (crsV am jm)).y) (.int .i64 (addV b1.l (crsV am jm)).z) (long31 hR.out (by decide))
   simp only [Nat.reduceAdd] at HS
   rw [Bool.or_assoc] at HS
   clear HA8
   obtain ⟨X9,hX9⟩:∃ X,X = (((w8.setCell ⟨pb,11,none⟩ (.int .i64 (addV b1.l (crsV am jm)).x)).setCell ⟨pb,12,none⟩ (.int .i64 (addV b1.l (crsV am jm)).y)).setCell ⟨pb,13,none⟩ (.int .i64 (addV b1.l (crsV am jm)).z)):=⟨_,rfl⟩
   rw [<- hX9] at HS ⊢
   have HS:Hid (Clo ⟨fb,fo,none⟩ (f || pshB b am jm) pb ((pshD b am jm).L R0) V X9):=by subst hb1;exact HS.out
   clear hb1 Cb Cj Ca hcV hfV
   clear hX9
   have Cb9:=HS.out.cw
   have Cr9:=Cr.two HS.out.two nr br
   have HL9:Hid (Leaves ⟨fb,fo,none⟩ W X9):=HLV.out.two HS.out.two hbW hWb
   have hc9:=HS.out.cell
   have hf9:=HS.out.frozen
   clear HS Cr HLV
   have hz3:Hid _:=body_size hR.out ((pshD b am jm))
   have hy3:Hid _:=body_size2 hR.out ((pshD b am jm))
   have h13:Hid _:=hR.out.each ((pshD b am jm))
   have HRG:Hid (World.rangeAt X9 pb 0 (((pshD b am jm)).L R0)):=Cb9.range
   have HTH:Hid (World.there X9 pr 0 (((pshD b am jm)).L R0).toArray.size):=Cr9.there31 hZl hR.out
   have HX3:Hid (World.rangeAt _ _ _ _):=(Cr9.sets (us:=((pshD b am jm)).L R0) (by rw [hR.out.all,hZl])).range
   have HL4:Hid (Leaves ⟨fb,fo,none⟩ W (X9.setCells pr 0 (((pshD b am jm)).L R0))):=HL9.out.sets hWr _
   have hc4:Hid _:=(out_sets (w:=X9) (vs:=((pshD b am jm)).L R0) (o:=fo) nr').trans hc9
   have hf4:Hid _:=(World.frozen?_setCells pr (((pshD b am jm)).L R0) 0 X9 ⟨fb,fo,none⟩).trans hf9
   generalize hcs:((pshD b am jm)).L R0 = cs at *
   have HCS:Hid _:=hcs
   clear hcs Cb9 Cr9 HL9 hc9 hf9
   go_wp2_with (first | refine wpList_load_mid rfl 35 _ rfl pb 0 rfl _ _ HRG.out Tryz.underlying35 rfl hz3.out ?_ | refine wpList_store_mid rfl 35 _ _ rfl pr 0 _ rfl rfl HTH.out hy3.out h13.out ?_)
   refine bodyPost_ret (results_cell 8 35 Tryz.results21 ⟨pr,0,none⟩ rfl (run_loadVar_mid _ pr 0 35 cs _ HX3.out Tryz.underlying35 rfl hz3.out)) rfl ?_
   refine ⟨by rw [HV9.out,HCS.out],?_⟩
   rw [HG9.out]
   exact HL4.out.done hc4.out hf4.out
 ·have hk2:(b.k == 2) = false:=by simpa using hk
  have HV9:Hid (v9 = b):=by have h9:=HE.out.1;rw [ifB,if_neg hk] at h9;exact h9
  have HG9:Hid (g9 = f):=by have h9:=HE.out.2;rw [if2B,if_neg hk,Bool.or_false] at h9;exact h9
  clear HE HS
  have Cb9:=Cb
  have Cr9:=Cr
  have HL9:=HLV
  have hc9:=hcV
  have hf9:=hfV
  clear Cb Cr HLV hcV hfV Ca Cj
  have hz3:Hid _:=body_size hR.out (b)
  have hy3:Hid _:=body_size2 hR.out (b)
  have h13:Hid _:=hR.out.each (b)
  have HRG:Hid (World.rangeAt V pb 0 ((b).L R0)):=Cb9.range
  have HTH:Hid (World.there V pr 0 ((b).L R0).toArray.size):=Cr9.there31 hZl hR.out
  have HX3:Hid (World.rangeAt _ _ _ _):=(Cr9.sets (us:=(b).L R0) (by rw [hR.out.all,hZl])).range
  have HL4:Hid (Leaves ⟨fb,fo,none⟩ W (V.setCells pr 0 ((b).L R0))):=HL9.out.sets hWr _
  have hc4:Hid _:=(out_sets (w:=V) (vs:=(b).L R0) (o:=fo) nr').trans hc9
  have hf4:Hid _:=(World.frozen?_setCells pr ((b).L R0) 0 V ⟨fb,fo,none⟩).trans hf9
  generalize hcs:(b).L R0 = cs at *
  have HCS:Hid _:=hcs
  clear hcs Cb9 Cr9 HL9 hc9 hf9
  go_wp2_with (first | refine wpList_load_mid rfl 35 _ rfl pb 0 rfl _ _ HRG.out Tryz.underlying35 rfl hz3.out ?_ | refine wpList_store_mid rfl 35 _ _ rfl pr 0 _ rfl rfl HTH.out hy3.out h13.out ?_)
  refine bodyPost_ret (results_cell 8 35 Tryz.results21 ⟨pr,0,none⟩ rfl (run_loadVar_mid _ pr 0 35 cs _ HX3.out Tryz.underlying35 rfl hz3.out)) rfl ?_
  refine ⟨by rw [HV9.out,HCS.out],?_⟩
  rw [HG9.out]
  exact HL4.out.done hc4.out hf4.out
theorem rfall_any (fb fo:Nat) (f:Bool) (b:Bd) (R0:List Value) (jm:V3) (n:Int) (hR0:Rest R0) (W:World) (hc:W.cell? ⟨fb,fo,none⟩ = some (.bool f)) (hf:W.frozen? ⟨fb,fo,none⟩ = false) :
  Calls Tryz.prog 25 #[.pointer (some ⟨fb,fo,none⟩),.agg (b.L R0).toArray,jm.val,.int .i64 n] W fun e W'=>e = .returned (.agg ((ifB b (fllD b jm n)).L R0).toArray)/\Hid (After ⟨fb,fo,none⟩ (f || if2B b.k (fllB b jm n)) W W'):=by
 have hbW:fb < W.heap.size:=World.block_lt_of_cell? _ _ hc
 have hR:Hid (Rest _):=hR0
 obtain ⟨V,hV⟩:∃ V,V = (((W.alloc (.cells (b.L R0).toArray 35)).alloc (.cells #[.int .i64 jm.x,.int .i64 jm.y,.int .i64 jm.z] 23)).alloc (.cells #[.int .i64 0,.int .i64 0,.int .i64 0,.int .i64 0,.int .i64 0,.int .i64 0,.int .i64 0,.int .i64 0,.int .i64 0,.int .i64 0,.int .i64 0,.int .i64 0,.int .i64 0,.int .i64 0,.int .i64 0,.int .i64 0,.int .i64 0,.int .i64 0,.int .i64 0,.int .i64 0,.int .i64 0,.int .i64 0,.int .i64 0,.slice none 0 0,.int .i64 0,.int .i64 0,.int .i64 0,.bool false,.int .i64 0,.bool false,.bool false] 35)):=⟨_,rfl⟩
 have hb0:=n_after W (.cells (b.L R0).toArray 35)
 have hb1:=n_after (W.alloc (.cells (b.L R0).toArray 35)) (.cells #[.int .i64 jm.x,.int .i64 jm.y,.int .i64 jm.z] 23)
 have hb2:=n_after ((W.alloc (.cells (b.L R0).toArray 35)).alloc (.cells #[.int .i64 jm.x,.int .i64 jm.y,.int .i64 jm.z] 23)) (.cells #[.int .i64 0,.int .i64 0,.int .i64 0,.int .i64 0,.int .i64 0,.int .i64 0,.int .i64 0,.int .i64 0,.int .i64 0,.int .i64 0,.int .i64 0,.int .i64 0,.int .i64 0,.int .i64 0,.int .i64 0,.int .i64 0,.int .i64 0,.int .i64 0,.int .i64 0,.int .i64 0,.int .i64 0,.int .i64 0,.int .i64 0,.slice none 0 0,.int .i64 0,.int .i64 0,.int .i64 0,.bool false,.int .i64 0,.bool false,.bool false] 35)
 have Cb:CW V (W.heap.size) (b.L R0):=by
  have h9:=((CW.new W (b.L R0) 35).step hb1).step hb2
  rw [hV];exact h9
 have Cj:CW V (W.heap.size + 1) [.int .i64 jm.x,.int .i64 jm.y,.int .i64 jm.z]:=by
  have h9:=(CW.new (W.alloc (.cells (b.L R0).toArray 35)) [.int .i64 jm.x,.int .i64 jm.y,.int .i64 jm.z] 23).step hb2
  simp only [World.size_alloc] at h9
  rw [hV];exact h9
 have Cr:CW V (W.heap.size + 1 + 1) [.int .i64 0,.int .i64 0,.int .i64 0,.int .i64 0,.int .i64 0,.int .i64 0,.int .i64 0,.int .i64 0,.int .i64 0,.int .i64 0,.int .i64 0,.int .i64 0,.int .i64 0,.int .i64 0,.int .i64 0,.int .i64 0,.int .i64 0,.int .i64 0,.int .i64 0,.int .i64 0,.int .i64 0,.int .i64 0,.int .i64 0,.slice none 0 0,.int .i64 0,.int .i64 0,.int .i64 0,.bool false,.int .i64 0,.bool false,.bool false]:=by
  have h9:=CW.new ((W.alloc (.cells (b.L R0).toArray 35)).alloc (.cells #[.int .i64 jm.x,.int .i64 jm.y,.int .i64 jm.z] 23)) [.int .i64 0,.int .i64 0,.int .i64 0,.int .i64 0,.int .i64 0,.int .i64 0,.int .i64 0,.int .i64 0,.int .i64 0,.int .i64 0,.int .i64 0,.int .i64 0,.int .i64 0,.int .i64 0,.int .i64 0,.int .i64 0,.int .i64 0,.int .i64 0,.int .i64 0,.int .i64 0,.int .i64 0,.int .i64 0,.int .i64 0,.slice none 0 0,.int .i64 0,.int .i64 0,.int .i64 0,.bool false,.int .i64 0,.bool false,.bool false] 35
  simp only [World.size_alloc] at h9
  rw [hV];exact h9
 have hB:Below W.heap.size W V:=by rw [hV];exact (b_step (b_step hb0 hb1) hb2)
 have hcV:=c_after hB hc
 have hfV:=f_after hB hc hf
 have HLV:Hid (Leaves ⟨fb,fo,none⟩ W V):=(Leaves.refl _ _).step hB
 clear hb0 hb1 hb2
 clear hc hf hB hR0
 obtain ⟨v9,hv9⟩:∃ v,v = ifB b (fllD b jm n):=⟨_,rfl⟩
 obtain ⟨g9,hg9⟩:∃ g,g = (f || if2B b.k (fllB b jm n)):=⟨_,rfl⟩
 rw [<- hv9,<- hg9]
 have HE:Hid _:=And.intro hv9 hg9
 clear hv9 hg9
 go_enter Tryz.func25,Tryz.ntmps25
 go_upto_region 1 with fail
 rw [<- hV]
 clear hV
 obtain ⟨pr,hpr⟩:∃ p,p = W.heap.size + 1 + 1:=⟨_,rfl⟩
 obtain ⟨pj,hpj⟩:∃ p,p = W.heap.size + 1:=⟨_,rfl⟩
 obtain ⟨pb,hpb⟩:∃ p,p = W.heap.size:=⟨_,rfl⟩
 rw [<- hpr] at Cr
 rw [<- hpj] at Cj
 rw [<- hpb] at Cb
 rw [<- hpr,<- hpj,<- hpb]
 have nb:pb ≠ fb:=by omega
 have nj:pj ≠ fb:=by omega
 have nr:pr ≠ fb:=by omega
 have nr':fb ≠ pr:=by omega
 have br:pr ≠ pb:=by omega
 have bj:pj ≠ pb:=by omega
 have hWr:W.heap.size <= pr:=by omega
 have hWb:W.heap.size <= pb:=by omega
 clear hpb hpj hpr
 have hZl:([.int .i64 0,.int .i64 0,.int .i64 0,.int .i64 0,.int .i64 0,.int .i64 0,.int .i64 0,.int .i64 0,.int .i64 0,.int .i64 0,.int .i64 0,.int .i64 0,.int .i64 0,.int .i64 0,.int .i64 0,.int .i64 0,.int .i64 0,.int .i64 0,.int .i64 0,.int .i64 0,.int .i64 0,.int .i64 0,.int .i64 0,.slice none 0 0,.int .i64 0,.int .i64 0,.int .i64 0,.bool false,.int .i64 0,.bool false,.bool false]:List Value).length = 31:=rfl
 generalize ([.int .i64 0,.int .i64 0,.int .i64 0,.int .i64 0,.int .i64 0,.int .i64 0,.int .i64 0,.int .i64 0,.int .i64 0,.int .i64 0,.int .i64 0,.int .i64 0,.int .i64 0,.int .i64 0,.int .i64 0,.int .i64 0,.int .i64 0,.int .i64 0,.int .i64 0,.int .i64 0,.int .i64 0,.int .i64 0,.int .i64 0,.slice none 0 0,.int .i64 0,.int .i64 0,.int .i64 0,.bool false,.int .i64 0,.bool false,.bool false]:List Value) = zl at *
 have k0:=(Cb 0 _ rfl).1
 have HS:Hid (Clo _ _ _ _ _ _):=Clo.start hcV hfV Cb
 by_cases hk:b.k = 2
 ·rw [hk] at k0
  have HV9:Hid (v9 = fllD b jm n):=by have h9:=HE.out.1;rw [ifB,if_pos hk] at h9;exact h9
  have HG9:Hid (g9 = (f || fllB b jm n)):=by have h9:=HE.out.2;rw [if2B,if_pos hk] at h9;exact h9
  clear HE
  go_upto_region 3 with fail
  clear k0
  refine RV.rs [.some (.pointer (some ⟨fb,fo,none⟩)),.some (.pointer (some ⟨pb,8,none⟩)),.some (.agg #[.int .i64 b.p.x,.int .i64 b.p.y,.int .i64 b.p.z]),.some (.pointer (some ⟨fb,fo,none⟩)),.some (.agg #[.int .i64 jm.x,.int .i64 jm.y,.int .i64 jm.z]),.some (.pointer (some ⟨fb,fo,none⟩)),.some (.pointer (some ⟨pb,14,none⟩)),.some (.pointer (some ⟨pb,14,none⟩)),.some (.int .i64 b.m),.some (.int .i64 n),.some (.int .i64 (mul1 b.m n)),.some (.agg #[.int .i64 ((sclV jm (mul1 b.m n)).x),.int .i64 ((sclV jm (mul1 b.m n)).y),.int .i64 ((sclV jm (mul1 b.m n)).z)]),.some (.agg #[.int .i64 ((addV b.p (sclV jm (mul1 b.m n))).x),.int .i64 ((addV b.p (sclV jm (mul1 b.m n))).y),.int .i64 ((addV b.p (sclV jm (mul1 b.m n))).z)]),.some (.pointer (some ⟨pb,8,none⟩)),none] [14,15,16,17,18,19,20,21,22,23,24,25,26,27,0] [(0,.pointer (some ⟨fb,fo,none⟩)),(3,.int .i64 n),(5,.pointer (some ⟨pb,0,none⟩)),(6,.pointer (some ⟨pj,0,none⟩))] (fun γ L w9=>FGS V ⟨fb,fo,none⟩ f [(10,mul1B b.m n),(11,sclB jm (mul1 b.m n)),(12,addB b.p (sclV jm (mul1 b.m n)))] 14 (fun w=>(((w.setCell ⟨pb,8,none⟩ (.int .i64 ((addV b.p (sclV jm (mul1 b.m n))).x))).setCell ⟨pb,9,none⟩ (.int .i64 ((addV b.p (sclV jm (mul1 b.m n))).y))).setCell ⟨pb,10,none⟩ (.int .i64 ((addV b.p (sclV jm (mul1 b.m n))).z)))) L w9) ⟨rfl,rfl,rfl,rfl,trivial⟩ ?_ ?_ ?_
  ·exact FGS.start hcV hfV
  ·intro D WA Z hD hWA hZ T
   simp only [RV.Outs,RV.Slots,Nat.reduceAdd] at T
   iterate 10 first
    | (refine RV.cc _ (RV.pu T (fun γ v L w hl h=>h.stay (by decide) rfl) (fun γ L a w hH hl h9 k9=>⟨_,?_,rfl⟩)) ?_;· simp [execOp,go_sem,h9])
    | (refine RV.cc _ (RV.pu T (fun γ v L w hl h=>h.stay (by decide) rfl) (fun γ L a w hH hl h9 k9=>⟨_,?_,rfl⟩)) ?_;· simp [Region.binds] at k9;simp [execOp,go_sem,h9,k9])
    | (refine RV.cc _ (RV.pu T (fun γ v L w hl h=>h.stay (by decide) rfl) (fun γ L a w hH hl h9 k9=>⟨_,?_,rfl⟩)) ?_;· have hG:=hH.glob.early (RV.ny hH (RV.wt (j:=14) hWA (by kernel_rfl)) hl);have q0:=hG.at (Cj 0 _ rfl).1 nj;have q1:=hG.at (Cj 1 _ rfl).1 nj;have q2:=hG.at (Cj 2 _ rfl).1 nj;simp [execOp,go_sem,h9,q0,q1,q2])
    | (refine RV.cc _ (RV.pu T (fun γ v L w hl h=>h.stay (by decide) rfl) (fun γ L a w hH hl h9 k9=>⟨_,?_,rfl⟩)) ?_;· have hG:=hH.glob.early (RV.ny hH (RV.wt (j:=14) hWA (by kernel_rfl)) hl);have q0:=hG.at (Cb 8 _ rfl).1 nb;have q1:=hG.at (Cb 9 _ rfl).1 nb;have q2:=hG.at (Cb 10 _ rfl).1 nb;have q3:=hG.at (Cb 14 _ rfl).1 nb;simp [Region.binds] at k9;simp [execOp,go_sem,h9,k9,q0,q1,q2,q3])
   refine RV.cc _ (RV.dc (fun γ L a w hH hl hA=>by have h9:=T γ L a w hH;have k9:=hA;simp [Region.binds] at k9;have hG:=hH.glob.early (RV.ny hH (RV.wt (j:=14) (i:=10) hWA (by kernel_rfl)) hl);exact ⟨70,#[.pointer (some ⟨fb,fo,none⟩),.int .i64 b.m,.int .i64 n],by simp [go_sem,h9,k9],Calls.mono (rmul_c fb fo _ b.m n w hG.cell hG.frozen) (by rintro e w2 ⟨rfl,ha⟩;exact ⟨_,rfl,rfl,fun j v _ h=>h.keep _,FGS.come hG (by decide) (RV.ny hH (RV.wt (j:=14) (i:=10) hWA (by kernel_rfl)) hl) hl rfl ha.out⟩)⟩)) ?_
   refine RV.cc _ (RV.dc (fun γ L a w hH hl hA=>by have h9:=T γ L a w hH;have k9:=hA;simp [Region.binds] at k9;have hG:=hH.glob.early (RV.ny hH (RV.wt (j:=14) (i:=11) hWA (by kernel_rfl)) hl);exact ⟨40,#[.pointer (some ⟨fb,fo,none⟩),.agg #[.int .i64 jm.x,.int .i64 jm.y,.int .i64 jm.z],.int .i64 (mul1 b.m n)],by simp [go_sem,h9,k9],Calls.mono (rscl_c fb fo _ jm (mul1 b.m n) w hG.cell hG.frozen) (by rintro e w2 ⟨rfl,ha⟩;exact ⟨_,rfl,rfl,fun j v _ h=>h.keep _,FGS.come hG (by decide) (RV.ny hH (RV.wt (j:=14) (i:=11) hWA (by kernel_rfl)) hl) hl rfl ha.out⟩)⟩)) ?_
   refine RV.cc _ (RV.dc (fun γ L a w hH hl hA=>by have h9:=T γ L a w hH;have k9:=hA;simp [Region.binds] at k9;have hG:=hH.glob.early (RV.ny hH (RV.wt (j:=14) (i:=12) hWA (by kernel_rfl)) hl);exact ⟨64,#[.pointer (some ⟨fb,fo,none⟩),.agg #[.int .i64 b.p.x,.int .i64 b.p.y,.int .i64 b.p.z],.agg #[.int .i64 ((sclV jm (mul1 b.m n)).x),.int .i64 ((sclV jm (mul1 b.m n)).y),.int .i64 ((sclV jm (mul1 b.m n)).z)]],by simp [go_sem,h9,k9],Calls.mono (radd_c fb fo _ b.p (sclV jm (mul1 b.m n)) w hG.cell hG.frozen) (by rintro e w2 ⟨rfl,ha⟩;exact ⟨_,rfl,rfl,fun j v _ h=>h.keep _,FGS.come hG (by decide) (RV.ny hH (RV.wt (j:=14) (i:=12) hWA (by kernel_rfl)) hl) hl rfl ha.out⟩)⟩)) ?_
   (refine RV.cc _ (RV.pu T (fun γ v L w hl h=>h.stay (by decide) rfl) (fun γ L a w hH hl h9 k9=>⟨_,?_,rfl⟩)) ?_;· simp [execOp,go_sem,h9])
   refine RV.cc _ (RV.does_store (fun γ L a w hH hl hA=>by have h9:=T γ L a w hH;have k9:=hA;simp [Region.binds] at k9;have hG:=hH.glob.early hl;have z0:=hG.at (Cb 8 _ rfl).1 nb;have zf0:=hG.open (Cb 8 _ rfl).1 (Cb 8 _ rfl).2 nb;have z1:=hG.at (Cb 9 _ rfl).1 nb;have zf1:=hG.open (Cb 9 _ rfl).1 (Cb 9 _ rfl).2 nb;have z2:=hG.at (Cb 10 _ rfl).1 nb;have zf2:=hG.open (Cb 10 _ rfl).1 (Cb 10 _ rfl).2 nb;exact ⟨(((w.setCell ⟨pb,8,none⟩ (.int .i64 ((addV b.p (sclV jm (mul1 b.m n))).x))).setCell ⟨pb,9,none⟩ (.int .i64 ((addV b.p (sclV jm (mul1 b.m n))).y))).setCell ⟨pb,10,none⟩ (.int .i64 ((addV b.p (sclV jm (mul1 b.m n))).z))),by simp [execOp,go_sem,z0,zf0,z1,zf1,z2,zf2,h9,k9],trivial,fun j v _ h=>h.keep _,FGS.store (S:=fun w=>(((w.setCell ⟨pb,8,none⟩ (.int .i64 ((addV b.p (sclV jm (mul1 b.m n))).x))).setCell ⟨pb,9,none⟩ (.int .i64 ((addV b.p (sclV jm (mul1 b.m n))).y))).setCell ⟨pb,10,none⟩ (.int .i64 ((addV b.p (sclV jm (mul1 b.m n))).z)))) hG rfl⟩)) ?_
   exact RV.AllDo.nil
  ·intro γ w5 L9 hL hI9 hG9
   obtain ⟨w8,hF8,rfl⟩:=hG9.late (hL 14 (by decide))
   have hFL:orL f [(10,mul1B b.m n),(11,sclB jm (mul1 b.m n)),(12,addB b.p (sclV jm (mul1 b.m n)))] L9 = (f || (mul1B b.m n || sclB jm (mul1 b.m n) || addB b.p (sclV jm (mul1 b.m n)))):=by unfold orL;simp only [List.any_cons,List.any_nil,hL 10 (by decide),hL 11 (by decide),hL 12 (by decide),Bool.true_and,Bool.or_false,Bool.or_assoc]
   have HA8:Hid (After _ _ _ _):=hF8.leaves.done hF8.cell hF8.frozen
   rw [hFL] at HA8
   clear hF8 hFL
   clear hL hI9 hG9
   simp only [RV.putL,Act.put,List.setIfInBounds_toArray,List.set_cons_zero,List.set_cons_succ]
   have HS:Hid (Clo _ _ _ _ _ _):=HS.out.same HA8.out nb
   have HS:Hid (Clo _ _ _ _ _ _):=HS.out.set3 nb 8 (.int .i64 (addV b.p (sclV jm (mul1 b.m n))).x) (.int .i64 (addV b.p (sclV jm (mul1 b.m n))).y) (.int .i64 (addV b.p (sclV jm (mul1 b.m n))).z) (long31 hR.out (by decide))
   simp only [Nat.reduceAdd] at HS
   rw [Bool.or_assoc (mul1B b.m n)] at HS
   clear HA8
   obtain ⟨X9,hX9⟩:∃ X,X = (((w8.setCell ⟨pb,8,none⟩ (.int .i64 (addV b.p (sclV jm (mul1 b.m n))).x)).setCell ⟨pb,9,none⟩ (.int .i64 (addV b.p (sclV jm (mul1 b.m n))).y)).setCell ⟨pb,10,none⟩ (.int .i64 (addV b.p (sclV jm (mul1 b.m n))).z)):=⟨_,rfl⟩
   rw [<- hX9] at HS ⊢
   have HS:Hid (Clo ⟨fb,fo,none⟩ (f || fllB b jm n) pb ((fllD b jm n).L R0) V X9):=HS.out
   clear Cb Cj hcV hfV
   clear hX9
   have Cb9:=HS.out.cw
   have Cr9:=Cr.two HS.out.two nr br
   have HL9:Hid (Leaves ⟨fb,fo,none⟩ W X9):=HLV.out.two HS.out.two hbW hWb
   have hc9:=HS.out.cell
   have hf9:=HS.out.frozen
   clear HS Cr HLV
   have hz3:Hid _:=body_size hR.out ((fllD b jm n))
   have hy3:Hid _:=body_size2 hR.out ((fllD b jm n))
   have h13:Hid _:=hR.out.each ((fllD b jm n))
   have HRG:Hid (World.rangeAt X9 pb 0 (((fllD b jm n)).L R0)):=Cb9.range
   have HTH:Hid (World.there X9 pr 0 (((fllD b jm n)).L R0).toArray.size):=Cr9.there31 hZl hR.out
   have HX3:Hid (World.rangeAt _ _ _ _):=(Cr9.sets (us:=((fllD b jm n)).L R0) (by rw [hR.out.all,hZl])).range
   have HL4:Hid (Leaves ⟨fb,fo,none⟩ W (X9.setCells pr 0 (((fllD b jm n)).L R0))):=HL9.out.sets hWr _
   have hc4:Hid _:=(out_sets (w:=X9) (vs:=((fllD b jm n)).L R0) (o:=fo) nr').trans hc9
   have hf4:Hid _:=(World.frozen?_setCells pr (((fllD b jm n)).L R0) 0 X9 ⟨fb,fo,none⟩).trans hf9
   generalize hcs:((fllD b jm n)).L R0 = cs at *
   have HCS:Hid _:=hcs
   clear hcs Cb9 Cr9 HL9 hc9 hf9
   go_wp2_with (first | refine wpList_load_mid rfl 35 _ rfl pb 0 rfl _ _ HRG.out Tryz.underlying35 rfl hz3.out ?_ | refine wpList_store_mid rfl 35 _ _ rfl pr 0 _ rfl rfl HTH.out hy3.out h13.out ?_)
   refine bodyPost_ret (results_cell 8 35 Tryz.results25 ⟨pr,0,none⟩ rfl (run_loadVar_mid _ pr 0 35 cs _ HX3.out Tryz.underlying35 rfl hz3.out)) rfl ?_
   refine ⟨by rw [HV9.out,HCS.out],?_⟩
   rw [HG9.out]
   exact HL4.out.done hc4.out hf4.out
 ·have hk2:(b.k == 2) = false:=by simpa using hk
  have HV9:Hid (v9 = b):=by have h9:=HE.out.1;rw [ifB,if_neg hk] at h9;exact h9
  have HG9:Hid (g9 = f):=by have h9:=HE.out.2;rw [if2B,if_neg hk,Bool.or_false] at h9;exact h9
  clear HE HS
  have Cb9:=Cb
  have Cr9:=Cr
  have HL9:=HLV
  have hc9:=hcV
  have hf9:=hfV
  clear Cb Cr HLV hcV hfV Cj
  have hz3:Hid _:=body_size hR.out (b)
  have hy3:Hid _:=body_size2 hR.out (b)
  have h13:Hid _:=hR.out.each (b)
  have HRG:Hid (World.rangeAt V pb 0 ((b).L R0)):=Cb9.range
  have HTH:Hid (World.there V pr 0 ((b).L R0).toArray.size):=Cr9.there31 hZl hR.out
  have HX3:Hid (World.rangeAt _ _ _ _):=(Cr9.sets (us:=(b).L R0) (by rw [hR.out.all,hZl])).range
  have HL4:Hid (Leaves ⟨fb,fo,none⟩ W (V.setCells pr 0 ((b).L R0))):=HL9.out.sets hWr _
  have hc4:Hid _:=(out_sets (w:=V) (vs:=(b).L R0) (o:=fo) nr').trans hc9
  have hf4:Hid _:=(World.frozen?_setCells pr ((b).L R0) 0 V ⟨fb,fo,none⟩).trans hf9
  generalize hcs:(b).L R0 = cs at *
  have HCS:Hid _:=hcs
  clear hcs Cb9 Cr9 HL9 hc9 hf9
  go_wp2_with (first | refine wpList_load_mid rfl 35 _ rfl pb 0 rfl _ _ HRG.out Tryz.underlying35 rfl hz3.out ?_ | refine wpList_store_mid rfl 35 _ _ rfl pr 0 _ rfl rfl HTH.out hy3.out h13.out ?_)
  refine bodyPost_ret (results_cell 8 35 Tryz.results25 ⟨pr,0,none⟩ rfl (run_loadVar_mid _ pr 0 35 cs _ HX3.out Tryz.underlying35 rfl hz3.out)) rfl ?_
  refine ⟨by rw [HV9.out,HCS.out],?_⟩
  rw [HG9.out]
  exact HL4.out.done hc4.out hf4.out
end
end Go.Proofs.YtpjaacpcdomfiaaGreat
