/- The document's own layer 12: speeds, pushes, falls, and what moves. -/
import Derived.Test.YteebbpioffdncaaGreatEBBack0
import Derived.Test.YteebbpioffdncaaGreatEBBack23
import Derived.Test.YteebbpioffdncaaGreatEBBack16
import Derived.Test.YteebbpioffdncaaGreatEBBack17
set_option maxHeartbeats 2000000
set_option maxRecDepth 100000
set_option linter.unusedVariables false
namespace Go.Proofs.YteebbpioffdncaaGreat
open Go.Calls renaming mono -> JA
open Go.World renaming block_lt_of_cell? -> JB
open Go.Region renaming binds -> JC
open Go renaming execOp -> JD
open Go.World renaming size_alloc -> JE
open Tryz
open Go.Value renaming int -> J
open Go.IntKind renaming i64 -> Y
section
open Go.RowKit Go.Shelf Fx
theorem Jmn (fb fo:Nat) (f:Bool) (b:Bd) (R0:List Value) (W:World) (hc:W.cell? ⟨fb,fo,none⟩ = some (.bool f)) (hf:W.frozen? ⟨fb,fo,none⟩ = false) :
  Calls Tryz.prog 41 #[.pointer (some ⟨fb,fo,none⟩),.agg (b.L R0).toArray] W fun e W'=>e = .returned (if2 b.k (Jbz b)).val/\Hid (After ⟨fb,fo,none⟩ (f || Jbq b.k (Jed b)) W W'):=by
 have hbW:fb < W.heap.size:=JB _ _ hc
 obtain ⟨V,hV⟩:∃ V,V = ((W.alloc (.cells (b.L R0).toArray 39)).alloc (.cells #[J Y 0,J Y 0,J Y 0] 27)):=⟨_,rfl⟩
 have hb0:=Jb W (.cells (b.L R0).toArray 39)
 have hb1:=Jb (W.alloc (.cells (b.L R0).toArray 39)) (.cells #[J Y 0,J Y 0,J Y 0] 27)
 have Cb:CW V (W.heap.size) (b.L R0):=by
  have h9:=(CW.new W (b.L R0) 39).step hb1
  rw [hV];exact h9
 have Cs:CW V (W.heap.size + 1) [J Y 0,J Y 0,J Y 0]:=by
  have h9:=CW.new (W.alloc (.cells (b.L R0).toArray 39)) [J Y 0,J Y 0,J Y 0] 27
  simp only [JE] at h9
  rw [hV];exact h9
 have hB:Below W.heap.size W V:=by rw [hV];exact (Jf hb0 hb1)
 have hcV:=Ja hB hc
 have hfV:=Jt hB hc hf
 have HLV:Hid (Leaves ⟨fb,fo,none⟩ W V):=(Leaves.refl _ _).step hB
 clear hb0 hb1
 clear hc hf hB
 obtain ⟨v9,hv9⟩:∃ v,v = if2 b.k (Jbz b):=⟨_,rfl⟩
 obtain ⟨g9,hg9⟩:∃ g,g = Jbq b.k (Jed b):=⟨_,rfl⟩
 rw [<- hv9,<- hg9]
 have HE:Hid _:=And.intro hv9 hg9
 clear hv9 hg9
 go_enter func41,ntmps41
 go_upto_region 1 with fail
 rw [<- hV]
 clear hV
 obtain ⟨ps,hps⟩:∃ p,p = W.heap.size + 1:=⟨_,rfl⟩
 obtain ⟨pb,hpb⟩:∃ p,p = W.heap.size:=⟨_,rfl⟩
 rw [<- hps] at Cs
 rw [<- hpb] at Cb
 rw [<- hps,<- hpb]
 have nb:pb ≠ fb:=by omega
 have ns:ps ≠ fb:=by omega
 have ns':fb ≠ ps:=by omega
 have hWs:W.heap.size <= ps:=by omega
 clear hpb hps
 have k0:=(Cb 0 _ rfl).1
 by_cases hk:b.k = 2
 ·rw [hk] at k0
  have HV9:Hid (v9 = Jbz b):=by have h9:=HE.out.1;rw [if2,if_pos hk] at h9;exact h9
  have HG9:Hid (g9 = (Jed b)):=by have h9:=HE.out.2;rw [Jbq,if_pos hk] at h9;exact h9
  clear HE
  go_upto_region 3 with fail
  refine RV.rs [.some (.pointer (some ⟨fb,fo,none⟩)),.some (.pointer (some ⟨pb,8,none⟩)),.some (.pointer (some ⟨pb,8,none⟩)),.some (J Y b.p.x),.some (.pointer (some ⟨pb,14,none⟩)),.some (.pointer (some ⟨pb,14,none⟩)),.some (J Y b.m),.some (J Y (dv1 b.p.x b.m)),.some (.pointer (some ⟨fb,fo,none⟩)),.some (.pointer (some ⟨pb,8,none⟩)),.some (.pointer (some ⟨pb,9,none⟩)),.some (J Y b.p.y),.some (.pointer (some ⟨pb,14,none⟩)),.some (.pointer (some ⟨pb,14,none⟩)),.some (J Y b.m),.some (J Y (dv1 b.p.y b.m)),.some (.pointer (some ⟨fb,fo,none⟩)),.some (.pointer (some ⟨pb,8,none⟩)),.some (.pointer (some ⟨pb,10,none⟩)),.some (J Y b.p.z),.some (.pointer (some ⟨pb,14,none⟩)),.some (.pointer (some ⟨pb,14,none⟩)),.some (J Y b.m),.some (J Y (dv1 b.p.z b.m)),.some (.agg #[J Y (dv1 b.p.x b.m),J Y (dv1 b.p.y b.m),J Y (dv1 b.p.z b.m)]),none] [10,11,12,13,14,15,16,17,18,19,20,21,22,23,24,25,26,27,28,29,30,31,32,33,34,0] [(0,.pointer (some ⟨fb,fo,none⟩)),(3,.pointer (some ⟨pb,0,none⟩)),(4,.pointer (some ⟨ps,0,none⟩))] (fun γ L w9=>FGS V ⟨fb,fo,none⟩ f [(7,Jby b.p.x b.m),(15,Jby b.p.y b.m),(23,Jby b.p.z b.m)] 25 (fun w=>(((w.setCell ⟨ps,0,none⟩ (J Y (dv1 b.p.x b.m))).setCell ⟨ps,1,none⟩ (J Y (dv1 b.p.y b.m))).setCell ⟨ps,2,none⟩ (J Y (dv1 b.p.z b.m)))) L w9) ⟨rfl,rfl,rfl,trivial⟩ ?_ ?_ ?_
  ·exact FGS.start hcV hfV
  ·intro D WA Z hD hWA hZ T
   simp only [RV.Outs,RV.Slots,Nat.reduceAdd] at T
   iterate 7 first
    | (refine RV.cc _ (RV.pu T (fun γ v L w hl h=>h.stay (by decide) rfl) (fun γ L a w hH hl h9 k9=>⟨_,?_,rfl⟩)) ?_;· simp [JD,go_sem,h9])
    | (refine RV.cc _ (RV.pu T (fun γ v L w hl h=>h.stay (by decide) rfl) (fun γ L a w hH hl h9 k9=>⟨_,?_,rfl⟩)) ?_;· simp [JC] at k9;simp [JD,go_sem,h9,k9])
    | (refine RV.cc _ (RV.pu T (fun γ v L w hl h=>h.stay (by decide) rfl) (fun γ L a w hH hl h9 k9=>⟨_,?_,rfl⟩)) ?_;· have hG:=hH.glob.early (RV.ny hH (RV.wt (j:=25) hWA (by kernel_rfl)) hl);have q0:=hG.at (Cb 8 _ rfl).1 nb;have q1:=hG.at (Cb 14 _ rfl).1 nb;simp [JC] at k9;simp [JD,go_sem,h9,k9,q0,q1])
   refine RV.cc _ (RV.dc (fun γ L a w hH hl hA=>by have h9:=T γ L a w hH;have k9:=hA;simp [JC] at k9;have hG:=hH.glob.early (RV.ny hH (RV.wt (j:=25) (i:=7) hWA (by kernel_rfl)) hl);exact ⟨92,#[.pointer (some ⟨fb,fo,none⟩),J Y b.p.x,J Y b.m],by simp [go_sem,h9,k9],JA (Jgg fb fo _ b.p.x b.m w hG.cell hG.frozen) (by rintro e w2 ⟨rfl,ha⟩;exact ⟨_,rfl,rfl,fun j v _ h=>h.keep _,FGS.come hG (by decide) (RV.ny hH (RV.wt (j:=25) (i:=7) hWA (by kernel_rfl)) hl) hl rfl ha.out⟩)⟩)) ?_
   iterate 7 first
    | (refine RV.cc _ (RV.pu T (fun γ v L w hl h=>h.stay (by decide) rfl) (fun γ L a w hH hl h9 k9=>⟨_,?_,rfl⟩)) ?_;· simp [JD,go_sem,h9])
    | (refine RV.cc _ (RV.pu T (fun γ v L w hl h=>h.stay (by decide) rfl) (fun γ L a w hH hl h9 k9=>⟨_,?_,rfl⟩)) ?_;· simp [JC] at k9;simp [JD,go_sem,h9,k9])
    | (refine RV.cc _ (RV.pu T (fun γ v L w hl h=>h.stay (by decide) rfl) (fun γ L a w hH hl h9 k9=>⟨_,?_,rfl⟩)) ?_;· have hG:=hH.glob.early (RV.ny hH (RV.wt (j:=25) hWA (by kernel_rfl)) hl);have q0:=hG.at (Cb 9 _ rfl).1 nb;have q1:=hG.at (Cb 14 _ rfl).1 nb;simp [JC] at k9;simp [JD,go_sem,h9,k9,q0,q1])
   refine RV.cc _ (RV.dc (fun γ L a w hH hl hA=>by have h9:=T γ L a w hH;have k9:=hA;simp [JC] at k9;have hG:=hH.glob.early (RV.ny hH (RV.wt (j:=25) (i:=15) hWA (by kernel_rfl)) hl);exact ⟨92,#[.pointer (some ⟨fb,fo,none⟩),J Y b.p.y,J Y b.m],by simp [go_sem,h9,k9],JA (Jgg fb fo _ b.p.y b.m w hG.cell hG.frozen) (by rintro e w2 ⟨rfl,ha⟩;exact ⟨_,rfl,rfl,fun j v _ h=>h.keep _,FGS.come hG (by decide) (RV.ny hH (RV.wt (j:=25) (i:=15) hWA (by kernel_rfl)) hl) hl rfl ha.out⟩)⟩)) ?_
   iterate 7 first
    | (refine RV.cc _ (RV.pu T (fun γ v L w hl h=>h.stay (by decide) rfl) (fun γ L a w hH hl h9 k9=>⟨_,?_,rfl⟩)) ?_;· simp [JD,go_sem,h9])
    | (refine RV.cc _ (RV.pu T (fun γ v L w hl h=>h.stay (by decide) rfl) (fun γ L a w hH hl h9 k9=>⟨_,?_,rfl⟩)) ?_;· simp [JC] at k9;simp [JD,go_sem,h9,k9])
    | (refine RV.cc _ (RV.pu T (fun γ v L w hl h=>h.stay (by decide) rfl) (fun γ L a w hH hl h9 k9=>⟨_,?_,rfl⟩)) ?_;· have hG:=hH.glob.early (RV.ny hH (RV.wt (j:=25) hWA (by kernel_rfl)) hl);have q0:=hG.at (Cb 10 _ rfl).1 nb;have q1:=hG.at (Cb 14 _ rfl).1 nb;simp [JC] at k9;simp [JD,go_sem,h9,k9,q0,q1])
   refine RV.cc _ (RV.dc (fun γ L a w hH hl hA=>by have h9:=T γ L a w hH;have k9:=hA;simp [JC] at k9;have hG:=hH.glob.early (RV.ny hH (RV.wt (j:=25) (i:=23) hWA (by kernel_rfl)) hl);exact ⟨92,#[.pointer (some ⟨fb,fo,none⟩),J Y b.p.z,J Y b.m],by simp [go_sem,h9,k9],JA (Jgg fb fo _ b.p.z b.m w hG.cell hG.frozen) (by rintro e w2 ⟨rfl,ha⟩;exact ⟨_,rfl,rfl,fun j v _ h=>h.keep _,FGS.come hG (by decide) (RV.ny hH (RV.wt (j:=25) (i:=23) hWA (by kernel_rfl)) hl) hl rfl ha.out⟩)⟩)) ?_
   (refine RV.cc _ (RV.pu T (fun γ v L w hl h=>h.stay (by decide) rfl) (fun γ L a w hH hl h9 k9=>⟨_,?_,rfl⟩)) ?_;· simp [JC] at k9;simp [JD,go_sem,h9,k9])
   refine RV.cc _ (RV.does_store (fun γ L a w hH hl hA=>by have h9:=T γ L a w hH;have k9:=hA;simp [JC] at k9;have hG:=hH.glob.early hl;have z0:=hG.at (Cs 0 _ rfl).1 ns;have zf0:=hG.open (Cs 0 _ rfl).1 (Cs 0 _ rfl).2 ns;have z1:=hG.at (Cs 1 _ rfl).1 ns;have zf1:=hG.open (Cs 1 _ rfl).1 (Cs 1 _ rfl).2 ns;have z2:=hG.at (Cs 2 _ rfl).1 ns;have zf2:=hG.open (Cs 2 _ rfl).1 (Cs 2 _ rfl).2 ns;exact ⟨(((w.setCell ⟨ps,0,none⟩ (J Y (dv1 b.p.x b.m))).setCell ⟨ps,1,none⟩ (J Y (dv1 b.p.y b.m))).setCell ⟨ps,2,none⟩ (J Y (dv1 b.p.z b.m))),by simp [JD,go_sem,z0,zf0,z1,zf1,z2,zf2,h9,k9],trivial,fun j v _ h=>h.keep _,FGS.store (S:=fun w=>(((w.setCell ⟨ps,0,none⟩ (J Y (dv1 b.p.x b.m))).setCell ⟨ps,1,none⟩ (J Y (dv1 b.p.y b.m))).setCell ⟨ps,2,none⟩ (J Y (dv1 b.p.z b.m)))) hG rfl⟩)) ?_
   exact RV.AllDo.nil
  ·intro γ w5 L9 hL hI9 hG9
   obtain ⟨w8,hF8,rfl⟩:=hG9.late (hL 25 (by decide))
   have hFL:orL f [(7,Jby b.p.x b.m),(15,Jby b.p.y b.m),(23,Jby b.p.z b.m)] L9 = (f || (Jby b.p.x b.m || Jby b.p.y b.m || Jby b.p.z b.m)):=by unfold orL;simp only [List.any_cons,List.any_nil,hL 7 (by decide),hL 15 (by decide),hL 23 (by decide),Bool.true_and,Bool.or_false,Bool.or_assoc]
   have HA8:Hid (After _ _ _ _):=hF8.leaves.done hF8.cell hF8.frozen
   rw [hFL] at HA8
   clear hF8 hFL
   clear hL hI9 hG9
   simp only [RV.putL,Act.put,List.setIfInBounds_toArray,List.set_cons_zero,List.set_cons_succ]
   obtain ⟨r0,q0⟩:=(Cs.after HA8.out ns) 0 _ rfl
   obtain ⟨r1,q1⟩:=(Cs.after HA8.out ns) 1 _ rfl
   obtain ⟨r2,q2⟩:=(Cs.after HA8.out ns) 2 _ rfl
   have HL:Hid (Leaves ⟨fb,fo,none⟩ W _):=HLV.out.same HA8.out
   have hc8:=HA8.out.cell
   have hf8:=HA8.out.frozen
   clear HA8
   go_wp2_with (fail)
   refine bodyPost_ret (by simp [results,results41,go_sem,r0,r1,r2];try rfl) rfl ?_
   refine ⟨by have h9:=HV9.out;subst h9;rfl,(((HL.out.set hWs _).set hWs _).set hWs _).done ?_ ?_⟩
   ·rw [HG9.out];simp [go_sem,hc8,Jed,Jgs]
   ·simp [go_sem,hf8]
 ·have hk2:(b.k == 2) = false:=by simpa using hk
  have HV9:Hid (v9 = ⟨0,0,0⟩):=by have h9:=HE.out.1;rw [if2,if_neg hk] at h9;exact h9
  have HG9:Hid (g9 = false):=by have h9:=HE.out.2;rw [Jbq,if_neg hk] at h9;exact h9
  clear HE
  obtain ⟨r0,q0⟩:=Cs 0 _ rfl
  obtain ⟨r1,q1⟩:=Cs 1 _ rfl
  obtain ⟨r2,q2⟩:=Cs 2 _ rfl
  clear Cb Cs
  go_wp2_with (fail)
  refine bodyPost_ret (by simp [results,results41,go_sem,r0,r1,r2];try rfl) rfl ?_
  refine ⟨by have h9:=HV9.out;subst h9;rfl,(((HLV.out.set hWs _).set hWs _).set hWs _).done ?_ ?_⟩
  ·rw [HG9.out,Bool.or_false];simp [go_sem,hcV]
  ·simp [go_sem,hfV]
theorem Jlx (fb fo:Nat) (f:Bool) (b:Bd) (R0:List Value) (l:V3) (W:World) (hc:W.cell? ⟨fb,fo,none⟩ = some (.bool f)) (hf:W.frozen? ⟨fb,fo,none⟩ = false) :
  Calls Tryz.prog 44 #[.pointer (some ⟨fb,fo,none⟩),.agg (b.L R0).toArray,l.val] W fun e W'=>e = .returned (if2 b.k (Jao b l)).val/\Hid (After ⟨fb,fo,none⟩ (f || Jbq b.k (Jd8 b l)) W W'):=by
 have hbW:fb < W.heap.size:=JB _ _ hc
 obtain ⟨V,hV⟩:∃ V,V = (((W.alloc (.cells (b.L R0).toArray 39)).alloc (.cells #[J Y l.x,J Y l.y,J Y l.z] 27)).alloc (.cells #[J Y 0,J Y 0,J Y 0] 27)):=⟨_,rfl⟩
 have hb0:=Jb W (.cells (b.L R0).toArray 39)
 have hb1:=Jb (W.alloc (.cells (b.L R0).toArray 39)) (.cells #[J Y l.x,J Y l.y,J Y l.z] 27)
 have hb2:=Jb ((W.alloc (.cells (b.L R0).toArray 39)).alloc (.cells #[J Y l.x,J Y l.y,J Y l.z] 27)) (.cells #[J Y 0,J Y 0,J Y 0] 27)
 have Cb:CW V (W.heap.size) (b.L R0):=by
  have h9:=((CW.new W (b.L R0) 39).step hb1).step hb2
  rw [hV];exact h9
 have Cl:CW V (W.heap.size + 1) [J Y l.x,J Y l.y,J Y l.z]:=by
  have h9:=(CW.new (W.alloc (.cells (b.L R0).toArray 39)) [J Y l.x,J Y l.y,J Y l.z] 27).step hb2
  simp only [JE] at h9
  rw [hV];exact h9
 have Cs:CW V (W.heap.size + 1 + 1) [J Y 0,J Y 0,J Y 0]:=by
  have h9:=CW.new ((W.alloc (.cells (b.L R0).toArray 39)).alloc (.cells #[J Y l.x,J Y l.y,J Y l.z] 27)) [J Y 0,J Y 0,J Y 0] 27
  simp only [JE] at h9
  rw [hV];exact h9
 have hB:Below W.heap.size W V:=by rw [hV];exact (Jf (Jf hb0 hb1) hb2)
 have hcV:=Ja hB hc
 have hfV:=Jt hB hc hf
 have HLV:Hid (Leaves ⟨fb,fo,none⟩ W V):=(Leaves.refl _ _).step hB
 clear hb0 hb1 hb2
 clear hc hf hB
 obtain ⟨v9,hv9⟩:∃ v,v = if2 b.k (Jao b l):=⟨_,rfl⟩
 obtain ⟨g9,hg9⟩:∃ g,g = Jbq b.k (Jd8 b l):=⟨_,rfl⟩
 rw [<- hv9,<- hg9]
 have HE:Hid _:=And.intro hv9 hg9
 clear hv9 hg9
 go_enter func44,ntmps44
 go_upto_region 1 with fail
 rw [<- hV]
 clear hV
 obtain ⟨ps,hps⟩:∃ p,p = W.heap.size + 1 + 1:=⟨_,rfl⟩
 obtain ⟨pl,hpl⟩:∃ p,p = W.heap.size + 1:=⟨_,rfl⟩
 obtain ⟨pb,hpb⟩:∃ p,p = W.heap.size:=⟨_,rfl⟩
 rw [<- hps] at Cs
 rw [<- hpl] at Cl
 rw [<- hpb] at Cb
 rw [<- hps,<- hpl,<- hpb]
 have nb:pb ≠ fb:=by omega
 have nl:pl ≠ fb:=by omega
 have ns:ps ≠ fb:=by omega
 have ns':fb ≠ ps:=by omega
 have hWs:W.heap.size <= ps:=by omega
 clear hpb hpl hps
 have k0:=(Cb 0 _ rfl).1
 by_cases hk:b.k = 2
 ·rw [hk] at k0
  have HV9:Hid (v9 = Jao b l):=by have h9:=HE.out.1;rw [if2,if_pos hk] at h9;exact h9
  have HG9:Hid (g9 = (Jd8 b l)):=by have h9:=HE.out.2;rw [Jbq,if_pos hk] at h9;exact h9
  clear HE
  have k4:=(Cb 4 _ rfl).1
  have k5:=(Cb 5 _ rfl).1
  have k6:=(Cb 6 _ rfl).1
  have k7:=(Cb 7 _ rfl).1
  have HC1:Hid _:=Jtx fb fo f b.q V hcV hfV
  clear hcV hfV
  go_wp2_with (fail)
  refine JA HC1.out ?_
  rintro e W1 ⟨rfl,A⟩
  have HL1:Hid (Leaves ⟨fb,fo,none⟩ W W1):=HLV.out.same A.out
  have Cb:=Cb.after A.out nb
  have Cl:=Cl.after A.out nl
  have Cs:=Cs.after A.out ns
  have hc1:=A.out.cell
  have hf1:=A.out.frozen
  clear HC1 A k0 k4 k5 k6 k7 HLV
  go_upto_region 4 with fail
  obtain ⟨V1,hV1⟩:∃ X,X = W1.alloc (.cells #[J Y (Jo b.q).a.x,J Y (Jo b.q).a.y,J Y (Jo b.q).a.z,J Y (Jo b.q).b.x,J Y (Jo b.q).b.y,J Y (Jo b.q).b.z,J Y (Jo b.q).c.x,J Y (Jo b.q).c.y,J Y (Jo b.q).c.z] 123):=⟨_,rfl⟩
  have hb:=Jb W1 (.cells #[J Y (Jo b.q).a.x,J Y (Jo b.q).a.y,J Y (Jo b.q).a.z,J Y (Jo b.q).b.x,J Y (Jo b.q).b.y,J Y (Jo b.q).b.z,J Y (Jo b.q).c.x,J Y (Jo b.q).c.y,J Y (Jo b.q).c.z] 123)
  have Cm:=CW.new W1 [J Y (Jo b.q).a.x,J Y (Jo b.q).a.y,J Y (Jo b.q).a.z,J Y (Jo b.q).b.x,J Y (Jo b.q).b.y,J Y (Jo b.q).b.z,J Y (Jo b.q).c.x,J Y (Jo b.q).c.y,J Y (Jo b.q).c.z] 123
  rw [<- hV1] at hb Cm ⊢
  obtain ⟨pm,hpm⟩:∃ p,p = W1.heap.size:=⟨_,rfl⟩
  rw [<- hpm] at Cm ⊢
  have nm:pm ≠ fb:=by have:=HL1.out.size;omega
  have Cb:=Cb.step hb
  have Cl:=Cl.step hb
  have Cs:=Cs.step hb
  have hf1:=Jt hb hc1 hf1
  have hc1:=Ja hb hc1
  have HL1:Hid (Leaves ⟨fb,fo,none⟩ W V1):=HL1.out.step (hb.mono HL1.out.size)
  clear hV1 hb hpm
  have l0:=(Cl 0 _ rfl).1
  have l1:=(Cl 1 _ rfl).1
  have l2:=(Cl 2 _ rfl).1
  have m0:=(Cm 0 _ rfl).1
  have m1:=(Cm 1 _ rfl).1
  have m2:=(Cm 2 _ rfl).1
  have m3:=(Cm 3 _ rfl).1
  have m4:=(Cm 4 _ rfl).1
  have m5:=(Cm 5 _ rfl).1
  have m6:=(Cm 6 _ rfl).1
  have m7:=(Cm 7 _ rfl).1
  have m8:=(Cm 8 _ rfl).1
  have HC2:Hid _:=Jth fb fo (f || Jhu b.q) (Jo b.q) l V1 hc1 hf1
  go_wp2_with (fail)
  refine JA HC2.out ?_
  rintro e W2 ⟨rfl,A⟩
  have HL2:Hid (Leaves ⟨fb,fo,none⟩ W W2):=HL1.out.same A.out
  have Cb:=Cb.after A.out nb
  have Cm:=Cm.after A.out nm
  have Cs:=Cs.after A.out ns
  have hc2:=A.out.cell
  have hf2:=A.out.frozen
  clear HC2 A l0 l1 l2 m0 m1 m2 m3 m4 m5 m6 m7 m8 HL1 hc1 hf1 Cl
  have kf:=(Cb 15 _ rfl).1
  have kg:=(Cb 16 _ rfl).1
  have kh:=(Cb 17 _ rfl).1
  go_upto_region 5 with fail
  obtain ⟨V2,hV2⟩:∃ X,X = W2.alloc (.cells #[J Y (Jar (Jo b.q).t l).x,J Y (Jar (Jo b.q).t l).y,J Y (Jar (Jo b.q).t l).z] 27):=⟨_,rfl⟩
  have hb:=Jb W2 (.cells #[J Y (Jar (Jo b.q).t l).x,J Y (Jar (Jo b.q).t l).y,J Y (Jar (Jo b.q).t l).z] 27)
  have Cv:=CW.new W2 [J Y (Jar (Jo b.q).t l).x,J Y (Jar (Jo b.q).t l).y,J Y (Jar (Jo b.q).t l).z] 27
  rw [<- hV2] at hb Cv ⊢
  obtain ⟨pv,hpv⟩:∃ p,p = W2.heap.size:=⟨_,rfl⟩
  rw [<- hpv] at Cv ⊢
  have nv:pv ≠ fb:=by have:=HL2.out.size;omega
  have Cm:=Cm.step hb
  have Cs:=Cs.step hb
  have kf:=Ja hb kf
  have kg:=Ja hb kg
  have kh:=Ja hb kh
  have hf2:=Jt hb hc2 hf2
  have hc2:=Ja hb hc2
  have HL2:Hid (Leaves ⟨fb,fo,none⟩ W V2):=HL2.out.step (hb.mono HL2.out.size)
  clear hV2 hb hpv Cb
  go_upto_region 6 with fail
  obtain ⟨V3,hV3⟩:∃ X,X = V2.alloc (.cells #[J Y b.i.x,J Y b.i.y,J Y b.i.z] 27):=⟨_,rfl⟩
  have hb:=Jb V2 (.cells #[J Y b.i.x,J Y b.i.y,J Y b.i.z] 27)
  have Ci:=CW.new V2 [J Y b.i.x,J Y b.i.y,J Y b.i.z] 27
  rw [<- hV3] at hb Ci ⊢
  obtain ⟨pi,hpi⟩:∃ p,p = V2.heap.size:=⟨_,rfl⟩
  rw [<- hpi] at Ci ⊢
  have ni:pi ≠ fb:=by have:=HL2.out.size;omega
  have Cm:=Cm.step hb
  have Cs:=Cs.step hb
  have Cv:=Cv.step hb
  have hf3:=Jt hb hc2 hf2
  have hc3:=Ja hb hc2
  have HL3:Hid (Leaves ⟨fb,fo,none⟩ W V3):=HL2.out.step (hb.mono HL2.out.size)
  clear hV3 hb hpi kf kg kh HL2 hc2 hf2
  refine RV.rs [.some (.pointer (some ⟨fb,fo,none⟩)),.some (.agg #[J Y ((Jo b.q).a.x),J Y ((Jo b.q).a.y),J Y ((Jo b.q).a.z),J Y ((Jo b.q).b.x),J Y ((Jo b.q).b.y),J Y ((Jo b.q).b.z),J Y ((Jo b.q).c.x),J Y ((Jo b.q).c.y),J Y ((Jo b.q).c.z)]),.some (.pointer (some ⟨fb,fo,none⟩)),.some (.pointer (some ⟨pv,0,none⟩)),.some (J Y ((Jar (Jo b.q).t l).x)),.some (.pointer (some ⟨pi,0,none⟩)),.some (J Y b.i.x),.some (J Y (dv1 (Jar (Jo b.q).t l).x b.i.x)),.some (.pointer (some ⟨fb,fo,none⟩)),.some (.pointer (some ⟨pv,1,none⟩)),.some (J Y ((Jar (Jo b.q).t l).y)),.some (.pointer (some ⟨pi,1,none⟩)),.some (J Y b.i.y),.some (J Y (dv1 (Jar (Jo b.q).t l).y b.i.y)),.some (.pointer (some ⟨fb,fo,none⟩)),.some (.pointer (some ⟨pv,2,none⟩)),.some (J Y ((Jar (Jo b.q).t l).z)),.some (.pointer (some ⟨pi,2,none⟩)),.some (J Y b.i.z),.some (J Y (dv1 (Jar (Jo b.q).t l).z b.i.z)),.some (.agg #[J Y (dv1 (Jar (Jo b.q).t l).x b.i.x),J Y (dv1 (Jar (Jo b.q).t l).y b.i.y),J Y (dv1 (Jar (Jo b.q).t l).z b.i.z)]),.some (.agg #[J Y ((Jao b l).x),J Y ((Jao b l).y),J Y ((Jao b l).z)]),none] [27,28,29,30,31,32,33,34,35,36,37,38,39,40,41,42,43,44,45,46,47,48,0] [(0,.pointer (some ⟨fb,fo,none⟩)),(6,.pointer (some ⟨ps,0,none⟩)),(7,.pointer (some ⟨pm,0,none⟩)),(8,.pointer (some ⟨pv,0,none⟩)),(9,.pointer (some ⟨pi,0,none⟩))] (fun γ L w9=>FGS V3 ⟨fb,fo,none⟩ (f || Jhu b.q || Jdo (Jo b.q).t l) [(7,Jby (Jar (Jo b.q).t l).x b.i.x),(13,Jby (Jar (Jo b.q).t l).y b.i.y),(19,Jby (Jar (Jo b.q).t l).z b.i.z),(21,Jdo (Jo b.q) (Jdx b l))] 22 (fun w=>(((w.setCell ⟨ps,0,none⟩ (J Y ((Jao b l).x))).setCell ⟨ps,1,none⟩ (J Y ((Jao b l).y))).setCell ⟨ps,2,none⟩ (J Y ((Jao b l).z)))) L w9) ⟨rfl,rfl,rfl,rfl,rfl,trivial⟩ ?_ ?_ ?_
  ·exact FGS.start hc3 hf3
  ·intro D WA Z hD hWA hZ T
   simp only [RV.Outs,RV.Slots,Nat.reduceAdd] at T
   iterate 7 first
    | (refine RV.cc _ (RV.pu T (fun γ v L w hl h=>h.stay (by decide) rfl) (fun γ L a w hH hl h9 k9=>⟨_,?_,rfl⟩)) ?_;· simp [JD,go_sem,h9])
    | (refine RV.cc _ (RV.pu T (fun γ v L w hl h=>h.stay (by decide) rfl) (fun γ L a w hH hl h9 k9=>⟨_,?_,rfl⟩)) ?_;· have hG:=hH.glob.early (RV.ny hH (RV.wt (j:=22) hWA (by kernel_rfl)) hl);have q0:=hG.at (Cv 0 _ rfl).1 nv;have q1:=hG.at (Ci 0 _ rfl).1 ni;simp [JC] at k9;simp [JD,go_sem,h9,k9,q0,q1])
    | (refine RV.cc _ (RV.pu T (fun γ v L w hl h=>h.stay (by decide) rfl) (fun γ L a w hH hl h9 k9=>⟨_,?_,rfl⟩)) ?_;· have hG:=hH.glob.early (RV.ny hH (RV.wt (j:=22) hWA (by kernel_rfl)) hl);have q0:=hG.at (Cm 0 _ rfl).1 nm;have q1:=hG.at (Cm 1 _ rfl).1 nm;have q2:=hG.at (Cm 2 _ rfl).1 nm;have q3:=hG.at (Cm 3 _ rfl).1 nm;have q4:=hG.at (Cm 4 _ rfl).1 nm;have q5:=hG.at (Cm 5 _ rfl).1 nm;have q6:=hG.at (Cm 6 _ rfl).1 nm;have q7:=hG.at (Cm 7 _ rfl).1 nm;have q8:=hG.at (Cm 8 _ rfl).1 nm;simp [JD,go_sem,h9,q0,q1,q2,q3,q4,q5,q6,q7,q8])
   refine RV.cc _ (RV.dc (fun γ L a w hH hl hA=>by have h9:=T γ L a w hH;have k9:=hA;simp [JC] at k9;have hG:=hH.glob.early (RV.ny hH (RV.wt (j:=22) (i:=7) hWA (by kernel_rfl)) hl);exact ⟨92,#[.pointer (some ⟨fb,fo,none⟩),J Y ((Jar (Jo b.q).t l).x),J Y b.i.x],by simp [go_sem,h9,k9],JA (Jgg fb fo _ (Jar (Jo b.q).t l).x b.i.x w hG.cell hG.frozen) (by rintro e w2 ⟨rfl,ha⟩;exact ⟨_,rfl,rfl,fun j v _ h=>h.keep _,FGS.come hG (by decide) (RV.ny hH (RV.wt (j:=22) (i:=7) hWA (by kernel_rfl)) hl) hl rfl ha.out⟩)⟩)) ?_
   iterate 5 first
    | (refine RV.cc _ (RV.pu T (fun γ v L w hl h=>h.stay (by decide) rfl) (fun γ L a w hH hl h9 k9=>⟨_,?_,rfl⟩)) ?_;· simp [JD,go_sem,h9])
    | (refine RV.cc _ (RV.pu T (fun γ v L w hl h=>h.stay (by decide) rfl) (fun γ L a w hH hl h9 k9=>⟨_,?_,rfl⟩)) ?_;· have hG:=hH.glob.early (RV.ny hH (RV.wt (j:=22) hWA (by kernel_rfl)) hl);have q0:=hG.at (Cv 1 _ rfl).1 nv;have q1:=hG.at (Ci 1 _ rfl).1 ni;simp [JC] at k9;simp [JD,go_sem,h9,k9,q0,q1])
   refine RV.cc _ (RV.dc (fun γ L a w hH hl hA=>by have h9:=T γ L a w hH;have k9:=hA;simp [JC] at k9;have hG:=hH.glob.early (RV.ny hH (RV.wt (j:=22) (i:=13) hWA (by kernel_rfl)) hl);exact ⟨92,#[.pointer (some ⟨fb,fo,none⟩),J Y ((Jar (Jo b.q).t l).y),J Y b.i.y],by simp [go_sem,h9,k9],JA (Jgg fb fo _ (Jar (Jo b.q).t l).y b.i.y w hG.cell hG.frozen) (by rintro e w2 ⟨rfl,ha⟩;exact ⟨_,rfl,rfl,fun j v _ h=>h.keep _,FGS.come hG (by decide) (RV.ny hH (RV.wt (j:=22) (i:=13) hWA (by kernel_rfl)) hl) hl rfl ha.out⟩)⟩)) ?_
   iterate 5 first
    | (refine RV.cc _ (RV.pu T (fun γ v L w hl h=>h.stay (by decide) rfl) (fun γ L a w hH hl h9 k9=>⟨_,?_,rfl⟩)) ?_;· simp [JD,go_sem,h9])
    | (refine RV.cc _ (RV.pu T (fun γ v L w hl h=>h.stay (by decide) rfl) (fun γ L a w hH hl h9 k9=>⟨_,?_,rfl⟩)) ?_;· have hG:=hH.glob.early (RV.ny hH (RV.wt (j:=22) hWA (by kernel_rfl)) hl);have q0:=hG.at (Cv 2 _ rfl).1 nv;have q1:=hG.at (Ci 2 _ rfl).1 ni;simp [JC] at k9;simp [JD,go_sem,h9,k9,q0,q1])
   refine RV.cc _ (RV.dc (fun γ L a w hH hl hA=>by have h9:=T γ L a w hH;have k9:=hA;simp [JC] at k9;have hG:=hH.glob.early (RV.ny hH (RV.wt (j:=22) (i:=19) hWA (by kernel_rfl)) hl);exact ⟨92,#[.pointer (some ⟨fb,fo,none⟩),J Y ((Jar (Jo b.q).t l).z),J Y b.i.z],by simp [go_sem,h9,k9],JA (Jgg fb fo _ (Jar (Jo b.q).t l).z b.i.z w hG.cell hG.frozen) (by rintro e w2 ⟨rfl,ha⟩;exact ⟨_,rfl,rfl,fun j v _ h=>h.keep _,FGS.come hG (by decide) (RV.ny hH (RV.wt (j:=22) (i:=19) hWA (by kernel_rfl)) hl) hl rfl ha.out⟩)⟩)) ?_
   (refine RV.cc _ (RV.pu T (fun γ v L w hl h=>h.stay (by decide) rfl) (fun γ L a w hH hl h9 k9=>⟨_,?_,rfl⟩)) ?_;· simp [JC] at k9;simp [JD,go_sem,h9,k9])
   refine RV.cc _ (RV.dc (fun γ L a w hH hl hA=>by have h9:=T γ L a w hH;have k9:=hA;simp [JC] at k9;have hG:=hH.glob.early (RV.ny hH (RV.wt (j:=22) (i:=21) hWA (by kernel_rfl)) hl);exact ⟨99,#[.pointer (some ⟨fb,fo,none⟩),.agg #[J Y ((Jo b.q).a.x),J Y ((Jo b.q).a.y),J Y ((Jo b.q).a.z),J Y ((Jo b.q).b.x),J Y ((Jo b.q).b.y),J Y ((Jo b.q).b.z),J Y ((Jo b.q).c.x),J Y ((Jo b.q).c.y),J Y ((Jo b.q).c.z)],.agg #[J Y (dv1 (Jar (Jo b.q).t l).x b.i.x),J Y (dv1 (Jar (Jo b.q).t l).y b.i.y),J Y (dv1 (Jar (Jo b.q).t l).z b.i.z)]],by simp [go_sem,h9,k9],JA (Jtw fb fo _ (Jo b.q) (Jdx b l) w hG.cell hG.frozen) (by rintro e w2 ⟨rfl,ha⟩;exact ⟨_,rfl,rfl,fun j v _ h=>h.keep _,FGS.come hG (by decide) (RV.ny hH (RV.wt (j:=22) (i:=21) hWA (by kernel_rfl)) hl) hl rfl ha.out⟩)⟩)) ?_
   refine RV.cc _ (RV.does_store (fun γ L a w hH hl hA=>by have h9:=T γ L a w hH;have k9:=hA;simp [JC] at k9;have hG:=hH.glob.early hl;have z0:=hG.at (Cs 0 _ rfl).1 ns;have zf0:=hG.open (Cs 0 _ rfl).1 (Cs 0 _ rfl).2 ns;have z1:=hG.at (Cs 1 _ rfl).1 ns;have zf1:=hG.open (Cs 1 _ rfl).1 (Cs 1 _ rfl).2 ns;have z2:=hG.at (Cs 2 _ rfl).1 ns;have zf2:=hG.open (Cs 2 _ rfl).1 (Cs 2 _ rfl).2 ns;exact ⟨(((w.setCell ⟨ps,0,none⟩ (J Y ((Jao b l).x))).setCell ⟨ps,1,none⟩ (J Y ((Jao b l).y))).setCell ⟨ps,2,none⟩ (J Y ((Jao b l).z))),by simp [JD,go_sem,z0,zf0,z1,zf1,z2,zf2,h9,k9],trivial,fun j v _ h=>h.keep _,FGS.store (S:=fun w=>(((w.setCell ⟨ps,0,none⟩ (J Y ((Jao b l).x))).setCell ⟨ps,1,none⟩ (J Y ((Jao b l).y))).setCell ⟨ps,2,none⟩ (J Y ((Jao b l).z)))) hG rfl⟩)) ?_
   exact RV.AllDo.nil
  ·intro γ w5 L9 hL hI9 hG9
   obtain ⟨w8,hF8,rfl⟩:=hG9.late (hL 22 (by decide))
   have hFL:orL (f || Jhu b.q || Jdo (Jo b.q).t l) [(7,Jby (Jar (Jo b.q).t l).x b.i.x),(13,Jby (Jar (Jo b.q).t l).y b.i.y),(19,Jby (Jar (Jo b.q).t l).z b.i.z),(21,Jdo (Jo b.q) (Jdx b l))] L9 = ((f || Jhu b.q || Jdo (Jo b.q).t l) || (Jby (Jar (Jo b.q).t l).x b.i.x || Jby (Jar (Jo b.q).t l).y b.i.y || Jby (Jar (Jo b.q).t l).z b.i.z || Jdo (Jo b.q) (Jdx b l))):=by unfold orL;simp only [List.any_cons,List.any_nil,hL 7 (by decide),hL 13 (by decide),hL 19 (by decide),hL 21 (by decide),Bool.true_and,Bool.or_false,Bool.or_assoc]
   have HA8:Hid (After _ _ _ _):=hF8.leaves.done hF8.cell hF8.frozen
   rw [hFL] at HA8
   clear hF8 hFL
   clear hL hI9 hG9
   simp only [RV.putL,Act.put,List.setIfInBounds_toArray,List.set_cons_zero,List.set_cons_succ]
   obtain ⟨r0,q0⟩:=(Cs.after HA8.out ns) 0 _ rfl
   obtain ⟨r1,q1⟩:=(Cs.after HA8.out ns) 1 _ rfl
   obtain ⟨r2,q2⟩:=(Cs.after HA8.out ns) 2 _ rfl
   have HL:Hid (Leaves ⟨fb,fo,none⟩ W _):=HL3.out.same HA8.out
   have hc8:=HA8.out.cell
   have hf8:=HA8.out.frozen
   clear HA8
   go_wp2_with (fail)
   refine bodyPost_ret (by simp [results,results44,go_sem,r0,r1,r2];try rfl) rfl ?_
   refine ⟨by have h9:=HV9.out;subst h9;rfl,(((HL.out.set hWs _).set hWs _).set hWs _).done ?_ ?_⟩
   ·rw [HG9.out]
    simp only [World.cell?_setCell_other _ _ _ _ (fun e=>ns (Addr.mk.inj e).1),hc8]
    unfold Jd8 Jgs Jdx
    simp only [Bool.or_assoc]
   ·simp [go_sem,hf8]
 ·have hk2:(b.k == 2) = false:=by simpa using hk
  have HV9:Hid (v9 = ⟨0,0,0⟩):=by have h9:=HE.out.1;rw [if2,if_neg hk] at h9;exact h9
  have HG9:Hid (g9 = false):=by have h9:=HE.out.2;rw [Jbq,if_neg hk] at h9;exact h9
  clear HE
  obtain ⟨r0,q0⟩:=Cs 0 _ rfl
  obtain ⟨r1,q1⟩:=Cs 1 _ rfl
  obtain ⟨r2,q2⟩:=Cs 2 _ rfl
  clear Cb Cs
  go_wp2_with (fail)
  refine bodyPost_ret (by simp [results,results44,go_sem,r0,r1,r2];try rfl) rfl ?_
  refine ⟨by have h9:=HV9.out;subst h9;rfl,(((HLV.out.set hWs _).set hWs _).set hWs _).done ?_ ?_⟩
  ·rw [HG9.out,Bool.or_false];simp [go_sem,hcV]
  ·simp [go_sem,hfV]
theorem Joo (fb fo:Nat) (f:Bool) (b:Bd) (R0:List Value) (hR:Rest R0) (W:World) (hc:W.cell? ⟨fb,fo,none⟩ = some (.bool f)) (hf:W.frozen? ⟨fb,fo,none⟩ = false) :
  Calls Tryz.prog 42 #[.pointer (some ⟨fb,fo,none⟩),.agg (b.L R0).toArray] W fun e W'=>e = .returned (if2 b.k (Jao b b.l)).val/\Hid (After ⟨fb,fo,none⟩ (f || Jbq b.k (Jd8 b b.l)) W W'):=by
 have hbW:fb < W.heap.size:=JB _ _ hc
 have hz:Hid _:=J2 hR b
 obtain ⟨V,hV⟩:∃ V,V = ((W.alloc (.cells (b.L R0).toArray 39)).alloc (.cells #[J Y 0,J Y 0,J Y 0] 27)):=⟨_,rfl⟩
 have hb0:=Jb W (.cells (b.L R0).toArray 39)
 have hb1:=Jb (W.alloc (.cells (b.L R0).toArray 39)) (.cells #[J Y 0,J Y 0,J Y 0] 27)
 have Cb:CW V (W.heap.size) (b.L R0):=by
  have h9:=(CW.new W (b.L R0) 39).step hb1
  rw [hV];exact h9
 have Cs:CW V (W.heap.size + 1) [J Y 0,J Y 0,J Y 0]:=by
  have h9:=CW.new (W.alloc (.cells (b.L R0).toArray 39)) [J Y 0,J Y 0,J Y 0] 27
  simp only [JE] at h9
  rw [hV];exact h9
 have hB:Below W.heap.size W V:=by rw [hV];exact (Jf hb0 hb1)
 have hcV:=Ja hB hc
 have hfV:=Jt hB hc hf
 have HLV:Hid (Leaves ⟨fb,fo,none⟩ W V):=(Leaves.refl _ _).step hB
 clear hb0 hb1
 clear hc hf hB
 go_enter func42,ntmps42
 go_upto_region 1 with fail
 rw [<- hV]
 clear hV
 obtain ⟨ps,hps⟩:∃ p,p = W.heap.size + 1:=⟨_,rfl⟩
 obtain ⟨pb,hpb⟩:∃ p,p = W.heap.size:=⟨_,rfl⟩
 rw [<- hps] at Cs
 rw [<- hpb] at Cb
 rw [<- hps,<- hpb]
 have ns:ps ≠ fb:=by omega
 have hWs:W.heap.size <= ps:=by omega
 have HRG:Hid (World.rangeAt V pb 0 (b.L R0)):=Cb.range
 have kb:=(Cb 11 _ rfl).1
 have kc:=(Cb 12 _ rfl).1
 have kd:=(Cb 13 _ rfl).1
 have HC:Hid _:=Jlx fb fo f b R0 b.l V hcV hfV
 clear Cb hpb hps
 go_wp2_with (refine wpList_load_mid rfl 39 _ rfl pb 0 rfl _ _ HRG.out underlying39 rfl hz.out ?_)
 refine JA HC.out ?_
 rintro e W1 ⟨rfl,A⟩
 have HL:Hid (Leaves ⟨fb,fo,none⟩ W W1):=HLV.out.same A.out
 have Cs:=Cs.after A.out ns
 obtain ⟨r0,q0⟩:=Cs 0 _ rfl
 obtain ⟨r1,q1⟩:=Cs 1 _ rfl
 obtain ⟨r2,q2⟩:=Cs 2 _ rfl
 have hc8:=A.out.cell
 have hf8:=A.out.frozen
 have n3':fb ≠ ps:=fun e=>ns e.symm
 clear HC A HRG hcV hfV HLV Cs kb kc kd
 go_wp2_with (fail)
 refine bodyPost_ret (by simp [results,results42,go_sem,r0,r1,r2];try rfl) rfl ?_
 refine ⟨rfl,(((HL.out.set hWs _).set hWs _).set hWs _).done ?_ ?_⟩
 ·simp [go_sem,hc8]
 ·simp [go_sem,hf8]
end
section
open Go.RowKit Go.Shelf Fx
theorem Jpk (fb fo:Nat) (f:Bool) (b:Bd) (R:List Value) (hk:b.k = 2) (W:World) (hc:W.cell? ⟨fb,fo,none⟩ = some (.bool f)) (hf:W.frozen? ⟨fb,fo,none⟩ = false) :
  Calls Tryz.prog 41 #[.pointer (some ⟨fb,fo,none⟩),.agg (b.L R).toArray] W fun e W'=>e = .returned (Jbz b).val/\Hid (After ⟨fb,fo,none⟩ (f || Jed b) W W'):=by
 have:=Jmn fb fo f b R W hc hf
 unfold if2 Jbq at this
 rw [if_pos hk,if_pos hk] at this
 exact this
theorem Jpx (fb fo:Nat) (f:Bool) (b:Bd) (R:List Value) (hR:Rest R) (hk:b.k = 2) (W:World) (hc:W.cell? ⟨fb,fo,none⟩ = some (.bool f)) (hf:W.frozen? ⟨fb,fo,none⟩ = false) :
  Calls Tryz.prog 42 #[.pointer (some ⟨fb,fo,none⟩),.agg (b.L R).toArray] W fun e W'=>e = .returned (Jao b b.l).val/\Hid (After ⟨fb,fo,none⟩ (f || Jd8 b b.l) W W'):=by
 have:=Joo fb fo f b R hR W hc hf
 unfold if2 Jbq at this
 rw [if_pos hk,if_pos hk] at this
 exact this
end
section
open Go.RowKit Go.Shelf Fx
def hlf (a:V3):V3:=⟨a.x.tdiv 2,a.y.tdiv 2,a.z.tdiv 2⟩
def hvd (slow bad:V3->Bool):Nat->V3->V3 × Bool × Bool
 | 0,p=>(p,false,bad p)
 | n + 1,p=>if slow p then (p,false,bad p) else ((hvd slow bad n (hlf p)).1,true,bad p || (hvd slow bad n (hlf p)).2.2)
def Sml (n:Nat) (a:V3):Prop:=a.x.natAbs < 2 ^ n/\a.y.natAbs < 2 ^ n/\a.z.natAbs < 2 ^ n
theorem Js1 {n:Nat} {a:V3} (h:Sml (n + 1) a):Sml n (hlf a):=by
 obtain ⟨h1,h2,h3⟩:=h
 have e:2 ^ (n + 1) = 2 * 2 ^ n:=by rw [Nat.pow_succ,Nat.mul_comm]
 rw [e] at h1 h2 h3
 have e2:∀ x:Int,(x.tdiv 2).natAbs = x.natAbs / 2:=fun x=>by rw [Int.natAbs_tdiv];rfl
 refine ⟨?_,?_,?_⟩ <;> simp only [hlf,e2] <;> omega
theorem Jrl {a:V3} (h:Sml 0 a):a = ⟨0,0,0⟩:=by
 obtain ⟨x,y,z⟩:=a
 obtain ⟨h1,h2,h3⟩:=h
 simp only [Nat.pow_zero] at h1 h2 h3
 congr 1 <;> omega
theorem Jqv {n:Nat} {a:V3} (h:Sml n a) (hn:n <= 64):Sml 64 a:=by
 have:2 ^ n <= 2 ^ 64:=Nat.pow_le_pow_right (by decide) hn
 obtain ⟨h1,h2,h3⟩:=h
 exact ⟨by omega,by omega,by omega⟩
theorem Jp5 {a:V3} (h:Sml 64 a):wrap64 (a.x.tdiv 2) = (hlf a).x/\wrap64 (a.y.tdiv 2) = (hlf a).y/\wrap64 (a.z.tdiv 2) = (hlf a).z:=by
 obtain ⟨h1,h2,h3⟩:=h
 have e2:∀ x:Int,(x.tdiv 2).natAbs = x.natAbs / 2:=fun x=>by rw [Int.natAbs_tdiv];rfl
 have k1:=e2 a.x
 have k2:=e2 a.y
 have k3:=e2 a.z
 simp only [Nat.reducePow] at h1 h2 h3
 exact ⟨w64 (by omega) (by omega),w64 (by omega) (by omega),w64 (by omega) (by omega)⟩
structure Hv (slow bad:V3->Bool) (R9:V3 × Bool × Bool) (f:Bool) (n:Nat) (p:V3) (did g:Bool):Prop where
 fin:(hvd slow bad n p).1 = R9.1
 did:(did || (hvd slow bad n p).2.1) = R9.2.1
 bad:(g || (hvd slow bad n p).2.2) = (f || R9.2.2)
 sml:Sml n p
theorem Hv.stop {slow bad:V3->Bool} {R9:V3 × Bool × Bool} {f:Bool} {n:Nat} {p:V3} {did g:Bool} (h:Hv slow bad R9 f n p did g) (hs:slow p = true):p = R9.1/\did = R9.2.1/\(g || bad p) = (f || R9.2.2):=by
 obtain ⟨h1,h2,h3,_⟩:=h
 have e:hvd slow bad n p = (p,false,bad p):=by
  cases n with
  | zero=>rfl
  | succ n=>rw [hvd,if_pos hs]
 rw [e] at h1 h2 h3
 exact ⟨h1,by simpa using h2,h3⟩
theorem Hv.next {slow bad:V3->Bool} {R9:V3 × Bool × Bool} {f:Bool} {n:Nat} {p:V3} {did g:Bool} (h:Hv slow bad R9 f n p did g) (h0:slow ⟨0,0,0⟩ = true) (hs:slow p = false):∃ m,n = m + 1/\Hv slow bad R9 f m (hlf p) true (g || bad p):=by
 cases n with
 | zero =>
  have:=Jrl h.sml
  rw [this,h0] at hs
  cases hs
 | succ m =>
  obtain ⟨h1,h2,h3,h4⟩:=h
  rw [hvd,hs] at h1 h2 h3
  simp only [Bool.false_eq_true,if_false] at h1 h2 h3
  exact ⟨m,rfl,h1,by simpa using h2,by rw [Bool.or_assoc];exact h3,Js1 h4⟩
def Jm7 (b:Bd) (p:V3):Bool:=decide (Jga (Jbz (b.wp p)) <= 274877906944)
def Jg2 (b:Bd) (p:V3):Bool:=Jed (b.wp p) || Jte (Jbz (b.wp p))
def Jlo (b:Bd) (l:V3):Bool:=decide (Jga (Jao (b.wl l) l) <= 68719476736)
def Jmu (b:Bd) (l:V3):Bool:=Jd8 (b.wl l) l || Jte (Jao (b.wl l) l)
end
section
open Go.RowKit Go.Shelf Fx
theorem Ji3:told 0 = some 0:=by unfold told;rw [if_neg (by decide)]
theorem Jqn (n:Int):dv1 0 n = 0:=by
 unfold dv1 Ju
 split
 ·rfl
 ·split
  ·rfl
  ·have:fl (0 * 4294967296) n = 0:=by unfold fl;simp
   rw [this,Ji3];rfl
theorem Jin (a:V3):Jk1 ⟨0,0,0⟩ a = ⟨0,0,0⟩:=by unfold Jk1;simp only [Jqn]
theorem Jrp (a b c:Int):(dot [a,b,c] [0,0,0]).getD 0 = 0:=by
 unfold dot
 split
 ·rfl
 ·split
  ·rfl
  ·split
   ·rfl
   ·have:Jad [a,b,c] [0,0,0] / 4294967296 = 0:=by simp [Jad]
    rw [this,Ji3];rfl
theorem Jkx (m:Mt):Jar m ⟨0,0,0⟩ = ⟨0,0,0⟩:=by
 unfold Jar t3
 simp only [Jrp]
 cases b3 (dot [m.a.x,m.a.y,m.a.z] [0,0,0]) (dot [m.b.x,m.b.y,m.b.z] [0,0,0]) (dot [m.c.x,m.c.y,m.c.z] [0,0,0]) <;> rfl
theorem Jkm:Jga ⟨0,0,0⟩ = 0:=by
 unfold Jga Jae
 rw [if_neg (by simp),if_neg (by simp [great])]
 have:isq (Jad [0,0,0] [0,0,0]).toNat = 0:=by simp [Jad,isq]
 rw [this]
 rfl
theorem Jmd (b:Bd):Jm7 b ⟨0,0,0⟩ = true:=by
 unfold Jm7 Jbz
 have:Jk1 (b.wp ⟨0,0,0⟩).p ⟨(b.wp ⟨0,0,0⟩).m,(b.wp ⟨0,0,0⟩).m,(b.wp ⟨0,0,0⟩).m⟩ = ⟨0,0,0⟩:=Jin _
 rw [this,Jkm];rfl
theorem Jnk (b:Bd):Jlo b ⟨0,0,0⟩ = true:=by
 unfold Jlo Jao Jdx
 rw [Jkx,Jin,Jkx,Jkm];rfl
def Jg4 (b:Bd):V3 × Bool × Bool:=hvd (Jm7 b) (Jg2 b) 64 b.p
def Jgf (b:Bd):V3 × Bool × Bool:=hvd (Jlo (b.wp (Jg4 b).1)) (Jmu (b.wp (Jg4 b).1)) 64 b.l
def Jf8 (b:Bd):Bool:=(Jg4 b).2.2 || (Jgf b).2.2
def Jcd (b:Bd):Bd:=if b.k = 2/\Jf8 b = false then (b.wp (Jg4 b).1).wl (Jgf b).1 else b
def Jqx (b:Bd):Bool:=if b.k = 2/\Jf8 b = false then (Jg4 b).2.1 || (Jgf b).2.1 else false
theorem Two2.keep {p:Addr} {k:Nat} {V W:World} {B:Nat} (t:Two2 p k V W) (h1:B <= p.block) (h2:B <= k) (h3:B <= V.heap.size):Below B V W:=t.below B V (Below.refl _ _) h1 h2 h3
theorem Jcy {P:Program} {a:Act} {o:Oper} {w:World} (ty:TypeId) (x y:Operand) (ho:o.op = .store ty x y) (b off:Nat) (cells:Array Value) (hx:a.eval x = .pointer (some ⟨b,off,none⟩)) (hy:a.eval y = .agg cells)
  (ht:w.there b off cells.size) (hi:(P.info? ty).map (·.size) = some cells.size) (h1:cells.all (·.oneCell') = true):(JD a.eval o).run P w = .ok .skip (w.setCells b off cells.toList):=by
 unfold JD
 simp only [ho,hx,hy,Instr.storeAt,Instr.sureAddr,Sem.run_bind,Sem.run_pure,Result.andThen_ok,run_storeVar_mid w b off ty cells ht hi h1]
end
end Go.Proofs.YteebbpioffdncaaGreat
