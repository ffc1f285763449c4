/- Package body: how fast a body is, and how it turns. -/
import Derived.Test.YteebbpioffdncaaGreatEBBack0
import Derived.Test.YteebbpioffdncaaGreatEBBack14
import Derived.Test.YteebbpioffdncaaGreatEBBack2
import Derived.OneCell
set_option maxHeartbeats 2000000
set_option maxRecDepth 100000
set_option linter.unusedVariables false
namespace Go.Proofs.YteebbpioffdncaaGreat
open Go.Calls renaming mono -> JA
open Go.World renaming block_lt_of_cell? -> JB
open Go.Region renaming binds -> JC
open Go renaming execOp -> JD
open Go.World renaming size_alloc -> JE
open Tryz
open Go.Value renaming int -> J
open Go.IntKind renaming i64 -> Y
section
open Go.RowKit Go.Shelf Fx
def if2 (k:Int) (a:V3):V3:=if k = 2 then a else ⟨0,0,0⟩
def Jbq (k:Int) (a:Bool):Bool:=if k = 2 then a else false
def Jbz (b:Bd):V3:=Jk1 b.p ⟨b.m,b.m,b.m⟩
def Jed (b:Bd):Bool:=Jgs b.p ⟨b.m,b.m,b.m⟩
def Jdx (b:Bd) (l:V3):V3:=Jk1 (Jar (Jo b.q).t l) b.i
def Jao (b:Bd) (l:V3):V3:=Jar (Jo b.q) (Jdx b l)
def Jd8 (b:Bd) (l:V3):Bool:=Jhu b.q || (Jdo (Jo b.q).t l || Jgs (Jar (Jo b.q).t l) b.i || Jdo (Jo b.q) (Jdx b l))
theorem Jl3 (fb fo pb pw ps:Nat) (f:Bool) (b:Bd) (R:List Value) (u0 u1 u2:Value) (V:World) (hc:V.cell? ⟨fb,fo,none⟩ = some (.bool f)) (hf:V.frozen? ⟨fb,fo,none⟩ = false)
  (CB:CW V pb (b.L R)) (CP:CW V pw [.pointer (some ⟨fb,fo,none⟩)]) (CS:CW V ps [u0,u1,u2]) (n3:ps ≠ fb) :
  Calls Tryz.prog 64 #[.pointer (some ⟨pb,0,none⟩),.pointer (some ⟨pw,0,none⟩),.pointer (some ⟨ps,0,none⟩)] V fun e W'=>e = .returned (.tuple #[])/\Hid (Clo ⟨fb,fo,none⟩ (f || Jed b) ps [J Y (Jbz b).x,J Y (Jbz b).y,J Y (Jbz b).z] V W'):=by
 have k8:=(CB 8 _ rfl).1
 have k9:=(CB 9 _ rfl).1
 have ka:=(CB 10 _ rfl).1
 have ke:=(CB 14 _ rfl).1
 have kw:=(CP 0 _ rfl).1
 have HC:Hid _:=Jlj fb fo f b.p ⟨b.m,b.m,b.m⟩ V hc hf
 have HS:Hid _:=Clo.start hc hf CS
 clear CB CP CS hc hf
 go_enter func64,ntmps64
 go_wp2_with (fail)
 refine JA HC.out ?_
 rintro e W1 ⟨rfl,A⟩
 have HS:Hid (Clo _ _ _ _ _ _):=HS.out.same A.out n3
 obtain ⟨r0,q0⟩:=HS.out.cw 0 _ rfl
 obtain ⟨r1,q1⟩:=HS.out.cw 1 _ rfl
 obtain ⟨r2,q2⟩:=HS.out.cw 2 _ rfl
 clear HC A k8 k9 ka ke kw
 go_wp2_with (fail)
 go_end0
 exact ⟨rfl,((HS.out.set n3 0 _ (by simp)).set n3 1 _ (by simp)).set n3 2 _ (by simp)⟩
theorem Jnn (fb fo pw pb pl ps:Nat) (f:Bool) (b:Bd) (R:List Value) (l:V3) (u0 u1 u2:Value) (V:World) (hc:V.cell? ⟨fb,fo,none⟩ = some (.bool f)) (hf:V.frozen? ⟨fb,fo,none⟩ = false)
  (Cb:CW V pb (b.L R)) (Cw:CW V pw [.pointer (some ⟨fb,fo,none⟩)]) (Cl:CW V pl [J Y l.x,J Y l.y,J Y l.z]) (Cs:CW V ps [u0,u1,u2]) (nb:pb ≠ fb) (nw:pw ≠ fb) (nl:pl ≠ fb) (n3:ps ≠ fb) :
  Calls Tryz.prog 93 #[.pointer (some ⟨pw,0,none⟩),.pointer (some ⟨pb,0,none⟩),.pointer (some ⟨pl,0,none⟩),.pointer (some ⟨ps,0,none⟩)] V fun e W'=>e = .returned (.tuple #[])/\Hid (Clo ⟨fb,fo,none⟩ (f || Jd8 b l) ps [J Y (Jao b l).x,J Y (Jao b l).y,J Y (Jao b l).z] V W'):=by
 have k4:=(Cb 4 _ rfl).1
 have k5:=(Cb 5 _ rfl).1
 have k6:=(Cb 6 _ rfl).1
 have k7:=(Cb 7 _ rfl).1
 have kw:=(Cw 0 _ rfl).1
 have hfl:fb < V.heap.size:=JB _ _ hc
 have HC:Hid _:=Jtk fb fo f b.q V hc hf
 have HS:Hid _:=Clo.start hc hf Cs
 clear hc hf
 go_enter func93,ntmps93
 go_wp2_with (fail)
 refine JA HC.out ?_
 rintro e W1 ⟨rfl,A⟩
 have HS:Hid (Clo _ _ _ _ _ _):=HS.out.same A.out n3
 have Cb:=Cb.after A.out nb
 have Cw:=Cw.after A.out nw
 have Cl:=Cl.after A.out nl
 have hfl:=Nat.lt_of_lt_of_le hfl A.out.size
 clear HC A k4 k5 k6 k7 kw Cs
 go_upto_region 1 with fail
 obtain ⟨V1,hV1⟩:∃ X,X = W1.alloc (.cells #[J Y (Jo b.q).a.x,J Y (Jo b.q).a.y,J Y (Jo b.q).a.z,J Y (Jo b.q).b.x,J Y (Jo b.q).b.y,J Y (Jo b.q).b.z,J Y (Jo b.q).c.x,J Y (Jo b.q).c.y,J Y (Jo b.q).c.z] 123):=⟨_,rfl⟩
 have hb:=Jb W1 (.cells #[J Y (Jo b.q).a.x,J Y (Jo b.q).a.y,J Y (Jo b.q).a.z,J Y (Jo b.q).b.x,J Y (Jo b.q).b.y,J Y (Jo b.q).b.z,J Y (Jo b.q).c.x,J Y (Jo b.q).c.y,J Y (Jo b.q).c.z] 123)
 have Cm:=CW.new W1 [J Y (Jo b.q).a.x,J Y (Jo b.q).a.y,J Y (Jo b.q).a.z,J Y (Jo b.q).b.x,J Y (Jo b.q).b.y,J Y (Jo b.q).b.z,J Y (Jo b.q).c.x,J Y (Jo b.q).c.y,J Y (Jo b.q).c.z] 123
 rw [<- hV1] at hb Cm
 have HS:Hid (Clo _ _ _ _ _ _):=HS.out.step hb
 have Cb:=Cb.step hb
 have Cw:=Cw.step hb
 have Cl:=Cl.step hb
 have Cs:=HS.out.cw
 have hcV:=HS.out.cell
 have hfV:=HS.out.frozen
 rw [<- hV1]
 obtain ⟨pm,hpm⟩:∃ p,p = W1.heap.size:=⟨_,rfl⟩
 rw [<- hpm] at Cm ⊢
 have nm:pm ≠ fb:=by omega
 clear hpm hb hfl hV1
 refine RV.rs [.some (.pointer (some ⟨fb,fo,none⟩)),.some (.agg #[J Y ((Jo b.q).a.x),J Y ((Jo b.q).a.y),J Y ((Jo b.q).a.z),J Y ((Jo b.q).b.x),J Y ((Jo b.q).b.y),J Y ((Jo b.q).b.z),J Y ((Jo b.q).c.x),J Y ((Jo b.q).c.y),J Y ((Jo b.q).c.z)]),.some (.pointer (some ⟨fb,fo,none⟩)),.some (.pointer (some ⟨fb,fo,none⟩)),.some (.agg #[J Y ((Jo b.q).a.x),J Y ((Jo b.q).a.y),J Y ((Jo b.q).a.z),J Y ((Jo b.q).b.x),J Y ((Jo b.q).b.y),J Y ((Jo b.q).b.z),J Y ((Jo b.q).c.x),J Y ((Jo b.q).c.y),J Y ((Jo b.q).c.z)]),.some (.agg #[J Y l.x,J Y l.y,J Y l.z]),.some (.agg #[J Y ((Jar (Jo b.q).t l).x),J Y ((Jar (Jo b.q).t l).y),J Y ((Jar (Jo b.q).t l).z)]),.some (.pointer (some ⟨pb,14,none⟩)),.some (.pointer (some ⟨pb,15,none⟩)),.some (.agg #[J Y b.i.x,J Y b.i.y,J Y b.i.z]),.some (.agg #[J Y ((Jdx b l).x),J Y ((Jdx b l).y),J Y ((Jdx b l).z)]),.some (.agg #[J Y ((Jao b l).x),J Y ((Jao b l).y),J Y ((Jao b l).z)]),none] [11,12,13,14,15,16,17,18,19,20,21,22,0] [(0,.pointer (some ⟨pw,0,none⟩)),(1,.pointer (some ⟨pb,0,none⟩)),(2,.pointer (some ⟨pl,0,none⟩)),(3,.pointer (some ⟨ps,0,none⟩)),(4,.pointer (some ⟨pm,0,none⟩))] (fun γ L w9=>FGS V1 ⟨fb,fo,none⟩ (f || Jhu b.q) [(6,Jdo (Jo b.q).t l),(10,Jgs (Jar (Jo b.q).t l) b.i),(11,Jdo (Jo b.q) (Jdx b l))] 12 (fun w=>(((w.setCell ⟨ps,0,none⟩ (J Y ((Jao b l).x))).setCell ⟨ps,1,none⟩ (J Y ((Jao b l).y))).setCell ⟨ps,2,none⟩ (J Y ((Jao b l).z)))) L w9) ⟨rfl,rfl,rfl,rfl,rfl,trivial⟩ ?_ ?_ ?_
 ·exact FGS.start hcV hfV
 ·intro D WA Z hD hWA hZ T
  simp only [RV.Outs,RV.Slots,Nat.reduceAdd] at T
  iterate 6 (refine RV.cc _ (RV.pu T (fun γ v L w hl h=>h.stay (by decide) rfl) (fun γ L a w hH hl h9 k9=>⟨_,?_,rfl⟩)) ?_;· have hG:=hH.glob.early (RV.ny hH (RV.wt (j:=12) hWA (by kernel_rfl)) hl);have q0:=hG.at (Cw 0 _ rfl).1 nw;have q1:=hG.at (Cm 0 _ rfl).1 nm;have q2:=hG.at (Cm 1 _ rfl).1 nm;have q3:=hG.at (Cm 2 _ rfl).1 nm;have q4:=hG.at (Cm 3 _ rfl).1 nm;have q5:=hG.at (Cm 4 _ rfl).1 nm;have q6:=hG.at (Cm 5 _ rfl).1 nm;have q7:=hG.at (Cm 6 _ rfl).1 nm;have q8:=hG.at (Cm 7 _ rfl).1 nm;have q9:=hG.at (Cm 8 _ rfl).1 nm;have q10:=hG.at (Cl 0 _ rfl).1 nl;have q11:=hG.at (Cl 1 _ rfl).1 nl;have q12:=hG.at (Cl 2 _ rfl).1 nl;simp [JD,go_sem,h9,q0,q1,q2,q3,q4,q5,q6,q7,q8,q9,q10,q11,q12])
  refine RV.cc _ (RV.dc (fun γ L a w hH hl hA=>by have h9:=T γ L a w hH;have k9:=hA;simp [JC] at k9;have hG:=hH.glob.early (RV.ny hH (RV.wt (j:=12) (i:=6) hWA (by kernel_rfl)) hl);exact ⟨96,#[.pointer (some ⟨fb,fo,none⟩),.agg #[J Y ((Jo b.q).a.x),J Y ((Jo b.q).a.y),J Y ((Jo b.q).a.z),J Y ((Jo b.q).b.x),J Y ((Jo b.q).b.y),J Y ((Jo b.q).b.z),J Y ((Jo b.q).c.x),J Y ((Jo b.q).c.y),J Y ((Jo b.q).c.z)],.agg #[J Y l.x,J Y l.y,J Y l.z]],by simp [go_sem,h9,k9],JA (Jt3 fb fo _ (Jo b.q) l w hG.cell hG.frozen) (by rintro e w2 ⟨rfl,ha⟩;exact ⟨_,rfl,rfl,fun j v _ h=>h.keep _,FGS.come hG (by decide) (RV.ny hH (RV.wt (j:=12) (i:=6) hWA (by kernel_rfl)) hl) hl rfl ha.out⟩)⟩)) ?_
  iterate 3 first
   | (refine RV.cc _ (RV.pu T (fun γ v L w hl h=>h.stay (by decide) rfl) (fun γ L a w hH hl h9 k9=>⟨_,?_,rfl⟩)) ?_;· simp [JD,go_sem,h9])
   | (refine RV.cc _ (RV.pu T (fun γ v L w hl h=>h.stay (by decide) rfl) (fun γ L a w hH hl h9 k9=>⟨_,?_,rfl⟩)) ?_;· simp [JC] at k9;simp [JD,go_sem,h9,k9])
   | (refine RV.cc _ (RV.pu T (fun γ v L w hl h=>h.stay (by decide) rfl) (fun γ L a w hH hl h9 k9=>⟨_,?_,rfl⟩)) ?_;· have hG:=hH.glob.early (RV.ny hH (RV.wt (j:=12) hWA (by kernel_rfl)) hl);have q0:=hG.at (Cb 15 _ rfl).1 nb;have q1:=hG.at (Cb 16 _ rfl).1 nb;have q2:=hG.at (Cb 17 _ rfl).1 nb;simp [JC] at k9;simp [JD,go_sem,h9,k9,q0,q1,q2])
  refine RV.cc _ (RV.dc (fun γ L a w hH hl hA=>by have h9:=T γ L a w hH;have k9:=hA;simp [JC] at k9;have hG:=hH.glob.early (RV.ny hH (RV.wt (j:=12) (i:=10) hWA (by kernel_rfl)) hl);exact ⟨65,#[.pointer (some ⟨fb,fo,none⟩),.agg #[J Y ((Jar (Jo b.q).t l).x),J Y ((Jar (Jo b.q).t l).y),J Y ((Jar (Jo b.q).t l).z)],.agg #[J Y b.i.x,J Y b.i.y,J Y b.i.z]],by simp [go_sem,h9,k9],JA (Jlj fb fo _ (Jar (Jo b.q).t l) b.i w hG.cell hG.frozen) (by rintro e w2 ⟨rfl,ha⟩;exact ⟨_,rfl,rfl,fun j v _ h=>h.keep _,FGS.come hG (by decide) (RV.ny hH (RV.wt (j:=12) (i:=10) hWA (by kernel_rfl)) hl) hl rfl ha.out⟩)⟩)) ?_
  refine RV.cc _ (RV.dc (fun γ L a w hH hl hA=>by have h9:=T γ L a w hH;have k9:=hA;simp [JC] at k9;have hG:=hH.glob.early (RV.ny hH (RV.wt (j:=12) (i:=11) hWA (by kernel_rfl)) hl);exact ⟨95,#[.pointer (some ⟨fb,fo,none⟩),.agg #[J Y ((Jo b.q).a.x),J Y ((Jo b.q).a.y),J Y ((Jo b.q).a.z),J Y ((Jo b.q).b.x),J Y ((Jo b.q).b.y),J Y ((Jo b.q).b.z),J Y ((Jo b.q).c.x),J Y ((Jo b.q).c.y),J Y ((Jo b.q).c.z)],.agg #[J Y ((Jdx b l).x),J Y ((Jdx b l).y),J Y ((Jdx b l).z)]],by simp [go_sem,h9,k9],JA (Js9 fb fo _ (Jo b.q) (Jdx b l) w hG.cell hG.frozen) (by rintro e w2 ⟨rfl,ha⟩;exact ⟨_,rfl,rfl,fun j v _ h=>h.keep _,FGS.come hG (by decide) (RV.ny hH (RV.wt (j:=12) (i:=11) hWA (by kernel_rfl)) hl) hl rfl ha.out⟩)⟩)) ?_
  refine RV.cc _ (RV.does_store (fun γ L a w hH hl hA=>by have h9:=T γ L a w hH;have k9:=hA;simp [JC] at k9;have hG:=hH.glob.early hl;have z0:=hG.at (Cs 0 _ rfl).1 n3;have zf0:=hG.open (Cs 0 _ rfl).1 (Cs 0 _ rfl).2 n3;have z1:=hG.at (Cs 1 _ rfl).1 n3;have zf1:=hG.open (Cs 1 _ rfl).1 (Cs 1 _ rfl).2 n3;have z2:=hG.at (Cs 2 _ rfl).1 n3;have zf2:=hG.open (Cs 2 _ rfl).1 (Cs 2 _ rfl).2 n3;exact ⟨(((w.setCell ⟨ps,0,none⟩ (J Y ((Jao b l).x))).setCell ⟨ps,1,none⟩ (J Y ((Jao b l).y))).setCell ⟨ps,2,none⟩ (J Y ((Jao b l).z))),by simp [JD,go_sem,z0,zf0,z1,zf1,z2,zf2,h9,k9],trivial,fun j v _ h=>h.keep _,FGS.store (S:=fun w=>(((w.setCell ⟨ps,0,none⟩ (J Y ((Jao b l).x))).setCell ⟨ps,1,none⟩ (J Y ((Jao b l).y))).setCell ⟨ps,2,none⟩ (J Y ((Jao b l).z)))) hG rfl⟩)) ?_
  exact RV.AllDo.nil
 ·intro γ w5 L9 hL hI9 hG9
  obtain ⟨w8,hF8,rfl⟩:=hG9.late (hL 12 (by decide))
  have hFL:orL (f || Jhu b.q) [(6,Jdo (Jo b.q).t l),(10,Jgs (Jar (Jo b.q).t l) b.i),(11,Jdo (Jo b.q) (Jdx b l))] L9 = ((f || Jhu b.q) || (Jdo (Jo b.q).t l || Jgs (Jar (Jo b.q).t l) b.i || Jdo (Jo b.q) (Jdx b l))):=by unfold orL;simp only [List.any_cons,List.any_nil,hL 6 (by decide),hL 10 (by decide),hL 11 (by decide),Bool.true_and,Bool.or_false,Bool.or_assoc]
  have HA8:Hid (After _ _ _ _):=hF8.leaves.done hF8.cell hF8.frozen
  rw [hFL] at HA8
  clear hF8 hFL
  clear hL hI9 hG9
  simp only [RV.putL,Act.put,List.setIfInBounds_toArray,List.set_cons_zero,List.set_cons_succ]
  have HS:Hid (Clo _ _ _ _ _ _):=HS.out.same HA8.out n3
  have e9:(f || Jhu b.q || (Jdo (Jo b.q).t l || Jgs (Jar (Jo b.q).t l) b.i || Jdo (Jo b.q) (Jdx b l))) = (f || Jd8 b l):=by unfold Jd8;rw [Bool.or_assoc f]
  rw [e9] at HS
  clear HA8 e9
  go_wp2_with (fail)
  go_end0
  exact ⟨rfl,((HS.out.set n3 0 _ (by simp)).set n3 1 _ (by simp)).set n3 2 _ (by simp)⟩
theorem Jix (fb fo:Nat) (f:Bool) (b:Bd) (R:List Value) (hR:Rest R) (W:World) (hc:W.cell? ⟨fb,fo,none⟩ = some (.bool f)) (hf:W.frozen? ⟨fb,fo,none⟩ = false) :
  Calls Tryz.prog 22 #[.pointer (some ⟨fb,fo,none⟩),.agg (b.L R).toArray] W fun e W'=>e = .returned (if2 b.k (Jbz b)).val/\Hid (After ⟨fb,fo,none⟩ (f || Jbq b.k (Jed b)) W W'):=by
 have hbW:fb < W.heap.size:=JB _ _ hc
 have hz:Hid _:=J2 hR b
 obtain ⟨V,hV⟩:∃ V,V = (((W.alloc (.cells #[.pointer (some ⟨fb,fo,none⟩)] 45)).alloc (.cells (b.L R).toArray 39)).alloc (.cells #[J Y 0,J Y 0,J Y 0] 27)):=⟨_,rfl⟩
 have hb0:=Jb W (.cells #[.pointer (some ⟨fb,fo,none⟩)] 45)
 have hb1:=Jb (W.alloc (.cells #[.pointer (some ⟨fb,fo,none⟩)] 45)) (.cells (b.L R).toArray 39)
 have hb2:=Jb ((W.alloc (.cells #[.pointer (some ⟨fb,fo,none⟩)] 45)).alloc (.cells (b.L R).toArray 39)) (.cells #[J Y 0,J Y 0,J Y 0] 27)
 have Cw:CW V (W.heap.size) [.pointer (some ⟨fb,fo,none⟩)]:=by
  have h9:=((CW.new W [.pointer (some ⟨fb,fo,none⟩)] 45).step hb1).step hb2
  rw [hV];exact h9
 have Cb:CW V (W.heap.size + 1) (b.L R):=by
  have h9:=(CW.new (W.alloc (.cells #[.pointer (some ⟨fb,fo,none⟩)] 45)) (b.L R) 39).step hb2
  simp only [JE] at h9
  rw [hV];exact h9
 have Cs:CW V (W.heap.size + 1 + 1) [J Y 0,J Y 0,J Y 0]:=by
  have h9:=CW.new ((W.alloc (.cells #[.pointer (some ⟨fb,fo,none⟩)] 45)).alloc (.cells (b.L R).toArray 39)) [J Y 0,J Y 0,J Y 0] 27
  simp only [JE] at h9
  rw [hV];exact h9
 have hB:Below W.heap.size W V:=by rw [hV];exact (Jf (Jf hb0 hb1) hb2)
 have hcV:=Ja hB hc
 have hfV:=Jt hB hc hf
 have HLV:Hid (Leaves ⟨fb,fo,none⟩ W V):=(Leaves.refl _ _).step hB
 clear hb0 hb1 hb2
 clear hc hf hB
 go_enter func22,ntmps22
 go_upto_region 1 with fail
 rw [<- hV]
 clear hV
 obtain ⟨ps,hps⟩:∃ p,p = W.heap.size + 1 + 1:=⟨_,rfl⟩
 obtain ⟨pb,hpb⟩:∃ p,p = W.heap.size + 1:=⟨_,rfl⟩
 obtain ⟨pw,hpw⟩:∃ p,p = W.heap.size:=⟨_,rfl⟩
 rw [<- hps] at Cs
 rw [<- hpb] at Cb
 rw [<- hpw] at Cw
 rw [<- hps,<- hpb,<- hpw]
 have nw:pw ≠ fb:=by omega
 have nb:pb ≠ fb:=by omega
 have ns:ps ≠ fb:=by omega
 have hWs:W.heap.size <= ps:=by omega
 have HRG:Hid (World.rangeAt V pb 0 (b.L R)):=Cb.range
 by_cases hk:b.k = 2
 ·have HC:Hid _:=Jgx b R hk 64 #[.pointer (some ⟨pb,0,none⟩),.pointer (some ⟨pw,0,none⟩),.pointer (some ⟨ps,0,none⟩)] (enters_of func64 (by kernel_rfl) rfl) (fun X=>Hid (Clo ⟨fb,fo,none⟩ (f || Jed b) ps [J Y (Jbz b).x,J Y (Jbz b).y,J Y (Jbz b).z] (V.alloc (.cells (b.L R).toArray 39)) X)) V
   (Jl3 fb fo pb pw ps f b R _ _ _ (V.alloc (.cells (b.L R).toArray 39)) (Ja (Jb _ _) hcV) (Jt (Jb _ _) hcV hfV) (Cb.step (Jb _ _)) (Cw.step (Jb _ _)) (Cs.step (Jb _ _)) ns)
  clear Cw Cb Cs hpw hpb hps
  go_wp2_with (refine wpList_load_mid rfl 39 _ rfl pb 0 rfl _ _ HRG.out underlying39 rfl hz.out ?_)
  refine JA HC.out ?_
  rintro e W1 ⟨rfl,HK⟩
  have HL:Hid (Leaves ⟨fb,fo,none⟩ W W1):=(HLV.out.step ((Jb V _).mono HLV.out.size)).two HK.out.two hbW hWs
  obtain ⟨r0,q0⟩:=HK.out.cw 0 _ rfl
  obtain ⟨r1,q1⟩:=HK.out.cw 1 _ rfl
  obtain ⟨r2,q2⟩:=HK.out.cw 2 _ rfl
  have hc8:=HK.out.cell
  have hf8:=HK.out.frozen
  have n3':fb ≠ ps:=fun e=>ns e.symm
  clear HC HK HRG hcV hfV HLV
  go_wp2_with (fail)
  refine bodyPost_ret (by simp [results,results22,go_sem,r0,r1,r2];try rfl) rfl ?_
  refine ⟨by rw [if2,if_pos hk],(((HL.out.set hWs _).set hWs _).set hWs _).done ?_ ?_⟩
  ·rw [Jbq,if_pos hk];simp [go_sem,hc8]
  ·simp [go_sem,hf8]
 ·have HC:Hid _:=Jjt b R (.func (.func 64) #[] #[.pointer (some ⟨pb,0,none⟩),.pointer (some ⟨pw,0,none⟩),.pointer (some ⟨ps,0,none⟩)]) hk V
  clear Cw Cb hpw hpb hps
  go_wp2_with (refine wpList_load_mid rfl 39 _ rfl pb 0 rfl _ _ HRG.out underlying39 rfl hz.out ?_)
  refine JA HC.out ?_
  rintro e W1 ⟨rfl,HK⟩
  have HL:Hid (Leaves ⟨fb,fo,none⟩ W W1):=HLV.out.step (HK.out.mono HLV.out.size)
  have Cs:=Cs.step HK.out
  obtain ⟨r0,q0⟩:=Cs 0 _ rfl
  obtain ⟨r1,q1⟩:=Cs 1 _ rfl
  obtain ⟨r2,q2⟩:=Cs 2 _ rfl
  have hc8:=Ja HK.out hcV
  have hf8:=Jt HK.out hcV hfV
  have n3':fb ≠ ps:=fun e=>ns e.symm
  clear HC HK HRG hcV hfV HLV Cs
  go_wp2_with (fail)
  refine bodyPost_ret (by simp [results,results22,go_sem,r0,r1,r2];try rfl) rfl ?_
  refine ⟨by rw [if2,if_neg hk],(((HL.out.set hWs _).set hWs _).set hWs _).done ?_ ?_⟩
  ·rw [Jbq,if_neg hk];simp [go_sem,hc8]
  ·simp [go_sem,hf8]
theorem Jop (fb fo:Nat) (f:Bool) (b:Bd) (R:List Value) (l:V3) (hR:Rest R) (W:World) (hc:W.cell? ⟨fb,fo,none⟩ = some (.bool f)) (hf:W.frozen? ⟨fb,fo,none⟩ = false) :
  Calls Tryz.prog 43 #[.pointer (some ⟨fb,fo,none⟩),.agg (b.L R).toArray,l.val] W fun e W'=>e = .returned (if2 b.k (Jao b l)).val/\Hid (After ⟨fb,fo,none⟩ (f || Jbq b.k (Jd8 b l)) W W'):=by
 have hbW:fb < W.heap.size:=JB _ _ hc
 have hz:Hid _:=J2 hR b
 obtain ⟨V,hV⟩:∃ V,V = ((((W.alloc (.cells #[.pointer (some ⟨fb,fo,none⟩)] 45)).alloc (.cells (b.L R).toArray 39)).alloc (.cells #[J Y l.x,J Y l.y,J Y l.z] 27)).alloc (.cells #[J Y 0,J Y 0,J Y 0] 27)):=⟨_,rfl⟩
 have hb0:=Jb W (.cells #[.pointer (some ⟨fb,fo,none⟩)] 45)
 have hb1:=Jb (W.alloc (.cells #[.pointer (some ⟨fb,fo,none⟩)] 45)) (.cells (b.L R).toArray 39)
 have hb2:=Jb ((W.alloc (.cells #[.pointer (some ⟨fb,fo,none⟩)] 45)).alloc (.cells (b.L R).toArray 39)) (.cells #[J Y l.x,J Y l.y,J Y l.z] 27)
 have hb3:=Jb (((W.alloc (.cells #[.pointer (some ⟨fb,fo,none⟩)] 45)).alloc (.cells (b.L R).toArray 39)).alloc (.cells #[J Y l.x,J Y l.y,J Y l.z] 27)) (.cells #[J Y 0,J Y 0,J Y 0] 27)
 have Cw:CW V (W.heap.size) [.pointer (some ⟨fb,fo,none⟩)]:=by
  have h9:=(((CW.new W [.pointer (some ⟨fb,fo,none⟩)] 45).step hb1).step hb2).step hb3
  rw [hV];exact h9
 have Cb:CW V (W.heap.size + 1) (b.L R):=by
  have h9:=((CW.new (W.alloc (.cells #[.pointer (some ⟨fb,fo,none⟩)] 45)) (b.L R) 39).step hb2).step hb3
  simp only [JE] at h9
  rw [hV];exact h9
 have Cl:CW V (W.heap.size + 1 + 1) [J Y l.x,J Y l.y,J Y l.z]:=by
  have h9:=(CW.new ((W.alloc (.cells #[.pointer (some ⟨fb,fo,none⟩)] 45)).alloc (.cells (b.L R).toArray 39)) [J Y l.x,J Y l.y,J Y l.z] 27).step hb3
  simp only [JE] at h9
  rw [hV];exact h9
 have Cs:CW V (W.heap.size + 1 + 1 + 1) [J Y 0,J Y 0,J Y 0]:=by
  have h9:=CW.new (((W.alloc (.cells #[.pointer (some ⟨fb,fo,none⟩)] 45)).alloc (.cells (b.L R).toArray 39)).alloc (.cells #[J Y l.x,J Y l.y,J Y l.z] 27)) [J Y 0,J Y 0,J Y 0] 27
  simp only [JE] at h9
  rw [hV];exact h9
 have hB:Below W.heap.size W V:=by rw [hV];exact (Jf (Jf (Jf hb0 hb1) hb2) hb3)
 have hcV:=Ja hB hc
 have hfV:=Jt hB hc hf
 have HLV:Hid (Leaves ⟨fb,fo,none⟩ W V):=(Leaves.refl _ _).step hB
 clear hb0 hb1 hb2 hb3
 clear hc hf hB
 go_enter func43,ntmps43
 go_upto_region 1 with fail
 rw [<- hV]
 clear hV
 obtain ⟨ps,hps⟩:∃ p,p = W.heap.size + 1 + 1 + 1:=⟨_,rfl⟩
 obtain ⟨pl,hpl⟩:∃ p,p = W.heap.size + 1 + 1:=⟨_,rfl⟩
 obtain ⟨pb,hpb⟩:∃ p,p = W.heap.size + 1:=⟨_,rfl⟩
 obtain ⟨pw,hpw⟩:∃ p,p = W.heap.size:=⟨_,rfl⟩
 rw [<- hps] at Cs
 rw [<- hpl] at Cl
 rw [<- hpb] at Cb
 rw [<- hpw] at Cw
 rw [<- hps,<- hpl,<- hpb,<- hpw]
 have nw:pw ≠ fb:=by omega
 have nb:pb ≠ fb:=by omega
 have nl:pl ≠ fb:=by omega
 have ns:ps ≠ fb:=by omega
 have hWs:W.heap.size <= ps:=by omega
 have HRG:Hid (World.rangeAt V pb 0 (b.L R)):=Cb.range
 by_cases hk:b.k = 2
 ·have HC:Hid _:=Jgx b R hk 93 #[.pointer (some ⟨pw,0,none⟩),.pointer (some ⟨pb,0,none⟩),.pointer (some ⟨pl,0,none⟩),.pointer (some ⟨ps,0,none⟩)] (enters_of func93 (by kernel_rfl) rfl) (fun X=>Hid (Clo ⟨fb,fo,none⟩ (f || Jd8 b l) ps [J Y (Jao b l).x,J Y (Jao b l).y,J Y (Jao b l).z] (V.alloc (.cells (b.L R).toArray 39)) X)) V
   (Jnn fb fo pw pb pl ps f b R l _ _ _ (V.alloc (.cells (b.L R).toArray 39)) (Ja (Jb _ _) hcV) (Jt (Jb _ _) hcV hfV) (Cb.step (Jb _ _)) (Cw.step (Jb _ _)) (Cl.step (Jb _ _)) (Cs.step (Jb _ _)) nb nw nl ns)
  clear Cw Cb Cl Cs hpw hpb hpl hps
  go_wp2_with (refine wpList_load_mid rfl 39 _ rfl pb 0 rfl _ _ HRG.out underlying39 rfl hz.out ?_)
  refine JA HC.out ?_
  rintro e W1 ⟨rfl,HK⟩
  have HL:Hid (Leaves ⟨fb,fo,none⟩ W W1):=(HLV.out.step ((Jb V _).mono HLV.out.size)).two HK.out.two hbW hWs
  obtain ⟨r0,q0⟩:=HK.out.cw 0 _ rfl
  obtain ⟨r1,q1⟩:=HK.out.cw 1 _ rfl
  obtain ⟨r2,q2⟩:=HK.out.cw 2 _ rfl
  have hc8:=HK.out.cell
  have hf8:=HK.out.frozen
  have n3':fb ≠ ps:=fun e=>ns e.symm
  clear HC HK HRG hcV hfV HLV
  go_wp2_with (fail)
  refine bodyPost_ret (by simp [results,results43,go_sem,r0,r1,r2];try rfl) rfl ?_
  refine ⟨by rw [if2,if_pos hk],(((HL.out.set hWs _).set hWs _).set hWs _).done ?_ ?_⟩
  ·rw [Jbq,if_pos hk];simp [go_sem,hc8]
  ·simp [go_sem,hf8]
 ·have HC:Hid _:=Jjt b R (.func (.func 93) #[] #[.pointer (some ⟨pw,0,none⟩),.pointer (some ⟨pb,0,none⟩),.pointer (some ⟨pl,0,none⟩),.pointer (some ⟨ps,0,none⟩)]) hk V
  clear Cw Cb Cl hpw hpb hpl hps
  go_wp2_with (refine wpList_load_mid rfl 39 _ rfl pb 0 rfl _ _ HRG.out underlying39 rfl hz.out ?_)
  refine JA HC.out ?_
  rintro e W1 ⟨rfl,HK⟩
  have HL:Hid (Leaves ⟨fb,fo,none⟩ W W1):=HLV.out.step (HK.out.mono HLV.out.size)
  have Cs:=Cs.step HK.out
  obtain ⟨r0,q0⟩:=Cs 0 _ rfl
  obtain ⟨r1,q1⟩:=Cs 1 _ rfl
  obtain ⟨r2,q2⟩:=Cs 2 _ rfl
  have hc8:=Ja HK.out hcV
  have hf8:=Jt HK.out hcV hfV
  have n3':fb ≠ ps:=fun e=>ns e.symm
  clear HC HK HRG hcV hfV HLV Cs
  go_wp2_with (fail)
  refine bodyPost_ret (by simp [results,results43,go_sem,r0,r1,r2];try rfl) rfl ?_
  refine ⟨by rw [if2,if_neg hk],(((HL.out.set hWs _).set hWs _).set hWs _).done ?_ ?_⟩
  ·rw [Jbq,if_neg hk];simp [go_sem,hc8]
  ·simp [go_sem,hf8]
theorem Jrb (fb fo:Nat) (f:Bool) (b:Bd) (R:List Value) (hR:Rest R) (W:World) (hc:W.cell? ⟨fb,fo,none⟩ = some (.bool f)) (hf:W.frozen? ⟨fb,fo,none⟩ = false) :
  Calls Tryz.prog 28 #[.pointer (some ⟨fb,fo,none⟩),.agg (b.L R).toArray] W fun e W'=>e = .returned (if2 b.k (Jao b b.l)).val/\Hid (After ⟨fb,fo,none⟩ (f || Jbq b.k (Jd8 b b.l)) W W'):=by
 have hbW:fb < W.heap.size:=JB _ _ hc
 have hz:Hid _:=J2 hR b
 obtain ⟨V,hV⟩:∃ V,V = ((W.alloc (.cells (b.L R).toArray 39)).alloc (.cells #[J Y 0,J Y 0,J Y 0] 27)):=⟨_,rfl⟩
 have hb0:=Jb W (.cells (b.L R).toArray 39)
 have hb1:=Jb (W.alloc (.cells (b.L R).toArray 39)) (.cells #[J Y 0,J Y 0,J Y 0] 27)
 have Cb:CW V (W.heap.size) (b.L R):=by
  have h9:=(CW.new W (b.L R) 39).step hb1
  rw [hV];exact h9
 have Cs:CW V (W.heap.size + 1) [J Y 0,J Y 0,J Y 0]:=by
  have h9:=CW.new (W.alloc (.cells (b.L R).toArray 39)) [J Y 0,J Y 0,J Y 0] 27
  simp only [JE] at h9
  rw [hV];exact h9
 have hB:Below W.heap.size W V:=by rw [hV];exact (Jf hb0 hb1)
 have hcV:=Ja hB hc
 have hfV:=Jt hB hc hf
 have HLV:Hid (Leaves ⟨fb,fo,none⟩ W V):=(Leaves.refl _ _).step hB
 clear hb0 hb1
 clear hc hf hB
 go_enter func28,ntmps28
 go_upto_region 1 with fail
 rw [<- hV]
 clear hV
 obtain ⟨ps,hps⟩:∃ p,p = W.heap.size + 1:=⟨_,rfl⟩
 obtain ⟨pb,hpb⟩:∃ p,p = W.heap.size:=⟨_,rfl⟩
 rw [<- hps] at Cs
 rw [<- hpb] at Cb
 rw [<- hps,<- hpb]
 have ns:ps ≠ fb:=by omega
 have hWs:W.heap.size <= ps:=by omega
 have HRG:Hid (World.rangeAt V pb 0 (b.L R)):=Cb.range
 have kb:=(Cb 11 _ rfl).1
 have kc:=(Cb 12 _ rfl).1
 have kd:=(Cb 13 _ rfl).1
 have HC:Hid _:=Jop fb fo f b R b.l hR V hcV hfV
 clear Cb hpb hps
 go_wp2_with (refine wpList_load_mid rfl 39 _ rfl pb 0 rfl _ _ HRG.out underlying39 rfl hz.out ?_)
 refine JA HC.out ?_
 rintro e W1 ⟨rfl,A⟩
 have HL:Hid (Leaves ⟨fb,fo,none⟩ W W1):=HLV.out.same A.out
 have Cs:=Cs.after A.out ns
 obtain ⟨r0,q0⟩:=Cs 0 _ rfl
 obtain ⟨r1,q1⟩:=Cs 1 _ rfl
 obtain ⟨r2,q2⟩:=Cs 2 _ rfl
 have hc8:=A.out.cell
 have hf8:=A.out.frozen
 have n3':fb ≠ ps:=fun e=>ns e.symm
 clear HC A HRG hcV hfV HLV Cs kb kc kd
 go_wp2_with (fail)
 refine bodyPost_ret (by simp [results,results28,go_sem,r0,r1,r2];try rfl) rfl ?_
 refine ⟨rfl,(((HL.out.set hWs _).set hWs _).set hWs _).done ?_ ?_⟩
 ·simp [go_sem,hc8]
 ·simp [go_sem,hf8]
end
section
open Go.RowKit Go.Shelf Fx
theorem Jmp (v:Value) (L:List Pt) (w:World) (hv:Lies w v L) (hl:L.length <= 100000) :
  Calls Tryz.prog 104 #[v] w fun e W=>∃ u,e = .returned u/\Row w W u L:=by
 obtain ⟨i0,hii,hiz,hisz,hib⟩:=info_parts Jd7
 have HI:Hid _:=And.intro hii (And.intro hiz (And.intro hisz hib))
 clear hii hiz hisz hib
 obtain ⟨o,cp,rfl,hlc,hcm,hx⟩:=hv.cells
 cases o with
 | none =>
  have h0:L = []:=hx.resolve_right (by rintro ⟨g,off,e,_⟩;cases e)
  subst h0
  have hnil:∀ W,(binOp .eql 24 (.slice none 0 cp) (.slice none 0 0)).run Tryz.prog W = .ok (.bool true) W:=fun W=>Lib.run_eql_slice_nil_nil W _ _ underlying24
  clear hv hx HI
  go_enter func104,ntmps104
  go_wp2
  go_ret
  exact ⟨_,rfl,Row.start w⟩
 | some ad =>
  have HC:Hid (∀ j u,(fl3 L)[j]? = some u->(w.alloc (.cells #[] 23)).cell? (ad.add j) = some u):=fun j u hj=>by
   rcases hx with h0 | ⟨g,off,e,hcell⟩
   ·subst h0;simp [fl3] at hj
   ·cases e
    have ad:(⟨g,off,none⟩:Addr).add j = ⟨g,off + j,none⟩:=by unfold Addr.add;split <;> simp_all
    rw [ad];exact Ja (Jb w _) (hcell j u hj)
  have HCL:Hid _:=Jdz L
  clear hv hx
  have hnil:∀ W,(binOp .eql 24 (.slice (some ad) L.length cp) (.slice none 0 0)).run Tryz.prog W = .ok (.bool false) W:=fun W=>Lib.run_eql_slice_some_nil W _ _ _ underlying24
  go_enter func104,ntmps104
  go_wp2_with (at_builtin;refine wpList_append_own _ rfl _ _ 24 rfl w.heap.size 23 i0 _ 3 24 underlying24 HI.out.1 HI.out.2.1 HI.out.2.2.1 HI.out.2.2.2 rfl (by decide) _ 0 [] rfl (World.ownsRow_lit (e:=23) (size:=3) w #[] 0 (Nat.le_refl _) (by unfold maxLen;omega) rfl) ad L.length cp (fl3 L) rfl HCL.out HC.out (Jnz L) (by unfold maxLen;omega) (by omega) (by simp) ?_;intro u9 V2 r8 g8 _)
  go_ret
  rw [Nat.zero_add,List.nil_append] at r8
  exact ⟨_,rfl,r8,((Below.refl _ w).alloc (Nat.le_refl _) _).grown g8 (by simp) (fun k e=>by cases e;exact Nat.le_refl _)⟩
theorem Jbm {P:Program} {fn:Func} {tmps:Array Value} {w:World} {v:Value} (a:Nat) (t:TypeId) (hr:fn.results = #[.cell a t]) (p:Addr) (ha:tmps[a]?.getD undef = .pointer (some p)) (h:(loadVar t p).run P w = .ok v w):(results fn tmps).run P w = .ok v w:=by
 unfold results
 rw [hr]
 simp [ha,asAddr,h]
theorem CW.apart {W:World} {b k:Nat} {vs us:List Value} (h:CW W b vs) (hne:b ≠ k):CW (W.setCells k 0 us) b vs:=fun i v e=>by
 obtain ⟨h1,h2⟩:=h i v e
 exact ⟨(World.cell?_setCells_out _ _ _ _ _ (fun e=>absurd e hne)).trans h1,(World.frozen?_setCells _ _ _ _ _).trans h2⟩
theorem Jbu {w:World} {base:Nat} {t:TypeId} {sz m:Nat} {v:Value} {xs:List Value} {b:Nat} (h:w.ownsRow base t sz v m xs) (hne:v.ownBlock ≠ some b):∀ (vs:List Value) (o:Nat),(w.setCells b o vs).ownsRow base t sz v m xs:=by
 intro vs
 induction vs generalizing w with
 | nil=>intro o;exact h
 | cons x r ih=>intro o;exact ih (ownsRow_setCell_other h hne x) (o + 1)
theorem Jeu (b:Nat):∀ (vs:List Value) (o:Nat) (w:World),(w.setCells b o vs).heap.size = w.heap.size
 | [],_,_=>rfl
 | v :: r,o,w=>by rw [World.setCells,Jeu b r];simp [World.setCell]
theorem Jbl {B g:Nat} (hg:B <= g):∀ (vs:List Value) (o:Nat) (w:World),Below B w (w.setCells g o vs)
 | [],_,w=>Below.refl _ w
 | v :: r,o,w=>((Below.refl B w).setCell (p:=⟨g,o,none⟩) hg v).trans (Jbl hg r (o + 1) _)
theorem Leaves.sets {p:Addr} {W w:World} (h:Leaves p W w) {k:Nat} (hk:W.heap.size <= k) (vs:List Value):Leaves p W (w.setCells k 0 vs):=h.step (Jbl hk vs 0 w)
structure RestP (R:List Value) (pv:Value):Prop where
 rest:Rest R
 pts:R[5]? = some pv
theorem RestP.set {R:List Value} {pv u:Value} (h:RestP R pv) (hu:u.oneCell' = true):RestP (R.set 5 u) u:=by
 have hl:=h.rest.len
 refine ⟨⟨by simp [hl],fun v hv=>?_⟩,List.getElem?_set_self (by omega)⟩
 rcases List.mem_or_eq_of_mem_set hv with hv | rfl
 ·exact h.rest.one v hv
 ·exact hu
theorem Jtj (b:Bd) (R:List Value) (u:Value):(b.L R).set 23 u = b.L (R.set 5 u):=rfl
theorem Jdf {w:World} {base:Nat} {u:Value} {L:List Pt} (h:w.ownsRow base 23 3 u L.length (fl3 L)):u.oneCell' = true:=by
 obtain ⟨o,c,rfl,_⟩:=(Lies.of_row h).form
 rfl
theorem Jg3 (b:Bd) (R:List Value) (pv:Value) (Ls:List Pt) (hR:RestP R pv) (W:World) (hv:Lies W pv Ls) (hl:Ls.length <= 100000) :
  Calls Tryz.prog 49 #[.agg (b.L R).toArray] W fun e W'=>∃ u,e = .returned (.agg (b.L (R.set 5 u)).toArray)/\Hid (Row W W' u Ls):=by
 have hz:Hid _:=J2 hR.rest b
 obtain ⟨V,hV⟩:∃ V,V = ((W.alloc (.cells (b.L R).toArray 39)).alloc (.cells #[J Y 0,J Y 0,J Y 0,J Y 0,J Y 0,J Y 0,J Y 0,J Y 0,J Y 0,J Y 0,J Y 0,J Y 0,J Y 0,J Y 0,J Y 0,J Y 0,J Y 0,J Y 0,J Y 0,J Y 0,J Y 0,J Y 0,J Y 0,.slice none 0 0,J Y 0,J Y 0,J Y 0,.bool false,J Y 0,.bool false,.bool false] 39)):=⟨_,rfl⟩
 have hb0:=Jb W (.cells (b.L R).toArray 39)
 have hb1:=Jb (W.alloc (.cells (b.L R).toArray 39)) (.cells #[J Y 0,J Y 0,J Y 0,J Y 0,J Y 0,J Y 0,J Y 0,J Y 0,J Y 0,J Y 0,J Y 0,J Y 0,J Y 0,J Y 0,J Y 0,J Y 0,J Y 0,J Y 0,J Y 0,J Y 0,J Y 0,J Y 0,J Y 0,.slice none 0 0,J Y 0,J Y 0,J Y 0,.bool false,J Y 0,.bool false,.bool false] 39)
 have Cb:CW V (W.heap.size) (b.L R):=by
  have h9:=(CW.new W (b.L R) 39).step hb1
  rw [hV];exact h9
 have Cr:CW V (W.heap.size + 1) [J Y 0,J Y 0,J Y 0,J Y 0,J Y 0,J Y 0,J Y 0,J Y 0,J Y 0,J Y 0,J Y 0,J Y 0,J Y 0,J Y 0,J Y 0,J Y 0,J Y 0,J Y 0,J Y 0,J Y 0,J Y 0,J Y 0,J Y 0,.slice none 0 0,J Y 0,J Y 0,J Y 0,.bool false,J Y 0,.bool false,.bool false]:=by
  have h9:=CW.new (W.alloc (.cells (b.L R).toArray 39)) [J Y 0,J Y 0,J Y 0,J Y 0,J Y 0,J Y 0,J Y 0,J Y 0,J Y 0,J Y 0,J Y 0,J Y 0,J Y 0,J Y 0,J Y 0,J Y 0,J Y 0,J Y 0,J Y 0,J Y 0,J Y 0,J Y 0,J Y 0,.slice none 0 0,J Y 0,J Y 0,J Y 0,.bool false,J Y 0,.bool false,.bool false] 39
  simp only [JE] at h9
  rw [hV];exact h9
 have hB:Below W.heap.size W V:=by rw [hV];exact (Jf hb0 hb1)
 clear hb0 hb1
 have HB:Hid _:=hB
 have HC:Hid _:=Jmp pv Ls V (hv.below hB) hl
 clear hv hB
 go_enter func49,ntmps49
 go_upto_region 1 with fail
 rw [<- hV]
 clear hV
 obtain ⟨pr,hpr⟩:∃ p,p = W.heap.size + 1:=⟨_,rfl⟩
 obtain ⟨pb,hpb⟩:∃ p,p = W.heap.size:=⟨_,rfl⟩
 rw [<- hpr] at Cr
 rw [<- hpb] at Cb
 rw [<- hpr,<- hpb]
 have kp:V.cell? ⟨pb,23,none⟩ = some pv:=(Cb 23 _ hR.pts).1
 have HF:Hid (V.frozen? ⟨pb,23,none⟩ = false):=(Cb 23 _ hR.pts).2
 have hZl:([J Y 0,J Y 0,J Y 0,J Y 0,J Y 0,J Y 0,J Y 0,J Y 0,J Y 0,J Y 0,J Y 0,J Y 0,J Y 0,J Y 0,J Y 0,J Y 0,J Y 0,J Y 0,J Y 0,J Y 0,J Y 0,J Y 0,J Y 0,.slice none 0 0,J Y 0,J Y 0,J Y 0,.bool false,J Y 0,.bool false,.bool false]:List Value).length = 31:=rfl
 have hWb:W.heap.size <= pb:=by omega
 have hWr:W.heap.size <= pr:=by omega
 have nbr:pb ≠ pr:=by omega
 have hbV:pb < V.heap.size:=Cb.lt
 have hrV:pr < V.heap.size:=Cr.lt
 generalize ([J Y 0,J Y 0,J Y 0,J Y 0,J Y 0,J Y 0,J Y 0,J Y 0,J Y 0,J Y 0,J Y 0,J Y 0,J Y 0,J Y 0,J Y 0,J Y 0,J Y 0,J Y 0,J Y 0,J Y 0,J Y 0,J Y 0,J Y 0,.slice none 0 0,J Y 0,J Y 0,J Y 0,.bool false,J Y 0,.bool false,.bool false]:List Value) = zl at *
 clear hpb hpr
 go_wp2_with (fail)
 refine JA HC.out ?_
 rintro e W1 ⟨u,rfl,hrow⟩
 obtain ⟨uo,uc,hue,_⟩:=(Lies.of_row hrow.row).form
 have hu:=Jdf hrow.row
 have Cb:=(Cb.step hrow.below).set 23 u (by rw [hR.rest.all];decide)
 have Cr:=(Cr.step hrow.below).other (a:=⟨pb,23,none⟩) nbr u
 rw [Jtj] at Cb
 have nub:u.ownBlock ≠ some pb:=fun e=>by have:=(hrow.row.lt _ e).1;omega
 have nur:u.ownBlock ≠ some pr:=fun e=>by have:=(hrow.row.lt _ e).1;omega
 have HW:Hid (Row W (W1.setCell ⟨pb,23,none⟩ u) u Ls):=⟨ownsRow_setCell_other (Go.Joins.ownsRow_le hrow.row HB.out.size) nub u,(Jf HB.out hrow.below).setCell hWb u⟩
 have k23:W1.cell? ⟨pb,23,none⟩ = some pv:=Ja hrow.below kp
 have f23:W1.frozen? ⟨pb,23,none⟩ = false:=Jt hrow.below kp HF.out
 have hR2:RestP (R.set 5 u) u:=hR.set hu
 have hz2:Hid _:=J2 hR2.rest b
 have h1:Hid _:=hR2.rest.each b
 have hz3:Hid ((Tryz.prog.info? 39).map (·.size) = some (b.L (R.set 5 u)).toArray.size):=by show _ = _;rw [hz2.out];simp
 have hrl:(b.L (R.set 5 u)).length = 31:=hR2.rest.all b
 have HRG:Hid (World.rangeAt (W1.setCell ⟨pb,23,none⟩ u) pb 0 (b.L (R.set 5 u))):=Cb.range
 have HTH:Hid (World.there (W1.setCell ⟨pb,23,none⟩ u) pr 0 (b.L (R.set 5 u)).toArray.size):=by
  have:=Cr.there
  rw [hZl] at this
  show World.there _ _ _ _
  rw [List.size_toArray,hrl]
  exact this
 have Cr2:=Cr.sets (us:=b.L (R.set 5 u)) (by rw [hrl,hZl])
 have HW2:Hid (Row W ((W1.setCell ⟨pb,23,none⟩ u).setCells pr 0 (b.L (R.set 5 u))) u Ls):=⟨Jbu HW.out.row nur _ _,(HW.out.below).trans (Jbl hWr _ _ _)⟩
 have HX:Hid _:=Cr2.range
 generalize hcs:b.L (R.set 5 u) = cs at *
 have HCS:Hid _:=hcs
 clear hcs
 clear hrow Cb Cr Cr2 HC HW kp hu HF
 subst hue
 go_wp2_with (first | refine wpList_load_mid rfl 39 _ rfl pb 0 rfl _ _ HRG.out underlying39 rfl hz2.out ?_ | refine wpList_store_mid rfl 39 _ _ rfl pr 0 _ rfl rfl HTH.out hz3.out h1.out ?_)
 refine bodyPost_ret (Jbm 2 39 results49 ⟨pr,0,none⟩ rfl (run_loadVar_mid _ pr 0 39 cs _ HX.out underlying39 rfl hz2.out)) rfl ?_
 exact ⟨_,by rw [HCS.out],HW2⟩
def Bd.wp (b:Bd) (p:V3):Bd:=⟨b.k,b.s,b.q,p,b.l,b.m,b.i⟩
def Bd.wl (b:Bd) (l:V3):Bd:=⟨b.k,b.s,b.q,b.p,l,b.m,b.i⟩
def Bd.ws (b:Bd) (s:V3) (q:V4):Bd:=⟨b.k,s,q,b.p,b.l,b.m,b.i⟩
def ifB (b b':Bd):Bd:=if b.k = 2 then b' else b
def Jem (b:Bd) (a j:V3):Bd:=(b.wp (Jap b.p j)).wl (Jap b.l (Jbv a j))
def Jpi (b:Bd) (a j:V3):Bool:=Jef b.p j || (Jl2 a j || Jef b.l (Jbv a j))
theorem Clo.set3 {p:Addr} {g:Bool} {k:Nat} {vs:List Value} {U V:World} (h:Clo p g k vs U V) (hk:k ≠ p.block) (o:Nat) (x y z:Value) (ho:o + 2 < vs.length):Clo p g k (((vs.set o x).set (o + 1) y).set (o + 2) z) U (((V.setCell ⟨k,o,none⟩ x).setCell ⟨k,o + 1,none⟩ y).setCell ⟨k,o + 2,none⟩ z):=
 ((h.set hk o x (by omega)).set hk (o + 1) y (by simp;omega)).set hk (o + 2) z (by simp;omega)
theorem Jhm {b:Bd} {R:List Value} (h:Rest R) {o:Nat} (ho:o < 31):o < (b.L R).length:=by rw [h.all];exact ho
theorem Jps (fb fo pw pb pj pa:Nat) (f:Bool) (b:Bd) (R:List Value) (am jm:V3) (hR:Rest R) (V:World) (hc:V.cell? ⟨fb,fo,none⟩ = some (.bool f)) (hf:V.frozen? ⟨fb,fo,none⟩ = false)
  (Cw:CW V pw [.pointer (some ⟨fb,fo,none⟩)]) (Cb:CW V pb (b.L R)) (Cj:CW V pj [J Y jm.x,J Y jm.y,J Y jm.z]) (Ca:CW V pa [J Y am.x,J Y am.y,J Y am.z]) (nw:pw ≠ fb) (nb:pb ≠ fb) (nj:pj ≠ fb) (na:pa ≠ fb) (wb:pw ≠ pb) (jb:pj ≠ pb) (ab:pa ≠ pb) :
  Calls Tryz.prog 59 #[.pointer (some ⟨pw,0,none⟩),.pointer (some ⟨pb,0,none⟩),.pointer (some ⟨pj,0,none⟩),.pointer (some ⟨pa,0,none⟩)] V fun e W'=>e = .returned (.tuple #[])/\Hid (Clo ⟨fb,fo,none⟩ (f || Jpi b am jm) pb ((Jem b am jm).L R) V W'):=by
 have k8:=(Cb 8 _ rfl).1
 have k9:=(Cb 9 _ rfl).1
 have ka:=(Cb 10 _ rfl).1
 have j0:=(Cj 0 _ rfl).1
 have j1:=(Cj 1 _ rfl).1
 have j2:=(Cj 2 _ rfl).1
 have kw:=(Cw 0 _ rfl).1
 have HC:Hid _:=Jnc fb fo f b.p jm V hc hf
 have HS:Hid _:=Clo.start hc hf Cb
 clear hc hf
 go_enter func59,ntmps59
 go_wp2_with (fail)
 refine JA HC.out ?_
 rintro e W1 ⟨rfl,A⟩
 have HS:Hid (Clo _ _ _ _ _ _):=HS.out.same A.out nb
 have Cw:=Cw.after A.out nw
 have Cj:=Cj.after A.out nj
 have Ca:=Ca.after A.out na
 obtain ⟨r0,q0⟩:=HS.out.cw 8 _ rfl
 obtain ⟨r1,q1⟩:=HS.out.cw 9 _ rfl
 obtain ⟨r2,q2⟩:=HS.out.cw 10 _ rfl
 have HS:Hid (Clo _ _ _ _ _ _):=HS.out.set3 nb 8 (J Y (Jap b.p jm).x) (J Y (Jap b.p jm).y) (J Y (Jap b.p jm).z) (Jhm hR (by decide))
 clear HC A k8 k9 ka j0 j1 j2 kw Cb
 go_upto_region 1 with fail
 obtain ⟨V1,hV1⟩:∃ X,X = ((W1.setCell ⟨pb,8,none⟩ (J Y (Jap b.p jm).x)).setCell ⟨pb,8 + 1,none⟩ (J Y (Jap b.p jm).y)).setCell ⟨pb,8 + 2,none⟩ (J Y (Jap b.p jm).z):=⟨_,rfl⟩
 have Cw:=((Cw.other (a:=⟨pb,8,none⟩) wb.symm (J Y (Jap b.p jm).x)).other (a:=⟨pb,8 + 1,none⟩) wb.symm (J Y (Jap b.p jm).y)).other (a:=⟨pb,8 + 2,none⟩) wb.symm (J Y (Jap b.p jm).z)
 have Cj:=((Cj.other (a:=⟨pb,8,none⟩) jb.symm (J Y (Jap b.p jm).x)).other (a:=⟨pb,8 + 1,none⟩) jb.symm (J Y (Jap b.p jm).y)).other (a:=⟨pb,8 + 2,none⟩) jb.symm (J Y (Jap b.p jm).z)
 have Ca:=((Ca.other (a:=⟨pb,8,none⟩) ab.symm (J Y (Jap b.p jm).x)).other (a:=⟨pb,8 + 1,none⟩) ab.symm (J Y (Jap b.p jm).y)).other (a:=⟨pb,8 + 2,none⟩) ab.symm (J Y (Jap b.p jm).z)
 obtain ⟨b1,hb1⟩:∃ x,x = b.wp (Jap b.p jm):=⟨_,rfl⟩
 rw [<- hV1] at HS Cw Cj Ca
 have HS:Hid (Clo ⟨fb,fo,none⟩ (f || Jef b.p jm) pb (b1.L R) V V1):=by rw [hb1];exact HS.out
 try simp only [Nat.reduceAdd] at hV1
 rw [<- hV1]
 have Cb:=HS.out.cw
 have hcV:=HS.out.cell
 have hfV:=HS.out.frozen
 clear hV1 r0 r1 r2 q0 q1 q2
 refine RV.rs [.some (.pointer (some ⟨fb,fo,none⟩)),.some (.pointer (some ⟨pb,11,none⟩)),.some (.agg #[J Y b1.l.x,J Y b1.l.y,J Y b1.l.z]),.some (.pointer (some ⟨fb,fo,none⟩)),.some (.agg #[J Y am.x,J Y am.y,J Y am.z]),.some (.agg #[J Y jm.x,J Y jm.y,J Y jm.z]),.some (.agg #[J Y ((Jbv am jm).x),J Y ((Jbv am jm).y),J Y ((Jbv am jm).z)]),.some (.agg #[J Y ((Jap b1.l (Jbv am jm)).x),J Y ((Jap b1.l (Jbv am jm)).y),J Y ((Jap b1.l (Jbv am jm)).z)]),.some (.pointer (some ⟨pb,11,none⟩)),none] [11,12,13,14,15,16,17,18,19,0] [(0,.pointer (some ⟨pw,0,none⟩)),(1,.pointer (some ⟨pb,0,none⟩)),(2,.pointer (some ⟨pj,0,none⟩)),(3,.pointer (some ⟨pa,0,none⟩))] (fun γ L w9=>FGS V1 ⟨fb,fo,none⟩ (f || Jef b.p jm) [(6,Jl2 am jm),(7,Jef b1.l (Jbv am jm))] 9 (fun w=>(((w.setCell ⟨pb,11,none⟩ (J Y ((Jap b1.l (Jbv am jm)).x))).setCell ⟨pb,12,none⟩ (J Y ((Jap b1.l (Jbv am jm)).y))).setCell ⟨pb,13,none⟩ (J Y ((Jap b1.l (Jbv am jm)).z)))) L w9) ⟨rfl,rfl,rfl,rfl,trivial⟩ ?_ ?_ ?_
 ·exact FGS.start hcV hfV
 ·intro D WA Z hD hWA hZ T
  simp only [RV.Outs,RV.Slots,Nat.reduceAdd] at T
  iterate 6 first
   | (refine RV.cc _ (RV.pu T (fun γ v L w hl h=>h.stay (by decide) rfl) (fun γ L a w hH hl h9 k9=>⟨_,?_,rfl⟩)) ?_;· simp [JD,go_sem,h9])
   | (refine RV.cc _ (RV.pu T (fun γ v L w hl h=>h.stay (by decide) rfl) (fun γ L a w hH hl h9 k9=>⟨_,?_,rfl⟩)) ?_;· have hG:=hH.glob.early (RV.ny hH (RV.wt (j:=9) hWA (by kernel_rfl)) hl);have q0:=hG.at (Cb 11 _ rfl).1 nb;have q1:=hG.at (Cb 12 _ rfl).1 nb;have q2:=hG.at (Cb 13 _ rfl).1 nb;simp [JC] at k9;simp [JD,go_sem,h9,k9,q0,q1,q2])
   | (refine RV.cc _ (RV.pu T (fun γ v L w hl h=>h.stay (by decide) rfl) (fun γ L a w hH hl h9 k9=>⟨_,?_,rfl⟩)) ?_;· have hG:=hH.glob.early (RV.ny hH (RV.wt (j:=9) hWA (by kernel_rfl)) hl);have q0:=hG.at (Cw 0 _ rfl).1 nw;have q1:=hG.at (Ca 0 _ rfl).1 na;have q2:=hG.at (Ca 1 _ rfl).1 na;have q3:=hG.at (Ca 2 _ rfl).1 na;have q4:=hG.at (Cj 0 _ rfl).1 nj;have q5:=hG.at (Cj 1 _ rfl).1 nj;have q6:=hG.at (Cj 2 _ rfl).1 nj;simp [JD,go_sem,h9,q0,q1,q2,q3,q4,q5,q6])
  refine RV.cc _ (RV.dc (fun γ L a w hH hl hA=>by have h9:=T γ L a w hH;have k9:=hA;simp [JC] at k9;have hG:=hH.glob.early (RV.ny hH (RV.wt (j:=9) (i:=6) hWA (by kernel_rfl)) hl);exact ⟨60,#[.pointer (some ⟨fb,fo,none⟩),.agg #[J Y am.x,J Y am.y,J Y am.z],.agg #[J Y jm.x,J Y jm.y,J Y jm.z]],by simp [go_sem,h9,k9],JA (Jtv fb fo _ am jm w hG.cell hG.frozen) (by rintro e w2 ⟨rfl,ha⟩;exact ⟨_,rfl,rfl,fun j v _ h=>h.keep _,FGS.come hG (by decide) (RV.ny hH (RV.wt (j:=9) (i:=6) hWA (by kernel_rfl)) hl) hl rfl ha.out⟩)⟩)) ?_
  refine RV.cc _ (RV.dc (fun γ L a w hH hl hA=>by have h9:=T γ L a w hH;have k9:=hA;simp [JC] at k9;have hG:=hH.glob.early (RV.ny hH (RV.wt (j:=9) (i:=7) hWA (by kernel_rfl)) hl);exact ⟨53,#[.pointer (some ⟨fb,fo,none⟩),.agg #[J Y b1.l.x,J Y b1.l.y,J Y b1.l.z],.agg #[J Y ((Jbv am jm).x),J Y ((Jbv am jm).y),J Y ((Jbv am jm).z)]],by simp [go_sem,h9,k9],JA (Jnc fb fo _ b1.l (Jbv am jm) w hG.cell hG.frozen) (by rintro e w2 ⟨rfl,ha⟩;exact ⟨_,rfl,rfl,fun j v _ h=>h.keep _,FGS.come hG (by decide) (RV.ny hH (RV.wt (j:=9) (i:=7) hWA (by kernel_rfl)) hl) hl rfl ha.out⟩)⟩)) ?_
  (refine RV.cc _ (RV.pu T (fun γ v L w hl h=>h.stay (by decide) rfl) (fun γ L a w hH hl h9 k9=>⟨_,?_,rfl⟩)) ?_;· simp [JD,go_sem,h9])
  refine RV.cc _ (RV.does_store (fun γ L a w hH hl hA=>by have h9:=T γ L a w hH;have k9:=hA;simp [JC] at k9;have hG:=hH.glob.early hl;have z0:=hG.at (Cb 11 _ rfl).1 nb;have zf0:=hG.open (Cb 11 _ rfl).1 (Cb 11 _ rfl).2 nb;have z1:=hG.at (Cb 12 _ rfl).1 nb;have zf1:=hG.open (Cb 12 _ rfl).1 (Cb 12 _ rfl).2 nb;have z2:=hG.at (Cb 13 _ rfl).1 nb;have zf2:=hG.open (Cb 13 _ rfl).1 (Cb 13 _ rfl).2 nb;exact ⟨(((w.setCell ⟨pb,11,none⟩ (J Y ((Jap b1.l (Jbv am jm)).x))).setCell ⟨pb,12,none⟩ (J Y ((Jap b1.l (Jbv am jm)).y))).setCell ⟨pb,13,none⟩ (J Y ((Jap b1.l (Jbv am jm)).z))),by simp [JD,go_sem,z0,zf0,z1,zf1,z2,zf2,h9,k9],trivial,fun j v _ h=>h.keep _,FGS.store (S:=fun w=>(((w.setCell ⟨pb,11,none⟩ (J Y ((Jap b1.l (Jbv am jm)).x))).setCell ⟨pb,12,none⟩ (J Y ((Jap b1.l (Jbv am jm)).y))).setCell ⟨pb,13,none⟩ (J Y ((Jap b1.l (Jbv am jm)).z)))) hG rfl⟩)) ?_
  exact RV.AllDo.nil
 ·intro γ w5 L9 hL hI9 hG9
  obtain ⟨w8,hF8,rfl⟩:=hG9.late (hL 9 (by decide))
  have hFL:orL (f || Jef b.p jm) [(6,Jl2 am jm),(7,Jef b1.l (Jbv am jm))] L9 = ((f || Jef b.p jm) || (Jl2 am jm || Jef b1.l (Jbv am jm))):=by unfold orL;simp only [List.any_cons,List.any_nil,hL 6 (by decide),hL 7 (by decide),Bool.true_and,Bool.or_false,Bool.or_assoc]
  have HA8:Hid (After _ _ _ _):=hF8.leaves.done hF8.cell hF8.frozen
  rw [hFL] at HA8
  clear hF8 hFL
  clear hL hI9 hG9
  simp only [RV.putL,Act.put,List.setIfInBounds_toArray,List.set_cons_zero,List.set_cons_succ]
  have HS:Hid (Clo _ _ _ _ _ _):=HS.out.same HA8.out nb
  clear HA8
  go_wp2_with (fail)
  go_end0
  refine ⟨rfl,?_⟩
  have h9:=HS.out.set3 nb 11 (J Y (Jap b1.l (Jbv am jm)).x) (J Y (Jap b1.l (Jbv am jm)).y) (J Y (Jap b1.l (Jbv am jm)).z) (Jhm hR (by decide))
  rw [Bool.or_assoc] at h9
  subst hb1
  exact h9
end
section
open Go.RowKit Go.Shelf Fx
theorem Jc2 {w w':World} {base:Nat} {e:TypeId} {sz m:Nat} {v:Value} {xs:List Value} (h:w.ownsRow base e sz v m xs) (hk:∀ g,v.ownBlock = some g->w'.heap[g]? = w.heap[g]?):w'.ownsRow base e sz v m xs:=by
 obtain ⟨h1,h2⟩:=h
 refine ⟨h1,?_⟩
 rcases h2 with h2 | ⟨g,cap,cur,rfl,hg,hh,r⟩
 ·exact Or.inl h2
 ·exact Or.inr ⟨g,cap,cur,rfl,hg,(hk g rfl).trans hh,r⟩
theorem Jle {p:Addr} {k:Nat} {w w':World} {base:Nat} {e:TypeId} {sz m:Nat} {v:Value} {xs:List Value} (h:w.ownsRow base e sz v m xs) (t:Two2 p k w w') (h1:v.ownBlock ≠ some p.block) (h2:v.ownBlock ≠ some k):w'.ownsRow base e sz v m xs:=
 Jc2 h fun g hg=>t.kept.2.2.2 g (h.lt g hg).2 (fun e=>h1 (by rw [hg,e])) (fun e=>h2 (by rw [hg,e]))
theorem Jcc {w:World} {k:Nat} {vs:List Value} {b o:Nat} (hne:b ≠ k):(w.setCells k 0 vs).cell? ⟨b,o,none⟩ = w.cell? ⟨b,o,none⟩:=World.cell?_setCells_out _ _ _ _ _ (fun e=>absurd e hne)
theorem CW.thereB {W:World} {k:Nat} {b b':Bd} {R R':List Value} (h:CW W k (b.L R)) (hR:Rest R) (hR':Rest R'):World.there W k 0 (b'.L R').toArray.size:=by
 have:=h.there
 rw [hR.all] at this
 rw [List.size_toArray,hR'.all]
 exact this
theorem CW.there31 {W:World} {k:Nat} {zl:List Value} {b':Bd} {R':List Value} (h:CW W k zl) (hz:zl.length = 31) (hR':Rest R'):World.there W k 0 (b'.L R').toArray.size:=by
 have:=h.there
 rw [hz] at this
 rw [List.size_toArray,hR'.all]
 exact this
theorem Jaa {R:List Value} (hR:Rest R) (b:Bd):(Tryz.prog.info? 39).map (·.size) = some (b.L R).toArray.size:=by rw [List.size_toArray];exact J2 hR b
theorem Jha (fb fo:Nat) (f:Bool) (b:Bd) (R:List Value) (pv:Value) (Ls:List Pt) (am jm:V3) (hR:RestP R pv) (W:World) (hc:W.cell? ⟨fb,fo,none⟩ = some (.bool f)) (hf:W.frozen? ⟨fb,fo,none⟩ = false) (hv:Lies W pv Ls) (hl:Ls.length <= 100000) :
  Calls Tryz.prog 16 #[.pointer (some ⟨fb,fo,none⟩),.agg (b.L R).toArray,am.val,jm.val] W fun e W'=>∃ u,e = .returned (.agg ((ifB b (Jem b am jm)).L (R.set 5 u)).toArray)/\Hid (After ⟨fb,fo,none⟩ (f || Jbq b.k (Jpi b am jm)) W W')/\Hid (W'.ownsRow W.heap.size 23 3 u Ls.length (fl3 Ls)):=by
 have hbW:fb < W.heap.size:=JB _ _ hc
 have hz:Hid _:=J2 hR.rest b
 obtain ⟨V,hV⟩:∃ V,V = (((((W.alloc (.cells #[.pointer (some ⟨fb,fo,none⟩)] 45)).alloc (.cells (b.L R).toArray 39)).alloc (.cells #[J Y am.x,J Y am.y,J Y am.z] 27)).alloc (.cells #[J Y jm.x,J Y jm.y,J Y jm.z] 27)).alloc (.cells #[J Y 0,J Y 0,J Y 0,J Y 0,J Y 0,J Y 0,J Y 0,J Y 0,J Y 0,J Y 0,J Y 0,J Y 0,J Y 0,J Y 0,J Y 0,J Y 0,J Y 0,J Y 0,J Y 0,J Y 0,J Y 0,J Y 0,J Y 0,.slice none 0 0,J Y 0,J Y 0,J Y 0,.bool false,J Y 0,.bool false,.bool false] 39)):=⟨_,rfl⟩
 have hb0:=Jb W (.cells #[.pointer (some ⟨fb,fo,none⟩)] 45)
 have hb1:=Jb (W.alloc (.cells #[.pointer (some ⟨fb,fo,none⟩)] 45)) (.cells (b.L R).toArray 39)
 have hb2:=Jb ((W.alloc (.cells #[.pointer (some ⟨fb,fo,none⟩)] 45)).alloc (.cells (b.L R).toArray 39)) (.cells #[J Y am.x,J Y am.y,J Y am.z] 27)
 have hb3:=Jb (((W.alloc (.cells #[.pointer (some ⟨fb,fo,none⟩)] 45)).alloc (.cells (b.L R).toArray 39)).alloc (.cells #[J Y am.x,J Y am.y,J Y am.z] 27)) (.cells #[J Y jm.x,J Y jm.y,J Y jm.z] 27)
 have hb4:=Jb ((((W.alloc (.cells #[.pointer (some ⟨fb,fo,none⟩)] 45)).alloc (.cells (b.L R).toArray 39)).alloc (.cells #[J Y am.x,J Y am.y,J Y am.z] 27)).alloc (.cells #[J Y jm.x,J Y jm.y,J Y jm.z] 27)) (.cells #[J Y 0,J Y 0,J Y 0,J Y 0,J Y 0,J Y 0,J Y 0,J Y 0,J Y 0,J Y 0,J Y 0,J Y 0,J Y 0,J Y 0,J Y 0,J Y 0,J Y 0,J Y 0,J Y 0,J Y 0,J Y 0,J Y 0,J Y 0,.slice none 0 0,J Y 0,J Y 0,J Y 0,.bool false,J Y 0,.bool false,.bool false] 39)
 have Cw:CW V (W.heap.size) [.pointer (some ⟨fb,fo,none⟩)]:=by
  have h9:=((((CW.new W [.pointer (some ⟨fb,fo,none⟩)] 45).step hb1).step hb2).step hb3).step hb4
  rw [hV];exact h9
 have Cb:CW V (W.heap.size + 1) (b.L R):=by
  have h9:=(((CW.new (W.alloc (.cells #[.pointer (some ⟨fb,fo,none⟩)] 45)) (b.L R) 39).step hb2).step hb3).step hb4
  simp only [JE] at h9
  rw [hV];exact h9
 have Ca:CW V (W.heap.size + 1 + 1) [J Y am.x,J Y am.y,J Y am.z]:=by
  have h9:=((CW.new ((W.alloc (.cells #[.pointer (some ⟨fb,fo,none⟩)] 45)).alloc (.cells (b.L R).toArray 39)) [J Y am.x,J Y am.y,J Y am.z] 27).step hb3).step hb4
  simp only [JE] at h9
  rw [hV];exact h9
 have Cj:CW V (W.heap.size + 1 + 1 + 1) [J Y jm.x,J Y jm.y,J Y jm.z]:=by
  have h9:=(CW.new (((W.alloc (.cells #[.pointer (some ⟨fb,fo,none⟩)] 45)).alloc (.cells (b.L R).toArray 39)).alloc (.cells #[J Y am.x,J Y am.y,J Y am.z] 27)) [J Y jm.x,J Y jm.y,J Y jm.z] 27).step hb4
  simp only [JE] at h9
  rw [hV];exact h9
 have Cr:CW V (W.heap.size + 1 + 1 + 1 + 1) [J Y 0,J Y 0,J Y 0,J Y 0,J Y 0,J Y 0,J Y 0,J Y 0,J Y 0,J Y 0,J Y 0,J Y 0,J Y 0,J Y 0,J Y 0,J Y 0,J Y 0,J Y 0,J Y 0,J Y 0,J Y 0,J Y 0,J Y 0,.slice none 0 0,J Y 0,J Y 0,J Y 0,.bool false,J Y 0,.bool false,.bool false]:=by
  have h9:=CW.new ((((W.alloc (.cells #[.pointer (some ⟨fb,fo,none⟩)] 45)).alloc (.cells (b.L R).toArray 39)).alloc (.cells #[J Y am.x,J Y am.y,J Y am.z] 27)).alloc (.cells #[J Y jm.x,J Y jm.y,J Y jm.z] 27)) [J Y 0,J Y 0,J Y 0,J Y 0,J Y 0,J Y 0,J Y 0,J Y 0,J Y 0,J Y 0,J Y 0,J Y 0,J Y 0,J Y 0,J Y 0,J Y 0,J Y 0,J Y 0,J Y 0,J Y 0,J Y 0,J Y 0,J Y 0,.slice none 0 0,J Y 0,J Y 0,J Y 0,.bool false,J Y 0,.bool false,.bool false] 39
  simp only [JE] at h9
  rw [hV];exact h9
 have hB:Below W.heap.size W V:=by rw [hV];exact (Jf (Jf (Jf (Jf hb0 hb1) hb2) hb3) hb4)
 have hcV:=Ja hB hc
 have hfV:=Jt hB hc hf
 have HLV:Hid (Leaves ⟨fb,fo,none⟩ W V):=(Leaves.refl _ _).step hB
 clear hb0 hb1 hb2 hb3 hb4
 have hWV:W.heap.size <= V.heap.size:=hB.size
 have HCP:Hid _:=Jg3 b R pv Ls hR V (hv.below hB) hl
 clear hc hf hv hB
 go_enter func16,ntmps16
 go_upto_region 1 with fail
 rw [<- hV]
 clear hV
 obtain ⟨pr,hpr⟩:∃ p,p = W.heap.size + 1 + 1 + 1 + 1:=⟨_,rfl⟩
 obtain ⟨pj,hpj⟩:∃ p,p = W.heap.size + 1 + 1 + 1:=⟨_,rfl⟩
 obtain ⟨pa,hpa⟩:∃ p,p = W.heap.size + 1 + 1:=⟨_,rfl⟩
 obtain ⟨pb,hpb⟩:∃ p,p = W.heap.size + 1:=⟨_,rfl⟩
 obtain ⟨pw,hpw⟩:∃ p,p = W.heap.size:=⟨_,rfl⟩
 rw [<- hpr] at Cr
 rw [<- hpj] at Cj
 rw [<- hpa] at Ca
 rw [<- hpb] at Cb
 rw [<- hpw] at Cw
 rw [<- hpr,<- hpj,<- hpa,<- hpb,<- hpw]
 have nw:pw ≠ fb:=by omega
 have nb:pb ≠ fb:=by omega
 have na:pa ≠ fb:=by omega
 have nj:pj ≠ fb:=by omega
 have nr:pr ≠ fb:=by omega
 have bw:pw ≠ pb:=by omega
 have ba:pa ≠ pb:=by omega
 have bj:pj ≠ pb:=by omega
 have br:pr ≠ pb:=by omega
 have nr':fb ≠ pr:=by omega
 have nb':fb ≠ pb:=by omega
 have hWb:W.heap.size <= pb:=by omega
 have hWr:W.heap.size <= pr:=by omega
 have hbV:pb < V.heap.size:=Cb.lt
 have hrV:pr < V.heap.size:=Cr.lt
 have hZl:([J Y 0,J Y 0,J Y 0,J Y 0,J Y 0,J Y 0,J Y 0,J Y 0,J Y 0,J Y 0,J Y 0,J Y 0,J Y 0,J Y 0,J Y 0,J Y 0,J Y 0,J Y 0,J Y 0,J Y 0,J Y 0,J Y 0,J Y 0,.slice none 0 0,J Y 0,J Y 0,J Y 0,.bool false,J Y 0,.bool false,.bool false]:List Value).length = 31:=rfl
 generalize ([J Y 0,J Y 0,J Y 0,J Y 0,J Y 0,J Y 0,J Y 0,J Y 0,J Y 0,J Y 0,J Y 0,J Y 0,J Y 0,J Y 0,J Y 0,J Y 0,J Y 0,J Y 0,J Y 0,J Y 0,J Y 0,J Y 0,J Y 0,.slice none 0 0,J Y 0,J Y 0,J Y 0,.bool false,J Y 0,.bool false,.bool false]:List Value) = zl at *
 have HRG:Hid (World.rangeAt V pb 0 (b.L R)):=Cb.range
 clear hpw hpb hpa hpj hpr
 go_wp2_with (refine wpList_load_mid rfl 39 _ rfl pb 0 rfl _ _ HRG.out underlying39 rfl hz.out ?_)
 refine JA HCP.out ?_
 rintro e W1 ⟨u,rfl,HR⟩
 have hR2:=hR.set (Jdf HR.out.row)
 have hb1:=HR.out.below
 have Cw:=Cw.step hb1
 have Cb:=Cb.step hb1
 have Ca:=Ca.step hb1
 have Cj:=Cj.step hb1
 have Cr:=Cr.step hb1
 have HL1:=HLV.out.step (hb1.mono HLV.out.size)
 have hc1:=Ja hb1 hcV
 have hf1:=Jt hb1 hcV hfV
 have nub:u.ownBlock ≠ some pb:=fun e=>by have:=(HR.out.row.lt _ e).1;omega
 have nuf:u.ownBlock ≠ some fb:=fun e=>by have:=(HR.out.row.lt _ e).1;omega
 have nur:u.ownBlock ≠ some pr:=fun e=>by have:=(HR.out.row.lt _ e).1;omega
 have HO2:Hid _:=Jbu (Go.Joins.ownsRow_le HR.out.row hWV) nub (b.L (R.set 5 u)) 0
 have HTH:Hid (World.there W1 pb 0 (b.L (R.set 5 u)).toArray.size):=Cb.thereB hR.rest hR2.rest
 have hz2:Hid _:=J2 hR2.rest b
 have hy2:Hid _:=Jaa hR2.rest b
 have h12:Hid _:=hR2.rest.each b
 have Cb:=Cb.sets (us:=b.L (R.set 5 u)) (by rw [hR.rest.all,hR2.rest.all])
 have Cw:=Cw.apart (us:=b.L (R.set 5 u)) bw
 have Ca:=Ca.apart (us:=b.L (R.set 5 u)) ba
 have Cj:=Cj.apart (us:=b.L (R.set 5 u)) bj
 have Cr:=Cr.apart (us:=b.L (R.set 5 u)) br
 have HL2:Hid (Leaves ⟨fb,fo,none⟩ W (W1.setCells pb 0 (b.L (R.set 5 u)))):=HL1.sets hWb _
 have hc2:=(Jcc (w:=W1) (vs:=b.L (R.set 5 u)) nb').trans hc1
 have hf2:=(World.frozen?_setCells pb (b.L (R.set 5 u)) 0 W1 ⟨fb,fo,none⟩).trans hf1
 have HRG2:Hid (World.rangeAt (W1.setCells pb 0 (b.L (R.set 5 u))) pb 0 (b.L (R.set 5 u))):=Cb.range
 clear HCP HRG hcV hfV HLV HL1 hc1 hf1 hb1 HR
 by_cases hk:b.k = 2
 ·have HC:Hid _:=Jgx b (R.set 5 u) hk 59 #[.pointer (some ⟨pw,0,none⟩),.pointer (some ⟨pb,0,none⟩),.pointer (some ⟨pj,0,none⟩),.pointer (some ⟨pa,0,none⟩)] (enters_of func59 (by kernel_rfl) rfl) (fun X=>Hid (Clo ⟨fb,fo,none⟩ (f || Jpi b am jm) pb ((Jem b am jm).L (R.set 5 u)) ((W1.setCells pb 0 (b.L (R.set 5 u))).alloc (.cells (b.L (R.set 5 u)).toArray 39)) X)) (W1.setCells pb 0 (b.L (R.set 5 u)))
   (Jps fb fo pw pb pj pa f b (R.set 5 u) am jm hR2.rest ((W1.setCells pb 0 (b.L (R.set 5 u))).alloc (.cells (b.L (R.set 5 u)).toArray 39)) (Ja (Jb _ _) hc2) (Jt (Jb _ _) hc2 hf2) (Cw.step (Jb _ _)) (Cb.step (Jb _ _)) (Cj.step (Jb _ _)) (Ca.step (Jb _ _)) nw nb nj na bw bj ba)
  have HRR:Hid (CW _ _ _):=Cr
  clear Cw Cb Ca Cj Cr
  go_wp2_with (first | refine wpList_store_mid rfl 39 _ _ rfl pb 0 _ rfl rfl HTH.out hy2.out h12.out ?_ | refine wpList_load_mid rfl 39 _ rfl pb 0 rfl _ _ HRG2.out underlying39 rfl hz2.out ?_)
  refine JA HC.out ?_
  rintro e W3 ⟨rfl,HK⟩
  have HL3:Hid (Leaves ⟨fb,fo,none⟩ W W3):=(HL2.out.step ((Jb (W1.setCells pb 0 (b.L (R.set 5 u))) _).mono HL2.out.size)).two HK.out.two hbW hWb
  have hc3:=HK.out.cell
  have hf3:=HK.out.frozen
  have Cb3:=HK.out.cw
  have Cr3:=(HRR.out.step (Jb _ _)).two HK.out.two nr br
  have HO3:Hid _:=Jle (Jq HO2.out (Jb _ _)) HK.out.two nuf nub
  clear HC HK HRG2 HTH hc2 hf2 HO2 HL2 HRR
  have hz3:Hid _:=J2 hR2.rest ((Jem b am jm))
  have hy3:Hid _:=Jaa hR2.rest ((Jem b am jm))
  have h13:Hid _:=hR2.rest.each ((Jem b am jm))
  have HRG3:Hid (World.rangeAt W3 pb 0 (((Jem b am jm)).L (R.set 5 u))):=Cb3.range
  have HTH3:Hid (World.there W3 pr 0 (((Jem b am jm)).L (R.set 5 u)).toArray.size):=Cr3.there31 hZl hR2.rest
  have HX3:Hid _:=(Cr3.sets (us:=((Jem b am jm)).L (R.set 5 u)) (by rw [hR2.rest.all,hZl])).range
  have HL4:Hid (Leaves ⟨fb,fo,none⟩ W (W3.setCells pr 0 (((Jem b am jm)).L (R.set 5 u)))):=HL3.out.sets hWr _
  have hc4:Hid _:=(Jcc (w:=W3) (vs:=((Jem b am jm)).L (R.set 5 u)) nr').trans hc3
  have hf4:Hid _:=(World.frozen?_setCells pr (((Jem b am jm)).L (R.set 5 u)) 0 W3 ⟨fb,fo,none⟩).trans hf3
  have HO4:Hid _:=Jbu HO3.out nur (((Jem b am jm)).L (R.set 5 u)) 0
  generalize hcs:((Jem b am jm)).L (R.set 5 u) = cs at *
  have HCS:Hid _:=hcs
  clear hcs Cb3 Cr3 HL3 HO3 hc3 hf3
  go_wp2_with (first | refine wpList_load_mid rfl 39 _ rfl pb 0 rfl _ _ HRG3.out underlying39 rfl hz3.out ?_ | refine wpList_store_mid rfl 39 _ _ rfl pr 0 _ rfl rfl HTH3.out hy3.out h13.out ?_)
  refine bodyPost_ret (Jbm 8 39 results16 ⟨pr,0,none⟩ rfl (run_loadVar_mid _ pr 0 39 cs _ HX3.out underlying39 rfl hz3.out)) rfl ?_
  refine ⟨u,by rw [<- HCS.out,ifB,if_pos hk],?_,HO4⟩
  rw [Jbq,if_pos hk]
  exact HL4.out.done hc4.out hf4.out
 ·have HC:Hid _:=Jjt b (R.set 5 u) (.func (.func 59) #[] #[.pointer (some ⟨pw,0,none⟩),.pointer (some ⟨pb,0,none⟩),.pointer (some ⟨pj,0,none⟩),.pointer (some ⟨pa,0,none⟩)]) hk (W1.setCells pb 0 (b.L (R.set 5 u)))
  have HRR:Hid (CW _ _ _):=Cr
  have HBB:Hid (CW _ _ _):=Cb
  clear Cw Cb Ca Cj Cr
  go_wp2_with (first | refine wpList_store_mid rfl 39 _ _ rfl pb 0 _ rfl rfl HTH.out hy2.out h12.out ?_ | refine wpList_load_mid rfl 39 _ rfl pb 0 rfl _ _ HRG2.out underlying39 rfl hz2.out ?_)
  refine JA HC.out ?_
  rintro e W3 ⟨rfl,HK⟩
  have HL3:Hid (Leaves ⟨fb,fo,none⟩ W W3):=HL2.out.step (HK.out.mono HL2.out.size)
  have hc3:=Ja HK.out hc2
  have hf3:=Jt HK.out hc2 hf2
  have Cb3:=HBB.out.step HK.out
  have Cr3:=HRR.out.step HK.out
  have HO3:Hid _:=Jq HO2.out HK.out
  clear HC HK HRG2 HTH hc2 hf2 HO2 HL2 HRR HBB
  have hz3:Hid _:=J2 hR2.rest (b)
  have hy3:Hid _:=Jaa hR2.rest (b)
  have h13:Hid _:=hR2.rest.each (b)
  have HRG3:Hid (World.rangeAt W3 pb 0 ((b).L (R.set 5 u))):=Cb3.range
  have HTH3:Hid (World.there W3 pr 0 ((b).L (R.set 5 u)).toArray.size):=Cr3.there31 hZl hR2.rest
  have HX3:Hid _:=(Cr3.sets (us:=(b).L (R.set 5 u)) (by rw [hR2.rest.all,hZl])).range
  have HL4:Hid (Leaves ⟨fb,fo,none⟩ W (W3.setCells pr 0 ((b).L (R.set 5 u)))):=HL3.out.sets hWr _
  have hc4:Hid _:=(Jcc (w:=W3) (vs:=(b).L (R.set 5 u)) nr').trans hc3
  have hf4:Hid _:=(World.frozen?_setCells pr ((b).L (R.set 5 u)) 0 W3 ⟨fb,fo,none⟩).trans hf3
  have HO4:Hid _:=Jbu HO3.out nur ((b).L (R.set 5 u)) 0
  generalize hcs:(b).L (R.set 5 u) = cs at *
  have HCS:Hid _:=hcs
  clear hcs Cb3 Cr3 HL3 HO3 hc3 hf3
  go_wp2_with (first | refine wpList_load_mid rfl 39 _ rfl pb 0 rfl _ _ HRG3.out underlying39 rfl hz3.out ?_ | refine wpList_store_mid rfl 39 _ _ rfl pr 0 _ rfl rfl HTH3.out hy3.out h13.out ?_)
  refine bodyPost_ret (Jbm 8 39 results16 ⟨pr,0,none⟩ rfl (run_loadVar_mid _ pr 0 39 cs _ HX3.out underlying39 rfl hz3.out)) rfl ?_
  refine ⟨u,by rw [<- HCS.out,ifB,if_neg hk],?_,HO4⟩
  rw [Jbq,if_neg hk,Bool.or_false]
  exact HL4.out.done hc4.out hf4.out
end
end Go.Proofs.YteebbpioffdncaaGreat
