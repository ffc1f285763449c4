/- Package vec's inner functions that do the same with each part, for any method value. -/
import Derived.Test.YteebbpioffdncaaGreatEBBack0
import Derived.Test.YteebbpioffdncaaGreatEBBack4
import Derived.Test.YteebbpioffdncaaGreatEBBack3
set_option maxHeartbeats 2000000
set_option maxRecDepth 100000
set_option linter.unusedVariables false
namespace Go.Proofs.YteebbpioffdncaaGreat
open Go.Calls renaming mono -> JA
open Go.World renaming block_lt_of_cell? -> JB
open Go.Region renaming binds -> JC
open Go renaming execOp -> JD
open Go.World renaming size_alloc -> JE
open Tryz
open Go.Value renaming int -> J
open Go.IntKind renaming i64 -> Y
section
open Go.RowKit Go.Shelf Fx
theorem Jh5 (gf:Nat) (fv:Int->Int->Option Int) (fb:Nat) (eg:∀ args w,(callFunc gf args).run Tryz.prog w = .ok (.enter gf args) w)
  (hcon:∀ (x y:Int) (g:Bool) (w:World),w.cell? ⟨fb,0,none⟩ = some (.bool g)->w.frozen? ⟨fb,0,none⟩ = false->Calls Tryz.prog gf #[.pointer (some ⟨fb,0,none⟩),J Y x,J Y y] w fun e w'=>e = .returned (J Y ((fv x y).getD 0))/\Hid (After ⟨fb,0,none⟩ (g || (fv x y).isNone) w w'))
  (f:Bool) (xa0 xa1 xa2 ya0 ya1 ya2:Int) (W:World) (hc:W.cell? ⟨fb,0,none⟩ = some (.bool f)) (hf:W.frozen? ⟨fb,0,none⟩ = false) :
  Calls Tryz.prog 106 #[.func (.func gf) #[.pointer (some ⟨fb,0,none⟩)] #[],.agg #[J Y xa0,J Y xa1,J Y xa2],.agg #[J Y ya0,J Y ya1,J Y ya2]] W fun e W'=>∃ g,e = .returned (.agg #[J Y ((fv xa0 ya0).getD 0),J Y ((fv xa1 ya1).getD 0),J Y ((fv xa2 ya2).getD 0)])/\Hid (g = (f || ((fv xa0 ya0).isNone || (fv xa1 ya1).isNone || (fv xa2 ya2).isNone)))/\Hid (After ⟨fb,0,none⟩ g W W'):=by
 have hbW:fb < W.heap.size:=JB _ _ hc
 obtain ⟨V,hV⟩:∃ V,V = (((W.alloc (.cells #[J Y xa0,J Y xa1,J Y xa2] 27)).alloc (.cells #[J Y ya0,J Y ya1,J Y ya2] 27)).alloc (.cells #[J Y 0,J Y 0,J Y 0] 27)):=⟨_,rfl⟩
 have hb0:=Jb W (.cells #[J Y xa0,J Y xa1,J Y xa2] 27)
 have hb1:=Jb (W.alloc (.cells #[J Y xa0,J Y xa1,J Y xa2] 27)) (.cells #[J Y ya0,J Y ya1,J Y ya2] 27)
 have hb2:=Jb ((W.alloc (.cells #[J Y xa0,J Y xa1,J Y xa2] 27)).alloc (.cells #[J Y ya0,J Y ya1,J Y ya2] 27)) (.cells #[J Y 0,J Y 0,J Y 0] 27)
 have CA:CW V (W.heap.size) [J Y xa0,J Y xa1,J Y xa2]:=by
  have h9:=((CW.new W [J Y xa0,J Y xa1,J Y xa2] 27).step hb1).step hb2
  rw [hV];exact h9
 have CB:CW V (W.heap.size + 1) [J Y ya0,J Y ya1,J Y ya2]:=by
  have h9:=(CW.new (W.alloc (.cells #[J Y xa0,J Y xa1,J Y xa2] 27)) [J Y ya0,J Y ya1,J Y ya2] 27).step hb2
  simp only [JE] at h9
  rw [hV];exact h9
 have CR:CW V (W.heap.size + 1 + 1) [J Y 0,J Y 0,J Y 0]:=by
  have h9:=CW.new ((W.alloc (.cells #[J Y xa0,J Y xa1,J Y xa2] 27)).alloc (.cells #[J Y ya0,J Y ya1,J Y ya2] 27)) [J Y 0,J Y 0,J Y 0] 27
  simp only [JE] at h9
  rw [hV];exact h9
 have hB:Below W.heap.size W V:=by rw [hV];exact (Jf (Jf hb0 hb1) hb2)
 have hcV:=Ja hB hc
 have hfV:=Jt hB hc hf
 have HLV:Hid (Leaves ⟨fb,0,none⟩ W V):=(Leaves.refl _ _).step hB
 clear hb0 hb1 hb2
 clear hc hf hB
 go_enter func106,ntmps106
 go_upto_region 1 with fail
 rw [<- hV]
 clear hV
 obtain ⟨pr,hpr⟩:∃ p,p = W.heap.size + 1 + 1:=⟨_,rfl⟩
 obtain ⟨pb,hpb⟩:∃ p,p = W.heap.size + 1:=⟨_,rfl⟩
 obtain ⟨pa,hpa⟩:∃ p,p = W.heap.size:=⟨_,rfl⟩
 rw [<- hpr] at CR
 rw [<- hpb] at CB
 rw [<- hpa] at CA
 rw [<- hpr,<- hpb,<- hpa]
 have na:pa ≠ fb:=by omega
 have nb:pb ≠ fb:=by omega
 have nr:pr ≠ fb:=by omega
 have nr':fb ≠ pr:=by omega
 have hpr9:W.heap.size <= pr:=by omega
 clear hpr hpa hpb hbW
 have hpr:=hpr9
 refine RV.rs [.some (.func (.func gf) #[.pointer (some ⟨fb,0,none⟩)] #[]),.some (.pointer (some ⟨pa,0,none⟩)),.some (J Y xa0),.some (.pointer (some ⟨pb,0,none⟩)),.some (J Y ya0),.some (J Y ((fv xa0 ya0).getD 0)),.some (.func (.func gf) #[.pointer (some ⟨fb,0,none⟩)] #[]),.some (.pointer (some ⟨pa,1,none⟩)),.some (J Y xa1),.some (.pointer (some ⟨pb,1,none⟩)),.some (J Y ya1),.some (J Y ((fv xa1 ya1).getD 0)),.some (.func (.func gf) #[.pointer (some ⟨fb,0,none⟩)] #[]),.some (.pointer (some ⟨pa,2,none⟩)),.some (J Y xa2),.some (.pointer (some ⟨pb,2,none⟩)),.some (J Y ya2),.some (J Y ((fv xa2 ya2).getD 0)),.some (.agg #[J Y ((fv xa0 ya0).getD 0),J Y ((fv xa1 ya1).getD 0),J Y ((fv xa2 ya2).getD 0)]),none] [8,9,10,11,12,13,14,15,16,17,18,19,20,21,22,23,24,25,26,0] [(0,.func (.func gf) #[.pointer (some ⟨fb,0,none⟩)] #[]),(4,.pointer (some ⟨pa,0,none⟩)),(5,.pointer (some ⟨pb,0,none⟩)),(6,.pointer (some ⟨pr,0,none⟩))] (fun γ L w9=>FGS V ⟨fb,0,none⟩ f [(5,(fv xa0 ya0).isNone),(11,(fv xa1 ya1).isNone),(17,(fv xa2 ya2).isNone)] 19 (fun w=>(((w.setCell ⟨pr,0,none⟩ (J Y ((fv xa0 ya0).getD 0))).setCell ⟨pr,1,none⟩ (J Y ((fv xa1 ya1).getD 0))).setCell ⟨pr,2,none⟩ (J Y ((fv xa2 ya2).getD 0)))) L w9) ⟨rfl,rfl,rfl,rfl,trivial⟩ ?_ ?_ ?_
 ·exact FGS.start hcV hfV
 ·intro D WA Z hD hWA hZ T
  simp only [RV.Outs,RV.Slots,Nat.reduceAdd] at T
  iterate 5 first
   | (refine RV.cc _ (RV.pu T (fun γ v L w hl h=>h.stay (by decide) rfl) (fun γ L a w hH hl h9 k9=>⟨_,?_,rfl⟩)) ?_;· simp [JD,go_sem,h9])
   | (refine RV.cc _ (RV.pu T (fun γ v L w hl h=>h.stay (by decide) rfl) (fun γ L a w hH hl h9 k9=>⟨_,?_,rfl⟩)) ?_;· have hG:=hH.glob.early (RV.ny hH (RV.wt (j:=19) hWA (by kernel_rfl)) hl);have q0:=hG.at (CA 0 _ rfl).1 na;have q1:=hG.at (CB 0 _ rfl).1 nb;simp [JC] at k9;simp [JD,go_sem,h9,k9,q0,q1])
  refine RV.cc _ (RV.dc (fun γ L a w hH hl hA=>by have h9:=T γ L a w hH;have k9:=hA;simp [JC] at k9;have hG:=hH.glob.early (RV.ny hH (RV.wt (j:=19) (i:=5) hWA (by kernel_rfl)) hl);exact ⟨gf,#[.pointer (some ⟨fb,0,none⟩),J Y xa0,J Y ya0],by simp [go_sem,eg,h9,k9],JA (hcon xa0 ya0 _ w hG.cell hG.frozen) (by rintro e w2 ⟨rfl,ha⟩;exact ⟨_,rfl,rfl,fun j v _ h=>h.keep _,FGS.come hG (by decide) (RV.ny hH (RV.wt (j:=19) (i:=5) hWA (by kernel_rfl)) hl) hl rfl ha.out⟩)⟩)) ?_
  iterate 5 first
   | (refine RV.cc _ (RV.pu T (fun γ v L w hl h=>h.stay (by decide) rfl) (fun γ L a w hH hl h9 k9=>⟨_,?_,rfl⟩)) ?_;· simp [JD,go_sem,h9])
   | (refine RV.cc _ (RV.pu T (fun γ v L w hl h=>h.stay (by decide) rfl) (fun γ L a w hH hl h9 k9=>⟨_,?_,rfl⟩)) ?_;· have hG:=hH.glob.early (RV.ny hH (RV.wt (j:=19) hWA (by kernel_rfl)) hl);have q0:=hG.at (CA 1 _ rfl).1 na;have q1:=hG.at (CB 1 _ rfl).1 nb;simp [JC] at k9;simp [JD,go_sem,h9,k9,q0,q1])
  refine RV.cc _ (RV.dc (fun γ L a w hH hl hA=>by have h9:=T γ L a w hH;have k9:=hA;simp [JC] at k9;have hG:=hH.glob.early (RV.ny hH (RV.wt (j:=19) (i:=11) hWA (by kernel_rfl)) hl);exact ⟨gf,#[.pointer (some ⟨fb,0,none⟩),J Y xa1,J Y ya1],by simp [go_sem,eg,h9,k9],JA (hcon xa1 ya1 _ w hG.cell hG.frozen) (by rintro e w2 ⟨rfl,ha⟩;exact ⟨_,rfl,rfl,fun j v _ h=>h.keep _,FGS.come hG (by decide) (RV.ny hH (RV.wt (j:=19) (i:=11) hWA (by kernel_rfl)) hl) hl rfl ha.out⟩)⟩)) ?_
  iterate 5 first
   | (refine RV.cc _ (RV.pu T (fun γ v L w hl h=>h.stay (by decide) rfl) (fun γ L a w hH hl h9 k9=>⟨_,?_,rfl⟩)) ?_;· simp [JD,go_sem,h9])
   | (refine RV.cc _ (RV.pu T (fun γ v L w hl h=>h.stay (by decide) rfl) (fun γ L a w hH hl h9 k9=>⟨_,?_,rfl⟩)) ?_;· have hG:=hH.glob.early (RV.ny hH (RV.wt (j:=19) hWA (by kernel_rfl)) hl);have q0:=hG.at (CA 2 _ rfl).1 na;have q1:=hG.at (CB 2 _ rfl).1 nb;simp [JC] at k9;simp [JD,go_sem,h9,k9,q0,q1])
  refine RV.cc _ (RV.dc (fun γ L a w hH hl hA=>by have h9:=T γ L a w hH;have k9:=hA;simp [JC] at k9;have hG:=hH.glob.early (RV.ny hH (RV.wt (j:=19) (i:=17) hWA (by kernel_rfl)) hl);exact ⟨gf,#[.pointer (some ⟨fb,0,none⟩),J Y xa2,J Y ya2],by simp [go_sem,eg,h9,k9],JA (hcon xa2 ya2 _ w hG.cell hG.frozen) (by rintro e w2 ⟨rfl,ha⟩;exact ⟨_,rfl,rfl,fun j v _ h=>h.keep _,FGS.come hG (by decide) (RV.ny hH (RV.wt (j:=19) (i:=17) hWA (by kernel_rfl)) hl) hl rfl ha.out⟩)⟩)) ?_
  (refine RV.cc _ (RV.pu T (fun γ v L w hl h=>h.stay (by decide) rfl) (fun γ L a w hH hl h9 k9=>⟨_,?_,rfl⟩)) ?_;· simp [JC] at k9;simp [JD,go_sem,h9,k9])
  refine RV.cc _ (RV.does_store (fun γ L a w hH hl hA=>by have h9:=T γ L a w hH;have k9:=hA;simp [JC] at k9;have hG:=hH.glob.early hl;have z0:=hG.at (CR 0 _ rfl).1 nr;have zf0:=hG.open (CR 0 _ rfl).1 (CR 0 _ rfl).2 nr;have z1:=hG.at (CR 1 _ rfl).1 nr;have zf1:=hG.open (CR 1 _ rfl).1 (CR 1 _ rfl).2 nr;have z2:=hG.at (CR 2 _ rfl).1 nr;have zf2:=hG.open (CR 2 _ rfl).1 (CR 2 _ rfl).2 nr;exact ⟨(((w.setCell ⟨pr,0,none⟩ (J Y ((fv xa0 ya0).getD 0))).setCell ⟨pr,1,none⟩ (J Y ((fv xa1 ya1).getD 0))).setCell ⟨pr,2,none⟩ (J Y ((fv xa2 ya2).getD 0))),by simp [JD,go_sem,z0,zf0,z1,zf1,z2,zf2,h9,k9],trivial,fun j v _ h=>h.keep _,FGS.store (S:=fun w=>(((w.setCell ⟨pr,0,none⟩ (J Y ((fv xa0 ya0).getD 0))).setCell ⟨pr,1,none⟩ (J Y ((fv xa1 ya1).getD 0))).setCell ⟨pr,2,none⟩ (J Y ((fv xa2 ya2).getD 0)))) hG rfl⟩)) ?_
  exact RV.AllDo.nil
 ·intro γ w5 L9 hL hI9 hG9
  obtain ⟨w8,hF8,rfl⟩:=hG9.late (hL 19 (by decide))
  have hFL:orL f [(5,(fv xa0 ya0).isNone),(11,(fv xa1 ya1).isNone),(17,(fv xa2 ya2).isNone)] L9 = (f || ((fv xa0 ya0).isNone || (fv xa1 ya1).isNone || (fv xa2 ya2).isNone)):=by unfold orL;simp only [List.any_cons,List.any_nil,hL 5 (by decide),hL 11 (by decide),hL 17 (by decide),Bool.true_and,Bool.or_false,Bool.or_assoc]
  have HA8:Hid (After _ _ _ _):=hF8.leaves.done hF8.cell hF8.frozen
  rw [hFL] at HA8
  clear hF8 hFL
  clear hL hI9 hG9
  simp only [RV.putL,Act.put,List.setIfInBounds_toArray,List.set_cons_zero,List.set_cons_succ]
  have C1:Hid (CW w8 pr _):=(CR.leaves HA8.out.leaves nr)
  have HL:Hid (Leaves ⟨fb,0,none⟩ W _):=HLV.out.same HA8.out
  have hc8:=HA8.out.cell
  have hf8:=HA8.out.frozen
  obtain ⟨r0,q0⟩:=C1.out 0 _ rfl
  obtain ⟨r1,q1⟩:=C1.out 1 _ rfl
  obtain ⟨r2,q2⟩:=C1.out 2 _ rfl
  clear C1 HA8
  go_wp2_with (fail)
  refine bodyPost_ret (by simp [results,results106,go_sem,r0,r1,r2];try rfl) rfl ?_
  refine ⟨_,rfl,rfl,(((HL.out.set hpr _).set hpr _).set hpr _).done ?_ ?_⟩
  ·simp [go_sem,hc8]
  ·simp [go_sem,hf8]
theorem Jja (b:Nat) (f:Bool) (x0 x1 x2 y0 y1 y2:Int) (W:World) (hc:W.cell? ⟨b,0,none⟩ = some (.bool f)) (hf:W.frozen? ⟨b,0,none⟩ = false) :
  Calls Tryz.prog 106 #[.func (.func 108) #[.pointer (some ⟨b,0,none⟩)] #[],.agg #[J Y x0,J Y x1,J Y x2],.agg #[J Y y0,J Y y1,J Y y2]] W fun e W' =>
   ∃ g,e = .returned (.agg #[J Y ((add x0 y0).getD 0),J Y ((add x1 y1).getD 0),J Y ((add x2 y2).getD 0)])/\Hid (g = (f || ((add x0 y0).isNone || (add x1 y1).isNone || (add x2 y2).isNone)))/\Hid (After ⟨b,0,none⟩ g W W'):=
 Jh5 108 (add) b (enters_of func108 (by kernel_rfl) rfl) (fun x y g w h1 h2=>by
  refine JA (Jn9 b 0 g x y w h1 h2) ?_
  rintro e w' ⟨v0,g0,rfl,SS,A⟩
  obtain ⟨rfl,rfl⟩:=SS.out
  exact ⟨rfl,A⟩) f x0 x1 x2 y0 y1 y2 W hc hf
theorem Jjg (b:Nat) (f:Bool) (x0 x1 x2 y0 y1 y2:Int) (W:World) (hc:W.cell? ⟨b,0,none⟩ = some (.bool f)) (hf:W.frozen? ⟨b,0,none⟩ = false) :
  Calls Tryz.prog 106 #[.func (.func 113) #[.pointer (some ⟨b,0,none⟩)] #[],.agg #[J Y x0,J Y x1,J Y x2],.agg #[J Y y0,J Y y1,J Y y2]] W fun e W' =>
   ∃ g,e = .returned (.agg #[J Y ((sub x0 y0).getD 0),J Y ((sub x1 y1).getD 0),J Y ((sub x2 y2).getD 0)])/\Hid (g = (f || ((sub x0 y0).isNone || (sub x1 y1).isNone || (sub x2 y2).isNone)))/\Hid (After ⟨b,0,none⟩ g W W'):=
 Jh5 113 (sub) b (enters_of func113 (by kernel_rfl) rfl) (fun x y g w h1 h2=>by
  refine JA (Jfn b 0 g x y w h1 h2) ?_
  rintro e w' ⟨v0,g0,rfl,SS,A⟩
  obtain ⟨rfl,rfl⟩:=SS.out
  exact ⟨rfl,A⟩) f x0 x1 x2 y0 y1 y2 W hc hf
theorem Jjb (b:Nat) (f:Bool) (x0 x1 x2 y0 y1 y2:Int) (W:World) (hc:W.cell? ⟨b,0,none⟩ = some (.bool f)) (hf:W.frozen? ⟨b,0,none⟩ = false) :
  Calls Tryz.prog 106 #[.func (.func 75) #[.pointer (some ⟨b,0,none⟩)] #[],.agg #[J Y x0,J Y x1,J Y x2],.agg #[J Y y0,J Y y1,J Y y2]] W fun e W' =>
   ∃ g,e = .returned (.agg #[J Y ((mul x0 y0).getD 0),J Y ((mul x1 y1).getD 0),J Y ((mul x2 y2).getD 0)])/\Hid (g = (f || ((mul x0 y0).isNone || (mul x1 y1).isNone || (mul x2 y2).isNone)))/\Hid (After ⟨b,0,none⟩ g W W'):=
 Jh5 75 (mul) b (enters_of func75 (by kernel_rfl) rfl) (fun x y g w h1 h2=>by
  refine JA (Jrz b 0 g x y w h1 h2) ?_
  rintro e w' ⟨v0,g0,rfl,SS,A⟩
  obtain ⟨rfl,rfl⟩:=SS.out
  exact ⟨rfl,A⟩) f x0 x1 x2 y0 y1 y2 W hc hf
theorem Jgb (gf:Nat) (fv:Int->Int->Option Int) (fb:Nat) (eg:∀ args w,(callFunc gf args).run Tryz.prog w = .ok (.enter gf args) w)
  (hcon:∀ (x y:Int) (g:Bool) (w:World),w.cell? ⟨fb,0,none⟩ = some (.bool g)->w.frozen? ⟨fb,0,none⟩ = false->Calls Tryz.prog gf #[.pointer (some ⟨fb,0,none⟩),J Y x,J Y y] w fun e w'=>e = .returned (J Y ((fv x y).getD 0))/\Hid (After ⟨fb,0,none⟩ (g || (fv x y).isNone) w w'))
  (f:Bool) (xa0 xa1 xa2 xa3 ya0 ya1 ya2 ya3:Int) (W:World) (hc:W.cell? ⟨fb,0,none⟩ = some (.bool f)) (hf:W.frozen? ⟨fb,0,none⟩ = false) :
  Calls Tryz.prog 135 #[.func (.func gf) #[.pointer (some ⟨fb,0,none⟩)] #[],.agg #[J Y xa0,J Y xa1,J Y xa2,J Y xa3],.agg #[J Y ya0,J Y ya1,J Y ya2,J Y ya3]] W fun e W'=>∃ g,e = .returned (.agg #[J Y ((fv xa0 ya0).getD 0),J Y ((fv xa1 ya1).getD 0),J Y ((fv xa2 ya2).getD 0),J Y ((fv xa3 ya3).getD 0)])/\Hid (g = (f || ((fv xa0 ya0).isNone || (fv xa1 ya1).isNone || (fv xa2 ya2).isNone || (fv xa3 ya3).isNone)))/\Hid (After ⟨fb,0,none⟩ g W W'):=by
 have hbW:fb < W.heap.size:=JB _ _ hc
 obtain ⟨V,hV⟩:∃ V,V = (((W.alloc (.cells #[J Y xa0,J Y xa1,J Y xa2,J Y xa3] 29)).alloc (.cells #[J Y ya0,J Y ya1,J Y ya2,J Y ya3] 29)).alloc (.cells #[J Y 0,J Y 0,J Y 0,J Y 0] 29)):=⟨_,rfl⟩
 have hb0:=Jb W (.cells #[J Y xa0,J Y xa1,J Y xa2,J Y xa3] 29)
 have hb1:=Jb (W.alloc (.cells #[J Y xa0,J Y xa1,J Y xa2,J Y xa3] 29)) (.cells #[J Y ya0,J Y ya1,J Y ya2,J Y ya3] 29)
 have hb2:=Jb ((W.alloc (.cells #[J Y xa0,J Y xa1,J Y xa2,J Y xa3] 29)).alloc (.cells #[J Y ya0,J Y ya1,J Y ya2,J Y ya3] 29)) (.cells #[J Y 0,J Y 0,J Y 0,J Y 0] 29)
 have CA:CW V (W.heap.size) [J Y xa0,J Y xa1,J Y xa2,J Y xa3]:=by
  have h9:=((CW.new W [J Y xa0,J Y xa1,J Y xa2,J Y xa3] 29).step hb1).step hb2
  rw [hV];exact h9
 have CB:CW V (W.heap.size + 1) [J Y ya0,J Y ya1,J Y ya2,J Y ya3]:=by
  have h9:=(CW.new (W.alloc (.cells #[J Y xa0,J Y xa1,J Y xa2,J Y xa3] 29)) [J Y ya0,J Y ya1,J Y ya2,J Y ya3] 29).step hb2
  simp only [JE] at h9
  rw [hV];exact h9
 have CR:CW V (W.heap.size + 1 + 1) [J Y 0,J Y 0,J Y 0,J Y 0]:=by
  have h9:=CW.new ((W.alloc (.cells #[J Y xa0,J Y xa1,J Y xa2,J Y xa3] 29)).alloc (.cells #[J Y ya0,J Y ya1,J Y ya2,J Y ya3] 29)) [J Y 0,J Y 0,J Y 0,J Y 0] 29
  simp only [JE] at h9
  rw [hV];exact h9
 have hB:Below W.heap.size W V:=by rw [hV];exact (Jf (Jf hb0 hb1) hb2)
 have hcV:=Ja hB hc
 have hfV:=Jt hB hc hf
 have HLV:Hid (Leaves ⟨fb,0,none⟩ W V):=(Leaves.refl _ _).step hB
 clear hb0 hb1 hb2
 clear hc hf hB
 go_enter func135,ntmps135
 go_upto_region 1 with fail
 rw [<- hV]
 clear hV
 obtain ⟨pr,hpr⟩:∃ p,p = W.heap.size + 1 + 1:=⟨_,rfl⟩
 obtain ⟨pb,hpb⟩:∃ p,p = W.heap.size + 1:=⟨_,rfl⟩
 obtain ⟨pa,hpa⟩:∃ p,p = W.heap.size:=⟨_,rfl⟩
 rw [<- hpr] at CR
 rw [<- hpb] at CB
 rw [<- hpa] at CA
 rw [<- hpr,<- hpb,<- hpa]
 have na:pa ≠ fb:=by omega
 have nb:pb ≠ fb:=by omega
 have nr:pr ≠ fb:=by omega
 have nr':fb ≠ pr:=by omega
 have hpr9:W.heap.size <= pr:=by omega
 clear hpr hpa hpb hbW
 have hpr:=hpr9
 refine RV.rs [.some (.func (.func gf) #[.pointer (some ⟨fb,0,none⟩)] #[]),.some (.pointer (some ⟨pa,0,none⟩)),.some (J Y xa0),.some (.pointer (some ⟨pb,0,none⟩)),.some (J Y ya0),.some (J Y ((fv xa0 ya0).getD 0)),.some (.func (.func gf) #[.pointer (some ⟨fb,0,none⟩)] #[]),.some (.pointer (some ⟨pa,1,none⟩)),.some (J Y xa1),.some (.pointer (some ⟨pb,1,none⟩)),.some (J Y ya1),.some (J Y ((fv xa1 ya1).getD 0)),.some (.func (.func gf) #[.pointer (some ⟨fb,0,none⟩)] #[]),.some (.pointer (some ⟨pa,2,none⟩)),.some (J Y xa2),.some (.pointer (some ⟨pb,2,none⟩)),.some (J Y ya2),.some (J Y ((fv xa2 ya2).getD 0)),.some (.func (.func gf) #[.pointer (some ⟨fb,0,none⟩)] #[]),.some (.pointer (some ⟨pa,3,none⟩)),.some (J Y xa3),.some (.pointer (some ⟨pb,3,none⟩)),.some (J Y ya3),.some (J Y ((fv xa3 ya3).getD 0)),.some (.agg #[J Y ((fv xa0 ya0).getD 0),J Y ((fv xa1 ya1).getD 0),J Y ((fv xa2 ya2).getD 0),J Y ((fv xa3 ya3).getD 0)]),none] [8,9,10,11,12,13,14,15,16,17,18,19,20,21,22,23,24,25,26,27,28,29,30,31,32,0] [(0,.func (.func gf) #[.pointer (some ⟨fb,0,none⟩)] #[]),(4,.pointer (some ⟨pa,0,none⟩)),(5,.pointer (some ⟨pb,0,none⟩)),(6,.pointer (some ⟨pr,0,none⟩))] (fun γ L w9=>FGS V ⟨fb,0,none⟩ f [(5,(fv xa0 ya0).isNone),(11,(fv xa1 ya1).isNone),(17,(fv xa2 ya2).isNone),(23,(fv xa3 ya3).isNone)] 25 (fun w=>((((w.setCell ⟨pr,0,none⟩ (J Y ((fv xa0 ya0).getD 0))).setCell ⟨pr,1,none⟩ (J Y ((fv xa1 ya1).getD 0))).setCell ⟨pr,2,none⟩ (J Y ((fv xa2 ya2).getD 0))).setCell ⟨pr,3,none⟩ (J Y ((fv xa3 ya3).getD 0)))) L w9) ⟨rfl,rfl,rfl,rfl,trivial⟩ ?_ ?_ ?_
 ·exact FGS.start hcV hfV
 ·intro D WA Z hD hWA hZ T
  simp only [RV.Outs,RV.Slots,Nat.reduceAdd] at T
  iterate 5 first
   | (refine RV.cc _ (RV.pu T (fun γ v L w hl h=>h.stay (by decide) rfl) (fun γ L a w hH hl h9 k9=>⟨_,?_,rfl⟩)) ?_;· simp [JD,go_sem,h9])
   | (refine RV.cc _ (RV.pu T (fun γ v L w hl h=>h.stay (by decide) rfl) (fun γ L a w hH hl h9 k9=>⟨_,?_,rfl⟩)) ?_;· have hG:=hH.glob.early (RV.ny hH (RV.wt (j:=25) hWA (by kernel_rfl)) hl);have q0:=hG.at (CA 0 _ rfl).1 na;have q1:=hG.at (CB 0 _ rfl).1 nb;simp [JC] at k9;simp [JD,go_sem,h9,k9,q0,q1])
  refine RV.cc _ (RV.dc (fun γ L a w hH hl hA=>by have h9:=T γ L a w hH;have k9:=hA;simp [JC] at k9;have hG:=hH.glob.early (RV.ny hH (RV.wt (j:=25) (i:=5) hWA (by kernel_rfl)) hl);exact ⟨gf,#[.pointer (some ⟨fb,0,none⟩),J Y xa0,J Y ya0],by simp [go_sem,eg,h9,k9],JA (hcon xa0 ya0 _ w hG.cell hG.frozen) (by rintro e w2 ⟨rfl,ha⟩;exact ⟨_,rfl,rfl,fun j v _ h=>h.keep _,FGS.come hG (by decide) (RV.ny hH (RV.wt (j:=25) (i:=5) hWA (by kernel_rfl)) hl) hl rfl ha.out⟩)⟩)) ?_
  iterate 5 first
   | (refine RV.cc _ (RV.pu T (fun γ v L w hl h=>h.stay (by decide) rfl) (fun γ L a w hH hl h9 k9=>⟨_,?_,rfl⟩)) ?_;· simp [JD,go_sem,h9])
   | (refine RV.cc _ (RV.pu T (fun γ v L w hl h=>h.stay (by decide) rfl) (fun γ L a w hH hl h9 k9=>⟨_,?_,rfl⟩)) ?_;· have hG:=hH.glob.early (RV.ny hH (RV.wt (j:=25) hWA (by kernel_rfl)) hl);have q0:=hG.at (CA 1 _ rfl).1 na;have q1:=hG.at (CB 1 _ rfl).1 nb;simp [JC] at k9;simp [JD,go_sem,h9,k9,q0,q1])
  refine RV.cc _ (RV.dc (fun γ L a w hH hl hA=>by have h9:=T γ L a w hH;have k9:=hA;simp [JC] at k9;have hG:=hH.glob.early (RV.ny hH (RV.wt (j:=25) (i:=11) hWA (by kernel_rfl)) hl);exact ⟨gf,#[.pointer (some ⟨fb,0,none⟩),J Y xa1,J Y ya1],by simp [go_sem,eg,h9,k9],JA (hcon xa1 ya1 _ w hG.cell hG.frozen) (by rintro e w2 ⟨rfl,ha⟩;exact ⟨_,rfl,rfl,fun j v _ h=>h.keep _,FGS.come hG (by decide) (RV.ny hH (RV.wt (j:=25) (i:=11) hWA (by kernel_rfl)) hl) hl rfl ha.out⟩)⟩)) ?_
  iterate 5 first
   | (refine RV.cc _ (RV.pu T (fun γ v L w hl h=>h.stay (by decide) rfl) (fun γ L a w hH hl h9 k9=>⟨_,?_,rfl⟩)) ?_;· simp [JD,go_sem,h9])
   | (refine RV.cc _ (RV.pu T (fun γ v L w hl h=>h.stay (by decide) rfl) (fun γ L a w hH hl h9 k9=>⟨_,?_,rfl⟩)) ?_;· have hG:=hH.glob.early (RV.ny hH (RV.wt (j:=25) hWA (by kernel_rfl)) hl);have q0:=hG.at (CA 2 _ rfl).1 na;have q1:=hG.at (CB 2 _ rfl).1 nb;simp [JC] at k9;simp [JD,go_sem,h9,k9,q0,q1])
  refine RV.cc _ (RV.dc (fun γ L a w hH hl hA=>by have h9:=T γ L a w hH;have k9:=hA;simp [JC] at k9;have hG:=hH.glob.early (RV.ny hH (RV.wt (j:=25) (i:=17) hWA (by kernel_rfl)) hl);exact ⟨gf,#[.pointer (some ⟨fb,0,none⟩),J Y xa2,J Y ya2],by simp [go_sem,eg,h9,k9],JA (hcon xa2 ya2 _ w hG.cell hG.frozen) (by rintro e w2 ⟨rfl,ha⟩;exact ⟨_,rfl,rfl,fun j v _ h=>h.keep _,FGS.come hG (by decide) (RV.ny hH (RV.wt (j:=25) (i:=17) hWA (by kernel_rfl)) hl) hl rfl ha.out⟩)⟩)) ?_
  iterate 5 first
   | (refine RV.cc _ (RV.pu T (fun γ v L w hl h=>h.stay (by decide) rfl) (fun γ L a w hH hl h9 k9=>⟨_,?_,rfl⟩)) ?_;· simp [JD,go_sem,h9])
   | (refine RV.cc _ (RV.pu T (fun γ v L w hl h=>h.stay (by decide) rfl) (fun γ L a w hH hl h9 k9=>⟨_,?_,rfl⟩)) ?_;· have hG:=hH.glob.early (RV.ny hH (RV.wt (j:=25) hWA (by kernel_rfl)) hl);have q0:=hG.at (CA 3 _ rfl).1 na;have q1:=hG.at (CB 3 _ rfl).1 nb;simp [JC] at k9;simp [JD,go_sem,h9,k9,q0,q1])
  refine RV.cc _ (RV.dc (fun γ L a w hH hl hA=>by have h9:=T γ L a w hH;have k9:=hA;simp [JC] at k9;have hG:=hH.glob.early (RV.ny hH (RV.wt (j:=25) (i:=23) hWA (by kernel_rfl)) hl);exact ⟨gf,#[.pointer (some ⟨fb,0,none⟩),J Y xa3,J Y ya3],by simp [go_sem,eg,h9,k9],JA (hcon xa3 ya3 _ w hG.cell hG.frozen) (by rintro e w2 ⟨rfl,ha⟩;exact ⟨_,rfl,rfl,fun j v _ h=>h.keep _,FGS.come hG (by decide) (RV.ny hH (RV.wt (j:=25) (i:=23) hWA (by kernel_rfl)) hl) hl rfl ha.out⟩)⟩)) ?_
  (refine RV.cc _ (RV.pu T (fun γ v L w hl h=>h.stay (by decide) rfl) (fun γ L a w hH hl h9 k9=>⟨_,?_,rfl⟩)) ?_;· simp [JC] at k9;simp [JD,go_sem,h9,k9])
  refine RV.cc _ (RV.does_store (fun γ L a w hH hl hA=>by have h9:=T γ L a w hH;have k9:=hA;simp [JC] at k9;have hG:=hH.glob.early hl;have z0:=hG.at (CR 0 _ rfl).1 nr;have zf0:=hG.open (CR 0 _ rfl).1 (CR 0 _ rfl).2 nr;have z1:=hG.at (CR 1 _ rfl).1 nr;have zf1:=hG.open (CR 1 _ rfl).1 (CR 1 _ rfl).2 nr;have z2:=hG.at (CR 2 _ rfl).1 nr;have zf2:=hG.open (CR 2 _ rfl).1 (CR 2 _ rfl).2 nr;have z3:=hG.at (CR 3 _ rfl).1 nr;have zf3:=hG.open (CR 3 _ rfl).1 (CR 3 _ rfl).2 nr;exact ⟨((((w.setCell ⟨pr,0,none⟩ (J Y ((fv xa0 ya0).getD 0))).setCell ⟨pr,1,none⟩ (J Y ((fv xa1 ya1).getD 0))).setCell ⟨pr,2,none⟩ (J Y ((fv xa2 ya2).getD 0))).setCell ⟨pr,3,none⟩ (J Y ((fv xa3 ya3).getD 0))),by simp [JD,go_sem,z0,zf0,z1,zf1,z2,zf2,z3,zf3,h9,k9],trivial,fun j v _ h=>h.keep _,FGS.store (S:=fun w=>((((w.setCell ⟨pr,0,none⟩ (J Y ((fv xa0 ya0).getD 0))).setCell ⟨pr,1,none⟩ (J Y ((fv xa1 ya1).getD 0))).setCell ⟨pr,2,none⟩ (J Y ((fv xa2 ya2).getD 0))).setCell ⟨pr,3,none⟩ (J Y ((fv xa3 ya3).getD 0)))) hG rfl⟩)) ?_
  exact RV.AllDo.nil
 ·intro γ w5 L9 hL hI9 hG9
  obtain ⟨w8,hF8,rfl⟩:=hG9.late (hL 25 (by decide))
  have hFL:orL f [(5,(fv xa0 ya0).isNone),(11,(fv xa1 ya1).isNone),(17,(fv xa2 ya2).isNone),(23,(fv xa3 ya3).isNone)] L9 = (f || ((fv xa0 ya0).isNone || (fv xa1 ya1).isNone || (fv xa2 ya2).isNone || (fv xa3 ya3).isNone)):=by unfold orL;simp only [List.any_cons,List.any_nil,hL 5 (by decide),hL 11 (by decide),hL 17 (by decide),hL 23 (by decide),Bool.true_and,Bool.or_false,Bool.or_assoc]
  have HA8:Hid (After _ _ _ _):=hF8.leaves.done hF8.cell hF8.frozen
  rw [hFL] at HA8
  clear hF8 hFL
  clear hL hI9 hG9
  simp only [RV.putL,Act.put,List.setIfInBounds_toArray,List.set_cons_zero,List.set_cons_succ]
  have C1:Hid (CW w8 pr _):=(CR.leaves HA8.out.leaves nr)
  have HL:Hid (Leaves ⟨fb,0,none⟩ W _):=HLV.out.same HA8.out
  have hc8:=HA8.out.cell
  have hf8:=HA8.out.frozen
  obtain ⟨r0,q0⟩:=C1.out 0 _ rfl
  obtain ⟨r1,q1⟩:=C1.out 1 _ rfl
  obtain ⟨r2,q2⟩:=C1.out 2 _ rfl
  obtain ⟨r3,q3⟩:=C1.out 3 _ rfl
  clear C1 HA8
  go_wp2_with (fail)
  refine bodyPost_ret (by simp [results,results135,go_sem,r0,r1,r2,r3];try rfl) rfl ?_
  refine ⟨_,rfl,rfl,((((HL.out.set hpr _).set hpr _).set hpr _).set hpr _).done ?_ ?_⟩
  ·simp [go_sem,hc8]
  ·simp [go_sem,hf8]
theorem Jih (b:Nat) (f:Bool) (x0 x1 x2 x3 y0 y1 y2 y3:Int) (W:World) (hc:W.cell? ⟨b,0,none⟩ = some (.bool f)) (hf:W.frozen? ⟨b,0,none⟩ = false) :
  Calls Tryz.prog 135 #[.func (.func 108) #[.pointer (some ⟨b,0,none⟩)] #[],.agg #[J Y x0,J Y x1,J Y x2,J Y x3],.agg #[J Y y0,J Y y1,J Y y2,J Y y3]] W fun e W' =>
   ∃ g,e = .returned (.agg #[J Y ((add x0 y0).getD 0),J Y ((add x1 y1).getD 0),J Y ((add x2 y2).getD 0),J Y ((add x3 y3).getD 0)])/\Hid (g = (f || ((add x0 y0).isNone || (add x1 y1).isNone || (add x2 y2).isNone || (add x3 y3).isNone)))/\Hid (After ⟨b,0,none⟩ g W W'):=
 Jgb 108 (add) b (enters_of func108 (by kernel_rfl) rfl) (fun x y g w h1 h2=>by
  refine JA (Jn9 b 0 g x y w h1 h2) ?_
  rintro e w' ⟨v0,g0,rfl,SS,A⟩
  obtain ⟨rfl,rfl⟩:=SS.out
  exact ⟨rfl,A⟩) f x0 x1 x2 x3 y0 y1 y2 y3 W hc hf
theorem Je4 (b:Nat) (f:Bool) (x0 x1 x2 x3 y0 y1 y2 y3:Int) (W:World) (hc:W.cell? ⟨b,0,none⟩ = some (.bool f)) (hf:W.frozen? ⟨b,0,none⟩ = false) :
  Calls Tryz.prog 135 #[.func (.func 113) #[.pointer (some ⟨b,0,none⟩)] #[],.agg #[J Y x0,J Y x1,J Y x2,J Y x3],.agg #[J Y y0,J Y y1,J Y y2,J Y y3]] W fun e W' =>
   ∃ g,e = .returned (.agg #[J Y ((sub x0 y0).getD 0),J Y ((sub x1 y1).getD 0),J Y ((sub x2 y2).getD 0),J Y ((sub x3 y3).getD 0)])/\Hid (g = (f || ((sub x0 y0).isNone || (sub x1 y1).isNone || (sub x2 y2).isNone || (sub x3 y3).isNone)))/\Hid (After ⟨b,0,none⟩ g W W'):=
 Jgb 113 (sub) b (enters_of func113 (by kernel_rfl) rfl) (fun x y g w h1 h2=>by
  refine JA (Jfn b 0 g x y w h1 h2) ?_
  rintro e w' ⟨v0,g0,rfl,SS,A⟩
  obtain ⟨rfl,rfl⟩:=SS.out
  exact ⟨rfl,A⟩) f x0 x1 x2 x3 y0 y1 y2 y3 W hc hf
theorem Jif (b:Nat) (f:Bool) (x0 x1 x2 x3 y0 y1 y2 y3:Int) (W:World) (hc:W.cell? ⟨b,0,none⟩ = some (.bool f)) (hf:W.frozen? ⟨b,0,none⟩ = false) :
  Calls Tryz.prog 135 #[.func (.func 115) #[.pointer (some ⟨b,0,none⟩)] #[],.agg #[J Y x0,J Y x1,J Y x2,J Y x3],.agg #[J Y y0,J Y y1,J Y y2,J Y y3]] W fun e W' =>
   ∃ g,e = .returned (.agg #[J Y ((Ju x0 4294967296 y0).getD 0),J Y ((Ju x1 4294967296 y1).getD 0),J Y ((Ju x2 4294967296 y2).getD 0),J Y ((Ju x3 4294967296 y3).getD 0)])/\Hid (g = (f || ((Ju x0 4294967296 y0).isNone || (Ju x1 4294967296 y1).isNone || (Ju x2 4294967296 y2).isNone || (Ju x3 4294967296 y3).isNone)))/\Hid (After ⟨b,0,none⟩ g W W'):=
 Jgb 115 (fun x y=>Ju x 4294967296 y) b (enters_of func115 (by kernel_rfl) rfl) (fun x y g w h1 h2=>by
  refine JA (Jn8 b 0 g x y w h1 h2) ?_
  rintro e w' ⟨v0,g0,rfl,SS,A⟩
  obtain ⟨rfl,rfl⟩:=SS.out
  exact ⟨rfl,A⟩) f x0 x1 x2 x3 y0 y1 y2 y3 W hc hf
end
section
open Go.RowKit Fx
theorem Leaves.own {p:Addr} {W w:World} (h:Leaves p W w) (v:Value):Leaves p W (w.setCell p v):=by
 refine ⟨by simpa [World.setCell] using h.size,fun q hq hne=>?_,fun B w' hb h1 h2=>(h.below B w' hb h1 h2).setCell h1 v,⟨h.kept.1,h.kept.2.1,h.kept.2.2.1,fun i hi hne=>(Below.heap_setCell _ _ _ _ hne).trans (h.kept.2.2.2 i hi hne)⟩,fun hp o ho=>⟨(World.cell?_setCell_other _ _ _ _ (fun e=>ho (by cases p;exact ((Addr.mk.inj e).2.1).symm))).trans (h.beside hp o ho).1,by rw [show (w.setCell p v).frozen? ⟨p.block,o,none⟩ = w.frozen? ⟨p.block,o,none⟩ by simp [go_sem]];exact (h.beside hp o ho).2⟩⟩
 exact ⟨(World.cell?_of_block (w:=w) (Below.heap_setCell _ _ _ _ hne)).trans (h.other q hq hne).1,(World.frozen?_of_block (w:=w) (Below.heap_setCell _ _ _ _ hne)).trans (h.other q hq hne).2⟩
theorem Jez (b off o:Nat) (f g:Bool) (x0 x1 x2:Int) (W:World) (hc:W.cell? ⟨b,off,none⟩ = some (.bool f)) (hf:W.frozen? ⟨b,off,none⟩ = false) (ho:W.cell? ⟨o,0,none⟩ = some (.bool g)) :
  Calls Tryz.prog 105 #[.pointer (some ⟨b,off,none⟩),.pointer (some ⟨o,0,none⟩),.agg #[J Y x0,J Y x1,J Y x2]] W fun e W' =>
   e = .returned (.agg #[J Y (cond g 0 x0),J Y (cond g 0 x1),J Y (cond g 0 x2)])/\Hid (After ⟨b,off,none⟩ (f || g) W W'):=by
 have m1:b < W.heap.size:=JB _ _ hc
 have m2:o < W.heap.size:=JB _ _ ho
 have HL:Hid _:=Leaves.refl ⟨b,off,none⟩ W
 have n1:b ≠ W.heap.size:=by omega
 have n2:o ≠ W.heap.size:=by omega
 have n3:W.heap.size ≠ b:=by omega
 cases g
 ·go_enter func105,ntmps105
  go_wp2
  go_returns
  refine ⟨rfl,((HL.out.alloc _).alloc _).done ?_ ?_⟩
  ·rw [World.cell?_alloc_past _ _ _ (by rw [JE];omega),World.cell?_alloc_past _ _ _ m1,hc];simp
  ·rw [((Jg _ _).frozen (by rw [JE];show b < _;omega)),((Jg _ _).frozen (show b < _ from m1)),hf]
 ·go_enter func105,ntmps105
  go_wp2
  go_returns
  refine ⟨rfl,((((HL.out.own _).alloc _).alloc _).alloc _).done ?_ ?_⟩
  ·have e:(W.setCell ⟨b,off,none⟩ (.bool true)).cell? ⟨b,off,none⟩ = some (.bool true):=by simp [go_sem,hc]
   have s:(W.setCell ⟨b,off,none⟩ (.bool true)).heap.size = W.heap.size:=by simp [World.setCell]
   rw [World.cell?_alloc_past _ _ _ (by rw [JE,JE,s];omega),World.cell?_alloc_past _ _ _ (by rw [JE,s];omega),World.cell?_alloc_past _ _ _ (by rw [s];omega),e];simp
  ·have e:(W.setCell ⟨b,off,none⟩ (.bool true)).frozen? ⟨b,off,none⟩ = false:=by simp [go_sem,hf]
   have s:(W.setCell ⟨b,off,none⟩ (.bool true)).heap.size = W.heap.size:=by simp [World.setCell]
   rw [((Jg _ _).frozen (by rw [JE,JE,s];show b < _;omega)),((Jg _ _).frozen (by rw [JE,s];show b < _;omega)),((Jg _ _).frozen (by rw [s];exact m1)),e]
theorem Jit (b off o:Nat) (f g:Bool) (x0 x1 x2 x3:Int) (W:World) (hc:W.cell? ⟨b,off,none⟩ = some (.bool f)) (hf:W.frozen? ⟨b,off,none⟩ = false) (ho:W.cell? ⟨o,0,none⟩ = some (.bool g)) :
  Calls Tryz.prog 141 #[.pointer (some ⟨b,off,none⟩),.pointer (some ⟨o,0,none⟩),.agg #[J Y x0,J Y x1,J Y x2,J Y x3]] W fun e W' =>
   e = .returned (.agg #[J Y (cond g 0 x0),J Y (cond g 0 x1),J Y (cond g 0 x2),J Y (cond g 0 x3)])/\Hid (After ⟨b,off,none⟩ (f || g) W W'):=by
 have m1:b < W.heap.size:=JB _ _ hc
 have m2:o < W.heap.size:=JB _ _ ho
 have HL:Hid _:=Leaves.refl ⟨b,off,none⟩ W
 have n1:b ≠ W.heap.size:=by omega
 have n2:o ≠ W.heap.size:=by omega
 have n3:W.heap.size ≠ b:=by omega
 cases g
 ·go_enter func141,ntmps141
  go_wp2
  go_returns
  refine ⟨rfl,((HL.out.alloc _).alloc _).done ?_ ?_⟩
  ·rw [World.cell?_alloc_past _ _ _ (by rw [JE];omega),World.cell?_alloc_past _ _ _ m1,hc];simp
  ·rw [((Jg _ _).frozen (by rw [JE];show b < _;omega)),((Jg _ _).frozen (show b < _ from m1)),hf]
 ·go_enter func141,ntmps141
  go_wp2
  go_returns
  refine ⟨rfl,((((HL.out.own _).alloc _).alloc _).alloc _).done ?_ ?_⟩
  ·have e:(W.setCell ⟨b,off,none⟩ (.bool true)).cell? ⟨b,off,none⟩ = some (.bool true):=by simp [go_sem,hc]
   have s:(W.setCell ⟨b,off,none⟩ (.bool true)).heap.size = W.heap.size:=by simp [World.setCell]
   rw [World.cell?_alloc_past _ _ _ (by rw [JE,JE,s];omega),World.cell?_alloc_past _ _ _ (by rw [JE,s];omega),World.cell?_alloc_past _ _ _ (by rw [s];omega),e];simp
  ·have e:(W.setCell ⟨b,off,none⟩ (.bool true)).frozen? ⟨b,off,none⟩ = false:=by simp [go_sem,hf]
   have s:(W.setCell ⟨b,off,none⟩ (.bool true)).heap.size = W.heap.size:=by simp [World.setCell]
   rw [((Jg _ _).frozen (by rw [JE,JE,s];show b < _;omega)),((Jg _ _).frozen (by rw [JE,s];show b < _;omega)),((Jg _ _).frozen (by rw [s];exact m1)),e]
theorem Jo8 (b off o:Nat) (f g:Bool) (x0 x1 x2 x3 x4 x5 x6 x7 x8:Int) (W:World) (hc:W.cell? ⟨b,off,none⟩ = some (.bool f)) (hf:W.frozen? ⟨b,off,none⟩ = false) (ho:W.cell? ⟨o,0,none⟩ = some (.bool g)) :
  Calls Tryz.prog 136 #[.pointer (some ⟨b,off,none⟩),.pointer (some ⟨o,0,none⟩),.agg #[J Y x0,J Y x1,J Y x2,J Y x3,J Y x4,J Y x5,J Y x6,J Y x7,J Y x8]] W fun e W' =>
   e = .returned (.agg #[J Y (cond g 0 x0),J Y (cond g 0 x1),J Y (cond g 0 x2),J Y (cond g 0 x3),J Y (cond g 0 x4),J Y (cond g 0 x5),J Y (cond g 0 x6),J Y (cond g 0 x7),J Y (cond g 0 x8)])/\Hid (After ⟨b,off,none⟩ (f || g) W W'):=by
 have m1:b < W.heap.size:=JB _ _ hc
 have m2:o < W.heap.size:=JB _ _ ho
 have HL:Hid _:=Leaves.refl ⟨b,off,none⟩ W
 have n1:b ≠ W.heap.size:=by omega
 have n2:o ≠ W.heap.size:=by omega
 have n3:W.heap.size ≠ b:=by omega
 cases g
 ·go_enter func136,ntmps136
  go_wp2
  go_returns
  refine ⟨rfl,((HL.out.alloc _).alloc _).done ?_ ?_⟩
  ·rw [World.cell?_alloc_past _ _ _ (by rw [JE];omega),World.cell?_alloc_past _ _ _ m1,hc];simp
  ·rw [((Jg _ _).frozen (by rw [JE];show b < _;omega)),((Jg _ _).frozen (show b < _ from m1)),hf]
 ·go_enter func136,ntmps136
  go_wp2
  go_returns
  refine ⟨rfl,((((HL.out.own _).alloc _).alloc _).alloc _).done ?_ ?_⟩
  ·have e:(W.setCell ⟨b,off,none⟩ (.bool true)).cell? ⟨b,off,none⟩ = some (.bool true):=by simp [go_sem,hc]
   have s:(W.setCell ⟨b,off,none⟩ (.bool true)).heap.size = W.heap.size:=by simp [World.setCell]
   rw [World.cell?_alloc_past _ _ _ (by rw [JE,JE,s];omega),World.cell?_alloc_past _ _ _ (by rw [JE,s];omega),World.cell?_alloc_past _ _ _ (by rw [s];omega),e];simp
  ·have e:(W.setCell ⟨b,off,none⟩ (.bool true)).frozen? ⟨b,off,none⟩ = false:=by simp [go_sem,hf]
   have s:(W.setCell ⟨b,off,none⟩ (.bool true)).heap.size = W.heap.size:=by simp [World.setCell]
   rw [((Jg _ _).frozen (by rw [JE,JE,s];show b < _;omega)),((Jg _ _).frozen (by rw [JE,s];show b < _;omega)),((Jg _ _).frozen (by rw [s];exact m1)),e]
end
section
open Go.RowKit Fx
def Jc3 (f:Bool) (a b c:Option Int) (x y z:Int) (g:Bool):Prop:=
 x = cond (a.isNone || b.isNone || c.isNone) 0 (a.getD 0)/\y = cond (a.isNone || b.isNone || c.isNone) 0 (b.getD 0)/\z = cond (a.isNone || b.isNone || c.isNone) 0 (c.getD 0)/\g = (f || (a.isNone || b.isNone || c.isNone))
theorem Jqt {f g:Bool} {a b c:Option Int} (h:g = (false || (a.isNone || b.isNone || c.isNone))):Jc3 f a b c (cond g 0 (a.getD 0)) (cond g 0 (b.getD 0)) (cond g 0 (c.getD 0)) (f || g):=by
 rw [Bool.false_or] at h
 subst h
 exact ⟨rfl,rfl,rfl,rfl⟩
theorem Jmo {b off:Nat} {g:Bool} {w w':World} (h:Below w.heap.size w w') (hc:w.cell? ⟨b,off,none⟩ = some (.bool g)) (hf:w.frozen? ⟨b,off,none⟩ = false):After ⟨b,off,none⟩ (g || false) w w':=Jb9 (o:=some 0) h hc hf
theorem Jp7 {w:World} {b:Nat} {x y z:Int} (h0:w.cell? ⟨b,0,none⟩ = some (J Y x)) (h1:w.cell? ⟨b,1,none⟩ = some (J Y y)) (h2:w.cell? ⟨b,2,none⟩ = some (J Y z)):Jd9 w (some ⟨b,0,none⟩) [x,y,z]:=
 Or.inr ⟨b,0,rfl,fun k hk=>by
  match k,hk with
  | 0,_=>exact h0
  | 1,_=>exact h1
  | 2,_=>exact h2⟩
theorem Jhe (b off:Nat) (f:Bool) (x0 x1 x2 y0 y1 y2:Int) (W:World) (hc:W.cell? ⟨b,off,none⟩ = some (.bool f)) (hf:W.frozen? ⟨b,off,none⟩ = false) :
  Calls Tryz.prog 137 #[.pointer (some ⟨b,off,none⟩),.agg #[J Y x0,J Y x1,J Y x2],.agg #[J Y y0,J Y y1,J Y y2]] W fun e W'=>∃ v g,e = .returned (J Y v)/\Hid (Ja7 f (dot [x0,x1,x2] [y0,y1,y2]) v g)/\Hid (After ⟨b,off,none⟩ g W W'):=by
 have m1:b < W.heap.size:=JB _ _ hc
 have HC:Hid _:=hc
 have HF:Hid _:=hf
 clear hc hf
 go_enter func137,ntmps137
 go_wp2_with (fail)
 refine (Jau b off f [x0,x1,x2] [y0,y1,y2] _ _ 3 3 _ (by rw [World.cell?_alloc_past _ _ _ (by simp;omega),World.cell?_alloc_past _ _ _ (by simp;omega),World.cell?_alloc_past _ _ _ (by simp;omega),World.cell?_alloc_past _ _ _ m1];exact HC.out) (by rw [((Jg _ _).frozen (by simp;omega)),((Jg _ _).frozen (by simp;omega)),((Jg _ _).frozen (by simp;omega)),((Jg _ _).frozen m1)];exact HF.out) (by simp) (by simp) (Jp7 (by simp [go_sem]) (by simp [go_sem]) (by simp [go_sem])) (Jp7 (by simp [go_sem]) (by simp [go_sem]) (by simp [go_sem]))).mono ?_
 rintro e W1 ⟨v,g,rfl,S,A⟩
 have HA:Hid (After ⟨b,off,none⟩ g W W1):=(((((Leaves.refl _ _).alloc _).alloc _).alloc _).alloc _).same A.out |>.done A.out.cell A.out.frozen
 clear A
 go_wp2_with (fail)
 go_ret
 exact ⟨v,g,rfl,S,HA⟩
theorem Jmk (n:Int) (W:World):Calls Tryz.prog 107 #[J Y n] W fun e W'=>e = .returned (.agg #[J Y n,J Y n,J Y n])/\Hid (Below W.heap.size W W'):=by
 go_enter func107,ntmps107
 go_wp2
 go_returns
 exact ⟨rfl,by show Below _ _ _;go_grown⟩
theorem Jqf (b off:Nat) (f:Bool) (x0 x1 x2 y0 y1 y2:Int) (W:World) (hc:W.cell? ⟨b,off,none⟩ = some (.bool f)) (hf:W.frozen? ⟨b,off,none⟩ = false) :
  Calls Tryz.prog 53 #[.pointer (some ⟨b,off,none⟩),.agg #[J Y x0,J Y x1,J Y x2],.agg #[J Y y0,J Y y1,J Y y2]] W fun e W'=>∃ v0 v1 v2 g,e = .returned (.agg #[J Y v0,J Y v1,J Y v2])/\Hid (Jc3 f (add x0 y0) (add x1 y1) (add x2 y2) v0 v1 v2 g)/\Hid (After ⟨b,off,none⟩ g W W'):=by
 have m1:b < W.heap.size:=JB _ _ hc
 have HC:Hid _:=hc
 have HF:Hid _:=hf
 clear hc hf
 go_enter func53,ntmps53
 go_wp2_with (fail)
 refine (Jja (W.heap.size + 1 + 1 + 1) false _ _ _ _ _ _ _ (by simp [go_sem]) (by simp [go_sem])).mono ?_
 rintro e W1 ⟨g,rfl,SG,A⟩
 have hp:=A.out.cellOf (q:=⟨b,off,none⟩) (v:=.bool f) (by rw [World.cell?_alloc_past _ _ _ (by simp;omega),World.cell?_alloc_past _ _ _ (by simp;omega),World.cell?_alloc_past _ _ _ (by simp;omega),World.cell?_alloc_past _ _ _ m1];exact HC.out) (by simp;omega)
 have hpf:=A.out.frozenOf (q:=⟨b,off,none⟩) (v:=.bool f) (by rw [World.cell?_alloc_past _ _ _ (by simp;omega),World.cell?_alloc_past _ _ _ (by simp;omega),World.cell?_alloc_past _ _ _ (by simp;omega),World.cell?_alloc_past _ _ _ m1];exact HC.out) (by rw [((Jg _ _).frozen (by simp;omega)),((Jg _ _).frozen (by simp;omega)),((Jg _ _).frozen (by simp;omega)),((Jg _ _).frozen m1)];exact HF.out) (by simp;omega)
 have HL:Hid (Leaves ⟨b,off,none⟩ W W1):=(((((Leaves.refl _ _).alloc _).alloc _).alloc _).alloc _).after A.out (by simp;omega)
 have ho:=A.out.cell
 have r0:=A.out.cellOf (q:=⟨W.heap.size + 1 + 1,0,none⟩) (v:=J Y 0) (by simp [go_sem]) (by simp)
 have r1:=A.out.cellOf (q:=⟨W.heap.size + 1 + 1,1,none⟩) (v:=J Y 0) (by simp [go_sem]) (by simp)
 have r2:=A.out.cellOf (q:=⟨W.heap.size + 1 + 1,2,none⟩) (v:=J Y 0) (by simp [go_sem]) (by simp)
 have f0:=A.out.frozenOf (q:=⟨W.heap.size + 1 + 1,0,none⟩) (v:=J Y 0) (by simp [go_sem]) (by simp [go_sem]) (by simp)
 have f1:=A.out.frozenOf (q:=⟨W.heap.size + 1 + 1,1,none⟩) (v:=J Y 0) (by simp [go_sem]) (by simp [go_sem]) (by simp)
 have f2:=A.out.frozenOf (q:=⟨W.heap.size + 1 + 1,2,none⟩) (v:=J Y 0) (by simp [go_sem]) (by simp [go_sem]) (by simp)
 clear A HC HF
 go_wp2_with (fail)
 refine (Jez b off (W.heap.size + 1 + 1 + 1) f g _ _ _ W1 hp hpf ho).mono ?_
 rintro e W2 ⟨rfl,A⟩
 have HL2:Hid (Leaves ⟨b,off,none⟩ W W2):=HL.out.same A.out
 have hp:=A.out.cell
 have hpf:=A.out.frozen
 have f0:=A.out.frozenOf r0 f0 (by simp;omega)
 have f1:=A.out.frozenOf r1 f1 (by simp;omega)
 have f2:=A.out.frozenOf r2 f2 (by simp;omega)
 have r0:=A.out.cellOf r0 (by simp;omega)
 have r1:=A.out.cellOf r1 (by simp;omega)
 have r2:=A.out.cellOf r2 (by simp;omega)
 have n1:b ≠ W.heap.size + 1 + 1:=by omega
 have n2:W.heap.size + 1 + 1 ≠ b:=by omega
 clear A HL
 go_wp2_with (fail)
 refine bodyPost_ret (by simp [results,results53,go_sem,r0,r1,r2];try rfl) rfl ?_
 refine ⟨_,_,_,_,rfl,Jqt SG.out,(((HL2.out.set (by simp;omega) _).set (by simp;omega) _).set (by simp;omega) _).done ?_ ?_⟩
 ·simp [go_sem,hp]
 ·simp [go_sem,hpf]
end
end Go.Proofs.YteebbpioffdncaaGreat
