/- Package vec's inner functions that do the same with each part, for any method value. -/
import Derived.Test.YtpjaacpcdomfiaaGreatSBTells0
import Derived.Test.YtpjaacpcdomfiaaGreatSBTells2
import Derived.Test.YtpjaacpcdomfiaaGreatSBTells1
import Derived.Test.YtpjaacpcdomfiaaGreatSBTells3
import Derived.Deep.RegionHeld3
set_option maxHeartbeats 4000000
set_option maxRecDepth 100000
set_option linter.unusedVariables false
namespace Go.Proofs.YtpjaacpcdomfiaaGreat
section
open Go.RowKit Go.Shelf Fx
theorem each_gen (gf:Nat) (fv:Int->Int->Option Int) (fb:Nat) (eg:∀ args w,(callFunc gf args).run Tryz.prog w = .ok (.enter gf args) w)
  (hcon:∀ (x y:Int) (g:Bool) (w:World),w.cell? ⟨fb,0,none⟩ = some (.bool g)->w.frozen? ⟨fb,0,none⟩ = false->Calls Tryz.prog gf #[.pointer (some ⟨fb,0,none⟩),.int .i64 x,.int .i64 y] w fun e w'=>e = .returned (.int .i64 ((fv x y).getD 0))/\Hid (After ⟨fb,0,none⟩ (g || (fv x y).isNone) w w'))
  (f:Bool) (xa0 xa1 xa2 ya0 ya1 ya2:Int) (W:World) (hc:W.cell? ⟨fb,0,none⟩ = some (.bool f)) (hf:W.frozen? ⟨fb,0,none⟩ = false) :
  Calls Tryz.prog 115 #[.func (.func gf) #[.pointer (some ⟨fb,0,none⟩)] #[],.agg #[.int .i64 xa0,.int .i64 xa1,.int .i64 xa2],.agg #[.int .i64 ya0,.int .i64 ya1,.int .i64 ya2]] W fun e W'=>∃ g,e = .returned (.agg #[.int .i64 ((fv xa0 ya0).getD 0),.int .i64 ((fv xa1 ya1).getD 0),.int .i64 ((fv xa2 ya2).getD 0)])/\Hid (g = (f || ((fv xa0 ya0).isNone || (fv xa1 ya1).isNone || (fv xa2 ya2).isNone)))/\Hid (After ⟨fb,0,none⟩ g W W'):=by
 have hbW:fb < W.heap.size:=World.block_lt_of_cell? _ _ hc
 obtain ⟨V,hV⟩:∃ V,V = (((W.alloc (.cells #[.int .i64 xa0,.int .i64 xa1,.int .i64 xa2] 23)).alloc (.cells #[.int .i64 ya0,.int .i64 ya1,.int .i64 ya2] 23)).alloc (.cells #[.int .i64 0,.int .i64 0,.int .i64 0] 23)):=⟨_,rfl⟩
 have hb0:=n_after W (.cells #[.int .i64 xa0,.int .i64 xa1,.int .i64 xa2] 23)
 have hb1:=n_after (W.alloc (.cells #[.int .i64 xa0,.int .i64 xa1,.int .i64 xa2] 23)) (.cells #[.int .i64 ya0,.int .i64 ya1,.int .i64 ya2] 23)
 have hb2:=n_after ((W.alloc (.cells #[.int .i64 xa0,.int .i64 xa1,.int .i64 xa2] 23)).alloc (.cells #[.int .i64 ya0,.int .i64 ya1,.int .i64 ya2] 23)) (.cells #[.int .i64 0,.int .i64 0,.int .i64 0] 23)
 have CA:CW V (W.heap.size) [.int .i64 xa0,.int .i64 xa1,.int .i64 xa2]:=by
  have h9:=((CW.new W [.int .i64 xa0,.int .i64 xa1,.int .i64 xa2] 23).step hb1).step hb2
  rw [hV];exact h9
 have CB:CW V (W.heap.size + 1) [.int .i64 ya0,.int .i64 ya1,.int .i64 ya2]:=by
  have h9:=(CW.new (W.alloc (.cells #[.int .i64 xa0,.int .i64 xa1,.int .i64 xa2] 23)) [.int .i64 ya0,.int .i64 ya1,.int .i64 ya2] 23).step hb2
  simp only [World.size_alloc] at h9
  rw [hV];exact h9
 have CR:CW V (W.heap.size + 1 + 1) [.int .i64 0,.int .i64 0,.int .i64 0]:=by
  have h9:=CW.new ((W.alloc (.cells #[.int .i64 xa0,.int .i64 xa1,.int .i64 xa2] 23)).alloc (.cells #[.int .i64 ya0,.int .i64 ya1,.int .i64 ya2] 23)) [.int .i64 0,.int .i64 0,.int .i64 0] 23
  simp only [World.size_alloc] at h9
  rw [hV];exact h9
 have hB:Below W.heap.size W V:=by rw [hV];exact (b_step (b_step hb0 hb1) hb2)
 have hcV:=c_after hB hc
 have hfV:=f_after hB hc hf
 have HLV:Hid (Leaves ⟨fb,0,none⟩ W V):=(Leaves.refl _ _).step hB
 clear hb0 hb1 hb2
 clear hc hf hB
 go_enter Tryz.func115,Tryz.ntmps115
 go_upto_region 1 with fail
 rw [<- hV]
 clear hV
 obtain ⟨pr,hpr⟩:∃ p,p = W.heap.size + 1 + 1:=⟨_,rfl⟩
 obtain ⟨pb,hpb⟩:∃ p,p = W.heap.size + 1:=⟨_,rfl⟩
 obtain ⟨pa,hpa⟩:∃ p,p = W.heap.size:=⟨_,rfl⟩
 rw [<- hpr] at CR
 rw [<- hpb] at CB
 rw [<- hpa] at CA
 rw [<- hpr,<- hpb,<- hpa]
 have na:pa ≠ fb:=by omega
 have nb:pb ≠ fb:=by omega
 have nr:pr ≠ fb:=by omega
 have nr':fb ≠ pr:=by omega
 have hpr9:W.heap.size <= pr:=by omega
 clear hpr hpa hpb hbW
 have hpr:=hpr9
 refine RV.rs [.some (.func (.func gf) #[.pointer (some ⟨fb,0,none⟩)] #[]),.some (.pointer (some ⟨pa,0,none⟩)),.some (.int .i64 xa0),.some (.pointer (some ⟨pb,0,none⟩)),.some (.int .i64 ya0),.some (.int .i64 ((fv xa0 ya0).getD 0)),.some (.func (.func gf) #[.pointer (some ⟨fb,0,none⟩)] #[]),.some (.pointer (some ⟨pa,1,none⟩)),.some (.int .i64 xa1),.some (.pointer (some ⟨pb,1,none⟩)),.some (.int .i64 ya1),.some (.int .i64 ((fv xa1 ya1).getD 0)),.some (.func (.func gf) #[.pointer (some ⟨fb,0,none⟩)] #[]),.some (.pointer (some ⟨pa,2,none⟩)),.some (.int .i64 xa2),.some (.pointer (some ⟨pb,2,none⟩)),.some (.int .i64 ya2),.some (.int .i64 ((fv xa2 ya2).getD 0)),.some (.agg #[.int .i64 ((fv xa0 ya0).getD 0),.int .i64 ((fv xa1 ya1).getD 0),.int .i64 ((fv xa2 ya2).getD 0)]),none] [8,9,10,11,12,13,14,15,16,17,18,19,20,21,22,23,24,25,26,0] [(0,.func (.func gf) #[.pointer (some ⟨fb,0,none⟩)] #[]),(4,.pointer (some ⟨pa,0,none⟩)),(5,.pointer (some ⟨pb,0,none⟩)),(6,.pointer (some ⟨pr,0,none⟩))] (fun γ L w9=>FGS V ⟨fb,0,none⟩ f [(5,(fv xa0 ya0).isNone),(11,(fv xa1 ya1).isNone),(17,(fv xa2 ya2).isNone)] 19 (fun w=>(((w.setCell ⟨pr,0,none⟩ (.int .i64 ((fv xa0 ya0).getD 0))).setCell ⟨pr,1,none⟩ (.int .i64 ((fv xa1 ya1).getD 0))).setCell ⟨pr,2,none⟩ (.int .i64 ((fv xa2 ya2).getD 0)))) L w9) ⟨rfl,rfl,rfl,rfl,trivial⟩ ?_ ?_ ?_
 ·exact FGS.start hcV hfV
 ·intro D WA Z hD hWA hZ T
  simp only [RV.Outs,RV.Slots,Nat.reduceAdd] at T
  iterate 5 first
   | (refine RV.cc _ (RV.pu T (fun γ v L w hl h=>h.stay (by decide) rfl) (fun γ L a w hH hl h9 k9=>⟨_,?_,rfl⟩)) ?_;· simp [execOp,go_sem,h9])
   | (refine RV.cc _ (RV.pu T (fun γ v L w hl h=>h.stay (by decide) rfl) (fun γ L a w hH hl h9 k9=>⟨_,?_,rfl⟩)) ?_;· have hG:=hH.glob.early (RV.ny hH (RV.wt (j:=19) hWA (by kernel_rfl)) hl);have q0:=hG.at (CA 0 _ rfl).1 na;have q1:=hG.at (CB 0 _ rfl).1 nb;simp [Region.binds] at k9;simp [execOp,go_sem,h9,k9,q0,q1])
  refine RV.cc _ (RV.dc (fun γ L a w hH hl hA=>by have h9:=T γ L a w hH;have k9:=hA;simp [Region.binds] at k9;have hG:=hH.glob.early (RV.ny hH (RV.wt (j:=19) (i:=5) hWA (by kernel_rfl)) hl);exact ⟨gf,#[.pointer (some ⟨fb,0,none⟩),.int .i64 xa0,.int .i64 ya0],by simp [go_sem,eg,h9,k9],Calls.mono (hcon xa0 ya0 _ w hG.cell hG.frozen) (by rintro e w2 ⟨rfl,ha⟩;exact ⟨_,rfl,rfl,fun j v _ h=>h.keep _,FGS.come hG (by decide) (RV.ny hH (RV.wt (j:=19) (i:=5) hWA (by kernel_rfl)) hl) hl rfl ha.out⟩)⟩)) ?_
  iterate 5 first
   | (refine RV.cc _ (RV.pu T (fun γ v L w hl h=>h.stay (by decide) rfl) (fun γ L a w hH hl h9 k9=>⟨_,?_,rfl⟩)) ?_;· simp [execOp,go_sem,h9])
   | (refine RV.cc _ (RV.pu T (fun γ v L w hl h=>h.stay (by decide) rfl) (fun γ L a w hH hl h9 k9=>⟨_,?_,rfl⟩)) ?_;· have hG:=hH.glob.early (RV.ny hH (RV.wt (j:=19) hWA (by kernel_rfl)) hl);have q0:=hG.at (CA 1 _ rfl).1 na;have q1:=hG.at (CB 1 _ rfl).1 nb;simp [Region.binds] at k9;simp [execOp,go_sem,h9,k9,q0,q1])
  refine RV.cc _ (RV.dc (fun γ L a w hH hl hA=>by have h9:=T γ L a w hH;have k9:=hA;simp [Region.binds] at k9;have hG:=hH.glob.early (RV.ny hH (RV.wt (j:=19) (i:=11) hWA (by kernel_rfl)) hl);exact ⟨gf,#[.pointer (some ⟨fb,0,none⟩),.int .i64 xa1,.int .i64 ya1],by simp [go_sem,eg,h9,k9],Calls.mono (hcon xa1 ya1 _ w hG.cell hG.frozen) (by rintro e w2 ⟨rfl,ha⟩;exact ⟨_,rfl,rfl,fun j v _ h=>h.keep _,FGS.come hG (by decide) (RV.ny hH (RV.wt (j:=19) (i:=11) hWA (by kernel_rfl)) hl) hl rfl ha.out⟩)⟩)) ?_
  iterate 5 first
   | (refine RV.cc _ (RV.pu T (fun γ v L w hl h=>h.stay (by decide) rfl) (fun γ L a w hH hl h9 k9=>⟨_,?_,rfl⟩)) ?_;· simp [execOp,go_sem,h9])
   | (refine RV.cc _ (RV.pu T (fun γ v L w hl h=>h.stay (by decide) rfl) (fun γ L a w hH hl h9 k9=>⟨_,?_,rfl⟩)) ?_;· have hG:=hH.glob.early (RV.ny hH (RV.wt (j:=19) hWA (by kernel_rfl)) hl);have q0:=hG.at (CA 2 _ rfl).1 na;have q1:=hG.at (CB 2 _ rfl).1 nb;simp [Region.binds] at k9;simp [execOp,go_sem,h9,k9,q0,q1])
  refine RV.cc _ (RV.dc (fun γ L a w hH hl hA=>by have h9:=T γ L a w hH;have k9:=hA;simp [Region.binds] at k9;have hG:=hH.glob.early (RV.ny hH (RV.wt (j:=19) (i:=17) hWA (by kernel_rfl)) hl);exact ⟨gf,#[.pointer (some ⟨fb,0,none⟩),.int .i64 xa2,.int .i64 ya2],by simp [go_sem,eg,h9,k9],Calls.mono (hcon xa2 ya2 _ w hG.cell hG.frozen) (by rintro e w2 ⟨rfl,ha⟩;exact ⟨_,rfl,rfl,fun j v _ h=>h.keep _,FGS.come hG (by decide) (RV.ny hH (RV.wt (j:=19) (i:=17) hWA (by kernel_rfl)) hl) hl rfl ha.out⟩)⟩)) ?_
  (refine RV.cc _ (RV.pu T (fun γ v L w hl h=>h.stay (by decide) rfl) (fun γ L a w hH hl h9 k9=>⟨_,?_,rfl⟩)) ?_;· simp [Region.binds] at k9;simp [execOp,go_sem,h9,k9])
  refine RV.cc _ (RV.does_store (fun γ L a w hH hl hA=>by have h9:=T γ L a w hH;have k9:=hA;simp [Region.binds] at k9;have hG:=hH.glob.early hl;have z0:=hG.at (CR 0 _ rfl).1 nr;have zf0:=hG.open (CR 0 _ rfl).1 (CR 0 _ rfl).2 nr;have z1:=hG.at (CR 1 _ rfl).1 nr;have zf1:=hG.open (CR 1 _ rfl).1 (CR 1 _ rfl).2 nr;have z2:=hG.at (CR 2 _ rfl).1 nr;have zf2:=hG.open (CR 2 _ rfl).1 (CR 2 _ rfl).2 nr;exact ⟨(((w.setCell ⟨pr,0,none⟩ (.int .i64 ((fv xa0 ya0).getD 0))).setCell ⟨pr,1,none⟩ (.int .i64 ((fv xa1 ya1).getD 0))).setCell ⟨pr,2,none⟩ (.int .i64 ((fv xa2 ya2).getD 0))),by simp [execOp,go_sem,z0,zf0,z1,zf1,z2,zf2,h9,k9],trivial,fun j v _ h=>h.keep _,FGS.store (S:=fun w=>(((w.setCell ⟨pr,0,none⟩ (.int .i64 ((fv xa0 ya0).getD 0))).setCell ⟨pr,1,none⟩ (.int .i64 ((fv xa1 ya1).getD 0))).setCell ⟨pr,2,none⟩ (.int .i64 ((fv xa2 ya2).getD 0)))) hG rfl⟩)) ?_
  exact RV.AllDo.nil
 ·intro γ w5 L9 hL hI9 hG9
  obtain ⟨w8,hF8,rfl⟩:=hG9.late (hL 19 (by decide))
  have hFL:orL f [(5,(fv xa0 ya0).isNone),(11,(fv xa1 ya1).isNone),(17,(fv xa2 ya2).isNone)] L9 = (f || ((fv xa0 ya0).isNone || (fv xa1 ya1).isNone || (fv xa2 ya2).isNone)):=by unfold orL;simp only [List.any_cons,List.any_nil,hL 5 (by decide),hL 11 (by decide),hL 17 (by decide),Bool.true_and,Bool.or_false,Bool.or_assoc]
  have HA8:Hid (After _ _ _ _):=hF8.leaves.done hF8.cell hF8.frozen
  rw [hFL] at HA8
  clear hF8 hFL
  clear hL hI9 hG9
  simp only [RV.putL,Act.put,List.setIfInBounds_toArray,List.set_cons_zero,List.set_cons_succ]
  have C1:Hid (CW w8 pr _):=(CR.leaves HA8.out.leaves nr)
  have HL:Hid (Leaves ⟨fb,0,none⟩ W _):=HLV.out.same HA8.out
  have hc8:=HA8.out.cell
  have hf8:=HA8.out.frozen
  obtain ⟨r0,q0⟩:=C1.out 0 _ rfl
  obtain ⟨r1,q1⟩:=C1.out 1 _ rfl
  obtain ⟨r2,q2⟩:=C1.out 2 _ rfl
  clear C1 HA8
  go_wp2_with (fail)
  refine bodyPost_ret (by simp [results,Tryz.results115,go_sem,r0,r1,r2];try rfl) rfl ?_
  refine ⟨_,rfl,rfl,(((HL.out.set hpr _).set hpr _).set hpr _).done ?_ ?_⟩
  ·simp [go_sem,hc8]
  ·simp [go_sem,hf8]
theorem each_add_any (b:Nat) (f:Bool) (x0 x1 x2 y0 y1 y2:Int) (W:World) (hc:W.cell? ⟨b,0,none⟩ = some (.bool f)) (hf:W.frozen? ⟨b,0,none⟩ = false) :
  Calls Tryz.prog 115 #[.func (.func 105) #[.pointer (some ⟨b,0,none⟩)] #[],.agg #[.int .i64 x0,.int .i64 x1,.int .i64 x2],.agg #[.int .i64 y0,.int .i64 y1,.int .i64 y2]] W fun e W' =>
   ∃ g,e = .returned (.agg #[.int .i64 ((add x0 y0).getD 0),.int .i64 ((add x1 y1).getD 0),.int .i64 ((add x2 y2).getD 0)])/\Hid (g = (f || ((add x0 y0).isNone || (add x1 y1).isNone || (add x2 y2).isNone)))/\Hid (After ⟨b,0,none⟩ g W W'):=
 each_gen 105 (add) b (enters_of Tryz.func105 (by kernel_rfl) rfl) (fun x y g w h1 h2=>by
  refine Calls.mono (add_law b 0 g x y w h1 h2) ?_
  rintro e w' ⟨v0,g0,rfl,SS,A⟩
  obtain ⟨rfl,rfl⟩:=SS.out
  exact ⟨rfl,A⟩) f x0 x1 x2 y0 y1 y2 W hc hf
theorem each_sub_any (b:Nat) (f:Bool) (x0 x1 x2 y0 y1 y2:Int) (W:World) (hc:W.cell? ⟨b,0,none⟩ = some (.bool f)) (hf:W.frozen? ⟨b,0,none⟩ = false) :
  Calls Tryz.prog 115 #[.func (.func 106) #[.pointer (some ⟨b,0,none⟩)] #[],.agg #[.int .i64 x0,.int .i64 x1,.int .i64 x2],.agg #[.int .i64 y0,.int .i64 y1,.int .i64 y2]] W fun e W' =>
   ∃ g,e = .returned (.agg #[.int .i64 ((sub x0 y0).getD 0),.int .i64 ((sub x1 y1).getD 0),.int .i64 ((sub x2 y2).getD 0)])/\Hid (g = (f || ((sub x0 y0).isNone || (sub x1 y1).isNone || (sub x2 y2).isNone)))/\Hid (After ⟨b,0,none⟩ g W W'):=
 each_gen 106 (sub) b (enters_of Tryz.func106 (by kernel_rfl) rfl) (fun x y g w h1 h2=>by
  refine Calls.mono (sub_law b 0 g x y w h1 h2) ?_
  rintro e w' ⟨v0,g0,rfl,SS,A⟩
  obtain ⟨rfl,rfl⟩:=SS.out
  exact ⟨rfl,A⟩) f x0 x1 x2 y0 y1 y2 W hc hf
theorem each_mul_any (b:Nat) (f:Bool) (x0 x1 x2 y0 y1 y2:Int) (W:World) (hc:W.cell? ⟨b,0,none⟩ = some (.bool f)) (hf:W.frozen? ⟨b,0,none⟩ = false) :
  Calls Tryz.prog 115 #[.func (.func 69) #[.pointer (some ⟨b,0,none⟩)] #[],.agg #[.int .i64 x0,.int .i64 x1,.int .i64 x2],.agg #[.int .i64 y0,.int .i64 y1,.int .i64 y2]] W fun e W' =>
   ∃ g,e = .returned (.agg #[.int .i64 ((mul x0 y0).getD 0),.int .i64 ((mul x1 y1).getD 0),.int .i64 ((mul x2 y2).getD 0)])/\Hid (g = (f || ((mul x0 y0).isNone || (mul x1 y1).isNone || (mul x2 y2).isNone)))/\Hid (After ⟨b,0,none⟩ g W W'):=
 each_gen 69 (mul) b (enters_of Tryz.func69 (by kernel_rfl) rfl) (fun x y g w h1 h2=>by
  refine Calls.mono (mul_law b 0 g x y w h1 h2) ?_
  rintro e w' ⟨v0,g0,rfl,SS,A⟩
  obtain ⟨rfl,rfl⟩:=SS.out
  exact ⟨rfl,A⟩) f x0 x1 x2 y0 y1 y2 W hc hf
theorem each4_gen (gf:Nat) (fv:Int->Int->Option Int) (fb:Nat) (eg:∀ args w,(callFunc gf args).run Tryz.prog w = .ok (.enter gf args) w)
  (hcon:∀ (x y:Int) (g:Bool) (w:World),w.cell? ⟨fb,0,none⟩ = some (.bool g)->w.frozen? ⟨fb,0,none⟩ = false->Calls Tryz.prog gf #[.pointer (some ⟨fb,0,none⟩),.int .i64 x,.int .i64 y] w fun e w'=>e = .returned (.int .i64 ((fv x y).getD 0))/\Hid (After ⟨fb,0,none⟩ (g || (fv x y).isNone) w w'))
  (f:Bool) (xa0 xa1 xa2 xa3 ya0 ya1 ya2 ya3:Int) (W:World) (hc:W.cell? ⟨fb,0,none⟩ = some (.bool f)) (hf:W.frozen? ⟨fb,0,none⟩ = false) :
  Calls Tryz.prog 104 #[.func (.func gf) #[.pointer (some ⟨fb,0,none⟩)] #[],.agg #[.int .i64 xa0,.int .i64 xa1,.int .i64 xa2,.int .i64 xa3],.agg #[.int .i64 ya0,.int .i64 ya1,.int .i64 ya2,.int .i64 ya3]] W fun e W'=>∃ g,e = .returned (.agg #[.int .i64 ((fv xa0 ya0).getD 0),.int .i64 ((fv xa1 ya1).getD 0),.int .i64 ((fv xa2 ya2).getD 0),.int .i64 ((fv xa3 ya3).getD 0)])/\Hid (g = (f || ((fv xa0 ya0).isNone || (fv xa1 ya1).isNone || (fv xa2 ya2).isNone || (fv xa3 ya3).isNone)))/\Hid (After ⟨fb,0,none⟩ g W W'):=by
 have hbW:fb < W.heap.size:=World.block_lt_of_cell? _ _ hc
 obtain ⟨V,hV⟩:∃ V,V = (((W.alloc (.cells #[.int .i64 xa0,.int .i64 xa1,.int .i64 xa2,.int .i64 xa3] 25)).alloc (.cells #[.int .i64 ya0,.int .i64 ya1,.int .i64 ya2,.int .i64 ya3] 25)).alloc (.cells #[.int .i64 0,.int .i64 0,.int .i64 0,.int .i64 0] 25)):=⟨_,rfl⟩
 have hb0:=n_after W (.cells #[.int .i64 xa0,.int .i64 xa1,.int .i64 xa2,.int .i64 xa3] 25)
 have hb1:=n_after (W.alloc (.cells #[.int .i64 xa0,.int .i64 xa1,.int .i64 xa2,.int .i64 xa3] 25)) (.cells #[.int .i64 ya0,.int .i64 ya1,.int .i64 ya2,.int .i64 ya3] 25)
 have hb2:=n_after ((W.alloc (.cells #[.int .i64 xa0,.int .i64 xa1,.int .i64 xa2,.int .i64 xa3] 25)).alloc (.cells #[.int .i64 ya0,.int .i64 ya1,.int .i64 ya2,.int .i64 ya3] 25)) (.cells #[.int .i64 0,.int .i64 0,.int .i64 0,.int .i64 0] 25)
 have CA:CW V (W.heap.size) [.int .i64 xa0,.int .i64 xa1,.int .i64 xa2,.int .i64 xa3]:=by
  have h9:=((CW.new W [.int .i64 xa0,.int .i64 xa1,.int .i64 xa2,.int .i64 xa3] 25).step hb1).step hb2
  rw [hV];exact h9
 have CB:CW V (W.heap.size + 1) [.int .i64 ya0,.int .i64 ya1,.int .i64 ya2,.int .i64 ya3]:=by
  have h9:=(CW.new (W.alloc (.cells #[.int .i64 xa0,.int .i64 xa1,.int .i64 xa2,.int .i64 xa3] 25)) [.int .i64 ya0,.int .i64 ya1,.int .i64 ya2,.int .i64 ya3] 25).step hb2
  simp only [World.size_alloc] at h9
  rw [hV];exact h9
 have CR:CW V (W.heap.size + 1 + 1) [.int .i64 0,.int .i64 0,.int .i64 0,.int .i64 0]:=by
  have h9:=CW.new ((W.alloc (.cells #[.int .i64 xa0,.int .i64 xa1,.int .i64 xa2,.int .i64 xa3] 25)).alloc (.cells #[.int .i64 ya0,.int .i64 ya1,.int .i64 ya2,.int .i64 ya3] 25)) [.int .i64 0,.int .i64 0,.int .i64 0,.int .i64 0] 25
  simp only [World.size_alloc] at h9
  rw [hV];exact h9
 have hB:Below W.heap.size W V:=by rw [hV];exact (b_step (b_step hb0 hb1) hb2)
 have hcV:=c_after hB hc
 have hfV:=f_after hB hc hf
 have HLV:Hid (Leaves ⟨fb,0,none⟩ W V):=(Leaves.refl _ _).step hB
 clear hb0 hb1 hb2
 clear hc hf hB
 go_enter Tryz.func104,Tryz.ntmps104
 go_upto_region 1 with fail
 rw [<- hV]
 clear hV
 obtain ⟨pr,hpr⟩:∃ p,p = W.heap.size + 1 + 1:=⟨_,rfl⟩
 obtain ⟨pb,hpb⟩:∃ p,p = W.heap.size + 1:=⟨_,rfl⟩
 obtain ⟨pa,hpa⟩:∃ p,p = W.heap.size:=⟨_,rfl⟩
 rw [<- hpr] at CR
 rw [<- hpb] at CB
 rw [<- hpa] at CA
 rw [<- hpr,<- hpb,<- hpa]
 have na:pa ≠ fb:=by omega
 have nb:pb ≠ fb:=by omega
 have nr:pr ≠ fb:=by omega
 have nr':fb ≠ pr:=by omega
 have hpr9:W.heap.size <= pr:=by omega
 clear hpr hpa hpb hbW
 have hpr:=hpr9
 refine RV.rs [.some (.func (.func gf) #[.pointer (some ⟨fb,0,none⟩)] #[]),.some (.pointer (some ⟨pa,0,none⟩)),.some (.int .i64 xa0),.some (.pointer (some ⟨pb,0,none⟩)),.some (.int .i64 ya0),.some (.int .i64 ((fv xa0 ya0).getD 0)),.some (.func (.func gf) #[.pointer (some ⟨fb,0,none⟩)] #[]),.some (.pointer (some ⟨pa,1,none⟩)),.some (.int .i64 xa1),.some (.pointer (some ⟨pb,1,none⟩)),.some (.int .i64 ya1),.some (.int .i64 ((fv xa1 ya1).getD 0)),.some (.func (.func gf) #[.pointer (some ⟨fb,0,none⟩)] #[]),.some (.pointer (some ⟨pa,2,none⟩)),.some (.int .i64 xa2),.some (.pointer (some ⟨pb,2,none⟩)),.some (.int .i64 ya2),.some (.int .i64 ((fv xa2 ya2).getD 0)),.some (.func (.func gf) #[.pointer (some ⟨fb,0,none⟩)] #[]),.some (.pointer (some ⟨pa,3,none⟩)),.some (.int .i64 xa3),.some (.pointer (some ⟨pb,3,none⟩)),.some (.int .i64 ya3),.some (.int .i64 ((fv xa3 ya3).getD 0)),.some (.agg #[.int .i64 ((fv xa0 ya0).getD 0),.int .i64 ((fv xa1 ya1).getD 0),.int .i64 ((fv xa2 ya2).getD 0),.int .i64 ((fv xa3 ya3).getD 0)]),none] [8,9,10,11,12,13,14,15,16,17,18,19,20,21,22,23,24,25,26,27,28,29,30,31,32,0] [(0,.func (.func gf) #[.pointer (some ⟨fb,0,none⟩)] #[]),(4,.pointer (some ⟨pa,0,none⟩)),(5,.pointer (some ⟨pb,0,none⟩)),(6,.pointer (some ⟨pr,0,none⟩))] (fun γ L w9=>FGS V ⟨fb,0,none⟩ f [(5,(fv xa0 ya0).isNone),(11,(fv xa1 ya1).isNone),(17,(fv xa2 ya2).isNone),(23,(fv xa3 ya3).isNone)] 25 (fun w=>((((w.setCell ⟨pr,0,none⟩ (.int .i64 ((fv xa0 ya0).getD 0))).setCell ⟨pr,1,none⟩ (.int .i64 ((fv xa1 ya1).getD 0))).setCell ⟨pr,2,none⟩ (.int .i64 ((fv xa2 ya2).getD 0))).setCell ⟨pr,3,none⟩ (.int .i64 ((fv xa3 ya3).getD 0)))) L w9) ⟨rfl,rfl,rfl,rfl,trivial⟩ ?_ ?_ ?_
 ·exact FGS.start hcV hfV
 ·intro D WA Z hD hWA hZ T
  simp only [RV.Outs,RV.Slots,Nat.reduceAdd] at T
  iterate 5 first
   | (refine RV.cc _ (RV.pu T (fun γ v L w hl h=>h.stay (by decide) rfl) (fun γ L a w hH hl h9 k9=>⟨_,?_,rfl⟩)) ?_;· simp [execOp,go_sem,h9])
   | (refine RV.cc _ (RV.pu T (fun γ v L w hl h=>h.stay (by decide) rfl) (fun γ L a w hH hl h9 k9=>⟨_,?_,rfl⟩)) ?_;· have hG:=hH.glob.early (RV.ny hH (RV.wt (j:=25) hWA (by kernel_rfl)) hl);have q0:=hG.at (CA 0 _ rfl).1 na;have q1:=hG.at (CB 0 _ rfl).1 nb;simp [Region.binds] at k9;simp [execOp,go_sem,h9,k9,q0,q1])
  refine RV.cc _ (RV.dc (fun γ L a w hH hl hA=>by have h9:=T γ L a w hH;have k9:=hA;simp [Region.binds] at k9;have hG:=hH.glob.early (RV.ny hH (RV.wt (j:=25) (i:=5) hWA (by kernel_rfl)) hl);exact ⟨gf,#[.pointer (some ⟨fb,0,none⟩),.int .i64 xa0,.int .i64 ya0],by simp [go_sem,eg,h9,k9],Calls.mono (hcon xa0 ya0 _ w hG.cell hG.frozen) (by rintro e w2 ⟨rfl,ha⟩;exact ⟨_,rfl,rfl,fun j v _ h=>h.keep _,FGS.come hG (by decide) (RV.ny hH (RV.wt (j:=25) (i:=5) hWA (by kernel_rfl)) hl) hl rfl ha.out⟩)⟩)) ?_
  iterate 5 first
   | (refine RV.cc _ (RV.pu T (fun γ v L w hl h=>h.stay (by decide) rfl) (fun γ L a w hH hl h9 k9=>⟨_,?_,rfl⟩)) ?_;· simp [execOp,go_sem,h9])
   | (refine RV.cc _ (RV.pu T (fun γ v L w hl h=>h.stay (by decide) rfl) (fun γ L a w hH hl h9 k9=>⟨_,?_,rfl⟩)) ?_;· have hG:=hH.glob.early (RV.ny hH (RV.wt (j:=25) hWA (by kernel_rfl)) hl);have q0:=hG.at (CA 1 _ rfl).1 na;have q1:=hG.at (CB 1 _ rfl).1 nb;simp [Region.binds] at k9;simp [execOp,go_sem,h9,k9,q0,q1])
  refine RV.cc _ (RV.dc (fun γ L a w hH hl hA=>by have h9:=T γ L a w hH;have k9:=hA;simp [Region.binds] at k9;have hG:=hH.glob.early (RV.ny hH (RV.wt (j:=25) (i:=11) hWA (by kernel_rfl)) hl);exact ⟨gf,#[.pointer (some ⟨fb,0,none⟩),.int .i64 xa1,.int .i64 ya1],by simp [go_sem,eg,h9,k9],Calls.mono (hcon xa1 ya1 _ w hG.cell hG.frozen) (by rintro e w2 ⟨rfl,ha⟩;exact ⟨_,rfl,rfl,fun j v _ h=>h.keep _,FGS.come hG (by decide) (RV.ny hH (RV.wt (j:=25) (i:=11) hWA (by kernel_rfl)) hl) hl rfl ha.out⟩)⟩)) ?_
  iterate 5 first
   | (refine RV.cc _ (RV.pu T (fun γ v L w hl h=>h.stay (by decide) rfl) (fun γ L a w hH hl h9 k9=>⟨_,?_,rfl⟩)) ?_;· simp [execOp,go_sem,h9])
   | (refine RV.cc _ (RV.pu T (fun γ v L w hl h=>h.stay (by decide) rfl) (fun γ L a w hH hl h9 k9=>⟨_,?_,rfl⟩)) ?_;· have hG:=hH.glob.early (RV.ny hH (RV.wt (j:=25) hWA (by kernel_rfl)) hl);have q0:=hG.at (CA 2 _ rfl).1 na;have q1:=hG.at (CB 2 _ rfl).1 nb;simp [Region.binds] at k9;simp [execOp,go_sem,h9,k9,q0,q1])
  refine RV.cc _ (RV.dc (fun γ L a w hH hl hA=>by have h9:=T γ L a w hH;have k9:=hA;simp [Region.binds] at k9;have hG:=hH.glob.early (RV.ny hH (RV.wt (j:=25) (i:=17) hWA (by kernel_rfl)) hl);exact ⟨gf,#[.pointer (some ⟨fb,0,none⟩),.int .i64 xa2,.int .i64 ya2],by simp [go_sem,eg,h9,k9],Calls.mono (hcon xa2 ya2 _ w hG.cell hG.frozen) (by rintro e w2 ⟨rfl,ha⟩;exact ⟨_,rfl,rfl,fun j v _ h=>h.keep _,FGS.come hG (by decide) (RV.ny hH (RV.wt (j:=25) (i:=17) hWA (by kernel_rfl)) hl) hl rfl ha.out⟩)⟩)) ?_
  iterate 5 first
   | (refine RV.cc _ (RV.pu T (fun γ v L w hl h=>h.stay (by decide) rfl) (fun γ L a w hH hl h9 k9=>⟨_,?_,rfl⟩)) ?_;· simp [execOp,go_sem,h9])
   | (refine RV.cc _ (RV.pu T (fun γ v L w hl h=>h.stay (by decide) rfl) (fun γ L a w hH hl h9 k9=>⟨_,?_,rfl⟩)) ?_;· have hG:=hH.glob.early (RV.ny hH (RV.wt (j:=25) hWA (by kernel_rfl)) hl);have q0:=hG.at (CA 3 _ rfl).1 na;have q1:=hG.at (CB 3 _ rfl).1 nb;simp [Region.binds] at k9;simp [execOp,go_sem,h9,k9,q0,q1])
  refine RV.cc _ (RV.dc (fun γ L a w hH hl hA=>by have h9:=T γ L a w hH;have k9:=hA;simp [Region.binds] at k9;have hG:=hH.glob.early (RV.ny hH (RV.wt (j:=25) (i:=23) hWA (by kernel_rfl)) hl);exact ⟨gf,#[.pointer (some ⟨fb,0,none⟩),.int .i64 xa3,.int .i64 ya3],by simp [go_sem,eg,h9,k9],Calls.mono (hcon xa3 ya3 _ w hG.cell hG.frozen) (by rintro e w2 ⟨rfl,ha⟩;exact ⟨_,rfl,rfl,fun j v _ h=>h.keep _,FGS.come hG (by decide) (RV.ny hH (RV.wt (j:=25) (i:=23) hWA (by kernel_rfl)) hl) hl rfl ha.out⟩)⟩)) ?_
  (refine RV.cc _ (RV.pu T (fun γ v L w hl h=>h.stay (by decide) rfl) (fun γ L a w hH hl h9 k9=>⟨_,?_,rfl⟩)) ?_;· simp [Region.binds] at k9;simp [execOp,go_sem,h9,k9])
  refine RV.cc _ (RV.does_store (fun γ L a w hH hl hA=>by have h9:=T γ L a w hH;have k9:=hA;simp [Region.binds] at k9;have hG:=hH.glob.early hl;have z0:=hG.at (CR 0 _ rfl).1 nr;have zf0:=hG.open (CR 0 _ rfl).1 (CR 0 _ rfl).2 nr;have z1:=hG.at (CR 1 _ rfl).1 nr;have zf1:=hG.open (CR 1 _ rfl).1 (CR 1 _ rfl).2 nr;have z2:=hG.at (CR 2 _ rfl).1 nr;have zf2:=hG.open (CR 2 _ rfl).1 (CR 2 _ rfl).2 nr;have z3:=hG.at (CR 3 _ rfl).1 nr;have zf3:=hG.open (CR 3 _ rfl).1 (CR 3 _ rfl).2 nr;exact ⟨((((w.setCell ⟨pr,0,none⟩ (.int .i64 ((fv xa0 ya0).getD 0))).setCell ⟨pr,1,none⟩ (.int .i64 ((fv xa1 ya1).getD 0))).setCell ⟨pr,2,none⟩ (.int .i64 ((fv xa2 ya2).getD 0))).setCell ⟨pr,3,none⟩ (.int .i64 ((fv xa3 ya3).getD 0))),by simp [execOp,go_sem,z0,zf0,z1,zf1,z2,zf2,z3,zf3,h9,k9],trivial,fun j v _ h=>h.keep _,FGS.store (S:=fun w=>((((w.setCell ⟨pr,0,none⟩ (.int .i64 ((fv xa0 ya0).getD 0))).setCell ⟨pr,1,none⟩ (.int .i64 ((fv xa1 ya1).getD 0))).setCell ⟨pr,2,none⟩ (.int .i64 ((fv xa2 ya2).getD 0))).setCell ⟨pr,3,none⟩ (.int .i64 ((fv xa3 ya3).getD 0)))) hG rfl⟩)) ?_
  exact RV.AllDo.nil
 ·intro γ w5 L9 hL hI9 hG9
  obtain ⟨w8,hF8,rfl⟩:=hG9.late (hL 25 (by decide))
  have hFL:orL f [(5,(fv xa0 ya0).isNone),(11,(fv xa1 ya1).isNone),(17,(fv xa2 ya2).isNone),(23,(fv xa3 ya3).isNone)] L9 = (f || ((fv xa0 ya0).isNone || (fv xa1 ya1).isNone || (fv xa2 ya2).isNone || (fv xa3 ya3).isNone)):=by unfold orL;simp only [List.any_cons,List.any_nil,hL 5 (by decide),hL 11 (by decide),hL 17 (by decide),hL 23 (by decide),Bool.true_and,Bool.or_false,Bool.or_assoc]
  have HA8:Hid (After _ _ _ _):=hF8.leaves.done hF8.cell hF8.frozen
  rw [hFL] at HA8
  clear hF8 hFL
  clear hL hI9 hG9
  simp only [RV.putL,Act.put,List.setIfInBounds_toArray,List.set_cons_zero,List.set_cons_succ]
  have C1:Hid (CW w8 pr _):=(CR.leaves HA8.out.leaves nr)
  have HL:Hid (Leaves ⟨fb,0,none⟩ W _):=HLV.out.same HA8.out
  have hc8:=HA8.out.cell
  have hf8:=HA8.out.frozen
  obtain ⟨r0,q0⟩:=C1.out 0 _ rfl
  obtain ⟨r1,q1⟩:=C1.out 1 _ rfl
  obtain ⟨r2,q2⟩:=C1.out 2 _ rfl
  obtain ⟨r3,q3⟩:=C1.out 3 _ rfl
  clear C1 HA8
  go_wp2_with (fail)
  refine bodyPost_ret (by simp [results,Tryz.results104,go_sem,r0,r1,r2,r3];try rfl) rfl ?_
  refine ⟨_,rfl,rfl,((((HL.out.set hpr _).set hpr _).set hpr _).set hpr _).done ?_ ?_⟩
  ·simp [go_sem,hc8]
  ·simp [go_sem,hf8]
theorem each4_add_any (b:Nat) (f:Bool) (x0 x1 x2 x3 y0 y1 y2 y3:Int) (W:World) (hc:W.cell? ⟨b,0,none⟩ = some (.bool f)) (hf:W.frozen? ⟨b,0,none⟩ = false) :
  Calls Tryz.prog 104 #[.func (.func 105) #[.pointer (some ⟨b,0,none⟩)] #[],.agg #[.int .i64 x0,.int .i64 x1,.int .i64 x2,.int .i64 x3],.agg #[.int .i64 y0,.int .i64 y1,.int .i64 y2,.int .i64 y3]] W fun e W' =>
   ∃ g,e = .returned (.agg #[.int .i64 ((add x0 y0).getD 0),.int .i64 ((add x1 y1).getD 0),.int .i64 ((add x2 y2).getD 0),.int .i64 ((add x3 y3).getD 0)])/\Hid (g = (f || ((add x0 y0).isNone || (add x1 y1).isNone || (add x2 y2).isNone || (add x3 y3).isNone)))/\Hid (After ⟨b,0,none⟩ g W W'):=
 each4_gen 105 (add) b (enters_of Tryz.func105 (by kernel_rfl) rfl) (fun x y g w h1 h2=>by
  refine Calls.mono (add_law b 0 g x y w h1 h2) ?_
  rintro e w' ⟨v0,g0,rfl,SS,A⟩
  obtain ⟨rfl,rfl⟩:=SS.out
  exact ⟨rfl,A⟩) f x0 x1 x2 x3 y0 y1 y2 y3 W hc hf
theorem each4_sub_any (b:Nat) (f:Bool) (x0 x1 x2 x3 y0 y1 y2 y3:Int) (W:World) (hc:W.cell? ⟨b,0,none⟩ = some (.bool f)) (hf:W.frozen? ⟨b,0,none⟩ = false) :
  Calls Tryz.prog 104 #[.func (.func 106) #[.pointer (some ⟨b,0,none⟩)] #[],.agg #[.int .i64 x0,.int .i64 x1,.int .i64 x2,.int .i64 x3],.agg #[.int .i64 y0,.int .i64 y1,.int .i64 y2,.int .i64 y3]] W fun e W' =>
   ∃ g,e = .returned (.agg #[.int .i64 ((sub x0 y0).getD 0),.int .i64 ((sub x1 y1).getD 0),.int .i64 ((sub x2 y2).getD 0),.int .i64 ((sub x3 y3).getD 0)])/\Hid (g = (f || ((sub x0 y0).isNone || (sub x1 y1).isNone || (sub x2 y2).isNone || (sub x3 y3).isNone)))/\Hid (After ⟨b,0,none⟩ g W W'):=
 each4_gen 106 (sub) b (enters_of Tryz.func106 (by kernel_rfl) rfl) (fun x y g w h1 h2=>by
  refine Calls.mono (sub_law b 0 g x y w h1 h2) ?_
  rintro e w' ⟨v0,g0,rfl,SS,A⟩
  obtain ⟨rfl,rfl⟩:=SS.out
  exact ⟨rfl,A⟩) f x0 x1 x2 x3 y0 y1 y2 y3 W hc hf
theorem each4_div_any (b:Nat) (f:Bool) (x0 x1 x2 x3 y0 y1 y2 y3:Int) (W:World) (hc:W.cell? ⟨b,0,none⟩ = some (.bool f)) (hf:W.frozen? ⟨b,0,none⟩ = false) :
  Calls Tryz.prog 104 #[.func (.func 102) #[.pointer (some ⟨b,0,none⟩)] #[],.agg #[.int .i64 x0,.int .i64 x1,.int .i64 x2,.int .i64 x3],.agg #[.int .i64 y0,.int .i64 y1,.int .i64 y2,.int .i64 y3]] W fun e W' =>
   ∃ g,e = .returned (.agg #[.int .i64 ((ratio x0 4294967296 y0).getD 0),.int .i64 ((ratio x1 4294967296 y1).getD 0),.int .i64 ((ratio x2 4294967296 y2).getD 0),.int .i64 ((ratio x3 4294967296 y3).getD 0)])/\Hid (g = (f || ((ratio x0 4294967296 y0).isNone || (ratio x1 4294967296 y1).isNone || (ratio x2 4294967296 y2).isNone || (ratio x3 4294967296 y3).isNone)))/\Hid (After ⟨b,0,none⟩ g W W'):=
 each4_gen 102 (fun x y=>ratio x 4294967296 y) b (enters_of Tryz.func102 (by kernel_rfl) rfl) (fun x y g w h1 h2=>by
  refine Calls.mono (div_law b 0 g x y w h1 h2) ?_
  rintro e w' ⟨v0,g0,rfl,SS,A⟩
  obtain ⟨rfl,rfl⟩:=SS.out
  exact ⟨rfl,A⟩) f x0 x1 x2 x3 y0 y1 y2 y3 W hc hf
end
section
open Go.RowKit Fx
theorem Leaves.own {p:Addr} {W w:World} (h:Leaves p W w) (v:Value):Leaves p W (w.setCell p v):=by
 refine ⟨by simpa [World.setCell] using h.size,fun q hq hne=>?_,fun B w' hb h1 h2=>(h.below B w' hb h1 h2).setCell h1 v,⟨h.kept.1,h.kept.2.1,h.kept.2.2.1,fun i hi hne=>(Below.heap_setCell _ _ _ _ hne).trans (h.kept.2.2.2 i hi hne)⟩,fun hp o ho=>⟨(World.cell?_setCell_other _ _ _ _ (fun e=>ho (by cases p;exact ((Addr.mk.inj e).2.1).symm))).trans (h.beside hp o ho).1,by rw [show (w.setCell p v).frozen? ⟨p.block,o,none⟩ = w.frozen? ⟨p.block,o,none⟩ by simp [go_sem]];exact (h.beside hp o ho).2⟩⟩
 exact ⟨(World.cell?_of_block (w:=w) (Below.heap_setCell _ _ _ _ hne)).trans (h.other q hq hne).1,(World.frozen?_of_block (w:=w) (Below.heap_setCell _ _ _ _ hne)).trans (h.other q hq hne).2⟩
theorem tell3_any (b off o:Nat) (f g:Bool) (x0 x1 x2:Int) (W:World) (hc:W.cell? ⟨b,off,none⟩ = some (.bool f)) (hf:W.frozen? ⟨b,off,none⟩ = false) (ho:W.cell? ⟨o,0,none⟩ = some (.bool g)) :
  Calls Tryz.prog 109 #[.pointer (some ⟨b,off,none⟩),.pointer (some ⟨o,0,none⟩),.agg #[.int .i64 x0,.int .i64 x1,.int .i64 x2]] W fun e W' =>
   e = .returned (.agg #[.int .i64 (cond g 0 x0),.int .i64 (cond g 0 x1),.int .i64 (cond g 0 x2)])/\Hid (After ⟨b,off,none⟩ (f || g) W W'):=by
 have m1:b < W.heap.size:=World.block_lt_of_cell? _ _ hc
 have m2:o < W.heap.size:=World.block_lt_of_cell? _ _ ho
 have HL:Hid _:=Leaves.refl ⟨b,off,none⟩ W
 have n1:b ≠ W.heap.size:=by omega
 have n2:o ≠ W.heap.size:=by omega
 have n3:W.heap.size ≠ b:=by omega
 cases g
 ·go_enter Tryz.func109,Tryz.ntmps109
  go_wp2
  go_returns
  refine ⟨rfl,((HL.out.alloc _).alloc _).done ?_ ?_⟩
  ·rw [World.cell?_alloc_past _ _ _ (by rw [World.size_alloc];omega),World.cell?_alloc_past _ _ _ m1,hc];simp
  ·rw [((new_after _ _).frozen (by rw [World.size_alloc];show b < _;omega)),((new_after _ _).frozen (show b < _ from m1)),hf]
 ·go_enter Tryz.func109,Tryz.ntmps109
  go_wp2
  go_returns
  refine ⟨rfl,((((HL.out.own _).alloc _).alloc _).alloc _).done ?_ ?_⟩
  ·have e:(W.setCell ⟨b,off,none⟩ (.bool true)).cell? ⟨b,off,none⟩ = some (.bool true):=by simp [go_sem,hc]
   have s:(W.setCell ⟨b,off,none⟩ (.bool true)).heap.size = W.heap.size:=by simp [World.setCell]
   rw [World.cell?_alloc_past _ _ _ (by rw [World.size_alloc,World.size_alloc,s];omega),World.cell?_alloc_past _ _ _ (by rw [World.size_alloc,s];omega),World.cell?_alloc_past _ _ _ (by rw [s];omega),e];simp
  ·have e:(W.setCell ⟨b,off,none⟩ (.bool true)).frozen? ⟨b,off,none⟩ = false:=by simp [go_sem,hf]
   have s:(W.setCell ⟨b,off,none⟩ (.bool true)).heap.size = W.heap.size:=by simp [World.setCell]
   rw [((new_after _ _).frozen (by rw [World.size_alloc,World.size_alloc,s];show b < _;omega)),((new_after _ _).frozen (by rw [World.size_alloc,s];show b < _;omega)),((new_after _ _).frozen (by rw [s];exact m1)),e]
theorem tell4_any (b off o:Nat) (f g:Bool) (x0 x1 x2 x3:Int) (W:World) (hc:W.cell? ⟨b,off,none⟩ = some (.bool f)) (hf:W.frozen? ⟨b,off,none⟩ = false) (ho:W.cell? ⟨o,0,none⟩ = some (.bool g)) :
  Calls Tryz.prog 147 #[.pointer (some ⟨b,off,none⟩),.pointer (some ⟨o,0,none⟩),.agg #[.int .i64 x0,.int .i64 x1,.int .i64 x2,.int .i64 x3]] W fun e W' =>
   e = .returned (.agg #[.int .i64 (cond g 0 x0),.int .i64 (cond g 0 x1),.int .i64 (cond g 0 x2),.int .i64 (cond g 0 x3)])/\Hid (After ⟨b,off,none⟩ (f || g) W W'):=by
 have m1:b < W.heap.size:=World.block_lt_of_cell? _ _ hc
 have m2:o < W.heap.size:=World.block_lt_of_cell? _ _ ho
 have HL:Hid _:=Leaves.refl ⟨b,off,none⟩ W
 have n1:b ≠ W.heap.size:=by omega
 have n2:o ≠ W.heap.size:=by omega
 have n3:W.heap.size ≠ b:=by omega
 cases g
 ·go_enter Tryz.func147,Tryz.ntmps147
  go_wp2
  go_returns
  refine ⟨rfl,((HL.out.alloc _).alloc _).done ?_ ?_⟩
  ·rw [World.cell?_alloc_past _ _ _ (by rw [World.size_alloc];omega),World.cell?_alloc_past _ _ _ m1,hc];simp
  ·rw [((new_after _ _).frozen (by rw [World.size_alloc];show b < _;omega)),((new_after _ _).frozen (show b < _ from m1)),hf]
 ·go_enter Tryz.func147,Tryz.ntmps147
  go_wp2
  go_returns
  refine ⟨rfl,((((HL.out.own _).alloc _).alloc _).alloc _).done ?_ ?_⟩
  ·have e:(W.setCell ⟨b,off,none⟩ (.bool true)).cell? ⟨b,off,none⟩ = some (.bool true):=by simp [go_sem,hc]
   have s:(W.setCell ⟨b,off,none⟩ (.bool true)).heap.size = W.heap.size:=by simp [World.setCell]
   rw [World.cell?_alloc_past _ _ _ (by rw [World.size_alloc,World.size_alloc,s];omega),World.cell?_alloc_past _ _ _ (by rw [World.size_alloc,s];omega),World.cell?_alloc_past _ _ _ (by rw [s];omega),e];simp
  ·have e:(W.setCell ⟨b,off,none⟩ (.bool true)).frozen? ⟨b,off,none⟩ = false:=by simp [go_sem,hf]
   have s:(W.setCell ⟨b,off,none⟩ (.bool true)).heap.size = W.heap.size:=by simp [World.setCell]
   rw [((new_after _ _).frozen (by rw [World.size_alloc,World.size_alloc,s];show b < _;omega)),((new_after _ _).frozen (by rw [World.size_alloc,s];show b < _;omega)),((new_after _ _).frozen (by rw [s];exact m1)),e]
theorem tell9_any (b off o:Nat) (f g:Bool) (x0 x1 x2 x3 x4 x5 x6 x7 x8:Int) (W:World) (hc:W.cell? ⟨b,off,none⟩ = some (.bool f)) (hf:W.frozen? ⟨b,off,none⟩ = false) (ho:W.cell? ⟨o,0,none⟩ = some (.bool g)) :
  Calls Tryz.prog 107 #[.pointer (some ⟨b,off,none⟩),.pointer (some ⟨o,0,none⟩),.agg #[.int .i64 x0,.int .i64 x1,.int .i64 x2,.int .i64 x3,.int .i64 x4,.int .i64 x5,.int .i64 x6,.int .i64 x7,.int .i64 x8]] W fun e W' =>
   e = .returned (.agg #[.int .i64 (cond g 0 x0),.int .i64 (cond g 0 x1),.int .i64 (cond g 0 x2),.int .i64 (cond g 0 x3),.int .i64 (cond g 0 x4),.int .i64 (cond g 0 x5),.int .i64 (cond g 0 x6),.int .i64 (cond g 0 x7),.int .i64 (cond g 0 x8)])/\Hid (After ⟨b,off,none⟩ (f || g) W W'):=by
 have m1:b < W.heap.size:=World.block_lt_of_cell? _ _ hc
 have m2:o < W.heap.size:=World.block_lt_of_cell? _ _ ho
 have HL:Hid _:=Leaves.refl ⟨b,off,none⟩ W
 have n1:b ≠ W.heap.size:=by omega
 have n2:o ≠ W.heap.size:=by omega
 have n3:W.heap.size ≠ b:=by omega
 cases g
 ·go_enter Tryz.func107,Tryz.ntmps107
  go_wp2
  go_returns
  refine ⟨rfl,((HL.out.alloc _).alloc _).done ?_ ?_⟩
  ·rw [World.cell?_alloc_past _ _ _ (by rw [World.size_alloc];omega),World.cell?_alloc_past _ _ _ m1,hc];simp
  ·rw [((new_after _ _).frozen (by rw [World.size_alloc];show b < _;omega)),((new_after _ _).frozen (show b < _ from m1)),hf]
 ·go_enter Tryz.func107,Tryz.ntmps107
  go_wp2
  go_returns
  refine ⟨rfl,((((HL.out.own _).alloc _).alloc _).alloc _).done ?_ ?_⟩
  ·have e:(W.setCell ⟨b,off,none⟩ (.bool true)).cell? ⟨b,off,none⟩ = some (.bool true):=by simp [go_sem,hc]
   have s:(W.setCell ⟨b,off,none⟩ (.bool true)).heap.size = W.heap.size:=by simp [World.setCell]
   rw [World.cell?_alloc_past _ _ _ (by rw [World.size_alloc,World.size_alloc,s];omega),World.cell?_alloc_past _ _ _ (by rw [World.size_alloc,s];omega),World.cell?_alloc_past _ _ _ (by rw [s];omega),e];simp
  ·have e:(W.setCell ⟨b,off,none⟩ (.bool true)).frozen? ⟨b,off,none⟩ = false:=by simp [go_sem,hf]
   have s:(W.setCell ⟨b,off,none⟩ (.bool true)).heap.size = W.heap.size:=by simp [World.setCell]
   rw [((new_after _ _).frozen (by rw [World.size_alloc,World.size_alloc,s];show b < _;omega)),((new_after _ _).frozen (by rw [World.size_alloc,s];show b < _;omega)),((new_after _ _).frozen (by rw [s];exact m1)),e]
end
section
open Go.RowKit Fx
def Step3 (f:Bool) (a b c:Option Int) (x y z:Int) (g:Bool):Prop:=
 x = cond (a.isNone || b.isNone || c.isNone) 0 (a.getD 0)/\y = cond (a.isNone || b.isNone || c.isNone) 0 (b.getD 0)/\z = cond (a.isNone || b.isNone || c.isNone) 0 (c.getD 0)/\g = (f || (a.isNone || b.isNone || c.isNone))
theorem step3_of {f g:Bool} {a b c:Option Int} (h:g = (false || (a.isNone || b.isNone || c.isNone))):Step3 f a b c (cond g 0 (a.getD 0)) (cond g 0 (b.getD 0)) (cond g 0 (c.getD 0)) (f || g):=by
 rw [Bool.false_or] at h
 subst h
 exact ⟨rfl,rfl,rfl,rfl⟩
theorem after_keep {b off:Nat} {g:Bool} {w w':World} (h:Below w.heap.size w w') (hc:w.cell? ⟨b,off,none⟩ = some (.bool g)) (hf:w.frozen? ⟨b,off,none⟩ = false):After ⟨b,off,none⟩ (g || false) w w':=after_of (o:=some 0) h hc hf
theorem row3 {w:World} {b:Nat} {x y z:Int} (h0:w.cell? ⟨b,0,none⟩ = some (.int .i64 x)) (h1:w.cell? ⟨b,1,none⟩ = some (.int .i64 y)) (h2:w.cell? ⟨b,2,none⟩ = some (.int .i64 z)):NRow w (some ⟨b,0,none⟩) [x,y,z]:=
 Or.inr ⟨b,0,rfl,fun k hk=>by
  match k,hk with
  | 0,_=>exact h0
  | 1,_=>exact h1
  | 2,_=>exact h2⟩
theorem vdot_law (b off:Nat) (f:Bool) (x0 x1 x2 y0 y1 y2:Int) (W:World) (hc:W.cell? ⟨b,off,none⟩ = some (.bool f)) (hf:W.frozen? ⟨b,off,none⟩ = false) :
  Calls Tryz.prog 110 #[.pointer (some ⟨b,off,none⟩),.agg #[.int .i64 x0,.int .i64 x1,.int .i64 x2],.agg #[.int .i64 y0,.int .i64 y1,.int .i64 y2]] W fun e W'=>∃ v g,e = .returned (.int .i64 v)/\Hid (Step f (dot [x0,x1,x2] [y0,y1,y2]) v g)/\Hid (After ⟨b,off,none⟩ g W W'):=by
 have m1:b < W.heap.size:=World.block_lt_of_cell? _ _ hc
 have HC:Hid _:=hc
 have HF:Hid _:=hf
 clear hc hf
 go_enter Tryz.func110,Tryz.ntmps110
 go_wp2_with (fail)
 refine (fdot_any b off f [x0,x1,x2] [y0,y1,y2] _ _ 3 3 _ (by rw [World.cell?_alloc_past _ _ _ (by simp;omega),World.cell?_alloc_past _ _ _ (by simp;omega),World.cell?_alloc_past _ _ _ (by simp;omega),World.cell?_alloc_past _ _ _ m1];exact HC.out) (by rw [((new_after _ _).frozen (by simp;omega)),((new_after _ _).frozen (by simp;omega)),((new_after _ _).frozen (by simp;omega)),((new_after _ _).frozen m1)];exact HF.out) (by simp) (by simp) (row3 (by simp [go_sem]) (by simp [go_sem]) (by simp [go_sem])) (row3 (by simp [go_sem]) (by simp [go_sem]) (by simp [go_sem]))).mono ?_
 rintro e W1 ⟨v,g,rfl,S,A⟩
 have HA:Hid (After ⟨b,off,none⟩ g W W1):=(((((Leaves.refl _ _).alloc _).alloc _).alloc _).alloc _).same A.out |>.done A.out.cell A.out.frozen
 clear A
 go_wp2_with (fail)
 go_ret
 exact ⟨v,g,rfl,S,HA⟩
theorem vlen_law (b off:Nat) (f:Bool) (x0 x1 x2:Int) (W:World) (hc:W.cell? ⟨b,off,none⟩ = some (.bool f)) (hf:W.frozen? ⟨b,off,none⟩ = false) :
  Calls Tryz.prog 78 #[.pointer (some ⟨b,off,none⟩),.agg #[.int .i64 x0,.int .i64 x1,.int .i64 x2]] W fun e W'=>∃ v g,e = .returned (.int .i64 v)/\Hid (Step f (norm [x0,x1,x2]) v g)/\Hid (After ⟨b,off,none⟩ g W W'):=by
 have m1:b < W.heap.size:=World.block_lt_of_cell? _ _ hc
 have HC:Hid _:=hc
 have HF:Hid _:=hf
 clear hc hf
 go_enter Tryz.func78,Tryz.ntmps78
 go_wp2_with (fail)
 have N:=norm3_law b off f x0 x1 x2 (W.alloc (.cells #[.int .i64 x0,.int .i64 x1,.int .i64 x2] 23)) (by rw [World.cell?_alloc_past _ _ _ m1];exact HC.out) (by rw [((new_after _ _).frozen m1)];exact HF.out)
 simp only [World.size_alloc] at N
 refine N.mono ?_
 rintro e W1 ⟨v,g,rfl,S,A⟩
 have HA:Hid (After ⟨b,off,none⟩ g W W1):=(((Leaves.refl _ _).alloc _).same A.out).done A.out.cell A.out.frozen
 clear A N
 go_wp2_with (fail)
 go_ret
 exact ⟨v,g,rfl,S,HA⟩
theorem thrice_any (n:Int) (W:World):Calls Tryz.prog 116 #[.int .i64 n] W fun e W'=>e = .returned (.agg #[.int .i64 n,.int .i64 n,.int .i64 n])/\Hid (Below W.heap.size W W'):=by
 go_enter Tryz.func116,Tryz.ntmps116
 go_wp2
 go_returns
 exact ⟨rfl,by show Below _ _ _;go_grown⟩
theorem vadd_law (b off:Nat) (f:Bool) (x0 x1 x2 y0 y1 y2:Int) (W:World) (hc:W.cell? ⟨b,off,none⟩ = some (.bool f)) (hf:W.frozen? ⟨b,off,none⟩ = false) :
  Calls Tryz.prog 62 #[.pointer (some ⟨b,off,none⟩),.agg #[.int .i64 x0,.int .i64 x1,.int .i64 x2],.agg #[.int .i64 y0,.int .i64 y1,.int .i64 y2]] W fun e W'=>∃ v0 v1 v2 g,e = .returned (.agg #[.int .i64 v0,.int .i64 v1,.int .i64 v2])/\Hid (Step3 f (add x0 y0) (add x1 y1) (add x2 y2) v0 v1 v2 g)/\Hid (After ⟨b,off,none⟩ g W W'):=by
 have m1:b < W.heap.size:=World.block_lt_of_cell? _ _ hc
 have HC:Hid _:=hc
 have HF:Hid _:=hf
 clear hc hf
 go_enter Tryz.func62,Tryz.ntmps62
 go_wp2_with (fail)
 refine (each_add_any (W.heap.size + 1 + 1 + 1) false _ _ _ _ _ _ _ (by simp [go_sem]) (by simp [go_sem])).mono ?_
 rintro e W1 ⟨g,rfl,SG,A⟩
 have hp:=A.out.cellOf (q:=⟨b,off,none⟩) (v:=.bool f) (by rw [World.cell?_alloc_past _ _ _ (by simp;omega),World.cell?_alloc_past _ _ _ (by simp;omega),World.cell?_alloc_past _ _ _ (by simp;omega),World.cell?_alloc_past _ _ _ m1];exact HC.out) (by simp;omega)
 have hpf:=A.out.frozenOf (q:=⟨b,off,none⟩) (v:=.bool f) (by rw [World.cell?_alloc_past _ _ _ (by simp;omega),World.cell?_alloc_past _ _ _ (by simp;omega),World.cell?_alloc_past _ _ _ (by simp;omega),World.cell?_alloc_past _ _ _ m1];exact HC.out) (by rw [((new_after _ _).frozen (by simp;omega)),((new_after _ _).frozen (by simp;omega)),((new_after _ _).frozen (by simp;omega)),((new_after _ _).frozen m1)];exact HF.out) (by simp;omega)
 have HL:Hid (Leaves ⟨b,off,none⟩ W W1):=(((((Leaves.refl _ _).alloc _).alloc _).alloc _).alloc _).after A.out (by simp;omega)
 have ho:=A.out.cell
 have r0:=A.out.cellOf (q:=⟨W.heap.size + 1 + 1,0,none⟩) (v:=.int .i64 0) (by simp [go_sem]) (by simp)
 have r1:=A.out.cellOf (q:=⟨W.heap.size + 1 + 1,1,none⟩) (v:=.int .i64 0) (by simp [go_sem]) (by simp)
 have r2:=A.out.cellOf (q:=⟨W.heap.size + 1 + 1,2,none⟩) (v:=.int .i64 0) (by simp [go_sem]) (by simp)
 have f0:=A.out.frozenOf (q:=⟨W.heap.size + 1 + 1,0,none⟩) (v:=.int .i64 0) (by simp [go_sem]) (by simp [go_sem]) (by simp)
 have f1:=A.out.frozenOf (q:=⟨W.heap.size + 1 + 1,1,none⟩) (v:=.int .i64 0) (by simp [go_sem]) (by simp [go_sem]) (by simp)
 have f2:=A.out.frozenOf (q:=⟨W.heap.size + 1 + 1,2,none⟩) (v:=.int .i64 0) (by simp [go_sem]) (by simp [go_sem]) (by simp)
 clear A HC HF
 go_wp2_with (fail)
 refine (tell3_any b off (W.heap.size + 1 + 1 + 1) f g _ _ _ W1 hp hpf ho).mono ?_
 rintro e W2 ⟨rfl,A⟩
 have HL2:Hid (Leaves ⟨b,off,none⟩ W W2):=HL.out.same A.out
 have hp:=A.out.cell
 have hpf:=A.out.frozen
 have f0:=A.out.frozenOf r0 f0 (by simp;omega)
 have f1:=A.out.frozenOf r1 f1 (by simp;omega)
 have f2:=A.out.frozenOf r2 f2 (by simp;omega)
 have r0:=A.out.cellOf r0 (by simp;omega)
 have r1:=A.out.cellOf r1 (by simp;omega)
 have r2:=A.out.cellOf r2 (by simp;omega)
 have n1:b ≠ W.heap.size + 1 + 1:=by omega
 have n2:W.heap.size + 1 + 1 ≠ b:=by omega
 clear A HL
 go_wp2_with (fail)
 refine bodyPost_ret (by simp [results,Tryz.results62,go_sem,r0,r1,r2];try rfl) rfl ?_
 refine ⟨_,_,_,_,rfl,step3_of SG.out,(((HL2.out.set (by simp;omega) _).set (by simp;omega) _).set (by simp;omega) _).done ?_ ?_⟩
 ·simp [go_sem,hp]
 ·simp [go_sem,hpf]
end
section
open Go.RowKit Ref Fx
theorem rvbare_any (W:World):Calls Tryz.prog 86 #[] W fun e W'=>e = .returned (.pointer (some ⟨W.heap.size,0,none⟩))/\W' = W.alloc (.cells #[.bool false] 44):=by
 go_enter Tryz.func86,Tryz.ntmps86
 go_wp2
 go_ret
 exact ⟨rfl,rfl⟩
theorem done_any (b off o:Nat) (f g:Bool) (W:World) (hc:W.cell? ⟨b,off,none⟩ = some (.bool f)) (hf:W.frozen? ⟨b,off,none⟩ = false) (ho:W.cell? ⟨o,0,none⟩ = some (.bool g)) (hne:o ≠ b) :
  Calls Tryz.prog 88 #[.pointer (some ⟨b,off,none⟩),.pointer (some ⟨o,0,none⟩)] W fun e W'=>e = .returned (.bool (!g))/\Hid (After ⟨b,off,none⟩ (f || g) W W'):=by
 have n1:b ≠ o:=Ne.symm hne
 have fin:∀ x:Bool,After ⟨b,off,none⟩ x W (W.setCell ⟨b,off,none⟩ (.bool x)):=fun x=>((Leaves.refl ⟨b,off,none⟩ W).own _).done (by simp [go_sem,hc]) (by simp [go_sem,hf])
 have HF:Hid _:=fin
 clear fin
 cases f
 ·go_enter Tryz.func88,Tryz.ntmps88
  go_wp2
  go_ret
  exact ⟨rfl,HF.out _⟩
 ·go_enter Tryz.func88,Tryz.ntmps88
  go_wp2
  go_ret
  exact ⟨rfl,HF.out _⟩
structure Ho (W V:World) (p:Addr) (po:Nat) (f g:Bool) (l:List (Addr × Value)):Prop where
 leaves:Leaves p W V
 flag:V.cell? p = some (.bool f)
 flagf:V.frozen? p = false
 own:V.cell? ⟨po,0,none⟩ = some (.bool g)
 ownf:V.frozen? ⟨po,0,none⟩ = false
 fix:∀ c ∈ l,V.cell? c.1 = some c.2/\V.frozen? c.1 = false
 far:∀ c ∈ l,c.1.block ≠ po
 hp:p.block < W.heap.size
 ho:W.heap.size <= po
theorem Ho.after {W V V':World} {p:Addr} {po:Nat} {f g g':Bool} {l:List (Addr × Value)} (h:Ho W V p po f g l) (A:After ⟨po,0,none⟩ g' V V'):Ho W V' p po f g' l:=
 ⟨h.leaves.after A h.ho,A.cellOf h.flag (by have:=h.hp;have:=h.ho;show p.block ≠ po;omega),A.frozenOf h.flag h.flagf (by have:=h.hp;have:=h.ho;show p.block ≠ po;omega),A.cell,A.frozen,fun c hc=>⟨A.cellOf (h.fix c hc).1 (h.far c hc),A.frozenOf (h.fix c hc).1 (h.fix c hc).2 (h.far c hc)⟩,h.far,h.hp,h.ho⟩
theorem Ho.alloc {W V:World} {p:Addr} {po:Nat} {f g:Bool} {l:List (Addr × Value)} (h:Ho W V p po f g l) (o:Obj):Ho W (V.alloc o) p po f g l:=by
 have hb:=new_after V o
 exact ⟨h.leaves.alloc o,cell_after hb h.flag,frozen_after hb h.flag h.flagf,cell_after hb h.own,frozen_after hb h.own h.ownf,fun c hc=>⟨cell_after hb (h.fix c hc).1,frozen_after hb (h.fix c hc).1 (h.fix c hc).2⟩,h.far,h.hp,h.ho⟩
theorem Ho.drew {W V:World} {p:Addr} {po:Nat} {f g:Bool} {l:List (Addr × Value)} (h:Ho W V p po f g l):Ho W V.drew p po f g l:=⟨h.leaves.drew,h.flag,h.flagf,h.own,h.ownf,h.fix,h.far,h.hp,h.ho⟩
theorem step3_chain {f g1 g2 g3:Bool} {a b c:Option Int} {x y z:Int} (h1:Step false a x g1) (h2:Step g1 b y g2) (h3:Step g2 c z g3):Step3 f a b c (cond g3 0 x) (cond g3 0 y) (cond g3 0 z) (f || g3):=by
 obtain ⟨rfl,rfl⟩:=h1
 obtain ⟨rfl,rfl⟩:=h2
 obtain ⟨rfl,rfl⟩:=h3
 simp only [Bool.false_or]
 exact ⟨rfl,rfl,rfl,rfl⟩
end
section
open Go.RowKit Ref Fx
theorem prods_fit {l m:List Int} (k:Nat) (hl:l.length <= 8) (h:l.any great = false) (h':m.any great = false):(prods (l.take k) (m.take k)).natAbs < 3138550867693340381917894711603833208051177722232017256448:=by
 have:=prods_bound (l.take k) (m.take k) (any_take k h) (any_take k h')
 have e:(l.take k).length <= 8:=by simp;omega
 have:=Nat.mul_le_mul_right 21267647932558653957237540927630737409 e
 omega
theorem prod_fit {a b:Int} (ha:great a = false) (hb:great b = false):(a * b).natAbs < 3138550867693340381917894711603833208051177722232017256448:=by
 have h1:=(not_great a).1 ha
 have h2:=(not_great b).1 hb
 rw [Int.natAbs_mul]
 exact Nat.lt_of_le_of_lt (Nat.mul_le_mul (show a.natAbs <= 4611686018427387903 by omega) (show b.natAbs <= 4611686018427387903 by omega)) (by decide)
theorem sumw_any (zs ys:List Int) (ba oa bb ob cap cap':Nat) (w:World) (hl:zs.length <= 8) (he:zs.length = ys.length) (hg:zs.any great = false) (hg':ys.any great = false)
  (hz:∀ k,k < zs.length->w.cell? ⟨ba,oa + k,none⟩ = some (.int .i64 (zs.getD k 0))) (hy:∀ k,k < ys.length->w.cell? ⟨bb,ob + k,none⟩ = some (.int .i64 (ys.getD k 0))) :
  Calls Tryz.prog 99 #[.slice (some ⟨ba,oa,none⟩) zs.length cap,.slice (some ⟨bb,ob,none⟩) ys.length cap'] w fun e w'=>∃ s d,e = .returned (wv s d)/\Hid (Digs d/\sv s d = prods zs ys)/\Hid (Below w.heap.size w w'):=by
 have HZ:Hid _:=hz
 have HY:Hid _:=hy
 have HG:Hid (zs.any great = false/\ys.any great = false):=⟨hg,hg'⟩
 have HE:Hid _:=he
 have hly:ys.length <= 8:=by omega
 clear hz hy hg hg' he
 go_enter Tryz.func99,Tryz.ntmps99
 go_wp2
 go_loopw [6] (fun i wr=>∃ (k:Nat) (s:Bool) (d:Nat->Int),k <= zs.length/\i = .int .i64 k/\Hid (Digs d/\sv s d = prods (zs.take k) (ys.take k))/\Hid (RLies wr w.heap.size false (fun _=>0))/\Hid (RLies wr (w.heap.size + 1) s d)/\Hid (Below w.heap.size w wr)) (fun i _=>zs.length - (intOf i).toNat)
 case atStart=>exact ⟨0,false,fun _=>0,Nat.zero_le _,rfl,⟨fun j _=>by simp,by simp [sv,val,prods]⟩,RLies.alloc (lies_new w false (fun _=>0) 72) _,by show RLies _ _ _ _;have:=lies_new (w.alloc (.cells #[.bool false,.int .i64 0,.int .i64 0,.int .i64 0,.int .i64 0,.int .i64 0,.int .i64 0,.int .i64 0,.int .i64 0] 72)) false (fun _=>0) 72;simpa only [World.size_alloc] using this,(new_after w _).alloc (by simp) _⟩
 case round =>
  obtain ⟨k,s,d,hk,rfl,HD,HR,HO,HB⟩:=hrel
  by_cases hlt:k < zs.length
  ·have hlt2:k < ys.length:=by have:=HE.out;omega
   have c1:=cell_after HB.out (HZ.out k hlt)
   have c2:=cell_after HB.out (HY.out k hlt2)
   have g1:=getD_small HG.out.1 hlt
   have g2:=getD_small HG.out.2 hlt2
   have HS:Hid _:=prods_step k zs ys hlt hlt2
   have HP:Hid _:=prod_fit g1 g2
   have HQ:Hid _:=prods_fit k hl HG.out.1 HG.out.2
   obtain ⟨z,ez⟩:∃ z,zs.getD k 0 = z:=⟨_,rfl⟩
   obtain ⟨y,ey⟩:∃ y,ys.getD k 0 = y:=⟨_,rfl⟩
   rw [ez] at c1 g1 HS HP
   rw [ey] at c2 g2 HS HP
   have bz:=(not_great z).1 g1
   have bY:=(not_great y).1 g2
   clear ez ey g1 g2
   have i0:(0:Int) <= (k:Int):=by omega
   have i1:(k:Int) < (zs.length:Int):=by omega
   have i2:(k:Int) < (ys.length:Int):=by omega
   have HB:Hid (Below w.heap.size w wr.drew):=HB.out.drew
   have HO:Hid (RLies wr.drew (w.heap.size + 1) s d):=HO.out.drew
   have HR:Hid (RLies wr.drew w.heap.size false (fun _=>0)):=HR.out.drew
   obtain ⟨a0,a1,a2,a3,a4,a5,a6,a7,a8⟩:=HO.out.cells
   obtain ⟨f0,f1,f2,f3,f4,f5,f6,f7,f8⟩:=HO.out.frees
   have c1:wr.drew.cell? ⟨ba,oa + k,none⟩ = some (.int .i64 z):=c1
   have c2:wr.drew.cell? ⟨bb,ob + k,none⟩ = some (.int .i64 y):=c2
   have HA:True:=trivial
   go_wp2
   go_region_with (first
    | (go_at_call 38;refine (of_any _ _ (by omega) (by omega)).mono ?_;rintro e w1 ⟨u,e1,rfl,S,B⟩;have HA:=And.intro HA S.out;have f0:=frozen_after B.out a0 f0;have a0:=cell_after B.out a0;have f1:=frozen_after B.out a1 f1;have a1:=cell_after B.out a1;have f2:=frozen_after B.out a2 f2;have a2:=cell_after B.out a2;have f3:=frozen_after B.out a3 f3;have a3:=cell_after B.out a3;have f4:=frozen_after B.out a4 f4;have a4:=cell_after B.out a4;have f5:=frozen_after B.out a5 f5;have a5:=cell_after B.out a5;have f6:=frozen_after B.out a6 f6;have a6:=cell_after B.out a6;have f7:=frozen_after B.out a7 f7;have a7:=cell_after B.out a7;have f8:=frozen_after B.out a8 f8;have a8:=cell_after B.out a8;have c1:=cell_after B.out c1;have c2:=cell_after B.out c2;have HO:Hid _:=RLies.below HO.out B.out HO.out.lt;have HR:Hid _:=RLies.below HR.out B.out HR.out.lt;have HB:Hid _:=below_step HB.out B.out)
    | (go_at_call 90;refine (times_any _ _ _ _ _ HA.1.2.1 HA.2.1 (by rw [HA.1.2.2,HA.2.2];exact Nat.lt_trans HP.out (by decide))).mono ?_;rintro e w1 ⟨u,e1,rfl,S,B⟩;have HT:Hid (Digs e1/\sv u e1 = z * y):=⟨S.out.1,by rw [S.out.2,HA.1.2.2,HA.2.2]⟩;have f0:=frozen_after B.out a0 f0;have a0:=cell_after B.out a0;have f1:=frozen_after B.out a1 f1;have a1:=cell_after B.out a1;have f2:=frozen_after B.out a2 f2;have a2:=cell_after B.out a2;have f3:=frozen_after B.out a3 f3;have a3:=cell_after B.out a3;have f4:=frozen_after B.out a4 f4;have a4:=cell_after B.out a4;have f5:=frozen_after B.out a5 f5;have a5:=cell_after B.out a5;have f6:=frozen_after B.out a6 f6;have a6:=cell_after B.out a6;have f7:=frozen_after B.out a7 f7;have a7:=cell_after B.out a7;have f8:=frozen_after B.out a8 f8;have a8:=cell_after B.out a8;have c1:=cell_after B.out c1;have c2:=cell_after B.out c2;have HO:Hid _:=RLies.below HO.out B.out HO.out.lt;have HR:Hid _:=RLies.below HR.out B.out HR.out.lt;have HB:Hid _:=below_step HB.out B.out)
    | (go_at_call 34;refine (plusw_any _ _ _ _ _ HD.out.1 HT.out.1 (by rw [HD.out.2,HT.out.2];have h1:=HP.out;have h2:=HQ.out;omega)).mono ?_;rintro e w1 ⟨u,e1,rfl,S,B⟩;have HU:Hid (Digs e1/\sv u e1 = prods (zs.take (k + 1)) (ys.take (k + 1))):=⟨S.out.1,by rw [S.out.2,HD.out.2,HT.out.2,HS.out]⟩;have f0:=frozen_after B.out a0 f0;have a0:=cell_after B.out a0;have f1:=frozen_after B.out a1 f1;have a1:=cell_after B.out a1;have f2:=frozen_after B.out a2 f2;have a2:=cell_after B.out a2;have f3:=frozen_after B.out a3 f3;have a3:=cell_after B.out a3;have f4:=frozen_after B.out a4 f4;have a4:=cell_after B.out a4;have f5:=frozen_after B.out a5 f5;have a5:=cell_after B.out a5;have f6:=frozen_after B.out a6 f6;have a6:=cell_after B.out a6;have f7:=frozen_after B.out a7 f7;have a7:=cell_after B.out a7;have f8:=frozen_after B.out a8 f8;have a8:=cell_after B.out a8;have c1:=cell_after B.out c1;have c2:=cell_after B.out c2;have HO:Hid _:=RLies.below HO.out B.out HO.out.lt;have HR:Hid _:=RLies.below HR.out B.out HR.out.lt;have HB:Hid _:=below_step HB.out B.out))
   all_goals (
    have X1:Hid _:=lies_nine (s:=u) (d:=e1) HO.out
    have X2:Hid _:=RLies.nine (s:=u) (d:=e1) (b:=w.heap.size + 1) HR.out (by omega)
    have X3:Hid _:=below_nine (b:=w.heap.size + 1) (v0:=.bool u) (v1:=.int .i64 (e1 0)) (v2:=.int .i64 (e1 1)) (v3:=.int .i64 (e1 2)) (v4:=.int .i64 (e1 3)) (v5:=.int .i64 (e1 4)) (v6:=.int .i64 (e1 5)) (v7:=.int .i64 (e1 6)) (v8:=.int .i64 (e1 7)) HB.out (by omega)
    clear a0 f0 a1 f1 a2 f2 a3 f3 a4 f4 a5 f5 a6 f6 a7 f7 a8 f8 HO HR HB HA HT HP HQ
    go_wp2
    go_roundw
    case rel=>exact ⟨k + 1,u,e1,by omega,by go_num,HU.out,X2.out,X1.out,X3.out⟩
    case measure=>simp [intOf];omega)
  ·have hk8:(zs.length:Int) <= (k:Int):=by omega
   have HV:Hid (Digs d/\sv s d = prods zs ys):=by
    obtain ⟨d1,d2⟩:=HD.out
    have e:k = zs.length:=by omega
    rw [e,List.take_length,HE.out,List.take_length] at d2
    exact ⟨d1,d2⟩
   obtain ⟨c0,c1,c2,c3,c4,c5,c6,c7,c8⟩:=HO.out.cells
   obtain ⟨r0,r1,r2,r3,r4,r5,r6,r7,r8⟩:=HR.out.cells
   obtain ⟨f0,f1,f2,f3,f4,f5,f6,f7,f8⟩:=HR.out.frees
   clear HD HZ HY HG
   go_wp2
   try simp only [Exit.inBlock,Exit.then]
   refine bodyPost_ret (by simp [results,Tryz.results99,go_sem,r0,r1,r2,r3,r4,r5,r6,r7,r8];try rfl) rfl ?_
   exact ⟨_,d,rfl,HV.out,below_nine HB.out (by omega)⟩
end
section
open Go.RowKit Ref Fx
theorem rgreat_row (zs:List Int) (a:Option Addr) (cap:Nat) (w:World) (hlen:zs.length <= 4611686018427387904) (h:NRow w a zs) :
  Calls Tryz.prog 97 #[.slice a zs.length cap] w fun e w'=>e = .returned (.bool (zs.any great))/\w' = w:=by
 rcases h with h | ⟨b,off,rfl,h⟩
 ·obtain rfl:zs = []:=List.length_eq_zero_iff.1 h
  exact rgreat_nil a cap w
 ·exact rgreat_any zs b off cap w hlen h
theorem sumw_nil (a c:Option Addr) (cap cap':Nat) (w:World) :
  Calls Tryz.prog 99 #[.slice a 0 cap,.slice c 0 cap'] w fun e w'=>∃ s d,e = .returned (wv s d)/\Hid (Digs d/\sv s d = 0)/\Hid (Below w.heap.size w w'):=by
 go_enter Tryz.func99,Tryz.ntmps99
 go_wp2
 go_rounds 1
 try simp only [Exit.inBlock,Exit.then]
 refine bodyPost_ret (by simp [results,Tryz.results99,go_sem];try rfl) rfl ?_
 exact ⟨false,fun _=>0,rfl,⟨fun j _=>by simp,by simp [sv,val]⟩,by show Below _ _ _;go_grown⟩
theorem sumw_row (zs ys:List Int) (a c:Option Addr) (cap cap':Nat) (w:World) (hl:zs.length <= 8) (he:zs.length = ys.length) (hg:zs.any great = false) (hg':ys.any great = false) (ha:NRow w a zs) (hb:NRow w c ys) :
  Calls Tryz.prog 99 #[.slice a zs.length cap,.slice c ys.length cap'] w fun e w'=>∃ s d,e = .returned (wv s d)/\Hid (Digs d/\sv s d = prods zs ys)/\Hid (Below w.heap.size w w'):=by
 by_cases h0:zs.length = 0
 ·obtain rfl:zs = []:=List.length_eq_zero_iff.1 h0
  obtain rfl:ys = []:=List.length_eq_zero_iff.1 (by omega)
  exact sumw_nil a c cap cap' w
 ·obtain ⟨ba,oa,rfl,hz⟩:=ha.resolve_left h0
  obtain ⟨bb,ob,rfl,hy⟩:=hb.resolve_left (by omega)
  exact sumw_any zs ys ba oa bb ob cap cap' w hl he hg hg' hz hy
theorem fl_one (X:Int):fl X 4294967296 = X / 4294967296:=by unfold fl;rw [if_neg (by omega)]
theorem rdot_law (b off:Nat) (f:Bool) (zs ys:List Int) (a c:Option Addr) (cap cap':Nat) (w:World) (hc:w.cell? ⟨b,off,none⟩ = some (.bool f)) (hf:w.frozen? ⟨b,off,none⟩ = false)
  (hz:zs.length <= 4611686018427387904) (hy:ys.length <= 4611686018427387904) (ha:NRow w a zs) (hb:NRow w c ys) :
  Calls Tryz.prog 112 #[.pointer (some ⟨b,off,none⟩),.slice a zs.length cap,.slice c ys.length cap'] w fun e W'=>∃ v g,e = .returned (.int .i64 v)/\Hid (Step f (dot zs ys) v g)/\Hid (After ⟨b,off,none⟩ g w W'):=by
 have HC:Hid _:=hc
 have HF:Hid _:=hf
 have C2:Hid _:=rtells_any b off f 0 false w hc hf
 have C1:=rgreat_row zs a cap w hz ha
 have C3:=rgreat_row ys c cap' w hy hb
 by_cases h1:zs.length = ys.length
 ·have h1':((zs.length:Int) != (ys.length:Int)) = false:=by simp [h1]
  by_cases h8:8 < zs.length
  ·have HA:Hid _:=(by unfold dot;rw [if_neg (by omega),if_pos h8]:dot zs ys = none)
   clear C1 C3 h1 hc hf ha hb
   go_enter Tryz.func112,Tryz.ntmps112
   go_wp2_with (fail)
   refine Calls.mono C2.out ?_
   rintro e w2 ⟨rfl,hb2⟩
   go_wp2_with (fail)
   go_ret
   exact told_end HA.out.symm (Below.refl _ _) hb2 HC.out HF.out
  ·cases hg:zs.any great
   ·cases hg2:ys.any great
    ·have HA:Hid _:=(by unfold dot;rw [if_neg (by omega),if_neg h8,hg,hg2];rfl:dot zs ys = Fx.told (prods zs ys / 4294967296))
     have HS:Hid _:=sumw_row zs ys a c cap cap' w (by omega) h1 hg hg2 ha hb
     rw [hg] at C1
     rw [hg2] at C3
     have K1:Hid _:=C1
     have K3:Hid _:=C3
     clear C1 C3 h1 hc hf ha hb hg hg2 C2
     go_enter Tryz.func112,Tryz.ntmps112
     go_wp2_with (fail)
     refine Calls.mono K1.out ?_
     rintro e w1 ⟨rfl,hw⟩
     rw [hw];clear hw
     go_wp2_with (fail)
     refine Calls.mono K3.out ?_
     rintro e w1 ⟨rfl,hw⟩
     rw [hw];clear hw
     go_wp2_with (fail)
     refine Calls.mono HS.out ?_
     rintro e w1 ⟨s,d,rfl,S1,B1⟩
     go_wp2_with (fail)
     refine (down_any s d 4294967296 _ S1.out.1 (by omega) (by omega) (by omega)).mono ?_
     rintro e w3 ⟨n,ok,rfl,S3,B3⟩
     have B5:Hid (Below w.heap.size w w3):=below_step B1.out B3.out
     have S5:Hid _:=fits_told S3.out
     rw [S1.out.2,fl_one] at S5
     clear S1 S3 B1 B3 K1 K3 HS
     go_wp2_with (fail)
     refine (rtells_any b off f n ok _ (cell_after B5.out HC.out) (frozen_after B5.out HC.out HF.out)).mono ?_
     rintro e w6 ⟨rfl,hb2⟩
     go_wp2_with (fail)
     go_ret
     exact told_end (S5.out.trans HA.out.symm) B5.out hb2 HC.out HF.out
    ·have HA:Hid _:=(by unfold dot;rw [if_neg (by omega),if_neg h8,hg,hg2];rfl:dot zs ys = none)
     rw [hg] at C1
     rw [hg2] at C3
     have K1:Hid _:=C1
     have K3:Hid _:=C3
     clear C1 C3 h1 hc hf ha hb hg hg2
     go_enter Tryz.func112,Tryz.ntmps112
     go_wp2_with (fail)
     refine Calls.mono K1.out ?_
     rintro e w1 ⟨rfl,hw⟩
     rw [hw];clear hw
     go_wp2_with (fail)
     refine Calls.mono K3.out ?_
     rintro e w1 ⟨rfl,hw⟩
     rw [hw];clear hw
     go_wp2_with (fail)
     refine Calls.mono C2.out ?_
     rintro e w2 ⟨rfl,hb2⟩
     go_wp2_with (fail)
     go_ret
     exact told_end HA.out.symm (Below.refl _ _) hb2 HC.out HF.out
   ·have HA:Hid _:=(by unfold dot;rw [if_neg (by omega),if_neg h8,hg];rfl:dot zs ys = none)
    obtain ⟨g2,hg2⟩:∃ g,g = ys.any great:=⟨_,rfl⟩
    rw [hg] at C1
    rw [<- hg2] at C3
    have K1:Hid _:=C1
    have K3:Hid _:=C3
    clear C1 C3 h1 hc hf ha hb hg hg2
    go_enter Tryz.func112,Tryz.ntmps112
    go_wp2_with (fail)
    refine Calls.mono K1.out ?_
    rintro e w1 ⟨rfl,hw⟩
    rw [hw];clear hw
    go_wp2_with (fail)
    refine Calls.mono K3.out ?_
    rintro e w1 ⟨rfl,hw⟩
    rw [hw];clear hw
    go_wp2_with (fail)
    refine Calls.mono C2.out ?_
    rintro e w2 ⟨rfl,hb2⟩
    go_wp2_with (fail)
    go_ret
    exact told_end HA.out.symm (Below.refl _ _) hb2 HC.out HF.out
 ·have h1':((zs.length:Int) != (ys.length:Int)) = true:=by simp;omega
  have HA:Hid _:=(by unfold dot;rw [if_pos h1]:dot zs ys = none)
  clear C1 C3 hc hf ha hb
  go_enter Tryz.func112,Tryz.ntmps112
  go_wp2_with (fail)
  refine Calls.mono C2.out ?_
  rintro e w2 ⟨rfl,hb2⟩
  go_wp2_with (fail)
  go_ret
  exact told_end HA.out.symm (Below.refl _ _) hb2 HC.out HF.out
theorem rnorm_law (b off:Nat) (f:Bool) (zs:List Int) (a:Option Addr) (cap:Nat) (w:World) (hc:w.cell? ⟨b,off,none⟩ = some (.bool f)) (hf:w.frozen? ⟨b,off,none⟩ = false)
  (hz:zs.length <= 4611686018427387904) (ha:NRow w a zs) :
  Calls Tryz.prog 45 #[.pointer (some ⟨b,off,none⟩),.slice a zs.length cap] w fun e W'=>∃ v g,e = .returned (.int .i64 v)/\Hid (Step f (norm zs) v g)/\Hid (After ⟨b,off,none⟩ g w W'):=by
 have HC:Hid _:=hc
 have HF:Hid _:=hf
 have C2:Hid _:=rtells_any b off f 0 false w hc hf
 have C1:=rgreat_row zs a cap w hz ha
 by_cases h8:8 < zs.length
 ·have HA:Hid _:=(by unfold norm;rw [if_pos h8]:norm zs = none)
  clear C1 hc hf ha
  go_enter Tryz.func45,Tryz.ntmps45
  go_wp2_with (fail)
  refine Calls.mono C2.out ?_
  rintro e w2 ⟨rfl,hb2⟩
  go_wp2_with (fail)
  go_ret
  exact told_end HA.out.symm (Below.refl _ _) hb2 HC.out HF.out
 ·cases hg:zs.any great
  ·have HA:Hid _:=(by unfold norm;rw [if_neg h8,hg];rfl:norm zs = Fx.told (isq (prods zs zs).toNat))
   have HS:Hid _:=sumw_row zs zs a a cap cap w (by omega) rfl hg hg ha ha
   rw [hg] at C1
   have K1:Hid _:=C1
   clear C1 hc hf ha hg C2
   go_enter Tryz.func45,Tryz.ntmps45
   go_wp2_with (fail)
   refine Calls.mono K1.out ?_
   rintro e w1 ⟨rfl,hw⟩
   rw [hw];clear hw
   go_wp2_with (fail)
   refine Calls.mono HS.out ?_
   rintro e w1 ⟨s,d,rfl,S1,B1⟩
   go_wp2_with (fail)
   refine (rootw_any s d _ S1.out.1 (by rw [S1.out.2];exact prods_self zs)).mono ?_
   rintro e w3 ⟨n,ok,rfl,S3,B3⟩
   have B5:Hid (Below w.heap.size w w3):=below_step B1.out B3.out
   have S5:Hid _:=fits_told S3.out
   rw [S1.out.2] at S5
   clear S1 S3 B1 B3 K1 HS
   go_wp2_with (fail)
   refine (rtells_any b off f n ok _ (cell_after B5.out HC.out) (frozen_after B5.out HC.out HF.out)).mono ?_
   rintro e w6 ⟨rfl,hb2⟩
   go_wp2_with (fail)
   go_ret
   exact told_end (S5.out.trans HA.out.symm) B5.out hb2 HC.out HF.out
  ·have HA:Hid _:=(by unfold norm;rw [if_neg h8,hg];rfl:norm zs = none)
   rw [hg] at C1
   have K1:Hid _:=C1
   clear C1 hc hf ha hg
   go_enter Tryz.func45,Tryz.ntmps45
   go_wp2_with (fail)
   refine Calls.mono K1.out ?_
   rintro e w1 ⟨rfl,hw⟩
   rw [hw];clear hw
   go_wp2_with (fail)
   refine Calls.mono C2.out ?_
   rintro e w2 ⟨rfl,hb2⟩
   go_wp2_with (fail)
   go_ret
   exact told_end HA.out.symm (Below.refl _ _) hb2 HC.out HF.out
end
section
open Go.RowKit Ref Fx
theorem rvadd_law (b off:Nat) (f:Bool) (x0 x1 x2 y0 y1 y2:Int) (W:World) (hc:W.cell? ⟨b,off,none⟩ = some (.bool f)) (hf:W.frozen? ⟨b,off,none⟩ = false) :
  Calls Tryz.prog 64 #[.pointer (some ⟨b,off,none⟩),.agg #[.int .i64 x0,.int .i64 x1,.int .i64 x2],.agg #[.int .i64 y0,.int .i64 y1,.int .i64 y2]] W fun e W'=>∃ v0 v1 v2 g,e = .returned (.agg #[.int .i64 v0,.int .i64 v1,.int .i64 v2])/\Hid (Step3 f (add x0 y0) (add x1 y1) (add x2 y2) v0 v1 v2 g)/\Hid (After ⟨b,off,none⟩ g W W'):=by
 have hbW:b < W.heap.size:=World.block_lt_of_cell? _ _ hc
 go_enter Tryz.func64,Tryz.ntmps64
 go_wp2_with (fail)
 refine (rvbare_any _).mono ?_
 rintro e W1 ⟨rfl,rfl⟩
 obtain ⟨U,hU⟩:∃ U,U = ((((W.alloc (.cells #[.int .i64 x0,.int .i64 x1,.int .i64 x2] 23)).alloc (.cells #[.int .i64 y0,.int .i64 y1,.int .i64 y2] 23)).alloc (.cells #[.int .i64 0,.int .i64 0,.int .i64 0] 23)).alloc (.cells #[.bool false] 44)):=⟨_,rfl⟩
 obtain ⟨pa,hpa⟩:∃ p,p = W.heap.size:=⟨_,rfl⟩
 obtain ⟨pb,hpb⟩:∃ p,p = W.heap.size + 1:=⟨_,rfl⟩
 obtain ⟨pr,hpr⟩:∃ p,p = W.heap.size + 1 + 1:=⟨_,rfl⟩
 obtain ⟨po,hpo⟩:∃ p,p = W.heap.size + 1 + 1 + 1:=⟨_,rfl⟩
 have H:Hid (Ho W U ⟨b,off,none⟩ po f false [(⟨pa,0,none⟩,.int .i64 x0),(⟨pa,1,none⟩,.int .i64 x1),(⟨pa,2,none⟩,.int .i64 x2),(⟨pb,0,none⟩,.int .i64 y0),(⟨pb,1,none⟩,.int .i64 y1),(⟨pb,2,none⟩,.int .i64 y2),(⟨pr,0,none⟩,.int .i64 0),(⟨pr,1,none⟩,.int .i64 0),(⟨pr,2,none⟩,.int .i64 0)]):=by
  refine ⟨by rw [hU];exact (((((Leaves.refl _ _).alloc _).alloc _).alloc _).alloc _),by rw [hU,World.cell?_alloc_past _ _ _ (by simp;omega),World.cell?_alloc_past _ _ _ (by simp;omega),World.cell?_alloc_past _ _ _ (by simp;omega),World.cell?_alloc_past _ _ _ hbW];exact hc,by rw [hU,((new_after _ _).frozen (by simp;omega)),((new_after _ _).frozen (by simp;omega)),((new_after _ _).frozen (by simp;omega)),((new_after _ _).frozen hbW)];exact hf,by rw [hU,hpo];simp [go_sem],by rw [hU,hpo];simp [go_sem],?_,?_,hbW,by omega⟩
  ·intro c hc
   simp only [List.mem_cons,List.not_mem_nil,or_false] at hc
   rcases hc with rfl | rfl | rfl | rfl | rfl | rfl | rfl | rfl | rfl <;> rw [hU] <;> dsimp only <;> first | (rw [hpa];exact ⟨by simp [go_sem],by simp [go_sem]⟩) | (rw [hpb];exact ⟨by simp [go_sem],by simp [go_sem]⟩) | (rw [hpr];exact ⟨by simp [go_sem],by simp [go_sem]⟩)
  ·intro c hc
   simp only [List.mem_cons,List.not_mem_nil,or_false] at hc
   rcases hc with rfl | rfl | rfl | rfl | rfl | rfl | rfl | rfl | rfl <;> (dsimp only) <;> omega
 rw [<- hU]
 simp only [World.size_alloc]
 rw [<- hpo,<- hpr,<- hpb,<- hpa]
 have q1:pa < pb:=by omega
 have q2:pb < pr:=by omega
 have q3:pr < po:=by omega
 have q0:W.heap.size <= pa:=by omega
 clear hU hc hf hpa hpb hpr hpo
 have k_pa_0:=(H.out.fix (⟨pa,0,none⟩,.int .i64 x0) (by simp)).1
 have k_pa_1:=(H.out.fix (⟨pa,1,none⟩,.int .i64 x1) (by simp)).1
 have k_pa_2:=(H.out.fix (⟨pa,2,none⟩,.int .i64 x2) (by simp)).1
 have k_pb_0:=(H.out.fix (⟨pb,0,none⟩,.int .i64 y0) (by simp)).1
 have k_pb_1:=(H.out.fix (⟨pb,1,none⟩,.int .i64 y1) (by simp)).1
 have k_pb_2:=(H.out.fix (⟨pb,2,none⟩,.int .i64 y2) (by simp)).1
 have l_pa:=World.block_lt_of_cell? _ _ k_pa_0
 dsimp only at l_pa
 have l_pb:=World.block_lt_of_cell? _ _ k_pb_0
 dsimp only at l_pb
 have ho:=H.out.own
 have hof:=H.out.ownf
 go_wp2_with (fail)
 refine (radd_law po 0 false x0 y0 _ ho hof).mono ?_
 rintro e Wg1 ⟨v0,g1,rfl,Sg1,A⟩
 have H:Hid _:=H.out.after A.out
 clear A k_pa_0 k_pa_1 k_pa_2 k_pb_0 k_pb_1 k_pb_2 l_pa l_pb ho hof
 have k_pa_0:=(H.out.fix (⟨pa,0,none⟩,.int .i64 x0) (by simp)).1
 have k_pa_1:=(H.out.fix (⟨pa,1,none⟩,.int .i64 x1) (by simp)).1
 have k_pa_2:=(H.out.fix (⟨pa,2,none⟩,.int .i64 x2) (by simp)).1
 have k_pb_0:=(H.out.fix (⟨pb,0,none⟩,.int .i64 y0) (by simp)).1
 have k_pb_1:=(H.out.fix (⟨pb,1,none⟩,.int .i64 y1) (by simp)).1
 have k_pb_2:=(H.out.fix (⟨pb,2,none⟩,.int .i64 y2) (by simp)).1
 have l_pa:=World.block_lt_of_cell? _ _ k_pa_0
 dsimp only at l_pa
 have l_pb:=World.block_lt_of_cell? _ _ k_pb_0
 dsimp only at l_pb
 have ho:=H.out.own
 have hof:=H.out.ownf
 go_wp2_with (fail)
 refine (radd_law po 0 g1 x1 y1 _ ho hof).mono ?_
 rintro e Wg2 ⟨v1,g2,rfl,Sg2,A⟩
 have H:Hid _:=H.out.after A.out
 clear A k_pa_0 k_pa_1 k_pa_2 k_pb_0 k_pb_1 k_pb_2 l_pa l_pb ho hof
 have k_pa_0:=(H.out.fix (⟨pa,0,none⟩,.int .i64 x0) (by simp)).1
 have k_pa_1:=(H.out.fix (⟨pa,1,none⟩,.int .i64 x1) (by simp)).1
 have k_pa_2:=(H.out.fix (⟨pa,2,none⟩,.int .i64 x2) (by simp)).1
 have k_pb_0:=(H.out.fix (⟨pb,0,none⟩,.int .i64 y0) (by simp)).1
 have k_pb_1:=(H.out.fix (⟨pb,1,none⟩,.int .i64 y1) (by simp)).1
 have k_pb_2:=(H.out.fix (⟨pb,2,none⟩,.int .i64 y2) (by simp)).1
 have l_pa:=World.block_lt_of_cell? _ _ k_pa_0
 dsimp only at l_pa
 have l_pb:=World.block_lt_of_cell? _ _ k_pb_0
 dsimp only at l_pb
 have ho:=H.out.own
 have hof:=H.out.ownf
 go_wp2_with (fail)
 refine (radd_law po 0 g2 x2 y2 _ ho hof).mono ?_
 rintro e Wg3 ⟨v2,g3,rfl,Sg3,A⟩
 have H:Hid _:=H.out.after A.out
 clear A k_pa_0 k_pa_1 k_pa_2 k_pb_0 k_pb_1 k_pb_2 l_pa l_pb ho hof
 go_wp2_with (fail)
 refine (done_any b off po f g3 _ H.out.flag H.out.flagf H.out.own (by omega)).mono ?_
 rintro e V9 ⟨rfl,A⟩
 have rr0:=A.out.cellOf (H.out.fix (⟨pr,0,none⟩,.int .i64 0) (by simp)).1 (by show pr ≠ b;omega)
 have rf0:=A.out.frozenOf (H.out.fix (⟨pr,0,none⟩,.int .i64 0) (by simp)).1 (H.out.fix (⟨pr,0,none⟩,.int .i64 0) (by simp)).2 (by show pr ≠ b;omega)
 have rr1:=A.out.cellOf (H.out.fix (⟨pr,1,none⟩,.int .i64 0) (by simp)).1 (by show pr ≠ b;omega)
 have rf1:=A.out.frozenOf (H.out.fix (⟨pr,1,none⟩,.int .i64 0) (by simp)).1 (H.out.fix (⟨pr,1,none⟩,.int .i64 0) (by simp)).2 (by show pr ≠ b;omega)
 have rr2:=A.out.cellOf (H.out.fix (⟨pr,2,none⟩,.int .i64 0) (by simp)).1 (by show pr ≠ b;omega)
 have rf2:=A.out.frozenOf (H.out.fix (⟨pr,2,none⟩,.int .i64 0) (by simp)).1 (H.out.fix (⟨pr,2,none⟩,.int .i64 0) (by simp)).2 (by show pr ≠ b;omega)
 have HL:Hid (Leaves ⟨b,off,none⟩ W V9):=H.out.leaves.same A.out
 have hp:=A.out.cell
 have hpf:=A.out.frozen
 have n1:b ≠ pr:=by omega
 have n2:pr ≠ b:=by omega
 have hWr:W.heap.size <= pr:=by omega
 have HS:Hid _:=step3_chain (f:=f) Sg1.out Sg2.out Sg3.out
 clear A H
 cases g3 with
 | true =>
  go_wp2_with (fail)
  refine bodyPost_ret (by simp [results,Tryz.results64,go_sem,rr0,rr1,rr2];try rfl) rfl ?_
  refine ⟨0,0,0,_,rfl,HS.out,(((HL.out.set hWr _).set hWr _).set hWr _).done ?_ ?_⟩
  ·simp [go_sem,hp]
  ·simp [go_sem,hpf]
 | false =>
  go_wp2_with (fail)
  refine bodyPost_ret (by simp [results,Tryz.results64,go_sem,rr0,rr1,rr2];try rfl) rfl ?_
  refine ⟨_,_,_,_,rfl,HS.out,(((HL.out.set hWr _).set hWr _).set hWr _).done ?_ ?_⟩
  ·simp [go_sem,hp]
  ·simp [go_sem,hpf]
theorem rvscale_law (b off:Nat) (f:Bool) (x0 x1 x2 n:Int) (W:World) (hc:W.cell? ⟨b,off,none⟩ = some (.bool f)) (hf:W.frozen? ⟨b,off,none⟩ = false) :
  Calls Tryz.prog 40 #[.pointer (some ⟨b,off,none⟩),.agg #[.int .i64 x0,.int .i64 x1,.int .i64 x2],.int .i64 n] W fun e W'=>∃ v0 v1 v2 g,e = .returned (.agg #[.int .i64 v0,.int .i64 v1,.int .i64 v2])/\Hid (Step3 f (mul x0 n) (mul x1 n) (mul x2 n) v0 v1 v2 g)/\Hid (After ⟨b,off,none⟩ g W W'):=by
 have hbW:b < W.heap.size:=World.block_lt_of_cell? _ _ hc
 go_enter Tryz.func40,Tryz.ntmps40
 go_wp2_with (fail)
 refine (rvbare_any _).mono ?_
 rintro e W1 ⟨rfl,rfl⟩
 obtain ⟨U,hU⟩:∃ U,U = (((W.alloc (.cells #[.int .i64 x0,.int .i64 x1,.int .i64 x2] 23)).alloc (.cells #[.int .i64 0,.int .i64 0,.int .i64 0] 23)).alloc (.cells #[.bool false] 44)):=⟨_,rfl⟩
 obtain ⟨pa,hpa⟩:∃ p,p = W.heap.size:=⟨_,rfl⟩
 obtain ⟨pr,hpr⟩:∃ p,p = W.heap.size + 1:=⟨_,rfl⟩
 obtain ⟨po,hpo⟩:∃ p,p = W.heap.size + 1 + 1:=⟨_,rfl⟩
 have H:Hid (Ho W U ⟨b,off,none⟩ po f false [(⟨pa,0,none⟩,.int .i64 x0),(⟨pa,1,none⟩,.int .i64 x1),(⟨pa,2,none⟩,.int .i64 x2),(⟨pr,0,none⟩,.int .i64 0),(⟨pr,1,none⟩,.int .i64 0),(⟨pr,2,none⟩,.int .i64 0)]):=by
  refine ⟨by rw [hU];exact ((((Leaves.refl _ _).alloc _).alloc _).alloc _),by rw [hU,World.cell?_alloc_past _ _ _ (by simp;omega),World.cell?_alloc_past _ _ _ (by simp;omega),World.cell?_alloc_past _ _ _ hbW];exact hc,by rw [hU,((new_after _ _).frozen (by simp;omega)),((new_after _ _).frozen (by simp;omega)),((new_after _ _).frozen hbW)];exact hf,by rw [hU,hpo];simp [go_sem],by rw [hU,hpo];simp [go_sem],?_,?_,hbW,by omega⟩
  ·intro c hc
   simp only [List.mem_cons,List.not_mem_nil,or_false] at hc
   rcases hc with rfl | rfl | rfl | rfl | rfl | rfl <;> rw [hU] <;> dsimp only <;> first | (rw [hpa];exact ⟨by simp [go_sem],by simp [go_sem]⟩) | (rw [hpr];exact ⟨by simp [go_sem],by simp [go_sem]⟩)
  ·intro c hc
   simp only [List.mem_cons,List.not_mem_nil,or_false] at hc
   rcases hc with rfl | rfl | rfl | rfl | rfl | rfl <;> (dsimp only) <;> omega
 rw [<- hU]
 simp only [World.size_alloc]
 rw [<- hpo,<- hpr,<- hpa]
 have q1:pa < pr:=by omega
 have q2:pr < po:=by omega
 have q0:W.heap.size <= pa:=by omega
 clear hU hc hf hpa hpr hpo
 have k_pa_0:=(H.out.fix (⟨pa,0,none⟩,.int .i64 x0) (by simp)).1
 have k_pa_1:=(H.out.fix (⟨pa,1,none⟩,.int .i64 x1) (by simp)).1
 have k_pa_2:=(H.out.fix (⟨pa,2,none⟩,.int .i64 x2) (by simp)).1
 have l_pa:=World.block_lt_of_cell? _ _ k_pa_0
 dsimp only at l_pa
 have ho:=H.out.own
 have hof:=H.out.ownf
 go_wp2_with (fail)
 refine (rmul_law po 0 false x0 n _ ho hof).mono ?_
 rintro e Wg1 ⟨v0,g1,rfl,Sg1,A⟩
 have H:Hid _:=H.out.after A.out
 clear A k_pa_0 k_pa_1 k_pa_2 l_pa ho hof
 have k_pa_0:=(H.out.fix (⟨pa,0,none⟩,.int .i64 x0) (by simp)).1
 have k_pa_1:=(H.out.fix (⟨pa,1,none⟩,.int .i64 x1) (by simp)).1
 have k_pa_2:=(H.out.fix (⟨pa,2,none⟩,.int .i64 x2) (by simp)).1
 have l_pa:=World.block_lt_of_cell? _ _ k_pa_0
 dsimp only at l_pa
 have ho:=H.out.own
 have hof:=H.out.ownf
 go_wp2_with (fail)
 refine (rmul_law po 0 g1 x1 n _ ho hof).mono ?_
 rintro e Wg2 ⟨v1,g2,rfl,Sg2,A⟩
 have H:Hid _:=H.out.after A.out
 clear A k_pa_0 k_pa_1 k_pa_2 l_pa ho hof
 have k_pa_0:=(H.out.fix (⟨pa,0,none⟩,.int .i64 x0) (by simp)).1
 have k_pa_1:=(H.out.fix (⟨pa,1,none⟩,.int .i64 x1) (by simp)).1
 have k_pa_2:=(H.out.fix (⟨pa,2,none⟩,.int .i64 x2) (by simp)).1
 have l_pa:=World.block_lt_of_cell? _ _ k_pa_0
 dsimp only at l_pa
 have ho:=H.out.own
 have hof:=H.out.ownf
 go_wp2_with (fail)
 refine (rmul_law po 0 g2 x2 n _ ho hof).mono ?_
 rintro e Wg3 ⟨v2,g3,rfl,Sg3,A⟩
 have H:Hid _:=H.out.after A.out
 clear A k_pa_0 k_pa_1 k_pa_2 l_pa ho hof
 go_wp2_with (fail)
 refine (done_any b off po f g3 _ H.out.flag H.out.flagf H.out.own (by omega)).mono ?_
 rintro e V9 ⟨rfl,A⟩
 have rr0:=A.out.cellOf (H.out.fix (⟨pr,0,none⟩,.int .i64 0) (by simp)).1 (by show pr ≠ b;omega)
 have rf0:=A.out.frozenOf (H.out.fix (⟨pr,0,none⟩,.int .i64 0) (by simp)).1 (H.out.fix (⟨pr,0,none⟩,.int .i64 0) (by simp)).2 (by show pr ≠ b;omega)
 have rr1:=A.out.cellOf (H.out.fix (⟨pr,1,none⟩,.int .i64 0) (by simp)).1 (by show pr ≠ b;omega)
 have rf1:=A.out.frozenOf (H.out.fix (⟨pr,1,none⟩,.int .i64 0) (by simp)).1 (H.out.fix (⟨pr,1,none⟩,.int .i64 0) (by simp)).2 (by show pr ≠ b;omega)
 have rr2:=A.out.cellOf (H.out.fix (⟨pr,2,none⟩,.int .i64 0) (by simp)).1 (by show pr ≠ b;omega)
 have rf2:=A.out.frozenOf (H.out.fix (⟨pr,2,none⟩,.int .i64 0) (by simp)).1 (H.out.fix (⟨pr,2,none⟩,.int .i64 0) (by simp)).2 (by show pr ≠ b;omega)
 have HL:Hid (Leaves ⟨b,off,none⟩ W V9):=H.out.leaves.same A.out
 have hp:=A.out.cell
 have hpf:=A.out.frozen
 have n1:b ≠ pr:=by omega
 have n2:pr ≠ b:=by omega
 have hWr:W.heap.size <= pr:=by omega
 have HS:Hid _:=step3_chain (f:=f) Sg1.out Sg2.out Sg3.out
 clear A H
 cases g3 with
 | true =>
  go_wp2_with (fail)
  refine bodyPost_ret (by simp [results,Tryz.results40,go_sem,rr0,rr1,rr2];try rfl) rfl ?_
  refine ⟨0,0,0,_,rfl,HS.out,(((HL.out.set hWr _).set hWr _).set hWr _).done ?_ ?_⟩
  ·simp [go_sem,hp]
  ·simp [go_sem,hpf]
 | false =>
  go_wp2_with (fail)
  refine bodyPost_ret (by simp [results,Tryz.results40,go_sem,rr0,rr1,rr2];try rfl) rfl ?_
  refine ⟨_,_,_,_,rfl,HS.out,(((HL.out.set hWr _).set hWr _).set hWr _).done ?_ ?_⟩
  ·simp [go_sem,hp]
  ·simp [go_sem,hpf]
theorem step1_done {f g:Bool} {o:Option Int} {v:Int} (h:Step false o v g):Step f o v (f || g):=by
 obtain ⟨rfl,rfl⟩:=h
 exact ⟨rfl,by simp only [Bool.false_or]⟩
theorem rvdot_law (b off:Nat) (f:Bool) (x0 x1 x2 y0 y1 y2:Int) (W:World) (hc:W.cell? ⟨b,off,none⟩ = some (.bool f)) (hf:W.frozen? ⟨b,off,none⟩ = false) :
  Calls Tryz.prog 113 #[.pointer (some ⟨b,off,none⟩),.agg #[.int .i64 x0,.int .i64 x1,.int .i64 x2],.agg #[.int .i64 y0,.int .i64 y1,.int .i64 y2]] W fun e W'=>∃ v g,e = .returned (.int .i64 v)/\Hid (Step f (dot [x0,x1,x2] [y0,y1,y2]) v g)/\Hid (After ⟨b,off,none⟩ g W W'):=by
 have hbW:b < W.heap.size:=World.block_lt_of_cell? _ _ hc
 go_enter Tryz.func113,Tryz.ntmps113
 go_wp2_with (fail)
 refine (rvbare_any _).mono ?_
 rintro e W1 ⟨rfl,rfl⟩
 obtain ⟨U,hU⟩:∃ U,U = (((W.alloc (.cells #[.int .i64 x0,.int .i64 x1,.int .i64 x2] 23)).alloc (.cells #[.int .i64 y0,.int .i64 y1,.int .i64 y2] 23)).alloc (.cells #[.bool false] 44)):=⟨_,rfl⟩
 obtain ⟨pa,hpa⟩:∃ p,p = W.heap.size:=⟨_,rfl⟩
 obtain ⟨pb,hpb⟩:∃ p,p = W.heap.size + 1:=⟨_,rfl⟩
 obtain ⟨po,hpo⟩:∃ p,p = W.heap.size + 1 + 1:=⟨_,rfl⟩
 have H:Hid (Ho W U ⟨b,off,none⟩ po f false [(⟨pa,0,none⟩,.int .i64 x0),(⟨pa,1,none⟩,.int .i64 x1),(⟨pa,2,none⟩,.int .i64 x2),(⟨pb,0,none⟩,.int .i64 y0),(⟨pb,1,none⟩,.int .i64 y1),(⟨pb,2,none⟩,.int .i64 y2)]):=by
  refine ⟨by rw [hU];exact ((((Leaves.refl _ _).alloc _).alloc _).alloc _),by rw [hU,World.cell?_alloc_past _ _ _ (by simp;omega),World.cell?_alloc_past _ _ _ (by simp;omega),World.cell?_alloc_past _ _ _ hbW];exact hc,by rw [hU,((new_after _ _).frozen (by simp;omega)),((new_after _ _).frozen (by simp;omega)),((new_after _ _).frozen hbW)];exact hf,by rw [hU,hpo];simp [go_sem],by rw [hU,hpo];simp [go_sem],?_,?_,hbW,by omega⟩
  ·intro c hc
   simp only [List.mem_cons,List.not_mem_nil,or_false] at hc
   rcases hc with rfl | rfl | rfl | rfl | rfl | rfl <;> rw [hU] <;> dsimp only <;> first | (rw [hpa];exact ⟨by simp [go_sem],by simp [go_sem]⟩) | (rw [hpb];exact ⟨by simp [go_sem],by simp [go_sem]⟩)
  ·intro c hc
   simp only [List.mem_cons,List.not_mem_nil,or_false] at hc
   rcases hc with rfl | rfl | rfl | rfl | rfl | rfl <;> (dsimp only) <;> omega
 rw [<- hU]
 simp only [World.size_alloc]
 rw [<- hpo,<- hpb,<- hpa]
 have q1:pa < pb:=by omega
 have q2:pb < po:=by omega
 have q0:W.heap.size <= pa:=by omega
 clear hU hc hf hpa hpb hpo
 have k_pa_0:=(H.out.fix (⟨pa,0,none⟩,.int .i64 x0) (by simp)).1
 have k_pa_1:=(H.out.fix (⟨pa,1,none⟩,.int .i64 x1) (by simp)).1
 have k_pa_2:=(H.out.fix (⟨pa,2,none⟩,.int .i64 x2) (by simp)).1
 have k_pb_0:=(H.out.fix (⟨pb,0,none⟩,.int .i64 y0) (by simp)).1
 have k_pb_1:=(H.out.fix (⟨pb,1,none⟩,.int .i64 y1) (by simp)).1
 have k_pb_2:=(H.out.fix (⟨pb,2,none⟩,.int .i64 y2) (by simp)).1
 have l_pa:=World.block_lt_of_cell? _ _ k_pa_0
 dsimp only at l_pa
 have l_pb:=World.block_lt_of_cell? _ _ k_pb_0
 dsimp only at l_pb
 have ho:=H.out.own
 have hof:=H.out.ownf
 go_wp2_with (fail)
 refine (rdot_law po 0 false [x0,x1,x2] [y0,y1,y2] (some ⟨U.heap.size,0,none⟩) (some ⟨U.heap.size + 1,0,none⟩) 3 3 ((U.alloc (.cells #[.int .i64 x0,.int .i64 x1,.int .i64 x2] 3)).alloc (.cells #[.int .i64 y0,.int .i64 y1,.int .i64 y2] 3)) ((H.out.alloc (.cells #[.int .i64 x0,.int .i64 x1,.int .i64 x2] 3)).alloc (.cells #[.int .i64 y0,.int .i64 y1,.int .i64 y2] 3)).own ((H.out.alloc (.cells #[.int .i64 x0,.int .i64 x1,.int .i64 x2] 3)).alloc (.cells #[.int .i64 y0,.int .i64 y1,.int .i64 y2] 3)).ownf (by simp) (by simp) (row3 (by simp [go_sem]) (by simp [go_sem]) (by simp [go_sem])) (row3 (by simp [go_sem]) (by simp [go_sem]) (by simp [go_sem]))).mono ?_
 rintro e Wg1 ⟨v0,g1,rfl,Sg1,A⟩
 have H:Hid _:=((H.out.alloc (.cells #[.int .i64 x0,.int .i64 x1,.int .i64 x2] 3)).alloc (.cells #[.int .i64 y0,.int .i64 y1,.int .i64 y2] 3)).after A.out
 clear A k_pa_0 k_pa_1 k_pa_2 k_pb_0 k_pb_1 k_pb_2 l_pa l_pb ho hof
 go_wp2_with (fail)
 refine (done_any b off po f g1 _ H.out.flag H.out.flagf H.out.own (by omega)).mono ?_
 rintro e V9 ⟨rfl,A⟩
 have HA:Hid (After ⟨b,off,none⟩ (f || g1) W V9):=(H.out.leaves.same A.out).done A.out.cell A.out.frozen
 clear A H
 go_wp2_with (fail)
 go_ret
 exact ⟨v0,_,rfl,step1_done Sg1.out,HA⟩
theorem rvlen_law (b off:Nat) (f:Bool) (x0 x1 x2:Int) (W:World) (hc:W.cell? ⟨b,off,none⟩ = some (.bool f)) (hf:W.frozen? ⟨b,off,none⟩ = false) :
  Calls Tryz.prog 41 #[.pointer (some ⟨b,off,none⟩),.agg #[.int .i64 x0,.int .i64 x1,.int .i64 x2]] W fun e W'=>∃ v g,e = .returned (.int .i64 v)/\Hid (Step f (norm [x0,x1,x2]) v g)/\Hid (After ⟨b,off,none⟩ g W W'):=by
 have hbW:b < W.heap.size:=World.block_lt_of_cell? _ _ hc
 go_enter Tryz.func41,Tryz.ntmps41
 go_wp2_with (fail)
 refine (rvbare_any _).mono ?_
 rintro e W1 ⟨rfl,rfl⟩
 obtain ⟨U,hU⟩:∃ U,U = ((W.alloc (.cells #[.int .i64 x0,.int .i64 x1,.int .i64 x2] 23)).alloc (.cells #[.bool false] 44)):=⟨_,rfl⟩
 obtain ⟨pa,hpa⟩:∃ p,p = W.heap.size:=⟨_,rfl⟩
 obtain ⟨po,hpo⟩:∃ p,p = W.heap.size + 1:=⟨_,rfl⟩
 have H:Hid (Ho W U ⟨b,off,none⟩ po f false [(⟨pa,0,none⟩,.int .i64 x0),(⟨pa,1,none⟩,.int .i64 x1),(⟨pa,2,none⟩,.int .i64 x2)]):=by
  refine ⟨by rw [hU];exact (((Leaves.refl _ _).alloc _).alloc _),by rw [hU,World.cell?_alloc_past _ _ _ (by simp;omega),World.cell?_alloc_past _ _ _ hbW];exact hc,by rw [hU,((new_after _ _).frozen (by simp;omega)),((new_after _ _).frozen hbW)];exact hf,by rw [hU,hpo];simp [go_sem],by rw [hU,hpo];simp [go_sem],?_,?_,hbW,by omega⟩
  ·intro c hc
   simp only [List.mem_cons,List.not_mem_nil,or_false] at hc
   rcases hc with rfl | rfl | rfl <;> rw [hU] <;> dsimp only <;> first | (rw [hpa];exact ⟨by simp [go_sem],by simp [go_sem]⟩)
  ·intro c hc
   simp only [List.mem_cons,List.not_mem_nil,or_false] at hc
   rcases hc with rfl | rfl | rfl <;> (dsimp only) <;> omega
 rw [<- hU]
 simp only [World.size_alloc]
 rw [<- hpo,<- hpa]
 have q1:pa < po:=by omega
 have q0:W.heap.size <= pa:=by omega
 clear hU hc hf hpa hpo
 have k_pa_0:=(H.out.fix (⟨pa,0,none⟩,.int .i64 x0) (by simp)).1
 have k_pa_1:=(H.out.fix (⟨pa,1,none⟩,.int .i64 x1) (by simp)).1
 have k_pa_2:=(H.out.fix (⟨pa,2,none⟩,.int .i64 x2) (by simp)).1
 have l_pa:=World.block_lt_of_cell? _ _ k_pa_0
 dsimp only at l_pa
 have ho:=H.out.own
 have hof:=H.out.ownf
 go_wp2_with (fail)
 refine (rnorm_law po 0 false [x0,x1,x2] _ 3 _ (H.out.alloc (.cells #[.int .i64 x0,.int .i64 x1,.int .i64 x2] 3)).own (H.out.alloc (.cells #[.int .i64 x0,.int .i64 x1,.int .i64 x2] 3)).ownf (by simp) (row3 (by simp [go_sem]) (by simp [go_sem]) (by simp [go_sem]))).mono ?_
 rintro e Wg1 ⟨v0,g1,rfl,Sg1,A⟩
 have H:Hid _:=(H.out.alloc (.cells #[.int .i64 x0,.int .i64 x1,.int .i64 x2] 3)).after A.out
 clear A k_pa_0 k_pa_1 k_pa_2 l_pa ho hof
 go_wp2_with (fail)
 refine (done_any b off po f g1 _ H.out.flag H.out.flagf H.out.own (by omega)).mono ?_
 rintro e V9 ⟨rfl,A⟩
 have HA:Hid (After ⟨b,off,none⟩ (f || g1) W V9):=(H.out.leaves.same A.out).done A.out.cell A.out.frozen
 clear A H
 go_wp2_with (fail)
 go_ret
 exact ⟨v0,_,rfl,step1_done Sg1.out,HA⟩
end
end Go.Proofs.YtpjaacpcdomfiaaGreat
