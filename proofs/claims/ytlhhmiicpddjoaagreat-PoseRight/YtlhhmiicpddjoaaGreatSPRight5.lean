/- Package vec's inner functions that do the same with each part, for any method value. -/
import Derived.Test.YtlhhmiicpddjoaaGreatSPRight0
import Derived.Test.YtlhhmiicpddjoaaGreatSPRight4
set_option maxHeartbeats 4000000
set_option maxRecDepth 100000
set_option linter.unusedVariables false
namespace Go.Proofs.YtlhhmiicpddjoaaGreat
section
open Go.RowKit Go.Shelf Fx
theorem each_gen (gf:Nat) (fv:Int->Int->Option Int) (fb:Nat) (eg:∀ args w,(callFunc gf args).run Tryz.prog w = .ok (.enter gf args) w)
  (hcon:∀ (x y:Int) (g:Bool) (w:World),w.cell? ⟨fb,0,none⟩ = some (.bool g)->w.frozen? ⟨fb,0,none⟩ = false->Calls Tryz.prog gf #[.pointer (some ⟨fb,0,none⟩),.int .i64 x,.int .i64 y] w fun e w'=>e = .returned (.int .i64 ((fv x y).getD 0))/\Hid (After ⟨fb,0,none⟩ (g || (fv x y).isNone) w w'))
  (f:Bool) (xa0 xa1 xa2 ya0 ya1 ya2:Int) (W:World) (hc:W.cell? ⟨fb,0,none⟩ = some (.bool f)) (hf:W.frozen? ⟨fb,0,none⟩ = false) :
  Calls Tryz.prog 79 #[.func (.func gf) #[.pointer (some ⟨fb,0,none⟩)] #[],.agg #[.int .i64 xa0,.int .i64 xa1,.int .i64 xa2],.agg #[.int .i64 ya0,.int .i64 ya1,.int .i64 ya2]] W fun e W'=>∃ g,e = .returned (.agg #[.int .i64 ((fv xa0 ya0).getD 0),.int .i64 ((fv xa1 ya1).getD 0),.int .i64 ((fv xa2 ya2).getD 0)])/\Hid (g = (f || ((fv xa0 ya0).isNone || (fv xa1 ya1).isNone || (fv xa2 ya2).isNone)))/\Hid (After ⟨fb,0,none⟩ g W W'):=by
 have hbW:fb < W.heap.size:=World.block_lt_of_cell? _ _ hc
 obtain ⟨V,hV⟩:∃ V,V = (((W.alloc (.cells #[.int .i64 xa0,.int .i64 xa1,.int .i64 xa2] 27)).alloc (.cells #[.int .i64 ya0,.int .i64 ya1,.int .i64 ya2] 27)).alloc (.cells #[.int .i64 0,.int .i64 0,.int .i64 0] 27)):=⟨_,rfl⟩
 have hb0:=n_after W (.cells #[.int .i64 xa0,.int .i64 xa1,.int .i64 xa2] 27)
 have hb1:=n_after (W.alloc (.cells #[.int .i64 xa0,.int .i64 xa1,.int .i64 xa2] 27)) (.cells #[.int .i64 ya0,.int .i64 ya1,.int .i64 ya2] 27)
 have hb2:=n_after ((W.alloc (.cells #[.int .i64 xa0,.int .i64 xa1,.int .i64 xa2] 27)).alloc (.cells #[.int .i64 ya0,.int .i64 ya1,.int .i64 ya2] 27)) (.cells #[.int .i64 0,.int .i64 0,.int .i64 0] 27)
 have CA:CW V (W.heap.size) [.int .i64 xa0,.int .i64 xa1,.int .i64 xa2]:=by
  have h9:=((CW.new W [.int .i64 xa0,.int .i64 xa1,.int .i64 xa2] 27).step hb1).step hb2
  rw [hV];exact h9
 have CB:CW V (W.heap.size + 1) [.int .i64 ya0,.int .i64 ya1,.int .i64 ya2]:=by
  have h9:=(CW.new (W.alloc (.cells #[.int .i64 xa0,.int .i64 xa1,.int .i64 xa2] 27)) [.int .i64 ya0,.int .i64 ya1,.int .i64 ya2] 27).step hb2
  simp only [World.size_alloc] at h9
  rw [hV];exact h9
 have CR:CW V (W.heap.size + 1 + 1) [.int .i64 0,.int .i64 0,.int .i64 0]:=by
  have h9:=CW.new ((W.alloc (.cells #[.int .i64 xa0,.int .i64 xa1,.int .i64 xa2] 27)).alloc (.cells #[.int .i64 ya0,.int .i64 ya1,.int .i64 ya2] 27)) [.int .i64 0,.int .i64 0,.int .i64 0] 27
  simp only [World.size_alloc] at h9
  rw [hV];exact h9
 have hB:Below W.heap.size W V:=by rw [hV];exact (b_step (b_step hb0 hb1) hb2)
 have hcV:=c_after hB hc
 have hfV:=f_after hB hc hf
 have HLV:Hid (Leaves ⟨fb,0,none⟩ W V):=(Leaves.refl _ _).step hB
 clear hb0 hb1 hb2
 clear hc hf hB
 go_enter Tryz.func79,Tryz.ntmps79
 go_upto_region 1 with fail
 rw [<- hV]
 clear hV
 obtain ⟨pr,hpr⟩:∃ p,p = W.heap.size + 1 + 1:=⟨_,rfl⟩
 obtain ⟨pb,hpb⟩:∃ p,p = W.heap.size + 1:=⟨_,rfl⟩
 obtain ⟨pa,hpa⟩:∃ p,p = W.heap.size:=⟨_,rfl⟩
 rw [<- hpr] at CR
 rw [<- hpb] at CB
 rw [<- hpa] at CA
 rw [<- hpr,<- hpb,<- hpa]
 have na:pa ≠ fb:=by omega
 have nb:pb ≠ fb:=by omega
 have nr:pr ≠ fb:=by omega
 have nr':fb ≠ pr:=by omega
 have hpr9:W.heap.size <= pr:=by omega
 clear hpr hpa hpb hbW
 have hpr:=hpr9
 refine RV.rs [.some (.func (.func gf) #[.pointer (some ⟨fb,0,none⟩)] #[]),.some (.pointer (some ⟨pa,0,none⟩)),.some (.int .i64 xa0),.some (.pointer (some ⟨pb,0,none⟩)),.some (.int .i64 ya0),.some (.int .i64 ((fv xa0 ya0).getD 0)),.some (.func (.func gf) #[.pointer (some ⟨fb,0,none⟩)] #[]),.some (.pointer (some ⟨pa,1,none⟩)),.some (.int .i64 xa1),.some (.pointer (some ⟨pb,1,none⟩)),.some (.int .i64 ya1),.some (.int .i64 ((fv xa1 ya1).getD 0)),.some (.func (.func gf) #[.pointer (some ⟨fb,0,none⟩)] #[]),.some (.pointer (some ⟨pa,2,none⟩)),.some (.int .i64 xa2),.some (.pointer (some ⟨pb,2,none⟩)),.some (.int .i64 ya2),.some (.int .i64 ((fv xa2 ya2).getD 0)),.some (.agg #[.int .i64 ((fv xa0 ya0).getD 0),.int .i64 ((fv xa1 ya1).getD 0),.int .i64 ((fv xa2 ya2).getD 0)]),none] [8,9,10,11,12,13,14,15,16,17,18,19,20,21,22,23,24,25,26,0] [(0,.func (.func gf) #[.pointer (some ⟨fb,0,none⟩)] #[]),(4,.pointer (some ⟨pa,0,none⟩)),(5,.pointer (some ⟨pb,0,none⟩)),(6,.pointer (some ⟨pr,0,none⟩))] (fun γ L w9=>FGS V ⟨fb,0,none⟩ f [(5,(fv xa0 ya0).isNone),(11,(fv xa1 ya1).isNone),(17,(fv xa2 ya2).isNone)] 19 (fun w=>(((w.setCell ⟨pr,0,none⟩ (.int .i64 ((fv xa0 ya0).getD 0))).setCell ⟨pr,1,none⟩ (.int .i64 ((fv xa1 ya1).getD 0))).setCell ⟨pr,2,none⟩ (.int .i64 ((fv xa2 ya2).getD 0)))) L w9) ⟨rfl,rfl,rfl,rfl,trivial⟩ ?_ ?_ ?_
 ·exact FGS.start hcV hfV
 ·intro D WA Z hD hWA hZ T
  simp only [RV.Outs,RV.Slots,Nat.reduceAdd] at T
  iterate 5 first
   | (refine RV.cc _ (RV.pu T (fun γ v L w hl h=>h.stay (by decide) rfl) (fun γ L a w hH hl h9 k9=>⟨_,?_,rfl⟩)) ?_;· simp [execOp,go_sem,h9])
   | (refine RV.cc _ (RV.pu T (fun γ v L w hl h=>h.stay (by decide) rfl) (fun γ L a w hH hl h9 k9=>⟨_,?_,rfl⟩)) ?_;· have hG:=hH.glob.early (RV.ny hH (RV.wt (j:=19) hWA (by kernel_rfl)) hl);have q0:=hG.at (CA 0 _ rfl).1 na;have q1:=hG.at (CB 0 _ rfl).1 nb;simp [Region.binds] at k9;simp [execOp,go_sem,h9,k9,q0,q1])
  refine RV.cc _ (RV.dc (fun γ L a w hH hl hA=>by have h9:=T γ L a w hH;have k9:=hA;simp [Region.binds] at k9;have hG:=hH.glob.early (RV.ny hH (RV.wt (j:=19) (i:=5) hWA (by kernel_rfl)) hl);exact ⟨gf,#[.pointer (some ⟨fb,0,none⟩),.int .i64 xa0,.int .i64 ya0],by simp [go_sem,eg,h9,k9],Calls.mono (hcon xa0 ya0 _ w hG.cell hG.frozen) (by rintro e w2 ⟨rfl,ha⟩;exact ⟨_,rfl,rfl,fun j v _ h=>h.keep _,FGS.come hG (by decide) (RV.ny hH (RV.wt (j:=19) (i:=5) hWA (by kernel_rfl)) hl) hl rfl ha.out⟩)⟩)) ?_
  iterate 5 first
   | (refine RV.cc _ (RV.pu T (fun γ v L w hl h=>h.stay (by decide) rfl) (fun γ L a w hH hl h9 k9=>⟨_,?_,rfl⟩)) ?_;· simp [execOp,go_sem,h9])
   | (refine RV.cc _ (RV.pu T (fun γ v L w hl h=>h.stay (by decide) rfl) (fun γ L a w hH hl h9 k9=>⟨_,?_,rfl⟩)) ?_;· have hG:=hH.glob.early (RV.ny hH (RV.wt (j:=19) hWA (by kernel_rfl)) hl);have q0:=hG.at (CA 1 _ rfl).1 na;have q1:=hG.at (CB 1 _ rfl).1 nb;simp [Region.binds] at k9;simp [execOp,go_sem,h9,k9,q0,q1])
  refine RV.cc _ (RV.dc (fun γ L a w hH hl hA=>by have h9:=T γ L a w hH;have k9:=hA;simp [Region.binds] at k9;have hG:=hH.glob.early (RV.ny hH (RV.wt (j:=19) (i:=11) hWA (by kernel_rfl)) hl);exact ⟨gf,#[.pointer (some ⟨fb,0,none⟩),.int .i64 xa1,.int .i64 ya1],by simp [go_sem,eg,h9,k9],Calls.mono (hcon xa1 ya1 _ w hG.cell hG.frozen) (by rintro e w2 ⟨rfl,ha⟩;exact ⟨_,rfl,rfl,fun j v _ h=>h.keep _,FGS.come hG (by decide) (RV.ny hH (RV.wt (j:=19) (i:=11) hWA (by kernel_rfl)) hl) hl rfl ha.out⟩)⟩)) ?_
  iterate 5 first
   | (refine RV.cc _ (RV.pu T (fun γ v L w hl h=>h.stay (by decide) rfl) (fun γ L a w hH hl h9 k9=>⟨_,?_,rfl⟩)) ?_;· simp [execOp,go_sem,h9])
   | (refine RV.cc _ (RV.pu T (fun γ v L w hl h=>h.stay (by decide) rfl) (fun γ L a w hH hl h9 k9=>⟨_,?_,rfl⟩)) ?_;· have hG:=hH.glob.early (RV.ny hH (RV.wt (j:=19) hWA (by kernel_rfl)) hl);have q0:=hG.at (CA 2 _ rfl).1 na;have q1:=hG.at (CB 2 _ rfl).1 nb;simp [Region.binds] at k9;simp [execOp,go_sem,h9,k9,q0,q1])
  refine RV.cc _ (RV.dc (fun γ L a w hH hl hA=>by have h9:=T γ L a w hH;have k9:=hA;simp [Region.binds] at k9;have hG:=hH.glob.early (RV.ny hH (RV.wt (j:=19) (i:=17) hWA (by kernel_rfl)) hl);exact ⟨gf,#[.pointer (some ⟨fb,0,none⟩),.int .i64 xa2,.int .i64 ya2],by simp [go_sem,eg,h9,k9],Calls.mono (hcon xa2 ya2 _ w hG.cell hG.frozen) (by rintro e w2 ⟨rfl,ha⟩;exact ⟨_,rfl,rfl,fun j v _ h=>h.keep _,FGS.come hG (by decide) (RV.ny hH (RV.wt (j:=19) (i:=17) hWA (by kernel_rfl)) hl) hl rfl ha.out⟩)⟩)) ?_
  (refine RV.cc _ (RV.pu T (fun γ v L w hl h=>h.stay (by decide) rfl) (fun γ L a w hH hl h9 k9=>⟨_,?_,rfl⟩)) ?_;· simp [Region.binds] at k9;simp [execOp,go_sem,h9,k9])
  refine RV.cc _ (RV.does_store (fun γ L a w hH hl hA=>by have h9:=T γ L a w hH;have k9:=hA;simp [Region.binds] at k9;have hG:=hH.glob.early hl;have z0:=hG.at (CR 0 _ rfl).1 nr;have zf0:=hG.open (CR 0 _ rfl).1 (CR 0 _ rfl).2 nr;have z1:=hG.at (CR 1 _ rfl).1 nr;have zf1:=hG.open (CR 1 _ rfl).1 (CR 1 _ rfl).2 nr;have z2:=hG.at (CR 2 _ rfl).1 nr;have zf2:=hG.open (CR 2 _ rfl).1 (CR 2 _ rfl).2 nr;exact ⟨(((w.setCell ⟨pr,0,none⟩ (.int .i64 ((fv xa0 ya0).getD 0))).setCell ⟨pr,1,none⟩ (.int .i64 ((fv xa1 ya1).getD 0))).setCell ⟨pr,2,none⟩ (.int .i64 ((fv xa2 ya2).getD 0))),by simp [execOp,go_sem,z0,zf0,z1,zf1,z2,zf2,h9,k9],trivial,fun j v _ h=>h.keep _,FGS.store (S:=fun w=>(((w.setCell ⟨pr,0,none⟩ (.int .i64 ((fv xa0 ya0).getD 0))).setCell ⟨pr,1,none⟩ (.int .i64 ((fv xa1 ya1).getD 0))).setCell ⟨pr,2,none⟩ (.int .i64 ((fv xa2 ya2).getD 0)))) hG rfl⟩)) ?_
  exact RV.AllDo.nil
 ·intro γ w5 L9 hL hI9 hG9
  obtain ⟨w8,hF8,rfl⟩:=hG9.late (hL 19 (by decide))
  have hFL:orL f [(5,(fv xa0 ya0).isNone),(11,(fv xa1 ya1).isNone),(17,(fv xa2 ya2).isNone)] L9 = (f || ((fv xa0 ya0).isNone || (fv xa1 ya1).isNone || (fv xa2 ya2).isNone)):=by unfold orL;simp only [List.any_cons,List.any_nil,hL 5 (by decide),hL 11 (by decide),hL 17 (by decide),Bool.true_and,Bool.or_false,Bool.or_assoc]
  have HA8:Hid (After _ _ _ _):=hF8.leaves.done hF8.cell hF8.frozen
  rw [hFL] at HA8
  clear hF8 hFL
  clear hL hI9 hG9
  simp only [RV.putL,Act.put,List.setIfInBounds_toArray,List.set_cons_zero,List.set_cons_succ]
  have C1:Hid (CW w8 pr _):=(CR.leaves HA8.out.leaves nr)
  have HL:Hid (Leaves ⟨fb,0,none⟩ W _):=HLV.out.same HA8.out
  have hc8:=HA8.out.cell
  have hf8:=HA8.out.frozen
  obtain ⟨r0,q0⟩:=C1.out 0 _ rfl
  obtain ⟨r1,q1⟩:=C1.out 1 _ rfl
  obtain ⟨r2,q2⟩:=C1.out 2 _ rfl
  clear C1 HA8
  go_wp2_with (fail)
  refine bodyPost_ret (by simp [results,Tryz.results79,go_sem,r0,r1,r2];try rfl) rfl ?_
  refine ⟨_,rfl,rfl,(((HL.out.set hpr _).set hpr _).set hpr _).done ?_ ?_⟩
  ·simp [go_sem,hc8]
  ·simp [go_sem,hf8]
theorem each_add_any (b:Nat) (f:Bool) (x0 x1 x2 y0 y1 y2:Int) (W:World) (hc:W.cell? ⟨b,0,none⟩ = some (.bool f)) (hf:W.frozen? ⟨b,0,none⟩ = false) :
  Calls Tryz.prog 79 #[.func (.func 74) #[.pointer (some ⟨b,0,none⟩)] #[],.agg #[.int .i64 x0,.int .i64 x1,.int .i64 x2],.agg #[.int .i64 y0,.int .i64 y1,.int .i64 y2]] W fun e W' =>
   ∃ g,e = .returned (.agg #[.int .i64 ((add x0 y0).getD 0),.int .i64 ((add x1 y1).getD 0),.int .i64 ((add x2 y2).getD 0)])/\Hid (g = (f || ((add x0 y0).isNone || (add x1 y1).isNone || (add x2 y2).isNone)))/\Hid (After ⟨b,0,none⟩ g W W'):=
 each_gen 74 (add) b (enters_of Tryz.func74 (by kernel_rfl) rfl) (fun x y g w h1 h2=>by
  refine Calls.mono (add_law b 0 g x y w h1 h2) ?_
  rintro e w' ⟨v0,g0,rfl,SS,A⟩
  obtain ⟨rfl,rfl⟩:=SS.out
  exact ⟨rfl,A⟩) f x0 x1 x2 y0 y1 y2 W hc hf
theorem each4_gen (gf:Nat) (fv:Int->Int->Option Int) (fb:Nat) (eg:∀ args w,(callFunc gf args).run Tryz.prog w = .ok (.enter gf args) w)
  (hcon:∀ (x y:Int) (g:Bool) (w:World),w.cell? ⟨fb,0,none⟩ = some (.bool g)->w.frozen? ⟨fb,0,none⟩ = false->Calls Tryz.prog gf #[.pointer (some ⟨fb,0,none⟩),.int .i64 x,.int .i64 y] w fun e w'=>e = .returned (.int .i64 ((fv x y).getD 0))/\Hid (After ⟨fb,0,none⟩ (g || (fv x y).isNone) w w'))
  (f:Bool) (xa0 xa1 xa2 xa3 ya0 ya1 ya2 ya3:Int) (W:World) (hc:W.cell? ⟨fb,0,none⟩ = some (.bool f)) (hf:W.frozen? ⟨fb,0,none⟩ = false) :
  Calls Tryz.prog 73 #[.func (.func gf) #[.pointer (some ⟨fb,0,none⟩)] #[],.agg #[.int .i64 xa0,.int .i64 xa1,.int .i64 xa2,.int .i64 xa3],.agg #[.int .i64 ya0,.int .i64 ya1,.int .i64 ya2,.int .i64 ya3]] W fun e W'=>∃ g,e = .returned (.agg #[.int .i64 ((fv xa0 ya0).getD 0),.int .i64 ((fv xa1 ya1).getD 0),.int .i64 ((fv xa2 ya2).getD 0),.int .i64 ((fv xa3 ya3).getD 0)])/\Hid (g = (f || ((fv xa0 ya0).isNone || (fv xa1 ya1).isNone || (fv xa2 ya2).isNone || (fv xa3 ya3).isNone)))/\Hid (After ⟨fb,0,none⟩ g W W'):=by
 have hbW:fb < W.heap.size:=World.block_lt_of_cell? _ _ hc
 obtain ⟨V,hV⟩:∃ V,V = (((W.alloc (.cells #[.int .i64 xa0,.int .i64 xa1,.int .i64 xa2,.int .i64 xa3] 29)).alloc (.cells #[.int .i64 ya0,.int .i64 ya1,.int .i64 ya2,.int .i64 ya3] 29)).alloc (.cells #[.int .i64 0,.int .i64 0,.int .i64 0,.int .i64 0] 29)):=⟨_,rfl⟩
 have hb0:=n_after W (.cells #[.int .i64 xa0,.int .i64 xa1,.int .i64 xa2,.int .i64 xa3] 29)
 have hb1:=n_after (W.alloc (.cells #[.int .i64 xa0,.int .i64 xa1,.int .i64 xa2,.int .i64 xa3] 29)) (.cells #[.int .i64 ya0,.int .i64 ya1,.int .i64 ya2,.int .i64 ya3] 29)
 have hb2:=n_after ((W.alloc (.cells #[.int .i64 xa0,.int .i64 xa1,.int .i64 xa2,.int .i64 xa3] 29)).alloc (.cells #[.int .i64 ya0,.int .i64 ya1,.int .i64 ya2,.int .i64 ya3] 29)) (.cells #[.int .i64 0,.int .i64 0,.int .i64 0,.int .i64 0] 29)
 have CA:CW V (W.heap.size) [.int .i64 xa0,.int .i64 xa1,.int .i64 xa2,.int .i64 xa3]:=by
  have h9:=((CW.new W [.int .i64 xa0,.int .i64 xa1,.int .i64 xa2,.int .i64 xa3] 29).step hb1).step hb2
  rw [hV];exact h9
 have CB:CW V (W.heap.size + 1) [.int .i64 ya0,.int .i64 ya1,.int .i64 ya2,.int .i64 ya3]:=by
  have h9:=(CW.new (W.alloc (.cells #[.int .i64 xa0,.int .i64 xa1,.int .i64 xa2,.int .i64 xa3] 29)) [.int .i64 ya0,.int .i64 ya1,.int .i64 ya2,.int .i64 ya3] 29).step hb2
  simp only [World.size_alloc] at h9
  rw [hV];exact h9
 have CR:CW V (W.heap.size + 1 + 1) [.int .i64 0,.int .i64 0,.int .i64 0,.int .i64 0]:=by
  have h9:=CW.new ((W.alloc (.cells #[.int .i64 xa0,.int .i64 xa1,.int .i64 xa2,.int .i64 xa3] 29)).alloc (.cells #[.int .i64 ya0,.int .i64 ya1,.int .i64 ya2,.int .i64 ya3] 29)) [.int .i64 0,.int .i64 0,.int .i64 0,.int .i64 0] 29
  simp only [World.size_alloc] at h9
  rw [hV];exact h9
 have hB:Below W.heap.size W V:=by rw [hV];exact (b_step (b_step hb0 hb1) hb2)
 have hcV:=c_after hB hc
 have hfV:=f_after hB hc hf
 have HLV:Hid (Leaves ⟨fb,0,none⟩ W V):=(Leaves.refl _ _).step hB
 clear hb0 hb1 hb2
 clear hc hf hB
 go_enter Tryz.func73,Tryz.ntmps73
 go_upto_region 1 with fail
 rw [<- hV]
 clear hV
 obtain ⟨pr,hpr⟩:∃ p,p = W.heap.size + 1 + 1:=⟨_,rfl⟩
 obtain ⟨pb,hpb⟩:∃ p,p = W.heap.size + 1:=⟨_,rfl⟩
 obtain ⟨pa,hpa⟩:∃ p,p = W.heap.size:=⟨_,rfl⟩
 rw [<- hpr] at CR
 rw [<- hpb] at CB
 rw [<- hpa] at CA
 rw [<- hpr,<- hpb,<- hpa]
 have na:pa ≠ fb:=by omega
 have nb:pb ≠ fb:=by omega
 have nr:pr ≠ fb:=by omega
 have nr':fb ≠ pr:=by omega
 have hpr9:W.heap.size <= pr:=by omega
 clear hpr hpa hpb hbW
 have hpr:=hpr9
 refine RV.rs [.some (.func (.func gf) #[.pointer (some ⟨fb,0,none⟩)] #[]),.some (.pointer (some ⟨pa,0,none⟩)),.some (.int .i64 xa0),.some (.pointer (some ⟨pb,0,none⟩)),.some (.int .i64 ya0),.some (.int .i64 ((fv xa0 ya0).getD 0)),.some (.func (.func gf) #[.pointer (some ⟨fb,0,none⟩)] #[]),.some (.pointer (some ⟨pa,1,none⟩)),.some (.int .i64 xa1),.some (.pointer (some ⟨pb,1,none⟩)),.some (.int .i64 ya1),.some (.int .i64 ((fv xa1 ya1).getD 0)),.some (.func (.func gf) #[.pointer (some ⟨fb,0,none⟩)] #[]),.some (.pointer (some ⟨pa,2,none⟩)),.some (.int .i64 xa2),.some (.pointer (some ⟨pb,2,none⟩)),.some (.int .i64 ya2),.some (.int .i64 ((fv xa2 ya2).getD 0)),.some (.func (.func gf) #[.pointer (some ⟨fb,0,none⟩)] #[]),.some (.pointer (some ⟨pa,3,none⟩)),.some (.int .i64 xa3),.some (.pointer (some ⟨pb,3,none⟩)),.some (.int .i64 ya3),.some (.int .i64 ((fv xa3 ya3).getD 0)),.some (.agg #[.int .i64 ((fv xa0 ya0).getD 0),.int .i64 ((fv xa1 ya1).getD 0),.int .i64 ((fv xa2 ya2).getD 0),.int .i64 ((fv xa3 ya3).getD 0)]),none] [8,9,10,11,12,13,14,15,16,17,18,19,20,21,22,23,24,25,26,27,28,29,30,31,32,0] [(0,.func (.func gf) #[.pointer (some ⟨fb,0,none⟩)] #[]),(4,.pointer (some ⟨pa,0,none⟩)),(5,.pointer (some ⟨pb,0,none⟩)),(6,.pointer (some ⟨pr,0,none⟩))] (fun γ L w9=>FGS V ⟨fb,0,none⟩ f [(5,(fv xa0 ya0).isNone),(11,(fv xa1 ya1).isNone),(17,(fv xa2 ya2).isNone),(23,(fv xa3 ya3).isNone)] 25 (fun w=>((((w.setCell ⟨pr,0,none⟩ (.int .i64 ((fv xa0 ya0).getD 0))).setCell ⟨pr,1,none⟩ (.int .i64 ((fv xa1 ya1).getD 0))).setCell ⟨pr,2,none⟩ (.int .i64 ((fv xa2 ya2).getD 0))).setCell ⟨pr,3,none⟩ (.int .i64 ((fv xa3 ya3).getD 0)))) L w9) ⟨rfl,rfl,rfl,rfl,trivial⟩ ?_ ?_ ?_
 ·exact FGS.start hcV hfV
 ·intro D WA Z hD hWA hZ T
  simp only [RV.Outs,RV.Slots,Nat.reduceAdd] at T
  iterate 5 first
   | (refine RV.cc _ (RV.pu T (fun γ v L w hl h=>h.stay (by decide) rfl) (fun γ L a w hH hl h9 k9=>⟨_,?_,rfl⟩)) ?_;· simp [execOp,go_sem,h9])
   | (refine RV.cc _ (RV.pu T (fun γ v L w hl h=>h.stay (by decide) rfl) (fun γ L a w hH hl h9 k9=>⟨_,?_,rfl⟩)) ?_;· have hG:=hH.glob.early (RV.ny hH (RV.wt (j:=25) hWA (by kernel_rfl)) hl);have q0:=hG.at (CA 0 _ rfl).1 na;have q1:=hG.at (CB 0 _ rfl).1 nb;simp [Region.binds] at k9;simp [execOp,go_sem,h9,k9,q0,q1])
  refine RV.cc _ (RV.dc (fun γ L a w hH hl hA=>by have h9:=T γ L a w hH;have k9:=hA;simp [Region.binds] at k9;have hG:=hH.glob.early (RV.ny hH (RV.wt (j:=25) (i:=5) hWA (by kernel_rfl)) hl);exact ⟨gf,#[.pointer (some ⟨fb,0,none⟩),.int .i64 xa0,.int .i64 ya0],by simp [go_sem,eg,h9,k9],Calls.mono (hcon xa0 ya0 _ w hG.cell hG.frozen) (by rintro e w2 ⟨rfl,ha⟩;exact ⟨_,rfl,rfl,fun j v _ h=>h.keep _,FGS.come hG (by decide) (RV.ny hH (RV.wt (j:=25) (i:=5) hWA (by kernel_rfl)) hl) hl rfl ha.out⟩)⟩)) ?_
  iterate 5 first
   | (refine RV.cc _ (RV.pu T (fun γ v L w hl h=>h.stay (by decide) rfl) (fun γ L a w hH hl h9 k9=>⟨_,?_,rfl⟩)) ?_;· simp [execOp,go_sem,h9])
   | (refine RV.cc _ (RV.pu T (fun γ v L w hl h=>h.stay (by decide) rfl) (fun γ L a w hH hl h9 k9=>⟨_,?_,rfl⟩)) ?_;· have hG:=hH.glob.early (RV.ny hH (RV.wt (j:=25) hWA (by kernel_rfl)) hl);have q0:=hG.at (CA 1 _ rfl).1 na;have q1:=hG.at (CB 1 _ rfl).1 nb;simp [Region.binds] at k9;simp [execOp,go_sem,h9,k9,q0,q1])
  refine RV.cc _ (RV.dc (fun γ L a w hH hl hA=>by have h9:=T γ L a w hH;have k9:=hA;simp [Region.binds] at k9;have hG:=hH.glob.early (RV.ny hH (RV.wt (j:=25) (i:=11) hWA (by kernel_rfl)) hl);exact ⟨gf,#[.pointer (some ⟨fb,0,none⟩),.int .i64 xa1,.int .i64 ya1],by simp [go_sem,eg,h9,k9],Calls.mono (hcon xa1 ya1 _ w hG.cell hG.frozen) (by rintro e w2 ⟨rfl,ha⟩;exact ⟨_,rfl,rfl,fun j v _ h=>h.keep _,FGS.come hG (by decide) (RV.ny hH (RV.wt (j:=25) (i:=11) hWA (by kernel_rfl)) hl) hl rfl ha.out⟩)⟩)) ?_
  iterate 5 first
   | (refine RV.cc _ (RV.pu T (fun γ v L w hl h=>h.stay (by decide) rfl) (fun γ L a w hH hl h9 k9=>⟨_,?_,rfl⟩)) ?_;· simp [execOp,go_sem,h9])
   | (refine RV.cc _ (RV.pu T (fun γ v L w hl h=>h.stay (by decide) rfl) (fun γ L a w hH hl h9 k9=>⟨_,?_,rfl⟩)) ?_;· have hG:=hH.glob.early (RV.ny hH (RV.wt (j:=25) hWA (by kernel_rfl)) hl);have q0:=hG.at (CA 2 _ rfl).1 na;have q1:=hG.at (CB 2 _ rfl).1 nb;simp [Region.binds] at k9;simp [execOp,go_sem,h9,k9,q0,q1])
  refine RV.cc _ (RV.dc (fun γ L a w hH hl hA=>by have h9:=T γ L a w hH;have k9:=hA;simp [Region.binds] at k9;have hG:=hH.glob.early (RV.ny hH (RV.wt (j:=25) (i:=17) hWA (by kernel_rfl)) hl);exact ⟨gf,#[.pointer (some ⟨fb,0,none⟩),.int .i64 xa2,.int .i64 ya2],by simp [go_sem,eg,h9,k9],Calls.mono (hcon xa2 ya2 _ w hG.cell hG.frozen) (by rintro e w2 ⟨rfl,ha⟩;exact ⟨_,rfl,rfl,fun j v _ h=>h.keep _,FGS.come hG (by decide) (RV.ny hH (RV.wt (j:=25) (i:=17) hWA (by kernel_rfl)) hl) hl rfl ha.out⟩)⟩)) ?_
  iterate 5 first
   | (refine RV.cc _ (RV.pu T (fun γ v L w hl h=>h.stay (by decide) rfl) (fun γ L a w hH hl h9 k9=>⟨_,?_,rfl⟩)) ?_;· simp [execOp,go_sem,h9])
   | (refine RV.cc _ (RV.pu T (fun γ v L w hl h=>h.stay (by decide) rfl) (fun γ L a w hH hl h9 k9=>⟨_,?_,rfl⟩)) ?_;· have hG:=hH.glob.early (RV.ny hH (RV.wt (j:=25) hWA (by kernel_rfl)) hl);have q0:=hG.at (CA 3 _ rfl).1 na;have q1:=hG.at (CB 3 _ rfl).1 nb;simp [Region.binds] at k9;simp [execOp,go_sem,h9,k9,q0,q1])
  refine RV.cc _ (RV.dc (fun γ L a w hH hl hA=>by have h9:=T γ L a w hH;have k9:=hA;simp [Region.binds] at k9;have hG:=hH.glob.early (RV.ny hH (RV.wt (j:=25) (i:=23) hWA (by kernel_rfl)) hl);exact ⟨gf,#[.pointer (some ⟨fb,0,none⟩),.int .i64 xa3,.int .i64 ya3],by simp [go_sem,eg,h9,k9],Calls.mono (hcon xa3 ya3 _ w hG.cell hG.frozen) (by rintro e w2 ⟨rfl,ha⟩;exact ⟨_,rfl,rfl,fun j v _ h=>h.keep _,FGS.come hG (by decide) (RV.ny hH (RV.wt (j:=25) (i:=23) hWA (by kernel_rfl)) hl) hl rfl ha.out⟩)⟩)) ?_
  (refine RV.cc _ (RV.pu T (fun γ v L w hl h=>h.stay (by decide) rfl) (fun γ L a w hH hl h9 k9=>⟨_,?_,rfl⟩)) ?_;· simp [Region.binds] at k9;simp [execOp,go_sem,h9,k9])
  refine RV.cc _ (RV.does_store (fun γ L a w hH hl hA=>by have h9:=T γ L a w hH;have k9:=hA;simp [Region.binds] at k9;have hG:=hH.glob.early hl;have z0:=hG.at (CR 0 _ rfl).1 nr;have zf0:=hG.open (CR 0 _ rfl).1 (CR 0 _ rfl).2 nr;have z1:=hG.at (CR 1 _ rfl).1 nr;have zf1:=hG.open (CR 1 _ rfl).1 (CR 1 _ rfl).2 nr;have z2:=hG.at (CR 2 _ rfl).1 nr;have zf2:=hG.open (CR 2 _ rfl).1 (CR 2 _ rfl).2 nr;have z3:=hG.at (CR 3 _ rfl).1 nr;have zf3:=hG.open (CR 3 _ rfl).1 (CR 3 _ rfl).2 nr;exact ⟨((((w.setCell ⟨pr,0,none⟩ (.int .i64 ((fv xa0 ya0).getD 0))).setCell ⟨pr,1,none⟩ (.int .i64 ((fv xa1 ya1).getD 0))).setCell ⟨pr,2,none⟩ (.int .i64 ((fv xa2 ya2).getD 0))).setCell ⟨pr,3,none⟩ (.int .i64 ((fv xa3 ya3).getD 0))),by simp [execOp,go_sem,z0,zf0,z1,zf1,z2,zf2,z3,zf3,h9,k9],trivial,fun j v _ h=>h.keep _,FGS.store (S:=fun w=>((((w.setCell ⟨pr,0,none⟩ (.int .i64 ((fv xa0 ya0).getD 0))).setCell ⟨pr,1,none⟩ (.int .i64 ((fv xa1 ya1).getD 0))).setCell ⟨pr,2,none⟩ (.int .i64 ((fv xa2 ya2).getD 0))).setCell ⟨pr,3,none⟩ (.int .i64 ((fv xa3 ya3).getD 0)))) hG rfl⟩)) ?_
  exact RV.AllDo.nil
 ·intro γ w5 L9 hL hI9 hG9
  obtain ⟨w8,hF8,rfl⟩:=hG9.late (hL 25 (by decide))
  have hFL:orL f [(5,(fv xa0 ya0).isNone),(11,(fv xa1 ya1).isNone),(17,(fv xa2 ya2).isNone),(23,(fv xa3 ya3).isNone)] L9 = (f || ((fv xa0 ya0).isNone || (fv xa1 ya1).isNone || (fv xa2 ya2).isNone || (fv xa3 ya3).isNone)):=by unfold orL;simp only [List.any_cons,List.any_nil,hL 5 (by decide),hL 11 (by decide),hL 17 (by decide),hL 23 (by decide),Bool.true_and,Bool.or_false,Bool.or_assoc]
  have HA8:Hid (After _ _ _ _):=hF8.leaves.done hF8.cell hF8.frozen
  rw [hFL] at HA8
  clear hF8 hFL
  clear hL hI9 hG9
  simp only [RV.putL,Act.put,List.setIfInBounds_toArray,List.set_cons_zero,List.set_cons_succ]
  have C1:Hid (CW w8 pr _):=(CR.leaves HA8.out.leaves nr)
  have HL:Hid (Leaves ⟨fb,0,none⟩ W _):=HLV.out.same HA8.out
  have hc8:=HA8.out.cell
  have hf8:=HA8.out.frozen
  obtain ⟨r0,q0⟩:=C1.out 0 _ rfl
  obtain ⟨r1,q1⟩:=C1.out 1 _ rfl
  obtain ⟨r2,q2⟩:=C1.out 2 _ rfl
  obtain ⟨r3,q3⟩:=C1.out 3 _ rfl
  clear C1 HA8
  go_wp2_with (fail)
  refine bodyPost_ret (by simp [results,Tryz.results73,go_sem,r0,r1,r2,r3];try rfl) rfl ?_
  refine ⟨_,rfl,rfl,((((HL.out.set hpr _).set hpr _).set hpr _).set hpr _).done ?_ ?_⟩
  ·simp [go_sem,hc8]
  ·simp [go_sem,hf8]
theorem each4_add_any (b:Nat) (f:Bool) (x0 x1 x2 x3 y0 y1 y2 y3:Int) (W:World) (hc:W.cell? ⟨b,0,none⟩ = some (.bool f)) (hf:W.frozen? ⟨b,0,none⟩ = false) :
  Calls Tryz.prog 73 #[.func (.func 74) #[.pointer (some ⟨b,0,none⟩)] #[],.agg #[.int .i64 x0,.int .i64 x1,.int .i64 x2,.int .i64 x3],.agg #[.int .i64 y0,.int .i64 y1,.int .i64 y2,.int .i64 y3]] W fun e W' =>
   ∃ g,e = .returned (.agg #[.int .i64 ((add x0 y0).getD 0),.int .i64 ((add x1 y1).getD 0),.int .i64 ((add x2 y2).getD 0),.int .i64 ((add x3 y3).getD 0)])/\Hid (g = (f || ((add x0 y0).isNone || (add x1 y1).isNone || (add x2 y2).isNone || (add x3 y3).isNone)))/\Hid (After ⟨b,0,none⟩ g W W'):=
 each4_gen 74 (add) b (enters_of Tryz.func74 (by kernel_rfl) rfl) (fun x y g w h1 h2=>by
  refine Calls.mono (add_law b 0 g x y w h1 h2) ?_
  rintro e w' ⟨v0,g0,rfl,SS,A⟩
  obtain ⟨rfl,rfl⟩:=SS.out
  exact ⟨rfl,A⟩) f x0 x1 x2 x3 y0 y1 y2 y3 W hc hf
theorem each4_sub_any (b:Nat) (f:Bool) (x0 x1 x2 x3 y0 y1 y2 y3:Int) (W:World) (hc:W.cell? ⟨b,0,none⟩ = some (.bool f)) (hf:W.frozen? ⟨b,0,none⟩ = false) :
  Calls Tryz.prog 73 #[.func (.func 75) #[.pointer (some ⟨b,0,none⟩)] #[],.agg #[.int .i64 x0,.int .i64 x1,.int .i64 x2,.int .i64 x3],.agg #[.int .i64 y0,.int .i64 y1,.int .i64 y2,.int .i64 y3]] W fun e W' =>
   ∃ g,e = .returned (.agg #[.int .i64 ((sub x0 y0).getD 0),.int .i64 ((sub x1 y1).getD 0),.int .i64 ((sub x2 y2).getD 0),.int .i64 ((sub x3 y3).getD 0)])/\Hid (g = (f || ((sub x0 y0).isNone || (sub x1 y1).isNone || (sub x2 y2).isNone || (sub x3 y3).isNone)))/\Hid (After ⟨b,0,none⟩ g W W'):=
 each4_gen 75 (sub) b (enters_of Tryz.func75 (by kernel_rfl) rfl) (fun x y g w h1 h2=>by
  refine Calls.mono (sub_law b 0 g x y w h1 h2) ?_
  rintro e w' ⟨v0,g0,rfl,SS,A⟩
  obtain ⟨rfl,rfl⟩:=SS.out
  exact ⟨rfl,A⟩) f x0 x1 x2 x3 y0 y1 y2 y3 W hc hf
end
section
open Go.RowKit Fx
theorem Leaves.own {p:Addr} {W w:World} (h:Leaves p W w) (v:Value):Leaves p W (w.setCell p v):=by
 refine ⟨by simpa [World.setCell] using h.size,fun q hq hne=>?_,fun B w' hb h1 h2=>(h.below B w' hb h1 h2).setCell h1 v,⟨h.kept.1,h.kept.2.1,h.kept.2.2.1,fun i hi hne=>(Below.heap_setCell _ _ _ _ hne).trans (h.kept.2.2.2 i hi hne)⟩,fun hp o ho=>⟨(World.cell?_setCell_other _ _ _ _ (fun e=>ho (by cases p;exact ((Addr.mk.inj e).2.1).symm))).trans (h.beside hp o ho).1,by rw [show (w.setCell p v).frozen? ⟨p.block,o,none⟩ = w.frozen? ⟨p.block,o,none⟩ by simp [go_sem]];exact (h.beside hp o ho).2⟩⟩
 exact ⟨(World.cell?_of_block (w:=w) (Below.heap_setCell _ _ _ _ hne)).trans (h.other q hq hne).1,(World.frozen?_of_block (w:=w) (Below.heap_setCell _ _ _ _ hne)).trans (h.other q hq hne).2⟩
theorem tell3_any (b off o:Nat) (f g:Bool) (x0 x1 x2:Int) (W:World) (hc:W.cell? ⟨b,off,none⟩ = some (.bool f)) (hf:W.frozen? ⟨b,off,none⟩ = false) (ho:W.cell? ⟨o,0,none⟩ = some (.bool g)) :
  Calls Tryz.prog 78 #[.pointer (some ⟨b,off,none⟩),.pointer (some ⟨o,0,none⟩),.agg #[.int .i64 x0,.int .i64 x1,.int .i64 x2]] W fun e W' =>
   e = .returned (.agg #[.int .i64 (cond g 0 x0),.int .i64 (cond g 0 x1),.int .i64 (cond g 0 x2)])/\Hid (After ⟨b,off,none⟩ (f || g) W W'):=by
 have m1:b < W.heap.size:=World.block_lt_of_cell? _ _ hc
 have m2:o < W.heap.size:=World.block_lt_of_cell? _ _ ho
 have HL:Hid _:=Leaves.refl ⟨b,off,none⟩ W
 have n1:b ≠ W.heap.size:=by omega
 have n2:o ≠ W.heap.size:=by omega
 have n3:W.heap.size ≠ b:=by omega
 cases g
 ·go_enter Tryz.func78,Tryz.ntmps78
  go_wp2
  go_returns
  refine ⟨rfl,((HL.out.alloc _).alloc _).done ?_ ?_⟩
  ·rw [World.cell?_alloc_past _ _ _ (by rw [World.size_alloc];omega),World.cell?_alloc_past _ _ _ m1,hc];simp
  ·rw [((new_after _ _).frozen (by rw [World.size_alloc];show b < _;omega)),((new_after _ _).frozen (show b < _ from m1)),hf]
 ·go_enter Tryz.func78,Tryz.ntmps78
  go_wp2
  go_returns
  refine ⟨rfl,((((HL.out.own _).alloc _).alloc _).alloc _).done ?_ ?_⟩
  ·have e:(W.setCell ⟨b,off,none⟩ (.bool true)).cell? ⟨b,off,none⟩ = some (.bool true):=by simp [go_sem,hc]
   have s:(W.setCell ⟨b,off,none⟩ (.bool true)).heap.size = W.heap.size:=by simp [World.setCell]
   rw [World.cell?_alloc_past _ _ _ (by rw [World.size_alloc,World.size_alloc,s];omega),World.cell?_alloc_past _ _ _ (by rw [World.size_alloc,s];omega),World.cell?_alloc_past _ _ _ (by rw [s];omega),e];simp
  ·have e:(W.setCell ⟨b,off,none⟩ (.bool true)).frozen? ⟨b,off,none⟩ = false:=by simp [go_sem,hf]
   have s:(W.setCell ⟨b,off,none⟩ (.bool true)).heap.size = W.heap.size:=by simp [World.setCell]
   rw [((new_after _ _).frozen (by rw [World.size_alloc,World.size_alloc,s];show b < _;omega)),((new_after _ _).frozen (by rw [World.size_alloc,s];show b < _;omega)),((new_after _ _).frozen (by rw [s];exact m1)),e]
theorem tell9_any (b off o:Nat) (f g:Bool) (x0 x1 x2 x3 x4 x5 x6 x7 x8:Int) (W:World) (hc:W.cell? ⟨b,off,none⟩ = some (.bool f)) (hf:W.frozen? ⟨b,off,none⟩ = false) (ho:W.cell? ⟨o,0,none⟩ = some (.bool g)) :
  Calls Tryz.prog 76 #[.pointer (some ⟨b,off,none⟩),.pointer (some ⟨o,0,none⟩),.agg #[.int .i64 x0,.int .i64 x1,.int .i64 x2,.int .i64 x3,.int .i64 x4,.int .i64 x5,.int .i64 x6,.int .i64 x7,.int .i64 x8]] W fun e W' =>
   e = .returned (.agg #[.int .i64 (cond g 0 x0),.int .i64 (cond g 0 x1),.int .i64 (cond g 0 x2),.int .i64 (cond g 0 x3),.int .i64 (cond g 0 x4),.int .i64 (cond g 0 x5),.int .i64 (cond g 0 x6),.int .i64 (cond g 0 x7),.int .i64 (cond g 0 x8)])/\Hid (After ⟨b,off,none⟩ (f || g) W W'):=by
 have m1:b < W.heap.size:=World.block_lt_of_cell? _ _ hc
 have m2:o < W.heap.size:=World.block_lt_of_cell? _ _ ho
 have HL:Hid _:=Leaves.refl ⟨b,off,none⟩ W
 have n1:b ≠ W.heap.size:=by omega
 have n2:o ≠ W.heap.size:=by omega
 have n3:W.heap.size ≠ b:=by omega
 cases g
 ·go_enter Tryz.func76,Tryz.ntmps76
  go_wp2
  go_returns
  refine ⟨rfl,((HL.out.alloc _).alloc _).done ?_ ?_⟩
  ·rw [World.cell?_alloc_past _ _ _ (by rw [World.size_alloc];omega),World.cell?_alloc_past _ _ _ m1,hc];simp
  ·rw [((new_after _ _).frozen (by rw [World.size_alloc];show b < _;omega)),((new_after _ _).frozen (show b < _ from m1)),hf]
 ·go_enter Tryz.func76,Tryz.ntmps76
  go_wp2
  go_returns
  refine ⟨rfl,((((HL.out.own _).alloc _).alloc _).alloc _).done ?_ ?_⟩
  ·have e:(W.setCell ⟨b,off,none⟩ (.bool true)).cell? ⟨b,off,none⟩ = some (.bool true):=by simp [go_sem,hc]
   have s:(W.setCell ⟨b,off,none⟩ (.bool true)).heap.size = W.heap.size:=by simp [World.setCell]
   rw [World.cell?_alloc_past _ _ _ (by rw [World.size_alloc,World.size_alloc,s];omega),World.cell?_alloc_past _ _ _ (by rw [World.size_alloc,s];omega),World.cell?_alloc_past _ _ _ (by rw [s];omega),e];simp
  ·have e:(W.setCell ⟨b,off,none⟩ (.bool true)).frozen? ⟨b,off,none⟩ = false:=by simp [go_sem,hf]
   have s:(W.setCell ⟨b,off,none⟩ (.bool true)).heap.size = W.heap.size:=by simp [World.setCell]
   rw [((new_after _ _).frozen (by rw [World.size_alloc,World.size_alloc,s];show b < _;omega)),((new_after _ _).frozen (by rw [World.size_alloc,s];show b < _;omega)),((new_after _ _).frozen (by rw [s];exact m1)),e]
end
section
open Go.RowKit Fx
def Step3 (f:Bool) (a b c:Option Int) (x y z:Int) (g:Bool):Prop:=
 x = cond (a.isNone || b.isNone || c.isNone) 0 (a.getD 0)/\y = cond (a.isNone || b.isNone || c.isNone) 0 (b.getD 0)/\z = cond (a.isNone || b.isNone || c.isNone) 0 (c.getD 0)/\g = (f || (a.isNone || b.isNone || c.isNone))
theorem step3_of {f g:Bool} {a b c:Option Int} (h:g = (false || (a.isNone || b.isNone || c.isNone))):Step3 f a b c (cond g 0 (a.getD 0)) (cond g 0 (b.getD 0)) (cond g 0 (c.getD 0)) (f || g):=by
 rw [Bool.false_or] at h
 subst h
 exact ⟨rfl,rfl,rfl,rfl⟩
theorem row3 {w:World} {b:Nat} {x y z:Int} (h0:w.cell? ⟨b,0,none⟩ = some (.int .i64 x)) (h1:w.cell? ⟨b,1,none⟩ = some (.int .i64 y)) (h2:w.cell? ⟨b,2,none⟩ = some (.int .i64 z)):NRow w (some ⟨b,0,none⟩) [x,y,z]:=
 Or.inr ⟨b,0,rfl,fun k hk=>by
  match k,hk with
  | 0,_=>exact h0
  | 1,_=>exact h1
  | 2,_=>exact h2⟩
theorem vdot_law (b off:Nat) (f:Bool) (x0 x1 x2 y0 y1 y2:Int) (W:World) (hc:W.cell? ⟨b,off,none⟩ = some (.bool f)) (hf:W.frozen? ⟨b,off,none⟩ = false) :
  Calls Tryz.prog 109 #[.pointer (some ⟨b,off,none⟩),.agg #[.int .i64 x0,.int .i64 x1,.int .i64 x2],.agg #[.int .i64 y0,.int .i64 y1,.int .i64 y2]] W fun e W'=>∃ v g,e = .returned (.int .i64 v)/\Hid (Step f (dot [x0,x1,x2] [y0,y1,y2]) v g)/\Hid (After ⟨b,off,none⟩ g W W'):=by
 have m1:b < W.heap.size:=World.block_lt_of_cell? _ _ hc
 have HC:Hid _:=hc
 have HF:Hid _:=hf
 clear hc hf
 go_enter Tryz.func109,Tryz.ntmps109
 go_wp2_with (fail)
 refine (fdot_any b off f [x0,x1,x2] [y0,y1,y2] _ _ 3 3 _ (by rw [World.cell?_alloc_past _ _ _ (by simp;omega),World.cell?_alloc_past _ _ _ (by simp;omega),World.cell?_alloc_past _ _ _ (by simp;omega),World.cell?_alloc_past _ _ _ m1];exact HC.out) (by rw [((new_after _ _).frozen (by simp;omega)),((new_after _ _).frozen (by simp;omega)),((new_after _ _).frozen (by simp;omega)),((new_after _ _).frozen m1)];exact HF.out) (by simp) (by simp) (row3 (by simp [go_sem]) (by simp [go_sem]) (by simp [go_sem])) (row3 (by simp [go_sem]) (by simp [go_sem]) (by simp [go_sem]))).mono ?_
 rintro e W1 ⟨v,g,rfl,S,A⟩
 have HA:Hid (After ⟨b,off,none⟩ g W W1):=(((((Leaves.refl _ _).alloc _).alloc _).alloc _).alloc _).same A.out |>.done A.out.cell A.out.frozen
 clear A
 go_wp2_with (fail)
 go_ret
 exact ⟨v,g,rfl,S,HA⟩
theorem vadd_law (b off:Nat) (f:Bool) (x0 x1 x2 y0 y1 y2:Int) (W:World) (hc:W.cell? ⟨b,off,none⟩ = some (.bool f)) (hf:W.frozen? ⟨b,off,none⟩ = false) :
  Calls Tryz.prog 39 #[.pointer (some ⟨b,off,none⟩),.agg #[.int .i64 x0,.int .i64 x1,.int .i64 x2],.agg #[.int .i64 y0,.int .i64 y1,.int .i64 y2]] W fun e W'=>∃ v0 v1 v2 g,e = .returned (.agg #[.int .i64 v0,.int .i64 v1,.int .i64 v2])/\Hid (Step3 f (add x0 y0) (add x1 y1) (add x2 y2) v0 v1 v2 g)/\Hid (After ⟨b,off,none⟩ g W W'):=by
 have m1:b < W.heap.size:=World.block_lt_of_cell? _ _ hc
 have HC:Hid _:=hc
 have HF:Hid _:=hf
 clear hc hf
 go_enter Tryz.func39,Tryz.ntmps39
 go_wp2_with (fail)
 refine (each_add_any (W.heap.size + 1 + 1 + 1) false _ _ _ _ _ _ _ (by simp [go_sem]) (by simp [go_sem])).mono ?_
 rintro e W1 ⟨g,rfl,SG,A⟩
 have hp:=A.out.cellOf (q:=⟨b,off,none⟩) (v:=.bool f) (by rw [World.cell?_alloc_past _ _ _ (by simp;omega),World.cell?_alloc_past _ _ _ (by simp;omega),World.cell?_alloc_past _ _ _ (by simp;omega),World.cell?_alloc_past _ _ _ m1];exact HC.out) (by simp;omega)
 have hpf:=A.out.frozenOf (q:=⟨b,off,none⟩) (v:=.bool f) (by rw [World.cell?_alloc_past _ _ _ (by simp;omega),World.cell?_alloc_past _ _ _ (by simp;omega),World.cell?_alloc_past _ _ _ (by simp;omega),World.cell?_alloc_past _ _ _ m1];exact HC.out) (by rw [((new_after _ _).frozen (by simp;omega)),((new_after _ _).frozen (by simp;omega)),((new_after _ _).frozen (by simp;omega)),((new_after _ _).frozen m1)];exact HF.out) (by simp;omega)
 have HL:Hid (Leaves ⟨b,off,none⟩ W W1):=(((((Leaves.refl _ _).alloc _).alloc _).alloc _).alloc _).after A.out (by simp;omega)
 have ho:=A.out.cell
 have r0:=A.out.cellOf (q:=⟨W.heap.size + 1 + 1,0,none⟩) (v:=.int .i64 0) (by simp [go_sem]) (by simp)
 have r1:=A.out.cellOf (q:=⟨W.heap.size + 1 + 1,1,none⟩) (v:=.int .i64 0) (by simp [go_sem]) (by simp)
 have r2:=A.out.cellOf (q:=⟨W.heap.size + 1 + 1,2,none⟩) (v:=.int .i64 0) (by simp [go_sem]) (by simp)
 have f0:=A.out.frozenOf (q:=⟨W.heap.size + 1 + 1,0,none⟩) (v:=.int .i64 0) (by simp [go_sem]) (by simp [go_sem]) (by simp)
 have f1:=A.out.frozenOf (q:=⟨W.heap.size + 1 + 1,1,none⟩) (v:=.int .i64 0) (by simp [go_sem]) (by simp [go_sem]) (by simp)
 have f2:=A.out.frozenOf (q:=⟨W.heap.size + 1 + 1,2,none⟩) (v:=.int .i64 0) (by simp [go_sem]) (by simp [go_sem]) (by simp)
 clear A HC HF
 go_wp2_with (fail)
 refine (tell3_any b off (W.heap.size + 1 + 1 + 1) f g _ _ _ W1 hp hpf ho).mono ?_
 rintro e W2 ⟨rfl,A⟩
 have HL2:Hid (Leaves ⟨b,off,none⟩ W W2):=HL.out.same A.out
 have hp:=A.out.cell
 have hpf:=A.out.frozen
 have f0:=A.out.frozenOf r0 f0 (by simp;omega)
 have f1:=A.out.frozenOf r1 f1 (by simp;omega)
 have f2:=A.out.frozenOf r2 f2 (by simp;omega)
 have r0:=A.out.cellOf r0 (by simp;omega)
 have r1:=A.out.cellOf r1 (by simp;omega)
 have r2:=A.out.cellOf r2 (by simp;omega)
 have n1:b ≠ W.heap.size + 1 + 1:=by omega
 have n2:W.heap.size + 1 + 1 ≠ b:=by omega
 clear A HL
 go_wp2_with (fail)
 refine bodyPost_ret (by simp [results,Tryz.results39,go_sem,r0,r1,r2];try rfl) rfl ?_
 refine ⟨_,_,_,_,rfl,step3_of SG.out,(((HL2.out.set (by simp;omega) _).set (by simp;omega) _).set (by simp;omega) _).done ?_ ?_⟩
 ·simp [go_sem,hp]
 ·simp [go_sem,hpf]
end
section
open Go.RowKit Fx
theorem turn_step {f:Bool} {a b c:Option Int} {bd:Bool} (hb:bd = (a.isNone || (b.isNone || c.isNone))):Step3 f a b c (cond bd 0 (a.getD 0)) (cond bd 0 (b.getD 0)) (cond bd 0 (c.getD 0)) (f || bd):=by
 rw [<- Bool.or_assoc] at hb
 rw [hb]
 exact ⟨rfl,rfl,rfl,rfl⟩
def turn_bad (b off:Nat) (f:Bool) (pm pa pr po:Nat) (m0 m1 m2 m3 m4 m5 m6 m7 m8 x0 x1 x2:Int) (W U:World):Bool:=false || ([(4,(dot [m0,m1,m2] [x0,x1,x2]).isNone),(8,(dot [m3,m4,m5] [x0,x1,x2]).isNone),(12,(dot [m6,m7,m8] [x0,x1,x2]).isNone)]:List (Nat × Bool)).any (·.2)
def turn_sh (b off:Nat) (f:Bool) (pm pa pr po:Nat) (m0 m1 m2 m3 m4 m5 m6 m7 m8 x0 x1 x2:Int) (W U:World):Nat->Shape
 | 0=>.is (.pointer (some ⟨b,off,none⟩))
 | 1=>.is (.pointer (some ⟨pm,0,none⟩))
 | 2=>.is (.agg #[.int .i64 m0,.int .i64 m1,.int .i64 m2])
 | 3=>.is (.agg #[.int .i64 x0,.int .i64 x1,.int .i64 x2])
 | 4=>.is (.int .i64 ((dot [m0,m1,m2] [x0,x1,x2]).getD 0))
 | 5=>.is (.pointer (some ⟨pm,3,none⟩))
 | 6=>.is (.agg #[.int .i64 m3,.int .i64 m4,.int .i64 m5])
 | 7=>.is (.agg #[.int .i64 x0,.int .i64 x1,.int .i64 x2])
 | 8=>.is (.int .i64 ((dot [m3,m4,m5] [x0,x1,x2]).getD 0))
 | 9=>.is (.pointer (some ⟨pm,6,none⟩))
 | 10=>.is (.agg #[.int .i64 m6,.int .i64 m7,.int .i64 m8])
 | 11=>.is (.agg #[.int .i64 x0,.int .i64 x1,.int .i64 x2])
 | 12=>.is (.int .i64 ((dot [m6,m7,m8] [x0,x1,x2]).getD 0))
 | 13=>.is (.agg #[.int .i64 ((dot [m0,m1,m2] [x0,x1,x2]).getD 0),.int .i64 ((dot [m3,m4,m5] [x0,x1,x2]).getD 0),.int .i64 ((dot [m6,m7,m8] [x0,x1,x2]).getD 0)])
 | 14=>.is (.agg #[.int .i64 (cond (turn_bad b off f pm pa pr po m0 m1 m2 m3 m4 m5 m6 m7 m8 x0 x1 x2 W U) 0 ((dot [m0,m1,m2] [x0,x1,x2]).getD 0)),.int .i64 (cond (turn_bad b off f pm pa pr po m0 m1 m2 m3 m4 m5 m6 m7 m8 x0 x1 x2 W U) 0 ((dot [m3,m4,m5] [x0,x1,x2]).getD 0)),.int .i64 (cond (turn_bad b off f pm pa pr po m0 m1 m2 m3 m4 m5 m6 m7 m8 x0 x1 x2 W U) 0 ((dot [m6,m7,m8] [x0,x1,x2]).getD 0))])
 | 15=>.ptr
 | _=>.ptr
def turn_plan (b off:Nat) (f:Bool) (pm pa pr po:Nat) (m0 m1 m2 m3 m4 m5 m6 m7 m8 x0 x1 x2:Int) (W U:World):Plan where
 W:=W
 N:=U.heap.size
 p:=⟨b,off,none⟩
 fl:=⟨po,0,none⟩
 g0:=false
 bad:=turn_bad b off f pm pa pr po m0 m1 m2 m3 m4 m5 m6 m7 m8 x0 x1 x2 W U
 f:=f
 calls:=[(4,(dot [m0,m1,m2] [x0,x1,x2]).isNone),(8,(dot [m3,m4,m5] [x0,x1,x2]).isNone),(12,(dot [m6,m7,m8] [x0,x1,x2]).isNone)]
 tl:=14
 st:=15
 r:=pr
 res:=[.int .i64 (cond (turn_bad b off f pm pa pr po m0 m1 m2 m3 m4 m5 m6 m7 m8 x0 x1 x2 W U) 0 ((dot [m0,m1,m2] [x0,x1,x2]).getD 0)),.int .i64 (cond (turn_bad b off f pm pa pr po m0 m1 m2 m3 m4 m5 m6 m7 m8 x0 x1 x2 W U) 0 ((dot [m3,m4,m5] [x0,x1,x2]).getD 0)),.int .i64 (cond (turn_bad b off f pm pa pr po m0 m1 m2 m3 m4 m5 m6 m7 m8 x0 x1 x2 W U) 0 ((dot [m6,m7,m8] [x0,x1,x2]).getD 0))]
 fixed:=[(⟨pm,0,none⟩,.int .i64 m0),
  (⟨pm,1,none⟩,.int .i64 m1),
  (⟨pm,2,none⟩,.int .i64 m2),
  (⟨pm,3,none⟩,.int .i64 m3),
  (⟨pm,4,none⟩,.int .i64 m4),
  (⟨pm,5,none⟩,.int .i64 m5),
  (⟨pm,6,none⟩,.int .i64 m6),
  (⟨pm,7,none⟩,.int .i64 m7),
  (⟨pm,8,none⟩,.int .i64 m8),
  (⟨pa,0,none⟩,.int .i64 x0),
  (⟨pa,1,none⟩,.int .i64 x1),
  (⟨pa,2,none⟩,.int .i64 x2)]
 made:=[]
theorem turn_cn (b off:Nat) (f:Bool) (pm pa pr po:Nat) (m0 m1 m2 m3 m4 m5 m6 m7 m8 x0 x1 x2:Int) (W U:World):((turn_plan b off f pm pa pr po m0 m1 m2 m3 m4 m5 m6 m7 m8 x0 x1 x2 W U).calls.map (·.1)).Nodup:=of_decide_eq_true rfl
theorem turn_bads (b off:Nat) (f:Bool) (pm pa pr po:Nat) (m0 m1 m2 m3 m4 m5 m6 m7 m8 x0 x1 x2:Int) (W U:World):((turn_plan b off f pm pa pr po m0 m1 m2 m3 m4 m5 m6 m7 m8 x0 x1 x2 W U).bad = true->(turn_plan b off f pm pa pr po m0 m1 m2 m3 m4 m5 m6 m7 m8 x0 x1 x2 W U).g0 = true \/ ∃ c ∈ (turn_plan b off f pm pa pr po m0 m1 m2 m3 m4 m5 m6 m7 m8 x0 x1 x2 W U).calls,c.2 = true)/\∀ c ∈ (turn_plan b off f pm pa pr po m0 m1 m2 m3 m4 m5 m6 m7 m8 x0 x1 x2 W U).calls,c.2 = true->(turn_plan b off f pm pa pr po m0 m1 m2 m3 m4 m5 m6 m7 m8 x0 x1 x2 W U).bad = true:=
 bad_any_of _ rfl
theorem vturn_law (b off:Nat) (f:Bool) (m0 m1 m2 m3 m4 m5 m6 m7 m8 x0 x1 x2:Int) (W:World) (hc:W.cell? ⟨b,off,none⟩ = some (.bool f)) (hf:W.frozen? ⟨b,off,none⟩ = false) :
  Calls Tryz.prog 80 #[.pointer (some ⟨b,off,none⟩),.agg #[.int .i64 m0,.int .i64 m1,.int .i64 m2,.int .i64 m3,.int .i64 m4,.int .i64 m5,.int .i64 m6,.int .i64 m7,.int .i64 m8],.agg #[.int .i64 x0,.int .i64 x1,.int .i64 x2]] W fun e W'=>∃ v0 v1 v2 g,e = .returned (.agg #[.int .i64 v0,.int .i64 v1,.int .i64 v2])/\Hid (Step3 f (dot [m0,m1,m2] [x0,x1,x2]) (dot [m3,m4,m5] [x0,x1,x2]) (dot [m6,m7,m8] [x0,x1,x2]) v0 v1 v2 g)/\Hid (After ⟨b,off,none⟩ g W W'):=by
 have hbW:b < W.heap.size:=World.block_lt_of_cell? _ _ hc
 go_enter Tryz.func80,Tryz.ntmps80
 go_wp2_with (fail)
 obtain ⟨U,hU⟩:∃ U,U = ((((W.alloc (.cells #[.int .i64 m0,.int .i64 m1,.int .i64 m2,.int .i64 m3,.int .i64 m4,.int .i64 m5,.int .i64 m6,.int .i64 m7,.int .i64 m8] 61)).alloc (.cells #[.int .i64 x0,.int .i64 x1,.int .i64 x2] 27)).alloc (.cells #[.int .i64 0,.int .i64 0,.int .i64 0] 27)).alloc (.cells #[.bool false] 59)):=⟨_,rfl⟩
 have hUs:U.heap.size = W.heap.size + 4:=by rw [hU];simp
 have HL:Hid (Leaves ⟨b,off,none⟩ W U):=by show Leaves _ _ _;rw [hU];exact (((((Leaves.refl _ _).alloc _).alloc _).alloc _).alloc _)
 have hp:U.cell? ⟨b,off,none⟩ = some (.bool f):=(by rw [hU,World.cell?_alloc_past _ _ _ (by simp;omega),World.cell?_alloc_past _ _ _ (by simp;omega),World.cell?_alloc_past _ _ _ (by simp;omega),World.cell?_alloc_past _ _ _ hbW];exact hc)
 have hpf:U.frozen? ⟨b,off,none⟩ = false:=by rw [hU,((new_after _ _).frozen (by simp;omega)),((new_after _ _).frozen (by simp;omega)),((new_after _ _).frozen (by simp;omega)),((new_after _ _).frozen hbW)];exact hf
 have ho:U.cell? ⟨W.heap.size + 1 + 1 + 1,0,none⟩ = some (.bool false):=by rw [hU];simp [go_sem]
 have hof:U.frozen? ⟨W.heap.size + 1 + 1 + 1,0,none⟩ = false:=by rw [hU];simp [go_sem]
 have k0_0:U.cell? ⟨W.heap.size,0,none⟩ = some (.int .i64 m0):=by rw [hU];simp [go_sem]
 have k0_1:U.cell? ⟨W.heap.size,1,none⟩ = some (.int .i64 m1):=by rw [hU];simp [go_sem]
 have k0_2:U.cell? ⟨W.heap.size,2,none⟩ = some (.int .i64 m2):=by rw [hU];simp [go_sem]
 have k0_3:U.cell? ⟨W.heap.size,3,none⟩ = some (.int .i64 m3):=by rw [hU];simp [go_sem]
 have k0_4:U.cell? ⟨W.heap.size,4,none⟩ = some (.int .i64 m4):=by rw [hU];simp [go_sem]
 have k0_5:U.cell? ⟨W.heap.size,5,none⟩ = some (.int .i64 m5):=by rw [hU];simp [go_sem]
 have k0_6:U.cell? ⟨W.heap.size,6,none⟩ = some (.int .i64 m6):=by rw [hU];simp [go_sem]
 have k0_7:U.cell? ⟨W.heap.size,7,none⟩ = some (.int .i64 m7):=by rw [hU];simp [go_sem]
 have k0_8:U.cell? ⟨W.heap.size,8,none⟩ = some (.int .i64 m8):=by rw [hU];simp [go_sem]
 have k1_0:U.cell? ⟨W.heap.size + 1,0,none⟩ = some (.int .i64 x0):=by rw [hU];simp [go_sem]
 have k1_1:U.cell? ⟨W.heap.size + 1,1,none⟩ = some (.int .i64 x1):=by rw [hU];simp [go_sem]
 have k1_2:U.cell? ⟨W.heap.size + 1,2,none⟩ = some (.int .i64 x2):=by rw [hU];simp [go_sem]
 have rr0:U.cell? ⟨W.heap.size + 1 + 1,0,none⟩ = some (.int .i64 0):=by rw [hU];simp [go_sem]
 have rf0:U.frozen? ⟨W.heap.size + 1 + 1,0,none⟩ = false:=by rw [hU];simp [go_sem]
 have rr1:U.cell? ⟨W.heap.size + 1 + 1,1,none⟩ = some (.int .i64 0):=by rw [hU];simp [go_sem]
 have rf1:U.frozen? ⟨W.heap.size + 1 + 1,1,none⟩ = false:=by rw [hU];simp [go_sem]
 have rr2:U.cell? ⟨W.heap.size + 1 + 1,2,none⟩ = some (.int .i64 0):=by rw [hU];simp [go_sem]
 have rf2:U.frozen? ⟨W.heap.size + 1 + 1,2,none⟩ = false:=by rw [hU];simp [go_sem]
 rw [<- hU]
 clear hU hc hf
 obtain ⟨pm,hpm⟩:∃ p,p = W.heap.size:=⟨_,rfl⟩
 obtain ⟨pa,hpa⟩:∃ p,p = W.heap.size + 1:=⟨_,rfl⟩
 obtain ⟨pr,hpr⟩:∃ p,p = W.heap.size + 1 + 1:=⟨_,rfl⟩
 obtain ⟨po,hpo⟩:∃ p,p = W.heap.size + 1 + 1 + 1:=⟨_,rfl⟩
 rw [<- hpo] at ho hof
 rw [<- hpo]
 rw [<- hpr] at rr0 rf0 rr1 rf1 rr2 rf2
 rw [<- hpr]
 rw [<- hpa] at k1_0 k1_1 k1_2
 rw [<- hpa]
 rw [<- hpm] at k0_0 k0_1 k0_2 k0_3 k0_4 k0_5 k0_6 k0_7 k0_8
 rw [<- hpm]
 have q0:W.heap.size <= pm:=by omega
 have q1:pm < pa:=by omega
 have q2:pa < pr:=by omega
 have q3:pr < po:=by omega
 have q9:po < U.heap.size:=by omega
 clear hpm hpa hpr hpo hUs
 have hπ:(turn_plan b off f pm pa pr po m0 m1 m2 m3 m4 m5 m6 m7 m8 x0 x1 x2 W U).Good:=by
  refine good_of ?_ ?_ ?_ ?_ ?_ ?_ ?_ (turn_bads b off f pm pa pr po m0 m1 m2 m3 m4 m5 m6 m7 m8 x0 x1 x2 W U).1 (turn_bads b off f pm pa pr po m0 m1 m2 m3 m4 m5 m6 m7 m8 x0 x1 x2 W U).2
  ·show W.heap.size <= pr;omega
  ·show pr < U.heap.size;omega
  ·exact Or.inr (by show W.heap.size <= po;omega)
  ·show po < U.heap.size;omega
  ·show po ≠ pr;omega
  ·show b < W.heap.size;omega
  ·intro c hc
   simp only [turn_plan,List.mem_cons,List.not_mem_nil,or_false] at hc
   rcases hc with rfl | rfl | rfl | rfl | rfl | rfl | rfl | rfl | rfl | rfl | rfl | rfl <;> (show _ < U.heap.size/\_ ≠ po/\_ ≠ b/\_ ≠ pr) <;> (dsimp only) <;> omega
 refine region_by (shapeVal (turn_sh b off f pm pa pr po m0 m1 m2 m3 m4 m5 m6 m7 m8 x0 x1 x2 W U)) (Glob (turn_plan b off f pm pa pr po m0 m1 m2 m3 m4 m5 m6 m7 m8 x0 x1 x2 W U)) (by kernel_rfl) (by kernel_rfl) (by kernel_rfl) (by kernel_rfl) (fun _=>0) ?_ ?_ ?_
 ·refine ⟨?_,?_,?_,?_,?_,?_,(fun _ _ h=>by cases h),(fun _ _ _ _ h=>by cases h)⟩
  ·exact HL.out.drew
  ·exact Nat.le_refl _
  ·exact ⟨false,ho,hof,fun h=>by show turn_bad b off f pm pa pr po m0 m1 m2 m3 m4 m5 m6 m7 m8 x0 x1 x2 W U = true;simp [turn_bad,h],fun h=>h,fun _ _ h=>by cases h⟩
  ·refine Or.inr ⟨?_,hpf⟩
   show U.cell? ⟨b,off,none⟩ = some (.bool (f || (false && turn_bad b off f pm pa pr po m0 m1 m2 m3 m4 m5 m6 m7 m8 x0 x1 x2 W U)))
   rw [Bool.false_and,Bool.or_false];exact hp
  ·refine ⟨[.int .i64 0,.int .i64 0,.int .i64 0],rfl,?_,fun h=>by cases h⟩
   intro k v hk
   match k,hk with
   | 0,hk=>simp at hk;subst hk;exact ⟨rr0,rf0⟩
   | 1,hk=>simp at hk;subst hk;exact ⟨rr1,rf1⟩
   | 2,hk=>simp at hk;subst hk;exact ⟨rr2,rf2⟩
  ·intro c hc
   simp only [turn_plan,List.mem_cons,List.not_mem_nil,or_false] at hc
   rcases hc with rfl | rfl | rfl | rfl | rfl | rfl | rfl | rfl | rfl | rfl | rfl | rfl <;> assumption
 ·generalize hD:dstOf _ = D
  generalize hA:waitsFor _ = A
  generalize hZ:Act.mk _ _ = Z
  have d0:D 0 = some 8:=by rw [<- hD];rfl
  have d1:D 1 = some 9:=by rw [<- hD];rfl
  have d2:D 2 = some 10:=by rw [<- hD];rfl
  have d3:D 3 = some 11:=by rw [<- hD];rfl
  have d4:D 4 = some 12:=by rw [<- hD];rfl
  have d5:D 5 = some 13:=by rw [<- hD];rfl
  have d6:D 6 = some 14:=by rw [<- hD];rfl
  have d7:D 7 = some 15:=by rw [<- hD];rfl
  have d8:D 8 = some 16:=by rw [<- hD];rfl
  have d9:D 9 = some 17:=by rw [<- hD];rfl
  have d10:D 10 = some 18:=by rw [<- hD];rfl
  have d11:D 11 = some 19:=by rw [<- hD];rfl
  have d12:D 12 = some 20:=by rw [<- hD];rfl
  have d13:D 13 = some 21:=by rw [<- hD];rfl
  have d14:D 14 = some 22:=by rw [<- hD];rfl
  have R0:∀ (γ:Nat->Nat) (L:Nat->Bool) (a:Act) (w:World),Held D A (shapeVal (turn_sh b off f pm pa pr po m0 m1 m2 m3 m4 m5 m6 m7 m8 x0 x1 x2 W U)) (Glob (turn_plan b off f pm pa pr po m0 m1 m2 m3 m4 m5 m6 m7 m8 x0 x1 x2 W U)) Z γ L a w->a.tmps[0]? = some (.pointer (some ⟨b,off,none⟩)):=fun γ L a w hH=>(hH.rest 0 (by rw [<- hD];exact dst_free (by kernel_rfl))).trans (by rw [<- hZ];rfl)
  have R4:∀ (γ:Nat->Nat) (L:Nat->Bool) (a:Act) (w:World),Held D A (shapeVal (turn_sh b off f pm pa pr po m0 m1 m2 m3 m4 m5 m6 m7 m8 x0 x1 x2 W U)) (Glob (turn_plan b off f pm pa pr po m0 m1 m2 m3 m4 m5 m6 m7 m8 x0 x1 x2 W U)) Z γ L a w->a.tmps[4]? = some (.pointer (some ⟨pm,0,none⟩)):=fun γ L a w hH=>(hH.rest 4 (by rw [<- hD];exact dst_free (by kernel_rfl))).trans (by rw [<- hZ];rfl)
  have R5:∀ (γ:Nat->Nat) (L:Nat->Bool) (a:Act) (w:World),Held D A (shapeVal (turn_sh b off f pm pa pr po m0 m1 m2 m3 m4 m5 m6 m7 m8 x0 x1 x2 W U)) (Glob (turn_plan b off f pm pa pr po m0 m1 m2 m3 m4 m5 m6 m7 m8 x0 x1 x2 W U)) Z γ L a w->a.tmps[5]? = some (.pointer (some ⟨pa,0,none⟩)):=fun γ L a w hH=>(hH.rest 5 (by rw [<- hD];exact dst_free (by kernel_rfl))).trans (by rw [<- hZ];rfl)
  have R6:∀ (γ:Nat->Nat) (L:Nat->Bool) (a:Act) (w:World),Held D A (shapeVal (turn_sh b off f pm pa pr po m0 m1 m2 m3 m4 m5 m6 m7 m8 x0 x1 x2 W U)) (Glob (turn_plan b off f pm pa pr po m0 m1 m2 m3 m4 m5 m6 m7 m8 x0 x1 x2 W U)) Z γ L a w->a.tmps[6]? = some (.pointer (some ⟨pr,0,none⟩)):=fun γ L a w hH=>(hH.rest 6 (by rw [<- hD];exact dst_free (by kernel_rfl))).trans (by rw [<- hZ];rfl)
  have R7:∀ (γ:Nat->Nat) (L:Nat->Bool) (a:Act) (w:World),Held D A (shapeVal (turn_sh b off f pm pa pr po m0 m1 m2 m3 m4 m5 m6 m7 m8 x0 x1 x2 W U)) (Glob (turn_plan b off f pm pa pr po m0 m1 m2 m3 m4 m5 m6 m7 m8 x0 x1 x2 W U)) Z γ L a w->a.tmps[7]? = some (.pointer (some ⟨po,0,none⟩)):=fun γ L a w hH=>(hH.rest 7 (by rw [<- hD];exact dst_free (by kernel_rfl))).trans (by rw [<- hZ];rfl)
  have A_13_4:A 13 4:=by rw [<- hA];exact ⟨_,rfl,⟨4,.data⟩,by simp,rfl,rfl⟩
  have A_13_8:A 13 8:=by rw [<- hA];exact ⟨_,rfl,⟨8,.data⟩,by simp,rfl,rfl⟩
  have A_13_12:A 13 12:=by rw [<- hA];exact ⟨_,rfl,⟨12,.data⟩,by simp,rfl,rfl⟩
  clear hD hA hZ
  refine AllDo.cons 0 rfl (does_pure _ rfl rfl (fun γ L a w hH hA=>by have e1:=R0 γ L a w hH;simp [execOp,go_sem,e1])) ?_
  refine AllDo.cons 1 rfl (does_pure _ rfl rfl (fun γ L a w hH hA=>by have e1:=R4 γ L a w hH;simp [execOp,go_sem,e1])) ?_
  refine AllDo.cons 2 rfl (does_pure _ rfl rfl (fun γ L a w hH hA=>by have e1:=hH.at d1 rfl (hA ⟨1,.data⟩ (by simp) rfl);have e2:=hH.glob.fix (⟨pm,0,none⟩,.int .i64 m0) (by simp [turn_plan]);have e3:=hH.glob.fix (⟨pm,1,none⟩,.int .i64 m1) (by simp [turn_plan]);have e4:=hH.glob.fix (⟨pm,2,none⟩,.int .i64 m2) (by simp [turn_plan]);simp [execOp,go_sem,e1,e2,e3,e4])) ?_
  refine AllDo.cons 3 rfl (does_pure _ rfl rfl (fun γ L a w hH hA=>by have e1:=R5 γ L a w hH;have e2:=hH.glob.fix (⟨pa,0,none⟩,.int .i64 x0) (by simp [turn_plan]);have e3:=hH.glob.fix (⟨pa,1,none⟩,.int .i64 x1) (by simp [turn_plan]);have e4:=hH.glob.fix (⟨pa,2,none⟩,.int .i64 x2) (by simp [turn_plan]);simp [execOp,go_sem,e1,e2,e3,e4])) ?_
  refine AllDo.cons 4 rfl (does_call hπ _ ((dot [m0,m1,m2] [x0,x1,x2]).isNone) rfl (by simp [turn_plan]) (calls_only (turn_cn b off f pm pa pr po m0 m1 m2 m3 m4 m5 m6 m7 m8 x0 x1 x2 W U) (by simp [turn_plan])) rfl (fun γ L a w hH hA g hg hz=>by have e1:=R7 γ L a w hH;have e2:=hH.at d2 rfl (hA ⟨2,.data⟩ (by simp) rfl);have e3:=hH.at d3 rfl (hA ⟨3,.data⟩ (by simp) rfl);exact ⟨109,#[.pointer (some ⟨po,0,none⟩),.agg #[.int .i64 m0,.int .i64 m1,.int .i64 m2],.agg #[.int .i64 x0,.int .i64 x1,.int .i64 x2]],by simp [go_sem,e1,e2,e3],(vdot_law po 0 g (m0) (m1) (m2) (x0) (x1) (x2) w hg hz).mono (by rintro e W1 ⟨v,g1,rfl,S,Z⟩;exact ⟨by rw [S.out.1],g1,S.out.2,Z.out⟩)⟩)) ?_
  refine AllDo.cons 5 rfl (does_pure _ rfl rfl (fun γ L a w hH hA=>by have e1:=R4 γ L a w hH;simp [execOp,go_sem,e1])) ?_
  refine AllDo.cons 6 rfl (does_pure _ rfl rfl (fun γ L a w hH hA=>by have e1:=hH.at d5 rfl (hA ⟨5,.data⟩ (by simp) rfl);have e2:=hH.glob.fix (⟨pm,3,none⟩,.int .i64 m3) (by simp [turn_plan]);have e3:=hH.glob.fix (⟨pm,4,none⟩,.int .i64 m4) (by simp [turn_plan]);have e4:=hH.glob.fix (⟨pm,5,none⟩,.int .i64 m5) (by simp [turn_plan]);simp [execOp,go_sem,e1,e2,e3,e4])) ?_
  refine AllDo.cons 7 rfl (does_pure _ rfl rfl (fun γ L a w hH hA=>by have e1:=R5 γ L a w hH;have e2:=hH.glob.fix (⟨pa,0,none⟩,.int .i64 x0) (by simp [turn_plan]);have e3:=hH.glob.fix (⟨pa,1,none⟩,.int .i64 x1) (by simp [turn_plan]);have e4:=hH.glob.fix (⟨pa,2,none⟩,.int .i64 x2) (by simp [turn_plan]);simp [execOp,go_sem,e1,e2,e3,e4])) ?_
  refine AllDo.cons 8 rfl (does_call hπ _ ((dot [m3,m4,m5] [x0,x1,x2]).isNone) rfl (by simp [turn_plan]) (calls_only (turn_cn b off f pm pa pr po m0 m1 m2 m3 m4 m5 m6 m7 m8 x0 x1 x2 W U) (by simp [turn_plan])) rfl (fun γ L a w hH hA g hg hz=>by have e1:=R7 γ L a w hH;have e2:=hH.at d6 rfl (hA ⟨6,.data⟩ (by simp) rfl);have e3:=hH.at d7 rfl (hA ⟨7,.data⟩ (by simp) rfl);exact ⟨109,#[.pointer (some ⟨po,0,none⟩),.agg #[.int .i64 m3,.int .i64 m4,.int .i64 m5],.agg #[.int .i64 x0,.int .i64 x1,.int .i64 x2]],by simp [go_sem,e1,e2,e3],(vdot_law po 0 g (m3) (m4) (m5) (x0) (x1) (x2) w hg hz).mono (by rintro e W1 ⟨v,g1,rfl,S,Z⟩;exact ⟨by rw [S.out.1],g1,S.out.2,Z.out⟩)⟩)) ?_
  refine AllDo.cons 9 rfl (does_pure _ rfl rfl (fun γ L a w hH hA=>by have e1:=R4 γ L a w hH;simp [execOp,go_sem,e1])) ?_
  refine AllDo.cons 10 rfl (does_pure _ rfl rfl (fun γ L a w hH hA=>by have e1:=hH.at d9 rfl (hA ⟨9,.data⟩ (by simp) rfl);have e2:=hH.glob.fix (⟨pm,6,none⟩,.int .i64 m6) (by simp [turn_plan]);have e3:=hH.glob.fix (⟨pm,7,none⟩,.int .i64 m7) (by simp [turn_plan]);have e4:=hH.glob.fix (⟨pm,8,none⟩,.int .i64 m8) (by simp [turn_plan]);simp [execOp,go_sem,e1,e2,e3,e4])) ?_
  refine AllDo.cons 11 rfl (does_pure _ rfl rfl (fun γ L a w hH hA=>by have e1:=R5 γ L a w hH;have e2:=hH.glob.fix (⟨pa,0,none⟩,.int .i64 x0) (by simp [turn_plan]);have e3:=hH.glob.fix (⟨pa,1,none⟩,.int .i64 x1) (by simp [turn_plan]);have e4:=hH.glob.fix (⟨pa,2,none⟩,.int .i64 x2) (by simp [turn_plan]);simp [execOp,go_sem,e1,e2,e3,e4])) ?_
  refine AllDo.cons 12 rfl (does_call hπ _ ((dot [m6,m7,m8] [x0,x1,x2]).isNone) rfl (by simp [turn_plan]) (calls_only (turn_cn b off f pm pa pr po m0 m1 m2 m3 m4 m5 m6 m7 m8 x0 x1 x2 W U) (by simp [turn_plan])) rfl (fun γ L a w hH hA g hg hz=>by have e1:=R7 γ L a w hH;have e2:=hH.at d10 rfl (hA ⟨10,.data⟩ (by simp) rfl);have e3:=hH.at d11 rfl (hA ⟨11,.data⟩ (by simp) rfl);exact ⟨109,#[.pointer (some ⟨po,0,none⟩),.agg #[.int .i64 m6,.int .i64 m7,.int .i64 m8],.agg #[.int .i64 x0,.int .i64 x1,.int .i64 x2]],by simp [go_sem,e1,e2,e3],(vdot_law po 0 g (m6) (m7) (m8) (x0) (x1) (x2) w hg hz).mono (by rintro e W1 ⟨v,g1,rfl,S,Z⟩;exact ⟨by rw [S.out.1],g1,S.out.2,Z.out⟩)⟩)) ?_
  refine AllDo.cons 13 rfl (does_pure _ rfl rfl (fun γ L a w hH hA=>by have e1:=hH.at d4 rfl (hA ⟨4,.data⟩ (by simp) rfl);have e2:=hH.at d8 rfl (hA ⟨8,.data⟩ (by simp) rfl);have e3:=hH.at d12 rfl (hA ⟨12,.data⟩ (by simp) rfl);simp [execOp,go_sem,e1,e2,e3])) ?_
  refine AllDo.cons 14 rfl (does_tell hπ _ rfl (fun e=>by have e2:po = b:=congrArg Addr.block e;omega) (by simp [turn_plan]) (by simp [turn_plan]) (by simp [turn_plan]) rfl (fun L hcl haft c hc=>by have L13:L 13 = true:=haft ⟨13,.data⟩ (by simp) rfl;have L4:L 4 = true:=hcl 13 4 A_13_4 L13;have L8:L 8 = true:=hcl 13 8 A_13_8 L13;have L12:L 12 = true:=hcl 13 12 A_13_12 L13;simp only [turn_plan,List.mem_cons,List.not_mem_nil,or_false] at hc;rcases hc with rfl | rfl | rfl;all_goals assumption) (fun γ L a w hH hA hb hp hpf=>by have e1:=hH.at d0 rfl (hA ⟨0,.data⟩ (by simp) rfl);have e2:=R7 γ L a w hH;have e3:=hH.at d13 rfl (hA ⟨13,.data⟩ (by simp) rfl);exact ⟨78,#[.pointer (some ⟨b,off,none⟩),.pointer (some ⟨po,0,none⟩),.agg #[.int .i64 ((dot [m0,m1,m2] [x0,x1,x2]).getD 0),.int .i64 ((dot [m3,m4,m5] [x0,x1,x2]).getD 0),.int .i64 ((dot [m6,m7,m8] [x0,x1,x2]).getD 0)]],by simp [go_sem,e1,e2,e3],(tell3_any b off po f (turn_bad b off f pm pa pr po m0 m1 m2 m3 m4 m5 m6 m7 m8 x0 x1 x2 W U) ((dot [m0,m1,m2] [x0,x1,x2]).getD 0) ((dot [m3,m4,m5] [x0,x1,x2]).getD 0) ((dot [m6,m7,m8] [x0,x1,x2]).getD 0) w hp hpf hb).mono (by rintro e W1 ⟨rfl,Z⟩;exact ⟨rfl,Z.out⟩)⟩)) ?_
  refine AllDo.cons 15 rfl (does_store hπ (by simp [turn_plan]) rfl rfl (by simp [turn_plan]) (by simp [turn_plan]) (by simp [turn_plan]) (fun γ L a w hH hA cs hl hh=>by have e1:=R6 γ L a w hH;have e2:=hH.at d14 rfl (hA ⟨14,.data⟩ (by simp) rfl);obtain ⟨u0,u1,u2,rfl⟩:=list3 hl;have zz0:w.cell? ⟨pr,0,none⟩ = some u0/\w.frozen? ⟨pr,0,none⟩ = false:=hh 0 u0 rfl;have zz1:w.cell? ⟨pr,1,none⟩ = some u1/\w.frozen? ⟨pr,1,none⟩ = false:=hh 1 u1 rfl;have zz2:w.cell? ⟨pr,2,none⟩ = some u2/\w.frozen? ⟨pr,2,none⟩ = false:=hh 2 u2 rfl;exact ⟨(((w.setCell ⟨pr,0,none⟩ (.int .i64 (cond (turn_bad b off f pm pa pr po m0 m1 m2 m3 m4 m5 m6 m7 m8 x0 x1 x2 W U) 0 ((dot [m0,m1,m2] [x0,x1,x2]).getD 0)))).setCell ⟨pr,1,none⟩ (.int .i64 (cond (turn_bad b off f pm pa pr po m0 m1 m2 m3 m4 m5 m6 m7 m8 x0 x1 x2 W U) 0 ((dot [m3,m4,m5] [x0,x1,x2]).getD 0)))).setCell ⟨pr,2,none⟩ (.int .i64 (cond (turn_bad b off f pm pa pr po m0 m1 m2 m3 m4 m5 m6 m7 m8 x0 x1 x2 W U) 0 ((dot [m6,m7,m8] [x0,x1,x2]).getD 0)))),by simp [execOp,go_sem,e1,e2,zz0.1,zz0.2,zz1.1,zz1.2,zz2.1,zz2.2],((((Only.refl _ _).set 0 _).set 1 _).set 2 _),holds3 hh⟩)) ?_
  exact AllDo.nil
 ·intro γ a w L hL hLo hH
  have hL':∀ j,j < 16->L j = true:=fun j hj=>hL j hj
  have hG:=hH.glob
  have hdf:a.defers = []:=hH.defers.trans rfl
  have hs:a.tmps[6]? = some (.pointer (some ⟨pr,0,none⟩)):=(hH.rest 6 (dst_free (by kernel_rfl))).trans rfl
  obtain ⟨cs,c1,c2,c3⟩:=hG.res
  obtain rfl:=c3 (hL' 15 (by omega))
  have ho2:=hG.outer.resolve_left (fun e=>by have e2:po = b:=congrArg Addr.block e;omega)
  have hA:Hid (After ⟨b,off,none⟩ (f || turn_bad b off f pm pa pr po m0 m1 m2 m3 m4 m5 m6 m7 m8 x0 x1 x2 W U) W w):=by
   have e:=ho2.1
   rw [show (turn_plan b off f pm pa pr po m0 m1 m2 m3 m4 m5 m6 m7 m8 x0 x1 x2 W U).tl = 14 from rfl,hL' 14 (by omega),Bool.true_and] at e
   exact hG.leaves.done e ho2.2
  have r0:w.cell? ⟨pr,0,none⟩ = some (.int .i64 (cond (turn_bad b off f pm pa pr po m0 m1 m2 m3 m4 m5 m6 m7 m8 x0 x1 x2 W U) 0 ((dot [m0,m1,m2] [x0,x1,x2]).getD 0))):=(c2 0 _ rfl).1
  have r1:w.cell? ⟨pr,1,none⟩ = some (.int .i64 (cond (turn_bad b off f pm pa pr po m0 m1 m2 m3 m4 m5 m6 m7 m8 x0 x1 x2 W U) 0 ((dot [m3,m4,m5] [x0,x1,x2]).getD 0))):=(c2 1 _ rfl).1
  have r2:w.cell? ⟨pr,2,none⟩ = some (.int .i64 (cond (turn_bad b off f pm pa pr po m0 m1 m2 m3 m4 m5 m6 m7 m8 x0 x1 x2 W U) 0 ((dot [m6,m7,m8] [x0,x1,x2]).getD 0))):=(c2 2 _ rfl).1
  clear hL hLo hL' hH hG c1 c2 c3 ho2 hπ
  go_wp2
  refine bodyPost_ret (by simp [results,Tryz.results80,go_sem,hs,r0,r1,r2];try rfl) hdf ?_
  exact ⟨_,_,_,_,rfl,turn_step (by simp [turn_bad]),hA⟩
end
end Go.Proofs.YtlhhmiicpddjoaaGreat
