/- The reference's cross product. -/
import Derived.Test.YtpjaacpcdomfiaaGreatSBTells4
import Derived.Test.YtpjaacpcdomfiaaGreatSBTells6
import Derived.Test.YtpjaacpcdomfiaaGreatSBTells0
import Derived.Deep.CutBlock
set_option maxHeartbeats 2000000
set_option maxRecDepth 100000
set_option linter.unusedVariables false
namespace Go.Proofs.YtpjaacpcdomfiaaGreat
section
open Go.RowKit Ref Fx
def Sl (po:Nat) (zs:List Int) (v:Value) (w:World):Prop:=∃ g,v = .slice (some ⟨g,0,none⟩) 2 2/\g ≠ po/\∀ k,k < zs.length->w.cell? ⟨g,k,none⟩ = some (.int .i64 (zs.getD k 0))
theorem Sl.alloc {po:Nat} {zs:List Int} {v:Value} {w:World} (h:Sl po zs v w) (o:Obj):Sl po zs v (w.alloc o):=by
 obtain ⟨g,h1,h2,h3⟩:=h
 exact ⟨g,h1,h2,fun k hk=>cell_after (new_after w o) (h3 k hk)⟩
theorem Sl.after {po:Nat} {zs:List Int} {v:Value} {w w':World} {f:Bool} (h:Sl po zs v w) (A:After ⟨po,0,none⟩ f w w'):Sl po zs v w':=by
 obtain ⟨g,h1,h2,h3⟩:=h
 exact ⟨g,h1,h2,fun k hk=>A.cellOf (h3 k hk) h2⟩
theorem Sl.new {po:Nat} {x y:Int} {u:Value} {w:World} (h:w.cell? ⟨po,0,none⟩ = some u):Sl po [x,y] (.slice (some ⟨w.heap.size,0,none⟩) 2 2) (w.alloc (.cells #[.int .i64 x,.int .i64 y] 3)):=by
 have hlt:=World.block_lt_of_cell? _ _ h
 refine ⟨w.heap.size,rfl,fun e=>by rw [e] at hlt;exact Nat.lt_irrefl _ hlt,fun k hk=>?_⟩
 match k,hk with
 | 0,_=>simp [go_sem]
 | 1,_=>simp [go_sem]
theorem sl_row {w:World} {g:Nat} {zs:List Int} (h:∀ k,k < zs.length->w.cell? ⟨g,k,none⟩ = some (.int .i64 (zs.getD k 0))):NRow w (some ⟨g,0,none⟩) zs:=
 Or.inr ⟨g,0,rfl,fun k hk=>by rw [Nat.zero_add];exact h k hk⟩
theorem fl11 {g0 a b:Bool}:((g0 || (false && a) || b) || a) = (g0 || (true && a) || b):=by cases g0 <;> cases a <;> cases b <;> rfl
theorem fl13 {g0 a b:Bool}:((g0 || a || (false && b)) || b) = (g0 || a || (true && b)):=by cases g0 <;> cases a <;> cases b <;> rfl
theorem cross_chain {f g1 g2 g3:Bool} {x0 x1 x2 y0 y1 y2:Int}
  (h1:g1 = (false || (true && (sub 0 y1).isNone) || (true && (dot [x1,x2] [y2,(sub 0 y1).getD 0]).isNone)))
  (h2:g2 = (g1 || (true && (sub 0 y2).isNone) || (true && (dot [x2,x0] [y0,(sub 0 y2).getD 0]).isNone)))
  (h3:g3 = (g2 || (true && (sub 0 y0).isNone) || (true && (dot [x0,x1] [y1,(sub 0 y0).getD 0]).isNone))) :
  Step3 f (dot [x1,x2] [y2,-y1]) (dot [x2,x0] [y0,-y2]) (dot [x0,x1] [y1,-y0]) (cond g3 0 ((dot [x1,x2] [y2,(sub 0 y1).getD 0]).getD 0)) (cond g3 0 ((dot [x2,x0] [y0,(sub 0 y2).getD 0]).getD 0)) (cond g3 0 ((dot [x0,x1] [y1,(sub 0 y0).getD 0]).getD 0)) (f || g3):=by
 refine cross_step (g0:=(false || ((sub 0 y0).isNone || (sub 0 y1).isNone || (sub 0 y2).isNone))) rfl ?_
 rw [h3,h2,h1]
 generalize (sub 0 y0).isNone = a
 generalize (sub 0 y1).isNone = b
 generalize (sub 0 y2).isNone = c
 generalize (dot [x1,x2] [y2,(sub 0 y1).getD 0]).isNone = d
 generalize (dot [x2,x0] [y0,(sub 0 y2).getD 0]).isNone = e
 generalize (dot [x0,x1] [y1,(sub 0 y0).getD 0]).isNone = f
 cases a <;> cases b <;> cases c <;> cases d <;> cases e <;> cases f <;> rfl
theorem rvcross_law (b off:Nat) (f:Bool) (x0 x1 x2 y0 y1 y2:Int) (W:World) (hc:W.cell? ⟨b,off,none⟩ = some (.bool f)) (hf:W.frozen? ⟨b,off,none⟩ = false) :
  Calls Tryz.prog 65 #[.pointer (some ⟨b,off,none⟩),.agg #[.int .i64 x0,.int .i64 x1,.int .i64 x2],.agg #[.int .i64 y0,.int .i64 y1,.int .i64 y2]] W fun e W'=>∃ v0 v1 v2 g,e = .returned (.agg #[.int .i64 v0,.int .i64 v1,.int .i64 v2])/\Hid (Step3 f (dot [x1,x2] [y2,-y1]) (dot [x2,x0] [y0,-y2]) (dot [x0,x1] [y1,-y0]) v0 v1 v2 g)/\Hid (After ⟨b,off,none⟩ g W W'):=by
 have hbW:b < W.heap.size:=World.block_lt_of_cell? _ _ hc
 go_enter Tryz.func65,Tryz.ntmps65
 go_wp2_with (fail)
 refine (rvbare_any _).mono ?_
 rintro e W1 ⟨rfl,rfl⟩
 obtain ⟨U,hU⟩:∃ U,U = ((((W.alloc (.cells #[.int .i64 x0,.int .i64 x1,.int .i64 x2] 23)).alloc (.cells #[.int .i64 y0,.int .i64 y1,.int .i64 y2] 23)).alloc (.cells #[.int .i64 0,.int .i64 0,.int .i64 0] 23)).alloc (.cells #[.bool false] 44)):=⟨_,rfl⟩
 obtain ⟨pa,hpa⟩:∃ p,p = W.heap.size:=⟨_,rfl⟩
 obtain ⟨pb,hpb⟩:∃ p,p = W.heap.size + 1:=⟨_,rfl⟩
 obtain ⟨pr,hpr⟩:∃ p,p = W.heap.size + 1 + 1:=⟨_,rfl⟩
 obtain ⟨po,hpo⟩:∃ p,p = W.heap.size + 1 + 1 + 1:=⟨_,rfl⟩
 have H:Hid (Ho W U ⟨b,off,none⟩ po f false [(⟨pa,0,none⟩,.int .i64 x0),(⟨pa,1,none⟩,.int .i64 x1),(⟨pa,2,none⟩,.int .i64 x2),(⟨pb,0,none⟩,.int .i64 y0),(⟨pb,1,none⟩,.int .i64 y1),(⟨pb,2,none⟩,.int .i64 y2),(⟨pr,0,none⟩,.int .i64 0),(⟨pr,1,none⟩,.int .i64 0),(⟨pr,2,none⟩,.int .i64 0)]):=by
  refine ⟨by rw [hU];exact (((((Leaves.refl _ _).alloc _).alloc _).alloc _).alloc _),by rw [hU,World.cell?_alloc_past _ _ _ (by simp;omega),World.cell?_alloc_past _ _ _ (by simp;omega),World.cell?_alloc_past _ _ _ (by simp;omega),World.cell?_alloc_past _ _ _ hbW];exact hc,by rw [hU,((new_after _ _).frozen (by simp;omega)),((new_after _ _).frozen (by simp;omega)),((new_after _ _).frozen (by simp;omega)),((new_after _ _).frozen hbW)];exact hf,by rw [hU,hpo];simp [go_sem],by rw [hU,hpo];simp [go_sem],?_,?_,hbW,by omega⟩
  ·intro c hc
   simp only [List.mem_cons,List.not_mem_nil,or_false] at hc
   rcases hc with rfl | rfl | rfl | rfl | rfl | rfl | rfl | rfl | rfl <;> rw [hU] <;> dsimp only <;> first | (rw [hpa];exact ⟨by simp [go_sem],by simp [go_sem]⟩) | (rw [hpb];exact ⟨by simp [go_sem],by simp [go_sem]⟩) | (rw [hpr];exact ⟨by simp [go_sem],by simp [go_sem]⟩)
  ·intro c hc
   simp only [List.mem_cons,List.not_mem_nil,or_false] at hc
   rcases hc with rfl | rfl | rfl | rfl | rfl | rfl | rfl | rfl | rfl <;> (dsimp only) <;> omega
 rw [<- hU]
 simp only [World.size_alloc]
 rw [<- hpo,<- hpr,<- hpb,<- hpa]
 have q1:pa < pb:=by omega
 have q2:pb < pr:=by omega
 have q3:pr < po:=by omega
 have q0:W.heap.size <= pa:=by omega
 clear hU hc hf hpa hpb hpr hpo
 go_upto_region 2 with fail
 go_cut [8] from 12 (fun s wx=>s = .int .i64 ((dot [x1,x2] [y2,(sub 0 y1).getD 0]).getD 0)/\Hid (Ho W wx ⟨b,off,none⟩ po f (false || (true && (sub 0 y1).isNone) || (true && (dot [x1,x2] [y2,(sub 0 y1).getD 0]).isNone)) [(⟨pa,0,none⟩,.int .i64 x0),(⟨pa,1,none⟩,.int .i64 x1),(⟨pa,2,none⟩,.int .i64 x2),(⟨pb,0,none⟩,.int .i64 y0),(⟨pb,1,none⟩,.int .i64 y1),(⟨pb,2,none⟩,.int .i64 y2),(⟨pr,0,none⟩,.int .i64 0),(⟨pr,1,none⟩,.int .i64 0),(⟨pr,2,none⟩,.int .i64 0)]))
 case first =>
  refine RV.region_by (fun j v w=>match j with | 0=>v = .pointer (some ⟨po,0,none⟩) | 1=>v = .pointer (some ⟨pa,1,none⟩) | 2=>v = .int .i64 x1 | 3=>v = .pointer (some ⟨pa,2,none⟩) | 4=>v = .int .i64 x2 | 5=>(fun v w=>Sl po [x1,x2] v w) v w | 6=>v = .pointer (some ⟨pb,2,none⟩) | 7=>v = .int .i64 y2 | 8=>v = .pointer (some ⟨po,0,none⟩) | 9=>v = .pointer (some ⟨pb,1,none⟩) | 10=>v = .int .i64 y1 | 11=>v = .int .i64 ((sub 0 y1).getD 0) | 12=>(fun v w=>Sl po [y2,(sub 0 y1).getD 0] v w) v w | 13=>v = .int .i64 ((dot [x1,x2] [y2,(sub 0 y1).getD 0]).getD 0) | 14=>v = .int .i64 ((dot [x1,x2] [y2,(sub 0 y1).getD 0]).getD 0) | _=>True) (fun γ L V=>Ho W V ⟨b,off,none⟩ po f (false || (L 11 && (sub 0 y1).isNone) || (L 13 && (dot [x1,x2] [y2,(sub 0 y1).getD 0]).isNone)) [(⟨pa,0,none⟩,.int .i64 x0),(⟨pa,1,none⟩,.int .i64 x1),(⟨pa,2,none⟩,.int .i64 x2),(⟨pb,0,none⟩,.int .i64 y0),(⟨pb,1,none⟩,.int .i64 y1),(⟨pb,2,none⟩,.int .i64 y2),(⟨pr,0,none⟩,.int .i64 0),(⟨pr,1,none⟩,.int .i64 0),(⟨pr,2,none⟩,.int .i64 0)]) (by kernel_rfl) (by kernel_rfl) (by kernel_rfl) (by kernel_rfl) ?_ ?_ ?_
  ·have h9:=H.out.drew;simp only [Bool.false_and,Bool.or_false];exact h9
  ·generalize hD:dstOf _ = D
   generalize hWA:waitsFor _ = WA
   generalize hZ:Act.mk _ _ = Z
   refine RV.AllDo.name ?_
   intro R hR
   have d0:D 0 = some 13:=by rw [<- hD];rfl
   have d1:D 1 = some 14:=by rw [<- hD];rfl
   have d2:D 2 = some 15:=by rw [<- hD];rfl
   have d3:D 3 = some 16:=by rw [<- hD];rfl
   have d4:D 4 = some 17:=by rw [<- hD];rfl
   have d5:D 5 = some 18:=by rw [<- hD];rfl
   have d6:D 6 = some 19:=by rw [<- hD];rfl
   have d7:D 7 = some 20:=by rw [<- hD];rfl
   have d8:D 8 = some 21:=by rw [<- hD];rfl
   have d9:D 9 = some 22:=by rw [<- hD];rfl
   have d10:D 10 = some 23:=by rw [<- hD];rfl
   have d11:D 11 = some 24:=by rw [<- hD];rfl
   have d12:D 12 = some 25:=by rw [<- hD];rfl
   have d13:D 13 = some 26:=by rw [<- hD];rfl
   have d14:D 14 = some 8:=by rw [<- hD];rfl
   have r0:∀ v w,R 0 v w = (v = .pointer (some ⟨po,0,none⟩)):=fun v w=>by rw [hR];rfl
   have r1:∀ v w,R 1 v w = (v = .pointer (some ⟨pa,1,none⟩)):=fun v w=>by rw [hR];rfl
   have r2:∀ v w,R 2 v w = (v = .int .i64 x1):=fun v w=>by rw [hR];rfl
   have r3:∀ v w,R 3 v w = (v = .pointer (some ⟨pa,2,none⟩)):=fun v w=>by rw [hR];rfl
   have r4:∀ v w,R 4 v w = (v = .int .i64 x2):=fun v w=>by rw [hR];rfl
   have r5:∀ v w,R 5 v w = ((fun v w=>Sl po [x1,x2] v w) v w):=fun v w=>by rw [hR];rfl
   have r6:∀ v w,R 6 v w = (v = .pointer (some ⟨pb,2,none⟩)):=fun v w=>by rw [hR];rfl
   have r7:∀ v w,R 7 v w = (v = .int .i64 y2):=fun v w=>by rw [hR];rfl
   have r8:∀ v w,R 8 v w = (v = .pointer (some ⟨po,0,none⟩)):=fun v w=>by rw [hR];rfl
   have r9:∀ v w,R 9 v w = (v = .pointer (some ⟨pb,1,none⟩)):=fun v w=>by rw [hR];rfl
   have r10:∀ v w,R 10 v w = (v = .int .i64 y1):=fun v w=>by rw [hR];rfl
   have r11:∀ v w,R 11 v w = (v = .int .i64 ((sub 0 y1).getD 0)):=fun v w=>by rw [hR];rfl
   have r12:∀ v w,R 12 v w = ((fun v w=>Sl po [y2,(sub 0 y1).getD 0] v w) v w):=fun v w=>by rw [hR];rfl
   have r13:∀ v w,R 13 v w = (v = .int .i64 ((dot [x1,x2] [y2,(sub 0 y1).getD 0]).getD 0)):=fun v w=>by rw [hR];rfl
   have r14:∀ v w,R 14 v w = (v = .int .i64 ((dot [x1,x2] [y2,(sub 0 y1).getD 0]).getD 0)):=fun v w=>by rw [hR];rfl
   have F4_:∀ j,D j ≠ some 4:=by rw [<- hD];exact RV.dst_free (by kernel_rfl)
   have Z4_:Z.tmps[4]? = some (.pointer (some ⟨pa,0,none⟩)):=by rw [<- hZ];rfl
   have F5_:∀ j,D j ≠ some 5:=by rw [<- hD];exact RV.dst_free (by kernel_rfl)
   have Z5_:Z.tmps[5]? = some (.pointer (some ⟨pb,0,none⟩)):=by rw [<- hZ];rfl
   have F7_:∀ j,D j ≠ some 7:=by rw [<- hD];exact RV.dst_free (by kernel_rfl)
   have Z7_:Z.tmps[7]? = some (.pointer (some ⟨po,0,none⟩)):=by rw [<- hZ];rfl
   have K1:∀ j v w o,R j v w->R j v (World.alloc w o):=by
    rw [hR]
    intro j v w o h
    revert h
    dsimp only
    split
    all_goals first | exact id | exact fun h=>Sl.alloc h o
   have K2:∀ j v w w' g,After ⟨po,0,none⟩ g w w'->R j v w->R j v w':=by
    rw [hR]
    intro j v w w' g A h
    revert h
    dsimp only
    split
    all_goals first | exact id | exact fun h=>Sl.after h A
   clear hD hWA hZ hR
   refine RV.cc 0 (RV.dp (fun γ v L w hl h=>by rw [RV.mn (L:=L) (i:=0) (j:=11) (by decide),RV.mn (L:=L) (i:=0) (j:=13) (by decide)];exact h) (fun γ L a w hH hl hA=>by have e0:=((hH.rest 7 F7_).trans Z7_);exact ⟨.pointer (some ⟨po,0,none⟩),by simp [execOp,go_sem,e0],(r0 _ _).mpr rfl⟩)) ?_
   refine RV.cc 1 (RV.dp (fun γ v L w hl h=>by rw [RV.mn (L:=L) (i:=1) (j:=11) (by decide),RV.mn (L:=L) (i:=1) (j:=13) (by decide)];exact h) (fun γ L a w hH hl hA=>by have e0:=((hH.rest 4 F4_).trans Z4_);exact ⟨.pointer (some ⟨pa,1,none⟩),by simp [execOp,go_sem,e0],(r1 _ _).mpr rfl⟩)) ?_
   refine RV.cc 2 (RV.dp (fun γ v L w hl h=>by rw [RV.mn (L:=L) (i:=2) (j:=11) (by decide),RV.mn (L:=L) (i:=2) (j:=13) (by decide)];exact h) (fun γ L a w hH hl hA=>by have e0:=hH.got d1 r1 (hA ⟨1,.data⟩ (by simp) rfl);have z:=(hH.glob.fix (⟨pa,1,none⟩,.int .i64 x1) (by simp)).1;exact ⟨.int .i64 x1,by simp [execOp,go_sem,e0,z],(r2 _ _).mpr rfl⟩)) ?_
   refine RV.cc 3 (RV.dp (fun γ v L w hl h=>by rw [RV.mn (L:=L) (i:=3) (j:=11) (by decide),RV.mn (L:=L) (i:=3) (j:=13) (by decide)];exact h) (fun γ L a w hH hl hA=>by have e0:=((hH.rest 4 F4_).trans Z4_);exact ⟨.pointer (some ⟨pa,2,none⟩),by simp [execOp,go_sem,e0],(r3 _ _).mpr rfl⟩)) ?_
   refine RV.cc 4 (RV.dp (fun γ v L w hl h=>by rw [RV.mn (L:=L) (i:=4) (j:=11) (by decide),RV.mn (L:=L) (i:=4) (j:=13) (by decide)];exact h) (fun γ L a w hH hl hA=>by have e0:=hH.got d3 r3 (hA ⟨3,.data⟩ (by simp) rfl);have z:=(hH.glob.fix (⟨pa,2,none⟩,.int .i64 x2) (by simp)).1;exact ⟨.int .i64 x2,by simp [execOp,go_sem,e0,z],(r4 _ _).mpr rfl⟩)) ?_
   refine RV.cc 5 (RV.does_step (fun γ L a w hH hl hA=>by have e0:=hH.got d2 r2 (hA ⟨2,.data⟩ (by simp) rfl);have e1:=hH.got d4 r4 (hA ⟨4,.data⟩ (by simp) rfl);exact ⟨.slice (some ⟨w.heap.size,0,none⟩) 2 2,w.alloc (.cells #[.int .i64 x1,.int .i64 x2] 3),by simp [execOp,go_sem,e0,e1],(r5 _ _).mpr (Sl.new hH.glob.own),fun j v _ h=>K1 j v _ _ h,by rw [RV.mn (L:=L) (i:=5) (j:=11) (by decide),RV.mn (L:=L) (i:=5) (j:=13) (by decide)];exact hH.glob.alloc _⟩)) ?_
   refine RV.cc 6 (RV.dp (fun γ v L w hl h=>by rw [RV.mn (L:=L) (i:=6) (j:=11) (by decide),RV.mn (L:=L) (i:=6) (j:=13) (by decide)];exact h) (fun γ L a w hH hl hA=>by have e0:=((hH.rest 5 F5_).trans Z5_);exact ⟨.pointer (some ⟨pb,2,none⟩),by simp [execOp,go_sem,e0],(r6 _ _).mpr rfl⟩)) ?_
   refine RV.cc 7 (RV.dp (fun γ v L w hl h=>by rw [RV.mn (L:=L) (i:=7) (j:=11) (by decide),RV.mn (L:=L) (i:=7) (j:=13) (by decide)];exact h) (fun γ L a w hH hl hA=>by have e0:=hH.got d6 r6 (hA ⟨6,.data⟩ (by simp) rfl);have z:=(hH.glob.fix (⟨pb,2,none⟩,.int .i64 y2) (by simp)).1;exact ⟨.int .i64 y2,by simp [execOp,go_sem,e0,z],(r7 _ _).mpr rfl⟩)) ?_
   refine RV.cc 8 (RV.dp (fun γ v L w hl h=>by rw [RV.mn (L:=L) (i:=8) (j:=11) (by decide),RV.mn (L:=L) (i:=8) (j:=13) (by decide)];exact h) (fun γ L a w hH hl hA=>by have e0:=((hH.rest 7 F7_).trans Z7_);exact ⟨.pointer (some ⟨po,0,none⟩),by simp [execOp,go_sem,e0],(r8 _ _).mpr rfl⟩)) ?_
   refine RV.cc 9 (RV.dp (fun γ v L w hl h=>by rw [RV.mn (L:=L) (i:=9) (j:=11) (by decide),RV.mn (L:=L) (i:=9) (j:=13) (by decide)];exact h) (fun γ L a w hH hl hA=>by have e0:=((hH.rest 5 F5_).trans Z5_);exact ⟨.pointer (some ⟨pb,1,none⟩),by simp [execOp,go_sem,e0],(r9 _ _).mpr rfl⟩)) ?_
   refine RV.cc 10 (RV.dp (fun γ v L w hl h=>by rw [RV.mn (L:=L) (i:=10) (j:=11) (by decide),RV.mn (L:=L) (i:=10) (j:=13) (by decide)];exact h) (fun γ L a w hH hl hA=>by have e0:=hH.got d9 r9 (hA ⟨9,.data⟩ (by simp) rfl);have z:=(hH.glob.fix (⟨pb,1,none⟩,.int .i64 y1) (by simp)).1;exact ⟨.int .i64 y1,by simp [execOp,go_sem,e0,z],(r10 _ _).mpr rfl⟩)) ?_
   refine RV.cc 11 (RV.dc (fun γ L a w hH hl hA=>by have e0:=hH.got d8 r8 (hA ⟨8,.data⟩ (by simp) rfl);have e1:=hH.got d10 r10 (hA ⟨10,.data⟩ (by simp) rfl);refine ⟨87,#[.pointer (some ⟨po,0,none⟩),.int .i64 0,.int .i64 y1],by simp [go_sem,e0,e1],Calls.mono (rsub_law po 0 _ 0 y1 w hH.glob.own hH.glob.ownf) ?_⟩;rintro e w2 ⟨v,g,rfl,SS,A⟩;obtain ⟨rfl,rfl⟩:=SS.out;exact ⟨_,rfl,(r11 _ _).mpr rfl,fun j v _ h=>K2 j v _ _ _ A.out h,by have h9:=hH.glob.after A.out;rw [hl] at h9;rw [RV.more_self,RV.mn (L:=L) (i:=11) (j:=13) (by decide)];rw [fl11] at h9;exact h9⟩)) ?_
   refine RV.cc 12 (RV.does_step (fun γ L a w hH hl hA=>by have e0:=hH.got d7 r7 (hA ⟨7,.data⟩ (by simp) rfl);have e1:=hH.got d11 r11 (hA ⟨11,.data⟩ (by simp) rfl);exact ⟨.slice (some ⟨w.heap.size,0,none⟩) 2 2,w.alloc (.cells #[.int .i64 y2,.int .i64 ((sub 0 y1).getD 0)] 3),by simp [execOp,go_sem,e0,e1],(r12 _ _).mpr (Sl.new hH.glob.own),fun j v _ h=>K1 j v _ _ h,by rw [RV.mn (L:=L) (i:=12) (j:=11) (by decide),RV.mn (L:=L) (i:=12) (j:=13) (by decide)];exact hH.glob.alloc _⟩)) ?_
   refine RV.cc 13 (RV.dc (fun γ L a w hH hl hA=>by have e0:=hH.got d0 r0 (hA ⟨0,.data⟩ (by simp) rfl);have l1:L 5 = true:=hA ⟨5,.data⟩ (by simp) rfl;have e1:=hH.slot 5 18 d5 l1;have g1:=hH.holds 5 l1;rw [r5] at g1;have l2:L 12 = true:=hA ⟨12,.data⟩ (by simp) rfl;have e2:=hH.slot 12 25 d12 l2;have g2:=hH.holds 12 l2;rw [r12] at g2;obtain ⟨s1,q1,c1⟩:=g1;obtain ⟨s2,q2,c2⟩:=g2;rw [q1] at e1;rw [q2] at e2;refine ⟨112,#[.pointer (some ⟨po,0,none⟩),.slice (some ⟨s1,0,none⟩) 2 2,.slice (some ⟨s2,0,none⟩) 2 2],by simp [go_sem,e0,e1,e2],Calls.mono (rdot_law po 0 _ [x1,x2] [y2,(sub 0 y1).getD 0] _ _ 2 2 w hH.glob.own hH.glob.ownf (by simp) (by simp) (sl_row c1.2) (sl_row c2.2)) ?_⟩;rintro e w2 ⟨v,g,rfl,SS,A⟩;obtain ⟨rfl,rfl⟩:=SS.out;exact ⟨_,rfl,(r13 _ _).mpr rfl,fun j v _ h=>K2 j v _ _ _ A.out h,by have h9:=hH.glob.after A.out;rw [hl] at h9;rw [RV.more_self,RV.mn (L:=L) (i:=13) (j:=11) (by decide)];rw [fl13] at h9;exact h9⟩)) ?_
   refine RV.cc 14 (RV.dp (fun γ v L w hl h=>by rw [RV.mn (L:=L) (i:=14) (j:=11) (by decide),RV.mn (L:=L) (i:=14) (j:=13) (by decide)];exact h) (fun γ L a w hH hl hA=>by have e0:=hH.got d13 r13 (hA ⟨13,.data⟩ (by simp) rfl);exact ⟨.int .i64 ((dot [x1,x2] [y2,(sub 0 y1).getD 0]).getD 0),by simp [execOp,go_sem,e0],(r14 _ _).mpr rfl⟩)) ?_
   exact RV.AllDo.nil
  ·intro γ a5 w5 L9 hL hLo hH
   have ha:=RV.held_act hH hL (by kernel_rfl) (by kernel_rfl)
   have hG:=hH.glob
   rw [hL 11 (by decide),hL 13 (by decide)] at hG
   have q14:γ 14 = .int .i64 ((dot [x1,x2] [y2,(sub 0 y1).getD 0]).getD 0):=hH.holds 14 (hL 14 (by decide))
   rw [ha]
   clear ha hH hL hLo
   simp only [RV.putAll,Act.put,List.setIfInBounds_toArray,List.set_cons_zero,List.set_cons_succ,Nat.zero_add,Nat.reduceAdd]
   rw [q14]
   go_wp2_with (fail)
   go_meet
   case rel=>exact ⟨rfl,hG⟩
 case rest =>
  clear H
  obtain ⟨rfl,H⟩:=hcut
  obtain ⟨gg2,hgg2⟩:∃ g:Bool,g = (false || (true && (sub 0 y1).isNone) || (true && (dot [x1,x2] [y2,(sub 0 y1).getD 0]).isNone)):=⟨_,rfl⟩
  rw [<- hgg2] at H
  go_upto_region 3 with fail
  go_cut [9] from 12 (fun s wx=>s = .int .i64 ((dot [x2,x0] [y0,(sub 0 y2).getD 0]).getD 0)/\Hid (Ho W wx ⟨b,off,none⟩ po f (gg2 || (true && (sub 0 y2).isNone) || (true && (dot [x2,x0] [y0,(sub 0 y2).getD 0]).isNone)) [(⟨pa,0,none⟩,.int .i64 x0),(⟨pa,1,none⟩,.int .i64 x1),(⟨pa,2,none⟩,.int .i64 x2),(⟨pb,0,none⟩,.int .i64 y0),(⟨pb,1,none⟩,.int .i64 y1),(⟨pb,2,none⟩,.int .i64 y2),(⟨pr,0,none⟩,.int .i64 0),(⟨pr,1,none⟩,.int .i64 0),(⟨pr,2,none⟩,.int .i64 0)]))
  case first =>
   refine RV.region_by (fun j v w=>match j with | 0=>v = .pointer (some ⟨po,0,none⟩) | 1=>v = .pointer (some ⟨pa,2,none⟩) | 2=>v = .int .i64 x2 | 3=>v = .pointer (some ⟨pa,0,none⟩) | 4=>v = .int .i64 x0 | 5=>(fun v w=>Sl po [x2,x0] v w) v w | 6=>v = .pointer (some ⟨pb,0,none⟩) | 7=>v = .int .i64 y0 | 8=>v = .pointer (some ⟨po,0,none⟩) | 9=>v = .pointer (some ⟨pb,2,none⟩) | 10=>v = .int .i64 y2 | 11=>v = .int .i64 ((sub 0 y2).getD 0) | 12=>(fun v w=>Sl po [y0,(sub 0 y2).getD 0] v w) v w | 13=>v = .int .i64 ((dot [x2,x0] [y0,(sub 0 y2).getD 0]).getD 0) | 14=>v = .int .i64 ((dot [x2,x0] [y0,(sub 0 y2).getD 0]).getD 0) | _=>True) (fun γ L V=>Ho W V ⟨b,off,none⟩ po f (gg2 || (L 11 && (sub 0 y2).isNone) || (L 13 && (dot [x2,x0] [y0,(sub 0 y2).getD 0]).isNone)) [(⟨pa,0,none⟩,.int .i64 x0),(⟨pa,1,none⟩,.int .i64 x1),(⟨pa,2,none⟩,.int .i64 x2),(⟨pb,0,none⟩,.int .i64 y0),(⟨pb,1,none⟩,.int .i64 y1),(⟨pb,2,none⟩,.int .i64 y2),(⟨pr,0,none⟩,.int .i64 0),(⟨pr,1,none⟩,.int .i64 0),(⟨pr,2,none⟩,.int .i64 0)]) (by kernel_rfl) (by kernel_rfl) (by kernel_rfl) (by kernel_rfl) ?_ ?_ ?_
   ·have h9:=H.out.drew;simp only [Bool.false_and,Bool.or_false];exact h9
   ·generalize hD:dstOf _ = D
    generalize hWA:waitsFor _ = WA
    generalize hZ:Act.mk _ _ = Z
    refine RV.AllDo.name ?_
    intro R hR
    have d0:D 0 = some 27:=by rw [<- hD];rfl
    have d1:D 1 = some 28:=by rw [<- hD];rfl
    have d2:D 2 = some 29:=by rw [<- hD];rfl
    have d3:D 3 = some 30:=by rw [<- hD];rfl
    have d4:D 4 = some 31:=by rw [<- hD];rfl
    have d5:D 5 = some 32:=by rw [<- hD];rfl
    have d6:D 6 = some 33:=by rw [<- hD];rfl
    have d7:D 7 = some 34:=by rw [<- hD];rfl
    have d8:D 8 = some 35:=by rw [<- hD];rfl
    have d9:D 9 = some 36:=by rw [<- hD];rfl
    have d10:D 10 = some 37:=by rw [<- hD];rfl
    have d11:D 11 = some 38:=by rw [<- hD];rfl
    have d12:D 12 = some 39:=by rw [<- hD];rfl
    have d13:D 13 = some 40:=by rw [<- hD];rfl
    have d14:D 14 = some 9:=by rw [<- hD];rfl
    have r0:∀ v w,R 0 v w = (v = .pointer (some ⟨po,0,none⟩)):=fun v w=>by rw [hR];rfl
    have r1:∀ v w,R 1 v w = (v = .pointer (some ⟨pa,2,none⟩)):=fun v w=>by rw [hR];rfl
    have r2:∀ v w,R 2 v w = (v = .int .i64 x2):=fun v w=>by rw [hR];rfl
    have r3:∀ v w,R 3 v w = (v = .pointer (some ⟨pa,0,none⟩)):=fun v w=>by rw [hR];rfl
    have r4:∀ v w,R 4 v w = (v = .int .i64 x0):=fun v w=>by rw [hR];rfl
    have r5:∀ v w,R 5 v w = ((fun v w=>Sl po [x2,x0] v w) v w):=fun v w=>by rw [hR];rfl
    have r6:∀ v w,R 6 v w = (v = .pointer (some ⟨pb,0,none⟩)):=fun v w=>by rw [hR];rfl
    have r7:∀ v w,R 7 v w = (v = .int .i64 y0):=fun v w=>by rw [hR];rfl
    have r8:∀ v w,R 8 v w = (v = .pointer (some ⟨po,0,none⟩)):=fun v w=>by rw [hR];rfl
    have r9:∀ v w,R 9 v w = (v = .pointer (some ⟨pb,2,none⟩)):=fun v w=>by rw [hR];rfl
    have r10:∀ v w,R 10 v w = (v = .int .i64 y2):=fun v w=>by rw [hR];rfl
    have r11:∀ v w,R 11 v w = (v = .int .i64 ((sub 0 y2).getD 0)):=fun v w=>by rw [hR];rfl
    have r12:∀ v w,R 12 v w = ((fun v w=>Sl po [y0,(sub 0 y2).getD 0] v w) v w):=fun v w=>by rw [hR];rfl
    have r13:∀ v w,R 13 v w = (v = .int .i64 ((dot [x2,x0] [y0,(sub 0 y2).getD 0]).getD 0)):=fun v w=>by rw [hR];rfl
    have r14:∀ v w,R 14 v w = (v = .int .i64 ((dot [x2,x0] [y0,(sub 0 y2).getD 0]).getD 0)):=fun v w=>by rw [hR];rfl
    have F4_:∀ j,D j ≠ some 4:=by rw [<- hD];exact RV.dst_free (by kernel_rfl)
    have Z4_:Z.tmps[4]? = some (.pointer (some ⟨pa,0,none⟩)):=by rw [<- hZ];rfl
    have F5_:∀ j,D j ≠ some 5:=by rw [<- hD];exact RV.dst_free (by kernel_rfl)
    have Z5_:Z.tmps[5]? = some (.pointer (some ⟨pb,0,none⟩)):=by rw [<- hZ];rfl
    have F7_:∀ j,D j ≠ some 7:=by rw [<- hD];exact RV.dst_free (by kernel_rfl)
    have Z7_:Z.tmps[7]? = some (.pointer (some ⟨po,0,none⟩)):=by rw [<- hZ];rfl
    have K1:∀ j v w o,R j v w->R j v (World.alloc w o):=by
     rw [hR]
     intro j v w o h
     revert h
     dsimp only
     split
     all_goals first | exact id | exact fun h=>Sl.alloc h o
    have K2:∀ j v w w' g,After ⟨po,0,none⟩ g w w'->R j v w->R j v w':=by
     rw [hR]
     intro j v w w' g A h
     revert h
     dsimp only
     split
     all_goals first | exact id | exact fun h=>Sl.after h A
    clear hD hWA hZ hR
    refine RV.cc 0 (RV.dp (fun γ v L w hl h=>by rw [RV.mn (L:=L) (i:=0) (j:=11) (by decide),RV.mn (L:=L) (i:=0) (j:=13) (by decide)];exact h) (fun γ L a w hH hl hA=>by have e0:=((hH.rest 7 F7_).trans Z7_);exact ⟨.pointer (some ⟨po,0,none⟩),by simp [execOp,go_sem,e0],(r0 _ _).mpr rfl⟩)) ?_
    refine RV.cc 1 (RV.dp (fun γ v L w hl h=>by rw [RV.mn (L:=L) (i:=1) (j:=11) (by decide),RV.mn (L:=L) (i:=1) (j:=13) (by decide)];exact h) (fun γ L a w hH hl hA=>by have e0:=((hH.rest 4 F4_).trans Z4_);exact ⟨.pointer (some ⟨pa,2,none⟩),by simp [execOp,go_sem,e0],(r1 _ _).mpr rfl⟩)) ?_
    refine RV.cc 2 (RV.dp (fun γ v L w hl h=>by rw [RV.mn (L:=L) (i:=2) (j:=11) (by decide),RV.mn (L:=L) (i:=2) (j:=13) (by decide)];exact h) (fun γ L a w hH hl hA=>by have e0:=hH.got d1 r1 (hA ⟨1,.data⟩ (by simp) rfl);have z:=(hH.glob.fix (⟨pa,2,none⟩,.int .i64 x2) (by simp)).1;exact ⟨.int .i64 x2,by simp [execOp,go_sem,e0,z],(r2 _ _).mpr rfl⟩)) ?_
    refine RV.cc 3 (RV.dp (fun γ v L w hl h=>by rw [RV.mn (L:=L) (i:=3) (j:=11) (by decide),RV.mn (L:=L) (i:=3) (j:=13) (by decide)];exact h) (fun γ L a w hH hl hA=>by have e0:=((hH.rest 4 F4_).trans Z4_);exact ⟨.pointer (some ⟨pa,0,none⟩),by simp [execOp,go_sem,e0],(r3 _ _).mpr rfl⟩)) ?_
    refine RV.cc 4 (RV.dp (fun γ v L w hl h=>by rw [RV.mn (L:=L) (i:=4) (j:=11) (by decide),RV.mn (L:=L) (i:=4) (j:=13) (by decide)];exact h) (fun γ L a w hH hl hA=>by have e0:=hH.got d3 r3 (hA ⟨3,.data⟩ (by simp) rfl);have z:=(hH.glob.fix (⟨pa,0,none⟩,.int .i64 x0) (by simp)).1;exact ⟨.int .i64 x0,by simp [execOp,go_sem,e0,z],(r4 _ _).mpr rfl⟩)) ?_
    refine RV.cc 5 (RV.does_step (fun γ L a w hH hl hA=>by have e0:=hH.got d2 r2 (hA ⟨2,.data⟩ (by simp) rfl);have e1:=hH.got d4 r4 (hA ⟨4,.data⟩ (by simp) rfl);exact ⟨.slice (some ⟨w.heap.size,0,none⟩) 2 2,w.alloc (.cells #[.int .i64 x2,.int .i64 x0] 3),by simp [execOp,go_sem,e0,e1],(r5 _ _).mpr (Sl.new hH.glob.own),fun j v _ h=>K1 j v _ _ h,by rw [RV.mn (L:=L) (i:=5) (j:=11) (by decide),RV.mn (L:=L) (i:=5) (j:=13) (by decide)];exact hH.glob.alloc _⟩)) ?_
    refine RV.cc 6 (RV.dp (fun γ v L w hl h=>by rw [RV.mn (L:=L) (i:=6) (j:=11) (by decide),RV.mn (L:=L) (i:=6) (j:=13) (by decide)];exact h) (fun γ L a w hH hl hA=>by have e0:=((hH.rest 5 F5_).trans Z5_);exact ⟨.pointer (some ⟨pb,0,none⟩),by simp [execOp,go_sem,e0],(r6 _ _).mpr rfl⟩)) ?_
    refine RV.cc 7 (RV.dp (fun γ v L w hl h=>by rw [RV.mn (L:=L) (i:=7) (j:=11) (by decide),RV.mn (L:=L) (i:=7) (j:=13) (by decide)];exact h) (fun γ L a w hH hl hA=>by have e0:=hH.got d6 r6 (hA ⟨6,.data⟩ (by simp) rfl);have z:=(hH.glob.fix (⟨pb,0,none⟩,.int .i64 y0) (by simp)).1;exact ⟨.int .i64 y0,by simp [execOp,go_sem,e0,z],(r7 _ _).mpr rfl⟩)) ?_
    refine RV.cc 8 (RV.dp (fun γ v L w hl h=>by rw [RV.mn (L:=L) (i:=8) (j:=11) (by decide),RV.mn (L:=L) (i:=8) (j:=13) (by decide)];exact h) (fun γ L a w hH hl hA=>by have e0:=((hH.rest 7 F7_).trans Z7_);exact ⟨.pointer (some ⟨po,0,none⟩),by simp [execOp,go_sem,e0],(r8 _ _).mpr rfl⟩)) ?_
    refine RV.cc 9 (RV.dp (fun γ v L w hl h=>by rw [RV.mn (L:=L) (i:=9) (j:=11) (by decide),RV.mn (L:=L) (i:=9) (j:=13) (by decide)];exact h) (fun γ L a w hH hl hA=>by have e0:=((hH.rest 5 F5_).trans Z5_);exact ⟨.pointer (some ⟨pb,2,none⟩),by simp [execOp,go_sem,e0],(r9 _ _).mpr rfl⟩)) ?_
    refine RV.cc 10 (RV.dp (fun γ v L w hl h=>by rw [RV.mn (L:=L) (i:=10) (j:=11) (by decide),RV.mn (L:=L) (i:=10) (j:=13) (by decide)];exact h) (fun γ L a w hH hl hA=>by have e0:=hH.got d9 r9 (hA ⟨9,.data⟩ (by simp) rfl);have z:=(hH.glob.fix (⟨pb,2,none⟩,.int .i64 y2) (by simp)).1;exact ⟨.int .i64 y2,by simp [execOp,go_sem,e0,z],(r10 _ _).mpr rfl⟩)) ?_
    refine RV.cc 11 (RV.dc (fun γ L a w hH hl hA=>by have e0:=hH.got d8 r8 (hA ⟨8,.data⟩ (by simp) rfl);have e1:=hH.got d10 r10 (hA ⟨10,.data⟩ (by simp) rfl);refine ⟨87,#[.pointer (some ⟨po,0,none⟩),.int .i64 0,.int .i64 y2],by simp [go_sem,e0,e1],Calls.mono (rsub_law po 0 _ 0 y2 w hH.glob.own hH.glob.ownf) ?_⟩;rintro e w2 ⟨v,g,rfl,SS,A⟩;obtain ⟨rfl,rfl⟩:=SS.out;exact ⟨_,rfl,(r11 _ _).mpr rfl,fun j v _ h=>K2 j v _ _ _ A.out h,by have h9:=hH.glob.after A.out;rw [hl] at h9;rw [RV.more_self,RV.mn (L:=L) (i:=11) (j:=13) (by decide)];rw [fl11] at h9;exact h9⟩)) ?_
    refine RV.cc 12 (RV.does_step (fun γ L a w hH hl hA=>by have e0:=hH.got d7 r7 (hA ⟨7,.data⟩ (by simp) rfl);have e1:=hH.got d11 r11 (hA ⟨11,.data⟩ (by simp) rfl);exact ⟨.slice (some ⟨w.heap.size,0,none⟩) 2 2,w.alloc (.cells #[.int .i64 y0,.int .i64 ((sub 0 y2).getD 0)] 3),by simp [execOp,go_sem,e0,e1],(r12 _ _).mpr (Sl.new hH.glob.own),fun j v _ h=>K1 j v _ _ h,by rw [RV.mn (L:=L) (i:=12) (j:=11) (by decide),RV.mn (L:=L) (i:=12) (j:=13) (by decide)];exact hH.glob.alloc _⟩)) ?_
    refine RV.cc 13 (RV.dc (fun γ L a w hH hl hA=>by have e0:=hH.got d0 r0 (hA ⟨0,.data⟩ (by simp) rfl);have l1:L 5 = true:=hA ⟨5,.data⟩ (by simp) rfl;have e1:=hH.slot 5 32 d5 l1;have g1:=hH.holds 5 l1;rw [r5] at g1;have l2:L 12 = true:=hA ⟨12,.data⟩ (by simp) rfl;have e2:=hH.slot 12 39 d12 l2;have g2:=hH.holds 12 l2;rw [r12] at g2;obtain ⟨s1,q1,c1⟩:=g1;obtain ⟨s2,q2,c2⟩:=g2;rw [q1] at e1;rw [q2] at e2;refine ⟨112,#[.pointer (some ⟨po,0,none⟩),.slice (some ⟨s1,0,none⟩) 2 2,.slice (some ⟨s2,0,none⟩) 2 2],by simp [go_sem,e0,e1,e2],Calls.mono (rdot_law po 0 _ [x2,x0] [y0,(sub 0 y2).getD 0] _ _ 2 2 w hH.glob.own hH.glob.ownf (by simp) (by simp) (sl_row c1.2) (sl_row c2.2)) ?_⟩;rintro e w2 ⟨v,g,rfl,SS,A⟩;obtain ⟨rfl,rfl⟩:=SS.out;exact ⟨_,rfl,(r13 _ _).mpr rfl,fun j v _ h=>K2 j v _ _ _ A.out h,by have h9:=hH.glob.after A.out;rw [hl] at h9;rw [RV.more_self,RV.mn (L:=L) (i:=13) (j:=11) (by decide)];rw [fl13] at h9;exact h9⟩)) ?_
    refine RV.cc 14 (RV.dp (fun γ v L w hl h=>by rw [RV.mn (L:=L) (i:=14) (j:=11) (by decide),RV.mn (L:=L) (i:=14) (j:=13) (by decide)];exact h) (fun γ L a w hH hl hA=>by have e0:=hH.got d13 r13 (hA ⟨13,.data⟩ (by simp) rfl);exact ⟨.int .i64 ((dot [x2,x0] [y0,(sub 0 y2).getD 0]).getD 0),by simp [execOp,go_sem,e0],(r14 _ _).mpr rfl⟩)) ?_
    exact RV.AllDo.nil
   ·intro γ a5 w5 L9 hL hLo hH
    have ha:=RV.held_act hH hL (by kernel_rfl) (by kernel_rfl)
    have hG:=hH.glob
    rw [hL 11 (by decide),hL 13 (by decide)] at hG
    have q14:γ 14 = .int .i64 ((dot [x2,x0] [y0,(sub 0 y2).getD 0]).getD 0):=hH.holds 14 (hL 14 (by decide))
    rw [ha]
    clear ha hH hL hLo
    simp only [RV.putAll,Act.put,List.setIfInBounds_toArray,List.set_cons_zero,List.set_cons_succ,Nat.zero_add,Nat.reduceAdd]
    rw [q14]
    go_wp2_with (fail)
    go_meet
    case rel=>exact ⟨rfl,hG⟩
  case rest =>
   clear H
   obtain ⟨rfl,H⟩:=hcut
   obtain ⟨gg3,hgg3⟩:∃ g:Bool,g = (gg2 || (true && (sub 0 y2).isNone) || (true && (dot [x2,x0] [y0,(sub 0 y2).getD 0]).isNone)):=⟨_,rfl⟩
   rw [<- hgg3] at H
   go_upto_region 4 with fail
   go_cut [10] from 12 (fun s wx=>s = .int .i64 ((dot [x0,x1] [y1,(sub 0 y0).getD 0]).getD 0)/\Hid (Ho W wx ⟨b,off,none⟩ po f (gg3 || (true && (sub 0 y0).isNone) || (true && (dot [x0,x1] [y1,(sub 0 y0).getD 0]).isNone)) [(⟨pa,0,none⟩,.int .i64 x0),(⟨pa,1,none⟩,.int .i64 x1),(⟨pa,2,none⟩,.int .i64 x2),(⟨pb,0,none⟩,.int .i64 y0),(⟨pb,1,none⟩,.int .i64 y1),(⟨pb,2,none⟩,.int .i64 y2),(⟨pr,0,none⟩,.int .i64 0),(⟨pr,1,none⟩,.int .i64 0),(⟨pr,2,none⟩,.int .i64 0)]))
   case first =>
    refine RV.region_by (fun j v w=>match j with | 0=>v = .pointer (some ⟨po,0,none⟩) | 1=>v = .pointer (some ⟨pa,0,none⟩) | 2=>v = .int .i64 x0 | 3=>v = .pointer (some ⟨pa,1,none⟩) | 4=>v = .int .i64 x1 | 5=>(fun v w=>Sl po [x0,x1] v w) v w | 6=>v = .pointer (some ⟨pb,1,none⟩) | 7=>v = .int .i64 y1 | 8=>v = .pointer (some ⟨po,0,none⟩) | 9=>v = .pointer (some ⟨pb,0,none⟩) | 10=>v = .int .i64 y0 | 11=>v = .int .i64 ((sub 0 y0).getD 0) | 12=>(fun v w=>Sl po [y1,(sub 0 y0).getD 0] v w) v w | 13=>v = .int .i64 ((dot [x0,x1] [y1,(sub 0 y0).getD 0]).getD 0) | 14=>v = .int .i64 ((dot [x0,x1] [y1,(sub 0 y0).getD 0]).getD 0) | _=>True) (fun γ L V=>Ho W V ⟨b,off,none⟩ po f (gg3 || (L 11 && (sub 0 y0).isNone) || (L 13 && (dot [x0,x1] [y1,(sub 0 y0).getD 0]).isNone)) [(⟨pa,0,none⟩,.int .i64 x0),(⟨pa,1,none⟩,.int .i64 x1),(⟨pa,2,none⟩,.int .i64 x2),(⟨pb,0,none⟩,.int .i64 y0),(⟨pb,1,none⟩,.int .i64 y1),(⟨pb,2,none⟩,.int .i64 y2),(⟨pr,0,none⟩,.int .i64 0),(⟨pr,1,none⟩,.int .i64 0),(⟨pr,2,none⟩,.int .i64 0)]) (by kernel_rfl) (by kernel_rfl) (by kernel_rfl) (by kernel_rfl) ?_ ?_ ?_
    ·have h9:=H.out.drew;simp only [Bool.false_and,Bool.or_false];exact h9
    ·generalize hD:dstOf _ = D
     generalize hWA:waitsFor _ = WA
     generalize hZ:Act.mk _ _ = Z
     refine RV.AllDo.name ?_
     intro R hR
     have d0:D 0 = some 41:=by rw [<- hD];rfl
     have d1:D 1 = some 42:=by rw [<- hD];rfl
     have d2:D 2 = some 43:=by rw [<- hD];rfl
     have d3:D 3 = some 44:=by rw [<- hD];rfl
     have d4:D 4 = some 45:=by rw [<- hD];rfl
     have d5:D 5 = some 46:=by rw [<- hD];rfl
     have d6:D 6 = some 47:=by rw [<- hD];rfl
     have d7:D 7 = some 48:=by rw [<- hD];rfl
     have d8:D 8 = some 49:=by rw [<- hD];rfl
     have d9:D 9 = some 50:=by rw [<- hD];rfl
     have d10:D 10 = some 51:=by rw [<- hD];rfl
     have d11:D 11 = some 52:=by rw [<- hD];rfl
     have d12:D 12 = some 53:=by rw [<- hD];rfl
     have d13:D 13 = some 54:=by rw [<- hD];rfl
     have d14:D 14 = some 10:=by rw [<- hD];rfl
     have r0:∀ v w,R 0 v w = (v = .pointer (some ⟨po,0,none⟩)):=fun v w=>by rw [hR];rfl
     have r1:∀ v w,R 1 v w = (v = .pointer (some ⟨pa,0,none⟩)):=fun v w=>by rw [hR];rfl
     have r2:∀ v w,R 2 v w = (v = .int .i64 x0):=fun v w=>by rw [hR];rfl
     have r3:∀ v w,R 3 v w = (v = .pointer (some ⟨pa,1,none⟩)):=fun v w=>by rw [hR];rfl
     have r4:∀ v w,R 4 v w = (v = .int .i64 x1):=fun v w=>by rw [hR];rfl
     have r5:∀ v w,R 5 v w = ((fun v w=>Sl po [x0,x1] v w) v w):=fun v w=>by rw [hR];rfl
     have r6:∀ v w,R 6 v w = (v = .pointer (some ⟨pb,1,none⟩)):=fun v w=>by rw [hR];rfl
     have r7:∀ v w,R 7 v w = (v = .int .i64 y1):=fun v w=>by rw [hR];rfl
     have r8:∀ v w,R 8 v w = (v = .pointer (some ⟨po,0,none⟩)):=fun v w=>by rw [hR];rfl
     have r9:∀ v w,R 9 v w = (v = .pointer (some ⟨pb,0,none⟩)):=fun v w=>by rw [hR];rfl
     have r10:∀ v w,R 10 v w = (v = .int .i64 y0):=fun v w=>by rw [hR];rfl
     have r11:∀ v w,R 11 v w = (v = .int .i64 ((sub 0 y0).getD 0)):=fun v w=>by rw [hR];rfl
     have r12:∀ v w,R 12 v w = ((fun v w=>Sl po [y1,(sub 0 y0).getD 0] v w) v w):=fun v w=>by rw [hR];rfl
     have r13:∀ v w,R 13 v w = (v = .int .i64 ((dot [x0,x1] [y1,(sub 0 y0).getD 0]).getD 0)):=fun v w=>by rw [hR];rfl
     have r14:∀ v w,R 14 v w = (v = .int .i64 ((dot [x0,x1] [y1,(sub 0 y0).getD 0]).getD 0)):=fun v w=>by rw [hR];rfl
     have F4_:∀ j,D j ≠ some 4:=by rw [<- hD];exact RV.dst_free (by kernel_rfl)
     have Z4_:Z.tmps[4]? = some (.pointer (some ⟨pa,0,none⟩)):=by rw [<- hZ];rfl
     have F5_:∀ j,D j ≠ some 5:=by rw [<- hD];exact RV.dst_free (by kernel_rfl)
     have Z5_:Z.tmps[5]? = some (.pointer (some ⟨pb,0,none⟩)):=by rw [<- hZ];rfl
     have F7_:∀ j,D j ≠ some 7:=by rw [<- hD];exact RV.dst_free (by kernel_rfl)
     have Z7_:Z.tmps[7]? = some (.pointer (some ⟨po,0,none⟩)):=by rw [<- hZ];rfl
     have K1:∀ j v w o,R j v w->R j v (World.alloc w o):=by
      rw [hR]
      intro j v w o h
      revert h
      dsimp only
      split
      all_goals first | exact id | exact fun h=>Sl.alloc h o
     have K2:∀ j v w w' g,After ⟨po,0,none⟩ g w w'->R j v w->R j v w':=by
      rw [hR]
      intro j v w w' g A h
      revert h
      dsimp only
      split
      all_goals first | exact id | exact fun h=>Sl.after h A
     clear hD hWA hZ hR
     refine RV.cc 0 (RV.dp (fun γ v L w hl h=>by rw [RV.mn (L:=L) (i:=0) (j:=11) (by decide),RV.mn (L:=L) (i:=0) (j:=13) (by decide)];exact h) (fun γ L a w hH hl hA=>by have e0:=((hH.rest 7 F7_).trans Z7_);exact ⟨.pointer (some ⟨po,0,none⟩),by simp [execOp,go_sem,e0],(r0 _ _).mpr rfl⟩)) ?_
     refine RV.cc 1 (RV.dp (fun γ v L w hl h=>by rw [RV.mn (L:=L) (i:=1) (j:=11) (by decide),RV.mn (L:=L) (i:=1) (j:=13) (by decide)];exact h) (fun γ L a w hH hl hA=>by have e0:=((hH.rest 4 F4_).trans Z4_);exact ⟨.pointer (some ⟨pa,0,none⟩),by simp [execOp,go_sem,e0],(r1 _ _).mpr rfl⟩)) ?_
     refine RV.cc 2 (RV.dp (fun γ v L w hl h=>by rw [RV.mn (L:=L) (i:=2) (j:=11) (by decide),RV.mn (L:=L) (i:=2) (j:=13) (by decide)];exact h) (fun γ L a w hH hl hA=>by have e0:=hH.got d1 r1 (hA ⟨1,.data⟩ (by simp) rfl);have z:=(hH.glob.fix (⟨pa,0,none⟩,.int .i64 x0) (by simp)).1;exact ⟨.int .i64 x0,by simp [execOp,go_sem,e0,z],(r2 _ _).mpr rfl⟩)) ?_
     refine RV.cc 3 (RV.dp (fun γ v L w hl h=>by rw [RV.mn (L:=L) (i:=3) (j:=11) (by decide),RV.mn (L:=L) (i:=3) (j:=13) (by decide)];exact h) (fun γ L a w hH hl hA=>by have e0:=((hH.rest 4 F4_).trans Z4_);exact ⟨.pointer (some ⟨pa,1,none⟩),by simp [execOp,go_sem,e0],(r3 _ _).mpr rfl⟩)) ?_
     refine RV.cc 4 (RV.dp (fun γ v L w hl h=>by rw [RV.mn (L:=L) (i:=4) (j:=11) (by decide),RV.mn (L:=L) (i:=4) (j:=13) (by decide)];exact h) (fun γ L a w hH hl hA=>by have e0:=hH.got d3 r3 (hA ⟨3,.data⟩ (by simp) rfl);have z:=(hH.glob.fix (⟨pa,1,none⟩,.int .i64 x1) (by simp)).1;exact ⟨.int .i64 x1,by simp [execOp,go_sem,e0,z],(r4 _ _).mpr rfl⟩)) ?_
     refine RV.cc 5 (RV.does_step (fun γ L a w hH hl hA=>by have e0:=hH.got d2 r2 (hA ⟨2,.data⟩ (by simp) rfl);have e1:=hH.got d4 r4 (hA ⟨4,.data⟩ (by simp) rfl);exact ⟨.slice (some ⟨w.heap.size,0,none⟩) 2 2,w.alloc (.cells #[.int .i64 x0,.int .i64 x1] 3),by simp [execOp,go_sem,e0,e1],(r5 _ _).mpr (Sl.new hH.glob.own),fun j v _ h=>K1 j v _ _ h,by rw [RV.mn (L:=L) (i:=5) (j:=11) (by decide),RV.mn (L:=L) (i:=5) (j:=13) (by decide)];exact hH.glob.alloc _⟩)) ?_
     refine RV.cc 6 (RV.dp (fun γ v L w hl h=>by rw [RV.mn (L:=L) (i:=6) (j:=11) (by decide),RV.mn (L:=L) (i:=6) (j:=13) (by decide)];exact h) (fun γ L a w hH hl hA=>by have e0:=((hH.rest 5 F5_).trans Z5_);exact ⟨.pointer (some ⟨pb,1,none⟩),by simp [execOp,go_sem,e0],(r6 _ _).mpr rfl⟩)) ?_
     refine RV.cc 7 (RV.dp (fun γ v L w hl h=>by rw [RV.mn (L:=L) (i:=7) (j:=11) (by decide),RV.mn (L:=L) (i:=7) (j:=13) (by decide)];exact h) (fun γ L a w hH hl hA=>by have e0:=hH.got d6 r6 (hA ⟨6,.data⟩ (by simp) rfl);have z:=(hH.glob.fix (⟨pb,1,none⟩,.int .i64 y1) (by simp)).1;exact ⟨.int .i64 y1,by simp [execOp,go_sem,e0,z],(r7 _ _).mpr rfl⟩)) ?_
     refine RV.cc 8 (RV.dp (fun γ v L w hl h=>by rw [RV.mn (L:=L) (i:=8) (j:=11) (by decide),RV.mn (L:=L) (i:=8) (j:=13) (by decide)];exact h) (fun γ L a w hH hl hA=>by have e0:=((hH.rest 7 F7_).trans Z7_);exact ⟨.pointer (some ⟨po,0,none⟩),by simp [execOp,go_sem,e0],(r8 _ _).mpr rfl⟩)) ?_
     refine RV.cc 9 (RV.dp (fun γ v L w hl h=>by rw [RV.mn (L:=L) (i:=9) (j:=11) (by decide),RV.mn (L:=L) (i:=9) (j:=13) (by decide)];exact h) (fun γ L a w hH hl hA=>by have e0:=((hH.rest 5 F5_).trans Z5_);exact ⟨.pointer (some ⟨pb,0,none⟩),by simp [execOp,go_sem,e0],(r9 _ _).mpr rfl⟩)) ?_
     refine RV.cc 10 (RV.dp (fun γ v L w hl h=>by rw [RV.mn (L:=L) (i:=10) (j:=11) (by decide),RV.mn (L:=L) (i:=10) (j:=13) (by decide)];exact h) (fun γ L a w hH hl hA=>by have e0:=hH.got d9 r9 (hA ⟨9,.data⟩ (by simp) rfl);have z:=(hH.glob.fix (⟨pb,0,none⟩,.int .i64 y0) (by simp)).1;exact ⟨.int .i64 y0,by simp [execOp,go_sem,e0,z],(r10 _ _).mpr rfl⟩)) ?_
     refine RV.cc 11 (RV.dc (fun γ L a w hH hl hA=>by have e0:=hH.got d8 r8 (hA ⟨8,.data⟩ (by simp) rfl);have e1:=hH.got d10 r10 (hA ⟨10,.data⟩ (by simp) rfl);refine ⟨87,#[.pointer (some ⟨po,0,none⟩),.int .i64 0,.int .i64 y0],by simp [go_sem,e0,e1],Calls.mono (rsub_law po 0 _ 0 y0 w hH.glob.own hH.glob.ownf) ?_⟩;rintro e w2 ⟨v,g,rfl,SS,A⟩;obtain ⟨rfl,rfl⟩:=SS.out;exact ⟨_,rfl,(r11 _ _).mpr rfl,fun j v _ h=>K2 j v _ _ _ A.out h,by have h9:=hH.glob.after A.out;rw [hl] at h9;rw [RV.more_self,RV.mn (L:=L) (i:=11) (j:=13) (by decide)];rw [fl11] at h9;exact h9⟩)) ?_
     refine RV.cc 12 (RV.does_step (fun γ L a w hH hl hA=>by have e0:=hH.got d7 r7 (hA ⟨7,.data⟩ (by simp) rfl);have e1:=hH.got d11 r11 (hA ⟨11,.data⟩ (by simp) rfl);exact ⟨.slice (some ⟨w.heap.size,0,none⟩) 2 2,w.alloc (.cells #[.int .i64 y1,.int .i64 ((sub 0 y0).getD 0)] 3),by simp [execOp,go_sem,e0,e1],(r12 _ _).mpr (Sl.new hH.glob.own),fun j v _ h=>K1 j v _ _ h,by rw [RV.mn (L:=L) (i:=12) (j:=11) (by decide),RV.mn (L:=L) (i:=12) (j:=13) (by decide)];exact hH.glob.alloc _⟩)) ?_
     refine RV.cc 13 (RV.dc (fun γ L a w hH hl hA=>by have e0:=hH.got d0 r0 (hA ⟨0,.data⟩ (by simp) rfl);have l1:L 5 = true:=hA ⟨5,.data⟩ (by simp) rfl;have e1:=hH.slot 5 46 d5 l1;have g1:=hH.holds 5 l1;rw [r5] at g1;have l2:L 12 = true:=hA ⟨12,.data⟩ (by simp) rfl;have e2:=hH.slot 12 53 d12 l2;have g2:=hH.holds 12 l2;rw [r12] at g2;obtain ⟨s1,q1,c1⟩:=g1;obtain ⟨s2,q2,c2⟩:=g2;rw [q1] at e1;rw [q2] at e2;refine ⟨112,#[.pointer (some ⟨po,0,none⟩),.slice (some ⟨s1,0,none⟩) 2 2,.slice (some ⟨s2,0,none⟩) 2 2],by simp [go_sem,e0,e1,e2],Calls.mono (rdot_law po 0 _ [x0,x1] [y1,(sub 0 y0).getD 0] _ _ 2 2 w hH.glob.own hH.glob.ownf (by simp) (by simp) (sl_row c1.2) (sl_row c2.2)) ?_⟩;rintro e w2 ⟨v,g,rfl,SS,A⟩;obtain ⟨rfl,rfl⟩:=SS.out;exact ⟨_,rfl,(r13 _ _).mpr rfl,fun j v _ h=>K2 j v _ _ _ A.out h,by have h9:=hH.glob.after A.out;rw [hl] at h9;rw [RV.more_self,RV.mn (L:=L) (i:=13) (j:=11) (by decide)];rw [fl13] at h9;exact h9⟩)) ?_
     refine RV.cc 14 (RV.dp (fun γ v L w hl h=>by rw [RV.mn (L:=L) (i:=14) (j:=11) (by decide),RV.mn (L:=L) (i:=14) (j:=13) (by decide)];exact h) (fun γ L a w hH hl hA=>by have e0:=hH.got d13 r13 (hA ⟨13,.data⟩ (by simp) rfl);exact ⟨.int .i64 ((dot [x0,x1] [y1,(sub 0 y0).getD 0]).getD 0),by simp [execOp,go_sem,e0],(r14 _ _).mpr rfl⟩)) ?_
     exact RV.AllDo.nil
    ·intro γ a5 w5 L9 hL hLo hH
     have ha:=RV.held_act hH hL (by kernel_rfl) (by kernel_rfl)
     have hG:=hH.glob
     rw [hL 11 (by decide),hL 13 (by decide)] at hG
     have q14:γ 14 = .int .i64 ((dot [x0,x1] [y1,(sub 0 y0).getD 0]).getD 0):=hH.holds 14 (hL 14 (by decide))
     rw [ha]
     clear ha hH hL hLo
     simp only [RV.putAll,Act.put,List.setIfInBounds_toArray,List.set_cons_zero,List.set_cons_succ,Nat.zero_add,Nat.reduceAdd]
     rw [q14]
     go_wp2_with (fail)
     go_meet
     case rel=>exact ⟨rfl,hG⟩
   case rest =>
    clear H
    obtain ⟨rfl,H⟩:=hcut
    obtain ⟨gg4,hgg4⟩:∃ g:Bool,g = (gg3 || (true && (sub 0 y0).isNone) || (true && (dot [x0,x1] [y1,(sub 0 y0).getD 0]).isNone)):=⟨_,rfl⟩
    rw [<- hgg4] at H
    go_wp2_with (fail)
    refine (done_any b off po f gg4 _ H.out.flag H.out.flagf H.out.own (by omega)).mono ?_
    rintro e V9 ⟨rfl,A⟩
    have rr0:=A.out.cellOf (H.out.fix (⟨pr,0,none⟩,.int .i64 0) (by simp)).1 (by show pr ≠ b;omega)
    have rf0:=A.out.frozenOf (H.out.fix (⟨pr,0,none⟩,.int .i64 0) (by simp)).1 (H.out.fix (⟨pr,0,none⟩,.int .i64 0) (by simp)).2 (by show pr ≠ b;omega)
    have rr1:=A.out.cellOf (H.out.fix (⟨pr,1,none⟩,.int .i64 0) (by simp)).1 (by show pr ≠ b;omega)
    have rf1:=A.out.frozenOf (H.out.fix (⟨pr,1,none⟩,.int .i64 0) (by simp)).1 (H.out.fix (⟨pr,1,none⟩,.int .i64 0) (by simp)).2 (by show pr ≠ b;omega)
    have rr2:=A.out.cellOf (H.out.fix (⟨pr,2,none⟩,.int .i64 0) (by simp)).1 (by show pr ≠ b;omega)
    have rf2:=A.out.frozenOf (H.out.fix (⟨pr,2,none⟩,.int .i64 0) (by simp)).1 (H.out.fix (⟨pr,2,none⟩,.int .i64 0) (by simp)).2 (by show pr ≠ b;omega)
    have HL:Hid (Leaves ⟨b,off,none⟩ W V9):=H.out.leaves.same A.out
    have hp:=A.out.cell
    have hpf:=A.out.frozen
    have n1:b ≠ pr:=by omega
    have n2:pr ≠ b:=by omega
    have hWr:W.heap.size <= pr:=by omega
    have HS:Hid _:=cross_chain (f:=f) hgg2 hgg3 hgg4
    clear hgg2 hgg3 hgg4
    clear A H
    cases gg4 with
    | true =>
     go_wp2_with (fail)
     refine bodyPost_ret (by simp [results,Tryz.results65,go_sem,rr0,rr1,rr2];try rfl) rfl ?_
     refine ⟨0,0,0,_,rfl,HS.out,(((HL.out.set hWr _).set hWr _).set hWr _).done ?_ ?_⟩
     ·simp [go_sem,hp]
     ·simp [go_sem,hpf]
    | false =>
     go_wp2_with (fail)
     refine bodyPost_ret (by simp [results,Tryz.results65,go_sem,rr0,rr1,rr2];try rfl) rfl ?_
     refine ⟨_,_,_,_,rfl,HS.out,(((HL.out.set hWr _).set hWr _).set hWr _).done ?_ ?_⟩
     ·simp [go_sem,hp]
     ·simp [go_sem,hpf]
end
end Go.Proofs.YtpjaacpcdomfiaaGreat
