/- Package vec's cross product. -/
import Derived.Test.YtpjaacpcdomfiaaGreatSBTells4
set_option maxHeartbeats 4000000
set_option linter.unusedVariables false
namespace Go.Proofs.YtpjaacpcdomfiaaGreat
section
open Go.RowKit Fx
theorem neg_is (y:Int):((sub 0 y).isNone = true/\great y = true/\great (-y) = true) \/ ((sub 0 y) = some (-y)/\great y = false/\great (-y) = false):=by
 cases h:great y
 ·have h':=(not_great y).1 h
  have g:great (-y) = false:=(not_great _).2 (by omega)
  refine Or.inr ⟨?_,rfl,g⟩
  have z:great 0 = false:=by decide
  have e:(0:Int) - y = -y:=by omega
  simp [sub,h,z,Fx.told,e,g]
 ·have h':=(great_iff y).1 h
  refine Or.inl ⟨?_,rfl,(great_iff _).2 (by omega)⟩
  simp [sub,h]
theorem dot_great {l m:List Int} (h:m.any great = true):(dot l m).isNone = true:=by
 unfold dot;split
 ·rfl
 ·split
  ·rfl
  ·rw [h];simp
theorem cross_step {f g0:Bool} {x0 x1 x2 y0 y1 y2:Int} (hg:g0 = (false || ((sub 0 y0).isNone || (sub 0 y1).isNone || (sub 0 y2).isNone))) {bd:Bool}
  (hb:bd = (g0 || ((dot [x1,x2] [y2,(sub 0 y1).getD 0]).isNone || ((dot [x2,x0] [y0,(sub 0 y2).getD 0]).isNone || (dot [x0,x1] [y1,(sub 0 y0).getD 0]).isNone)))) :
  Step3 f (dot [x1,x2] [y2,-y1]) (dot [x2,x0] [y0,-y2]) (dot [x0,x1] [y1,-y0]) (cond bd 0 ((dot [x1,x2] [y2,(sub 0 y1).getD 0]).getD 0)) (cond bd 0 ((dot [x2,x0] [y0,(sub 0 y2).getD 0]).getD 0)) (cond bd 0 ((dot [x0,x1] [y1,(sub 0 y0).getD 0]).getD 0)) (f || bd):=by
 have key:(bd = true/\((dot [x1,x2] [y2,-y1]).isNone || (dot [x2,x0] [y0,-y2]).isNone || (dot [x0,x1] [y1,-y0]).isNone) = true) \/ (sub 0 y0 = some (-y0)/\sub 0 y1 = some (-y1)/\sub 0 y2 = some (-y2)):=by
  rcases neg_is y0 with ⟨a1,a2,a3⟩ | ⟨a1,_,_⟩
  ·left;exact ⟨by rw [hb,hg,a1];simp,by rw [dot_great (l:=[x0,x1]) (m:=[y1,-y0]) (by simp [a3])];simp⟩
  ·rcases neg_is y1 with ⟨b1,b2,b3⟩ | ⟨b1,_,_⟩
   ·left;exact ⟨by rw [hb,hg,b1];simp,by rw [dot_great (l:=[x1,x2]) (m:=[y2,-y1]) (by simp [b3])];simp⟩
   ·rcases neg_is y2 with ⟨c1,c2,c3⟩ | ⟨c1,_,_⟩
    ·left;exact ⟨by rw [hb,hg,c1];simp,by rw [dot_great (l:=[x2,x0]) (m:=[y0,-y2]) (by simp [c3])];simp⟩
    ·right;exact ⟨a1,b1,c1⟩
 rcases key with ⟨h1,h2⟩ | ⟨h1,h2,h3⟩
 ·rw [h1]
  unfold Step3
  rw [h2]
  exact ⟨rfl,rfl,rfl,rfl⟩
 ·rw [h1,h2,h3] at hb hg
  rw [h1,h2,h3]
  have hg':g0 = false:=by rw [hg];rfl
  rw [hg',Bool.false_or] at hb
  simp only [Option.getD_some] at hb ⊢
  unfold Step3
  rw [Bool.or_assoc,<- hb]
  exact ⟨rfl,rfl,rfl,rfl⟩
def cross_bad (b off:Nat) (f g0:Bool) (pa pb pr po pm:Nat) (x0 x1 x2 y0 y1 y2:Int) (W U:World):Bool:=g0 || ([(11,(dot [x1,x2] [y2,(sub 0 y1).getD 0]).isNone),(22,(dot [x2,x0] [y0,(sub 0 y2).getD 0]).isNone),(33,(dot [x0,x1] [y1,(sub 0 y0).getD 0]).isNone)]:List (Nat × Bool)).any (·.2)
def cross_sh (b off:Nat) (f g0:Bool) (pa pb pr po pm:Nat) (x0 x1 x2 y0 y1 y2:Int) (W U:World):Nat->Shape
 | 0=>.is (.pointer (some ⟨b,off,none⟩))
 | 1=>.is (.pointer (some ⟨pa,1,none⟩))
 | 2=>.is (.int .i64 x1)
 | 3=>.is (.pointer (some ⟨pa,2,none⟩))
 | 4=>.is (.int .i64 x2)
 | 5=>.row 2
 | 6=>.is (.pointer (some ⟨pb,2,none⟩))
 | 7=>.is (.int .i64 y2)
 | 8=>.is (.pointer (some ⟨pm,1,none⟩))
 | 9=>.is (.int .i64 ((sub 0 y1).getD 0))
 | 10=>.row 2
 | 11=>.is (.int .i64 ((dot [x1,x2] [y2,(sub 0 y1).getD 0]).getD 0))
 | 12=>.is (.pointer (some ⟨pa,2,none⟩))
 | 13=>.is (.int .i64 x2)
 | 14=>.is (.pointer (some ⟨pa,0,none⟩))
 | 15=>.is (.int .i64 x0)
 | 16=>.row 2
 | 17=>.is (.pointer (some ⟨pb,0,none⟩))
 | 18=>.is (.int .i64 y0)
 | 19=>.is (.pointer (some ⟨pm,2,none⟩))
 | 20=>.is (.int .i64 ((sub 0 y2).getD 0))
 | 21=>.row 2
 | 22=>.is (.int .i64 ((dot [x2,x0] [y0,(sub 0 y2).getD 0]).getD 0))
 | 23=>.is (.pointer (some ⟨pa,0,none⟩))
 | 24=>.is (.int .i64 x0)
 | 25=>.is (.pointer (some ⟨pa,1,none⟩))
 | 26=>.is (.int .i64 x1)
 | 27=>.row 2
 | 28=>.is (.pointer (some ⟨pb,1,none⟩))
 | 29=>.is (.int .i64 y1)
 | 30=>.is (.pointer (some ⟨pm,0,none⟩))
 | 31=>.is (.int .i64 ((sub 0 y0).getD 0))
 | 32=>.row 2
 | 33=>.is (.int .i64 ((dot [x0,x1] [y1,(sub 0 y0).getD 0]).getD 0))
 | 34=>.is (.agg #[.int .i64 ((dot [x1,x2] [y2,(sub 0 y1).getD 0]).getD 0),.int .i64 ((dot [x2,x0] [y0,(sub 0 y2).getD 0]).getD 0),.int .i64 ((dot [x0,x1] [y1,(sub 0 y0).getD 0]).getD 0)])
 | 35=>.is (.agg #[.int .i64 (cond (cross_bad b off f g0 pa pb pr po pm x0 x1 x2 y0 y1 y2 W U) 0 ((dot [x1,x2] [y2,(sub 0 y1).getD 0]).getD 0)),.int .i64 (cond (cross_bad b off f g0 pa pb pr po pm x0 x1 x2 y0 y1 y2 W U) 0 ((dot [x2,x0] [y0,(sub 0 y2).getD 0]).getD 0)),.int .i64 (cond (cross_bad b off f g0 pa pb pr po pm x0 x1 x2 y0 y1 y2 W U) 0 ((dot [x0,x1] [y1,(sub 0 y0).getD 0]).getD 0))])
 | 36=>.ptr
 | _=>.ptr
def cross_plan (b off:Nat) (f g0:Bool) (pa pb pr po pm:Nat) (x0 x1 x2 y0 y1 y2:Int) (W U:World):Plan where
 W:=W
 N:=U.heap.size
 p:=⟨b,off,none⟩
 fl:=⟨po,0,none⟩
 g0:=g0
 bad:=cross_bad b off f g0 pa pb pr po pm x0 x1 x2 y0 y1 y2 W U
 f:=f
 calls:=[(11,(dot [x1,x2] [y2,(sub 0 y1).getD 0]).isNone),(22,(dot [x2,x0] [y0,(sub 0 y2).getD 0]).isNone),(33,(dot [x0,x1] [y1,(sub 0 y0).getD 0]).isNone)]
 tl:=35
 st:=36
 r:=pr
 res:=[.int .i64 (cond (cross_bad b off f g0 pa pb pr po pm x0 x1 x2 y0 y1 y2 W U) 0 ((dot [x1,x2] [y2,(sub 0 y1).getD 0]).getD 0)),.int .i64 (cond (cross_bad b off f g0 pa pb pr po pm x0 x1 x2 y0 y1 y2 W U) 0 ((dot [x2,x0] [y0,(sub 0 y2).getD 0]).getD 0)),.int .i64 (cond (cross_bad b off f g0 pa pb pr po pm x0 x1 x2 y0 y1 y2 W U) 0 ((dot [x0,x1] [y1,(sub 0 y0).getD 0]).getD 0))]
 fixed:=[(⟨pa,0,none⟩,.int .i64 x0),
  (⟨pa,1,none⟩,.int .i64 x1),
  (⟨pa,2,none⟩,.int .i64 x2),
  (⟨pb,0,none⟩,.int .i64 y0),
  (⟨pb,1,none⟩,.int .i64 y1),
  (⟨pb,2,none⟩,.int .i64 y2),
  (⟨pm,0,none⟩,.int .i64 ((sub 0 y0).getD 0)),
  (⟨pm,1,none⟩,.int .i64 ((sub 0 y1).getD 0)),
  (⟨pm,2,none⟩,.int .i64 ((sub 0 y2).getD 0))]
 made:=[⟨5,5,[.int .i64 x1,.int .i64 x2]⟩,⟨10,10,[.int .i64 y2,.int .i64 ((sub 0 y1).getD 0)]⟩,⟨16,16,[.int .i64 x2,.int .i64 x0]⟩,⟨21,21,[.int .i64 y0,.int .i64 ((sub 0 y2).getD 0)]⟩,⟨27,27,[.int .i64 x0,.int .i64 x1]⟩,⟨32,32,[.int .i64 y1,.int .i64 ((sub 0 y0).getD 0)]⟩]
theorem cross_cn (b off:Nat) (f g0:Bool) (pa pb pr po pm:Nat) (x0 x1 x2 y0 y1 y2:Int) (W U:World):((cross_plan b off f g0 pa pb pr po pm x0 x1 x2 y0 y1 y2 W U).calls.map (·.1)).Nodup:=of_decide_eq_true rfl
theorem cross_mn (b off:Nat) (f g0:Bool) (pa pb pr po pm:Nat) (x0 x1 x2 y0 y1 y2:Int) (W U:World):((cross_plan b off f g0 pa pb pr po pm x0 x1 x2 y0 y1 y2 W U).made.map (·.i)).Nodup:=of_decide_eq_true rfl
theorem cross_bads (b off:Nat) (f g0:Bool) (pa pb pr po pm:Nat) (x0 x1 x2 y0 y1 y2:Int) (W U:World):((cross_plan b off f g0 pa pb pr po pm x0 x1 x2 y0 y1 y2 W U).bad = true->(cross_plan b off f g0 pa pb pr po pm x0 x1 x2 y0 y1 y2 W U).g0 = true \/ ∃ c ∈ (cross_plan b off f g0 pa pb pr po pm x0 x1 x2 y0 y1 y2 W U).calls,c.2 = true)/\∀ c ∈ (cross_plan b off f g0 pa pb pr po pm x0 x1 x2 y0 y1 y2 W U).calls,c.2 = true->(cross_plan b off f g0 pa pb pr po pm x0 x1 x2 y0 y1 y2 W U).bad = true:=
 bad_any_of _ rfl
theorem vcross_law (b off:Nat) (f:Bool) (x0 x1 x2 y0 y1 y2:Int) (W:World) (hc:W.cell? ⟨b,off,none⟩ = some (.bool f)) (hf:W.frozen? ⟨b,off,none⟩ = false) :
  Calls Tryz.prog 63 #[.pointer (some ⟨b,off,none⟩),.agg #[.int .i64 x0,.int .i64 x1,.int .i64 x2],.agg #[.int .i64 y0,.int .i64 y1,.int .i64 y2]] W fun e W'=>∃ v0 v1 v2 g,e = .returned (.agg #[.int .i64 v0,.int .i64 v1,.int .i64 v2])/\Hid (Step3 f (dot [x1,x2] [y2,-y1]) (dot [x2,x0] [y0,-y2]) (dot [x0,x1] [y1,-y0]) v0 v1 v2 g)/\Hid (After ⟨b,off,none⟩ g W W'):=by
 have hbW:b < W.heap.size:=World.block_lt_of_cell? _ _ hc
 go_enter Tryz.func63,Tryz.ntmps63
 go_wp2_with (fail)
 refine (each_sub_any (W.heap.size + 1 + 1 + 1) false 0 0 0 y0 y1 y2 _ (by simp [go_sem]) (by simp [go_sem])).mono ?_
 rintro e W1 ⟨g0,rfl,SG,A⟩
 have hp:=A.out.cellOf (q:=⟨b,off,none⟩) (v:=.bool f) (by rw [World.cell?_alloc_past _ _ _ (by simp;omega),World.cell?_alloc_past _ _ _ (by simp;omega),World.cell?_alloc_past _ _ _ (by simp;omega),World.cell?_alloc_past _ _ _ hbW];exact hc) (by simp;omega)
 have hpf:=A.out.frozenOf (q:=⟨b,off,none⟩) (v:=.bool f) (by rw [World.cell?_alloc_past _ _ _ (by simp;omega),World.cell?_alloc_past _ _ _ (by simp;omega),World.cell?_alloc_past _ _ _ (by simp;omega),World.cell?_alloc_past _ _ _ hbW];exact hc) (by rw [((new_after _ _).frozen (by simp;omega)),((new_after _ _).frozen (by simp;omega)),((new_after _ _).frozen (by simp;omega)),((new_after _ _).frozen hbW)];exact hf) (by simp;omega)
 have HL:Hid (Leaves ⟨b,off,none⟩ W W1):=(((((Leaves.refl _ _).alloc _).alloc _).alloc _).alloc _).after A.out (by simp;omega)
 have ho:=A.out.cell
 have hof:=A.out.frozen
 have k0_0:=A.out.cellOf (q:=⟨W.heap.size,0,none⟩) (v:=.int .i64 x0) (by simp [go_sem]) (by simp;omega)
 have k1_0:=A.out.cellOf (q:=⟨W.heap.size + 1,0,none⟩) (v:=.int .i64 y0) (by simp [go_sem]) (by simp)
 have rf0:=A.out.frozenOf (q:=⟨W.heap.size + 1 + 1,0,none⟩) (v:=.int .i64 0) (by simp [go_sem]) (by simp [go_sem]) (by simp)
 have rr0:=A.out.cellOf (q:=⟨W.heap.size + 1 + 1,0,none⟩) (v:=.int .i64 0) (by simp [go_sem]) (by simp)
 have k0_1:=A.out.cellOf (q:=⟨W.heap.size,1,none⟩) (v:=.int .i64 x1) (by simp [go_sem]) (by simp;omega)
 have k1_1:=A.out.cellOf (q:=⟨W.heap.size + 1,1,none⟩) (v:=.int .i64 y1) (by simp [go_sem]) (by simp)
 have rf1:=A.out.frozenOf (q:=⟨W.heap.size + 1 + 1,1,none⟩) (v:=.int .i64 0) (by simp [go_sem]) (by simp [go_sem]) (by simp)
 have rr1:=A.out.cellOf (q:=⟨W.heap.size + 1 + 1,1,none⟩) (v:=.int .i64 0) (by simp [go_sem]) (by simp)
 have k0_2:=A.out.cellOf (q:=⟨W.heap.size,2,none⟩) (v:=.int .i64 x2) (by simp [go_sem]) (by simp;omega)
 have k1_2:=A.out.cellOf (q:=⟨W.heap.size + 1,2,none⟩) (v:=.int .i64 y2) (by simp [go_sem]) (by simp)
 have rf2:=A.out.frozenOf (q:=⟨W.heap.size + 1 + 1,2,none⟩) (v:=.int .i64 0) (by simp [go_sem]) (by simp [go_sem]) (by simp)
 have rr2:=A.out.cellOf (q:=⟨W.heap.size + 1 + 1,2,none⟩) (v:=.int .i64 0) (by simp [go_sem]) (by simp)
 have hs:=A.out.size
 simp only [World.size_alloc] at hs
 clear A hc hf
 go_wp2_with (fail)
 obtain ⟨U,hU⟩:∃ U,U = W1.alloc (.cells #[.int .i64 ((sub 0 y0).getD 0),.int .i64 ((sub 0 y1).getD 0),.int .i64 ((sub 0 y2).getD 0)] 23):=⟨_,rfl⟩
 obtain ⟨pm,hpm⟩:∃ p,p = W1.heap.size:=⟨_,rfl⟩
 have hb:=new_after W1 (.cells #[.int .i64 ((sub 0 y0).getD 0),.int .i64 ((sub 0 y1).getD 0),.int .i64 ((sub 0 y2).getD 0)] 23)
 rw [<- hU] at hb
 have hUs:U.heap.size = pm + 1:=by rw [hU,hpm];simp
 have k2_0:U.cell? ⟨pm,0,none⟩ = some (.int .i64 ((sub 0 y0).getD 0)):=by rw [hU,hpm];simp
 have k2_1:U.cell? ⟨pm,1,none⟩ = some (.int .i64 ((sub 0 y1).getD 0)):=by rw [hU,hpm];simp
 have k2_2:U.cell? ⟨pm,2,none⟩ = some (.int .i64 ((sub 0 y2).getD 0)):=by rw [hU,hpm];simp
 rw [<- hU,<- hpm]
 rw [<- hpm] at hs
 replace HL:Hid (Leaves ⟨b,off,none⟩ W U):=by show Leaves _ _ _;rw [hU];exact HL.out.alloc _
 replace hpf:=frozen_after hb hp hpf
 replace hp:=cell_after hb hp
 replace hof:=frozen_after hb ho hof
 replace ho:=cell_after hb ho
 replace k0_0:=cell_after hb k0_0
 replace k1_0:=cell_after hb k1_0
 replace rf0:=frozen_after hb rr0 rf0
 replace rr0:=cell_after hb rr0
 replace k0_1:=cell_after hb k0_1
 replace k1_1:=cell_after hb k1_1
 replace rf1:=frozen_after hb rr1 rf1
 replace rr1:=cell_after hb rr1
 replace k0_2:=cell_after hb k0_2
 replace k1_2:=cell_after hb k1_2
 replace rf2:=frozen_after hb rr2 rf2
 replace rr2:=cell_after hb rr2
 clear hU hpm hb
 obtain ⟨pa,hpa⟩:∃ p,p = W.heap.size:=⟨_,rfl⟩
 obtain ⟨pb,hpb⟩:∃ p,p = W.heap.size + 1:=⟨_,rfl⟩
 obtain ⟨pr,hpr⟩:∃ p,p = W.heap.size + 1 + 1:=⟨_,rfl⟩
 obtain ⟨po,hpo⟩:∃ p,p = W.heap.size + 1 + 1 + 1:=⟨_,rfl⟩
 rw [<- hpo,<- hpr,<- hpb]
 rw [<- hpo] at ho hof
 rw [<- hpr] at rr0 rr1 rr2 rf0 rf1 rf2
 rw [<- hpb] at k1_0 k1_1 k1_2
 rw [<- hpa] at k0_0 k0_1 k0_2
 have q0:W.heap.size <= pa:=by omega
 have q1:pa < pb:=by omega
 have q2:pb < pr:=by omega
 have q3:pr < po:=by omega
 have q4:po < pm:=by omega
 rw [<- hpa]
 clear hpa hpb hpr hpo hs
 have hπ:(cross_plan b off f g0 pa pb pr po pm x0 x1 x2 y0 y1 y2 W U).Good:=by
  refine good_of ?_ ?_ ?_ ?_ ?_ ?_ ?_ (cross_bads b off f g0 pa pb pr po pm x0 x1 x2 y0 y1 y2 W U).1 (cross_bads b off f g0 pa pb pr po pm x0 x1 x2 y0 y1 y2 W U).2
  ·show W.heap.size <= pr;omega
  ·show pr < U.heap.size;omega
  ·exact Or.inr (by show W.heap.size <= po;omega)
  ·show po < U.heap.size;omega
  ·show po ≠ pr;omega
  ·show b < W.heap.size;omega
  ·intro c hc
   simp only [cross_plan,List.mem_cons,List.not_mem_nil,or_false] at hc
   rcases hc with rfl | rfl | rfl | rfl | rfl | rfl | rfl | rfl | rfl <;> (show _ < U.heap.size/\_ ≠ po/\_ ≠ b/\_ ≠ pr) <;> (dsimp only) <;> omega
 refine region_by (shapeVal (cross_sh b off f g0 pa pb pr po pm x0 x1 x2 y0 y1 y2 W U)) (Glob (cross_plan b off f g0 pa pb pr po pm x0 x1 x2 y0 y1 y2 W U)) (by kernel_rfl) (by kernel_rfl) (by kernel_rfl) (by kernel_rfl) (fun _=>0) ?_ ?_ ?_
 ·refine ⟨?_,?_,?_,?_,?_,?_,(fun _ _ h=>by cases h),(fun _ _ _ _ h=>by cases h)⟩
  ·exact HL.out.drew
  ·exact Nat.le_refl _
  ·exact ⟨g0,ho,hof,fun h=>by show cross_bad b off f g0 pa pb pr po pm x0 x1 x2 y0 y1 y2 W U = true;simp [cross_bad,h],fun h=>h,fun _ _ h=>by cases h⟩
  ·refine Or.inr ⟨?_,hpf⟩
   show U.cell? ⟨b,off,none⟩ = some (.bool (f || (false && cross_bad b off f g0 pa pb pr po pm x0 x1 x2 y0 y1 y2 W U)))
   rw [Bool.false_and,Bool.or_false];exact hp
  ·refine ⟨[.int .i64 0,.int .i64 0,.int .i64 0],rfl,?_,fun h=>by cases h⟩
   intro k v hk
   match k,hk with
   | 0,hk=>simp at hk;subst hk;exact ⟨rr0,rf0⟩
   | 1,hk=>simp at hk;subst hk;exact ⟨rr1,rf1⟩
   | 2,hk=>simp at hk;subst hk;exact ⟨rr2,rf2⟩
  ·intro c hc
   simp only [cross_plan,List.mem_cons,List.not_mem_nil,or_false] at hc
   rcases hc with rfl | rfl | rfl | rfl | rfl | rfl | rfl | rfl | rfl <;> assumption
 ·generalize hD:dstOf _ = D
  generalize hA:waitsFor _ = A
  generalize hZ:Act.mk _ _ = Z
  have d0:D 0 = some 13:=by rw [<- hD];rfl
  have d1:D 1 = some 14:=by rw [<- hD];rfl
  have d2:D 2 = some 15:=by rw [<- hD];rfl
  have d3:D 3 = some 16:=by rw [<- hD];rfl
  have d4:D 4 = some 17:=by rw [<- hD];rfl
  have d5:D 5 = some 18:=by rw [<- hD];rfl
  have d6:D 6 = some 19:=by rw [<- hD];rfl
  have d7:D 7 = some 20:=by rw [<- hD];rfl
  have d8:D 8 = some 21:=by rw [<- hD];rfl
  have d9:D 9 = some 22:=by rw [<- hD];rfl
  have d10:D 10 = some 23:=by rw [<- hD];rfl
  have d11:D 11 = some 24:=by rw [<- hD];rfl
  have d12:D 12 = some 25:=by rw [<- hD];rfl
  have d13:D 13 = some 26:=by rw [<- hD];rfl
  have d14:D 14 = some 27:=by rw [<- hD];rfl
  have d15:D 15 = some 28:=by rw [<- hD];rfl
  have d16:D 16 = some 29:=by rw [<- hD];rfl
  have d17:D 17 = some 30:=by rw [<- hD];rfl
  have d18:D 18 = some 31:=by rw [<- hD];rfl
  have d19:D 19 = some 32:=by rw [<- hD];rfl
  have d20:D 20 = some 33:=by rw [<- hD];rfl
  have d21:D 21 = some 34:=by rw [<- hD];rfl
  have d22:D 22 = some 35:=by rw [<- hD];rfl
  have d23:D 23 = some 36:=by rw [<- hD];rfl
  have d24:D 24 = some 37:=by rw [<- hD];rfl
  have d25:D 25 = some 38:=by rw [<- hD];rfl
  have d26:D 26 = some 39:=by rw [<- hD];rfl
  have d27:D 27 = some 40:=by rw [<- hD];rfl
  have d28:D 28 = some 41:=by rw [<- hD];rfl
  have d29:D 29 = some 42:=by rw [<- hD];rfl
  have d30:D 30 = some 43:=by rw [<- hD];rfl
  have d31:D 31 = some 44:=by rw [<- hD];rfl
  have d32:D 32 = some 45:=by rw [<- hD];rfl
  have d33:D 33 = some 46:=by rw [<- hD];rfl
  have d34:D 34 = some 47:=by rw [<- hD];rfl
  have d35:D 35 = some 48:=by rw [<- hD];rfl
  have R0:∀ (γ:Nat->Nat) (L:Nat->Bool) (a:Act) (w:World),Held D A (shapeVal (cross_sh b off f g0 pa pb pr po pm x0 x1 x2 y0 y1 y2 W U)) (Glob (cross_plan b off f g0 pa pb pr po pm x0 x1 x2 y0 y1 y2 W U)) Z γ L a w->a.tmps[0]? = some (.pointer (some ⟨b,off,none⟩)):=fun γ L a w hH=>(hH.rest 0 (by rw [<- hD];exact dst_free (by kernel_rfl))).trans (by rw [<- hZ];rfl)
  have R4:∀ (γ:Nat->Nat) (L:Nat->Bool) (a:Act) (w:World),Held D A (shapeVal (cross_sh b off f g0 pa pb pr po pm x0 x1 x2 y0 y1 y2 W U)) (Glob (cross_plan b off f g0 pa pb pr po pm x0 x1 x2 y0 y1 y2 W U)) Z γ L a w->a.tmps[4]? = some (.pointer (some ⟨pa,0,none⟩)):=fun γ L a w hH=>(hH.rest 4 (by rw [<- hD];exact dst_free (by kernel_rfl))).trans (by rw [<- hZ];rfl)
  have R5:∀ (γ:Nat->Nat) (L:Nat->Bool) (a:Act) (w:World),Held D A (shapeVal (cross_sh b off f g0 pa pb pr po pm x0 x1 x2 y0 y1 y2 W U)) (Glob (cross_plan b off f g0 pa pb pr po pm x0 x1 x2 y0 y1 y2 W U)) Z γ L a w->a.tmps[5]? = some (.pointer (some ⟨pb,0,none⟩)):=fun γ L a w hH=>(hH.rest 5 (by rw [<- hD];exact dst_free (by kernel_rfl))).trans (by rw [<- hZ];rfl)
  have R6:∀ (γ:Nat->Nat) (L:Nat->Bool) (a:Act) (w:World),Held D A (shapeVal (cross_sh b off f g0 pa pb pr po pm x0 x1 x2 y0 y1 y2 W U)) (Glob (cross_plan b off f g0 pa pb pr po pm x0 x1 x2 y0 y1 y2 W U)) Z γ L a w->a.tmps[6]? = some (.pointer (some ⟨pr,0,none⟩)):=fun γ L a w hH=>(hH.rest 6 (by rw [<- hD];exact dst_free (by kernel_rfl))).trans (by rw [<- hZ];rfl)
  have R7:∀ (γ:Nat->Nat) (L:Nat->Bool) (a:Act) (w:World),Held D A (shapeVal (cross_sh b off f g0 pa pb pr po pm x0 x1 x2 y0 y1 y2 W U)) (Glob (cross_plan b off f g0 pa pb pr po pm x0 x1 x2 y0 y1 y2 W U)) Z γ L a w->a.tmps[7]? = some (.pointer (some ⟨po,0,none⟩)):=fun γ L a w hH=>(hH.rest 7 (by rw [<- hD];exact dst_free (by kernel_rfl))).trans (by rw [<- hZ];rfl)
  have R8:∀ (γ:Nat->Nat) (L:Nat->Bool) (a:Act) (w:World),Held D A (shapeVal (cross_sh b off f g0 pa pb pr po pm x0 x1 x2 y0 y1 y2 W U)) (Glob (cross_plan b off f g0 pa pb pr po pm x0 x1 x2 y0 y1 y2 W U)) Z γ L a w->a.tmps[8]? = some (.pointer (some ⟨pm,0,none⟩)):=fun γ L a w hH=>(hH.rest 8 (by rw [<- hD];exact dst_free (by kernel_rfl))).trans (by rw [<- hZ];rfl)
  have A_34_11:A 34 11:=by rw [<- hA];exact ⟨_,rfl,⟨11,.data⟩,by simp,rfl,rfl⟩
  have A_34_22:A 34 22:=by rw [<- hA];exact ⟨_,rfl,⟨22,.data⟩,by simp,rfl,rfl⟩
  have A_34_33:A 34 33:=by rw [<- hA];exact ⟨_,rfl,⟨33,.data⟩,by simp,rfl,rfl⟩
  clear hD hA hZ
  refine AllDo.cons 0 rfl (does_pure _ rfl rfl (fun γ L a w hH hA=>by have e1:=R0 γ L a w hH;simp [execOp,go_sem,e1])) ?_
  refine AllDo.cons 1 rfl (does_pure _ rfl rfl (fun γ L a w hH hA=>by have e1:=R4 γ L a w hH;simp [execOp,go_sem,e1])) ?_
  refine AllDo.cons 2 rfl (does_pure _ rfl rfl (fun γ L a w hH hA=>by have e1:=hH.at d1 rfl (hA ⟨1,.data⟩ (by simp) rfl);have e2:=hH.glob.fix (⟨pa,1,none⟩,.int .i64 x1) (by simp [cross_plan]);simp [execOp,go_sem,e1,e2])) ?_
  refine AllDo.cons 3 rfl (does_pure _ rfl rfl (fun γ L a w hH hA=>by have e1:=R4 γ L a w hH;simp [execOp,go_sem,e1])) ?_
  refine AllDo.cons 4 rfl (does_pure _ rfl rfl (fun γ L a w hH hA=>by have e1:=hH.at d3 rfl (hA ⟨3,.data⟩ (by simp) rfl);have e2:=hH.glob.fix (⟨pa,2,none⟩,.int .i64 x2) (by simp [cross_plan]);simp [execOp,go_sem,e1,e2])) ?_
  refine AllDo.cons 5 rfl (does_makes rfl ⟨5,5,[.int .i64 x1,.int .i64 x2]⟩ (by simp [cross_plan]) rfl (made_only (cross_mn b off f g0 pa pb pr po pm x0 x1 x2 y0 y1 y2 W U) (m:=⟨5,5,[.int .i64 x1,.int .i64 x2]⟩) (by simp [cross_plan])) (Or.inl rfl) [.int .i64 x1,.int .i64 x2] 3 rfl (fun _=>rfl) (fun γ L a w hH hA=>by have e1:=hH.at d2 rfl (hA ⟨2,.data⟩ (by simp) rfl);have e2:=hH.at d4 rfl (hA ⟨4,.data⟩ (by simp) rfl);simp [execOp,go_sem,e1,e2,shapeVal,cross_sh,upd_self])) ?_
  refine AllDo.cons 6 rfl (does_pure _ rfl rfl (fun γ L a w hH hA=>by have e1:=R5 γ L a w hH;simp [execOp,go_sem,e1])) ?_
  refine AllDo.cons 7 rfl (does_pure _ rfl rfl (fun γ L a w hH hA=>by have e1:=hH.at d6 rfl (hA ⟨6,.data⟩ (by simp) rfl);have e2:=hH.glob.fix (⟨pb,2,none⟩,.int .i64 y2) (by simp [cross_plan]);simp [execOp,go_sem,e1,e2])) ?_
  refine AllDo.cons 8 rfl (does_pure _ rfl rfl (fun γ L a w hH hA=>by have e1:=R8 γ L a w hH;simp [execOp,go_sem,e1])) ?_
  refine AllDo.cons 9 rfl (does_pure _ rfl rfl (fun γ L a w hH hA=>by have e1:=hH.at d8 rfl (hA ⟨8,.data⟩ (by simp) rfl);have e2:=hH.glob.fix (⟨pm,1,none⟩,.int .i64 ((sub 0 y1).getD 0)) (by simp [cross_plan]);simp [execOp,go_sem,e1,e2])) ?_
  refine AllDo.cons 10 rfl (does_makes rfl ⟨10,10,[.int .i64 y2,.int .i64 ((sub 0 y1).getD 0)]⟩ (by simp [cross_plan]) rfl (made_only (cross_mn b off f g0 pa pb pr po pm x0 x1 x2 y0 y1 y2 W U) (m:=⟨10,10,[.int .i64 y2,.int .i64 ((sub 0 y1).getD 0)]⟩) (by simp [cross_plan])) (Or.inl rfl) [.int .i64 y2,.int .i64 ((sub 0 y1).getD 0)] 3 rfl (fun _=>rfl) (fun γ L a w hH hA=>by have e1:=hH.at d7 rfl (hA ⟨7,.data⟩ (by simp) rfl);have e2:=hH.at d9 rfl (hA ⟨9,.data⟩ (by simp) rfl);simp [execOp,go_sem,e1,e2,shapeVal,cross_sh,upd_self])) ?_
  refine AllDo.cons 11 rfl (does_call hπ _ ((dot [x1,x2] [y2,(sub 0 y1).getD 0]).isNone) rfl (by simp [cross_plan]) (calls_only (cross_cn b off f g0 pa pb pr po pm x0 x1 x2 y0 y1 y2 W U) (by simp [cross_plan])) rfl (fun γ L a w hH hA g hg hz=>by have e1:=R7 γ L a w hH;have e2:=hH.rowAt d5 rfl (hA ⟨5,.data⟩ (by simp) rfl);have e3:=hH.rowAt d10 rfl (hA ⟨10,.data⟩ (by simp) rfl);exact ⟨108,#[.pointer (some ⟨po,0,none⟩),.slice (some ⟨γ 5,0,none⟩) 2 2,.slice (some ⟨γ 10,0,none⟩) 2 2],by simp [go_sem,e1,e2,e3],(fdot_any po 0 g [x1,x2] [y2,(sub 0 y1).getD 0] _ _ 2 2 w hg hz (by simp) (by simp) (madeRow [x1,x2] (hH.glob.made ⟨5,5,[.int .i64 x1,.int .i64 x2]⟩ (by simp [cross_plan]) (hA ⟨5,.data⟩ (by simp) rfl)) (hA ⟨5,.data⟩ (by simp) rfl) rfl) (madeRow [y2,(sub 0 y1).getD 0] (hH.glob.made ⟨10,10,[.int .i64 y2,.int .i64 ((sub 0 y1).getD 0)]⟩ (by simp [cross_plan]) (hA ⟨10,.data⟩ (by simp) rfl)) (hA ⟨10,.data⟩ (by simp) rfl) rfl)).mono (by rintro e W1 ⟨v,g1,rfl,S,Z⟩;exact ⟨by rw [S.out.1],g1,S.out.2,Z.out⟩)⟩)) ?_
  refine AllDo.cons 12 rfl (does_pure _ rfl rfl (fun γ L a w hH hA=>by have e1:=R4 γ L a w hH;simp [execOp,go_sem,e1])) ?_
  refine AllDo.cons 13 rfl (does_pure _ rfl rfl (fun γ L a w hH hA=>by have e1:=hH.at d12 rfl (hA ⟨12,.data⟩ (by simp) rfl);have e2:=hH.glob.fix (⟨pa,2,none⟩,.int .i64 x2) (by simp [cross_plan]);simp [execOp,go_sem,e1,e2])) ?_
  refine AllDo.cons 14 rfl (does_pure _ rfl rfl (fun γ L a w hH hA=>by have e1:=R4 γ L a w hH;simp [execOp,go_sem,e1])) ?_
  refine AllDo.cons 15 rfl (does_pure _ rfl rfl (fun γ L a w hH hA=>by have e1:=hH.at d14 rfl (hA ⟨14,.data⟩ (by simp) rfl);have e2:=hH.glob.fix (⟨pa,0,none⟩,.int .i64 x0) (by simp [cross_plan]);simp [execOp,go_sem,e1,e2])) ?_
  refine AllDo.cons 16 rfl (does_makes rfl ⟨16,16,[.int .i64 x2,.int .i64 x0]⟩ (by simp [cross_plan]) rfl (made_only (cross_mn b off f g0 pa pb pr po pm x0 x1 x2 y0 y1 y2 W U) (m:=⟨16,16,[.int .i64 x2,.int .i64 x0]⟩) (by simp [cross_plan])) (Or.inl rfl) [.int .i64 x2,.int .i64 x0] 3 rfl (fun _=>rfl) (fun γ L a w hH hA=>by have e1:=hH.at d13 rfl (hA ⟨13,.data⟩ (by simp) rfl);have e2:=hH.at d15 rfl (hA ⟨15,.data⟩ (by simp) rfl);simp [execOp,go_sem,e1,e2,shapeVal,cross_sh,upd_self])) ?_
  refine AllDo.cons 17 rfl (does_pure _ rfl rfl (fun γ L a w hH hA=>by have e1:=R5 γ L a w hH;simp [execOp,go_sem,e1])) ?_
  refine AllDo.cons 18 rfl (does_pure _ rfl rfl (fun γ L a w hH hA=>by have e1:=hH.at d17 rfl (hA ⟨17,.data⟩ (by simp) rfl);have e2:=hH.glob.fix (⟨pb,0,none⟩,.int .i64 y0) (by simp [cross_plan]);simp [execOp,go_sem,e1,e2])) ?_
  refine AllDo.cons 19 rfl (does_pure _ rfl rfl (fun γ L a w hH hA=>by have e1:=R8 γ L a w hH;simp [execOp,go_sem,e1])) ?_
  refine AllDo.cons 20 rfl (does_pure _ rfl rfl (fun γ L a w hH hA=>by have e1:=hH.at d19 rfl (hA ⟨19,.data⟩ (by simp) rfl);have e2:=hH.glob.fix (⟨pm,2,none⟩,.int .i64 ((sub 0 y2).getD 0)) (by simp [cross_plan]);simp [execOp,go_sem,e1,e2])) ?_
  refine AllDo.cons 21 rfl (does_makes rfl ⟨21,21,[.int .i64 y0,.int .i64 ((sub 0 y2).getD 0)]⟩ (by simp [cross_plan]) rfl (made_only (cross_mn b off f g0 pa pb pr po pm x0 x1 x2 y0 y1 y2 W U) (m:=⟨21,21,[.int .i64 y0,.int .i64 ((sub 0 y2).getD 0)]⟩) (by simp [cross_plan])) (Or.inl rfl) [.int .i64 y0,.int .i64 ((sub 0 y2).getD 0)] 3 rfl (fun _=>rfl) (fun γ L a w hH hA=>by have e1:=hH.at d18 rfl (hA ⟨18,.data⟩ (by simp) rfl);have e2:=hH.at d20 rfl (hA ⟨20,.data⟩ (by simp) rfl);simp [execOp,go_sem,e1,e2,shapeVal,cross_sh,upd_self])) ?_
  refine AllDo.cons 22 rfl (does_call hπ _ ((dot [x2,x0] [y0,(sub 0 y2).getD 0]).isNone) rfl (by simp [cross_plan]) (calls_only (cross_cn b off f g0 pa pb pr po pm x0 x1 x2 y0 y1 y2 W U) (by simp [cross_plan])) rfl (fun γ L a w hH hA g hg hz=>by have e1:=R7 γ L a w hH;have e2:=hH.rowAt d16 rfl (hA ⟨16,.data⟩ (by simp) rfl);have e3:=hH.rowAt d21 rfl (hA ⟨21,.data⟩ (by simp) rfl);exact ⟨108,#[.pointer (some ⟨po,0,none⟩),.slice (some ⟨γ 16,0,none⟩) 2 2,.slice (some ⟨γ 21,0,none⟩) 2 2],by simp [go_sem,e1,e2,e3],(fdot_any po 0 g [x2,x0] [y0,(sub 0 y2).getD 0] _ _ 2 2 w hg hz (by simp) (by simp) (madeRow [x2,x0] (hH.glob.made ⟨16,16,[.int .i64 x2,.int .i64 x0]⟩ (by simp [cross_plan]) (hA ⟨16,.data⟩ (by simp) rfl)) (hA ⟨16,.data⟩ (by simp) rfl) rfl) (madeRow [y0,(sub 0 y2).getD 0] (hH.glob.made ⟨21,21,[.int .i64 y0,.int .i64 ((sub 0 y2).getD 0)]⟩ (by simp [cross_plan]) (hA ⟨21,.data⟩ (by simp) rfl)) (hA ⟨21,.data⟩ (by simp) rfl) rfl)).mono (by rintro e W1 ⟨v,g1,rfl,S,Z⟩;exact ⟨by rw [S.out.1],g1,S.out.2,Z.out⟩)⟩)) ?_
  refine AllDo.cons 23 rfl (does_pure _ rfl rfl (fun γ L a w hH hA=>by have e1:=R4 γ L a w hH;simp [execOp,go_sem,e1])) ?_
  refine AllDo.cons 24 rfl (does_pure _ rfl rfl (fun γ L a w hH hA=>by have e1:=hH.at d23 rfl (hA ⟨23,.data⟩ (by simp) rfl);have e2:=hH.glob.fix (⟨pa,0,none⟩,.int .i64 x0) (by simp [cross_plan]);simp [execOp,go_sem,e1,e2])) ?_
  refine AllDo.cons 25 rfl (does_pure _ rfl rfl (fun γ L a w hH hA=>by have e1:=R4 γ L a w hH;simp [execOp,go_sem,e1])) ?_
  refine AllDo.cons 26 rfl (does_pure _ rfl rfl (fun γ L a w hH hA=>by have e1:=hH.at d25 rfl (hA ⟨25,.data⟩ (by simp) rfl);have e2:=hH.glob.fix (⟨pa,1,none⟩,.int .i64 x1) (by simp [cross_plan]);simp [execOp,go_sem,e1,e2])) ?_
  refine AllDo.cons 27 rfl (does_makes rfl ⟨27,27,[.int .i64 x0,.int .i64 x1]⟩ (by simp [cross_plan]) rfl (made_only (cross_mn b off f g0 pa pb pr po pm x0 x1 x2 y0 y1 y2 W U) (m:=⟨27,27,[.int .i64 x0,.int .i64 x1]⟩) (by simp [cross_plan])) (Or.inl rfl) [.int .i64 x0,.int .i64 x1] 3 rfl (fun _=>rfl) (fun γ L a w hH hA=>by have e1:=hH.at d24 rfl (hA ⟨24,.data⟩ (by simp) rfl);have e2:=hH.at d26 rfl (hA ⟨26,.data⟩ (by simp) rfl);simp [execOp,go_sem,e1,e2,shapeVal,cross_sh,upd_self])) ?_
  refine AllDo.cons 28 rfl (does_pure _ rfl rfl (fun γ L a w hH hA=>by have e1:=R5 γ L a w hH;simp [execOp,go_sem,e1])) ?_
  refine AllDo.cons 29 rfl (does_pure _ rfl rfl (fun γ L a w hH hA=>by have e1:=hH.at d28 rfl (hA ⟨28,.data⟩ (by simp) rfl);have e2:=hH.glob.fix (⟨pb,1,none⟩,.int .i64 y1) (by simp [cross_plan]);simp [execOp,go_sem,e1,e2])) ?_
  refine AllDo.cons 30 rfl (does_pure _ rfl rfl (fun γ L a w hH hA=>by have e1:=R8 γ L a w hH;simp [execOp,go_sem,e1])) ?_
  refine AllDo.cons 31 rfl (does_pure _ rfl rfl (fun γ L a w hH hA=>by have e1:=hH.at d30 rfl (hA ⟨30,.data⟩ (by simp) rfl);have e2:=hH.glob.fix (⟨pm,0,none⟩,.int .i64 ((sub 0 y0).getD 0)) (by simp [cross_plan]);simp [execOp,go_sem,e1,e2])) ?_
  refine AllDo.cons 32 rfl (does_makes rfl ⟨32,32,[.int .i64 y1,.int .i64 ((sub 0 y0).getD 0)]⟩ (by simp [cross_plan]) rfl (made_only (cross_mn b off f g0 pa pb pr po pm x0 x1 x2 y0 y1 y2 W U) (m:=⟨32,32,[.int .i64 y1,.int .i64 ((sub 0 y0).getD 0)]⟩) (by simp [cross_plan])) (Or.inl rfl) [.int .i64 y1,.int .i64 ((sub 0 y0).getD 0)] 3 rfl (fun _=>rfl) (fun γ L a w hH hA=>by have e1:=hH.at d29 rfl (hA ⟨29,.data⟩ (by simp) rfl);have e2:=hH.at d31 rfl (hA ⟨31,.data⟩ (by simp) rfl);simp [execOp,go_sem,e1,e2,shapeVal,cross_sh,upd_self])) ?_
  refine AllDo.cons 33 rfl (does_call hπ _ ((dot [x0,x1] [y1,(sub 0 y0).getD 0]).isNone) rfl (by simp [cross_plan]) (calls_only (cross_cn b off f g0 pa pb pr po pm x0 x1 x2 y0 y1 y2 W U) (by simp [cross_plan])) rfl (fun γ L a w hH hA g hg hz=>by have e1:=R7 γ L a w hH;have e2:=hH.rowAt d27 rfl (hA ⟨27,.data⟩ (by simp) rfl);have e3:=hH.rowAt d32 rfl (hA ⟨32,.data⟩ (by simp) rfl);exact ⟨108,#[.pointer (some ⟨po,0,none⟩),.slice (some ⟨γ 27,0,none⟩) 2 2,.slice (some ⟨γ 32,0,none⟩) 2 2],by simp [go_sem,e1,e2,e3],(fdot_any po 0 g [x0,x1] [y1,(sub 0 y0).getD 0] _ _ 2 2 w hg hz (by simp) (by simp) (madeRow [x0,x1] (hH.glob.made ⟨27,27,[.int .i64 x0,.int .i64 x1]⟩ (by simp [cross_plan]) (hA ⟨27,.data⟩ (by simp) rfl)) (hA ⟨27,.data⟩ (by simp) rfl) rfl) (madeRow [y1,(sub 0 y0).getD 0] (hH.glob.made ⟨32,32,[.int .i64 y1,.int .i64 ((sub 0 y0).getD 0)]⟩ (by simp [cross_plan]) (hA ⟨32,.data⟩ (by simp) rfl)) (hA ⟨32,.data⟩ (by simp) rfl) rfl)).mono (by rintro e W1 ⟨v,g1,rfl,S,Z⟩;exact ⟨by rw [S.out.1],g1,S.out.2,Z.out⟩)⟩)) ?_
  refine AllDo.cons 34 rfl (does_pure _ rfl rfl (fun γ L a w hH hA=>by have e1:=hH.at d11 rfl (hA ⟨11,.data⟩ (by simp) rfl);have e2:=hH.at d22 rfl (hA ⟨22,.data⟩ (by simp) rfl);have e3:=hH.at d33 rfl (hA ⟨33,.data⟩ (by simp) rfl);simp [execOp,go_sem,e1,e2,e3])) ?_
  refine AllDo.cons 35 rfl (does_tell hπ _ rfl (fun e=>by have e2:po = b:=congrArg Addr.block e;omega) (by simp [cross_plan]) (by simp [cross_plan]) (by simp [cross_plan]) rfl (fun L hcl haft c hc=>by have L34:L 34 = true:=haft ⟨34,.data⟩ (by simp) rfl;have L11:L 11 = true:=hcl 34 11 A_34_11 L34;have L22:L 22 = true:=hcl 34 22 A_34_22 L34;have L33:L 33 = true:=hcl 34 33 A_34_33 L34;simp only [cross_plan,List.mem_cons,List.not_mem_nil,or_false] at hc;rcases hc with rfl | rfl | rfl;all_goals assumption) (fun γ L a w hH hA hb hp hpf=>by have e1:=hH.at d0 rfl (hA ⟨0,.data⟩ (by simp) rfl);have e2:=R7 γ L a w hH;have e3:=hH.at d34 rfl (hA ⟨34,.data⟩ (by simp) rfl);exact ⟨109,#[.pointer (some ⟨b,off,none⟩),.pointer (some ⟨po,0,none⟩),.agg #[.int .i64 ((dot [x1,x2] [y2,(sub 0 y1).getD 0]).getD 0),.int .i64 ((dot [x2,x0] [y0,(sub 0 y2).getD 0]).getD 0),.int .i64 ((dot [x0,x1] [y1,(sub 0 y0).getD 0]).getD 0)]],by simp [go_sem,e1,e2,e3],(tell3_any b off po f (cross_bad b off f g0 pa pb pr po pm x0 x1 x2 y0 y1 y2 W U) ((dot [x1,x2] [y2,(sub 0 y1).getD 0]).getD 0) ((dot [x2,x0] [y0,(sub 0 y2).getD 0]).getD 0) ((dot [x0,x1] [y1,(sub 0 y0).getD 0]).getD 0) w hp hpf hb).mono (by rintro e W1 ⟨rfl,Z⟩;exact ⟨rfl,Z.out⟩)⟩)) ?_
  refine AllDo.cons 36 rfl (does_store hπ (by simp [cross_plan]) rfl rfl (by simp [cross_plan]) (by simp [cross_plan]) (by simp [cross_plan]) (fun γ L a w hH hA cs hl hh=>by have e1:=R6 γ L a w hH;have e2:=hH.at d35 rfl (hA ⟨35,.data⟩ (by simp) rfl);obtain ⟨u0,u1,u2,rfl⟩:=list3 hl;have zz0:w.cell? ⟨pr,0,none⟩ = some u0/\w.frozen? ⟨pr,0,none⟩ = false:=hh 0 u0 rfl;have zz1:w.cell? ⟨pr,1,none⟩ = some u1/\w.frozen? ⟨pr,1,none⟩ = false:=hh 1 u1 rfl;have zz2:w.cell? ⟨pr,2,none⟩ = some u2/\w.frozen? ⟨pr,2,none⟩ = false:=hh 2 u2 rfl;exact ⟨(((w.setCell ⟨pr,0,none⟩ (.int .i64 (cond (cross_bad b off f g0 pa pb pr po pm x0 x1 x2 y0 y1 y2 W U) 0 ((dot [x1,x2] [y2,(sub 0 y1).getD 0]).getD 0)))).setCell ⟨pr,1,none⟩ (.int .i64 (cond (cross_bad b off f g0 pa pb pr po pm x0 x1 x2 y0 y1 y2 W U) 0 ((dot [x2,x0] [y0,(sub 0 y2).getD 0]).getD 0)))).setCell ⟨pr,2,none⟩ (.int .i64 (cond (cross_bad b off f g0 pa pb pr po pm x0 x1 x2 y0 y1 y2 W U) 0 ((dot [x0,x1] [y1,(sub 0 y0).getD 0]).getD 0)))),by simp [execOp,go_sem,e1,e2,zz0.1,zz0.2,zz1.1,zz1.2,zz2.1,zz2.2],((((Only.refl _ _).set 0 _).set 1 _).set 2 _),holds3 hh⟩)) ?_
  exact AllDo.nil
 ·intro γ a w L hL hLo hH
  have hL':∀ j,j < 37->L j = true:=fun j hj=>hL j hj
  have hG:=hH.glob
  have hdf:a.defers = []:=hH.defers.trans rfl
  have hs:a.tmps[6]? = some (.pointer (some ⟨pr,0,none⟩)):=(hH.rest 6 (dst_free (by kernel_rfl))).trans rfl
  obtain ⟨cs,c1,c2,c3⟩:=hG.res
  obtain rfl:=c3 (hL' 36 (by omega))
  have ho2:=hG.outer.resolve_left (fun e=>by have e2:po = b:=congrArg Addr.block e;omega)
  have hA:Hid (After ⟨b,off,none⟩ (f || cross_bad b off f g0 pa pb pr po pm x0 x1 x2 y0 y1 y2 W U) W w):=by
   have e:=ho2.1
   rw [show (cross_plan b off f g0 pa pb pr po pm x0 x1 x2 y0 y1 y2 W U).tl = 35 from rfl,hL' 35 (by omega),Bool.true_and] at e
   exact hG.leaves.done e ho2.2
  have r0:w.cell? ⟨pr,0,none⟩ = some (.int .i64 (cond (cross_bad b off f g0 pa pb pr po pm x0 x1 x2 y0 y1 y2 W U) 0 ((dot [x1,x2] [y2,(sub 0 y1).getD 0]).getD 0))):=(c2 0 _ rfl).1
  have r1:w.cell? ⟨pr,1,none⟩ = some (.int .i64 (cond (cross_bad b off f g0 pa pb pr po pm x0 x1 x2 y0 y1 y2 W U) 0 ((dot [x2,x0] [y0,(sub 0 y2).getD 0]).getD 0))):=(c2 1 _ rfl).1
  have r2:w.cell? ⟨pr,2,none⟩ = some (.int .i64 (cond (cross_bad b off f g0 pa pb pr po pm x0 x1 x2 y0 y1 y2 W U) 0 ((dot [x0,x1] [y1,(sub 0 y0).getD 0]).getD 0))):=(c2 2 _ rfl).1
  clear hL hLo hL' hH hG c1 c2 c3 ho2 hπ
  go_wp2
  refine bodyPost_ret (by simp [results,Tryz.results63,go_sem,hs,r0,r1,r2];try rfl) hdf ?_
  exact ⟨_,_,_,_,rfl,cross_step SG.out (by simp [cross_bad]),hA⟩
end
end Go.Proofs.YtpjaacpcdomfiaaGreat
