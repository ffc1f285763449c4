/- The reference's turns, in the words of package vec's laws. -/
import Derived.Test.YtlhhmiicpddjoaaGreatSPRight9
import Derived.Test.YtlhhmiicpddjoaaGreatSPRight3
import Derived.Test.YtlhhmiicpddjoaaGreatSPRight0
import Derived.Test.YtlhhmiicpddjoaaGreatSPRight8
import Derived.Test.YtlhhmiicpddjoaaGreatSPRight7
set_option maxHeartbeats 8000000
set_option maxRecDepth 100000
set_option linter.unusedVariables false
namespace Go.Proofs.YtlhhmiicpddjoaaGreat
section
open Go.RowKit Ref Fx
theorem row4 {w:World} {b:Nat} {x y z u:Int} (h0:w.cell? ⟨b,0,none⟩ = some (.int .i64 x)) (h1:w.cell? ⟨b,1,none⟩ = some (.int .i64 y)) (h2:w.cell? ⟨b,2,none⟩ = some (.int .i64 z)) (h3:w.cell? ⟨b,3,none⟩ = some (.int .i64 u)):NRow w (some ⟨b,0,none⟩) [x,y,z,u]:=
 Or.inr ⟨b,0,rfl,fun k hk=>by
  match k,hk with
  | 0,_=>exact h0
  | 1,_=>exact h1
  | 2,_=>exact h2
  | 3,_=>exact h3⟩
theorem rvturn_law (b off:Nat) (f:Bool) (m0 m1 m2 m3 m4 m5 m6 m7 m8 x0 x1 x2:Int) (W:World) (hc:W.cell? ⟨b,off,none⟩ = some (.bool f)) (hf:W.frozen? ⟨b,off,none⟩ = false) :
  Calls Tryz.prog 54 #[.pointer (some ⟨b,off,none⟩),.agg #[.int .i64 m0,.int .i64 m1,.int .i64 m2,.int .i64 m3,.int .i64 m4,.int .i64 m5,.int .i64 m6,.int .i64 m7,.int .i64 m8],.agg #[.int .i64 x0,.int .i64 x1,.int .i64 x2]] W fun e W'=>∃ v0 v1 v2 g,e = .returned (.agg #[.int .i64 v0,.int .i64 v1,.int .i64 v2])/\Hid (Step3 f (dot [m0,m1,m2] [x0,x1,x2]) (dot [m3,m4,m5] [x0,x1,x2]) (dot [m6,m7,m8] [x0,x1,x2]) v0 v1 v2 g)/\Hid (After ⟨b,off,none⟩ g W W'):=by
 have hbW:b < W.heap.size:=World.block_lt_of_cell? _ _ hc
 go_enter Tryz.func54,Tryz.ntmps54
 go_wp2_with (fail)
 refine (rvbare_any _).mono ?_
 rintro e W1 ⟨rfl,rfl⟩
 obtain ⟨U,hU⟩:∃ U,U = ((((W.alloc (.cells #[.int .i64 m0,.int .i64 m1,.int .i64 m2,.int .i64 m3,.int .i64 m4,.int .i64 m5,.int .i64 m6,.int .i64 m7,.int .i64 m8] 61)).alloc (.cells #[.int .i64 x0,.int .i64 x1,.int .i64 x2] 27)).alloc (.cells #[.int .i64 0,.int .i64 0,.int .i64 0] 27)).alloc (.cells #[.bool false] 66)):=⟨_,rfl⟩
 obtain ⟨pm,hpm⟩:∃ p,p = W.heap.size:=⟨_,rfl⟩
 obtain ⟨pa,hpa⟩:∃ p,p = W.heap.size + 1:=⟨_,rfl⟩
 obtain ⟨pr,hpr⟩:∃ p,p = W.heap.size + 1 + 1:=⟨_,rfl⟩
 obtain ⟨po,hpo⟩:∃ p,p = W.heap.size + 1 + 1 + 1:=⟨_,rfl⟩
 have H:Hid (Ho W U ⟨b,off,none⟩ po f false [(⟨pm,0,none⟩,.int .i64 m0),(⟨pm,1,none⟩,.int .i64 m1),(⟨pm,2,none⟩,.int .i64 m2),(⟨pm,3,none⟩,.int .i64 m3),(⟨pm,4,none⟩,.int .i64 m4),(⟨pm,5,none⟩,.int .i64 m5),(⟨pm,6,none⟩,.int .i64 m6),(⟨pm,7,none⟩,.int .i64 m7),(⟨pm,8,none⟩,.int .i64 m8),(⟨pa,0,none⟩,.int .i64 x0),(⟨pa,1,none⟩,.int .i64 x1),(⟨pa,2,none⟩,.int .i64 x2),(⟨pr,0,none⟩,.int .i64 0),(⟨pr,1,none⟩,.int .i64 0),(⟨pr,2,none⟩,.int .i64 0)]):=by
  refine ⟨by rw [hU];exact (((((Leaves.refl _ _).alloc _).alloc _).alloc _).alloc _),by rw [hU,World.cell?_alloc_past _ _ _ (by simp;omega),World.cell?_alloc_past _ _ _ (by simp;omega),World.cell?_alloc_past _ _ _ (by simp;omega),World.cell?_alloc_past _ _ _ hbW];exact hc,by rw [hU,((new_after _ _).frozen (by simp;omega)),((new_after _ _).frozen (by simp;omega)),((new_after _ _).frozen (by simp;omega)),((new_after _ _).frozen hbW)];exact hf,by rw [hU,hpo];simp [go_sem],by rw [hU,hpo];simp [go_sem],?_,?_,hbW,by omega⟩
  ·intro c hc
   simp only [List.mem_cons,List.not_mem_nil,or_false] at hc
   rcases hc with rfl | rfl | rfl | rfl | rfl | rfl | rfl | rfl | rfl | rfl | rfl | rfl | rfl | rfl | rfl <;> rw [hU] <;> dsimp only <;> first | (rw [hpm];exact ⟨by simp [go_sem],by simp [go_sem]⟩) | (rw [hpa];exact ⟨by simp [go_sem],by simp [go_sem]⟩) | (rw [hpr];exact ⟨by simp [go_sem],by simp [go_sem]⟩)
  ·intro c hc
   simp only [List.mem_cons,List.not_mem_nil,or_false] at hc
   rcases hc with rfl | rfl | rfl | rfl | rfl | rfl | rfl | rfl | rfl | rfl | rfl | rfl | rfl | rfl | rfl <;> (dsimp only) <;> omega
 rw [<- hU]
 simp only [World.size_alloc]
 rw [<- hpo,<- hpr,<- hpa,<- hpm]
 have zq1:pm < pa:=by omega
 have zq2:pa < pr:=by omega
 have zq3:pr < po:=by omega
 have zq0:W.heap.size <= pm:=by omega
 clear hU hc hf hpm hpa hpr hpo
 have k_pm_0:=(H.out.fix (⟨pm,0,none⟩,.int .i64 m0) (by simp)).1
 have k_pm_1:=(H.out.fix (⟨pm,1,none⟩,.int .i64 m1) (by simp)).1
 have k_pm_2:=(H.out.fix (⟨pm,2,none⟩,.int .i64 m2) (by simp)).1
 have k_pm_3:=(H.out.fix (⟨pm,3,none⟩,.int .i64 m3) (by simp)).1
 have k_pm_4:=(H.out.fix (⟨pm,4,none⟩,.int .i64 m4) (by simp)).1
 have k_pm_5:=(H.out.fix (⟨pm,5,none⟩,.int .i64 m5) (by simp)).1
 have k_pm_6:=(H.out.fix (⟨pm,6,none⟩,.int .i64 m6) (by simp)).1
 have k_pm_7:=(H.out.fix (⟨pm,7,none⟩,.int .i64 m7) (by simp)).1
 have k_pm_8:=(H.out.fix (⟨pm,8,none⟩,.int .i64 m8) (by simp)).1
 have k_pa_0:=(H.out.fix (⟨pa,0,none⟩,.int .i64 x0) (by simp)).1
 have k_pa_1:=(H.out.fix (⟨pa,1,none⟩,.int .i64 x1) (by simp)).1
 have k_pa_2:=(H.out.fix (⟨pa,2,none⟩,.int .i64 x2) (by simp)).1
 have l_pm:=World.block_lt_of_cell? _ _ k_pm_0
 dsimp only at l_pm
 have l_pa:=World.block_lt_of_cell? _ _ k_pa_0
 dsimp only at l_pa
 have ho:=H.out.own
 have hof:=H.out.ownf
 go_wp2_with (fail)
 refine (rvdot_law po 0 false m0 m1 m2 x0 x1 x2 _ ho hof).mono ?_
 rintro e Wg1 ⟨v0,g1,rfl,Sg1,A⟩
 have H:Hid _:=H.out.after A.out
 clear A k_pm_0 k_pm_1 k_pm_2 k_pm_3 k_pm_4 k_pm_5 k_pm_6 k_pm_7 k_pm_8 k_pa_0 k_pa_1 k_pa_2 l_pm l_pa ho hof
 have k_pm_0:=(H.out.fix (⟨pm,0,none⟩,.int .i64 m0) (by simp)).1
 have k_pm_1:=(H.out.fix (⟨pm,1,none⟩,.int .i64 m1) (by simp)).1
 have k_pm_2:=(H.out.fix (⟨pm,2,none⟩,.int .i64 m2) (by simp)).1
 have k_pm_3:=(H.out.fix (⟨pm,3,none⟩,.int .i64 m3) (by simp)).1
 have k_pm_4:=(H.out.fix (⟨pm,4,none⟩,.int .i64 m4) (by simp)).1
 have k_pm_5:=(H.out.fix (⟨pm,5,none⟩,.int .i64 m5) (by simp)).1
 have k_pm_6:=(H.out.fix (⟨pm,6,none⟩,.int .i64 m6) (by simp)).1
 have k_pm_7:=(H.out.fix (⟨pm,7,none⟩,.int .i64 m7) (by simp)).1
 have k_pm_8:=(H.out.fix (⟨pm,8,none⟩,.int .i64 m8) (by simp)).1
 have k_pa_0:=(H.out.fix (⟨pa,0,none⟩,.int .i64 x0) (by simp)).1
 have k_pa_1:=(H.out.fix (⟨pa,1,none⟩,.int .i64 x1) (by simp)).1
 have k_pa_2:=(H.out.fix (⟨pa,2,none⟩,.int .i64 x2) (by simp)).1
 have l_pm:=World.block_lt_of_cell? _ _ k_pm_0
 dsimp only at l_pm
 have l_pa:=World.block_lt_of_cell? _ _ k_pa_0
 dsimp only at l_pa
 have ho:=H.out.own
 have hof:=H.out.ownf
 go_wp2_with (fail)
 refine (rvdot_law po 0 g1 m3 m4 m5 x0 x1 x2 _ ho hof).mono ?_
 rintro e Wg2 ⟨v1,g2,rfl,Sg2,A⟩
 have H:Hid _:=H.out.after A.out
 clear A k_pm_0 k_pm_1 k_pm_2 k_pm_3 k_pm_4 k_pm_5 k_pm_6 k_pm_7 k_pm_8 k_pa_0 k_pa_1 k_pa_2 l_pm l_pa ho hof
 have k_pm_0:=(H.out.fix (⟨pm,0,none⟩,.int .i64 m0) (by simp)).1
 have k_pm_1:=(H.out.fix (⟨pm,1,none⟩,.int .i64 m1) (by simp)).1
 have k_pm_2:=(H.out.fix (⟨pm,2,none⟩,.int .i64 m2) (by simp)).1
 have k_pm_3:=(H.out.fix (⟨pm,3,none⟩,.int .i64 m3) (by simp)).1
 have k_pm_4:=(H.out.fix (⟨pm,4,none⟩,.int .i64 m4) (by simp)).1
 have k_pm_5:=(H.out.fix (⟨pm,5,none⟩,.int .i64 m5) (by simp)).1
 have k_pm_6:=(H.out.fix (⟨pm,6,none⟩,.int .i64 m6) (by simp)).1
 have k_pm_7:=(H.out.fix (⟨pm,7,none⟩,.int .i64 m7) (by simp)).1
 have k_pm_8:=(H.out.fix (⟨pm,8,none⟩,.int .i64 m8) (by simp)).1
 have k_pa_0:=(H.out.fix (⟨pa,0,none⟩,.int .i64 x0) (by simp)).1
 have k_pa_1:=(H.out.fix (⟨pa,1,none⟩,.int .i64 x1) (by simp)).1
 have k_pa_2:=(H.out.fix (⟨pa,2,none⟩,.int .i64 x2) (by simp)).1
 have l_pm:=World.block_lt_of_cell? _ _ k_pm_0
 dsimp only at l_pm
 have l_pa:=World.block_lt_of_cell? _ _ k_pa_0
 dsimp only at l_pa
 have ho:=H.out.own
 have hof:=H.out.ownf
 go_wp2_with (fail)
 refine (rvdot_law po 0 g2 m6 m7 m8 x0 x1 x2 _ ho hof).mono ?_
 rintro e Wg3 ⟨v2,g3,rfl,Sg3,A⟩
 have H:Hid _:=H.out.after A.out
 clear A k_pm_0 k_pm_1 k_pm_2 k_pm_3 k_pm_4 k_pm_5 k_pm_6 k_pm_7 k_pm_8 k_pa_0 k_pa_1 k_pa_2 l_pm l_pa ho hof
 go_wp2_with (fail)
 refine (done_any b off po f g3 _ H.out.flag H.out.flagf H.out.own (by omega)).mono ?_
 rintro e V9 ⟨rfl,A⟩
 have rr0:=A.out.cellOf (H.out.fix (⟨pr,0,none⟩,.int .i64 0) (by simp)).1 (by show pr ≠ b;omega)
 have rf0:=A.out.frozenOf (H.out.fix (⟨pr,0,none⟩,.int .i64 0) (by simp)).1 (H.out.fix (⟨pr,0,none⟩,.int .i64 0) (by simp)).2 (by show pr ≠ b;omega)
 have rr1:=A.out.cellOf (H.out.fix (⟨pr,1,none⟩,.int .i64 0) (by simp)).1 (by show pr ≠ b;omega)
 have rf1:=A.out.frozenOf (H.out.fix (⟨pr,1,none⟩,.int .i64 0) (by simp)).1 (H.out.fix (⟨pr,1,none⟩,.int .i64 0) (by simp)).2 (by show pr ≠ b;omega)
 have rr2:=A.out.cellOf (H.out.fix (⟨pr,2,none⟩,.int .i64 0) (by simp)).1 (by show pr ≠ b;omega)
 have rf2:=A.out.frozenOf (H.out.fix (⟨pr,2,none⟩,.int .i64 0) (by simp)).1 (H.out.fix (⟨pr,2,none⟩,.int .i64 0) (by simp)).2 (by show pr ≠ b;omega)
 have HL:Hid (Leaves ⟨b,off,none⟩ W V9):=H.out.leaves.same A.out
 have hp:=A.out.cell
 have hpf:=A.out.frozen
 have n1:b ≠ pr:=by omega
 have n2:pr ≠ b:=by omega
 have hWr:W.heap.size <= pr:=by omega
 have HS:Hid _:=step3_chain (f:=f) Sg1.out Sg2.out Sg3.out
 clear A H
 cases g3 with
 | true =>
  go_wp2_with (fail)
  refine bodyPost_ret (by simp [results,Tryz.results54,go_sem,rr0,rr1,rr2];try rfl) rfl ?_
  refine ⟨0,0,0,_,rfl,HS.out,(((HL.out.set hWr _).set hWr _).set hWr _).done ?_ ?_⟩
  ·simp [go_sem,hp]
  ·simp [go_sem,hpf]
 | false =>
  go_wp2_with (fail)
  refine bodyPost_ret (by simp [results,Tryz.results54,go_sem,rr0,rr1,rr2];try rfl) rfl ?_
  refine ⟨_,_,_,_,rfl,HS.out,(((HL.out.set hWr _).set hWr _).set hWr _).done ?_ ?_⟩
  ·simp [go_sem,hp]
  ·simp [go_sem,hpf]
theorem whole_low {f g0:Bool} {q0 q1 q2 q3 nn:Int} (h0:Step false (norm [q0,q1,q2,q3]) nn g0) (hn:nn < 2147483648) :
  (0:Int) = cond (wholeBad q0 q1 q2 q3) 0 ((ratio q0 4294967296 ((norm [q0,q1,q2,q3]).getD 0)).getD 0)/\(0:Int) = cond (wholeBad q0 q1 q2 q3) 0 ((ratio q1 4294967296 ((norm [q0,q1,q2,q3]).getD 0)).getD 0)/\(0:Int) = cond (wholeBad q0 q1 q2 q3) 0 ((ratio q2 4294967296 ((norm [q0,q1,q2,q3]).getD 0)).getD 0)/\(0:Int) = cond (wholeBad q0 q1 q2 q3) 0 ((ratio q3 4294967296 ((norm [q0,q1,q2,q3]).getD 0)).getD 0)/\true = (f || wholeBad q0 q1 q2 q3):=by
 have hb:wholeBad q0 q1 q2 q3 = true:=by
  unfold wholeBad
  rw [<- h0.1,decide_eq_true hn,Bool.true_or]
 rw [hb]
 exact ⟨rfl,rfl,rfl,rfl,by simp⟩
theorem whole_chain {f g0 g1 g2 g3 g4:Bool} {q0 q1 q2 q3 nn v0 v1 v2 v3:Int} (hn:¬ nn < 2147483648) (h0:Step false (norm [q0,q1,q2,q3]) nn g0) (h1:Step g0 (ratio q0 4294967296 nn) v0 g1) (h2:Step g1 (ratio q1 4294967296 nn) v1 g2) (h3:Step g2 (ratio q2 4294967296 nn) v2 g3) (h4:Step g3 (ratio q3 4294967296 nn) v3 g4) :
  cond g4 0 v0 = cond (wholeBad q0 q1 q2 q3) 0 ((ratio q0 4294967296 ((norm [q0,q1,q2,q3]).getD 0)).getD 0)/\cond g4 0 v1 = cond (wholeBad q0 q1 q2 q3) 0 ((ratio q1 4294967296 ((norm [q0,q1,q2,q3]).getD 0)).getD 0)/\cond g4 0 v2 = cond (wholeBad q0 q1 q2 q3) 0 ((ratio q2 4294967296 ((norm [q0,q1,q2,q3]).getD 0)).getD 0)/\cond g4 0 v3 = cond (wholeBad q0 q1 q2 q3) 0 ((ratio q3 4294967296 ((norm [q0,q1,q2,q3]).getD 0)).getD 0)/\(f || g4) = (f || wholeBad q0 q1 q2 q3):=by
 obtain ⟨e0,rfl⟩:=h0
 have hs:(norm [q0,q1,q2,q3]).isNone = false:=by
  cases hq:norm [q0,q1,q2,q3] with
  | none=>rw [hq] at e0;simp at e0;omega
  | some m=>rfl
 rw [e0] at h1 h2 h3 h4 hn
 obtain ⟨rfl,rfl⟩:=h1
 obtain ⟨rfl,rfl⟩:=h2
 obtain ⟨rfl,rfl⟩:=h3
 obtain ⟨rfl,rfl⟩:=h4
 have hb:wholeBad q0 q1 q2 q3 = ((((false || (norm [q0,q1,q2,q3]).isNone || (ratio q0 4294967296 ((norm [q0,q1,q2,q3]).getD 0)).isNone) || (ratio q1 4294967296 ((norm [q0,q1,q2,q3]).getD 0)).isNone) || (ratio q2 4294967296 ((norm [q0,q1,q2,q3]).getD 0)).isNone) || (ratio q3 4294967296 ((norm [q0,q1,q2,q3]).getD 0)).isNone):=by
  unfold wholeBad
  rw [decide_eq_false hn,hs,Bool.false_or,Bool.false_or,Bool.false_or]
 rw [<- hb]
 exact ⟨rfl,rfl,rfl,rfl,rfl⟩
theorem rvwhole_law (b off:Nat) (f:Bool) (q0 q1 q2 q3:Int) (W:World) (hc:W.cell? ⟨b,off,none⟩ = some (.bool f)) (hf:W.frozen? ⟨b,off,none⟩ = false) :
  Calls Tryz.prog 20 #[.pointer (some ⟨b,off,none⟩),.agg #[.int .i64 q0,.int .i64 q1,.int .i64 q2,.int .i64 q3]] W fun e W'=>∃ v0 v1 v2 v3 g,e = .returned (.agg #[.int .i64 v0,.int .i64 v1,.int .i64 v2,.int .i64 v3])/\Hid (v0 = cond (wholeBad q0 q1 q2 q3) 0 ((ratio q0 4294967296 ((norm [q0,q1,q2,q3]).getD 0)).getD 0)/\v1 = cond (wholeBad q0 q1 q2 q3) 0 ((ratio q1 4294967296 ((norm [q0,q1,q2,q3]).getD 0)).getD 0)/\v2 = cond (wholeBad q0 q1 q2 q3) 0 ((ratio q2 4294967296 ((norm [q0,q1,q2,q3]).getD 0)).getD 0)/\v3 = cond (wholeBad q0 q1 q2 q3) 0 ((ratio q3 4294967296 ((norm [q0,q1,q2,q3]).getD 0)).getD 0)/\g = (f || wholeBad q0 q1 q2 q3))/\Hid (After ⟨b,off,none⟩ g W W'):=by
 have hbW:b < W.heap.size:=World.block_lt_of_cell? _ _ hc
 go_enter Tryz.func20,Tryz.ntmps20
 go_wp2_with (fail)
 refine (rvbare_any _).mono ?_
 rintro e W1 ⟨rfl,rfl⟩
 obtain ⟨U,hU⟩:∃ U,U = (((W.alloc (.cells #[.int .i64 q0,.int .i64 q1,.int .i64 q2,.int .i64 q3] 29)).alloc (.cells #[.int .i64 0,.int .i64 0,.int .i64 0,.int .i64 0] 29)).alloc (.cells #[.bool false] 66)):=⟨_,rfl⟩
 obtain ⟨pa,hpa⟩:∃ p,p = W.heap.size:=⟨_,rfl⟩
 obtain ⟨pr,hpr⟩:∃ p,p = W.heap.size + 1:=⟨_,rfl⟩
 obtain ⟨po,hpo⟩:∃ p,p = W.heap.size + 1 + 1:=⟨_,rfl⟩
 have H:Hid (Ho W U ⟨b,off,none⟩ po f false [(⟨pa,0,none⟩,.int .i64 q0),(⟨pa,1,none⟩,.int .i64 q1),(⟨pa,2,none⟩,.int .i64 q2),(⟨pa,3,none⟩,.int .i64 q3),(⟨pr,0,none⟩,.int .i64 0),(⟨pr,1,none⟩,.int .i64 0),(⟨pr,2,none⟩,.int .i64 0),(⟨pr,3,none⟩,.int .i64 0)]):=by
  refine ⟨by rw [hU];exact ((((Leaves.refl _ _).alloc _).alloc _).alloc _),by rw [hU,World.cell?_alloc_past _ _ _ (by simp;omega),World.cell?_alloc_past _ _ _ (by simp;omega),World.cell?_alloc_past _ _ _ hbW];exact hc,by rw [hU,((new_after _ _).frozen (by simp;omega)),((new_after _ _).frozen (by simp;omega)),((new_after _ _).frozen hbW)];exact hf,by rw [hU,hpo];simp [go_sem],by rw [hU,hpo];simp [go_sem],?_,?_,hbW,by omega⟩
  ·intro c hc
   simp only [List.mem_cons,List.not_mem_nil,or_false] at hc
   rcases hc with rfl | rfl | rfl | rfl | rfl | rfl | rfl | rfl <;> rw [hU] <;> dsimp only <;> first | (rw [hpa];exact ⟨by simp [go_sem],by simp [go_sem]⟩) | (rw [hpr];exact ⟨by simp [go_sem],by simp [go_sem]⟩)
  ·intro c hc
   simp only [List.mem_cons,List.not_mem_nil,or_false] at hc
   rcases hc with rfl | rfl | rfl | rfl | rfl | rfl | rfl | rfl <;> (dsimp only) <;> omega
 rw [<- hU]
 simp only [World.size_alloc]
 rw [<- hpo,<- hpr,<- hpa]
 have zq1:pa < pr:=by omega
 have zq2:pr < po:=by omega
 have zq0:W.heap.size <= pa:=by omega
 clear hU hc hf hpa hpr hpo
 have k_pa_0:=(H.out.fix (⟨pa,0,none⟩,.int .i64 q0) (by simp)).1
 have k_pa_1:=(H.out.fix (⟨pa,1,none⟩,.int .i64 q1) (by simp)).1
 have k_pa_2:=(H.out.fix (⟨pa,2,none⟩,.int .i64 q2) (by simp)).1
 have k_pa_3:=(H.out.fix (⟨pa,3,none⟩,.int .i64 q3) (by simp)).1
 have l_pa:=World.block_lt_of_cell? _ _ k_pa_0
 dsimp only at l_pa
 have ho:=H.out.own
 have hof:=H.out.ownf
 go_wp2_with (fail)
 refine (rnorm_law po 0 false [q0,q1,q2,q3] _ 4 _ (H.out.alloc (.cells #[.int .i64 q0,.int .i64 q1,.int .i64 q2,.int .i64 q3] 3)).own (H.out.alloc (.cells #[.int .i64 q0,.int .i64 q1,.int .i64 q2,.int .i64 q3] 3)).ownf (by simp) (row4 (by simp [go_sem]) (by simp [go_sem]) (by simp [go_sem]) (by simp [go_sem]))).mono ?_
 rintro e Wg0 ⟨nn,g0,rfl,Sg0,A⟩
 have H:Hid _:=(H.out.alloc (.cells #[.int .i64 q0,.int .i64 q1,.int .i64 q2,.int .i64 q3] 3)).after A.out
 clear A k_pa_0 k_pa_1 k_pa_2 k_pa_3 l_pa ho hof
 by_cases hn:nn < 2147483648
 ·have hp:=H.out.flag
  have hpf:=H.out.flagf
  have n1:b ≠ pr:=by omega
  have n2:pr ≠ b:=by omega
  have hWr:W.heap.size <= pr:=by omega
  have rr0:=(H.out.fix (⟨pr,0,none⟩,.int .i64 0) (by simp)).1
  have rf0:=(H.out.fix (⟨pr,0,none⟩,.int .i64 0) (by simp)).2
  have rr1:=(H.out.fix (⟨pr,1,none⟩,.int .i64 0) (by simp)).1
  have rf1:=(H.out.fix (⟨pr,1,none⟩,.int .i64 0) (by simp)).2
  have rr2:=(H.out.fix (⟨pr,2,none⟩,.int .i64 0) (by simp)).1
  have rf2:=(H.out.fix (⟨pr,2,none⟩,.int .i64 0) (by simp)).2
  have rr3:=(H.out.fix (⟨pr,3,none⟩,.int .i64 0) (by simp)).1
  have rf3:=(H.out.fix (⟨pr,3,none⟩,.int .i64 0) (by simp)).2
  have HL:Hid _:=H.out.leaves
  have HS:Hid _:=whole_low (f:=f) (q0:=q0) (q1:=q1) (q2:=q2) (q3:=q3) Sg0.out hn
  clear H Sg0
  go_wp2_with (fail)
  refine bodyPost_ret (by simp [results,Tryz.results20,go_sem,rr0,rr1,rr2,rr3];try rfl) rfl ?_
  refine ⟨0,0,0,0,true,rfl,HS.out,(((((HL.out.own _).set hWr _).set hWr _).set hWr _).set hWr _).done ?_ ?_⟩
  ·simp [go_sem,hp]
  ·simp [go_sem,hpf]
 ·have HN:Hid _:=hn
  have k_pa_0:=(H.out.fix (⟨pa,0,none⟩,.int .i64 q0) (by simp)).1
  have k_pa_1:=(H.out.fix (⟨pa,1,none⟩,.int .i64 q1) (by simp)).1
  have k_pa_2:=(H.out.fix (⟨pa,2,none⟩,.int .i64 q2) (by simp)).1
  have k_pa_3:=(H.out.fix (⟨pa,3,none⟩,.int .i64 q3) (by simp)).1
  have l_pa:=World.block_lt_of_cell? _ _ k_pa_0
  dsimp only at l_pa
  have ho:=H.out.own
  have hof:=H.out.ownf
  go_wp2_with (fail)
  refine (rdiv_law po 0 g0 q0 nn _ ho hof).mono ?_
  rintro e Wg1 ⟨v0,g1,rfl,Sg1,A⟩
  have H:Hid _:=H.out.after A.out
  clear A k_pa_0 k_pa_1 k_pa_2 k_pa_3 l_pa ho hof
  have k_pa_0:=(H.out.fix (⟨pa,0,none⟩,.int .i64 q0) (by simp)).1
  have k_pa_1:=(H.out.fix (⟨pa,1,none⟩,.int .i64 q1) (by simp)).1
  have k_pa_2:=(H.out.fix (⟨pa,2,none⟩,.int .i64 q2) (by simp)).1
  have k_pa_3:=(H.out.fix (⟨pa,3,none⟩,.int .i64 q3) (by simp)).1
  have l_pa:=World.block_lt_of_cell? _ _ k_pa_0
  dsimp only at l_pa
  have ho:=H.out.own
  have hof:=H.out.ownf
  go_wp2_with (fail)
  refine (rdiv_law po 0 g1 q1 nn _ ho hof).mono ?_
  rintro e Wg2 ⟨v1,g2,rfl,Sg2,A⟩
  have H:Hid _:=H.out.after A.out
  clear A k_pa_0 k_pa_1 k_pa_2 k_pa_3 l_pa ho hof
  have k_pa_0:=(H.out.fix (⟨pa,0,none⟩,.int .i64 q0) (by simp)).1
  have k_pa_1:=(H.out.fix (⟨pa,1,none⟩,.int .i64 q1) (by simp)).1
  have k_pa_2:=(H.out.fix (⟨pa,2,none⟩,.int .i64 q2) (by simp)).1
  have k_pa_3:=(H.out.fix (⟨pa,3,none⟩,.int .i64 q3) (by simp)).1
  have l_pa:=World.block_lt_of_cell? _ _ k_pa_0
  dsimp only at l_pa
  have ho:=H.out.own
  have hof:=H.out.ownf
  go_wp2_with (fail)
  refine (rdiv_law po 0 g2 q2 nn _ ho hof).mono ?_
  rintro e Wg3 ⟨v2,g3,rfl,Sg3,A⟩
  have H:Hid _:=H.out.after A.out
  clear A k_pa_0 k_pa_1 k_pa_2 k_pa_3 l_pa ho hof
  have k_pa_0:=(H.out.fix (⟨pa,0,none⟩,.int .i64 q0) (by simp)).1
  have k_pa_1:=(H.out.fix (⟨pa,1,none⟩,.int .i64 q1) (by simp)).1
  have k_pa_2:=(H.out.fix (⟨pa,2,none⟩,.int .i64 q2) (by simp)).1
  have k_pa_3:=(H.out.fix (⟨pa,3,none⟩,.int .i64 q3) (by simp)).1
  have l_pa:=World.block_lt_of_cell? _ _ k_pa_0
  dsimp only at l_pa
  have ho:=H.out.own
  have hof:=H.out.ownf
  go_wp2_with (fail)
  refine (rdiv_law po 0 g3 q3 nn _ ho hof).mono ?_
  rintro e Wg4 ⟨v3,g4,rfl,Sg4,A⟩
  have H:Hid _:=H.out.after A.out
  clear A k_pa_0 k_pa_1 k_pa_2 k_pa_3 l_pa ho hof
  go_wp2_with (fail)
  refine (done_any b off po f g4 _ H.out.flag H.out.flagf H.out.own (by omega)).mono ?_
  rintro e V9 ⟨rfl,A⟩
  have rr0:=A.out.cellOf (H.out.fix (⟨pr,0,none⟩,.int .i64 0) (by simp)).1 (by show pr ≠ b;omega)
  have rf0:=A.out.frozenOf (H.out.fix (⟨pr,0,none⟩,.int .i64 0) (by simp)).1 (H.out.fix (⟨pr,0,none⟩,.int .i64 0) (by simp)).2 (by show pr ≠ b;omega)
  have rr1:=A.out.cellOf (H.out.fix (⟨pr,1,none⟩,.int .i64 0) (by simp)).1 (by show pr ≠ b;omega)
  have rf1:=A.out.frozenOf (H.out.fix (⟨pr,1,none⟩,.int .i64 0) (by simp)).1 (H.out.fix (⟨pr,1,none⟩,.int .i64 0) (by simp)).2 (by show pr ≠ b;omega)
  have rr2:=A.out.cellOf (H.out.fix (⟨pr,2,none⟩,.int .i64 0) (by simp)).1 (by show pr ≠ b;omega)
  have rf2:=A.out.frozenOf (H.out.fix (⟨pr,2,none⟩,.int .i64 0) (by simp)).1 (H.out.fix (⟨pr,2,none⟩,.int .i64 0) (by simp)).2 (by show pr ≠ b;omega)
  have rr3:=A.out.cellOf (H.out.fix (⟨pr,3,none⟩,.int .i64 0) (by simp)).1 (by show pr ≠ b;omega)
  have rf3:=A.out.frozenOf (H.out.fix (⟨pr,3,none⟩,.int .i64 0) (by simp)).1 (H.out.fix (⟨pr,3,none⟩,.int .i64 0) (by simp)).2 (by show pr ≠ b;omega)
  have HL:Hid (Leaves ⟨b,off,none⟩ W V9):=H.out.leaves.same A.out
  have hp:=A.out.cell
  have hpf:=A.out.frozen
  have n1:b ≠ pr:=by omega
  have n2:pr ≠ b:=by omega
  have hWr:W.heap.size <= pr:=by omega
  have HS:Hid _:=whole_chain (f:=f) HN.out Sg0.out Sg1.out Sg2.out Sg3.out Sg4.out
  clear A H
  cases g4 with
  | true =>
   go_wp2_with (fail)
   refine bodyPost_ret (by simp [results,Tryz.results20,go_sem,rr0,rr1,rr2,rr3];try rfl) rfl ?_
   refine ⟨0,0,0,0,_,rfl,HS.out,((((HL.out.set hWr _).set hWr _).set hWr _).set hWr _).done ?_ ?_⟩
   ·simp [go_sem,hp]
   ·simp [go_sem,hpf]
  | false =>
   go_wp2_with (fail)
   refine bodyPost_ret (by simp [results,Tryz.results20,go_sem,rr0,rr1,rr2,rr3];try rfl) rfl ?_
   refine ⟨_,_,_,_,_,rfl,HS.out,((((HL.out.set hWr _).set hWr _).set hWr _).set hWr _).done ?_ ?_⟩
   ·simp [go_sem,hp]
   ·simp [go_sem,hpf]
end
section
open Go.RowKit Go.Shelf
theorem rin_any (n a b:Int) (w:World) :
  Calls Tryz.prog 67 #[.int .i64 n,.int .i64 a,.int .i64 b] w fun e w'=>e = .returned (.bool (inR n a b))/\w' = w:=by
 unfold inR
 by_cases h1:a <= n
 ·go_enter Tryz.func67,Tryz.ntmps67
  go_wp2
  go_ret
  exact ⟨by simp [h1],rfl⟩
 ·go_enter Tryz.func67,Tryz.ntmps67
  go_wp2
  go_ret
  exact ⟨by simp;omega,rfl⟩
theorem rin_is (n a b:Int) (w:World) (t:Bool) (h:inR n a b = t) :
  Calls Tryz.prog 67 #[.int .i64 n,.int .i64 a,.int .i64 b] w fun e w'=>e = .returned (.bool t)/\w' = w:=by subst h;exact rin_any n a b w
theorem rsize_any (n:Int) (w:World) (h:-1152921504606846976 <= n/\n <= 1152921504606846976) :
  Calls Tryz.prog 72 #[.int .i64 n] w fun e w'=>e = .returned (.int .i64 (n.natAbs:Nat))/\w' = w:=by
 by_cases h1:n < 0
 ·go_enter Tryz.func72,Tryz.ntmps72
  go_wp2
  go_ret
  exact ⟨congrArg (fun k=>Ending.returned (.int .i64 k)) (by omega),rfl⟩
 ·go_enter Tryz.func72,Tryz.ntmps72
  go_wp2
  go_ret
  exact ⟨congrArg (fun k=>Ending.returned (.int .i64 k)) (by omega),rfl⟩
def gFirst (x y z:Nat):Nat->Nat
 | 0=>0
 | 1=>x
 | 2=>Nat.gcd x y
 | _=>Nat.gcd (Nat.gcd x y) z
def nth3 (x y z:Nat):Nat->Nat
 | 0=>x
 | 1=>y
 | _=>z
theorem gFirst_next (x y z i:Nat) (hi:i < 3):Nat.gcd (gFirst x y z i) (nth3 x y z i) = gFirst x y z (i + 1):=by
 have:i = 0 \/ i = 1 \/ i = 2:=by omega
 rcases this with rfl | rfl | rfl
 ·exact Nat.gcd_zero_left x
 ·rfl
 ·rfl
theorem gFirst_le (x y z B i:Nat) (hx:x <= B) (hy:y <= B) (hz:z <= B):gFirst x y z i <= B:=by
 match i with
 | 0=>exact Nat.zero_le _
 | 1=>exact hx
 | 2=>exact gcd_le hx hy
 | _ + 3=>exact gcd_le (gcd_le hx hy) hz
theorem nth3_le (x y z B i:Nat) (hx:x <= B) (hy:y <= B) (hz:z <= B):nth3 x y z i <= B:=by
 match i with
 | 0=>exact hx
 | 1=>exact hy
 | _ + 2=>exact hz
theorem nth3_cell {W:World} {g:Nat} {x y z:Nat} (h:Cells W g [.int .i64 (x:Int),.int .i64 (y:Int),.int .i64 (z:Int)]) (i:Nat) (hi:i < 3):W.cell? ⟨g,i,none⟩ = some (.int .i64 (nth3 x y z i:Int)):=by
 have:i = 0 \/ i = 1 \/ i = 2:=by omega
 rcases this with rfl | rfl | rfl
 ·exact (h 0 _ rfl).1
 ·exact (h 1 _ rfl).1
 ·exact (h 2 _ rfl).1
theorem bare_any (p:Pt) (w0:World) (hp:p.inB 4398046511104 = true) :
  Calls Tryz.prog 71 #[p.v] w0 fun e W=>e = .returned p.low.v/\Below w0.heap.size w0 W:=by
 have hq:=hp
 rw [Pt.inB_iff] at hq
 have S1:Hid _:=fun w'=>rsize_any p.x w' (by omega)
 have S2:Hid _:=fun w'=>rsize_any p.y w' (by omega)
 have S3:Hid _:=fun w'=>rsize_any p.z w' (by omega)
 have hg3:Hid (gFirst p.x.natAbs p.y.natAbs p.z.natAbs 3 = p.g):=rfl
 have HLE:Hid (∀ i,gFirst p.x.natAbs p.y.natAbs p.z.natAbs i <= 4398046511104):=fun i=>gFirst_le _ _ _ _ _ (by omega) (by omega) (by omega)
 have HLN:Hid (∀ i,nth3 p.x.natAbs p.y.natAbs p.z.natAbs i <= 4398046511104):=fun i=>nth3_le _ _ _ _ _ (by omega) (by omega) (by omega)
 have HL:Hid (p.low = if p.g = 0 then p else p.by p.g):=rfl
 generalize p.low = r at *
 generalize p.g = G at *
 obtain ⟨x,y,z⟩:=p
 dsimp only at *
 generalize hnx:x.natAbs = nx at *
 generalize hny:y.natAbs = ny at *
 generalize hnz:z.natAbs = nz at *
 clear hp hnx hny hnz
 unfold Pt.v at *
 dsimp only at *
 go_enter Tryz.func71,Tryz.ntmps71
 go_upto_region 2 with fail
 obtain ⟨V,hV⟩:∃ V:World,V = ((w0.alloc (.cells #[.int .i64 x,.int .i64 y,.int .i64 z] 23)).alloc (.cells #[.int .i64 0,.int .i64 0,.int .i64 0] 23)):=⟨_,rfl⟩
 have hBV:Below w0.heap.size w0 V:=by rw [hV];exact (((Below.refl _ w0).alloc (by simp;try omega) _).alloc (by simp;try omega) _)
 have V0_0:V.cell? ⟨w0.heap.size,0,none⟩ = some (.int .i64 x):=by rw [hV];simp [go_sem]
 have V0_1:V.cell? ⟨w0.heap.size,1,none⟩ = some (.int .i64 y):=by rw [hV];simp [go_sem]
 have V0_2:V.cell? ⟨w0.heap.size,2,none⟩ = some (.int .i64 z):=by rw [hV];simp [go_sem]
 have V1_0:V.cell? ⟨w0.heap.size + 1,0,none⟩ = some (.int .i64 0):=by rw [hV];simp [go_sem]
 have V1_1:V.cell? ⟨w0.heap.size + 1,1,none⟩ = some (.int .i64 0):=by rw [hV];simp [go_sem]
 have V1_2:V.cell? ⟨w0.heap.size + 1,2,none⟩ = some (.int .i64 0):=by rw [hV];simp [go_sem]
 have Vf1_0:V.frozen? ⟨w0.heap.size + 1,0,none⟩ = false:=by rw [hV];simp [go_sem]
 have Vf1_1:V.frozen? ⟨w0.heap.size + 1,1,none⟩ = false:=by rw [hV];simp [go_sem]
 have Vf1_2:V.frozen? ⟨w0.heap.size + 1,2,none⟩ = false:=by rw [hV];simp [go_sem]
 have Vf0_0:V.frozen? ⟨w0.heap.size,0,none⟩ = false:=by rw [hV];simp [go_sem]
 have Vf0_1:V.frozen? ⟨w0.heap.size,1,none⟩ = false:=by rw [hV];simp [go_sem]
 have Vf0_2:V.frozen? ⟨w0.heap.size,2,none⟩ = false:=by rw [hV];simp [go_sem]
 rw [<- hV]
 clear hV
 refine RV.region_by (fun j v w=>match j with | 0=>v = .pointer (some ⟨w0.heap.size,0,none⟩) | 1=>v = .int .i64 x | 2=>v = .int .i64 (nx:Int) | 3=>v = .pointer (some ⟨w0.heap.size,1,none⟩) | 4=>v = .int .i64 y | 5=>v = .int .i64 (ny:Int) | 6=>v = .pointer (some ⟨w0.heap.size,2,none⟩) | 7=>v = .int .i64 z | 8=>v = .int .i64 (nz:Int) | 9=>(fun v w=>∃ g,v = .slice (some ⟨g,0,none⟩) 3 3/\V.heap.size <= g/\Cells w g [.int .i64 (nx:Int),.int .i64 (ny:Int),.int .i64 (nz:Int)]) v w | 10=>(fun v w=>∃ g,v = .slice (some ⟨g,0,none⟩) 3 3/\V.heap.size <= g/\Cells w g [.int .i64 (nx:Int),.int .i64 (ny:Int),.int .i64 (nz:Int)]) v w | _=>True) (fun γ L w9=>Below V.heap.size V w9) (by kernel_rfl) (by kernel_rfl) (by kernel_rfl) (by kernel_rfl) ?_ ?_ ?_
 ·exact (Below.refl _ V).drew
 ·generalize hD:dstOf _ = D
  generalize hWA:waitsFor _ = WA
  generalize hZ:Act.mk _ _ = Z
  refine RV.AllDo.name ?_
  intro R hR
  have d0:D 0 = some 9:=by rw [<- hD];rfl
  have d1:D 1 = some 10:=by rw [<- hD];rfl
  have d2:D 2 = some 11:=by rw [<- hD];rfl
  have d3:D 3 = some 12:=by rw [<- hD];rfl
  have d4:D 4 = some 13:=by rw [<- hD];rfl
  have d5:D 5 = some 14:=by rw [<- hD];rfl
  have d6:D 6 = some 15:=by rw [<- hD];rfl
  have d7:D 7 = some 16:=by rw [<- hD];rfl
  have d8:D 8 = some 17:=by rw [<- hD];rfl
  have d9:D 9 = some 18:=by rw [<- hD];rfl
  have d10:D 10 = some 4:=by rw [<- hD];rfl
  have r0:∀ v w,R 0 v w = (v = .pointer (some ⟨w0.heap.size,0,none⟩)):=fun v w=>by rw [hR];rfl
  have r1:∀ v w,R 1 v w = (v = .int .i64 x):=fun v w=>by rw [hR];rfl
  have r2:∀ v w,R 2 v w = (v = .int .i64 (nx:Int)):=fun v w=>by rw [hR];rfl
  have r3:∀ v w,R 3 v w = (v = .pointer (some ⟨w0.heap.size,1,none⟩)):=fun v w=>by rw [hR];rfl
  have r4:∀ v w,R 4 v w = (v = .int .i64 y):=fun v w=>by rw [hR];rfl
  have r5:∀ v w,R 5 v w = (v = .int .i64 (ny:Int)):=fun v w=>by rw [hR];rfl
  have r6:∀ v w,R 6 v w = (v = .pointer (some ⟨w0.heap.size,2,none⟩)):=fun v w=>by rw [hR];rfl
  have r7:∀ v w,R 7 v w = (v = .int .i64 z):=fun v w=>by rw [hR];rfl
  have r8:∀ v w,R 8 v w = (v = .int .i64 (nz:Int)):=fun v w=>by rw [hR];rfl
  have r9:∀ v w,R 9 v w = ((fun v w=>∃ g,v = .slice (some ⟨g,0,none⟩) 3 3/\V.heap.size <= g/\Cells w g [.int .i64 (nx:Int),.int .i64 (ny:Int),.int .i64 (nz:Int)]) v w):=fun v w=>by rw [hR];rfl
  have r10:∀ v w,R 10 v w = ((fun v w=>∃ g,v = .slice (some ⟨g,0,none⟩) 3 3/\V.heap.size <= g/\Cells w g [.int .i64 (nx:Int),.int .i64 (ny:Int),.int .i64 (nz:Int)]) v w):=fun v w=>by rw [hR];rfl
  have F1_:∀ j,D j ≠ some 1:=by rw [<- hD];exact RV.dst_free (by kernel_rfl)
  have Z1_:Z.tmps[1]? = some (.pointer (some ⟨w0.heap.size,0,none⟩)):=by rw [<- hZ];rfl
  have K:∀ j v w w',Below w.heap.size w w'->R j v w->R j v w':=by
   rw [hR]
   intro j v w w' hb h
   revert h
   dsimp only
   split
   all_goals first | exact id | exact (fun ⟨g,t1,t2,t3⟩=>⟨g,t1,t2,Cells.step t3 hb⟩)
  clear hD hWA hZ hR
  refine RV.cc 0 (RV.dp (fun γ v L w hl h=>h) (fun γ L a w hH hl hA=>by have e0:=((hH.rest 1 F1_).trans Z1_);exact ⟨.pointer (some ⟨w0.heap.size,0,none⟩),by simp [execOp,go_sem,e0],(r0 _ _).mpr rfl⟩)) ?_
  refine RV.cc 1 (RV.dp (fun γ v L w hl h=>h) (fun γ L a w hH hl hA=>by have e0:=hH.got d0 r0 (hA ⟨0,.data⟩ (by simp) rfl);have hB9:=hH.glob;have z0:=c_after hB9 V0_0;exact ⟨.int .i64 x,by simp [execOp,go_sem,e0,z0],(r1 _ _).mpr rfl⟩)) ?_
  refine RV.cc 2 (RV.dc (fun γ L a w hH hl hA=>by have e0:=hH.got d1 r1 (hA ⟨1,.data⟩ (by simp) rfl);have hB9:=hH.glob;exact ⟨72,#[.int .i64 x],by simp [go_sem,e0],Calls.mono (S1.out w) (by rintro e w2 ⟨rfl,rfl⟩;exact ⟨_,rfl,(r2 _ _).mpr rfl,fun j v _ h=>h,hB9⟩)⟩)) ?_
  refine RV.cc 3 (RV.dp (fun γ v L w hl h=>h) (fun γ L a w hH hl hA=>by have e0:=((hH.rest 1 F1_).trans Z1_);exact ⟨.pointer (some ⟨w0.heap.size,1,none⟩),by simp [execOp,go_sem,e0],(r3 _ _).mpr rfl⟩)) ?_
  refine RV.cc 4 (RV.dp (fun γ v L w hl h=>h) (fun γ L a w hH hl hA=>by have e0:=hH.got d3 r3 (hA ⟨3,.data⟩ (by simp) rfl);have hB9:=hH.glob;have z0:=c_after hB9 V0_1;exact ⟨.int .i64 y,by simp [execOp,go_sem,e0,z0],(r4 _ _).mpr rfl⟩)) ?_
  refine RV.cc 5 (RV.dc (fun γ L a w hH hl hA=>by have e0:=hH.got d4 r4 (hA ⟨4,.data⟩ (by simp) rfl);have hB9:=hH.glob;exact ⟨72,#[.int .i64 y],by simp [go_sem,e0],Calls.mono (S2.out w) (by rintro e w2 ⟨rfl,rfl⟩;exact ⟨_,rfl,(r5 _ _).mpr rfl,fun j v _ h=>h,hB9⟩)⟩)) ?_
  refine RV.cc 6 (RV.dp (fun γ v L w hl h=>h) (fun γ L a w hH hl hA=>by have e0:=((hH.rest 1 F1_).trans Z1_);exact ⟨.pointer (some ⟨w0.heap.size,2,none⟩),by simp [execOp,go_sem,e0],(r6 _ _).mpr rfl⟩)) ?_
  refine RV.cc 7 (RV.dp (fun γ v L w hl h=>h) (fun γ L a w hH hl hA=>by have e0:=hH.got d6 r6 (hA ⟨6,.data⟩ (by simp) rfl);have hB9:=hH.glob;have z0:=c_after hB9 V0_2;exact ⟨.int .i64 z,by simp [execOp,go_sem,e0,z0],(r7 _ _).mpr rfl⟩)) ?_
  refine RV.cc 8 (RV.dc (fun γ L a w hH hl hA=>by have e0:=hH.got d7 r7 (hA ⟨7,.data⟩ (by simp) rfl);have hB9:=hH.glob;exact ⟨72,#[.int .i64 z],by simp [go_sem,e0],Calls.mono (S3.out w) (by rintro e w2 ⟨rfl,rfl⟩;exact ⟨_,rfl,(r8 _ _).mpr rfl,fun j v _ h=>h,hB9⟩)⟩)) ?_
  refine RV.cc 9 (RV.does_step (fun γ L a w hH hl hA=>by have e0:=hH.got d2 r2 (hA ⟨2,.data⟩ (by simp) rfl);have e1:=hH.got d5 r5 (hA ⟨5,.data⟩ (by simp) rfl);have e2:=hH.got d8 r8 (hA ⟨8,.data⟩ (by simp) rfl);have hB9:=hH.glob;exact ⟨.slice (some ⟨w.heap.size,0,none⟩) 3 3,w.alloc (.cells #[.int .i64 (nx:Int),.int .i64 (ny:Int),.int .i64 (nz:Int)] 3),by simp [execOp,go_sem,e0,e1,e2],(r9 _ _).mpr ⟨w.heap.size,rfl,hB9.size,Cells.new w [.int .i64 (nx:Int),.int .i64 (ny:Int),.int .i64 (nz:Int)] 3⟩,fun j v _ h=>K j v _ _ (n_after w _) h,hB9.trans ((n_after w _).mono hB9.size)⟩)) ?_
  refine RV.cc 10 (RV.dp (fun γ v L w hl h=>h) (fun γ L a w hH hl hA=>by have l0:L 9 = true:=hA ⟨9,.data⟩ (by simp) rfl;have e0:=hH.slot 9 18 d9 l0;have g0:=hH.holds 9 l0;rw [r9] at g0;exact ⟨γ 9,by simp [execOp,go_sem,e0],(r10 _ _).mpr g0⟩)) ?_
  exact RV.AllDo.nil
 ·intro γ a5 w5 L9 hL hLo hH
  have ha:=RV.held_act hH hL (by kernel_rfl) (by kernel_rfl)
  have hb8:=hH.glob
  obtain ⟨gs,y10,hgs,HCE⟩:=hH.holds 10 (hL 10 (by decide))
  rw [ha]
  clear ha hH hL hLo
  simp only [RV.putAll,Act.put,List.setIfInBounds_toArray,List.set_cons_zero,List.set_cons_succ,Nat.zero_add,Nat.reduceAdd]
  rw [y10]
  have hB5:Hid _:=hBV.trans (hb8.mono hBV.size)
  have HCE:Hid _:=HCE
  have b0:Hid (Box3 w5 w0.heap.size ⟨x,y,z⟩):=⟨c_after hb8 V0_0,c_after hb8 V0_1,c_after hb8 V0_2,f_after hb8 V0_0 Vf0_0,f_after hb8 V0_1 Vf0_1,f_after hb8 V0_2 Vf0_2⟩
  have b1:Hid (Box3 w5 (w0.heap.size + 1) Pt.O):=⟨c_after hb8 V1_0,c_after hb8 V1_1,c_after hb8 V1_2,f_after hb8 V1_0 Vf1_0,f_after hb8 V1_1 Vf1_1,f_after hb8 V1_2 Vf1_2⟩
  clear y10 hb8 V0_0 V0_1 V0_2 Vf0_0 Vf0_1 Vf0_2 V1_0 V1_1 V1_2 Vf1_0 Vf1_1 Vf1_2 hBV S1 S2 S3
  go_wp2_with (fail)
  go_loopg [3,5] 3 (fun gm s3 s5 wr=>∃ i:Nat,s3 = .int .i64 (gFirst nx ny nz i:Nat)/\s5 = .int .i64 (i:Int)/\i <= 3/\gm = 3 - i/\wr = w5)
  case atStart=>exact ⟨0,rfl,rfl,by omega,rfl,rfl⟩
  case round =>
   obtain ⟨i,rfl,rfl,hi,hgm,hwr⟩:=hrel
   subst hwr
   have HG1:Hid _:=hgm
   clear hgm
   by_cases hit:i < 3
   ·have hc:=nth3_cell HCE.out i hit
    have HN:Hid _:=gFirst_next nx ny nz i hit
    have l1:=HLE.out i
    have l2:=HLN.out i
    generalize nth3 nx ny nz i = nb at *
    generalize hga:gFirst nx ny nz i = na at *
    clear hga
    go_wp2_with (fail)
    go_loopg [6,7] nb (fun gm s6 s7 wx=>∃ a b:Nat,s6 = .int .i64 (a:Int)/\s7 = .int .i64 (b:Int)/\a <= 4398046511104/\b <= 4398046511104/\gm = b/\wx = wr/\Hid (Nat.gcd a b = gFirst nx ny nz (i + 1)))
    case atStart=>exact ⟨na,nb,rfl,rfl,l1,l2,rfl,rfl,HN⟩
    case round =>
     clear HN l1 l2
     obtain ⟨a,b,rfl,rfl,la,lb,hgm,hwx,HN⟩:=hrel
     subst hwx
     have HG2:Hid _:=hgm
     clear hgm
     by_cases hb0:b = 0
     ·subst hb0
      have e:a = gFirst nx ny nz (i + 1):=by rw [<- HN.out];simp
      clear HN
      have HE:Hid _:=e
      clear e
      go_wp2_with (fail)
      go_roundg (3 - (i + 1))
      case measure=>have:=HG1.out;omega
      case rel=>exact ⟨i + 1,by rw [<- HE.out],by go_num,by omega,rfl,rfl⟩
     ·have hb1:¬ (b:Int) = 0:=by omega
      have hlt:=Nat.mod_lt a (Nat.pos_of_ne_zero hb0)
      have HN2:Hid (Nat.gcd b (a % b) = gFirst nx ny nz (i + 1)):=by show _ = _;rw [<- HN.out,Nat.gcd_comm a b,Nat.gcd_rec b a,Nat.gcd_comm]
      clear HN hb0
      go_wp2_with (fail)
      go_roundg (a % b)
      case measure=>have:=HG2.out;omega
      case rel=>exact ⟨b,a % b,rfl,by go_num,lb,by omega,rfl,rfl,HN2⟩
   ·have e:i = 3:=by omega
    subst e
    rw [hg3.out]
    have hGl:G <= 4398046511104:=by have:=HLE.out 3;rw [hg3.out] at this;exact this
    obtain ⟨c0,c1,c2,_,_,_⟩:=b0.out
    obtain ⟨r0,r1,r2,f0,f1,f2⟩:=b1.out
    simp only [Pt.O] at r0 r1 r2
    dsimp only at c0 c1 c2
    by_cases h0:G = 0
    ·have h0':(G:Int) = 0:=by omega
     have e:r = ⟨x,y,z⟩:=by rw [HL.out,if_pos h0]
     subst e
     clear HL h0
     go_wp2_with (fail)
     refine bodyPost_ret (v:=.agg #[.int .i64 x,.int .i64 y,.int .i64 z]) (by simp [results,Tryz.results71,go_sem,r0,r1,r2]) rfl ⟨rfl,?_⟩
     exact set3_below hB5.out (by omega) _ _ _
    ·have h0':¬ (G:Int) = 0:=by omega
     have h0p:0 < (G:Int):=by omega
     have e:r = Pt.by ⟨x,y,z⟩ G:=by rw [HL.out,if_neg h0]
     clear HL
     obtain ⟨rx,ry,rz⟩:=r
     simp only [Pt.by,Pt.mk.injEq] at e
     obtain ⟨rfl,rfl,rfl⟩:=e
     clear h0
     have hne:¬ w0.heap.size = w0.heap.size + 1:=by omega
     go_wp2_with (fail)
     go_region
     go_wp2_with (fail)
     refine bodyPost_ret (v:=.agg #[.int .i64 (x.tdiv G),.int .i64 (y.tdiv G),.int .i64 (z.tdiv G)]) (by simp [results,Tryz.results71,go_sem,r0,r1,r2]) rfl ⟨rfl,?_⟩
     exact set3_below hB5.out.drew (by omega) _ _ _
theorem rshort_any (p:Pt) (w0:World) :
  Calls Tryz.prog 34 #[p.v] w0 fun e W=>e = .returned p.short.v/\Below w0.heap.size w0 W:=by
 have HLO:Hid (∀ q:Pt,q.inB 4398046511104 = true->∀ w',Calls Tryz.prog 71 #[q.v] w' fun e W=>e = .returned q.low.v/\Below w'.heap.size w' W):=fun q hq w'=>bare_any q w' hq
 have bx0:Hid (Box3 ((w0.alloc (.cells #[.int .i64 p.x,.int .i64 p.y,.int .i64 p.z] 23)).alloc (.cells #[.int .i64 0,.int .i64 0,.int .i64 0] 23)) w0.heap.size p):=(Box3.new w0 p.x p.y p.z _).step (n_after _ _)
 have bx1:Hid (Box3 ((w0.alloc (.cells #[.int .i64 p.x,.int .i64 p.y,.int .i64 p.z] 23)).alloc (.cells #[.int .i64 0,.int .i64 0,.int .i64 0] 23)) (w0.heap.size + 1) Pt.O):=by have:=Box3.new (w0.alloc (.cells #[.int .i64 p.x,.int .i64 p.y,.int .i64 p.z] 23)) 0 0 0 23;rwa [World.size_alloc] at this
 have hB0:Hid (Below w0.heap.size w0 ((w0.alloc (.cells #[.int .i64 p.x,.int .i64 p.y,.int .i64 p.z] 23)).alloc (.cells #[.int .i64 0,.int .i64 0,.int .i64 0] 23))):=b_step (n_after w0 _) (n_after _ _)
 obtain ⟨r,hr⟩:∃ r,p.short = r:=⟨_,rfl⟩
 rw [hr]
 have HR:Hid _:=hr
 clear hr
 have HIN:Hid (p.inB 4398046511104 = (inR p.x (-4398046511104) 4398046511104 && (inR p.y (-4398046511104) 4398046511104 && inR p.z (-4398046511104) 4398046511104))):=by
  show _ = _
  rw [Bool.eq_iff_iff,Pt.inB_iff]
  simp [inR]
 unfold Pt.v at *
 go_enter Tryz.func34,Tryz.ntmps34
 go_upto_region 1 with fail
 obtain ⟨V,hV⟩:∃ V:World,V = (w0.alloc (.cells #[.int .i64 p.x,.int .i64 p.y,.int .i64 p.z] 23)).alloc (.cells #[.int .i64 0,.int .i64 0,.int .i64 0] 23):=⟨_,rfl⟩
 rw [<- hV] at bx0 bx1 hB0 ⊢
 clear hV
 obtain ⟨c0,c1,c2,_,_,_⟩:=bx0.out
 go_cut [19] from 4 (fun s wc=>s = .bool (!(p.inB 4398046511104))/\wc = V)
 case first =>
  cases h1:inR p.x (-4398046511104) 4398046511104 with
  | false =>
   go_wp2_with (go_at_call 67;refine (rin_is _ _ _ _ false h1).mono ?_;rintro e w' ⟨rfl,rfl⟩)
   go_meet
   case rel=>exact ⟨by rw [HIN.out,h1];rfl,rfl⟩
  | true =>
   cases h2:inR p.y (-4398046511104) 4398046511104 with
   | false =>
    go_wp2_with (fail)
    refine Calls.mono (rin_is p.x _ _ _ true h1) ?_
    rintro e w' ⟨rfl,rfl⟩
    go_wp2_with (fail)
    refine Calls.mono (rin_is p.y _ _ _ false h2) ?_
    rintro e w' ⟨rfl,rfl⟩
    go_wp2_with (fail)
    go_meet
    case rel=>exact ⟨by rw [HIN.out,h1,h2];rfl,rfl⟩
   | true =>
    cases h3:inR p.z (-4398046511104) 4398046511104 with
    | false =>
     go_wp2_with (fail)
     refine Calls.mono (rin_is p.x _ _ _ true h1) ?_
     rintro e w' ⟨rfl,rfl⟩
     go_wp2_with (fail)
     refine Calls.mono (rin_is p.y _ _ _ true h2) ?_
     rintro e w' ⟨rfl,rfl⟩
     go_wp2_with (fail)
     refine Calls.mono (rin_is p.z _ _ _ false h3) ?_
     rintro e w' ⟨rfl,rfl⟩
     go_wp2_with (fail)
     go_meet
     case rel=>exact ⟨by rw [HIN.out,h1,h2,h3];rfl,rfl⟩
    | true =>
     go_wp2_with (fail)
     refine Calls.mono (rin_is p.x _ _ _ true h1) ?_
     rintro e w' ⟨rfl,rfl⟩
     go_wp2_with (fail)
     refine Calls.mono (rin_is p.y _ _ _ true h2) ?_
     rintro e w' ⟨rfl,rfl⟩
     go_wp2_with (fail)
     refine Calls.mono (rin_is p.z _ _ _ true h3) ?_
     rintro e w' ⟨rfl,rfl⟩
     go_wp2_with (fail)
     go_meet
     case rel=>exact ⟨by rw [HIN.out,h1,h2,h3];rfl,rfl⟩
 case rest =>
  obtain ⟨rfl,hwc⟩:=hcut
  subst hwc
  clear HIN c0 c1 c2
  cases hin:p.inB 4398046511104 with
  | false =>
   have e:r = Pt.O:=by rw [<- HR.out];unfold Pt.short;rw [if_neg (by rw [hin];decide)]
   clear HR
   subst e
   obtain ⟨c0,c1,c2,f0,f1,f2⟩:=bx1.out
   simp only [Pt.O] at c0 c1 c2
   go_wp2_with (fail)
   refine bodyPost_ret (v:=.agg #[.int .i64 0,.int .i64 0,.int .i64 0]) (by simp [results,Tryz.results34,go_sem,c0,c1,c2]) rfl ⟨rfl,?_⟩
   exact set3_below hB0.out (by omega) 0 0 0
  | true =>
   have hlow:=Pt.low_in hin
   have HR:Hid (r = (halveF 43 p.low).low):=by show _ = _;rw [<- HR.out];unfold Pt.short;rw [if_pos hin];rfl
   have HL1:Hid _:=HLO.out p hin
   obtain ⟨c0,c1,c2,_,_,_⟩:=bx0.out
   go_wp2_with (fail)
   refine Calls.mono (HL1.out _) ?_
   clear HL1 c0 c1 c2
   rintro e V2 ⟨rfl,hb⟩
   have b1:Hid _:=(bx1.out.step hb).step (n_after V2 (.cells #[.int .i64 p.low.x,.int .i64 p.low.y,.int .i64 p.low.z] 23))
   have hB:Hid _:=b_step (b_step hB0.out hb) (n_after V2 (.cells #[.int .i64 p.low.x,.int .i64 p.low.y,.int .i64 p.low.z] 23))
   have b3:Hid _:=Box3.new V2 p.low.x p.low.y p.low.z 23
   have hsz:w0.heap.size + 1 < V2.heap.size:=(bx1.out.step hb).lt
   clear hb
   go_wp2_with (fail)
   obtain ⟨bq,hbq⟩:∃ bq,bq = V2.heap.size:=⟨_,rfl⟩
   rw [<- hbq] at b3 hsz ⊢
   have hL2:p.low.inB (2 ^ 43:Nat) = true:=inB_mono hlow (by decide)
   go_loopg [] 43 (fun g wr=>∃ q:Pt,Hid (Box3 wr bq q)/\Hid (Box3 wr (w0.heap.size + 1) Pt.O)/\Hid (Below w0.heap.size w0 wr)/\g <= 43/\Hid (halveF g q = halveF 43 p.low)/\Hid (q.inB (2 ^ g:Nat) = true))
   case atStart=>exact ⟨p.low,b3,b1,hB,Nat.le_refl _,rfl,hL2⟩
   case round =>
    clear b3 b1 hB hL2 hbq
    obtain ⟨q,b3,b1,hB,hg,HF,HI⟩:=hrel
    have hG:Hid _:=hg
    have hq2:q.inB 1152921504606846976 = true:=inB_mono HI.out (by have:=cast_pow _ hg;omega)
    rw [Pt.inB_iff] at hq2
    clear hg
    obtain ⟨c0,c1,c2,f0,f1,f2⟩:=b3.out
    have HX:Hid (q.inB 1048576 = !(decide (1048576 < (q.x.natAbs:Int)) || (decide (1048576 < (q.y.natAbs:Int)) || decide (1048576 < (q.z.natAbs:Int))))):=by
     show _ = _
     rw [Bool.eq_iff_iff,Pt.inB_iff]
     simp
     omega
    go_upto_region 4 with fail
    go_cut [38] from 23 to 48 (fun s wc=>s = .bool (!(q.inB 1048576))/\wc = wr)
    case first =>
     by_cases h1:1048576 < (q.x.natAbs:Int)
     ·go_wp2_with (fail)
      refine Calls.mono (rsize_any q.x _ hq2.1) ?_
      rintro e w' ⟨rfl,rfl⟩
      go_wp2_with (fail)
      go_meet
      case rel=>exact ⟨by rw [HX.out];simp [h1],rfl⟩
     ·by_cases h2:1048576 < (q.y.natAbs:Int)
      ·go_wp2_with (fail)
       refine Calls.mono (rsize_any q.x _ hq2.1) ?_
       rintro e w' ⟨rfl,rfl⟩
       go_wp2_with (fail)
       refine Calls.mono (rsize_any q.y _ hq2.2.1) ?_
       rintro e w' ⟨rfl,rfl⟩
       go_wp2_with (fail)
       go_meet
       case rel=>exact ⟨by rw [HX.out];simp [h2],rfl⟩
      ·go_wp2_with (fail)
       refine Calls.mono (rsize_any q.x _ hq2.1) ?_
       rintro e w' ⟨rfl,rfl⟩
       go_wp2_with (fail)
       refine Calls.mono (rsize_any q.y _ hq2.2.1) ?_
       rintro e w' ⟨rfl,rfl⟩
       go_wp2_with (fail)
       refine Calls.mono (rsize_any q.z _ hq2.2.2) ?_
       rintro e w' ⟨rfl,rfl⟩
       go_wp2_with (fail)
       go_meet
       case rel=>exact ⟨by rw [HX.out,Bool.not_not,decide_eq_false (p:=1048576 < (q.x.natAbs:Int)) (by omega),decide_eq_false (p:=1048576 < (q.y.natAbs:Int)) (by omega)];rfl,rfl⟩
    case rest =>
     obtain ⟨rfl,hwc⟩:=hcut
     subst hwc
     clear HX
     cases hq:q.inB 1048576 with
     | false =>
      obtain ⟨j,hj,ej,hin2⟩:=halveF_step _ q hq HI.out
      have HJ:Hid _:=And.intro hj (And.intro ej hin2)
      have b3:Hid (Box3 (set3 wc bq (q.by 2).x (q.by 2).y (q.by 2).z) bq (q.by 2)):=b3.out.set _ _ _
      have b1:Hid (Box3 (set3 wc bq (q.by 2).x (q.by 2).y (q.by 2).z) (w0.heap.size + 1) Pt.O):=b1.out.other (by omega) _ _ _
      have hB:Hid (Below w0.heap.size w0 (set3 wc bq (q.by 2).x (q.by 2).y (q.by 2).z)):=set3_below hB.out (by omega) _ _ _
      unfold set3 at b3 b1 hB
      clear hj ej hin2
      go_wp2_with (fail)
      go_roundg j
      case measure=>have:=HJ.out.1;omega
      case rel=>exact ⟨q.by 2,b3,b1,hB,by have:=HJ.out.1;have:=hG.out;omega,HJ.out.2.1.symm.trans HF.out,HJ.out.2.2⟩
     | true =>
      have e:r = q.low:=by rw [HR.out,<- HF.out,halveF_id _ _ hq]
      have HL1:Hid _:=HLO.out q (inB_mono hq (by decide))
      rw [<- e] at HL1
      clear e HR HF HI HLO
      go_wp2_with (fail)
      refine Calls.mono (HL1.out _) ?_
      clear HL1 c0 c1 c2 f0 f1 f2
      rintro e V4 ⟨rfl,hb⟩
      obtain ⟨c0,c1,c2,f0,f1,f2⟩:=b1.out.step hb
      have hB:Hid _:=b_step hB.out hb
      go_wp2_with (fail)
      refine bodyPost_ret (v:=.agg #[.int .i64 r.x,.int .i64 r.y,.int .i64 r.z]) (by simp [results,Tryz.results34,go_sem,c0,c1,c2]) rfl ⟨rfl,?_⟩
      exact set3_below hB.out (by omega) _ _ _
end
section
open Go.RowKit Go.Shelf
theorem rvturn_pt (b off:Nat) (f:Bool) (m:M9) (x:Pt) (W:World) (hc:W.cell? ⟨b,off,none⟩ = some (.bool f)) (hf:W.frozen? ⟨b,off,none⟩ = false) :
  Calls Tryz.prog 54 #[.pointer (some ⟨b,off,none⟩),m.v,x.v] W fun e W'=>e = .returned ((m.turn x).getD Pt.O).v/\Hid (After ⟨b,off,none⟩ (f || (m.turn x).isNone) W W'):=by
 refine Calls.mono (rvturn_law b off f m.a0 m.a1 m.a2 m.a3 m.a4 m.a5 m.a6 m.a7 m.a8 x.x x.y x.z W hc hf) ?_
 rintro e W' ⟨v0,v1,v2,g,rfl,S3,A⟩
 obtain ⟨e1,e2⟩:=step3_pt S3.out
 unfold M9.turn
 rw [<- e1,<- e2]
 exact ⟨rfl,A⟩
structure WS (w:World) (n0:Nat) (V:World) (wb:Nat) (g:Bool) (u:Value) (M:List Pt):Prop where
 lv:Leaves ⟨wb,0,none⟩ w V
 fl:V.cell? ⟨wb,0,none⟩ = some (.bool g)
 ff:V.frozen? ⟨wb,0,none⟩ = false
 own:V.ownsRow n0 23 3 u M.length (fl3 M)
 hw:wb < w.heap.size
 hn:w.heap.size <= n0
section
variable {w V X:World} {wb n0:Nat} {g g':Bool} {u:Value} {M:List Pt}
theorem WS.step (h:WS w n0 V wb g u M) (hb:Below V.heap.size V X):WS w n0 X wb g u M:=
 ⟨h.lv.step (hb.mono h.lv.size),c_after hb h.fl,f_after hb h.fl h.ff,own_below h.own hb,h.hw,h.hn⟩
theorem WS.after (h:WS w n0 V wb g u M) (A:After ⟨wb,0,none⟩ g' V X):WS w n0 X wb g' u M:=
 ⟨h.lv.same A,A.cell,A.frozen,row_turn h.own (after_grown A) (fun r e=>by cases e;have:=h.hw;have:=h.hn;omega),h.hw,h.hn⟩
theorem WS.set3 (h:WS w n0 V wb g u M) {b:Nat} (hb:w.heap.size <= b) (hu:u.ownBlock ≠ some b) (x y z:Int):WS w n0 (set3 V b x y z) wb g u M:=by
 have hne:wb ≠ b:=by have:=h.hw;omega
 have hk:(Go.Proofs.YtlhhmiicpddjoaaGreat.set3 V b x y z).heap[wb]? = V.heap[wb]?:=by
  unfold Go.Proofs.YtlhhmiicpddjoaaGreat.set3
  rw [Below.heap_setCell _ _ _ _ hne,Below.heap_setCell _ _ _ _ hne,Below.heap_setCell _ _ _ _ hne]
 exact ⟨((h.lv.set hb _).set hb _).set hb _,(World.cell?_of_block (w:=V) (a:=⟨wb,0,none⟩) hk).trans h.fl,(World.frozen?_of_block (w:=V) (a:=⟨wb,0,none⟩) hk).trans h.ff,ownsRow_setCell_other (ownsRow_setCell_other (ownsRow_setCell_other h.own hu _) hu _) hu _,h.hw,h.hn⟩
theorem WS.app {u':Value} {p:Pt} (h:WS w n0 V wb g u M) (hr:X.ownsRow n0 23 3 u' (M.length + 1) (fl3 M ++ [.int .i64 p.x,.int .i64 p.y,.int .i64 p.z])) (hg:V.grownBy X u.ownBlock):WS w n0 X wb g u' (M ++ [p]):=by
 have hne:∀ k,u.ownBlock = some k->k ≠ wb:=fun k e=>by have:=(h.own.lt k e).1;have:=h.hw;have:=h.hn;omega
 have hbl:X.heap[wb]? = V.heap[wb]?:=hg.block wb (World.block_lt_of_cell? _ _ h.fl) (fun e=>hne wb e.symm rfl)
 have hB:Below w.heap.size V X:=by
  refine ⟨hg.os,hg.tape,hg.output,hg.size,fun k hk=>?_⟩
  by_cases hkV:k < V.heap.size
  ·exact hg.block k hkV (fun e=>by have:=(h.own.lt k e.symm).1;have:=h.hn;omega)
  ·have:=h.lv.size;omega
 refine ⟨h.lv.step hB,(World.cell?_of_block (w:=V) (a:=⟨wb,0,none⟩) hbl).trans h.fl,(World.frozen?_of_block (w:=V) (a:=⟨wb,0,none⟩) hbl).trans h.ff,?_,h.hw,h.hn⟩
 rw [fl3_append,List.length_append];exact hr
theorem WS.le (h:WS w n0 V wb g u M):WS w w.heap.size V wb g u M:=⟨h.lv,h.fl,h.ff,own_le h.own h.hn,h.hw,Nat.le_refl _⟩
theorem big_nz {q:Pt} {n:Nat} (h:q.big n):q.x = 0->q.y = 0->¬ q.z = 0:=by
 intro a b c
 unfold Pt.big at h
 rw [a,b,c] at h
 have:0 < 2 ^ n:=Nat.pow_pos (by decide)
 simp only [Int.natAbs_zero] at h
 omega
theorem plus_two (q:Pt):∃ x2 y2 z2,q.plus q = ⟨x2,y2,z2⟩/\IntKind.wrap .i64 (2 * q.x) = x2/\IntKind.wrap .i64 (2 * q.y) = y2/\IntKind.wrap .i64 (2 * q.z) = z2:=by
 refine ⟨_,_,_,?_,rfl,rfl,rfl⟩
 unfold Pt.plus
 simp only [Int.two_mul]
theorem Cells.put3w {W:World} {b c:Nat} {vs:List Value} (h:Cells W b vs) (hn:b ≠ c) (x y z:Int):Cells (set3 W c x y z) b vs:=((Cells.apart h hn 0 _).apart hn 1 _).apart hn 2 _
end
theorem rways_any (wb:Nat) (f:Bool) (m:M9) (Ls:List Pt) (v:Value) (w:World) (hc:w.cell? ⟨wb,0,none⟩ = some (.bool f)) (hf:w.frozen? ⟨wb,0,none⟩ = false) (hv:Lies w v Ls) (hne:∀ q n c,v = .slice (some q) n c->Ls ≠ []->q.block ≠ wb) (hN:Ls.length < 1099511627776) :
  Calls Tryz.prog 57 #[.pointer (some ⟨wb,0,none⟩),m.v,v] w fun e W=>(∃ u,(∀ p ∈ Ls,p.inB 1048576 = true)/\e = .returned (.tuple #[u,.bool true])/\WS w w.heap.size W wb (f || Ls.any m.dirB) u (m.dirs Ls)) \/ (∃ g,(∃ p ∈ Ls,p.inB 1048576 = false)/\e = .returned (.tuple #[.slice none 0 0,.bool false])/\WS w w.heap.size W wb g (.slice none 0 0) []):=by
 obtain ⟨o,cap,rfl,hlc,hcm,hcell⟩:=hv.form
 have hwb:wb < w.heap.size:=World.block_lt_of_cell? _ _ hc
 have HCL:Hid _:=hcell
 have HNE:Hid _:=hne
 have HIN:Hid (∀ p:Pt,∀ mm:Int,(0 <= mm/\mm <= 4611686018427387903)->∀ w',Calls Tryz.prog 52 #[p.v,.int .i64 mm] w' fun e W=>e = .returned (.bool (p.inB mm))/\Below w'.heap.size w' W):=fun p mm h w'=>rin6_any p mm w' h
 obtain ⟨i0,hii,hiz,hisz,hib⟩:=info_parts point_info
 have HI:Hid _:=And.intro hii (And.intro hiz (And.intro hisz hib))
 clear hii hiz hisz hib hv hcell hne
 have HTU0:Hid _:=fun (x:Pt) (w':World) (g:Bool)=>rvturn_pt wb 0 g m x w'
 have HDV:Hid (∀ p,m.dirV p = ((m.dirT p).quo 4096).short):=fun p=>rfl
 have HDT:Hid (∀ p,m.dirT p = (m.turn (p.long.times 4096)).getD Pt.O/\m.dirB p = (m.turn (p.long.times 4096)).isNone):=fun p=>⟨rfl,rfl⟩
 have W0:Hid (WS w (w.heap.size + 1) (w.alloc (.cells #[.int .i64 m.a0,.int .i64 m.a1,.int .i64 m.a2,.int .i64 m.a3,.int .i64 m.a4,.int .i64 m.a5,.int .i64 m.a6,.int .i64 m.a7,.int .i64 m.a8] 61)) wb f (.slice none 0 0) []):=⟨(Leaves.refl _ _).alloc _,c_after (n_after _ _) hc,f_after (n_after _ _) hc hf,World.ownsRow_nil _ _ _ _,hwb,by omega⟩
 have M0:Hid (Cells (w.alloc (.cells #[.int .i64 m.a0,.int .i64 m.a1,.int .i64 m.a2,.int .i64 m.a3,.int .i64 m.a4,.int .i64 m.a5,.int .i64 m.a6,.int .i64 m.a7,.int .i64 m.a8] 61)) w.heap.size [.int .i64 m.a0,.int .i64 m.a1,.int .i64 m.a2,.int .i64 m.a3,.int .i64 m.a4,.int .i64 m.a5,.int .i64 m.a6,.int .i64 m.a7,.int .i64 m.a8]):=Cells.new _ _ _
 clear hc hf
 obtain ⟨mb,hmb⟩:∃ b,b = w.heap.size:=⟨_,rfl⟩
 obtain ⟨w1,hw1⟩:∃ w1,w1 = w.alloc (.cells #[.int .i64 m.a0,.int .i64 m.a1,.int .i64 m.a2,.int .i64 m.a3,.int .i64 m.a4,.int .i64 m.a5,.int .i64 m.a6,.int .i64 m.a7,.int .i64 m.a8] 61):=⟨_,rfl⟩
 rw [<- hw1] at W0 M0
 rw [<- hmb] at M0 W0
 have hmw:mb ≠ wb:=by omega
 have hwm:w.heap.size <= mb:=by omega
 unfold M9.v
 go_enter Tryz.func57,Tryz.ntmps57
 go_wp2_with (fail)
 rw [<- hw1,<- hmb]
 clear hw1 hmb
 go_loopg [8,9] Ls.length (fun gm s8 s9 wr=>∃ (i:Nat) (g:Bool) (u:Value),s9 = .int .i64 (i:Int)/\s8 = u/\i <= Ls.length/\gm = Ls.length - i/\Hid (WS w (mb + 1) wr wb g u (dirsK (fun k=>m.dirV (pt Ls k)) i))/\Hid (Cells wr mb [.int .i64 m.a0,.int .i64 m.a1,.int .i64 m.a2,.int .i64 m.a3,.int .i64 m.a4,.int .i64 m.a5,.int .i64 m.a6,.int .i64 m.a7,.int .i64 m.a8])/\Hid (g = (f || anyK (fun k=>m.dirB (pt Ls k)) i))/\Hid (∀ j,j < i->(pt Ls j).inB 1048576 = true))
 case atStart=>exact ⟨0,f,_,rfl,rfl,Nat.zero_le _,rfl,W0,M0,by show _ = _;simp [anyK],fun j hj=>absurd hj (by omega)⟩
 case round =>
  clear W0 M0
  obtain ⟨i,g,u,rfl,rfl,hi,hgm,HWS,HMB,HGB,HAL⟩:=hrel
  have HG1:Hid _:=hgm
  clear hgm
  obtain ⟨uo,uc,hu⟩:=rowp_form HWS.out.own
  subst hu
  by_cases hit:i < Ls.length
  ·obtain ⟨g7,f7,rfl,x0,x1,x2⟩:=HCL.out i hit
   have hg7:g7 ≠ wb:=HNE.out ⟨g7,f7,none⟩ _ _ rfl (fun e=>by rw [e] at hit;simp at hit)
   have x0:=(HWS.out.lv.other ⟨g7,f7 + i * 3,none⟩ (World.block_lt_of_cell? _ _ x0) hg7).1.trans x0
   have x1:=(HWS.out.lv.other ⟨g7,f7 + i * 3 + 1,none⟩ (World.block_lt_of_cell? _ _ x1) hg7).1.trans x1
   have x2:=(HWS.out.lv.other ⟨g7,f7 + i * 3 + 2,none⟩ (World.block_lt_of_cell? _ _ x2) hg7).1.trans x2
   have HMEM:Hid _:=pt_mem hit
   have HK1:Hid (dirsK (fun k=>m.dirV (pt Ls k)) (i + 1) = if m.dirV (pt Ls i) = Pt.O then dirsK (fun k=>m.dirV (pt Ls k)) i else dirsK (fun k=>m.dirV (pt Ls k)) i ++ [m.dirV (pt Ls i)]):=by
    show _ = _
    by_cases h:m.dirV (pt Ls i) = Pt.O
    ·rw [if_pos h];exact dirsK_no _ _ h
    ·rw [if_neg h];exact dirsK_yes _ _ h
   have HK2:Hid (anyK (fun k=>m.dirB (pt Ls k)) (i + 1) = (anyK (fun k=>m.dirB (pt Ls k)) i || m.dirB (pt Ls i))):=rfl
   have hlm:(dirsK (fun k=>m.dirV (pt Ls k)) i).length < 1099511627776:=by have:=dirsK_length (fun k=>m.dirV (pt Ls k)) i;omega
   have HAL1:Hid ((pt Ls i).inB 1048576 = true->∀ j,j < i + 1->(pt Ls j).inB 1048576 = true):=fun h j hj=>by
    by_cases e:j = i
    ·subst e;exact h
    ·exact HAL.out j (by omega)
   generalize hp:pt Ls i = p at *
   have HP:Hid _:=hp
   clear hp
   have HI1:Hid _:=HIN.out p 1048576 (by decide)
   have HI2:Hid _:=HIN.out p 524288 (by decide)
   obtain ⟨px,py,pz⟩:=p
   unfold Pt.v at HI1 HI2
   dsimp only at x0 x1 x2 HI1 HI2
   go_wp2_with (fail)
   refine Calls.mono (HI1.out _) ?_
   clear HI1
   rintro e V1 ⟨rfl,hb⟩
   have x0:=c_after hb x0
   have x1:=c_after hb x1
   have x2:=c_after hb x2
   have HWS:Hid _:=HWS.out.step hb
   have HMB:Hid _:=Cells.step HMB.out hb
   clear hb
   cases hin:Pt.inB ⟨px,py,pz⟩ 1048576 with
   | false =>
    clear HI2
    go_wp2_with (fail)
    refine bodyPost_ret (v:=.tuple #[.slice none 0 0,.bool false]) (by simp [results,Tryz.results57,go_sem]) rfl ?_
    refine Or.inr ⟨g,⟨_,HMEM.out,hin⟩,rfl,?_⟩
    exact ⟨HWS.out.lv,HWS.out.fl,HWS.out.ff,World.ownsRow_nil _ _ _ _,HWS.out.hw,Nat.le_refl _⟩
   | true =>
    go_wp2_with (fail)
    refine Calls.mono (HI2.out _) ?_
    clear HI2 x0 x1 x2
    rintro e V2 ⟨rfl,hb⟩
    obtain ⟨pb,hpb⟩:∃ b,b = V1.heap.size:=⟨_,rfl⟩
    have HUP:Hid ((Value.slice uo (dirsK (fun k=>m.dirV (pt Ls k)) i).length uc).ownBlock ≠ some pb):=fun e=>by have:=(HWS.out.own.lt pb e).2;omega
    have hpw:w.heap.size <= pb:=by have:=HWS.out.lv.size;omega
    have hpm:mb ≠ pb:=by have:=Cells.lt HMB.out;omega
    have hb9:=b_step (n_after V1 (.cells #[.int .i64 px,.int .i64 py,.int .i64 pz] 23)) hb
    have HWS:Hid _:=HWS.out.step hb9
    have HMB:Hid _:=Cells.step HMB.out hb9
    have HBX:Hid (Box3 V2 pb ⟨px,py,pz⟩):=by show Box3 _ _ _;rw [hpb];exact (Box3.new V1 px py pz _).step hb
    rw [<- hpb]
    clear hb hb9 hpb
    go_upto_block 2 with fail
    go_cut [12] from 34 to 51 (fun s12 wx=>∃ q:Pt,q = Pt.long ⟨px,py,pz⟩/\Hid (Box3 wx pb q)/\Hid (WS w (mb + 1) wx wb g (.slice uo (dirsK (fun k=>m.dirV (pt Ls k)) i).length uc) (dirsK (fun k=>m.dirV (pt Ls k)) i))/\Hid (Cells wx mb [.int .i64 m.a0,.int .i64 m.a1,.int .i64 m.a2,.int .i64 m.a3,.int .i64 m.a4,.int .i64 m.a5,.int .i64 m.a6,.int .i64 m.a7,.int .i64 m.a8]))
    case first =>
     by_cases hz:(⟨px,py,pz⟩:Pt) = Pt.O
     ·simp only [Pt.O,Pt.mk.injEq] at hz
      obtain ⟨rfl,rfl,rfl⟩:=hz
      obtain ⟨c0,c1,c2,f0,f1,f2⟩:=HBX.out
      dsimp only at c0 c1 c2
      have e5:Pt.inB ⟨0,0,0⟩ 524288 = true:=by decide
      rw [e5]
      go_wp2_with (fail)
      go_loopg [12] 1 (fun gk2 s12 wr2=>s12 = .bool true/\wr2 = V2)
      case atStart=>exact ⟨rfl,rfl⟩
      case round =>
       obtain ⟨rfl,rfl⟩:=hrel
       go_wp2_with (fail)
       go_meet
       case rel=>exact ⟨_,by decide,HBX,HWS,HMB⟩
     ·have HB0:Hid (Pt.big ⟨px,py,pz⟩ (20 - 20)):=big_zero hz
      have HLO:Hid (Pt.long ⟨px,py,pz⟩ = longF 20 ⟨px,py,pz⟩):=by show _ = _;unfold Pt.long;rw [if_neg hz]
      go_wp2_with (fail)
      go_loopg [12] 20 (fun gk s12 wr2=>∃ q:Pt,s12 = .bool (q.inB 524288)/\Hid (Box3 wr2 pb q)/\Hid (WS w (mb + 1) wr2 wb g (.slice uo (dirsK (fun k=>m.dirV (pt Ls k)) i).length uc) (dirsK (fun k=>m.dirV (pt Ls k)) i))/\Hid (Cells wr2 mb [.int .i64 m.a0,.int .i64 m.a1,.int .i64 m.a2,.int .i64 m.a3,.int .i64 m.a4,.int .i64 m.a5,.int .i64 m.a6,.int .i64 m.a7,.int .i64 m.a8])/\gk <= 20/\Hid (longF gk q = Pt.long ⟨px,py,pz⟩)/\Hid (q.big (20 - gk)))
      case atStart=>exact ⟨⟨px,py,pz⟩,rfl,HBX,HWS,HMB,Nat.le_refl _,HLO.out.symm,HB0⟩
      case round =>
       clear HBX HWS HMB HB0 HLO
       obtain ⟨q,rfl,b0,hW,hM,hg,HF,HI⟩:=hrel
       have hG:Hid _:=hg
       clear hg
       cases hq:q.inB 524288 with
       | false =>
        have E9:Hid (q = Pt.long ⟨px,py,pz⟩):=by show _ = _;rw [<- HF.out];cases gk <;> simp [longF,hq]
        clear HF HI
        go_wp2_with (fail)
        go_meet
        case rel=>exact ⟨q,E9.out,b0,hW,hM⟩
       | true =>
        have h1g:=big_lt hq HI.out
        obtain ⟨g',hg'⟩:∃ g',gk = g' + 1:=⟨gk - 1,by omega⟩
        subst hg'
        obtain ⟨s1,s2,s3⟩:=long_step hq HI.out hG.out
        obtain ⟨x2,y2,z2,e1,e2,e3,e4⟩:=plus_two q
        have HJ:Hid (longF g' ⟨x2,y2,z2⟩ = Pt.long ⟨px,py,pz⟩/\Pt.big ⟨x2,y2,z2⟩ (20 - g')):=by show _/\_;rw [<- e1,<- s1];exact ⟨HF.out,s2⟩
        have hnz:=big_nz HI.out
        have HI2:Hid _:=HIN.out ⟨x2,y2,z2⟩ 524288 (by decide)
        unfold Pt.v at HI2
        dsimp only at HI2
        clear HF HI s1 s2 s3 e1 h1g hq
        obtain ⟨c0,c1,c2,f0,f1,f2⟩:=b0.out
        go_upto_region 10 with fail
        go_cut [39] from 34 to 39 (fun s39 wx=>s39 = .bool true/\wx = wr)
        case first =>
         clear HI2 hW hM b0 HJ e2 e3 e4
         go_wp2_with (fail)
         all_goals first
          | (exfalso;exact hnz (by assumption) (by assumption) (by assumption))
          | (go_meet;case rel=>exact ⟨rfl,rfl⟩)
        case rest =>
         obtain ⟨rfl,e9⟩:=hcut
         subst e9
         clear hnz
         have hM9:Hid _:=Cells.put3w hM.out hpm x2 y2 z2
         have hW9:Hid _:=hW.out.set3 hpw HUP.out x2 y2 z2
         have b9:Hid _:=b0.out.set x2 y2 z2
         clear b0 hM hW
         go_wp2_with (fail)
         refine Calls.mono (HI2.out _) ?_
         clear c0 c1 c2 f0 f1 f2
         clear HI2
         rintro e V4 ⟨rfl,hb⟩
         have b9:Hid _:=b9.out.step hb
         have hW9:Hid _:=hW9.out.step hb
         have hM9:Hid _:=Cells.step hM9.out hb
         clear hb
         go_wp2_with (fail)
         go_roundg g'
         case rel=>exact ⟨⟨x2,y2,z2⟩,rfl,b9,hW9,hM9,by have:=hG.out;omega,HJ.out.1,HJ.out.2⟩
         case measure=>omega
    case rest =>
     obtain ⟨q,e9,HPB,HWS,HMB⟩:=hcut
     obtain ⟨V,hV⟩:∃ V,V = wc:=⟨_,rfl⟩
     rw [<- hV] at HPB HWS HMB ⊢
     clear hV
     have HLM:Hid (∀ {X:World} {u:Value} {g2:Bool} {M2:List Pt},WS w (mb + 1) X wb g2 u M2->dirsK (fun k=>m.dirV (pt Ls k)) (i + 1) = M2->Cells X mb [.int .i64 m.a0,.int .i64 m.a1,.int .i64 m.a2,.int .i64 m.a3,.int .i64 m.a4,.int .i64 m.a5,.int .i64 m.a6,.int .i64 m.a7,.int .i64 m.a8]->g2 = (f || anyK (fun k=>m.dirB (pt Ls k)) (i + 1))->∃ (i2:Nat) (g:Bool) (u2:Value),(Value.int .i64 ((i + 1:Nat):Int)) = .int .i64 (i2:Int)/\u = u2/\i2 <= Ls.length/\Ls.length - (i + 1) = Ls.length - i2/\Hid (WS w (mb + 1) X wb g u2 (dirsK (fun k=>m.dirV (pt Ls k)) i2))/\Hid (Cells X mb [.int .i64 m.a0,.int .i64 m.a1,.int .i64 m.a2,.int .i64 m.a3,.int .i64 m.a4,.int .i64 m.a5,.int .i64 m.a6,.int .i64 m.a7,.int .i64 m.a8])/\Hid (g = (f || anyK (fun k=>m.dirB (pt Ls k)) i2))/\Hid (∀ j,j < i2->(pt Ls j).inB 1048576 = true)):=by
      intro X u g2 M2 h1 h2 h3 h4
      exact ⟨i + 1,g2,u,rfl,rfl,by omega,rfl,by rw [h2];exact h1,h3,h4,HAL1.out hin⟩
     obtain ⟨M,hM⟩:∃ M,M = dirsK (fun k=>m.dirV (pt Ls k)) i:=⟨_,rfl⟩
     rw [<- hM] at HWS HUP HK1 hlm ⊢
     clear hM
     obtain ⟨u,hu⟩:∃ u,u = Value.slice uo M.length uc:=⟨_,rfl⟩
     rw [<- hu] at HWS HUP ⊢
     have HU:Hid _:=hu
     clear hu
     obtain ⟨nq,hn⟩:∃ n,n = q.times 4096:=⟨_,rfl⟩
     obtain ⟨vq,hvq⟩:∃ v,v = (m.turn nq).getD Pt.O:=⟨_,rfl⟩
     obtain ⟨bd,hbd⟩:∃ b,b = (m.turn nq).isNone:=⟨_,rfl⟩
     have HDP:Hid (m.dirV ⟨px,py,pz⟩ = (vq.quo 4096).short/\m.dirB ⟨px,py,pz⟩ = bd):=by
      show _/\_
      rw [HDV.out,(HDT.out _).1,(HDT.out _).2,<- e9,<- hn,<- hvq,<- hbd];exact ⟨rfl,rfl⟩
     have HTI:Hid _:=fun w'=>rtimes6_any q 4096 w'
     have HTU:Hid _:=fun (w':World) (g:Bool)=>HTU0.out nq w' g
     rw [<- hn] at HTI
     rw [<- hvq,<- hbd] at HTU
     have HSH:Hid _:=fun w'=>rshort_any (vq.quo 4096) w'
     rw [<- HDP.out.1] at HSH
     have hwV:wb < V.heap.size:=World.block_lt_of_cell? _ _ HWS.out.fl
     have hpn:pb ≠ wb:=by omega
     have HUV:Hid (∀ b,u.ownBlock = some b->b < V.heap.size):=fun b e=>(HWS.out.own.lt b e).2
     have hmV:mb < V.heap.size:=Cells.lt HMB.out
     have hpV:pb < V.heap.size:=HPB.out.lt
     have hsV:w.heap.size <= V.heap.size:=HWS.out.lv.size
     clear hn hvq hbd e9
     obtain ⟨sp,hsp⟩:∃ s,s = m.dirV ⟨px,py,pz⟩:=⟨_,rfl⟩
     rw [<- hsp] at HSH HK1
     rw [HDP.out.2] at HK2
     clear HDP hsp HDV HDT HTU0 HIN HCL HNE
     rw [show vq.quo 4096 = ⟨wrap64 (vq.x.tdiv 4096),wrap64 (vq.y.tdiv 4096),wrap64 (vq.z.tdiv 4096)⟩ from rfl] at HSH
     obtain ⟨qx,qy,qz⟩:=q
     obtain ⟨nx,ny,nz⟩:=nq
     obtain ⟨vx,vy,vz⟩:=vq
     unfold Pt.v at HTI HTU HSH
     unfold M9.v at HTU
     dsimp only at HTI HTU HSH
     go_upto_region 13 with fail
     go_cut [13] from 52 to 56 (fun s13 wx=>∃ b3,s13 = .pointer (some ⟨b3,0,none⟩)/\Hid (WS w (mb + 1) wx wb (g || bd) u M)/\Hid (Cells wx mb [.int .i64 m.a0,.int .i64 m.a1,.int .i64 m.a2,.int .i64 m.a3,.int .i64 m.a4,.int .i64 m.a5,.int .i64 m.a6,.int .i64 m.a7,.int .i64 m.a8])/\Cells wx b3 [.int .i64 vx,.int .i64 vy,.int .i64 vz])
     case first =>
      obtain ⟨wO,rfl⟩:∃ wO,wO = w:=⟨_,rfl⟩
      refine RV.rs [.some (.pointer (some ⟨wb,0,none⟩)),.some (.agg #[.int .i64 m.a0,.int .i64 m.a1,.int .i64 m.a2,.int .i64 m.a3,.int .i64 m.a4,.int .i64 m.a5,.int .i64 m.a6,.int .i64 m.a7,.int .i64 m.a8]),.some (.agg #[.int .i64 qx,.int .i64 qy,.int .i64 qz]),.some (.agg #[.int .i64 nx,.int .i64 ny,.int .i64 nz]),.some (.agg #[.int .i64 vx,.int .i64 vy,.int .i64 vz]),none,none] [53,54,55,56,57,14,0] [(0,.pointer (some ⟨wb,0,none⟩)),(4,.pointer (some ⟨mb,0,none⟩)),(11,.pointer (some ⟨pb,0,none⟩))] (fun γ L w9=>WS wO (mb + 1) w9 wb (g || (L 4 && bd)) u M/\Cells w9 mb [.int .i64 m.a0,.int .i64 m.a1,.int .i64 m.a2,.int .i64 m.a3,.int .i64 m.a4,.int .i64 m.a5,.int .i64 m.a6,.int .i64 m.a7,.int .i64 m.a8]/\Box3 w9 pb ⟨qx,qy,qz⟩/\RV.Pend V 27 5 6 #[.int .i64 vx,.int .i64 vy,.int .i64 vz] γ L w9/\V.heap.size <= w9.heap.size) ⟨rfl,rfl,rfl,trivial⟩ ?_ ?_ ?_
      ·have b9:Below V.heap.size V V.drew:=(Below.refl _ _).drew;simp only [Bool.false_and,Bool.or_false];exact ⟨HWS.out.step b9,HMB.out.step b9,HPB.out.step b9,RV.Pend.start rfl,Nat.le_refl _⟩
      ·intro D WA Z hD hWA hZ T
       simp only [RV.Outs,RV.Slots,Nat.reduceAdd] at T
       iterate 3 first
        | (refine RV.cc _ (RV.pu T (fun γ v L w hl h=>⟨by rw [RV.mn (L:=L) (i:=_) (j:=4) (by decide)];exact h.1,h.2.1,h.2.2.1,h.2.2.2.1.other v (by decide) (by decide),h.2.2.2.2⟩) (fun γ L a w hH hl h9 k9=>⟨_,?_,rfl⟩)) ?_;· simp [execOp,go_sem,h9])
        | (refine RV.cc _ (RV.pu T (fun γ v L w hl h=>⟨by rw [RV.mn (L:=L) (i:=_) (j:=4) (by decide)];exact h.1,h.2.1,h.2.2.1,h.2.2.2.1.other v (by decide) (by decide),h.2.2.2.2⟩) (fun γ L a w hH hl h9 k9=>⟨_,?_,rfl⟩)) ?_;· have wz0:=(hH.glob.2.1 0 _ rfl).1;have wz1:=(hH.glob.2.1 1 _ rfl).1;have wz2:=(hH.glob.2.1 2 _ rfl).1;have wz3:=(hH.glob.2.1 3 _ rfl).1;have wz4:=(hH.glob.2.1 4 _ rfl).1;have wz5:=(hH.glob.2.1 5 _ rfl).1;have wz6:=(hH.glob.2.1 6 _ rfl).1;have wz7:=(hH.glob.2.1 7 _ rfl).1;have wz8:=(hH.glob.2.1 8 _ rfl).1;simp [execOp,go_sem,h9,wz0,wz1,wz2,wz3,wz4,wz5,wz6,wz7,wz8])
        | (refine RV.cc _ (RV.pu T (fun γ v L w hl h=>⟨by rw [RV.mn (L:=L) (i:=_) (j:=4) (by decide)];exact h.1,h.2.1,h.2.2.1,h.2.2.2.1.other v (by decide) (by decide),h.2.2.2.2⟩) (fun γ L a w hH hl h9 k9=>⟨_,?_,rfl⟩)) ?_;· have wz0:=hH.glob.2.2.1.c0;have wz1:=hH.glob.2.2.1.c1;have wz2:=hH.glob.2.2.1.c2;simp [execOp,go_sem,h9,wz0,wz1,wz2])
       refine RV.cc _ (RV.dc (fun γ L a w hH hl hA=>by have h9:=T γ L a w hH;have k9:=hA;simp [Region.binds] at k9;refine ⟨55,#[.agg #[.int .i64 qx,.int .i64 qy,.int .i64 qz],.int .i64 4096],by simp [go_sem,h9,k9],Calls.mono (HTI.out w) ?_⟩;rintro e w2 ⟨rfl,hb⟩;have hG:=hH.glob;exact ⟨_,rfl,rfl,fun j v _ h=>h.keep _,by rw [RV.mn (L:=L) (i:=3) (j:=4) (by decide)];exact hG.1.step hb,hG.2.1.step hb,hG.2.2.1.step hb,(hG.2.2.2.1.below hb).other _ (by decide) (by decide),Nat.le_trans hG.2.2.2.2 hb.size⟩)) ?_
       refine RV.cc _ (RV.dc (fun γ L a w hH hl hA=>by have h9:=T γ L a w hH;have k9:=hA;simp [Region.binds] at k9;have hG:=hH.glob;rw [hl] at hG;refine ⟨54,#[.pointer (some ⟨wb,0,none⟩),.agg #[.int .i64 m.a0,.int .i64 m.a1,.int .i64 m.a2,.int .i64 m.a3,.int .i64 m.a4,.int .i64 m.a5,.int .i64 m.a6,.int .i64 m.a7,.int .i64 m.a8],.agg #[.int .i64 nx,.int .i64 ny,.int .i64 nz]],by simp [go_sem,h9,k9],Calls.mono (HTU.out w _ hG.1.fl hG.1.ff) ?_⟩;rintro e w2 ⟨rfl,A⟩;have A9:=A.out;exact ⟨_,rfl,rfl,fun j v _ h=>h.keep _,by rw [RV.more_self];have h8:=hG.1.after A9;simpa using h8,hG.2.1.beside A9 hmw,hG.2.2.1.after A9 hpn,(hG.2.2.2.1.after A9 hwV).other _ (by decide) (by decide),Nat.le_trans hG.2.2.2.2 A9.size⟩)) ?_
       refine RV.cc _ (RV.does_step (fun γ L a w hH hl hA=>by have hG:=hH.glob;have h12:L 6 = false:=RV.ny hH (RV.wt (j:=6) (i:=5) hWA (by kernel_rfl)) hl;exact ⟨.pointer (some ⟨w.heap.size,0,none⟩),w.alloc (.cells #[.int .i64 0,.int .i64 0,.int .i64 0] 27),by simp [execOp,go_sem],trivial,fun j v _ h=>h.keep _,by rw [RV.mn (L:=L) (i:=5) (j:=4) (by decide)];exact hG.1.step (n_after _ _),hG.2.1.step (n_after _ _),hG.2.2.1.step (n_after _ _),RV.Pend.made _ rfl hG.2.2.2.2 h12 (by decide),by rw [World.size_alloc];have h8:=hG.2.2.2.2;omega⟩)) ?_
       refine RV.cc _ (RV.does_store (fun γ L a w hH hl hA=>by have h9:=T γ L a w hH;have k9:=hA;simp [Region.binds] at k9;have l0:L 5 = true:=hA ⟨5,.data⟩ (by simp) rfl;have e0:=hH.slot 5 13 (by rw [<- hD];rfl) l0;have hG:=hH.glob;obtain ⟨b,cs,hb1,hb2,hb3,hb4,_⟩:=hG.2.2.2.1 l0;rw [hb1] at e0;obtain ⟨u0,u1,u2,rfl⟩:=arr3' hb4;have wz0:w.cell? ⟨b,0,none⟩ = some u0:=(by simp [World.cell?,hb3]);have wz1:w.cell? ⟨b,1,none⟩ = some u1:=(by simp [World.cell?,hb3]);have wz2:w.cell? ⟨b,2,none⟩ = some u2:=(by simp [World.cell?,hb3]);have zf:∀ o,w.frozen? ⟨b,o,none⟩ = false:=fun o=>(by simp [World.frozen?,hb3]);have n1:mb ≠ b:=(by omega);have n2:b ≠ pb:=(by omega);have n5:u.ownBlock ≠ some b:=(fun e=>by have h7:=HUV.out b e;omega);exact ⟨(((w.setCell ⟨b,0,none⟩ (.int .i64 vx)).setCell ⟨b,1,none⟩ (.int .i64 vy)).setCell ⟨b,2,none⟩ (.int .i64 vz)),by simp [execOp,go_sem,e0,wz0,wz1,wz2,zf,h9,k9],trivial,fun j v _ h=>h.keep _,by rw [RV.mn (L:=L) (i:=6) (j:=4) (by decide)];exact hG.1.set3 (by omega) n5 vx vy vz,((Cells.apart hG.2.1 n1 0 _).apart n1 1 _).apart n1 2 _,hG.2.2.1.other n2 vx vy vz,RV.Pend.filled hb1 hb2 (by have q0:=Go.heap_setCell_same w b 0 _ _ (.int .i64 vx) hb3;have q1:=Go.heap_setCell_same _ b 1 _ _ (.int .i64 vy) q0;have q2:=Go.heap_setCell_same _ b 2 _ _ (.int .i64 vz) q1;simpa using q2) (by decide) _,by have h8:=hG.2.2.2.2;simpa [World.setCell] using h8⟩)) ?_
       exact RV.AllDo.nil
      ·intro γ w5 L9 hL hI9 hG9
       have hG:=hG9
       rw [hL 4 (by decide)] at hG
       obtain ⟨b3,cs,hb1,hb2,hb3,_,hb5⟩:=hG.2.2.2.1 (hL 5 (by decide))
       rw [hb5 (hL 6 (by decide))] at hb3
       clear hL hb5 hI9 hG9
       simp only [RV.putL,Act.put,List.setIfInBounds_toArray,List.set_cons_zero,List.set_cons_succ,Nat.reduceAdd]
       rw [hb1]
       have C3:Cells w5 b3 [.int .i64 vx,.int .i64 vy,.int .i64 vz]:=fun i v e=>⟨by simp [World.cell?,hb3];exact e,by simp [World.frozen?,hb3]⟩
       have HW9:Hid (WS wO (mb + 1) w5 wb (g || bd) u M):=by show WS _ _ _ _ _ _ _;have h9:=hG.1;simpa using h9
       have HM9:Hid (Cells w5 mb [.int .i64 m.a0,.int .i64 m.a1,.int .i64 m.a2,.int .i64 m.a3,.int .i64 m.a4,.int .i64 m.a5,.int .i64 m.a6,.int .i64 m.a7,.int .i64 m.a8]):=hG.2.1
       clear hG hb1 hb3
       go_wp2_with (fail)
       go_meet
       case rel=>exact ⟨b3,rfl,HW9,HM9,C3⟩
     case rest =>
      clear HWS HMB HPB HTI HTU HUV
      obtain ⟨b3,rfl,HWS,HMB,C3⟩:=hcut
      obtain ⟨c0,d0⟩:=C3 0 _ rfl
      obtain ⟨c1,d1⟩:=C3 1 _ rfl
      obtain ⟨c2,d2⟩:=C3 2 _ rfl
      clear C3
      go_wp2_with (fail)
      refine Calls.mono (HSH.out _) ?_
      rintro e V5 ⟨rfl,hb⟩
      have HWS:Hid _:=HWS.out.step hb
      have HMB:Hid _:=Cells.step HMB.out hb
      clear hb HSH c0 d0 c1 d1 c2 d2
      obtain ⟨sx,sy,sz⟩:=sp
      dsimp only
      go_upto_region 15 with fail
      obtain ⟨V6,hV6⟩:∃ X,X = V5.alloc (.cells #[.int .i64 sx,.int .i64 sy,.int .i64 sz] 23):=⟨_,rfl⟩
      obtain ⟨nb,hnb⟩:∃ b,b = V5.heap.size:=⟨_,rfl⟩
      have HB6:Hid (Box3 V6 nb ⟨sx,sy,sz⟩):=by show Box3 _ _ _;rw [hV6,hnb];exact Box3.new V5 sx sy sz _
      have HWS:Hid (WS w (mb + 1) V6 wb (g || bd) u M):=by show WS _ _ _ _ _ _ _;rw [hV6];exact HWS.out.step (n_after _ _)
      have HMB:Hid (Cells V6 mb [.int .i64 m.a0,.int .i64 m.a1,.int .i64 m.a2,.int .i64 m.a3,.int .i64 m.a4,.int .i64 m.a5,.int .i64 m.a6,.int .i64 m.a7,.int .i64 m.a8]):=by show Cells _ _ _;rw [hV6];exact Cells.step HMB.out (n_after _ _)
      rw [<- hV6,<- hnb]
      clear hV6 hnb
      have HGD:Hid ((g || bd) = (f || anyK (fun k=>m.dirB (pt Ls k)) (i + 1))):=by show _ = _;rw [HK2.out,HGB.out,Bool.or_assoc]
      have hu:=HU.out
      subst hu
      obtain ⟨c0,c1,c2,f0,f1,f2⟩:=HB6.out
      dsimp only at c0 c1 c2
      by_cases hz:(⟨sx,sy,sz⟩:Pt) = Pt.O
      ·have HK:Hid (dirsK (fun k=>m.dirV (pt Ls k)) (i + 1) = M):=by show _ = _;rw [HK1.out,if_pos hz]
       simp only [Pt.O,Pt.mk.injEq] at hz
       obtain ⟨rfl,rfl,rfl⟩:=hz
       go_wp2_with (fail)
       go_roundg (Ls.length - (i + 1))
       case rel=>exact HLM.out HWS.out HK.out HMB.out HGD.out
       case measure=>have:=HG1.out;omega
      ·have HK:Hid (dirsK (fun k=>m.dirV (pt Ls k)) (i + 1) = M ++ [⟨sx,sy,sz⟩]):=by show _ = _;rw [HK1.out,if_neg hz]
       have hnz:sx = 0->sy = 0->¬ sz = 0:=fun a b c=>hz (by rw [a,b,c];rfl)
       clear hz
       go_cut [70] from 67 to 70 (fun s70 wx=>s70 = .bool true/\wx = V6)
       case first =>
        clear HWS HMB HB6 HK HGD HLM HK1 HK2
        go_wp2_with (fail)
        all_goals first
         | (exfalso;exact hnz (by assumption) (by assumption) (by assumption))
         | (go_meet;case rel=>exact ⟨rfl,rfl⟩)
       case rest =>
        obtain ⟨rfl,e9⟩:=hcut
        subst e9
        clear hnz
        have HUM:Hid (∀ r,(Value.slice uo M.length uc).ownBlock = some r->r ≠ mb):=fun r e=>by have:=(HWS.out.own.lt r e).1;omega
        have hs6:mb + 1 <= wc.heap.size:=by have:=Cells.lt HMB.out;omega
        go_wp2_with (at_builtin;refine wpList_append_own _ rfl _ _ 24 rfl (mb + 1) 23 i0 _ 3 24 Tryz.underlying24 HI.out.1 HI.out.2.1 HI.out.2.2.1 HI.out.2.2.2 rfl (by decide) _ _ _ rfl (HWS.out.step (n_after _ (.cells #[.int .i64 sx,.int .i64 sy,.int .i64 sz] 23))).own ⟨wc.heap.size,0,none⟩ 1 1 [.int .i64 sx,.int .i64 sy,.int .i64 sz] rfl rfl (news_at (heap_alloc_new wc _)) (by intro u hu;simp at hu;rcases hu with rfl | rfl | rfl <;> rfl) (by unfold maxLen;omega) (by omega) (by simp;omega) ?_;intro u9 V2 r8 g8 _;obtain ⟨gg8,kk8,rfl⟩:=ownsRow_succ r8;have HWS2:Hid _:=(HWS.out.step (n_after _ _)).app (p:=⟨sx,sy,sz⟩) r8 g8;have HMB2:Hid _:=(Cells.step HMB.out (n_after _ _)).grew g8 HUM.out;clear r8 g8 c0 c1 c2 f0 f1 f2 HWS HMB HB6)
        go_roundg (Ls.length - (i + 1))
        case rel=>exact HLM.out HWS2.out HK.out HMB2.out HGD.out
        case measure=>have:=HG1.out;omega
  ·obtain rfl:i = Ls.length:=by omega
   have e9:dirsK (fun k=>m.dirV (pt Ls k)) Ls.length = m.dirs Ls:=by unfold dirsK M9.dirs;rw [firsts_map]
   go_wp2_with (fail)
   refine bodyPost_ret (v:=.tuple #[.slice uo (dirsK (fun k=>m.dirV (pt Ls k)) Ls.length).length uc,.bool true]) (by simp [results,Tryz.results57,go_sem]) rfl ?_
   refine Or.inl ⟨_,fun q hq=>?_,rfl,?_⟩
   ·obtain ⟨j,hj,e⟩:=pt_of_mem hq
    rw [<- e];exact HAL.out j hj
   ·have h9:=HWS.out
    rw [HGB.out,anyK_any] at h9
    rw [<- e9]
    exact h9.le
end
end Go.Proofs.YtlhhmiicpddjoaaGreat
