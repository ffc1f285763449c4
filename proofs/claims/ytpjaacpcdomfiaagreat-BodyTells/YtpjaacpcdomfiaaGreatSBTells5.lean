/- Package vec's turning of a vector by a matrix. -/
import Derived.Test.YtpjaacpcdomfiaaGreatSBTells4
import Derived.Test.YtpjaacpcdomfiaaGreatSBTells3
set_option maxHeartbeats 4000000
set_option maxRecDepth 100000
set_option linter.unusedVariables false
namespace Go.Proofs.YtpjaacpcdomfiaaGreat
section
open Go.RowKit Fx
theorem turn_step {f:Bool} {a b c:Option Int} {bd:Bool} (hb:bd = (a.isNone || (b.isNone || c.isNone))):Step3 f a b c (cond bd 0 (a.getD 0)) (cond bd 0 (b.getD 0)) (cond bd 0 (c.getD 0)) (f || bd):=by
 rw [<- Bool.or_assoc] at hb
 rw [hb]
 exact ⟨rfl,rfl,rfl,rfl⟩
def turn_bad (b off:Nat) (f:Bool) (pm pa pr po:Nat) (m0 m1 m2 m3 m4 m5 m6 m7 m8 x0 x1 x2:Int) (W U:World):Bool:=false || ([(4,(dot [m0,m1,m2] [x0,x1,x2]).isNone),(8,(dot [m3,m4,m5] [x0,x1,x2]).isNone),(12,(dot [m6,m7,m8] [x0,x1,x2]).isNone)]:List (Nat × Bool)).any (·.2)
def turn_sh (b off:Nat) (f:Bool) (pm pa pr po:Nat) (m0 m1 m2 m3 m4 m5 m6 m7 m8 x0 x1 x2:Int) (W U:World):Nat->Shape
 | 0=>.is (.pointer (some ⟨b,off,none⟩))
 | 1=>.is (.pointer (some ⟨pm,0,none⟩))
 | 2=>.is (.agg #[.int .i64 m0,.int .i64 m1,.int .i64 m2])
 | 3=>.is (.agg #[.int .i64 x0,.int .i64 x1,.int .i64 x2])
 | 4=>.is (.int .i64 ((dot [m0,m1,m2] [x0,x1,x2]).getD 0))
 | 5=>.is (.pointer (some ⟨pm,3,none⟩))
 | 6=>.is (.agg #[.int .i64 m3,.int .i64 m4,.int .i64 m5])
 | 7=>.is (.agg #[.int .i64 x0,.int .i64 x1,.int .i64 x2])
 | 8=>.is (.int .i64 ((dot [m3,m4,m5] [x0,x1,x2]).getD 0))
 | 9=>.is (.pointer (some ⟨pm,6,none⟩))
 | 10=>.is (.agg #[.int .i64 m6,.int .i64 m7,.int .i64 m8])
 | 11=>.is (.agg #[.int .i64 x0,.int .i64 x1,.int .i64 x2])
 | 12=>.is (.int .i64 ((dot [m6,m7,m8] [x0,x1,x2]).getD 0))
 | 13=>.is (.agg #[.int .i64 ((dot [m0,m1,m2] [x0,x1,x2]).getD 0),.int .i64 ((dot [m3,m4,m5] [x0,x1,x2]).getD 0),.int .i64 ((dot [m6,m7,m8] [x0,x1,x2]).getD 0)])
 | 14=>.is (.agg #[.int .i64 (cond (turn_bad b off f pm pa pr po m0 m1 m2 m3 m4 m5 m6 m7 m8 x0 x1 x2 W U) 0 ((dot [m0,m1,m2] [x0,x1,x2]).getD 0)),.int .i64 (cond (turn_bad b off f pm pa pr po m0 m1 m2 m3 m4 m5 m6 m7 m8 x0 x1 x2 W U) 0 ((dot [m3,m4,m5] [x0,x1,x2]).getD 0)),.int .i64 (cond (turn_bad b off f pm pa pr po m0 m1 m2 m3 m4 m5 m6 m7 m8 x0 x1 x2 W U) 0 ((dot [m6,m7,m8] [x0,x1,x2]).getD 0))])
 | 15=>.ptr
 | _=>.ptr
def turn_plan (b off:Nat) (f:Bool) (pm pa pr po:Nat) (m0 m1 m2 m3 m4 m5 m6 m7 m8 x0 x1 x2:Int) (W U:World):Plan where
 W:=W
 N:=U.heap.size
 p:=⟨b,off,none⟩
 fl:=⟨po,0,none⟩
 g0:=false
 bad:=turn_bad b off f pm pa pr po m0 m1 m2 m3 m4 m5 m6 m7 m8 x0 x1 x2 W U
 f:=f
 calls:=[(4,(dot [m0,m1,m2] [x0,x1,x2]).isNone),(8,(dot [m3,m4,m5] [x0,x1,x2]).isNone),(12,(dot [m6,m7,m8] [x0,x1,x2]).isNone)]
 tl:=14
 st:=15
 r:=pr
 res:=[.int .i64 (cond (turn_bad b off f pm pa pr po m0 m1 m2 m3 m4 m5 m6 m7 m8 x0 x1 x2 W U) 0 ((dot [m0,m1,m2] [x0,x1,x2]).getD 0)),.int .i64 (cond (turn_bad b off f pm pa pr po m0 m1 m2 m3 m4 m5 m6 m7 m8 x0 x1 x2 W U) 0 ((dot [m3,m4,m5] [x0,x1,x2]).getD 0)),.int .i64 (cond (turn_bad b off f pm pa pr po m0 m1 m2 m3 m4 m5 m6 m7 m8 x0 x1 x2 W U) 0 ((dot [m6,m7,m8] [x0,x1,x2]).getD 0))]
 fixed:=[(⟨pm,0,none⟩,.int .i64 m0),
  (⟨pm,1,none⟩,.int .i64 m1),
  (⟨pm,2,none⟩,.int .i64 m2),
  (⟨pm,3,none⟩,.int .i64 m3),
  (⟨pm,4,none⟩,.int .i64 m4),
  (⟨pm,5,none⟩,.int .i64 m5),
  (⟨pm,6,none⟩,.int .i64 m6),
  (⟨pm,7,none⟩,.int .i64 m7),
  (⟨pm,8,none⟩,.int .i64 m8),
  (⟨pa,0,none⟩,.int .i64 x0),
  (⟨pa,1,none⟩,.int .i64 x1),
  (⟨pa,2,none⟩,.int .i64 x2)]
 made:=[]
theorem turn_cn (b off:Nat) (f:Bool) (pm pa pr po:Nat) (m0 m1 m2 m3 m4 m5 m6 m7 m8 x0 x1 x2:Int) (W U:World):((turn_plan b off f pm pa pr po m0 m1 m2 m3 m4 m5 m6 m7 m8 x0 x1 x2 W U).calls.map (·.1)).Nodup:=of_decide_eq_true rfl
theorem turn_bads (b off:Nat) (f:Bool) (pm pa pr po:Nat) (m0 m1 m2 m3 m4 m5 m6 m7 m8 x0 x1 x2:Int) (W U:World):((turn_plan b off f pm pa pr po m0 m1 m2 m3 m4 m5 m6 m7 m8 x0 x1 x2 W U).bad = true->(turn_plan b off f pm pa pr po m0 m1 m2 m3 m4 m5 m6 m7 m8 x0 x1 x2 W U).g0 = true \/ ∃ c ∈ (turn_plan b off f pm pa pr po m0 m1 m2 m3 m4 m5 m6 m7 m8 x0 x1 x2 W U).calls,c.2 = true)/\∀ c ∈ (turn_plan b off f pm pa pr po m0 m1 m2 m3 m4 m5 m6 m7 m8 x0 x1 x2 W U).calls,c.2 = true->(turn_plan b off f pm pa pr po m0 m1 m2 m3 m4 m5 m6 m7 m8 x0 x1 x2 W U).bad = true:=
 bad_any_of _ rfl
theorem vturn_law (b off:Nat) (f:Bool) (m0 m1 m2 m3 m4 m5 m6 m7 m8 x0 x1 x2:Int) (W:World) (hc:W.cell? ⟨b,off,none⟩ = some (.bool f)) (hf:W.frozen? ⟨b,off,none⟩ = false) :
  Calls Tryz.prog 55 #[.pointer (some ⟨b,off,none⟩),.agg #[.int .i64 m0,.int .i64 m1,.int .i64 m2,.int .i64 m3,.int .i64 m4,.int .i64 m5,.int .i64 m6,.int .i64 m7,.int .i64 m8],.agg #[.int .i64 x0,.int .i64 x1,.int .i64 x2]] W fun e W'=>∃ v0 v1 v2 g,e = .returned (.agg #[.int .i64 v0,.int .i64 v1,.int .i64 v2])/\Hid (Step3 f (dot [m0,m1,m2] [x0,x1,x2]) (dot [m3,m4,m5] [x0,x1,x2]) (dot [m6,m7,m8] [x0,x1,x2]) v0 v1 v2 g)/\Hid (After ⟨b,off,none⟩ g W W'):=by
 have hbW:b < W.heap.size:=World.block_lt_of_cell? _ _ hc
 go_enter Tryz.func55,Tryz.ntmps55
 go_wp2_with (fail)
 obtain ⟨U,hU⟩:∃ U,U = ((((W.alloc (.cells #[.int .i64 m0,.int .i64 m1,.int .i64 m2,.int .i64 m3,.int .i64 m4,.int .i64 m5,.int .i64 m6,.int .i64 m7,.int .i64 m8] 94)).alloc (.cells #[.int .i64 x0,.int .i64 x1,.int .i64 x2] 23)).alloc (.cells #[.int .i64 0,.int .i64 0,.int .i64 0] 23)).alloc (.cells #[.bool false] 42)):=⟨_,rfl⟩
 have hUs:U.heap.size = W.heap.size + 4:=by rw [hU];simp
 have HL:Hid (Leaves ⟨b,off,none⟩ W U):=by show Leaves _ _ _;rw [hU];exact (((((Leaves.refl _ _).alloc _).alloc _).alloc _).alloc _)
 have hp:U.cell? ⟨b,off,none⟩ = some (.bool f):=(by rw [hU,World.cell?_alloc_past _ _ _ (by simp;omega),World.cell?_alloc_past _ _ _ (by simp;omega),World.cell?_alloc_past _ _ _ (by simp;omega),World.cell?_alloc_past _ _ _ hbW];exact hc)
 have hpf:U.frozen? ⟨b,off,none⟩ = false:=by rw [hU,((new_after _ _).frozen (by simp;omega)),((new_after _ _).frozen (by simp;omega)),((new_after _ _).frozen (by simp;omega)),((new_after _ _).frozen hbW)];exact hf
 have ho:U.cell? ⟨W.heap.size + 1 + 1 + 1,0,none⟩ = some (.bool false):=by rw [hU];simp [go_sem]
 have hof:U.frozen? ⟨W.heap.size + 1 + 1 + 1,0,none⟩ = false:=by rw [hU];simp [go_sem]
 have k0_0:U.cell? ⟨W.heap.size,0,none⟩ = some (.int .i64 m0):=by rw [hU];simp [go_sem]
 have k0_1:U.cell? ⟨W.heap.size,1,none⟩ = some (.int .i64 m1):=by rw [hU];simp [go_sem]
 have k0_2:U.cell? ⟨W.heap.size,2,none⟩ = some (.int .i64 m2):=by rw [hU];simp [go_sem]
 have k0_3:U.cell? ⟨W.heap.size,3,none⟩ = some (.int .i64 m3):=by rw [hU];simp [go_sem]
 have k0_4:U.cell? ⟨W.heap.size,4,none⟩ = some (.int .i64 m4):=by rw [hU];simp [go_sem]
 have k0_5:U.cell? ⟨W.heap.size,5,none⟩ = some (.int .i64 m5):=by rw [hU];simp [go_sem]
 have k0_6:U.cell? ⟨W.heap.size,6,none⟩ = some (.int .i64 m6):=by rw [hU];simp [go_sem]
 have k0_7:U.cell? ⟨W.heap.size,7,none⟩ = some (.int .i64 m7):=by rw [hU];simp [go_sem]
 have k0_8:U.cell? ⟨W.heap.size,8,none⟩ = some (.int .i64 m8):=by rw [hU];simp [go_sem]
 have k1_0:U.cell? ⟨W.heap.size + 1,0,none⟩ = some (.int .i64 x0):=by rw [hU];simp [go_sem]
 have k1_1:U.cell? ⟨W.heap.size + 1,1,none⟩ = some (.int .i64 x1):=by rw [hU];simp [go_sem]
 have k1_2:U.cell? ⟨W.heap.size + 1,2,none⟩ = some (.int .i64 x2):=by rw [hU];simp [go_sem]
 have rr0:U.cell? ⟨W.heap.size + 1 + 1,0,none⟩ = some (.int .i64 0):=by rw [hU];simp [go_sem]
 have rf0:U.frozen? ⟨W.heap.size + 1 + 1,0,none⟩ = false:=by rw [hU];simp [go_sem]
 have rr1:U.cell? ⟨W.heap.size + 1 + 1,1,none⟩ = some (.int .i64 0):=by rw [hU];simp [go_sem]
 have rf1:U.frozen? ⟨W.heap.size + 1 + 1,1,none⟩ = false:=by rw [hU];simp [go_sem]
 have rr2:U.cell? ⟨W.heap.size + 1 + 1,2,none⟩ = some (.int .i64 0):=by rw [hU];simp [go_sem]
 have rf2:U.frozen? ⟨W.heap.size + 1 + 1,2,none⟩ = false:=by rw [hU];simp [go_sem]
 rw [<- hU]
 clear hU hc hf
 obtain ⟨pm,hpm⟩:∃ p,p = W.heap.size:=⟨_,rfl⟩
 obtain ⟨pa,hpa⟩:∃ p,p = W.heap.size + 1:=⟨_,rfl⟩
 obtain ⟨pr,hpr⟩:∃ p,p = W.heap.size + 1 + 1:=⟨_,rfl⟩
 obtain ⟨po,hpo⟩:∃ p,p = W.heap.size + 1 + 1 + 1:=⟨_,rfl⟩
 rw [<- hpo] at ho hof
 rw [<- hpo]
 rw [<- hpr] at rr0 rf0 rr1 rf1 rr2 rf2
 rw [<- hpr]
 rw [<- hpa] at k1_0 k1_1 k1_2
 rw [<- hpa]
 rw [<- hpm] at k0_0 k0_1 k0_2 k0_3 k0_4 k0_5 k0_6 k0_7 k0_8
 rw [<- hpm]
 have q0:W.heap.size <= pm:=by omega
 have q1:pm < pa:=by omega
 have q2:pa < pr:=by omega
 have q3:pr < po:=by omega
 have q9:po < U.heap.size:=by omega
 clear hpm hpa hpr hpo hUs
 have hπ:(turn_plan b off f pm pa pr po m0 m1 m2 m3 m4 m5 m6 m7 m8 x0 x1 x2 W U).Good:=by
  refine good_of ?_ ?_ ?_ ?_ ?_ ?_ ?_ (turn_bads b off f pm pa pr po m0 m1 m2 m3 m4 m5 m6 m7 m8 x0 x1 x2 W U).1 (turn_bads b off f pm pa pr po m0 m1 m2 m3 m4 m5 m6 m7 m8 x0 x1 x2 W U).2
  ·show W.heap.size <= pr;omega
  ·show pr < U.heap.size;omega
  ·exact Or.inr (by show W.heap.size <= po;omega)
  ·show po < U.heap.size;omega
  ·show po ≠ pr;omega
  ·show b < W.heap.size;omega
  ·intro c hc
   simp only [turn_plan,List.mem_cons,List.not_mem_nil,or_false] at hc
   rcases hc with rfl | rfl | rfl | rfl | rfl | rfl | rfl | rfl | rfl | rfl | rfl | rfl <;> (show _ < U.heap.size/\_ ≠ po/\_ ≠ b/\_ ≠ pr) <;> (dsimp only) <;> omega
 refine region_by (shapeVal (turn_sh b off f pm pa pr po m0 m1 m2 m3 m4 m5 m6 m7 m8 x0 x1 x2 W U)) (Glob (turn_plan b off f pm pa pr po m0 m1 m2 m3 m4 m5 m6 m7 m8 x0 x1 x2 W U)) (by kernel_rfl) (by kernel_rfl) (by kernel_rfl) (by kernel_rfl) (fun _=>0) ?_ ?_ ?_
 ·refine ⟨?_,?_,?_,?_,?_,?_,(fun _ _ h=>by cases h),(fun _ _ _ _ h=>by cases h)⟩
  ·exact HL.out.drew
  ·exact Nat.le_refl _
  ·exact ⟨false,ho,hof,fun h=>by show turn_bad b off f pm pa pr po m0 m1 m2 m3 m4 m5 m6 m7 m8 x0 x1 x2 W U = true;simp [turn_bad,h],fun h=>h,fun _ _ h=>by cases h⟩
  ·refine Or.inr ⟨?_,hpf⟩
   show U.cell? ⟨b,off,none⟩ = some (.bool (f || (false && turn_bad b off f pm pa pr po m0 m1 m2 m3 m4 m5 m6 m7 m8 x0 x1 x2 W U)))
   rw [Bool.false_and,Bool.or_false];exact hp
  ·refine ⟨[.int .i64 0,.int .i64 0,.int .i64 0],rfl,?_,fun h=>by cases h⟩
   intro k v hk
   match k,hk with
   | 0,hk=>simp at hk;subst hk;exact ⟨rr0,rf0⟩
   | 1,hk=>simp at hk;subst hk;exact ⟨rr1,rf1⟩
   | 2,hk=>simp at hk;subst hk;exact ⟨rr2,rf2⟩
  ·intro c hc
   simp only [turn_plan,List.mem_cons,List.not_mem_nil,or_false] at hc
   rcases hc with rfl | rfl | rfl | rfl | rfl | rfl | rfl | rfl | rfl | rfl | rfl | rfl <;> assumption
 ·generalize hD:dstOf _ = D
  generalize hA:waitsFor _ = A
  generalize hZ:Act.mk _ _ = Z
  have d0:D 0 = some 8:=by rw [<- hD];rfl
  have d1:D 1 = some 9:=by rw [<- hD];rfl
  have d2:D 2 = some 10:=by rw [<- hD];rfl
  have d3:D 3 = some 11:=by rw [<- hD];rfl
  have d4:D 4 = some 12:=by rw [<- hD];rfl
  have d5:D 5 = some 13:=by rw [<- hD];rfl
  have d6:D 6 = some 14:=by rw [<- hD];rfl
  have d7:D 7 = some 15:=by rw [<- hD];rfl
  have d8:D 8 = some 16:=by rw [<- hD];rfl
  have d9:D 9 = some 17:=by rw [<- hD];rfl
  have d10:D 10 = some 18:=by rw [<- hD];rfl
  have d11:D 11 = some 19:=by rw [<- hD];rfl
  have d12:D 12 = some 20:=by rw [<- hD];rfl
  have d13:D 13 = some 21:=by rw [<- hD];rfl
  have d14:D 14 = some 22:=by rw [<- hD];rfl
  have R0:∀ (γ:Nat->Nat) (L:Nat->Bool) (a:Act) (w:World),Held D A (shapeVal (turn_sh b off f pm pa pr po m0 m1 m2 m3 m4 m5 m6 m7 m8 x0 x1 x2 W U)) (Glob (turn_plan b off f pm pa pr po m0 m1 m2 m3 m4 m5 m6 m7 m8 x0 x1 x2 W U)) Z γ L a w->a.tmps[0]? = some (.pointer (some ⟨b,off,none⟩)):=fun γ L a w hH=>(hH.rest 0 (by rw [<- hD];exact dst_free (by kernel_rfl))).trans (by rw [<- hZ];rfl)
  have R4:∀ (γ:Nat->Nat) (L:Nat->Bool) (a:Act) (w:World),Held D A (shapeVal (turn_sh b off f pm pa pr po m0 m1 m2 m3 m4 m5 m6 m7 m8 x0 x1 x2 W U)) (Glob (turn_plan b off f pm pa pr po m0 m1 m2 m3 m4 m5 m6 m7 m8 x0 x1 x2 W U)) Z γ L a w->a.tmps[4]? = some (.pointer (some ⟨pm,0,none⟩)):=fun γ L a w hH=>(hH.rest 4 (by rw [<- hD];exact dst_free (by kernel_rfl))).trans (by rw [<- hZ];rfl)
  have R5:∀ (γ:Nat->Nat) (L:Nat->Bool) (a:Act) (w:World),Held D A (shapeVal (turn_sh b off f pm pa pr po m0 m1 m2 m3 m4 m5 m6 m7 m8 x0 x1 x2 W U)) (Glob (turn_plan b off f pm pa pr po m0 m1 m2 m3 m4 m5 m6 m7 m8 x0 x1 x2 W U)) Z γ L a w->a.tmps[5]? = some (.pointer (some ⟨pa,0,none⟩)):=fun γ L a w hH=>(hH.rest 5 (by rw [<- hD];exact dst_free (by kernel_rfl))).trans (by rw [<- hZ];rfl)
  have R6:∀ (γ:Nat->Nat) (L:Nat->Bool) (a:Act) (w:World),Held D A (shapeVal (turn_sh b off f pm pa pr po m0 m1 m2 m3 m4 m5 m6 m7 m8 x0 x1 x2 W U)) (Glob (turn_plan b off f pm pa pr po m0 m1 m2 m3 m4 m5 m6 m7 m8 x0 x1 x2 W U)) Z γ L a w->a.tmps[6]? = some (.pointer (some ⟨pr,0,none⟩)):=fun γ L a w hH=>(hH.rest 6 (by rw [<- hD];exact dst_free (by kernel_rfl))).trans (by rw [<- hZ];rfl)
  have R7:∀ (γ:Nat->Nat) (L:Nat->Bool) (a:Act) (w:World),Held D A (shapeVal (turn_sh b off f pm pa pr po m0 m1 m2 m3 m4 m5 m6 m7 m8 x0 x1 x2 W U)) (Glob (turn_plan b off f pm pa pr po m0 m1 m2 m3 m4 m5 m6 m7 m8 x0 x1 x2 W U)) Z γ L a w->a.tmps[7]? = some (.pointer (some ⟨po,0,none⟩)):=fun γ L a w hH=>(hH.rest 7 (by rw [<- hD];exact dst_free (by kernel_rfl))).trans (by rw [<- hZ];rfl)
  have A_13_4:A 13 4:=by rw [<- hA];exact ⟨_,rfl,⟨4,.data⟩,by simp,rfl,rfl⟩
  have A_13_8:A 13 8:=by rw [<- hA];exact ⟨_,rfl,⟨8,.data⟩,by simp,rfl,rfl⟩
  have A_13_12:A 13 12:=by rw [<- hA];exact ⟨_,rfl,⟨12,.data⟩,by simp,rfl,rfl⟩
  clear hD hA hZ
  refine AllDo.cons 0 rfl (does_pure _ rfl rfl (fun γ L a w hH hA=>by have e1:=R0 γ L a w hH;simp [execOp,go_sem,e1])) ?_
  refine AllDo.cons 1 rfl (does_pure _ rfl rfl (fun γ L a w hH hA=>by have e1:=R4 γ L a w hH;simp [execOp,go_sem,e1])) ?_
  refine AllDo.cons 2 rfl (does_pure _ rfl rfl (fun γ L a w hH hA=>by have e1:=hH.at d1 rfl (hA ⟨1,.data⟩ (by simp) rfl);have e2:=hH.glob.fix (⟨pm,0,none⟩,.int .i64 m0) (by simp [turn_plan]);have e3:=hH.glob.fix (⟨pm,1,none⟩,.int .i64 m1) (by simp [turn_plan]);have e4:=hH.glob.fix (⟨pm,2,none⟩,.int .i64 m2) (by simp [turn_plan]);simp [execOp,go_sem,e1,e2,e3,e4])) ?_
  refine AllDo.cons 3 rfl (does_pure _ rfl rfl (fun γ L a w hH hA=>by have e1:=R5 γ L a w hH;have e2:=hH.glob.fix (⟨pa,0,none⟩,.int .i64 x0) (by simp [turn_plan]);have e3:=hH.glob.fix (⟨pa,1,none⟩,.int .i64 x1) (by simp [turn_plan]);have e4:=hH.glob.fix (⟨pa,2,none⟩,.int .i64 x2) (by simp [turn_plan]);simp [execOp,go_sem,e1,e2,e3,e4])) ?_
  refine AllDo.cons 4 rfl (does_call hπ _ ((dot [m0,m1,m2] [x0,x1,x2]).isNone) rfl (by simp [turn_plan]) (calls_only (turn_cn b off f pm pa pr po m0 m1 m2 m3 m4 m5 m6 m7 m8 x0 x1 x2 W U) (by simp [turn_plan])) rfl (fun γ L a w hH hA g hg hz=>by have e1:=R7 γ L a w hH;have e2:=hH.at d2 rfl (hA ⟨2,.data⟩ (by simp) rfl);have e3:=hH.at d3 rfl (hA ⟨3,.data⟩ (by simp) rfl);exact ⟨110,#[.pointer (some ⟨po,0,none⟩),.agg #[.int .i64 m0,.int .i64 m1,.int .i64 m2],.agg #[.int .i64 x0,.int .i64 x1,.int .i64 x2]],by simp [go_sem,e1,e2,e3],(vdot_law po 0 g (m0) (m1) (m2) (x0) (x1) (x2) w hg hz).mono (by rintro e W1 ⟨v,g1,rfl,S,Z⟩;exact ⟨by rw [S.out.1],g1,S.out.2,Z.out⟩)⟩)) ?_
  refine AllDo.cons 5 rfl (does_pure _ rfl rfl (fun γ L a w hH hA=>by have e1:=R4 γ L a w hH;simp [execOp,go_sem,e1])) ?_
  refine AllDo.cons 6 rfl (does_pure _ rfl rfl (fun γ L a w hH hA=>by have e1:=hH.at d5 rfl (hA ⟨5,.data⟩ (by simp) rfl);have e2:=hH.glob.fix (⟨pm,3,none⟩,.int .i64 m3) (by simp [turn_plan]);have e3:=hH.glob.fix (⟨pm,4,none⟩,.int .i64 m4) (by simp [turn_plan]);have e4:=hH.glob.fix (⟨pm,5,none⟩,.int .i64 m5) (by simp [turn_plan]);simp [execOp,go_sem,e1,e2,e3,e4])) ?_
  refine AllDo.cons 7 rfl (does_pure _ rfl rfl (fun γ L a w hH hA=>by have e1:=R5 γ L a w hH;have e2:=hH.glob.fix (⟨pa,0,none⟩,.int .i64 x0) (by simp [turn_plan]);have e3:=hH.glob.fix (⟨pa,1,none⟩,.int .i64 x1) (by simp [turn_plan]);have e4:=hH.glob.fix (⟨pa,2,none⟩,.int .i64 x2) (by simp [turn_plan]);simp [execOp,go_sem,e1,e2,e3,e4])) ?_
  refine AllDo.cons 8 rfl (does_call hπ _ ((dot [m3,m4,m5] [x0,x1,x2]).isNone) rfl (by simp [turn_plan]) (calls_only (turn_cn b off f pm pa pr po m0 m1 m2 m3 m4 m5 m6 m7 m8 x0 x1 x2 W U) (by simp [turn_plan])) rfl (fun γ L a w hH hA g hg hz=>by have e1:=R7 γ L a w hH;have e2:=hH.at d6 rfl (hA ⟨6,.data⟩ (by simp) rfl);have e3:=hH.at d7 rfl (hA ⟨7,.data⟩ (by simp) rfl);exact ⟨110,#[.pointer (some ⟨po,0,none⟩),.agg #[.int .i64 m3,.int .i64 m4,.int .i64 m5],.agg #[.int .i64 x0,.int .i64 x1,.int .i64 x2]],by simp [go_sem,e1,e2,e3],(vdot_law po 0 g (m3) (m4) (m5) (x0) (x1) (x2) w hg hz).mono (by rintro e W1 ⟨v,g1,rfl,S,Z⟩;exact ⟨by rw [S.out.1],g1,S.out.2,Z.out⟩)⟩)) ?_
  refine AllDo.cons 9 rfl (does_pure _ rfl rfl (fun γ L a w hH hA=>by have e1:=R4 γ L a w hH;simp [execOp,go_sem,e1])) ?_
  refine AllDo.cons 10 rfl (does_pure _ rfl rfl (fun γ L a w hH hA=>by have e1:=hH.at d9 rfl (hA ⟨9,.data⟩ (by simp) rfl);have e2:=hH.glob.fix (⟨pm,6,none⟩,.int .i64 m6) (by simp [turn_plan]);have e3:=hH.glob.fix (⟨pm,7,none⟩,.int .i64 m7) (by simp [turn_plan]);have e4:=hH.glob.fix (⟨pm,8,none⟩,.int .i64 m8) (by simp [turn_plan]);simp [execOp,go_sem,e1,e2,e3,e4])) ?_
  refine AllDo.cons 11 rfl (does_pure _ rfl rfl (fun γ L a w hH hA=>by have e1:=R5 γ L a w hH;have e2:=hH.glob.fix (⟨pa,0,none⟩,.int .i64 x0) (by simp [turn_plan]);have e3:=hH.glob.fix (⟨pa,1,none⟩,.int .i64 x1) (by simp [turn_plan]);have e4:=hH.glob.fix (⟨pa,2,none⟩,.int .i64 x2) (by simp [turn_plan]);simp [execOp,go_sem,e1,e2,e3,e4])) ?_
  refine AllDo.cons 12 rfl (does_call hπ _ ((dot [m6,m7,m8] [x0,x1,x2]).isNone) rfl (by simp [turn_plan]) (calls_only (turn_cn b off f pm pa pr po m0 m1 m2 m3 m4 m5 m6 m7 m8 x0 x1 x2 W U) (by simp [turn_plan])) rfl (fun γ L a w hH hA g hg hz=>by have e1:=R7 γ L a w hH;have e2:=hH.at d10 rfl (hA ⟨10,.data⟩ (by simp) rfl);have e3:=hH.at d11 rfl (hA ⟨11,.data⟩ (by simp) rfl);exact ⟨110,#[.pointer (some ⟨po,0,none⟩),.agg #[.int .i64 m6,.int .i64 m7,.int .i64 m8],.agg #[.int .i64 x0,.int .i64 x1,.int .i64 x2]],by simp [go_sem,e1,e2,e3],(vdot_law po 0 g (m6) (m7) (m8) (x0) (x1) (x2) w hg hz).mono (by rintro e W1 ⟨v,g1,rfl,S,Z⟩;exact ⟨by rw [S.out.1],g1,S.out.2,Z.out⟩)⟩)) ?_
  refine AllDo.cons 13 rfl (does_pure _ rfl rfl (fun γ L a w hH hA=>by have e1:=hH.at d4 rfl (hA ⟨4,.data⟩ (by simp) rfl);have e2:=hH.at d8 rfl (hA ⟨8,.data⟩ (by simp) rfl);have e3:=hH.at d12 rfl (hA ⟨12,.data⟩ (by simp) rfl);simp [execOp,go_sem,e1,e2,e3])) ?_
  refine AllDo.cons 14 rfl (does_tell hπ _ rfl (fun e=>by have e2:po = b:=congrArg Addr.block e;omega) (by simp [turn_plan]) (by simp [turn_plan]) (by simp [turn_plan]) rfl (fun L hcl haft c hc=>by have L13:L 13 = true:=haft ⟨13,.data⟩ (by simp) rfl;have L4:L 4 = true:=hcl 13 4 A_13_4 L13;have L8:L 8 = true:=hcl 13 8 A_13_8 L13;have L12:L 12 = true:=hcl 13 12 A_13_12 L13;simp only [turn_plan,List.mem_cons,List.not_mem_nil,or_false] at hc;rcases hc with rfl | rfl | rfl;all_goals assumption) (fun γ L a w hH hA hb hp hpf=>by have e1:=hH.at d0 rfl (hA ⟨0,.data⟩ (by simp) rfl);have e2:=R7 γ L a w hH;have e3:=hH.at d13 rfl (hA ⟨13,.data⟩ (by simp) rfl);exact ⟨109,#[.pointer (some ⟨b,off,none⟩),.pointer (some ⟨po,0,none⟩),.agg #[.int .i64 ((dot [m0,m1,m2] [x0,x1,x2]).getD 0),.int .i64 ((dot [m3,m4,m5] [x0,x1,x2]).getD 0),.int .i64 ((dot [m6,m7,m8] [x0,x1,x2]).getD 0)]],by simp [go_sem,e1,e2,e3],(tell3_any b off po f (turn_bad b off f pm pa pr po m0 m1 m2 m3 m4 m5 m6 m7 m8 x0 x1 x2 W U) ((dot [m0,m1,m2] [x0,x1,x2]).getD 0) ((dot [m3,m4,m5] [x0,x1,x2]).getD 0) ((dot [m6,m7,m8] [x0,x1,x2]).getD 0) w hp hpf hb).mono (by rintro e W1 ⟨rfl,Z⟩;exact ⟨rfl,Z.out⟩)⟩)) ?_
  refine AllDo.cons 15 rfl (does_store hπ (by simp [turn_plan]) rfl rfl (by simp [turn_plan]) (by simp [turn_plan]) (by simp [turn_plan]) (fun γ L a w hH hA cs hl hh=>by have e1:=R6 γ L a w hH;have e2:=hH.at d14 rfl (hA ⟨14,.data⟩ (by simp) rfl);obtain ⟨u0,u1,u2,rfl⟩:=list3 hl;have zz0:w.cell? ⟨pr,0,none⟩ = some u0/\w.frozen? ⟨pr,0,none⟩ = false:=hh 0 u0 rfl;have zz1:w.cell? ⟨pr,1,none⟩ = some u1/\w.frozen? ⟨pr,1,none⟩ = false:=hh 1 u1 rfl;have zz2:w.cell? ⟨pr,2,none⟩ = some u2/\w.frozen? ⟨pr,2,none⟩ = false:=hh 2 u2 rfl;exact ⟨(((w.setCell ⟨pr,0,none⟩ (.int .i64 (cond (turn_bad b off f pm pa pr po m0 m1 m2 m3 m4 m5 m6 m7 m8 x0 x1 x2 W U) 0 ((dot [m0,m1,m2] [x0,x1,x2]).getD 0)))).setCell ⟨pr,1,none⟩ (.int .i64 (cond (turn_bad b off f pm pa pr po m0 m1 m2 m3 m4 m5 m6 m7 m8 x0 x1 x2 W U) 0 ((dot [m3,m4,m5] [x0,x1,x2]).getD 0)))).setCell ⟨pr,2,none⟩ (.int .i64 (cond (turn_bad b off f pm pa pr po m0 m1 m2 m3 m4 m5 m6 m7 m8 x0 x1 x2 W U) 0 ((dot [m6,m7,m8] [x0,x1,x2]).getD 0)))),by simp [execOp,go_sem,e1,e2,zz0.1,zz0.2,zz1.1,zz1.2,zz2.1,zz2.2],((((Only.refl _ _).set 0 _).set 1 _).set 2 _),holds3 hh⟩)) ?_
  exact AllDo.nil
 ·intro γ a w L hL hLo hH
  have hL':∀ j,j < 16->L j = true:=fun j hj=>hL j hj
  have hG:=hH.glob
  have hdf:a.defers = []:=hH.defers.trans rfl
  have hs:a.tmps[6]? = some (.pointer (some ⟨pr,0,none⟩)):=(hH.rest 6 (dst_free (by kernel_rfl))).trans rfl
  obtain ⟨cs,c1,c2,c3⟩:=hG.res
  obtain rfl:=c3 (hL' 15 (by omega))
  have ho2:=hG.outer.resolve_left (fun e=>by have e2:po = b:=congrArg Addr.block e;omega)
  have hA:Hid (After ⟨b,off,none⟩ (f || turn_bad b off f pm pa pr po m0 m1 m2 m3 m4 m5 m6 m7 m8 x0 x1 x2 W U) W w):=by
   have e:=ho2.1
   rw [show (turn_plan b off f pm pa pr po m0 m1 m2 m3 m4 m5 m6 m7 m8 x0 x1 x2 W U).tl = 14 from rfl,hL' 14 (by omega),Bool.true_and] at e
   exact hG.leaves.done e ho2.2
  have r0:w.cell? ⟨pr,0,none⟩ = some (.int .i64 (cond (turn_bad b off f pm pa pr po m0 m1 m2 m3 m4 m5 m6 m7 m8 x0 x1 x2 W U) 0 ((dot [m0,m1,m2] [x0,x1,x2]).getD 0))):=(c2 0 _ rfl).1
  have r1:w.cell? ⟨pr,1,none⟩ = some (.int .i64 (cond (turn_bad b off f pm pa pr po m0 m1 m2 m3 m4 m5 m6 m7 m8 x0 x1 x2 W U) 0 ((dot [m3,m4,m5] [x0,x1,x2]).getD 0))):=(c2 1 _ rfl).1
  have r2:w.cell? ⟨pr,2,none⟩ = some (.int .i64 (cond (turn_bad b off f pm pa pr po m0 m1 m2 m3 m4 m5 m6 m7 m8 x0 x1 x2 W U) 0 ((dot [m6,m7,m8] [x0,x1,x2]).getD 0))):=(c2 2 _ rfl).1
  clear hL hLo hL' hH hG c1 c2 c3 ho2 hπ
  go_wp2
  refine bodyPost_ret (by simp [results,Tryz.results55,go_sem,hs,r0,r1,r2];try rfl) hdf ?_
  exact ⟨_,_,_,_,rfl,turn_step (by simp [turn_bad]),hA⟩
end
section
open Go.RowKit Fx
theorem vback_law (b off:Nat) (f:Bool) (m0 m1 m2 m3 m4 m5 m6 m7 m8 x0 x1 x2:Int) (W:World) (hc:W.cell? ⟨b,off,none⟩ = some (.bool f)) (hf:W.frozen? ⟨b,off,none⟩ = false) :
  Calls Tryz.prog 56 #[.pointer (some ⟨b,off,none⟩),.agg #[.int .i64 m0,.int .i64 m1,.int .i64 m2,.int .i64 m3,.int .i64 m4,.int .i64 m5,.int .i64 m6,.int .i64 m7,.int .i64 m8],.agg #[.int .i64 x0,.int .i64 x1,.int .i64 x2]] W fun e W'=>∃ v0 v1 v2 g,e = .returned (.agg #[.int .i64 v0,.int .i64 v1,.int .i64 v2])/\Hid (Step3 f (dot [m0,m3,m6] [x0,x1,x2]) (dot [m1,m4,m7] [x0,x1,x2]) (dot [m2,m5,m8] [x0,x1,x2]) v0 v1 v2 g)/\Hid (After ⟨b,off,none⟩ g W W'):=by
 have hbW:b < W.heap.size:=World.block_lt_of_cell? _ _ hc
 have HC:Hid _:=hc
 have HF:Hid _:=hf
 clear hc hf
 go_enter Tryz.func56,Tryz.ntmps56
 go_wp2_with (fail)
 refine (vturn_law b off f m0 m3 m6 m1 m4 m7 m2 m5 m8 x0 x1 x2 _ (by rw [World.cell?_alloc_past _ _ _ (by simp;omega),World.cell?_alloc_past _ _ _ (by simp;omega),World.cell?_alloc_past _ _ _ hbW];exact HC.out) (by rw [((new_after _ _).frozen (by simp;omega)),((new_after _ _).frozen (by simp;omega)),((new_after _ _).frozen hbW)];exact HF.out)).mono ?_
 rintro e W1 ⟨v0,v1,v2,g,rfl,S,A⟩
 have HL:Hid (Leaves ⟨b,off,none⟩ W W1):=((((Leaves.refl _ _).alloc _).alloc _).alloc _).same A.out
 have hp:=A.out.cell
 have hpf:=A.out.frozen
 have r0:=A.out.cellOf (q:=⟨W.heap.size + 1 + 1,0,none⟩) (v:=.int .i64 0) (by simp [go_sem]) (by simp;omega)
 have r1:=A.out.cellOf (q:=⟨W.heap.size + 1 + 1,1,none⟩) (v:=.int .i64 0) (by simp [go_sem]) (by simp;omega)
 have r2:=A.out.cellOf (q:=⟨W.heap.size + 1 + 1,2,none⟩) (v:=.int .i64 0) (by simp [go_sem]) (by simp;omega)
 have f0:=A.out.frozenOf (q:=⟨W.heap.size + 1 + 1,0,none⟩) (v:=.int .i64 0) (by simp [go_sem]) (by simp [go_sem]) (by simp;omega)
 have f1:=A.out.frozenOf (q:=⟨W.heap.size + 1 + 1,1,none⟩) (v:=.int .i64 0) (by simp [go_sem]) (by simp [go_sem]) (by simp;omega)
 have f2:=A.out.frozenOf (q:=⟨W.heap.size + 1 + 1,2,none⟩) (v:=.int .i64 0) (by simp [go_sem]) (by simp [go_sem]) (by simp;omega)
 have n1:b ≠ W.heap.size + 1 + 1:=by omega
 have n2:W.heap.size + 1 + 1 ≠ b:=by omega
 clear A HC HF
 go_wp2_with (fail)
 refine bodyPost_ret (by simp [results,Tryz.results56,go_sem,r0,r1,r2];try rfl) rfl ?_
 refine ⟨_,_,_,_,rfl,S,(((HL.out.set (by simp;omega) _).set (by simp;omega) _).set (by simp;omega) _).done ?_ ?_⟩
 ·simp [go_sem,hp]
 ·simp [go_sem,hpf]
theorem norm4_law (b off:Nat) (f:Bool) (x y z u:Int) (W:World) (hc:W.cell? ⟨b,off,none⟩ = some (.bool f)) (hf:W.frozen? ⟨b,off,none⟩ = false) :
  Calls Tryz.prog 126 #[.pointer (some ⟨b,off,none⟩),.slice (some ⟨W.heap.size,0,none⟩) 4 4] (W.alloc (.cells #[.int .i64 x,.int .i64 y,.int .i64 z,.int .i64 u] 3)) fun e W'=>∃ v g,e = .returned (.int .i64 v)/\Hid (Step f (norm [x,y,z,u]) v g)/\Hid (After ⟨b,off,none⟩ g W W'):=by
 have hb:=new_after W (.cells #[.int .i64 x,.int .i64 y,.int .i64 z,.int .i64 u] 3)
 have hc':=cell_after hb hc
 have hf':=frozen_after hb hc hf
 have h:=norm_any b off f [x,y,z,u] W.heap.size 0 4 (W.alloc (.cells #[.int .i64 x,.int .i64 y,.int .i64 z,.int .i64 u] 3)) hc' hf' (fun k hk=>by
  match k,hk with
  | 0,_=>simp
  | 1,_=>simp
  | 2,_=>simp
  | 3,_=>simp) (by simp)
 exact h.mono fun _ _ ⟨a,h⟩=>⟨_,_,a,⟨rfl,rfl⟩,after_of (mark_after hb h) hc hf⟩
def wholeBad (q0 q1 q2 q3:Int):Bool:=decide (((norm [q0,q1,q2,q3]).getD 0) < 2147483648) || ((ratio q0 4294967296 ((norm [q0,q1,q2,q3]).getD 0)).isNone || (ratio q1 4294967296 ((norm [q0,q1,q2,q3]).getD 0)).isNone || (ratio q2 4294967296 ((norm [q0,q1,q2,q3]).getD 0)).isNone || (ratio q3 4294967296 ((norm [q0,q1,q2,q3]).getD 0)).isNone)
theorem vwhole_law (b off:Nat) (f:Bool) (q0 q1 q2 q3:Int) (W:World) (hc:W.cell? ⟨b,off,none⟩ = some (.bool f)) (hf:W.frozen? ⟨b,off,none⟩ = false) :
  Calls Tryz.prog 122 #[.pointer (some ⟨b,off,none⟩),.agg #[.int .i64 q0,.int .i64 q1,.int .i64 q2,.int .i64 q3]] W fun e W'=>∃ v0 v1 v2 v3 g,e = .returned (.agg #[.int .i64 v0,.int .i64 v1,.int .i64 v2,.int .i64 v3])/\Hid (v0 = cond (wholeBad q0 q1 q2 q3) 0 ((ratio q0 4294967296 ((norm [q0,q1,q2,q3]).getD 0)).getD 0)/\v1 = cond (wholeBad q0 q1 q2 q3) 0 ((ratio q1 4294967296 ((norm [q0,q1,q2,q3]).getD 0)).getD 0)/\v2 = cond (wholeBad q0 q1 q2 q3) 0 ((ratio q2 4294967296 ((norm [q0,q1,q2,q3]).getD 0)).getD 0)/\v3 = cond (wholeBad q0 q1 q2 q3) 0 ((ratio q3 4294967296 ((norm [q0,q1,q2,q3]).getD 0)).getD 0)/\g = (f || wholeBad q0 q1 q2 q3))/\Hid (After ⟨b,off,none⟩ g W W'):=by
 have hbW:b < W.heap.size:=World.block_lt_of_cell? _ _ hc
 have HC:Hid _:=hc
 have HF:Hid _:=hf
 clear hc hf
 go_enter Tryz.func122,Tryz.ntmps122
 go_wp2_with (fail)
 have N:=norm4_law (W.heap.size + 1 + 1) 0 false q0 q1 q2 q3 (((W.alloc (.cells #[.int .i64 q0,.int .i64 q1,.int .i64 q2,.int .i64 q3] 25)).alloc (.cells #[.int .i64 0,.int .i64 0,.int .i64 0,.int .i64 0] 25)).alloc (.cells #[.bool false] 42)) (by simp [go_sem]) (by simp [go_sem])
 simp only [World.size_alloc] at N
 refine N.mono ?_
 rintro e W1 ⟨nn,g1,rfl,S,A⟩
 clear N
 have hp:=A.out.cellOf (q:=⟨b,off,none⟩) (v:=.bool f) (by rw [World.cell?_alloc_past _ _ _ (by simp;omega),World.cell?_alloc_past _ _ _ (by simp;omega),World.cell?_alloc_past _ _ _ hbW];exact HC.out) (by simp;omega)
 have hpf:=A.out.frozenOf (q:=⟨b,off,none⟩) (v:=.bool f) (by rw [World.cell?_alloc_past _ _ _ (by simp;omega),World.cell?_alloc_past _ _ _ (by simp;omega),World.cell?_alloc_past _ _ _ hbW];exact HC.out) (by rw [((new_after _ _).frozen (by simp;omega)),((new_after _ _).frozen (by simp;omega)),((new_after _ _).frozen hbW)];exact HF.out) (by simp;omega)
 have HL:Hid (Leaves ⟨b,off,none⟩ W W1):=((((Leaves.refl _ _).alloc _).alloc _).alloc _).after A.out (by simp;omega)
 have ho:=A.out.cell
 have hof:=A.out.frozen
 have k0:=A.out.cellOf (q:=⟨W.heap.size,0,none⟩) (v:=.int .i64 q0) (by simp [go_sem]) (by simp;omega)
 have f0:=A.out.frozenOf (q:=⟨W.heap.size + 1,0,none⟩) (v:=.int .i64 0) (by simp [go_sem]) (by simp [go_sem]) (by simp)
 have r0:=A.out.cellOf (q:=⟨W.heap.size + 1,0,none⟩) (v:=.int .i64 0) (by simp [go_sem]) (by simp)
 have k1:=A.out.cellOf (q:=⟨W.heap.size,1,none⟩) (v:=.int .i64 q1) (by simp [go_sem]) (by simp;omega)
 have f1:=A.out.frozenOf (q:=⟨W.heap.size + 1,1,none⟩) (v:=.int .i64 0) (by simp [go_sem]) (by simp [go_sem]) (by simp)
 have r1:=A.out.cellOf (q:=⟨W.heap.size + 1,1,none⟩) (v:=.int .i64 0) (by simp [go_sem]) (by simp)
 have k2:=A.out.cellOf (q:=⟨W.heap.size,2,none⟩) (v:=.int .i64 q2) (by simp [go_sem]) (by simp;omega)
 have f2:=A.out.frozenOf (q:=⟨W.heap.size + 1,2,none⟩) (v:=.int .i64 0) (by simp [go_sem]) (by simp [go_sem]) (by simp)
 have r2:=A.out.cellOf (q:=⟨W.heap.size + 1,2,none⟩) (v:=.int .i64 0) (by simp [go_sem]) (by simp)
 have k3:=A.out.cellOf (q:=⟨W.heap.size,3,none⟩) (v:=.int .i64 q3) (by simp [go_sem]) (by simp;omega)
 have f3:=A.out.frozenOf (q:=⟨W.heap.size + 1,3,none⟩) (v:=.int .i64 0) (by simp [go_sem]) (by simp [go_sem]) (by simp)
 have r3:=A.out.cellOf (q:=⟨W.heap.size + 1,3,none⟩) (v:=.int .i64 0) (by simp [go_sem]) (by simp)
 have n1:b ≠ W.heap.size + 1:=by omega
 have n2:W.heap.size + 1 ≠ b:=by omega
 have n3:W.heap.size + 1 + 1 ≠ b:=by omega
 clear A HC HF
 obtain ⟨hn,hg1⟩:=S.out
 have HN:Hid _:=hn
 have HG:Hid _:=hg1
 clear S hn hg1
 by_cases hlow:nn < 2147483648
 ·have hbad:Hid (wholeBad q0 q1 q2 q3 = true):=by show _ = _;unfold wholeBad;rw [<- HN.out];simp [hlow]
  go_wp2_with (fail)
  refine bodyPost_ret (by simp [results,Tryz.results122,go_sem,r0,r1,r2,r3];try rfl) rfl ?_
  refine ⟨0,0,0,0,true,rfl,?_,?_⟩
  ·show _/\_/\_/\_/\_
   rw [hbad.out];simp
  ·refine (((((HL.out.own _).set (by simp) _).set (by simp) _).set (by simp) _).set (by simp) _).done ?_ ?_
   ·simp [go_sem,hp]
   ·simp [go_sem,hpf]
 ·go_wp2_with (fail)
  refine (each4_div_any (W.heap.size + 1 + 1) g1 q0 q1 q2 q3 nn nn nn nn W1 ho hof).mono ?_
  rintro e W2 ⟨g2,rfl,SG,A⟩
  have HL2:Hid (Leaves ⟨b,off,none⟩ W W2):=HL.out.after A.out (by simp;omega)
  have hpf:=A.out.frozenOf hp hpf (by simp;omega)
  have hp:=A.out.cellOf hp (by simp;omega)
  have ho:=A.out.cell
  have hof:=A.out.frozen
  have f0:=A.out.frozenOf r0 f0 (by simp)
  have r0:=A.out.cellOf r0 (by simp)
  have f1:=A.out.frozenOf r1 f1 (by simp)
  have r1:=A.out.cellOf r1 (by simp)
  have f2:=A.out.frozenOf r2 f2 (by simp)
  have r2:=A.out.cellOf r2 (by simp)
  have f3:=A.out.frozenOf r3 f3 (by simp)
  have r3:=A.out.cellOf r3 (by simp)
  clear A HL
  go_wp2_with (fail)
  refine (tell4_any b off (W.heap.size + 1 + 1) f g2 _ _ _ _ W2 hp hpf ho).mono ?_
  rintro e W3 ⟨rfl,A⟩
  have HL3:Hid (Leaves ⟨b,off,none⟩ W W3):=HL2.out.same A.out
  have hp:=A.out.cell
  have hpf:=A.out.frozen
  have f0:=A.out.frozenOf r0 f0 (by simp;omega)
  have r0:=A.out.cellOf r0 (by simp;omega)
  have f1:=A.out.frozenOf r1 f1 (by simp;omega)
  have r1:=A.out.cellOf r1 (by simp;omega)
  have f2:=A.out.frozenOf r2 f2 (by simp;omega)
  have r2:=A.out.cellOf r2 (by simp;omega)
  have f3:=A.out.frozenOf r3 f3 (by simp;omega)
  have r3:=A.out.cellOf r3 (by simp;omega)
  have hbad:Hid (wholeBad q0 q1 q2 q3 = g2):=by
   show _ = _
   have e1:(norm [q0,q1,q2,q3]).isNone = false:=by
    cases h:norm [q0,q1,q2,q3] with
    | none=>have:=HN.out;rw [h] at this;exact absurd this (by simp;omega)
    | some v=>rfl
   have e2:g1 = false:=by rw [HG.out,e1];rfl
   unfold wholeBad
   rw [<- HN.out,SG.out,e2,decide_eq_false (by omega)]
  clear A HL2
  go_wp2_with (fail)
  refine bodyPost_ret (by simp [results,Tryz.results122,go_sem,r0,r1,r2,r3];try rfl) rfl ?_
  refine ⟨_,_,_,_,_,rfl,?_,((((HL3.out.set (by simp) _).set (by simp) _).set (by simp) _).set (by simp) _).done (g:=f || g2) ?_ ?_⟩
  ·show _/\_/\_/\_/\_
   rw [hbad.out,<- HN.out]
   exact ⟨rfl,rfl,rfl,rfl,rfl⟩
  ·simp [go_sem,hp]
  ·simp [go_sem,hpf]
end
section
open Go.RowKit Ref Fx
theorem row4 {w:World} {b:Nat} {x y z u:Int} (h0:w.cell? ⟨b,0,none⟩ = some (.int .i64 x)) (h1:w.cell? ⟨b,1,none⟩ = some (.int .i64 y)) (h2:w.cell? ⟨b,2,none⟩ = some (.int .i64 z)) (h3:w.cell? ⟨b,3,none⟩ = some (.int .i64 u)):NRow w (some ⟨b,0,none⟩) [x,y,z,u]:=
 Or.inr ⟨b,0,rfl,fun k hk=>by
  match k,hk with
  | 0,_=>exact h0
  | 1,_=>exact h1
  | 2,_=>exact h2
  | 3,_=>exact h3⟩
theorem rvturn_law (b off:Nat) (f:Bool) (m0 m1 m2 m3 m4 m5 m6 m7 m8 x0 x1 x2:Int) (W:World) (hc:W.cell? ⟨b,off,none⟩ = some (.bool f)) (hf:W.frozen? ⟨b,off,none⟩ = false) :
  Calls Tryz.prog 59 #[.pointer (some ⟨b,off,none⟩),.agg #[.int .i64 m0,.int .i64 m1,.int .i64 m2,.int .i64 m3,.int .i64 m4,.int .i64 m5,.int .i64 m6,.int .i64 m7,.int .i64 m8],.agg #[.int .i64 x0,.int .i64 x1,.int .i64 x2]] W fun e W'=>∃ v0 v1 v2 g,e = .returned (.agg #[.int .i64 v0,.int .i64 v1,.int .i64 v2])/\Hid (Step3 f (dot [m0,m1,m2] [x0,x1,x2]) (dot [m3,m4,m5] [x0,x1,x2]) (dot [m6,m7,m8] [x0,x1,x2]) v0 v1 v2 g)/\Hid (After ⟨b,off,none⟩ g W W'):=by
 have hbW:b < W.heap.size:=World.block_lt_of_cell? _ _ hc
 go_enter Tryz.func59,Tryz.ntmps59
 go_wp2_with (fail)
 refine (rvbare_any _).mono ?_
 rintro e W1 ⟨rfl,rfl⟩
 obtain ⟨U,hU⟩:∃ U,U = ((((W.alloc (.cells #[.int .i64 m0,.int .i64 m1,.int .i64 m2,.int .i64 m3,.int .i64 m4,.int .i64 m5,.int .i64 m6,.int .i64 m7,.int .i64 m8] 94)).alloc (.cells #[.int .i64 x0,.int .i64 x1,.int .i64 x2] 23)).alloc (.cells #[.int .i64 0,.int .i64 0,.int .i64 0] 23)).alloc (.cells #[.bool false] 44)):=⟨_,rfl⟩
 obtain ⟨pm,hpm⟩:∃ p,p = W.heap.size:=⟨_,rfl⟩
 obtain ⟨pa,hpa⟩:∃ p,p = W.heap.size + 1:=⟨_,rfl⟩
 obtain ⟨pr,hpr⟩:∃ p,p = W.heap.size + 1 + 1:=⟨_,rfl⟩
 obtain ⟨po,hpo⟩:∃ p,p = W.heap.size + 1 + 1 + 1:=⟨_,rfl⟩
 have H:Hid (Ho W U ⟨b,off,none⟩ po f false [(⟨pm,0,none⟩,.int .i64 m0),(⟨pm,1,none⟩,.int .i64 m1),(⟨pm,2,none⟩,.int .i64 m2),(⟨pm,3,none⟩,.int .i64 m3),(⟨pm,4,none⟩,.int .i64 m4),(⟨pm,5,none⟩,.int .i64 m5),(⟨pm,6,none⟩,.int .i64 m6),(⟨pm,7,none⟩,.int .i64 m7),(⟨pm,8,none⟩,.int .i64 m8),(⟨pa,0,none⟩,.int .i64 x0),(⟨pa,1,none⟩,.int .i64 x1),(⟨pa,2,none⟩,.int .i64 x2),(⟨pr,0,none⟩,.int .i64 0),(⟨pr,1,none⟩,.int .i64 0),(⟨pr,2,none⟩,.int .i64 0)]):=by
  refine ⟨by rw [hU];exact (((((Leaves.refl _ _).alloc _).alloc _).alloc _).alloc _),by rw [hU,World.cell?_alloc_past _ _ _ (by simp;omega),World.cell?_alloc_past _ _ _ (by simp;omega),World.cell?_alloc_past _ _ _ (by simp;omega),World.cell?_alloc_past _ _ _ hbW];exact hc,by rw [hU,((new_after _ _).frozen (by simp;omega)),((new_after _ _).frozen (by simp;omega)),((new_after _ _).frozen (by simp;omega)),((new_after _ _).frozen hbW)];exact hf,by rw [hU,hpo];simp [go_sem],by rw [hU,hpo];simp [go_sem],?_,?_,hbW,by omega⟩
  ·intro c hc
   simp only [List.mem_cons,List.not_mem_nil,or_false] at hc
   rcases hc with rfl | rfl | rfl | rfl | rfl | rfl | rfl | rfl | rfl | rfl | rfl | rfl | rfl | rfl | rfl <;> rw [hU] <;> dsimp only <;> first | (rw [hpm];exact ⟨by simp [go_sem],by simp [go_sem]⟩) | (rw [hpa];exact ⟨by simp [go_sem],by simp [go_sem]⟩) | (rw [hpr];exact ⟨by simp [go_sem],by simp [go_sem]⟩)
  ·intro c hc
   simp only [List.mem_cons,List.not_mem_nil,or_false] at hc
   rcases hc with rfl | rfl | rfl | rfl | rfl | rfl | rfl | rfl | rfl | rfl | rfl | rfl | rfl | rfl | rfl <;> (dsimp only) <;> omega
 rw [<- hU]
 simp only [World.size_alloc]
 rw [<- hpo,<- hpr,<- hpa,<- hpm]
 have zq1:pm < pa:=by omega
 have zq2:pa < pr:=by omega
 have zq3:pr < po:=by omega
 have zq0:W.heap.size <= pm:=by omega
 clear hU hc hf hpm hpa hpr hpo
 have k_pm_0:=(H.out.fix (⟨pm,0,none⟩,.int .i64 m0) (by simp)).1
 have k_pm_1:=(H.out.fix (⟨pm,1,none⟩,.int .i64 m1) (by simp)).1
 have k_pm_2:=(H.out.fix (⟨pm,2,none⟩,.int .i64 m2) (by simp)).1
 have k_pm_3:=(H.out.fix (⟨pm,3,none⟩,.int .i64 m3) (by simp)).1
 have k_pm_4:=(H.out.fix (⟨pm,4,none⟩,.int .i64 m4) (by simp)).1
 have k_pm_5:=(H.out.fix (⟨pm,5,none⟩,.int .i64 m5) (by simp)).1
 have k_pm_6:=(H.out.fix (⟨pm,6,none⟩,.int .i64 m6) (by simp)).1
 have k_pm_7:=(H.out.fix (⟨pm,7,none⟩,.int .i64 m7) (by simp)).1
 have k_pm_8:=(H.out.fix (⟨pm,8,none⟩,.int .i64 m8) (by simp)).1
 have k_pa_0:=(H.out.fix (⟨pa,0,none⟩,.int .i64 x0) (by simp)).1
 have k_pa_1:=(H.out.fix (⟨pa,1,none⟩,.int .i64 x1) (by simp)).1
 have k_pa_2:=(H.out.fix (⟨pa,2,none⟩,.int .i64 x2) (by simp)).1
 have l_pm:=World.block_lt_of_cell? _ _ k_pm_0
 dsimp only at l_pm
 have l_pa:=World.block_lt_of_cell? _ _ k_pa_0
 dsimp only at l_pa
 have ho:=H.out.own
 have hof:=H.out.ownf
 go_wp2_with (fail)
 refine (rvdot_law po 0 false m0 m1 m2 x0 x1 x2 _ ho hof).mono ?_
 rintro e Wg1 ⟨v0,g1,rfl,Sg1,A⟩
 have H:Hid _:=H.out.after A.out
 clear A k_pm_0 k_pm_1 k_pm_2 k_pm_3 k_pm_4 k_pm_5 k_pm_6 k_pm_7 k_pm_8 k_pa_0 k_pa_1 k_pa_2 l_pm l_pa ho hof
 have k_pm_0:=(H.out.fix (⟨pm,0,none⟩,.int .i64 m0) (by simp)).1
 have k_pm_1:=(H.out.fix (⟨pm,1,none⟩,.int .i64 m1) (by simp)).1
 have k_pm_2:=(H.out.fix (⟨pm,2,none⟩,.int .i64 m2) (by simp)).1
 have k_pm_3:=(H.out.fix (⟨pm,3,none⟩,.int .i64 m3) (by simp)).1
 have k_pm_4:=(H.out.fix (⟨pm,4,none⟩,.int .i64 m4) (by simp)).1
 have k_pm_5:=(H.out.fix (⟨pm,5,none⟩,.int .i64 m5) (by simp)).1
 have k_pm_6:=(H.out.fix (⟨pm,6,none⟩,.int .i64 m6) (by simp)).1
 have k_pm_7:=(H.out.fix (⟨pm,7,none⟩,.int .i64 m7) (by simp)).1
 have k_pm_8:=(H.out.fix (⟨pm,8,none⟩,.int .i64 m8) (by simp)).1
 have k_pa_0:=(H.out.fix (⟨pa,0,none⟩,.int .i64 x0) (by simp)).1
 have k_pa_1:=(H.out.fix (⟨pa,1,none⟩,.int .i64 x1) (by simp)).1
 have k_pa_2:=(H.out.fix (⟨pa,2,none⟩,.int .i64 x2) (by simp)).1
 have l_pm:=World.block_lt_of_cell? _ _ k_pm_0
 dsimp only at l_pm
 have l_pa:=World.block_lt_of_cell? _ _ k_pa_0
 dsimp only at l_pa
 have ho:=H.out.own
 have hof:=H.out.ownf
 go_wp2_with (fail)
 refine (rvdot_law po 0 g1 m3 m4 m5 x0 x1 x2 _ ho hof).mono ?_
 rintro e Wg2 ⟨v1,g2,rfl,Sg2,A⟩
 have H:Hid _:=H.out.after A.out
 clear A k_pm_0 k_pm_1 k_pm_2 k_pm_3 k_pm_4 k_pm_5 k_pm_6 k_pm_7 k_pm_8 k_pa_0 k_pa_1 k_pa_2 l_pm l_pa ho hof
 have k_pm_0:=(H.out.fix (⟨pm,0,none⟩,.int .i64 m0) (by simp)).1
 have k_pm_1:=(H.out.fix (⟨pm,1,none⟩,.int .i64 m1) (by simp)).1
 have k_pm_2:=(H.out.fix (⟨pm,2,none⟩,.int .i64 m2) (by simp)).1
 have k_pm_3:=(H.out.fix (⟨pm,3,none⟩,.int .i64 m3) (by simp)).1
 have k_pm_4:=(H.out.fix (⟨pm,4,none⟩,.int .i64 m4) (by simp)).1
 have k_pm_5:=(H.out.fix (⟨pm,5,none⟩,.int .i64 m5) (by simp)).1
 have k_pm_6:=(H.out.fix (⟨pm,6,none⟩,.int .i64 m6) (by simp)).1
 have k_pm_7:=(H.out.fix (⟨pm,7,none⟩,.int .i64 m7) (by simp)).1
 have k_pm_8:=(H.out.fix (⟨pm,8,none⟩,.int .i64 m8) (by simp)).1
 have k_pa_0:=(H.out.fix (⟨pa,0,none⟩,.int .i64 x0) (by simp)).1
 have k_pa_1:=(H.out.fix (⟨pa,1,none⟩,.int .i64 x1) (by simp)).1
 have k_pa_2:=(H.out.fix (⟨pa,2,none⟩,.int .i64 x2) (by simp)).1
 have l_pm:=World.block_lt_of_cell? _ _ k_pm_0
 dsimp only at l_pm
 have l_pa:=World.block_lt_of_cell? _ _ k_pa_0
 dsimp only at l_pa
 have ho:=H.out.own
 have hof:=H.out.ownf
 go_wp2_with (fail)
 refine (rvdot_law po 0 g2 m6 m7 m8 x0 x1 x2 _ ho hof).mono ?_
 rintro e Wg3 ⟨v2,g3,rfl,Sg3,A⟩
 have H:Hid _:=H.out.after A.out
 clear A k_pm_0 k_pm_1 k_pm_2 k_pm_3 k_pm_4 k_pm_5 k_pm_6 k_pm_7 k_pm_8 k_pa_0 k_pa_1 k_pa_2 l_pm l_pa ho hof
 go_wp2_with (fail)
 refine (done_any b off po f g3 _ H.out.flag H.out.flagf H.out.own (by omega)).mono ?_
 rintro e V9 ⟨rfl,A⟩
 have rr0:=A.out.cellOf (H.out.fix (⟨pr,0,none⟩,.int .i64 0) (by simp)).1 (by show pr ≠ b;omega)
 have rf0:=A.out.frozenOf (H.out.fix (⟨pr,0,none⟩,.int .i64 0) (by simp)).1 (H.out.fix (⟨pr,0,none⟩,.int .i64 0) (by simp)).2 (by show pr ≠ b;omega)
 have rr1:=A.out.cellOf (H.out.fix (⟨pr,1,none⟩,.int .i64 0) (by simp)).1 (by show pr ≠ b;omega)
 have rf1:=A.out.frozenOf (H.out.fix (⟨pr,1,none⟩,.int .i64 0) (by simp)).1 (H.out.fix (⟨pr,1,none⟩,.int .i64 0) (by simp)).2 (by show pr ≠ b;omega)
 have rr2:=A.out.cellOf (H.out.fix (⟨pr,2,none⟩,.int .i64 0) (by simp)).1 (by show pr ≠ b;omega)
 have rf2:=A.out.frozenOf (H.out.fix (⟨pr,2,none⟩,.int .i64 0) (by simp)).1 (H.out.fix (⟨pr,2,none⟩,.int .i64 0) (by simp)).2 (by show pr ≠ b;omega)
 have HL:Hid (Leaves ⟨b,off,none⟩ W V9):=H.out.leaves.same A.out
 have hp:=A.out.cell
 have hpf:=A.out.frozen
 have n1:b ≠ pr:=by omega
 have n2:pr ≠ b:=by omega
 have hWr:W.heap.size <= pr:=by omega
 have HS:Hid _:=step3_chain (f:=f) Sg1.out Sg2.out Sg3.out
 clear A H
 cases g3 with
 | true =>
  go_wp2_with (fail)
  refine bodyPost_ret (by simp [results,Tryz.results59,go_sem,rr0,rr1,rr2];try rfl) rfl ?_
  refine ⟨0,0,0,_,rfl,HS.out,(((HL.out.set hWr _).set hWr _).set hWr _).done ?_ ?_⟩
  ·simp [go_sem,hp]
  ·simp [go_sem,hpf]
 | false =>
  go_wp2_with (fail)
  refine bodyPost_ret (by simp [results,Tryz.results59,go_sem,rr0,rr1,rr2];try rfl) rfl ?_
  refine ⟨_,_,_,_,rfl,HS.out,(((HL.out.set hWr _).set hWr _).set hWr _).done ?_ ?_⟩
  ·simp [go_sem,hp]
  ·simp [go_sem,hpf]
theorem whole_low {f g0:Bool} {q0 q1 q2 q3 nn:Int} (h0:Step false (norm [q0,q1,q2,q3]) nn g0) (hn:nn < 2147483648) :
  (0:Int) = cond (wholeBad q0 q1 q2 q3) 0 ((ratio q0 4294967296 ((norm [q0,q1,q2,q3]).getD 0)).getD 0)/\(0:Int) = cond (wholeBad q0 q1 q2 q3) 0 ((ratio q1 4294967296 ((norm [q0,q1,q2,q3]).getD 0)).getD 0)/\(0:Int) = cond (wholeBad q0 q1 q2 q3) 0 ((ratio q2 4294967296 ((norm [q0,q1,q2,q3]).getD 0)).getD 0)/\(0:Int) = cond (wholeBad q0 q1 q2 q3) 0 ((ratio q3 4294967296 ((norm [q0,q1,q2,q3]).getD 0)).getD 0)/\true = (f || wholeBad q0 q1 q2 q3):=by
 have hb:wholeBad q0 q1 q2 q3 = true:=by
  unfold wholeBad
  rw [<- h0.1,decide_eq_true hn,Bool.true_or]
 rw [hb]
 exact ⟨rfl,rfl,rfl,rfl,by simp⟩
theorem whole_chain {f g0 g1 g2 g3 g4:Bool} {q0 q1 q2 q3 nn v0 v1 v2 v3:Int} (hn:¬ nn < 2147483648) (h0:Step false (norm [q0,q1,q2,q3]) nn g0) (h1:Step g0 (ratio q0 4294967296 nn) v0 g1) (h2:Step g1 (ratio q1 4294967296 nn) v1 g2) (h3:Step g2 (ratio q2 4294967296 nn) v2 g3) (h4:Step g3 (ratio q3 4294967296 nn) v3 g4) :
  cond g4 0 v0 = cond (wholeBad q0 q1 q2 q3) 0 ((ratio q0 4294967296 ((norm [q0,q1,q2,q3]).getD 0)).getD 0)/\cond g4 0 v1 = cond (wholeBad q0 q1 q2 q3) 0 ((ratio q1 4294967296 ((norm [q0,q1,q2,q3]).getD 0)).getD 0)/\cond g4 0 v2 = cond (wholeBad q0 q1 q2 q3) 0 ((ratio q2 4294967296 ((norm [q0,q1,q2,q3]).getD 0)).getD 0)/\cond g4 0 v3 = cond (wholeBad q0 q1 q2 q3) 0 ((ratio q3 4294967296 ((norm [q0,q1,q2,q3]).getD 0)).getD 0)/\(f || g4) = (f || wholeBad q0 q1 q2 q3):=by
 obtain ⟨e0,rfl⟩:=h0
 have hs:(norm [q0,q1,q2,q3]).isNone = false:=by
  cases hq:norm [q0,q1,q2,q3] with
  | none=>rw [hq] at e0;simp at e0;omega
  | some m=>rfl
 rw [e0] at h1 h2 h3 h4 hn
 obtain ⟨rfl,rfl⟩:=h1
 obtain ⟨rfl,rfl⟩:=h2
 obtain ⟨rfl,rfl⟩:=h3
 obtain ⟨rfl,rfl⟩:=h4
 have hb:wholeBad q0 q1 q2 q3 = ((((false || (norm [q0,q1,q2,q3]).isNone || (ratio q0 4294967296 ((norm [q0,q1,q2,q3]).getD 0)).isNone) || (ratio q1 4294967296 ((norm [q0,q1,q2,q3]).getD 0)).isNone) || (ratio q2 4294967296 ((norm [q0,q1,q2,q3]).getD 0)).isNone) || (ratio q3 4294967296 ((norm [q0,q1,q2,q3]).getD 0)).isNone):=by
  unfold wholeBad
  rw [decide_eq_false hn,hs,Bool.false_or,Bool.false_or,Bool.false_or]
 rw [<- hb]
 exact ⟨rfl,rfl,rfl,rfl,rfl⟩
theorem rvwhole_law (b off:Nat) (f:Bool) (q0 q1 q2 q3:Int) (W:World) (hc:W.cell? ⟨b,off,none⟩ = some (.bool f)) (hf:W.frozen? ⟨b,off,none⟩ = false) :
  Calls Tryz.prog 125 #[.pointer (some ⟨b,off,none⟩),.agg #[.int .i64 q0,.int .i64 q1,.int .i64 q2,.int .i64 q3]] W fun e W'=>∃ v0 v1 v2 v3 g,e = .returned (.agg #[.int .i64 v0,.int .i64 v1,.int .i64 v2,.int .i64 v3])/\Hid (v0 = cond (wholeBad q0 q1 q2 q3) 0 ((ratio q0 4294967296 ((norm [q0,q1,q2,q3]).getD 0)).getD 0)/\v1 = cond (wholeBad q0 q1 q2 q3) 0 ((ratio q1 4294967296 ((norm [q0,q1,q2,q3]).getD 0)).getD 0)/\v2 = cond (wholeBad q0 q1 q2 q3) 0 ((ratio q2 4294967296 ((norm [q0,q1,q2,q3]).getD 0)).getD 0)/\v3 = cond (wholeBad q0 q1 q2 q3) 0 ((ratio q3 4294967296 ((norm [q0,q1,q2,q3]).getD 0)).getD 0)/\g = (f || wholeBad q0 q1 q2 q3))/\Hid (After ⟨b,off,none⟩ g W W'):=by
 have hbW:b < W.heap.size:=World.block_lt_of_cell? _ _ hc
 go_enter Tryz.func125,Tryz.ntmps125
 go_wp2_with (fail)
 refine (rvbare_any _).mono ?_
 rintro e W1 ⟨rfl,rfl⟩
 obtain ⟨U,hU⟩:∃ U,U = (((W.alloc (.cells #[.int .i64 q0,.int .i64 q1,.int .i64 q2,.int .i64 q3] 25)).alloc (.cells #[.int .i64 0,.int .i64 0,.int .i64 0,.int .i64 0] 25)).alloc (.cells #[.bool false] 44)):=⟨_,rfl⟩
 obtain ⟨pa,hpa⟩:∃ p,p = W.heap.size:=⟨_,rfl⟩
 obtain ⟨pr,hpr⟩:∃ p,p = W.heap.size + 1:=⟨_,rfl⟩
 obtain ⟨po,hpo⟩:∃ p,p = W.heap.size + 1 + 1:=⟨_,rfl⟩
 have H:Hid (Ho W U ⟨b,off,none⟩ po f false [(⟨pa,0,none⟩,.int .i64 q0),(⟨pa,1,none⟩,.int .i64 q1),(⟨pa,2,none⟩,.int .i64 q2),(⟨pa,3,none⟩,.int .i64 q3),(⟨pr,0,none⟩,.int .i64 0),(⟨pr,1,none⟩,.int .i64 0),(⟨pr,2,none⟩,.int .i64 0),(⟨pr,3,none⟩,.int .i64 0)]):=by
  refine ⟨by rw [hU];exact ((((Leaves.refl _ _).alloc _).alloc _).alloc _),by rw [hU,World.cell?_alloc_past _ _ _ (by simp;omega),World.cell?_alloc_past _ _ _ (by simp;omega),World.cell?_alloc_past _ _ _ hbW];exact hc,by rw [hU,((new_after _ _).frozen (by simp;omega)),((new_after _ _).frozen (by simp;omega)),((new_after _ _).frozen hbW)];exact hf,by rw [hU,hpo];simp [go_sem],by rw [hU,hpo];simp [go_sem],?_,?_,hbW,by omega⟩
  ·intro c hc
   simp only [List.mem_cons,List.not_mem_nil,or_false] at hc
   rcases hc with rfl | rfl | rfl | rfl | rfl | rfl | rfl | rfl <;> rw [hU] <;> dsimp only <;> first | (rw [hpa];exact ⟨by simp [go_sem],by simp [go_sem]⟩) | (rw [hpr];exact ⟨by simp [go_sem],by simp [go_sem]⟩)
  ·intro c hc
   simp only [List.mem_cons,List.not_mem_nil,or_false] at hc
   rcases hc with rfl | rfl | rfl | rfl | rfl | rfl | rfl | rfl <;> (dsimp only) <;> omega
 rw [<- hU]
 simp only [World.size_alloc]
 rw [<- hpo,<- hpr,<- hpa]
 have zq1:pa < pr:=by omega
 have zq2:pr < po:=by omega
 have zq0:W.heap.size <= pa:=by omega
 clear hU hc hf hpa hpr hpo
 have k_pa_0:=(H.out.fix (⟨pa,0,none⟩,.int .i64 q0) (by simp)).1
 have k_pa_1:=(H.out.fix (⟨pa,1,none⟩,.int .i64 q1) (by simp)).1
 have k_pa_2:=(H.out.fix (⟨pa,2,none⟩,.int .i64 q2) (by simp)).1
 have k_pa_3:=(H.out.fix (⟨pa,3,none⟩,.int .i64 q3) (by simp)).1
 have l_pa:=World.block_lt_of_cell? _ _ k_pa_0
 dsimp only at l_pa
 have ho:=H.out.own
 have hof:=H.out.ownf
 go_wp2_with (fail)
 refine (rnorm_law po 0 false [q0,q1,q2,q3] _ 4 _ (H.out.alloc (.cells #[.int .i64 q0,.int .i64 q1,.int .i64 q2,.int .i64 q3] 3)).own (H.out.alloc (.cells #[.int .i64 q0,.int .i64 q1,.int .i64 q2,.int .i64 q3] 3)).ownf (by simp) (row4 (by simp [go_sem]) (by simp [go_sem]) (by simp [go_sem]) (by simp [go_sem]))).mono ?_
 rintro e Wg0 ⟨nn,g0,rfl,Sg0,A⟩
 have H:Hid _:=(H.out.alloc (.cells #[.int .i64 q0,.int .i64 q1,.int .i64 q2,.int .i64 q3] 3)).after A.out
 clear A k_pa_0 k_pa_1 k_pa_2 k_pa_3 l_pa ho hof
 by_cases hn:nn < 2147483648
 ·have hp:=H.out.flag
  have hpf:=H.out.flagf
  have n1:b ≠ pr:=by omega
  have n2:pr ≠ b:=by omega
  have hWr:W.heap.size <= pr:=by omega
  have rr0:=(H.out.fix (⟨pr,0,none⟩,.int .i64 0) (by simp)).1
  have rf0:=(H.out.fix (⟨pr,0,none⟩,.int .i64 0) (by simp)).2
  have rr1:=(H.out.fix (⟨pr,1,none⟩,.int .i64 0) (by simp)).1
  have rf1:=(H.out.fix (⟨pr,1,none⟩,.int .i64 0) (by simp)).2
  have rr2:=(H.out.fix (⟨pr,2,none⟩,.int .i64 0) (by simp)).1
  have rf2:=(H.out.fix (⟨pr,2,none⟩,.int .i64 0) (by simp)).2
  have rr3:=(H.out.fix (⟨pr,3,none⟩,.int .i64 0) (by simp)).1
  have rf3:=(H.out.fix (⟨pr,3,none⟩,.int .i64 0) (by simp)).2
  have HL:Hid _:=H.out.leaves
  have HS:Hid _:=whole_low (f:=f) (q0:=q0) (q1:=q1) (q2:=q2) (q3:=q3) Sg0.out hn
  clear H Sg0
  go_wp2_with (fail)
  refine bodyPost_ret (by simp [results,Tryz.results125,go_sem,rr0,rr1,rr2,rr3];try rfl) rfl ?_
  refine ⟨0,0,0,0,true,rfl,HS.out,(((((HL.out.own _).set hWr _).set hWr _).set hWr _).set hWr _).done ?_ ?_⟩
  ·simp [go_sem,hp]
  ·simp [go_sem,hpf]
 ·have HN:Hid _:=hn
  have k_pa_0:=(H.out.fix (⟨pa,0,none⟩,.int .i64 q0) (by simp)).1
  have k_pa_1:=(H.out.fix (⟨pa,1,none⟩,.int .i64 q1) (by simp)).1
  have k_pa_2:=(H.out.fix (⟨pa,2,none⟩,.int .i64 q2) (by simp)).1
  have k_pa_3:=(H.out.fix (⟨pa,3,none⟩,.int .i64 q3) (by simp)).1
  have l_pa:=World.block_lt_of_cell? _ _ k_pa_0
  dsimp only at l_pa
  have ho:=H.out.own
  have hof:=H.out.ownf
  go_wp2_with (fail)
  refine (rdiv_law po 0 g0 q0 nn _ ho hof).mono ?_
  rintro e Wg1 ⟨v0,g1,rfl,Sg1,A⟩
  have H:Hid _:=H.out.after A.out
  clear A k_pa_0 k_pa_1 k_pa_2 k_pa_3 l_pa ho hof
  have k_pa_0:=(H.out.fix (⟨pa,0,none⟩,.int .i64 q0) (by simp)).1
  have k_pa_1:=(H.out.fix (⟨pa,1,none⟩,.int .i64 q1) (by simp)).1
  have k_pa_2:=(H.out.fix (⟨pa,2,none⟩,.int .i64 q2) (by simp)).1
  have k_pa_3:=(H.out.fix (⟨pa,3,none⟩,.int .i64 q3) (by simp)).1
  have l_pa:=World.block_lt_of_cell? _ _ k_pa_0
  dsimp only at l_pa
  have ho:=H.out.own
  have hof:=H.out.ownf
  go_wp2_with (fail)
  refine (rdiv_law po 0 g1 q1 nn _ ho hof).mono ?_
  rintro e Wg2 ⟨v1,g2,rfl,Sg2,A⟩
  have H:Hid _:=H.out.after A.out
  clear A k_pa_0 k_pa_1 k_pa_2 k_pa_3 l_pa ho hof
  have k_pa_0:=(H.out.fix (⟨pa,0,none⟩,.int .i64 q0) (by simp)).1
  have k_pa_1:=(H.out.fix (⟨pa,1,none⟩,.int .i64 q1) (by simp)).1
  have k_pa_2:=(H.out.fix (⟨pa,2,none⟩,.int .i64 q2) (by simp)).1
  have k_pa_3:=(H.out.fix (⟨pa,3,none⟩,.int .i64 q3) (by simp)).1
  have l_pa:=World.block_lt_of_cell? _ _ k_pa_0
  dsimp only at l_pa
  have ho:=H.out.own
  have hof:=H.out.ownf
  go_wp2_with (fail)
  refine (rdiv_law po 0 g2 q2 nn _ ho hof).mono ?_
  rintro e Wg3 ⟨v2,g3,rfl,Sg3,A⟩
  have H:Hid _:=H.out.after A.out
  clear A k_pa_0 k_pa_1 k_pa_2 k_pa_3 l_pa ho hof
  have k_pa_0:=(H.out.fix (⟨pa,0,none⟩,.int .i64 q0) (by simp)).1
  have k_pa_1:=(H.out.fix (⟨pa,1,none⟩,.int .i64 q1) (by simp)).1
  have k_pa_2:=(H.out.fix (⟨pa,2,none⟩,.int .i64 q2) (by simp)).1
  have k_pa_3:=(H.out.fix (⟨pa,3,none⟩,.int .i64 q3) (by simp)).1
  have l_pa:=World.block_lt_of_cell? _ _ k_pa_0
  dsimp only at l_pa
  have ho:=H.out.own
  have hof:=H.out.ownf
  go_wp2_with (fail)
  refine (rdiv_law po 0 g3 q3 nn _ ho hof).mono ?_
  rintro e Wg4 ⟨v3,g4,rfl,Sg4,A⟩
  have H:Hid _:=H.out.after A.out
  clear A k_pa_0 k_pa_1 k_pa_2 k_pa_3 l_pa ho hof
  go_wp2_with (fail)
  refine (done_any b off po f g4 _ H.out.flag H.out.flagf H.out.own (by omega)).mono ?_
  rintro e V9 ⟨rfl,A⟩
  have rr0:=A.out.cellOf (H.out.fix (⟨pr,0,none⟩,.int .i64 0) (by simp)).1 (by show pr ≠ b;omega)
  have rf0:=A.out.frozenOf (H.out.fix (⟨pr,0,none⟩,.int .i64 0) (by simp)).1 (H.out.fix (⟨pr,0,none⟩,.int .i64 0) (by simp)).2 (by show pr ≠ b;omega)
  have rr1:=A.out.cellOf (H.out.fix (⟨pr,1,none⟩,.int .i64 0) (by simp)).1 (by show pr ≠ b;omega)
  have rf1:=A.out.frozenOf (H.out.fix (⟨pr,1,none⟩,.int .i64 0) (by simp)).1 (H.out.fix (⟨pr,1,none⟩,.int .i64 0) (by simp)).2 (by show pr ≠ b;omega)
  have rr2:=A.out.cellOf (H.out.fix (⟨pr,2,none⟩,.int .i64 0) (by simp)).1 (by show pr ≠ b;omega)
  have rf2:=A.out.frozenOf (H.out.fix (⟨pr,2,none⟩,.int .i64 0) (by simp)).1 (H.out.fix (⟨pr,2,none⟩,.int .i64 0) (by simp)).2 (by show pr ≠ b;omega)
  have rr3:=A.out.cellOf (H.out.fix (⟨pr,3,none⟩,.int .i64 0) (by simp)).1 (by show pr ≠ b;omega)
  have rf3:=A.out.frozenOf (H.out.fix (⟨pr,3,none⟩,.int .i64 0) (by simp)).1 (H.out.fix (⟨pr,3,none⟩,.int .i64 0) (by simp)).2 (by show pr ≠ b;omega)
  have HL:Hid (Leaves ⟨b,off,none⟩ W V9):=H.out.leaves.same A.out
  have hp:=A.out.cell
  have hpf:=A.out.frozen
  have n1:b ≠ pr:=by omega
  have n2:pr ≠ b:=by omega
  have hWr:W.heap.size <= pr:=by omega
  have HS:Hid _:=whole_chain (f:=f) HN.out Sg0.out Sg1.out Sg2.out Sg3.out Sg4.out
  clear A H
  cases g4 with
  | true =>
   go_wp2_with (fail)
   refine bodyPost_ret (by simp [results,Tryz.results125,go_sem,rr0,rr1,rr2,rr3];try rfl) rfl ?_
   refine ⟨0,0,0,0,_,rfl,HS.out,((((HL.out.set hWr _).set hWr _).set hWr _).set hWr _).done ?_ ?_⟩
   ·simp [go_sem,hp]
   ·simp [go_sem,hpf]
  | false =>
   go_wp2_with (fail)
   refine bodyPost_ret (by simp [results,Tryz.results125,go_sem,rr0,rr1,rr2,rr3];try rfl) rfl ?_
   refine ⟨_,_,_,_,_,rfl,HS.out,((((HL.out.set hWr _).set hWr _).set hWr _).set hWr _).done ?_ ?_⟩
   ·simp [go_sem,hp]
   ·simp [go_sem,hpf]
end
section
open Go.RowKit Ref Fx
def timesBad (p0 p1 p2 p3 q0 q1 q2 q3:Int):Bool:=(((((((false || (sub 0 q1).isNone) || (sub 0 q2).isNone) || (sub 0 q3).isNone) || (dot [p0,p1,p2,p3] [q0,((sub 0 q1).getD 0),((sub 0 q2).getD 0),((sub 0 q3).getD 0)]).isNone) || (dot [p0,p1,p2,p3] [q1,q0,q3,((sub 0 q2).getD 0)]).isNone) || (dot [p0,p1,p2,p3] [q2,((sub 0 q3).getD 0),q0,q1]).isNone) || (dot [p0,p1,p2,p3] [q3,q2,((sub 0 q1).getD 0),q0]).isNone)
def timesAt0 (p0 p1 p2 p3 q0 q1 q2 q3:Int):Int:=(dot [p0,p1,p2,p3] [q0,((sub 0 q1).getD 0),((sub 0 q2).getD 0),((sub 0 q3).getD 0)]).getD 0
def timesAt1 (p0 p1 p2 p3 q0 q1 q2 q3:Int):Int:=(dot [p0,p1,p2,p3] [q1,q0,q3,((sub 0 q2).getD 0)]).getD 0
def timesAt2 (p0 p1 p2 p3 q0 q1 q2 q3:Int):Int:=(dot [p0,p1,p2,p3] [q2,((sub 0 q3).getD 0),q0,q1]).getD 0
def timesAt3 (p0 p1 p2 p3 q0 q1 q2 q3:Int):Int:=(dot [p0,p1,p2,p3] [q3,q2,((sub 0 q1).getD 0),q0]).getD 0
theorem Ho.lay {W V:World} {p:Addr} {po:Nat} {f g:Bool} {l:List (Addr × Value)} (h:Ho W V p po f g l) (cs:Array Value) (t:TypeId) (k:List (Addr × Value)) (hk:∀ c ∈ k,∃ i:Nat,c.1 = ⟨V.heap.size,i,none⟩/\cs[i]? = some c.2):Ho W (V.alloc (.cells cs t)) p po f g (k ++ l):=by
 have h2:=h.alloc (.cells cs t)
 have hlt:=World.block_lt_of_cell? _ _ h.own
 dsimp only at hlt
 refine ⟨h2.leaves,h2.flag,h2.flagf,h2.own,h2.ownf,fun c hc=>?_,fun c hc=>?_,h2.hp,h2.ho⟩
 ·rcases List.mem_append.1 hc with hc | hc
  ·obtain ⟨i,e,hi⟩:=hk c hc
   rw [e]
   exact ⟨by rw [World.cell?_alloc_at _ _ _ _ rfl];exact hi,by simp [go_sem]⟩
  ·exact h2.fix c hc
 ·rcases List.mem_append.1 hc with hc | hc
  ·obtain ⟨i,e,hi⟩:=hk c hc
   rw [e];show V.heap.size ≠ po;omega
  ·exact h2.far c hc
theorem times_chain {f g1 g2 g3 g4 g5 g6 g7:Bool} {p0 p1 p2 p3 q0 q1 q2 q3 x y z a b c d:Int} (h1:Step false (sub 0 q1) x g1) (h2:Step g1 (sub 0 q2) y g2) (h3:Step g2 (sub 0 q3) z g3) (h4:Step g3 (dot [p0,p1,p2,p3] [q0,x,y,z]) a g4) (h5:Step g4 (dot [p0,p1,p2,p3] [q1,q0,q3,y]) b g5) (h6:Step g5 (dot [p0,p1,p2,p3] [q2,z,q0,q1]) c g6) (h7:Step g6 (dot [p0,p1,p2,p3] [q3,q2,x,q0]) d g7) :
  cond g7 0 a = cond (timesBad p0 p1 p2 p3 q0 q1 q2 q3) 0 (timesAt0 p0 p1 p2 p3 q0 q1 q2 q3)/\cond g7 0 b = cond (timesBad p0 p1 p2 p3 q0 q1 q2 q3) 0 (timesAt1 p0 p1 p2 p3 q0 q1 q2 q3)/\cond g7 0 c = cond (timesBad p0 p1 p2 p3 q0 q1 q2 q3) 0 (timesAt2 p0 p1 p2 p3 q0 q1 q2 q3)/\cond g7 0 d = cond (timesBad p0 p1 p2 p3 q0 q1 q2 q3) 0 (timesAt3 p0 p1 p2 p3 q0 q1 q2 q3)/\(f || g7) = (f || timesBad p0 p1 p2 p3 q0 q1 q2 q3):=by
 obtain ⟨rfl,rfl⟩:=h1
 obtain ⟨rfl,rfl⟩:=h2
 obtain ⟨rfl,rfl⟩:=h3
 obtain ⟨rfl,rfl⟩:=h4
 obtain ⟨rfl,rfl⟩:=h5
 obtain ⟨rfl,rfl⟩:=h6
 obtain ⟨rfl,rfl⟩:=h7
 exact ⟨rfl,rfl,rfl,rfl,rfl⟩
theorem rvtimes_law (b off:Nat) (f:Bool) (p0 p1 p2 p3 q0 q1 q2 q3:Int) (W:World) (hc:W.cell? ⟨b,off,none⟩ = some (.bool f)) (hf:W.frozen? ⟨b,off,none⟩ = false) :
  Calls Tryz.prog 124 #[.pointer (some ⟨b,off,none⟩),.agg #[.int .i64 p0,.int .i64 p1,.int .i64 p2,.int .i64 p3],.agg #[.int .i64 q0,.int .i64 q1,.int .i64 q2,.int .i64 q3]] W fun e W'=>∃ v0 v1 v2 v3 g,e = .returned (.agg #[.int .i64 v0,.int .i64 v1,.int .i64 v2,.int .i64 v3])/\Hid (v0 = cond (timesBad p0 p1 p2 p3 q0 q1 q2 q3) 0 (timesAt0 p0 p1 p2 p3 q0 q1 q2 q3)/\v1 = cond (timesBad p0 p1 p2 p3 q0 q1 q2 q3) 0 (timesAt1 p0 p1 p2 p3 q0 q1 q2 q3)/\v2 = cond (timesBad p0 p1 p2 p3 q0 q1 q2 q3) 0 (timesAt2 p0 p1 p2 p3 q0 q1 q2 q3)/\v3 = cond (timesBad p0 p1 p2 p3 q0 q1 q2 q3) 0 (timesAt3 p0 p1 p2 p3 q0 q1 q2 q3)/\g = (f || timesBad p0 p1 p2 p3 q0 q1 q2 q3))/\Hid (After ⟨b,off,none⟩ g W W'):=by
 have hbW:b < W.heap.size:=World.block_lt_of_cell? _ _ hc
 go_enter Tryz.func124,Tryz.ntmps124
 go_wp2_with (fail)
 refine (rvbare_any _).mono ?_
 rintro e W1 ⟨rfl,rfl⟩
 obtain ⟨U,hU⟩:∃ U,U = ((((W.alloc (.cells #[.int .i64 p0,.int .i64 p1,.int .i64 p2,.int .i64 p3] 25)).alloc (.cells #[.int .i64 q0,.int .i64 q1,.int .i64 q2,.int .i64 q3] 25)).alloc (.cells #[.int .i64 0,.int .i64 0,.int .i64 0,.int .i64 0] 25)).alloc (.cells #[.bool false] 44)):=⟨_,rfl⟩
 obtain ⟨pa,hpa⟩:∃ p,p = W.heap.size:=⟨_,rfl⟩
 obtain ⟨pb,hpb⟩:∃ p,p = W.heap.size + 1:=⟨_,rfl⟩
 obtain ⟨pr,hpr⟩:∃ p,p = W.heap.size + 1 + 1:=⟨_,rfl⟩
 obtain ⟨po,hpo⟩:∃ p,p = W.heap.size + 1 + 1 + 1:=⟨_,rfl⟩
 have H:Hid (Ho W U ⟨b,off,none⟩ po f false [(⟨pa,0,none⟩,.int .i64 p0),(⟨pa,1,none⟩,.int .i64 p1),(⟨pa,2,none⟩,.int .i64 p2),(⟨pa,3,none⟩,.int .i64 p3),(⟨pb,0,none⟩,.int .i64 q0),(⟨pb,1,none⟩,.int .i64 q1),(⟨pb,2,none⟩,.int .i64 q2),(⟨pb,3,none⟩,.int .i64 q3),(⟨pr,0,none⟩,.int .i64 0),(⟨pr,1,none⟩,.int .i64 0),(⟨pr,2,none⟩,.int .i64 0),(⟨pr,3,none⟩,.int .i64 0)]):=by
  refine ⟨by rw [hU];exact (((((Leaves.refl _ _).alloc _).alloc _).alloc _).alloc _),by rw [hU,World.cell?_alloc_past _ _ _ (by simp;omega),World.cell?_alloc_past _ _ _ (by simp;omega),World.cell?_alloc_past _ _ _ (by simp;omega),World.cell?_alloc_past _ _ _ hbW];exact hc,by rw [hU,((new_after _ _).frozen (by simp;omega)),((new_after _ _).frozen (by simp;omega)),((new_after _ _).frozen (by simp;omega)),((new_after _ _).frozen hbW)];exact hf,by rw [hU,hpo];simp [go_sem],by rw [hU,hpo];simp [go_sem],?_,?_,hbW,by omega⟩
  ·intro c hc
   simp only [List.mem_cons,List.not_mem_nil,or_false] at hc
   rcases hc with rfl | rfl | rfl | rfl | rfl | rfl | rfl | rfl | rfl | rfl | rfl | rfl <;> rw [hU] <;> dsimp only <;> first | (rw [hpa];exact ⟨by simp [go_sem],by simp [go_sem]⟩) | (rw [hpb];exact ⟨by simp [go_sem],by simp [go_sem]⟩) | (rw [hpr];exact ⟨by simp [go_sem],by simp [go_sem]⟩)
  ·intro c hc
   simp only [List.mem_cons,List.not_mem_nil,or_false] at hc
   rcases hc with rfl | rfl | rfl | rfl | rfl | rfl | rfl | rfl | rfl | rfl | rfl | rfl <;> (dsimp only) <;> omega
 rw [<- hU]
 simp only [World.size_alloc]
 rw [<- hpo,<- hpr,<- hpb,<- hpa]
 have zq1:pa < pb:=by omega
 have zq2:pb < pr:=by omega
 have zq3:pr < po:=by omega
 have zq0:W.heap.size <= pa:=by omega
 clear hU hc hf hpa hpb hpr hpo
 have k_pa_0:=(H.out.fix (⟨pa,0,none⟩,.int .i64 p0) (by simp)).1
 have k_pa_1:=(H.out.fix (⟨pa,1,none⟩,.int .i64 p1) (by simp)).1
 have k_pa_2:=(H.out.fix (⟨pa,2,none⟩,.int .i64 p2) (by simp)).1
 have k_pa_3:=(H.out.fix (⟨pa,3,none⟩,.int .i64 p3) (by simp)).1
 have k_pb_0:=(H.out.fix (⟨pb,0,none⟩,.int .i64 q0) (by simp)).1
 have k_pb_1:=(H.out.fix (⟨pb,1,none⟩,.int .i64 q1) (by simp)).1
 have k_pb_2:=(H.out.fix (⟨pb,2,none⟩,.int .i64 q2) (by simp)).1
 have k_pb_3:=(H.out.fix (⟨pb,3,none⟩,.int .i64 q3) (by simp)).1
 have l_pa:=World.block_lt_of_cell? _ _ k_pa_0
 dsimp only at l_pa
 have l_pb:=World.block_lt_of_cell? _ _ k_pb_0
 dsimp only at l_pb
 have ho:=H.out.own
 have hof:=H.out.ownf
 obtain ⟨pl,hpl⟩:∃ p,p = U.heap.size:=⟨_,rfl⟩
 obtain ⟨U2,hU2⟩:∃ X,X = U.alloc (.cells #[.int .i64 p0,.int .i64 p1,.int .i64 p2,.int .i64 p3] 3):=⟨_,rfl⟩
 have H2:Hid (Ho W U2 ⟨b,off,none⟩ po f false ([(⟨pl,0,none⟩,.int .i64 p0),(⟨pl,1,none⟩,.int .i64 p1),(⟨pl,2,none⟩,.int .i64 p2),(⟨pl,3,none⟩,.int .i64 p3)] ++ [(⟨pa,0,none⟩,.int .i64 p0),(⟨pa,1,none⟩,.int .i64 p1),(⟨pa,2,none⟩,.int .i64 p2),(⟨pa,3,none⟩,.int .i64 p3),(⟨pb,0,none⟩,.int .i64 q0),(⟨pb,1,none⟩,.int .i64 q1),(⟨pb,2,none⟩,.int .i64 q2),(⟨pb,3,none⟩,.int .i64 q3),(⟨pr,0,none⟩,.int .i64 0),(⟨pr,1,none⟩,.int .i64 0),(⟨pr,2,none⟩,.int .i64 0),(⟨pr,3,none⟩,.int .i64 0)])):=by
  show Ho _ _ _ _ _ _ _
  rw [hU2]
  refine H.out.lay _ _ _ (fun c hc=>?_)
  simp only [List.mem_cons,List.not_mem_nil,or_false] at hc
  rcases hc with rfl | rfl | rfl | rfl
  ·exact ⟨0,by rw [hpl],rfl⟩
  ·exact ⟨1,by rw [hpl],rfl⟩
  ·exact ⟨2,by rw [hpl],rfl⟩
  ·exact ⟨3,by rw [hpl],rfl⟩
 go_wp2_with (fail)
 rw [<- hU2,<- hpl]
 have H:Hid _:=H2.out
 clear hU2 hpl H2 k_pa_0 k_pa_1 k_pa_2 k_pa_3 k_pb_0 k_pb_1 k_pb_2 k_pb_3 l_pa l_pb ho hof
 refine (rsub_law po 0 false 0 q1 _ H.out.own H.out.ownf).mono ?_
 rintro e Wg1 ⟨x,g1,rfl,Sg1,A⟩
 have H:Hid _:=H.out.after A.out
 clear A
 have k_pb_0:=(H.out.fix (⟨pb,0,none⟩,.int .i64 q0) (by simp)).1
 have k_pb_1:=(H.out.fix (⟨pb,1,none⟩,.int .i64 q1) (by simp)).1
 have k_pb_2:=(H.out.fix (⟨pb,2,none⟩,.int .i64 q2) (by simp)).1
 have k_pb_3:=(H.out.fix (⟨pb,3,none⟩,.int .i64 q3) (by simp)).1
 have l_pb:=World.block_lt_of_cell? _ _ k_pb_0
 dsimp only at l_pb
 have ho:=H.out.own
 have hof:=H.out.ownf
 go_wp2_with (fail)
 refine (rsub_law po 0 g1 0 q2 _ ho hof).mono ?_
 rintro e Wg2 ⟨y,g2,rfl,Sg2,A⟩
 have H:Hid _:=H.out.after A.out
 clear A k_pb_0 k_pb_1 k_pb_2 k_pb_3 l_pb ho hof
 have k_pb_0:=(H.out.fix (⟨pb,0,none⟩,.int .i64 q0) (by simp)).1
 have k_pb_1:=(H.out.fix (⟨pb,1,none⟩,.int .i64 q1) (by simp)).1
 have k_pb_2:=(H.out.fix (⟨pb,2,none⟩,.int .i64 q2) (by simp)).1
 have k_pb_3:=(H.out.fix (⟨pb,3,none⟩,.int .i64 q3) (by simp)).1
 have l_pb:=World.block_lt_of_cell? _ _ k_pb_0
 dsimp only at l_pb
 have ho:=H.out.own
 have hof:=H.out.ownf
 go_wp2_with (fail)
 refine (rsub_law po 0 g2 0 q3 _ ho hof).mono ?_
 rintro e Wg3 ⟨z,g3,rfl,Sg3,A⟩
 have H:Hid _:=H.out.after A.out
 clear A k_pb_0 k_pb_1 k_pb_2 k_pb_3 l_pb ho hof
 have k_pb_0:=(H.out.fix (⟨pb,0,none⟩,.int .i64 q0) (by simp)).1
 have k_pb_1:=(H.out.fix (⟨pb,1,none⟩,.int .i64 q1) (by simp)).1
 have k_pb_2:=(H.out.fix (⟨pb,2,none⟩,.int .i64 q2) (by simp)).1
 have k_pb_3:=(H.out.fix (⟨pb,3,none⟩,.int .i64 q3) (by simp)).1
 have l_pb:=World.block_lt_of_cell? _ _ k_pb_0
 dsimp only at l_pb
 have ho:=H.out.own
 have hof:=H.out.ownf
 go_wp2_with (fail)
 refine (rdot_law po 0 g3 [p0,p1,p2,p3] [q0,x,y,z] (some ⟨pl,0,none⟩) (some ⟨Wg3.heap.size,0,none⟩) 4 4 (Wg3.alloc (.cells #[.int .i64 q0,.int .i64 x,.int .i64 y,.int .i64 z] 3)) (H.out.alloc (.cells #[.int .i64 q0,.int .i64 x,.int .i64 y,.int .i64 z] 3)).own (H.out.alloc (.cells #[.int .i64 q0,.int .i64 x,.int .i64 y,.int .i64 z] 3)).ownf (by simp) (by simp) (row4 ((H.out.alloc (.cells #[.int .i64 q0,.int .i64 x,.int .i64 y,.int .i64 z] 3)).fix (⟨pl,0,none⟩,.int .i64 p0) (by simp)).1 ((H.out.alloc (.cells #[.int .i64 q0,.int .i64 x,.int .i64 y,.int .i64 z] 3)).fix (⟨pl,1,none⟩,.int .i64 p1) (by simp)).1 ((H.out.alloc (.cells #[.int .i64 q0,.int .i64 x,.int .i64 y,.int .i64 z] 3)).fix (⟨pl,2,none⟩,.int .i64 p2) (by simp)).1 ((H.out.alloc (.cells #[.int .i64 q0,.int .i64 x,.int .i64 y,.int .i64 z] 3)).fix (⟨pl,3,none⟩,.int .i64 p3) (by simp)).1) (row4 (by simp [go_sem]) (by simp [go_sem]) (by simp [go_sem]) (by simp [go_sem]))).mono ?_
 rintro e Wg4 ⟨va,g4,rfl,Sg4,A⟩
 have H:Hid _:=(H.out.alloc (.cells #[.int .i64 q0,.int .i64 x,.int .i64 y,.int .i64 z] 3)).after A.out
 clear A k_pb_0 k_pb_1 k_pb_2 k_pb_3 l_pb ho hof
 have k_pb_0:=(H.out.fix (⟨pb,0,none⟩,.int .i64 q0) (by simp)).1
 have k_pb_1:=(H.out.fix (⟨pb,1,none⟩,.int .i64 q1) (by simp)).1
 have k_pb_2:=(H.out.fix (⟨pb,2,none⟩,.int .i64 q2) (by simp)).1
 have k_pb_3:=(H.out.fix (⟨pb,3,none⟩,.int .i64 q3) (by simp)).1
 have l_pb:=World.block_lt_of_cell? _ _ k_pb_0
 dsimp only at l_pb
 have ho:=H.out.own
 have hof:=H.out.ownf
 go_wp2_with (fail)
 refine (rdot_law po 0 g4 [p0,p1,p2,p3] [q1,q0,q3,y] (some ⟨pl,0,none⟩) (some ⟨Wg4.heap.size,0,none⟩) 4 4 (Wg4.alloc (.cells #[.int .i64 q1,.int .i64 q0,.int .i64 q3,.int .i64 y] 3)) (H.out.alloc (.cells #[.int .i64 q1,.int .i64 q0,.int .i64 q3,.int .i64 y] 3)).own (H.out.alloc (.cells #[.int .i64 q1,.int .i64 q0,.int .i64 q3,.int .i64 y] 3)).ownf (by simp) (by simp) (row4 ((H.out.alloc (.cells #[.int .i64 q1,.int .i64 q0,.int .i64 q3,.int .i64 y] 3)).fix (⟨pl,0,none⟩,.int .i64 p0) (by simp)).1 ((H.out.alloc (.cells #[.int .i64 q1,.int .i64 q0,.int .i64 q3,.int .i64 y] 3)).fix (⟨pl,1,none⟩,.int .i64 p1) (by simp)).1 ((H.out.alloc (.cells #[.int .i64 q1,.int .i64 q0,.int .i64 q3,.int .i64 y] 3)).fix (⟨pl,2,none⟩,.int .i64 p2) (by simp)).1 ((H.out.alloc (.cells #[.int .i64 q1,.int .i64 q0,.int .i64 q3,.int .i64 y] 3)).fix (⟨pl,3,none⟩,.int .i64 p3) (by simp)).1) (row4 (by simp [go_sem]) (by simp [go_sem]) (by simp [go_sem]) (by simp [go_sem]))).mono ?_
 rintro e Wg5 ⟨vb,g5,rfl,Sg5,A⟩
 have H:Hid _:=(H.out.alloc (.cells #[.int .i64 q1,.int .i64 q0,.int .i64 q3,.int .i64 y] 3)).after A.out
 clear A k_pb_0 k_pb_1 k_pb_2 k_pb_3 l_pb ho hof
 have k_pb_0:=(H.out.fix (⟨pb,0,none⟩,.int .i64 q0) (by simp)).1
 have k_pb_1:=(H.out.fix (⟨pb,1,none⟩,.int .i64 q1) (by simp)).1
 have k_pb_2:=(H.out.fix (⟨pb,2,none⟩,.int .i64 q2) (by simp)).1
 have k_pb_3:=(H.out.fix (⟨pb,3,none⟩,.int .i64 q3) (by simp)).1
 have l_pb:=World.block_lt_of_cell? _ _ k_pb_0
 dsimp only at l_pb
 have ho:=H.out.own
 have hof:=H.out.ownf
 go_wp2_with (fail)
 refine (rdot_law po 0 g5 [p0,p1,p2,p3] [q2,z,q0,q1] (some ⟨pl,0,none⟩) (some ⟨Wg5.heap.size,0,none⟩) 4 4 (Wg5.alloc (.cells #[.int .i64 q2,.int .i64 z,.int .i64 q0,.int .i64 q1] 3)) (H.out.alloc (.cells #[.int .i64 q2,.int .i64 z,.int .i64 q0,.int .i64 q1] 3)).own (H.out.alloc (.cells #[.int .i64 q2,.int .i64 z,.int .i64 q0,.int .i64 q1] 3)).ownf (by simp) (by simp) (row4 ((H.out.alloc (.cells #[.int .i64 q2,.int .i64 z,.int .i64 q0,.int .i64 q1] 3)).fix (⟨pl,0,none⟩,.int .i64 p0) (by simp)).1 ((H.out.alloc (.cells #[.int .i64 q2,.int .i64 z,.int .i64 q0,.int .i64 q1] 3)).fix (⟨pl,1,none⟩,.int .i64 p1) (by simp)).1 ((H.out.alloc (.cells #[.int .i64 q2,.int .i64 z,.int .i64 q0,.int .i64 q1] 3)).fix (⟨pl,2,none⟩,.int .i64 p2) (by simp)).1 ((H.out.alloc (.cells #[.int .i64 q2,.int .i64 z,.int .i64 q0,.int .i64 q1] 3)).fix (⟨pl,3,none⟩,.int .i64 p3) (by simp)).1) (row4 (by simp [go_sem]) (by simp [go_sem]) (by simp [go_sem]) (by simp [go_sem]))).mono ?_
 rintro e Wg6 ⟨vc,g6,rfl,Sg6,A⟩
 have H:Hid _:=(H.out.alloc (.cells #[.int .i64 q2,.int .i64 z,.int .i64 q0,.int .i64 q1] 3)).after A.out
 clear A k_pb_0 k_pb_1 k_pb_2 k_pb_3 l_pb ho hof
 have k_pb_0:=(H.out.fix (⟨pb,0,none⟩,.int .i64 q0) (by simp)).1
 have k_pb_1:=(H.out.fix (⟨pb,1,none⟩,.int .i64 q1) (by simp)).1
 have k_pb_2:=(H.out.fix (⟨pb,2,none⟩,.int .i64 q2) (by simp)).1
 have k_pb_3:=(H.out.fix (⟨pb,3,none⟩,.int .i64 q3) (by simp)).1
 have l_pb:=World.block_lt_of_cell? _ _ k_pb_0
 dsimp only at l_pb
 have ho:=H.out.own
 have hof:=H.out.ownf
 go_wp2_with (fail)
 refine (rdot_law po 0 g6 [p0,p1,p2,p3] [q3,q2,x,q0] (some ⟨pl,0,none⟩) (some ⟨Wg6.heap.size,0,none⟩) 4 4 (Wg6.alloc (.cells #[.int .i64 q3,.int .i64 q2,.int .i64 x,.int .i64 q0] 3)) (H.out.alloc (.cells #[.int .i64 q3,.int .i64 q2,.int .i64 x,.int .i64 q0] 3)).own (H.out.alloc (.cells #[.int .i64 q3,.int .i64 q2,.int .i64 x,.int .i64 q0] 3)).ownf (by simp) (by simp) (row4 ((H.out.alloc (.cells #[.int .i64 q3,.int .i64 q2,.int .i64 x,.int .i64 q0] 3)).fix (⟨pl,0,none⟩,.int .i64 p0) (by simp)).1 ((H.out.alloc (.cells #[.int .i64 q3,.int .i64 q2,.int .i64 x,.int .i64 q0] 3)).fix (⟨pl,1,none⟩,.int .i64 p1) (by simp)).1 ((H.out.alloc (.cells #[.int .i64 q3,.int .i64 q2,.int .i64 x,.int .i64 q0] 3)).fix (⟨pl,2,none⟩,.int .i64 p2) (by simp)).1 ((H.out.alloc (.cells #[.int .i64 q3,.int .i64 q2,.int .i64 x,.int .i64 q0] 3)).fix (⟨pl,3,none⟩,.int .i64 p3) (by simp)).1) (row4 (by simp [go_sem]) (by simp [go_sem]) (by simp [go_sem]) (by simp [go_sem]))).mono ?_
 rintro e Wg7 ⟨vd,g7,rfl,Sg7,A⟩
 have H:Hid _:=(H.out.alloc (.cells #[.int .i64 q3,.int .i64 q2,.int .i64 x,.int .i64 q0] 3)).after A.out
 clear A k_pb_0 k_pb_1 k_pb_2 k_pb_3 l_pb ho hof
 go_wp2_with (fail)
 refine (done_any b off po f g7 _ H.out.flag H.out.flagf H.out.own (by omega)).mono ?_
 rintro e V9 ⟨rfl,A⟩
 have rr0:=A.out.cellOf (H.out.fix (⟨pr,0,none⟩,.int .i64 0) (by simp)).1 (by show pr ≠ b;omega)
 have rf0:=A.out.frozenOf (H.out.fix (⟨pr,0,none⟩,.int .i64 0) (by simp)).1 (H.out.fix (⟨pr,0,none⟩,.int .i64 0) (by simp)).2 (by show pr ≠ b;omega)
 have rr1:=A.out.cellOf (H.out.fix (⟨pr,1,none⟩,.int .i64 0) (by simp)).1 (by show pr ≠ b;omega)
 have rf1:=A.out.frozenOf (H.out.fix (⟨pr,1,none⟩,.int .i64 0) (by simp)).1 (H.out.fix (⟨pr,1,none⟩,.int .i64 0) (by simp)).2 (by show pr ≠ b;omega)
 have rr2:=A.out.cellOf (H.out.fix (⟨pr,2,none⟩,.int .i64 0) (by simp)).1 (by show pr ≠ b;omega)
 have rf2:=A.out.frozenOf (H.out.fix (⟨pr,2,none⟩,.int .i64 0) (by simp)).1 (H.out.fix (⟨pr,2,none⟩,.int .i64 0) (by simp)).2 (by show pr ≠ b;omega)
 have rr3:=A.out.cellOf (H.out.fix (⟨pr,3,none⟩,.int .i64 0) (by simp)).1 (by show pr ≠ b;omega)
 have rf3:=A.out.frozenOf (H.out.fix (⟨pr,3,none⟩,.int .i64 0) (by simp)).1 (H.out.fix (⟨pr,3,none⟩,.int .i64 0) (by simp)).2 (by show pr ≠ b;omega)
 have HL:Hid (Leaves ⟨b,off,none⟩ W V9):=H.out.leaves.same A.out
 have hp:=A.out.cell
 have hpf:=A.out.frozen
 have n1:b ≠ pr:=by omega
 have n2:pr ≠ b:=by omega
 have hWr:W.heap.size <= pr:=by omega
 have HS:Hid _:=times_chain (f:=f) Sg1.out Sg2.out Sg3.out Sg4.out Sg5.out Sg6.out Sg7.out
 clear A H
 cases g7 with
 | true =>
  go_wp2_with (fail)
  refine bodyPost_ret (by simp [results,Tryz.results124,go_sem,rr0,rr1,rr2,rr3];try rfl) rfl ?_
  refine ⟨0,0,0,0,_,rfl,HS.out,((((HL.out.set hWr _).set hWr _).set hWr _).set hWr _).done ?_ ?_⟩
  ·simp [go_sem,hp]
  ·simp [go_sem,hpf]
 | false =>
  go_wp2_with (fail)
  refine bodyPost_ret (by simp [results,Tryz.results124,go_sem,rr0,rr1,rr2,rr3];try rfl) rfl ?_
  refine ⟨_,_,_,_,_,rfl,HS.out,((((HL.out.set hWr _).set hWr _).set hWr _).set hWr _).done ?_ ?_⟩
  ·simp [go_sem,hp]
  ·simp [go_sem,hpf]
end
end Go.Proofs.YtpjaacpcdomfiaaGreat
