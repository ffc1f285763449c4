/- Package vec's turning of a vector by a matrix. -/
import Derived.Test.YteebbpioffdncaaGreatEBBack5
set_option maxHeartbeats 4000000
set_option linter.unusedVariables false
namespace Go.Proofs.YteebbpioffdncaaGreat
open Go renaming execOp -> JD
open Go.Value renaming int -> J
open Go.IntKind renaming i64 -> Y
section
open Go.RowKit Fx
theorem Jij {f:Bool} {a b c:Option Int} {bd:Bool} (hb:bd = (a.isNone || (b.isNone || c.isNone))):Jc3 f a b c (cond bd 0 (a.getD 0)) (cond bd 0 (b.getD 0)) (cond bd 0 (c.getD 0)) (f || bd):=by
 rw [<- Bool.or_assoc] at hb
 rw [hb]
 exact ⟨rfl,rfl,rfl,rfl⟩
def Jam (b off:Nat) (f:Bool) (pm pa pr po:Nat) (m0 m1 m2 m3 m4 m5 m6 m7 m8 x0 x1 x2:Int) (W U:World):Bool:=false || ([(4,(dot [m0,m1,m2] [x0,x1,x2]).isNone),(8,(dot [m3,m4,m5] [x0,x1,x2]).isNone),(12,(dot [m6,m7,m8] [x0,x1,x2]).isNone)]:List (Nat × Bool)).any (·.2)
def Jes (b off:Nat) (f:Bool) (pm pa pr po:Nat) (m0 m1 m2 m3 m4 m5 m6 m7 m8 x0 x1 x2:Int) (W U:World):Nat->Shape
 | 0=>.is (.pointer (some ⟨b,off,none⟩))
 | 1=>.is (.pointer (some ⟨pm,0,none⟩))
 | 2=>.is (.agg #[J Y m0,J Y m1,J Y m2])
 | 3=>.is (.agg #[J Y x0,J Y x1,J Y x2])
 | 4=>.is (J Y ((dot [m0,m1,m2] [x0,x1,x2]).getD 0))
 | 5=>.is (.pointer (some ⟨pm,3,none⟩))
 | 6=>.is (.agg #[J Y m3,J Y m4,J Y m5])
 | 7=>.is (.agg #[J Y x0,J Y x1,J Y x2])
 | 8=>.is (J Y ((dot [m3,m4,m5] [x0,x1,x2]).getD 0))
 | 9=>.is (.pointer (some ⟨pm,6,none⟩))
 | 10=>.is (.agg #[J Y m6,J Y m7,J Y m8])
 | 11=>.is (.agg #[J Y x0,J Y x1,J Y x2])
 | 12=>.is (J Y ((dot [m6,m7,m8] [x0,x1,x2]).getD 0))
 | 13=>.is (.agg #[J Y ((dot [m0,m1,m2] [x0,x1,x2]).getD 0),J Y ((dot [m3,m4,m5] [x0,x1,x2]).getD 0),J Y ((dot [m6,m7,m8] [x0,x1,x2]).getD 0)])
 | 14=>.is (.agg #[J Y (cond (Jam b off f pm pa pr po m0 m1 m2 m3 m4 m5 m6 m7 m8 x0 x1 x2 W U) 0 ((dot [m0,m1,m2] [x0,x1,x2]).getD 0)),J Y (cond (Jam b off f pm pa pr po m0 m1 m2 m3 m4 m5 m6 m7 m8 x0 x1 x2 W U) 0 ((dot [m3,m4,m5] [x0,x1,x2]).getD 0)),J Y (cond (Jam b off f pm pa pr po m0 m1 m2 m3 m4 m5 m6 m7 m8 x0 x1 x2 W U) 0 ((dot [m6,m7,m8] [x0,x1,x2]).getD 0))])
 | 15=>.ptr
 | _=>.ptr
def Jp (b off:Nat) (f:Bool) (pm pa pr po:Nat) (m0 m1 m2 m3 m4 m5 m6 m7 m8 x0 x1 x2:Int) (W U:World):Plan where
 W:=W
 N:=U.heap.size
 p:=⟨b,off,none⟩
 fl:=⟨po,0,none⟩
 g0:=false
 bad:=Jam b off f pm pa pr po m0 m1 m2 m3 m4 m5 m6 m7 m8 x0 x1 x2 W U
 f:=f
 calls:=[(4,(dot [m0,m1,m2] [x0,x1,x2]).isNone),(8,(dot [m3,m4,m5] [x0,x1,x2]).isNone),(12,(dot [m6,m7,m8] [x0,x1,x2]).isNone)]
 tl:=14
 st:=15
 r:=pr
 res:=[J Y (cond (Jam b off f pm pa pr po m0 m1 m2 m3 m4 m5 m6 m7 m8 x0 x1 x2 W U) 0 ((dot [m0,m1,m2] [x0,x1,x2]).getD 0)),J Y (cond (Jam b off f pm pa pr po m0 m1 m2 m3 m4 m5 m6 m7 m8 x0 x1 x2 W U) 0 ((dot [m3,m4,m5] [x0,x1,x2]).getD 0)),J Y (cond (Jam b off f pm pa pr po m0 m1 m2 m3 m4 m5 m6 m7 m8 x0 x1 x2 W U) 0 ((dot [m6,m7,m8] [x0,x1,x2]).getD 0))]
 fixed:=[(⟨pm,0,none⟩,J Y m0),
  (⟨pm,1,none⟩,J Y m1),
  (⟨pm,2,none⟩,J Y m2),
  (⟨pm,3,none⟩,J Y m3),
  (⟨pm,4,none⟩,J Y m4),
  (⟨pm,5,none⟩,J Y m5),
  (⟨pm,6,none⟩,J Y m6),
  (⟨pm,7,none⟩,J Y m7),
  (⟨pm,8,none⟩,J Y m8),
  (⟨pa,0,none⟩,J Y x0),
  (⟨pa,1,none⟩,J Y x1),
  (⟨pa,2,none⟩,J Y x2)]
 made:=[]
theorem Jjm (b off:Nat) (f:Bool) (pm pa pr po:Nat) (m0 m1 m2 m3 m4 m5 m6 m7 m8 x0 x1 x2:Int) (W U:World):((Jp b off f pm pa pr po m0 m1 m2 m3 m4 m5 m6 m7 m8 x0 x1 x2 W U).calls.map (·.1)).Nodup:=of_decide_eq_true rfl
theorem Ji0 (b off:Nat) (f:Bool) (pm pa pr po:Nat) (m0 m1 m2 m3 m4 m5 m6 m7 m8 x0 x1 x2:Int) (W U:World):((Jp b off f pm pa pr po m0 m1 m2 m3 m4 m5 m6 m7 m8 x0 x1 x2 W U).bad = true->(Jp b off f pm pa pr po m0 m1 m2 m3 m4 m5 m6 m7 m8 x0 x1 x2 W U).g0 = true \/ ∃ c ∈ (Jp b off f pm pa pr po m0 m1 m2 m3 m4 m5 m6 m7 m8 x0 x1 x2 W U).calls,c.2 = true)/\∀ c ∈ (Jp b off f pm pa pr po m0 m1 m2 m3 m4 m5 m6 m7 m8 x0 x1 x2 W U).calls,c.2 = true->(Jp b off f pm pa pr po m0 m1 m2 m3 m4 m5 m6 m7 m8 x0 x1 x2 W U).bad = true:=
 Jc9 _ rfl
theorem Jiz (b off:Nat) (f:Bool) (m0 m1 m2 m3 m4 m5 m6 m7 m8 x0 x1 x2:Int) (W:World) (hc:W.cell? ⟨b,off,none⟩ = some (.bool f)) (hf:W.frozen? ⟨b,off,none⟩ = false) :
  Calls Tryz.prog 95 #[.pointer (some ⟨b,off,none⟩),.agg #[J Y m0,J Y m1,J Y m2,J Y m3,J Y m4,J Y m5,J Y m6,J Y m7,J Y m8],.agg #[J Y x0,J Y x1,J Y x2]] W fun e W'=>∃ v0 v1 v2 g,e = .returned (.agg #[J Y v0,J Y v1,J Y v2])/\Hid (Jc3 f (dot [m0,m1,m2] [x0,x1,x2]) (dot [m3,m4,m5] [x0,x1,x2]) (dot [m6,m7,m8] [x0,x1,x2]) v0 v1 v2 g)/\Hid (After ⟨b,off,none⟩ g W W'):=by
 have hbW:b < W.heap.size:=World.block_lt_of_cell? _ _ hc
 go_enter Tryz.func95,Tryz.ntmps95
 go_wp2_with (fail)
 obtain ⟨U,hU⟩:∃ U,U = ((((W.alloc (.cells #[J Y m0,J Y m1,J Y m2,J Y m3,J Y m4,J Y m5,J Y m6,J Y m7,J Y m8] 123)).alloc (.cells #[J Y x0,J Y x1,J Y x2] 27)).alloc (.cells #[J Y 0,J Y 0,J Y 0] 27)).alloc (.cells #[.bool false] 47)):=⟨_,rfl⟩
 have hUs:U.heap.size = W.heap.size + 4:=by rw [hU];simp
 have HL:Hid (Leaves ⟨b,off,none⟩ W U):=by show Leaves _ _ _;rw [hU];exact (((((Leaves.refl _ _).alloc _).alloc _).alloc _).alloc _)
 have hp:U.cell? ⟨b,off,none⟩ = some (.bool f):=(by rw [hU,World.cell?_alloc_past _ _ _ (by simp;omega),World.cell?_alloc_past _ _ _ (by simp;omega),World.cell?_alloc_past _ _ _ (by simp;omega),World.cell?_alloc_past _ _ _ hbW];exact hc)
 have hpf:U.frozen? ⟨b,off,none⟩ = false:=by rw [hU,((Jg _ _).frozen (by simp;omega)),((Jg _ _).frozen (by simp;omega)),((Jg _ _).frozen (by simp;omega)),((Jg _ _).frozen hbW)];exact hf
 have ho:U.cell? ⟨W.heap.size + 1 + 1 + 1,0,none⟩ = some (.bool false):=by rw [hU];simp [go_sem]
 have hof:U.frozen? ⟨W.heap.size + 1 + 1 + 1,0,none⟩ = false:=by rw [hU];simp [go_sem]
 have k0_0:U.cell? ⟨W.heap.size,0,none⟩ = some (J Y m0):=by rw [hU];simp [go_sem]
 have k0_1:U.cell? ⟨W.heap.size,1,none⟩ = some (J Y m1):=by rw [hU];simp [go_sem]
 have k0_2:U.cell? ⟨W.heap.size,2,none⟩ = some (J Y m2):=by rw [hU];simp [go_sem]
 have k0_3:U.cell? ⟨W.heap.size,3,none⟩ = some (J Y m3):=by rw [hU];simp [go_sem]
 have k0_4:U.cell? ⟨W.heap.size,4,none⟩ = some (J Y m4):=by rw [hU];simp [go_sem]
 have k0_5:U.cell? ⟨W.heap.size,5,none⟩ = some (J Y m5):=by rw [hU];simp [go_sem]
 have k0_6:U.cell? ⟨W.heap.size,6,none⟩ = some (J Y m6):=by rw [hU];simp [go_sem]
 have k0_7:U.cell? ⟨W.heap.size,7,none⟩ = some (J Y m7):=by rw [hU];simp [go_sem]
 have k0_8:U.cell? ⟨W.heap.size,8,none⟩ = some (J Y m8):=by rw [hU];simp [go_sem]
 have k1_0:U.cell? ⟨W.heap.size + 1,0,none⟩ = some (J Y x0):=by rw [hU];simp [go_sem]
 have k1_1:U.cell? ⟨W.heap.size + 1,1,none⟩ = some (J Y x1):=by rw [hU];simp [go_sem]
 have k1_2:U.cell? ⟨W.heap.size + 1,2,none⟩ = some (J Y x2):=by rw [hU];simp [go_sem]
 have rr0:U.cell? ⟨W.heap.size + 1 + 1,0,none⟩ = some (J Y 0):=by rw [hU];simp [go_sem]
 have rf0:U.frozen? ⟨W.heap.size + 1 + 1,0,none⟩ = false:=by rw [hU];simp [go_sem]
 have rr1:U.cell? ⟨W.heap.size + 1 + 1,1,none⟩ = some (J Y 0):=by rw [hU];simp [go_sem]
 have rf1:U.frozen? ⟨W.heap.size + 1 + 1,1,none⟩ = false:=by rw [hU];simp [go_sem]
 have rr2:U.cell? ⟨W.heap.size + 1 + 1,2,none⟩ = some (J Y 0):=by rw [hU];simp [go_sem]
 have rf2:U.frozen? ⟨W.heap.size + 1 + 1,2,none⟩ = false:=by rw [hU];simp [go_sem]
 rw [<- hU]
 clear hU hc hf
 obtain ⟨pm,hpm⟩:∃ p,p = W.heap.size:=⟨_,rfl⟩
 obtain ⟨pa,hpa⟩:∃ p,p = W.heap.size + 1:=⟨_,rfl⟩
 obtain ⟨pr,hpr⟩:∃ p,p = W.heap.size + 1 + 1:=⟨_,rfl⟩
 obtain ⟨po,hpo⟩:∃ p,p = W.heap.size + 1 + 1 + 1:=⟨_,rfl⟩
 rw [<- hpo] at ho hof
 rw [<- hpo]
 rw [<- hpr] at rr0 rf0 rr1 rf1 rr2 rf2
 rw [<- hpr]
 rw [<- hpa] at k1_0 k1_1 k1_2
 rw [<- hpa]
 rw [<- hpm] at k0_0 k0_1 k0_2 k0_3 k0_4 k0_5 k0_6 k0_7 k0_8
 rw [<- hpm]
 have q0:W.heap.size <= pm:=by omega
 have q1:pm < pa:=by omega
 have q2:pa < pr:=by omega
 have q3:pr < po:=by omega
 have q9:po < U.heap.size:=by omega
 clear hpm hpa hpr hpo hUs
 have hπ:(Jp b off f pm pa pr po m0 m1 m2 m3 m4 m5 m6 m7 m8 x0 x1 x2 W U).Good:=by
  refine Jfr ?_ ?_ ?_ ?_ ?_ ?_ ?_ (Ji0 b off f pm pa pr po m0 m1 m2 m3 m4 m5 m6 m7 m8 x0 x1 x2 W U).1 (Ji0 b off f pm pa pr po m0 m1 m2 m3 m4 m5 m6 m7 m8 x0 x1 x2 W U).2
  ·show W.heap.size <= pr;omega
  ·show pr < U.heap.size;omega
  ·exact Or.inr (by show W.heap.size <= po;omega)
  ·show po < U.heap.size;omega
  ·show po ≠ pr;omega
  ·show b < W.heap.size;omega
  ·intro c hc
   simp only [Jp,List.mem_cons,List.not_mem_nil,or_false] at hc
   rcases hc with rfl | rfl | rfl | rfl | rfl | rfl | rfl | rfl | rfl | rfl | rfl | rfl <;> (show _ < U.heap.size/\_ ≠ po/\_ ≠ b/\_ ≠ pr) <;> (dsimp only) <;> omega
 refine region_by (Jl (Jes b off f pm pa pr po m0 m1 m2 m3 m4 m5 m6 m7 m8 x0 x1 x2 W U)) (Glob (Jp b off f pm pa pr po m0 m1 m2 m3 m4 m5 m6 m7 m8 x0 x1 x2 W U)) (by kernel_rfl) (by kernel_rfl) (by kernel_rfl) (by kernel_rfl) (fun _=>0) ?_ ?_ ?_
 ·refine ⟨?_,?_,?_,?_,?_,?_,(fun _ _ h=>by cases h),(fun _ _ _ _ h=>by cases h)⟩
  ·exact HL.out.drew
  ·exact Nat.le_refl _
  ·exact ⟨false,ho,hof,fun h=>by show Jam b off f pm pa pr po m0 m1 m2 m3 m4 m5 m6 m7 m8 x0 x1 x2 W U = true;simp [Jam,h],fun h=>h,fun _ _ h=>by cases h⟩
  ·refine Or.inr ⟨?_,hpf⟩
   show U.cell? ⟨b,off,none⟩ = some (.bool (f || (false && Jam b off f pm pa pr po m0 m1 m2 m3 m4 m5 m6 m7 m8 x0 x1 x2 W U)))
   rw [Bool.false_and,Bool.or_false];exact hp
  ·refine ⟨[J Y 0,J Y 0,J Y 0],rfl,?_,fun h=>by cases h⟩
   intro k v hk
   match k,hk with
   | 0,hk=>simp at hk;subst hk;exact ⟨rr0,rf0⟩
   | 1,hk=>simp at hk;subst hk;exact ⟨rr1,rf1⟩
   | 2,hk=>simp at hk;subst hk;exact ⟨rr2,rf2⟩
  ·intro c hc
   simp only [Jp,List.mem_cons,List.not_mem_nil,or_false] at hc
   rcases hc with rfl | rfl | rfl | rfl | rfl | rfl | rfl | rfl | rfl | rfl | rfl | rfl <;> assumption
 ·generalize hD:Jai _ = D
  generalize hA:Jab _ = A
  generalize hZ:Act.mk _ _ = Z
  have d0:D 0 = some 8:=by rw [<- hD];rfl
  have d1:D 1 = some 9:=by rw [<- hD];rfl
  have d2:D 2 = some 10:=by rw [<- hD];rfl
  have d3:D 3 = some 11:=by rw [<- hD];rfl
  have d4:D 4 = some 12:=by rw [<- hD];rfl
  have d5:D 5 = some 13:=by rw [<- hD];rfl
  have d6:D 6 = some 14:=by rw [<- hD];rfl
  have d7:D 7 = some 15:=by rw [<- hD];rfl
  have d8:D 8 = some 16:=by rw [<- hD];rfl
  have d9:D 9 = some 17:=by rw [<- hD];rfl
  have d10:D 10 = some 18:=by rw [<- hD];rfl
  have d11:D 11 = some 19:=by rw [<- hD];rfl
  have d12:D 12 = some 20:=by rw [<- hD];rfl
  have d13:D 13 = some 21:=by rw [<- hD];rfl
  have d14:D 14 = some 22:=by rw [<- hD];rfl
  have R0:∀ (γ:Nat->Nat) (L:Nat->Bool) (a:Act) (w:World),Held D A (Jl (Jes b off f pm pa pr po m0 m1 m2 m3 m4 m5 m6 m7 m8 x0 x1 x2 W U)) (Glob (Jp b off f pm pa pr po m0 m1 m2 m3 m4 m5 m6 m7 m8 x0 x1 x2 W U)) Z γ L a w->a.tmps[0]? = some (.pointer (some ⟨b,off,none⟩)):=fun γ L a w hH=>(hH.rest 0 (by rw [<- hD];exact dst_free (by kernel_rfl))).trans (by rw [<- hZ];rfl)
  have R4:∀ (γ:Nat->Nat) (L:Nat->Bool) (a:Act) (w:World),Held D A (Jl (Jes b off f pm pa pr po m0 m1 m2 m3 m4 m5 m6 m7 m8 x0 x1 x2 W U)) (Glob (Jp b off f pm pa pr po m0 m1 m2 m3 m4 m5 m6 m7 m8 x0 x1 x2 W U)) Z γ L a w->a.tmps[4]? = some (.pointer (some ⟨pm,0,none⟩)):=fun γ L a w hH=>(hH.rest 4 (by rw [<- hD];exact dst_free (by kernel_rfl))).trans (by rw [<- hZ];rfl)
  have R5:∀ (γ:Nat->Nat) (L:Nat->Bool) (a:Act) (w:World),Held D A (Jl (Jes b off f pm pa pr po m0 m1 m2 m3 m4 m5 m6 m7 m8 x0 x1 x2 W U)) (Glob (Jp b off f pm pa pr po m0 m1 m2 m3 m4 m5 m6 m7 m8 x0 x1 x2 W U)) Z γ L a w->a.tmps[5]? = some (.pointer (some ⟨pa,0,none⟩)):=fun γ L a w hH=>(hH.rest 5 (by rw [<- hD];exact dst_free (by kernel_rfl))).trans (by rw [<- hZ];rfl)
  have R6:∀ (γ:Nat->Nat) (L:Nat->Bool) (a:Act) (w:World),Held D A (Jl (Jes b off f pm pa pr po m0 m1 m2 m3 m4 m5 m6 m7 m8 x0 x1 x2 W U)) (Glob (Jp b off f pm pa pr po m0 m1 m2 m3 m4 m5 m6 m7 m8 x0 x1 x2 W U)) Z γ L a w->a.tmps[6]? = some (.pointer (some ⟨pr,0,none⟩)):=fun γ L a w hH=>(hH.rest 6 (by rw [<- hD];exact dst_free (by kernel_rfl))).trans (by rw [<- hZ];rfl)
  have R7:∀ (γ:Nat->Nat) (L:Nat->Bool) (a:Act) (w:World),Held D A (Jl (Jes b off f pm pa pr po m0 m1 m2 m3 m4 m5 m6 m7 m8 x0 x1 x2 W U)) (Glob (Jp b off f pm pa pr po m0 m1 m2 m3 m4 m5 m6 m7 m8 x0 x1 x2 W U)) Z γ L a w->a.tmps[7]? = some (.pointer (some ⟨po,0,none⟩)):=fun γ L a w hH=>(hH.rest 7 (by rw [<- hD];exact dst_free (by kernel_rfl))).trans (by rw [<- hZ];rfl)
  have A_13_4:A 13 4:=by rw [<- hA];exact ⟨_,rfl,⟨4,.data⟩,by simp,rfl,rfl⟩
  have A_13_8:A 13 8:=by rw [<- hA];exact ⟨_,rfl,⟨8,.data⟩,by simp,rfl,rfl⟩
  have A_13_12:A 13 12:=by rw [<- hA];exact ⟨_,rfl,⟨12,.data⟩,by simp,rfl,rfl⟩
  clear hD hA hZ
  refine AllDo.cons 0 rfl (Jd _ rfl rfl (fun γ L a w hH hA=>by have e1:=R0 γ L a w hH;simp [JD,go_sem,e1])) ?_
  refine AllDo.cons 1 rfl (Jd _ rfl rfl (fun γ L a w hH hA=>by have e1:=R4 γ L a w hH;simp [JD,go_sem,e1])) ?_
  refine AllDo.cons 2 rfl (Jd _ rfl rfl (fun γ L a w hH hA=>by have e1:=hH.at d1 rfl (hA ⟨1,.data⟩ (by simp) rfl);have e2:=hH.glob.fix (⟨pm,0,none⟩,J Y m0) (by simp [Jp]);have e3:=hH.glob.fix (⟨pm,1,none⟩,J Y m1) (by simp [Jp]);have e4:=hH.glob.fix (⟨pm,2,none⟩,J Y m2) (by simp [Jp]);simp [JD,go_sem,e1,e2,e3,e4])) ?_
  refine AllDo.cons 3 rfl (Jd _ rfl rfl (fun γ L a w hH hA=>by have e1:=R5 γ L a w hH;have e2:=hH.glob.fix (⟨pa,0,none⟩,J Y x0) (by simp [Jp]);have e3:=hH.glob.fix (⟨pa,1,none⟩,J Y x1) (by simp [Jp]);have e4:=hH.glob.fix (⟨pa,2,none⟩,J Y x2) (by simp [Jp]);simp [JD,go_sem,e1,e2,e3,e4])) ?_
  refine AllDo.cons 4 rfl (J9 hπ _ ((dot [m0,m1,m2] [x0,x1,x2]).isNone) rfl (by simp [Jp]) (J7 (Jjm b off f pm pa pr po m0 m1 m2 m3 m4 m5 m6 m7 m8 x0 x1 x2 W U) (by simp [Jp])) rfl (fun γ L a w hH hA g hg hz=>by have e1:=R7 γ L a w hH;have e2:=hH.at d2 rfl (hA ⟨2,.data⟩ (by simp) rfl);have e3:=hH.at d3 rfl (hA ⟨3,.data⟩ (by simp) rfl);exact ⟨137,#[.pointer (some ⟨po,0,none⟩),.agg #[J Y m0,J Y m1,J Y m2],.agg #[J Y x0,J Y x1,J Y x2]],by simp [go_sem,e1,e2,e3],(Jhe po 0 g (m0) (m1) (m2) (x0) (x1) (x2) w hg hz).mono (by rintro e W1 ⟨v,g1,rfl,S,Z⟩;exact ⟨by rw [S.out.1],g1,S.out.2,Z.out⟩)⟩)) ?_
  refine AllDo.cons 5 rfl (Jd _ rfl rfl (fun γ L a w hH hA=>by have e1:=R4 γ L a w hH;simp [JD,go_sem,e1])) ?_
  refine AllDo.cons 6 rfl (Jd _ rfl rfl (fun γ L a w hH hA=>by have e1:=hH.at d5 rfl (hA ⟨5,.data⟩ (by simp) rfl);have e2:=hH.glob.fix (⟨pm,3,none⟩,J Y m3) (by simp [Jp]);have e3:=hH.glob.fix (⟨pm,4,none⟩,J Y m4) (by simp [Jp]);have e4:=hH.glob.fix (⟨pm,5,none⟩,J Y m5) (by simp [Jp]);simp [JD,go_sem,e1,e2,e3,e4])) ?_
  refine AllDo.cons 7 rfl (Jd _ rfl rfl (fun γ L a w hH hA=>by have e1:=R5 γ L a w hH;have e2:=hH.glob.fix (⟨pa,0,none⟩,J Y x0) (by simp [Jp]);have e3:=hH.glob.fix (⟨pa,1,none⟩,J Y x1) (by simp [Jp]);have e4:=hH.glob.fix (⟨pa,2,none⟩,J Y x2) (by simp [Jp]);simp [JD,go_sem,e1,e2,e3,e4])) ?_
  refine AllDo.cons 8 rfl (J9 hπ _ ((dot [m3,m4,m5] [x0,x1,x2]).isNone) rfl (by simp [Jp]) (J7 (Jjm b off f pm pa pr po m0 m1 m2 m3 m4 m5 m6 m7 m8 x0 x1 x2 W U) (by simp [Jp])) rfl (fun γ L a w hH hA g hg hz=>by have e1:=R7 γ L a w hH;have e2:=hH.at d6 rfl (hA ⟨6,.data⟩ (by simp) rfl);have e3:=hH.at d7 rfl (hA ⟨7,.data⟩ (by simp) rfl);exact ⟨137,#[.pointer (some ⟨po,0,none⟩),.agg #[J Y m3,J Y m4,J Y m5],.agg #[J Y x0,J Y x1,J Y x2]],by simp [go_sem,e1,e2,e3],(Jhe po 0 g (m3) (m4) (m5) (x0) (x1) (x2) w hg hz).mono (by rintro e W1 ⟨v,g1,rfl,S,Z⟩;exact ⟨by rw [S.out.1],g1,S.out.2,Z.out⟩)⟩)) ?_
  refine AllDo.cons 9 rfl (Jd _ rfl rfl (fun γ L a w hH hA=>by have e1:=R4 γ L a w hH;simp [JD,go_sem,e1])) ?_
  refine AllDo.cons 10 rfl (Jd _ rfl rfl (fun γ L a w hH hA=>by have e1:=hH.at d9 rfl (hA ⟨9,.data⟩ (by simp) rfl);have e2:=hH.glob.fix (⟨pm,6,none⟩,J Y m6) (by simp [Jp]);have e3:=hH.glob.fix (⟨pm,7,none⟩,J Y m7) (by simp [Jp]);have e4:=hH.glob.fix (⟨pm,8,none⟩,J Y m8) (by simp [Jp]);simp [JD,go_sem,e1,e2,e3,e4])) ?_
  refine AllDo.cons 11 rfl (Jd _ rfl rfl (fun γ L a w hH hA=>by have e1:=R5 γ L a w hH;have e2:=hH.glob.fix (⟨pa,0,none⟩,J Y x0) (by simp [Jp]);have e3:=hH.glob.fix (⟨pa,1,none⟩,J Y x1) (by simp [Jp]);have e4:=hH.glob.fix (⟨pa,2,none⟩,J Y x2) (by simp [Jp]);simp [JD,go_sem,e1,e2,e3,e4])) ?_
  refine AllDo.cons 12 rfl (J9 hπ _ ((dot [m6,m7,m8] [x0,x1,x2]).isNone) rfl (by simp [Jp]) (J7 (Jjm b off f pm pa pr po m0 m1 m2 m3 m4 m5 m6 m7 m8 x0 x1 x2 W U) (by simp [Jp])) rfl (fun γ L a w hH hA g hg hz=>by have e1:=R7 γ L a w hH;have e2:=hH.at d10 rfl (hA ⟨10,.data⟩ (by simp) rfl);have e3:=hH.at d11 rfl (hA ⟨11,.data⟩ (by simp) rfl);exact ⟨137,#[.pointer (some ⟨po,0,none⟩),.agg #[J Y m6,J Y m7,J Y m8],.agg #[J Y x0,J Y x1,J Y x2]],by simp [go_sem,e1,e2,e3],(Jhe po 0 g (m6) (m7) (m8) (x0) (x1) (x2) w hg hz).mono (by rintro e W1 ⟨v,g1,rfl,S,Z⟩;exact ⟨by rw [S.out.1],g1,S.out.2,Z.out⟩)⟩)) ?_
  refine AllDo.cons 13 rfl (Jd _ rfl rfl (fun γ L a w hH hA=>by have e1:=hH.at d4 rfl (hA ⟨4,.data⟩ (by simp) rfl);have e2:=hH.at d8 rfl (hA ⟨8,.data⟩ (by simp) rfl);have e3:=hH.at d12 rfl (hA ⟨12,.data⟩ (by simp) rfl);simp [JD,go_sem,e1,e2,e3])) ?_
  refine AllDo.cons 14 rfl (Jet hπ _ rfl (fun e=>by have e2:po = b:=congrArg Addr.block e;omega) (by simp [Jp]) (by simp [Jp]) (by simp [Jp]) rfl (fun L hcl haft c hc=>by have L13:L 13 = true:=haft ⟨13,.data⟩ (by simp) rfl;have L4:L 4 = true:=hcl 13 4 A_13_4 L13;have L8:L 8 = true:=hcl 13 8 A_13_8 L13;have L12:L 12 = true:=hcl 13 12 A_13_12 L13;simp only [Jp,List.mem_cons,List.not_mem_nil,or_false] at hc;rcases hc with rfl | rfl | rfl;all_goals assumption) (fun γ L a w hH hA hb hp hpf=>by have e1:=hH.at d0 rfl (hA ⟨0,.data⟩ (by simp) rfl);have e2:=R7 γ L a w hH;have e3:=hH.at d13 rfl (hA ⟨13,.data⟩ (by simp) rfl);exact ⟨105,#[.pointer (some ⟨b,off,none⟩),.pointer (some ⟨po,0,none⟩),.agg #[J Y ((dot [m0,m1,m2] [x0,x1,x2]).getD 0),J Y ((dot [m3,m4,m5] [x0,x1,x2]).getD 0),J Y ((dot [m6,m7,m8] [x0,x1,x2]).getD 0)]],by simp [go_sem,e1,e2,e3],(Jez b off po f (Jam b off f pm pa pr po m0 m1 m2 m3 m4 m5 m6 m7 m8 x0 x1 x2 W U) ((dot [m0,m1,m2] [x0,x1,x2]).getD 0) ((dot [m3,m4,m5] [x0,x1,x2]).getD 0) ((dot [m6,m7,m8] [x0,x1,x2]).getD 0) w hp hpf hb).mono (by rintro e W1 ⟨rfl,Z⟩;exact ⟨rfl,Z.out⟩)⟩)) ?_
  refine AllDo.cons 15 rfl (does_store hπ (by simp [Jp]) rfl rfl (by simp [Jp]) (by simp [Jp]) (by simp [Jp]) (fun γ L a w hH hA cs hl hh=>by have e1:=R6 γ L a w hH;have e2:=hH.at d14 rfl (hA ⟨14,.data⟩ (by simp) rfl);obtain ⟨u0,u1,u2,rfl⟩:=Jpt hl;have zz0:w.cell? ⟨pr,0,none⟩ = some u0/\w.frozen? ⟨pr,0,none⟩ = false:=hh 0 u0 rfl;have zz1:w.cell? ⟨pr,1,none⟩ = some u1/\w.frozen? ⟨pr,1,none⟩ = false:=hh 1 u1 rfl;have zz2:w.cell? ⟨pr,2,none⟩ = some u2/\w.frozen? ⟨pr,2,none⟩ = false:=hh 2 u2 rfl;exact ⟨(((w.setCell ⟨pr,0,none⟩ (J Y (cond (Jam b off f pm pa pr po m0 m1 m2 m3 m4 m5 m6 m7 m8 x0 x1 x2 W U) 0 ((dot [m0,m1,m2] [x0,x1,x2]).getD 0)))).setCell ⟨pr,1,none⟩ (J Y (cond (Jam b off f pm pa pr po m0 m1 m2 m3 m4 m5 m6 m7 m8 x0 x1 x2 W U) 0 ((dot [m3,m4,m5] [x0,x1,x2]).getD 0)))).setCell ⟨pr,2,none⟩ (J Y (cond (Jam b off f pm pa pr po m0 m1 m2 m3 m4 m5 m6 m7 m8 x0 x1 x2 W U) 0 ((dot [m6,m7,m8] [x0,x1,x2]).getD 0)))),by simp [JD,go_sem,e1,e2,zz0.1,zz0.2,zz1.1,zz1.2,zz2.1,zz2.2],((((Only.refl _ _).set 0 _).set 1 _).set 2 _),Jl7 hh⟩)) ?_
  exact AllDo.nil
 ·intro γ a w L hL hLo hH
  have hL':∀ j,j < 16->L j = true:=fun j hj=>hL j hj
  have hG:=hH.glob
  have hdf:a.defers = []:=hH.defers.trans rfl
  have hs:a.tmps[6]? = some (.pointer (some ⟨pr,0,none⟩)):=(hH.rest 6 (dst_free (by kernel_rfl))).trans rfl
  obtain ⟨cs,c1,c2,c3⟩:=hG.res
  obtain rfl:=c3 (hL' 15 (by omega))
  have ho2:=hG.outer.resolve_left (fun e=>by have e2:po = b:=congrArg Addr.block e;omega)
  have hA:Hid (After ⟨b,off,none⟩ (f || Jam b off f pm pa pr po m0 m1 m2 m3 m4 m5 m6 m7 m8 x0 x1 x2 W U) W w):=by
   have e:=ho2.1
   rw [show (Jp b off f pm pa pr po m0 m1 m2 m3 m4 m5 m6 m7 m8 x0 x1 x2 W U).tl = 14 from rfl,hL' 14 (by omega),Bool.true_and] at e
   exact hG.leaves.done e ho2.2
  have r0:w.cell? ⟨pr,0,none⟩ = some (J Y (cond (Jam b off f pm pa pr po m0 m1 m2 m3 m4 m5 m6 m7 m8 x0 x1 x2 W U) 0 ((dot [m0,m1,m2] [x0,x1,x2]).getD 0))):=(c2 0 _ rfl).1
  have r1:w.cell? ⟨pr,1,none⟩ = some (J Y (cond (Jam b off f pm pa pr po m0 m1 m2 m3 m4 m5 m6 m7 m8 x0 x1 x2 W U) 0 ((dot [m3,m4,m5] [x0,x1,x2]).getD 0))):=(c2 1 _ rfl).1
  have r2:w.cell? ⟨pr,2,none⟩ = some (J Y (cond (Jam b off f pm pa pr po m0 m1 m2 m3 m4 m5 m6 m7 m8 x0 x1 x2 W U) 0 ((dot [m6,m7,m8] [x0,x1,x2]).getD 0))):=(c2 2 _ rfl).1
  clear hL hLo hL' hH hG c1 c2 c3 ho2 hπ
  go_wp2
  refine bodyPost_ret (by simp [results,Tryz.results95,go_sem,hs,r0,r1,r2];try rfl) hdf ?_
  exact ⟨_,_,_,_,rfl,Jij (by simp [Jam]),hA⟩
end
end Go.Proofs.YteebbpioffdncaaGreat
