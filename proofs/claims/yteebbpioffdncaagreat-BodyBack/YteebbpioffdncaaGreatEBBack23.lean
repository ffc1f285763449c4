/- The reference's matrices of turns. -/
import Derived.Test.YteebbpioffdncaaGreatEBBack12
import Derived.Test.YteebbpioffdncaaGreatEBBack7
import Derived.Test.YteebbpioffdncaaGreatEBBack8
import Derived.Deep.CutBlock
import Derived.Test.YteebbpioffdncaaGreatEBBack14
import Derived.Test.YteebbpioffdncaaGreatEBBack0
import Derived.Test.YteebbpioffdncaaGreatEBBack11
set_option maxHeartbeats 4000000
set_option maxRecDepth 100000
set_option linter.unusedVariables false
namespace Go.Proofs.YteebbpioffdncaaGreat
open Go.Calls renaming mono -> JA
open Go.World renaming block_lt_of_cell? -> JB
open Go.Value renaming int -> J
open Go.IntKind renaming i64 -> Y
section
open Go.RowKit Ref Fx
theorem Jea {w:World} {b:Nat} {x y:Int} (h0:w.cell? ⟨b,0,none⟩ = some (J Y x)) (h1:w.cell? ⟨b,1,none⟩ = some (J Y y)):Jd9 w (some ⟨b,0,none⟩) [x,y]:=
 Or.inr ⟨b,0,rfl,fun k hk=>by
  match k,hk with
  | 0,_=>exact h0
  | 1,_=>exact h1⟩
theorem Ho.put {W V:World} {p a:Addr} {po:Nat} {f g:Bool} {l1 l2:List (Addr × Value)} {u v:Value} (h:Ho W V p po f g (l1 ++ (a,u) :: l2)) (hne:∀ c ∈ l1 ++ l2,c.1 ≠ a) (ha:W.heap.size <= a.block) (hpo:a.block ≠ po) (hap:a.block ≠ p.block):Ho W (V.setCell a v) p po f g (l1 ++ (a,v) :: l2):=by
 have far:∀ q:Addr,q.block ≠ a.block->(V.setCell a v).cell? q = V.cell? q:=fun q hq=>World.cell?_of_block (w:=V) (Below.heap_setCell V a v q.block hq)
 have hmem:∀ c,c ∈ l1 ++ (a,v) :: l2->c = (a,v) \/ c ∈ l1 ++ l2:=fun c hc=>by
  simp only [List.mem_append,List.mem_cons] at hc ⊢
  rcases hc with h | h | h
  ·exact Or.inr (Or.inl h)
  ·exact Or.inl h
  ·exact Or.inr (Or.inr h)
 have hold:∀ c,c ∈ l1 ++ l2->c ∈ l1 ++ (a,u) :: l2:=fun c hc=>by
  simp only [List.mem_append,List.mem_cons] at hc ⊢
  rcases hc with h | h
  ·exact Or.inl h
  ·exact Or.inr (Or.inr h)
 have ha0:=h.fix (a,u) (by simp)
 refine ⟨h.leaves.set ha v,(far p (Ne.symm hap)).trans h.flag,by rw [World.frozen?_setCell];exact h.flagf,(far _ (Ne.symm hpo)).trans h.own,by rw [World.frozen?_setCell];exact h.ownf,fun c hc=>?_,fun c hc=>?_,h.hp,h.ho⟩
 ·rcases hmem c hc with rfl | hc
  ·exact ⟨World.cell?_setCell_same' _ _ _ (by rw [ha0.1];rfl),by rw [World.frozen?_setCell];exact ha0.2⟩
  ·exact ⟨by rw [World.cell?_setCell_other _ _ _ _ (Ne.symm (hne c hc))];exact (h.fix c (hold c hc)).1,by rw [World.frozen?_setCell];exact (h.fix c (hold c hc)).2⟩
 ·rcases hmem c hc with rfl | hc
  ·exact hpo
  ·exact h.far c (hold c hc)
theorem Jjl {q:Int} (h:(sub 0 q).isNone = true):(add q q).isNone = true:=by
 rcases Jhb q with ⟨_,a,_⟩ | ⟨a,_,_⟩
 ·simp [add,a]
 ·rw [a] at h;cases h
theorem Jmf {f g1 g2 g3 g4 g5 g6 g7 g8 g9 g10 g11 g12 g13 g14 g15 g16 g17 g18 g19:Bool} {q0 q1 q2 q3 t0 t1 t2 t3 n1 n2 n3 d0 s0 d1 d2 d3 d4 s4 d5 d6 d7 d8 s8:Int} (h1:Ja7 false (add q0 q0) t0 g1) (h2:Ja7 g1 (add q1 q1) t1 g2) (h3:Ja7 g2 (add q2 q2) t2 g3) (h4:Ja7 g3 (add q3 q3) t3 g4) (h5:Ja7 g4 (sub 0 q1) n1 g5) (h6:Ja7 g5 (sub 0 q2) n2 g6) (h7:Ja7 g6 (sub 0 q3) n3 g7) (h8:Ja7 g7 (dot [t2,t3] [q2,q3]) d0 g8) (h9:Ja7 g8 (sub 4294967296 d0) s0 g9) (h10:Ja7 g9 (dot [t1,t0] [q2,n3]) d1 g10) (h11:Ja7 g10 (dot [t1,t0] [q3,q2]) d2 g11) (h12:Ja7 g11 (dot [t1,t0] [q2,q3]) d3 g12) (h13:Ja7 g12 (dot [t1,t3] [q1,q3]) d4 g13) (h14:Ja7 g13 (sub 4294967296 d4) s4 g14) (h15:Ja7 g14 (dot [t2,t0] [q3,n1]) d5 g15) (h16:Ja7 g15 (dot [t1,t0] [q3,n2]) d6 g16) (h17:Ja7 g16 (dot [t2,t0] [q3,q1]) d7 g17) (h18:Ja7 g17 (dot [t1,t2] [q1,q2]) d8 g18) (h19:Ja7 g18 (sub 4294967296 d8) s8 g19) :
  cond g19 0 s0 = cond (Jz q0 q1 q2 q3) 0 (Jfx q0 q1 q2 q3)/\cond g19 0 d1 = cond (Jz q0 q1 q2 q3) 0 (Jft q0 q1 q2 q3)/\cond g19 0 d2 = cond (Jz q0 q1 q2 q3) 0 (Jfp q0 q1 q2 q3)/\cond g19 0 d3 = cond (Jz q0 q1 q2 q3) 0 (Jfm q0 q1 q2 q3)/\cond g19 0 s4 = cond (Jz q0 q1 q2 q3) 0 (Jfy q0 q1 q2 q3)/\cond g19 0 d5 = cond (Jz q0 q1 q2 q3) 0 (Jfl q0 q1 q2 q3)/\cond g19 0 d6 = cond (Jz q0 q1 q2 q3) 0 (Jfw q0 q1 q2 q3)/\cond g19 0 d7 = cond (Jz q0 q1 q2 q3) 0 (Jf4 q0 q1 q2 q3)/\cond g19 0 s8 = cond (Jz q0 q1 q2 q3) 0 (Jf5 q0 q1 q2 q3)/\(f || g19) = (f || Jz q0 q1 q2 q3):=by
 obtain ⟨rfl,e1⟩:=h1
 obtain ⟨rfl,e2⟩:=h2
 obtain ⟨rfl,e3⟩:=h3
 obtain ⟨rfl,e4⟩:=h4
 obtain ⟨rfl,e5⟩:=h5
 obtain ⟨rfl,e6⟩:=h6
 obtain ⟨rfl,e7⟩:=h7
 obtain ⟨rfl,e8⟩:=h8
 obtain ⟨rfl,e9⟩:=h9
 obtain ⟨rfl,e10⟩:=h10
 obtain ⟨rfl,e11⟩:=h11
 obtain ⟨rfl,e12⟩:=h12
 obtain ⟨rfl,e13⟩:=h13
 obtain ⟨rfl,e14⟩:=h14
 obtain ⟨rfl,e15⟩:=h15
 obtain ⟨rfl,e16⟩:=h16
 obtain ⟨rfl,e17⟩:=h17
 obtain ⟨rfl,e18⟩:=h18
 obtain ⟨rfl,e19⟩:=h19
 have hb:g19 = Jz q0 q1 q2 q3:=by
  rw [e19,e18,e17,e16,e15,e14,e13,e12,e11,e10,e9,e8,e7,e6,e5,e4,e3,e2,e1]
  unfold Jz
  simp only [List.any_cons,List.any_nil,id_eq,Bool.or_false,Bool.false_or]
  cases hs:(sub 0 q0).isNone with
  | true =>
   rw [Jjl hs]
   simp
  | false =>
   simp only [Bool.false_or]
   ac_rfl
 rw [hb]
 exact ⟨rfl,rfl,rfl,rfl,rfl,rfl,rfl,rfl,rfl,rfl⟩
theorem Jm2 (b off:Nat) (f:Bool) (q0 q1 q2 q3:Int) (W:World) (hc:W.cell? ⟨b,off,none⟩ = some (.bool f)) (hf:W.frozen? ⟨b,off,none⟩ = false) :
  Calls Tryz.prog 97 #[.pointer (some ⟨b,off,none⟩),.agg #[J Y q0,J Y q1,J Y q2,J Y q3]] W fun e W'=>e = .returned (.agg #[J Y (cond (Jz q0 q1 q2 q3) 0 (Jfx q0 q1 q2 q3)),J Y (cond (Jz q0 q1 q2 q3) 0 (Jft q0 q1 q2 q3)),J Y (cond (Jz q0 q1 q2 q3) 0 (Jfp q0 q1 q2 q3)),J Y (cond (Jz q0 q1 q2 q3) 0 (Jfm q0 q1 q2 q3)),J Y (cond (Jz q0 q1 q2 q3) 0 (Jfy q0 q1 q2 q3)),J Y (cond (Jz q0 q1 q2 q3) 0 (Jfl q0 q1 q2 q3)),J Y (cond (Jz q0 q1 q2 q3) 0 (Jfw q0 q1 q2 q3)),J Y (cond (Jz q0 q1 q2 q3) 0 (Jf4 q0 q1 q2 q3)),J Y (cond (Jz q0 q1 q2 q3) 0 (Jf5 q0 q1 q2 q3))])/\Hid (After ⟨b,off,none⟩ (f || Jz q0 q1 q2 q3) W W'):=by
 have hbW:b < W.heap.size:=JB _ _ hc
 go_enter Tryz.func97,Tryz.ntmps97
 go_wp2_with (fail)
 refine (Jcj _).mono ?_
 rintro e W1 ⟨rfl,rfl⟩
 obtain ⟨U,hU⟩:∃ U,U = (((W.alloc (.cells #[J Y q0,J Y q1,J Y q2,J Y q3] 29)).alloc (.cells #[J Y 0,J Y 0,J Y 0,J Y 0,J Y 0,J Y 0,J Y 0,J Y 0,J Y 0] 123)).alloc (.cells #[.bool false] 53)):=⟨_,rfl⟩
 obtain ⟨pa,hpa⟩:∃ p,p = W.heap.size:=⟨_,rfl⟩
 obtain ⟨pr,hpr⟩:∃ p,p = W.heap.size + 1:=⟨_,rfl⟩
 obtain ⟨po,hpo⟩:∃ p,p = W.heap.size + 1 + 1:=⟨_,rfl⟩
 have H:Hid (Ho W U ⟨b,off,none⟩ po f false [(⟨pa,0,none⟩,J Y q0),(⟨pa,1,none⟩,J Y q1),(⟨pa,2,none⟩,J Y q2),(⟨pa,3,none⟩,J Y q3),(⟨pr,0,none⟩,J Y 0),(⟨pr,1,none⟩,J Y 0),(⟨pr,2,none⟩,J Y 0),(⟨pr,3,none⟩,J Y 0),(⟨pr,4,none⟩,J Y 0),(⟨pr,5,none⟩,J Y 0),(⟨pr,6,none⟩,J Y 0),(⟨pr,7,none⟩,J Y 0),(⟨pr,8,none⟩,J Y 0)]):=by
  refine ⟨by rw [hU];exact ((((Leaves.refl _ _).alloc _).alloc _).alloc _),by rw [hU,World.cell?_alloc_past _ _ _ (by simp;omega),World.cell?_alloc_past _ _ _ (by simp;omega),World.cell?_alloc_past _ _ _ hbW];exact hc,by rw [hU,((Jg _ _).frozen (by simp;omega)),((Jg _ _).frozen (by simp;omega)),((Jg _ _).frozen hbW)];exact hf,by rw [hU,hpo];simp [go_sem],by rw [hU,hpo];simp [go_sem],?_,?_,hbW,by omega⟩
  ·intro c hc
   simp only [List.mem_cons,List.not_mem_nil,or_false] at hc
   rcases hc with rfl | rfl | rfl | rfl | rfl | rfl | rfl | rfl | rfl | rfl | rfl | rfl | rfl <;> rw [hU] <;> dsimp only <;> first | (rw [hpa];exact ⟨by simp [go_sem],by simp [go_sem]⟩) | (rw [hpr];exact ⟨by simp [go_sem],by simp [go_sem]⟩)
  ·intro c hc
   simp only [List.mem_cons,List.not_mem_nil,or_false] at hc
   rcases hc with rfl | rfl | rfl | rfl | rfl | rfl | rfl | rfl | rfl | rfl | rfl | rfl | rfl <;> (dsimp only) <;> omega
 rw [<- hU]
 simp only [World.size_alloc]
 rw [<- hpo,<- hpr,<- hpa]
 have zq1:pa < pr:=by omega
 have zq2:pr < po:=by omega
 have zq0:W.heap.size <= pa:=by omega
 clear hU hc hf hpa hpr hpo
 have k_pa_0:=(H.out.fix (⟨pa,0,none⟩,J Y q0) (by simp)).1
 have k_pa_1:=(H.out.fix (⟨pa,1,none⟩,J Y q1) (by simp)).1
 have k_pa_2:=(H.out.fix (⟨pa,2,none⟩,J Y q2) (by simp)).1
 have k_pa_3:=(H.out.fix (⟨pa,3,none⟩,J Y q3) (by simp)).1
 have l_pa:=JB _ _ k_pa_0
 dsimp only at l_pa
 have ho:=H.out.own
 have hof:=H.out.ownf
 go_wp2_with (fail)
 refine (Jf0 po 0 false q0 q0 _ ho hof).mono ?_
 rintro e Wg1 ⟨t0,g1,rfl,Sg1,A⟩
 have H:Hid _:=H.out.after A.out
 clear A k_pa_0 k_pa_1 k_pa_2 k_pa_3 l_pa ho hof
 have k_pa_0:=(H.out.fix (⟨pa,0,none⟩,J Y q0) (by simp)).1
 have k_pa_1:=(H.out.fix (⟨pa,1,none⟩,J Y q1) (by simp)).1
 have k_pa_2:=(H.out.fix (⟨pa,2,none⟩,J Y q2) (by simp)).1
 have k_pa_3:=(H.out.fix (⟨pa,3,none⟩,J Y q3) (by simp)).1
 have l_pa:=JB _ _ k_pa_0
 dsimp only at l_pa
 have ho:=H.out.own
 have hof:=H.out.ownf
 go_wp2_with (fail)
 refine (Jf0 po 0 g1 q1 q1 _ ho hof).mono ?_
 rintro e Wg2 ⟨t1,g2,rfl,Sg2,A⟩
 have H:Hid _:=H.out.after A.out
 clear A k_pa_0 k_pa_1 k_pa_2 k_pa_3 l_pa ho hof
 have k_pa_0:=(H.out.fix (⟨pa,0,none⟩,J Y q0) (by simp)).1
 have k_pa_1:=(H.out.fix (⟨pa,1,none⟩,J Y q1) (by simp)).1
 have k_pa_2:=(H.out.fix (⟨pa,2,none⟩,J Y q2) (by simp)).1
 have k_pa_3:=(H.out.fix (⟨pa,3,none⟩,J Y q3) (by simp)).1
 have l_pa:=JB _ _ k_pa_0
 dsimp only at l_pa
 have ho:=H.out.own
 have hof:=H.out.ownf
 go_wp2_with (fail)
 refine (Jf0 po 0 g2 q2 q2 _ ho hof).mono ?_
 rintro e Wg3 ⟨t2,g3,rfl,Sg3,A⟩
 have H:Hid _:=H.out.after A.out
 clear A k_pa_0 k_pa_1 k_pa_2 k_pa_3 l_pa ho hof
 have k_pa_0:=(H.out.fix (⟨pa,0,none⟩,J Y q0) (by simp)).1
 have k_pa_1:=(H.out.fix (⟨pa,1,none⟩,J Y q1) (by simp)).1
 have k_pa_2:=(H.out.fix (⟨pa,2,none⟩,J Y q2) (by simp)).1
 have k_pa_3:=(H.out.fix (⟨pa,3,none⟩,J Y q3) (by simp)).1
 have l_pa:=JB _ _ k_pa_0
 dsimp only at l_pa
 have ho:=H.out.own
 have hof:=H.out.ownf
 go_wp2_with (fail)
 refine (Jf0 po 0 g3 q3 q3 _ ho hof).mono ?_
 rintro e Wg4 ⟨t3,g4,rfl,Sg4,A⟩
 have H:Hid _:=H.out.after A.out
 clear A k_pa_0 k_pa_1 k_pa_2 k_pa_3 l_pa ho hof
 have k_pa_0:=(H.out.fix (⟨pa,0,none⟩,J Y q0) (by simp)).1
 have k_pa_1:=(H.out.fix (⟨pa,1,none⟩,J Y q1) (by simp)).1
 have k_pa_2:=(H.out.fix (⟨pa,2,none⟩,J Y q2) (by simp)).1
 have k_pa_3:=(H.out.fix (⟨pa,3,none⟩,J Y q3) (by simp)).1
 have l_pa:=JB _ _ k_pa_0
 dsimp only at l_pa
 have ho:=H.out.own
 have hof:=H.out.ownf
 go_wp2_with (fail)
 refine (Jca po 0 g4 0 q1 _ ho hof).mono ?_
 rintro e Wg5 ⟨n1,g5,rfl,Sg5,A⟩
 have H:Hid _:=H.out.after A.out
 clear A k_pa_0 k_pa_1 k_pa_2 k_pa_3 l_pa ho hof
 have k_pa_0:=(H.out.fix (⟨pa,0,none⟩,J Y q0) (by simp)).1
 have k_pa_1:=(H.out.fix (⟨pa,1,none⟩,J Y q1) (by simp)).1
 have k_pa_2:=(H.out.fix (⟨pa,2,none⟩,J Y q2) (by simp)).1
 have k_pa_3:=(H.out.fix (⟨pa,3,none⟩,J Y q3) (by simp)).1
 have l_pa:=JB _ _ k_pa_0
 dsimp only at l_pa
 have ho:=H.out.own
 have hof:=H.out.ownf
 go_wp2_with (fail)
 refine (Jca po 0 g5 0 q2 _ ho hof).mono ?_
 rintro e Wg6 ⟨n2,g6,rfl,Sg6,A⟩
 have H:Hid _:=H.out.after A.out
 clear A k_pa_0 k_pa_1 k_pa_2 k_pa_3 l_pa ho hof
 have k_pa_0:=(H.out.fix (⟨pa,0,none⟩,J Y q0) (by simp)).1
 have k_pa_1:=(H.out.fix (⟨pa,1,none⟩,J Y q1) (by simp)).1
 have k_pa_2:=(H.out.fix (⟨pa,2,none⟩,J Y q2) (by simp)).1
 have k_pa_3:=(H.out.fix (⟨pa,3,none⟩,J Y q3) (by simp)).1
 have l_pa:=JB _ _ k_pa_0
 dsimp only at l_pa
 have ho:=H.out.own
 have hof:=H.out.ownf
 go_wp2_with (fail)
 refine (Jca po 0 g6 0 q3 _ ho hof).mono ?_
 rintro e Wg7 ⟨n3,g7,rfl,Sg7,A⟩
 have H:Hid _:=H.out.after A.out
 clear A k_pa_0 k_pa_1 k_pa_2 k_pa_3 l_pa ho hof
 go_upto_region 10 with fail
 obtain ⟨pm,hpm⟩:∃ p,p = Wg7.heap.size:=⟨_,rfl⟩
 obtain ⟨Y0,hY0⟩:∃ X,X = Wg7.alloc (.cells #[J Y 0,J Y 0,J Y 0,J Y 0,J Y 0,J Y 0,J Y 0,J Y 0,J Y 0] 123):=⟨_,rfl⟩
 have H2:Hid (Ho W Y0 ⟨b,off,none⟩ po f g7 ([(⟨pm,0,none⟩,J Y 0),(⟨pm,1,none⟩,J Y 0),(⟨pm,2,none⟩,J Y 0),(⟨pm,3,none⟩,J Y 0),(⟨pm,4,none⟩,J Y 0),(⟨pm,5,none⟩,J Y 0),(⟨pm,6,none⟩,J Y 0),(⟨pm,7,none⟩,J Y 0),(⟨pm,8,none⟩,J Y 0)] ++ [(⟨pa,0,none⟩,J Y q0),(⟨pa,1,none⟩,J Y q1),(⟨pa,2,none⟩,J Y q2),(⟨pa,3,none⟩,J Y q3),(⟨pr,0,none⟩,J Y 0),(⟨pr,1,none⟩,J Y 0),(⟨pr,2,none⟩,J Y 0),(⟨pr,3,none⟩,J Y 0),(⟨pr,4,none⟩,J Y 0),(⟨pr,5,none⟩,J Y 0),(⟨pr,6,none⟩,J Y 0),(⟨pr,7,none⟩,J Y 0),(⟨pr,8,none⟩,J Y 0)])):=by
  show Ho _ _ _ _ _ _ _
  rw [hY0]
  refine H.out.lay _ _ _ (fun c hc=>?_)
  simp only [List.mem_cons,List.not_mem_nil,or_false] at hc
  rcases hc with rfl | rfl | rfl | rfl | rfl | rfl | rfl | rfl | rfl
  ·exact ⟨0,by rw [hpm],rfl⟩
  ·exact ⟨1,by rw [hpm],rfl⟩
  ·exact ⟨2,by rw [hpm],rfl⟩
  ·exact ⟨3,by rw [hpm],rfl⟩
  ·exact ⟨4,by rw [hpm],rfl⟩
  ·exact ⟨5,by rw [hpm],rfl⟩
  ·exact ⟨6,by rw [hpm],rfl⟩
  ·exact ⟨7,by rw [hpm],rfl⟩
  ·exact ⟨8,by rw [hpm],rfl⟩
 have zm1:po < pm:=by rw [hpm];exact JB _ _ H.out.own
 rw [<- hY0,<- hpm]
 have H:Hid _:=H2.out
 clear hY0 hpm H2
 have k_pa_0:=(H.out.fix (⟨pa,0,none⟩,J Y q0) (by simp)).1
 have k_pa_1:=(H.out.fix (⟨pa,1,none⟩,J Y q1) (by simp)).1
 have k_pa_2:=(H.out.fix (⟨pa,2,none⟩,J Y q2) (by simp)).1
 have k_pa_3:=(H.out.fix (⟨pa,3,none⟩,J Y q3) (by simp)).1
 have l_pa:=JB _ _ k_pa_0
 dsimp only at l_pa
 have ho:=H.out.own
 have hof:=H.out.ownf
 go_wp2_with (fail)
 refine (Jb1 po 0 g7 [t2,t3] [q2,q3] (some ⟨Y0.heap.size,0,none⟩) (some ⟨Y0.heap.size + 1,0,none⟩) 2 2 ((Y0.alloc (.cells #[J Y t2,J Y t3] 3)).alloc (.cells #[J Y q2,J Y q3] 3)) ((H.out.alloc (.cells #[J Y t2,J Y t3] 3)).alloc (.cells #[J Y q2,J Y q3] 3)).own ((H.out.alloc (.cells #[J Y t2,J Y t3] 3)).alloc (.cells #[J Y q2,J Y q3] 3)).ownf (by simp) (by simp) (Jea (by simp [go_sem]) (by simp [go_sem])) (Jea (by simp [go_sem]) (by simp [go_sem]))).mono ?_
 rintro e Wg8 ⟨d0,g8,rfl,Sg8,A⟩
 have H:Hid _:=((H.out.alloc (.cells #[J Y t2,J Y t3] 3)).alloc (.cells #[J Y q2,J Y q3] 3)).after A.out
 clear A k_pa_0 k_pa_1 k_pa_2 k_pa_3 l_pa ho hof
 go_wp2_with (fail)
 refine (Jca po 0 g8 4294967296 d0 _ H.out.own H.out.ownf).mono ?_
 rintro e Wg9 ⟨s0,g9,rfl,Sg9,A⟩
 have H:Hid _:=H.out.after A.out
 clear A
 have rk:=(H.out.fix (⟨pm,0,none⟩,J Y 0) (by simp)).1
 have rkf:=(H.out.fix (⟨pm,0,none⟩,J Y 0) (by simp)).2
 go_upto_region 11 with fail
 obtain ⟨Y1,hY1⟩:∃ X,X = Wg9.setCell ⟨pm,0,none⟩ (J Y s0):=⟨_,rfl⟩
 have H2:Hid (Ho W Y1 ⟨b,off,none⟩ po f g9 ([(⟨pm,0,none⟩,J Y s0),(⟨pm,1,none⟩,J Y 0),(⟨pm,2,none⟩,J Y 0),(⟨pm,3,none⟩,J Y 0),(⟨pm,4,none⟩,J Y 0),(⟨pm,5,none⟩,J Y 0),(⟨pm,6,none⟩,J Y 0),(⟨pm,7,none⟩,J Y 0),(⟨pm,8,none⟩,J Y 0)] ++ [(⟨pa,0,none⟩,J Y q0),(⟨pa,1,none⟩,J Y q1),(⟨pa,2,none⟩,J Y q2),(⟨pa,3,none⟩,J Y q3),(⟨pr,0,none⟩,J Y 0),(⟨pr,1,none⟩,J Y 0),(⟨pr,2,none⟩,J Y 0),(⟨pr,3,none⟩,J Y 0),(⟨pr,4,none⟩,J Y 0),(⟨pr,5,none⟩,J Y 0),(⟨pr,6,none⟩,J Y 0),(⟨pr,7,none⟩,J Y 0),(⟨pr,8,none⟩,J Y 0)])):=by
  show Ho _ _ _ _ _ _ _
  rw [hY1]
  exact Ho.put (l1:=[]) (l2:=[(⟨pm,1,none⟩,J Y 0),(⟨pm,2,none⟩,J Y 0),(⟨pm,3,none⟩,J Y 0),(⟨pm,4,none⟩,J Y 0),(⟨pm,5,none⟩,J Y 0),(⟨pm,6,none⟩,J Y 0),(⟨pm,7,none⟩,J Y 0),(⟨pm,8,none⟩,J Y 0)] ++ [(⟨pa,0,none⟩,J Y q0),(⟨pa,1,none⟩,J Y q1),(⟨pa,2,none⟩,J Y q2),(⟨pa,3,none⟩,J Y q3),(⟨pr,0,none⟩,J Y 0),(⟨pr,1,none⟩,J Y 0),(⟨pr,2,none⟩,J Y 0),(⟨pr,3,none⟩,J Y 0),(⟨pr,4,none⟩,J Y 0),(⟨pr,5,none⟩,J Y 0),(⟨pr,6,none⟩,J Y 0),(⟨pr,7,none⟩,J Y 0),(⟨pr,8,none⟩,J Y 0)]) H.out (fun c hc=>by
   simp only [List.cons_append,List.nil_append,List.mem_cons,List.not_mem_nil,or_false] at hc
   rcases hc with rfl | rfl | rfl | rfl | rfl | rfl | rfl | rfl | rfl | rfl | rfl | rfl | rfl | rfl | rfl | rfl | rfl | rfl | rfl | rfl | rfl <;> (simp only [ne_eq,Addr.mk.injEq,not_and];omega)) (by show W.heap.size <= pm;omega) (by show pm ≠ po;omega) (by show pm ≠ b;omega)
 rw [<- hY1]
 have H:Hid _:=H2.out
 clear hY1 H2 rk rkf
 have k_pa_0:=(H.out.fix (⟨pa,0,none⟩,J Y q0) (by simp)).1
 have k_pa_1:=(H.out.fix (⟨pa,1,none⟩,J Y q1) (by simp)).1
 have k_pa_2:=(H.out.fix (⟨pa,2,none⟩,J Y q2) (by simp)).1
 have k_pa_3:=(H.out.fix (⟨pa,3,none⟩,J Y q3) (by simp)).1
 have l_pa:=JB _ _ k_pa_0
 dsimp only at l_pa
 have ho:=H.out.own
 have hof:=H.out.ownf
 go_wp2_with (fail)
 refine (Jb1 po 0 g9 [t1,t0] [q2,n3] (some ⟨Y1.heap.size,0,none⟩) (some ⟨Y1.heap.size + 1,0,none⟩) 2 2 ((Y1.alloc (.cells #[J Y t1,J Y t0] 3)).alloc (.cells #[J Y q2,J Y n3] 3)) ((H.out.alloc (.cells #[J Y t1,J Y t0] 3)).alloc (.cells #[J Y q2,J Y n3] 3)).own ((H.out.alloc (.cells #[J Y t1,J Y t0] 3)).alloc (.cells #[J Y q2,J Y n3] 3)).ownf (by simp) (by simp) (Jea (by simp [go_sem]) (by simp [go_sem])) (Jea (by simp [go_sem]) (by simp [go_sem]))).mono ?_
 rintro e Wg10 ⟨d1,g10,rfl,Sg10,A⟩
 have H:Hid _:=((H.out.alloc (.cells #[J Y t1,J Y t0] 3)).alloc (.cells #[J Y q2,J Y n3] 3)).after A.out
 clear A k_pa_0 k_pa_1 k_pa_2 k_pa_3 l_pa ho hof
 have rk:=(H.out.fix (⟨pm,1,none⟩,J Y 0) (by simp)).1
 have rkf:=(H.out.fix (⟨pm,1,none⟩,J Y 0) (by simp)).2
 go_upto_region 12 with fail
 obtain ⟨Y2,hY2⟩:∃ X,X = Wg10.setCell ⟨pm,1,none⟩ (J Y d1):=⟨_,rfl⟩
 have H2:Hid (Ho W Y2 ⟨b,off,none⟩ po f g10 ([(⟨pm,0,none⟩,J Y s0),(⟨pm,1,none⟩,J Y d1),(⟨pm,2,none⟩,J Y 0),(⟨pm,3,none⟩,J Y 0),(⟨pm,4,none⟩,J Y 0),(⟨pm,5,none⟩,J Y 0),(⟨pm,6,none⟩,J Y 0),(⟨pm,7,none⟩,J Y 0),(⟨pm,8,none⟩,J Y 0)] ++ [(⟨pa,0,none⟩,J Y q0),(⟨pa,1,none⟩,J Y q1),(⟨pa,2,none⟩,J Y q2),(⟨pa,3,none⟩,J Y q3),(⟨pr,0,none⟩,J Y 0),(⟨pr,1,none⟩,J Y 0),(⟨pr,2,none⟩,J Y 0),(⟨pr,3,none⟩,J Y 0),(⟨pr,4,none⟩,J Y 0),(⟨pr,5,none⟩,J Y 0),(⟨pr,6,none⟩,J Y 0),(⟨pr,7,none⟩,J Y 0),(⟨pr,8,none⟩,J Y 0)])):=by
  show Ho _ _ _ _ _ _ _
  rw [hY2]
  exact Ho.put (l1:=[(⟨pm,0,none⟩,J Y s0)]) (l2:=[(⟨pm,2,none⟩,J Y 0),(⟨pm,3,none⟩,J Y 0),(⟨pm,4,none⟩,J Y 0),(⟨pm,5,none⟩,J Y 0),(⟨pm,6,none⟩,J Y 0),(⟨pm,7,none⟩,J Y 0),(⟨pm,8,none⟩,J Y 0)] ++ [(⟨pa,0,none⟩,J Y q0),(⟨pa,1,none⟩,J Y q1),(⟨pa,2,none⟩,J Y q2),(⟨pa,3,none⟩,J Y q3),(⟨pr,0,none⟩,J Y 0),(⟨pr,1,none⟩,J Y 0),(⟨pr,2,none⟩,J Y 0),(⟨pr,3,none⟩,J Y 0),(⟨pr,4,none⟩,J Y 0),(⟨pr,5,none⟩,J Y 0),(⟨pr,6,none⟩,J Y 0),(⟨pr,7,none⟩,J Y 0),(⟨pr,8,none⟩,J Y 0)]) H.out (fun c hc=>by
   simp only [List.cons_append,List.nil_append,List.mem_cons,List.not_mem_nil,or_false] at hc
   rcases hc with rfl | rfl | rfl | rfl | rfl | rfl | rfl | rfl | rfl | rfl | rfl | rfl | rfl | rfl | rfl | rfl | rfl | rfl | rfl | rfl | rfl <;> (simp only [ne_eq,Addr.mk.injEq,not_and];omega)) (by show W.heap.size <= pm;omega) (by show pm ≠ po;omega) (by show pm ≠ b;omega)
 rw [<- hY2]
 have H:Hid _:=H2.out
 clear hY2 H2 rk rkf
 have k_pa_0:=(H.out.fix (⟨pa,0,none⟩,J Y q0) (by simp)).1
 have k_pa_1:=(H.out.fix (⟨pa,1,none⟩,J Y q1) (by simp)).1
 have k_pa_2:=(H.out.fix (⟨pa,2,none⟩,J Y q2) (by simp)).1
 have k_pa_3:=(H.out.fix (⟨pa,3,none⟩,J Y q3) (by simp)).1
 have l_pa:=JB _ _ k_pa_0
 dsimp only at l_pa
 have ho:=H.out.own
 have hof:=H.out.ownf
 go_wp2_with (fail)
 refine (Jb1 po 0 g10 [t1,t0] [q3,q2] (some ⟨Y2.heap.size,0,none⟩) (some ⟨Y2.heap.size + 1,0,none⟩) 2 2 ((Y2.alloc (.cells #[J Y t1,J Y t0] 3)).alloc (.cells #[J Y q3,J Y q2] 3)) ((H.out.alloc (.cells #[J Y t1,J Y t0] 3)).alloc (.cells #[J Y q3,J Y q2] 3)).own ((H.out.alloc (.cells #[J Y t1,J Y t0] 3)).alloc (.cells #[J Y q3,J Y q2] 3)).ownf (by simp) (by simp) (Jea (by simp [go_sem]) (by simp [go_sem])) (Jea (by simp [go_sem]) (by simp [go_sem]))).mono ?_
 rintro e Wg11 ⟨d2,g11,rfl,Sg11,A⟩
 have H:Hid _:=((H.out.alloc (.cells #[J Y t1,J Y t0] 3)).alloc (.cells #[J Y q3,J Y q2] 3)).after A.out
 clear A k_pa_0 k_pa_1 k_pa_2 k_pa_3 l_pa ho hof
 have rk:=(H.out.fix (⟨pm,2,none⟩,J Y 0) (by simp)).1
 have rkf:=(H.out.fix (⟨pm,2,none⟩,J Y 0) (by simp)).2
 go_upto_region 13 with fail
 obtain ⟨Y3,hY3⟩:∃ X,X = Wg11.setCell ⟨pm,2,none⟩ (J Y d2):=⟨_,rfl⟩
 have H2:Hid (Ho W Y3 ⟨b,off,none⟩ po f g11 ([(⟨pm,0,none⟩,J Y s0),(⟨pm,1,none⟩,J Y d1),(⟨pm,2,none⟩,J Y d2),(⟨pm,3,none⟩,J Y 0),(⟨pm,4,none⟩,J Y 0),(⟨pm,5,none⟩,J Y 0),(⟨pm,6,none⟩,J Y 0),(⟨pm,7,none⟩,J Y 0),(⟨pm,8,none⟩,J Y 0)] ++ [(⟨pa,0,none⟩,J Y q0),(⟨pa,1,none⟩,J Y q1),(⟨pa,2,none⟩,J Y q2),(⟨pa,3,none⟩,J Y q3),(⟨pr,0,none⟩,J Y 0),(⟨pr,1,none⟩,J Y 0),(⟨pr,2,none⟩,J Y 0),(⟨pr,3,none⟩,J Y 0),(⟨pr,4,none⟩,J Y 0),(⟨pr,5,none⟩,J Y 0),(⟨pr,6,none⟩,J Y 0),(⟨pr,7,none⟩,J Y 0),(⟨pr,8,none⟩,J Y 0)])):=by
  show Ho _ _ _ _ _ _ _
  rw [hY3]
  exact Ho.put (l1:=[(⟨pm,0,none⟩,J Y s0),(⟨pm,1,none⟩,J Y d1)]) (l2:=[(⟨pm,3,none⟩,J Y 0),(⟨pm,4,none⟩,J Y 0),(⟨pm,5,none⟩,J Y 0),(⟨pm,6,none⟩,J Y 0),(⟨pm,7,none⟩,J Y 0),(⟨pm,8,none⟩,J Y 0)] ++ [(⟨pa,0,none⟩,J Y q0),(⟨pa,1,none⟩,J Y q1),(⟨pa,2,none⟩,J Y q2),(⟨pa,3,none⟩,J Y q3),(⟨pr,0,none⟩,J Y 0),(⟨pr,1,none⟩,J Y 0),(⟨pr,2,none⟩,J Y 0),(⟨pr,3,none⟩,J Y 0),(⟨pr,4,none⟩,J Y 0),(⟨pr,5,none⟩,J Y 0),(⟨pr,6,none⟩,J Y 0),(⟨pr,7,none⟩,J Y 0),(⟨pr,8,none⟩,J Y 0)]) H.out (fun c hc=>by
   simp only [List.cons_append,List.nil_append,List.mem_cons,List.not_mem_nil,or_false] at hc
   rcases hc with rfl | rfl | rfl | rfl | rfl | rfl | rfl | rfl | rfl | rfl | rfl | rfl | rfl | rfl | rfl | rfl | rfl | rfl | rfl | rfl | rfl <;> (simp only [ne_eq,Addr.mk.injEq,not_and];omega)) (by show W.heap.size <= pm;omega) (by show pm ≠ po;omega) (by show pm ≠ b;omega)
 rw [<- hY3]
 have H:Hid _:=H2.out
 clear hY3 H2 rk rkf
 have k_pa_0:=(H.out.fix (⟨pa,0,none⟩,J Y q0) (by simp)).1
 have k_pa_1:=(H.out.fix (⟨pa,1,none⟩,J Y q1) (by simp)).1
 have k_pa_2:=(H.out.fix (⟨pa,2,none⟩,J Y q2) (by simp)).1
 have k_pa_3:=(H.out.fix (⟨pa,3,none⟩,J Y q3) (by simp)).1
 have l_pa:=JB _ _ k_pa_0
 dsimp only at l_pa
 have ho:=H.out.own
 have hof:=H.out.ownf
 go_wp2_with (fail)
 refine (Jb1 po 0 g11 [t1,t0] [q2,q3] (some ⟨Y3.heap.size,0,none⟩) (some ⟨Y3.heap.size + 1,0,none⟩) 2 2 ((Y3.alloc (.cells #[J Y t1,J Y t0] 3)).alloc (.cells #[J Y q2,J Y q3] 3)) ((H.out.alloc (.cells #[J Y t1,J Y t0] 3)).alloc (.cells #[J Y q2,J Y q3] 3)).own ((H.out.alloc (.cells #[J Y t1,J Y t0] 3)).alloc (.cells #[J Y q2,J Y q3] 3)).ownf (by simp) (by simp) (Jea (by simp [go_sem]) (by simp [go_sem])) (Jea (by simp [go_sem]) (by simp [go_sem]))).mono ?_
 rintro e Wg12 ⟨d3,g12,rfl,Sg12,A⟩
 have H:Hid _:=((H.out.alloc (.cells #[J Y t1,J Y t0] 3)).alloc (.cells #[J Y q2,J Y q3] 3)).after A.out
 clear A k_pa_0 k_pa_1 k_pa_2 k_pa_3 l_pa ho hof
 have rk:=(H.out.fix (⟨pm,3,none⟩,J Y 0) (by simp)).1
 have rkf:=(H.out.fix (⟨pm,3,none⟩,J Y 0) (by simp)).2
 go_upto_region 14 with fail
 obtain ⟨Y4,hY4⟩:∃ X,X = Wg12.setCell ⟨pm,3,none⟩ (J Y d3):=⟨_,rfl⟩
 have H2:Hid (Ho W Y4 ⟨b,off,none⟩ po f g12 ([(⟨pm,0,none⟩,J Y s0),(⟨pm,1,none⟩,J Y d1),(⟨pm,2,none⟩,J Y d2),(⟨pm,3,none⟩,J Y d3),(⟨pm,4,none⟩,J Y 0),(⟨pm,5,none⟩,J Y 0),(⟨pm,6,none⟩,J Y 0),(⟨pm,7,none⟩,J Y 0),(⟨pm,8,none⟩,J Y 0)] ++ [(⟨pa,0,none⟩,J Y q0),(⟨pa,1,none⟩,J Y q1),(⟨pa,2,none⟩,J Y q2),(⟨pa,3,none⟩,J Y q3),(⟨pr,0,none⟩,J Y 0),(⟨pr,1,none⟩,J Y 0),(⟨pr,2,none⟩,J Y 0),(⟨pr,3,none⟩,J Y 0),(⟨pr,4,none⟩,J Y 0),(⟨pr,5,none⟩,J Y 0),(⟨pr,6,none⟩,J Y 0),(⟨pr,7,none⟩,J Y 0),(⟨pr,8,none⟩,J Y 0)])):=by
  show Ho _ _ _ _ _ _ _
  rw [hY4]
  exact Ho.put (l1:=[(⟨pm,0,none⟩,J Y s0),(⟨pm,1,none⟩,J Y d1),(⟨pm,2,none⟩,J Y d2)]) (l2:=[(⟨pm,4,none⟩,J Y 0),(⟨pm,5,none⟩,J Y 0),(⟨pm,6,none⟩,J Y 0),(⟨pm,7,none⟩,J Y 0),(⟨pm,8,none⟩,J Y 0)] ++ [(⟨pa,0,none⟩,J Y q0),(⟨pa,1,none⟩,J Y q1),(⟨pa,2,none⟩,J Y q2),(⟨pa,3,none⟩,J Y q3),(⟨pr,0,none⟩,J Y 0),(⟨pr,1,none⟩,J Y 0),(⟨pr,2,none⟩,J Y 0),(⟨pr,3,none⟩,J Y 0),(⟨pr,4,none⟩,J Y 0),(⟨pr,5,none⟩,J Y 0),(⟨pr,6,none⟩,J Y 0),(⟨pr,7,none⟩,J Y 0),(⟨pr,8,none⟩,J Y 0)]) H.out (fun c hc=>by
   simp only [List.cons_append,List.nil_append,List.mem_cons,List.not_mem_nil,or_false] at hc
   rcases hc with rfl | rfl | rfl | rfl | rfl | rfl | rfl | rfl | rfl | rfl | rfl | rfl | rfl | rfl | rfl | rfl | rfl | rfl | rfl | rfl | rfl <;> (simp only [ne_eq,Addr.mk.injEq,not_and];omega)) (by show W.heap.size <= pm;omega) (by show pm ≠ po;omega) (by show pm ≠ b;omega)
 rw [<- hY4]
 have H:Hid _:=H2.out
 clear hY4 H2 rk rkf
 have k_pa_0:=(H.out.fix (⟨pa,0,none⟩,J Y q0) (by simp)).1
 have k_pa_1:=(H.out.fix (⟨pa,1,none⟩,J Y q1) (by simp)).1
 have k_pa_2:=(H.out.fix (⟨pa,2,none⟩,J Y q2) (by simp)).1
 have k_pa_3:=(H.out.fix (⟨pa,3,none⟩,J Y q3) (by simp)).1
 have l_pa:=JB _ _ k_pa_0
 dsimp only at l_pa
 have ho:=H.out.own
 have hof:=H.out.ownf
 go_wp2_with (fail)
 refine (Jb1 po 0 g12 [t1,t3] [q1,q3] (some ⟨Y4.heap.size,0,none⟩) (some ⟨Y4.heap.size + 1,0,none⟩) 2 2 ((Y4.alloc (.cells #[J Y t1,J Y t3] 3)).alloc (.cells #[J Y q1,J Y q3] 3)) ((H.out.alloc (.cells #[J Y t1,J Y t3] 3)).alloc (.cells #[J Y q1,J Y q3] 3)).own ((H.out.alloc (.cells #[J Y t1,J Y t3] 3)).alloc (.cells #[J Y q1,J Y q3] 3)).ownf (by simp) (by simp) (Jea (by simp [go_sem]) (by simp [go_sem])) (Jea (by simp [go_sem]) (by simp [go_sem]))).mono ?_
 rintro e Wg13 ⟨d4,g13,rfl,Sg13,A⟩
 have H:Hid _:=((H.out.alloc (.cells #[J Y t1,J Y t3] 3)).alloc (.cells #[J Y q1,J Y q3] 3)).after A.out
 clear A k_pa_0 k_pa_1 k_pa_2 k_pa_3 l_pa ho hof
 go_wp2_with (fail)
 refine (Jca po 0 g13 4294967296 d4 _ H.out.own H.out.ownf).mono ?_
 rintro e Wg14 ⟨s4,g14,rfl,Sg14,A⟩
 have H:Hid _:=H.out.after A.out
 clear A
 have rk:=(H.out.fix (⟨pm,4,none⟩,J Y 0) (by simp)).1
 have rkf:=(H.out.fix (⟨pm,4,none⟩,J Y 0) (by simp)).2
 go_upto_region 15 with fail
 obtain ⟨Y5,hY5⟩:∃ X,X = Wg14.setCell ⟨pm,4,none⟩ (J Y s4):=⟨_,rfl⟩
 have H2:Hid (Ho W Y5 ⟨b,off,none⟩ po f g14 ([(⟨pm,0,none⟩,J Y s0),(⟨pm,1,none⟩,J Y d1),(⟨pm,2,none⟩,J Y d2),(⟨pm,3,none⟩,J Y d3),(⟨pm,4,none⟩,J Y s4),(⟨pm,5,none⟩,J Y 0),(⟨pm,6,none⟩,J Y 0),(⟨pm,7,none⟩,J Y 0),(⟨pm,8,none⟩,J Y 0)] ++ [(⟨pa,0,none⟩,J Y q0),(⟨pa,1,none⟩,J Y q1),(⟨pa,2,none⟩,J Y q2),(⟨pa,3,none⟩,J Y q3),(⟨pr,0,none⟩,J Y 0),(⟨pr,1,none⟩,J Y 0),(⟨pr,2,none⟩,J Y 0),(⟨pr,3,none⟩,J Y 0),(⟨pr,4,none⟩,J Y 0),(⟨pr,5,none⟩,J Y 0),(⟨pr,6,none⟩,J Y 0),(⟨pr,7,none⟩,J Y 0),(⟨pr,8,none⟩,J Y 0)])):=by
  show Ho _ _ _ _ _ _ _
  rw [hY5]
  exact Ho.put (l1:=[(⟨pm,0,none⟩,J Y s0),(⟨pm,1,none⟩,J Y d1),(⟨pm,2,none⟩,J Y d2),(⟨pm,3,none⟩,J Y d3)]) (l2:=[(⟨pm,5,none⟩,J Y 0),(⟨pm,6,none⟩,J Y 0),(⟨pm,7,none⟩,J Y 0),(⟨pm,8,none⟩,J Y 0)] ++ [(⟨pa,0,none⟩,J Y q0),(⟨pa,1,none⟩,J Y q1),(⟨pa,2,none⟩,J Y q2),(⟨pa,3,none⟩,J Y q3),(⟨pr,0,none⟩,J Y 0),(⟨pr,1,none⟩,J Y 0),(⟨pr,2,none⟩,J Y 0),(⟨pr,3,none⟩,J Y 0),(⟨pr,4,none⟩,J Y 0),(⟨pr,5,none⟩,J Y 0),(⟨pr,6,none⟩,J Y 0),(⟨pr,7,none⟩,J Y 0),(⟨pr,8,none⟩,J Y 0)]) H.out (fun c hc=>by
   simp only [List.cons_append,List.nil_append,List.mem_cons,List.not_mem_nil,or_false] at hc
   rcases hc with rfl | rfl | rfl | rfl | rfl | rfl | rfl | rfl | rfl | rfl | rfl | rfl | rfl | rfl | rfl | rfl | rfl | rfl | rfl | rfl | rfl <;> (simp only [ne_eq,Addr.mk.injEq,not_and];omega)) (by show W.heap.size <= pm;omega) (by show pm ≠ po;omega) (by show pm ≠ b;omega)
 rw [<- hY5]
 have H:Hid _:=H2.out
 clear hY5 H2 rk rkf
 have k_pa_0:=(H.out.fix (⟨pa,0,none⟩,J Y q0) (by simp)).1
 have k_pa_1:=(H.out.fix (⟨pa,1,none⟩,J Y q1) (by simp)).1
 have k_pa_2:=(H.out.fix (⟨pa,2,none⟩,J Y q2) (by simp)).1
 have k_pa_3:=(H.out.fix (⟨pa,3,none⟩,J Y q3) (by simp)).1
 have l_pa:=JB _ _ k_pa_0
 dsimp only at l_pa
 have ho:=H.out.own
 have hof:=H.out.ownf
 go_wp2_with (fail)
 refine (Jb1 po 0 g14 [t2,t0] [q3,n1] (some ⟨Y5.heap.size,0,none⟩) (some ⟨Y5.heap.size + 1,0,none⟩) 2 2 ((Y5.alloc (.cells #[J Y t2,J Y t0] 3)).alloc (.cells #[J Y q3,J Y n1] 3)) ((H.out.alloc (.cells #[J Y t2,J Y t0] 3)).alloc (.cells #[J Y q3,J Y n1] 3)).own ((H.out.alloc (.cells #[J Y t2,J Y t0] 3)).alloc (.cells #[J Y q3,J Y n1] 3)).ownf (by simp) (by simp) (Jea (by simp [go_sem]) (by simp [go_sem])) (Jea (by simp [go_sem]) (by simp [go_sem]))).mono ?_
 rintro e Wg15 ⟨d5,g15,rfl,Sg15,A⟩
 have H:Hid _:=((H.out.alloc (.cells #[J Y t2,J Y t0] 3)).alloc (.cells #[J Y q3,J Y n1] 3)).after A.out
 clear A k_pa_0 k_pa_1 k_pa_2 k_pa_3 l_pa ho hof
 have rk:=(H.out.fix (⟨pm,5,none⟩,J Y 0) (by simp)).1
 have rkf:=(H.out.fix (⟨pm,5,none⟩,J Y 0) (by simp)).2
 go_upto_region 16 with fail
 obtain ⟨Y6,hY6⟩:∃ X,X = Wg15.setCell ⟨pm,5,none⟩ (J Y d5):=⟨_,rfl⟩
 have H2:Hid (Ho W Y6 ⟨b,off,none⟩ po f g15 ([(⟨pm,0,none⟩,J Y s0),(⟨pm,1,none⟩,J Y d1),(⟨pm,2,none⟩,J Y d2),(⟨pm,3,none⟩,J Y d3),(⟨pm,4,none⟩,J Y s4),(⟨pm,5,none⟩,J Y d5),(⟨pm,6,none⟩,J Y 0),(⟨pm,7,none⟩,J Y 0),(⟨pm,8,none⟩,J Y 0)] ++ [(⟨pa,0,none⟩,J Y q0),(⟨pa,1,none⟩,J Y q1),(⟨pa,2,none⟩,J Y q2),(⟨pa,3,none⟩,J Y q3),(⟨pr,0,none⟩,J Y 0),(⟨pr,1,none⟩,J Y 0),(⟨pr,2,none⟩,J Y 0),(⟨pr,3,none⟩,J Y 0),(⟨pr,4,none⟩,J Y 0),(⟨pr,5,none⟩,J Y 0),(⟨pr,6,none⟩,J Y 0),(⟨pr,7,none⟩,J Y 0),(⟨pr,8,none⟩,J Y 0)])):=by
  show Ho _ _ _ _ _ _ _
  rw [hY6]
  exact Ho.put (l1:=[(⟨pm,0,none⟩,J Y s0),(⟨pm,1,none⟩,J Y d1),(⟨pm,2,none⟩,J Y d2),(⟨pm,3,none⟩,J Y d3),(⟨pm,4,none⟩,J Y s4)]) (l2:=[(⟨pm,6,none⟩,J Y 0),(⟨pm,7,none⟩,J Y 0),(⟨pm,8,none⟩,J Y 0)] ++ [(⟨pa,0,none⟩,J Y q0),(⟨pa,1,none⟩,J Y q1),(⟨pa,2,none⟩,J Y q2),(⟨pa,3,none⟩,J Y q3),(⟨pr,0,none⟩,J Y 0),(⟨pr,1,none⟩,J Y 0),(⟨pr,2,none⟩,J Y 0),(⟨pr,3,none⟩,J Y 0),(⟨pr,4,none⟩,J Y 0),(⟨pr,5,none⟩,J Y 0),(⟨pr,6,none⟩,J Y 0),(⟨pr,7,none⟩,J Y 0),(⟨pr,8,none⟩,J Y 0)]) H.out (fun c hc=>by
   simp only [List.cons_append,List.nil_append,List.mem_cons,List.not_mem_nil,or_false] at hc
   rcases hc with rfl | rfl | rfl | rfl | rfl | rfl | rfl | rfl | rfl | rfl | rfl | rfl | rfl | rfl | rfl | rfl | rfl | rfl | rfl | rfl | rfl <;> (simp only [ne_eq,Addr.mk.injEq,not_and];omega)) (by show W.heap.size <= pm;omega) (by show pm ≠ po;omega) (by show pm ≠ b;omega)
 rw [<- hY6]
 have H:Hid _:=H2.out
 clear hY6 H2 rk rkf
 have k_pa_0:=(H.out.fix (⟨pa,0,none⟩,J Y q0) (by simp)).1
 have k_pa_1:=(H.out.fix (⟨pa,1,none⟩,J Y q1) (by simp)).1
 have k_pa_2:=(H.out.fix (⟨pa,2,none⟩,J Y q2) (by simp)).1
 have k_pa_3:=(H.out.fix (⟨pa,3,none⟩,J Y q3) (by simp)).1
 have l_pa:=JB _ _ k_pa_0
 dsimp only at l_pa
 have ho:=H.out.own
 have hof:=H.out.ownf
 go_wp2_with (fail)
 refine (Jb1 po 0 g15 [t1,t0] [q3,n2] (some ⟨Y6.heap.size,0,none⟩) (some ⟨Y6.heap.size + 1,0,none⟩) 2 2 ((Y6.alloc (.cells #[J Y t1,J Y t0] 3)).alloc (.cells #[J Y q3,J Y n2] 3)) ((H.out.alloc (.cells #[J Y t1,J Y t0] 3)).alloc (.cells #[J Y q3,J Y n2] 3)).own ((H.out.alloc (.cells #[J Y t1,J Y t0] 3)).alloc (.cells #[J Y q3,J Y n2] 3)).ownf (by simp) (by simp) (Jea (by simp [go_sem]) (by simp [go_sem])) (Jea (by simp [go_sem]) (by simp [go_sem]))).mono ?_
 rintro e Wg16 ⟨d6,g16,rfl,Sg16,A⟩
 have H:Hid _:=((H.out.alloc (.cells #[J Y t1,J Y t0] 3)).alloc (.cells #[J Y q3,J Y n2] 3)).after A.out
 clear A k_pa_0 k_pa_1 k_pa_2 k_pa_3 l_pa ho hof
 have rk:=(H.out.fix (⟨pm,6,none⟩,J Y 0) (by simp)).1
 have rkf:=(H.out.fix (⟨pm,6,none⟩,J Y 0) (by simp)).2
 go_upto_region 17 with fail
 obtain ⟨Y7,hY7⟩:∃ X,X = Wg16.setCell ⟨pm,6,none⟩ (J Y d6):=⟨_,rfl⟩
 have H2:Hid (Ho W Y7 ⟨b,off,none⟩ po f g16 ([(⟨pm,0,none⟩,J Y s0),(⟨pm,1,none⟩,J Y d1),(⟨pm,2,none⟩,J Y d2),(⟨pm,3,none⟩,J Y d3),(⟨pm,4,none⟩,J Y s4),(⟨pm,5,none⟩,J Y d5),(⟨pm,6,none⟩,J Y d6),(⟨pm,7,none⟩,J Y 0),(⟨pm,8,none⟩,J Y 0)] ++ [(⟨pa,0,none⟩,J Y q0),(⟨pa,1,none⟩,J Y q1),(⟨pa,2,none⟩,J Y q2),(⟨pa,3,none⟩,J Y q3),(⟨pr,0,none⟩,J Y 0),(⟨pr,1,none⟩,J Y 0),(⟨pr,2,none⟩,J Y 0),(⟨pr,3,none⟩,J Y 0),(⟨pr,4,none⟩,J Y 0),(⟨pr,5,none⟩,J Y 0),(⟨pr,6,none⟩,J Y 0),(⟨pr,7,none⟩,J Y 0),(⟨pr,8,none⟩,J Y 0)])):=by
  show Ho _ _ _ _ _ _ _
  rw [hY7]
  exact Ho.put (l1:=[(⟨pm,0,none⟩,J Y s0),(⟨pm,1,none⟩,J Y d1),(⟨pm,2,none⟩,J Y d2),(⟨pm,3,none⟩,J Y d3),(⟨pm,4,none⟩,J Y s4),(⟨pm,5,none⟩,J Y d5)]) (l2:=[(⟨pm,7,none⟩,J Y 0),(⟨pm,8,none⟩,J Y 0)] ++ [(⟨pa,0,none⟩,J Y q0),(⟨pa,1,none⟩,J Y q1),(⟨pa,2,none⟩,J Y q2),(⟨pa,3,none⟩,J Y q3),(⟨pr,0,none⟩,J Y 0),(⟨pr,1,none⟩,J Y 0),(⟨pr,2,none⟩,J Y 0),(⟨pr,3,none⟩,J Y 0),(⟨pr,4,none⟩,J Y 0),(⟨pr,5,none⟩,J Y 0),(⟨pr,6,none⟩,J Y 0),(⟨pr,7,none⟩,J Y 0),(⟨pr,8,none⟩,J Y 0)]) H.out (fun c hc=>by
   simp only [List.cons_append,List.nil_append,List.mem_cons,List.not_mem_nil,or_false] at hc
   rcases hc with rfl | rfl | rfl | rfl | rfl | rfl | rfl | rfl | rfl | rfl | rfl | rfl | rfl | rfl | rfl | rfl | rfl | rfl | rfl | rfl | rfl <;> (simp only [ne_eq,Addr.mk.injEq,not_and];omega)) (by show W.heap.size <= pm;omega) (by show pm ≠ po;omega) (by show pm ≠ b;omega)
 rw [<- hY7]
 have H:Hid _:=H2.out
 clear hY7 H2 rk rkf
 have k_pa_0:=(H.out.fix (⟨pa,0,none⟩,J Y q0) (by simp)).1
 have k_pa_1:=(H.out.fix (⟨pa,1,none⟩,J Y q1) (by simp)).1
 have k_pa_2:=(H.out.fix (⟨pa,2,none⟩,J Y q2) (by simp)).1
 have k_pa_3:=(H.out.fix (⟨pa,3,none⟩,J Y q3) (by simp)).1
 have l_pa:=JB _ _ k_pa_0
 dsimp only at l_pa
 have ho:=H.out.own
 have hof:=H.out.ownf
 go_wp2_with (fail)
 refine (Jb1 po 0 g16 [t2,t0] [q3,q1] (some ⟨Y7.heap.size,0,none⟩) (some ⟨Y7.heap.size + 1,0,none⟩) 2 2 ((Y7.alloc (.cells #[J Y t2,J Y t0] 3)).alloc (.cells #[J Y q3,J Y q1] 3)) ((H.out.alloc (.cells #[J Y t2,J Y t0] 3)).alloc (.cells #[J Y q3,J Y q1] 3)).own ((H.out.alloc (.cells #[J Y t2,J Y t0] 3)).alloc (.cells #[J Y q3,J Y q1] 3)).ownf (by simp) (by simp) (Jea (by simp [go_sem]) (by simp [go_sem])) (Jea (by simp [go_sem]) (by simp [go_sem]))).mono ?_
 rintro e Wg17 ⟨d7,g17,rfl,Sg17,A⟩
 have H:Hid _:=((H.out.alloc (.cells #[J Y t2,J Y t0] 3)).alloc (.cells #[J Y q3,J Y q1] 3)).after A.out
 clear A k_pa_0 k_pa_1 k_pa_2 k_pa_3 l_pa ho hof
 have rk:=(H.out.fix (⟨pm,7,none⟩,J Y 0) (by simp)).1
 have rkf:=(H.out.fix (⟨pm,7,none⟩,J Y 0) (by simp)).2
 go_upto_region 18 with fail
 obtain ⟨Y8,hY8⟩:∃ X,X = Wg17.setCell ⟨pm,7,none⟩ (J Y d7):=⟨_,rfl⟩
 have H2:Hid (Ho W Y8 ⟨b,off,none⟩ po f g17 ([(⟨pm,0,none⟩,J Y s0),(⟨pm,1,none⟩,J Y d1),(⟨pm,2,none⟩,J Y d2),(⟨pm,3,none⟩,J Y d3),(⟨pm,4,none⟩,J Y s4),(⟨pm,5,none⟩,J Y d5),(⟨pm,6,none⟩,J Y d6),(⟨pm,7,none⟩,J Y d7),(⟨pm,8,none⟩,J Y 0)] ++ [(⟨pa,0,none⟩,J Y q0),(⟨pa,1,none⟩,J Y q1),(⟨pa,2,none⟩,J Y q2),(⟨pa,3,none⟩,J Y q3),(⟨pr,0,none⟩,J Y 0),(⟨pr,1,none⟩,J Y 0),(⟨pr,2,none⟩,J Y 0),(⟨pr,3,none⟩,J Y 0),(⟨pr,4,none⟩,J Y 0),(⟨pr,5,none⟩,J Y 0),(⟨pr,6,none⟩,J Y 0),(⟨pr,7,none⟩,J Y 0),(⟨pr,8,none⟩,J Y 0)])):=by
  show Ho _ _ _ _ _ _ _
  rw [hY8]
  exact Ho.put (l1:=[(⟨pm,0,none⟩,J Y s0),(⟨pm,1,none⟩,J Y d1),(⟨pm,2,none⟩,J Y d2),(⟨pm,3,none⟩,J Y d3),(⟨pm,4,none⟩,J Y s4),(⟨pm,5,none⟩,J Y d5),(⟨pm,6,none⟩,J Y d6)]) (l2:=[(⟨pm,8,none⟩,J Y 0)] ++ [(⟨pa,0,none⟩,J Y q0),(⟨pa,1,none⟩,J Y q1),(⟨pa,2,none⟩,J Y q2),(⟨pa,3,none⟩,J Y q3),(⟨pr,0,none⟩,J Y 0),(⟨pr,1,none⟩,J Y 0),(⟨pr,2,none⟩,J Y 0),(⟨pr,3,none⟩,J Y 0),(⟨pr,4,none⟩,J Y 0),(⟨pr,5,none⟩,J Y 0),(⟨pr,6,none⟩,J Y 0),(⟨pr,7,none⟩,J Y 0),(⟨pr,8,none⟩,J Y 0)]) H.out (fun c hc=>by
   simp only [List.cons_append,List.nil_append,List.mem_cons,List.not_mem_nil,or_false] at hc
   rcases hc with rfl | rfl | rfl | rfl | rfl | rfl | rfl | rfl | rfl | rfl | rfl | rfl | rfl | rfl | rfl | rfl | rfl | rfl | rfl | rfl | rfl <;> (simp only [ne_eq,Addr.mk.injEq,not_and];omega)) (by show W.heap.size <= pm;omega) (by show pm ≠ po;omega) (by show pm ≠ b;omega)
 rw [<- hY8]
 have H:Hid _:=H2.out
 clear hY8 H2 rk rkf
 have k_pa_0:=(H.out.fix (⟨pa,0,none⟩,J Y q0) (by simp)).1
 have k_pa_1:=(H.out.fix (⟨pa,1,none⟩,J Y q1) (by simp)).1
 have k_pa_2:=(H.out.fix (⟨pa,2,none⟩,J Y q2) (by simp)).1
 have k_pa_3:=(H.out.fix (⟨pa,3,none⟩,J Y q3) (by simp)).1
 have l_pa:=JB _ _ k_pa_0
 dsimp only at l_pa
 have ho:=H.out.own
 have hof:=H.out.ownf
 go_wp2_with (fail)
 refine (Jb1 po 0 g17 [t1,t2] [q1,q2] (some ⟨Y8.heap.size,0,none⟩) (some ⟨Y8.heap.size + 1,0,none⟩) 2 2 ((Y8.alloc (.cells #[J Y t1,J Y t2] 3)).alloc (.cells #[J Y q1,J Y q2] 3)) ((H.out.alloc (.cells #[J Y t1,J Y t2] 3)).alloc (.cells #[J Y q1,J Y q2] 3)).own ((H.out.alloc (.cells #[J Y t1,J Y t2] 3)).alloc (.cells #[J Y q1,J Y q2] 3)).ownf (by simp) (by simp) (Jea (by simp [go_sem]) (by simp [go_sem])) (Jea (by simp [go_sem]) (by simp [go_sem]))).mono ?_
 rintro e Wg18 ⟨d8,g18,rfl,Sg18,A⟩
 have H:Hid _:=((H.out.alloc (.cells #[J Y t1,J Y t2] 3)).alloc (.cells #[J Y q1,J Y q2] 3)).after A.out
 clear A k_pa_0 k_pa_1 k_pa_2 k_pa_3 l_pa ho hof
 go_wp2_with (fail)
 refine (Jca po 0 g18 4294967296 d8 _ H.out.own H.out.ownf).mono ?_
 rintro e Wg19 ⟨s8,g19,rfl,Sg19,A⟩
 have H:Hid _:=H.out.after A.out
 clear A
 have rk:=(H.out.fix (⟨pm,8,none⟩,J Y 0) (by simp)).1
 have rkf:=(H.out.fix (⟨pm,8,none⟩,J Y 0) (by simp)).2
 go_upto_region 19 with fail
 obtain ⟨Y9,hY9⟩:∃ X,X = Wg19.setCell ⟨pm,8,none⟩ (J Y s8):=⟨_,rfl⟩
 have H2:Hid (Ho W Y9 ⟨b,off,none⟩ po f g19 ([(⟨pm,0,none⟩,J Y s0),(⟨pm,1,none⟩,J Y d1),(⟨pm,2,none⟩,J Y d2),(⟨pm,3,none⟩,J Y d3),(⟨pm,4,none⟩,J Y s4),(⟨pm,5,none⟩,J Y d5),(⟨pm,6,none⟩,J Y d6),(⟨pm,7,none⟩,J Y d7),(⟨pm,8,none⟩,J Y s8)] ++ [(⟨pa,0,none⟩,J Y q0),(⟨pa,1,none⟩,J Y q1),(⟨pa,2,none⟩,J Y q2),(⟨pa,3,none⟩,J Y q3),(⟨pr,0,none⟩,J Y 0),(⟨pr,1,none⟩,J Y 0),(⟨pr,2,none⟩,J Y 0),(⟨pr,3,none⟩,J Y 0),(⟨pr,4,none⟩,J Y 0),(⟨pr,5,none⟩,J Y 0),(⟨pr,6,none⟩,J Y 0),(⟨pr,7,none⟩,J Y 0),(⟨pr,8,none⟩,J Y 0)])):=by
  show Ho _ _ _ _ _ _ _
  rw [hY9]
  exact Ho.put (l1:=[(⟨pm,0,none⟩,J Y s0),(⟨pm,1,none⟩,J Y d1),(⟨pm,2,none⟩,J Y d2),(⟨pm,3,none⟩,J Y d3),(⟨pm,4,none⟩,J Y s4),(⟨pm,5,none⟩,J Y d5),(⟨pm,6,none⟩,J Y d6),(⟨pm,7,none⟩,J Y d7)]) (l2:=[] ++ [(⟨pa,0,none⟩,J Y q0),(⟨pa,1,none⟩,J Y q1),(⟨pa,2,none⟩,J Y q2),(⟨pa,3,none⟩,J Y q3),(⟨pr,0,none⟩,J Y 0),(⟨pr,1,none⟩,J Y 0),(⟨pr,2,none⟩,J Y 0),(⟨pr,3,none⟩,J Y 0),(⟨pr,4,none⟩,J Y 0),(⟨pr,5,none⟩,J Y 0),(⟨pr,6,none⟩,J Y 0),(⟨pr,7,none⟩,J Y 0),(⟨pr,8,none⟩,J Y 0)]) H.out (fun c hc=>by
   simp only [List.cons_append,List.nil_append,List.mem_cons,List.not_mem_nil,or_false] at hc
   rcases hc with rfl | rfl | rfl | rfl | rfl | rfl | rfl | rfl | rfl | rfl | rfl | rfl | rfl | rfl | rfl | rfl | rfl | rfl | rfl | rfl | rfl <;> (simp only [ne_eq,Addr.mk.injEq,not_and];omega)) (by show W.heap.size <= pm;omega) (by show pm ≠ po;omega) (by show pm ≠ b;omega)
 rw [<- hY9]
 have H:Hid _:=H2.out
 clear hY9 H2 rk rkf
 go_wp2_with (fail)
 refine (Jdj b off po f g19 _ H.out.flag H.out.flagf H.out.own (by omega)).mono ?_
 rintro e V9 ⟨rfl,A⟩
 have rr0:=A.out.cellOf (H.out.fix (⟨pr,0,none⟩,J Y 0) (by simp)).1 (by show pr ≠ b;omega)
 have rf0:=A.out.frozenOf (H.out.fix (⟨pr,0,none⟩,J Y 0) (by simp)).1 (H.out.fix (⟨pr,0,none⟩,J Y 0) (by simp)).2 (by show pr ≠ b;omega)
 have mm0:=A.out.cellOf (H.out.fix (⟨pm,0,none⟩,J Y s0) (by simp)).1 (by show pm ≠ b;omega)
 have rr1:=A.out.cellOf (H.out.fix (⟨pr,1,none⟩,J Y 0) (by simp)).1 (by show pr ≠ b;omega)
 have rf1:=A.out.frozenOf (H.out.fix (⟨pr,1,none⟩,J Y 0) (by simp)).1 (H.out.fix (⟨pr,1,none⟩,J Y 0) (by simp)).2 (by show pr ≠ b;omega)
 have mm1:=A.out.cellOf (H.out.fix (⟨pm,1,none⟩,J Y d1) (by simp)).1 (by show pm ≠ b;omega)
 have rr2:=A.out.cellOf (H.out.fix (⟨pr,2,none⟩,J Y 0) (by simp)).1 (by show pr ≠ b;omega)
 have rf2:=A.out.frozenOf (H.out.fix (⟨pr,2,none⟩,J Y 0) (by simp)).1 (H.out.fix (⟨pr,2,none⟩,J Y 0) (by simp)).2 (by show pr ≠ b;omega)
 have mm2:=A.out.cellOf (H.out.fix (⟨pm,2,none⟩,J Y d2) (by simp)).1 (by show pm ≠ b;omega)
 have rr3:=A.out.cellOf (H.out.fix (⟨pr,3,none⟩,J Y 0) (by simp)).1 (by show pr ≠ b;omega)
 have rf3:=A.out.frozenOf (H.out.fix (⟨pr,3,none⟩,J Y 0) (by simp)).1 (H.out.fix (⟨pr,3,none⟩,J Y 0) (by simp)).2 (by show pr ≠ b;omega)
 have mm3:=A.out.cellOf (H.out.fix (⟨pm,3,none⟩,J Y d3) (by simp)).1 (by show pm ≠ b;omega)
 have rr4:=A.out.cellOf (H.out.fix (⟨pr,4,none⟩,J Y 0) (by simp)).1 (by show pr ≠ b;omega)
 have rf4:=A.out.frozenOf (H.out.fix (⟨pr,4,none⟩,J Y 0) (by simp)).1 (H.out.fix (⟨pr,4,none⟩,J Y 0) (by simp)).2 (by show pr ≠ b;omega)
 have mm4:=A.out.cellOf (H.out.fix (⟨pm,4,none⟩,J Y s4) (by simp)).1 (by show pm ≠ b;omega)
 have rr5:=A.out.cellOf (H.out.fix (⟨pr,5,none⟩,J Y 0) (by simp)).1 (by show pr ≠ b;omega)
 have rf5:=A.out.frozenOf (H.out.fix (⟨pr,5,none⟩,J Y 0) (by simp)).1 (H.out.fix (⟨pr,5,none⟩,J Y 0) (by simp)).2 (by show pr ≠ b;omega)
 have mm5:=A.out.cellOf (H.out.fix (⟨pm,5,none⟩,J Y d5) (by simp)).1 (by show pm ≠ b;omega)
 have rr6:=A.out.cellOf (H.out.fix (⟨pr,6,none⟩,J Y 0) (by simp)).1 (by show pr ≠ b;omega)
 have rf6:=A.out.frozenOf (H.out.fix (⟨pr,6,none⟩,J Y 0) (by simp)).1 (H.out.fix (⟨pr,6,none⟩,J Y 0) (by simp)).2 (by show pr ≠ b;omega)
 have mm6:=A.out.cellOf (H.out.fix (⟨pm,6,none⟩,J Y d6) (by simp)).1 (by show pm ≠ b;omega)
 have rr7:=A.out.cellOf (H.out.fix (⟨pr,7,none⟩,J Y 0) (by simp)).1 (by show pr ≠ b;omega)
 have rf7:=A.out.frozenOf (H.out.fix (⟨pr,7,none⟩,J Y 0) (by simp)).1 (H.out.fix (⟨pr,7,none⟩,J Y 0) (by simp)).2 (by show pr ≠ b;omega)
 have mm7:=A.out.cellOf (H.out.fix (⟨pm,7,none⟩,J Y d7) (by simp)).1 (by show pm ≠ b;omega)
 have rr8:=A.out.cellOf (H.out.fix (⟨pr,8,none⟩,J Y 0) (by simp)).1 (by show pr ≠ b;omega)
 have rf8:=A.out.frozenOf (H.out.fix (⟨pr,8,none⟩,J Y 0) (by simp)).1 (H.out.fix (⟨pr,8,none⟩,J Y 0) (by simp)).2 (by show pr ≠ b;omega)
 have mm8:=A.out.cellOf (H.out.fix (⟨pm,8,none⟩,J Y s8) (by simp)).1 (by show pm ≠ b;omega)
 have HL:Hid (Leaves ⟨b,off,none⟩ W V9):=H.out.leaves.same A.out
 have hp:=A.out.cell
 have hpf:=A.out.frozen
 have n1':b ≠ pr:=by omega
 have n2':pr ≠ b:=by omega
 have n3':pr ≠ pm:=by omega
 have n4':pm ≠ pr:=by omega
 have hWr:W.heap.size <= pr:=by omega
 have HS:Hid _:=Jmf (f:=f) Sg1.out Sg2.out Sg3.out Sg4.out Sg5.out Sg6.out Sg7.out Sg8.out Sg9.out Sg10.out Sg11.out Sg12.out Sg13.out Sg14.out Sg15.out Sg16.out Sg17.out Sg18.out Sg19.out
 clear A H Sg1 Sg2 Sg3 Sg4 Sg5 Sg6 Sg7 Sg8 Sg9 Sg10 Sg11 Sg12 Sg13 Sg14 Sg15 Sg16 Sg17 Sg18 Sg19
 cases g19 with
 | true =>
  clear mm0 mm1 mm2 mm3 mm4 mm5 mm6 mm7 mm8
  go_wp2_with (fail)
  refine bodyPost_ret (by simp [results,Tryz.results97,go_sem,rr0,rr1,rr2,rr3,rr4,rr5,rr6,rr7,rr8];try rfl) rfl ?_
  obtain ⟨e0,e1,e2,e3,e4,e5,e6,e7,e8,eg⟩:=HS.out
  refine ⟨by rw [<- e0,<- e1,<- e2,<- e3,<- e4,<- e5,<- e6,<- e7,<- e8];rfl,by rw [<- eg];exact (((((((((HL.out.set hWr _).set hWr _).set hWr _).set hWr _).set hWr _).set hWr _).set hWr _).set hWr _).set hWr _).done (by simp [go_sem,hp]) (by simp [go_sem,hpf])⟩
 | false =>
  go_wp2_with (fail)
  refine bodyPost_ret (by simp [results,Tryz.results97,go_sem,rr0,rr1,rr2,rr3,rr4,rr5,rr6,rr7,rr8];try rfl) rfl ?_
  obtain ⟨e0,e1,e2,e3,e4,e5,e6,e7,e8,eg⟩:=HS.out
  refine ⟨by rw [<- e0,<- e1,<- e2,<- e3,<- e4,<- e5,<- e6,<- e7,<- e8];rfl,by rw [<- eg];exact (((((((((HL.out.set hWr _).set hWr _).set hWr _).set hWr _).set hWr _).set hWr _).set hWr _).set hWr _).set hWr _).done (by simp [go_sem,hp]) (by simp [go_sem,hpf])⟩
end
section
open Go.RowKit Fx Ref
theorem Jlt (b off:Nat) (f:Bool) (x y:V3) (W:World) (hc:W.cell? ⟨b,off,none⟩ = some (.bool f)) (hf:W.frozen? ⟨b,off,none⟩ = false) :
  Calls Tryz.prog 15 #[.pointer (some ⟨b,off,none⟩),x.val,y.val] W fun e W'=>e = .returned (Jig x y).val/\Hid (After ⟨b,off,none⟩ (f || Jsv x y) W W'):=by
 refine JA (Joq b off f x.x x.y x.z y.x y.y y.z W hc hf) ?_
 rintro e W' ⟨v0,v1,v2,g,rfl,SS,A⟩
 obtain ⟨rfl,rfl,rfl,rfl⟩:=Jgm SS.out
 exact ⟨rfl,A⟩
theorem Jtw (b off:Nat) (f:Bool) (m:Mt) (x:V3) (W:World) (hc:W.cell? ⟨b,off,none⟩ = some (.bool f)) (hf:W.frozen? ⟨b,off,none⟩ = false) :
  Calls Tryz.prog 99 #[.pointer (some ⟨b,off,none⟩),m.val,x.val] W fun e W'=>e = .returned (Jar m x).val/\Hid (After ⟨b,off,none⟩ (f || Jdo m x) W W'):=by
 refine JA (Jg9 b off f m.a.x m.a.y m.a.z m.b.x m.b.y m.b.z m.c.x m.c.y m.c.z x.x x.y x.z W hc hf) ?_
 rintro e W' ⟨v0,v1,v2,g,rfl,SS,A⟩
 obtain ⟨rfl,rfl,rfl,rfl⟩:=Jgm SS.out
 exact ⟨rfl,A⟩
theorem Jth (b off:Nat) (f:Bool) (m:Mt) (x:V3) (W:World) (hc:W.cell? ⟨b,off,none⟩ = some (.bool f)) (hf:W.frozen? ⟨b,off,none⟩ = false) :
  Calls Tryz.prog 98 #[.pointer (some ⟨b,off,none⟩),m.val,x.val] W fun e W'=>e = .returned (Jar m.t x).val/\Hid (After ⟨b,off,none⟩ (f || Jdo m.t x) W W'):=by
 refine JA (Jnb b off f m.a.x m.a.y m.a.z m.b.x m.b.y m.b.z m.c.x m.c.y m.c.z x.x x.y x.z W hc hf) ?_
 rintro e W' ⟨v0,v1,v2,g,rfl,SS,A⟩
 obtain ⟨rfl,rfl,rfl,rfl⟩:=Jgm SS.out
 exact ⟨rfl,A⟩
theorem Jtx (b off:Nat) (f:Bool) (q:V4) (W:World) (hc:W.cell? ⟨b,off,none⟩ = some (.bool f)) (hf:W.frozen? ⟨b,off,none⟩ = false) :
  Calls Tryz.prog 97 #[.pointer (some ⟨b,off,none⟩),q.val] W fun e W'=>e = .returned (Jo q).val/\Hid (After ⟨b,off,none⟩ (f || Jhu q) W W'):=Jm2 b off f q.w q.x q.y q.z W hc hf
theorem Jq6 (b off:Nat) (f:Bool) (x:V3) (W:World) (hc:W.cell? ⟨b,off,none⟩ = some (.bool f)) (hf:W.frozen? ⟨b,off,none⟩ = false) :
  Calls Tryz.prog 27 #[.pointer (some ⟨b,off,none⟩),x.val] W fun e W'=>e = .returned (J Y (Jga x))/\Hid (After ⟨b,off,none⟩ (f || Jte x) W W'):=by
 refine JA (Jpb b off f x.x x.y x.z W hc hf) ?_
 rintro e W' ⟨v0,g,rfl,SS,A⟩
 obtain ⟨rfl,rfl⟩:=SS.out
 exact ⟨rfl,A⟩
theorem Jgg (b off:Nat) (f:Bool) (x n:Int) (W:World) (hc:W.cell? ⟨b,off,none⟩ = some (.bool f)) (hf:W.frozen? ⟨b,off,none⟩ = false) :
  Calls Tryz.prog 92 #[.pointer (some ⟨b,off,none⟩),J Y x,J Y n] W fun e W'=>e = .returned (J Y (dv1 x n))/\Hid (After ⟨b,off,none⟩ (f || Jby x n) W W'):=by
 refine JA (Jej b off f x n W hc hf) ?_
 rintro e W' ⟨v0,g,rfl,SS,A⟩
 obtain ⟨rfl,rfl⟩:=SS.out
 exact ⟨rfl,A⟩
end
end Go.Proofs.YteebbpioffdncaaGreat
