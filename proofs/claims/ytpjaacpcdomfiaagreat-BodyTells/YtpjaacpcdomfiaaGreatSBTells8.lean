/- The reference's turning back, and its turning on. -/
import Derived.Test.YtpjaacpcdomfiaaGreatSBTells5
import Derived.Deep.CutBlock
import Derived.Test.YtpjaacpcdomfiaaGreatSBTells7
set_option maxHeartbeats 4000000
set_option maxRecDepth 100000
set_option linter.unusedVariables false
namespace Go.Proofs.YtpjaacpcdomfiaaGreat
section
open Go.RowKit Ref Fx
theorem rvback_law (b off:Nat) (f:Bool) (m0 m1 m2 m3 m4 m5 m6 m7 m8 x0 x1 x2:Int) (W:World) (hc:W.cell? ⟨b,off,none⟩ = some (.bool f)) (hf:W.frozen? ⟨b,off,none⟩ = false) :
  Calls Tryz.prog 58 #[.pointer (some ⟨b,off,none⟩),.agg #[.int .i64 m0,.int .i64 m1,.int .i64 m2,.int .i64 m3,.int .i64 m4,.int .i64 m5,.int .i64 m6,.int .i64 m7,.int .i64 m8],.agg #[.int .i64 x0,.int .i64 x1,.int .i64 x2]] W fun e W'=>∃ v0 v1 v2 g,e = .returned (.agg #[.int .i64 v0,.int .i64 v1,.int .i64 v2])/\Hid (Step3 f (dot [m0,m3,m6] [x0,x1,x2]) (dot [m1,m4,m7] [x0,x1,x2]) (dot [m2,m5,m8] [x0,x1,x2]) v0 v1 v2 g)/\Hid (After ⟨b,off,none⟩ g W W'):=by
 have hbW:b < W.heap.size:=World.block_lt_of_cell? _ _ hc
 have HC:Hid _:=hc
 have HF:Hid _:=hf
 clear hc hf
 go_enter Tryz.func58,Tryz.ntmps58
 go_wp2_with (fail)
 obtain ⟨U,hU⟩:∃ U,U = ((((W.alloc (.cells #[.int .i64 m0,.int .i64 m1,.int .i64 m2,.int .i64 m3,.int .i64 m4,.int .i64 m5,.int .i64 m6,.int .i64 m7,.int .i64 m8] 94)).alloc (.cells #[.int .i64 x0,.int .i64 x1,.int .i64 x2] 23)).alloc (.cells #[.int .i64 0,.int .i64 0,.int .i64 0] 23)).alloc (.cells #[.int .i64 m0,.int .i64 m3,.int .i64 m6,.int .i64 m1,.int .i64 m4,.int .i64 m7,.int .i64 m2,.int .i64 m5,.int .i64 m8] 94)):=⟨_,rfl⟩
 have HL:Hid (Leaves ⟨b,off,none⟩ W U):=by show Leaves _ _ _;rw [hU];exact (((((Leaves.refl _ _).alloc _).alloc _).alloc _).alloc _)
 have hp:U.cell? ⟨b,off,none⟩ = some (.bool f):=by
  rw [hU]
  rw [World.cell?_alloc_past _ _ _ (by simp;omega),World.cell?_alloc_past _ _ _ (by simp;omega),World.cell?_alloc_past _ _ _ (by simp;omega),World.cell?_alloc_past _ _ _ hbW];exact HC.out
 have hpf:U.frozen? ⟨b,off,none⟩ = false:=by
  rw [hU]
  rw [((new_after _ _).frozen (by simp;omega)),((new_after _ _).frozen (by simp;omega)),((new_after _ _).frozen (by simp;omega)),((new_after _ _).frozen hbW)];exact HF.out
 obtain ⟨pr,hpr⟩:∃ p,p = W.heap.size + 1 + 1:=⟨_,rfl⟩
 have rr0:U.cell? ⟨pr,0,none⟩ = some (.int .i64 0):=by
  rw [hU,hpr]
  simp [go_sem]
 have rf0:U.frozen? ⟨pr,0,none⟩ = false:=by
  rw [hU,hpr]
  simp [go_sem]
 have rr1:U.cell? ⟨pr,1,none⟩ = some (.int .i64 0):=by
  rw [hU,hpr]
  simp [go_sem]
 have rf1:U.frozen? ⟨pr,1,none⟩ = false:=by
  rw [hU,hpr]
  simp [go_sem]
 have rr2:U.cell? ⟨pr,2,none⟩ = some (.int .i64 0):=by
  rw [hU,hpr]
  simp [go_sem]
 have rf2:U.frozen? ⟨pr,2,none⟩ = false:=by
  rw [hU,hpr]
  simp [go_sem]
 rw [<- hU]
 have hbr:b < pr:=by omega
 have hWr:W.heap.size <= pr:=by omega
 rw [<- hpr]
 clear hU HC HF hpr
 refine (rvturn_law b off f m0 m3 m6 m1 m4 m7 m2 m5 m8 x0 x1 x2 U hp hpf).mono ?_
 rintro e V9 ⟨v0,v1,v2,g,rfl,S,A⟩
 have rf0:=A.out.frozenOf rr0 rf0 (by show pr ≠ b;omega)
 have rr0:=A.out.cellOf rr0 (by show pr ≠ b;omega)
 have rf1:=A.out.frozenOf rr1 rf1 (by show pr ≠ b;omega)
 have rr1:=A.out.cellOf rr1 (by show pr ≠ b;omega)
 have rf2:=A.out.frozenOf rr2 rf2 (by show pr ≠ b;omega)
 have rr2:=A.out.cellOf rr2 (by show pr ≠ b;omega)
 have HL2:Hid (Leaves ⟨b,off,none⟩ W V9):=HL.out.same A.out
 have hp:=A.out.cell
 have hpf:=A.out.frozen
 have n1:b ≠ pr:=by omega
 have n2:pr ≠ b:=by omega
 clear A HL
 go_wp2_with (fail)
 refine bodyPost_ret (by simp [results,Tryz.results58,go_sem,rr0,rr1,rr2];try rfl) rfl ?_
 refine ⟨v0,v1,v2,g,rfl,S,(((HL2.out.set hWr _).set hWr _).set hWr _).done ?_ ?_⟩
 ·simp [go_sem,hp]
 ·simp [go_sem,hpf]
def spinAt0 (q0 q1 q2 q3 h0 h1 h2:Int):Int:=cond (wholeBad (cond (timesBad 4294967296 h0 h1 h2 q0 q1 q2 q3) 0 (timesAt0 4294967296 h0 h1 h2 q0 q1 q2 q3)) (cond (timesBad 4294967296 h0 h1 h2 q0 q1 q2 q3) 0 (timesAt1 4294967296 h0 h1 h2 q0 q1 q2 q3)) (cond (timesBad 4294967296 h0 h1 h2 q0 q1 q2 q3) 0 (timesAt2 4294967296 h0 h1 h2 q0 q1 q2 q3)) (cond (timesBad 4294967296 h0 h1 h2 q0 q1 q2 q3) 0 (timesAt3 4294967296 h0 h1 h2 q0 q1 q2 q3))) 0 ((ratio (cond (timesBad 4294967296 h0 h1 h2 q0 q1 q2 q3) 0 (timesAt0 4294967296 h0 h1 h2 q0 q1 q2 q3)) 4294967296 ((norm [(cond (timesBad 4294967296 h0 h1 h2 q0 q1 q2 q3) 0 (timesAt0 4294967296 h0 h1 h2 q0 q1 q2 q3)),(cond (timesBad 4294967296 h0 h1 h2 q0 q1 q2 q3) 0 (timesAt1 4294967296 h0 h1 h2 q0 q1 q2 q3)),(cond (timesBad 4294967296 h0 h1 h2 q0 q1 q2 q3) 0 (timesAt2 4294967296 h0 h1 h2 q0 q1 q2 q3)),(cond (timesBad 4294967296 h0 h1 h2 q0 q1 q2 q3) 0 (timesAt3 4294967296 h0 h1 h2 q0 q1 q2 q3))]).getD 0)).getD 0)
def spinAt1 (q0 q1 q2 q3 h0 h1 h2:Int):Int:=cond (wholeBad (cond (timesBad 4294967296 h0 h1 h2 q0 q1 q2 q3) 0 (timesAt0 4294967296 h0 h1 h2 q0 q1 q2 q3)) (cond (timesBad 4294967296 h0 h1 h2 q0 q1 q2 q3) 0 (timesAt1 4294967296 h0 h1 h2 q0 q1 q2 q3)) (cond (timesBad 4294967296 h0 h1 h2 q0 q1 q2 q3) 0 (timesAt2 4294967296 h0 h1 h2 q0 q1 q2 q3)) (cond (timesBad 4294967296 h0 h1 h2 q0 q1 q2 q3) 0 (timesAt3 4294967296 h0 h1 h2 q0 q1 q2 q3))) 0 ((ratio (cond (timesBad 4294967296 h0 h1 h2 q0 q1 q2 q3) 0 (timesAt1 4294967296 h0 h1 h2 q0 q1 q2 q3)) 4294967296 ((norm [(cond (timesBad 4294967296 h0 h1 h2 q0 q1 q2 q3) 0 (timesAt0 4294967296 h0 h1 h2 q0 q1 q2 q3)),(cond (timesBad 4294967296 h0 h1 h2 q0 q1 q2 q3) 0 (timesAt1 4294967296 h0 h1 h2 q0 q1 q2 q3)),(cond (timesBad 4294967296 h0 h1 h2 q0 q1 q2 q3) 0 (timesAt2 4294967296 h0 h1 h2 q0 q1 q2 q3)),(cond (timesBad 4294967296 h0 h1 h2 q0 q1 q2 q3) 0 (timesAt3 4294967296 h0 h1 h2 q0 q1 q2 q3))]).getD 0)).getD 0)
def spinAt2 (q0 q1 q2 q3 h0 h1 h2:Int):Int:=cond (wholeBad (cond (timesBad 4294967296 h0 h1 h2 q0 q1 q2 q3) 0 (timesAt0 4294967296 h0 h1 h2 q0 q1 q2 q3)) (cond (timesBad 4294967296 h0 h1 h2 q0 q1 q2 q3) 0 (timesAt1 4294967296 h0 h1 h2 q0 q1 q2 q3)) (cond (timesBad 4294967296 h0 h1 h2 q0 q1 q2 q3) 0 (timesAt2 4294967296 h0 h1 h2 q0 q1 q2 q3)) (cond (timesBad 4294967296 h0 h1 h2 q0 q1 q2 q3) 0 (timesAt3 4294967296 h0 h1 h2 q0 q1 q2 q3))) 0 ((ratio (cond (timesBad 4294967296 h0 h1 h2 q0 q1 q2 q3) 0 (timesAt2 4294967296 h0 h1 h2 q0 q1 q2 q3)) 4294967296 ((norm [(cond (timesBad 4294967296 h0 h1 h2 q0 q1 q2 q3) 0 (timesAt0 4294967296 h0 h1 h2 q0 q1 q2 q3)),(cond (timesBad 4294967296 h0 h1 h2 q0 q1 q2 q3) 0 (timesAt1 4294967296 h0 h1 h2 q0 q1 q2 q3)),(cond (timesBad 4294967296 h0 h1 h2 q0 q1 q2 q3) 0 (timesAt2 4294967296 h0 h1 h2 q0 q1 q2 q3)),(cond (timesBad 4294967296 h0 h1 h2 q0 q1 q2 q3) 0 (timesAt3 4294967296 h0 h1 h2 q0 q1 q2 q3))]).getD 0)).getD 0)
def spinAt3 (q0 q1 q2 q3 h0 h1 h2:Int):Int:=cond (wholeBad (cond (timesBad 4294967296 h0 h1 h2 q0 q1 q2 q3) 0 (timesAt0 4294967296 h0 h1 h2 q0 q1 q2 q3)) (cond (timesBad 4294967296 h0 h1 h2 q0 q1 q2 q3) 0 (timesAt1 4294967296 h0 h1 h2 q0 q1 q2 q3)) (cond (timesBad 4294967296 h0 h1 h2 q0 q1 q2 q3) 0 (timesAt2 4294967296 h0 h1 h2 q0 q1 q2 q3)) (cond (timesBad 4294967296 h0 h1 h2 q0 q1 q2 q3) 0 (timesAt3 4294967296 h0 h1 h2 q0 q1 q2 q3))) 0 ((ratio (cond (timesBad 4294967296 h0 h1 h2 q0 q1 q2 q3) 0 (timesAt3 4294967296 h0 h1 h2 q0 q1 q2 q3)) 4294967296 ((norm [(cond (timesBad 4294967296 h0 h1 h2 q0 q1 q2 q3) 0 (timesAt0 4294967296 h0 h1 h2 q0 q1 q2 q3)),(cond (timesBad 4294967296 h0 h1 h2 q0 q1 q2 q3) 0 (timesAt1 4294967296 h0 h1 h2 q0 q1 q2 q3)),(cond (timesBad 4294967296 h0 h1 h2 q0 q1 q2 q3) 0 (timesAt2 4294967296 h0 h1 h2 q0 q1 q2 q3)),(cond (timesBad 4294967296 h0 h1 h2 q0 q1 q2 q3) 0 (timesAt3 4294967296 h0 h1 h2 q0 q1 q2 q3))]).getD 0)).getD 0)
def spinBad (q0 q1 q2 q3 h0 h1 h2:Int):Bool:=wholeBad (cond (timesBad 4294967296 h0 h1 h2 q0 q1 q2 q3) 0 (timesAt0 4294967296 h0 h1 h2 q0 q1 q2 q3)) (cond (timesBad 4294967296 h0 h1 h2 q0 q1 q2 q3) 0 (timesAt1 4294967296 h0 h1 h2 q0 q1 q2 q3)) (cond (timesBad 4294967296 h0 h1 h2 q0 q1 q2 q3) 0 (timesAt2 4294967296 h0 h1 h2 q0 q1 q2 q3)) (cond (timesBad 4294967296 h0 h1 h2 q0 q1 q2 q3) 0 (timesAt3 4294967296 h0 h1 h2 q0 q1 q2 q3))
theorem whole_zero:wholeBad 0 0 0 0 = true:=by
 have h:norm [0,0,0,0] = some 0:=by decide
 unfold wholeBad
 rw [h]
 rfl
theorem spin_bad {q0 q1 q2 q3 h0 h1 h2:Int} (h:timesBad 4294967296 h0 h1 h2 q0 q1 q2 q3 = true):spinBad q0 q1 q2 q3 h0 h1 h2 = true:=by
 unfold spinBad
 rw [h]
 exact whole_zero
theorem spin_chain {f g1 g2:Bool} {q0 q1 q2 q3 h0 h1 h2 t0 t1 t2 t3 v0 v1 v2 v3:Int} (a:t0 = cond (timesBad 4294967296 h0 h1 h2 q0 q1 q2 q3) 0 (timesAt0 4294967296 h0 h1 h2 q0 q1 q2 q3)/\t1 = cond (timesBad 4294967296 h0 h1 h2 q0 q1 q2 q3) 0 (timesAt1 4294967296 h0 h1 h2 q0 q1 q2 q3)/\t2 = cond (timesBad 4294967296 h0 h1 h2 q0 q1 q2 q3) 0 (timesAt2 4294967296 h0 h1 h2 q0 q1 q2 q3)/\t3 = cond (timesBad 4294967296 h0 h1 h2 q0 q1 q2 q3) 0 (timesAt3 4294967296 h0 h1 h2 q0 q1 q2 q3)/\g1 = (false || timesBad 4294967296 h0 h1 h2 q0 q1 q2 q3))
  (c:v0 = cond (wholeBad t0 t1 t2 t3) 0 ((ratio t0 4294967296 ((norm [t0,t1,t2,t3]).getD 0)).getD 0)/\v1 = cond (wholeBad t0 t1 t2 t3) 0 ((ratio t1 4294967296 ((norm [t0,t1,t2,t3]).getD 0)).getD 0)/\v2 = cond (wholeBad t0 t1 t2 t3) 0 ((ratio t2 4294967296 ((norm [t0,t1,t2,t3]).getD 0)).getD 0)/\v3 = cond (wholeBad t0 t1 t2 t3) 0 ((ratio t3 4294967296 ((norm [t0,t1,t2,t3]).getD 0)).getD 0)/\g2 = (g1 || wholeBad t0 t1 t2 t3)) :
  cond g2 0 v0 = spinAt0 q0 q1 q2 q3 h0 h1 h2/\cond g2 0 v1 = spinAt1 q0 q1 q2 q3 h0 h1 h2/\cond g2 0 v2 = spinAt2 q0 q1 q2 q3 h0 h1 h2/\cond g2 0 v3 = spinAt3 q0 q1 q2 q3 h0 h1 h2/\(f || g2) = (f || spinBad q0 q1 q2 q3 h0 h1 h2):=by
 obtain ⟨rfl,rfl,rfl,rfl,rfl⟩:=a
 obtain ⟨rfl,rfl,rfl,rfl,rfl⟩:=c
 have e:(false || timesBad 4294967296 h0 h1 h2 q0 q1 q2 q3 || wholeBad (cond (timesBad 4294967296 h0 h1 h2 q0 q1 q2 q3) 0 (timesAt0 4294967296 h0 h1 h2 q0 q1 q2 q3)) (cond (timesBad 4294967296 h0 h1 h2 q0 q1 q2 q3) 0 (timesAt1 4294967296 h0 h1 h2 q0 q1 q2 q3)) (cond (timesBad 4294967296 h0 h1 h2 q0 q1 q2 q3) 0 (timesAt2 4294967296 h0 h1 h2 q0 q1 q2 q3)) (cond (timesBad 4294967296 h0 h1 h2 q0 q1 q2 q3) 0 (timesAt3 4294967296 h0 h1 h2 q0 q1 q2 q3))) = spinBad q0 q1 q2 q3 h0 h1 h2:=by
  cases hb:timesBad 4294967296 h0 h1 h2 q0 q1 q2 q3 with
  | true=>rw [spin_bad hb];rfl
  | false=>unfold spinBad;rw [hb];rfl
 rw [e]
 unfold spinAt0 spinAt1 spinAt2 spinAt3
 unfold spinBad
 cases wholeBad (cond (timesBad 4294967296 h0 h1 h2 q0 q1 q2 q3) 0 (timesAt0 4294967296 h0 h1 h2 q0 q1 q2 q3)) (cond (timesBad 4294967296 h0 h1 h2 q0 q1 q2 q3) 0 (timesAt1 4294967296 h0 h1 h2 q0 q1 q2 q3)) (cond (timesBad 4294967296 h0 h1 h2 q0 q1 q2 q3) 0 (timesAt2 4294967296 h0 h1 h2 q0 q1 q2 q3)) (cond (timesBad 4294967296 h0 h1 h2 q0 q1 q2 q3) 0 (timesAt3 4294967296 h0 h1 h2 q0 q1 q2 q3)) <;> exact ⟨rfl,rfl,rfl,rfl,rfl⟩
theorem rvspin_law (b off:Nat) (f:Bool) (q0 q1 q2 q3 h0 h1 h2:Int) (W:World) (hc:W.cell? ⟨b,off,none⟩ = some (.bool f)) (hf:W.frozen? ⟨b,off,none⟩ = false) :
  Calls Tryz.prog 73 #[.pointer (some ⟨b,off,none⟩),.agg #[.int .i64 q0,.int .i64 q1,.int .i64 q2,.int .i64 q3],.agg #[.int .i64 h0,.int .i64 h1,.int .i64 h2]] W fun e W'=>∃ v0 v1 v2 v3 g,e = .returned (.agg #[.int .i64 v0,.int .i64 v1,.int .i64 v2,.int .i64 v3])/\Hid (v0 = spinAt0 q0 q1 q2 q3 h0 h1 h2/\v1 = spinAt1 q0 q1 q2 q3 h0 h1 h2/\v2 = spinAt2 q0 q1 q2 q3 h0 h1 h2/\v3 = spinAt3 q0 q1 q2 q3 h0 h1 h2/\g = (f || spinBad q0 q1 q2 q3 h0 h1 h2))/\Hid (After ⟨b,off,none⟩ g W W'):=by
 have hbW:b < W.heap.size:=World.block_lt_of_cell? _ _ hc
 go_enter Tryz.func73,Tryz.ntmps73
 go_wp2_with (fail)
 refine (rvbare_any _).mono ?_
 rintro e W1 ⟨rfl,rfl⟩
 obtain ⟨U,hU⟩:∃ U,U = ((((W.alloc (.cells #[.int .i64 q0,.int .i64 q1,.int .i64 q2,.int .i64 q3] 25)).alloc (.cells #[.int .i64 h0,.int .i64 h1,.int .i64 h2] 23)).alloc (.cells #[.int .i64 0,.int .i64 0,.int .i64 0,.int .i64 0] 25)).alloc (.cells #[.bool false] 44)):=⟨_,rfl⟩
 obtain ⟨pa,hpa⟩:∃ p,p = W.heap.size:=⟨_,rfl⟩
 obtain ⟨pb,hpb⟩:∃ p,p = W.heap.size + 1:=⟨_,rfl⟩
 obtain ⟨pr,hpr⟩:∃ p,p = W.heap.size + 1 + 1:=⟨_,rfl⟩
 obtain ⟨po,hpo⟩:∃ p,p = W.heap.size + 1 + 1 + 1:=⟨_,rfl⟩
 have H:Hid (Ho W U ⟨b,off,none⟩ po f false [(⟨pa,0,none⟩,.int .i64 q0),(⟨pa,1,none⟩,.int .i64 q1),(⟨pa,2,none⟩,.int .i64 q2),(⟨pa,3,none⟩,.int .i64 q3),(⟨pb,0,none⟩,.int .i64 h0),(⟨pb,1,none⟩,.int .i64 h1),(⟨pb,2,none⟩,.int .i64 h2),(⟨pr,0,none⟩,.int .i64 0),(⟨pr,1,none⟩,.int .i64 0),(⟨pr,2,none⟩,.int .i64 0),(⟨pr,3,none⟩,.int .i64 0)]):=by
  refine ⟨by rw [hU];exact (((((Leaves.refl _ _).alloc _).alloc _).alloc _).alloc _),by rw [hU,World.cell?_alloc_past _ _ _ (by simp;omega),World.cell?_alloc_past _ _ _ (by simp;omega),World.cell?_alloc_past _ _ _ (by simp;omega),World.cell?_alloc_past _ _ _ hbW];exact hc,by rw [hU,((new_after _ _).frozen (by simp;omega)),((new_after _ _).frozen (by simp;omega)),((new_after _ _).frozen (by simp;omega)),((new_after _ _).frozen hbW)];exact hf,by rw [hU,hpo];simp [go_sem],by rw [hU,hpo];simp [go_sem],?_,?_,hbW,by omega⟩
  ·intro c hc
   simp only [List.mem_cons,List.not_mem_nil,or_false] at hc
   rcases hc with rfl | rfl | rfl | rfl | rfl | rfl | rfl | rfl | rfl | rfl | rfl <;> rw [hU] <;> dsimp only <;> first | (rw [hpa];exact ⟨by simp [go_sem],by simp [go_sem]⟩) | (rw [hpb];exact ⟨by simp [go_sem],by simp [go_sem]⟩) | (rw [hpr];exact ⟨by simp [go_sem],by simp [go_sem]⟩)
  ·intro c hc
   simp only [List.mem_cons,List.not_mem_nil,or_false] at hc
   rcases hc with rfl | rfl | rfl | rfl | rfl | rfl | rfl | rfl | rfl | rfl | rfl <;> (dsimp only) <;> omega
 rw [<- hU]
 simp only [World.size_alloc]
 rw [<- hpo,<- hpr,<- hpb,<- hpa]
 have zq1:pa < pb:=by omega
 have zq2:pb < pr:=by omega
 have zq3:pr < po:=by omega
 have zq0:W.heap.size <= pa:=by omega
 clear hU hc hf hpa hpb hpr hpo
 have k_pa_0:=(H.out.fix (⟨pa,0,none⟩,.int .i64 q0) (by simp)).1
 have k_pa_1:=(H.out.fix (⟨pa,1,none⟩,.int .i64 q1) (by simp)).1
 have k_pa_2:=(H.out.fix (⟨pa,2,none⟩,.int .i64 q2) (by simp)).1
 have k_pa_3:=(H.out.fix (⟨pa,3,none⟩,.int .i64 q3) (by simp)).1
 have k_pb_0:=(H.out.fix (⟨pb,0,none⟩,.int .i64 h0) (by simp)).1
 have k_pb_1:=(H.out.fix (⟨pb,1,none⟩,.int .i64 h1) (by simp)).1
 have k_pb_2:=(H.out.fix (⟨pb,2,none⟩,.int .i64 h2) (by simp)).1
 have l_pa:=World.block_lt_of_cell? _ _ k_pa_0
 dsimp only at l_pa
 have l_pb:=World.block_lt_of_cell? _ _ k_pb_0
 dsimp only at l_pb
 go_wp2_with (fail)
 clear k_pa_0 k_pa_1 k_pa_2 k_pa_3 k_pb_0 k_pb_1 k_pb_2 l_pa l_pb
 refine (rvtimes_law po 0 false 4294967296 h0 h1 h2 q0 q1 q2 q3 _ H.out.own H.out.ownf).mono ?_
 rintro e Wg1 ⟨t0,t1,t2,t3,g1,rfl,Sg1,A⟩
 have H:Hid _:=H.out.after A.out
 clear A
 go_upto_region 3 with fail
 obtain ⟨pt,hpt⟩:∃ p,p = Wg1.heap.size:=⟨_,rfl⟩
 obtain ⟨Ypt,hYpt⟩:∃ X,X = Wg1.alloc (.cells #[.int .i64 t0,.int .i64 t1,.int .i64 t2,.int .i64 t3] 25):=⟨_,rfl⟩
 have H2:Hid (Ho W Ypt ⟨b,off,none⟩ po f g1 ([(⟨pt,0,none⟩,.int .i64 t0),(⟨pt,1,none⟩,.int .i64 t1),(⟨pt,2,none⟩,.int .i64 t2),(⟨pt,3,none⟩,.int .i64 t3)] ++ [(⟨pa,0,none⟩,.int .i64 q0),(⟨pa,1,none⟩,.int .i64 q1),(⟨pa,2,none⟩,.int .i64 q2),(⟨pa,3,none⟩,.int .i64 q3),(⟨pb,0,none⟩,.int .i64 h0),(⟨pb,1,none⟩,.int .i64 h1),(⟨pb,2,none⟩,.int .i64 h2),(⟨pr,0,none⟩,.int .i64 0),(⟨pr,1,none⟩,.int .i64 0),(⟨pr,2,none⟩,.int .i64 0),(⟨pr,3,none⟩,.int .i64 0)])):=by
  show Ho _ _ _ _ _ _ _
  rw [hYpt]
  refine H.out.lay _ _ _ (fun c hc=>?_)
  simp only [List.mem_cons,List.not_mem_nil,or_false] at hc
  rcases hc with rfl | rfl | rfl | rfl
  ·exact ⟨0,by rw [hpt],rfl⟩
  ·exact ⟨1,by rw [hpt],rfl⟩
  ·exact ⟨2,by rw [hpt],rfl⟩
  ·exact ⟨3,by rw [hpt],rfl⟩
 rw [<- hYpt,<- hpt]
 have H:Hid _:=H2.out
 clear hYpt hpt H2
 have kt0:=(H.out.fix (⟨pt,0,none⟩,.int .i64 t0) (by simp)).1
 have kt1:=(H.out.fix (⟨pt,1,none⟩,.int .i64 t1) (by simp)).1
 have kt2:=(H.out.fix (⟨pt,2,none⟩,.int .i64 t2) (by simp)).1
 have kt3:=(H.out.fix (⟨pt,3,none⟩,.int .i64 t3) (by simp)).1
 go_wp2_with (fail)
 clear kt0 kt1 kt2 kt3
 refine (rvwhole_law po 0 g1 t0 t1 t2 t3 _ H.out.own H.out.ownf).mono ?_
 rintro e Wg2 ⟨v0,v1,v2,v3,g2,rfl,Sg2,A⟩
 have H:Hid _:=H.out.after A.out
 clear A
 go_upto_region 4 with fail
 obtain ⟨pw,hpw⟩:∃ p,p = Wg2.heap.size:=⟨_,rfl⟩
 obtain ⟨Ypw,hYpw⟩:∃ X,X = Wg2.alloc (.cells #[.int .i64 v0,.int .i64 v1,.int .i64 v2,.int .i64 v3] 25):=⟨_,rfl⟩
 have zw:po < pw:=by rw [hpw];exact World.block_lt_of_cell? _ _ H.out.own
 have H2:Hid (Ho W Ypw ⟨b,off,none⟩ po f g2 ([(⟨pw,0,none⟩,.int .i64 v0),(⟨pw,1,none⟩,.int .i64 v1),(⟨pw,2,none⟩,.int .i64 v2),(⟨pw,3,none⟩,.int .i64 v3)] ++ ([(⟨pt,0,none⟩,.int .i64 t0),(⟨pt,1,none⟩,.int .i64 t1),(⟨pt,2,none⟩,.int .i64 t2),(⟨pt,3,none⟩,.int .i64 t3)] ++ [(⟨pa,0,none⟩,.int .i64 q0),(⟨pa,1,none⟩,.int .i64 q1),(⟨pa,2,none⟩,.int .i64 q2),(⟨pa,3,none⟩,.int .i64 q3),(⟨pb,0,none⟩,.int .i64 h0),(⟨pb,1,none⟩,.int .i64 h1),(⟨pb,2,none⟩,.int .i64 h2),(⟨pr,0,none⟩,.int .i64 0),(⟨pr,1,none⟩,.int .i64 0),(⟨pr,2,none⟩,.int .i64 0),(⟨pr,3,none⟩,.int .i64 0)]))):=by
  show Ho _ _ _ _ _ _ _
  rw [hYpw]
  refine H.out.lay _ _ _ (fun c hc=>?_)
  simp only [List.mem_cons,List.not_mem_nil,or_false] at hc
  rcases hc with rfl | rfl | rfl | rfl
  ·exact ⟨0,by rw [hpw],rfl⟩
  ·exact ⟨1,by rw [hpw],rfl⟩
  ·exact ⟨2,by rw [hpw],rfl⟩
  ·exact ⟨3,by rw [hpw],rfl⟩
 rw [<- hYpw,<- hpw]
 have H:Hid _:=H2.out
 clear hYpw hpw H2
 go_wp2_with (fail)
 refine (done_any b off po f g2 _ H.out.flag H.out.flagf H.out.own (by omega)).mono ?_
 rintro e V9 ⟨rfl,A⟩
 have rr0:=A.out.cellOf (H.out.fix (⟨pr,0,none⟩,.int .i64 0) (by simp)).1 (by show pr ≠ b;omega)
 have rf0:=A.out.frozenOf (H.out.fix (⟨pr,0,none⟩,.int .i64 0) (by simp)).1 (H.out.fix (⟨pr,0,none⟩,.int .i64 0) (by simp)).2 (by show pr ≠ b;omega)
 have rr1:=A.out.cellOf (H.out.fix (⟨pr,1,none⟩,.int .i64 0) (by simp)).1 (by show pr ≠ b;omega)
 have rf1:=A.out.frozenOf (H.out.fix (⟨pr,1,none⟩,.int .i64 0) (by simp)).1 (H.out.fix (⟨pr,1,none⟩,.int .i64 0) (by simp)).2 (by show pr ≠ b;omega)
 have rr2:=A.out.cellOf (H.out.fix (⟨pr,2,none⟩,.int .i64 0) (by simp)).1 (by show pr ≠ b;omega)
 have rf2:=A.out.frozenOf (H.out.fix (⟨pr,2,none⟩,.int .i64 0) (by simp)).1 (H.out.fix (⟨pr,2,none⟩,.int .i64 0) (by simp)).2 (by show pr ≠ b;omega)
 have rr3:=A.out.cellOf (H.out.fix (⟨pr,3,none⟩,.int .i64 0) (by simp)).1 (by show pr ≠ b;omega)
 have rf3:=A.out.frozenOf (H.out.fix (⟨pr,3,none⟩,.int .i64 0) (by simp)).1 (H.out.fix (⟨pr,3,none⟩,.int .i64 0) (by simp)).2 (by show pr ≠ b;omega)
 have kw0:=A.out.cellOf (H.out.fix (⟨pw,0,none⟩,.int .i64 v0) (by simp)).1 (by show pw ≠ b;omega)
 have kw1:=A.out.cellOf (H.out.fix (⟨pw,1,none⟩,.int .i64 v1) (by simp)).1 (by show pw ≠ b;omega)
 have kw2:=A.out.cellOf (H.out.fix (⟨pw,2,none⟩,.int .i64 v2) (by simp)).1 (by show pw ≠ b;omega)
 have kw3:=A.out.cellOf (H.out.fix (⟨pw,3,none⟩,.int .i64 v3) (by simp)).1 (by show pw ≠ b;omega)
 have n5:pw ≠ pr:=by omega
 have n6:pr ≠ pw:=by omega
 have HL:Hid (Leaves ⟨b,off,none⟩ W V9):=H.out.leaves.same A.out
 have hp:=A.out.cell
 have hpf:=A.out.frozen
 have n1:b ≠ pr:=by omega
 have n2:pr ≠ b:=by omega
 have hWr:W.heap.size <= pr:=by omega
 have HS:Hid _:=spin_chain (f:=f) Sg1.out Sg2.out
 clear A H Sg1 Sg2
 cases g2 with
 | true =>
  go_wp2_with (fail)
  refine bodyPost_ret (by simp [results,Tryz.results73,go_sem,rr0,rr1,rr2,rr3];try rfl) rfl ?_
  refine ⟨0,0,0,0,_,rfl,HS.out,((((HL.out.set hWr _).set hWr _).set hWr _).set hWr _).done ?_ ?_⟩
  ·simp [go_sem,hp]
  ·simp [go_sem,hpf]
 | false =>
  go_wp2_with (fail)
  refine bodyPost_ret (by simp [results,Tryz.results73,go_sem,rr0,rr1,rr2,rr3];try rfl) rfl ?_
  refine ⟨_,_,_,_,_,rfl,HS.out,((((HL.out.set hWr _).set hWr _).set hWr _).set hWr _).done ?_ ?_⟩
  ·simp [go_sem,hp]
  ·simp [go_sem,hpf]
end
section
open Go.RowKit Ref Fx
theorem vspin_chain {f g1 g2:Bool} {q0 q1 q2 q3 h0 h1 h2 t0 t1 t2 t3 v0 v1 v2 v3:Int} (a:t0 = cond (timesBad 4294967296 h0 h1 h2 q0 q1 q2 q3) 0 (timesAt0 4294967296 h0 h1 h2 q0 q1 q2 q3)/\t1 = cond (timesBad 4294967296 h0 h1 h2 q0 q1 q2 q3) 0 (timesAt1 4294967296 h0 h1 h2 q0 q1 q2 q3)/\t2 = cond (timesBad 4294967296 h0 h1 h2 q0 q1 q2 q3) 0 (timesAt2 4294967296 h0 h1 h2 q0 q1 q2 q3)/\t3 = cond (timesBad 4294967296 h0 h1 h2 q0 q1 q2 q3) 0 (timesAt3 4294967296 h0 h1 h2 q0 q1 q2 q3)/\g1 = (f || timesBad 4294967296 h0 h1 h2 q0 q1 q2 q3))
  (c:v0 = cond (wholeBad t0 t1 t2 t3) 0 ((ratio t0 4294967296 ((norm [t0,t1,t2,t3]).getD 0)).getD 0)/\v1 = cond (wholeBad t0 t1 t2 t3) 0 ((ratio t1 4294967296 ((norm [t0,t1,t2,t3]).getD 0)).getD 0)/\v2 = cond (wholeBad t0 t1 t2 t3) 0 ((ratio t2 4294967296 ((norm [t0,t1,t2,t3]).getD 0)).getD 0)/\v3 = cond (wholeBad t0 t1 t2 t3) 0 ((ratio t3 4294967296 ((norm [t0,t1,t2,t3]).getD 0)).getD 0)/\g2 = (g1 || wholeBad t0 t1 t2 t3)) :
  v0 = spinAt0 q0 q1 q2 q3 h0 h1 h2/\v1 = spinAt1 q0 q1 q2 q3 h0 h1 h2/\v2 = spinAt2 q0 q1 q2 q3 h0 h1 h2/\v3 = spinAt3 q0 q1 q2 q3 h0 h1 h2/\g2 = (f || spinBad q0 q1 q2 q3 h0 h1 h2):=by
 obtain ⟨rfl,rfl,rfl,rfl,rfl⟩:=a
 obtain ⟨rfl,rfl,rfl,rfl,rfl⟩:=c
 refine ⟨rfl,rfl,rfl,rfl,?_⟩
 cases hb:timesBad 4294967296 h0 h1 h2 q0 q1 q2 q3 with
 | true=>rw [spin_bad hb];simp
 | false=>unfold spinBad;rw [hb];simp
theorem vspin_law (b off:Nat) (f:Bool) (q0 q1 q2 q3 h0 h1 h2:Int) (W:World) (hc:W.cell? ⟨b,off,none⟩ = some (.bool f)) (hf:W.frozen? ⟨b,off,none⟩ = false) :
  Calls Tryz.prog 72 #[.pointer (some ⟨b,off,none⟩),.agg #[.int .i64 q0,.int .i64 q1,.int .i64 q2,.int .i64 q3],.agg #[.int .i64 h0,.int .i64 h1,.int .i64 h2]] W fun e W'=>∃ v0 v1 v2 v3 g,e = .returned (.agg #[.int .i64 v0,.int .i64 v1,.int .i64 v2,.int .i64 v3])/\Hid (v0 = spinAt0 q0 q1 q2 q3 h0 h1 h2/\v1 = spinAt1 q0 q1 q2 q3 h0 h1 h2/\v2 = spinAt2 q0 q1 q2 q3 h0 h1 h2/\v3 = spinAt3 q0 q1 q2 q3 h0 h1 h2/\g = (f || spinBad q0 q1 q2 q3 h0 h1 h2))/\Hid (After ⟨b,off,none⟩ g W W'):=by
 have hbW:b < W.heap.size:=World.block_lt_of_cell? _ _ hc
 obtain ⟨U,hU⟩:∃ U,U = (((W.alloc (.cells #[.int .i64 q0,.int .i64 q1,.int .i64 q2,.int .i64 q3] 25)).alloc (.cells #[.int .i64 h0,.int .i64 h1,.int .i64 h2] 23)).alloc (.cells #[.int .i64 0,.int .i64 0,.int .i64 0,.int .i64 0] 25)):=⟨_,rfl⟩
 obtain ⟨pr,hpr⟩:∃ p,p = W.heap.size + 1 + 1:=⟨_,rfl⟩
 have HL:Hid (Leaves ⟨b,off,none⟩ W U):=by show Leaves _ _ _;rw [hU];exact (((Leaves.refl _ _).alloc _).alloc _).alloc _
 have hp:U.cell? ⟨b,off,none⟩ = some (.bool f):=by rw [hU,World.cell?_alloc_past _ _ _ (by simp;omega),World.cell?_alloc_past _ _ _ (by simp;omega),World.cell?_alloc_past _ _ _ hbW];exact hc
 have hpf:U.frozen? ⟨b,off,none⟩ = false:=by rw [hU,((new_after _ _).frozen (by simp;omega)),((new_after _ _).frozen (by simp;omega)),((new_after _ _).frozen hbW)];exact hf
 have rr0:U.cell? ⟨pr,0,none⟩ = some (.int .i64 0):=by rw [hU,hpr];simp [go_sem]
 have rf0:U.frozen? ⟨pr,0,none⟩ = false:=by rw [hU,hpr];simp [go_sem]
 have rr1:U.cell? ⟨pr,1,none⟩ = some (.int .i64 0):=by rw [hU,hpr];simp [go_sem]
 have rf1:U.frozen? ⟨pr,1,none⟩ = false:=by rw [hU,hpr];simp [go_sem]
 have rr2:U.cell? ⟨pr,2,none⟩ = some (.int .i64 0):=by rw [hU,hpr];simp [go_sem]
 have rf2:U.frozen? ⟨pr,2,none⟩ = false:=by rw [hU,hpr];simp [go_sem]
 have rr3:U.cell? ⟨pr,3,none⟩ = some (.int .i64 0):=by rw [hU,hpr];simp [go_sem]
 have rf3:U.frozen? ⟨pr,3,none⟩ = false:=by rw [hU,hpr];simp [go_sem]
 have ka0:U.cell? ⟨W.heap.size,0,none⟩ = some (.int .i64 q0):=by rw [hU];simp [go_sem]
 have ka1:U.cell? ⟨W.heap.size,1,none⟩ = some (.int .i64 q1):=by rw [hU];simp [go_sem]
 have ka2:U.cell? ⟨W.heap.size,2,none⟩ = some (.int .i64 q2):=by rw [hU];simp [go_sem]
 have ka3:U.cell? ⟨W.heap.size,3,none⟩ = some (.int .i64 q3):=by rw [hU];simp [go_sem]
 have kb0:U.cell? ⟨W.heap.size + 1,0,none⟩ = some (.int .i64 h0):=by rw [hU];simp [go_sem]
 have kb1:U.cell? ⟨W.heap.size + 1,1,none⟩ = some (.int .i64 h1):=by rw [hU];simp [go_sem]
 have kb2:U.cell? ⟨W.heap.size + 1,2,none⟩ = some (.int .i64 h2):=by rw [hU];simp [go_sem]
 go_enter Tryz.func72,Tryz.ntmps72
 go_upto_region 1 with fail
 rw [<- hU]
 rw [<- hpr]
 obtain ⟨pa,hpa⟩:∃ p,p = W.heap.size:=⟨_,rfl⟩
 obtain ⟨pb,hpb⟩:∃ p,p = W.heap.size + 1:=⟨_,rfl⟩
 rw [<- hpb] at kb0 kb1 kb2
 rw [<- hpa] at ka0 ka1 ka2 ka3
 rw [<- hpb,<- hpa]
 have n1:b ≠ pr:=by omega
 have n2:pr ≠ b:=by omega
 have hWr:W.heap.size <= pr:=by omega
 clear hU hc hf hpa hpb hpr
 go_wp2_with (fail)
 refine (vtimes_law b off f 4294967296 h0 h1 h2 q0 q1 q2 q3 _ hp hpf).mono ?_
 rintro e W1 ⟨t0,t1,t2,t3,g1,rfl,S1,A⟩
 have rf0:=A.out.frozenOf rr0 rf0 (by show pr ≠ b;omega)
 have rr0:=A.out.cellOf rr0 (by show pr ≠ b;omega)
 have rf1:=A.out.frozenOf rr1 rf1 (by show pr ≠ b;omega)
 have rr1:=A.out.cellOf rr1 (by show pr ≠ b;omega)
 have rf2:=A.out.frozenOf rr2 rf2 (by show pr ≠ b;omega)
 have rr2:=A.out.cellOf rr2 (by show pr ≠ b;omega)
 have rf3:=A.out.frozenOf rr3 rf3 (by show pr ≠ b;omega)
 have rr3:=A.out.cellOf rr3 (by show pr ≠ b;omega)
 have HL:Hid _:=HL.out.same A.out
 have hp:=A.out.cell
 have hpf:=A.out.frozen
 clear A
 go_wp2_with (fail)
 refine (vwhole_law b off g1 t0 t1 t2 t3 _ hp hpf).mono ?_
 rintro e W2 ⟨v0,v1,v2,v3,g2,rfl,S2,A⟩
 have rf0:=A.out.frozenOf rr0 rf0 (by show pr ≠ b;omega)
 have rr0:=A.out.cellOf rr0 (by show pr ≠ b;omega)
 have rf1:=A.out.frozenOf rr1 rf1 (by show pr ≠ b;omega)
 have rr1:=A.out.cellOf rr1 (by show pr ≠ b;omega)
 have rf2:=A.out.frozenOf rr2 rf2 (by show pr ≠ b;omega)
 have rr2:=A.out.cellOf rr2 (by show pr ≠ b;omega)
 have rf3:=A.out.frozenOf rr3 rf3 (by show pr ≠ b;omega)
 have rr3:=A.out.cellOf rr3 (by show pr ≠ b;omega)
 have HL:Hid _:=HL.out.same A.out
 have hp:=A.out.cell
 have hpf:=A.out.frozen
 clear A
 have HS:Hid _:=vspin_chain S1.out S2.out
 clear S1 S2
 go_wp2_with (fail)
 refine bodyPost_ret (by simp [results,Tryz.results72,go_sem,rr0,rr1,rr2,rr3];try rfl) rfl ?_
 refine ⟨v0,v1,v2,v3,g2,rfl,HS.out,((((HL.out.set hWr _).set hWr _).set hWr _).set hWr _).done ?_ ?_⟩
 ·simp [go_sem,hp]
 ·simp [go_sem,hpf]
end
section
open Go.RowKit Fx
def scale_bad (b off:Nat) (f:Bool) (pa pr po:Nat) (x0 x1 x2 n:Int) (W U:World):Bool:=false || ([(4,false),(5,((mul (x0) (n)).isNone || (mul (x1) (n)).isNone || (mul (x2) (n)).isNone))]:List (Nat × Bool)).any (·.2)
def scale_sh (b off:Nat) (f:Bool) (pa pr po:Nat) (x0 x1 x2 n:Int) (W U:World):Nat->Shape
 | 0=>.is (.pointer (some ⟨b,off,none⟩))
 | 1=>.is (.func (.func 69) #[.pointer (some ⟨po,0,none⟩)] #[])
 | 2=>.is (.agg #[.int .i64 x0,.int .i64 x1,.int .i64 x2])
 | 3=>.is (.int .i64 n)
 | 4=>.is (.agg #[.int .i64 n,.int .i64 n,.int .i64 n])
 | 5=>.is (.agg #[.int .i64 ((mul (x0) (n)).getD 0),.int .i64 ((mul (x1) (n)).getD 0),.int .i64 ((mul (x2) (n)).getD 0)])
 | 6=>.is (.agg #[.int .i64 (cond (scale_bad b off f pa pr po x0 x1 x2 n W U) 0 ((mul (x0) (n)).getD 0)),.int .i64 (cond (scale_bad b off f pa pr po x0 x1 x2 n W U) 0 ((mul (x1) (n)).getD 0)),.int .i64 (cond (scale_bad b off f pa pr po x0 x1 x2 n W U) 0 ((mul (x2) (n)).getD 0))])
 | 7=>.ptr
 | _=>.ptr
def scale_plan (b off:Nat) (f:Bool) (pa pr po:Nat) (x0 x1 x2 n:Int) (W U:World):Plan where
 W:=W
 N:=U.heap.size
 p:=⟨b,off,none⟩
 fl:=⟨po,0,none⟩
 g0:=false
 bad:=scale_bad b off f pa pr po x0 x1 x2 n W U
 f:=f
 calls:=[(4,false),(5,((mul (x0) (n)).isNone || (mul (x1) (n)).isNone || (mul (x2) (n)).isNone))]
 tl:=6
 st:=7
 r:=pr
 res:=[.int .i64 (cond (scale_bad b off f pa pr po x0 x1 x2 n W U) 0 ((mul (x0) (n)).getD 0)),.int .i64 (cond (scale_bad b off f pa pr po x0 x1 x2 n W U) 0 ((mul (x1) (n)).getD 0)),.int .i64 (cond (scale_bad b off f pa pr po x0 x1 x2 n W U) 0 ((mul (x2) (n)).getD 0))]
 fixed:=[(⟨pa,0,none⟩,.int .i64 x0),
  (⟨pa,1,none⟩,.int .i64 x1),
  (⟨pa,2,none⟩,.int .i64 x2)]
 made:=[]
theorem scale_cn (b off:Nat) (f:Bool) (pa pr po:Nat) (x0 x1 x2 n:Int) (W U:World):((scale_plan b off f pa pr po x0 x1 x2 n W U).calls.map (·.1)).Nodup:=of_decide_eq_true rfl
theorem scale_bads (b off:Nat) (f:Bool) (pa pr po:Nat) (x0 x1 x2 n:Int) (W U:World):((scale_plan b off f pa pr po x0 x1 x2 n W U).bad = true->(scale_plan b off f pa pr po x0 x1 x2 n W U).g0 = true \/ ∃ c ∈ (scale_plan b off f pa pr po x0 x1 x2 n W U).calls,c.2 = true)/\∀ c ∈ (scale_plan b off f pa pr po x0 x1 x2 n W U).calls,c.2 = true->(scale_plan b off f pa pr po x0 x1 x2 n W U).bad = true:=
 bad_any_of _ rfl
theorem vscale_law (b off:Nat) (f:Bool) (x0 x1 x2 n:Int) (W:World) (hc:W.cell? ⟨b,off,none⟩ = some (.bool f)) (hf:W.frozen? ⟨b,off,none⟩ = false) :
  Calls Tryz.prog 68 #[.pointer (some ⟨b,off,none⟩),.agg #[.int .i64 x0,.int .i64 x1,.int .i64 x2],.int .i64 n] W fun e W'=>∃ v0 v1 v2 g,e = .returned (.agg #[.int .i64 v0,.int .i64 v1,.int .i64 v2])/\Hid (Step3 f (mul x0 n) (mul x1 n) (mul x2 n) v0 v1 v2 g)/\Hid (After ⟨b,off,none⟩ g W W'):=by
 have hbW:b < W.heap.size:=World.block_lt_of_cell? _ _ hc
 go_enter Tryz.func68,Tryz.ntmps68
 go_wp2_with (fail)
 obtain ⟨U,hU⟩:∃ U,U = (((W.alloc (.cells #[.int .i64 x0,.int .i64 x1,.int .i64 x2] 23)).alloc (.cells #[.int .i64 0,.int .i64 0,.int .i64 0] 23)).alloc (.cells #[.bool false] 42)):=⟨_,rfl⟩
 have hUs:U.heap.size = W.heap.size + 3:=by rw [hU];simp
 have HL:Hid (Leaves ⟨b,off,none⟩ W U):=by show Leaves _ _ _;rw [hU];exact ((((Leaves.refl _ _).alloc _).alloc _).alloc _)
 have hp:U.cell? ⟨b,off,none⟩ = some (.bool f):=(by rw [hU,World.cell?_alloc_past _ _ _ (by simp;omega),World.cell?_alloc_past _ _ _ (by simp;omega),World.cell?_alloc_past _ _ _ hbW];exact hc)
 have hpf:U.frozen? ⟨b,off,none⟩ = false:=by rw [hU,((new_after _ _).frozen (by simp;omega)),((new_after _ _).frozen (by simp;omega)),((new_after _ _).frozen hbW)];exact hf
 have ho:U.cell? ⟨W.heap.size + 1 + 1,0,none⟩ = some (.bool false):=by rw [hU];simp [go_sem]
 have hof:U.frozen? ⟨W.heap.size + 1 + 1,0,none⟩ = false:=by rw [hU];simp [go_sem]
 have k0_0:U.cell? ⟨W.heap.size,0,none⟩ = some (.int .i64 x0):=by rw [hU];simp [go_sem]
 have k0_1:U.cell? ⟨W.heap.size,1,none⟩ = some (.int .i64 x1):=by rw [hU];simp [go_sem]
 have k0_2:U.cell? ⟨W.heap.size,2,none⟩ = some (.int .i64 x2):=by rw [hU];simp [go_sem]
 have rr0:U.cell? ⟨W.heap.size + 1,0,none⟩ = some (.int .i64 0):=by rw [hU];simp [go_sem]
 have rf0:U.frozen? ⟨W.heap.size + 1,0,none⟩ = false:=by rw [hU];simp [go_sem]
 have rr1:U.cell? ⟨W.heap.size + 1,1,none⟩ = some (.int .i64 0):=by rw [hU];simp [go_sem]
 have rf1:U.frozen? ⟨W.heap.size + 1,1,none⟩ = false:=by rw [hU];simp [go_sem]
 have rr2:U.cell? ⟨W.heap.size + 1,2,none⟩ = some (.int .i64 0):=by rw [hU];simp [go_sem]
 have rf2:U.frozen? ⟨W.heap.size + 1,2,none⟩ = false:=by rw [hU];simp [go_sem]
 rw [<- hU]
 clear hU hc hf
 obtain ⟨pa,hpa⟩:∃ p,p = W.heap.size:=⟨_,rfl⟩
 obtain ⟨pr,hpr⟩:∃ p,p = W.heap.size + 1:=⟨_,rfl⟩
 obtain ⟨po,hpo⟩:∃ p,p = W.heap.size + 1 + 1:=⟨_,rfl⟩
 rw [<- hpo] at ho hof
 rw [<- hpo]
 rw [<- hpr] at rr0 rf0 rr1 rf1 rr2 rf2
 rw [<- hpr]
 rw [<- hpa] at k0_0 k0_1 k0_2
 rw [<- hpa]
 have q0:W.heap.size <= pa:=by omega
 have q1:pa < pr:=by omega
 have q2:pr < po:=by omega
 have q9:po < U.heap.size:=by omega
 clear hpa hpr hpo hUs
 have hπ:(scale_plan b off f pa pr po x0 x1 x2 n W U).Good:=by
  refine good_of ?_ ?_ ?_ ?_ ?_ ?_ ?_ (scale_bads b off f pa pr po x0 x1 x2 n W U).1 (scale_bads b off f pa pr po x0 x1 x2 n W U).2
  ·show W.heap.size <= pr;omega
  ·show pr < U.heap.size;omega
  ·exact Or.inr (by show W.heap.size <= po;omega)
  ·show po < U.heap.size;omega
  ·show po ≠ pr;omega
  ·show b < W.heap.size;omega
  ·intro c hc
   simp only [scale_plan,List.mem_cons,List.not_mem_nil,or_false] at hc
   rcases hc with rfl | rfl | rfl <;> (show _ < U.heap.size/\_ ≠ po/\_ ≠ b/\_ ≠ pr) <;> (dsimp only) <;> omega
 refine region_by (shapeVal (scale_sh b off f pa pr po x0 x1 x2 n W U)) (Glob (scale_plan b off f pa pr po x0 x1 x2 n W U)) (by kernel_rfl) (by kernel_rfl) (by kernel_rfl) (by kernel_rfl) (fun _=>0) ?_ ?_ ?_
 ·refine ⟨?_,?_,?_,?_,?_,?_,(fun _ _ h=>by cases h),(fun _ _ _ _ h=>by cases h)⟩
  ·exact HL.out.drew
  ·exact Nat.le_refl _
  ·exact ⟨false,ho,hof,fun h=>by show scale_bad b off f pa pr po x0 x1 x2 n W U = true;simp [scale_bad,h],fun h=>h,fun _ _ h=>by cases h⟩
  ·refine Or.inr ⟨?_,hpf⟩
   show U.cell? ⟨b,off,none⟩ = some (.bool (f || (false && scale_bad b off f pa pr po x0 x1 x2 n W U)))
   rw [Bool.false_and,Bool.or_false];exact hp
  ·refine ⟨[.int .i64 0,.int .i64 0,.int .i64 0],rfl,?_,fun h=>by cases h⟩
   intro k v hk
   match k,hk with
   | 0,hk=>simp at hk;subst hk;exact ⟨rr0,rf0⟩
   | 1,hk=>simp at hk;subst hk;exact ⟨rr1,rf1⟩
   | 2,hk=>simp at hk;subst hk;exact ⟨rr2,rf2⟩
  ·intro c hc
   simp only [scale_plan,List.mem_cons,List.not_mem_nil,or_false] at hc
   rcases hc with rfl | rfl | rfl <;> assumption
 ·generalize hD:dstOf _ = D
  generalize hA:waitsFor _ = A
  generalize hZ:Act.mk _ _ = Z
  have d0:D 0 = some 8:=by rw [<- hD];rfl
  have d1:D 1 = some 9:=by rw [<- hD];rfl
  have d2:D 2 = some 10:=by rw [<- hD];rfl
  have d3:D 3 = some 11:=by rw [<- hD];rfl
  have d4:D 4 = some 12:=by rw [<- hD];rfl
  have d5:D 5 = some 13:=by rw [<- hD];rfl
  have d6:D 6 = some 14:=by rw [<- hD];rfl
  have R0:∀ (γ:Nat->Nat) (L:Nat->Bool) (a:Act) (w:World),Held D A (shapeVal (scale_sh b off f pa pr po x0 x1 x2 n W U)) (Glob (scale_plan b off f pa pr po x0 x1 x2 n W U)) Z γ L a w->a.tmps[0]? = some (.pointer (some ⟨b,off,none⟩)):=fun γ L a w hH=>(hH.rest 0 (by rw [<- hD];exact dst_free (by kernel_rfl))).trans (by rw [<- hZ];rfl)
  have R4:∀ (γ:Nat->Nat) (L:Nat->Bool) (a:Act) (w:World),Held D A (shapeVal (scale_sh b off f pa pr po x0 x1 x2 n W U)) (Glob (scale_plan b off f pa pr po x0 x1 x2 n W U)) Z γ L a w->a.tmps[4]? = some (.pointer (some ⟨pa,0,none⟩)):=fun γ L a w hH=>(hH.rest 4 (by rw [<- hD];exact dst_free (by kernel_rfl))).trans (by rw [<- hZ];rfl)
  have R6:∀ (γ:Nat->Nat) (L:Nat->Bool) (a:Act) (w:World),Held D A (shapeVal (scale_sh b off f pa pr po x0 x1 x2 n W U)) (Glob (scale_plan b off f pa pr po x0 x1 x2 n W U)) Z γ L a w->a.tmps[6]? = some (.pointer (some ⟨pr,0,none⟩)):=fun γ L a w hH=>(hH.rest 6 (by rw [<- hD];exact dst_free (by kernel_rfl))).trans (by rw [<- hZ];rfl)
  have R7:∀ (γ:Nat->Nat) (L:Nat->Bool) (a:Act) (w:World),Held D A (shapeVal (scale_sh b off f pa pr po x0 x1 x2 n W U)) (Glob (scale_plan b off f pa pr po x0 x1 x2 n W U)) Z γ L a w->a.tmps[7]? = some (.pointer (some ⟨po,0,none⟩)):=fun γ L a w hH=>(hH.rest 7 (by rw [<- hD];exact dst_free (by kernel_rfl))).trans (by rw [<- hZ];rfl)
  have R2:∀ (γ:Nat->Nat) (L:Nat->Bool) (a:Act) (w:World),Held D A (shapeVal (scale_sh b off f pa pr po x0 x1 x2 n W U)) (Glob (scale_plan b off f pa pr po x0 x1 x2 n W U)) Z γ L a w->a.tmps[2]? = some (.int .i64 n):=fun γ L a w hH=>(hH.rest 2 (by rw [<- hD];exact dst_free (by kernel_rfl))).trans (by rw [<- hZ];rfl)
  have A_5_4:A 5 4:=by rw [<- hA];exact ⟨_,rfl,⟨4,.data⟩,by simp,rfl,rfl⟩
  clear hD hA hZ
  refine AllDo.cons 0 rfl (does_pure _ rfl rfl (fun γ L a w hH hA=>by have e1:=R0 γ L a w hH;simp [execOp,go_sem,e1])) ?_
  refine AllDo.cons 1 rfl (does_pure _ rfl rfl (fun γ L a w hH hA=>by have e1:=R7 γ L a w hH;simp [execOp,go_sem,e1])) ?_
  refine AllDo.cons 2 rfl (does_pure _ rfl rfl (fun γ L a w hH hA=>by have e1:=R4 γ L a w hH;have e2:=hH.glob.fix (⟨pa,0,none⟩,.int .i64 x0) (by simp [scale_plan]);have e3:=hH.glob.fix (⟨pa,1,none⟩,.int .i64 x1) (by simp [scale_plan]);have e4:=hH.glob.fix (⟨pa,2,none⟩,.int .i64 x2) (by simp [scale_plan]);simp [execOp,go_sem,e1,e2,e3,e4])) ?_
  refine AllDo.cons 3 rfl (does_pure _ rfl rfl (fun γ L a w hH hA=>by have e1:=R2 γ L a w hH;simp [execOp,go_sem,e1])) ?_
  refine AllDo.cons 4 rfl (does_call hπ _ (false) rfl (by simp [scale_plan]) (calls_only (scale_cn b off f pa pr po x0 x1 x2 n W U) (by simp [scale_plan])) rfl (fun γ L a w hH hA g hg hz=>by have e1:=hH.at d3 rfl (hA ⟨3,.data⟩ (by simp) rfl);exact ⟨116,#[.int .i64 n],by simp [go_sem,e1],(thrice_any (n) w).mono (by rintro e W1 ⟨rfl,Z⟩;exact ⟨rfl,g || false,rfl,after_keep Z.out hg hz⟩)⟩)) ?_
  refine AllDo.cons 5 rfl (does_call hπ _ (((mul (x0) (n)).isNone || (mul (x1) (n)).isNone || (mul (x2) (n)).isNone)) rfl (by simp [scale_plan]) (calls_only (scale_cn b off f pa pr po x0 x1 x2 n W U) (by simp [scale_plan])) rfl (fun γ L a w hH hA g hg hz=>by have e1:=hH.at d1 rfl (hA ⟨1,.data⟩ (by simp) rfl);have e2:=hH.at d2 rfl (hA ⟨2,.data⟩ (by simp) rfl);have e3:=hH.at d4 rfl (hA ⟨4,.data⟩ (by simp) rfl);exact ⟨115,#[.func (.func 69) #[.pointer (some ⟨po,0,none⟩)] #[],.agg #[.int .i64 x0,.int .i64 x1,.int .i64 x2],.agg #[.int .i64 n,.int .i64 n,.int .i64 n]],by simp [go_sem,e1,e2,e3],(each_mul_any po g (x0) (x1) (x2) (n) (n) (n) w hg hz).mono (by rintro e W1 ⟨g1,rfl,S,Z⟩;exact ⟨rfl,g1,S.out,Z.out⟩)⟩)) ?_
  refine AllDo.cons 6 rfl (does_tell hπ _ rfl (fun e=>by have e2:po = b:=congrArg Addr.block e;omega) (by simp [scale_plan]) (by simp [scale_plan]) (by simp [scale_plan]) rfl (fun L hcl haft c hc=>by have L5:L 5 = true:=haft ⟨5,.data⟩ (by simp) rfl;have L4:L 4 = true:=hcl 5 4 A_5_4 L5;simp only [scale_plan,List.mem_cons,List.not_mem_nil,or_false] at hc;rcases hc with rfl | rfl;all_goals assumption) (fun γ L a w hH hA hb hp hpf=>by have e1:=hH.at d0 rfl (hA ⟨0,.data⟩ (by simp) rfl);have e2:=R7 γ L a w hH;have e3:=hH.at d5 rfl (hA ⟨5,.data⟩ (by simp) rfl);exact ⟨109,#[.pointer (some ⟨b,off,none⟩),.pointer (some ⟨po,0,none⟩),.agg #[.int .i64 ((mul (x0) (n)).getD 0),.int .i64 ((mul (x1) (n)).getD 0),.int .i64 ((mul (x2) (n)).getD 0)]],by simp [go_sem,e1,e2,e3],(tell3_any b off po f (scale_bad b off f pa pr po x0 x1 x2 n W U) ((mul (x0) (n)).getD 0) ((mul (x1) (n)).getD 0) ((mul (x2) (n)).getD 0) w hp hpf hb).mono (by rintro e W1 ⟨rfl,Z⟩;exact ⟨rfl,Z.out⟩)⟩)) ?_
  refine AllDo.cons 7 rfl (does_store hπ (by simp [scale_plan]) rfl rfl (by simp [scale_plan]) (by simp [scale_plan]) (by simp [scale_plan]) (fun γ L a w hH hA cs hl hh=>by have e1:=R6 γ L a w hH;have e2:=hH.at d6 rfl (hA ⟨6,.data⟩ (by simp) rfl);obtain ⟨u0,u1,u2,rfl⟩:=list3 hl;have zz0:w.cell? ⟨pr,0,none⟩ = some u0/\w.frozen? ⟨pr,0,none⟩ = false:=hh 0 u0 rfl;have zz1:w.cell? ⟨pr,1,none⟩ = some u1/\w.frozen? ⟨pr,1,none⟩ = false:=hh 1 u1 rfl;have zz2:w.cell? ⟨pr,2,none⟩ = some u2/\w.frozen? ⟨pr,2,none⟩ = false:=hh 2 u2 rfl;exact ⟨(((w.setCell ⟨pr,0,none⟩ (.int .i64 (cond (scale_bad b off f pa pr po x0 x1 x2 n W U) 0 ((mul (x0) (n)).getD 0)))).setCell ⟨pr,1,none⟩ (.int .i64 (cond (scale_bad b off f pa pr po x0 x1 x2 n W U) 0 ((mul (x1) (n)).getD 0)))).setCell ⟨pr,2,none⟩ (.int .i64 (cond (scale_bad b off f pa pr po x0 x1 x2 n W U) 0 ((mul (x2) (n)).getD 0)))),by simp [execOp,go_sem,e1,e2,zz0.1,zz0.2,zz1.1,zz1.2,zz2.1,zz2.2],((((Only.refl _ _).set 0 _).set 1 _).set 2 _),holds3 hh⟩)) ?_
  exact AllDo.nil
 ·intro γ a w L hL hLo hH
  have hL':∀ j,j < 8->L j = true:=fun j hj=>hL j hj
  have hG:=hH.glob
  have hdf:a.defers = []:=hH.defers.trans rfl
  have hs:a.tmps[6]? = some (.pointer (some ⟨pr,0,none⟩)):=(hH.rest 6 (dst_free (by kernel_rfl))).trans rfl
  obtain ⟨cs,c1,c2,c3⟩:=hG.res
  obtain rfl:=c3 (hL' 7 (by omega))
  have ho2:=hG.outer.resolve_left (fun e=>by have e2:po = b:=congrArg Addr.block e;omega)
  have hA:Hid (After ⟨b,off,none⟩ (f || scale_bad b off f pa pr po x0 x1 x2 n W U) W w):=by
   have e:=ho2.1
   rw [show (scale_plan b off f pa pr po x0 x1 x2 n W U).tl = 6 from rfl,hL' 6 (by omega),Bool.true_and] at e
   exact hG.leaves.done e ho2.2
  have r0:w.cell? ⟨pr,0,none⟩ = some (.int .i64 (cond (scale_bad b off f pa pr po x0 x1 x2 n W U) 0 ((mul (x0) (n)).getD 0))):=(c2 0 _ rfl).1
  have r1:w.cell? ⟨pr,1,none⟩ = some (.int .i64 (cond (scale_bad b off f pa pr po x0 x1 x2 n W U) 0 ((mul (x1) (n)).getD 0))):=(c2 1 _ rfl).1
  have r2:w.cell? ⟨pr,2,none⟩ = some (.int .i64 (cond (scale_bad b off f pa pr po x0 x1 x2 n W U) 0 ((mul (x2) (n)).getD 0))):=(c2 2 _ rfl).1
  clear hL hLo hL' hH hG c1 c2 c3 ho2 hπ
  go_wp2
  refine bodyPost_ret (by simp [results,Tryz.results68,go_sem,hs,r0,r1,r2];try rfl) hdf ?_
  exact ⟨_,_,_,_,rfl,turn_step (by simp [scale_bad,Bool.or_assoc]),hA⟩
end
end Go.Proofs.YtpjaacpcdomfiaaGreat
