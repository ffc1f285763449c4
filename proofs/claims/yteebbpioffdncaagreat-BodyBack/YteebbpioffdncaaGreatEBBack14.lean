/- The reference's turning back, and its turning on. -/
import Derived.Test.YteebbpioffdncaaGreatEBBack12
import Derived.Deep.CutBlock
import Derived.Test.YteebbpioffdncaaGreatEBBack13
import Derived.Test.YteebbpioffdncaaGreatEBBack6
import Derived.Test.YteebbpioffdncaaGreatEBBack4
import Derived.Test.YteebbpioffdncaaGreatEBBack8
import Derived.Test.YteebbpioffdncaaGreatEBBack7
import Derived.Test.YteebbpioffdncaaGreatEBBack0
set_option maxHeartbeats 4000000
set_option maxRecDepth 100000
set_option linter.unusedVariables false
namespace Go.Proofs.YteebbpioffdncaaGreat
open Go.Calls renaming mono -> JA
open Go.World renaming block_lt_of_cell? -> JB
open Go.Region renaming binds -> JC
open Go renaming execOp -> JD
open Tryz
open Go.Value renaming int -> J
open Go.IntKind renaming i64 -> Y
section
open Go.RowKit Ref Fx
theorem Jnb (b off:Nat) (f:Bool) (m0 m1 m2 m3 m4 m5 m6 m7 m8 x0 x1 x2:Int) (W:World) (hc:W.cell? ⟨b,off,none⟩ = some (.bool f)) (hf:W.frozen? ⟨b,off,none⟩ = false) :
  Calls Tryz.prog 98 #[.pointer (some ⟨b,off,none⟩),.agg #[J Y m0,J Y m1,J Y m2,J Y m3,J Y m4,J Y m5,J Y m6,J Y m7,J Y m8],.agg #[J Y x0,J Y x1,J Y x2]] W fun e W'=>∃ v0 v1 v2 g,e = .returned (.agg #[J Y v0,J Y v1,J Y v2])/\Hid (Jc3 f (dot [m0,m3,m6] [x0,x1,x2]) (dot [m1,m4,m7] [x0,x1,x2]) (dot [m2,m5,m8] [x0,x1,x2]) v0 v1 v2 g)/\Hid (After ⟨b,off,none⟩ g W W'):=by
 have hbW:b < W.heap.size:=JB _ _ hc
 have HC:Hid _:=hc
 have HF:Hid _:=hf
 clear hc hf
 go_enter func98,ntmps98
 go_wp2_with (fail)
 obtain ⟨U,hU⟩:∃ U,U = ((((W.alloc (.cells #[J Y m0,J Y m1,J Y m2,J Y m3,J Y m4,J Y m5,J Y m6,J Y m7,J Y m8] 123)).alloc (.cells #[J Y x0,J Y x1,J Y x2] 27)).alloc (.cells #[J Y 0,J Y 0,J Y 0] 27)).alloc (.cells #[J Y m0,J Y m3,J Y m6,J Y m1,J Y m4,J Y m7,J Y m2,J Y m5,J Y m8] 123)):=⟨_,rfl⟩
 have HL:Hid (Leaves ⟨b,off,none⟩ W U):=by show Leaves _ _ _;rw [hU];exact (((((Leaves.refl _ _).alloc _).alloc _).alloc _).alloc _)
 have hp:U.cell? ⟨b,off,none⟩ = some (.bool f):=by
  rw [hU]
  rw [World.cell?_alloc_past _ _ _ (by simp;omega),World.cell?_alloc_past _ _ _ (by simp;omega),World.cell?_alloc_past _ _ _ (by simp;omega),World.cell?_alloc_past _ _ _ hbW];exact HC.out
 have hpf:U.frozen? ⟨b,off,none⟩ = false:=by
  rw [hU]
  rw [((Jg _ _).frozen (by simp;omega)),((Jg _ _).frozen (by simp;omega)),((Jg _ _).frozen (by simp;omega)),((Jg _ _).frozen hbW)];exact HF.out
 obtain ⟨pr,hpr⟩:∃ p,p = W.heap.size + 1 + 1:=⟨_,rfl⟩
 have rr0:U.cell? ⟨pr,0,none⟩ = some (J Y 0):=by
  rw [hU,hpr]
  simp [go_sem]
 have rf0:U.frozen? ⟨pr,0,none⟩ = false:=by
  rw [hU,hpr]
  simp [go_sem]
 have rr1:U.cell? ⟨pr,1,none⟩ = some (J Y 0):=by
  rw [hU,hpr]
  simp [go_sem]
 have rf1:U.frozen? ⟨pr,1,none⟩ = false:=by
  rw [hU,hpr]
  simp [go_sem]
 have rr2:U.cell? ⟨pr,2,none⟩ = some (J Y 0):=by
  rw [hU,hpr]
  simp [go_sem]
 have rf2:U.frozen? ⟨pr,2,none⟩ = false:=by
  rw [hU,hpr]
  simp [go_sem]
 rw [<- hU]
 have hbr:b < pr:=by omega
 have hWr:W.heap.size <= pr:=by omega
 rw [<- hpr]
 clear hU HC HF hpr
 refine (Jg9 b off f m0 m3 m6 m1 m4 m7 m2 m5 m8 x0 x1 x2 U hp hpf).mono ?_
 rintro e V9 ⟨v0,v1,v2,g,rfl,S,A⟩
 have rf0:=A.out.frozenOf rr0 rf0 (by show pr ≠ b;omega)
 have rr0:=A.out.cellOf rr0 (by show pr ≠ b;omega)
 have rf1:=A.out.frozenOf rr1 rf1 (by show pr ≠ b;omega)
 have rr1:=A.out.cellOf rr1 (by show pr ≠ b;omega)
 have rf2:=A.out.frozenOf rr2 rf2 (by show pr ≠ b;omega)
 have rr2:=A.out.cellOf rr2 (by show pr ≠ b;omega)
 have HL2:Hid (Leaves ⟨b,off,none⟩ W V9):=HL.out.same A.out
 have hp:=A.out.cell
 have hpf:=A.out.frozen
 have n1:b ≠ pr:=by omega
 have n2:pr ≠ b:=by omega
 clear A HL
 go_wp2_with (fail)
 refine bodyPost_ret (by simp [results,results98,go_sem,rr0,rr1,rr2];try rfl) rfl ?_
 refine ⟨v0,v1,v2,g,rfl,S,(((HL2.out.set hWr _).set hWr _).set hWr _).done ?_ ?_⟩
 ·simp [go_sem,hp]
 ·simp [go_sem,hpf]
def Jjz (q0 q1 q2 q3 h0 h1 h2:Int):Int:=cond (Jw (cond (Jn 4294967296 h0 h1 h2 q0 q1 q2 q3) 0 (Jba 4294967296 h0 h1 h2 q0 q1 q2 q3)) (cond (Jn 4294967296 h0 h1 h2 q0 q1 q2 q3) 0 (Ja9 4294967296 h0 h1 h2 q0 q1 q2 q3)) (cond (Jn 4294967296 h0 h1 h2 q0 q1 q2 q3) 0 (Jbb 4294967296 h0 h1 h2 q0 q1 q2 q3)) (cond (Jn 4294967296 h0 h1 h2 q0 q1 q2 q3) 0 (Jbc 4294967296 h0 h1 h2 q0 q1 q2 q3))) 0 ((Ju (cond (Jn 4294967296 h0 h1 h2 q0 q1 q2 q3) 0 (Jba 4294967296 h0 h1 h2 q0 q1 q2 q3)) 4294967296 ((Jae [(cond (Jn 4294967296 h0 h1 h2 q0 q1 q2 q3) 0 (Jba 4294967296 h0 h1 h2 q0 q1 q2 q3)),(cond (Jn 4294967296 h0 h1 h2 q0 q1 q2 q3) 0 (Ja9 4294967296 h0 h1 h2 q0 q1 q2 q3)),(cond (Jn 4294967296 h0 h1 h2 q0 q1 q2 q3) 0 (Jbb 4294967296 h0 h1 h2 q0 q1 q2 q3)),(cond (Jn 4294967296 h0 h1 h2 q0 q1 q2 q3) 0 (Jbc 4294967296 h0 h1 h2 q0 q1 q2 q3))]).getD 0)).getD 0)
def Jjy (q0 q1 q2 q3 h0 h1 h2:Int):Int:=cond (Jw (cond (Jn 4294967296 h0 h1 h2 q0 q1 q2 q3) 0 (Jba 4294967296 h0 h1 h2 q0 q1 q2 q3)) (cond (Jn 4294967296 h0 h1 h2 q0 q1 q2 q3) 0 (Ja9 4294967296 h0 h1 h2 q0 q1 q2 q3)) (cond (Jn 4294967296 h0 h1 h2 q0 q1 q2 q3) 0 (Jbb 4294967296 h0 h1 h2 q0 q1 q2 q3)) (cond (Jn 4294967296 h0 h1 h2 q0 q1 q2 q3) 0 (Jbc 4294967296 h0 h1 h2 q0 q1 q2 q3))) 0 ((Ju (cond (Jn 4294967296 h0 h1 h2 q0 q1 q2 q3) 0 (Ja9 4294967296 h0 h1 h2 q0 q1 q2 q3)) 4294967296 ((Jae [(cond (Jn 4294967296 h0 h1 h2 q0 q1 q2 q3) 0 (Jba 4294967296 h0 h1 h2 q0 q1 q2 q3)),(cond (Jn 4294967296 h0 h1 h2 q0 q1 q2 q3) 0 (Ja9 4294967296 h0 h1 h2 q0 q1 q2 q3)),(cond (Jn 4294967296 h0 h1 h2 q0 q1 q2 q3) 0 (Jbb 4294967296 h0 h1 h2 q0 q1 q2 q3)),(cond (Jn 4294967296 h0 h1 h2 q0 q1 q2 q3) 0 (Jbc 4294967296 h0 h1 h2 q0 q1 q2 q3))]).getD 0)).getD 0)
def Jj0 (q0 q1 q2 q3 h0 h1 h2:Int):Int:=cond (Jw (cond (Jn 4294967296 h0 h1 h2 q0 q1 q2 q3) 0 (Jba 4294967296 h0 h1 h2 q0 q1 q2 q3)) (cond (Jn 4294967296 h0 h1 h2 q0 q1 q2 q3) 0 (Ja9 4294967296 h0 h1 h2 q0 q1 q2 q3)) (cond (Jn 4294967296 h0 h1 h2 q0 q1 q2 q3) 0 (Jbb 4294967296 h0 h1 h2 q0 q1 q2 q3)) (cond (Jn 4294967296 h0 h1 h2 q0 q1 q2 q3) 0 (Jbc 4294967296 h0 h1 h2 q0 q1 q2 q3))) 0 ((Ju (cond (Jn 4294967296 h0 h1 h2 q0 q1 q2 q3) 0 (Jbb 4294967296 h0 h1 h2 q0 q1 q2 q3)) 4294967296 ((Jae [(cond (Jn 4294967296 h0 h1 h2 q0 q1 q2 q3) 0 (Jba 4294967296 h0 h1 h2 q0 q1 q2 q3)),(cond (Jn 4294967296 h0 h1 h2 q0 q1 q2 q3) 0 (Ja9 4294967296 h0 h1 h2 q0 q1 q2 q3)),(cond (Jn 4294967296 h0 h1 h2 q0 q1 q2 q3) 0 (Jbb 4294967296 h0 h1 h2 q0 q1 q2 q3)),(cond (Jn 4294967296 h0 h1 h2 q0 q1 q2 q3) 0 (Jbc 4294967296 h0 h1 h2 q0 q1 q2 q3))]).getD 0)).getD 0)
def Jjx (q0 q1 q2 q3 h0 h1 h2:Int):Int:=cond (Jw (cond (Jn 4294967296 h0 h1 h2 q0 q1 q2 q3) 0 (Jba 4294967296 h0 h1 h2 q0 q1 q2 q3)) (cond (Jn 4294967296 h0 h1 h2 q0 q1 q2 q3) 0 (Ja9 4294967296 h0 h1 h2 q0 q1 q2 q3)) (cond (Jn 4294967296 h0 h1 h2 q0 q1 q2 q3) 0 (Jbb 4294967296 h0 h1 h2 q0 q1 q2 q3)) (cond (Jn 4294967296 h0 h1 h2 q0 q1 q2 q3) 0 (Jbc 4294967296 h0 h1 h2 q0 q1 q2 q3))) 0 ((Ju (cond (Jn 4294967296 h0 h1 h2 q0 q1 q2 q3) 0 (Jbc 4294967296 h0 h1 h2 q0 q1 q2 q3)) 4294967296 ((Jae [(cond (Jn 4294967296 h0 h1 h2 q0 q1 q2 q3) 0 (Jba 4294967296 h0 h1 h2 q0 q1 q2 q3)),(cond (Jn 4294967296 h0 h1 h2 q0 q1 q2 q3) 0 (Ja9 4294967296 h0 h1 h2 q0 q1 q2 q3)),(cond (Jn 4294967296 h0 h1 h2 q0 q1 q2 q3) 0 (Jbb 4294967296 h0 h1 h2 q0 q1 q2 q3)),(cond (Jn 4294967296 h0 h1 h2 q0 q1 q2 q3) 0 (Jbc 4294967296 h0 h1 h2 q0 q1 q2 q3))]).getD 0)).getD 0)
def Jdy (q0 q1 q2 q3 h0 h1 h2:Int):Bool:=Jw (cond (Jn 4294967296 h0 h1 h2 q0 q1 q2 q3) 0 (Jba 4294967296 h0 h1 h2 q0 q1 q2 q3)) (cond (Jn 4294967296 h0 h1 h2 q0 q1 q2 q3) 0 (Ja9 4294967296 h0 h1 h2 q0 q1 q2 q3)) (cond (Jn 4294967296 h0 h1 h2 q0 q1 q2 q3) 0 (Jbb 4294967296 h0 h1 h2 q0 q1 q2 q3)) (cond (Jn 4294967296 h0 h1 h2 q0 q1 q2 q3) 0 (Jbc 4294967296 h0 h1 h2 q0 q1 q2 q3))
theorem Jlz:Jw 0 0 0 0 = true:=by
 have h:Jae [0,0,0,0] = some 0:=by decide
 unfold Jw
 rw [h]
 rfl
theorem Jqr {q0 q1 q2 q3 h0 h1 h2:Int} (h:Jn 4294967296 h0 h1 h2 q0 q1 q2 q3 = true):Jdy q0 q1 q2 q3 h0 h1 h2 = true:=by
 unfold Jdy
 rw [h]
 exact Jlz
end
section
open Go.RowKit Ref Fx
theorem Jky {f g1 g2:Bool} {q0 q1 q2 q3 h0 h1 h2 t0 t1 t2 t3 v0 v1 v2 v3:Int} (a:t0 = cond (Jn 4294967296 h0 h1 h2 q0 q1 q2 q3) 0 (Jba 4294967296 h0 h1 h2 q0 q1 q2 q3)/\t1 = cond (Jn 4294967296 h0 h1 h2 q0 q1 q2 q3) 0 (Ja9 4294967296 h0 h1 h2 q0 q1 q2 q3)/\t2 = cond (Jn 4294967296 h0 h1 h2 q0 q1 q2 q3) 0 (Jbb 4294967296 h0 h1 h2 q0 q1 q2 q3)/\t3 = cond (Jn 4294967296 h0 h1 h2 q0 q1 q2 q3) 0 (Jbc 4294967296 h0 h1 h2 q0 q1 q2 q3)/\g1 = (f || Jn 4294967296 h0 h1 h2 q0 q1 q2 q3))
  (c:v0 = cond (Jw t0 t1 t2 t3) 0 ((Ju t0 4294967296 ((Jae [t0,t1,t2,t3]).getD 0)).getD 0)/\v1 = cond (Jw t0 t1 t2 t3) 0 ((Ju t1 4294967296 ((Jae [t0,t1,t2,t3]).getD 0)).getD 0)/\v2 = cond (Jw t0 t1 t2 t3) 0 ((Ju t2 4294967296 ((Jae [t0,t1,t2,t3]).getD 0)).getD 0)/\v3 = cond (Jw t0 t1 t2 t3) 0 ((Ju t3 4294967296 ((Jae [t0,t1,t2,t3]).getD 0)).getD 0)/\g2 = (g1 || Jw t0 t1 t2 t3)) :
  v0 = Jjz q0 q1 q2 q3 h0 h1 h2/\v1 = Jjy q0 q1 q2 q3 h0 h1 h2/\v2 = Jj0 q0 q1 q2 q3 h0 h1 h2/\v3 = Jjx q0 q1 q2 q3 h0 h1 h2/\g2 = (f || Jdy q0 q1 q2 q3 h0 h1 h2):=by
 obtain ⟨rfl,rfl,rfl,rfl,rfl⟩:=a
 obtain ⟨rfl,rfl,rfl,rfl,rfl⟩:=c
 refine ⟨rfl,rfl,rfl,rfl,?_⟩
 cases hb:Jn 4294967296 h0 h1 h2 q0 q1 q2 q3 with
 | true=>rw [Jqr hb];simp
 | false=>unfold Jdy;rw [hb];simp
theorem Jo5 (b off:Nat) (f:Bool) (q0 q1 q2 q3 h0 h1 h2:Int) (W:World) (hc:W.cell? ⟨b,off,none⟩ = some (.bool f)) (hf:W.frozen? ⟨b,off,none⟩ = false) :
  Calls Tryz.prog 54 #[.pointer (some ⟨b,off,none⟩),.agg #[J Y q0,J Y q1,J Y q2,J Y q3],.agg #[J Y h0,J Y h1,J Y h2]] W fun e W'=>∃ v0 v1 v2 v3 g,e = .returned (.agg #[J Y v0,J Y v1,J Y v2,J Y v3])/\Hid (v0 = Jjz q0 q1 q2 q3 h0 h1 h2/\v1 = Jjy q0 q1 q2 q3 h0 h1 h2/\v2 = Jj0 q0 q1 q2 q3 h0 h1 h2/\v3 = Jjx q0 q1 q2 q3 h0 h1 h2/\g = (f || Jdy q0 q1 q2 q3 h0 h1 h2))/\Hid (After ⟨b,off,none⟩ g W W'):=by
 have hbW:b < W.heap.size:=JB _ _ hc
 obtain ⟨U,hU⟩:∃ U,U = (((W.alloc (.cells #[J Y q0,J Y q1,J Y q2,J Y q3] 29)).alloc (.cells #[J Y h0,J Y h1,J Y h2] 27)).alloc (.cells #[J Y 0,J Y 0,J Y 0,J Y 0] 29)):=⟨_,rfl⟩
 obtain ⟨pr,hpr⟩:∃ p,p = W.heap.size + 1 + 1:=⟨_,rfl⟩
 have HL:Hid (Leaves ⟨b,off,none⟩ W U):=by show Leaves _ _ _;rw [hU];exact (((Leaves.refl _ _).alloc _).alloc _).alloc _
 have hp:U.cell? ⟨b,off,none⟩ = some (.bool f):=by rw [hU,World.cell?_alloc_past _ _ _ (by simp;omega),World.cell?_alloc_past _ _ _ (by simp;omega),World.cell?_alloc_past _ _ _ hbW];exact hc
 have hpf:U.frozen? ⟨b,off,none⟩ = false:=by rw [hU,((Jg _ _).frozen (by simp;omega)),((Jg _ _).frozen (by simp;omega)),((Jg _ _).frozen hbW)];exact hf
 have rr0:U.cell? ⟨pr,0,none⟩ = some (J Y 0):=by rw [hU,hpr];simp [go_sem]
 have rf0:U.frozen? ⟨pr,0,none⟩ = false:=by rw [hU,hpr];simp [go_sem]
 have rr1:U.cell? ⟨pr,1,none⟩ = some (J Y 0):=by rw [hU,hpr];simp [go_sem]
 have rf1:U.frozen? ⟨pr,1,none⟩ = false:=by rw [hU,hpr];simp [go_sem]
 have rr2:U.cell? ⟨pr,2,none⟩ = some (J Y 0):=by rw [hU,hpr];simp [go_sem]
 have rf2:U.frozen? ⟨pr,2,none⟩ = false:=by rw [hU,hpr];simp [go_sem]
 have rr3:U.cell? ⟨pr,3,none⟩ = some (J Y 0):=by rw [hU,hpr];simp [go_sem]
 have rf3:U.frozen? ⟨pr,3,none⟩ = false:=by rw [hU,hpr];simp [go_sem]
 have ka0:U.cell? ⟨W.heap.size,0,none⟩ = some (J Y q0):=by rw [hU];simp [go_sem]
 have ka1:U.cell? ⟨W.heap.size,1,none⟩ = some (J Y q1):=by rw [hU];simp [go_sem]
 have ka2:U.cell? ⟨W.heap.size,2,none⟩ = some (J Y q2):=by rw [hU];simp [go_sem]
 have ka3:U.cell? ⟨W.heap.size,3,none⟩ = some (J Y q3):=by rw [hU];simp [go_sem]
 have kb0:U.cell? ⟨W.heap.size + 1,0,none⟩ = some (J Y h0):=by rw [hU];simp [go_sem]
 have kb1:U.cell? ⟨W.heap.size + 1,1,none⟩ = some (J Y h1):=by rw [hU];simp [go_sem]
 have kb2:U.cell? ⟨W.heap.size + 1,2,none⟩ = some (J Y h2):=by rw [hU];simp [go_sem]
 go_enter func54,ntmps54
 go_upto_region 1 with fail
 rw [<- hU]
 rw [<- hpr]
 obtain ⟨pa,hpa⟩:∃ p,p = W.heap.size:=⟨_,rfl⟩
 obtain ⟨pb,hpb⟩:∃ p,p = W.heap.size + 1:=⟨_,rfl⟩
 rw [<- hpb] at kb0 kb1 kb2
 rw [<- hpa] at ka0 ka1 ka2 ka3
 rw [<- hpb,<- hpa]
 have n1:b ≠ pr:=by omega
 have n2:pr ≠ b:=by omega
 have hWr:W.heap.size <= pr:=by omega
 clear hU hc hf hpa hpb hpr
 go_wp2_with (fail)
 refine (Jmm b off f 4294967296 h0 h1 h2 q0 q1 q2 q3 _ hp hpf).mono ?_
 rintro e W1 ⟨t0,t1,t2,t3,g1,rfl,S1,A⟩
 have rf0:=A.out.frozenOf rr0 rf0 (by show pr ≠ b;omega)
 have rr0:=A.out.cellOf rr0 (by show pr ≠ b;omega)
 have rf1:=A.out.frozenOf rr1 rf1 (by show pr ≠ b;omega)
 have rr1:=A.out.cellOf rr1 (by show pr ≠ b;omega)
 have rf2:=A.out.frozenOf rr2 rf2 (by show pr ≠ b;omega)
 have rr2:=A.out.cellOf rr2 (by show pr ≠ b;omega)
 have rf3:=A.out.frozenOf rr3 rf3 (by show pr ≠ b;omega)
 have rr3:=A.out.cellOf rr3 (by show pr ≠ b;omega)
 have HL:Hid _:=HL.out.same A.out
 have hp:=A.out.cell
 have hpf:=A.out.frozen
 clear A
 go_wp2_with (fail)
 refine (Jl0 b off g1 t0 t1 t2 t3 _ hp hpf).mono ?_
 rintro e W2 ⟨v0,v1,v2,v3,g2,rfl,S2,A⟩
 have rf0:=A.out.frozenOf rr0 rf0 (by show pr ≠ b;omega)
 have rr0:=A.out.cellOf rr0 (by show pr ≠ b;omega)
 have rf1:=A.out.frozenOf rr1 rf1 (by show pr ≠ b;omega)
 have rr1:=A.out.cellOf rr1 (by show pr ≠ b;omega)
 have rf2:=A.out.frozenOf rr2 rf2 (by show pr ≠ b;omega)
 have rr2:=A.out.cellOf rr2 (by show pr ≠ b;omega)
 have rf3:=A.out.frozenOf rr3 rf3 (by show pr ≠ b;omega)
 have rr3:=A.out.cellOf rr3 (by show pr ≠ b;omega)
 have HL:Hid _:=HL.out.same A.out
 have hp:=A.out.cell
 have hpf:=A.out.frozen
 clear A
 have HS:Hid _:=Jky S1.out S2.out
 clear S1 S2
 go_wp2_with (fail)
 refine bodyPost_ret (by simp [results,results54,go_sem,rr0,rr1,rr2,rr3];try rfl) rfl ?_
 refine ⟨v0,v1,v2,v3,g2,rfl,HS.out,((((HL.out.set hWr _).set hWr _).set hWr _).set hWr _).done ?_ ?_⟩
 ·simp [go_sem,hp]
 ·simp [go_sem,hpf]
end
section
open Go.RowKit Fx
def Jah (b off:Nat) (f:Bool) (pa pr po:Nat) (x0 x1 x2 n:Int) (W U:World):Bool:=false || ([(4,false),(5,((mul (x0) (n)).isNone || (mul (x1) (n)).isNone || (mul (x2) (n)).isNone))]:List (Nat × Bool)).any (·.2)
def Jdp (b off:Nat) (f:Bool) (pa pr po:Nat) (x0 x1 x2 n:Int) (W U:World):Nat->Shape
 | 0=>.is (.pointer (some ⟨b,off,none⟩))
 | 1=>.is (.func (.func 75) #[.pointer (some ⟨po,0,none⟩)] #[])
 | 2=>.is (.agg #[J Y x0,J Y x1,J Y x2])
 | 3=>.is (J Y n)
 | 4=>.is (.agg #[J Y n,J Y n,J Y n])
 | 5=>.is (.agg #[J Y ((mul (x0) (n)).getD 0),J Y ((mul (x1) (n)).getD 0),J Y ((mul (x2) (n)).getD 0)])
 | 6=>.is (.agg #[J Y (cond (Jah b off f pa pr po x0 x1 x2 n W U) 0 ((mul (x0) (n)).getD 0)),J Y (cond (Jah b off f pa pr po x0 x1 x2 n W U) 0 ((mul (x1) (n)).getD 0)),J Y (cond (Jah b off f pa pr po x0 x1 x2 n W U) 0 ((mul (x2) (n)).getD 0))])
 | 7=>.ptr
 | _=>.ptr
def Jx (b off:Nat) (f:Bool) (pa pr po:Nat) (x0 x1 x2 n:Int) (W U:World):Plan where
 W:=W
 N:=U.heap.size
 p:=⟨b,off,none⟩
 fl:=⟨po,0,none⟩
 g0:=false
 bad:=Jah b off f pa pr po x0 x1 x2 n W U
 f:=f
 calls:=[(4,false),(5,((mul (x0) (n)).isNone || (mul (x1) (n)).isNone || (mul (x2) (n)).isNone))]
 tl:=6
 st:=7
 r:=pr
 res:=[J Y (cond (Jah b off f pa pr po x0 x1 x2 n W U) 0 ((mul (x0) (n)).getD 0)),J Y (cond (Jah b off f pa pr po x0 x1 x2 n W U) 0 ((mul (x1) (n)).getD 0)),J Y (cond (Jah b off f pa pr po x0 x1 x2 n W U) 0 ((mul (x2) (n)).getD 0))]
 fixed:=[(⟨pa,0,none⟩,J Y x0),
  (⟨pa,1,none⟩,J Y x1),
  (⟨pa,2,none⟩,J Y x2)]
 made:=[]
theorem Jk3 (b off:Nat) (f:Bool) (pa pr po:Nat) (x0 x1 x2 n:Int) (W U:World):((Jx b off f pa pr po x0 x1 x2 n W U).calls.map (·.1)).Nodup:=of_decide_eq_true rfl
theorem Jia (b off:Nat) (f:Bool) (pa pr po:Nat) (x0 x1 x2 n:Int) (W U:World):((Jx b off f pa pr po x0 x1 x2 n W U).bad = true->(Jx b off f pa pr po x0 x1 x2 n W U).g0 = true \/ ∃ c ∈ (Jx b off f pa pr po x0 x1 x2 n W U).calls,c.2 = true)/\∀ c ∈ (Jx b off f pa pr po x0 x1 x2 n W U).calls,c.2 = true->(Jx b off f pa pr po x0 x1 x2 n W U).bad = true:=
 Jc9 _ rfl
theorem Jls (b off:Nat) (f:Bool) (x0 x1 x2 n:Int) (W:World) (hc:W.cell? ⟨b,off,none⟩ = some (.bool f)) (hf:W.frozen? ⟨b,off,none⟩ = false) :
  Calls Tryz.prog 52 #[.pointer (some ⟨b,off,none⟩),.agg #[J Y x0,J Y x1,J Y x2],J Y n] W fun e W'=>∃ v0 v1 v2 g,e = .returned (.agg #[J Y v0,J Y v1,J Y v2])/\Hid (Jc3 f (mul x0 n) (mul x1 n) (mul x2 n) v0 v1 v2 g)/\Hid (After ⟨b,off,none⟩ g W W'):=by
 have hbW:b < W.heap.size:=JB _ _ hc
 go_enter func52,ntmps52
 go_wp2_with (fail)
 obtain ⟨U,hU⟩:∃ U,U = (((W.alloc (.cells #[J Y x0,J Y x1,J Y x2] 27)).alloc (.cells #[J Y 0,J Y 0,J Y 0] 27)).alloc (.cells #[.bool false] 47)):=⟨_,rfl⟩
 have hUs:U.heap.size = W.heap.size + 3:=by rw [hU];simp
 have HL:Hid (Leaves ⟨b,off,none⟩ W U):=by show Leaves _ _ _;rw [hU];exact ((((Leaves.refl _ _).alloc _).alloc _).alloc _)
 have hp:U.cell? ⟨b,off,none⟩ = some (.bool f):=(by rw [hU,World.cell?_alloc_past _ _ _ (by simp;omega),World.cell?_alloc_past _ _ _ (by simp;omega),World.cell?_alloc_past _ _ _ hbW];exact hc)
 have hpf:U.frozen? ⟨b,off,none⟩ = false:=by rw [hU,((Jg _ _).frozen (by simp;omega)),((Jg _ _).frozen (by simp;omega)),((Jg _ _).frozen hbW)];exact hf
 have ho:U.cell? ⟨W.heap.size + 1 + 1,0,none⟩ = some (.bool false):=by rw [hU];simp [go_sem]
 have hof:U.frozen? ⟨W.heap.size + 1 + 1,0,none⟩ = false:=by rw [hU];simp [go_sem]
 have k0_0:U.cell? ⟨W.heap.size,0,none⟩ = some (J Y x0):=by rw [hU];simp [go_sem]
 have k0_1:U.cell? ⟨W.heap.size,1,none⟩ = some (J Y x1):=by rw [hU];simp [go_sem]
 have k0_2:U.cell? ⟨W.heap.size,2,none⟩ = some (J Y x2):=by rw [hU];simp [go_sem]
 have rr0:U.cell? ⟨W.heap.size + 1,0,none⟩ = some (J Y 0):=by rw [hU];simp [go_sem]
 have rf0:U.frozen? ⟨W.heap.size + 1,0,none⟩ = false:=by rw [hU];simp [go_sem]
 have rr1:U.cell? ⟨W.heap.size + 1,1,none⟩ = some (J Y 0):=by rw [hU];simp [go_sem]
 have rf1:U.frozen? ⟨W.heap.size + 1,1,none⟩ = false:=by rw [hU];simp [go_sem]
 have rr2:U.cell? ⟨W.heap.size + 1,2,none⟩ = some (J Y 0):=by rw [hU];simp [go_sem]
 have rf2:U.frozen? ⟨W.heap.size + 1,2,none⟩ = false:=by rw [hU];simp [go_sem]
 rw [<- hU]
 clear hU hc hf
 obtain ⟨pa,hpa⟩:∃ p,p = W.heap.size:=⟨_,rfl⟩
 obtain ⟨pr,hpr⟩:∃ p,p = W.heap.size + 1:=⟨_,rfl⟩
 obtain ⟨po,hpo⟩:∃ p,p = W.heap.size + 1 + 1:=⟨_,rfl⟩
 rw [<- hpo] at ho hof
 rw [<- hpo]
 rw [<- hpr] at rr0 rf0 rr1 rf1 rr2 rf2
 rw [<- hpr]
 rw [<- hpa] at k0_0 k0_1 k0_2
 rw [<- hpa]
 have q0:W.heap.size <= pa:=by omega
 have q1:pa < pr:=by omega
 have q2:pr < po:=by omega
 have q9:po < U.heap.size:=by omega
 clear hpa hpr hpo hUs
 have hπ:(Jx b off f pa pr po x0 x1 x2 n W U).Good:=by
  refine Jfr ?_ ?_ ?_ ?_ ?_ ?_ ?_ (Jia b off f pa pr po x0 x1 x2 n W U).1 (Jia b off f pa pr po x0 x1 x2 n W U).2
  ·show W.heap.size <= pr;omega
  ·show pr < U.heap.size;omega
  ·exact Or.inr (by show W.heap.size <= po;omega)
  ·show po < U.heap.size;omega
  ·show po ≠ pr;omega
  ·show b < W.heap.size;omega
  ·intro c hc
   simp only [Jx,List.mem_cons,List.not_mem_nil,or_false] at hc
   rcases hc with rfl | rfl | rfl <;> (show _ < U.heap.size/\_ ≠ po/\_ ≠ b/\_ ≠ pr) <;> (dsimp only) <;> omega
 refine region_by (Jl (Jdp b off f pa pr po x0 x1 x2 n W U)) (Glob (Jx b off f pa pr po x0 x1 x2 n W U)) (by kernel_rfl) (by kernel_rfl) (by kernel_rfl) (by kernel_rfl) (fun _=>0) ?_ ?_ ?_
 ·refine ⟨?_,?_,?_,?_,?_,?_,(fun _ _ h=>by cases h),(fun _ _ _ _ h=>by cases h)⟩
  ·exact HL.out.drew
  ·exact Nat.le_refl _
  ·exact ⟨false,ho,hof,fun h=>by show Jah b off f pa pr po x0 x1 x2 n W U = true;simp [Jah,h],fun h=>h,fun _ _ h=>by cases h⟩
  ·refine Or.inr ⟨?_,hpf⟩
   show U.cell? ⟨b,off,none⟩ = some (.bool (f || (false && Jah b off f pa pr po x0 x1 x2 n W U)))
   rw [Bool.false_and,Bool.or_false];exact hp
  ·refine ⟨[J Y 0,J Y 0,J Y 0],rfl,?_,fun h=>by cases h⟩
   intro k v hk
   match k,hk with
   | 0,hk=>simp at hk;subst hk;exact ⟨rr0,rf0⟩
   | 1,hk=>simp at hk;subst hk;exact ⟨rr1,rf1⟩
   | 2,hk=>simp at hk;subst hk;exact ⟨rr2,rf2⟩
  ·intro c hc
   simp only [Jx,List.mem_cons,List.not_mem_nil,or_false] at hc
   rcases hc with rfl | rfl | rfl <;> assumption
 ·generalize hD:Jai _ = D
  generalize hA:Jab _ = A
  generalize hZ:Act.mk _ _ = Z
  have d0:D 0 = some 8:=by rw [<- hD];rfl
  have d1:D 1 = some 9:=by rw [<- hD];rfl
  have d2:D 2 = some 10:=by rw [<- hD];rfl
  have d3:D 3 = some 11:=by rw [<- hD];rfl
  have d4:D 4 = some 12:=by rw [<- hD];rfl
  have d5:D 5 = some 13:=by rw [<- hD];rfl
  have d6:D 6 = some 14:=by rw [<- hD];rfl
  have R0:∀ (γ:Nat->Nat) (L:Nat->Bool) (a:Act) (w:World),Held D A (Jl (Jdp b off f pa pr po x0 x1 x2 n W U)) (Glob (Jx b off f pa pr po x0 x1 x2 n W U)) Z γ L a w->a.tmps[0]? = some (.pointer (some ⟨b,off,none⟩)):=fun γ L a w hH=>(hH.rest 0 (by rw [<- hD];exact dst_free (by kernel_rfl))).trans (by rw [<- hZ];rfl)
  have R4:∀ (γ:Nat->Nat) (L:Nat->Bool) (a:Act) (w:World),Held D A (Jl (Jdp b off f pa pr po x0 x1 x2 n W U)) (Glob (Jx b off f pa pr po x0 x1 x2 n W U)) Z γ L a w->a.tmps[4]? = some (.pointer (some ⟨pa,0,none⟩)):=fun γ L a w hH=>(hH.rest 4 (by rw [<- hD];exact dst_free (by kernel_rfl))).trans (by rw [<- hZ];rfl)
  have R6:∀ (γ:Nat->Nat) (L:Nat->Bool) (a:Act) (w:World),Held D A (Jl (Jdp b off f pa pr po x0 x1 x2 n W U)) (Glob (Jx b off f pa pr po x0 x1 x2 n W U)) Z γ L a w->a.tmps[6]? = some (.pointer (some ⟨pr,0,none⟩)):=fun γ L a w hH=>(hH.rest 6 (by rw [<- hD];exact dst_free (by kernel_rfl))).trans (by rw [<- hZ];rfl)
  have R7:∀ (γ:Nat->Nat) (L:Nat->Bool) (a:Act) (w:World),Held D A (Jl (Jdp b off f pa pr po x0 x1 x2 n W U)) (Glob (Jx b off f pa pr po x0 x1 x2 n W U)) Z γ L a w->a.tmps[7]? = some (.pointer (some ⟨po,0,none⟩)):=fun γ L a w hH=>(hH.rest 7 (by rw [<- hD];exact dst_free (by kernel_rfl))).trans (by rw [<- hZ];rfl)
  have R2:∀ (γ:Nat->Nat) (L:Nat->Bool) (a:Act) (w:World),Held D A (Jl (Jdp b off f pa pr po x0 x1 x2 n W U)) (Glob (Jx b off f pa pr po x0 x1 x2 n W U)) Z γ L a w->a.tmps[2]? = some (J Y n):=fun γ L a w hH=>(hH.rest 2 (by rw [<- hD];exact dst_free (by kernel_rfl))).trans (by rw [<- hZ];rfl)
  have A_5_4:A 5 4:=by rw [<- hA];exact ⟨_,rfl,⟨4,.data⟩,by simp,rfl,rfl⟩
  clear hD hA hZ
  refine AllDo.cons 0 rfl (Jd _ rfl rfl (fun γ L a w hH hA=>by have e1:=R0 γ L a w hH;simp [JD,go_sem,e1])) ?_
  refine AllDo.cons 1 rfl (Jd _ rfl rfl (fun γ L a w hH hA=>by have e1:=R7 γ L a w hH;simp [JD,go_sem,e1])) ?_
  refine AllDo.cons 2 rfl (Jd _ rfl rfl (fun γ L a w hH hA=>by have e1:=R4 γ L a w hH;have e2:=hH.glob.fix (⟨pa,0,none⟩,J Y x0) (by simp [Jx]);have e3:=hH.glob.fix (⟨pa,1,none⟩,J Y x1) (by simp [Jx]);have e4:=hH.glob.fix (⟨pa,2,none⟩,J Y x2) (by simp [Jx]);simp [JD,go_sem,e1,e2,e3,e4])) ?_
  refine AllDo.cons 3 rfl (Jd _ rfl rfl (fun γ L a w hH hA=>by have e1:=R2 γ L a w hH;simp [JD,go_sem,e1])) ?_
  refine AllDo.cons 4 rfl (J9 hπ _ (false) rfl (by simp [Jx]) (J7 (Jk3 b off f pa pr po x0 x1 x2 n W U) (by simp [Jx])) rfl (fun γ L a w hH hA g hg hz=>by have e1:=hH.at d3 rfl (hA ⟨3,.data⟩ (by simp) rfl);exact ⟨107,#[J Y n],by simp [go_sem,e1],(Jmk (n) w).mono (by rintro e W1 ⟨rfl,Z⟩;exact ⟨rfl,g || false,rfl,Jmo Z.out hg hz⟩)⟩)) ?_
  refine AllDo.cons 5 rfl (J9 hπ _ (((mul (x0) (n)).isNone || (mul (x1) (n)).isNone || (mul (x2) (n)).isNone)) rfl (by simp [Jx]) (J7 (Jk3 b off f pa pr po x0 x1 x2 n W U) (by simp [Jx])) rfl (fun γ L a w hH hA g hg hz=>by have e1:=hH.at d1 rfl (hA ⟨1,.data⟩ (by simp) rfl);have e2:=hH.at d2 rfl (hA ⟨2,.data⟩ (by simp) rfl);have e3:=hH.at d4 rfl (hA ⟨4,.data⟩ (by simp) rfl);exact ⟨106,#[.func (.func 75) #[.pointer (some ⟨po,0,none⟩)] #[],.agg #[J Y x0,J Y x1,J Y x2],.agg #[J Y n,J Y n,J Y n]],by simp [go_sem,e1,e2,e3],(Jjb po g (x0) (x1) (x2) (n) (n) (n) w hg hz).mono (by rintro e W1 ⟨g1,rfl,S,Z⟩;exact ⟨rfl,g1,S.out,Z.out⟩)⟩)) ?_
  refine AllDo.cons 6 rfl (Jet hπ _ rfl (fun e=>by have e2:po = b:=congrArg Addr.block e;omega) (by simp [Jx]) (by simp [Jx]) (by simp [Jx]) rfl (fun L hcl haft c hc=>by have L5:L 5 = true:=haft ⟨5,.data⟩ (by simp) rfl;have L4:L 4 = true:=hcl 5 4 A_5_4 L5;simp only [Jx,List.mem_cons,List.not_mem_nil,or_false] at hc;rcases hc with rfl | rfl;all_goals assumption) (fun γ L a w hH hA hb hp hpf=>by have e1:=hH.at d0 rfl (hA ⟨0,.data⟩ (by simp) rfl);have e2:=R7 γ L a w hH;have e3:=hH.at d5 rfl (hA ⟨5,.data⟩ (by simp) rfl);exact ⟨105,#[.pointer (some ⟨b,off,none⟩),.pointer (some ⟨po,0,none⟩),.agg #[J Y ((mul (x0) (n)).getD 0),J Y ((mul (x1) (n)).getD 0),J Y ((mul (x2) (n)).getD 0)]],by simp [go_sem,e1,e2,e3],(Jez b off po f (Jah b off f pa pr po x0 x1 x2 n W U) ((mul (x0) (n)).getD 0) ((mul (x1) (n)).getD 0) ((mul (x2) (n)).getD 0) w hp hpf hb).mono (by rintro e W1 ⟨rfl,Z⟩;exact ⟨rfl,Z.out⟩)⟩)) ?_
  refine AllDo.cons 7 rfl (does_store hπ (by simp [Jx]) rfl rfl (by simp [Jx]) (by simp [Jx]) (by simp [Jx]) (fun γ L a w hH hA cs hl hh=>by have e1:=R6 γ L a w hH;have e2:=hH.at d6 rfl (hA ⟨6,.data⟩ (by simp) rfl);obtain ⟨u0,u1,u2,rfl⟩:=Jpt hl;have zz0:w.cell? ⟨pr,0,none⟩ = some u0/\w.frozen? ⟨pr,0,none⟩ = false:=hh 0 u0 rfl;have zz1:w.cell? ⟨pr,1,none⟩ = some u1/\w.frozen? ⟨pr,1,none⟩ = false:=hh 1 u1 rfl;have zz2:w.cell? ⟨pr,2,none⟩ = some u2/\w.frozen? ⟨pr,2,none⟩ = false:=hh 2 u2 rfl;exact ⟨(((w.setCell ⟨pr,0,none⟩ (J Y (cond (Jah b off f pa pr po x0 x1 x2 n W U) 0 ((mul (x0) (n)).getD 0)))).setCell ⟨pr,1,none⟩ (J Y (cond (Jah b off f pa pr po x0 x1 x2 n W U) 0 ((mul (x1) (n)).getD 0)))).setCell ⟨pr,2,none⟩ (J Y (cond (Jah b off f pa pr po x0 x1 x2 n W U) 0 ((mul (x2) (n)).getD 0)))),by simp [JD,go_sem,e1,e2,zz0.1,zz0.2,zz1.1,zz1.2,zz2.1,zz2.2],((((Only.refl _ _).set 0 _).set 1 _).set 2 _),Jl7 hh⟩)) ?_
  exact AllDo.nil
 ·intro γ a w L hL hLo hH
  have hL':∀ j,j < 8->L j = true:=fun j hj=>hL j hj
  have hG:=hH.glob
  have hdf:a.defers = []:=hH.defers.trans rfl
  have hs:a.tmps[6]? = some (.pointer (some ⟨pr,0,none⟩)):=(hH.rest 6 (dst_free (by kernel_rfl))).trans rfl
  obtain ⟨cs,c1,c2,c3⟩:=hG.res
  obtain rfl:=c3 (hL' 7 (by omega))
  have ho2:=hG.outer.resolve_left (fun e=>by have e2:po = b:=congrArg Addr.block e;omega)
  have hA:Hid (After ⟨b,off,none⟩ (f || Jah b off f pa pr po x0 x1 x2 n W U) W w):=by
   have e:=ho2.1
   rw [show (Jx b off f pa pr po x0 x1 x2 n W U).tl = 6 from rfl,hL' 6 (by omega),Bool.true_and] at e
   exact hG.leaves.done e ho2.2
  have r0:w.cell? ⟨pr,0,none⟩ = some (J Y (cond (Jah b off f pa pr po x0 x1 x2 n W U) 0 ((mul (x0) (n)).getD 0))):=(c2 0 _ rfl).1
  have r1:w.cell? ⟨pr,1,none⟩ = some (J Y (cond (Jah b off f pa pr po x0 x1 x2 n W U) 0 ((mul (x1) (n)).getD 0))):=(c2 1 _ rfl).1
  have r2:w.cell? ⟨pr,2,none⟩ = some (J Y (cond (Jah b off f pa pr po x0 x1 x2 n W U) 0 ((mul (x2) (n)).getD 0))):=(c2 2 _ rfl).1
  clear hL hLo hL' hH hG c1 c2 c3 ho2 hπ
  go_wp2
  refine bodyPost_ret (by simp [results,results52,go_sem,hs,r0,r1,r2];try rfl) hdf ?_
  exact ⟨_,_,_,_,rfl,Jij (by simp [Jah,Bool.or_assoc]),hA⟩
end
section
open Go.RowKit Fx
def b3 (x y z:Option Int):Bool:=x.isNone || y.isNone || z.isNone
def t3 (x y z:Option Int):V3:=⟨cond (b3 x y z) 0 (x.getD 0),cond (b3 x y z) 0 (y.getD 0),cond (b3 x y z) 0 (z.getD 0)⟩
theorem Jgm {f g:Bool} {x y z:Option Int} {u v w:Int} (h:Jc3 f x y z u v w g):u = (t3 x y z).x/\v = (t3 x y z).y/\w = (t3 x y z).z/\g = (f || b3 x y z):=h
structure Mt where
 a:V3
 b:V3
 c:V3
def Mt.l (m:Mt):List Int:=[m.a.x,m.a.y,m.a.z,m.b.x,m.b.y,m.b.z,m.c.x,m.c.y,m.c.z]
@[reducible] def Mt.val (m:Mt):Value:=.agg #[J Y m.a.x,J Y m.a.y,J Y m.a.z,J Y m.b.x,J Y m.b.y,J Y m.b.z,J Y m.c.x,J Y m.c.y,J Y m.c.z]
def Jap (a b:V3):V3:=t3 (add a.x b.x) (add a.y b.y) (add a.z b.z)
def Jef (a b:V3):Bool:=b3 (add a.x b.x) (add a.y b.y) (add a.z b.z)
def Jig (a b:V3):V3:=t3 (sub a.x b.x) (sub a.y b.y) (sub a.z b.z)
def Jsv (a b:V3):Bool:=b3 (sub a.x b.x) (sub a.y b.y) (sub a.z b.z)
def Jt1 (a:V3) (n:Int):V3:=t3 (mul a.x n) (mul a.y n) (mul a.z n)
def Jl4 (a:V3) (n:Int):Bool:=b3 (mul a.x n) (mul a.y n) (mul a.z n)
def Jbv (a b:V3):V3:=t3 (dot [a.y,a.z] [b.z,-b.y]) (dot [a.z,a.x] [b.x,-b.z]) (dot [a.x,a.y] [b.y,-b.x])
def Jl2 (a b:V3):Bool:=b3 (dot [a.y,a.z] [b.z,-b.y]) (dot [a.z,a.x] [b.x,-b.z]) (dot [a.x,a.y] [b.y,-b.x])
def Jar (m:Mt) (a:V3):V3:=t3 (dot [m.a.x,m.a.y,m.a.z] [a.x,a.y,a.z]) (dot [m.b.x,m.b.y,m.b.z] [a.x,a.y,a.z]) (dot [m.c.x,m.c.y,m.c.z] [a.x,a.y,a.z])
def Jdo (m:Mt) (a:V3):Bool:=b3 (dot [m.a.x,m.a.y,m.a.z] [a.x,a.y,a.z]) (dot [m.b.x,m.b.y,m.b.z] [a.x,a.y,a.z]) (dot [m.c.x,m.c.y,m.c.z] [a.x,a.y,a.z])
def Mt.t (m:Mt):Mt:=⟨⟨m.a.x,m.b.x,m.c.x⟩,⟨m.a.y,m.b.y,m.c.y⟩,⟨m.a.z,m.b.z,m.c.z⟩⟩
def Jo (q:V4):Mt:=⟨⟨cond (Jz q.w q.x q.y q.z) 0 (Jfx q.w q.x q.y q.z),cond (Jz q.w q.x q.y q.z) 0 (Jft q.w q.x q.y q.z),cond (Jz q.w q.x q.y q.z) 0 (Jfp q.w q.x q.y q.z)⟩,⟨cond (Jz q.w q.x q.y q.z) 0 (Jfm q.w q.x q.y q.z),cond (Jz q.w q.x q.y q.z) 0 (Jfy q.w q.x q.y q.z),cond (Jz q.w q.x q.y q.z) 0 (Jfl q.w q.x q.y q.z)⟩,⟨cond (Jz q.w q.x q.y q.z) 0 (Jfw q.w q.x q.y q.z),cond (Jz q.w q.x q.y q.z) 0 (Jf4 q.w q.x q.y q.z),cond (Jz q.w q.x q.y q.z) 0 (Jf5 q.w q.x q.y q.z)⟩⟩
def Jhu (q:V4):Bool:=Jz q.w q.x q.y q.z
def Jcm (q:V4) (h:V3):V4:=⟨Jjz q.w q.x q.y q.z h.x h.y h.z,Jjy q.w q.x q.y q.z h.x h.y h.z,Jj0 q.w q.x q.y q.z h.x h.y h.z,Jjx q.w q.x q.y q.z h.x h.y h.z⟩
def Jng (q:V4) (h:V3):Bool:=Jdy q.w q.x q.y q.z h.x h.y h.z
def Jga (a:V3):Int:=(Jae [a.x,a.y,a.z]).getD 0
def Jte (a:V3):Bool:=(Jae [a.x,a.y,a.z]).isNone
def dv1 (a n:Int):Int:=(Ju a 4294967296 n).getD 0
def Jby (a n:Int):Bool:=(Ju a 4294967296 n).isNone
def Jk1 (a b:V3):V3:=⟨dv1 a.x b.x,dv1 a.y b.y,dv1 a.z b.z⟩
def Jgs (a b:V3):Bool:=Jby a.x b.x || Jby a.y b.y || Jby a.z b.z
theorem Jnc (b off:Nat) (f:Bool) (x y:V3) (W:World) (hc:W.cell? ⟨b,off,none⟩ = some (.bool f)) (hf:W.frozen? ⟨b,off,none⟩ = false) :
  Calls Tryz.prog 53 #[.pointer (some ⟨b,off,none⟩),x.val,y.val] W fun e W'=>e = .returned (Jap x y).val/\Hid (After ⟨b,off,none⟩ (f || Jef x y) W W'):=by
 refine JA (Jqf b off f x.x x.y x.z y.x y.y y.z W hc hf) ?_
 rintro e W' ⟨v0,v1,v2,g,rfl,SS,A⟩
 obtain ⟨rfl,rfl,rfl,rfl⟩:=Jgm SS.out
 exact ⟨rfl,A⟩
theorem Jqg (b off:Nat) (f:Bool) (x:V3) (n:Int) (W:World) (hc:W.cell? ⟨b,off,none⟩ = some (.bool f)) (hf:W.frozen? ⟨b,off,none⟩ = false) :
  Calls Tryz.prog 52 #[.pointer (some ⟨b,off,none⟩),x.val,J Y n] W fun e W'=>e = .returned (Jt1 x n).val/\Hid (After ⟨b,off,none⟩ (f || Jl4 x n) W W'):=by
 refine JA (Jls b off f x.x x.y x.z n W hc hf) ?_
 rintro e W' ⟨v0,v1,v2,g,rfl,SS,A⟩
 obtain ⟨rfl,rfl,rfl,rfl⟩:=Jgm SS.out
 exact ⟨rfl,A⟩
theorem Jtv (b off:Nat) (f:Bool) (x y:V3) (W:World) (hc:W.cell? ⟨b,off,none⟩ = some (.bool f)) (hf:W.frozen? ⟨b,off,none⟩ = false) :
  Calls Tryz.prog 60 #[.pointer (some ⟨b,off,none⟩),x.val,y.val] W fun e W'=>e = .returned (Jbv x y).val/\Hid (After ⟨b,off,none⟩ (f || Jl2 x y) W W'):=by
 refine JA (Jlm b off f x.x x.y x.z y.x y.y y.z W hc hf) ?_
 rintro e W' ⟨v0,v1,v2,g,rfl,SS,A⟩
 obtain ⟨rfl,rfl,rfl,rfl⟩:=Jgm SS.out
 exact ⟨rfl,A⟩
theorem Js9 (b off:Nat) (f:Bool) (m:Mt) (x:V3) (W:World) (hc:W.cell? ⟨b,off,none⟩ = some (.bool f)) (hf:W.frozen? ⟨b,off,none⟩ = false) :
  Calls Tryz.prog 95 #[.pointer (some ⟨b,off,none⟩),m.val,x.val] W fun e W'=>e = .returned (Jar m x).val/\Hid (After ⟨b,off,none⟩ (f || Jdo m x) W W'):=by
 refine JA (Jiz b off f m.a.x m.a.y m.a.z m.b.x m.b.y m.b.z m.c.x m.c.y m.c.z x.x x.y x.z W hc hf) ?_
 rintro e W' ⟨v0,v1,v2,g,rfl,SS,A⟩
 obtain ⟨rfl,rfl,rfl,rfl⟩:=Jgm SS.out
 exact ⟨rfl,A⟩
theorem Jt3 (b off:Nat) (f:Bool) (m:Mt) (x:V3) (W:World) (hc:W.cell? ⟨b,off,none⟩ = some (.bool f)) (hf:W.frozen? ⟨b,off,none⟩ = false) :
  Calls Tryz.prog 96 #[.pointer (some ⟨b,off,none⟩),m.val,x.val] W fun e W'=>e = .returned (Jar m.t x).val/\Hid (After ⟨b,off,none⟩ (f || Jdo m.t x) W W'):=by
 refine JA (Jow b off f m.a.x m.a.y m.a.z m.b.x m.b.y m.b.z m.c.x m.c.y m.c.z x.x x.y x.z W hc hf) ?_
 rintro e W' ⟨v0,v1,v2,g,rfl,SS,A⟩
 obtain ⟨rfl,rfl,rfl,rfl⟩:=Jgm SS.out
 exact ⟨rfl,A⟩
theorem Jtk (b off:Nat) (f:Bool) (q:V4) (W:World) (hc:W.cell? ⟨b,off,none⟩ = some (.bool f)) (hf:W.frozen? ⟨b,off,none⟩ = false) :
  Calls Tryz.prog 94 #[.pointer (some ⟨b,off,none⟩),q.val] W fun e W'=>e = .returned (Jo q).val/\Hid (After ⟨b,off,none⟩ (f || Jhu q) W W'):=Jpa b off f q.w q.x q.y q.z W hc hf
theorem Jtq (b off:Nat) (f:Bool) (q:V4) (x:V3) (W:World) (hc:W.cell? ⟨b,off,none⟩ = some (.bool f)) (hf:W.frozen? ⟨b,off,none⟩ = false) :
  Calls Tryz.prog 54 #[.pointer (some ⟨b,off,none⟩),q.val,x.val] W fun e W'=>e = .returned (Jcm q x).val/\Hid (After ⟨b,off,none⟩ (f || Jng q x) W W'):=by
 refine JA (Jo5 b off f q.w q.x q.y q.z x.x x.y x.z W hc hf) ?_
 rintro e W' ⟨v0,v1,v2,v3,g,rfl,SS,A⟩
 obtain ⟨rfl,rfl,rfl,rfl,rfl⟩:=SS.out
 exact ⟨rfl,A⟩
theorem Jmx (b off:Nat) (f:Bool) (x n:Int) (W:World) (hc:W.cell? ⟨b,off,none⟩ = some (.bool f)) (hf:W.frozen? ⟨b,off,none⟩ = false) :
  Calls Tryz.prog 115 #[.pointer (some ⟨b,off,none⟩),J Y x,J Y n] W fun e W'=>e = .returned (J Y (dv1 x n))/\Hid (After ⟨b,off,none⟩ (f || Jby x n) W W'):=by
 refine JA (Jn8 b off f x n W hc hf) ?_
 rintro e W' ⟨v0,g,rfl,SS,A⟩
 obtain ⟨rfl,rfl⟩:=SS.out
 exact ⟨rfl,A⟩
end
section
open Go.RowKit Go.Shelf Fx
theorem J2 {R:List Value} (hR:Rest R) (b:Bd):(Tryz.prog.info? 39).map (·.size) = some (b.L R).length:=by rw [hR.all];kernel_rfl
theorem Jjt (b:Bd) (R:List Value) (fv:Value) (hk:b.k ≠ 2) (W:World) :
  Calls Tryz.prog 50 #[.agg (b.L R).toArray,fv] W fun e W'=>e = .returned (.tuple #[])/\Hid (Below W.heap.size W W'):=by
 have hb:Hid _:=Jb W (.cells (b.L R).toArray 39)
 have h0:=(CW.new W (b.L R) 39 0 _ rfl).1
 have hk2:(b.k == 2) = false:=by simpa using hk
 generalize b.L R = cs at *
 generalize b.k = k at *
 go_enter func50,ntmps50
 go_wp2_with (fail)
 go_end0
 exact ⟨rfl,hb⟩
theorem Jgx (b:Bd) (R:List Value) (hk:b.k = 2) (gf:Nat) (caps:Array Value) (eg:∀ args w,(callFunc gf args).run Tryz.prog w = .ok (.enter gf args) w) (Q:World->Prop) (W:World)
  (hf:Calls Tryz.prog gf caps (W.alloc (.cells (b.L R).toArray 39)) fun e W'=>e = .returned (.tuple #[])/\Q W') :
  Calls Tryz.prog 50 #[.agg (b.L R).toArray,.func (.func gf) #[] caps] W fun e W'=>e = .returned (.tuple #[])/\Q W':=by
 have HF:Hid _:=hf
 clear hf
 have h0:=(CW.new W (b.L R) 39 0 _ rfl).1
 rw [hk] at h0
 generalize b.L R = cs at *
 go_enter func50,ntmps50
 go_wp2_with (fail)
 refine JA HF.out ?_
 rintro e W' ⟨rfl,hq⟩
 clear h0 HF
 go_wp2_with (fail)
 go_end0
 exact ⟨rfl,hq⟩
structure Two2 (p:Addr) (k:Nat) (V W:World):Prop where
 size:V.heap.size <= W.heap.size
 other:∀ q:Addr,q.block < V.heap.size->q.block ≠ p.block->q.block ≠ k->W.cell? q = V.cell? q/\W.frozen? q = V.frozen? q
 below:∀ (B:Nat) (w:World),Below B w V->B <= p.block->B <= k->B <= V.heap.size->Below B w W
 kept:W.os = V.os/\W.tape = V.tape/\W.output = V.output/\∀ j,j < V.heap.size->j ≠ p.block->j ≠ k->W.heap[j]? = V.heap[j]?
 beside:p.block < V.heap.size->p.block ≠ k->∀ o,o ≠ p.off->W.cell? ⟨p.block,o,none⟩ = V.cell? ⟨p.block,o,none⟩/\W.frozen? ⟨p.block,o,none⟩ = V.frozen? ⟨p.block,o,none⟩
section
variable {p:Addr} {k:Nat} {U V W X:World} {g:Bool} {vs:List Value}
theorem Two2.of (h:Leaves p V W):Two2 p k V W:=⟨h.size,fun q a b _=>h.other q a b,fun B w a b _ d=>h.below B w a b d,⟨h.kept.1,h.kept.2.1,h.kept.2.2.1,fun j a b _=>h.kept.2.2.2 j a b⟩,fun a _ o b=>h.beside a o b⟩
theorem Two2.trans (h:Two2 p k U V) (h':Two2 p k V W):Two2 p k U W:=by
 refine ⟨Nat.le_trans h.size h'.size,fun q a b c=>?_,fun B w a b c d=>h'.below B w (h.below B w a b c d) b c (Nat.le_trans d h.size),⟨h'.kept.1.trans h.kept.1,h'.kept.2.1.trans h.kept.2.1,h'.kept.2.2.1.trans h.kept.2.2.1,fun j a b c=>(h'.kept.2.2.2 j (Nat.lt_of_lt_of_le a h.size) b c).trans (h.kept.2.2.2 j a b c)⟩,fun a b o c=>?_⟩
 ·have e1:=h.other q a b c
  have e2:=h'.other q (Nat.lt_of_lt_of_le a h.size) b c
  exact ⟨e2.1.trans e1.1,e2.2.trans e1.2⟩
 ·have e1:=h.beside a b o c
  have e2:=h'.beside (Nat.lt_of_lt_of_le a h.size) b o c
  exact ⟨e2.1.trans e1.1,e2.2.trans e1.2⟩
theorem Two2.same (h:Two2 p k U V) (a:After p g V W):Two2 p k U W:=h.trans (Two2.of a.leaves)
theorem Two2.set (h:Two2 p k U V) (o:Nat) (v:Value):Two2 p k U (V.setCell ⟨k,o,none⟩ v):=by
 refine h.trans ⟨by simp [World.setCell],fun q a b c=>?_,fun B w a b c d=>a.setCell c v,⟨rfl,rfl,rfl,fun j a b c=>Below.heap_setCell _ _ _ _ c⟩,fun a b o' c=>?_⟩
 ·exact ⟨World.cell?_of_block (w:=V) (Below.heap_setCell _ _ _ _ c),World.frozen?_of_block (w:=V) (Below.heap_setCell _ _ _ _ c)⟩
 ·exact ⟨World.cell?_of_block (w:=V) (Below.heap_setCell _ _ _ _ b),World.frozen?_of_block (w:=V) (Below.heap_setCell _ _ _ _ b)⟩
theorem Two2.step (h:Two2 p k U V) (hb:Below V.heap.size V W):Two2 p k U W:=h.trans (Two2.of ((Leaves.refl p V).step hb))
theorem Leaves.two (h:Leaves p U V) (t:Two2 p k V W) (hp:p.block < U.heap.size) (hk:U.heap.size <= k):Leaves p U W:=by
 refine ⟨Nat.le_trans h.size t.size,fun q a b=>?_,fun B w a b c=>t.below B w (h.below B w a b c) b (Nat.le_trans c hk) (Nat.le_trans c h.size),⟨t.kept.1.trans h.kept.1,t.kept.2.1.trans h.kept.2.1,t.kept.2.2.1.trans h.kept.2.2.1,fun j a b=>(t.kept.2.2.2 j (Nat.lt_of_lt_of_le a h.size) b (by omega)).trans (h.kept.2.2.2 j a b)⟩,fun a o c=>?_⟩
 ·have e1:=h.other q a b
  have e2:=t.other q (Nat.lt_of_lt_of_le a h.size) b (by omega)
  exact ⟨e2.1.trans e1.1,e2.2.trans e1.2⟩
 ·have e1:=h.beside a o c
  have e2:=t.beside (Nat.lt_of_lt_of_le a h.size) (by omega) o c
  exact ⟨e2.1.trans e1.1,e2.2.trans e1.2⟩
theorem CW.two {b:Nat} (h:CW V b vs) (t:Two2 p k V W) (h1:b ≠ p.block) (h2:b ≠ k):CW W b vs:=fun i v e=>by
 have:=t.other ⟨b,i,none⟩ (JB _ _ (h i v e).1) h1 h2
 exact ⟨this.1.trans (h i v e).1,this.2.trans (h i v e).2⟩
structure Clo (p:Addr) (g:Bool) (k:Nat) (cs:List Value) (V W:World):Prop where
 two:Two2 p k V W
 cell:W.cell? p = some (.bool g)
 frozen:W.frozen? p = false
 cw:CW W k cs
theorem Clo.start (hc:V.cell? p = some (.bool g)) (hf:V.frozen? p = false) (h:CW V k vs):Clo p g k vs V V:=⟨Two2.of (Leaves.refl _ _),hc,hf,h⟩
theorem Clo.same {g':Bool} (h:Clo p g k vs U V) (a:After p g' V W) (hk:k ≠ p.block):Clo p g' k vs U W:=⟨h.two.same a,a.cell,a.frozen,h.cw.after a hk⟩
theorem Clo.set (h:Clo p g k vs U V) (hk:k ≠ p.block) (o:Nat) (v:Value) (ho:o < vs.length):Clo p g k (vs.set o v) U (V.setCell ⟨k,o,none⟩ v):=
 ⟨h.two.set o v,(World.cell?_setCell_other _ _ _ _ (fun e=>hk (by cases p;exact (Addr.mk.inj e).1))).trans h.cell,by simp [go_sem,h.frozen],h.cw.set o v ho⟩
theorem Clo.step (h:Clo p g k vs U V) (hb:Below V.heap.size V W):Clo p g k vs U W:=⟨h.two.step hb,Ja hb h.cell,Jt hb h.cell h.frozen,h.cw.step hb⟩
end
end
section
open Go.RowKit Go.Shelf Fx
theorem Jlj (fb fo:Nat) (f:Bool) (x y:V3) (W:World) (hc:W.cell? ⟨fb,fo,none⟩ = some (.bool f)) (hf:W.frozen? ⟨fb,fo,none⟩ = false) :
  Calls Tryz.prog 65 #[.pointer (some ⟨fb,fo,none⟩),x.val,y.val] W fun e W'=>e = .returned (Jk1 x y).val/\Hid (After ⟨fb,fo,none⟩ (f || Jgs x y) W W'):=by
 have hbW:fb < W.heap.size:=JB _ _ hc
 obtain ⟨V,hV⟩:∃ V,V = ((W.alloc (.cells #[J Y x.x,J Y x.y,J Y x.z] 27)).alloc (.cells #[J Y y.x,J Y y.y,J Y y.z] 27)).alloc (.cells #[J Y 0,J Y 0,J Y 0] 27):=⟨_,rfl⟩
 have hb1:=Jb W (.cells #[J Y x.x,J Y x.y,J Y x.z] 27)
 have hb2:=Jb (W.alloc (.cells #[J Y x.x,J Y x.y,J Y x.z] 27)) (.cells #[J Y y.x,J Y y.y,J Y y.z] 27)
 have hb3:=Jb ((W.alloc (.cells #[J Y x.x,J Y x.y,J Y x.z] 27)).alloc (.cells #[J Y y.x,J Y y.y,J Y y.z] 27)) (.cells #[J Y 0,J Y 0,J Y 0] 27)
 have CA:CW V W.heap.size [J Y x.x,J Y x.y,J Y x.z]:=by rw [hV];exact ((CW.new W [J Y x.x,J Y x.y,J Y x.z] 27).step hb2).step hb3
 have CB:CW V (W.heap.size + 1) [J Y y.x,J Y y.y,J Y y.z]:=by
  have:=(CW.new (W.alloc (.cells #[J Y x.x,J Y x.y,J Y x.z] 27)) [J Y y.x,J Y y.y,J Y y.z] 27).step hb3
  rw [World.size_alloc] at this
  rw [hV];exact this
 have CR:CW V (W.heap.size + 1 + 1) [J Y 0,J Y 0,J Y 0]:=by
  have:=CW.new ((W.alloc (.cells #[J Y x.x,J Y x.y,J Y x.z] 27)).alloc (.cells #[J Y y.x,J Y y.y,J Y y.z] 27)) [J Y 0,J Y 0,J Y 0] 27
  simp only [World.size_alloc] at this
  rw [hV];exact this
 have hB:Below W.heap.size W V:=by rw [hV];exact Jf (Jf hb1 hb2) hb3
 have hcV:=Ja hB hc
 have hfV:=Jt hB hc hf
 have HLV:Hid (Leaves ⟨fb,fo,none⟩ W V):=(Leaves.refl _ _).step hB
 clear hc hf hB hb1 hb2 hb3
 go_enter func65,ntmps65
 go_upto_region 1 with fail
 rw [<- hV]
 clear hV
 obtain ⟨pr,hpr0⟩:∃ p,p = W.heap.size + 1 + 1:=⟨_,rfl⟩
 obtain ⟨pb,hpb0⟩:∃ p,p = W.heap.size + 1:=⟨_,rfl⟩
 obtain ⟨pa,hpa0⟩:∃ p,p = W.heap.size:=⟨_,rfl⟩
 rw [<- hpr0] at CR
 rw [<- hpb0] at CB
 rw [<- hpa0] at CA
 rw [<- hpr0,<- hpb0,<- hpa0]
 have na:pa ≠ fb:=by omega
 have nb:pb ≠ fb:=by omega
 have nr:pr ≠ fb:=by omega
 have nr':fb ≠ pr:=by omega
 have hpr:W.heap.size <= pr:=by omega
 clear hpr0 hpb0 hpa0 hbW
 refine RV.rs [.some (.pointer (some ⟨fb,fo,none⟩)),.some (.pointer (some ⟨pa,0,none⟩)),.some (J Y x.x),.some (.pointer (some ⟨pb,0,none⟩)),.some (J Y y.x),.some (J Y (dv1 x.x y.x)),.some (.pointer (some ⟨fb,fo,none⟩)),.some (.pointer (some ⟨pa,1,none⟩)),.some (J Y x.y),.some (.pointer (some ⟨pb,1,none⟩)),.some (J Y y.y),.some (J Y (dv1 x.y y.y)),.some (.pointer (some ⟨fb,fo,none⟩)),.some (.pointer (some ⟨pa,2,none⟩)),.some (J Y x.z),.some (.pointer (some ⟨pb,2,none⟩)),.some (J Y y.z),.some (J Y (dv1 x.z y.z)),.some (.agg #[J Y (dv1 x.x y.x),J Y (dv1 x.y y.y),J Y (dv1 x.z y.z)]),none] [8,9,10,11,12,13,14,15,16,17,18,19,20,21,22,23,24,25,26,0] [(0,.pointer (some ⟨fb,fo,none⟩)),(4,.pointer (some ⟨pa,0,none⟩)),(5,.pointer (some ⟨pb,0,none⟩)),(6,.pointer (some ⟨pr,0,none⟩))] (fun γ L w9=>FGS V ⟨fb,fo,none⟩ f [(5,Jby x.x y.x),(11,Jby x.y y.y),(17,Jby x.z y.z)] 19 (fun w=>(((w.setCell ⟨pr,0,none⟩ (J Y (dv1 x.x y.x))).setCell ⟨pr,1,none⟩ (J Y (dv1 x.y y.y))).setCell ⟨pr,2,none⟩ (J Y (dv1 x.z y.z)))) L w9) ⟨rfl,rfl,rfl,rfl,trivial⟩ ?_ ?_ ?_
 ·exact FGS.start hcV hfV
 ·intro D WA Z hD hWA hZ T
  simp only [RV.Outs,RV.Slots,Nat.reduceAdd] at T
  iterate 5 first
   | (refine RV.cc _ (RV.pu T (fun γ v L w hl h=>h.stay (by decide) rfl) (fun γ L a w hH hl h9 k9=>⟨_,?_,rfl⟩)) ?_;· simp [JD,go_sem,h9])
   | (refine RV.cc _ (RV.pu T (fun γ v L w hl h=>h.stay (by decide) rfl) (fun γ L a w hH hl h9 k9=>⟨_,?_,rfl⟩)) ?_;· have hG:=hH.glob.early (RV.ny hH (RV.wt (j:=19) hWA (by kernel_rfl)) hl);have q0:=hG.at (CA 0 _ rfl).1 na;have q1:=hG.at (CB 0 _ rfl).1 nb;simp [JC] at k9;simp [JD,go_sem,h9,k9,q0,q1])
  refine RV.cc _ (RV.dc (fun γ L a w hH hl hA=>by have h9:=T γ L a w hH;have k9:=hA;simp [JC] at k9;have hG:=hH.glob.early (RV.ny hH (RV.wt (j:=19) (i:=5) hWA (by kernel_rfl)) hl);exact ⟨115,#[.pointer (some ⟨fb,fo,none⟩),J Y x.x,J Y y.x],by simp [go_sem,h9,k9],JA (Jmx fb fo _ x.x y.x w hG.cell hG.frozen) (by rintro e w2 ⟨rfl,ha⟩;exact ⟨_,rfl,rfl,fun j v _ h=>h.keep _,FGS.come hG (by decide) (RV.ny hH (RV.wt (j:=19) (i:=5) hWA (by kernel_rfl)) hl) hl rfl ha.out⟩)⟩)) ?_
  iterate 5 first
   | (refine RV.cc _ (RV.pu T (fun γ v L w hl h=>h.stay (by decide) rfl) (fun γ L a w hH hl h9 k9=>⟨_,?_,rfl⟩)) ?_;· simp [JD,go_sem,h9])
   | (refine RV.cc _ (RV.pu T (fun γ v L w hl h=>h.stay (by decide) rfl) (fun γ L a w hH hl h9 k9=>⟨_,?_,rfl⟩)) ?_;· have hG:=hH.glob.early (RV.ny hH (RV.wt (j:=19) hWA (by kernel_rfl)) hl);have q0:=hG.at (CA 1 _ rfl).1 na;have q1:=hG.at (CB 1 _ rfl).1 nb;simp [JC] at k9;simp [JD,go_sem,h9,k9,q0,q1])
  refine RV.cc _ (RV.dc (fun γ L a w hH hl hA=>by have h9:=T γ L a w hH;have k9:=hA;simp [JC] at k9;have hG:=hH.glob.early (RV.ny hH (RV.wt (j:=19) (i:=11) hWA (by kernel_rfl)) hl);exact ⟨115,#[.pointer (some ⟨fb,fo,none⟩),J Y x.y,J Y y.y],by simp [go_sem,h9,k9],JA (Jmx fb fo _ x.y y.y w hG.cell hG.frozen) (by rintro e w2 ⟨rfl,ha⟩;exact ⟨_,rfl,rfl,fun j v _ h=>h.keep _,FGS.come hG (by decide) (RV.ny hH (RV.wt (j:=19) (i:=11) hWA (by kernel_rfl)) hl) hl rfl ha.out⟩)⟩)) ?_
  iterate 5 first
   | (refine RV.cc _ (RV.pu T (fun γ v L w hl h=>h.stay (by decide) rfl) (fun γ L a w hH hl h9 k9=>⟨_,?_,rfl⟩)) ?_;· simp [JD,go_sem,h9])
   | (refine RV.cc _ (RV.pu T (fun γ v L w hl h=>h.stay (by decide) rfl) (fun γ L a w hH hl h9 k9=>⟨_,?_,rfl⟩)) ?_;· have hG:=hH.glob.early (RV.ny hH (RV.wt (j:=19) hWA (by kernel_rfl)) hl);have q0:=hG.at (CA 2 _ rfl).1 na;have q1:=hG.at (CB 2 _ rfl).1 nb;simp [JC] at k9;simp [JD,go_sem,h9,k9,q0,q1])
  refine RV.cc _ (RV.dc (fun γ L a w hH hl hA=>by have h9:=T γ L a w hH;have k9:=hA;simp [JC] at k9;have hG:=hH.glob.early (RV.ny hH (RV.wt (j:=19) (i:=17) hWA (by kernel_rfl)) hl);exact ⟨115,#[.pointer (some ⟨fb,fo,none⟩),J Y x.z,J Y y.z],by simp [go_sem,h9,k9],JA (Jmx fb fo _ x.z y.z w hG.cell hG.frozen) (by rintro e w2 ⟨rfl,ha⟩;exact ⟨_,rfl,rfl,fun j v _ h=>h.keep _,FGS.come hG (by decide) (RV.ny hH (RV.wt (j:=19) (i:=17) hWA (by kernel_rfl)) hl) hl rfl ha.out⟩)⟩)) ?_
  (refine RV.cc _ (RV.pu T (fun γ v L w hl h=>h.stay (by decide) rfl) (fun γ L a w hH hl h9 k9=>⟨_,?_,rfl⟩)) ?_;· simp [JC] at k9;simp [JD,go_sem,h9,k9])
  refine RV.cc _ (RV.does_store (fun γ L a w hH hl hA=>by have h9:=T γ L a w hH;have k9:=hA;simp [JC] at k9;have hG:=hH.glob.early hl;have z0:=hG.at (CR 0 _ rfl).1 nr;have zf0:=hG.open (CR 0 _ rfl).1 (CR 0 _ rfl).2 nr;have z1:=hG.at (CR 1 _ rfl).1 nr;have zf1:=hG.open (CR 1 _ rfl).1 (CR 1 _ rfl).2 nr;have z2:=hG.at (CR 2 _ rfl).1 nr;have zf2:=hG.open (CR 2 _ rfl).1 (CR 2 _ rfl).2 nr;exact ⟨(((w.setCell ⟨pr,0,none⟩ (J Y (dv1 x.x y.x))).setCell ⟨pr,1,none⟩ (J Y (dv1 x.y y.y))).setCell ⟨pr,2,none⟩ (J Y (dv1 x.z y.z))),by simp [JD,go_sem,z0,zf0,z1,zf1,z2,zf2,h9,k9],trivial,fun j v _ h=>h.keep _,FGS.store (S:=fun w=>(((w.setCell ⟨pr,0,none⟩ (J Y (dv1 x.x y.x))).setCell ⟨pr,1,none⟩ (J Y (dv1 x.y y.y))).setCell ⟨pr,2,none⟩ (J Y (dv1 x.z y.z)))) hG rfl⟩)) ?_
  exact RV.AllDo.nil
 ·intro γ w5 L9 hL hI9 hG9
  obtain ⟨w8,hF8,rfl⟩:=hG9.late (hL 19 (by decide))
  have hFL:orL f [(5,Jby x.x y.x),(11,Jby x.y y.y),(17,Jby x.z y.z)] L9 = (f || (Jby x.x y.x || Jby x.y y.y || Jby x.z y.z)):=by unfold orL;simp only [List.any_cons,List.any_nil,hL 5 (by decide),hL 11 (by decide),hL 17 (by decide),Bool.true_and,Bool.or_false,Bool.or_assoc]
  have HA8:Hid (After _ _ _ _):=hF8.leaves.done hF8.cell hF8.frozen
  rw [hFL] at HA8
  clear hF8 hFL
  clear hL hI9 hG9
  simp only [RV.putL,Act.put,List.setIfInBounds_toArray,List.set_cons_zero,List.set_cons_succ]
  have C1:Hid (CW w8 pr _):=(CR.leaves HA8.out.leaves nr)
  have HL:Hid (Leaves ⟨fb,fo,none⟩ W _):=HLV.out.same HA8.out
  have hc8:=HA8.out.cell
  have hf8:=HA8.out.frozen
  obtain ⟨r0,q0⟩:=C1.out 0 _ rfl
  obtain ⟨r1,q1⟩:=C1.out 1 _ rfl
  obtain ⟨r2,q2⟩:=C1.out 2 _ rfl
  clear C1 HA8
  go_wp2_with (fail)
  refine bodyPost_ret (by simp [results,results65,go_sem,r0,r1,r2];try rfl) rfl ?_
  refine ⟨rfl,(((HL.out.set hpr _).set hpr _).set hpr _).done ?_ ?_⟩
  ·simp [go_sem,hc8,Jgs]
  ·simp [go_sem,hf8]
end
end Go.Proofs.YteebbpioffdncaaGreat
