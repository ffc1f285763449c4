/- Layers 1 and 2 as Jga functions of vectors; package vec's contracts over them. -/
import Derived.Test.YteebbpioffdncaaGreatBW14
import Derived.Test.YteebbpioffdncaaGreatBW4
import Derived.Test.YteebbpioffdncaaGreatBW3
import Derived.Test.YteebbpioffdncaaGreatBW2
import Derived.Test.YteebbpioffdncaaGreatProg
import Derived.WalkKit
import Derived.Laws.MathBits
import Derived.Laws.Externs
import Derived.Handy
import Derived.Laws.BitsAllLaws
import Derived.WalkLawsBesides
import Derived.Deep.RegionWith
import Derived.Test.YteebbpioffdncaaGreatBW0
import Derived.Orders
import Derived.Below
import Derived.Laws.Rows
import Derived.RangeFuncBox
import Derived.Shelf.Abstract
import Derived.OwnWalkIn
import Derived.TacticsInMore
import Derived.LoopNIn
import Derived.LoopIn
import Derived.LoopTactic
import Derived.ProofKit
import Derived.Laws.MakeOwn
import Derived.Laws.OwnMore
import Derived.Maps.AppendAt
import Derived.Deep.QuietTactic
import Derived.BigQuiet
import Derived.Deep.CutBlock
import Derived.Deep.CutRange
import Derived.Deep.LoopGhost
import Derived.Lib.SmallJoins
import Derived.RowKit
import Derived.Deep.MidRow
import Derived.Test.YteebbpioffdncaaGreatBW13
import Derived.Test.YteebbpioffdncaaGreatBW12
import Derived.Test.YteebbpioffdncaaGreatBW11
import Derived.Test.YteebbpioffdncaaGreatBW10
import Derived.Test.YteebbpioffdncaaGreatBW9
import Derived.Deep.RegionHeld3
import Derived.Test.YteebbpioffdncaaGreatBW5
import Derived.Test.YteebbpioffdncaaGreatBW8
import Derived.Test.YteebbpioffdncaaGreatBW6
import Derived.Test.YteebbpioffdncaaGreatBW7
import Derived.Test.YteebbpioffdncaaGreatBW15
import Derived.Test.YteebbpioffdncaaGreatBW1
import Derived.OneCell
import Derived.WalkMore
import Derived.Lib.BufferMore
import Derived.Test.YteebbpioffdncaaGreatBW25
import Derived.OpenShut
import Derived.Test.YteebbpioffdncaaGreatBW19
import Derived.Test.YteebbpioffdncaaGreatBW18
import Derived.Test.YteebbpioffdncaaGreatBW17
import Derived.Deep.Slices
import Derived.Test.YteebbpioffdncaaGreatBW16
import Derived.Test.YteebbpioffdncaaGreatBW26
import Derived.Test.YteebbpioffdncaaGreatBW24
import Derived.RangeFuncNested
import Derived.RangeFuncBound
import Derived.RangeFuncCalls
import Derived.RangeFuncLeaves
import Derived.Test.YteebbpioffdncaaGreatBW23
import Derived.Test.YteebbpioffdncaaGreatBW22
import Derived.Test.YteebbpioffdncaaGreatBW21
import Derived.Test.YteebbpioffdncaaGreatBW20
set_option maxHeartbeats 2000000
set_option maxRecDepth 100000
set_option linter.unusedVariables false
namespace Go.Proofs.YteebbpioffdncaaGreat
open Go.Value renaming int -> J
open Go.IntKind renaming i64 -> Jk
section
open Go.RowKit Fx
def Jb0 (a n:Int):Int:=(mul a n).getD 0
def Jhx (a n:Int):Bool:=(mul a n).isNone
theorem Jva (b off:Nat) (f:Bool) (x n:Int) (W:World) (hc:W.cell? ⟨b,off,none⟩ = some (.bool f)) (hf:W.frozen? ⟨b,off,none⟩ = false) :
  Calls Tryz.prog 75 #[.pointer (some ⟨b,off,none⟩),J Jk x,J Jk n] W fun e W'=>e = .returned (J Jk (Jb0 x n))/\Hid (After ⟨b,off,none⟩ (f || Jhx x n) W W'):=by
 refine Calls.mono (Jo3 b off f x n W hc hf) ?_
 rintro e W' ⟨v0,g,rfl,SS,A⟩
 obtain ⟨rfl,rfl⟩:=SS.out
 exact ⟨rfl,A⟩
end
section
open Go.RowKit Go.Shelf Fx
def Jcw (b:Bd) (j:V3):Bd:=b.wl (Jah b.l j)
def Jcv (b:Bd) (j:V3) (n:Int):Bd:=b.wp (Jah b.p (Jbz j (Jb0 b.m n)))
def Jkk (b:Bd) (j:V3) (n:Int):Bool:=Jhx b.m n || (Jfh j (Jb0 b.m n) || Jck b.p (Jbz j (Jb0 b.m n)))
theorem Jn6 (fb fo pw pb pj:Nat) (f:Bool) (b:Bd) (R:List Value) (jm:V3) (hR:Rest R) (V:World) (hc:V.cell? ⟨fb,fo,none⟩ = some (.bool f)) (hf:V.frozen? ⟨fb,fo,none⟩ = false)
  (Cw:CW V pw [.pointer (some ⟨fb,fo,none⟩)]) (Cb:CW V pb (b.L R)) (Cj:CW V pj [J Jk jm.x,J Jk jm.y,J Jk jm.z]) (nb:pb ≠ fb) :
  Calls Tryz.prog 76 #[.pointer (some ⟨pw,0,none⟩),.pointer (some ⟨pb,0,none⟩),.pointer (some ⟨pj,0,none⟩)] V fun e W'=>e = .returned (.tuple #[])/\Hid (Clo ⟨fb,fo,none⟩ (f || Jck b.l jm) pb ((Jcw b jm).L R) V W'):=by
 have k8:=(Cb 11 _ rfl).1
 have k9:=(Cb 12 _ rfl).1
 have ka:=(Cb 13 _ rfl).1
 have j0:=(Cj 0 _ rfl).1
 have j1:=(Cj 1 _ rfl).1
 have j2:=(Cj 2 _ rfl).1
 have kw:=(Cw 0 _ rfl).1
 have HC:Hid _:=Ji3 fb fo f b.l jm V hc hf
 have HS:Hid _:=Clo.start hc hf Cb
 clear hc hf Cw Cb Cj
 go_enter Tryz.func76,Tryz.ntmps76
 go_wp2_with (fail)
 refine Calls.mono HC.out ?_
 rintro e W1 ⟨rfl,A⟩
 have HS:Hid (Clo _ _ _ _ _ _):=HS.out.same A.out nb
 obtain ⟨r0,q0⟩:=HS.out.cw 11 _ rfl
 obtain ⟨r1,q1⟩:=HS.out.cw 12 _ rfl
 obtain ⟨r2,q2⟩:=HS.out.cw 13 _ rfl
 clear HC A k8 k9 ka j0 j1 j2 kw
 go_wp2_with (fail)
 go_end0
 exact ⟨rfl,HS.out.set3 nb 11 (J Jk (Jah b.l jm).x) (J Jk (Jah b.l jm).y) (J Jk (Jah b.l jm).z) (Jfi hR (by decide))⟩
theorem Jp4 (fb fo pw pb pj pn:Nat) (f:Bool) (b:Bd) (R:List Value) (jm:V3) (n:Int) (hR:Rest R) (V:World) (hc:V.cell? ⟨fb,fo,none⟩ = some (.bool f)) (hf:V.frozen? ⟨fb,fo,none⟩ = false)
  (Cw:CW V pw [.pointer (some ⟨fb,fo,none⟩)]) (Cb:CW V pb (b.L R)) (Cj:CW V pj [J Jk jm.x,J Jk jm.y,J Jk jm.z]) (Cn:CW V pn [J Jk n]) (nw:pw ≠ fb) (nb:pb ≠ fb) (nj:pj ≠ fb) (nn:pn ≠ fb) :
  Calls Tryz.prog 74 #[.pointer (some ⟨pw,0,none⟩),.pointer (some ⟨pb,0,none⟩),.pointer (some ⟨pj,0,none⟩),.pointer (some ⟨pn,0,none⟩)] V fun e W'=>e = .returned (.tuple #[])/\Hid (Clo ⟨fb,fo,none⟩ (f || Jkk b jm n) pb ((Jcv b jm n).L R) V W'):=by
 have HS:Hid _:=Clo.start hc hf Cb
 go_enter Tryz.func74,Tryz.ntmps74
 go_upto_region 0 with fail
 refine RV.rs [.some (.pointer (some ⟨fb,fo,none⟩)),.some (.pointer (some ⟨pb,8,none⟩)),.some (.agg #[J Jk b.p.x,J Jk b.p.y,J Jk b.p.z]),.some (.pointer (some ⟨fb,fo,none⟩)),.some (.agg #[J Jk jm.x,J Jk jm.y,J Jk jm.z]),.some (.pointer (some ⟨fb,fo,none⟩)),.some (.pointer (some ⟨pb,14,none⟩)),.some (.pointer (some ⟨pb,14,none⟩)),.some (J Jk b.m),.some (J Jk n),.some (J Jk (Jb0 b.m n)),.some (.agg #[J Jk ((Jbz jm (Jb0 b.m n)).x),J Jk ((Jbz jm (Jb0 b.m n)).y),J Jk ((Jbz jm (Jb0 b.m n)).z)]),.some (.agg #[J Jk ((Jah b.p (Jbz jm (Jb0 b.m n))).x),J Jk ((Jah b.p (Jbz jm (Jb0 b.m n))).y),J Jk ((Jah b.p (Jbz jm (Jb0 b.m n))).z)]),.some (.pointer (some ⟨pb,8,none⟩)),none] [5,6,7,8,9,10,11,12,13,14,15,16,17,18,0] [(0,.pointer (some ⟨pw,0,none⟩)),(1,.pointer (some ⟨pb,0,none⟩)),(2,.pointer (some ⟨pj,0,none⟩)),(3,.pointer (some ⟨pn,0,none⟩))] (fun γ L w9=>FGS V ⟨fb,fo,none⟩ f [(10,Jhx b.m n),(11,Jfh jm (Jb0 b.m n)),(12,Jck b.p (Jbz jm (Jb0 b.m n)))] 14 (fun w=>(((w.setCell ⟨pb,8,none⟩ (J Jk ((Jah b.p (Jbz jm (Jb0 b.m n))).x))).setCell ⟨pb,9,none⟩ (J Jk ((Jah b.p (Jbz jm (Jb0 b.m n))).y))).setCell ⟨pb,10,none⟩ (J Jk ((Jah b.p (Jbz jm (Jb0 b.m n))).z)))) L w9) ⟨rfl,rfl,rfl,rfl,trivial⟩ ?_ ?_ ?_
 ·exact FGS.start hc hf
 ·intro D WA Z hD hWA hZ T
  simp only [RV.Outs,RV.Slots,Nat.reduceAdd] at T
  iterate 10 first
   | (refine RV.cc _ (RV.pu T (fun γ v L w hl h=>h.stay (by decide) rfl) (fun γ L a w hH hl h9 k9=>⟨_,?_,rfl⟩)) ?_;· simp [execOp,go_sem,h9])
   | (refine RV.cc _ (RV.pu T (fun γ v L w hl h=>h.stay (by decide) rfl) (fun γ L a w hH hl h9 k9=>⟨_,?_,rfl⟩)) ?_;· simp [Region.binds] at k9;simp [execOp,go_sem,h9,k9])
   | (refine RV.cc _ (RV.pu T (fun γ v L w hl h=>h.stay (by decide) rfl) (fun γ L a w hH hl h9 k9=>⟨_,?_,rfl⟩)) ?_;· have hG:=hH.glob.early (RV.ny hH (RV.wt (j:=14) hWA (by kernel_rfl)) hl);have q0:=hG.at (Cb 8 _ rfl).1 nb;have q1:=hG.at (Cb 9 _ rfl).1 nb;have q2:=hG.at (Cb 10 _ rfl).1 nb;have q3:=hG.at (Cb 14 _ rfl).1 nb;simp [Region.binds] at k9;simp [execOp,go_sem,h9,k9,q0,q1,q2,q3])
   | (refine RV.cc _ (RV.pu T (fun γ v L w hl h=>h.stay (by decide) rfl) (fun γ L a w hH hl h9 k9=>⟨_,?_,rfl⟩)) ?_;· have hG:=hH.glob.early (RV.ny hH (RV.wt (j:=14) hWA (by kernel_rfl)) hl);have q0:=hG.at (Cw 0 _ rfl).1 nw;have q1:=hG.at (Cj 0 _ rfl).1 nj;have q2:=hG.at (Cj 1 _ rfl).1 nj;have q3:=hG.at (Cj 2 _ rfl).1 nj;have q4:=hG.at (Cn 0 _ rfl).1 nn;simp [execOp,go_sem,h9,q0,q1,q2,q3,q4])
  refine RV.cc _ (RV.dc (fun γ L a w hH hl hA=>by have h9:=T γ L a w hH;have k9:=hA;simp [Region.binds] at k9;have hG:=hH.glob.early (RV.ny hH (RV.wt (j:=14) (i:=10) hWA (by kernel_rfl)) hl);exact ⟨75,#[.pointer (some ⟨fb,fo,none⟩),J Jk b.m,J Jk n],by simp [go_sem,h9,k9],Calls.mono (Jva fb fo _ b.m n w hG.cell hG.frozen) (by rintro e w2 ⟨rfl,ha⟩;exact ⟨_,rfl,rfl,fun j v _ h=>h.keep _,FGS.come hG (by decide) (RV.ny hH (RV.wt (j:=14) (i:=10) hWA (by kernel_rfl)) hl) hl rfl ha.out⟩)⟩)) ?_
  refine RV.cc _ (RV.dc (fun γ L a w hH hl hA=>by have h9:=T γ L a w hH;have k9:=hA;simp [Region.binds] at k9;have hG:=hH.glob.early (RV.ny hH (RV.wt (j:=14) (i:=11) hWA (by kernel_rfl)) hl);exact ⟨52,#[.pointer (some ⟨fb,fo,none⟩),.agg #[J Jk jm.x,J Jk jm.y,J Jk jm.z],J Jk (Jb0 b.m n)],by simp [go_sem,h9,k9],Calls.mono (Jnx fb fo _ jm (Jb0 b.m n) w hG.cell hG.frozen) (by rintro e w2 ⟨rfl,ha⟩;exact ⟨_,rfl,rfl,fun j v _ h=>h.keep _,FGS.come hG (by decide) (RV.ny hH (RV.wt (j:=14) (i:=11) hWA (by kernel_rfl)) hl) hl rfl ha.out⟩)⟩)) ?_
  refine RV.cc _ (RV.dc (fun γ L a w hH hl hA=>by have h9:=T γ L a w hH;have k9:=hA;simp [Region.binds] at k9;have hG:=hH.glob.early (RV.ny hH (RV.wt (j:=14) (i:=12) hWA (by kernel_rfl)) hl);exact ⟨53,#[.pointer (some ⟨fb,fo,none⟩),.agg #[J Jk b.p.x,J Jk b.p.y,J Jk b.p.z],.agg #[J Jk ((Jbz jm (Jb0 b.m n)).x),J Jk ((Jbz jm (Jb0 b.m n)).y),J Jk ((Jbz jm (Jb0 b.m n)).z)]],by simp [go_sem,h9,k9],Calls.mono (Ji3 fb fo _ b.p (Jbz jm (Jb0 b.m n)) w hG.cell hG.frozen) (by rintro e w2 ⟨rfl,ha⟩;exact ⟨_,rfl,rfl,fun j v _ h=>h.keep _,FGS.come hG (by decide) (RV.ny hH (RV.wt (j:=14) (i:=12) hWA (by kernel_rfl)) hl) hl rfl ha.out⟩)⟩)) ?_
  (refine RV.cc _ (RV.pu T (fun γ v L w hl h=>h.stay (by decide) rfl) (fun γ L a w hH hl h9 k9=>⟨_,?_,rfl⟩)) ?_;· simp [execOp,go_sem,h9])
  refine RV.cc _ (RV.does_store (fun γ L a w hH hl hA=>by have h9:=T γ L a w hH;have k9:=hA;simp [Region.binds] at k9;have hG:=hH.glob.early hl;have z0:=hG.at (Cb 8 _ rfl).1 nb;have zf0:=hG.open (Cb 8 _ rfl).1 (Cb 8 _ rfl).2 nb;have z1:=hG.at (Cb 9 _ rfl).1 nb;have zf1:=hG.open (Cb 9 _ rfl).1 (Cb 9 _ rfl).2 nb;have z2:=hG.at (Cb 10 _ rfl).1 nb;have zf2:=hG.open (Cb 10 _ rfl).1 (Cb 10 _ rfl).2 nb;exact ⟨(((w.setCell ⟨pb,8,none⟩ (J Jk ((Jah b.p (Jbz jm (Jb0 b.m n))).x))).setCell ⟨pb,9,none⟩ (J Jk ((Jah b.p (Jbz jm (Jb0 b.m n))).y))).setCell ⟨pb,10,none⟩ (J Jk ((Jah b.p (Jbz jm (Jb0 b.m n))).z))),by simp [execOp,go_sem,z0,zf0,z1,zf1,z2,zf2,h9,k9],trivial,fun j v _ h=>h.keep _,FGS.store (S:=fun w=>(((w.setCell ⟨pb,8,none⟩ (J Jk ((Jah b.p (Jbz jm (Jb0 b.m n))).x))).setCell ⟨pb,9,none⟩ (J Jk ((Jah b.p (Jbz jm (Jb0 b.m n))).y))).setCell ⟨pb,10,none⟩ (J Jk ((Jah b.p (Jbz jm (Jb0 b.m n))).z)))) hG rfl⟩)) ?_
  exact RV.AllDo.nil
 ·intro γ w5 L9 hL hI9 hG9
  obtain ⟨w8,hF8,rfl⟩:=hG9.late (hL 14 (by decide))
  have hFL:orL f [(10,Jhx b.m n),(11,Jfh jm (Jb0 b.m n)),(12,Jck b.p (Jbz jm (Jb0 b.m n)))] L9 = (f || (Jhx b.m n || Jfh jm (Jb0 b.m n) || Jck b.p (Jbz jm (Jb0 b.m n)))):=by unfold orL;simp only [List.any_cons,List.any_nil,hL 10 (by decide),hL 11 (by decide),hL 12 (by decide),Bool.true_and,Bool.or_false,Bool.or_assoc]
  have HA8:Hid (After _ _ _ _):=hF8.leaves.done hF8.cell hF8.frozen
  rw [hFL] at HA8
  clear hF8 hFL
  clear hL hI9 hG9
  simp only [RV.putL,Act.put,List.setIfInBounds_toArray,List.set_cons_zero,List.set_cons_succ]
  have HS:Hid (Clo _ _ _ _ _ _):=HS.out.same HA8.out nb
  clear HA8
  go_wp2_with (fail)
  go_end0
  have h9:=HS.out.set3 nb 8 (J Jk (Jah b.p (Jbz jm (Jb0 b.m n))).x) (J Jk (Jah b.p (Jbz jm (Jb0 b.m n))).y) (J Jk (Jah b.p (Jbz jm (Jb0 b.m n))).z) (Jfi hR (by decide))
  rw [Bool.or_assoc (Jhx b.m n)] at h9
  exact ⟨rfl,h9⟩
end
section
open Go.RowKit Go.Shelf Fx
theorem Jqo (fb fo:Nat) (f:Bool) (b:Bd) (R:List Value) (pv:Value) (Ls:List Pt) (jm:V3) (hR:RestP R pv) (W:World) (hc:W.cell? ⟨fb,fo,none⟩ = some (.bool f)) (hf:W.frozen? ⟨fb,fo,none⟩ = false) (hv:Lies W pv Ls) (hl:Ls.length <= 100000) :
  Calls Tryz.prog 30 #[.pointer (some ⟨fb,fo,none⟩),.agg (b.L R).toArray,jm.val] W fun e W'=>∃ u,e = .returned (.agg ((ifB b (Jcw b jm)).L (R.set 5 u)).toArray)/\Hid (After ⟨fb,fo,none⟩ (f || Jan b.k (Jck b.l jm)) W W')/\Hid (W'.ownsRow W.heap.size 23 3 u Ls.length (fl3 Ls)):=by
 have hbW:fb < W.heap.size:=World.block_lt_of_cell? _ _ hc
 have hz:Hid _:=Jp hR.rest b
 obtain ⟨V,hV⟩:∃ V,V = ((((W.alloc (.cells #[.pointer (some ⟨fb,fo,none⟩)] 45)).alloc (.cells (b.L R).toArray 39)).alloc (.cells #[J Jk jm.x,J Jk jm.y,J Jk jm.z] 27)).alloc (.cells #[J Jk 0,J Jk 0,J Jk 0,J Jk 0,J Jk 0,J Jk 0,J Jk 0,J Jk 0,J Jk 0,J Jk 0,J Jk 0,J Jk 0,J Jk 0,J Jk 0,J Jk 0,J Jk 0,J Jk 0,J Jk 0,J Jk 0,J Jk 0,J Jk 0,J Jk 0,J Jk 0,.slice none 0 0,J Jk 0,J Jk 0,J Jk 0,.bool false,J Jk 0,.bool false,.bool false] 39)):=⟨_,rfl⟩
 have hb0:=Jb W (.cells #[.pointer (some ⟨fb,fo,none⟩)] 45)
 have hb1:=Jb (W.alloc (.cells #[.pointer (some ⟨fb,fo,none⟩)] 45)) (.cells (b.L R).toArray 39)
 have hb2:=Jb ((W.alloc (.cells #[.pointer (some ⟨fb,fo,none⟩)] 45)).alloc (.cells (b.L R).toArray 39)) (.cells #[J Jk jm.x,J Jk jm.y,J Jk jm.z] 27)
 have hb3:=Jb (((W.alloc (.cells #[.pointer (some ⟨fb,fo,none⟩)] 45)).alloc (.cells (b.L R).toArray 39)).alloc (.cells #[J Jk jm.x,J Jk jm.y,J Jk jm.z] 27)) (.cells #[J Jk 0,J Jk 0,J Jk 0,J Jk 0,J Jk 0,J Jk 0,J Jk 0,J Jk 0,J Jk 0,J Jk 0,J Jk 0,J Jk 0,J Jk 0,J Jk 0,J Jk 0,J Jk 0,J Jk 0,J Jk 0,J Jk 0,J Jk 0,J Jk 0,J Jk 0,J Jk 0,.slice none 0 0,J Jk 0,J Jk 0,J Jk 0,.bool false,J Jk 0,.bool false,.bool false] 39)
 have Cw:CW V (W.heap.size) [.pointer (some ⟨fb,fo,none⟩)]:=by
  have h9:=(((CW.new W [.pointer (some ⟨fb,fo,none⟩)] 45).step hb1).step hb2).step hb3
  rw [hV];exact h9
 have Cb:CW V (W.heap.size + 1) (b.L R):=by
  have h9:=((CW.new (W.alloc (.cells #[.pointer (some ⟨fb,fo,none⟩)] 45)) (b.L R) 39).step hb2).step hb3
  simp only [World.size_alloc] at h9
  rw [hV];exact h9
 have Cj:CW V (W.heap.size + 1 + 1) [J Jk jm.x,J Jk jm.y,J Jk jm.z]:=by
  have h9:=(CW.new ((W.alloc (.cells #[.pointer (some ⟨fb,fo,none⟩)] 45)).alloc (.cells (b.L R).toArray 39)) [J Jk jm.x,J Jk jm.y,J Jk jm.z] 27).step hb3
  simp only [World.size_alloc] at h9
  rw [hV];exact h9
 have Cr:CW V (W.heap.size + 1 + 1 + 1) [J Jk 0,J Jk 0,J Jk 0,J Jk 0,J Jk 0,J Jk 0,J Jk 0,J Jk 0,J Jk 0,J Jk 0,J Jk 0,J Jk 0,J Jk 0,J Jk 0,J Jk 0,J Jk 0,J Jk 0,J Jk 0,J Jk 0,J Jk 0,J Jk 0,J Jk 0,J Jk 0,.slice none 0 0,J Jk 0,J Jk 0,J Jk 0,.bool false,J Jk 0,.bool false,.bool false]:=by
  have h9:=CW.new (((W.alloc (.cells #[.pointer (some ⟨fb,fo,none⟩)] 45)).alloc (.cells (b.L R).toArray 39)).alloc (.cells #[J Jk jm.x,J Jk jm.y,J Jk jm.z] 27)) [J Jk 0,J Jk 0,J Jk 0,J Jk 0,J Jk 0,J Jk 0,J Jk 0,J Jk 0,J Jk 0,J Jk 0,J Jk 0,J Jk 0,J Jk 0,J Jk 0,J Jk 0,J Jk 0,J Jk 0,J Jk 0,J Jk 0,J Jk 0,J Jk 0,J Jk 0,J Jk 0,.slice none 0 0,J Jk 0,J Jk 0,J Jk 0,.bool false,J Jk 0,.bool false,.bool false] 39
  simp only [World.size_alloc] at h9
  rw [hV];exact h9
 have hB:Below W.heap.size W V:=by rw [hV];exact (Jd (Jd (Jd hb0 hb1) hb2) hb3)
 have hcV:=Ja hB hc
 have hfV:=Jq hB hc hf
 have HLV:Hid (Leaves ⟨fb,fo,none⟩ W V):=(Leaves.refl _ _).step hB
 clear hb0 hb1 hb2 hb3
 have hWV:W.heap.size <= V.heap.size:=hB.size
 have HCP:Hid _:=Jdu b R pv Ls hR V (hv.below hB) hl
 clear hc hf hv hB
 go_enter Tryz.func30,Tryz.ntmps30
 go_upto_region 1 with fail
 rw [<- hV]
 clear hV
 obtain ⟨pr,hpr⟩:∃ p,p = W.heap.size + 1 + 1 + 1:=⟨_,rfl⟩
 obtain ⟨pj,hpj⟩:∃ p,p = W.heap.size + 1 + 1:=⟨_,rfl⟩
 obtain ⟨pb,hpb⟩:∃ p,p = W.heap.size + 1:=⟨_,rfl⟩
 obtain ⟨pw,hpw⟩:∃ p,p = W.heap.size:=⟨_,rfl⟩
 rw [<- hpr] at Cr
 rw [<- hpj] at Cj
 rw [<- hpb] at Cb
 rw [<- hpw] at Cw
 rw [<- hpr,<- hpj,<- hpb,<- hpw]
 have nw:pw ≠ fb:=by omega
 have nb:pb ≠ fb:=by omega
 have nj:pj ≠ fb:=by omega
 have nr:pr ≠ fb:=by omega
 have bw:pw ≠ pb:=by omega
 have bj:pj ≠ pb:=by omega
 have br:pr ≠ pb:=by omega
 have nr':fb ≠ pr:=by omega
 have nb':fb ≠ pb:=by omega
 have hWb:W.heap.size <= pb:=by omega
 have hWr:W.heap.size <= pr:=by omega
 have hbV:pb < V.heap.size:=Cb.lt
 have hrV:pr < V.heap.size:=Cr.lt
 have hZl:([J Jk 0,J Jk 0,J Jk 0,J Jk 0,J Jk 0,J Jk 0,J Jk 0,J Jk 0,J Jk 0,J Jk 0,J Jk 0,J Jk 0,J Jk 0,J Jk 0,J Jk 0,J Jk 0,J Jk 0,J Jk 0,J Jk 0,J Jk 0,J Jk 0,J Jk 0,J Jk 0,.slice none 0 0,J Jk 0,J Jk 0,J Jk 0,.bool false,J Jk 0,.bool false,.bool false]:List Value).length = 31:=rfl
 generalize ([J Jk 0,J Jk 0,J Jk 0,J Jk 0,J Jk 0,J Jk 0,J Jk 0,J Jk 0,J Jk 0,J Jk 0,J Jk 0,J Jk 0,J Jk 0,J Jk 0,J Jk 0,J Jk 0,J Jk 0,J Jk 0,J Jk 0,J Jk 0,J Jk 0,J Jk 0,J Jk 0,.slice none 0 0,J Jk 0,J Jk 0,J Jk 0,.bool false,J Jk 0,.bool false,.bool false]:List Value) = zl at *
 have HRG:Hid (World.rangeAt V pb 0 (b.L R)):=Cb.range
 clear hpw hpb hpj hpr
 go_wp2_with (refine wpList_load_mid rfl 39 _ rfl pb 0 rfl _ _ HRG.out Tryz.underlying39 rfl hz.out ?_)
 refine Calls.mono HCP.out ?_
 rintro e W1 ⟨u,rfl,HR⟩
 have hR2:=hR.set (Jam HR.out.row)
 have hb1:=HR.out.below
 have Cw:=Cw.step hb1
 have Cb:=Cb.step hb1
 have Cj:=Cj.step hb1
 have Cr:=Cr.step hb1
 have HL1:=HLV.out.step (hb1.mono HLV.out.size)
 have hc1:=Ja hb1 hcV
 have hf1:=Jq hb1 hcV hfV
 have nub:u.ownBlock ≠ some pb:=fun e=>by have:=(HR.out.row.lt _ e).1;omega
 have nuf:u.ownBlock ≠ some fb:=fun e=>by have:=(HR.out.row.lt _ e).1;omega
 have nur:u.ownBlock ≠ some pr:=fun e=>by have:=(HR.out.row.lt _ e).1;omega
 have HO2:Hid _:=Jat (Go.Joins.ownsRow_le HR.out.row hWV) nub (b.L (R.set 5 u)) 0
 have HTH:Hid (World.there W1 pb 0 (b.L (R.set 5 u)).toArray.size):=Cb.thereB hR.rest hR2.rest
 have hz2:Hid _:=Jp hR2.rest b
 have hy2:Hid _:=J1 hR2.rest b
 have h12:Hid _:=hR2.rest.each b
 have Cb:=Cb.sets (us:=b.L (R.set 5 u)) (by rw [hR.rest.all,hR2.rest.all])
 have Cw:=Cw.apart (us:=b.L (R.set 5 u)) bw
 have Cj:=Cj.apart (us:=b.L (R.set 5 u)) bj
 have Cr:=Cr.apart (us:=b.L (R.set 5 u)) br
 have HL2:Hid (Leaves ⟨fb,fo,none⟩ W (W1.setCells pb 0 (b.L (R.set 5 u)))):=HL1.sets hWb _
 have hc2:=(Ja3 (w:=W1) (vs:=b.L (R.set 5 u)) nb').trans hc1
 have hf2:=(World.frozen?_setCells pb (b.L (R.set 5 u)) 0 W1 ⟨fb,fo,none⟩).trans hf1
 have HRG2:Hid (World.rangeAt (W1.setCells pb 0 (b.L (R.set 5 u))) pb 0 (b.L (R.set 5 u))):=Cb.range
 clear HCP HRG hcV hfV HLV HL1 hc1 hf1 hb1 HR
 by_cases hk:b.k = 2
 ·have HC:Hid _:=Je4 b (R.set 5 u) hk 76 #[.pointer (some ⟨pw,0,none⟩),.pointer (some ⟨pb,0,none⟩),.pointer (some ⟨pj,0,none⟩)] (enters_of Tryz.func76 (by kernel_rfl) rfl) (fun X=>Hid (Clo ⟨fb,fo,none⟩ (f || Jck b.l jm) pb ((Jcw b jm).L (R.set 5 u)) ((W1.setCells pb 0 (b.L (R.set 5 u))).alloc (.cells (b.L (R.set 5 u)).toArray 39)) X)) (W1.setCells pb 0 (b.L (R.set 5 u)))
   (Jn6 fb fo pw pb pj f b (R.set 5 u) jm hR2.rest ((W1.setCells pb 0 (b.L (R.set 5 u))).alloc (.cells (b.L (R.set 5 u)).toArray 39)) (Ja (Jb _ _) hc2) (Jq (Jb _ _) hc2 hf2) (Cw.step (Jb _ _)) (Cb.step (Jb _ _)) (Cj.step (Jb _ _)) nb)
  have HRR:Hid (CW _ _ _):=Cr
  clear Cw Cb Cj Cr
  go_wp2_with (first | refine wpList_store_mid rfl 39 _ _ rfl pb 0 _ rfl rfl HTH.out hy2.out h12.out ?_ | refine wpList_load_mid rfl 39 _ rfl pb 0 rfl _ _ HRG2.out Tryz.underlying39 rfl hz2.out ?_)
  refine Calls.mono HC.out ?_
  rintro e W3 ⟨rfl,HK⟩
  have HL3:Hid (Leaves ⟨fb,fo,none⟩ W W3):=(HL2.out.step ((Jb (W1.setCells pb 0 (b.L (R.set 5 u))) _).mono HL2.out.size)).two HK.out.two hbW hWb
  have hc3:=HK.out.cell
  have hf3:=HK.out.frozen
  have Cb3:=HK.out.cw
  have Cr3:=(HRR.out.step (Jb _ _)).two HK.out.two nr br
  have HO3:Hid _:=Jhb (Js HO2.out (Jb _ _)) HK.out.two nuf nub
  clear HC HK HRG2 HTH hc2 hf2 HO2 HL2 HRR
  have hz3:Hid _:=Jp hR2.rest ((Jcw b jm))
  have hy3:Hid _:=J1 hR2.rest ((Jcw b jm))
  have h13:Hid _:=hR2.rest.each ((Jcw b jm))
  have HRG3:Hid (World.rangeAt W3 pb 0 (((Jcw b jm)).L (R.set 5 u))):=Cb3.range
  have HTH3:Hid (World.there W3 pr 0 (((Jcw b jm)).L (R.set 5 u)).toArray.size):=Cr3.there31 hZl hR2.rest
  have HX3:Hid _:=(Cr3.sets (us:=((Jcw b jm)).L (R.set 5 u)) (by rw [hR2.rest.all,hZl])).range
  have HL4:Hid (Leaves ⟨fb,fo,none⟩ W (W3.setCells pr 0 (((Jcw b jm)).L (R.set 5 u)))):=HL3.out.sets hWr _
  have hc4:Hid _:=(Ja3 (w:=W3) (vs:=((Jcw b jm)).L (R.set 5 u)) nr').trans hc3
  have hf4:Hid _:=(World.frozen?_setCells pr (((Jcw b jm)).L (R.set 5 u)) 0 W3 ⟨fb,fo,none⟩).trans hf3
  have HO4:Hid _:=Jat HO3.out nur (((Jcw b jm)).L (R.set 5 u)) 0
  generalize hcs:((Jcw b jm)).L (R.set 5 u) = cs at *
  have HCS:Hid _:=hcs
  clear hcs Cb3 Cr3 HL3 HO3 hc3 hf3
  go_wp2_with (first | refine wpList_load_mid rfl 39 _ rfl pb 0 rfl _ _ HRG3.out Tryz.underlying39 rfl hz3.out ?_ | refine wpList_store_mid rfl 39 _ _ rfl pr 0 _ rfl rfl HTH3.out hy3.out h13.out ?_)
  refine bodyPost_ret (Jaz 6 39 Tryz.results30 ⟨pr,0,none⟩ rfl (run_loadVar_mid _ pr 0 39 cs _ HX3.out Tryz.underlying39 rfl hz3.out)) rfl ?_
  refine ⟨u,by rw [<- HCS.out,ifB,if_pos hk],?_,HO4⟩
  rw [Jan,if_pos hk]
  exact HL4.out.done hc4.out hf4.out
 ·have HC:Hid _:=Jgw b (R.set 5 u) (.func (.func 76) #[] #[.pointer (some ⟨pw,0,none⟩),.pointer (some ⟨pb,0,none⟩),.pointer (some ⟨pj,0,none⟩)]) hk (W1.setCells pb 0 (b.L (R.set 5 u)))
  have HRR:Hid (CW _ _ _):=Cr
  have HBB:Hid (CW _ _ _):=Cb
  clear Cw Cb Cj Cr
  go_wp2_with (first | refine wpList_store_mid rfl 39 _ _ rfl pb 0 _ rfl rfl HTH.out hy2.out h12.out ?_ | refine wpList_load_mid rfl 39 _ rfl pb 0 rfl _ _ HRG2.out Tryz.underlying39 rfl hz2.out ?_)
  refine Calls.mono HC.out ?_
  rintro e W3 ⟨rfl,HK⟩
  have HL3:Hid (Leaves ⟨fb,fo,none⟩ W W3):=HL2.out.step (HK.out.mono HL2.out.size)
  have hc3:=Ja HK.out hc2
  have hf3:=Jq HK.out hc2 hf2
  have Cb3:=HBB.out.step HK.out
  have Cr3:=HRR.out.step HK.out
  have HO3:Hid _:=Js HO2.out HK.out
  clear HC HK HRG2 HTH hc2 hf2 HO2 HL2 HRR HBB
  have hz3:Hid _:=Jp hR2.rest (b)
  have hy3:Hid _:=J1 hR2.rest (b)
  have h13:Hid _:=hR2.rest.each (b)
  have HRG3:Hid (World.rangeAt W3 pb 0 ((b).L (R.set 5 u))):=Cb3.range
  have HTH3:Hid (World.there W3 pr 0 ((b).L (R.set 5 u)).toArray.size):=Cr3.there31 hZl hR2.rest
  have HX3:Hid _:=(Cr3.sets (us:=(b).L (R.set 5 u)) (by rw [hR2.rest.all,hZl])).range
  have HL4:Hid (Leaves ⟨fb,fo,none⟩ W (W3.setCells pr 0 ((b).L (R.set 5 u)))):=HL3.out.sets hWr _
  have hc4:Hid _:=(Ja3 (w:=W3) (vs:=(b).L (R.set 5 u)) nr').trans hc3
  have hf4:Hid _:=(World.frozen?_setCells pr ((b).L (R.set 5 u)) 0 W3 ⟨fb,fo,none⟩).trans hf3
  have HO4:Hid _:=Jat HO3.out nur ((b).L (R.set 5 u)) 0
  generalize hcs:(b).L (R.set 5 u) = cs at *
  have HCS:Hid _:=hcs
  clear hcs Cb3 Cr3 HL3 HO3 hc3 hf3
  go_wp2_with (first | refine wpList_load_mid rfl 39 _ rfl pb 0 rfl _ _ HRG3.out Tryz.underlying39 rfl hz3.out ?_ | refine wpList_store_mid rfl 39 _ _ rfl pr 0 _ rfl rfl HTH3.out hy3.out h13.out ?_)
  refine bodyPost_ret (Jaz 6 39 Tryz.results30 ⟨pr,0,none⟩ rfl (run_loadVar_mid _ pr 0 39 cs _ HX3.out Tryz.underlying39 rfl hz3.out)) rfl ?_
  refine ⟨u,by rw [<- HCS.out,ifB,if_neg hk],?_,HO4⟩
  rw [Jan,if_neg hk,Bool.or_false]
  exact HL4.out.done hc4.out hf4.out
theorem Jsg (fb fo:Nat) (f:Bool) (b:Bd) (R:List Value) (pv:Value) (Ls:List Pt) (jm:V3) (n:Int) (hR:RestP R pv) (W:World) (hc:W.cell? ⟨fb,fo,none⟩ = some (.bool f)) (hf:W.frozen? ⟨fb,fo,none⟩ = false) (hv:Lies W pv Ls) (hl:Ls.length <= 100000) :
  Calls Tryz.prog 29 #[.pointer (some ⟨fb,fo,none⟩),.agg (b.L R).toArray,jm.val,J Jk n] W fun e W'=>∃ u,e = .returned (.agg ((ifB b (Jcv b jm n)).L (R.set 5 u)).toArray)/\Hid (After ⟨fb,fo,none⟩ (f || Jan b.k (Jkk b jm n)) W W')/\Hid (W'.ownsRow W.heap.size 23 3 u Ls.length (fl3 Ls)):=by
 have hbW:fb < W.heap.size:=World.block_lt_of_cell? _ _ hc
 have hz:Hid _:=Jp hR.rest b
 obtain ⟨V,hV⟩:∃ V,V = (((((W.alloc (.cells #[.pointer (some ⟨fb,fo,none⟩)] 45)).alloc (.cells (b.L R).toArray 39)).alloc (.cells #[J Jk jm.x,J Jk jm.y,J Jk jm.z] 27)).alloc (.cells #[J Jk n] 3)).alloc (.cells #[J Jk 0,J Jk 0,J Jk 0,J Jk 0,J Jk 0,J Jk 0,J Jk 0,J Jk 0,J Jk 0,J Jk 0,J Jk 0,J Jk 0,J Jk 0,J Jk 0,J Jk 0,J Jk 0,J Jk 0,J Jk 0,J Jk 0,J Jk 0,J Jk 0,J Jk 0,J Jk 0,.slice none 0 0,J Jk 0,J Jk 0,J Jk 0,.bool false,J Jk 0,.bool false,.bool false] 39)):=⟨_,rfl⟩
 have hb0:=Jb W (.cells #[.pointer (some ⟨fb,fo,none⟩)] 45)
 have hb1:=Jb (W.alloc (.cells #[.pointer (some ⟨fb,fo,none⟩)] 45)) (.cells (b.L R).toArray 39)
 have hb2:=Jb ((W.alloc (.cells #[.pointer (some ⟨fb,fo,none⟩)] 45)).alloc (.cells (b.L R).toArray 39)) (.cells #[J Jk jm.x,J Jk jm.y,J Jk jm.z] 27)
 have hb3:=Jb (((W.alloc (.cells #[.pointer (some ⟨fb,fo,none⟩)] 45)).alloc (.cells (b.L R).toArray 39)).alloc (.cells #[J Jk jm.x,J Jk jm.y,J Jk jm.z] 27)) (.cells #[J Jk n] 3)
 have hb4:=Jb ((((W.alloc (.cells #[.pointer (some ⟨fb,fo,none⟩)] 45)).alloc (.cells (b.L R).toArray 39)).alloc (.cells #[J Jk jm.x,J Jk jm.y,J Jk jm.z] 27)).alloc (.cells #[J Jk n] 3)) (.cells #[J Jk 0,J Jk 0,J Jk 0,J Jk 0,J Jk 0,J Jk 0,J Jk 0,J Jk 0,J Jk 0,J Jk 0,J Jk 0,J Jk 0,J Jk 0,J Jk 0,J Jk 0,J Jk 0,J Jk 0,J Jk 0,J Jk 0,J Jk 0,J Jk 0,J Jk 0,J Jk 0,.slice none 0 0,J Jk 0,J Jk 0,J Jk 0,.bool false,J Jk 0,.bool false,.bool false] 39)
 have Cw:CW V (W.heap.size) [.pointer (some ⟨fb,fo,none⟩)]:=by
  have h9:=((((CW.new W [.pointer (some ⟨fb,fo,none⟩)] 45).step hb1).step hb2).step hb3).step hb4
  rw [hV];exact h9
 have Cb:CW V (W.heap.size + 1) (b.L R):=by
  have h9:=(((CW.new (W.alloc (.cells #[.pointer (some ⟨fb,fo,none⟩)] 45)) (b.L R) 39).step hb2).step hb3).step hb4
  simp only [World.size_alloc] at h9
  rw [hV];exact h9
 have Cj:CW V (W.heap.size + 1 + 1) [J Jk jm.x,J Jk jm.y,J Jk jm.z]:=by
  have h9:=((CW.new ((W.alloc (.cells #[.pointer (some ⟨fb,fo,none⟩)] 45)).alloc (.cells (b.L R).toArray 39)) [J Jk jm.x,J Jk jm.y,J Jk jm.z] 27).step hb3).step hb4
  simp only [World.size_alloc] at h9
  rw [hV];exact h9
 have Cn:CW V (W.heap.size + 1 + 1 + 1) [J Jk n]:=by
  have h9:=(CW.new (((W.alloc (.cells #[.pointer (some ⟨fb,fo,none⟩)] 45)).alloc (.cells (b.L R).toArray 39)).alloc (.cells #[J Jk jm.x,J Jk jm.y,J Jk jm.z] 27)) [J Jk n] 3).step hb4
  simp only [World.size_alloc] at h9
  rw [hV];exact h9
 have Cr:CW V (W.heap.size + 1 + 1 + 1 + 1) [J Jk 0,J Jk 0,J Jk 0,J Jk 0,J Jk 0,J Jk 0,J Jk 0,J Jk 0,J Jk 0,J Jk 0,J Jk 0,J Jk 0,J Jk 0,J Jk 0,J Jk 0,J Jk 0,J Jk 0,J Jk 0,J Jk 0,J Jk 0,J Jk 0,J Jk 0,J Jk 0,.slice none 0 0,J Jk 0,J Jk 0,J Jk 0,.bool false,J Jk 0,.bool false,.bool false]:=by
  have h9:=CW.new ((((W.alloc (.cells #[.pointer (some ⟨fb,fo,none⟩)] 45)).alloc (.cells (b.L R).toArray 39)).alloc (.cells #[J Jk jm.x,J Jk jm.y,J Jk jm.z] 27)).alloc (.cells #[J Jk n] 3)) [J Jk 0,J Jk 0,J Jk 0,J Jk 0,J Jk 0,J Jk 0,J Jk 0,J Jk 0,J Jk 0,J Jk 0,J Jk 0,J Jk 0,J Jk 0,J Jk 0,J Jk 0,J Jk 0,J Jk 0,J Jk 0,J Jk 0,J Jk 0,J Jk 0,J Jk 0,J Jk 0,.slice none 0 0,J Jk 0,J Jk 0,J Jk 0,.bool false,J Jk 0,.bool false,.bool false] 39
  simp only [World.size_alloc] at h9
  rw [hV];exact h9
 have hB:Below W.heap.size W V:=by rw [hV];exact (Jd (Jd (Jd (Jd hb0 hb1) hb2) hb3) hb4)
 have hcV:=Ja hB hc
 have hfV:=Jq hB hc hf
 have HLV:Hid (Leaves ⟨fb,fo,none⟩ W V):=(Leaves.refl _ _).step hB
 clear hb0 hb1 hb2 hb3 hb4
 have hWV:W.heap.size <= V.heap.size:=hB.size
 have HCP:Hid _:=Jdu b R pv Ls hR V (hv.below hB) hl
 clear hc hf hv hB
 go_enter Tryz.func29,Tryz.ntmps29
 go_upto_region 1 with fail
 rw [<- hV]
 clear hV
 obtain ⟨pr,hpr⟩:∃ p,p = W.heap.size + 1 + 1 + 1 + 1:=⟨_,rfl⟩
 obtain ⟨pn,hpn⟩:∃ p,p = W.heap.size + 1 + 1 + 1:=⟨_,rfl⟩
 obtain ⟨pj,hpj⟩:∃ p,p = W.heap.size + 1 + 1:=⟨_,rfl⟩
 obtain ⟨pb,hpb⟩:∃ p,p = W.heap.size + 1:=⟨_,rfl⟩
 obtain ⟨pw,hpw⟩:∃ p,p = W.heap.size:=⟨_,rfl⟩
 rw [<- hpr] at Cr
 rw [<- hpn] at Cn
 rw [<- hpj] at Cj
 rw [<- hpb] at Cb
 rw [<- hpw] at Cw
 rw [<- hpr,<- hpn,<- hpj,<- hpb,<- hpw]
 have nw:pw ≠ fb:=by omega
 have nb:pb ≠ fb:=by omega
 have nj:pj ≠ fb:=by omega
 have nn:pn ≠ fb:=by omega
 have nr:pr ≠ fb:=by omega
 have bw:pw ≠ pb:=by omega
 have bj:pj ≠ pb:=by omega
 have bn:pn ≠ pb:=by omega
 have br:pr ≠ pb:=by omega
 have nr':fb ≠ pr:=by omega
 have nb':fb ≠ pb:=by omega
 have hWb:W.heap.size <= pb:=by omega
 have hWr:W.heap.size <= pr:=by omega
 have hbV:pb < V.heap.size:=Cb.lt
 have hrV:pr < V.heap.size:=Cr.lt
 have hZl:([J Jk 0,J Jk 0,J Jk 0,J Jk 0,J Jk 0,J Jk 0,J Jk 0,J Jk 0,J Jk 0,J Jk 0,J Jk 0,J Jk 0,J Jk 0,J Jk 0,J Jk 0,J Jk 0,J Jk 0,J Jk 0,J Jk 0,J Jk 0,J Jk 0,J Jk 0,J Jk 0,.slice none 0 0,J Jk 0,J Jk 0,J Jk 0,.bool false,J Jk 0,.bool false,.bool false]:List Value).length = 31:=rfl
 generalize ([J Jk 0,J Jk 0,J Jk 0,J Jk 0,J Jk 0,J Jk 0,J Jk 0,J Jk 0,J Jk 0,J Jk 0,J Jk 0,J Jk 0,J Jk 0,J Jk 0,J Jk 0,J Jk 0,J Jk 0,J Jk 0,J Jk 0,J Jk 0,J Jk 0,J Jk 0,J Jk 0,.slice none 0 0,J Jk 0,J Jk 0,J Jk 0,.bool false,J Jk 0,.bool false,.bool false]:List Value) = zl at *
 have HRG:Hid (World.rangeAt V pb 0 (b.L R)):=Cb.range
 clear hpw hpb hpj hpn hpr
 go_wp2_with (refine wpList_load_mid rfl 39 _ rfl pb 0 rfl _ _ HRG.out Tryz.underlying39 rfl hz.out ?_)
 refine Calls.mono HCP.out ?_
 rintro e W1 ⟨u,rfl,HR⟩
 have hR2:=hR.set (Jam HR.out.row)
 have hb1:=HR.out.below
 have Cw:=Cw.step hb1
 have Cb:=Cb.step hb1
 have Cj:=Cj.step hb1
 have Cn:=Cn.step hb1
 have Cr:=Cr.step hb1
 have HL1:=HLV.out.step (hb1.mono HLV.out.size)
 have hc1:=Ja hb1 hcV
 have hf1:=Jq hb1 hcV hfV
 have nub:u.ownBlock ≠ some pb:=fun e=>by have:=(HR.out.row.lt _ e).1;omega
 have nuf:u.ownBlock ≠ some fb:=fun e=>by have:=(HR.out.row.lt _ e).1;omega
 have nur:u.ownBlock ≠ some pr:=fun e=>by have:=(HR.out.row.lt _ e).1;omega
 have HO2:Hid _:=Jat (Go.Joins.ownsRow_le HR.out.row hWV) nub (b.L (R.set 5 u)) 0
 have HTH:Hid (World.there W1 pb 0 (b.L (R.set 5 u)).toArray.size):=Cb.thereB hR.rest hR2.rest
 have hz2:Hid _:=Jp hR2.rest b
 have hy2:Hid _:=J1 hR2.rest b
 have h12:Hid _:=hR2.rest.each b
 have Cb:=Cb.sets (us:=b.L (R.set 5 u)) (by rw [hR.rest.all,hR2.rest.all])
 have Cw:=Cw.apart (us:=b.L (R.set 5 u)) bw
 have Cj:=Cj.apart (us:=b.L (R.set 5 u)) bj
 have Cn:=Cn.apart (us:=b.L (R.set 5 u)) bn
 have Cr:=Cr.apart (us:=b.L (R.set 5 u)) br
 have HL2:Hid (Leaves ⟨fb,fo,none⟩ W (W1.setCells pb 0 (b.L (R.set 5 u)))):=HL1.sets hWb _
 have hc2:=(Ja3 (w:=W1) (vs:=b.L (R.set 5 u)) nb').trans hc1
 have hf2:=(World.frozen?_setCells pb (b.L (R.set 5 u)) 0 W1 ⟨fb,fo,none⟩).trans hf1
 have HRG2:Hid (World.rangeAt (W1.setCells pb 0 (b.L (R.set 5 u))) pb 0 (b.L (R.set 5 u))):=Cb.range
 clear HCP HRG hcV hfV HLV HL1 hc1 hf1 hb1 HR
 by_cases hk:b.k = 2
 ·have HC:Hid _:=Je4 b (R.set 5 u) hk 74 #[.pointer (some ⟨pw,0,none⟩),.pointer (some ⟨pb,0,none⟩),.pointer (some ⟨pj,0,none⟩),.pointer (some ⟨pn,0,none⟩)] (enters_of Tryz.func74 (by kernel_rfl) rfl) (fun X=>Hid (Clo ⟨fb,fo,none⟩ (f || Jkk b jm n) pb ((Jcv b jm n).L (R.set 5 u)) ((W1.setCells pb 0 (b.L (R.set 5 u))).alloc (.cells (b.L (R.set 5 u)).toArray 39)) X)) (W1.setCells pb 0 (b.L (R.set 5 u)))
   (Jp4 fb fo pw pb pj pn f b (R.set 5 u) jm n hR2.rest ((W1.setCells pb 0 (b.L (R.set 5 u))).alloc (.cells (b.L (R.set 5 u)).toArray 39)) (Ja (Jb _ _) hc2) (Jq (Jb _ _) hc2 hf2) (Cw.step (Jb _ _)) (Cb.step (Jb _ _)) (Cj.step (Jb _ _)) (Cn.step (Jb _ _)) nw nb nj nn)
  have HRR:Hid (CW _ _ _):=Cr
  clear Cw Cb Cj Cn Cr
  go_wp2_with (first | refine wpList_store_mid rfl 39 _ _ rfl pb 0 _ rfl rfl HTH.out hy2.out h12.out ?_ | refine wpList_load_mid rfl 39 _ rfl pb 0 rfl _ _ HRG2.out Tryz.underlying39 rfl hz2.out ?_)
  refine Calls.mono HC.out ?_
  rintro e W3 ⟨rfl,HK⟩
  have HL3:Hid (Leaves ⟨fb,fo,none⟩ W W3):=(HL2.out.step ((Jb (W1.setCells pb 0 (b.L (R.set 5 u))) _).mono HL2.out.size)).two HK.out.two hbW hWb
  have hc3:=HK.out.cell
  have hf3:=HK.out.frozen
  have Cb3:=HK.out.cw
  have Cr3:=(HRR.out.step (Jb _ _)).two HK.out.two nr br
  have HO3:Hid _:=Jhb (Js HO2.out (Jb _ _)) HK.out.two nuf nub
  clear HC HK HRG2 HTH hc2 hf2 HO2 HL2 HRR
  have hz3:Hid _:=Jp hR2.rest ((Jcv b jm n))
  have hy3:Hid _:=J1 hR2.rest ((Jcv b jm n))
  have h13:Hid _:=hR2.rest.each ((Jcv b jm n))
  have HRG3:Hid (World.rangeAt W3 pb 0 (((Jcv b jm n)).L (R.set 5 u))):=Cb3.range
  have HTH3:Hid (World.there W3 pr 0 (((Jcv b jm n)).L (R.set 5 u)).toArray.size):=Cr3.there31 hZl hR2.rest
  have HX3:Hid _:=(Cr3.sets (us:=((Jcv b jm n)).L (R.set 5 u)) (by rw [hR2.rest.all,hZl])).range
  have HL4:Hid (Leaves ⟨fb,fo,none⟩ W (W3.setCells pr 0 (((Jcv b jm n)).L (R.set 5 u)))):=HL3.out.sets hWr _
  have hc4:Hid _:=(Ja3 (w:=W3) (vs:=((Jcv b jm n)).L (R.set 5 u)) nr').trans hc3
  have hf4:Hid _:=(World.frozen?_setCells pr (((Jcv b jm n)).L (R.set 5 u)) 0 W3 ⟨fb,fo,none⟩).trans hf3
  have HO4:Hid _:=Jat HO3.out nur (((Jcv b jm n)).L (R.set 5 u)) 0
  generalize hcs:((Jcv b jm n)).L (R.set 5 u) = cs at *
  have HCS:Hid _:=hcs
  clear hcs Cb3 Cr3 HL3 HO3 hc3 hf3
  go_wp2_with (first | refine wpList_load_mid rfl 39 _ rfl pb 0 rfl _ _ HRG3.out Tryz.underlying39 rfl hz3.out ?_ | refine wpList_store_mid rfl 39 _ _ rfl pr 0 _ rfl rfl HTH3.out hy3.out h13.out ?_)
  refine bodyPost_ret (Jaz 8 39 Tryz.results29 ⟨pr,0,none⟩ rfl (run_loadVar_mid _ pr 0 39 cs _ HX3.out Tryz.underlying39 rfl hz3.out)) rfl ?_
  refine ⟨u,by rw [<- HCS.out,ifB,if_pos hk],?_,HO4⟩
  rw [Jan,if_pos hk]
  exact HL4.out.done hc4.out hf4.out
 ·have HC:Hid _:=Jgw b (R.set 5 u) (.func (.func 74) #[] #[.pointer (some ⟨pw,0,none⟩),.pointer (some ⟨pb,0,none⟩),.pointer (some ⟨pj,0,none⟩),.pointer (some ⟨pn,0,none⟩)]) hk (W1.setCells pb 0 (b.L (R.set 5 u)))
  have HRR:Hid (CW _ _ _):=Cr
  have HBB:Hid (CW _ _ _):=Cb
  clear Cw Cb Cj Cn Cr
  go_wp2_with (first | refine wpList_store_mid rfl 39 _ _ rfl pb 0 _ rfl rfl HTH.out hy2.out h12.out ?_ | refine wpList_load_mid rfl 39 _ rfl pb 0 rfl _ _ HRG2.out Tryz.underlying39 rfl hz2.out ?_)
  refine Calls.mono HC.out ?_
  rintro e W3 ⟨rfl,HK⟩
  have HL3:Hid (Leaves ⟨fb,fo,none⟩ W W3):=HL2.out.step (HK.out.mono HL2.out.size)
  have hc3:=Ja HK.out hc2
  have hf3:=Jq HK.out hc2 hf2
  have Cb3:=HBB.out.step HK.out
  have Cr3:=HRR.out.step HK.out
  have HO3:Hid _:=Js HO2.out HK.out
  clear HC HK HRG2 HTH hc2 hf2 HO2 HL2 HRR HBB
  have hz3:Hid _:=Jp hR2.rest (b)
  have hy3:Hid _:=J1 hR2.rest (b)
  have h13:Hid _:=hR2.rest.each (b)
  have HRG3:Hid (World.rangeAt W3 pb 0 ((b).L (R.set 5 u))):=Cb3.range
  have HTH3:Hid (World.there W3 pr 0 ((b).L (R.set 5 u)).toArray.size):=Cr3.there31 hZl hR2.rest
  have HX3:Hid _:=(Cr3.sets (us:=(b).L (R.set 5 u)) (by rw [hR2.rest.all,hZl])).range
  have HL4:Hid (Leaves ⟨fb,fo,none⟩ W (W3.setCells pr 0 ((b).L (R.set 5 u)))):=HL3.out.sets hWr _
  have hc4:Hid _:=(Ja3 (w:=W3) (vs:=(b).L (R.set 5 u)) nr').trans hc3
  have hf4:Hid _:=(World.frozen?_setCells pr ((b).L (R.set 5 u)) 0 W3 ⟨fb,fo,none⟩).trans hf3
  have HO4:Hid _:=Jat HO3.out nur ((b).L (R.set 5 u)) 0
  generalize hcs:(b).L (R.set 5 u) = cs at *
  have HCS:Hid _:=hcs
  clear hcs Cb3 Cr3 HL3 HO3 hc3 hf3
  go_wp2_with (first | refine wpList_load_mid rfl 39 _ rfl pb 0 rfl _ _ HRG3.out Tryz.underlying39 rfl hz3.out ?_ | refine wpList_store_mid rfl 39 _ _ rfl pr 0 _ rfl rfl HTH3.out hy3.out h13.out ?_)
  refine bodyPost_ret (Jaz 8 39 Tryz.results29 ⟨pr,0,none⟩ rfl (run_loadVar_mid _ pr 0 39 cs _ HX3.out Tryz.underlying39 rfl hz3.out)) rfl ?_
  refine ⟨u,by rw [<- HCS.out,ifB,if_neg hk],?_,HO4⟩
  rw [Jan,if_neg hk,Bool.or_false]
  exact HL4.out.done hc4.out hf4.out
end
section
open Go.ChangeShapes Go.WideShapes Go.Deep Go.Joins
section
variable {H:Type} {enc:TypeId × Value->H} {w:World} {base:Nat} {spare:Nat->Bool} {held:Bool}
theorem Jrg {cs:Array Value} (h:cs.size = 3):∃ u0 u1 u2,cs = #[u0,u1,u2]:=by
 obtain ⟨l⟩:=cs
 match l,h with
 | [a,b,c],_=>exact ⟨a,b,c,rfl⟩
end
end
section
open Fx
theorem Jgh {x y:Int} (hx:-1152921504606846976 <= x/\x <= 1152921504606846976) (hy:-1152921504606846976 <= y/\y <= 1152921504606846976):add x y = some (x + y):=by
 unfold add told great
 rw [if_neg (by simp;omega),if_neg (by simp;omega)]
theorem Jb6 {a b:V3} (ha:isV a 1152921504606846976) (hb:isV b 1152921504606846976):Jck a b = false/\Jah a b = ⟨a.x + b.x,a.y + b.y,a.z + b.z⟩:=by
 unfold Jck Jah
 rw [Jgh ha.1 hb.1,Jgh ha.2.1 hb.2.1,Jgh ha.2.2 hb.2.2]
 exact ⟨rfl,rfl⟩
theorem Jo5 {X C:Int} (h:-(C * 4294967296) <= X/\X <= C * 4294967296):-C <= X / 4294967296/\X / 4294967296 <= C:=by omega
theorem Jk8 {x y C:Int} (hx:-4611686018427387903 <= x/\x <= 4611686018427387903) (hy:-4611686018427387903 <= y/\y <= 4611686018427387903) (h:-(C * 4294967296) <= x * y/\x * y <= C * 4294967296) (hC:C <= 4611686018427387903):mul x y = some (x * y / 4294967296)/\(-C <= x * y / 4294967296/\x * y / 4294967296 <= C):=by
 have hf:=Jo5 h
 refine ⟨?_,hf⟩
 unfold mul told great
 rw [if_neg (by simp;omega),if_neg (by simp;omega)]
theorem Jhk {a b A B:Int} (ha:-A <= a/\a <= A) (hb:-B <= b/\b <= B):-(A * B) <= a * b/\a * b <= A * B:=by
 have h1:=Int.mul_nonneg (a:=A - a) (b:=B - b) (by omega) (by omega)
 have h2:=Int.mul_nonneg (a:=A - a) (b:=B + b) (by omega) (by omega)
 have h3:=Int.mul_nonneg (a:=A + a) (b:=B - b) (by omega) (by omega)
 have h4:=Int.mul_nonneg (a:=A + a) (b:=B + b) (by omega) (by omega)
 simp only [Int.sub_mul,Int.mul_sub,Int.add_mul,Int.mul_add] at h1 h2 h3 h4
 omega
theorem Jh9 {a:V3} {n A N C:Int} (ha:isV a A) (hn:-N <= n/\n <= N) (hA:A <= 4611686018427387903) (hN:N <= 4611686018427387903) (h:A * N <= C * 4294967296) (hC:C <= 4611686018427387903):Jfh a n = false/\isV (Jbz a n) C:=by
 have key:∀ x:Int,-A <= x/\x <= A->mul x n = some (x * n / 4294967296)/\(-C <= x * n / 4294967296/\x * n / 4294967296 <= C):=fun x hx=>by
  have:=Jhk hx hn
  exact Jk8 (by omega) (by omega) (by omega) hC
 obtain ⟨e1,b1⟩:=key _ ha.1
 obtain ⟨e2,b2⟩:=key _ ha.2.1
 obtain ⟨e3,b3_⟩:=key _ ha.2.2
 unfold Jfh Jbz
 rw [e1,e2,e3]
 exact ⟨rfl,b1,b2,b3_⟩
theorem Jk4 {x y u v A B C:Int} (hx:-A <= x/\x <= A) (hy:-A <= y/\y <= A) (hu:-B <= u/\u <= B) (hv:-B <= v/\v <= B) (hA:A <= 4611686018427387903) (hB:B <= 4611686018427387903) (h:A * B + A * B <= C * 4294967296) (hC:C <= 4611686018427387903) :
  dot [x,y] [u,v] = some ((x * u + y * v) / 4294967296)/\(-C <= (x * u + y * v) / 4294967296/\(x * u + y * v) / 4294967296 <= C):=by
 have h1:=Jhk hx hu
 have h2:=Jhk hy hv
 have hf:-C <= (x * u + y * v) / 4294967296/\(x * u + y * v) / 4294967296 <= C:=Jo5 (by omega)
 refine ⟨?_,hf⟩
 have hp:Jaa [x,y] [u,v] = x * u + y * v:=by simp [Jaa]
 unfold dot told
 rw [hp,if_neg (by simp),if_neg (by simp),if_neg (by simp [great];omega),if_neg (by simp [great];omega)]
theorem Jpn {a b:V3} {A B C:Int} (ha:isV a A) (hb:isV b B) (hA:A <= 4611686018427387903) (hB:B <= 4611686018427387903) (h:A * B + A * B <= C * 4294967296) (hC:C <= 4611686018427387903):Jn8 a b = false/\isV (Jcf a b) C:=by
 obtain ⟨a1,a2,a3⟩:=ha
 obtain ⟨b1,b2,b3_⟩:=hb
 obtain ⟨e1,c1⟩:=Jk4 (u:=b.z) (v:=-b.y) a2 a3 b3_ (by omega) hA hB h hC
 obtain ⟨e2,c2⟩:=Jk4 (u:=b.x) (v:=-b.z) a3 a1 b1 (by omega) hA hB h hC
 obtain ⟨e3,c3⟩:=Jk4 (u:=b.y) (v:=-b.x) a1 a2 b2 (by omega) hA hB h hC
 unfold Jn8 Jcf
 rw [e1,e2,e3]
 exact ⟨rfl,c1,c2,c3⟩
theorem Jsc {x:Bd} {a b j k:V3} (hp:isV x.p 1099511627776) (hl:isV x.l 68719476736) (hm:0 <= x.m/\x.m <= 1099511627776) (ha:isV a 68719476736) (hb:isV b 68719476736) (hj:isV j 1099511627776) (hk:isV k 1099511627776) :
  (Jg8 x a j = false/\Jg8 (Jbv x a j) b k = false/\Jck (Jbv (Jbv x a j) b k).l j = false/\Jkk (Jcw (Jbv (Jbv x a j) b k) j) k 67108864 = false) /\
  (Jkk x k 67108864 = false/\Jck (Jcv x k 67108864).l j = false/\Jg8 (Jcw (Jcv x k 67108864) j) b k = false/\Jg8 (Jbv (Jcw (Jcv x k 67108864) j) b k) a j = false) /\
  Jcv (Jcw (Jbv (Jbv x a j) b k) j) k 67108864 = Jbv (Jbv (Jcw (Jcv x k 67108864) j) b k) a j:=by
 obtain ⟨c1,d1⟩:=Jpn (C:=35184372088832) ha hj (by decide) (by decide) (by decide) (by decide)
 obtain ⟨c2,d2⟩:=Jpn (C:=35184372088832) hb hk (by decide) (by decide) (by decide) (by decide)
 obtain ⟨em,hm2⟩:=Jk8 (x:=x.m) (y:=67108864) (C:=17179869184) (by omega) (by decide) (by omega) (by decide)
 have emm:Jb0 x.m 67108864 = x.m * 67108864 / 4294967296:=by unfold Jb0;rw [em];rfl
 have emb:Jhx x.m 67108864 = false:=by unfold Jhx;rw [em];rfl
 obtain ⟨s1,t1⟩:=Jh9 (n:=Jb0 x.m 67108864) (N:=17179869184) (C:=4398046511104) hk (by rw [emm];exact hm2) (by decide) (by decide) (by decide) (by decide)
 obtain ⟨F,hF⟩:∃ v,Jbz k (Jb0 x.m 67108864) = v:=⟨_,rfl⟩
 obtain ⟨u,hu⟩:∃ v,Jcf a j = v:=⟨_,rfl⟩
 obtain ⟨v,hv⟩:∃ v,Jcf b k = v:=⟨_,rfl⟩
 rw [hF] at t1
 rw [hu] at d1
 rw [hv] at d2
 unfold Jg8 Jkk Jbv Jcw Jcv Bd.wp Bd.wl
 dsimp only
 rw [hF,hu,hv,c1,c2,s1,emb]
 simp only [Bool.false_or]
 unfold isV at *
 have w1:=Jb6 (a:=x.p) (b:=j) (by unfold isV;omega) (by unfold isV;omega)
 have w2:=Jb6 (a:=x.l) (b:=u) (by unfold isV;omega) (by unfold isV;omega)
 have w3:=Jb6 (a:=x.p) (b:=F) (by unfold isV;omega) (by unfold isV;omega)
 have w4:=Jb6 (a:=x.l) (b:=j) (by unfold isV;omega) (by unfold isV;omega)
 rw [w1.2,w2.2,w3.2,w4.2,w1.1,w2.1,w3.1,w4.1]
 have y1:=Jb6 (a:=⟨x.p.x + j.x,x.p.y + j.y,x.p.z + j.z⟩) (b:=k) (by unfold isV;dsimp only;omega) (by unfold isV;omega)
 have y2:=Jb6 (a:=⟨x.l.x + u.x,x.l.y + u.y,x.l.z + u.z⟩) (b:=v) (by unfold isV;dsimp only;omega) (by unfold isV;omega)
 have y3:=Jb6 (a:=⟨x.p.x + F.x,x.p.y + F.y,x.p.z + F.z⟩) (b:=k) (by unfold isV;dsimp only;omega) (by unfold isV;omega)
 have y4:=Jb6 (a:=⟨x.l.x + j.x,x.l.y + j.y,x.l.z + j.z⟩) (b:=v) (by unfold isV;dsimp only;omega) (by unfold isV;omega)
 dsimp only at y1 y2 y3 y4
 rw [y1.2,y2.2,y3.2,y4.2,y1.1,y2.1,y3.1,y4.1]
 have z1:=Jb6 (a:=⟨x.p.x + j.x + k.x,x.p.y + j.y + k.y,x.p.z + j.z + k.z⟩) (b:=F) (by unfold isV;dsimp only;omega) (by unfold isV;omega)
 have z2:=Jb6 (a:=⟨x.l.x + u.x + v.x,x.l.y + u.y + v.y,x.l.z + u.z + v.z⟩) (b:=j) (by unfold isV;dsimp only;omega) (by unfold isV;omega)
 have z3:=Jb6 (a:=⟨x.p.x + F.x + k.x,x.p.y + F.y + k.y,x.p.z + F.z + k.z⟩) (b:=j) (by unfold isV;dsimp only;omega) (by unfold isV;omega)
 have z4:=Jb6 (a:=⟨x.l.x + j.x + v.x,x.l.y + j.y + v.y,x.l.z + j.z + v.z⟩) (b:=u) (by unfold isV;dsimp only;omega) (by unfold isV;omega)
 dsimp only at z1 z2 z3 z4
 rw [z1.2,z2.2,z3.2,z4.2,z1.1,z2.1,z3.1,z4.1]
 refine ⟨⟨rfl,rfl,rfl,rfl⟩,⟨rfl,rfl,rfl,rfl⟩,?_⟩
 congr 1
 ·congr 1 <;> omega
 ·congr 1 <;> omega
end
section
open Go.RowKit Go.Shelf
theorem Jnz {w:World} {a b:Nat} {e:TypeId} {sz m:Nat} {v:Value} {xs:List Value} (hab:a <= b) (h:w.ownsRow b e sz v m xs):w.ownsRow a e sz v m xs:=by
 obtain ⟨h1,h2⟩:=h
 refine ⟨h1,?_⟩
 rcases h2 with h2 | ⟨g,cap,cur,e,hb,r⟩
 ·exact Or.inl h2
 ·exact Or.inr ⟨g,cap,cur,e,Nat.le_trans hab hb,r⟩
section
variable {V w w':World} {pb:Nat} {pts:List Pt} {R:List Value} {Ds:List (Nat × Bd)} {ib st:Nat} {fin:Bd} {γ:Nat->Value} {L:Nat->Bool}
theorem OG.start (hc:V.cell? ⟨pb,0,none⟩ = some (.bool false)) (hf:V.frozen? ⟨pb,0,none⟩ = false) (h:L = fun _=>false):OG V pb pts R Ds ib st fin γ L V.drew:=by
 subst h
 exact ⟨(Leaves.refl _ _).drew,hc,hf,World.block_lt_of_cell? _ _ hc,(fun x _ e=>by cases e),(fun e=>by cases e)⟩
theorem OG.other (h:OG V pb pts R Ds ib st fin γ L w) {k:Nat} (v:Value) (hk:(Ds.all fun x=>decide (x.1 ≠ k)) = true) (h1:ib ≠ k) (h2:st ≠ k):OG V pb pts R Ds ib st fin (RV.upd γ k v) (more L k) w:=by
 refine ⟨h.leaves,h.cell,h.frozen,h.hp,fun x hx e=>?_,fun e=>?_⟩
 ·have hne:x.1 ≠ k:=by have:=List.all_eq_true.1 hk x hx;simpa using this
  rw [RV.mn hne] at e
  rw [RV.upd_ne _ _ hne,RV.upd_ne _ _ h1,RV.mn h1]
  exact h.told x hx e
 ·rw [RV.mn h1] at e
  rw [RV.upd_ne _ _ h1,RV.mn h2]
  exact h.box e
theorem OG.call (h:OG V pb pts R Ds ib st fin γ L w) (ha:After ⟨pb,0,none⟩ false w w') {k:Nat} {D:Bd} {u:Value} (hD:∀ x ∈ Ds,x.1 = k->x.2 = D) (h1:ib ≠ k) (h2:st ≠ k) (hst:L st = false)
  (hu:w'.ownsRow w.heap.size 23 3 u pts.length (fl3 pts)):OG V pb pts R Ds ib st fin (RV.upd γ k (.agg (D.L (R.set 5 u)).toArray)) (more L k) w':=by
 have hVw:=h.leaves.size
 refine ⟨h.leaves.same ha,ha.cell,ha.frozen,h.hp,fun x hx e=>?_,fun e=>?_⟩
 ·rw [RV.upd_ne _ _ h1,RV.mn h1]
  by_cases hxk:x.1 = k
  ·rw [hxk,RV.upd_self,hD x hx hxk]
   refine ⟨u,rfl,Jnz hVw hu,fun hb b eb=>Jgr hu ?_⟩
   obtain ⟨b',cs,e1,e2,e3,e4,_⟩:=h.box hb
   rw [eb] at e1
   cases e1
   exact e3.lt31 e4
  ·rw [RV.mn hxk] at e
   rw [RV.upd_ne _ _ hxk]
   obtain ⟨u9,q1,q2,q3⟩:=h.told x hx e
   exact ⟨u9,q1,Jao q2 fun g hg=>ha.kept.2.2.2 g (q2.lt g hg).2 (fun e9=>by have h8:=(q2.lt g hg).1;have h7:=h.hp;rw [e9] at h8;exact absurd h7 (Nat.not_lt.2 h8)),q3⟩
 ·rw [RV.mn h1] at e
  rw [RV.upd_ne _ _ h1,RV.mn h2]
  obtain ⟨b,cs,e1,e2,e3,e4,_⟩:=h.box e
  exact ⟨b,cs,e1,e2,e3.after ha (fun e9=>by have h7:=h.hp;have e8:b = pb:=e9;omega),e4,fun e9=>by rw [hst] at e9;cases e9⟩
theorem OG.made (h:OG V pb pts R Ds ib st fin γ L w) (hD:(Ds.all fun x=>decide (x.1 ≠ ib)) = true) (h2:st ≠ ib) (hst:L st = false) (cs:List Value) (hc:cs.length = 31) :
  OG V pb pts R Ds ib st fin (RV.upd γ ib (.pointer (some ⟨w.heap.size,0,none⟩))) (more L ib) (w.alloc (.cells cs.toArray 39)):=by
 have hb:=Jb w (.cells cs.toArray 39)
 refine ⟨h.leaves.step (hb.mono h.leaves.size),Ja hb h.cell,Jq hb h.cell h.frozen,h.hp,fun x hx e=>?_,fun _=>⟨_,cs,by rw [RV.upd_self],h.leaves.size,CW.new _ _ _,hc,fun e=>by rw [RV.mn h2,hst] at e;cases e⟩⟩
 have hne:x.1 ≠ ib:=by have:=List.all_eq_true.1 hD x hx;simpa using this
 rw [RV.mn hne] at e
 rw [RV.upd_ne _ _ hne,RV.upd_self,RV.more_self]
 obtain ⟨u9,q1,q2,q3⟩:=h.told x hx e
 refine ⟨u9,q1,Jao q2 fun g hg=>hb.block g (q2.lt g hg).2,fun _ b eb=>?_⟩
 cases eb
 intro e9
 have:=(q2.lt _ e9).2
 omega
theorem OG.fill (h:OG V pb pts R Ds ib st fin γ L w) {k:Nat} (hk:(k,fin) ∈ Ds) (hl:L k = true) (hi:L ib = true) (hne:ib ≠ st) (hD:(Ds.all fun x=>decide (x.1 ≠ st)) = true) (hR:∀ u:Value,u.oneCell' = true->Rest (R.set 5 u)) :
  ∃ b cs u,γ ib = .pointer (some ⟨b,0,none⟩)/\γ k = .agg (fin.L (R.set 5 u)).toArray/\CW w b cs/\cs.length = 31/\u.oneCell' = true/\∀ v,OG V pb pts R Ds ib st fin (RV.upd γ st v) (more L st) (w.setCells b 0 (fin.L (R.set 5 u))):=by
 obtain ⟨b,cs,e1,e2,e3,e4,_⟩:=h.box hi
 obtain ⟨u,q1,q2,q3⟩:=h.told _ hk hl
 have hu1:u.oneCell' = true:=Jam q2
 have hbl:(fin.L (R.set 5 u)).length = 31:=(hR u hu1).all fin
 have hp:pb ≠ b:=by have:=h.hp;omega
 refine ⟨b,cs,u,e1,q1,e3,e4,hu1,fun v=>⟨h.leaves.sets e2 _,(Ja3 hp).trans h.cell,(World.frozen?_setCells b _ 0 w _).trans h.frozen,h.hp,fun x hx e=>?_,fun _=>?_⟩⟩
 ·have hx9:x.1 ≠ st:=by have:=List.all_eq_true.1 hD x hx;simpa using this
  rw [RV.mn hx9] at e
  rw [RV.upd_ne _ _ hx9,RV.upd_ne _ _ hne,RV.mn hne]
  obtain ⟨u9,r1,r2,r3⟩:=h.told x hx e
  exact ⟨u9,r1,Jat r2 (r3 hi b e1) _ 0,r3⟩
 ·refine ⟨b,_,by rw [RV.upd_ne _ _ hne];exact e1,e2,e3.sets (by rw [hbl,e4]),hbl,fun _=>⟨u,rfl,Jat q2 (q3 hi b e1) _ 0⟩⟩
end
end
section
open Go.RowKit Go.Shelf Fx
theorem Jr5 {x:Bd} {a b j k:V3} (hp:isV x.p 1099511627776) (hl:isV x.l 68719476736) (hm:0 <= x.m/\x.m <= 1099511627776) (ha:isV a 68719476736) (hb:isV b 68719476736) (hj:isV j 1099511627776) (hk:isV k 1099511627776) :
  ∃ D1 D2 D3 D4 E1 E2 E3:Bd,(ifB x (Jbv x a j) = D1/\Jan x.k (Jg8 x a j) = false)/\(ifB D1 (Jbv D1 b k) = D2/\Jan D1.k (Jg8 D1 b k) = false)/\(ifB D2 (Jcw D2 j) = D3/\Jan D2.k (Jck D2.l j) = false)/\(ifB D3 (Jcv D3 k 67108864) = D4/\Jan D3.k (Jkk D3 k 67108864) = false) /\
   (ifB x (Jcv x k 67108864) = E1/\Jan x.k (Jkk x k 67108864) = false)/\(ifB E1 (Jcw E1 j) = E2/\Jan E1.k (Jck E1.l j) = false)/\(ifB E2 (Jbv E2 b k) = E3/\Jan E2.k (Jg8 E2 b k) = false)/\(ifB E3 (Jbv E3 a j) = D4/\Jan E3.k (Jg8 E3 a j) = false)/\D4.s = x.s/\D4.q = x.q:=by
 obtain ⟨⟨c1,c2,c3,c4⟩,⟨d1,d2,d3,d4⟩,e⟩:=Jsc hp hl hm ha hb hj hk
 by_cases h:x.k = 2
 ·have y:∀ y z:Bd,y.k = x.k->ifB y z = z:=fun y z hy=>by unfold ifB;rw [if_pos (hy.trans h)]
  have z:∀ (y:Int) (g:Bool),y = x.k->Jan y g = g:=fun y g hy=>by unfold Jan;rw [if_pos (hy.trans h)]
  exact ⟨Jbv x a j,Jbv (Jbv x a j) b k,Jcw (Jbv (Jbv x a j) b k) j,Jcv (Jcw (Jbv (Jbv x a j) b k) j) k 67108864,Jcv x k 67108864,Jcw (Jcv x k 67108864) j,Jbv (Jcw (Jcv x k 67108864) j) b k,
   ⟨y _ _ rfl,(z _ _ rfl).trans c1⟩,⟨y _ _ rfl,(z _ _ rfl).trans c2⟩,⟨y _ _ rfl,(z _ _ rfl).trans c3⟩,⟨y _ _ rfl,(z _ _ rfl).trans c4⟩,⟨y _ _ rfl,(z _ _ rfl).trans d1⟩,⟨y _ _ rfl,(z _ _ rfl).trans d2⟩,⟨y _ _ rfl,(z _ _ rfl).trans d3⟩,⟨(y (Jbv (Jcw (Jcv x k 67108864) j) b k) _ rfl).trans e.symm,(z _ _ rfl).trans d4⟩,rfl,rfl⟩
 ·have y:∀ z:Bd,ifB x z = x:=fun z=>by unfold ifB;rw [if_neg h]
  have z:∀ g:Bool,Jan x.k g = false:=fun g=>by unfold Jan;rw [if_neg h]
  exact ⟨x,x,x,x,x,x,x,⟨y _,z _⟩,⟨y _,z _⟩,⟨y _,z _⟩,⟨y _,z _⟩,⟨y _,z _⟩,⟨y _,z _⟩,⟨y _,z _⟩,⟨y _,z _⟩,rfl,rfl⟩
theorem CW.pose {W:World} {b:Nat} {D:Bd} {R:List Value} (h:CW W b (D.L R)):World.rangeAt W b 1 [J Jk D.s.x,J Jk D.s.y,J Jk D.s.z,J Jk D.q.w,J Jk D.q.x,J Jk D.q.y,J Jk D.q.z]:=fun j v e=>by
 rw [Nat.add_comm]
 refine (h (j + 1) v ?_).1
 match j,e with
 | 0,e=>exact e
 | 1,e=>exact e
 | 2,e=>exact e
 | 3,e=>exact e
 | 4,e=>exact e
 | 5,e=>exact e
 | 6,e=>exact e
 | n + 7,e=>simp at e
section
variable {V w w':World} {pb:Nat} {pts:List Pt} {R:List Value} {Ds:List (Nat × Bd)} {ib st:Nat} {fin:Bd} {γ:Nat->Value} {L:Nat->Bool}
theorem OG.hand (h:OG V pb pts R Ds ib st fin γ L w) {k:Nat} {D:Bd} (hk:(k,D) ∈ Ds) (hl:L k = true):∃ u,γ k = .agg (D.L (R.set 5 u)).toArray/\u.oneCell' = true/\Lies w u pts:=by
 obtain ⟨u,e1,e2,_⟩:=h.told _ hk hl
 exact ⟨u,e1,Jam e2,Lies.of_row e2⟩
theorem OG.here (h:OG V pb pts R Ds ib st fin γ L w) {base n:Nat} {u:Value} {xs:List Value} {T sz:Nat} (hu:V.ownsRow base T sz u n xs) (hne:u.ownBlock ≠ some pb):w.ownsRow base T sz u n xs:=
 Jao hu fun g hg=>h.leaves.kept.2.2.2 g (hu.lt g hg).2 (fun e=>hne (by rw [hg];exact congrArg some e))
theorem OG.has (h:OG V pb pts R Ds ib st fin γ L w) {b:Nat} {cs:List Value} (hc:CW V b cs) (hne:b < pb):CW w b cs:=hc.leaves h.leaves (by show b ≠ pb;omega)
variable {pv:Value} (hR:RestP R pv) (hlen:pts.length <= 100000) (h:OG V pb pts R Ds ib st fin γ L w) {k:Nat} {D D':Bd} {u:Value} (hu1:u.oneCell' = true) (hL:Lies w u pts)
 (hD:∀ x ∈ Ds,x.1 = k->x.2 = D') (h1:ib ≠ k) (h2:st ≠ k) (hst:L st = false)
include hR hlen h hu1 hL hD h1 h2 hst
theorem OG.push {am jm:V3} (hf:ifB D (Jbv D am jm) = D'/\Jan D.k (Jg8 D am jm) = false) :
  Calls Tryz.prog 16 #[.pointer (some ⟨pb,0,none⟩),.agg (D.L (R.set 5 u)).toArray,am.val,jm.val] w fun e w'=>∃ v,e = .returned v/\OG V pb pts R Ds ib st fin (RV.upd γ k v) (more L k) w':=by
 refine Calls.mono (Jls pb 0 false D (R.set 5 u) u pts am jm (hR.set hu1) w h.cell h.frozen hL hlen) ?_
 rintro e w' ⟨u',rfl,ha,ho⟩
 rw [hf.1,hf.2,List.set_set] at *
 exact ⟨_,rfl,h.call ha.out hD h1 h2 hst ho.out⟩
theorem OG.twist {jm:V3} (hf:ifB D (Jcw D jm) = D'/\Jan D.k (Jck D.l jm) = false) :
  Calls Tryz.prog 30 #[.pointer (some ⟨pb,0,none⟩),.agg (D.L (R.set 5 u)).toArray,jm.val] w fun e w'=>∃ v,e = .returned v/\OG V pb pts R Ds ib st fin (RV.upd γ k v) (more L k) w':=by
 refine Calls.mono (Jqo pb 0 false D (R.set 5 u) u pts jm (hR.set hu1) w h.cell h.frozen hL hlen) ?_
 rintro e w' ⟨u',rfl,ha,ho⟩
 rw [hf.1,hf.2,List.set_set] at *
 exact ⟨_,rfl,h.call ha.out hD h1 h2 hst ho.out⟩
theorem OG.fall {jm:V3} {n:Int} (hf:ifB D (Jcv D jm n) = D'/\Jan D.k (Jkk D jm n) = false) :
  Calls Tryz.prog 29 #[.pointer (some ⟨pb,0,none⟩),.agg (D.L (R.set 5 u)).toArray,jm.val,J Jk n] w fun e w'=>∃ v,e = .returned v/\OG V pb pts R Ds ib st fin (RV.upd γ k v) (more L k) w':=by
 refine Calls.mono (Jsg pb 0 false D (R.set 5 u) u pts jm n (hR.set hu1) w h.cell h.frozen hL hlen) ?_
 rintro e w' ⟨u',rfl,ha,ho⟩
 rw [hf.1,hf.2,List.set_set] at *
 exact ⟨_,rfl,h.call ha.out hD h1 h2 hst ho.out⟩
end
end
section
open Go.ChangeShapes Go.WideShapes Go.Deep Go.Joins
section
variable {H:Type} {enc:TypeId × Value->H} {w:World} {base:Nat} {spare:Nat->Bool} {held:Bool}
theorem Jc0 {rr:Reach} {b0:Nat} {v:Value} {d:DataW H} {p:List MemPlace} (hv:Value.okWide Tryz.prog w rr b0 27 v) (h:DataW.Trod enc Tryz.prog w base spare held 27 v d p):∃ a:V3,v = a.val/\∀ n ∈ ([a.x,a.y,a.z]:List Int),-9223372036854775808 <= n/\n <= 9223372036854775807:=by
 obtain ⟨cs,rfl,hsz⟩:=okWide_struct Tryz.underlying27 hv
 have hC:Tryz.prog.cellsOf 27 = 3:=by kernel_rfl
 obtain ⟨u0,u1,u2,rfl⟩:=Jrg (hsz.trans hC)
 obtain ⟨fuel,hf⟩:=h
 obtain ⟨x,y,z,rfl,rfl,rfl,w1,w2,w3⟩:=Jha (show DataW.trod enc Tryz.prog w base spare held fuel 27 [u0,u1,u2] = some (d,p) from hf)
 refine ⟨⟨x,y,z⟩,rfl,fun n hn=>?_⟩
 have wf:(Lit.int .i64 n).wf = true:=by
  simp only [List.mem_cons,List.not_mem_nil,or_false] at hn
  rcases hn with rfl | rfl | rfl <;> assumption
 have:=bounds_i64 wf
 omega
end
end
end Go.Proofs.YteebbpioffdncaaGreat
