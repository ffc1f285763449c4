/- Layers 1 and 2 as plain functions of vectors; package vec's contracts over them. -/
import Derived.Test.YtpjaacpcdomfiaaGreatSBTells2
import Derived.Test.YtpjaacpcdomfiaaGreatSBTells8
import Derived.Test.YtpjaacpcdomfiaaGreatSBTells6
import Derived.Test.YtpjaacpcdomfiaaGreatSBTells9
import Derived.Test.YtpjaacpcdomfiaaGreatSBTells0
import Derived.Test.YtpjaacpcdomfiaaGreatSBTells1
import Derived.OneCell
import Derived.WalkMore
set_option maxHeartbeats 4000000
set_option maxRecDepth 100000
set_option linter.unusedVariables false
namespace Go.Proofs.YtpjaacpcdomfiaaGreat
section
open Go.RowKit Fx
def b3 (x y z:Option Int):Bool:=x.isNone || y.isNone || z.isNone
def t3 (x y z:Option Int):V3:=⟨cond (b3 x y z) 0 (x.getD 0),cond (b3 x y z) 0 (y.getD 0),cond (b3 x y z) 0 (z.getD 0)⟩
theorem t3_of {f g:Bool} {x y z:Option Int} {u v w:Int} (h:Step3 f x y z u v w g):u = (t3 x y z).x/\v = (t3 x y z).y/\w = (t3 x y z).z/\g = (f || b3 x y z):=h
structure Mt where
 a:V3
 b:V3
 c:V3
def Mt.l (m:Mt):List Int:=[m.a.x,m.a.y,m.a.z,m.b.x,m.b.y,m.b.z,m.c.x,m.c.y,m.c.z]
@[reducible] def Mt.val (m:Mt):Value:=.agg #[.int .i64 m.a.x,.int .i64 m.a.y,.int .i64 m.a.z,.int .i64 m.b.x,.int .i64 m.b.y,.int .i64 m.b.z,.int .i64 m.c.x,.int .i64 m.c.y,.int .i64 m.c.z]
def addV (a b:V3):V3:=t3 (add a.x b.x) (add a.y b.y) (add a.z b.z)
def addB (a b:V3):Bool:=b3 (add a.x b.x) (add a.y b.y) (add a.z b.z)
def sclV (a:V3) (n:Int):V3:=t3 (mul a.x n) (mul a.y n) (mul a.z n)
def sclB (a:V3) (n:Int):Bool:=b3 (mul a.x n) (mul a.y n) (mul a.z n)
def crsV (a b:V3):V3:=t3 (dot [a.y,a.z] [b.z,-b.y]) (dot [a.z,a.x] [b.x,-b.z]) (dot [a.x,a.y] [b.y,-b.x])
def crsB (a b:V3):Bool:=b3 (dot [a.y,a.z] [b.z,-b.y]) (dot [a.z,a.x] [b.x,-b.z]) (dot [a.x,a.y] [b.y,-b.x])
def trnV (m:Mt) (a:V3):V3:=t3 (dot [m.a.x,m.a.y,m.a.z] [a.x,a.y,a.z]) (dot [m.b.x,m.b.y,m.b.z] [a.x,a.y,a.z]) (dot [m.c.x,m.c.y,m.c.z] [a.x,a.y,a.z])
def trnB (m:Mt) (a:V3):Bool:=b3 (dot [m.a.x,m.a.y,m.a.z] [a.x,a.y,a.z]) (dot [m.b.x,m.b.y,m.b.z] [a.x,a.y,a.z]) (dot [m.c.x,m.c.y,m.c.z] [a.x,a.y,a.z])
def Mt.t (m:Mt):Mt:=⟨⟨m.a.x,m.b.x,m.c.x⟩,⟨m.a.y,m.b.y,m.c.y⟩,⟨m.a.z,m.b.z,m.c.z⟩⟩
def rowM (q:V4):Mt:=⟨⟨cond (rowsBad q.w q.x q.y q.z) 0 (rowsAt0 q.w q.x q.y q.z),cond (rowsBad q.w q.x q.y q.z) 0 (rowsAt1 q.w q.x q.y q.z),cond (rowsBad q.w q.x q.y q.z) 0 (rowsAt2 q.w q.x q.y q.z)⟩,⟨cond (rowsBad q.w q.x q.y q.z) 0 (rowsAt3 q.w q.x q.y q.z),cond (rowsBad q.w q.x q.y q.z) 0 (rowsAt4 q.w q.x q.y q.z),cond (rowsBad q.w q.x q.y q.z) 0 (rowsAt5 q.w q.x q.y q.z)⟩,⟨cond (rowsBad q.w q.x q.y q.z) 0 (rowsAt6 q.w q.x q.y q.z),cond (rowsBad q.w q.x q.y q.z) 0 (rowsAt7 q.w q.x q.y q.z),cond (rowsBad q.w q.x q.y q.z) 0 (rowsAt8 q.w q.x q.y q.z)⟩⟩
def rowB (q:V4):Bool:=rowsBad q.w q.x q.y q.z
def spnQ (q:V4) (h:V3):V4:=⟨spinAt0 q.w q.x q.y q.z h.x h.y h.z,spinAt1 q.w q.x q.y q.z h.x h.y h.z,spinAt2 q.w q.x q.y q.z h.x h.y h.z,spinAt3 q.w q.x q.y q.z h.x h.y h.z⟩
def spnB (q:V4) (h:V3):Bool:=spinBad q.w q.x q.y q.z h.x h.y h.z
def lenN (a:V3):Int:=(norm [a.x,a.y,a.z]).getD 0
def lenB (a:V3):Bool:=(norm [a.x,a.y,a.z]).isNone
def dv1 (a n:Int):Int:=(ratio a 4294967296 n).getD 0
def dv1B (a n:Int):Bool:=(ratio a 4294967296 n).isNone
def mul1 (a n:Int):Int:=(mul a n).getD 0
def mul1B (a n:Int):Bool:=(mul a n).isNone
def divV (a b:V3):V3:=⟨dv1 a.x b.x,dv1 a.y b.y,dv1 a.z b.z⟩
def divB (a b:V3):Bool:=dv1B a.x b.x || dv1B a.y b.y || dv1B a.z b.z
theorem cadd_c (b off:Nat) (f:Bool) (x y:V3) (W:World) (hc:W.cell? ⟨b,off,none⟩ = some (.bool f)) (hf:W.frozen? ⟨b,off,none⟩ = false) :
  Calls Tryz.prog 62 #[.pointer (some ⟨b,off,none⟩),x.val,y.val] W fun e W'=>e = .returned (addV x y).val/\Hid (After ⟨b,off,none⟩ (f || addB x y) W W'):=by
 refine Calls.mono (vadd_law b off f x.x x.y x.z y.x y.y y.z W hc hf) ?_
 rintro e W' ⟨v0,v1,v2,g,rfl,SS,A⟩
 obtain ⟨rfl,rfl,rfl,rfl⟩:=t3_of SS.out
 exact ⟨rfl,A⟩
theorem cscl_c (b off:Nat) (f:Bool) (x:V3) (n:Int) (W:World) (hc:W.cell? ⟨b,off,none⟩ = some (.bool f)) (hf:W.frozen? ⟨b,off,none⟩ = false) :
  Calls Tryz.prog 68 #[.pointer (some ⟨b,off,none⟩),x.val,.int .i64 n] W fun e W'=>e = .returned (sclV x n).val/\Hid (After ⟨b,off,none⟩ (f || sclB x n) W W'):=by
 refine Calls.mono (vscale_law b off f x.x x.y x.z n W hc hf) ?_
 rintro e W' ⟨v0,v1,v2,g,rfl,SS,A⟩
 obtain ⟨rfl,rfl,rfl,rfl⟩:=t3_of SS.out
 exact ⟨rfl,A⟩
theorem ccrs_c (b off:Nat) (f:Bool) (x y:V3) (W:World) (hc:W.cell? ⟨b,off,none⟩ = some (.bool f)) (hf:W.frozen? ⟨b,off,none⟩ = false) :
  Calls Tryz.prog 63 #[.pointer (some ⟨b,off,none⟩),x.val,y.val] W fun e W'=>e = .returned (crsV x y).val/\Hid (After ⟨b,off,none⟩ (f || crsB x y) W W'):=by
 refine Calls.mono (vcross_law b off f x.x x.y x.z y.x y.y y.z W hc hf) ?_
 rintro e W' ⟨v0,v1,v2,g,rfl,SS,A⟩
 obtain ⟨rfl,rfl,rfl,rfl⟩:=t3_of SS.out
 exact ⟨rfl,A⟩
theorem ctrn_c (b off:Nat) (f:Bool) (m:Mt) (x:V3) (W:World) (hc:W.cell? ⟨b,off,none⟩ = some (.bool f)) (hf:W.frozen? ⟨b,off,none⟩ = false) :
  Calls Tryz.prog 55 #[.pointer (some ⟨b,off,none⟩),m.val,x.val] W fun e W'=>e = .returned (trnV m x).val/\Hid (After ⟨b,off,none⟩ (f || trnB m x) W W'):=by
 refine Calls.mono (vturn_law b off f m.a.x m.a.y m.a.z m.b.x m.b.y m.b.z m.c.x m.c.y m.c.z x.x x.y x.z W hc hf) ?_
 rintro e W' ⟨v0,v1,v2,g,rfl,SS,A⟩
 obtain ⟨rfl,rfl,rfl,rfl⟩:=t3_of SS.out
 exact ⟨rfl,A⟩
theorem cbck_c (b off:Nat) (f:Bool) (m:Mt) (x:V3) (W:World) (hc:W.cell? ⟨b,off,none⟩ = some (.bool f)) (hf:W.frozen? ⟨b,off,none⟩ = false) :
  Calls Tryz.prog 56 #[.pointer (some ⟨b,off,none⟩),m.val,x.val] W fun e W'=>e = .returned (trnV m.t x).val/\Hid (After ⟨b,off,none⟩ (f || trnB m.t x) W W'):=by
 refine Calls.mono (vback_law b off f m.a.x m.a.y m.a.z m.b.x m.b.y m.b.z m.c.x m.c.y m.c.z x.x x.y x.z W hc hf) ?_
 rintro e W' ⟨v0,v1,v2,g,rfl,SS,A⟩
 obtain ⟨rfl,rfl,rfl,rfl⟩:=t3_of SS.out
 exact ⟨rfl,A⟩
theorem crow_c (b off:Nat) (f:Bool) (q:V4) (W:World) (hc:W.cell? ⟨b,off,none⟩ = some (.bool f)) (hf:W.frozen? ⟨b,off,none⟩ = false) :
  Calls Tryz.prog 54 #[.pointer (some ⟨b,off,none⟩),q.val] W fun e W'=>e = .returned (rowM q).val/\Hid (After ⟨b,off,none⟩ (f || rowB q) W W'):=vrows_law b off f q.w q.x q.y q.z W hc hf
theorem cspn_c (b off:Nat) (f:Bool) (q:V4) (x:V3) (W:World) (hc:W.cell? ⟨b,off,none⟩ = some (.bool f)) (hf:W.frozen? ⟨b,off,none⟩ = false) :
  Calls Tryz.prog 72 #[.pointer (some ⟨b,off,none⟩),q.val,x.val] W fun e W'=>e = .returned (spnQ q x).val/\Hid (After ⟨b,off,none⟩ (f || spnB q x) W W'):=by
 refine Calls.mono (vspin_law b off f q.w q.x q.y q.z x.x x.y x.z W hc hf) ?_
 rintro e W' ⟨v0,v1,v2,v3,g,rfl,SS,A⟩
 obtain ⟨rfl,rfl,rfl,rfl,rfl⟩:=SS.out
 exact ⟨rfl,A⟩
theorem clen_c (b off:Nat) (f:Bool) (x:V3) (W:World) (hc:W.cell? ⟨b,off,none⟩ = some (.bool f)) (hf:W.frozen? ⟨b,off,none⟩ = false) :
  Calls Tryz.prog 78 #[.pointer (some ⟨b,off,none⟩),x.val] W fun e W'=>e = .returned (.int .i64 (lenN x))/\Hid (After ⟨b,off,none⟩ (f || lenB x) W W'):=by
 refine Calls.mono (vlen_law b off f x.x x.y x.z W hc hf) ?_
 rintro e W' ⟨v0,g,rfl,SS,A⟩
 obtain ⟨rfl,rfl⟩:=SS.out
 exact ⟨rfl,A⟩
theorem cdv1_c (b off:Nat) (f:Bool) (x n:Int) (W:World) (hc:W.cell? ⟨b,off,none⟩ = some (.bool f)) (hf:W.frozen? ⟨b,off,none⟩ = false) :
  Calls Tryz.prog 102 #[.pointer (some ⟨b,off,none⟩),.int .i64 x,.int .i64 n] W fun e W'=>e = .returned (.int .i64 (dv1 x n))/\Hid (After ⟨b,off,none⟩ (f || dv1B x n) W W'):=by
 refine Calls.mono (div_law b off f x n W hc hf) ?_
 rintro e W' ⟨v0,g,rfl,SS,A⟩
 obtain ⟨rfl,rfl⟩:=SS.out
 exact ⟨rfl,A⟩
theorem cmul_c (b off:Nat) (f:Bool) (x n:Int) (W:World) (hc:W.cell? ⟨b,off,none⟩ = some (.bool f)) (hf:W.frozen? ⟨b,off,none⟩ = false) :
  Calls Tryz.prog 69 #[.pointer (some ⟨b,off,none⟩),.int .i64 x,.int .i64 n] W fun e W'=>e = .returned (.int .i64 (mul1 x n))/\Hid (After ⟨b,off,none⟩ (f || mul1B x n) W W'):=by
 refine Calls.mono (mul_law b off f x n W hc hf) ?_
 rintro e W' ⟨v0,g,rfl,SS,A⟩
 obtain ⟨rfl,rfl⟩:=SS.out
 exact ⟨rfl,A⟩
end
section
open Go.RowKit Go.Shelf Fx
theorem body_size {R:List Value} (hR:Rest R) (b:Bd):(Tryz.prog.info? 35).map (·.size) = some (b.L R).length:=by rw [hR.all];kernel_rfl
theorem ifm_no (b:Bd) (R:List Value) (fv:Value) (hk:b.k ≠ 2) (W:World) :
  Calls Tryz.prog 49 #[.agg (b.L R).toArray,fv] W fun e W'=>e = .returned (.tuple #[])/\Hid (Below W.heap.size W W'):=by
 have hb:Hid _:=n_after W (.cells (b.L R).toArray 35)
 have h0:=(CW.new W (b.L R) 35 0 _ rfl).1
 have hk2:(b.k == 2) = false:=by simpa using hk
 generalize b.L R = cs at *
 generalize b.k = k at *
 go_enter Tryz.func49,Tryz.ntmps49
 go_wp2_with (fail)
 go_end0
 exact ⟨rfl,hb⟩
theorem ifm_yes (b:Bd) (R:List Value) (hk:b.k = 2) (gf:Nat) (caps:Array Value) (eg:∀ args w,(callFunc gf args).run Tryz.prog w = .ok (.enter gf args) w) (Q:World->Prop) (W:World)
  (hf:Calls Tryz.prog gf caps (W.alloc (.cells (b.L R).toArray 35)) fun e W'=>e = .returned (.tuple #[])/\Q W') :
  Calls Tryz.prog 49 #[.agg (b.L R).toArray,.func (.func gf) #[] caps] W fun e W'=>e = .returned (.tuple #[])/\Q W':=by
 have HF:Hid _:=hf
 clear hf
 have h0:=(CW.new W (b.L R) 35 0 _ rfl).1
 rw [hk] at h0
 generalize b.L R = cs at *
 go_enter Tryz.func49,Tryz.ntmps49
 go_wp2_with (fail)
 refine Calls.mono HF.out ?_
 rintro e W' ⟨rfl,hq⟩
 clear h0 HF
 go_wp2_with (fail)
 go_end0
 exact ⟨rfl,hq⟩
structure Two2 (p:Addr) (k:Nat) (V W:World):Prop where
 size:V.heap.size <= W.heap.size
 other:∀ q:Addr,q.block < V.heap.size->q.block ≠ p.block->q.block ≠ k->W.cell? q = V.cell? q/\W.frozen? q = V.frozen? q
 below:∀ (B:Nat) (w:World),Below B w V->B <= p.block->B <= k->B <= V.heap.size->Below B w W
 kept:W.os = V.os/\W.tape = V.tape/\W.output = V.output/\∀ j,j < V.heap.size->j ≠ p.block->j ≠ k->W.heap[j]? = V.heap[j]?
 beside:p.block < V.heap.size->p.block ≠ k->∀ o,o ≠ p.off->W.cell? ⟨p.block,o,none⟩ = V.cell? ⟨p.block,o,none⟩/\W.frozen? ⟨p.block,o,none⟩ = V.frozen? ⟨p.block,o,none⟩
section
variable {p:Addr} {k:Nat} {U V W X:World} {g:Bool} {vs:List Value}
theorem Two2.of (h:Leaves p V W):Two2 p k V W:=⟨h.size,fun q a b _=>h.other q a b,fun B w a b _ d=>h.below B w a b d,⟨h.kept.1,h.kept.2.1,h.kept.2.2.1,fun j a b _=>h.kept.2.2.2 j a b⟩,fun a _ o b=>h.beside a o b⟩
theorem Two2.trans (h:Two2 p k U V) (h':Two2 p k V W):Two2 p k U W:=by
 refine ⟨Nat.le_trans h.size h'.size,fun q a b c=>?_,fun B w a b c d=>h'.below B w (h.below B w a b c d) b c (Nat.le_trans d h.size),⟨h'.kept.1.trans h.kept.1,h'.kept.2.1.trans h.kept.2.1,h'.kept.2.2.1.trans h.kept.2.2.1,fun j a b c=>(h'.kept.2.2.2 j (Nat.lt_of_lt_of_le a h.size) b c).trans (h.kept.2.2.2 j a b c)⟩,fun a b o c=>?_⟩
 ·have e1:=h.other q a b c
  have e2:=h'.other q (Nat.lt_of_lt_of_le a h.size) b c
  exact ⟨e2.1.trans e1.1,e2.2.trans e1.2⟩
 ·have e1:=h.beside a b o c
  have e2:=h'.beside (Nat.lt_of_lt_of_le a h.size) b o c
  exact ⟨e2.1.trans e1.1,e2.2.trans e1.2⟩
theorem Two2.same (h:Two2 p k U V) (a:After p g V W):Two2 p k U W:=h.trans (Two2.of a.leaves)
theorem Two2.set (h:Two2 p k U V) (o:Nat) (v:Value):Two2 p k U (V.setCell ⟨k,o,none⟩ v):=by
 refine h.trans ⟨by simp [World.setCell],fun q a b c=>?_,fun B w a b c d=>a.setCell c v,⟨rfl,rfl,rfl,fun j a b c=>Below.heap_setCell _ _ _ _ c⟩,fun a b o' c=>?_⟩
 ·exact ⟨World.cell?_of_block (w:=V) (Below.heap_setCell _ _ _ _ c),World.frozen?_of_block (w:=V) (Below.heap_setCell _ _ _ _ c)⟩
 ·exact ⟨World.cell?_of_block (w:=V) (Below.heap_setCell _ _ _ _ b),World.frozen?_of_block (w:=V) (Below.heap_setCell _ _ _ _ b)⟩
theorem Two2.step (h:Two2 p k U V) (hb:Below V.heap.size V W):Two2 p k U W:=h.trans (Two2.of ((Leaves.refl p V).step hb))
theorem Leaves.two (h:Leaves p U V) (t:Two2 p k V W) (hp:p.block < U.heap.size) (hk:U.heap.size <= k):Leaves p U W:=by
 refine ⟨Nat.le_trans h.size t.size,fun q a b=>?_,fun B w a b c=>t.below B w (h.below B w a b c) b (Nat.le_trans c hk) (Nat.le_trans c h.size),⟨t.kept.1.trans h.kept.1,t.kept.2.1.trans h.kept.2.1,t.kept.2.2.1.trans h.kept.2.2.1,fun j a b=>(t.kept.2.2.2 j (Nat.lt_of_lt_of_le a h.size) b (by omega)).trans (h.kept.2.2.2 j a b)⟩,fun a o c=>?_⟩
 ·have e1:=h.other q a b
  have e2:=t.other q (Nat.lt_of_lt_of_le a h.size) b (by omega)
  exact ⟨e2.1.trans e1.1,e2.2.trans e1.2⟩
 ·have e1:=h.beside a o c
  have e2:=t.beside (Nat.lt_of_lt_of_le a h.size) (by omega) o c
  exact ⟨e2.1.trans e1.1,e2.2.trans e1.2⟩
theorem CW.two {b:Nat} (h:CW V b vs) (t:Two2 p k V W) (h1:b ≠ p.block) (h2:b ≠ k):CW W b vs:=fun i v e=>by
 have:=t.other ⟨b,i,none⟩ (World.block_lt_of_cell? _ _ (h i v e).1) h1 h2
 exact ⟨this.1.trans (h i v e).1,this.2.trans (h i v e).2⟩
structure Clo (p:Addr) (g:Bool) (k:Nat) (cs:List Value) (V W:World):Prop where
 two:Two2 p k V W
 cell:W.cell? p = some (.bool g)
 frozen:W.frozen? p = false
 cw:CW W k cs
theorem Clo.start (hc:V.cell? p = some (.bool g)) (hf:V.frozen? p = false) (h:CW V k vs):Clo p g k vs V V:=⟨Two2.of (Leaves.refl _ _),hc,hf,h⟩
theorem Clo.same {g':Bool} (h:Clo p g k vs U V) (a:After p g' V W) (hk:k ≠ p.block):Clo p g' k vs U W:=⟨h.two.same a,a.cell,a.frozen,h.cw.after a hk⟩
theorem Clo.set (h:Clo p g k vs U V) (hk:k ≠ p.block) (o:Nat) (v:Value) (ho:o < vs.length):Clo p g k (vs.set o v) U (V.setCell ⟨k,o,none⟩ v):=
 ⟨h.two.set o v,(World.cell?_setCell_other _ _ _ _ (fun e=>hk (by cases p;exact (Addr.mk.inj e).1))).trans h.cell,by simp [go_sem,h.frozen],h.cw.set o v ho⟩
theorem Clo.step (h:Clo p g k vs U V) (hb:Below V.heap.size V W):Clo p g k vs U W:=⟨h.two.step hb,c_after hb h.cell,f_after hb h.cell h.frozen,h.cw.step hb⟩
end
end
section
open Go.RowKit Go.Shelf Fx
theorem cdiv_any (fb fo:Nat) (f:Bool) (x y:V3) (W:World) (hc:W.cell? ⟨fb,fo,none⟩ = some (.bool f)) (hf:W.frozen? ⟨fb,fo,none⟩ = false) :
  Calls Tryz.prog 51 #[.pointer (some ⟨fb,fo,none⟩),x.val,y.val] W fun e W'=>e = .returned (divV x y).val/\Hid (After ⟨fb,fo,none⟩ (f || divB x y) W W'):=by
 have hbW:fb < W.heap.size:=World.block_lt_of_cell? _ _ hc
 obtain ⟨V,hV⟩:∃ V,V = ((W.alloc (.cells #[.int .i64 x.x,.int .i64 x.y,.int .i64 x.z] 23)).alloc (.cells #[.int .i64 y.x,.int .i64 y.y,.int .i64 y.z] 23)).alloc (.cells #[.int .i64 0,.int .i64 0,.int .i64 0] 23):=⟨_,rfl⟩
 have hb1:=n_after W (.cells #[.int .i64 x.x,.int .i64 x.y,.int .i64 x.z] 23)
 have hb2:=n_after (W.alloc (.cells #[.int .i64 x.x,.int .i64 x.y,.int .i64 x.z] 23)) (.cells #[.int .i64 y.x,.int .i64 y.y,.int .i64 y.z] 23)
 have hb3:=n_after ((W.alloc (.cells #[.int .i64 x.x,.int .i64 x.y,.int .i64 x.z] 23)).alloc (.cells #[.int .i64 y.x,.int .i64 y.y,.int .i64 y.z] 23)) (.cells #[.int .i64 0,.int .i64 0,.int .i64 0] 23)
 have CA:CW V W.heap.size [.int .i64 x.x,.int .i64 x.y,.int .i64 x.z]:=by rw [hV];exact ((CW.new W [.int .i64 x.x,.int .i64 x.y,.int .i64 x.z] 23).step hb2).step hb3
 have CB:CW V (W.heap.size + 1) [.int .i64 y.x,.int .i64 y.y,.int .i64 y.z]:=by
  have:=(CW.new (W.alloc (.cells #[.int .i64 x.x,.int .i64 x.y,.int .i64 x.z] 23)) [.int .i64 y.x,.int .i64 y.y,.int .i64 y.z] 23).step hb3
  rw [World.size_alloc] at this
  rw [hV];exact this
 have CR:CW V (W.heap.size + 1 + 1) [.int .i64 0,.int .i64 0,.int .i64 0]:=by
  have:=CW.new ((W.alloc (.cells #[.int .i64 x.x,.int .i64 x.y,.int .i64 x.z] 23)).alloc (.cells #[.int .i64 y.x,.int .i64 y.y,.int .i64 y.z] 23)) [.int .i64 0,.int .i64 0,.int .i64 0] 23
  simp only [World.size_alloc] at this
  rw [hV];exact this
 have hB:Below W.heap.size W V:=by rw [hV];exact b_step (b_step hb1 hb2) hb3
 have hcV:=c_after hB hc
 have hfV:=f_after hB hc hf
 have HLV:Hid (Leaves ⟨fb,fo,none⟩ W V):=(Leaves.refl _ _).step hB
 clear hc hf hB hb1 hb2 hb3
 go_enter Tryz.func51,Tryz.ntmps51
 go_upto_region 1 with fail
 rw [<- hV]
 clear hV
 obtain ⟨pr,hpr0⟩:∃ p,p = W.heap.size + 1 + 1:=⟨_,rfl⟩
 obtain ⟨pb,hpb0⟩:∃ p,p = W.heap.size + 1:=⟨_,rfl⟩
 obtain ⟨pa,hpa0⟩:∃ p,p = W.heap.size:=⟨_,rfl⟩
 rw [<- hpr0] at CR
 rw [<- hpb0] at CB
 rw [<- hpa0] at CA
 rw [<- hpr0,<- hpb0,<- hpa0]
 have na:pa ≠ fb:=by omega
 have nb:pb ≠ fb:=by omega
 have nr:pr ≠ fb:=by omega
 have nr':fb ≠ pr:=by omega
 have hpr:W.heap.size <= pr:=by omega
 clear hpr0 hpb0 hpa0 hbW
 refine RV.rs [.some (.pointer (some ⟨fb,fo,none⟩)),.some (.pointer (some ⟨pa,0,none⟩)),.some (.int .i64 x.x),.some (.pointer (some ⟨pb,0,none⟩)),.some (.int .i64 y.x),.some (.int .i64 (dv1 x.x y.x)),.some (.pointer (some ⟨fb,fo,none⟩)),.some (.pointer (some ⟨pa,1,none⟩)),.some (.int .i64 x.y),.some (.pointer (some ⟨pb,1,none⟩)),.some (.int .i64 y.y),.some (.int .i64 (dv1 x.y y.y)),.some (.pointer (some ⟨fb,fo,none⟩)),.some (.pointer (some ⟨pa,2,none⟩)),.some (.int .i64 x.z),.some (.pointer (some ⟨pb,2,none⟩)),.some (.int .i64 y.z),.some (.int .i64 (dv1 x.z y.z)),.some (.agg #[.int .i64 (dv1 x.x y.x),.int .i64 (dv1 x.y y.y),.int .i64 (dv1 x.z y.z)]),none] [8,9,10,11,12,13,14,15,16,17,18,19,20,21,22,23,24,25,26,0] [(0,.pointer (some ⟨fb,fo,none⟩)),(4,.pointer (some ⟨pa,0,none⟩)),(5,.pointer (some ⟨pb,0,none⟩)),(6,.pointer (some ⟨pr,0,none⟩))] (fun γ L w9=>FGS V ⟨fb,fo,none⟩ f [(5,dv1B x.x y.x),(11,dv1B x.y y.y),(17,dv1B x.z y.z)] 19 (fun w=>(((w.setCell ⟨pr,0,none⟩ (.int .i64 (dv1 x.x y.x))).setCell ⟨pr,1,none⟩ (.int .i64 (dv1 x.y y.y))).setCell ⟨pr,2,none⟩ (.int .i64 (dv1 x.z y.z)))) L w9) ⟨rfl,rfl,rfl,rfl,trivial⟩ ?_ ?_ ?_
 ·exact FGS.start hcV hfV
 ·intro D WA Z hD hWA hZ T
  simp only [RV.Outs,RV.Slots,Nat.reduceAdd] at T
  iterate 5 first
   | (refine RV.cc _ (RV.pu T (fun γ v L w hl h=>h.stay (by decide) rfl) (fun γ L a w hH hl h9 k9=>⟨_,?_,rfl⟩)) ?_;· simp [execOp,go_sem,h9])
   | (refine RV.cc _ (RV.pu T (fun γ v L w hl h=>h.stay (by decide) rfl) (fun γ L a w hH hl h9 k9=>⟨_,?_,rfl⟩)) ?_;· have hG:=hH.glob.early (RV.ny hH (RV.wt (j:=19) hWA (by kernel_rfl)) hl);have q0:=hG.at (CA 0 _ rfl).1 na;have q1:=hG.at (CB 0 _ rfl).1 nb;simp [Region.binds] at k9;simp [execOp,go_sem,h9,k9,q0,q1])
  refine RV.cc _ (RV.dc (fun γ L a w hH hl hA=>by have h9:=T γ L a w hH;have k9:=hA;simp [Region.binds] at k9;have hG:=hH.glob.early (RV.ny hH (RV.wt (j:=19) (i:=5) hWA (by kernel_rfl)) hl);exact ⟨102,#[.pointer (some ⟨fb,fo,none⟩),.int .i64 x.x,.int .i64 y.x],by simp [go_sem,h9,k9],Calls.mono (cdv1_c fb fo _ x.x y.x w hG.cell hG.frozen) (by rintro e w2 ⟨rfl,ha⟩;exact ⟨_,rfl,rfl,fun j v _ h=>h.keep _,FGS.come hG (by decide) (RV.ny hH (RV.wt (j:=19) (i:=5) hWA (by kernel_rfl)) hl) hl rfl ha.out⟩)⟩)) ?_
  iterate 5 first
   | (refine RV.cc _ (RV.pu T (fun γ v L w hl h=>h.stay (by decide) rfl) (fun γ L a w hH hl h9 k9=>⟨_,?_,rfl⟩)) ?_;· simp [execOp,go_sem,h9])
   | (refine RV.cc _ (RV.pu T (fun γ v L w hl h=>h.stay (by decide) rfl) (fun γ L a w hH hl h9 k9=>⟨_,?_,rfl⟩)) ?_;· have hG:=hH.glob.early (RV.ny hH (RV.wt (j:=19) hWA (by kernel_rfl)) hl);have q0:=hG.at (CA 1 _ rfl).1 na;have q1:=hG.at (CB 1 _ rfl).1 nb;simp [Region.binds] at k9;simp [execOp,go_sem,h9,k9,q0,q1])
  refine RV.cc _ (RV.dc (fun γ L a w hH hl hA=>by have h9:=T γ L a w hH;have k9:=hA;simp [Region.binds] at k9;have hG:=hH.glob.early (RV.ny hH (RV.wt (j:=19) (i:=11) hWA (by kernel_rfl)) hl);exact ⟨102,#[.pointer (some ⟨fb,fo,none⟩),.int .i64 x.y,.int .i64 y.y],by simp [go_sem,h9,k9],Calls.mono (cdv1_c fb fo _ x.y y.y w hG.cell hG.frozen) (by rintro e w2 ⟨rfl,ha⟩;exact ⟨_,rfl,rfl,fun j v _ h=>h.keep _,FGS.come hG (by decide) (RV.ny hH (RV.wt (j:=19) (i:=11) hWA (by kernel_rfl)) hl) hl rfl ha.out⟩)⟩)) ?_
  iterate 5 first
   | (refine RV.cc _ (RV.pu T (fun γ v L w hl h=>h.stay (by decide) rfl) (fun γ L a w hH hl h9 k9=>⟨_,?_,rfl⟩)) ?_;· simp [execOp,go_sem,h9])
   | (refine RV.cc _ (RV.pu T (fun γ v L w hl h=>h.stay (by decide) rfl) (fun γ L a w hH hl h9 k9=>⟨_,?_,rfl⟩)) ?_;· have hG:=hH.glob.early (RV.ny hH (RV.wt (j:=19) hWA (by kernel_rfl)) hl);have q0:=hG.at (CA 2 _ rfl).1 na;have q1:=hG.at (CB 2 _ rfl).1 nb;simp [Region.binds] at k9;simp [execOp,go_sem,h9,k9,q0,q1])
  refine RV.cc _ (RV.dc (fun γ L a w hH hl hA=>by have h9:=T γ L a w hH;have k9:=hA;simp [Region.binds] at k9;have hG:=hH.glob.early (RV.ny hH (RV.wt (j:=19) (i:=17) hWA (by kernel_rfl)) hl);exact ⟨102,#[.pointer (some ⟨fb,fo,none⟩),.int .i64 x.z,.int .i64 y.z],by simp [go_sem,h9,k9],Calls.mono (cdv1_c fb fo _ x.z y.z w hG.cell hG.frozen) (by rintro e w2 ⟨rfl,ha⟩;exact ⟨_,rfl,rfl,fun j v _ h=>h.keep _,FGS.come hG (by decide) (RV.ny hH (RV.wt (j:=19) (i:=17) hWA (by kernel_rfl)) hl) hl rfl ha.out⟩)⟩)) ?_
  (refine RV.cc _ (RV.pu T (fun γ v L w hl h=>h.stay (by decide) rfl) (fun γ L a w hH hl h9 k9=>⟨_,?_,rfl⟩)) ?_;· simp [Region.binds] at k9;simp [execOp,go_sem,h9,k9])
  refine RV.cc _ (RV.does_store (fun γ L a w hH hl hA=>by have h9:=T γ L a w hH;have k9:=hA;simp [Region.binds] at k9;have hG:=hH.glob.early hl;have z0:=hG.at (CR 0 _ rfl).1 nr;have zf0:=hG.open (CR 0 _ rfl).1 (CR 0 _ rfl).2 nr;have z1:=hG.at (CR 1 _ rfl).1 nr;have zf1:=hG.open (CR 1 _ rfl).1 (CR 1 _ rfl).2 nr;have z2:=hG.at (CR 2 _ rfl).1 nr;have zf2:=hG.open (CR 2 _ rfl).1 (CR 2 _ rfl).2 nr;exact ⟨(((w.setCell ⟨pr,0,none⟩ (.int .i64 (dv1 x.x y.x))).setCell ⟨pr,1,none⟩ (.int .i64 (dv1 x.y y.y))).setCell ⟨pr,2,none⟩ (.int .i64 (dv1 x.z y.z))),by simp [execOp,go_sem,z0,zf0,z1,zf1,z2,zf2,h9,k9],trivial,fun j v _ h=>h.keep _,FGS.store (S:=fun w=>(((w.setCell ⟨pr,0,none⟩ (.int .i64 (dv1 x.x y.x))).setCell ⟨pr,1,none⟩ (.int .i64 (dv1 x.y y.y))).setCell ⟨pr,2,none⟩ (.int .i64 (dv1 x.z y.z)))) hG rfl⟩)) ?_
  exact RV.AllDo.nil
 ·intro γ w5 L9 hL hI9 hG9
  obtain ⟨w8,hF8,rfl⟩:=hG9.late (hL 19 (by decide))
  have hFL:orL f [(5,dv1B x.x y.x),(11,dv1B x.y y.y),(17,dv1B x.z y.z)] L9 = (f || (dv1B x.x y.x || dv1B x.y y.y || dv1B x.z y.z)):=by unfold orL;simp only [List.any_cons,List.any_nil,hL 5 (by decide),hL 11 (by decide),hL 17 (by decide),Bool.true_and,Bool.or_false,Bool.or_assoc]
  have HA8:Hid (After _ _ _ _):=hF8.leaves.done hF8.cell hF8.frozen
  rw [hFL] at HA8
  clear hF8 hFL
  clear hL hI9 hG9
  simp only [RV.putL,Act.put,List.setIfInBounds_toArray,List.set_cons_zero,List.set_cons_succ]
  have C1:Hid (CW w8 pr _):=(CR.leaves HA8.out.leaves nr)
  have HL:Hid (Leaves ⟨fb,fo,none⟩ W _):=HLV.out.same HA8.out
  have hc8:=HA8.out.cell
  have hf8:=HA8.out.frozen
  obtain ⟨r0,q0⟩:=C1.out 0 _ rfl
  obtain ⟨r1,q1⟩:=C1.out 1 _ rfl
  obtain ⟨r2,q2⟩:=C1.out 2 _ rfl
  clear C1 HA8
  go_wp2_with (fail)
  refine bodyPost_ret (by simp [results,Tryz.results51,go_sem,r0,r1,r2];try rfl) rfl ?_
  refine ⟨rfl,(((HL.out.set hpr _).set hpr _).set hpr _).done ?_ ?_⟩
  ·simp [go_sem,hc8,divB]
  ·simp [go_sem,hf8]
end
section
open Go.RowKit Go.Shelf Fx
def if2 (k:Int) (a:V3):V3:=if k = 2 then a else ⟨0,0,0⟩
def if2B (k:Int) (a:Bool):Bool:=if k = 2 then a else false
def spdV (b:Bd):V3:=divV b.p ⟨b.m,b.m,b.m⟩
def spdB (b:Bd):Bool:=divB b.p ⟨b.m,b.m,b.m⟩
def yldM (b:Bd) (l:V3):V3:=divV (trnV (rowM b.q).t l) b.i
def yldV (b:Bd) (l:V3):V3:=trnV (rowM b.q) (yldM b l)
def yldB (b:Bd) (l:V3):Bool:=rowB b.q || (trnB (rowM b.q).t l || divB (trnV (rowM b.q).t l) b.i || trnB (rowM b.q) (yldM b l))
theorem speed1_any (fb fo pb pw ps:Nat) (f:Bool) (b:Bd) (R:List Value) (u0 u1 u2:Value) (V:World) (hc:V.cell? ⟨fb,fo,none⟩ = some (.bool f)) (hf:V.frozen? ⟨fb,fo,none⟩ = false)
  (CB:CW V pb (b.L R)) (CP:CW V pw [.pointer (some ⟨fb,fo,none⟩)]) (CS:CW V ps [u0,u1,u2]) (n3:ps ≠ fb) :
  Calls Tryz.prog 50 #[.pointer (some ⟨pb,0,none⟩),.pointer (some ⟨pw,0,none⟩),.pointer (some ⟨ps,0,none⟩)] V fun e W'=>e = .returned (.tuple #[])/\Hid (Clo ⟨fb,fo,none⟩ (f || spdB b) ps [.int .i64 (spdV b).x,.int .i64 (spdV b).y,.int .i64 (spdV b).z] V W'):=by
 have k8:=(CB 8 _ rfl).1
 have k9:=(CB 9 _ rfl).1
 have ka:=(CB 10 _ rfl).1
 have ke:=(CB 14 _ rfl).1
 have kw:=(CP 0 _ rfl).1
 have HC:Hid _:=cdiv_any fb fo f b.p ⟨b.m,b.m,b.m⟩ V hc hf
 have HS:Hid _:=Clo.start hc hf CS
 clear CB CP CS hc hf
 go_enter Tryz.func50,Tryz.ntmps50
 go_wp2_with (fail)
 refine Calls.mono HC.out ?_
 rintro e W1 ⟨rfl,A⟩
 have HS:Hid (Clo _ _ _ _ _ _):=HS.out.same A.out n3
 obtain ⟨r0,q0⟩:=HS.out.cw 0 _ rfl
 obtain ⟨r1,q1⟩:=HS.out.cw 1 _ rfl
 obtain ⟨r2,q2⟩:=HS.out.cw 2 _ rfl
 clear HC A k8 k9 ka ke kw
 go_wp2_with (fail)
 go_end0
 exact ⟨rfl,((HS.out.set n3 0 _ (by simp)).set n3 1 _ (by simp)).set n3 2 _ (by simp)⟩
theorem yield1_any (fb fo pw pb pl ps:Nat) (f:Bool) (b:Bd) (R:List Value) (l:V3) (u0 u1 u2:Value) (V:World) (hc:V.cell? ⟨fb,fo,none⟩ = some (.bool f)) (hf:V.frozen? ⟨fb,fo,none⟩ = false)
  (Cb:CW V pb (b.L R)) (Cw:CW V pw [.pointer (some ⟨fb,fo,none⟩)]) (Cl:CW V pl [.int .i64 l.x,.int .i64 l.y,.int .i64 l.z]) (Cs:CW V ps [u0,u1,u2]) (nb:pb ≠ fb) (nw:pw ≠ fb) (nl:pl ≠ fb) (n3:ps ≠ fb) :
  Calls Tryz.prog 53 #[.pointer (some ⟨pw,0,none⟩),.pointer (some ⟨pb,0,none⟩),.pointer (some ⟨pl,0,none⟩),.pointer (some ⟨ps,0,none⟩)] V fun e W'=>e = .returned (.tuple #[])/\Hid (Clo ⟨fb,fo,none⟩ (f || yldB b l) ps [.int .i64 (yldV b l).x,.int .i64 (yldV b l).y,.int .i64 (yldV b l).z] V W'):=by
 have k4:=(Cb 4 _ rfl).1
 have k5:=(Cb 5 _ rfl).1
 have k6:=(Cb 6 _ rfl).1
 have k7:=(Cb 7 _ rfl).1
 have kw:=(Cw 0 _ rfl).1
 have hfl:fb < V.heap.size:=World.block_lt_of_cell? _ _ hc
 have HC:Hid _:=crow_c fb fo f b.q V hc hf
 have HS:Hid _:=Clo.start hc hf Cs
 clear hc hf
 go_enter Tryz.func53,Tryz.ntmps53
 go_wp2_with (fail)
 refine Calls.mono HC.out ?_
 rintro e W1 ⟨rfl,A⟩
 have HS:Hid (Clo _ _ _ _ _ _):=HS.out.same A.out n3
 have Cb:=Cb.after A.out nb
 have Cw:=Cw.after A.out nw
 have Cl:=Cl.after A.out nl
 have hfl:=Nat.lt_of_lt_of_le hfl A.out.size
 clear HC A k4 k5 k6 k7 kw Cs
 go_upto_region 1 with fail
 obtain ⟨V1,hV1⟩:∃ X,X = W1.alloc (.cells #[.int .i64 (rowM b.q).a.x,.int .i64 (rowM b.q).a.y,.int .i64 (rowM b.q).a.z,.int .i64 (rowM b.q).b.x,.int .i64 (rowM b.q).b.y,.int .i64 (rowM b.q).b.z,.int .i64 (rowM b.q).c.x,.int .i64 (rowM b.q).c.y,.int .i64 (rowM b.q).c.z] 94):=⟨_,rfl⟩
 have hb:=n_after W1 (.cells #[.int .i64 (rowM b.q).a.x,.int .i64 (rowM b.q).a.y,.int .i64 (rowM b.q).a.z,.int .i64 (rowM b.q).b.x,.int .i64 (rowM b.q).b.y,.int .i64 (rowM b.q).b.z,.int .i64 (rowM b.q).c.x,.int .i64 (rowM b.q).c.y,.int .i64 (rowM b.q).c.z] 94)
 have Cm:=CW.new W1 [.int .i64 (rowM b.q).a.x,.int .i64 (rowM b.q).a.y,.int .i64 (rowM b.q).a.z,.int .i64 (rowM b.q).b.x,.int .i64 (rowM b.q).b.y,.int .i64 (rowM b.q).b.z,.int .i64 (rowM b.q).c.x,.int .i64 (rowM b.q).c.y,.int .i64 (rowM b.q).c.z] 94
 rw [<- hV1] at hb Cm
 have HS:Hid (Clo _ _ _ _ _ _):=HS.out.step hb
 have Cb:=Cb.step hb
 have Cw:=Cw.step hb
 have Cl:=Cl.step hb
 have Cs:=HS.out.cw
 have hcV:=HS.out.cell
 have hfV:=HS.out.frozen
 rw [<- hV1]
 obtain ⟨pm,hpm⟩:∃ p,p = W1.heap.size:=⟨_,rfl⟩
 rw [<- hpm] at Cm ⊢
 have nm:pm ≠ fb:=by omega
 clear hpm hb hfl hV1
 refine RV.rs [.some (.pointer (some ⟨fb,fo,none⟩)),.some (.agg #[.int .i64 ((rowM b.q).a.x),.int .i64 ((rowM b.q).a.y),.int .i64 ((rowM b.q).a.z),.int .i64 ((rowM b.q).b.x),.int .i64 ((rowM b.q).b.y),.int .i64 ((rowM b.q).b.z),.int .i64 ((rowM b.q).c.x),.int .i64 ((rowM b.q).c.y),.int .i64 ((rowM b.q).c.z)]),.some (.pointer (some ⟨fb,fo,none⟩)),.some (.pointer (some ⟨fb,fo,none⟩)),.some (.agg #[.int .i64 ((rowM b.q).a.x),.int .i64 ((rowM b.q).a.y),.int .i64 ((rowM b.q).a.z),.int .i64 ((rowM b.q).b.x),.int .i64 ((rowM b.q).b.y),.int .i64 ((rowM b.q).b.z),.int .i64 ((rowM b.q).c.x),.int .i64 ((rowM b.q).c.y),.int .i64 ((rowM b.q).c.z)]),.some (.agg #[.int .i64 l.x,.int .i64 l.y,.int .i64 l.z]),.some (.agg #[.int .i64 ((trnV (rowM b.q).t l).x),.int .i64 ((trnV (rowM b.q).t l).y),.int .i64 ((trnV (rowM b.q).t l).z)]),.some (.pointer (some ⟨pb,14,none⟩)),.some (.pointer (some ⟨pb,15,none⟩)),.some (.agg #[.int .i64 b.i.x,.int .i64 b.i.y,.int .i64 b.i.z]),.some (.agg #[.int .i64 ((yldM b l).x),.int .i64 ((yldM b l).y),.int .i64 ((yldM b l).z)]),.some (.agg #[.int .i64 ((yldV b l).x),.int .i64 ((yldV b l).y),.int .i64 ((yldV b l).z)]),none] [11,12,13,14,15,16,17,18,19,20,21,22,0] [(0,.pointer (some ⟨pw,0,none⟩)),(1,.pointer (some ⟨pb,0,none⟩)),(2,.pointer (some ⟨pl,0,none⟩)),(3,.pointer (some ⟨ps,0,none⟩)),(4,.pointer (some ⟨pm,0,none⟩))] (fun γ L w9=>FGS V1 ⟨fb,fo,none⟩ (f || rowB b.q) [(6,trnB (rowM b.q).t l),(10,divB (trnV (rowM b.q).t l) b.i),(11,trnB (rowM b.q) (yldM b l))] 12 (fun w=>(((w.setCell ⟨ps,0,none⟩ (.int .i64 ((yldV b l).x))).setCell ⟨ps,1,none⟩ (.int .i64 ((yldV b l).y))).setCell ⟨ps,2,none⟩ (.int .i64 ((yldV b l).z)))) L w9) ⟨rfl,rfl,rfl,rfl,rfl,trivial⟩ ?_ ?_ ?_
 ·exact FGS.start hcV hfV
 ·intro D WA Z hD hWA hZ T
  simp only [RV.Outs,RV.Slots,Nat.reduceAdd] at T
  iterate 6 (refine RV.cc _ (RV.pu T (fun γ v L w hl h=>h.stay (by decide) rfl) (fun γ L a w hH hl h9 k9=>⟨_,?_,rfl⟩)) ?_;· have hG:=hH.glob.early (RV.ny hH (RV.wt (j:=12) hWA (by kernel_rfl)) hl);have q0:=hG.at (Cw 0 _ rfl).1 nw;have q1:=hG.at (Cm 0 _ rfl).1 nm;have q2:=hG.at (Cm 1 _ rfl).1 nm;have q3:=hG.at (Cm 2 _ rfl).1 nm;have q4:=hG.at (Cm 3 _ rfl).1 nm;have q5:=hG.at (Cm 4 _ rfl).1 nm;have q6:=hG.at (Cm 5 _ rfl).1 nm;have q7:=hG.at (Cm 6 _ rfl).1 nm;have q8:=hG.at (Cm 7 _ rfl).1 nm;have q9:=hG.at (Cm 8 _ rfl).1 nm;have q10:=hG.at (Cl 0 _ rfl).1 nl;have q11:=hG.at (Cl 1 _ rfl).1 nl;have q12:=hG.at (Cl 2 _ rfl).1 nl;simp [execOp,go_sem,h9,q0,q1,q2,q3,q4,q5,q6,q7,q8,q9,q10,q11,q12])
  refine RV.cc _ (RV.dc (fun γ L a w hH hl hA=>by have h9:=T γ L a w hH;have k9:=hA;simp [Region.binds] at k9;have hG:=hH.glob.early (RV.ny hH (RV.wt (j:=12) (i:=6) hWA (by kernel_rfl)) hl);exact ⟨56,#[.pointer (some ⟨fb,fo,none⟩),.agg #[.int .i64 ((rowM b.q).a.x),.int .i64 ((rowM b.q).a.y),.int .i64 ((rowM b.q).a.z),.int .i64 ((rowM b.q).b.x),.int .i64 ((rowM b.q).b.y),.int .i64 ((rowM b.q).b.z),.int .i64 ((rowM b.q).c.x),.int .i64 ((rowM b.q).c.y),.int .i64 ((rowM b.q).c.z)],.agg #[.int .i64 l.x,.int .i64 l.y,.int .i64 l.z]],by simp [go_sem,h9,k9],Calls.mono (cbck_c fb fo _ (rowM b.q) l w hG.cell hG.frozen) (by rintro e w2 ⟨rfl,ha⟩;exact ⟨_,rfl,rfl,fun j v _ h=>h.keep _,FGS.come hG (by decide) (RV.ny hH (RV.wt (j:=12) (i:=6) hWA (by kernel_rfl)) hl) hl rfl ha.out⟩)⟩)) ?_
  iterate 3 first
   | (refine RV.cc _ (RV.pu T (fun γ v L w hl h=>h.stay (by decide) rfl) (fun γ L a w hH hl h9 k9=>⟨_,?_,rfl⟩)) ?_;· simp [execOp,go_sem,h9])
   | (refine RV.cc _ (RV.pu T (fun γ v L w hl h=>h.stay (by decide) rfl) (fun γ L a w hH hl h9 k9=>⟨_,?_,rfl⟩)) ?_;· simp [Region.binds] at k9;simp [execOp,go_sem,h9,k9])
   | (refine RV.cc _ (RV.pu T (fun γ v L w hl h=>h.stay (by decide) rfl) (fun γ L a w hH hl h9 k9=>⟨_,?_,rfl⟩)) ?_;· have hG:=hH.glob.early (RV.ny hH (RV.wt (j:=12) hWA (by kernel_rfl)) hl);have q0:=hG.at (Cb 15 _ rfl).1 nb;have q1:=hG.at (Cb 16 _ rfl).1 nb;have q2:=hG.at (Cb 17 _ rfl).1 nb;simp [Region.binds] at k9;simp [execOp,go_sem,h9,k9,q0,q1,q2])
  refine RV.cc _ (RV.dc (fun γ L a w hH hl hA=>by have h9:=T γ L a w hH;have k9:=hA;simp [Region.binds] at k9;have hG:=hH.glob.early (RV.ny hH (RV.wt (j:=12) (i:=10) hWA (by kernel_rfl)) hl);exact ⟨51,#[.pointer (some ⟨fb,fo,none⟩),.agg #[.int .i64 ((trnV (rowM b.q).t l).x),.int .i64 ((trnV (rowM b.q).t l).y),.int .i64 ((trnV (rowM b.q).t l).z)],.agg #[.int .i64 b.i.x,.int .i64 b.i.y,.int .i64 b.i.z]],by simp [go_sem,h9,k9],Calls.mono (cdiv_any fb fo _ (trnV (rowM b.q).t l) b.i w hG.cell hG.frozen) (by rintro e w2 ⟨rfl,ha⟩;exact ⟨_,rfl,rfl,fun j v _ h=>h.keep _,FGS.come hG (by decide) (RV.ny hH (RV.wt (j:=12) (i:=10) hWA (by kernel_rfl)) hl) hl rfl ha.out⟩)⟩)) ?_
  refine RV.cc _ (RV.dc (fun γ L a w hH hl hA=>by have h9:=T γ L a w hH;have k9:=hA;simp [Region.binds] at k9;have hG:=hH.glob.early (RV.ny hH (RV.wt (j:=12) (i:=11) hWA (by kernel_rfl)) hl);exact ⟨55,#[.pointer (some ⟨fb,fo,none⟩),.agg #[.int .i64 ((rowM b.q).a.x),.int .i64 ((rowM b.q).a.y),.int .i64 ((rowM b.q).a.z),.int .i64 ((rowM b.q).b.x),.int .i64 ((rowM b.q).b.y),.int .i64 ((rowM b.q).b.z),.int .i64 ((rowM b.q).c.x),.int .i64 ((rowM b.q).c.y),.int .i64 ((rowM b.q).c.z)],.agg #[.int .i64 ((yldM b l).x),.int .i64 ((yldM b l).y),.int .i64 ((yldM b l).z)]],by simp [go_sem,h9,k9],Calls.mono (ctrn_c fb fo _ (rowM b.q) (yldM b l) w hG.cell hG.frozen) (by rintro e w2 ⟨rfl,ha⟩;exact ⟨_,rfl,rfl,fun j v _ h=>h.keep _,FGS.come hG (by decide) (RV.ny hH (RV.wt (j:=12) (i:=11) hWA (by kernel_rfl)) hl) hl rfl ha.out⟩)⟩)) ?_
  refine RV.cc _ (RV.does_store (fun γ L a w hH hl hA=>by have h9:=T γ L a w hH;have k9:=hA;simp [Region.binds] at k9;have hG:=hH.glob.early hl;have z0:=hG.at (Cs 0 _ rfl).1 n3;have zf0:=hG.open (Cs 0 _ rfl).1 (Cs 0 _ rfl).2 n3;have z1:=hG.at (Cs 1 _ rfl).1 n3;have zf1:=hG.open (Cs 1 _ rfl).1 (Cs 1 _ rfl).2 n3;have z2:=hG.at (Cs 2 _ rfl).1 n3;have zf2:=hG.open (Cs 2 _ rfl).1 (Cs 2 _ rfl).2 n3;exact ⟨(((w.setCell ⟨ps,0,none⟩ (.int .i64 ((yldV b l).x))).setCell ⟨ps,1,none⟩ (.int .i64 ((yldV b l).y))).setCell ⟨ps,2,none⟩ (.int .i64 ((yldV b l).z))),by simp [execOp,go_sem,z0,zf0,z1,zf1,z2,zf2,h9,k9],trivial,fun j v _ h=>h.keep _,FGS.store (S:=fun w=>(((w.setCell ⟨ps,0,none⟩ (.int .i64 ((yldV b l).x))).setCell ⟨ps,1,none⟩ (.int .i64 ((yldV b l).y))).setCell ⟨ps,2,none⟩ (.int .i64 ((yldV b l).z)))) hG rfl⟩)) ?_
  exact RV.AllDo.nil
 ·intro γ w5 L9 hL hI9 hG9
  obtain ⟨w8,hF8,rfl⟩:=hG9.late (hL 12 (by decide))
  have hFL:orL (f || rowB b.q) [(6,trnB (rowM b.q).t l),(10,divB (trnV (rowM b.q).t l) b.i),(11,trnB (rowM b.q) (yldM b l))] L9 = ((f || rowB b.q) || (trnB (rowM b.q).t l || divB (trnV (rowM b.q).t l) b.i || trnB (rowM b.q) (yldM b l))):=by unfold orL;simp only [List.any_cons,List.any_nil,hL 6 (by decide),hL 10 (by decide),hL 11 (by decide),Bool.true_and,Bool.or_false,Bool.or_assoc]
  have HA8:Hid (After _ _ _ _):=hF8.leaves.done hF8.cell hF8.frozen
  rw [hFL] at HA8
  clear hF8 hFL
  clear hL hI9 hG9
  simp only [RV.putL,Act.put,List.setIfInBounds_toArray,List.set_cons_zero,List.set_cons_succ]
  have HS:Hid (Clo _ _ _ _ _ _):=HS.out.same HA8.out n3
  have e9:(f || rowB b.q || (trnB (rowM b.q).t l || divB (trnV (rowM b.q).t l) b.i || trnB (rowM b.q) (yldM b l))) = (f || yldB b l):=by unfold yldB;rw [Bool.or_assoc f]
  rw [e9] at HS
  clear HA8 e9
  go_wp2_with (fail)
  go_end0
  exact ⟨rfl,((HS.out.set n3 0 _ (by simp)).set n3 1 _ (by simp)).set n3 2 _ (by simp)⟩
theorem speed_any (fb fo:Nat) (f:Bool) (b:Bd) (R:List Value) (hR:Rest R) (W:World) (hc:W.cell? ⟨fb,fo,none⟩ = some (.bool f)) (hf:W.frozen? ⟨fb,fo,none⟩ = false) :
  Calls Tryz.prog 14 #[.pointer (some ⟨fb,fo,none⟩),.agg (b.L R).toArray] W fun e W'=>e = .returned (if2 b.k (spdV b)).val/\Hid (After ⟨fb,fo,none⟩ (f || if2B b.k (spdB b)) W W'):=by
 have hbW:fb < W.heap.size:=World.block_lt_of_cell? _ _ hc
 have hz:Hid _:=body_size hR b
 obtain ⟨V,hV⟩:∃ V,V = (((W.alloc (.cells #[.pointer (some ⟨fb,fo,none⟩)] 40)).alloc (.cells (b.L R).toArray 35)).alloc (.cells #[.int .i64 0,.int .i64 0,.int .i64 0] 23)):=⟨_,rfl⟩
 have hb0:=n_after W (.cells #[.pointer (some ⟨fb,fo,none⟩)] 40)
 have hb1:=n_after (W.alloc (.cells #[.pointer (some ⟨fb,fo,none⟩)] 40)) (.cells (b.L R).toArray 35)
 have hb2:=n_after ((W.alloc (.cells #[.pointer (some ⟨fb,fo,none⟩)] 40)).alloc (.cells (b.L R).toArray 35)) (.cells #[.int .i64 0,.int .i64 0,.int .i64 0] 23)
 have Cw:CW V (W.heap.size) [.pointer (some ⟨fb,fo,none⟩)]:=by
  have h9:=((CW.new W [.pointer (some ⟨fb,fo,none⟩)] 40).step hb1).step hb2
  rw [hV];exact h9
 have Cb:CW V (W.heap.size + 1) (b.L R):=by
  have h9:=(CW.new (W.alloc (.cells #[.pointer (some ⟨fb,fo,none⟩)] 40)) (b.L R) 35).step hb2
  simp only [World.size_alloc] at h9
  rw [hV];exact h9
 have Cs:CW V (W.heap.size + 1 + 1) [.int .i64 0,.int .i64 0,.int .i64 0]:=by
  have h9:=CW.new ((W.alloc (.cells #[.pointer (some ⟨fb,fo,none⟩)] 40)).alloc (.cells (b.L R).toArray 35)) [.int .i64 0,.int .i64 0,.int .i64 0] 23
  simp only [World.size_alloc] at h9
  rw [hV];exact h9
 have hB:Below W.heap.size W V:=by rw [hV];exact (b_step (b_step hb0 hb1) hb2)
 have hcV:=c_after hB hc
 have hfV:=f_after hB hc hf
 have HLV:Hid (Leaves ⟨fb,fo,none⟩ W V):=(Leaves.refl _ _).step hB
 clear hb0 hb1 hb2
 clear hc hf hB
 go_enter Tryz.func14,Tryz.ntmps14
 go_upto_region 1 with fail
 rw [<- hV]
 clear hV
 obtain ⟨ps,hps⟩:∃ p,p = W.heap.size + 1 + 1:=⟨_,rfl⟩
 obtain ⟨pb,hpb⟩:∃ p,p = W.heap.size + 1:=⟨_,rfl⟩
 obtain ⟨pw,hpw⟩:∃ p,p = W.heap.size:=⟨_,rfl⟩
 rw [<- hps] at Cs
 rw [<- hpb] at Cb
 rw [<- hpw] at Cw
 rw [<- hps,<- hpb,<- hpw]
 have nw:pw ≠ fb:=by omega
 have nb:pb ≠ fb:=by omega
 have ns:ps ≠ fb:=by omega
 have hWs:W.heap.size <= ps:=by omega
 have HRG:Hid (World.rangeAt V pb 0 (b.L R)):=Cb.range
 by_cases hk:b.k = 2
 ·have HC:Hid _:=ifm_yes b R hk 50 #[.pointer (some ⟨pb,0,none⟩),.pointer (some ⟨pw,0,none⟩),.pointer (some ⟨ps,0,none⟩)] (enters_of Tryz.func50 (by kernel_rfl) rfl) (fun X=>Hid (Clo ⟨fb,fo,none⟩ (f || spdB b) ps [.int .i64 (spdV b).x,.int .i64 (spdV b).y,.int .i64 (spdV b).z] (V.alloc (.cells (b.L R).toArray 35)) X)) V
   (speed1_any fb fo pb pw ps f b R _ _ _ (V.alloc (.cells (b.L R).toArray 35)) (c_after (n_after _ _) hcV) (f_after (n_after _ _) hcV hfV) (Cb.step (n_after _ _)) (Cw.step (n_after _ _)) (Cs.step (n_after _ _)) ns)
  clear Cw Cb Cs hpw hpb hps
  go_wp2_with (refine wpList_load_mid rfl 35 _ rfl pb 0 rfl _ _ HRG.out Tryz.underlying35 rfl hz.out ?_)
  refine Calls.mono HC.out ?_
  rintro e W1 ⟨rfl,HK⟩
  have HL:Hid (Leaves ⟨fb,fo,none⟩ W W1):=(HLV.out.step ((n_after V _).mono HLV.out.size)).two HK.out.two hbW hWs
  obtain ⟨r0,q0⟩:=HK.out.cw 0 _ rfl
  obtain ⟨r1,q1⟩:=HK.out.cw 1 _ rfl
  obtain ⟨r2,q2⟩:=HK.out.cw 2 _ rfl
  have hc8:=HK.out.cell
  have hf8:=HK.out.frozen
  have n3':fb ≠ ps:=fun e=>ns e.symm
  clear HC HK HRG hcV hfV HLV
  go_wp2_with (fail)
  refine bodyPost_ret (by simp [results,Tryz.results14,go_sem,r0,r1,r2];try rfl) rfl ?_
  refine ⟨by rw [if2,if_pos hk],(((HL.out.set hWs _).set hWs _).set hWs _).done ?_ ?_⟩
  ·rw [if2B,if_pos hk];simp [go_sem,hc8]
  ·simp [go_sem,hf8]
 ·have HC:Hid _:=ifm_no b R (.func (.func 50) #[] #[.pointer (some ⟨pb,0,none⟩),.pointer (some ⟨pw,0,none⟩),.pointer (some ⟨ps,0,none⟩)]) hk V
  clear Cw Cb hpw hpb hps
  go_wp2_with (refine wpList_load_mid rfl 35 _ rfl pb 0 rfl _ _ HRG.out Tryz.underlying35 rfl hz.out ?_)
  refine Calls.mono HC.out ?_
  rintro e W1 ⟨rfl,HK⟩
  have HL:Hid (Leaves ⟨fb,fo,none⟩ W W1):=HLV.out.step (HK.out.mono HLV.out.size)
  have Cs:=Cs.step HK.out
  obtain ⟨r0,q0⟩:=Cs 0 _ rfl
  obtain ⟨r1,q1⟩:=Cs 1 _ rfl
  obtain ⟨r2,q2⟩:=Cs 2 _ rfl
  have hc8:=c_after HK.out hcV
  have hf8:=f_after HK.out hcV hfV
  have n3':fb ≠ ps:=fun e=>ns e.symm
  clear HC HK HRG hcV hfV HLV Cs
  go_wp2_with (fail)
  refine bodyPost_ret (by simp [results,Tryz.results14,go_sem,r0,r1,r2];try rfl) rfl ?_
  refine ⟨by rw [if2,if_neg hk],(((HL.out.set hWs _).set hWs _).set hWs _).done ?_ ?_⟩
  ·rw [if2B,if_neg hk];simp [go_sem,hc8]
  ·simp [go_sem,hf8]
theorem yield_any (fb fo:Nat) (f:Bool) (b:Bd) (R:List Value) (l:V3) (hR:Rest R) (W:World) (hc:W.cell? ⟨fb,fo,none⟩ = some (.bool f)) (hf:W.frozen? ⟨fb,fo,none⟩ = false) :
  Calls Tryz.prog 18 #[.pointer (some ⟨fb,fo,none⟩),.agg (b.L R).toArray,l.val] W fun e W'=>e = .returned (if2 b.k (yldV b l)).val/\Hid (After ⟨fb,fo,none⟩ (f || if2B b.k (yldB b l)) W W'):=by
 have hbW:fb < W.heap.size:=World.block_lt_of_cell? _ _ hc
 have hz:Hid _:=body_size hR b
 obtain ⟨V,hV⟩:∃ V,V = ((((W.alloc (.cells #[.pointer (some ⟨fb,fo,none⟩)] 40)).alloc (.cells (b.L R).toArray 35)).alloc (.cells #[.int .i64 l.x,.int .i64 l.y,.int .i64 l.z] 23)).alloc (.cells #[.int .i64 0,.int .i64 0,.int .i64 0] 23)):=⟨_,rfl⟩
 have hb0:=n_after W (.cells #[.pointer (some ⟨fb,fo,none⟩)] 40)
 have hb1:=n_after (W.alloc (.cells #[.pointer (some ⟨fb,fo,none⟩)] 40)) (.cells (b.L R).toArray 35)
 have hb2:=n_after ((W.alloc (.cells #[.pointer (some ⟨fb,fo,none⟩)] 40)).alloc (.cells (b.L R).toArray 35)) (.cells #[.int .i64 l.x,.int .i64 l.y,.int .i64 l.z] 23)
 have hb3:=n_after (((W.alloc (.cells #[.pointer (some ⟨fb,fo,none⟩)] 40)).alloc (.cells (b.L R).toArray 35)).alloc (.cells #[.int .i64 l.x,.int .i64 l.y,.int .i64 l.z] 23)) (.cells #[.int .i64 0,.int .i64 0,.int .i64 0] 23)
 have Cw:CW V (W.heap.size) [.pointer (some ⟨fb,fo,none⟩)]:=by
  have h9:=(((CW.new W [.pointer (some ⟨fb,fo,none⟩)] 40).step hb1).step hb2).step hb3
  rw [hV];exact h9
 have Cb:CW V (W.heap.size + 1) (b.L R):=by
  have h9:=((CW.new (W.alloc (.cells #[.pointer (some ⟨fb,fo,none⟩)] 40)) (b.L R) 35).step hb2).step hb3
  simp only [World.size_alloc] at h9
  rw [hV];exact h9
 have Cl:CW V (W.heap.size + 1 + 1) [.int .i64 l.x,.int .i64 l.y,.int .i64 l.z]:=by
  have h9:=(CW.new ((W.alloc (.cells #[.pointer (some ⟨fb,fo,none⟩)] 40)).alloc (.cells (b.L R).toArray 35)) [.int .i64 l.x,.int .i64 l.y,.int .i64 l.z] 23).step hb3
  simp only [World.size_alloc] at h9
  rw [hV];exact h9
 have Cs:CW V (W.heap.size + 1 + 1 + 1) [.int .i64 0,.int .i64 0,.int .i64 0]:=by
  have h9:=CW.new (((W.alloc (.cells #[.pointer (some ⟨fb,fo,none⟩)] 40)).alloc (.cells (b.L R).toArray 35)).alloc (.cells #[.int .i64 l.x,.int .i64 l.y,.int .i64 l.z] 23)) [.int .i64 0,.int .i64 0,.int .i64 0] 23
  simp only [World.size_alloc] at h9
  rw [hV];exact h9
 have hB:Below W.heap.size W V:=by rw [hV];exact (b_step (b_step (b_step hb0 hb1) hb2) hb3)
 have hcV:=c_after hB hc
 have hfV:=f_after hB hc hf
 have HLV:Hid (Leaves ⟨fb,fo,none⟩ W V):=(Leaves.refl _ _).step hB
 clear hb0 hb1 hb2 hb3
 clear hc hf hB
 go_enter Tryz.func18,Tryz.ntmps18
 go_upto_region 1 with fail
 rw [<- hV]
 clear hV
 obtain ⟨ps,hps⟩:∃ p,p = W.heap.size + 1 + 1 + 1:=⟨_,rfl⟩
 obtain ⟨pl,hpl⟩:∃ p,p = W.heap.size + 1 + 1:=⟨_,rfl⟩
 obtain ⟨pb,hpb⟩:∃ p,p = W.heap.size + 1:=⟨_,rfl⟩
 obtain ⟨pw,hpw⟩:∃ p,p = W.heap.size:=⟨_,rfl⟩
 rw [<- hps] at Cs
 rw [<- hpl] at Cl
 rw [<- hpb] at Cb
 rw [<- hpw] at Cw
 rw [<- hps,<- hpl,<- hpb,<- hpw]
 have nw:pw ≠ fb:=by omega
 have nb:pb ≠ fb:=by omega
 have nl:pl ≠ fb:=by omega
 have ns:ps ≠ fb:=by omega
 have hWs:W.heap.size <= ps:=by omega
 have HRG:Hid (World.rangeAt V pb 0 (b.L R)):=Cb.range
 by_cases hk:b.k = 2
 ·have HC:Hid _:=ifm_yes b R hk 53 #[.pointer (some ⟨pw,0,none⟩),.pointer (some ⟨pb,0,none⟩),.pointer (some ⟨pl,0,none⟩),.pointer (some ⟨ps,0,none⟩)] (enters_of Tryz.func53 (by kernel_rfl) rfl) (fun X=>Hid (Clo ⟨fb,fo,none⟩ (f || yldB b l) ps [.int .i64 (yldV b l).x,.int .i64 (yldV b l).y,.int .i64 (yldV b l).z] (V.alloc (.cells (b.L R).toArray 35)) X)) V
   (yield1_any fb fo pw pb pl ps f b R l _ _ _ (V.alloc (.cells (b.L R).toArray 35)) (c_after (n_after _ _) hcV) (f_after (n_after _ _) hcV hfV) (Cb.step (n_after _ _)) (Cw.step (n_after _ _)) (Cl.step (n_after _ _)) (Cs.step (n_after _ _)) nb nw nl ns)
  clear Cw Cb Cl Cs hpw hpb hpl hps
  go_wp2_with (refine wpList_load_mid rfl 35 _ rfl pb 0 rfl _ _ HRG.out Tryz.underlying35 rfl hz.out ?_)
  refine Calls.mono HC.out ?_
  rintro e W1 ⟨rfl,HK⟩
  have HL:Hid (Leaves ⟨fb,fo,none⟩ W W1):=(HLV.out.step ((n_after V _).mono HLV.out.size)).two HK.out.two hbW hWs
  obtain ⟨r0,q0⟩:=HK.out.cw 0 _ rfl
  obtain ⟨r1,q1⟩:=HK.out.cw 1 _ rfl
  obtain ⟨r2,q2⟩:=HK.out.cw 2 _ rfl
  have hc8:=HK.out.cell
  have hf8:=HK.out.frozen
  have n3':fb ≠ ps:=fun e=>ns e.symm
  clear HC HK HRG hcV hfV HLV
  go_wp2_with (fail)
  refine bodyPost_ret (by simp [results,Tryz.results18,go_sem,r0,r1,r2];try rfl) rfl ?_
  refine ⟨by rw [if2,if_pos hk],(((HL.out.set hWs _).set hWs _).set hWs _).done ?_ ?_⟩
  ·rw [if2B,if_pos hk];simp [go_sem,hc8]
  ·simp [go_sem,hf8]
 ·have HC:Hid _:=ifm_no b R (.func (.func 53) #[] #[.pointer (some ⟨pw,0,none⟩),.pointer (some ⟨pb,0,none⟩),.pointer (some ⟨pl,0,none⟩),.pointer (some ⟨ps,0,none⟩)]) hk V
  clear Cw Cb Cl hpw hpb hpl hps
  go_wp2_with (refine wpList_load_mid rfl 35 _ rfl pb 0 rfl _ _ HRG.out Tryz.underlying35 rfl hz.out ?_)
  refine Calls.mono HC.out ?_
  rintro e W1 ⟨rfl,HK⟩
  have HL:Hid (Leaves ⟨fb,fo,none⟩ W W1):=HLV.out.step (HK.out.mono HLV.out.size)
  have Cs:=Cs.step HK.out
  obtain ⟨r0,q0⟩:=Cs 0 _ rfl
  obtain ⟨r1,q1⟩:=Cs 1 _ rfl
  obtain ⟨r2,q2⟩:=Cs 2 _ rfl
  have hc8:=c_after HK.out hcV
  have hf8:=f_after HK.out hcV hfV
  have n3':fb ≠ ps:=fun e=>ns e.symm
  clear HC HK HRG hcV hfV HLV Cs
  go_wp2_with (fail)
  refine bodyPost_ret (by simp [results,Tryz.results18,go_sem,r0,r1,r2];try rfl) rfl ?_
  refine ⟨by rw [if2,if_neg hk],(((HL.out.set hWs _).set hWs _).set hWs _).done ?_ ?_⟩
  ·rw [if2B,if_neg hk];simp [go_sem,hc8]
  ·simp [go_sem,hf8]
theorem spin_any (fb fo:Nat) (f:Bool) (b:Bd) (R:List Value) (hR:Rest R) (W:World) (hc:W.cell? ⟨fb,fo,none⟩ = some (.bool f)) (hf:W.frozen? ⟨fb,fo,none⟩ = false) :
  Calls Tryz.prog 16 #[.pointer (some ⟨fb,fo,none⟩),.agg (b.L R).toArray] W fun e W'=>e = .returned (if2 b.k (yldV b b.l)).val/\Hid (After ⟨fb,fo,none⟩ (f || if2B b.k (yldB b b.l)) W W'):=by
 have hbW:fb < W.heap.size:=World.block_lt_of_cell? _ _ hc
 have hz:Hid _:=body_size hR b
 obtain ⟨V,hV⟩:∃ V,V = ((W.alloc (.cells (b.L R).toArray 35)).alloc (.cells #[.int .i64 0,.int .i64 0,.int .i64 0] 23)):=⟨_,rfl⟩
 have hb0:=n_after W (.cells (b.L R).toArray 35)
 have hb1:=n_after (W.alloc (.cells (b.L R).toArray 35)) (.cells #[.int .i64 0,.int .i64 0,.int .i64 0] 23)
 have Cb:CW V (W.heap.size) (b.L R):=by
  have h9:=(CW.new W (b.L R) 35).step hb1
  rw [hV];exact h9
 have Cs:CW V (W.heap.size + 1) [.int .i64 0,.int .i64 0,.int .i64 0]:=by
  have h9:=CW.new (W.alloc (.cells (b.L R).toArray 35)) [.int .i64 0,.int .i64 0,.int .i64 0] 23
  simp only [World.size_alloc] at h9
  rw [hV];exact h9
 have hB:Below W.heap.size W V:=by rw [hV];exact (b_step hb0 hb1)
 have hcV:=c_after hB hc
 have hfV:=f_after hB hc hf
 have HLV:Hid (Leaves ⟨fb,fo,none⟩ W V):=(Leaves.refl _ _).step hB
 clear hb0 hb1
 clear hc hf hB
 go_enter Tryz.func16,Tryz.ntmps16
 go_upto_region 1 with fail
 rw [<- hV]
 clear hV
 obtain ⟨ps,hps⟩:∃ p,p = W.heap.size + 1:=⟨_,rfl⟩
 obtain ⟨pb,hpb⟩:∃ p,p = W.heap.size:=⟨_,rfl⟩
 rw [<- hps] at Cs
 rw [<- hpb] at Cb
 rw [<- hps,<- hpb]
 have ns:ps ≠ fb:=by omega
 have hWs:W.heap.size <= ps:=by omega
 have HRG:Hid (World.rangeAt V pb 0 (b.L R)):=Cb.range
 have kb:=(Cb 11 _ rfl).1
 have kc:=(Cb 12 _ rfl).1
 have kd:=(Cb 13 _ rfl).1
 have HC:Hid _:=yield_any fb fo f b R b.l hR V hcV hfV
 clear Cb hpb hps
 go_wp2_with (refine wpList_load_mid rfl 35 _ rfl pb 0 rfl _ _ HRG.out Tryz.underlying35 rfl hz.out ?_)
 refine Calls.mono HC.out ?_
 rintro e W1 ⟨rfl,A⟩
 have HL:Hid (Leaves ⟨fb,fo,none⟩ W W1):=HLV.out.same A.out
 have Cs:=Cs.after A.out ns
 obtain ⟨r0,q0⟩:=Cs 0 _ rfl
 obtain ⟨r1,q1⟩:=Cs 1 _ rfl
 obtain ⟨r2,q2⟩:=Cs 2 _ rfl
 have hc8:=A.out.cell
 have hf8:=A.out.frozen
 have n3':fb ≠ ps:=fun e=>ns e.symm
 clear HC A HRG hcV hfV HLV Cs kb kc kd
 go_wp2_with (fail)
 refine bodyPost_ret (by simp [results,Tryz.results16,go_sem,r0,r1,r2];try rfl) rfl ?_
 refine ⟨rfl,(((HL.out.set hWs _).set hWs _).set hWs _).done ?_ ?_⟩
 ·simp [go_sem,hc8]
 ·simp [go_sem,hf8]
end
section
theorem Pt.ne_O {n:Pt} (h:n ≠ Pt.O):n.x ≠ 0 \/ n.y ≠ 0 \/ n.z ≠ 0:=by
 cases n with
 | mk a b c =>
  simp only [Pt.O,ne_eq,Pt.mk.injEq] at h
  dsimp only
  omega
theorem det_plane {n x y z:Pt} (hn:n ≠ Pt.O) (h1:n.dot x = 0) (h2:n.dot y = 0) (h3:n.dot z = 0):(x.cross y).dot z = 0:=by
 have i1:(x.cross y).dot z * n.x = n.dot x * (y.cross z).x + n.dot y * (z.cross x).x + n.dot z * (x.cross y).x:=by simp only [Pt.dot,Pt.cross];grind
 have i2:(x.cross y).dot z * n.y = n.dot x * (y.cross z).y + n.dot y * (z.cross x).y + n.dot z * (x.cross y).y:=by simp only [Pt.dot,Pt.cross];grind
 have i3:(x.cross y).dot z * n.z = n.dot x * (y.cross z).z + n.dot y * (z.cross x).z + n.dot z * (x.cross y).z:=by simp only [Pt.dot,Pt.cross];grind
 rw [h1,h2,h3] at i1 i2 i3
 simp only [Int.zero_mul,Int.add_zero] at i1 i2 i3
 rcases Pt.ne_O hn with h | h | h
 ·exact (Int.mul_eq_zero.1 i1).resolve_right h
 ·exact (Int.mul_eq_zero.1 i2).resolve_right h
 ·exact (Int.mul_eq_zero.1 i3).resolve_right h
theorem cross_line {u x y:Pt} (hu:u ≠ Pt.O) (h1:u.cross x = Pt.O) (h2:u.cross y = Pt.O):x.cross y = Pt.O:=by
 simp only [Pt.cross,Pt.O,Pt.mk.injEq] at *
 obtain ⟨a1,a2,a3⟩:=h1
 obtain ⟨b1,b2,b3⟩:=h2
 have key:∀ k:Int,(k = u.x \/ k = u.y \/ k = u.z)->k * (x.y * y.z - x.z * y.y) = 0/\k * (x.z * y.x - x.x * y.z) = 0/\k * (x.x * y.y - x.y * y.x) = 0:=by
  intro k hk
  rcases hk with rfl | rfl | rfl
  ·refine ⟨by grind,by grind,by grind⟩
  ·refine ⟨by grind,by grind,by grind⟩
  ·refine ⟨by grind,by grind,by grind⟩
 have:∃ k:Int,k ≠ 0/\(k = u.x \/ k = u.y \/ k = u.z):=by
  rcases Pt.ne_O hu with h | h | h
  ·exact ⟨_,h,Or.inl rfl⟩
  ·exact ⟨_,h,Or.inr (Or.inl rfl)⟩
  ·exact ⟨_,h,Or.inr (Or.inr rfl)⟩
 obtain ⟨k,h0,hk⟩:=this
 obtain ⟨c1,c2,c3⟩:=key k hk
 exact ⟨(Int.mul_eq_zero.1 c1).resolve_left h0,(Int.mul_eq_zero.1 c2).resolve_left h0,(Int.mul_eq_zero.1 c3).resolve_left h0⟩
def vol (p q r s:Pt):Int:=((q.sub p).cross (r.sub p)).dot (s.sub p)
def flatP (L:List Pt):Bool:=L.all fun c=>L.all fun m=>decide (vol (pt L 0) (pt L 1) c m = 0)
def flatAll (L:List Pt):Prop:=∀ p ∈ L,∀ q ∈ L,∀ r ∈ L,∀ s ∈ L,vol p q r s = 0
theorem sub_O {a b:Pt} (h:a ≠ b):b.sub a ≠ Pt.O:=by
 intro e
 cases a;cases b
 simp only [Pt.sub,Pt.O,Pt.mk.injEq,ne_eq] at *
 omega
theorem flatP_iff {L:List Pt} (h2:2 <= L.length) (hne:pt L 0 ≠ pt L 1):flatP L = true ↔ flatAll L:=by
 have m0:pt L 0 ∈ L:=pt_mem (by omega)
 have m1:pt L 1 ∈ L:=pt_mem (by omega)
 constructor
 ·intro h
  have hv:∀ c ∈ L,∀ m ∈ L,vol (pt L 0) (pt L 1) c m = 0:=by
   intro c hc m hm
   have:=List.all_eq_true.1 (List.all_eq_true.1 h c hc) m hm
   simpa using this
  generalize pt L 0 = a at *
  generalize pt L 1 = b at *
  have hu:=sub_O hne
  intro p hp q hq r hr s hs
  by_cases hc:∃ c ∈ L,(b.sub a).cross (c.sub a) ≠ Pt.O
  ·obtain ⟨c,hc,hn⟩:=hc
   have d:∀ m ∈ L,((b.sub a).cross (c.sub a)).dot (m.sub a) = 0:=fun m hm=>hv c hc m hm
   generalize (b.sub a).cross (c.sub a) = n at *
   have dd:∀ m ∈ L,n.dot (m.sub p) = 0:=by
    intro m hm
    have e1:=d m hm
    have e2:=d p hp
    have:n.dot (m.sub p) = n.dot (m.sub a) - n.dot (p.sub a):=by simp only [Pt.dot,Pt.sub];grind
    rw [this,e1,e2];rfl
   exact det_plane hn (dd q hq) (dd r hr) (dd s hs)
  ·have hl:∀ c ∈ L,(b.sub a).cross (c.sub a) = Pt.O:=fun c hcl=>Classical.byContradiction fun e=>hc ⟨c,hcl,e⟩
   have ll:∀ c ∈ L,(b.sub a).cross (c.sub p) = Pt.O:=by
    intro c hcl
    have e1:=hl c hcl
    have e2:=hl p hp
    generalize b.sub a = u at *
    simp only [Pt.cross,Pt.sub,Pt.O,Pt.mk.injEq] at *
    refine ⟨by grind,by grind,by grind⟩
   have:=cross_line hu (ll q hq) (ll r hr)
   unfold vol
   rw [this]
   simp [Pt.dot,Pt.O]
 ·intro h
  refine List.all_eq_true.2 fun c hc=>List.all_eq_true.2 fun m hm=>?_
  simpa using h _ m0 _ m1 c hc m hm
def flatR (L:List Pt):Prop:=∀ i k m o,m < k->k < i->i < L.length->o < L.length->vol (pt L m) (pt L k) (pt L i) (pt L o) = 0
theorem flatR_iff {L:List Pt} (h2:2 <= L.length) (hne:pt L 0 ≠ pt L 1):flatR L ↔ flatP L = true:=by
 constructor
 ·intro h
  refine List.all_eq_true.2 fun c hc=>List.all_eq_true.2 fun m hm=>?_
  obtain ⟨i,hi,rfl⟩:=pt_of_mem hc
  obtain ⟨o,ho,rfl⟩:=pt_of_mem hm
  by_cases e0:i = 0
  ·subst e0
   rw [decide_eq_true_eq]
   simp only [vol,Pt.cross,Pt.sub,Pt.dot]
   grind
  ·by_cases e1:i = 1
   ·subst e1
    rw [decide_eq_true_eq]
    simp only [vol,Pt.cross,Pt.sub,Pt.dot]
    grind
   ·simpa using h i 1 0 o (by omega) (by omega) hi ho
 ·intro h i k m o h1 h3 hi ho
  exact (flatP_iff h2 hne).1 h _ (pt_mem (by omega)) _ (pt_mem (by omega)) _ (pt_mem hi) _ (pt_mem ho)
def above (L:List Pt) (n a:Pt):Bool:=L.any fun m=>decide (0 < n.dot (m.sub a))
def below (L:List Pt) (n a:Pt):Bool:=L.any fun m=>decide (n.dot (m.sub a) < 0)
end
section
theorem mul_in {a b A B:Int} (ha:-A <= a/\a <= A) (hb:-B <= b/\b <= B):-(A * B) <= a * b/\a * b <= A * B:=by
 have h1:=Int.mul_nonneg (show 0 <= A - a by omega) (show 0 <= B - b by omega)
 have h2:=Int.mul_nonneg (show 0 <= A + a by omega) (show 0 <= B + b by omega)
 have h3:=Int.mul_nonneg (show 0 <= A - a by omega) (show 0 <= B + b by omega)
 have h4:=Int.mul_nonneg (show 0 <= A + a by omega) (show 0 <= B - b by omega)
 simp only [Int.mul_add,Int.add_mul,Int.mul_sub,Int.sub_mul] at h1 h2 h3 h4
 omega
theorem cross_in {p q:Pt} (hp:p.inB 131072 = true) (hq:q.inB 131072 = true):(p.cross q).inB 34359738368 = true:=by
 rw [Pt.inB_iff] at *
 unfold Pt.cross
 dsimp only
 obtain ⟨a1,a2,a3⟩:=hp
 obtain ⟨b1,b2,b3⟩:=hq
 have h1:=mul_in a2 b3
 have h2:=mul_in a3 b2
 have h3:=mul_in a3 b1
 have h4:=mul_in a1 b3
 have h5:=mul_in a1 b2
 have h6:=mul_in a2 b1
 omega
theorem sub_in {p q:Pt} {m:Int} (hp:p.inB m = true) (hq:q.inB m = true):(p.sub q).inB (2 * m) = true:=by
 rw [Pt.inB_iff] at *
 unfold Pt.sub
 dsimp only
 omega
end
section
open Go.RowKit Go.Shelf
theorem between_any (n a b:Int) (w:World) :
  Calls Tryz.prog 132 #[.int .i64 n,.int .i64 a,.int .i64 b] w fun e w'=>e = .returned (.bool (decide (a <= n/\n <= b)))/\w' = w:=by
 by_cases h1:a <= n
 ·go_enter Tryz.func132,Tryz.ntmps132
  go_wp2
  go_ret
  exact ⟨by simp [h1],rfl⟩
 ·go_enter Tryz.func132,Tryz.ntmps132
  go_wp2
  go_ret
  exact ⟨by simp;omega,rfl⟩
theorem less_any (p q:Pt) (w:World) (hp:p.inB 1152921504606846976 = true) (hq:q.inB 1152921504606846976 = true) :
  Calls Tryz.prog 137 #[p.v,q.v] w fun e W=>e = .returned (p.sub q).v/\Below w.heap.size w W:=by
 obtain ⟨x,y,z⟩:=p
 obtain ⟨x',y',z'⟩:=q
 rw [Pt.inB_iff] at hp hq
 unfold Pt.v Pt.sub
 dsimp only at *
 go_enter Tryz.func137,Tryz.ntmps137
 go_wp2
 exact bodyPost_ret (v:=.agg #[.int .i64 (x - x'),.int .i64 (y - y'),.int .i64 (z - z')]) (by simp [results,Tryz.results137,go_sem]) rfl ⟨rfl,(((Below.refl _ w).alloc (Nat.le_refl _) _).alloc (by simp) _).alloc (by simp;omega) _⟩
theorem prod_in {x y A B:Int} (hx:-A <= x/\x <= A) (hy:-B <= y/\y <= B) (h:A * B <= 1152921504606846976):-1152921504606846976 <= x * y/\x * y <= 1152921504606846976:=by
 have:=mul_in hx hy
 omega
theorem dot_any (p q:Pt) (w:World) (hp:p.inB 34359738368 = true) (hq:q.inB 131072 = true) :
  Calls Tryz.prog 136 #[p.v,q.v] w fun e W=>e = .returned (.int .i64 (p.dot q))/\Below w.heap.size w W:=by
 obtain ⟨x,y,z⟩:=p
 obtain ⟨x',y',z'⟩:=q
 rw [Pt.inB_iff] at hp hq
 unfold Pt.v Pt.dot
 dsimp only at *
 have h1:=prod_in hp.1 hq.1 (by decide)
 have h2:=prod_in hp.2.1 hq.2.1 (by decide)
 have h3:=prod_in hp.2.2 hq.2.2 (by decide)
 clear hp hq
 go_enter Tryz.func136,Tryz.ntmps136
 go_wp2
 go_ret
 exact ⟨rfl,((Below.refl _ w).alloc (Nat.le_refl _) _).alloc (by simp) _⟩
theorem cross_any (p q:Pt) (w:World) (hp:p.inB 131072 = true) (hq:q.inB 131072 = true) :
  Calls Tryz.prog 153 #[p.v,q.v] w fun e W=>e = .returned (p.cross q).v/\Below w.heap.size w W:=by
 obtain ⟨x,y,z⟩:=p
 obtain ⟨x',y',z'⟩:=q
 rw [Pt.inB_iff] at hp hq
 unfold Pt.v Pt.cross
 dsimp only at *
 have h1:=prod_in hp.2.1 hq.2.2 (by decide)
 have h2:=prod_in hp.2.2 hq.2.1 (by decide)
 have h3:=prod_in hp.2.2 hq.1 (by decide)
 have h4:=prod_in hp.1 hq.2.2 (by decide)
 have h5:=prod_in hp.1 hq.2.1 (by decide)
 have h6:=prod_in hp.2.1 hq.1 (by decide)
 clear hp hq
 go_enter Tryz.func153,Tryz.ntmps153
 go_wp2
 refine bodyPost_ret (v:=.agg #[.int .i64 (y * z' - z * y'),.int .i64 (z * x' - x * z'),.int .i64 (x * y' - y * x')]) ?_ rfl ⟨rfl,(((Below.refl _ w).alloc (Nat.le_refl _) _).alloc (by simp) _).alloc (by simp;omega) _⟩
 simp [results,Tryz.results153,go_sem]
theorem across_any (a b c:Pt) (w0:World) (ha:a.inB 65536 = true) (hb:b.inB 65536 = true) (hc:c.inB 65536 = true) :
  Calls Tryz.prog 135 #[a.v,b.v,c.v] w0 fun e W=>e = .returned ((b.sub a).cross (c.sub a)).v/\Below w0.heap.size w0 W:=by
 have L1:Hid _:=fun w'=>less_any b a w' (inB_mono hb (by decide)) (inB_mono ha (by decide))
 have L2:Hid _:=fun w'=>less_any c a w' (inB_mono hc (by decide)) (inB_mono ha (by decide))
 have L3:Hid _:=fun w'=>cross_any (b.sub a) (c.sub a) w' (sub_in hb ha) (sub_in hc ha)
 clear ha hb hc
 obtain ⟨ax,ay,az⟩:=a
 obtain ⟨bx,by_,bz⟩:=b
 obtain ⟨cx,cy,cz⟩:=c
 unfold Pt.v Pt.sub Pt.cross at *
 dsimp only at *
 go_enter Tryz.func135,Tryz.ntmps135
 go_wp2_with (fail)
 obtain ⟨V,hV⟩:∃ V:World,V = ((((w0.alloc (.cells #[.int .i64 ax,.int .i64 ay,.int .i64 az] 30)).alloc (.cells #[.int .i64 bx,.int .i64 by_,.int .i64 bz] 30)).alloc (.cells #[.int .i64 cx,.int .i64 cy,.int .i64 cz] 30)).alloc (.cells #[.int .i64 0,.int .i64 0,.int .i64 0] 30)):=⟨_,rfl⟩
 have hBV:Below w0.heap.size w0 V:=by rw [hV];exact (((((Below.refl _ w0).alloc (by simp;try omega) _).alloc (by simp;try omega) _).alloc (by simp;try omega) _).alloc (by simp;try omega) _)
 have V0_0:V.cell? ⟨w0.heap.size,0,none⟩ = some (.int .i64 ax):=by rw [hV];simp [go_sem]
 have V0_1:V.cell? ⟨w0.heap.size,1,none⟩ = some (.int .i64 ay):=by rw [hV];simp [go_sem]
 have V0_2:V.cell? ⟨w0.heap.size,2,none⟩ = some (.int .i64 az):=by rw [hV];simp [go_sem]
 have V1_0:V.cell? ⟨w0.heap.size + 1,0,none⟩ = some (.int .i64 bx):=by rw [hV];simp [go_sem]
 have V1_1:V.cell? ⟨w0.heap.size + 1,1,none⟩ = some (.int .i64 by_):=by rw [hV];simp [go_sem]
 have V1_2:V.cell? ⟨w0.heap.size + 1,2,none⟩ = some (.int .i64 bz):=by rw [hV];simp [go_sem]
 have V2_0:V.cell? ⟨w0.heap.size + 1 + 1,0,none⟩ = some (.int .i64 cx):=by rw [hV];simp [go_sem]
 have V2_1:V.cell? ⟨w0.heap.size + 1 + 1,1,none⟩ = some (.int .i64 cy):=by rw [hV];simp [go_sem]
 have V2_2:V.cell? ⟨w0.heap.size + 1 + 1,2,none⟩ = some (.int .i64 cz):=by rw [hV];simp [go_sem]
 have V3_0:V.cell? ⟨w0.heap.size + 1 + 1 + 1,0,none⟩ = some (.int .i64 0):=by rw [hV];simp [go_sem]
 have V3_1:V.cell? ⟨w0.heap.size + 1 + 1 + 1,1,none⟩ = some (.int .i64 0):=by rw [hV];simp [go_sem]
 have V3_2:V.cell? ⟨w0.heap.size + 1 + 1 + 1,2,none⟩ = some (.int .i64 0):=by rw [hV];simp [go_sem]
 have Vf3_0:V.frozen? ⟨w0.heap.size + 1 + 1 + 1,0,none⟩ = false:=by rw [hV];simp [go_sem]
 have Vf3_1:V.frozen? ⟨w0.heap.size + 1 + 1 + 1,1,none⟩ = false:=by rw [hV];simp [go_sem]
 have Vf3_2:V.frozen? ⟨w0.heap.size + 1 + 1 + 1,2,none⟩ = false:=by rw [hV];simp [go_sem]
 rw [<- hV]
 clear hV
 refine RV.rs [.some (.agg #[.int .i64 bx,.int .i64 by_,.int .i64 bz]),.some (.agg #[.int .i64 ax,.int .i64 ay,.int .i64 az]),.some (.agg #[.int .i64 (bx - ax),.int .i64 (by_ - ay),.int .i64 (bz - az)]),.some (.agg #[.int .i64 cx,.int .i64 cy,.int .i64 cz]),.some (.agg #[.int .i64 ax,.int .i64 ay,.int .i64 az]),.some (.agg #[.int .i64 (cx - ax),.int .i64 (cy - ay),.int .i64 (cz - az)]),.some (.agg #[.int .i64 ((by_ - ay) * (cz - az) - (bz - az) * (cy - ay)),.int .i64 ((bz - az) * (cx - ax) - (bx - ax) * (cz - az)),.int .i64 ((bx - ax) * (cy - ay) - (by_ - ay) * (cx - ax))]),none] [8,9,10,11,12,13,14,0] [(3,.pointer (some ⟨w0.heap.size,0,none⟩)),(4,.pointer (some ⟨w0.heap.size + 1,0,none⟩)),(5,.pointer (some ⟨w0.heap.size + 1 + 1,0,none⟩)),(6,.pointer (some ⟨w0.heap.size + 1 + 1 + 1,0,none⟩))] (fun γ L w9=>(L 7 = false/\Below V.heap.size V w9) \/ (L 7 = true/\∃ w,Below V.heap.size V w/\w9 = (((w.setCell ⟨w0.heap.size + 1 + 1 + 1,0,none⟩ (.int .i64 ((by_ - ay) * (cz - az) - (bz - az) * (cy - ay)))).setCell ⟨w0.heap.size + 1 + 1 + 1,1,none⟩ (.int .i64 ((bz - az) * (cx - ax) - (bx - ax) * (cz - az)))).setCell ⟨w0.heap.size + 1 + 1 + 1,2,none⟩ (.int .i64 ((bx - ax) * (cy - ay) - (by_ - ay) * (cx - ax)))))) ⟨rfl,rfl,rfl,rfl,trivial⟩ ?_ ?_ ?_
 ·exact Or.inl ⟨rfl,(Below.refl _ V).drew⟩
 ·intro D WA Z hD hWA hZ T
  simp only [RV.Outs,RV.Slots,Nat.reduceAdd] at T
  iterate 2 (refine RV.cc _ (RV.pu T (fun γ v L w hl h=>by rw [RV.mn (L:=L) (i:=_) (j:=7) (by decide)];exact h) (fun γ L a w hH hl h9 k9=>⟨_,?_,rfl⟩)) ?_;· have hB9:=early9 hH.glob (RV.ny hH (RV.wt (j:=7) hWA (by kernel_rfl)) hl);have q0:=c_after hB9 V1_0;have q1:=c_after hB9 V1_1;have q2:=c_after hB9 V1_2;have q3:=c_after hB9 V0_0;have q4:=c_after hB9 V0_1;have q5:=c_after hB9 V0_2;simp [execOp,go_sem,h9,q0,q1,q2,q3,q4,q5])
  refine RV.cc _ (RV.dc (fun γ L a w hH hl hA=>by have h9:=T γ L a w hH;have k9:=hA;simp [Region.binds] at k9;have hB9:=early9 hH.glob (RV.ny hH (RV.wt (j:=7) (i:=2) hWA (by kernel_rfl)) hl);exact ⟨137,#[.agg #[.int .i64 bx,.int .i64 by_,.int .i64 bz],.agg #[.int .i64 ax,.int .i64 ay,.int .i64 az]],by simp [go_sem,h9,k9],Calls.mono (L1.out w) (by rintro e w2 ⟨rfl,hb⟩;exact ⟨_,rfl,rfl,fun j v _ h=>h.keep _,Or.inl ⟨by rw [RV.mn (L:=L) (i:=2) (j:=7) (by decide)];exact RV.ny hH (RV.wt (j:=7) (i:=2) hWA (by kernel_rfl)) hl,hB9.trans (hb.mono hB9.size)⟩⟩)⟩)) ?_
  iterate 2 (refine RV.cc _ (RV.pu T (fun γ v L w hl h=>by rw [RV.mn (L:=L) (i:=_) (j:=7) (by decide)];exact h) (fun γ L a w hH hl h9 k9=>⟨_,?_,rfl⟩)) ?_;· have hB9:=early9 hH.glob (RV.ny hH (RV.wt (j:=7) hWA (by kernel_rfl)) hl);have q0:=c_after hB9 V2_0;have q1:=c_after hB9 V2_1;have q2:=c_after hB9 V2_2;have q3:=c_after hB9 V0_0;have q4:=c_after hB9 V0_1;have q5:=c_after hB9 V0_2;simp [execOp,go_sem,h9,q0,q1,q2,q3,q4,q5])
  refine RV.cc _ (RV.dc (fun γ L a w hH hl hA=>by have h9:=T γ L a w hH;have k9:=hA;simp [Region.binds] at k9;have hB9:=early9 hH.glob (RV.ny hH (RV.wt (j:=7) (i:=5) hWA (by kernel_rfl)) hl);exact ⟨137,#[.agg #[.int .i64 cx,.int .i64 cy,.int .i64 cz],.agg #[.int .i64 ax,.int .i64 ay,.int .i64 az]],by simp [go_sem,h9,k9],Calls.mono (L2.out w) (by rintro e w2 ⟨rfl,hb⟩;exact ⟨_,rfl,rfl,fun j v _ h=>h.keep _,Or.inl ⟨by rw [RV.mn (L:=L) (i:=5) (j:=7) (by decide)];exact RV.ny hH (RV.wt (j:=7) (i:=5) hWA (by kernel_rfl)) hl,hB9.trans (hb.mono hB9.size)⟩⟩)⟩)) ?_
  refine RV.cc _ (RV.dc (fun γ L a w hH hl hA=>by have h9:=T γ L a w hH;have k9:=hA;simp [Region.binds] at k9;have hB9:=early9 hH.glob (RV.ny hH (RV.wt (j:=7) (i:=6) hWA (by kernel_rfl)) hl);exact ⟨153,#[.agg #[.int .i64 (bx - ax),.int .i64 (by_ - ay),.int .i64 (bz - az)],.agg #[.int .i64 (cx - ax),.int .i64 (cy - ay),.int .i64 (cz - az)]],by simp [go_sem,h9,k9],Calls.mono (L3.out w) (by rintro e w2 ⟨rfl,hb⟩;exact ⟨_,rfl,rfl,fun j v _ h=>h.keep _,Or.inl ⟨by rw [RV.mn (L:=L) (i:=6) (j:=7) (by decide)];exact RV.ny hH (RV.wt (j:=7) (i:=6) hWA (by kernel_rfl)) hl,hB9.trans (hb.mono hB9.size)⟩⟩)⟩)) ?_
  refine RV.cc _ (RV.does_store (fun γ L a w hH hl hA=>by have h9:=T γ L a w hH;have k9:=hA;simp [Region.binds] at k9;have hB9:=early9 hH.glob hl;have z0:=c_after hB9 V3_0;have zf0:=f_after hB9 V3_0 Vf3_0;have z1:=c_after hB9 V3_1;have zf1:=f_after hB9 V3_1 Vf3_1;have z2:=c_after hB9 V3_2;have zf2:=f_after hB9 V3_2 Vf3_2;exact ⟨(((w.setCell ⟨w0.heap.size + 1 + 1 + 1,0,none⟩ (.int .i64 ((by_ - ay) * (cz - az) - (bz - az) * (cy - ay)))).setCell ⟨w0.heap.size + 1 + 1 + 1,1,none⟩ (.int .i64 ((bz - az) * (cx - ax) - (bx - ax) * (cz - az)))).setCell ⟨w0.heap.size + 1 + 1 + 1,2,none⟩ (.int .i64 ((bx - ax) * (cy - ay) - (by_ - ay) * (cx - ax)))),by simp [execOp,go_sem,z0,zf0,z1,zf1,z2,zf2,h9,k9],trivial,fun j v _ h=>h.keep _,Or.inr ⟨RV.more_self,w,hB9,rfl⟩⟩)) ?_
  exact RV.AllDo.nil
 ·intro γ w5 L9 hL hI9 hG9
  obtain ⟨w8,hb8,rfl⟩:=late9 hG9 (hL 7 (by decide))
  clear hL hI9 hG9
  simp only [RV.putL,Act.put,List.setIfInBounds_toArray,List.set_cons_zero,List.set_cons_succ]
  have q0:=c_after hb8 V3_0
  have q1:=c_after hb8 V3_1
  have q2:=c_after hb8 V3_2
  go_wp2
  refine bodyPost_ret (v:=.agg #[.int .i64 ((by_ - ay) * (cz - az) - (bz - az) * (cy - ay)),.int .i64 ((bz - az) * (cx - ax) - (bx - ax) * (cz - az)),.int .i64 ((bx - ax) * (cy - ay) - (by_ - ay) * (cx - ax))]) (by simp [results,Tryz.results135,go_sem,q0,q1,q2]) rfl ⟨rfl,?_⟩
  exact ((((hBV.trans (hb8.mono hBV.size)).setCell (by simp;omega) _).setCell (by simp;omega) _).setCell (by simp;omega) _)
theorem within_any (p:Pt) (m:Int) (w:World) (hm:0 <= m) (hm':m <= 1152921504606846976) :
  Calls Tryz.prog 151 #[p.v,.int .i64 m] w fun e W=>e = .returned (.bool (p.inB m))/\Below w.heap.size w W:=by
 obtain ⟨x,y,z⟩:=p
 have HE:Hid (∀ b:Bool,(b = true ↔ (-m <= x/\x <= m)/\(-m <= y/\y <= m)/\(-m <= z/\z <= m))->Pt.inB ⟨x,y,z⟩ m = b):=fun b h=>by
  rw [Bool.eq_iff_iff,h,Pt.inB_iff]
 unfold Pt.v
 go_enter Tryz.func151,Tryz.ntmps151
 go_wp2
 all_goals
  go_ret
  exact ⟨congrArg (fun b=>Ending.returned (.bool b)) (HE.out _ ⟨fun h=>by first | (cases h;done) | omega | (have h':=of_decide_eq_true h;omega),fun h=>by first | rfl | (exfalso;omega) | exact decide_eq_true (by omega)⟩).symm,n_after w _⟩
end
section
open Go.RowKit Go.Shelf
theorem pt_eq (p q:Pt):p = q ↔ p.x = q.x/\p.y = q.y/\p.z = q.z:=by cases p;cases q;simp
theorem index_any (v:Value) (L:List Pt) (p:Pt) (w:World) (hv:Lies w v L) :
  Calls Tryz.prog 162 #[v,p.v] w fun e W=>∃ k:Int,e = .returned (.int .i64 k)/\(0 <= k ↔ p ∈ L)/\Below w.heap.size w W:=by
 obtain ⟨o,c,rfl,hlc,hcm,hcell⟩:=hv.form
 have HC:Hid _:=hcell
 have bx:Hid (Box3 (w.alloc (.cells #[.int .i64 p.x,.int .i64 p.y,.int .i64 p.z] 30)) w.heap.size p):=Box3.new w p.x p.y p.z _
 have hB:Hid (Below w.heap.size w (w.alloc (.cells #[.int .i64 p.x,.int .i64 p.y,.int .i64 p.z] 30))):=n_after w _
 clear hv hcell
 unfold Pt.v
 go_enter Tryz.func162,Tryz.ntmps162
 go_wp2_with (fail)
 go_loopw [8] (fun i wr=>∃ k:Nat,i = .int .i64 (k:Int)/\k <= L.length/\Hid (∀ j,j < k->pt L j ≠ p)/\Hid (Box3 wr w.heap.size p)/\Hid (Below w.heap.size w wr)) (fun i _=>L.length - (intOf i).toNat)
 case atStart=>exact ⟨0,rfl,Nat.zero_le _,fun j hj=>absurd hj (by omega),bx,hB⟩
 case round =>
  clear bx hB
  obtain ⟨k,rfl,hk,HN,bx,HB⟩:=hrel
  by_cases hlt:k < L.length
  ·obtain ⟨g,off,rfl,x0,x1,x2⟩:=HC.out k hlt
   have x0:=c_after HB.out x0
   have x1:=c_after HB.out x1
   have x2:=c_after HB.out x2
   obtain ⟨c0,c1,c2,_,_,_⟩:=bx.out
   have HEQ:Hid (pt L k = p->p ∈ L):=fun e=>e ▸ pt_mem hlt
   have HNE:Hid (pt L k ≠ p->∀ j,j < k + 1->pt L j ≠ p):=fun e j hj=>by
    by_cases ej:j = k
    ·subst ej;exact e
    ·exact HN.out j (by omega)
   rw [pt_eq] at HEQ
   rw [Ne,pt_eq] at HNE
   generalize (pt L k).x = lx at *
   generalize (pt L k).y = ly at *
   generalize (pt L k).z = lz at *
   by_cases ex:lx = p.x
   ·subst ex
    by_cases ey:ly = p.y
    ·subst ey
     by_cases ez:lz = p.z
     ·subst ez
      go_wp2_with (fail)
      go_region
      go_wp2_with (fail)
      go_ret
      exact ⟨_,rfl,⟨fun _=>HEQ.out (by simp),fun _=>by omega⟩,HB.out.drew⟩
     ·have e1:(p.z == lz) = false:=beq_eq_false_iff_ne.2 fun e=>ez e.symm
      go_wp2_with (fail)
      go_region
      go_wp2_with (fail)
      go_roundw
      case rel=>exact ⟨k + 1,by go_num,by omega,HNE.out (fun h=>ez h.2.2),bx.out.step (Below.refl _ _).drew,HB.out.drew⟩
      case measure=>simp [intOf];omega
    ·have e1:(p.y == ly) = false:=beq_eq_false_iff_ne.2 fun e=>ey e.symm
     go_wp2_with (fail)
     go_region
     go_wp2_with (fail)
     go_roundw
     case rel=>exact ⟨k + 1,by go_num,by omega,HNE.out (fun h=>ey h.2.1),bx.out.step (Below.refl _ _).drew,HB.out.drew⟩
     case measure=>simp [intOf];omega
   ·have e1:(p.x == lx) = false:=beq_eq_false_iff_ne.2 fun e=>ex e.symm
    go_wp2_with (fail)
    go_region
    go_wp2_with (fail)
    go_roundw
    case rel=>exact ⟨k + 1,by go_num,by omega,HNE.out (fun h=>ex h.1),bx.out.step (Below.refl _ _).drew,HB.out.drew⟩
    case measure=>simp [intOf];omega
  ·have e:k = L.length:=by omega
   have HX:Hid (p ∉ L):=fun hp=>by
    obtain ⟨j,hj,ej⟩:=pt_of_mem hp
    exact HN.out j (by omega) ej
   clear e
   go_wp2_with (fail)
   go_ret
   exact ⟨_,rfl,⟨fun h=>absurd h (by decide),fun h=>absurd h HX.out⟩,HB.out⟩
theorem contains_any (v:Value) (L:List Pt) (p:Pt) (w:World) (hv:Lies w v L) :
  Calls Tryz.prog 152 #[v,p.v] w fun e W=>e = .returned (.bool (decide (p ∈ L)))/\Below w.heap.size w W:=by
 have HI:Hid _:=index_any v L p (w.alloc (.cells #[.int .i64 p.x,.int .i64 p.y,.int .i64 p.z] 30)) (hv.below (n_after w _))
 obtain ⟨o,c,rfl,_⟩:=hv.form
 unfold Pt.v at *
 clear hv
 go_enter Tryz.func152,Tryz.ntmps152
 go_wp2_with (fail)
 refine Calls.mono HI.out ?_
 clear HI
 rintro e V ⟨k,rfl,hk,hb⟩
 have hB:=b_step (n_after w _) hb
 clear hb
 have HK:Hid _:=hk
 clear hk
 go_wp2_with (fail)
 go_ret
 exact ⟨congrArg (fun b=>Ending.returned (.bool b)) (by rw [Bool.eq_iff_iff,decide_eq_true_eq,decide_eq_true_eq];exact HK.out),hB⟩
end
section
open Go.RowKit Go.Shelf
structure Two (w0 W:World) (va ve:Value) (A E:List Pt) (bs:List (Nat × Pt)):Prop where
 ra:W.ownsRow w0.heap.size 30 3 va A.length (fl3 A)
 re:W.ownsRow w0.heap.size 30 3 ve E.length (fl3 E)
 apart:∀ k,ve.ownBlock = some k->va.ownBlock ≠ some k
 below:Below w0.heap.size w0 W
 box:∀ x ∈ bs,Box3 W x.1 x.2/\va.ownBlock ≠ some x.1/\ve.ownBlock ≠ some x.1/\w0.heap.size <= x.1
end
section
open Go.RowKit Go.Shelf
def mayP (L:List Pt):Bool:=decide (4 <= L.length/\L.length <= 12) && (L.all (fun p=>p.inB 65536) && decide L.Nodup)
theorem Lies.take {w:World} {o:Option Addr} {n c:Nat} {L:List Pt} (h:Lies w (.slice o L.length c) L) (k:Nat) (hk:k <= L.length):Lies w (.slice o k c) (L.take k):=by
 obtain ⟨o',c',e,h1,h2,h3⟩:=h.form
 simp only [Value.slice.injEq,true_and] at e
 obtain ⟨rfl,rfl⟩:=e
 have hl:(L.take k).length = k:=by simp;omega
 refine ⟨o,c,by rw [hl],by omega,h2,fun i hi=>?_⟩
 rw [hl] at hi
 obtain ⟨g,off,e,a,b,c⟩:=h3 i (by omega)
 rw [pt_take hi]
 exact ⟨g,off,e,a,b,c⟩
theorem all_snoc (L:List Pt) (f:Pt->Bool) (k:Nat) (hk:k < L.length):(L.take (k + 1)).all f = ((L.take k).all f && f (pt L k)):=by
 rw [take_pt hk];simp
theorem nodup_snoc (L:List Pt) (k:Nat) (hk:k < L.length) (h:(L.take k).Nodup):(L.take (k + 1)).Nodup ↔ pt L k ∉ L.take k:=by
 rw [take_pt hk,List.nodup_append]
 constructor
 ·intro hh hm
  exact hh.2.2 _ hm _ (by simp) rfl
 ·intro hn
  refine ⟨h,by simp,fun a ha b hb e=>hn ?_⟩
  rw [List.mem_singleton] at hb
  rw [<- hb,<- e];exact ha
theorem pointsMayBe_any (v:Value) (Ls:List Pt) (w0:World) (hv:Lies w0 v Ls) :
  Calls Tryz.prog 134 #[v] w0 fun e W=>e = .returned (.bool (mayP Ls))/\Below w0.heap.size w0 W:=by
 obtain ⟨o,c,rfl,hlc,hcm,hcell⟩:=hv.form
 have HV:Hid _:=hv
 have HC:Hid _:=hcell
 clear hv hcell
 obtain ⟨R,hR⟩:∃ R,mayP Ls = R:=⟨_,rfl⟩
 rw [hR]
 have HR:Hid _:=hR
 clear hR
 by_cases h4:4 <= Ls.length
 ·by_cases h12:Ls.length <= 12
  ·have HR:Hid (R = (Ls.all (fun p=>p.inB 65536) && decide Ls.Nodup)):=by show _ = _;rw [<- HR.out];unfold mayP;simp [h4,h12]
   have h4':4 <= (Ls.length:Int):=by omega
   have h12':(Ls.length:Int) <= 12:=by omega
   go_enter Tryz.func134,Tryz.ntmps134
   go_wp2
   go_loopg [11] Ls.length (fun gm i wr=>∃ k:Nat,i = .int .i64 (k:Int)/\k <= Ls.length/\gm = Ls.length - k/\Hid ((Ls.take k).all (fun p=>p.inB 65536) = true)/\Hid (Ls.take k).Nodup/\Hid (Below w0.heap.size w0 wr))
   case atStart=>exact ⟨0,rfl,Nat.zero_le _,rfl,rfl,by simp [Hid],Below.refl _ _⟩
   case round =>
    obtain ⟨k,rfl,hk,hgm,HA,HN,HB⟩:=hrel
    have HG:Hid _:=hgm
    clear hgm
    by_cases hlt:k < Ls.length
    ·obtain ⟨g,off,rfl,x0,x1,x2⟩:=HC.out k hlt
     have x0:=c_after HB.out x0
     have x1:=c_after HB.out x1
     have x2:=c_after HB.out x2
     have HS1:Hid _:=all_snoc Ls (fun p=>p.inB 65536) k hlt
     have HS2:Hid _:=nodup_snoc Ls k hlt HN.out
     generalize hp:pt Ls k = p at *
     have HP:Hid _:=hp
     clear hp
     go_upto_region 6 with fail
     obtain ⟨V,hV⟩:∃ V:World,V = wr.alloc (.cells #[.int .i64 p.x,.int .i64 p.y,.int .i64 p.z] 30):=⟨_,rfl⟩
     obtain ⟨bp,hbp⟩:∃ bp,bp = wr.heap.size:=⟨_,rfl⟩
     have bx:Box3 (wr.alloc (.cells #[.int .i64 p.x,.int .i64 p.y,.int .i64 p.z] 30)) wr.heap.size p:=Box3.new wr p.x p.y p.z _
     have HBV:Hid (Below w0.heap.size w0 V):=by rw [hV];exact b_step HB.out (n_after _ _)
     rw [<- hV,<- hbp] at bx ⊢
     clear hV hbp x0 x1 x2
     obtain ⟨p0,p1,p2,_,_,_⟩:=bx
     have L1:Hid _:=fun w'=>within_any p 65536 w' (by decide) (by decide)
     have L2:Hid (∀ w',Below V.heap.size V w'->Calls Tryz.prog 152 #[.slice (some ⟨g,off,none⟩) k c,p.v] w' fun e W=>e = .returned (.bool (decide (p ∈ Ls.take k)))/\Below w'.heap.size w' W):=fun w' hb=>contains_any _ (Ls.take k) p w' ((HV.out.take (n:=0) k hk).below (b_step HBV.out hb))
     unfold Pt.v at L1 L2
     have hkc:(k:Int) <= (c:Int):=by omega
     cases hw:p.inB 65536 with
     | false =>
      rw [hw] at L1
      have e:R = false:=by
       rw [HR.out]
       have:Ls.all (fun p=>p.inB 65536) = false:=by
        rw [List.all_eq_false]
        exact ⟨p,by rw [<- HP.out];exact pt_mem hlt,by rw [hw];decide⟩
       rw [this];rfl
      subst e
      refine RV.rs [.some (.agg #[.int .i64 p.x,.int .i64 p.y,.int .i64 p.z]),.some (.bool (false)),.some (.bool (true)),.some (.bool (true)),.some (undef),.some (undef),.some (undef),.some (undef),.some (undef),.some (.bool (true))] [17,18,19,20,21,22,23,24,25,26] [(0,.slice (some ⟨g,off,none⟩) Ls.length c),(3,.int .i64 ((k:Int))),(4,.pointer (some ⟨bp,0,none⟩))] (fun γ L w9=>Below V.heap.size V w9) ⟨rfl,rfl,rfl,trivial⟩ ?_ ?_ ?_
      ·exact (Below.refl _ V).drew
      ·intro D WA Z hD hWA hZ T
       simp only [RV.Outs,RV.Slots,Nat.reduceAdd] at T
       (refine RV.cc _ (RV.pu T (fun γ v L w hl h=>h) (fun γ L a w hH hl h9 k9=>⟨_,?_,rfl⟩)) ?_;· have hB9:=hH.glob;have q0:=c_after hB9 p0;have q1:=c_after hB9 p1;have q2:=c_after hB9 p2;simp [execOp,go_sem,h9,q0,q1,q2])
       refine RV.cc _ (RV.dc (fun γ L a w hH hl hA=>by have h9:=T γ L a w hH;have k9:=hA;simp [Region.binds] at k9;have hB9:=hH.glob;exact ⟨151,#[.agg #[.int .i64 p.x,.int .i64 p.y,.int .i64 p.z],.int .i64 65536],by simp [go_sem,h9,k9],Calls.mono (L1.out w) (by rintro e w2 ⟨rfl,hb⟩;exact ⟨_,rfl,rfl,fun j v _ h=>h.keep _,hB9.trans (hb.mono hB9.size)⟩)⟩)) ?_
       iterate 2 (refine RV.cc _ (RV.pu T (fun γ v L w hl h=>h) (fun γ L a w hH hl h9 k9=>⟨_,?_,rfl⟩)) ?_;· simp [Region.binds] at k9;simp [execOp,go_sem,h9,k9])
       refine RV.cc _ (RV.does_skip rfl (by rw [<- hD];rfl) (fun v w h=>h) (by simp) (fun w=>rfl) (fun γ v L w hl h=>h)) ?_
       refine RV.cc _ (RV.does_skip rfl (by rw [<- hD];rfl) (fun v w h=>h) (by simp) (fun w=>rfl) (fun γ v L w hl h=>h)) ?_
       refine RV.cc _ (RV.does_skip rfl (by rw [<- hD];rfl) (fun v w h=>h) (by simp) (fun w=>rfl) (fun γ v L w hl h=>h)) ?_
       refine RV.cc _ (RV.does_skip rfl (by rw [<- hD];rfl) (fun v w h=>h) (by simp) (fun w=>rfl) (fun γ v L w hl h=>h)) ?_
       refine RV.cc _ (RV.does_skip rfl (by rw [<- hD];rfl) (fun v w h=>h) (by simp) (fun w=>rfl) (fun γ v L w hl h=>h)) ?_
       (refine RV.cc _ (RV.pu T (fun γ v L w hl h=>h) (fun γ L a w hH hl h9 k9=>⟨_,?_,rfl⟩)) ?_;· simp [Region.binds] at k9;simp [execOp,go_sem,h9,k9])
       exact RV.AllDo.nil
      ·intro γ w5 L9 hL hI9 hG9
       have hb8:=hG9
       clear hL hI9 hG9
       simp only [RV.putL,Act.put,List.setIfInBounds_toArray,List.set_cons_zero,List.set_cons_succ]
       have HB5:Hid _:=HBV.out.trans (hb8.mono HBV.out.size)
       clear hb8 L1 L2 p0 p1 p2
       go_wp2_with (fail)
       go_ret
       exact ⟨rfl,HB5.out⟩
     | true =>
      rw [hw] at L1
      by_cases hm:p ∈ Ls.take k
      ·have hd:decide (p ∈ Ls.take k) = true:=decide_eq_true hm
       rw [hd] at L2
       have e:R = false:=by
        rw [HR.out]
        have:decide Ls.Nodup = false:=by
         refine decide_eq_false fun hn=>?_
         have:=HS2.out.1 (hn.sublist (List.take_sublist _ _))
         exact this hm
        rw [this];simp
       subst e
       clear hd hm
       refine RV.rs [.some (.agg #[.int .i64 p.x,.int .i64 p.y,.int .i64 p.z]),.some (.bool (true)),.some (.bool (false)),.some (.bool (false)),.some (.slice (some ⟨g,off,none⟩) Ls.length c),.some (.int .i64 ((k:Int))),.some (.slice (some ⟨g,off,none⟩) k c),.some (.agg #[.int .i64 p.x,.int .i64 p.y,.int .i64 p.z]),.some (.bool (true)),.some (.bool (true))] [17,18,19,20,21,22,23,24,25,26] [(0,.slice (some ⟨g,off,none⟩) Ls.length c),(3,.int .i64 ((k:Int))),(4,.pointer (some ⟨bp,0,none⟩))] (fun γ L w9=>Below V.heap.size V w9) ⟨rfl,rfl,rfl,trivial⟩ ?_ ?_ ?_
       ·exact (Below.refl _ V).drew
       ·intro D WA Z hD hWA hZ T
        simp only [RV.Outs,RV.Slots,Nat.reduceAdd] at T
        (refine RV.cc _ (RV.pu T (fun γ v L w hl h=>h) (fun γ L a w hH hl h9 k9=>⟨_,?_,rfl⟩)) ?_;· have hB9:=hH.glob;have q0:=c_after hB9 p0;have q1:=c_after hB9 p1;have q2:=c_after hB9 p2;simp [execOp,go_sem,h9,q0,q1,q2])
        refine RV.cc _ (RV.dc (fun γ L a w hH hl hA=>by have h9:=T γ L a w hH;have k9:=hA;simp [Region.binds] at k9;have hB9:=hH.glob;exact ⟨151,#[.agg #[.int .i64 p.x,.int .i64 p.y,.int .i64 p.z],.int .i64 65536],by simp [go_sem,h9,k9],Calls.mono (L1.out w) (by rintro e w2 ⟨rfl,hb⟩;exact ⟨_,rfl,rfl,fun j v _ h=>h.keep _,hB9.trans (hb.mono hB9.size)⟩)⟩)) ?_
        iterate 6 first
         | (refine RV.cc _ (RV.dg rfl (by rw [<- hD];rfl) (fun v w h=>h) (by simp) (RV.pu T (fun γ v L w hl h=>h) (fun γ L a w hH hl h9 k9=>⟨_,?_,rfl⟩))) ?_;· simp [execOp,go_sem,h9])
         | (refine RV.cc _ (RV.pu T (fun γ v L w hl h=>h) (fun γ L a w hH hl h9 k9=>⟨_,?_,rfl⟩)) ?_;· simp [Region.binds] at k9;simp [execOp,go_sem,h9,k9])
         | (refine RV.cc _ (RV.dg rfl (by rw [<- hD];rfl) (fun v w h=>h) (by simp) (RV.pu T (fun γ v L w hl h=>h) (fun γ L a w hH hl h9 k9=>⟨_,?_,rfl⟩))) ?_;· simp [Region.binds] at k9;simp [execOp,go_sem,h9,k9,hkc])
         | (refine RV.cc _ (RV.dg rfl (by rw [<- hD];rfl) (fun v w h=>h) (by simp) (RV.pu T (fun γ v L w hl h=>h) (fun γ L a w hH hl h9 k9=>⟨_,?_,rfl⟩))) ?_;· have hB9:=hH.glob;have q0:=c_after hB9 p0;have q1:=c_after hB9 p1;have q2:=c_after hB9 p2;simp [execOp,go_sem,h9,q0,q1,q2])
        refine RV.cc _ (RV.dg rfl (by rw [<- hD];rfl) (fun v w h=>h) (by simp) (RV.dc (fun γ L a w hH hl hA=>by have h9:=T γ L a w hH;have k9:=hA;simp [Region.binds] at k9;have hB9:=hH.glob;exact ⟨152,#[.slice (some ⟨g,off,none⟩) k c,.agg #[.int .i64 p.x,.int .i64 p.y,.int .i64 p.z]],by simp [go_sem,h9,k9],Calls.mono (L2.out w hB9) (by rintro e w2 ⟨rfl,hb⟩;exact ⟨_,rfl,rfl,fun j v _ h=>h.keep _,hB9.trans (hb.mono hB9.size)⟩)⟩))) ?_
        (refine RV.cc _ (RV.pu T (fun γ v L w hl h=>h) (fun γ L a w hH hl h9 k9=>⟨_,?_,rfl⟩)) ?_;· simp [Region.binds] at k9;simp [execOp,go_sem,h9,k9])
        exact RV.AllDo.nil
       ·intro γ w5 L9 hL hI9 hG9
        have hb8:=hG9
        clear hL hI9 hG9
        simp only [RV.putL,Act.put,List.setIfInBounds_toArray,List.set_cons_zero,List.set_cons_succ]
        have HB5:Hid _:=HBV.out.trans (hb8.mono HBV.out.size)
        clear hb8 L1 L2 p0 p1 p2
        go_wp2_with (fail)
        go_ret
        exact ⟨rfl,HB5.out⟩
      ·have hd:decide (p ∈ Ls.take k) = false:=decide_eq_false hm
       rw [hd] at L2
       have HS1:Hid ((Ls.take (k + 1)).all (fun p=>p.inB 65536) = true):=by show _ = _;rw [HS1.out,HA.out,hw];rfl
       have HS2:Hid (Ls.take (k + 1)).Nodup:=HS2.out.2 hm
       clear hd hm
       refine RV.rs [.some (.agg #[.int .i64 p.x,.int .i64 p.y,.int .i64 p.z]),.some (.bool (true)),.some (.bool (false)),.some (.bool (false)),.some (.slice (some ⟨g,off,none⟩) Ls.length c),.some (.int .i64 ((k:Int))),.some (.slice (some ⟨g,off,none⟩) k c),.some (.agg #[.int .i64 p.x,.int .i64 p.y,.int .i64 p.z]),.some (.bool (false)),.some (.bool (false))] [17,18,19,20,21,22,23,24,25,26] [(0,.slice (some ⟨g,off,none⟩) Ls.length c),(3,.int .i64 ((k:Int))),(4,.pointer (some ⟨bp,0,none⟩))] (fun γ L w9=>Below V.heap.size V w9) ⟨rfl,rfl,rfl,trivial⟩ ?_ ?_ ?_
       ·exact (Below.refl _ V).drew
       ·intro D WA Z hD hWA hZ T
        simp only [RV.Outs,RV.Slots,Nat.reduceAdd] at T
        (refine RV.cc _ (RV.pu T (fun γ v L w hl h=>h) (fun γ L a w hH hl h9 k9=>⟨_,?_,rfl⟩)) ?_;· have hB9:=hH.glob;have q0:=c_after hB9 p0;have q1:=c_after hB9 p1;have q2:=c_after hB9 p2;simp [execOp,go_sem,h9,q0,q1,q2])
        refine RV.cc _ (RV.dc (fun γ L a w hH hl hA=>by have h9:=T γ L a w hH;have k9:=hA;simp [Region.binds] at k9;have hB9:=hH.glob;exact ⟨151,#[.agg #[.int .i64 p.x,.int .i64 p.y,.int .i64 p.z],.int .i64 65536],by simp [go_sem,h9,k9],Calls.mono (L1.out w) (by rintro e w2 ⟨rfl,hb⟩;exact ⟨_,rfl,rfl,fun j v _ h=>h.keep _,hB9.trans (hb.mono hB9.size)⟩)⟩)) ?_
        iterate 6 first
         | (refine RV.cc _ (RV.dg rfl (by rw [<- hD];rfl) (fun v w h=>h) (by simp) (RV.pu T (fun γ v L w hl h=>h) (fun γ L a w hH hl h9 k9=>⟨_,?_,rfl⟩))) ?_;· simp [execOp,go_sem,h9])
         | (refine RV.cc _ (RV.pu T (fun γ v L w hl h=>h) (fun γ L a w hH hl h9 k9=>⟨_,?_,rfl⟩)) ?_;· simp [Region.binds] at k9;simp [execOp,go_sem,h9,k9])
         | (refine RV.cc _ (RV.dg rfl (by rw [<- hD];rfl) (fun v w h=>h) (by simp) (RV.pu T (fun γ v L w hl h=>h) (fun γ L a w hH hl h9 k9=>⟨_,?_,rfl⟩))) ?_;· simp [Region.binds] at k9;simp [execOp,go_sem,h9,k9,hkc])
         | (refine RV.cc _ (RV.dg rfl (by rw [<- hD];rfl) (fun v w h=>h) (by simp) (RV.pu T (fun γ v L w hl h=>h) (fun γ L a w hH hl h9 k9=>⟨_,?_,rfl⟩))) ?_;· have hB9:=hH.glob;have q0:=c_after hB9 p0;have q1:=c_after hB9 p1;have q2:=c_after hB9 p2;simp [execOp,go_sem,h9,q0,q1,q2])
        refine RV.cc _ (RV.dg rfl (by rw [<- hD];rfl) (fun v w h=>h) (by simp) (RV.dc (fun γ L a w hH hl hA=>by have h9:=T γ L a w hH;have k9:=hA;simp [Region.binds] at k9;have hB9:=hH.glob;exact ⟨152,#[.slice (some ⟨g,off,none⟩) k c,.agg #[.int .i64 p.x,.int .i64 p.y,.int .i64 p.z]],by simp [go_sem,h9,k9],Calls.mono (L2.out w hB9) (by rintro e w2 ⟨rfl,hb⟩;exact ⟨_,rfl,rfl,fun j v _ h=>h.keep _,hB9.trans (hb.mono hB9.size)⟩)⟩))) ?_
        (refine RV.cc _ (RV.pu T (fun γ v L w hl h=>h) (fun γ L a w hH hl h9 k9=>⟨_,?_,rfl⟩)) ?_;· simp [Region.binds] at k9;simp [execOp,go_sem,h9,k9])
        exact RV.AllDo.nil
       ·intro γ w5 L9 hL hI9 hG9
        have hb8:=hG9
        clear hL hI9 hG9
        simp only [RV.putL,Act.put,List.setIfInBounds_toArray,List.set_cons_zero,List.set_cons_succ]
        have HB5:Hid _:=HBV.out.trans (hb8.mono HBV.out.size)
        clear hb8 L1 L2 p0 p1 p2
        go_wp2_with (fail)
        go_roundg (Ls.length - (k + 1))
        case measure=>have:=HG.out;omega
        case rel=>exact ⟨k + 1,by go_num,by omega,rfl,HS1,HS2,HB5⟩
    ·have e:R = true:=by
      rw [HR.out]
      have e1:=HA.out
      have e2:=HN.out
      rw [List.take_of_length_le (by omega:Ls.length <= k)] at e1 e2
      rw [e1,decide_eq_true e2];rfl
     subst e
     go_wp2_with (fail)
     go_ret
     exact ⟨rfl,HB.out⟩
  ·have e:R = false:=by rw [<- HR.out];unfold mayP;simp [h12]
   subst e
   have h12':¬ (Ls.length:Int) <= 12:=by omega
   clear HR
   go_enter Tryz.func134,Tryz.ntmps134
   go_wp2
   go_ret
   exact ⟨rfl,Below.refl _ _⟩
 ·have e:R = false:=by rw [<- HR.out];unfold mayP;simp [h4]
  subst e
  have h4':¬ 4 <= (Ls.length:Int):=by omega
  clear HR
  go_enter Tryz.func134,Tryz.ntmps134
  go_wp2
  go_ret
  exact ⟨rfl,Below.refl _ _⟩
def halfOk (n:Int):Bool:=decide (1 <= n/\n <= 65536)
theorem halves_any (l:List Int) (g:Nat) (w:World) (hc:∀ i,i < l.length->w.cell? ⟨g,i,none⟩ = some (.int .i64 (l.getD i 0))) (hl:l.length <= 100) :
  Calls Tryz.prog 133 #[.slice (some ⟨g,0,none⟩) l.length l.length] w fun e W=>e = .returned (.bool (l.all halfOk))/\W = w:=by
 have HC:Hid _:=hc
 clear hc
 obtain ⟨R,hR⟩:∃ R,l.all halfOk = R:=⟨_,rfl⟩
 rw [hR]
 have HR:Hid _:=hR
 clear hR
 go_enter Tryz.func133,Tryz.ntmps133
 go_wp2
 go_loop [7] (fun i=>∃ k:Nat,i = .int .i64 (k:Int)/\k <= l.length/\Hid ((l.take k).all halfOk = true)) (fun i=>l.length - (intOf i).toNat)
 case atStart=>exact ⟨0,rfl,Nat.zero_le _,rfl⟩
 case round =>
  obtain ⟨k,rfl,hk,HA⟩:=hrel
  by_cases hlt:k < l.length
  ·have hcell:=HC.out k hlt
   have hmem:l.getD k 0 ∈ l:=by rw [List.getD_eq_getElem?_getD,List.getElem?_eq_getElem hlt];exact List.getElem_mem hlt
   have HS:Hid ((l.take (k + 1)).all halfOk = ((l.take k).all halfOk && halfOk (l.getD k 0))):=by show _ = _;rw [List.take_succ_eq_append_getElem hlt,List.all_append,List.getD_eq_getElem?_getD,List.getElem?_eq_getElem hlt];simp
   have HM:Hid (halfOk (l.getD k 0) = false->R = false):=fun h=>by
    rw [<- HR.out,List.all_eq_false]
    exact ⟨_,hmem,by rw [h];decide⟩
   clear hmem
   generalize l.getD k 0 = n at *
   by_cases h1:1 <= n
   ·by_cases h2:n <= 65536
    ·have HS:Hid ((l.take (k + 1)).all halfOk = true):=by show _ = _;rw [HS.out,HA.out];simp [halfOk,h1,h2]
     go_wp2
     go_round
     case rel=>exact ⟨k + 1,by go_num,by omega,HS⟩
     case measure=>simp [intOf];omega
    ·have e:R = false:=HM.out (by simp [halfOk,h2])
     subst e
     go_wp2
     go_ret
     exact ⟨rfl,rfl⟩
   ·have e:R = false:=HM.out (by simp [halfOk,h1])
    subst e
    go_wp2
    go_ret
    exact ⟨rfl,rfl⟩
  ·have e:R = true:=by
    have e1:=HA.out
    rw [List.take_of_length_le (by omega:l.length <= k)] at e1
    rw [<- HR.out];exact e1
   subst e
   go_wp2
   go_ret
   exact ⟨rfl,rfl⟩
end
end Go.Proofs.YtpjaacpcdomfiaaGreat
