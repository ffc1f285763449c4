/- Package pose's Join and Grown, and the document's own Meet, Grown and Join: all inputs. -/
import Derived.Test.YtablgiflakncfaaGreatBBW0
import Derived.Test.YtablgiflakncfaaGreatBBW12
import Derived.Test.YtablgiflakncfaaGreatBBW11
import Derived.Test.YtablgiflakncfaaGreatBBW8
import Derived.Test.YtablgiflakncfaaGreatBBW6
set_option linter.unusedVariables false
namespace Go.Proofs.YtablgiflakncfaaGreat
section
open Go.RowKit Go.Shelf
def Bx.grown (a:Bx) (n:Int):Bx:=⟨a.lo.plus ⟨IntKind.i64.wrap (-n),IntKind.i64.wrap (-n),IntKind.i64.wrap (-n)⟩,a.hi.plus ⟨n,n,n⟩⟩
end
section
open Go.RowKit Go.Shelf
def Pt.win (p:Pt) (m:Int):Bool:=p.le ⟨m,m,m⟩ && Pt.le ⟨IntKind.i64.wrap (-m),IntKind.i64.wrap (-m),IntKind.i64.wrap (-m)⟩ p
end
section
open Go.RowKit Go.Shelf
theorem Cells.lt {W:World} {b:Nat} {u:Value} {vs:List Value} (h:Cells W b (u :: vs)):b < W.heap.size:=World.block_lt_of_cell? _ _ (h 0 u rfl).1
theorem Cells.apart {W:World} {b b':Nat} {vs:List Value} (h:Cells W b vs) (hne:b ≠ b') (o:Nat) (u:Value):Cells (W.setCell ⟨b',o,none⟩ u) b vs:=fun i v e =>
 ⟨by simp [go_sem,(h i v e).1],by simp [go_sem,(h i v e).2]⟩
def coreV (pv av ev:Value) (r:Int):Value:=.agg #[pv,av,ev,.int .i64 r]
theorem Cells.grew {A B:World} {row:Option Nat} {b:Nat} {vs:List Value} (h:Cells A b vs) (hg:A.grownBy B row) (hb:∀ r,row = some r->r ≠ b):Cells B b vs:=fun i v e=>by
 have hlt:=World.block_lt_of_cell? _ _ (h i v e).1
 have hbl:=hg.block b hlt (fun e=>hb b e.symm rfl)
 exact ⟨(World.cell?_of_block (w:=A) hbl).trans (h i v e).1,(World.frozen?_of_block (w:=A) hbl).trans (h i v e).2⟩
end
section
open Go.RowKit Fx
structure Shape where
 k:Nat
 v:Value
 n:Nat
@[reducible] def Shape.is (v:Value):Shape:=⟨0,v,0⟩
@[reducible] def Shape.ptr:Shape:=⟨1,undef,0⟩
@[reducible] def Shape.row (n:Nat):Shape:=⟨2,undef,n⟩
structure Made where
 i:Nat
 s:Nat
 cs:List Value
structure Plan where
 W:World
 N:Nat
 p:Addr
 fl:Addr
 g0:Bool
 bad:Bool
 f:Bool
 calls:List (Nat × Bool)
 tl:Nat
 st:Nat
 r:Nat
 res:List Value
 fixed:List (Addr × Value)
 made:List Made
structure Plan.Good (π:Plan):Prop where
 wn:π.W.heap.size <= π.N
 rr:π.res = [] \/ (π.W.heap.size <= π.r/\π.r < π.N/\π.fl.block ≠ π.r/\π.p.block ≠ π.r/\∀ c ∈ π.fixed,c.1.block ≠ π.r)
 fl0:π.fl = π.p \/ π.W.heap.size <= π.fl.block
 fl1:π.fl.block < π.N
 p0:π.fl = π.p \/ π.p.block < π.W.heap.size
 fx:∀ c ∈ π.fixed,c.1.block < π.N/\c.1.block ≠ π.fl.block/\c.1.block ≠ π.p.block
 badOf:π.bad = true->π.g0 = true \/ ∃ c ∈ π.calls,c.2 = true
 callBad:∀ c ∈ π.calls,c.2 = true->π.bad = true
def upd (γ:Nat->Nat) (i b:Nat):Nat->Nat:=fun j=>if j = i then b else γ j
section
variable {P:Program} {Q:Exit->Act->World->Prop} {D:Nat->Option Tmp} {A:Nat->Nat->Prop} {sh:Nat->Shape} {π:Plan} {a₀:Act}
end
end
section
open Go.RowKit Fx
def Step3 (f:Bool) (a b c:Option Int) (x y z:Int) (g:Bool):Prop:=
 x = cond (a.isNone || b.isNone || c.isNone) 0 (a.getD 0)/\y = cond (a.isNone || b.isNone || c.isNone) 0 (b.getD 0)/\z = cond (a.isNone || b.isNone || c.isNone) 0 (c.getD 0)/\g = (f || (a.isNone || b.isNone || c.isNone))
theorem row3 {w:World} {b:Nat} {x y z:Int} (h0:w.cell? ⟨b,0,none⟩ = some (.int .i64 x)) (h1:w.cell? ⟨b,1,none⟩ = some (.int .i64 y)) (h2:w.cell? ⟨b,2,none⟩ = some (.int .i64 z)):NRow w (some ⟨b,0,none⟩) [x,y,z]:=
 Or.inr ⟨b,0,rfl,fun k hk=>by
  match k,hk with
  | 0,_=>exact h0
  | 1,_=>exact h1
  | 2,_=>exact h2⟩
end
section
open Go.RowKit Fx
def rowsBad (q0 q1 q2 q3:Int):Bool:=(((add q0 q0).isNone || (add q1 q1).isNone || (add q2 q2).isNone || (add q3 q3).isNone) || ((sub 0 q0).isNone || (sub 0 q1).isNone || (sub 0 q2).isNone || (sub 0 q3).isNone)) || ([(dot [((add q2 q2).getD 0),((add q3 q3).getD 0)] [q2,q3]).isNone,(sub (4294967296) ((dot [((add q2 q2).getD 0),((add q3 q3).getD 0)] [q2,q3]).getD 0)).isNone,(dot [((add q1 q1).getD 0),((add q0 q0).getD 0)] [q2,((sub 0 q3).getD 0)]).isNone,(dot [((add q1 q1).getD 0),((add q0 q0).getD 0)] [q3,q2]).isNone,(dot [((add q1 q1).getD 0),((add q0 q0).getD 0)] [q2,q3]).isNone,(dot [((add q1 q1).getD 0),((add q3 q3).getD 0)] [q1,q3]).isNone,(sub (4294967296) ((dot [((add q1 q1).getD 0),((add q3 q3).getD 0)] [q1,q3]).getD 0)).isNone,(dot [((add q2 q2).getD 0),((add q0 q0).getD 0)] [q3,((sub 0 q1).getD 0)]).isNone,(dot [((add q1 q1).getD 0),((add q0 q0).getD 0)] [q3,((sub 0 q2).getD 0)]).isNone,(dot [((add q2 q2).getD 0),((add q0 q0).getD 0)] [q3,q1]).isNone,(dot [((add q1 q1).getD 0),((add q2 q2).getD 0)] [q1,q2]).isNone,(sub (4294967296) ((dot [((add q1 q1).getD 0),((add q2 q2).getD 0)] [q1,q2]).getD 0)).isNone]:List Bool).any id
def rowsAt0 (q0 q1 q2 q3:Int):Int:=(sub (4294967296) ((dot [((add q2 q2).getD 0),((add q3 q3).getD 0)] [q2,q3]).getD 0)).getD 0
def rowsAt1 (q0 q1 q2 q3:Int):Int:=(dot [((add q1 q1).getD 0),((add q0 q0).getD 0)] [q2,((sub 0 q3).getD 0)]).getD 0
def rowsAt2 (q0 q1 q2 q3:Int):Int:=(dot [((add q1 q1).getD 0),((add q0 q0).getD 0)] [q3,q2]).getD 0
def rowsAt3 (q0 q1 q2 q3:Int):Int:=(dot [((add q1 q1).getD 0),((add q0 q0).getD 0)] [q2,q3]).getD 0
def rowsAt4 (q0 q1 q2 q3:Int):Int:=(sub (4294967296) ((dot [((add q1 q1).getD 0),((add q3 q3).getD 0)] [q1,q3]).getD 0)).getD 0
def rowsAt5 (q0 q1 q2 q3:Int):Int:=(dot [((add q2 q2).getD 0),((add q0 q0).getD 0)] [q3,((sub 0 q1).getD 0)]).getD 0
def rowsAt6 (q0 q1 q2 q3:Int):Int:=(dot [((add q1 q1).getD 0),((add q0 q0).getD 0)] [q3,((sub 0 q2).getD 0)]).getD 0
def rowsAt7 (q0 q1 q2 q3:Int):Int:=(dot [((add q2 q2).getD 0),((add q0 q0).getD 0)] [q3,q1]).getD 0
def rowsAt8 (q0 q1 q2 q3:Int):Int:=(sub (4294967296) ((dot [((add q1 q1).getD 0),((add q2 q2).getD 0)] [q1,q2]).getD 0)).getD 0
end
section
open Go.RowKit Go.Shelf
structure M9 where
 a0:Int
 a1:Int
 a2:Int
 a3:Int
 a4:Int
 a5:Int
 a6:Int
 a7:Int
 a8:Int
def M9.v (m:M9):Value:=.agg #[.int .i64 m.a0,.int .i64 m.a1,.int .i64 m.a2,.int .i64 m.a3,.int .i64 m.a4,.int .i64 m.a5,.int .i64 m.a6,.int .i64 m.a7,.int .i64 m.a8]
def opt3 (a b c:Option Int):Option Pt:=match a,b,c with
 | some x,some y,some z=>some ⟨x,y,z⟩
 | _,_,_=>none
def M9.turn (m:M9) (x:Pt):Option Pt:=opt3 (Fx.dot [m.a0,m.a1,m.a2] [x.x,x.y,x.z]) (Fx.dot [m.a3,m.a4,m.a5] [x.x,x.y,x.z]) (Fx.dot [m.a6,m.a7,m.a8] [x.x,x.y,x.z])
def Pt.addO (x y:Pt):Option Pt:=opt3 (Fx.add x.x y.x) (Fx.add x.y y.y) (Fx.add x.z y.z)
def Pt.times (p:Pt) (n:Int):Pt:=⟨IntKind.i64.wrap (p.x * n),IntKind.i64.wrap (p.y * n),IntKind.i64.wrap (p.z * n)⟩
theorem step3_pt {f g:Bool} {a b c:Option Int} {x y z:Int} (h:Step3 f a b c x y z g):(⟨x,y,z⟩:Pt) = (opt3 a b c).getD Pt.O/\g = (f || (opt3 a b c).isNone):=by
 obtain ⟨h1,h2,h3,h4⟩:=h
 subst h1 h2 h3 h4
 cases a <;> cases b <;> cases c <;> simp [opt3,Pt.O]
theorem Cells.after {W W':World} {b:Nat} {u:Value} {vs:List Value} {g:Bool} (h:Cells W b (u :: vs)) (A:After ⟨b,0,none⟩ g W W'):Cells W' b (.bool g :: vs):=by
 intro i v e
 have hb:b < W.heap.size:=World.block_lt_of_cell? _ _ (h 0 u rfl).1
 cases i with
 | zero=>simp at e;subst e;exact ⟨A.cell,A.frozen⟩
 | succ i =>
  obtain ⟨h1,h2⟩:=h (i + 1) v (by simpa using e)
  obtain ⟨a1,a2⟩:=A.beside hb (i + 1) (by simp)
  exact ⟨a1.trans h1,a2.trans h2⟩
theorem Cells.beside {W W':World} {b b':Nat} {vs:List Value} {g:Bool} (h:Cells W b vs) (A:After ⟨b',0,none⟩ g W W') (hne:b ≠ b'):Cells W' b vs:=fun i v e =>
 ⟨A.cellOf (h i v e).1 hne,A.frozenOf (h i v e).1 (h i v e).2 hne⟩
theorem Box3.after {W W':World} {b b':Nat} {q:Pt} {g:Bool} (h:Box3 W b q) (A:After ⟨b',0,none⟩ g W W') (hne:b ≠ b'):Box3 W' b q:=
 ⟨A.cellOf h.c0 hne,A.cellOf h.c1 hne,A.cellOf h.c2 hne,A.frozenOf h.c0 h.f0 hne,A.frozenOf h.c1 h.f1 hne,A.frozenOf h.c2 h.f2 hne⟩
theorem RV.Pend.after {W0:World} {T i j:Nat} {fin:Array Value} {γ:Nat->Value} {L:Nat->Bool} {w w':World} {b:Nat} {g:Bool} (h:RV.Pend W0 T i j fin γ L w) (A:After ⟨b,0,none⟩ g w w') (hb:b < W0.heap.size):RV.Pend W0 T i j fin γ L w':=by
 intro hl
 obtain ⟨c,cs,h1,h2,h3,h4,h5⟩:=h hl
 exact ⟨c,cs,h1,h2,(A.kept.2.2.2 c (Array.getElem?_eq_some_iff.1 h3).1 (by show c ≠ b;omega)).trans h3,h4,h5⟩
theorem arr3' {cs:Array Value} (h:cs.size = 3):∃ u0 u1 u2,cs = #[u0,u1,u2]:=by
 obtain ⟨l⟩:=cs
 match l,h with
 | [a,b,c],_=>exact ⟨a,b,c,rfl⟩
def M9.at1 (m:M9) (p:Pt):Pt:=(m.turn (p.times 1048576)).getD Pt.O
def M9.at2 (m:M9) (t p:Pt):Pt:=((m.at1 p).addO t).getD Pt.O
def Pt.grain (p:Pt):Pt:=⟨p.x / 1048576,p.y / 1048576,p.z / 1048576⟩
def M9.ptV (m:M9) (t p:Pt):Pt:=(m.at2 t p).grain
def M9.ptB (m:M9) (t p:Pt):Bool:=(m.turn (p.times 1048576)).isNone || ((m.at1 p).addO t).isNone
structure Q4 where
 w:Int
 x:Int
 y:Int
 z:Int
def rowsB (q:Q4):Bool:=rowsBad q.w q.x q.y q.z
def rowsM (q:Q4):M9:=⟨cond (rowsB q) 0 (rowsAt0 q.w q.x q.y q.z),cond (rowsB q) 0 (rowsAt1 q.w q.x q.y q.z),cond (rowsB q) 0 (rowsAt2 q.w q.x q.y q.z),cond (rowsB q) 0 (rowsAt3 q.w q.x q.y q.z),cond (rowsB q) 0 (rowsAt4 q.w q.x q.y q.z),cond (rowsB q) 0 (rowsAt5 q.w q.x q.y q.z),cond (rowsB q) 0 (rowsAt6 q.w q.x q.y q.z),cond (rowsB q) 0 (rowsAt7 q.w q.x q.y q.z),cond (rowsB q) 0 (rowsAt8 q.w q.x q.y q.z)⟩
def poseV (t:Pt) (q:Q4):Value:=.agg #[.int .i64 t.x,.int .i64 t.y,.int .i64 t.z,.int .i64 q.w,.int .i64 q.x,.int .i64 q.y,.int .i64 q.z]
end
section
open Go.RowKit Go.Shelf
attribute [local go_sem] Oper.semAt_some
theorem row_turn {A B:World} {base e size k:Nat} {u:Value} {xs:List Value} {row:Option Nat} (h:A.ownsRow base e size u k xs) (hg:A.grownBy B row) (hr:∀ r,row = some r->r < base):B.ownsRow base e size u k xs:=by
 refine h.kept hg ?_
 cases e1:u.ownBlock with
 | none=>exact .inl rfl
 | some b=>exact .inr (fun e=>by have:=(h.lt b e1).1;have:=hr b (by rw [<- e]);omega)
def firsts (enc:Nat->Pt) (k:Nat):List Pt:=(List.range k).map enc
theorem firsts_succ (enc:Nat->Pt) (k:Nat):firsts enc (k + 1) = firsts enc k ++ [enc k]:=by simp [firsts,List.range_succ]
theorem firsts_length (enc:Nat->Pt) (k:Nat):(firsts enc k).length = k:=by simp [firsts]
theorem firsts_map (Ls:List Pt) (f:Pt->Pt):firsts (fun k=>f (pt Ls k)) Ls.length = Ls.map f:=by
 unfold firsts
 apply List.ext_getElem
 ·simp
 ·intro i h1 h2
  simp at h1 h2
  simp [pt,h2]
end
section
open Go.RowKit Go.Shelf
theorem win_in (p:Pt) (m:Int) (h1:0 <= m) (h2:m <= 9223372036854775807):p.win m = p.inB m:=by
 have e:IntKind.i64.wrap (-m) = -m:=by rw [IntKind.wrap_i64];omega
 unfold Pt.win Pt.le
 rw [e,Bool.eq_iff_iff,Pt.inB_iff]
 simp only [Bool.and_eq_true,decide_eq_true_eq]
 omega
def longF:Nat->Pt->Pt
 | 0,p=>p
 | n + 1,p=>if p.inB 524288 then longF n (p.plus p) else p
def Pt.long (p:Pt):Pt:=if p = Pt.O then p else longF 20 p
def Pt.big (p:Pt) (n:Nat):Prop:=2 ^ n <= p.x.natAbs \/ 2 ^ n <= p.y.natAbs \/ 2 ^ n <= p.z.natAbs
theorem big_lt {q:Pt} {g:Nat} (hq:q.inB 524288 = true) (hb:q.big (20 - g)):1 <= g:=by
 rw [Pt.inB_iff] at hq
 rcases Nat.eq_zero_or_pos g with rfl | h
 ·unfold Pt.big at hb
  simp only [Nat.sub_zero,Nat.reducePow] at hb
  omega
 ·exact h
theorem long_step {q:Pt} {g:Nat} (hq:q.inB 524288 = true) (hb:q.big (20 - (g + 1))) (hg:g + 1 <= 20):longF (g + 1) q = longF g (q.plus q)/\(q.plus q).big (20 - g)/\q.plus q = ⟨2 * q.x,2 * q.y,2 * q.z⟩:=by
 have hI:=(Pt.inB_iff _ _).1 hq
 have e:q.plus q = ⟨2 * q.x,2 * q.y,2 * q.z⟩:=by
  unfold Pt.plus
  congr 1
  ·rw [IntKind.wrap_i64];omega
  ·rw [IntKind.wrap_i64];omega
  ·rw [IntKind.wrap_i64];omega
 refine ⟨by simp [longF,hq],?_,e⟩
 rw [e]
 unfold Pt.big at *
 have:20 - g = (20 - (g + 1)) + 1:=by omega
 rw [this,Nat.pow_succ]
 dsimp only
 omega
theorem big_zero {p:Pt} (h:p ≠ Pt.O):p.big 0:=by
 unfold Pt.big
 apply Classical.byContradiction
 intro hn
 apply h
 obtain ⟨x,y,z⟩:=p
 simp only [Nat.pow_zero] at hn
 have h1:x = 0:=by omega
 have h2:y = 0:=by omega
 have h3:z = 0:=by omega
 rw [h1,h2,h3];rfl
def M9.dirT (m:M9) (p:Pt):Pt:=(m.turn (p.long.times 4096)).getD Pt.O
def Pt.quo (p:Pt) (n:Int):Pt:=⟨wrap64 (p.x.tdiv n),wrap64 (p.y.tdiv n),wrap64 (p.z.tdiv n)⟩
def M9.dirV (m:M9) (p:Pt):Pt:=((m.dirT p).quo 4096).short
def M9.dirB (m:M9) (p:Pt):Bool:=(m.turn (p.long.times 4096)).isNone
def M9.dirs (m:M9) (A:List Pt):List Pt:=(A.map m.dirV).filter (fun p=>decide (p ≠ Pt.O))
def dirsK (enc:Nat->Pt) (k:Nat):List Pt:=(firsts enc k).filter (fun p=>decide (p ≠ Pt.O))
theorem dirsK_yes (enc:Nat->Pt) (k:Nat) (h:enc k ≠ Pt.O):dirsK enc (k + 1) = dirsK enc k ++ [enc k]:=by unfold dirsK;rw [firsts_succ,List.filter_append];simp [h]
theorem dirsK_no (enc:Nat->Pt) (k:Nat) (h:enc k = Pt.O):dirsK enc (k + 1) = dirsK enc k:=by unfold dirsK;rw [firsts_succ,List.filter_append];simp [h]
theorem dirsK_length (enc:Nat->Pt) (k:Nat):(dirsK enc k).length <= k:=by have:=List.length_filter_le (fun p=>decide (p ≠ Pt.O)) (firsts enc k);rw [firsts_length] at this;exact this
def anyK (f:Nat->Bool):Nat->Bool
 | 0=>false
 | k + 1=>anyK f k || f k
theorem anyK_any (Ls:List Pt) (f:Pt->Bool):anyK (fun k=>f (pt Ls k)) Ls.length = Ls.any f:=by
 have key:∀ k,k <= Ls.length->anyK (fun k=>f (pt Ls k)) k = (Ls.take k).any f:=by
  intro k
  induction k with
  | zero=>intro _;simp [anyK]
  | succ k ih =>
   intro hk
   rw [List.take_succ_eq_append_getElem (by omega),List.any_append,<- ih (by omega)]
   simp [anyK,pt,List.getElem?_eq_getElem (show k < Ls.length by omega)]
 rw [key _ (Nat.le_refl _),List.take_length]
theorem after_grown {W W':World} {b:Nat} {g:Bool} (A:After ⟨b,0,none⟩ g W W'):W.grownBy W' (some b):=⟨A.kept.1,A.kept.2.1,A.kept.2.2.1,A.size,fun k hk hn=>A.kept.2.2.2 k hk (fun e=>hn (by rw [e]))⟩
end
section
open Go.RowKit Go.Shelf
attribute [local go_sem] Oper.semAt_some
def Bx.l (b:Bx):List Value:=[.int .i64 b.lo.x,.int .i64 b.lo.y,.int .i64 b.lo.z,.int .i64 b.hi.x,.int .i64 b.hi.y,.int .i64 b.hi.z]
end
section
open Go.RowKit Go.Shelf
theorem Lies.lt {A:World} {Ls:List Pt} {q:Addr} {n c:Nat} (h:Lies A (.slice (some q) n c) Ls) (h0:Ls ≠ []):q.block < A.heap.size:=by
 obtain ⟨o,cap,e,h1,h2,h3⟩:=h.form
 obtain ⟨g,off,e',a,_⟩:=h3 0 (List.length_pos_iff.2 h0)
 simp only [Value.slice.injEq] at e
 rw [<- e.1] at e'
 cases e'
 exact World.block_lt_of_cell? _ _ a
end
section
open Go.RowKit Go.Shelf
def placeableP (P A E:List Pt):Bool:=decide (0 < P.length) && (P.all (fun p=>p.win 1048576) && (A.all (fun p=>p.win 1048576) && E.all (fun p=>p.win 1048576)))
section
variable {V:World} {cb fb:Nat} {pv av ev:Value} {r:Int} {f b1 b2 b3:Bool} {m:M9} {t:Pt} {P A E:List Pt} {g4 g5 g9 g13 g16 g17:Value} {l4 l5 l9 l13 l16 l17 l18:Bool} {w w':World}
end
theorem arr4' {cs:Array Value} (h:cs.size = 4):∃ u0 u1 u2 u3,cs = #[u0,u1,u2,u3]:=by
 obtain ⟨l⟩:=cs
 match l,h with
 | [a,b,c,d],_=>exact ⟨a,b,c,d,rfl⟩
end
section
open Go.RowKit Go.Shelf
def badP (t:Pt) (q:Q4) (P A E:List Pt):Bool:=rowsB q || P.any ((rowsM q).ptB t) || A.any (rowsM q).dirB || E.any (rowsM q).dirB
def nearP (P:List Pt):Bool:=P.all fun p=>p.win 8388608
def placeOk (t:Pt) (q:Q4) (P A E:List Pt):Bool:=placeableP P A E && (!(badP t q P A E) && nearP (P.map ((rowsM q).ptV t)))
end
section
open Go.RowKit Fx
theorem neg_is (y:Int):((sub 0 y).isNone = true/\great y = true/\great (-y) = true) \/ ((sub 0 y) = some (-y)/\great y = false/\great (-y) = false):=by
 cases h:great y
 ·have h':=(not_great y).1 h
  have g:great (-y) = false:=(not_great _).2 (by omega)
  refine Or.inr ⟨?_,rfl,g⟩
  have z:great 0 = false:=by decide
  have e:(0:Int) - y = -y:=by omega
  simp [sub,h,z,Fx.told,e,g]
 ·have h':=(great_iff y).1 h
  refine Or.inl ⟨?_,rfl,(great_iff _).2 (by omega)⟩
  simp [sub,h]
end
section
open Go.RowKit Fx
theorem in_square {x n R:Int} (hR:0 <= R) (hn:0 <= n) (h:x * x + R < (n + 1) * (n + 1)):-n <= x/\x <= n:=by
 constructor
 ·apply Int.not_lt.1
  intro hlt
  have:=Int.mul_le_mul (show n + 1 <= -x by omega) (show n + 1 <= -x by omega) (by omega) (by omega)
  rw [Int.neg_mul_neg] at this
  omega
 ·apply Int.not_lt.1
  intro hlt
  have:=Int.mul_le_mul (show n + 1 <= x by omega) (show n + 1 <= x by omega) (by omega) (by omega)
  omega
theorem sq_nonneg (x:Int):0 <= x * x:=by
 rcases Int.le_total 0 x with g | g
 ·exact Int.mul_nonneg g g
 ·exact Int.mul_nonneg_of_nonpos_of_nonpos g g
end
section
open Go.RowKit Fx
def wholeBad (q0 q1 q2 q3:Int):Bool:=decide (((norm [q0,q1,q2,q3]).getD 0) < 2147483648) || ((ratio q0 4294967296 ((norm [q0,q1,q2,q3]).getD 0)).isNone || (ratio q1 4294967296 ((norm [q0,q1,q2,q3]).getD 0)).isNone || (ratio q2 4294967296 ((norm [q0,q1,q2,q3]).getD 0)).isNone || (ratio q3 4294967296 ((norm [q0,q1,q2,q3]).getD 0)).isNone)
end
section
open Go.RowKit Fx
namespace WM
theorem mul_in {a b A B:Int} (ha:-A <= a/\a <= A) (hb:-B <= b/\b <= B):-(A * B) <= a * b/\a * b <= A * B:=by
 have h1:=Int.mul_nonneg (show 0 <= A - a by omega) (show 0 <= B + b by omega)
 have h2:=Int.mul_nonneg (show 0 <= A + a by omega) (show 0 <= B - b by omega)
 have h3:=Int.mul_nonneg (show 0 <= A - a by omega) (show 0 <= B - b by omega)
 have h4:=Int.mul_nonneg (show 0 <= A + a by omega) (show 0 <= B + b by omega)
 simp only [Int.add_mul,Int.sub_mul,Int.mul_add,Int.mul_sub] at h1 h2 h3 h4
 omega
theorem norm4_some {x y z u s:Int} (h:norm [x,y,z,u] = some s):great x = false/\great y = false/\great z = false/\great u = false/\great s = false/\0 <= s/\s * s <= x * x + (y * y + (z * z + u * u))/\x * x + (y * y + (z * z + u * u)) < (s + 1) * (s + 1):=by
 unfold norm at h
 split at h
 ·simp at h
 ·split at h
  ·simp at h
  ·rename_i ha
   unfold Fx.told at h
   split at h
   ·simp at h
   ·rename_i hg
    have hg':great _ = false:=Bool.eq_false_iff.2 hg
    simp only [Option.some.injEq] at h
    rw [h] at hg'
    obtain ⟨p,q⟩:=isq_is (prods [x,y,z,u] [x,y,z,u]).toNat
    have h0:=prods_self [x,y,z,u]
    generalize hr:isq (prods [x,y,z,u] [x,y,z,u]).toNat = r at *
    have p':=Int.ofNat_le.2 p
    have q':=Int.ofNat_lt.2 q
    rw [Int.toNat_of_nonneg h0,Int.natCast_mul] at p' q'
    rw [Int.natCast_add] at q'
    simp only [prods,Int.add_zero] at p' q'
    simp only [List.any_cons,List.any_nil,Bool.or_false,Bool.not_eq_true,Bool.or_eq_false_iff] at ha
    subst h
    exact ⟨ha.1,ha.2.1,ha.2.2.1,ha.2.2.2,hg',by omega,p',q'⟩
theorem part4 {x n u t:Int} (hn:0 < n) (ht:-t <= x/\x <= t) (htn:t <= n) (hu:u = x * 4294967296 / n):-4294967296 <= u/\u <= 4294967296/\n * n * (u * u) <= 18446744073709551616 * (x * x) + 8589934592 * (t * n) + n * n/\18446744073709551616 * (x * x) <= n * n * (u * u) + 8589934592 * (t * n):=by
 have hd:=div_is (x * 4294967296) n (by omega)
 rw [<- hu] at hd
 obtain ⟨e,he⟩:∃ e,e = x * 4294967296 - u * n:=⟨_,rfl⟩
 have e0:0 <= e:=by omega
 have e1:e < n:=by have:=hd.2;rw [Int.add_mul] at this;omega
 have un:u * n = x * 4294967296 - e:=by omega
 have sq:n * n * (u * u) = 18446744073709551616 * (x * x) - 8589934592 * (x * e) + e * e:=by
  have:n * n * (u * u) = (u * n) * (u * n):=by grind
  rw [this,un];grind
 have b1:=mul_in (a:=x) (b:=e) (A:=t) (B:=n) ht (by omega)
 have b3:e * e <= n * n:=Int.mul_le_mul (by omega) (by omega) e0 (by omega)
 have b4:0 <= e * e:=Int.mul_nonneg e0 e0
 refine ⟨?_,?_,by omega,by omega⟩
 ·apply Int.not_lt.1
  intro hlt
  have:=Int.mul_le_mul_of_nonneg_right (show u + 1 <= -4294967296 by omega) (show 0 <= n by omega)
  have:=hd.2
  omega
 ·apply Int.not_lt.1
  intro hlt
  have:=Int.mul_le_mul_of_nonneg_right (show 4294967297 <= u by omega) (show 0 <= n by omega)
  have:=hd.1
  omega
theorem size_of (x:Int):∃ t:Int,0 <= t/\(-t <= x/\x <= t)/\t * t = x * x/\(t = x \/ t = -x):=by
 rcases Int.le_total 0 x with g | g
 ·exact ⟨x,g,⟨by omega,by omega⟩,rfl,Or.inl rfl⟩
 ·exact ⟨-x,by omega,⟨by omega,by omega⟩,by rw [Int.neg_mul_neg],Or.inr rfl⟩
theorem cauchy4 (a b c d:Int):(a + b + c + d) * (a + b + c + d) <= 4 * (a * a + (b * b + (c * c + d * d))):=by
 have h1:=sq_nonneg (a - b)
 have h2:=sq_nonneg (a - c)
 have h3:=sq_nonneg (a - d)
 have h4:=sq_nonneg (b - c)
 have h5:=sq_nonneg (b - d)
 have h6:=sq_nonneg (c - d)
 have e:4 * (a * a + (b * b + (c * c + d * d))) - (a + b + c + d) * (a + b + c + d) = (a - b) * (a - b) + (a - c) * (a - c) + (a - d) * (a - d) + (b - c) * (b - c) + (b - d) * (b - d) + (c - d) * (c - d):=by grind
 omega
theorem cauchy3 (a b c:Int):(a + b + c) * (a + b + c) <= 3 * (a * a + (b * b + c * c)):=by
 have h1:=sq_nonneg (a - b)
 have h2:=sq_nonneg (a - c)
 have h4:=sq_nonneg (b - c)
 have e:3 * (a * a + (b * b + c * c)) - (a + b + c) * (a + b + c) = (a - b) * (a - b) + (a - c) * (a - c) + (b - c) * (b - c):=by grind
 omega
theorem whole_long {x y z s n:Int} (h:norm [x,y,z,s] = some n) (hn:2147483648 <= n):∃ a b c d l,ratio x 4294967296 n = some a/\ratio y 4294967296 n = some b/\ratio z 4294967296 n = some c/\ratio s 4294967296 n = some d/\norm [a,b,c,d] = some l/\4294967292 <= l/\l <= 4294967300 /\
  (-4294967296 <= a/\a <= 4294967296)/\(-4294967296 <= b/\b <= 4294967296)/\(-4294967296 <= c/\c <= 4294967296)/\(-4294967296 <= d/\d <= 4294967296) /\
  -34359738376 <= a * a + (b * b + (c * c + d * d)) - 18446744073709551616/\a * a + (b * b + (c * c + d * d)) - 18446744073709551616 <= 34359738376:=by
 obtain ⟨gx,gy,gz,gs,gn,n0,h1,h2⟩:=norm4_some h
 have px:=sq_nonneg x
 have py:=sq_nonneg y
 have pz:=sq_nonneg z
 have ps:=sq_nonneg s
 have ix:=in_square (x:=x) (R:=y * y + (z * z + s * s)) (by omega) n0 (by omega)
 have iy:=in_square (x:=y) (R:=x * x + (z * z + s * s)) (by omega) n0 (by omega)
 have iz:=in_square (x:=z) (R:=x * x + (y * y + s * s)) (by omega) n0 (by omega)
 have is:=in_square (x:=s) (R:=x * x + (y * y + z * z)) (by omega) n0 (by omega)
 obtain ⟨tx,tx0,tx1,tx2,tx3⟩:=size_of x
 obtain ⟨ty,ty0,ty1,ty2,ty3⟩:=size_of y
 obtain ⟨tz,tz0,tz1,tz2,tz3⟩:=size_of z
 obtain ⟨ts,ts0,ts1,ts2,ts3⟩:=size_of s
 have hx9:tx <= n:=by clear ty3 tz3 ts3;omega
 have hy9:ty <= n:=by clear tx3 tz3 ts3;omega
 have hz9:tz <= n:=by clear tx3 ty3 ts3;omega
 have hs9:ts <= n:=by clear tx3 ty3 tz3;omega
 clear tx3 ty3 tz3 ts3
 have kx:=part4 (u:=x * 4294967296 / n) (by omega) tx1 hx9 rfl
 have ky:=part4 (u:=y * 4294967296 / n) (by omega) ty1 hy9 rfl
 have kz:=part4 (u:=z * 4294967296 / n) (by omega) tz1 hz9 rfl
 have ks:=part4 (u:=s * 4294967296 / n) (by omega) ts1 hs9 rfl
 have one:∀ t:Int,great t = false->-4294967296 <= t * 4294967296 / n/\t * 4294967296 / n <= 4294967296->ratio t 4294967296 n = some (t * 4294967296 / n):=by
  intro t gt hb
  have g1:great 4294967296 = false:=by decide
  have g2:great (t * 4294967296 / n) = false:=(not_great _).2 ⟨Int.le_trans (by omega) hb.1,Int.le_trans hb.2 (by omega)⟩
  unfold ratio fl
  rw [if_neg (by omega:¬ n = 0),gt,g1,gn,if_neg (by omega:¬ n < 0)]
  simp [Fx.told,g2]
 have r0:=one x gx ⟨kx.1,kx.2.1⟩
 have r1:=one y gy ⟨ky.1,ky.2.1⟩
 have r2:=one z gz ⟨kz.1,kz.2.1⟩
 have r3:=one s gs ⟨ks.1,ks.2.1⟩
 generalize x * 4294967296 / n = a at *
 generalize y * 4294967296 / n = b at *
 generalize z * 4294967296 / n = c at *
 generalize s * 4294967296 / n = d at *
 clear one
 have ga:great a = false:=(not_great _).2 (by omega)
 have gb:great b = false:=(not_great _).2 (by omega)
 have gc:great c = false:=(not_great _).2 (by omega)
 have gd:great d = false:=(not_great _).2 (by omega)
 obtain ⟨T,hT⟩:∃ T,T = tx + ty + tz + ts:=⟨_,rfl⟩
 have hc:=cauchy4 tx ty tz ts
 rw [<- hT,tx2,ty2,tz2,ts2] at hc
 have h3:(n + 1) * (n + 1) = n * n + 2 * n + 1:=by grind
 have hT1:T <= 2 * n + 1:=by
  apply Int.not_lt.1
  intro hlt
  have:=Int.mul_le_mul (show 2 * (n + 1) <= T by omega) (show 2 * (n + 1) <= T by omega) (by omega) (by omega)
  have e:2 * (n + 1) * (2 * (n + 1)) = 4 * ((n + 1) * (n + 1)):=by grind
  omega
 have hTn:T * n <= (2 * n + 1) * n:=Int.mul_le_mul_of_nonneg_right hT1 n0
 have hTn':T * n = tx * n + ty * n + tz * n + ts * n:=by rw [hT];grind
 have e1:(2 * n + 1) * n = 2 * (n * n) + n:=by grind
 have nn:2147483648 * n <= n * n:=Int.mul_le_mul_of_nonneg_right hn n0
 have np:0 < n * n:=Int.mul_pos (by omega) (by omega)
 obtain ⟨S,hS⟩:∃ S,S = a * a + (b * b + (c * c + d * d)):=⟨_,rfl⟩
 have pa:=sq_nonneg a
 have pb:=sq_nonneg b
 have pc:=sq_nonneg c
 have pd:=sq_nonneg d
 have S0:0 <= S:=by omega
 have hnS:n * n * S = n * n * (a * a) + (n * n * (b * b) + (n * n * (c * c) + n * n * (d * d))):=by rw [hS,Int.mul_add,Int.mul_add,Int.mul_add]
 rw [h3] at h2
 clear hc tx2 ty2 tz2 ts2
 have up:n * n * S <= n * n * 18446744108069289992:=by omega
 have lo:n * n * 18446744056529682428 <= n * n * S:=by omega
 have up':S <= 18446744108069289992:=Int.le_of_mul_le_mul_left up np
 have lo':18446744056529682428 <= S:=Int.le_of_mul_le_mul_left lo np
 have hpr:prods [a,b,c,d] [a,b,c,d] = S:=by simp only [prods,Int.add_zero,hS]
 obtain ⟨p,q⟩:=isq_is S.toNat
 obtain ⟨l,hl⟩:∃ l:Nat,l = isq S.toNat:=⟨_,rfl⟩
 rw [<- hl] at p q
 have p':=Int.ofNat_le.2 p
 have q':=Int.ofNat_lt.2 q
 rw [Int.toNat_of_nonneg S0,Int.natCast_mul] at p' q'
 rw [Int.natCast_add] at q'
 have l1:(4294967292:Int) <= l:=by
  apply Int.not_lt.1
  intro hlt
  have:=Int.mul_le_mul (show (l:Int) + ((1:Nat):Int) <= 4294967292 by omega) (show (l:Int) + ((1:Nat):Int) <= 4294967292 by omega) (by omega) (by omega)
  omega
 have l2:(l:Int) <= 4294967300:=by
  apply Int.not_lt.1
  intro hlt
  have:=Int.mul_le_mul (show (4294967301:Int) <= l by omega) (show (4294967301:Int) <= l by omega) (by omega) (by omega)
  omega
 refine ⟨a,b,c,d,l,r0,r1,r2,r3,?_,l1,l2,⟨kx.1,kx.2.1⟩,⟨ky.1,ky.2.1⟩,⟨kz.1,kz.2.1⟩,⟨ks.1,ks.2.1⟩,by omega,by omega⟩
 have gl:great (l:Int) = false:=(not_great _).2 (by omega)
 unfold norm
 rw [if_neg (by simp),hpr,<- hl]
 simp [ga,gb,gc,gd,Fx.told,gl]
theorem dot2 {a b c d:Int} (ha:-8589934592 <= a/\a <= 8589934592) (hb:-8589934592 <= b/\b <= 8589934592) (hc:-4294967296 <= c/\c <= 4294967296) (hd:-4294967296 <= d/\d <= 4294967296) :
  ∃ r:Int,dot [a,b] [c,d] = some r/\4294967296 * r <= a * c + b * d/\a * c + b * d < 4294967296 * r + 4294967296/\-17179869184 <= r/\r <= 17179869184:=by
 have k1:=mul_in ha hc
 have k2:=mul_in hb hd
 have hv:=div_is (a * c + b * d) 4294967296 (by omega)
 have e:prods [a,b] [c,d] / 4294967296 = (a * c + b * d) / 4294967296:=by simp only [prods,Int.add_zero]
 refine ⟨(a * c + b * d) / 4294967296,?_,by omega,by omega,by omega,by omega⟩
 have g1:[a,b].any great = false:=by simp [(not_great a).2 (by omega),(not_great b).2 (by omega)]
 have g2:[c,d].any great = false:=by simp [(not_great c).2 (by omega),(not_great d).2 (by omega)]
 have g3:great ((a * c + b * d) / 4294967296) = false:=(not_great _).2 (by omega)
 unfold dot
 rw [if_neg (by simp),if_neg (by simp),g1,g2,e]
 simp [Fx.told,g3]
theorem add2 {q:Int} (h:-4294967296 <= q/\q <= 4294967296):add q q = some (2 * q):=by
 unfold add
 rw [(not_great q).2 (by omega),show q + q = 2 * q by omega]
 simp [Fx.told,(not_great (2 * q)).2 (by omega)]
theorem sub0 {q:Int} (h:-4294967296 <= q/\q <= 4294967296):sub 0 q = some (-q):=by
 unfold sub
 rw [(not_great q).2 (by omega),show (0:Int) - q = -q by omega,(not_great 0).2 (by omega)]
 simp [Fx.told,(not_great (-q)).2 (by omega)]
theorem sub1 {q:Int} (h:-17179869184 <= q/\q <= 17179869184):sub 4294967296 q = some (4294967296 - q):=by
 unfold sub
 rw [(not_great q).2 (by omega),(not_great 4294967296).2 (by omega)]
 simp [Fx.told,(not_great (4294967296 - q)).2 (by omega)]
def Near (m R:Int):Prop:=(-4294967296 <= 4294967296 * m - R/\4294967296 * m - R <= 4294967296)/\(-36893488147419103232 <= R/\R <= 36893488147419103232)/\(-8589934592 <= m/\m <= 8589934592)
theorem near_off {r P:Int} (l:4294967296 * r <= P) (u:P < 4294967296 * r + 4294967296) (hP:-18446744108069289992 <= P/\P <= 18446744108069289992):Near r P:=by
 unfold Near
 omega
theorem near_dia {r P:Int} (l:4294967296 * r <= P) (u:P < 4294967296 * r + 4294967296) (hP:0 <= P/\P <= 36893488216138579984):Near (4294967296 - r) (18446744073709551616 - P):=by
 unfold Near
 omega
theorem two_le {a b:Int}:-(a * a + b * b) <= 2 * (a * b)/\2 * (a * b) <= a * a + b * b:=by
 have h3:=sq_nonneg (a + b)
 have h4:=sq_nonneg (a - b)
 have e3:(a + b) * (a + b) = a * a + b * b + 2 * (a * b):=by grind
 have e4:(a - b) * (a - b) = a * a + b * b - 2 * (a * b):=by grind
 omega
theorem off_le {a b c d M:Int} (h:a * a + b * b + (c * c + d * d) <= M):(-M <= 2 * (a * b) + 2 * (c * d)/\2 * (a * b) + 2 * (c * d) <= M)/\(-M <= 2 * (a * b) + 2 * (c * -d)/\2 * (a * b) + 2 * (c * -d) <= M):=by
 have h1:=two_le (a:=a) (b:=b)
 have h2:=two_le (a:=c) (b:=d)
 rw [Int.mul_neg]
 omega
theorem dia_le {a b c d M:Int} (h:a * a + b * b + (c * c + d * d) <= M):0 <= 2 * (a * a) + 2 * (b * b)/\2 * (a * a) + 2 * (b * b) <= 2 * M:=by
 have h1:=sq_nonneg a
 have h2:=sq_nonneg b
 have h3:=sq_nonneg c
 have h4:=sq_nonneg d
 omega
theorem neg_in {q:Int} (h:-4294967296 <= q/\q <= 4294967296):-4294967296 <= -q/\-q <= 4294967296:=by omega
theorem dbl_in {q:Int} (h:-4294967296 <= q/\q <= 4294967296):-8589934592 <= 2 * q/\2 * q <= 8589934592:=by omega
theorem rows_near {w x y z:Int} (hw:-4294967296 <= w/\w <= 4294967296) (hx:-4294967296 <= x/\x <= 4294967296) (hy:-4294967296 <= y/\y <= 4294967296) (hz:-4294967296 <= z/\z <= 4294967296)
  (h2:w * w + (x * x + (y * y + z * z)) - 18446744073709551616 <= 34359738376):rowsBad w x y z = false /\
  Near (rowsAt0 w x y z) (18446744073709551616 - (2 * (y * y) + 2 * (z * z)))/\Near (rowsAt1 w x y z) (2 * (x * y) + 2 * (w * -z))/\Near (rowsAt2 w x y z) (2 * (x * z) + 2 * (w * y)) /\
  Near (rowsAt3 w x y z) (2 * (x * y) + 2 * (w * z))/\Near (rowsAt4 w x y z) (18446744073709551616 - (2 * (x * x) + 2 * (z * z)))/\Near (rowsAt5 w x y z) (2 * (y * z) + 2 * (w * -x)) /\
  Near (rowsAt6 w x y z) (2 * (x * z) + 2 * (w * -y))/\Near (rowsAt7 w x y z) (2 * (y * z) + 2 * (w * x))/\Near (rowsAt8 w x y z) (18446744073709551616 - (2 * (x * x) + 2 * (y * y))):=by
 have B0:=dia_le (a:=y) (b:=z) (c:=w) (d:=x) (M:=18446744108069289992) (by omega)
 have B1:=off_le (a:=x) (b:=y) (c:=w) (d:=z) (M:=18446744108069289992) (by omega)
 have B2:=off_le (a:=x) (b:=z) (c:=w) (d:=y) (M:=18446744108069289992) (by omega)
 have B4:=dia_le (a:=x) (b:=z) (c:=w) (d:=y) (M:=18446744108069289992) (by omega)
 have B5:=off_le (a:=y) (b:=z) (c:=w) (d:=x) (M:=18446744108069289992) (by omega)
 have B8:=dia_le (a:=x) (b:=y) (c:=w) (d:=z) (M:=18446744108069289992) (by omega)
 obtain ⟨r0,d0,l0,u0,k0,j0⟩:=dot2 (dbl_in hy) (dbl_in hz) hy hz
 obtain ⟨r1,d1,l1,u1,k1,j1⟩:=dot2 (dbl_in hx) (dbl_in hw) hy (neg_in hz)
 obtain ⟨r2,d2,l2,u2,k2,j2⟩:=dot2 (dbl_in hx) (dbl_in hw) hz hy
 obtain ⟨r3,d3,l3,u3,k3,j3⟩:=dot2 (dbl_in hx) (dbl_in hw) hy hz
 obtain ⟨r4,d4,l4,u4,k4,j4⟩:=dot2 (dbl_in hx) (dbl_in hz) hx hz
 obtain ⟨r5,d5,l5,u5,k5,j5⟩:=dot2 (dbl_in hy) (dbl_in hw) hz (neg_in hx)
 obtain ⟨r6,d6,l6,u6,k6,j6⟩:=dot2 (dbl_in hx) (dbl_in hw) hz (neg_in hy)
 obtain ⟨r7,d7,l7,u7,k7,j7⟩:=dot2 (dbl_in hy) (dbl_in hw) hz hx
 obtain ⟨r8,d8,l8,u8,k8,j8⟩:=dot2 (dbl_in hx) (dbl_in hy) hx hy
 simp only [Int.mul_assoc] at l0 u0 l1 u1 l2 u2 l3 u3 l4 u4 l5 u5 l6 u6 l7 u7 l8 u8
 unfold rowsBad rowsAt0 rowsAt1 rowsAt2 rowsAt3 rowsAt4 rowsAt5 rowsAt6 rowsAt7 rowsAt8
 simp only [add2 hw,add2 hx,add2 hy,add2 hz,sub0 hw,sub0 hx,sub0 hy,sub0 hz,Option.getD_some,Option.isNone_some,d0,d1,d2,d3,d4,d5,d6,d7,d8,sub1 ⟨k0,j0⟩,sub1 ⟨k4,j4⟩,sub1 ⟨k8,j8⟩]
 exact ⟨by simp,near_dia l0 u0 B0,near_off l1 u1 B1.2,near_off l2 u2 B2.1,near_off l3 u3 B1.1,near_dia l4 u4 B4,near_off l5 u5 B5.2,near_off l6 u6 B2.2,near_off l7 u7 B5.1,near_dia l8 u8 B8⟩
theorem near_mul {m k R T:Int} (h:Near m R) (h':Near k T):-316912650057057350374175801344 - 18446744073709551616 <= 18446744073709551616 * (m * k) - R * T/\18446744073709551616 * (m * k) - R * T <= 316912650057057350374175801344 + 18446744073709551616:=by
 obtain ⟨a,b,_⟩:=h
 obtain ⟨c,d,_⟩:=h'
 generalize hδ:4294967296 * m - R = δ at *
 generalize hτ:4294967296 * k - T = τ at *
 have e:18446744073709551616 * (m * k) = R * T + R * τ + δ * T + δ * τ:=by
  have h1:4294967296 * m = R + δ:=by omega
  have h2:4294967296 * k = T + τ:=by omega
  have h3:18446744073709551616 * (m * k) = (4294967296 * m) * (4294967296 * k):=by grind
  rw [h3,h1,h2];grind
 have k1:=mul_in b c
 have k2:=mul_in a d
 have k3:=mul_in a c
 omega
theorem gram {m0 m1 m2 k0 k1 k2 R0 R1 R2 T0 T1 T2 D:Int} (h0:Near m0 R0) (h1:Near m1 R1) (h2:Near m2 R2) (g0:Near k0 T0) (g1:Near k1 T1) (g2:Near k2 T2)
  (hz:-5704427701027032306735164424192 <= R0 * T0 + R1 * T1 + R2 * T2 - 18446744073709551616 * D/\R0 * T0 + R1 * T1 + R2 * T2 - 18446744073709551616 * D <= 5704427701027032306735164424192) :
  -365072220160 <= m0 * k0 + m1 * k1 + m2 * k2 - D/\m0 * k0 + m1 * k1 + m2 * k2 - D <= 365072220160:=by
 have a0:=near_mul h0 g0
 have a1:=near_mul h1 g1
 have a2:=near_mul h2 g2
 omega
end WM
end
section
open Go.RowKit Fx
namespace WM
theorem id_in {E K:Int} (hE:-34359738376 <= E/\E <= 34359738376) (hK:-18446744108069289992 <= K/\K <= 18446744108069289992):-5704427701027032306735164424192 <= 4 * (E * K)/\4 * (E * K) <= 5704427701027032306735164424192:=by
 have:=mul_in hE hK
 omega
theorem hz_of {L D E K:Int} (e:L - 18446744073709551616 * D = 4 * (E * K)) (hE:-34359738376 <= E/\E <= 34359738376) (hK:-18446744108069289992 <= K/\K <= 18446744108069289992) :
  -5704427701027032306735164424192 <= L - 18446744073709551616 * D/\L - 18446744073709551616 * D <= 5704427701027032306735164424192:=by
 rw [e];exact id_in hE hK
theorem same_id (s w x y z:Int):(s - (2 * (y * y) + 2 * (z * z))) * (s - (2 * (y * y) + 2 * (z * z))) + (2 * (x * y) + 2 * (w * z)) * (2 * (x * y) + 2 * (w * z)) + (2 * (x * z) + 2 * (w * -y)) * (2 * (x * z) + 2 * (w * -y)) - s * s = 4 * ((w * w + (x * x + (y * y + z * z)) - s) * (y * y + z * z)):=by grind
theorem same_id1 (s w x y z:Int):(2 * (x * y) + 2 * (w * -z)) * (2 * (x * y) + 2 * (w * -z)) + (s - (2 * (x * x) + 2 * (z * z))) * (s - (2 * (x * x) + 2 * (z * z))) + (2 * (y * z) + 2 * (w * x)) * (2 * (y * z) + 2 * (w * x)) - s * s = 4 * ((w * w + (x * x + (y * y + z * z)) - s) * (x * x + z * z)):=by grind
theorem same_id2 (s w x y z:Int):(2 * (x * z) + 2 * (w * y)) * (2 * (x * z) + 2 * (w * y)) + (2 * (y * z) + 2 * (w * -x)) * (2 * (y * z) + 2 * (w * -x)) + (s - (2 * (x * x) + 2 * (y * y))) * (s - (2 * (x * x) + 2 * (y * y))) - s * s = 4 * ((w * w + (x * x + (y * y + z * z)) - s) * (x * x + y * y)):=by grind
theorem other_id01 (s w x y z:Int):(s - (2 * (y * y) + 2 * (z * z))) * (2 * (x * y) + 2 * (w * -z)) + (2 * (x * y) + 2 * (w * z)) * (s - (2 * (x * x) + 2 * (z * z))) + (2 * (x * z) + 2 * (w * -y)) * (2 * (y * z) + 2 * (w * x)) - s * 0 = 4 * ((w * w + (x * x + (y * y + z * z)) - s) * -(x * y)):=by grind
theorem other_id02 (s w x y z:Int):(s - (2 * (y * y) + 2 * (z * z))) * (2 * (x * z) + 2 * (w * y)) + (2 * (x * y) + 2 * (w * z)) * (2 * (y * z) + 2 * (w * -x)) + (2 * (x * z) + 2 * (w * -y)) * (s - (2 * (x * x) + 2 * (y * y))) - s * 0 = 4 * ((w * w + (x * x + (y * y + z * z)) - s) * -(x * z)):=by grind
theorem other_id12 (s w x y z:Int):(2 * (x * y) + 2 * (w * -z)) * (2 * (x * z) + 2 * (w * y)) + (s - (2 * (x * x) + 2 * (z * z))) * (2 * (y * z) + 2 * (w * -x)) + (2 * (y * z) + 2 * (w * x)) * (s - (2 * (x * x) + 2 * (y * y))) - s * 0 = 4 * ((w * w + (x * x + (y * y + z * z)) - s) * -(y * z)):=by grind
def Whole (w x y z:Int):Prop:=(-4294967296 <= w/\w <= 4294967296)/\(-4294967296 <= x/\x <= 4294967296)/\(-4294967296 <= y/\y <= 4294967296)/\(-4294967296 <= z/\z <= 4294967296) /\
  -34359738376 <= w * w + (x * x + (y * y + z * z)) - 18446744073709551616/\w * w + (x * x + (y * y + z * z)) - 18446744073709551616 <= 34359738376
def Gram (m0 m1 m2 k0 k1 k2 D:Int):Prop:=-365072220160 <= m0 * k0 + m1 * k1 + m2 * k2 - D/\m0 * k0 + m1 * k1 + m2 * k2 - D <= 365072220160
theorem Gram.comm {m0 m1 m2 k0 k1 k2 D:Int} (h:Gram m0 m1 m2 k0 k1 k2 D):Gram k0 k1 k2 m0 m1 m2 D:=by
 unfold Gram at h ⊢
 rw [Int.mul_comm k0,Int.mul_comm k1,Int.mul_comm k2]
 exact h
theorem grams {w x y z m0 m1 m2 m3 m4 m5 m6 m7 m8:Int} (h:Whole w x y z)
  (n0:Near m0 (18446744073709551616 - (2 * (y * y) + 2 * (z * z)))) (n1:Near m1 (2 * (x * y) + 2 * (w * -z))) (n2:Near m2 (2 * (x * z) + 2 * (w * y)))
  (n3:Near m3 (2 * (x * y) + 2 * (w * z))) (n4:Near m4 (18446744073709551616 - (2 * (x * x) + 2 * (z * z)))) (n5:Near m5 (2 * (y * z) + 2 * (w * -x)))
  (n6:Near m6 (2 * (x * z) + 2 * (w * -y))) (n7:Near m7 (2 * (y * z) + 2 * (w * x))) (n8:Near m8 (18446744073709551616 - (2 * (x * x) + 2 * (y * y)))) :
  Gram m0 m3 m6 m0 m3 m6 18446744073709551616/\Gram m1 m4 m7 m1 m4 m7 18446744073709551616/\Gram m2 m5 m8 m2 m5 m8 18446744073709551616/\Gram m0 m3 m6 m1 m4 m7 0/\Gram m0 m3 m6 m2 m5 m8 0/\Gram m1 m4 m7 m2 m5 m8 0:=by
 obtain ⟨_,_,_,_,h1,h2⟩:=h
 have hE:-34359738376 <= w * w + (x * x + (y * y + z * z)) - 18446744073709551616/\w * w + (x * x + (y * y + z * z)) - 18446744073709551616 <= 34359738376:=⟨h1,h2⟩
 have pw:=sq_nonneg w
 have px:=sq_nonneg x
 have py:=sq_nonneg y
 have pz:=sq_nonneg z
 have txy:=two_le (a:=x) (b:=y)
 have txz:=two_le (a:=x) (b:=z)
 have tyz:=two_le (a:=y) (b:=z)
 refine ⟨gram n0 n3 n6 n0 n3 n6 (hz_of (same_id _ w x y z) hE (by omega)),gram n1 n4 n7 n1 n4 n7 (hz_of (same_id1 _ w x y z) hE (by omega)),gram n2 n5 n8 n2 n5 n8 (hz_of (same_id2 _ w x y z) hE (by omega)),
  gram n0 n3 n6 n1 n4 n7 (hz_of (other_id01 _ w x y z) hE (by omega)),gram n0 n3 n6 n2 n5 n8 (hz_of (other_id02 _ w x y z) hE (by omega)),gram n1 n4 n7 n2 n5 n8 (hz_of (other_id12 _ w x y z) hE (by omega))⟩
theorem dot3 {m0 m1 m2 a0 a1 a2 B:Int} (h0:-8589934592 <= m0/\m0 <= 8589934592) (h1:-8589934592 <= m1/\m1 <= 8589934592) (h2:-8589934592 <= m2/\m2 <= 8589934592)
  (k0:-B <= a0/\a0 <= B) (k1:-B <= a1/\a1 <= B) (k2:-B <= a2/\a2 <= B) (hB:B <= 1125899906842624) :
  ∃ r:Int,dot [m0,m1,m2] [a0,a1,a2] = some r/\(4294967296 * r <= m0 * a0 + (m1 * a1 + m2 * a2)/\m0 * a0 + (m1 * a1 + m2 * a2) < 4294967296 * r + 4294967296)/\(-(6 * B + 1) <= r/\r <= 6 * B + 1):=by
 have j0:=mul_in h0 k0
 have j1:=mul_in h1 k1
 have j2:=mul_in h2 k2
 have e:prods [m0,m1,m2] [a0,a1,a2] / 4294967296 = (m0 * a0 + (m1 * a1 + m2 * a2)) / 4294967296:=by simp only [prods,Int.add_zero]
 have g1:[m0,m1,m2].any great = false:=by simp [(not_great m0).2 (by omega),(not_great m1).2 (by omega),(not_great m2).2 (by omega)]
 have g2:[a0,a1,a2].any great = false:=by simp [(not_great a0).2 (by omega),(not_great a1).2 (by omega),(not_great a2).2 (by omega)]
 have hX:-(25769803776 * B) <= m0 * a0 + (m1 * a1 + m2 * a2)/\m0 * a0 + (m1 * a1 + m2 * a2) <= 25769803776 * B:=by omega
 generalize m0 * a0 + (m1 * a1 + m2 * a2) = X at *
 refine ⟨X / 4294967296,?_,by omega,by omega⟩
 have g3:great (X / 4294967296) = false:=(not_great _).2 (by omega)
 unfold dot
 rw [if_neg (by simp),if_neg (by simp),g1,g2,e]
 simp [Fx.told,g3]
theorem back_one {c0 c1 c2 m0 m1 m2 m3 m4 m5 m6 m7 m8 a0 a1 a2 t0 t1 t2 b A0 A1 A2 L D0 D1 D2:Int}
  (hG0:Gram m0 m3 m6 c0 c1 c2 D0) (hG1:Gram m1 m4 m7 c0 c1 c2 D1) (hG2:Gram m2 m5 m8 c0 c1 c2 D2)
  (h0:-8589934592 <= c0/\c0 <= 8589934592) (h1:-8589934592 <= c1/\c1 <= 8589934592) (h2:-8589934592 <= c2/\c2 <= 8589934592)
  (ht0:4294967296 * t0 <= m0 * a0 + (m1 * a1 + m2 * a2)/\m0 * a0 + (m1 * a1 + m2 * a2) < 4294967296 * t0 + 4294967296)
  (ht1:4294967296 * t1 <= m3 * a0 + (m4 * a1 + m5 * a2)/\m3 * a0 + (m4 * a1 + m5 * a2) < 4294967296 * t1 + 4294967296)
  (ht2:4294967296 * t2 <= m6 * a0 + (m7 * a1 + m8 * a2)/\m6 * a0 + (m7 * a1 + m8 * a2) < 4294967296 * t2 + 4294967296)
  (hb:4294967296 * b <= c0 * t0 + (c1 * t1 + c2 * t2)/\c0 * t0 + (c1 * t1 + c2 * t2) < 4294967296 * b + 4294967296)
  (ha0:-A0 <= a0/\a0 <= A0) (ha1:-A1 <= a1/\a1 <= A1) (ha2:-A2 <= a2/\a2 <= A2) (hA:A0 + A1 + A2 <= 2 * L + 1) :
  -(365072220160 * (2 * L + 1) + 129127208515966861312) <= 18446744073709551616 * b - (D0 * a0 + D1 * a1 + D2 * a2)/\18446744073709551616 * b - (D0 * a0 + D1 * a1 + D2 * a2) <= 365072220160 * (2 * L + 1) + 129127208515966861312:=by
 obtain ⟨r0,e0⟩:∃ r,r = m0 * a0 + (m1 * a1 + m2 * a2) - 4294967296 * t0:=⟨_,rfl⟩
 obtain ⟨r1,e1⟩:∃ r,r = m3 * a0 + (m4 * a1 + m5 * a2) - 4294967296 * t1:=⟨_,rfl⟩
 obtain ⟨r2,e2⟩:∃ r,r = m6 * a0 + (m7 * a1 + m8 * a2) - 4294967296 * t2:=⟨_,rfl⟩
 have i0:-4294967296 <= r0/\r0 <= 4294967296:=by clear hG0 hG1 hG2 ht1 ht2 hb;omega
 have i1:-4294967296 <= r1/\r1 <= 4294967296:=by clear hG0 hG1 hG2 ht0 ht2 hb;omega
 have i2:-4294967296 <= r2/\r2 <= 4294967296:=by clear hG0 hG1 hG2 ht0 ht1 hb;omega
 have k0:=mul_in h0 i0
 have k1:=mul_in h1 i1
 have k2:=mul_in h2 i2
 have j0:=mul_in hG0 ha0
 have j1:=mul_in hG1 ha1
 have j2:=mul_in hG2 ha2
 have key:4294967296 * (c0 * t0 + (c1 * t1 + c2 * t2)) = (m0 * c0 + m3 * c1 + m6 * c2 - D0) * a0 + (m1 * c0 + m4 * c1 + m7 * c2 - D1) * a1 + (m2 * c0 + m5 * c1 + m8 * c2 - D2) * a2 + (D0 * a0 + D1 * a1 + D2 * a2) - (c0 * r0 + c1 * r1 + c2 * r2):=by
  rw [e0,e1,e2];grind
 clear hG0 hG1 hG2 ht0 ht1 ht2 e0 e1 e2 i0 i1 i2 h0 h1 h2 ha0 ha1 ha2
 generalize (m0 * c0 + m3 * c1 + m6 * c2 - D0) * a0 = X0 at *
 generalize (m1 * c0 + m4 * c1 + m7 * c2 - D1) * a1 = X1 at *
 generalize (m2 * c0 + m5 * c1 + m8 * c2 - D2) * a2 = X2 at *
 generalize D0 * a0 + D1 * a1 + D2 * a2 = Y at *
 generalize c0 * t0 + (c1 * t1 + c2 * t2) = Z at *
 generalize c0 * r0 = Y0 at *
 generalize c1 * r1 = Y1 at *
 generalize c2 * r2 = Y2 at *
 omega
theorem far_of {a b L:Int} (hL:0 <= L) (h:-(365072220160 * (2 * L + 1) + 129127208515966861312) <= 18446744073709551616 * b - 18446744073709551616 * a/\18446744073709551616 * b - 18446744073709551616 * a <= 365072220160 * (2 * L + 1) + 129127208515966861312) :
  -(L / 16777216 + 64) <= b - a/\b - a <= L / 16777216 + 64:=by omega
theorem turned_back {w x y z a0 a1 a2:Int} (h:Whole w x y z) (h0:-17592186044416 <= a0/\a0 <= 17592186044416) (h1:-17592186044416 <= a1/\a1 <= 17592186044416) (h2:-17592186044416 <= a2/\a2 <= 17592186044416) :
  rowsBad w x y z = false/\∃ m0 m1 m2 m3 m4 m5 m6 m7 m8 t0 t1 t2 b0 b1 b2 L:Int,(m0 = rowsAt0 w x y z/\m1 = rowsAt1 w x y z/\m2 = rowsAt2 w x y z/\m3 = rowsAt3 w x y z/\m4 = rowsAt4 w x y z/\m5 = rowsAt5 w x y z/\m6 = rowsAt6 w x y z/\m7 = rowsAt7 w x y z/\m8 = rowsAt8 w x y z) /\
   (dot [m0,m1,m2] [a0,a1,a2] = some t0/\dot [m3,m4,m5] [a0,a1,a2] = some t1/\dot [m6,m7,m8] [a0,a1,a2] = some t2) /\
   (dot [m0,m3,m6] [t0,t1,t2] = some b0/\dot [m1,m4,m7] [t0,t1,t2] = some b1/\dot [m2,m5,m8] [t0,t1,t2] = some b2) /\
   norm [a0,a1,a2] = some L/\(0 <= L/\L <= 70368744177664)/\(-(L / 16777216 + 64) <= b0 - a0/\b0 - a0 <= L / 16777216 + 64)/\(-(L / 16777216 + 64) <= b1 - a1/\b1 - a1 <= L / 16777216 + 64)/\(-(L / 16777216 + 64) <= b2 - a2/\b2 - a2 <= L / 16777216 + 64):=by
 obtain ⟨hw,hx,hy,hz,hN1,hN2⟩:=id h
 obtain ⟨hbad,n0,n1,n2,n3,n4,n5,n6,n7,n8⟩:=rows_near hw hx hy hz hN2
 refine ⟨hbad,?_⟩
 generalize rowsAt0 w x y z = m0 at *
 generalize rowsAt1 w x y z = m1 at *
 generalize rowsAt2 w x y z = m2 at *
 generalize rowsAt3 w x y z = m3 at *
 generalize rowsAt4 w x y z = m4 at *
 generalize rowsAt5 w x y z = m5 at *
 generalize rowsAt6 w x y z = m6 at *
 generalize rowsAt7 w x y z = m7 at *
 generalize rowsAt8 w x y z = m8 at *
 obtain ⟨G00,G11,G22,G01,G02,G12⟩:=grams h n0 n1 n2 n3 n4 n5 n6 n7 n8
 have c0:=n0.2.2
 have c1:=n1.2.2
 have c2:=n2.2.2
 have c3:=n3.2.2
 have c4:=n4.2.2
 have c5:=n5.2.2
 have c6:=n6.2.2
 have c7:=n7.2.2
 have c8:=n8.2.2
 clear n0 n1 n2 n3 n4 n5 n6 n7 n8 hbad hN1 hN2
 obtain ⟨t0,d0,s0,u0⟩:=dot3 c0 c1 c2 h0 h1 h2 (by omega)
 obtain ⟨t1,d1,s1,u1⟩:=dot3 c3 c4 c5 h0 h1 h2 (by omega)
 obtain ⟨t2,d2,s2,u2⟩:=dot3 c6 c7 c8 h0 h1 h2 (by omega)
 obtain ⟨b0,e0,v0,_⟩:=dot3 c0 c3 c6 u0 u1 u2 (by omega)
 obtain ⟨b1,e1,v1,_⟩:=dot3 c1 c4 c7 u0 u1 u2 (by omega)
 obtain ⟨b2,e2,v2,_⟩:=dot3 c2 c5 c8 u0 u1 u2 (by omega)
 obtain ⟨A0,A00,A01,A02,A03⟩:=size_of a0
 obtain ⟨A1,A10,A11,A12,A13⟩:=size_of a1
 obtain ⟨A2,A20,A21,A22,A23⟩:=size_of a2
 have hc:=cauchy3 A0 A1 A2
 rw [A02,A12,A22] at hc
 have m0':=mul_in h0 h0
 have m1':=mul_in h1 h1
 have m2':=mul_in h2 h2
 have p0:=sq_nonneg a0
 have p1:=sq_nonneg a1
 have p2:=sq_nonneg a2
 obtain ⟨p,q⟩:=isq_is (a0 * a0 + (a1 * a1 + a2 * a2)).toNat
 obtain ⟨l,hl⟩:∃ l:Nat,l = isq (a0 * a0 + (a1 * a1 + a2 * a2)).toNat:=⟨_,rfl⟩
 rw [<- hl] at p q
 have p':=Int.ofNat_le.2 p
 have q':=Int.ofNat_lt.2 q
 rw [Int.toNat_of_nonneg (by omega),Int.natCast_mul] at p' q'
 rw [Int.natCast_add] at q'
 clear p q
 have l2:(l:Int) <= 70368744177664:=by
  clear A03 A13 A23 s0 s1 s2 v0 v1 v2
  apply Int.not_lt.1
  intro hlt
  have:=Int.mul_le_mul (show (70368744177664:Int) <= l by omega) (show (70368744177664:Int) <= l by omega) (by omega) (by omega)
  omega
 have hA:A0 + A1 + A2 <= 2 * (l:Int) + 1:=by
  clear A03 A13 A23 s0 s1 s2 v0 v1 v2
  apply Int.not_lt.1
  intro hlt
  have:=Int.mul_le_mul (show 2 * ((l:Int) + ((1:Nat):Int)) <= A0 + A1 + A2 by omega) (show 2 * ((l:Int) + ((1:Nat):Int)) <= A0 + A1 + A2 by omega) (by omega) (by omega)
  have e:2 * ((l:Int) + ((1:Nat):Int)) * (2 * ((l:Int) + ((1:Nat):Int))) = 4 * (((l:Int) + ((1:Nat):Int)) * ((l:Int) + ((1:Nat):Int))):=by grind
  omega
 have f0:=back_one G00 G01.comm G02.comm c0 c3 c6 s0 s1 s2 v0 A01 A11 A21 hA
 have f1:=back_one G01 G11 G12.comm c1 c4 c7 s0 s1 s2 v1 A01 A11 A21 hA
 have f2:=back_one G02 G12 G22 c2 c5 c8 s0 s1 s2 v2 A01 A11 A21 hA
 have hn:norm [a0,a1,a2] = some (l:Int):=by
  have hpr:prods [a0,a1,a2] [a0,a1,a2] = a0 * a0 + (a1 * a1 + a2 * a2):=by simp only [prods,Int.add_zero]
  have gl:great (l:Int) = false:=(not_great _).2 (by omega)
  unfold norm
  rw [if_neg (by simp),hpr,<- hl]
  simp [(not_great a0).2 (by omega),(not_great a1).2 (by omega),(not_great a2).2 (by omega),Fx.told,gl]
 simp only [Int.zero_mul,Int.add_zero,Int.zero_add] at f0 f1 f2
 exact ⟨m0,m1,m2,m3,m4,m5,m6,m7,m8,t0,t1,t2,b0,b1,b2,l,⟨rfl,rfl,rfl,rfl,rfl,rfl,rfl,rfl,rfl⟩,⟨d0,d1,d2⟩,⟨e0,e1,e2⟩,hn,⟨by omega,l2⟩,far_of (by omega) f0,far_of (by omega) f1,far_of (by omega) f2⟩
end WM
end
section
open Go.RowKit Fx
structure M9.Fit (m:M9):Prop where
 h0:-8589934592 <= m.a0/\m.a0 <= 8589934592
 h1:-8589934592 <= m.a1/\m.a1 <= 8589934592
 h2:-8589934592 <= m.a2/\m.a2 <= 8589934592
 h3:-8589934592 <= m.a3/\m.a3 <= 8589934592
 h4:-8589934592 <= m.a4/\m.a4 <= 8589934592
 h5:-8589934592 <= m.a5/\m.a5 <= 8589934592
 h6:-8589934592 <= m.a6/\m.a6 <= 8589934592
 h7:-8589934592 <= m.a7/\m.a7 <= 8589934592
 h8:-8589934592 <= m.a8/\m.a8 <= 8589934592
theorem rows_fit {q:Q4} (h:WM.Whole q.w q.x q.y q.z):rowsB q = false/\(rowsM q).Fit:=by
 obtain ⟨hw,hx,hy,hz,hN1,hN2⟩:=id h
 obtain ⟨hbad,n0,n1,n2,n3,n4,n5,n6,n7,n8⟩:=WM.rows_near hw hx hy hz hN2
 refine ⟨hbad,?_⟩
 unfold rowsM rowsB
 rw [hbad]
 exact ⟨n0.2.2,n1.2.2,n2.2.2,n3.2.2,n4.2.2,n5.2.2,n6.2.2,n7.2.2,n8.2.2⟩
theorem turn_some {m:M9} (h:m.Fit) {x:Pt} {B:Int} (hx:x.inB B = true) (hB:B <= 1125899906842624):∃ r,m.turn x = some r/\r.inB (6 * B + 1) = true:=by
 obtain ⟨k0,k1,k2⟩:=(Pt.inB_iff _ _).1 hx
 obtain ⟨r0,e0,_,b0⟩:=WM.dot3 h.h0 h.h1 h.h2 k0 k1 k2 hB
 obtain ⟨r1,e1,_,b1⟩:=WM.dot3 h.h3 h.h4 h.h5 k0 k1 k2 hB
 obtain ⟨r2,e2,_,b2⟩:=WM.dot3 h.h6 h.h7 h.h8 k0 k1 k2 hB
 refine ⟨⟨r0,r1,r2⟩,?_,(Pt.inB_iff _ _).2 ⟨b0,b1,b2⟩⟩
 unfold M9.turn
 rw [e0,e1,e2];rfl
theorem times_in {p:Pt} {B n:Int} (h:p.inB B = true) (hn:0 <= n) (hb:B * n <= 9223372036854775807):p.times n = ⟨p.x * n,p.y * n,p.z * n⟩/\(p.times n).inB (B * n) = true:=by
 obtain ⟨k0,k1,k2⟩:=(Pt.inB_iff _ _).1 h
 have j0:=WM.mul_in k0 (show -n <= n/\n <= n by omega)
 have j1:=WM.mul_in k1 (show -n <= n/\n <= n by omega)
 have j2:=WM.mul_in k2 (show -n <= n/\n <= n by omega)
 have e:p.times n = ⟨p.x * n,p.y * n,p.z * n⟩:=by
  unfold Pt.times
  congr 1
  ·rw [IntKind.wrap_i64];omega
  ·rw [IntKind.wrap_i64];omega
  ·rw [IntKind.wrap_i64];omega
 rw [e]
 exact ⟨rfl,(Pt.inB_iff _ _).2 ⟨j0,j1,j2⟩⟩
theorem add_some {x y:Int} (h:-4611686018427387903 <= x + y/\x + y <= 4611686018427387903) (hx:-4611686018427387903 <= x/\x <= 4611686018427387903) (hy:-4611686018427387903 <= y/\y <= 4611686018427387903):add x y = some (x + y):=by
 unfold add
 simp [Fx.told,(not_great x).2 (by omega),(not_great y).2 (by omega),(not_great (x + y)).2 (by omega)]
theorem addO_some {x y:Pt} {A B:Int} (hx:x.inB A = true) (hy:y.inB B = true) (h:A + B <= 4611686018427387903) (hA:0 <= A) (hB:0 <= B):x.addO y = some ⟨x.x + y.x,x.y + y.y,x.z + y.z⟩:=by
 obtain ⟨k0,k1,k2⟩:=(Pt.inB_iff _ _).1 hx
 obtain ⟨j0,j1,j2⟩:=(Pt.inB_iff _ _).1 hy
 unfold Pt.addO
 rw [add_some (by omega) (by omega) (by omega),add_some (by omega) (by omega) (by omega),add_some (by omega) (by omega) (by omega)];rfl
theorem point_some {m:M9} (h:m.Fit) {t p:Pt} (ht:t.inB 5497558138880 = true) (hp:p.inB 65536 = true):∃ u:Pt,m.turn ⟨p.x * 1048576,p.y * 1048576,p.z * 1048576⟩ = some u/\u.inB 412316860417 = true/\m.ptB t p = false/\m.ptV t p = ⟨(u.x + t.x) / 1048576,(u.y + t.y) / 1048576,(u.z + t.z) / 1048576⟩/\(m.ptV t p).inB 8388608 = true:=by
 obtain ⟨e1,hb⟩:=times_in (n:=1048576) hp (by decide) (by decide)
 rw [e1] at hb
 obtain ⟨u,e2,hu⟩:=turn_some h hb (by decide)
 have hu:u.inB 412316860417 = true:=inB_mono hu (by decide)
 have e3:=addO_some hu ht (by decide) (by decide) (by decide)
 refine ⟨u,e2,hu,?_,?_⟩
 ·unfold M9.ptB M9.at1
  rw [e1,e2]
  simp [e3]
 ·have e4:m.ptV t p = ⟨(u.x + t.x) / 1048576,(u.y + t.y) / 1048576,(u.z + t.z) / 1048576⟩:=by
   unfold M9.ptV M9.at2 M9.at1
   rw [e1,e2]
   simp only [Option.getD_some,e3]
   rfl
  refine ⟨e4,?_⟩
  rw [e4]
  obtain ⟨k0,k1,k2⟩:=(Pt.inB_iff _ _).1 hu
  obtain ⟨j0,j1,j2⟩:=(Pt.inB_iff _ _).1 ht
  rw [Pt.inB_iff]
  dsimp only
  omega
theorem longF_is (n:Nat) (p:Pt) (h:p.inB 1048576 = true):(longF n p).inB 1048576 = true/\∃ j:Nat,longF n p = ⟨2 ^ j * p.x,2 ^ j * p.y,2 ^ j * p.z⟩:=by
 induction n generalizing p with
 | zero=>exact ⟨h,0,by simp [longF]⟩
 | succ n ih =>
  by_cases hq:p.inB 524288 = true
  ·have hI:=(Pt.inB_iff _ _).1 hq
   have e:p.plus p = ⟨2 * p.x,2 * p.y,2 * p.z⟩:=by
    unfold Pt.plus
    congr 1
    ·rw [IntKind.wrap_i64];omega
    ·rw [IntKind.wrap_i64];omega
    ·rw [IntKind.wrap_i64];omega
   obtain ⟨h1,j,h2⟩:=ih (p.plus p) (by rw [e,Pt.inB_iff];dsimp only;omega)
   have e9:longF (n + 1) p = longF n (p.plus p):=by simp [longF,hq]
   rw [e9]
   refine ⟨h1,j + 1,?_⟩
   rw [h2,e]
   simp only [Int.pow_succ,Int.mul_assoc]
  ·have e9:longF (n + 1) p = p:=by simp [longF,hq]
   rw [e9]
   exact ⟨h,0,by simp⟩
theorem long_is (p:Pt) (h:p.inB 1048576 = true):p.long.inB 1048576 = true/\∃ j:Nat,p.long = ⟨2 ^ j * p.x,2 ^ j * p.y,2 ^ j * p.z⟩:=by
 unfold Pt.long
 split
 ·exact ⟨h,0,by simp⟩
 ·exact longF_is 20 p h
theorem dir_some {m:M9} (h:m.Fit) {p:Pt} (hp:p.inB 1048576 = true):m.dirB p = false:=by
 obtain ⟨e1,hb⟩:=times_in (n:=4096) (long_is p hp).1 (by decide) (by decide)
 obtain ⟨u,e2,hu⟩:=turn_some h hb (by decide)
 unfold M9.dirB
 rw [e2];rfl
theorem all_win {L:List Pt} {m n:Int} (h:∀ p ∈ L,p.inB m = true) (hm:m <= n) (h1:0 <= n) (h2:n <= 9223372036854775807):(L.all fun p=>p.win n) = true:=by
 rw [List.all_eq_true]
 intro p hp
 rw [win_in _ _ h1 h2]
 exact inB_mono (h p hp) hm
theorem place_ok {t:Pt} {q:Q4} {P A E:List Pt} (hq:WM.Whole q.w q.x q.y q.z) (ht:t.inB 5497558138880 = true) (h0:0 < P.length) (hP:∀ p ∈ P,p.inB 65536 = true) (hA:∀ p ∈ A,p.inB 1048576 = true) (hE:∀ p ∈ E,p.inB 1048576 = true):placeOk t q P A E = true:=by
 obtain ⟨hb,hf⟩:=rows_fit hq
 have b1:P.any ((rowsM q).ptB t) = false:=by
  rw [List.any_eq_false]
  intro p hp
  obtain ⟨_,_,_,e,_⟩:=point_some hf ht (hP p hp)
  simp [e]
 have b2:A.any (rowsM q).dirB = false:=by
  rw [List.any_eq_false]
  intro p hp
  simp [dir_some hf (hA p hp)]
 have b3:E.any (rowsM q).dirB = false:=by
  rw [List.any_eq_false]
  intro p hp
  simp [dir_some hf (hE p hp)]
 have n1:nearP (P.map ((rowsM q).ptV t)) = true:=by
  refine all_win (m:=8388608) (fun p hp=>?_) (Int.le_refl _) (by decide) (by decide)
  obtain ⟨x,hx,rfl⟩:=List.mem_map.1 hp
  obtain ⟨_,_,_,_,_,e⟩:=point_some hf ht (hP x hx)
  exact e
 unfold placeOk placeableP badP
 rw [all_win hP (by decide) (by decide) (by decide),all_win hA (by decide) (by decide) (by decide),all_win hE (by decide) (by decide) (by decide),hb,b1,b2,b3,n1,decide_eq_true h0]
 rfl
end
section
open Go.RowKit Fx
def sgn (b:Bool) (x:Int):Int:=cond b (-x) x
structure M9.Dg (m:M9) (b0 b1 b2:Bool):Prop where
 h0:m.a0 = sgn b0 4294967296
 h1:m.a1 = 0
 h2:m.a2 = 0
 h3:m.a3 = 0
 h4:m.a4 = sgn b1 4294967296
 h5:m.a5 = 0
 h6:m.a6 = 0
 h7:m.a7 = 0
 h8:m.a8 = sgn b2 4294967296
theorem short_g {p:Pt} (h0:p ≠ Pt.O) (h:p.short = p):p.g = 1/\p.inB 1048576 = true:=by
 refine ⟨?_,h ▸ short_in p⟩
 rw [<- h]
 unfold Pt.short
 split
 ·exact low_g (halveF_ne _ _ (low_ne h0))
 ·rename_i hb
  exfalso
  apply h0
  rw [<- h]
  unfold Pt.short
  rw [if_neg hb]
end
end Go.Proofs.YtablgiflakncfaaGreat
