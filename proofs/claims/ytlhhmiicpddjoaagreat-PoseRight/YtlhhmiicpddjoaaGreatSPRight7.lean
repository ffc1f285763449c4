/- Package pose's frame: points that are turned and moved. -/
import Derived.Test.YtlhhmiicpddjoaaGreatSPRight0
import Derived.Test.YtlhhmiicpddjoaaGreatSPRight3
import Derived.Test.YtlhhmiicpddjoaaGreatSPRight5
import Derived.Test.YtlhhmiicpddjoaaGreatSPRight6
import Derived.Laws.OwnMore
import Derived.Maps.AppendAt
set_option maxHeartbeats 8000000
set_option maxRecDepth 100000
set_option linter.unusedVariables false
namespace Go.Proofs.YtlhhmiicpddjoaaGreat
section
open Go.RowKit Go.Shelf
structure M9 where
 a0:Int
 a1:Int
 a2:Int
 a3:Int
 a4:Int
 a5:Int
 a6:Int
 a7:Int
 a8:Int
def M9.v (m:M9):Value:=.agg #[.int .i64 m.a0,.int .i64 m.a1,.int .i64 m.a2,.int .i64 m.a3,.int .i64 m.a4,.int .i64 m.a5,.int .i64 m.a6,.int .i64 m.a7,.int .i64 m.a8]
def opt3 (a b c:Option Int):Option Pt:=match a,b,c with
 | some x,some y,some z=>some ⟨x,y,z⟩
 | _,_,_=>none
def M9.turn (m:M9) (x:Pt):Option Pt:=opt3 (Fx.dot [m.a0,m.a1,m.a2] [x.x,x.y,x.z]) (Fx.dot [m.a3,m.a4,m.a5] [x.x,x.y,x.z]) (Fx.dot [m.a6,m.a7,m.a8] [x.x,x.y,x.z])
def Pt.addO (x y:Pt):Option Pt:=opt3 (Fx.add x.x y.x) (Fx.add x.y y.y) (Fx.add x.z y.z)
def Pt.times (p:Pt) (n:Int):Pt:=⟨IntKind.i64.wrap (p.x * n),IntKind.i64.wrap (p.y * n),IntKind.i64.wrap (p.z * n)⟩
theorem step3_pt {f g:Bool} {a b c:Option Int} {x y z:Int} (h:Step3 f a b c x y z g):(⟨x,y,z⟩:Pt) = (opt3 a b c).getD Pt.O/\g = (f || (opt3 a b c).isNone):=by
 obtain ⟨h1,h2,h3,h4⟩:=h
 subst h1 h2 h3 h4
 cases a <;> cases b <;> cases c <;> simp [opt3,Pt.O]
theorem vturn_pt (b off:Nat) (f:Bool) (m:M9) (x:Pt) (W:World) (hc:W.cell? ⟨b,off,none⟩ = some (.bool f)) (hf:W.frozen? ⟨b,off,none⟩ = false) :
  Calls Tryz.prog 80 #[.pointer (some ⟨b,off,none⟩),m.v,x.v] W fun e W'=>e = .returned ((m.turn x).getD Pt.O).v/\Hid (After ⟨b,off,none⟩ (f || (m.turn x).isNone) W W'):=by
 refine Calls.mono (vturn_law b off f m.a0 m.a1 m.a2 m.a3 m.a4 m.a5 m.a6 m.a7 m.a8 x.x x.y x.z W hc hf) ?_
 rintro e W' ⟨v0,v1,v2,g,rfl,S3,A⟩
 obtain ⟨e1,e2⟩:=step3_pt S3.out
 unfold M9.turn
 rw [<- e1,<- e2]
 exact ⟨rfl,A⟩
theorem vadd_pt (b off:Nat) (f:Bool) (x y:Pt) (W:World) (hc:W.cell? ⟨b,off,none⟩ = some (.bool f)) (hf:W.frozen? ⟨b,off,none⟩ = false) :
  Calls Tryz.prog 39 #[.pointer (some ⟨b,off,none⟩),x.v,y.v] W fun e W'=>e = .returned ((x.addO y).getD Pt.O).v/\Hid (After ⟨b,off,none⟩ (f || (x.addO y).isNone) W W'):=by
 refine Calls.mono (vadd_law b off f x.x x.y x.z y.x y.y y.z W hc hf) ?_
 rintro e W' ⟨v0,v1,v2,g,rfl,S3,A⟩
 obtain ⟨e1,e2⟩:=step3_pt S3.out
 unfold Pt.addO
 rw [<- e1,<- e2]
 exact ⟨rfl,A⟩
def frL (f:Bool) (m:M9) (t:Pt):List Value:=[.bool f,.int .i64 m.a0,.int .i64 m.a1,.int .i64 m.a2,.int .i64 m.a3,.int .i64 m.a4,.int .i64 m.a5,.int .i64 m.a6,.int .i64 m.a7,.int .i64 m.a8,.int .i64 t.x,.int .i64 t.y,.int .i64 t.z]
theorem Cells.after {W W':World} {b:Nat} {u:Value} {vs:List Value} {g:Bool} (h:Cells W b (u :: vs)) (A:After ⟨b,0,none⟩ g W W'):Cells W' b (.bool g :: vs):=by
 intro i v e
 have hb:b < W.heap.size:=World.block_lt_of_cell? _ _ (h 0 u rfl).1
 cases i with
 | zero=>simp at e;subst e;exact ⟨A.cell,A.frozen⟩
 | succ i =>
  obtain ⟨h1,h2⟩:=h (i + 1) v (by simpa using e)
  obtain ⟨a1,a2⟩:=A.beside hb (i + 1) (by simp)
  exact ⟨a1.trans h1,a2.trans h2⟩
theorem Cells.beside {W W':World} {b b':Nat} {vs:List Value} {g:Bool} (h:Cells W b vs) (A:After ⟨b',0,none⟩ g W W') (hne:b ≠ b'):Cells W' b vs:=fun i v e =>
 ⟨A.cellOf (h i v e).1 hne,A.frozenOf (h i v e).1 (h i v e).2 hne⟩
theorem Box3.after {W W':World} {b b':Nat} {q:Pt} {g:Bool} (h:Box3 W b q) (A:After ⟨b',0,none⟩ g W W') (hne:b ≠ b'):Box3 W' b q:=
 ⟨A.cellOf h.c0 hne,A.cellOf h.c1 hne,A.cellOf h.c2 hne,A.frozenOf h.c0 h.f0 hne,A.frozenOf h.c1 h.f1 hne,A.frozenOf h.c2 h.f2 hne⟩
theorem RV.Pend.after {W0:World} {T i j:Nat} {fin:Array Value} {γ:Nat->Value} {L:Nat->Bool} {w w':World} {b:Nat} {g:Bool} (h:RV.Pend W0 T i j fin γ L w) (A:After ⟨b,0,none⟩ g w w') (hb:b < W0.heap.size):RV.Pend W0 T i j fin γ L w':=by
 intro hl
 obtain ⟨c,cs,h1,h2,h3,h4,h5⟩:=h hl
 exact ⟨c,cs,h1,h2,(A.kept.2.2.2 c (Array.getElem?_eq_some_iff.1 h3).1 (by show c ≠ b;omega)).trans h3,h4,h5⟩
structure FQ (w0:World) (fb:Nat) (g:Bool) (m:M9) (t:Pt) (w:World):Prop where
 lv:Leaves ⟨fb,0,none⟩ w0 w
 fr:Cells w fb (frL g m t)
theorem FQ.start {w0 w:World} {fb:Nat} {g:Bool} {m:M9} {t:Pt} (h:Cells w0 fb (frL g m t)) (hb:Below w0.heap.size w0 w):FQ w0 fb g m t w:=⟨(Leaves.refl _ _).step hb,h.step hb⟩
theorem FQ.step {w0 w w':World} {fb:Nat} {g:Bool} {m:M9} {t:Pt} (h:FQ w0 fb g m t w) (hb:Below w.heap.size w w'):FQ w0 fb g m t w':=⟨h.lv.step (hb.mono h.lv.size),h.fr.step hb⟩
theorem FQ.after {w0 w w':World} {fb:Nat} {g g':Bool} {m:M9} {t:Pt} (h:FQ w0 fb g m t w) (A:After ⟨fb,0,none⟩ g' w w'):FQ w0 fb g' m t w':=⟨h.lv.same A,Cells.after h.fr A⟩
theorem FQ.set {w0 w:World} {fb:Nat} {g:Bool} {m:M9} {t:Pt} (h:FQ w0 fb g m t w) {b:Nat} (o:Nat) (v:Value) (hb:w0.heap.size <= b) (hne:b ≠ fb):FQ w0 fb g m t (w.setCell ⟨b,o,none⟩ v):=by
 refine ⟨h.lv.set hb v,fun i u e=>?_⟩
 have hne':¬ fb = b:=fun e=>hne e.symm
 exact ⟨by simp [go_sem,(h.fr i u e).1],by simp [go_sem,(h.fr i u e).2]⟩
theorem FQ.set3 {w0 w:World} {fb:Nat} {g:Bool} {m:M9} {t:Pt} (h:FQ w0 fb g m t w) {b:Nat} (x y z:Int) (hb:w0.heap.size <= b) (hne:b ≠ fb):FQ w0 fb g m t (set3 w b x y z):=((h.set 0 _ hb hne).set 1 _ hb hne).set 2 _ hb hne
theorem FQ.done {w0 w:World} {fb:Nat} {g:Bool} {m:M9} {t:Pt} (h:FQ w0 fb g m t w):After ⟨fb,0,none⟩ g w0 w:=h.lv.done (h.fr 0 _ rfl).1 (h.fr 0 _ rfl).2
theorem turned_any (fb:Nat) (f:Bool) (m:M9) (t p:Pt) (n:Int) (w0:World) (hF:Cells w0 fb (frL f m t)) :
  Calls Tryz.prog 40 #[.pointer (some ⟨fb,0,none⟩),p.v,.int .i64 n] w0 fun e W=>e = .returned ((m.turn (p.times n)).getD Pt.O).v/\Hid (After ⟨fb,0,none⟩ (f || (m.turn (p.times n)).isNone) w0 W):=by
 have HT:Hid _:=fun (w:World) (g:Bool)=>vturn_pt fb 0 g m (p.times n) w
 have hlt:=hF.lt
 generalize (m.turn (p.times n)).getD Pt.O = q at *
 generalize (m.turn (p.times n)).isNone = bd at *
 obtain ⟨m0,m1,m2,m3,m4,m5,m6,m7,m8⟩:=m
 obtain ⟨tx,ty,tz⟩:=t
 obtain ⟨x,y,z⟩:=p
 obtain ⟨xq,yq,zq⟩:=q
 unfold Pt.times at HT
 unfold M9.v Pt.v at HT
 unfold Pt.v
 dsimp only at *
 obtain ⟨xn,hxn⟩:∃ a,IntKind.i64.wrap (x * n) = a:=⟨_,rfl⟩
 obtain ⟨yn,hyn⟩:∃ a,IntKind.i64.wrap (y * n) = a:=⟨_,rfl⟩
 obtain ⟨zn,hzn⟩:∃ a,IntKind.i64.wrap (z * n) = a:=⟨_,rfl⟩
 rw [hxn,hyn,hzn] at HT
 go_enter Tryz.func40,Tryz.ntmps40
 go_upto_region 1 with fail
 obtain ⟨V,hV⟩:∃ V:World,V = (w0.alloc (.cells #[.int .i64 x,.int .i64 y,.int .i64 z] 23)).alloc (.cells #[.int .i64 0,.int .i64 0,.int .i64 0] 27):=⟨_,rfl⟩
 obtain ⟨pb,hpb⟩:∃ b,b = w0.heap.size:=⟨_,rfl⟩
 obtain ⟨ob,hob'⟩:∃ b,b = w0.heap.size + 1:=⟨_,rfl⟩
 have hBV:Hid (Below w0.heap.size w0 V):=by show Below _ _ _;rw [hV];exact b_step (n_after _ _) (n_after _ _)
 have B1:Box3 V pb ⟨x,y,z⟩:=by rw [hV,hpb];exact (Box3.new w0 x y z _).step (n_after _ _)
 have B2:Box3 V ob Pt.O:=by rw [hV,hob'];have:=Box3.new (w0.alloc (.cells #[.int .i64 x,.int .i64 y,.int .i64 z] 23)) 0 0 0 27;rwa [World.size_alloc] at this
 rw [<- hV,<- hob',<- hpb]
 have hob:w0.heap.size <= ob:=by omega
 have hof:ob ≠ fb:=by omega
 have hpf:pb ≠ fb:=by omega
 have hop:ob ≠ pb:=by omega
 clear hV hpb hob'
 refine RV.rs [.some (.pointer (some ⟨fb,0,none⟩)),.some (.pointer (some ⟨fb,0,none⟩)),.some (.pointer (some ⟨fb,0,none⟩)),.some (.pointer (some ⟨fb,0,none⟩)),.some (.pointer (some ⟨fb,0,none⟩)),.some (.pointer (some ⟨fb,1,none⟩)),.some (.agg #[.int .i64 m0,.int .i64 m1,.int .i64 m2,.int .i64 m3,.int .i64 m4,.int .i64 m5,.int .i64 m6,.int .i64 m7,.int .i64 m8]),.some (.pointer (some ⟨pb,0,none⟩)),.some (.int .i64 x),.some (.int .i64 n),.some (.int .i64 xn),.some (.pointer (some ⟨pb,1,none⟩)),.some (.int .i64 y),.some (.int .i64 n),.some (.int .i64 yn),.some (.pointer (some ⟨pb,2,none⟩)),.some (.int .i64 z),.some (.int .i64 n),.some (.int .i64 zn),.some (.agg #[.int .i64 xn,.int .i64 yn,.int .i64 zn]),.some (.agg #[.int .i64 xq,.int .i64 yq,.int .i64 zq]),none] [8,9,10,11,12,13,14,15,16,17,18,19,20,21,22,23,24,25,26,27,28,0] [(0,.pointer (some ⟨fb,0,none⟩)),(2,.int .i64 n),(4,.pointer (some ⟨pb,0,none⟩)),(6,.pointer (some ⟨ob,0,none⟩))] (fun γ L w=>FQ w0 fb (f || (L 20 && bd)) ⟨m0,m1,m2,m3,m4,m5,m6,m7,m8⟩ ⟨tx,ty,tz⟩ w/\Box3 w pb ⟨x,y,z⟩/\Box3 w ob (cond (L 21) ⟨xq,yq,zq⟩ Pt.O)) ⟨rfl,rfl,rfl,rfl,trivial⟩ ?_ ?_ ?_
 ·have b9:Below V.heap.size V V.drew:=(Below.refl _ _).drew;simp only [Bool.false_and,Bool.or_false,cond];exact ⟨(FQ.start hF hBV.out).step b9,B1.step b9,B2.step b9⟩
 ·intro D WA Z hD hWA hZ T
  simp only [RV.Outs,RV.Slots,Nat.reduceAdd] at T
  iterate 20 first
   | (refine RV.cc _ (RV.pu T (fun γ v L w hl h=>by rw [RV.mn (L:=L) (i:=_) (j:=20) (by decide),RV.mn (L:=L) (i:=_) (j:=21) (by decide)];exact h) (fun γ L a w hH hl h9 k9=>⟨_,?_,rfl⟩)) ?_;· simp [execOp,go_sem,h9])
   | (refine RV.cc _ (RV.pu T (fun γ v L w hl h=>by rw [RV.mn (L:=L) (i:=_) (j:=20) (by decide),RV.mn (L:=L) (i:=_) (j:=21) (by decide)];exact h) (fun γ L a w hH hl h9 k9=>⟨_,?_,rfl⟩)) ?_;· have q0:=(hH.glob.1.fr 1 _ rfl).1;have q1:=(hH.glob.1.fr 2 _ rfl).1;have q2:=(hH.glob.1.fr 3 _ rfl).1;have q3:=(hH.glob.1.fr 4 _ rfl).1;have q4:=(hH.glob.1.fr 5 _ rfl).1;have q5:=(hH.glob.1.fr 6 _ rfl).1;have q6:=(hH.glob.1.fr 7 _ rfl).1;have q7:=(hH.glob.1.fr 8 _ rfl).1;have q8:=(hH.glob.1.fr 9 _ rfl).1;have q9:=hH.glob.2.1.c0;have q10:=hH.glob.2.1.c1;have q11:=hH.glob.2.1.c2;simp [Region.binds] at k9;simp [execOp,go_sem,h9,k9,q0,q1,q2,q3,q4,q5,q6,q7,q8,q9,hxn,q10,hyn,q11,hzn])
  refine RV.cc _ (RV.dc (fun γ L a w hH hl hA=>by have h9:=T γ L a w hH;have k9:=hA;simp [Region.binds] at k9;have z0:=hH.glob.1.fr 0 _ rfl;have hG:=hH.glob;rw [hl] at z0 hG;refine ⟨80,#[.pointer (some ⟨fb,0,none⟩),.agg #[.int .i64 m0,.int .i64 m1,.int .i64 m2,.int .i64 m3,.int .i64 m4,.int .i64 m5,.int .i64 m6,.int .i64 m7,.int .i64 m8],.agg #[.int .i64 xn,.int .i64 yn,.int .i64 zn]],by simp [go_sem,h9,k9],Calls.mono (HT.out w _ z0.1 z0.2) ?_⟩;rintro e w2 ⟨rfl,A⟩;refine ⟨_,rfl,rfl,fun j v _ h=>h.keep _,?_⟩;rw [RV.more_self,RV.mn (L:=L) (i:=20) (j:=21) (by decide)];have A9:=A.out;simp only [Bool.false_and,Bool.or_false] at A9;exact ⟨by simpa using hG.1.after A9,hG.2.1.after A9 hpf,hG.2.2.after A9 hof⟩)) ?_
  refine RV.cc _ (RV.does_store (fun γ L a w hH hl hA=>by have h9:=T γ L a w hH;have k9:=hA;simp [Region.binds] at k9;have hG:=hH.glob;have zz:=hG.2.2;refine ⟨set3 w ob xq yq zq,by simp [execOp,go_sem,set3,zz.c0,zz.c1,zz.c2,zz.f0,zz.f1,zz.f2,h9,k9],trivial,fun j v _ h=>h.keep _,?_⟩;rw [RV.more_self,RV.mn (L:=L) (i:=21) (j:=20) (by decide)];exact ⟨hG.1.set3 _ _ _ hob hof,hG.2.1.other hop _ _ _,zz.set _ _ _⟩)) ?_
  exact RV.AllDo.nil
 ·intro γ w5 L9 hL hI9 hG9
  have hG:=hG9
  rw [hL 20 (by decide),hL 21 (by decide)] at hG
  clear hL hI9 hG9
  simp only [RV.putL,Act.put,List.setIfInBounds_toArray,List.set_cons_zero,List.set_cons_succ]
  obtain ⟨q0,q1,q2⟩:_/\_/\_:=⟨hG.2.2.c0,hG.2.2.c1,hG.2.2.c2⟩
  dsimp only [cond] at q0 q1 q2
  have HA:Hid (After ⟨fb,0,none⟩ (f || bd) w0 w5):=by show After _ _ _ _;have h9:=hG.1.done;simpa using h9
  clear hG
  go_wp2
  exact bodyPost_ret (v:=.agg #[.int .i64 xq,.int .i64 yq,.int .i64 zq]) (by simp [results,Tryz.results40,go_sem,q0,q1,q2]) rfl ⟨rfl,HA⟩
theorem arr3' {cs:Array Value} (h:cs.size = 3):∃ u0 u1 u2,cs = #[u0,u1,u2]:=by
 obtain ⟨l⟩:=cs
 match l,h with
 | [a,b,c],_=>exact ⟨a,b,c,rfl⟩
def M9.at1 (m:M9) (p:Pt):Pt:=(m.turn (p.times 1048576)).getD Pt.O
def M9.at2 (m:M9) (t p:Pt):Pt:=((m.at1 p).addO t).getD Pt.O
def Pt.grain (p:Pt):Pt:=⟨p.x / 1048576,p.y / 1048576,p.z / 1048576⟩
def M9.ptV (m:M9) (t p:Pt):Pt:=(m.at2 t p).grain
def M9.ptB (m:M9) (t p:Pt):Bool:=(m.turn (p.times 1048576)).isNone || ((m.at1 p).addO t).isNone
theorem point_any (fb:Nat) (f:Bool) (m:M9) (t p:Pt) (w0:World) (hF:Cells w0 fb (frL f m t)) :
  Calls Tryz.prog 17 #[.pointer (some ⟨fb,0,none⟩),p.v] w0 fun e W=>e = .returned (m.ptV t p).v/\Hid (After ⟨fb,0,none⟩ (f || m.ptB t p) w0 W):=by
 have HT:Hid _:=fun (w:World) (g:Bool)=>turned_any fb g m t p 1048576 w
 have HS:Hid _:=fun (w:World) (g:Bool)=>vadd_pt fb 0 g (m.at1 p) t w
 have hlt:=hF.lt
 rw [show m.ptV t p = (m.at2 t p).grain from rfl,show m.ptB t p = ((m.turn (p.times 1048576)).isNone || ((m.at1 p).addO t).isNone) from rfl]
 rw [show ((m.at1 p).addO t).getD Pt.O = m.at2 t p from rfl] at HS
 rw [show (m.turn (p.times 1048576)).getD Pt.O = m.at1 p from rfl] at HT
 generalize m.at2 t p = q2 at *
 generalize ((m.at1 p).addO t).isNone = b2 at *
 generalize m.at1 p = q1 at *
 generalize (m.turn (p.times 1048576)).isNone = b1 at *
 rw [<- Bool.or_assoc]
 obtain ⟨m0,m1,m2,m3,m4,m5,m6,m7,m8⟩:=m
 obtain ⟨tx,ty,tz⟩:=t
 obtain ⟨x,y,z⟩:=p
 obtain ⟨x1,y1,z1⟩:=q1
 obtain ⟨x2,y2,z2⟩:=q2
 unfold Pt.v at HT HS
 unfold Pt.v Pt.grain
 dsimp only at *
 go_enter Tryz.func17,Tryz.ntmps17
 go_upto_region 1 with fail
 obtain ⟨V,hV⟩:∃ V:World,V = (w0.alloc (.cells #[.int .i64 x,.int .i64 y,.int .i64 z] 23)).alloc (.cells #[.int .i64 0,.int .i64 0,.int .i64 0] 23):=⟨_,rfl⟩
 obtain ⟨pb,hpb⟩:∃ b,b = w0.heap.size:=⟨_,rfl⟩
 obtain ⟨ob,hob'⟩:∃ b,b = w0.heap.size + 1:=⟨_,rfl⟩
 have hBV:Hid (Below w0.heap.size w0 V):=by show Below _ _ _;rw [hV];exact b_step (n_after _ _) (n_after _ _)
 have hVs:V.heap.size = w0.heap.size + 2:=by rw [hV];simp
 have B1:Box3 V pb ⟨x,y,z⟩:=by rw [hV,hpb];exact (Box3.new w0 x y z _).step (n_after _ _)
 have B2:Box3 V ob Pt.O:=by rw [hV,hob'];have:=Box3.new (w0.alloc (.cells #[.int .i64 x,.int .i64 y,.int .i64 z] 23)) 0 0 0 23;rwa [World.size_alloc] at this
 rw [<- hV,<- hob',<- hpb]
 have hob:w0.heap.size <= ob:=by omega
 have hof:ob ≠ fb:=by omega
 have hpf:pb ≠ fb:=by omega
 have hfV:fb < V.heap.size:=by omega
 have hpV:pb < V.heap.size:=by omega
 have hoV:ob < V.heap.size:=by omega
 clear hV hpb hob'
 refine RV.rs [.some (.pointer (some ⟨fb,0,none⟩)),.some (.pointer (some ⟨fb,0,none⟩)),.some (.pointer (some ⟨fb,0,none⟩)),.some (.pointer (some ⟨fb,0,none⟩)),.some (.agg #[.int .i64 x,.int .i64 y,.int .i64 z]),.some (.agg #[.int .i64 x1,.int .i64 y1,.int .i64 z1]),.some (.pointer (some ⟨fb,0,none⟩)),.some (.pointer (some ⟨fb,0,none⟩)),.some (.pointer (some ⟨fb,10,none⟩)),.some (.agg #[.int .i64 tx,.int .i64 ty,.int .i64 tz]),.some (.agg #[.int .i64 x2,.int .i64 y2,.int .i64 z2]),none,none] [7,8,9,10,11,12,13,14,15,16,17,6,0] [(0,.pointer (some ⟨fb,0,none⟩)),(3,.pointer (some ⟨pb,0,none⟩))] (fun γ L w=>FQ w0 fb (f || (L 5 && b1) || (L 10 && b2)) ⟨m0,m1,m2,m3,m4,m5,m6,m7,m8⟩ ⟨tx,ty,tz⟩ w/\Box3 w pb ⟨x,y,z⟩/\Box3 w ob Pt.O/\RV.Pend V 27 11 12 #[.int .i64 x2,.int .i64 y2,.int .i64 z2] γ L w/\V.heap.size <= w.heap.size) ⟨rfl,rfl,trivial⟩ ?_ ?_ ?_
 ·have b9:Below V.heap.size V V.drew:=(Below.refl _ _).drew;simp only [Bool.false_and,Bool.or_false];exact ⟨(FQ.start hF hBV.out).step b9,B1.step b9,B2.step b9,RV.Pend.start rfl,Nat.le_refl _⟩
 ·intro D WA Z hD hWA hZ T
  simp only [RV.Outs,RV.Slots,Nat.reduceAdd] at T
  iterate 5 first
   | (refine RV.cc _ (RV.pu T (fun γ v L w hl h=>⟨by rw [RV.mn (L:=L) (i:=_) (j:=5) (by decide),RV.mn (L:=L) (i:=_) (j:=10) (by decide)];exact h.1,h.2.1,h.2.2.1,h.2.2.2.1.other v (by decide) (by decide),h.2.2.2.2⟩) (fun γ L a w hH hl h9 k9=>⟨_,?_,rfl⟩)) ?_;· simp [execOp,go_sem,h9])
   | (refine RV.cc _ (RV.pu T (fun γ v L w hl h=>⟨by rw [RV.mn (L:=L) (i:=_) (j:=5) (by decide),RV.mn (L:=L) (i:=_) (j:=10) (by decide)];exact h.1,h.2.1,h.2.2.1,h.2.2.2.1.other v (by decide) (by decide),h.2.2.2.2⟩) (fun γ L a w hH hl h9 k9=>⟨_,?_,rfl⟩)) ?_;· have wz0:=hH.glob.2.1.c0;have wz1:=hH.glob.2.1.c1;have wz2:=hH.glob.2.1.c2;simp [execOp,go_sem,h9,wz0,wz1,wz2])
   | (refine RV.cc _ (RV.pu T (fun γ v L w hl h=>⟨by rw [RV.mn (L:=L) (i:=_) (j:=5) (by decide),RV.mn (L:=L) (i:=_) (j:=10) (by decide)];exact h.1,h.2.1,h.2.2.1,h.2.2.2.1.other v (by decide) (by decide),h.2.2.2.2⟩) (fun γ L a w hH hl h9 k9=>⟨_,?_,rfl⟩)) ?_;· simp [Region.binds] at k9;simp [execOp,go_sem,h9,k9])
  refine RV.cc _ (RV.dc (fun γ L a w hH hl hA=>by have h9:=T γ L a w hH;have k9:=hA;simp [Region.binds] at k9;have hG:=hH.glob;rw [hl] at hG;refine ⟨40,#[.pointer (some ⟨fb,0,none⟩),.agg #[.int .i64 x,.int .i64 y,.int .i64 z],.int .i64 1048576],by simp [go_sem,h9,k9],Calls.mono (HT.out w _ hG.1.fr) ?_⟩;rintro e w2 ⟨rfl,A⟩;refine ⟨_,rfl,rfl,fun j v _ h=>h.keep _,?_⟩;rw [RV.more_self,RV.mn (L:=L) (i:=5) (j:=10) (by decide)];have A9:=A.out;exact ⟨by have q9:=hG.1.after A9;revert q9;cases f <;> cases b1 <;> cases b2 <;> cases L 10 <;> exact id,hG.2.1.after A9 hpf,hG.2.2.1.after A9 hof,(hG.2.2.2.1.after A9 hfV).other _ (by decide) (by decide),Nat.le_trans hG.2.2.2.2 A9.size⟩)) ?_
  iterate 4 first
   | (refine RV.cc _ (RV.pu T (fun γ v L w hl h=>⟨by rw [RV.mn (L:=L) (i:=_) (j:=5) (by decide),RV.mn (L:=L) (i:=_) (j:=10) (by decide)];exact h.1,h.2.1,h.2.2.1,h.2.2.2.1.other v (by decide) (by decide),h.2.2.2.2⟩) (fun γ L a w hH hl h9 k9=>⟨_,?_,rfl⟩)) ?_;· simp [execOp,go_sem,h9])
   | (refine RV.cc _ (RV.pu T (fun γ v L w hl h=>⟨by rw [RV.mn (L:=L) (i:=_) (j:=5) (by decide),RV.mn (L:=L) (i:=_) (j:=10) (by decide)];exact h.1,h.2.1,h.2.2.1,h.2.2.2.1.other v (by decide) (by decide),h.2.2.2.2⟩) (fun γ L a w hH hl h9 k9=>⟨_,?_,rfl⟩)) ?_;· simp [Region.binds] at k9;simp [execOp,go_sem,h9,k9])
   | (refine RV.cc _ (RV.pu T (fun γ v L w hl h=>⟨by rw [RV.mn (L:=L) (i:=_) (j:=5) (by decide),RV.mn (L:=L) (i:=_) (j:=10) (by decide)];exact h.1,h.2.1,h.2.2.1,h.2.2.2.1.other v (by decide) (by decide),h.2.2.2.2⟩) (fun γ L a w hH hl h9 k9=>⟨_,?_,rfl⟩)) ?_;· have wz0:=(hH.glob.1.fr 10 _ rfl).1;have wz1:=(hH.glob.1.fr 11 _ rfl).1;have wz2:=(hH.glob.1.fr 12 _ rfl).1;simp [Region.binds] at k9;simp [execOp,go_sem,h9,k9,wz0,wz1,wz2])
  refine RV.cc _ (RV.dc (fun γ L a w hH hl hA=>by have h9:=T γ L a w hH;have k9:=hA;simp [Region.binds] at k9;have hG:=hH.glob;rw [hl] at hG;have z0:=hG.1.fr 0 _ rfl;refine ⟨39,#[.pointer (some ⟨fb,0,none⟩),.agg #[.int .i64 x1,.int .i64 y1,.int .i64 z1],.agg #[.int .i64 tx,.int .i64 ty,.int .i64 tz]],by simp [go_sem,h9,k9],Calls.mono (HS.out w _ z0.1 z0.2) ?_⟩;rintro e w2 ⟨rfl,A⟩;refine ⟨_,rfl,rfl,fun j v _ h=>h.keep _,?_⟩;rw [RV.more_self,RV.mn (L:=L) (i:=10) (j:=5) (by decide)];have A9:=A.out;exact ⟨by have q9:=hG.1.after A9;revert q9;cases f <;> cases b1 <;> cases b2 <;> cases L 5 <;> exact id,hG.2.1.after A9 hpf,hG.2.2.1.after A9 hof,(hG.2.2.2.1.after A9 hfV).other _ (by decide) (by decide),Nat.le_trans hG.2.2.2.2 A9.size⟩)) ?_
  refine RV.cc _ (RV.does_step (fun γ L a w hH hl hA=>by have hG:=hH.glob;have h12:L 12 = false:=RV.ny hH (RV.wt (j:=12) (i:=11) hWA (by kernel_rfl)) hl;exact ⟨.pointer (some ⟨w.heap.size,0,none⟩),w.alloc (.cells #[.int .i64 0,.int .i64 0,.int .i64 0] 27),by simp [execOp,go_sem],trivial,fun j v _ h=>h.keep _,by rw [RV.mn (L:=L) (i:=11) (j:=5) (by decide),RV.mn (L:=L) (i:=11) (j:=10) (by decide)];exact hG.1.step (n_after _ _),hG.2.1.step (n_after _ _),hG.2.2.1.step (n_after _ _),RV.Pend.made _ rfl hG.2.2.2.2 h12 (by decide),by rw [World.size_alloc];have h8:=hG.2.2.2.2;omega⟩)) ?_
  refine RV.cc _ (RV.does_store (fun γ L a w hH hl hA=>by have h9:=T γ L a w hH;have k9:=hA;simp [Region.binds] at k9;have l0:L 11 = true:=hA ⟨11,.data⟩ (by simp) rfl;have e0:=hH.slot 11 5 (by rw [<- hD];rfl) l0;have hG:=hH.glob;obtain ⟨b,cs,hb1,hb2,hb3,hb4,_⟩:=hG.2.2.2.1 l0;rw [hb1] at e0;obtain ⟨u0,u1,u2,rfl⟩:=arr3' hb4;have wz0:w.cell? ⟨b,0,none⟩ = some u0:=(by simp [World.cell?,hb3]);have wz1:w.cell? ⟨b,1,none⟩ = some u1:=(by simp [World.cell?,hb3]);have wz2:w.cell? ⟨b,2,none⟩ = some u2:=(by simp [World.cell?,hb3]);have zf:∀ o,w.frozen? ⟨b,o,none⟩ = false:=fun o=>(by simp [World.frozen?,hb3]);have hbf:b ≠ fb:=(by omega);have hbw:w0.heap.size <= b:=(by omega);exact ⟨(((w.setCell ⟨b,0,none⟩ (.int .i64 x2)).setCell ⟨b,1,none⟩ (.int .i64 y2)).setCell ⟨b,2,none⟩ (.int .i64 z2)),by simp [execOp,go_sem,e0,wz0,wz1,wz2,zf,h9,k9],trivial,fun j v _ h=>h.keep _,by rw [RV.mn (L:=L) (i:=12) (j:=5) (by decide),RV.mn (L:=L) (i:=12) (j:=10) (by decide)];exact hG.1.set3 x2 y2 z2 hbw hbf,hG.2.1.other (by omega) x2 y2 z2,hG.2.2.1.other (by omega) x2 y2 z2,RV.Pend.filled hb1 hb2 (by have q0:=Go.heap_setCell_same w b 0 _ _ (.int .i64 x2) hb3;have q1:=Go.heap_setCell_same _ b 1 _ _ (.int .i64 y2) q0;have q2:=Go.heap_setCell_same _ b 2 _ _ (.int .i64 z2) q1;simpa using q2) (by decide) _,by have h8:=hG.2.2.2.2;simpa [World.setCell] using h8⟩)) ?_
  exact RV.AllDo.nil
 ·intro γ w5 L9 hL hI9 hG9
  have hG:=hG9
  rw [hL 5 (by decide),hL 10 (by decide)] at hG
  obtain ⟨b3,cs,hb1,hb2,hb3,_,hb5⟩:=hG.2.2.2.1 (hL 11 (by decide))
  rw [hb5 (hL 12 (by decide))] at hb3
  clear hL hb5 hI9 hG9
  simp only [RV.putL,Act.put,List.setIfInBounds_toArray,List.set_cons_zero,List.set_cons_succ,Nat.reduceAdd]
  rw [hb1]
  have c0:w5.cell? ⟨b3,0,none⟩ = some (.int .i64 x2):=by simp [World.cell?,hb3]
  have c1:w5.cell? ⟨b3,1,none⟩ = some (.int .i64 y2):=by simp [World.cell?,hb3]
  have c2:w5.cell? ⟨b3,2,none⟩ = some (.int .i64 z2):=by simp [World.cell?,hb3]
  obtain ⟨o0,o1,o2,p0,p1,p2⟩:=hG.2.2.1
  dsimp only [Pt.O] at o0 o1 o2
  have HA:Hid (FQ w0 fb (f || b1 || b2) ⟨m0,m1,m2,m3,m4,m5,m6,m7,m8⟩ ⟨tx,ty,tz⟩ w5):=by show FQ _ _ _ _ _ _;have h9:=hG.1;simpa using h9
  clear hG hb1 hb3
  go_wp2
  refine bodyPost_ret (v:=.agg #[.int .i64 (x2 / 1048576),.int .i64 (y2 / 1048576),.int .i64 (z2 / 1048576)]) (by simp [results,Tryz.results17,go_sem,o0,o1,o2]) rfl ⟨rfl,?_⟩
  exact (HA.out.set3 _ _ _ hob hof).done
structure Q4 where
 w:Int
 x:Int
 y:Int
 z:Int
def rowsB (q:Q4):Bool:=rowsBad q.w q.x q.y q.z
def rowsM (q:Q4):M9:=⟨cond (rowsB q) 0 (rowsAt0 q.w q.x q.y q.z),cond (rowsB q) 0 (rowsAt1 q.w q.x q.y q.z),cond (rowsB q) 0 (rowsAt2 q.w q.x q.y q.z),cond (rowsB q) 0 (rowsAt3 q.w q.x q.y q.z),cond (rowsB q) 0 (rowsAt4 q.w q.x q.y q.z),cond (rowsB q) 0 (rowsAt5 q.w q.x q.y q.z),cond (rowsB q) 0 (rowsAt6 q.w q.x q.y q.z),cond (rowsB q) 0 (rowsAt7 q.w q.x q.y q.z),cond (rowsB q) 0 (rowsAt8 q.w q.x q.y q.z)⟩
def poseV (t:Pt) (q:Q4):Value:=.agg #[.int .i64 t.x,.int .i64 t.y,.int .i64 t.z,.int .i64 q.w,.int .i64 q.x,.int .i64 q.y,.int .i64 q.z]
theorem vrows_m (b off:Nat) (f:Bool) (q:Q4) (W:World) (hc:W.cell? ⟨b,off,none⟩ = some (.bool f)) (hf:W.frozen? ⟨b,off,none⟩ = false) :
  Calls Tryz.prog 37 #[.pointer (some ⟨b,off,none⟩),.agg #[.int .i64 q.w,.int .i64 q.x,.int .i64 q.y,.int .i64 q.z]] W fun e W'=>e = .returned (rowsM q).v/\Hid (After ⟨b,off,none⟩ (f || rowsB q) W W'):=
 vrows_law b off f q.w q.x q.y q.z W hc hf
theorem framed_any (t:Pt) (q:Q4) (w0:World) :
  Calls Tryz.prog 14 #[poseV t q] w0 fun e W=>∃ fb,e = .returned (.pointer (some ⟨fb,0,none⟩))/\w0.heap.size <= fb/\Cells W fb (frL (rowsB q) (rowsM q) t)/\Below w0.heap.size w0 W:=by
 have HR:Hid _:=fun (b:Nat) (w:World) (g:Bool)=>vrows_m b 0 g q w
 generalize rowsM q = m at *
 generalize rowsB q = bd at *
 obtain ⟨m0,m1,m2,m3,m4,m5,m6,m7,m8⟩:=m
 obtain ⟨tx,ty,tz⟩:=t
 obtain ⟨qw,qx,qy,qz⟩:=q
 unfold M9.v at HR
 unfold poseV
 dsimp only at *
 go_enter Tryz.func14,Tryz.ntmps14
 go_upto_region 2 with fail
 obtain ⟨V,hV⟩:∃ V:World,V = (w0.alloc (.cells #[.int .i64 tx,.int .i64 ty,.int .i64 tz,.int .i64 qw,.int .i64 qx,.int .i64 qy,.int .i64 qz] 41)).alloc (.cells #[.bool false,.int .i64 0,.int .i64 0,.int .i64 0,.int .i64 0,.int .i64 0,.int .i64 0,.int .i64 0,.int .i64 0,.int .i64 0,.int .i64 tx,.int .i64 ty,.int .i64 tz] 63):=⟨_,rfl⟩
 obtain ⟨pb,hpb⟩:∃ b,b = w0.heap.size:=⟨_,rfl⟩
 obtain ⟨fb,hfb'⟩:∃ b,b = w0.heap.size + 1:=⟨_,rfl⟩
 have hBV:Hid (Below w0.heap.size w0 V):=by show Below _ _ _;rw [hV];exact b_step (n_after _ _) (n_after _ _)
 have B1:Cells V pb [.int .i64 tx,.int .i64 ty,.int .i64 tz,.int .i64 qw,.int .i64 qx,.int .i64 qy,.int .i64 qz]:=by rw [hV,hpb];exact (Cells.new w0 _ _).step (n_after _ _)
 have B2:Cells V fb (frL false ⟨0,0,0,0,0,0,0,0,0⟩ ⟨tx,ty,tz⟩):=by rw [hV,hfb'];have:=Cells.new (w0.alloc (.cells #[.int .i64 tx,.int .i64 ty,.int .i64 tz,.int .i64 qw,.int .i64 qx,.int .i64 qy,.int .i64 qz] 41)) (frL false ⟨0,0,0,0,0,0,0,0,0⟩ ⟨tx,ty,tz⟩) 63;rwa [World.size_alloc] at this
 rw [<- hV,<- hfb',<- hpb]
 have hfb:w0.heap.size <= fb:=by omega
 have hpf:pb ≠ fb:=by omega
 clear hV hpb hfb'
 have HR:Hid _:=HR.out fb
 refine RV.rs [.some (.pointer (some ⟨fb,0,none⟩)),.some (.pointer (some ⟨fb,0,none⟩)),.some (.pointer (some ⟨fb,0,none⟩)),.some (.pointer (some ⟨fb,0,none⟩)),.some (.pointer (some ⟨pb,3,none⟩)),.some (.agg #[.int .i64 qw,.int .i64 qx,.int .i64 qy,.int .i64 qz]),.some (.agg #[.int .i64 m0,.int .i64 m1,.int .i64 m2,.int .i64 m3,.int .i64 m4,.int .i64 m5,.int .i64 m6,.int .i64 m7,.int .i64 m8]),.some (.pointer (some ⟨fb,0,none⟩)),.some (.pointer (some ⟨fb,1,none⟩)),none] [9,10,11,12,13,14,15,16,17,0] [(1,.pointer (some ⟨pb,0,none⟩)),(3,.pointer (some ⟨fb,0,none⟩))] (fun γ L w=>Below w0.heap.size w0 w/\Cells w pb [.int .i64 tx,.int .i64 ty,.int .i64 tz,.int .i64 qw,.int .i64 qx,.int .i64 qy,.int .i64 qz]/\Cells w fb (frL (L 6 && bd) (cond (L 9) ⟨m0,m1,m2,m3,m4,m5,m6,m7,m8⟩ ⟨0,0,0,0,0,0,0,0,0⟩) ⟨tx,ty,tz⟩)) ⟨rfl,rfl,trivial⟩ ?_ ?_ ?_
 ·have b9:Below V.heap.size V V.drew:=(Below.refl _ _).drew;simp only [Bool.false_and,cond];exact ⟨b_step hBV.out b9,B1.step b9,B2.step b9⟩
 ·intro D WA Z hD hWA hZ T
  simp only [RV.Outs,RV.Slots,Nat.reduceAdd] at T
  iterate 6 first
   | (refine RV.cc _ (RV.pu T (fun γ v L w hl h=>by rw [RV.mn (L:=L) (i:=_) (j:=6) (by decide),RV.mn (L:=L) (i:=_) (j:=9) (by decide)];exact h) (fun γ L a w hH hl h9 k9=>⟨_,?_,rfl⟩)) ?_;· simp [execOp,go_sem,h9])
   | (refine RV.cc _ (RV.pu T (fun γ v L w hl h=>by rw [RV.mn (L:=L) (i:=_) (j:=6) (by decide),RV.mn (L:=L) (i:=_) (j:=9) (by decide)];exact h) (fun γ L a w hH hl h9 k9=>⟨_,?_,rfl⟩)) ?_;· simp [Region.binds] at k9;simp [execOp,go_sem,h9,k9])
   | (refine RV.cc _ (RV.pu T (fun γ v L w hl h=>by rw [RV.mn (L:=L) (i:=_) (j:=6) (by decide),RV.mn (L:=L) (i:=_) (j:=9) (by decide)];exact h) (fun γ L a w hH hl h9 k9=>⟨_,?_,rfl⟩)) ?_;· have wz0:=(hH.glob.2.1 3 _ rfl).1;have wz1:=(hH.glob.2.1 4 _ rfl).1;have wz2:=(hH.glob.2.1 5 _ rfl).1;have wz3:=(hH.glob.2.1 6 _ rfl).1;simp [Region.binds] at k9;simp [execOp,go_sem,h9,k9,wz0,wz1,wz2,wz3])
  refine RV.cc _ (RV.dc (fun γ L a w hH hl hA=>by have h9:=T γ L a w hH;have k9:=hA;simp [Region.binds] at k9;have hG:=hH.glob;rw [hl] at hG;have wz:=hG.2.2 0 _ rfl;refine ⟨37,#[.pointer (some ⟨fb,0,none⟩),.agg #[.int .i64 qw,.int .i64 qx,.int .i64 qy,.int .i64 qz]],by simp [go_sem,h9,k9],Calls.mono (HR.out w _ wz.1 wz.2) ?_⟩;rintro e w2 ⟨rfl,A⟩;refine ⟨_,rfl,rfl,fun j v _ h=>h.keep _,?_⟩;rw [RV.more_self,RV.mn (L:=L) (i:=6) (j:=9) (by decide)];have A9:=A.out;exact ⟨A9.on hG.1 hfb,hG.2.1.beside A9 hpf,by have q9:=Cells.after hG.2.2 A9;exact q9⟩)) ?_
  iterate 2 (refine RV.cc _ (RV.pu T (fun γ v L w hl h=>by rw [RV.mn (L:=L) (i:=_) (j:=6) (by decide),RV.mn (L:=L) (i:=_) (j:=9) (by decide)];exact h) (fun γ L a w hH hl h9 k9=>⟨_,?_,rfl⟩)) ?_;· simp [Region.binds] at k9;simp [execOp,go_sem,h9,k9])
  refine RV.cc _ (RV.does_store (fun γ L a w hH hl hA=>by have h9:=T γ L a w hH;have k9:=hA;simp [Region.binds] at k9;have hG:=hH.glob;have wz0:=hG.2.2 1 _ rfl;have wz1:=hG.2.2 2 _ rfl;have wz2:=hG.2.2 3 _ rfl;have wz3:=hG.2.2 4 _ rfl;have wz4:=hG.2.2 5 _ rfl;have wz5:=hG.2.2 6 _ rfl;have wz6:=hG.2.2 7 _ rfl;have wz7:=hG.2.2 8 _ rfl;have wz8:=hG.2.2 9 _ rfl;refine ⟨(((((((((w.setCell ⟨fb,1,none⟩ (.int .i64 m0)).setCell ⟨fb,2,none⟩ (.int .i64 m1)).setCell ⟨fb,3,none⟩ (.int .i64 m2)).setCell ⟨fb,4,none⟩ (.int .i64 m3)).setCell ⟨fb,5,none⟩ (.int .i64 m4)).setCell ⟨fb,6,none⟩ (.int .i64 m5)).setCell ⟨fb,7,none⟩ (.int .i64 m6)).setCell ⟨fb,8,none⟩ (.int .i64 m7)).setCell ⟨fb,9,none⟩ (.int .i64 m8)),by simp [execOp,go_sem,wz0.1,wz0.2,wz1.1,wz1.2,wz2.1,wz2.2,wz3.1,wz3.2,wz4.1,wz4.2,wz5.1,wz5.2,wz6.1,wz6.2,wz7.1,wz7.2,wz8.1,wz8.2,h9,k9],trivial,fun j v _ h=>h.keep _,?_⟩;rw [RV.more_self,RV.mn (L:=L) (i:=9) (j:=6) (by decide)];exact ⟨(((((((((hG.1.setCell hfb _).setCell hfb _).setCell hfb _).setCell hfb _).setCell hfb _).setCell hfb _).setCell hfb _).setCell hfb _).setCell hfb _),(Cells.apart (Cells.apart (Cells.apart (Cells.apart (Cells.apart (Cells.apart (Cells.apart (Cells.apart (Cells.apart hG.2.1 hpf 1 (.int .i64 m0)) hpf 2 (.int .i64 m1)) hpf 3 (.int .i64 m2)) hpf 4 (.int .i64 m3)) hpf 5 (.int .i64 m4)) hpf 6 (.int .i64 m5)) hpf 7 (.int .i64 m6)) hpf 8 (.int .i64 m7)) hpf 9 (.int .i64 m8)),(Cells.set (Cells.set (Cells.set (Cells.set (Cells.set (Cells.set (Cells.set (Cells.set (Cells.set hG.2.2 1 (.int .i64 m0) (by simp [frL])) 2 (.int .i64 m1) (by simp [frL])) 3 (.int .i64 m2) (by simp [frL])) 4 (.int .i64 m3) (by simp [frL])) 5 (.int .i64 m4) (by simp [frL])) 6 (.int .i64 m5) (by simp [frL])) 7 (.int .i64 m6) (by simp [frL])) 8 (.int .i64 m7) (by simp [frL])) 9 (.int .i64 m8) (by simp [frL]))⟩)) ?_
  exact RV.AllDo.nil
 ·intro γ w5 L9 hL hI9 hG9
  have hG:=hG9
  rw [hL 6 (by decide),hL 9 (by decide)] at hG
  clear hL hI9 hG9
  simp only [RV.putL,Act.put,List.setIfInBounds_toArray,List.set_cons_zero,List.set_cons_succ]
  go_wp2
  go_ret
  exact ⟨fb,rfl,hfb,hG.2.2,hG.1⟩
end
section
open Go.RowKit Go.Shelf
theorem rowp_form {W:World} {base:Nat} {u:Value} {n:Nat} {xs:List Value} (h:W.ownsRow base 23 3 u n xs):∃ o c,u = .slice o n c:=by
 rcases h.2 with ⟨rfl,h0⟩ | ⟨g,cap,cur,rfl,_⟩
 ·exact ⟨none,0,by rw [h0]⟩
 ·exact ⟨_,_,rfl⟩
theorem pts_read {w:World} {g off n c:Nat} {L:List Pt} (h:Lies w (.slice (some ⟨g,off,none⟩) n c) L):∀ j u,(fl3 L)[j]? = some u->w.cell? ((⟨g,off,none⟩:Addr).add j) = some u:=by
 intro j u hj
 obtain ⟨o,cap,e,_,_,hc⟩:=h.form
 simp only [Value.slice.injEq] at e
 obtain ⟨rfl,rfl,rfl⟩:=e
 have hl:j < L.length * 3:=by have:=(List.getElem?_eq_some_iff.1 hj).1;rwa [fl3_length] at this
 have hi:j / 3 < L.length:=by omega
 obtain ⟨g',off',e',x0,x1,x2⟩:=hc (j / 3) hi
 cases e'
 obtain ⟨f0,f1,f2⟩:=fl3_at L (j / 3) hi
 have ej:j = j / 3 * 3 \/ j = j / 3 * 3 + 1 \/ j = j / 3 * 3 + 2:=by omega
 have ad:(⟨g,off,none⟩:Addr).add j = ⟨g,off + j,none⟩:=by unfold Addr.add;split <;> simp_all
 rw [ad]
 rcases ej with e | e | e
 ·rw [e] at hj ⊢;rw [f0] at hj;rw [<- hj];exact x0
 ·rw [e] at hj ⊢;rw [f1] at hj;rw [<- hj];rw [<- Nat.add_assoc];exact x1
 ·rw [e] at hj ⊢;rw [f2] at hj;rw [<- hj];rw [<- Nat.add_assoc];exact x2
theorem none_run {P:Program} {w:World} (base:Nat) (t ty e:TypeId) (i:TypeInfo) (size:Nat) (ht:P.underlying t = some (.slice e)) (hi:P.info? e = some i) (v:Value) (n c:Nat) (xs:List Value) (hown:w.ownsRow base e size v n xs) :
  (Builtin.append_ #[t,t] ty #[v,.slice none 0 c]).run P w = .ok v w:=by
 rcases hown.2 with ⟨rfl,rfl⟩ | ⟨g,cap,cur,rfl,_,_,hnc,_⟩
 ·simp [Builtin.append_,run_underlying ht,sizeOf,typeInfo,hi,Builtin.lenOf,Builtin.firstCells]
 ·simp [Builtin.append_,run_underlying ht,sizeOf,typeInfo,hi,Builtin.lenOf,Builtin.firstCells,hnc,storeCells]
theorem append_lies {w:World} {ops:Array Oper} {rest:List Oper} {o:Oper} {a:Act} {Q:Exit->Act->World->Prop} (hgd:o.guard = none) (s x:Operand)
  (ho:o.op = .call { callee:=.builtin .append,args:=#[s,x],argTypes:=#[24,24] })
  (base:Nat) (v:Value) (M:List Pt) (hs:a.eval s = v) (hown:w.ownsRow base 23 3 v M.length (fl3 M)) (xv:Value) (L:List Pt) (hx:a.eval x = xv) (hl:Lies w xv L)
  (hN:M.length + L.length < 2199023255552) (hbase:base <= w.heap.size)
  (h:∀ v' w',w'.ownsRow base 23 3 v' (M ++ L).length (fl3 (M ++ L))->w.grownBy w' v.ownBlock->(v'.ownBlock = v.ownBlock \/ v'.ownBlock = some w.heap.size)->wpList Tryz.prog ops Q rest (a.put o.dst v') w') :
  wpList Tryz.prog ops Q (o :: rest) a w:=by
 obtain ⟨i0,hii,hiz,hisz,hib⟩:=info_parts point_info
 obtain ⟨oo,cap,rfl,hlc,hcm,hc⟩:=hl.form
 rcases Nat.eq_zero_or_pos L.length with h0 | h0
 ·have hL:L = []:=List.length_eq_zero_iff.1 h0
  subst hL
  cases oo with
  | none =>
   refine wpList_plain hgd fun K hK=>?_
   have hrun:=none_run (P:=Tryz.prog) (w:=w) base 24 o.type 23 i0 3 Tryz.underlying24 hii v M.length cap (fl3 M) hown
   unfold Oper.wp
   simp [execOp,ho,resolve,invoke,builtin,hs,hx,hrun,Result.andThen]
   refine hK _ _ (h v w ?_ (below_grown (Below.refl _ _) _) (Or.inl rfl))
   rw [List.append_nil];exact hown
  | some ad =>
   refine wpList_append_own_at w hgd s x _ ho base 23 i0 _ 3 24 Tryz.underlying24 hii hiz hisz hib rfl (by decide) v M.length (fl3 M) hs hown ad 0 cap [] hx rfl (fun j u e=>by simp at e) (fun u e=>by simp at e) (by unfold maxLen;omega) (by omega) hbase ?_
   intro v' w' r8 g8 _ s8
   refine h v' w' ?_ g8 s8
   rw [List.append_nil];simpa using r8
 ·obtain ⟨g,off,rfl,_⟩:=hc 0 h0
  refine wpList_append_own_at w hgd s x _ ho base 23 i0 _ 3 24 Tryz.underlying24 hii hiz hisz hib rfl (by decide) v M.length (fl3 M) hs hown ⟨g,off,none⟩ L.length cap (fl3 L) hx (fl3_length L) (pts_read hl) (fl3_one _) (by unfold maxLen;omega) (by omega) hbase ?_
  intro v' w' r8 g8 _ s8
  refine h v' w' ?_ g8 s8
  rw [fl3_append,List.length_append];exact r8
end
section
open Go.RowKit Go.Shelf
attribute [local go_sem] Oper.semAt_some
theorem within1_any (p:Pt) (m:Int) (b:Nat) (w:World) (hc:w.cell? ⟨b,0,none⟩ = some (.int .i64 m)) :
  Calls Tryz.prog 43 #[p.v,.pointer (some ⟨b,0,none⟩)] w fun e W=>e = .returned (.bool (p.win m))/\Below w.heap.size w W:=by
 have HW:Hid _:=fun w'=>pwithin_any p m w'
 generalize p.win m = r at *
 obtain ⟨x,y,z⟩:=p
 unfold Pt.v at *
 dsimp only at *
 have hc':=c_after (n_after w (.cells #[.int .i64 x,.int .i64 y,.int .i64 z] 23)) hc
 clear hc
 go_enter Tryz.func43,Tryz.ntmps43
 go_wp2_with (fail)
 refine Calls.mono (HW.out _) ?_
 rintro e V ⟨rfl,hb⟩
 go_wp2_with (fail)
 go_ret
 exact ⟨rfl,b_step (n_after _ _) hb⟩
theorem allWithin_any (Ls:List Pt) (v:Value) (m:Int) (w:World) (hv:Lies w v Ls) :
  Calls Tryz.prog 19 #[v,.int .i64 m] w fun e W=>e = .returned (.bool (Ls.all fun p=>p.win m))/\Below w.heap.size w W:=by
 obtain ⟨o,cap,rfl,hlc,hcm,hcell⟩:=hv.form
 have HV:Hid _:=hv
 clear hv hcell
 refine (callsIn_wide (n:=9)).1 ?_
 have h1:1 <= 9:=by omega
 refine callsIn_of_wp_marks Tryz.func19 rfl trivial ?_ rfl
 simp only [Tryz.ntmps19,List.size_toArray,List.length_cons,List.length_nil,Nat.reduceAdd,Nat.reduceSub,Array.replicate_succ,Array.replicate_zero,List.push_toArray,List.append_toArray,List.nil_append,List.cons_append]
 gi_wp2_with (refine ⟨trivial,?_⟩;gi_at_call 42;refine (callsIn_wide.2 (each_in_bool _ _ _ _ _ _ _)).mono ?_;rintro e w' ⟨rfl,rfl⟩)
 obtain ⟨S0,hS0⟩:∃ n,n = w.heap.size:=⟨_,rfl⟩
 obtain ⟨W0,hW0⟩:∃ W0,W0 = (((w.alloc (.cells #[.int .i64 m] 3)).alloc (.cells #[.bool false] 4)).alloc (.cells #[.slice o Ls.length cap] 24)).alloc (.cells #[.func (.func 43) #[] #[.pointer (some ⟨w.heap.size,0,none⟩)]] 83):=⟨_,rfl⟩
 have hsz:W0.heap.size = S0 + 4:=by rw [hW0,hS0];simp
 have hB0:Hid (Below w.heap.size w W0):=by show Below _ _ _;rw [hW0];exact b_step (b_step (b_step (n_after _ _) (n_after _ _)) (n_after _ _)) (n_after _ _)
 have cm:W0.cell? ⟨S0,0,none⟩ = some (.int .i64 m):=by rw [hW0,hS0];simp [go_sem]
 have cr:W0.cell? ⟨S0 + 1,0,none⟩ = some (.bool false):=by rw [hW0,hS0];simp [go_sem]
 have fr:W0.frozen? ⟨S0 + 1,0,none⟩ = false:=by rw [hW0,hS0];simp [go_sem]
 have cp:W0.cell? ⟨S0 + 1 + 1,0,none⟩ = some (.slice o Ls.length cap):=by rw [hW0,hS0];simp [go_sem]
 have cf:W0.cell? ⟨S0 + 1 + 1 + 1,0,none⟩ = some (.func (.func 43) #[] #[.pointer (some ⟨S0,0,none⟩)]):=by rw [hW0,hS0];simp [go_sem]
 rw [<- hW0,<- hS0]
 have hSl:w.heap.size = S0:=hS0.symm
 clear hW0 hS0
 have HV0:Hid _:=HV.out.below hB0.out
 have hblk:Hid (∀ q,o = some q->Ls ≠ []->q.block < W0.heap.size):=fun q e hne=>by
  obtain ⟨o',c',e',_,_,h9⟩:=HV0.out.form
  cases e'
  obtain ⟨g,off,e2,x0,_⟩:=h9 0 (List.length_pos_iff.2 hne)
  rw [e] at e2;cases e2
  exact World.block_lt_of_cell? _ _ x0
 refine' range_n h1 (gf:=83) (lb:=#[.pointer (some ⟨S0 + 1 + 1,0,none⟩),.pointer (some ⟨S0 + 1 + 1 + 1,0,none⟩)]) rfl (enters_of Tryz.func83 (by kernel_rfl) rfl)
  (S:=fun b=>b < W0.heap.size) (St:=fun _ V=>V.cell? ⟨S0,0,none⟩ = some (.int .i64 m))
  (each_tells_bool (9 - 1) (S0 + 1 + 1) (S0 + 1 + 1 + 1) Ls o cap 43 #[] #[.pointer (some ⟨S0,0,none⟩)] (fun k=>.bool ((pt Ls k).win m)) none (fun b=>b < W0.heap.size) (fun _ V=>V.cell? ⟨S0,0,none⟩ = some (.int .i64 m)) W0
   (enters_of Tryz.func43 (by kernel_rfl) rfl) HV0.out cp cf ?blk ⟨by omega,by simp⟩ (fun _ h=>h)
   (fun W hb=>c_after hb cm) (fun k A B hs hk=>hk.cell (q:=⟨S0,0,none⟩) (by show S0 < _;omega) hs)
   (fun k V hk hs=>(within1_any (pt Ls k) m S0 V hs).mono fun e V' h=>⟨h.1,below_grown h.2 none,c_after h.2 hs⟩))
  (fun _ h=>h) (fun r e=>by cases e) ?st (fun _=>rfl)
  (fun k V=>Below w.heap.size w V/\V.cell? ⟨S0 + 1,0,none⟩ = some (.bool false)/\V.frozen? ⟨S0 + 1,0,none⟩ = false/\∀ i,i < k->(pt Ls i).win m = true)
  (fun c k V=>c = .ret/\Below w.heap.size w V/\V.cell? ⟨S0 + 1,0,none⟩ = some (.bool false)/\∃ i,i < Ls.length/\(pt Ls i).win m = false)
  ?own ?ownx ?turn ⟨hB0.out,cr,fr,fun i hi=>absurd hi (by omega)⟩ _ (fun _=>none) ?assign ?body ?done ?stop
 case blk=>exact fun q e hne=>⟨hblk.out q e hne,by simp⟩
 case st=>exact fun k A B row hs hg hr=>gcell hg (fun r e=>(hr r e).1) (by omega) hs
 case own=>exact fun k A B row hs hg hr=>⟨gbelow hs.1 hg (fun r e=>(hr r e).1) (by omega),gcell hg (fun r e=>(hr r e).1) (by omega) hs.2.1,(gfrozen hg (fun r e=>(hr r e).1) (by omega) hs.2.1).trans hs.2.2.1,hs.2.2.2⟩
 case ownx=>exact fun c k A B row hs hg hr=>⟨hs.1,gbelow hs.2.1 hg (fun r e=>(hr r e).1) (by omega),gcell hg (fun r e=>(hr r e).1) (by omega) hs.2.2.1,hs.2.2.2⟩
 case turn=>exact fun k A B hs hg=>⟨gbelow (n:=W0.heap.size) hs.1 hg (fun r e=>by cases e) (by omega),gcell (n:=W0.heap.size) hg (fun r e=>by cases e) (by omega) hs.2.1,(gfrozen (n:=W0.heap.size) hg (fun r e=>by cases e) (by omega) hs.2.1).trans hs.2.2.1,hs.2.2.2⟩
 case assign =>
  intro l k W nb K hk hnb hK
  gi_wp2
  exact hK
 case body =>
  rintro l k V nb hk ⟨hB,hc,hf,hw⟩ hnb _
  cases hwk:(pt Ls k).win m with
  | true =>
   gi_wp2
   exact ⟨KeepsFrom.refl _ _,KeepO.refl _ _,hB,hc,hf,fun i hi=>by
    by_cases e:i = k
    ·subst e;exact hwk
    ·exact hw i (by omega)⟩
  | false =>
   gi_wp2
   exact ⟨(KeepsOthers.setCell _ _ _).from _,rfl,hB.setCell (show w.heap.size <= S0 + 1 by omega) _,by simp [go_sem,hc],k,hk,hwk⟩
 case done =>
  rintro D V hD ⟨hB,hc,hf,hw⟩ hs hK
  have hal:(Ls.all fun p=>p.win m) = true:=by
   rw [List.all_eq_true]
   intro p hp
   obtain ⟨i,hi,rfl⟩:=List.mem_iff_getElem.1 hp
   have:=hw i hi
   unfold pt at this
   rwa [List.getElem?_eq_getElem hi] at this
  gi_wp2
  refine ⟨by simp,.inl ⟨_,_,rfl,run_takeDeferred (by rw [Below.heap_setCell _ _ _ _ (by show D ≠ S0 + 1;omega)];exact hK),?_⟩⟩
  have hc9:((V.setCell ⟨S0 + 1,0,none⟩ (.bool true)).putObj D (.deferred none)).cell? ⟨S0 + 1,0,none⟩ = some (.bool true):=(World.cell?_of_block (World.putObj_heap_other (by show S0 + 1 ≠ D;omega))).trans (by simp [go_sem,hc])
  exact ⟨.bool true,by simp [results,Tryz.results19,go_sem,hc9],by rw [hal],(hB.setCell (show w.heap.size <= S0 + 1 by omega) _).grown (grownBy_putObj' _ D _) (by have:=hB.size;simpa [World.setCell] using this) (fun k e=>by cases e;omega)⟩
 case stop =>
  rintro D c k V hD hk ⟨rfl,hB,hc,i,hi,hw⟩ hK
  have hal:(Ls.all fun p=>p.win m) = false:=by
   rw [List.all_eq_false]
   refine ⟨pt Ls i,?_,by simp [hw]⟩
   unfold pt
   rw [List.getElem?_eq_getElem hi]
   exact List.getElem_mem hi
  gi_wp2
  refine ⟨by simp,.inl ⟨_,_,rfl,run_takeDeferred hK,?_⟩⟩
  have hc9:(V.putObj D (.deferred none)).cell? ⟨S0 + 1,0,none⟩ = some (.bool false):=(World.cell?_of_block (World.putObj_heap_other (by show S0 + 1 ≠ D;omega))).trans hc
  exact ⟨.bool false,by simp [results,Tryz.results19,go_sem,hc9],by rw [hal],hB.grown (grownBy_putObj' _ D _) hB.size (fun k e=>by cases e;omega)⟩
theorem row_own {A B:World} {base e size n k:Nat} {u:Value} {xs:List Value} {row:Option Nat} (h:A.ownsRow base e size u k xs) (hg:A.grownBy B row) (hr:∀ r,row = some r->n <= r/\∃ o:Obj,A.heap[r]? = some o/\o.isCells = false):B.ownsRow base e size u k xs:=by
 refine h.kept hg ?_
 rcases h.2 with ⟨rfl,_⟩ | ⟨g,cap,cur,rfl,_,hgb,_⟩
 ·exact .inl rfl
 ·refine .inr (fun e=>?_)
  obtain ⟨_,o,ho,hc⟩:=hr g (by rw [<- e];rfl)
  rw [hgb] at ho;cases ho;cases hc
theorem row_turn {A B:World} {base e size k:Nat} {u:Value} {xs:List Value} {row:Option Nat} (h:A.ownsRow base e size u k xs) (hg:A.grownBy B row) (hr:∀ r,row = some r->r < base):B.ownsRow base e size u k xs:=by
 refine h.kept hg ?_
 cases e1:u.ownBlock with
 | none=>exact .inl rfl
 | some b=>exact .inr (fun e=>by have:=(h.lt b e1).1;have:=hr b (by rw [<- e]);omega)
theorem box_own {A B:World} {b:Nat} {t:TypeId} {v:Value} {n:Nat} {row:Option Nat} (h:Boxed A b t v) (hg:A.grownBy B row) (hr:∀ r,row = some r->n <= r/\∃ o:Obj,A.heap[r]? = some o/\o.isCells = false):Boxed B b t v:=
 h.kept hg (fun e=>by obtain ⟨_,o,ho,hc⟩:=hr b e.symm;rw [show A.heap[b]? = _ from h] at ho;cases ho;cases hc)
theorem grown_le {w A B:World} {row r2:Option Nat} (h:w.grownBy A row) (hg:A.grownBy B r2) (hr:∀ r,r2 = some r->w.heap.size <= r \/ row = some r):w.grownBy B row:=
 ⟨hg.os.trans h.os,hg.tape.trans h.tape,hg.output.trans h.output,Nat.le_trans h.size hg.size,fun k hk hn=>(hg.block k (Nat.lt_of_lt_of_le hk h.size) (fun e=>by
  rcases hr k e.symm with h9 | h9
  ·omega
  ·exact hn h9.symm)).trans (h.block k hk hn)⟩
structure OutP (w V:World) (n:Nat) (row:Option Nat) (S:Nat) (u:Value) (M:List Pt):Prop where
 box:Boxed V S 24 u
 own:V.ownsRow n 23 3 u M.length (fl3 M)
 grown:w.grownBy V row
 le:w.heap.size <= S
 ln:w.heap.size <= n
 sz:n <= V.heap.size
theorem OutP.kept {w A B:World} {n:Nat} {row r2:Option Nat} {S n2:Nat} {u:Value} {M:List Pt} (h:OutP w A n row S u M) (hn:w.heap.size <= n2) (hg:A.grownBy B r2) (hr:∀ r,r2 = some r->n2 <= r/\∃ o:Obj,A.heap[r]? = some o/\o.isCells = false):OutP w B n row S u M:=
 ⟨box_own h.box hg hr,row_own h.own hg hr,grown_le h.grown hg (fun r e=>.inl (by have:=(hr r e).1;omega)),h.le,h.ln,Nat.le_trans h.sz hg.size⟩
theorem OutP.turn {w A B:World} {n:Nat} {row:Option Nat} {S:Nat} {u:Value} {M:List Pt} (h:OutP w A n row S u M) (hg:A.grownBy B row) (hr:∀ r,row = some r->r < w.heap.size):OutP w B n row S u M:=
 ⟨h.box.kept hg (fun e=>by have:=hr S e.symm;have:=h.le;omega),row_turn h.own hg (fun r e=>by have:=hr r e;have:=h.ln;omega),grown_le h.grown hg (fun r e=>.inr e),h.le,h.ln,Nat.le_trans h.sz hg.size⟩
theorem OutP.alloc {w A:World} {n:Nat} {row:Option Nat} {S:Nat} {u:Value} {M:List Pt} (h:OutP w A n row S u M) (o:Obj):OutP w (A.alloc o) n row S u M:=h.kept (n2:=w.heap.size) (Nat.le_refl _) (World.grownBy_alloc A o none) (fun r e=>by cases e)
theorem OutP.app {w A B:World} {n:Nat} {row:Option Nat} {S:Nat} {u u':Value} {M:List Pt} {p:Pt} (h:OutP w A n row S u M) (hr:B.ownsRow n 23 3 u' (M.length + 1) (fl3 M ++ [.int .i64 p.x,.int .i64 p.y,.int .i64 p.z])) (hg:A.grownBy B u.ownBlock) :
  OutP w (B.setCell ⟨S,0,none⟩ u') n row S u' (M ++ [p])/\Boxed B S 24 u:=by
 have hbx:Boxed B S 24 u:=h.box.kept hg (h.box.not_row (by decide) h.own)
 have gs:B.grownBy (B.setCell ⟨S,0,none⟩ u') (some S):=⟨rfl,rfl,rfl,by simp [World.setCell],fun k _ hk=>Below.heap_setCell _ _ _ k (fun e=>hk (by rw [e]))⟩
 refine ⟨⟨hbx.set _,?_,?_,h.le,h.ln,?_⟩,hbx⟩
 ·have:fl3 (M ++ [p]) = fl3 M ++ [.int .i64 p.x,.int .i64 p.y,.int .i64 p.z]:=by rw [fl3_append];rfl
  rw [this,List.length_append]
  exact hr.kept gs (Or.inr (fun e=>hbx.not_row (by decide) hr e.symm))
 ·exact grown_le (grown_le h.grown hg (fun r e=>.inl (by have:=(h.own.lt r e).1;have:=h.ln;omega))) gs (fun r e=>.inl (by cases e;exact h.le))
 ·have h1:=hg.size;have h2:=h.sz;have h3:=gs.size;omega
theorem OutP.keepsFrom {w A B:World} {n:Nat} {row:Option Nat} {S:Nat} {u u':Value} {M:List Pt} (h:OutP w A n row S u M) (hg:A.grownBy B u.ownBlock) (n2:Nat):KeepsFrom n2 A (B.setCell ⟨S,0,none⟩ u'):=by
 refine KeepsFrom.trans ((KeepsOthers.of_grownBy hg (fun j o e ho=>?_)).from _) ((KeepsOthers.setCell _ _ _).from _)
 rcases h.own.2 with ⟨rfl,_⟩ | ⟨g,cap,cur,rfl,_,hgb,_⟩
 ·cases e
 ·have:g = j:=by simpa [Value.ownBlock] using e
  subst this
  rw [hgb] at ho;cases ho;rfl
theorem OutP.keep {w A B:World} {n:Nat} {row:Option Nat} {S:Nat} {u u':Value} {M:List Pt} (h:OutP w A n row S u M) (hg:A.grownBy B u.ownBlock) {T:Nat->Prop} (hT:∀ b,T b->b ≠ S/\b < n):KeepO T A (B.setCell ⟨S,0,none⟩ u'):=
 (KeepO.grown hg (fun b hb e=>by have:=(h.own.lt b e.symm).1;have:=(hT b hb).2;omega)).trans ⟨by simp [World.setCell],fun b hb _=>Below.heap_setCell _ _ _ b (hT b hb).1⟩
def firsts (enc:Nat->Pt) (k:Nat):List Pt:=(List.range k).map enc
theorem firsts_succ (enc:Nat->Pt) (k:Nat):firsts enc (k + 1) = firsts enc k ++ [enc k]:=by simp [firsts,List.range_succ]
theorem firsts_length (enc:Nat->Pt) (k:Nat):(firsts enc k).length = k:=by simp [firsts]
theorem firsts_map (Ls:List Pt) (f:Pt->Pt):firsts (fun k=>f (pt Ls k)) Ls.length = Ls.map f:=by
 unfold firsts
 apply List.ext_getElem
 ·simp
 ·intro i h1 h2
  simp at h1 h2
  simp [pt,h2]
theorem gathered_any (gf:Nat) (lb:Array Value) (enc:Nat->Pt) (row:Option Nat) (S:Nat->Prop) (St:Nat->World->Prop) (N:Nat) (w:World) (eg:∀ args w,(callFunc gf args).run Tryz.prog w = .ok (.enter gf args) w)
  (hT:∀ W,Below w.heap.size w W->TellsN 8 Tryz.prog gf lb (fun k=>#[(enc k).v]) row S St N W) (hS:∀ b,S b->b < w.heap.size) (hrow:∀ r,row = some r->r < w.heap.size)
  (hSt:∀ k A B r2,St k A->A.grownBy B r2->(∀ r,r2 = some r->w.heap.size <= r)->St k B) (hN:N < 1099511627776) :
  Calls Tryz.prog 15 #[.func (.func gf) #[] lb] w fun e W=>∃ u,e = .returned u/\W.ownsRow w.heap.size 23 3 u N (fl3 (firsts enc N))/\w.grownBy W row/\St N W:=by
 refine (callsIn_wide (n:=9)).1 ?_
 have h1:1 <= 9:=by omega
 obtain ⟨i0,hii,hiz,hisz,hib⟩:=info_parts point_info
 have HI:Hid _:=And.intro hii (And.intro hiz (And.intro hisz hib))
 clear hii hiz hisz hib
 refine callsIn_of_wp_marks Tryz.func15 rfl trivial ?_ rfl
 simp only [Tryz.ntmps15,List.size_toArray,List.length_cons,List.length_nil,Nat.reduceAdd,Nat.reduceSub,Array.replicate_succ,Array.replicate_zero,List.push_toArray,List.append_toArray,List.nil_append,List.cons_append]
 gi_wp2
 obtain ⟨S0,hS0⟩:∃ n,n = w.heap.size:=⟨_,rfl⟩
 obtain ⟨W0,hW0⟩:∃ W0,W0 = w.alloc (.cells #[.slice none 0 0] 24):=⟨_,rfl⟩
 have hsz:W0.heap.size = S0 + 1:=by rw [hW0,hS0];simp
 have hB0:Hid (Below w.heap.size w W0):=by show Below _ _ _;rw [hW0];exact n_after _ _
 have bx0:Boxed W0 S0 24 (.slice none 0 0):=by rw [hW0,hS0];exact Boxed.new w _ _
 rw [<- hW0,<- hS0]
 have hSl:w.heap.size = S0:=hS0.symm
 clear hW0 hS0
 refine' range_n h1 (gf:=gf) (lb:=lb) rfl eg (S:=S) (St:=St) (hT W0 hB0.out) (fun b h=>by have:=hS b h;omega) (fun r e=>by have:=hrow r e;omega) (fun k A B r2 hs hg hr=>hSt k A B r2 hs hg (fun r e=>by have:=(hr r e).1;omega)) (fun _=>rfl)
  (fun k V=>∃ u,OutP w V W0.heap.size row S0 u (firsts enc k)) (fun _ _ _=>False)
  (fun k A B r2 hs hg hr=>hs.elim fun u h=>⟨u,h.kept (by omega) hg hr⟩) (fun _ _ _ _ _ hs _ _=>hs)
  (fun k A B hs hg=>hs.elim fun u h=>⟨u,h.turn hg hrow⟩) ⟨_,bx0,World.ownsRow_nil _ _ _ _,below_grown hB0.out row,by omega,by omega,Nat.le_refl _⟩ _ (fun k=>some (.cells #[.int .i64 (enc k).x,.int .i64 (enc k).y,.int .i64 (enc k).z] 23)) ?assign ?body ?done ?stop
 case assign =>
  intro l k W nb K hk hnb hK
  unfold Pt.v
  gi_wp2
  rw [<- hnb]
  exact hK
 case body =>
  rintro l k V nb hk ⟨u,hO⟩ hnb hob
  have hob:=hob _ rfl
  have hlp:(firsts enc k).length < 1099511627776:=by rw [firsts_length];omega
  have b0:V.cell? ⟨nb,0,none⟩ = some (.int .i64 (enc k).x):=by simp [World.cell?,hob]
  have b1:V.cell? ⟨nb,1,none⟩ = some (.int .i64 (enc k).y):=by simp [World.cell?,hob]
  have b2:V.cell? ⟨nb,2,none⟩ = some (.int .i64 (enc k).z):=by simp [World.cell?,hob]
  have hc:=hO.box.cell
  have hSV:S0 < V.heap.size:=hO.box.lt
  have hwV:W0.heap.size <= V.heap.size:=hO.sz
  obtain ⟨oo,cc,hu⟩:=rowp_form hO.own
  subst hu
  have HPA:Hid (firsts enc (k + 1) = firsts enc k ++ [⟨(enc k).x,(enc k).y,(enc k).z⟩]):=firsts_succ enc k
  have HO:Hid _:=hO
  clear hO hob
  generalize (enc k).x = px at *
  generalize (enc k).y = py at *
  generalize (enc k).z = pz at *
  gi_wp2_with (gi_at_builtin;refine wpListIn_append_own _ rfl _ _ 24 rfl W0.heap.size 23 i0 _ 3 24 Tryz.underlying24 HI.out.1 HI.out.2.1 HI.out.2.2.1 HI.out.2.2.2 rfl (by decide) _ _ _ rfl (HO.out.alloc (.cells #[.int .i64 px,.int .i64 py,.int .i64 pz] 23)).own ⟨V.heap.size,0,none⟩ 1 1 [.int .i64 px,.int .i64 py,.int .i64 pz] rfl rfl (news_at (heap_alloc_new V _)) (by intro u hu;simp at hu;rcases hu with rfl | rfl | rfl <;> rfl) (by unfold maxLen;omega) (by omega) (by simp;omega) ?_;intro u' V2 r8 g8 _;obtain ⟨gg8,kk8,rfl⟩:=ownsRow_succ r8;obtain ⟨hO2,hbx2⟩:=(HO.out.alloc (.cells #[.int .i64 px,.int .i64 py,.int .i64 pz] 23)).app (p:=⟨px,py,pz⟩) r8 g8;have q1:=hbx2.cell;have q2:=hbx2.frozen)
  rw [<- HPA.out] at hO2
  exact ⟨((KeepsOthers.alloc V _).from _).trans ((HO.out.alloc _).keepsFrom g8 _),(KeepO.alloc _ V _).trans ((HO.out.alloc _).keep g8 (fun b hb=>⟨by have:=hS b hb;omega,by have:=hS b hb;omega⟩)),_,hO2⟩
 case done =>
  rintro D V hD ⟨u,hO⟩ hs hK
  have hc:=hO.box.cell
  gi_wp2
  refine ⟨by simp,.inl ⟨_,_,rfl,run_takeDeferred hK,?_⟩⟩
  have hO2:=hO.kept (n2:=w.heap.size) (Nat.le_refl _) (grownBy_putObj' V D (.deferred none)) (fun r e=>by cases e;exact ⟨by omega,_,hK,rfl⟩)
  have hr2:=own_le hO2.own hO2.ln
  rw [firsts_length] at hr2
  exact ⟨_,results_tmp rfl _ _ _,u,rfl,hr2,hO2.grown,hSt N V _ _ hs (grownBy_putObj' V D (.deferred none)) (fun r e=>by cases e;omega)⟩
 case stop =>
  rintro D c k V _ _ h _
  exact h.elim
end
section
open Go.RowKit Go.Shelf
theorem win_in (p:Pt) (m:Int) (h1:0 <= m) (h2:m <= 9223372036854775807):p.win m = p.inB m:=by
 have e:IntKind.i64.wrap (-m) = -m:=by rw [IntKind.wrap_i64];omega
 unfold Pt.win Pt.le
 rw [e,Bool.eq_iff_iff,Pt.inB_iff]
 simp only [Bool.and_eq_true,decide_eq_true_eq]
 omega
def longF:Nat->Pt->Pt
 | 0,p=>p
 | n + 1,p=>if p.inB 524288 then longF n (p.plus p) else p
def Pt.long (p:Pt):Pt:=if p = Pt.O then p else longF 20 p
def Pt.big (p:Pt) (n:Nat):Prop:=2 ^ n <= p.x.natAbs \/ 2 ^ n <= p.y.natAbs \/ 2 ^ n <= p.z.natAbs
theorem big_lt {q:Pt} {g:Nat} (hq:q.inB 524288 = true) (hb:q.big (20 - g)):1 <= g:=by
 rw [Pt.inB_iff] at hq
 rcases Nat.eq_zero_or_pos g with rfl | h
 ·unfold Pt.big at hb
  simp only [Nat.sub_zero,Nat.reducePow] at hb
  omega
 ·exact h
theorem long_step {q:Pt} {g:Nat} (hq:q.inB 524288 = true) (hb:q.big (20 - (g + 1))) (hg:g + 1 <= 20):longF (g + 1) q = longF g (q.plus q)/\(q.plus q).big (20 - g)/\q.plus q = ⟨2 * q.x,2 * q.y,2 * q.z⟩:=by
 have hI:=(Pt.inB_iff _ _).1 hq
 have e:q.plus q = ⟨2 * q.x,2 * q.y,2 * q.z⟩:=by
  unfold Pt.plus
  congr 1
  ·rw [IntKind.wrap_i64];omega
  ·rw [IntKind.wrap_i64];omega
  ·rw [IntKind.wrap_i64];omega
 refine ⟨by simp [longF,hq],?_,e⟩
 rw [e]
 unfold Pt.big at *
 have:20 - g = (20 - (g + 1)) + 1:=by omega
 rw [this,Nat.pow_succ]
 dsimp only
 omega
theorem big_zero {p:Pt} (h:p ≠ Pt.O):p.big 0:=by
 unfold Pt.big
 apply Classical.byContradiction
 intro hn
 apply h
 obtain ⟨x,y,z⟩:=p
 simp only [Nat.pow_zero] at hn
 have h1:x = 0:=by omega
 have h2:y = 0:=by omega
 have h3:z = 0:=by omega
 rw [h1,h2,h3];rfl
theorem long_any (p:Pt) (w0:World) :
  Calls Tryz.prog 81 #[p.v] w0 fun e W=>e = .returned p.long.v/\Below w0.heap.size w0 W:=by
 have HX:Hid (∀ q:Pt,∀ w',Calls Tryz.prog 44 #[q.v,.int .i64 524288] w' fun e W=>e = .returned (.bool (q.inB 524288))/\Below w'.heap.size w' W):=fun q w'=>(pwithin_any q 524288 w').mono fun e W h=>by rw [win_in _ _ (by decide) (by decide)] at h;exact h
 have HP:Hid (∀ q:Pt,∀ w',Calls Tryz.prog 59 #[q.v,q.v] w' fun e W=>e = .returned (q.plus q).v/\Below w'.heap.size w' W):=fun q w'=>pplus_any q q w'
 have bx0:Hid (Box3 ((w0.alloc (.cells #[.int .i64 p.x,.int .i64 p.y,.int .i64 p.z] 23)).alloc (.cells #[.int .i64 0,.int .i64 0,.int .i64 0] 23)) w0.heap.size p):=(Box3.new w0 p.x p.y p.z _).step (n_after _ _)
 have bx1:Hid (Box3 ((w0.alloc (.cells #[.int .i64 p.x,.int .i64 p.y,.int .i64 p.z] 23)).alloc (.cells #[.int .i64 0,.int .i64 0,.int .i64 0] 23)) (w0.heap.size + 1) Pt.O):=by have:=Box3.new (w0.alloc (.cells #[.int .i64 p.x,.int .i64 p.y,.int .i64 p.z] 23)) 0 0 0 23;rwa [World.size_alloc] at this
 have hB0:Hid (Below w0.heap.size w0 ((w0.alloc (.cells #[.int .i64 p.x,.int .i64 p.y,.int .i64 p.z] 23)).alloc (.cells #[.int .i64 0,.int .i64 0,.int .i64 0] 23))):=b_step (n_after w0 _) (n_after _ _)
 by_cases hz:p = Pt.O
 ·have e9:p.long = Pt.O:=by unfold Pt.long;rw [if_pos hz];exact hz
  rw [e9]
  subst hz
  unfold Pt.v Pt.O
  dsimp only
  clear bx0 bx1 e9 HX HP
  go_enter Tryz.func81,Tryz.ntmps81
  go_wp2_with (fail)
  refine bodyPost_ret (v:=.agg #[.int .i64 0,.int .i64 0,.int .i64 0]) (by simp [results,Tryz.results81,go_sem]) rfl ⟨rfl,?_⟩
  exact b_step (n_after _ _) (n_after _ _)
 ·have e9:p.long = longF 20 p:=by unfold Pt.long;rw [if_neg hz]
  obtain ⟨r,hr⟩:∃ r,p.long = r:=⟨_,rfl⟩
  rw [hr]
  have HR:Hid (r = longF 20 p):=by show _ = _;rw [<- hr];exact e9
  have HB0:Hid (p.big (20 - 20)):=big_zero hz
  have hz3:p.x = 0->p.y = 0->¬ p.z = 0:=fun a b c=>hz (by cases p;simp only [Pt.O] at *;simp [a,b,c])
  clear hr e9 hz
  unfold Pt.v at *
  go_enter Tryz.func81,Tryz.ntmps81
  go_upto_region 1 with fail
  obtain ⟨W1,hW1⟩:∃ W1,W1 = ((w0.alloc (.cells #[.int .i64 p.x,.int .i64 p.y,.int .i64 p.z] 23)).alloc (.cells #[.int .i64 0,.int .i64 0,.int .i64 0] 23)):=⟨_,rfl⟩
  rw [<- hW1] at bx0 bx1 hB0 ⊢
  clear hW1
  obtain ⟨av,hav⟩:∃ av,av = Value.agg #[.int .i64 p.x,.int .i64 p.y,.int .i64 p.z]:=⟨_,rfl⟩
  rw [<- hav]
  clear hav
  obtain ⟨c0,c1,c2,f0,f1,f2⟩:=bx0.out
  go_cut [5] from 3 (fun s5 wx=>s5 = .bool false/\wx = W1)
  case first =>
   go_wp2_with (fail)
   all_goals first
    | (exfalso;exact hz3 (by assumption) (by assumption) (by assumption))
    | (go_meet;case rel=>exact ⟨rfl,rfl⟩)
  case rest =>
   obtain ⟨rfl,e9⟩:=hcut
   subst e9
   clear hz3 c0 c1 c2 f0 f1 f2
   go_wp2_with (fail)
   go_loopg [] 20 (fun g wr=>∃ q:Pt,Hid (Box3 wr w0.heap.size q)/\Hid (Box3 wr (w0.heap.size + 1) Pt.O)/\Hid (Below w0.heap.size w0 wr)/\g <= 20/\Hid (longF g q = longF 20 p)/\Hid (q.big (20 - g)))
   case atStart=>exact ⟨p,bx0,bx1,hB0,Nat.le_refl _,rfl,HB0⟩
   case round =>
    clear bx0 bx1 hB0 HB0
    obtain ⟨q,b0,b1,hB,hg,HF,HI⟩:=hrel
    have hG:Hid _:=hg
    clear hg
    obtain ⟨c0,c1,c2,f0,f1,f2⟩:=b0.out
    go_wp2_with (fail)
    refine Calls.mono (HX.out q _) ?_
    rintro e V3 ⟨rfl,hb⟩
    clear c0 c1 c2 f0 f1 f2
    have b0:Hid _:=b0.out.step hb
    have b1:Hid _:=b1.out.step hb
    have hB:Hid _:=b_step hB.out hb
    clear hb
    cases hq:q.inB 524288 with
    | true =>
     have h1g:=big_lt hq HI.out
     obtain ⟨g',hg'⟩:∃ g',gk = g' + 1:=⟨gk - 1,by omega⟩
     subst hg'
     obtain ⟨s1,s2,s3⟩:=long_step hq HI.out hG.out
     have HJ:Hid _:=And.intro s1 (And.intro s2 s3)
     have HP2:Hid _:=HP.out q
     clear s1 s2 s3 h1g
     obtain ⟨c0,c1,c2,f0,f1,f2⟩:=b0.out
     go_wp2_with (fail)
     refine Calls.mono (HP2.out _) ?_
     rintro e V4 ⟨rfl,hb⟩
     clear HP2
     have b9:Hid (Box3 (set3 V4 w0.heap.size (q.plus q).x (q.plus q).y (q.plus q).z) w0.heap.size (q.plus q)):=(b0.out.step hb).set _ _ _
     have b8:Hid (Box3 (set3 V4 w0.heap.size (q.plus q).x (q.plus q).y (q.plus q).z) (w0.heap.size + 1) Pt.O):=(b1.out.step hb).other (by omega) _ _ _
     have hB9:Hid (Below w0.heap.size w0 (set3 V4 w0.heap.size (q.plus q).x (q.plus q).y (q.plus q).z)):=set3_below (b_step hB.out hb) (Nat.le_refl _) _ _ _
     have d0:=c_after hb c0
     have d1:=c_after hb c1
     have d2:=c_after hb c2
     have f0:=f_after hb c0 f0
     have f1:=f_after hb c1 f1
     have f2:=f_after hb c2 f2
     unfold set3 at b9 b8 hB9
     clear hb c0 c1 c2 b0 b1 hB
     go_wp2_with (fail)
     go_roundg g'
     case rel=>exact ⟨q.plus q,b9,b8,hB9,by have:=hG.out;omega,by show _ = _;rw [<- HJ.out.1];exact HF.out,HJ.out.2.1⟩
     case measure=>omega
    | false =>
     have e9:r = q:=by rw [HR.out,<- HF.out];cases gk <;> simp [longF,hq]
     subst e9
     obtain ⟨c0,c1,c2,f0,f1,f2⟩:=b0.out
     obtain ⟨c3,c4,c5,f3,f4,f5⟩:=b1.out
     simp only [Pt.O] at c3 c4 c5
     go_wp2_with (fail)
     refine bodyPost_ret (v:=.agg #[.int .i64 r.x,.int .i64 r.y,.int .i64 r.z]) (by simp [results,Tryz.results81,go_sem,c3,c4,c5]) rfl ⟨rfl,?_⟩
     exact set3_below hB.out (by omega) r.x r.y r.z
def M9.dirT (m:M9) (p:Pt):Pt:=(m.turn (p.long.times 4096)).getD Pt.O
def Pt.quo (p:Pt) (n:Int):Pt:=⟨wrap64 (p.x.tdiv n),wrap64 (p.y.tdiv n),wrap64 (p.z.tdiv n)⟩
def M9.dirV (m:M9) (p:Pt):Pt:=((m.dirT p).quo 4096).short
def M9.dirB (m:M9) (p:Pt):Bool:=(m.turn (p.long.times 4096)).isNone
theorem direction_any (fb:Nat) (f:Bool) (m:M9) (t p:Pt) (w0:World) (hF:Cells w0 fb (frL f m t)) :
  Calls Tryz.prog 41 #[.pointer (some ⟨fb,0,none⟩),p.v] w0 fun e W=>e = .returned (m.dirV p).v/\Hid (After ⟨fb,0,none⟩ (f || m.dirB p) w0 W):=by
 have HL:Hid _:=fun w'=>long_any p w'
 have HT:Hid _:=fun (w:World) (g:Bool)=>turned_any fb g m t p.long 4096 w
 have HS:Hid _:=fun w'=>short_any ((m.dirT p).quo 4096) w'
 have hlt:=hF.lt
 rw [show (m.turn (p.long.times 4096)).getD Pt.O = m.dirT p from rfl,show (m.turn (p.long.times 4096)).isNone = m.dirB p from rfl] at HT
 rw [show m.dirV p = ((m.dirT p).quo 4096).short from rfl]
 generalize ((m.dirT p).quo 4096).short = r at *
 rw [show (m.dirT p).quo 4096 = ⟨wrap64 ((m.dirT p).x.tdiv 4096),wrap64 ((m.dirT p).y.tdiv 4096),wrap64 ((m.dirT p).z.tdiv 4096)⟩ from rfl] at HS
 generalize m.dirT p = q at *
 generalize m.dirB p = bd at *
 generalize p.long = pl at *
 have hF0:Hid _:=hF
 clear hF
 obtain ⟨x,y,z⟩:=p
 obtain ⟨x1,y1,z1⟩:=pl
 obtain ⟨x2,y2,z2⟩:=q
 obtain ⟨x3,y3,z3⟩:=r
 unfold Pt.v at *
 dsimp only at *
 go_enter Tryz.func41,Tryz.ntmps41
 go_wp2_with (fail)
 obtain ⟨V,hV⟩:∃ V:World,V = (w0.alloc (.cells #[.int .i64 x,.int .i64 y,.int .i64 z] 23)).alloc (.cells #[.int .i64 0,.int .i64 0,.int .i64 0] 23):=⟨_,rfl⟩
 obtain ⟨pb,hpb⟩:∃ b,b = w0.heap.size:=⟨_,rfl⟩
 obtain ⟨ob,hob'⟩:∃ b,b = w0.heap.size + 1:=⟨_,rfl⟩
 have hBV:Hid (Below w0.heap.size w0 V):=by show Below _ _ _;rw [hV];exact b_step (n_after _ _) (n_after _ _)
 have B2:Hid (Box3 V ob Pt.O):=by show Box3 _ _ _;rw [hV,hob'];have:=Box3.new (w0.alloc (.cells #[.int .i64 x,.int .i64 y,.int .i64 z] 23)) 0 0 0 23;rwa [World.size_alloc] at this
 rw [<- hV,<- hob',<- hpb]
 have hob:w0.heap.size <= ob:=by omega
 have hof:ob ≠ fb:=by omega
 clear hV hpb hob'
 refine Calls.mono (HL.out _) ?_
 rintro e V1 ⟨rfl,hb⟩
 have G1:Hid (FQ w0 fb f m t V1):=(FQ.start hF0.out hBV.out).step hb
 have B2:Hid _:=B2.out.step hb
 clear hb hBV HL
 go_wp2_with (fail)
 refine Calls.mono (HT.out _ _ G1.out.fr) ?_
 rintro e V2 ⟨rfl,A⟩
 have G2:Hid (FQ w0 fb (f || bd) m t V2):=G1.out.after A.out
 have B2:Hid _:=B2.out.after A.out hof
 clear A G1 HT
 go_wp2_with (fail)
 refine Calls.mono (HS.out _) ?_
 rintro e V3 ⟨rfl,hb⟩
 have G3:Hid (FQ w0 fb (f || bd) m t V3):=(G2.out.step (n_after _ _)).step hb
 have B3:Hid _:=(B2.out.step (n_after _ _)).step hb
 clear hb G2 B2 HS
 obtain ⟨c0,c1,c2,f0,f1,f2⟩:=B3.out
 simp only [Pt.O] at c0 c1 c2
 go_wp2_with (fail)
 refine bodyPost_ret (v:=.agg #[.int .i64 x3,.int .i64 y3,.int .i64 z3]) (by simp [results,Tryz.results41,go_sem,c0,c1,c2]) rfl ⟨rfl,?_⟩
 exact (G3.out.set3 x3 y3 z3 hob hof).done
def M9.dirs (m:M9) (A:List Pt):List Pt:=(A.map m.dirV).filter (fun p=>decide (p ≠ Pt.O))
def dirsK (enc:Nat->Pt) (k:Nat):List Pt:=(firsts enc k).filter (fun p=>decide (p ≠ Pt.O))
theorem dirsK_yes (enc:Nat->Pt) (k:Nat) (h:enc k ≠ Pt.O):dirsK enc (k + 1) = dirsK enc k ++ [enc k]:=by unfold dirsK;rw [firsts_succ,List.filter_append];simp [h]
theorem dirsK_no (enc:Nat->Pt) (k:Nat) (h:enc k = Pt.O):dirsK enc (k + 1) = dirsK enc k:=by unfold dirsK;rw [firsts_succ,List.filter_append];simp [h]
theorem dirsK_length (enc:Nat->Pt) (k:Nat):(dirsK enc k).length <= k:=by have:=List.length_filter_le (fun p=>decide (p ≠ Pt.O)) (firsts enc k);rw [firsts_length] at this;exact this
def anyK (f:Nat->Bool):Nat->Bool
 | 0=>false
 | k + 1=>anyK f k || f k
theorem anyK_any (Ls:List Pt) (f:Pt->Bool):anyK (fun k=>f (pt Ls k)) Ls.length = Ls.any f:=by
 have key:∀ k,k <= Ls.length->anyK (fun k=>f (pt Ls k)) k = (Ls.take k).any f:=by
  intro k
  induction k with
  | zero=>intro _;simp [anyK]
  | succ k ih =>
   intro hk
   rw [List.take_succ_eq_append_getElem (by omega),List.any_append,<- ih (by omega)]
   simp [anyK,pt,List.getElem?_eq_getElem (show k < Ls.length by omega)]
 rw [key _ (Nat.le_refl _),List.take_length]
theorem after_grown {W W':World} {b:Nat} {g:Bool} (A:After ⟨b,0,none⟩ g W W'):W.grownBy W' (some b):=⟨A.kept.1,A.kept.2.1,A.kept.2.2.1,A.size,fun k hk hn=>A.kept.2.2.2 k hk (fun e=>hn (by rw [e]))⟩
end
section
open Go.RowKit Go.Shelf
attribute [local go_sem] Oper.semAt_some
theorem directions_any (fb:Nat) (f:Bool) (m:M9) (t:Pt) (Ls:List Pt) (v:Value) (w:World) (hF:Cells w fb (frL f m t)) (hv:Lies w v Ls) (hne:∀ q n c,v = .slice (some q) n c->Ls ≠ []->q.block ≠ fb) (hN:Ls.length < 1099511627776) :
  Calls Tryz.prog 18 #[.pointer (some ⟨fb,0,none⟩),v] w fun e W=>∃ u,e = .returned u/\W.ownsRow w.heap.size 23 3 u (m.dirs Ls).length (fl3 (m.dirs Ls))/\w.grownBy W (some fb)/\Cells W fb (frL (f || Ls.any m.dirB) m t):=by
 obtain ⟨o,cap,rfl,hlc,hcm,hcell⟩:=hv.form
 have HV:Hid _:=hv
 have hlt:=hF.lt
 clear hv hcell
 refine (callsIn_wide (n:=9)).1 ?_
 have h1:1 <= 9:=by omega
 obtain ⟨i0,hii,hiz,hisz,hib⟩:=info_parts point_info
 have HI:Hid _:=And.intro hii (And.intro hiz (And.intro hisz hib))
 clear hii hiz hisz hib
 refine callsIn_of_wp_marks Tryz.func18 rfl trivial ?_ rfl
 simp only [Tryz.ntmps18,List.size_toArray,List.length_cons,List.length_nil,Nat.reduceAdd,Nat.reduceSub,Array.replicate_succ,Array.replicate_zero,List.push_toArray,List.append_toArray,List.nil_append,List.cons_append]
 gi_wp2_with (refine ⟨trivial,?_⟩;gi_at_call 16;refine (callsIn_wide.2 (each_in_pt _ _ _ _ _ _ _)).mono ?_;rintro e w' ⟨rfl,rfl⟩)
 obtain ⟨S0,hS0⟩:∃ n,n = w.heap.size:=⟨_,rfl⟩
 obtain ⟨W0,hW0⟩:∃ W0,W0 = ((w.alloc (.cells #[.slice none 0 0] 24)).alloc (.cells #[.slice o Ls.length cap] 24)).alloc (.cells #[.func (.func 41) #[.pointer (some ⟨fb,0,none⟩)] #[]] 56):=⟨_,rfl⟩
 have hsz:W0.heap.size = S0 + 3:=by rw [hW0,hS0];simp
 have hB0:Hid (Below w.heap.size w W0):=by show Below _ _ _;rw [hW0];exact b_step (b_step (n_after _ _) (n_after _ _)) (n_after _ _)
 have bx0:Boxed W0 S0 24 (.slice none 0 0):=by rw [hW0,hS0];exact ((Boxed.new w _ _).alloc _).alloc _
 have cp:W0.cell? ⟨S0 + 1,0,none⟩ = some (.slice o Ls.length cap):=by rw [hW0,hS0];simp [go_sem]
 have cf:W0.cell? ⟨S0 + 1 + 1,0,none⟩ = some (.func (.func 41) #[.pointer (some ⟨fb,0,none⟩)] #[]):=by rw [hW0,hS0];simp [go_sem]
 rw [<- hW0,<- hS0]
 have hSl:w.heap.size = S0:=hS0.symm
 clear hW0 hS0
 have HV0:Hid _:=HV.out.below hB0.out
 have hF0:=hF.step hB0.out
 have hblk:Hid (∀ q,o = some q->Ls ≠ []->q.block < w.heap.size):=fun q e hne=>by
  obtain ⟨o',c',e',_,_,h9⟩:=HV.out.form
  cases e'
  obtain ⟨g,off,e2,x0,_⟩:=h9 0 (List.length_pos_iff.2 hne)
  rw [e] at e2;cases e2
  exact World.block_lt_of_cell? _ _ x0
 refine' range_n h1 (gf:=38) (lb:=#[.pointer (some ⟨S0 + 1,0,none⟩),.pointer (some ⟨S0 + 1 + 1,0,none⟩)]) rfl (enters_of Tryz.func38 (by kernel_rfl) rfl)
  (row:=some fb) (S:=fun b=>b < W0.heap.size/\b ≠ S0) (St:=fun k V=>Cells V fb (frL (f || anyK (fun k=>m.dirB (pt Ls k)) k) m t))
  (each_tells_pt (9 - 1) (S0 + 1) (S0 + 1 + 1) Ls o cap 41 #[.pointer (some ⟨fb,0,none⟩)] #[] (fun k=>(m.dirV (pt Ls k)).v) (some fb) (fun b=>b < W0.heap.size/\b ≠ S0) (fun k V=>Cells V fb (frL (f || anyK (fun k=>m.dirB (pt Ls k)) k) m t)) W0
   (enters_of Tryz.func41 (by kernel_rfl) rfl) HV0.out cp cf ?blk ⟨⟨by omega,by omega⟩,fun e=>by simp at e;omega⟩ (fun _ h=>h.1)
   (fun W hb=>by simpa [anyK] using hF0.step hb) (fun k A B hs hk=>Cells.keepO hs hk ⟨by show fb < _;omega,by show fb ≠ _;omega⟩)
   (fun k V hk hs=>(direction_any fb _ m t (pt Ls k) V hs).mono fun e V' h=>⟨h.1,after_grown h.2.out,by have h9:=Cells.after hs h.2.out;rw [Bool.or_assoc] at h9;exact h9⟩))
  (fun _ h=>h.1) (fun r e=>by cases e;omega) ?st (fun _=>rfl)
  (fun k V=>∃ u,OutP w V W0.heap.size (some fb) S0 u (dirsK (fun k=>m.dirV (pt Ls k)) k)) (fun _ _ _=>False)
  (fun k A B r2 hs hg hr=>hs.elim fun u h=>⟨u,h.kept (by omega) hg hr⟩) (fun _ _ _ _ _ hs _ _=>hs)
  (fun k A B hs hg=>hs.elim fun u h=>⟨u,h.turn hg (fun r e=>by cases e;exact hlt)⟩) ⟨_,bx0,World.ownsRow_nil _ _ _ _,below_grown hB0.out _,by omega,by omega,Nat.le_refl _⟩ _ (fun k=>some (.cells #[.int .i64 (m.dirV (pt Ls k)).x,.int .i64 (m.dirV (pt Ls k)).y,.int .i64 (m.dirV (pt Ls k)).z] 23)) ?assign ?body ?done ?stop
 case blk=>exact fun q e hne'=>⟨⟨by have:=hblk.out q e hne';omega,by have:=hblk.out q e hne';omega⟩,fun e9=>hne q _ _ (by rw [e]) hne' (by simpa using e9)⟩
 case st=>exact fun k A B r2 hs hg hr=>Cells.grew hs hg (fun r e=>by have:=(hr r e).1;omega)
 case assign =>
  intro l k W nb K hk hnb hK
  unfold Pt.v
  gi_wp2
  rw [<- hnb]
  exact hK
 case body =>
  rintro l k V nb hk ⟨u,hO⟩ hnb hob
  have hob:=hob _ rfl
  have hlp:(dirsK (fun k=>m.dirV (pt Ls k)) k).length < 1099511627776:=by have:=dirsK_length (fun k=>m.dirV (pt Ls k)) k;omega
  have b0:V.cell? ⟨nb,0,none⟩ = some (.int .i64 (m.dirV (pt Ls k)).x):=by simp [World.cell?,hob]
  have b1:V.cell? ⟨nb,1,none⟩ = some (.int .i64 (m.dirV (pt Ls k)).y):=by simp [World.cell?,hob]
  have b2:V.cell? ⟨nb,2,none⟩ = some (.int .i64 (m.dirV (pt Ls k)).z):=by simp [World.cell?,hob]
  have hc:=hO.box.cell
  have hSV:S0 < V.heap.size:=hO.box.lt
  have hwV:W0.heap.size <= V.heap.size:=hO.sz
  obtain ⟨oo,cc,hu⟩:=rowp_form hO.own
  subst hu
  have HO:Hid _:=hO
  clear hO hob
  by_cases hz:m.dirV (pt Ls k) = Pt.O
  ·have HPA:Hid (dirsK (fun k=>m.dirV (pt Ls k)) (k + 1) = dirsK (fun k=>m.dirV (pt Ls k)) k):=dirsK_no _ _ hz
   rw [hz] at b0 b1 b2 ⊢
   simp only [Pt.O] at b0 b1 b2 ⊢
   clear hz
   gi_wp2
   exact ⟨KeepsFrom.refl _ _,KeepO.refl _ _,_,by rw [HPA.out];exact HO.out⟩
  ·have HPA:Hid (dirsK (fun k=>m.dirV (pt Ls k)) (k + 1) = dirsK (fun k=>m.dirV (pt Ls k)) k ++ [⟨(m.dirV (pt Ls k)).x,(m.dirV (pt Ls k)).y,(m.dirV (pt Ls k)).z⟩]):=dirsK_yes _ _ hz
   have hz3:(m.dirV (pt Ls k)).x = 0->(m.dirV (pt Ls k)).y = 0->(m.dirV (pt Ls k)).z ≠ 0:=fun a b c=>hz (by cases hp:m.dirV (pt Ls k);rw [hp] at a b c;simp only [Pt.O] at *;simp [a,b,c])
   clear hz
   generalize (m.dirV (pt Ls k)).x = px at *
   generalize (m.dirV (pt Ls k)).y = py at *
   generalize (m.dirV (pt Ls k)).z = pz at *
   by_cases hx:px = 0
   ·subst hx
    by_cases hy:py = 0
    ·subst hy
     have hzz:pz ≠ 0:=hz3 rfl rfl
     clear hz3
     gi_wp2_with (gi_at_builtin;refine wpListIn_append_own _ rfl _ _ 24 rfl W0.heap.size 23 i0 _ 3 24 Tryz.underlying24 HI.out.1 HI.out.2.1 HI.out.2.2.1 HI.out.2.2.2 rfl (by decide) _ _ _ rfl (HO.out.alloc (.cells #[.int .i64 0,.int .i64 0,.int .i64 pz] 23)).own ⟨V.heap.size,0,none⟩ 1 1 [.int .i64 0,.int .i64 0,.int .i64 pz] rfl rfl (news_at (heap_alloc_new V _)) (by intro u hu;simp at hu;rcases hu with rfl | rfl | rfl <;> rfl) (by unfold maxLen;omega) (by omega) (by simp;omega) ?_;intro u' V2 r8 g8 _;obtain ⟨gg8,kk8,rfl⟩:=ownsRow_succ r8;obtain ⟨hO2,hbx2⟩:=(HO.out.alloc (.cells #[.int .i64 0,.int .i64 0,.int .i64 pz] 23)).app (p:=⟨0,0,pz⟩) r8 g8;have q1:=hbx2.cell;have q2:=hbx2.frozen)
     rw [<- HPA.out] at hO2
     exact ⟨((KeepsOthers.alloc V _).from _).trans ((HO.out.alloc _).keepsFrom g8 _),(KeepO.alloc _ V _).trans ((HO.out.alloc _).keep g8 (fun b hb=>⟨hb.2,hb.1⟩)),_,hO2⟩
    ·clear hz3
     gi_wp2_with (gi_at_builtin;refine wpListIn_append_own _ rfl _ _ 24 rfl W0.heap.size 23 i0 _ 3 24 Tryz.underlying24 HI.out.1 HI.out.2.1 HI.out.2.2.1 HI.out.2.2.2 rfl (by decide) _ _ _ rfl (HO.out.alloc (.cells #[.int .i64 0,.int .i64 py,.int .i64 pz] 23)).own ⟨V.heap.size,0,none⟩ 1 1 [.int .i64 0,.int .i64 py,.int .i64 pz] rfl rfl (news_at (heap_alloc_new V _)) (by intro u hu;simp at hu;rcases hu with rfl | rfl | rfl <;> rfl) (by unfold maxLen;omega) (by omega) (by simp;omega) ?_;intro u' V2 r8 g8 _;obtain ⟨gg8,kk8,rfl⟩:=ownsRow_succ r8;obtain ⟨hO2,hbx2⟩:=(HO.out.alloc (.cells #[.int .i64 0,.int .i64 py,.int .i64 pz] 23)).app (p:=⟨0,py,pz⟩) r8 g8;have q1:=hbx2.cell;have q2:=hbx2.frozen)
     rw [<- HPA.out] at hO2
     exact ⟨((KeepsOthers.alloc V _).from _).trans ((HO.out.alloc _).keepsFrom g8 _),(KeepO.alloc _ V _).trans ((HO.out.alloc _).keep g8 (fun b hb=>⟨hb.2,hb.1⟩)),_,hO2⟩
   ·clear hz3
    gi_wp2_with (gi_at_builtin;refine wpListIn_append_own _ rfl _ _ 24 rfl W0.heap.size 23 i0 _ 3 24 Tryz.underlying24 HI.out.1 HI.out.2.1 HI.out.2.2.1 HI.out.2.2.2 rfl (by decide) _ _ _ rfl (HO.out.alloc (.cells #[.int .i64 px,.int .i64 py,.int .i64 pz] 23)).own ⟨V.heap.size,0,none⟩ 1 1 [.int .i64 px,.int .i64 py,.int .i64 pz] rfl rfl (news_at (heap_alloc_new V _)) (by intro u hu;simp at hu;rcases hu with rfl | rfl | rfl <;> rfl) (by unfold maxLen;omega) (by omega) (by simp;omega) ?_;intro u' V2 r8 g8 _;obtain ⟨gg8,kk8,rfl⟩:=ownsRow_succ r8;obtain ⟨hO2,hbx2⟩:=(HO.out.alloc (.cells #[.int .i64 px,.int .i64 py,.int .i64 pz] 23)).app (p:=⟨px,py,pz⟩) r8 g8;have q1:=hbx2.cell;have q2:=hbx2.frozen)
    rw [<- HPA.out] at hO2
    exact ⟨((KeepsOthers.alloc V _).from _).trans ((HO.out.alloc _).keepsFrom g8 _),(KeepO.alloc _ V _).trans ((HO.out.alloc _).keep g8 (fun b hb=>⟨hb.2,hb.1⟩)),_,hO2⟩
 case done =>
  rintro D V hD ⟨u,hO⟩ hs hK
  have hc:=hO.box.cell
  gi_wp2
  refine ⟨by simp,.inl ⟨_,_,rfl,run_takeDeferred hK,?_⟩⟩
  have hO2:=hO.kept (n2:=w.heap.size) (Nat.le_refl _) (grownBy_putObj' V D (.deferred none)) (fun r e=>by cases e;exact ⟨by omega,_,hK,rfl⟩)
  have hr2:=own_le hO2.own hO2.ln
  have e9:dirsK (fun k=>m.dirV (pt Ls k)) Ls.length = m.dirs Ls:=by unfold dirsK M9.dirs;rw [firsts_map]
  rw [e9] at hr2
  rw [anyK_any] at hs
  exact ⟨_,results_tmp rfl _ _ _,u,rfl,hr2,hO2.grown,Cells.grew hs (grownBy_putObj' V D (.deferred none)) (fun r e=>by cases e;omega)⟩
 case stop =>
  rintro D c k V _ _ h _
  exact h.elim
end
section
open Go.RowKit Go.Shelf
attribute [local go_sem] Oper.semAt_some
def Bx.l (b:Bx):List Value:=[.int .i64 b.lo.x,.int .i64 b.lo.y,.int .i64 b.lo.z,.int .i64 b.hi.x,.int .i64 b.hi.y,.int .i64 b.hi.z]
theorem around_any (p:Pt) (w:World) :
  Calls Tryz.prog 61 #[p.v] w fun e W=>e = .returned (Bx.v ⟨p,p⟩)/\Below w.heap.size w W:=by
 obtain ⟨x,y,z⟩:=p
 unfold Pt.v Bx.v
 dsimp only at *
 go_enter Tryz.func61,Tryz.ntmps61
 go_wp2
 refine bodyPost_ret (v:=.agg #[.int .i64 x,.int .i64 y,.int .i64 z,.int .i64 x,.int .i64 y,.int .i64 z]) (by simp [results,Tryz.results61,go_sem]) rfl ⟨rfl,?_⟩
 exact b_step (n_after w _) (n_after _ _)
def spanK (P:List Pt):Nat->Bx
 | 0=>⟨pt P 0,pt P 0⟩
 | k + 1=>(spanK P k).join ⟨pt P k,pt P k⟩
def spanP (P:List Pt) (r:Int):Bx:=if P = [] then ⟨Pt.O,Pt.O⟩ else (spanK P P.length).grown r
def set6 (W:World) (b:Nat) (q:Bx):World:=(((((W.setCell ⟨b,0,none⟩ (.int .i64 q.lo.x)).setCell ⟨b,1,none⟩ (.int .i64 q.lo.y)).setCell ⟨b,2,none⟩ (.int .i64 q.lo.z)).setCell ⟨b,3,none⟩ (.int .i64 q.hi.x)).setCell ⟨b,4,none⟩ (.int .i64 q.hi.y)).setCell ⟨b,5,none⟩ (.int .i64 q.hi.z)
theorem set6_cells {W:World} {b:Nat} {q:Bx} (h:Cells W b q.l) (r:Bx):Cells (set6 W b r) b r.l:=Cells.set6 h _ _ _ _ _ _
theorem set6_apart {W:World} {b b':Nat} {vs:List Value} (h:Cells W b vs) (hne:b ≠ b') (r:Bx):Cells (set6 W b' r) b vs:=((((((h.apart hne _ _).apart hne _ _).apart hne _ _).apart hne _ _).apart hne _ _).apart hne _ _)
theorem set6_below {n:Nat} {w W:World} {b:Nat} (h:Below n w W) (hb:n <= b) (r:Bx):Below n w (set6 W b r):=(((((h.setCell hb _).setCell hb _).setCell hb _).setCell hb _).setCell hb _).setCell hb _
theorem set6_keeps (W:World) (b n:Nat) (r:Bx):KeepsFrom n W (set6 W b r):=(((((((KeepsOthers.setCell W _ _).from n).trans ((KeepsOthers.setCell _ _ _).from n)).trans ((KeepsOthers.setCell _ _ _).from n)).trans ((KeepsOthers.setCell _ _ _).from n)).trans ((KeepsOthers.setCell _ _ _).from n)).trans ((KeepsOthers.setCell _ _ _).from n))
theorem set1_keepO {S:Nat->Prop} (W:World) (b o:Nat) (v:Value) (hb:¬ S b):KeepO S W (W.setCell ⟨b,o,none⟩ v):=⟨by simp [World.setCell],fun k hk _=>Below.heap_setCell _ _ _ k (fun e=>hb (by rw [show b = k from e.symm];exact hk))⟩
theorem set6_keepO {S:Nat->Prop} (W:World) (b:Nat) (r:Bx) (hb:¬ S b):KeepO S W (set6 W b r):=(((((set1_keepO W b 0 _ hb).trans (set1_keepO _ b 1 _ hb)).trans (set1_keepO _ b 2 _ hb)).trans (set1_keepO _ b 3 _ hb)).trans (set1_keepO _ b 4 _ hb)).trans (set1_keepO _ b 5 _ hb)
theorem span_any (P A E:List Pt) (r:Int) (pv av ev:Value) (w:World) (hp:Lies w pv P) (ha:Lies w av A) (he:Lies w ev E) :
  Calls Tryz.prog 28 #[coreV pv av ev r] w fun e W=>e = .returned (spanP P r).v/\Below w.heap.size w W:=by
 obtain ⟨o,cap,rfl,hlc,hcm,hcell⟩:=hp.form
 obtain ⟨oa,ca,rfl,_⟩:=ha.form
 obtain ⟨oe,ce,rfl,_⟩:=he.form
 have HV:Hid _:=hp
 clear hp ha he
 unfold coreV
 by_cases h0:P = []
 ·subst h0
  have e9:spanP [] r = ⟨Pt.O,Pt.O⟩:=by simp [spanP]
  rw [e9]
  unfold Bx.v Pt.O
  dsimp only
  clear hcell
  refine (callsIn_wide (n:=9)).1 ?_
  refine callsIn_of_wp_marks Tryz.func28 rfl trivial ?_ rfl
  simp only [Tryz.ntmps28,List.size_toArray,List.length_cons,List.length_nil,Nat.reduceAdd,Nat.reduceSub,Array.replicate_succ,Array.replicate_zero,List.push_toArray,List.append_toArray,List.nil_append,List.cons_append]
  gi_wp2
  exact ⟨.agg #[.int .i64 0,.int .i64 0,.int .i64 0,.int .i64 0,.int .i64 0,.int .i64 0],by simp [results,Tryz.results28,go_sem],rfl,b_step (n_after _ _) (n_after _ _)⟩
 ·have hlen:0 < P.length:=List.length_pos_iff.2 h0
  obtain ⟨g,off,rfl,x0,x1,x2⟩:=hcell 0 hlen
  have e9:spanP P r = (spanK P P.length).grown r:=by simp [spanP,h0]
  rw [e9]
  have HAR:Hid _:=fun w'=>around_any (pt P 0) w'
  have HG:Hid _:=fun w'=>grown_any (spanK P P.length) r w'
  simp only [Nat.zero_mul,Nat.add_zero] at x0 x1 x2
  have gx0:Hid _:=x0
  have HJ:Hid _:=fun (k:Nat) (w':World)=>join_any (spanK P k) ⟨pt P k,pt P k⟩ w'
  have e8:spanK P 0 = ⟨pt P 0,pt P 0⟩:=rfl
  rw [<- e8] at HAR
  unfold Pt.v at HAR
  refine (callsIn_wide (n:=9)).1 ?_
  have h1:1 <= 9:=by omega
  refine callsIn_of_wp_marks Tryz.func28 rfl trivial ?_ rfl
  simp only [Tryz.ntmps28,List.size_toArray,List.length_cons,List.length_nil,Nat.reduceAdd,Nat.reduceSub,Array.replicate_succ,Array.replicate_zero,List.push_toArray,List.append_toArray,List.nil_append,List.cons_append]
  obtain ⟨V,hV⟩:∃ V,V = (w.alloc (.cells #[.slice (some ⟨g,off,none⟩) P.length cap,.slice oa A.length ca,.slice oe E.length ce,.int .i64 r] 33)).alloc (.cells #[.int .i64 0,.int .i64 0,.int .i64 0,.int .i64 0,.int .i64 0,.int .i64 0] 73):=⟨_,rfl⟩
  have hBV:Hid (Below w.heap.size w V):=by show Below _ _ _;rw [hV];exact b_step (n_after _ _) (n_after _ _)
  have C1:Hid (Cells V w.heap.size [.slice (some ⟨g,off,none⟩) P.length cap,.slice oa A.length ca,.slice oe E.length ce,.int .i64 r]):=by show Cells _ _ _;rw [hV];exact (Cells.new w _ _).step (n_after _ _)
  have C2:Hid (Cells V (w.heap.size + 1) (Bx.l ⟨Pt.O,Pt.O⟩)):=by show Cells _ _ _;rw [hV];have:=Cells.new (w.alloc (.cells #[.slice (some ⟨g,off,none⟩) P.length cap,.slice oa A.length ca,.slice oe E.length ce,.int .i64 r] 33)) (Bx.l ⟨Pt.O,Pt.O⟩) 73;rwa [World.size_alloc] at this
  have y0:=c_after hBV.out x0
  have y1:=c_after hBV.out x1
  have y2:=c_after hBV.out x2
  rw [hV] at y0 y1 y2
  clear x0 x1 x2 e9
  gi_wp2
  rw [<- hV]
  refine ⟨trivial,?_⟩
  gi_at_call 61
  refine (callsIn_wide.2 (HAR.out _)).mono ?_
  rintro e V1 ⟨rfl,hb⟩
  have hB1:Hid _:=b_step hBV.out hb
  have D1:Hid _:=C1.out.step hb
  have D2:Hid _:=C2.out.step hb
  clear hV y0 y1 y2 C1 C2 hb hBV HAR
  have s0:=(D1.out 0 _ rfl).1
  have l1:w.heap.size < V1.heap.size:=Cells.lt D1.out
  have l2:w.heap.size + 1 < V1.heap.size:=Cells.lt D2.out
  clear e8
  obtain ⟨q0,hq0⟩:∃ q,q = spanK P 0:=⟨_,rfl⟩
  rw [<- hq0]
  have Hq0:Hid _:=hq0
  clear hq0
  unfold Bx.v
  gi_wp2_with (refine ⟨trivial,?_⟩;gi_at_call 62;refine (callsIn_wide.2 (each_in_box _ _ _ _ _ _ _)).mono ?_;rintro e w' ⟨rfl,rfl⟩)
  obtain ⟨bb,hbb⟩:∃ n,n = V1.heap.size:=⟨_,rfl⟩
  obtain ⟨W0,hW0⟩:∃ W0,W0 = ((V1.alloc (.cells #[.int .i64 q0.lo.x,.int .i64 q0.lo.y,.int .i64 q0.lo.z,.int .i64 q0.hi.x,.int .i64 q0.hi.y,.int .i64 q0.hi.z] 73)).alloc (.cells #[.slice (some ⟨g,off,none⟩) P.length cap] 24)).alloc (.cells #[.func (.func 61) #[] #[]] 101):=⟨_,rfl⟩
  have hsz:W0.heap.size = bb + 3:=by rw [hW0,hbb];simp
  have b9:Below V1.heap.size V1 W0:=by rw [hW0];exact b_step (b_step (n_after _ _) (n_after _ _)) (n_after _ _)
  have cb:Cells W0 bb q0.l:=by rw [hW0,hbb];exact ((Cells.new V1 q0.l _).step (n_after _ _)).step (n_after _ _)
  have cp:W0.cell? ⟨bb + 1,0,none⟩ = some (.slice (some ⟨g,off,none⟩) P.length cap):=by rw [hW0,hbb];simp [go_sem]
  have cf:W0.cell? ⟨bb + 1 + 1,0,none⟩ = some (.func (.func 61) #[] #[]):=by rw [hW0,hbb];simp [go_sem]
  rw [<- hW0,<- hbb]
  have hB0:Hid _:=b_step hB1.out b9
  have E1:Hid _:=Cells.step D1.out b9
  have E2:Hid _:=Cells.step D2.out b9
  have HV0:Hid _:=HV.out.below hB0.out
  have l3:w.heap.size + 1 < bb:=by omega
  have hgb:g < w.heap.size:=World.block_lt_of_cell? _ _ gx0.out
  clear hW0 hbb b9 D1 D2 hB1 s0 l1 l2
  rw [Hq0.out] at cb
  refine' range_n h1 (gf:=100) (lb:=#[.pointer (some ⟨bb + 1,0,none⟩),.pointer (some ⟨bb + 1 + 1,0,none⟩)]) rfl (enters_of Tryz.func100 (by kernel_rfl) rfl)
   (row:=none) (S:=fun b=>b < W0.heap.size/\b ≠ bb) (St:=fun _ _=>True)
   (each_tells_box (9 - 1) (bb + 1) (bb + 1 + 1) P _ cap 61 #[] #[] (fun k=>Bx.v ⟨pt P k,pt P k⟩) none (fun b=>b < W0.heap.size/\b ≠ bb) (fun _ _=>True) W0
    (enters_of Tryz.func61 (by kernel_rfl) rfl) HV0.out cp cf (fun q e _=>by cases e;exact ⟨⟨by show g < _;omega,by show g ≠ _;omega⟩,by simp⟩) ⟨⟨by omega,by omega⟩,by simp⟩ (fun _ h=>h.1)
    (fun _ _=>trivial) (fun _ _ _ _ _=>trivial)
    (fun k V hk hs=>(around_any (pt P k) V).mono fun e V' h=>⟨h.1,below_grown h.2 none,trivial⟩))
   (fun _ h=>h.1) (fun r e=>by cases e) (fun _ _ _ _ _ _ _=>trivial) (fun _=>rfl)
   (fun k V=>Below w.heap.size w V/\Cells V bb (spanK P k).l/\Cells V w.heap.size [.slice (some ⟨g,off,none⟩) P.length cap,.slice oa A.length ca,.slice oe E.length ce,.int .i64 r]/\Cells V (w.heap.size + 1) (Bx.l ⟨Pt.O,Pt.O⟩)) (fun _ _ _=>False)
   (fun k X Y r2 hs hg hr=>⟨gbelow hs.1 hg (fun r e=>(hr r e).1) (by omega),hs.2.1.grew hg (fun r e=>by have:=(hr r e).1;omega),hs.2.2.1.grew hg (fun r e=>by have:=(hr r e).1;omega),hs.2.2.2.grew hg (fun r e=>by have:=(hr r e).1;omega)⟩) (fun _ _ _ _ _ hs _ _=>hs)
   (fun k X Y hs hg=>⟨gbelow (n:=W0.heap.size) hs.1 hg (fun r e=>by cases e) (by omega),hs.2.1.grew hg (fun r e=>by cases e),hs.2.2.1.grew hg (fun r e=>by cases e),hs.2.2.2.grew hg (fun r e=>by cases e)⟩) ⟨hB0.out,cb,E1.out,E2.out⟩ _ (fun k=>some (.cells #[.int .i64 (pt P k).x,.int .i64 (pt P k).y,.int .i64 (pt P k).z,.int .i64 (pt P k).x,.int .i64 (pt P k).y,.int .i64 (pt P k).z] 73)) ?assign ?body ?done ?stop
  case assign =>
   intro l k W nb K hk hnb hK
   unfold Bx.v
   gi_wp2
   rw [<- hnb]
   exact hK
  case body =>
   rintro l k V nb hk ⟨hB,hb9,hc1,hc2⟩ hnb hob
   have hob:=hob _ rfl
   have HJk:Hid _:=HJ.out k
   have HK:Hid (spanK P (k + 1) = (spanK P k).join ⟨pt P k,pt P k⟩):=rfl
   obtain ⟨q2,hq2⟩:∃ q,(spanK P k).join ⟨pt P k,pt P k⟩ = q:=⟨_,rfl⟩
   rw [hq2] at HJk HK
   clear hq2
   obtain ⟨q1,hq1⟩:∃ q,spanK P k = q:=⟨_,rfl⟩
   rw [hq1] at HJk hb9
   clear hq1
   have v0:V.cell? ⟨nb,0,none⟩ = some (.int .i64 (pt P k).x):=by simp [World.cell?,hob]
   have v1:V.cell? ⟨nb,1,none⟩ = some (.int .i64 (pt P k).y):=by simp [World.cell?,hob]
   have v2:V.cell? ⟨nb,2,none⟩ = some (.int .i64 (pt P k).z):=by simp [World.cell?,hob]
   have v3:V.cell? ⟨nb,3,none⟩ = some (.int .i64 (pt P k).x):=by simp [World.cell?,hob]
   have v4:V.cell? ⟨nb,4,none⟩ = some (.int .i64 (pt P k).y):=by simp [World.cell?,hob]
   have v5:V.cell? ⟨nb,5,none⟩ = some (.int .i64 (pt P k).z):=by simp [World.cell?,hob]
   have u0:=(hb9 0 _ rfl).1
   have u1:=(hb9 1 _ rfl).1
   have u2:=(hb9 2 _ rfl).1
   have u3:=(hb9 3 _ rfl).1
   have u4:=(hb9 4 _ rfl).1
   have u5:=(hb9 5 _ rfl).1
   have hH:Hid _:=And.intro hB (And.intro hb9 (And.intro hc1 hc2))
   clear hB hb9 hc1 hc2 hob
   unfold Bx.v at HJk
   gi_wp2
   refine ⟨trivial,?_⟩
   gi_at_call 63
   refine (callsIn_wide.2 (HJk.out _)).mono ?_
   rintro e V2 ⟨rfl,hb⟩
   obtain ⟨hB,hb9,hc1,hc2⟩:=hH.out
   have hb8:=hb9.step hb
   have t0:=hb8 0 _ rfl
   have t1:=hb8 1 _ rfl
   have t2:=hb8 2 _ rfl
   have t3:=hb8 3 _ rfl
   have t4:=hb8 4 _ rfl
   have t5:=hb8 5 _ rfl
   obtain ⟨t0,t0f⟩:=t0
   obtain ⟨t1,t1f⟩:=t1
   obtain ⟨t2,t2f⟩:=t2
   obtain ⟨t3,t3f⟩:=t3
   obtain ⟨t4,t4f⟩:=t4
   obtain ⟨t5,t5f⟩:=t5
   have HC:Hid (KeepsFrom W0.heap.size V (set6 V2 bb q2)/\KeepO (fun b=>b < W0.heap.size/\b ≠ bb) V (set6 V2 bb q2)/\Below w.heap.size w (set6 V2 bb q2)/\Cells (set6 V2 bb q2) bb q2.l/\Cells (set6 V2 bb q2) w.heap.size [.slice (some ⟨g,off,none⟩) P.length cap,.slice oa A.length ca,.slice oe E.length ce,.int .i64 r]/\Cells (set6 V2 bb q2) (w.heap.size + 1) (Bx.l ⟨Pt.O,Pt.O⟩)):=
    ⟨((KeepsOthers.of_grownBy (below_grown hb none) (fun j o e ho=>by cases e)).from _).trans (set6_keeps _ _ _ _),(KeepO.grown (below_grown hb none) (fun b _ e=>by cases e)).trans (set6_keepO _ _ _ (fun h=>h.2 rfl)),set6_below (b_step hB hb) (by omega) _,set6_cells hb8 _,set6_apart (hc1.step hb) (by omega) _,set6_apart (hc2.step hb) (by omega) _⟩
   clear hb8 hb hH hB hb9 hc1 hc2 u0 u1 u2 u3 u4 u5 v0 v1 v2 v3 v4 v5
   unfold set6 at HC
   gi_wp2
   obtain ⟨k1,k2,k3,k4,k5,k6⟩:=HC.out
   exact ⟨k1,k2,k3,by rw [HK.out];exact k4,k5,k6⟩
  case done =>
   rintro D V hD ⟨hB,hb9,hc1,hc2⟩ _ hK
   obtain ⟨q1,hq1⟩:∃ q,spanK P P.length = q:=⟨_,rfl⟩
   rw [hq1] at HG hb9
   obtain ⟨q2,hq2⟩:∃ q,q1.grown r = q:=⟨_,rfl⟩
   rw [hq2] at HG
   have HQ:Hid ((spanK P P.length).grown r = q2):=by show _ = _;rw [hq1];exact hq2
   clear hq2 hq1
   have u0:=(hb9 0 _ rfl).1
   have u1:=(hb9 1 _ rfl).1
   have u2:=(hb9 2 _ rfl).1
   have u3:=(hb9 3 _ rfl).1
   have u4:=(hb9 4 _ rfl).1
   have u5:=(hb9 5 _ rfl).1
   have rr:=(hc1 3 _ rfl).1
   have hH:Hid _:=And.intro hB hc2
   have HK:Hid _:=hK
   clear hB hc2 hc1 hb9 hK
   unfold Bx.v at HG
   gi_wp2
   refine ⟨trivial,?_⟩
   gi_at_call 64
   refine (callsIn_wide.2 (HG.out _)).mono ?_
   rintro e V2 ⟨rfl,hb⟩
   obtain ⟨hB,hc2⟩:=hH.out
   have hb8:=hc2.step hb
   have hK:V2.heap[D]? = some (.deferred (some [])):=(hb.block D (Array.getElem?_eq_some_iff.1 HK.out).1).trans HK.out
   have HB:Hid (Below w.heap.size w (set6 V2 (w.heap.size + 1) q2)):=set6_below (b_step hB hb) (by omega) _
   have HC:Hid (Cells (set6 V2 (w.heap.size + 1) q2) (w.heap.size + 1) q2.l):=set6_cells hb8 _
   have t0:=hb8 0 _ rfl
   have t1:=hb8 1 _ rfl
   have t2:=hb8 2 _ rfl
   have t3:=hb8 3 _ rfl
   have t4:=hb8 4 _ rfl
   have t5:=hb8 5 _ rfl
   obtain ⟨t0,t0f⟩:=t0
   obtain ⟨t1,t1f⟩:=t1
   obtain ⟨t2,t2f⟩:=t2
   obtain ⟨t3,t3f⟩:=t3
   obtain ⟨t4,t4f⟩:=t4
   obtain ⟨t5,t5f⟩:=t5
   clear hb8 hb hH hB hc2 u0 u1 u2 u3 u4 u5 rr
   have hD9:(set6 V2 (w.heap.size + 1) q2).heap[D]? = some (.deferred (some [])):=((set6_keeps V2 (w.heap.size + 1) 0 q2).same D _ (Nat.zero_le _) hK rfl)
   have HD9:Hid _:=hD9
   clear hD9 hK HK
   unfold set6 at HB HC HD9
   gi_wp2
   refine ⟨by simp,.inl ⟨_,_,rfl,run_takeDeferred HD9.out,?_⟩⟩
   have hC9:=Cells.grew HC.out (grownBy_putObj' _ D (.deferred none)) (fun r e=>by cases e;omega)
   obtain ⟨z0,z1,z2,z3,z4,z5⟩:_/\_/\_/\_/\_/\_:=⟨(hC9 0 _ rfl).1,(hC9 1 _ rfl).1,(hC9 2 _ rfl).1,(hC9 3 _ rfl).1,(hC9 4 _ rfl).1,(hC9 5 _ rfl).1⟩
   exact ⟨q2.v,by simp [results,Tryz.results28,go_sem,z0,z1,z2,z3,z4,z5,Bx.v],by rw [HQ.out],HB.out.grown (grownBy_putObj' _ D _) HB.out.size (fun k e=>by cases e;omega)⟩
  case stop =>
   rintro D c k V _ _ h _
   exact h.elim
end
section
open Go.RowKit Go.Shelf
theorem Lies.grown {A B:World} {v:Value} {Ls:List Pt} {fb:Nat} (h:Lies A v Ls) (hg:A.grownBy B (some fb)) (hne:∀ q n c,v = .slice (some q) n c->Ls ≠ []->q.block ≠ fb):Lies B v Ls:=by
 obtain ⟨o,cap,e,h1,h2,h3⟩:=h.form
 refine ⟨o,cap,e,h1,h2,fun i hi=>?_⟩
 obtain ⟨g,off,e',a,b,c⟩:=h3 i hi
 have hf:g ≠ fb:=hne ⟨g,off,none⟩ _ _ (by rw [e,e']) (fun e0=>by rw [e0] at hi;simp at hi)
 have hbl:B.heap[g]? = A.heap[g]?:=hg.block g (World.block_lt_of_cell? _ _ a) (fun e=>hf (by simpa using e))
 exact ⟨g,off,e',(World.cell?_of_block (w:=A) hbl).trans a,(World.cell?_of_block (w:=A) hbl).trans b,(World.cell?_of_block (w:=A) hbl).trans c⟩
theorem Lies.lt {A:World} {Ls:List Pt} {q:Addr} {n c:Nat} (h:Lies A (.slice (some q) n c) Ls) (h0:Ls ≠ []):q.block < A.heap.size:=by
 obtain ⟨o,cap,e,h1,h2,h3⟩:=h.form
 obtain ⟨g,off,e',a,_⟩:=h3 0 (List.length_pos_iff.2 h0)
 simp only [Value.slice.injEq] at e
 rw [<- e.1] at e'
 cases e'
 exact World.block_lt_of_cell? _ _ a
theorem apart_new {w w':World} {u u':Value} {n b b':Nat} {xs ys:List Value} {k:Nat} (h:w.ownsRow b 23 3 u n xs) (h':w'.ownsRow w.heap.size 23 3 u' k ys):∀ j,u.ownBlock = some j->u'.ownBlock ≠ some j:=fun j e e'=>by
 have:=(h.lt j e).2;have:=(h'.lt j e').1;omega
end
end Go.Proofs.YtlhhmiicpddjoaaGreat
