/- A shot among a law's arguments, opened: its lists of raw shapes and of raw poses. -/
import Derived.Test.YtablgiflakncfaaGreatBBW23
import Derived.Test.YtablgiflakncfaaGreatBBW11
set_option maxRecDepth 100000
set_option linter.unusedVariables false
namespace Go.Proofs.YtablgiflakncfaaGreat
section
open Go.ChangeShapes Go.WideShapes Go.Deep Go.Joins Go.RowKit
def I64 (x:Int):Prop:=-9223372036854775808 <= x/\x <= 9223372036854775807
structure Rw where
 k:Int
 rr:Int
 x:Int
 y:Int
 z:Int
 L:List Pt
structure Pw where
 y0:Int
 y1:Int
 y2:Int
 y3:Int
 y4:Int
 y5:Int
 y6:Int
def Rw.O:Rw:=⟨0,0,0,0,0,[]⟩
def Pw.O:Pw:=⟨0,0,0,0,0,0,0⟩
def Rw.ok (q:Rw):Prop:=(I64 q.k/\I64 q.rr/\I64 q.x/\I64 q.y/\I64 q.z)/\∀ p ∈ q.L,p.fits
def Pw.ok (q:Pw):Prop:=I64 q.y0/\I64 q.y1/\I64 q.y2/\I64 q.y3/\I64 q.y4/\I64 q.y5/\I64 q.y6
def rwAt (R:List Rw) (i:Nat):Rw:=R[i]?.getD Rw.O
def pwAt (R:List Pw) (i:Nat):Pw:=R[i]?.getD Pw.O
structure LiesR (W:World) (v:Value) (R:List Rw):Prop where
 form:∃ o cap,v = .slice o R.length cap/\R.length <= cap/\cap <= 9223372036854775807/\∀ i,i < R.length->∃ g off pv,o = some ⟨g,off,none⟩/\(W.cell? ⟨g,off + i * 6,none⟩ = some (.int .i64 (rwAt R i).k)/\W.cell? ⟨g,off + i * 6 + 1,none⟩ = some (.int .i64 (rwAt R i).rr)/\W.cell? ⟨g,off + i * 6 + 2,none⟩ = some (.int .i64 (rwAt R i).x)/\W.cell? ⟨g,off + i * 6 + 3,none⟩ = some (.int .i64 (rwAt R i).y)/\W.cell? ⟨g,off + i * 6 + 4,none⟩ = some (.int .i64 (rwAt R i).z)/\W.cell? ⟨g,off + i * 6 + 5,none⟩ = some pv)/\Lies W pv (rwAt R i).L
structure LiesP (W:World) (v:Value) (R:List Pw):Prop where
 form:∃ o cap,v = .slice o R.length cap/\R.length <= cap/\cap <= 9223372036854775807/\∀ i,i < R.length->∃ g off,o = some ⟨g,off,none⟩/\(W.cell? ⟨g,off + i * 7,none⟩ = some (.int .i64 (pwAt R i).y0)/\W.cell? ⟨g,off + i * 7 + 1,none⟩ = some (.int .i64 (pwAt R i).y1)/\W.cell? ⟨g,off + i * 7 + 2,none⟩ = some (.int .i64 (pwAt R i).y2)/\W.cell? ⟨g,off + i * 7 + 3,none⟩ = some (.int .i64 (pwAt R i).y3)/\W.cell? ⟨g,off + i * 7 + 4,none⟩ = some (.int .i64 (pwAt R i).y4)/\W.cell? ⟨g,off + i * 7 + 5,none⟩ = some (.int .i64 (pwAt R i).y5)/\W.cell? ⟨g,off + i * 7 + 6,none⟩ = some (.int .i64 (pwAt R i).y6))
theorem LiesR.below {w W:World} {v:Value} {L:List Rw} (h:LiesR w v L) (hb:Below w.heap.size w W):LiesR W v L:=by
 obtain ⟨o,cap,e,h1,h2,h3⟩:=h.form
 refine ⟨o,cap,e,h1,h2,fun i hi=>?_⟩
 obtain ⟨g,off,pv,e,⟨a,b,c,d,x,y⟩,l⟩:=h3 i hi
 exact ⟨g,off,pv,e,⟨c_after hb a,c_after hb b,c_after hb c,c_after hb d,c_after hb x,c_after hb y⟩,l.below hb⟩
theorem LiesP.below {w W:World} {v:Value} {L:List Pw} (h:LiesP w v L) (hb:Below w.heap.size w W):LiesP W v L:=by
 obtain ⟨o,cap,e,h1,h2,h3⟩:=h.form
 refine ⟨o,cap,e,h1,h2,fun i hi=>?_⟩
 obtain ⟨g,off,e,⟨a,b,c,d,x,y,z⟩⟩:=h3 i hi
 exact ⟨g,off,e,⟨c_after hb a,c_after hb b,c_after hb c,c_after hb d,c_after hb x,c_after hb y,c_after hb z⟩⟩
theorem raw_of {H:Type} {enc:TypeId × Value->H} {w:World} {base:Nat} {spare:Nat->Bool} {held:Bool} {fuel:Nat} {u0 u1 u2 u3 u4 u5:Value} {z9:DataW H × List MemPlace} (hf:DataW.trod enc Tryz.prog w base spare held fuel 67 [u0,u1,u2,u3,u4,u5] = some z9) :
  ∃ (k rr x y z:Int) (a:Option Addr) (L:List Pt) (cap:Nat),[u0,u1,u2,u3,u4,u5] = [.int .i64 k,.int .i64 rr,.int .i64 x,.int .i64 y,.int .i64 z,.slice a L.length cap]/\Lies w (.slice a L.length cap) L/\(∀ p ∈ L,p.fits)/\(Lit.int .i64 k).wf = true/\(Lit.int .i64 rr).wf = true/\(Lit.int .i64 x).wf = true/\(Lit.int .i64 y).wf = true/\(Lit.int .i64 z).wf = true:=by
 obtain ⟨xs,n,_,_,_,hxl,hel⟩:=DataW.trod_struct Tryz.underlying67 hf
 have hc1:Tryz.prog.cellsOf 3 = 1:=by kernel_rfl
 have hc3:Tryz.prog.cellsOf 45 = 3:=by kernel_rfl
 have hcs:Tryz.prog.cellsOf 26 = 1:=by kernel_rfl
 have some_of:∀ j,j < 4->∃ z,xs[j]? = some z:=fun j hj=>⟨_,List.getElem?_eq_getElem (by rw [hxl];exact hj)⟩
 obtain ⟨z0,hz0⟩:=some_of 0 (by omega)
 obtain ⟨z1,hz1⟩:=some_of 1 (by omega)
 obtain ⟨z2,hz2⟩:=some_of 2 (by omega)
 obtain ⟨z3,hz3⟩:=some_of 3 (by omega)
 have e0:=hel 0 _ rfl
 have e1:=hel 1 _ rfl
 have e2:=hel 2 _ rfl
 have e3:=hel 3 _ rfl
 rw [hz0] at e0
 rw [hz1] at e1
 rw [hz2] at e2
 rw [hz3] at e3
 have q0:DataW.trod enc Tryz.prog w base spare held n 3 [u0] = some z0:=by have this:DataW.trod enc Tryz.prog w base spare held n 3 (([u0,u1,u2,u3,u4,u5].drop 0).take (Tryz.prog.cellsOf 3)) = some z0:=e0;rw [hc1] at this;exact this
 have q1:DataW.trod enc Tryz.prog w base spare held n 3 [u1] = some z1:=by have this:DataW.trod enc Tryz.prog w base spare held n 3 (([u0,u1,u2,u3,u4,u5].drop 1).take (Tryz.prog.cellsOf 3)) = some z1:=e1;rw [hc1] at this;exact this
 have q2:DataW.trod enc Tryz.prog w base spare held n 45 [u2,u3,u4] = some z2:=by have this:DataW.trod enc Tryz.prog w base spare held n 45 (([u0,u1,u2,u3,u4,u5].drop 2).take (Tryz.prog.cellsOf 45)) = some z2:=e2;rw [hc3] at this;exact this
 have q3:DataW.trod enc Tryz.prog w base spare held n 26 [u5] = some z3:=by have this:DataW.trod enc Tryz.prog w base spare held n 26 (([u0,u1,u2,u3,u4,u5].drop 5).take (Tryz.prog.cellsOf 26)) = some z3:=e3;rw [hcs] at this;exact this
 obtain ⟨k,rfl,_,wk⟩:=lit_of q0
 obtain ⟨rr,rfl,_,wr⟩:=lit_of q1
 obtain ⟨ys,m,_,_,_,hyl,hey⟩:=DataW.trod_struct Tryz.underlying45 q2
 have some_y:∀ j,j < 3->∃ z,ys[j]? = some z:=fun j hj=>⟨_,List.getElem?_eq_getElem (by rw [hyl];exact hj)⟩
 obtain ⟨y0,hy0⟩:=some_y 0 (by omega)
 obtain ⟨y1,hy1⟩:=some_y 1 (by omega)
 obtain ⟨y2,hy2⟩:=some_y 2 (by omega)
 have g0:=hey 0 _ rfl
 have g1:=hey 1 _ rfl
 have g2:=hey 2 _ rfl
 rw [hy0] at g0
 rw [hy1] at g1
 rw [hy2] at g2
 have p0:DataW.trod enc Tryz.prog w base spare held m 3 [u2] = some y0:=by have this:DataW.trod enc Tryz.prog w base spare held m 3 (([u2,u3,u4].drop 0).take (Tryz.prog.cellsOf 3)) = some y0:=g0;rw [hc1] at this;exact this
 have p1:DataW.trod enc Tryz.prog w base spare held m 3 [u3] = some y1:=by have this:DataW.trod enc Tryz.prog w base spare held m 3 (([u2,u3,u4].drop 1).take (Tryz.prog.cellsOf 3)) = some y1:=g1;rw [hc1] at this;exact this
 have p2:DataW.trod enc Tryz.prog w base spare held m 3 [u4] = some y2:=by have this:DataW.trod enc Tryz.prog w base spare held m 3 (([u2,u3,u4].drop 2).take (Tryz.prog.cellsOf 3)) = some y2:=g2;rw [hc1] at this;exact this
 obtain ⟨x,rfl,_,wx⟩:=lit_of p0
 obtain ⟨y,rfl,_,wy⟩:=lit_of p1
 obtain ⟨z,rfl,_,wz⟩:=lit_of p2
 have hs:∃ a len cap,u5 = .slice a len cap:=by
  rcases Deep.open_slice Tryz.underlying26 q3 with ⟨hcs,_⟩ | ⟨y,l,c,mm,nn,D,Pl,hcs,_⟩
  ·simp at hcs;exact ⟨_,_,_,hcs⟩
  ·simp at hcs;exact ⟨_,_,_,hcs⟩
 obtain ⟨a,len,cap,rfl⟩:=hs
 obtain ⟨L,rfl,hL,hF⟩:=points_of q3
 exact ⟨k,rr,x,y,z,a,L,cap,rfl,hL,hF,wk,wr,wx,wy,wz⟩
theorem rawp_of {H:Type} {enc:TypeId × Value->H} {w:World} {base:Nat} {spare:Nat->Bool} {held:Bool} {fuel:Nat} {u0 u1 u2 u3 u4 u5 u6:Value} {z9:DataW H × List MemPlace} (hf:DataW.trod enc Tryz.prog w base spare held fuel 71 [u0,u1,u2,u3,u4,u5,u6] = some z9) :
  ∃ x0 x1 x2 x3 x4 x5 x6:Int,[u0,u1,u2,u3,u4,u5,u6] = [.int .i64 x0,.int .i64 x1,.int .i64 x2,.int .i64 x3,.int .i64 x4,.int .i64 x5,.int .i64 x6]/\(Lit.int .i64 x0).wf = true/\(Lit.int .i64 x1).wf = true/\(Lit.int .i64 x2).wf = true/\(Lit.int .i64 x3).wf = true/\(Lit.int .i64 x4).wf = true/\(Lit.int .i64 x5).wf = true/\(Lit.int .i64 x6).wf = true:=by
 obtain ⟨xs,n,_,_,_,hxl,hel⟩:=DataW.trod_struct Tryz.underlying71 hf
 have hc3:Tryz.prog.cellsOf 23 = 3:=by kernel_rfl
 have hc4:Tryz.prog.cellsOf 69 = 4:=by kernel_rfl
 have some_of:∀ j,j < 2->∃ z,xs[j]? = some z:=fun j hj=>⟨_,List.getElem?_eq_getElem (by rw [hxl];exact hj)⟩
 obtain ⟨z0,hz0⟩:=some_of 0 (by omega)
 obtain ⟨z1,hz1⟩:=some_of 1 (by omega)
 have e0:=hel 0 _ rfl
 have e1:=hel 1 _ rfl
 rw [hz0] at e0
 rw [hz1] at e1
 have q0:DataW.trod enc Tryz.prog w base spare held n 23 [u0,u1,u2] = some z0:=by have this:DataW.trod enc Tryz.prog w base spare held n 23 (([u0,u1,u2,u3,u4,u5,u6].drop 0).take (Tryz.prog.cellsOf 23)) = some z0:=e0;rw [hc3] at this;exact this
 have q1:DataW.trod enc Tryz.prog w base spare held n 69 [u3,u4,u5,u6] = some z1:=by have this:DataW.trod enc Tryz.prog w base spare held n 69 (([u0,u1,u2,u3,u4,u5,u6].drop 3).take (Tryz.prog.cellsOf 69)) = some z1:=e1;rw [hc4] at this;exact this
 obtain ⟨x0,x1,x2,rfl,rfl,rfl,k0,k1,k2⟩:=vec_of q0
 obtain ⟨x3,x4,x5,x6,rfl,rfl,rfl,rfl,k3,k4,k5,k6⟩:=quat_of q1
 exact ⟨x0,x1,x2,x3,x4,x5,x6,rfl,k0,k1,k2,k3,k4,k5,k6⟩
theorem list6 {l:List Value} (h:l.length = 6):∃ a b c d e f,l = [a,b,c,d,e,f]:=by
 match l,h with
 | [a,b,c,d,e,f],_=>exact ⟨a,b,c,d,e,f,rfl⟩
theorem list7 {l:List Value} (h:l.length = 7):∃ a b c d e f g,l = [a,b,c,d,e,f,g]:=by
 match l,h with
 | [a,b,c,d,e,f,g],_=>exact ⟨a,b,c,d,e,f,g,rfl⟩
theorem add_none {y:Addr} {b off:Nat} (e:y = ⟨b,off,none⟩) (i j:Nat):(y.add i).add j = ⟨b,off + i + j,none⟩:=by
 subst e
 unfold Addr.add
 split <;> split <;> simp_all
theorem no_spot {W:World} {y:Addr} {v:Value} {n:Nat} (h:W.cell? ((y.add (0 * n)).add 0) = some v):∃ b off,y = ⟨b,off,none⟩:=by
 obtain ⟨b,off,spot⟩:=y
 have hs:spot = none:=by simpa [Addr.add] using World.cell?_spot h
 subst hs
 exact ⟨b,off,rfl⟩
theorem raws_of {H:Type} {enc:TypeId × Value->H} {W:World} {base:Nat} {spare:Nat->Bool} {held:Bool} {a:Option Addr} {len cap fuel:Nat} {x:DataW H × List MemPlace}
  (h:DataW.trod enc Tryz.prog W base spare held fuel 38 [.slice a len cap] = some x):∃ L:List Rw,L.length = len/\LiesR W (.slice a len cap) L/\∀ p ∈ L,p.ok:=by
 rcases Deep.open_slice Tryz.underlying38 h with ⟨hcs,_⟩ | ⟨y,l,c,m,n,D,Pl,hcs,_,hl,hm,hmm,_,hx⟩
 ·simp at hcs
  obtain ⟨rfl,rfl,rfl⟩:=hcs
  exact ⟨[],rfl,⟨none,0,rfl,by simp,by omega,fun i hi=>by simp at hi⟩,by simp⟩
 ·simp at hcs
  obtain ⟨rfl,rfl,rfl⟩:=hcs
  unfold maxLen at hm
  have hlm:len <= m:=by rw [hmm];split <;> omega
  have hcn:Tryz.prog.cellsOf 67 = 6:=by kernel_rfl
  have each:∀ i,i < len->∃ (q:Rw) (pv:Value),(W.cell? ((y.add (i * 6)).add 0) = some (.int .i64 q.k)/\W.cell? ((y.add (i * 6)).add 1) = some (.int .i64 q.rr)/\W.cell? ((y.add (i * 6)).add 2) = some (.int .i64 q.x)/\W.cell? ((y.add (i * 6)).add 3) = some (.int .i64 q.y)/\W.cell? ((y.add (i * 6)).add 4) = some (.int .i64 q.z)/\W.cell? ((y.add (i * 6)).add 5) = some pv)/\Lies W pv q.L/\q.ok:=by
   intro i hi
   obtain ⟨cs',hcells,ht⟩:=hx i (by omega)
   rw [hcn] at hcells
   obtain ⟨_,hlen,hcell9⟩:=World.cells?_some hcells
   obtain ⟨u0,u1,u2,u3,u4,u5,rfl⟩:=list6 hlen
   have hcell:∀ j,j < 6->W.cell? ((y.add (i * 6)).add j) = [u0,u1,u2,u3,u4,u5][j]?:=fun j hj=>hcell9 j hj
   obtain ⟨k,rr,x,y9,z,a9,L9,c9,he,hL,hF,wk,wr,wx,wy,wz⟩:=raw_of ht
   have b0:=bounds_i64 wk
   have b1:=bounds_i64 wr
   have b2:=bounds_i64 wx
   have b3:=bounds_i64 wy
   have b4:=bounds_i64 wz
   rw [he] at hcell
   exact ⟨⟨k,rr,x,y9,z,L9⟩,_,⟨hcell 0 (by decide),hcell 1 (by decide),hcell 2 (by decide),hcell 3 (by decide),hcell 4 (by decide),hcell 5 (by decide)⟩,hL,⟨⟨by dsimp only;omega,by dsimp only;omega⟩,⟨by dsimp only;omega,by dsimp only;omega⟩,⟨by dsimp only;omega,by dsimp only;omega⟩,⟨by dsimp only;omega,by dsimp only;omega⟩,⟨by dsimp only;omega,by dsimp only;omega⟩⟩,hF⟩
  have ch:∃ (l:Nat->Rw),∀ i,i < len->∃ pv,(W.cell? ((y.add (i * 6)).add 0) = some (.int .i64 (l i).k)/\W.cell? ((y.add (i * 6)).add 1) = some (.int .i64 (l i).rr)/\W.cell? ((y.add (i * 6)).add 2) = some (.int .i64 (l i).x)/\W.cell? ((y.add (i * 6)).add 3) = some (.int .i64 (l i).y)/\W.cell? ((y.add (i * 6)).add 4) = some (.int .i64 (l i).z)/\W.cell? ((y.add (i * 6)).add 5) = some pv)/\Lies W pv (l i).L/\(l i).ok:=by
   refine ⟨fun i=>if h:i < len then (each i h).choose else Rw.O,fun i hi=>?_⟩
   simp only [dif_pos hi]
   exact (each i hi).choose_spec
  obtain ⟨l,hall⟩:=ch
  have hln:((List.range len).map l).length = len:=by simp
  have hpt:∀ i,i < len->rwAt ((List.range len).map l) i = l i:=fun i hi=>by unfold rwAt;simp [hi]
  refine ⟨(List.range len).map l,hln,⟨some y,cap,by rw [hln],by rw [hln];exact hl,by omega,fun i hi=>?_⟩,fun p hp=>?_⟩
  ·rw [hln] at hi
   obtain ⟨pv,⟨h0,h1,h2,h3,h4,h5⟩,hL,_⟩:=hall i hi
   obtain ⟨_,⟨k0,_⟩,_⟩:=hall 0 (by omega)
   obtain ⟨b,off,ey⟩:=no_spot k0
   have hs:=add_none ey (i * 6)
   have hs0:=hs 0
   rw [Nat.add_zero] at hs0
   rw [hs0] at h0
   rw [hs] at h1 h2 h3 h4 h5
   rw [hpt i hi]
   exact ⟨b,off,pv,by rw [ey],⟨h0,h1,h2,h3,h4,h5⟩,hL⟩
  ·rw [List.mem_map] at hp
   obtain ⟨i,hi,rfl⟩:=hp
   exact (hall i (by simpa using hi)).choose_spec.2.2
theorem rawps_of {H:Type} {enc:TypeId × Value->H} {W:World} {base:Nat} {spare:Nat->Bool} {held:Bool} {a:Option Addr} {len cap fuel:Nat} {x:DataW H × List MemPlace}
  (h:DataW.trod enc Tryz.prog W base spare held fuel 39 [.slice a len cap] = some x):∃ L:List Pw,L.length = len/\LiesP W (.slice a len cap) L/\∀ p ∈ L,p.ok:=by
 rcases Deep.open_slice Tryz.underlying39 h with ⟨hcs,_⟩ | ⟨y,l,c,m,n,D,Pl,hcs,_,hl,hm,hmm,_,hx⟩
 ·simp at hcs
  obtain ⟨rfl,rfl,rfl⟩:=hcs
  exact ⟨[],rfl,⟨none,0,rfl,by simp,by omega,fun i hi=>by simp at hi⟩,by simp⟩
 ·simp at hcs
  obtain ⟨rfl,rfl,rfl⟩:=hcs
  unfold maxLen at hm
  have hlm:len <= m:=by rw [hmm];split <;> omega
  have hcn:Tryz.prog.cellsOf 71 = 7:=by kernel_rfl
  have each:∀ i,i < len->∃ q:Pw,(W.cell? ((y.add (i * 7)).add 0) = some (.int .i64 q.y0)/\W.cell? ((y.add (i * 7)).add 1) = some (.int .i64 q.y1)/\W.cell? ((y.add (i * 7)).add 2) = some (.int .i64 q.y2)/\W.cell? ((y.add (i * 7)).add 3) = some (.int .i64 q.y3)/\W.cell? ((y.add (i * 7)).add 4) = some (.int .i64 q.y4)/\W.cell? ((y.add (i * 7)).add 5) = some (.int .i64 q.y5)/\W.cell? ((y.add (i * 7)).add 6) = some (.int .i64 q.y6))/\q.ok:=by
   intro i hi
   obtain ⟨cs',hcells,ht⟩:=hx i (by omega)
   rw [hcn] at hcells
   obtain ⟨_,hlen,hcell9⟩:=World.cells?_some hcells
   obtain ⟨u0,u1,u2,u3,u4,u5,u6,rfl⟩:=list7 hlen
   have hcell:∀ j,j < 7->W.cell? ((y.add (i * 7)).add j) = [u0,u1,u2,u3,u4,u5,u6][j]?:=fun j hj=>hcell9 j hj
   obtain ⟨x0,x1,x2,x3,x4,x5,x6,he,k0,k1,k2,k3,k4,k5,k6⟩:=rawp_of ht
   have b0:=bounds_i64 k0
   have b1:=bounds_i64 k1
   have b2:=bounds_i64 k2
   have b3:=bounds_i64 k3
   have b4:=bounds_i64 k4
   have b5:=bounds_i64 k5
   have b6:=bounds_i64 k6
   rw [he] at hcell
   exact ⟨⟨x0,x1,x2,x3,x4,x5,x6⟩,⟨hcell 0 (by decide),hcell 1 (by decide),hcell 2 (by decide),hcell 3 (by decide),hcell 4 (by decide),hcell 5 (by decide),hcell 6 (by decide)⟩,⟨⟨by dsimp only;omega,by dsimp only;omega⟩,⟨by dsimp only;omega,by dsimp only;omega⟩,⟨by dsimp only;omega,by dsimp only;omega⟩,⟨by dsimp only;omega,by dsimp only;omega⟩,⟨by dsimp only;omega,by dsimp only;omega⟩,⟨by dsimp only;omega,by dsimp only;omega⟩,⟨by dsimp only;omega,by dsimp only;omega⟩⟩⟩
  have ch:∃ (l:Nat->Pw),∀ i,i < len->(W.cell? ((y.add (i * 7)).add 0) = some (.int .i64 (l i).y0)/\W.cell? ((y.add (i * 7)).add 1) = some (.int .i64 (l i).y1)/\W.cell? ((y.add (i * 7)).add 2) = some (.int .i64 (l i).y2)/\W.cell? ((y.add (i * 7)).add 3) = some (.int .i64 (l i).y3)/\W.cell? ((y.add (i * 7)).add 4) = some (.int .i64 (l i).y4)/\W.cell? ((y.add (i * 7)).add 5) = some (.int .i64 (l i).y5)/\W.cell? ((y.add (i * 7)).add 6) = some (.int .i64 (l i).y6))/\(l i).ok:=by
   refine ⟨fun i=>if h:i < len then (each i h).choose else Pw.O,fun i hi=>?_⟩
   simp only [dif_pos hi]
   exact (each i hi).choose_spec
  obtain ⟨l,hall⟩:=ch
  have hln:((List.range len).map l).length = len:=by simp
  have hpt:∀ i,i < len->pwAt ((List.range len).map l) i = l i:=fun i hi=>by unfold pwAt;simp [hi]
  refine ⟨(List.range len).map l,hln,⟨some y,cap,by rw [hln],by rw [hln];exact hl,by omega,fun i hi=>?_⟩,fun p hp=>?_⟩
  ·rw [hln] at hi
   obtain ⟨⟨h0,h1,h2,h3,h4,h5,h6⟩,_⟩:=hall i hi
   obtain ⟨⟨k0,_⟩,_⟩:=hall 0 (by omega)
   obtain ⟨b,off,ey⟩:=no_spot k0
   have hs:=add_none ey (i * 7)
   have hs0:=hs 0
   rw [Nat.add_zero] at hs0
   rw [hs0] at h0
   rw [hs] at h1 h2 h3 h4 h5 h6
   rw [hpt i hi]
   exact ⟨b,off,by rw [ey],⟨h0,h1,h2,h3,h4,h5,h6⟩⟩
  ·rw [List.mem_map] at hp
   obtain ⟨i,hi,rfl⟩:=hp
   exact (hall i (by simpa using hi)).2
theorem arr9s {cs:Array Value} (h:cs.size = 9):∃ a b c d e f g h i,cs = #[a,b,c,d,e,f,g,h,i]:=by
 obtain ⟨l⟩:=cs
 match l,h with
 | [a,b,c,d,e,f,g,h,i],_=>exact ⟨a,b,c,d,e,f,g,h,i,rfl⟩
theorem open_shot {H:Type} {enc:TypeId × Value->H} {w:World} {base:Nat} {spare:Nat->Bool} {held:Bool} {r:Reach} {b0:Nat} {v:Value} {d:DataW H} {p:List MemPlace} (hv:Value.okWide Tryz.prog w r b0 41 v) (h:DataW.Trod enc Tryz.prog w base spare held 41 v d p) :
  ∃ (f y:V3) (rr:Int) (a:Option Addr) (R:List Rw) (ca:Nat) (b:Option Addr) (S:List Pw) (cb:Nat),v = .agg #[.int .i64 f.x,.int .i64 f.y,.int .i64 f.z,.int .i64 y.x,.int .i64 y.y,.int .i64 y.z,.int .i64 rr,.slice a R.length ca,.slice b S.length cb]/\LiesR w (.slice a R.length ca) R/\(∀ q ∈ R,q.ok)/\LiesP w (.slice b S.length cb) S/\(∀ q ∈ S,q.ok)/\((I64 f.x/\I64 f.y/\I64 f.z)/\(I64 y.x/\I64 y.y/\I64 y.z)/\I64 rr):=by
 obtain ⟨cs,rfl,hsz⟩:=okWide_struct Tryz.underlying41 hv
 have hC:Tryz.prog.cellsOf 41 = 9:=by kernel_rfl
 obtain ⟨u0,u1,u2,u3,u4,u5,u6,u7,u8,rfl⟩:=arr9s (hsz.trans hC)
 obtain ⟨fuel,hf⟩:=h
 have hf2:DataW.trod enc Tryz.prog w base spare held fuel 41 [u0,u1,u2,u3,u4,u5,u6,u7,u8] = some (d,p):=hf
 obtain ⟨xs,n,_,_,_,hxl,hel⟩:=DataW.trod_struct Tryz.underlying41 hf2
 have hc1:Tryz.prog.cellsOf 3 = 1:=by kernel_rfl
 have hc3:Tryz.prog.cellsOf 23 = 3:=by kernel_rfl
 have hca:Tryz.prog.cellsOf 38 = 1:=by kernel_rfl
 have hcb:Tryz.prog.cellsOf 39 = 1:=by kernel_rfl
 have some_of:∀ j,j < 5->∃ z,xs[j]? = some z:=fun j hj=>⟨_,List.getElem?_eq_getElem (by rw [hxl];exact hj)⟩
 obtain ⟨z0,hz0⟩:=some_of 0 (by omega)
 obtain ⟨z1,hz1⟩:=some_of 1 (by omega)
 obtain ⟨z2,hz2⟩:=some_of 2 (by omega)
 obtain ⟨z3,hz3⟩:=some_of 3 (by omega)
 obtain ⟨z4,hz4⟩:=some_of 4 (by omega)
 have e0:=hel 0 _ rfl
 have e1:=hel 1 _ rfl
 have e2:=hel 2 _ rfl
 have e3:=hel 3 _ rfl
 have e4:=hel 4 _ rfl
 rw [hz0] at e0
 rw [hz1] at e1
 rw [hz2] at e2
 rw [hz3] at e3
 rw [hz4] at e4
 have q0:DataW.trod enc Tryz.prog w base spare held n 23 [u0,u1,u2] = some z0:=by have this:DataW.trod enc Tryz.prog w base spare held n 23 (([u0,u1,u2,u3,u4,u5,u6,u7,u8].drop 0).take (Tryz.prog.cellsOf 23)) = some z0:=e0;rw [hc3] at this;exact this
 have q1:DataW.trod enc Tryz.prog w base spare held n 23 [u3,u4,u5] = some z1:=by have this:DataW.trod enc Tryz.prog w base spare held n 23 (([u0,u1,u2,u3,u4,u5,u6,u7,u8].drop 3).take (Tryz.prog.cellsOf 23)) = some z1:=e1;rw [hc3] at this;exact this
 have q2:DataW.trod enc Tryz.prog w base spare held n 3 [u6] = some z2:=by have this:DataW.trod enc Tryz.prog w base spare held n 3 (([u0,u1,u2,u3,u4,u5,u6,u7,u8].drop 6).take (Tryz.prog.cellsOf 3)) = some z2:=e2;rw [hc1] at this;exact this
 have q3:DataW.trod enc Tryz.prog w base spare held n 38 [u7] = some z3:=by have this:DataW.trod enc Tryz.prog w base spare held n 38 (([u0,u1,u2,u3,u4,u5,u6,u7,u8].drop 7).take (Tryz.prog.cellsOf 38)) = some z3:=e3;rw [hca] at this;exact this
 have q4:DataW.trod enc Tryz.prog w base spare held n 39 [u8] = some z4:=by have this:DataW.trod enc Tryz.prog w base spare held n 39 (([u0,u1,u2,u3,u4,u5,u6,u7,u8].drop 8).take (Tryz.prog.cellsOf 39)) = some z4:=e4;rw [hcb] at this;exact this
 obtain ⟨x0,x1,x2,rfl,rfl,rfl,k0,k1,k2⟩:=vec_of q0
 obtain ⟨x3,x4,x5,rfl,rfl,rfl,k3,k4,k5⟩:=vec_of q1
 obtain ⟨x6,rfl,_,k6⟩:=lit_of q2
 have hs:∃ a len cap,u7 = .slice a len cap:=by
  rcases Deep.open_slice Tryz.underlying38 q3 with ⟨hcs,_⟩ | ⟨y,l,c,mm,nn,D,Pl,hcs,_⟩
  ·simp at hcs;exact ⟨_,_,_,hcs⟩
  ·simp at hcs;exact ⟨_,_,_,hcs⟩
 have ht:∃ a len cap,u8 = .slice a len cap:=by
  rcases Deep.open_slice Tryz.underlying39 q4 with ⟨hcs,_⟩ | ⟨y,l,c,mm,nn,D,Pl,hcs,_⟩
  ·simp at hcs;exact ⟨_,_,_,hcs⟩
  ·simp at hcs;exact ⟨_,_,_,hcs⟩
 obtain ⟨a,len,cap,rfl⟩:=hs
 obtain ⟨b,len2,cap2,rfl⟩:=ht
 obtain ⟨R,rfl,hR,oR⟩:=raws_of q3
 obtain ⟨S,rfl,hS,oS⟩:=rawps_of q4
 have b0:=bounds_i64 k0
 have b1:=bounds_i64 k1
 have b2:=bounds_i64 k2
 have b3:=bounds_i64 k3
 have b4:=bounds_i64 k4
 have b5:=bounds_i64 k5
 have b6:=bounds_i64 k6
 exact ⟨⟨x0,x1,x2⟩,⟨x3,x4,x5⟩,x6,a,R,cap,b,S,cap2,rfl,hR,oR,hS,oS,⟨⟨by dsimp only;omega,by dsimp only;omega⟩,⟨by dsimp only;omega,by dsimp only;omega⟩,⟨by dsimp only;omega,by dsimp only;omega⟩⟩,⟨⟨by dsimp only;omega,by dsimp only;omega⟩,⟨by dsimp only;omega,by dsimp only;omega⟩,⟨by dsimp only;omega,by dsimp only;omega⟩⟩,⟨by omega,by omega⟩⟩
end
end Go.Proofs.YtablgiflakncfaaGreat
