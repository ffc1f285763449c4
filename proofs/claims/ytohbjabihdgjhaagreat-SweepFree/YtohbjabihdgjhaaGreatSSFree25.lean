/- Two raw shapes at raw poses among a law's arguments, opened. -/
import Derived.Test.YtohbjabihdgjhaaGreatSSFree24
set_option maxHeartbeats 2000000
set_option maxRecDepth 100000
set_option linter.unusedVariables false
namespace Go.Proofs.YtohbjabihdgjhaaGreat
section
open Go.ChangeShapes Go.WideShapes Go.Deep Go.Joins
theorem arr30 {cs:Array Value} (h:cs.size = 30):∃ u0 u1 u2 u3 u4 u5 u6 u7 u8 u9 u10 u11 u12 u13 u14 u15 u16 u17 u18 u19 u20 u21 u22 u23 u24 u25 u26 u27 u28 u29,cs = #[u0,u1,u2,u3,u4,u5,u6,u7,u8,u9,u10,u11,u12,u13,u14,u15,u16,u17,u18,u19,u20,u21,u22,u23,u24,u25,u26,u27,u28,u29]:=by
 obtain ⟨l⟩:=cs
 match l,h with
 | [u0,u1,u2,u3,u4,u5,u6,u7,u8,u9,u10,u11,u12,u13,u14,u15,u16,u17,u18,u19,u20,u21,u22,u23,u24,u25,u26,u27,u28,u29],_=>exact ⟨u0,u1,u2,u3,u4,u5,u6,u7,u8,u9,u10,u11,u12,u13,u14,u15,u16,u17,u18,u19,u20,u21,u22,u23,u24,u25,u26,u27,u28,u29,rfl⟩
section
variable {H:Type} {enc:TypeId × Value->H} {w:World} {base:Nat} {spare:Nat->Bool} {held:Bool}
theorem raw5_of {fuel:Nat} {u0 u1 u2 u3 u4 u5:Value} {z:DataW H × List MemPlace} (hf2:DataW.trod enc Tryz.prog w base spare held fuel 26 [u0,u1,u2,u3,u4,u5] = some z) :
  ∃ (k rr x y z:Int) (a:Option Addr) (L:List Pt) (cap:Nat),u0 = .int .i64 k/\u1 = .int .i64 rr/\u2 = .int .i64 x/\u3 = .int .i64 y/\u4 = .int .i64 z/\u5 = .slice a L.length cap/\Lies w (.slice a L.length cap) L/\(∀ p ∈ L,p.fits)/\(Lit.int .i64 k).wf = true/\(Lit.int .i64 rr).wf = true/\(Lit.int .i64 x).wf = true/\(Lit.int .i64 y).wf = true/\(Lit.int .i64 z).wf = true:=by
 obtain ⟨xs,n,_,_,_,hxl,hel⟩:=DataW.trod_struct Tryz.underlying26 hf2
 have hc1:Tryz.prog.cellsOf 3 = 1:=by kernel_rfl
 have hc3:Tryz.prog.cellsOf 23 = 3:=by kernel_rfl
 have hcs:Tryz.prog.cellsOf 24 = 1:=by kernel_rfl
 have some_of:∀ j,j < 4->∃ z,xs[j]? = some z:=fun j hj=>⟨_,List.getElem?_eq_getElem (by rw [hxl];exact hj)⟩
 obtain ⟨z0,hz0⟩:=some_of 0 (by omega)
 obtain ⟨z1,hz1⟩:=some_of 1 (by omega)
 obtain ⟨z2,hz2⟩:=some_of 2 (by omega)
 obtain ⟨z3,hz3⟩:=some_of 3 (by omega)
 have e0:=hel 0 _ rfl
 have e1:=hel 1 _ rfl
 have e2:=hel 2 _ rfl
 have e3:=hel 3 _ rfl
 rw [hz0] at e0
 rw [hz1] at e1
 rw [hz2] at e2
 rw [hz3] at e3
 have q0:DataW.trod enc Tryz.prog w base spare held n 3 [u0] = some z0:=by have this:DataW.trod enc Tryz.prog w base spare held n 3 (([u0,u1,u2,u3,u4,u5].drop 0).take (Tryz.prog.cellsOf 3)) = some z0:=e0;rw [hc1] at this;exact this
 have q1:DataW.trod enc Tryz.prog w base spare held n 3 [u1] = some z1:=by have this:DataW.trod enc Tryz.prog w base spare held n 3 (([u0,u1,u2,u3,u4,u5].drop 1).take (Tryz.prog.cellsOf 3)) = some z1:=e1;rw [hc1] at this;exact this
 have q2:DataW.trod enc Tryz.prog w base spare held n 23 [u2,u3,u4] = some z2:=by have this:DataW.trod enc Tryz.prog w base spare held n 23 (([u0,u1,u2,u3,u4,u5].drop 2).take (Tryz.prog.cellsOf 23)) = some z2:=e2;rw [hc3] at this;exact this
 have q3:DataW.trod enc Tryz.prog w base spare held n 24 [u5] = some z3:=by have this:DataW.trod enc Tryz.prog w base spare held n 24 (([u0,u1,u2,u3,u4,u5].drop 5).take (Tryz.prog.cellsOf 24)) = some z3:=e3;rw [hcs] at this;exact this
 obtain ⟨k,rfl,_,wk⟩:=lit_of q0
 obtain ⟨rr,rfl,_,wr⟩:=lit_of q1
 obtain ⟨ys,m,_,_,_,hyl,hey⟩:=DataW.trod_struct Tryz.underlying23 q2
 have some_y:∀ j,j < 3->∃ z,ys[j]? = some z:=fun j hj=>⟨_,List.getElem?_eq_getElem (by rw [hyl];exact hj)⟩
 obtain ⟨y0,hy0⟩:=some_y 0 (by omega)
 obtain ⟨y1,hy1⟩:=some_y 1 (by omega)
 obtain ⟨y2,hy2⟩:=some_y 2 (by omega)
 have g0:=hey 0 _ rfl
 have g1:=hey 1 _ rfl
 have g2:=hey 2 _ rfl
 rw [hy0] at g0
 rw [hy1] at g1
 rw [hy2] at g2
 have p0:DataW.trod enc Tryz.prog w base spare held m 3 [u2] = some y0:=by have this:DataW.trod enc Tryz.prog w base spare held m 3 (([u2,u3,u4].drop 0).take (Tryz.prog.cellsOf 3)) = some y0:=g0;rw [hc1] at this;exact this
 have p1:DataW.trod enc Tryz.prog w base spare held m 3 [u3] = some y1:=by have this:DataW.trod enc Tryz.prog w base spare held m 3 (([u2,u3,u4].drop 1).take (Tryz.prog.cellsOf 3)) = some y1:=g1;rw [hc1] at this;exact this
 have p2:DataW.trod enc Tryz.prog w base spare held m 3 [u4] = some y2:=by have this:DataW.trod enc Tryz.prog w base spare held m 3 (([u2,u3,u4].drop 2).take (Tryz.prog.cellsOf 3)) = some y2:=g2;rw [hc1] at this;exact this
 obtain ⟨x,rfl,_,wx⟩:=lit_of p0
 obtain ⟨y,rfl,_,wy⟩:=lit_of p1
 obtain ⟨z,rfl,_,wz⟩:=lit_of p2
 have hs:∃ a len cap,u5 = .slice a len cap:=by
  rcases Deep.open_slice Tryz.underlying24 q3 with ⟨hcs,_⟩ | ⟨y,l,c,mm,nn,D,Pl,hcs,_⟩
  ·simp at hcs;exact ⟨_,_,_,hcs⟩
  ·simp at hcs;exact ⟨_,_,_,hcs⟩
 obtain ⟨a,len,cap,rfl⟩:=hs
 obtain ⟨L,rfl,hL,hF⟩:=points_of q3
 exact ⟨k,rr,x,y,z,a,L,cap,rfl,rfl,rfl,rfl,rfl,rfl,hL,hF,wk,wr,wx,wy,wz⟩
theorem raw6_of {fuel:Nat} {u0 u1 u2 u3 u4 u5 u6:Value} {z:DataW H × List MemPlace} (hf2:DataW.trod enc Tryz.prog w base spare held fuel 31 [u0,u1,u2,u3,u4,u5,u6] = some z) :
  ∃ x0 x1 x2 x3 x4 x5 x6:Int,u0 = .int .i64 x0/\u1 = .int .i64 x1/\u2 = .int .i64 x2/\u3 = .int .i64 x3/\u4 = .int .i64 x4/\u5 = .int .i64 x5/\u6 = .int .i64 x6/\(Lit.int .i64 x0).wf = true/\(Lit.int .i64 x1).wf = true/\(Lit.int .i64 x2).wf = true/\(Lit.int .i64 x3).wf = true/\(Lit.int .i64 x4).wf = true/\(Lit.int .i64 x5).wf = true/\(Lit.int .i64 x6).wf = true:=by
 obtain ⟨xs,n,_,_,_,hxl,hel⟩:=DataW.trod_struct Tryz.underlying31 hf2
 have hc3:Tryz.prog.cellsOf 27 = 3:=by kernel_rfl
 have hc4:Tryz.prog.cellsOf 29 = 4:=by kernel_rfl
 have some_of:∀ j,j < 2->∃ z,xs[j]? = some z:=fun j hj=>⟨_,List.getElem?_eq_getElem (by rw [hxl];exact hj)⟩
 obtain ⟨z0,hz0⟩:=some_of 0 (by omega)
 obtain ⟨z1,hz1⟩:=some_of 1 (by omega)
 have e0:=hel 0 _ rfl
 have e1:=hel 1 _ rfl
 rw [hz0] at e0
 rw [hz1] at e1
 have q0:DataW.trod enc Tryz.prog w base spare held n 27 [u0,u1,u2] = some z0:=by have this:DataW.trod enc Tryz.prog w base spare held n 27 (([u0,u1,u2,u3,u4,u5,u6].drop 0).take (Tryz.prog.cellsOf 27)) = some z0:=e0;rw [hc3] at this;exact this
 have q1:DataW.trod enc Tryz.prog w base spare held n 29 [u3,u4,u5,u6] = some z1:=by have this:DataW.trod enc Tryz.prog w base spare held n 29 (([u0,u1,u2,u3,u4,u5,u6].drop 3).take (Tryz.prog.cellsOf 29)) = some z1:=e1;rw [hc4] at this;exact this
 obtain ⟨x0,x1,x2,rfl,rfl,rfl,k0,k1,k2⟩:=vec_of q0
 obtain ⟨x3,x4,x5,x6,rfl,rfl,rfl,rfl,k3,k4,k5,k6⟩:=quat_of q1
 exact ⟨x0,x1,x2,x3,x4,x5,x6,rfl,rfl,rfl,rfl,rfl,rfl,rfl,k0,k1,k2,k3,k4,k5,k6⟩
theorem p3_of {m:Nat} {u0 u1 u2:Value} {z:DataW H × List MemPlace} (h:DataW.trod enc Tryz.prog w base spare held m 23 [u0,u1,u2] = some z):∃ x0 x1 x2:Int,u0 = .int .i64 x0/\u1 = .int .i64 x1/\u2 = .int .i64 x2/\(Lit.int .i64 x0).wf = true/\(Lit.int .i64 x1).wf = true/\(Lit.int .i64 x2).wf = true:=by
 have hc1:Tryz.prog.cellsOf 3 = 1:=by kernel_rfl
 obtain ⟨ys,m,_,_,_,hyl,hey⟩:=DataW.trod_struct Tryz.underlying23 h
 have some_y:∀ j,j < 3->∃ z,ys[j]? = some z:=fun j hj=>⟨_,List.getElem?_eq_getElem (by rw [hyl];exact hj)⟩
 obtain ⟨y0,hy0⟩:=some_y 0 (by omega)
 have g0:=hey 0 _ rfl
 rw [hy0] at g0
 have p0:DataW.trod enc Tryz.prog w base spare held m 3 [u0] = some y0:=by have this:DataW.trod enc Tryz.prog w base spare held m 3 (([u0,u1,u2].drop 0).take (Tryz.prog.cellsOf 3)) = some y0:=g0;rw [hc1] at this;exact this
 obtain ⟨y1,hy1⟩:=some_y 1 (by omega)
 have g1:=hey 1 _ rfl
 rw [hy1] at g1
 have p1:DataW.trod enc Tryz.prog w base spare held m 3 [u1] = some y1:=by have this:DataW.trod enc Tryz.prog w base spare held m 3 (([u0,u1,u2].drop 1).take (Tryz.prog.cellsOf 3)) = some y1:=g1;rw [hc1] at this;exact this
 obtain ⟨y2,hy2⟩:=some_y 2 (by omega)
 have g2:=hey 2 _ rfl
 rw [hy2] at g2
 have p2:DataW.trod enc Tryz.prog w base spare held m 3 [u2] = some y2:=by have this:DataW.trod enc Tryz.prog w base spare held m 3 (([u0,u1,u2].drop 2).take (Tryz.prog.cellsOf 3)) = some y2:=g2;rw [hc1] at this;exact this
 obtain ⟨x0,rfl,_,k0⟩:=lit_of p0
 obtain ⟨x1,rfl,_,k1⟩:=lit_of p1
 obtain ⟨x2,rfl,_,k2⟩:=lit_of p2
 exact ⟨x0,x1,x2,rfl,rfl,rfl,k0,k1,k2⟩
theorem open_two {r:Reach} {b0:Nat} {v:Value} {d:DataW H} {p:List MemPlace} (hv:Value.okWide Tryz.prog w r b0 33 v) (h:DataW.Trod enc Tryz.prog w base spare held 33 v d p) :
  ∃ (k1 r1 x1 y1 z1:Int) (o1:Option Addr) (L1:List Pt) (c1:Nat) (k2 r2 x2 y2 z2:Int) (o2:Option Addr) (L2:List Pt) (c2:Nat) (p0 p1 p2 p3 p4 p5 p6 q0 q1 q2 q3 q4 q5 q6 nr wx wy wz:Int),v = .agg #[.int .i64 k1,.int .i64 r1,.int .i64 x1,.int .i64 y1,.int .i64 z1,.slice o1 L1.length c1,.int .i64 k2,.int .i64 r2,.int .i64 x2,.int .i64 y2,.int .i64 z2,.slice o2 L2.length c2,.int .i64 p0,.int .i64 p1,.int .i64 p2,.int .i64 p3,.int .i64 p4,.int .i64 p5,.int .i64 p6,.int .i64 q0,.int .i64 q1,.int .i64 q2,.int .i64 q3,.int .i64 q4,.int .i64 q5,.int .i64 q6,.int .i64 nr,.int .i64 wx,.int .i64 wy,.int .i64 wz]/\Lies w (.slice o1 L1.length c1) L1/\(∀ p ∈ L1,p.fits)/\Lies w (.slice o2 L2.length c2) L2/\(∀ p ∈ L2,p.fits)/\∀ v ∈ ([k1,r1,x1,y1,z1,k2,r2,x2,y2,z2,p0,p1,p2,p3,p4,p5,p6,q0,q1,q2,q3,q4,q5,q6,nr,wx,wy,wz]:List Int),-9223372036854775808 <= v/\v <= 9223372036854775807:=by
 obtain ⟨cs,rfl,hsz⟩:=okWide_struct Tryz.underlying33 hv
 have hC:Tryz.prog.cellsOf 33 = 30:=by kernel_rfl
 obtain ⟨u0,u1,u2,u3,u4,u5,u6,u7,u8,u9,u10,u11,u12,u13,u14,u15,u16,u17,u18,u19,u20,u21,u22,u23,u24,u25,u26,u27,u28,u29,rfl⟩:=arr30 (hsz.trans hC)
 obtain ⟨fuel,hf⟩:=h
 have hf2:DataW.trod enc Tryz.prog w base spare held fuel 33 [u0,u1,u2,u3,u4,u5,u6,u7,u8,u9,u10,u11,u12,u13,u14,u15,u16,u17,u18,u19,u20,u21,u22,u23,u24,u25,u26,u27,u28,u29] = some (d,p):=hf
 obtain ⟨xs,n,_,_,_,hxl,hel⟩:=DataW.trod_struct Tryz.underlying33 hf2
 have some_of:∀ j,j < 6->∃ z,xs[j]? = some z:=fun j hj=>⟨_,List.getElem?_eq_getElem (by rw [hxl];exact hj)⟩
 have hc0_:Tryz.prog.cellsOf 26 = 6:=by kernel_rfl
 obtain ⟨zz0,hz0⟩:=some_of 0 (by omega)
 have e0:=hel 0 _ rfl
 rw [hz0] at e0
 have f0:DataW.trod enc Tryz.prog w base spare held n 26 [u0,u1,u2,u3,u4,u5] = some zz0:=by have this:DataW.trod enc Tryz.prog w base spare held n 26 (([u0,u1,u2,u3,u4,u5,u6,u7,u8,u9,u10,u11,u12,u13,u14,u15,u16,u17,u18,u19,u20,u21,u22,u23,u24,u25,u26,u27,u28,u29].drop 0).take (Tryz.prog.cellsOf 26)) = some zz0:=e0;rw [hc0_] at this;exact this
 have hc1_:Tryz.prog.cellsOf 26 = 6:=by kernel_rfl
 obtain ⟨zz1,hz1⟩:=some_of 1 (by omega)
 have e1:=hel 1 _ rfl
 rw [hz1] at e1
 have f1:DataW.trod enc Tryz.prog w base spare held n 26 [u6,u7,u8,u9,u10,u11] = some zz1:=by have this:DataW.trod enc Tryz.prog w base spare held n 26 (([u0,u1,u2,u3,u4,u5,u6,u7,u8,u9,u10,u11,u12,u13,u14,u15,u16,u17,u18,u19,u20,u21,u22,u23,u24,u25,u26,u27,u28,u29].drop 6).take (Tryz.prog.cellsOf 26)) = some zz1:=e1;rw [hc1_] at this;exact this
 have hc2_:Tryz.prog.cellsOf 31 = 7:=by kernel_rfl
 obtain ⟨zz2,hz2⟩:=some_of 2 (by omega)
 have e2:=hel 2 _ rfl
 rw [hz2] at e2
 have f2:DataW.trod enc Tryz.prog w base spare held n 31 [u12,u13,u14,u15,u16,u17,u18] = some zz2:=by have this:DataW.trod enc Tryz.prog w base spare held n 31 (([u0,u1,u2,u3,u4,u5,u6,u7,u8,u9,u10,u11,u12,u13,u14,u15,u16,u17,u18,u19,u20,u21,u22,u23,u24,u25,u26,u27,u28,u29].drop 12).take (Tryz.prog.cellsOf 31)) = some zz2:=e2;rw [hc2_] at this;exact this
 have hc3_:Tryz.prog.cellsOf 31 = 7:=by kernel_rfl
 obtain ⟨zz3,hz3⟩:=some_of 3 (by omega)
 have e3:=hel 3 _ rfl
 rw [hz3] at e3
 have f3:DataW.trod enc Tryz.prog w base spare held n 31 [u19,u20,u21,u22,u23,u24,u25] = some zz3:=by have this:DataW.trod enc Tryz.prog w base spare held n 31 (([u0,u1,u2,u3,u4,u5,u6,u7,u8,u9,u10,u11,u12,u13,u14,u15,u16,u17,u18,u19,u20,u21,u22,u23,u24,u25,u26,u27,u28,u29].drop 19).take (Tryz.prog.cellsOf 31)) = some zz3:=e3;rw [hc3_] at this;exact this
 have hc4_:Tryz.prog.cellsOf 3 = 1:=by kernel_rfl
 obtain ⟨zz4,hz4⟩:=some_of 4 (by omega)
 have e4:=hel 4 _ rfl
 rw [hz4] at e4
 have f4:DataW.trod enc Tryz.prog w base spare held n 3 [u26] = some zz4:=by have this:DataW.trod enc Tryz.prog w base spare held n 3 (([u0,u1,u2,u3,u4,u5,u6,u7,u8,u9,u10,u11,u12,u13,u14,u15,u16,u17,u18,u19,u20,u21,u22,u23,u24,u25,u26,u27,u28,u29].drop 26).take (Tryz.prog.cellsOf 3)) = some zz4:=e4;rw [hc4_] at this;exact this
 have hc5_:Tryz.prog.cellsOf 23 = 3:=by kernel_rfl
 obtain ⟨zz5,hz5⟩:=some_of 5 (by omega)
 have e5:=hel 5 _ rfl
 rw [hz5] at e5
 have f5:DataW.trod enc Tryz.prog w base spare held n 23 [u27,u28,u29] = some zz5:=by have this:DataW.trod enc Tryz.prog w base spare held n 23 (([u0,u1,u2,u3,u4,u5,u6,u7,u8,u9,u10,u11,u12,u13,u14,u15,u16,u17,u18,u19,u20,u21,u22,u23,u24,u25,u26,u27,u28,u29].drop 27).take (Tryz.prog.cellsOf 23)) = some zz5:=e5;rw [hc5_] at this;exact this
 clear hel some_of hxl hf2 hf hv
 obtain ⟨k1,r1,x1,y1,z1,o1,L1,c1,rfl,rfl,rfl,rfl,rfl,rfl,hL1,hF1,a0,a1,a2,a3,a4⟩:=raw5_of f0
 obtain ⟨k2,r2,x2,y2,z2,o2,L2,c2,rfl,rfl,rfl,rfl,rfl,rfl,hL2,hF2,a5,a6,a7,a8,a9⟩:=raw5_of f1
 obtain ⟨p0,p1,p2,p3,p4,p5,p6,rfl,rfl,rfl,rfl,rfl,rfl,rfl,b0_,b1_,b2_,b3_,b4_,b5_,b6_⟩:=raw6_of f2
 obtain ⟨q0,q1,q2,q3,q4,q5,q6,rfl,rfl,rfl,rfl,rfl,rfl,rfl,d0_,d1_,d2_,d3_,d4_,d5_,d6_⟩:=raw6_of f3
 obtain ⟨nr,rfl,_,g0_⟩:=lit_of f4
 obtain ⟨wx,wy,wz,rfl,rfl,rfl,g1_,g2_,g3_⟩:=p3_of f5
 refine ⟨k1,r1,x1,y1,z1,o1,L1,c1,k2,r2,x2,y2,z2,o2,L2,c2,p0,p1,p2,p3,p4,p5,p6,q0,q1,q2,q3,q4,q5,q6,nr,wx,wy,wz,rfl,hL1,hF1,hL2,hF2,fun v hv=>?_⟩
 have wf:(Lit.int .i64 v).wf = true:=by
  simp only [List.mem_cons,List.not_mem_nil,or_false] at hv
  rcases hv with rfl | rfl | rfl | rfl | rfl | rfl | rfl | rfl | rfl | rfl | rfl | rfl | rfl | rfl | rfl | rfl | rfl | rfl | rfl | rfl | rfl | rfl | rfl | rfl | rfl | rfl | rfl | rfl <;> assumption
 have:=bounds_i64 wf
 omega
end
end
end Go.Proofs.YtohbjabihdgjhaaGreat
