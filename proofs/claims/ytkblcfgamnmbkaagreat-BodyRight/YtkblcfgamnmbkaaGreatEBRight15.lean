/- A raw body among a law's arguments, opened. -/
import Derived.Test.YtkblcfgamnmbkaaGreatEBRight13
import Derived.Test.YtkblcfgamnmbkaaGreatEBRight14
set_option maxHeartbeats 2000000
set_option maxRecDepth 100000
set_option linter.unusedVariables false
namespace Go.Proofs.YtkblcfgamnmbkaaGreat
open Go.Value renaming int -> J
open Go.IntKind renaming i64 -> Y
open Go.Value renaming slice -> BQ
open Go.Value renaming bool -> BT
open Go renaming World -> BV
open Go renaming Value -> B7
open Go.Value renaming agg -> B_
open Go renaming Addr -> Ce
section
open Go.ChangeShapes Go.WideShapes Go.Deep Go.Joins
theorem Jwc{cs:Array B7}(h:cs.size=25):∃ u0 u1 u2 u3 u4 u5 u6 u7 u8 u9 fN fO fG gv gw gA gB gC gD gE gF gG gH gI gJ,cs = #[u0,u1,u2,u3,u4,u5,u6,u7,u8,u9,fN,fO,fG,gv,gw,gA,gB,gC,gD,gE,gF,gG,gH,gI,gJ]:=by
 obtain⟨l⟩:=cs
 match l,h with
 | [u0,u1,u2,u3,u4,u5,u6,u7,u8,u9,fN,fO,fG,gv,gw,gA,gB,gC,gD,gE,gF,gG,gH,gI,gJ],_=>exact⟨u0,u1,u2,u3,u4,u5,u6,u7,u8,u9,fN,fO,fG,gv,gw,gA,gB,gC,gD,gE,gF,gG,gH,gI,gJ,rfl⟩
section
variable {H:Type} {enc:TypeId × B7->H} {w:BV} {base:Nat} {spare:Nat->Bool} {held:Bool}
theorem Jnr{rr:Reach}{b0:Nat}{v:B7}{d:DataW H}{p:List MemPlace}(hv:Value.okWide Tryz.prog w rr b0 33 v)(h:DataW.Trod enc Tryz.prog w base spare held 33 v d p):
  ∃(k r hx hy hz:Int) (o:Option Ce) (Ls:List Pt) (c:Nat) (cg at1 at2 qa cv qc qd ms fr p0 p1 p2 l0 l1 l2:Int) (fx fa:Bool) (gr ma:Int),v = B_ #[J Y k,J Y r,J Y hx,J Y hy,J Y hz,BQ o Ls.length c,J Y cg,J Y at1,J Y at2,J Y qa,J Y cv,J Y qc,J Y qd,J Y ms,J Y fr,J Y p0,J Y p1,J Y p2,J Y l0,J Y l1,J Y l2,BT fx,BT fa,J Y gr,J Y ma]/\Lies w (BQ o Ls.length c) Ls/\(∀ p∈Ls,p.fits)/\∀ v∈([k,r,hx,hy,hz,cg,at1,at2,qa,cv,qc,qd,ms,fr,p0,p1,p2,l0,l1,l2,gr,ma]:List Int),-9223372036854775808<=v/\v<=9223372036854775807:=by
 obtain⟨cs,rfl,cF⟩:=okWide_struct Tryz.underlying33 hv;have hC:Tryz.prog.cellsOf 33=25:=by kernel_rfl
 obtain⟨u0,u1,u2,u3,u4,u5,u6,u7,u8,u9,fN,fO,fG,gv,gw,gA,gB,gC,gD,gE,gF,gG,gH,gI,gJ,rfl⟩:=Jwc (cF.trans hC);obtain⟨fuel,hf⟩:=h;have b_:DataW.trod enc Tryz.prog w base spare held fuel 33 [u0,u1,u2,u3,u4,u5,u6,u7,u8,u9,fN,fO,fG,gv,gw,gA,gB,gC,gD,gE,gF,gG,gH,gI,gJ]=some (d,p):=hf;obtain⟨xs,n,_,_,_,db,eG⟩:=DataW.trod_struct Tryz.underlying33 b_;have aI:∀ j,j<10->∃ z,xs[j]?=some z:=fun j hj=>⟨_,List.getElem?_eq_getElem (by rw[db];exact hj)⟩
 have wK:Tryz.prog.cellsOf 26=6:=by kernel_rfl
 obtain⟨fk,eW⟩:=aI 0 (by omega);have e0:=eG 0 _ rfl;rw[eW]at e0;have f0:DataW.trod enc Tryz.prog w base spare held n 26 [u0,u1,u2,u3,u4,u5]=some fk:=by have this:DataW.trod enc Tryz.prog w base spare held n 26 (([u0,u1,u2,u3,u4,u5,u6,u7,u8,u9,fN,fO,fG,gv,gw,gA,gB,gC,gD,gE,gF,gG,gH,gI,gJ].drop 0).take (Tryz.prog.cellsOf 26))=some fk:=e0;rw[wK]at this;exact this
 have wL:Tryz.prog.cellsOf 31=7:=by kernel_rfl
 obtain⟨fm,gg⟩:=aI 1 (by omega);have e1:=eG 1 _ rfl;rw[gg]at e1;have f1:DataW.trod enc Tryz.prog w base spare held n 31 [u6,u7,u8,u9,fN,fO,fG]=some fm:=by have this:DataW.trod enc Tryz.prog w base spare held n 31 (([u0,u1,u2,u3,u4,u5,u6,u7,u8,u9,fN,fO,fG,gv,gw,gA,gB,gC,gD,gE,gF,gG,gH,gI,gJ].drop 6).take (Tryz.prog.cellsOf 31))=some fm:=e1;rw[wL]at this;exact this
 have wM:Tryz.prog.cellsOf 3=1:=by kernel_rfl
 obtain⟨fp,fe⟩:=aI 2 (by omega);have e2:=eG 2 _ rfl;rw[fe]at e2;have f2:DataW.trod enc Tryz.prog w base spare held n 3 [gv]=some fp:=by have this:DataW.trod enc Tryz.prog w base spare held n 3 (([u0,u1,u2,u3,u4,u5,u6,u7,u8,u9,fN,fO,fG,gv,gw,gA,gB,gC,gD,gE,gF,gG,gH,gI,gJ].drop 13).take (Tryz.prog.cellsOf 3))=some fp:=e2;rw[wM]at this;exact this
 have wN:Tryz.prog.cellsOf 3=1:=by kernel_rfl
 obtain⟨kE,bC⟩:=aI 3 (by omega);have e3:=eG 3 _ rfl;rw[bC]at e3;have f3:DataW.trod enc Tryz.prog w base spare held n 3 [gw]=some kE:=by have this:DataW.trod enc Tryz.prog w base spare held n 3 (([u0,u1,u2,u3,u4,u5,u6,u7,u8,u9,fN,fO,fG,gv,gw,gA,gB,gC,gD,gE,gF,gG,gH,gI,gJ].drop 14).take (Tryz.prog.cellsOf 3))=some kE:=e3;rw[wN]at this;exact this
 have wO:Tryz.prog.cellsOf 27=3:=by kernel_rfl
 obtain⟨qO,wI⟩:=aI 4 (by omega);have e4:=eG 4 _ rfl;rw[wI]at e4;have f4:DataW.trod enc Tryz.prog w base spare held n 27 [gA,gB,gC]=some qO:=by have this:DataW.trod enc Tryz.prog w base spare held n 27 (([u0,u1,u2,u3,u4,u5,u6,u7,u8,u9,fN,fO,fG,gv,gw,gA,gB,gC,gD,gE,gF,gG,gH,gI,gJ].drop 15).take (Tryz.prog.cellsOf 27))=some qO:=e4;rw[wO]at this;exact this
 have wP:Tryz.prog.cellsOf 27=3:=by kernel_rfl
 obtain⟨qP,hz5⟩:=aI 5 (by omega);have e5:=eG 5 _ rfl;rw[hz5]at e5;have f5:DataW.trod enc Tryz.prog w base spare held n 27 [gD,gE,gF]=some qP:=by have this:DataW.trod enc Tryz.prog w base spare held n 27 (([u0,u1,u2,u3,u4,u5,u6,u7,u8,u9,fN,fO,fG,gv,gw,gA,gB,gC,gD,gE,gF,gG,gH,gI,gJ].drop 18).take (Tryz.prog.cellsOf 27))=some qP:=e5;rw[wP]at this;exact this
 have wQ:Tryz.prog.cellsOf 4=1:=by kernel_rfl
 obtain⟨qQ,hz6⟩:=aI 6 (by omega);have e6:=eG 6 _ rfl;rw[hz6]at e6;have f6:DataW.trod enc Tryz.prog w base spare held n 4 [gG]=some qQ:=by have this:DataW.trod enc Tryz.prog w base spare held n 4 (([u0,u1,u2,u3,u4,u5,u6,u7,u8,u9,fN,fO,fG,gv,gw,gA,gB,gC,gD,gE,gF,gG,gH,gI,gJ].drop 21).take (Tryz.prog.cellsOf 4))=some qQ:=e6;rw[wQ]at this;exact this
 have wR:Tryz.prog.cellsOf 4=1:=by kernel_rfl
 obtain⟨qR,hz7⟩:=aI 7 (by omega);have e7:=eG 7 _ rfl;rw[hz7]at e7;have f7:DataW.trod enc Tryz.prog w base spare held n 4 [gH]=some qR:=by have this:DataW.trod enc Tryz.prog w base spare held n 4 (([u0,u1,u2,u3,u4,u5,u6,u7,u8,u9,fN,fO,fG,gv,gw,gA,gB,gC,gD,gE,gF,gG,gH,gI,gJ].drop 22).take (Tryz.prog.cellsOf 4))=some qR:=e7;rw[wR]at this;exact this
 have wS:Tryz.prog.cellsOf 3=1:=by kernel_rfl
 obtain⟨qS,hz8⟩:=aI 8 (by omega);have e8:=eG 8 _ rfl;rw[hz8]at e8;have f8:DataW.trod enc Tryz.prog w base spare held n 3 [gI]=some qS:=by have this:DataW.trod enc Tryz.prog w base spare held n 3 (([u0,u1,u2,u3,u4,u5,u6,u7,u8,u9,fN,fO,fG,gv,gw,gA,gB,gC,gD,gE,gF,gG,gH,gI,gJ].drop 23).take (Tryz.prog.cellsOf 3))=some qS:=e8;rw[wS]at this;exact this
 have wT:Tryz.prog.cellsOf 3=1:=by kernel_rfl
 obtain⟨Bb,fC⟩:=aI 9 (by omega);have e9:=eG 9 _ rfl;rw[fC]at e9;have f9:DataW.trod enc Tryz.prog w base spare held n 3 [gJ]=some Bb:=by have this:DataW.trod enc Tryz.prog w base spare held n 3 (([u0,u1,u2,u3,u4,u5,u6,u7,u8,u9,fN,fO,fG,gv,gw,gA,gB,gC,gD,gE,gF,gG,gH,gI,gJ].drop 24).take (Tryz.prog.cellsOf 3))=some Bb:=e9;rw[wT]at this;exact this
 clear eG aI db b_ hf hv;obtain⟨k,r,hx,hy,hz,o,Ls,c,rfl,rfl,rfl,rfl,rfl,rfl,te,hF1,a0,a1,a2,a3,a4⟩:=Jt8 f0;obtain⟨cg,at1,at2,qa,cv,qc,qd,rfl,rfl,rfl,rfl,rfl,rfl,rfl,dH,b1_,b2_,lB,b4_,b5_,b6_⟩:=Jut f1;obtain⟨ms,rfl,_,g0_⟩:=Jbu f2;obtain⟨fr,rfl,_,g1_⟩:=Jbu f3;obtain⟨p0,p1,p2,rfl,rfl,rfl,g2_,g3_,g4_⟩:=Jii f4;obtain⟨l0,l1,l2,rfl,rfl,rfl,g5_,g6_,g7_⟩:=Jii f5;obtain⟨fx,rfl⟩:=Jpb f6;obtain⟨fa,rfl⟩:=Jpb f7;obtain⟨gr,rfl,_,g8_⟩:=Jbu f8;obtain⟨ma,rfl,_,g9_⟩:=Jbu f9;refine⟨k,r,hx,hy,hz,o,Ls,c,cg,at1,at2,qa,cv,qc,qd,ms,fr,p0,p1,p2,l0,l1,l2,fx,fa,gr,ma,rfl,te,hF1,fun v hv=>?_⟩;have wf:(Lit.int .i64 v).wf=true:=by
  simp only[List.mem_cons,List.not_mem_nil,or_false]at hv;rcases hv with rfl | rfl | rfl | rfl | rfl | rfl | rfl | rfl | rfl | rfl | rfl | rfl | rfl | rfl | rfl | rfl | rfl | rfl | rfl | rfl | rfl | rfl <;> assumption
 have:=bounds_i64 wf;omega
theorem Jjo{rr:Reach}{b0:Nat}{v:B7}{d:DataW H}{p:List MemPlace}(hv:Value.okWide Tryz.prog w rr b0 27 v)(h:DataW.Trod enc Tryz.prog w base spare held 27 v d p):∃ a:V3,v=a.val/\∀ n∈([a.x,a.y,a.z]:List Int),-9223372036854775808<=n/\n<=9223372036854775807:=by
 obtain⟨cs,rfl,cF⟩:=okWide_struct Tryz.underlying27 hv;have hC:Tryz.prog.cellsOf 27=3:=by kernel_rfl
 obtain⟨u0,u1,u2,rfl⟩:=Jv3 (cF.trans hC);obtain⟨fuel,hf⟩:=h;obtain⟨x,y,z,rfl,rfl,rfl,w1,w2,w3⟩:=Jii (show DataW.trod enc Tryz.prog w base spare held fuel 27 [u0,u1,u2]=some (d,p) from hf);refine⟨⟨x,y,z⟩,rfl,fun n hn=>?_⟩;have wf:(Lit.int .i64 n).wf=true:=by
  simp only[List.mem_cons,List.not_mem_nil,or_false]at hn;rcases hn with rfl | rfl | rfl <;> assumption
 have:=bounds_i64 wf;omega
end
end
end Go.Proofs.YtkblcfgamnmbkaaGreat
