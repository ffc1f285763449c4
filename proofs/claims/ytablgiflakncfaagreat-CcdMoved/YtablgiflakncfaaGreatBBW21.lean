/- Masses of all shapes that may be; what does not hang on the order of a hull's points. -/
import Derived.Test.YtablgiflakncfaaGreatBBW9
import Derived.Test.YtablgiflakncfaaGreatBBW0
import Derived.Test.YtablgiflakncfaaGreatBBW20
import Derived.Test.YtablgiflakncfaaGreatBBW1
set_option maxHeartbeats 4000000
set_option maxRecDepth 100000
set_option linter.unusedVariables false
namespace Go.Proofs.YtablgiflakncfaaGreat
section
open Go.RowKit Go.Shelf
theorem fl3_drop:∀ (L:List Pt) (k:Nat),fl3 (L.drop k) = (fl3 L).drop (k * 3)
 | L,0=>by simp
 | [],k + 1=>by simp [fl3]
 | p :: r,k + 1=>by rw [show (k + 1) * 3 = k * 3 + 3 by omega];simp only [List.drop_succ_cons,fl3];exact fl3_drop r k
theorem Lies.read {w:World} {g off n c:Nat} {L:List Pt} (h:Lies w (.slice (some ⟨g,off,none⟩) n c) L):∀ (k:Nat) (M:List Pt),(∃ R,L.drop k = M ++ R)->∀ j u,(fl3 M)[j]? = some u->w.cell? ((⟨g,off + k * 3,none⟩:Addr).add j) = some u:=by
 intro k M ⟨R,hR⟩ j u hj
 obtain ⟨o,cap,e,_,_,hc⟩:=h.cells
 simp only [Value.slice.injEq] at e
 obtain ⟨rfl,rfl,rfl⟩:=e
 have ad:(⟨g,off + k * 3,none⟩:Addr).add j = ⟨g,off + k * 3 + j,none⟩:=by unfold Addr.add;split <;> simp_all
 rw [ad]
 have hL:(fl3 L)[k * 3 + j]? = some u:=by
  rw [<- List.getElem?_drop,<- fl3_drop,hR,fl3_append,List.getElem?_append_left (List.getElem?_eq_some_iff.1 hj).1]
  exact hj
 rcases hc with rfl | ⟨g',off',e',hc⟩
 ·simp [fl3] at hL
 ·cases e'
  rw [Nat.add_assoc]
  exact hc _ _ hL
end
section
open Go.RowKit Go.Shelf
structure KS (w0 W:World) (ba br b5:Nat) (sh:List Value) (r:Value) (u:Value) (M:List Pt):Prop where
 c1:Cells W ba sh
 c2:Cells W br [.slice none 0 0,.slice none 0 0,.slice none 0 0,.int .i64 0]
 c3:Cells W b5 [u,.slice none 0 0,.slice none 0 0,r]
 row:W.ownsRow w0.heap.size 45 3 u M.length (fl3 M)
 na:u.ownBlock ≠ some ba
 ns:u.ownBlock ≠ some br
 n3:u.ownBlock ≠ some b5
 below:Below w0.heap.size w0 W
 l3:w0.heap.size <= b5
 d1:ba ≠ b5
 d2:br ≠ b5
 r0:∃ v,sh[0]? = some v
theorem KS.app {w0 V W:World} {ba br b5:Nat} {sh:List Value} {r u u':Value} {M N:List Pt} (h:KS w0 V ba br b5 sh r u M) (hr:W.ownsRow w0.heap.size 45 3 u' N.length (fl3 N)) (hg:Grew V W u u'):KS w0 (W.setCell ⟨b5,0,none⟩ u') ba br b5 sh r u' N:=by
 obtain ⟨v0,e0⟩:=h.r0
 have la:ba < V.heap.size:=World.block_lt_of_cell? _ _ (h.c1 0 _ e0).1
 have ls:br < V.heap.size:=World.block_lt_of_cell? _ _ (h.c2 0 _ rfl).1
 have l3:b5 < V.heap.size:=World.block_lt_of_cell? _ _ (h.c3 0 _ rfl).1
 have off:∀ b,b < V.heap.size->u.ownBlock ≠ some b->u'.ownBlock ≠ some b:=fun b hb hne e=>by
  rcases hg.same with s | ⟨k,s,hk⟩
  ·exact hne (s ▸ e)
  ·rw [s] at e;cases e;omega
 exact ⟨(h.c1.grown hg.grown h.na).put h.d1 _ _,(h.c2.grown hg.grown h.ns).put h.d2 _ _,(h.c3.grown hg.grown h.n3).set 0 u' (by simp),ownsRow_setCell_other hr (off _ l3 h.n3) _,off _ la h.na,off _ ls h.ns,off _ l3 h.n3,(h.below.grown hg.grown h.below.size (fun k e=>(h.row.lt k e).1)).setCell h.l3 _,h.l3,h.d1,h.d2,h.r0⟩
theorem KS.step {w0 V W:World} {ba br b5:Nat} {sh:List Value} {r u:Value} {M:List Pt} (h:KS w0 V ba br b5 sh r u M) (hb:Below V.heap.size V W):KS w0 W ba br b5 sh r u M:=
 ⟨h.c1.step hb,h.c2.step hb,h.c3.step hb,own_below h.row hb,h.na,h.ns,h.n3,b_step h.below hb,h.l3,h.d1,h.d2,h.r0⟩
def lit9:Obj:=.cells #[.int .i64 1,.int .i64 0,.int .i64 0,.int .i64 0,.int .i64 1,.int .i64 0,.int .i64 0,.int .i64 0,.int .i64 1] 45
theorem own_lit9 (w:World) {base:Nat} (hb:base <= w.heap.size):(w.alloc lit9).ownsRow base 45 3 (.slice (some ⟨w.heap.size,0,none⟩) 3 3) straightP.length (fl3 straightP):=
 World.ownsRow_lit (e:=45) (size:=3) w #[.int .i64 1,.int .i64 0,.int .i64 0,.int .i64 0,.int .i64 1,.int .i64 0,.int .i64 0,.int .i64 0,.int .i64 1] 3 hb (by unfold maxLen;omega) rfl
theorem KS.brick {w0 W:World} {ba br b5:Nat} {sh:List Value} {r u va ve:Value} {M:List Pt} (h:KS w0 W ba br b5 sh r u M) (hbr:w0.heap.size <= br) (ea:va = .slice (some ⟨W.heap.size,0,none⟩) 3 3) (ee:ve = .slice (some ⟨W.heap.size + 1,0,none⟩) 3 3) :
  Three w0 ((((W.setCell ⟨b5,1,none⟩ va).setCell ⟨b5,2,none⟩ ve).alloc lit9).alloc lit9) u va ve M straightP straightP/\Cells ((((W.setCell ⟨b5,1,none⟩ va).setCell ⟨b5,2,none⟩ ve).alloc lit9).alloc lit9) b5 [u,va,ve,r]/\Cells ((((W.setCell ⟨b5,1,none⟩ va).setCell ⟨b5,2,none⟩ ve).alloc lit9).alloc lit9) br [.slice none 0 0,.slice none 0 0,.slice none 0 0,.int .i64 0]/\va.ownBlock ≠ some br/\ve.ownBlock ≠ some br:=by
 have l5:b5 < W.heap.size:=World.block_lt_of_cell? _ _ (h.c3 0 _ rfl).1
 have lr:br < W.heap.size:=World.block_lt_of_cell? _ _ (h.c2 0 _ rfl).1
 obtain ⟨W1,hW1⟩:∃ W1,W1 = (W.setCell ⟨b5,1,none⟩ va).setCell ⟨b5,2,none⟩ ve:=⟨_,rfl⟩
 have sz:W1.heap.size = W.heap.size:=by rw [hW1];simp [World.setCell]
 have hs:=h.below.size
 have hb1:Below w0.heap.size w0 W1:=by rw [hW1];exact (h.below.setCell h.l3 _).setCell h.l3 _
 have hr1:W1.ownsRow w0.heap.size 45 3 u M.length (fl3 M):=by rw [hW1];exact ownsRow_setCell_other (ownsRow_setCell_other h.row h.n3 _) h.n3 _
 have hc3:Cells W1 b5 [u,va,ve,r]:=by rw [hW1];exact (h.c3.set 1 va (by simp)).set 2 ve (by simp)
 have hc2:Cells W1 br [.slice none 0 0,.slice none 0 0,.slice none 0 0,.int .i64 0]:=by rw [hW1];exact (h.c2.put h.d2 _ _).put h.d2 _ _
 rw [<- hW1]
 clear hW1
 have oa:va.ownBlock = some W.heap.size:=by rw [ea];rfl
 have oe:ve.ownBlock = some (W.heap.size + 1):=by rw [ee];rfl
 have nar:va.ownBlock ≠ some br:=by rw [oa];intro e;cases e;omega
 have ner:ve.ownBlock ≠ some br:=by rw [oe];intro e;cases e;omega
 have n1:=n_after W1 lit9
 have n2:=n_after (W1.alloc lit9) lit9
 have ra:(W1.alloc lit9).ownsRow w0.heap.size 45 3 va straightP.length (fl3 straightP):=by
  have:=own_lit9 W1 (base:=w0.heap.size) (by omega)
  rw [sz] at this;rw [ea];exact this
 have re:((W1.alloc lit9).alloc lit9).ownsRow w0.heap.size 45 3 ve straightP.length (fl3 straightP):=by
  have:=own_lit9 (W1.alloc lit9) (base:=w0.heap.size) (by simp;omega)
  rw [World.size_alloc,sz] at this;rw [ee];exact this
 refine ⟨⟨own_below hr1 (b_step n1 n2),own_below ra n2,re,fun k e e'=>?_,fun k e e'=>?_,fun k e e'=>?_,b_step hb1 (b_step n1 n2)⟩,hc3.step (b_step n1 n2),hc2.step (b_step n1 n2),nar,ner⟩
 ·have a:=(h.row.lt k e).2;rw [oa] at e';cases e';omega
 ·have a:=(h.row.lt k e).2;rw [oe] at e';cases e';omega
 ·rw [oa] at e;rw [oe] at e';simp only [Option.some.injEq] at e e';omega
theorem corner_step (h:Pt) (i:Nat) (hi:i < 8):(cornersP h).take i ++ [pt (cornersP h) i] = (cornersP h).take (i + 1):=(take_pt (by simpa [cornersP] using hi)).symm
theorem rcore_any (s:Sh) (pv:Value) (w0:World) (hv:Lies w0 pv s.pts) :
  Calls Tryz.prog 55 #[s.v pv] w0 fun e W=>∃ vp va ve,(checkP s ≠ 0->e = .returned (.tuple #[.agg #[vp,va,ve,.int .i64 0],.int .i64 (checkP s)])/\Three w0 W vp va ve [] [] [])/\(checkP s = 0->e = .returned (.tuple #[.agg #[vp,va,ve,.int .i64 s.radius],.int .i64 0])/\Three w0 W vp va ve (ptsP s) (axesP s) (edgesP s)):=by
 have hB:Hid (Below w0.heap.size w0 ((w0.alloc (.cells #[.int .i64 s.kind,.int .i64 s.radius,.int .i64 s.half.x,.int .i64 s.half.y,.int .i64 s.half.z,pv] 100)).alloc (.cells #[.slice none 0 0,.slice none 0 0,.slice none 0 0,.int .i64 0] 28))):=b_step (n_after w0 _) (n_after _ _)
 have HF:Hid _:=rcheck_any s pv ((w0.alloc (.cells #[.int .i64 s.kind,.int .i64 s.radius,.int .i64 s.half.x,.int .i64 s.half.y,.int .i64 s.half.z,pv] 100)).alloc (.cells #[.slice none 0 0,.slice none 0 0,.slice none 0 0,.int .i64 0] 28)) (hv.below hB.out)
 have B1:Hid (Cells ((w0.alloc (.cells #[.int .i64 s.kind,.int .i64 s.radius,.int .i64 s.half.x,.int .i64 s.half.y,.int .i64 s.half.z,pv] 100)).alloc (.cells #[.slice none 0 0,.slice none 0 0,.slice none 0 0,.int .i64 0] 28)) w0.heap.size [.int .i64 s.kind,.int .i64 s.radius,.int .i64 s.half.x,.int .i64 s.half.y,.int .i64 s.half.z,pv]):=(Cells.new w0 [.int .i64 s.kind,.int .i64 s.radius,.int .i64 s.half.x,.int .i64 s.half.y,.int .i64 s.half.z,pv] _).step (n_after _ _)
 have B2:Hid (Cells ((w0.alloc (.cells #[.int .i64 s.kind,.int .i64 s.radius,.int .i64 s.half.x,.int .i64 s.half.y,.int .i64 s.half.z,pv] 100)).alloc (.cells #[.slice none 0 0,.slice none 0 0,.slice none 0 0,.int .i64 0] 28)) (w0.heap.size + 1) [.slice none 0 0,.slice none 0 0,.slice none 0 0,.int .i64 0]):=by have:=Cells.new (w0.alloc (.cells #[.int .i64 s.kind,.int .i64 s.radius,.int .i64 s.half.x,.int .i64 s.half.y,.int .i64 s.half.z,pv] 100)) [.slice none 0 0,.slice none 0 0,.slice none 0 0,.int .i64 0] 28;rwa [World.size_alloc] at this
 have HFO:Hid (checkP s = 0->formP s = true):=fun h=>by
  cases hf:formP s with
  | true=>rfl
  | false=>unfold checkP at h;rw [hf] at h;simp at h
 obtain ⟨k,r,⟨hx,hy,hz⟩,L⟩:=s
 have HPT:Hid (ptsP ⟨k,r,⟨hx,hy,hz⟩,L⟩ = if k = 1 then [Pt.O] else if k = 2 then [⟨-hx,0,0⟩,⟨hx,0,0⟩] else if k = 3 then cornersP ⟨hx,hy,hz⟩ else L):=rfl
 have HAX:Hid (axesP ⟨k,r,⟨hx,hy,hz⟩,L⟩ = if k = 3 then straightP else if k = 4 then (sidesP L).1 else []):=rfl
 have HED:Hid (edgesP ⟨k,r,⟨hx,hy,hz⟩,L⟩ = if k = 2 then [⟨1,0,0⟩] else if k = 3 then straightP else if k = 4 then (sidesP L).2 else []):=rfl
 have HFM:Hid (formP ⟨k,r,⟨hx,hy,hz⟩,L⟩ = if k = 1 then inR r 1 16384 else if k = 2 then inR r 1 16384 && halfOk hx else if k = 3 then inR r 0 16384 && (halfOk hx && (halfOk hy && halfOk hz)) else if k = 4 then inR r 0 16384 && mayP L else false):=rfl
 generalize ptsP ⟨k,r,⟨hx,hy,hz⟩,L⟩ = P at *
 generalize axesP ⟨k,r,⟨hx,hy,hz⟩,L⟩ = A at *
 generalize edgesP ⟨k,r,⟨hx,hy,hz⟩,L⟩ = E at *
 generalize checkP ⟨k,r,⟨hx,hy,hz⟩,L⟩ = C at *
 generalize formP ⟨k,r,⟨hx,hy,hz⟩,L⟩ = F at *
 have HV:Hid _:=hv
 obtain ⟨o,c,rfl,hlc,hcm,_⟩:=hv.form
 clear hv
 unfold Sh.v at *
 dsimp only at *
 obtain ⟨i0,hii,hiz,hisz,hib⟩:=info_parts point_info
 have HI:Hid _:=And.intro hii (And.intro hiz (And.intro hisz hib))
 clear hii hiz hisz hib
 go_enter Tryz.func55,Tryz.ntmps55
 go_wp2_with (fail)
 refine Calls.mono HF.out ?_
 clear HF
 rintro e V ⟨rfl,hb⟩
 have D1:Hid (Cells V w0.heap.size [.int .i64 k,.int .i64 r,.int .i64 hx,.int .i64 hy,.int .i64 hz,.slice o L.length c]):=Cells.step B1.out hb
 have D2:Hid (Cells V (w0.heap.size + 1) [.slice none 0 0,.slice none 0 0,.slice none 0 0,.int .i64 0]):=Cells.step B2.out hb
 have hD:Hid (Below w0.heap.size w0 V):=b_step hB.out hb
 clear B1 B2 hB
 have hsz:w0.heap.size + 1 < V.heap.size:=World.block_lt_of_cell? _ _ (D2.out 0 _ rfl).1
 clear hb
 obtain ⟨ba,hba⟩:∃ b,b = w0.heap.size:=⟨_,rfl⟩
 obtain ⟨br,hbr⟩:∃ b,b = w0.heap.size + 1:=⟨_,rfl⟩
 have hbl:w0.heap.size <= br:=by omega
 have hbv:br < V.heap.size:=by omega
 have hav:ba < V.heap.size:=by omega
 rw [<- hbr] at D2 ⊢
 rw [<- hba] at D1
 rw [show w0.heap.size = ba from hba.symm]
 clear hbr hsz
 have hbaw:Hid _:=hba
 have r0:=(D2.out 0 _ rfl).1
 have r1:=(D2.out 1 _ rfl).1
 have r2:=(D2.out 2 _ rfl).1
 have r3:=(D2.out 3 _ rfl).1
 have f0:=(D2.out 0 _ rfl).2
 have f1:=(D2.out 1 _ rfl).2
 have f2:=(D2.out 2 _ rfl).2
 have f3:=(D2.out 3 _ rfl).2
 clear hba
 by_cases hC:C = 0
 ·subst hC
  have hF:=HFO.out rfl
  clear HFO
  subst hF
  have s0:=(D1.out 0 _ rfl).1
  have s1:=(D1.out 1 _ rfl).1
  have s2:=(D1.out 2 _ rfl).1
  have s3:=(D1.out 3 _ rfl).1
  have s4:=(D1.out 4 _ rfl).1
  have s5:=(D1.out 5 _ rfl).1
  by_cases k1:k = 1
  ·subst k1
   have eP:P = [Pt.O]:=HPT.out
   have eA:A = []:=HAX.out
   have eE:E = []:=HED.out
   clear HPT HAX HED HFM
   subst eP eA eE
   clear r0 r1 r2 r3 f0 f1 f2 f3
   go_upto_region 22 with fail
   obtain ⟨X,hX⟩:∃ X:World,X = (V.alloc (.cells #[.slice (some ⟨V.heap.size + 1,0,none⟩) 1 1,.slice none 0 0,.slice none 0 0,.int .i64 r] 28)).alloc (.cells #[.int .i64 0,.int .i64 0,.int .i64 0] 45):=⟨_,rfl⟩
   have hb:Below V.heap.size V X:=by rw [hX];exact b_step (n_after _ _) (n_after _ _)
   have BC:Cells X V.heap.size [.slice (some ⟨V.heap.size + 1,0,none⟩) 1 1,.slice none 0 0,.slice none 0 0,.int .i64 r]:=by rw [hX];exact Cells.step (Cells.new V [.slice (some ⟨V.heap.size + 1,0,none⟩) 1 1,.slice none 0 0,.slice none 0 0,.int .i64 r] _) (n_after _ _)
   have H3:Hid (Three w0 X (.slice (some ⟨V.heap.size + 1,0,none⟩) 1 1) (.slice none 0 0) (.slice none 0 0) [Pt.O] [] []):=by rw [hX];exact three_ball (b_step hD.out (n_after V _)) _ (by simp)
   have D2:=Cells.step D2.out hb
   have n1:Value.ownBlock (.slice (some ⟨V.heap.size + 1,0,none⟩) 1 1) ≠ some br:=by simp [Value.ownBlock];omega
   have n2:Value.ownBlock (.slice none 0 0) ≠ some br:=by simp [Value.ownBlock]
   have n3:=n2
   rw [<- hX]
   clear hX hb s0 s1 s2 s3 s4 s5 D1
   have t0:=(BC 0 _ rfl).1
   have t1:=(BC 1 _ rfl).1
   have t2:=(BC 2 _ rfl).1
   have t3:=(BC 3 _ rfl).1
   have r0:=(D2 0 _ rfl).1
   have r1:=(D2 1 _ rfl).1
   have r2:=(D2 2 _ rfl).1
   have r3:=(D2 3 _ rfl).1
   have f0:=(D2 0 _ rfl).2
   have f1:=(D2 1 _ rfl).2
   have f2:=(D2 2 _ rfl).2
   have f3:=(D2 3 _ rfl).2
   clear BC D2
   go_wp2_with (fail)
   refine bodyPost_ret (v:=.tuple #[.agg #[.slice (some ⟨V.heap.size + 1,0,none⟩) 1 1,.slice none 0 0,.slice none 0 0,.int .i64 r],.int .i64 0]) (by simp [results,Tryz.results55,go_sem,r0,r1,r2,r3]) rfl ⟨_,_,_,rfl,?_⟩
   exact H3.out.set hbl n1 n2 n3 _ _ _ _
  by_cases k2:k = 2
  ·subst k2
   have eP:P = [⟨-hx,0,0⟩,⟨hx,0,0⟩]:=HPT.out
   have eA:A = []:=HAX.out
   have eE:E = [⟨1,0,0⟩]:=HED.out
   have hhx:1 <= hx/\hx <= 65536:=by
    have:=HFM.out
    simp [halfOk] at this
    exact this.2
   clear HPT HAX HED HFM
   subst eP eA eE
   clear r0 r1 r2 r3 f0 f1 f2 f3
   go_upto_region 22 with fail
   obtain ⟨X,hX⟩:∃ X:World,X = ((V.alloc (.cells #[.slice (some ⟨V.heap.size + 1,0,none⟩) 2 2,.slice none 0 0,.slice (some ⟨V.heap.size + 1 + 1,0,none⟩) 1 1,.int .i64 r] 28)).alloc (.cells #[.int .i64 (-hx),.int .i64 0,.int .i64 0,.int .i64 hx,.int .i64 0,.int .i64 0] 45)).alloc (.cells #[.int .i64 1,.int .i64 0,.int .i64 0] 45):=⟨_,rfl⟩
   have hb:Below V.heap.size V X:=by rw [hX];exact b_step (b_step (n_after _ _) (n_after _ _)) (n_after _ _)
   have BC:Cells X V.heap.size [.slice (some ⟨V.heap.size + 1,0,none⟩) 2 2,.slice none 0 0,.slice (some ⟨V.heap.size + 1 + 1,0,none⟩) 1 1,.int .i64 r]:=by rw [hX];exact Cells.step (Cells.new V [.slice (some ⟨V.heap.size + 1,0,none⟩) 2 2,.slice none 0 0,.slice (some ⟨V.heap.size + 1 + 1,0,none⟩) 1 1,.int .i64 r] _) (b_step (n_after _ _) (n_after _ _))
   have H3:Hid (Three w0 X (.slice (some ⟨V.heap.size + 1,0,none⟩) 2 2) (.slice none 0 0) (.slice (some ⟨V.heap.size + 1 + 1,0,none⟩) 1 1) [⟨-hx,0,0⟩,⟨hx,0,0⟩] [] [⟨1,0,0⟩]):=by rw [hX];exact three_capsule (b_step hD.out (n_after V _)) hx _ _ (by simp) (by simp)
   have D2:=Cells.step D2.out hb
   have n1:Value.ownBlock (.slice (some ⟨V.heap.size + 1,0,none⟩) 2 2) ≠ some br:=by simp [Value.ownBlock];omega
   have n2:Value.ownBlock (.slice none 0 0) ≠ some br:=by simp [Value.ownBlock]
   have n3:Value.ownBlock (.slice (some ⟨V.heap.size + 1 + 1,0,none⟩) 1 1) ≠ some br:=by simp [Value.ownBlock];omega
   rw [<- hX]
   clear hX hb s0 s1 s2 s3 s4 s5 D1
   have t0:=(BC 0 _ rfl).1
   have t1:=(BC 1 _ rfl).1
   have t2:=(BC 2 _ rfl).1
   have t3:=(BC 3 _ rfl).1
   have r0:=(D2 0 _ rfl).1
   have r1:=(D2 1 _ rfl).1
   have r2:=(D2 2 _ rfl).1
   have r3:=(D2 3 _ rfl).1
   have f0:=(D2 0 _ rfl).2
   have f1:=(D2 1 _ rfl).2
   have f2:=(D2 2 _ rfl).2
   have f3:=(D2 3 _ rfl).2
   clear BC D2
   go_wp2_with (fail)
   refine bodyPost_ret (v:=.tuple #[.agg #[.slice (some ⟨V.heap.size + 1,0,none⟩) 2 2,.slice none 0 0,.slice (some ⟨V.heap.size + 1 + 1,0,none⟩) 1 1,.int .i64 r],.int .i64 0]) (by simp [results,Tryz.results55,go_sem,r0,r1,r2,r3]) rfl ⟨_,_,_,rfl,?_⟩
   exact H3.out.set hbl n1 n2 n3 _ _ _ _
  by_cases k3:k = 3
  ·subst k3
   have eP:P = cornersP ⟨hx,hy,hz⟩:=HPT.out
   have eA:A = straightP:=HAX.out
   have eE:E = straightP:=HED.out
   have hh:(1 <= hx/\hx <= 65536)/\(1 <= hy/\hy <= 65536)/\(1 <= hz/\hz <= 65536):=by
    have:=HFM.out
    simp [halfOk] at this
    exact this.2
   clear HPT HAX HED HFM
   subst eP eA eE
   clear r0 r1 r2 r3 f0 f1 f2 f3
   go_upto_region 16 with fail
   obtain ⟨X,hX⟩:∃ X:World,X = V.alloc (.cells #[.slice none 0 0,.slice none 0 0,.slice none 0 0,.int .i64 r] 28):=⟨_,rfl⟩
   obtain ⟨b5,hb5⟩:∃ b,b = V.heap.size:=⟨_,rfl⟩
   have hbX:Below V.heap.size V X:=by rw [hX];exact n_after _ _
   have KS0:Hid (KS w0 X ba br b5 [.int .i64 3,.int .i64 r,.int .i64 hx,.int .i64 hy,.int .i64 hz,.slice o L.length c] (.int .i64 r) (.slice none 0 0) []):=⟨Cells.step D1.out hbX,Cells.step D2.out hbX,by rw [hX,hb5];exact Cells.new V [.slice none 0 0,.slice none 0 0,.slice none 0 0,.int .i64 r] _,World.ownsRow_nil _ _ _ _,(fun e=>by cases e),(fun e=>by cases e),(fun e=>by cases e),b_step hD.out hbX,by have:=hD.out.size;omega,by omega,by omega,⟨_,rfl⟩⟩
   rw [<- hX,<- hb5]
   clear hX hb5 hbX s0 s1 s2 s3 s4 s5 D1 D2 hbv hav
   have w1:IntKind.i64.wrap (-hx) = -hx:=by rw [IntKind.wrap_i64];omega
   have w2:IntKind.i64.wrap (-hy) = -hy:=by rw [IntKind.wrap_i64];omega
   have w3:IntKind.i64.wrap (-hz) = -hz:=by rw [IntKind.wrap_i64];omega
   have w4:IntKind.i64.wrap hx = hx:=by rw [IntKind.wrap_i64];omega
   have w5:IntKind.i64.wrap hy = hy:=by rw [IntKind.wrap_i64];omega
   have w6:IntKind.i64.wrap hz = hz:=by rw [IntKind.wrap_i64];omega
   clear hh
   go_wp2_with (fail)
   go_loopg [6] 8 (fun gm s wr=>∃ (i:Nat) (u:Value),s = .int .i64 (i:Int)/\i <= 8/\gm = 8 - i/\Hid (KS w0 wr ba br b5 [.int .i64 3,.int .i64 r,.int .i64 hx,.int .i64 hy,.int .i64 hz,.slice o L.length c] (.int .i64 r) u ((cornersP ⟨hx,hy,hz⟩).take i)))
   case atStart=>exact ⟨0,_,rfl,by omega,rfl,KS0.out⟩
   case round =>
    clear KS0
    obtain ⟨i,u,rfl,hi,hgm,KQ⟩:=hrel
    have HG1:Hid _:=hgm
    clear hgm
    by_cases hit:i < 8
    ·have s2:=(KQ.out.c1 2 _ rfl).1
     have s3:=(KQ.out.c1 3 _ rfl).1
     have s4:=(KQ.out.c1 4 _ rfl).1
     have t0:=(KQ.out.c3 0 _ rfl).1
     have g0:=(KQ.out.c3 0 _ rfl).2
     obtain ⟨ou,lu,cu,rfl⟩:=own_slice KQ.out.row
     rcases (show i = 0 \/ i = 1 \/ i = 2 \/ i = 3 \/ i = 4 \/ i = 5 \/ i = 6 \/ i = 7 by omega) with rfl | rfl | rfl | rfl | rfl | rfl | rfl | rfl
     ·go_wp2_with (at_builtin;refine wpList_append_own_at _ rfl _ _ 26 rfl w0.heap.size 45 i0 _ 3 24 Tryz.underlying26 HI.out.1 HI.out.2.1 HI.out.2.2.1 HI.out.2.2.2 rfl (by decide) _ _ _ rfl (own_below KQ.out.row (n_after wr _)) ⟨wr.heap.size,0,none⟩ 1 1 [.int .i64 (-hx),.int .i64 (-hy),.int .i64 (-hz)] rfl rfl (news_at (heap_alloc_new wr _)) (by intro u hu;simp at hu;rcases hu with rfl | rfl | rfl <;> rfl) (by unfold maxLen;simp [cornersP]) (by simp [cornersP]) (by simp;have:=KQ.out.below.size;omega) ?_;intro u9 V2 r8 g8 _ s8;obtain ⟨o9,l9,c9,rfl⟩:=own_slice r8;have t9:=(Cells.grown (Cells.step KQ.out.c3 (n_after wr (.cells #[.int .i64 (-hx),.int .i64 (-hy),.int .i64 (-hz)] 45))) g8 KQ.out.n3) 0 _ rfl;have t0:=t9.1;have g0:=t9.2;clear t9)
      have KX:Hid (KS w0 (V2.setCell ⟨b5,0,none⟩ (.slice o9 l9 c9)) ba br b5 [.int .i64 3,.int .i64 r,.int .i64 hx,.int .i64 hy,.int .i64 hz,.slice o L.length c] (.int .i64 r) (.slice o9 l9 c9) ((cornersP ⟨hx,hy,hz⟩).take 1)):=(KQ.out.step (n_after wr (.cells #[.int .i64 (-hx),.int .i64 (-hy),.int .i64 (-hz)] 45))).app (by rw [<- corner_step ⟨hx,hy,hz⟩ 0 (by decide),fl3_append,List.length_append];exact r8) ⟨g8,by rcases s8 with e | e;exact Or.inl e;exact Or.inr ⟨_,e,Nat.le_refl _⟩⟩
      go_roundg (8 - 1)
      case measure=>have:=HG1.out;omega
      case rel=>exact ⟨1,_,rfl,by omega,rfl,KX⟩
     ·go_wp2_with (at_builtin;refine wpList_append_own_at _ rfl _ _ 26 rfl w0.heap.size 45 i0 _ 3 24 Tryz.underlying26 HI.out.1 HI.out.2.1 HI.out.2.2.1 HI.out.2.2.2 rfl (by decide) _ _ _ rfl (own_below KQ.out.row (n_after wr _)) ⟨wr.heap.size,0,none⟩ 1 1 [.int .i64 (-hx),.int .i64 (-hy),.int .i64 hz] rfl rfl (news_at (heap_alloc_new wr _)) (by intro u hu;simp at hu;rcases hu with rfl | rfl | rfl <;> rfl) (by unfold maxLen;simp [cornersP]) (by simp [cornersP]) (by simp;have:=KQ.out.below.size;omega) ?_;intro u9 V2 r8 g8 _ s8;obtain ⟨o9,l9,c9,rfl⟩:=own_slice r8;have t9:=(Cells.grown (Cells.step KQ.out.c3 (n_after wr (.cells #[.int .i64 (-hx),.int .i64 (-hy),.int .i64 hz] 45))) g8 KQ.out.n3) 0 _ rfl;have t0:=t9.1;have g0:=t9.2;clear t9)
      have KX:Hid (KS w0 (V2.setCell ⟨b5,0,none⟩ (.slice o9 l9 c9)) ba br b5 [.int .i64 3,.int .i64 r,.int .i64 hx,.int .i64 hy,.int .i64 hz,.slice o L.length c] (.int .i64 r) (.slice o9 l9 c9) ((cornersP ⟨hx,hy,hz⟩).take 2)):=(KQ.out.step (n_after wr (.cells #[.int .i64 (-hx),.int .i64 (-hy),.int .i64 hz] 45))).app (by rw [<- corner_step ⟨hx,hy,hz⟩ 1 (by decide),fl3_append,List.length_append];exact r8) ⟨g8,by rcases s8 with e | e;exact Or.inl e;exact Or.inr ⟨_,e,Nat.le_refl _⟩⟩
      go_roundg (8 - 2)
      case measure=>have:=HG1.out;omega
      case rel=>exact ⟨2,_,rfl,by omega,rfl,KX⟩
     ·go_wp2_with (at_builtin;refine wpList_append_own_at _ rfl _ _ 26 rfl w0.heap.size 45 i0 _ 3 24 Tryz.underlying26 HI.out.1 HI.out.2.1 HI.out.2.2.1 HI.out.2.2.2 rfl (by decide) _ _ _ rfl (own_below KQ.out.row (n_after wr _)) ⟨wr.heap.size,0,none⟩ 1 1 [.int .i64 (-hx),.int .i64 hy,.int .i64 (-hz)] rfl rfl (news_at (heap_alloc_new wr _)) (by intro u hu;simp at hu;rcases hu with rfl | rfl | rfl <;> rfl) (by unfold maxLen;simp [cornersP]) (by simp [cornersP]) (by simp;have:=KQ.out.below.size;omega) ?_;intro u9 V2 r8 g8 _ s8;obtain ⟨o9,l9,c9,rfl⟩:=own_slice r8;have t9:=(Cells.grown (Cells.step KQ.out.c3 (n_after wr (.cells #[.int .i64 (-hx),.int .i64 hy,.int .i64 (-hz)] 45))) g8 KQ.out.n3) 0 _ rfl;have t0:=t9.1;have g0:=t9.2;clear t9)
      have KX:Hid (KS w0 (V2.setCell ⟨b5,0,none⟩ (.slice o9 l9 c9)) ba br b5 [.int .i64 3,.int .i64 r,.int .i64 hx,.int .i64 hy,.int .i64 hz,.slice o L.length c] (.int .i64 r) (.slice o9 l9 c9) ((cornersP ⟨hx,hy,hz⟩).take 3)):=(KQ.out.step (n_after wr (.cells #[.int .i64 (-hx),.int .i64 hy,.int .i64 (-hz)] 45))).app (by rw [<- corner_step ⟨hx,hy,hz⟩ 2 (by decide),fl3_append,List.length_append];exact r8) ⟨g8,by rcases s8 with e | e;exact Or.inl e;exact Or.inr ⟨_,e,Nat.le_refl _⟩⟩
      go_roundg (8 - 3)
      case measure=>have:=HG1.out;omega
      case rel=>exact ⟨3,_,rfl,by omega,rfl,KX⟩
     ·go_wp2_with (at_builtin;refine wpList_append_own_at _ rfl _ _ 26 rfl w0.heap.size 45 i0 _ 3 24 Tryz.underlying26 HI.out.1 HI.out.2.1 HI.out.2.2.1 HI.out.2.2.2 rfl (by decide) _ _ _ rfl (own_below KQ.out.row (n_after wr _)) ⟨wr.heap.size,0,none⟩ 1 1 [.int .i64 (-hx),.int .i64 hy,.int .i64 hz] rfl rfl (news_at (heap_alloc_new wr _)) (by intro u hu;simp at hu;rcases hu with rfl | rfl | rfl <;> rfl) (by unfold maxLen;simp [cornersP]) (by simp [cornersP]) (by simp;have:=KQ.out.below.size;omega) ?_;intro u9 V2 r8 g8 _ s8;obtain ⟨o9,l9,c9,rfl⟩:=own_slice r8;have t9:=(Cells.grown (Cells.step KQ.out.c3 (n_after wr (.cells #[.int .i64 (-hx),.int .i64 hy,.int .i64 hz] 45))) g8 KQ.out.n3) 0 _ rfl;have t0:=t9.1;have g0:=t9.2;clear t9)
      have KX:Hid (KS w0 (V2.setCell ⟨b5,0,none⟩ (.slice o9 l9 c9)) ba br b5 [.int .i64 3,.int .i64 r,.int .i64 hx,.int .i64 hy,.int .i64 hz,.slice o L.length c] (.int .i64 r) (.slice o9 l9 c9) ((cornersP ⟨hx,hy,hz⟩).take 4)):=(KQ.out.step (n_after wr (.cells #[.int .i64 (-hx),.int .i64 hy,.int .i64 hz] 45))).app (by rw [<- corner_step ⟨hx,hy,hz⟩ 3 (by decide),fl3_append,List.length_append];exact r8) ⟨g8,by rcases s8 with e | e;exact Or.inl e;exact Or.inr ⟨_,e,Nat.le_refl _⟩⟩
      go_roundg (8 - 4)
      case measure=>have:=HG1.out;omega
      case rel=>exact ⟨4,_,rfl,by omega,rfl,KX⟩
     ·go_wp2_with (at_builtin;refine wpList_append_own_at _ rfl _ _ 26 rfl w0.heap.size 45 i0 _ 3 24 Tryz.underlying26 HI.out.1 HI.out.2.1 HI.out.2.2.1 HI.out.2.2.2 rfl (by decide) _ _ _ rfl (own_below KQ.out.row (n_after wr _)) ⟨wr.heap.size,0,none⟩ 1 1 [.int .i64 hx,.int .i64 (-hy),.int .i64 (-hz)] rfl rfl (news_at (heap_alloc_new wr _)) (by intro u hu;simp at hu;rcases hu with rfl | rfl | rfl <;> rfl) (by unfold maxLen;simp [cornersP]) (by simp [cornersP]) (by simp;have:=KQ.out.below.size;omega) ?_;intro u9 V2 r8 g8 _ s8;obtain ⟨o9,l9,c9,rfl⟩:=own_slice r8;have t9:=(Cells.grown (Cells.step KQ.out.c3 (n_after wr (.cells #[.int .i64 hx,.int .i64 (-hy),.int .i64 (-hz)] 45))) g8 KQ.out.n3) 0 _ rfl;have t0:=t9.1;have g0:=t9.2;clear t9)
      have KX:Hid (KS w0 (V2.setCell ⟨b5,0,none⟩ (.slice o9 l9 c9)) ba br b5 [.int .i64 3,.int .i64 r,.int .i64 hx,.int .i64 hy,.int .i64 hz,.slice o L.length c] (.int .i64 r) (.slice o9 l9 c9) ((cornersP ⟨hx,hy,hz⟩).take 5)):=(KQ.out.step (n_after wr (.cells #[.int .i64 hx,.int .i64 (-hy),.int .i64 (-hz)] 45))).app (by rw [<- corner_step ⟨hx,hy,hz⟩ 4 (by decide),fl3_append,List.length_append];exact r8) ⟨g8,by rcases s8 with e | e;exact Or.inl e;exact Or.inr ⟨_,e,Nat.le_refl _⟩⟩
      go_roundg (8 - 5)
      case measure=>have:=HG1.out;omega
      case rel=>exact ⟨5,_,rfl,by omega,rfl,KX⟩
     ·go_wp2_with (at_builtin;refine wpList_append_own_at _ rfl _ _ 26 rfl w0.heap.size 45 i0 _ 3 24 Tryz.underlying26 HI.out.1 HI.out.2.1 HI.out.2.2.1 HI.out.2.2.2 rfl (by decide) _ _ _ rfl (own_below KQ.out.row (n_after wr _)) ⟨wr.heap.size,0,none⟩ 1 1 [.int .i64 hx,.int .i64 (-hy),.int .i64 hz] rfl rfl (news_at (heap_alloc_new wr _)) (by intro u hu;simp at hu;rcases hu with rfl | rfl | rfl <;> rfl) (by unfold maxLen;simp [cornersP]) (by simp [cornersP]) (by simp;have:=KQ.out.below.size;omega) ?_;intro u9 V2 r8 g8 _ s8;obtain ⟨o9,l9,c9,rfl⟩:=own_slice r8;have t9:=(Cells.grown (Cells.step KQ.out.c3 (n_after wr (.cells #[.int .i64 hx,.int .i64 (-hy),.int .i64 hz] 45))) g8 KQ.out.n3) 0 _ rfl;have t0:=t9.1;have g0:=t9.2;clear t9)
      have KX:Hid (KS w0 (V2.setCell ⟨b5,0,none⟩ (.slice o9 l9 c9)) ba br b5 [.int .i64 3,.int .i64 r,.int .i64 hx,.int .i64 hy,.int .i64 hz,.slice o L.length c] (.int .i64 r) (.slice o9 l9 c9) ((cornersP ⟨hx,hy,hz⟩).take 6)):=(KQ.out.step (n_after wr (.cells #[.int .i64 hx,.int .i64 (-hy),.int .i64 hz] 45))).app (by rw [<- corner_step ⟨hx,hy,hz⟩ 5 (by decide),fl3_append,List.length_append];exact r8) ⟨g8,by rcases s8 with e | e;exact Or.inl e;exact Or.inr ⟨_,e,Nat.le_refl _⟩⟩
      go_roundg (8 - 6)
      case measure=>have:=HG1.out;omega
      case rel=>exact ⟨6,_,rfl,by omega,rfl,KX⟩
     ·go_wp2_with (at_builtin;refine wpList_append_own_at _ rfl _ _ 26 rfl w0.heap.size 45 i0 _ 3 24 Tryz.underlying26 HI.out.1 HI.out.2.1 HI.out.2.2.1 HI.out.2.2.2 rfl (by decide) _ _ _ rfl (own_below KQ.out.row (n_after wr _)) ⟨wr.heap.size,0,none⟩ 1 1 [.int .i64 hx,.int .i64 hy,.int .i64 (-hz)] rfl rfl (news_at (heap_alloc_new wr _)) (by intro u hu;simp at hu;rcases hu with rfl | rfl | rfl <;> rfl) (by unfold maxLen;simp [cornersP]) (by simp [cornersP]) (by simp;have:=KQ.out.below.size;omega) ?_;intro u9 V2 r8 g8 _ s8;obtain ⟨o9,l9,c9,rfl⟩:=own_slice r8;have t9:=(Cells.grown (Cells.step KQ.out.c3 (n_after wr (.cells #[.int .i64 hx,.int .i64 hy,.int .i64 (-hz)] 45))) g8 KQ.out.n3) 0 _ rfl;have t0:=t9.1;have g0:=t9.2;clear t9)
      have KX:Hid (KS w0 (V2.setCell ⟨b5,0,none⟩ (.slice o9 l9 c9)) ba br b5 [.int .i64 3,.int .i64 r,.int .i64 hx,.int .i64 hy,.int .i64 hz,.slice o L.length c] (.int .i64 r) (.slice o9 l9 c9) ((cornersP ⟨hx,hy,hz⟩).take 7)):=(KQ.out.step (n_after wr (.cells #[.int .i64 hx,.int .i64 hy,.int .i64 (-hz)] 45))).app (by rw [<- corner_step ⟨hx,hy,hz⟩ 6 (by decide),fl3_append,List.length_append];exact r8) ⟨g8,by rcases s8 with e | e;exact Or.inl e;exact Or.inr ⟨_,e,Nat.le_refl _⟩⟩
      go_roundg (8 - 7)
      case measure=>have:=HG1.out;omega
      case rel=>exact ⟨7,_,rfl,by omega,rfl,KX⟩
     ·go_wp2_with (at_builtin;refine wpList_append_own_at _ rfl _ _ 26 rfl w0.heap.size 45 i0 _ 3 24 Tryz.underlying26 HI.out.1 HI.out.2.1 HI.out.2.2.1 HI.out.2.2.2 rfl (by decide) _ _ _ rfl (own_below KQ.out.row (n_after wr _)) ⟨wr.heap.size,0,none⟩ 1 1 [.int .i64 hx,.int .i64 hy,.int .i64 hz] rfl rfl (news_at (heap_alloc_new wr _)) (by intro u hu;simp at hu;rcases hu with rfl | rfl | rfl <;> rfl) (by unfold maxLen;simp [cornersP]) (by simp [cornersP]) (by simp;have:=KQ.out.below.size;omega) ?_;intro u9 V2 r8 g8 _ s8;obtain ⟨o9,l9,c9,rfl⟩:=own_slice r8;have t9:=(Cells.grown (Cells.step KQ.out.c3 (n_after wr (.cells #[.int .i64 hx,.int .i64 hy,.int .i64 hz] 45))) g8 KQ.out.n3) 0 _ rfl;have t0:=t9.1;have g0:=t9.2;clear t9)
      have KX:Hid (KS w0 (V2.setCell ⟨b5,0,none⟩ (.slice o9 l9 c9)) ba br b5 [.int .i64 3,.int .i64 r,.int .i64 hx,.int .i64 hy,.int .i64 hz,.slice o L.length c] (.int .i64 r) (.slice o9 l9 c9) ((cornersP ⟨hx,hy,hz⟩).take 8)):=(KQ.out.step (n_after wr (.cells #[.int .i64 hx,.int .i64 hy,.int .i64 hz] 45))).app (by rw [<- corner_step ⟨hx,hy,hz⟩ 7 (by decide),fl3_append,List.length_append];exact r8) ⟨g8,by rcases s8 with e | e;exact Or.inl e;exact Or.inr ⟨_,e,Nat.le_refl _⟩⟩
      go_roundg (8 - 8)
      case measure=>have:=HG1.out;omega
      case rel=>exact ⟨8,_,rfl,by omega,rfl,KX⟩
    ·have e:i = 8:=by omega
     subst e
     obtain ⟨ou,lu,cu,rfl⟩:=own_slice KQ.out.row
     have t1:=(KQ.out.c3 1 _ rfl).1
     have t2:=(KQ.out.c3 2 _ rfl).1
     have g1:=(KQ.out.c3 1 _ rfl).2
     have g2:=(KQ.out.c3 2 _ rfl).2
     have hl5:b5 < wr.heap.size:=World.block_lt_of_cell? _ _ t1
     have hne5:¬ wr.heap.size = b5:=by omega
     obtain ⟨H3',BC',D2',n2,n3⟩:=KQ.out.brick hbl (va:=.slice (some ⟨wr.heap.size,0,none⟩) 3 3) (ve:=.slice (some ⟨wr.heap.size + 1,0,none⟩) 3 3) rfl rfl
     have n1:=KQ.out.ns
     rw [List.take_of_length_le (by simp [cornersP])] at H3'
     have H3:Hid _:=H3'
     have BC:Hid _:=BC'
     have D2:Hid _:=D2'
     unfold lit9 at H3 BC D2
     clear H3' BC' D2'
     go_upto_region 22 with fail
     generalize (((wr.setCell ⟨b5,1,none⟩ (.slice (some ⟨wr.heap.size,0,none⟩) 3 3)).setCell ⟨b5,2,none⟩ (.slice (some ⟨wr.heap.size + 1,0,none⟩) 3 3)).alloc (.cells #[.int .i64 1,.int .i64 0,.int .i64 0,.int .i64 0,.int .i64 1,.int .i64 0,.int .i64 0,.int .i64 0,.int .i64 1] 45)).alloc (.cells #[.int .i64 1,.int .i64 0,.int .i64 0,.int .i64 0,.int .i64 1,.int .i64 0,.int .i64 0,.int .i64 0,.int .i64 1] 45) = X9 at *
     clear t1 t2 g1 g2 hl5 hne5
     have BC:=BC.out
     have D2:=D2.out
     have t0:=(BC 0 _ rfl).1
     have t1:=(BC 1 _ rfl).1
     have t2:=(BC 2 _ rfl).1
     have t3:=(BC 3 _ rfl).1
     have r0:=(D2 0 _ rfl).1
     have r1:=(D2 1 _ rfl).1
     have r2:=(D2 2 _ rfl).1
     have r3:=(D2 3 _ rfl).1
     have f0:=(D2 0 _ rfl).2
     have f1:=(D2 1 _ rfl).2
     have f2:=(D2 2 _ rfl).2
     have f3:=(D2 3 _ rfl).2
     clear BC D2
     go_wp2_with (fail)
     refine bodyPost_ret (v:=.tuple #[.agg #[.slice ou lu cu,.slice (some ⟨wr.heap.size,0,none⟩) 3 3,.slice (some ⟨wr.heap.size + 1,0,none⟩) 3 3,.int .i64 r],.int .i64 0]) (by simp [results,Tryz.results55,go_sem,r0,r1,r2,r3]) rfl ⟨_,_,_,rfl,?_⟩
     exact H3.out.set hbl n1 n2 n3 _ _ _ _
  by_cases k4:k = 4
  ·subst k4
   have eP:P = L:=HPT.out
   have eA:A = (sidesP L).1:=HAX.out
   have eE:E = (sidesP L).2:=HED.out
   have hm:mayP L = true:=by
    have:=HFM.out
    simp at this
    exact this.2
   obtain ⟨m1,m2,m3,m4⟩:=may_parts hm
   have M3:Hid _:=m3
   clear HPT HAX HED HFM hm m3 m4
   subst eP
   have EA:Hid _:=eA
   have EE:Hid _:=eE
   clear eA eE r0 r1 r2 r3 f0 f1 f2 f3
   go_upto_region 6 with fail
   obtain ⟨X,hX⟩:∃ X:World,X = V.alloc (.cells #[.slice none 0 0,.slice none 0 0,.slice none 0 0,.int .i64 r] 28):=⟨_,rfl⟩
   obtain ⟨b5,hb5⟩:∃ b,b = V.heap.size:=⟨_,rfl⟩
   have hbX:Below V.heap.size V X:=by rw [hX];exact n_after _ _
   have KS0:Hid (KS w0 X ba br b5 [.int .i64 4,.int .i64 r,.int .i64 hx,.int .i64 hy,.int .i64 hz,.slice o P.length c] (.int .i64 r) (.slice none 0 0) []):=⟨Cells.step D1.out hbX,Cells.step D2.out hbX,by rw [hX,hb5];exact Cells.new V [.slice none 0 0,.slice none 0 0,.slice none 0 0,.int .i64 r] _,World.ownsRow_nil _ _ _ _,(fun e=>by cases e),(fun e=>by cases e),(fun e=>by cases e),b_step hD.out hbX,by have:=hD.out.size;omega,by omega,by omega,⟨_,rfl⟩⟩
   rw [<- hX,<- hb5]
   clear hX hb5 hbX s0 s1 s2 s3 s4 s5 D1 D2 hbv hav
   have s5:=(KS0.out.c1 5 _ rfl).1
   have t0:=(KS0.out.c3 0 _ rfl).1
   have g0:=(KS0.out.c3 0 _ rfl).2
   have HVX:Hid _:=HV.out.below KS0.out.below
   obtain ⟨_,_,ev,_,_,hvc⟩:=HV.out.form
   cases ev
   obtain ⟨g,off,e9,_⟩:=hvc 0 (by omega)
   subst e9
   clear hvc
   have RD:Hid _:=Lies.read HVX.out 0 P ⟨[],by simp⟩
   rw [Nat.zero_mul,Nat.add_zero] at RD
   go_upto_region 7 with (at_builtin;refine wpList_append_own_at _ rfl _ _ 26 rfl w0.heap.size 45 i0 _ 3 24 Tryz.underlying26 HI.out.1 HI.out.2.1 HI.out.2.2.1 HI.out.2.2.2 rfl (by decide) _ 0 [] rfl (World.ownsRow_nil _ _ _ _) ⟨g,off,none⟩ P.length c (fl3 P) rfl (by rw [fl3_length]) RD.out (fl3_one _) (by unfold maxLen;omega) (by omega) KS0.out.below.size ?_;intro u9 V2 r8 g8 _ s8;obtain ⟨o9,l9,c9,rfl⟩:=own_slice r8;have t9:=(Cells.grown KS0.out.c3 g8 KS0.out.n3) 0 _ rfl;have t0:=t9.1;have g0:=t9.2;clear t9)
   have r8':V2.ownsRow w0.heap.size 45 3 (.slice o9 l9 c9) P.length (fl3 P):=by simpa using r8
   have KX:Hid (KS w0 (V2.setCell ⟨b5,0,none⟩ (.slice o9 l9 c9)) ba br b5 [.int .i64 4,.int .i64 r,.int .i64 hx,.int .i64 hy,.int .i64 hz,.slice (some ⟨g,off,none⟩) P.length c] (.int .i64 r) (.slice o9 l9 c9) P):=KS0.out.app r8' ⟨g8,by rcases s8 with e | e;exact Or.inl e;exact Or.inr ⟨_,e,Nat.le_refl _⟩⟩
   clear r8 r8' g8 s8 t0 g0 s5 RD HVX KS0
   generalize V2.setCell ⟨b5,0,none⟩ (.slice o9 l9 c9) = X4 at *
   have s5:=(KX.out.c1 5 _ rfl).1
   have HVX:Hid _:=HV.out.below KX.out.below
   go_wp2_with (fail)
   refine Calls.mono (rhull_any _ P X4 HVX.out (by omega) m2 M3.out) ?_
   rintro e X5 ⟨va,ve,rfl,ht⟩
   rw [<- EA.out,<- EE.out] at ht
   obtain ⟨o2,c2,rfl,_⟩:=(Lies.of_row ht.ra).form
   obtain ⟨o3,c3,rfl,_⟩:=(Lies.of_row ht.re).form
   have hb5:=ht.below
   have l5:b5 < X4.heap.size:=World.block_lt_of_cell? _ _ (KX.out.c3 0 _ rfl).1
   have lr:br < X4.heap.size:=World.block_lt_of_cell? _ _ (KX.out.c2 0 _ rfl).1
   have hs4:=KX.out.below.size
   have H3':Three w0 X5 (.slice o9 l9 c9) (.slice o2 A.length c2) (.slice o3 E.length c3) P A E:=⟨own_below KX.out.row hb5,own_le ht.ra hs4,own_le ht.re hs4,fun k e e'=>by have a:=(KX.out.row.lt k e).2;have b:=(ht.ra.lt k e').1;omega,fun k e e'=>by have a:=(KX.out.row.lt k e).2;have b:=(ht.re.lt k e').1;omega,fun k e e'=>ht.apart k e' e,b_step KX.out.below hb5⟩
   have q1:=KX.out.n3
   have q2:(Value.slice o2 A.length c2).ownBlock ≠ some b5:=fun e=>by have:=(ht.ra.lt _ e).1;omega
   have q3:(Value.slice o3 E.length c3).ownBlock ≠ some b5:=fun e=>by have:=(ht.re.lt _ e).1;omega
   have n1:=KX.out.ns
   have n2:(Value.slice o2 A.length c2).ownBlock ≠ some br:=fun e=>by have:=(ht.ra.lt _ e).1;omega
   have n3:(Value.slice o3 E.length c3).ownBlock ≠ some br:=fun e=>by have:=(ht.re.lt _ e).1;omega
   have BC':=((KX.out.c3.step hb5).set 1 (.slice o2 A.length c2) (by simp)).set 2 (.slice o3 E.length c3) (by simp)
   have D2':=((KX.out.c2.step hb5).put KX.out.d2 1 (.slice o2 A.length c2)).put KX.out.d2 2 (.slice o3 E.length c3)
   have H3:Hid _:=(H3'.put KX.out.l3 q1 q2 q3 1 (.slice o2 A.length c2)).put KX.out.l3 q1 q2 q3 2 (.slice o3 E.length c3)
   have t1:=(KX.out.c3.step hb5 1 _ rfl).1
   have t2:=(KX.out.c3.step hb5 2 _ rfl).1
   have g1:=(KX.out.c3.step hb5 1 _ rfl).2
   have g2:=(KX.out.c3.step hb5 2 _ rfl).2
   clear ht hb5 s5 H3' HVX
   go_upto_region 22 with fail
   generalize (X5.setCell ⟨b5,1,none⟩ (.slice o2 A.length c2)).setCell ⟨b5,2,none⟩ (.slice o3 E.length c3) = X6 at *
   clear t1 t2 g1 g2
   have BC:=BC'
   have D2:=D2'
   clear BC' D2'
   have t0:=(BC 0 _ rfl).1
   have t1:=(BC 1 _ rfl).1
   have t2:=(BC 2 _ rfl).1
   have t3:=(BC 3 _ rfl).1
   have r0:=(D2 0 _ rfl).1
   have r1:=(D2 1 _ rfl).1
   have r2:=(D2 2 _ rfl).1
   have r3:=(D2 3 _ rfl).1
   have f0:=(D2 0 _ rfl).2
   have f1:=(D2 1 _ rfl).2
   have f2:=(D2 2 _ rfl).2
   have f3:=(D2 3 _ rfl).2
   clear BC D2
   go_wp2_with (fail)
   refine bodyPost_ret (v:=.tuple #[.agg #[.slice o9 l9 c9,.slice o2 A.length c2,.slice o3 E.length c3,.int .i64 r],.int .i64 0]) (by simp [results,Tryz.results55,go_sem,r0,r1,r2,r3]) rfl ⟨_,_,_,rfl,?_⟩
   exact H3.out.set hbl n1 n2 n3 _ _ _ _
  ·have:=HFM.out
   rw [if_neg k1,if_neg k2,if_neg k3,if_neg k4] at this
   cases this
 ·clear HFO
  go_wp2_with (fail)
  refine bodyPost_ret (v:=.tuple #[.agg #[.slice none 0 0,.slice none 0 0,.slice none 0 0,.int .i64 0],.int .i64 C]) (by simp [results,Tryz.results55,go_sem,r0,r1,r2,r3]) rfl ⟨_,_,_,fun _=>⟨rfl,?_⟩,fun h=>absurd h hC⟩
  exact three_nil (set4_below hD.out hbl _ _ _ _)
end
section
def Sup (L:List Pt) (n a:Pt):Prop:=∀ m ∈ L,n.dot (m.sub a) <= 0
def comb (g:Int) (n:Pt) (f:Int) (w:Pt):Pt:=⟨g * n.x + f * w.x,g * n.y + f * w.y,g * n.z + f * w.z⟩
theorem comb_dot (g f:Int) (n w d:Pt):(comb g n f w).dot d = g * n.dot d + f * w.dot d:=by simp only [comb,Pt.dot];grind
theorem self_nonneg (k:Int):0 <= k * k:=by
 rcases Int.le_total 0 k with h | h
 ·exact Int.mul_nonneg h h
 ·exact Int.mul_nonneg_of_nonpos_of_nonpos h h
theorem dot_self_pos {p:Pt} (h:p ≠ Pt.O):0 < p.dot p:=by
 have hx:0 <= p.x * p.x:=self_nonneg _
 have hy:0 <= p.y * p.y:=self_nonneg _
 have hz:0 <= p.z * p.z:=self_nonneg _
 have sq:∀ k:Int,k ≠ 0->0 < k * k:=fun k hk=>by
  rcases Int.lt_or_gt_of_ne hk with h | h
  ·exact Int.mul_pos_of_neg_of_neg h h
  ·exact Int.mul_pos h h
 unfold Pt.dot
 rcases Pt.ne_O h with k | k | k
 ·have:=sq _ k;omega
 ·have:=sq _ k;omega
 ·have:=sq _ k;omega
theorem max_ratio (f g:Pt->Int):∀ L:List Pt,(∃ m ∈ L,0 < f m)->∃ m1 ∈ L,0 < f m1/\∀ m ∈ L,0 < f m->g m * f m1 <= g m1 * f m
 | [],h=>by obtain ⟨m,hm,_⟩:=h;cases hm
 | p :: r,h=>by
  by_cases hr:∃ m ∈ r,0 < f m
  ·obtain ⟨m1,hm1,h1,hall⟩:=max_ratio f g r hr
   by_cases hp:0 < f p/\g m1 * f p < g p * f m1
   ·refine ⟨p,by simp,hp.1,fun m hm hf=>?_⟩
    rw [List.mem_cons] at hm
    rcases hm with rfl | hm
    ·exact Int.le_refl _
    ·have a1:=hall m hm hf
     have b1:=Int.mul_le_mul_of_nonneg_right a1 (Int.le_of_lt hp.1)
     have b2:=Int.mul_le_mul_of_nonneg_right (Int.le_of_lt hp.2) (Int.le_of_lt hf)
     have e:g m * f p * f m1 <= g p * f m * f m1:=by
      have e1:g m * f p * f m1 = g m * f m1 * f p:=by grind
      have e2:g m1 * f m * f p = g m1 * f p * f m:=by grind
      have e3:g p * f m1 * f m = g p * f m * f m1:=by grind
      omega
     exact Int.le_of_mul_le_mul_right e h1
   ·refine ⟨m1,by simp [hm1],h1,fun m hm hf=>?_⟩
    rw [List.mem_cons] at hm
    rcases hm with rfl | hm
    ·exact Int.not_lt.1 fun e=>hp ⟨hf,e⟩
    ·exact hall m hm hf
  ·obtain ⟨m,hm,hf⟩:=h
   rw [List.mem_cons] at hm
   rcases hm with rfl | hm
   ·refine ⟨m,by simp,hf,fun k hk hfk=>?_⟩
    rw [List.mem_cons] at hk
    rcases hk with rfl | hk
    ·exact Int.le_refl _
    ·exact absurd ⟨k,hk,hfk⟩ hr
   ·exact absurd ⟨m,hm,hf⟩ hr
def Thick (L:List Pt) (a:Pt):Prop:=∀ k:Pt,k ≠ Pt.O->∃ m ∈ L,k.dot (m.sub a) ≠ 0
theorem thick_of {L:List Pt} {a:Pt} (ha:a ∈ L) (h:¬ flatAll L):Thick L a:=by
 intro k hk
 refine Classical.byContradiction fun hno=>h ?_
 have d:∀ m ∈ L,k.dot (m.sub a) = 0:=fun m hm=>Classical.byContradiction fun e=>hno ⟨m,hm,e⟩
 intro p hp q hq r hr s hs
 have dd:∀ m ∈ L,k.dot (m.sub p) = 0:=by
  intro m hm
  have:k.dot (m.sub p) = k.dot (m.sub a) - k.dot (p.sub a):=by simp only [Pt.dot,Pt.sub];grind
  rw [this,d m hm,d p hp];rfl
 exact det_plane hk (dd q hq) (dd r hr) (dd s hs)
theorem ne_of_dot {n u:Pt} (h:0 < n.dot u):n ≠ Pt.O:=fun e=>by subst e;simp [Pt.dot,Pt.O] at h
theorem tilt {L:List Pt} {n w a u:Pt} (hs:Sup L n a) (hz:∀ m ∈ L,n.dot (m.sub a) = 0->w.dot (m.sub a) = 0) (hw:w ≠ Pt.O) (hnw:n.dot w = 0) (ht:Thick L a) (hnu:0 < n.dot u) :
  ∃ n',Sup L n' a/\0 < n'.dot u/\(∃ m ∈ L,n.dot (m.sub a) < 0/\n'.dot (m.sub a) = 0)/\∀ d,n.dot d = 0->w.dot d = 0->n'.dot d = 0:=by
 have hn:=ne_of_dot hnu
 obtain ⟨f,hf⟩:∃ f:Pt->Int,∀ m,f m = -n.dot (m.sub a):=⟨_,fun _=>rfl⟩
 obtain ⟨g,hg⟩:∃ g:Pt->Int,∀ m,g m = w.dot (m.sub a):=⟨_,fun _=>rfl⟩
 have hex:∃ m ∈ L,0 < f m:=by
  obtain ⟨m,hm,h⟩:=ht n hn
  have:=hs m hm
  exact ⟨m,hm,by rw [hf];omega⟩
 obtain ⟨m1,hm1,f1,r1⟩:=max_ratio f g L hex
 obtain ⟨m2,hm2,f2,r2⟩:=max_ratio f (fun m=>-g m) L hex
 have fz:∀ m ∈ L,0 <= f m:=fun m hm=>by have:=hs m hm;rw [hf];omega
 have gz:∀ m ∈ L,f m = 0->g m = 0:=fun m hm e=>by rw [hg];exact hz m hm (by have:=hf m;omega)
 have s1:∀ m ∈ L,(comb (g m1) n (f m1) w).dot (m.sub a) <= 0:=by
  intro m hm
  rw [comb_dot,<- hg]
  have e:n.dot (m.sub a) = -f m:=by rw [hf];omega
  rw [e]
  rcases Int.lt_or_eq_of_le (fz m hm) with h | h
  ·have:=r1 m hm h
   have e2:g m1 * -f m + f m1 * g m = g m * f m1 - g m1 * f m:=by grind
   omega
  ·rw [gz m hm h.symm,<- h];simp
 have s2:∀ m ∈ L,(comb (-g m2) n (-f m2) w).dot (m.sub a) <= 0:=by
  intro m hm
  rw [comb_dot,<- hg]
  have e:n.dot (m.sub a) = -f m:=by rw [hf];omega
  rw [e]
  rcases Int.lt_or_eq_of_le (fz m hm) with h | h
  ·have:=r2 m hm h
   have e2:-g m2 * -f m + -f m2 * g m = -g m * f m2 - -g m2 * f m:=by grind
   omega
  ·rw [gz m hm h.symm,<- h];simp
 have key:∀ d:Pt,f m2 * (comb (g m1) n (f m1) w).dot d + f m1 * (comb (-g m2) n (-f m2) w).dot d = (f m2 * g m1 - f m1 * g m2) * n.dot d:=by
  intro d
  rw [comb_dot,comb_dot];grind
 have t1:(comb (g m1) n (f m1) w).dot (m1.sub a) = 0:=by
  rw [comb_dot,<- hg]
  have e:n.dot (m1.sub a) = -f m1:=by rw [hf];omega
  rw [e];grind
 have t2:(comb (-g m2) n (-f m2) w).dot (m2.sub a) = 0:=by
  rw [comb_dot,<- hg]
  have e:n.dot (m2.sub a) = -f m2:=by rw [hf];omega
  rw [e];grind
 have van:∀ (x y:Int) (d:Pt),n.dot d = 0->w.dot d = 0->(comb x n y w).dot d = 0:=by
  intro x y d h1 h2
  rw [comb_dot,h1,h2];simp
 have n1:n.dot (m1.sub a) < 0:=by have:=hf m1;omega
 have n2:n.dot (m2.sub a) < 0:=by have:=hf m2;omega
 by_cases p1:0 < (comb (g m1) n (f m1) w).dot u
 ·exact ⟨_,s1,p1,⟨m1,hm1,n1,t1⟩,van _ _⟩
 ·by_cases p2:0 < (comb (-g m2) n (-f m2) w).dot u
  ·exact ⟨_,s2,p2,⟨m2,hm2,n2,t2⟩,van _ _⟩
  ·exfalso
   have hD0:0 <= f m2 * g m1 - f m1 * g m2:=by
    have:=r1 m2 hm2 f2
    have e:g m2 * f m1 = f m1 * g m2:=Int.mul_comm _ _
    have e':g m1 * f m2 = f m2 * g m1:=Int.mul_comm _ _
    omega
   have ku:=key u
   have q1:f m2 * (comb (g m1) n (f m1) w).dot u <= 0:=Int.mul_nonpos_of_nonneg_of_nonpos (Int.le_of_lt f2) (Int.not_lt.1 p1)
   have q2:f m1 * (comb (-g m2) n (-f m2) w).dot u <= 0:=Int.mul_nonpos_of_nonneg_of_nonpos (Int.le_of_lt f1) (Int.not_lt.1 p2)
   have hD:f m2 * g m1 - f m1 * g m2 = 0:=by
    rcases Int.lt_or_eq_of_le hD0 with h | h
    ·have:=Int.mul_pos h hnu
     omega
    ·exact h.symm
   have kne:comb (g m1) n (f m1) w ≠ Pt.O:=by
    refine ne_of_dot (u:=w) ?_
    rw [comb_dot,hnw,Int.mul_zero,Int.zero_add]
    exact Int.mul_pos f1 (dot_self_pos hw)
   obtain ⟨m,hm,hne⟩:=ht _ kne
   have km:=key (m.sub a)
   rw [hD,Int.zero_mul] at km
   have a1:=s1 m hm
   have a2:=s2 m hm
   have b1:f m2 * (comb (g m1) n (f m1) w).dot (m.sub a) < 0:=Int.mul_neg_of_pos_of_neg f2 (by omega)
   have b2:f m1 * (comb (-g m2) n (-f m2) w).dot (m.sub a) <= 0:=Int.mul_nonpos_of_nonneg_of_nonpos (Int.le_of_lt f1) a2
   omega
def Face (L:List Pt) (a b c:Pt):Prop:=a ∈ L/\b ∈ L/\c ∈ L/\(b.sub a).cross (c.sub a) ≠ Pt.O/\Sup L ((b.sub a).cross (c.sub a)) a
theorem along {n p q:Pt} (hp:n.dot p = 0) (hq:n.dot q = 0):∀ d:Pt,n.dot n * (p.cross q).dot d = (p.cross q).dot n * n.dot d:=by
 have ex:n.dot n * (p.cross q).x - (p.cross q).dot n * n.x = n.dot p * (n.y * q.z - n.z * q.y) - n.dot q * (n.y * p.z - n.z * p.y):=by simp only [Pt.dot,Pt.cross];grind
 have ey:n.dot n * (p.cross q).y - (p.cross q).dot n * n.y = n.dot p * (n.z * q.x - n.x * q.z) - n.dot q * (n.z * p.x - n.x * p.z):=by simp only [Pt.dot,Pt.cross];grind
 have ez:n.dot n * (p.cross q).z - (p.cross q).dot n * n.z = n.dot p * (n.x * q.y - n.y * q.x) - n.dot q * (n.x * p.y - n.y * p.x):=by simp only [Pt.dot,Pt.cross];grind
 rw [hp,hq] at ex ey ez
 simp only [Int.zero_mul,Int.sub_zero] at ex ey ez
 intro d
 generalize p.cross q = N at *
 generalize n.dot n = A at *
 generalize N.dot n = B at *
 have fx:A * N.x = B * n.x:=by omega
 have fy:A * N.y = B * n.y:=by omega
 have fz:A * N.z = B * n.z:=by omega
 have:A * N.dot d = A * N.x * d.x + A * N.y * d.y + A * N.z * d.z:=by simp only [Pt.dot];grind
 rw [this,fx,fy,fz]
 simp only [Pt.dot];grind
theorem cross_swap (p q:Pt):q.cross p = (p.cross q).neg:=by simp only [Pt.cross,Pt.neg,Pt.mk.injEq];grind
theorem neg_dotF (p q:Pt):p.neg.dot q = -p.dot q:=by simp only [Pt.dot,Pt.neg];grind
theorem face_end {L:List Pt} {n a b c u:Pt} (hs:Sup L n a) (hnu:0 < n.dot u) (ha:a ∈ L) (hb:b ∈ L) (hc:c ∈ L) (h1:n.dot (b.sub a) = 0) (h2:n.dot (c.sub a) = 0) (hne:(b.sub a).cross (c.sub a) ≠ Pt.O) :
  ∃ a b c,Face L a b c/\0 < ((b.sub a).cross (c.sub a)).dot u:=by
 have al:=along h1 h2
 have hnn:=dot_self_pos (ne_of_dot hnu)
 have pos:0 < ((b.sub a).cross (c.sub a)).dot n \/ ((b.sub a).cross (c.sub a)).dot n < 0:=by
  rcases Int.lt_trichotomy (((b.sub a).cross (c.sub a)).dot n) 0 with h | h | h
  ·exact Or.inr h
  ·exfalso
   have:=al ((b.sub a).cross (c.sub a))
   rw [h,Int.zero_mul] at this
   have p:=Int.mul_pos hnn (dot_self_pos hne)
   omega
  ·exact Or.inl h
 have sgn:∀ {A B X Y:Int},0 < A->A * X = B * Y->(0 < B->Y <= 0->X <= 0)/\(0 < B->0 < Y->0 < X)/\(B < 0->Y <= 0->0 <= X)/\(B < 0->0 < Y->X < 0):=by
  intro A B X Y hA e
  refine ⟨fun hB hY=>?_,fun hB hY=>?_,fun hB hY=>?_,fun hB hY=>?_⟩
  ·refine Int.not_lt.1 fun hX=>?_
   have p1:=Int.mul_pos hA hX
   have p2:=Int.mul_nonpos_of_nonneg_of_nonpos (Int.le_of_lt hB) hY
   omega
  ·refine Int.not_le.1 fun hX=>?_
   have p1:=Int.mul_nonpos_of_nonneg_of_nonpos (Int.le_of_lt hA) hX
   have p2:=Int.mul_pos hB hY
   omega
  ·refine Int.not_lt.1 fun hX=>?_
   have p1:=Int.mul_neg_of_pos_of_neg hA hX
   have p2:=Int.mul_nonneg_of_nonpos_of_nonpos (Int.le_of_lt hB) hY
   omega
  ·refine Int.not_le.1 fun hX=>?_
   have p1:=Int.mul_nonneg (Int.le_of_lt hA) hX
   have p2:=Int.mul_neg_of_neg_of_pos hB hY
   omega
 rcases pos with h | h
 ·exact ⟨a,b,c,⟨ha,hb,hc,hne,fun m hm=>(sgn hnn (al (m.sub a))).1 h (hs m hm)⟩,(sgn hnn (al u)).2.1 h hnu⟩
 ·refine ⟨a,c,b,⟨ha,hc,hb,?_,fun m hm=>?_⟩,?_⟩
  ·rw [cross_swap];exact neg_ne hne
  ·have:=(sgn hnn (al (m.sub a))).2.2.1 h (hs m hm)
   rw [cross_swap,neg_dotF];omega
  ·have:=(sgn hnn (al u)).2.2.2 h hnu
   rw [cross_swap,neg_dotF];omega
theorem face_line {L:List Pt} {n a b u:Pt} (hs:Sup L n a) (hnu:0 < n.dot u) (ha:a ∈ L) (hb:b ∈ L) (hab:b ≠ a) (h1:n.dot (b.sub a) = 0) (ht:Thick L a) :
  ∃ a b c,Face L a b c/\0 < ((b.sub a).cross (c.sub a)).dot u:=by
 by_cases hc:∃ c ∈ L,n.dot (c.sub a) = 0/\(b.sub a).cross (c.sub a) ≠ Pt.O
 ·obtain ⟨c,hc,h2,hne⟩:=hc
  exact face_end hs hnu ha hb hc h1 h2 hne
 ·have hl:∀ m ∈ L,n.dot (m.sub a) = 0->(b.sub a).cross (m.sub a) = Pt.O:=fun m hm e=>Classical.byContradiction fun h=>hc ⟨m,hm,e,h⟩
  have hd:b.sub a ≠ Pt.O:=sub_ne hab
  have hn:=ne_of_dot hnu
  generalize hde:b.sub a = d at *
  have hw:n.cross d ≠ Pt.O:=by
   intro e
   have id:(n.cross d).dot (n.cross d) + n.dot d * n.dot d = n.dot n * d.dot d:=by simp only [Pt.dot,Pt.cross];grind
   rw [h1,e] at id
   have:=Int.mul_pos (dot_self_pos hn) (dot_self_pos hd)
   simp [Pt.dot,Pt.O] at id this
   omega
  have triple:∀ m:Pt,(n.cross d).dot m = n.dot (d.cross m):=by intro m;simp only [Pt.dot,Pt.cross];grind
  obtain ⟨n',s',u',⟨m,hm,hmn,hm0⟩,van⟩:=tilt (w:=n.cross d) hs (fun m hm e=>by rw [triple,hl m hm e];simp [Pt.dot,Pt.O]) hw (by simp only [Pt.dot,Pt.cross];grind) ht hnu
  have hwd:(n.cross d).dot d = 0:=by simp only [Pt.dot,Pt.cross];grind
  have hbd:n'.dot (b.sub a) = 0:=by rw [hde];exact van d h1 hwd
  refine face_end s' u' ha hb hm hbd hm0 ?_
  rw [hde]
  intro e
  have e1:d.x * n.dot (m.sub a) = 0/\d.y * n.dot (m.sub a) = 0/\d.z * n.dot (m.sub a) = 0:=by
   simp only [Pt.cross,Pt.O,Pt.mk.injEq] at e
   obtain ⟨c1,c2,c3⟩:=e
   generalize m.sub a = q at *
   have i1:d.x * n.dot q = q.x * n.dot d + n.y * (d.x * q.y - d.y * q.x) - n.z * (d.z * q.x - d.x * q.z):=by simp only [Pt.dot];grind
   have i2:d.y * n.dot q = q.y * n.dot d + n.z * (d.y * q.z - d.z * q.y) - n.x * (d.x * q.y - d.y * q.x):=by simp only [Pt.dot];grind
   have i3:d.z * n.dot q = q.z * n.dot d + n.x * (d.z * q.x - d.x * q.z) - n.y * (d.y * q.z - d.z * q.y):=by simp only [Pt.dot];grind
   rw [i1,i2,i3,c1,c2,c3,h1]
   simp
  have z:n.dot (m.sub a) = 0:=by
   rcases Pt.ne_O hd with h | h | h
   ·exact (Int.mul_eq_zero.1 e1.1).resolve_left h
   ·exact (Int.mul_eq_zero.1 e1.2.1).resolve_left h
   ·exact (Int.mul_eq_zero.1 e1.2.2).resolve_left h
  omega
theorem max_dot (u:Pt):∀ L:List Pt,L ≠ []->∃ a ∈ L,∀ m ∈ L,u.dot m <= u.dot a
 | [],h=>absurd rfl h
 | [p],_=>⟨p,by simp,fun m hm=>by simp at hm;subst hm;exact Int.le_refl _⟩
 | p :: q :: r,_=>by
  obtain ⟨a,ha,h⟩:=max_dot u (q :: r) (by simp)
  by_cases hp:u.dot p <= u.dot a
  ·exact ⟨a,List.mem_cons_of_mem _ ha,fun m hm=>by rw [List.mem_cons] at hm;rcases hm with rfl | hm;exact hp;exact h m hm⟩
  ·exact ⟨p,by simp,fun m hm=>by rw [List.mem_cons] at hm;rcases hm with rfl | hm;exact Int.le_refl _;have:=h m hm;omega⟩
theorem face_out {L:List Pt} {u w:Pt} (h0:L ≠ []) (hnf:¬ flatAll L) (hu:u ≠ Pt.O) (hw:w ≠ Pt.O) (huw:u.dot w = 0) :
  ∃ a b c,Face L a b c/\0 < ((b.sub a).cross (c.sub a)).dot u:=by
 obtain ⟨a,ha,hmax⟩:=max_dot u L h0
 have ht:=thick_of ha hnf
 have hs:Sup L u a:=by
  intro m hm
  have:=hmax m hm
  have e:u.dot (m.sub a) = u.dot m - u.dot a:=by simp only [Pt.dot,Pt.sub];grind
  omega
 have huu:=dot_self_pos hu
 by_cases hb:∃ b ∈ L,b ≠ a/\u.dot (b.sub a) = 0
 ·obtain ⟨b,hb,hab,e⟩:=hb
  exact face_line hs huu ha hb hab e ht
 ·obtain ⟨n',s',u',⟨m,hm,hmn,hm0⟩,_⟩:=tilt (w:=w) hs (fun m hm e=>by
   have:m = a:=Classical.byContradiction fun h=>hb ⟨m,hm,h,e⟩
   subst this;simp [Pt.dot,Pt.sub]) hw huw ht huu
  refine face_line s' u' ha hm (fun e=>?_) hm0 ht
  subst e
  simp [Pt.dot,Pt.sub] at hmn
end
end Go.Proofs.YtablgiflakncfaaGreat
