/- The document's own core of a shape. -/
import Derived.Test.YteebbpioffdncaaGreatEBBack20
import Derived.Test.YteebbpioffdncaaGreatEBBack10
set_option maxHeartbeats 4000000
set_option maxRecDepth 100000
set_option linter.unusedVariables false
namespace Go.Proofs.YteebbpioffdncaaGreat
open Go.Calls renaming mono -> JA
open Go.World renaming block_lt_of_cell? -> JB
open Tryz
open Go.Value renaming int -> J
open Go.IntKind renaming i64 -> Y
section
open Go.RowKit Go.Shelf
structure KS (w0 W:World) (ba br b5:Nat) (sh:List Value) (r:Value) (u:Value) (M:List Pt):Prop where
 c1:Cells W ba sh
 c2:Cells W br [.slice none 0 0,.slice none 0 0,.slice none 0 0,J Y 0]
 c3:Cells W b5 [u,.slice none 0 0,.slice none 0 0,r]
 row:W.ownsRow w0.heap.size 23 3 u M.length (fl3 M)
 na:u.ownBlock ≠ some ba
 ns:u.ownBlock ≠ some br
 n3:u.ownBlock ≠ some b5
 below:Below w0.heap.size w0 W
 l3:w0.heap.size <= b5
 d1:ba ≠ b5
 d2:br ≠ b5
 r0:∃ v,sh[0]? = some v
theorem KS.app {w0 V W:World} {ba br b5:Nat} {sh:List Value} {r u u':Value} {M N:List Pt} (h:KS w0 V ba br b5 sh r u M) (hr:W.ownsRow w0.heap.size 23 3 u' N.length (fl3 N)) (hg:Grew V W u u'):KS w0 (W.setCell ⟨b5,0,none⟩ u') ba br b5 sh r u' N:=by
 obtain ⟨v0,e0⟩:=h.r0
 have la:ba < V.heap.size:=JB _ _ (h.c1 0 _ e0).1
 have ls:br < V.heap.size:=JB _ _ (h.c2 0 _ rfl).1
 have l3:b5 < V.heap.size:=JB _ _ (h.c3 0 _ rfl).1
 have off:∀ b,b < V.heap.size->u.ownBlock ≠ some b->u'.ownBlock ≠ some b:=fun b hb hne e=>by
  rcases hg.same with s | ⟨k,s,hk⟩
  ·exact hne (s ▸ e)
  ·rw [s] at e;cases e;omega
 exact ⟨(h.c1.grown hg.grown h.na).put h.d1 _ _,(h.c2.grown hg.grown h.ns).put h.d2 _ _,(h.c3.grown hg.grown h.n3).set 0 u' (by simp),ownsRow_setCell_other hr (off _ l3 h.n3) _,off _ la h.na,off _ ls h.ns,off _ l3 h.n3,(h.below.grown hg.grown h.below.size (fun k e=>(h.row.lt k e).1)).setCell h.l3 _,h.l3,h.d1,h.d2,h.r0⟩
theorem KS.step {w0 V W:World} {ba br b5:Nat} {sh:List Value} {r u:Value} {M:List Pt} (h:KS w0 V ba br b5 sh r u M) (hb:Below V.heap.size V W):KS w0 W ba br b5 sh r u M:=
 ⟨h.c1.step hb,h.c2.step hb,h.c3.step hb,Jq h.row hb,h.na,h.ns,h.n3,Jf h.below hb,h.l3,h.d1,h.d2,h.r0⟩
def Jfc:Obj:=.cells #[J Y 1,J Y 0,J Y 0,J Y 0,J Y 1,J Y 0,J Y 0,J Y 0,J Y 1] 23
theorem Jkk (w:World) {base:Nat} (hb:base <= w.heap.size):(w.alloc Jfc).ownsRow base 23 3 (.slice (some ⟨w.heap.size,0,none⟩) 3 3) straightP.length (fl3 straightP):=
 World.ownsRow_lit (e:=23) (size:=3) w #[J Y 1,J Y 0,J Y 0,J Y 0,J Y 1,J Y 0,J Y 0,J Y 0,J Y 1] 3 hb (by unfold maxLen;omega) rfl
theorem KS.brick {w0 W:World} {ba br b5:Nat} {sh:List Value} {r u va ve:Value} {M:List Pt} (h:KS w0 W ba br b5 sh r u M) (hbr:w0.heap.size <= br) (ea:va = .slice (some ⟨W.heap.size,0,none⟩) 3 3) (ee:ve = .slice (some ⟨W.heap.size + 1,0,none⟩) 3 3) :
  Three w0 ((((W.setCell ⟨b5,1,none⟩ va).setCell ⟨b5,2,none⟩ ve).alloc Jfc).alloc Jfc) u va ve M straightP straightP/\Cells ((((W.setCell ⟨b5,1,none⟩ va).setCell ⟨b5,2,none⟩ ve).alloc Jfc).alloc Jfc) b5 [u,va,ve,r]/\Cells ((((W.setCell ⟨b5,1,none⟩ va).setCell ⟨b5,2,none⟩ ve).alloc Jfc).alloc Jfc) br [.slice none 0 0,.slice none 0 0,.slice none 0 0,J Y 0]/\va.ownBlock ≠ some br/\ve.ownBlock ≠ some br:=by
 have l5:b5 < W.heap.size:=JB _ _ (h.c3 0 _ rfl).1
 have lr:br < W.heap.size:=JB _ _ (h.c2 0 _ rfl).1
 obtain ⟨W1,hW1⟩:∃ W1,W1 = (W.setCell ⟨b5,1,none⟩ va).setCell ⟨b5,2,none⟩ ve:=⟨_,rfl⟩
 have sz:W1.heap.size = W.heap.size:=by rw [hW1];simp [World.setCell]
 have hs:=h.below.size
 have hb1:Below w0.heap.size w0 W1:=by rw [hW1];exact (h.below.setCell h.l3 _).setCell h.l3 _
 have hr1:W1.ownsRow w0.heap.size 23 3 u M.length (fl3 M):=by rw [hW1];exact ownsRow_setCell_other (ownsRow_setCell_other h.row h.n3 _) h.n3 _
 have hc3:Cells W1 b5 [u,va,ve,r]:=by rw [hW1];exact (h.c3.set 1 va (by simp)).set 2 ve (by simp)
 have hc2:Cells W1 br [.slice none 0 0,.slice none 0 0,.slice none 0 0,J Y 0]:=by rw [hW1];exact (h.c2.put h.d2 _ _).put h.d2 _ _
 rw [<- hW1]
 clear hW1
 have oa:va.ownBlock = some W.heap.size:=by rw [ea];rfl
 have oe:ve.ownBlock = some (W.heap.size + 1):=by rw [ee];rfl
 have nar:va.ownBlock ≠ some br:=by rw [oa];intro e;cases e;omega
 have ner:ve.ownBlock ≠ some br:=by rw [oe];intro e;cases e;omega
 have n1:=Jb W1 Jfc
 have n2:=Jb (W1.alloc Jfc) Jfc
 have ra:(W1.alloc Jfc).ownsRow w0.heap.size 23 3 va straightP.length (fl3 straightP):=by
  have:=Jkk W1 (base:=w0.heap.size) (by omega)
  rw [sz] at this;rw [ea];exact this
 have re:((W1.alloc Jfc).alloc Jfc).ownsRow w0.heap.size 23 3 ve straightP.length (fl3 straightP):=by
  have:=Jkk (W1.alloc Jfc) (base:=w0.heap.size) (by simp;omega)
  rw [World.size_alloc,sz] at this;rw [ee];exact this
 refine ⟨⟨Jq hr1 (Jf n1 n2),Jq ra n2,re,fun k e e'=>?_,fun k e e'=>?_,fun k e e'=>?_,Jf hb1 (Jf n1 n2)⟩,hc3.step (Jf n1 n2),hc2.step (Jf n1 n2),nar,ner⟩
 ·have a:=(h.row.lt k e).2;rw [oa] at e';cases e';omega
 ·have a:=(h.row.lt k e).2;rw [oe] at e';cases e';omega
 ·rw [oa] at e;rw [oe] at e';simp only [Option.some.injEq] at e e';omega
theorem Jbi (h:Pt) (i:Nat) (hi:i < 8):(J1 h).take i ++ [pt (J1 h) i] = (J1 h).take (i + 1):=(Jb2 (by simpa [J1] using hi)).symm
theorem Jo2 (s:Sh) (pv:Value) (w0:World) (hv:Lies w0 pv s.pts) :
  Calls Tryz.prog 80 #[s.v pv] w0 fun e W=>∃ vp va ve,(Jaj s ≠ 0->e = .returned (.tuple #[.agg #[vp,va,ve,J Y 0],J Y (Jaj s)])/\Three w0 W vp va ve [] [] [])/\(Jaj s = 0->e = .returned (.tuple #[.agg #[vp,va,ve,J Y s.radius],J Y 0])/\Three w0 W vp va ve (Jch s) (Jn5 s) (Jji s)):=by
 have hB:Hid (Below w0.heap.size w0 ((w0.alloc (.cells #[J Y s.kind,J Y s.radius,J Y s.half.x,J Y s.half.y,J Y s.half.z,pv] 37)).alloc (.cells #[.slice none 0 0,.slice none 0 0,.slice none 0 0,J Y 0] 110))):=Jf (Jb w0 _) (Jb _ _)
 have HF:Hid _:=Jfe s pv ((w0.alloc (.cells #[J Y s.kind,J Y s.radius,J Y s.half.x,J Y s.half.y,J Y s.half.z,pv] 37)).alloc (.cells #[.slice none 0 0,.slice none 0 0,.slice none 0 0,J Y 0] 110)) (hv.below hB.out)
 have B1:Hid (Cells ((w0.alloc (.cells #[J Y s.kind,J Y s.radius,J Y s.half.x,J Y s.half.y,J Y s.half.z,pv] 37)).alloc (.cells #[.slice none 0 0,.slice none 0 0,.slice none 0 0,J Y 0] 110)) w0.heap.size [J Y s.kind,J Y s.radius,J Y s.half.x,J Y s.half.y,J Y s.half.z,pv]):=(Cells.new w0 [J Y s.kind,J Y s.radius,J Y s.half.x,J Y s.half.y,J Y s.half.z,pv] _).step (Jb _ _)
 have B2:Hid (Cells ((w0.alloc (.cells #[J Y s.kind,J Y s.radius,J Y s.half.x,J Y s.half.y,J Y s.half.z,pv] 37)).alloc (.cells #[.slice none 0 0,.slice none 0 0,.slice none 0 0,J Y 0] 110)) (w0.heap.size + 1) [.slice none 0 0,.slice none 0 0,.slice none 0 0,J Y 0]):=by have:=Cells.new (w0.alloc (.cells #[J Y s.kind,J Y s.radius,J Y s.half.x,J Y s.half.y,J Y s.half.z,pv] 37)) [.slice none 0 0,.slice none 0 0,.slice none 0 0,J Y 0] 110;rwa [World.size_alloc] at this
 have HFO:Hid (Jaj s = 0->Jbj s = true):=fun h=>by
  cases hf:Jbj s with
  | true=>rfl
  | false=>unfold Jaj at h;rw [hf] at h;simp at h
 obtain ⟨k,r,⟨hx,hy,hz⟩,L⟩:=s
 have HPT:Hid (Jch ⟨k,r,⟨hx,hy,hz⟩,L⟩ = if k = 1 then [Pt.O] else if k = 2 then [⟨-hx,0,0⟩,⟨hx,0,0⟩] else if k = 3 then J1 ⟨hx,hy,hz⟩ else L):=rfl
 have HAX:Hid (Jn5 ⟨k,r,⟨hx,hy,hz⟩,L⟩ = if k = 3 then straightP else if k = 4 then (Jdv L).1 else []):=rfl
 have HED:Hid (Jji ⟨k,r,⟨hx,hy,hz⟩,L⟩ = if k = 2 then [⟨1,0,0⟩] else if k = 3 then straightP else if k = 4 then (Jdv L).2 else []):=rfl
 have HFM:Hid (Jbj ⟨k,r,⟨hx,hy,hz⟩,L⟩ = if k = 1 then inR r 1 16384 else if k = 2 then inR r 1 16384 && J8 hx else if k = 3 then inR r 0 16384 && (J8 hx && (J8 hy && J8 hz)) else if k = 4 then inR r 0 16384 && Jcp L else false):=rfl
 generalize Jch ⟨k,r,⟨hx,hy,hz⟩,L⟩ = P at *
 generalize Jn5 ⟨k,r,⟨hx,hy,hz⟩,L⟩ = A at *
 generalize Jji ⟨k,r,⟨hx,hy,hz⟩,L⟩ = E at *
 generalize Jaj ⟨k,r,⟨hx,hy,hz⟩,L⟩ = C at *
 generalize Jbj ⟨k,r,⟨hx,hy,hz⟩,L⟩ = F at *
 have HV:Hid _:=hv
 obtain ⟨o,c,rfl,hlc,hcm,_⟩:=hv.form
 clear hv
 unfold Sh.v at *
 dsimp only at *
 obtain ⟨i0,hii,hiz,hisz,hib⟩:=info_parts Jd7
 have HI:Hid _:=And.intro hii (And.intro hiz (And.intro hisz hib))
 clear hii hiz hisz hib
 go_enter func80,ntmps80
 go_wp2_with (fail)
 refine JA HF.out ?_
 clear HF
 rintro e V ⟨rfl,hb⟩
 have D1:Hid (Cells V w0.heap.size [J Y k,J Y r,J Y hx,J Y hy,J Y hz,.slice o L.length c]):=Cells.step B1.out hb
 have D2:Hid (Cells V (w0.heap.size + 1) [.slice none 0 0,.slice none 0 0,.slice none 0 0,J Y 0]):=Cells.step B2.out hb
 have hD:Hid (Below w0.heap.size w0 V):=Jf hB.out hb
 clear B1 B2 hB
 have hsz:w0.heap.size + 1 < V.heap.size:=JB _ _ (D2.out 0 _ rfl).1
 clear hb
 obtain ⟨ba,hba⟩:∃ b,b = w0.heap.size:=⟨_,rfl⟩
 obtain ⟨br,hbr⟩:∃ b,b = w0.heap.size + 1:=⟨_,rfl⟩
 have hbl:w0.heap.size <= br:=by omega
 have hbv:br < V.heap.size:=by omega
 have hav:ba < V.heap.size:=by omega
 rw [<- hbr] at D2 ⊢
 rw [<- hba] at D1
 rw [show w0.heap.size = ba from hba.symm]
 clear hbr hsz
 have hbaw:Hid _:=hba
 have r0:=(D2.out 0 _ rfl).1
 have r1:=(D2.out 1 _ rfl).1
 have r2:=(D2.out 2 _ rfl).1
 have r3:=(D2.out 3 _ rfl).1
 have f0:=(D2.out 0 _ rfl).2
 have f1:=(D2.out 1 _ rfl).2
 have f2:=(D2.out 2 _ rfl).2
 have f3:=(D2.out 3 _ rfl).2
 clear hba
 by_cases hC:C = 0
 ·subst hC
  have hF:=HFO.out rfl
  clear HFO
  subst hF
  have s0:=(D1.out 0 _ rfl).1
  have s1:=(D1.out 1 _ rfl).1
  have s2:=(D1.out 2 _ rfl).1
  have s3:=(D1.out 3 _ rfl).1
  have s4:=(D1.out 4 _ rfl).1
  have s5:=(D1.out 5 _ rfl).1
  by_cases k1:k = 1
  ·subst k1
   have eP:P = [Pt.O]:=HPT.out
   have eA:A = []:=HAX.out
   have eE:E = []:=HED.out
   clear HPT HAX HED HFM
   subst eP eA eE
   clear r0 r1 r2 r3 f0 f1 f2 f3
   go_upto_region 22 with fail
   obtain ⟨X,hX⟩:∃ X:World,X = (V.alloc (.cells #[.slice (some ⟨V.heap.size + 1,0,none⟩) 1 1,.slice none 0 0,.slice none 0 0,J Y r] 110)).alloc (.cells #[J Y 0,J Y 0,J Y 0] 23):=⟨_,rfl⟩
   have hb:Below V.heap.size V X:=by rw [hX];exact Jf (Jb _ _) (Jb _ _)
   have BC:Cells X V.heap.size [.slice (some ⟨V.heap.size + 1,0,none⟩) 1 1,.slice none 0 0,.slice none 0 0,J Y r]:=by rw [hX];exact Cells.step (Cells.new V [.slice (some ⟨V.heap.size + 1,0,none⟩) 1 1,.slice none 0 0,.slice none 0 0,J Y r] _) (Jb _ _)
   have H3:Hid (Three w0 X (.slice (some ⟨V.heap.size + 1,0,none⟩) 1 1) (.slice none 0 0) (.slice none 0 0) [Pt.O] [] []):=by rw [hX];exact Jne (Jf hD.out (Jb V _)) _ (by simp)
   have D2:=Cells.step D2.out hb
   have n1:Value.ownBlock (.slice (some ⟨V.heap.size + 1,0,none⟩) 1 1) ≠ some br:=by simp [Value.ownBlock];omega
   have n2:Value.ownBlock (.slice none 0 0) ≠ some br:=by simp [Value.ownBlock]
   have n3:=n2
   rw [<- hX]
   clear hX hb s0 s1 s2 s3 s4 s5 D1
   have t0:=(BC 0 _ rfl).1
   have t1:=(BC 1 _ rfl).1
   have t2:=(BC 2 _ rfl).1
   have t3:=(BC 3 _ rfl).1
   have r0:=(D2 0 _ rfl).1
   have r1:=(D2 1 _ rfl).1
   have r2:=(D2 2 _ rfl).1
   have r3:=(D2 3 _ rfl).1
   have f0:=(D2 0 _ rfl).2
   have f1:=(D2 1 _ rfl).2
   have f2:=(D2 2 _ rfl).2
   have f3:=(D2 3 _ rfl).2
   clear BC D2
   go_wp2_with (fail)
   refine bodyPost_ret (v:=.tuple #[.agg #[.slice (some ⟨V.heap.size + 1,0,none⟩) 1 1,.slice none 0 0,.slice none 0 0,J Y r],J Y 0]) (by simp [results,results80,go_sem,r0,r1,r2,r3]) rfl ⟨_,_,_,rfl,?_⟩
   exact H3.out.set hbl n1 n2 n3 _ _ _ _
  by_cases k2:k = 2
  ·subst k2
   have eP:P = [⟨-hx,0,0⟩,⟨hx,0,0⟩]:=HPT.out
   have eA:A = []:=HAX.out
   have eE:E = [⟨1,0,0⟩]:=HED.out
   have hhx:1 <= hx/\hx <= 65536:=by
    have:=HFM.out
    simp [J8] at this
    exact this.2
   clear HPT HAX HED HFM
   subst eP eA eE
   clear r0 r1 r2 r3 f0 f1 f2 f3
   go_upto_region 22 with fail
   obtain ⟨X,hX⟩:∃ X:World,X = ((V.alloc (.cells #[.slice (some ⟨V.heap.size + 1,0,none⟩) 2 2,.slice none 0 0,.slice (some ⟨V.heap.size + 1 + 1,0,none⟩) 1 1,J Y r] 110)).alloc (.cells #[J Y (-hx),J Y 0,J Y 0,J Y hx,J Y 0,J Y 0] 23)).alloc (.cells #[J Y 1,J Y 0,J Y 0] 23):=⟨_,rfl⟩
   have hb:Below V.heap.size V X:=by rw [hX];exact Jf (Jf (Jb _ _) (Jb _ _)) (Jb _ _)
   have BC:Cells X V.heap.size [.slice (some ⟨V.heap.size + 1,0,none⟩) 2 2,.slice none 0 0,.slice (some ⟨V.heap.size + 1 + 1,0,none⟩) 1 1,J Y r]:=by rw [hX];exact Cells.step (Cells.new V [.slice (some ⟨V.heap.size + 1,0,none⟩) 2 2,.slice none 0 0,.slice (some ⟨V.heap.size + 1 + 1,0,none⟩) 1 1,J Y r] _) (Jf (Jb _ _) (Jb _ _))
   have H3:Hid (Three w0 X (.slice (some ⟨V.heap.size + 1,0,none⟩) 2 2) (.slice none 0 0) (.slice (some ⟨V.heap.size + 1 + 1,0,none⟩) 1 1) [⟨-hx,0,0⟩,⟨hx,0,0⟩] [] [⟨1,0,0⟩]):=by rw [hX];exact Jii (Jf hD.out (Jb V _)) hx _ _ (by simp) (by simp)
   have D2:=Cells.step D2.out hb
   have n1:Value.ownBlock (.slice (some ⟨V.heap.size + 1,0,none⟩) 2 2) ≠ some br:=by simp [Value.ownBlock];omega
   have n2:Value.ownBlock (.slice none 0 0) ≠ some br:=by simp [Value.ownBlock]
   have n3:Value.ownBlock (.slice (some ⟨V.heap.size + 1 + 1,0,none⟩) 1 1) ≠ some br:=by simp [Value.ownBlock];omega
   rw [<- hX]
   clear hX hb s0 s1 s2 s3 s4 s5 D1
   have t0:=(BC 0 _ rfl).1
   have t1:=(BC 1 _ rfl).1
   have t2:=(BC 2 _ rfl).1
   have t3:=(BC 3 _ rfl).1
   have r0:=(D2 0 _ rfl).1
   have r1:=(D2 1 _ rfl).1
   have r2:=(D2 2 _ rfl).1
   have r3:=(D2 3 _ rfl).1
   have f0:=(D2 0 _ rfl).2
   have f1:=(D2 1 _ rfl).2
   have f2:=(D2 2 _ rfl).2
   have f3:=(D2 3 _ rfl).2
   clear BC D2
   go_wp2_with (fail)
   refine bodyPost_ret (v:=.tuple #[.agg #[.slice (some ⟨V.heap.size + 1,0,none⟩) 2 2,.slice none 0 0,.slice (some ⟨V.heap.size + 1 + 1,0,none⟩) 1 1,J Y r],J Y 0]) (by simp [results,results80,go_sem,r0,r1,r2,r3]) rfl ⟨_,_,_,rfl,?_⟩
   exact H3.out.set hbl n1 n2 n3 _ _ _ _
  by_cases k3:k = 3
  ·subst k3
   have eP:P = J1 ⟨hx,hy,hz⟩:=HPT.out
   have eA:A = straightP:=HAX.out
   have eE:E = straightP:=HED.out
   have hh:(1 <= hx/\hx <= 65536)/\(1 <= hy/\hy <= 65536)/\(1 <= hz/\hz <= 65536):=by
    have:=HFM.out
    simp [J8] at this
    exact this.2
   clear HPT HAX HED HFM
   subst eP eA eE
   clear r0 r1 r2 r3 f0 f1 f2 f3
   go_upto_region 16 with fail
   obtain ⟨X,hX⟩:∃ X:World,X = V.alloc (.cells #[.slice none 0 0,.slice none 0 0,.slice none 0 0,J Y r] 110):=⟨_,rfl⟩
   obtain ⟨b5,hb5⟩:∃ b,b = V.heap.size:=⟨_,rfl⟩
   have hbX:Below V.heap.size V X:=by rw [hX];exact Jb _ _
   have KS0:Hid (KS w0 X ba br b5 [J Y 3,J Y r,J Y hx,J Y hy,J Y hz,.slice o L.length c] (J Y r) (.slice none 0 0) []):=⟨Cells.step D1.out hbX,Cells.step D2.out hbX,by rw [hX,hb5];exact Cells.new V [.slice none 0 0,.slice none 0 0,.slice none 0 0,J Y r] _,World.ownsRow_nil _ _ _ _,(fun e=>by cases e),(fun e=>by cases e),(fun e=>by cases e),Jf hD.out hbX,by have:=hD.out.size;omega,by omega,by omega,⟨_,rfl⟩⟩
   rw [<- hX,<- hb5]
   clear hX hb5 hbX s0 s1 s2 s3 s4 s5 D1 D2 hbv hav
   have w1:IntKind.i64.wrap (-hx) = -hx:=by rw [IntKind.wrap_i64];omega
   have w2:IntKind.i64.wrap (-hy) = -hy:=by rw [IntKind.wrap_i64];omega
   have w3:IntKind.i64.wrap (-hz) = -hz:=by rw [IntKind.wrap_i64];omega
   have w4:IntKind.i64.wrap hx = hx:=by rw [IntKind.wrap_i64];omega
   have w5:IntKind.i64.wrap hy = hy:=by rw [IntKind.wrap_i64];omega
   have w6:IntKind.i64.wrap hz = hz:=by rw [IntKind.wrap_i64];omega
   clear hh
   go_wp2_with (fail)
   go_loopg [6] 8 (fun gm s wr=>∃ (i:Nat) (u:Value),s = J Y (i:Int)/\i <= 8/\gm = 8 - i/\Hid (KS w0 wr ba br b5 [J Y 3,J Y r,J Y hx,J Y hy,J Y hz,.slice o L.length c] (J Y r) u ((J1 ⟨hx,hy,hz⟩).take i)))
   case atStart=>exact ⟨0,_,rfl,by omega,rfl,KS0.out⟩
   case round =>
    clear KS0
    obtain ⟨i,u,rfl,hi,hgm,KQ⟩:=hrel
    have HG1:Hid _:=hgm
    clear hgm
    by_cases hit:i < 8
    ·have s2:=(KQ.out.c1 2 _ rfl).1
     have s3:=(KQ.out.c1 3 _ rfl).1
     have s4:=(KQ.out.c1 4 _ rfl).1
     have t0:=(KQ.out.c3 0 _ rfl).1
     have g0:=(KQ.out.c3 0 _ rfl).2
     obtain ⟨ou,lu,cu,rfl⟩:=Jaw KQ.out.row
     rcases (show i = 0 \/ i = 1 \/ i = 2 \/ i = 3 \/ i = 4 \/ i = 5 \/ i = 6 \/ i = 7 by omega) with rfl | rfl | rfl | rfl | rfl | rfl | rfl | rfl
     ·go_wp2_with (at_builtin;refine wpList_append_own_at _ rfl _ _ 24 rfl w0.heap.size 23 i0 _ 3 24 underlying24 HI.out.1 HI.out.2.1 HI.out.2.2.1 HI.out.2.2.2 rfl (by decide) _ _ _ rfl (Jq KQ.out.row (Jb wr _)) ⟨wr.heap.size,0,none⟩ 1 1 [J Y (-hx),J Y (-hy),J Y (-hz)] rfl rfl (Jb7 (heap_alloc_new wr _)) (by intro u hu;simp at hu;rcases hu with rfl | rfl | rfl <;> rfl) (by unfold maxLen;simp [J1]) (by simp [J1]) (by simp;have:=KQ.out.below.size;omega) ?_;intro u9 V2 r8 g8 _ s8;obtain ⟨o9,l9,c9,rfl⟩:=Jaw r8;have t9:=(Cells.grown (Cells.step KQ.out.c3 (Jb wr (.cells #[J Y (-hx),J Y (-hy),J Y (-hz)] 23))) g8 KQ.out.n3) 0 _ rfl;have t0:=t9.1;have g0:=t9.2;clear t9)
      have KX:Hid (KS w0 (V2.setCell ⟨b5,0,none⟩ (.slice o9 l9 c9)) ba br b5 [J Y 3,J Y r,J Y hx,J Y hy,J Y hz,.slice o L.length c] (J Y r) (.slice o9 l9 c9) ((J1 ⟨hx,hy,hz⟩).take 1)):=(KQ.out.step (Jb wr (.cells #[J Y (-hx),J Y (-hy),J Y (-hz)] 23))).app (by rw [<- Jbi ⟨hx,hy,hz⟩ 0 (by decide),Jat,List.length_append];exact r8) ⟨g8,by rcases s8 with e | e;exact Or.inl e;exact Or.inr ⟨_,e,Nat.le_refl _⟩⟩
      go_roundg (8 - 1)
      case measure=>have:=HG1.out;omega
      case rel=>exact ⟨1,_,rfl,by omega,rfl,KX⟩
     ·go_wp2_with (at_builtin;refine wpList_append_own_at _ rfl _ _ 24 rfl w0.heap.size 23 i0 _ 3 24 underlying24 HI.out.1 HI.out.2.1 HI.out.2.2.1 HI.out.2.2.2 rfl (by decide) _ _ _ rfl (Jq KQ.out.row (Jb wr _)) ⟨wr.heap.size,0,none⟩ 1 1 [J Y (-hx),J Y (-hy),J Y hz] rfl rfl (Jb7 (heap_alloc_new wr _)) (by intro u hu;simp at hu;rcases hu with rfl | rfl | rfl <;> rfl) (by unfold maxLen;simp [J1]) (by simp [J1]) (by simp;have:=KQ.out.below.size;omega) ?_;intro u9 V2 r8 g8 _ s8;obtain ⟨o9,l9,c9,rfl⟩:=Jaw r8;have t9:=(Cells.grown (Cells.step KQ.out.c3 (Jb wr (.cells #[J Y (-hx),J Y (-hy),J Y hz] 23))) g8 KQ.out.n3) 0 _ rfl;have t0:=t9.1;have g0:=t9.2;clear t9)
      have KX:Hid (KS w0 (V2.setCell ⟨b5,0,none⟩ (.slice o9 l9 c9)) ba br b5 [J Y 3,J Y r,J Y hx,J Y hy,J Y hz,.slice o L.length c] (J Y r) (.slice o9 l9 c9) ((J1 ⟨hx,hy,hz⟩).take 2)):=(KQ.out.step (Jb wr (.cells #[J Y (-hx),J Y (-hy),J Y hz] 23))).app (by rw [<- Jbi ⟨hx,hy,hz⟩ 1 (by decide),Jat,List.length_append];exact r8) ⟨g8,by rcases s8 with e | e;exact Or.inl e;exact Or.inr ⟨_,e,Nat.le_refl _⟩⟩
      go_roundg (8 - 2)
      case measure=>have:=HG1.out;omega
      case rel=>exact ⟨2,_,rfl,by omega,rfl,KX⟩
     ·go_wp2_with (at_builtin;refine wpList_append_own_at _ rfl _ _ 24 rfl w0.heap.size 23 i0 _ 3 24 underlying24 HI.out.1 HI.out.2.1 HI.out.2.2.1 HI.out.2.2.2 rfl (by decide) _ _ _ rfl (Jq KQ.out.row (Jb wr _)) ⟨wr.heap.size,0,none⟩ 1 1 [J Y (-hx),J Y hy,J Y (-hz)] rfl rfl (Jb7 (heap_alloc_new wr _)) (by intro u hu;simp at hu;rcases hu with rfl | rfl | rfl <;> rfl) (by unfold maxLen;simp [J1]) (by simp [J1]) (by simp;have:=KQ.out.below.size;omega) ?_;intro u9 V2 r8 g8 _ s8;obtain ⟨o9,l9,c9,rfl⟩:=Jaw r8;have t9:=(Cells.grown (Cells.step KQ.out.c3 (Jb wr (.cells #[J Y (-hx),J Y hy,J Y (-hz)] 23))) g8 KQ.out.n3) 0 _ rfl;have t0:=t9.1;have g0:=t9.2;clear t9)
      have KX:Hid (KS w0 (V2.setCell ⟨b5,0,none⟩ (.slice o9 l9 c9)) ba br b5 [J Y 3,J Y r,J Y hx,J Y hy,J Y hz,.slice o L.length c] (J Y r) (.slice o9 l9 c9) ((J1 ⟨hx,hy,hz⟩).take 3)):=(KQ.out.step (Jb wr (.cells #[J Y (-hx),J Y hy,J Y (-hz)] 23))).app (by rw [<- Jbi ⟨hx,hy,hz⟩ 2 (by decide),Jat,List.length_append];exact r8) ⟨g8,by rcases s8 with e | e;exact Or.inl e;exact Or.inr ⟨_,e,Nat.le_refl _⟩⟩
      go_roundg (8 - 3)
      case measure=>have:=HG1.out;omega
      case rel=>exact ⟨3,_,rfl,by omega,rfl,KX⟩
     ·go_wp2_with (at_builtin;refine wpList_append_own_at _ rfl _ _ 24 rfl w0.heap.size 23 i0 _ 3 24 underlying24 HI.out.1 HI.out.2.1 HI.out.2.2.1 HI.out.2.2.2 rfl (by decide) _ _ _ rfl (Jq KQ.out.row (Jb wr _)) ⟨wr.heap.size,0,none⟩ 1 1 [J Y (-hx),J Y hy,J Y hz] rfl rfl (Jb7 (heap_alloc_new wr _)) (by intro u hu;simp at hu;rcases hu with rfl | rfl | rfl <;> rfl) (by unfold maxLen;simp [J1]) (by simp [J1]) (by simp;have:=KQ.out.below.size;omega) ?_;intro u9 V2 r8 g8 _ s8;obtain ⟨o9,l9,c9,rfl⟩:=Jaw r8;have t9:=(Cells.grown (Cells.step KQ.out.c3 (Jb wr (.cells #[J Y (-hx),J Y hy,J Y hz] 23))) g8 KQ.out.n3) 0 _ rfl;have t0:=t9.1;have g0:=t9.2;clear t9)
      have KX:Hid (KS w0 (V2.setCell ⟨b5,0,none⟩ (.slice o9 l9 c9)) ba br b5 [J Y 3,J Y r,J Y hx,J Y hy,J Y hz,.slice o L.length c] (J Y r) (.slice o9 l9 c9) ((J1 ⟨hx,hy,hz⟩).take 4)):=(KQ.out.step (Jb wr (.cells #[J Y (-hx),J Y hy,J Y hz] 23))).app (by rw [<- Jbi ⟨hx,hy,hz⟩ 3 (by decide),Jat,List.length_append];exact r8) ⟨g8,by rcases s8 with e | e;exact Or.inl e;exact Or.inr ⟨_,e,Nat.le_refl _⟩⟩
      go_roundg (8 - 4)
      case measure=>have:=HG1.out;omega
      case rel=>exact ⟨4,_,rfl,by omega,rfl,KX⟩
     ·go_wp2_with (at_builtin;refine wpList_append_own_at _ rfl _ _ 24 rfl w0.heap.size 23 i0 _ 3 24 underlying24 HI.out.1 HI.out.2.1 HI.out.2.2.1 HI.out.2.2.2 rfl (by decide) _ _ _ rfl (Jq KQ.out.row (Jb wr _)) ⟨wr.heap.size,0,none⟩ 1 1 [J Y hx,J Y (-hy),J Y (-hz)] rfl rfl (Jb7 (heap_alloc_new wr _)) (by intro u hu;simp at hu;rcases hu with rfl | rfl | rfl <;> rfl) (by unfold maxLen;simp [J1]) (by simp [J1]) (by simp;have:=KQ.out.below.size;omega) ?_;intro u9 V2 r8 g8 _ s8;obtain ⟨o9,l9,c9,rfl⟩:=Jaw r8;have t9:=(Cells.grown (Cells.step KQ.out.c3 (Jb wr (.cells #[J Y hx,J Y (-hy),J Y (-hz)] 23))) g8 KQ.out.n3) 0 _ rfl;have t0:=t9.1;have g0:=t9.2;clear t9)
      have KX:Hid (KS w0 (V2.setCell ⟨b5,0,none⟩ (.slice o9 l9 c9)) ba br b5 [J Y 3,J Y r,J Y hx,J Y hy,J Y hz,.slice o L.length c] (J Y r) (.slice o9 l9 c9) ((J1 ⟨hx,hy,hz⟩).take 5)):=(KQ.out.step (Jb wr (.cells #[J Y hx,J Y (-hy),J Y (-hz)] 23))).app (by rw [<- Jbi ⟨hx,hy,hz⟩ 4 (by decide),Jat,List.length_append];exact r8) ⟨g8,by rcases s8 with e | e;exact Or.inl e;exact Or.inr ⟨_,e,Nat.le_refl _⟩⟩
      go_roundg (8 - 5)
      case measure=>have:=HG1.out;omega
      case rel=>exact ⟨5,_,rfl,by omega,rfl,KX⟩
     ·go_wp2_with (at_builtin;refine wpList_append_own_at _ rfl _ _ 24 rfl w0.heap.size 23 i0 _ 3 24 underlying24 HI.out.1 HI.out.2.1 HI.out.2.2.1 HI.out.2.2.2 rfl (by decide) _ _ _ rfl (Jq KQ.out.row (Jb wr _)) ⟨wr.heap.size,0,none⟩ 1 1 [J Y hx,J Y (-hy),J Y hz] rfl rfl (Jb7 (heap_alloc_new wr _)) (by intro u hu;simp at hu;rcases hu with rfl | rfl | rfl <;> rfl) (by unfold maxLen;simp [J1]) (by simp [J1]) (by simp;have:=KQ.out.below.size;omega) ?_;intro u9 V2 r8 g8 _ s8;obtain ⟨o9,l9,c9,rfl⟩:=Jaw r8;have t9:=(Cells.grown (Cells.step KQ.out.c3 (Jb wr (.cells #[J Y hx,J Y (-hy),J Y hz] 23))) g8 KQ.out.n3) 0 _ rfl;have t0:=t9.1;have g0:=t9.2;clear t9)
      have KX:Hid (KS w0 (V2.setCell ⟨b5,0,none⟩ (.slice o9 l9 c9)) ba br b5 [J Y 3,J Y r,J Y hx,J Y hy,J Y hz,.slice o L.length c] (J Y r) (.slice o9 l9 c9) ((J1 ⟨hx,hy,hz⟩).take 6)):=(KQ.out.step (Jb wr (.cells #[J Y hx,J Y (-hy),J Y hz] 23))).app (by rw [<- Jbi ⟨hx,hy,hz⟩ 5 (by decide),Jat,List.length_append];exact r8) ⟨g8,by rcases s8 with e | e;exact Or.inl e;exact Or.inr ⟨_,e,Nat.le_refl _⟩⟩
      go_roundg (8 - 6)
      case measure=>have:=HG1.out;omega
      case rel=>exact ⟨6,_,rfl,by omega,rfl,KX⟩
     ·go_wp2_with (at_builtin;refine wpList_append_own_at _ rfl _ _ 24 rfl w0.heap.size 23 i0 _ 3 24 underlying24 HI.out.1 HI.out.2.1 HI.out.2.2.1 HI.out.2.2.2 rfl (by decide) _ _ _ rfl (Jq KQ.out.row (Jb wr _)) ⟨wr.heap.size,0,none⟩ 1 1 [J Y hx,J Y hy,J Y (-hz)] rfl rfl (Jb7 (heap_alloc_new wr _)) (by intro u hu;simp at hu;rcases hu with rfl | rfl | rfl <;> rfl) (by unfold maxLen;simp [J1]) (by simp [J1]) (by simp;have:=KQ.out.below.size;omega) ?_;intro u9 V2 r8 g8 _ s8;obtain ⟨o9,l9,c9,rfl⟩:=Jaw r8;have t9:=(Cells.grown (Cells.step KQ.out.c3 (Jb wr (.cells #[J Y hx,J Y hy,J Y (-hz)] 23))) g8 KQ.out.n3) 0 _ rfl;have t0:=t9.1;have g0:=t9.2;clear t9)
      have KX:Hid (KS w0 (V2.setCell ⟨b5,0,none⟩ (.slice o9 l9 c9)) ba br b5 [J Y 3,J Y r,J Y hx,J Y hy,J Y hz,.slice o L.length c] (J Y r) (.slice o9 l9 c9) ((J1 ⟨hx,hy,hz⟩).take 7)):=(KQ.out.step (Jb wr (.cells #[J Y hx,J Y hy,J Y (-hz)] 23))).app (by rw [<- Jbi ⟨hx,hy,hz⟩ 6 (by decide),Jat,List.length_append];exact r8) ⟨g8,by rcases s8 with e | e;exact Or.inl e;exact Or.inr ⟨_,e,Nat.le_refl _⟩⟩
      go_roundg (8 - 7)
      case measure=>have:=HG1.out;omega
      case rel=>exact ⟨7,_,rfl,by omega,rfl,KX⟩
     ·go_wp2_with (at_builtin;refine wpList_append_own_at _ rfl _ _ 24 rfl w0.heap.size 23 i0 _ 3 24 underlying24 HI.out.1 HI.out.2.1 HI.out.2.2.1 HI.out.2.2.2 rfl (by decide) _ _ _ rfl (Jq KQ.out.row (Jb wr _)) ⟨wr.heap.size,0,none⟩ 1 1 [J Y hx,J Y hy,J Y hz] rfl rfl (Jb7 (heap_alloc_new wr _)) (by intro u hu;simp at hu;rcases hu with rfl | rfl | rfl <;> rfl) (by unfold maxLen;simp [J1]) (by simp [J1]) (by simp;have:=KQ.out.below.size;omega) ?_;intro u9 V2 r8 g8 _ s8;obtain ⟨o9,l9,c9,rfl⟩:=Jaw r8;have t9:=(Cells.grown (Cells.step KQ.out.c3 (Jb wr (.cells #[J Y hx,J Y hy,J Y hz] 23))) g8 KQ.out.n3) 0 _ rfl;have t0:=t9.1;have g0:=t9.2;clear t9)
      have KX:Hid (KS w0 (V2.setCell ⟨b5,0,none⟩ (.slice o9 l9 c9)) ba br b5 [J Y 3,J Y r,J Y hx,J Y hy,J Y hz,.slice o L.length c] (J Y r) (.slice o9 l9 c9) ((J1 ⟨hx,hy,hz⟩).take 8)):=(KQ.out.step (Jb wr (.cells #[J Y hx,J Y hy,J Y hz] 23))).app (by rw [<- Jbi ⟨hx,hy,hz⟩ 7 (by decide),Jat,List.length_append];exact r8) ⟨g8,by rcases s8 with e | e;exact Or.inl e;exact Or.inr ⟨_,e,Nat.le_refl _⟩⟩
      go_roundg (8 - 8)
      case measure=>have:=HG1.out;omega
      case rel=>exact ⟨8,_,rfl,by omega,rfl,KX⟩
    ·have e:i = 8:=by omega
     subst e
     obtain ⟨ou,lu,cu,rfl⟩:=Jaw KQ.out.row
     have t1:=(KQ.out.c3 1 _ rfl).1
     have t2:=(KQ.out.c3 2 _ rfl).1
     have g1:=(KQ.out.c3 1 _ rfl).2
     have g2:=(KQ.out.c3 2 _ rfl).2
     have hl5:b5 < wr.heap.size:=JB _ _ t1
     have hne5:¬ wr.heap.size = b5:=by omega
     obtain ⟨H3',BC',D2',n2,n3⟩:=KQ.out.brick hbl (va:=.slice (some ⟨wr.heap.size,0,none⟩) 3 3) (ve:=.slice (some ⟨wr.heap.size + 1,0,none⟩) 3 3) rfl rfl
     have n1:=KQ.out.ns
     rw [List.take_of_length_le (by simp [J1])] at H3'
     have H3:Hid _:=H3'
     have BC:Hid _:=BC'
     have D2:Hid _:=D2'
     unfold Jfc at H3 BC D2
     clear H3' BC' D2'
     go_upto_region 22 with fail
     generalize (((wr.setCell ⟨b5,1,none⟩ (.slice (some ⟨wr.heap.size,0,none⟩) 3 3)).setCell ⟨b5,2,none⟩ (.slice (some ⟨wr.heap.size + 1,0,none⟩) 3 3)).alloc (.cells #[J Y 1,J Y 0,J Y 0,J Y 0,J Y 1,J Y 0,J Y 0,J Y 0,J Y 1] 23)).alloc (.cells #[J Y 1,J Y 0,J Y 0,J Y 0,J Y 1,J Y 0,J Y 0,J Y 0,J Y 1] 23) = X9 at *
     clear t1 t2 g1 g2 hl5 hne5
     have BC:=BC.out
     have D2:=D2.out
     have t0:=(BC 0 _ rfl).1
     have t1:=(BC 1 _ rfl).1
     have t2:=(BC 2 _ rfl).1
     have t3:=(BC 3 _ rfl).1
     have r0:=(D2 0 _ rfl).1
     have r1:=(D2 1 _ rfl).1
     have r2:=(D2 2 _ rfl).1
     have r3:=(D2 3 _ rfl).1
     have f0:=(D2 0 _ rfl).2
     have f1:=(D2 1 _ rfl).2
     have f2:=(D2 2 _ rfl).2
     have f3:=(D2 3 _ rfl).2
     clear BC D2
     go_wp2_with (fail)
     refine bodyPost_ret (v:=.tuple #[.agg #[.slice ou lu cu,.slice (some ⟨wr.heap.size,0,none⟩) 3 3,.slice (some ⟨wr.heap.size + 1,0,none⟩) 3 3,J Y r],J Y 0]) (by simp [results,results80,go_sem,r0,r1,r2,r3]) rfl ⟨_,_,_,rfl,?_⟩
     exact H3.out.set hbl n1 n2 n3 _ _ _ _
  by_cases k4:k = 4
  ·subst k4
   have eP:P = L:=HPT.out
   have eA:A = (Jdv L).1:=HAX.out
   have eE:E = (Jdv L).2:=HED.out
   have hm:Jcp L = true:=by
    have:=HFM.out
    simp at this
    exact this.2
   obtain ⟨m1,m2,m3,m4⟩:=Jev hm
   have M3:Hid _:=m3
   clear HPT HAX HED HFM hm m3 m4
   subst eP
   have EA:Hid _:=eA
   have EE:Hid _:=eE
   clear eA eE r0 r1 r2 r3 f0 f1 f2 f3
   go_upto_region 6 with fail
   obtain ⟨X,hX⟩:∃ X:World,X = V.alloc (.cells #[.slice none 0 0,.slice none 0 0,.slice none 0 0,J Y r] 110):=⟨_,rfl⟩
   obtain ⟨b5,hb5⟩:∃ b,b = V.heap.size:=⟨_,rfl⟩
   have hbX:Below V.heap.size V X:=by rw [hX];exact Jb _ _
   have KS0:Hid (KS w0 X ba br b5 [J Y 4,J Y r,J Y hx,J Y hy,J Y hz,.slice o P.length c] (J Y r) (.slice none 0 0) []):=⟨Cells.step D1.out hbX,Cells.step D2.out hbX,by rw [hX,hb5];exact Cells.new V [.slice none 0 0,.slice none 0 0,.slice none 0 0,J Y r] _,World.ownsRow_nil _ _ _ _,(fun e=>by cases e),(fun e=>by cases e),(fun e=>by cases e),Jf hD.out hbX,by have:=hD.out.size;omega,by omega,by omega,⟨_,rfl⟩⟩
   rw [<- hX,<- hb5]
   clear hX hb5 hbX s0 s1 s2 s3 s4 s5 D1 D2 hbv hav
   have s5:=(KS0.out.c1 5 _ rfl).1
   have t0:=(KS0.out.c3 0 _ rfl).1
   have g0:=(KS0.out.c3 0 _ rfl).2
   have HVX:Hid _:=HV.out.below KS0.out.below
   obtain ⟨_,_,ev,_,_,hvc⟩:=HV.out.form
   cases ev
   obtain ⟨g,off,e9,_⟩:=hvc 0 (by omega)
   subst e9
   clear hvc
   have RD:Hid _:=Lies.read HVX.out 0 P ⟨[],by simp⟩
   rw [Nat.zero_mul,Nat.add_zero] at RD
   go_upto_region 7 with (at_builtin;refine wpList_append_own_at _ rfl _ _ 24 rfl w0.heap.size 23 i0 _ 3 24 underlying24 HI.out.1 HI.out.2.1 HI.out.2.2.1 HI.out.2.2.2 rfl (by decide) _ 0 [] rfl (World.ownsRow_nil _ _ _ _) ⟨g,off,none⟩ P.length c (fl3 P) rfl (by rw [Jdz]) RD.out (Jnz _) (by unfold maxLen;omega) (by omega) KS0.out.below.size ?_;intro u9 V2 r8 g8 _ s8;obtain ⟨o9,l9,c9,rfl⟩:=Jaw r8;have t9:=(Cells.grown KS0.out.c3 g8 KS0.out.n3) 0 _ rfl;have t0:=t9.1;have g0:=t9.2;clear t9)
   have r8':V2.ownsRow w0.heap.size 23 3 (.slice o9 l9 c9) P.length (fl3 P):=by simpa using r8
   have KX:Hid (KS w0 (V2.setCell ⟨b5,0,none⟩ (.slice o9 l9 c9)) ba br b5 [J Y 4,J Y r,J Y hx,J Y hy,J Y hz,.slice (some ⟨g,off,none⟩) P.length c] (J Y r) (.slice o9 l9 c9) P):=KS0.out.app r8' ⟨g8,by rcases s8 with e | e;exact Or.inl e;exact Or.inr ⟨_,e,Nat.le_refl _⟩⟩
   clear r8 r8' g8 s8 t0 g0 s5 RD HVX KS0
   generalize V2.setCell ⟨b5,0,none⟩ (.slice o9 l9 c9) = X4 at *
   have s5:=(KX.out.c1 5 _ rfl).1
   have HVX:Hid _:=HV.out.below KX.out.below
   go_wp2_with (fail)
   refine JA (Jpe _ P X4 HVX.out (by omega) m2 M3.out) ?_
   rintro e X5 ⟨va,ve,rfl,ht⟩
   rw [<- EA.out,<- EE.out] at ht
   obtain ⟨o2,c2,rfl,_⟩:=(Lies.of_row ht.ra).form
   obtain ⟨o3,c3,rfl,_⟩:=(Lies.of_row ht.re).form
   have hb5:=ht.below
   have l5:b5 < X4.heap.size:=JB _ _ (KX.out.c3 0 _ rfl).1
   have lr:br < X4.heap.size:=JB _ _ (KX.out.c2 0 _ rfl).1
   have hs4:=KX.out.below.size
   have H3':Three w0 X5 (.slice o9 l9 c9) (.slice o2 A.length c2) (.slice o3 E.length c3) P A E:=⟨Jq KX.out.row hb5,Jqe ht.ra hs4,Jqe ht.re hs4,fun k e e'=>by have a:=(KX.out.row.lt k e).2;have b:=(ht.ra.lt k e').1;omega,fun k e e'=>by have a:=(KX.out.row.lt k e).2;have b:=(ht.re.lt k e').1;omega,fun k e e'=>ht.apart k e' e,Jf KX.out.below hb5⟩
   have q1:=KX.out.n3
   have q2:(Value.slice o2 A.length c2).ownBlock ≠ some b5:=fun e=>by have:=(ht.ra.lt _ e).1;omega
   have q3:(Value.slice o3 E.length c3).ownBlock ≠ some b5:=fun e=>by have:=(ht.re.lt _ e).1;omega
   have n1:=KX.out.ns
   have n2:(Value.slice o2 A.length c2).ownBlock ≠ some br:=fun e=>by have:=(ht.ra.lt _ e).1;omega
   have n3:(Value.slice o3 E.length c3).ownBlock ≠ some br:=fun e=>by have:=(ht.re.lt _ e).1;omega
   have BC':=((KX.out.c3.step hb5).set 1 (.slice o2 A.length c2) (by simp)).set 2 (.slice o3 E.length c3) (by simp)
   have D2':=((KX.out.c2.step hb5).put KX.out.d2 1 (.slice o2 A.length c2)).put KX.out.d2 2 (.slice o3 E.length c3)
   have H3:Hid _:=(H3'.put KX.out.l3 q1 q2 q3 1 (.slice o2 A.length c2)).put KX.out.l3 q1 q2 q3 2 (.slice o3 E.length c3)
   have t1:=(KX.out.c3.step hb5 1 _ rfl).1
   have t2:=(KX.out.c3.step hb5 2 _ rfl).1
   have g1:=(KX.out.c3.step hb5 1 _ rfl).2
   have g2:=(KX.out.c3.step hb5 2 _ rfl).2
   clear ht hb5 s5 H3' HVX
   go_upto_region 22 with fail
   generalize (X5.setCell ⟨b5,1,none⟩ (.slice o2 A.length c2)).setCell ⟨b5,2,none⟩ (.slice o3 E.length c3) = X6 at *
   clear t1 t2 g1 g2
   have BC:=BC'
   have D2:=D2'
   clear BC' D2'
   have t0:=(BC 0 _ rfl).1
   have t1:=(BC 1 _ rfl).1
   have t2:=(BC 2 _ rfl).1
   have t3:=(BC 3 _ rfl).1
   have r0:=(D2 0 _ rfl).1
   have r1:=(D2 1 _ rfl).1
   have r2:=(D2 2 _ rfl).1
   have r3:=(D2 3 _ rfl).1
   have f0:=(D2 0 _ rfl).2
   have f1:=(D2 1 _ rfl).2
   have f2:=(D2 2 _ rfl).2
   have f3:=(D2 3 _ rfl).2
   clear BC D2
   go_wp2_with (fail)
   refine bodyPost_ret (v:=.tuple #[.agg #[.slice o9 l9 c9,.slice o2 A.length c2,.slice o3 E.length c3,J Y r],J Y 0]) (by simp [results,results80,go_sem,r0,r1,r2,r3]) rfl ⟨_,_,_,rfl,?_⟩
   exact H3.out.set hbl n1 n2 n3 _ _ _ _
  ·have:=HFM.out
   rw [if_neg k1,if_neg k2,if_neg k3,if_neg k4] at this
   cases this
 ·clear HFO
  go_wp2_with (fail)
  refine bodyPost_ret (v:=.tuple #[.agg #[.slice none 0 0,.slice none 0 0,.slice none 0 0,J Y 0],J Y C]) (by simp [results,results80,go_sem,r0,r1,r2,r3]) rfl ⟨_,_,_,fun _=>⟨rfl,?_⟩,fun h=>absurd h hC⟩
  exact Jph (Jfj hD.out hbl _ _ _ _)
end
section
namespace RF
open Go.RowKit Ref Fx
theorem Jnu {b off:Nat} {o:Int} {n:Int} {ok:Bool} {w w1 w2:World} (ho:Ja0 n ok = some o) (h1:Below w.heap.size w w1) (h2:Below w1.heap.size (Jct ⟨b,off,none⟩ (Ja0 n ok) w1) w2) :
  Ending.returned (J Y ((Ja0 n ok).getD 0)) = .returned (J Y o)/\Below w.heap.size w w2:=by
 rw [ho] at h2 ⊢
 exact ⟨rfl,Jr h1 h2⟩
theorem radd_ok (b:Nat) (x y n:Int) (w:World) (hc:w.cell? ⟨b,0,none⟩ = some (.bool false)) (hf:w.frozen? ⟨b,0,none⟩ = false) (h:add x y = some n) :
  Calls Tryz.prog 83 #[.pointer (some ⟨b,0,none⟩),J Y x,J Y y] w fun e W'=>e = .returned (J Y n)/\Below w.heap.size w W':=by
 have hb:=Jg w (.cells #[J Y x,J Y y] 3)
 have hc':=Jh hb hc
 have hf':=Ji hb hc hf
 have C1:=Ji8 x y w
 have hg:(great x || great y) = false:=by
  cases hg:(great x || great y) with
  | false=>rfl
  | true=>simp [add,hg] at h
 have hadd:add x y = told (x + y):=by simp [add,hg]
 rw [hg] at C1
 have hx:-4611686018427387903 <= x/\x <= 4611686018427387903:=(not_great x).1 (by simp at hg;exact hg.1)
 have hy:-4611686018427387903 <= y/\y <= 4611686018427387903:=(not_great y).1 (by simp at hg;exact hg.2)
 have C2:Hid _:=Jaz b 0 false (x + y) true _ hc' hf'
 have K1:Hid _:=C1
 have HB:Hid _:=hb
 have HA:Hid _:=hadd.symm.trans h
 clear C1 hb hc hf hc' hf' hg hadd h
 go_enter func83,ntmps83
 go_wp2_with (fail)
 refine JA K1.out ?_
 rintro e w1 ⟨rfl,rfl⟩
 go_wp2_with (fail)
 refine JA C2.out ?_
 rintro e w2 ⟨rfl,hb2⟩
 go_wp2_with (fail)
 go_ret
 exact Jnu HA.out HB.out hb2
theorem rratio_ok (b:Nat) (x y z n:Int) (w:World) (hc:w.cell? ⟨b,0,none⟩ = some (.bool false)) (hf:w.frozen? ⟨b,0,none⟩ = false) (h:Ju x y z = some n) :
  Calls Tryz.prog 81 #[.pointer (some ⟨b,0,none⟩),J Y x,J Y y,J Y z] w fun e W'=>e = .returned (J Y n)/\Below w.heap.size w W':=by
 have hb:=Jg w (.cells #[J Y x,J Y y,J Y z] 3)
 have C1:=Job x y z w
 have HB:Hid _:=hb
 have HC:Hid _:=hc
 have HF:Hid _:=hf
 have z0:¬ z = 0:=fun e=>by simp [Ju,e] at h
 have hg:(great x || (great y || great z)) = false:=by
  cases hg:(great x || (great y || great z)) with
  | false=>rfl
  | true=>simp [Ju,z0,hg] at h
 have hx:-4611686018427387903 <= x/\x <= 4611686018427387903:=(not_great x).1 (by simp at hg;exact hg.1)
 have hy:-4611686018427387903 <= y/\y <= 4611686018427387903:=(not_great y).1 (by simp at hg;exact hg.2.1)
 have hz:-4611686018427387903 <= z/\z <= 4611686018427387903:=(not_great z).1 (by simp at hg;exact hg.2.2)
 rw [hg] at C1
 have K1:Hid _:=C1
 have HA:Hid _:=(by simp only [Ju,z0,hg];rfl:Ju x y z = told (fl (x * y) z))
 have HH:Hid _:=h
 clear C1 hb hc hf hg h
 go_enter func81,ntmps81
 go_wp2_with (fail)
 refine JA K1.out ?_
 rintro e w1 ⟨rfl,rfl⟩
 go_wp2_with (fail)
 refine (Jb0 x _ (by omega) (by omega)).mono ?_
 rintro e w1 ⟨u1,d1,rfl,S1,B1⟩
 go_wp2_with (fail)
 refine (Jb0 y _ (by omega) (by omega)).mono ?_
 rintro e w2 ⟨u2,d2,rfl,S2,B2⟩
 go_wp2_with (fail)
 refine (Jb6 u1 u2 d1 d2 _ S1.out.1 S2.out.1 (by rw [S1.out.2,S2.out.2];exact Jh6 (by omega) (by omega))).mono ?_
 rintro e w3 ⟨u3,d3,rfl,S3,B3⟩
 go_wp2_with (fail)
 refine (Jhi u3 d3 z _ S3.out.1 z0 hz.1 hz.2).mono ?_
 rintro e w4 ⟨n4,ok,rfl,S4,B4⟩
 have B5:Hid (Below w.heap.size w w4):=Jr (Jr (Jr (Jr HB.out B1.out) B2.out) B3.out) B4.out
 have S5:Hid _:=Je0 S4.out
 rw [S3.out.2,S1.out.2,S2.out.2] at S5
 clear S1 S2 S3 S4 B1 B2 B3 B4 K1
 go_wp2_with (fail)
 refine (Jaz b 0 false n4 ok _ (Jh B5.out HC.out) (Ji B5.out HC.out HF.out)).mono ?_
 rintro e w6 ⟨rfl,hb2⟩
 go_wp2_with (fail)
 go_ret
 exact Jnu ((S5.out.trans HA.out.symm).trans HH.out) B5.out hb2
theorem rmul_ok (b:Nat) (x y n:Int) (w:World) (hc:w.cell? ⟨b,0,none⟩ = some (.bool false)) (hf:w.frozen? ⟨b,0,none⟩ = false) (h:mul x y = some n) :
  Calls Tryz.prog 66 #[.pointer (some ⟨b,0,none⟩),J Y x,J Y y] w fun e W'=>e = .returned (J Y n)/\Below w.heap.size w W':=by
 have C:Hid _:=rratio_ok b x y 4294967296 n w hc hf (by rw [Jou];exact h)
 clear hc hf
 go_enter func66,ntmps66
 go_wp2_with (fail)
 refine JA C.out ?_
 rintro e w1 ⟨rfl,A⟩
 go_wp2_with (fail)
 go_ret
 exact ⟨rfl,A⟩
end RF
open Go.RowKit Go.Shelf
structure LiesI (W:World) (v:Value) (N:List Int):Prop where
 form:∃ o cap,v = .slice o N.length cap/\N.length <= cap/\cap <= 9223372036854775807/\∀ i,i < N.length->∃ g,o = some ⟨g,0,none⟩/\W.cell? ⟨g,i,none⟩ = some (J Y (N[i]?.getD 0))
theorem LiesI.of_row {W:World} {base:Nat} {v:Value} {N:List Int} (h:W.ownsRow base 3 1 v N.length (N.map (.int .i64))):LiesI W v N:=by
 refine ⟨?_⟩
 rcases h.2 with ⟨rfl,h0⟩ | ⟨g,cap,cur,rfl,hb,hg,h1,h2,h3,h4⟩
 ·exact ⟨none,0,by rw [h0],by omega,by omega,fun i hi=>by omega⟩
 ·refine ⟨_,cap,rfl,h1,by unfold maxLen at h2;omega,fun i hi=>⟨g,rfl,?_⟩⟩
  refine (h.cellAt i (by omega)).trans ?_
  simp [hi]
theorem LiesI.below {w W:World} {v:Value} {N:List Int} (h:LiesI w v N) (hb:Below w.heap.size w W):LiesI W v N:=by
 obtain ⟨o,cap,e,h1,h2,h3⟩:=h.form
 refine ⟨o,cap,e,h1,h2,fun i hi=>?_⟩
 obtain ⟨g,e,a⟩:=h3 i hi
 exact ⟨g,e,Ja hb a⟩
def Jcs (N:List Int) (k:Nat):Int:=(N.take k).foldl Jec (N[0]?.getD 0)
def Jcr (N:List Int) (k:Nat):Int:=(N.take k).foldl Jbr (N[0]?.getD 0)
theorem Jk6 {N:List Int} {i:Nat} (h:i < N.length):N.take (i + 1) = N.take i ++ [N[i]?.getD 0]:=by
 rw [List.take_succ_eq_append_getElem h,List.getElem?_eq_getElem h];rfl
theorem Jj6 (N:List Int) (k:Nat) (hk:k < N.length):Jcs N (k + 1) = Jec (Jcs N k) (N[k]?.getD 0):=by unfold Jcs;rw [Jk6 hk,List.foldl_append];rfl
theorem Jkn (N:List Int) (k:Nat) (hk:k < N.length):Jcr N (k + 1) = Jbr (Jcr N k) (N[k]?.getD 0):=by unfold Jcr;rw [Jk6 hk,List.foldl_append];rfl
theorem Jho (f:Pt->Int) (op:Pt->Pt->Pt) (g:Int->Int->Int) (hop:∀ a p,f (op a p) = g (f a) (f p)):∀ (l:List Pt) (a:Pt),(l.map f).foldl g (f a) = f (l.foldl op a)
 | [],a=>rfl
 | q :: r,a=>by rw [List.map_cons,List.foldl_cons,List.foldl_cons,<- hop,Jho f op g hop r]
theorem Jp4 (f:Pt->Int) (P:List Pt) (h0:0 < P.length):(P.map f)[0]?.getD 0 = f (pt P 0):=by unfold pt;simp [h0]
theorem Jje (f:Pt->Int) (P:List Pt) (h0:0 < P.length) (hmin:∀ a p,f (Jqq a p) = Jec (f a) (f p)) (hmax:∀ a p,f (Jqk a p) = Jbr (f a) (f p)) :
  Jcs (P.map f) (P.map f).length = f (Jc0 P P.length)/\Jcr (P.map f) (P.map f).length = f (Jb3 P P.length):=by
 unfold Jcs Jcr Jc0 Jb3
 rw [List.take_length,List.take_length,Jp4 f P h0]
 exact ⟨Jho f Jqq Jec hmin P _,Jho f Jqk Jbr hmax P _⟩
theorem Jub (N:List Int) (m:Int) (hin:∀ n ∈ N,-m <= n/\n <= m) (h0:0 < N.length):∀ k,k <= N.length->(-m <= Jcs N k/\Jcs N k <= m)/\(-m <= Jcr N k/\Jcr N k <= m)/\Jcs N k <= Jcr N k:=by
 have get:∀ i,i < N.length->-m <= N[i]?.getD 0/\N[i]?.getD 0 <= m:=fun i hi=>by
  have:=hin N[i] (List.getElem_mem hi);rw [List.getElem?_eq_getElem hi];exact this
 intro k
 induction k with
 | zero=>intro _;have:=get 0 h0;unfold Jcs Jcr;simp only [List.take_zero,List.foldl_nil];omega
 | succ k ih =>
  intro hk
  obtain ⟨h1,h2,h3⟩:=ih (by omega)
  have hp:=get k (by omega)
  rw [Jj6 N k (by omega),Jkn N k (by omega)]
  unfold Jec Jbr
  refine ⟨?_,?_,?_⟩ <;> (split <;> first | omega | (split <;> omega))
theorem Jhq (v:Value) (N:List Int) (r:Int) (w0:World) (hv:LiesI w0 v N) (h0:0 < N.length) (hl:N.length <= 100) (hin:∀ n ∈ N,-65536 <= n/\n <= 65536) (hr:0 <= r/\r <= 16384) :
  Calls Tryz.prog 82 #[v,J Y r] w0 fun e W=>e = .returned (J Y (hw (Jcs N N.length) (Jcr N N.length) r))/\Below w0.heap.size w0 W:=by
 obtain ⟨o,c,rfl,hlc,hcm,hcell⟩:=hv.form
 have HC:Hid _:=hcell
 obtain ⟨g,rfl,y0⟩:=hcell 0 h0
 have HM:Hid _:=Jub N 65536 hin h0
 have HS:Hid (Jcs N 0 = N[0]?.getD 0/\Jcr N 0 = N[0]?.getD 0):=⟨rfl,rfl⟩
 obtain ⟨n0,hn0⟩:∃ n0,n0 = N[0]?.getD 0:=⟨_,rfl⟩
 rw [<- hn0] at y0 HS
 clear hcell hv hin hn0
 have hz:(0:Int) < (N.length:Int):=by omega
 obtain ⟨R,hR⟩:∃ R,hw (Jcs N N.length) (Jcr N N.length) r = R:=⟨_,rfl⟩
 rw [hR]
 have HRR:Hid _:=hR
 clear hR
 go_enter func82,ntmps82
 go_wp2_with (fail)
 go_loopg [5,6,7] N.length (fun gm s5 s6 s7 wr=>∃ k:Nat,s5 = J Y (Jcs N k)/\s6 = J Y (Jcr N k)/\s7 = J Y (k:Int)/\k <= N.length/\gm = N.length - k/\wr = w0)
 case atStart=>exact ⟨0,by rw [HS.out.1],by rw [HS.out.2],rfl,Nat.zero_le _,rfl,rfl⟩
 case round =>
  obtain ⟨k,rfl,rfl,rfl,hk,hgm,rfl⟩:=hrel
  have HG:Hid _:=hgm
  clear hgm y0
  by_cases hkt:k < N.length
  ·obtain ⟨g',e',x0⟩:=HC.out k hkt
   cases e'
   have HN1:Hid _:=Jj6 N k hkt
   have HN2:Hid _:=Jkn N k hkt
   unfold Jec at HN1
   unfold Jbr at HN2
   generalize N[k]?.getD 0 = nk at *
   generalize Jcs N k = lo at *
   generalize Jcr N k = hi at *
   obtain ⟨nl,e1⟩:∃ v,(if nk < lo then nk else lo) = v:=⟨_,rfl⟩
   obtain ⟨nh,e2⟩:∃ v,(if nk > hi then nk else hi) = v:=⟨_,rfl⟩
   rw [e1] at HN1
   rw [e2] at HN2
   have hkz:(k:Int) < (N.length:Int):=by omega
   go_wp2_with (fail)
   go_roundg (N.length - (k + 1))
   case measure=>have:=HG.out;omega
   case rel=>exact ⟨k + 1,by rw [HN1.out],by rw [HN2.out],by go_num,by omega,rfl,rfl⟩
  ·have e:k = N.length:=by omega
   subst e
   obtain ⟨m1,m2,m3⟩:=HM.out N.length (Nat.le_refl _)
   have HW:Hid (R = ((Jcr N N.length - Jcs N N.length).tdiv 2 + r) * 1048576):=HRR.out.symm
   clear HRR
   have hh:=Jid (r:=r) m1.1 m2.2 m3 hr.1 hr.2
   generalize Jcs N N.length = lo at *
   generalize Jcr N N.length = hi at *
   have q1:IntKind.i64.wrap (hi - lo) = hi - lo:=by rw [IntKind.wrap_i64];omega
   generalize hq:(hi - lo).tdiv 2 = q at *
   have q2:IntKind.i64.wrap (q + r) = q + r:=by rw [IntKind.wrap_i64];omega
   have q3:IntKind.i64.wrap ((q + r) * 1048576) = (q + r) * 1048576:=by rw [IntKind.wrap_i64];omega
   have q4:IntKind.i64.wrap q = q:=by rw [IntKind.wrap_i64];omega
   clear hh
   go_wp2_with (fail)
   go_ret
   exact ⟨by rw [HW.out];rfl,Below.refl _ _⟩
end
section
open Go.RowKit Go.Shelf Fx
structure MP where
 m:Int
 x:Int
 y:Int
 z:Int
 e:Int
def MP.v (p:MP):Value:=.tuple #[.agg #[J Y p.m,J Y p.x,J Y p.y,J Y p.z],J Y p.e]
end
end Go.Proofs.YteebbpioffdncaaGreat
