/- The document's own layer 12: Cap. -/
import Derived.Test.YteebbpioffdncaaGreatEBBack24
import Derived.Test.YteebbpioffdncaaGreatEBBack18
import Derived.Test.YteebbpioffdncaaGreatProg
import Derived.Lib.SmallJoins
import Derived.OpenShut
import Derived.Test.YteebbpioffdncaaGreatEBBack19
import Derived.Deep.Slices
import Derived.Test.YteebbpioffdncaaGreatEBBack17
import Derived.Test.YteebbpioffdncaaGreatEBBack23
set_option maxHeartbeats 8000000
set_option maxRecDepth 100000
set_option linter.unusedVariables false
namespace Go.Proofs.YteebbpioffdncaaGreat
open Go.Calls renaming mono -> JA
open Tryz
open Go.Value renaming int -> J
open Go.IntKind renaming i64 -> Y
section
open Go.RowKit Go.Shelf Fx
theorem Jgq (a:V3) (w:World) (ha:Sml 64 a) :
  Calls Tryz.prog 86 #[a.val] w fun e W=>e = .returned (hlf a).val/\Hid (Below w.heap.size w W):=by
 obtain ⟨w0,w1,w2⟩:=Jp5 ha
 obtain ⟨x,y,z⟩:=a
 have HW:Hid _:=And.intro w0 (And.intro w1 w2)
 have hB:Hid (Below w.heap.size w ((w.alloc (.cells #[J Y x,J Y y,J Y z] 27)).alloc (.cells #[J Y 0,J Y 0,J Y 0] 27))):=Jf (Jb w _) (Jb _ _)
 clear w0 w1 w2
 go_enter func86,ntmps86
 go_wp2
 refine bodyPost_ret (v:=.agg #[J Y (wrap64 (x.tdiv 2)),J Y (wrap64 (y.tdiv 2)),J Y (wrap64 (z.tdiv 2))]) (by simp [results,results86,go_sem]) rfl ?_
 refine ⟨?_,?_⟩
 ·rw [HW.out.1,HW.out.2.1,HW.out.2.2]
 ·show Below _ _ _
  go_grown
theorem Jdg {P:Program} {fn:Func} {tmps:Array Value} {w:World} {v:Value} (a c:Nat) (t:TypeId) (hr:fn.results = #[.cell a t,.tmp c]) (p:Addr) (ha:tmps[a]?.getD undef = .pointer (some p)) (h:(loadVar t p).run P w = .ok v w):(results fn tmps).run P w = .ok (.tuple #[v,tmps[c]?.getD undef]) w:=by
 unfold results
 rw [hr]
 simp [ha,asAddr,h]
theorem Jb8 {P:Program} {ops:Array Oper} {rest:List Oper} {op:Oper} {a:Act} {w:World} {Q:Exit->Act->World->Prop} (hw:Region.wanted op (yielded ops a.tmps) = true) (ty:TypeId) (x:Operand) (ho:op.op = .load ty x)
  (b o:Nat) (hx:a.eval x = .pointer (some ⟨b,o,none⟩)) (cs:List Value) (d:TypeDesc) (hc:w.rangeAt b o cs)
  (hu:P.underlying ty = some d) (hd:d.isRow = true) (hi:(P.info? ty).map (·.size) = some cs.length)
  (h:wpList P ops Q rest (a.put op.dst (.agg cs.toArray)) w):wpList P ops Q (op :: rest) a w:=by
 unfold wpList
 rw [if_pos hw]
 exact .inl (wp_load_mid ty x ho b o hx cs d hc hu hd hi h)
def Jv (slow bad:V3->Bool) (R9:V3 × Bool × Bool) (n:Nat) (q:V3) (did g:Bool):Prop:=(g = true/\R9.2.2 = true) \/ (g = false/\Hv slow bad R9 false n q did false)
def Je (R9:V3 × Bool × Bool) (q:V3) (did g:Bool):Prop:=g = R9.2.2/\(g = false->q = R9.1/\did = R9.2.1)
theorem Jv.stop {slow bad:V3->Bool} {R9:V3 × Bool × Bool} {n:Nat} {q:V3} {did:Bool} (h:Hv slow bad R9 false n q did false) (hs:slow q = true):Je R9 q did (bad q):=by
 obtain ⟨a,b,c⟩:=h.stop hs
 rw [Bool.false_or,Bool.false_or] at c
 exact ⟨c,fun _=>⟨a,b⟩⟩
theorem Jv.next {slow bad:V3->Bool} {R9:V3 × Bool × Bool} {n:Nat} {q:V3} {did:Bool} (h:Hv slow bad R9 false n q did false) (h0:slow ⟨0,0,0⟩ = true) (hs:slow q = false):∃ m,n = m + 1/\Jv slow bad R9 m (hlf q) true (bad q):=by
 obtain ⟨m,e,k⟩:=h.next h0 hs
 refine ⟨m,e,?_⟩
 cases hb:bad q with
 | true =>
  have:=k.bad
  rw [hb] at this
  simp at this
  exact Or.inl ⟨rfl,this⟩
 | false =>
  rw [hb] at k
  exact Or.inr ⟨rfl,k⟩
def Juj (d:Bool) (r:V3 × Bool × Bool):V3 × Bool × Bool:=(r.1,d || r.2.1,r.2.2)
theorem Jsn {b:Bd} {rp:V3 × Bool × Bool} {q1:V3} {d1 g1:Bool} (hrp:Jg4 b = rp) (h:Je rp q1 d1 g1) (hl:Sml 64 b.l):∃ rl,Jv (Jlo (b.wp q1)) (Jmu (b.wp q1)) rl 64 b.l d1 g1/\∀ q d g,Je rl q d g->g = Jf8 b/\(g = false->(b.wp q1).wl q = (b.wp (Jg4 b).1).wl (Jgf b).1/\d = ((Jg4 b).2.1 || (Jgf b).2.1)):=by
 obtain ⟨h1,h2⟩:=h
 cases g1 with
 | true =>
  refine ⟨(b.l,d1,true),Or.inl ⟨rfl,rfl⟩,fun q d g hj=>?_⟩
  have hg:g = true:=hj.1
  refine ⟨?_,fun e=>by rw [hg] at e;cases e⟩
  unfold Jf8
  rw [hg,hrp,<- h1];rfl
 | false =>
  obtain ⟨e1,e2⟩:=h2 rfl
  refine ⟨Juj d1 (Jgf b),Or.inr ⟨rfl,?_⟩,fun q d g hj=>?_⟩
  ·have e:Jgf b = hvd (Jlo (b.wp q1)) (Jmu (b.wp q1)) 64 b.l:=by unfold Jgf;rw [hrp,e1]
   rw [e]
   exact ⟨rfl,rfl,rfl,hl⟩
  ·have hg:g = (Jgf b).2.2:=hj.1
   refine ⟨?_,fun e=>?_⟩
   ·unfold Jf8;rw [hrp,<- h1,hg];rfl
   ·obtain ⟨k1,k2⟩:=hj.2 e
    have k1:q = (Jgf b).1:=k1
    have k2:d = (d1 || (Jgf b).2.1):=k2
    rw [hrp,<- e1,<- e2,k1,k2]
    exact ⟨rfl,rfl⟩
theorem Jj7 (fb fo:Nat) (f:Bool) (b:Bd) (R0:List Value) (hR0:Rest R0) (hp:Sml 64 b.p) (hl:Sml 64 b.l) (W:World) (hc:W.cell? ⟨fb,fo,none⟩ = some (.bool f)) (hf:W.frozen? ⟨fb,fo,none⟩ = false) :
  Calls Tryz.prog 34 #[.pointer (some ⟨fb,fo,none⟩),.agg (b.L R0).toArray] W fun e W'=>e = .returned (.tuple #[.agg ((Jcd b).L R0).toArray,.bool (Jqx b)])/\Hid (After ⟨fb,fo,none⟩ (f || Jbq b.k (Jf8 b)) W W'):=by
 have hbW:fb < W.heap.size:=World.block_lt_of_cell? _ _ hc
 have hR:Hid (Rest _):=hR0
 have hz0:Hid _:=J2 hR0 b
 obtain ⟨V,hV⟩:∃ V,V = ((W.alloc (.cells (b.L R0).toArray 39)).alloc (.cells #[J Y 0,J Y 0,J Y 0,J Y 0,J Y 0,J Y 0,J Y 0,J Y 0,J Y 0,J Y 0,J Y 0,J Y 0,J Y 0,J Y 0,J Y 0,J Y 0,J Y 0,J Y 0,J Y 0,J Y 0,J Y 0,J Y 0,J Y 0,.slice none 0 0,J Y 0,J Y 0,J Y 0,.bool false,J Y 0,.bool false,.bool false] 39)):=⟨_,rfl⟩
 have hb0:=Jb W (.cells (b.L R0).toArray 39)
 have hb1:=Jb (W.alloc (.cells (b.L R0).toArray 39)) (.cells #[J Y 0,J Y 0,J Y 0,J Y 0,J Y 0,J Y 0,J Y 0,J Y 0,J Y 0,J Y 0,J Y 0,J Y 0,J Y 0,J Y 0,J Y 0,J Y 0,J Y 0,J Y 0,J Y 0,J Y 0,J Y 0,J Y 0,J Y 0,.slice none 0 0,J Y 0,J Y 0,J Y 0,.bool false,J Y 0,.bool false,.bool false] 39)
 have Cb:CW V (W.heap.size) (b.L R0):=by
  have h9:=(CW.new W (b.L R0) 39).step hb1
  rw [hV];exact h9
 have Cr:CW V (W.heap.size + 1) [J Y 0,J Y 0,J Y 0,J Y 0,J Y 0,J Y 0,J Y 0,J Y 0,J Y 0,J Y 0,J Y 0,J Y 0,J Y 0,J Y 0,J Y 0,J Y 0,J Y 0,J Y 0,J Y 0,J Y 0,J Y 0,J Y 0,J Y 0,.slice none 0 0,J Y 0,J Y 0,J Y 0,.bool false,J Y 0,.bool false,.bool false]:=by
  have h9:=CW.new (W.alloc (.cells (b.L R0).toArray 39)) [J Y 0,J Y 0,J Y 0,J Y 0,J Y 0,J Y 0,J Y 0,J Y 0,J Y 0,J Y 0,J Y 0,J Y 0,J Y 0,J Y 0,J Y 0,J Y 0,J Y 0,J Y 0,J Y 0,J Y 0,J Y 0,J Y 0,J Y 0,.slice none 0 0,J Y 0,J Y 0,J Y 0,.bool false,J Y 0,.bool false,.bool false] 39
  simp only [World.size_alloc] at h9
  rw [hV];exact h9
 have hB:Below W.heap.size W V:=by rw [hV];exact (Jf hb0 hb1)
 have hcV:=Ja hB hc
 have hfV:=Jt hB hc hf
 have HLV:Hid (Leaves ⟨fb,fo,none⟩ W V):=(Leaves.refl _ _).step hB
 clear hb0 hb1
 clear hc hf hR0
 have hWV:=hB.size
 clear hB
 obtain ⟨d9,hd9⟩:∃ x,x = Jcd b:=⟨_,rfl⟩
 obtain ⟨t9,ht9⟩:∃ x,x = Jqx b:=⟨_,rfl⟩
 obtain ⟨g9,hg9⟩:∃ x,x = (f || Jbq b.k (Jf8 b)):=⟨_,rfl⟩
 rw [<- hd9,<- ht9,<- hg9]
 have HE:Hid (d9 = Jcd b/\t9 = Jqx b/\g9 = (f || Jbq b.k (Jf8 b))):=⟨hd9,ht9,hg9⟩
 clear hd9 ht9 hg9
 go_enter func34,ntmps34
 go_upto_region 1 with fail
 rw [<- hV]
 clear hV
 obtain ⟨pr,hpr⟩:∃ p,p = W.heap.size + 1:=⟨_,rfl⟩
 obtain ⟨pb,hpb⟩:∃ p,p = W.heap.size:=⟨_,rfl⟩
 rw [<- hpr] at Cr
 rw [<- hpb] at Cb
 rw [<- hpr,<- hpb]
 have nb:pb ≠ fb:=by omega
 have nr:pr ≠ fb:=by omega
 have nr':fb ≠ pr:=by omega
 have br:pb ≠ pr:=by omega
 have hWr:W.heap.size <= pr:=by omega
 have hWb:W.heap.size <= pb:=by omega
 have hfV0:fb < V.heap.size:=World.block_lt_of_cell? _ _ hcV
 have hbV:pb < V.heap.size:=Cb.lt
 have hrV:pr < V.heap.size:=Cr.lt
 clear hpb hpr
 have hZl:([J Y 0,J Y 0,J Y 0,J Y 0,J Y 0,J Y 0,J Y 0,J Y 0,J Y 0,J Y 0,J Y 0,J Y 0,J Y 0,J Y 0,J Y 0,J Y 0,J Y 0,J Y 0,J Y 0,J Y 0,J Y 0,J Y 0,J Y 0,.slice none 0 0,J Y 0,J Y 0,J Y 0,.bool false,J Y 0,.bool false,.bool false]:List Value).length = 31:=rfl
 generalize hzl:([J Y 0,J Y 0,J Y 0,J Y 0,J Y 0,J Y 0,J Y 0,J Y 0,J Y 0,J Y 0,J Y 0,J Y 0,J Y 0,J Y 0,J Y 0,J Y 0,J Y 0,J Y 0,J Y 0,J Y 0,J Y 0,J Y 0,J Y 0,.slice none 0 0,J Y 0,J Y 0,J Y 0,.bool false,J Y 0,.bool false,.bool false]:List Value) = zl at *
 have HZ:Hid _:=hzl
 clear hzl
 have k0:=(Cb 0 _ rfl).1
 by_cases hk:b.k = 2
 ·rw [hk] at k0
  have HD:Hid (d9 = if Jf8 b = false then (b.wp (Jg4 b).1).wl (Jgf b).1 else b):=by
   show _ = _
   rw [HE.out.1];unfold Jcd;cases Jf8 b <;> simp [hk]
  have HT:Hid (t9 = if Jf8 b = false then (Jg4 b).2.1 || (Jgf b).2.1 else false):=by
   show _ = _
   rw [HE.out.2.1];unfold Jqx;cases Jf8 b <;> simp [hk]
  have HG:Hid (g9 = (f || Jf8 b)):=by have h9:=HE.out.2.2;rw [Jbq,if_pos hk] at h9;exact h9
  clear HE
  have HRG:Hid (World.rangeAt V pb 0 (b.L R0)):=Cb.range
  obtain ⟨X1,hX1⟩:∃ X,X = (V.alloc (.cells #[J Y 0,J Y 0,J Y 0,J Y 0,J Y 0,J Y 0,J Y 0,J Y 0,J Y 0,J Y 0,J Y 0,J Y 0,J Y 0,J Y 0,J Y 0,J Y 0,J Y 0,J Y 0,J Y 0,J Y 0,J Y 0,J Y 0,J Y 0,.slice none 0 0,J Y 0,J Y 0,J Y 0,.bool false,J Y 0,.bool false,.bool false] 39)).setCells V.heap.size 0 (b.L R0):=⟨_,rfl⟩
  obtain ⟨X2,hX2⟩:∃ X,X = X1.alloc (.cells #[.bool false] 53):=⟨_,rfl⟩
  have hbz:=Jb V (.cells #[J Y 0,J Y 0,J Y 0,J Y 0,J Y 0,J Y 0,J Y 0,J Y 0,J Y 0,J Y 0,J Y 0,J Y 0,J Y 0,J Y 0,J Y 0,J Y 0,J Y 0,J Y 0,J Y 0,J Y 0,J Y 0,J Y 0,J Y 0,.slice none 0 0,J Y 0,J Y 0,J Y 0,.bool false,J Y 0,.bool false,.bool false] 39)
  have Cz0:=CW.new V [J Y 0,J Y 0,J Y 0,J Y 0,J Y 0,J Y 0,J Y 0,J Y 0,J Y 0,J Y 0,J Y 0,J Y 0,J Y 0,J Y 0,J Y 0,J Y 0,J Y 0,J Y 0,J Y 0,J Y 0,J Y 0,J Y 0,J Y 0,.slice none 0 0,J Y 0,J Y 0,J Y 0,.bool false,J Y 0,.bool false,.bool false] 39
  have hy0:Hid _:=Jaa hR.out b
  have h10:Hid _:=hR.out.each b
  have HTZ:Hid (World.there (V.alloc (.cells #[J Y 0,J Y 0,J Y 0,J Y 0,J Y 0,J Y 0,J Y 0,J Y 0,J Y 0,J Y 0,J Y 0,J Y 0,J Y 0,J Y 0,J Y 0,J Y 0,J Y 0,J Y 0,J Y 0,J Y 0,J Y 0,J Y 0,J Y 0,.slice none 0 0,J Y 0,J Y 0,J Y 0,.bool false,J Y 0,.bool false,.bool false] 39)) V.heap.size 0 (b.L R0).toArray.size):=Cz0.there31 rfl hR.out
  have hs1:X1.heap.size = V.heap.size + 1:=by rw [hX1,Jeu,World.size_alloc]
  have hb1:Below V.heap.size V X1:=by rw [hX1];exact hbz.trans (Jbl (Nat.le_refl _) _ _ _)
  have Cz:CW X1 V.heap.size (b.L R0):=by rw [hX1];exact Cz0.sets (by rw [hR.out.all];rfl)
  have hb2:Below X1.heap.size X1 X2:=by rw [hX2];exact Jb _ _
  have Co:CW X2 X1.heap.size [.bool false]:=by rw [hX2];exact CW.new X1 [.bool false] 53
  have Cz:=Cz.step hb2
  have hb3:=Jf hb1 hb2
  have Cb:=Cb.step hb3
  have Cr:=Cr.step hb3
  have hf2:=Jt hb3 hcV hfV
  have hc2:=Ja hb3 hcV
  have HL2:Hid (Leaves ⟨fb,fo,none⟩ W X2):=HLV.out.step (hb3.mono HLV.out.size)
  have hs2:=hb3.size
  clear Cz0 hbz hb1 hb2 hb3 HLV hcV hfV
  go_upto_block 0 with (first | refine wpList_load_mid rfl 39 _ rfl pb 0 rfl _ _ HRG.out underlying39 rfl hz0.out ?_ | refine wpList_store_mid rfl 39 _ _ rfl V.heap.size 0 _ rfl rfl HTZ.out hy0.out h10.out ?_)
  rw [<- hX1,<- hX2]
  have hop:X1.heap.size <= V.heap.size + 1:=by omega
  obtain ⟨po,hpo⟩:∃ p,p = X1.heap.size:=⟨_,rfl⟩
  obtain ⟨pz,hpz⟩:∃ p,p = V.heap.size:=⟨_,rfl⟩
  rw [<- hpo] at Co ⊢
  rw [<- hpz] at Cz ⊢
  have nfz:fb ≠ pz:=by omega
  have no:pb ≠ po:=by omega
  have nz:pz ≠ po:=by omega
  have bz:pz ≠ pb:=by omega
  have nof:fb ≠ po:=by omega
  have nro:pr ≠ po:=by omega
  have nbr:pr ≠ pb:=by omega
  have nbf:fb ≠ pb:=by omega
  have hWo:W.heap.size <= po:=by omega
  have ho2:fb < X2.heap.size:=by omega
  have HS:Hid (Clo _ _ _ _ _ _):=Clo.start (Co 0 _ rfl).1 (Co 0 _ rfl).2 Cb
  clear hX1 hX2 hpo hpz hs1 hs2 HTZ hop HRG k0 Co
  obtain ⟨rp,hrp⟩:∃ r,r = hvd (Jm7 b) (Jg2 b) 64 b.p:=⟨_,rfl⟩
  have HI:Hid (Jv (Jm7 b) (Jg2 b) rp 64 b.p false false):=Or.inr ⟨rfl,by rw [hrp];exact ⟨rfl,by simp,by simp,hp⟩⟩
  have HRP:Hid (Jg4 b = rp):=by show _ = _;rw [hrp];rfl
  clear hrp
  have HSP:Hid _:=fun w q g=>Jpk po 0 g (b.wp q) R0 hk w
  have HLN:Hid _:=fun w q g=>Jq6 po 0 g (Jbz (b.wp q)) w
  go_cut [8] from 16 to 32 (fun s8 wx=>∃ (q:V3) (did g:Bool),s8 = .bool did/\Hid (Je rp q did g)/\Hid (Clo ⟨po,0,none⟩ g pb ((b.wp q).L R0) X2 wx))
  case first =>
   go_wp2_with (fail)
   go_loopg [8] 64 (fun gm s8 wr=>∃ (q:V3) (did g:Bool),s8 = .bool did/\gm <= 64/\Hid (Jv (Jm7 b) (Jg2 b) rp gm q did g)/\Hid (Clo ⟨po,0,none⟩ g pb ((b.wp q).L R0) X2 wr))
   case atStart=>exact ⟨b.p,false,false,rfl,Nat.le_refl _,HI,HS⟩
   case round =>
    obtain ⟨q,did,g,rfl,hgm,HJ,HK⟩:=hrel
    clear HI HS
    rcases HJ.out with ⟨rfl,h9⟩ | ⟨rfl,hv⟩
    ·have HR9:Hid _:=h9
     have ho:=HK.out.cell
     clear HJ h9
     go_wp2_with (fail)
     go_meet
     case rel=>exact ⟨q,did,true,rfl,⟨HR9.out.symm,fun h=>by cases h⟩,HK⟩
    ·have HV:Hid _:=hv
     have hq:=hv.sml
     have ho:=HK.out.cell
     have hzq:Hid _:=J2 hR.out (b.wp q)
     have HRG:Hid (World.rangeAt wr pb 0 ((b.wp q).L R0)):=HK.out.cw.range
     have HC1:Hid _:=HSP.out wr q false HK.out.cell HK.out.frozen
     clear HJ hv
     go_wp2_with (refine Jb8 (by rfl) 39 _ rfl pb 0 rfl _ _ HRG.out underlying39 rfl hzq.out ?_)
     refine JA HC1.out ?_
     rintro e Y1 ⟨rfl,A⟩
     have HK:Hid (Clo _ _ _ _ _ _):=HK.out.same A.out no
     have HC2:Hid _:=HLN.out Y1 q (false || Jed (b.wp q)) HK.out.cell HK.out.frozen
     clear HC1 A HRG ho
     go_wp2_with (fail)
     refine JA HC2.out ?_
     rintro e Y2 ⟨rfl,A⟩
     have HK:Hid (Clo ⟨po,0,none⟩ (Jg2 b q) pb ((b.wp q).L R0) X2 Y2):=by
      have h9:=HK.out.same A.out no
      rw [Bool.false_or] at h9
      exact h9
     clear HC2 A
     have HSL:Hid (Jm7 b q = decide (Jga (Jbz (b.wp q)) <= 274877906944)):=rfl
     by_cases hle:Jga (Jbz (b.wp q)) <= 274877906944
     ·have HE9:Hid _:=Jv.stop HV.out (by rw [HSL.out];exact decide_eq_true hle)
      generalize Jga (Jbz (b.wp q)) = ln at *
      clear HSL HV
      go_wp2_with (fail)
      go_meet
      case rel=>exact ⟨q,did,Jg2 b q,rfl,HE9,HK⟩
     ·obtain ⟨m,rfl,HN⟩:=Jv.next HV.out (Jmd b) (by rw [HSL.out];exact decide_eq_false hle)
      have HN:Hid _:=HN
      generalize Jga (Jbz (b.wp q)) = ln at *
      clear HSL HV
      obtain ⟨c0,f0⟩:=HK.out.cw 8 _ rfl
      obtain ⟨c1,f1⟩:=HK.out.cw 9 _ rfl
      obtain ⟨c2,f2⟩:=HK.out.cw 10 _ rfl
      go_wp2_with (fail)
      refine JA (Jgq q Y2 (Jqv hq hgm)) ?_
      rintro e Y3 ⟨rfl,hb⟩
      have HK:Hid (Clo _ _ _ _ _ _):=HK.out.step hb.out
      clear c0 c1 c2 f0 f1 f2 hb
      obtain ⟨c0,f0⟩:=HK.out.cw 8 _ rfl
      obtain ⟨c1,f1⟩:=HK.out.cw 9 _ rfl
      obtain ⟨c2,f2⟩:=HK.out.cw 10 _ rfl
      go_wp2_with (fail)
      go_roundg m
      case measure=>omega
      case rel=>exact ⟨hlf q,true,Jg2 b q,rfl,by omega,HN,HK.out.set3 no 8 (J Y (hlf q).x) (J Y (hlf q).y) (J Y (hlf q).z) (Jhm hR.out (by decide))⟩
  case rest =>
   obtain ⟨q1,d1,g1,rfl,HJ1,HK1⟩:=hcut
   clear HI HS HSP HLN
   obtain ⟨rl,hI2,hEnd⟩:=Jsn (b:=b) HRP.out HJ1.out hl
   have HI2:Hid _:=hI2
   have HEnd:Hid _:=hEnd
   clear hI2 hEnd HJ1 HRP
   obtain ⟨b9,hb9⟩:∃ x,x = b.wp q1:=⟨_,rfl⟩
   have HS2:Hid (Clo ⟨po,0,none⟩ g1 pb ((b9.wl b.l).L R0) X2 wc):=by rw [hb9];exact HK1.out
   rw [<- hb9] at HI2 HEnd
   have hk9:b9.k = 2:=by rw [hb9];exact hk
   clear hb9 HK1
   have HSP2:Hid _:=fun w q g=>Jpx po 0 g (b9.wl q) R0 hR.out hk9 w
   have HLN2:Hid _:=fun w q g=>Jq6 po 0 g (Jao (b9.wl q) q) w
   go_upto_block 2 with fail
   go_cut [8] from 33 to 49 (fun s8 wx=>∃ (q:V3) (did g:Bool),s8 = .bool did/\Hid (Je rl q did g)/\Hid (Clo ⟨po,0,none⟩ g pb ((b9.wl q).L R0) X2 wx))
   case first =>
    go_wp2_with (fail)
    go_loopg [8] 64 (fun gm s8 wr=>∃ (q:V3) (did g:Bool),s8 = .bool did/\gm <= 64/\Hid (Jv (Jlo b9) (Jmu b9) rl gm q did g)/\Hid (Clo ⟨po,0,none⟩ g pb ((b9.wl q).L R0) X2 wr))
    case atStart=>exact ⟨b.l,d1,g1,rfl,Nat.le_refl _,HI2,HS2⟩
    case round =>
     obtain ⟨q,did,g,rfl,hgm,HJ,HK⟩:=hrel
     clear HI2 HS2
     rcases HJ.out with ⟨rfl,h9⟩ | ⟨rfl,hv⟩
     ·have HR9:Hid _:=h9
      have ho:=HK.out.cell
      clear HJ h9
      go_wp2_with (fail)
      go_meet
      case rel=>exact ⟨q,did,true,rfl,⟨HR9.out.symm,fun h=>by cases h⟩,HK⟩
     ·have HV:Hid _:=hv
      have hq:=hv.sml
      have ho:=HK.out.cell
      have hzq:Hid _:=J2 hR.out (b9.wl q)
      have HRG:Hid (World.rangeAt wr pb 0 ((b9.wl q).L R0)):=HK.out.cw.range
      have HC1:Hid _:=HSP2.out wr q false HK.out.cell HK.out.frozen
      clear HJ hv
      go_wp2_with (refine Jb8 (by rfl) 39 _ rfl pb 0 rfl _ _ HRG.out underlying39 rfl hzq.out ?_)
      refine JA HC1.out ?_
      rintro e Y1 ⟨rfl,A⟩
      have HK:Hid (Clo _ _ _ _ _ _):=HK.out.same A.out no
      have HC2:Hid _:=HLN2.out Y1 q (false || Jd8 (b9.wl q) q) HK.out.cell HK.out.frozen
      clear HC1 A HRG ho
      go_wp2_with (fail)
      refine JA HC2.out ?_
      rintro e Y2 ⟨rfl,A⟩
      have HK:Hid (Clo ⟨po,0,none⟩ (Jmu b9 q) pb ((b9.wl q).L R0) X2 Y2):=by
       have h9:=HK.out.same A.out no
       rw [Bool.false_or] at h9
       exact h9
      clear HC2 A
      have HSL:Hid (Jlo b9 q = decide (Jga (Jao (b9.wl q) q) <= 68719476736)):=rfl
      by_cases hle:Jga (Jao (b9.wl q) q) <= 68719476736
      ·have HE9:Hid _:=Jv.stop HV.out (by rw [HSL.out];exact decide_eq_true hle)
       generalize Jga (Jao (b9.wl q) q) = ln at *
       clear HSL HV
       go_wp2_with (fail)
       go_meet
       case rel=>exact ⟨q,did,Jmu b9 q,rfl,HE9,HK⟩
      ·obtain ⟨m,rfl,HN⟩:=Jv.next HV.out (Jnk b9) (by rw [HSL.out];exact decide_eq_false hle)
       have HN:Hid _:=HN
       generalize Jga (Jao (b9.wl q) q) = ln at *
       clear HSL HV
       obtain ⟨c0,f0⟩:=HK.out.cw 11 _ rfl
       obtain ⟨c1,f1⟩:=HK.out.cw 12 _ rfl
       obtain ⟨c2,f2⟩:=HK.out.cw 13 _ rfl
       go_wp2_with (fail)
       refine JA (Jgq q Y2 (Jqv hq hgm)) ?_
       rintro e Y3 ⟨rfl,hb⟩
       have HK:Hid (Clo _ _ _ _ _ _):=HK.out.step hb.out
       clear c0 c1 c2 f0 f1 f2 hb
       obtain ⟨c0,f0⟩:=HK.out.cw 11 _ rfl
       obtain ⟨c1,f1⟩:=HK.out.cw 12 _ rfl
       obtain ⟨c2,f2⟩:=HK.out.cw 13 _ rfl
       go_wp2_with (fail)
       go_roundg m
       case measure=>omega
       case rel=>exact ⟨hlf q,true,Jmu b9 q,rfl,by omega,HN,HK.out.set3 no 11 (J Y (hlf q).x) (J Y (hlf q).y) (J Y (hlf q).z) (Jhm hR.out (by decide))⟩
   case rest =>
    obtain ⟨q2,d2,g2,rfl,HJ2,HK2⟩:=hcut
    obtain ⟨e1,e2⟩:=HEnd.out q2 d2 g2 HJ2.out
    have T:=HK2.out.two
    have HL3:Hid (Leaves ⟨fb,fo,none⟩ W wc):=HL2.out.step (T.keep (B:=W.heap.size) hWo hWb HL2.out.size)
    have hfl:=T.other ⟨fb,fo,none⟩ ho2 nof nbf
    have hc3:=hfl.1.trans hc2
    have hf3:=hfl.2.trans hf2
    have Cz3:=Cz.two T nz bz
    have Cr3:=Cr.two T nro nbr
    have Cb3:=HK2.out.cw
    have ho:=HK2.out.cell
    rw [<- e1] at HD HT HG
    have HE2:Hid _:=e2
    clear T hfl HI2 HS2 HSP2 HLN2 HEnd HJ2 HK2 hc2 hf2 Cz Cr HL2 e1 e2
    cases g2 with
    | true =>
     have HD9:Hid (d9 = b):=HD.out
     have HT9:Hid (t9 = false):=HT.out
     have HG9:Hid (g9 = true):=by show _ = _;rw [HG.out,Bool.or_true]
     clear HD HT HG HE2
     go_upto_region 14 with fail
     obtain ⟨X5,hX5⟩:∃ X,X = wc.setCell ⟨fb,fo,none⟩ (.bool true):=⟨_,rfl⟩
     have hc5:X5.cell? ⟨fb,fo,none⟩ = some (.bool true):=by rw [hX5];simp [go_sem,hc3]
     have hf5:X5.frozen? ⟨fb,fo,none⟩ = false:=by rw [hX5];simp [go_sem,hf3]
     have HL5:Hid (Leaves ⟨fb,fo,none⟩ W X5):=by show Leaves _ _ _;rw [hX5];exact HL3.out.own _
     have Cz5:CW X5 pz (b.L R0):=by rw [hX5];exact Cz3.other (a:=⟨fb,fo,none⟩) nfz _
     have Cr5:CW X5 pr zl:=by rw [hX5];exact Cr3.other (a:=⟨fb,fo,none⟩) nr' _
     rw [<- hX5]
     clear hX5 hc3 hf3 HL3 Cz3 Cr3 ho
     have hc3:=hc5
     have hf3:=hf5
     have HL3:=HL5
     have Cz3:=Cz5
     have Cr3:=Cr5
     clear hc5 hf5 HL5 Cz5 Cr5
     have hz3:Hid _:=J2 hR.out (b)
     have hy3:Hid _:=Jaa hR.out (b)
     have h13:Hid _:=hR.out.each (b)
     have HRG:Hid (World.rangeAt X5 pz 0 ((b).L R0)):=Cz3.range
     have HTH:Hid (World.there X5 pr 0 ((b).L R0).toArray.size):=Cr3.there31 hZl hR.out
     have HX3:Hid (World.rangeAt _ _ _ _):=(Cr3.sets (us:=(b).L R0) (by rw [hR.out.all,hZl])).range
     have HL4:Hid (Leaves ⟨fb,fo,none⟩ W (X5.setCells pr 0 ((b).L R0))):=HL3.out.sets hWr _
     have hc4:Hid _:=(Jcc (w:=X5) (vs:=(b).L R0) (o:=fo) nr').trans hc3
     have hf4:Hid _:=(World.frozen?_setCells pr ((b).L R0) 0 X5 ⟨fb,fo,none⟩).trans hf3
     generalize hcs:(b).L R0 = cs at *
     have HCS:Hid _:=hcs
     clear hcs Cb3 Cz3 Cr3 HL3 hc3 hf3
     go_wp2_with (first | refine wpList_load_mid rfl 39 _ rfl pz 0 rfl _ _ HRG.out underlying39 rfl hz3.out ?_ | refine wpList_store_mid rfl 39 _ _ rfl pr 0 _ rfl rfl HTH.out hy3.out h13.out ?_)
     refine bodyPost_ret (Jdg 4 5 39 results34 ⟨pr,0,none⟩ rfl (run_loadVar_mid _ pr 0 39 cs _ HX3.out underlying39 rfl hz3.out)) rfl ?_
     refine ⟨by rw [HD9.out,HT9.out,HCS.out];rfl,?_⟩
     rw [HG9.out]
     exact HL4.out.done hc4.out hf4.out
    | false =>
     obtain ⟨e3,e4⟩:=HE2.out rfl
     have HD9:Hid (d9 = b9.wl q2):=by show _ = _;rw [HD.out,e3];rfl
     have HT9:Hid (t9 = d2):=by show _ = _;rw [HT.out,e4];rfl
     have HG9:Hid (g9 = f):=by show _ = _;rw [HG.out,Bool.or_false]
     clear HD HT HG HE2 e3 e4
     have hz3:Hid _:=J2 hR.out (b9.wl q2)
     have hy3:Hid _:=Jaa hR.out (b9.wl q2)
     have h13:Hid _:=hR.out.each (b9.wl q2)
     have HRG:Hid (World.rangeAt wc pb 0 ((b9.wl q2).L R0)):=Cb3.range
     have HTH:Hid (World.there wc pr 0 ((b9.wl q2).L R0).toArray.size):=Cr3.there31 hZl hR.out
     have HX3:Hid (World.rangeAt _ _ _ _):=(Cr3.sets (us:=(b9.wl q2).L R0) (by rw [hR.out.all,hZl])).range
     have HL4:Hid (Leaves ⟨fb,fo,none⟩ W (wc.setCells pr 0 ((b9.wl q2).L R0))):=HL3.out.sets hWr _
     have hc4:Hid _:=(Jcc (w:=wc) (vs:=(b9.wl q2).L R0) (o:=fo) nr').trans hc3
     have hf4:Hid _:=(World.frozen?_setCells pr ((b9.wl q2).L R0) 0 wc ⟨fb,fo,none⟩).trans hf3
     generalize hcs:(b9.wl q2).L R0 = cs at *
     have HCS:Hid _:=hcs
     clear hcs Cb3 Cz3 Cr3 HL3 hc3 hf3
     go_wp2_with (first | refine wpList_load_mid rfl 39 _ rfl pb 0 rfl _ _ HRG.out underlying39 rfl hz3.out ?_ | refine wpList_store_mid rfl 39 _ _ rfl pr 0 _ rfl rfl HTH.out hy3.out h13.out ?_)
     refine bodyPost_ret (Jdg 4 5 39 results34 ⟨pr,0,none⟩ rfl (run_loadVar_mid _ pr 0 39 cs _ HX3.out underlying39 rfl hz3.out)) rfl ?_
     refine ⟨by rw [HD9.out,HT9.out,HCS.out];rfl,?_⟩
     rw [HG9.out]
     exact HL4.out.done hc4.out hf4.out
 ·have hk2:(b.k == 2) = false:=by simpa using hk
  have HD:Hid (d9 = b):=by show _ = _;rw [HE.out.1];unfold Jcd;simp [hk]
  have HT:Hid (t9 = false):=by show _ = _;rw [HE.out.2.1];unfold Jqx;simp [hk]
  have HG:Hid (g9 = f):=by have h9:=HE.out.2.2;rw [Jbq,if_neg hk,Bool.or_false] at h9;exact h9
  clear HE
  have HRG:Hid (World.rangeAt V pb 0 (b.L R0)):=Cb.range
  have hy3:Hid _:=Jaa hR.out b
  have h13:Hid _:=hR.out.each b
  have HTH:Hid (World.there V pr 0 (b.L R0).toArray.size):=Cr.there31 hZl hR.out
  have HX3:Hid (World.rangeAt _ _ _ _):=(Cr.sets (us:=b.L R0) (by rw [hR.out.all,hZl])).range
  have HL4:Hid (Leaves ⟨fb,fo,none⟩ W (V.setCells pr 0 (b.L R0))):=HLV.out.sets hWr _
  have hc4:Hid _:=(Jcc (w:=V) (vs:=b.L R0) (o:=fo) nr').trans hcV
  have hf4:Hid _:=(World.frozen?_setCells pr (b.L R0) 0 V ⟨fb,fo,none⟩).trans hfV
  generalize hcs:b.L R0 = cs at *
  have HCS:Hid _:=hcs
  clear hcs Cb Cr HLV hcV hfV
  go_wp2_with (first | refine wpList_load_mid rfl 39 _ rfl pb 0 rfl _ _ HRG.out underlying39 rfl hz0.out ?_ | refine wpList_store_mid rfl 39 _ _ rfl pr 0 _ rfl rfl HTH.out hy3.out h13.out ?_)
  refine bodyPost_ret (Jdg 4 5 39 results34 ⟨pr,0,none⟩ rfl (run_loadVar_mid _ pr 0 39 cs _ HX3.out underlying39 rfl hz0.out)) rfl ?_
  refine ⟨by rw [HD.out,HT.out,HCS.out];rfl,?_⟩
  rw [HG.out]
  exact HL4.out.done hc4.out hf4.out
end
section
open Go.RowKit Go.Shelf Fx
def Jui:Sh:=⟨4,0,Pt.O,[⟨0,0,0⟩,⟨1,0,0⟩,⟨0,1,0⟩,⟨1,1,0⟩]⟩
end
section
open Go.ChangeShapes Go.WideShapes Go.Deep Go.Joins
section
variable {H:Type} {enc:TypeId × Value->H} {w:World} {base:Nat} {spare:Nat->Bool} {held:Bool}
theorem Jbk {n:Nat} {c:Value} {y:DataW H × List MemPlace} (h:DataW.trod enc Tryz.prog w base spare held n 3 [c] = some y):∃ x:Int,c = J Y x/\y = (.lit (.int .i64 x),[])/\(Lit.int .i64 x).wf = true:=by
 obtain ⟨x,h1,h2,h3⟩:=DataW.trod_int underlying3 h
 simp at h1
 exact ⟨x,h1,h2,h3⟩
end
end
section
open Go.ChangeShapes Go.WideShapes Go.Deep Go.Joins
theorem Jog {H:Type} {enc:TypeId × Value->H} {W:World} {base:Nat} {spare:Nat->Bool} {held:Bool} {a:Option Addr} {len cap fuel:Nat} {x:DataW H × List MemPlace}
  (h:DataW.trod enc Tryz.prog W base spare held fuel 24 [.slice a len cap] = some x):∃ L:List Pt,L.length = len/\Lies W (.slice a len cap) L/\∀ p ∈ L,p.fits:=by
 rcases Deep.open_slice underlying24 h with ⟨hcs,_⟩ | ⟨y,l,c,m,n,D,Pl,hcs,_,hl,hm,hmm,_,hx⟩
 ·simp at hcs
  obtain ⟨rfl,rfl,rfl⟩:=hcs
  exact ⟨[],rfl,⟨none,0,rfl,by simp,by omega,fun i hi=>by simp at hi⟩,by simp⟩
 ·simp at hcs
  obtain ⟨rfl,rfl,rfl⟩:=hcs
  unfold maxLen at hm
  have hlm:len <= m:=by rw [hmm];split <;> omega
  have hc3:Tryz.prog.cellsOf 23 = 3:=by kernel_rfl
  have hc1:Tryz.prog.cellsOf 3 = 1:=by kernel_rfl
  have each:∀ i,i < len->∃ q:Pt,(W.cell? ((y.add (i * 3)).add 0) = some (J Y q.x)/\W.cell? ((y.add (i * 3)).add 1) = some (J Y q.y)/\W.cell? ((y.add (i * 3)).add 2) = some (J Y q.z))/\q.fits:=by
   intro i hi
   obtain ⟨cs',hcells,ht⟩:=hx i (by omega)
   rw [hc3] at hcells
   obtain ⟨_,hlen,hcell⟩:=World.cells?_some hcells
   obtain ⟨xs,k,_,_,_,hxl,hel⟩:=DataW.trod_struct underlying23 ht
   have get:∀ (v:Value) (j:Nat),((cs'.drop j).take 1) = [v]->cs'[j]? = some v:=fun v j h=>by
    have h2:((cs'.drop j).take 1)[0]? = some v:=by rw [h];rfl
    simpa [List.getElem?_take,List.getElem?_drop] using h2
   have some_of:∀ j,j < 3->∃ z,xs[j]? = some z:=fun j hj=>⟨_,List.getElem?_eq_getElem (by rw [hxl];exact hj)⟩
   have e0:=hel 0 _ rfl
   have e1:=hel 1 _ rfl
   have e2:=hel 2 _ rfl
   obtain ⟨z0,hz0⟩:=some_of 0 (by omega)
   obtain ⟨z1,hz1⟩:=some_of 1 (by omega)
   obtain ⟨z2,hz2⟩:=some_of 2 (by omega)
   rw [hz0] at e0
   rw [hz1] at e1
   rw [hz2] at e2
   obtain ⟨p,hp,_,wp⟩:=DataW.trod_int underlying3 e0
   obtain ⟨q,hq,_,wq⟩:=DataW.trod_int underlying3 e1
   obtain ⟨r,hr,_,wr⟩:=DataW.trod_int underlying3 e2
   have hp2:(cs'.drop 0).take (Tryz.prog.cellsOf 3) = [J Y p]:=hp
   have hq2:(cs'.drop 1).take (Tryz.prog.cellsOf 3) = [J Y q]:=hq
   have hr2:(cs'.drop 2).take (Tryz.prog.cellsOf 3) = [J Y r]:=hr
   rw [hc1] at hp2 hq2 hr2
   have b0:=bounds_i64 wp
   have b1:=bounds_i64 wq
   have b2:=bounds_i64 wr
   exact ⟨⟨p,q,r⟩,⟨(hcell 0 (by omega)).trans (get _ 0 hp2),(hcell 1 (by omega)).trans (get _ 1 hq2),(hcell 2 (by omega)).trans (get _ 2 hr2)⟩,⟨by dsimp only;omega,by dsimp only;omega⟩,⟨by dsimp only;omega,by dsimp only;omega⟩,⟨by dsimp only;omega,by dsimp only;omega⟩⟩
  have ch:∃ (l:Nat->Pt),∀ i,i < len->(W.cell? ((y.add (i * 3)).add 0) = some (J Y (l i).x)/\W.cell? ((y.add (i * 3)).add 1) = some (J Y (l i).y)/\W.cell? ((y.add (i * 3)).add 2) = some (J Y (l i).z))/\(l i).fits:=by
   refine ⟨fun i=>if h:i < len then (each i h).choose else Pt.O,fun i hi=>?_⟩
   simp only [dif_pos hi]
   exact (each i hi).choose_spec
  obtain ⟨l,hall⟩:=ch
  have hln:((List.range len).map l).length = len:=by simp
  have hpt:∀ i,i < len->pt ((List.range len).map l) i = l i:=fun i hi=>by unfold pt;simp [hi]
  refine ⟨(List.range len).map l,hln,⟨some y,cap,by rw [hln],by rw [hln];exact hl,by omega,fun i hi=>?_⟩,fun p hp=>?_⟩
  ·rw [hln] at hi
   obtain ⟨b,off,spot⟩:=y
   obtain ⟨⟨h0,h1,h2⟩,_⟩:=hall i hi
   have hs:spot = none:=by simpa [Addr.add] using World.cell?_spot (hall 0 (by omega)).1.1
   subst hs
   have ad:∀ i j,((⟨b,off,none⟩:Addr).add (i * 3)).add j = ⟨b,off + i * 3 + j,none⟩:=fun i j=>by
    unfold Addr.add
    split <;> split <;> simp_all
   rw [ad] at h0 h1 h2
   exact ⟨b,off,rfl,by rw [hpt i hi];exact h0,by rw [hpt i hi];exact h1,by rw [hpt i hi];exact h2⟩
  ·rw [List.mem_map] at hp
   obtain ⟨i,hi,rfl⟩:=hp
   exact (hall i (by simpa using hi)).2
end
section
open Go.ChangeShapes Go.WideShapes Go.Deep Go.Joins
section
variable {H:Type} {enc:TypeId × Value->H} {w:World} {base:Nat} {spare:Nat->Bool} {held:Bool}
theorem Jtd {n:Nat} {u0 u1 u2:Value} {z:DataW H × List MemPlace} (h:DataW.trod enc Tryz.prog w base spare held n 27 [u0,u1,u2] = some z):∃ x0 x1 x2:Int,u0 = J Y x0/\u1 = J Y x1/\u2 = J Y x2/\(Lit.int .i64 x0).wf = true/\(Lit.int .i64 x1).wf = true/\(Lit.int .i64 x2).wf = true:=by
 have hc1:Tryz.prog.cellsOf 3 = 1:=by kernel_rfl
 obtain ⟨ys,m,_,_,_,hyl,hey⟩:=DataW.trod_struct underlying27 h
 have some_y:∀ j,j < 3->∃ z,ys[j]? = some z:=fun j hj=>⟨_,List.getElem?_eq_getElem (by rw [hyl];exact hj)⟩
 obtain ⟨y0,hy0⟩:=some_y 0 (by omega)
 have g0:=hey 0 _ rfl
 rw [hy0] at g0
 have p0:DataW.trod enc Tryz.prog w base spare held m 3 [u0] = some y0:=by have this:DataW.trod enc Tryz.prog w base spare held m 3 (([u0,u1,u2].drop 0).take (Tryz.prog.cellsOf 3)) = some y0:=g0;rw [hc1] at this;exact this
 obtain ⟨y1,hy1⟩:=some_y 1 (by omega)
 have g1:=hey 1 _ rfl
 rw [hy1] at g1
 have p1:DataW.trod enc Tryz.prog w base spare held m 3 [u1] = some y1:=by have this:DataW.trod enc Tryz.prog w base spare held m 3 (([u0,u1,u2].drop 1).take (Tryz.prog.cellsOf 3)) = some y1:=g1;rw [hc1] at this;exact this
 obtain ⟨y2,hy2⟩:=some_y 2 (by omega)
 have g2:=hey 2 _ rfl
 rw [hy2] at g2
 have p2:DataW.trod enc Tryz.prog w base spare held m 3 [u2] = some y2:=by have this:DataW.trod enc Tryz.prog w base spare held m 3 (([u0,u1,u2].drop 2).take (Tryz.prog.cellsOf 3)) = some y2:=g2;rw [hc1] at this;exact this
 obtain ⟨x0,rfl,_,k0⟩:=Jbk p0
 obtain ⟨x1,rfl,_,k1⟩:=Jbk p1
 obtain ⟨x2,rfl,_,k2⟩:=Jbk p2
 exact ⟨x0,x1,x2,rfl,rfl,rfl,k0,k1,k2⟩
theorem Jsi {n:Nat} {u0 u1 u2 u3:Value} {z:DataW H × List MemPlace} (h:DataW.trod enc Tryz.prog w base spare held n 29 [u0,u1,u2,u3] = some z):∃ x0 x1 x2 x3:Int,u0 = J Y x0/\u1 = J Y x1/\u2 = J Y x2/\u3 = J Y x3/\(Lit.int .i64 x0).wf = true/\(Lit.int .i64 x1).wf = true/\(Lit.int .i64 x2).wf = true/\(Lit.int .i64 x3).wf = true:=by
 have hc1:Tryz.prog.cellsOf 3 = 1:=by kernel_rfl
 obtain ⟨ys,m,_,_,_,hyl,hey⟩:=DataW.trod_struct underlying29 h
 have some_y:∀ j,j < 4->∃ z,ys[j]? = some z:=fun j hj=>⟨_,List.getElem?_eq_getElem (by rw [hyl];exact hj)⟩
 obtain ⟨y0,hy0⟩:=some_y 0 (by omega)
 have g0:=hey 0 _ rfl
 rw [hy0] at g0
 have p0:DataW.trod enc Tryz.prog w base spare held m 3 [u0] = some y0:=by have this:DataW.trod enc Tryz.prog w base spare held m 3 (([u0,u1,u2,u3].drop 0).take (Tryz.prog.cellsOf 3)) = some y0:=g0;rw [hc1] at this;exact this
 obtain ⟨y1,hy1⟩:=some_y 1 (by omega)
 have g1:=hey 1 _ rfl
 rw [hy1] at g1
 have p1:DataW.trod enc Tryz.prog w base spare held m 3 [u1] = some y1:=by have this:DataW.trod enc Tryz.prog w base spare held m 3 (([u0,u1,u2,u3].drop 1).take (Tryz.prog.cellsOf 3)) = some y1:=g1;rw [hc1] at this;exact this
 obtain ⟨y2,hy2⟩:=some_y 2 (by omega)
 have g2:=hey 2 _ rfl
 rw [hy2] at g2
 have p2:DataW.trod enc Tryz.prog w base spare held m 3 [u2] = some y2:=by have this:DataW.trod enc Tryz.prog w base spare held m 3 (([u0,u1,u2,u3].drop 2).take (Tryz.prog.cellsOf 3)) = some y2:=g2;rw [hc1] at this;exact this
 obtain ⟨y3,hy3⟩:=some_y 3 (by omega)
 have g3:=hey 3 _ rfl
 rw [hy3] at g3
 have p3:DataW.trod enc Tryz.prog w base spare held m 3 [u3] = some y3:=by have this:DataW.trod enc Tryz.prog w base spare held m 3 (([u0,u1,u2,u3].drop 3).take (Tryz.prog.cellsOf 3)) = some y3:=g3;rw [hc1] at this;exact this
 obtain ⟨x0,rfl,_,k0⟩:=Jbk p0
 obtain ⟨x1,rfl,_,k1⟩:=Jbk p1
 obtain ⟨x2,rfl,_,k2⟩:=Jbk p2
 obtain ⟨x3,rfl,_,k3⟩:=Jbk p3
 exact ⟨x0,x1,x2,x3,rfl,rfl,rfl,rfl,k0,k1,k2,k3⟩
end
end
section
open Go.ChangeShapes Go.WideShapes Go.Deep Go.Joins
section
variable {H:Type} {enc:TypeId × Value->H} {w:World} {base:Nat} {spare:Nat->Bool} {held:Bool}
theorem Jh8 {m:Nat} {u0 u1 u2:Value} {z:DataW H × List MemPlace} (h:DataW.trod enc Tryz.prog w base spare held m 27 [u0,u1,u2] = some z):∃ x0 x1 x2:Int,u0 = J Y x0/\u1 = J Y x1/\u2 = J Y x2/\(Lit.int .i64 x0).wf = true/\(Lit.int .i64 x1).wf = true/\(Lit.int .i64 x2).wf = true:=by
 have hc1:Tryz.prog.cellsOf 3 = 1:=by kernel_rfl
 obtain ⟨ys,m,_,_,_,hyl,hey⟩:=DataW.trod_struct underlying27 h
 have some_y:∀ j,j < 3->∃ z,ys[j]? = some z:=fun j hj=>⟨_,List.getElem?_eq_getElem (by rw [hyl];exact hj)⟩
 obtain ⟨y0,hy0⟩:=some_y 0 (by omega)
 have g0:=hey 0 _ rfl
 rw [hy0] at g0
 have p0:DataW.trod enc Tryz.prog w base spare held m 3 [u0] = some y0:=by have this:DataW.trod enc Tryz.prog w base spare held m 3 (([u0,u1,u2].drop 0).take (Tryz.prog.cellsOf 3)) = some y0:=g0;rw [hc1] at this;exact this
 obtain ⟨y1,hy1⟩:=some_y 1 (by omega)
 have g1:=hey 1 _ rfl
 rw [hy1] at g1
 have p1:DataW.trod enc Tryz.prog w base spare held m 3 [u1] = some y1:=by have this:DataW.trod enc Tryz.prog w base spare held m 3 (([u0,u1,u2].drop 1).take (Tryz.prog.cellsOf 3)) = some y1:=g1;rw [hc1] at this;exact this
 obtain ⟨y2,hy2⟩:=some_y 2 (by omega)
 have g2:=hey 2 _ rfl
 rw [hy2] at g2
 have p2:DataW.trod enc Tryz.prog w base spare held m 3 [u2] = some y2:=by have this:DataW.trod enc Tryz.prog w base spare held m 3 (([u0,u1,u2].drop 2).take (Tryz.prog.cellsOf 3)) = some y2:=g2;rw [hc1] at this;exact this
 obtain ⟨x0,rfl,_,k0⟩:=Jbk p0
 obtain ⟨x1,rfl,_,k1⟩:=Jbk p1
 obtain ⟨x2,rfl,_,k2⟩:=Jbk p2
 exact ⟨x0,x1,x2,rfl,rfl,rfl,k0,k1,k2⟩
theorem Joa {m:Nat} {u:Value} {z:DataW H × List MemPlace} (h:DataW.trod enc Tryz.prog w base spare held m 4 [u] = some z):∃ x:Bool,u = .bool x:=by
 obtain ⟨x,hx,_⟩:=DataW.trod_bool underlying4 h
 exact ⟨x,by simpa using hx⟩
theorem Jua {cs:Array Value} (h:cs.size = 3):∃ u0 u1 u2,cs = #[u0,u1,u2]:=by
 obtain ⟨l⟩:=cs
 match l,h with
 | [a,b,c],_=>exact ⟨a,b,c,rfl⟩
end
end
section
open Go.RowKit Go.Shelf Fx
theorem CW.flag {p:Nat} {g:Bool} {V V':World} (a:After ⟨p,0,none⟩ g V V'):CW V' p [.bool g]:=fun i v e=>by
 match i,e with
 | 0,e=>cases e;exact ⟨a.cell,a.frozen⟩
 | n + 1,e=>simp at e
def V3.l (a:V3):List Value:=[J Y a.x,J Y a.y,J Y a.z]
section
variable {W0 V V':World} {pb pa pj pw pr px py:Nat} {cb cx cy us:List Value} {am jm:V3} {g1 g2 g:Bool}
theorem Jly {base n k:Nat} {u:Value} {xs:List Value} {T sz:Nat} (h:V.ownsRow base T sz u n xs) (hk:k < base):u.ownBlock ≠ some k:=fun e=>by have:=(h.lt k e).1;omega
end
end
end Go.Proofs.YteebbpioffdncaaGreat
