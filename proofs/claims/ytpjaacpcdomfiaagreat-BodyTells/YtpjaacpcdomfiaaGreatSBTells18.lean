/- The document's own layer 12: Cap. -/
import Derived.Test.YtpjaacpcdomfiaaGreatSBTells17
import Derived.Test.YtpjaacpcdomfiaaGreatSBTells13
import Derived.Test.YtpjaacpcdomfiaaGreatSBTells0
set_option maxHeartbeats 8000000
set_option maxRecDepth 100000
set_option linter.unusedVariables false
namespace Go.Proofs.YtpjaacpcdomfiaaGreat
section
open Go.RowKit Go.Shelf Fx
theorem rhalved_any (a:V3) (w:World) (ha:Sml 64 a) :
  Calls Tryz.prog 80 #[a.val] w fun e W=>e = .returned (hlf a).val/\Hid (Below w.heap.size w W):=by
 obtain ⟨w0,w1,w2⟩:=hlf_wrap ha
 obtain ⟨x,y,z⟩:=a
 have HW:Hid _:=And.intro w0 (And.intro w1 w2)
 have hB:Hid (Below w.heap.size w ((w.alloc (.cells #[.int .i64 x,.int .i64 y,.int .i64 z] 23)).alloc (.cells #[.int .i64 0,.int .i64 0,.int .i64 0] 23))):=b_step (n_after w _) (n_after _ _)
 clear w0 w1 w2
 go_enter Tryz.func80,Tryz.ntmps80
 go_wp2
 refine bodyPost_ret (v:=.agg #[.int .i64 (wrap64 (x.tdiv 2)),.int .i64 (wrap64 (y.tdiv 2)),.int .i64 (wrap64 (z.tdiv 2))]) (by simp [results,Tryz.results80,go_sem]) rfl ?_
 refine ⟨?_,?_⟩
 ·rw [HW.out.1,HW.out.2.1,HW.out.2.2]
 ·show Below _ _ _
  go_grown
theorem results_mixed {P:Program} {fn:Func} {tmps:Array Value} {w:World} {v:Value} (a c:Nat) (t:TypeId) (hr:fn.results = #[.cell a t,.tmp c]) (p:Addr) (ha:tmps[a]?.getD undef = .pointer (some p)) (h:(loadVar t p).run P w = .ok v w):(results fn tmps).run P w = .ok (.tuple #[v,tmps[c]?.getD undef]) w:=by
 unfold results
 rw [hr]
 simp [ha,asAddr,h]
theorem wpList_load_mid_w {P:Program} {ops:Array Oper} {rest:List Oper} {op:Oper} {a:Act} {w:World} {Q:Exit->Act->World->Prop} (hw:Region.wanted op (yielded ops a.tmps) = true) (ty:TypeId) (x:Operand) (ho:op.op = .load ty x)
  (b o:Nat) (hx:a.eval x = .pointer (some ⟨b,o,none⟩)) (cs:List Value) (d:TypeDesc) (hc:w.rangeAt b o cs)
  (hu:P.underlying ty = some d) (hd:d.isRow = true) (hi:(P.info? ty).map (·.size) = some cs.length)
  (h:wpList P ops Q rest (a.put op.dst (.agg cs.toArray)) w):wpList P ops Q (op :: rest) a w:=by
 unfold wpList
 rw [if_pos hw]
 exact .inl (wp_load_mid ty x ho b o hx cs d hc hu hd hi h)
def Jv (slow bad:V3->Bool) (R9:V3 × Bool × Bool) (n:Nat) (q:V3) (did g:Bool):Prop:=(g = true/\R9.2.2 = true) \/ (g = false/\Hv slow bad R9 false n q did false)
def Je (R9:V3 × Bool × Bool) (q:V3) (did g:Bool):Prop:=g = R9.2.2/\(g = false->q = R9.1/\did = R9.2.1)
theorem Jv.stop {slow bad:V3->Bool} {R9:V3 × Bool × Bool} {n:Nat} {q:V3} {did:Bool} (h:Hv slow bad R9 false n q did false) (hs:slow q = true):Je R9 q did (bad q):=by
 obtain ⟨a,b,c⟩:=h.stop hs
 rw [Bool.false_or,Bool.false_or] at c
 exact ⟨c,fun _=>⟨a,b⟩⟩
theorem Jv.next {slow bad:V3->Bool} {R9:V3 × Bool × Bool} {n:Nat} {q:V3} {did:Bool} (h:Hv slow bad R9 false n q did false) (h0:slow ⟨0,0,0⟩ = true) (hs:slow q = false):∃ m,n = m + 1/\Jv slow bad R9 m (hlf q) true (bad q):=by
 obtain ⟨m,e,k⟩:=h.next h0 hs
 refine ⟨m,e,?_⟩
 cases hb:bad q with
 | true =>
  have:=k.bad
  rw [hb] at this
  simp at this
  exact Or.inl ⟨rfl,this⟩
 | false =>
  rw [hb] at k
  exact Or.inr ⟨rfl,k⟩
def Rst2 (d:Bool) (r:V3 × Bool × Bool):V3 × Bool × Bool:=(r.1,d || r.2.1,r.2.2)
theorem cap_mid {b:Bd} {rp:V3 × Bool × Bool} {q1:V3} {d1 g1:Bool} (hrp:capP b = rp) (h:Je rp q1 d1 g1) (hl:Sml 64 b.l):∃ rl,Jv (slwL (b.wp q1)) (badL (b.wp q1)) rl 64 b.l d1 g1/\∀ q d g,Je rl q d g->g = capX b/\(g = false->(b.wp q1).wl q = (b.wp (capP b).1).wl (capL b).1/\d = ((capP b).2.1 || (capL b).2.1)):=by
 obtain ⟨h1,h2⟩:=h
 cases g1 with
 | true =>
  refine ⟨(b.l,d1,true),Or.inl ⟨rfl,rfl⟩,fun q d g hj=>?_⟩
  have hg:g = true:=hj.1
  refine ⟨?_,fun e=>by rw [hg] at e;cases e⟩
  unfold capX
  rw [hg,hrp,<- h1];rfl
 | false =>
  obtain ⟨e1,e2⟩:=h2 rfl
  refine ⟨Rst2 d1 (capL b),Or.inr ⟨rfl,?_⟩,fun q d g hj=>?_⟩
  ·have e:capL b = hvd (slwL (b.wp q1)) (badL (b.wp q1)) 64 b.l:=by unfold capL;rw [hrp,e1]
   rw [e]
   exact ⟨rfl,rfl,rfl,hl⟩
  ·have hg:g = (capL b).2.2:=hj.1
   refine ⟨?_,fun e=>?_⟩
   ·unfold capX;rw [hrp,<- h1,hg];rfl
   ·obtain ⟨k1,k2⟩:=hj.2 e
    have k1:q = (capL b).1:=k1
    have k2:d = (d1 || (capL b).2.1):=k2
    rw [hrp,<- e1,<- e2,k1,k2]
    exact ⟨rfl,rfl⟩
theorem rcap_any (fb fo:Nat) (f:Bool) (b:Bd) (R0:List Value) (hR0:Rest R0) (hp:Sml 64 b.p) (hl:Sml 64 b.l) (W:World) (hc:W.cell? ⟨fb,fo,none⟩ = some (.bool f)) (hf:W.frozen? ⟨fb,fo,none⟩ = false) :
  Calls Tryz.prog 29 #[.pointer (some ⟨fb,fo,none⟩),.agg (b.L R0).toArray] W fun e W'=>e = .returned (.tuple #[.agg ((capD b).L R0).toArray,.bool (capC b)])/\Hid (After ⟨fb,fo,none⟩ (f || if2B b.k (capX b)) W W'):=by
 have hbW:fb < W.heap.size:=World.block_lt_of_cell? _ _ hc
 have hR:Hid (Rest _):=hR0
 have hz0:Hid _:=body_size hR0 b
 obtain ⟨V,hV⟩:∃ V,V = ((W.alloc (.cells (b.L R0).toArray 35)).alloc (.cells #[.int .i64 0,.int .i64 0,.int .i64 0,.int .i64 0,.int .i64 0,.int .i64 0,.int .i64 0,.int .i64 0,.int .i64 0,.int .i64 0,.int .i64 0,.int .i64 0,.int .i64 0,.int .i64 0,.int .i64 0,.int .i64 0,.int .i64 0,.int .i64 0,.int .i64 0,.int .i64 0,.int .i64 0,.int .i64 0,.int .i64 0,.slice none 0 0,.int .i64 0,.int .i64 0,.int .i64 0,.bool false,.int .i64 0,.bool false,.bool false] 35)):=⟨_,rfl⟩
 have hb0:=n_after W (.cells (b.L R0).toArray 35)
 have hb1:=n_after (W.alloc (.cells (b.L R0).toArray 35)) (.cells #[.int .i64 0,.int .i64 0,.int .i64 0,.int .i64 0,.int .i64 0,.int .i64 0,.int .i64 0,.int .i64 0,.int .i64 0,.int .i64 0,.int .i64 0,.int .i64 0,.int .i64 0,.int .i64 0,.int .i64 0,.int .i64 0,.int .i64 0,.int .i64 0,.int .i64 0,.int .i64 0,.int .i64 0,.int .i64 0,.int .i64 0,.slice none 0 0,.int .i64 0,.int .i64 0,.int .i64 0,.bool false,.int .i64 0,.bool false,.bool false] 35)
 have Cb:CW V (W.heap.size) (b.L R0):=by
  have h9:=(CW.new W (b.L R0) 35).step hb1
  rw [hV];exact h9
 have Cr:CW V (W.heap.size + 1) [.int .i64 0,.int .i64 0,.int .i64 0,.int .i64 0,.int .i64 0,.int .i64 0,.int .i64 0,.int .i64 0,.int .i64 0,.int .i64 0,.int .i64 0,.int .i64 0,.int .i64 0,.int .i64 0,.int .i64 0,.int .i64 0,.int .i64 0,.int .i64 0,.int .i64 0,.int .i64 0,.int .i64 0,.int .i64 0,.int .i64 0,.slice none 0 0,.int .i64 0,.int .i64 0,.int .i64 0,.bool false,.int .i64 0,.bool false,.bool false]:=by
  have h9:=CW.new (W.alloc (.cells (b.L R0).toArray 35)) [.int .i64 0,.int .i64 0,.int .i64 0,.int .i64 0,.int .i64 0,.int .i64 0,.int .i64 0,.int .i64 0,.int .i64 0,.int .i64 0,.int .i64 0,.int .i64 0,.int .i64 0,.int .i64 0,.int .i64 0,.int .i64 0,.int .i64 0,.int .i64 0,.int .i64 0,.int .i64 0,.int .i64 0,.int .i64 0,.int .i64 0,.slice none 0 0,.int .i64 0,.int .i64 0,.int .i64 0,.bool false,.int .i64 0,.bool false,.bool false] 35
  simp only [World.size_alloc] at h9
  rw [hV];exact h9
 have hB:Below W.heap.size W V:=by rw [hV];exact (b_step hb0 hb1)
 have hcV:=c_after hB hc
 have hfV:=f_after hB hc hf
 have HLV:Hid (Leaves ⟨fb,fo,none⟩ W V):=(Leaves.refl _ _).step hB
 clear hb0 hb1
 clear hc hf hR0
 have hWV:=hB.size
 clear hB
 obtain ⟨d9,hd9⟩:∃ x,x = capD b:=⟨_,rfl⟩
 obtain ⟨t9,ht9⟩:∃ x,x = capC b:=⟨_,rfl⟩
 obtain ⟨g9,hg9⟩:∃ x,x = (f || if2B b.k (capX b)):=⟨_,rfl⟩
 rw [<- hd9,<- ht9,<- hg9]
 have HE:Hid (d9 = capD b/\t9 = capC b/\g9 = (f || if2B b.k (capX b))):=⟨hd9,ht9,hg9⟩
 clear hd9 ht9 hg9
 go_enter Tryz.func29,Tryz.ntmps29
 go_upto_region 1 with fail
 rw [<- hV]
 clear hV
 obtain ⟨pr,hpr⟩:∃ p,p = W.heap.size + 1:=⟨_,rfl⟩
 obtain ⟨pb,hpb⟩:∃ p,p = W.heap.size:=⟨_,rfl⟩
 rw [<- hpr] at Cr
 rw [<- hpb] at Cb
 rw [<- hpr,<- hpb]
 have nb:pb ≠ fb:=by omega
 have nr:pr ≠ fb:=by omega
 have nr':fb ≠ pr:=by omega
 have br:pb ≠ pr:=by omega
 have hWr:W.heap.size <= pr:=by omega
 have hWb:W.heap.size <= pb:=by omega
 have hfV0:fb < V.heap.size:=World.block_lt_of_cell? _ _ hcV
 have hbV:pb < V.heap.size:=Cb.lt
 have hrV:pr < V.heap.size:=Cr.lt
 clear hpb hpr
 have hZl:([.int .i64 0,.int .i64 0,.int .i64 0,.int .i64 0,.int .i64 0,.int .i64 0,.int .i64 0,.int .i64 0,.int .i64 0,.int .i64 0,.int .i64 0,.int .i64 0,.int .i64 0,.int .i64 0,.int .i64 0,.int .i64 0,.int .i64 0,.int .i64 0,.int .i64 0,.int .i64 0,.int .i64 0,.int .i64 0,.int .i64 0,.slice none 0 0,.int .i64 0,.int .i64 0,.int .i64 0,.bool false,.int .i64 0,.bool false,.bool false]:List Value).length = 31:=rfl
 generalize hzl:([.int .i64 0,.int .i64 0,.int .i64 0,.int .i64 0,.int .i64 0,.int .i64 0,.int .i64 0,.int .i64 0,.int .i64 0,.int .i64 0,.int .i64 0,.int .i64 0,.int .i64 0,.int .i64 0,.int .i64 0,.int .i64 0,.int .i64 0,.int .i64 0,.int .i64 0,.int .i64 0,.int .i64 0,.int .i64 0,.int .i64 0,.slice none 0 0,.int .i64 0,.int .i64 0,.int .i64 0,.bool false,.int .i64 0,.bool false,.bool false]:List Value) = zl at *
 have HZ:Hid _:=hzl
 clear hzl
 have k0:=(Cb 0 _ rfl).1
 by_cases hk:b.k = 2
 ·rw [hk] at k0
  have HD:Hid (d9 = if capX b = false then (b.wp (capP b).1).wl (capL b).1 else b):=by
   show _ = _
   rw [HE.out.1];unfold capD;cases capX b <;> simp [hk]
  have HT:Hid (t9 = if capX b = false then (capP b).2.1 || (capL b).2.1 else false):=by
   show _ = _
   rw [HE.out.2.1];unfold capC;cases capX b <;> simp [hk]
  have HG:Hid (g9 = (f || capX b)):=by have h9:=HE.out.2.2;rw [if2B,if_pos hk] at h9;exact h9
  clear HE
  have HRG:Hid (World.rangeAt V pb 0 (b.L R0)):=Cb.range
  obtain ⟨X1,hX1⟩:∃ X,X = (V.alloc (.cells #[.int .i64 0,.int .i64 0,.int .i64 0,.int .i64 0,.int .i64 0,.int .i64 0,.int .i64 0,.int .i64 0,.int .i64 0,.int .i64 0,.int .i64 0,.int .i64 0,.int .i64 0,.int .i64 0,.int .i64 0,.int .i64 0,.int .i64 0,.int .i64 0,.int .i64 0,.int .i64 0,.int .i64 0,.int .i64 0,.int .i64 0,.slice none 0 0,.int .i64 0,.int .i64 0,.int .i64 0,.bool false,.int .i64 0,.bool false,.bool false] 35)).setCells V.heap.size 0 (b.L R0):=⟨_,rfl⟩
  obtain ⟨X2,hX2⟩:∃ X,X = X1.alloc (.cells #[.bool false] 44):=⟨_,rfl⟩
  have hbz:=n_after V (.cells #[.int .i64 0,.int .i64 0,.int .i64 0,.int .i64 0,.int .i64 0,.int .i64 0,.int .i64 0,.int .i64 0,.int .i64 0,.int .i64 0,.int .i64 0,.int .i64 0,.int .i64 0,.int .i64 0,.int .i64 0,.int .i64 0,.int .i64 0,.int .i64 0,.int .i64 0,.int .i64 0,.int .i64 0,.int .i64 0,.int .i64 0,.slice none 0 0,.int .i64 0,.int .i64 0,.int .i64 0,.bool false,.int .i64 0,.bool false,.bool false] 35)
  have Cz0:=CW.new V [.int .i64 0,.int .i64 0,.int .i64 0,.int .i64 0,.int .i64 0,.int .i64 0,.int .i64 0,.int .i64 0,.int .i64 0,.int .i64 0,.int .i64 0,.int .i64 0,.int .i64 0,.int .i64 0,.int .i64 0,.int .i64 0,.int .i64 0,.int .i64 0,.int .i64 0,.int .i64 0,.int .i64 0,.int .i64 0,.int .i64 0,.slice none 0 0,.int .i64 0,.int .i64 0,.int .i64 0,.bool false,.int .i64 0,.bool false,.bool false] 35
  have hy0:Hid _:=body_size2 hR.out b
  have h10:Hid _:=hR.out.each b
  have HTZ:Hid (World.there (V.alloc (.cells #[.int .i64 0,.int .i64 0,.int .i64 0,.int .i64 0,.int .i64 0,.int .i64 0,.int .i64 0,.int .i64 0,.int .i64 0,.int .i64 0,.int .i64 0,.int .i64 0,.int .i64 0,.int .i64 0,.int .i64 0,.int .i64 0,.int .i64 0,.int .i64 0,.int .i64 0,.int .i64 0,.int .i64 0,.int .i64 0,.int .i64 0,.slice none 0 0,.int .i64 0,.int .i64 0,.int .i64 0,.bool false,.int .i64 0,.bool false,.bool false] 35)) V.heap.size 0 (b.L R0).toArray.size):=Cz0.there31 rfl hR.out
  have hs1:X1.heap.size = V.heap.size + 1:=by rw [hX1,sets_size,World.size_alloc]
  have hb1:Below V.heap.size V X1:=by rw [hX1];exact hbz.trans (below_sets (Nat.le_refl _) _ _ _)
  have Cz:CW X1 V.heap.size (b.L R0):=by rw [hX1];exact Cz0.sets (by rw [hR.out.all];rfl)
  have hb2:Below X1.heap.size X1 X2:=by rw [hX2];exact n_after _ _
  have Co:CW X2 X1.heap.size [.bool false]:=by rw [hX2];exact CW.new X1 [.bool false] 44
  have Cz:=Cz.step hb2
  have hb3:=b_step hb1 hb2
  have Cb:=Cb.step hb3
  have Cr:=Cr.step hb3
  have hf2:=f_after hb3 hcV hfV
  have hc2:=c_after hb3 hcV
  have HL2:Hid (Leaves ⟨fb,fo,none⟩ W X2):=HLV.out.step (hb3.mono HLV.out.size)
  have hs2:=hb3.size
  clear Cz0 hbz hb1 hb2 hb3 HLV hcV hfV
  go_upto_block 0 with (first | refine wpList_load_mid rfl 35 _ rfl pb 0 rfl _ _ HRG.out Tryz.underlying35 rfl hz0.out ?_ | refine wpList_store_mid rfl 35 _ _ rfl V.heap.size 0 _ rfl rfl HTZ.out hy0.out h10.out ?_)
  rw [<- hX1,<- hX2]
  have hop:X1.heap.size <= V.heap.size + 1:=by omega
  obtain ⟨po,hpo⟩:∃ p,p = X1.heap.size:=⟨_,rfl⟩
  obtain ⟨pz,hpz⟩:∃ p,p = V.heap.size:=⟨_,rfl⟩
  rw [<- hpo] at Co ⊢
  rw [<- hpz] at Cz ⊢
  have nfz:fb ≠ pz:=by omega
  have no:pb ≠ po:=by omega
  have nz:pz ≠ po:=by omega
  have bz:pz ≠ pb:=by omega
  have nof:fb ≠ po:=by omega
  have nro:pr ≠ po:=by omega
  have nbr:pr ≠ pb:=by omega
  have nbf:fb ≠ pb:=by omega
  have hWo:W.heap.size <= po:=by omega
  have ho2:fb < X2.heap.size:=by omega
  have HS:Hid (Clo _ _ _ _ _ _):=Clo.start (Co 0 _ rfl).1 (Co 0 _ rfl).2 Cb
  clear hX1 hX2 hpo hpz hs1 hs2 HTZ hop HRG k0 Co
  obtain ⟨rp,hrp⟩:∃ r,r = hvd (slwP b) (badP b) 64 b.p:=⟨_,rfl⟩
  have HI:Hid (Jv (slwP b) (badP b) rp 64 b.p false false):=Or.inr ⟨rfl,by rw [hrp];exact ⟨rfl,by simp,by simp,hp⟩⟩
  have HRP:Hid (capP b = rp):=by show _ = _;rw [hrp];rfl
  clear hrp
  have HSP:Hid _:=fun w q g=>rspeed_is po 0 g (b.wp q) R0 hk w
  have HLN:Hid _:=fun w q g=>rlen_c po 0 g (spdV (b.wp q)) w
  go_cut [8] from 16 to 32 (fun s8 wx=>∃ (q:V3) (did g:Bool),s8 = .bool did/\Hid (Je rp q did g)/\Hid (Clo ⟨po,0,none⟩ g pb ((b.wp q).L R0) X2 wx))
  case first =>
   go_wp2_with (fail)
   go_loopg [8] 64 (fun gm s8 wr=>∃ (q:V3) (did g:Bool),s8 = .bool did/\gm <= 64/\Hid (Jv (slwP b) (badP b) rp gm q did g)/\Hid (Clo ⟨po,0,none⟩ g pb ((b.wp q).L R0) X2 wr))
   case atStart=>exact ⟨b.p,false,false,rfl,Nat.le_refl _,HI,HS⟩
   case round =>
    obtain ⟨q,did,g,rfl,hgm,HJ,HK⟩:=hrel
    clear HI HS
    rcases HJ.out with ⟨rfl,h9⟩ | ⟨rfl,hv⟩
    ·have HR9:Hid _:=h9
     have ho:=HK.out.cell
     clear HJ h9
     go_wp2_with (fail)
     go_meet
     case rel=>exact ⟨q,did,true,rfl,⟨HR9.out.symm,fun h=>by cases h⟩,HK⟩
    ·have HV:Hid _:=hv
     have hq:=hv.sml
     have ho:=HK.out.cell
     have hzq:Hid _:=body_size hR.out (b.wp q)
     have HRG:Hid (World.rangeAt wr pb 0 ((b.wp q).L R0)):=HK.out.cw.range
     have HC1:Hid _:=HSP.out wr q false HK.out.cell HK.out.frozen
     clear HJ hv
     go_wp2_with (refine wpList_load_mid_w (by rfl) 35 _ rfl pb 0 rfl _ _ HRG.out Tryz.underlying35 rfl hzq.out ?_)
     refine Calls.mono HC1.out ?_
     rintro e Y1 ⟨rfl,A⟩
     have HK:Hid (Clo _ _ _ _ _ _):=HK.out.same A.out no
     have HC2:Hid _:=HLN.out Y1 q (false || spdB (b.wp q)) HK.out.cell HK.out.frozen
     clear HC1 A HRG ho
     go_wp2_with (fail)
     refine Calls.mono HC2.out ?_
     rintro e Y2 ⟨rfl,A⟩
     have HK:Hid (Clo ⟨po,0,none⟩ (badP b q) pb ((b.wp q).L R0) X2 Y2):=by
      have h9:=HK.out.same A.out no
      rw [Bool.false_or] at h9
      exact h9
     clear HC2 A
     have HSL:Hid (slwP b q = decide (lenN (spdV (b.wp q)) <= 274877906944)):=rfl
     by_cases hle:lenN (spdV (b.wp q)) <= 274877906944
     ·have HE9:Hid _:=Jv.stop HV.out (by rw [HSL.out];exact decide_eq_true hle)
      generalize lenN (spdV (b.wp q)) = ln at *
      clear HSL HV
      go_wp2_with (fail)
      go_meet
      case rel=>exact ⟨q,did,badP b q,rfl,HE9,HK⟩
     ·obtain ⟨m,rfl,HN⟩:=Jv.next HV.out (slowP_zero b) (by rw [HSL.out];exact decide_eq_false hle)
      have HN:Hid _:=HN
      generalize lenN (spdV (b.wp q)) = ln at *
      clear HSL HV
      obtain ⟨c0,f0⟩:=HK.out.cw 8 _ rfl
      obtain ⟨c1,f1⟩:=HK.out.cw 9 _ rfl
      obtain ⟨c2,f2⟩:=HK.out.cw 10 _ rfl
      go_wp2_with (fail)
      refine Calls.mono (rhalved_any q Y2 (sml_in hq hgm)) ?_
      rintro e Y3 ⟨rfl,hb⟩
      have HK:Hid (Clo _ _ _ _ _ _):=HK.out.step hb.out
      clear c0 c1 c2 f0 f1 f2 hb
      obtain ⟨c0,f0⟩:=HK.out.cw 8 _ rfl
      obtain ⟨c1,f1⟩:=HK.out.cw 9 _ rfl
      obtain ⟨c2,f2⟩:=HK.out.cw 10 _ rfl
      go_wp2_with (fail)
      go_roundg m
      case measure=>omega
      case rel=>exact ⟨hlf q,true,badP b q,rfl,by omega,HN,HK.out.set3 no 8 (.int .i64 (hlf q).x) (.int .i64 (hlf q).y) (.int .i64 (hlf q).z) (long31 hR.out (by decide))⟩
  case rest =>
   obtain ⟨q1,d1,g1,rfl,HJ1,HK1⟩:=hcut
   clear HI HS HSP HLN
   obtain ⟨rl,hI2,hEnd⟩:=cap_mid (b:=b) HRP.out HJ1.out hl
   have HI2:Hid _:=hI2
   have HEnd:Hid _:=hEnd
   clear hI2 hEnd HJ1 HRP
   obtain ⟨b9,hb9⟩:∃ x,x = b.wp q1:=⟨_,rfl⟩
   have HS2:Hid (Clo ⟨po,0,none⟩ g1 pb ((b9.wl b.l).L R0) X2 wc):=by rw [hb9];exact HK1.out
   rw [<- hb9] at HI2 HEnd
   have hk9:b9.k = 2:=by rw [hb9];exact hk
   clear hb9 HK1
   have HSP2:Hid _:=fun w q g=>rspin_is po 0 g (b9.wl q) R0 hR.out hk9 w
   have HLN2:Hid _:=fun w q g=>rlen_c po 0 g (yldV (b9.wl q) q) w
   go_upto_block 2 with fail
   go_cut [8] from 33 to 49 (fun s8 wx=>∃ (q:V3) (did g:Bool),s8 = .bool did/\Hid (Je rl q did g)/\Hid (Clo ⟨po,0,none⟩ g pb ((b9.wl q).L R0) X2 wx))
   case first =>
    go_wp2_with (fail)
    go_loopg [8] 64 (fun gm s8 wr=>∃ (q:V3) (did g:Bool),s8 = .bool did/\gm <= 64/\Hid (Jv (slwL b9) (badL b9) rl gm q did g)/\Hid (Clo ⟨po,0,none⟩ g pb ((b9.wl q).L R0) X2 wr))
    case atStart=>exact ⟨b.l,d1,g1,rfl,Nat.le_refl _,HI2,HS2⟩
    case round =>
     obtain ⟨q,did,g,rfl,hgm,HJ,HK⟩:=hrel
     clear HI2 HS2
     rcases HJ.out with ⟨rfl,h9⟩ | ⟨rfl,hv⟩
     ·have HR9:Hid _:=h9
      have ho:=HK.out.cell
      clear HJ h9
      go_wp2_with (fail)
      go_meet
      case rel=>exact ⟨q,did,true,rfl,⟨HR9.out.symm,fun h=>by cases h⟩,HK⟩
     ·have HV:Hid _:=hv
      have hq:=hv.sml
      have ho:=HK.out.cell
      have hzq:Hid _:=body_size hR.out (b9.wl q)
      have HRG:Hid (World.rangeAt wr pb 0 ((b9.wl q).L R0)):=HK.out.cw.range
      have HC1:Hid _:=HSP2.out wr q false HK.out.cell HK.out.frozen
      clear HJ hv
      go_wp2_with (refine wpList_load_mid_w (by rfl) 35 _ rfl pb 0 rfl _ _ HRG.out Tryz.underlying35 rfl hzq.out ?_)
      refine Calls.mono HC1.out ?_
      rintro e Y1 ⟨rfl,A⟩
      have HK:Hid (Clo _ _ _ _ _ _):=HK.out.same A.out no
      have HC2:Hid _:=HLN2.out Y1 q (false || yldB (b9.wl q) q) HK.out.cell HK.out.frozen
      clear HC1 A HRG ho
      go_wp2_with (fail)
      refine Calls.mono HC2.out ?_
      rintro e Y2 ⟨rfl,A⟩
      have HK:Hid (Clo ⟨po,0,none⟩ (badL b9 q) pb ((b9.wl q).L R0) X2 Y2):=by
       have h9:=HK.out.same A.out no
       rw [Bool.false_or] at h9
       exact h9
      clear HC2 A
      have HSL:Hid (slwL b9 q = decide (lenN (yldV (b9.wl q) q) <= 68719476736)):=rfl
      by_cases hle:lenN (yldV (b9.wl q) q) <= 68719476736
      ·have HE9:Hid _:=Jv.stop HV.out (by rw [HSL.out];exact decide_eq_true hle)
       generalize lenN (yldV (b9.wl q) q) = ln at *
       clear HSL HV
       go_wp2_with (fail)
       go_meet
       case rel=>exact ⟨q,did,badL b9 q,rfl,HE9,HK⟩
      ·obtain ⟨m,rfl,HN⟩:=Jv.next HV.out (slowL_zero b9) (by rw [HSL.out];exact decide_eq_false hle)
       have HN:Hid _:=HN
       generalize lenN (yldV (b9.wl q) q) = ln at *
       clear HSL HV
       obtain ⟨c0,f0⟩:=HK.out.cw 11 _ rfl
       obtain ⟨c1,f1⟩:=HK.out.cw 12 _ rfl
       obtain ⟨c2,f2⟩:=HK.out.cw 13 _ rfl
       go_wp2_with (fail)
       refine Calls.mono (rhalved_any q Y2 (sml_in hq hgm)) ?_
       rintro e Y3 ⟨rfl,hb⟩
       have HK:Hid (Clo _ _ _ _ _ _):=HK.out.step hb.out
       clear c0 c1 c2 f0 f1 f2 hb
       obtain ⟨c0,f0⟩:=HK.out.cw 11 _ rfl
       obtain ⟨c1,f1⟩:=HK.out.cw 12 _ rfl
       obtain ⟨c2,f2⟩:=HK.out.cw 13 _ rfl
       go_wp2_with (fail)
       go_roundg m
       case measure=>omega
       case rel=>exact ⟨hlf q,true,badL b9 q,rfl,by omega,HN,HK.out.set3 no 11 (.int .i64 (hlf q).x) (.int .i64 (hlf q).y) (.int .i64 (hlf q).z) (long31 hR.out (by decide))⟩
   case rest =>
    obtain ⟨q2,d2,g2,rfl,HJ2,HK2⟩:=hcut
    obtain ⟨e1,e2⟩:=HEnd.out q2 d2 g2 HJ2.out
    have T:=HK2.out.two
    have HL3:Hid (Leaves ⟨fb,fo,none⟩ W wc):=HL2.out.step (T.keep (B:=W.heap.size) hWo hWb HL2.out.size)
    have hfl:=T.other ⟨fb,fo,none⟩ ho2 nof nbf
    have hc3:=hfl.1.trans hc2
    have hf3:=hfl.2.trans hf2
    have Cz3:=Cz.two T nz bz
    have Cr3:=Cr.two T nro nbr
    have Cb3:=HK2.out.cw
    have ho:=HK2.out.cell
    rw [<- e1] at HD HT HG
    have HE2:Hid _:=e2
    clear T hfl HI2 HS2 HSP2 HLN2 HEnd HJ2 HK2 hc2 hf2 Cz Cr HL2 e1 e2
    cases g2 with
    | true =>
     have HD9:Hid (d9 = b):=HD.out
     have HT9:Hid (t9 = false):=HT.out
     have HG9:Hid (g9 = true):=by show _ = _;rw [HG.out,Bool.or_true]
     clear HD HT HG HE2
     go_upto_region 14 with fail
     obtain ⟨X5,hX5⟩:∃ X,X = wc.setCell ⟨fb,fo,none⟩ (.bool true):=⟨_,rfl⟩
     have hc5:X5.cell? ⟨fb,fo,none⟩ = some (.bool true):=by rw [hX5];simp [go_sem,hc3]
     have hf5:X5.frozen? ⟨fb,fo,none⟩ = false:=by rw [hX5];simp [go_sem,hf3]
     have HL5:Hid (Leaves ⟨fb,fo,none⟩ W X5):=by show Leaves _ _ _;rw [hX5];exact HL3.out.own _
     have Cz5:CW X5 pz (b.L R0):=by rw [hX5];exact Cz3.other (a:=⟨fb,fo,none⟩) nfz _
     have Cr5:CW X5 pr zl:=by rw [hX5];exact Cr3.other (a:=⟨fb,fo,none⟩) nr' _
     rw [<- hX5]
     clear hX5 hc3 hf3 HL3 Cz3 Cr3 ho
     have hc3:=hc5
     have hf3:=hf5
     have HL3:=HL5
     have Cz3:=Cz5
     have Cr3:=Cr5
     clear hc5 hf5 HL5 Cz5 Cr5
     have hz3:Hid _:=body_size hR.out (b)
     have hy3:Hid _:=body_size2 hR.out (b)
     have h13:Hid _:=hR.out.each (b)
     have HRG:Hid (World.rangeAt X5 pz 0 ((b).L R0)):=Cz3.range
     have HTH:Hid (World.there X5 pr 0 ((b).L R0).toArray.size):=Cr3.there31 hZl hR.out
     have HX3:Hid (World.rangeAt _ _ _ _):=(Cr3.sets (us:=(b).L R0) (by rw [hR.out.all,hZl])).range
     have HL4:Hid (Leaves ⟨fb,fo,none⟩ W (X5.setCells pr 0 ((b).L R0))):=HL3.out.sets hWr _
     have hc4:Hid _:=(out_sets (w:=X5) (vs:=(b).L R0) (o:=fo) nr').trans hc3
     have hf4:Hid _:=(World.frozen?_setCells pr ((b).L R0) 0 X5 ⟨fb,fo,none⟩).trans hf3
     generalize hcs:(b).L R0 = cs at *
     have HCS:Hid _:=hcs
     clear hcs Cb3 Cz3 Cr3 HL3 hc3 hf3
     go_wp2_with (first | refine wpList_load_mid rfl 35 _ rfl pz 0 rfl _ _ HRG.out Tryz.underlying35 rfl hz3.out ?_ | refine wpList_store_mid rfl 35 _ _ rfl pr 0 _ rfl rfl HTH.out hy3.out h13.out ?_)
     refine bodyPost_ret (results_mixed 4 5 35 Tryz.results29 ⟨pr,0,none⟩ rfl (run_loadVar_mid _ pr 0 35 cs _ HX3.out Tryz.underlying35 rfl hz3.out)) rfl ?_
     refine ⟨by rw [HD9.out,HT9.out,HCS.out];rfl,?_⟩
     rw [HG9.out]
     exact HL4.out.done hc4.out hf4.out
    | false =>
     obtain ⟨e3,e4⟩:=HE2.out rfl
     have HD9:Hid (d9 = b9.wl q2):=by show _ = _;rw [HD.out,e3];rfl
     have HT9:Hid (t9 = d2):=by show _ = _;rw [HT.out,e4];rfl
     have HG9:Hid (g9 = f):=by show _ = _;rw [HG.out,Bool.or_false]
     clear HD HT HG HE2 e3 e4
     have hz3:Hid _:=body_size hR.out (b9.wl q2)
     have hy3:Hid _:=body_size2 hR.out (b9.wl q2)
     have h13:Hid _:=hR.out.each (b9.wl q2)
     have HRG:Hid (World.rangeAt wc pb 0 ((b9.wl q2).L R0)):=Cb3.range
     have HTH:Hid (World.there wc pr 0 ((b9.wl q2).L R0).toArray.size):=Cr3.there31 hZl hR.out
     have HX3:Hid (World.rangeAt _ _ _ _):=(Cr3.sets (us:=(b9.wl q2).L R0) (by rw [hR.out.all,hZl])).range
     have HL4:Hid (Leaves ⟨fb,fo,none⟩ W (wc.setCells pr 0 ((b9.wl q2).L R0))):=HL3.out.sets hWr _
     have hc4:Hid _:=(out_sets (w:=wc) (vs:=(b9.wl q2).L R0) (o:=fo) nr').trans hc3
     have hf4:Hid _:=(World.frozen?_setCells pr ((b9.wl q2).L R0) 0 wc ⟨fb,fo,none⟩).trans hf3
     generalize hcs:(b9.wl q2).L R0 = cs at *
     have HCS:Hid _:=hcs
     clear hcs Cb3 Cz3 Cr3 HL3 hc3 hf3
     go_wp2_with (first | refine wpList_load_mid rfl 35 _ rfl pb 0 rfl _ _ HRG.out Tryz.underlying35 rfl hz3.out ?_ | refine wpList_store_mid rfl 35 _ _ rfl pr 0 _ rfl rfl HTH.out hy3.out h13.out ?_)
     refine bodyPost_ret (results_mixed 4 5 35 Tryz.results29 ⟨pr,0,none⟩ rfl (run_loadVar_mid _ pr 0 35 cs _ HX3.out Tryz.underlying35 rfl hz3.out)) rfl ?_
     refine ⟨by rw [HD9.out,HT9.out,HCS.out];rfl,?_⟩
     rw [HG9.out]
     exact HL4.out.done hc4.out hf4.out
 ·have hk2:(b.k == 2) = false:=by simpa using hk
  have HD:Hid (d9 = b):=by show _ = _;rw [HE.out.1];unfold capD;simp [hk]
  have HT:Hid (t9 = false):=by show _ = _;rw [HE.out.2.1];unfold capC;simp [hk]
  have HG:Hid (g9 = f):=by have h9:=HE.out.2.2;rw [if2B,if_neg hk,Bool.or_false] at h9;exact h9
  clear HE
  have HRG:Hid (World.rangeAt V pb 0 (b.L R0)):=Cb.range
  have hy3:Hid _:=body_size2 hR.out b
  have h13:Hid _:=hR.out.each b
  have HTH:Hid (World.there V pr 0 (b.L R0).toArray.size):=Cr.there31 hZl hR.out
  have HX3:Hid (World.rangeAt _ _ _ _):=(Cr.sets (us:=b.L R0) (by rw [hR.out.all,hZl])).range
  have HL4:Hid (Leaves ⟨fb,fo,none⟩ W (V.setCells pr 0 (b.L R0))):=HLV.out.sets hWr _
  have hc4:Hid _:=(out_sets (w:=V) (vs:=b.L R0) (o:=fo) nr').trans hcV
  have hf4:Hid _:=(World.frozen?_setCells pr (b.L R0) 0 V ⟨fb,fo,none⟩).trans hfV
  generalize hcs:b.L R0 = cs at *
  have HCS:Hid _:=hcs
  clear hcs Cb Cr HLV hcV hfV
  go_wp2_with (first | refine wpList_load_mid rfl 35 _ rfl pb 0 rfl _ _ HRG.out Tryz.underlying35 rfl hz0.out ?_ | refine wpList_store_mid rfl 35 _ _ rfl pr 0 _ rfl rfl HTH.out hy3.out h13.out ?_)
  refine bodyPost_ret (results_mixed 4 5 35 Tryz.results29 ⟨pr,0,none⟩ rfl (run_loadVar_mid _ pr 0 35 cs _ HX3.out Tryz.underlying35 rfl hz0.out)) rfl ?_
  refine ⟨by rw [HD.out,HT.out,HCS.out];rfl,?_⟩
  rw [HG.out]
  exact HL4.out.done hc4.out hf4.out
end
section
open Go.RowKit Go.Shelf
theorem rin_any (n a b:Int) (w:World) :
  Calls Tryz.prog 138 #[.int .i64 n,.int .i64 a,.int .i64 b] w fun e w'=>e = .returned (.bool (inR n a b))/\w' = w:=by
 unfold inR
 by_cases h1:a <= n
 ·go_enter Tryz.func138,Tryz.ntmps138
  go_wp2
  go_ret
  exact ⟨by simp [h1],rfl⟩
 ·go_enter Tryz.func138,Tryz.ntmps138
  go_wp2
  go_ret
  exact ⟨by simp;omega,rfl⟩
theorem rin_is (n a b:Int) (w:World) (t:Bool) (h:inR n a b = t) :
  Calls Tryz.prog 138 #[.int .i64 n,.int .i64 a,.int .i64 b] w fun e w'=>e = .returned (.bool t)/\w' = w:=by subst h;exact rin_any n a b w
end
section
open Go.RowKit Go.Shelf
theorem minus_any (p q:Pt) (w:World) (hp:p.inB 1152921504606846976 = true) (hq:q.inB 1152921504606846976 = true) :
  Calls Tryz.prog 142 #[p.v,q.v] w fun e W=>e = .returned (p.sub q).v/\Below w.heap.size w W:=by
 obtain ⟨x,y,z⟩:=p
 obtain ⟨x',y',z'⟩:=q
 rw [Pt.inB_iff] at hp hq
 unfold Pt.v Pt.sub
 dsimp only at *
 go_enter Tryz.func142,Tryz.ntmps142
 go_wp2
 exact bodyPost_ret (v:=.agg #[.int .i64 (x - x'),.int .i64 (y - y'),.int .i64 (z - z')]) (by simp [results,Tryz.results142,go_sem]) rfl ⟨rfl,(((Below.refl _ w).alloc (Nat.le_refl _) _).alloc (by simp) _).alloc (by simp;omega) _⟩
theorem rdot_any (p q:Pt) (w:World) (hp:p.inB 34359738368 = true) (hq:q.inB 131072 = true) :
  Calls Tryz.prog 141 #[p.v,q.v] w fun e W=>e = .returned (.int .i64 (p.dot q))/\Below w.heap.size w W:=by
 obtain ⟨x,y,z⟩:=p
 obtain ⟨x',y',z'⟩:=q
 rw [Pt.inB_iff] at hp hq
 unfold Pt.v Pt.dot
 dsimp only at *
 have h1:=prod_in hp.1 hq.1 (by decide)
 have h2:=prod_in hp.2.1 hq.2.1 (by decide)
 have h3:=prod_in hp.2.2 hq.2.2 (by decide)
 clear hp hq
 go_enter Tryz.func141,Tryz.ntmps141
 go_wp2
 go_ret
 exact ⟨rfl,((Below.refl _ w).alloc (Nat.le_refl _) _).alloc (by simp) _⟩
theorem rcross_any (p q:Pt) (w:World) (hp:p.inB 131072 = true) (hq:q.inB 131072 = true) :
  Calls Tryz.prog 154 #[p.v,q.v] w fun e W=>e = .returned (p.cross q).v/\Below w.heap.size w W:=by
 obtain ⟨x,y,z⟩:=p
 obtain ⟨x',y',z'⟩:=q
 rw [Pt.inB_iff] at hp hq
 unfold Pt.v Pt.cross
 dsimp only at *
 have h1:=prod_in hp.2.1 hq.2.2 (by decide)
 have h2:=prod_in hp.2.2 hq.2.1 (by decide)
 have h3:=prod_in hp.2.2 hq.1 (by decide)
 have h4:=prod_in hp.1 hq.2.2 (by decide)
 have h5:=prod_in hp.1 hq.2.1 (by decide)
 have h6:=prod_in hp.2.1 hq.1 (by decide)
 clear hp hq
 go_enter Tryz.func154,Tryz.ntmps154
 go_wp2
 refine bodyPost_ret (v:=.agg #[.int .i64 (y * z' - z * y'),.int .i64 (z * x' - x * z'),.int .i64 (x * y' - y * x')]) ?_ rfl ⟨rfl,(((Below.refl _ w).alloc (Nat.le_refl _) _).alloc (by simp) _).alloc (by simp;omega) _⟩
 simp [results,Tryz.results154,go_sem]
theorem normal_any (a b c:Pt) (w0:World) (ha:a.inB 65536 = true) (hb:b.inB 65536 = true) (hc:c.inB 65536 = true) :
  Calls Tryz.prog 140 #[a.v,b.v,c.v] w0 fun e W=>e = .returned ((b.sub a).cross (c.sub a)).v/\Below w0.heap.size w0 W:=by
 have L1:Hid _:=fun w'=>minus_any b a w' (inB_mono hb (by decide)) (inB_mono ha (by decide))
 have L2:Hid _:=fun w'=>minus_any c a w' (inB_mono hc (by decide)) (inB_mono ha (by decide))
 have L3:Hid _:=fun w'=>rcross_any (b.sub a) (c.sub a) w' (sub_in hb ha) (sub_in hc ha)
 clear ha hb hc
 obtain ⟨ax,ay,az⟩:=a
 obtain ⟨bx,by_,bz⟩:=b
 obtain ⟨cx,cy,cz⟩:=c
 unfold Pt.v Pt.sub Pt.cross at *
 dsimp only at *
 go_enter Tryz.func140,Tryz.ntmps140
 go_wp2_with (fail)
 obtain ⟨V,hV⟩:∃ V:World,V = ((((w0.alloc (.cells #[.int .i64 ax,.int .i64 ay,.int .i64 az] 30)).alloc (.cells #[.int .i64 bx,.int .i64 by_,.int .i64 bz] 30)).alloc (.cells #[.int .i64 cx,.int .i64 cy,.int .i64 cz] 30)).alloc (.cells #[.int .i64 0,.int .i64 0,.int .i64 0] 30)):=⟨_,rfl⟩
 have hBV:Below w0.heap.size w0 V:=by rw [hV];exact (((((Below.refl _ w0).alloc (by simp;try omega) _).alloc (by simp;try omega) _).alloc (by simp;try omega) _).alloc (by simp;try omega) _)
 have V0_0:V.cell? ⟨w0.heap.size,0,none⟩ = some (.int .i64 ax):=by rw [hV];simp [go_sem]
 have V0_1:V.cell? ⟨w0.heap.size,1,none⟩ = some (.int .i64 ay):=by rw [hV];simp [go_sem]
 have V0_2:V.cell? ⟨w0.heap.size,2,none⟩ = some (.int .i64 az):=by rw [hV];simp [go_sem]
 have V1_0:V.cell? ⟨w0.heap.size + 1,0,none⟩ = some (.int .i64 bx):=by rw [hV];simp [go_sem]
 have V1_1:V.cell? ⟨w0.heap.size + 1,1,none⟩ = some (.int .i64 by_):=by rw [hV];simp [go_sem]
 have V1_2:V.cell? ⟨w0.heap.size + 1,2,none⟩ = some (.int .i64 bz):=by rw [hV];simp [go_sem]
 have V2_0:V.cell? ⟨w0.heap.size + 1 + 1,0,none⟩ = some (.int .i64 cx):=by rw [hV];simp [go_sem]
 have V2_1:V.cell? ⟨w0.heap.size + 1 + 1,1,none⟩ = some (.int .i64 cy):=by rw [hV];simp [go_sem]
 have V2_2:V.cell? ⟨w0.heap.size + 1 + 1,2,none⟩ = some (.int .i64 cz):=by rw [hV];simp [go_sem]
 have V3_0:V.cell? ⟨w0.heap.size + 1 + 1 + 1,0,none⟩ = some (.int .i64 0):=by rw [hV];simp [go_sem]
 have V3_1:V.cell? ⟨w0.heap.size + 1 + 1 + 1,1,none⟩ = some (.int .i64 0):=by rw [hV];simp [go_sem]
 have V3_2:V.cell? ⟨w0.heap.size + 1 + 1 + 1,2,none⟩ = some (.int .i64 0):=by rw [hV];simp [go_sem]
 have Vf3_0:V.frozen? ⟨w0.heap.size + 1 + 1 + 1,0,none⟩ = false:=by rw [hV];simp [go_sem]
 have Vf3_1:V.frozen? ⟨w0.heap.size + 1 + 1 + 1,1,none⟩ = false:=by rw [hV];simp [go_sem]
 have Vf3_2:V.frozen? ⟨w0.heap.size + 1 + 1 + 1,2,none⟩ = false:=by rw [hV];simp [go_sem]
 rw [<- hV]
 clear hV
 refine RV.rs [.some (.agg #[.int .i64 bx,.int .i64 by_,.int .i64 bz]),.some (.agg #[.int .i64 ax,.int .i64 ay,.int .i64 az]),.some (.agg #[.int .i64 (bx - ax),.int .i64 (by_ - ay),.int .i64 (bz - az)]),.some (.agg #[.int .i64 cx,.int .i64 cy,.int .i64 cz]),.some (.agg #[.int .i64 ax,.int .i64 ay,.int .i64 az]),.some (.agg #[.int .i64 (cx - ax),.int .i64 (cy - ay),.int .i64 (cz - az)]),.some (.agg #[.int .i64 ((by_ - ay) * (cz - az) - (bz - az) * (cy - ay)),.int .i64 ((bz - az) * (cx - ax) - (bx - ax) * (cz - az)),.int .i64 ((bx - ax) * (cy - ay) - (by_ - ay) * (cx - ax))]),none] [8,9,10,11,12,13,14,0] [(3,.pointer (some ⟨w0.heap.size,0,none⟩)),(4,.pointer (some ⟨w0.heap.size + 1,0,none⟩)),(5,.pointer (some ⟨w0.heap.size + 1 + 1,0,none⟩)),(6,.pointer (some ⟨w0.heap.size + 1 + 1 + 1,0,none⟩))] (fun γ L w9=>(L 7 = false/\Below V.heap.size V w9) \/ (L 7 = true/\∃ w,Below V.heap.size V w/\w9 = (((w.setCell ⟨w0.heap.size + 1 + 1 + 1,0,none⟩ (.int .i64 ((by_ - ay) * (cz - az) - (bz - az) * (cy - ay)))).setCell ⟨w0.heap.size + 1 + 1 + 1,1,none⟩ (.int .i64 ((bz - az) * (cx - ax) - (bx - ax) * (cz - az)))).setCell ⟨w0.heap.size + 1 + 1 + 1,2,none⟩ (.int .i64 ((bx - ax) * (cy - ay) - (by_ - ay) * (cx - ax)))))) ⟨rfl,rfl,rfl,rfl,trivial⟩ ?_ ?_ ?_
 ·exact Or.inl ⟨rfl,(Below.refl _ V).drew⟩
 ·intro D WA Z hD hWA hZ T
  simp only [RV.Outs,RV.Slots,Nat.reduceAdd] at T
  iterate 2 (refine RV.cc _ (RV.pu T (fun γ v L w hl h=>by rw [RV.mn (L:=L) (i:=_) (j:=7) (by decide)];exact h) (fun γ L a w hH hl h9 k9=>⟨_,?_,rfl⟩)) ?_;· have hB9:=early9 hH.glob (RV.ny hH (RV.wt (j:=7) hWA (by kernel_rfl)) hl);have q0:=c_after hB9 V1_0;have q1:=c_after hB9 V1_1;have q2:=c_after hB9 V1_2;have q3:=c_after hB9 V0_0;have q4:=c_after hB9 V0_1;have q5:=c_after hB9 V0_2;simp [execOp,go_sem,h9,q0,q1,q2,q3,q4,q5])
  refine RV.cc _ (RV.dc (fun γ L a w hH hl hA=>by have h9:=T γ L a w hH;have k9:=hA;simp [Region.binds] at k9;have hB9:=early9 hH.glob (RV.ny hH (RV.wt (j:=7) (i:=2) hWA (by kernel_rfl)) hl);exact ⟨142,#[.agg #[.int .i64 bx,.int .i64 by_,.int .i64 bz],.agg #[.int .i64 ax,.int .i64 ay,.int .i64 az]],by simp [go_sem,h9,k9],Calls.mono (L1.out w) (by rintro e w2 ⟨rfl,hb⟩;exact ⟨_,rfl,rfl,fun j v _ h=>h.keep _,Or.inl ⟨by rw [RV.mn (L:=L) (i:=2) (j:=7) (by decide)];exact RV.ny hH (RV.wt (j:=7) (i:=2) hWA (by kernel_rfl)) hl,hB9.trans (hb.mono hB9.size)⟩⟩)⟩)) ?_
  iterate 2 (refine RV.cc _ (RV.pu T (fun γ v L w hl h=>by rw [RV.mn (L:=L) (i:=_) (j:=7) (by decide)];exact h) (fun γ L a w hH hl h9 k9=>⟨_,?_,rfl⟩)) ?_;· have hB9:=early9 hH.glob (RV.ny hH (RV.wt (j:=7) hWA (by kernel_rfl)) hl);have q0:=c_after hB9 V2_0;have q1:=c_after hB9 V2_1;have q2:=c_after hB9 V2_2;have q3:=c_after hB9 V0_0;have q4:=c_after hB9 V0_1;have q5:=c_after hB9 V0_2;simp [execOp,go_sem,h9,q0,q1,q2,q3,q4,q5])
  refine RV.cc _ (RV.dc (fun γ L a w hH hl hA=>by have h9:=T γ L a w hH;have k9:=hA;simp [Region.binds] at k9;have hB9:=early9 hH.glob (RV.ny hH (RV.wt (j:=7) (i:=5) hWA (by kernel_rfl)) hl);exact ⟨142,#[.agg #[.int .i64 cx,.int .i64 cy,.int .i64 cz],.agg #[.int .i64 ax,.int .i64 ay,.int .i64 az]],by simp [go_sem,h9,k9],Calls.mono (L2.out w) (by rintro e w2 ⟨rfl,hb⟩;exact ⟨_,rfl,rfl,fun j v _ h=>h.keep _,Or.inl ⟨by rw [RV.mn (L:=L) (i:=5) (j:=7) (by decide)];exact RV.ny hH (RV.wt (j:=7) (i:=5) hWA (by kernel_rfl)) hl,hB9.trans (hb.mono hB9.size)⟩⟩)⟩)) ?_
  refine RV.cc _ (RV.dc (fun γ L a w hH hl hA=>by have h9:=T γ L a w hH;have k9:=hA;simp [Region.binds] at k9;have hB9:=early9 hH.glob (RV.ny hH (RV.wt (j:=7) (i:=6) hWA (by kernel_rfl)) hl);exact ⟨154,#[.agg #[.int .i64 (bx - ax),.int .i64 (by_ - ay),.int .i64 (bz - az)],.agg #[.int .i64 (cx - ax),.int .i64 (cy - ay),.int .i64 (cz - az)]],by simp [go_sem,h9,k9],Calls.mono (L3.out w) (by rintro e w2 ⟨rfl,hb⟩;exact ⟨_,rfl,rfl,fun j v _ h=>h.keep _,Or.inl ⟨by rw [RV.mn (L:=L) (i:=6) (j:=7) (by decide)];exact RV.ny hH (RV.wt (j:=7) (i:=6) hWA (by kernel_rfl)) hl,hB9.trans (hb.mono hB9.size)⟩⟩)⟩)) ?_
  refine RV.cc _ (RV.does_store (fun γ L a w hH hl hA=>by have h9:=T γ L a w hH;have k9:=hA;simp [Region.binds] at k9;have hB9:=early9 hH.glob hl;have z0:=c_after hB9 V3_0;have zf0:=f_after hB9 V3_0 Vf3_0;have z1:=c_after hB9 V3_1;have zf1:=f_after hB9 V3_1 Vf3_1;have z2:=c_after hB9 V3_2;have zf2:=f_after hB9 V3_2 Vf3_2;exact ⟨(((w.setCell ⟨w0.heap.size + 1 + 1 + 1,0,none⟩ (.int .i64 ((by_ - ay) * (cz - az) - (bz - az) * (cy - ay)))).setCell ⟨w0.heap.size + 1 + 1 + 1,1,none⟩ (.int .i64 ((bz - az) * (cx - ax) - (bx - ax) * (cz - az)))).setCell ⟨w0.heap.size + 1 + 1 + 1,2,none⟩ (.int .i64 ((bx - ax) * (cy - ay) - (by_ - ay) * (cx - ax)))),by simp [execOp,go_sem,z0,zf0,z1,zf1,z2,zf2,h9,k9],trivial,fun j v _ h=>h.keep _,Or.inr ⟨RV.more_self,w,hB9,rfl⟩⟩)) ?_
  exact RV.AllDo.nil
 ·intro γ w5 L9 hL hI9 hG9
  obtain ⟨w8,hb8,rfl⟩:=late9 hG9 (hL 7 (by decide))
  clear hL hI9 hG9
  simp only [RV.putL,Act.put,List.setIfInBounds_toArray,List.set_cons_zero,List.set_cons_succ]
  have q0:=c_after hb8 V3_0
  have q1:=c_after hb8 V3_1
  have q2:=c_after hb8 V3_2
  go_wp2
  refine bodyPost_ret (v:=.agg #[.int .i64 ((by_ - ay) * (cz - az) - (bz - az) * (cy - ay)),.int .i64 ((bz - az) * (cx - ax) - (bx - ax) * (cz - az)),.int .i64 ((bx - ax) * (cy - ay) - (by_ - ay) * (cx - ax))]) (by simp [results,Tryz.results140,go_sem,q0,q1,q2]) rfl ⟨rfl,?_⟩
  exact ((((hBV.trans (hb8.mono hBV.size)).setCell (by simp;omega) _).setCell (by simp;omega) _).setCell (by simp;omega) _)
def inP (p:Pt) (lo hi:Int):Bool:=inR p.x lo hi && (inR p.y lo hi && inR p.z lo hi)
theorem inP_sym (p:Pt) (m:Int):inP p (-m) m = p.inB m:=by rw [Bool.eq_iff_iff,Pt.inB_iff];simp [inP,inR]
theorem rwithin_any (p:Pt) (lo hi:Int) (w0:World) :
  Calls Tryz.prog 139 #[p.v,.int .i64 lo,.int .i64 hi] w0 fun e W=>e = .returned (.bool (inP p lo hi))/\Below w0.heap.size w0 W:=by
 obtain ⟨x,y,z⟩:=p
 unfold Pt.v inP
 dsimp only
 cases hx:inR x lo hi with
 | false =>
  go_enter Tryz.func139,Tryz.ntmps139
  go_wp2_with (fail)
  refine Calls.mono (rin_is x lo hi _ false hx) ?_
  rintro e w' ⟨rfl,rfl⟩
  go_wp2_with (fail)
  go_ret
  exact ⟨rfl,n_after w0 _⟩
 | true =>
  cases hy:inR y lo hi with
  | false =>
   go_enter Tryz.func139,Tryz.ntmps139
   go_wp2_with (fail)
   refine Calls.mono (rin_is x lo hi _ true hx) ?_
   rintro e w' ⟨rfl,rfl⟩
   go_wp2_with (fail)
   refine Calls.mono (rin_is y lo hi _ false hy) ?_
   rintro e w' ⟨rfl,rfl⟩
   go_wp2_with (fail)
   go_ret
   exact ⟨rfl,n_after w0 _⟩
  | true =>
   cases hz:inR z lo hi with
   | false =>
    go_enter Tryz.func139,Tryz.ntmps139
    go_wp2_with (fail)
    refine Calls.mono (rin_is x lo hi _ true hx) ?_
    rintro e w' ⟨rfl,rfl⟩
    go_wp2_with (fail)
    refine Calls.mono (rin_is y lo hi _ true hy) ?_
    rintro e w' ⟨rfl,rfl⟩
    go_wp2_with (fail)
    refine Calls.mono (rin_is z lo hi _ false hz) ?_
    rintro e w' ⟨rfl,rfl⟩
    go_wp2_with (fail)
    go_ret
    exact ⟨rfl,n_after w0 _⟩
   | true =>
    go_enter Tryz.func139,Tryz.ntmps139
    go_wp2_with (fail)
    refine Calls.mono (rin_is x lo hi _ true hx) ?_
    rintro e w' ⟨rfl,rfl⟩
    go_wp2_with (fail)
    refine Calls.mono (rin_is y lo hi _ true hy) ?_
    rintro e w' ⟨rfl,rfl⟩
    go_wp2_with (fail)
    refine Calls.mono (rin_is z lo hi _ true hz) ?_
    rintro e w' ⟨rfl,rfl⟩
    go_wp2_with (fail)
    go_ret
    exact ⟨rfl,n_after w0 _⟩
end
section
open Go.RowKit Go.Shelf
theorem arr3 {cs:Array Value} (h:cs.size = 3):∃ a b c,cs = #[a,b,c]:=by
 obtain ⟨l⟩:=cs
 match l,h with
 | [a,b,c],_=>exact ⟨a,b,c,rfl⟩
theorem rflat_any (v:Value) (Ls:List Pt) (w0:World) (hv:Lies w0 v Ls) (h4:4 <= Ls.length) (h12:Ls.length <= 12) (hin:∀ p ∈ Ls,p.inB 65536 = true) (hne:pt Ls 0 ≠ pt Ls 1) :
  Calls Tryz.prog 101 #[v] w0 fun e W=>e = .returned (.bool (flatP Ls))/\Below w0.heap.size w0 W:=by
 obtain ⟨o,c,rfl,hlc,hcm,hcell⟩:=hv.form
 have HC:Hid _:=hcell
 have HIN:Hid _:=hin
 obtain ⟨g,off,rfl,_,_,_⟩:=hcell 0 (by omega)
 clear hcell hv hin
 have HF:Hid _:=flatR_iff (show 2 <= Ls.length by omega) hne
 clear hne
 obtain ⟨R,hR⟩:∃ R,flatP Ls = R:=⟨_,rfl⟩
 rw [hR] at HF ⊢
 clear hR
 go_enter Tryz.func101,Tryz.ntmps101
 go_wp2_with (fail)
 go_loopg [3] Ls.length (fun gm s wr=>∃ i:Nat,s = .int .i64 (i:Int)/\i <= Ls.length/\gm = Ls.length - i/\Hid (∀ i' k m q,i' < i->m < k->k < i'->q < Ls.length->vol (pt Ls m) (pt Ls k) (pt Ls i') (pt Ls q) = 0)/\Hid (Below w0.heap.size w0 wr))
 case atStart=>exact ⟨0,rfl,Nat.zero_le _,rfl,fun i' k m q h=>absurd h (Nat.not_lt_zero _),Below.refl _ _⟩
 case round =>
  obtain ⟨i,rfl,hi,hgm,HA,HBi⟩:=hrel
  have HG1:Hid _:=hgm
  clear hgm
  by_cases hit:i < Ls.length
  ·go_wp2_with (fail)
   go_loopg [4] i (fun gm s wr=>∃ k:Nat,s = .int .i64 (k:Int)/\k <= i/\gm = i - k/\Hid (∀ k' m q,k' < k->m < k'->q < Ls.length->vol (pt Ls m) (pt Ls k') (pt Ls i) (pt Ls q) = 0)/\Hid (Below w0.heap.size w0 wr))
   case atStart=>exact ⟨0,rfl,Nat.zero_le _,rfl,fun k' m q h=>absurd h (Nat.not_lt_zero _),HBi⟩
   case round =>
    clear HBi
    obtain ⟨k,rfl,hk,hgm,HA2,HBk⟩:=hrel
    have HG2:Hid _:=hgm
    clear hgm
    by_cases hkt:k < i
    ·have hkl:k < Ls.length:=by omega
     go_wp2_with (fail)
     go_loopg [5] k (fun gm s wr=>∃ m:Nat,s = .int .i64 (m:Int)/\m <= k/\gm = k - m/\Hid (∀ m' q,m' < m->q < Ls.length->vol (pt Ls m') (pt Ls k) (pt Ls i) (pt Ls q) = 0)/\Hid (Below w0.heap.size w0 wr))
     case atStart=>exact ⟨0,rfl,Nat.zero_le _,rfl,fun m' q h=>absurd h (Nat.not_lt_zero _),HBk⟩
     case round =>
      clear HBk
      obtain ⟨m,rfl,hm,hgm,HA3,HBm⟩:=hrel
      have HG3:Hid _:=hgm
      clear hgm
      by_cases hmt:m < k
      ·have hml:m < Ls.length:=by omega
       obtain ⟨g',off',e',x0,x1,x2⟩:=HC.out i hit
       simp only [Option.some.injEq,Addr.mk.injEq,and_true] at e'
       obtain ⟨rfl,rfl⟩:=e'
       obtain ⟨g',off',e',y0,y1,y2⟩:=HC.out k hkl
       simp only [Option.some.injEq,Addr.mk.injEq,and_true] at e'
       obtain ⟨rfl,rfl⟩:=e'
       obtain ⟨g',off',e',z0,z1,z2⟩:=HC.out m hml
       simp only [Option.some.injEq,Addr.mk.injEq,and_true] at e'
       obtain ⟨rfl,rfl⟩:=e'
       have x0:=c_after HBm.out x0
       have x1:=c_after HBm.out x1
       have x2:=c_after HBm.out x2
       have y0:=c_after HBm.out y0
       have y1:=c_after HBm.out y1
       have y2:=c_after HBm.out y2
       have HZ:Hid _:=And.intro z0 (And.intro z1 z2)
       have z0:=c_after HBm.out z0
       have z1:=c_after HBm.out z1
       have z2:=c_after HBm.out z2
       have hain:=HIN.out _ (pt_mem hml)
       have hbin:=HIN.out _ (pt_mem hkl)
       have hcin:=HIN.out _ (pt_mem hit)
       have HM:Hid ((∃ q,q < Ls.length/\vol (pt Ls m) (pt Ls k) (pt Ls i) (pt Ls q) ≠ 0)->R = false):=fun ⟨q,h1,h2⟩=>by
        cases R with
        | false=>rfl
        | true=>exact absurd (HF.out.2 rfl i k m q hmt hkt hit h1) h2
       have HS3:Hid ((∀ q,q < Ls.length->vol (pt Ls m) (pt Ls k) (pt Ls i) (pt Ls q) = 0)->∀ m' q,m' < m + 1->q < Ls.length->vol (pt Ls m') (pt Ls k) (pt Ls i) (pt Ls q) = 0):=fun h m' q h1 h2=>by
        by_cases e:m' = m
        ·subst e;exact h q h2
        ·exact HA3.out m' q (by omega) h2
       generalize pt Ls i = pc at *
       generalize pt Ls k = pb at *
       generalize pt Ls m = pa at *
       have L3:Hid _:=fun w'=>normal_any pa pb pc w' hain hbin hcin
       have hnin:=cross_in (sub_in hbin hain) (sub_in hcin hain)
       have HVO:Hid (∀ q,vol pa pb pc q = ((pb.sub pa).cross (pc.sub pa)).dot (q.sub pa)):=fun q=>rfl
       generalize (pb.sub pa).cross (pc.sub pa) = n at *
       unfold Pt.v at L3
       have hiz:(i:Int) < (Ls.length:Int):=by omega
       have hkz:(k:Int) < (Ls.length:Int):=by omega
       have hmz:(m:Int) < (Ls.length:Int):=by omega
       go_upto_region 10 with fail
       refine RV.rs [.some (.slice (some ⟨g,off,none⟩) Ls.length c),.some (.int .i64 (m:Int)),.some (.pointer (some ⟨g,off + m * 3,none⟩)),.some (.agg #[.int .i64 pa.x,.int .i64 pa.y,.int .i64 pa.z]),.some (.slice (some ⟨g,off,none⟩) Ls.length c),.some (.int .i64 (k:Int)),.some (.pointer (some ⟨g,off + k * 3,none⟩)),.some (.agg #[.int .i64 pb.x,.int .i64 pb.y,.int .i64 pb.z]),.some (.slice (some ⟨g,off,none⟩) Ls.length c),.some (.int .i64 (i:Int)),.some (.pointer (some ⟨g,off + i * 3,none⟩)),.some (.agg #[.int .i64 pc.x,.int .i64 pc.y,.int .i64 pc.z]),.some (.agg #[.int .i64 n.x,.int .i64 n.y,.int .i64 n.z]),none,none] [25,26,27,28,29,30,31,32,33,34,35,36,37,7,0] [(0,.slice (some ⟨g,off,none⟩) Ls.length c),(3,.int .i64 (i:Int)),(4,.int .i64 (k:Int)),(5,.int .i64 (m:Int))] (fun γ L w=>Below wr.heap.size wr w/\RV.Pend wr 30 13 14 #[.int .i64 n.x,.int .i64 n.y,.int .i64 n.z] γ L w) ⟨rfl,rfl,rfl,rfl,trivial⟩ ?_ ?_ ?_
       ·exact ⟨(Below.refl _ wr).drew,RV.Pend.start rfl⟩
       ·intro D WA Z hD hWA hZ T
        simp only [RV.Outs,RV.Slots,Nat.reduceAdd] at T
        iterate 12 first
         | (refine RV.cc _ (RV.pu T (fun γ v L w hl h=>⟨h.1,h.2.other v (by decide) (by decide)⟩) (fun γ L a w hH hl h9 k9=>⟨_,?_,rfl⟩)) ?_;· simp [execOp,go_sem,h9])
         | (refine RV.cc _ (RV.pu T (fun γ v L w hl h=>⟨h.1,h.2.other v (by decide) (by decide)⟩) (fun γ L a w hH hl h9 k9=>⟨_,?_,rfl⟩)) ?_;· simp [Region.binds] at k9;simp [execOp,go_sem,h9,k9,hmz,hkz,hiz])
         | (refine RV.cc _ (RV.pu T (fun γ v L w hl h=>⟨h.1,h.2.other v (by decide) (by decide)⟩) (fun γ L a w hH hl h9 k9=>⟨_,?_,rfl⟩)) ?_;· have v0:=c_after hH.glob.1 z0;have v1:=c_after hH.glob.1 z1;have v2:=c_after hH.glob.1 z2;simp [Region.binds] at k9;simp [execOp,go_sem,h9,k9,v0,v1,v2])
         | (refine RV.cc _ (RV.pu T (fun γ v L w hl h=>⟨h.1,h.2.other v (by decide) (by decide)⟩) (fun γ L a w hH hl h9 k9=>⟨_,?_,rfl⟩)) ?_;· have v0:=c_after hH.glob.1 y0;have v1:=c_after hH.glob.1 y1;have v2:=c_after hH.glob.1 y2;simp [Region.binds] at k9;simp [execOp,go_sem,h9,k9,v0,v1,v2])
         | (refine RV.cc _ (RV.pu T (fun γ v L w hl h=>⟨h.1,h.2.other v (by decide) (by decide)⟩) (fun γ L a w hH hl h9 k9=>⟨_,?_,rfl⟩)) ?_;· have v0:=c_after hH.glob.1 x0;have v1:=c_after hH.glob.1 x1;have v2:=c_after hH.glob.1 x2;simp [Region.binds] at k9;simp [execOp,go_sem,h9,k9,v0,v1,v2])
        refine RV.cc _ (RV.dc (fun γ L a w hH hl hA=>by have h9:=T γ L a w hH;have k9:=hA;simp [Region.binds] at k9;exact ⟨140,#[.agg #[.int .i64 pa.x,.int .i64 pa.y,.int .i64 pa.z],.agg #[.int .i64 pb.x,.int .i64 pb.y,.int .i64 pb.z],.agg #[.int .i64 pc.x,.int .i64 pc.y,.int .i64 pc.z]],by simp [go_sem,h9,k9],Calls.mono (L3.out w) (by rintro e w2 ⟨rfl,hb⟩;exact ⟨_,rfl,rfl,fun j v _ h=>h.keep _,hH.glob.1.trans (hb.mono hH.glob.1.size),(hH.glob.2.below hb).other _ (by decide) (by decide)⟩)⟩)) ?_
        refine RV.cc _ (RV.does_step (fun γ L a w hH hl hA=>by have h10:L 14 = false:=RV.ny hH (RV.wt (j:=14) (i:=13) hWA (by kernel_rfl)) hl;exact ⟨.pointer (some ⟨w.heap.size,0,none⟩),w.alloc (.cells #[.int .i64 0,.int .i64 0,.int .i64 0] 30),by simp [execOp,go_sem],trivial,fun j v _ h=>h.keep _,hH.glob.1.alloc hH.glob.1.size _,RV.Pend.made _ rfl hH.glob.1.size h10 (by decide)⟩)) ?_
        refine RV.cc _ (RV.does_store (fun γ L a w hH hl hA=>by have h9:=T γ L a w hH;have k9:=hA;simp [Region.binds] at k9;have l0:L 13 = true:=hA ⟨13,.data⟩ (by simp) rfl;have e0:=hH.slot 13 6 (by rw [<- hD];rfl) l0;obtain ⟨b,cs,hb1,hb2,hb3,hb4,_⟩:=hH.glob.2 l0;rw [hb1] at e0;obtain ⟨u0,u1,u2,rfl⟩:=arr3 hb4;have z09:w.cell? ⟨b,0,none⟩ = some u0:=(by simp [World.cell?,hb3]);have z19:w.cell? ⟨b,1,none⟩ = some u1:=(by simp [World.cell?,hb3]);have z29:w.cell? ⟨b,2,none⟩ = some u2:=(by simp [World.cell?,hb3]);have zf:∀ o,w.frozen? ⟨b,o,none⟩ = false:=fun o=>(by simp [World.frozen?,hb3]);exact ⟨(((w.setCell ⟨b,0,none⟩ (.int .i64 n.x)).setCell ⟨b,1,none⟩ (.int .i64 n.y)).setCell ⟨b,2,none⟩ (.int .i64 n.z)),by simp [execOp,go_sem,e0,z09,z19,z29,zf,h9,k9],trivial,fun j v _ h=>h.keep _,((hH.glob.1.setCell hb2 _).setCell hb2 _).setCell hb2 _,RV.Pend.filled hb1 hb2 (by have q0:=Go.heap_setCell_same w b 0 _ _ (.int .i64 n.x) hb3;have q1:=Go.heap_setCell_same _ b 1 _ _ (.int .i64 n.y) q0;have q2:=Go.heap_setCell_same _ b 2 _ _ (.int .i64 n.z) q1;simpa using q2) (by decide) _⟩)) ?_
        exact RV.AllDo.nil
       ·intro γ w5 L9 hL hI9 hG9
        obtain ⟨bn,cs,hb1,hb2,hb3,_,hb5⟩:=hG9.2 (hL 13 (by decide))
        rw [hb5 (hL 14 (by decide))] at hb3
        have hB5:=hG9.1
        clear hL hb5 hI9 hG9
        simp only [RV.putL,Act.put,List.setIfInBounds_toArray,List.set_cons_zero,List.set_cons_succ,Nat.reduceAdd]
        rw [hb1]
        obtain ⟨W5,hW5⟩:∃ X:World,X = w5:=⟨_,rfl⟩
        rw [<- hW5] at hB5 hb3 ⊢
        have BN:Hid (Box3 W5 bn n):=⟨by simp [World.cell?,hb3],by simp [World.cell?,hb3],by simp [World.cell?,hb3],by simp [World.frozen?,hb3],by simp [World.frozen?,hb3],by simp [World.frozen?,hb3]⟩
        have HB5:Hid (Below w0.heap.size w0 W5):=b_step HBm.out hB5
        clear hW5 hb1 hb3 hB5 L3 x0 x1 x2 y0 y1 y2 z0 z1 z2
        go_wp2_with (fail)
        go_loopg [7] Ls.length (fun gm s wx=>∃ q:Nat,s = .int .i64 (q:Int)/\q <= Ls.length/\gm = Ls.length - q/\Hid (∀ q',q' < q->vol pa pb pc (pt Ls q') = 0)/\Hid (Below W5.heap.size W5 wx))
        case atStart=>exact ⟨0,rfl,Nat.zero_le _,rfl,fun q' h=>absurd h (Nat.not_lt_zero _),Below.refl _ _⟩
        case round =>
         obtain ⟨q,rfl,hq,hgm,HA4,HBq⟩:=hrel
         have HG4:Hid _:=hgm
         clear hgm
         by_cases hqt:q < Ls.length
         ·obtain ⟨g',off',e',x0,x1,x2⟩:=HC.out q hqt
          simp only [Option.some.injEq,Addr.mk.injEq,and_true] at e'
          obtain ⟨rfl,rfl⟩:=e'
          have x0:=c_after (b_step HB5.out HBq.out) x0
          have x1:=c_after (b_step HB5.out HBq.out) x1
          have x2:=c_after (b_step HB5.out HBq.out) x2
          have y0:=c_after (b_step HB5.out HBq.out) HZ.out.1
          have y1:=c_after (b_step HB5.out HBq.out) HZ.out.2.1
          have y2:=c_after (b_step HB5.out HBq.out) HZ.out.2.2
          have hmin:=HIN.out _ (pt_mem hqt)
          have HM2:Hid (¬ vol pa pb pc (pt Ls q) = 0->R = false):=fun h=>HM.out ⟨q,hqt,h⟩
          have HS4:Hid (vol pa pb pc (pt Ls q) = 0->∀ q',q' < q + 1->vol pa pb pc (pt Ls q') = 0):=fun h q' h1=>by
           by_cases e:q' = q
           ·subst e;exact h
           ·exact HA4.out q' (by omega)
          rw [HVO.out] at HM2 HS4
          generalize pt Ls q = mo at *
          have L1:Hid _:=fun w'=>minus_any mo pa w' (inB_mono hmin (by decide)) (inB_mono hain (by decide))
          have L2:Hid _:=fun w'=>rdot_any n (mo.sub pa) w' hnin (sub_in hmin hain)
          unfold Pt.v at L1 L2
          obtain ⟨q0,q1,q2,_,_,_⟩:=BN.out.step HBq.out
          have hqz:(q:Int) < (Ls.length:Int):=by omega
          go_upto_region 14 with fail
          refine RV.rs [.some (.agg #[.int .i64 n.x,.int .i64 n.y,.int .i64 n.z]),.some (.slice (some ⟨g,off,none⟩) Ls.length c),.some (.int .i64 ((q:Int))),.some (.pointer (some ⟨g,off + q * 3,none⟩)),.some (.agg #[.int .i64 mo.x,.int .i64 mo.y,.int .i64 mo.z]),.some (.slice (some ⟨g,off,none⟩) Ls.length c),.some (.int .i64 ((m:Int))),.some (.pointer (some ⟨g,off + m * 3,none⟩)),.some (.agg #[.int .i64 pa.x,.int .i64 pa.y,.int .i64 pa.z]),.some (.agg #[.int .i64 ((mo.sub pa).x),.int .i64 ((mo.sub pa).y),.int .i64 ((mo.sub pa).z)]),.some (.int .i64 (n.dot (mo.sub pa))),.some (.bool (n.dot (mo.sub pa) != 0))] [44,45,46,47,48,49,50,51,52,53,54,55] [(0,.slice (some ⟨g,off,none⟩) Ls.length c),(5,.int .i64 ((m:Int))),(6,.pointer (some ⟨bn,0,none⟩)),(7,.int .i64 ((q:Int)))] (fun γ L w9=>Below wr.heap.size wr w9) ⟨rfl,rfl,rfl,rfl,trivial⟩ ?_ ?_ ?_
          ·exact (Below.refl _ wr).drew
          ·intro D WA Z hD hWA hZ T
           simp only [RV.Outs,RV.Slots,Nat.reduceAdd] at T
           iterate 9 first
            | (refine RV.cc _ (RV.pu T (fun γ v L w hl h=>h) (fun γ L a w hH hl h9 k9=>⟨_,?_,rfl⟩)) ?_;· simp [execOp,go_sem,h9])
            | (refine RV.cc _ (RV.pu T (fun γ v L w hl h=>h) (fun γ L a w hH hl h9 k9=>⟨_,?_,rfl⟩)) ?_;· simp [Region.binds] at k9;simp [execOp,go_sem,h9,k9,hqz,hmz])
            | (refine RV.cc _ (RV.pu T (fun γ v L w hl h=>h) (fun γ L a w hH hl h9 k9=>⟨_,?_,rfl⟩)) ?_;· have hB9:=hH.glob;have v0:=c_after hB9 x0;have v1:=c_after hB9 x1;have v2:=c_after hB9 x2;simp [Region.binds] at k9;simp [execOp,go_sem,h9,k9,v0,v1,v2])
            | (refine RV.cc _ (RV.pu T (fun γ v L w hl h=>h) (fun γ L a w hH hl h9 k9=>⟨_,?_,rfl⟩)) ?_;· have hB9:=hH.glob;have v0:=c_after hB9 y0;have v1:=c_after hB9 y1;have v2:=c_after hB9 y2;simp [Region.binds] at k9;simp [execOp,go_sem,h9,k9,v0,v1,v2])
            | (refine RV.cc _ (RV.pu T (fun γ v L w hl h=>h) (fun γ L a w hH hl h9 k9=>⟨_,?_,rfl⟩)) ?_;· have hB9:=hH.glob;have q0:=c_after hB9 q0;have q1:=c_after hB9 q1;have q2:=c_after hB9 q2;simp [execOp,go_sem,h9,q0,q1,q2])
           refine RV.cc _ (RV.dc (fun γ L a w hH hl hA=>by have h9:=T γ L a w hH;have k9:=hA;simp [Region.binds] at k9;have hB9:=hH.glob;exact ⟨142,#[.agg #[.int .i64 mo.x,.int .i64 mo.y,.int .i64 mo.z],.agg #[.int .i64 pa.x,.int .i64 pa.y,.int .i64 pa.z]],by simp [go_sem,h9,k9],Calls.mono (L1.out w) (by rintro e w2 ⟨rfl,hb⟩;exact ⟨_,rfl,rfl,fun j v _ h=>h.keep _,hB9.trans (hb.mono hB9.size)⟩)⟩)) ?_
           refine RV.cc _ (RV.dc (fun γ L a w hH hl hA=>by have h9:=T γ L a w hH;have k9:=hA;simp [Region.binds] at k9;have hB9:=hH.glob;exact ⟨141,#[.agg #[.int .i64 n.x,.int .i64 n.y,.int .i64 n.z],.agg #[.int .i64 ((mo.sub pa).x),.int .i64 ((mo.sub pa).y),.int .i64 ((mo.sub pa).z)]],by simp [go_sem,h9,k9],Calls.mono (L2.out w) (by rintro e w2 ⟨rfl,hb⟩;exact ⟨_,rfl,rfl,fun j v _ h=>h.keep _,hB9.trans (hb.mono hB9.size)⟩)⟩)) ?_
           (refine RV.cc _ (RV.pu T (fun γ v L w hl h=>h) (fun γ L a w hH hl h9 k9=>⟨_,?_,rfl⟩)) ?_;· simp [Region.binds] at k9;simp [execOp,go_sem,h9,k9])
           exact RV.AllDo.nil
          ·intro γ w5 L9 hL hI9 hG9
           have hb8:=hG9
           clear hL hI9 hG9
           simp only [RV.putL,Act.put,List.setIfInBounds_toArray,List.set_cons_zero,List.set_cons_succ]
           have HB7:Hid _:=b_step HBq.out hb8
           clear hb8 L1 L2 q0 q1 q2 x0 x1 x2
           generalize n.dot (mo.sub pa) = dd at *
           by_cases hd:dd = 0
           ·have HS5:Hid _:=HS4.out hd
            subst hd
            clear HM2
            go_wp2_with (fail)
            go_roundg (Ls.length - (q + 1))
            case measure=>have:=HG4.out;omega
            case rel=>exact ⟨q + 1,by go_num,by omega,rfl,HS5,HB7⟩
           ·have e:R = false:=HM2.out hd
            subst e
            have hd2:(dd != 0) = true:=bne_iff_ne.2 hd
            go_wp2_with (fail)
            go_ret
            exact ⟨rfl,b_step HB5.out HB7.out⟩
         ·have HS3:Hid _:=HS3.out (fun q' h=>HA4.out q' (by omega))
          go_wp2_with (fail)
          go_roundg (k - (m + 1))
          case measure=>have:=HG3.out;omega
          case rel=>exact ⟨m + 1,by go_num,by omega,rfl,HS3,b_step HB5.out HBq.out⟩
      ·have HS2:Hid (∀ k' m q,k' < k + 1->m < k'->q < Ls.length->vol (pt Ls m) (pt Ls k') (pt Ls i) (pt Ls q) = 0):=fun k' m' q h1 h2 h3=>by
        by_cases e:k' = k
        ·subst e;exact HA3.out m' q (by omega) h3
        ·exact HA2.out k' m' q (by omega) h2 h3
       go_wp2_with (fail)
       go_roundg (i - (k + 1))
       case measure=>have:=HG2.out;omega
       case rel=>exact ⟨k + 1,by go_num,by omega,rfl,HS2,HBm⟩
    ·have HS1:Hid (∀ i' k m q,i' < i + 1->m < k->k < i'->q < Ls.length->vol (pt Ls m) (pt Ls k) (pt Ls i') (pt Ls q) = 0):=fun i' k' m' q h1 h2 h3 h4=>by
      by_cases e:i' = i
      ·subst e;exact HA2.out k' m' q (by omega) h2 h4
      ·exact HA.out i' k' m' q (by omega) h2 h3 h4
     go_wp2_with (fail)
     go_roundg (Ls.length - (i + 1))
     case measure=>have:=HG1.out;omega
     case rel=>exact ⟨i + 1,by go_num,by omega,rfl,HS1,HBk⟩
  ·have e:R = true:=HF.out.1 (fun i' k' m' q h1 h2 h3 h4=>HA.out i' k' m' q (by omega) h1 h2 h4)
   subst e
   go_wp2_with (fail)
   go_ret
   exact ⟨rfl,HBi.out⟩
end
section
open Go.RowKit Go.Shelf
theorem pt_getElem {L:List Pt} {i:Nat} (h:i < L.length):pt L i = L[i]:=by unfold pt;simp [h]
theorem may_iff {L:List Pt} (h4:4 <= L.length) (h12:L.length <= 12):mayP L = true ↔ ∀ j,j < L.length->(pt L j).inB 65536 = true/\∀ j',j' < j->pt L j' ≠ pt L j:=by
 unfold mayP
 rw [decide_eq_true (p:=4 <= L.length/\L.length <= 12) ⟨h4,h12⟩,Bool.true_and,Bool.and_eq_true,decide_eq_true_eq,List.all_eq_true]
 constructor
 ·rintro ⟨h1,h2⟩ j hj
  refine ⟨h1 _ (pt_mem hj),fun j' hj' e=>?_⟩
  rw [pt_getElem hj,pt_getElem (by omega:j' < L.length)] at e
  exact (List.pairwise_iff_getElem.1 h2 j' j (by omega) hj hj') e
 ·intro h
  refine ⟨fun p hp=>?_,List.pairwise_iff_getElem.2 fun i j hi hj hij e=>?_⟩
  ·obtain ⟨i,hi,rfl⟩:=List.getElem_of_mem hp
   rw [<- pt_getElem hi];exact (h i hi).1
  ·exact (h j hj).2 i hij (by rw [pt_getElem hi,pt_getElem hj];exact e)
theorem rform_hull (r:Int) (hf:Pt) (pv:Value) (Ls:List Pt) (w:World) (hv:Lies w pv Ls) :
  Calls Tryz.prog 100 #[.agg #[.int .i64 4,.int .i64 r,.int .i64 hf.x,.int .i64 hf.y,.int .i64 hf.z,pv]] w fun e W=>e = .returned (.bool (inR r 0 16384 && mayP Ls))/\Below w.heap.size w W:=by
 obtain ⟨hx,hy,hz⟩:=hf
 obtain ⟨o,c,rfl,hlc,hcm,hcell⟩:=hv.form
 have HC:Hid _:=hcell
 clear hcell hv
 dsimp only
 have hB:Hid (Below w.heap.size w (w.alloc (.cells #[.int .i64 4,.int .i64 r,.int .i64 hx,.int .i64 hy,.int .i64 hz,.slice o Ls.length c] 33))):=n_after w _
 have B1:Hid (Cells (w.alloc (.cells #[.int .i64 4,.int .i64 r,.int .i64 hx,.int .i64 hy,.int .i64 hz,.slice o Ls.length c] 33)) w.heap.size [.int .i64 4,.int .i64 r,.int .i64 hx,.int .i64 hy,.int .i64 hz,.slice o Ls.length c]):=Cells.new w [.int .i64 4,.int .i64 r,.int .i64 hx,.int .i64 hy,.int .i64 hz,.slice o Ls.length c] _
 cases hb:inR r 0 16384 with
 | false =>
  go_enter Tryz.func100,Tryz.ntmps100
  go_wp2_with (fail)
  refine Calls.mono (rin_is r 0 16384 _ false hb) ?_
  rintro e w' ⟨rfl,rfl⟩
  go_wp2_with (fail)
  go_ret
  exact ⟨rfl,hB.out⟩
 | true =>
  cases hl:inR (Ls.length:Int) 4 12 with
  | false =>
   have e:mayP Ls = false:=by
    unfold mayP
    rw [decide_eq_false (p:=4 <= Ls.length/\Ls.length <= 12) (by have:=of_decide_eq_false hl;omega)];rfl
   rw [e]
   clear e
   go_enter Tryz.func100,Tryz.ntmps100
   go_wp2_with (fail)
   refine Calls.mono (rin_is r 0 16384 _ true hb) ?_
   rintro e w' ⟨rfl,rfl⟩
   go_wp2_with (fail)
   refine Calls.mono (rin_is _ 4 12 _ false hl) ?_
   rintro e w' ⟨rfl,rfl⟩
   go_wp2_with (fail)
   go_ret
   exact ⟨rfl,hB.out⟩
  | true =>
   have h4:4 <= Ls.length:=by have:=of_decide_eq_true hl;omega
   have h12:Ls.length <= 12:=by have:=of_decide_eq_true hl;omega
   have HF:Hid _:=may_iff h4 h12
   generalize mayP Ls = R at *
   obtain ⟨g,off,rfl,_,_,_⟩:=HC.out 0 (by omega)
   go_enter Tryz.func100,Tryz.ntmps100
   go_wp2_with (fail)
   refine Calls.mono (rin_is r 0 16384 _ true hb) ?_
   rintro e w' ⟨rfl,rfl⟩
   go_wp2_with (fail)
   refine Calls.mono (rin_is _ 4 12 _ true hl) ?_
   rintro e V ⟨rfl,rfl⟩
   clear hb hl
   go_wp2_with (fail)
   obtain ⟨V,hV⟩:∃ V:World,V = w.alloc (.cells #[.int .i64 4,.int .i64 r,.int .i64 hx,.int .i64 hy,.int .i64 hz,.slice (some ⟨g,off,none⟩) Ls.length c] 33):=⟨_,rfl⟩
   rw [<- hV] at B1 hB ⊢
   clear hV
   go_loopg [4] Ls.length (fun gm s wr=>∃ i:Nat,s = .int .i64 (i:Int)/\i <= Ls.length/\gm = Ls.length - i/\Hid (∀ j,j < i->(pt Ls j).inB 65536 = true/\∀ j',j' < j->pt Ls j' ≠ pt Ls j)/\Hid (Below V.heap.size V wr))
   case atStart=>exact ⟨0,rfl,Nat.zero_le _,rfl,fun j h=>absurd h (Nat.not_lt_zero _),Below.refl _ _⟩
   case round =>
    obtain ⟨i,rfl,hi,hgm,HA,HBi⟩:=hrel
    have HG1:Hid _:=hgm
    clear hgm
    have s5:=(Cells.step B1.out HBi.out 5 _ rfl).1
    by_cases hit:i < Ls.length
    ·obtain ⟨g',off',e',x0,x1,x2⟩:=HC.out i hit
     simp only [Option.some.injEq,Addr.mk.injEq,and_true] at e'
     obtain ⟨rfl,rfl⟩:=e'
     have HX:Hid _:=And.intro (c_after hB.out x0) (And.intro (c_after hB.out x1) (c_after hB.out x2))
     clear x0 x1 x2
     have x0:=c_after HBi.out HX.out.1
     have x1:=c_after HBi.out HX.out.2.1
     have x2:=c_after HBi.out HX.out.2.2
     have HW:Hid _:=fun w'=>rwithin_any (pt Ls i) (-65536) 65536 w'
     rw [inP_sym] at HW
     have HM:Hid ((pt Ls i).inB 65536 = false->R = false):=fun h=>by
      cases R with
      | false=>rfl
      | true=>have:=(HF.out.1 rfl i hit).1;rw [h] at this;cases this
     have HM2:Hid (∀ k,k < i->pt Ls k = pt Ls i->R = false):=fun k hk h=>by
      cases R with
      | false=>rfl
      | true=>exact absurd h ((HF.out.1 rfl i hit).2 k hk)
     have HS1:Hid ((pt Ls i).inB 65536 = true->(∀ j',j' < i->pt Ls j' ≠ pt Ls i)->∀ j,j < i + 1->(pt Ls j).inB 65536 = true/\∀ j',j' < j->pt Ls j' ≠ pt Ls j):=fun h1 h2 j hj=>by
      by_cases e:j = i
      ·subst e;exact ⟨h1,h2⟩
      ·exact HA.out j (by omega)
     generalize pt Ls i = pc at *
     unfold Pt.v at HW
     generalize pc.inB 65536 = t at *
     go_wp2_with (fail)
     refine Calls.mono (HW.out _) ?_
     rintro e V1 ⟨rfl,hb1⟩
     have HB1:Hid _:=b_step HBi.out hb1
     clear hb1 x0 x1 x2 s5 HW
     cases t with
     | false =>
      have e:R = false:=HM.out rfl
      subst e
      go_wp2_with (fail)
      go_ret
      exact ⟨rfl,b_step hB.out HB1.out⟩
     | true =>
      have HS2:Hid _:=HS1.out rfl
      clear HS1 HM
      go_wp2_with (fail)
      go_loopg [6] i (fun gm s wr=>∃ k:Nat,s = .int .i64 (k:Int)/\k <= i/\gm = i - k/\Hid (∀ j',j' < k->pt Ls j' ≠ pc)/\Hid (Below V.heap.size V wr))
      case atStart=>exact ⟨0,rfl,Nat.zero_le _,rfl,fun j' h=>absurd h (Nat.not_lt_zero _),HB1⟩
      case round =>
       obtain ⟨k,rfl,hk,hgm,HA2,HBk⟩:=hrel
       have HG2:Hid _:=hgm
       clear hgm
       by_cases hkt:k < i
       ·have hkl:k < Ls.length:=by omega
        obtain ⟨g',off',e',y0,y1,y2⟩:=HC.out k hkl
        simp only [Option.some.injEq,Addr.mk.injEq,and_true] at e'
        obtain ⟨rfl,rfl⟩:=e'
        have y0:=c_after (b_step hB.out HBk.out) y0
        have y1:=c_after (b_step hB.out HBk.out) y1
        have y2:=c_after (b_step hB.out HBk.out) y2
        have x0:=c_after HBk.out HX.out.1
        have x1:=c_after HBk.out HX.out.2.1
        have x2:=c_after HBk.out HX.out.2.2
        have s5:=(Cells.step B1.out HBk.out 5 _ rfl).1
        have HEQ:Hid (pt Ls k = pc->R = false):=HM2.out k hkt
        have HNE:Hid (¬ pt Ls k = pc->∀ j',j' < k + 1->pt Ls j' ≠ pc):=fun h j' hj=>by
         by_cases e:j' = k
         ·subst e;exact h
         ·exact HA2.out j' (by omega)
        rw [pt_eq] at HEQ HNE
        generalize (pt Ls k).x = lx at *
        generalize (pt Ls k).y = ly at *
        generalize (pt Ls k).z = lz at *
        by_cases ex:lx = pc.x
        ·by_cases ey:ly = pc.y
         ·by_cases ez:lz = pc.z
          ·have e:R = false:=HEQ.out ⟨ex,ey,ez⟩
           subst e ex ey ez
           go_wp2_with (fail)
           go_region
           go_wp2_with (fail)
           go_ret
           exact ⟨rfl,b_step hB.out HBk.out.drew⟩
          ·have HN:Hid _:=HNE.out (fun h=>ez h.2.2)
           have e1:(lz == pc.z) = false:=beq_eq_false_iff_ne.2 ez
           clear HEQ HNE
           go_wp2_with (fail)
           go_region
           go_wp2_with (fail)
           go_roundg (i - (k + 1))
           case measure=>have:=HG2.out;omega
           case rel=>exact ⟨k + 1,by go_num,by omega,rfl,HN,HBk.out.drew⟩
         ·have HN:Hid _:=HNE.out (fun h=>ey h.2.1)
          have e1:(ly == pc.y) = false:=beq_eq_false_iff_ne.2 ey
          clear HEQ HNE
          go_wp2_with (fail)
          go_region
          go_wp2_with (fail)
          go_roundg (i - (k + 1))
          case measure=>have:=HG2.out;omega
          case rel=>exact ⟨k + 1,by go_num,by omega,rfl,HN,HBk.out.drew⟩
        ·have HN:Hid _:=HNE.out (fun h=>ex h.1)
         have e1:(lx == pc.x) = false:=beq_eq_false_iff_ne.2 ex
         clear HEQ HNE
         go_wp2_with (fail)
         go_region
         go_wp2_with (fail)
         go_roundg (i - (k + 1))
         case measure=>have:=HG2.out;omega
         case rel=>exact ⟨k + 1,by go_num,by omega,rfl,HN,HBk.out.drew⟩
       ·have HS3:Hid _:=HS2.out (fun j' h=>HA2.out j' (by omega))
        go_wp2_with (fail)
        go_roundg (Ls.length - (i + 1))
        case measure=>have:=HG1.out;omega
        case rel=>exact ⟨i + 1,by go_num,by omega,rfl,HS3,HBk⟩
    ·have e:R = true:=HF.out.2 (fun j hj=>HA.out j (by omega))
     subst e
     go_wp2_with (fail)
     go_ret
     exact ⟨rfl,b_step hB.out HBi.out⟩
end
section
open Go.RowKit Go.Shelf
theorem rform_any (s:Sh) (pv:Value) (w:World) (hv:Lies w pv s.pts) :
  Calls Tryz.prog 100 #[s.v pv] w fun e W=>e = .returned (.bool (formP s))/\Below w.heap.size w W:=by
 obtain ⟨k,r,⟨hx,hy,hz⟩,L⟩:=s
 have HF:Hid (formP ⟨k,r,⟨hx,hy,hz⟩,L⟩ = if k = 1 then inR r 1 16384 else if k = 2 then inR r 1 16384 && halfOk hx else if k = 3 then inR r 0 16384 && (halfOk hx && (halfOk hy && halfOk hz)) else if k = 4 then inR r 0 16384 && mayP L else false):=rfl
 generalize formP ⟨k,r,⟨hx,hy,hz⟩,L⟩ = F at *
 have HV:Hid _:=hv
 have hB:Hid (Below w.heap.size w (w.alloc (.cells #[.int .i64 k,.int .i64 r,.int .i64 hx,.int .i64 hy,.int .i64 hz,pv] 33))):=n_after w _
 have B1:Hid (Cells (w.alloc (.cells #[.int .i64 k,.int .i64 r,.int .i64 hx,.int .i64 hy,.int .i64 hz,pv] 33)) w.heap.size [.int .i64 k,.int .i64 r,.int .i64 hx,.int .i64 hy,.int .i64 hz,pv]):=Cells.new w [.int .i64 k,.int .i64 r,.int .i64 hx,.int .i64 hy,.int .i64 hz,pv] _
 obtain ⟨o,c,rfl,hlc,hcm,_⟩:=hv.form
 dsimp only at hlc hcm hB HV ⊢
 clear hv
 unfold Sh.v
 dsimp only
 by_cases k1:k = 1
 ·subst k1
  have e:F = inR r 1 16384:=HF.out
  subst e
  generalize hb:inR r 1 16384 = t
  go_enter Tryz.func100,Tryz.ntmps100
  go_wp2_with (fail)
  refine Calls.mono (rin_is r 1 16384 _ t hb) ?_
  rintro e w' ⟨rfl,rfl⟩
  go_wp2_with (fail)
  go_ret
  exact ⟨rfl,hB.out⟩
 by_cases k2:k = 2
 ·subst k2
  have e:F = (inR r 1 16384 && halfOk hx):=HF.out
  cases hb:inR r 1 16384 with
  | false =>
   rw [hb] at e
   subst e
   go_enter Tryz.func100,Tryz.ntmps100
   go_wp2_with (fail)
   refine Calls.mono (rin_is r 1 16384 _ false hb) ?_
   rintro e w' ⟨rfl,rfl⟩
   go_wp2_with (fail)
   go_ret
   exact ⟨rfl,hB.out⟩
  | true =>
   rw [hb] at e
   have e2:F = inR hx 1 65536:=e
   clear e
   subst e2
   generalize hh:inR hx 1 65536 = t
   go_enter Tryz.func100,Tryz.ntmps100
   go_wp2_with (fail)
   refine Calls.mono (rin_is r 1 16384 _ true hb) ?_
   rintro e w' ⟨rfl,rfl⟩
   go_wp2_with (fail)
   refine Calls.mono (rin_is hx 1 65536 _ t hh) ?_
   rintro e w' ⟨rfl,rfl⟩
   go_wp2_with (fail)
   go_ret
   exact ⟨rfl,hB.out⟩
 by_cases k3:k = 3
 ·subst k3
  have e:F = (inR r 0 16384 && inP ⟨hx,hy,hz⟩ 1 65536):=HF.out
  have HW:Hid _:=fun w'=>rwithin_any ⟨hx,hy,hz⟩ 1 65536 w'
  generalize inP ⟨hx,hy,hz⟩ 1 65536 = u at *
  unfold Pt.v at HW
  dsimp only at HW
  subst e
  generalize hb:inR r 0 16384 = t
  have c2:=(B1.out 2 _ rfl).1
  have c3:=(B1.out 3 _ rfl).1
  have c4:=(B1.out 4 _ rfl).1
  go_enter Tryz.func100,Tryz.ntmps100
  go_wp2_with (fail)
  refine Calls.mono (HW.out _) ?_
  rintro e V ⟨rfl,hb2⟩
  have c1:=(Cells.step B1.out hb2 1 _ rfl).1
  have hB2:Hid _:=b_step hB.out hb2
  clear hb2 c2 c3 c4
  cases t with
  | false =>
   go_wp2_with (fail)
   refine Calls.mono (rin_is r 0 16384 _ false hb) ?_
   rintro e w' ⟨rfl,rfl⟩
   go_wp2_with (fail)
   go_ret
   exact ⟨rfl,hB2.out⟩
  | true =>
   go_wp2_with (fail)
   refine Calls.mono (rin_is r 0 16384 _ true hb) ?_
   rintro e w' ⟨rfl,rfl⟩
   go_wp2_with (fail)
   go_ret
   exact ⟨rfl,hB2.out⟩
 by_cases k4:k = 4
 ·subst k4
  have e:F = (inR r 0 16384 && mayP L):=HF.out
  rw [e]
  exact rform_hull r ⟨hx,hy,hz⟩ _ L w HV.out
 ·have e:F = false:=by rw [HF.out,if_neg k1,if_neg k2,if_neg k3,if_neg k4]
  subst e
  go_enter Tryz.func100,Tryz.ntmps100
  go_wp2
  go_ret
  exact ⟨rfl,hB.out⟩
theorem rcheck_any (s:Sh) (pv:Value) (w:World) (hv:Lies w pv s.pts) :
  Calls Tryz.prog 47 #[s.v pv] w fun e W=>e = .returned (.int .i64 (checkP s))/\Below w.heap.size w W:=by
 have hB:Hid (Below w.heap.size w (w.alloc (.cells #[.int .i64 s.kind,.int .i64 s.radius,.int .i64 s.half.x,.int .i64 s.half.y,.int .i64 s.half.z,pv] 33))):=n_after w _
 have HF:Hid _:=rform_any s pv (w.alloc (.cells #[.int .i64 s.kind,.int .i64 s.radius,.int .i64 s.half.x,.int .i64 s.half.y,.int .i64 s.half.z,pv] 33)) (hv.below hB.out)
 have HC:Hid (checkP s = if formP s then (if s.kind = 4/\flatP s.pts = true then 51 else 0) else 50):=rfl
 have HM:Hid (formP s = true->s.kind = 4->mayP s.pts = true):=fun a b=>form_hull a b
 generalize checkP s = C at *
 have HV:Hid _:=hv
 obtain ⟨o,c,rfl,hlc,hcm,_⟩:=hv.form
 clear hv
 generalize formP s = F at *
 obtain ⟨k,r,⟨hx,hy,hz⟩,L⟩:=s
 unfold Sh.v at *
 dsimp only at *
 cases F with
 | false =>
  have e:C = 50:=HC.out
  subst e
  go_enter Tryz.func47,Tryz.ntmps47
  go_wp2_with (go_at_call 100;refine Calls.mono HF.out ?_;rintro e V ⟨rfl,hb⟩)
  go_ret
  exact ⟨rfl,b_step hB.out hb⟩
 | true =>
  have c0:(w.alloc (.cells #[.int .i64 k,.int .i64 r,.int .i64 hx,.int .i64 hy,.int .i64 hz,.slice o L.length c] 33)).cell? ⟨w.heap.size,0,none⟩ = some (.int .i64 k):=by simp
  have c5:(w.alloc (.cells #[.int .i64 k,.int .i64 r,.int .i64 hx,.int .i64 hy,.int .i64 hz,.slice o L.length c] 33)).cell? ⟨w.heap.size,5,none⟩ = some (.slice o L.length c):=by simp
  by_cases k4:k = 4
  ·subst k4
   obtain ⟨m1,m2,m3,m4⟩:=may_parts (HM.out rfl rfl)
   have m3:Hid _:=m3
   have m5:Hid (pt L 0 ≠ pt L 1):=fun e=>by
    rw [pt_getElem (by omega:0 < L.length),pt_getElem (by omega:1 < L.length)] at e
    exact (List.pairwise_iff_getElem.1 m4 0 1 (by omega) (by omega) (by omega)) e
   have HC:Hid (C = if flatP L = true then 51 else 0):=by show _ = _;rw [HC.out];simp
   go_enter Tryz.func47,Tryz.ntmps47
   go_wp2_with (fail)
   refine Calls.mono HF.out ?_
   clear HF
   rintro e V ⟨rfl,hb⟩
   have d0:=c_after hb c0
   have d5:=c_after hb c5
   have hB2:Hid _:=b_step hB.out hb
   clear hb c0 c5
   go_wp2_with (fail)
   refine Calls.mono (rflat_any _ L V (HV.out.below hB2.out) m1 m2 m3.out m5.out) ?_
   rintro e V2 ⟨rfl,hb⟩
   clear d0 d5
   generalize flatP L = fl at *
   cases fl with
   | true =>
    have e:C = 51:=HC.out
    subst e
    go_wp2_with (fail)
    go_ret
    exact ⟨rfl,b_step hB2.out hb⟩
   | false =>
    have e:C = 0:=HC.out
    subst e
    go_wp2_with (fail)
    go_ret
    exact ⟨rfl,b_step hB2.out hb⟩
  ·have e:C = 0:=by rw [HC.out,if_pos rfl,if_neg (fun h=>k4 h.1)]
   subst e
   go_enter Tryz.func47,Tryz.ntmps47
   go_wp2_with (fail)
   refine Calls.mono HF.out ?_
   clear HF
   rintro e V ⟨rfl,hb⟩
   have d0:=c_after hb c0
   have hB2:Hid _:=b_step hB.out hb
   clear hb c0 c5
   go_wp2_with (fail)
   go_ret
   exact ⟨rfl,hB2.out⟩
end
end Go.Proofs.YtpjaacpcdomfiaaGreat
