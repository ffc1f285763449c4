/- Layer 11's first calls; lists of one core and of two. -/
import Derived.Test.YtohbjabihdgjhaaGreatSSFree10
import Derived.Test.YtohbjabihdgjhaaGreatSSFree5
import Derived.Test.YtohbjabihdgjhaaGreatSSFree0
import Derived.RangeFuncNested
import Derived.RangeFuncBound
import Derived.RangeFuncCalls
import Derived.RangeFuncLeaves
import Derived.RangeFuncBox
import Derived.Shelf.Abstract
import Derived.WalkKit
import Derived.OwnWalkIn
import Derived.TacticsInMore
import Derived.LoopNIn
import Derived.LoopIn
import Derived.LoopTactic
import Derived.ProofKit
import Derived.Handy
import Derived.Test.YtohbjabihdgjhaaGreatProg
import Derived.Test.YtohbjabihdgjhaaGreatSSFree6
import Derived.Test.YtohbjabihdgjhaaGreatSSFree7
import Derived.Deep.MidRow
set_option maxHeartbeats 8000000
set_option maxRecDepth 100000
set_option linter.unusedVariables false
namespace Go.Proofs.YtohbjabihdgjhaaGreat
section
open Go.RowKit Go.Shelf
theorem wpick_any (c n:Int) (w:World) (hc:-9223372036854775808 <= c/\c <= 9223372036854775807) (hn:0 < n) (hn':n <= 9223372036854775807) :
  Calls Tryz.prog 7 #[.int .i64 c,.int .i64 n] w fun e w'=>e = .returned (.int .i64 (pickY c n))/\w' = w:=by
 unfold pickY
 by_cases h:c < 0
 ·have hb:0 <= -(c + 1):=by omega
  have hb':-(c + 1) <= 9223372036854775807:=by omega
  have hz:(n == 0) = false:=beq_eq_false_iff_ne.2 (by omega)
  rw [if_pos h]
  go_enter Tryz.func7,Tryz.ntmps7
  go_wp2
  go_ret
  have e:(c + 1).tmod n = -(-(c + 1) % n):=by
   rw [<- Int.tmod_eq_emod_of_nonneg hb,Int.neg_tmod,Int.neg_neg]
  exact ⟨by rw [e,Int.neg_neg];rfl,rfl⟩
 ·have hz:(n == 0) = false:=beq_eq_false_iff_ne.2 (by omega)
  rw [if_neg h]
  go_enter Tryz.func7,Tryz.ntmps7
  go_wp2
  go_ret
  exact ⟨rfl,rfl⟩
theorem wpick_b (c n:Int) (w:World) (hc:-9223372036854775808 <= c/\c <= 9223372036854775807) (hn:0 < n) (hn':n <= 9223372036854775807) :
  Calls Tryz.prog 7 #[.int .i64 c,.int .i64 n] w fun e W=>e = .returned (.int .i64 (pickY c n))/\Below w.heap.size w W:=
 (wpick_any c n w hc hn hn').mono (by rintro e W ⟨h1,rfl⟩;exact ⟨h1,Below.refl _ _⟩)
theorem liesC_one {W:World} {g:Nat} {c:Cr} {pv av ev:Value} (h:Cel W g [pv,av,ev,.int .i64 c.r]) (l1:Lies W pv c.P) (l2:Lies W av c.A) (l3:Lies W ev c.E):LiesC W (.slice (some ⟨g,0,none⟩) 1 1) [c]:=by
 refine ⟨_,1,rfl,Nat.le_refl _,by omega,fun i hi=>?_⟩
 have e:i = 0:=by simp at hi;exact hi
 subst e
 exact ⟨g,0,pv,av,ev,rfl,h 0 _ rfl,h 1 _ rfl,h 2 _ rfl,h 3 _ rfl,l1,l2,l3⟩
theorem wawake_any (w0:World):Calls Tryz.prog 5 #[] w0 fun e W=>e = .returned (.bool true)/\Below w0.heap.size w0 W:=by
 have HCS:Hid _:=fun (v1 v2:Value) (w':World) (h1:Lies w' v1 [⟨0,0,0⟩]) (h2:Lies w' v2 [⟨20,0,0⟩])=>wcast_any ⟨[⟨0,0,0⟩],[],[],2⟩ ⟨32,0,0⟩ exB v1 (.slice none 0 0) (.slice none 0 0) v2 (.slice none 0 0) (.slice none 0 0) w' h1 (lies_nil9 _) (lies_nil9 _) h2 (lies_nil9 _) (lies_nil9 _)
 rw [ex_cast,ex_castB (by decide) (Or.inl rfl)] at HCS
 have HRY:Hid _:=fun (g:Nat) (v2:Value) (w':World) (hc:Cel w' g [v2,.slice none 0 0,.slice none 0 0,.int .i64 2]) (h2:Lies w' v2 [⟨20,0,0⟩])=>wray_any ⟨0,0,0⟩ ⟨160,0,0⟩ [exB] _ w' (liesC_one (c:=exB) hc h2 (lies_nil9 _) (lies_nil9 _))
 rw [ex_ray] at HRY
 unfold coreA Pt.v apV at *
 dsimp only at HCS HRY
 obtain ⟨X,hX⟩:∃ V,V = (((w0.alloc (.cells #[.int .i64 0,.int .i64 0,.int .i64 0] 23)).alloc (.cells #[.slice (some ⟨w0.heap.size,0,none⟩) 1 1,.slice none 0 0,.slice none 0 0,.int .i64 2] 36)).alloc (.cells #[.int .i64 20,.int .i64 0,.int .i64 0] 23)).alloc (.cells #[.slice (some ⟨w0.heap.size + 1 + 1,0,none⟩) 1 1,.slice none 0 0,.slice none 0 0,.int .i64 2] 36):=⟨_,rfl⟩
 obtain ⟨pa,hpa⟩:∃ b,b = w0.heap.size:=⟨_,rfl⟩
 obtain ⟨ab,hab⟩:∃ b,b = w0.heap.size + 1:=⟨_,rfl⟩
 obtain ⟨pb,hpb⟩:∃ b,b = w0.heap.size + 1 + 1:=⟨_,rfl⟩
 obtain ⟨bb,hbb⟩:∃ b,b = w0.heap.size + 1 + 1 + 1:=⟨_,rfl⟩
 have n1:=Cel.new w0 [.int .i64 0,.int .i64 0,.int .i64 0] 23
 have n2:=Cel.new (w0.alloc (.cells #[.int .i64 0,.int .i64 0,.int .i64 0] 23)) [.slice (some ⟨w0.heap.size,0,none⟩) 1 1,.slice none 0 0,.slice none 0 0,.int .i64 2] 36
 rw [World.size_alloc] at n2
 have n3:=Cel.new ((w0.alloc (.cells #[.int .i64 0,.int .i64 0,.int .i64 0] 23)).alloc (.cells #[.slice (some ⟨w0.heap.size,0,none⟩) 1 1,.slice none 0 0,.slice none 0 0,.int .i64 2] 36)) [.int .i64 20,.int .i64 0,.int .i64 0] 23
 rw [World.size_alloc,World.size_alloc] at n3
 have n4:=Cel.new (((w0.alloc (.cells #[.int .i64 0,.int .i64 0,.int .i64 0] 23)).alloc (.cells #[.slice (some ⟨w0.heap.size,0,none⟩) 1 1,.slice none 0 0,.slice none 0 0,.int .i64 2] 36)).alloc (.cells #[.int .i64 20,.int .i64 0,.int .i64 0] 23)) [.slice (some ⟨w0.heap.size + 1 + 1,0,none⟩) 1 1,.slice none 0 0,.slice none 0 0,.int .i64 2] 36
 rw [World.size_alloc,World.size_alloc,World.size_alloc] at n4
 have L1:Hid (Lies X (.slice (some ⟨pa,0,none⟩) 1 1) [⟨0,0,0⟩]):=by show Lies _ _ _;rw [hX,hpa];exact lies_one9 (((n1.step (n_after _ _)).step (n_after _ _)).step (n_after _ _))
 have C1:Hid (Cel X ab [.slice (some ⟨pa,0,none⟩) 1 1,.slice none 0 0,.slice none 0 0,.int .i64 2]):=by show Cel _ _ _;rw [hX,hab,hpa];exact (n2.step (n_after _ _)).step (n_after _ _)
 have L2:Hid (Lies X (.slice (some ⟨pb,0,none⟩) 1 1) [⟨20,0,0⟩]):=by show Lies _ _ _;rw [hX,hpb];exact lies_one9 (n3.step (n_after _ _))
 have C2:Hid (Cel X bb [.slice (some ⟨pb,0,none⟩) 1 1,.slice none 0 0,.slice none 0 0,.int .i64 2]):=by show Cel _ _ _;rw [hX,hbb,hpb];exact n4
 have HB:Hid (Below w0.heap.size w0 X):=by show Below _ _ _;rw [hX];exact b_step (b_step (b_step (n_after _ _) (n_after _ _)) (n_after _ _)) (n_after _ _)
 clear n1 n2 n3 n4
 go_enter Tryz.func5,Tryz.ntmps5
 go_upto_region 3 with fail
 rw [<- hX,<- hbb,<- hpb,<- hab,<- hpa]
 clear hX hbb hpb hab hpa
 have x0:=C1.out 0 _ rfl
 have x1:=C1.out 1 _ rfl
 have x2:=C1.out 2 _ rfl
 have x3:=C1.out 3 _ rfl
 have y0:=C2.out 0 _ rfl
 have y1:=C2.out 1 _ rfl
 have y2:=C2.out 2 _ rfl
 have y3:=C2.out 3 _ rfl
 go_wp2_with (fail)
 refine Calls.mono (HCS.out _ _ _ L1.out L2.out) ?_
 rintro e V1 ⟨rfl,hb⟩
 have C2:Hid (Cel _ _ _):=C2.out.step hb
 have L2:Hid _:=L2.out.below hb
 have HB:Hid _:=b_step HB.out hb
 clear hb x0 x1 x2 x3 y0 y1 y2 y3 HCS C1 L1
 obtain ⟨V2,hV2⟩:∃ V,V = V1.alloc (.cells #[.int .i64 1048576,.int .i64 0,.int .i64 0,.int .i64 0] 41):=⟨_,rfl⟩
 obtain ⟨xb,hxb⟩:∃ b,b = V1.heap.size:=⟨_,rfl⟩
 have hb2:Below V1.heap.size V1 V2:=by rw [hV2];exact n_after _ _
 have CX:Hid (Cel V2 xb [.int .i64 1048576,.int .i64 0,.int .i64 0,.int .i64 0]):=by show Cel _ _ _;rw [hV2,hxb];exact Cel.new V1 [.int .i64 1048576,.int .i64 0,.int .i64 0,.int .i64 0] 41
 have C2:Hid (Cel _ _ _):=C2.out.step hb2
 have L2:Hid _:=L2.out.below hb2
 have HB:Hid _:=b_step HB.out hb2
 go_upto_region 4 with fail
 rw [<- hV2,<- hxb]
 clear hV2 hxb hb2
 have y0:=C2.out 0 _ rfl
 have y1:=C2.out 1 _ rfl
 have y2:=C2.out 2 _ rfl
 have y3:=C2.out 3 _ rfl
 have hb3:=n_after V2 (.cells #[.slice (some ⟨pb,0,none⟩) 1 1,.slice none 0 0,.slice none 0 0,.int .i64 2] 36)
 have HRY2:Hid _:=HRY.out V2.heap.size (.slice (some ⟨pb,0,none⟩) 1 1) _ (Cel.new V2 [.slice (some ⟨pb,0,none⟩) 1 1,.slice none 0 0,.slice none 0 0,.int .i64 2] 36) (L2.out.below hb3)
 have HB:Hid _:=b_step HB.out hb3
 have CX:Hid (Cel _ _ _):=CX.out.step hb3
 clear HRY hb3
 go_wp2_with (fail)
 refine Calls.mono HRY2.out ?_
 rintro e V3 ⟨rfl,hb⟩
 have CX:Hid (Cel _ _ _):=CX.out.step hb
 have HB:Hid _:=b_step HB.out hb
 clear hb y0 y1 y2 y3 HRY2 C2 L2
 have x0:=CX.out 0 _ rfl
 have x1:=CX.out 1 _ rfl
 have x2:=CX.out 2 _ rfl
 have x3:=CX.out 3 _ rfl
 go_wp2_with (fail)
 go_ret
 exact ⟨rfl,HB.out⟩
end
section
open Go.RowKit Go.Shelf
theorem apart_told (a b:Cr) (pv av ev qv bv fv:Value) (w0:World) (ha:mayC a = true) (hb:mayC b = true) (l1:Lies w0 pv a.P) (l2:Lies w0 av a.A) (l3:Lies w0 ev a.E) (m1:Lies w0 qv b.P) (m2:Lies w0 bv b.A) (m3:Lies w0 fv b.E) :
  Calls Tryz.prog 9 #[.agg #[pv,av,ev,.int .i64 a.r],.agg #[qv,bv,fv,.int .i64 b.r]] w0 fun e W=>e = .returned (.tuple #[.agg #[.int .i64 (told a b).1.x,.int .i64 (told a b).1.y,.int .i64 (told a b).1.z,.int .i64 (told a b).2],.bool true])/\Below w0.heap.size w0 W:=by
 have h:=napart_any a.P a.A a.E b.P b.A b.E a.r b.r _ _ _ _ _ _ w0 l1 l2 l3 m1 m2 m3
 have h1:mayC ⟨a.P,a.A,a.E,a.r⟩ = true:=ha
 have h2:mayC ⟨b.P,b.A,b.E,b.r⟩ = true:=hb
 unfold apartV at h
 rw [h1,h2] at h
 exact h
section
variable {W0:World} {ov:Array Value} {rv:Value} {γ:Nat->Value} {L:Nat->Bool} {w:World}
end
end
section
open Go.RowKit Go.Shelf
structure KeepO (S:Nat->Prop) (V V':World):Prop where
 size:V.heap.size <= V'.heap.size
 block:∀ b,S b->b < V.heap.size->V'.heap[b]? = V.heap[b]?
theorem KeepO.refl (S:Nat->Prop) (V:World):KeepO S V V:=⟨Nat.le_refl _,fun _ _ _=>rfl⟩
theorem KeepO.trans {S:Nat->Prop} {A B C:World} (h:KeepO S A B) (k:KeepO S B C):KeepO S A C:=
 ⟨Nat.le_trans h.size k.size,fun b hb hl=>(k.block b hb (Nat.lt_of_lt_of_le hl h.size)).trans (h.block b hb hl)⟩
theorem KeepO.mono {S T:Nat->Prop} {A B:World} (h:KeepO S A B) (hT:∀ b,T b->S b):KeepO T A B:=⟨h.size,fun b hb hl=>h.block b (hT b hb) hl⟩
theorem KeepO.grown {S:Nat->Prop} {A B:World} {row:Option Nat} (hg:A.grownBy B row) (hr:∀ b,S b->some b ≠ row):KeepO S A B:=⟨hg.size,fun b hb hl=>hg.block b hl (hr b hb)⟩
theorem KeepO.put {S:Nat->Prop} {W:World} {l:Nat} (o':Obj) (hl:¬ S l):KeepO S W (W.putObj l o'):=
 ⟨by simp,fun b hb _=>World.putObj_heap_other (fun e=>hl (e ▸ hb))⟩
theorem KeepO.alloc (S:Nat->Prop) (W:World) (o:Obj):KeepO S W (W.alloc o):=KeepO.grown (World.grownBy_alloc W o none) (fun b _ e=>by cases e)
theorem KeepO.cell {S:Nat->Prop} {A B:World} (h:KeepO S A B) {q:Addr} {v:Value} (hq:S q.block) (hc:A.cell? q = some v):B.cell? q = some v:=
 (World.cell?_of_block (w:=A) (h.block _ hq (World.block_lt_of_cell? _ _ hc))).trans hc
theorem KeepO.frozen {S:Nat->Prop} {A B:World} (h:KeepO S A B) {q:Addr} {v:Value} (hq:S q.block) (hc:A.cell? q = some v):B.frozen? q = A.frozen? q:=
 World.frozen?_of_block (w:=A) (h.block _ hq (World.block_lt_of_cell? _ _ hc))
def TellsN (n:Nat) (P:Program) (g:Nat) (lb:Array Value) (encs:Nat->Array Value) (row:Option Nat) (S:Nat->Prop) (St:Nat->World->Prop) (N:Nat) (w:World):Prop:=
 ∀ (l:Nat) (J Jx:Nat->World->Prop) (W:World),Below w.heap.size w W->OwnFrom W.heap.size J->OwnFrom W.heap.size Jx ->
  (∀ k A B,J k A->A.grownBy B row->J k B) ->
  (∀ k V,k < N->J k V->YieldAt Fence.wide (n - 1) P l (encs k) V fun e V' =>
   (e = .returned (.bool true)/\J (k + 1) V'/\KeepO S V V'/\KeepsFrom (w.heap.size + 2) V V') \/ (e = .returned (.bool false)/\Jx (k + 1) V'/\KeepsFrom (w.heap.size + 2) V V')) ->
  J 0 W->CallsIn Fence.wide n P g (#[.func (.yield l) #[] #[]] ++ lb) W fun e W'=>(∃ v,e = .returned v)/\((J N W'/\St N W') \/ (∃ k,k < N/\Jx (k + 1) W'))
def postN (B:Nat) (S:Nat->Prop) (I:Nat->World->Prop) (Ix:Code->Nat->World->Prop) (k:Nat) (W:World):Exit->Act->World->Prop
 | .normal,_,W'=>KeepsFrom B W W'/\KeepO S W W'/\I k W'
 | .ret,_,W'=>KeepsFrom B W W'/\Ix .ret k W'
 | .exit id,_,W'=>KeepsFrom B W W'/\Ix (.exit id) k W'
 | .goto t,_,W'=>KeepsFrom B W W'/\Ix (.goto t) k W'
 | .panic _,_,_=>False
 | .outgrown,_,_=>False
def al (W:World):Option Obj->World
 | none=>W
 | some o=>W.alloc o
theorem range_n {n:Nat} {P:Program} (h1:1 <= n) {g:Operand} {ps:Array Tmp} {assign body:Code} {Q:Exit->Act->World->Prop} {a:Act} {w:World} {gf:Nat} {lb:Array Value}
  (hg:a.eval g = .func (.func gf) #[] lb) (eg:∀ args w,(callFunc gf args).run P w = .ok (.enter gf args) w)
  {encs:Nat->Array Value} {row:Option Nat} {S:Nat->Prop} {St:Nat->World->Prop} {N:Nat} (hseq:TellsN (n - 1) P gf lb encs row S St N w)
  (hS:∀ b,S b->b < w.heap.size) (hrow:∀ r,row = some r->r < w.heap.size) (hSt:OwnFrom w.heap.size St) (hps:∀ k,(encs k).size = ps.size)
  (I:Nat->World->Prop) (Ix:Code->Nat->World->Prop) (hI:OwnFrom w.heap.size I) (hIx:∀ c,OwnFrom w.heap.size (Ix c)) (hIr:∀ k A B,I k A->A.grownBy B row->I k B) (h0:I 0 w) (a₁:Nat->Nat->Act) (ob:Nat->Option Obj)
  (hassign:∀ (l k:Nat) (W:World) (nb:Nat) (K:Act->World->Prop),k < N->nb = W.heap.size->K (a₁ k nb) (al W (ob k)) ->
   assign.wpIn (Fence.wide.inRound l) (n - 1 - 1) P (Exit.then K (fun _ _ _=>False)) { tmps:=(ps.zip (encs k)).foldl (fun t (p,v)=>t.setIfInBounds p v) a.tmps,defers:=[] } W)
  (hbody:∀ (l k:Nat) (W:World) (nb:Nat),k < N->I k W->w.heap.size <= nb->(∀ o,ob k = some o->W.heap[nb]? = some o)->body.wpIn (Fence.wide.inRound l) (n - 1 - 1) P (postN w.heap.size S I Ix (k + 1) W) (a₁ k nb) W)
  (hdone:∀ (D:Nat) (W:World),w.heap.size <= D->I N W->St N W->W.heap[D]? = some (.deferred (some []))->Q .normal { a with defers:={ target:=.collected D,args:=#[] } :: a.defers } W)
  (hstop:∀ (D:Nat) (c:Code) (k:Nat) (W:World),w.heap.size <= D->k < N->Ix c (k + 1) W->W.heap[D]? = some (.deferred (some []))->c.wpIn Fence.wide n P Q { a with defers:={ target:=.collected D,args:=#[] } :: a.defers } W) :
  (Code.rangeFunc g ps assign body).wpIn Fence.wide n P Q a w:=by
 refine wpIn_rangeFunc fun fn hfn=>?_
 show ∃ _,_
 generalize hD:w.heap.size = D at *
 let R (st:LoopState) (pe:Option Code):Loop:=⟨st,pe,fn,a.tmps,ps,assign,body,D⟩
 let V:World:=(w.alloc (.deferred (some []))).alloc (.loop (R .ready none))
 have sV:V.heap.size = D + 2:=by simp [V,hD]
 have rV:V.heap[D + 1]? = some (.loop (R .ready none)):=by
  have:=World.alloc_heap_new (w.alloc (.deferred (some []))) (.loop (R .ready none))
  rwa [World.size_alloc,hD] at this
 have dV:V.heap[D]? = some (.deferred (some [])):=by
  have:=World.alloc_heap_new w (.deferred (some []))
  rw [hD] at this
  exact (Below.heap_alloc _ _ _ (by simp;omega)).trans this
 have iV:I 0 V:=hI.alloc _ (hI.alloc _ h0)
 have bV:Below w.heap.size w V:=((Below.refl _ w).alloc (Nat.le_refl _) _).alloc (by simp) _
 have keep:∀ {X Y:World} {row:Option Nat} {k:Nat} {o:Obj},X.grownBy Y row->(∀ r,row = some r->V.heap.size <= r/\∃ o:Obj,X.heap[r]? = some o/\o.isCells = false)->k < D + 2->X.heap[k]? = some o->Y.heap[k]? = some o:=by
  intro X Y row k o hXY hr hk hX
  refine (hXY.block k (Array.getElem?_eq_some_iff.1 hX).1 fun e=>?_).trans hX
  have:=(hr k e.symm).1
  omega
 have turn:∀ {X Y:World} {k:Nat} {o:Obj},X.grownBy Y row->D <= k->X.heap[k]? = some o->Y.heap[k]? = some o:=by
  intro X Y k o hXY hk hX
  refine (hXY.block k (Array.getElem?_eq_some_iff.1 hX).1 fun e=>?_).trans hX
  have:=hrow k e.symm
  omega
 have wide:∀ {X:World} {row:Option Nat},(∀ r,row = some r->V.heap.size <= r/\∃ o:Obj,X.heap[r]? = some o/\o.isCells = false)->∀ r,row = some r->D <= r/\∃ o:Obj,X.heap[r]? = some o/\o.isCells = false:=
  fun hr r e=>⟨by have:=(hr r e).1;omega,(hr r e).2⟩
 have far0:∀ k,D <= k->¬ S k:=fun k hk hs=>by have:=hS k hs;omega
 refine ⟨D + 1,[{ target:=.collected D,args:=#[] }],V,{ target:=.fn (.func gf) lb,args:=#[.func (.yield (D + 1)) #[] #[]] },V,gf,#[.func (.yield (D + 1)) #[] #[]] ++ lb,V,?_,?_,fun _ _=>trivial,?_,fun _=>h1,?_⟩
 ·have:=run_enterLoop_outer (P:=P) (w:=w) fn a.tmps ps assign body
  rw [hD] at this
  exact this
 ·simp only [resolve,hg]
  simp [go_sem]
 ·simp [invoke,go_sem,eg]
 refine (hseq (D + 1) (fun k W=>I k W/\W.heap[D + 1]? = some (.loop (R .ready none))/\W.heap[D]? = some (.deferred (some [])))
  (fun k W=>∃ c,Ix c k W/\W.heap[D + 1]? = some (.loop (R .done (some c)))/\W.heap[D]? = some (.deferred (some []))) V (hD ▸ bV)
  (fun s A B row hs hAB hr=>⟨hI s A B row hs.1 hAB (wide hr),keep hAB hr (by omega) hs.2.1,keep hAB hr (by omega) hs.2.2⟩)
  (fun s A B row ⟨c,hs⟩ hAB hr=>⟨c,hIx c s A B row hs.1 hAB (wide hr),keep hAB hr (by omega) hs.2.1,keep hAB hr (by omega) hs.2.2⟩)
  (fun k A B hs hAB=>⟨hIr k A B hs.1 hAB,turn hAB (by omega) hs.2.1,turn hAB (by omega) hs.2.2⟩) ?_ ⟨iV,rV,dV⟩).mono ?_
 ·skip
  rintro k X hk ⟨iX,rX,dX⟩
  have ltX:D + 1 < X.heap.size:=(Array.getElem?_eq_some_iff.1 rX).1
  obtain ⟨X1,hX1⟩:∃ X1,X1 = al X (ob k):=⟨_,rfl⟩
  have gX:X.grownBy X1 none:=by
   rw [hX1]
   cases ob k with
   | none=>exact ⟨rfl,rfl,rfl,Nat.le_refl _,fun _ _ _=>rfl⟩
   | some o=>exact World.grownBy_alloc X o none
  have up:∀ {j:Nat} {o:Obj},X.heap[j]? = some o->X1.heap[j]? = some o:=fun hX=>(gX.block _ (Array.getElem?_eq_some_iff.1 hX).1 (fun e=>by cases e)).trans hX
  have rX1:=up rX
  have dX1:=up dX
  have iX1:I k X1:=hI k X X1 none iX gX (fun r e=>by cases e)
  have ltX1:D + 1 < X1.heap.size:=(Array.getElem?_eq_some_iff.1 rX1).1
  have oX1:∀ o,ob k = some o->X1.heap[X.heap.size]? = some o:=fun o e=>by rw [hX1,e];exact World.alloc_heap_new X o
  refine ⟨fn,_,assign,body,run_yield (P:=P) (args:=encs k) rX (hps k),roundIn_of_wpIn hfn (hassign _ k X _ _ hk rfl ?_)⟩
  rw [<- hX1]
  refine ⟨_,run_beginRound rX1 rfl,?_⟩
  let Y:World:=X1.putObj (D + 1) (.loop { R .ready none with state:=.busy })
  have rY:Y.heap[D + 1]? = some (.loop { R .ready none with state:=.busy }):=World.putObj_heap_same ltX1
  have dY:Y.heap[D]? = some (.deferred (some [])):=(World.putObj_heap_other (by omega)).trans dX1
  have iY:I k Y:=hI.putObj _ iX1 (by omega) rX1 rfl
  refine wpIn_mono (hbody _ k Y X.heap.size hk iY (by omega) (fun o e=>(World.putObj_heap_other (by omega)).trans (oX1 o e))) ?_
  have far:∀ (o:Obj) (Z:World),KeepsFrom D Y Z->KeepsFrom (D + 2) X (Z.putObj (D + 1) o):=fun o Z hZ =>
   ⟨by have h9:=hZ.size;have h8:=gX.size;simp [Y] at h9 ⊢;omega,fun j o' hj hX ho=>(World.putObj_heap_other (by omega)).trans (hZ.same j o' (by omega) ((World.putObj_heap_other (by omega)).trans (up hX)) ho)⟩
  have ends:∀ (jump:Option Code) (Z:World),KeepsFrom D Y Z->(Instr.endRound (D + 1) jump).run P Z = .ok (.bool jump.isNone) (Z.putObj (D + 1) (.loop (R (if jump.isNone then .ready else .done) jump)))/\Z.heap[D + 1]? = some (.loop { R .ready none with state:=.busy }) /\
    (Z.putObj (D + 1) (.loop (R (if jump.isNone then .ready else .done) jump))).heap[D + 1]? = some (.loop (R (if jump.isNone then .ready else .done) jump))/\(Z.putObj (D + 1) (.loop (R (if jump.isNone then .ready else .done) jump))).heap[D]? = some (.deferred (some [])):=by
   intro jump Z hZ
   have rZ:=hZ.same _ _ (by omega) rY rfl
   exact ⟨run_endRound (P:=P) jump rZ,rZ,World.putObj_heap_same (Array.getElem?_eq_some_iff.1 rZ).1,(World.putObj_heap_other (by omega)).trans (hZ.same _ _ (Nat.le_refl _) dY rfl)⟩
  have left:∀ (c:Code) (Z:World),KeepsFrom D Y Z->Ix c (k + 1) Z->∃ v Z',(Instr.endRound (D + 1) (some c)).run P Z = .ok v Z'/\v = .bool false/\(∃ c,Ix c (k + 1) Z'/\Z'.heap[D + 1]? = some (.loop (R .done (some c)))/\Z'.heap[D]? = some (.deferred (some [])))/\KeepsFrom (D + 2) X Z':=by
   intro c Z hZ hx
   obtain ⟨e1,e2,e3,e4⟩:=ends (some c) Z hZ
   exact ⟨_,_,e1,rfl,⟨c,(hIx c).putObj _ hx (by omega) e2 rfl,e3,e4⟩,far _ Z hZ⟩
  intro e a3 Z hp
  cases e with
  | normal =>
   obtain ⟨hZ,kZ,iZ⟩:=hp
   obtain ⟨e1,e2,e3,e4⟩:=ends none Z hZ
   have k0:KeepO S X X1:=KeepO.grown gX (fun b _ e=>by cases e)
   exact ⟨_,_,e1,Or.inl ⟨rfl,⟨hI.putObj _ iZ (by omega) e2 rfl,e3,e4⟩,((k0.trans (KeepO.put _ (far0 _ (by omega)))).trans kZ).trans (KeepO.put _ (far0 _ (by omega))),hD ▸ far _ Z hZ⟩⟩
  | ret=>obtain ⟨v,Z',e1,e2,e3⟩:=left .ret Z hp.1 hp.2;exact ⟨v,Z',e1,Or.inr ⟨by rw [e2],e3.1,hD ▸ e3.2⟩⟩
  | exit id=>obtain ⟨v,Z',e1,e2,e3⟩:=left (.exit id) Z hp.1 hp.2;exact ⟨v,Z',e1,Or.inr ⟨by rw [e2],e3.1,hD ▸ e3.2⟩⟩
  | goto t=>obtain ⟨v,Z',e1,e2,e3⟩:=left (.goto t) Z hp.1 hp.2;exact ⟨v,Z',e1,Or.inr ⟨by rw [e2],e3.1,hD ▸ e3.2⟩⟩
  | panic ch=>exact hp.elim
  | outgrown=>exact hp.elim
 ·rintro e X ⟨⟨v,rfl⟩,⟨⟨iX,rX,dX⟩,hs⟩ | ⟨k,hk,c,iX,rX,dX⟩⟩
  ·exact ⟨none,_,run_endLoop (P:=P) rX (by simp [R]),hdone D _ (Nat.le_refl _) (hI.putObj _ iX (by omega) rX rfl) (hSt.putObj _ hs (by omega) rX rfl) ((World.putObj_heap_other (by omega)).trans dX)⟩
  ·exact ⟨some c,_,run_endLoop (P:=P) rX (by simp [R]),hstop D c k _ (Nat.le_refl _) hk ((hIx c).putObj _ iX (by omega) rX rfl) ((World.putObj_heap_other (by omega)).trans dX)⟩
end
section
open Go.RowKit Go.Shelf
def highI (a b:Int):Int:=if b > a then b else a
def Pt.plus (p q:Pt):Pt:=⟨IntKind.i64.wrap (p.x + q.x),IntKind.i64.wrap (p.y + q.y),IntKind.i64.wrap (p.z + q.z)⟩
def Pt.greater (p q:Pt):Pt:=⟨highI p.x q.x,highI p.y q.y,highI p.z q.z⟩
def Pt.le (p q:Pt):Bool:=decide (p.x <= q.x/\p.y <= q.y/\p.z <= q.z)
structure Bx where
 lo:Pt
 hi:Pt
def Bx.v (b:Bx):Value:=.agg #[.int .i64 b.lo.x,.int .i64 b.lo.y,.int .i64 b.lo.z,.int .i64 b.hi.x,.int .i64 b.hi.y,.int .i64 b.hi.z]
theorem pplus_any (p q:Pt) (w:World) :
  Calls Tryz.prog 32 #[p.v,q.v] w fun e W=>e = .returned (p.plus q).v/\Below w.heap.size w W:=by
 obtain ⟨x,y,z⟩:=p
 obtain ⟨x',y',z'⟩:=q
 unfold Pt.v Pt.plus
 dsimp only at *
 obtain ⟨s1,h1⟩:∃ s,IntKind.i64.wrap (x + x') = s:=⟨_,rfl⟩
 obtain ⟨s2,h2⟩:∃ s,IntKind.i64.wrap (y + y') = s:=⟨_,rfl⟩
 obtain ⟨s3,h3⟩:∃ s,IntKind.i64.wrap (z + z') = s:=⟨_,rfl⟩
 rw [h1,h2,h3]
 go_enter Tryz.func32,Tryz.ntmps32
 go_wp2
 exact bodyPost_ret (v:=.agg #[.int .i64 s1,.int .i64 s2,.int .i64 s3]) (by simp [results,Tryz.results32,go_sem]) rfl ⟨rfl,b_step (b_step (n_after w _) (n_after _ _)) (n_after _ _)⟩
end
section
open Go.RowKit Go.Shelf
def Bx.grown (a:Bx) (n:Int):Bx:=⟨a.lo.plus ⟨IntKind.i64.wrap (-n),IntKind.i64.wrap (-n),IntKind.i64.wrap (-n)⟩,a.hi.plus ⟨n,n,n⟩⟩
end
section
open Go.RowKit Go.Shelf
def Pt.win (p:Pt) (m:Int):Bool:=p.le ⟨m,m,m⟩ && Pt.le ⟨IntKind.i64.wrap (-m),IntKind.i64.wrap (-m),IntKind.i64.wrap (-m)⟩ p
end
section
open Go.RowKit Go.Shelf
attribute [local go_sem] Oper.semAt_some
theorem each_in_pt (o:Option Addr) (n c gf:Nat) (bs cs:Array Value) (w:World):Calls Tryz.prog 34 #[.slice o n c,.func (.func gf) bs cs] w fun e w'=>e = .returned (.func (.func 76) #[] #[.pointer (some ⟨w.heap.size,0,none⟩),.pointer (some ⟨w.heap.size + 1,0,none⟩)])/\w' = (w.alloc (.cells #[.slice o n c] 24)).alloc (.cells #[.func (.func gf) bs cs] 79):=by
 go_enter Tryz.func34,Tryz.ntmps34
 go_wp2
 go_ret
 exact ⟨rfl,rfl⟩
theorem each_tells_pt (n:Nat) (Bp Bf:Nat) (Ls:List Pt) (o:Option Addr) (cap gf:Nat) (bs cs:Array Value) (enc:Nat->Value) (row:Option Nat) (S:Nat->Prop) (St:Nat->World->Prop) (w:World)
  (eg:∀ args w,(callFunc gf args).run Tryz.prog w = .ok (.enter gf args) w)
  (hv:Lies w (.slice o Ls.length cap) Ls) (cp:w.cell? ⟨Bp,0,none⟩ = some (.slice o Ls.length cap)) (cf:w.cell? ⟨Bf,0,none⟩ = some (.func (.func gf) bs cs))
  (hSv:∀ q,o = some q->Ls ≠ []->S q.block/\some q.block ≠ row) (hSf:S Bf/\some Bf ≠ row) (hS:∀ b,S b->b < w.heap.size)
  (hst0:∀ W,Below w.heap.size w W->St 0 W) (hstS:∀ k A B,St k A->KeepO S A B->St k B)
  (hb:∀ k V,k < Ls.length->St k V->Calls Tryz.prog gf (bs.push (pt Ls k).v ++ cs) V fun e V'=>e = .returned (enc k)/\V.grownBy V' row/\St (k + 1) V') :
  TellsN n Tryz.prog 76 #[.pointer (some ⟨Bp,0,none⟩),.pointer (some ⟨Bf,0,none⟩)] (fun k=>#[enc k]) row S St Ls.length w:=by
 intro l J Jx W hB hJ hJx hJr hY h0
 have cp':=c_after hB cp
 have cf':=c_after hB cf
 have hv':=hv.below hB
 obtain ⟨o',cap',ee,hlc,hcm,hcell⟩:=hv'.form
 simp only [Value.slice.injEq,true_and] at ee
 obtain ⟨rfl,rfl⟩:=ee
 have HC:Hid _:=hcell
 have st0:=hst0 W hB
 clear hv hv' hcell cp cf hst0
 refine callsIn_of_wp Tryz.func76 rfl trivial ?_ rfl
 simp only [Tryz.ntmps76,List.size_toArray,List.length_cons,List.length_nil,Nat.reduceAdd,Nat.reduceSub,Array.replicate_succ,Array.replicate_zero,List.push_toArray,List.append_toArray,List.nil_append,List.cons_append]
 gi_wp2
 gi_loopw [8] (fun i wr=>∃ k:Nat,k <= Ls.length/\i = .int .i64 k/\Hid (J k wr)/\Hid (St k wr)/\Hid (KeepO (fun b=>S b/\some b ≠ row) W wr))
  (fun i _=>Ls.length - (intOf i).toNat)
 case atStart=>exact ⟨0,Nat.zero_le _,rfl,h0,st0,KeepO.refl _ _⟩
 case round =>
  obtain ⟨k,hk,rfl,hJk,hSk,hKk⟩:=hrel
  by_cases hlt:k < Ls.length
  ·obtain ⟨g,off,rfl,x0,x1,x2⟩:=HC.out k hlt
   have hSg:=hSv _ rfl (fun e=>by rw [e] at hlt;simp at hlt)
   have y0:=hKk.out.cell (q:=⟨g,off + k * 3,none⟩) hSg x0
   have y1:=hKk.out.cell (q:=⟨g,off + k * 3 + 1,none⟩) hSg x1
   have y2:=hKk.out.cell (q:=⟨g,off + k * 3 + 2,none⟩) hSg x2
   have cf2:=hKk.out.cell (q:=⟨Bf,0,none⟩) hSf cf'
   have HA:Hid _:=KeepO.alloc S wr (.cells #[.int .i64 (pt Ls k).x,.int .i64 (pt Ls k).y,.int .i64 (pt Ls k).z] 23)
   have hJ1:Hid (J k (wr.alloc (.cells #[.int .i64 (pt Ls k).x,.int .i64 (pt Ls k).y,.int .i64 (pt Ls k).z] 23))):=hJ.alloc _ hJk.out
   have hbk:Hid (Calls Tryz.prog gf (bs.push (.agg #[.int .i64 (pt Ls k).x,.int .i64 (pt Ls k).y,.int .i64 (pt Ls k).z]) ++ cs) (wr.alloc (.cells #[.int .i64 (pt Ls k).x,.int .i64 (pt Ls k).y,.int .i64 (pt Ls k).z] 23)) fun e V'=>e = .returned (enc k)/\(wr.alloc (.cells #[.int .i64 (pt Ls k).x,.int .i64 (pt Ls k).y,.int .i64 (pt Ls k).z] 23)).grownBy V' row/\St (k + 1) V'):=hb k _ hlt (hstS k _ _ hSk.out HA.out)
   have cf3:=c_after (n_after wr (.cells #[.int .i64 (pt Ls k).x,.int .i64 (pt Ls k).y,.int .i64 (pt Ls k).z] 23)) cf2
   clear x0 x1 x2
   generalize (pt Ls k).x = px at *
   generalize (pt Ls k).y = py at *
   generalize (pt Ls k).z = pz at *
   gi_wp2
   refine ⟨trivial,fun h=>(by cases h),(callsIn_wide.2 hbk.out).mono ?_⟩
   rintro e V1 ⟨rfl,g1,s1⟩
   have hJ2:=hJr k _ _ hJ1.out g1
   obtain ⟨fn,tmps,assign,body,hy,hR⟩:=hY k V1 hlt hJ2
   have k1:Hid (KeepO (fun b=>S b/\some b ≠ row) W V1):=(hKk.out.trans (HA.out.mono (fun b h=>h.1))).trans (KeepO.grown g1 (fun b h=>h.2))
   clear y0 y1 y2 cf2 cf3 hbk HA hJ1
   gi_wp2
   refine ⟨fun h=>(by cases h),hR.mono ?_⟩
   rintro e W3 (⟨rfl,hJ3,hk3,_⟩ | ⟨rfl,hJx3,_⟩)
   ·gi_wp2
    go_roundw
    case rel=>exact ⟨k + 1,by omega,by simp,hJ3,hstS _ _ _ s1 hk3,k1.out.trans (hk3.mono (fun b h=>h.1))⟩
    case measure=>simp [intOf];omega
   ·gi_wp2
    refine bodyPost_ret (results_none rfl _ _ _) rfl ?_
    exact ⟨⟨_,rfl⟩,.inr ⟨k,hlt,hJx3⟩⟩
  ·obtain rfl:k = Ls.length:=by omega
   gi_wp2
   go_end0
   exact ⟨⟨_,rfl⟩,.inl ⟨hJk.out,hSk.out⟩⟩
end
section
open Go.RowKit Go.Shelf
theorem Cells.lt {W:World} {b:Nat} {u:Value} {vs:List Value} (h:Cells W b (u :: vs)):b < W.heap.size:=World.block_lt_of_cell? _ _ (h 0 u rfl).1
theorem Cells.apart {W:World} {b b':Nat} {vs:List Value} (h:Cells W b vs) (hne:b ≠ b') (o:Nat) (u:Value):Cells (W.setCell ⟨b',o,none⟩ u) b vs:=fun i v e =>
 ⟨by simp [go_sem,(h i v e).1],by simp [go_sem,(h i v e).2]⟩
def coreV (pv av ev:Value) (r:Int):Value:=.agg #[pv,av,ev,.int .i64 r]
theorem Cells.keepO {S:Nat->Prop} {A B:World} {b:Nat} {vs:List Value} (h:Cells A b vs) (hk:KeepO S A B) (hb:S b):Cells B b vs:=fun i v e =>
 ⟨hk.cell (q:=⟨b,i,none⟩) hb (h i v e).1,(hk.frozen (q:=⟨b,i,none⟩) hb (h i v e).1).trans (h i v e).2⟩
theorem Cells.grew {A B:World} {row:Option Nat} {b:Nat} {vs:List Value} (h:Cells A b vs) (hg:A.grownBy B row) (hb:∀ r,row = some r->r ≠ b):Cells B b vs:=fun i v e=>by
 have hlt:=World.block_lt_of_cell? _ _ (h i v e).1
 have hbl:=hg.block b hlt (fun e=>hb b e.symm rfl)
 exact ⟨(World.cell?_of_block (w:=A) hbl).trans (h i v e).1,(World.frozen?_of_block (w:=A) hbl).trans (h i v e).2⟩
end
section
open Go.RowKit Fx
def NRow (w:World) (a:Option Addr) (zs:List Int):Prop:=zs.length = 0 \/ ∃ b off,a = some ⟨b,off,none⟩/\∀ k,k < zs.length->w.cell? ⟨b,off + k,none⟩ = some (.int .i64 (zs.getD k 0))
end
section
open Go.RowKit Fx
structure Leaves (p:Addr) (W W':World):Prop where
 size:W.heap.size <= W'.heap.size
 other:∀ q:Addr,q.block < W.heap.size->q.block ≠ p.block->W'.cell? q = W.cell? q/\W'.frozen? q = W.frozen? q
 below:∀ (B:Nat) (w:World),Below B w W->B <= p.block->B <= W.heap.size->Below B w W'
 kept:W'.os = W.os/\W'.tape = W.tape/\W'.output = W.output/\∀ k,k < W.heap.size->k ≠ p.block->W'.heap[k]? = W.heap[k]?
 beside:p.block < W.heap.size->∀ o,o ≠ p.off->W'.cell? ⟨p.block,o,none⟩ = W.cell? ⟨p.block,o,none⟩/\W'.frozen? ⟨p.block,o,none⟩ = W.frozen? ⟨p.block,o,none⟩
theorem Leaves.refl (p:Addr) (W:World):Leaves p W W:=⟨Nat.le_refl _,fun _ _ _=>⟨rfl,rfl⟩,fun _ _ h _ _=>h,⟨rfl,rfl,rfl,fun _ _ _=>rfl⟩,fun _ _ _=>⟨rfl,rfl⟩⟩
theorem Leaves.step {p:Addr} {W w w':World} (h:Leaves p W w) (k:Below W.heap.size w w'):Leaves p W w':=by
 refine ⟨Nat.le_trans h.size k.size,fun q hq hne=>?_,fun B w0 hb h1 h2=>(h.below B w0 hb h1 h2).trans (k.mono h2),⟨k.os.trans h.kept.1,k.tape.trans h.kept.2.1,k.output.trans h.kept.2.2.1,fun i hi hne=>(k.block i hi).trans (h.kept.2.2.2 i hi hne)⟩,fun hp o ho=>?_⟩
 ·exact ⟨(k.cell hq).trans (h.other q hq hne).1,(k.frozen hq).trans (h.other q hq hne).2⟩
 ·exact ⟨(k.cell (p:=⟨p.block,o,none⟩) hp).trans (h.beside hp o ho).1,(k.frozen (p:=⟨p.block,o,none⟩) hp).trans (h.beside hp o ho).2⟩
theorem Leaves.alloc {p:Addr} {W w:World} (h:Leaves p W w) (o:Obj):Leaves p W (w.alloc o):=h.step ((new_after w o).mono h.size)
theorem Leaves.set {p:Addr} {W w:World} (h:Leaves p W w) {a:Addr} (ha:W.heap.size <= a.block) (v:Value):Leaves p W (w.setCell a v):=h.step ((Below.refl _ _).setCell ha v)
theorem Leaves.after {p q:Addr} {g:Bool} {W w w':World} (h:Leaves p W w) (a:After q g w w') (hq:W.heap.size <= q.block):Leaves p W w':=
 h.step (a.below _ _ (Below.refl _ _) hq h.size)
theorem Leaves.same {p:Addr} {g:Bool} {W w w':World} (h:Leaves p W w) (a:After p g w w'):Leaves p W w':=by
 refine ⟨Nat.le_trans h.size a.size,fun x hx hne=>?_,fun B w0 hb h1 h2=>a.below B w0 (h.below B w0 hb h1 h2) h1 (Nat.le_trans h2 h.size),⟨a.kept.1.trans h.kept.1,a.kept.2.1.trans h.kept.2.1,a.kept.2.2.1.trans h.kept.2.2.1,fun i hi hne=>(a.kept.2.2.2 i (Nat.lt_of_lt_of_le hi h.size) hne).trans (h.kept.2.2.2 i hi hne)⟩,fun hp o ho=>?_⟩
 ·have hlt:x.block < w.heap.size:=Nat.lt_of_lt_of_le hx h.size
  have:=a.other x hlt hne
  exact ⟨this.1.trans (h.other x hx hne).1,this.2.trans (h.other x hx hne).2⟩
 ·have:=a.beside (Nat.lt_of_lt_of_le hp h.size) o ho
  exact ⟨this.1.trans (h.beside hp o ho).1,this.2.trans (h.beside hp o ho).2⟩
theorem Leaves.done {p:Addr} {g:Bool} {W W':World} (h:Leaves p W W') (hc:W'.cell? p = some (.bool g)) (hf:W'.frozen? p = false):After p g W W':=⟨hc,hf,h.size,h.other,h.below,h.kept,h.beside⟩
structure V3 where
 x:Int
 y:Int
 z:Int
structure V4 where
 w:Int
 x:Int
 y:Int
 z:Int
@[reducible] def V3.val (v:V3):Value:=.agg #[.int .i64 v.x,.int .i64 v.y,.int .i64 v.z]
@[reducible] def V4.val (v:V4):Value:=.agg #[.int .i64 v.w,.int .i64 v.x,.int .i64 v.y,.int .i64 v.z]
def V3.zero:V3:=⟨0,0,0⟩
def V4.zero:V4:=⟨0,0,0,0⟩
end
section
open Go.RowKit Fx
structure Shape where
 k:Nat
 v:Value
 n:Nat
@[reducible] def Shape.is (v:Value):Shape:=⟨0,v,0⟩
@[reducible] def Shape.ptr:Shape:=⟨1,undef,0⟩
@[reducible] def Shape.row (n:Nat):Shape:=⟨2,undef,n⟩
structure Made where
 i:Nat
 s:Nat
 cs:List Value
structure Plan where
 W:World
 N:Nat
 p:Addr
 fl:Addr
 g0:Bool
 bad:Bool
 f:Bool
 calls:List (Nat × Bool)
 tl:Nat
 st:Nat
 r:Nat
 res:List Value
 fixed:List (Addr × Value)
 made:List Made
structure Plan.Good (π:Plan):Prop where
 wn:π.W.heap.size <= π.N
 rr:π.res = [] \/ (π.W.heap.size <= π.r/\π.r < π.N/\π.fl.block ≠ π.r/\π.p.block ≠ π.r/\∀ c ∈ π.fixed,c.1.block ≠ π.r)
 fl0:π.fl = π.p \/ π.W.heap.size <= π.fl.block
 fl1:π.fl.block < π.N
 p0:π.fl = π.p \/ π.p.block < π.W.heap.size
 fx:∀ c ∈ π.fixed,c.1.block < π.N/\c.1.block ≠ π.fl.block/\c.1.block ≠ π.p.block
 badOf:π.bad = true->π.g0 = true \/ ∃ c ∈ π.calls,c.2 = true
 callBad:∀ c ∈ π.calls,c.2 = true->π.bad = true
def upd (γ:Nat->Nat) (i b:Nat):Nat->Nat:=fun j=>if j = i then b else γ j
section
variable {P:Program} {Q:Exit->Act->World->Prop} {D:Nat->Option Tmp} {A:Nat->Nat->Prop} {sh:Nat->Shape} {π:Plan} {a₀:Act}
end
end
section
open Go.RowKit Go.Shelf Fx
structure Bd where
 k:Int
 s:V3
 q:V4
 p:V3
 l:V3
 m:Int
 i:V3
def Bd.L (b:Bd) (R:List Value):List Value:=
 .int .i64 b.k :: .int .i64 b.s.x :: .int .i64 b.s.y :: .int .i64 b.s.z :: .int .i64 b.q.w :: .int .i64 b.q.x :: .int .i64 b.q.y :: .int .i64 b.q.z ::
 .int .i64 b.p.x :: .int .i64 b.p.y :: .int .i64 b.p.z :: .int .i64 b.l.x :: .int .i64 b.l.y :: .int .i64 b.l.z ::
 .int .i64 b.m :: .int .i64 b.i.x :: .int .i64 b.i.y :: .int .i64 b.i.z :: R
def CW (W:World) (b:Nat) (vs:List Value):Prop:=∀ i v,vs[i]? = some v->W.cell? ⟨b,i,none⟩ = some v/\W.frozen? ⟨b,i,none⟩ = false
section
variable {V:World} {p:Addr} {f:Bool} {cs:List (Nat × Bool)} {st:Nat} {S:World->World} {L:Nat->Bool} {w w':World} {i:Nat}
end
end
section
open Go.RowKit Fx
theorem Leaves.own {p:Addr} {W w:World} (h:Leaves p W w) (v:Value):Leaves p W (w.setCell p v):=by
 refine ⟨by simpa [World.setCell] using h.size,fun q hq hne=>?_,fun B w' hb h1 h2=>(h.below B w' hb h1 h2).setCell h1 v,⟨h.kept.1,h.kept.2.1,h.kept.2.2.1,fun i hi hne=>(Below.heap_setCell _ _ _ _ hne).trans (h.kept.2.2.2 i hi hne)⟩,fun hp o ho=>⟨(World.cell?_setCell_other _ _ _ _ (fun e=>ho (by cases p;exact ((Addr.mk.inj e).2.1).symm))).trans (h.beside hp o ho).1,by rw [show (w.setCell p v).frozen? ⟨p.block,o,none⟩ = w.frozen? ⟨p.block,o,none⟩ by simp [go_sem]];exact (h.beside hp o ho).2⟩⟩
 exact ⟨(World.cell?_of_block (w:=w) (Below.heap_setCell _ _ _ _ hne)).trans (h.other q hq hne).1,(World.frozen?_of_block (w:=w) (Below.heap_setCell _ _ _ _ hne)).trans (h.other q hq hne).2⟩
end
section
open Go.RowKit Fx
def Step3 (f:Bool) (a b c:Option Int) (x y z:Int) (g:Bool):Prop:=
 x = cond (a.isNone || b.isNone || c.isNone) 0 (a.getD 0)/\y = cond (a.isNone || b.isNone || c.isNone) 0 (b.getD 0)/\z = cond (a.isNone || b.isNone || c.isNone) 0 (c.getD 0)/\g = (f || (a.isNone || b.isNone || c.isNone))
theorem row3 {w:World} {b:Nat} {x y z:Int} (h0:w.cell? ⟨b,0,none⟩ = some (.int .i64 x)) (h1:w.cell? ⟨b,1,none⟩ = some (.int .i64 y)) (h2:w.cell? ⟨b,2,none⟩ = some (.int .i64 z)):NRow w (some ⟨b,0,none⟩) [x,y,z]:=
 Or.inr ⟨b,0,rfl,fun k hk=>by
  match k,hk with
  | 0,_=>exact h0
  | 1,_=>exact h1
  | 2,_=>exact h2⟩
end
section
open Go.RowKit Fx
def rowsBad (q0 q1 q2 q3:Int):Bool:=(((add q0 q0).isNone || (add q1 q1).isNone || (add q2 q2).isNone || (add q3 q3).isNone) || ((sub 0 q0).isNone || (sub 0 q1).isNone || (sub 0 q2).isNone || (sub 0 q3).isNone)) || ([(dot [((add q2 q2).getD 0),((add q3 q3).getD 0)] [q2,q3]).isNone,(sub (4294967296) ((dot [((add q2 q2).getD 0),((add q3 q3).getD 0)] [q2,q3]).getD 0)).isNone,(dot [((add q1 q1).getD 0),((add q0 q0).getD 0)] [q2,((sub 0 q3).getD 0)]).isNone,(dot [((add q1 q1).getD 0),((add q0 q0).getD 0)] [q3,q2]).isNone,(dot [((add q1 q1).getD 0),((add q0 q0).getD 0)] [q2,q3]).isNone,(dot [((add q1 q1).getD 0),((add q3 q3).getD 0)] [q1,q3]).isNone,(sub (4294967296) ((dot [((add q1 q1).getD 0),((add q3 q3).getD 0)] [q1,q3]).getD 0)).isNone,(dot [((add q2 q2).getD 0),((add q0 q0).getD 0)] [q3,((sub 0 q1).getD 0)]).isNone,(dot [((add q1 q1).getD 0),((add q0 q0).getD 0)] [q3,((sub 0 q2).getD 0)]).isNone,(dot [((add q2 q2).getD 0),((add q0 q0).getD 0)] [q3,q1]).isNone,(dot [((add q1 q1).getD 0),((add q2 q2).getD 0)] [q1,q2]).isNone,(sub (4294967296) ((dot [((add q1 q1).getD 0),((add q2 q2).getD 0)] [q1,q2]).getD 0)).isNone]:List Bool).any id
def rowsAt0 (q0 q1 q2 q3:Int):Int:=(sub (4294967296) ((dot [((add q2 q2).getD 0),((add q3 q3).getD 0)] [q2,q3]).getD 0)).getD 0
def rowsAt1 (q0 q1 q2 q3:Int):Int:=(dot [((add q1 q1).getD 0),((add q0 q0).getD 0)] [q2,((sub 0 q3).getD 0)]).getD 0
def rowsAt2 (q0 q1 q2 q3:Int):Int:=(dot [((add q1 q1).getD 0),((add q0 q0).getD 0)] [q3,q2]).getD 0
def rowsAt3 (q0 q1 q2 q3:Int):Int:=(dot [((add q1 q1).getD 0),((add q0 q0).getD 0)] [q2,q3]).getD 0
def rowsAt4 (q0 q1 q2 q3:Int):Int:=(sub (4294967296) ((dot [((add q1 q1).getD 0),((add q3 q3).getD 0)] [q1,q3]).getD 0)).getD 0
def rowsAt5 (q0 q1 q2 q3:Int):Int:=(dot [((add q2 q2).getD 0),((add q0 q0).getD 0)] [q3,((sub 0 q1).getD 0)]).getD 0
def rowsAt6 (q0 q1 q2 q3:Int):Int:=(dot [((add q1 q1).getD 0),((add q0 q0).getD 0)] [q3,((sub 0 q2).getD 0)]).getD 0
def rowsAt7 (q0 q1 q2 q3:Int):Int:=(dot [((add q2 q2).getD 0),((add q0 q0).getD 0)] [q3,q1]).getD 0
def rowsAt8 (q0 q1 q2 q3:Int):Int:=(sub (4294967296) ((dot [((add q1 q1).getD 0),((add q2 q2).getD 0)] [q1,q2]).getD 0)).getD 0
end
section
open Go.RowKit Go.Shelf
structure M9 where
 a0:Int
 a1:Int
 a2:Int
 a3:Int
 a4:Int
 a5:Int
 a6:Int
 a7:Int
 a8:Int
def M9.v (m:M9):Value:=.agg #[.int .i64 m.a0,.int .i64 m.a1,.int .i64 m.a2,.int .i64 m.a3,.int .i64 m.a4,.int .i64 m.a5,.int .i64 m.a6,.int .i64 m.a7,.int .i64 m.a8]
def opt3 (a b c:Option Int):Option Pt:=match a,b,c with
 | some x,some y,some z=>some ⟨x,y,z⟩
 | _,_,_=>none
def M9.turn (m:M9) (x:Pt):Option Pt:=opt3 (Fx.dot [m.a0,m.a1,m.a2] [x.x,x.y,x.z]) (Fx.dot [m.a3,m.a4,m.a5] [x.x,x.y,x.z]) (Fx.dot [m.a6,m.a7,m.a8] [x.x,x.y,x.z])
def Pt.addO (x y:Pt):Option Pt:=opt3 (Fx.add x.x y.x) (Fx.add x.y y.y) (Fx.add x.z y.z)
def Pt.times (p:Pt) (n:Int):Pt:=⟨IntKind.i64.wrap (p.x * n),IntKind.i64.wrap (p.y * n),IntKind.i64.wrap (p.z * n)⟩
theorem step3_pt {f g:Bool} {a b c:Option Int} {x y z:Int} (h:Step3 f a b c x y z g):(⟨x,y,z⟩:Pt) = (opt3 a b c).getD Pt.O/\g = (f || (opt3 a b c).isNone):=by
 obtain ⟨h1,h2,h3,h4⟩:=h
 subst h1 h2 h3 h4
 cases a <;> cases b <;> cases c <;> simp [opt3,Pt.O]
theorem Cells.after {W W':World} {b:Nat} {u:Value} {vs:List Value} {g:Bool} (h:Cells W b (u :: vs)) (A:After ⟨b,0,none⟩ g W W'):Cells W' b (.bool g :: vs):=by
 intro i v e
 have hb:b < W.heap.size:=World.block_lt_of_cell? _ _ (h 0 u rfl).1
 cases i with
 | zero=>simp at e;subst e;exact ⟨A.cell,A.frozen⟩
 | succ i =>
  obtain ⟨h1,h2⟩:=h (i + 1) v (by simpa using e)
  obtain ⟨a1,a2⟩:=A.beside hb (i + 1) (by simp)
  exact ⟨a1.trans h1,a2.trans h2⟩
theorem Cells.beside {W W':World} {b b':Nat} {vs:List Value} {g:Bool} (h:Cells W b vs) (A:After ⟨b',0,none⟩ g W W') (hne:b ≠ b'):Cells W' b vs:=fun i v e =>
 ⟨A.cellOf (h i v e).1 hne,A.frozenOf (h i v e).1 (h i v e).2 hne⟩
theorem Box3.after {W W':World} {b b':Nat} {q:Pt} {g:Bool} (h:Box3 W b q) (A:After ⟨b',0,none⟩ g W W') (hne:b ≠ b'):Box3 W' b q:=
 ⟨A.cellOf h.c0 hne,A.cellOf h.c1 hne,A.cellOf h.c2 hne,A.frozenOf h.c0 h.f0 hne,A.frozenOf h.c1 h.f1 hne,A.frozenOf h.c2 h.f2 hne⟩
theorem RV.Pend.after {W0:World} {T i j:Nat} {fin:Array Value} {γ:Nat->Value} {L:Nat->Bool} {w w':World} {b:Nat} {g:Bool} (h:RV.Pend W0 T i j fin γ L w) (A:After ⟨b,0,none⟩ g w w') (hb:b < W0.heap.size):RV.Pend W0 T i j fin γ L w':=by
 intro hl
 obtain ⟨c,cs,h1,h2,h3,h4,h5⟩:=h hl
 exact ⟨c,cs,h1,h2,(A.kept.2.2.2 c (Array.getElem?_eq_some_iff.1 h3).1 (by show c ≠ b;omega)).trans h3,h4,h5⟩
theorem arr3' {cs:Array Value} (h:cs.size = 3):∃ u0 u1 u2,cs = #[u0,u1,u2]:=by
 obtain ⟨l⟩:=cs
 match l,h with
 | [a,b,c],_=>exact ⟨a,b,c,rfl⟩
def M9.at1 (m:M9) (p:Pt):Pt:=(m.turn (p.times 1048576)).getD Pt.O
def M9.at2 (m:M9) (t p:Pt):Pt:=((m.at1 p).addO t).getD Pt.O
def Pt.grain (p:Pt):Pt:=⟨p.x / 1048576,p.y / 1048576,p.z / 1048576⟩
def M9.ptV (m:M9) (t p:Pt):Pt:=(m.at2 t p).grain
def M9.ptB (m:M9) (t p:Pt):Bool:=(m.turn (p.times 1048576)).isNone || ((m.at1 p).addO t).isNone
structure Q4 where
 w:Int
 x:Int
 y:Int
 z:Int
def rowsB (q:Q4):Bool:=rowsBad q.w q.x q.y q.z
def rowsM (q:Q4):M9:=⟨cond (rowsB q) 0 (rowsAt0 q.w q.x q.y q.z),cond (rowsB q) 0 (rowsAt1 q.w q.x q.y q.z),cond (rowsB q) 0 (rowsAt2 q.w q.x q.y q.z),cond (rowsB q) 0 (rowsAt3 q.w q.x q.y q.z),cond (rowsB q) 0 (rowsAt4 q.w q.x q.y q.z),cond (rowsB q) 0 (rowsAt5 q.w q.x q.y q.z),cond (rowsB q) 0 (rowsAt6 q.w q.x q.y q.z),cond (rowsB q) 0 (rowsAt7 q.w q.x q.y q.z),cond (rowsB q) 0 (rowsAt8 q.w q.x q.y q.z)⟩
def poseV (t:Pt) (q:Q4):Value:=.agg #[.int .i64 t.x,.int .i64 t.y,.int .i64 t.z,.int .i64 q.w,.int .i64 q.x,.int .i64 q.y,.int .i64 q.z]
end
section
open Go.RowKit Go.Shelf
attribute [local go_sem] Oper.semAt_some
theorem row_own {A B:World} {base e size n k:Nat} {u:Value} {xs:List Value} {row:Option Nat} (h:A.ownsRow base e size u k xs) (hg:A.grownBy B row) (hr:∀ r,row = some r->n <= r/\∃ o:Obj,A.heap[r]? = some o/\o.isCells = false):B.ownsRow base e size u k xs:=by
 refine h.kept hg ?_
 rcases h.2 with ⟨rfl,_⟩ | ⟨g,cap,cur,rfl,_,hgb,_⟩
 ·exact .inl rfl
 ·refine .inr (fun e=>?_)
  obtain ⟨_,o,ho,hc⟩:=hr g (by rw [<- e];rfl)
  rw [hgb] at ho;cases ho;cases hc
theorem row_turn {A B:World} {base e size k:Nat} {u:Value} {xs:List Value} {row:Option Nat} (h:A.ownsRow base e size u k xs) (hg:A.grownBy B row) (hr:∀ r,row = some r->r < base):B.ownsRow base e size u k xs:=by
 refine h.kept hg ?_
 cases e1:u.ownBlock with
 | none=>exact .inl rfl
 | some b=>exact .inr (fun e=>by have:=(h.lt b e1).1;have:=hr b (by rw [<- e]);omega)
theorem box_own {A B:World} {b:Nat} {t:TypeId} {v:Value} {n:Nat} {row:Option Nat} (h:Boxed A b t v) (hg:A.grownBy B row) (hr:∀ r,row = some r->n <= r/\∃ o:Obj,A.heap[r]? = some o/\o.isCells = false):Boxed B b t v:=
 h.kept hg (fun e=>by obtain ⟨_,o,ho,hc⟩:=hr b e.symm;rw [show A.heap[b]? = _ from h] at ho;cases ho;cases hc)
theorem grown_le {w A B:World} {row r2:Option Nat} (h:w.grownBy A row) (hg:A.grownBy B r2) (hr:∀ r,r2 = some r->w.heap.size <= r \/ row = some r):w.grownBy B row:=
 ⟨hg.os.trans h.os,hg.tape.trans h.tape,hg.output.trans h.output,Nat.le_trans h.size hg.size,fun k hk hn=>(hg.block k (Nat.lt_of_lt_of_le hk h.size) (fun e=>by
  rcases hr k e.symm with h9 | h9
  ·omega
  ·exact hn h9.symm)).trans (h.block k hk hn)⟩
structure OutP (w V:World) (n:Nat) (row:Option Nat) (S:Nat) (u:Value) (M:List Pt):Prop where
 box:Boxed V S 24 u
 own:V.ownsRow n 23 3 u M.length (fl3 M)
 grown:w.grownBy V row
 le:w.heap.size <= S
 ln:w.heap.size <= n
 sz:n <= V.heap.size
theorem OutP.kept {w A B:World} {n:Nat} {row r2:Option Nat} {S n2:Nat} {u:Value} {M:List Pt} (h:OutP w A n row S u M) (hn:w.heap.size <= n2) (hg:A.grownBy B r2) (hr:∀ r,r2 = some r->n2 <= r/\∃ o:Obj,A.heap[r]? = some o/\o.isCells = false):OutP w B n row S u M:=
 ⟨box_own h.box hg hr,row_own h.own hg hr,grown_le h.grown hg (fun r e=>.inl (by have:=(hr r e).1;omega)),h.le,h.ln,Nat.le_trans h.sz hg.size⟩
theorem OutP.turn {w A B:World} {n:Nat} {row:Option Nat} {S:Nat} {u:Value} {M:List Pt} (h:OutP w A n row S u M) (hg:A.grownBy B row) (hr:∀ r,row = some r->r < w.heap.size):OutP w B n row S u M:=
 ⟨h.box.kept hg (fun e=>by have:=hr S e.symm;have:=h.le;omega),row_turn h.own hg (fun r e=>by have:=hr r e;have:=h.ln;omega),grown_le h.grown hg (fun r e=>.inr e),h.le,h.ln,Nat.le_trans h.sz hg.size⟩
theorem OutP.alloc {w A:World} {n:Nat} {row:Option Nat} {S:Nat} {u:Value} {M:List Pt} (h:OutP w A n row S u M) (o:Obj):OutP w (A.alloc o) n row S u M:=h.kept (n2:=w.heap.size) (Nat.le_refl _) (World.grownBy_alloc A o none) (fun r e=>by cases e)
theorem OutP.app {w A B:World} {n:Nat} {row:Option Nat} {S:Nat} {u u':Value} {M:List Pt} {p:Pt} (h:OutP w A n row S u M) (hr:B.ownsRow n 23 3 u' (M.length + 1) (fl3 M ++ [.int .i64 p.x,.int .i64 p.y,.int .i64 p.z])) (hg:A.grownBy B u.ownBlock) :
  OutP w (B.setCell ⟨S,0,none⟩ u') n row S u' (M ++ [p])/\Boxed B S 24 u:=by
 have hbx:Boxed B S 24 u:=h.box.kept hg (h.box.not_row (by decide) h.own)
 have gs:B.grownBy (B.setCell ⟨S,0,none⟩ u') (some S):=⟨rfl,rfl,rfl,by simp [World.setCell],fun k _ hk=>Below.heap_setCell _ _ _ k (fun e=>hk (by rw [e]))⟩
 refine ⟨⟨hbx.set _,?_,?_,h.le,h.ln,?_⟩,hbx⟩
 ·have:fl3 (M ++ [p]) = fl3 M ++ [.int .i64 p.x,.int .i64 p.y,.int .i64 p.z]:=by rw [fl3_append];rfl
  rw [this,List.length_append]
  exact hr.kept gs (Or.inr (fun e=>hbx.not_row (by decide) hr e.symm))
 ·exact grown_le (grown_le h.grown hg (fun r e=>.inl (by have:=(h.own.lt r e).1;have:=h.ln;omega))) gs (fun r e=>.inl (by cases e;exact h.le))
 ·have h1:=hg.size;have h2:=h.sz;have h3:=gs.size;omega
theorem OutP.keepsFrom {w A B:World} {n:Nat} {row:Option Nat} {S:Nat} {u u':Value} {M:List Pt} (h:OutP w A n row S u M) (hg:A.grownBy B u.ownBlock) (n2:Nat):KeepsFrom n2 A (B.setCell ⟨S,0,none⟩ u'):=by
 refine KeepsFrom.trans ((KeepsOthers.of_grownBy hg (fun j o e ho=>?_)).from _) ((KeepsOthers.setCell _ _ _).from _)
 rcases h.own.2 with ⟨rfl,_⟩ | ⟨g,cap,cur,rfl,_,hgb,_⟩
 ·cases e
 ·have:g = j:=by simpa [Value.ownBlock] using e
  subst this
  rw [hgb] at ho;cases ho;rfl
theorem OutP.keep {w A B:World} {n:Nat} {row:Option Nat} {S:Nat} {u u':Value} {M:List Pt} (h:OutP w A n row S u M) (hg:A.grownBy B u.ownBlock) {T:Nat->Prop} (hT:∀ b,T b->b ≠ S/\b < n):KeepO T A (B.setCell ⟨S,0,none⟩ u'):=
 (KeepO.grown hg (fun b hb e=>by have:=(h.own.lt b e.symm).1;have:=(hT b hb).2;omega)).trans ⟨by simp [World.setCell],fun b hb _=>Below.heap_setCell _ _ _ b (hT b hb).1⟩
def firsts (enc:Nat->Pt) (k:Nat):List Pt:=(List.range k).map enc
theorem firsts_succ (enc:Nat->Pt) (k:Nat):firsts enc (k + 1) = firsts enc k ++ [enc k]:=by simp [firsts,List.range_succ]
theorem firsts_length (enc:Nat->Pt) (k:Nat):(firsts enc k).length = k:=by simp [firsts]
theorem firsts_map (Ls:List Pt) (f:Pt->Pt):firsts (fun k=>f (pt Ls k)) Ls.length = Ls.map f:=by
 unfold firsts
 apply List.ext_getElem
 ·simp
 ·intro i h1 h2
  simp at h1 h2
  simp [pt,h2]
theorem gathered_any (gf:Nat) (lb:Array Value) (enc:Nat->Pt) (row:Option Nat) (S:Nat->Prop) (St:Nat->World->Prop) (N:Nat) (w:World) (eg:∀ args w,(callFunc gf args).run Tryz.prog w = .ok (.enter gf args) w)
  (hT:∀ W,Below w.heap.size w W->TellsN 8 Tryz.prog gf lb (fun k=>#[(enc k).v]) row S St N W) (hS:∀ b,S b->b < w.heap.size) (hrow:∀ r,row = some r->r < w.heap.size)
  (hSt:∀ k A B r2,St k A->A.grownBy B r2->(∀ r,r2 = some r->w.heap.size <= r)->St k B) (hN:N < 1099511627776) :
  Calls Tryz.prog 33 #[.func (.func gf) #[] lb] w fun e W=>∃ u,e = .returned u/\W.ownsRow w.heap.size 23 3 u N (fl3 (firsts enc N))/\w.grownBy W row/\St N W:=by
 refine (callsIn_wide (n:=9)).1 ?_
 have h1:1 <= 9:=by omega
 obtain ⟨i0,hii,hiz,hisz,hib⟩:=info_parts point_info
 have HI:Hid _:=And.intro hii (And.intro hiz (And.intro hisz hib))
 clear hii hiz hisz hib
 refine callsIn_of_wp_marks Tryz.func33 rfl trivial ?_ rfl
 simp only [Tryz.ntmps33,List.size_toArray,List.length_cons,List.length_nil,Nat.reduceAdd,Nat.reduceSub,Array.replicate_succ,Array.replicate_zero,List.push_toArray,List.append_toArray,List.nil_append,List.cons_append]
 gi_wp2
 obtain ⟨S0,hS0⟩:∃ n,n = w.heap.size:=⟨_,rfl⟩
 obtain ⟨W0,hW0⟩:∃ W0,W0 = w.alloc (.cells #[.slice none 0 0] 24):=⟨_,rfl⟩
 have hsz:W0.heap.size = S0 + 1:=by rw [hW0,hS0];simp
 have hB0:Hid (Below w.heap.size w W0):=by show Below _ _ _;rw [hW0];exact n_after _ _
 have bx0:Boxed W0 S0 24 (.slice none 0 0):=by rw [hW0,hS0];exact Boxed.new w _ _
 rw [<- hW0,<- hS0]
 have hSl:w.heap.size = S0:=hS0.symm
 clear hW0 hS0
 refine' range_n h1 (gf:=gf) (lb:=lb) rfl eg (S:=S) (St:=St) (hT W0 hB0.out) (fun b h=>by have:=hS b h;omega) (fun r e=>by have:=hrow r e;omega) (fun k A B r2 hs hg hr=>hSt k A B r2 hs hg (fun r e=>by have:=(hr r e).1;omega)) (fun _=>rfl)
  (fun k V=>∃ u,OutP w V W0.heap.size row S0 u (firsts enc k)) (fun _ _ _=>False)
  (fun k A B r2 hs hg hr=>hs.elim fun u h=>⟨u,h.kept (by omega) hg hr⟩) (fun _ _ _ _ _ hs _ _=>hs)
  (fun k A B hs hg=>hs.elim fun u h=>⟨u,h.turn hg hrow⟩) ⟨_,bx0,World.ownsRow_nil _ _ _ _,below_grown hB0.out row,by omega,by omega,Nat.le_refl _⟩ _ (fun k=>some (.cells #[.int .i64 (enc k).x,.int .i64 (enc k).y,.int .i64 (enc k).z] 23)) ?assign ?body ?done ?stop
 case assign =>
  intro l k W nb K hk hnb hK
  unfold Pt.v
  gi_wp2
  rw [<- hnb]
  exact hK
 case body =>
  rintro l k V nb hk ⟨u,hO⟩ hnb hob
  have hob:=hob _ rfl
  have hlp:(firsts enc k).length < 1099511627776:=by rw [firsts_length];omega
  have b0:V.cell? ⟨nb,0,none⟩ = some (.int .i64 (enc k).x):=by simp [World.cell?,hob]
  have b1:V.cell? ⟨nb,1,none⟩ = some (.int .i64 (enc k).y):=by simp [World.cell?,hob]
  have b2:V.cell? ⟨nb,2,none⟩ = some (.int .i64 (enc k).z):=by simp [World.cell?,hob]
  have hc:=hO.box.cell
  have hSV:S0 < V.heap.size:=hO.box.lt
  have hwV:W0.heap.size <= V.heap.size:=hO.sz
  obtain ⟨oo,cc,hu⟩:=rowp_form hO.own
  subst hu
  have HPA:Hid (firsts enc (k + 1) = firsts enc k ++ [⟨(enc k).x,(enc k).y,(enc k).z⟩]):=firsts_succ enc k
  have HO:Hid _:=hO
  clear hO hob
  generalize (enc k).x = px at *
  generalize (enc k).y = py at *
  generalize (enc k).z = pz at *
  gi_wp2_with (gi_at_builtin;refine wpListIn_append_own _ rfl _ _ 24 rfl W0.heap.size 23 i0 _ 3 24 Tryz.underlying24 HI.out.1 HI.out.2.1 HI.out.2.2.1 HI.out.2.2.2 rfl (by decide) _ _ _ rfl (HO.out.alloc (.cells #[.int .i64 px,.int .i64 py,.int .i64 pz] 23)).own ⟨V.heap.size,0,none⟩ 1 1 [.int .i64 px,.int .i64 py,.int .i64 pz] rfl rfl (news_at (heap_alloc_new V _)) (by intro u hu;simp at hu;rcases hu with rfl | rfl | rfl <;> rfl) (by unfold maxLen;omega) (by omega) (by simp;omega) ?_;intro u' V2 r8 g8 _;obtain ⟨gg8,kk8,rfl⟩:=ownsRow_succ r8;obtain ⟨hO2,hbx2⟩:=(HO.out.alloc (.cells #[.int .i64 px,.int .i64 py,.int .i64 pz] 23)).app (p:=⟨px,py,pz⟩) r8 g8;have q1:=hbx2.cell;have q2:=hbx2.frozen)
  rw [<- HPA.out] at hO2
  exact ⟨((KeepsOthers.alloc V _).from _).trans ((HO.out.alloc _).keepsFrom g8 _),(KeepO.alloc _ V _).trans ((HO.out.alloc _).keep g8 (fun b hb=>⟨by have:=hS b hb;omega,by have:=hS b hb;omega⟩)),_,hO2⟩
 case done =>
  rintro D V hD ⟨u,hO⟩ hs hK
  have hc:=hO.box.cell
  gi_wp2
  refine ⟨by simp,.inl ⟨_,_,rfl,run_takeDeferred hK,?_⟩⟩
  have hO2:=hO.kept (n2:=w.heap.size) (Nat.le_refl _) (grownBy_putObj' V D (.deferred none)) (fun r e=>by cases e;exact ⟨by omega,_,hK,rfl⟩)
  have hr2:=own_le hO2.own hO2.ln
  rw [firsts_length] at hr2
  exact ⟨_,results_tmp rfl _ _ _,u,rfl,hr2,hO2.grown,hSt N V _ _ hs (grownBy_putObj' V D (.deferred none)) (fun r e=>by cases e;omega)⟩
 case stop =>
  rintro D c k V _ _ h _
  exact h.elim
end
section
open Go.RowKit Go.Shelf
theorem win_in (p:Pt) (m:Int) (h1:0 <= m) (h2:m <= 9223372036854775807):p.win m = p.inB m:=by
 have e:IntKind.i64.wrap (-m) = -m:=by rw [IntKind.wrap_i64];omega
 unfold Pt.win Pt.le
 rw [e,Bool.eq_iff_iff,Pt.inB_iff]
 simp only [Bool.and_eq_true,decide_eq_true_eq]
 omega
def longF:Nat->Pt->Pt
 | 0,p=>p
 | n + 1,p=>if p.inB 524288 then longF n (p.plus p) else p
def Pt.long (p:Pt):Pt:=if p = Pt.O then p else longF 20 p
def Pt.big (p:Pt) (n:Nat):Prop:=2 ^ n <= p.x.natAbs \/ 2 ^ n <= p.y.natAbs \/ 2 ^ n <= p.z.natAbs
theorem big_lt {q:Pt} {g:Nat} (hq:q.inB 524288 = true) (hb:q.big (20 - g)):1 <= g:=by
 rw [Pt.inB_iff] at hq
 rcases Nat.eq_zero_or_pos g with rfl | h
 ·unfold Pt.big at hb
  simp only [Nat.sub_zero,Nat.reducePow] at hb
  omega
 ·exact h
theorem long_step {q:Pt} {g:Nat} (hq:q.inB 524288 = true) (hb:q.big (20 - (g + 1))) (hg:g + 1 <= 20):longF (g + 1) q = longF g (q.plus q)/\(q.plus q).big (20 - g)/\q.plus q = ⟨2 * q.x,2 * q.y,2 * q.z⟩:=by
 have hI:=(Pt.inB_iff _ _).1 hq
 have e:q.plus q = ⟨2 * q.x,2 * q.y,2 * q.z⟩:=by
  unfold Pt.plus
  congr 1
  ·rw [IntKind.wrap_i64];omega
  ·rw [IntKind.wrap_i64];omega
  ·rw [IntKind.wrap_i64];omega
 refine ⟨by simp [longF,hq],?_,e⟩
 rw [e]
 unfold Pt.big at *
 have:20 - g = (20 - (g + 1)) + 1:=by omega
 rw [this,Nat.pow_succ]
 dsimp only
 omega
theorem big_zero {p:Pt} (h:p ≠ Pt.O):p.big 0:=by
 unfold Pt.big
 apply Classical.byContradiction
 intro hn
 apply h
 obtain ⟨x,y,z⟩:=p
 simp only [Nat.pow_zero] at hn
 have h1:x = 0:=by omega
 have h2:y = 0:=by omega
 have h3:z = 0:=by omega
 rw [h1,h2,h3];rfl
def M9.dirT (m:M9) (p:Pt):Pt:=(m.turn (p.long.times 4096)).getD Pt.O
def Pt.quo (p:Pt) (n:Int):Pt:=⟨wrap64 (p.x.tdiv n),wrap64 (p.y.tdiv n),wrap64 (p.z.tdiv n)⟩
def M9.dirV (m:M9) (p:Pt):Pt:=((m.dirT p).quo 4096).short
def M9.dirB (m:M9) (p:Pt):Bool:=(m.turn (p.long.times 4096)).isNone
def M9.dirs (m:M9) (A:List Pt):List Pt:=(A.map m.dirV).filter (fun p=>decide (p ≠ Pt.O))
def dirsK (enc:Nat->Pt) (k:Nat):List Pt:=(firsts enc k).filter (fun p=>decide (p ≠ Pt.O))
theorem dirsK_yes (enc:Nat->Pt) (k:Nat) (h:enc k ≠ Pt.O):dirsK enc (k + 1) = dirsK enc k ++ [enc k]:=by unfold dirsK;rw [firsts_succ,List.filter_append];simp [h]
theorem dirsK_no (enc:Nat->Pt) (k:Nat) (h:enc k = Pt.O):dirsK enc (k + 1) = dirsK enc k:=by unfold dirsK;rw [firsts_succ,List.filter_append];simp [h]
theorem dirsK_length (enc:Nat->Pt) (k:Nat):(dirsK enc k).length <= k:=by have:=List.length_filter_le (fun p=>decide (p ≠ Pt.O)) (firsts enc k);rw [firsts_length] at this;exact this
def anyK (f:Nat->Bool):Nat->Bool
 | 0=>false
 | k + 1=>anyK f k || f k
theorem anyK_any (Ls:List Pt) (f:Pt->Bool):anyK (fun k=>f (pt Ls k)) Ls.length = Ls.any f:=by
 have key:∀ k,k <= Ls.length->anyK (fun k=>f (pt Ls k)) k = (Ls.take k).any f:=by
  intro k
  induction k with
  | zero=>intro _;simp [anyK]
  | succ k ih =>
   intro hk
   rw [List.take_succ_eq_append_getElem (by omega),List.any_append,<- ih (by omega)]
   simp [anyK,pt,List.getElem?_eq_getElem (show k < Ls.length by omega)]
 rw [key _ (Nat.le_refl _),List.take_length]
theorem after_grown {W W':World} {b:Nat} {g:Bool} (A:After ⟨b,0,none⟩ g W W'):W.grownBy W' (some b):=⟨A.kept.1,A.kept.2.1,A.kept.2.2.1,A.size,fun k hk hn=>A.kept.2.2.2 k hk (fun e=>hn (by rw [e]))⟩
end
section
open Go.RowKit Go.Shelf
attribute [local go_sem] Oper.semAt_some
def Bx.l (b:Bx):List Value:=[.int .i64 b.lo.x,.int .i64 b.lo.y,.int .i64 b.lo.z,.int .i64 b.hi.x,.int .i64 b.hi.y,.int .i64 b.hi.z]
end
section
open Go.RowKit Go.Shelf
theorem Lies.grown {A B:World} {v:Value} {Ls:List Pt} {fb:Nat} (h:Lies A v Ls) (hg:A.grownBy B (some fb)) (hne:∀ q n c,v = .slice (some q) n c->Ls ≠ []->q.block ≠ fb):Lies B v Ls:=by
 obtain ⟨o,cap,e,h1,h2,h3⟩:=h.form
 refine ⟨o,cap,e,h1,h2,fun i hi=>?_⟩
 obtain ⟨g,off,e',a,b,c⟩:=h3 i hi
 have hf:g ≠ fb:=hne ⟨g,off,none⟩ _ _ (by rw [e,e']) (fun e0=>by rw [e0] at hi;simp at hi)
 have hbl:B.heap[g]? = A.heap[g]?:=hg.block g (World.block_lt_of_cell? _ _ a) (fun e=>hf (by simpa using e))
 exact ⟨g,off,e',(World.cell?_of_block (w:=A) hbl).trans a,(World.cell?_of_block (w:=A) hbl).trans b,(World.cell?_of_block (w:=A) hbl).trans c⟩
theorem Lies.lt {A:World} {Ls:List Pt} {q:Addr} {n c:Nat} (h:Lies A (.slice (some q) n c) Ls) (h0:Ls ≠ []):q.block < A.heap.size:=by
 obtain ⟨o,cap,e,h1,h2,h3⟩:=h.form
 obtain ⟨g,off,e',a,_⟩:=h3 0 (List.length_pos_iff.2 h0)
 simp only [Value.slice.injEq] at e
 rw [<- e.1] at e'
 cases e'
 exact World.block_lt_of_cell? _ _ a
theorem apart_new {w w':World} {u u':Value} {n b b':Nat} {xs ys:List Value} {k:Nat} (h:w.ownsRow b 23 3 u n xs) (h':w'.ownsRow w.heap.size 23 3 u' k ys):∀ j,u.ownBlock = some j->u'.ownBlock ≠ some j:=fun j e e'=>by
 have:=(h.lt j e).2;have:=(h'.lt j e').1;omega
end
section
open Go.RowKit Go.Shelf
def placeableP (P A E:List Pt):Bool:=decide (0 < P.length) && (P.all (fun p=>p.win 1048576) && (A.all (fun p=>p.win 1048576) && E.all (fun p=>p.win 1048576)))
section
variable {V:World} {cb fb:Nat} {pv av ev:Value} {r:Int} {f b1 b2 b3:Bool} {m:M9} {t:Pt} {P A E:List Pt} {g4 g5 g9 g13 g16 g17:Value} {l4 l5 l9 l13 l16 l17 l18:Bool} {w w':World}
end
theorem arr4' {cs:Array Value} (h:cs.size = 4):∃ u0 u1 u2 u3,cs = #[u0,u1,u2,u3]:=by
 obtain ⟨l⟩:=cs
 match l,h with
 | [a,b,c,d],_=>exact ⟨a,b,c,d,rfl⟩
end
section
open Go.RowKit Go.Shelf
def badP (t:Pt) (q:Q4) (P A E:List Pt):Bool:=rowsB q || P.any ((rowsM q).ptB t) || A.any (rowsM q).dirB || E.any (rowsM q).dirB
def nearP (P:List Pt):Bool:=P.all fun p=>p.win 8388608
def placeOk (t:Pt) (q:Q4) (P A E:List Pt):Bool:=placeableP P A E && (!(badP t q P A E) && nearP (P.map ((rowsM q).ptV t)))
end
section
open Go.RowKit Fx
theorem neg_is (y:Int):((sub 0 y).isNone = true/\great y = true/\great (-y) = true) \/ ((sub 0 y) = some (-y)/\great y = false/\great (-y) = false):=by
 cases h:great y
 ·have h':=(not_great y).1 h
  have g:great (-y) = false:=(not_great _).2 (by omega)
  refine Or.inr ⟨?_,rfl,g⟩
  have z:great 0 = false:=by decide
  have e:(0:Int) - y = -y:=by omega
  simp [sub,h,z,Fx.told,e,g]
 ·have h':=(great_iff y).1 h
  refine Or.inl ⟨?_,rfl,(great_iff _).2 (by omega)⟩
  simp [sub,h]
end
end Go.Proofs.YtohbjabihdgjhaaGreat
