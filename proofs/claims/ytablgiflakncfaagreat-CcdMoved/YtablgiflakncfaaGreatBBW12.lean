/- Drawn regions that make one box and fill it, whatever the order: beside calls that touch one flag (NG), or none (NB). -/
import Derived.Test.YtablgiflakncfaaGreatBBW0
import Derived.Test.YtablgiflakncfaaGreatBBW11
import Derived.Test.YtablgiflakncfaaGreatBBW8
import Derived.RangeFuncNested
import Derived.RangeFuncBound
import Derived.RangeFuncCalls
import Derived.RangeFuncLeaves
import Derived.RangeFuncBox
import Derived.Shelf.Abstract
import Derived.WalkKit
import Derived.OwnWalkIn
import Derived.TacticsInMore
import Derived.LoopNIn
import Derived.LoopIn
import Derived.LoopTactic
import Derived.ProofKit
import Derived.Handy
import Derived.Test.YtablgiflakncfaaGreatProg
import Derived.Test.YtablgiflakncfaaGreatBBW5
set_option maxHeartbeats 8000000
set_option maxRecDepth 100000
set_option linter.unusedVariables false
namespace Go.Proofs.YtablgiflakncfaaGreat
section
open Go.RowKit Go.Shelf
theorem exec_store_all {P:Program} {a:Act} {o:Oper} {w:World} (ty:TypeId) (x y:Operand) (ho:o.op = .store ty x y) (b off:Nat) (cells:Array Value) (hx:a.eval x = .pointer (some ⟨b,off,none⟩)) (hy:a.eval y = .agg cells)
  (ht:w.there b off cells.size) (hi:(P.info? ty).map (·.size) = some cells.size) (h1:cells.all (·.oneCell') = true):(execOp a.eval o).run P w = .ok .skip (w.setCells b off cells.toList):=by
 unfold execOp
 simp only [ho,hx,hy,Instr.storeAt,Instr.sureAddr,Sem.run_bind,Sem.run_pure,Result.andThen_ok,run_storeVar_mid w b off ty cells ht hi h1]
theorem heap_sets {b T:Nat}:∀ (vs pre old:List Value) (w:World),old.length = vs.length->w.heap[b]? = some (.cells (pre ++ old).toArray T (0,0))->(w.setCells b pre.length vs).heap[b]? = some (.cells (pre ++ vs).toArray T (0,0))
 | [],pre,old,w,hl,h=>by
  have:old = []:=List.eq_nil_of_length_eq_zero hl
  subst this
  exact h
 | v :: r,pre,[],w,hl,h=>by simp at hl
 | v :: r,pre,o :: old,w,hl,h=>by
  have h2:=Go.heap_setCell_same w b pre.length _ _ v h
  have e:(pre ++ o :: old).toArray.setIfInBounds pre.length v = ((pre ++ [v]) ++ old).toArray:=by
   rw [List.setIfInBounds_toArray,List.set_append_right _ _ (Nat.le_refl _)]
   simp
  rw [e] at h2
  have h3:=heap_sets r (pre ++ [v]) old _ (by simpa using hl) h2
  rw [List.length_append,List.append_assoc] at h3
  exact h3
theorem heap_all {w:World} {b T:Nat} {cs fin:Array Value} (h:w.heap[b]? = some (.cells cs T (0,0))) (hs:cs.size = fin.size):(w.setCells b 0 fin.toList).heap[b]? = some (.cells fin T (0,0)):=by
 have:=heap_sets (b:=b) (T:=T) fin.toList [] cs.toList w (by simpa using hs) (by simpa using h)
 simpa using this
theorem there_all {w:World} {b T:Nat} {cs:Array Value} (h:w.heap[b]? = some (.cells cs T (0,0))) {n:Nat} (hn:cs.size = n):w.there b 0 n:=fun j hj=>by
 rw [Nat.zero_add]
 have hj2:j < cs.size:=by omega
 exact ⟨by simp [World.cell?,h,hj2],by simp [World.frozen?,h]⟩
theorem cw_all {w:World} {b T:Nat} {fin:Array Value} (h:w.heap[b]? = some (.cells fin T (0,0))):CW w b fin.toList:=fun i v e=>by
 have e2:fin[i]? = some v:=by simpa using e
 exact ⟨by simp [World.cell?,h,e2],by simp [World.frozen?,h]⟩
theorem sets_keeps {B g:Nat} (hg:B <= g):∀ (vs:List Value) (o:Nat) (w:World),Below B w (w.setCells g o vs)
 | [],_,w=>Below.refl _ w
 | v :: r,o,w=>((Below.refl B w).setCell (p:=⟨g,o,none⟩) hg v).trans (sets_keeps hg r (o + 1) _)
theorem pend_kept {W0 w w':World} {T i j:Nat} {fin:Array Value} {γ:Nat->Value} {L:Nat->Bool} (h:RV.Pend W0 T i j fin γ L w) (hk:∀ b,b < w.heap.size->W0.heap.size <= b->w'.heap[b]? = w.heap[b]?):RV.Pend W0 T i j fin γ L w':=by
 intro hl
 obtain ⟨b,cs,h1,h2,h3,h4,h5⟩:=h hl
 exact ⟨b,cs,h1,h2,(hk b (Array.getElem?_eq_some_iff.1 h3).1 h2).trans h3,h4,h5⟩
structure NG (V:World) (p:Addr) (f:Bool) (cs:List (Nat × Bool)) (T ib st:Nat) (fin:Array Value) (γ:Nat->Value) (L:Nat->Bool) (w:World):Prop where
 fg:FG V p f cs L w
 hp:p.block < V.heap.size
 box:RV.Pend V T ib st fin γ L w
section
variable {V w w':World} {p:Addr} {f:Bool} {cs:List (Nat × Bool)} {T ib st:Nat} {fin:Array Value} {γ:Nat->Value} {L:Nat->Bool}
theorem NG.start (hc:V.cell? p = some (.bool f)) (hf:V.frozen? p = false):NG V p f cs T ib st fin (fun _=>undef) (fun _=>false) V.drew:=⟨FG.start hc hf,World.block_lt_of_cell? _ _ hc,RV.Pend.start rfl⟩
theorem NG.other (h:NG V p f cs T ib st fin γ L w) {k:Nat} (v:Value) (hk:(cs.all fun c=>decide (c.1 ≠ k)) = true) (h1:ib ≠ k) (h2:st ≠ k):NG V p f cs T ib st fin (RV.upd γ k v) (more L k) w:=⟨h.fg.stay hk,h.hp,h.box.other v h1 h2⟩
theorem NG.come (h:NG V p f cs T ib st fin γ L w) {k:Nat} {b:Bool} (v:Value) (hl:L k = false) (hi:(cs.filter fun c=>decide (c.1 = k)) = [(k,b)]) (ha:After p (orL f cs L || b) w w') (h1:ib ≠ k) (h2:st ≠ k):NG V p f cs T ib st fin (RV.upd γ k v) (more L k) w':=
 ⟨h.fg.come hl hi ha,h.hp,(pend_kept h.box fun b hb hV=>ha.kept.2.2.2 b hb (fun e=>by have:=h.hp;omega)).other v h1 h2⟩
theorem NG.made (h:NG V p f cs T ib st fin γ L w) (z:Array Value) (hz:z.size = fin.size) (hst:L st = false) (hk:(cs.all fun c=>decide (c.1 ≠ ib)) = true) (hne:st ≠ ib):NG V p f cs T ib st fin (RV.upd γ ib (.pointer (some ⟨w.heap.size,0,none⟩))) (more L ib) (w.alloc (.cells z T)):=by
 have hb:=n_after w (.cells z T)
 exact ⟨FG.stay ⟨h.fg.leaves.alloc _,c_after hb h.fg.cell,f_after hb h.fg.cell h.fg.frozen⟩ hk,h.hp,RV.Pend.made z hz h.fg.leaves.size hst hne⟩
theorem NG.spot (h:NG V p f cs T ib st fin γ L w) (hl:L ib = true):∃ b,γ ib = .pointer (some ⟨b,0,none⟩)/\V.heap.size <= b/\w.there b 0 fin.size/\(ib ≠ st->(cs.all fun c=>decide (c.1 ≠ st)) = true->∀ v,NG V p f cs T ib st fin (RV.upd γ st v) (more L st) (w.setCells b 0 fin.toList)):=by
 obtain ⟨b,cs9,h1,h2,h3,h4,_⟩:=h.box hl
 refine ⟨b,h1,h2,there_all h3 h4,fun hne hk v=>?_⟩
 have hpb:p.block ≠ b:=by have:=h.hp;omega
 refine ⟨FG.stay ⟨?_,?_,?_⟩ hk,h.hp,RV.Pend.filled h1 h2 (heap_all h3 h4) hne v⟩
 ·exact h.fg.leaves.step (sets_keeps h2 _ _ _)
 ·rw [World.cell?_setCells_out _ _ _ _ _ (fun e=>absurd e hpb)];exact h.fg.cell
 ·rw [World.frozen?_setCells];exact h.fg.frozen
theorem NG.done (h:NG V p f cs T ib st fin γ L w) (h1:L ib = true) (h2:L st = true):After p (orL f cs L) V w/\∃ b,γ ib = .pointer (some ⟨b,0,none⟩)/\V.heap.size <= b/\CW w b fin.toList:=by
 obtain ⟨b,cs9,e1,e2,e3,_,e5⟩:=h.box h1
 rw [e5 h2] at e3
 exact ⟨h.fg.leaves.done h.fg.cell h.fg.frozen,b,e1,e2,cw_all e3⟩
end
structure NB (V:World) (T ib st:Nat) (fin:Array Value) (γ:Nat->Value) (L:Nat->Bool) (w:World):Prop where
 below:Below V.heap.size V w
 box:RV.Pend V T ib st fin γ L w
section
variable {V w w':World} {T ib st:Nat} {fin:Array Value} {γ:Nat->Value} {L:Nat->Bool}
theorem NB.start:NB V T ib st fin (fun _=>undef) (fun _=>false) V.drew:=⟨(Below.refl _ V).drew,RV.Pend.start rfl⟩
theorem NB.other (h:NB V T ib st fin γ L w) {k:Nat} (v:Value) (h1:ib ≠ k) (h2:st ≠ k):NB V T ib st fin (RV.upd γ k v) (more L k) w:=⟨h.below,h.box.other v h1 h2⟩
theorem NB.come (h:NB V T ib st fin γ L w) {k:Nat} (v:Value) (hb:Below w.heap.size w w') (h1:ib ≠ k) (h2:st ≠ k):NB V T ib st fin (RV.upd γ k v) (more L k) w':=⟨b_step h.below hb,(h.box.below hb).other v h1 h2⟩
theorem NB.made (h:NB V T ib st fin γ L w) (z:Array Value) (hz:z.size = fin.size) (hst:L st = false) (hne:st ≠ ib):NB V T ib st fin (RV.upd γ ib (.pointer (some ⟨w.heap.size,0,none⟩))) (more L ib) (w.alloc (.cells z T)):=
 ⟨b_step h.below (n_after w (.cells z T)),RV.Pend.made z hz h.below.size hst hne⟩
theorem NB.spot (h:NB V T ib st fin γ L w) (hl:L ib = true):∃ b,γ ib = .pointer (some ⟨b,0,none⟩)/\V.heap.size <= b/\w.there b 0 fin.size/\(ib ≠ st->∀ v,NB V T ib st fin (RV.upd γ st v) (more L st) (w.setCells b 0 fin.toList)):=by
 obtain ⟨b,cs9,h1,h2,h3,h4,_⟩:=h.box hl
 exact ⟨b,h1,h2,there_all h3 h4,fun hne v=>⟨h.below.trans (sets_keeps h2 _ _ _),RV.Pend.filled h1 h2 (heap_all h3 h4) hne v⟩⟩
theorem NB.done (h:NB V T ib st fin γ L w) (h1:L ib = true) (h2:L st = true):Below V.heap.size V w/\∃ b,γ ib = .pointer (some ⟨b,0,none⟩)/\V.heap.size <= b/\CW w b fin.toList:=by
 obtain ⟨b,cs9,e1,e2,e3,_,e5⟩:=h.box h1
 rw [e5 h2] at e3
 exact ⟨h.below,b,e1,e2,cw_all e3⟩
end
end
section
open Go.RowKit Go.Shelf Fx
def V3.i64 (v:V3):Prop:=(-9223372036854775808 <= v.x/\v.x <= 9223372036854775807)/\(-9223372036854775808 <= v.y/\v.y <= 9223372036854775807)/\(-9223372036854775808 <= v.z/\v.z <= 9223372036854775807)
theorem hgrn_any (v:V3) (w:World) :
  Calls Tryz.prog 21 #[v.val] w fun e W=>e = .returned (grn v).v/\Below w.heap.size w W:=by
 obtain ⟨x,y,z⟩:=v
 unfold grn Pt.v
 dsimp only [V3.val]
 go_enter Tryz.func21,Tryz.ntmps21
 go_wp2
 exact bodyPost_ret (v:=.agg #[.int .i64 (x / 1048576),.int .i64 (y / 1048576),.int .i64 (z / 1048576)]) (by simp [results,Tryz.results21,go_sem]) rfl ⟨rfl,((Below.refl _ w).alloc (Nat.le_refl _) _).alloc (by simp) _⟩
theorem hless_any (p q:Pt) (w:World) (hp:p.inB 1152921504606846976 = true) (hq:q.inB 1152921504606846976 = true) :
  Calls Tryz.prog 23 #[p.v,q.v] w fun e W=>e = .returned (p.sub q).v/\Below w.heap.size w W:=by
 obtain ⟨x,y,z⟩:=p
 obtain ⟨x',y',z'⟩:=q
 rw [Pt.inB_iff] at hp hq
 unfold Pt.v Pt.sub
 dsimp only at *
 go_enter Tryz.func23,Tryz.ntmps23
 go_wp2
 exact bodyPost_ret (v:=.agg #[.int .i64 (x - x'),.int .i64 (y - y'),.int .i64 (z - z')]) (by simp [results,Tryz.results23,go_sem]) rfl ⟨rfl,(((Below.refl _ w).alloc (Nat.le_refl _) _).alloc (by simp) _).alloc (by simp;omega) _⟩
theorem hclo_any (a:Cr) (wy:Pt) (b:Cr) (k:Nat) (ab wb:Nat) (pv av ev qv bv fv:Value) (w0:World) (hp:Lies w0 pv a.P) (ha:Lies w0 av a.A) (he:Lies w0 ev a.E) (hq:Lies w0 qv b.P) (hb:Lies w0 bv b.A) (hf:Lies w0 fv b.E) (hc:Cel w0 ab [pv,av,ev,.int .i64 a.r]) (hw:Cel w0 wb [.int .i64 wy.x,.int .i64 wy.y,.int .i64 wy.z]) :
  Calls Tryz.prog 42 #[.int .i64 (k:Nat),coreA qv bv fv b.r,.pointer (some ⟨ab,0,none⟩),.pointer (some ⟨wb,0,none⟩)] w0 fun e W=>e = .returned (.int .i64 ((if holdP a wy b then min k (castR a wy b).1 else k:Nat):Int))/\Below w0.heap.size w0 W:=by
 have HCS:Hid _:=fun (w':World) (h:Below w0.heap.size w0 w')=>wcast_any a wy b pv av ev qv bv fv w' (hp.below h) (ha.below h) (he.below h) (hq.below h) (hb.below h) (hf.below h)
 obtain ⟨o1,c1,rfl,_⟩:=hp.form
 obtain ⟨o2,c2,rfl,_⟩:=ha.form
 obtain ⟨o3,c3,rfl,_⟩:=he.form
 obtain ⟨o4,c4,rfl,_⟩:=hq.form
 obtain ⟨o5,c5,rfl,_⟩:=hb.form
 obtain ⟨o6,c6,rfl,_⟩:=hf.form
 have H1:Hid (Cel _ _ _):=hc
 have H2:Hid (Cel _ _ _):=hw
 clear hp ha he hq hb hf hc hw
 unfold holdP
 generalize castB a wy b = cb at *
 obtain ⟨⟨m,⟨xx,xy,xz⟩,xg⟩,hx⟩:∃ x,castR a wy b = x:=⟨_,rfl⟩
 rw [hx] at HCS ⊢
 clear hx
 dsimp only
 obtain ⟨rv,hrv⟩:∃ r:Nat,r = (if (cb && decide (0 <= xg)) = true then min k m else k):=⟨_,rfl⟩
 rw [<- hrv]
 have HRV:Hid _:=hrv
 clear hrv
 obtain ⟨wx,wY,wz⟩:=wy
 unfold coreA apV Pt.v at *
 dsimp only at *
 obtain ⟨X,hX⟩:∃ V,V = w0.alloc (.cells #[.slice o4 b.P.length c4,.slice o5 b.A.length c5,.slice o6 b.E.length c6,.int .i64 b.r] 28):=⟨_,rfl⟩
 obtain ⟨bb,hbb⟩:∃ b,b = w0.heap.size:=⟨_,rfl⟩
 have hbx:Below w0.heap.size w0 X:=by rw [hX];exact n_after _ _
 have C1:Hid (Cel _ _ _):=H1.out.step hbx
 have C2:Hid (Cel _ _ _):=H2.out.step hbx
 have C3:Hid (Cel X bb [.slice o4 b.P.length c4,.slice o5 b.A.length c5,.slice o6 b.E.length c6,.int .i64 b.r]):=by show Cel _ _ _;rw [hX,hbb];exact Cel.new w0 [.slice o4 b.P.length c4,.slice o5 b.A.length c5,.slice o6 b.E.length c6,.int .i64 b.r] 28
 have HB:Hid _:=hbx
 clear hbx H1 H2
 go_enter Tryz.func42,Tryz.ntmps42
 go_upto_region 1 with fail
 rw [<- hX,<- hbb]
 clear hX hbb
 have x0:=C1.out 0 _ rfl
 have x1:=C1.out 1 _ rfl
 have x2:=C1.out 2 _ rfl
 have x3:=C1.out 3 _ rfl
 have v0:=C2.out 0 _ rfl
 have v1:=C2.out 1 _ rfl
 have v2:=C2.out 2 _ rfl
 have y0:=C3.out 0 _ rfl
 have y1:=C3.out 1 _ rfl
 have y2:=C3.out 2 _ rfl
 have y3:=C3.out 3 _ rfl
 go_wp2_with (fail)
 refine Calls.mono (HCS.out _ HB.out) ?_
 rintro e V4 ⟨rfl,hb⟩
 have HB:Hid _:=b_step (b_step HB.out hb) (n_after V4 (.cells #[.int .i64 xx,.int .i64 xy,.int .i64 xz,.int .i64 xg] 49))
 clear hb x0 x1 x2 x3 y0 y1 y2 y3 v0 v1 v2 HCS C1 C2 C3
 cases cb with
 | false =>
  obtain rfl:rv = k:=by rw [HRV.out];rfl
  clear HRV
  go_wp2_with (fail)
  exact bodyPost_ret (v:=.int .i64 ((rv:Nat):Int)) (by simp [results,Tryz.results42,go_sem]) rfl ⟨rfl,HB.out⟩
 | true =>
  by_cases hg:xg < 0
  ·have e1:decide (0 <= xg) = false:=decide_eq_false (by omega)
   obtain rfl:rv = k:=by rw [HRV.out,e1];rfl
   clear e1 HRV
   go_wp2_with (fail)
   exact bodyPost_ret (v:=.int .i64 ((rv:Nat):Int)) (by simp [results,Tryz.results42,go_sem]) rfl ⟨rfl,HB.out⟩
  ·have e1:decide (0 <= xg) = true:=decide_eq_true (by omega)
   have e2:rv = min k m:=by rw [HRV.out,e1];rfl
   clear e1 HRV
   rcases Nat.lt_trichotomy k m with hlt | hlt | hlt
   ·obtain rfl:rv = k:=by omega
    have h1:¬ (m:Int) < (rv:Int):=by omega
    have h2:(rv:Int) < (m:Int):=by omega
    clear hlt e2
    go_wp2_with (fail)
    exact bodyPost_ret (v:=.int .i64 ((rv:Nat):Int)) (by simp [results,Tryz.results42,go_sem]) rfl ⟨rfl,HB.out⟩
   ·subst hlt
    obtain rfl:rv = k:=by omega
    clear e2
    go_wp2_with (fail)
    exact bodyPost_ret (v:=.int .i64 ((rv:Nat):Int)) (by simp [results,Tryz.results42,go_sem]) rfl ⟨rfl,HB.out⟩
   ·obtain rfl:rv = m:=by omega
    have h1:(rv:Int) < (k:Int):=by omega
    have h2:¬ (k:Int) < (rv:Int):=by omega
    clear hlt e2
    go_wp2_with (fail)
    exact bodyPost_ret (v:=.int .i64 ((rv:Nat):Int)) (by simp [results,Tryz.results42,go_sem]) rfl ⟨rfl,HB.out⟩
theorem hfold_any (a:Cr) (wy:Pt) (L:List Cr) (ab wb:Nat) (lv pv av ev:Value) (w0:World) (hl:LiesC w0 lv L) (hp:Lies w0 pv a.P) (ha:Lies w0 av a.A) (he:Lies w0 ev a.E) (hc:Cel w0 ab [pv,av,ev,.int .i64 a.r]) (hw:Cel w0 wb [.int .i64 wy.x,.int .i64 wy.y,.int .i64 wy.z]) :
  Calls Tryz.prog 41 #[lv,.int .i64 16,.func (.func 42) #[] #[.pointer (some ⟨ab,0,none⟩),.pointer (some ⟨wb,0,none⟩)]] w0 fun e W=>e = .returned (.int .i64 ((holdK a wy L L.length:Nat):Int))/\Below w0.heap.size w0 W:=by
 have HN1:Hid _:=fun (k:Nat) (b:Cr) (qv bv fv:Value) (w':World) (h:Below w0.heap.size w0 w') (hq:Lies w' qv b.P) (hb:Lies w' bv b.A) (hf:Lies w' fv b.E)=>hclo_any a wy b k ab wb pv av ev qv bv fv w' (hp.below h) (ha.below h) (he.below h) hq hb hf (hc.step h) (hw.step h)
 have HL:Hid _:=hl
 obtain ⟨o,cap,rfl,hlc,hcm,_⟩:=hl.form
 clear hl hp ha he hc hw
 go_enter Tryz.func41,Tryz.ntmps41
 go_wp2_with (fail)
 go_loopg [1,11] L.length (fun gm s1 s11 wr=>∃ (i k:Nat),s1 = .int .i64 (k:Int)/\s11 = .int .i64 (i:Int)/\i <= L.length/\Hid (gm = L.length - i)/\Hid (Below w0.heap.size w0 wr)/\Hid (k = holdK a wy L i))
 case atStart=>exact ⟨0,16,rfl,rfl,Nat.zero_le _,rfl,Below.refl _ _,rfl⟩
 case round =>
  obtain ⟨i,k,rfl,rfl,hi9,HG,HB,HE⟩:=hrel
  by_cases hit:i < L.length
  ·have hl1:(i:Int) < (L.length:Int):=by omega
   obtain ⟨o',cap',e',_,_,hcl⟩:=(HL.out.below HB.out).form
   cases e'
   obtain ⟨ge,fe,qv,bv,fv,rfl,x0,x1,x2,x3,l1,l2,l3⟩:=hcl i hit
   clear hcl
   have HY1:Hid _:=fun (w':World) (h:Below wr.heap.size wr w')=>HN1.out k (cr L i) qv bv fv w' (b_step HB.out h) (l1.below h) (l2.below h) (l3.below h)
   have HSK:Hid (holdK a wy L (i + 1) = if holdP a wy (cr L i) then min (holdK a wy L i) (castR a wy (cr L i)).1 else holdK a wy L i):=rfl
   obtain ⟨b,hb⟩:∃ x,cr L i = x:=⟨_,rfl⟩
   rw [hb] at x3 l1 l2 l3 HY1 HSK
   obtain ⟨o4,c4,rfl,_⟩:=l1.form
   obtain ⟨o5,c5,rfl,_⟩:=l2.form
   obtain ⟨o6,c6,rfl,_⟩:=l3.form
   clear hb l1 l2 l3 HN1
   rw [<- HE.out] at HSK
   obtain ⟨k2,hk2⟩:∃ x,(if holdP a wy b then min k (castR a wy b).1 else k) = x:=⟨_,rfl⟩
   rw [hk2] at HY1 HSK
   clear hk2
   unfold coreA at HY1
   obtain ⟨V1,hV1⟩:∃ V,V = wr.alloc (.cells #[.slice o4 b.P.length c4,.slice o5 b.A.length c5,.slice o6 b.E.length c6,.int .i64 b.r] 28):=⟨_,rfl⟩
   obtain ⟨nb,hnb⟩:∃ b,b = wr.heap.size:=⟨_,rfl⟩
   have hb1:Below wr.heap.size wr V1:=by rw [hV1];exact n_after _ _
   have CN:Hid (Cel V1 nb [.slice o4 b.P.length c4,.slice o5 b.A.length c5,.slice o6 b.E.length c6,.int .i64 b.r]):=by show Cel _ _ _;rw [hV1,hnb];exact Cel.new wr [.slice o4 b.P.length c4,.slice o5 b.A.length c5,.slice o6 b.E.length c6,.int .i64 b.r] 28
   have HY1:Hid _:=HY1.out V1 hb1
   have HB:Hid _:=b_step HB.out hb1
   go_upto_region 4 with fail
   rw [<- hV1,<- hnb]
   clear hV1 hnb hb1 x0 x1 x2 x3
   have x0:=CN.out 0 _ rfl
   have x1:=CN.out 1 _ rfl
   have x2:=CN.out 2 _ rfl
   have x3:=CN.out 3 _ rfl
   go_wp2_with (fail)
   refine Calls.mono HY1.out ?_
   rintro e V2 ⟨rfl,hb⟩
   have HB:Hid _:=b_step HB.out hb
   clear hb x0 x1 x2 x3 CN HY1 HE
   go_wp2_with (fail)
   go_roundg (L.length - (i + 1))
   case measure=>have:=HG.out;omega
   case rel=>exact ⟨i + 1,k2,rfl,by go_num,by omega,rfl,HB,by show _ = _;rw [HSK.out]⟩
  ·obtain rfl:i = L.length:=by omega
   clear HN1 HL
   go_wp2_with (fail)
   exact bodyPost_ret (v:=.int .i64 ((k:Nat):Int)) (by simp [results,Tryz.results41,go_sem]) rfl ⟨by rw [HE.out],HB.out⟩
theorem hfree_any (a:Cr) (wy:Pt) (L:List Cr) (lv pv av ev:Value) (w0:World) (hl:LiesC w0 lv L) (hp:Lies w0 pv a.P) (ha:Lies w0 av a.A) (he:Lies w0 ev a.E) :
  Calls Tryz.prog 22 #[coreA pv av ev a.r,wy.v,lv] w0 fun e W=>e = .returned (.int .i64 ((holdK a wy L L.length:Nat):Int))/\Below w0.heap.size w0 W:=by
 have HFO:Hid _:=fun (ab wb:Nat) (w':World) (h:Below w0.heap.size w0 w') (hc:Cel w' ab [pv,av,ev,.int .i64 a.r]) (hw:Cel w' wb [.int .i64 wy.x,.int .i64 wy.y,.int .i64 wy.z])=>hfold_any a wy L ab wb lv pv av ev w' (hl.below h) (hp.below h) (ha.below h) (he.below h) hc hw
 obtain ⟨o,cap,rfl,_⟩:=hl.form
 obtain ⟨o1,c1,rfl,_⟩:=hp.form
 obtain ⟨o2,c2,rfl,_⟩:=ha.form
 obtain ⟨o3,c3,rfl,_⟩:=he.form
 clear hl hp ha he
 generalize holdK a wy L L.length = k at *
 obtain ⟨wx,wY,wz⟩:=wy
 unfold coreA Pt.v at *
 dsimp only at *
 obtain ⟨X,hX⟩:∃ V,V = (w0.alloc (.cells #[.slice o1 a.P.length c1,.slice o2 a.A.length c2,.slice o3 a.E.length c3,.int .i64 a.r] 28)).alloc (.cells #[.int .i64 wx,.int .i64 wY,.int .i64 wz] 45):=⟨_,rfl⟩
 have n2:=Cel.new (w0.alloc (.cells #[.slice o1 a.P.length c1,.slice o2 a.A.length c2,.slice o3 a.E.length c3,.int .i64 a.r] 28)) [.int .i64 wx,.int .i64 wY,.int .i64 wz] 45
 rw [World.size_alloc] at n2
 have C1:Cel X w0.heap.size [.slice o1 a.P.length c1,.slice o2 a.A.length c2,.slice o3 a.E.length c3,.int .i64 a.r]:=by rw [hX];exact (Cel.new w0 [.slice o1 a.P.length c1,.slice o2 a.A.length c2,.slice o3 a.E.length c3,.int .i64 a.r] 28).step (n_after _ _)
 have C2:Cel X (w0.heap.size + 1) [.int .i64 wx,.int .i64 wY,.int .i64 wz]:=by rw [hX];exact n2
 have HB:Hid (Below w0.heap.size w0 X):=by show Below _ _ _;rw [hX];exact b_step (n_after _ _) (n_after _ _)
 have HFO:Hid _:=HFO.out w0.heap.size (w0.heap.size + 1) X HB.out C1 C2
 clear n2 C1 C2
 go_enter Tryz.func22,Tryz.ntmps22
 go_upto_region 1 with fail
 rw [<- hX]
 clear hX
 go_wp2_with (fail)
 refine Calls.mono HFO.out ?_
 rintro e V2 ⟨rfl,hb⟩
 have HB:Hid _:=b_step HB.out hb
 clear hb HFO
 go_wp2_with (fail)
 exact bodyPost_ret (v:=.int .i64 ((k:Nat):Int)) (by simp [results,Tryz.results22,go_sem]) rfl ⟨rfl,HB.out⟩
end
section
open Go.RowKit Fx
theorem Leaves.own {p:Addr} {W w:World} (h:Leaves p W w) (v:Value):Leaves p W (w.setCell p v):=by
 refine ⟨by simpa [World.setCell] using h.size,fun q hq hne=>?_,fun B w' hb h1 h2=>(h.below B w' hb h1 h2).setCell h1 v,⟨h.kept.1,h.kept.2.1,h.kept.2.2.1,fun i hi hne=>(Below.heap_setCell _ _ _ _ hne).trans (h.kept.2.2.2 i hi hne)⟩,fun hp o ho=>⟨(World.cell?_setCell_other _ _ _ _ (fun e=>ho (by cases p;exact ((Addr.mk.inj e).2.1).symm))).trans (h.beside hp o ho).1,by rw [show (w.setCell p v).frozen? ⟨p.block,o,none⟩ = w.frozen? ⟨p.block,o,none⟩ by simp [go_sem]];exact (h.beside hp o ho).2⟩⟩
 exact ⟨(World.cell?_of_block (w:=w) (Below.heap_setCell _ _ _ _ hne)).trans (h.other q hq hne).1,(World.frozen?_of_block (w:=w) (Below.heap_setCell _ _ _ _ hne)).trans (h.other q hq hne).2⟩
end
section
open Go.RowKit Go.Shelf Fx
theorem nadd_any (b off:Nat) (f:Bool) (x y:Int) (W:World) (hc:W.cell? ⟨b,off,none⟩ = some (.bool f)) (hf:W.frozen? ⟨b,off,none⟩ = false) :
  Calls Tryz.prog 44 #[.pointer (some ⟨b,off,none⟩),.int .i64 x,.int .i64 y] W fun e W'=>e = .returned (.int .i64 ((add x y).getD 0))/\Hid (After ⟨b,off,none⟩ (f || (add x y).isNone) W W'):=
 (add_any b off f x y W hc hf).mono fun _ _ ⟨a,h⟩=>⟨a,after_of h hc hf⟩
theorem nsub_any (b off:Nat) (f:Bool) (x y:Int) (W:World) (hc:W.cell? ⟨b,off,none⟩ = some (.bool f)) (hf:W.frozen? ⟨b,off,none⟩ = false) :
  Calls Tryz.prog 46 #[.pointer (some ⟨b,off,none⟩),.int .i64 x,.int .i64 y] W fun e W'=>e = .returned (.int .i64 ((sub x y).getD 0))/\Hid (After ⟨b,off,none⟩ (f || (sub x y).isNone) W W'):=
 (sub_any b off f x y W hc hf).mono fun _ _ ⟨a,h⟩=>⟨a,after_of h hc hf⟩
theorem nratio_any (b off:Nat) (f:Bool) (x y z:Int) (W:World) (hc:W.cell? ⟨b,off,none⟩ = some (.bool f)) (hf:W.frozen? ⟨b,off,none⟩ = false) :
  Calls Tryz.prog 45 #[.pointer (some ⟨b,off,none⟩),.int .i64 x,.int .i64 y,.int .i64 z] W fun e W'=>e = .returned (.int .i64 ((ratio x y z).getD 0))/\Hid (After ⟨b,off,none⟩ (f || (ratio x y z).isNone) W W'):=
 (ratio_any b off f x y z W hc hf).mono fun _ _ ⟨a,h⟩=>⟨a,after_of h hc hf⟩
theorem hgoes_any (f t k:Int) (ob pb:Nat) (fl:Bool) (W:World) (hc:W.cell? ⟨ob,0,none⟩ = some (.bool fl)) (hf:W.frozen? ⟨ob,0,none⟩ = false) (hk:W.cell? ⟨pb,0,none⟩ = some (.int .i64 k)) (hne:pb ≠ ob) :
  Calls Tryz.prog 43 #[.int .i64 f,.int .i64 t,.pointer (some ⟨ob,0,none⟩),.pointer (some ⟨pb,0,none⟩)] W fun e W'=>e = .returned (.int .i64 (goZ f t k))/\Hid (After ⟨ob,0,none⟩ (fl || goN f t k) W W'):=by
 go_enter Tryz.func43,Tryz.ntmps43
 go_upto_region 1 with fail
 refine RV.rs [.some (.int .i64 f),.some (.int .i64 t),.some (.int .i64 f),.some (.int .i64 ((sub t f).getD 0)),.some (.int .i64 k),.some (.int .i64 ((goR f t k).getD 0)),.some (.int .i64 (goZ f t k)),.some (.int .i64 (goZ f t k))] [8,9,10,11,12,13,14,7] [(0,.int .i64 f),(1,.int .i64 t),(2,.pointer (some ⟨ob,0,none⟩)),(3,.pointer (some ⟨pb,0,none⟩))] (fun γ L w=>FG W ⟨ob,0,none⟩ fl [(3,(sub t f).isNone),(5,(goR f t k).isNone),(6,(goA f t k).isNone)] L w) ⟨rfl,rfl,rfl,rfl,trivial⟩ (FG.start hc hf) ?_ ?_
 ·intro D WA Z hD hWA hZ T
  simp only [RV.Outs,RV.Slots,Nat.reduceAdd] at T
  iterate 3 (refine RV.cc _ (RV.pu T (fun γ v L w hl h=>h.stay rfl) (fun γ L a w hH hl h9 k9=>⟨_,?_,rfl⟩)) ?_;· simp [execOp,go_sem,h9])
  refine RV.cc _ (RV.dc (fun γ L a w hH hl hA=>by have h9:=T γ L a w hH;have k9:=hA;simp [Region.binds] at k9;exact ⟨_,_,by simp [go_sem,h9,k9],Calls.mono (nsub_any ob 0 _ t f w hH.glob.cell hH.glob.frozen) (by rintro e w2 ⟨rfl,ha⟩;exact ⟨_,rfl,rfl,fun j v _ h=>h.keep _,hH.glob.come hl rfl ha.out⟩)⟩)) ?_
  (refine RV.cc _ (RV.pu T (fun γ v L w hl h=>h.stay rfl) (fun γ L a w hH hl h9 k9=>⟨_,?_,rfl⟩)) ?_;· have q0:=hH.glob.at hk hne;simp [execOp,go_sem,h9,q0])
  refine RV.cc _ (RV.dc (fun γ L a w hH hl hA=>by have h9:=T γ L a w hH;have k9:=hA;simp [Region.binds] at k9;exact ⟨_,_,by simp [go_sem,h9,k9],Calls.mono (nratio_any ob 0 _ ((sub t f).getD 0) k 16 w hH.glob.cell hH.glob.frozen) (by rintro e w2 ⟨rfl,ha⟩;exact ⟨_,rfl,rfl,fun j v _ h=>h.keep _,hH.glob.come hl rfl ha.out⟩)⟩)) ?_
  refine RV.cc _ (RV.dc (fun γ L a w hH hl hA=>by have h9:=T γ L a w hH;have k9:=hA;simp [Region.binds] at k9;exact ⟨_,_,by simp [go_sem,h9,k9],Calls.mono (nadd_any ob 0 _ f ((goR f t k).getD 0) w hH.glob.cell hH.glob.frozen) (by rintro e w2 ⟨rfl,ha⟩;exact ⟨_,rfl,rfl,fun j v _ h=>h.keep _,hH.glob.come hl rfl ha.out⟩)⟩)) ?_
  (refine RV.cc _ (RV.pu T (fun γ v L w hl h=>h.stay rfl) (fun γ L a w hH hl h9 k9=>⟨_,?_,rfl⟩)) ?_;· simp [Region.binds] at k9;simp [execOp,go_sem,h9,k9])
  exact RV.AllDo.nil
 ·intro γ w5 L9 hL hI9 hG9
  have hFL:orL fl [(3,(sub t f).isNone),(5,(goR f t k).isNone),(6,(goA f t k).isNone)] L9 = (fl || ((sub t f).isNone || ((goR f t k).isNone || ((goA f t k).isNone)))):=by unfold orL;simp only [List.any_cons,List.any_nil,hL 3 (by decide),hL 5 (by decide),hL 6 (by decide),Bool.true_and,Bool.or_false]
  have HA9:Hid (After _ _ _ _):=hG9.leaves.done hG9.cell hG9.frozen
  rw [hFL] at HA9
  clear hFL hG9
  simp only [RV.putL,Act.put,List.setIfInBounds_toArray,List.set_cons_zero,List.set_cons_succ]
  clear hI9 hL
  go_wp2_with (fail)
  exact bodyPost_ret (v:=.int .i64 (goZ f t k)) (by simp [results,Tryz.results43,go_sem]) rfl ⟨rfl,by show After _ _ _ _;unfold goN;exact HA9.out⟩
theorem halong_any (f t:V3) (k:Int) (fb:Nat) (fl:Bool) (W:World) (hc:W.cell? ⟨fb,0,none⟩ = some (.bool fl)) (hf:W.frozen? ⟨fb,0,none⟩ = false) :
  Calls Tryz.prog 24 #[.pointer (some ⟨fb,0,none⟩),f.val,t.val,.int .i64 k] W fun e W'=>e = .returned (.tuple #[(if alN f t k then f else alV f t k).val,.int .i64 (if alN f t k then 0 else k)])/\Hid (After ⟨fb,0,none⟩ (fl || alN f t k) W W'):=by
 have hbW:fb < W.heap.size:=World.block_lt_of_cell? _ _ hc
 obtain ⟨V,hV⟩:∃ V,V = (((((W.alloc (.cells #[.int .i64 f.x,.int .i64 f.y,.int .i64 f.z] 23)).alloc (.cells #[.int .i64 t.x,.int .i64 t.y,.int .i64 t.z] 23)).alloc (.cells #[.int .i64 k] 3)).alloc (.cells #[.int .i64 0,.int .i64 0,.int .i64 0] 23)).alloc (.cells #[.bool false] 31)):=⟨_,rfl⟩
 have hb0:=n_after W (.cells #[.int .i64 f.x,.int .i64 f.y,.int .i64 f.z] 23)
 have hb1:=n_after (W.alloc (.cells #[.int .i64 f.x,.int .i64 f.y,.int .i64 f.z] 23)) (.cells #[.int .i64 t.x,.int .i64 t.y,.int .i64 t.z] 23)
 have hb2:=n_after ((W.alloc (.cells #[.int .i64 f.x,.int .i64 f.y,.int .i64 f.z] 23)).alloc (.cells #[.int .i64 t.x,.int .i64 t.y,.int .i64 t.z] 23)) (.cells #[.int .i64 k] 3)
 have hb3:=n_after (((W.alloc (.cells #[.int .i64 f.x,.int .i64 f.y,.int .i64 f.z] 23)).alloc (.cells #[.int .i64 t.x,.int .i64 t.y,.int .i64 t.z] 23)).alloc (.cells #[.int .i64 k] 3)) (.cells #[.int .i64 0,.int .i64 0,.int .i64 0] 23)
 have hb4:=n_after ((((W.alloc (.cells #[.int .i64 f.x,.int .i64 f.y,.int .i64 f.z] 23)).alloc (.cells #[.int .i64 t.x,.int .i64 t.y,.int .i64 t.z] 23)).alloc (.cells #[.int .i64 k] 3)).alloc (.cells #[.int .i64 0,.int .i64 0,.int .i64 0] 23)) (.cells #[.bool false] 31)
 have Cf:CW V (W.heap.size) [.int .i64 f.x,.int .i64 f.y,.int .i64 f.z]:=by
  have h9:=((((CW.new W [.int .i64 f.x,.int .i64 f.y,.int .i64 f.z] 23).step hb1).step hb2).step hb3).step hb4
  rw [hV];exact h9
 have Ct:CW V (W.heap.size + 1) [.int .i64 t.x,.int .i64 t.y,.int .i64 t.z]:=by
  have h9:=(((CW.new (W.alloc (.cells #[.int .i64 f.x,.int .i64 f.y,.int .i64 f.z] 23)) [.int .i64 t.x,.int .i64 t.y,.int .i64 t.z] 23).step hb2).step hb3).step hb4
  simp only [World.size_alloc] at h9
  rw [hV];exact h9
 have Ck:CW V (W.heap.size + 1 + 1) [.int .i64 k]:=by
  have h9:=((CW.new ((W.alloc (.cells #[.int .i64 f.x,.int .i64 f.y,.int .i64 f.z] 23)).alloc (.cells #[.int .i64 t.x,.int .i64 t.y,.int .i64 t.z] 23)) [.int .i64 k] 3).step hb3).step hb4
  simp only [World.size_alloc] at h9
  rw [hV];exact h9
 have Cr:CW V (W.heap.size + 1 + 1 + 1) [.int .i64 0,.int .i64 0,.int .i64 0]:=by
  have h9:=(CW.new (((W.alloc (.cells #[.int .i64 f.x,.int .i64 f.y,.int .i64 f.z] 23)).alloc (.cells #[.int .i64 t.x,.int .i64 t.y,.int .i64 t.z] 23)).alloc (.cells #[.int .i64 k] 3)) [.int .i64 0,.int .i64 0,.int .i64 0] 23).step hb4
  simp only [World.size_alloc] at h9
  rw [hV];exact h9
 have Co:CW V (W.heap.size + 1 + 1 + 1 + 1) [.bool false]:=by
  have h9:=CW.new ((((W.alloc (.cells #[.int .i64 f.x,.int .i64 f.y,.int .i64 f.z] 23)).alloc (.cells #[.int .i64 t.x,.int .i64 t.y,.int .i64 t.z] 23)).alloc (.cells #[.int .i64 k] 3)).alloc (.cells #[.int .i64 0,.int .i64 0,.int .i64 0] 23)) [.bool false] 31
  simp only [World.size_alloc] at h9
  rw [hV];exact h9
 have hB:Below W.heap.size W V:=by rw [hV];exact (b_step (b_step (b_step (b_step hb0 hb1) hb2) hb3) hb4)
 clear hb0 hb1 hb2 hb3 hb4
 have hcV:=c_after hB hc
 have hfV:=f_after hB hc hf
 have HLV:Hid (Leaves ⟨fb,0,none⟩ W V):=(Leaves.refl _ _).step hB
 clear hc hf hB
 obtain ⟨av,hav⟩:∃ v,v = (if alN f t k then f else alV f t k):=⟨_,rfl⟩
 obtain ⟨ak,hak⟩:∃ v,v = (if alN f t k then 0 else k):=⟨_,rfl⟩
 obtain ⟨bd,hbd⟩:∃ v,v = alN f t k:=⟨_,rfl⟩
 rw [<- hav,<- hak,<- hbd]
 rw [<- hbd] at hav hak
 have HAV:Hid _:=hav
 have HAK:Hid _:=hak
 have HBD:Hid _:=hbd
 clear hav hak hbd
 go_enter Tryz.func24,Tryz.ntmps24
 go_upto_region 3 with fail
 rw [<- hV]
 clear hV
 obtain ⟨po,hpo⟩:∃ p,p = W.heap.size + 1 + 1 + 1 + 1:=⟨_,rfl⟩
 obtain ⟨pr,hpr⟩:∃ p,p = W.heap.size + 1 + 1 + 1:=⟨_,rfl⟩
 obtain ⟨pk,hpk⟩:∃ p,p = W.heap.size + 1 + 1:=⟨_,rfl⟩
 obtain ⟨pt,hpt⟩:∃ p,p = W.heap.size + 1:=⟨_,rfl⟩
 obtain ⟨pf,hpf⟩:∃ p,p = W.heap.size:=⟨_,rfl⟩
 rw [<- hpo] at Co
 rw [<- hpr] at Cr
 rw [<- hpk] at Ck
 rw [<- hpt] at Ct
 rw [<- hpf] at Cf
 rw [<- hpo,<- hpr,<- hpk,<- hpt,<- hpf]
 have nf:pf ≠ po:=by omega
 have nt:pt ≠ po:=by omega
 have nk:pk ≠ po:=by omega
 have nr:pr ≠ po:=by omega
 have no:fb ≠ po:=by omega
 have hWo:W.heap.size <= po:=by omega
 have hWr:W.heap.size <= pr:=by omega
 have hWf:W.heap.size <= pf:=by omega
 have nkr0:pk ≠ pr:=by omega
 have Cr0:=Cr
 obtain ⟨o0,of0⟩:=Co 0 _ rfl
 have f0:=(Cf 0 _ rfl).1
 have t0:=(Ct 0 _ rfl).1
 have f1:=(Cf 1 _ rfl).1
 have t1:=(Ct 1 _ rfl).1
 have f2:=(Cf 2 _ rfl).1
 have t2:=(Ct 2 _ rfl).1
 have k0:=(Ck 0 _ rfl).1
 clear hpf hpt hpk hpr hpo
 refine RV.rs [.some (.func (.func 43) #[] #[.pointer (some ⟨po,0,none⟩),.pointer (some ⟨pk,0,none⟩)]),.some (.pointer (some ⟨pf,0,none⟩)),.some (.int .i64 f.x),.some (.pointer (some ⟨pt,0,none⟩)),.some (.int .i64 t.x),.some (.int .i64 (goZ f.x t.x k)),.some (.func (.func 43) #[] #[.pointer (some ⟨po,0,none⟩),.pointer (some ⟨pk,0,none⟩)]),.some (.pointer (some ⟨pf,1,none⟩)),.some (.int .i64 f.y),.some (.pointer (some ⟨pt,1,none⟩)),.some (.int .i64 t.y),.some (.int .i64 (goZ f.y t.y k)),.some (.func (.func 43) #[] #[.pointer (some ⟨po,0,none⟩),.pointer (some ⟨pk,0,none⟩)]),.some (.pointer (some ⟨pf,2,none⟩)),.some (.int .i64 f.z),.some (.pointer (some ⟨pt,2,none⟩)),.some (.int .i64 t.z),.some (.int .i64 (goZ f.z t.z k)),.some (.agg #[.int .i64 (goZ f.x t.x k),.int .i64 (goZ f.y t.y k),.int .i64 (goZ f.z t.z k)]),none,none] [15,16,17,18,19,20,21,22,23,24,25,26,27,28,29,30,31,32,33,13,0] [(5,.pointer (some ⟨pf,0,none⟩)),(6,.pointer (some ⟨pt,0,none⟩)),(11,.func (.func 43) #[] #[.pointer (some ⟨po,0,none⟩),.pointer (some ⟨pk,0,none⟩)])] (fun γ L w=>NG V ⟨po,0,none⟩ false [(5,goN f.x t.x k),(11,goN f.y t.y k),(17,goN f.z t.z k)] 23 19 20 #[.int .i64 (goZ f.x t.x k),.int .i64 (goZ f.y t.y k),.int .i64 (goZ f.z t.z k)] γ L w) ⟨rfl,rfl,rfl,trivial⟩ (NG.start o0 of0) ?_ ?_
 ·intro D WA Z hD hWA hZ T
  simp only [RV.Outs,RV.Slots,Nat.reduceAdd] at T
  iterate 2 (refine RV.cc _ (RV.pu T (fun γ v L w hl h=>h.other _ rfl (by decide) (by decide)) (fun γ L a w hH hl h9 k9=>⟨_,?_,rfl⟩)) ?_;· simp [execOp,go_sem,h9])
  (refine RV.cc _ (RV.pu T (fun γ v L w hl h=>h.other _ rfl (by decide) (by decide)) (fun γ L a w hH hl h9 k9=>⟨_,?_,rfl⟩)) ?_;· have q0:=hH.glob.fg.at f0 nf;simp [Region.binds] at k9;simp [execOp,go_sem,h9,k9,q0])
  (refine RV.cc _ (RV.pu T (fun γ v L w hl h=>h.other _ rfl (by decide) (by decide)) (fun γ L a w hH hl h9 k9=>⟨_,?_,rfl⟩)) ?_;· simp [execOp,go_sem,h9])
  (refine RV.cc _ (RV.pu T (fun γ v L w hl h=>h.other _ rfl (by decide) (by decide)) (fun γ L a w hH hl h9 k9=>⟨_,?_,rfl⟩)) ?_;· have q0:=hH.glob.fg.at t0 nt;simp [Region.binds] at k9;simp [execOp,go_sem,h9,k9,q0])
  refine RV.cc _ (RV.dc (fun γ L a w hH hl hA=>by have h9:=T γ L a w hH;have k9:=hA;simp [Region.binds] at k9;exact ⟨_,_,by simp [go_sem,h9,k9],Calls.mono (hgoes_any f.x t.x k po pk _ w hH.glob.fg.cell hH.glob.fg.frozen (hH.glob.fg.at k0 nk) nk) (by rintro e w2 ⟨rfl,ha⟩;exact ⟨_,rfl,rfl,fun j v _ h=>h.keep _,hH.glob.come _ hl rfl ha.out (by decide) (by decide)⟩)⟩)) ?_
  iterate 2 (refine RV.cc _ (RV.pu T (fun γ v L w hl h=>h.other _ rfl (by decide) (by decide)) (fun γ L a w hH hl h9 k9=>⟨_,?_,rfl⟩)) ?_;· simp [execOp,go_sem,h9])
  (refine RV.cc _ (RV.pu T (fun γ v L w hl h=>h.other _ rfl (by decide) (by decide)) (fun γ L a w hH hl h9 k9=>⟨_,?_,rfl⟩)) ?_;· have q0:=hH.glob.fg.at f1 nf;simp [Region.binds] at k9;simp [execOp,go_sem,h9,k9,q0])
  (refine RV.cc _ (RV.pu T (fun γ v L w hl h=>h.other _ rfl (by decide) (by decide)) (fun γ L a w hH hl h9 k9=>⟨_,?_,rfl⟩)) ?_;· simp [execOp,go_sem,h9])
  (refine RV.cc _ (RV.pu T (fun γ v L w hl h=>h.other _ rfl (by decide) (by decide)) (fun γ L a w hH hl h9 k9=>⟨_,?_,rfl⟩)) ?_;· have q0:=hH.glob.fg.at t1 nt;simp [Region.binds] at k9;simp [execOp,go_sem,h9,k9,q0])
  refine RV.cc _ (RV.dc (fun γ L a w hH hl hA=>by have h9:=T γ L a w hH;have k9:=hA;simp [Region.binds] at k9;exact ⟨_,_,by simp [go_sem,h9,k9],Calls.mono (hgoes_any f.y t.y k po pk _ w hH.glob.fg.cell hH.glob.fg.frozen (hH.glob.fg.at k0 nk) nk) (by rintro e w2 ⟨rfl,ha⟩;exact ⟨_,rfl,rfl,fun j v _ h=>h.keep _,hH.glob.come _ hl rfl ha.out (by decide) (by decide)⟩)⟩)) ?_
  iterate 2 (refine RV.cc _ (RV.pu T (fun γ v L w hl h=>h.other _ rfl (by decide) (by decide)) (fun γ L a w hH hl h9 k9=>⟨_,?_,rfl⟩)) ?_;· simp [execOp,go_sem,h9])
  (refine RV.cc _ (RV.pu T (fun γ v L w hl h=>h.other _ rfl (by decide) (by decide)) (fun γ L a w hH hl h9 k9=>⟨_,?_,rfl⟩)) ?_;· have q0:=hH.glob.fg.at f2 nf;simp [Region.binds] at k9;simp [execOp,go_sem,h9,k9,q0])
  (refine RV.cc _ (RV.pu T (fun γ v L w hl h=>h.other _ rfl (by decide) (by decide)) (fun γ L a w hH hl h9 k9=>⟨_,?_,rfl⟩)) ?_;· simp [execOp,go_sem,h9])
  (refine RV.cc _ (RV.pu T (fun γ v L w hl h=>h.other _ rfl (by decide) (by decide)) (fun γ L a w hH hl h9 k9=>⟨_,?_,rfl⟩)) ?_;· have q0:=hH.glob.fg.at t2 nt;simp [Region.binds] at k9;simp [execOp,go_sem,h9,k9,q0])
  refine RV.cc _ (RV.dc (fun γ L a w hH hl hA=>by have h9:=T γ L a w hH;have k9:=hA;simp [Region.binds] at k9;exact ⟨_,_,by simp [go_sem,h9,k9],Calls.mono (hgoes_any f.z t.z k po pk _ w hH.glob.fg.cell hH.glob.fg.frozen (hH.glob.fg.at k0 nk) nk) (by rintro e w2 ⟨rfl,ha⟩;exact ⟨_,rfl,rfl,fun j v _ h=>h.keep _,hH.glob.come _ hl rfl ha.out (by decide) (by decide)⟩)⟩)) ?_
  (refine RV.cc _ (RV.pu T (fun γ v L w hl h=>h.other _ rfl (by decide) (by decide)) (fun γ L a w hH hl h9 k9=>⟨_,?_,rfl⟩)) ?_;· simp [Region.binds] at k9;simp [execOp,go_sem,h9,k9])
  refine RV.cc _ (RV.does_step (fun γ L a w hH hl hA=>⟨.pointer (some ⟨w.heap.size,0,none⟩),w.alloc (.cells #[.int .i64 0,.int .i64 0,.int .i64 0] 23),by simp [execOp,go_sem],trivial,fun j v _ h=>h.keep _,hH.glob.made #[.int .i64 0,.int .i64 0,.int .i64 0] rfl (RV.ny hH (RV.wt (j:=20) (i:=19) hWA (by kernel_rfl)) hl) rfl (by decide)⟩)) ?_
  refine RV.cc _ (RV.does_store (fun γ L a w hH hl hA=>by have h9:=T γ L a w hH;have k9:=hA;simp [Region.binds] at k9;have l0:L 19 = true:=hA ⟨19,.data⟩ (by simp) rfl;have e0:=hH.slot 19 12 (by rw [<- hD];rfl) l0;obtain ⟨b,hb1,hb2,hb3,hb4⟩:=hH.glob.spot l0;rw [hb1] at e0;exact ⟨_,exec_store_all 23 _ _ rfl b 0 _ (by simp [Act.eval,e0]) (by simp [Act.eval,h9,k9]) hb3 (by kernel_rfl) (by simp only [List.all_toArray,List.all_cons,List.all_nil,Value.oneCell',Bool.and_self]),trivial,fun j v _ h=>h.keep _,hb4 (by decide) rfl _⟩)) ?_
  exact RV.AllDo.nil
 ·intro γ w5 L9 hL hI9 hG9
  have hFL:orL false [(5,goN f.x t.x k),(11,goN f.y t.y k),(17,goN f.z t.z k)] L9 = (false || (goN f.x t.x k || (goN f.y t.y k || (goN f.z t.z k)))):=by unfold orL;simp only [List.any_cons,List.any_nil,hL 5 (by decide),hL 11 (by decide),hL 17 (by decide),Bool.true_and,Bool.or_false]
  obtain ⟨hA9,nb,e9,hnb,Cnb⟩:=hG9.done (hL 19 (by decide)) (hL 20 (by decide))
  have HA9:Hid (After _ _ _ _):=hA9
  rw [hFL] at HA9
  clear hFL hG9 hA9
  simp only [RV.putL,Act.put,List.setIfInBounds_toArray,List.set_cons_zero,List.set_cons_succ,Nat.reduceAdd]
  rw [e9]
  have Cnb:Hid (CW _ _ _):=Cnb
  clear e9
  clear hI9 hL
  have HA9:Hid (After ⟨po,0,none⟩ bd V w5):=by have h9:=HA9.out;rw [Bool.false_or] at h9;rw [HBD.out];exact h9
  have HLV:Hid (Leaves ⟨fb,0,none⟩ W w5):=HLV.out.after HA9.out hWo
  have Cr:Hid (CW _ _ _):=Cr.after HA9.out nr
  have Cf:Hid (CW _ _ _):=Cf.after HA9.out nf
  have Ck:Hid (CW _ _ _):=Ck.after HA9.out nk
  have HFC:Hid (w5.cell? ⟨fb,0,none⟩ = some (.bool fl)):=HA9.out.cellOf hcV no
  have HFF:Hid (w5.frozen? ⟨fb,0,none⟩ = false):=HA9.out.frozenOf hcV hfV no
  have hoc:=HA9.out.cell
  have hnb:pr ≠ nb:=by have:=Cr0.lt;omega
  clear HA9 hcV hfV f0 f1 f2 t0 t1 t2 k0
  clear HBD
  cases bd with
  | true =>
   obtain rfl:av = f:=by rw [HAV.out];rfl
   obtain rfl:ak = 0:=by rw [HAK.out];rfl
   clear HAV HAK
   obtain ⟨r0,q0⟩:=Cr.out 0 _ rfl
   obtain ⟨r1,q1⟩:=Cr.out 1 _ rfl
   obtain ⟨r2,q2⟩:=Cr.out 2 _ rfl
   have f0:=(Cf.out 0 _ rfl).1
   have f1:=(Cf.out 1 _ rfl).1
   have f2:=(Cf.out 2 _ rfl).1
   have hfc:=HFC.out
   have hff:=HFF.out
   have nfr:fb ≠ pr:=by omega
   have nrf:pr ≠ fb:=by omega
   have nff:fb ≠ pf:=by omega
   have nff2:pf ≠ fb:=by omega
   clear Cnb
   go_wp2_with (fail)
   refine bodyPost_ret (v:=.tuple #[av.val,.int .i64 0]) (by simp [results,Tryz.results24,go_sem,r0,r1,r2];try rfl) rfl ?_
   refine ⟨rfl,((((HLV.out.own _).set hWr _).set hWr _).set hWr _).done ?_ ?_⟩
   ·simp [go_sem,hfc]
   ·simp [go_sem,hff]
  | false =>
   obtain rfl:av = alV f t k:=by rw [HAV.out];rfl
   obtain rfl:ak = k:=by rw [HAK.out];rfl
   clear HAV HAK
   obtain ⟨r0,q0⟩:=Cr.out 0 _ rfl
   obtain ⟨r1,q1⟩:=Cr.out 1 _ rfl
   obtain ⟨r2,q2⟩:=Cr.out 2 _ rfl
   have a0:=(Cnb.out 0 _ rfl).1
   have a1:=(Cnb.out 1 _ rfl).1
   have a2:=(Cnb.out 2 _ rfl).1
   have k0:=(Ck.out 0 _ rfl).1
   have hfc:=HFC.out
   have hff:=HFF.out
   have nfr:fb ≠ pr:=by omega
   have nkr:pk ≠ pr:=by omega
   have nkr2:pr ≠ pk:=by omega
   have hnb2:nb ≠ pr:=fun e=>hnb e.symm
   clear Cf
   go_upto_region 7 with fail
   go_region
   all_goals
    go_wp2_with (fail)
    refine bodyPost_ret (v:=.tuple #[(alV f t ak).val,.int .i64 ak]) (by simp [results,Tryz.results24,go_sem,r0,r1,r2];exact ⟨rfl,rfl,rfl⟩) rfl ?_
    refine ⟨rfl,((((HLV.out.set hWr _).set hWr _).set hWr _).drew).done ?_ ?_⟩
    ·simp [go_sem,hfc]
    ·simp [go_sem,hff]
end
section
open Go.RowKit Go.Shelf Fx
theorem hold_any (f t:V3) (r:Int) (L:List Cr) (lv:Value) (fb:Nat) (fl:Bool) (W:World) (hl:LiesC W lv L) (hc:W.cell? ⟨fb,0,none⟩ = some (.bool fl)) (hf:W.frozen? ⟨fb,0,none⟩ = false) (bf:f.i64) (bt:t.i64) :
  Calls Tryz.prog 10 #[.pointer (some ⟨fb,0,none⟩),f.val,t.val,.int .i64 r,lv] W fun e W'=>e = .returned (.tuple #[(holdV f t r L).1.val,.int .i64 ((holdV f t r L).2:Nat)])/\Hid (After ⟨fb,0,none⟩ (fl || holdN f t r L) W W'):=by
 have hbW:fb < W.heap.size:=World.block_lt_of_cell? _ _ hc
 have HFR:Hid _:=fun (v:Value) (w':World) (h:Below W.heap.size W w') (hp:Lies w' v [grn f])=>hfree_any (ballC f r) (wayZ f t) L lv v (.slice none 0 0) (.slice none 0 0) w' (hl.below h) hp (lies_nil9 _) (lies_nil9 _)
 have HGR:Hid _:=fun w'=>hgrn_any f w'
 have HGT:Hid _:=fun w'=>hgrn_any t w'
 have HLE:Hid _:=fun w'=>hless_any (grn t) (grn f) w' (by rw [Pt.inB_iff];unfold grn;dsimp only;unfold V3.i64 at bt;omega) (by rw [Pt.inB_iff];unfold grn;dsimp only;unfold V3.i64 at bf;omega)
 have HAL:Hid _:=fun (k:Int) (w':World) (h1:w'.cell? ⟨fb,0,none⟩ = some (.bool fl)) (h2:w'.frozen? ⟨fb,0,none⟩ = false)=>halong_any f t k fb fl w' h1 h2
 have HHV:Hid (holdV f t r L = if hK f t r L = 16 then (t,16) else if alN f t (hK f t r L) then (f,0) else (alV f t (hK f t r L),hK f t r L)):=rfl
 have HHN:Hid (holdN f t r L = (decide (hK f t r L ≠ 16) && alN f t (hK f t r L))):=rfl
 have HKE:Hid (holdK (ballC f r) (wayZ f t) L L.length = hK f t r L):=rfl
 rw [HKE.out,show wayZ f t = (grn t).sub (grn f) from rfl,show (ballC f r).r = r from rfl] at HFR
 clear HKE bf bt
 obtain ⟨o,cap,rfl,_⟩:=hl.form
 clear hl
 obtain ⟨⟨hv1,hv2⟩,hhv⟩:∃ x,holdV f t r L = x:=⟨_,rfl⟩
 rw [hhv] at HHV ⊢
 clear hhv
 dsimp only at HHV ⊢
 generalize holdN f t r L = hn at *
 generalize hK f t r L = k at *
 generalize (grn t).sub (grn f) = wy at *
 generalize grn t = gt at *
 generalize grn f = gf at *
 obtain ⟨V,hV⟩:∃ V,V = (((W.alloc (.cells #[.int .i64 f.x,.int .i64 f.y,.int .i64 f.z] 23)).alloc (.cells #[.int .i64 t.x,.int .i64 t.y,.int .i64 t.z] 23)).alloc (.cells #[.int .i64 0,.int .i64 0,.int .i64 0] 23)):=⟨_,rfl⟩
 have hb0:=n_after W (.cells #[.int .i64 f.x,.int .i64 f.y,.int .i64 f.z] 23)
 have hb1:=n_after (W.alloc (.cells #[.int .i64 f.x,.int .i64 f.y,.int .i64 f.z] 23)) (.cells #[.int .i64 t.x,.int .i64 t.y,.int .i64 t.z] 23)
 have hb2:=n_after ((W.alloc (.cells #[.int .i64 f.x,.int .i64 f.y,.int .i64 f.z] 23)).alloc (.cells #[.int .i64 t.x,.int .i64 t.y,.int .i64 t.z] 23)) (.cells #[.int .i64 0,.int .i64 0,.int .i64 0] 23)
 have Cf:CW V (W.heap.size) [.int .i64 f.x,.int .i64 f.y,.int .i64 f.z]:=by
  have h9:=((CW.new W [.int .i64 f.x,.int .i64 f.y,.int .i64 f.z] 23).step hb1).step hb2
  rw [hV];exact h9
 have Ct:CW V (W.heap.size + 1) [.int .i64 t.x,.int .i64 t.y,.int .i64 t.z]:=by
  have h9:=(CW.new (W.alloc (.cells #[.int .i64 f.x,.int .i64 f.y,.int .i64 f.z] 23)) [.int .i64 t.x,.int .i64 t.y,.int .i64 t.z] 23).step hb2
  simp only [World.size_alloc] at h9
  rw [hV];exact h9
 have Cr:CW V (W.heap.size + 1 + 1) [.int .i64 0,.int .i64 0,.int .i64 0]:=by
  have h9:=CW.new ((W.alloc (.cells #[.int .i64 f.x,.int .i64 f.y,.int .i64 f.z] 23)).alloc (.cells #[.int .i64 t.x,.int .i64 t.y,.int .i64 t.z] 23)) [.int .i64 0,.int .i64 0,.int .i64 0] 23
  simp only [World.size_alloc] at h9
  rw [hV];exact h9
 have hB:Below W.heap.size W V:=by rw [hV];exact (b_step (b_step hb0 hb1) hb2)
 clear hb0 hb1 hb2
 have hcV:=c_after hB hc
 have hfV:=f_after hB hc hf
 have HLV:Hid (Leaves ⟨fb,0,none⟩ W V):=(Leaves.refl _ _).step hB
 have HB:Hid _:=hB
 clear hc hf hB
 obtain ⟨gx,gy,gz⟩:=gf
 unfold coreA Pt.v at *
 dsimp only at *
 go_enter Tryz.func10,Tryz.ntmps10
 go_upto_region 1 with fail
 rw [<- hV]
 clear hV
 obtain ⟨pr,hpr⟩:∃ p,p = W.heap.size + 1 + 1:=⟨_,rfl⟩
 obtain ⟨pt,hpt⟩:∃ p,p = W.heap.size + 1:=⟨_,rfl⟩
 obtain ⟨pf,hpf⟩:∃ p,p = W.heap.size:=⟨_,rfl⟩
 rw [<- hpr] at Cr
 rw [<- hpt] at Ct
 rw [<- hpf] at Cf
 rw [<- hpr,<- hpt,<- hpf]
 have f0:=(Cf 0 _ rfl).1
 have f1:=(Cf 1 _ rfl).1
 have f2:=(Cf 2 _ rfl).1
 have HPX:Hid (pf = W.heap.size/\pt = W.heap.size + 1/\pr = W.heap.size + 1 + 1):=⟨hpf,hpt,hpr⟩
 clear hpf hpt hpr
 go_wp2_with (fail)
 refine Calls.mono (HGR.out _) ?_
 rintro e V1 ⟨rfl,hb⟩
 obtain ⟨V2,hV2⟩:∃ V,V = ((V1.alloc (.cells #[.int .i64 gx,.int .i64 gy,.int .i64 gz] 45)).alloc (.cells #[.int .i64 gx,.int .i64 gy,.int .i64 gz] 45)).alloc (.cells #[.slice (some ⟨V1.heap.size + 1,0,none⟩) 1 1,.slice none 0 0,.slice none 0 0,.int .i64 r] 28):=⟨_,rfl⟩
 have hb2:Below V1.heap.size V1 V2:=by rw [hV2];exact b_step (b_step (n_after _ _) (n_after _ _)) (n_after _ _)
 obtain ⟨ga,hga⟩:∃ b,b = V1.heap.size:=⟨_,rfl⟩
 obtain ⟨gs,hgs⟩:∃ b,b = V1.heap.size + 1:=⟨_,rfl⟩
 obtain ⟨gb,hgb⟩:∃ b,b = V1.heap.size + 1 + 1:=⟨_,rfl⟩
 have n2:=Cel.new (V1.alloc (.cells #[.int .i64 gx,.int .i64 gy,.int .i64 gz] 45)) [.int .i64 gx,.int .i64 gy,.int .i64 gz] 45
 rw [World.size_alloc] at n2
 have n3:=Cel.new ((V1.alloc (.cells #[.int .i64 gx,.int .i64 gy,.int .i64 gz] 45)).alloc (.cells #[.int .i64 gx,.int .i64 gy,.int .i64 gz] 45)) [.slice (some ⟨V1.heap.size + 1,0,none⟩) 1 1,.slice none 0 0,.slice none 0 0,.int .i64 r] 28
 rw [World.size_alloc,World.size_alloc] at n3
 have CG:Hid (Cel V2 ga [.int .i64 gx,.int .i64 gy,.int .i64 gz]):=by show Cel _ _ _;rw [hV2,hga];exact ((Cel.new V1 [.int .i64 gx,.int .i64 gy,.int .i64 gz] 45).step (n_after _ _)).step (n_after _ _)
 have LG:Hid (Lies V2 (.slice (some ⟨gs,0,none⟩) 1 1) [⟨gx,gy,gz⟩]):=by show Lies _ _ _;rw [hV2,hgs];exact lies_one9 (n2.step (n_after _ _))
 have CB:Hid (Cel V2 gb [.slice (some ⟨gs,0,none⟩) 1 1,.slice none 0 0,.slice none 0 0,.int .i64 r]):=by show Cel _ _ _;rw [hV2,hgb,hgs];exact n3
 have HB2:Hid (Below V.heap.size V V2):=b_step hb hb2
 clear hb hb2 n2 n3 f0 f1 f2 HGR
 go_upto_region 3 with fail
 rw [<- hV2,<- hgb,<- hgs,<- hga]
 clear hV2 hga hgs hgb
 have t0:=c_after HB2.out (Ct 0 _ rfl).1
 have t1:=c_after HB2.out (Ct 1 _ rfl).1
 have t2:=c_after HB2.out (Ct 2 _ rfl).1
 have g0:=CG.out 0 _ rfl
 have g1:=CG.out 1 _ rfl
 have g2:=CG.out 2 _ rfl
 have b0:=CB.out 0 _ rfl
 have b1:=CB.out 1 _ rfl
 have b2:=CB.out 2 _ rfl
 have b3:=CB.out 3 _ rfl
 refine RV.rs [.some (.agg #[.slice (some ⟨gs,0,none⟩) 1 1,.slice none 0 0,.slice none 0 0,.int .i64 r]),.some (.agg #[.int .i64 t.x,.int .i64 t.y,.int .i64 t.z]),.some (.agg #[.int .i64 gt.x,.int .i64 gt.y,.int .i64 gt.z]),.some (.agg #[.int .i64 gx,.int .i64 gy,.int .i64 gz]),.some (.agg #[.int .i64 wy.x,.int .i64 wy.y,.int .i64 wy.z]),.some (.slice o L.length cap),.some (.int .i64 ((k:Nat))),.some (.int .i64 ((k:Nat)))] [22,23,24,25,26,27,28,15] [(4,.slice o L.length cap),(7,.pointer (some ⟨pt,0,none⟩)),(12,.pointer (some ⟨ga,0,none⟩)),(13,.pointer (some ⟨gb,0,none⟩))] (fun γ L w=>Below V2.heap.size V2 w) ⟨rfl,rfl,rfl,rfl,trivial⟩ (Below.refl _ V2).drew ?_ ?_
 ·intro D WA Z hD hWA hZ T
  simp only [RV.Outs,RV.Slots,Nat.reduceAdd] at T
  (refine RV.cc _ (RV.pu T (fun γ v L w hl h=>h) (fun γ L a w hH hl h9 k9=>⟨_,?_,rfl⟩)) ?_;· have q0:=c_after hH.glob b0;have q1:=c_after hH.glob b1;have q2:=c_after hH.glob b2;have q3:=c_after hH.glob b3;simp [execOp,go_sem,h9,q0,q1,q2,q3])
  (refine RV.cc _ (RV.pu T (fun γ v L w hl h=>h) (fun γ L a w hH hl h9 k9=>⟨_,?_,rfl⟩)) ?_;· have q0:=c_after hH.glob t0;have q1:=c_after hH.glob t1;have q2:=c_after hH.glob t2;simp [execOp,go_sem,h9,q0,q1,q2])
  refine RV.cc _ (RV.dc (fun γ L a w hH hl hA=>by have h9:=T γ L a w hH;have k9:=hA;simp [Region.binds] at k9;exact ⟨_,_,by simp [go_sem,h9,k9],Calls.mono (HGT.out w) (by rintro e w2 ⟨rfl,ha⟩;exact ⟨_,rfl,rfl,fun j v _ h=>h.keep _,b_step hH.glob ha⟩)⟩)) ?_
  (refine RV.cc _ (RV.pu T (fun γ v L w hl h=>h) (fun γ L a w hH hl h9 k9=>⟨_,?_,rfl⟩)) ?_;· have q0:=c_after hH.glob g0;have q1:=c_after hH.glob g1;have q2:=c_after hH.glob g2;simp [execOp,go_sem,h9,q0,q1,q2])
  refine RV.cc _ (RV.dc (fun γ L a w hH hl hA=>by have h9:=T γ L a w hH;have k9:=hA;simp [Region.binds] at k9;exact ⟨_,_,by simp [go_sem,h9,k9],Calls.mono (HLE.out w) (by rintro e w2 ⟨rfl,ha⟩;exact ⟨_,rfl,rfl,fun j v _ h=>h.keep _,b_step hH.glob ha⟩)⟩)) ?_
  (refine RV.cc _ (RV.pu T (fun γ v L w hl h=>h) (fun γ L a w hH hl h9 k9=>⟨_,?_,rfl⟩)) ?_;· simp [execOp,go_sem,h9])
  refine RV.cc _ (RV.dc (fun γ L a w hH hl hA=>by have h9:=T γ L a w hH;have k9:=hA;simp [Region.binds] at k9;exact ⟨_,_,by simp [go_sem,h9,k9],Calls.mono (HFR.out _ w (b_step (b_step HB.out HB2.out) hH.glob) (LG.out.below hH.glob)) (by rintro e w2 ⟨rfl,ha⟩;exact ⟨_,rfl,rfl,fun j v _ h=>h.keep _,b_step hH.glob ha⟩)⟩)) ?_
  (refine RV.cc _ (RV.pu T (fun γ v L w hl h=>h) (fun γ L a w hH hl h9 k9=>⟨_,?_,rfl⟩)) ?_;· simp [Region.binds] at k9;simp [execOp,go_sem,h9,k9])
  exact RV.AllDo.nil
 ·intro γ w5 L9 hL hI9 hG9
  have HB9:Hid (Below _ _ _):=hG9
  clear hG9
  simp only [RV.putL,Act.put,List.setIfInBounds_toArray,List.set_cons_zero,List.set_cons_succ]
  clear hI9 hL
  have Ct:Hid (CW _ _ _):=CW.step (Ct.step HB2.out) HB9.out
  have Cf:Hid (CW _ _ _):=CW.step (Cf.step HB2.out) HB9.out
  have Cr:Hid (CW _ _ _):=CW.step (Cr.step HB2.out) HB9.out
  have HLV:Hid (Leaves ⟨fb,0,none⟩ W w5):=(HLV.out.step ((b_step HB2.out HB9.out).mono HB.out.size))
  have hc5:=c_after (b_step HB2.out HB9.out) hcV
  have hf5:=f_after (b_step HB2.out HB9.out) hcV hfV
  obtain ⟨hpf,hpt,hpr⟩:=HPX.out
  clear HPX
  have hWr:W.heap.size <= pr:=by omega
  have nfr:fb ≠ pr:=by omega
  clear HB2 HB9 CG LG CB HGT HLE HFR b0 b1 b2 b3 g0 g1 g2 t0 t1 t2 hcV hfV
  obtain ⟨r0,q0⟩:=Cr.out 0 _ rfl
  obtain ⟨r1,q1⟩:=Cr.out 1 _ rfl
  obtain ⟨r2,q2⟩:=Cr.out 2 _ rfl
  have u0:=(Cf.out 0 _ rfl).1
  have u1:=(Cf.out 1 _ rfl).1
  have u2:=(Cf.out 2 _ rfl).1
  have t0:=(Ct.out 0 _ rfl).1
  have t1:=(Ct.out 1 _ rfl).1
  have t2:=(Ct.out 2 _ rfl).1
  have ntr:pt ≠ pr:=by omega
  have nrt:pr ≠ pt:=by omega
  clear hpf hpt hpr
  by_cases hk:k = 16
  ·have e1:=HHV.out
   rw [if_pos hk] at e1
   obtain ⟨e3,e4⟩:=Prod.mk.inj e1
   have e2:hn = false:=by rw [HHN.out,hk];rfl
   subst hk
   clear e1 HHV HHN HAL
   subst e2 e3 e4
   go_wp2_with (fail)
   refine bodyPost_ret (v:=.tuple #[hv1.val,.int .i64 16]) (by simp [results,Tryz.results10,go_sem,r0,r1,r2];try rfl) rfl ?_
   refine ⟨rfl,(((HLV.out.set hWr _).set hWr _).set hWr _).done ?_ ?_⟩
   ·simp [go_sem,hc5]
   ·simp [go_sem,hf5]
  ·have hk2:((k:Int) == 16) = false:=beq_eq_false_iff_ne.2 (by omega)
   have e1:=HHV.out
   rw [if_neg hk] at e1
   have e2:alN f t k = hn:=by rw [HHN.out,decide_eq_true hk];rfl
   have e3:(if alN f t k then f else alV f t k) = hv1:=by
    have h9:=congrArg Prod.fst e1
    dsimp only at h9
    rw [h9]
    split <;> rfl
   have e4:(if alN f t k then 0 else (k:Int)) = ((hv2:Nat):Int):=by
    have h9:=congrArg Prod.snd e1
    dsimp only at h9
    rw [h9]
    split <;> rfl
   have hA3:=HAL.out k w5 hc5 hf5
   rw [e3,e4,e2] at hA3
   have HA2:Hid _:=hA3
   clear e1 e2 e3 e4 HHV HHN HAL hA3
   go_wp2_with (fail)
   refine Calls.mono HA2.out ?_
   rintro e V9 ⟨rfl,HA⟩
   have nrf:pr ≠ fb:=by omega
   have Cr:Hid (CW _ _ _):=Cr.out.after HA.out nrf
   have HLV:Hid (Leaves ⟨fb,0,none⟩ W V9):=HLV.out.same HA.out
   have hc9:=HA.out.cell
   have hf9:=HA.out.frozen
   clear HA HA2 r0 q0 r1 q1 r2 q2 u0 u1 u2 t0 t1 t2 hc5 hf5
   obtain ⟨r0,q0⟩:=Cr.out 0 _ rfl
   obtain ⟨r1,q1⟩:=Cr.out 1 _ rfl
   obtain ⟨r2,q2⟩:=Cr.out 2 _ rfl
   go_wp2_with (fail)
   refine bodyPost_ret (v:=.tuple #[hv1.val,.int .i64 ((hv2:Nat):Int)]) (by simp [results,Tryz.results10,go_sem,r0,r1,r2];try rfl) rfl ?_
   refine ⟨rfl,(((HLV.out.set hWr _).set hWr _).set hWr _).done ?_ ?_⟩
   ·simp [go_sem,hc9]
   ·simp [go_sem,hf9]
end
section
abbrev exC:Cr:=⟨[⟨3,0,0⟩],[],[],2⟩
theorem exd_told:told ⟨[⟨0,0,0⟩],[],[],2⟩ exC = (⟨1048576,0,0⟩,3 - 2 - 2):=by
 have d0:wayD ⟨0,0,0⟩ ⟨3,0,0⟩ = ⟨1,0,0⟩:=ex_short_n (n:=3) (by omega) (by omega)
 have hc:candL ⟨[⟨0,0,0⟩],[],[],2⟩ exC = [⟨1,0,0⟩]:=by
  unfold candL crossL wayL wayR wayG
  simp [d0]
 have ro1:room ⟨1048576,0,0⟩ [⟨0,0,0⟩] [⟨3,0,0⟩] = 3 * 1048576:=by
  unfold room loP hiP
  simp [loK,hiK,pt,Pt.dot]
 have ro2:room ⟨-1048576,0,0⟩ [⟨0,0,0⟩] [⟨3,0,0⟩] = (-3) * 1048576:=by
  unfold room loP hiP
  simp [loK,hiK,pt,Pt.dot]
 have hb:both (candL ⟨[⟨0,0,0⟩],[],[],2⟩ exC) = ⟨1048576,0,0⟩ :: ⟨-1048576,0,0⟩ :: []:=by
  rw [hc]
  simp only [both,ex_lng]
  rfl
 exact told_x hb (by simp) ro1 ro2 (by omega)
def exT:V3:=⟨33554432,0,0⟩
def exO:V3:=⟨0,0,0⟩
theorem ex_ball:ballC exO 2 = ⟨[⟨0,0,0⟩],[],[],2⟩:=rfl
theorem ex_way:wayZ exO exT = ⟨32,0,0⟩:=by decide
theorem exh_1:hK exO exT 2 [exB] = 8:=by
 unfold hK
 rw [ex_ball,ex_way]
 show holdK _ _ [exB] 1 = 8
 have e:cr [exB] 0 = exB:=rfl
 have hp:holdP ⟨[⟨0,0,0⟩],[],[],2⟩ ⟨32,0,0⟩ exB = true:=by
  unfold holdP
  rw [ex_cast,ex_castB (by decide) (Or.inl rfl)]
  rfl
 unfold holdK
 rw [e,hp,if_pos rfl,ex_cast]
 rfl
theorem exh_2:hK exO exT 2 [exC] = 16:=by
 unfold hK
 rw [ex_ball,ex_way]
 refine hold_none fun i hi=>?_
 have e:i = 0:=by simp at hi;exact hi
 subst e
 have e2:cr [exC] 0 = exC:=rfl
 rw [e2]
 unfold holdP
 cases hb:castB ⟨[⟨0,0,0⟩],[],[],2⟩ ⟨32,0,0⟩ exC with
 | false=>rfl
 | true =>
  have ha:apP ⟨[⟨0,0,0⟩],[],[],2⟩ exC = (⟨1048576,0,0⟩,3 - 2 - 2):=by
   unfold apP
   rw [show mayC ⟨[⟨0,0,0⟩],[],[],2⟩ = true from by decide,show mayC exC = true from by decide,Bool.and_self,if_pos rfl]
   exact exd_told
  have hr:castR ⟨[⟨0,0,0⟩],[],[],2⟩ ⟨32,0,0⟩ exC = (0,⟨1048576,0,0⟩,3 - 2 - 2):=by
   unfold castR
   rw [hb,if_pos rfl,ha,if_pos (by decide)]
  rw [hr]
  decide
theorem exv_1:holdV exO exT 2 [exB] = (⟨16777216,0,0⟩,8)/\holdN exO exT 2 [exB] = false:=by
 obtain ⟨h1,h2⟩:=al_small (f:=exO) (t:=exT) (k:=((8:Nat):Int)) (by unfold V3.in45 exO;decide) (by unfold V3.in45 exT;decide) (by decide)
 unfold holdV holdN
 rw [exh_1,if_neg (by decide),h2,h1]
 exact ⟨rfl,rfl⟩
theorem exv_2:holdV exO exT 2 [exC] = (exT,16)/\holdN exO exT 2 [exC] = false:=by
 unfold holdV holdN
 rw [exh_2,if_pos rfl]
 exact ⟨rfl,rfl⟩
def V3.m42 (v:V3):Prop:=(-4398046511104 <= v.x/\v.x <= 4398046511104)/\(-4398046511104 <= v.y/\v.y <= 4398046511104)/\(-4398046511104 <= v.z/\v.z <= 4398046511104)
def V3.n38 (g t:V3):Prop:=(-274877906944 <= t.x - g.x/\t.x - g.x <= 274877906944)/\(-274877906944 <= t.y - g.y/\t.y - g.y <= 274877906944)/\(-274877906944 <= t.z - g.z/\t.z - g.z <= 274877906944)
end
section
open Go.RowKit Go.Shelf
theorem hawake_any (w0:World):Calls Tryz.prog 9 #[] w0 fun e W=>e = .returned (.bool true)/\Below w0.heap.size w0 W:=by
 have bo:exO.i64:=by unfold V3.i64 exO;decide
 have bt:exT.i64:=by unfold V3.i64 exT;decide
 have h1:=fun (lv:Value) (fb:Nat) (W:World) hl hc hf=>hold_any exO exT 2 [exB] lv fb false W hl hc hf bo bt
 have h2:=fun (lv:Value) (fb:Nat) (W:World) hl hc hf=>hold_any exO exT 2 [exC] lv fb false W hl hc hf bo bt
 rw [exv_1.1,exv_1.2] at h1
 rw [exv_2.1,exv_2.2] at h2
 dsimp only [V3.val,exO,exT,Bool.or_false] at h1 h2
 have H1:Hid _:=h1
 have H2:Hid _:=h2
 clear h1 h2 bo bt
 obtain ⟨V,hV⟩:∃ V,V = (w0.alloc (.cells #[.bool false] 31)).alloc (.cells #[.int .i64 33554432,.int .i64 0,.int .i64 0] 23):=⟨_,rfl⟩
 obtain ⟨fb,hfb⟩:∃ b,b = w0.heap.size:=⟨_,rfl⟩
 obtain ⟨tb,htb⟩:∃ b,b = w0.heap.size + 1:=⟨_,rfl⟩
 have k1:=n_after w0 (.cells #[.bool false] 31)
 have k2:=n_after (w0.alloc (.cells #[.bool false] 31)) (.cells #[.int .i64 33554432,.int .i64 0,.int .i64 0] 23)
 have hcf:=(CW.new w0 [.bool false] 31).step k2
 have hct:=CW.new (w0.alloc (.cells #[.bool false] 31)) [.int .i64 33554432,.int .i64 0,.int .i64 0] 23
 rw [World.size_alloc,<- htb] at hct
 rw [<- hfb] at hcf
 rw [<- hV] at hcf hct
 obtain ⟨hfc,hff⟩:=hcf 0 _ rfl
 have CT:Hid (CW V tb [.int .i64 33554432,.int .i64 0,.int .i64 0]):=hct
 have HB:Hid (Below w0.heap.size w0 V):=by show Below _ _ _;rw [hV];exact b_step k1 k2
 have hne:tb ≠ fb:=by omega
 have HF0:Hid (w0.heap.size <= fb):=by show _ <= _;omega
 clear k1 k2 hcf hct
 go_enter Tryz.func9,Tryz.ntmps9
 go_upto_region 3 with fail
 rw [<- hV,<- htb,<- hfb]
 clear hV htb hfb
 have hfc0:=hfc
 obtain ⟨t0,_⟩:=CT.out 0 _ rfl
 obtain ⟨t1,_⟩:=CT.out 1 _ rfl
 obtain ⟨t2,_⟩:=CT.out 2 _ rfl
 obtain ⟨X1,hX1⟩:∃ X,X = (V.alloc (.cells #[.int .i64 20,.int .i64 0,.int .i64 0] 45)).alloc (.cells #[.slice (some ⟨V.heap.size,0,none⟩) 1 1,.slice none 0 0,.slice none 0 0,.int .i64 2] 28):=⟨_,rfl⟩
 obtain ⟨gb1,hgb1⟩:∃ b,b = V.heap.size + 1:=⟨_,rfl⟩
 have k1:=n_after V (.cells #[.int .i64 20,.int .i64 0,.int .i64 0] 45)
 have k2:=n_after (V.alloc (.cells #[.int .i64 20,.int .i64 0,.int .i64 0] 45)) (.cells #[.slice (some ⟨V.heap.size,0,none⟩) 1 1,.slice none 0 0,.slice none 0 0,.int .i64 2] 28)
 have c2:=Cel.new (V.alloc (.cells #[.int .i64 20,.int .i64 0,.int .i64 0] 45)) [.slice (some ⟨V.heap.size,0,none⟩) 1 1,.slice none 0 0,.slice none 0 0,.int .i64 2] 28
 have c1:=(Cel.new V [.int .i64 20,.int .i64 0,.int .i64 0] 45).step k2
 rw [World.size_alloc,<- hgb1] at c2
 rw [<- hX1] at c1 c2
 have hbx:Below V.heap.size V X1:=by rw [hX1];exact b_step k1 k2
 have HL1:Hid (LiesC X1 (.slice (some ⟨gb1,0,none⟩) 1 1) [exB]):=liesC_one (c:=exB) c2 (lies_one9 c1) (lies_nil9 _) (lies_nil9 _)
 have CT:Hid (CW _ _ _):=CT.out.step hbx
 have HB:Hid _:=b_step HB.out hbx
 have hfc:=c_after hbx hfc
 have hff:=f_after hbx hfc0 hff
 have HC1:Hid _:=H1.out _ fb X1 HL1.out hfc hff
 clear k1 k2 c1 c2 hbx HL1 H1 hfc hff hfc0
 go_wp2_with (fail)
 rw [<- hX1,<- hgb1]
 clear hX1 hgb1
 refine Calls.mono HC1.out ?_
 rintro e V3 ⟨rfl,HA⟩
 have HB:Hid _:=HA.out.on HB.out HF0.out
 have CT:Hid (CW _ _ _):=CT.out.after HA.out hne
 have hfc:=HA.out.cell
 have hff:=HA.out.frozen
 clear HA HC1 t0 t1 t2
 obtain ⟨V4,hV4⟩:∃ X,X = V3.alloc (.cells #[.int .i64 16777216,.int .i64 0,.int .i64 0] 23):=⟨_,rfl⟩
 obtain ⟨ab,hab⟩:∃ b,b = V3.heap.size:=⟨_,rfl⟩
 have k1:Below V3.heap.size V3 V4:=by rw [hV4];exact n_after _ _
 have CA:Hid (CW V4 ab [.int .i64 16777216,.int .i64 0,.int .i64 0]):=by show CW _ _ _;rw [hV4,hab];exact CW.new V3 [.int .i64 16777216,.int .i64 0,.int .i64 0] 23
 have HB:Hid _:=b_step HB.out k1
 have CT:Hid (CW _ _ _):=CT.out.step k1
 have hnab:ab ≠ fb:=by have:=World.block_lt_of_cell? _ _ hfc;dsimp only at this;omega
 have hff:=f_after k1 hfc hff
 have hfc:=c_after k1 hfc
 go_upto_region 4 with fail
 rw [<- hV4,<- hab]
 clear hV4 hab k1
 have hfc0:=hfc
 obtain ⟨t0,_⟩:=CT.out 0 _ rfl
 obtain ⟨t1,_⟩:=CT.out 1 _ rfl
 obtain ⟨t2,_⟩:=CT.out 2 _ rfl
 obtain ⟨X2,hX2⟩:∃ X,X = (V4.alloc (.cells #[.int .i64 3,.int .i64 0,.int .i64 0] 45)).alloc (.cells #[.slice (some ⟨V4.heap.size,0,none⟩) 1 1,.slice none 0 0,.slice none 0 0,.int .i64 2] 28):=⟨_,rfl⟩
 obtain ⟨gb2,hgb2⟩:∃ b,b = V4.heap.size + 1:=⟨_,rfl⟩
 have k1:=n_after V4 (.cells #[.int .i64 3,.int .i64 0,.int .i64 0] 45)
 have k2:=n_after (V4.alloc (.cells #[.int .i64 3,.int .i64 0,.int .i64 0] 45)) (.cells #[.slice (some ⟨V4.heap.size,0,none⟩) 1 1,.slice none 0 0,.slice none 0 0,.int .i64 2] 28)
 have c2:=Cel.new (V4.alloc (.cells #[.int .i64 3,.int .i64 0,.int .i64 0] 45)) [.slice (some ⟨V4.heap.size,0,none⟩) 1 1,.slice none 0 0,.slice none 0 0,.int .i64 2] 28
 have c1:=(Cel.new V4 [.int .i64 3,.int .i64 0,.int .i64 0] 45).step k2
 rw [World.size_alloc,<- hgb2] at c2
 rw [<- hX2] at c1 c2
 have hbx:Below V4.heap.size V4 X2:=by rw [hX2];exact b_step k1 k2
 have HL2:Hid (LiesC X2 (.slice (some ⟨gb2,0,none⟩) 1 1) [exC]):=liesC_one (c:=exC) c2 (lies_one9 c1) (lies_nil9 _) (lies_nil9 _)
 have CT:Hid (CW _ _ _):=CT.out.step hbx
 have CA:Hid (CW _ _ _):=CA.out.step hbx
 have HB:Hid _:=b_step HB.out hbx
 have hfc:=c_after hbx hfc
 have hff:=f_after hbx hfc0 hff
 have HC2:Hid _:=H2.out _ fb X2 HL2.out hfc hff
 clear k1 k2 c1 c2 hbx HL2 H2 hfc hff hfc0
 go_wp2_with (fail)
 rw [<- hX2,<- hgb2]
 clear hX2 hgb2
 refine Calls.mono HC2.out ?_
 rintro e V5 ⟨rfl,HA⟩
 have HB:Hid _:=HA.out.on HB.out HF0.out
 have CT:Hid (CW _ _ _):=CT.out.after HA.out hne
 have CA:Hid (CW _ _ _):=CA.out.after HA.out hnab
 have hfc:=HA.out.cell
 clear HA HC2 t0 t1 t2
 obtain ⟨V6,hV6⟩:∃ X,X = V5.alloc (.cells #[.int .i64 33554432,.int .i64 0,.int .i64 0] 23):=⟨_,rfl⟩
 obtain ⟨bb,hbb⟩:∃ b,b = V5.heap.size:=⟨_,rfl⟩
 have k1:Below V5.heap.size V5 V6:=by rw [hV6];exact n_after _ _
 have CB:Hid (CW V6 bb [.int .i64 33554432,.int .i64 0,.int .i64 0]):=by show CW _ _ _;rw [hV6,hbb];exact CW.new V5 [.int .i64 33554432,.int .i64 0,.int .i64 0] 23
 have HB:Hid _:=b_step HB.out k1
 have CT:Hid (CW _ _ _):=CT.out.step k1
 have CA:Hid (CW _ _ _):=CA.out.step k1
 have hfc:=c_after k1 hfc
 go_upto_region 5 with fail
 rw [<- hV6,<- hbb]
 clear hV6 hbb k1
 obtain ⟨t0,_⟩:=CT.out 0 _ rfl
 obtain ⟨t1,_⟩:=CT.out 1 _ rfl
 obtain ⟨t2,_⟩:=CT.out 2 _ rfl
 obtain ⟨a0,_⟩:=CA.out 0 _ rfl
 obtain ⟨a1,_⟩:=CA.out 1 _ rfl
 obtain ⟨a2,_⟩:=CA.out 2 _ rfl
 obtain ⟨b0,_⟩:=CB.out 0 _ rfl
 obtain ⟨b1,_⟩:=CB.out 1 _ rfl
 obtain ⟨b2,_⟩:=CB.out 2 _ rfl
 clear CT CA CB
 go_wp2_with (fail)
 go_ret
 exact ⟨rfl,HB.out⟩
end
section
open Go.RowKit Go.Shelf
def al (W:World):Option Obj->World
 | none=>W
 | some o=>W.alloc o
end
section
open Go.RowKit Go.Shelf
def highI (a b:Int):Int:=if b > a then b else a
def Pt.plus (p q:Pt):Pt:=⟨IntKind.i64.wrap (p.x + q.x),IntKind.i64.wrap (p.y + q.y),IntKind.i64.wrap (p.z + q.z)⟩
def Pt.greater (p q:Pt):Pt:=⟨highI p.x q.x,highI p.y q.y,highI p.z q.z⟩
def Pt.le (p q:Pt):Bool:=decide (p.x <= q.x/\p.y <= q.y/\p.z <= q.z)
structure Bx where
 lo:Pt
 hi:Pt
def Bx.v (b:Bx):Value:=.agg #[.int .i64 b.lo.x,.int .i64 b.lo.y,.int .i64 b.lo.z,.int .i64 b.hi.x,.int .i64 b.hi.y,.int .i64 b.hi.z]
end
end Go.Proofs.YtablgiflakncfaaGreat
