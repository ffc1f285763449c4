/- A region that draws its order, by one condition that every operation keeps, whatever order is drawn: each operation is looked at once. -/
import Derived.Test.YtkblcfgamnmbkaaGreatProg
import Derived.WalkKit
import Derived.Orders
import Derived.Below
import Derived.Laws.Rows
import Derived.RangeFuncNested
import Derived.RangeFuncBound
import Derived.RangeFuncCalls
import Derived.RangeFuncLeaves
import Derived.RangeFuncBox
import Derived.Shelf.Abstract
import Derived.OwnWalkIn
import Derived.TacticsInMore
import Derived.LoopNIn
import Derived.LoopIn
import Derived.LoopTactic
import Derived.ProofKit
import Derived.Handy
import Derived.RowKit
import Derived.Laws.MakeOwn
import Derived.Laws.OwnMore
import Derived.Maps.AppendAt
import Derived.Deep.RegionWith
import Derived.Deep.QuietTactic
import Derived.BigQuiet
import Derived.Deep.CutBlock
import Derived.Deep.CutRange
import Derived.Deep.LoopGhost
import Derived.Lib.SmallJoins
import Derived.OneCell
import Derived.WalkMore
set_option maxHeartbeats 4000000
set_option maxRecDepth 100000
set_option linter.unusedVariables false
namespace Go.Proofs.YtkblcfgamnmbkaaGreat
open Go.Calls renaming mono -> JA
open Go.World renaming block_lt_of_cell? -> JB
open Go.Region renaming binds -> JC
open Go renaming execOp -> JD
open List renaming set_cons_succ -> JF
open List renaming set_cons_zero -> JG
open List renaming setIfInBounds_toArray -> JH
open Go.Proofs.Tryz
open Go.Value renaming int -> J
open Go.IntKind renaming i64 -> K
open Go.Value renaming pointer -> BO
open Go.Obj renaming cells -> BP
open Go.Value renaming slice -> BQ
open Go.Value renaming bool -> BT
open Go.RowKit renaming Hid -> BU
open Go renaming World -> BV
open Go.Ending renaming returned -> BZ
open Go renaming Value -> B7
open Go.RowKit renaming Below -> B9
open Go.Value renaming agg -> B_
open Go renaming Calls -> Cd
open Go renaming Addr -> Ce
open Go renaming Act -> Cf
section
section
variable {P:Program} {ops:Array Oper} {Q:Exit->Cf->BV->Prop} {md:Region.Mode}
theorem Jic(I:Array Bool->Cf->BV->Prop)
  (dP:∀ listed a w i,listed.size=ops.size->i∈Region.ready md ops listed->I listed a w->wpOp P ops Q i (I (listed.setIfInBounds i true)) a w)
  (li:∀ listed a w,listed.size=ops.size->Region.ready md ops listed = []->I listed a w->Q .normal a w) :
  ∀(fuel:Nat) (listed:Array Bool) (a:Cf) (w:BV),listed.size=ops.size->listed.toList.count false<=fuel->I listed a w->wpAny P md ops Q fuel listed a w
 | 0,listed,a,w,hs,hf,h=>by
  have hr:Region.ready md ops listed = []:=by
   apply List.eq_nil_iff_forall_not_mem.2
   intro i hi;obtain⟨h0,o,ho,_⟩:=mem_ready.1 hi;have aG:i<listed.size:=by rw[hs];exact(Array.getElem?_eq_some_iff.1 ho).1
   have hm:false∈listed.toList:=by
    have:listed[i]=false:=by simpa [aG] using h0
    rw[<- this];exact Array.getElem_mem_toList aG
   have:=List.count_pos_iff.2 hm;omega
  exact⟨hr,li _ _ _ hs hr h⟩
 | fuel+1,listed,a,w,hs,hf,h=>by
  refine⟨fun hr=>li _ _ _ hs hr h,fun i hi=>?_⟩;have aG:i<listed.size:=by
   obtain⟨h0,o,ho,_⟩:=mem_ready.1 hi;rw[hs];exact(Array.getElem?_eq_some_iff.1 ho).1
  have hfalse:listed[i]=false:=by
   have:=(mem_ready.1 hi).1
   simpa [aG] using this
  refine wpOp_mono (fun a' w' h'=>?_) (dP _ _ _ _ hs hi h);refine Jic I dP li fuel _ a' w' (by simpa using hs) ?_ h';have hc:(listed.toList.set i true).count false+1=listed.toList.count false:=by
   have hl:i<listed.toList.length:=by simpa using aG
   rw[List.count_set hl];have:listed.toList[i]=false:=by simpa using hfalse
   simp only[this,beq_self_eq_true,if_true];have hm:false∈listed.toList:=by rw[<- this];exact List.getElem_mem hl
   have:=List.count_pos_iff.2 hm;have e:(true == false)=false:=rfl;simp only[e,Bool.false_eq_true,if_false];omega
  have:(listed.setIfInBounds i true).toList=listed.toList.set i true:=by simp
  rw[this];omega
def Jkh:List Oper->Nat->Bool
 | [],_=>true
 | o::rest,n=>(o.after.all fun e=>decide (e.on<n))&&Jkh rest (n+1)
theorem Jo6:∀(l:List Oper) (n i:Nat) (o:Oper),Jkh l n=true->l[i]?=some o->∀ e∈o.after,e.on<n+i
 | [],_,_,_,_,h=>by simp at h
 | x::rest,n,0,o,ht,h=>by
  simp only[Jkh,Bool.and_eq_true]at ht;simp only[List.getElem?_cons_zero,Option.some.injEq]at h;subst h;intro e he;have:=(Array.all_eq_true_iff_forall_mem.1 ht.1) e he
  simpa using this
 | x::rest,n,i+1,o,ht,h=>by
  simp only[Jkh,Bool.and_eq_true]at ht;intro e he;have:=Jo6 rest (n+1) i o ht.2 (by simpa using h) e he;omega
theorem Jm2{listed:Array Bool}(ht:Jkh ops.toList 0=true)(hr:Region.ready md ops listed = [])(hs:listed.size=ops.size):∀ i,i<ops.size->listed.getD i false=true:=by
 intro i
 induction i using Nat.strongRecOn with
 | _ i ih =>
  intro hi;cases hl:listed.getD i false with
  | true=>rfl
  | false =>
   exfalso
   have ho:ops[i]?=some ops[i]:=Array.getElem?_eq_getElem hi;have fQ:i∈Region.ready md ops listed:=by
    refine mem_ready.2 ⟨?_,ops[i],ho,fun e he _=>?_⟩
    ·have:i<listed.size:=by omega
     simp[this]at hl ⊢;exact hl
    ·have:=Jo6 ops.toList 0 i ops[i] ht (by simp[hi]) e he;exact ih e.on (by omega) (by omega)
   rw[hr]at fQ;simp at fQ
def Jam(ops:Array Oper)(j:Nat):Option Tmp:=(ops[j]?).bind (·.dst)
def Jai(ops:Array Oper)(j e:Nat):Prop:=∃ o,ops[j]?=some o/\∃ x∈o.after,JC .any x=true/\x.on=e
def Jmv(ops:List Oper):Bool:=(ops.filterMap (·.dst)).Nodup
structure Held(D:Nat->Option Tmp)(A:Nat->Nat->Prop)(val:(Nat->Nat)->Nat->B7)(G:(Nat->Nat)->(Nat->Bool)->BV->Prop)(a₀:Cf)(γ:Nat->Nat)(L:Nat->Bool)(a:Cf)(w:BV):Prop where
 defers:a.defers=a₀.defers
 size:a.tmps.size=a₀.tmps.size
 slot:∀(j:Nat) (t:Tmp),D j=some t->L j=true->a.tmps[t]?=some (val γ j)
 rest:∀ t:Tmp,(∀ j:Nat,D j≠some t)->a.tmps[t]?=a₀.tmps[t]?
 closed:∀ j e:Nat,A j e->L j=true->L e=true
 glob:G γ L w
def more(L:Nat->Bool)(i:Nat):Nat->Bool:=fun j=>decide (j=i)||L j
def Jbi(D:Nat->Option Tmp)(o:Oper)(a:Cf):Bool:=
 match o.guard with
 | none=>true
 | some (g,b)=>(match (D g).bind (a.tmps[·]?) with | some (BT x)=>some x | _=>none) == some b
theorem Je8(ops:Array Oper)(o:Oper)(a:Cf):Region.wanted o (yielded ops a.tmps)=Jbi (Jam ops) o a:=by
 unfold Region.wanted Jbi yielded Jam;cases o.guard <;> rfl
def Jci(P:Program)(Q:Exit->Cf->BV->Prop)(D:Nat->Option Tmp)(A:Nat->Nat->Prop)(val:(Nat->Nat)->Nat->B7)(G:(Nat->Nat)->(Nat->Bool)->BV->Prop)(a₀:Cf)(i:Nat)(o:Oper):Prop:=
 ∀(γ:Nat->Nat) (L:Nat->Bool) (a:Cf) (w:BV),Held D A val G a₀ γ L a w->L i=false->(∀ e∈o.after,JC .any e=true->L e.on=true) ->
  (Jbi D o a=true->o.wp P a w (fun a' w'=>∃ v γ',a'=a.put o.dst v/\(∀ j,L j=true->val γ' j=val γ j)/\(o.dst.isSome=true->v=val γ' i)/\G γ' (more L i) w') Q) /\
  (Jbi D o a=false->(o.dst.isSome=true->undef=val γ i)/\G γ (more L i) w)
theorem Ji7(hn:Jmv ops.toList=true){i j:Nat}{t:Tmp}(h:Jam ops i=some t)(h':Jam ops j=some t):i=j:=by
 have key:∀(l:List Oper),(l.filterMap (·.dst)).Nodup->∀(i j:Nat) (o o':Oper),l[i]?=some o->l[j]?=some o'->o.dst=some t->o'.dst=some t->i=j:=by
  intro l
  induction l with
  | nil=>intro _ i j o o' hi;simp at hi
  | cons x rest ih =>
   intro pF i j o o' hi hj h h';have qv:(rest.filterMap (·.dst)).Nodup:=by
    rw[List.filterMap_cons]at pF;cases hx:x.dst with
    | none=>simpa [hx] using pF
    | some d=>rw[hx]at pF;exact(List.nodup_cons.1 pF).2
   have di:x.dst=some t->t ∉ rest.filterMap (·.dst):=by
    intro hx;rw[List.filterMap_cons,hx]at pF;exact(List.nodup_cons.1 pF).1
   match i,j with
   | 0,0=>rfl
   | 0,j+1 =>
    simp only[List.getElem?_cons_zero,Option.some.injEq]at hi;subst hi;exact absurd (List.mem_filterMap.2 ⟨o',List.mem_of_getElem? (by simpa using hj),h'⟩) (di h)
   | i+1,0 =>
    simp only[List.getElem?_cons_zero,Option.some.injEq]at hj;subst hj;exact absurd (List.mem_filterMap.2 ⟨o,List.mem_of_getElem? (by simpa using hi),h⟩) (di h')
   | i+1,j+1=>have:=ih qv i j o o' (by simpa using hi) (by simpa using hj) h h';omega
 unfold Jam at h h';obtain⟨o,ho,hd⟩:=Option.bind_eq_some_iff.1 h;obtain⟨o',ho',hd'⟩:=Option.bind_eq_some_iff.1 h';exact key ops.toList (of_decide_eq_true hn) i j o o' (by simpa using ho) (by simpa using ho') hd hd'
def AllDo(P:Program)(Q:Exit->Cf->BV->Prop)(D:Nat->Option Tmp)(A:Nat->Nat->Prop)(val:(Nat->Nat)->Nat->B7)(G:(Nat->Nat)->(Nat->Bool)->BV->Prop)(a₀:Cf):List Oper->Nat->Prop
 | [],_=>True
 | o::rest,n=>Jci P Q D A val G a₀ n o/\AllDo P Q D A val G a₀ rest (n+1)
theorem Jfg{D:Nat->Option Tmp}{A:Nat->Nat->Prop}{val:(Nat->Nat)->Nat->B7}{G:(Nat->Nat)->(Nat->Bool)->BV->Prop}{a₀:Cf}:∀(l:List Oper) (n i:Nat) (o:Oper),AllDo P Q D A val G a₀ l n->l[i]?=some o->Jci P Q D A val G a₀ (n+i) o
 | [],_,_,_,_,h=>by simp at h
 | x::rest,n,0,o,ha,h=>by
  simp only[List.getElem?_cons_zero,Option.some.injEq]at h;subst h;exact ha.1
 | x::rest,n,i+1,o,ha,h=>by
  have:=Jfg rest (n+1) i o ha.2 (by simpa using h);rwa [show n+1+i=n+(i+1) by omega]at this
def Job(ops:List Oper)(n:Nat):Bool:=ops.all fun o=>match o.dst with | some t=>decide (t<n) | none=>true
theorem region_by{id:Nat}{a₀:Cf}{w:BV}(val:(Nat->Nat)->Nat->B7)(G:(Nat->Nat)->(Nat->Bool)->BV->Prop)(hm:P.follows .mixedOrders=true)
  (ht:Jkh ops.toList 0=true) (hn:Jmv ops.toList=true) (aP:Job ops.toList a₀.tmps.size=true)
  (γ₀:Nat->Nat) (h0:G γ₀ (fun _=>false) w.drew) (de:AllDo P Q (Jam ops) (Jai ops) val G a₀ ops.toList 0)
  (hq:∀(γ:Nat->Nat) (a:Cf) (w:BV) (L:Nat->Bool),(∀ j,j<ops.size->L j=true)->(∀ j,ops.size<=j->L j=false)->Held (Jam ops) (Jai ops) val G a₀ γ L a w->Q .normal a w) :
  (Code.region id ops true).wp P Q a₀ w:=by
 refine wp_region_any hm (Jic (fun listed a w=>∃ γ,Held (Jam ops) (Jai ops) val G a₀ γ (fun j=>listed.getD j false) a w) ?_ ?_ _ _ _ _ (by simp) (by simp) ?_)
 ·intro listed a w i hs hi hI;obtain⟨γ,hI⟩:=hI;obtain⟨hl,o,ho,hafter⟩:=mem_ready.1 hi;have aG:i<listed.size:=by rw[hs];exact(Array.getElem?_eq_some_iff.1 ho).1
  have hl':listed.getD i false=false:=by simp[aG]at hl ⊢;exact hl
  have hd:=Jfg ops.toList 0 i o de (by simpa using ho);rw[Nat.zero_add]at hd;have dP:=hd γ _ a w hI hl' hafter;have gL:Jam ops i=o.dst:=by simp[Jam,ho]
  suffices hmain:∀(a':Cf) (w':BV),(∃ v γ',a'=a.put o.dst v/\(∀ j,listed.getD j false=true->val γ' j=val γ j)/\(o.dst.isSome=true->v=val γ' i)/\G γ' (more (fun j=>listed.getD j false) i) w') ->
    ∃ γ,Held (Jam ops) (Jai ops) val G a₀ γ (fun j=>(listed.setIfInBounds i true).getD j false) a' w' by
   unfold wpOp;simp only[ho];cases hw:Region.wanted o (yielded ops a.tmps)
   ·rw[Je8]at hw;obtain⟨s1,s2⟩:=dP.2 hw;simp only[Bool.false_eq_true,if_false];exact hmain _ _ ⟨undef,γ,rfl,fun _ _=>rfl,s1,s2⟩
   ·rw[Je8]at hw;simp only[if_true];exact .inl (Oper.wp_mono hmain (dP.1 hw))
  rintro a' w' ⟨v,γ',rfl,lh,hJ,hG⟩;have ng:(fun j=>(listed.setIfInBounds i true).getD j false)=more (fun j=>listed.getD j false) i:=by
   funext j
   unfold more;by_cases e:j=i
   ·subst e;simp[aG]
   ·rw[getD_set_ne false (Ne.symm e)];simp[e]
  refine⟨γ',?_⟩;rw[ng];refine⟨?_,?_,?_,?_,?_,hG⟩
  ·cases hd:o.dst <;> simp[Act.put,hI.defers]
  ·cases hd:o.dst <;> simp[Act.put,hI.size]
  ·intro j t km sH;by_cases e:j=i
   ·subst e;rw[gL]at km;rw[<- hJ (by simp[km])];have hfit':t<a₀.tmps.size:=by
     have:=(List.all_eq_true.1 aP) o (List.mem_of_getElem? (by simpa using ho))
     simpa [km] using this
    simp[Act.put,km,hI.size,hfit']
   ·have hlj':listed.getD j false=true:=by simpa [more,e] using sH
    have hu:=hI.slot j t km hlj';rw[lh j hlj',<- hu];cases hd:o.dst with
    | none=>simp[Act.put]
    | some d =>
     have ak:d≠t:=fun e'=>e (Ji7 hn km (by rw[gL,hd,e']));simp only[Act.put];rw[Array.getElem?_setIfInBounds_ne ak]
  ·intro t di;rw[<- hI.rest t di];cases hd:o.dst with
   | none=>simp[Act.put]
   | some d =>
    have ak:d≠t:=fun e'=>di i (by rw[gL,hd,e']);simp only[Act.put];rw[Array.getElem?_setIfInBounds_ne ak]
  ·intro j e hA hj;by_cases h:j=i
   ·subst h;obtain⟨o',ho',x,hx,hb,rfl⟩:=hA;obtain rfl:o=o':=by rw[ho]at ho';exact Option.some.inj ho'
    have:=hafter x hx hb;simp only[more,this,Bool.or_true]
   ·have:=hI.closed j e hA (by simpa [more,h] using hj);simp only[more,this,Bool.or_true]
 ·rintro listed a w hs hr ⟨γ,hI⟩;exact hq γ a w _ (Jm2 ht hr hs) (fun j hj=>by
   have:¬ j<listed.size:=by omega
   simp[this]) hI
 ·refine⟨γ₀,rfl,rfl,fun j t hd hl=>?_,fun _ _=>rfl,fun j e _ hj=>?_,?_⟩
  ·exfalso
   by_cases e:j<ops.size <;> simp[e]at hl
  ·exfalso
   by_cases e:j<ops.size <;> simp[e]at hj
  ·have:(fun j=>(Array.replicate ops.size false).getD j false)=(fun _=>false):=by
    funext j
    by_cases e:j<ops.size <;> simp[e]
   rw[this];exact h0
end
end
section
open Go.RowKit
def Jf1:List Oper->Nat->Bool
 | [],_=>true
 | o::rest,n=>(o.after.all fun e=>!(JC .any e)||decide (e.on<n))&&Jf1 rest (n+1)
theorem Jlu:∀(l:List Oper) (n i:Nat) (o:Oper),Jf1 l n=true->l[i]?=some o->∀ e∈o.after,JC .any e=true->e.on<n+i
 | [],_,_,_,_,h=>by simp at h
 | x::rest,n,0,o,ht,h=>by
  simp only[Jf1,Bool.and_eq_true]at ht;simp only[List.getElem?_cons_zero,Option.some.injEq]at h;subst h;intro e he hb;have:=(Array.all_eq_true_iff_forall_mem.1 ht.1) e he;rw[hb]at this
  simpa using this
 | x::rest,n,i+1,o,ht,h=>by
  simp only[Jf1,Bool.and_eq_true]at ht;intro e he hb;have:=Jlu rest (n+1) i o ht.2 (by simpa using h) e he hb;omega
theorem Jll{ops:Array Oper}{listed:Array Bool}(ht:Jf1 ops.toList 0=true)(hr:Region.ready .any ops listed = [])(hs:listed.size=ops.size):∀ i,i<ops.size->listed.getD i false=true:=by
 intro i
 induction i using Nat.strongRecOn with
 | _ i ih =>
  intro hi;cases hl:listed.getD i false with
  | true=>rfl
  | false =>
   exfalso
   have ho:ops[i]?=some ops[i]:=Array.getElem?_eq_getElem hi;have fQ:i∈Region.ready .any ops listed:=by
    refine mem_ready.2 ⟨?_,ops[i],ho,fun e he hb=>?_⟩
    ·have:i<listed.size:=by omega
     simp[this]at hl ⊢;exact hl
    ·have:=Jlu ops.toList 0 i ops[i] ht (by simp[hi]) e he hb;exact ih e.on (by omega) (by omega)
   rw[hr]at fQ;simp at fQ
theorem Jmn:∀ {l:List Oper} {n:Nat},Jkh l n=true->Jf1 l n=true
 | [],_,_=>rfl
 | o::r,n,h=>by
  simp only[Jkh,Bool.and_eq_true]at h;simp only[Jf1,Bool.and_eq_true];refine⟨?_,Jmn h.2⟩;rw[Array.all_eq_true']at h ⊢;exact fun e he=>by rw[h.1 e he,Bool.or_true]
namespace RV
open Go.RowKit
def upd(γ:Nat->B7)(i:Nat)(v:B7):Nat->B7:=fun j=>if j=i then v else γ j
theorem upd_self(γ:Nat->B7)(i:Nat)(v:B7):upd γ i v i=v:=by simp[upd]
theorem upd_ne(γ:Nat->B7){i j:Nat}(v:B7)(h:j≠i):upd γ i v j = γ j:=by simp[upd,h]
section
variable {P:Program} {ops:Array Oper} {Q:Exit->Cf->BV->Prop}
structure Held(D:Nat->Option Tmp)(A:Nat->Nat->Prop)(R:Nat->B7->BV->Prop)(G:(Nat->B7)->(Nat->Bool)->BV->Prop)(a₀:Cf)(γ:Nat->B7)(L:Nat->Bool)(a:Cf)(w:BV):Prop where
 defers:a.defers=a₀.defers
 size:a.tmps.size=a₀.tmps.size
 slot:∀(j:Nat) (t:Tmp),D j=some t->L j=true->a.tmps[t]?=some (γ j)
 holds:∀ j:Nat,L j=true->R j (γ j) w
 early:∀ t:Tmp,(∀ j:Nat,D j=some t->L j=false)->a.tmps[t]?=a₀.tmps[t]?
 closed:∀ j e:Nat,A j e->L j=true->L e=true
 glob:G γ L w
theorem Held.rest{D:Nat->Option Tmp}{A:Nat->Nat->Prop}{R:Nat->B7->BV->Prop}{G:(Nat->B7)->(Nat->Bool)->BV->Prop}{a₀:Cf}{γ:Nat->B7}{L:Nat->Bool}{a:Cf}{w:BV}(h:Held D A R G a₀ γ L a w)(t:Tmp)(di:∀ j:Nat,D j≠some t):a.tmps[t]?=a₀.tmps[t]?:=h.early t fun j e=>absurd e (di j)
def Jci(P:Program)(Q:Exit->Cf->BV->Prop)(D:Nat->Option Tmp)(A:Nat->Nat->Prop)(R:Nat->B7->BV->Prop)(G:(Nat->B7)->(Nat->Bool)->BV->Prop)(a₀:Cf)(i:Nat)(o:Oper):Prop:=
 ∀(γ:Nat->B7) (L:Nat->Bool) (a:Cf) (w:BV),Held D A R G a₀ γ L a w->L i=false->(∀ e∈o.after,JC .any e=true->L e.on=true) ->
  (Jbi D o a=true->o.wp P a w (fun a' w'=>∃ v,a'=a.put o.dst v/\R i v w'/\(∀ j v,L j=true->R j v w->R j v w')/\G (upd γ i v) (more L i) w') Q) /\
  (Jbi D o a=false->R i undef w/\G (upd γ i undef) (more L i) w)
def AllDo(P:Program)(Q:Exit->Cf->BV->Prop)(D:Nat->Option Tmp)(A:Nat->Nat->Prop)(R:Nat->B7->BV->Prop)(G:(Nat->B7)->(Nat->Bool)->BV->Prop)(a₀:Cf):List Oper->Nat->Prop
 | [],_=>True
 | o::rest,n=>Jci P Q D A R G a₀ n o/\AllDo P Q D A R G a₀ rest (n+1)
theorem Held.got{D:Nat->Option Tmp}{A:Nat->Nat->Prop}{R:Nat->B7->BV->Prop}{G:(Nat->B7)->(Nat->Bool)->BV->Prop}{a₀:Cf}{γ:Nat->B7}{L:Nat->Bool}{a:Cf}{w:BV}(h:Held D A R G a₀ γ L a w){i:Nat}{t:Tmp}{v:B7}(d:D i=some t)(r:∀ u w,R i u w=(u=v))(l:L i=true):a.tmps[t]?=some v:=by
 have e:=h.slot i t d l;have g:=h.holds i l;rw[r]at g;rw[g]at e;exact e
theorem AllDo.name{P:Program}{Q:Exit->Cf->BV->Prop}{D:Nat->Option Tmp}{A:Nat->Nat->Prop}{R:Nat->B7->BV->Prop}{G:(Nat->B7)->(Nat->Bool)->BV->Prop}{a₀:Cf}{ops:List Oper}{k:Nat}(h:∀ R',R'=R->AllDo P Q D A R' G a₀ ops k):AllDo P Q D A R G a₀ ops k:=h R rfl
theorem AllDo.cons{D:Nat->Option Tmp}{A:Nat->Nat->Prop}{R:Nat->B7->BV->Prop}{G:(Nat->B7)->(Nat->Bool)->BV->Prop}{a₀:Cf}{o:Oper}{rest:List Oper}(k:Nat)(h:Jci P Q D A R G a₀ k o)(h':AllDo P Q D A R G a₀ rest (k+1)):AllDo P Q D A R G a₀ (o::rest) k:=⟨h,h'⟩
theorem AllDo.nil{D:Nat->Option Tmp}{A:Nat->Nat->Prop}{R:Nat->B7->BV->Prop}{G:(Nat->B7)->(Nat->Bool)->BV->Prop}{a₀:Cf}{k:Nat}:AllDo P Q D A R G a₀ [] k:=trivial
theorem Jfg{D:Nat->Option Tmp}{A:Nat->Nat->Prop}{R:Nat->B7->BV->Prop}{G:(Nat->B7)->(Nat->Bool)->BV->Prop}{a₀:Cf}:∀(l:List Oper) (n i:Nat) (o:Oper),AllDo P Q D A R G a₀ l n->l[i]?=some o->Jci P Q D A R G a₀ (n+i) o
 | [],_,_,_,_,h=>by simp at h
 | x::rest,n,0,o,ha,h=>by
  simp only[List.getElem?_cons_zero,Option.some.injEq]at h;subst h;exact ha.1
 | x::rest,n,i+1,o,ha,h=>by
  have:=Jfg rest (n+1) i o ha.2 (by simpa using h);rwa [show n+1+i=n+(i+1) by omega]at this
theorem Ji5{id:Nat}{a₀:Cf}{w:BV}(R:Nat->B7->BV->Prop)(G:(Nat->B7)->(Nat->Bool)->BV->Prop)(hm:P.follows .mixedOrders=true)
  (ht:Jf1 ops.toList 0=true) (hn:Jmv ops.toList=true) (aP:Job ops.toList a₀.tmps.size=true)
  (h0:G (fun _=>undef) (fun _=>false) w.drew) (de:AllDo P Q (Jam ops) (Jai ops) R G a₀ ops.toList 0)
  (hq:∀(γ:Nat->B7) (a:Cf) (w:BV) (L:Nat->Bool),(∀ j,j<ops.size->L j=true)->(∀ j,ops.size<=j->L j=false)->Held (Jam ops) (Jai ops) R G a₀ γ L a w->Q .normal a w) :
  (Code.region id ops true).wp P Q a₀ w:=by
 refine wp_region_any hm (Jic (fun listed a w=>∃ γ,Held (Jam ops) (Jai ops) R G a₀ γ (fun j=>listed.getD j false) a w) ?_ ?_ _ _ _ _ (by simp) (by simp) ?_)
 ·intro listed a w i hs hi hI;obtain⟨γ,hI⟩:=hI;obtain⟨hl,o,ho,hafter⟩:=mem_ready.1 hi;have aG:i<listed.size:=by rw[hs];exact(Array.getElem?_eq_some_iff.1 ho).1
  have hl':listed.getD i false=false:=by simp[aG]at hl ⊢;exact hl
  have hd:=Jfg ops.toList 0 i o de (by simpa using ho);rw[Nat.zero_add]at hd;have dP:=hd γ _ a w hI hl' hafter;have gL:Jam ops i=o.dst:=by simp[Jam,ho]
  suffices hmain:∀(a':Cf) (w':BV),(∃ v,a'=a.put o.dst v/\R i v w'/\(∀ j v,listed.getD j false=true->R j v w->R j v w')/\G (upd γ i v) (more (fun j=>listed.getD j false) i) w') ->
    ∃ γ,Held (Jam ops) (Jai ops) R G a₀ γ (fun j=>(listed.setIfInBounds i true).getD j false) a' w' by
   unfold wpOp;simp only[ho];cases hw:Region.wanted o (yielded ops a.tmps)
   ·rw[Je8]at hw;obtain⟨s1,s2⟩:=dP.2 hw;simp only[Bool.false_eq_true,if_false];exact hmain _ _ ⟨undef,rfl,s1,fun _ _ _ h=>h,s2⟩
   ·rw[Je8]at hw;simp only[if_true];exact .inl (Oper.wp_mono hmain (dP.1 hw))
  rintro a' w' ⟨v,rfl,hR,lh,hG⟩;have ng:(fun j=>(listed.setIfInBounds i true).getD j false)=more (fun j=>listed.getD j false) i:=by
   funext j
   unfold more;by_cases e:j=i
   ·subst e;simp[aG]
   ·rw[getD_set_ne false (Ne.symm e)];simp[e]
  refine⟨upd γ i v,?_⟩;rw[ng];refine⟨?_,?_,?_,?_,?_,?_,hG⟩
  ·cases hd:o.dst <;> simp[Act.put,hI.defers]
  ·cases hd:o.dst <;> simp[Act.put,hI.size]
  ·intro j t km sH;by_cases e:j=i
   ·subst e;rw[gL]at km;have hfit':t<a₀.tmps.size:=by
     have:=(List.all_eq_true.1 aP) o (List.mem_of_getElem? (by simpa using ho))
     simpa [km] using this
    simp[Act.put,km,hI.size,hfit',upd]
   ·have hlj':listed.getD j false=true:=by simpa [more,e] using sH
    have hu:=hI.slot j t km hlj';rw[upd_ne _ _ e,<- hu];cases hd:o.dst with
    | none=>simp[Act.put]
    | some d =>
     have ak:d≠t:=fun e'=>e (Ji7 hn km (by rw[gL,hd,e']));simp only[Act.put];rw[Array.getElem?_setIfInBounds_ne ak]
  ·intro j sH;by_cases e:j=i
   ·subst e;rw[upd_self];exact hR
   ·have hlj':listed.getD j false=true:=by simpa [more,e] using sH
    rw[upd_ne _ _ e];exact lh j _ hlj' (hI.holds j hlj')
  ·intro t di;have hno':∀ j,Jam ops j=some t->listed.getD j false=false:=fun j e=>by
    have:=di j e;by_cases h:j=i
    ·subst h;exact hl'
    ·simpa [more,h] using this
   rw[<- hI.early t hno'];cases hd:o.dst with
   | none=>simp[Act.put]
   | some d =>
    have ak:d≠t:=fun e'=>by have:=di i (by rw[gL,hd,e']);simp[more]at this
    simp only[Act.put];rw[Array.getElem?_setIfInBounds_ne ak]
  ·intro j e hA hj;by_cases h:j=i
   ·subst h;obtain⟨o',ho',x,hx,hb,rfl⟩:=hA;obtain rfl:o=o':=by rw[ho]at ho';exact Option.some.inj ho'
    have:=hafter x hx hb;simp only[more,this,Bool.or_true]
   ·have:=hI.closed j e hA (by simpa [more,h] using hj);simp only[more,this,Bool.or_true]
 ·rintro listed a w hs hr ⟨γ,hI⟩;exact hq γ a w _ (Jll ht hr hs) (fun j hj=>by have h9:¬ j<listed.size:=(by omega);simp[h9]) hI
 ·refine⟨fun _=>undef,rfl,rfl,fun j t hd hl=>?_,fun j hl=>?_,fun _ _=>rfl,fun j e _ hj=>?_,?_⟩
  ·exfalso
   by_cases e:j<ops.size <;> simp[e]at hl
  ·exfalso
   by_cases e:j<ops.size <;> simp[e]at hl
  ·exfalso
   by_cases e:j<ops.size <;> simp[e]at hj
  ·have:(fun j=>(Array.replicate ops.size false).getD j false)=(fun _=>false):=by
    funext j
    by_cases e:j<ops.size <;> simp[e]
   rw[this];exact h0
theorem region_by{id:Nat}{a₀:Cf}{w:BV}(R:Nat->B7->BV->Prop)(G:(Nat->B7)->(Nat->Bool)->BV->Prop)(hm:P.follows .mixedOrders=true)
  (ht:Jkh ops.toList 0=true) (hn:Jmv ops.toList=true) (aP:Job ops.toList a₀.tmps.size=true)
  (h0:G (fun _=>undef) (fun _=>false) w.drew) (de:AllDo P Q (Jam ops) (Jai ops) R G a₀ ops.toList 0)
  (hq:∀(γ:Nat->B7) (a:Cf) (w:BV) (L:Nat->Bool),(∀ j,j<ops.size->L j=true)->(∀ j,ops.size<=j->L j=false)->Held (Jam ops) (Jai ops) R G a₀ γ L a w->Q .normal a w) :
  (Code.region id ops true).wp P Q a₀ w:=
 Ji5 R G hm (Jmn ht) hn aP h0 de hq
variable {D:Nat->Option Tmp} {A:Nat->Nat->Prop} {R:Nat->B7->BV->Prop} {G:(Nat->B7)->(Nat->Bool)->BV->Prop} {a₀:Cf}
theorem J2{i:Nat}{o:Oper}(hG:∀ γ v L w,L i=false->G γ L w->G (upd γ i v) (more L i) w)
  (h:∀ γ L a w,Held D A R G a₀ γ L a w->L i=false->(∀ e∈o.after,JC .any e=true->L e.on=true)->∃ v,(JD a.eval o).run P w = .ok (.value v) w/\R i v w) (cR:o.guard=none:=by rfl):Jci P Q D A R G a₀ i o:=by
 intro γ L a w hH hl bA;refine⟨fun _=>?_,fun hw=>by simp[Jbi,cR]at hw⟩;obtain⟨v,hr,hR⟩:=h γ L a w hH hl bA;unfold Oper.wp;rw[hr];exact⟨v,rfl,hR,fun _ _ _ h=>h,hG _ _ _ _ hl hH.glob⟩
theorem does_step{i:Nat}{o:Oper}
  (h:∀ γ L a w,Held D A R G a₀ γ L a w->L i=false->(∀ e∈o.after,JC .any e=true->L e.on=true)->∃ v w',(JD a.eval o).run P w = .ok (.value v) w'/\R i v w'/\(∀ j v,L j=true->R j v w->R j v w')/\G (upd γ i v) (more L i) w') (cR:o.guard=none:=by rfl):Jci P Q D A R G a₀ i o:=by
 intro γ L a w hH hl bA;refine⟨fun _=>?_,fun hw=>by simp[Jbi,cR]at hw⟩;obtain⟨v,w',hr,hR,hk,hg⟩:=h γ L a w hH hl bA;unfold Oper.wp;rw[hr];exact⟨v,rfl,hR,hk,hg⟩
theorem does_store{i:Nat}{o:Oper}
  (h:∀ γ L a w,Held D A R G a₀ γ L a w->L i=false->(∀ e∈o.after,JC .any e=true->L e.on=true)->∃ w',(JD a.eval o).run P w = .ok .skip w'/\R i undef w'/\(∀ j v,L j=true->R j v w->R j v w')/\G (upd γ i undef) (more L i) w') (cR:o.guard=none:=by rfl):Jci P Q D A R G a₀ i o:=by
 intro γ L a w hH hl bA;refine⟨fun _=>?_,fun hw=>by simp[Jbi,cR]at hw⟩;obtain⟨w',hr,hR,hk,hg⟩:=h γ L a w hH hl bA;unfold Oper.wp;rw[hr];exact⟨undef,rfl,hR,hk,hg⟩
theorem Jbc{i:Nat}{o:Oper}
  (h:∀ γ L a w,Held D A R G a₀ γ L a w->L i=false->(∀ e∈o.after,JC .any e=true->L e.on=true)->∃ f args,(JD a.eval o).run P w = .ok (.enter f args) w/\Cd P f args w fun e w'=>∃ v,e = BZ v/\R i v w'/\(∀ j v,L j=true->R j v w->R j v w')/\G (upd γ i v) (more L i) w') (cR:o.guard=none:=by rfl):Jci P Q D A R G a₀ i o:=by
 intro γ L a w hH hl bA;refine⟨fun _=>?_,fun hw=>by simp[Jbi,cR]at hw⟩;obtain⟨f,args,hr,hc⟩:=h γ L a w hH hl bA;unfold Oper.wp;rw[hr];refine JA hc ?_;rintro e w' ⟨v,rfl,hR,hk,hg⟩;exact⟨v,rfl,hR,hk,hg⟩
theorem Jkm{i:Nat}{o:Oper}{g:Nat}{b:Bool}{t:Tmp}(cR:o.guard=some (g,b))(hD:D g=some t)(hs:∀ v w,R g v w->v = BT b)(he:⟨g,.guard⟩∈o.after)
  (h:Jci P Q D A R G a₀ i { o with guard:=none }):Jci P Q D A R G a₀ i o:=by
 intro γ L a w hH hl bA;have hL:=bA ⟨g,.guard⟩ he rfl;have fR:=hH.slot g t hD hL;rw[hs _ _ (hH.holds g hL)]at fR;refine⟨fun _=>(h γ L a w hH hl bA).1 rfl,fun hw=>?_⟩;simp[Jbi,cR,hD,fR]at hw
theorem does_skip{i:Nat}{o:Oper}{g:Nat}{b:Bool}{t:Tmp}(cR:o.guard=some (g,b))(hD:D g=some t)(hs:∀ v w,R g v w->v = BT (!b))(he:⟨g,.guard⟩∈o.after)
  (hi:∀ w,R i undef w) (hG:∀ γ v L w,L i=false->G γ L w->G (upd γ i v) (more L i) w):Jci P Q D A R G a₀ i o:=by
 intro γ L a w hH hl bA;have hL:=bA ⟨g,.guard⟩ he rfl;have fR:=hH.slot g t hD hL;rw[hs _ _ (hH.holds g hL)]at fR;refine⟨fun hw=>?_,fun _=>⟨hi _,hG _ _ _ _ hl hH.glob⟩⟩;simp[Jbi,cR,hD,fR]at hw
theorem Jt7{a:Cf}{γ:Nat->B7}{L:Nat->Bool}{w:BV}(hH:Held D A R G a₀ γ L a w){i j:Nat}(hA:A j i)(hl:L i=false):L j=false:=by
 cases h:L j with
 | false=>rfl
 | true=>rw[hH.closed j i hA h]at hl;cases hl
end
theorem Jz{L:Nat->Bool}{i j:Nat}(h:j≠i):more L i j=L j:=by simp[more,h]
theorem more_self{L:Nat->Bool}{i:Nat}:more L i i=true:=by simp[more]
theorem J6{ops:Array Oper}{t:Tmp}(h:(ops.toList.all fun o=>decide (o.dst≠some t))=true):∀ j,Jam ops j≠some t:=by
 intro j e;obtain⟨o,ho,hd⟩:=Option.bind_eq_some_iff.1 e;have:=(List.all_eq_true.1 h) o (List.mem_of_getElem? (by simpa using ho));simp[hd]at this
def putAll(v:Nat->B7):List Oper->Nat->Cf->Cf
 | [],_,a=>a
 | o::r,n,a=>putAll v r (n+1) (a.put o.dst (v n))
theorem Jf4(v:Nat->B7):∀(l:List Oper) (n:Nat) (a:Cf),(putAll v l n a).defers=a.defers
 | [],_,_=>rfl
 | o::r,n,a=>by
  rw[putAll,Jf4 v r];cases o.dst <;> simp[Act.put]
theorem Je1(v:Nat->B7){t:Tmp}:∀(l:List Oper) (n:Nat) (a:Cf),(∀ o∈l,o.dst≠some t)->(putAll v l n a).tmps[t]?=a.tmps[t]?
 | [],_,_,_=>rfl
 | o::r,n,a,h=>by
  rw[putAll,Je1 v r _ _ (fun x hx=>h x (List.mem_cons_of_mem _ hx))];have h0:=h o (by simp);cases hd:o.dst with
  | none=>simp[Act.put]
  | some d =>
   have ak:d≠t:=fun e=>h0 (by rw[hd,e]);simp only[Act.put];rw[Array.getElem?_setIfInBounds_ne ak]
theorem Jjk(v:Nat->B7){t:Tmp}:∀(l:List Oper) (n j:Nat) (o:Oper) (a:Cf),(l.filterMap (·.dst)).Nodup->l[j]?=some o->o.dst=some t->t<a.tmps.size->(putAll v l n a).tmps[t]?=some (v (n+j))
 | [],_,_,_,_,_,h,_,_=>by simp at h
 | x::r,n,0,o,a,hn,h,hd,ht=>by
  simp only[List.getElem?_cons_zero,Option.some.injEq]at h;subst h;rw[List.filterMap_cons,hd]at hn;have di:=(List.nodup_cons.1 hn).1;rw[putAll,Je1 v r _ _ (fun o ho e=>di (List.mem_filterMap.2 ⟨o,ho,e⟩))];simp[Act.put,hd,ht]
 | x::r,n,j+1,o,a,hn,h,hd,ht=>by
  have hr:(r.filterMap (·.dst)).Nodup:=by
   rw[List.filterMap_cons]at hn;cases hx:x.dst with
   | none=>simpa [hx] using hn
   | some d=>rw[hx]at hn;exact(List.nodup_cons.1 hn).2
  rw[putAll,Jjk v r (n+1) j o _ hr (by simpa using h) hd (by cases hx:x.dst <;> simpa [Act.put] using ht)]
  congr 2;omega
theorem held_act{ops:Array Oper}{A:Nat->Nat->Prop}{R:Nat->B7->BV->Prop}{G:(Nat->B7)->(Nat->Bool)->BV->Prop}{a₀ a:Cf}{γ:Nat->B7}{L:Nat->Bool}{w:BV}
  (h:Held (Jam ops) A R G a₀ γ L a w) (hL:∀ j,j<ops.size->L j=true) (hn:Jmv ops.toList=true) (hf:Job ops.toList a₀.tmps.size=true):a=putAll γ ops.toList 0 a₀:=by
 have hd:a.defers=(putAll γ ops.toList 0 a₀).defers:=by rw[Jf4];exact h.defers
 have ht:a.tmps=(putAll γ ops.toList 0 a₀).tmps:=by
  apply Array.ext_getElem?
  intro t;by_cases hx:∃(j:Nat) (o:Oper),ops.toList[j]?=some o/\o.dst=some t
  ·obtain⟨j,o,ho,hd⟩:=hx;have aP:t<a₀.tmps.size:=by
    have:=(List.all_eq_true.1 hf) o (List.mem_of_getElem? ho)
    simpa [hd] using this
   have ho':ops[j]?=some o:=by simpa using ho
   rw[Jjk γ ops.toList 0 j o a₀ (of_decide_eq_true hn) ho hd aP,Nat.zero_add];exact h.slot j t (by simp[Jam,ho',hd]) (hL j (Array.getElem?_eq_some_iff.1 ho').1)
  ·rw[Je1 γ ops.toList 0 a₀ (fun o ho e=>by
    obtain⟨j,hj⟩:=List.getElem?_of_mem ho;exact hx ⟨j,o,hj,e⟩)]
   refine h.rest t (fun j e=>?_);obtain⟨o,ho,hd⟩:=Option.bind_eq_some_iff.1 e;exact hx ⟨j,o,by simpa using ho,hd⟩
 cases a;cases hp:putAll γ ops.toList 0 a₀;rw[hp]at hd ht;simp only at hd ht;rw[hd,ht]
def Pend(W0:BV)(T i j:Nat)(fin:Array B7)(γ:Nat->B7)(L:Nat->Bool)(w:BV):Prop:=
 L i=true->∃(b:Nat) (cs:Array B7),γ i = BO (some ⟨b,0,none⟩)/\W0.heap.size<=b/\w.heap[b]?=some (BP cs T (0,0))/\cs.size=fin.size/\(L j=true->cs=fin)
section
variable {W0:BV} {T i j:Nat} {fin:Array B7} {γ:Nat->B7} {L:Nat->Bool} {w w':BV}
theorem Pend.start(h:L i=false):Pend W0 T i j fin γ L w:=fun e=>by rw[h]at e;cases e
theorem Pend.other(h:Pend W0 T i j fin γ L w){k:Nat}(v:B7)(hi:i≠k)(hj:j≠k):Pend W0 T i j fin (upd γ k v) (more L k) w:=by
 intro hl;rw[Jz hi]at hl;obtain⟨b,cs,h1,h2,h3,h4,h5⟩:=h hl;exact⟨b,cs,by rw[upd_ne _ _ hi];exact h1,h2,h3,h4,fun e=>h5 (by rw[Jz hj]at e;exact e)⟩
theorem Pend.below(h:Pend W0 T i j fin γ L w)(hb:B9 w.heap.size w w'):Pend W0 T i j fin γ L w':=by
 intro hl;obtain⟨b,cs,h1,h2,h3,h4,h5⟩:=h hl;exact⟨b,cs,h1,h2,(hb.block b (Array.getElem?_eq_some_iff.1 h3).1).trans h3,h4,h5⟩
theorem Pend.made(cs:Array B7)(hs:cs.size=fin.size)(hw:W0.heap.size<=w.heap.size)(hj:L j=false)(qo:j≠i):Pend W0 T i j fin (upd γ i (BO (some ⟨w.heap.size,0,none⟩))) (more L i) (w.alloc (BP cs T (0,0))):=by
 intro _;exact⟨w.heap.size,cs,by rw[upd_self],hw,heap_alloc_new _ _,hs,fun e=>by rw[Jz qo,hj]at e;cases e⟩
theorem Pend.filled{b:Nat}(hi:γ i = BO (some ⟨b,0,none⟩))(hb:W0.heap.size<=b)(hx:w'.heap[b]?=some (BP fin T (0,0)))(qo:i≠j)(v:B7):Pend W0 T i j fin (upd γ j v) (more L j) w':=by
 intro _;exact⟨b,fin,by rw[upd_ne _ _ qo];exact hi,hb,hx,rfl,fun _=>rfl⟩
end
abbrev cc:=@AllDo.cons
abbrev dp:=@J2
abbrev dc:=@Jbc
abbrev dg:=@Jkm
abbrev ny:=@Jt7
abbrev mn:=@Jz
end RV
abbrev BI:=@RV.upd_ne
abbrev BJ:=@RV.does_step
abbrev Bz:=@RV.does_store
abbrev BD:=@RV.more_self
abbrev Br:=@RV.cc
abbrev Bw:=@RV.dc
abbrev BH:=@RV.dg
abbrev Bu:=@RV.ny
abbrev Bt:=@RV.mn
end
section
namespace RV
open Go.RowKit
def Is:List (Option B7)->Nat->B7->BV->Prop
 | some x::_,0,v,_=>v=x
 | _::l,n+1,v,w=>Is l n v w
 | _,_,_,_=>True
theorem Is.at:∀ {l:List (Option B7)} {j:Nat} {v x:B7} {w:BV},Is l j v w->l[j]?=some (some x)->v=x
 | [],_,_,_,_,_,e=>by simp at e
 | some y::l,0,v,x,w,h,e=>by
  simp only[List.getElem?_cons_zero,Option.some.injEq]at e;rw[<- e];exact h
 | none::l,0,v,x,w,h,e=>by simp at e
 | some y::l,n+1,v,x,w,h,e=>Is.at (l:=l) (j:=n) (w:=w) h (by simpa using e)
 | none::l,n+1,v,x,w,h,e=>Is.at (l:=l) (j:=n) (w:=w) h (by simpa using e)
theorem Is.keep:∀ {l:List (Option B7)} {j:Nat} {v:B7} {w:BV} (w':BV),Is l j v w->Is l j v w'
 | [],_,_,_,_,_=>by simp only[Is]
 | some y::l,0,v,w,w',h=>h
 | none::l,0,v,w,w',h=>trivial
 | some y::l,n+1,v,w,w',h=>Is.keep (l:=l) (j:=n) (w:=w) w' h
 | none::l,n+1,v,w,w',h=>Is.keep (l:=l) (j:=n) (w:=w) w' h
def Jgb(o:Oper):Nat:=match o.dst with | none=>0 | some t=>t+1
def Slots(L:Nat->Bool)(a:Cf):List Nat->List (Option B7)->Nat->Prop
 |(t+1)::ds,some v::vs,n=>(L n=true->a.tmps[t]?=some v)/\Slots L a ds vs (n+1)
 | _::ds,_::vs,n=>Slots L a ds vs (n+1)
 | _,_,_=>True
def Outs(a:Cf):List (Nat × B7)->Prop
 | []=>True
 | x::r=>a.tmps[x.1]?=some x.2/\Outs a r
def free(ops:Array Oper)(E:List (Nat × B7)):Bool:=E.all fun x=>ops.toList.all fun o=>decide (o.dst≠some x.1)
def Jr9(ops:Array Oper)(j i:Nat):Bool:=match ops[j]? with | some o=>o.after.any fun e=>JC .any e&&e.on == i | none=>false
theorem wt{ops:Array Oper}{A:Nat->Nat->Prop}{j i:Nat}(hA:Jai ops=A)(h:Jr9 ops j i=true):A j i:=by
 rw[<- hA];unfold Jr9 at h;cases ho:ops[j]? with
 | none=>rw[ho]at h;cases h
 | some o =>
  rw[ho]at h;obtain⟨e,he,hb⟩:=Array.any_eq_true'.1 h;simp only[Bool.and_eq_true,beq_iff_eq]at hb;exact⟨o,ho,e,he,hb.1,hb.2⟩
section
variable {P:Program} {ops:Array Oper} {Q:Exit->Cf->BV->Prop}
theorem Jkr{D:Nat->Option Tmp}{A:Nat->Nat->Prop}{R:Nat->B7->BV->Prop}{G:(Nat->B7)->(Nat->Bool)->BV->Prop}{a₀:Cf}{γ:Nat->B7}{L:Nat->Bool}{a:Cf}{w:BV}(hD:Jam ops=D)(h:Held D A R G a₀ γ L a w):∀(E:List (Nat × B7)),free ops E=true->Outs a₀ E->Outs a E
 | [],_,_=>trivial
 | x::r,hf,ho=>by
  unfold free at hf;rw[List.all_cons,Bool.and_eq_true]at hf;refine⟨?_,Jkr hD h r hf.2 ho.2⟩;rw[h.rest x.1 (by rw[<- hD];exact J6 hf.1)];exact ho.1
theorem Jlo{D:Nat->Option Tmp}{A:Nat->Nat->Prop}{l:List (Option B7)}{G:(Nat->B7)->(Nat->Bool)->BV->Prop}{a₀:Cf}{γ:Nat->B7}{L:Nat->Bool}{a:Cf}{w:BV}(hD:Jam ops=D)(h:Held D A (Is l) G a₀ γ L a w):
  ∀(os:List Oper) (vs:List (Option B7)) (n:Nat),(∀ k,ops[n+k]?=os[k]?)->(∀ k,l[n+k]?=vs[k]?)->Slots L a (os.map Jgb) vs n
 | [],vs,n,_,_=>by simp only[List.map_nil,Slots]
 | o::os,[],n,_,_=>by rw[List.map_cons];cases Jgb o <;> trivial
 | o::os,v::vs,n,ho,hv=>by
  have ih:=Jlo hD h os vs (n+1) (fun k=>by have:=ho (k+1);rw[show n+(k+1)=n+1+k by omega]at this;simpa using this) (fun k=>by have:=hv (k+1);rw[show n+(k+1)=n+1+k by omega]at this;simpa using this);have o0:ops[n]?=some o:=by have:=ho 0;simpa using this
  have v0:l[n]?=some v:=by have:=hv 0;simpa using this
  rw[List.map_cons];cases hd:o.dst with
  | none=>rw[show Jgb o=0 by simp[Jgb,hd]];simp only[Slots];exact ih
  | some t =>
   rw[show Jgb o=t+1 by simp[Jgb,hd]];cases v with
   | none=>simp only[Slots];exact ih
   | some x =>
    simp only[Slots];refine⟨fun hl=>?_,ih⟩;rw[h.slot n t (by rw[<- hD];simp[Jam,o0,hd]) hl,Is.at (h.holds n hl) v0]
def putL(γ:Nat->B7):List (Option B7)->List Oper->Nat->Cf->Cf
 | some v::vs,o::os,n,a=>putL γ vs os (n+1) (a.put o.dst v)
 | none::vs,o::os,n,a=>putL γ vs os (n+1) (a.put o.dst (γ n))
 | _,_,_,a=>a
theorem Jpi(γ:Nat->B7):∀(os:List Oper) (vs:List (Option B7)) (n:Nat) (a:Cf),vs.length=os.length->(∀ k x,vs[k]?=some (some x)->γ (n+k)=x)->putAll γ os n a=putL γ vs os n a
 | [],vs,n,a,_,_=>by cases vs with | nil=>rfl | cons v vs=>cases v <;> rfl
 | o::os,[],n,a,hl,_=>by simp at hl
 | o::os,v::vs,n,a,hl,h=>by
  have ih:=fun b=>Jpi γ os vs (n+1) b (by simpa using hl) (fun k x e=>by rw[show n+1+k=n+(k+1) by omega];exact h (k+1) x (by simpa using e));cases v with
  | none=>rw[putAll,putL];exact ih _
  | some v=>rw[putAll,putL,show γ n=v from h 0 v (by simp)];exact ih _
theorem Jvp{A:Nat->Nat->Prop}{l:List (Option B7)}{G:(Nat->B7)->(Nat->Bool)->BV->Prop}{a₀ a:Cf}{γ:Nat->B7}{L:Nat->Bool}{w:BV}
  (h:Held (Jam ops) A (Is l) G a₀ γ L a w) (hL:∀ j,j<ops.size->L j=true) (hn:Jmv ops.toList=true) (hf:Job ops.toList a₀.tmps.size=true) (hs:l.length=ops.toList.length) :
  a=putL γ l ops.toList 0 a₀:=
 (held_act h hL hn hf).trans (Jpi γ _ _ 0 _ hs fun k x e=>by
  have hk:k<l.length:=(List.getElem?_eq_some_iff.1 e).1;rw[Nat.zero_add];exact Is.at (h.holds k (hL k (by rw[hs]at hk;simpa using hk))) e)
theorem Jqe{id:Nat}{a₀:Cf}{w:BV}(l:List (Option B7))(ds:List Nat)(E:List (Nat × B7))(G:(Nat->B7)->(Nat->Bool)->BV->Prop)(hm:P.follows .mixedOrders=true)
  (ht:Jf1 ops.toList 0=true) (hn:Jmv ops.toList=true) (aP:Job ops.toList a₀.tmps.size=true) (hd:ops.toList.map Jgb=ds) (hs:l.length=ops.toList.length) (hE:free ops E=true) (sI:Outs a₀ E)
  (h0:G (fun _=>undef) (fun _=>false) w.drew)
  (de:∀ D A Z,Jam ops=D->Jai ops=A->a₀ = Z->(∀ γ L a w,Held D A (Is l) G Z γ L a w->Outs a E/\Slots L a ds l 0)->AllDo P Q D A (Is l) G Z ops.toList 0)
  (hq:∀(γ:Nat->B7) (w:BV) (L:Nat->Bool),(∀ j,j<ops.size->L j=true)->(∀ j,L j=true->Is l j (γ j) w)->G γ L w->Q .normal (putL γ l ops.toList 0 a₀) w) :
  (Code.region id ops true).wp P Q a₀ w:=by
 refine Ji5 (Is l) G hm ht hn aP h0 (de _ _ _ rfl rfl rfl fun γ L a w h=>⟨Jkr rfl h E hE sI,?_⟩) fun γ a w L hL _ h=>?_
 ·rw[<- hd];exact Jlo rfl h _ l 0 (fun k=>by simp) (fun k=>by simp)
 ·rw[Jvp h hL hn aP hs];exact hq γ w L hL h.holds h.glob
theorem rs{id:Nat}{a₀:Cf}{w:BV}(l:List (Option B7))(ds:List Nat)(E:List (Nat × B7))(G:(Nat->B7)->(Nat->Bool)->BV->Prop)(sI:Outs a₀ E)
  (h0:G (fun _=>undef) (fun _=>false) w.drew)
  (de:∀ D A Z,Jam ops=D->Jai ops=A->a₀ = Z->(∀ γ L a w,Held D A (Is l) G Z γ L a w->Outs a E/\Slots L a ds l 0)->AllDo P Q D A (Is l) G Z ops.toList 0)
  (hq:∀(γ:Nat->B7) (w:BV) (L:Nat->Bool),(∀ j,j<ops.size->L j=true)->(∀ j,L j=true->Is l j (γ j) w)->G γ L w->Q .normal (putL γ l ops.toList 0 a₀) w)
  (hm:P.follows .mixedOrders=true:=by kernel_rfl) (ht:Jf1 ops.toList 0=true:=by kernel_rfl) (hn:Jmv ops.toList=true:=by kernel_rfl) (aP:Job ops.toList a₀.tmps.size=true:=by kernel_rfl) (hd:ops.toList.map Jgb=ds:=by kernel_rfl) (hs:l.length=ops.toList.length:=by kernel_rfl) (hE:free ops E=true:=by kernel_rfl) :
  (Code.region id ops true).wp P Q a₀ w:=Jqe l ds E G hm ht hn aP hd hs hE sI h0 de hq
variable {D:Nat->Option Tmp} {A:Nat->Nat->Prop} {l:List (Option B7)} {G:(Nat->B7)->(Nat->Bool)->BV->Prop} {a₀:Cf} {F:(Nat->Bool)->Cf->Prop}
theorem pu(T:∀ γ L a w,Held D A (Is l) G a₀ γ L a w->F L a){i:Nat}{o:Oper}(hG:∀ γ v L w,L i=false->G γ L w->G (upd γ i v) (more L i) w)
  (h:∀ γ L a w,Held D A (Is l) G a₀ γ L a w->L i=false->F L a->(∀ e∈o.after,JC .any e=true->L e.on=true)->∃ v,(JD a.eval o).run P w = .ok (.value v) w/\Is l i v w) (cR:o.guard=none:=by rfl):Jci P Q D A (Is l) G a₀ i o:=
 J2 hG (fun γ L a w hH hl hA=>h γ L a w hH hl (T γ L a w hH) hA) cR
def Kn(R:Nat->B7->BV->Prop):List (Option B7)->Nat->Prop
 | some x::l,n=>(∀ v w,R n v w↔v=x)/\Kn R l (n+1)
 | none::l,n=>Kn R l (n+1)
 | [],_=>True
theorem Kn.at{R:Nat->B7->BV->Prop}:∀ {l:List (Option B7)} {n k:Nat} {x:B7},Kn R l n->l[k]?=some (some x)->∀ v w,R (n+k) v w↔v=x
 | [],_,_,_,_,e=>by simp at e
 | some y::l,n,0,x,h,e=>by
  simp only[List.getElem?_cons_zero,Option.some.injEq]at e;rw[<- e];exact h.1
 | none::l,n,0,x,h,e=>by simp at e
 | some y::l,n,k+1,x,h,e=>by rw[show n+(k+1)=n+1+k by omega];exact Kn.at h.2 (by simpa using e)
 | none::l,n,k+1,x,h,e=>by rw[show n+(k+1)=n+1+k by omega];exact Kn.at (l:=l) h (by simpa using e)
theorem Jmx{D:Nat->Option Tmp}{A:Nat->Nat->Prop}{R:Nat->B7->BV->Prop}{l:List (Option B7)}{G:(Nat->B7)->(Nat->Bool)->BV->Prop}{a₀:Cf}{γ:Nat->B7}{L:Nat->Bool}{a:Cf}{w:BV}(hD:Jam ops=D)(hk:Kn R l 0)(h:Held D A R G a₀ γ L a w):
  ∀(os:List Oper) (vs:List (Option B7)) (n:Nat),(∀ k,ops[n+k]?=os[k]?)->(∀ k,l[n+k]?=vs[k]?)->Slots L a (os.map Jgb) vs n
 | [],vs,n,_,_=>by simp only[List.map_nil,Slots]
 | o::os,[],n,_,_=>by rw[List.map_cons];cases Jgb o <;> trivial
 | o::os,v::vs,n,ho,hv=>by
  have ih:=Jmx hD hk h os vs (n+1) (fun k=>by have:=ho (k+1);rw[show n+(k+1)=n+1+k by omega]at this;simpa using this) (fun k=>by have:=hv (k+1);rw[show n+(k+1)=n+1+k by omega]at this;simpa using this);have o0:ops[n]?=some o:=by have:=ho 0;simpa using this
  have v0:l[n]?=some v:=by have:=hv 0;simpa using this
  rw[List.map_cons];cases hd:o.dst with
  | none=>rw[show Jgb o=0 by simp[Jgb,hd]];simp only[Slots];exact ih
  | some t =>
   rw[show Jgb o=t+1 by simp[Jgb,hd]];cases v with
   | none=>simp only[Slots];exact ih
   | some x =>
    simp only[Slots];refine⟨fun hl=>?_,ih⟩;have:=(Kn.at hk v0 (γ n) w).1 (by rw[Nat.zero_add];exact h.holds n hl);rw[h.slot n t (by rw[<- hD];simp[Jam,o0,hd]) hl,this]
theorem kfacts{D:Nat->Option Tmp}{R:Nat->B7->BV->Prop}{a₀ Z:Cf}{l:List (Option B7)}(ds:List Nat)(E:List (Nat × B7))(hD:Jam ops=D)(hZ:a₀ = Z)(hk:Kn R l 0)(sI:Outs a₀ E)(hd:ops.toList.map Jgb=ds)(hE:free ops E=true):
  ∀(A:Nat->Nat->Prop) (G:(Nat->B7)->(Nat->Bool)->BV->Prop) (γ:Nat->B7) (L:Nat->Bool) (a:Cf) (w:BV),Held D A R G Z γ L a w->Outs a E/\Slots L a ds l 0:=fun A G γ L a w h =>
 ⟨Jkr hD h E hE (by rw[<- hZ];exact sI),by rw[<- hd];exact Jmx hD hk h _ l 0 (fun k=>by simp) (fun k=>by simp)⟩
theorem pk{D:Nat->Option Tmp}{A:Nat->Nat->Prop}{R:Nat->B7->BV->Prop}{G:(Nat->B7)->(Nat->Bool)->BV->Prop}{a₀:Cf}{l:List (Option B7)}{F:(Nat->Bool)->Cf->Prop}(hk:Kn R l 0)(T:∀(A:Nat->Nat->Prop) (G:(Nat->B7)->(Nat->Bool)->BV->Prop) (γ:Nat->B7) (L:Nat->Bool) (a:Cf) (w:BV),Held D A R G a₀ γ L a w->F L a){i:Nat}{o:Oper}(hG:∀ γ v L w,L i=false->G γ L w->G (upd γ i v) (more L i) w)
  (h:∀ γ L a w,Held D A R G a₀ γ L a w->L i=false->F L a->(∀ e∈o.after,JC .any e=true->L e.on=true)->∃ v,(JD a.eval o).run P w = .ok (.value v) w/\l[i]?=some (some v)) (cR:o.guard=none:=by rfl):Jci P Q D A R G a₀ i o:=
 J2 hG (fun γ L a w hH hl hA=>by
  obtain⟨v,hv,e⟩:=h γ L a w hH hl (T _ _ γ L a w hH) hA;have:=(Kn.at hk e v w).2 rfl;rw[Nat.zero_add]at this;exact⟨v,hv,this⟩) cR
end
end RV
abbrev Bv:=@RV.wt
abbrev Bq:=@RV.rs
abbrev Bs:=@RV.pu
abbrev BK:=@RV.pk
end
section
open Go.RowKit Go.Shelf
def al(W:BV):Option Obj->BV
 | none=>W
 | some o=>W.alloc o
end
section
structure Pt where
 x:Int
 y:Int
 z:Int
 deriving DecidableEq
def Pt.O:Pt:=⟨0,0,0⟩
def Pt.inB(p:Pt)(m:Int):Bool:=decide ((-m<=p.x/\p.x<=m)/\(-m<=p.y/\p.y<=m)/\(-m<=p.z/\p.z<=m))
theorem Pt.inB_iff(p:Pt)(m:Int):p.inB m=true↔(-m<=p.x/\p.x<=m)/\(-m<=p.y/\p.y<=m)/\(-m<=p.z/\p.z<=m):=by simp[Pt.inB]
def Pt.by(p:Pt)(n:Int):Pt:=⟨p.x.tdiv n,p.y.tdiv n,p.z.tdiv n⟩
def Pt.neg(p:Pt):Pt:=⟨-p.x,-p.y,-p.z⟩
def Pt.sub(p q:Pt):Pt:=⟨p.x-q.x,p.y-q.y,p.z-q.z⟩
def Pt.dot(p q:Pt):Int:=p.x*q.x+p.y*q.y+p.z*q.z
def Pt.cross(p q:Pt):Pt:=⟨p.y*q.z-p.z*q.y,p.z*q.x-p.x*q.z,p.x*q.y-p.y*q.x⟩
def Pt.g(p:Pt):Nat:=Nat.gcd (Nat.gcd p.x.natAbs p.y.natAbs) p.z.natAbs
def Pt.low(p:Pt):Pt:=if p.g=0 then p else p.by p.g
def Jcy:Nat->Pt->Pt
 | 0,p=>p
 | n+1,p=>if p.inB 1048576 then p else Jcy n (p.by 2)
def Pt.half(p:Pt):Pt:=Jcy 43 p
def Pt.short(p:Pt):Pt:=if p.inB 4398046511104 then p.low.half.low else Pt.O
theorem Jlq(a:Int)(n:Nat):(a.tdiv n).natAbs=a.natAbs / n:=Int.natAbs_tdiv a n
theorem Jkf(a:Int)(m:Int)(n:Nat)(h:-m<=a/\a<=m):-m<=a.tdiv n/\a.tdiv n<=m:=by
 have e:=Jlq a n;have:=Nat.div_le_self a.natAbs n;generalize a.natAbs / n=q at e this;omega
theorem Pt.by_in{p:Pt}{m:Int}(n:Nat)(h:p.inB m=true):(p.by n).inB m=true:=by
 rw[Pt.inB_iff]at h ⊢;exact⟨Jkf _ _ _ h.1,Jkf _ _ _ h.2.1,Jkf _ _ _ h.2.2⟩
theorem Pt.low_in{p:Pt}{m:Int}(h:p.inB m=true):p.low.inB m=true:=by
 unfold Pt.low
 split
 ·exact h
 ·exact Pt.by_in _ h
theorem Jk5(a m:Int)(h:-(2*m)<=a/\a<=2*m):-m<=a.tdiv 2/\a.tdiv 2<=m:=by
 have e:(a.tdiv 2).natAbs=a.natAbs / 2:=Jlq a 2;omega
theorem Jpr{p:Pt}{m:Int}(h:p.inB (2*m)=true):(p.by 2).inB m=true:=by
 rw[Pt.inB_iff]at h ⊢;exact⟨Jk5 _ _ h.1,Jk5 _ _ h.2.1,Jk5 _ _ h.2.2⟩
theorem J8{p:Pt}{m n:Int}(h:p.inB m=true)(k:m<=n):p.inB n=true:=by
 rw[Pt.inB_iff]at h ⊢;omega
theorem Jq8(n:Nat)(p:Pt)(h:p.inB (2 ^ n:Nat)=true):(Jcy n p).inB 1048576=true:=by
 induction n generalizing p with
 | zero=>exact J8 h (by decide)
 | succ n ih =>
  unfold Jcy
  split
  ·assumption
  ·refine ih _ (Jpr ?_);rw[Nat.pow_succ,Nat.mul_comm,Int.natCast_mul]at h;exact h
theorem Jpv{p:Pt}(h:p.inB 4398046511104=true):p.half.inB 1048576=true:=Jq8 43 p (J8 h (by decide))
theorem Jqa(n:Nat)(p:Pt)(h:p.inB 1048576=true):Jcy n p=p:=by
 cases n with
 | zero=>rfl
 | succ n=>simp[Jcy,h]
theorem Jgz(p:Pt):p.short.inB 1048576=true:=by
 unfold Pt.short
 split
 ·exact Pt.low_in (Jpv (Pt.low_in (by assumption)))
 ·decide
def pt(L:List Pt)(i:Nat):Pt:=L[i]?.getD Pt.O
theorem Ja2{L:List Pt}{i:Nat}(h:i<L.length):pt L i∈L:=by unfold pt;rw[List.getElem?_eq_getElem h];exact List.getElem_mem h
theorem Jd4{L:List Pt}{p:Pt}(h:p∈L):∃ i,i<L.length/\pt L i=p:=by
 obtain⟨i,hi,e⟩:=List.getElem_of_mem h;exact⟨i,hi,by unfold pt;rw[List.getElem?_eq_getElem hi,e];rfl⟩
theorem Jk0{L:List Pt}{i:Nat}(h:i<L.length):L.drop i=pt L i::L.drop (i+1):=by
 rw[List.drop_eq_getElem_cons h];unfold pt;rw[List.getElem?_eq_getElem h];rfl
theorem Jb6{L:List Pt}{i:Nat}(h:i<L.length):L.take (i+1)=L.take i ++ [pt L i]:=by
 rw[List.take_succ_eq_append_getElem h];unfold pt;rw[List.getElem?_eq_getElem h];rfl
theorem Juq{L:List Pt}{i n:Nat}(h:i<n):pt (L.take n) i=pt L i:=by unfold pt;rw[List.getElem?_take,if_pos h]
theorem Jra{L M:List Pt}(hl:L.length=M.length)(h:∀ i,i<L.length->pt L i=pt M i):L=M:=by
 apply List.ext_getElem hl
 intro i h1 h2;have:=h i h1;unfold pt at this;rw[List.getElem?_eq_getElem h1,List.getElem?_eq_getElem h2]at this;exact this
end
section
open Go.RowKit Go.Shelf
def Pt.v(p:Pt):B7:=B_ #[J K p.x,J K p.y,J K p.z]
def fl3:List Pt->List B7
 | []=>[]
 | p::r=>J K p.x::J K p.y::J K p.z::fl3 r
theorem Jev:∀ L:List Pt,(fl3 L).length=L.length*3
 | []=>rfl
 | p::r=>by simp only[fl3,List.length_cons,Jev r];omega
theorem Ja6:∀ A B:List Pt,fl3 (A++B)=fl3 A++fl3 B
 | [],B=>rfl
 | p::r,B=>by simp[fl3,Ja6 r B]
theorem Jik:∀(L:List Pt) (i:Nat),i<L.length->(fl3 L)[i*3]?=some (J K (L[i]?.getD Pt.O).x)/\(fl3 L)[i*3+1]?=some (J K (L[i]?.getD Pt.O).y)/\(fl3 L)[i*3+2]?=some (J K (L[i]?.getD Pt.O).z)
 | [],i,h=>by simp at h
 | p::r,0,_=>⟨rfl,rfl,rfl⟩
 | p::r,i+1,h=>by
  have:=Jik r i (by simpa using h);rw[show(i+1)*3=i*3+3 by omega]
  simpa [fl3] using this
theorem Jpe(L:List Pt):∀ u∈fl3 L,u.oneCell'=true:=by
 induction L with
 | nil=>intro u hu;cases hu
 | cons p r ih =>
  intro u hu;simp only[fl3,List.mem_cons]at hu;rcases hu with rfl | rfl | rfl | hu
  ·rfl
  ·rfl
  ·rfl
  ·exact ih u hu
theorem Jes:(Tryz.prog.info? 23).map (fun i=>(i.zero,i.size,i.bytes))=some (some (B_ #[J K 0,J K 0,J K 0]),3,24):=by kernel_rfl
theorem Jc{w w1 w2:BV}(h1:B9 w.heap.size w w1)(h2:B9 w1.heap.size w1 w2):B9 w.heap.size w w2:=h1.trans (h2.mono h1.size)
theorem Ja{w w1:BV}{p:Ce}{v:B7}(hb:B9 w.heap.size w w1)(hc:w.cell? p=some v):w1.cell? p=some v:=(hb.cell (JB _ _ hc)).trans hc
theorem Jb(w:BV)(o:Obj):B9 w.heap.size w (w.alloc o):=(Below.refl _ _).alloc (Nat.le_refl _) _
theorem Jm{w w1:BV}{p:Ce}{v:B7}(hb:B9 w.heap.size w w1)(hc:w.cell? p=some v)(hf:w.frozen? p=false):w1.frozen? p=false:=(hb.frozen (JB _ _ hc)).trans hf
theorem Jaw{p:Bool}{X Y:Prop}(h:(p=false/\X)\/(p=true/\Y))(hp:p=false):X:=by
 rcases h with h | h
 ·exact h.2
 ·rw[hp]at h;cases h.1
theorem Jl8{p:Bool}{X Y:Prop}(h:(p=false/\X)\/(p=true/\Y))(hp:p=true):Y:=by
 rcases h with h | h
 ·rw[hp]at h;cases h.1
 ·exact h.2
theorem w64{n:Int}(h1:-9223372036854775808<=n)(h2:n<=9223372036854775807):wrap64 n=n:=by unfold wrap64;omega
structure Box3(W:BV)(b:Nat)(q:Pt):Prop where
 c0:W.cell? ⟨b,0,none⟩=some (J K q.x)
 c1:W.cell? ⟨b,1,none⟩=some (J K q.y)
 c2:W.cell? ⟨b,2,none⟩=some (J K q.z)
 f0:W.frozen? ⟨b,0,none⟩=false
 f1:W.frozen? ⟨b,1,none⟩=false
 f2:W.frozen? ⟨b,2,none⟩=false
theorem Box3.step{A B:BV}{b:Nat}{q:Pt}(h:Box3 A b q)(hb:B9 A.heap.size A B):Box3 B b q:=
 ⟨Ja hb h.c0,Ja hb h.c1,Ja hb h.c2,Jm hb h.c0 h.f0,Jm hb h.c1 h.f1,Jm hb h.c2 h.f2⟩
theorem Box3.lt{W:BV}{b:Nat}{q:Pt}(h:Box3 W b q):b<W.heap.size:=JB _ _ h.c0
theorem Box3.new(w:BV)(x y z:Int)(t:TypeId):Box3 (w.alloc (BP #[J K x,J K y,J K z] t)) w.heap.size ⟨x,y,z⟩:=
 ⟨by simp,by simp,by simp,by simp[go_sem],by simp[go_sem],by simp[go_sem]⟩
def set3(W:BV)(b:Nat)(x y z:Int):BV:=((W.setCell ⟨b,0,none⟩ (J K x)).setCell ⟨b,1,none⟩ (J K y)).setCell ⟨b,2,none⟩ (J K z)
theorem Box3.set{W:BV}{b:Nat}{q:Pt}(h:Box3 W b q)(x y z:Int):Box3 (set3 W b x y z) b ⟨x,y,z⟩:=by
 obtain⟨c0,c1,c2,f0,f1,f2⟩:=h;unfold set3;exact⟨by simp[go_sem,c0],by simp[go_sem,c1],by simp[go_sem,c2],by simp[go_sem,f0],by simp[go_sem,f1],by simp[go_sem,f2]⟩
theorem Box3.other{W:BV}{b b':Nat}{q:Pt}(h:Box3 W b q)(ak:b'≠b)(x y z:Int):Box3 (set3 W b' x y z) b q:=by
 obtain⟨c0,c1,c2,f0,f1,f2⟩:=h;unfold set3;have hne':¬ b=b':=fun e=>ak e.symm;exact⟨by simp[go_sem,c0],by simp[go_sem,c1],by simp[go_sem,c2],by simp[go_sem,f0],by simp[go_sem,f1],by simp[go_sem,f2]⟩
theorem Jc7{n:Nat}{w W:BV}{b:Nat}(h:B9 n w W)(hb:n<=b)(x y z:Int):B9 n w (set3 W b x y z):=((h.setCell hb _).setCell hb _).setCell hb _
structure Lies(W:BV)(v:B7)(L:List Pt):Prop where
 form:∃ o cap,v = BQ o L.length cap/\L.length<=cap/\cap<=9223372036854775807/\∀ i,i<L.length->∃ g off,o=some ⟨g,off,none⟩/\W.cell? ⟨g,off+i*3,none⟩=some (J K (pt L i).x)/\W.cell? ⟨g,off+i*3+1,none⟩=some (J K (pt L i).y)/\W.cell? ⟨g,off+i*3+2,none⟩=some (J K (pt L i).z)
theorem Lies.of_row{W:BV}{base:Nat}{v:B7}{L:List Pt}(h:W.ownsRow base 23 3 v L.length (fl3 L)):Lies W v L:=by
 refine⟨?_⟩;rcases h.2 with ⟨rfl,h0⟩ |⟨g,cap,cur,rfl,hb,hg,h1,h2,h3,h4⟩
 ·exact⟨none,0,by rw[h0],by omega,by omega,fun i hi=>by omega⟩
 ·refine⟨_,cap,rfl,h1,by unfold maxLen at h2;omega,fun i hi=>⟨g,0,rfl,?_,?_,?_⟩⟩
  ·rw[Nat.zero_add];exact(h.cellAt (i*3) (by omega)).trans (Jik L i hi).1
  ·rw[Nat.zero_add];exact(h.cellAt (i*3+1) (by omega)).trans (Jik L i hi).2.1
  ·rw[Nat.zero_add];exact(h.cellAt (i*3+2) (by omega)).trans (Jik L i hi).2.2
theorem Lies.below{w W:BV}{v:B7}{L:List Pt}(h:Lies w v L)(hb:B9 w.heap.size w W):Lies W v L:=by
 obtain⟨o,cap,e,h1,h2,h3⟩:=h.form;refine⟨o,cap,e,h1,h2,fun i hi=>?_⟩;obtain⟨g,off,e,a,b,c⟩:=h3 i hi;exact⟨g,off,e,Ja hb a,Ja hb b,Ja hb c⟩
theorem Lies.cells{w:BV}{v:B7}{L:List Pt}(h:Lies w v L):∃ o cap,v = BQ o L.length cap/\L.length<=cap/\cap<=9223372036854775807/\(L = [] \/ ∃ g off,o=some ⟨g,off,none⟩/\∀ j u,(fl3 L)[j]?=some u->w.cell? ⟨g,off+j,none⟩=some u):=by
 obtain⟨o,cap,e,h1,h2,h3⟩:=h.form;refine⟨o,cap,e,h1,h2,?_⟩;by_cases h0:L.length=0
 ·exact Or.inl (List.length_eq_zero_iff.1 h0)
 ·right
  obtain⟨g,off,rfl,_⟩:=h3 0 (by omega);refine⟨g,off,rfl,fun j u hj=>?_⟩;have hl:j<L.length*3:=by rw[<- Jev];exact(List.getElem?_eq_some_iff.1 hj).1
  obtain⟨a0,a1,a2⟩:=Jik L (j / 3) (by omega);obtain⟨g',off',e',b0,b1,b2⟩:=h3 (j / 3) (by omega);simp only[Option.some.injEq,Addr.mk.injEq,and_true]at e';obtain⟨rfl,rfl⟩:=e';have:j%3=0\/j%3=1\/j%3=2:=by omega
  rcases this with e | e | e
  ·have ej:j / 3*3=j:=by omega
   rw[ej]at a0 b0;rw[a0]at hj;rw[<- hj];exact b0
  ·have ej:j / 3*3+1=j:=by omega
   rw[ej]at a1;rw[show off+j / 3*3+1=off+j by omega]at b1;rw[a1]at hj;rw[<- hj];exact b1
  ·have ej:j / 3*3+2=j:=by omega
   rw[ej]at a2;rw[show off+j / 3*3+2=off+j by omega]at b2;rw[a2]at hj;rw[<- hj];exact b2
structure Row(w V:BV)(u:B7)(M:List Pt):Prop where
 row:V.ownsRow w.heap.size 23 3 u M.length (fl3 M)
 below:B9 w.heap.size w V
theorem Row.step{w A B:BV}{u:B7}{M:List Pt}(h:Row w A u M)(hb:B9 A.heap.size A B):Row w B u M:=by
 refine⟨?_,h.below.trans (hb.mono h.below.size)⟩;cases e:u.ownBlock with
 | none=>exact h.row.kept ⟨hb.os,hb.tape,hb.output,hb.size,fun k hk _=>hb.block k hk⟩ (Or.inl e) (row:=none)
 | some k=>exact h.row.kept ⟨hb.os,hb.tape,hb.output,hb.size,fun k hk _=>hb.block k hk⟩ (Or.inr (by rw[e];simp)) (row:=none)
theorem Row.lies{w V:BV}{u:B7}{M:List Pt}(h:Row w V u M):Lies V u M:=Lies.of_row h.row
theorem Row.start(w:BV):Row w w (BQ none 0 0) []:=⟨World.ownsRow_nil _ _ _ _,Below.refl _ _⟩
theorem Jcj{w:BV}{vb:Nat}{x y z:B7}{t:TypeId}(h:w.heap[vb]?=some (BP #[x,y,z] t (0,0))):∀ j u,[x,y,z][j]?=some u->w.cell? ((⟨vb,0,none⟩:Ce).add j)=some u:=by
 intro j u hj;have ad:(⟨vb,0,none⟩:Ce).add j=⟨vb,j,none⟩:=by unfold Addr.add;split <;> simp_all
 rw[ad]
 match j,hj with
 | 0,hj=>simp at hj;subst hj;simp[World.cell?,h]
 | 1,hj=>simp at hj;subst hj;simp[World.cell?,h]
 | 2,hj=>simp at hj;subst hj;simp[World.cell?,h]
theorem Jfa{w W:BV}(h:B9 w.heap.size w W)(row:Option Nat):w.grownBy W row:=⟨h.os,h.tape,h.output,h.size,fun k hk _=>h.block k hk⟩
theorem Jq{A W:BV}{base:Nat}{t:TypeId}{sz n:Nat}{u:B7}{xs:List B7}(h:A.ownsRow base t sz u n xs)(hb:B9 A.heap.size A W):W.ownsRow base t sz u n xs:=by
 cases e:u.ownBlock with
 | none=>exact h.kept (Jfa hb none) (Or.inl e)
 | some k=>exact h.kept (Jfa hb none) (Or.inr (by rw[e];simp))
structure Grew(w W:BV)(u u':B7):Prop where
 grown:w.grownBy W u.ownBlock
 same:u'.ownBlock=u.ownBlock \/ ∃ k,u'.ownBlock=some k/\w.heap.size<=k
theorem Grew.below{w W:BV}(hb:B9 w.heap.size w W)(u:B7):Grew w W u u:=⟨Jfa hb _,Or.inl rfl⟩
theorem Grew.trans{w W X:BV}{u v x:B7}(h:Grew w W u v)(k:Grew W X v x):Grew w X u x:=by
 obtain⟨h1,h2⟩:=h;obtain⟨k1,k2⟩:=k;refine⟨⟨k1.os.trans h1.os,k1.tape.trans h1.tape,k1.output.trans h1.output,Nat.le_trans h1.size k1.size,fun i hi hn=>?_⟩,?_⟩
 ·refine(k1.block i (Nat.lt_of_lt_of_le hi h1.size) ?_).trans (h1.block i hi hn);rcases h2 with e |⟨j,e,hj⟩
  ·rw[e];exact hn
  ·rw[e];intro e';cases e';omega
 ·rcases k2 with e |⟨j,e,hj⟩
  ·rw[e];rcases h2 with e |⟨j,e,hj⟩
   ·exact Or.inl e
   ·exact Or.inr ⟨j,e,hj⟩
  ·exact Or.inr ⟨j,e,Nat.le_trans h1.size hj⟩
theorem Grew.on{w0 w W:BV}{u u':B7}{base:Nat}{t:TypeId}{sz n:Nat}{xs:List B7}(h:Grew w W u u')(hb:B9 base w0 w)(ho:w.ownsRow base t sz u n xs)(hB:base<=w.heap.size):B9 base w0 W:=hb.grown h.grown hB (fun k e=>(ho.lt k e).1)
theorem Grew.beside{w W:BV}{u u' x:B7}{base:Nat}{t:TypeId}{sz n:Nat}{xs:List B7}(h:Grew w W u u')(ho:w.ownsRow base t sz x n xs)(ak:∀ k,x.ownBlock=some k->u.ownBlock≠some k):
  W.ownsRow base t sz x n xs/\∀ k,x.ownBlock=some k->u'.ownBlock≠some k:=by
 refine⟨?_,fun k e e'=>?_⟩
 ·cases e:x.ownBlock with
  | none=>exact ho.kept h.grown (Or.inl e)
  | some k=>exact ho.kept h.grown (Or.inr (by rw[e];exact fun e'=>ak k e e'.symm))
 ·rcases h.same with s |⟨j,s,hj⟩
  ·rw[s]at e';exact ak k e e'
  ·rw[s]at e';cases e';have:=(ho.lt k e).2;omega
end
section
theorem Pt.ne_O{n:Pt}(h:n≠Pt.O):n.x≠0\/n.y≠0\/n.z≠0:=by
 cases n with
 | mk a b c =>
  simp only[Pt.O,ne_eq,Pt.mk.injEq]at h;dsimp only;omega
theorem Jqt{n x y z:Pt}(hn:n≠Pt.O)(h1:n.dot x=0)(h2:n.dot y=0)(h3:n.dot z=0):(x.cross y).dot z=0:=by
 have i1:(x.cross y).dot z*n.x=n.dot x*(y.cross z).x+n.dot y*(z.cross x).x+n.dot z*(x.cross y).x:=by simp only[Pt.dot,Pt.cross];grind
 have i2:(x.cross y).dot z*n.y=n.dot x*(y.cross z).y+n.dot y*(z.cross x).y+n.dot z*(x.cross y).y:=by simp only[Pt.dot,Pt.cross];grind
 have i3:(x.cross y).dot z*n.z=n.dot x*(y.cross z).z+n.dot y*(z.cross x).z+n.dot z*(x.cross y).z:=by simp only[Pt.dot,Pt.cross];grind
 rw[h1,h2,h3]at i1 i2 i3;simp only[Int.zero_mul,Int.add_zero]at i1 i2 i3;rcases Pt.ne_O hn with h | h | h
 ·exact(Int.mul_eq_zero.1 i1).resolve_right h
 ·exact(Int.mul_eq_zero.1 i2).resolve_right h
 ·exact(Int.mul_eq_zero.1 i3).resolve_right h
theorem Jow{u x y:Pt}(hu:u≠Pt.O)(h1:u.cross x=Pt.O)(h2:u.cross y=Pt.O):x.cross y=Pt.O:=by
 simp only[Pt.cross,Pt.O,Pt.mk.injEq]at *;obtain⟨a1,a2,a3⟩:=h1;obtain⟨b1,b2,b3⟩:=h2;have key:∀ k:Int,(k=u.x\/k=u.y\/k=u.z)->k*(x.y*y.z-x.z*y.y)=0/\k*(x.z*y.x-x.x*y.z)=0/\k*(x.x*y.y-x.y*y.x)=0:=by
  intro k hk;rcases hk with rfl | rfl | rfl
  ·refine⟨by grind,by grind,by grind⟩
  ·refine⟨by grind,by grind,by grind⟩
  ·refine⟨by grind,by grind,by grind⟩
 have:∃ k:Int,k≠0/\(k=u.x\/k=u.y\/k=u.z):=by
  rcases Pt.ne_O hu with h | h | h
  ·exact⟨_,h,Or.inl rfl⟩
  ·exact⟨_,h,Or.inr (Or.inl rfl)⟩
  ·exact⟨_,h,Or.inr (Or.inr rfl)⟩
 obtain⟨k,h0,hk⟩:=this;obtain⟨c1,c2,c3⟩:=key k hk;exact⟨(Int.mul_eq_zero.1 c1).resolve_left h0,(Int.mul_eq_zero.1 c2).resolve_left h0,(Int.mul_eq_zero.1 c3).resolve_left h0⟩
def vol(p q r s:Pt):Int:=((q.sub p).cross (r.sub p)).dot (s.sub p)
def Jee(L:List Pt):Bool:=L.all fun c=>L.all fun m=>decide (vol (pt L 0) (pt L 1) c m=0)
def Jtg(L:List Pt):Prop:=∀ p∈L,∀ q∈L,∀ r∈L,∀ s∈L,vol p q r s=0
theorem Jwa{a b:Pt}(h:a≠b):b.sub a≠Pt.O:=by
 intro e;cases a;cases b;simp only[Pt.sub,Pt.O,Pt.mk.injEq,ne_eq]at *;omega
theorem Jq6{L:List Pt}(h2:2<=L.length)(ak:pt L 0≠pt L 1):Jee L=true↔Jtg L:=by
 have m0:pt L 0∈L:=Ja2 (by omega);have m1:pt L 1∈L:=Ja2 (by omega);constructor
 ·intro h;have hv:∀ c∈L,∀ m∈L,vol (pt L 0) (pt L 1) c m=0:=by
   intro c hc m hm;have:=List.all_eq_true.1 (List.all_eq_true.1 h c hc) m hm
   simpa using this
  generalize pt L 0=a at *;generalize pt L 1=b at *;have hu:=Jwa ak;intro p hp q hq r hr s hs;by_cases hc:∃ c∈L,(b.sub a).cross (c.sub a)≠Pt.O
  ·obtain⟨c,hc,hn⟩:=hc;have d:∀ m∈L,((b.sub a).cross (c.sub a)).dot (m.sub a)=0:=fun m hm=>hv c hc m hm;generalize(b.sub a).cross (c.sub a)=n at *;have dd:∀ m∈L,n.dot (m.sub p)=0:=by
    intro m hm;have e1:=d m hm;have e2:=d p hp;have:n.dot (m.sub p)=n.dot (m.sub a)-n.dot (p.sub a):=by simp only[Pt.dot,Pt.sub];grind
    rw[this,e1,e2];rfl
   exact Jqt hn (dd q hq) (dd r hr) (dd s hs)
  ·have hl:∀ c∈L,(b.sub a).cross (c.sub a)=Pt.O:=fun c dl=>Classical.byContradiction fun e=>hc ⟨c,dl,e⟩;have ll:∀ c∈L,(b.sub a).cross (c.sub p)=Pt.O:=by
    intro c dl;have e1:=hl c dl;have e2:=hl p hp;generalize b.sub a=u at *;simp only[Pt.cross,Pt.sub,Pt.O,Pt.mk.injEq]at *;refine⟨by grind,by grind,by grind⟩
   have:=Jow hu (ll q hq) (ll r hr);unfold vol;rw[this];simp[Pt.dot,Pt.O]
 ·intro h;refine List.all_eq_true.2 fun c hc=>List.all_eq_true.2 fun m hm=>?_
  simpa using h _ m0 _ m1 c hc m hm
def Jv6(L:List Pt):Prop:=∀ i k m o,m<k->k<i->i<L.length->o<L.length->vol (pt L m) (pt L k) (pt L i) (pt L o)=0
theorem Jpz{L:List Pt}(h2:2<=L.length)(ak:pt L 0≠pt L 1):Jv6 L↔Jee L=true:=by
 constructor
 ·intro h;refine List.all_eq_true.2 fun c hc=>List.all_eq_true.2 fun m hm=>?_;obtain⟨i,hi,rfl⟩:=Jd4 hc;obtain⟨o,ho,rfl⟩:=Jd4 hm;by_cases e0:i=0
  ·subst e0;rw[decide_eq_true_eq];simp only[vol,Pt.cross,Pt.sub,Pt.dot]
   grind
  ·by_cases e1:i=1
   ·subst e1;rw[decide_eq_true_eq];simp only[vol,Pt.cross,Pt.sub,Pt.dot]
    grind
   ·simpa using h i 1 0 o (by omega) (by omega) hi ho
 ·intro h i k m o h1 h3 hi ho;exact(Jq6 h2 ak).1 h _ (Ja2 (by omega)) _ (Ja2 (by omega)) _ (Ja2 hi) _ (Ja2 ho)
def Jj8(L:List Pt)(n a:Pt):Bool:=L.any fun m=>decide (0<n.dot (m.sub a))
def below(L:List Pt)(n a:Pt):Bool:=L.any fun m=>decide (n.dot (m.sub a)<0)
def Jbk(A:List Pt)(n:Pt):List Pt:=if n∈A then A else A ++ [n]
def Jp2(E:List Pt)(e:Pt):List Pt:=if e.short∈E\/e.short.neg∈E then E else E ++ [e.short]
def Jm7(E:List Pt)(more:List Pt):List Pt:=more.foldl Jp2 E
def Jn7(L:List Pt)(a b c:Pt)(s:List Pt × List Pt):List Pt × List Pt:=
 let n:=(b.sub a).cross (c.sub a)
 if n=Pt.O\/(Jj8 L n a=true/\below L n a=true) then s
 else (Jbk s.1 (if Jj8 L n a then n.neg else n).short,Jm7 s.2 [b.sub a,c.sub a,c.sub b])
def Jin(L:List Pt)(a b:Pt):List Pt->List Pt × List Pt->List Pt × List Pt
 | [],s=>s
 | c::r,s=>Jin L a b r (Jn7 L a b c s)
def Jmy(L:List Pt)(a:Pt):List Pt->List Pt × List Pt->List Pt × List Pt
 | [],s=>s
 | b::r,s=>Jmy L a r (Jin L a b r s)
def Jdl(L:List Pt):List Pt->List Pt × List Pt->List Pt × List Pt
 | [],s=>s
 | a::r,s=>Jdl L r (Jmy L a r s)
def Jep(L:List Pt):List Pt × List Pt:=Jdl L L ([],[])
end
section
theorem mul_in{a b A B:Int}(ha:-A<=a/\a<=A)(hb:-B<=b/\b<=B):-(A*B)<=a*b/\a*b<=A*B:=by
 have h1:=Int.mul_nonneg (show 0<=A-a by omega) (show 0<=B-b by omega);have h2:=Int.mul_nonneg (show 0<=A+a by omega) (show 0<=B+b by omega);have h3:=Int.mul_nonneg (show 0<=A-a by omega) (show 0<=B+b by omega);have h4:=Int.mul_nonneg (show 0<=A+a by omega) (show 0<=B-b by omega);simp only[Int.mul_add,Int.add_mul,Int.mul_sub,Int.sub_mul]at h1 h2 h3 h4;omega
theorem Jja{p q:Pt}(hp:p.inB 131072=true)(hq:q.inB 131072=true):(p.cross q).inB 34359738368=true:=by
 rw[Pt.inB_iff]at *;unfold Pt.cross;dsimp only;obtain⟨a1,a2,a3⟩:=hp;obtain⟨b1,b2,b3⟩:=hq;have h1:=mul_in a2 b3;have h2:=mul_in a3 b2;have h3:=mul_in a3 b1;have h4:=mul_in a1 b3;have h5:=mul_in a1 b2;have h6:=mul_in a2 b1;omega
theorem Jcq{p q:Pt}{m:Int}(hp:p.inB m=true)(hq:q.inB m=true):(p.sub q).inB (2*m)=true:=by
 rw[Pt.inB_iff]at *;unfold Pt.sub;dsimp only;omega
end
section
open Go.RowKit Go.Shelf
theorem Jlj(n a b:Int)(w:BV):
  Cd Tryz.prog 149 #[J K n,J K a,J K b] w fun e w'=>e = BZ (BT (decide (a<=n/\n<=b)))/\w'=w:=by
 by_cases h1:a<=n
 ·go_enter func149,ntmps149;go_wp2;go_ret;exact⟨by simp[h1],rfl⟩
 ·go_enter func149,ntmps149;go_wp2;go_ret;exact⟨by simp;omega,rfl⟩
theorem Jjb(p q:Pt)(w:BV)(hp:p.inB 1152921504606846976=true)(hq:q.inB 1152921504606846976=true):
  Cd Tryz.prog 154 #[p.v,q.v] w fun e W=>e = BZ (p.sub q).v/\B9 w.heap.size w W:=by
 obtain⟨x,y,z⟩:=p;obtain⟨x',y',z'⟩:=q;rw[Pt.inB_iff]at hp hq;unfold Pt.v Pt.sub;dsimp only at *;go_enter func154,ntmps154;go_wp2;exact bodyPost_ret (v:=B_ #[J K (x-x'),J K (y-y'),J K (z-z')]) (by simp[results,results154,go_sem]) rfl ⟨rfl,(((Below.refl _ w).alloc (Nat.le_refl _) _).alloc (by simp) _).alloc (by simp;omega) _⟩
theorem Jbj{x y A B:Int}(hx:-A<=x/\x<=A)(hy:-B<=y/\y<=B)(h:A*B<=1152921504606846976):-1152921504606846976<=x*y/\x*y<=1152921504606846976:=by
 have:=mul_in hx hy;omega
theorem Jtx(p q:Pt)(w:BV)(hp:p.inB 34359738368=true)(hq:q.inB 131072=true):
  Cd Tryz.prog 153 #[p.v,q.v] w fun e W=>e = BZ (J K (p.dot q))/\B9 w.heap.size w W:=by
 obtain⟨x,y,z⟩:=p;obtain⟨x',y',z'⟩:=q;rw[Pt.inB_iff]at hp hq;unfold Pt.v Pt.dot;dsimp only at *;have h1:=Jbj hp.1 hq.1 (by decide);have h2:=Jbj hp.2.1 hq.2.1 (by decide);have h3:=Jbj hp.2.2 hq.2.2 (by decide);clear hp hq;go_enter func153,ntmps153;go_wp2;go_ret;exact⟨rfl,((Below.refl _ w).alloc (Nat.le_refl _) _).alloc (by simp) _⟩
theorem Jqc(p q:Pt)(w:BV)(hp:p.inB 131072=true)(hq:q.inB 131072=true):
  Cd Tryz.prog 189 #[p.v,q.v] w fun e W=>e = BZ (p.cross q).v/\B9 w.heap.size w W:=by
 obtain⟨x,y,z⟩:=p;obtain⟨x',y',z'⟩:=q;rw[Pt.inB_iff]at hp hq;unfold Pt.v Pt.cross;dsimp only at *;have h1:=Jbj hp.2.1 hq.2.2 (by decide);have h2:=Jbj hp.2.2 hq.2.1 (by decide);have h3:=Jbj hp.2.2 hq.1 (by decide);have h4:=Jbj hp.1 hq.2.2 (by decide);have h5:=Jbj hp.1 hq.2.1 (by decide);have h6:=Jbj hp.2.1 hq.1 (by decide);clear hp hq;go_enter func189,ntmps189;go_wp2;refine bodyPost_ret (v:=B_ #[J K (y*z'-z*y'),J K (z*x'-x*z'),J K (x*y'-y*x')]) ?_ rfl ⟨rfl,(((Below.refl _ w).alloc (Nat.le_refl _) _).alloc (by simp) _).alloc (by simp;omega) _⟩;simp[results,results189,go_sem]
theorem Jom(a b c:Pt)(w0:BV)(ha:a.inB 65536=true)(hb:b.inB 65536=true)(hc:c.inB 65536=true):
  Cd Tryz.prog 152 #[a.v,b.v,c.v] w0 fun e W=>e = BZ ((b.sub a).cross (c.sub a)).v/\B9 w0.heap.size w0 W:=by
 have L1:BU _:=fun w'=>Jjb b a w' (J8 hb (by decide)) (J8 ha (by decide));have L2:BU _:=fun w'=>Jjb c a w' (J8 hc (by decide)) (J8 ha (by decide));have L3:BU _:=fun w'=>Jqc (b.sub a) (c.sub a) w' (Jcq hb ha) (Jcq hc ha);clear ha hb hc;obtain⟨ax,ay,az⟩:=a;obtain⟨bx,dk,bz⟩:=b;obtain⟨cx,cy,cz⟩:=c;unfold Pt.v Pt.sub Pt.cross at *;dsimp only at *;go_enter func152,ntmps152;go_wp2_with (fail);obtain⟨V,hV⟩:∃ V:BV,V=((((w0.alloc (BP #[J K ax,J K ay,J K az] 23)).alloc (BP #[J K bx,J K dk,J K bz] 23)).alloc (BP #[J K cx,J K cy,J K cz] 23)).alloc (BP #[J K 0,J K 0,J K 0] 23)):=⟨_,rfl⟩
 have iU:B9 w0.heap.size w0 V:=by rw[hV];exact(((((Below.refl _ w0).alloc (by simp;try omega) _).alloc (by simp;try omega) _).alloc (by simp;try omega) _).alloc (by simp;try omega) _)
 have eN:V.cell? ⟨w0.heap.size,0,none⟩=some (J K ax):=by rw[hV];simp[go_sem]
 have eO:V.cell? ⟨w0.heap.size,1,none⟩=some (J K ay):=by rw[hV];simp[go_sem]
 have eQ:V.cell? ⟨w0.heap.size,2,none⟩=some (J K az):=by rw[hV];simp[go_sem]
 have gM:V.cell? ⟨w0.heap.size+1,0,none⟩=some (J K bx):=by rw[hV];simp[go_sem]
 have gN:V.cell? ⟨w0.heap.size+1,1,none⟩=some (J K dk):=by rw[hV];simp[go_sem]
 have gO:V.cell? ⟨w0.heap.size+1,2,none⟩=some (J K bz):=by rw[hV];simp[go_sem]
 have nq:V.cell? ⟨w0.heap.size+1+1,0,none⟩=some (J K cx):=by rw[hV];simp[go_sem]
 have nt:V.cell? ⟨w0.heap.size+1+1,1,none⟩=some (J K cy):=by rw[hV];simp[go_sem]
 have nA:V.cell? ⟨w0.heap.size+1+1,2,none⟩=some (J K cz):=by rw[hV];simp[go_sem]
 have gP:V.cell? ⟨w0.heap.size+1+1+1,0,none⟩=some (J K 0):=by rw[hV];simp[go_sem]
 have gQ:V.cell? ⟨w0.heap.size+1+1+1,1,none⟩=some (J K 0):=by rw[hV];simp[go_sem]
 have gR:V.cell? ⟨w0.heap.size+1+1+1,2,none⟩=some (J K 0):=by rw[hV];simp[go_sem]
 have ko:V.frozen? ⟨w0.heap.size+1+1+1,0,none⟩=false:=by rw[hV];simp[go_sem]
 have kq:V.frozen? ⟨w0.heap.size+1+1+1,1,none⟩=false:=by rw[hV];simp[go_sem]
 have kr:V.frozen? ⟨w0.heap.size+1+1+1,2,none⟩=false:=by rw[hV];simp[go_sem]
 rw[<- hV];clear hV;refine Bq [.some (B_ #[J K bx,J K dk,J K bz]),.some (B_ #[J K ax,J K ay,J K az]),.some (B_ #[J K (bx-ax),J K (dk-ay),J K (bz-az)]),.some (B_ #[J K cx,J K cy,J K cz]),.some (B_ #[J K ax,J K ay,J K az]),.some (B_ #[J K (cx-ax),J K (cy-ay),J K (cz-az)]),.some (B_ #[J K ((dk-ay)*(cz-az)-(bz-az)*(cy-ay)),J K ((bz-az)*(cx-ax)-(bx-ax)*(cz-az)),J K ((bx-ax)*(cy-ay)-(dk-ay)*(cx-ax))]),none] [8,9,10,11,12,13,14,0] [(3,BO (some ⟨w0.heap.size,0,none⟩)),(4,BO (some ⟨w0.heap.size+1,0,none⟩)),(5,BO (some ⟨w0.heap.size+1+1,0,none⟩)),(6,BO (some ⟨w0.heap.size+1+1+1,0,none⟩))] (fun γ L w9=>(L 7=false/\B9 V.heap.size V w9)\/(L 7=true/\∃ w,B9 V.heap.size V w/\w9=(((w.setCell ⟨w0.heap.size+1+1+1,0,none⟩ (J K ((dk-ay)*(cz-az)-(bz-az)*(cy-ay)))).setCell ⟨w0.heap.size+1+1+1,1,none⟩ (J K ((bz-az)*(cx-ax)-(bx-ax)*(cz-az)))).setCell ⟨w0.heap.size+1+1+1,2,none⟩ (J K ((bx-ax)*(cy-ay)-(dk-ay)*(cx-ax)))))) ⟨rfl,rfl,rfl,rfl,trivial⟩ ?_ ?_ ?_
 ·exact Or.inl ⟨rfl,(Below.refl _ V).drew⟩
 ·intro D WA Z hD ah hZ T;simp only[RV.Outs,RV.Slots,Nat.reduceAdd]at T
  iterate 2 (refine Br _ (Bs T (fun γ v L w hl h=>by rw[Bt (L:=L) (i:=_) (j:=7) (by decide)];exact h) (fun γ L a w hH hl h9 k9=>⟨_,?_,rfl⟩)) ?_;· have ai:=Jaw hH.glob (Bu hH (Bv (j:=7) ah (by kernel_rfl)) hl);have q0:=Ja ai gM;have q1:=Ja ai gN;have q2:=Ja ai gO;have q3:=Ja ai eN;have q4:=Ja ai eO;have q5:=Ja ai eQ;simp[JD,go_sem,h9,q0,q1,q2,q3,q4,q5])
  refine Br _ (Bw (fun γ L a w hH hl hA=>by have h9:=T γ L a w hH;have k9:=hA;simp[JC]at k9;have ai:=Jaw hH.glob (Bu hH (Bv (j:=7) (i:=2) ah (by kernel_rfl)) hl);exact⟨154,#[B_ #[J K bx,J K dk,J K bz],B_ #[J K ax,J K ay,J K az]],by simp[go_sem,h9,k9],JA (L1.out w) (by rintro e w2 ⟨rfl,hb⟩;exact⟨_,rfl,rfl,fun j v _ h=>h.keep _,Or.inl ⟨by rw[Bt (L:=L) (i:=2) (j:=7) (by decide)];exact Bu hH (Bv (j:=7) (i:=2) ah (by kernel_rfl)) hl,ai.trans (hb.mono ai.size)⟩⟩)⟩)) ?_
  iterate 2 (refine Br _ (Bs T (fun γ v L w hl h=>by rw[Bt (L:=L) (i:=_) (j:=7) (by decide)];exact h) (fun γ L a w hH hl h9 k9=>⟨_,?_,rfl⟩)) ?_;· have ai:=Jaw hH.glob (Bu hH (Bv (j:=7) ah (by kernel_rfl)) hl);have q0:=Ja ai nq;have q1:=Ja ai nt;have q2:=Ja ai nA;have q3:=Ja ai eN;have q4:=Ja ai eO;have q5:=Ja ai eQ;simp[JD,go_sem,h9,q0,q1,q2,q3,q4,q5])
  refine Br _ (Bw (fun γ L a w hH hl hA=>by have h9:=T γ L a w hH;have k9:=hA;simp[JC]at k9;have ai:=Jaw hH.glob (Bu hH (Bv (j:=7) (i:=5) ah (by kernel_rfl)) hl);exact⟨154,#[B_ #[J K cx,J K cy,J K cz],B_ #[J K ax,J K ay,J K az]],by simp[go_sem,h9,k9],JA (L2.out w) (by rintro e w2 ⟨rfl,hb⟩;exact⟨_,rfl,rfl,fun j v _ h=>h.keep _,Or.inl ⟨by rw[Bt (L:=L) (i:=5) (j:=7) (by decide)];exact Bu hH (Bv (j:=7) (i:=5) ah (by kernel_rfl)) hl,ai.trans (hb.mono ai.size)⟩⟩)⟩)) ?_;refine Br _ (Bw (fun γ L a w hH hl hA=>by have h9:=T γ L a w hH;have k9:=hA;simp[JC]at k9;have ai:=Jaw hH.glob (Bu hH (Bv (j:=7) (i:=6) ah (by kernel_rfl)) hl);exact⟨189,#[B_ #[J K (bx-ax),J K (dk-ay),J K (bz-az)],B_ #[J K (cx-ax),J K (cy-ay),J K (cz-az)]],by simp[go_sem,h9,k9],JA (L3.out w) (by rintro e w2 ⟨rfl,hb⟩;exact⟨_,rfl,rfl,fun j v _ h=>h.keep _,Or.inl ⟨by rw[Bt (L:=L) (i:=6) (j:=7) (by decide)];exact Bu hH (Bv (j:=7) (i:=6) ah (by kernel_rfl)) hl,ai.trans (hb.mono ai.size)⟩⟩)⟩)) ?_;refine Br _ (Bz (fun γ L a w hH hl hA=>by have h9:=T γ L a w hH;have k9:=hA;simp[JC]at k9;have ai:=Jaw hH.glob hl;have z0:=Ja ai gP;have cX:=Jm ai gP ko;have z1:=Ja ai gQ;have cY:=Jm ai gQ kq;have z2:=Ja ai gR;have cZ:=Jm ai gR kr;exact⟨(((w.setCell ⟨w0.heap.size+1+1+1,0,none⟩ (J K ((dk-ay)*(cz-az)-(bz-az)*(cy-ay)))).setCell ⟨w0.heap.size+1+1+1,1,none⟩ (J K ((bz-az)*(cx-ax)-(bx-ax)*(cz-az)))).setCell ⟨w0.heap.size+1+1+1,2,none⟩ (J K ((bx-ax)*(cy-ay)-(dk-ay)*(cx-ax)))),by simp[JD,go_sem,z0,cX,z1,cY,z2,cZ,h9,k9],trivial,fun j v _ h=>h.keep _,Or.inr ⟨BD,w,ai,rfl⟩⟩)) ?_;exact RV.AllDo.nil
 ·intro γ w5 L9 hL aX aD;obtain⟨w8,bB,rfl⟩:=Jl8 aD (hL 7 (by decide));clear hL aX aD;simp only[RV.putL,Act.put,JH,JG,JF];have q0:=Ja bB gP;have q1:=Ja bB gQ;have q2:=Ja bB gR;go_wp2;refine bodyPost_ret (v:=B_ #[J K ((dk-ay)*(cz-az)-(bz-az)*(cy-ay)),J K ((bz-az)*(cx-ax)-(bx-ax)*(cz-az)),J K ((bx-ax)*(cy-ay)-(dk-ay)*(cx-ax))]) (by simp[results,results152,go_sem,q0,q1,q2]) rfl ⟨rfl,?_⟩;exact((((iU.trans (bB.mono iU.size)).setCell (by simp;omega) _).setCell (by simp;omega) _).setCell (by simp;omega) _)
theorem Jni(p:Pt)(m:Int)(w:BV)(hm:0<=m)(hm':m<=1152921504606846976):
  Cd Tryz.prog 187 #[p.v,J K m] w fun e W=>e = BZ (BT (p.inB m))/\B9 w.heap.size w W:=by
 obtain⟨x,y,z⟩:=p;have HE:BU (∀ b:Bool,(b=true↔(-m<=x/\x<=m)/\(-m<=y/\y<=m)/\(-m<=z/\z<=m))->Pt.inB ⟨x,y,z⟩ m=b):=fun b h=>by
  rw[Bool.eq_iff_iff,h,Pt.inB_iff]
 unfold Pt.v;go_enter func187,ntmps187;go_wp2
 all_goals
  go_ret;exact⟨congrArg (fun b=>Ending.returned (BT b)) (HE.out _ ⟨fun h=>by first |(cases h;done) | omega |(have h':=of_decide_eq_true h;omega),fun h=>by first | rfl |(exfalso;omega) | exact decide_eq_true (by omega)⟩).symm,Jb w _⟩
theorem Jnt{a b B:Nat}(ha:a<=B)(hb:b<=B):Nat.gcd a b<=B:=by
 by_cases h:a=0
 ·subst h;rw[Nat.gcd_zero_left];exact hb
 ·exact Nat.le_trans (Nat.le_of_dvd (by omega) (Nat.gcd_dvd_left a b)) ha
theorem Jlf(k:Nat)(q:Pt)(h:q.inB 1048576=false)(hb:q.inB (2 ^ k:Nat)=true):∃ j,k=j+1/\Jcy k q=Jcy j (q.by 2)/\(q.by 2).inB (2 ^ j:Nat)=true:=by
 cases k with
 | zero=>rw[J8 hb (by decide)]at h;cases h
 | succ j =>
  refine⟨j,rfl,by rw[Jcy,if_neg (by rw[h];decide)],Jpr ?_⟩;rw[Nat.pow_succ,Nat.mul_comm,Int.natCast_mul]at hb;exact hb
theorem Jsk(k:Nat)(h:k<=43):(((2 ^ k:Nat):Nat):Int)<=8796093022208:=by
 have:=Nat.pow_le_pow_right (n:=2) (by decide) h;have e:2 ^ 43=8796093022208:=by decide
 omega
theorem Jbl(p q:Pt):p=q↔p.x=q.x/\p.y=q.y/\p.z=q.z:=by cases p;cases q;simp
theorem Jqu(v:B7)(L:List Pt)(p:Pt)(w:BV)(hv:Lies w v L):
  Cd Tryz.prog 204 #[v,p.v] w fun e W=>∃ k:Int,e = BZ (J K k)/\(0<=k↔p∈L)/\B9 w.heap.size w W:=by
 obtain⟨o,c,rfl,fE,fF,ar⟩:=hv.form;have HC:BU _:=ar;have bx:BU (Box3 (w.alloc (BP #[J K p.x,J K p.y,J K p.z] 23)) w.heap.size p):=Box3.new w p.x p.y p.z _;have hB:BU (B9 w.heap.size w (w.alloc (BP #[J K p.x,J K p.y,J K p.z] 23))):=Jb w _;clear hv ar;unfold Pt.v;go_enter func204,ntmps204;go_wp2_with (fail)
 go_loopw [8] (fun i wr=>∃ k:Nat,i=J K (k:Int)/\k<=L.length/\BU (∀ j,j<k->pt L j≠p)/\BU (Box3 wr w.heap.size p)/\BU (B9 w.heap.size w wr)) (fun i _=>L.length-(intOf i).toNat)
 case atStart=>exact⟨0,rfl,Nat.zero_le _,fun j hj=>absurd hj (by omega),bx,hB⟩
 case round =>
  clear bx hB;obtain⟨k,rfl,hk,HN,bx,HB⟩:=hrel;by_cases aG:k<L.length
  ·obtain⟨g,off,rfl,x0,x1,x2⟩:=HC.out k aG;have x0:=Ja HB.out x0;have x1:=Ja HB.out x1;have x2:=Ja HB.out x2;obtain⟨c0,c1,c2,_,_,_⟩:=bx.out;have gS:BU (pt L k=p->p∈L):=fun e=>e▸Ja2 aG;have eR:BU (pt L k≠p->∀ j,j<k+1->pt L j≠p):=fun e j hj=>by
    by_cases ej:j=k
    ·subst ej;exact e
    ·exact HN.out j (by omega)
   rw[Jbl]at gS;rw[Ne,Jbl]at eR;generalize(pt L k).x=lx at *;generalize(pt L k).y=ly at *;generalize(pt L k).z=lz at *;by_cases ex:lx=p.x
   ·subst ex;by_cases ey:ly=p.y
    ·subst ey;by_cases ez:lz=p.z
     ·subst ez;go_wp2_with (fail);go_region;go_wp2_with (fail);go_ret;exact⟨_,rfl,⟨fun _=>gS.out (by simp),fun _=>by omega⟩,HB.out.drew⟩
     ·have e1:(p.z == lz)=false:=beq_eq_false_iff_ne.2 fun e=>ez e.symm;go_wp2_with (fail);go_region;go_wp2_with (fail)
      go_roundw
      case rel=>exact⟨k+1,by go_num,by omega,eR.out (fun h=>ez h.2.2),bx.out.step (Below.refl _ _).drew,HB.out.drew⟩
      case measure=>simp[intOf];omega
    ·have e1:(p.y == ly)=false:=beq_eq_false_iff_ne.2 fun e=>ey e.symm;go_wp2_with (fail);go_region;go_wp2_with (fail)
     go_roundw
     case rel=>exact⟨k+1,by go_num,by omega,eR.out (fun h=>ey h.2.1),bx.out.step (Below.refl _ _).drew,HB.out.drew⟩
     case measure=>simp[intOf];omega
   ·have e1:(p.x == lx)=false:=beq_eq_false_iff_ne.2 fun e=>ex e.symm;go_wp2_with (fail);go_region;go_wp2_with (fail)
    go_roundw
    case rel=>exact⟨k+1,by go_num,by omega,eR.out (fun h=>ex h.1),bx.out.step (Below.refl _ _).drew,HB.out.drew⟩
    case measure=>simp[intOf];omega
  ·have e:k=L.length:=by omega
   have HX:BU (p ∉ L):=fun hp=>by
    obtain⟨j,hj,ej⟩:=Jd4 hp;exact HN.out j (by omega) ej
   clear e;go_wp2_with (fail);go_ret;exact⟨_,rfl,⟨fun h=>absurd h (by decide),fun h=>absurd h HX.out⟩,HB.out⟩
theorem Jke(v:B7)(L:List Pt)(p:Pt)(w:BV)(hv:Lies w v L):
  Cd Tryz.prog 188 #[v,p.v] w fun e W=>e = BZ (BT (decide (p∈L)))/\B9 w.heap.size w W:=by
 have HI:BU _:=Jqu v L p (w.alloc (BP #[J K p.x,J K p.y,J K p.z] 23)) (hv.below (Jb w _));obtain⟨o,c,rfl,_⟩:=hv.form;unfold Pt.v at *;clear hv;go_enter func188,ntmps188;go_wp2_with (fail);refine JA HI.out ?_;clear HI;rintro e V ⟨k,rfl,hk,hb⟩;have hB:=Jc (Jb w _) hb;clear hb;have HK:BU _:=hk;clear hk;go_wp2_with (fail);go_ret;exact⟨congrArg (fun b=>Ending.returned (BT b)) (by rw[Bool.eq_iff_iff,decide_eq_true_eq,decide_eq_true_eq];exact HK.out),hB⟩
def At(W:BV)(g:Nat)(M:List Pt):Prop:=∀ i,i<M.length->W.cell? ⟨g,i*3,none⟩=some (J K (pt M i).x)/\W.cell? ⟨g,i*3+1,none⟩=some (J K (pt M i).y)/\W.cell? ⟨g,i*3+2,none⟩=some (J K (pt M i).z)
theorem At.below{w W:BV}{g:Nat}{M:List Pt}(h:At w g M)(hb:B9 w.heap.size w W):At W g M:=fun i hi=>⟨Ja hb (h i hi).1,Ja hb (h i hi).2.1,Ja hb (h i hi).2.2⟩
theorem At.grown{w W:BV}{g:Nat}{M:List Pt}{row:Option Nat}(h:At w g M)(hg:w.grownBy W row)(ak:row≠some g):At W g M:=fun i hi =>
 ⟨hg.cell (h i hi).1 (fun e=>ak e.symm),hg.cell (h i hi).2.1 (fun e=>ak e.symm),hg.cell (h i hi).2.2 (fun e=>ak e.symm)⟩
theorem Box3.grown{w W:BV}{b:Nat}{q:Pt}{row:Option Nat}(h:Box3 w b q)(hg:w.grownBy W row)(ak:row≠some b):Box3 W b q:=by
 have hb:=hg.block b h.lt (fun e=>ak e.symm);obtain⟨c0,c1,c2,f0,f1,f2⟩:=h;simp only[World.cell?,World.frozen?]at c0 c1 c2 f0 f1 f2;rw[<- hb]at c0 c1 c2 f0 f1 f2;exact⟨c0,c1,c2,f0,f1,f2⟩
structure Two(w0 W:BV)(va ve:B7)(A E:List Pt)(bs:List (Nat × Pt)):Prop where
 ra:W.ownsRow w0.heap.size 23 3 va A.length (fl3 A)
 re:W.ownsRow w0.heap.size 23 3 ve E.length (fl3 E)
 apart:∀ k,ve.ownBlock=some k->va.ownBlock≠some k
 below:B9 w0.heap.size w0 W
 box:∀ x∈bs,Box3 W x.1 x.2/\va.ownBlock≠some x.1/\ve.ownBlock≠some x.1/\w0.heap.size<=x.1
theorem Two.start(w0:BV):Two w0 w0 (BQ none 0 0) (BQ none 0 0) [] [] []:=⟨World.ownsRow_nil _ _ _ _,World.ownsRow_nil _ _ _ _,(fun _ h=>by cases h),Below.refl _ _,(fun _ h=>by cases h)⟩
theorem Two.step{w0 W X:BV}{va ve:B7}{A E:List Pt}{bs:List (Nat × Pt)}(h:Two w0 W va ve A E bs)(hb:B9 W.heap.size W X):Two w0 X va ve A E bs:=
 ⟨Jq h.ra hb,Jq h.re hb,h.apart,h.below.trans (hb.mono h.below.size),fun x hx=>⟨(h.box x hx).1.step hb,(h.box x hx).2⟩⟩
theorem Two.axis{w0 W X:BV}{va ve va':B7}{A E A':List Pt}{bs:List (Nat × Pt)}(h:Two w0 W va ve A E bs)(hr:X.ownsRow w0.heap.size 23 3 va' A'.length (fl3 A'))(hg:Grew W X va va'):Two w0 X va' ve A' E bs:=by
 obtain⟨k1,k2⟩:=hg.beside h.re h.apart;refine⟨hr,k1,k2,hg.on h.below h.ra h.below.size,fun x hx=>?_⟩;obtain⟨b,b1,b2,b3⟩:=h.box x hx;refine⟨b.grown hg.grown b1,?_,b2,b3⟩;rcases hg.same with e |⟨k,e,hk⟩
 ·rw[e];exact b1
 ·rw[e];intro e';cases e';have:=b.lt;omega
theorem Two.swap{w0 W:BV}{va ve:B7}{A E:List Pt}{bs:List (Nat × Pt)}(h:Two w0 W va ve A E bs):Two w0 W ve va E A bs:=⟨h.re,h.ra,fun k e e'=>h.apart k e' e,h.below,fun x hx=>⟨(h.box x hx).1,(h.box x hx).2.2.1,(h.box x hx).2.1,(h.box x hx).2.2.2⟩⟩
theorem Two.edge{w0 W X:BV}{va ve ve':B7}{A E E':List Pt}{bs:List (Nat × Pt)}(h:Two w0 W va ve A E bs)(hr:X.ownsRow w0.heap.size 23 3 ve' E'.length (fl3 E'))(hg:Grew W X ve ve'):Two w0 X va ve' A E' bs:=(h.swap.axis hr hg).swap
theorem Jvn(w:BV)(p q r:Pt)(t:TypeId):At (w.alloc (BP #[J K p.x,J K p.y,J K p.z,J K q.x,J K q.y,J K q.z,J K r.x,J K r.y,J K r.z] t)) w.heap.size [p,q,r]:=by
 intro i hi
 match i,hi with
 | 0,_=>exact⟨by simp[pt],by simp[pt],by simp[pt]⟩
 | 1,_=>exact⟨by simp[pt],by simp[pt],by simp[pt]⟩
 | 2,_=>exact⟨by simp[pt],by simp[pt],by simp[pt]⟩
theorem Jrx(A:List Pt)(n:Pt):(Jbk A n).length<=A.length+1:=by unfold Jbk;split <;> simp
def Jcw(L:List Pt):Bool:=decide (4<=L.length/\L.length<=12)&&(L.all (fun p=>p.inB 65536)&&decide L.Nodup)
theorem Lies.take{w:BV}{o:Option Ce}{n c:Nat}{L:List Pt}(h:Lies w (BQ o L.length c) L)(k:Nat)(hk:k<=L.length):Lies w (BQ o k c) (L.take k):=by
 obtain⟨o',c',e,h1,h2,h3⟩:=h.form;simp only[Value.slice.injEq,true_and]at e;obtain⟨rfl,rfl⟩:=e;have hl:(L.take k).length=k:=by simp;omega
 refine⟨o,c,by rw[hl],by omega,h2,fun i hi=>?_⟩;rw[hl]at hi;obtain⟨g,off,e,a,b,c⟩:=h3 i (by omega);rw[Juq hi];exact⟨g,off,e,a,b,c⟩
theorem Jir(L:List Pt)(f:Pt->Bool)(k:Nat)(hk:k<L.length):(L.take (k+1)).all f=((L.take k).all f&&f (pt L k)):=by
 rw[Jb6 hk];simp
theorem Jnf(L:List Pt)(k:Nat)(hk:k<L.length)(h:(L.take k).Nodup):(L.take (k+1)).Nodup↔pt L k ∉ L.take k:=by
 rw[Jb6 hk,List.nodup_append];constructor
 ·intro hh hm;exact hh.2.2 _ hm _ (by simp) rfl
 ·intro hn;refine⟨h,by simp,fun a ha b hb e=>hn ?_⟩;rw[List.mem_singleton]at hb;rw[<- hb,<- e];exact ha
theorem Jhn(v:B7)(Ls:List Pt)(w0:BV)(hv:Lies w0 v Ls):
  Cd Tryz.prog 151 #[v] w0 fun e W=>e = BZ (BT (Jcw Ls))/\B9 w0.heap.size w0 W:=by
 obtain⟨o,c,rfl,fE,fF,ar⟩:=hv.form;have HV:BU _:=hv;have HC:BU _:=ar;clear hv ar;obtain⟨R,hR⟩:∃ R,Jcw Ls=R:=⟨_,rfl⟩
 rw[hR];have HR:BU _:=hR;clear hR;by_cases h4:4<=Ls.length
 ·by_cases dw:Ls.length<=12
  ·have HR:BU (R=(Ls.all (fun p=>p.inB 65536)&&decide Ls.Nodup)):=by show _=_;rw[<- HR.out];unfold Jcw;simp[h4,dw]
   have h4':4<=(Ls.length:Int):=by omega
   have h12':(Ls.length:Int)<=12:=by omega
   go_enter func151,ntmps151;go_wp2
   go_loopg [11] Ls.length (fun gm i wr=>∃ k:Nat,i=J K (k:Int)/\k<=Ls.length/\gm=Ls.length-k/\BU ((Ls.take k).all (fun p=>p.inB 65536)=true)/\BU (Ls.take k).Nodup/\BU (B9 w0.heap.size w0 wr))
   case atStart=>exact⟨0,rfl,Nat.zero_le _,rfl,rfl,by simp[BU],Below.refl _ _⟩
   case round =>
    obtain⟨k,rfl,hk,be,HA,HN,HB⟩:=hrel;have HG:BU _:=be;clear be;by_cases aG:k<Ls.length
    ·obtain⟨g,off,rfl,x0,x1,x2⟩:=HC.out k aG;have x0:=Ja HB.out x0;have x1:=Ja HB.out x1;have x2:=Ja HB.out x2;have bG:BU _:=Jir Ls (fun p=>p.inB 65536) k aG;have dh:BU _:=Jnf Ls k aG HN.out;generalize hp:pt Ls k=p at *;have HP:BU _:=hp;clear hp;go_upto_region 6 with fail;obtain⟨V,hV⟩:∃ V:BV,V=wr.alloc (BP #[J K p.x,J K p.y,J K p.z] 23):=⟨_,rfl⟩
     obtain⟨bp,qf⟩:∃ bp,bp=wr.heap.size:=⟨_,rfl⟩
     have bx:Box3 (wr.alloc (BP #[J K p.x,J K p.y,J K p.z] 23)) wr.heap.size p:=Box3.new wr p.x p.y p.z _;have fw:BU (B9 w0.heap.size w0 V):=by rw[hV];exact Jc HB.out (Jb _ _)
     rw[<- hV,<- qf]at bx ⊢;clear hV qf x0 x1 x2;obtain⟨p0,p1,p2,_,_,_⟩:=bx;have L1:BU _:=fun w'=>Jni p 65536 w' (by decide) (by decide);have L2:BU (∀ w',B9 V.heap.size V w'->Cd Tryz.prog 188 #[BQ (some ⟨g,off,none⟩) k c,p.v] w' fun e W=>e = BZ (BT (decide (p∈Ls.take k)))/\B9 w'.heap.size w' W):=fun w' hb=>Jke _ (Ls.take k) p w' ((HV.out.take (n:=0) k hk).below (Jc fw.out hb));unfold Pt.v at L1 L2;have yw:(k:Int)<=(c:Int):=by omega
     cases hw:p.inB 65536 with
     | false =>
      rw[hw]at L1;have e:R=false:=by
       rw[HR.out];have:Ls.all (fun p=>p.inB 65536)=false:=by
        rw[List.all_eq_false];exact⟨p,by rw[<- HP.out];exact Ja2 aG,by rw[hw];decide⟩
       rw[this];rfl
      subst e;refine Bq [.some (B_ #[J K p.x,J K p.y,J K p.z]),.some (BT (false)),.some (BT (true)),.some (BT (true)),.some (undef),.some (undef),.some (undef),.some (undef),.some (undef),.some (BT (true))] [17,18,19,20,21,22,23,24,25,26] [(0,BQ (some ⟨g,off,none⟩) Ls.length c),(3,J K ((k:Int))),(4,BO (some ⟨bp,0,none⟩))] (fun γ L w9=>B9 V.heap.size V w9) ⟨rfl,rfl,rfl,trivial⟩ ?_ ?_ ?_
      ·exact(Below.refl _ V).drew
      ·intro D WA Z hD ah hZ T;simp only[RV.Outs,RV.Slots,Nat.reduceAdd]at T
       (refine Br _ (Bs T (fun γ v L w hl h=>h) (fun γ L a w hH hl h9 k9=>⟨_,?_,rfl⟩)) ?_;· have ai:=hH.glob;have q0:=Ja ai p0;have q1:=Ja ai p1;have q2:=Ja ai p2;simp[JD,go_sem,h9,q0,q1,q2])
       refine Br _ (Bw (fun γ L a w hH hl hA=>by have h9:=T γ L a w hH;have k9:=hA;simp[JC]at k9;have ai:=hH.glob;exact⟨187,#[B_ #[J K p.x,J K p.y,J K p.z],J K 65536],by simp[go_sem,h9,k9],JA (L1.out w) (by rintro e w2 ⟨rfl,hb⟩;exact⟨_,rfl,rfl,fun j v _ h=>h.keep _,ai.trans (hb.mono ai.size)⟩)⟩)) ?_
       iterate 2 (refine Br _ (Bs T (fun γ v L w hl h=>h) (fun γ L a w hH hl h9 k9=>⟨_,?_,rfl⟩)) ?_;· simp[JC]at k9;simp[JD,go_sem,h9,k9])
       refine Br _ (RV.does_skip rfl (by rw[<- hD];rfl) (fun v w h=>h) (by simp) (fun w=>rfl) (fun γ v L w hl h=>h)) ?_;refine Br _ (RV.does_skip rfl (by rw[<- hD];rfl) (fun v w h=>h) (by simp) (fun w=>rfl) (fun γ v L w hl h=>h)) ?_;refine Br _ (RV.does_skip rfl (by rw[<- hD];rfl) (fun v w h=>h) (by simp) (fun w=>rfl) (fun γ v L w hl h=>h)) ?_;refine Br _ (RV.does_skip rfl (by rw[<- hD];rfl) (fun v w h=>h) (by simp) (fun w=>rfl) (fun γ v L w hl h=>h)) ?_;refine Br _ (RV.does_skip rfl (by rw[<- hD];rfl) (fun v w h=>h) (by simp) (fun w=>rfl) (fun γ v L w hl h=>h)) ?_
       (refine Br _ (Bs T (fun γ v L w hl h=>h) (fun γ L a w hH hl h9 k9=>⟨_,?_,rfl⟩)) ?_;· simp[JC]at k9;simp[JD,go_sem,h9,k9])
       exact RV.AllDo.nil
      ·intro γ w5 L9 hL aX aD;have bB:=aD;clear hL aX aD;simp only[RV.putL,Act.put,JH,JG,JF];have cN:BU _:=fw.out.trans (bB.mono fw.out.size);clear bB L1 L2 p0 p1 p2;go_wp2_with (fail);go_ret;exact⟨rfl,cN.out⟩
     | true =>
      rw[hw]at L1;by_cases hm:p∈Ls.take k
      ·have hd:decide (p∈Ls.take k)=true:=decide_eq_true hm;rw[hd]at L2;have e:R=false:=by
        rw[HR.out];have:decide Ls.Nodup=false:=by
         refine decide_eq_false fun hn=>?_;have:=dh.out.1 (hn.sublist (List.take_sublist _ _));exact this hm
        rw[this];simp
       subst e;clear hd hm;refine Bq [.some (B_ #[J K p.x,J K p.y,J K p.z]),.some (BT (true)),.some (BT (false)),.some (BT (false)),.some (BQ (some ⟨g,off,none⟩) Ls.length c),.some (J K ((k:Int))),.some (BQ (some ⟨g,off,none⟩) k c),.some (B_ #[J K p.x,J K p.y,J K p.z]),.some (BT (true)),.some (BT (true))] [17,18,19,20,21,22,23,24,25,26] [(0,BQ (some ⟨g,off,none⟩) Ls.length c),(3,J K ((k:Int))),(4,BO (some ⟨bp,0,none⟩))] (fun γ L w9=>B9 V.heap.size V w9) ⟨rfl,rfl,rfl,trivial⟩ ?_ ?_ ?_
       ·exact(Below.refl _ V).drew
       ·intro D WA Z hD ah hZ T;simp only[RV.Outs,RV.Slots,Nat.reduceAdd]at T
        (refine Br _ (Bs T (fun γ v L w hl h=>h) (fun γ L a w hH hl h9 k9=>⟨_,?_,rfl⟩)) ?_;· have ai:=hH.glob;have q0:=Ja ai p0;have q1:=Ja ai p1;have q2:=Ja ai p2;simp[JD,go_sem,h9,q0,q1,q2])
        refine Br _ (Bw (fun γ L a w hH hl hA=>by have h9:=T γ L a w hH;have k9:=hA;simp[JC]at k9;have ai:=hH.glob;exact⟨187,#[B_ #[J K p.x,J K p.y,J K p.z],J K 65536],by simp[go_sem,h9,k9],JA (L1.out w) (by rintro e w2 ⟨rfl,hb⟩;exact⟨_,rfl,rfl,fun j v _ h=>h.keep _,ai.trans (hb.mono ai.size)⟩)⟩)) ?_
        iterate 6 first
         |(refine Br _ (BH rfl (by rw[<- hD];rfl) (fun v w h=>h) (by simp) (Bs T (fun γ v L w hl h=>h) (fun γ L a w hH hl h9 k9=>⟨_,?_,rfl⟩))) ?_;· simp[JD,go_sem,h9])
         |(refine Br _ (Bs T (fun γ v L w hl h=>h) (fun γ L a w hH hl h9 k9=>⟨_,?_,rfl⟩)) ?_;· simp[JC]at k9;simp[JD,go_sem,h9,k9])
         |(refine Br _ (BH rfl (by rw[<- hD];rfl) (fun v w h=>h) (by simp) (Bs T (fun γ v L w hl h=>h) (fun γ L a w hH hl h9 k9=>⟨_,?_,rfl⟩))) ?_;· simp[JC]at k9;simp[JD,go_sem,h9,k9,yw])
         |(refine Br _ (BH rfl (by rw[<- hD];rfl) (fun v w h=>h) (by simp) (Bs T (fun γ v L w hl h=>h) (fun γ L a w hH hl h9 k9=>⟨_,?_,rfl⟩))) ?_;· have ai:=hH.glob;have q0:=Ja ai p0;have q1:=Ja ai p1;have q2:=Ja ai p2;simp[JD,go_sem,h9,q0,q1,q2])
        refine Br _ (BH rfl (by rw[<- hD];rfl) (fun v w h=>h) (by simp) (Bw (fun γ L a w hH hl hA=>by have h9:=T γ L a w hH;have k9:=hA;simp[JC]at k9;have ai:=hH.glob;exact⟨188,#[BQ (some ⟨g,off,none⟩) k c,B_ #[J K p.x,J K p.y,J K p.z]],by simp[go_sem,h9,k9],JA (L2.out w ai) (by rintro e w2 ⟨rfl,hb⟩;exact⟨_,rfl,rfl,fun j v _ h=>h.keep _,ai.trans (hb.mono ai.size)⟩)⟩))) ?_
        (refine Br _ (Bs T (fun γ v L w hl h=>h) (fun γ L a w hH hl h9 k9=>⟨_,?_,rfl⟩)) ?_;· simp[JC]at k9;simp[JD,go_sem,h9,k9])
        exact RV.AllDo.nil
       ·intro γ w5 L9 hL aX aD;have bB:=aD;clear hL aX aD;simp only[RV.putL,Act.put,JH,JG,JF];have cN:BU _:=fw.out.trans (bB.mono fw.out.size);clear bB L1 L2 p0 p1 p2;go_wp2_with (fail);go_ret;exact⟨rfl,cN.out⟩
      ·have hd:decide (p∈Ls.take k)=false:=decide_eq_false hm;rw[hd]at L2;have bG:BU ((Ls.take (k+1)).all (fun p=>p.inB 65536)=true):=by show _=_;rw[bG.out,HA.out,hw];rfl
       have dh:BU (Ls.take (k+1)).Nodup:=dh.out.2 hm;clear hd hm;refine Bq [.some (B_ #[J K p.x,J K p.y,J K p.z]),.some (BT (true)),.some (BT (false)),.some (BT (false)),.some (BQ (some ⟨g,off,none⟩) Ls.length c),.some (J K ((k:Int))),.some (BQ (some ⟨g,off,none⟩) k c),.some (B_ #[J K p.x,J K p.y,J K p.z]),.some (BT (false)),.some (BT (false))] [17,18,19,20,21,22,23,24,25,26] [(0,BQ (some ⟨g,off,none⟩) Ls.length c),(3,J K ((k:Int))),(4,BO (some ⟨bp,0,none⟩))] (fun γ L w9=>B9 V.heap.size V w9) ⟨rfl,rfl,rfl,trivial⟩ ?_ ?_ ?_
       ·exact(Below.refl _ V).drew
       ·intro D WA Z hD ah hZ T;simp only[RV.Outs,RV.Slots,Nat.reduceAdd]at T
        (refine Br _ (Bs T (fun γ v L w hl h=>h) (fun γ L a w hH hl h9 k9=>⟨_,?_,rfl⟩)) ?_;· have ai:=hH.glob;have q0:=Ja ai p0;have q1:=Ja ai p1;have q2:=Ja ai p2;simp[JD,go_sem,h9,q0,q1,q2])
        refine Br _ (Bw (fun γ L a w hH hl hA=>by have h9:=T γ L a w hH;have k9:=hA;simp[JC]at k9;have ai:=hH.glob;exact⟨187,#[B_ #[J K p.x,J K p.y,J K p.z],J K 65536],by simp[go_sem,h9,k9],JA (L1.out w) (by rintro e w2 ⟨rfl,hb⟩;exact⟨_,rfl,rfl,fun j v _ h=>h.keep _,ai.trans (hb.mono ai.size)⟩)⟩)) ?_
        iterate 6 first
         |(refine Br _ (BH rfl (by rw[<- hD];rfl) (fun v w h=>h) (by simp) (Bs T (fun γ v L w hl h=>h) (fun γ L a w hH hl h9 k9=>⟨_,?_,rfl⟩))) ?_;· simp[JD,go_sem,h9])
         |(refine Br _ (Bs T (fun γ v L w hl h=>h) (fun γ L a w hH hl h9 k9=>⟨_,?_,rfl⟩)) ?_;· simp[JC]at k9;simp[JD,go_sem,h9,k9])
         |(refine Br _ (BH rfl (by rw[<- hD];rfl) (fun v w h=>h) (by simp) (Bs T (fun γ v L w hl h=>h) (fun γ L a w hH hl h9 k9=>⟨_,?_,rfl⟩))) ?_;· simp[JC]at k9;simp[JD,go_sem,h9,k9,yw])
         |(refine Br _ (BH rfl (by rw[<- hD];rfl) (fun v w h=>h) (by simp) (Bs T (fun γ v L w hl h=>h) (fun γ L a w hH hl h9 k9=>⟨_,?_,rfl⟩))) ?_;· have ai:=hH.glob;have q0:=Ja ai p0;have q1:=Ja ai p1;have q2:=Ja ai p2;simp[JD,go_sem,h9,q0,q1,q2])
        refine Br _ (BH rfl (by rw[<- hD];rfl) (fun v w h=>h) (by simp) (Bw (fun γ L a w hH hl hA=>by have h9:=T γ L a w hH;have k9:=hA;simp[JC]at k9;have ai:=hH.glob;exact⟨188,#[BQ (some ⟨g,off,none⟩) k c,B_ #[J K p.x,J K p.y,J K p.z]],by simp[go_sem,h9,k9],JA (L2.out w ai) (by rintro e w2 ⟨rfl,hb⟩;exact⟨_,rfl,rfl,fun j v _ h=>h.keep _,ai.trans (hb.mono ai.size)⟩)⟩))) ?_
        (refine Br _ (Bs T (fun γ v L w hl h=>h) (fun γ L a w hH hl h9 k9=>⟨_,?_,rfl⟩)) ?_;· simp[JC]at k9;simp[JD,go_sem,h9,k9])
        exact RV.AllDo.nil
       ·intro γ w5 L9 hL aX aD;have bB:=aD;clear hL aX aD;simp only[RV.putL,Act.put,JH,JG,JF];have cN:BU _:=fw.out.trans (bB.mono fw.out.size);clear bB L1 L2 p0 p1 p2;go_wp2_with (fail)
        go_roundg (Ls.length-(k+1))
        case measure=>have:=HG.out;omega
        case rel=>exact⟨k+1,by go_num,by omega,rfl,bG,dh,cN⟩
    ·have e:R=true:=by
      rw[HR.out];have e1:=HA.out;have e2:=HN.out;rw[List.take_of_length_le (by omega:Ls.length<=k)]at e1 e2;rw[e1,decide_eq_true e2];rfl
     subst e;go_wp2_with (fail);go_ret;exact⟨rfl,HB.out⟩
  ·have e:R=false:=by rw[<- HR.out];unfold Jcw;simp[dw]
   subst e;have h12':¬ (Ls.length:Int)<=12:=by omega
   clear HR;go_enter func151,ntmps151;go_wp2;go_ret;exact⟨rfl,Below.refl _ _⟩
 ·have e:R=false:=by rw[<- HR.out];unfold Jcw;simp[h4]
  subst e;have h4':¬ 4<=(Ls.length:Int):=by omega
  clear HR;go_enter func151,ntmps151;go_wp2;go_ret;exact⟨rfl,Below.refl _ _⟩
def Jaa(n:Int):Bool:=decide (1<=n/\n<=65536)
theorem Jio(l:List Int)(g:Nat)(w:BV)(hc:∀ i,i<l.length->w.cell? ⟨g,i,none⟩=some (J K (l.getD i 0)))(hl:l.length<=100):
  Cd Tryz.prog 150 #[BQ (some ⟨g,0,none⟩) l.length l.length] w fun e W=>e = BZ (BT (l.all Jaa))/\W=w:=by
 have HC:BU _:=hc;clear hc;obtain⟨R,hR⟩:∃ R,l.all Jaa=R:=⟨_,rfl⟩
 rw[hR];have HR:BU _:=hR;clear hR;go_enter func150,ntmps150;go_wp2
 go_loop [7] (fun i=>∃ k:Nat,i=J K (k:Int)/\k<=l.length/\BU ((l.take k).all Jaa=true)) (fun i=>l.length-(intOf i).toNat)
 case atStart=>exact⟨0,rfl,Nat.zero_le _,rfl⟩
 case round =>
  obtain⟨k,rfl,hk,HA⟩:=hrel;by_cases aG:k<l.length
  ·have ar:=HC.out k aG;have fQ:l.getD k 0∈l:=by rw[List.getD_eq_getElem?_getD,List.getElem?_eq_getElem aG];exact List.getElem_mem aG
   have HS:BU ((l.take (k+1)).all Jaa=((l.take k).all Jaa&&Jaa (l.getD k 0))):=by show _=_;rw[List.take_succ_eq_append_getElem aG,List.all_append,List.getD_eq_getElem?_getD,List.getElem?_eq_getElem aG];simp
   have HM:BU (Jaa (l.getD k 0)=false->R=false):=fun h=>by
    rw[<- HR.out,List.all_eq_false];exact⟨_,fQ,by rw[h];decide⟩
   clear fQ;generalize l.getD k 0=n at *;by_cases h1:1<=n
   ·by_cases h2:n<=65536
    ·have HS:BU ((l.take (k+1)).all Jaa=true):=by show _=_;rw[HS.out,HA.out];simp[Jaa,h1,h2]
     go_wp2
     go_round
     case rel=>exact⟨k+1,by go_num,by omega,HS⟩
     case measure=>simp[intOf];omega
    ·have e:R=false:=HM.out (by simp[Jaa,h2]);subst e;go_wp2;go_ret;exact⟨rfl,rfl⟩
   ·have e:R=false:=HM.out (by simp[Jaa,h1]);subst e;go_wp2;go_ret;exact⟨rfl,rfl⟩
  ·have e:R=true:=by
    have e1:=HA.out;rw[List.take_of_length_le (by omega:l.length<=k)]at e1;rw[<- HR.out];exact e1
   subst e;go_wp2;go_ret;exact⟨rfl,rfl⟩
theorem Jsb(v:B7)(Ls:List Pt)(w0:BV)(hv:Lies w0 v Ls)(h4:4<=Ls.length)(dw:Ls.length<=12)(dN:∀ p∈Ls,p.inB 65536=true):
  Cd Tryz.prog 92 #[v] w0 fun e W=>e = BZ (BT (Jee Ls))/\B9 w0.heap.size w0 W:=by
 obtain⟨o,c,rfl,fE,fF,ar⟩:=hv.form;have HC:BU _:=ar;have dj:BU _:=dN;obtain⟨g,off,rfl,x0,x1,x2⟩:=ar 0 (by omega);obtain⟨g',off',e',y0,y1,y2⟩:=ar 1 (by omega);simp only[Option.some.injEq,Addr.mk.injEq,and_true]at e';obtain⟨rfl,rfl⟩:=e';clear ar hv dN;simp only[Nat.zero_mul,Nat.add_zero,Nat.one_mul]at x0 x1 x2 y0 y1 y2;have hgl:g<w0.heap.size:=JB _ _ x0;have gT:0<Ls.length:=by omega
 have cT:1<Ls.length:=by omega
 have cA:(pt Ls 0).inB 65536=true:=dj.out _ (Ja2 gT);have eS:(pt Ls 1).inB 65536=true:=dj.out _ (Ja2 cT);obtain⟨R,hR⟩:∃ R,Jee Ls=R:=⟨_,rfl⟩
 rw[hR];have HR:BU (Ls.all (fun c=>Ls.all fun m=>decide (vol (pt Ls 0) (pt Ls 1) c m=0))=R):=hR;clear hR;generalize pt Ls 0=pa at *;generalize pt Ls 1=pb at *;go_enter func92,ntmps92;go_upto_region 1 with fail;go_cut [3,4] from 10 (fun s3 s4 wc=>∃ ba bb,s3 = BO (some ⟨ba,0,none⟩)/\s4 = BO (some ⟨bb,0,none⟩)/\BU (Box3 wc ba pa)/\BU (Box3 wc bb pb)/\BU (B9 w0.heap.size w0 wc))
 case first =>
  go_region
  ·go_wp2_with (fail);go_meet
   case rel=>exact⟨_,_,rfl,rfl,(Box3.new w0 pa.x pa.y pa.z _).step ((Jb _ _).drew),(by have:=Box3.new (w0.alloc (BP #[J K pa.x,J K pa.y,J K pa.z] 23)) pb.x pb.y pb.z 23;rw[World.size_alloc]at this;exact this.step (Below.refl _ _).drew),(Jc (Jb w0 _) (Jb _ _)).drew⟩
  ·go_wp2_with (fail);go_meet
   case rel=>exact⟨_,_,rfl,rfl,(by have:=Box3.new (w0.alloc (BP #[J K pb.x,J K pb.y,J K pb.z] 23)) pa.x pa.y pa.z 23;rw[World.size_alloc]at this;exact this.step (Below.refl _ _).drew),(Box3.new w0 pb.x pb.y pb.z _).step ((Jb _ _).drew),(Jc (Jb w0 _) (Jb _ _)).drew⟩
 case rest =>
  obtain⟨ba,bb,rfl,rfl,BA,BB,HB⟩:=hcut;clear x0 x1 x2 y0 y1 y2;go_wp2_with (fail)
  go_loopg [18] Ls.length (fun gm i wr=>∃ k:Nat,i=J K (k:Int)/\k<=Ls.length/\gm=Ls.length-k/\BU ((Ls.take k).all (fun c=>Ls.all fun m=>decide (vol pa pb c m=0))=true)/\BU (B9 wc.heap.size wc wr))
  case atStart=>exact⟨0,rfl,Nat.zero_le _,rfl,rfl,Below.refl _ _⟩
  case round =>
   obtain⟨k,rfl,hk,be,HA,rR⟩:=hrel;have eH:BU _:=be;clear be;by_cases aG:k<Ls.length
   ·obtain⟨g',off',e',x0,x1,x2⟩:=HC.out k aG;simp only[Option.some.injEq,Addr.mk.injEq,and_true]at e';obtain⟨rfl,rfl⟩:=e';have x0:=Ja (Jc HB.out rR.out) x0;have x1:=Ja (Jc HB.out rR.out) x1;have x2:=Ja (Jc HB.out rR.out) x2;have eT:=dj.out _ (Ja2 aG);have bG:BU _:=Jir Ls (fun c=>Ls.all fun m=>decide (vol pa pb c m=0)) k aG;have HM:BU ((Ls.all fun m=>decide (vol pa pb (pt Ls k) m=0))=false->R=false):=fun h=>by
     rw[<- HR.out,List.all_eq_false];exact⟨_,Ja2 aG,by rw[h];decide⟩
    generalize pt Ls k=pc at *;go_upto_region 5 with fail;obtain⟨V,hV⟩:∃ V:BV,V=wr.alloc (BP #[J K pc.x,J K pc.y,J K pc.z] 23):=⟨_,rfl⟩
    obtain⟨bc,An⟩:∃ bc,bc=wr.heap.size:=⟨_,rfl⟩
    have BC:BU (Box3 (wr.alloc (BP #[J K pc.x,J K pc.y,J K pc.z] 23)) wr.heap.size pc):=Box3.new wr pc.x pc.y pc.z _;have fw:BU (B9 wc.heap.size wc V):=by rw[hV];exact Jc rR.out (Jb _ _)
    rw[<- hV,<- An]at BC ⊢;clear hV An x0 x1 x2;obtain⟨p0,p1,p2,_,_,_⟩:=BA.out.step fw.out;obtain⟨q0,q1,q2,_,_,_⟩:=BB.out.step fw.out;obtain⟨s0,s1,s2,_,_,_⟩:=BC.out;go_wp2_with (fail);refine JA (Jom pa pb pc _ cA eS eT) ?_;rintro e W4 ⟨rfl,bM⟩;have nB:BU _:=Jc fw.out bM;clear bM p0 p1 p2 q0 q1 q2 s0 s1 s2;have fS:=Jja (Jcq eS cA) (Jcq eT cA);have sM:BU (∀ m,vol pa pb pc m=((pb.sub pa).cross (pc.sub pa)).dot (m.sub pa)):=fun m=>rfl;generalize(pb.sub pa).cross (pc.sub pa)=n at *;unfold Pt.v;go_upto_region 6 with fail;obtain⟨W5,mr⟩:∃ W5:BV,W5=W4.alloc (BP #[J K n.x,J K n.y,J K n.z] 23):=⟨_,rfl⟩
    obtain⟨bn,rS⟩:∃ bn,bn=W4.heap.size:=⟨_,rfl⟩
    have BN:BU (Box3 (W4.alloc (BP #[J K n.x,J K n.y,J K n.z] 23)) W4.heap.size n):=Box3.new W4 n.x n.y n.z _;have cN:BU (B9 wc.heap.size wc W5):=by rw[mr];exact Jc nB.out (Jb _ _)
    rw[<- mr,<- rS]at BN ⊢;clear mr rS;have BA2:BU _:=BA.out.step cN.out;go_wp2_with (fail)
    go_loopg [28] Ls.length (fun gm i wx=>∃ q:Nat,i=J K (q:Int)/\q<=Ls.length/\gm=Ls.length-q/\BU (((Ls.take q).all fun m=>decide (vol pa pb pc m=0))=true)/\BU (B9 W5.heap.size W5 wx))
    case atStart=>exact⟨0,rfl,Nat.zero_le _,rfl,rfl,Below.refl _ _⟩
    case round =>
     obtain⟨q,rfl,hq,be,lp,hO⟩:=hrel;have gU:BU _:=be;clear be;by_cases hqt:q<Ls.length
     ·obtain⟨g',off',e',x0,x1,x2⟩:=HC.out q hqt;simp only[Option.some.injEq,Addr.mk.injEq,and_true]at e';obtain⟨rfl,rfl⟩:=e';have x0:=Ja (Jc (Jc HB.out cN.out) hO.out) x0;have x1:=Ja (Jc (Jc HB.out cN.out) hO.out) x1;have x2:=Ja (Jc (Jc HB.out cN.out) hO.out) x2;have eU:=dj.out _ (Ja2 hqt);have dh:BU _:=Jir Ls (fun m=>decide (vol pa pb pc m=0)) q hqt;have lI:BU (¬ vol pa pb pc (pt Ls q)=0->R=false):=fun h=>HM.out (by
       rw[List.all_eq_false];exact⟨_,Ja2 hqt,by simpa using h⟩)
      rw[sM.out]at lI;generalize cS:pt Ls q=m at *;have ui:BU _:=cS;clear cS;go_upto_region 9 with fail;obtain⟨W6,ql⟩:∃ W6:BV,W6=wr.alloc (BP #[J K m.x,J K m.y,J K m.z] 23):=⟨_,rfl⟩
      obtain⟨bm,Ao⟩:∃ bm,bm=wr.heap.size:=⟨_,rfl⟩
      have BM:BU (Box3 (wr.alloc (BP #[J K m.x,J K m.y,J K m.z] 23)) wr.heap.size m):=Box3.new wr m.x m.y m.z _;have sN:BU (B9 W5.heap.size W5 W6):=by rw[ql];exact Jc hO.out (Jb _ _)
      rw[<- ql,<- Ao]at BM ⊢;clear ql Ao x0 x1 x2;have L1:BU _:=fun w'=>Jjb m pa w' (J8 eU (by decide)) (J8 cA (by decide));have L2:BU _:=fun w'=>Jtx n (m.sub pa) w' fS (Jcq eU cA);unfold Pt.v at L1 L2;obtain⟨p0,p1,p2,_,_,_⟩:=BA2.out.step sN.out;obtain⟨q0,q1,q2,_,_,_⟩:=BN.out.step sN.out;obtain⟨s0,s1,s2,_,_,_⟩:=BM.out;have yx:BU (vol pa pb pc m=n.dot (m.sub pa)):=sM.out m;refine Bq [.some (B_ #[J K n.x,J K n.y,J K n.z]),.some (B_ #[J K m.x,J K m.y,J K m.z]),.some (B_ #[J K pa.x,J K pa.y,J K pa.z]),.some (B_ #[J K ((m.sub pa).x),J K ((m.sub pa).y),J K ((m.sub pa).z)]),.some (J K (n.dot (m.sub pa))),.some (BT (n.dot (m.sub pa) != 0))] [33,34,35,36,37,38] [(3,BO (some ⟨ba,0,none⟩)),(7,BO (some ⟨bn,0,none⟩)),(9,BO (some ⟨bm,0,none⟩))] (fun γ L w9=>B9 W6.heap.size W6 w9) ⟨rfl,rfl,rfl,trivial⟩ ?_ ?_ ?_
      ·exact(Below.refl _ W6).drew
      ·intro D WA Z hD ah hZ T;simp only[RV.Outs,RV.Slots,Nat.reduceAdd]at T
       iterate 3 (refine Br _ (Bs T (fun γ v L w hl h=>h) (fun γ L a w hH hl h9 k9=>⟨_,?_,rfl⟩)) ?_;· have ai:=hH.glob;have q0:=Ja ai q0;have q1:=Ja ai q1;have q2:=Ja ai q2;have q3:=Ja ai s0;have q4:=Ja ai s1;have q5:=Ja ai s2;have q6:=Ja ai p0;have q7:=Ja ai p1;have q8:=Ja ai p2;simp[JD,go_sem,h9,q0,q1,q2,q3,q4,q5,q6,q7,q8])
       refine Br _ (Bw (fun γ L a w hH hl hA=>by have h9:=T γ L a w hH;have k9:=hA;simp[JC]at k9;have ai:=hH.glob;exact⟨154,#[B_ #[J K m.x,J K m.y,J K m.z],B_ #[J K pa.x,J K pa.y,J K pa.z]],by simp[go_sem,h9,k9],JA (L1.out w) (by rintro e w2 ⟨rfl,hb⟩;exact⟨_,rfl,rfl,fun j v _ h=>h.keep _,ai.trans (hb.mono ai.size)⟩)⟩)) ?_;refine Br _ (Bw (fun γ L a w hH hl hA=>by have h9:=T γ L a w hH;have k9:=hA;simp[JC]at k9;have ai:=hH.glob;exact⟨153,#[B_ #[J K n.x,J K n.y,J K n.z],B_ #[J K ((m.sub pa).x),J K ((m.sub pa).y),J K ((m.sub pa).z)]],by simp[go_sem,h9,k9],JA (L2.out w) (by rintro e w2 ⟨rfl,hb⟩;exact⟨_,rfl,rfl,fun j v _ h=>h.keep _,ai.trans (hb.mono ai.size)⟩)⟩)) ?_
       (refine Br _ (Bs T (fun γ v L w hl h=>h) (fun γ L a w hH hl h9 k9=>⟨_,?_,rfl⟩)) ?_;· simp[JC]at k9;simp[JD,go_sem,h9,k9])
       exact RV.AllDo.nil
      ·intro γ w5 L9 hL aX aD;have bB:=aD;clear hL aX aD;simp only[RV.putL,Act.put,JH,JG,JF];have nC:BU _:=sN.out.trans (bB.mono sN.out.size);clear bB L1 L2 p0 p1 p2 q0 q1 q2 s0 s1 s2;generalize n.dot (m.sub pa)=dd at *;by_cases hd:dd=0
       ·subst hd;have dh:BU (((Ls.take (q+1)).all fun m=>decide (vol pa pb pc m=0))=true):=by show _=_;rw[dh.out,lp.out];simp[yx.out]
        clear yx lI;go_wp2_with (fail)
        go_roundg (Ls.length-(q+1))
        case measure=>have:=gU.out;omega
        case rel=>exact⟨q+1,by go_num,by omega,rfl,dh,nC⟩
       ·have e:R=false:=lI.out hd;subst e;have hd2:(dd != 0)=true:=bne_iff_ne.2 hd;go_wp2_with (fail);go_ret;exact⟨rfl,Jc (Jc HB.out cN.out) nC.out⟩
     ·have e2:(Ls.all fun m=>decide (vol pa pb pc m=0))=true:=by
       have:=lp.out;rwa [List.take_of_length_le (by omega:Ls.length<=q)]at this
      have bG:BU ((Ls.take (k+1)).all (fun c=>Ls.all fun m=>decide (vol pa pb c m=0))=true):=by show _=_;rw[bG.out,HA.out,e2];rfl
      clear e2;go_wp2_with (fail)
      go_roundg (Ls.length-(k+1))
      case measure=>have:=eH.out;omega
      case rel=>exact⟨k+1,by go_num,by omega,rfl,bG,Jc cN.out hO.out⟩
   ·have e:R=true:=by
     rw[<- HR.out];have:=HA.out;rwa [List.take_of_length_le (by omega:Ls.length<=k)]at this
    subst e;go_wp2_with (fail);go_ret;exact⟨rfl,Jc HB.out rR.out⟩
end
end Go.Proofs.YtkblcfgamnmbkaaGreat
