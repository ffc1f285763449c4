/- A region that draws its order, by one condition that every operation keeps, whatever order is drawn: each operation is looked at once. -/
import Derived.Test.YtpjaacpcdomfiaaGreatProg
import Derived.WalkKit
import Derived.Orders
import Derived.Below
import Derived.Laws.Rows
import Derived.Laws.MathBits
import Derived.Laws.Externs
import Derived.Handy
import Derived.Laws.BitsAllLaws
import Derived.WalkLawsBesides
set_option maxHeartbeats 4000000
set_option maxRecDepth 100000
set_option linter.unusedVariables false
namespace Go.Proofs.YtpjaacpcdomfiaaGreat
section
section
variable {P:Program} {ops:Array Oper} {Q:Exit->Act->World->Prop} {md:Region.Mode}
theorem wpAny_by (I:Array Bool->Act->World->Prop)
  (hstep:∀ listed a w i,listed.size = ops.size->i ∈ Region.ready md ops listed->I listed a w->wpOp P ops Q i (I (listed.setIfInBounds i true)) a w)
  (hdone:∀ listed a w,listed.size = ops.size->Region.ready md ops listed = []->I listed a w->Q .normal a w) :
  ∀ (fuel:Nat) (listed:Array Bool) (a:Act) (w:World),listed.size = ops.size->listed.toList.count false <= fuel->I listed a w->wpAny P md ops Q fuel listed a w
 | 0,listed,a,w,hs,hf,h=>by
  have hr:Region.ready md ops listed = []:=by
   apply List.eq_nil_iff_forall_not_mem.2
   intro i hi
   obtain ⟨h0,o,ho,_⟩:=mem_ready.1 hi
   have hlt:i < listed.size:=by rw [hs];exact (Array.getElem?_eq_some_iff.1 ho).1
   have hm:false ∈ listed.toList:=by
    have:listed[i] = false:=by simpa [hlt] using h0
    rw [<- this];exact Array.getElem_mem_toList hlt
   have:=List.count_pos_iff.2 hm
   omega
  exact ⟨hr,hdone _ _ _ hs hr h⟩
 | fuel + 1,listed,a,w,hs,hf,h=>by
  refine ⟨fun hr=>hdone _ _ _ hs hr h,fun i hi=>?_⟩
  have hlt:i < listed.size:=by
   obtain ⟨h0,o,ho,_⟩:=mem_ready.1 hi
   rw [hs];exact (Array.getElem?_eq_some_iff.1 ho).1
  have hfalse:listed[i] = false:=by
   have:=(mem_ready.1 hi).1
   simpa [hlt] using this
  refine wpOp_mono (fun a' w' h'=>?_) (hstep _ _ _ _ hs hi h)
  refine wpAny_by I hstep hdone fuel _ a' w' (by simpa using hs) ?_ h'
  have hc:(listed.toList.set i true).count false + 1 = listed.toList.count false:=by
   have hl:i < listed.toList.length:=by simpa using hlt
   rw [List.count_set hl]
   have:listed.toList[i] = false:=by simpa using hfalse
   simp only [this,beq_self_eq_true,if_true]
   have hm:false ∈ listed.toList:=by rw [<- this];exact List.getElem_mem hl
   have:=List.count_pos_iff.2 hm
   have e:(true == false) = false:=rfl
   simp only [e,Bool.false_eq_true,if_false]
   omega
  have:(listed.setIfInBounds i true).toList = listed.toList.set i true:=by simp
  rw [this];omega
def Tidy:List Oper->Nat->Bool
 | [],_=>true
 | o :: rest,n=>(o.after.all fun e=>decide (e.on < n)) && Tidy rest (n + 1)
theorem tidy_at:∀ (l:List Oper) (n i:Nat) (o:Oper),Tidy l n = true->l[i]? = some o->∀ e ∈ o.after,e.on < n + i
 | [],_,_,_,_,h=>by simp at h
 | x :: rest,n,0,o,ht,h=>by
  simp only [Tidy,Bool.and_eq_true] at ht
  simp only [List.getElem?_cons_zero,Option.some.injEq] at h
  subst h
  intro e he
  have:=(Array.all_eq_true_iff_forall_mem.1 ht.1) e he
  simpa using this
 | x :: rest,n,i + 1,o,ht,h=>by
  simp only [Tidy,Bool.and_eq_true] at ht
  intro e he
  have:=tidy_at rest (n + 1) i o ht.2 (by simpa using h) e he
  omega
theorem all_listed {listed:Array Bool} (ht:Tidy ops.toList 0 = true) (hr:Region.ready md ops listed = []) (hs:listed.size = ops.size):∀ i,i < ops.size->listed.getD i false = true:=by
 intro i
 induction i using Nat.strongRecOn with
 | _ i ih =>
  intro hi
  cases hl:listed.getD i false with
  | true=>rfl
  | false =>
   exfalso
   have ho:ops[i]? = some ops[i]:=Array.getElem?_eq_getElem hi
   have hmem:i ∈ Region.ready md ops listed:=by
    refine mem_ready.2 ⟨?_,ops[i],ho,fun e he _=>?_⟩
    ·have:i < listed.size:=by omega
     simp [this] at hl ⊢;exact hl
    ·have:=tidy_at ops.toList 0 i ops[i] ht (by simp [hi]) e he
     exact ih e.on (by omega) (by omega)
   rw [hr] at hmem
   simp at hmem
def dstOf (ops:Array Oper) (j:Nat):Option Tmp:=(ops[j]?).bind (·.dst)
def waitsFor (ops:Array Oper) (j e:Nat):Prop:=∃ o,ops[j]? = some o/\∃ x ∈ o.after,Region.binds .any x = true/\x.on = e
def Once (ops:List Oper):Bool:=(ops.filterMap (·.dst)).Nodup
structure Held (D:Nat->Option Tmp) (A:Nat->Nat->Prop) (val:(Nat->Nat)->Nat->Value) (G:(Nat->Nat)->(Nat->Bool)->World->Prop) (a₀:Act) (γ:Nat->Nat) (L:Nat->Bool) (a:Act) (w:World):Prop where
 defers:a.defers = a₀.defers
 size:a.tmps.size = a₀.tmps.size
 slot:∀ (j:Nat) (t:Tmp),D j = some t->L j = true->a.tmps[t]? = some (val γ j)
 rest:∀ t:Tmp,(∀ j:Nat,D j ≠ some t)->a.tmps[t]? = a₀.tmps[t]?
 closed:∀ j e:Nat,A j e->L j = true->L e = true
 glob:G γ L w
def more (L:Nat->Bool) (i:Nat):Nat->Bool:=fun j=>decide (j = i) || L j
def wantedD (D:Nat->Option Tmp) (o:Oper) (a:Act):Bool:=
 match o.guard with
 | none=>true
 | some (g,b)=>(match (D g).bind (a.tmps[·]?) with | some (.bool x)=>some x | _=>none) == some b
theorem wantedD_eq (ops:Array Oper) (o:Oper) (a:Act):Region.wanted o (yielded ops a.tmps) = wantedD (dstOf ops) o a:=by
 unfold Region.wanted wantedD yielded dstOf
 cases o.guard <;> rfl
def Does (P:Program) (Q:Exit->Act->World->Prop) (D:Nat->Option Tmp) (A:Nat->Nat->Prop) (val:(Nat->Nat)->Nat->Value) (G:(Nat->Nat)->(Nat->Bool)->World->Prop) (a₀:Act) (i:Nat) (o:Oper):Prop:=
 ∀ (γ:Nat->Nat) (L:Nat->Bool) (a:Act) (w:World),Held D A val G a₀ γ L a w->L i = false->(∀ e ∈ o.after,Region.binds .any e = true->L e.on = true) ->
  (wantedD D o a = true->o.wp P a w (fun a' w'=>∃ v γ',a' = a.put o.dst v/\(∀ j,L j = true->val γ' j = val γ j)/\(o.dst.isSome = true->v = val γ' i)/\G γ' (more L i) w') Q) /\
  (wantedD D o a = false->(o.dst.isSome = true->undef = val γ i)/\G γ (more L i) w)
theorem dst_once (hn:Once ops.toList = true) {i j:Nat} {t:Tmp} (h:dstOf ops i = some t) (h':dstOf ops j = some t):i = j:=by
 have key:∀ (l:List Oper),(l.filterMap (·.dst)).Nodup->∀ (i j:Nat) (o o':Oper),l[i]? = some o->l[j]? = some o'->o.dst = some t->o'.dst = some t->i = j:=by
  intro l
  induction l with
  | nil=>intro _ i j o o' hi;simp at hi
  | cons x rest ih =>
   intro hnd i j o o' hi hj h h'
   have hrest:(rest.filterMap (·.dst)).Nodup:=by
    rw [List.filterMap_cons] at hnd
    cases hx:x.dst with
    | none=>simpa [hx] using hnd
    | some d=>rw [hx] at hnd;exact (List.nodup_cons.1 hnd).2
   have hno:x.dst = some t->t ∉ rest.filterMap (·.dst):=by
    intro hx
    rw [List.filterMap_cons,hx] at hnd
    exact (List.nodup_cons.1 hnd).1
   match i,j with
   | 0,0=>rfl
   | 0,j + 1 =>
    simp only [List.getElem?_cons_zero,Option.some.injEq] at hi
    subst hi
    exact absurd (List.mem_filterMap.2 ⟨o',List.mem_of_getElem? (by simpa using hj),h'⟩) (hno h)
   | i + 1,0 =>
    simp only [List.getElem?_cons_zero,Option.some.injEq] at hj
    subst hj
    exact absurd (List.mem_filterMap.2 ⟨o,List.mem_of_getElem? (by simpa using hi),h⟩) (hno h')
   | i + 1,j + 1=>have:=ih hrest i j o o' (by simpa using hi) (by simpa using hj) h h';omega
 unfold dstOf at h h'
 obtain ⟨o,ho,hd⟩:=Option.bind_eq_some_iff.1 h
 obtain ⟨o',ho',hd'⟩:=Option.bind_eq_some_iff.1 h'
 exact key ops.toList (of_decide_eq_true hn) i j o o' (by simpa using ho) (by simpa using ho') hd hd'
def AllDo (P:Program) (Q:Exit->Act->World->Prop) (D:Nat->Option Tmp) (A:Nat->Nat->Prop) (val:(Nat->Nat)->Nat->Value) (G:(Nat->Nat)->(Nat->Bool)->World->Prop) (a₀:Act):List Oper->Nat->Prop
 | [],_=>True
 | o :: rest,n=>Does P Q D A val G a₀ n o/\AllDo P Q D A val G a₀ rest (n + 1)
theorem allDo_at {D:Nat->Option Tmp} {A:Nat->Nat->Prop} {val:(Nat->Nat)->Nat->Value} {G:(Nat->Nat)->(Nat->Bool)->World->Prop} {a₀:Act}:∀ (l:List Oper) (n i:Nat) (o:Oper),AllDo P Q D A val G a₀ l n->l[i]? = some o->Does P Q D A val G a₀ (n + i) o
 | [],_,_,_,_,h=>by simp at h
 | x :: rest,n,0,o,ha,h=>by
  simp only [List.getElem?_cons_zero,Option.some.injEq] at h
  subst h;exact ha.1
 | x :: rest,n,i + 1,o,ha,h=>by
  have:=allDo_at rest (n + 1) i o ha.2 (by simpa using h)
  rwa [show n + 1 + i = n + (i + 1) by omega] at this
def Fits (ops:List Oper) (n:Nat):Bool:=ops.all fun o=>match o.dst with | some t=>decide (t < n) | none=>true
theorem region_by {id:Nat} {a₀:Act} {w:World} (val:(Nat->Nat)->Nat->Value) (G:(Nat->Nat)->(Nat->Bool)->World->Prop) (hm:P.follows .mixedOrders = true)
  (ht:Tidy ops.toList 0 = true) (hn:Once ops.toList = true) (hfit:Fits ops.toList a₀.tmps.size = true)
  (γ₀:Nat->Nat) (h0:G γ₀ (fun _=>false) w.drew) (hall:AllDo P Q (dstOf ops) (waitsFor ops) val G a₀ ops.toList 0)
  (hq:∀ (γ:Nat->Nat) (a:Act) (w:World) (L:Nat->Bool),(∀ j,j < ops.size->L j = true)->(∀ j,ops.size <= j->L j = false)->Held (dstOf ops) (waitsFor ops) val G a₀ γ L a w->Q .normal a w) :
  (Code.region id ops true).wp P Q a₀ w:=by
 refine wp_region_any hm (wpAny_by (fun listed a w=>∃ γ,Held (dstOf ops) (waitsFor ops) val G a₀ γ (fun j=>listed.getD j false) a w) ?_ ?_ _ _ _ _ (by simp) (by simp) ?_)
 ·intro listed a w i hs hi hI
  obtain ⟨γ,hI⟩:=hI
  obtain ⟨hl,o,ho,hafter⟩:=mem_ready.1 hi
  have hlt:i < listed.size:=by rw [hs];exact (Array.getElem?_eq_some_iff.1 ho).1
  have hl':listed.getD i false = false:=by simp [hlt] at hl ⊢;exact hl
  have hd:=allDo_at ops.toList 0 i o hall (by simpa using ho)
  rw [Nat.zero_add] at hd
  have hstep:=hd γ _ a w hI hl' hafter
  have hdst:dstOf ops i = o.dst:=by simp [dstOf,ho]
  suffices hmain:∀ (a':Act) (w':World),(∃ v γ',a' = a.put o.dst v/\(∀ j,listed.getD j false = true->val γ' j = val γ j)/\(o.dst.isSome = true->v = val γ' i)/\G γ' (more (fun j=>listed.getD j false) i) w') ->
    ∃ γ,Held (dstOf ops) (waitsFor ops) val G a₀ γ (fun j=>(listed.setIfInBounds i true).getD j false) a' w' by
   unfold wpOp
   simp only [ho]
   cases hw:Region.wanted o (yielded ops a.tmps)
   ·rw [wantedD_eq] at hw
    obtain ⟨s1,s2⟩:=hstep.2 hw
    simp only [Bool.false_eq_true,if_false]
    exact hmain _ _ ⟨undef,γ,rfl,fun _ _=>rfl,s1,s2⟩
   ·rw [wantedD_eq] at hw
    simp only [if_true]
    exact .inl (Oper.wp_mono hmain (hstep.1 hw))
  rintro a' w' ⟨v,γ',rfl,hkeep,hJ,hG⟩
  have hset:(fun j=>(listed.setIfInBounds i true).getD j false) = more (fun j=>listed.getD j false) i:=by
   funext j
   unfold more
   by_cases e:j = i
   ·subst e;simp [hlt]
   ·rw [getD_set_ne false (Ne.symm e)];simp [e]
  refine ⟨γ',?_⟩
  rw [hset]
  refine ⟨?_,?_,?_,?_,?_,hG⟩
  ·cases hd:o.dst <;> simp [Act.put,hI.defers]
  ·cases hd:o.dst <;> simp [Act.put,hI.size]
  ·intro j t hdt hlj
   by_cases e:j = i
   ·subst e
    rw [hdst] at hdt
    rw [<- hJ (by simp [hdt])]
    have hfit':t < a₀.tmps.size:=by
     have:=(List.all_eq_true.1 hfit) o (List.mem_of_getElem? (by simpa using ho))
     simpa [hdt] using this
    simp [Act.put,hdt,hI.size,hfit']
   ·have hlj':listed.getD j false = true:=by simpa [more,e] using hlj
    have hu:=hI.slot j t hdt hlj'
    rw [hkeep j hlj',<- hu]
    cases hd:o.dst with
    | none=>simp [Act.put]
    | some d =>
     have hne:d ≠ t:=fun e'=>e (dst_once hn hdt (by rw [hdst,hd,e']))
     simp only [Act.put]
     rw [Array.getElem?_setIfInBounds_ne hne]
  ·intro t hno
   rw [<- hI.rest t hno]
   cases hd:o.dst with
   | none=>simp [Act.put]
   | some d =>
    have hne:d ≠ t:=fun e'=>hno i (by rw [hdst,hd,e'])
    simp only [Act.put]
    rw [Array.getElem?_setIfInBounds_ne hne]
  ·intro j e hA hj
   by_cases h:j = i
   ·subst h
    obtain ⟨o',ho',x,hx,hb,rfl⟩:=hA
    obtain rfl:o = o':=by rw [ho] at ho';exact Option.some.inj ho'
    have:=hafter x hx hb
    simp only [more,this,Bool.or_true]
   ·have:=hI.closed j e hA (by simpa [more,h] using hj)
    simp only [more,this,Bool.or_true]
 ·rintro listed a w hs hr ⟨γ,hI⟩
  exact hq γ a w _ (all_listed ht hr hs) (fun j hj=>by
   have:¬ j < listed.size:=by omega
   simp [this]) hI
 ·refine ⟨γ₀,rfl,rfl,fun j t hd hl=>?_,fun _ _=>rfl,fun j e _ hj=>?_,?_⟩
  ·exfalso
   by_cases e:j < ops.size <;> simp [e] at hl
  ·exfalso
   by_cases e:j < ops.size <;> simp [e] at hj
  ·have:(fun j=>(Array.replicate ops.size false).getD j false) = (fun _=>false):=by
    funext j
    by_cases e:j < ops.size <;> simp [e]
   rw [this];exact h0
end
end
section
open Go.RowKit
def Tidy2:List Oper->Nat->Bool
 | [],_=>true
 | o :: rest,n=>(o.after.all fun e=>!(Region.binds .any e) || decide (e.on < n)) && Tidy2 rest (n + 1)
theorem tidy2_at:∀ (l:List Oper) (n i:Nat) (o:Oper),Tidy2 l n = true->l[i]? = some o->∀ e ∈ o.after,Region.binds .any e = true->e.on < n + i
 | [],_,_,_,_,h=>by simp at h
 | x :: rest,n,0,o,ht,h=>by
  simp only [Tidy2,Bool.and_eq_true] at ht
  simp only [List.getElem?_cons_zero,Option.some.injEq] at h
  subst h
  intro e he hb
  have:=(Array.all_eq_true_iff_forall_mem.1 ht.1) e he
  rw [hb] at this
  simpa using this
 | x :: rest,n,i + 1,o,ht,h=>by
  simp only [Tidy2,Bool.and_eq_true] at ht
  intro e he hb
  have:=tidy2_at rest (n + 1) i o ht.2 (by simpa using h) e he hb
  omega
theorem all_listed2 {ops:Array Oper} {listed:Array Bool} (ht:Tidy2 ops.toList 0 = true) (hr:Region.ready .any ops listed = []) (hs:listed.size = ops.size):∀ i,i < ops.size->listed.getD i false = true:=by
 intro i
 induction i using Nat.strongRecOn with
 | _ i ih =>
  intro hi
  cases hl:listed.getD i false with
  | true=>rfl
  | false =>
   exfalso
   have ho:ops[i]? = some ops[i]:=Array.getElem?_eq_getElem hi
   have hmem:i ∈ Region.ready .any ops listed:=by
    refine mem_ready.2 ⟨?_,ops[i],ho,fun e he hb=>?_⟩
    ·have:i < listed.size:=by omega
     simp [this] at hl ⊢;exact hl
    ·have:=tidy2_at ops.toList 0 i ops[i] ht (by simp [hi]) e he hb
     exact ih e.on (by omega) (by omega)
   rw [hr] at hmem
   simp at hmem
theorem tidy2_of:∀ {l:List Oper} {n:Nat},Tidy l n = true->Tidy2 l n = true
 | [],_,_=>rfl
 | o :: r,n,h=>by
  simp only [Tidy,Bool.and_eq_true] at h
  simp only [Tidy2,Bool.and_eq_true]
  refine ⟨?_,tidy2_of h.2⟩
  rw [Array.all_eq_true'] at h ⊢
  exact fun e he=>by rw [h.1 e he,Bool.or_true]
namespace RV
open Go.RowKit
def upd (γ:Nat->Value) (i:Nat) (v:Value):Nat->Value:=fun j=>if j = i then v else γ j
theorem upd_self (γ:Nat->Value) (i:Nat) (v:Value):upd γ i v i = v:=by simp [upd]
theorem upd_ne (γ:Nat->Value) {i j:Nat} (v:Value) (h:j ≠ i):upd γ i v j = γ j:=by simp [upd,h]
section
variable {P:Program} {ops:Array Oper} {Q:Exit->Act->World->Prop}
structure Held (D:Nat->Option Tmp) (A:Nat->Nat->Prop) (R:Nat->Value->World->Prop) (G:(Nat->Value)->(Nat->Bool)->World->Prop) (a₀:Act) (γ:Nat->Value) (L:Nat->Bool) (a:Act) (w:World):Prop where
 defers:a.defers = a₀.defers
 size:a.tmps.size = a₀.tmps.size
 slot:∀ (j:Nat) (t:Tmp),D j = some t->L j = true->a.tmps[t]? = some (γ j)
 holds:∀ j:Nat,L j = true->R j (γ j) w
 early:∀ t:Tmp,(∀ j:Nat,D j = some t->L j = false)->a.tmps[t]? = a₀.tmps[t]?
 closed:∀ j e:Nat,A j e->L j = true->L e = true
 glob:G γ L w
theorem Held.rest {D:Nat->Option Tmp} {A:Nat->Nat->Prop} {R:Nat->Value->World->Prop} {G:(Nat->Value)->(Nat->Bool)->World->Prop} {a₀:Act} {γ:Nat->Value} {L:Nat->Bool} {a:Act} {w:World} (h:Held D A R G a₀ γ L a w) (t:Tmp) (hno:∀ j:Nat,D j ≠ some t):a.tmps[t]? = a₀.tmps[t]?:=h.early t fun j e=>absurd e (hno j)
def Does (P:Program) (Q:Exit->Act->World->Prop) (D:Nat->Option Tmp) (A:Nat->Nat->Prop) (R:Nat->Value->World->Prop) (G:(Nat->Value)->(Nat->Bool)->World->Prop) (a₀:Act) (i:Nat) (o:Oper):Prop:=
 ∀ (γ:Nat->Value) (L:Nat->Bool) (a:Act) (w:World),Held D A R G a₀ γ L a w->L i = false->(∀ e ∈ o.after,Region.binds .any e = true->L e.on = true) ->
  (wantedD D o a = true->o.wp P a w (fun a' w'=>∃ v,a' = a.put o.dst v/\R i v w'/\(∀ j v,L j = true->R j v w->R j v w')/\G (upd γ i v) (more L i) w') Q) /\
  (wantedD D o a = false->R i undef w/\G (upd γ i undef) (more L i) w)
def AllDo (P:Program) (Q:Exit->Act->World->Prop) (D:Nat->Option Tmp) (A:Nat->Nat->Prop) (R:Nat->Value->World->Prop) (G:(Nat->Value)->(Nat->Bool)->World->Prop) (a₀:Act):List Oper->Nat->Prop
 | [],_=>True
 | o :: rest,n=>Does P Q D A R G a₀ n o/\AllDo P Q D A R G a₀ rest (n + 1)
theorem Held.got {D:Nat->Option Tmp} {A:Nat->Nat->Prop} {R:Nat->Value->World->Prop} {G:(Nat->Value)->(Nat->Bool)->World->Prop} {a₀:Act} {γ:Nat->Value} {L:Nat->Bool} {a:Act} {w:World} (h:Held D A R G a₀ γ L a w) {i:Nat} {t:Tmp} {v:Value} (d:D i = some t) (r:∀ u w,R i u w = (u = v)) (l:L i = true):a.tmps[t]? = some v:=by
 have e:=h.slot i t d l
 have g:=h.holds i l
 rw [r] at g
 rw [g] at e
 exact e
theorem AllDo.name {P:Program} {Q:Exit->Act->World->Prop} {D:Nat->Option Tmp} {A:Nat->Nat->Prop} {R:Nat->Value->World->Prop} {G:(Nat->Value)->(Nat->Bool)->World->Prop} {a₀:Act} {ops:List Oper} {k:Nat} (h:∀ R',R' = R->AllDo P Q D A R' G a₀ ops k):AllDo P Q D A R G a₀ ops k:=h R rfl
theorem AllDo.cons {D:Nat->Option Tmp} {A:Nat->Nat->Prop} {R:Nat->Value->World->Prop} {G:(Nat->Value)->(Nat->Bool)->World->Prop} {a₀:Act} {o:Oper} {rest:List Oper} (k:Nat) (h:Does P Q D A R G a₀ k o) (h':AllDo P Q D A R G a₀ rest (k + 1)):AllDo P Q D A R G a₀ (o :: rest) k:=⟨h,h'⟩
theorem AllDo.nil {D:Nat->Option Tmp} {A:Nat->Nat->Prop} {R:Nat->Value->World->Prop} {G:(Nat->Value)->(Nat->Bool)->World->Prop} {a₀:Act} {k:Nat}:AllDo P Q D A R G a₀ [] k:=trivial
theorem allDo_at {D:Nat->Option Tmp} {A:Nat->Nat->Prop} {R:Nat->Value->World->Prop} {G:(Nat->Value)->(Nat->Bool)->World->Prop} {a₀:Act}:∀ (l:List Oper) (n i:Nat) (o:Oper),AllDo P Q D A R G a₀ l n->l[i]? = some o->Does P Q D A R G a₀ (n + i) o
 | [],_,_,_,_,h=>by simp at h
 | x :: rest,n,0,o,ha,h=>by
  simp only [List.getElem?_cons_zero,Option.some.injEq] at h
  subst h;exact ha.1
 | x :: rest,n,i + 1,o,ha,h=>by
  have:=allDo_at rest (n + 1) i o ha.2 (by simpa using h)
  rwa [show n + 1 + i = n + (i + 1) by omega] at this
theorem region_by2 {id:Nat} {a₀:Act} {w:World} (R:Nat->Value->World->Prop) (G:(Nat->Value)->(Nat->Bool)->World->Prop) (hm:P.follows .mixedOrders = true)
  (ht:Tidy2 ops.toList 0 = true) (hn:Once ops.toList = true) (hfit:Fits ops.toList a₀.tmps.size = true)
  (h0:G (fun _=>undef) (fun _=>false) w.drew) (hall:AllDo P Q (dstOf ops) (waitsFor ops) R G a₀ ops.toList 0)
  (hq:∀ (γ:Nat->Value) (a:Act) (w:World) (L:Nat->Bool),(∀ j,j < ops.size->L j = true)->(∀ j,ops.size <= j->L j = false)->Held (dstOf ops) (waitsFor ops) R G a₀ γ L a w->Q .normal a w) :
  (Code.region id ops true).wp P Q a₀ w:=by
 refine wp_region_any hm (wpAny_by (fun listed a w=>∃ γ,Held (dstOf ops) (waitsFor ops) R G a₀ γ (fun j=>listed.getD j false) a w) ?_ ?_ _ _ _ _ (by simp) (by simp) ?_)
 ·intro listed a w i hs hi hI
  obtain ⟨γ,hI⟩:=hI
  obtain ⟨hl,o,ho,hafter⟩:=mem_ready.1 hi
  have hlt:i < listed.size:=by rw [hs];exact (Array.getElem?_eq_some_iff.1 ho).1
  have hl':listed.getD i false = false:=by simp [hlt] at hl ⊢;exact hl
  have hd:=allDo_at ops.toList 0 i o hall (by simpa using ho)
  rw [Nat.zero_add] at hd
  have hstep:=hd γ _ a w hI hl' hafter
  have hdst:dstOf ops i = o.dst:=by simp [dstOf,ho]
  suffices hmain:∀ (a':Act) (w':World),(∃ v,a' = a.put o.dst v/\R i v w'/\(∀ j v,listed.getD j false = true->R j v w->R j v w')/\G (upd γ i v) (more (fun j=>listed.getD j false) i) w') ->
    ∃ γ,Held (dstOf ops) (waitsFor ops) R G a₀ γ (fun j=>(listed.setIfInBounds i true).getD j false) a' w' by
   unfold wpOp
   simp only [ho]
   cases hw:Region.wanted o (yielded ops a.tmps)
   ·rw [wantedD_eq] at hw
    obtain ⟨s1,s2⟩:=hstep.2 hw
    simp only [Bool.false_eq_true,if_false]
    exact hmain _ _ ⟨undef,rfl,s1,fun _ _ _ h=>h,s2⟩
   ·rw [wantedD_eq] at hw
    simp only [if_true]
    exact .inl (Oper.wp_mono hmain (hstep.1 hw))
  rintro a' w' ⟨v,rfl,hR,hkeep,hG⟩
  have hset:(fun j=>(listed.setIfInBounds i true).getD j false) = more (fun j=>listed.getD j false) i:=by
   funext j
   unfold more
   by_cases e:j = i
   ·subst e;simp [hlt]
   ·rw [getD_set_ne false (Ne.symm e)];simp [e]
  refine ⟨upd γ i v,?_⟩
  rw [hset]
  refine ⟨?_,?_,?_,?_,?_,?_,hG⟩
  ·cases hd:o.dst <;> simp [Act.put,hI.defers]
  ·cases hd:o.dst <;> simp [Act.put,hI.size]
  ·intro j t hdt hlj
   by_cases e:j = i
   ·subst e
    rw [hdst] at hdt
    have hfit':t < a₀.tmps.size:=by
     have:=(List.all_eq_true.1 hfit) o (List.mem_of_getElem? (by simpa using ho))
     simpa [hdt] using this
    simp [Act.put,hdt,hI.size,hfit',upd]
   ·have hlj':listed.getD j false = true:=by simpa [more,e] using hlj
    have hu:=hI.slot j t hdt hlj'
    rw [upd_ne _ _ e,<- hu]
    cases hd:o.dst with
    | none=>simp [Act.put]
    | some d =>
     have hne:d ≠ t:=fun e'=>e (dst_once hn hdt (by rw [hdst,hd,e']))
     simp only [Act.put]
     rw [Array.getElem?_setIfInBounds_ne hne]
  ·intro j hlj
   by_cases e:j = i
   ·subst e;rw [upd_self];exact hR
   ·have hlj':listed.getD j false = true:=by simpa [more,e] using hlj
    rw [upd_ne _ _ e]
    exact hkeep j _ hlj' (hI.holds j hlj')
  ·intro t hno
   have hno':∀ j,dstOf ops j = some t->listed.getD j false = false:=fun j e=>by
    have:=hno j e
    by_cases h:j = i
    ·subst h;exact hl'
    ·simpa [more,h] using this
   rw [<- hI.early t hno']
   cases hd:o.dst with
   | none=>simp [Act.put]
   | some d =>
    have hne:d ≠ t:=fun e'=>by have:=hno i (by rw [hdst,hd,e']);simp [more] at this
    simp only [Act.put]
    rw [Array.getElem?_setIfInBounds_ne hne]
  ·intro j e hA hj
   by_cases h:j = i
   ·subst h
    obtain ⟨o',ho',x,hx,hb,rfl⟩:=hA
    obtain rfl:o = o':=by rw [ho] at ho';exact Option.some.inj ho'
    have:=hafter x hx hb
    simp only [more,this,Bool.or_true]
   ·have:=hI.closed j e hA (by simpa [more,h] using hj)
    simp only [more,this,Bool.or_true]
 ·rintro listed a w hs hr ⟨γ,hI⟩
  exact hq γ a w _ (all_listed2 ht hr hs) (fun j hj=>by have h9:¬ j < listed.size:=(by omega);simp [h9]) hI
 ·refine ⟨fun _=>undef,rfl,rfl,fun j t hd hl=>?_,fun j hl=>?_,fun _ _=>rfl,fun j e _ hj=>?_,?_⟩
  ·exfalso
   by_cases e:j < ops.size <;> simp [e] at hl
  ·exfalso
   by_cases e:j < ops.size <;> simp [e] at hl
  ·exfalso
   by_cases e:j < ops.size <;> simp [e] at hj
  ·have:(fun j=>(Array.replicate ops.size false).getD j false) = (fun _=>false):=by
    funext j
    by_cases e:j < ops.size <;> simp [e]
   rw [this];exact h0
theorem region_by {id:Nat} {a₀:Act} {w:World} (R:Nat->Value->World->Prop) (G:(Nat->Value)->(Nat->Bool)->World->Prop) (hm:P.follows .mixedOrders = true)
  (ht:Tidy ops.toList 0 = true) (hn:Once ops.toList = true) (hfit:Fits ops.toList a₀.tmps.size = true)
  (h0:G (fun _=>undef) (fun _=>false) w.drew) (hall:AllDo P Q (dstOf ops) (waitsFor ops) R G a₀ ops.toList 0)
  (hq:∀ (γ:Nat->Value) (a:Act) (w:World) (L:Nat->Bool),(∀ j,j < ops.size->L j = true)->(∀ j,ops.size <= j->L j = false)->Held (dstOf ops) (waitsFor ops) R G a₀ γ L a w->Q .normal a w) :
  (Code.region id ops true).wp P Q a₀ w:=
 region_by2 R G hm (tidy2_of ht) hn hfit h0 hall hq
variable {D:Nat->Option Tmp} {A:Nat->Nat->Prop} {R:Nat->Value->World->Prop} {G:(Nat->Value)->(Nat->Bool)->World->Prop} {a₀:Act}
theorem does_pure {i:Nat} {o:Oper} (hG:∀ γ v L w,L i = false->G γ L w->G (upd γ i v) (more L i) w)
  (h:∀ γ L a w,Held D A R G a₀ γ L a w->L i = false->(∀ e ∈ o.after,Region.binds .any e = true->L e.on = true)->∃ v,(execOp a.eval o).run P w = .ok (.value v) w/\R i v w) (hgd:o.guard = none:=by rfl):Does P Q D A R G a₀ i o:=by
 intro γ L a w hH hl haft
 refine ⟨fun _=>?_,fun hw=>by simp [wantedD,hgd] at hw⟩
 obtain ⟨v,hr,hR⟩:=h γ L a w hH hl haft
 unfold Oper.wp
 rw [hr]
 exact ⟨v,rfl,hR,fun _ _ _ h=>h,hG _ _ _ _ hl hH.glob⟩
theorem does_step {i:Nat} {o:Oper}
  (h:∀ γ L a w,Held D A R G a₀ γ L a w->L i = false->(∀ e ∈ o.after,Region.binds .any e = true->L e.on = true)->∃ v w',(execOp a.eval o).run P w = .ok (.value v) w'/\R i v w'/\(∀ j v,L j = true->R j v w->R j v w')/\G (upd γ i v) (more L i) w') (hgd:o.guard = none:=by rfl):Does P Q D A R G a₀ i o:=by
 intro γ L a w hH hl haft
 refine ⟨fun _=>?_,fun hw=>by simp [wantedD,hgd] at hw⟩
 obtain ⟨v,w',hr,hR,hk,hg⟩:=h γ L a w hH hl haft
 unfold Oper.wp
 rw [hr]
 exact ⟨v,rfl,hR,hk,hg⟩
theorem does_store {i:Nat} {o:Oper}
  (h:∀ γ L a w,Held D A R G a₀ γ L a w->L i = false->(∀ e ∈ o.after,Region.binds .any e = true->L e.on = true)->∃ w',(execOp a.eval o).run P w = .ok .skip w'/\R i undef w'/\(∀ j v,L j = true->R j v w->R j v w')/\G (upd γ i undef) (more L i) w') (hgd:o.guard = none:=by rfl):Does P Q D A R G a₀ i o:=by
 intro γ L a w hH hl haft
 refine ⟨fun _=>?_,fun hw=>by simp [wantedD,hgd] at hw⟩
 obtain ⟨w',hr,hR,hk,hg⟩:=h γ L a w hH hl haft
 unfold Oper.wp
 rw [hr]
 exact ⟨undef,rfl,hR,hk,hg⟩
theorem does_call {i:Nat} {o:Oper}
  (h:∀ γ L a w,Held D A R G a₀ γ L a w->L i = false->(∀ e ∈ o.after,Region.binds .any e = true->L e.on = true)->∃ f args,(execOp a.eval o).run P w = .ok (.enter f args) w/\Calls P f args w fun e w'=>∃ v,e = .returned v/\R i v w'/\(∀ j v,L j = true->R j v w->R j v w')/\G (upd γ i v) (more L i) w') (hgd:o.guard = none:=by rfl):Does P Q D A R G a₀ i o:=by
 intro γ L a w hH hl haft
 refine ⟨fun _=>?_,fun hw=>by simp [wantedD,hgd] at hw⟩
 obtain ⟨f,args,hr,hc⟩:=h γ L a w hH hl haft
 unfold Oper.wp
 rw [hr]
 refine Calls.mono hc ?_
 rintro e w' ⟨v,rfl,hR,hk,hg⟩
 exact ⟨v,rfl,hR,hk,hg⟩
theorem does_guarded {i:Nat} {o:Oper} {g:Nat} {b:Bool} {t:Tmp} (hgd:o.guard = some (g,b)) (hD:D g = some t) (hs:∀ v w,R g v w->v = .bool b) (he:⟨g,.guard⟩ ∈ o.after)
  (h:Does P Q D A R G a₀ i { o with guard:=none }):Does P Q D A R G a₀ i o:=by
 intro γ L a w hH hl haft
 have hL:=haft ⟨g,.guard⟩ he rfl
 have hslot:=hH.slot g t hD hL
 rw [hs _ _ (hH.holds g hL)] at hslot
 refine ⟨fun _=>(h γ L a w hH hl haft).1 rfl,fun hw=>?_⟩
 simp [wantedD,hgd,hD,hslot] at hw
theorem does_skip {i:Nat} {o:Oper} {g:Nat} {b:Bool} {t:Tmp} (hgd:o.guard = some (g,b)) (hD:D g = some t) (hs:∀ v w,R g v w->v = .bool (!b)) (he:⟨g,.guard⟩ ∈ o.after)
  (hi:∀ w,R i undef w) (hG:∀ γ v L w,L i = false->G γ L w->G (upd γ i v) (more L i) w):Does P Q D A R G a₀ i o:=by
 intro γ L a w hH hl haft
 have hL:=haft ⟨g,.guard⟩ he rfl
 have hslot:=hH.slot g t hD hL
 rw [hs _ _ (hH.holds g hL)] at hslot
 refine ⟨fun hw=>?_,fun _=>⟨hi _,hG _ _ _ _ hl hH.glob⟩⟩
 simp [wantedD,hgd,hD,hslot] at hw
theorem not_yet {a:Act} {γ:Nat->Value} {L:Nat->Bool} {w:World} (hH:Held D A R G a₀ γ L a w) {i j:Nat} (hA:A j i) (hl:L i = false):L j = false:=by
 cases h:L j with
 | false=>rfl
 | true=>rw [hH.closed j i hA h] at hl;cases hl
end
theorem more_ne {L:Nat->Bool} {i j:Nat} (h:j ≠ i):more L i j = L j:=by simp [more,h]
theorem more_self {L:Nat->Bool} {i:Nat}:more L i i = true:=by simp [more]
theorem dst_free {ops:Array Oper} {t:Tmp} (h:(ops.toList.all fun o=>decide (o.dst ≠ some t)) = true):∀ j,dstOf ops j ≠ some t:=by
 intro j e
 obtain ⟨o,ho,hd⟩:=Option.bind_eq_some_iff.1 e
 have:=(List.all_eq_true.1 h) o (List.mem_of_getElem? (by simpa using ho))
 simp [hd] at this
def putAll (v:Nat->Value):List Oper->Nat->Act->Act
 | [],_,a=>a
 | o :: r,n,a=>putAll v r (n + 1) (a.put o.dst (v n))
theorem putAll_defers (v:Nat->Value):∀ (l:List Oper) (n:Nat) (a:Act),(putAll v l n a).defers = a.defers
 | [],_,_=>rfl
 | o :: r,n,a=>by
  rw [putAll,putAll_defers v r]
  cases o.dst <;> simp [Act.put]
theorem putAll_other (v:Nat->Value) {t:Tmp}:∀ (l:List Oper) (n:Nat) (a:Act),(∀ o ∈ l,o.dst ≠ some t)->(putAll v l n a).tmps[t]? = a.tmps[t]?
 | [],_,_,_=>rfl
 | o :: r,n,a,h=>by
  rw [putAll,putAll_other v r _ _ (fun x hx=>h x (List.mem_cons_of_mem _ hx))]
  have h0:=h o (by simp)
  cases hd:o.dst with
  | none=>simp [Act.put]
  | some d =>
   have hne:d ≠ t:=fun e=>h0 (by rw [hd,e])
   simp only [Act.put]
   rw [Array.getElem?_setIfInBounds_ne hne]
theorem putAll_at (v:Nat->Value) {t:Tmp}:∀ (l:List Oper) (n j:Nat) (o:Oper) (a:Act),(l.filterMap (·.dst)).Nodup->l[j]? = some o->o.dst = some t->t < a.tmps.size->(putAll v l n a).tmps[t]? = some (v (n + j))
 | [],_,_,_,_,_,h,_,_=>by simp at h
 | x :: r,n,0,o,a,hn,h,hd,ht=>by
  simp only [List.getElem?_cons_zero,Option.some.injEq] at h
  subst h
  rw [List.filterMap_cons,hd] at hn
  have hno:=(List.nodup_cons.1 hn).1
  rw [putAll,putAll_other v r _ _ (fun o ho e=>hno (List.mem_filterMap.2 ⟨o,ho,e⟩))]
  simp [Act.put,hd,ht]
 | x :: r,n,j + 1,o,a,hn,h,hd,ht=>by
  have hr:(r.filterMap (·.dst)).Nodup:=by
   rw [List.filterMap_cons] at hn
   cases hx:x.dst with
   | none=>simpa [hx] using hn
   | some d=>rw [hx] at hn;exact (List.nodup_cons.1 hn).2
  rw [putAll,putAll_at v r (n + 1) j o _ hr (by simpa using h) hd (by cases hx:x.dst <;> simpa [Act.put] using ht)]
  congr 2;omega
theorem held_act {ops:Array Oper} {A:Nat->Nat->Prop} {R:Nat->Value->World->Prop} {G:(Nat->Value)->(Nat->Bool)->World->Prop} {a₀ a:Act} {γ:Nat->Value} {L:Nat->Bool} {w:World}
  (h:Held (dstOf ops) A R G a₀ γ L a w) (hL:∀ j,j < ops.size->L j = true) (hn:Once ops.toList = true) (hf:Fits ops.toList a₀.tmps.size = true):a = putAll γ ops.toList 0 a₀:=by
 have hd:a.defers = (putAll γ ops.toList 0 a₀).defers:=by rw [putAll_defers];exact h.defers
 have ht:a.tmps = (putAll γ ops.toList 0 a₀).tmps:=by
  apply Array.ext_getElem?
  intro t
  by_cases hx:∃ (j:Nat) (o:Oper),ops.toList[j]? = some o/\o.dst = some t
  ·obtain ⟨j,o,ho,hd⟩:=hx
   have hfit:t < a₀.tmps.size:=by
    have:=(List.all_eq_true.1 hf) o (List.mem_of_getElem? ho)
    simpa [hd] using this
   have ho':ops[j]? = some o:=by simpa using ho
   rw [putAll_at γ ops.toList 0 j o a₀ (of_decide_eq_true hn) ho hd hfit,Nat.zero_add]
   exact h.slot j t (by simp [dstOf,ho',hd]) (hL j (Array.getElem?_eq_some_iff.1 ho').1)
  ·rw [putAll_other γ ops.toList 0 a₀ (fun o ho e=>by
    obtain ⟨j,hj⟩:=List.getElem?_of_mem ho
    exact hx ⟨j,o,hj,e⟩)]
   refine h.rest t (fun j e=>?_)
   obtain ⟨o,ho,hd⟩:=Option.bind_eq_some_iff.1 e
   exact hx ⟨j,o,by simpa using ho,hd⟩
 cases a
 cases hp:putAll γ ops.toList 0 a₀
 rw [hp] at hd ht
 simp only at hd ht
 rw [hd,ht]
def Pend (W0:World) (T i j:Nat) (fin:Array Value) (γ:Nat->Value) (L:Nat->Bool) (w:World):Prop:=
 L i = true->∃ (b:Nat) (cs:Array Value),γ i = .pointer (some ⟨b,0,none⟩)/\W0.heap.size <= b/\w.heap[b]? = some (.cells cs T (0,0))/\cs.size = fin.size/\(L j = true->cs = fin)
section
variable {W0:World} {T i j:Nat} {fin:Array Value} {γ:Nat->Value} {L:Nat->Bool} {w w':World}
theorem Pend.start (h:L i = false):Pend W0 T i j fin γ L w:=fun e=>by rw [h] at e;cases e
theorem Pend.other (h:Pend W0 T i j fin γ L w) {k:Nat} (v:Value) (hi:i ≠ k) (hj:j ≠ k):Pend W0 T i j fin (upd γ k v) (more L k) w:=by
 intro hl
 rw [more_ne hi] at hl
 obtain ⟨b,cs,h1,h2,h3,h4,h5⟩:=h hl
 exact ⟨b,cs,by rw [upd_ne _ _ hi];exact h1,h2,h3,h4,fun e=>h5 (by rw [more_ne hj] at e;exact e)⟩
theorem Pend.below (h:Pend W0 T i j fin γ L w) (hb:Below w.heap.size w w'):Pend W0 T i j fin γ L w':=by
 intro hl
 obtain ⟨b,cs,h1,h2,h3,h4,h5⟩:=h hl
 exact ⟨b,cs,h1,h2,(hb.block b (Array.getElem?_eq_some_iff.1 h3).1).trans h3,h4,h5⟩
theorem Pend.made (cs:Array Value) (hs:cs.size = fin.size) (hw:W0.heap.size <= w.heap.size) (hj:L j = false) (hij:j ≠ i):Pend W0 T i j fin (upd γ i (.pointer (some ⟨w.heap.size,0,none⟩))) (more L i) (w.alloc (.cells cs T (0,0))):=by
 intro _
 exact ⟨w.heap.size,cs,by rw [upd_self],hw,heap_alloc_new _ _,hs,fun e=>by rw [more_ne hij,hj] at e;cases e⟩
theorem Pend.filled {b:Nat} (hi:γ i = .pointer (some ⟨b,0,none⟩)) (hb:W0.heap.size <= b) (hx:w'.heap[b]? = some (.cells fin T (0,0))) (hij:i ≠ j) (v:Value):Pend W0 T i j fin (upd γ j v) (more L j) w':=by
 intro _
 exact ⟨b,fin,by rw [upd_ne _ _ hij];exact hi,hb,hx,rfl,fun _=>rfl⟩
end
abbrev cc:=@AllDo.cons
abbrev dp:=@does_pure
abbrev dc:=@does_call
abbrev dg:=@does_guarded
abbrev ny:=@not_yet
abbrev mn:=@more_ne
end RV
end
section
namespace RV
open Go.RowKit
def Is:List (Option Value)->Nat->Value->World->Prop
 | some x :: _,0,v,_=>v = x
 | _ :: l,n + 1,v,w=>Is l n v w
 | _,_,_,_=>True
theorem Is.at:∀ {l:List (Option Value)} {j:Nat} {v x:Value} {w:World},Is l j v w->l[j]? = some (some x)->v = x
 | [],_,_,_,_,_,e=>by simp at e
 | some y :: l,0,v,x,w,h,e=>by
  simp only [List.getElem?_cons_zero,Option.some.injEq] at e
  rw [<- e];exact h
 | none :: l,0,v,x,w,h,e=>by simp at e
 | some y :: l,n + 1,v,x,w,h,e=>Is.at (l:=l) (j:=n) (w:=w) h (by simpa using e)
 | none :: l,n + 1,v,x,w,h,e=>Is.at (l:=l) (j:=n) (w:=w) h (by simpa using e)
theorem Is.keep:∀ {l:List (Option Value)} {j:Nat} {v:Value} {w:World} (w':World),Is l j v w->Is l j v w'
 | [],_,_,_,_,_=>by simp only [Is]
 | some y :: l,0,v,w,w',h=>h
 | none :: l,0,v,w,w',h=>trivial
 | some y :: l,n + 1,v,w,w',h=>Is.keep (l:=l) (j:=n) (w:=w) w' h
 | none :: l,n + 1,v,w,w',h=>Is.keep (l:=l) (j:=n) (w:=w) w' h
def dstN (o:Oper):Nat:=match o.dst with | none=>0 | some t=>t + 1
def Slots (L:Nat->Bool) (a:Act):List Nat->List (Option Value)->Nat->Prop
 | (t + 1) :: ds,some v :: vs,n=>(L n = true->a.tmps[t]? = some v)/\Slots L a ds vs (n + 1)
 | _ :: ds,_ :: vs,n=>Slots L a ds vs (n + 1)
 | _,_,_=>True
def Outs (a:Act):List (Nat × Value)->Prop
 | []=>True
 | x :: r=>a.tmps[x.1]? = some x.2/\Outs a r
def free (ops:Array Oper) (E:List (Nat × Value)):Bool:=E.all fun x=>ops.toList.all fun o=>decide (o.dst ≠ some x.1)
def waitsB (ops:Array Oper) (j i:Nat):Bool:=match ops[j]? with | some o=>o.after.any fun e=>Region.binds .any e && e.on == i | none=>false
theorem wt {ops:Array Oper} {A:Nat->Nat->Prop} {j i:Nat} (hA:waitsFor ops = A) (h:waitsB ops j i = true):A j i:=by
 rw [<- hA]
 unfold waitsB at h
 cases ho:ops[j]? with
 | none=>rw [ho] at h;cases h
 | some o =>
  rw [ho] at h
  obtain ⟨e,he,hb⟩:=Array.any_eq_true'.1 h
  simp only [Bool.and_eq_true,beq_iff_eq] at hb
  exact ⟨o,ho,e,he,hb.1,hb.2⟩
section
variable {P:Program} {ops:Array Oper} {Q:Exit->Act->World->Prop}
theorem outs_of {D:Nat->Option Tmp} {A:Nat->Nat->Prop} {R:Nat->Value->World->Prop} {G:(Nat->Value)->(Nat->Bool)->World->Prop} {a₀:Act} {γ:Nat->Value} {L:Nat->Bool} {a:Act} {w:World} (hD:dstOf ops = D) (h:Held D A R G a₀ γ L a w):∀ (E:List (Nat × Value)),free ops E = true->Outs a₀ E->Outs a E
 | [],_,_=>trivial
 | x :: r,hf,ho=>by
  unfold free at hf
  rw [List.all_cons,Bool.and_eq_true] at hf
  refine ⟨?_,outs_of hD h r hf.2 ho.2⟩
  rw [h.rest x.1 (by rw [<- hD];exact dst_free hf.1)]
  exact ho.1
theorem slots_of {D:Nat->Option Tmp} {A:Nat->Nat->Prop} {l:List (Option Value)} {G:(Nat->Value)->(Nat->Bool)->World->Prop} {a₀:Act} {γ:Nat->Value} {L:Nat->Bool} {a:Act} {w:World} (hD:dstOf ops = D) (h:Held D A (Is l) G a₀ γ L a w) :
  ∀ (os:List Oper) (vs:List (Option Value)) (n:Nat),(∀ k,ops[n + k]? = os[k]?)->(∀ k,l[n + k]? = vs[k]?)->Slots L a (os.map dstN) vs n
 | [],vs,n,_,_=>by simp only [List.map_nil,Slots]
 | o :: os,[],n,_,_=>by rw [List.map_cons];cases dstN o <;> trivial
 | o :: os,v :: vs,n,ho,hv=>by
  have ih:=slots_of hD h os vs (n + 1) (fun k=>by have:=ho (k + 1);rw [show n + (k + 1) = n + 1 + k by omega] at this;simpa using this) (fun k=>by have:=hv (k + 1);rw [show n + (k + 1) = n + 1 + k by omega] at this;simpa using this)
  have o0:ops[n]? = some o:=by have:=ho 0;simpa using this
  have v0:l[n]? = some v:=by have:=hv 0;simpa using this
  rw [List.map_cons]
  cases hd:o.dst with
  | none=>rw [show dstN o = 0 by simp [dstN,hd]];simp only [Slots];exact ih
  | some t =>
   rw [show dstN o = t + 1 by simp [dstN,hd]]
   cases v with
   | none=>simp only [Slots];exact ih
   | some x =>
    simp only [Slots]
    refine ⟨fun hl=>?_,ih⟩
    rw [h.slot n t (by rw [<- hD];simp [dstOf,o0,hd]) hl,Is.at (h.holds n hl) v0]
def putL (γ:Nat->Value):List (Option Value)->List Oper->Nat->Act->Act
 | some v :: vs,o :: os,n,a=>putL γ vs os (n + 1) (a.put o.dst v)
 | none :: vs,o :: os,n,a=>putL γ vs os (n + 1) (a.put o.dst (γ n))
 | _,_,_,a=>a
theorem putL_of (γ:Nat->Value):∀ (os:List Oper) (vs:List (Option Value)) (n:Nat) (a:Act),vs.length = os.length->(∀ k x,vs[k]? = some (some x)->γ (n + k) = x)->putAll γ os n a = putL γ vs os n a
 | [],vs,n,a,_,_=>by cases vs with | nil=>rfl | cons v vs=>cases v <;> rfl
 | o :: os,[],n,a,hl,_=>by simp at hl
 | o :: os,v :: vs,n,a,hl,h=>by
  have ih:=fun b=>putL_of γ os vs (n + 1) b (by simpa using hl) (fun k x e=>by rw [show n + 1 + k = n + (k + 1) by omega];exact h (k + 1) x (by simpa using e))
  cases v with
  | none=>rw [putAll,putL];exact ih _
  | some v=>rw [putAll,putL,show γ n = v from h 0 v (by simp)];exact ih _
theorem is_act {A:Nat->Nat->Prop} {l:List (Option Value)} {G:(Nat->Value)->(Nat->Bool)->World->Prop} {a₀ a:Act} {γ:Nat->Value} {L:Nat->Bool} {w:World}
  (h:Held (dstOf ops) A (Is l) G a₀ γ L a w) (hL:∀ j,j < ops.size->L j = true) (hn:Once ops.toList = true) (hf:Fits ops.toList a₀.tmps.size = true) (hs:l.length = ops.toList.length) :
  a = putL γ l ops.toList 0 a₀:=
 (held_act h hL hn hf).trans (putL_of γ _ _ 0 _ hs fun k x e=>by
  have hk:k < l.length:=(List.getElem?_eq_some_iff.1 e).1
  rw [Nat.zero_add]
  exact Is.at (h.holds k (hL k (by rw [hs] at hk;simpa using hk))) e)
theorem region_is {id:Nat} {a₀:Act} {w:World} (l:List (Option Value)) (ds:List Nat) (E:List (Nat × Value)) (G:(Nat->Value)->(Nat->Bool)->World->Prop) (hm:P.follows .mixedOrders = true)
  (ht:Tidy2 ops.toList 0 = true) (hn:Once ops.toList = true) (hfit:Fits ops.toList a₀.tmps.size = true) (hd:ops.toList.map dstN = ds) (hs:l.length = ops.toList.length) (hE:free ops E = true) (hE0:Outs a₀ E)
  (h0:G (fun _=>undef) (fun _=>false) w.drew)
  (hall:∀ D A Z,dstOf ops = D->waitsFor ops = A->a₀ = Z->(∀ γ L a w,Held D A (Is l) G Z γ L a w->Outs a E/\Slots L a ds l 0)->AllDo P Q D A (Is l) G Z ops.toList 0)
  (hq:∀ (γ:Nat->Value) (w:World) (L:Nat->Bool),(∀ j,j < ops.size->L j = true)->(∀ j,L j = true->Is l j (γ j) w)->G γ L w->Q .normal (putL γ l ops.toList 0 a₀) w) :
  (Code.region id ops true).wp P Q a₀ w:=by
 refine region_by2 (Is l) G hm ht hn hfit h0 (hall _ _ _ rfl rfl rfl fun γ L a w h=>⟨outs_of rfl h E hE hE0,?_⟩) fun γ a w L hL _ h=>?_
 ·rw [<- hd]
  exact slots_of rfl h _ l 0 (fun k=>by simp) (fun k=>by simp)
 ·rw [is_act h hL hn hfit hs]
  exact hq γ w L hL h.holds h.glob
theorem rs {id:Nat} {a₀:Act} {w:World} (l:List (Option Value)) (ds:List Nat) (E:List (Nat × Value)) (G:(Nat->Value)->(Nat->Bool)->World->Prop) (hE0:Outs a₀ E)
  (h0:G (fun _=>undef) (fun _=>false) w.drew)
  (hall:∀ D A Z,dstOf ops = D->waitsFor ops = A->a₀ = Z->(∀ γ L a w,Held D A (Is l) G Z γ L a w->Outs a E/\Slots L a ds l 0)->AllDo P Q D A (Is l) G Z ops.toList 0)
  (hq:∀ (γ:Nat->Value) (w:World) (L:Nat->Bool),(∀ j,j < ops.size->L j = true)->(∀ j,L j = true->Is l j (γ j) w)->G γ L w->Q .normal (putL γ l ops.toList 0 a₀) w)
  (hm:P.follows .mixedOrders = true:=by kernel_rfl) (ht:Tidy2 ops.toList 0 = true:=by kernel_rfl) (hn:Once ops.toList = true:=by kernel_rfl) (hfit:Fits ops.toList a₀.tmps.size = true:=by kernel_rfl) (hd:ops.toList.map dstN = ds:=by kernel_rfl) (hs:l.length = ops.toList.length:=by kernel_rfl) (hE:free ops E = true:=by kernel_rfl) :
  (Code.region id ops true).wp P Q a₀ w:=region_is l ds E G hm ht hn hfit hd hs hE hE0 h0 hall hq
variable {D:Nat->Option Tmp} {A:Nat->Nat->Prop} {l:List (Option Value)} {G:(Nat->Value)->(Nat->Bool)->World->Prop} {a₀:Act} {F:(Nat->Bool)->Act->Prop}
theorem pu (T:∀ γ L a w,Held D A (Is l) G a₀ γ L a w->F L a) {i:Nat} {o:Oper} (hG:∀ γ v L w,L i = false->G γ L w->G (upd γ i v) (more L i) w)
  (h:∀ γ L a w,Held D A (Is l) G a₀ γ L a w->L i = false->F L a->(∀ e ∈ o.after,Region.binds .any e = true->L e.on = true)->∃ v,(execOp a.eval o).run P w = .ok (.value v) w/\Is l i v w) (hgd:o.guard = none:=by rfl):Does P Q D A (Is l) G a₀ i o:=
 does_pure hG (fun γ L a w hH hl hA=>h γ L a w hH hl (T γ L a w hH) hA) hgd
end
end RV
end
section
open Go.RowKit
theorem mul64_any (x y:Int) (w:World) (hx0:0 <= x) (hx:x < 18446744073709551616) (hy0:0 <= y) (hy:y < 18446744073709551616) :
  Calls Tryz.prog 146 #[.int .u64 x,.int .u64 y] w fun e w'=>e = .returned (.tuple #[.int .u64 (x * y / 18446744073709551616),.int .u64 (x * y % 18446744073709551616)])/\w' = w:=by
 have Ha:Hid (_ = _):=mul64_arith x y hx0 hx hy0 hy
 have hmx:=and_low32 x hx0 hx
 have hmy:=and_low32 y hy0 hy
 have hmt:Hid (∀ z:Int,bits .and .u64 (z % 18446744073709551616) 4294967295 = z % 18446744073709551616 % 4294967296):=fun z=>and_low32 _ (by omega) (by omega)
 go_enter Tryz.func146,Tryz.ntmps146
 go_wp2
 simp only [IntKind.wrap_u64,hmt.out,Ha.out]
 go_ret2
 exact ⟨rfl,rfl⟩
theorem add64_run (x y c:Int) (w:World) (hx0:0 <= x) (hy0:0 <= y) (hc0:0 <= c) (hc:c <= 1) :
  (callFunc 156 #[.int .u64 x,.int .u64 y,.int .u64 c]).run Tryz.prog w =
   .ok (.value (.tuple #[.int .u64 ((x + y + c) % 18446744073709551616),.int .u64 ((x + y + c) / 18446744073709551616)])) w:=by
 rw [run_callFunc_extern Tryz.func156 (by kernel_rfl) (by kernel_rfl) (by kernel_rfl) (e:=add64Entry) (by kernel_rfl),run_add64 x y c hx0 hy0 hc0 hc]
 rfl
theorem sub64_entry {P:Program} (x y b:Nat) (hb:b <= 1) (w:World) :
  ((Extern.MathBitsCarry.rows[1]'(by decide)).2 #[.int .u64 x,.int .u64 y,.int .u64 b]).run P w =
   .ok (.tuple #[.int .u64 (((x + 18446744073709551616 - y - b) % 18446744073709551616:Nat):Int),.int .u64 ((if x < y + b then 1 else 0:Nat):Int)]) w:=by
 have:b = 0 \/ b = 1:=by omega
 rcases this with rfl | rfl <;> rfl
theorem sub64_run (x y b:Int) (w:World) (hx0:0 <= x) (hx:x < 18446744073709551616) (hy0:0 <= y) (hy:y < 18446744073709551616) (hb0:0 <= b) (hb:b <= 1) :
  (callFunc 169 #[.int .u64 x,.int .u64 y,.int .u64 b]).run Tryz.prog w =
   .ok (.value (.tuple #[.int .u64 ((x - y - b) % 18446744073709551616),.int .u64 (if x < y + b then 1 else 0)])) w:=by
 obtain ⟨x,rfl⟩:=Int.eq_ofNat_of_zero_le hx0
 obtain ⟨y,rfl⟩:=Int.eq_ofNat_of_zero_le hy0
 obtain ⟨b,rfl⟩:=Int.eq_ofNat_of_zero_le hb0
 rw [run_callFunc_extern Tryz.func169 (by kernel_rfl) (by kernel_rfl) (by kernel_rfl) (e:=(Extern.MathBitsCarry.rows[1]'(by decide)).2) (by kernel_rfl),sub64_entry x y b (by omega)]
 simp only [Result.andThen]
 have e1:(((x + 18446744073709551616 - y - b) % 18446744073709551616:Nat):Int) = ((x:Int) - y - b) % 18446744073709551616:=by omega
 have e2:(((if x < y + b then 1 else 0:Nat)):Int) = (if (x:Int) < y + b then 1 else 0):=by split <;> split <;> omega
 rw [e1,e2]
theorem len_fin (x y B:Int) (b:Nat) (hB:B = (b:Int)) (hb:b <= 56) (hy:y.toNat = x.toNat / 2 ^ b) (h:b = 0 \/ y.toNat ≠ 0) (h256:y.toNat < 256) :
  wrap64 (B + wrap64 (bitLen y.toNat)) = bitLen x.toNat:=by
 have l:=bitLen_le8 y.toNat h256
 have e:bitLen x.toNat = b + bitLen y.toNat:=by
  rcases h with rfl | h
  ·rw [hy];simp
  ·rw [hy] at h ⊢;exact bitLen_shift _ _ h
 rw [e,hB]
 unfold wrap64
 omega
theorem len64_any (x:Int) (w:World) (hx0:0 <= x) (hx:x < 18446744073709551616) :
  Calls Tryz.prog 166 #[.int .u64 x] w fun e w'=>e = .returned (.int .i64 (bitLen x.toNat))/\w' = w:=by
 go_enter Tryz.func166,Tryz.ntmps166
 go_wp2
 all_goals (go_ret;refine ⟨congrArg Ending.returned (congrArg (Value.int IntKind.i64) ?_),rfl⟩;rw [len8tab_get])
 ·exact len_fin x _ _ 56 rfl (by omega) (by omega) (Or.inr (by omega)) (by omega)
 ·exact len_fin x _ _ 48 rfl (by omega) (by omega) (Or.inr (by omega)) (by omega)
 ·exact len_fin x _ _ 40 rfl (by omega) (by omega) (Or.inr (by omega)) (by omega)
 ·exact len_fin x _ _ 32 rfl (by omega) (by omega) (Or.inr (by omega)) (by omega)
 ·exact len_fin x _ _ 24 rfl (by omega) (by omega) (Or.inr (by omega)) (by omega)
 ·exact len_fin x _ _ 16 rfl (by omega) (by omega) (Or.inr (by omega)) (by omega)
 ·exact len_fin x _ _ 8 rfl (by omega) (by omega) (Or.inr (by omega)) (by omega)
 ·simpa using len_fin x x 0 0 rfl (by omega) (by simp) (Or.inl rfl) (by omega)
theorem bitLen_le64 (x:Int) (hx0:0 <= x) (hx:x < 18446744073709551616):bitLen x.toNat <= 64:=by
 by_cases h:x.toNat = 0
 ·rw [h];decide
 ·have:=(bitLen_spec x.toNat).2 h
  by_cases g:bitLen x.toNat <= 64
  ·exact g
  ·exfalso
   have:=Nat.pow_le_pow_right (n:=2) (by omega) (show 64 <= bitLen x.toNat - 1 by omega)
   omega
theorem lz64_any (x:Int) (w:World) (hx0:0 <= x) (hx:x < 18446744073709551616) :
  Calls Tryz.prog 170 #[.int .u64 x] w fun e w'=>e = .returned (.int .i64 (64 - (bitLen x.toNat:Int)))/\w' = w:=by
 have l:=bitLen_le64 x hx0 hx
 go_enter Tryz.func170,Tryz.ntmps170
 go_wp2_with (go_at_call 166;refine (len64_any x _ hx0 hx).mono ?_;rintro e w' ⟨rfl,rfl⟩)
 go_ret
 exact ⟨rfl,rfl⟩
end
section
namespace Fx
theorem div_of {n y q:Int} (hy:0 < y) (h1:q * y <= n) (h2:n < (q + 1) * y):n / y = q/\n % y = n - q * y:=by
 have e:n / y = q:=by
  apply Int.le_antisymm
  ·have:=(Int.ediv_lt_iff_lt_mul hy).2 h2;omega
  ·exact (Int.le_ediv_iff_mul_le hy).2 h1
 refine ⟨e,?_⟩
 have:=Int.emod_add_mul_ediv n y
 rw [e,Int.mul_comm] at this
 omega
theorem div_is (n y:Int) (hy:0 < y):n / y * y <= n/\n < (n / y + 1) * y:=by
 have a:=Int.emod_add_mul_ediv n y
 have b:=Int.emod_nonneg n (by omega:y ≠ 0)
 have c:=Int.emod_lt_of_pos n hy
 rw [Int.add_mul,Int.mul_comm (n / y) y]
 omega
def Inv (U1 y1 Q q r:Int):Prop:=r + q * y1 = U1/\0 <= r/\Q <= q/\q <= 4294967297
theorem inv_start {U1 u1 y1 y0 Q:Int} (hU:0 <= U1) (hUY:U1 < y1 * 4294967296 + y0) (hu0:0 <= u1) (hu:u1 < 4294967296) (hy0:0 <= y0) (hy0':y0 < 4294967296) (hy1:2147483648 <= y1)
  (hQ0:0 <= Q) (hQ:Q * (y1 * 4294967296 + y0) <= U1 * 4294967296 + u1):Inv U1 y1 Q (U1 / y1) (U1 % y1)/\U1 % y1 < y1:=by
 have a:=Int.emod_add_mul_ediv U1 y1
 have b:=Int.emod_nonneg U1 (by omega:y1 ≠ 0)
 have c:=Int.emod_lt_of_pos U1 (by omega:0 < y1)
 rw [Int.mul_comm] at a
 refine ⟨⟨a,b,?_,?_⟩,c⟩
 ·apply (Int.le_ediv_iff_mul_le (by omega)).2
  have e:Q * (y1 * 4294967296 + y0) = Q * y1 * 4294967296 + Q * y0:=by rw [Int.mul_add,Int.mul_assoc]
  have:=Int.mul_nonneg hQ0 hy0
  omega
 ·have:U1 / y1 < 4294967298:=(Int.ediv_lt_iff_lt_mul (by omega)).2 (by omega)
  omega
theorem inv_step {U1 u1 y1 y0 Q q r:Int} (hUY:U1 < y1 * 4294967296 + y0) (hu0:0 <= u1) (hu:u1 < 4294967296) (hy0:0 <= y0) (hy1:2147483648 <= y1)
  (hQ:Q * (y1 * 4294967296 + y0) <= U1 * 4294967296 + u1) (hi:Inv U1 y1 Q q r) (hc:4294967296 <= q \/ 4294967296 * r + u1 < q * y0):Inv U1 y1 Q (q - 1) (r + y1):=by
 obtain ⟨h1,h2,h3,h4⟩:=hi
 have e:q * (y1 * 4294967296 + y0) = q * y1 * 4294967296 + q * y0:=by rw [Int.mul_add,Int.mul_assoc]
 have hlt:Q < q:=by
  rcases hc with hc | hc
  ·have:Q * (y1 * 4294967296 + y0) < 4294967296 * (y1 * 4294967296 + y0):=by omega
   have:=Int.lt_of_mul_lt_mul_right this (by omega)
   omega
  ·have:Q * (y1 * 4294967296 + y0) < q * (y1 * 4294967296 + y0):=by omega
   exact Int.lt_of_mul_lt_mul_right this (by omega)
 refine ⟨?_,by omega,by omega,by omega⟩
 rw [Int.sub_mul]
 omega
theorem inv_end {U1 u1 y1 y0 Q q r:Int} (hy0:0 <= y0) (hy1:2147483648 <= y1)
  (hQ:U1 * 4294967296 + u1 < (Q + 1) * (y1 * 4294967296 + y0)) (hi:Inv U1 y1 Q q r) (hc:q * y0 <= 4294967296 * r + u1):q = Q:=by
 obtain ⟨h1,h2,h3,h4⟩:=hi
 have e:q * (y1 * 4294967296 + y0) = q * y1 * 4294967296 + q * y0:=by rw [Int.mul_add,Int.mul_assoc]
 have:q * (y1 * 4294967296 + y0) < (Q + 1) * (y1 * 4294967296 + y0):=by omega
 have:=Int.lt_of_mul_lt_mul_right this (by omega)
 omega
theorem inv_break {U1 u1 y1 y0 Q q r:Int} (hy0:0 <= y0) (hy0':y0 < 4294967296) (hy1:2147483648 <= y1) (hu0:0 <= u1)
  (hQ:U1 * 4294967296 + u1 < (Q + 1) * (y1 * 4294967296 + y0)) (hi:Inv U1 y1 Q q r) (hq:q <= 4294967296) (hr:4294967296 <= r):q = Q:=by
 refine inv_end hy0 hy1 hQ hi ?_
 have:=Int.mul_le_mul_of_nonneg_right hq hy0
 omega
theorem two_digits {U1 u1 u0 Y Q1 Q0:Int} (hY:0 < Y) (_hu:0 <= u0) (_hu':u0 < 4294967296)
  (_h1:Q1 * Y <= U1 * 4294967296 + u1) (_h2:U1 * 4294967296 + u1 < (Q1 + 1) * Y)
  (h3:Q0 * Y <= (U1 * 4294967296 + u1 - Q1 * Y) * 4294967296 + u0) (h4:(U1 * 4294967296 + u1 - Q1 * Y) * 4294967296 + u0 < (Q0 + 1) * Y) :
  (U1 * 18446744073709551616 + u1 * 4294967296 + u0) / Y = Q1 * 4294967296 + Q0 /\
  (U1 * 18446744073709551616 + u1 * 4294967296 + u0) % Y = (U1 * 4294967296 + u1 - Q1 * Y) * 4294967296 + u0 - Q0 * Y:=by
 have e:(Q1 * 4294967296 + Q0) * Y = Q1 * Y * 4294967296 + Q0 * Y:=by rw [Int.add_mul,Int.mul_right_comm]
 have e':(Q1 * 4294967296 + Q0 + 1) * Y = Q1 * Y * 4294967296 + (Q0 + 1) * Y:=by rw [Int.add_assoc,Int.add_mul,Int.mul_right_comm]
 have:=div_of (n:=U1 * 18446744073709551616 + u1 * 4294967296 + u0) (q:=Q1 * 4294967296 + Q0) hY (by omega) (by omega)
 omega
theorem digit (U1 u1 Y:Int) (h0:0 <= U1) (h1:U1 < Y) (h2:0 <= u1) (h3:u1 < 4294967296) :
  ∃ Q,0 <= Q/\Q < 4294967296/\Q * Y <= U1 * 4294967296 + u1/\U1 * 4294967296 + u1 < (Q + 1) * Y:=by
 obtain ⟨a,b⟩:=div_is (U1 * 4294967296 + u1) Y (by omega)
 refine ⟨_,?_,?_,a,b⟩
 ·exact Int.ediv_nonneg (by omega) (by omega)
 ·exact (Int.ediv_lt_iff_lt_mul (by omega)).2 (by omega)
theorem scaled {n y:Int} (s:Nat) (hy:0 < y):(n * 2 ^ s) / (y * 2 ^ s) = n / y/\(n * 2 ^ s) % (y * 2 ^ s) / 2 ^ s = n % y:=by
 have hp:(0:Int) < 2 ^ s:=Int.pow_pos (by omega)
 have:=div_is n y hy
 have a:n / y * (y * 2 ^ s) <= n * 2 ^ s:=by rw [<- Int.mul_assoc];exact Int.mul_le_mul_of_nonneg_right this.1 (by omega)
 have b:n * 2 ^ s < (n / y + 1) * (y * 2 ^ s):=by rw [<- Int.mul_assoc];exact Int.mul_lt_mul_of_pos_right this.2 hp
 have h:=div_of (Int.mul_pos hy hp) a b
 refine ⟨h.1,?_⟩
 have m:=Int.emod_add_mul_ediv n y
 have e:n * 2 ^ s - n / y * (y * 2 ^ s) = (n % y) * 2 ^ s:=by
  rw [<- Int.mul_assoc,<- Int.sub_mul]
  congr 1
  rw [Int.mul_comm];omega
 rw [h.2,e]
 exact Int.mul_ediv_cancel _ (by omega)
def fl (X c:Int):Int:=if c < 0 then (-X) / (-c) else X / c
theorem neg_div {T c:Int} (hc:0 < c):(-T) / c = if T % c = 0 then -(T / c) else -(T / c + 1):=by
 have a:=Int.emod_add_mul_ediv T c
 have b:=Int.emod_nonneg T (by omega:c ≠ 0)
 have d:=Int.emod_lt_of_pos T hc
 rw [Int.mul_comm] at a
 split
 ·refine (div_of hc ?_ ?_).1
  ·rw [Int.neg_mul];omega
  ·rw [Int.add_mul,Int.neg_mul];omega
 ·refine (div_of hc ?_ ?_).1
  ·rw [Int.neg_mul,Int.add_mul];omega
  ·rw [Int.neg_add,Int.neg_add_cancel_right,Int.neg_mul];omega
def isq:Nat->Nat
 | 0=>0
 | n + 1=>if (isq n + 1) * (isq n + 1) <= n + 1 then isq n + 1 else isq n
theorem isq_is (n:Nat):isq n * isq n <= n/\n < (isq n + 1) * (isq n + 1):=by
 induction n with
 | zero=>simp [isq]
 | succ n ih =>
  simp only [isq]
  split
  ·refine ⟨by assumption,?_⟩
   have:(isq n + 1 + 1) * (isq n + 1 + 1) = (isq n + 1) * (isq n + 1) + 2 * isq n + 3:=by grind
   omega
  ·omega
theorem isq_of {X r:Int} (h0:0 <= r) (h1:r * r <= X) (h2:X < (r + 1) * (r + 1)):r = (isq X.toNat:Int):=by
 have hX:0 <= X:=Int.le_trans (Int.mul_nonneg h0 h0) h1
 obtain ⟨x,rfl⟩:=Int.eq_ofNat_of_zero_le hX
 obtain ⟨r,rfl⟩:=Int.eq_ofNat_of_zero_le h0
 obtain ⟨a,b⟩:=isq_is x
 simp only [Int.toNat_natCast]
 have h1:r * r <= x:=by exact_mod_cast h1
 have h2:x < (r + 1) * (r + 1):=by exact_mod_cast h2
 have c:r < isq x + 1:=by
  apply Nat.lt_of_not_le;intro h
  have:=Nat.mul_le_mul h h;omega
 have d:isq x < r + 1:=by
  apply Nat.lt_of_not_le;intro h
  have:=Nat.mul_le_mul h h;omega
 omega
def great (n:Int):Bool:=decide (n < -4611686018427387903) || decide (4611686018427387903 < n)
theorem great_iff (n:Int):great n = true ↔ n < -4611686018427387903 \/ 4611686018427387903 < n:=by simp [great]
theorem not_great (n:Int):great n = false ↔ -4611686018427387903 <= n/\n <= 4611686018427387903:=by simp [great]
def told (n:Int):Option Int:=if great n then none else some n
def add (a b:Int):Option Int:=if great a || great b then none else told (a + b)
def sub (a b:Int):Option Int:=if great a || great b then none else told (a - b)
def mul (a b:Int):Option Int:=if great a || great b then none else told (a * b / 4294967296)
def ratio (a b c:Int):Option Int:=if c = 0 then none else if great a || (great b || great c) then none else told (fl (a * b) c)
def root (a:Int):Option Int:=if a < 0 then none else if great a then none else told (isq (a * 4294967296).toNat)
def prods:List Int->List Int->Int
 | a :: l,b :: m=>a * b + prods l m
 | _,_=>0
theorem prods_step:∀ (k:Nat) (l m:List Int),k < l.length->k < m.length->prods (l.take (k + 1)) (m.take (k + 1)) = prods (l.take k) (m.take k) + l.getD k 0 * m.getD k 0
 | 0,a :: l,b :: m,_,_=>by simp [prods]
 | k + 1,a :: l,b :: m,h,h'=>by
  have:=prods_step k l m (by simpa using h) (by simpa using h')
  simp only [List.take_succ_cons,prods,List.getD_cons_succ] at this ⊢
  rw [this];omega
 | _,[],_,h,_=>by simp at h
 | _,_ :: _,[],_,h=>by simp at h
theorem prods_bound:∀ (l m:List Int),l.any great = false->m.any great = false->(prods l m).natAbs <= l.length * 21267647932558653957237540927630737409
 | [],_,_,_=>by simp [prods]
 | _ :: _,[],_,_=>by simp [prods]
 | a :: l,b :: m,h,h'=>by
  simp only [List.any_cons,Bool.or_eq_false_iff] at h h'
  have:=prods_bound l m h.2 h'.2
  have ha:=(not_great a).1 h.1
  have hb:=(not_great b).1 h'.1
  have hp:(a * b).natAbs <= 4611686018427387903 * 4611686018427387903:=by rw [Int.natAbs_mul];exact Nat.mul_le_mul (by omega) (by omega)
  simp only [prods,List.length_cons]
  omega
theorem prods_self:∀ (l:List Int),0 <= prods l l
 | []=>by simp [prods]
 | a :: l=>by
  have:=prods_self l
  have h:0 <= a * a:=by
   rcases Int.le_total 0 a with g | g
   ·exact Int.mul_nonneg g g
   ·exact Int.mul_nonneg_of_nonpos_of_nonpos g g
  simp only [prods];omega
theorem any_take {l:List Int} (k:Nat) (h:l.any great = false):(l.take k).any great = false:=by
 rw [List.any_eq_false] at h ⊢
 exact fun x hx=>h x (List.mem_of_mem_take hx)
theorem getD_small {l:List Int} {k:Nat} (h:l.any great = false) (hk:k < l.length):great (l.getD k 0) = false:=by
 rw [List.any_eq_false] at h
 have:=h _ (List.getElem_mem hk)
 simpa [List.getD_eq_getElem?_getD,List.getElem?_eq_getElem hk] using this
def dot (l m:List Int):Option Int:=if l.length ≠ m.length then none else if 8 < l.length then none else if l.any great || m.any great then none else told (prods l m / 4294967296)
def norm (l:List Int):Option Int:=if 8 < l.length then none else if l.any great then none else told (isq (prods l l).toNat)
end Fx
end
section
open Go.RowKit Fx
theorem norm_setup (hi lo y:Int) (s:Nat) (hs:(64:Int) - (bitLen y.toNat:Int) = s) (hh0:1 <= hi) (hh:hi < y) (hl0:0 <= lo) (hl:lo < 18446744073709551616) (hy:y < 4611686018427387904) :
  1 <= s/\s <= 63/\∃ Y y1 y0 U1 L u1 u0:Int,
   IntKind.u64.wrap (y * 2 ^ s) = Y/\Y / 4294967296 = y1/\bits .and .u64 Y 4294967295 = y0/\Y = y1 * 4294967296 + y0/\0 <= y0/\y0 < 4294967296/\2147483648 <= y1/\y1 < 4294967296 /\
   bits .or .u64 (IntKind.u64.wrap (hi * 2 ^ s)) (lo / 2 ^ (64 - s)) = U1/\0 <= U1/\U1 < Y /\
   IntKind.u64.wrap (lo * 2 ^ s) = L/\L / 4294967296 = u1/\bits .and .u64 L 4294967295 = u0/\0 <= u1/\u1 < 4294967296/\0 <= u0/\u0 < 4294967296 /\
   Y = y * 2 ^ s/\(hi * 18446744073709551616 + lo) * 2 ^ s = U1 * 18446744073709551616 + u1 * 4294967296 + u0:=by
 obtain ⟨b1,b2⟩:=bitLen_spec y.toNat
 have b2:=b2 (by omega)
 generalize hb:bitLen y.toNat = b at *
 have hb62:b <= 62:=by
  by_cases g:b <= 62
  ·exact g
  ·exfalso
   have:=Nat.pow_le_pow_right (n:=2) (by omega) (show 62 <= b - 1 by omega)
   omega
 have hb1:1 <= b:=by
  rcases Nat.eq_zero_or_pos b with h0 | h0
  ·rw [h0] at b1;simp at b1;omega
  ·exact h0
 have hs1:1 <= s:=by omega
 have hs2:s <= 63:=by omega
 refine ⟨hs1,hs2,?_⟩
 have p1:(2:Nat) ^ (b - 1) * 2 ^ s = 9223372036854775808:=by rw [<- Nat.pow_add,show b - 1 + s = 63 by omega]
 have p2:(2:Nat) ^ b * 2 ^ s = 18446744073709551616:=by rw [<- Nat.pow_add,show b + s = 64 by omega]
 have p3:(2:Nat) ^ (64 - s) * 2 ^ s = 18446744073709551616:=by rw [<- Nat.pow_add,show 64 - s + s = 64 by omega]
 have hp:0 < (2:Nat) ^ s:=Nat.two_pow_pos s
 have hp':0 < (2:Nat) ^ (64 - s):=Nat.two_pow_pos _
 obtain ⟨Y,rfl⟩:=Int.eq_ofNat_of_zero_le (show 0 <= y by omega)
 obtain ⟨H,rfl⟩:=Int.eq_ofNat_of_zero_le (show 0 <= hi by omega)
 obtain ⟨L,rfl⟩:=Int.eq_ofNat_of_zero_le hl0
 simp only [Int.toNat_natCast] at b1 b2
 have q1:9223372036854775808 <= Y * 2 ^ s:=by rw [<- p1];exact Nat.mul_le_mul_right _ b2
 have q2:Y * 2 ^ s < 18446744073709551616:=by rw [<- p2];exact Nat.mul_lt_mul_of_pos_right b1 hp
 have q3:H * 2 ^ s + 2 ^ s <= Y * 2 ^ s:=by rw [<- Nat.succ_mul];exact Nat.mul_le_mul_right _ (by omega)
 have c1:((Y:Int) * 2 ^ s) = ((Y * 2 ^ s:Nat):Int):=by simp
 have c2:((H:Int) * 2 ^ s) = ((H * 2 ^ s:Nat):Int):=by simp
 have c3:((L:Int) * 2 ^ s) = ((L * 2 ^ s:Nat):Int):=by simp
 have c4:((L:Int) / 2 ^ (64 - s)) = ((L / 2 ^ (64 - s):Nat):Int):=by simp
 have d1:L / 2 ^ (64 - s) < 2 ^ s:=by
  rw [Nat.div_lt_iff_lt_mul hp',Nat.mul_comm,p3];omega
 have d2:L * 2 ^ s = L / 2 ^ (64 - s) * 18446744073709551616 + L * 2 ^ s % 18446744073709551616:=by
  have e:=Nat.div_add_mod L (2 ^ (64 - s))
  have m:L % 2 ^ (64 - s) * 2 ^ s < 18446744073709551616:=by rw [<- p3];exact Nat.mul_lt_mul_of_pos_right (Nat.mod_lt _ hp') hp
  have e2:L * 2 ^ s = L / 2 ^ (64 - s) * 18446744073709551616 + L % 2 ^ (64 - s) * 2 ^ s:=by
   have:L * 2 ^ s = (2 ^ (64 - s) * (L / 2 ^ (64 - s)) + L % 2 ^ (64 - s)) * 2 ^ s:=by rw [e]
   rw [this,Nat.add_mul,Nat.mul_right_comm,p3,Nat.mul_comm 18446744073709551616]
  omega
 have hor:bits .or .u64 (IntKind.u64.wrap ((H:Int) * 2 ^ s)) ((L:Int) / 2 ^ (64 - s)) = ((H * 2 ^ s + L / 2 ^ (64 - s):Nat):Int):=by
  rw [IntKind.wrap_u64,c2,c4,show ((H * 2 ^ s:Nat):Int) % 18446744073709551616 = ((H * 2 ^ s:Nat):Int) by omega,u64_or_nat _ _ (by omega) (by omega),nat_join s _ _ (Nat.mul_mod_left _ _) d1]
 have htot:((H:Int) * 18446744073709551616 + L) * 2 ^ s = ((H * 2 ^ s:Nat):Int) * 18446744073709551616 + ((L * 2 ^ s:Nat):Int):=by
  rw [<- c2,<- c3,Int.add_mul,Int.mul_right_comm]
 rw [hor,htot,c1,c3]
 generalize Y * 2 ^ s = A at *
 generalize H * 2 ^ s = B at *
 generalize L * 2 ^ s = C at *
 generalize L / 2 ^ (64 - s) = D at *
 have wA:IntKind.u64.wrap (A:Int) = (A:Int):=by rw [IntKind.wrap_u64];omega
 have wC:IntKind.u64.wrap (C:Int) = ((C % 18446744073709551616:Nat):Int):=by rw [IntKind.wrap_u64];omega
 have aA:=and_low32 (A:Int) (by omega) (by omega)
 have aC:=and_low32 ((C % 18446744073709551616:Nat):Int) (by omega) (by omega)
 rw [wA,wC]
 exact ⟨A,_,_,_,_,_,_,rfl,rfl,aA,by omega,by omega,by omega,by omega,by omega,rfl,by omega,by omega,rfl,rfl,aC,by omega,by omega,by omega,by omega,rfl,by omega⟩
theorem div64_lo (lo y:Int) (w:World) (hl0:0 <= lo) (hl:lo < 18446744073709551616) (hy0:1 <= y) (hy:y < 4611686018427387904) :
  Calls Tryz.prog 164 #[.int .u64 0,.int .u64 lo,.int .u64 y] w fun e w'=>e = .returned (.tuple #[.int .u64 (lo / y),.int .u64 (lo % y)])/\w' = w.drew:=by
 have hyz:(y == 0) = false:=by simp;omega
 have hb1:0 <= lo / y:=Int.ediv_nonneg hl0 (by omega)
 have hb2:lo / y <= lo:=Int.ediv_le_self _ hl0
 go_enter Tryz.func164,Tryz.ntmps164
 go_wp2
 go_region
 all_goals go_wp2
 all_goals go_ret2
 all_goals exact ⟨rfl,rfl⟩
theorem div64_hi (hi lo y:Int) (w:World) (hh0:1 <= hi) (hh:hi < y) (hl0:0 <= lo) (hl:lo < 18446744073709551616) (hy:y < 4611686018427387904) :
  Calls Tryz.prog 164 #[.int .u64 hi,.int .u64 lo,.int .u64 y] w fun e w'=>e = .returned (.tuple #[.int .u64 ((hi * 18446744073709551616 + lo) / y),.int .u64 ((hi * 18446744073709551616 + lo) % y)])/\w' = w:=by
 have hyz:(y == 0) = false:=by simp;omega
 have hhz:(hi == 0) = false:=by simp;omega
 have hbl:=bitLen_le64 y (by omega) (by omega)
 obtain ⟨s,hs⟩:∃ s:Nat,(64:Int) - (bitLen y.toNat:Int) = s:=⟨64 - bitLen y.toNat,by omega⟩
 obtain ⟨hs1,hs2,Y,y1,y0,U1,L,u1,u0,hY,hy1,hy0,hYe,hy00,hy01,hy10,hy11,hU,hU0,hU1,hL,hu1,hu0,hu10,hu11,hu00,hu01,hYs,htot⟩:=norm_setup hi lo y s hs hh0 hh hl0 hl hy
 have YE:Hid (Y = y1 * 4294967296 + y0):=hYe
 have YS:Hid (Y = y * 2 ^ s):=hYs
 have TOT:Hid ((hi * 18446744073709551616 + lo) * 2 ^ s = U1 * 18446744073709551616 + u1 * 4294967296 + u0):=htot
 have HS:Hid (64 - (bitLen y.toNat:Int) = s):=hs
 clear hYe hYs htot
 obtain ⟨Q1,hQ10,hQ11,hQ1a,hQ1b⟩:=digit U1 u1 Y hU0 hU1 hu10 hu11
 obtain ⟨R,hR⟩:∃ R,R = U1 * 4294967296 + u1 - Q1 * Y:=⟨_,rfl⟩
 have hR0:0 <= R:=by omega
 have hR1:R < Y:=by have:=Int.add_mul Q1 1 Y;omega
 have hun:IntKind.u64.wrap (IntKind.u64.wrap (IntKind.u64.wrap (U1 * 4294967296) + u1) - IntKind.u64.wrap (Q1 * Y)) = R:=by
  simp only [IntKind.wrap_u64];omega
 obtain ⟨Q0,hQ00,hQ01,hQ0a,hQ0b⟩:=digit R u0 Y hR0 hR1 hu00 hu01
 obtain ⟨R0,hR0e⟩:∃ R0,R0 = R * 4294967296 + u0 - Q0 * Y:=⟨_,rfl⟩
 have hR00:0 <= R0:=by omega
 have hR01:R0 < Y:=by have:=Int.add_mul Q0 1 Y;omega
 have hun0:IntKind.u64.wrap (IntKind.u64.wrap (IntKind.u64.wrap (R * 4294967296) + u0) - IntKind.u64.wrap (Q0 * Y)) = R0:=by
  simp only [IntKind.wrap_u64];omega
 have FIN:Hid ((hi * 18446744073709551616 + lo) / y = Q1 * 4294967296 + Q0/\(hi * 18446744073709551616 + lo) % y = R0 / 2 ^ s):=by
  have a:=two_digits (Q1:=Q1) (Q0:=Q0) (U1:=U1) (u1:=u1) (u0:=u0) (Y:=Y) (by omega) hu00 hu01 hQ1a hQ1b (by rw [<- hR];exact hQ0a) (by rw [<- hR];exact hQ0b)
  rw [<- hR,<- hR0e,<- TOT.out,YS.out] at a
  have b:=scaled (n:=hi * 18446744073709551616 + lo) s (show 0 < y by omega)
  rw [a.1,a.2] at b
  exact ⟨b.1.symm,b.2.symm⟩
 have J0:Hid _:=inv_start (Q:=Q1) hU0 (by rw [<- YE.out];exact hU1) hu10 hu11 hy00 hy01 hy10 hQ10 (by rw [<- YE.out];exact hQ1a)
 have K0:Hid _:=inv_start (Q:=Q0) hR0 (by rw [<- YE.out];exact hR1) hu00 hu01 hy00 hy01 hy10 hQ00 (by rw [<- YE.out];exact hQ0a)
 have QA:Hid (Q1 * (y1 * 4294967296 + y0) <= U1 * 4294967296 + u1):=by rw [<- YE.out];exact hQ1a
 have QB:Hid (U1 * 4294967296 + u1 < (Q1 + 1) * (y1 * 4294967296 + y0)):=by rw [<- YE.out];exact hQ1b
 have PA:Hid (Q0 * (y1 * 4294967296 + y0) <= R * 4294967296 + u0):=by rw [<- YE.out];exact hQ0a
 have PB:Hid (R * 4294967296 + u0 < (Q0 + 1) * (y1 * 4294967296 + y0)):=by rw [<- YE.out];exact hQ0b
 have hU1':Hid (U1 < y1 * 4294967296 + y0):=by rw [<- YE.out];exact hU1
 have hR1':Hid (R < y1 * 4294967296 + y0):=by rw [<- YE.out];exact hR1
 have hqb:0 <= U1 / y1/\U1 / y1 <= 4294967297:=by have:=J0.out.1.2.2;omega
 have hqb0:0 <= R / y1/\R / y1 <= 4294967297:=by have:=K0.out.1.2.2;omega
 have hrh:IntKind.u64.wrap (U1 - IntKind.u64.wrap (U1 / y1 * y1)) = U1 % y1:=by
  have a:=J0.out.1.1;have b:=J0.out.2;have c:=J0.out.1.2.1;simp only [IntKind.wrap_u64];omega
 have hrh0:IntKind.u64.wrap (R - IntKind.u64.wrap (R / y1 * y1)) = R % y1:=by
  have a:=K0.out.1.1;have b:=K0.out.2;have c:=K0.out.1.2.1;simp only [IntKind.wrap_u64];omega
 have HR:Hid (R = U1 * 4294967296 + u1 - Q1 * Y):=hR
 clear hQ1a hQ1b hQ0a hQ0b hR hR0e
 have STEP:Hid (∀ q r:Int,Inv U1 y1 Q1 q r->r < 4294967296->(4294967296 <= q \/ 4294967296 * r + u1 < q * y0)->Inv U1 y1 Q1 (q - 1) (r + y1)/\(4294967296 <= r + y1->q - 1 = Q1)):=by
  intro q r hI _ hc
  have h:=inv_step hU1'.out hu10 hu11 hy00 hy10 QA.out hI hc
  exact ⟨h,fun g=>inv_break hy00 hy01 hy10 hu10 QB.out h (by have:=hI.2.2.2;omega) g⟩
 have STEP0:Hid (∀ q r:Int,Inv R y1 Q0 q r->r < 4294967296->(4294967296 <= q \/ 4294967296 * r + u0 < q * y0)->Inv R y1 Q0 (q - 1) (r + y1)/\(4294967296 <= r + y1->q - 1 = Q0)):=by
  intro q r hI _ hc
  have h:=inv_step hR1'.out hu00 hu01 hy00 hy10 PA.out hI hc
  exact ⟨h,fun g=>inv_break hy00 hy01 hy10 hu00 PB.out h (by have:=hI.2.2.2;omega) g⟩
 have hm:Hid (∀ q:Int,0 <= q->q < 4294967296->0 <= q * y0/\q * y0 < 18446744073709551616):=by
  intro q a b
  have:=Int.mul_nonneg a hy00
  have:=Int.mul_le_mul (show q <= 4294967295 by omega) (show y0 <= 4294967295 by omega) hy00 (by omega)
  omega
 go_enter Tryz.func164,Tryz.ntmps164
 go_wp2_with (go_at_call 170;refine (lz64_any y _ (by omega) (by omega)).mono ?_;rintro e w' ⟨rfl,rfl⟩)
 go_loop [15,16] (fun a b=>∃ q r:Int,a = .int .u64 q/\b = .int .u64 r/\Hid (Inv U1 y1 Q1 q r)/\r < 4294967296) (fun a _=>(intOf a).toNat)
 case atStart=>exact ⟨_,_,rfl,rfl,J0.out.1,by have:=J0.out.2;omega⟩
 case round =>
  obtain ⟨q,r,rfl,rfl,HI,hr⟩:=hrel
  have hI:=HI.out
  have hq0:Q1 <= q:=hI.2.2.1
  have hq1:q <= 4294967297:=hI.2.2.2
  have hr0:0 <= r:=hI.2.1
  clear hI
  have hmq:=hm.out q (by omega)
  by_cases hA:4294967296 <= q
  ·have hS:=STEP.out q r HI.out hr (Or.inl hA)
   have S1:Hid (Inv U1 y1 Q1 (q - 1) (r + y1)):=hS.1
   have hq2:Q1 <= q - 1:=hS.1.2.2.1
   clear hmq
   by_cases hbr:4294967296 <= r + y1
   ·obtain rfl:q = Q1 + 1:=by have:=hS.2 hbr;omega
    clear hS
    go_wp2
    go_loop [18,16] (fun a b=>∃ q r:Int,a = .int .u64 q/\b = .int .u64 r/\Hid (Inv R y1 Q0 q r)/\r < 4294967296) (fun a _=>(intOf a).toNat)
    case atStart=>exact ⟨_,_,rfl,rfl,K0.out.1,by have:=K0.out.2;omega⟩
    case round =>
     obtain ⟨p,t,rfl,rfl,HI0,ht⟩:=hrel
     have hI:=HI0.out
     have hp0:Q0 <= p:=hI.2.2.1
     have hp1:p <= 4294967297:=hI.2.2.2
     have ht0:0 <= t:=hI.2.1
     clear hI
     by_cases hA0:4294967296 <= p
     ·have hS:=STEP0.out p t HI0.out ht (Or.inl hA0)
      have S1:Hid (Inv R y1 Q0 (p - 1) (t + y1)):=hS.1
      have hp2:Q0 <= p - 1:=hS.1.2.2.1
      by_cases hbr0:4294967296 <= t + y1
      ·obtain rfl:p = Q0 + 1:=by have:=hS.2 hbr0;omega
       clear hS
       go_wp2
       go_ret2
       refine ⟨?_,rfl⟩
       rw [FIN.out.1,FIN.out.2]
       rfl
      ·clear hS
       go_wp2
       go_round
       case rel=>exact ⟨_,_,rfl,rfl,S1,by omega⟩
       case measure=>simp [intOf];omega
     ·have hmq:=hm.out p (by omega) (by omega)
      by_cases hB0:4294967296 * t + u0 < p * y0
      ·have hS:=STEP0.out p t HI0.out ht (Or.inr hB0)
       have S1:Hid (Inv R y1 Q0 (p - 1) (t + y1)):=hS.1
       have hp2:Q0 <= p - 1:=hS.1.2.2.1
       by_cases hbr0:4294967296 <= t + y1
       ·obtain rfl:p = Q0 + 1:=by have:=hS.2 hbr0;omega
        clear hS
        go_wp2
        go_ret2
        refine ⟨?_,rfl⟩
        rw [FIN.out.1,FIN.out.2]
        rfl
       ·clear hS
        go_wp2
        go_round
        case rel=>exact ⟨_,_,rfl,rfl,S1,by omega⟩
        case measure=>simp [intOf];omega
      ·obtain rfl:p = Q0:=inv_end hy00 hy10 PB.out HI0.out (by omega)
       go_wp2
       go_ret2
       refine ⟨?_,rfl⟩
       rw [FIN.out.1,FIN.out.2]
       rfl
   ·clear hS
    go_wp2
    go_round
    case rel=>exact ⟨_,_,rfl,rfl,S1,by omega⟩
    case measure=>simp [intOf];omega
  ·have hmq:=hmq (by omega)
   by_cases hB:4294967296 * r + u1 < q * y0
   ·have hS:=STEP.out q r HI.out hr (Or.inr hB)
    have S1:Hid (Inv U1 y1 Q1 (q - 1) (r + y1)):=hS.1
    have hq2:Q1 <= q - 1:=hS.1.2.2.1
    by_cases hbr:4294967296 <= r + y1
    ·obtain rfl:q = Q1 + 1:=by have:=hS.2 hbr;omega
     clear hS
     go_wp2
     go_loop [18,16] (fun a b=>∃ q r:Int,a = .int .u64 q/\b = .int .u64 r/\Hid (Inv R y1 Q0 q r)/\r < 4294967296) (fun a _=>(intOf a).toNat)
     case atStart=>exact ⟨_,_,rfl,rfl,K0.out.1,by have:=K0.out.2;omega⟩
     case round =>
      obtain ⟨p,t,rfl,rfl,HI0,ht⟩:=hrel
      have hI:=HI0.out
      have hp0:Q0 <= p:=hI.2.2.1
      have hp1:p <= 4294967297:=hI.2.2.2
      have ht0:0 <= t:=hI.2.1
      clear hI
      by_cases hA0:4294967296 <= p
      ·have hS:=STEP0.out p t HI0.out ht (Or.inl hA0)
       have S1:Hid (Inv R y1 Q0 (p - 1) (t + y1)):=hS.1
       have hp2:Q0 <= p - 1:=hS.1.2.2.1
       by_cases hbr0:4294967296 <= t + y1
       ·obtain rfl:p = Q0 + 1:=by have:=hS.2 hbr0;omega
        clear hS
        go_wp2
        go_ret2
        refine ⟨?_,rfl⟩
        rw [FIN.out.1,FIN.out.2]
        rfl
       ·clear hS
        go_wp2
        go_round
        case rel=>exact ⟨_,_,rfl,rfl,S1,by omega⟩
        case measure=>simp [intOf];omega
      ·have hmq:=hm.out p (by omega) (by omega)
       by_cases hB0:4294967296 * t + u0 < p * y0
       ·have hS:=STEP0.out p t HI0.out ht (Or.inr hB0)
        have S1:Hid (Inv R y1 Q0 (p - 1) (t + y1)):=hS.1
        have hp2:Q0 <= p - 1:=hS.1.2.2.1
        by_cases hbr0:4294967296 <= t + y1
        ·obtain rfl:p = Q0 + 1:=by have:=hS.2 hbr0;omega
         clear hS
         go_wp2
         go_ret2
         refine ⟨?_,rfl⟩
         rw [FIN.out.1,FIN.out.2]
         rfl
        ·clear hS
         go_wp2
         go_round
         case rel=>exact ⟨_,_,rfl,rfl,S1,by omega⟩
         case measure=>simp [intOf];omega
       ·obtain rfl:p = Q0:=inv_end hy00 hy10 PB.out HI0.out (by omega)
        go_wp2
        go_ret2
        refine ⟨?_,rfl⟩
        rw [FIN.out.1,FIN.out.2]
        rfl
    ·clear hS
     go_wp2
     go_round
     case rel=>exact ⟨_,_,rfl,rfl,S1,by omega⟩
     case measure=>simp [intOf];omega
   ·obtain rfl:q = Q1:=inv_end hy00 hy10 QB.out HI.out (by omega)
    go_wp2
    go_loop [18,16] (fun a b=>∃ q r:Int,a = .int .u64 q/\b = .int .u64 r/\Hid (Inv R y1 Q0 q r)/\r < 4294967296) (fun a _=>(intOf a).toNat)
    case atStart=>exact ⟨_,_,rfl,rfl,K0.out.1,by have:=K0.out.2;omega⟩
    case round =>
     obtain ⟨p,t,rfl,rfl,HI0,ht⟩:=hrel
     have hI:=HI0.out
     have hp0:Q0 <= p:=hI.2.2.1
     have hp1:p <= 4294967297:=hI.2.2.2
     have ht0:0 <= t:=hI.2.1
     clear hI
     by_cases hA0:4294967296 <= p
     ·have hS:=STEP0.out p t HI0.out ht (Or.inl hA0)
      have S1:Hid (Inv R y1 Q0 (p - 1) (t + y1)):=hS.1
      have hp2:Q0 <= p - 1:=hS.1.2.2.1
      by_cases hbr0:4294967296 <= t + y1
      ·obtain rfl:p = Q0 + 1:=by have:=hS.2 hbr0;omega
       clear hS
       go_wp2
       go_ret2
       refine ⟨?_,rfl⟩
       rw [FIN.out.1,FIN.out.2]
       rfl
      ·clear hS
       go_wp2
       go_round
       case rel=>exact ⟨_,_,rfl,rfl,S1,by omega⟩
       case measure=>simp [intOf];omega
     ·have hmq:=hm.out p (by omega) (by omega)
      by_cases hB0:4294967296 * t + u0 < p * y0
      ·have hS:=STEP0.out p t HI0.out ht (Or.inr hB0)
       have S1:Hid (Inv R y1 Q0 (p - 1) (t + y1)):=hS.1
       have hp2:Q0 <= p - 1:=hS.1.2.2.1
       by_cases hbr0:4294967296 <= t + y1
       ·obtain rfl:p = Q0 + 1:=by have:=hS.2 hbr0;omega
        clear hS
        go_wp2
        go_ret2
        refine ⟨?_,rfl⟩
        rw [FIN.out.1,FIN.out.2]
        rfl
       ·clear hS
        go_wp2
        go_round
        case rel=>exact ⟨_,_,rfl,rfl,S1,by omega⟩
        case measure=>simp [intOf];omega
      ·obtain rfl:p = Q0:=inv_end hy00 hy10 PB.out HI0.out (by omega)
       go_wp2
       go_ret2
       refine ⟨?_,rfl⟩
       rw [FIN.out.1,FIN.out.2]
       rfl
end
section
open Go.RowKit Fx
theorem i64_mul_lt (a b:Int) (ha0:0 <= a) (ha:a < 9223372036854775808) (hb0:0 <= b) (hb:b < 9223372036854775808):0 <= a * b/\a * b < 85070591730234615865843651857942052864:=by
 have h1:=Int.mul_nonneg ha0 hb0
 have h2:=Int.mul_le_mul (show a <= 9223372036854775807 by omega) (show b <= 9223372036854775807 by omega) hb0 (by omega)
 omega
theorem product_any (a b:Int) (w:World) (ha0:-9223372036854775808 <= a) (ha:a < 9223372036854775808) (hb0:-9223372036854775808 <= b) (hb:b < 9223372036854775808) :
  Calls Tryz.prog 120 #[.int .i64 a,.int .i64 b] w fun e w'=>e = .returned (.agg #[.int .u64 (a * b / 18446744073709551616 % 18446744073709551616),.int .u64 (a * b % 18446744073709551616)])/\Below w.heap.size w w':=by
 by_cases ga:a < 0
 ·obtain ⟨ua,hua⟩:∃ u,u = a + 18446744073709551616:=⟨_,rfl⟩
  have hwa:IntKind.u64.wrap a = ua:=by rw [IntKind.wrap_u64];omega
  have hu0:0 <= ua:=by omega
  have hu1:ua < 18446744073709551616:=by omega
  by_cases gb:b < 0
  ·obtain ⟨ub,hub⟩:∃ u,u = b + 18446744073709551616:=⟨_,rfl⟩
   have hwb:IntKind.u64.wrap b = ub:=by rw [IntKind.wrap_u64];omega
   have hv0:0 <= ub:=by omega
   have hv1:ub < 18446744073709551616:=by omega
   have hq:IntKind.u64.wrap (IntKind.u64.wrap (ua * ub / 18446744073709551616 - ub) - ua) = a * b / 18446744073709551616 % 18446744073709551616:=by
    rw [hua,hub,Int.add_mul,Int.mul_add,IntKind.wrap_u64,IntKind.wrap_u64];omega
   have hm:ua * ub % 18446744073709551616 = a * b % 18446744073709551616:=by rw [hua,hub,Int.add_mul,Int.mul_add];omega
   clear hua hub
   go_enter Tryz.func120,Tryz.ntmps120
   go_wp2_with (go_at_call 146;refine (mul64_any _ _ _ ?_ ?_ ?_ ?_).mono ?_;(omega);(omega);(omega);(omega);rintro e w' ⟨rfl,rfl⟩)
   go_returns
   exact ⟨rfl,by go_grown⟩
  ·have hq:IntKind.u64.wrap (ua * b / 18446744073709551616 - b) = a * b / 18446744073709551616 % 18446744073709551616:=by
    rw [hua,Int.add_mul,IntKind.wrap_u64];omega
   have hm:ua * b % 18446744073709551616 = a * b % 18446744073709551616:=by rw [hua,Int.add_mul];omega
   clear hua
   go_enter Tryz.func120,Tryz.ntmps120
   go_wp2_with (go_at_call 146;refine (mul64_any _ _ _ ?_ ?_ ?_ ?_).mono ?_;(omega);(omega);(omega);(omega);rintro e w' ⟨rfl,rfl⟩)
   go_returns
   exact ⟨rfl,by go_grown⟩
 ·by_cases gb:b < 0
  ·obtain ⟨ub,hub⟩:∃ u,u = b + 18446744073709551616:=⟨_,rfl⟩
   have hwb:IntKind.u64.wrap b = ub:=by rw [IntKind.wrap_u64];omega
   have hv0:0 <= ub:=by omega
   have hv1:ub < 18446744073709551616:=by omega
   have hq:IntKind.u64.wrap (a * ub / 18446744073709551616 - a) = a * b / 18446744073709551616 % 18446744073709551616:=by
    rw [hub,Int.mul_add,IntKind.wrap_u64];omega
   have hm:a * ub % 18446744073709551616 = a * b % 18446744073709551616:=by rw [hub,Int.mul_add];omega
   clear hub
   go_enter Tryz.func120,Tryz.ntmps120
   go_wp2_with (go_at_call 146;refine (mul64_any _ _ _ ?_ ?_ ?_ ?_).mono ?_;(omega);(omega);(omega);(omega);rintro e w' ⟨rfl,rfl⟩)
   go_returns
   exact ⟨rfl,by go_grown⟩
  ·have hp:=i64_mul_lt a b (by omega) ha (by omega) hb
   have hq:a * b / 18446744073709551616 % 18446744073709551616 = a * b / 18446744073709551616:=by omega
   go_enter Tryz.func120,Tryz.ntmps120
   go_wp2_with (go_at_call 146;refine (mul64_any _ _ _ ?_ ?_ ?_ ?_).mono ?_;(omega);(omega);(omega);(omega);rintro e w' ⟨rfl,rfl⟩)
   go_returns
   exact ⟨by rw [hq],by go_grown⟩
theorem plus_any (X Y:Int) (w:World) :
  Calls Tryz.prog 145 #[.agg #[.int .u64 (X / 18446744073709551616 % 18446744073709551616),.int .u64 (X % 18446744073709551616)],.agg #[.int .u64 (Y / 18446744073709551616 % 18446744073709551616),.int .u64 (Y % 18446744073709551616)]] w fun e w' =>
   e = .returned (.agg #[.int .u64 ((X + Y) / 18446744073709551616 % 18446744073709551616),.int .u64 ((X + Y) % 18446744073709551616)])/\Below w.heap.size w w':=by
 obtain ⟨l1,hl1⟩:∃ u,u = X % 18446744073709551616:=⟨_,rfl⟩
 obtain ⟨l2,hl2⟩:∃ u,u = Y % 18446744073709551616:=⟨_,rfl⟩
 obtain ⟨h1,hh1⟩:∃ u,u = X / 18446744073709551616 % 18446744073709551616:=⟨_,rfl⟩
 obtain ⟨h2,hh2⟩:∃ u,u = Y / 18446744073709551616 % 18446744073709551616:=⟨_,rfl⟩
 rw [<- hl1,<- hl2,<- hh1,<- hh2]
 have e1:(h1 + h2 + (l1 + l2) / 18446744073709551616) % 18446744073709551616 = (X + Y) / 18446744073709551616 % 18446744073709551616:=by omega
 have e2:(l1 + l2) % 18446744073709551616 = (X + Y) % 18446744073709551616:=by omega
 have r1:=fun w=>add64_run l1 l2 0 w (by omega) (by omega) (by omega) (by omega)
 have r2:=fun w=>add64_run h1 h2 ((l1 + l2) / 18446744073709551616) w (by omega) (by omega) (by omega) (by omega)
 clear hl1 hl2 hh1 hh2
 go_enter Tryz.func145,Tryz.ntmps145
 go_wp2
 go_returns
 exact ⟨rfl,by go_grown⟩
theorem ret_int {k:IntKind} {a b:Int} (h:a = b):Ending.returned (.int k a) = .returned (.int k b):=by rw [h]
theorem ret_bool {a b:Bool} (h:a = b):Ending.returned (.bool a) = .returned (.bool b):=by rw [h]
theorem ret_both {k:IntKind} {a b:Int} {c d:Bool} (h:a = b) (h':c = d):Ending.returned (.tuple #[.int k a,.bool c]) = .returned (.tuple #[.int k b,.bool d]):=by rw [h,h']
theorem below0_any (X:Int) (w:World) (h0:-170141183460469231731687303715884105728 <= X) (h1:X < 170141183460469231731687303715884105728) :
  Calls Tryz.prog 165 #[.agg #[.int .u64 (X / 18446744073709551616 % 18446744073709551616),.int .u64 (X % 18446744073709551616)]] w fun e w' =>
   e = .returned (.bool (decide (X < 0)))/\Below w.heap.size w w':=by
 go_enter Tryz.func165,Tryz.ntmps165
 go_wp2
 go_returns
 refine ⟨ret_bool ?_,by go_grown⟩
 rw [decide_eq_decide]
 unfold wrap64
 omega
theorem by_one_or (X:Int):bits .or .u64 (IntKind.u64.wrap (X / 18446744073709551616 % 18446744073709551616 * 4294967296)) (X % 18446744073709551616 / 4294967296) = X / 4294967296 % 18446744073709551616:=by
 rw [IntKind.wrap_u64,u64_or _ _ (by omega) (by omega) (by omega) (by omega),nat_join 32 _ _ (by omega) (by omega)]
 omega
theorem byOne_any (X:Int) (w:World) (h0:-170141183460469231731687303715884105728 <= X) (h1:X < 170141183460469231731687303715884105728) :
  Calls Tryz.prog 121 #[.agg #[.int .u64 (X / 18446744073709551616 % 18446744073709551616),.int .u64 (X % 18446744073709551616)]] w fun e w' =>
   e = .returned (.tuple #[.int .i64 (wrap64 (X / 4294967296)),.bool (decide (-9223372036854775808 <= X / 4294967296/\X / 4294967296 < 9223372036854775808))])/\Below w.heap.size w w':=by
 go_enter Tryz.func121,Tryz.ntmps121
 go_wp2
 go_returns
 refine ⟨ret_both ?_ ?_,by go_grown⟩
 ·rw [by_one_or];unfold wrap64;omega
 ·rw [by_one_or,Bool.eq_iff_iff,beq_iff_eq,decide_eq_true_eq];unfold wrap64;omega
theorem size_any (X Z:Int) (w:World) (h0:-170141183460469231731687303715884105728 < X) (h1:X < 170141183460469231731687303715884105728) (hZ:(0 <= X/\Z = X) \/ (X < 0/\Z = -X)) :
  Calls Tryz.prog 163 #[.agg #[.int .u64 (X / 18446744073709551616 % 18446744073709551616),.int .u64 (X % 18446744073709551616)]] w fun e w' =>
   e = .returned (.agg #[.int .u64 (Z / 18446744073709551616 % 18446744073709551616),.int .u64 (Z % 18446744073709551616)])/\Below w.heap.size w w':=by
 obtain ⟨h,hh⟩:∃ u,u = X / 18446744073709551616 % 18446744073709551616:=⟨_,rfl⟩
 obtain ⟨l,hl⟩:∃ u,u = X % 18446744073709551616:=⟨_,rfl⟩
 rcases hZ with ⟨g,rfl⟩ | ⟨g,hZ⟩
 ·rw [<- hl,<- hh]
  have hn:¬ wrap64 h < 0:=by unfold wrap64;omega
  clear hl hh
  go_enter Tryz.func163,Tryz.ntmps163
  go_wp2
  go_returns
  exact ⟨rfl,by go_grown⟩
 ·rw [<- hl,<- hh]
  have hn:wrap64 h < 0:=by unfold wrap64;omega
  by_cases gl:l = 0
  ·have r1:=fun w=>sub64_run 0 l 0 w (by omega) (by omega) (by omega) (by omega) (by omega) (by omega)
   have r2:=fun w=>sub64_run 0 h 0 w (by omega) (by omega) (by omega) (by omega) (by omega) (by omega)
   have e1:(0 - h - 0) % 18446744073709551616 = Z / 18446744073709551616 % 18446744073709551616:=by omega
   have e2:(0 - l - 0) % 18446744073709551616 = Z % 18446744073709551616:=by omega
   rw [if_neg (by omega)] at r1
   rw [e2] at r1
   rw [e1,if_pos (by omega)] at r2
   clear hl hh hZ e1 e2 gl
   go_enter Tryz.func163,Tryz.ntmps163
   go_wp2
   go_returns
   exact ⟨rfl,by go_grown⟩
  ·have r1:=fun w=>sub64_run 0 l 0 w (by omega) (by omega) (by omega) (by omega) (by omega) (by omega)
   have r2:=fun w=>sub64_run 0 h 1 w (by omega) (by omega) (by omega) (by omega) (by omega) (by omega)
   have e1:(0 - h - 1) % 18446744073709551616 = Z / 18446744073709551616 % 18446744073709551616:=by omega
   have e2:(0 - l - 0) % 18446744073709551616 = Z % 18446744073709551616:=by omega
   rw [if_pos (by omega)] at r1
   rw [e2] at r1
   rw [e1,if_pos (by omega)] at r2
   clear hl hh hZ e1 e2 gl
   go_enter Tryz.func163,Tryz.ntmps163
   go_wp2
   go_returns
   exact ⟨rfl,by go_grown⟩
theorem div64_any (hi lo y:Int) (w:World) (hh0:0 <= hi) (hh:hi < y) (hl0:0 <= lo) (hl:lo < 18446744073709551616) (hy:y < 4611686018427387904) :
  Calls Tryz.prog 164 #[.int .u64 hi,.int .u64 lo,.int .u64 y] w fun e w'=>e = .returned (.tuple #[.int .u64 ((hi * 18446744073709551616 + lo) / y),.int .u64 ((hi * 18446744073709551616 + lo) % y)])/\∃ n,w' = w.drewN n:=by
 rcases Int.lt_or_eq_of_le hh0 with h | h
 ·exact (div64_hi hi lo y w (by omega) hh hl0 hl hy).mono fun e w' ⟨a,b⟩=>⟨a,0,by rw [b];rfl⟩
 ·subst h
  exact (div64_lo lo y w hl0 hl (by omega) hy).mono fun e w' ⟨a,b⟩=>⟨by rw [a];simp,1,by rw [b];rfl⟩
end
end Go.Proofs.YtpjaacpcdomfiaaGreat
