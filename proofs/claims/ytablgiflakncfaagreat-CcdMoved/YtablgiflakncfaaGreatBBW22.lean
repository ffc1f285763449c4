/- A hull's axes, whatever the order of its points. -/
import Derived.Test.YtablgiflakncfaaGreatBBW21
import Derived.Test.YtablgiflakncfaaGreatBBW17
import Derived.Test.YtablgiflakncfaaGreatBBW19
import Derived.Test.YtablgiflakncfaaGreatBBW1
import Derived.Test.YtablgiflakncfaaGreatBBW13
set_option linter.unusedVariables false
namespace Go.Proofs.YtablgiflakncfaaGreat
section
theorem mem_axis {A:List Pt} {n q:Pt}:q ∈ withAxisP A n ↔ q ∈ A \/ q = n:=by
 unfold withAxisP
 split
 ·rename_i h
  exact ⟨Or.inl,fun k=>k.elim id fun e=>e ▸ h⟩
 ·simp
def Gives (L:List Pt) (a b c q:Pt):Prop:=
 (b.sub a).cross (c.sub a) ≠ Pt.O/\¬ (above L ((b.sub a).cross (c.sub a)) a = true/\below L ((b.sub a).cross (c.sub a)) a = true)/\q = (if above L ((b.sub a).cross (c.sub a)) a then ((b.sub a).cross (c.sub a)).neg else (b.sub a).cross (c.sub a)).short
theorem mem_tri {L:List Pt} {a b c q:Pt} {s:List Pt × List Pt}:q ∈ (triP L a b c s).1 ↔ q ∈ s.1 \/ Gives L a b c q:=by
 unfold triP Gives
 dsimp only
 generalize (b.sub a).cross (c.sub a) = n
 split
 ·rename_i h
  refine ⟨Or.inl,fun k=>k.elim id fun g=>?_⟩
  rcases h with h | h
  ·exact absurd h g.1
  ·exact absurd h g.2.1
 ·rename_i h
  rw [not_or] at h
  dsimp only
  rw [mem_axis]
  exact ⟨fun k=>k.elim Or.inl fun e=>Or.inr ⟨h.1,h.2,e⟩,fun k=>k.elim Or.inl fun g=>Or.inr g.2.2⟩
theorem mem_inner {L:List Pt} {a b q:Pt}:∀ (M:List Pt) (s:List Pt × List Pt),q ∈ (innerP L a b M s).1 ↔ q ∈ s.1 \/ ∃ c ∈ M,Gives L a b c q
 | [],s=>by simp [innerP]
 | c :: r,s=>by
  rw [innerP,mem_inner r,mem_tri]
  simp only [List.mem_cons,exists_eq_or_imp,or_assoc]
theorem mem_mid {L:List Pt} {a q:Pt}:∀ (M:List Pt) (s:List Pt × List Pt),q ∈ (midP L a M s).1 ↔ q ∈ s.1 \/ ∃ b c,List.Sublist [b,c] M/\Gives L a b c q
 | [],s=>by simp [midP]
 | b :: r,s=>by
  rw [midP,mem_mid r,mem_inner]
  constructor
  ·rintro ((h | ⟨c,hc,g⟩) | ⟨b',c,hs,g⟩)
   ·exact Or.inl h
   ·exact Or.inr ⟨b,c,List.Sublist.cons_cons _ (List.singleton_sublist.2 hc),g⟩
   ·exact Or.inr ⟨b',c,hs.cons _,g⟩
  ·rintro (h | ⟨b',c,hs,g⟩)
   ·exact Or.inl (Or.inl h)
   ·rcases List.sublist_cons_iff.1 hs with h | ⟨t,e,h⟩
    ·exact Or.inr ⟨b',c,h,g⟩
    ·simp only [List.cons.injEq] at e
     obtain ⟨rfl,rfl⟩:=e
     exact Or.inl (Or.inr ⟨c,List.singleton_sublist.1 h,g⟩)
theorem mem_outer {L:List Pt} {q:Pt}:∀ (M:List Pt) (s:List Pt × List Pt),q ∈ (outerP L M s).1 ↔ q ∈ s.1 \/ ∃ a b c,List.Sublist [a,b,c] M/\Gives L a b c q
 | [],s=>by simp [outerP]
 | a :: r,s=>by
  rw [outerP,mem_outer r,mem_mid]
  constructor
  ·rintro ((h | ⟨b,c,hc,g⟩) | ⟨a',b',c,hs,g⟩)
   ·exact Or.inl h
   ·exact Or.inr ⟨a,b,c,List.Sublist.cons_cons _ hc,g⟩
   ·exact Or.inr ⟨a',b',c,hs.cons _,g⟩
  ·rintro (h | ⟨a',b',c,hs,g⟩)
   ·exact Or.inl (Or.inl h)
   ·rcases List.sublist_cons_iff.1 hs with h | ⟨t,e,h⟩
    ·exact Or.inr ⟨a',b',c,h,g⟩
    ·simp only [List.cons.injEq] at e
     obtain ⟨rfl,rfl⟩:=e
     exact Or.inl (Or.inr ⟨b',c,h,g⟩)
theorem mem_sides {L:List Pt} {q:Pt}:q ∈ (sidesP L).1 ↔ ∃ a b c,List.Sublist [a,b,c] L/\Gives L a b c q:=by
 unfold sidesP
 rw [mem_outer]
 simp
theorem two_of {a b:Pt}:∀ {L:List Pt},a ∈ L->b ∈ L->a ≠ b->List.Sublist [a,b] L \/ List.Sublist [b,a] L
 | [],h,_,_=>by cases h
 | x :: r,ha,hb,hne=>by
  rw [List.mem_cons] at ha hb
  rcases ha with rfl | ha
  ·rcases hb with rfl | hb
   ·exact absurd rfl hne
   ·exact Or.inl (List.Sublist.cons_cons _ (List.singleton_sublist.2 hb))
  ·rcases hb with rfl | hb
   ·exact Or.inr (List.Sublist.cons_cons _ (List.singleton_sublist.2 ha))
   ·exact (two_of ha hb hne).imp (fun h=>h.cons _) (fun h=>h.cons _)
theorem three_of_mem {a b c:Pt}:∀ {L:List Pt},a ∈ L->b ∈ L->c ∈ L->a ≠ b->a ≠ c->b ≠ c->List.Sublist [a,b,c] L \/ List.Sublist [a,c,b] L \/ List.Sublist [b,a,c] L \/ List.Sublist [b,c,a] L \/ List.Sublist [c,a,b] L \/ List.Sublist [c,b,a] L
 | [],h,_,_,_,_,_=>by cases h
 | x :: r,ha,hb,hc,h1,h2,h3=>by
  rw [List.mem_cons] at ha hb hc
  by_cases ea:a = x
  ·subst ea
   have hb3:=hb.resolve_left (Ne.symm h1)
   have hc3:=hc.resolve_left (Ne.symm h2)
   rcases two_of hb3 hc3 h3 with h | h
   ·exact Or.inl (List.Sublist.cons_cons _ h)
   ·exact Or.inr (Or.inl (List.Sublist.cons_cons _ h))
  ·have ha2:=ha.resolve_left ea
   by_cases eb:b = x
   ·subst eb
    have hc3:=hc.resolve_left (Ne.symm h3)
    rcases two_of ha2 hc3 h2 with h | h
    ·exact Or.inr (Or.inr (Or.inl (List.Sublist.cons_cons _ h)))
    ·exact Or.inr (Or.inr (Or.inr (Or.inl (List.Sublist.cons_cons _ h))))
   ·have hb2:=hb.resolve_left eb
    by_cases ec:c = x
    ·subst ec
     rcases two_of ha2 hb2 h1 with h | h
     ·exact Or.inr (Or.inr (Or.inr (Or.inr (Or.inl (List.Sublist.cons_cons _ h)))))
     ·exact Or.inr (Or.inr (Or.inr (Or.inr (Or.inr (List.Sublist.cons_cons _ h)))))
    ·have hc2:=hc.resolve_left ec
     rcases three_of_mem ha2 hb2 hc2 h1 h2 h3 with h | h | h | h | h | h
     ·exact Or.inl (h.cons _)
     ·exact Or.inr (Or.inl (h.cons _))
     ·exact Or.inr (Or.inr (Or.inl (h.cons _)))
     ·exact Or.inr (Or.inr (Or.inr (Or.inl (h.cons _))))
     ·exact Or.inr (Or.inr (Or.inr (Or.inr (Or.inl (h.cons _)))))
     ·exact Or.inr (Or.inr (Or.inr (Or.inr (Or.inr (h.cons _)))))
theorem above_no {L:List Pt} {n a:Pt}:above L n a = false ↔ Sup L n a:=by
 unfold above Sup
 rw [List.any_eq_false]
 simp only [decide_eq_true_eq,Int.not_lt]
theorem below_no {L:List Pt} {n a:Pt}:below L n a = false ↔ Sup L n.neg a:=by
 unfold below Sup
 rw [List.any_eq_false]
 simp only [decide_eq_true_eq,Int.not_lt,neg_dotF]
 exact ⟨fun h m hm=>by have:=h m hm;omega,fun h m hm=>by have:=h m hm;omega⟩
theorem face_of_gives {L:List Pt} {a b c q:Pt} (hs:List.Sublist [a,b,c] L) (g:Gives L a b c q):∃ a b c,Face L a b c/\q = ((b.sub a).cross (c.sub a)).short:=by
 obtain ⟨g1,g2,g3⟩:=g
 have ma:a ∈ L:=hs.subset (by simp)
 have mb:b ∈ L:=hs.subset (by simp)
 have mc:c ∈ L:=hs.subset (by simp)
 cases h:above L ((b.sub a).cross (c.sub a)) a with
 | true =>
  rw [h] at g2 g3
  have hb:below L ((b.sub a).cross (c.sub a)) a = false:=by simpa using g2
  refine ⟨a,c,b,⟨ma,mc,mb,?_,?_⟩,?_⟩
  ·rw [cross_swap];exact neg_ne g1
  ·rw [cross_swap];exact below_no.1 hb
  ·rw [cross_swap];simpa using g3
 | false =>
  rw [h] at g3
  exact ⟨a,b,c,⟨ma,mb,mc,g1,above_no.1 h⟩,by simpa using g3⟩
theorem gives_of {L:List Pt} {n a p x y:Pt} (hnf:¬ flatAll L) (ha:a ∈ L) (hn:n ≠ Pt.O) (hs:Sup L n a) (hp:n.dot (p.sub a) = 0) (h:(x.sub p).cross (y.sub p) = n \/ (x.sub p).cross (y.sub p) = n.neg):Gives L p x y n.short:=by
 have sh:∀ m:Pt,n.dot (m.sub p) = n.dot (m.sub a):=by
  intro m
  have:n.dot (m.sub p) = n.dot (m.sub a) - n.dot (p.sub a):=by simp only [Pt.dot,Pt.sub];grind
  omega
 have sp:Sup L n p:=fun m hm=>by rw [sh m];exact hs m hm
 unfold Gives
 rcases h with h | h
 ·rw [h,above_no.2 sp]
  exact ⟨hn,by simp,by simp⟩
 ·have hb:below L n.neg p = false:=below_no.2 (by rw [neg_neg'];exact sp)
  have hab:above L n.neg p = true:=by
   cases e:above L n.neg p with
   | true=>rfl
   | false =>
    exfalso
    have k:=above_no.1 e
    obtain ⟨m,hm,hd⟩:=thick_of ha hnf n hn
    have k1:=k m hm
    rw [neg_dotF,sh m] at k1
    have k2:=hs m hm
    omega
  rw [h,hb,hab]
  exact ⟨neg_ne hn,by simp,by simp [neg_neg']⟩
theorem face_unlike {L:List Pt} {a b c:Pt} (h:Face L a b c):a ≠ b/\a ≠ c/\b ≠ c:=by
 obtain ⟨_,_,_,h,_⟩:=h
 refine ⟨fun e=>h ?_,fun e=>h ?_,fun e=>h ?_⟩
 ·subst e;simp [Pt.sub,Pt.cross,Pt.O]
 ·subst e;simp [Pt.sub,Pt.cross,Pt.O]
 ·subst e;simp only [Pt.sub,Pt.cross,Pt.O,Pt.mk.injEq];refine ⟨?_,?_,?_⟩ <;> grind
theorem mem_axes {L:List Pt} {q:Pt} (hnf:¬ flatAll L):q ∈ (sidesP L).1 ↔ ∃ a b c,Face L a b c/\q = ((b.sub a).cross (c.sub a)).short:=by
 rw [mem_sides]
 constructor
 ·rintro ⟨a,b,c,hs,g⟩;exact face_of_gives hs g
 ·rintro ⟨a,b,c,hf,rfl⟩
  obtain ⟨u1,u2,u3⟩:=face_unlike hf
  obtain ⟨ma,mb,mc,hn,hs⟩:=hf
  have pa:((b.sub a).cross (c.sub a)).dot (a.sub a) = 0:=by simp [Pt.sub,Pt.dot]
  have pb:((b.sub a).cross (c.sub a)).dot (b.sub a) = 0:=by simp only [Pt.sub,Pt.dot,Pt.cross];grind
  have pc:((b.sub a).cross (c.sub a)).dot (c.sub a) = 0:=by simp only [Pt.sub,Pt.dot,Pt.cross];grind
  rcases three_of_mem ma mb mc u1 u2 u3 with h | h | h | h | h | h
  ·exact ⟨_,_,_,h,gives_of hnf ma hn hs pa (Or.inl rfl)⟩
  ·exact ⟨_,_,_,h,gives_of hnf ma hn hs pa (Or.inr (cross_swap _ _))⟩
  ·exact ⟨_,_,_,h,gives_of hnf ma hn hs pb (Or.inr (by simp only [Pt.sub,Pt.cross,Pt.neg,Pt.mk.injEq];refine ⟨?_,?_,?_⟩ <;> grind))⟩
  ·exact ⟨_,_,_,h,gives_of hnf ma hn hs pb (Or.inl (by simp only [Pt.sub,Pt.cross,Pt.mk.injEq];refine ⟨?_,?_,?_⟩ <;> grind))⟩
  ·exact ⟨_,_,_,h,gives_of hnf ma hn hs pc (Or.inl (by simp only [Pt.sub,Pt.cross,Pt.mk.injEq];refine ⟨?_,?_,?_⟩ <;> grind))⟩
  ·exact ⟨_,_,_,h,gives_of hnf ma hn hs pc (Or.inr (by simp only [Pt.sub,Pt.cross,Pt.neg,Pt.mk.injEq];refine ⟨?_,?_,?_⟩ <;> grind))⟩
theorem tdiv_sign (a:Int) {n:Int} (hn:0 <= n):(0 <= a->0 <= a.tdiv n)/\(a <= 0->a.tdiv n <= 0):=by
 refine ⟨fun h=>Int.tdiv_nonneg h hn,fun h=>?_⟩
 have:=Int.tdiv_nonneg (show 0 <= -a by omega) hn
 rw [Int.neg_tdiv] at this
 omega
structure SameWay (p q:Pt):Prop where
 x0:0 <= p.x->0 <= q.x
 x1:p.x <= 0->q.x <= 0
 y0:0 <= p.y->0 <= q.y
 y1:p.y <= 0->q.y <= 0
 z0:0 <= p.z->0 <= q.z
 z1:p.z <= 0->q.z <= 0
theorem SameWay.refl (p:Pt):SameWay p p:=⟨id,id,id,id,id,id⟩
theorem SameWay.trans {p q r:Pt} (h:SameWay p q) (k:SameWay q r):SameWay p r:=⟨fun e=>k.x0 (h.x0 e),fun e=>k.x1 (h.x1 e),fun e=>k.y0 (h.y0 e),fun e=>k.y1 (h.y1 e),fun e=>k.z0 (h.z0 e),fun e=>k.z1 (h.z1 e)⟩
theorem way_by (p:Pt) {n:Int} (hn:0 <= n):SameWay p (p.by n):=⟨(tdiv_sign _ hn).1,(tdiv_sign _ hn).2,(tdiv_sign _ hn).1,(tdiv_sign _ hn).2,(tdiv_sign _ hn).1,(tdiv_sign _ hn).2⟩
theorem way_low (p:Pt):SameWay p p.low:=by
 unfold Pt.low
 split
 ·exact SameWay.refl p
 ·exact way_by p (by omega)
theorem way_halveF:∀ (n:Nat) (p:Pt),SameWay p (halveF n p)
 | 0,p=>SameWay.refl p
 | n + 1,p=>by
  unfold halveF
  split
  ·exact SameWay.refl p
  ·exact (way_by p (by decide)).trans (way_halveF n _)
theorem way_short (p:Pt) (h:p.inB 4398046511104 = true):SameWay p p.short:=by
 unfold Pt.short
 rw [if_pos h]
 exact ((way_low p).trans (way_halveF 43 _)).trans (way_low _)
theorem face_in {L:List Pt} (hL:∀ b ∈ L,b.inB 65536 = true) {a b c:Pt} (h:Face L a b c):((b.sub a).cross (c.sub a)).inB 4398046511104 = true:=
 inB_mono (cross_in (inB_mono (sub_in (hL b h.2.1) (hL a h.1)) (by decide)) (inB_mono (sub_in (hL c h.2.2.1) (hL a h.1)) (by decide))) (by decide)
theorem axes_two {L:List Pt} (h0:L ≠ []) (hnf:¬ flatAll L) (hL:∀ b ∈ L,b.inB 65536 = true):2 <= (sidesP L).1.length:=by
 obtain ⟨a,b,c,hf,_⟩:=face_out (u:=⟨1,0,0⟩) (w:=⟨0,1,0⟩) h0 hnf (by decide) (by decide) (by decide)
 have hs:((b.sub a).cross (c.sub a)).short ∈ (sidesP L).1:=(mem_axes hnf).2 ⟨a,b,c,hf,rfl⟩
 have hne:((b.sub a).cross (c.sub a)).short ≠ Pt.O:=short_ne (face_in hL hf) hf.2.2.2.1
 generalize ((b.sub a).cross (c.sub a)).short = s at *
 have other:∀ u w:Pt,u ≠ Pt.O->w ≠ Pt.O->u.dot w = 0->∃ t ∈ (sidesP L).1,∃ n:Pt,SameWay n t/\0 < n.dot u:=by
  intro u w hu hw huw
  obtain ⟨a,b,c,hf,hd⟩:=face_out h0 hnf hu hw huw
  exact ⟨_,(mem_axes hnf).2 ⟨a,b,c,hf,rfl⟩,_,way_short _ (face_in hL hf),hd⟩
 have two:∃ t ∈ (sidesP L).1,t ≠ s:=by
  rcases Pt.ne_O hne with h | h | h
  ·rcases Int.lt_or_gt_of_ne h with h | h
   ·obtain ⟨t,ht,n,hw,hd⟩:=other ⟨1,0,0⟩ ⟨0,1,0⟩ (by decide) (by decide) (by decide)
    refine ⟨t,ht,fun e=>?_⟩
    subst e
    have:=hw.x0
    simp [Pt.dot] at hd
    omega
   ·obtain ⟨t,ht,n,hw,hd⟩:=other ⟨-1,0,0⟩ ⟨0,1,0⟩ (by decide) (by decide) (by decide)
    refine ⟨t,ht,fun e=>?_⟩
    subst e
    have:=hw.x1
    simp [Pt.dot] at hd
    omega
  ·rcases Int.lt_or_gt_of_ne h with h | h
   ·obtain ⟨t,ht,n,hw,hd⟩:=other ⟨0,1,0⟩ ⟨1,0,0⟩ (by decide) (by decide) (by decide)
    refine ⟨t,ht,fun e=>?_⟩
    subst e
    have:=hw.y0
    simp [Pt.dot] at hd
    omega
   ·obtain ⟨t,ht,n,hw,hd⟩:=other ⟨0,-1,0⟩ ⟨1,0,0⟩ (by decide) (by decide) (by decide)
    refine ⟨t,ht,fun e=>?_⟩
    subst e
    have:=hw.y1
    simp [Pt.dot] at hd
    omega
  ·rcases Int.lt_or_gt_of_ne h with h | h
   ·obtain ⟨t,ht,n,hw,hd⟩:=other ⟨0,0,1⟩ ⟨1,0,0⟩ (by decide) (by decide) (by decide)
    refine ⟨t,ht,fun e=>?_⟩
    subst e
    have:=hw.z0
    simp [Pt.dot] at hd
    omega
   ·obtain ⟨t,ht,n,hw,hd⟩:=other ⟨0,0,-1⟩ ⟨1,0,0⟩ (by decide) (by decide) (by decide)
    refine ⟨t,ht,fun e=>?_⟩
    subst e
    have:=hw.z1
    simp [Pt.dot] at hd
    omega
 obtain ⟨t,ht,hts⟩:=two
 have:=List.Nodup.length_le_of_subset (l₁:=[t,s]) (l₂:=(sidesP L).1) (by simp [hts]) (by intro x hx;simp at hx;rcases hx with rfl | rfl <;> assumption)
 simpa using this
end
section
theorem filter_two {α:Type} (p:α->Bool):∀ L:List α,L.length = (L.filter p).length + (L.filter (fun x=>!p x)).length
 | []=>rfl
 | x :: r=>by
  have:=filter_two p r
  cases h:p x <;> simp [h] <;> omega
theorem fiber_le {α β:Type} [DecidableEq β] (f:α->β) (c:Nat):∀ (Q:List β) (L:List α),(∀ x ∈ L,f x ∈ Q)->(∀ q ∈ Q,(L.filter (fun x=>decide (f x = q))).length <= c)->L.length <= c * Q.length
 | [],L,h,_=>by
  cases L with
  | nil=>simp
  | cons x r=>exact absurd (h x List.mem_cons_self) (by simp)
 | q :: Q,L,h,hc=>by
  have h1:=hc q List.mem_cons_self
  have h2:=fiber_le f c Q (L.filter (fun x=>!decide (f x = q))) (fun x hx=>by
   rw [List.mem_filter] at hx
   rcases List.mem_cons.1 (h x hx.1) with e | e
   ·simp [e] at hx
   ·exact e) (fun q' hq'=>by
   refine Nat.le_trans ?_ (hc q' (List.mem_cons_of_mem _ hq'))
   rw [List.filter_filter]
   rw [<- List.countP_eq_length_filter,<- List.countP_eq_length_filter]
   exact List.countP_mono_left (fun x _ hx=>by simp at hx ⊢;exact hx.1))
  have h3:=filter_two (fun x=>decide (f x = q)) L
  rw [List.length_cons,Nat.mul_succ]
  omega
def pairsL:List Pt->List (Pt × Pt)
 | []=>[]
 | x :: r=>r.map (fun y=>(x,y)) ++ pairsL r
theorem pairs_mem {b c:Pt}:∀ {L:List Pt},List.Sublist [b,c] L->(b,c) ∈ pairsL L
 | [],h=>by simp at h
 | x :: r,h=>by
  rw [pairsL,List.mem_append]
  rcases List.sublist_cons_iff.1 h with h | ⟨t,e,h⟩
  ·exact Or.inr (pairs_mem h)
  ·simp only [List.cons.injEq] at e
   obtain ⟨rfl,rfl⟩:=e
   exact Or.inl (List.mem_map.2 ⟨c,List.singleton_sublist.1 h,rfl⟩)
theorem pairs_len:∀ L:List Pt,(pairsL L).length * 2 + L.length = L.length * L.length
 | []=>rfl
 | x :: r=>by
  have:=pairs_len r
  simp only [pairsL,List.length_append,List.length_map,List.length_cons]
  grind
theorem pairs_55 {L:List Pt} (h:L.length <= 11):(pairsL L).length <= 55:=by
 have h1:=pairs_len L
 generalize (pairsL L).length = k at *
 have:L.length = 0 \/ L.length = 1 \/ L.length = 2 \/ L.length = 3 \/ L.length = 4 \/ L.length = 5 \/ L.length = 6 \/ L.length = 7 \/ L.length = 8 \/ L.length = 9 \/ L.length = 10 \/ L.length = 11:=by omega
 rcases this with e | e | e | e | e | e | e | e | e | e | e | e <;> rw [e] at h1 <;> omega
theorem pairs_66 {L:List Pt} (h:L.length <= 12):(pairsL L).length <= 66:=by
 have h1:=pairs_len L
 generalize (pairsL L).length = k at *
 have:L.length = 0 \/ L.length = 1 \/ L.length = 2 \/ L.length = 3 \/ L.length = 4 \/ L.length = 5 \/ L.length = 6 \/ L.length = 7 \/ L.length = 8 \/ L.length = 9 \/ L.length = 10 \/ L.length = 11 \/ L.length = 12:=by omega
 rcases this with e | e | e | e | e | e | e | e | e | e | e | e | e <;> rw [e] at h1 <;> omega
def tri (a b c:Pt):Int:=(a.cross b).dot c
theorem sq_zero {x y z:Int} (h:x * x + y * y + z * z = 0):x = 0/\y = 0/\z = 0:=by
 have s:∀ t:Int,0 <= t * t:=fun t=>by rcases Int.le_total 0 t with h | h;exact Int.mul_nonneg h h;have:=Int.mul_nonneg (a:=-t) (b:=-t) (by omega) (by omega);rwa [Int.neg_mul_neg] at this
 have hx:=s x
 have hy:=s y
 have hz:=s z
 refine ⟨?_,?_,?_⟩
 ·have:x * x = 0:=by omega
  rcases Int.mul_eq_zero.1 this with h | h <;> exact h
 ·have:y * y = 0:=by omega
  rcases Int.mul_eq_zero.1 this with h | h <;> exact h
 ·have:z * z = 0:=by omega
  rcases Int.mul_eq_zero.1 this with h | h <;> exact h
theorem self_pos {p:Pt} (h:p ≠ Pt.O):p.dot p ≠ 0:=fun e=>h (by
 obtain ⟨h1,h2,h3⟩:=sq_zero e
 cases p
 simp only [Pt.O] at *
 simp [h1,h2,h3])
theorem hang (a b c e y:Pt):tri b c e * a.dot y + tri c a e * b.dot y + tri a b e * c.dot y = tri a b c * e.dot y:=by
 simp only [tri,Pt.cross,Pt.dot]
 grind
theorem three_flat {a b c e:Pt} (h0:e ≠ Pt.O) (ha:a.dot e = 0) (hb:b.dot e = 0) (hc:c.dot e = 0) (y:Pt):tri b c e * a.dot y + tri c a e * b.dot y + tri a b e * c.dot y = 0:=by
 have h1:=hang a b c e e
 rw [ha,hb,hc] at h1
 simp only [Int.mul_zero,Int.add_zero] at h1
 have h2:tri a b c = 0:=(Int.mul_eq_zero.1 h1.symm).resolve_right (self_pos h0)
 rw [hang,h2,Int.zero_mul]
theorem same_way {a b e:Pt} (h0:e ≠ Pt.O) (ha:a.dot e = 0) (hb:b.dot e = 0) (h:tri a b e = 0):a.cross b = Pt.O:=by
 have h1:(a.cross b).dot (a.cross b) * e.dot e = 0:=by
  simp only [tri,Pt.cross,Pt.dot] at *
  grind
 have h2:=(Int.mul_eq_zero.1 h1).resolve_right (self_pos h0)
 by_cases h3:a.cross b = Pt.O
 ·exact h3
 ·exact absurd h2 (self_pos h3)
theorem both_nought {A B x y:Int} (hA:A ≠ 0) (hB:B ≠ 0) (hs:0 < A * B) (hx:x <= 0) (hy:y <= 0) (h:A * x + B * y = 0):x = 0/\y = 0:=by
 rcases Int.lt_or_gt_of_ne hA with a | a
 ·have b:B < 0:=by
   rcases Int.lt_or_gt_of_ne hB with b | b
   ·exact b
   ·have:=Int.mul_neg_of_neg_of_pos a b;omega
  have h1:0 <= A * x:=by have:=Int.mul_nonneg (a:=-A) (b:=-x) (by omega) (by omega);rwa [Int.neg_mul_neg] at this
  have h2:0 <= B * y:=by have:=Int.mul_nonneg (a:=-B) (b:=-y) (by omega) (by omega);rwa [Int.neg_mul_neg] at this
  exact ⟨(Int.mul_eq_zero.1 (show A * x = 0 by omega)).resolve_left hA,(Int.mul_eq_zero.1 (show B * y = 0 by omega)).resolve_left hB⟩
 ·have b:0 < B:=by
   rcases Int.lt_or_gt_of_ne hB with b | b
   ·have:=Int.mul_neg_of_pos_of_neg a b;omega
   ·exact b
  have h1:A * x <= 0:=by have:=Int.mul_nonneg (a:=A) (b:=-x) (by omega) (by omega);rw [Int.mul_neg] at this;omega
  have h2:B * y <= 0:=by have:=Int.mul_nonneg (a:=B) (b:=-y) (by omega) (by omega);rw [Int.mul_neg] at this;omega
  exact ⟨(Int.mul_eq_zero.1 (show A * x = 0 by omega)).resolve_left hA,(Int.mul_eq_zero.1 (show B * y = 0 by omega)).resolve_left hB⟩
theorem two_alike {A B C:Int} (hA:A ≠ 0) (hB:B ≠ 0) (hC:C ≠ 0):0 < A * B \/ 0 < B * C \/ 0 < C * A:=by
 rcases Int.lt_or_gt_of_ne hA with a | a <;> rcases Int.lt_or_gt_of_ne hB with b | b <;> rcases Int.lt_or_gt_of_ne hC with c | c
 ·exact Or.inl (Int.mul_pos_of_neg_of_neg a b)
 ·exact Or.inl (Int.mul_pos_of_neg_of_neg a b)
 ·exact Or.inr (Or.inr (Int.mul_pos_of_neg_of_neg c a))
 ·exact Or.inr (Or.inl (Int.mul_pos b c))
 ·exact Or.inr (Or.inl (Int.mul_pos_of_neg_of_neg b c))
 ·exact Or.inr (Or.inr (Int.mul_pos c a))
 ·exact Or.inl (Int.mul_pos a b)
 ·exact Or.inl (Int.mul_pos a b)
structure Sd (L:List Pt) (b c N a:Pt):Prop where
 ne:N ≠ Pt.O
 sq:N.dot (c.sub b) = 0
 le:∀ x ∈ L,N.dot (x.sub b) <= 0
 mem:a ∈ L
 on:N.dot (a.sub b) = 0
 is:N = (c.sub b).cross (a.sub b) \/ N = ((c.sub b).cross (a.sub b)).neg
theorem tri_is (e u N:Pt):tri (e.cross u) N e = N.dot e * u.dot e - N.dot u * e.dot e:=by
 simp only [tri,Pt.cross,Pt.dot]
 grind
theorem tri_neg (p N e:Pt):tri p.neg N e = -(tri p N e):=by
 simp only [tri,Pt.cross,Pt.dot,Pt.neg]
 grind
theorem third {b c N1 N2 N3 a1 a2 a3:Pt} {L:List Pt} (h1:Sd L b c N1 a1) (h2:Sd L b c N2 a2) (h3:Sd L b c N3 a3) (hA:tri N2 N3 (c.sub b) ≠ 0) (hB:tri N3 N1 (c.sub b) ≠ 0) (hC:tri N1 N2 (c.sub b) ≠ 0) (hs:0 < tri N2 N3 (c.sub b) * tri N3 N1 (c.sub b)):False:=by
 have he:c.sub b ≠ Pt.O:=fun e=>hC (by rw [e];simp [tri,Pt.dot,Pt.O])
 have h:=three_flat he h1.sq h2.sq h3.sq (a3.sub b)
 rw [h3.on,Int.mul_zero,Int.add_zero] at h
 obtain ⟨x,y⟩:=both_nought hA hB hs (h1.le _ h3.mem) (h2.le _ h3.mem) h
 have hsq:=h1.sq
 apply hB
 rcases h3.is with k | k
 ·rw [k,tri_is,hsq,x,Int.zero_mul,Int.zero_mul]
  rfl
 ·rw [k,tri_neg,tri_is,hsq,x,Int.zero_mul,Int.zero_mul]
  rfl
theorem no_three {b c N1 N2 N3 a1 a2 a3:Pt} {L:List Pt} (h1:Sd L b c N1 a1) (h2:Sd L b c N2 a2) (h3:Sd L b c N3 a3) (hA:tri N2 N3 (c.sub b) ≠ 0) (hB:tri N3 N1 (c.sub b) ≠ 0) (hC:tri N1 N2 (c.sub b) ≠ 0):False:=by
 rcases two_alike hA hB hC with h | h | h
 ·exact third h1 h2 h3 hA hB hC h
 ·exact third h2 h3 h1 hB hC hA h
 ·exact third h3 h1 h2 hC hA hB h
theorem gcd_line {a b:Pt} (k l:Int) (h1:k * b.x = l * a.x) (h2:k * b.y = l * a.y) (h3:k * b.z = l * a.z):k.natAbs * b.g = l.natAbs * a.g:=by
 unfold Pt.g
 rw [<- Nat.gcd_mul_left,<- Nat.gcd_mul_left,<- Nat.gcd_mul_left,<- Nat.gcd_mul_left,<- Int.natAbs_mul,<- Int.natAbs_mul,<- Int.natAbs_mul,<- Int.natAbs_mul,<- Int.natAbs_mul,<- Int.natAbs_mul,h1,h2,h3]
theorem part_same {x y:Int} {m n:Nat} (hm:0 < m) (hn:0 < n) (dx:(m:Int) ∣ x) (dy:(n:Int) ∣ y) (e:x.natAbs * n = y.natAbs * m) (s:0 <= x * y):x.tdiv m = y.tdiv n:=by
 obtain ⟨u,rfl⟩:=dx
 obtain ⟨v,rfl⟩:=dy
 have hm':(m:Int) ≠ 0:=by omega
 have hn':(n:Int) ≠ 0:=by omega
 rw [Int.mul_tdiv_cancel_left _ hm',Int.mul_tdiv_cancel_left _ hn']
 rw [Int.natAbs_mul,Int.natAbs_mul,Int.natAbs_natCast,Int.natAbs_natCast] at e
 have e2:(m * n) * u.natAbs = (m * n) * v.natAbs:=by
  rw [Nat.mul_right_comm,e,Nat.mul_comm m n,Nat.mul_right_comm]
 have e3:=Nat.eq_of_mul_eq_mul_left (Nat.mul_pos hm hn) e2
 have s2:0 <= u * v:=by
  have s3:(m:Int) * u * (n * v) = ((m:Int) * n) * (u * v):=by grind
  rw [s3] at s
  have hp:(0:Int) < (m:Int) * n:=Int.mul_pos (by omega) (by omega)
  rcases Decidable.em (u * v < 0) with h | h
  ·have:=Int.mul_neg_of_pos_of_neg hp h;omega
  ·omega
 rcases (show u = v \/ u = -v by omega) with h | h
 ·exact h
 ·subst h
  have:v * v <= 0:=by rw [Int.neg_mul] at s2;omega
  have h0:v = 0:=(sq_zero (x:=v) (y:=0) (z:=0) (by have:=(show (0:Int) <= v * v from by rcases Int.le_total 0 v with h | h;exact Int.mul_nonneg h h;have:=Int.mul_nonneg (a:=-v) (b:=-v) (by omega) (by omega);rwa [Int.neg_mul_neg] at this);omega)).1
  omega
theorem g_pos {p:Pt} (h:p ≠ Pt.O):0 < p.g:=by
 rcases Nat.eq_zero_or_pos p.g with h0 | h0
 ·exfalso
  unfold Pt.g at h0
  rw [Nat.gcd_eq_zero_iff,Nat.gcd_eq_zero_iff] at h0
  apply h
  cases p
  simp only [Pt.O,Pt.mk.injEq] at *
  omega
 ·exact h0
theorem g_dvdZ (p:Pt):(p.g:Int) ∣ p.x/\(p.g:Int) ∣ p.y/\(p.g:Int) ∣ p.z:=by
 have h1:p.g ∣ p.x.natAbs:=Nat.dvd_trans (Nat.gcd_dvd_left _ _) (Nat.gcd_dvd_left _ _)
 have h2:p.g ∣ p.y.natAbs:=Nat.dvd_trans (Nat.gcd_dvd_left _ _) (Nat.gcd_dvd_right _ _)
 have h3:p.g ∣ p.z.natAbs:=Nat.gcd_dvd_right _ _
 exact ⟨Int.dvd_natAbs.1 (Int.natCast_dvd_natCast.2 h1),Int.dvd_natAbs.1 (Int.natCast_dvd_natCast.2 h2),Int.dvd_natAbs.1 (Int.natCast_dvd_natCast.2 h3)⟩
theorem sign_same {a b:Pt} (hb:b ≠ Pt.O) (hd:0 < a.dot b) {s t:Int} (h:s * b.dot b = t * a.dot b):0 <= s * t:=by
 have h0:=self_pos hb
 have h1:0 <= b.dot b:=by
  simp only [Pt.dot]
  have q:∀ t:Int,0 <= t * t:=fun t=>by rcases Int.le_total 0 t with h | h;exact Int.mul_nonneg h h;have:=Int.mul_nonneg (a:=-t) (b:=-t) (by omega) (by omega);rwa [Int.neg_mul_neg] at this
  have:=q b.x
  have:=q b.y
  have:=q b.z
  omega
 rcases Decidable.em (s * t < 0) with h2 | h2
 ·exfalso
  have h3:s * t * b.dot b = t * t * a.dot b:=by
   have:s * t * b.dot b = t * (s * b.dot b):=by grind
   rw [this,h]
   grind
  have h4:s * t * b.dot b < 0:=Int.mul_neg_of_neg_of_pos h2 (by omega)
  have h5:0 <= t * t:=by rcases Int.le_total 0 t with h | h;exact Int.mul_nonneg h h;have:=Int.mul_nonneg (a:=-t) (b:=-t) (by omega) (by omega);rwa [Int.neg_mul_neg] at this
  have h6:=Int.mul_nonneg h5 (Int.le_of_lt hd)
  omega
 ·omega
theorem low_same {a b:Pt} (ha:a ≠ Pt.O) (hb:b ≠ Pt.O) (h:a.cross b = Pt.O) (hd:0 < a.dot b):a.low = b.low:=by
 have ga:=g_pos ha
 have gb:=g_pos hb
 obtain ⟨a1,a2,a3⟩:=g_dvdZ a
 obtain ⟨b1,b2,b3⟩:=g_dvdZ b
 simp only [Pt.cross,Pt.O,Pt.mk.injEq] at h
 obtain ⟨c1,c2,c3⟩:=h
 have ex:=gcd_line (a:=a) (b:=b) a.x b.x (by grind) (by grind) (by grind)
 have ey:=gcd_line (a:=a) (b:=b) a.y b.y (by grind) (by grind) (by grind)
 have ez:=gcd_line (a:=a) (b:=b) a.z b.z (by grind) (by grind) (by grind)
 have sx:=sign_same hb hd (s:=a.x) (t:=b.x) (by simp only [Pt.dot];grind)
 have sy:=sign_same hb hd (s:=a.y) (t:=b.y) (by simp only [Pt.dot];grind)
 have sz:=sign_same hb hd (s:=a.z) (t:=b.z) (by simp only [Pt.dot];grind)
 unfold Pt.low
 rw [if_neg (by omega),if_neg (by omega)]
 unfold Pt.by
 rw [part_same ga gb a1 b1 ex sx,part_same ga gb a2 b2 ey sy,part_same ga gb a3 b3 ez sz]
theorem short_same {a b:Pt} (ha:a ≠ Pt.O) (hb:b ≠ Pt.O) (h:a.cross b = Pt.O) (hd:0 < a.dot b) (ia:a.inB 4398046511104 = true) (ib:b.inB 4398046511104 = true):a.short = b.short:=by
 unfold Pt.short
 rw [if_pos ia,if_pos ib,low_same ha hb h hd]
theorem flat_of {L:List Pt} {N b:Pt} (hN:N ≠ Pt.O) (h:∀ x ∈ L,N.dot (x.sub b) = 0):flatAll L:=by
 intro p hp q hq r hr s hs
 have h1:N.dot (q.sub p) = 0:=by have:=h p hp;have:=h q hq;simp only [Pt.dot,Pt.sub] at *;grind
 have h2:N.dot (r.sub p) = 0:=by have:=h p hp;have:=h r hr;simp only [Pt.dot,Pt.sub] at *;grind
 have h3:N.dot (s.sub p) = 0:=by have:=h p hp;have:=h s hs;simp only [Pt.dot,Pt.sub] at *;grind
 unfold vol
 generalize q.sub p = u at *
 generalize r.sub p = v at *
 generalize s.sub p = t at *
 have h4:=hang u v t N N
 have h5:tri u v t * N.dot N = 0:=by
  rw [<- h4]
  have e1:u.dot N = 0:=by rw [<- h1];simp only [Pt.dot];grind
  have e2:v.dot N = 0:=by rw [<- h2];simp only [Pt.dot];grind
  have e3:t.dot N = 0:=by rw [<- h3];simp only [Pt.dot];grind
  rw [e1,e2,e3]
  simp
 exact (Int.mul_eq_zero.1 h5).resolve_right (self_pos hN)
theorem apart_tri {L:List Pt} {b c N1 N2 a1 a2:Pt} (h1:Sd L b c N1 a1) (h2:Sd L b c N2 a2) (nf:¬ flatAll L) (he:c.sub b ≠ Pt.O) (i1:N1.inB 4398046511104 = true) (i2:N2.inB 4398046511104 = true) (hne:N1.short ≠ N2.short):tri N1 N2 (c.sub b) ≠ 0:=by
 intro h
 have hx:=same_way he h1.sq h2.sq h
 have hdn:N1.dot N2 ≠ 0:=fun e=>by
  have k:N1.dot N1 * N2.dot N2 = 0:=by
   simp only [Pt.cross,Pt.O,Pt.mk.injEq] at hx
   obtain ⟨c1,c2,c3⟩:=hx
   simp only [Pt.dot] at *
   grind
  rcases Int.mul_eq_zero.1 k with k | k
  ·exact self_pos h1.ne k
  ·exact self_pos h2.ne k
 rcases Int.lt_or_gt_of_ne hdn with hd | hd
 ·apply nf
  refine flat_of (b:=b) h1.ne fun x hxL=>?_
  have l1:=h1.le x hxL
  have l2:=h2.le x hxL
  generalize x.sub b = y at *
  have k:N1.dot N2 * N1.dot y = N1.dot N1 * N2.dot y:=by
   simp only [Pt.cross,Pt.O,Pt.mk.injEq] at hx
   obtain ⟨c1,c2,c3⟩:=hx
   simp only [Pt.dot] at *
   grind
  have k1:0 <= N1.dot N2 * N1.dot y:=by have:=Int.mul_nonneg (a:=-(N1.dot N2)) (b:=-(N1.dot y)) (by omega) (by omega);rwa [Int.neg_mul_neg] at this
  have k2:N1.dot N1 * N2.dot y <= 0:=by
   have q:0 <= N1.dot N1:=by
    simp only [Pt.dot]
    have q:∀ t:Int,0 <= t * t:=fun t=>by rcases Int.le_total 0 t with h | h;exact Int.mul_nonneg h h;have:=Int.mul_nonneg (a:=-t) (b:=-t) (by omega) (by omega);rwa [Int.neg_mul_neg] at this
    have:=q N1.x
    have:=q N1.y
    have:=q N1.z
    omega
   have:=Int.mul_nonneg q (show 0 <= -(N2.dot y) by omega)
   rw [Int.mul_neg] at this
   omega
  exact (Int.mul_eq_zero.1 (show N1.dot N2 * N1.dot y = 0 by omega)).resolve_left hdn
 ·exact hne (short_same h1.ne h2.ne hx hd i1 i2)
theorem tri_turn (a b c:Pt):(c.sub b).cross (a.sub b) = (b.sub a).cross (c.sub a):=by
 simp only [Pt.cross,Pt.sub,Pt.mk.injEq]
 refine ⟨by grind,by grind,by grind⟩
theorem gives_sd {L:List Pt} {a b c q:Pt} (h:Gives L a b c q) (ha:a ∈ L):∃ N,Sd L b c N a/\q = N.short/\(N = (b.sub a).cross (c.sub a) \/ N = ((b.sub a).cross (c.sub a)).neg):=by
 obtain ⟨h1,h2,h3⟩:=h
 have t:=tri_turn a b c
 have e1:((b.sub a).cross (c.sub a)).dot (c.sub b) = 0:=by simp only [Pt.dot,Pt.cross,Pt.sub];grind
 have e2:((b.sub a).cross (c.sub a)).dot (a.sub b) = 0:=by simp only [Pt.dot,Pt.cross,Pt.sub];grind
 have e3:∀ x:Pt,((b.sub a).cross (c.sub a)).dot (x.sub b) = ((b.sub a).cross (c.sub a)).dot (x.sub a):=fun x=>by simp only [Pt.dot,Pt.cross,Pt.sub];grind
 have ng:∀ p q:Pt,p.neg.dot q = -(p.dot q):=fun p q=>by simp only [Pt.dot,Pt.neg];grind
 have nO:∀ p:Pt,p ≠ Pt.O->p.neg ≠ Pt.O:=fun p hp e=>hp (by cases p;simp only [Pt.neg,Pt.O,Pt.mk.injEq] at *;omega)
 cases ha2:above L ((b.sub a).cross (c.sub a)) a with
 | true =>
  rw [ha2] at h3 h2
  have hb:below L ((b.sub a).cross (c.sub a)) a = false:=by
   cases hb:below L ((b.sub a).cross (c.sub a)) a with
   | false=>rfl
   | true=>exact absurd ⟨rfl,hb⟩ h2
  unfold below at hb
  rw [List.any_eq_false] at hb
  refine ⟨((b.sub a).cross (c.sub a)).neg,⟨nO _ h1,by rw [ng,e1];rfl,fun x hx=>?_,ha,by rw [ng,e2];rfl,Or.inr (by rw [t])⟩,h3,Or.inr rfl⟩
  have:=hb x hx
  simp only [decide_eq_true_eq] at this
  rw [ng,e3]
  omega
 | false =>
  rw [ha2] at h3
  unfold above at ha2
  rw [List.any_eq_false] at ha2
  refine ⟨(b.sub a).cross (c.sub a),⟨h1,e1,fun x hx=>?_,ha,e2,Or.inl t.symm⟩,h3,Or.inl rfl⟩
  have:=ha2 x hx
  simp only [decide_eq_true_eq] at this
  rw [e3]
  omega
theorem outer_inv (L:List Pt) (I:List Pt × List Pt->Prop) (st:∀ a b c s,List.Sublist [a,b,c] L->I s->I (triP L a b c s)):∀ (M:List Pt) (s:List Pt × List Pt),List.Sublist M L->I s->I (outerP L M s)
 | [],s,_,h=>h
 | a :: r,s,hs,h=>by
  have inner:∀ (b:Pt) (M:List Pt) (s:List Pt × List Pt),(∀ c ∈ M,List.Sublist [a,b,c] L)->I s->I (innerP L a b M s):=by
   intro b M
   induction M with
   | nil=>intro s _ h;exact h
   | cons c r ih=>intro s hc h;exact ih _ (fun c hc'=>hc c (List.mem_cons_of_mem _ hc')) (st a b c s (hc c List.mem_cons_self) h)
  have mid:∀ (M:List Pt) (s:List Pt × List Pt),List.Sublist (a :: M) L->I s->I (midP L a M s):=by
   intro M
   induction M with
   | nil=>intro s _ h;exact h
   | cons b r ih =>
    intro s hM h
    refine ih _ (List.Sublist.trans ?_ hM) (inner b r s (fun c hc=>List.Sublist.trans ?_ hM) h)
    ·exact List.Sublist.cons_cons _ (List.sublist_cons_self _ _)
    ·exact List.Sublist.cons_cons _ (List.Sublist.cons_cons _ (List.singleton_sublist.2 hc))
  exact outer_inv L I st r _ (List.Sublist.trans (List.sublist_cons_self _ _) hs) (mid r s hs h)
theorem axis_nodup {A:List Pt} {n:Pt} (h:A.Nodup):(withAxisP A n).Nodup:=by
 unfold withAxisP
 split
 ·exact h
 ·next hn=>exact List.nodup_append.2 ⟨h,by simp,fun x hx y hy e=>by simp at hy;subst hy;subst e;exact hn hx⟩
def Eds (L E:List Pt):Prop:=E.Nodup/\∀ e ∈ E,∃ p ∈ pairsL L,e = (p.2.sub p.1).short
theorem edge_eds {L E:List Pt} {a b:Pt} (h:Eds L E) (hs:List.Sublist [a,b] L):Eds L (withEdgeP E (b.sub a)):=by
 unfold withEdgeP
 split
 ·exact h
 ·next hn =>
  rw [not_or] at hn
  refine ⟨List.nodup_append.2 ⟨h.1,by simp,fun x hx y hy e=>by simp at hy;subst hy;subst e;exact hn.1 hx⟩,fun e he=>?_⟩
  rcases List.mem_append.1 he with he | he
  ·exact h.2 e he
  ·simp at he
   exact ⟨(a,b),pairs_mem hs,he⟩
theorem sides_eds (L:List Pt):(sidesP L).1.Nodup/\Eds L (sidesP L).2:=by
 unfold sidesP
 refine outer_inv L (fun s=>s.1.Nodup/\Eds L s.2) ?_ L _ (List.Sublist.refl _) ⟨by simp,by simp [Eds]⟩
 intro a b c s hs h
 unfold triP
 dsimp only
 split
 ·exact h
 ·refine ⟨axis_nodup h.1,?_⟩
  have s1:List.Sublist [a,b] L:=List.Sublist.trans (by simp) hs
  have s2:List.Sublist [a,c] L:=List.Sublist.trans (List.Sublist.cons_cons _ (List.Sublist.cons _ (List.Sublist.refl _))) hs
  have s3:List.Sublist [b,c] L:=List.Sublist.trans (List.Sublist.cons _ (List.Sublist.refl _)) hs
  exact edge_eds (edge_eds (edge_eds h.2 s1) s2) s3
theorem threeOf {α:Type} {M:List α} (h:M.Nodup) (hl:¬ M.length <= 2):∃ x y z,x ∈ M/\y ∈ M/\z ∈ M/\x ≠ y/\x ≠ z/\y ≠ z:=by
 match M,h,hl with
 | [],_,hl=>simp at hl
 | [_],_,hl=>simp at hl
 | [_,_],_,hl=>simp at hl
 | x :: y :: z :: r,h,_ =>
  simp only [List.nodup_cons,List.mem_cons,not_or] at h
  exact ⟨x,y,z,by simp,by simp,by simp,h.1.1,h.1.2.1,h.2.1.1⟩
theorem twoOf {α:Type} {M:List α} (h:M.Nodup) (hl:¬ M.length <= 1):∃ x y,x ∈ M/\y ∈ M/\x ≠ y:=by
 match M,h,hl with
 | [],_,hl=>simp at hl
 | [_],_,hl=>simp at hl
 | x :: y :: r,h,_ =>
  simp only [List.nodup_cons,List.mem_cons,not_or] at h
  exact ⟨x,y,by simp,by simp,h.1.1⟩
theorem pair_tail {a b c x:Pt} {t:List Pt} (h:List.Sublist [a,b,c] (x :: t)):List.Sublist [b,c] t:=by
 rcases List.sublist_cons_iff.1 h with h | ⟨r,e,h⟩
 ·exact List.Sublist.trans (List.sublist_cons_self _ _) h
 ·simp only [List.cons.injEq] at e
  obtain ⟨rfl,rfl⟩:=e
  exact h
open Classical in
theorem axes_count {L:List Pt} (h12:L.length <= 12) (hin:∀ p ∈ L,p.inB 65536 = true) (hnd:L.Nodup) (nf:¬ flatAll L):(sidesP L).1.length <= 110:=by
 cases L with
 | nil=>simp [sidesP,outerP]
 | cons x t =>
  have W:∀ q ∈ (sidesP (x :: t)).1,∃ bc:Pt × Pt,bc ∈ pairsL t/\∃ a N,Sd (x :: t) bc.1 bc.2 N a/\q = N.short/\N.inB 4398046511104 = true/\bc.2.sub bc.1 ≠ Pt.O:=by
   intro q hq
   obtain ⟨a,b,c,hs,g⟩:=mem_sides.1 hq
   have ma:a ∈ x :: t:=hs.subset (by simp)
   have mb:b ∈ x :: t:=hs.subset (by simp)
   have mc:c ∈ x :: t:=hs.subset (by simp)
   obtain ⟨N,hN,e,hc⟩:=gives_sd g ma
   refine ⟨(b,c),pairs_mem (pair_tail hs),a,N,hN,e,?_,?_⟩
   ·have ia:=(Pt.inB_iff _ _).1 (hin a ma)
    have ib:=(Pt.inB_iff _ _).1 (hin b mb)
    have ic:=(Pt.inB_iff _ _).1 (hin c mc)
    have k:((b.sub a).cross (c.sub a)).inB 34359738368 = true:=by
     rw [Pt.inB_iff]
     simp only [Pt.cross,Pt.sub]
     have p1:-131072 <= b.x - a.x/\b.x - a.x <= 131072:=by omega
     have p2:-131072 <= b.y - a.y/\b.y - a.y <= 131072:=by omega
     have p3:-131072 <= b.z - a.z/\b.z - a.z <= 131072:=by omega
     have p4:-131072 <= c.x - a.x/\c.x - a.x <= 131072:=by omega
     have p5:-131072 <= c.y - a.y/\c.y - a.y <= 131072:=by omega
     have p6:-131072 <= c.z - a.z/\c.z - a.z <= 131072:=by omega
     have m1:=mul_in p2 p6
     have m2:=mul_in p3 p5
     have m3:=mul_in p3 p4
     have m4:=mul_in p1 p6
     have m5:=mul_in p1 p5
     have m6:=mul_in p2 p4
     omega
    rcases hc with rfl | rfl
    ·exact inB_mono k (by decide)
    ·rw [Pt.inB_iff] at k ⊢
     simp only [Pt.neg]
     omega
   ·intro e9
    exact g.1 (by
     have:(c.sub b).cross (a.sub b) = Pt.O:=by show (Pt.cross (c.sub b) _) = _;rw [show c.sub b = Pt.O from e9];simp [Pt.cross,Pt.O]
     rw [<- tri_turn];exact this)
  let f:Pt->Pt × Pt:=fun q=>if h:∃ bc:Pt × Pt,bc ∈ pairsL t/\∃ a N,Sd (x :: t) bc.1 bc.2 N a/\q = N.short/\N.inB 4398046511104 = true/\bc.2.sub bc.1 ≠ Pt.O then Classical.choose h else (Pt.O,Pt.O)
  have hf:∀ q ∈ (sidesP (x :: t)).1,f q ∈ pairsL t/\∃ a N,Sd (x :: t) (f q).1 (f q).2 N a/\q = N.short/\N.inB 4398046511104 = true/\(f q).2.sub (f q).1 ≠ Pt.O:=by
   intro q hq
   have h:=W q hq
   have e:f q = Classical.choose h:=by simp only [f,dif_pos h]
   rw [e]
   exact Classical.choose_spec h
  have hk:=fiber_le f 2 (pairsL t) (sidesP (x :: t)).1 (fun q hq=>(hf q hq).1) (fun bc _=>by
   by_cases hl:((sidesP (x :: t)).1.filter (fun q=>decide (f q = bc))).length <= 2
   ·exact hl
   ·exfalso
    obtain ⟨q1,q2,q3,m1,m2,m3,n12,n13,n23⟩:=threeOf (List.Pairwise.filter _ (sides_eds (x :: t)).1) hl
    rw [List.mem_filter] at m1 m2 m3
    have e1:=of_decide_eq_true m1.2
    have e2:=of_decide_eq_true m2.2
    have e3:=of_decide_eq_true m3.2
    obtain ⟨_,a1,N1,s1,z1,i1,ne⟩:=hf q1 m1.1
    obtain ⟨_,a2,N2,s2,z2,i2,_⟩:=hf q2 m2.1
    obtain ⟨_,a3,N3,s3,z3,i3,_⟩:=hf q3 m3.1
    rw [e1] at s1 ne
    rw [e2] at s2
    rw [e3] at s3
    exact no_three s1 s2 s3 (apart_tri s2 s3 nf ne i2 i3 (by rw [<- z2,<- z3];exact n23)) (apart_tri s3 s1 nf ne i3 i1 (by rw [<- z3,<- z1];exact Ne.symm n13)) (apart_tri s1 s2 nf ne i1 i2 (by rw [<- z1,<- z2];exact n12)))
  have:=pairs_55 (L:=t) (by simp at h12;omega)
  omega
open Classical in
theorem edges_count {L:List Pt} (h12:L.length <= 12):(sidesP L).2.length <= 66:=by
 obtain ⟨hn,hw⟩:=(sides_eds L).2
 let f:Pt->Pt × Pt:=fun q=>if h:∃ p ∈ pairsL L,q = (p.2.sub p.1).short then Classical.choose h else (Pt.O,Pt.O)
 have hf:∀ q ∈ (sidesP L).2,f q ∈ pairsL L/\q = ((f q).2.sub (f q).1).short:=by
  intro q hq
  have h:=hw q hq
  have e:f q = Classical.choose h:=by simp only [f,dif_pos h]
  rw [e]
  exact Classical.choose_spec h
 have hk:=fiber_le f 1 (pairsL L) (sidesP L).2 (fun q hq=>(hf q hq).1) (fun bc _=>by
  by_cases hl:((sidesP L).2.filter (fun q=>decide (f q = bc))).length <= 1
  ·exact hl
  ·exfalso
   obtain ⟨q1,q2,m1,m2,n12⟩:=twoOf (List.Pairwise.filter _ hn) hl
   rw [List.mem_filter] at m1 m2
   have e1:=of_decide_eq_true m1.2
   have e2:=of_decide_eq_true m2.2
   exact n12 ((hf q1 m1.1).2.trans (by rw [e1,<- e2];exact (hf q2 m2.1).2.symm)))
 have:=pairs_66 h12
 omega
end
section
open Go.RowKit Go.Shelf
theorem dirs_len (m:M9) (A:List Pt):(m.dirs A).length <= A.length:=by
 unfold M9.dirs
 have:=List.length_filter_le (fun p=>decide (p ≠ Pt.O)) (A.map m.dirV)
 rw [List.length_map] at this
 exact this
theorem dirs_in (m:M9) (A:List Pt):∀ p ∈ m.dirs A,p.inB 1048576 = true:=by
 intro p hp
 unfold M9.dirs at hp
 rw [List.mem_filter,List.mem_map] at hp
 obtain ⟨⟨x,_,rfl⟩,_⟩:=hp
 exact short_in _
theorem nodup_ne {L:List Pt} (h2:2 <= L.length) (h:L.Nodup):pt L 0 ≠ pt L 1:=by
 match L,h2,h with
 | a :: b :: r,_,h =>
  intro e
  have e2:a = b:=e
  subst e2
  simp at h
theorem good_few {s:Sh} (h:Good s):(axesP s).length <= 110/\(edgesP s).length <= 66:=by
 unfold axesP edgesP
 by_cases h3:s.kind = 3
 ·have h2:¬ s.kind = 2:=by omega
  rw [if_pos h3,if_neg h2,if_pos h3]
  exact ⟨by decide,by decide⟩
 ·rw [if_neg h3]
  by_cases h4:s.kind = 4
  ·have h2:¬ s.kind = 2:=by omega
   rw [if_pos h4,if_neg h2,if_neg h3,if_pos h4]
   have hk:=h.ok
   unfold checkP at hk
   cases hf:formP s with
   | false=>rw [hf] at hk;simp at hk
   | true =>
    rw [hf] at hk
    obtain ⟨l4,l12,hin,hnd⟩:=may_parts (form_hull hf h4)
    have nf:¬ flatAll s.pts:=by
     intro hfl
     have hne:=nodup_ne (by omega) hnd
     have:=(flatP_iff (by omega) hne).2 hfl
     simp [h4,this] at hk
    exact ⟨axes_count l12 hin hnd nf,edges_count l12⟩
  ·rw [if_neg h4]
   refine ⟨by simp,?_⟩
   rw [if_neg h3,if_neg h4]
   split <;> simp
theorem came_may {s:Sh} {t:Pt} {q:Q4} {P2 A2 E2:List Pt} (h:Good s) (hc:Came t q (ptsP s) (axesP s) (edgesP s) P2 A2 E2):mayC ⟨P2,A2,E2,s.radius⟩ = true:=by
 obtain ⟨f1,f2⟩:=good_few h
 have g1:=gd_len h
 have g2:=gd_pts h
 have a1:A2.length <= 128:=by rw [hc.a];have:=dirs_len (rowsM q) (axesP s);omega
 have e1:E2.length <= 128:=by rw [hc.e];have:=dirs_len (rowsM q) (edgesP s);omega
 have a2:∀ p ∈ A2,p.inB 1048576 = true:=by rw [hc.a];exact dirs_in _ _
 have e2:∀ p ∈ E2,p.inB 1048576 = true:=by rw [hc.e];exact dirs_in _ _
 have p2:∀ p ∈ P2,p.inB 16777216 = true:=fun p hp=>inB_mono (hc.near p hp) (by decide)
 have l1:=hc.len
 have r1:=h.r
 unfold mayC
 simp only [Bool.and_eq_true,decide_eq_true_eq,List.all_eq_true]
 exact ⟨⟨⟨⟨by omega,p2⟩,a1,a2⟩,e1,e2⟩,by omega⟩
theorem rplace_right (t:Pt) (q:Q4) (ht:t.inB 5497558138880 = true) (hw:WM.Whole q.w q.x q.y q.z) (P A E:List Pt) (h0:0 < P.length) (hP:∀ p ∈ P,p.inB 65536 = true) (hA:∀ p ∈ A,p ≠ Pt.O/\p.short = p) (hE:∀ p ∈ E,p ≠ Pt.O/\p.short = p) (nP:P.length < 1099511627776) (nA:A.length < 1099511627776) (nE:E.length < 1099511627776)
  (r:Int) (o o2 o3:Option Addr) (c c2 c3:Nat) (W:World) (l1:Lies W (.slice o P.length c) P) (l2:Lies W (.slice o2 A.length c2) A) (l3:Lies W (.slice o3 E.length c3) E) :
  Calls Tryz.prog 57 #[.agg #[.slice o P.length c,.slice o2 A.length c2,.slice o3 E.length c3,.int .i64 r],poseV t q] W fun e W'=>∃ (P2 A2 E2:List Pt) (vp va ve:Value),e = .returned (.tuple #[.agg #[vp,va,ve,.int .i64 r],.bool true])/\Three W W' vp va ve P2 A2 E2/\Came t q P A E P2 A2 E2:=by
 have hc:=rplace_any t q P A E r _ _ _ W l1 l2 l3 nP nA nE
 rw [place_ok hw ht h0 hP (fun p hp=>(short_g (hA p hp).1 (hA p hp).2).2) (fun p hp=>(short_g (hE p hp).1 (hE p hp).2).2)] at hc
 refine Calls.mono hc ?_
 rintro e W' ⟨vp,va,ve,_,h⟩
 obtain ⟨rfl,h3⟩:=h rfl
 refine ⟨_,_,_,vp,va,ve,rfl,h3,rfl,rfl,rfl,List.length_map _,fun p hp=>?_,hw⟩
 obtain ⟨x,hx,rfl⟩:=List.mem_map.1 hp
 obtain ⟨_,_,_,_,_,e9⟩:=point_some (rows_fit hw).2 ht (hP x hx)
 exact e9
end
section
open Go.RowKit Go.Shelf Fx
theorem turned_far {w x y z a0 a1 a2 t0 t1 t2:Int} (h:WM.Whole w x y z) (h0:-17592186044416 <= a0/\a0 <= 17592186044416) (h1:-17592186044416 <= a1/\a1 <= 17592186044416) (h2:-17592186044416 <= a2/\a2 <= 17592186044416)
  (d0:dot [rowsAt0 w x y z,rowsAt1 w x y z,rowsAt2 w x y z] [a0,a1,a2] = some t0) (d1:dot [rowsAt3 w x y z,rowsAt4 w x y z,rowsAt5 w x y z] [a0,a1,a2] = some t1) (d2:dot [rowsAt6 w x y z,rowsAt7 w x y z,rowsAt8 w x y z] [a0,a1,a2] = some t2)
  (k0:-4096 <= t0/\t0 <= 4096) (k1:-4096 <= t1/\t1 <= 4096) (k2:-4096 <= t2/\t2 <= 4096):(-8388608 <= a0/\a0 <= 8388608)/\(-8388608 <= a1/\a1 <= 8388608)/\(-8388608 <= a2/\a2 <= 8388608):=by
 obtain ⟨hw,hx,hy,hz,hN1,hN2⟩:=id h
 obtain ⟨hbad,n0,n1,n2,n3,n4,n5,n6,n7,n8⟩:=WM.rows_near hw hx hy hz hN2
 obtain ⟨_,m0,m1,m2,m3,m4,m5,m6,m7,m8,s0,s1,s2,b0,b1,b2,L,⟨e0,e1,e2,e3,e4,e5,e6,e7,e8⟩,⟨g0,g1,g2⟩,⟨f0,f1,f2⟩,hn,hL,c0,c1,c2⟩:=WM.turned_back h h0 h1 h2
 subst e0 e1 e2 e3 e4 e5 e6 e7 e8
 rw [d0] at g0
 rw [d1] at g1
 rw [d2] at g2
 cases g0
 cases g1
 cases g2
 obtain ⟨r0,q0,_,u0⟩:=WM.dot3 (B:=4096) n0.2.2 n3.2.2 n6.2.2 k0 k1 k2 (by decide)
 obtain ⟨r1,q1,_,u1⟩:=WM.dot3 (B:=4096) n1.2.2 n4.2.2 n7.2.2 k0 k1 k2 (by decide)
 obtain ⟨r2,q2,_,u2⟩:=WM.dot3 (B:=4096) n2.2.2 n5.2.2 n8.2.2 k0 k1 k2 (by decide)
 rw [f0] at q0
 rw [f1] at q1
 rw [f2] at q2
 cases q0
 cases q1
 cases q2
 omega
theorem longF_far:∀ (g:Nat) (q:Pt),g <= 20->q.big (20 - g)->(longF g q).inB 524288 = false
 | 0,q,_,hb=>by
  cases hq:q.inB 524288 with
  | false=>exact hq
  | true=>exact absurd (big_lt hq hb) (by omega)
 | g + 1,q,hg,hb=>by
  cases hq:q.inB 524288 with
  | false=>unfold longF;rw [hq];exact hq
  | true =>
   obtain ⟨e1,e2,_⟩:=long_step hq hb hg
   rw [e1]
   exact longF_far g _ (by omega) e2
theorem long_far {p:Pt} (h:p ≠ Pt.O):p.long.inB 524288 = false:=by
 unfold Pt.long
 rw [if_neg h]
 exact longF_far 20 p (Nat.le_refl _) (big_zero h)
theorem tdiv_small {a:Int} (h:a.tdiv 4096 = 0):-4096 <= a/\a <= 4096:=by
 have e:(a.tdiv 4096).natAbs = a.natAbs / 4096:=by rw [Int.natAbs_tdiv];rfl
 omega
theorem dir_ne {q:Q4} (hq:WM.Whole q.w q.x q.y q.z) {p:Pt} (hp:p.inB 1048576 = true) (h:p ≠ Pt.O):(rowsM q).dirV p ≠ Pt.O:=by
 obtain ⟨hb,hF⟩:=rows_fit hq
 have l1:=(long_is p hp).1
 have l2:=long_far h
 obtain ⟨t1,t2⟩:=times_in (n:=4096) l1 (by decide) (by decide)
 obtain ⟨r,hr,hri⟩:=turn_some hF t2 (by decide)
 have hri':=(Pt.inB_iff _ _).1 hri
 have eT:(rowsM q).dirT p = r:=by unfold M9.dirT;rw [hr];rfl
 have eQ:r.quo 4096 = ⟨r.x.tdiv 4096,r.y.tdiv 4096,r.z.tdiv 4096⟩:=by
  have k:∀ a:Int,-(6 * (1048576 * 4096) + 1) <= a/\a <= 6 * (1048576 * 4096) + 1->wrap64 (a.tdiv 4096) = a.tdiv 4096:=fun a ha=>by
   have e:(a.tdiv 4096).natAbs = a.natAbs / 4096:=by rw [Int.natAbs_tdiv];rfl
   exact w64 (by omega) (by omega)
  unfold Pt.quo
  rw [k _ hri'.1,k _ hri'.2.1,k _ hri'.2.2]
 unfold M9.dirV
 rw [eT,eQ]
 refine short_ne ?_ ?_
 ·have e:∀ a:Int,(a.tdiv 4096).natAbs = a.natAbs / 4096:=fun a=>by rw [Int.natAbs_tdiv];rfl
  have e1:=e r.x
  have e2:=e r.y
  have e3:=e r.z
  rw [Pt.inB_iff]
  dsimp only
  omega
 ·intro e
  have e1:=tdiv_small (congrArg Pt.x e)
  have e2:=tdiv_small (congrArg Pt.y e)
  have e3:=tdiv_small (congrArg Pt.z e)
  rw [t1] at hr
  have l3:=(Pt.inB_iff _ _).1 l1
  have l4:=(Pt.inB_no _ _).1 l2
  unfold M9.turn at hr
  unfold rowsM at hr
  rw [hb] at hr
  dsimp only [cond] at hr
  unfold opt3 at hr
  split at hr
  ·rename_i u0 u1 u2 d0 d1 d2
   cases hr
   have:=turned_far hq (by omega) (by omega) (by omega) d0 d1 d2 e1 e2 e3
   omega
  ·cases hr
end
section
def mayS (c:Cr):Prop:=2 < c.P.length->∃ n ∈ c.A,n ≠ Pt.O/\n.inB 1048576 = true
theorem good_axis {s:Sh} (h:Good s) (h2:2 < (ptsP s).length):∃ n ∈ axesP s,n ≠ Pt.O/\n.inB 1048576 = true:=by
 have key:∀ n ∈ axesP s,n ≠ Pt.O/\n.inB 1048576 = true:=fun n hn=>by
  have t:=(gd_axes h).1 n hn
  exact ⟨t.1,(short_g t.1 t.2).2⟩
 have hne:axesP s ≠ []:=by
  unfold axesP
  by_cases k3:s.kind = 3
  ·rw [if_pos k3];decide
  ·rw [if_neg k3]
   by_cases k4:s.kind = 4
   ·rw [if_pos k4]
    have hk:=h.ok
    unfold checkP at hk
    cases hf:formP s with
    | false=>rw [hf] at hk;simp at hk
    | true =>
     rw [hf] at hk
     obtain ⟨l4,l12,hin,hnd⟩:=may_parts (form_hull hf k4)
     have nf:¬ flatAll s.pts:=by
      intro hfl
      have hne:=nodup_ne (by omega) hnd
      have:=(flatP_iff (by omega) hne).2 hfl
      simp [k4,this] at hk
     have:=axes_two (L:=s.pts) (fun e=>by rw [e] at l4;simp at l4) nf hin
     intro e
     rw [e] at this
     simp at this
   ·exfalso
    unfold ptsP at h2
    have hk:=h.k
    by_cases k1:s.kind = 1
    ·rw [if_pos k1] at h2;simp at h2
    ·rw [if_neg k1] at h2
     have k2:s.kind = 2:=by omega
     rw [if_pos k2] at h2
     simp at h2
 match he:axesP s,hne with
 | n :: r,_=>exact ⟨n,List.mem_cons_self,key n (by rw [he];exact List.mem_cons_self)⟩
theorem came_side {s:Sh} {t:Pt} {q:Q4} {P2 A2 E2:List Pt} (h:Good s) (hc:Came t q (ptsP s) (axesP s) (edgesP s) P2 A2 E2) (r:Int):mayS ⟨P2,A2,E2,r⟩:=fun h2=>by
 obtain ⟨n,hn,hn0,hnb⟩:=good_axis h (by have:=hc.len;dsimp only at h2;omega)
 refine ⟨(rowsM q).dirV n,?_,dir_ne hc.wh hnb hn0,short_in _⟩
 show _ ∈ A2
 rw [hc.a]
 unfold M9.dirs
 exact List.mem_filter.2 ⟨List.mem_map.2 ⟨n,hn,rfl⟩,by simpa using dir_ne hc.wh hnb hn0⟩
def mayN (c:Cr):Prop:=mayC c = true/\(c.P.length <= 12/\mayS c)/\∀ p ∈ c.P,p.inB 8388608 = true
theorem came_near {s:Sh} {t:Pt} {q:Q4} {P2 A2 E2:List Pt} (h:Good s) (hc:Came t q (ptsP s) (axesP s) (edgesP s) P2 A2 E2):mayN ⟨P2,A2,E2,s.radius⟩:=
 ⟨came_may h hc,⟨by have:=gd_len h;have:=hc.len;show P2.length <= 12;omega,came_side h hc _⟩,hc.near⟩
end
end Go.Proofs.YtablgiflakncfaaGreat
