/- Package pose: a core that is moved. -/
import Derived.Test.YtohbjabihdgjhaaGreatSSFree0
import Derived.Test.YtohbjabihdgjhaaGreatSSFree11
import Derived.Test.YtohbjabihdgjhaaGreatSSFree17
import Derived.Test.YtohbjabihdgjhaaGreatSSFree6
import Derived.Laws.OwnMore
import Derived.Maps.AppendAt
import Derived.Test.YtohbjabihdgjhaaGreatSSFree15
set_option maxHeartbeats 8000000
set_option maxRecDepth 100000
set_option linter.unusedVariables false
namespace Go.Proofs.YtohbjabihdgjhaaGreat
section
open Go.RowKit Go.Shelf
theorem same_any (p:Pt) (w:World):Calls Tryz.prog 35 #[p.v] w fun e W=>e = .returned p.v/\Below w.heap.size w W:=by
 obtain ⟨x,y,z⟩:=p
 unfold Pt.v
 dsimp only
 go_enter Tryz.func35,Tryz.ntmps35
 go_wp2
 exact bodyPost_ret (v:=.agg #[.int .i64 x,.int .i64 y,.int .i64 z]) (by simp [results,Tryz.results35,go_sem]) rfl ⟨rfl,b_step (n_after _ _) (n_after _ _)⟩
theorem move1_any (p q:Pt) (mb:Nat) (w:World) (hc:Cells w mb [.int .i64 q.x,.int .i64 q.y,.int .i64 q.z]):Calls Tryz.prog 31 #[p.v,.pointer (some ⟨mb,0,none⟩)] w fun e W=>e = .returned (p.plus q).v/\Below w.heap.size w W:=by
 have HP:Hid _:=fun w'=>pplus_any p q w'
 generalize p.plus q = r at *
 obtain ⟨x,y,z⟩:=p
 obtain ⟨x1,y1,z1⟩:=q
 obtain ⟨x2,y2,z2⟩:=r
 unfold Pt.v at *
 dsimp only at *
 have b9:=b_step (n_after w (.cells #[.int .i64 x,.int .i64 y,.int .i64 z] 23)) (n_after _ (.cells #[.int .i64 0,.int .i64 0,.int .i64 0] 23))
 have hl:mb < w.heap.size:=Cells.lt hc
 have c0:=(Cells.step hc b9 0 _ rfl).1
 have c1:=(Cells.step hc b9 1 _ rfl).1
 have c2:=(Cells.step hc b9 2 _ rfl).1
 have BO:Hid (Box3 ((w.alloc (.cells #[.int .i64 x,.int .i64 y,.int .i64 z] 23)).alloc (.cells #[.int .i64 0,.int .i64 0,.int .i64 0] 23)) (w.heap.size + 1) Pt.O):=by show Box3 _ _ _;have:=Box3.new (w.alloc (.cells #[.int .i64 x,.int .i64 y,.int .i64 z] 23)) 0 0 0 23;rwa [World.size_alloc] at this
 have hB:Hid _:=b9
 clear hc b9
 go_enter Tryz.func31,Tryz.ntmps31
 go_wp2_with (fail)
 refine Calls.mono (HP.out _) ?_
 rintro e V ⟨rfl,hb⟩
 obtain ⟨d0,d1,d2,f0,f1,f2⟩:=BO.out.step hb
 simp only [Pt.O] at d0 d1 d2
 have hE:Hid _:=b_step hB.out hb
 clear c0 c1 c2 hb HP
 go_wp2_with (fail)
 exact bodyPost_ret (v:=.agg #[.int .i64 x2,.int .i64 y2,.int .i64 z2]) (by simp [results,Tryz.results31,go_sem,d0,d1,d2]) rfl ⟨rfl,set3_below hE.out (by omega) x2 y2 z2⟩
theorem gather_plain (gf b:Nat) (cs:Array Value) (f:Pt->Pt) (P:List Pt) (o:Option Addr) (cap:Nat) (w:World) (St:World->Prop) (hst:St w) (hSt:∀ A B r2,St A->A.grownBy B r2->(∀ r,r2 = some r->w.heap.size <= r)->St B) (hSk:∀ A B,St A->KeepO (fun x=>x < w.heap.size) A B->St B) (hv:Lies w (.slice o P.length cap) P)
  (eg:∀ args w,(callFunc gf args).run Tryz.prog w = .ok (.enter gf args) w) (hf:∀ (p:Pt) V,St V->Calls Tryz.prog gf (#[].push p.v ++ cs) V fun e V'=>e = .returned (f p).v/\Below V.heap.size V V')
  (cp:w.cell? ⟨b,0,none⟩ = some (.slice o P.length cap)) (cf:w.cell? ⟨b + 1,0,none⟩ = some (.func (.func gf) #[] cs)) (hN:P.length < 1099511627776) :
  Calls Tryz.prog 33 #[.func (.func 76) #[] #[.pointer (some ⟨b,0,none⟩),.pointer (some ⟨b + 1,0,none⟩)]] w fun e W=>∃ u,e = .returned u/\W.ownsRow w.heap.size 23 3 u (P.map f).length (fl3 (P.map f))/\Below w.heap.size w W:=by
 refine Calls.mono (gathered_any 76 #[.pointer (some ⟨b,0,none⟩),.pointer (some ⟨b + 1,0,none⟩)] (fun k=>f (pt P k)) none (fun x=>x < w.heap.size) (fun _ X=>St X) P.length w (enters_of Tryz.func76 (by kernel_rfl) rfl)
  (fun W hb=>each_tells_pt 8 b (b + 1) P o cap gf #[] cs (fun k=>(f (pt P k)).v) none (fun x=>x < w.heap.size) (fun _ X=>St X) W
   eg (hv.below hb) (c_after hb cp) (c_after hb cf) (fun q e h0=>?_) ⟨World.block_lt_of_cell? _ _ cf,by simp⟩ (fun x hx=>Nat.lt_of_lt_of_le hx hb.size)
   (fun X hX=>hSt _ _ none (hSt _ _ none hst (below_grown hb none) (fun r e=>by cases e)) (below_grown hX none) (fun r e=>by cases e)) (fun k X Y hs hk=>hSk _ _ hs hk)
   (fun k X hk hs=>(hf (pt P k) X hs).mono fun e X' h=>⟨h.1,below_grown h.2 none,hSt _ _ none hs (below_grown h.2 none) (fun r e=>by cases e)⟩))
  (fun x hx=>hx) (fun r e=>by cases e) (fun k X Y r2 hs hg hr=>hSt _ _ _ hs hg hr) hN) ?_
 ·subst e
  exact ⟨hv.lt h0,by simp⟩
 ·rintro e W ⟨u,rfl,h3,h4,h5⟩
  rw [firsts_map] at h3
  exact ⟨u,rfl,by rw [List.length_map];exact h3,⟨h4.os,h4.tape,h4.output,h4.size,fun k hk=>h4.block k hk (by simp)⟩⟩
structure MG (w0 V:World) (cb mb ob:Nat) (pv av ev:Value) (r:Int) (q:Pt) (P A E:List Pt) (g3 g4 g7 g8 g11 g12 g15:Value) (l3 l4 l7 l8 l11 l12 l15 l16:Bool) (w:World):Prop where
 be:Below w0.heap.size w0 w
 sz:V.heap.size <= w.heap.size
 cr:Cells w cb [pv,av,ev,.int .i64 r]
 mr:Cells w mb [.int .i64 q.x,.int .i64 q.y,.int .i64 q.z]
 co:Cells w ob (cond l16 [g4,g8,g12,.int .i64 r] [.slice none 0 0,.slice none 0 0,.slice none 0 0,.int .i64 0])
 x3:l3 = true->∃ b,g3 = .func (.func 76) #[] #[.pointer (some ⟨b,0,none⟩),.pointer (some ⟨b + 1,0,none⟩)]/\V.heap.size <= b/\w.cell? ⟨b,0,none⟩ = some pv/\w.cell? ⟨b + 1,0,none⟩ = some (.func (.func 31) #[] #[.pointer (some ⟨mb,0,none⟩)])
 x7:l7 = true->∃ b,g7 = .func (.func 76) #[] #[.pointer (some ⟨b,0,none⟩),.pointer (some ⟨b + 1,0,none⟩)]/\V.heap.size <= b/\w.cell? ⟨b,0,none⟩ = some av/\w.cell? ⟨b + 1,0,none⟩ = some (.func (.func 35) #[] #[])
 x11:l11 = true->∃ b,g11 = .func (.func 76) #[] #[.pointer (some ⟨b,0,none⟩),.pointer (some ⟨b + 1,0,none⟩)]/\V.heap.size <= b/\w.cell? ⟨b,0,none⟩ = some ev/\w.cell? ⟨b + 1,0,none⟩ = some (.func (.func 35) #[] #[])
 o4:l4 = true->w.ownsRow V.heap.size 23 3 g4 P.length (fl3 P)
 o8:l8 = true->w.ownsRow V.heap.size 23 3 g8 A.length (fl3 A)
 o12:l12 = true->w.ownsRow V.heap.size 23 3 g12 E.length (fl3 E)
 s48:l4 = true->l8 = true->∀ k,g4.ownBlock = some k->g8.ownBlock ≠ some k
 s42:l4 = true->l12 = true->∀ k,g4.ownBlock = some k->g12.ownBlock ≠ some k
 s82:l8 = true->l12 = true->∀ k,g8.ownBlock = some k->g12.ownBlock ≠ some k
 bd:l15 = true->g15 = .agg #[g4,g8,g12,.int .i64 r]
section
variable {w0 V:World} {cb mb ob:Nat} {pv av ev:Value} {r:Int} {q:Pt} {P A E:List Pt} {g3 g4 g7 g8 g11 g12 g15:Value} {l3 l4 l7 l8 l11 l12 l15 l16:Bool} {w w':World}
theorem MG.step (h:MG w0 V cb mb ob pv av ev r q P A E g3 g4 g7 g8 g11 g12 g15 l3 l4 l7 l8 l11 l12 l15 l16 w) (hb:Below w.heap.size w w'):MG w0 V cb mb ob pv av ev r q P A E g3 g4 g7 g8 g11 g12 g15 l3 l4 l7 l8 l11 l12 l15 l16 w':=by
 refine ⟨b_step h.be hb,Nat.le_trans h.sz hb.size,h.cr.step hb,h.mr.step hb,h.co.step hb,fun e=>?_,fun e=>?_,fun e=>?_,fun e=>own_below (h.o4 e) hb,fun e=>own_below (h.o8 e) hb,fun e=>own_below (h.o12 e) hb,h.s48,h.s42,h.s82,h.bd⟩
 ·obtain ⟨b,h1,h2,h3,h4⟩:=h.x3 e;exact ⟨b,h1,h2,c_after hb h3,c_after hb h4⟩
 ·obtain ⟨b,h1,h2,h3,h4⟩:=h.x7 e;exact ⟨b,h1,h2,c_after hb h3,c_after hb h4⟩
 ·obtain ⟨b,h1,h2,h3,h4⟩:=h.x11 e;exact ⟨b,h1,h2,c_after hb h3,c_after hb h4⟩
theorem MG.each3 (h:MG w0 V cb mb ob pv av ev r q P A E g3 g4 g7 g8 g11 g12 g15 l3 l4 l7 l8 l11 l12 l15 l16 w) (hb:Below w.heap.size w w') {b:Nat} (hV:V.heap.size <= b) (h1:w'.cell? ⟨b,0,none⟩ = some pv) (h2:w'.cell? ⟨b + 1,0,none⟩ = some (.func (.func 31) #[] #[.pointer (some ⟨mb,0,none⟩)])) :
  MG w0 V cb mb ob pv av ev r q P A E (.func (.func 76) #[] #[.pointer (some ⟨b,0,none⟩),.pointer (some ⟨b + 1,0,none⟩)]) g4 g7 g8 g11 g12 g15 true l4 l7 l8 l11 l12 l15 l16 w':=by
 have h9:=h.step hb
 exact ⟨h9.be,h9.sz,h9.cr,h9.mr,h9.co,fun _=>⟨b,rfl,hV,h1,h2⟩,h9.x7,h9.x11,h9.o4,h9.o8,h9.o12,h9.s48,h9.s42,h9.s82,h9.bd⟩
theorem MG.each7 (h:MG w0 V cb mb ob pv av ev r q P A E g3 g4 g7 g8 g11 g12 g15 l3 l4 l7 l8 l11 l12 l15 l16 w) (hb:Below w.heap.size w w') {b:Nat} (hV:V.heap.size <= b) (h1:w'.cell? ⟨b,0,none⟩ = some av) (h2:w'.cell? ⟨b + 1,0,none⟩ = some (.func (.func 35) #[] #[])) :
  MG w0 V cb mb ob pv av ev r q P A E g3 g4 (.func (.func 76) #[] #[.pointer (some ⟨b,0,none⟩),.pointer (some ⟨b + 1,0,none⟩)]) g8 g11 g12 g15 l3 l4 true l8 l11 l12 l15 l16 w':=by
 have h9:=h.step hb
 exact ⟨h9.be,h9.sz,h9.cr,h9.mr,h9.co,h9.x3,fun _=>⟨b,rfl,hV,h1,h2⟩,h9.x11,h9.o4,h9.o8,h9.o12,h9.s48,h9.s42,h9.s82,h9.bd⟩
theorem MG.each11 (h:MG w0 V cb mb ob pv av ev r q P A E g3 g4 g7 g8 g11 g12 g15 l3 l4 l7 l8 l11 l12 l15 l16 w) (hb:Below w.heap.size w w') {b:Nat} (hV:V.heap.size <= b) (h1:w'.cell? ⟨b,0,none⟩ = some ev) (h2:w'.cell? ⟨b + 1,0,none⟩ = some (.func (.func 35) #[] #[])) :
  MG w0 V cb mb ob pv av ev r q P A E g3 g4 g7 g8 (.func (.func 76) #[] #[.pointer (some ⟨b,0,none⟩),.pointer (some ⟨b + 1,0,none⟩)]) g12 g15 l3 l4 l7 l8 true l12 l15 l16 w':=by
 have h9:=h.step hb
 exact ⟨h9.be,h9.sz,h9.cr,h9.mr,h9.co,h9.x3,h9.x7,fun _=>⟨b,rfl,hV,h1,h2⟩,h9.o4,h9.o8,h9.o12,h9.s48,h9.s42,h9.s82,h9.bd⟩
theorem MG.got4 (h:MG w0 V cb mb ob pv av ev r q P A E g3 g4 g7 g8 g11 g12 g15 l3 l4 l7 l8 l11 l12 l15 l16 w) (hb:Below w.heap.size w w') {u:Value} (hu:w'.ownsRow w.heap.size 23 3 u P.length (fl3 P)) (h15:l15 = false) (h16:l16 = false) :
  MG w0 V cb mb ob pv av ev r q P A E g3 u g7 g8 g11 g12 g15 l3 true l7 l8 l11 l12 l15 l16 w':=by
 have h9:=h.step hb
 refine ⟨h9.be,h9.sz,h9.cr,h9.mr,by have:=h9.co;rw [h16] at this ⊢;exact this,h9.x3,h9.x7,h9.x11,fun _=>own_le hu h.sz,h9.o8,h9.o12,fun _ e k e1 e2=>apart_new (b':=0) (h.o8 e) hu k e2 e1,fun _ e k e1 e2=>apart_new (b':=0) (h.o12 e) hu k e2 e1,h9.s82,fun e=>(by rw [h15] at e;cases e)⟩
theorem MG.got8 (h:MG w0 V cb mb ob pv av ev r q P A E g3 g4 g7 g8 g11 g12 g15 l3 l4 l7 l8 l11 l12 l15 l16 w) (hb:Below w.heap.size w w') {u:Value} (hu:w'.ownsRow w.heap.size 23 3 u A.length (fl3 A)) (h15:l15 = false) (h16:l16 = false) :
  MG w0 V cb mb ob pv av ev r q P A E g3 g4 g7 u g11 g12 g15 l3 l4 l7 true l11 l12 l15 l16 w':=by
 have h9:=h.step hb
 refine ⟨h9.be,h9.sz,h9.cr,h9.mr,by have:=h9.co;rw [h16] at this ⊢;exact this,h9.x3,h9.x7,h9.x11,h9.o4,fun _=>own_le hu h.sz,h9.o12,fun e _ k e1 e2=>apart_new (b':=0) (h.o4 e) hu k e1 e2,h9.s42,fun _ e k e1 e2=>apart_new (b':=0) (h.o12 e) hu k e2 e1,fun e=>(by rw [h15] at e;cases e)⟩
theorem MG.got12 (h:MG w0 V cb mb ob pv av ev r q P A E g3 g4 g7 g8 g11 g12 g15 l3 l4 l7 l8 l11 l12 l15 l16 w) (hb:Below w.heap.size w w') {u:Value} (hu:w'.ownsRow w.heap.size 23 3 u E.length (fl3 E)) (h15:l15 = false) (h16:l16 = false) :
  MG w0 V cb mb ob pv av ev r q P A E g3 g4 g7 g8 g11 u g15 l3 l4 l7 l8 l11 true l15 l16 w':=by
 have h9:=h.step hb
 refine ⟨h9.be,h9.sz,h9.cr,h9.mr,by have:=h9.co;rw [h16] at this ⊢;exact this,h9.x3,h9.x7,h9.x11,h9.o4,h9.o8,fun _=>own_le hu h.sz,h9.s48,fun e _ k e1 e2=>apart_new (b':=0) (h.o4 e) hu k e1 e2,fun e _ k e1 e2=>apart_new (b':=0) (h.o8 e) hu k e1 e2,fun e=>(by rw [h15] at e;cases e)⟩
theorem MG.built (h:MG w0 V cb mb ob pv av ev r q P A E g3 g4 g7 g8 g11 g12 g15 l3 l4 l7 l8 l11 l12 l15 l16 w):MG w0 V cb mb ob pv av ev r q P A E g3 g4 g7 g8 g11 g12 (.agg #[g4,g8,g12,.int .i64 r]) l3 l4 l7 l8 l11 l12 true l16 w:=
 ⟨h.be,h.sz,h.cr,h.mr,h.co,h.x3,h.x7,h.x11,h.o4,h.o8,h.o12,h.s48,h.s42,h.s82,fun _=>rfl⟩
theorem MG.fill (h:MG w0 V cb mb ob pv av ev r q P A E g3 g4 g7 g8 g11 g12 g15 l3 true l7 true l11 true l15 false w) (hob:w0.heap.size <= ob) (hoV:ob < V.heap.size) (h1:cb ≠ ob) (h2:mb ≠ ob) :
  MG w0 V cb mb ob pv av ev r q P A E g3 g4 g7 g8 g11 g12 g15 l3 true l7 true l11 true l15 true (set4 w ob g4 g8 g12 (.int .i64 r)):=by
 have hr:∀ {u:Value} {n:Nat} {xs:List Value},w.ownsRow V.heap.size 23 3 u n xs->u.ownBlock ≠ some ob:=fun h9 e=>by have:=(h9.lt ob e).1;omega
 have hx:∀ {b o:Nat} {v:Value},V.heap.size <= b->w.cell? ⟨b,o,none⟩ = some v->(set4 w ob g4 g8 g12 (.int .i64 r)).cell? ⟨b,o,none⟩ = some v:=by
  intro b o v hb hc
  have hne:b ≠ ob:=by omega
  have hk:(set4 w ob g4 g8 g12 (.int .i64 r)).heap[b]? = w.heap[b]?:=by
   unfold set4
   rw [Below.heap_setCell _ _ _ _ hne,Below.heap_setCell _ _ _ _ hne,Below.heap_setCell _ _ _ _ hne,Below.heap_setCell _ _ _ _ hne]
  exact (World.cell?_of_block (w:=w) (a:=⟨b,o,none⟩) hk).trans hc
 have h4:∀ {b:Nat} {vs:List Value},Cells w b vs->b ≠ ob->Cells (set4 w ob g4 g8 g12 (.int .i64 r)) b vs:=fun hc hne=>(((hc.apart hne 0 _).apart hne 1 _).apart hne 2 _).apart hne 3 _
 refine ⟨set4_below h.be hob _ _ _ _,by rw [set4_size];exact h.sz,h4 h.cr h1,h4 h.mr h2,Cells.set4 h.co _ _ _ _,fun e=>?_,fun e=>?_,fun e=>?_,fun _=>own_set4 (h.o4 rfl) (hr (h.o4 rfl)) _ _ _ _,fun _=>own_set4 (h.o8 rfl) (hr (h.o8 rfl)) _ _ _ _,fun _=>own_set4 (h.o12 rfl) (hr (h.o12 rfl)) _ _ _ _,h.s48,h.s42,h.s82,h.bd⟩
 ·obtain ⟨b,e1,e2,e3,e4⟩:=h.x3 e;exact ⟨b,e1,e2,hx e2 e3,hx (by omega) e4⟩
 ·obtain ⟨b,e1,e2,e3,e4⟩:=h.x7 e;exact ⟨b,e1,e2,hx e2 e3,hx (by omega) e4⟩
 ·obtain ⟨b,e1,e2,e3,e4⟩:=h.x11 e;exact ⟨b,e1,e2,hx e2 e3,hx (by omega) e4⟩
end
theorem moved_any (q:Pt) (Ps As Es:List Pt) (r:Int) (pv av ev:Value) (w0:World) (hp:Lies w0 pv Ps) (ha:Lies w0 av As) (he:Lies w0 ev Es) (hNPs:Ps.length < 1099511627776) (hNAs:As.length < 1099511627776) (hNEs:Es.length < 1099511627776) :
  Calls Tryz.prog 13 #[coreV pv av ev r,q.v] w0 fun e W=>∃ vp va ve,e = .returned (.agg #[vp,va,ve,.int .i64 r])/\Three w0 W vp va ve (Ps.map (fun p=>p.plus q)) As Es:=by
 obtain ⟨Px2,hPx⟩:∃ X,Ps.map (fun p=>p.plus q) = X:=⟨_,rfl⟩
 rw [hPx]
 have HPx:Hid _:=hPx
 clear hPx
 obtain ⟨opv,cpv,rfl,_⟩:=hp.form
 obtain ⟨oav,cav,rfl,_⟩:=ha.form
 obtain ⟨oev,cev,rfl,_⟩:=he.form
 have HLP:Hid _:=hp
 have HLA:Hid _:=ha
 have HLE:Hid _:=he
 clear hp ha he
 unfold coreV Pt.v
 go_enter Tryz.func13,Tryz.ntmps13
 go_upto_region 2 with fail
 obtain ⟨V,hV⟩:∃ V:World,V = ((w0.alloc (.cells #[.slice opv Ps.length cpv,.slice oav As.length cav,.slice oev Es.length cev,.int .i64 r] 36)).alloc (.cells #[.int .i64 q.x,.int .i64 q.y,.int .i64 q.z] 23)).alloc (.cells #[.slice none 0 0,.slice none 0 0,.slice none 0 0,.int .i64 0] 36):=⟨_,rfl⟩
 obtain ⟨cb,hcb⟩:∃ b,b = w0.heap.size:=⟨_,rfl⟩
 obtain ⟨mb,hmb⟩:∃ b,b = w0.heap.size + 1:=⟨_,rfl⟩
 obtain ⟨ob,hob'⟩:∃ b,b = w0.heap.size + 1 + 1:=⟨_,rfl⟩
 have hBV:Hid (Below w0.heap.size w0 V):=by show Below _ _ _;rw [hV];exact b_step (b_step (n_after _ _) (n_after _ _)) (n_after _ _)
 have B1:Hid (Cells V cb [.slice opv Ps.length cpv,.slice oav As.length cav,.slice oev Es.length cev,.int .i64 r]):=by show Cells _ _ _;rw [hV,hcb];exact ((Cells.new w0 _ _).step (n_after _ _)).step (n_after _ _)
 have B2:Hid (Cells V mb [.int .i64 q.x,.int .i64 q.y,.int .i64 q.z]):=by show Cells _ _ _;rw [hV,hmb];have h9:=(Cells.new (w0.alloc (.cells #[.slice opv Ps.length cpv,.slice oav As.length cav,.slice oev Es.length cev,.int .i64 r] 36)) [.int .i64 q.x,.int .i64 q.y,.int .i64 q.z] 23).step (n_after _ (.cells #[.slice none 0 0,.slice none 0 0,.slice none 0 0,.int .i64 0] 36));rw [World.size_alloc] at h9;exact h9
 have B3:Hid (Cells V ob [.slice none 0 0,.slice none 0 0,.slice none 0 0,.int .i64 0]):=by show Cells _ _ _;rw [hV,hob'];have h9:=Cells.new ((w0.alloc (.cells #[.slice opv Ps.length cpv,.slice oav As.length cav,.slice oev Es.length cev,.int .i64 r] 36)).alloc (.cells #[.int .i64 q.x,.int .i64 q.y,.int .i64 q.z] 23)) [.slice none 0 0,.slice none 0 0,.slice none 0 0,.int .i64 0] 36;rw [World.size_alloc,World.size_alloc] at h9;exact h9
 have hVs:V.heap.size = w0.heap.size + 3:=by rw [hV];simp
 rw [<- hV,<- hob',<- hmb,<- hcb]
 have hwV:w0.heap.size <= V.heap.size:=by omega
 have hob:w0.heap.size <= ob:=by omega
 have hoV:ob < V.heap.size:=by omega
 have hco:cb ≠ ob:=by omega
 have hmo:mb ≠ ob:=by omega
 clear hV hcb hmb hob' hVs
 refine RV.rs [.some (.pointer (some ⟨cb,0,none⟩)),.some (.slice opv Ps.length cpv),.some (.func (.func 31) #[] #[.pointer (some ⟨mb,0,none⟩)]),none,none,.some (.pointer (some ⟨cb,1,none⟩)),.some (.slice oav As.length cav),none,none,.some (.pointer (some ⟨cb,2,none⟩)),.some (.slice oev Es.length cev),none,none,.some (.pointer (some ⟨cb,3,none⟩)),.some (.int .i64 r),none,none] [8,9,10,11,12,13,14,15,16,17,18,19,20,21,22,23,0] [(2,.pointer (some ⟨cb,0,none⟩)),(4,.pointer (some ⟨ob,0,none⟩)),(5,.func (.func 31) #[] #[.pointer (some ⟨mb,0,none⟩)])] (fun γ L w=>MG w0 V cb mb ob (.slice opv Ps.length cpv) (.slice oav As.length cav) (.slice oev Es.length cev) r q Px2 As Es (γ 3) (γ 4) (γ 7) (γ 8) (γ 11) (γ 12) (γ 15) (L 3) (L 4) (L 7) (L 8) (L 11) (L 12) (L 15) (L 16) w) ⟨rfl,rfl,rfl,trivial⟩ ?_ ?_ ?_
 ·have b9:Below V.heap.size V V.drew:=(Below.refl _ _).drew;exact MG.step (w:=V) ⟨hBV.out,Nat.le_refl _,B1.out,B2.out,B3.out,(fun e=>by cases e),(fun e=>by cases e),(fun e=>by cases e),(fun e=>by cases e),(fun e=>by cases e),(fun e=>by cases e),(fun e=>by cases e),(fun e=>by cases e),(fun e=>by cases e),(fun e=>by cases e)⟩ b9
 ·intro D WA Z hD hWA hZ T
  simp only [RV.Outs,RV.Slots,Nat.reduceAdd] at T
  iterate 3 first
   | (refine RV.cc _ (RV.pu T (fun γ v L w hl h=>by rw [RV.upd_ne γ (i:=_) (j:=3) _ (by decide),RV.upd_ne γ (i:=_) (j:=4) _ (by decide),RV.upd_ne γ (i:=_) (j:=7) _ (by decide),RV.upd_ne γ (i:=_) (j:=8) _ (by decide),RV.upd_ne γ (i:=_) (j:=11) _ (by decide),RV.upd_ne γ (i:=_) (j:=12) _ (by decide),RV.upd_ne γ (i:=_) (j:=15) _ (by decide),RV.mn (L:=L) (i:=_) (j:=3) (by decide),RV.mn (L:=L) (i:=_) (j:=4) (by decide),RV.mn (L:=L) (i:=_) (j:=7) (by decide),RV.mn (L:=L) (i:=_) (j:=8) (by decide),RV.mn (L:=L) (i:=_) (j:=11) (by decide),RV.mn (L:=L) (i:=_) (j:=12) (by decide),RV.mn (L:=L) (i:=_) (j:=15) (by decide),RV.mn (L:=L) (i:=_) (j:=16) (by decide)];exact h) (fun γ L a w hH hl h9 k9=>⟨_,?_,rfl⟩)) ?_;· simp [execOp,go_sem,h9])
   | (refine RV.cc _ (RV.pu T (fun γ v L w hl h=>by rw [RV.upd_ne γ (i:=_) (j:=3) _ (by decide),RV.upd_ne γ (i:=_) (j:=4) _ (by decide),RV.upd_ne γ (i:=_) (j:=7) _ (by decide),RV.upd_ne γ (i:=_) (j:=8) _ (by decide),RV.upd_ne γ (i:=_) (j:=11) _ (by decide),RV.upd_ne γ (i:=_) (j:=12) _ (by decide),RV.upd_ne γ (i:=_) (j:=15) _ (by decide),RV.mn (L:=L) (i:=_) (j:=3) (by decide),RV.mn (L:=L) (i:=_) (j:=4) (by decide),RV.mn (L:=L) (i:=_) (j:=7) (by decide),RV.mn (L:=L) (i:=_) (j:=8) (by decide),RV.mn (L:=L) (i:=_) (j:=11) (by decide),RV.mn (L:=L) (i:=_) (j:=12) (by decide),RV.mn (L:=L) (i:=_) (j:=15) (by decide),RV.mn (L:=L) (i:=_) (j:=16) (by decide)];exact h) (fun γ L a w hH hl h9 k9=>⟨_,?_,rfl⟩)) ?_;· have wz9:=(hH.glob.cr 0 _ rfl).1;simp [Region.binds] at k9;simp [execOp,go_sem,h9,k9,wz9])
  refine RV.cc _ (RV.dc (fun γ L a w hH hl hA=>by have h9:=T γ L a w hH;have k9:=hA;simp [Region.binds] at k9;refine ⟨34,#[.slice opv Ps.length cpv,.func (.func 31) #[] #[.pointer (some ⟨mb,0,none⟩)]],by simp [go_sem,h9,k9],Calls.mono (each_in_pt _ _ _ _ _ _ w) ?_⟩;rintro e w2 ⟨rfl,rfl⟩;have b9:=b_step (n_after w (.cells #[.slice opv Ps.length cpv] 24)) (n_after _ (.cells #[.func (.func 31) #[] #[.pointer (some ⟨mb,0,none⟩)]] 79));refine ⟨_,rfl,trivial,fun j v _ h=>h.keep _,?_⟩;rw [RV.upd_ne γ (i:=3) (j:=4) _ (by decide),RV.upd_ne γ (i:=3) (j:=7) _ (by decide),RV.upd_ne γ (i:=3) (j:=8) _ (by decide),RV.upd_ne γ (i:=3) (j:=11) _ (by decide),RV.upd_ne γ (i:=3) (j:=12) _ (by decide),RV.upd_ne γ (i:=3) (j:=15) _ (by decide),RV.mn (L:=L) (i:=3) (j:=4) (by decide),RV.mn (L:=L) (i:=3) (j:=7) (by decide),RV.mn (L:=L) (i:=3) (j:=8) (by decide),RV.mn (L:=L) (i:=3) (j:=11) (by decide),RV.mn (L:=L) (i:=3) (j:=12) (by decide),RV.mn (L:=L) (i:=3) (j:=15) (by decide),RV.mn (L:=L) (i:=3) (j:=16) (by decide),RV.upd_self,RV.more_self];exact hH.glob.each3 b9 hH.glob.sz (by simp [go_sem]) (by simp [go_sem]))) ?_
  refine RV.cc _ (RV.dc (fun γ L a w hH hl hA=>by have l0:L 3 = true:=hA ⟨3,.data⟩ (by simp) rfl;have e0:=hH.slot 3 10 (by rw [<- hD];rfl) l0;have h15:L 15 = false:=RV.ny hH (RV.wt (j:=15) (i:=4) hWA (by kernel_rfl)) hl;have h16:L 16 = false:=RV.ny hH (RV.wt (j:=16) (i:=15) hWA (by kernel_rfl)) h15;have hG:=hH.glob;obtain ⟨b,hv0,hbV,cp0,cf0⟩:=hG.x3 l0;rw [hv0] at e0;refine ⟨33,#[.func (.func 76) #[] #[.pointer (some ⟨b,0,none⟩),.pointer (some ⟨b + 1,0,none⟩)]],by simp [go_sem,e0],Calls.mono (gather_plain 31 b #[.pointer (some ⟨mb,0,none⟩)] (fun p=>p.plus q) Ps opv cpv w (fun X=>Cells X mb [.int .i64 q.x,.int .i64 q.y,.int .i64 q.z]) hG.mr (fun A B r2 hs hg hr=>Cells.grew hs hg (fun r e=>by have h8:=hr r e;have h7:=hG.mr.lt;omega)) (fun A B hs hk=>Cells.keepO hs hk hG.mr.lt) (HLP.out.below hG.be) (enters_of Tryz.func31 (by kernel_rfl) rfl) (fun p X hs=>move1_any p q mb X hs) cp0 cf0 hNPs) ?_⟩;rintro e w2 ⟨u,rfl,o9,g9⟩;rw [HPx.out] at o9;refine ⟨_,rfl,trivial,fun j v _ h=>h.keep _,?_⟩;rw [RV.upd_ne γ (i:=4) (j:=3) _ (by decide),RV.upd_ne γ (i:=4) (j:=7) _ (by decide),RV.upd_ne γ (i:=4) (j:=8) _ (by decide),RV.upd_ne γ (i:=4) (j:=11) _ (by decide),RV.upd_ne γ (i:=4) (j:=12) _ (by decide),RV.upd_ne γ (i:=4) (j:=15) _ (by decide),RV.mn (L:=L) (i:=4) (j:=3) (by decide),RV.mn (L:=L) (i:=4) (j:=7) (by decide),RV.mn (L:=L) (i:=4) (j:=8) (by decide),RV.mn (L:=L) (i:=4) (j:=11) (by decide),RV.mn (L:=L) (i:=4) (j:=12) (by decide),RV.mn (L:=L) (i:=4) (j:=15) (by decide),RV.mn (L:=L) (i:=4) (j:=16) (by decide),RV.upd_self,RV.more_self];exact hG.got4 g9 o9 h15 h16)) ?_
  iterate 2 first
   | (refine RV.cc _ (RV.pu T (fun γ v L w hl h=>by rw [RV.upd_ne γ (i:=_) (j:=3) _ (by decide),RV.upd_ne γ (i:=_) (j:=4) _ (by decide),RV.upd_ne γ (i:=_) (j:=7) _ (by decide),RV.upd_ne γ (i:=_) (j:=8) _ (by decide),RV.upd_ne γ (i:=_) (j:=11) _ (by decide),RV.upd_ne γ (i:=_) (j:=12) _ (by decide),RV.upd_ne γ (i:=_) (j:=15) _ (by decide),RV.mn (L:=L) (i:=_) (j:=3) (by decide),RV.mn (L:=L) (i:=_) (j:=4) (by decide),RV.mn (L:=L) (i:=_) (j:=7) (by decide),RV.mn (L:=L) (i:=_) (j:=8) (by decide),RV.mn (L:=L) (i:=_) (j:=11) (by decide),RV.mn (L:=L) (i:=_) (j:=12) (by decide),RV.mn (L:=L) (i:=_) (j:=15) (by decide),RV.mn (L:=L) (i:=_) (j:=16) (by decide)];exact h) (fun γ L a w hH hl h9 k9=>⟨_,?_,rfl⟩)) ?_;· simp [execOp,go_sem,h9])
   | (refine RV.cc _ (RV.pu T (fun γ v L w hl h=>by rw [RV.upd_ne γ (i:=_) (j:=3) _ (by decide),RV.upd_ne γ (i:=_) (j:=4) _ (by decide),RV.upd_ne γ (i:=_) (j:=7) _ (by decide),RV.upd_ne γ (i:=_) (j:=8) _ (by decide),RV.upd_ne γ (i:=_) (j:=11) _ (by decide),RV.upd_ne γ (i:=_) (j:=12) _ (by decide),RV.upd_ne γ (i:=_) (j:=15) _ (by decide),RV.mn (L:=L) (i:=_) (j:=3) (by decide),RV.mn (L:=L) (i:=_) (j:=4) (by decide),RV.mn (L:=L) (i:=_) (j:=7) (by decide),RV.mn (L:=L) (i:=_) (j:=8) (by decide),RV.mn (L:=L) (i:=_) (j:=11) (by decide),RV.mn (L:=L) (i:=_) (j:=12) (by decide),RV.mn (L:=L) (i:=_) (j:=15) (by decide),RV.mn (L:=L) (i:=_) (j:=16) (by decide)];exact h) (fun γ L a w hH hl h9 k9=>⟨_,?_,rfl⟩)) ?_;· have wz9:=(hH.glob.cr 1 _ rfl).1;simp [Region.binds] at k9;simp [execOp,go_sem,h9,k9,wz9])
  refine RV.cc _ (RV.dc (fun γ L a w hH hl hA=>by have h9:=T γ L a w hH;have k9:=hA;simp [Region.binds] at k9;refine ⟨34,#[.slice oav As.length cav,.func (.func 35) #[] #[]],by simp [go_sem,h9,k9],Calls.mono (each_in_pt _ _ _ _ _ _ w) ?_⟩;rintro e w2 ⟨rfl,rfl⟩;have b9:=b_step (n_after w (.cells #[.slice oav As.length cav] 24)) (n_after _ (.cells #[.func (.func 35) #[] #[]] 79));refine ⟨_,rfl,trivial,fun j v _ h=>h.keep _,?_⟩;rw [RV.upd_ne γ (i:=7) (j:=3) _ (by decide),RV.upd_ne γ (i:=7) (j:=4) _ (by decide),RV.upd_ne γ (i:=7) (j:=8) _ (by decide),RV.upd_ne γ (i:=7) (j:=11) _ (by decide),RV.upd_ne γ (i:=7) (j:=12) _ (by decide),RV.upd_ne γ (i:=7) (j:=15) _ (by decide),RV.mn (L:=L) (i:=7) (j:=3) (by decide),RV.mn (L:=L) (i:=7) (j:=4) (by decide),RV.mn (L:=L) (i:=7) (j:=8) (by decide),RV.mn (L:=L) (i:=7) (j:=11) (by decide),RV.mn (L:=L) (i:=7) (j:=12) (by decide),RV.mn (L:=L) (i:=7) (j:=15) (by decide),RV.mn (L:=L) (i:=7) (j:=16) (by decide),RV.upd_self,RV.more_self];exact hH.glob.each7 b9 hH.glob.sz (by simp [go_sem]) (by simp [go_sem]))) ?_
  refine RV.cc _ (RV.dc (fun γ L a w hH hl hA=>by have l0:L 7 = true:=hA ⟨7,.data⟩ (by simp) rfl;have e0:=hH.slot 7 14 (by rw [<- hD];rfl) l0;have h15:L 15 = false:=RV.ny hH (RV.wt (j:=15) (i:=8) hWA (by kernel_rfl)) hl;have h16:L 16 = false:=RV.ny hH (RV.wt (j:=16) (i:=15) hWA (by kernel_rfl)) h15;have hG:=hH.glob;obtain ⟨b,hv0,hbV,cp0,cf0⟩:=hG.x7 l0;rw [hv0] at e0;refine ⟨33,#[.func (.func 76) #[] #[.pointer (some ⟨b,0,none⟩),.pointer (some ⟨b + 1,0,none⟩)]],by simp [go_sem,e0],Calls.mono (gather_plain 35 b #[] (fun p=>p) As oav cav w (fun _=>True) trivial (fun _ _ _ _ _ _=>trivial) (fun _ _ _ _=>trivial) (HLA.out.below hG.be) (enters_of Tryz.func35 (by kernel_rfl) rfl) (fun p X hs=>same_any p X) cp0 cf0 hNAs) ?_⟩;rintro e w2 ⟨u,rfl,o9,g9⟩;rw [List.map_id'] at o9;refine ⟨_,rfl,trivial,fun j v _ h=>h.keep _,?_⟩;rw [RV.upd_ne γ (i:=8) (j:=3) _ (by decide),RV.upd_ne γ (i:=8) (j:=4) _ (by decide),RV.upd_ne γ (i:=8) (j:=7) _ (by decide),RV.upd_ne γ (i:=8) (j:=11) _ (by decide),RV.upd_ne γ (i:=8) (j:=12) _ (by decide),RV.upd_ne γ (i:=8) (j:=15) _ (by decide),RV.mn (L:=L) (i:=8) (j:=3) (by decide),RV.mn (L:=L) (i:=8) (j:=4) (by decide),RV.mn (L:=L) (i:=8) (j:=7) (by decide),RV.mn (L:=L) (i:=8) (j:=11) (by decide),RV.mn (L:=L) (i:=8) (j:=12) (by decide),RV.mn (L:=L) (i:=8) (j:=15) (by decide),RV.mn (L:=L) (i:=8) (j:=16) (by decide),RV.upd_self,RV.more_self];exact hG.got8 g9 o9 h15 h16)) ?_
  iterate 2 first
   | (refine RV.cc _ (RV.pu T (fun γ v L w hl h=>by rw [RV.upd_ne γ (i:=_) (j:=3) _ (by decide),RV.upd_ne γ (i:=_) (j:=4) _ (by decide),RV.upd_ne γ (i:=_) (j:=7) _ (by decide),RV.upd_ne γ (i:=_) (j:=8) _ (by decide),RV.upd_ne γ (i:=_) (j:=11) _ (by decide),RV.upd_ne γ (i:=_) (j:=12) _ (by decide),RV.upd_ne γ (i:=_) (j:=15) _ (by decide),RV.mn (L:=L) (i:=_) (j:=3) (by decide),RV.mn (L:=L) (i:=_) (j:=4) (by decide),RV.mn (L:=L) (i:=_) (j:=7) (by decide),RV.mn (L:=L) (i:=_) (j:=8) (by decide),RV.mn (L:=L) (i:=_) (j:=11) (by decide),RV.mn (L:=L) (i:=_) (j:=12) (by decide),RV.mn (L:=L) (i:=_) (j:=15) (by decide),RV.mn (L:=L) (i:=_) (j:=16) (by decide)];exact h) (fun γ L a w hH hl h9 k9=>⟨_,?_,rfl⟩)) ?_;· simp [execOp,go_sem,h9])
   | (refine RV.cc _ (RV.pu T (fun γ v L w hl h=>by rw [RV.upd_ne γ (i:=_) (j:=3) _ (by decide),RV.upd_ne γ (i:=_) (j:=4) _ (by decide),RV.upd_ne γ (i:=_) (j:=7) _ (by decide),RV.upd_ne γ (i:=_) (j:=8) _ (by decide),RV.upd_ne γ (i:=_) (j:=11) _ (by decide),RV.upd_ne γ (i:=_) (j:=12) _ (by decide),RV.upd_ne γ (i:=_) (j:=15) _ (by decide),RV.mn (L:=L) (i:=_) (j:=3) (by decide),RV.mn (L:=L) (i:=_) (j:=4) (by decide),RV.mn (L:=L) (i:=_) (j:=7) (by decide),RV.mn (L:=L) (i:=_) (j:=8) (by decide),RV.mn (L:=L) (i:=_) (j:=11) (by decide),RV.mn (L:=L) (i:=_) (j:=12) (by decide),RV.mn (L:=L) (i:=_) (j:=15) (by decide),RV.mn (L:=L) (i:=_) (j:=16) (by decide)];exact h) (fun γ L a w hH hl h9 k9=>⟨_,?_,rfl⟩)) ?_;· have wz9:=(hH.glob.cr 2 _ rfl).1;simp [Region.binds] at k9;simp [execOp,go_sem,h9,k9,wz9])
  refine RV.cc _ (RV.dc (fun γ L a w hH hl hA=>by have h9:=T γ L a w hH;have k9:=hA;simp [Region.binds] at k9;refine ⟨34,#[.slice oev Es.length cev,.func (.func 35) #[] #[]],by simp [go_sem,h9,k9],Calls.mono (each_in_pt _ _ _ _ _ _ w) ?_⟩;rintro e w2 ⟨rfl,rfl⟩;have b9:=b_step (n_after w (.cells #[.slice oev Es.length cev] 24)) (n_after _ (.cells #[.func (.func 35) #[] #[]] 79));refine ⟨_,rfl,trivial,fun j v _ h=>h.keep _,?_⟩;rw [RV.upd_ne γ (i:=11) (j:=3) _ (by decide),RV.upd_ne γ (i:=11) (j:=4) _ (by decide),RV.upd_ne γ (i:=11) (j:=7) _ (by decide),RV.upd_ne γ (i:=11) (j:=8) _ (by decide),RV.upd_ne γ (i:=11) (j:=12) _ (by decide),RV.upd_ne γ (i:=11) (j:=15) _ (by decide),RV.mn (L:=L) (i:=11) (j:=3) (by decide),RV.mn (L:=L) (i:=11) (j:=4) (by decide),RV.mn (L:=L) (i:=11) (j:=7) (by decide),RV.mn (L:=L) (i:=11) (j:=8) (by decide),RV.mn (L:=L) (i:=11) (j:=12) (by decide),RV.mn (L:=L) (i:=11) (j:=15) (by decide),RV.mn (L:=L) (i:=11) (j:=16) (by decide),RV.upd_self,RV.more_self];exact hH.glob.each11 b9 hH.glob.sz (by simp [go_sem]) (by simp [go_sem]))) ?_
  refine RV.cc _ (RV.dc (fun γ L a w hH hl hA=>by have l0:L 11 = true:=hA ⟨11,.data⟩ (by simp) rfl;have e0:=hH.slot 11 18 (by rw [<- hD];rfl) l0;have h15:L 15 = false:=RV.ny hH (RV.wt (j:=15) (i:=12) hWA (by kernel_rfl)) hl;have h16:L 16 = false:=RV.ny hH (RV.wt (j:=16) (i:=15) hWA (by kernel_rfl)) h15;have hG:=hH.glob;obtain ⟨b,hv0,hbV,cp0,cf0⟩:=hG.x11 l0;rw [hv0] at e0;refine ⟨33,#[.func (.func 76) #[] #[.pointer (some ⟨b,0,none⟩),.pointer (some ⟨b + 1,0,none⟩)]],by simp [go_sem,e0],Calls.mono (gather_plain 35 b #[] (fun p=>p) Es oev cev w (fun _=>True) trivial (fun _ _ _ _ _ _=>trivial) (fun _ _ _ _=>trivial) (HLE.out.below hG.be) (enters_of Tryz.func35 (by kernel_rfl) rfl) (fun p X hs=>same_any p X) cp0 cf0 hNEs) ?_⟩;rintro e w2 ⟨u,rfl,o9,g9⟩;rw [List.map_id'] at o9;refine ⟨_,rfl,trivial,fun j v _ h=>h.keep _,?_⟩;rw [RV.upd_ne γ (i:=12) (j:=3) _ (by decide),RV.upd_ne γ (i:=12) (j:=4) _ (by decide),RV.upd_ne γ (i:=12) (j:=7) _ (by decide),RV.upd_ne γ (i:=12) (j:=8) _ (by decide),RV.upd_ne γ (i:=12) (j:=11) _ (by decide),RV.upd_ne γ (i:=12) (j:=15) _ (by decide),RV.mn (L:=L) (i:=12) (j:=3) (by decide),RV.mn (L:=L) (i:=12) (j:=4) (by decide),RV.mn (L:=L) (i:=12) (j:=7) (by decide),RV.mn (L:=L) (i:=12) (j:=8) (by decide),RV.mn (L:=L) (i:=12) (j:=11) (by decide),RV.mn (L:=L) (i:=12) (j:=15) (by decide),RV.mn (L:=L) (i:=12) (j:=16) (by decide),RV.upd_self,RV.more_self];exact hG.got12 g9 o9 h15 h16)) ?_
  iterate 2 first
   | (refine RV.cc _ (RV.pu T (fun γ v L w hl h=>by rw [RV.upd_ne γ (i:=_) (j:=3) _ (by decide),RV.upd_ne γ (i:=_) (j:=4) _ (by decide),RV.upd_ne γ (i:=_) (j:=7) _ (by decide),RV.upd_ne γ (i:=_) (j:=8) _ (by decide),RV.upd_ne γ (i:=_) (j:=11) _ (by decide),RV.upd_ne γ (i:=_) (j:=12) _ (by decide),RV.upd_ne γ (i:=_) (j:=15) _ (by decide),RV.mn (L:=L) (i:=_) (j:=3) (by decide),RV.mn (L:=L) (i:=_) (j:=4) (by decide),RV.mn (L:=L) (i:=_) (j:=7) (by decide),RV.mn (L:=L) (i:=_) (j:=8) (by decide),RV.mn (L:=L) (i:=_) (j:=11) (by decide),RV.mn (L:=L) (i:=_) (j:=12) (by decide),RV.mn (L:=L) (i:=_) (j:=15) (by decide),RV.mn (L:=L) (i:=_) (j:=16) (by decide)];exact h) (fun γ L a w hH hl h9 k9=>⟨_,?_,rfl⟩)) ?_;· simp [execOp,go_sem,h9])
   | (refine RV.cc _ (RV.pu T (fun γ v L w hl h=>by rw [RV.upd_ne γ (i:=_) (j:=3) _ (by decide),RV.upd_ne γ (i:=_) (j:=4) _ (by decide),RV.upd_ne γ (i:=_) (j:=7) _ (by decide),RV.upd_ne γ (i:=_) (j:=8) _ (by decide),RV.upd_ne γ (i:=_) (j:=11) _ (by decide),RV.upd_ne γ (i:=_) (j:=12) _ (by decide),RV.upd_ne γ (i:=_) (j:=15) _ (by decide),RV.mn (L:=L) (i:=_) (j:=3) (by decide),RV.mn (L:=L) (i:=_) (j:=4) (by decide),RV.mn (L:=L) (i:=_) (j:=7) (by decide),RV.mn (L:=L) (i:=_) (j:=8) (by decide),RV.mn (L:=L) (i:=_) (j:=11) (by decide),RV.mn (L:=L) (i:=_) (j:=12) (by decide),RV.mn (L:=L) (i:=_) (j:=15) (by decide),RV.mn (L:=L) (i:=_) (j:=16) (by decide)];exact h) (fun γ L a w hH hl h9 k9=>⟨_,?_,rfl⟩)) ?_;· have wz9:=(hH.glob.cr 3 _ rfl).1;simp [Region.binds] at k9;simp [execOp,go_sem,h9,k9,wz9])
  refine RV.cc _ (RV.does_step (fun γ L a w hH hl hA=>by have h9:=T γ L a w hH;have k9:=hA;simp [Region.binds] at k9;have l0:L 4 = true:=hA ⟨4,.data⟩ (by simp) rfl;have l1:L 8 = true:=hA ⟨8,.data⟩ (by simp) rfl;have l2:L 12 = true:=hA ⟨12,.data⟩ (by simp) rfl;have e0:=hH.slot 4 11 (by rw [<- hD];rfl) l0;have e1:=hH.slot 8 15 (by rw [<- hD];rfl) l1;have e2:=hH.slot 12 19 (by rw [<- hD];rfl) l2;obtain ⟨o5_,c5_,s5_⟩:=rowp_form (hH.glob.o4 l0);obtain ⟨o9_,c9_,s9_⟩:=rowp_form (hH.glob.o8 l1);obtain ⟨o13_,c13_,s13_⟩:=rowp_form (hH.glob.o12 l2);rw [s5_] at e0;rw [s9_] at e1;rw [s13_] at e2;exact ⟨.agg #[γ 4,γ 8,γ 12,.int .i64 r],w,by rw [s5_,s9_,s13_];simp [execOp,go_sem,e0,e1,e2,h9,k9],trivial,fun j v _ h=>h.keep _,by rw [RV.upd_ne γ (i:=15) (j:=3) _ (by decide),RV.upd_ne γ (i:=15) (j:=4) _ (by decide),RV.upd_ne γ (i:=15) (j:=7) _ (by decide),RV.upd_ne γ (i:=15) (j:=8) _ (by decide),RV.upd_ne γ (i:=15) (j:=11) _ (by decide),RV.upd_ne γ (i:=15) (j:=12) _ (by decide),RV.mn (L:=L) (i:=15) (j:=3) (by decide),RV.mn (L:=L) (i:=15) (j:=4) (by decide),RV.mn (L:=L) (i:=15) (j:=7) (by decide),RV.mn (L:=L) (i:=15) (j:=8) (by decide),RV.mn (L:=L) (i:=15) (j:=11) (by decide),RV.mn (L:=L) (i:=15) (j:=12) (by decide),RV.mn (L:=L) (i:=15) (j:=16) (by decide),RV.upd_self,RV.more_self];exact hH.glob.built⟩)) ?_
  refine RV.cc _ (RV.does_store (fun γ L a w hH hl hA=>by have h9:=T γ L a w hH;have l1:L 15 = true:=hA ⟨15,.data⟩ (by simp) rfl;have e1:=hH.slot 15 22 (by rw [<- hD];rfl) l1;have m4:L 4 = true:=hH.closed 15 4 (RV.wt (j:=15) (i:=4) hWA (by kernel_rfl)) l1;have m8:L 8 = true:=hH.closed 15 8 (RV.wt (j:=15) (i:=8) hWA (by kernel_rfl)) l1;have m12:L 12 = true:=hH.closed 15 12 (RV.wt (j:=15) (i:=12) hWA (by kernel_rfl)) l1;obtain ⟨o5_,c5_,s5_⟩:=rowp_form (hH.glob.o4 m4);obtain ⟨o9_,c9_,s9_⟩:=rowp_form (hH.glob.o8 m8);obtain ⟨o13_,c13_,s13_⟩:=rowp_form (hH.glob.o12 m12);have hG:=hH.glob;rw [m4,m8,m12,hl] at hG;have xb:=hG.bd l1;rw [xb,s5_,s9_,s13_] at e1;have q9:=hG.fill hob hoV hco hmo;obtain ⟨wz0,wf0⟩:=hG.co 0 _ rfl;obtain ⟨wz1,wf1⟩:=hG.co 1 _ rfl;obtain ⟨wz2,wf2⟩:=hG.co 2 _ rfl;obtain ⟨wz3,wf3⟩:=hG.co 3 _ rfl;refine ⟨set4 w ob (γ 4) (γ 8) (γ 12) (.int .i64 r),by rw [s5_,s9_,s13_];simp [execOp,go_sem,e1,set4,wz0,wz1,wz2,wz3,wf0,wf1,wf2,wf3,h9],trivial,fun j v _ h=>h.keep _,?_⟩;rw [RV.upd_ne γ (i:=16) (j:=3) _ (by decide),RV.upd_ne γ (i:=16) (j:=4) _ (by decide),RV.upd_ne γ (i:=16) (j:=7) _ (by decide),RV.upd_ne γ (i:=16) (j:=8) _ (by decide),RV.upd_ne γ (i:=16) (j:=11) _ (by decide),RV.upd_ne γ (i:=16) (j:=12) _ (by decide),RV.upd_ne γ (i:=16) (j:=15) _ (by decide),RV.mn (L:=L) (i:=16) (j:=3) (by decide),RV.mn (L:=L) (i:=16) (j:=4) (by decide),RV.mn (L:=L) (i:=16) (j:=7) (by decide),RV.mn (L:=L) (i:=16) (j:=8) (by decide),RV.mn (L:=L) (i:=16) (j:=11) (by decide),RV.mn (L:=L) (i:=16) (j:=12) (by decide),RV.mn (L:=L) (i:=16) (j:=15) (by decide),RV.more_self,m4,m8,m12];exact q9)) ?_
  exact RV.AllDo.nil
 ·intro γ w5 L9 hL hI9 hG9
  have hG:=hG9
  rw [hL 3 (by decide),hL 4 (by decide),hL 7 (by decide),hL 8 (by decide),hL 11 (by decide),hL 12 (by decide),hL 15 (by decide),hL 16 (by decide)] at hG
  clear hL hI9 hG9
  simp only [RV.putL,Act.put,List.setIfInBounds_toArray,List.set_cons_zero,List.set_cons_succ,Nat.reduceAdd]
  obtain ⟨o5_,c5_,s5_⟩:=rowp_form (hG.o4 rfl)
  obtain ⟨o9_,c9_,s9_⟩:=rowp_form (hG.o8 rfl)
  obtain ⟨o13_,c13_,s13_⟩:=rowp_form (hG.o12 rfl)
  have T3:Hid (Three w0 w5 (γ 4) (γ 8) (γ 12) Px2 As Es):=⟨own_le (hG.o4 rfl) hwV,own_le (hG.o8 rfl) hwV,own_le (hG.o12 rfl) hwV,hG.s48 rfl rfl,hG.s42 rfl rfl,hG.s82 rfl rfl,hG.be⟩
  have C9:Hid (Cells w5 ob [γ 4,γ 8,γ 12,.int .i64 r]):=hG.co
  rw [s5_,s9_,s13_] at C9 T3
  clear hG s5_ s9_ s13_
  have k0:=(C9.out 0 _ rfl).1
  have k1:=(C9.out 1 _ rfl).1
  have k2:=(C9.out 2 _ rfl).1
  have k3:=(C9.out 3 _ rfl).1
  go_wp2
  exact bodyPost_ret (v:=.agg #[.slice o5_ Px2.length c5_,.slice o9_ As.length c9_,.slice o13_ Es.length c13_,.int .i64 r]) (by simp [results,Tryz.results13,go_sem,k0,k1,k2,k3]) rfl ⟨_,_,_,rfl,T3.out⟩
end
section
open Go.RowKit Go.Shelf
structure KB (w0 X:World) (n0:Nat) (bs:List (Nat × List Value)) (b:Nat) (cs:List Value):Prop where
 below:Below w0.heap.size w0 X
 fix:∀ p ∈ bs,p.1 < n0/\p.1 ≠ b/\Cells X p.1 p.2
 box:Cells X b cs
 lt:b < n0
 ge:w0.heap.size <= b
 hn:w0.heap.size <= n0
 hx:n0 <= X.heap.size
section
variable {w0 X Y:World} {n0 b:Nat} {bs:List (Nat × List Value)} {cs:List Value}
theorem KB.step (h:KB w0 X n0 bs b cs) (hb:Below X.heap.size X Y):KB w0 Y n0 bs b cs:=
 ⟨b_step h.below hb,fun p hp=>⟨(h.fix p hp).1,(h.fix p hp).2.1,(h.fix p hp).2.2.step hb⟩,h.box.step hb,h.lt,h.ge,h.hn,Nat.le_trans h.hx hb.size⟩
theorem KB.grew (h:KB w0 X n0 bs b cs) {row:Option Nat} (hg:X.grownBy Y row) (hr:∀ r,row = some r->n0 <= r):KB w0 Y n0 bs b cs:=by
 have hB:Below w0.heap.size X Y:=⟨hg.os,hg.tape,hg.output,hg.size,fun k hk=>hg.block k (by have:=h.hx;have:=h.hn;omega) (fun e=>by have:=hr k e.symm;have:=h.hn;omega)⟩
 refine ⟨h.below.trans hB,fun p hp=>⟨(h.fix p hp).1,(h.fix p hp).2.1,(h.fix p hp).2.2.grew hg (fun r e=>by have:=hr r e;have:=(h.fix p hp).1;omega)⟩,h.box.grew hg (fun r e=>by have:=hr r e;have:=h.lt;omega),h.lt,h.ge,h.hn,Nat.le_trans h.hx hg.size⟩
theorem KB.put (h:KB w0 X n0 bs b cs) (k:Nat) (v:Value) (hk:k < cs.length):KB w0 (X.setCell ⟨b,k,none⟩ v) n0 bs b (cs.set k v):=
 ⟨h.below.setCell h.ge _,fun p hp=>⟨(h.fix p hp).1,(h.fix p hp).2.1,(h.fix p hp).2.2.apart (h.fix p hp).2.1 _ _⟩,h.box.set k v hk,h.lt,h.ge,h.hn,by simpa [World.setCell] using h.hx⟩
theorem KB.at (h:KB w0 X n0 bs b cs) {c:Nat} {vs:List Value} (hm:(c,vs) ∈ bs):Cells X c vs:=(h.fix _ hm).2.2
end
theorem KB.start4 (w0:World) (l1 l2 l3 l4:List Value) (t1 t2 t3 t4:TypeId) :
  KB w0 ((((w0.alloc (.cells l1.toArray t1)).alloc (.cells l2.toArray t2)).alloc (.cells l3.toArray t3)).alloc (.cells l4.toArray t4)) (w0.heap.size + 4) [(w0.heap.size,l1),(w0.heap.size + 1,l2),(w0.heap.size + 1 + 1,l3)] (w0.heap.size + 1 + 1 + 1) l4:=by
 have c1:=(((Cells.new w0 l1 t1).step (n_after _ (.cells l2.toArray t2))).step (n_after _ (.cells l3.toArray t3))).step (n_after _ (.cells l4.toArray t4))
 have c2:=((Cells.new (w0.alloc (.cells l1.toArray t1)) l2 t2).step (n_after _ (.cells l3.toArray t3))).step (n_after _ (.cells l4.toArray t4))
 have c3:=(Cells.new ((w0.alloc (.cells l1.toArray t1)).alloc (.cells l2.toArray t2)) l3 t3).step (n_after _ (.cells l4.toArray t4))
 have c4:=Cells.new (((w0.alloc (.cells l1.toArray t1)).alloc (.cells l2.toArray t2)).alloc (.cells l3.toArray t3)) l4 t4
 simp only [World.size_alloc] at c2 c3 c4
 refine ⟨b_step (b_step (b_step (n_after _ _) (n_after _ _)) (n_after _ _)) (n_after _ _),fun p hp=>?_,c4,by omega,by omega,by omega,by simp⟩
 simp only [List.mem_cons,List.not_mem_nil,or_false] at hp
 rcases hp with rfl | rfl | rfl
 ·exact ⟨by show _ < _;omega,by show _ ≠ _;omega,c1⟩
 ·exact ⟨by show _ < _;omega,by show _ ≠ _;omega,c2⟩
 ·exact ⟨by show _ < _;omega,by show _ ≠ _;omega,c3⟩
end
section
open Go.RowKit Ref Fx
theorem Ho.lay {W V:World} {p:Addr} {po:Nat} {f g:Bool} {l:List (Addr × Value)} (h:Ho W V p po f g l) (cs:Array Value) (t:TypeId) (k:List (Addr × Value)) (hk:∀ c ∈ k,∃ i:Nat,c.1 = ⟨V.heap.size,i,none⟩/\cs[i]? = some c.2):Ho W (V.alloc (.cells cs t)) p po f g (k ++ l):=by
 have h2:=h.alloc (.cells cs t)
 have hlt:=World.block_lt_of_cell? _ _ h.own
 dsimp only at hlt
 refine ⟨h2.leaves,h2.flag,h2.flagf,h2.own,h2.ownf,fun c hc=>?_,fun c hc=>?_,h2.hp,h2.ho⟩
 ·rcases List.mem_append.1 hc with hc | hc
  ·obtain ⟨i,e,hi⟩:=hk c hc
   rw [e]
   exact ⟨by rw [World.cell?_alloc_at _ _ _ _ rfl];exact hi,by simp [go_sem]⟩
  ·exact h2.fix c hc
 ·rcases List.mem_append.1 hc with hc | hc
  ·obtain ⟨i,e,hi⟩:=hk c hc
   rw [e];show V.heap.size ≠ po;omega
  ·exact h2.far c hc
end
end Go.Proofs.YtohbjabihdgjhaaGreat
