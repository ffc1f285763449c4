/- The document's own Place: what its walk keeps. -/
import Derived.Test.YtablgiflakncfaaGreatBBW18
import Derived.Test.YtablgiflakncfaaGreatBBW13
import Derived.Test.YtablgiflakncfaaGreatBBW16
import Derived.Test.YtablgiflakncfaaGreatBBW0
set_option maxHeartbeats 8000000
set_option maxRecDepth 100000
set_option linter.unusedVariables false
namespace Go.Proofs.YtablgiflakncfaaGreat
section
open Go.RowKit Go.Shelf
theorem rvadd_pt (b off:Nat) (f:Bool) (x y:Pt) (W:World) (hc:W.cell? ⟨b,off,none⟩ = some (.bool f)) (hf:W.frozen? ⟨b,off,none⟩ = false) :
  Calls Tryz.prog 97 #[.pointer (some ⟨b,off,none⟩),x.v,y.v] W fun e W'=>e = .returned ((x.addO y).getD Pt.O).v/\Hid (After ⟨b,off,none⟩ (f || (x.addO y).isNone) W W'):=by
 refine Calls.mono (rvadd_law b off f x.x x.y x.z y.x y.y y.z W hc hf) ?_
 rintro e W' ⟨v0,v1,v2,g,rfl,S3,A⟩
 obtain ⟨e1,e2⟩:=step3_pt S3.out
 unfold Pt.addO
 rw [<- e1,<- e2]
 exact ⟨rfl,A⟩
theorem rvrows_m (b off:Nat) (f:Bool) (q:Q4) (W:World) (hc:W.cell? ⟨b,off,none⟩ = some (.bool f)) (hf:W.frozen? ⟨b,off,none⟩ = false) :
  Calls Tryz.prog 95 #[.pointer (some ⟨b,off,none⟩),.agg #[.int .i64 q.w,.int .i64 q.x,.int .i64 q.y,.int .i64 q.z]] W fun e W'=>e = .returned (rowsM q).v/\Hid (After ⟨b,off,none⟩ (f || rowsB q) W W'):=
 rvrows_law b off f q.w q.x q.y q.z W hc hf
theorem add_bound {x y z:Int} (h:Fx.add x y = some z):-4611686018427387903 <= z/\z <= 4611686018427387903:=by
 unfold Fx.add at h
 split at h
 ·cases h
 ·unfold Fx.told at h
  split at h
  ·cases h
  ·rename_i h9
   cases h
   exact (Fx.not_great _).1 (by simpa using h9)
def Pt.mid (p:Pt):Prop:=(-4611686018427387904 <= p.x/\p.x <= 4611686018427387903)/\(-4611686018427387904 <= p.y/\p.y <= 4611686018427387903)/\(-4611686018427387904 <= p.z/\p.z <= 4611686018427387903)
theorem add_mid (x y:Pt):((x.addO y).getD Pt.O).mid:=by
 unfold Pt.addO opt3
 split
 ·rename_i a b c h1 h2 h3
  have k1:=add_bound h1
  have k2:=add_bound h2
  have k3:=add_bound h3
  exact ⟨by show _/\_;simp;omega,by show _/\_;simp;omega,by show _/\_;simp;omega⟩
 ·exact ⟨by decide,by decide,by decide⟩
theorem rways_uni (wb:Nat) (f:Bool) (m:M9) (Ls:List Pt) (v:Value) (w:World) (hc:w.cell? ⟨wb,0,none⟩ = some (.bool f)) (hf:w.frozen? ⟨wb,0,none⟩ = false) (hv:Lies w v Ls) (hne:∀ q n c,v = .slice (some q) n c->Ls ≠ []->q.block ≠ wb) (hN:Ls.length < 1099511627776) :
  Calls Tryz.prog 101 #[.pointer (some ⟨wb,0,none⟩),m.v,v] w fun e W=>∃ o c g M,e = .returned (.tuple #[.slice o M.length c,.bool (Ls.all (fun p=>p.win 1048576))])/\Hid (WS w w.heap.size W wb g (.slice o M.length c) M)/\Hid (Ls.all (fun p=>p.win 1048576) = true->g = (f || Ls.any m.dirB)/\M = m.dirs Ls):=by
 refine Calls.mono (rways_any wb f m Ls v w hc hf hv hne hN) ?_
 rintro e W (⟨u,h1,rfl,h2⟩ | ⟨g,⟨p,hp,hp2⟩,rfl,h2⟩)
 ·obtain ⟨o,c,rfl⟩:=rowp_form h2.own
  have e1:Ls.all (fun p=>p.win 1048576) = true:=by rw [List.all_eq_true];intro p hp;rw [win_in _ _ (by decide) (by decide)];exact h1 p hp
  exact ⟨o,c,_,_,by rw [e1],h2,fun _=>⟨rfl,rfl⟩⟩
 ·have e1:Ls.all (fun p=>p.win 1048576) = false:=by rw [List.all_eq_false];exact ⟨p,hp,by rw [win_in _ _ (by decide) (by decide),hp2];simp⟩
  exact ⟨none,0,g,[],by rw [e1];rfl,h2,fun h=>by rw [e1] at h;cases h⟩
structure KP (w0 X:World) (n0:Nat) (bs:List (Nat × List Value)) (b:Nat) (cs:List Value) (wb:Nat) (g:Bool) (u:Value) (M:List Pt):Prop where
 kb:KB w0 X n0 bs b cs
 ne:∀ p ∈ bs,p.1 ≠ wb
 nb:b ≠ wb
 wl:w0.heap.size <= wb/\wb < n0
 fl:X.cell? ⟨wb,0,none⟩ = some (.bool g)
 ff:X.frozen? ⟨wb,0,none⟩ = false
 own:X.ownsRow n0 45 3 u M.length (fl3 M)
section
variable {w0 X Y:World} {n0 b wb:Nat} {bs:List (Nat × List Value)} {cs:List Value} {g g':Bool} {u:Value} {M:List Pt}
theorem KP.step (h:KP w0 X n0 bs b cs wb g u M) (hb:Below X.heap.size X Y):KP w0 Y n0 bs b cs wb g u M:=
 ⟨h.kb.step hb,h.ne,h.nb,h.wl,c_after hb h.fl,f_after hb h.fl h.ff,own_below h.own hb⟩
theorem KP.after (h:KP w0 X n0 bs b cs wb g u M) (A:After ⟨wb,0,none⟩ g' X Y):KP w0 Y n0 bs b cs wb g' u M:=by
 refine ⟨⟨A.on h.kb.below h.wl.1,fun p hp=>⟨(h.kb.fix p hp).1,(h.kb.fix p hp).2.1,(h.kb.fix p hp).2.2.beside A (h.ne p hp)⟩,h.kb.box.beside A h.nb,h.kb.lt,h.kb.ge,h.kb.hn,Nat.le_trans h.kb.hx A.size⟩,h.ne,h.nb,h.wl,A.cell,A.frozen,row_turn h.own (after_grown A) (fun r e=>by cases e;exact h.wl.2)⟩
theorem KP.set3 (h:KP w0 X n0 bs b cs wb g u M) {c:Nat} (hc:n0 <= c) (hu:u.ownBlock ≠ some c) (x y z:Int):KP w0 (set3 X c x y z) n0 bs b cs wb g u M:=by
 have hne:wb ≠ c:=by have:=h.wl.2;omega
 have hk:(Go.Proofs.YtablgiflakncfaaGreat.set3 X c x y z).heap[wb]? = X.heap[wb]?:=by
  unfold Go.Proofs.YtablgiflakncfaaGreat.set3
  rw [Below.heap_setCell _ _ _ _ hne,Below.heap_setCell _ _ _ _ hne,Below.heap_setCell _ _ _ _ hne]
 have hn:=h.kb.hn
 refine ⟨⟨set3_below h.kb.below (by omega) _ _ _,fun p hp=>⟨(h.kb.fix p hp).1,(h.kb.fix p hp).2.1,(h.kb.fix p hp).2.2.put3w (by have:=(h.kb.fix p hp).1;omega) _ _ _⟩,h.kb.box.put3w (by have:=h.kb.lt;omega) _ _ _,h.kb.lt,h.kb.ge,h.kb.hn,?_⟩,h.ne,h.nb,h.wl,(World.cell?_of_block (w:=X) (a:=⟨wb,0,none⟩) hk).trans h.fl,(World.frozen?_of_block (w:=X) (a:=⟨wb,0,none⟩) hk).trans h.ff,ownsRow_setCell_other (ownsRow_setCell_other (ownsRow_setCell_other h.own hu _) hu _) hu _⟩
 have:=h.kb.hx
 simpa [Go.Proofs.YtablgiflakncfaaGreat.set3,World.setCell] using this
theorem KP.put (h:KP w0 X n0 bs b cs wb g u M) (k:Nat) (v:Value) (hk:k < cs.length):KP w0 (X.setCell ⟨b,k,none⟩ v) n0 bs b (cs.set k v) wb g u M:=by
 have hk9:(X.setCell ⟨b,k,none⟩ v).heap[wb]? = X.heap[wb]?:=Below.heap_setCell _ _ _ _ (Ne.symm h.nb)
 exact ⟨h.kb.put k v hk,h.ne,h.nb,h.wl,(World.cell?_of_block (w:=X) (a:=⟨wb,0,none⟩) hk9).trans h.fl,(World.frozen?_of_block (w:=X) (a:=⟨wb,0,none⟩) hk9).trans h.ff,ownsRow_setCell_other h.own (fun e=>by have h5:n0 <= b:=(World.ownsRow.lt h.own _ e).1;have:=h.kb.lt;omega) _⟩
theorem KP.app {u':Value} {p:Pt} (h:KP w0 X n0 bs b cs wb g u M) (hr:Y.ownsRow n0 45 3 u' (M.length + 1) (fl3 M ++ [.int .i64 p.x,.int .i64 p.y,.int .i64 p.z])) (hg:X.grownBy Y u.ownBlock):KP w0 Y n0 bs b cs wb g u' (M ++ [p]):=by
 have hur:∀ r,u.ownBlock = some r->n0 <= r:=fun r e=>(World.ownsRow.lt h.own _ e).1
 have hbl:Y.heap[wb]? = X.heap[wb]?:=hg.block wb (World.block_lt_of_cell? _ _ h.fl) (fun e=>by have:=hur wb e.symm;have:=h.wl.2;omega)
 refine ⟨h.kb.grew hg hur,h.ne,h.nb,h.wl,(World.cell?_of_block (w:=X) (a:=⟨wb,0,none⟩) hbl).trans h.fl,(World.frozen?_of_block (w:=X) (a:=⟨wb,0,none⟩) hbl).trans h.ff,?_⟩
 rw [fl3_append,List.length_append];exact hr
theorem KP.lies (h:KP w0 X n0 bs b cs wb g u M) {v:Value} {L:List Pt} (hl:Lies w0 v L):Lies X v L/\∀ q n c,v = .slice (some q) n c->L ≠ []->q.block ≠ wb:=by
 refine ⟨hl.below h.kb.below,fun q n c e hne=>?_⟩
 obtain ⟨o,cap,e2,_,_,hc⟩:=hl.form
 rw [e2] at e
 simp only [Value.slice.injEq] at e
 obtain ⟨rfl,rfl,rfl⟩:=e
 obtain ⟨g7,f7,e7,x0,_⟩:=hc 0 (List.length_pos_iff.2 hne)
 cases e7
 have h1:g7 < w0.heap.size:=World.block_lt_of_cell? _ _ x0
 have h2:=h.wl.1
 show g7 ≠ wb
 omega
end
end
section
open Go.RowKit Go.Shelf
theorem KP.start {w0 W1 V1:World} {n1 wb:Nat} {bs:List (Nat × List Value)} {f0 f:Bool} (h:KB w0 W1 n1 bs wb [.bool f0]) (A:After ⟨wb,0,none⟩ f W1 V1) (l5 l6:List Value) (t5 t6:TypeId) :
  KP w0 ((V1.alloc (.cells l5.toArray t5)).alloc (.cells l6.toArray t6)) (V1.heap.size + 2) (bs ++ [(V1.heap.size,l5)]) (V1.heap.size + 1) l6 wb f (.slice none 0 0) []:=by
 have hs:n1 <= V1.heap.size:=Nat.le_trans h.hx A.size
 have hlt:=h.lt
 have hge:=h.ge
 have hn:=h.hn
 have c5:=(Cells.new V1 l5 t5).step (n_after _ (.cells l6.toArray t6))
 have c6:=Cells.new (V1.alloc (.cells l5.toArray t5)) l6 t6
 rw [World.size_alloc] at c6
 have b9:Below V1.heap.size V1 ((V1.alloc (.cells l5.toArray t5)).alloc (.cells l6.toArray t6)):=b_step (n_after _ _) (n_after _ _)
 refine ⟨⟨b_step (A.on h.below h.ge) b9,fun p hp=>?_,c6,by omega,by omega,by omega,by simp⟩,fun p hp=>?_,by omega,⟨hge,by omega⟩,c_after b9 A.cell,f_after b9 A.cell A.frozen,World.ownsRow_nil _ _ _ _⟩
 ·rw [List.mem_append] at hp
  rcases hp with hp | hp
  ·have k1:=h.fix p hp
   exact ⟨by omega,by omega,(k1.2.2.beside A k1.2.1).step b9⟩
  ·simp only [List.mem_cons,List.not_mem_nil,or_false] at hp
   subst hp
   exact ⟨by show _ < _;omega,by show _ ≠ _;omega,c5⟩
 ·rw [List.mem_append] at hp
  rcases hp with hp | hp
  ·exact (h.fix p hp).2.1
  ·simp only [List.mem_cons,List.not_mem_nil,or_false] at hp
   subst hp
   show _ ≠ _
   omega
theorem place_bool {OK f pa aa ea one two bl g g1 g2 d:Bool} (hOK:OK = (d && (true && (one && two)) && (!(f || pa || aa || ea) && true))) (hd:d = !bl) (hg:g = (f || pa)) (h1:one = true->g1 = (g || aa)) (h2:two = true->g2 = (g1 || ea)):OK = !(g2 || (!one || (!two || bl))):=by
 subst hOK hd hg
 cases one
 ·simp
 ·cases two
  ·simp
  ·have e1:=h1 rfl
   subst e1
   have e2:=h2 rfl
   subst e2
   cases bl <;> simp
theorem all_firsts {Ls:List Pt} {f:Pt->Bool} (h:∀ j,j < Ls.length->f (pt Ls j) = true):Ls.all f = true:=by
 rw [List.all_eq_true]
 intro p hp
 obtain ⟨j,hj,e⟩:=pt_of_mem hp
 rw [<- e];exact h j hj
theorem not_all {Ls:List Pt} {f:Pt->Bool} {p:Pt} (hp:p ∈ Ls) (h:f p = false):Ls.all f = false:=by
 rw [List.all_eq_false];exact ⟨p,hp,by rw [h];simp⟩
theorem rplace_any (t:Pt) (q:Q4) (Ps As Es:List Pt) (r:Int) (pv av ev:Value) (w0:World) (hp:Lies w0 pv Ps) (ha:Lies w0 av As) (he:Lies w0 ev Es) (hNPs:Ps.length < 1099511627776) (hNAs:As.length < 1099511627776) (hNEs:Es.length < 1099511627776) :
  Calls Tryz.prog 57 #[coreV pv av ev r,poseV t q] w0 fun e W=>∃ vp va ve,(placeOk t q Ps As Es = false->e = .returned (.tuple #[.agg #[vp,va,ve,.int .i64 0],.bool false])/\Three w0 W vp va ve [] [] [])/\(placeOk t q Ps As Es = true->e = .returned (.tuple #[.agg #[vp,va,ve,.int .i64 r],.bool true])/\Three w0 W vp va ve (Ps.map ((rowsM q).ptV t)) ((rowsM q).dirs As) ((rowsM q).dirs Es)):=by
 obtain ⟨opv,cpv,rfl,hlc,hcm,hcell⟩:=hp.form
 obtain ⟨oav,cav,rfl,hlca,hcma,_⟩:=ha.form
 obtain ⟨oev,cev,rfl,hlce,hcme,_⟩:=he.form
 have HCL:Hid _:=hcell
 have HLA:Hid _:=ha
 have HLE:Hid _:=he
 clear hp ha he hcell
 obtain ⟨i0,hii,hiz,hisz,hib⟩:=info_parts point_info
 have HI:Hid _:=And.intro hii (And.intro hiz (And.intro hisz hib))
 clear hii hiz hisz hib
 have HR:Hid _:=fun (b:Nat) (w:World) (g:Bool)=>rvrows_m b 0 g q w
 have HOK:Hid (placeOk t q Ps As Es = (placeableP Ps As Es && (!(badP t q Ps As Es) && nearP (Ps.map ((rowsM q).ptV t))))):=rfl
 obtain ⟨OK,hOK⟩:∃ OK,placeOk t q Ps As Es = OK:=⟨_,rfl⟩
 rw [hOK] at HOK ⊢
 clear hOK
 unfold badP nearP placeableP at HOK
 generalize rowsM q = m at *
 generalize rowsB q = f at *
 have HIN:Hid (∀ p:Pt,∀ mm:Int,(0 <= mm/\mm <= 4611686018427387903)->∀ w',Calls Tryz.prog 96 #[p.v,.int .i64 mm] w' fun e W=>e = .returned (.bool (p.inB mm))/\Below w'.heap.size w' W):=fun p mm h w'=>rin6_any p mm w' h
 have HWY:Hid _:=fun (wb:Nat) (f:Bool)=>rways_uni wb f m
 have HTU0:Hid _:=fun (wb:Nat) (x:Pt) (w':World) (g:Bool)=>rvturn_pt wb 0 g m x w'
 have HPV:Hid (∀ p,m.ptV t p = ((((m.turn (p.times 1048576)).getD Pt.O).addO t).getD Pt.O).grain):=fun _=>rfl
 have HPB:Hid (∀ p,m.ptB t p = ((m.turn (p.times 1048576)).isNone || (((m.turn (p.times 1048576)).getD Pt.O).addO t).isNone)):=fun _=>rfl
 obtain ⟨tx,ty,tz⟩:=t
 obtain ⟨qw,qx,qy,qz⟩:=q
 have HK0:Hid _:=KB.start4 w0 [.slice opv Ps.length cpv,.slice oav As.length cav,.slice oev Es.length cev,.int .i64 r] [.int .i64 tx,.int .i64 ty,.int .i64 tz,.int .i64 qw,.int .i64 qx,.int .i64 qy,.int .i64 qz] [.slice none 0 0,.slice none 0 0,.slice none 0 0,.int .i64 0] [.bool false] 28 104 28 33
 unfold coreV poseV
 dsimp only at *
 go_enter Tryz.func57,Tryz.ntmps57
 go_upto_region 2 with fail
 obtain ⟨W1,hW1⟩:∃ X,X = (((w0.alloc (.cells #[.slice opv Ps.length cpv,.slice oav As.length cav,.slice oev Es.length cev,.int .i64 r] 28)).alloc (.cells #[.int .i64 tx,.int .i64 ty,.int .i64 tz,.int .i64 qw,.int .i64 qx,.int .i64 qy,.int .i64 qz] 104)).alloc (.cells #[.slice none 0 0,.slice none 0 0,.slice none 0 0,.int .i64 0] 28)).alloc (.cells #[.bool false] 33):=⟨_,rfl⟩
 obtain ⟨cb,hcb⟩:∃ b,b = w0.heap.size:=⟨_,rfl⟩
 obtain ⟨pb,hpb⟩:∃ b,b = w0.heap.size + 1:=⟨_,rfl⟩
 obtain ⟨ob,hob⟩:∃ b,b = w0.heap.size + 1 + 1:=⟨_,rfl⟩
 obtain ⟨wb,hwb⟩:∃ b,b = w0.heap.size + 1 + 1 + 1:=⟨_,rfl⟩
 rw [<- hW1,<- hwb,<- hob,<- hpb,<- hcb] at HK0
 rw [<- hW1,<- hwb,<- hob,<- hpb,<- hcb]
 have ho4:w0.heap.size <= ob:=by omega
 clear hW1 hwb hob hpb hcb
 have HRO:Hid _:=HR.out wb W1 false (HK0.out.box 0 _ rfl).1 (HK0.out.box 0 _ rfl).2
 have p3:=(HK0.out.at (List.mem_cons_of_mem _ List.mem_cons_self) 3 _ rfl).1
 have p4:=(HK0.out.at (List.mem_cons_of_mem _ List.mem_cons_self) 4 _ rfl).1
 have p5:=(HK0.out.at (List.mem_cons_of_mem _ List.mem_cons_self) 5 _ rfl).1
 have p6:=(HK0.out.at (List.mem_cons_of_mem _ List.mem_cons_self) 6 _ rfl).1
 unfold M9.v at HRO
 go_wp2_with (fail)
 refine Calls.mono HRO.out ?_
 rintro e V1 ⟨rfl,A⟩
 have A9:=A.out
 simp only [Bool.false_or] at A9
 have k3:=A9.cellOf (HK0.out.at List.mem_cons_self 3 _ rfl).1 (HK0.out.fix _ List.mem_cons_self).2.1
 have hcV:cb < V1.heap.size:=World.block_lt_of_cell? _ _ k3
 have HKP0:Hid _:=KP.start HK0.out A9 [.int .i64 m.a0,.int .i64 m.a1,.int .i64 m.a2,.int .i64 m.a3,.int .i64 m.a4,.int .i64 m.a5,.int .i64 m.a6,.int .i64 m.a7,.int .i64 m.a8] [.slice none 0 0,.slice none 0 0,.slice none 0 0,.int .i64 r] 129 28
 clear A A9 p3 p4 p5 p6 HRO HK0 HR
 go_upto_region 4 with fail
 obtain ⟨mb,hmb⟩:∃ b,b = V1.heap.size:=⟨_,rfl⟩
 obtain ⟨xb,hxb⟩:∃ b,b = V1.heap.size + 1:=⟨_,rfl⟩
 obtain ⟨n0,hn0⟩:∃ b,b = V1.heap.size + 2:=⟨_,rfl⟩
 obtain ⟨V3,hV3⟩:∃ X,X = (V1.alloc (.cells #[.int .i64 m.a0,.int .i64 m.a1,.int .i64 m.a2,.int .i64 m.a3,.int .i64 m.a4,.int .i64 m.a5,.int .i64 m.a6,.int .i64 m.a7,.int .i64 m.a8] 129)).alloc (.cells #[.slice none 0 0,.slice none 0 0,.slice none 0 0,.int .i64 r] 28):=⟨_,rfl⟩
 rw [<- hV3,<- hn0,<- hxb,<- hmb] at HKP0
 have HKP:Hid (KP w0 V3 n0 [(cb,[.slice opv Ps.length cpv,.slice oav As.length cav,.slice oev Es.length cev,.int .i64 r]),(pb,[.int .i64 tx,.int .i64 ty,.int .i64 tz,.int .i64 qw,.int .i64 qx,.int .i64 qy,.int .i64 qz]),(ob,[.slice none 0 0,.slice none 0 0,.slice none 0 0,.int .i64 0]),(mb,[.int .i64 m.a0,.int .i64 m.a1,.int .i64 m.a2,.int .i64 m.a3,.int .i64 m.a4,.int .i64 m.a5,.int .i64 m.a6,.int .i64 m.a7,.int .i64 m.a8])] xb [.slice none 0 0,.slice none 0 0,.slice none 0 0,.int .i64 r] wb f (.slice none 0 0) []):=HKP0.out
 rw [<- hV3,<- hxb,<- hmb]
 have hob2:ob < n0/\xb ≠ ob:=⟨(HKP.out.kb.fix _ (List.mem_cons_of_mem _ (List.mem_cons_of_mem _ List.mem_cons_self))).1,Ne.symm (HKP.out.kb.fix _ (List.mem_cons_of_mem _ (List.mem_cons_of_mem _ List.mem_cons_self))).2.1⟩
 clear HKP0 hV3 hn0 hxb hmb k3 hcV
 go_wp2_with (fail)
 go_loopg [9] Ps.length (fun gm s9 wr=>∃ (i:Nat) (g:Bool) (u:Value),s9 = .int .i64 (i:Int)/\i <= Ps.length/\gm = Ps.length - i/\Hid (KP w0 wr n0 [(cb,[.slice opv Ps.length cpv,.slice oav As.length cav,.slice oev Es.length cev,.int .i64 r]),(pb,[.int .i64 tx,.int .i64 ty,.int .i64 tz,.int .i64 qw,.int .i64 qx,.int .i64 qy,.int .i64 qz]),(ob,[.slice none 0 0,.slice none 0 0,.slice none 0 0,.int .i64 0]),(mb,[.int .i64 m.a0,.int .i64 m.a1,.int .i64 m.a2,.int .i64 m.a3,.int .i64 m.a4,.int .i64 m.a5,.int .i64 m.a6,.int .i64 m.a7,.int .i64 m.a8])] xb [u,.slice none 0 0,.slice none 0 0,.int .i64 r] wb g u (firsts (fun k=>m.ptV ⟨tx,ty,tz⟩ (pt Ps k)) i))/\Hid (g = (f || anyK (fun k=>m.ptB ⟨tx,ty,tz⟩ (pt Ps k)) i))/\Hid (∀ j,j < i->(pt Ps j).inB 1048576 = true/\(m.ptV ⟨tx,ty,tz⟩ (pt Ps j)).inB 8388608 = true))
 case atStart=>exact ⟨0,f,_,rfl,Nat.zero_le _,rfl,HKP,by show _ = _;simp [anyK],fun j hj=>absurd hj (by omega)⟩
 case round =>
  clear HKP
  obtain ⟨i,g,u,rfl,hi,hgm,HKP,HGB,HAL⟩:=hrel
  have HG1:Hid _:=hgm
  clear hgm
  have HSU:Hid (firsts (fun k=>m.ptV ⟨tx,ty,tz⟩ (pt Ps k)) (i + 1) = firsts (fun k=>m.ptV ⟨tx,ty,tz⟩ (pt Ps k)) i ++ [m.ptV ⟨tx,ty,tz⟩ (pt Ps i)]):=firsts_succ _ _
  have hlm:(firsts (fun k=>m.ptV ⟨tx,ty,tz⟩ (pt Ps k)) i).length < 1099511627776:=by rw [firsts_length];omega
  have k0:=(HKP.out.kb.at List.mem_cons_self 0 _ rfl).1
  by_cases hit:i < Ps.length
  ·obtain ⟨g7,f7,rfl,x0,x1,x2⟩:=HCL.out i hit
   have y0:=c_after HKP.out.kb.below x0
   have y1:=c_after HKP.out.kb.below x1
   have y2:=c_after HKP.out.kb.below x2
   have hit2:(i:Int) < (Ps.length:Int):=by omega
   have HF1:Hid ((pt Ps i).inB 1048576 = false->OK = false):=fun h=>by
    rw [HOK.out,not_all (f:=fun p=>p.win 1048576) (pt_mem hit) (by rw [win_in _ _ (by decide) (by decide)];exact h)];simp
   have HF2:Hid ((m.ptV ⟨tx,ty,tz⟩ (pt Ps i)).inB 8388608 = false->OK = false):=fun h=>by
    rw [HOK.out,not_all (Ls:=Ps.map (m.ptV ⟨tx,ty,tz⟩)) (f:=fun p=>p.win 8388608) (List.mem_map_of_mem (pt_mem hit)) (by rw [win_in _ _ (by decide) (by decide)];exact h)];simp
   have HLM:Hid (∀ {X:World} {u:Value} {g2:Bool} {M2:List Pt},(pt Ps i).inB 1048576 = true->(m.ptV ⟨tx,ty,tz⟩ (pt Ps i)).inB 8388608 = true->firsts (fun k=>m.ptV ⟨tx,ty,tz⟩ (pt Ps k)) (i + 1) = M2->g2 = (g || m.ptB ⟨tx,ty,tz⟩ (pt Ps i))->KP w0 X n0 [(cb,[.slice (some ⟨g7,f7,none⟩) Ps.length cpv,.slice oav As.length cav,.slice oev Es.length cev,.int .i64 r]),(pb,[.int .i64 tx,.int .i64 ty,.int .i64 tz,.int .i64 qw,.int .i64 qx,.int .i64 qy,.int .i64 qz]),(ob,[.slice none 0 0,.slice none 0 0,.slice none 0 0,.int .i64 0]),(mb,[.int .i64 m.a0,.int .i64 m.a1,.int .i64 m.a2,.int .i64 m.a3,.int .i64 m.a4,.int .i64 m.a5,.int .i64 m.a6,.int .i64 m.a7,.int .i64 m.a8])] xb [u,.slice none 0 0,.slice none 0 0,.int .i64 r] wb g2 u M2->∃ (i2:Nat) (g:Bool) (u2:Value),(Value.int .i64 ((i + 1:Nat):Int)) = .int .i64 (i2:Int)/\i2 <= Ps.length/\Ps.length - (i + 1) = Ps.length - i2/\Hid (KP w0 X n0 [(cb,[.slice (some ⟨g7,f7,none⟩) Ps.length cpv,.slice oav As.length cav,.slice oev Es.length cev,.int .i64 r]),(pb,[.int .i64 tx,.int .i64 ty,.int .i64 tz,.int .i64 qw,.int .i64 qx,.int .i64 qy,.int .i64 qz]),(ob,[.slice none 0 0,.slice none 0 0,.slice none 0 0,.int .i64 0]),(mb,[.int .i64 m.a0,.int .i64 m.a1,.int .i64 m.a2,.int .i64 m.a3,.int .i64 m.a4,.int .i64 m.a5,.int .i64 m.a6,.int .i64 m.a7,.int .i64 m.a8])] xb [u2,.slice none 0 0,.slice none 0 0,.int .i64 r] wb g u2 (firsts (fun k=>m.ptV ⟨tx,ty,tz⟩ (pt Ps k)) i2))/\Hid (g = (f || anyK (fun k=>m.ptB ⟨tx,ty,tz⟩ (pt Ps k)) i2))/\Hid (∀ j,j < i2->(pt Ps j).inB 1048576 = true/\(m.ptV ⟨tx,ty,tz⟩ (pt Ps j)).inB 8388608 = true)/\u = u2):=by
    intro X u g2 M2 h1 h2 h3 h4 h5
    refine ⟨i + 1,g2,u,rfl,by omega,rfl,by rw [h3];exact h5,?_,?_,rfl⟩
    ·show _ = _
     rw [h4,HGB.out];simp [anyK,Bool.or_assoc]
    ·intro j hj
     by_cases e:j = i
     ·subst e;exact ⟨h1,h2⟩
     ·exact HAL.out j (by omega)
   obtain ⟨M,hM⟩:∃ M,M = firsts (fun k=>m.ptV ⟨tx,ty,tz⟩ (pt Ps k)) i:=⟨_,rfl⟩
   rw [<- hM] at HKP HSU hlm
   clear hM HAL HGB HOK HCL HLA HLE
   obtain ⟨uo,uc,hu⟩:=rowp_form HKP.out.own
   have HU:Hid _:=hu
   clear hu
   have HVi:=HPV.out (pt Ps i)
   have HBi:=HPB.out (pt Ps i)
   generalize pt Ps i = p at *
   obtain ⟨n,hn⟩:∃ n,n = p.times 1048576:=⟨_,rfl⟩
   rw [<- hn] at HVi HBi
   obtain ⟨a,ha⟩:∃ a,a = (m.turn n).getD Pt.O:=⟨_,rfl⟩
   obtain ⟨b1,hb1⟩:∃ b,b = (m.turn n).isNone:=⟨_,rfl⟩
   rw [<- ha] at HVi HBi
   rw [<- hb1] at HBi
   have HAM:=add_mid a ⟨tx,ty,tz⟩
   obtain ⟨sp,hs⟩:∃ s,s = (a.addO ⟨tx,ty,tz⟩).getD Pt.O:=⟨_,rfl⟩
   obtain ⟨b2,hb2⟩:∃ b,b = (a.addO ⟨tx,ty,tz⟩).isNone:=⟨_,rfl⟩
   rw [<- hs] at HVi HAM
   rw [<- hb2] at HBi
   have HTI:Hid _:=fun w'=>rtimes6_any p 1048576 w'
   rw [<- hn] at HTI
   have HTU:Hid _:=fun (w':World) (g:Bool)=>HTU0.out wb n w' g
   rw [<- ha,<- hb1] at HTU
   have HAD:Hid _:=fun (w':World) (g:Bool)=>rvadd_pt wb 0 g a ⟨tx,ty,tz⟩ w'
   rw [<- hs,<- hb2] at HAD
   rw [HVi] at HF2 HLM HSU
   rw [HBi] at HLM
   have HI1:Hid _:=HIN.out p 1048576 (by decide)
   have HI2:Hid _:=HIN.out sp.grain 8388608 (by decide)
   clear hn ha hb1 hs hb2 HVi HBi HPV HPB HIN HTU0
   obtain ⟨px,py,pz⟩:=p
   obtain ⟨nx,ny,nz⟩:=n
   obtain ⟨ax,ay,az⟩:=a
   obtain ⟨sx,sy,sz⟩:=sp
   obtain ⟨hm1,hm2,hm3⟩:=HAM
   unfold Pt.grain at HI2 HF2 HLM HSU
   dsimp only at hm1 hm2 hm3 HI2 HF2 HLM HSU y0 y1 y2 x0 x1 x2
   have HDdx:Hid _:=fun w'=>rdown6_any sx w' hm1
   have HDdy:Hid _:=fun w'=>rdown6_any sy w' hm2
   have HDdz:Hid _:=fun w'=>rdown6_any sz w' hm3
   clear hm1 hm2 hm3
   generalize sx / 1048576 = dx at *
   generalize sy / 1048576 = dy at *
   generalize sz / 1048576 = dz at *
   unfold Pt.v at HI1 HI2 HTI HTU HAD
   unfold M9.v at HTU
   dsimp only at HI1 HI2 HTI HTU HAD
   have HX:Hid (∀ k,k < 3->True):=fun _ _=>trivial
   have HX0:Hid _:=x0
   have HX1:Hid _:=x1
   have HX2:Hid _:=x2
   clear x0 x1 x2
   go_wp2_with (fail)
   refine Calls.mono (HI1.out _) ?_
   clear HI1 y0 y1 y2 k0
   rintro e V ⟨rfl,hb⟩
   have HKP:Hid _:=HKP.out.step hb
   clear hb
   have OC:Hid _:=HKP.out.kb.at (List.mem_cons_of_mem _ (List.mem_cons_of_mem _ List.mem_cons_self))
   cases hin:Pt.inB ⟨px,py,pz⟩ 1048576 with
   | false =>
    have HF:Hid (OK = false):=HF1.out hin
    obtain ⟨b0,d0⟩:=OC.out 0 _ rfl
    obtain ⟨b1',d1⟩:=OC.out 1 _ rfl
    obtain ⟨b2',d2⟩:=OC.out 2 _ rfl
    obtain ⟨b3,d3⟩:=OC.out 3 _ rfl
    go_wp2_with (fail)
    refine bodyPost_ret (v:=.tuple #[.agg #[.slice none 0 0,.slice none 0 0,.slice none 0 0,.int .i64 0],.bool false]) (by simp [results,Tryz.results57,go_sem,b0,b1',b2',b3]) rfl ?_
    exact ⟨_,_,_,fun _=>⟨rfl,three_nil (set4_below HKP.out.kb.below ho4 _ _ _ _)⟩,fun h=>by rw [HF.out] at h;cases h⟩
   | true =>
    have hwV:wb < V.heap.size:=World.block_lt_of_cell? _ _ HKP.out.fl
    have hnV:n0 <= V.heap.size:=HKP.out.kb.hx
    have HUV:Hid (∀ b,u.ownBlock = some b->b < V.heap.size):=fun b e=>(World.ownsRow.lt HKP.out.own b e).2
    have HH:Hid _:=hin
    clear hin OC
    go_upto_region 10 with fail
    go_cut [11] from 43 to 55 (fun s11 wx=>∃ b3,s11 = .pointer (some ⟨b3,0,none⟩)/\Hid (KP w0 wx n0 [(cb,[.slice (some ⟨g7,f7,none⟩) Ps.length cpv,.slice oav As.length cav,.slice oev Es.length cev,.int .i64 r]),(pb,[.int .i64 tx,.int .i64 ty,.int .i64 tz,.int .i64 qw,.int .i64 qx,.int .i64 qy,.int .i64 qz]),(ob,[.slice none 0 0,.slice none 0 0,.slice none 0 0,.int .i64 0]),(mb,[.int .i64 m.a0,.int .i64 m.a1,.int .i64 m.a2,.int .i64 m.a3,.int .i64 m.a4,.int .i64 m.a5,.int .i64 m.a6,.int .i64 m.a7,.int .i64 m.a8])] xb [u,.slice none 0 0,.slice none 0 0,.int .i64 r] wb (g || b1 || b2) u M)/\Hid (Box3 wx b3 ⟨sx,sy,sz⟩))
    case first =>
     have x0:=HX0.out
     have x1:=HX1.out
     have x2:=HX2.out
     refine RV.rs [.some (.pointer (some ⟨wb,0,none⟩)),.some (.pointer (some ⟨wb,0,none⟩)),.some (.agg #[.int .i64 m.a0,.int .i64 m.a1,.int .i64 m.a2,.int .i64 m.a3,.int .i64 m.a4,.int .i64 m.a5,.int .i64 m.a6,.int .i64 m.a7,.int .i64 m.a8]),.some (.pointer (some ⟨cb,0,none⟩)),.some (.slice (some ⟨g7,f7,none⟩) Ps.length cpv),.some (.int .i64 (i:Int)),.some (.pointer (some ⟨g7,f7 + i * 3,none⟩)),.some (.agg #[.int .i64 px,.int .i64 py,.int .i64 pz]),.some (.agg #[.int .i64 nx,.int .i64 ny,.int .i64 nz]),.some (.agg #[.int .i64 ax,.int .i64 ay,.int .i64 az]),.some (.pointer (some ⟨pb,0,none⟩)),.some (.agg #[.int .i64 tx,.int .i64 ty,.int .i64 tz]),.some (.agg #[.int .i64 sx,.int .i64 sy,.int .i64 sz]),none,none] [44,45,46,47,48,49,50,51,52,53,54,55,56,12,0] [(2,.pointer (some ⟨cb,0,none⟩)),(3,.pointer (some ⟨pb,0,none⟩)),(6,.pointer (some ⟨wb,0,none⟩)),(7,.pointer (some ⟨mb,0,none⟩)),(9,.int .i64 (i:Int))] (fun γ L w9=>KP w0 w9 n0 [(cb,[.slice (some ⟨g7,f7,none⟩) Ps.length cpv,.slice oav As.length cav,.slice oev Es.length cev,.int .i64 r]),(pb,[.int .i64 tx,.int .i64 ty,.int .i64 tz,.int .i64 qw,.int .i64 qx,.int .i64 qy,.int .i64 qz]),(ob,[.slice none 0 0,.slice none 0 0,.slice none 0 0,.int .i64 0]),(mb,[.int .i64 m.a0,.int .i64 m.a1,.int .i64 m.a2,.int .i64 m.a3,.int .i64 m.a4,.int .i64 m.a5,.int .i64 m.a6,.int .i64 m.a7,.int .i64 m.a8])] xb [u,.slice none 0 0,.slice none 0 0,.int .i64 r] wb ((g || (L 9 && b1)) || (L 12 && b2)) u M/\RV.Pend V 23 13 14 #[.int .i64 sx,.int .i64 sy,.int .i64 sz] γ L w9/\V.heap.size <= w9.heap.size) ⟨rfl,rfl,rfl,rfl,rfl,trivial⟩ ?_ ?_ ?_
     ·have b9:Below V.heap.size V V.drew:=(Below.refl _ _).drew;simp only [Bool.false_and,Bool.or_false];exact ⟨HKP.out.step b9,RV.Pend.start rfl,Nat.le_refl _⟩
     ·intro D WA Z hD hWA hZ T
      simp only [RV.Outs,RV.Slots,Nat.reduceAdd] at T
      iterate 8 first
       | (refine RV.cc _ (RV.pu T (fun γ v L w hl h=>⟨by rw [RV.mn (L:=L) (i:=_) (j:=9) (by decide),RV.mn (L:=L) (i:=_) (j:=12) (by decide)];exact h.1,h.2.1.other v (by decide) (by decide),h.2.2⟩) (fun γ L a w hH hl h9 k9=>⟨_,?_,rfl⟩)) ?_;· simp [execOp,go_sem,h9])
       | (refine RV.cc _ (RV.pu T (fun γ v L w hl h=>⟨by rw [RV.mn (L:=L) (i:=_) (j:=9) (by decide),RV.mn (L:=L) (i:=_) (j:=12) (by decide)];exact h.1,h.2.1.other v (by decide) (by decide),h.2.2⟩) (fun γ L a w hH hl h9 k9=>⟨_,?_,rfl⟩)) ?_;· have wz0:=(hH.glob.1.kb.at (List.mem_cons_of_mem _ (List.mem_cons_of_mem _ (List.mem_cons_of_mem _ List.mem_cons_self))) 0 _ rfl).1;have wz1:=(hH.glob.1.kb.at (List.mem_cons_of_mem _ (List.mem_cons_of_mem _ (List.mem_cons_of_mem _ List.mem_cons_self))) 1 _ rfl).1;have wz2:=(hH.glob.1.kb.at (List.mem_cons_of_mem _ (List.mem_cons_of_mem _ (List.mem_cons_of_mem _ List.mem_cons_self))) 2 _ rfl).1;have wz3:=(hH.glob.1.kb.at (List.mem_cons_of_mem _ (List.mem_cons_of_mem _ (List.mem_cons_of_mem _ List.mem_cons_self))) 3 _ rfl).1;have wz4:=(hH.glob.1.kb.at (List.mem_cons_of_mem _ (List.mem_cons_of_mem _ (List.mem_cons_of_mem _ List.mem_cons_self))) 4 _ rfl).1;have wz5:=(hH.glob.1.kb.at (List.mem_cons_of_mem _ (List.mem_cons_of_mem _ (List.mem_cons_of_mem _ List.mem_cons_self))) 5 _ rfl).1;have wz6:=(hH.glob.1.kb.at (List.mem_cons_of_mem _ (List.mem_cons_of_mem _ (List.mem_cons_of_mem _ List.mem_cons_self))) 6 _ rfl).1;have wz7:=(hH.glob.1.kb.at (List.mem_cons_of_mem _ (List.mem_cons_of_mem _ (List.mem_cons_of_mem _ List.mem_cons_self))) 7 _ rfl).1;have wz8:=(hH.glob.1.kb.at (List.mem_cons_of_mem _ (List.mem_cons_of_mem _ (List.mem_cons_of_mem _ List.mem_cons_self))) 8 _ rfl).1;simp [execOp,go_sem,h9,wz0,wz1,wz2,wz3,wz4,wz5,wz6,wz7,wz8])
       | (refine RV.cc _ (RV.pu T (fun γ v L w hl h=>⟨by rw [RV.mn (L:=L) (i:=_) (j:=9) (by decide),RV.mn (L:=L) (i:=_) (j:=12) (by decide)];exact h.1,h.2.1.other v (by decide) (by decide),h.2.2⟩) (fun γ L a w hH hl h9 k9=>⟨_,?_,rfl⟩)) ?_;· have wz0:=(hH.glob.1.kb.at List.mem_cons_self 0 _ rfl).1;simp [Region.binds] at k9;simp [execOp,go_sem,h9,k9,wz0])
       | (refine RV.cc _ (RV.pu T (fun γ v L w hl h=>⟨by rw [RV.mn (L:=L) (i:=_) (j:=9) (by decide),RV.mn (L:=L) (i:=_) (j:=12) (by decide)];exact h.1,h.2.1.other v (by decide) (by decide),h.2.2⟩) (fun γ L a w hH hl h9 k9=>⟨_,?_,rfl⟩)) ?_;· simp [Region.binds] at k9;simp [execOp,go_sem,h9,k9,hit2])
       | (refine RV.cc _ (RV.pu T (fun γ v L w hl h=>⟨by rw [RV.mn (L:=L) (i:=_) (j:=9) (by decide),RV.mn (L:=L) (i:=_) (j:=12) (by decide)];exact h.1,h.2.1.other v (by decide) (by decide),h.2.2⟩) (fun γ L a w hH hl h9 k9=>⟨_,?_,rfl⟩)) ?_;· have wz0:=c_after hH.glob.1.kb.below x0;have wz1:=c_after hH.glob.1.kb.below x1;have wz2:=c_after hH.glob.1.kb.below x2;simp [Region.binds] at k9;simp [execOp,go_sem,h9,k9,wz0,wz1,wz2])
      refine RV.cc _ (RV.dc (fun γ L a w hH hl hA=>by have h9:=T γ L a w hH;have k9:=hA;simp [Region.binds] at k9;refine ⟨99,#[.agg #[.int .i64 px,.int .i64 py,.int .i64 pz],.int .i64 1048576],by simp [go_sem,h9,k9],Calls.mono (HTI.out w) ?_⟩;rintro e w2 ⟨rfl,hb⟩;have hG:=hH.glob;exact ⟨_,rfl,rfl,fun j v _ h=>h.keep _,by rw [RV.mn (L:=L) (i:=8) (j:=9) (by decide),RV.mn (L:=L) (i:=8) (j:=12) (by decide)];exact hG.1.step hb,(hG.2.1.below hb).other _ (by decide) (by decide),Nat.le_trans hG.2.2 hb.size⟩)) ?_
      refine RV.cc _ (RV.dc (fun γ L a w hH hl hA=>by have h9:=T γ L a w hH;have k9:=hA;simp [Region.binds] at k9;have h12:L 12 = false:=RV.ny hH (RV.wt (j:=12) (i:=9) hWA (by kernel_rfl)) hl;have hG:=hH.glob;rw [hl,h12] at hG;simp only [Bool.false_and,Bool.or_false] at hG;refine ⟨98,#[.pointer (some ⟨wb,0,none⟩),.agg #[.int .i64 m.a0,.int .i64 m.a1,.int .i64 m.a2,.int .i64 m.a3,.int .i64 m.a4,.int .i64 m.a5,.int .i64 m.a6,.int .i64 m.a7,.int .i64 m.a8],.agg #[.int .i64 nx,.int .i64 ny,.int .i64 nz]],by simp [go_sem,h9,k9],Calls.mono (HTU.out w _ hG.1.fl hG.1.ff) ?_⟩;rintro e w2 ⟨rfl,A⟩;have A9:=A.out;exact ⟨_,rfl,rfl,fun j v _ h=>h.keep _,by rw [RV.more_self,RV.mn (L:=L) (i:=9) (j:=12) (by decide),h12];have h8:=hG.1.after A9;simpa using h8,(hG.2.1.after A9 hwV).other _ (by decide) (by decide),Nat.le_trans hG.2.2 A9.size⟩)) ?_
      iterate 2 first
       | (refine RV.cc _ (RV.pu T (fun γ v L w hl h=>⟨by rw [RV.mn (L:=L) (i:=_) (j:=9) (by decide),RV.mn (L:=L) (i:=_) (j:=12) (by decide)];exact h.1,h.2.1.other v (by decide) (by decide),h.2.2⟩) (fun γ L a w hH hl h9 k9=>⟨_,?_,rfl⟩)) ?_;· simp [execOp,go_sem,h9])
       | (refine RV.cc _ (RV.pu T (fun γ v L w hl h=>⟨by rw [RV.mn (L:=L) (i:=_) (j:=9) (by decide),RV.mn (L:=L) (i:=_) (j:=12) (by decide)];exact h.1,h.2.1.other v (by decide) (by decide),h.2.2⟩) (fun γ L a w hH hl h9 k9=>⟨_,?_,rfl⟩)) ?_;· have wz0:=(hH.glob.1.kb.at (List.mem_cons_of_mem _ List.mem_cons_self) 0 _ rfl).1;have wz1:=(hH.glob.1.kb.at (List.mem_cons_of_mem _ List.mem_cons_self) 1 _ rfl).1;have wz2:=(hH.glob.1.kb.at (List.mem_cons_of_mem _ List.mem_cons_self) 2 _ rfl).1;simp [Region.binds] at k9;simp [execOp,go_sem,h9,k9,wz0,wz1,wz2])
      refine RV.cc _ (RV.dc (fun γ L a w hH hl hA=>by have h9:=T γ L a w hH;have k9:=hA;simp [Region.binds] at k9;have l1:L 9 = true:=hA ⟨9,.data⟩ (by simp) rfl;have hG:=hH.glob;rw [l1,hl] at hG;simp only [Bool.false_and,Bool.true_and,Bool.or_false] at hG;refine ⟨97,#[.pointer (some ⟨wb,0,none⟩),.agg #[.int .i64 ax,.int .i64 ay,.int .i64 az],.agg #[.int .i64 tx,.int .i64 ty,.int .i64 tz]],by simp [go_sem,h9,k9],Calls.mono (HAD.out w _ hG.1.fl hG.1.ff) ?_⟩;rintro e w2 ⟨rfl,A⟩;have A9:=A.out;exact ⟨_,rfl,rfl,fun j v _ h=>h.keep _,by rw [RV.more_self,RV.mn (L:=L) (i:=12) (j:=9) (by decide),l1];have h8:=hG.1.after A9;simpa using h8,(hG.2.1.after A9 hwV).other _ (by decide) (by decide),Nat.le_trans hG.2.2 A9.size⟩)) ?_
      refine RV.cc _ (RV.does_step (fun γ L a w hH hl hA=>by have hG:=hH.glob;have h14:L 14 = false:=RV.ny hH (RV.wt (j:=14) (i:=13) hWA (by kernel_rfl)) hl;exact ⟨.pointer (some ⟨w.heap.size,0,none⟩),w.alloc (.cells #[.int .i64 0,.int .i64 0,.int .i64 0] 23),by simp [execOp,go_sem],trivial,fun j v _ h=>h.keep _,by rw [RV.mn (L:=L) (i:=13) (j:=9) (by decide),RV.mn (L:=L) (i:=13) (j:=12) (by decide)];exact hG.1.step (n_after _ _),RV.Pend.made _ rfl hG.2.2 h14 (by decide),by rw [World.size_alloc];have h8:=hG.2.2;omega⟩)) ?_
      refine RV.cc _ (RV.does_store (fun γ L a w hH hl hA=>by have h9:=T γ L a w hH;have k9:=hA;simp [Region.binds] at k9;have l0:L 13 = true:=hA ⟨13,.data⟩ (by simp) rfl;have e0:=hH.slot 13 11 (by rw [<- hD];rfl) l0;have hG:=hH.glob;obtain ⟨b,cs,hb1,hb2,hb3,hb4,_⟩:=hG.2.1 l0;rw [hb1] at e0;obtain ⟨u0,u1,u2,rfl⟩:=arr3' hb4;have wz0:w.cell? ⟨b,0,none⟩ = some u0:=(by simp [World.cell?,hb3]);have wz1:w.cell? ⟨b,1,none⟩ = some u1:=(by simp [World.cell?,hb3]);have wz2:w.cell? ⟨b,2,none⟩ = some u2:=(by simp [World.cell?,hb3]);have zf:∀ o,w.frozen? ⟨b,o,none⟩ = false:=fun o=>(by simp [World.frozen?,hb3]);have n5:u.ownBlock ≠ some b:=(fun e=>by have h7:=HUV.out b e;omega);exact ⟨(((w.setCell ⟨b,0,none⟩ (.int .i64 sx)).setCell ⟨b,1,none⟩ (.int .i64 sy)).setCell ⟨b,2,none⟩ (.int .i64 sz)),by simp [execOp,go_sem,e0,wz0,wz1,wz2,zf,h9,k9],trivial,fun j v _ h=>h.keep _,by rw [RV.mn (L:=L) (i:=14) (j:=9) (by decide),RV.mn (L:=L) (i:=14) (j:=12) (by decide)];exact hG.1.set3 (by omega) n5 sx sy sz,RV.Pend.filled hb1 hb2 (by have q0:=Go.heap_setCell_same w b 0 _ _ (.int .i64 sx) hb3;have q1:=Go.heap_setCell_same _ b 1 _ _ (.int .i64 sy) q0;have q2:=Go.heap_setCell_same _ b 2 _ _ (.int .i64 sz) q1;simpa using q2) (by decide) _,by have h8:=hG.2.2;simpa [World.setCell] using h8⟩)) ?_
      exact RV.AllDo.nil
     ·intro γ w5 L9 hL hI9 hG9
      have hG:=hG9
      rw [hL 9 (by decide),hL 12 (by decide)] at hG
      obtain ⟨b3,cs,hb1,hb2,hb3,_,hb5⟩:=hG.2.1 (hL 13 (by decide))
      rw [hb5 (hL 14 (by decide))] at hb3
      clear hL hb5 hI9 hG9
      simp only [RV.putL,Act.put,List.setIfInBounds_toArray,List.set_cons_zero,List.set_cons_succ,Nat.reduceAdd]
      rw [hb1]
      have C3:Cells w5 b3 [.int .i64 sx,.int .i64 sy,.int .i64 sz]:=fun i v e=>⟨by simp [World.cell?,hb3];exact e,by simp [World.frozen?,hb3]⟩
      have B3:Hid (Box3 w5 b3 ⟨sx,sy,sz⟩):=⟨(C3 0 _ rfl).1,(C3 1 _ rfl).1,(C3 2 _ rfl).1,(C3 0 _ rfl).2,(C3 1 _ rfl).2,(C3 2 _ rfl).2⟩
      have HW9:Hid (KP w0 w5 n0 [(cb,[.slice (some ⟨g7,f7,none⟩) Ps.length cpv,.slice oav As.length cav,.slice oev Es.length cev,.int .i64 r]),(pb,[.int .i64 tx,.int .i64 ty,.int .i64 tz,.int .i64 qw,.int .i64 qx,.int .i64 qy,.int .i64 qz]),(ob,[.slice none 0 0,.slice none 0 0,.slice none 0 0,.int .i64 0]),(mb,[.int .i64 m.a0,.int .i64 m.a1,.int .i64 m.a2,.int .i64 m.a3,.int .i64 m.a4,.int .i64 m.a5,.int .i64 m.a6,.int .i64 m.a7,.int .i64 m.a8])] xb [u,.slice none 0 0,.slice none 0 0,.int .i64 r] wb (g || b1 || b2) u M):=by show KP _ _ _ _ _ _ _ _ _ _;have h9:=hG.1;simpa using h9
      clear hG hb1 hb3 C3
      go_wp2_with (fail)
      go_meet
      case rel=>exact ⟨b3,rfl,HW9,B3⟩
    case rest =>
     clear HKP HTI HTU HAD HUV hwV hnV HX0 HX1 HX2
     obtain ⟨vb,rfl,HKP,HBV⟩:=hcut
     obtain ⟨V,hV⟩:∃ V,V = wc:=⟨_,rfl⟩
     rw [<- hV] at HKP HBV ⊢
     clear hV
     obtain ⟨g3,hg3⟩:∃ x,x = (g || b1 || b2):=⟨_,rfl⟩
     rw [<- hg3] at HKP
     have HG3:Hid _:=hg3
     clear hg3
     have hnV:n0 <= V.heap.size:=HKP.out.kb.hx
     have hvV:vb < V.heap.size:=HBV.out.lt
     have HUV:Hid (∀ b,u.ownBlock = some b->b < V.heap.size):=fun b e=>(World.ownsRow.lt HKP.out.own b e).2
     go_upto_region 11 with fail
     go_cut [12] from 56 to 65 (fun s12 wx=>∃ b4,s12 = .pointer (some ⟨b4,0,none⟩)/\Hid (KP w0 wx n0 [(cb,[.slice (some ⟨g7,f7,none⟩) Ps.length cpv,.slice oav As.length cav,.slice oev Es.length cev,.int .i64 r]),(pb,[.int .i64 tx,.int .i64 ty,.int .i64 tz,.int .i64 qw,.int .i64 qx,.int .i64 qy,.int .i64 qz]),(ob,[.slice none 0 0,.slice none 0 0,.slice none 0 0,.int .i64 0]),(mb,[.int .i64 m.a0,.int .i64 m.a1,.int .i64 m.a2,.int .i64 m.a3,.int .i64 m.a4,.int .i64 m.a5,.int .i64 m.a6,.int .i64 m.a7,.int .i64 m.a8])] xb [u,.slice none 0 0,.slice none 0 0,.int .i64 r] wb g3 u M)/\Hid (Box3 wx b4 ⟨dx,dy,dz⟩))
     case first =>
      refine RV.rs [.some (.pointer (some ⟨vb,0,none⟩)),.some (.int .i64 sx),.some (.int .i64 dx),.some (.pointer (some ⟨vb,1,none⟩)),.some (.int .i64 sy),.some (.int .i64 dy),.some (.pointer (some ⟨vb,2,none⟩)),.some (.int .i64 sz),.some (.int .i64 dz),.some (.agg #[.int .i64 dx,.int .i64 dy,.int .i64 dz]),none,none] [57,58,59,60,61,62,63,64,65,66,13,0] [(11,.pointer (some ⟨vb,0,none⟩))] (fun γ L w9=>KP w0 w9 n0 [(cb,[.slice (some ⟨g7,f7,none⟩) Ps.length cpv,.slice oav As.length cav,.slice oev Es.length cev,.int .i64 r]),(pb,[.int .i64 tx,.int .i64 ty,.int .i64 tz,.int .i64 qw,.int .i64 qx,.int .i64 qy,.int .i64 qz]),(ob,[.slice none 0 0,.slice none 0 0,.slice none 0 0,.int .i64 0]),(mb,[.int .i64 m.a0,.int .i64 m.a1,.int .i64 m.a2,.int .i64 m.a3,.int .i64 m.a4,.int .i64 m.a5,.int .i64 m.a6,.int .i64 m.a7,.int .i64 m.a8])] xb [u,.slice none 0 0,.slice none 0 0,.int .i64 r] wb g3 u M/\Box3 w9 vb ⟨sx,sy,sz⟩/\RV.Pend V 45 10 11 #[.int .i64 dx,.int .i64 dy,.int .i64 dz] γ L w9/\V.heap.size <= w9.heap.size) ⟨rfl,trivial⟩ ?_ ?_ ?_
      ·have b9:Below V.heap.size V V.drew:=(Below.refl _ _).drew;exact ⟨HKP.out.step b9,HBV.out.step b9,RV.Pend.start rfl,Nat.le_refl _⟩
      ·intro D WA Z hD hWA hZ T
       simp only [RV.Outs,RV.Slots,Nat.reduceAdd] at T
       iterate 2 first
        | (refine RV.cc _ (RV.pu T (fun γ v L w hl h=>⟨h.1,h.2.1,h.2.2.1.other v (by decide) (by decide),h.2.2.2⟩) (fun γ L a w hH hl h9 k9=>⟨_,?_,rfl⟩)) ?_;· simp [execOp,go_sem,h9])
        | (refine RV.cc _ (RV.pu T (fun γ v L w hl h=>⟨h.1,h.2.1,h.2.2.1.other v (by decide) (by decide),h.2.2.2⟩) (fun γ L a w hH hl h9 k9=>⟨_,?_,rfl⟩)) ?_;· have wz0:=hH.glob.2.1.c0;simp [Region.binds] at k9;simp [execOp,go_sem,h9,k9,wz0])
       refine RV.cc _ (RV.dc (fun γ L a w hH hl hA=>by have h9:=T γ L a w hH;have k9:=hA;simp [Region.binds] at k9;refine ⟨100,#[.int .i64 sx],by simp [go_sem,h9,k9],Calls.mono (HDdx.out w) ?_⟩;rintro e w2 ⟨rfl,rfl⟩;have hG:=hH.glob;exact ⟨_,rfl,rfl,fun j v _ h=>h.keep _,hG.1,hG.2.1,hG.2.2.1.other _ (by decide) (by decide),hG.2.2.2⟩)) ?_
       iterate 2 first
        | (refine RV.cc _ (RV.pu T (fun γ v L w hl h=>⟨h.1,h.2.1,h.2.2.1.other v (by decide) (by decide),h.2.2.2⟩) (fun γ L a w hH hl h9 k9=>⟨_,?_,rfl⟩)) ?_;· simp [execOp,go_sem,h9])
        | (refine RV.cc _ (RV.pu T (fun γ v L w hl h=>⟨h.1,h.2.1,h.2.2.1.other v (by decide) (by decide),h.2.2.2⟩) (fun γ L a w hH hl h9 k9=>⟨_,?_,rfl⟩)) ?_;· have wz0:=hH.glob.2.1.c1;simp [Region.binds] at k9;simp [execOp,go_sem,h9,k9,wz0])
       refine RV.cc _ (RV.dc (fun γ L a w hH hl hA=>by have h9:=T γ L a w hH;have k9:=hA;simp [Region.binds] at k9;refine ⟨100,#[.int .i64 sy],by simp [go_sem,h9,k9],Calls.mono (HDdy.out w) ?_⟩;rintro e w2 ⟨rfl,rfl⟩;have hG:=hH.glob;exact ⟨_,rfl,rfl,fun j v _ h=>h.keep _,hG.1,hG.2.1,hG.2.2.1.other _ (by decide) (by decide),hG.2.2.2⟩)) ?_
       iterate 2 first
        | (refine RV.cc _ (RV.pu T (fun γ v L w hl h=>⟨h.1,h.2.1,h.2.2.1.other v (by decide) (by decide),h.2.2.2⟩) (fun γ L a w hH hl h9 k9=>⟨_,?_,rfl⟩)) ?_;· simp [execOp,go_sem,h9])
        | (refine RV.cc _ (RV.pu T (fun γ v L w hl h=>⟨h.1,h.2.1,h.2.2.1.other v (by decide) (by decide),h.2.2.2⟩) (fun γ L a w hH hl h9 k9=>⟨_,?_,rfl⟩)) ?_;· have wz0:=hH.glob.2.1.c2;simp [Region.binds] at k9;simp [execOp,go_sem,h9,k9,wz0])
       refine RV.cc _ (RV.dc (fun γ L a w hH hl hA=>by have h9:=T γ L a w hH;have k9:=hA;simp [Region.binds] at k9;refine ⟨100,#[.int .i64 sz],by simp [go_sem,h9,k9],Calls.mono (HDdz.out w) ?_⟩;rintro e w2 ⟨rfl,rfl⟩;have hG:=hH.glob;exact ⟨_,rfl,rfl,fun j v _ h=>h.keep _,hG.1,hG.2.1,hG.2.2.1.other _ (by decide) (by decide),hG.2.2.2⟩)) ?_
       (refine RV.cc _ (RV.pu T (fun γ v L w hl h=>⟨h.1,h.2.1,h.2.2.1.other v (by decide) (by decide),h.2.2.2⟩) (fun γ L a w hH hl h9 k9=>⟨_,?_,rfl⟩)) ?_;· simp [Region.binds] at k9;simp [execOp,go_sem,h9,k9])
       refine RV.cc _ (RV.does_step (fun γ L a w hH hl hA=>by have hG:=hH.glob;have h11:L 11 = false:=RV.ny hH (RV.wt (j:=11) (i:=10) hWA (by kernel_rfl)) hl;exact ⟨.pointer (some ⟨w.heap.size,0,none⟩),w.alloc (.cells #[.int .i64 0,.int .i64 0,.int .i64 0] 45),by simp [execOp,go_sem],trivial,fun j v _ h=>h.keep _,hG.1.step (n_after _ _),hG.2.1.step (n_after _ _),RV.Pend.made _ rfl hG.2.2.2 h11 (by decide),by rw [World.size_alloc];have h8:=hG.2.2.2;omega⟩)) ?_
       refine RV.cc _ (RV.does_store (fun γ L a w hH hl hA=>by have h9:=T γ L a w hH;have k9:=hA;simp [Region.binds] at k9;have l0:L 10 = true:=hA ⟨10,.data⟩ (by simp) rfl;have e0:=hH.slot 10 12 (by rw [<- hD];rfl) l0;have hG:=hH.glob;obtain ⟨b,cs,hb1,hb2,hb3,hb4,_⟩:=hG.2.2.1 l0;rw [hb1] at e0;obtain ⟨u0,u1,u2,rfl⟩:=arr3' hb4;have wz0:w.cell? ⟨b,0,none⟩ = some u0:=(by simp [World.cell?,hb3]);have wz1:w.cell? ⟨b,1,none⟩ = some u1:=(by simp [World.cell?,hb3]);have wz2:w.cell? ⟨b,2,none⟩ = some u2:=(by simp [World.cell?,hb3]);have zf:∀ o,w.frozen? ⟨b,o,none⟩ = false:=fun o=>(by simp [World.frozen?,hb3]);have n5:u.ownBlock ≠ some b:=(fun e=>by have h7:=HUV.out b e;omega);exact ⟨(((w.setCell ⟨b,0,none⟩ (.int .i64 dx)).setCell ⟨b,1,none⟩ (.int .i64 dy)).setCell ⟨b,2,none⟩ (.int .i64 dz)),by simp [execOp,go_sem,e0,wz0,wz1,wz2,zf,h9,k9],trivial,fun j v _ h=>h.keep _,hG.1.set3 (by omega) n5 dx dy dz,hG.2.1.other (by omega) dx dy dz,RV.Pend.filled hb1 hb2 (by have q0:=Go.heap_setCell_same w b 0 _ _ (.int .i64 dx) hb3;have q1:=Go.heap_setCell_same _ b 1 _ _ (.int .i64 dy) q0;have q2:=Go.heap_setCell_same _ b 2 _ _ (.int .i64 dz) q1;simpa using q2) (by decide) _,by have h8:=hG.2.2.2;simpa [World.setCell] using h8⟩)) ?_
       exact RV.AllDo.nil
      ·intro γ w5 L9 hL hI9 hG9
       have hG:=hG9
       obtain ⟨b4,cs,hb1,hb2,hb3,_,hb5⟩:=hG.2.2.1 (hL 10 (by decide))
       rw [hb5 (hL 11 (by decide))] at hb3
       clear hL hb5 hI9 hG9
       simp only [RV.putL,Act.put,List.setIfInBounds_toArray,List.set_cons_zero,List.set_cons_succ,Nat.reduceAdd]
       rw [hb1]
       have C3:Cells w5 b4 [.int .i64 dx,.int .i64 dy,.int .i64 dz]:=fun i v e=>⟨by simp [World.cell?,hb3];exact e,by simp [World.frozen?,hb3]⟩
       have B3:Hid (Box3 w5 b4 ⟨dx,dy,dz⟩):=⟨(C3 0 _ rfl).1,(C3 1 _ rfl).1,(C3 2 _ rfl).1,(C3 0 _ rfl).2,(C3 1 _ rfl).2,(C3 2 _ rfl).2⟩
       have HW9:Hid (KP w0 w5 n0 [(cb,[.slice (some ⟨g7,f7,none⟩) Ps.length cpv,.slice oav As.length cav,.slice oev Es.length cev,.int .i64 r]),(pb,[.int .i64 tx,.int .i64 ty,.int .i64 tz,.int .i64 qw,.int .i64 qx,.int .i64 qy,.int .i64 qz]),(ob,[.slice none 0 0,.slice none 0 0,.slice none 0 0,.int .i64 0]),(mb,[.int .i64 m.a0,.int .i64 m.a1,.int .i64 m.a2,.int .i64 m.a3,.int .i64 m.a4,.int .i64 m.a5,.int .i64 m.a6,.int .i64 m.a7,.int .i64 m.a8])] xb [u,.slice none 0 0,.slice none 0 0,.int .i64 r] wb g3 u M):=hG.1
       clear hG hb1 hb3 C3
       go_wp2_with (fail)
       go_meet
       case rel=>exact ⟨b4,rfl,HW9,B3⟩
     case rest =>
      clear HKP HBV HUV hnV hvV HDdx HDdy HDdz
      obtain ⟨b4,rfl,HKP,HB4⟩:=hcut
      obtain ⟨c0,c1,c2,f0,f1,f2⟩:=HB4.out
      dsimp only at c0 c1 c2
      go_wp2_with (fail)
      refine Calls.mono (HI2.out _) ?_
      clear HI2 c0 c1 c2 f0 f1 f2
      rintro e V5 ⟨rfl,hb⟩
      have HKP:Hid _:=HKP.out.step hb
      have HB4:Hid _:=HB4.out.step hb
      clear hb
      have OC:Hid _:=HKP.out.kb.at (List.mem_cons_of_mem _ (List.mem_cons_of_mem _ List.mem_cons_self))
      cases hin:Pt.inB ⟨dx,dy,dz⟩ 8388608 with
      | false =>
       have HF:Hid (OK = false):=HF2.out hin
       obtain ⟨b0,d0⟩:=OC.out 0 _ rfl
       obtain ⟨b1',d1⟩:=OC.out 1 _ rfl
       obtain ⟨b2',d2⟩:=OC.out 2 _ rfl
       obtain ⟨b3,d3⟩:=OC.out 3 _ rfl
       go_wp2_with (fail)
       refine bodyPost_ret (v:=.tuple #[.agg #[.slice none 0 0,.slice none 0 0,.slice none 0 0,.int .i64 0],.bool false]) (by simp [results,Tryz.results57,go_sem,b0,b1',b2',b3]) rfl ?_
       exact ⟨_,_,_,fun _=>⟨rfl,three_nil (set4_below HKP.out.kb.below ho4 _ _ _ _)⟩,fun h=>by rw [HF.out] at h;cases h⟩
      | true =>
       have HH2:Hid _:=hin
       clear hin OC
       have hu:=HU.out
       subst hu
       have hnV:n0 <= V5.heap.size:=HKP.out.kb.hx
       obtain ⟨c0,c1,c2,f0,f1,f2⟩:=HB4.out
       dsimp only at c0 c1 c2
       have t0:=(HKP.out.kb.box 0 _ rfl).1
       go_wp2_with (at_builtin;refine wpList_append_own_at _ rfl _ _ 26 rfl n0 45 i0 _ 3 24 Tryz.underlying26 HI.out.1 HI.out.2.1 HI.out.2.2.1 HI.out.2.2.2 rfl (by decide) _ _ _ rfl (own_below HKP.out.own (n_after V5 _)) ⟨V5.heap.size,0,none⟩ 1 1 [.int .i64 dx,.int .i64 dy,.int .i64 dz] rfl rfl (news_at (heap_alloc_new V5 _)) (by intro u hu;simp at hu;rcases hu with rfl | rfl | rfl <;> rfl) (by unfold maxLen;omega) (by omega) (by simp;omega) ?_;intro u9 V6 r8 g8 _ s8;obtain ⟨gg8,kk8,rfl⟩:=ownsRow_succ r8;have HK6:Hid _:=(HKP.out.step (n_after _ _)).app (p:=⟨dx,dy,dz⟩) r8 g8;have t9:=HK6.out.kb.box 0 _ rfl;have t0:=t9.1;have g0:=t9.2;clear t9 r8 g8 s8)
       go_roundg (Ps.length - (i + 1))
       case rel =>
        obtain ⟨i2,g9,u2,e1,e2,e3,e4,e5,e6,rfl⟩:=HLM.out HH.out HH2.out HSU.out (by rw [HG3.out,Bool.or_assoc]) (HK6.out.put 0 _ (by simp))
        exact ⟨i2,g9,_,e1,e2,e3,e4,e5,e6⟩
       case measure=>have:=HG1.out;omega
  ·obtain rfl:i = Ps.length:=by omega
   have HMP:Hid (firsts (fun k=>m.ptV ⟨tx,ty,tz⟩ (pt Ps k)) Ps.length = Ps.map (m.ptV ⟨tx,ty,tz⟩)):=firsts_map Ps _
   have HGP:Hid (g = (f || Ps.any (m.ptB ⟨tx,ty,tz⟩))):=by show _ = _;rw [HGB.out,anyK_any]
   have HP1:Hid (Ps.all (fun p=>p.win 1048576) = true):=all_firsts fun j hj=>by rw [win_in _ _ (by decide) (by decide)];exact (HAL.out j hj).1
   have HP2:Hid ((Ps.map (m.ptV ⟨tx,ty,tz⟩)).all (fun p=>p.win 8388608) = true):=by
    show _ = _
    rw [List.all_map]
    exact all_firsts fun j hj=>by show Pt.win _ _ = true;rw [win_in _ _ (by decide) (by decide)];exact (HAL.out j hj).2
   obtain ⟨M,hM⟩:∃ M,M = firsts (fun k=>m.ptV ⟨tx,ty,tz⟩ (pt Ps k)) Ps.length:=⟨_,rfl⟩
   rw [<- hM] at HKP HMP hlm
   clear hM HAL HGB HSU HCL HPV HPB HIN HTU0
   obtain ⟨uo,uc,hu⟩:=rowp_form HKP.out.own
   subst hu
   have hsz:=HKP.out.kb.hx
   have hwn:=HKP.out.wl.2
   have HW1:Hid _:=HWY.out wb g As (.slice oav As.length cav) wr HKP.out.fl HKP.out.ff (HKP.out.lies HLA.out).1 (HKP.out.lies HLA.out).2 hNAs
   have k1:=(HKP.out.kb.at List.mem_cons_self 1 _ rfl).1
   have CM:Hid _:=HKP.out.kb.at (List.mem_cons_of_mem _ (List.mem_cons_of_mem _ (List.mem_cons_of_mem _ List.mem_cons_self)))
   have z0:=(CM.out 0 _ rfl).1
   have z1:=(CM.out 1 _ rfl).1
   have z2:=(CM.out 2 _ rfl).1
   have z3:=(CM.out 3 _ rfl).1
   have z4:=(CM.out 4 _ rfl).1
   have z5:=(CM.out 5 _ rfl).1
   have z6:=(CM.out 6 _ rfl).1
   have z7:=(CM.out 7 _ rfl).1
   have z8:=(CM.out 8 _ rfl).1
   unfold M9.v at HW1
   dsimp only at HW1
   go_wp2_with (fail)
   refine Calls.mono HW1.out ?_
   clear z0 z1 z2 z3 z4 z5 z6 z7 z8 CM k0 k1 HW1
   rintro e Y1 ⟨o1,c1,g1,M1,rfl,HS1,HA1⟩
   have HKP1:Hid _:=HKP.out.after (HS1.out.lv.done HS1.out.fl HS1.out.ff)
   have hsz1:=HS1.out.lv.size
   obtain ⟨one,h1⟩:∃ b,b = As.all (fun p=>p.win 1048576):=⟨_,rfl⟩
   rw [<- h1] at HA1 HOK ⊢
   clear h1
   have HW2:Hid _:=HWY.out wb g1 Es (.slice oev Es.length cev) Y1 HKP1.out.fl HKP1.out.ff (HKP1.out.lies HLE.out).1 (HKP1.out.lies HLE.out).2 hNEs
   have k2:=(HKP1.out.kb.at List.mem_cons_self 2 _ rfl).1
   have CM:Hid _:=HKP1.out.kb.at (List.mem_cons_of_mem _ (List.mem_cons_of_mem _ (List.mem_cons_of_mem _ List.mem_cons_self)))
   have z0:=(CM.out 0 _ rfl).1
   have z1:=(CM.out 1 _ rfl).1
   have z2:=(CM.out 2 _ rfl).1
   have z3:=(CM.out 3 _ rfl).1
   have z4:=(CM.out 4 _ rfl).1
   have z5:=(CM.out 5 _ rfl).1
   have z6:=(CM.out 6 _ rfl).1
   have z7:=(CM.out 7 _ rfl).1
   have z8:=(CM.out 8 _ rfl).1
   unfold M9.v at HW2
   dsimp only at HW2
   go_wp2_with (fail)
   refine Calls.mono HW2.out ?_
   clear z0 z1 z2 z3 z4 z5 z6 z7 z8 CM k2 HW2
   rintro e Y2 ⟨o2,c2,g2,M2,rfl,HS2,HA2⟩
   have A2:Hid _:=HS2.out.lv.done HS2.out.fl HS2.out.ff
   have HKP2:Hid _:=HKP1.out.after A2.out
   have HR1:Hid (Y2.ownsRow wr.heap.size 45 3 (.slice o1 M1.length c1) M1.length (fl3 M1)):=row_turn HS1.out.own (after_grown A2.out) (fun r e=>by cases e;omega)
   have HR2:Hid _:=HS2.out.own
   obtain ⟨two,h2⟩:∃ b,b = Es.all (fun p=>p.win 1048576):=⟨_,rfl⟩
   rw [<- h2] at HA2 HOK ⊢
   clear h2 A2
   have HRP:Hid _:=HKP2.out.own
   have hl1:∀ k,(Value.slice uo M.length uc).ownBlock = some k->k < wr.heap.size:=fun k e=>(World.ownsRow.lt HKP.out.own k e).2
   have hl2:∀ k,(Value.slice o1 M1.length c1).ownBlock = some k->wr.heap.size <= k/\k < Y1.heap.size:=fun k e=>World.ownsRow.lt HS1.out.own k e
   have hl3:∀ k,(Value.slice o2 M2.length c2).ownBlock = some k->Y1.heap.size <= k:=fun k e=>(World.ownsRow.lt HS2.out.own k e).1
   have HL:Hid _:=And.intro hl1 (And.intro hl2 hl3)
   clear hl1 hl2 hl3 HS1 HS2 HKP HKP1
   have fl:=HKP2.out.fl
   have k0:=(HKP2.out.kb.at List.mem_cons_self 0 _ rfl).1
   obtain ⟨bl,hbl⟩:∃ b,((Ps.length:Int) == 0) = b:=⟨_,rfl⟩
   have HBL:Hid (decide (0 < Ps.length) = !bl):=by
    show _ = _
    rw [<- hbl]
    rcases Nat.eq_zero_or_pos Ps.length with h | h
    ·rw [h];rfl
    ·rw [decide_eq_true h,beq_eq_false_iff_ne.2 (by omega)];rfl
   go_upto_region 18 with fail
   go_cut [110] from 93 to 110 (fun s110 wx=>s110 = .bool (g2 || (!one || (!two || bl)))/\wx = Y2)
   case first =>
    clear HKP2 HR1 HR2 HRP HL HA1 HA2 HOK HBL HGP HP1 HP2 HMP HWY
    cases g2 <;> cases one <;> cases two <;> cases bl
    all_goals
     go_wp2_with (fail)
     go_meet
     case rel=>exact ⟨rfl,rfl⟩
   case rest =>
    have HKF:Hid (OK = !(g2 || (!one || (!two || bl)))):=place_bool (by have h:=HOK.out;rw [HP1.out,HP2.out] at h;exact h) HBL.out HGP.out (fun h=>(HA1.out h).1) (fun h=>(HA2.out h).1)
    obtain ⟨rfl,e9⟩:=hcut
    subst e9
    clear hbl HBL HOK HP1 HP2 HGP HWY fl k0
    have HON:Hid (false = (g2 || (!one || (!two || bl)))->one = true/\two = true):=by
     show _->_
     cases one <;> cases two <;> cases g2 <;> simp
    obtain ⟨C,hC⟩:∃ C,C = (g2 || (!one || (!two || bl))):=⟨_,rfl⟩
    rw [<- hC] at HKF HON ⊢
    clear hC
    have OC:Hid _:=HKP2.out.kb.at (List.mem_cons_of_mem _ (List.mem_cons_of_mem _ List.mem_cons_self))
    obtain ⟨b0,d0⟩:=OC.out 0 _ rfl
    obtain ⟨b1,d1⟩:=OC.out 1 _ rfl
    obtain ⟨b2,d2⟩:=OC.out 2 _ rfl
    obtain ⟨b3,d3⟩:=OC.out 3 _ rfl
    cases C with
    | true =>
     have HF:Hid (OK = false):=HKF.out
     go_wp2_with (fail)
     refine bodyPost_ret (v:=.tuple #[.agg #[.slice none 0 0,.slice none 0 0,.slice none 0 0,.int .i64 0],.bool false]) (by simp [results,Tryz.results57,go_sem,b0,b1,b2,b3]) rfl ?_
     exact ⟨_,_,_,fun _=>⟨rfl,three_nil (set4_below HKP2.out.kb.below ho4 _ _ _ _)⟩,fun h=>by rw [HF.out] at h;cases h⟩
    | false =>
     have HT:Hid (OK = true):=HKF.out
     have HD1:Hid (M1 = m.dirs As):=(HA1.out (HON.out rfl).1).2
     have HD2:Hid (M2 = m.dirs Es):=(HA2.out (HON.out rfl).2).2
     clear HKF HON HA1 HA2
     obtain ⟨hob3,hob4⟩:=hob2
     have hxn:=HKP2.out.kb.lt
     have hw9:=HKP2.out.kb.hn
     have nP:(Value.slice uo M.length uc).ownBlock ≠ some xb:=fun e=>by have h5:=(World.ownsRow.lt HRP.out _ e).1;omega
     have nA:(Value.slice o1 M1.length c1).ownBlock ≠ some xb:=fun e=>by have h5:=(World.ownsRow.lt HR1.out _ e).1;omega
     have nE:(Value.slice o2 M2.length c2).ownBlock ≠ some xb:=fun e=>by have h5:=(World.ownsRow.lt HR2.out _ e).1;omega
     have oP:(Value.slice uo M.length uc).ownBlock ≠ some ob:=fun e=>by have h5:=(World.ownsRow.lt HRP.out _ e).1;omega
     have oA:(Value.slice o1 M1.length c1).ownBlock ≠ some ob:=fun e=>by have h5:=(World.ownsRow.lt HR1.out _ e).1;omega
     have oE:(Value.slice o2 M2.length c2).ownBlock ≠ some ob:=fun e=>by have h5:=(World.ownsRow.lt HR2.out _ e).1;omega
     have T3:Hid (Three w0 ((wc.setCell ⟨xb,1,none⟩ (.slice o1 M1.length c1)).setCell ⟨xb,2,none⟩ (.slice o2 M2.length c2)) (.slice uo M.length uc) (.slice o1 M1.length c1) (.slice o2 M2.length c2) M M1 M2):=
      ⟨own_le (ownsRow_setCell_other (ownsRow_setCell_other HRP.out nP _) nP _) hw9,own_le (ownsRow_setCell_other (ownsRow_setCell_other HR1.out nA _) nA _) (by omega),own_le (ownsRow_setCell_other (ownsRow_setCell_other HR2.out nE _) nE _) (by omega),
       fun k e1 e2=>by have h5:=HL.out.1 k e1;have h6:=HL.out.2.1 k e2;omega,fun k e1 e2=>by have h5:=HL.out.1 k e1;have h6:=HL.out.2.2 k e2;omega,fun k e1 e2=>by have h5:=HL.out.2.1 k e1;have h6:=HL.out.2.2 k e2;omega,
       (HKP2.out.kb.below.setCell HKP2.out.kb.ge _).setCell HKP2.out.kb.ge _⟩
     have T4:Hid _:=T3.out.set ho4 oP oA oE (.slice uo M.length uc) (.slice o1 M1.length c1) (.slice o2 M2.length c2) (.int .i64 r)
     unfold set4 at T4
     obtain ⟨t0,s0⟩:=HKP2.out.kb.box 0 _ rfl
     obtain ⟨t1,s1⟩:=HKP2.out.kb.box 1 _ rfl
     obtain ⟨t2,s2⟩:=HKP2.out.kb.box 2 _ rfl
     obtain ⟨t3,s3⟩:=HKP2.out.kb.box 3 _ rfl
     clear T3 HL HR1 HR2 HRP nP nA nE oP oA oE
     go_wp2_with (fail)
     refine bodyPost_ret (v:=.tuple #[.agg #[.slice uo M.length uc,.slice o1 M1.length c1,.slice o2 M2.length c2,.int .i64 r],.bool true]) (by simp [results,Tryz.results57,go_sem,b0,b1,b2,b3]) rfl ?_
     refine ⟨_,_,_,(fun h=>by rw [HT.out] at h;cases h),fun _=>⟨rfl,?_⟩⟩
     rw [<- HMP.out,<- HD1.out,<- HD2.out]
     exact T4.out
end
end Go.Proofs.YtablgiflakncfaaGreat
