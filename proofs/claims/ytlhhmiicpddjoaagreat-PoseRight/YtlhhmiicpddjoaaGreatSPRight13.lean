/- The document's own Place. -/
import Derived.Test.YtlhhmiicpddjoaaGreatSPRight0
import Derived.Test.YtlhhmiicpddjoaaGreatSPRight12
import Derived.Test.YtlhhmiicpddjoaaGreatSPRight3
import Derived.Test.YtlhhmiicpddjoaaGreatSPRight11
import Derived.Test.YtlhhmiicpddjoaaGreatSPRight7
import Derived.Test.YtlhhmiicpddjoaaGreatSPRight9
import Derived.Test.YtlhhmiicpddjoaaGreatSPRight6
set_option maxHeartbeats 8000000
set_option maxRecDepth 100000
set_option linter.unusedVariables false
namespace Go.Proofs.YtlhhmiicpddjoaaGreat
section
open Go.RowKit Go.Shelf
theorem KP.start {w0 W1 V1:World} {n1 wb:Nat} {bs:List (Nat × List Value)} {f0 f:Bool} (h:KB w0 W1 n1 bs wb [.bool f0]) (A:After ⟨wb,0,none⟩ f W1 V1) (l5 l6:List Value) (t5 t6:TypeId) :
  KP w0 ((V1.alloc (.cells l5.toArray t5)).alloc (.cells l6.toArray t6)) (V1.heap.size + 2) (bs ++ [(V1.heap.size,l5)]) (V1.heap.size + 1) l6 wb f (.slice none 0 0) []:=by
 have hs:n1 <= V1.heap.size:=Nat.le_trans h.hx A.size
 have hlt:=h.lt
 have hge:=h.ge
 have hn:=h.hn
 have c5:=(Cells.new V1 l5 t5).step (n_after _ (.cells l6.toArray t6))
 have c6:=Cells.new (V1.alloc (.cells l5.toArray t5)) l6 t6
 rw [World.size_alloc] at c6
 have b9:Below V1.heap.size V1 ((V1.alloc (.cells l5.toArray t5)).alloc (.cells l6.toArray t6)):=b_step (n_after _ _) (n_after _ _)
 refine ⟨⟨b_step (A.on h.below h.ge) b9,fun p hp=>?_,c6,by omega,by omega,by omega,by simp⟩,fun p hp=>?_,by omega,⟨hge,by omega⟩,c_after b9 A.cell,f_after b9 A.cell A.frozen,World.ownsRow_nil _ _ _ _⟩
 ·rw [List.mem_append] at hp
  rcases hp with hp | hp
  ·have k1:=h.fix p hp
   exact ⟨by omega,by omega,(k1.2.2.beside A k1.2.1).step b9⟩
  ·simp only [List.mem_cons,List.not_mem_nil,or_false] at hp
   subst hp
   exact ⟨by show _ < _;omega,by show _ ≠ _;omega,c5⟩
 ·rw [List.mem_append] at hp
  rcases hp with hp | hp
  ·exact (h.fix p hp).2.1
  ·simp only [List.mem_cons,List.not_mem_nil,or_false] at hp
   subst hp
   show _ ≠ _
   omega
theorem place_bool {OK f pa aa ea one two bl g g1 g2 d:Bool} (hOK:OK = (d && (true && (one && two)) && (!(f || pa || aa || ea) && true))) (hd:d = !bl) (hg:g = (f || pa)) (h1:one = true->g1 = (g || aa)) (h2:two = true->g2 = (g1 || ea)):OK = !(g2 || (!one || (!two || bl))):=by
 subst hOK hd hg
 cases one
 ·simp
 ·cases two
  ·simp
  ·have e1:=h1 rfl
   subst e1
   have e2:=h2 rfl
   subst e2
   cases bl <;> simp
theorem all_firsts {Ls:List Pt} {f:Pt->Bool} (h:∀ j,j < Ls.length->f (pt Ls j) = true):Ls.all f = true:=by
 rw [List.all_eq_true]
 intro p hp
 obtain ⟨j,hj,e⟩:=pt_of_mem hp
 rw [<- e];exact h j hj
theorem not_all {Ls:List Pt} {f:Pt->Bool} {p:Pt} (hp:p ∈ Ls) (h:f p = false):Ls.all f = false:=by
 rw [List.all_eq_false];exact ⟨p,hp,by rw [h];simp⟩
theorem rplace_any (t:Pt) (q:Q4) (Ps As Es:List Pt) (r:Int) (pv av ev:Value) (w0:World) (hp:Lies w0 pv Ps) (ha:Lies w0 av As) (he:Lies w0 ev Es) (hNPs:Ps.length < 1099511627776) (hNAs:As.length < 1099511627776) (hNEs:Es.length < 1099511627776) :
  Calls Tryz.prog 23 #[coreV pv av ev r,poseV t q] w0 fun e W=>∃ vp va ve,(placeOk t q Ps As Es = false->e = .returned (.tuple #[.agg #[vp,va,ve,.int .i64 0],.bool false])/\Three w0 W vp va ve [] [] [])/\(placeOk t q Ps As Es = true->e = .returned (.tuple #[.agg #[vp,va,ve,.int .i64 r],.bool true])/\Three w0 W vp va ve (Ps.map ((rowsM q).ptV t)) ((rowsM q).dirs As) ((rowsM q).dirs Es)):=by
 obtain ⟨opv,cpv,rfl,hlc,hcm,hcell⟩:=hp.form
 obtain ⟨oav,cav,rfl,hlca,hcma,_⟩:=ha.form
 obtain ⟨oev,cev,rfl,hlce,hcme,_⟩:=he.form
 have HCL:Hid _:=hcell
 have HLA:Hid _:=ha
 have HLE:Hid _:=he
 clear hp ha he hcell
 obtain ⟨i0,hii,hiz,hisz,hib⟩:=info_parts point_info
 have HI:Hid _:=And.intro hii (And.intro hiz (And.intro hisz hib))
 clear hii hiz hisz hib
 have HR:Hid _:=fun (b:Nat) (w:World) (g:Bool)=>rvrows_m b 0 g q w
 have HOK:Hid (placeOk t q Ps As Es = (placeableP Ps As Es && (!(badP t q Ps As Es) && nearP (Ps.map ((rowsM q).ptV t))))):=rfl
 obtain ⟨OK,hOK⟩:∃ OK,placeOk t q Ps As Es = OK:=⟨_,rfl⟩
 rw [hOK] at HOK ⊢
 clear hOK
 unfold badP nearP placeableP at HOK
 generalize rowsM q = m at *
 generalize rowsB q = f at *
 have HIN:Hid (∀ p:Pt,∀ mm:Int,(0 <= mm/\mm <= 4611686018427387903)->∀ w',Calls Tryz.prog 52 #[p.v,.int .i64 mm] w' fun e W=>e = .returned (.bool (p.inB mm))/\Below w'.heap.size w' W):=fun p mm h w'=>rin6_any p mm w' h
 have HWY:Hid _:=fun (wb:Nat) (f:Bool)=>rways_uni wb f m
 have HTU0:Hid _:=fun (wb:Nat) (x:Pt) (w':World) (g:Bool)=>rvturn_pt wb 0 g m x w'
 have HPV:Hid (∀ p,m.ptV t p = ((((m.turn (p.times 1048576)).getD Pt.O).addO t).getD Pt.O).grain):=fun _=>rfl
 have HPB:Hid (∀ p,m.ptB t p = ((m.turn (p.times 1048576)).isNone || (((m.turn (p.times 1048576)).getD Pt.O).addO t).isNone)):=fun _=>rfl
 obtain ⟨tx,ty,tz⟩:=t
 obtain ⟨qw,qx,qy,qz⟩:=q
 have HK0:Hid _:=KB.start4 w0 [.slice opv Ps.length cpv,.slice oav As.length cav,.slice oev Es.length cev,.int .i64 r] [.int .i64 tx,.int .i64 ty,.int .i64 tz,.int .i64 qw,.int .i64 qx,.int .i64 qy,.int .i64 qz] [.slice none 0 0,.slice none 0 0,.slice none 0 0,.int .i64 0] [.bool false] 33 41 33 66
 unfold coreV poseV
 dsimp only at *
 go_enter Tryz.func23,Tryz.ntmps23
 go_upto_region 2 with fail
 obtain ⟨W1,hW1⟩:∃ X,X = (((w0.alloc (.cells #[.slice opv Ps.length cpv,.slice oav As.length cav,.slice oev Es.length cev,.int .i64 r] 33)).alloc (.cells #[.int .i64 tx,.int .i64 ty,.int .i64 tz,.int .i64 qw,.int .i64 qx,.int .i64 qy,.int .i64 qz] 41)).alloc (.cells #[.slice none 0 0,.slice none 0 0,.slice none 0 0,.int .i64 0] 33)).alloc (.cells #[.bool false] 66):=⟨_,rfl⟩
 obtain ⟨cb,hcb⟩:∃ b,b = w0.heap.size:=⟨_,rfl⟩
 obtain ⟨pb,hpb⟩:∃ b,b = w0.heap.size + 1:=⟨_,rfl⟩
 obtain ⟨ob,hob⟩:∃ b,b = w0.heap.size + 1 + 1:=⟨_,rfl⟩
 obtain ⟨wb,hwb⟩:∃ b,b = w0.heap.size + 1 + 1 + 1:=⟨_,rfl⟩
 rw [<- hW1,<- hwb,<- hob,<- hpb,<- hcb] at HK0
 rw [<- hW1,<- hwb,<- hob,<- hpb,<- hcb]
 have ho4:w0.heap.size <= ob:=by omega
 clear hW1 hwb hob hpb hcb
 have HRO:Hid _:=HR.out wb W1 false (HK0.out.box 0 _ rfl).1 (HK0.out.box 0 _ rfl).2
 have p3:=(HK0.out.at (List.mem_cons_of_mem _ List.mem_cons_self) 3 _ rfl).1
 have p4:=(HK0.out.at (List.mem_cons_of_mem _ List.mem_cons_self) 4 _ rfl).1
 have p5:=(HK0.out.at (List.mem_cons_of_mem _ List.mem_cons_self) 5 _ rfl).1
 have p6:=(HK0.out.at (List.mem_cons_of_mem _ List.mem_cons_self) 6 _ rfl).1
 unfold M9.v at HRO
 go_wp2_with (fail)
 refine Calls.mono HRO.out ?_
 rintro e V1 ⟨rfl,A⟩
 have A9:=A.out
 simp only [Bool.false_or] at A9
 have k3:=A9.cellOf (HK0.out.at List.mem_cons_self 3 _ rfl).1 (HK0.out.fix _ List.mem_cons_self).2.1
 have hcV:cb < V1.heap.size:=World.block_lt_of_cell? _ _ k3
 have HKP0:Hid _:=KP.start HK0.out A9 [.int .i64 m.a0,.int .i64 m.a1,.int .i64 m.a2,.int .i64 m.a3,.int .i64 m.a4,.int .i64 m.a5,.int .i64 m.a6,.int .i64 m.a7,.int .i64 m.a8] [.slice none 0 0,.slice none 0 0,.slice none 0 0,.int .i64 r] 61 33
 clear A A9 p3 p4 p5 p6 HRO HK0 HR
 go_upto_region 4 with fail
 obtain ⟨mb,hmb⟩:∃ b,b = V1.heap.size:=⟨_,rfl⟩
 obtain ⟨xb,hxb⟩:∃ b,b = V1.heap.size + 1:=⟨_,rfl⟩
 obtain ⟨n0,hn0⟩:∃ b,b = V1.heap.size + 2:=⟨_,rfl⟩
 obtain ⟨V3,hV3⟩:∃ X,X = (V1.alloc (.cells #[.int .i64 m.a0,.int .i64 m.a1,.int .i64 m.a2,.int .i64 m.a3,.int .i64 m.a4,.int .i64 m.a5,.int .i64 m.a6,.int .i64 m.a7,.int .i64 m.a8] 61)).alloc (.cells #[.slice none 0 0,.slice none 0 0,.slice none 0 0,.int .i64 r] 33):=⟨_,rfl⟩
 rw [<- hV3,<- hn0,<- hxb,<- hmb] at HKP0
 have HKP:Hid (KP w0 V3 n0 [(cb,[.slice opv Ps.length cpv,.slice oav As.length cav,.slice oev Es.length cev,.int .i64 r]),(pb,[.int .i64 tx,.int .i64 ty,.int .i64 tz,.int .i64 qw,.int .i64 qx,.int .i64 qy,.int .i64 qz]),(ob,[.slice none 0 0,.slice none 0 0,.slice none 0 0,.int .i64 0]),(mb,[.int .i64 m.a0,.int .i64 m.a1,.int .i64 m.a2,.int .i64 m.a3,.int .i64 m.a4,.int .i64 m.a5,.int .i64 m.a6,.int .i64 m.a7,.int .i64 m.a8])] xb [.slice none 0 0,.slice none 0 0,.slice none 0 0,.int .i64 r] wb f (.slice none 0 0) []):=HKP0.out
 rw [<- hV3,<- hxb,<- hmb]
 have hob2:ob < n0/\xb ≠ ob:=⟨(HKP.out.kb.fix _ (List.mem_cons_of_mem _ (List.mem_cons_of_mem _ List.mem_cons_self))).1,Ne.symm (HKP.out.kb.fix _ (List.mem_cons_of_mem _ (List.mem_cons_of_mem _ List.mem_cons_self))).2.1⟩
 clear HKP0 hV3 hn0 hxb hmb k3 hcV
 go_wp2_with (fail)
 go_loopg [9] Ps.length (fun gm s9 wr=>∃ (i:Nat) (g:Bool) (u:Value),s9 = .int .i64 (i:Int)/\i <= Ps.length/\gm = Ps.length - i/\Hid (KP w0 wr n0 [(cb,[.slice opv Ps.length cpv,.slice oav As.length cav,.slice oev Es.length cev,.int .i64 r]),(pb,[.int .i64 tx,.int .i64 ty,.int .i64 tz,.int .i64 qw,.int .i64 qx,.int .i64 qy,.int .i64 qz]),(ob,[.slice none 0 0,.slice none 0 0,.slice none 0 0,.int .i64 0]),(mb,[.int .i64 m.a0,.int .i64 m.a1,.int .i64 m.a2,.int .i64 m.a3,.int .i64 m.a4,.int .i64 m.a5,.int .i64 m.a6,.int .i64 m.a7,.int .i64 m.a8])] xb [u,.slice none 0 0,.slice none 0 0,.int .i64 r] wb g u (firsts (fun k=>m.ptV ⟨tx,ty,tz⟩ (pt Ps k)) i))/\Hid (g = (f || anyK (fun k=>m.ptB ⟨tx,ty,tz⟩ (pt Ps k)) i))/\Hid (∀ j,j < i->(pt Ps j).inB 1048576 = true/\(m.ptV ⟨tx,ty,tz⟩ (pt Ps j)).inB 8388608 = true))
 case atStart=>exact ⟨0,f,_,rfl,Nat.zero_le _,rfl,HKP,by show _ = _;simp [anyK],fun j hj=>absurd hj (by omega)⟩
 case round =>
  clear HKP
  obtain ⟨i,g,u,rfl,hi,hgm,HKP,HGB,HAL⟩:=hrel
  have HG1:Hid _:=hgm
  clear hgm
  have HSU:Hid (firsts (fun k=>m.ptV ⟨tx,ty,tz⟩ (pt Ps k)) (i + 1) = firsts (fun k=>m.ptV ⟨tx,ty,tz⟩ (pt Ps k)) i ++ [m.ptV ⟨tx,ty,tz⟩ (pt Ps i)]):=firsts_succ _ _
  have hlm:(firsts (fun k=>m.ptV ⟨tx,ty,tz⟩ (pt Ps k)) i).length < 1099511627776:=by rw [firsts_length];omega
  have k0:=(HKP.out.kb.at List.mem_cons_self 0 _ rfl).1
  by_cases hit:i < Ps.length
  ·obtain ⟨g7,f7,rfl,x0,x1,x2⟩:=HCL.out i hit
   have y0:=c_after HKP.out.kb.below x0
   have y1:=c_after HKP.out.kb.below x1
   have y2:=c_after HKP.out.kb.below x2
   have hit2:(i:Int) < (Ps.length:Int):=by omega
   have HF1:Hid ((pt Ps i).inB 1048576 = false->OK = false):=fun h=>by
    rw [HOK.out,not_all (f:=fun p=>p.win 1048576) (pt_mem hit) (by rw [win_in _ _ (by decide) (by decide)];exact h)];simp
   have HF2:Hid ((m.ptV ⟨tx,ty,tz⟩ (pt Ps i)).inB 8388608 = false->OK = false):=fun h=>by
    rw [HOK.out,not_all (Ls:=Ps.map (m.ptV ⟨tx,ty,tz⟩)) (f:=fun p=>p.win 8388608) (List.mem_map_of_mem (pt_mem hit)) (by rw [win_in _ _ (by decide) (by decide)];exact h)];simp
   have HLM:Hid (∀ {X:World} {u:Value} {g2:Bool} {M2:List Pt},(pt Ps i).inB 1048576 = true->(m.ptV ⟨tx,ty,tz⟩ (pt Ps i)).inB 8388608 = true->firsts (fun k=>m.ptV ⟨tx,ty,tz⟩ (pt Ps k)) (i + 1) = M2->g2 = (g || m.ptB ⟨tx,ty,tz⟩ (pt Ps i))->KP w0 X n0 [(cb,[.slice (some ⟨g7,f7,none⟩) Ps.length cpv,.slice oav As.length cav,.slice oev Es.length cev,.int .i64 r]),(pb,[.int .i64 tx,.int .i64 ty,.int .i64 tz,.int .i64 qw,.int .i64 qx,.int .i64 qy,.int .i64 qz]),(ob,[.slice none 0 0,.slice none 0 0,.slice none 0 0,.int .i64 0]),(mb,[.int .i64 m.a0,.int .i64 m.a1,.int .i64 m.a2,.int .i64 m.a3,.int .i64 m.a4,.int .i64 m.a5,.int .i64 m.a6,.int .i64 m.a7,.int .i64 m.a8])] xb [u,.slice none 0 0,.slice none 0 0,.int .i64 r] wb g2 u M2->∃ (i2:Nat) (g:Bool) (u2:Value),(Value.int .i64 ((i + 1:Nat):Int)) = .int .i64 (i2:Int)/\i2 <= Ps.length/\Ps.length - (i + 1) = Ps.length - i2/\Hid (KP w0 X n0 [(cb,[.slice (some ⟨g7,f7,none⟩) Ps.length cpv,.slice oav As.length cav,.slice oev Es.length cev,.int .i64 r]),(pb,[.int .i64 tx,.int .i64 ty,.int .i64 tz,.int .i64 qw,.int .i64 qx,.int .i64 qy,.int .i64 qz]),(ob,[.slice none 0 0,.slice none 0 0,.slice none 0 0,.int .i64 0]),(mb,[.int .i64 m.a0,.int .i64 m.a1,.int .i64 m.a2,.int .i64 m.a3,.int .i64 m.a4,.int .i64 m.a5,.int .i64 m.a6,.int .i64 m.a7,.int .i64 m.a8])] xb [u2,.slice none 0 0,.slice none 0 0,.int .i64 r] wb g u2 (firsts (fun k=>m.ptV ⟨tx,ty,tz⟩ (pt Ps k)) i2))/\Hid (g = (f || anyK (fun k=>m.ptB ⟨tx,ty,tz⟩ (pt Ps k)) i2))/\Hid (∀ j,j < i2->(pt Ps j).inB 1048576 = true/\(m.ptV ⟨tx,ty,tz⟩ (pt Ps j)).inB 8388608 = true)/\u = u2):=by
    intro X u g2 M2 h1 h2 h3 h4 h5
    refine ⟨i + 1,g2,u,rfl,by omega,rfl,by rw [h3];exact h5,?_,?_,rfl⟩
    ·show _ = _
     rw [h4,HGB.out];simp [anyK,Bool.or_assoc]
    ·intro j hj
     by_cases e:j = i
     ·subst e;exact ⟨h1,h2⟩
     ·exact HAL.out j (by omega)
   obtain ⟨M,hM⟩:∃ M,M = firsts (fun k=>m.ptV ⟨tx,ty,tz⟩ (pt Ps k)) i:=⟨_,rfl⟩
   rw [<- hM] at HKP HSU hlm
   clear hM HAL HGB HOK HCL HLA HLE
   obtain ⟨uo,uc,hu⟩:=rowp_form HKP.out.own
   have HU:Hid _:=hu
   clear hu
   have HVi:=HPV.out (pt Ps i)
   have HBi:=HPB.out (pt Ps i)
   generalize pt Ps i = p at *
   obtain ⟨n,hn⟩:∃ n,n = p.times 1048576:=⟨_,rfl⟩
   rw [<- hn] at HVi HBi
   obtain ⟨a,ha⟩:∃ a,a = (m.turn n).getD Pt.O:=⟨_,rfl⟩
   obtain ⟨b1,hb1⟩:∃ b,b = (m.turn n).isNone:=⟨_,rfl⟩
   rw [<- ha] at HVi HBi
   rw [<- hb1] at HBi
   have HAM:=add_mid a ⟨tx,ty,tz⟩
   obtain ⟨sp,hs⟩:∃ s,s = (a.addO ⟨tx,ty,tz⟩).getD Pt.O:=⟨_,rfl⟩
   obtain ⟨b2,hb2⟩:∃ b,b = (a.addO ⟨tx,ty,tz⟩).isNone:=⟨_,rfl⟩
   rw [<- hs] at HVi HAM
   rw [<- hb2] at HBi
   have HTI:Hid _:=fun w'=>rtimes6_any p 1048576 w'
   rw [<- hn] at HTI
   have HTU:Hid _:=fun (w':World) (g:Bool)=>HTU0.out wb n w' g
   rw [<- ha,<- hb1] at HTU
   have HAD:Hid _:=fun (w':World) (g:Bool)=>rvadd_pt wb 0 g a ⟨tx,ty,tz⟩ w'
   rw [<- hs,<- hb2] at HAD
   rw [HVi] at HF2 HLM HSU
   rw [HBi] at HLM
   have HI1:Hid _:=HIN.out p 1048576 (by decide)
   have HI2:Hid _:=HIN.out sp.grain 8388608 (by decide)
   clear hn ha hb1 hs hb2 HVi HBi HPV HPB HIN HTU0
   obtain ⟨px,py,pz⟩:=p
   obtain ⟨nx,ny,nz⟩:=n
   obtain ⟨ax,ay,az⟩:=a
   obtain ⟨sx,sy,sz⟩:=sp
   obtain ⟨hm1,hm2,hm3⟩:=HAM
   unfold Pt.grain at HI2 HF2 HLM HSU
   dsimp only at hm1 hm2 hm3 HI2 HF2 HLM HSU y0 y1 y2 x0 x1 x2
   have HDdx:Hid _:=fun w'=>rdown6_any sx w' hm1
   have HDdy:Hid _:=fun w'=>rdown6_any sy w' hm2
   have HDdz:Hid _:=fun w'=>rdown6_any sz w' hm3
   clear hm1 hm2 hm3
   generalize sx / 1048576 = dx at *
   generalize sy / 1048576 = dy at *
   generalize sz / 1048576 = dz at *
   unfold Pt.v at HI1 HI2 HTI HTU HAD
   unfold M9.v at HTU
   dsimp only at HI1 HI2 HTI HTU HAD
   have HX:Hid (∀ k,k < 3->True):=fun _ _=>trivial
   have HX0:Hid _:=x0
   have HX1:Hid _:=x1
   have HX2:Hid _:=x2
   clear x0 x1 x2
   go_wp2_with (fail)
   refine Calls.mono (HI1.out _) ?_
   clear HI1 y0 y1 y2 k0
   rintro e V ⟨rfl,hb⟩
   have HKP:Hid _:=HKP.out.step hb
   clear hb
   have OC:Hid _:=HKP.out.kb.at (List.mem_cons_of_mem _ (List.mem_cons_of_mem _ List.mem_cons_self))
   cases hin:Pt.inB ⟨px,py,pz⟩ 1048576 with
   | false =>
    have HF:Hid (OK = false):=HF1.out hin
    obtain ⟨b0,d0⟩:=OC.out 0 _ rfl
    obtain ⟨b1',d1⟩:=OC.out 1 _ rfl
    obtain ⟨b2',d2⟩:=OC.out 2 _ rfl
    obtain ⟨b3,d3⟩:=OC.out 3 _ rfl
    go_wp2_with (fail)
    refine bodyPost_ret (v:=.tuple #[.agg #[.slice none 0 0,.slice none 0 0,.slice none 0 0,.int .i64 0],.bool false]) (by simp [results,Tryz.results23,go_sem,b0,b1',b2',b3]) rfl ?_
    exact ⟨_,_,_,fun _=>⟨rfl,three_nil (set4_below HKP.out.kb.below ho4 _ _ _ _)⟩,fun h=>by rw [HF.out] at h;cases h⟩
   | true =>
    have hwV:wb < V.heap.size:=World.block_lt_of_cell? _ _ HKP.out.fl
    have hnV:n0 <= V.heap.size:=HKP.out.kb.hx
    have HUV:Hid (∀ b,u.ownBlock = some b->b < V.heap.size):=fun b e=>(World.ownsRow.lt HKP.out.own b e).2
    have HH:Hid _:=hin
    clear hin OC
    go_upto_region 10 with fail
    go_cut [11] from 43 to 55 (fun s11 wx=>∃ b3,s11 = .pointer (some ⟨b3,0,none⟩)/\Hid (KP w0 wx n0 [(cb,[.slice (some ⟨g7,f7,none⟩) Ps.length cpv,.slice oav As.length cav,.slice oev Es.length cev,.int .i64 r]),(pb,[.int .i64 tx,.int .i64 ty,.int .i64 tz,.int .i64 qw,.int .i64 qx,.int .i64 qy,.int .i64 qz]),(ob,[.slice none 0 0,.slice none 0 0,.slice none 0 0,.int .i64 0]),(mb,[.int .i64 m.a0,.int .i64 m.a1,.int .i64 m.a2,.int .i64 m.a3,.int .i64 m.a4,.int .i64 m.a5,.int .i64 m.a6,.int .i64 m.a7,.int .i64 m.a8])] xb [u,.slice none 0 0,.slice none 0 0,.int .i64 r] wb (g || b1 || b2) u M)/\Hid (Box3 wx b3 ⟨sx,sy,sz⟩))
    case first =>
     have x0:=HX0.out
     have x1:=HX1.out
     have x2:=HX2.out
     refine RV.rs [.some (.pointer (some ⟨wb,0,none⟩)),.some (.pointer (some ⟨wb,0,none⟩)),.some (.agg #[.int .i64 m.a0,.int .i64 m.a1,.int .i64 m.a2,.int .i64 m.a3,.int .i64 m.a4,.int .i64 m.a5,.int .i64 m.a6,.int .i64 m.a7,.int .i64 m.a8]),.some (.pointer (some ⟨cb,0,none⟩)),.some (.slice (some ⟨g7,f7,none⟩) Ps.length cpv),.some (.int .i64 (i:Int)),.some (.pointer (some ⟨g7,f7 + i * 3,none⟩)),.some (.agg #[.int .i64 px,.int .i64 py,.int .i64 pz]),.some (.agg #[.int .i64 nx,.int .i64 ny,.int .i64 nz]),.some (.agg #[.int .i64 ax,.int .i64 ay,.int .i64 az]),.some (.pointer (some ⟨pb,0,none⟩)),.some (.agg #[.int .i64 tx,.int .i64 ty,.int .i64 tz]),.some (.agg #[.int .i64 sx,.int .i64 sy,.int .i64 sz]),none,none] [44,45,46,47,48,49,50,51,52,53,54,55,56,12,0] [(2,.pointer (some ⟨cb,0,none⟩)),(3,.pointer (some ⟨pb,0,none⟩)),(6,.pointer (some ⟨wb,0,none⟩)),(7,.pointer (some ⟨mb,0,none⟩)),(9,.int .i64 (i:Int))] (fun γ L w9=>KP w0 w9 n0 [(cb,[.slice (some ⟨g7,f7,none⟩) Ps.length cpv,.slice oav As.length cav,.slice oev Es.length cev,.int .i64 r]),(pb,[.int .i64 tx,.int .i64 ty,.int .i64 tz,.int .i64 qw,.int .i64 qx,.int .i64 qy,.int .i64 qz]),(ob,[.slice none 0 0,.slice none 0 0,.slice none 0 0,.int .i64 0]),(mb,[.int .i64 m.a0,.int .i64 m.a1,.int .i64 m.a2,.int .i64 m.a3,.int .i64 m.a4,.int .i64 m.a5,.int .i64 m.a6,.int .i64 m.a7,.int .i64 m.a8])] xb [u,.slice none 0 0,.slice none 0 0,.int .i64 r] wb ((g || (L 9 && b1)) || (L 12 && b2)) u M/\RV.Pend V 27 13 14 #[.int .i64 sx,.int .i64 sy,.int .i64 sz] γ L w9/\V.heap.size <= w9.heap.size) ⟨rfl,rfl,rfl,rfl,rfl,trivial⟩ ?_ ?_ ?_
     ·have b9:Below V.heap.size V V.drew:=(Below.refl _ _).drew;simp only [Bool.false_and,Bool.or_false];exact ⟨HKP.out.step b9,RV.Pend.start rfl,Nat.le_refl _⟩
     ·intro D WA Z hD hWA hZ T
      simp only [RV.Outs,RV.Slots,Nat.reduceAdd] at T
      iterate 8 first
       | (refine RV.cc _ (RV.pu T (fun γ v L w hl h=>⟨by rw [RV.mn (L:=L) (i:=_) (j:=9) (by decide),RV.mn (L:=L) (i:=_) (j:=12) (by decide)];exact h.1,h.2.1.other v (by decide) (by decide),h.2.2⟩) (fun γ L a w hH hl h9 k9=>⟨_,?_,rfl⟩)) ?_;· simp [execOp,go_sem,h9])
       | (refine RV.cc _ (RV.pu T (fun γ v L w hl h=>⟨by rw [RV.mn (L:=L) (i:=_) (j:=9) (by decide),RV.mn (L:=L) (i:=_) (j:=12) (by decide)];exact h.1,h.2.1.other v (by decide) (by decide),h.2.2⟩) (fun γ L a w hH hl h9 k9=>⟨_,?_,rfl⟩)) ?_;· have wz0:=(hH.glob.1.kb.at (List.mem_cons_of_mem _ (List.mem_cons_of_mem _ (List.mem_cons_of_mem _ List.mem_cons_self))) 0 _ rfl).1;have wz1:=(hH.glob.1.kb.at (List.mem_cons_of_mem _ (List.mem_cons_of_mem _ (List.mem_cons_of_mem _ List.mem_cons_self))) 1 _ rfl).1;have wz2:=(hH.glob.1.kb.at (List.mem_cons_of_mem _ (List.mem_cons_of_mem _ (List.mem_cons_of_mem _ List.mem_cons_self))) 2 _ rfl).1;have wz3:=(hH.glob.1.kb.at (List.mem_cons_of_mem _ (List.mem_cons_of_mem _ (List.mem_cons_of_mem _ List.mem_cons_self))) 3 _ rfl).1;have wz4:=(hH.glob.1.kb.at (List.mem_cons_of_mem _ (List.mem_cons_of_mem _ (List.mem_cons_of_mem _ List.mem_cons_self))) 4 _ rfl).1;have wz5:=(hH.glob.1.kb.at (List.mem_cons_of_mem _ (List.mem_cons_of_mem _ (List.mem_cons_of_mem _ List.mem_cons_self))) 5 _ rfl).1;have wz6:=(hH.glob.1.kb.at (List.mem_cons_of_mem _ (List.mem_cons_of_mem _ (List.mem_cons_of_mem _ List.mem_cons_self))) 6 _ rfl).1;have wz7:=(hH.glob.1.kb.at (List.mem_cons_of_mem _ (List.mem_cons_of_mem _ (List.mem_cons_of_mem _ List.mem_cons_self))) 7 _ rfl).1;have wz8:=(hH.glob.1.kb.at (List.mem_cons_of_mem _ (List.mem_cons_of_mem _ (List.mem_cons_of_mem _ List.mem_cons_self))) 8 _ rfl).1;simp [execOp,go_sem,h9,wz0,wz1,wz2,wz3,wz4,wz5,wz6,wz7,wz8])
       | (refine RV.cc _ (RV.pu T (fun γ v L w hl h=>⟨by rw [RV.mn (L:=L) (i:=_) (j:=9) (by decide),RV.mn (L:=L) (i:=_) (j:=12) (by decide)];exact h.1,h.2.1.other v (by decide) (by decide),h.2.2⟩) (fun γ L a w hH hl h9 k9=>⟨_,?_,rfl⟩)) ?_;· have wz0:=(hH.glob.1.kb.at List.mem_cons_self 0 _ rfl).1;simp [Region.binds] at k9;simp [execOp,go_sem,h9,k9,wz0])
       | (refine RV.cc _ (RV.pu T (fun γ v L w hl h=>⟨by rw [RV.mn (L:=L) (i:=_) (j:=9) (by decide),RV.mn (L:=L) (i:=_) (j:=12) (by decide)];exact h.1,h.2.1.other v (by decide) (by decide),h.2.2⟩) (fun γ L a w hH hl h9 k9=>⟨_,?_,rfl⟩)) ?_;· simp [Region.binds] at k9;simp [execOp,go_sem,h9,k9,hit2])
       | (refine RV.cc _ (RV.pu T (fun γ v L w hl h=>⟨by rw [RV.mn (L:=L) (i:=_) (j:=9) (by decide),RV.mn (L:=L) (i:=_) (j:=12) (by decide)];exact h.1,h.2.1.other v (by decide) (by decide),h.2.2⟩) (fun γ L a w hH hl h9 k9=>⟨_,?_,rfl⟩)) ?_;· have wz0:=c_after hH.glob.1.kb.below x0;have wz1:=c_after hH.glob.1.kb.below x1;have wz2:=c_after hH.glob.1.kb.below x2;simp [Region.binds] at k9;simp [execOp,go_sem,h9,k9,wz0,wz1,wz2])
      refine RV.cc _ (RV.dc (fun γ L a w hH hl hA=>by have h9:=T γ L a w hH;have k9:=hA;simp [Region.binds] at k9;refine ⟨55,#[.agg #[.int .i64 px,.int .i64 py,.int .i64 pz],.int .i64 1048576],by simp [go_sem,h9,k9],Calls.mono (HTI.out w) ?_⟩;rintro e w2 ⟨rfl,hb⟩;have hG:=hH.glob;exact ⟨_,rfl,rfl,fun j v _ h=>h.keep _,by rw [RV.mn (L:=L) (i:=8) (j:=9) (by decide),RV.mn (L:=L) (i:=8) (j:=12) (by decide)];exact hG.1.step hb,(hG.2.1.below hb).other _ (by decide) (by decide),Nat.le_trans hG.2.2 hb.size⟩)) ?_
      refine RV.cc _ (RV.dc (fun γ L a w hH hl hA=>by have h9:=T γ L a w hH;have k9:=hA;simp [Region.binds] at k9;have h12:L 12 = false:=RV.ny hH (RV.wt (j:=12) (i:=9) hWA (by kernel_rfl)) hl;have hG:=hH.glob;rw [hl,h12] at hG;simp only [Bool.false_and,Bool.or_false] at hG;refine ⟨54,#[.pointer (some ⟨wb,0,none⟩),.agg #[.int .i64 m.a0,.int .i64 m.a1,.int .i64 m.a2,.int .i64 m.a3,.int .i64 m.a4,.int .i64 m.a5,.int .i64 m.a6,.int .i64 m.a7,.int .i64 m.a8],.agg #[.int .i64 nx,.int .i64 ny,.int .i64 nz]],by simp [go_sem,h9,k9],Calls.mono (HTU.out w _ hG.1.fl hG.1.ff) ?_⟩;rintro e w2 ⟨rfl,A⟩;have A9:=A.out;exact ⟨_,rfl,rfl,fun j v _ h=>h.keep _,by rw [RV.more_self,RV.mn (L:=L) (i:=9) (j:=12) (by decide),h12];have h8:=hG.1.after A9;simpa using h8,(hG.2.1.after A9 hwV).other _ (by decide) (by decide),Nat.le_trans hG.2.2 A9.size⟩)) ?_
      iterate 2 first
       | (refine RV.cc _ (RV.pu T (fun γ v L w hl h=>⟨by rw [RV.mn (L:=L) (i:=_) (j:=9) (by decide),RV.mn (L:=L) (i:=_) (j:=12) (by decide)];exact h.1,h.2.1.other v (by decide) (by decide),h.2.2⟩) (fun γ L a w hH hl h9 k9=>⟨_,?_,rfl⟩)) ?_;· simp [execOp,go_sem,h9])
       | (refine RV.cc _ (RV.pu T (fun γ v L w hl h=>⟨by rw [RV.mn (L:=L) (i:=_) (j:=9) (by decide),RV.mn (L:=L) (i:=_) (j:=12) (by decide)];exact h.1,h.2.1.other v (by decide) (by decide),h.2.2⟩) (fun γ L a w hH hl h9 k9=>⟨_,?_,rfl⟩)) ?_;· have wz0:=(hH.glob.1.kb.at (List.mem_cons_of_mem _ List.mem_cons_self) 0 _ rfl).1;have wz1:=(hH.glob.1.kb.at (List.mem_cons_of_mem _ List.mem_cons_self) 1 _ rfl).1;have wz2:=(hH.glob.1.kb.at (List.mem_cons_of_mem _ List.mem_cons_self) 2 _ rfl).1;simp [Region.binds] at k9;simp [execOp,go_sem,h9,k9,wz0,wz1,wz2])
      refine RV.cc _ (RV.dc (fun γ L a w hH hl hA=>by have h9:=T γ L a w hH;have k9:=hA;simp [Region.binds] at k9;have l1:L 9 = true:=hA ⟨9,.data⟩ (by simp) rfl;have hG:=hH.glob;rw [l1,hl] at hG;simp only [Bool.false_and,Bool.true_and,Bool.or_false] at hG;refine ⟨53,#[.pointer (some ⟨wb,0,none⟩),.agg #[.int .i64 ax,.int .i64 ay,.int .i64 az],.agg #[.int .i64 tx,.int .i64 ty,.int .i64 tz]],by simp [go_sem,h9,k9],Calls.mono (HAD.out w _ hG.1.fl hG.1.ff) ?_⟩;rintro e w2 ⟨rfl,A⟩;have A9:=A.out;exact ⟨_,rfl,rfl,fun j v _ h=>h.keep _,by rw [RV.more_self,RV.mn (L:=L) (i:=12) (j:=9) (by decide),l1];have h8:=hG.1.after A9;simpa using h8,(hG.2.1.after A9 hwV).other _ (by decide) (by decide),Nat.le_trans hG.2.2 A9.size⟩)) ?_
      refine RV.cc _ (RV.does_step (fun γ L a w hH hl hA=>by have hG:=hH.glob;have h14:L 14 = false:=RV.ny hH (RV.wt (j:=14) (i:=13) hWA (by kernel_rfl)) hl;exact ⟨.pointer (some ⟨w.heap.size,0,none⟩),w.alloc (.cells #[.int .i64 0,.int .i64 0,.int .i64 0] 27),by simp [execOp,go_sem],trivial,fun j v _ h=>h.keep _,by rw [RV.mn (L:=L) (i:=13) (j:=9) (by decide),RV.mn (L:=L) (i:=13) (j:=12) (by decide)];exact hG.1.step (n_after _ _),RV.Pend.made _ rfl hG.2.2 h14 (by decide),by rw [World.size_alloc];have h8:=hG.2.2;omega⟩)) ?_
      refine RV.cc _ (RV.does_store (fun γ L a w hH hl hA=>by have h9:=T γ L a w hH;have k9:=hA;simp [Region.binds] at k9;have l0:L 13 = true:=hA ⟨13,.data⟩ (by simp) rfl;have e0:=hH.slot 13 11 (by rw [<- hD];rfl) l0;have hG:=hH.glob;obtain ⟨b,cs,hb1,hb2,hb3,hb4,_⟩:=hG.2.1 l0;rw [hb1] at e0;obtain ⟨u0,u1,u2,rfl⟩:=arr3' hb4;have wz0:w.cell? ⟨b,0,none⟩ = some u0:=(by simp [World.cell?,hb3]);have wz1:w.cell? ⟨b,1,none⟩ = some u1:=(by simp [World.cell?,hb3]);have wz2:w.cell? ⟨b,2,none⟩ = some u2:=(by simp [World.cell?,hb3]);have zf:∀ o,w.frozen? ⟨b,o,none⟩ = false:=fun o=>(by simp [World.frozen?,hb3]);have n5:u.ownBlock ≠ some b:=(fun e=>by have h7:=HUV.out b e;omega);exact ⟨(((w.setCell ⟨b,0,none⟩ (.int .i64 sx)).setCell ⟨b,1,none⟩ (.int .i64 sy)).setCell ⟨b,2,none⟩ (.int .i64 sz)),by simp [execOp,go_sem,e0,wz0,wz1,wz2,zf,h9,k9],trivial,fun j v _ h=>h.keep _,by rw [RV.mn (L:=L) (i:=14) (j:=9) (by decide),RV.mn (L:=L) (i:=14) (j:=12) (by decide)];exact hG.1.set3 (by omega) n5 sx sy sz,RV.Pend.filled hb1 hb2 (by have q0:=Go.heap_setCell_same w b 0 _ _ (.int .i64 sx) hb3;have q1:=Go.heap_setCell_same _ b 1 _ _ (.int .i64 sy) q0;have q2:=Go.heap_setCell_same _ b 2 _ _ (.int .i64 sz) q1;simpa using q2) (by decide) _,by have h8:=hG.2.2;simpa [World.setCell] using h8⟩)) ?_
      exact RV.AllDo.nil
     ·intro γ w5 L9 hL hI9 hG9
      have hG:=hG9
      rw [hL 9 (by decide),hL 12 (by decide)] at hG
      obtain ⟨b3,cs,hb1,hb2,hb3,_,hb5⟩:=hG.2.1 (hL 13 (by decide))
      rw [hb5 (hL 14 (by decide))] at hb3
      clear hL hb5 hI9 hG9
      simp only [RV.putL,Act.put,List.setIfInBounds_toArray,List.set_cons_zero,List.set_cons_succ,Nat.reduceAdd]
      rw [hb1]
      have C3:Cells w5 b3 [.int .i64 sx,.int .i64 sy,.int .i64 sz]:=fun i v e=>⟨by simp [World.cell?,hb3];exact e,by simp [World.frozen?,hb3]⟩
      have B3:Hid (Box3 w5 b3 ⟨sx,sy,sz⟩):=⟨(C3 0 _ rfl).1,(C3 1 _ rfl).1,(C3 2 _ rfl).1,(C3 0 _ rfl).2,(C3 1 _ rfl).2,(C3 2 _ rfl).2⟩
      have HW9:Hid (KP w0 w5 n0 [(cb,[.slice (some ⟨g7,f7,none⟩) Ps.length cpv,.slice oav As.length cav,.slice oev Es.length cev,.int .i64 r]),(pb,[.int .i64 tx,.int .i64 ty,.int .i64 tz,.int .i64 qw,.int .i64 qx,.int .i64 qy,.int .i64 qz]),(ob,[.slice none 0 0,.slice none 0 0,.slice none 0 0,.int .i64 0]),(mb,[.int .i64 m.a0,.int .i64 m.a1,.int .i64 m.a2,.int .i64 m.a3,.int .i64 m.a4,.int .i64 m.a5,.int .i64 m.a6,.int .i64 m.a7,.int .i64 m.a8])] xb [u,.slice none 0 0,.slice none 0 0,.int .i64 r] wb (g || b1 || b2) u M):=by show KP _ _ _ _ _ _ _ _ _ _;have h9:=hG.1;simpa using h9
      clear hG hb1 hb3 C3
      go_wp2_with (fail)
      go_meet
      case rel=>exact ⟨b3,rfl,HW9,B3⟩
    case rest =>
     clear HKP HTI HTU HAD HUV hwV hnV HX0 HX1 HX2
     obtain ⟨vb,rfl,HKP,HBV⟩:=hcut
     obtain ⟨V,hV⟩:∃ V,V = wc:=⟨_,rfl⟩
     rw [<- hV] at HKP HBV ⊢
     clear hV
     obtain ⟨g3,hg3⟩:∃ x,x = (g || b1 || b2):=⟨_,rfl⟩
     rw [<- hg3] at HKP
     have HG3:Hid _:=hg3
     clear hg3
     have hnV:n0 <= V.heap.size:=HKP.out.kb.hx
     have hvV:vb < V.heap.size:=HBV.out.lt
     have HUV:Hid (∀ b,u.ownBlock = some b->b < V.heap.size):=fun b e=>(World.ownsRow.lt HKP.out.own b e).2
     go_upto_region 11 with fail
     go_cut [12] from 56 to 65 (fun s12 wx=>∃ b4,s12 = .pointer (some ⟨b4,0,none⟩)/\Hid (KP w0 wx n0 [(cb,[.slice (some ⟨g7,f7,none⟩) Ps.length cpv,.slice oav As.length cav,.slice oev Es.length cev,.int .i64 r]),(pb,[.int .i64 tx,.int .i64 ty,.int .i64 tz,.int .i64 qw,.int .i64 qx,.int .i64 qy,.int .i64 qz]),(ob,[.slice none 0 0,.slice none 0 0,.slice none 0 0,.int .i64 0]),(mb,[.int .i64 m.a0,.int .i64 m.a1,.int .i64 m.a2,.int .i64 m.a3,.int .i64 m.a4,.int .i64 m.a5,.int .i64 m.a6,.int .i64 m.a7,.int .i64 m.a8])] xb [u,.slice none 0 0,.slice none 0 0,.int .i64 r] wb g3 u M)/\Hid (Box3 wx b4 ⟨dx,dy,dz⟩))
     case first =>
      refine RV.rs [.some (.pointer (some ⟨vb,0,none⟩)),.some (.int .i64 sx),.some (.int .i64 dx),.some (.pointer (some ⟨vb,1,none⟩)),.some (.int .i64 sy),.some (.int .i64 dy),.some (.pointer (some ⟨vb,2,none⟩)),.some (.int .i64 sz),.some (.int .i64 dz),.some (.agg #[.int .i64 dx,.int .i64 dy,.int .i64 dz]),none,none] [57,58,59,60,61,62,63,64,65,66,13,0] [(11,.pointer (some ⟨vb,0,none⟩))] (fun γ L w9=>KP w0 w9 n0 [(cb,[.slice (some ⟨g7,f7,none⟩) Ps.length cpv,.slice oav As.length cav,.slice oev Es.length cev,.int .i64 r]),(pb,[.int .i64 tx,.int .i64 ty,.int .i64 tz,.int .i64 qw,.int .i64 qx,.int .i64 qy,.int .i64 qz]),(ob,[.slice none 0 0,.slice none 0 0,.slice none 0 0,.int .i64 0]),(mb,[.int .i64 m.a0,.int .i64 m.a1,.int .i64 m.a2,.int .i64 m.a3,.int .i64 m.a4,.int .i64 m.a5,.int .i64 m.a6,.int .i64 m.a7,.int .i64 m.a8])] xb [u,.slice none 0 0,.slice none 0 0,.int .i64 r] wb g3 u M/\Box3 w9 vb ⟨sx,sy,sz⟩/\RV.Pend V 23 10 11 #[.int .i64 dx,.int .i64 dy,.int .i64 dz] γ L w9/\V.heap.size <= w9.heap.size) ⟨rfl,trivial⟩ ?_ ?_ ?_
      ·have b9:Below V.heap.size V V.drew:=(Below.refl _ _).drew;exact ⟨HKP.out.step b9,HBV.out.step b9,RV.Pend.start rfl,Nat.le_refl _⟩
      ·intro D WA Z hD hWA hZ T
       simp only [RV.Outs,RV.Slots,Nat.reduceAdd] at T
       iterate 2 first
        | (refine RV.cc _ (RV.pu T (fun γ v L w hl h=>⟨h.1,h.2.1,h.2.2.1.other v (by decide) (by decide),h.2.2.2⟩) (fun γ L a w hH hl h9 k9=>⟨_,?_,rfl⟩)) ?_;· simp [execOp,go_sem,h9])
        | (refine RV.cc _ (RV.pu T (fun γ v L w hl h=>⟨h.1,h.2.1,h.2.2.1.other v (by decide) (by decide),h.2.2.2⟩) (fun γ L a w hH hl h9 k9=>⟨_,?_,rfl⟩)) ?_;· have wz0:=hH.glob.2.1.c0;simp [Region.binds] at k9;simp [execOp,go_sem,h9,k9,wz0])
       refine RV.cc _ (RV.dc (fun γ L a w hH hl hA=>by have h9:=T γ L a w hH;have k9:=hA;simp [Region.binds] at k9;refine ⟨56,#[.int .i64 sx],by simp [go_sem,h9,k9],Calls.mono (HDdx.out w) ?_⟩;rintro e w2 ⟨rfl,rfl⟩;have hG:=hH.glob;exact ⟨_,rfl,rfl,fun j v _ h=>h.keep _,hG.1,hG.2.1,hG.2.2.1.other _ (by decide) (by decide),hG.2.2.2⟩)) ?_
       iterate 2 first
        | (refine RV.cc _ (RV.pu T (fun γ v L w hl h=>⟨h.1,h.2.1,h.2.2.1.other v (by decide) (by decide),h.2.2.2⟩) (fun γ L a w hH hl h9 k9=>⟨_,?_,rfl⟩)) ?_;· simp [execOp,go_sem,h9])
        | (refine RV.cc _ (RV.pu T (fun γ v L w hl h=>⟨h.1,h.2.1,h.2.2.1.other v (by decide) (by decide),h.2.2.2⟩) (fun γ L a w hH hl h9 k9=>⟨_,?_,rfl⟩)) ?_;· have wz0:=hH.glob.2.1.c1;simp [Region.binds] at k9;simp [execOp,go_sem,h9,k9,wz0])
       refine RV.cc _ (RV.dc (fun γ L a w hH hl hA=>by have h9:=T γ L a w hH;have k9:=hA;simp [Region.binds] at k9;refine ⟨56,#[.int .i64 sy],by simp [go_sem,h9,k9],Calls.mono (HDdy.out w) ?_⟩;rintro e w2 ⟨rfl,rfl⟩;have hG:=hH.glob;exact ⟨_,rfl,rfl,fun j v _ h=>h.keep _,hG.1,hG.2.1,hG.2.2.1.other _ (by decide) (by decide),hG.2.2.2⟩)) ?_
       iterate 2 first
        | (refine RV.cc _ (RV.pu T (fun γ v L w hl h=>⟨h.1,h.2.1,h.2.2.1.other v (by decide) (by decide),h.2.2.2⟩) (fun γ L a w hH hl h9 k9=>⟨_,?_,rfl⟩)) ?_;· simp [execOp,go_sem,h9])
        | (refine RV.cc _ (RV.pu T (fun γ v L w hl h=>⟨h.1,h.2.1,h.2.2.1.other v (by decide) (by decide),h.2.2.2⟩) (fun γ L a w hH hl h9 k9=>⟨_,?_,rfl⟩)) ?_;· have wz0:=hH.glob.2.1.c2;simp [Region.binds] at k9;simp [execOp,go_sem,h9,k9,wz0])
       refine RV.cc _ (RV.dc (fun γ L a w hH hl hA=>by have h9:=T γ L a w hH;have k9:=hA;simp [Region.binds] at k9;refine ⟨56,#[.int .i64 sz],by simp [go_sem,h9,k9],Calls.mono (HDdz.out w) ?_⟩;rintro e w2 ⟨rfl,rfl⟩;have hG:=hH.glob;exact ⟨_,rfl,rfl,fun j v _ h=>h.keep _,hG.1,hG.2.1,hG.2.2.1.other _ (by decide) (by decide),hG.2.2.2⟩)) ?_
       (refine RV.cc _ (RV.pu T (fun γ v L w hl h=>⟨h.1,h.2.1,h.2.2.1.other v (by decide) (by decide),h.2.2.2⟩) (fun γ L a w hH hl h9 k9=>⟨_,?_,rfl⟩)) ?_;· simp [Region.binds] at k9;simp [execOp,go_sem,h9,k9])
       refine RV.cc _ (RV.does_step (fun γ L a w hH hl hA=>by have hG:=hH.glob;have h11:L 11 = false:=RV.ny hH (RV.wt (j:=11) (i:=10) hWA (by kernel_rfl)) hl;exact ⟨.pointer (some ⟨w.heap.size,0,none⟩),w.alloc (.cells #[.int .i64 0,.int .i64 0,.int .i64 0] 23),by simp [execOp,go_sem],trivial,fun j v _ h=>h.keep _,hG.1.step (n_after _ _),hG.2.1.step (n_after _ _),RV.Pend.made _ rfl hG.2.2.2 h11 (by decide),by rw [World.size_alloc];have h8:=hG.2.2.2;omega⟩)) ?_
       refine RV.cc _ (RV.does_store (fun γ L a w hH hl hA=>by have h9:=T γ L a w hH;have k9:=hA;simp [Region.binds] at k9;have l0:L 10 = true:=hA ⟨10,.data⟩ (by simp) rfl;have e0:=hH.slot 10 12 (by rw [<- hD];rfl) l0;have hG:=hH.glob;obtain ⟨b,cs,hb1,hb2,hb3,hb4,_⟩:=hG.2.2.1 l0;rw [hb1] at e0;obtain ⟨u0,u1,u2,rfl⟩:=arr3' hb4;have wz0:w.cell? ⟨b,0,none⟩ = some u0:=(by simp [World.cell?,hb3]);have wz1:w.cell? ⟨b,1,none⟩ = some u1:=(by simp [World.cell?,hb3]);have wz2:w.cell? ⟨b,2,none⟩ = some u2:=(by simp [World.cell?,hb3]);have zf:∀ o,w.frozen? ⟨b,o,none⟩ = false:=fun o=>(by simp [World.frozen?,hb3]);have n5:u.ownBlock ≠ some b:=(fun e=>by have h7:=HUV.out b e;omega);exact ⟨(((w.setCell ⟨b,0,none⟩ (.int .i64 dx)).setCell ⟨b,1,none⟩ (.int .i64 dy)).setCell ⟨b,2,none⟩ (.int .i64 dz)),by simp [execOp,go_sem,e0,wz0,wz1,wz2,zf,h9,k9],trivial,fun j v _ h=>h.keep _,hG.1.set3 (by omega) n5 dx dy dz,hG.2.1.other (by omega) dx dy dz,RV.Pend.filled hb1 hb2 (by have q0:=Go.heap_setCell_same w b 0 _ _ (.int .i64 dx) hb3;have q1:=Go.heap_setCell_same _ b 1 _ _ (.int .i64 dy) q0;have q2:=Go.heap_setCell_same _ b 2 _ _ (.int .i64 dz) q1;simpa using q2) (by decide) _,by have h8:=hG.2.2.2;simpa [World.setCell] using h8⟩)) ?_
       exact RV.AllDo.nil
      ·intro γ w5 L9 hL hI9 hG9
       have hG:=hG9
       obtain ⟨b4,cs,hb1,hb2,hb3,_,hb5⟩:=hG.2.2.1 (hL 10 (by decide))
       rw [hb5 (hL 11 (by decide))] at hb3
       clear hL hb5 hI9 hG9
       simp only [RV.putL,Act.put,List.setIfInBounds_toArray,List.set_cons_zero,List.set_cons_succ,Nat.reduceAdd]
       rw [hb1]
       have C3:Cells w5 b4 [.int .i64 dx,.int .i64 dy,.int .i64 dz]:=fun i v e=>⟨by simp [World.cell?,hb3];exact e,by simp [World.frozen?,hb3]⟩
       have B3:Hid (Box3 w5 b4 ⟨dx,dy,dz⟩):=⟨(C3 0 _ rfl).1,(C3 1 _ rfl).1,(C3 2 _ rfl).1,(C3 0 _ rfl).2,(C3 1 _ rfl).2,(C3 2 _ rfl).2⟩
       have HW9:Hid (KP w0 w5 n0 [(cb,[.slice (some ⟨g7,f7,none⟩) Ps.length cpv,.slice oav As.length cav,.slice oev Es.length cev,.int .i64 r]),(pb,[.int .i64 tx,.int .i64 ty,.int .i64 tz,.int .i64 qw,.int .i64 qx,.int .i64 qy,.int .i64 qz]),(ob,[.slice none 0 0,.slice none 0 0,.slice none 0 0,.int .i64 0]),(mb,[.int .i64 m.a0,.int .i64 m.a1,.int .i64 m.a2,.int .i64 m.a3,.int .i64 m.a4,.int .i64 m.a5,.int .i64 m.a6,.int .i64 m.a7,.int .i64 m.a8])] xb [u,.slice none 0 0,.slice none 0 0,.int .i64 r] wb g3 u M):=hG.1
       clear hG hb1 hb3 C3
       go_wp2_with (fail)
       go_meet
       case rel=>exact ⟨b4,rfl,HW9,B3⟩
     case rest =>
      clear HKP HBV HUV hnV hvV HDdx HDdy HDdz
      obtain ⟨b4,rfl,HKP,HB4⟩:=hcut
      obtain ⟨c0,c1,c2,f0,f1,f2⟩:=HB4.out
      dsimp only at c0 c1 c2
      go_wp2_with (fail)
      refine Calls.mono (HI2.out _) ?_
      clear HI2 c0 c1 c2 f0 f1 f2
      rintro e V5 ⟨rfl,hb⟩
      have HKP:Hid _:=HKP.out.step hb
      have HB4:Hid _:=HB4.out.step hb
      clear hb
      have OC:Hid _:=HKP.out.kb.at (List.mem_cons_of_mem _ (List.mem_cons_of_mem _ List.mem_cons_self))
      cases hin:Pt.inB ⟨dx,dy,dz⟩ 8388608 with
      | false =>
       have HF:Hid (OK = false):=HF2.out hin
       obtain ⟨b0,d0⟩:=OC.out 0 _ rfl
       obtain ⟨b1',d1⟩:=OC.out 1 _ rfl
       obtain ⟨b2',d2⟩:=OC.out 2 _ rfl
       obtain ⟨b3,d3⟩:=OC.out 3 _ rfl
       go_wp2_with (fail)
       refine bodyPost_ret (v:=.tuple #[.agg #[.slice none 0 0,.slice none 0 0,.slice none 0 0,.int .i64 0],.bool false]) (by simp [results,Tryz.results23,go_sem,b0,b1',b2',b3]) rfl ?_
       exact ⟨_,_,_,fun _=>⟨rfl,three_nil (set4_below HKP.out.kb.below ho4 _ _ _ _)⟩,fun h=>by rw [HF.out] at h;cases h⟩
      | true =>
       have HH2:Hid _:=hin
       clear hin OC
       have hu:=HU.out
       subst hu
       have hnV:n0 <= V5.heap.size:=HKP.out.kb.hx
       obtain ⟨c0,c1,c2,f0,f1,f2⟩:=HB4.out
       dsimp only at c0 c1 c2
       have t0:=(HKP.out.kb.box 0 _ rfl).1
       go_wp2_with (at_builtin;refine wpList_append_own_at _ rfl _ _ 24 rfl n0 23 i0 _ 3 24 Tryz.underlying24 HI.out.1 HI.out.2.1 HI.out.2.2.1 HI.out.2.2.2 rfl (by decide) _ _ _ rfl (own_below HKP.out.own (n_after V5 _)) ⟨V5.heap.size,0,none⟩ 1 1 [.int .i64 dx,.int .i64 dy,.int .i64 dz] rfl rfl (news_at (heap_alloc_new V5 _)) (by intro u hu;simp at hu;rcases hu with rfl | rfl | rfl <;> rfl) (by unfold maxLen;omega) (by omega) (by simp;omega) ?_;intro u9 V6 r8 g8 _ s8;obtain ⟨gg8,kk8,rfl⟩:=ownsRow_succ r8;have HK6:Hid _:=(HKP.out.step (n_after _ _)).app (p:=⟨dx,dy,dz⟩) r8 g8;have t9:=HK6.out.kb.box 0 _ rfl;have t0:=t9.1;have g0:=t9.2;clear t9 r8 g8 s8)
       go_roundg (Ps.length - (i + 1))
       case rel =>
        obtain ⟨i2,g9,u2,e1,e2,e3,e4,e5,e6,rfl⟩:=HLM.out HH.out HH2.out HSU.out (by rw [HG3.out,Bool.or_assoc]) (HK6.out.put 0 _ (by simp))
        exact ⟨i2,g9,_,e1,e2,e3,e4,e5,e6⟩
       case measure=>have:=HG1.out;omega
  ·obtain rfl:i = Ps.length:=by omega
   have HMP:Hid (firsts (fun k=>m.ptV ⟨tx,ty,tz⟩ (pt Ps k)) Ps.length = Ps.map (m.ptV ⟨tx,ty,tz⟩)):=firsts_map Ps _
   have HGP:Hid (g = (f || Ps.any (m.ptB ⟨tx,ty,tz⟩))):=by show _ = _;rw [HGB.out,anyK_any]
   have HP1:Hid (Ps.all (fun p=>p.win 1048576) = true):=all_firsts fun j hj=>by rw [win_in _ _ (by decide) (by decide)];exact (HAL.out j hj).1
   have HP2:Hid ((Ps.map (m.ptV ⟨tx,ty,tz⟩)).all (fun p=>p.win 8388608) = true):=by
    show _ = _
    rw [List.all_map]
    exact all_firsts fun j hj=>by show Pt.win _ _ = true;rw [win_in _ _ (by decide) (by decide)];exact (HAL.out j hj).2
   obtain ⟨M,hM⟩:∃ M,M = firsts (fun k=>m.ptV ⟨tx,ty,tz⟩ (pt Ps k)) Ps.length:=⟨_,rfl⟩
   rw [<- hM] at HKP HMP hlm
   clear hM HAL HGB HSU HCL HPV HPB HIN HTU0
   obtain ⟨uo,uc,hu⟩:=rowp_form HKP.out.own
   subst hu
   have hsz:=HKP.out.kb.hx
   have hwn:=HKP.out.wl.2
   have HW1:Hid _:=HWY.out wb g As (.slice oav As.length cav) wr HKP.out.fl HKP.out.ff (HKP.out.lies HLA.out).1 (HKP.out.lies HLA.out).2 hNAs
   have k1:=(HKP.out.kb.at List.mem_cons_self 1 _ rfl).1
   have CM:Hid _:=HKP.out.kb.at (List.mem_cons_of_mem _ (List.mem_cons_of_mem _ (List.mem_cons_of_mem _ List.mem_cons_self)))
   have z0:=(CM.out 0 _ rfl).1
   have z1:=(CM.out 1 _ rfl).1
   have z2:=(CM.out 2 _ rfl).1
   have z3:=(CM.out 3 _ rfl).1
   have z4:=(CM.out 4 _ rfl).1
   have z5:=(CM.out 5 _ rfl).1
   have z6:=(CM.out 6 _ rfl).1
   have z7:=(CM.out 7 _ rfl).1
   have z8:=(CM.out 8 _ rfl).1
   unfold M9.v at HW1
   dsimp only at HW1
   go_wp2_with (fail)
   refine Calls.mono HW1.out ?_
   clear z0 z1 z2 z3 z4 z5 z6 z7 z8 CM k0 k1 HW1
   rintro e Y1 ⟨o1,c1,g1,M1,rfl,HS1,HA1⟩
   have HKP1:Hid _:=HKP.out.after (HS1.out.lv.done HS1.out.fl HS1.out.ff)
   have hsz1:=HS1.out.lv.size
   obtain ⟨one,h1⟩:∃ b,b = As.all (fun p=>p.win 1048576):=⟨_,rfl⟩
   rw [<- h1] at HA1 HOK ⊢
   clear h1
   have HW2:Hid _:=HWY.out wb g1 Es (.slice oev Es.length cev) Y1 HKP1.out.fl HKP1.out.ff (HKP1.out.lies HLE.out).1 (HKP1.out.lies HLE.out).2 hNEs
   have k2:=(HKP1.out.kb.at List.mem_cons_self 2 _ rfl).1
   have CM:Hid _:=HKP1.out.kb.at (List.mem_cons_of_mem _ (List.mem_cons_of_mem _ (List.mem_cons_of_mem _ List.mem_cons_self)))
   have z0:=(CM.out 0 _ rfl).1
   have z1:=(CM.out 1 _ rfl).1
   have z2:=(CM.out 2 _ rfl).1
   have z3:=(CM.out 3 _ rfl).1
   have z4:=(CM.out 4 _ rfl).1
   have z5:=(CM.out 5 _ rfl).1
   have z6:=(CM.out 6 _ rfl).1
   have z7:=(CM.out 7 _ rfl).1
   have z8:=(CM.out 8 _ rfl).1
   unfold M9.v at HW2
   dsimp only at HW2
   go_wp2_with (fail)
   refine Calls.mono HW2.out ?_
   clear z0 z1 z2 z3 z4 z5 z6 z7 z8 CM k2 HW2
   rintro e Y2 ⟨o2,c2,g2,M2,rfl,HS2,HA2⟩
   have A2:Hid _:=HS2.out.lv.done HS2.out.fl HS2.out.ff
   have HKP2:Hid _:=HKP1.out.after A2.out
   have HR1:Hid (Y2.ownsRow wr.heap.size 23 3 (.slice o1 M1.length c1) M1.length (fl3 M1)):=row_turn HS1.out.own (after_grown A2.out) (fun r e=>by cases e;omega)
   have HR2:Hid _:=HS2.out.own
   obtain ⟨two,h2⟩:∃ b,b = Es.all (fun p=>p.win 1048576):=⟨_,rfl⟩
   rw [<- h2] at HA2 HOK ⊢
   clear h2 A2
   have HRP:Hid _:=HKP2.out.own
   have hl1:∀ k,(Value.slice uo M.length uc).ownBlock = some k->k < wr.heap.size:=fun k e=>(World.ownsRow.lt HKP.out.own k e).2
   have hl2:∀ k,(Value.slice o1 M1.length c1).ownBlock = some k->wr.heap.size <= k/\k < Y1.heap.size:=fun k e=>World.ownsRow.lt HS1.out.own k e
   have hl3:∀ k,(Value.slice o2 M2.length c2).ownBlock = some k->Y1.heap.size <= k:=fun k e=>(World.ownsRow.lt HS2.out.own k e).1
   have HL:Hid _:=And.intro hl1 (And.intro hl2 hl3)
   clear hl1 hl2 hl3 HS1 HS2 HKP HKP1
   have fl:=HKP2.out.fl
   have k0:=(HKP2.out.kb.at List.mem_cons_self 0 _ rfl).1
   obtain ⟨bl,hbl⟩:∃ b,((Ps.length:Int) == 0) = b:=⟨_,rfl⟩
   have HBL:Hid (decide (0 < Ps.length) = !bl):=by
    show _ = _
    rw [<- hbl]
    rcases Nat.eq_zero_or_pos Ps.length with h | h
    ·rw [h];rfl
    ·rw [decide_eq_true h,beq_eq_false_iff_ne.2 (by omega)];rfl
   go_upto_region 18 with fail
   go_cut [110] from 93 to 110 (fun s110 wx=>s110 = .bool (g2 || (!one || (!two || bl)))/\wx = Y2)
   case first =>
    clear HKP2 HR1 HR2 HRP HL HA1 HA2 HOK HBL HGP HP1 HP2 HMP HWY
    cases g2 <;> cases one <;> cases two <;> cases bl
    all_goals
     go_wp2_with (fail)
     go_meet
     case rel=>exact ⟨rfl,rfl⟩
   case rest =>
    have HKF:Hid (OK = !(g2 || (!one || (!two || bl)))):=place_bool (by have h:=HOK.out;rw [HP1.out,HP2.out] at h;exact h) HBL.out HGP.out (fun h=>(HA1.out h).1) (fun h=>(HA2.out h).1)
    obtain ⟨rfl,e9⟩:=hcut
    subst e9
    clear hbl HBL HOK HP1 HP2 HGP HWY fl k0
    have HON:Hid (false = (g2 || (!one || (!two || bl)))->one = true/\two = true):=by
     show _->_
     cases one <;> cases two <;> cases g2 <;> simp
    obtain ⟨C,hC⟩:∃ C,C = (g2 || (!one || (!two || bl))):=⟨_,rfl⟩
    rw [<- hC] at HKF HON ⊢
    clear hC
    have OC:Hid _:=HKP2.out.kb.at (List.mem_cons_of_mem _ (List.mem_cons_of_mem _ List.mem_cons_self))
    obtain ⟨b0,d0⟩:=OC.out 0 _ rfl
    obtain ⟨b1,d1⟩:=OC.out 1 _ rfl
    obtain ⟨b2,d2⟩:=OC.out 2 _ rfl
    obtain ⟨b3,d3⟩:=OC.out 3 _ rfl
    cases C with
    | true =>
     have HF:Hid (OK = false):=HKF.out
     go_wp2_with (fail)
     refine bodyPost_ret (v:=.tuple #[.agg #[.slice none 0 0,.slice none 0 0,.slice none 0 0,.int .i64 0],.bool false]) (by simp [results,Tryz.results23,go_sem,b0,b1,b2,b3]) rfl ?_
     exact ⟨_,_,_,fun _=>⟨rfl,three_nil (set4_below HKP2.out.kb.below ho4 _ _ _ _)⟩,fun h=>by rw [HF.out] at h;cases h⟩
    | false =>
     have HT:Hid (OK = true):=HKF.out
     have HD1:Hid (M1 = m.dirs As):=(HA1.out (HON.out rfl).1).2
     have HD2:Hid (M2 = m.dirs Es):=(HA2.out (HON.out rfl).2).2
     clear HKF HON HA1 HA2
     obtain ⟨hob3,hob4⟩:=hob2
     have hxn:=HKP2.out.kb.lt
     have hw9:=HKP2.out.kb.hn
     have nP:(Value.slice uo M.length uc).ownBlock ≠ some xb:=fun e=>by have h5:=(World.ownsRow.lt HRP.out _ e).1;omega
     have nA:(Value.slice o1 M1.length c1).ownBlock ≠ some xb:=fun e=>by have h5:=(World.ownsRow.lt HR1.out _ e).1;omega
     have nE:(Value.slice o2 M2.length c2).ownBlock ≠ some xb:=fun e=>by have h5:=(World.ownsRow.lt HR2.out _ e).1;omega
     have oP:(Value.slice uo M.length uc).ownBlock ≠ some ob:=fun e=>by have h5:=(World.ownsRow.lt HRP.out _ e).1;omega
     have oA:(Value.slice o1 M1.length c1).ownBlock ≠ some ob:=fun e=>by have h5:=(World.ownsRow.lt HR1.out _ e).1;omega
     have oE:(Value.slice o2 M2.length c2).ownBlock ≠ some ob:=fun e=>by have h5:=(World.ownsRow.lt HR2.out _ e).1;omega
     have T3:Hid (Three w0 ((wc.setCell ⟨xb,1,none⟩ (.slice o1 M1.length c1)).setCell ⟨xb,2,none⟩ (.slice o2 M2.length c2)) (.slice uo M.length uc) (.slice o1 M1.length c1) (.slice o2 M2.length c2) M M1 M2):=
      ⟨own_le (ownsRow_setCell_other (ownsRow_setCell_other HRP.out nP _) nP _) hw9,own_le (ownsRow_setCell_other (ownsRow_setCell_other HR1.out nA _) nA _) (by omega),own_le (ownsRow_setCell_other (ownsRow_setCell_other HR2.out nE _) nE _) (by omega),
       fun k e1 e2=>by have h5:=HL.out.1 k e1;have h6:=HL.out.2.1 k e2;omega,fun k e1 e2=>by have h5:=HL.out.1 k e1;have h6:=HL.out.2.2 k e2;omega,fun k e1 e2=>by have h5:=HL.out.2.1 k e1;have h6:=HL.out.2.2 k e2;omega,
       (HKP2.out.kb.below.setCell HKP2.out.kb.ge _).setCell HKP2.out.kb.ge _⟩
     have T4:Hid _:=T3.out.set ho4 oP oA oE (.slice uo M.length uc) (.slice o1 M1.length c1) (.slice o2 M2.length c2) (.int .i64 r)
     unfold set4 at T4
     obtain ⟨t0,s0⟩:=HKP2.out.kb.box 0 _ rfl
     obtain ⟨t1,s1⟩:=HKP2.out.kb.box 1 _ rfl
     obtain ⟨t2,s2⟩:=HKP2.out.kb.box 2 _ rfl
     obtain ⟨t3,s3⟩:=HKP2.out.kb.box 3 _ rfl
     clear T3 HL HR1 HR2 HRP nP nA nE oP oA oE
     go_wp2_with (fail)
     refine bodyPost_ret (v:=.tuple #[.agg #[.slice uo M.length uc,.slice o1 M1.length c1,.slice o2 M2.length c2,.int .i64 r],.bool true]) (by simp [results,Tryz.results23,go_sem,b0,b1,b2,b3]) rfl ?_
     refine ⟨_,_,_,(fun h=>by rw [HT.out] at h;cases h),fun _=>⟨rfl,?_⟩⟩
     rw [<- HMP.out,<- HD1.out,<- HD2.out]
     exact T4.out
end
section
open Go.RowKit Go.Shelf
theorem rjoin_any (a b:Bx) (w0:World) :
  Calls Tryz.prog 65 #[a.v,b.v] w0 fun e W=>e = .returned (a.join b).v/\Below w0.heap.size w0 W:=by
 obtain ⟨⟨x,y,z⟩,⟨xh,yh,zh⟩⟩:=a
 obtain ⟨⟨x',y',z'⟩,⟨xh',yh',zh'⟩⟩:=b
 unfold Bx.join Bx.v Pt.lesser Pt.greater lowI highI
 dsimp only
 obtain ⟨s0,h0⟩:∃ s,(if x' < x then x' else x) = s:=⟨_,rfl⟩
 obtain ⟨s1,h1⟩:∃ s,(if y' < y then y' else y) = s:=⟨_,rfl⟩
 obtain ⟨s2,h2⟩:∃ s,(if z' < z then z' else z) = s:=⟨_,rfl⟩
 obtain ⟨s3,h3⟩:∃ s,(if xh' > xh then xh' else xh) = s:=⟨_,rfl⟩
 obtain ⟨s4,h4⟩:∃ s,(if yh' > yh then yh' else yh) = s:=⟨_,rfl⟩
 obtain ⟨s5,h5⟩:∃ s,(if zh' > zh then zh' else zh) = s:=⟨_,rfl⟩
 rw [h0,h1,h2,h3,h4,h5]
 go_enter Tryz.func65,Tryz.ntmps65
 go_wp2
 exact bodyPost_ret (v:=.agg #[.int .i64 s0,.int .i64 s1,.int .i64 s2,.int .i64 s3,.int .i64 s4,.int .i64 s5]) (by simp [results,Tryz.results65,go_sem]) rfl ⟨rfl,b_step (b_step (n_after w0 _) (n_after _ _)) (n_after _ _)⟩
theorem rgrown_any (a:Bx) (n:Int) (w0:World) :
  Calls Tryz.prog 66 #[a.v,.int .i64 n] w0 fun e W=>e = .returned (a.grown n).v/\Below w0.heap.size w0 W:=by
 obtain ⟨⟨x,y,z⟩,⟨xh,yh,zh⟩⟩:=a
 unfold Bx.grown Bx.v Pt.plus
 dsimp only
 rw [<- wrap_sub x n]
 obtain ⟨s0,h0⟩:∃ s,IntKind.i64.wrap (x - n) = s:=⟨_,rfl⟩
 rw [<- wrap_sub y n]
 obtain ⟨s1,h1⟩:∃ s,IntKind.i64.wrap (y - n) = s:=⟨_,rfl⟩
 rw [<- wrap_sub z n]
 obtain ⟨s2,h2⟩:∃ s,IntKind.i64.wrap (z - n) = s:=⟨_,rfl⟩
 obtain ⟨s3,h3⟩:∃ s,IntKind.i64.wrap (xh + n) = s:=⟨_,rfl⟩
 obtain ⟨s4,h4⟩:∃ s,IntKind.i64.wrap (yh + n) = s:=⟨_,rfl⟩
 obtain ⟨s5,h5⟩:∃ s,IntKind.i64.wrap (zh + n) = s:=⟨_,rfl⟩
 rw [h0,h1,h2,h3,h4,h5]
 go_enter Tryz.func66,Tryz.ntmps66
 go_wp2
 exact bodyPost_ret (v:=.agg #[.int .i64 s0,.int .i64 s1,.int .i64 s2,.int .i64 s3,.int .i64 s4,.int .i64 s5]) (by simp [results,Tryz.results66,go_sem]) rfl ⟨rfl,b_step (n_after w0 _) (n_after _ _)⟩
end
section
open Go.RowKit Go.Shelf
theorem rspan_any (P A E:List Pt) (r:Int) (pv av ev:Value) (w0:World) (hp:Lies w0 pv P) (ha:Lies w0 av A) (he:Lies w0 ev E) :
  Calls Tryz.prog 29 #[coreV pv av ev r] w0 fun e W=>e = .returned (spanP P r).v/\Below w0.heap.size w0 W:=by
 obtain ⟨o,cap,rfl,hlc,hcm,hcell⟩:=hp.form
 obtain ⟨oa,ca,rfl,_⟩:=ha.form
 obtain ⟨oe,ce,rfl,_⟩:=he.form
 have HCL:Hid _:=hcell
 clear hp ha he hcell
 unfold coreV
 by_cases h0:P = []
 ·subst h0
  have e9:spanP [] r = ⟨Pt.O,Pt.O⟩:=by simp [spanP]
  rw [e9]
  unfold Bx.v Pt.O
  dsimp only
  clear HCL
  go_enter Tryz.func29,Tryz.ntmps29
  go_wp2
  refine bodyPost_ret (v:=.agg #[.int .i64 0,.int .i64 0,.int .i64 0,.int .i64 0,.int .i64 0,.int .i64 0]) (by simp [results,Tryz.results29,go_sem]) rfl ⟨rfl,?_⟩
  exact b_step (n_after _ _) (n_after _ _)
 ·have hlen:0 < P.length:=List.length_pos_iff.2 h0
  obtain ⟨g,off,rfl,x0,x1,x2⟩:=HCL.out 0 hlen
  have e9:spanP P r = (spanK P P.length).grown r:=by simp [spanP,h0]
  rw [e9]
  clear e9 h0
  simp only [Nat.zero_mul,Nat.add_zero] at x0 x1 x2
  obtain ⟨V,hV⟩:∃ V,V = (w0.alloc (.cells #[.slice (some ⟨g,off,none⟩) P.length cap,.slice oa A.length ca,.slice oe E.length ce,.int .i64 r] 33)).alloc (.cells #[.int .i64 0,.int .i64 0,.int .i64 0,.int .i64 0,.int .i64 0,.int .i64 0] 73):=⟨_,rfl⟩
  obtain ⟨cb,hcb⟩:∃ b,b = w0.heap.size:=⟨_,rfl⟩
  obtain ⟨ob,hob⟩:∃ b,b = w0.heap.size + 1:=⟨_,rfl⟩
  have hBV:Hid (Below w0.heap.size w0 V):=by show Below _ _ _;rw [hV];exact b_step (n_after _ _) (n_after _ _)
  have C1:Hid (Cells V cb [.slice (some ⟨g,off,none⟩) P.length cap,.slice oa A.length ca,.slice oe E.length ce,.int .i64 r]):=by show Cells _ _ _;rw [hV,hcb];exact (Cells.new w0 _ _).step (n_after _ _)
  have C2:Hid (Cells V ob [.int .i64 0,.int .i64 0,.int .i64 0,.int .i64 0,.int .i64 0,.int .i64 0]):=by show Cells _ _ _;rw [hV,hob];have:=Cells.new (w0.alloc (.cells #[.slice (some ⟨g,off,none⟩) P.length cap,.slice oa A.length ca,.slice oe E.length ce,.int .i64 r] 33)) [.int .i64 0,.int .i64 0,.int .i64 0,.int .i64 0,.int .i64 0,.int .i64 0] 73;rwa [World.size_alloc] at this
  have x0:=c_after hBV.out x0
  have x1:=c_after hBV.out x1
  have x2:=c_after hBV.out x2
  have hl:(0:Int) < (P.length:Int):=by omega
  have hle:((P.length:Int) == 0) = false:=by rw [beq_eq_false_iff_ne];omega
  have k0:=(C1.out 0 _ rfl).1
  go_enter Tryz.func29,Tryz.ntmps29
  go_upto_region 1 with fail
  rw [<- hV,<- hob,<- hcb]
  have hoc:ob ≠ cb:=by omega
  have hco:w0.heap.size <= ob/\cb < V.heap.size/\ob < V.heap.size:=⟨by omega,Cells.lt C1.out,Cells.lt C2.out⟩
  clear hV hcb hob
  have hgV:g < V.heap.size:=World.block_lt_of_cell? _ _ x0
  obtain ⟨hco,hcV,hoV⟩:=hco
  go_upto_region 3 with fail
  obtain ⟨q0,hq0⟩:∃ q,q = pt P 0:=⟨_,rfl⟩
  have HQ0:Hid _:=hq0
  rw [<- hq0] at x0 x1 x2
  clear hq0
  go_cut [3] from 10 to 18 (fun s3 wx=>∃ bb,s3 = .pointer (some ⟨bb,0,none⟩)/\V.heap.size <= bb/\Hid (Cells wx bb [.int .i64 q0.x,.int .i64 q0.y,.int .i64 q0.z,.int .i64 q0.x,.int .i64 q0.y,.int .i64 q0.z])/\Hid (Below V.heap.size V wx))
  case first =>
   go_region
   go_wp2_with (fail)
   go_meet
   case rel=>exact ⟨_,rfl,Nat.le_refl _,(Cells.new V [.int .i64 q0.x,.int .i64 q0.y,.int .i64 q0.z,.int .i64 q0.x,.int .i64 q0.y,.int .i64 q0.z] 73).step (Below.refl _ _).drew,b_step (n_after _ _) (Below.refl _ _).drew⟩
  case rest =>
   obtain ⟨bb,rfl,hbb,CB,HBB⟩:=hcut
   have HKB:Hid (KB w0 wc (bb + 1) [(cb,[.slice (some ⟨g,off,none⟩) P.length cap,.slice oa A.length ca,.slice oe E.length ce,.int .i64 r]),(ob,[.int .i64 0,.int .i64 0,.int .i64 0,.int .i64 0,.int .i64 0,.int .i64 0])] bb (Bx.l (spanK P 0))):=by
    refine ⟨b_step hBV.out HBB.out,fun p hp=>?_,?_,by omega,by have:=hBV.out.size;omega,by have:=hBV.out.size;omega,Cells.lt CB.out⟩
    ·simp only [List.mem_cons,List.not_mem_nil,or_false] at hp
     rcases hp with rfl | rfl
     ·exact ⟨by show _ < _;omega,by show _ ≠ _;omega,C1.out.step HBB.out⟩
     ·exact ⟨by show _ < _;omega,by show _ ≠ _;omega,C2.out.step HBB.out⟩
    ·have h9:=CB.out
     rw [HQ0.out] at h9
     exact h9
   clear CB HBB C1 C2 HQ0 k0 x0 x1 x2 hBV
   go_wp2_with (fail)
   go_loopg [4] P.length (fun gm s4 wr=>∃ i:Nat,s4 = .int .i64 (i:Int)/\i <= P.length/\gm = P.length - i/\Hid (KB w0 wr (bb + 1) [(cb,[.slice (some ⟨g,off,none⟩) P.length cap,.slice oa A.length ca,.slice oe E.length ce,.int .i64 r]),(ob,[.int .i64 0,.int .i64 0,.int .i64 0,.int .i64 0,.int .i64 0,.int .i64 0])] bb (Bx.l (spanK P i))))
   case atStart=>exact ⟨0,rfl,Nat.zero_le _,rfl,HKB⟩
   case round =>
    clear HKB
    obtain ⟨i,rfl,hi,hgm,HKB⟩:=hrel
    have HG1:Hid _:=hgm
    clear hgm
    have k0:=(HKB.out.at List.mem_cons_self 0 _ rfl).1
    have HS1:Hid (spanK P (i + 1) = (spanK P i).join ⟨pt P i,pt P i⟩):=rfl
    by_cases hit:i < P.length
    ·obtain ⟨g',f',e',x0,x1,x2⟩:=HCL.out i hit
     cases e'
     have x0:=c_after HKB.out.below x0
     have x1:=c_after HKB.out.below x1
     have x2:=c_after HKB.out.below x2
     have hit2:(i:Int) < (P.length:Int):=by omega
     have HJ:Hid _:=fun w'=>rjoin_any (spanK P i) ⟨pt P i,pt P i⟩ w'
     rw [<- HS1.out] at HJ
     have HKE:Hid (∀ X,KB w0 X (bb + 1) [(cb,[.slice (some ⟨g,off,none⟩) P.length cap,.slice oa A.length ca,.slice oe E.length ce,.int .i64 r]),(ob,[.int .i64 0,.int .i64 0,.int .i64 0,.int .i64 0,.int .i64 0,.int .i64 0])] bb (Bx.l (spanK P (i + 1)))->∃ i2:Nat,Value.int .i64 ((i + 1:Nat):Int) = .int .i64 (i2:Int)/\i2 <= P.length/\P.length - (i + 1) = P.length - i2/\Hid (KB w0 X (bb + 1) [(cb,[.slice (some ⟨g,off,none⟩) P.length cap,.slice oa A.length ca,.slice oe E.length ce,.int .i64 r]),(ob,[.int .i64 0,.int .i64 0,.int .i64 0,.int .i64 0,.int .i64 0,.int .i64 0])] bb (Bx.l (spanK P i2)))):=fun X h=>⟨i + 1,rfl,by omega,rfl,h⟩
     generalize spanK P (i + 1) = jj at *
     generalize spanK P i = q at *
     generalize pt P i = p at *
     obtain ⟨⟨lx,ly,lz⟩,⟨hx,hy,hz⟩⟩:=q
     obtain ⟨⟨j0,j1,j2⟩,⟨j3,j4,j5⟩⟩:=jj
     obtain ⟨px,py,pz⟩:=p
     unfold Bx.v at HJ
     unfold Bx.l at HKB HKE
     dsimp only at HJ HKB HKE x0 x1 x2
     clear HS1 HCL
     have cc:=fun k v h=>HKB.out.box k v h
     obtain ⟨c0_,f0_⟩:=cc 0 _ rfl
     obtain ⟨c1_,f1_⟩:=cc 1 _ rfl
     obtain ⟨c2_,f2_⟩:=cc 2 _ rfl
     obtain ⟨c3_,f3_⟩:=cc 3 _ rfl
     obtain ⟨c4_,f4_⟩:=cc 4 _ rfl
     obtain ⟨c5_,f5_⟩:=cc 5 _ rfl
     clear cc
     go_upto_region 7 with fail
     refine RV.rs [.some (.agg #[.int .i64 lx,.int .i64 ly,.int .i64 lz,.int .i64 hx,.int .i64 hy,.int .i64 hz]),.some (.pointer (some ⟨cb,0,none⟩)),.some (.slice (some ⟨g,off,none⟩) P.length cap),.some (.int .i64 ((i:Int))),.some (.pointer (some ⟨g,off + i * 3,none⟩)),.some (.agg #[.int .i64 px,.int .i64 py,.int .i64 pz]),.some (.pointer (some ⟨cb,0,none⟩)),.some (.slice (some ⟨g,off,none⟩) P.length cap),.some (.int .i64 ((i:Int))),.some (.pointer (some ⟨g,off + i * 3,none⟩)),.some (.agg #[.int .i64 px,.int .i64 py,.int .i64 pz]),.some (.agg #[.int .i64 px,.int .i64 py,.int .i64 pz,.int .i64 px,.int .i64 py,.int .i64 pz]),.some (.agg #[.int .i64 j0,.int .i64 j1,.int .i64 j2,.int .i64 j3,.int .i64 j4,.int .i64 j5]),none] [27,28,29,30,31,32,33,34,35,36,37,38,39,0] [(1,.pointer (some ⟨cb,0,none⟩)),(3,.pointer (some ⟨bb,0,none⟩)),(4,.int .i64 ((i:Int)))] (fun γ L w9=>(L 13 = false/\Below wr.heap.size wr w9) \/ (L 13 = true/\∃ w,Below wr.heap.size wr w/\w9 = ((((((w.setCell ⟨bb,0,none⟩ (.int .i64 j0)).setCell ⟨bb,1,none⟩ (.int .i64 j1)).setCell ⟨bb,2,none⟩ (.int .i64 j2)).setCell ⟨bb,3,none⟩ (.int .i64 j3)).setCell ⟨bb,4,none⟩ (.int .i64 j4)).setCell ⟨bb,5,none⟩ (.int .i64 j5)))) ⟨rfl,rfl,rfl,trivial⟩ ?_ ?_ ?_
     ·exact Or.inl ⟨rfl,(Below.refl _ wr).drew⟩
     ·intro D WA Z hD hWA hZ T
      simp only [RV.Outs,RV.Slots,Nat.reduceAdd] at T
      iterate 12 first
       | (refine RV.cc _ (RV.pu T (fun γ v L w hl h=>by rw [RV.mn (L:=L) (i:=_) (j:=13) (by decide)];exact h) (fun γ L a w hH hl h9 k9=>⟨_,?_,rfl⟩)) ?_;· simp [execOp,go_sem,h9])
       | (refine RV.cc _ (RV.pu T (fun γ v L w hl h=>by rw [RV.mn (L:=L) (i:=_) (j:=13) (by decide)];exact h) (fun γ L a w hH hl h9 k9=>⟨_,?_,rfl⟩)) ?_;· simp [Region.binds] at k9;simp [execOp,go_sem,h9,k9,hit2])
       | (refine RV.cc _ (RV.pu T (fun γ v L w hl h=>by rw [RV.mn (L:=L) (i:=_) (j:=13) (by decide)];exact h) (fun γ L a w hH hl h9 k9=>⟨_,?_,rfl⟩)) ?_;· have hB9:=early9 hH.glob (RV.ny hH (RV.wt (j:=13) hWA (by kernel_rfl)) hl);have v0:=c_after hB9 x0;have v1:=c_after hB9 x1;have v2:=c_after hB9 x2;simp [Region.binds] at k9;simp [execOp,go_sem,h9,k9,v0,v1,v2])
       | (refine RV.cc _ (RV.pu T (fun γ v L w hl h=>by rw [RV.mn (L:=L) (i:=_) (j:=13) (by decide)];exact h) (fun γ L a w hH hl h9 k9=>⟨_,?_,rfl⟩)) ?_;· have hB9:=early9 hH.glob (RV.ny hH (RV.wt (j:=13) hWA (by kernel_rfl)) hl);have q0:=c_after hB9 k0;simp [Region.binds] at k9;simp [execOp,go_sem,h9,k9,q0])
       | (refine RV.cc _ (RV.pu T (fun γ v L w hl h=>by rw [RV.mn (L:=L) (i:=_) (j:=13) (by decide)];exact h) (fun γ L a w hH hl h9 k9=>⟨_,?_,rfl⟩)) ?_;· have hB9:=early9 hH.glob (RV.ny hH (RV.wt (j:=13) hWA (by kernel_rfl)) hl);have q0:=c_after hB9 c0_;have q1:=c_after hB9 c1_;have q2:=c_after hB9 c2_;have q3:=c_after hB9 c3_;have q4:=c_after hB9 c4_;have q5:=c_after hB9 c5_;simp [execOp,go_sem,h9,q0,q1,q2,q3,q4,q5])
      refine RV.cc _ (RV.dc (fun γ L a w hH hl hA=>by have h9:=T γ L a w hH;have k9:=hA;simp [Region.binds] at k9;have hB9:=early9 hH.glob (RV.ny hH (RV.wt (j:=13) (i:=12) hWA (by kernel_rfl)) hl);exact ⟨65,#[.agg #[.int .i64 lx,.int .i64 ly,.int .i64 lz,.int .i64 hx,.int .i64 hy,.int .i64 hz],.agg #[.int .i64 px,.int .i64 py,.int .i64 pz,.int .i64 px,.int .i64 py,.int .i64 pz]],by simp [go_sem,h9,k9],Calls.mono (HJ.out w) (by rintro e w2 ⟨rfl,hb⟩;exact ⟨_,rfl,rfl,fun j v _ h=>h.keep _,Or.inl ⟨by rw [RV.mn (L:=L) (i:=12) (j:=13) (by decide)];exact RV.ny hH (RV.wt (j:=13) (i:=12) hWA (by kernel_rfl)) hl,hB9.trans (hb.mono hB9.size)⟩⟩)⟩)) ?_
      refine RV.cc _ (RV.does_store (fun γ L a w hH hl hA=>by have h9:=T γ L a w hH;have k9:=hA;simp [Region.binds] at k9;have hB9:=early9 hH.glob hl;have z0:=c_after hB9 c0_;have zf0:=f_after hB9 c0_ f0_;have z1:=c_after hB9 c1_;have zf1:=f_after hB9 c1_ f1_;have z2:=c_after hB9 c2_;have zf2:=f_after hB9 c2_ f2_;have z3:=c_after hB9 c3_;have zf3:=f_after hB9 c3_ f3_;have z4:=c_after hB9 c4_;have zf4:=f_after hB9 c4_ f4_;have z5:=c_after hB9 c5_;have zf5:=f_after hB9 c5_ f5_;exact ⟨((((((w.setCell ⟨bb,0,none⟩ (.int .i64 j0)).setCell ⟨bb,1,none⟩ (.int .i64 j1)).setCell ⟨bb,2,none⟩ (.int .i64 j2)).setCell ⟨bb,3,none⟩ (.int .i64 j3)).setCell ⟨bb,4,none⟩ (.int .i64 j4)).setCell ⟨bb,5,none⟩ (.int .i64 j5)),by simp [execOp,go_sem,z0,zf0,z1,zf1,z2,zf2,z3,zf3,z4,zf4,z5,zf5,h9,k9],trivial,fun j v _ h=>h.keep _,Or.inr ⟨RV.more_self,w,hB9,rfl⟩⟩)) ?_
      exact RV.AllDo.nil
     ·intro γ w5 L9 hL hI9 hG9
      obtain ⟨w8,hb8,rfl⟩:=late9 hG9 (hL 13 (by decide))
      clear hL hI9 hG9
      simp only [RV.putL,Act.put,List.setIfInBounds_toArray,List.set_cons_zero,List.set_cons_succ]
      have HK9:Hid _:=((((((HKB.out.step hb8).put 0 (.int .i64 j0) (by simp)).put 1 (.int .i64 j1) (by simp)).put 2 (.int .i64 j2) (by simp)).put 3 (.int .i64 j3) (by simp)).put 4 (.int .i64 j4) (by simp)).put 5 (.int .i64 j5) (by simp)
      go_wp2_with (fail)
      go_roundg (P.length - (i + 1))
      case rel=>exact HKE.out _ HK9.out
      case measure=>have:=HG1.out;omega
    ·obtain rfl:i = P.length:=by omega
     have HGR:Hid _:=fun w'=>rgrown_any (spanK P P.length) r w'
     obtain ⟨jj,hjj⟩:∃ jj,jj = (spanK P P.length).grown r:=⟨_,rfl⟩
     rw [<- hjj] at HGR
     have HJJ:Hid _:=hjj
     clear hjj
     clear HS1 HCL
     obtain ⟨q,hq⟩:∃ q,q = spanK P P.length:=⟨_,rfl⟩
     rw [<- hq] at HGR HKB
     clear hq
     obtain ⟨⟨lx,ly,lz⟩,⟨hx,hy,hz⟩⟩:=q
     obtain ⟨⟨j0,j1,j2⟩,⟨j3,j4,j5⟩⟩:=jj
     unfold Bx.v at HGR
     unfold Bx.l at HKB
     dsimp only at HGR HKB
     have cc:=fun k v h=>(HKB.out.box k v h).1
     have c0_:=cc 0 _ rfl
     have c1_:=cc 1 _ rfl
     have c2_:=cc 2 _ rfl
     have c3_:=cc 3 _ rfl
     have c4_:=cc 4 _ rfl
     have c5_:=cc 5 _ rfl
     clear cc
     have k3:=(HKB.out.at List.mem_cons_self 3 _ rfl).1
     go_wp2_with (fail)
     refine Calls.mono (HGR.out _) ?_
     rintro e V3 ⟨rfl,hb⟩
     have HK3:Hid _:=HKB.out.step hb
     clear hb HKB c0_ c1_ c2_ c3_ c4_ c5_ k3 k0 HGR
     have OC:Hid _:=HK3.out.at (List.mem_cons_of_mem _ List.mem_cons_self)
     obtain ⟨b0,d0⟩:=OC.out 0 _ rfl
     obtain ⟨b1,d1⟩:=OC.out 1 _ rfl
     obtain ⟨b2,d2⟩:=OC.out 2 _ rfl
     obtain ⟨b3,d3⟩:=OC.out 3 _ rfl
     obtain ⟨b4,d4⟩:=OC.out 4 _ rfl
     obtain ⟨b5,d5⟩:=OC.out 5 _ rfl
     go_wp2_with (fail)
     refine bodyPost_ret (v:=.agg #[.int .i64 j0,.int .i64 j1,.int .i64 j2,.int .i64 j3,.int .i64 j4,.int .i64 j5]) (by simp [results,Tryz.results29,go_sem,b0,b1,b2,b3,b4,b5]) rfl ⟨by rw [<- HJJ.out];rfl,?_⟩
     exact set6_below HK3.out.below hco ⟨⟨j0,j1,j2⟩,⟨j3,j4,j5⟩⟩
end
section
open Go.RowKit Fx
theorem in_square {x n R:Int} (hR:0 <= R) (hn:0 <= n) (h:x * x + R < (n + 1) * (n + 1)):-n <= x/\x <= n:=by
 constructor
 ·apply Int.not_lt.1
  intro hlt
  have:=Int.mul_le_mul (show n + 1 <= -x by omega) (show n + 1 <= -x by omega) (by omega) (by omega)
  rw [Int.neg_mul_neg] at this
  omega
 ·apply Int.not_lt.1
  intro hlt
  have:=Int.mul_le_mul (show n + 1 <= x by omega) (show n + 1 <= x by omega) (by omega) (by omega)
  omega
theorem sq_nonneg (x:Int):0 <= x * x:=by
 rcases Int.le_total 0 x with g | g
 ·exact Int.mul_nonneg g g
 ·exact Int.mul_nonneg_of_nonpos_of_nonpos g g
end
section
open Go.RowKit Fx
namespace WM
theorem mul_in {a b A B:Int} (ha:-A <= a/\a <= A) (hb:-B <= b/\b <= B):-(A * B) <= a * b/\a * b <= A * B:=by
 have h1:=Int.mul_nonneg (show 0 <= A - a by omega) (show 0 <= B + b by omega)
 have h2:=Int.mul_nonneg (show 0 <= A + a by omega) (show 0 <= B - b by omega)
 have h3:=Int.mul_nonneg (show 0 <= A - a by omega) (show 0 <= B - b by omega)
 have h4:=Int.mul_nonneg (show 0 <= A + a by omega) (show 0 <= B + b by omega)
 simp only [Int.add_mul,Int.sub_mul,Int.mul_add,Int.mul_sub] at h1 h2 h3 h4
 omega
theorem norm4_some {x y z u s:Int} (h:norm [x,y,z,u] = some s):great x = false/\great y = false/\great z = false/\great u = false/\great s = false/\0 <= s/\s * s <= x * x + (y * y + (z * z + u * u))/\x * x + (y * y + (z * z + u * u)) < (s + 1) * (s + 1):=by
 unfold norm at h
 split at h
 ·simp at h
 ·split at h
  ·simp at h
  ·rename_i ha
   unfold Fx.told at h
   split at h
   ·simp at h
   ·rename_i hg
    have hg':great _ = false:=Bool.eq_false_iff.2 hg
    simp only [Option.some.injEq] at h
    rw [h] at hg'
    obtain ⟨p,q⟩:=isq_is (prods [x,y,z,u] [x,y,z,u]).toNat
    have h0:=prods_self [x,y,z,u]
    generalize hr:isq (prods [x,y,z,u] [x,y,z,u]).toNat = r at *
    have p':=Int.ofNat_le.2 p
    have q':=Int.ofNat_lt.2 q
    rw [Int.toNat_of_nonneg h0,Int.natCast_mul] at p' q'
    rw [Int.natCast_add] at q'
    simp only [prods,Int.add_zero] at p' q'
    simp only [List.any_cons,List.any_nil,Bool.or_false,Bool.not_eq_true,Bool.or_eq_false_iff] at ha
    subst h
    exact ⟨ha.1,ha.2.1,ha.2.2.1,ha.2.2.2,hg',by omega,p',q'⟩
theorem part4 {x n u t:Int} (hn:0 < n) (ht:-t <= x/\x <= t) (htn:t <= n) (hu:u = x * 4294967296 / n):-4294967296 <= u/\u <= 4294967296/\n * n * (u * u) <= 18446744073709551616 * (x * x) + 8589934592 * (t * n) + n * n/\18446744073709551616 * (x * x) <= n * n * (u * u) + 8589934592 * (t * n):=by
 have hd:=div_is (x * 4294967296) n (by omega)
 rw [<- hu] at hd
 obtain ⟨e,he⟩:∃ e,e = x * 4294967296 - u * n:=⟨_,rfl⟩
 have e0:0 <= e:=by omega
 have e1:e < n:=by have:=hd.2;rw [Int.add_mul] at this;omega
 have un:u * n = x * 4294967296 - e:=by omega
 have sq:n * n * (u * u) = 18446744073709551616 * (x * x) - 8589934592 * (x * e) + e * e:=by
  have:n * n * (u * u) = (u * n) * (u * n):=by grind
  rw [this,un];grind
 have b1:=mul_in (a:=x) (b:=e) (A:=t) (B:=n) ht (by omega)
 have b3:e * e <= n * n:=Int.mul_le_mul (by omega) (by omega) e0 (by omega)
 have b4:0 <= e * e:=Int.mul_nonneg e0 e0
 refine ⟨?_,?_,by omega,by omega⟩
 ·apply Int.not_lt.1
  intro hlt
  have:=Int.mul_le_mul_of_nonneg_right (show u + 1 <= -4294967296 by omega) (show 0 <= n by omega)
  have:=hd.2
  omega
 ·apply Int.not_lt.1
  intro hlt
  have:=Int.mul_le_mul_of_nonneg_right (show 4294967297 <= u by omega) (show 0 <= n by omega)
  have:=hd.1
  omega
theorem size_of (x:Int):∃ t:Int,0 <= t/\(-t <= x/\x <= t)/\t * t = x * x/\(t = x \/ t = -x):=by
 rcases Int.le_total 0 x with g | g
 ·exact ⟨x,g,⟨by omega,by omega⟩,rfl,Or.inl rfl⟩
 ·exact ⟨-x,by omega,⟨by omega,by omega⟩,by rw [Int.neg_mul_neg],Or.inr rfl⟩
theorem cauchy4 (a b c d:Int):(a + b + c + d) * (a + b + c + d) <= 4 * (a * a + (b * b + (c * c + d * d))):=by
 have h1:=sq_nonneg (a - b)
 have h2:=sq_nonneg (a - c)
 have h3:=sq_nonneg (a - d)
 have h4:=sq_nonneg (b - c)
 have h5:=sq_nonneg (b - d)
 have h6:=sq_nonneg (c - d)
 have e:4 * (a * a + (b * b + (c * c + d * d))) - (a + b + c + d) * (a + b + c + d) = (a - b) * (a - b) + (a - c) * (a - c) + (a - d) * (a - d) + (b - c) * (b - c) + (b - d) * (b - d) + (c - d) * (c - d):=by grind
 omega
theorem whole_long {x y z s n:Int} (h:norm [x,y,z,s] = some n) (hn:2147483648 <= n):∃ a b c d l,ratio x 4294967296 n = some a/\ratio y 4294967296 n = some b/\ratio z 4294967296 n = some c/\ratio s 4294967296 n = some d/\norm [a,b,c,d] = some l/\4294967292 <= l/\l <= 4294967300 /\
  (-4294967296 <= a/\a <= 4294967296)/\(-4294967296 <= b/\b <= 4294967296)/\(-4294967296 <= c/\c <= 4294967296)/\(-4294967296 <= d/\d <= 4294967296) /\
  -34359738376 <= a * a + (b * b + (c * c + d * d)) - 18446744073709551616/\a * a + (b * b + (c * c + d * d)) - 18446744073709551616 <= 34359738376:=by
 obtain ⟨gx,gy,gz,gs,gn,n0,h1,h2⟩:=norm4_some h
 have px:=sq_nonneg x
 have py:=sq_nonneg y
 have pz:=sq_nonneg z
 have ps:=sq_nonneg s
 have ix:=in_square (x:=x) (R:=y * y + (z * z + s * s)) (by omega) n0 (by omega)
 have iy:=in_square (x:=y) (R:=x * x + (z * z + s * s)) (by omega) n0 (by omega)
 have iz:=in_square (x:=z) (R:=x * x + (y * y + s * s)) (by omega) n0 (by omega)
 have is:=in_square (x:=s) (R:=x * x + (y * y + z * z)) (by omega) n0 (by omega)
 obtain ⟨tx,tx0,tx1,tx2,tx3⟩:=size_of x
 obtain ⟨ty,ty0,ty1,ty2,ty3⟩:=size_of y
 obtain ⟨tz,tz0,tz1,tz2,tz3⟩:=size_of z
 obtain ⟨ts,ts0,ts1,ts2,ts3⟩:=size_of s
 have hx9:tx <= n:=by clear ty3 tz3 ts3;omega
 have hy9:ty <= n:=by clear tx3 tz3 ts3;omega
 have hz9:tz <= n:=by clear tx3 ty3 ts3;omega
 have hs9:ts <= n:=by clear tx3 ty3 tz3;omega
 clear tx3 ty3 tz3 ts3
 have kx:=part4 (u:=x * 4294967296 / n) (by omega) tx1 hx9 rfl
 have ky:=part4 (u:=y * 4294967296 / n) (by omega) ty1 hy9 rfl
 have kz:=part4 (u:=z * 4294967296 / n) (by omega) tz1 hz9 rfl
 have ks:=part4 (u:=s * 4294967296 / n) (by omega) ts1 hs9 rfl
 have one:∀ t:Int,great t = false->-4294967296 <= t * 4294967296 / n/\t * 4294967296 / n <= 4294967296->ratio t 4294967296 n = some (t * 4294967296 / n):=by
  intro t gt hb
  have g1:great 4294967296 = false:=by decide
  have g2:great (t * 4294967296 / n) = false:=(not_great _).2 ⟨Int.le_trans (by omega) hb.1,Int.le_trans hb.2 (by omega)⟩
  unfold ratio fl
  rw [if_neg (by omega:¬ n = 0),gt,g1,gn,if_neg (by omega:¬ n < 0)]
  simp [Fx.told,g2]
 have r0:=one x gx ⟨kx.1,kx.2.1⟩
 have r1:=one y gy ⟨ky.1,ky.2.1⟩
 have r2:=one z gz ⟨kz.1,kz.2.1⟩
 have r3:=one s gs ⟨ks.1,ks.2.1⟩
 generalize x * 4294967296 / n = a at *
 generalize y * 4294967296 / n = b at *
 generalize z * 4294967296 / n = c at *
 generalize s * 4294967296 / n = d at *
 clear one
 have ga:great a = false:=(not_great _).2 (by omega)
 have gb:great b = false:=(not_great _).2 (by omega)
 have gc:great c = false:=(not_great _).2 (by omega)
 have gd:great d = false:=(not_great _).2 (by omega)
 obtain ⟨T,hT⟩:∃ T,T = tx + ty + tz + ts:=⟨_,rfl⟩
 have hc:=cauchy4 tx ty tz ts
 rw [<- hT,tx2,ty2,tz2,ts2] at hc
 have h3:(n + 1) * (n + 1) = n * n + 2 * n + 1:=by grind
 have hT1:T <= 2 * n + 1:=by
  apply Int.not_lt.1
  intro hlt
  have:=Int.mul_le_mul (show 2 * (n + 1) <= T by omega) (show 2 * (n + 1) <= T by omega) (by omega) (by omega)
  have e:2 * (n + 1) * (2 * (n + 1)) = 4 * ((n + 1) * (n + 1)):=by grind
  omega
 have hTn:T * n <= (2 * n + 1) * n:=Int.mul_le_mul_of_nonneg_right hT1 n0
 have hTn':T * n = tx * n + ty * n + tz * n + ts * n:=by rw [hT];grind
 have e1:(2 * n + 1) * n = 2 * (n * n) + n:=by grind
 have nn:2147483648 * n <= n * n:=Int.mul_le_mul_of_nonneg_right hn n0
 have np:0 < n * n:=Int.mul_pos (by omega) (by omega)
 obtain ⟨S,hS⟩:∃ S,S = a * a + (b * b + (c * c + d * d)):=⟨_,rfl⟩
 have pa:=sq_nonneg a
 have pb:=sq_nonneg b
 have pc:=sq_nonneg c
 have pd:=sq_nonneg d
 have S0:0 <= S:=by omega
 have hnS:n * n * S = n * n * (a * a) + (n * n * (b * b) + (n * n * (c * c) + n * n * (d * d))):=by rw [hS,Int.mul_add,Int.mul_add,Int.mul_add]
 rw [h3] at h2
 clear hc tx2 ty2 tz2 ts2
 have up:n * n * S <= n * n * 18446744108069289992:=by omega
 have lo:n * n * 18446744056529682428 <= n * n * S:=by omega
 have up':S <= 18446744108069289992:=Int.le_of_mul_le_mul_left up np
 have lo':18446744056529682428 <= S:=Int.le_of_mul_le_mul_left lo np
 have hpr:prods [a,b,c,d] [a,b,c,d] = S:=by simp only [prods,Int.add_zero,hS]
 obtain ⟨p,q⟩:=isq_is S.toNat
 obtain ⟨l,hl⟩:∃ l:Nat,l = isq S.toNat:=⟨_,rfl⟩
 rw [<- hl] at p q
 have p':=Int.ofNat_le.2 p
 have q':=Int.ofNat_lt.2 q
 rw [Int.toNat_of_nonneg S0,Int.natCast_mul] at p' q'
 rw [Int.natCast_add] at q'
 have l1:(4294967292:Int) <= l:=by
  apply Int.not_lt.1
  intro hlt
  have:=Int.mul_le_mul (show (l:Int) + ((1:Nat):Int) <= 4294967292 by omega) (show (l:Int) + ((1:Nat):Int) <= 4294967292 by omega) (by omega) (by omega)
  omega
 have l2:(l:Int) <= 4294967300:=by
  apply Int.not_lt.1
  intro hlt
  have:=Int.mul_le_mul (show (4294967301:Int) <= l by omega) (show (4294967301:Int) <= l by omega) (by omega) (by omega)
  omega
 refine ⟨a,b,c,d,l,r0,r1,r2,r3,?_,l1,l2,⟨kx.1,kx.2.1⟩,⟨ky.1,ky.2.1⟩,⟨kz.1,kz.2.1⟩,⟨ks.1,ks.2.1⟩,by omega,by omega⟩
 have gl:great (l:Int) = false:=(not_great _).2 (by omega)
 unfold norm
 rw [if_neg (by simp),hpr,<- hl]
 simp [ga,gb,gc,gd,Fx.told,gl]
theorem dot2 {a b c d:Int} (ha:-8589934592 <= a/\a <= 8589934592) (hb:-8589934592 <= b/\b <= 8589934592) (hc:-4294967296 <= c/\c <= 4294967296) (hd:-4294967296 <= d/\d <= 4294967296) :
  ∃ r:Int,dot [a,b] [c,d] = some r/\4294967296 * r <= a * c + b * d/\a * c + b * d < 4294967296 * r + 4294967296/\-17179869184 <= r/\r <= 17179869184:=by
 have k1:=mul_in ha hc
 have k2:=mul_in hb hd
 have hv:=div_is (a * c + b * d) 4294967296 (by omega)
 have e:prods [a,b] [c,d] / 4294967296 = (a * c + b * d) / 4294967296:=by simp only [prods,Int.add_zero]
 refine ⟨(a * c + b * d) / 4294967296,?_,by omega,by omega,by omega,by omega⟩
 have g1:[a,b].any great = false:=by simp [(not_great a).2 (by omega),(not_great b).2 (by omega)]
 have g2:[c,d].any great = false:=by simp [(not_great c).2 (by omega),(not_great d).2 (by omega)]
 have g3:great ((a * c + b * d) / 4294967296) = false:=(not_great _).2 (by omega)
 unfold dot
 rw [if_neg (by simp),if_neg (by simp),g1,g2,e]
 simp [Fx.told,g3]
theorem add2 {q:Int} (h:-4294967296 <= q/\q <= 4294967296):add q q = some (2 * q):=by
 unfold add
 rw [(not_great q).2 (by omega),show q + q = 2 * q by omega]
 simp [Fx.told,(not_great (2 * q)).2 (by omega)]
theorem sub0 {q:Int} (h:-4294967296 <= q/\q <= 4294967296):sub 0 q = some (-q):=by
 unfold sub
 rw [(not_great q).2 (by omega),show (0:Int) - q = -q by omega,(not_great 0).2 (by omega)]
 simp [Fx.told,(not_great (-q)).2 (by omega)]
theorem sub1 {q:Int} (h:-17179869184 <= q/\q <= 17179869184):sub 4294967296 q = some (4294967296 - q):=by
 unfold sub
 rw [(not_great q).2 (by omega),(not_great 4294967296).2 (by omega)]
 simp [Fx.told,(not_great (4294967296 - q)).2 (by omega)]
def Near (m R:Int):Prop:=(-4294967296 <= 4294967296 * m - R/\4294967296 * m - R <= 4294967296)/\(-36893488147419103232 <= R/\R <= 36893488147419103232)/\(-8589934592 <= m/\m <= 8589934592)
theorem near_off {r P:Int} (l:4294967296 * r <= P) (u:P < 4294967296 * r + 4294967296) (hP:-18446744108069289992 <= P/\P <= 18446744108069289992):Near r P:=by
 unfold Near
 omega
theorem near_dia {r P:Int} (l:4294967296 * r <= P) (u:P < 4294967296 * r + 4294967296) (hP:0 <= P/\P <= 36893488216138579984):Near (4294967296 - r) (18446744073709551616 - P):=by
 unfold Near
 omega
theorem two_le {a b:Int}:-(a * a + b * b) <= 2 * (a * b)/\2 * (a * b) <= a * a + b * b:=by
 have h3:=sq_nonneg (a + b)
 have h4:=sq_nonneg (a - b)
 have e3:(a + b) * (a + b) = a * a + b * b + 2 * (a * b):=by grind
 have e4:(a - b) * (a - b) = a * a + b * b - 2 * (a * b):=by grind
 omega
theorem off_le {a b c d M:Int} (h:a * a + b * b + (c * c + d * d) <= M):(-M <= 2 * (a * b) + 2 * (c * d)/\2 * (a * b) + 2 * (c * d) <= M)/\(-M <= 2 * (a * b) + 2 * (c * -d)/\2 * (a * b) + 2 * (c * -d) <= M):=by
 have h1:=two_le (a:=a) (b:=b)
 have h2:=two_le (a:=c) (b:=d)
 rw [Int.mul_neg]
 omega
theorem dia_le {a b c d M:Int} (h:a * a + b * b + (c * c + d * d) <= M):0 <= 2 * (a * a) + 2 * (b * b)/\2 * (a * a) + 2 * (b * b) <= 2 * M:=by
 have h1:=sq_nonneg a
 have h2:=sq_nonneg b
 have h3:=sq_nonneg c
 have h4:=sq_nonneg d
 omega
theorem neg_in {q:Int} (h:-4294967296 <= q/\q <= 4294967296):-4294967296 <= -q/\-q <= 4294967296:=by omega
theorem dbl_in {q:Int} (h:-4294967296 <= q/\q <= 4294967296):-8589934592 <= 2 * q/\2 * q <= 8589934592:=by omega
theorem rows_near {w x y z:Int} (hw:-4294967296 <= w/\w <= 4294967296) (hx:-4294967296 <= x/\x <= 4294967296) (hy:-4294967296 <= y/\y <= 4294967296) (hz:-4294967296 <= z/\z <= 4294967296)
  (h2:w * w + (x * x + (y * y + z * z)) - 18446744073709551616 <= 34359738376):rowsBad w x y z = false /\
  Near (rowsAt0 w x y z) (18446744073709551616 - (2 * (y * y) + 2 * (z * z)))/\Near (rowsAt1 w x y z) (2 * (x * y) + 2 * (w * -z))/\Near (rowsAt2 w x y z) (2 * (x * z) + 2 * (w * y)) /\
  Near (rowsAt3 w x y z) (2 * (x * y) + 2 * (w * z))/\Near (rowsAt4 w x y z) (18446744073709551616 - (2 * (x * x) + 2 * (z * z)))/\Near (rowsAt5 w x y z) (2 * (y * z) + 2 * (w * -x)) /\
  Near (rowsAt6 w x y z) (2 * (x * z) + 2 * (w * -y))/\Near (rowsAt7 w x y z) (2 * (y * z) + 2 * (w * x))/\Near (rowsAt8 w x y z) (18446744073709551616 - (2 * (x * x) + 2 * (y * y))):=by
 have B0:=dia_le (a:=y) (b:=z) (c:=w) (d:=x) (M:=18446744108069289992) (by omega)
 have B1:=off_le (a:=x) (b:=y) (c:=w) (d:=z) (M:=18446744108069289992) (by omega)
 have B2:=off_le (a:=x) (b:=z) (c:=w) (d:=y) (M:=18446744108069289992) (by omega)
 have B4:=dia_le (a:=x) (b:=z) (c:=w) (d:=y) (M:=18446744108069289992) (by omega)
 have B5:=off_le (a:=y) (b:=z) (c:=w) (d:=x) (M:=18446744108069289992) (by omega)
 have B8:=dia_le (a:=x) (b:=y) (c:=w) (d:=z) (M:=18446744108069289992) (by omega)
 obtain ⟨r0,d0,l0,u0,k0,j0⟩:=dot2 (dbl_in hy) (dbl_in hz) hy hz
 obtain ⟨r1,d1,l1,u1,k1,j1⟩:=dot2 (dbl_in hx) (dbl_in hw) hy (neg_in hz)
 obtain ⟨r2,d2,l2,u2,k2,j2⟩:=dot2 (dbl_in hx) (dbl_in hw) hz hy
 obtain ⟨r3,d3,l3,u3,k3,j3⟩:=dot2 (dbl_in hx) (dbl_in hw) hy hz
 obtain ⟨r4,d4,l4,u4,k4,j4⟩:=dot2 (dbl_in hx) (dbl_in hz) hx hz
 obtain ⟨r5,d5,l5,u5,k5,j5⟩:=dot2 (dbl_in hy) (dbl_in hw) hz (neg_in hx)
 obtain ⟨r6,d6,l6,u6,k6,j6⟩:=dot2 (dbl_in hx) (dbl_in hw) hz (neg_in hy)
 obtain ⟨r7,d7,l7,u7,k7,j7⟩:=dot2 (dbl_in hy) (dbl_in hw) hz hx
 obtain ⟨r8,d8,l8,u8,k8,j8⟩:=dot2 (dbl_in hx) (dbl_in hy) hx hy
 simp only [Int.mul_assoc] at l0 u0 l1 u1 l2 u2 l3 u3 l4 u4 l5 u5 l6 u6 l7 u7 l8 u8
 unfold rowsBad rowsAt0 rowsAt1 rowsAt2 rowsAt3 rowsAt4 rowsAt5 rowsAt6 rowsAt7 rowsAt8
 simp only [add2 hw,add2 hx,add2 hy,add2 hz,sub0 hw,sub0 hx,sub0 hy,sub0 hz,Option.getD_some,Option.isNone_some,d0,d1,d2,d3,d4,d5,d6,d7,d8,sub1 ⟨k0,j0⟩,sub1 ⟨k4,j4⟩,sub1 ⟨k8,j8⟩]
 exact ⟨by simp,near_dia l0 u0 B0,near_off l1 u1 B1.2,near_off l2 u2 B2.1,near_off l3 u3 B1.1,near_dia l4 u4 B4,near_off l5 u5 B5.2,near_off l6 u6 B2.2,near_off l7 u7 B5.1,near_dia l8 u8 B8⟩
end WM
end
section
open Go.RowKit Fx
namespace WM
def Whole (w x y z:Int):Prop:=(-4294967296 <= w/\w <= 4294967296)/\(-4294967296 <= x/\x <= 4294967296)/\(-4294967296 <= y/\y <= 4294967296)/\(-4294967296 <= z/\z <= 4294967296) /\
  -34359738376 <= w * w + (x * x + (y * y + z * z)) - 18446744073709551616/\w * w + (x * x + (y * y + z * z)) - 18446744073709551616 <= 34359738376
theorem dot3 {m0 m1 m2 a0 a1 a2 B:Int} (h0:-8589934592 <= m0/\m0 <= 8589934592) (h1:-8589934592 <= m1/\m1 <= 8589934592) (h2:-8589934592 <= m2/\m2 <= 8589934592)
  (k0:-B <= a0/\a0 <= B) (k1:-B <= a1/\a1 <= B) (k2:-B <= a2/\a2 <= B) (hB:B <= 1125899906842624) :
  ∃ r:Int,dot [m0,m1,m2] [a0,a1,a2] = some r/\(4294967296 * r <= m0 * a0 + (m1 * a1 + m2 * a2)/\m0 * a0 + (m1 * a1 + m2 * a2) < 4294967296 * r + 4294967296)/\(-(6 * B + 1) <= r/\r <= 6 * B + 1):=by
 have j0:=mul_in h0 k0
 have j1:=mul_in h1 k1
 have j2:=mul_in h2 k2
 have e:prods [m0,m1,m2] [a0,a1,a2] / 4294967296 = (m0 * a0 + (m1 * a1 + m2 * a2)) / 4294967296:=by simp only [prods,Int.add_zero]
 have g1:[m0,m1,m2].any great = false:=by simp [(not_great m0).2 (by omega),(not_great m1).2 (by omega),(not_great m2).2 (by omega)]
 have g2:[a0,a1,a2].any great = false:=by simp [(not_great a0).2 (by omega),(not_great a1).2 (by omega),(not_great a2).2 (by omega)]
 have hX:-(25769803776 * B) <= m0 * a0 + (m1 * a1 + m2 * a2)/\m0 * a0 + (m1 * a1 + m2 * a2) <= 25769803776 * B:=by omega
 generalize m0 * a0 + (m1 * a1 + m2 * a2) = X at *
 refine ⟨X / 4294967296,?_,by omega,by omega⟩
 have g3:great (X / 4294967296) = false:=(not_great _).2 (by omega)
 unfold dot
 rw [if_neg (by simp),if_neg (by simp),g1,g2,e]
 simp [Fx.told,g3]
end WM
end
section
open Go.RowKit Fx
structure M9.Fit (m:M9):Prop where
 h0:-8589934592 <= m.a0/\m.a0 <= 8589934592
 h1:-8589934592 <= m.a1/\m.a1 <= 8589934592
 h2:-8589934592 <= m.a2/\m.a2 <= 8589934592
 h3:-8589934592 <= m.a3/\m.a3 <= 8589934592
 h4:-8589934592 <= m.a4/\m.a4 <= 8589934592
 h5:-8589934592 <= m.a5/\m.a5 <= 8589934592
 h6:-8589934592 <= m.a6/\m.a6 <= 8589934592
 h7:-8589934592 <= m.a7/\m.a7 <= 8589934592
 h8:-8589934592 <= m.a8/\m.a8 <= 8589934592
theorem rows_fit {q:Q4} (h:WM.Whole q.w q.x q.y q.z):rowsB q = false/\(rowsM q).Fit:=by
 obtain ⟨hw,hx,hy,hz,hN1,hN2⟩:=id h
 obtain ⟨hbad,n0,n1,n2,n3,n4,n5,n6,n7,n8⟩:=WM.rows_near hw hx hy hz hN2
 refine ⟨hbad,?_⟩
 unfold rowsM rowsB
 rw [hbad]
 exact ⟨n0.2.2,n1.2.2,n2.2.2,n3.2.2,n4.2.2,n5.2.2,n6.2.2,n7.2.2,n8.2.2⟩
theorem turn_some {m:M9} (h:m.Fit) {x:Pt} {B:Int} (hx:x.inB B = true) (hB:B <= 1125899906842624):∃ r,m.turn x = some r/\r.inB (6 * B + 1) = true:=by
 obtain ⟨k0,k1,k2⟩:=(Pt.inB_iff _ _).1 hx
 obtain ⟨r0,e0,_,b0⟩:=WM.dot3 h.h0 h.h1 h.h2 k0 k1 k2 hB
 obtain ⟨r1,e1,_,b1⟩:=WM.dot3 h.h3 h.h4 h.h5 k0 k1 k2 hB
 obtain ⟨r2,e2,_,b2⟩:=WM.dot3 h.h6 h.h7 h.h8 k0 k1 k2 hB
 refine ⟨⟨r0,r1,r2⟩,?_,(Pt.inB_iff _ _).2 ⟨b0,b1,b2⟩⟩
 unfold M9.turn
 rw [e0,e1,e2];rfl
theorem times_in {p:Pt} {B n:Int} (h:p.inB B = true) (hn:0 <= n) (hb:B * n <= 9223372036854775807):p.times n = ⟨p.x * n,p.y * n,p.z * n⟩/\(p.times n).inB (B * n) = true:=by
 obtain ⟨k0,k1,k2⟩:=(Pt.inB_iff _ _).1 h
 have j0:=WM.mul_in k0 (show -n <= n/\n <= n by omega)
 have j1:=WM.mul_in k1 (show -n <= n/\n <= n by omega)
 have j2:=WM.mul_in k2 (show -n <= n/\n <= n by omega)
 have e:p.times n = ⟨p.x * n,p.y * n,p.z * n⟩:=by
  unfold Pt.times
  congr 1
  ·rw [IntKind.wrap_i64];omega
  ·rw [IntKind.wrap_i64];omega
  ·rw [IntKind.wrap_i64];omega
 rw [e]
 exact ⟨rfl,(Pt.inB_iff _ _).2 ⟨j0,j1,j2⟩⟩
theorem add_some {x y:Int} (h:-4611686018427387903 <= x + y/\x + y <= 4611686018427387903) (hx:-4611686018427387903 <= x/\x <= 4611686018427387903) (hy:-4611686018427387903 <= y/\y <= 4611686018427387903):add x y = some (x + y):=by
 unfold add
 simp [Fx.told,(not_great x).2 (by omega),(not_great y).2 (by omega),(not_great (x + y)).2 (by omega)]
theorem addO_some {x y:Pt} {A B:Int} (hx:x.inB A = true) (hy:y.inB B = true) (h:A + B <= 4611686018427387903) (hA:0 <= A) (hB:0 <= B):x.addO y = some ⟨x.x + y.x,x.y + y.y,x.z + y.z⟩:=by
 obtain ⟨k0,k1,k2⟩:=(Pt.inB_iff _ _).1 hx
 obtain ⟨j0,j1,j2⟩:=(Pt.inB_iff _ _).1 hy
 unfold Pt.addO
 rw [add_some (by omega) (by omega) (by omega),add_some (by omega) (by omega) (by omega),add_some (by omega) (by omega) (by omega)];rfl
theorem point_some {m:M9} (h:m.Fit) {t p:Pt} (ht:t.inB 5497558138880 = true) (hp:p.inB 65536 = true):∃ u:Pt,m.turn ⟨p.x * 1048576,p.y * 1048576,p.z * 1048576⟩ = some u/\u.inB 412316860417 = true/\m.ptB t p = false/\m.ptV t p = ⟨(u.x + t.x) / 1048576,(u.y + t.y) / 1048576,(u.z + t.z) / 1048576⟩/\(m.ptV t p).inB 8388608 = true:=by
 obtain ⟨e1,hb⟩:=times_in (n:=1048576) hp (by decide) (by decide)
 rw [e1] at hb
 obtain ⟨u,e2,hu⟩:=turn_some h hb (by decide)
 have hu:u.inB 412316860417 = true:=inB_mono hu (by decide)
 have e3:=addO_some hu ht (by decide) (by decide) (by decide)
 refine ⟨u,e2,hu,?_,?_⟩
 ·unfold M9.ptB M9.at1
  rw [e1,e2]
  simp [e3]
 ·have e4:m.ptV t p = ⟨(u.x + t.x) / 1048576,(u.y + t.y) / 1048576,(u.z + t.z) / 1048576⟩:=by
   unfold M9.ptV M9.at2 M9.at1
   rw [e1,e2]
   simp only [Option.getD_some,e3]
   rfl
  refine ⟨e4,?_⟩
  rw [e4]
  obtain ⟨k0,k1,k2⟩:=(Pt.inB_iff _ _).1 hu
  obtain ⟨j0,j1,j2⟩:=(Pt.inB_iff _ _).1 ht
  rw [Pt.inB_iff]
  dsimp only
  omega
theorem longF_is (n:Nat) (p:Pt) (h:p.inB 1048576 = true):(longF n p).inB 1048576 = true/\∃ j:Nat,longF n p = ⟨2 ^ j * p.x,2 ^ j * p.y,2 ^ j * p.z⟩:=by
 induction n generalizing p with
 | zero=>exact ⟨h,0,by simp [longF]⟩
 | succ n ih =>
  by_cases hq:p.inB 524288 = true
  ·have hI:=(Pt.inB_iff _ _).1 hq
   have e:p.plus p = ⟨2 * p.x,2 * p.y,2 * p.z⟩:=by
    unfold Pt.plus
    congr 1
    ·rw [IntKind.wrap_i64];omega
    ·rw [IntKind.wrap_i64];omega
    ·rw [IntKind.wrap_i64];omega
   obtain ⟨h1,j,h2⟩:=ih (p.plus p) (by rw [e,Pt.inB_iff];dsimp only;omega)
   have e9:longF (n + 1) p = longF n (p.plus p):=by simp [longF,hq]
   rw [e9]
   refine ⟨h1,j + 1,?_⟩
   rw [h2,e]
   simp only [Int.pow_succ,Int.mul_assoc]
  ·have e9:longF (n + 1) p = p:=by simp [longF,hq]
   rw [e9]
   exact ⟨h,0,by simp⟩
theorem long_is (p:Pt) (h:p.inB 1048576 = true):p.long.inB 1048576 = true/\∃ j:Nat,p.long = ⟨2 ^ j * p.x,2 ^ j * p.y,2 ^ j * p.z⟩:=by
 unfold Pt.long
 split
 ·exact ⟨h,0,by simp⟩
 ·exact longF_is 20 p h
theorem dir_some {m:M9} (h:m.Fit) {p:Pt} (hp:p.inB 1048576 = true):m.dirB p = false:=by
 obtain ⟨e1,hb⟩:=times_in (n:=4096) (long_is p hp).1 (by decide) (by decide)
 obtain ⟨u,e2,hu⟩:=turn_some h hb (by decide)
 unfold M9.dirB
 rw [e2];rfl
theorem all_win {L:List Pt} {m n:Int} (h:∀ p ∈ L,p.inB m = true) (hm:m <= n) (h1:0 <= n) (h2:n <= 9223372036854775807):(L.all fun p=>p.win n) = true:=by
 rw [List.all_eq_true]
 intro p hp
 rw [win_in _ _ h1 h2]
 exact inB_mono (h p hp) hm
theorem place_ok {t:Pt} {q:Q4} {P A E:List Pt} (hq:WM.Whole q.w q.x q.y q.z) (ht:t.inB 5497558138880 = true) (h0:0 < P.length) (hP:∀ p ∈ P,p.inB 65536 = true) (hA:∀ p ∈ A,p.inB 1048576 = true) (hE:∀ p ∈ E,p.inB 1048576 = true):placeOk t q P A E = true:=by
 obtain ⟨hb,hf⟩:=rows_fit hq
 have b1:P.any ((rowsM q).ptB t) = false:=by
  rw [List.any_eq_false]
  intro p hp
  obtain ⟨_,_,_,e,_⟩:=point_some hf ht (hP p hp)
  simp [e]
 have b2:A.any (rowsM q).dirB = false:=by
  rw [List.any_eq_false]
  intro p hp
  simp [dir_some hf (hA p hp)]
 have b3:E.any (rowsM q).dirB = false:=by
  rw [List.any_eq_false]
  intro p hp
  simp [dir_some hf (hE p hp)]
 have n1:nearP (P.map ((rowsM q).ptV t)) = true:=by
  refine all_win (m:=8388608) (fun p hp=>?_) (Int.le_refl _) (by decide) (by decide)
  obtain ⟨x,hx,rfl⟩:=List.mem_map.1 hp
  obtain ⟨_,_,_,_,_,e⟩:=point_some hf ht (hP x hx)
  exact e
 unfold placeOk placeableP badP
 rw [all_win hP (by decide) (by decide) (by decide),all_win hA (by decide) (by decide) (by decide),all_win hE (by decide) (by decide) (by decide),hb,b1,b2,b3,n1,decide_eq_true h0]
 rfl
end
section
open Go.RowKit Fx
def sgn (b:Bool) (x:Int):Int:=cond b (-x) x
structure M9.Dg (m:M9) (b0 b1 b2:Bool):Prop where
 h0:m.a0 = sgn b0 4294967296
 h1:m.a1 = 0
 h2:m.a2 = 0
 h3:m.a3 = 0
 h4:m.a4 = sgn b1 4294967296
 h5:m.a5 = 0
 h6:m.a6 = 0
 h7:m.a7 = 0
 h8:m.a8 = sgn b2 4294967296
theorem short_g {p:Pt} (h0:p ≠ Pt.O) (h:p.short = p):p.g = 1/\p.inB 1048576 = true:=by
 refine ⟨?_,h ▸ short_in p⟩
 rw [<- h]
 unfold Pt.short
 split
 ·exact low_g (halveF_ne _ _ (low_ne h0))
 ·rename_i hb
  exfalso
  apply h0
  rw [<- h]
  unfold Pt.short
  rw [if_neg hb]
end
end Go.Proofs.YtlhhmiicpddjoaaGreat
