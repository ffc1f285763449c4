/- Package sweep: Cast. -/
import Derived.Test.YtohbjabihdgjhaaGreatSSNear0
import Derived.Test.YtohbjabihdgjhaaGreatSSNear9
set_option maxHeartbeats 16000000
set_option maxRecDepth 100000
set_option linter.unusedVariables false
namespace Go.Proofs.YtohbjabihdgjhaaGreat
section
open Go.RowKit Go.Shelf
def apV (x:Pt × Int):Value:=.agg #[.int .i64 x.1.x,.int .i64 x.1.y,.int .i64 x.1.z,.int .i64 x.2]
theorem apart_v (a b:Cr):apartV a b = apV (apP a b):=by
 unfold apartV apV apP
 split <;> rfl
theorem arr4k {cs:Array Value} (h:cs.size = 4):∃ a b c d,cs = #[a,b,c,d]:=by
 obtain ⟨l⟩:=cs
 match l,h with
 | [a,b,c,d],_=>exact ⟨a,b,c,d,rfl⟩
theorem own_unlike {w:World} {base n b:Nat} {t t2:TypeId} {v:Value} {xs:List Value} {sz:Nat} {cs:Array Value} {p:Nat × Nat} (h:w.ownsRow base t sz v n xs) (hb:w.heap[b]? = some (.cells cs t2 p)) (hne:t2 ≠ t):v.ownBlock ≠ some b:=fun e=>by
 rcases h.2 with ⟨rfl,_⟩ | ⟨g,cap,cur,rfl,_,hg,_⟩
 ·cases e
 ·have e2:g = b:=by simpa [Value.ownBlock] using e
  subst e2
  rw [hg] at hb
  simp only [Option.some.injEq,Obj.cells.injEq] at hb
  exact hne hb.2.1.symm
structure CS (w0 W:World) (ab wb bb rb xb:Nat) (la lw lb:List Value) (xx xy xz xg:Int):Prop where
 below:Below w0.heap.size w0 W
 ca:Cel W ab la
 cw:Cel W wb lw
 cb:Cel W bb lb
 cr:CelW W rb [.int .i64 0,.int .i64 0,.int .i64 0,.int .i64 0]
 cx:CelW W xb [.int .i64 xx,.int .i64 xy,.int .i64 xz,.int .i64 xg]
theorem CS.step {w0 A B:World} {ab wb bb rb xb:Nat} {la lw lb:List Value} {xx xy xz xg:Int} (h:CS w0 A ab wb bb rb xb la lw lb xx xy xz xg) (hb:Below A.heap.size A B):CS w0 B ab wb bb rb xb la lw lb xx xy xz xg:=
 ⟨b_step h.below hb,h.ca.step hb,h.cw.step hb,h.cb.step hb,h.cr.step hb,h.cx.step hb⟩
theorem CS.put {w0 A:World} {ab wb bb rb xb:Nat} {la lw lb:List Value} {xx xy xz xg:Int} (h:CS w0 A ab wb bb rb xb la lw lb xx xy xz xg) (hne:(ab ≠ xb/\wb ≠ xb/\bb ≠ xb/\rb ≠ xb)/\w0.heap.size <= xb) (yx yy yz yg:Int):CS w0 (set4 A xb (.int .i64 yx) (.int .i64 yy) (.int .i64 yz) (.int .i64 yg)) ab wb bb rb xb la lw lb yx yy yz yg:=by
 refine ⟨set4_below h.below hne.2 _ _ _ _,trail_cel h.ca hne.1.1 _ _ _ _,trail_cel h.cw hne.1.2.1 _ _ _ _,trail_cel h.cb hne.1.2.2.1 _ _ _ _,?_,?_⟩
 ·exact (((h.cr.other hne.1.2.2.2 _ _).other hne.1.2.2.2 _ _).other hne.1.2.2.2 _ _).other hne.1.2.2.2 _ _
 ·exact (((h.cx.set 0 (.int .i64 yx) (by simp)).set 1 (.int .i64 yy) (by simp)).set 2 (.int .i64 yz) (by simp)).set 3 (.int .i64 yg) (by simp)
theorem castF_step (a:Cr) (w:Pt) (b:Cr) {k:Nat} (h:k < 16) (x:Pt × Int):castF a w b (16 - k) k x = if (apP (trailC a w ((k:Int) + 1)) b).2 < 0 then (k,x) else castF a w b (16 - (k + 1)) (k + 1) (apP (trailC a w ((k:Int) + 1)) b):=by
 obtain ⟨n,hn⟩:∃ n,16 - k = n + 1:=⟨16 - k - 1,by omega⟩
 rw [hn,show 16 - (k + 1) = n by omega]
 rfl
theorem wcast_any (a:Cr) (wy:Pt) (b:Cr) (pv av ev qv bv fv:Value) (w0:World) (hp:Lies w0 pv a.P) (ha:Lies w0 av a.A) (he:Lies w0 ev a.E) (hq:Lies w0 qv b.P) (hb:Lies w0 bv b.A) (hf:Lies w0 fv b.E) :
  Calls Tryz.prog 8 #[coreA pv av ev a.r,wy.v,coreA qv bv fv b.r] w0 fun e W=>e = .returned (.tuple #[.int .i64 ((castR a wy b).1:Nat),apV (castR a wy b).2,.bool (castB a wy b)])/\Below w0.heap.size w0 W:=by
 have HGO:Hid _:=fun (w':World) (h:Below w0.heap.size w0 w')=>wgo_any a wy pv av ev w' (hp.below h) (ha.below h) (he.below h)
 have HMV:Hid _:=fun (hg:goB a wy = true) (w':World) (h:Below w0.heap.size w0 w')=>wmoved_any a.P wy pv w' (hp.below h) (fun p hp=>inB_mono ((go_parts hg).2.2.2.1 p hp) (by decide)) (inB_mono (go_parts hg).2.2.1 (by decide)) (by have:=(go_parts hg).2.1;omega)
 have HAL:Hid _:=fun (u:Value) (w':World) (hl:Lies w' u (a.P.map (·.mov wy)))=>wall_any (a.P.map (·.mov wy)) 16777216 u w' hl (by decide) (by decide)
 have HA0:Hid _:=fun (w':World) (h:Below w0.heap.size w0 w')=>napart_any a.P a.A a.E b.P b.A b.E a.r b.r _ _ _ _ _ _ w' (hp.below h) (ha.below h) (he.below h) (hq.below h) (hb.below h) (hf.below h)
 have HTR0:Hid _:=fun (k:Int) (w':World) (h:Below w0.heap.size w0 w')=>wtrail_any a wy k pv av ev w' (hp.below h) (ha.below h) (he.below h)
 have HAP0:Hid _:=fun (c:Cr) (vp va ve:Value) (w':World) (h:Below w0.heap.size w0 w') (l1:Lies w' vp c.P) (l2:Lies w' va c.A) (l3:Lies w' ve c.E)=>napart_any c.P c.A c.E b.P b.A b.E c.r b.r _ _ _ _ _ _ w' l1 l2 l3 (hq.below h) (hb.below h) (hf.below h)
 have HCB:Hid (castB a wy b = (goB a wy && (a.P.map (·.mov wy)).all (·.inB 16777216) && mayC b)):=rfl
 have HMC:Hid (goB a wy = true->mayC a = true):=fun h=>(go_parts h).1
 have HCR:Hid (castR a wy b = if castB a wy b then (if (apP a b).2 < 0 then (0,apP a b) else castF a wy b 16 0 (apP a b)) else (0,⟨0,0,0⟩,0)):=rfl
 have HST0:Hid _:=fun (k:Nat) (h:k < 16) (x:Pt × Int)=>castF_step a wy b h x
 obtain ⟨P,A,E,r⟩:=a
 obtain ⟨Q,B,Fl,s⟩:=b
 dsimp only at *
 rw [apart_v] at HA0
 obtain ⟨o1,c1,rfl,_⟩:=hp.form
 obtain ⟨o2,c2,rfl,_⟩:=ha.form
 obtain ⟨o3,c3,rfl,_⟩:=he.form
 obtain ⟨o4,c4,rfl,_⟩:=hq.form
 obtain ⟨o5,c5,rfl,_⟩:=hb.form
 obtain ⟨o6,c6,rfl,_⟩:=hf.form
 clear hp ha he hq hb hf
 obtain ⟨CR,hCR⟩:∃ x,castR ⟨P,A,E,r⟩ wy ⟨Q,B,Fl,s⟩ = x:=⟨_,rfl⟩
 rw [hCR] at HCR ⊢
 clear hCR
 obtain ⟨gb,hgb⟩:∃ x,goB ⟨P,A,E,r⟩ wy = x:=⟨_,rfl⟩
 rw [hgb] at HGO HMV HCB HMC
 obtain ⟨lb9,hlb⟩:∃ x,(P.map (·.mov wy)).all (·.inB 16777216) = x:=⟨_,rfl⟩
 rw [hlb] at HAL HCB
 obtain ⟨cbo,hcb⟩:∃ x,castB ⟨P,A,E,r⟩ wy ⟨Q,B,Fl,s⟩ = x:=⟨_,rfl⟩
 rw [hcb] at HCB HCR ⊢
 clear hgb hlb hcb
 obtain ⟨wx,wY,wz⟩:=wy
 unfold coreA Pt.v at *
 dsimp only at *
 obtain ⟨X0,hX0⟩:∃ V,V = (((w0.alloc (.cells #[.slice o1 P.length c1,.slice o2 A.length c2,.slice o3 E.length c3,.int .i64 r] 36)).alloc (.cells #[.int .i64 wx,.int .i64 wY,.int .i64 wz] 23)).alloc (.cells #[.slice o4 Q.length c4,.slice o5 B.length c5,.slice o6 Fl.length c6,.int .i64 s] 36)).alloc (.cells #[.int .i64 0,.int .i64 0,.int .i64 0,.int .i64 0] 41):=⟨_,rfl⟩
 obtain ⟨ab,hab⟩:∃ b,b = w0.heap.size:=⟨_,rfl⟩
 obtain ⟨wb,hwb⟩:∃ b,b = w0.heap.size + 1:=⟨_,rfl⟩
 obtain ⟨bb,hbb⟩:∃ b,b = w0.heap.size + 1 + 1:=⟨_,rfl⟩
 obtain ⟨rb,hrb⟩:∃ b,b = w0.heap.size + 1 + 1 + 1:=⟨_,rfl⟩
 have n2:=Cel.new (w0.alloc (.cells #[.slice o1 P.length c1,.slice o2 A.length c2,.slice o3 E.length c3,.int .i64 r] 36)) [.int .i64 wx,.int .i64 wY,.int .i64 wz] 23
 rw [World.size_alloc] at n2
 have n3:=Cel.new ((w0.alloc (.cells #[.slice o1 P.length c1,.slice o2 A.length c2,.slice o3 E.length c3,.int .i64 r] 36)).alloc (.cells #[.int .i64 wx,.int .i64 wY,.int .i64 wz] 23)) [.slice o4 Q.length c4,.slice o5 B.length c5,.slice o6 Fl.length c6,.int .i64 s] 36
 rw [World.size_alloc,World.size_alloc] at n3
 have n4:=CelW.new (((w0.alloc (.cells #[.slice o1 P.length c1,.slice o2 A.length c2,.slice o3 E.length c3,.int .i64 r] 36)).alloc (.cells #[.int .i64 wx,.int .i64 wY,.int .i64 wz] 23)).alloc (.cells #[.slice o4 Q.length c4,.slice o5 B.length c5,.slice o6 Fl.length c6,.int .i64 s] 36)) [.int .i64 0,.int .i64 0,.int .i64 0,.int .i64 0] 41
 rw [World.size_alloc,World.size_alloc,World.size_alloc] at n4
 have C1:Hid (Cel X0 ab [.slice o1 P.length c1,.slice o2 A.length c2,.slice o3 E.length c3,.int .i64 r]):=by show Cel _ _ _;rw [hX0,hab];exact (((Cel.new w0 [.slice o1 P.length c1,.slice o2 A.length c2,.slice o3 E.length c3,.int .i64 r] 36).step (n_after _ _)).step (n_after _ _)).step (n_after _ _)
 have C2:Hid (Cel X0 wb [.int .i64 wx,.int .i64 wY,.int .i64 wz]):=by show Cel _ _ _;rw [hX0,hwb];exact (n2.step (n_after _ _)).step (n_after _ _)
 have C3:Hid (Cel X0 bb [.slice o4 Q.length c4,.slice o5 B.length c5,.slice o6 Fl.length c6,.int .i64 s]):=by show Cel _ _ _;rw [hX0,hbb];exact n3.step (n_after _ _)
 have C4:Hid (CelW X0 rb [.int .i64 0,.int .i64 0,.int .i64 0,.int .i64 0]):=by show CelW _ _ _;rw [hX0,hrb];exact n4
 have HB:Hid (Below w0.heap.size w0 X0):=by show Below _ _ _;rw [hX0];exact b_step (b_step (b_step (n_after _ _) (n_after _ _)) (n_after _ _)) (n_after _ _)
 have HR0:Hid (w0.heap.size <= rb):=by show _ <= _;omega
 have HLT:Hid (ab < rb/\wb < rb/\bb < rb):=by show _/\_;omega
 clear n2 n3 n4
 go_enter Tryz.func8,Tryz.ntmps8
 go_upto_region 1 with fail
 rw [<- hX0,<- hrb,<- hbb,<- hwb,<- hab]
 clear hX0 hab hwb hbb hrb
 have x0:=C1.out 0 _ rfl
 have x1:=C1.out 1 _ rfl
 have x2:=C1.out 2 _ rfl
 have x3:=C1.out 3 _ rfl
 have y0:=C2.out 0 _ rfl
 have y1:=C2.out 1 _ rfl
 have y2:=C2.out 2 _ rfl
 go_wp2_with (fail)
 refine Calls.mono (HGO.out _ HB.out) ?_
 rintro e V1 ⟨rfl,hb⟩
 have C1:Hid (Cel _ _ _):=C1.out.step hb
 have C2:Hid (Cel _ _ _):=C2.out.step hb
 have C3:Hid (Cel _ _ _):=C3.out.step hb
 have C4:Hid (CelW _ _ _):=C4.out.step hb
 have HB:Hid _:=b_step HB.out hb
 clear hb x0 x1 x2 x3 y0 y1 y2 HGO
 cases gb with
 | false =>
  have e1:cbo = false:=by rw [HCB.out];rfl
  have e2:=HCR.out
  rw [e1,if_neg (by decide)] at e2
  subst e1
  subst e2
  obtain ⟨z0,zf0⟩:=C4.out 0 _ rfl
  obtain ⟨z1,zf1⟩:=C4.out 1 _ rfl
  obtain ⟨z2,zf2⟩:=C4.out 2 _ rfl
  obtain ⟨z3,zf3⟩:=C4.out 3 _ rfl
  have HB9:Hid _:=set4_below HB.out HR0.out (.int .i64 0) (.int .i64 0) (.int .i64 0) (.int .i64 0)
  unfold set4 at HB9
  clear HCB HMC HCR HST0 HMV HAL HA0 HTR0 HAP0 C1 C2 C3
  go_wp2_with (fail)
  exact bodyPost_ret (v:=.tuple #[.int .i64 0,.agg #[.int .i64 0,.int .i64 0,.int .i64 0,.int .i64 0],.bool false]) (by simp [results,Tryz.results8,go_sem,z0,z1,z2,z3]) rfl ⟨rfl,HB9.out⟩
 | true =>
  have x0:=C1.out 0 _ rfl
  have y0:=C2.out 0 _ rfl
  have y1:=C2.out 1 _ rfl
  have y2:=C2.out 2 _ rfl
  have HMV2:Hid _:=HMV.out rfl
  have hma:=HMC.out rfl
  clear HMV HMC
  go_wp2_with (fail)
  refine Calls.mono (HMV2.out _ HB.out) ?_
  rintro e V2 ⟨u,rfl,hrow⟩
  have hb:=hrow.below
  have HAL:Hid _:=HAL.out u V2 hrow.lies
  have C1:Hid (Cel _ _ _):=C1.out.step hb
  have C2:Hid (Cel _ _ _):=C2.out.step hb
  have C3:Hid (Cel _ _ _):=C3.out.step hb
  have C4:Hid (CelW _ _ _):=C4.out.step hb
  have HB:Hid _:=b_step HB.out hb
  clear hb x0 y0 y1 y2 HMV2 hrow
  go_wp2_with (fail)
  refine Calls.mono HAL.out ?_
  rintro e V3 ⟨rfl,hb⟩
  have C1:Hid (Cel _ _ _):=C1.out.step hb
  have C2:Hid (Cel _ _ _):=C2.out.step hb
  have C3:Hid (Cel _ _ _):=C3.out.step hb
  have C4:Hid (CelW _ _ _):=C4.out.step hb
  have HB:Hid _:=b_step HB.out hb
  clear hb HAL
  cases lb9 with
  | false =>
   have e1:cbo = false:=by rw [HCB.out];rfl
   have e2:=HCR.out
   rw [e1,if_neg (by decide)] at e2
   subst e1
   subst e2
   obtain ⟨z0,zf0⟩:=C4.out 0 _ rfl
   obtain ⟨z1,zf1⟩:=C4.out 1 _ rfl
   obtain ⟨z2,zf2⟩:=C4.out 2 _ rfl
   obtain ⟨z3,zf3⟩:=C4.out 3 _ rfl
   have HB9:Hid _:=set4_below HB.out HR0.out (.int .i64 0) (.int .i64 0) (.int .i64 0) (.int .i64 0)
   unfold set4 at HB9
   clear HCB HCR HST0 HA0 HTR0 HAP0 C1 C2 C3
   go_wp2_with (fail)
   exact bodyPost_ret (v:=.tuple #[.int .i64 0,.agg #[.int .i64 0,.int .i64 0,.int .i64 0,.int .i64 0],.bool false]) (by simp [results,Tryz.results8,go_sem,z0,z1,z2,z3]) rfl ⟨rfl,HB9.out⟩
  | true =>
   have x0:=C1.out 0 _ rfl
   have x1:=C1.out 1 _ rfl
   have x2:=C1.out 2 _ rfl
   have x3:=C1.out 3 _ rfl
   have y0:=C3.out 0 _ rfl
   have y1:=C3.out 1 _ rfl
   have y2:=C3.out 2 _ rfl
   have y3:=C3.out 3 _ rfl
   rw [hma] at HA0
   obtain ⟨mb,hmb⟩:∃ x,mayC ⟨Q,B,Fl,s⟩ = x:=⟨_,rfl⟩
   rw [hmb] at HA0 HCB
   have e1:mb = cbo:=by rw [HCB.out];cases mb <;> rfl
   subst e1
   have HZ:Hid (mb = false->apP ⟨P,A,E,r⟩ ⟨Q,B,Fl,s⟩ = (⟨0,0,0⟩,0)):=fun h=>by unfold apP;rw [hmb,h,Bool.and_false];rfl
   clear hma hmb HCB
   obtain ⟨⟨⟨xx,xy,xz⟩,xg⟩,hx⟩:∃ x,apP ⟨P,A,E,r⟩ ⟨Q,B,Fl,s⟩ = x:=⟨_,rfl⟩
   rw [hx] at HA0 HCR HZ
   clear hx
   unfold apV at HA0
   dsimp only at HA0
   go_wp2_with (fail)
   refine Calls.mono (HA0.out _ HB.out) ?_
   rintro e V4 ⟨rfl,hb⟩
   have C1:Hid (Cel _ _ _):=C1.out.step hb
   have C2:Hid (Cel _ _ _):=C2.out.step hb
   have C3:Hid (Cel _ _ _):=C3.out.step hb
   have C4:Hid (CelW _ _ _):=C4.out.step hb
   have HB:Hid _:=b_step HB.out hb
   clear hb x0 x1 x2 x3 y0 y1 y2 y3 HA0
   obtain ⟨X,hX⟩:∃ V,V = V4.alloc (.cells #[.int .i64 xx,.int .i64 xy,.int .i64 xz,.int .i64 xg] 41):=⟨_,rfl⟩
   obtain ⟨xb,hxb⟩:∃ b,b = V4.heap.size:=⟨_,rfl⟩
   have hbx:Below V4.heap.size V4 X:=by rw [hX];exact n_after _ _
   have HS:Hid (CS w0 X ab wb bb rb xb [.slice o1 P.length c1,.slice o2 A.length c2,.slice o3 E.length c3,.int .i64 r] [.int .i64 wx,.int .i64 wY,.int .i64 wz] [.slice o4 Q.length c4,.slice o5 B.length c5,.slice o6 Fl.length c6,.int .i64 s] xx xy xz xg):=⟨b_step HB.out hbx,C1.out.step hbx,C2.out.step hbx,C3.out.step hbx,C4.out.step hbx,by rw [hX,hxb];exact CelW.new _ [.int .i64 xx,.int .i64 xy,.int .i64 xz,.int .i64 xg] _⟩
   have hne:(ab ≠ xb/\wb ≠ xb/\bb ≠ xb/\rb ≠ xb)/\w0.heap.size <= xb:=by
    have h1:=C4.out.lt
    have h2:=HLT.out
    have h3:=HB.out.size
    omega
   go_upto_region 4 with fail
   rw [<- hX,<- hxb]
   clear hX hxb hbx C1 C2 C3 C4 HB HLT
   have u3:=(HS.out.cx 3 _ rfl).1
   cases mb with
   | false =>
    have e2:=HCR.out
    rw [if_neg (by decide)] at e2
    have e3:=HZ.out rfl
    simp only [Prod.mk.injEq,Pt.mk.injEq] at e3
    obtain ⟨⟨rfl,rfl,rfl⟩,rfl⟩:=e3
    subst e2
    clear HCR HZ HST0 HTR0 HAP0
    obtain ⟨z0,zf0⟩:=HS.out.cr 0 _ rfl
    obtain ⟨z1,zf1⟩:=HS.out.cr 1 _ rfl
    obtain ⟨z2,zf2⟩:=HS.out.cr 2 _ rfl
    obtain ⟨z3,zf3⟩:=HS.out.cr 3 _ rfl
    have v0:=(HS.out.cx 0 _ rfl).1
    have v1:=(HS.out.cx 1 _ rfl).1
    have v2:=(HS.out.cx 2 _ rfl).1
    have v3:=(HS.out.cx 3 _ rfl).1
    have HB9:Hid _:=set4_below HS.out.below HR0.out (.int .i64 0) (.int .i64 0) (.int .i64 0) (.int .i64 0)
    unfold set4 at HB9
    clear HS
    go_wp2_with (go_region)
    exact bodyPost_ret (v:=.tuple #[.int .i64 0,.agg #[.int .i64 0,.int .i64 0,.int .i64 0,.int .i64 0],.bool false]) (by simp [results,Tryz.results8,go_sem,z0,z1,z2,z3]) rfl ⟨rfl,HB9.out.drew⟩
   | true =>
    have HCR:Hid (CR = if xg < 0 then (0,⟨xx,xy,xz⟩,xg) else castF ⟨P,A,E,r⟩ ⟨wx,wY,wz⟩ ⟨Q,B,Fl,s⟩ 16 0 (⟨xx,xy,xz⟩,xg)):=by have h:=HCR.out;rw [if_pos rfl] at h;exact h
    clear HZ
    by_cases hneg:xg < 0
    ·have e2:=HCR.out
     rw [if_pos hneg] at e2
     subst e2
     clear HCR HST0 HTR0 HAP0
     obtain ⟨z0,zf0⟩:=HS.out.cr 0 _ rfl
     obtain ⟨z1,zf1⟩:=HS.out.cr 1 _ rfl
     obtain ⟨z2,zf2⟩:=HS.out.cr 2 _ rfl
     obtain ⟨z3,zf3⟩:=HS.out.cr 3 _ rfl
     have v0:=(HS.out.cx 0 _ rfl).1
     have v1:=(HS.out.cx 1 _ rfl).1
     have v2:=(HS.out.cx 2 _ rfl).1
     have v3:=(HS.out.cx 3 _ rfl).1
     have HB9:Hid _:=set4_below HS.out.below HR0.out (.int .i64 xx) (.int .i64 xy) (.int .i64 xz) (.int .i64 xg)
     unfold set4 at HB9
     clear HS
     go_wp2_with (go_region)
     exact bodyPost_ret (v:=.tuple #[.int .i64 0,.agg #[.int .i64 xx,.int .i64 xy,.int .i64 xz,.int .i64 xg],.bool true]) (by simp [results,Tryz.results8,go_sem,z0,z1,z2,z3]) rfl ⟨rfl,HB9.out.drew⟩
    ·have HE0:Hid (CR = castF ⟨P,A,E,r⟩ ⟨wx,wY,wz⟩ ⟨Q,B,Fl,s⟩ 16 0 (⟨xx,xy,xz⟩,xg)):=by have h:=HCR.out;rw [if_neg hneg] at h;exact h
     clear HCR
     go_wp2_with (fail)
     clear u3 hneg
     have HX0:Hid (Below w0.heap.size w0 X):=HS.out.below
     go_loopg [42] 16 (fun gm s42 wr=>∃ (k:Nat) (xx xy xz xg:Int),s42 = .int .i64 (k:Int)/\k <= 16/\Hid (gm = 16 - k)/\Hid (CS w0 wr ab wb bb rb xb [.slice o1 P.length c1,.slice o2 A.length c2,.slice o3 E.length c3,.int .i64 r] [.int .i64 wx,.int .i64 wY,.int .i64 wz] [.slice o4 Q.length c4,.slice o5 B.length c5,.slice o6 Fl.length c6,.int .i64 s] xx xy xz xg)/\Hid (CR = castF ⟨P,A,E,r⟩ ⟨wx,wY,wz⟩ ⟨Q,B,Fl,s⟩ (16 - k) k (⟨xx,xy,xz⟩,xg)))
     case atStart=>exact ⟨0,xx,xy,xz,xg,rfl,by omega,rfl,HS,HE0⟩
     case round =>
      clear HS HE0
      obtain ⟨k,xx,xy,xz,xg,rfl,hk,HG,HS,HE⟩:=hrel
      by_cases hit:k < 16
      ·have hit':(k:Int) < 16:=by omega
       have wk1:IntKind.i64.wrap ((k:Int) + 1) = (k:Int) + 1:=by rw [IntKind.wrap_i64];omega
       have HST:Hid _:=HST0.out k hit (⟨xx,xy,xz⟩,xg)
       have HTR1:Hid _:=HTR0.out ((k:Int) + 1)
       obtain ⟨TC,hTC⟩:∃ x,trailC ⟨P,A,E,r⟩ ⟨wx,wY,wz⟩ ((k:Int) + 1) = x:=⟨_,rfl⟩
       rw [hTC] at HST HTR1
       have HAP1:Hid _:=HAP0.out TC
       have hcv:apartV ⟨TC.P,TC.A,TC.E,TC.r⟩ ⟨Q,B,Fl,s⟩ = apV (apP TC ⟨Q,B,Fl,s⟩):=apart_v _ _
       rw [hcv] at HAP1
       obtain ⟨mb,hmb⟩:∃ x,(mayC ⟨TC.P,TC.A,TC.E,TC.r⟩ && mayC ⟨Q,B,Fl,s⟩) = x:=⟨_,rfl⟩
       rw [hmb] at HAP1
       obtain ⟨⟨⟨yx,yy,yz⟩,yg⟩,hy⟩:∃ x,apP TC ⟨Q,B,Fl,s⟩ = x:=⟨_,rfl⟩
       rw [hy] at HAP1 HST
       unfold apV at HAP1
       dsimp only at HAP1 HST
       clear hTC hcv hmb hy
       go_upto_region 9 with fail
       obtain ⟨X,hX⟩:∃ W,W = wr:=⟨_,rfl⟩
       rw [<- hX] at HS ⊢
       have HTR:Hid _:=fun (w':World) (h:Below X.heap.size X w')=>HTR1.out w' (b_step HS.out.below h)
       have HAP:Hid _:=fun (vp va ve:Value) (w':World) (h:Below X.heap.size X w')=>HAP1.out vp va ve w' (b_step HS.out.below h)
       clear HTR1 HAP1 hX
       refine RV.region_by2 (fun j v w=>match j with | 0=>v = .agg #[.slice o1 P.length c1,.slice o2 A.length c2,.slice o3 E.length c3,.int .i64 r] | 1=>v = .agg #[.int .i64 wx,.int .i64 wY,.int .i64 wz] | 2=>v = .int .i64 (k:Int) | 3=>v = .int .i64 ((k:Int) + 1) | 4=>(fun v w=>∃ vp va ve,v = .agg #[vp,va,ve,.int .i64 TC.r]/\w.ownsRow X.heap.size 23 3 vp TC.P.length (fl3 TC.P)/\w.ownsRow X.heap.size 23 3 va TC.A.length (fl3 TC.A)/\w.ownsRow X.heap.size 23 3 ve TC.E.length (fl3 TC.E)) v w | 5=>v = .agg #[.slice o4 Q.length c4,.slice o5 B.length c5,.slice o6 Fl.length c6,.int .i64 s] | 6=>v = .tuple #[.agg #[.int .i64 yx,.int .i64 yy,.int .i64 yz,.int .i64 yg],.bool mb] | 7=>v = .tuple #[.agg #[.int .i64 yx,.int .i64 yy,.int .i64 yz,.int .i64 yg],.bool mb] | 8=>v = .agg #[.int .i64 yx,.int .i64 yy,.int .i64 yz,.int .i64 yg] | 9=>v = .bool mb | 10=>True | 11=>True | 12=>v = .bool mb | _=>True) (fun γ L w=>Below X.heap.size X w/\RV.Pend X 41 10 11 #[.int .i64 yx,.int .i64 yy,.int .i64 yz,.int .i64 yg] γ L w) (by kernel_rfl) (by kernel_rfl) (by kernel_rfl) (by kernel_rfl) ?_ ?_ ?_
       ·exact ⟨(Below.refl _ X).drew,RV.Pend.start rfl⟩
       ·generalize hD:dstOf _ = D
        generalize hWA:waitsFor _ = WA
        generalize hZ:Act.mk _ _ = Z
        refine RV.AllDo.name ?_
        intro R hR
        have kn:RV.Kn R [.some (.agg #[.slice o1 P.length c1,.slice o2 A.length c2,.slice o3 E.length c3,.int .i64 r]),.some (.agg #[.int .i64 wx,.int .i64 wY,.int .i64 wz]),.some (.int .i64 (k:Int)),.some (.int .i64 ((k:Int) + 1)),none,.some (.agg #[.slice o4 Q.length c4,.slice o5 B.length c5,.slice o6 Fl.length c6,.int .i64 s]),.some (.tuple #[.agg #[.int .i64 yx,.int .i64 yy,.int .i64 yz,.int .i64 yg],.bool mb]),.some (.tuple #[.agg #[.int .i64 yx,.int .i64 yy,.int .i64 yz,.int .i64 yg],.bool mb]),.some (.agg #[.int .i64 yx,.int .i64 yy,.int .i64 yz,.int .i64 yg]),.some (.bool mb),none,none,.some (.bool mb)] 0:=by rw [hR];exact ⟨fun _ _=>Iff.rfl,fun _ _=>Iff.rfl,fun _ _=>Iff.rfl,fun _ _=>Iff.rfl,fun _ _=>Iff.rfl,fun _ _=>Iff.rfl,fun _ _=>Iff.rfl,fun _ _=>Iff.rfl,fun _ _=>Iff.rfl,fun _ _=>Iff.rfl,trivial⟩
        have T:=RV.kfacts [47,48,49,50,51,52,53,46,54,55,13,0,14] [(3,.pointer (some ⟨ab,0,none⟩)),(4,.pointer (some ⟨wb,0,none⟩)),(5,.pointer (some ⟨bb,0,none⟩)),(11,.int .i64 (k:Int))] hD hZ kn ⟨rfl,rfl,rfl,rfl,trivial⟩ (by kernel_rfl) (by kernel_rfl)
        simp only [RV.Outs,RV.Slots,Nat.reduceAdd] at T
        have r4:∀ v w,R 4 v w = ((fun v w=>∃ vp va ve,v = .agg #[vp,va,ve,.int .i64 TC.r]/\w.ownsRow X.heap.size 23 3 vp TC.P.length (fl3 TC.P)/\w.ownsRow X.heap.size 23 3 va TC.A.length (fl3 TC.A)/\w.ownsRow X.heap.size 23 3 ve TC.E.length (fl3 TC.E)) v w):=fun v w=>by rw [hR];rfl
        have r10:∀ v w,R 10 v w = (True):=fun v w=>by rw [hR];rfl
        have r11:∀ v w,R 11 v w = (True):=fun v w=>by rw [hR];rfl
        have K:∀ j v w w',Below w.heap.size w w'->R j v w->R j v w':=by
         intro j v w w' hb h
         rw [hR] at h ⊢
         match j with
         | 4=>obtain ⟨vp,va,ve,h1,h2,h3,h4⟩:=h;exact ⟨vp,va,ve,h1,own_below h2 hb,own_below h3 hb,own_below h4 hb⟩
         | 0=>exact h
         | 1=>exact h
         | 2=>exact h
         | 3=>exact h
         | 5=>exact h
         | 6=>exact h
         | 7=>exact h
         | 8=>exact h
         | 9=>exact h
         | 10=>exact h
         | 11=>exact h
         | 12=>exact h
         | (_ + 13)=>trivial
        have K4:∀ j v w b cs a1 a2 a3 a4,w.heap[b]? = some (.cells cs 41 (0,0))->R j v w->R j v (set4 w b a1 a2 a3 a4):=by
         intro j v w b cs a1 a2 a3 a4 hb h
         rw [hR] at h ⊢
         match j with
         | 4=>obtain ⟨vp,va,ve,h1,h2,h3,h4⟩:=h;exact ⟨vp,va,ve,h1,own_set4 h2 (own_unlike h2 hb (by decide)) _ _ _ _,own_set4 h3 (own_unlike h3 hb (by decide)) _ _ _ _,own_set4 h4 (own_unlike h4 hb (by decide)) _ _ _ _⟩
         | 0=>exact h
         | 1=>exact h
         | 2=>exact h
         | 3=>exact h
         | 5=>exact h
         | 6=>exact h
         | 7=>exact h
         | 8=>exact h
         | 9=>exact h
         | 10=>exact h
         | 11=>exact h
         | 12=>exact h
         | (_ + 13)=>trivial
        iterate 4 first
         | (refine RV.cc _ (RV.pk kn T (fun γ v L w hl h=>⟨h.1,h.2.other v (by decide) (by decide)⟩) (fun γ L a w hH hl h9 k9=>⟨_,?_,rfl⟩)) ?_;· simp [execOp,go_sem,h9])
         | (refine RV.cc _ (RV.pk kn T (fun γ v L w hl h=>⟨h.1,h.2.other v (by decide) (by decide)⟩) (fun γ L a w hH hl h9 k9=>⟨_,?_,rfl⟩)) ?_;· simp [Region.binds] at k9;simp [execOp,go_sem,h9,k9,wk1])
         | (refine RV.cc _ (RV.pk kn T (fun γ v L w hl h=>⟨h.1,h.2.other v (by decide) (by decide)⟩) (fun γ L a w hH hl h9 k9=>⟨_,?_,rfl⟩)) ?_;· have wz0:=Cel.step HS.out.cw hH.glob.1 0 _ rfl;have wz1:=Cel.step HS.out.cw hH.glob.1 1 _ rfl;have wz2:=Cel.step HS.out.cw hH.glob.1 2 _ rfl;simp [execOp,go_sem,h9,wz0,wz1,wz2])
         | (refine RV.cc _ (RV.pk kn T (fun γ v L w hl h=>⟨h.1,h.2.other v (by decide) (by decide)⟩) (fun γ L a w hH hl h9 k9=>⟨_,?_,rfl⟩)) ?_;· have wz0:=Cel.step HS.out.ca hH.glob.1 0 _ rfl;have wz1:=Cel.step HS.out.ca hH.glob.1 1 _ rfl;have wz2:=Cel.step HS.out.ca hH.glob.1 2 _ rfl;have wz3:=Cel.step HS.out.ca hH.glob.1 3 _ rfl;simp [execOp,go_sem,h9,wz0,wz1,wz2,wz3])
        refine RV.cc _ (RV.dc (fun γ L a w hH hl hA=>by have h9:=T _ _ γ L a w hH;have k9:=hA;simp [Region.binds] at k9;exact ⟨26,#[.agg #[.slice o1 P.length c1,.slice o2 A.length c2,.slice o3 E.length c3,.int .i64 r],.agg #[.int .i64 wx,.int .i64 wY,.int .i64 wz],.int .i64 ((k:Int) + 1)],by simp [go_sem,h9,k9],Calls.mono (HTR.out w hH.glob.1) (by rintro e w2 ⟨vp,va,ve,rfl,h3⟩;have hb9:=h3.below;exact ⟨_,rfl,(r4 _ _).mpr ⟨_,_,_,rfl,own_le h3.rp hH.glob.1.size,own_le h3.ra hH.glob.1.size,own_le h3.re hH.glob.1.size⟩,fun j v _ h=>K j v _ _ hb9 h,⟨b_step hH.glob.1 hb9,(hH.glob.2.below hb9).other _ (by decide) (by decide)⟩⟩)⟩)) ?_
        (refine RV.cc _ (RV.pk kn T (fun γ v L w hl h=>⟨h.1,h.2.other v (by decide) (by decide)⟩) (fun γ L a w hH hl h9 k9=>⟨_,?_,rfl⟩)) ?_;· have wz0:=Cel.step HS.out.cb hH.glob.1 0 _ rfl;have wz1:=Cel.step HS.out.cb hH.glob.1 1 _ rfl;have wz2:=Cel.step HS.out.cb hH.glob.1 2 _ rfl;have wz3:=Cel.step HS.out.cb hH.glob.1 3 _ rfl;simp [execOp,go_sem,h9,wz0,wz1,wz2,wz3])
        refine RV.cc _ (RV.dc (fun γ L a w hH hl hA=>by have h9:=T _ _ γ L a w hH;have k9:=hA;simp [Region.binds] at k9;have l0:L 4 = true:=hA ⟨4,.data⟩ (by simp) rfl;have e0:=hH.slot 4 50 (by rw [<- hD];rfl) l0;have g0:=hH.holds 4 l0;rw [r4] at g0;obtain ⟨vp,va,ve,hv,hp1,ha1,he1⟩:=g0;rw [hv] at e0;exact ⟨9,#[.agg #[vp,va,ve,.int .i64 TC.r],.agg #[.slice o4 Q.length c4,.slice o5 B.length c5,.slice o6 Fl.length c6,.int .i64 s]],by simp [go_sem,e0,h9,k9],Calls.mono (HAP.out vp va ve w hH.glob.1 (Lies.of_row hp1) (Lies.of_row ha1) (Lies.of_row he1)) (by rintro e w2 ⟨rfl,hb9⟩;exact ⟨_,rfl,((kn.at (k:=6) rfl _ _).2 rfl),fun j v _ h=>K j v _ _ hb9 h,⟨b_step hH.glob.1 hb9,(hH.glob.2.below hb9).other _ (by decide) (by decide)⟩⟩)⟩)) ?_
        iterate 3 (refine RV.cc _ (RV.pk kn T (fun γ v L w hl h=>⟨h.1,h.2.other v (by decide) (by decide)⟩) (fun γ L a w hH hl h9 k9=>⟨_,?_,rfl⟩)) ?_;· simp [Region.binds] at k9;simp [execOp,go_sem,h9,k9])
        refine RV.cc _ (RV.does_step (fun γ L a w hH hl hA=>by have h10:L 11 = false:=RV.ny hH (RV.wt (j:=11) (i:=10) hWA (by kernel_rfl)) hl;have hb9:=n_after w (.cells #[.int .i64 0,.int .i64 0,.int .i64 0,.int .i64 0] 41);exact ⟨.pointer (some ⟨w.heap.size,0,none⟩),w.alloc (.cells #[.int .i64 0,.int .i64 0,.int .i64 0,.int .i64 0] 41),by simp [execOp,go_sem],(r10 _ _).mpr trivial,fun j v _ h=>K j v _ _ hb9 h,b_step hH.glob.1 hb9,RV.Pend.made _ rfl hH.glob.1.size h10 (by decide)⟩)) ?_
        refine RV.cc _ (RV.does_store (fun γ L a w hH hl hA=>by have h9:=T _ _ γ L a w hH;have k9:=hA;simp [Region.binds] at k9;have l0:L 10 = true:=hA ⟨10,.data⟩ (by simp) rfl;have e0:=hH.slot 10 12 (by rw [<- hD];rfl) l0;obtain ⟨b,cs,hb1,hb2,hb3,hb4,_⟩:=hH.glob.2 l0;rw [hb1] at e0;obtain ⟨u0,u1,u2,u3,rfl⟩:=arr4k hb4;have z09:w.cell? ⟨b,0,none⟩ = some u0:=(by simp [World.cell?,hb3]);have z19:w.cell? ⟨b,1,none⟩ = some u1:=(by simp [World.cell?,hb3]);have z29:w.cell? ⟨b,2,none⟩ = some u2:=(by simp [World.cell?,hb3]);have z39:w.cell? ⟨b,3,none⟩ = some u3:=(by simp [World.cell?,hb3]);have zf:∀ o,w.frozen? ⟨b,o,none⟩ = false:=fun o=>(by simp [World.frozen?,hb3]);exact ⟨set4 w b (.int .i64 yx) (.int .i64 yy) (.int .i64 yz) (.int .i64 yg),by simp [set4,execOp,go_sem,e0,z09,z19,z29,z39,zf,h9,k9],(r11 _ _).mpr trivial,fun j v _ h=>K4 j v w b _ _ _ _ _ hb3 h,set4_below hH.glob.1 hb2 _ _ _ _,RV.Pend.filled hb1 hb2 (by have q0:=Go.heap_setCell_same w b 0 _ _ (.int .i64 yx) hb3;have q1:=Go.heap_setCell_same _ b 1 _ _ (.int .i64 yy) q0;have q2:=Go.heap_setCell_same _ b 2 _ _ (.int .i64 yz) q1;have q3:=Go.heap_setCell_same _ b 3 _ _ (.int .i64 yg) q2;simpa [set4] using q3) (by decide) _⟩)) ?_
        (refine RV.cc _ (RV.pk kn T (fun γ v L w hl h=>⟨h.1,h.2.other v (by decide) (by decide)⟩) (fun γ L a w hH hl h9 k9=>⟨_,?_,rfl⟩)) ?_;· simp [Region.binds] at k9;simp [execOp,go_sem,h9,k9])
        exact RV.AllDo.nil
       ·intro γ a5 w5 L9 hL hLo hH
        have ha:=RV.held_act hH hL (by kernel_rfl) (by kernel_rfl)
        obtain ⟨nb,cs,hb1,hb2,hb3,_,hb5⟩:=hH.glob.2 (hL 10 (by decide))
        rw [hb5 (hL 11 (by decide))] at hb3
        have hB5:=hH.glob.1
        have e12:γ 12 = .bool mb:=hH.holds 12 (hL 12 (by decide))
        rw [ha]
        clear ha hH hL hLo hb5
        simp only [RV.putAll,Act.put,List.setIfInBounds_toArray,List.set_cons_zero,List.set_cons_succ,Nat.zero_add,Nat.reduceAdd]
        rw [hb1,e12]
        obtain ⟨W5,hW5⟩:∃ X:World,X = w5:=⟨_,rfl⟩
        rw [<- hW5] at hB5 hb3 ⊢
        have CY:Hid (Cel W5 nb [.int .i64 yx,.int .i64 yy,.int .i64 yz,.int .i64 yg]):=fun k v e=>by match k,e with | 0,e=>cases e;simp [World.cell?,hb3] | 1,e=>cases e;simp [World.cell?,hb3] | 2,e=>cases e;simp [World.cell?,hb3] | 3,e=>cases e;simp [World.cell?,hb3]
        have HS:Hid _:=HS.out.step hB5
        clear hW5 hb1 hb3 hB5 hb2 e12
        have u3:=CY.out 3 _ rfl
        by_cases hneg:yg < 0
        ·have HE:Hid (CR = ((k:Nat),(⟨xx,xy,xz⟩,xg))):=by show _ = _;rw [HE.out,HST.out,if_pos hneg]
         obtain ⟨z0,zf0⟩:=HS.out.cr 0 _ rfl
         obtain ⟨z1,zf1⟩:=HS.out.cr 1 _ rfl
         obtain ⟨z2,zf2⟩:=HS.out.cr 2 _ rfl
         obtain ⟨z3,zf3⟩:=HS.out.cr 3 _ rfl
         have v0:=(HS.out.cx 0 _ rfl).1
         have v1:=(HS.out.cx 1 _ rfl).1
         have v2:=(HS.out.cx 2 _ rfl).1
         have v3:=(HS.out.cx 3 _ rfl).1
         have HB9:Hid _:=set4_below HS.out.below HR0.out (.int .i64 xx) (.int .i64 xy) (.int .i64 xz) (.int .i64 xg)
         unfold set4 at HB9
         go_upto_region 11 with fail
         clear CY HST HAP HTR u3
         go_region
         go_wp2
         exact bodyPost_ret (v:=.tuple #[.int .i64 (k:Int),.agg #[.int .i64 xx,.int .i64 xy,.int .i64 xz,.int .i64 xg],.bool true]) (by simp [results,Tryz.results8,go_sem,z0,z1,z2,z3]) rfl ⟨by rw [HE.out];rfl,HB9.out.drew⟩
        ·have HE:Hid (CR = castF ⟨P,A,E,r⟩ ⟨wx,wY,wz⟩ ⟨Q,B,Fl,s⟩ (16 - (k + 1)) (k + 1) (⟨yx,yy,yz⟩,yg)):=by show _ = _;rw [HE.out,HST.out,if_neg hneg]
         have HS2:Hid _:=HS.out.put hne yx yy yz yg
         have u0:=CY.out 0 _ rfl
         have u1:=CY.out 1 _ rfl
         have u2:=CY.out 2 _ rfl
         obtain ⟨v0,vf0⟩:=HS.out.cx 0 _ rfl
         obtain ⟨v1,vf1⟩:=HS.out.cx 1 _ rfl
         obtain ⟨v2,vf2⟩:=HS.out.cx 2 _ rfl
         obtain ⟨v3,vf3⟩:=HS.out.cx 3 _ rfl
         unfold set4 at HS2
         clear HS CY HST HAP HTR
         go_wp2_with (fail)
         go_roundg (16 - (k + 1))
         case measure=>have:=HG.out;omega
         case rel=>exact ⟨k + 1,yx,yy,yz,yg,by go_num,by omega,rfl,HS2,HE⟩
      ·obtain rfl:k = 16:=by omega
       have HE:Hid (CR = (16,(⟨xx,xy,xz⟩,xg))):=HE.out
       obtain ⟨z0,zf0⟩:=HS.out.cr 0 _ rfl
       obtain ⟨z1,zf1⟩:=HS.out.cr 1 _ rfl
       obtain ⟨z2,zf2⟩:=HS.out.cr 2 _ rfl
       obtain ⟨z3,zf3⟩:=HS.out.cr 3 _ rfl
       have v0:=(HS.out.cx 0 _ rfl).1
       have v1:=(HS.out.cx 1 _ rfl).1
       have v2:=(HS.out.cx 2 _ rfl).1
       have v3:=(HS.out.cx 3 _ rfl).1
       have HB9:Hid _:=set4_below HS.out.below HR0.out (.int .i64 xx) (.int .i64 xy) (.int .i64 xz) (.int .i64 xg)
       unfold set4 at HB9
       clear HS HST0 HTR0 HAP0
       go_wp2_with (go_region)
       exact bodyPost_ret (v:=.tuple #[.int .i64 16,.agg #[.int .i64 xx,.int .i64 xy,.int .i64 xz,.int .i64 xg],.bool true]) (by simp [results,Tryz.results8,go_sem,z0,z1,z2,z3]) rfl ⟨by rw [HE.out];rfl,HB9.out.drew⟩
end
section
open Go.RowKit Go.Shelf
theorem wnearer_any (xx xy xz xg yx yy yz yg:Int) (w:World) :
  Calls Tryz.prog 38 #[.agg #[.int .i64 xx,.int .i64 xy,.int .i64 xz,.int .i64 xg],.agg #[.int .i64 yx,.int .i64 yy,.int .i64 yz,.int .i64 yg]] w fun e W=>e = .returned (.bool (decide (xg < yg)))/\Below w.heap.size w W:=by
 go_enter Tryz.func38,Tryz.ntmps38
 go_wp2
 go_ret
 exact ⟨rfl,b_step (n_after _ _) (n_after _ _)⟩
theorem wnear1_any (a b:Cr) (ab:Nat) (pv av ev qv bv fv:Value) (w0:World) (hp:Lies w0 pv a.P) (ha:Lies w0 av a.A) (he:Lies w0 ev a.E) (hq:Lies w0 qv b.P) (hb:Lies w0 bv b.A) (hf:Lies w0 fv b.E) (hc:Cel w0 ab [pv,av,ev,.int .i64 a.r]) :
  Calls Tryz.prog 37 #[coreA qv bv fv b.r,.pointer (some ⟨ab,0,none⟩)] w0 fun e W=>e = .returned (.tuple #[apV (apP a b),.bool (mayC a && mayC b)])/\Below w0.heap.size w0 W:=by
 have HA0:Hid _:=fun (w':World) (h:Below w0.heap.size w0 w')=>napart_any a.P a.A a.E b.P b.A b.E a.r b.r _ _ _ _ _ _ w' (hp.below h) (ha.below h) (he.below h) (hq.below h) (hb.below h) (hf.below h)
 have hcv:apartV ⟨a.P,a.A,a.E,a.r⟩ ⟨b.P,b.A,b.E,b.r⟩ = apV (apP a b):=apart_v _ _
 rw [hcv] at HA0
 have HA0:Hid (∀ (w':World),Below w0.heap.size w0 w'->Calls Tryz.prog 9 #[coreA pv av ev a.r,coreA qv bv fv b.r] w' fun e W=>e = .returned (.tuple #[apV (apP a b),.bool (mayC a && mayC b)])/\Below w'.heap.size w' W):=HA0.out
 obtain ⟨o1,c1,rfl,_⟩:=hp.form
 obtain ⟨o2,c2,rfl,_⟩:=ha.form
 obtain ⟨o3,c3,rfl,_⟩:=he.form
 obtain ⟨o4,c4,rfl,_⟩:=hq.form
 obtain ⟨o5,c5,rfl,_⟩:=hb.form
 obtain ⟨o6,c6,rfl,_⟩:=hf.form
 have HC:Hid (Cel _ _ _):=hc
 clear hp ha he hq hb hf hc hcv
 generalize (mayC a && mayC b) = mb at *
 obtain ⟨⟨⟨xx,xy,xz⟩,xg⟩,hx⟩:∃ x,apP a b = x:=⟨_,rfl⟩
 rw [hx] at HA0 ⊢
 clear hx
 unfold coreA apV at *
 dsimp only at *
 obtain ⟨X,hX⟩:∃ V,V = (w0.alloc (.cells #[.slice o4 b.P.length c4,.slice o5 b.A.length c5,.slice o6 b.E.length c6,.int .i64 b.r] 36)).alloc (.cells #[.int .i64 0,.int .i64 0,.int .i64 0,.int .i64 0] 41):=⟨_,rfl⟩
 obtain ⟨bb,hbb⟩:∃ b,b = w0.heap.size:=⟨_,rfl⟩
 obtain ⟨rb,hrb⟩:∃ b,b = w0.heap.size + 1:=⟨_,rfl⟩
 have n2:=CelW.new (w0.alloc (.cells #[.slice o4 b.P.length c4,.slice o5 b.A.length c5,.slice o6 b.E.length c6,.int .i64 b.r] 36)) [.int .i64 0,.int .i64 0,.int .i64 0,.int .i64 0] 41
 rw [World.size_alloc] at n2
 have C3:Hid (Cel X bb [.slice o4 b.P.length c4,.slice o5 b.A.length c5,.slice o6 b.E.length c6,.int .i64 b.r]):=by show Cel _ _ _;rw [hX,hbb];exact (Cel.new w0 [.slice o4 b.P.length c4,.slice o5 b.A.length c5,.slice o6 b.E.length c6,.int .i64 b.r] 36).step (n_after _ _)
 have C4:Hid (CelW X rb [.int .i64 0,.int .i64 0,.int .i64 0,.int .i64 0]):=by show CelW _ _ _;rw [hX,hrb];exact n2
 have HB:Hid (Below w0.heap.size w0 X):=by show Below _ _ _;rw [hX];exact b_step (n_after _ _) (n_after _ _)
 have C1:Hid (Cel _ _ _):=HC.out.step HB.out
 have HR0:Hid (w0.heap.size <= rb):=by show _ <= _;omega
 clear n2 HC
 go_enter Tryz.func37,Tryz.ntmps37
 go_upto_region 1 with fail
 rw [<- hX,<- hrb,<- hbb]
 clear hX hbb hrb
 have x0:=C1.out 0 _ rfl
 have x1:=C1.out 1 _ rfl
 have x2:=C1.out 2 _ rfl
 have x3:=C1.out 3 _ rfl
 have y0:=C3.out 0 _ rfl
 have y1:=C3.out 1 _ rfl
 have y2:=C3.out 2 _ rfl
 have y3:=C3.out 3 _ rfl
 go_wp2_with (fail)
 refine Calls.mono (HA0.out _ HB.out) ?_
 rintro e V4 ⟨rfl,hb⟩
 have C4:Hid (CelW _ _ _):=C4.out.step hb
 have HB:Hid _:=b_step HB.out hb
 clear hb x0 x1 x2 x3 y0 y1 y2 y3 HA0 C1 C3
 obtain ⟨z0,zf0⟩:=C4.out 0 _ rfl
 obtain ⟨z1,zf1⟩:=C4.out 1 _ rfl
 obtain ⟨z2,zf2⟩:=C4.out 2 _ rfl
 obtain ⟨z3,zf3⟩:=C4.out 3 _ rfl
 have HB9:Hid _:=set4_below HB.out HR0.out (.int .i64 xx) (.int .i64 xy) (.int .i64 xz) (.int .i64 xg)
 unfold set4 at HB9
 go_wp2_with (fail)
 exact bodyPost_ret (v:=.tuple #[.agg #[.int .i64 xx,.int .i64 xy,.int .i64 xz,.int .i64 xg],.bool mb]) (by simp [results,Tryz.results37,go_sem,z0,z1,z2,z3]) rfl ⟨rfl,HB9.out⟩
def NR (st:Option (Nat × (Pt × Int))) (pl xx xy xz xg:Int):Prop:=match st with
 | none=>pl = -1/\xx = 0/\xy = 0/\xz = 0/\xg = 0
 | some (j,x)=>pl = (j:Int)/\x = (⟨xx,xy,xz⟩,xg)
def nearV:Option (Nat × (Pt × Int))->Value
 | none=>.tuple #[.int .i64 (-1),.agg #[.int .i64 0,.int .i64 0,.int .i64 0,.int .i64 0],.bool false]
 | some (j,x)=>.tuple #[.int .i64 (j:Int),apV x,.bool true]
theorem nearV_of {st:Option (Nat × (Pt × Int))} {pl xx xy xz xg:Int} (h:NR st pl xx xy xz xg):nearV st = .tuple #[.int .i64 pl,.agg #[.int .i64 xx,.int .i64 xy,.int .i64 xz,.int .i64 xg],.bool (!decide (pl = -1))]:=by
 unfold NR at h
 split at h
 ·obtain ⟨rfl,rfl,rfl,rfl,rfl⟩:=h
  rfl
 ·next j x =>
  obtain ⟨rfl,rfl⟩:=h
  unfold nearV apV
  have:¬ ((j:Int) = -1):=by omega
  simp [this]
theorem near_skip {a:Cr} {L:List Cr} {i:Nat} {pl xx xy xz xg:Int} (h:NR (bestK (nearT a) nearB L i) pl xx xy xz xg) (hm:(mayC a && mayC (cr L i)) = false):NR (bestK (nearT a) nearB L (i + 1)) pl xx xy xz xg:=by
 rw [bestK_no]
 ·exact h
 ·unfold nearT;rw [hm];rfl
theorem near_first {a:Cr} {L:List Cr} {i:Nat} {xx xy xz xg yx yy yz yg:Int} (h:NR (bestK (nearT a) nearB L i) (-1) xx xy xz xg) (hm:(mayC a && mayC (cr L i)) = true) (hy:apP a (cr L i) = (⟨yx,yy,yz⟩,yg)):NR (bestK (nearT a) nearB L (i + 1)) (i:Int) yx yy yz yg:=by
 have ht:nearT a (cr L i) = some (⟨yx,yy,yz⟩,yg):=by unfold nearT;unfold apP at hy;rw [if_pos hm] at hy ⊢;rw [hy]
 have hn:bestK (nearT a) nearB L i = none:=by
  unfold NR at h
  split at h
  ·next e=>exact e
  ·next j x e=>have:=h.1;omega
 rw [bestK_first _ _ _ ht hn]
 exact ⟨rfl,rfl⟩
theorem near_more {a:Cr} {L:List Cr} {i:Nat} {pl xx xy xz xg yx yy yz yg:Int} (h:NR (bestK (nearT a) nearB L i) pl xx xy xz xg) (hpl:pl ≠ -1) (hm:(mayC a && mayC (cr L i)) = true) (hy:apP a (cr L i) = (⟨yx,yy,yz⟩,yg)):(yg < xg->NR (bestK (nearT a) nearB L (i + 1)) (i:Int) yx yy yz yg)/\(xg <= yg->NR (bestK (nearT a) nearB L (i + 1)) pl xx xy xz xg):=by
 have ht:nearT a (cr L i) = some (⟨yx,yy,yz⟩,yg):=by unfold nearT;unfold apP at hy;rw [if_pos hm] at hy ⊢;rw [hy]
 unfold NR at h
 split at h
 ·exact absurd h.1 hpl
 ·next j x e =>
  obtain ⟨rfl,rfl⟩:=h
  rw [bestK_more _ _ _ ht e]
  refine ⟨fun hl=>?_,fun hl=>?_⟩
  ·rw [if_pos (by unfold nearB;exact decide_eq_true hl)]
   exact ⟨rfl,rfl⟩
  ·rw [if_neg (by unfold nearB;simp only [decide_eq_true_eq];omega)]
   exact ⟨rfl,rfl⟩
theorem wbestA_any (a:Cr) (L:List Cr) (ab:Nat) (lv pv av ev:Value) (w0:World) (hl:LiesC w0 lv L) (hp:Lies w0 pv a.P) (ha:Lies w0 av a.A) (he:Lies w0 ev a.E) (hc:Cel w0 ab [pv,av,ev,.int .i64 a.r]) :
  Calls Tryz.prog 36 #[lv,.func (.func 37) #[] #[.pointer (some ⟨ab,0,none⟩)],.func (.func 38) #[] #[]] w0 fun e W=>e = .returned (nearV (bestK (nearT a) nearB L L.length))/\Below w0.heap.size w0 W:=by
 have HN1:Hid _:=fun (b:Cr) (qv bv fv:Value) (w':World) (h:Below w0.heap.size w0 w') (hq:Lies w' qv b.P) (hb:Lies w' bv b.A) (hf:Lies w' fv b.E)=>wnear1_any a b ab pv av ev qv bv fv w' (hp.below h) (ha.below h) (he.below h) hq hb hf (hc.step h)
 have HL:Hid _:=hl
 have HC:Hid (Cel _ _ _):=hc
 obtain ⟨o1,c1,rfl,_⟩:=hp.form
 obtain ⟨o2,c2,rfl,_⟩:=ha.form
 obtain ⟨o3,c3,rfl,_⟩:=he.form
 obtain ⟨o,cap,rfl,hlc,hcm,_⟩:=hl.form
 clear hl hp ha he hc
 obtain ⟨X,hX⟩:∃ V,V = (w0.alloc (.cells #[.int .i64 0,.int .i64 0,.int .i64 0,.int .i64 0] 41)).alloc (.cells #[.int .i64 0,.int .i64 0,.int .i64 0,.int .i64 0] 41):=⟨_,rfl⟩
 obtain ⟨rb,hrb⟩:∃ b,b = w0.heap.size:=⟨_,rfl⟩
 obtain ⟨xb,hxb⟩:∃ b,b = w0.heap.size + 1:=⟨_,rfl⟩
 have n2:=CelW.new (w0.alloc (.cells #[.int .i64 0,.int .i64 0,.int .i64 0,.int .i64 0] 41)) [.int .i64 0,.int .i64 0,.int .i64 0,.int .i64 0] 41
 rw [World.size_alloc] at n2
 have hbx:Below w0.heap.size w0 X:=by rw [hX];exact b_step (n_after _ _) (n_after _ _)
 have HS:Hid (CS w0 X ab ab ab rb xb [.slice o1 a.P.length c1,.slice o2 a.A.length c2,.slice o3 a.E.length c3,.int .i64 a.r] [.slice o1 a.P.length c1,.slice o2 a.A.length c2,.slice o3 a.E.length c3,.int .i64 a.r] [.slice o1 a.P.length c1,.slice o2 a.A.length c2,.slice o3 a.E.length c3,.int .i64 a.r] 0 0 0 0):=⟨hbx,HC.out.step hbx,HC.out.step hbx,HC.out.step hbx,by rw [hX,hrb];exact (CelW.new w0 [.int .i64 0,.int .i64 0,.int .i64 0,.int .i64 0] 41).step (n_after _ _),by rw [hX,hxb];exact n2⟩
 have HR0:Hid (w0.heap.size <= rb):=by show _ <= _;omega
 have hne:(ab ≠ xb/\ab ≠ xb/\ab ≠ xb/\rb ≠ xb)/\w0.heap.size <= xb:=by
  have h1:=HC.out.lt
  omega
 clear n2 hbx HC
 go_enter Tryz.func36,Tryz.ntmps36
 go_upto_region 3 with fail
 rw [<- hX,<- hxb,<- hrb]
 clear hX hrb hxb
 go_wp2_with (fail)
 go_loopg [9,17] L.length (fun gm s9 s17 wr=>∃ (i:Nat) (pl xx xy xz xg:Int),s9 = .int .i64 pl/\s17 = .int .i64 (i:Int)/\i <= L.length/\Hid (gm = L.length - i)/\Hid (CS w0 wr ab ab ab rb xb [.slice o1 a.P.length c1,.slice o2 a.A.length c2,.slice o3 a.E.length c3,.int .i64 a.r] [.slice o1 a.P.length c1,.slice o2 a.A.length c2,.slice o3 a.E.length c3,.int .i64 a.r] [.slice o1 a.P.length c1,.slice o2 a.A.length c2,.slice o3 a.E.length c3,.int .i64 a.r] xx xy xz xg)/\Hid (NR (bestK (nearT a) nearB L i) pl xx xy xz xg))
 case atStart=>exact ⟨0,-1,0,0,0,0,rfl,rfl,Nat.zero_le _,rfl,HS,⟨rfl,rfl,rfl,rfl,rfl⟩⟩
 case round =>
  clear HS
  obtain ⟨i,pl,xx,xy,xz,xg,rfl,rfl,hi9,HG,HS,HE⟩:=hrel
  by_cases hit:i < L.length
  ·have hl1:(i:Int) < (L.length:Int):=by omega
   obtain ⟨o',cap',e',_,_,hcl⟩:=(HL.out.below HS.out.below).form
   cases e'
   obtain ⟨ge,fe,qv,bv,fv,rfl,x0,x1,x2,x3,l1,l2,l3⟩:=hcl i hit
   clear hcl
   have HY1:Hid _:=fun (w':World) (h:Below wr.heap.size wr w')=>HN1.out (cr L i) qv bv fv w' (b_step HS.out.below h) (l1.below h) (l2.below h) (l3.below h)
   have HSK:Hid _:=fun h=>near_skip (L:=L) (i:=i) HE.out h
   have HFI:Hid _:=fun (h:pl = -1) hm yx yy yz yg hy=>near_first (a:=a) (L:=L) (i:=i) (xx:=xx) (xy:=xy) (xz:=xz) (xg:=xg) (yx:=yx) (yy:=yy) (yz:=yz) (yg:=yg) (by rw [<- h];exact HE.out) hm hy
   have HMO:Hid _:=fun (h:pl ≠ -1) hm yx yy yz yg hy=>near_more (a:=a) (L:=L) (i:=i) (yx:=yx) (yy:=yy) (yz:=yz) (yg:=yg) HE.out h hm hy
   obtain ⟨b,hb⟩:∃ x,cr L i = x:=⟨_,rfl⟩
   rw [hb] at x3 l1 l2 l3 HY1 HSK HFI HMO
   obtain ⟨o4,c4,rfl,_⟩:=l1.form
   obtain ⟨o5,c5,rfl,_⟩:=l2.form
   obtain ⟨o6,c6,rfl,_⟩:=l3.form
   clear hb l1 l2 l3 HN1
   obtain ⟨mb,hmb⟩:∃ x,(mayC a && mayC b) = x:=⟨_,rfl⟩
   obtain ⟨⟨⟨yx,yy,yz⟩,yg⟩,hy⟩:∃ x,apP a b = x:=⟨_,rfl⟩
   have HFI:Hid _:=fun (h:pl = -1) (h2:mb = true)=>HFI.out h (hmb.trans h2) _ _ _ _ hy
   have HMO:Hid _:=fun (h:pl ≠ -1) (h2:mb = true)=>HMO.out h (hmb.trans h2) _ _ _ _ hy
   rw [hmb] at HY1 HSK
   rw [hy] at HY1
   clear hmb hy
   unfold coreA apV at HY1
   dsimp only at HY1
   obtain ⟨V1,hV1⟩:∃ V,V = wr.alloc (.cells #[.slice o4 b.P.length c4,.slice o5 b.A.length c5,.slice o6 b.E.length c6,.int .i64 b.r] 36):=⟨_,rfl⟩
   obtain ⟨nb,hnb⟩:∃ b,b = wr.heap.size:=⟨_,rfl⟩
   have hb1:Below wr.heap.size wr V1:=by rw [hV1];exact n_after _ _
   have CN:Hid (Cel V1 nb [.slice o4 b.P.length c4,.slice o5 b.A.length c5,.slice o6 b.E.length c6,.int .i64 b.r]):=by show Cel _ _ _;rw [hV1,hnb];exact Cel.new wr [.slice o4 b.P.length c4,.slice o5 b.A.length c5,.slice o6 b.E.length c6,.int .i64 b.r] 36
   have HY1:Hid _:=HY1.out V1 hb1
   have HS:Hid _:=HS.out.step hb1
   go_upto_region 6 with fail
   rw [<- hV1,<- hnb]
   clear hV1 hnb hb1 x0 x1 x2 x3
   have x0:=CN.out 0 _ rfl
   have x1:=CN.out 1 _ rfl
   have x2:=CN.out 2 _ rfl
   have x3:=CN.out 3 _ rfl
   go_wp2_with (fail)
   refine Calls.mono HY1.out ?_
   rintro e V2 ⟨rfl,hb⟩
   have HS:Hid _:=HS.out.step hb
   clear hb x0 x1 x2 x3 CN HY1
   obtain ⟨V3,hV3⟩:∃ V,V = V2.alloc (.cells #[.int .i64 yx,.int .i64 yy,.int .i64 yz,.int .i64 yg] 41):=⟨_,rfl⟩
   obtain ⟨yb,hyb⟩:∃ b,b = V2.heap.size:=⟨_,rfl⟩
   have hb3:Below V2.heap.size V2 V3:=by rw [hV3];exact n_after _ _
   have CY:Hid (Cel V3 yb [.int .i64 yx,.int .i64 yy,.int .i64 yz,.int .i64 yg]):=by show Cel _ _ _;rw [hV3,hyb];exact Cel.new V2 [.int .i64 yx,.int .i64 yy,.int .i64 yz,.int .i64 yg] 41
   have HS:Hid _:=HS.out.step hb3
   go_upto_region 7 with fail
   rw [<- hV3,<- hyb]
   clear hV3 hyb hb3
   have u0:=CY.out 0 _ rfl
   have u1:=CY.out 1 _ rfl
   have u2:=CY.out 2 _ rfl
   have u3:=CY.out 3 _ rfl
   cases mb with
   | false =>
    have HE9:Hid _:=HSK.out rfl
    clear HSK HFI HMO CY HE
    go_wp2_with (fail)
    clear u0 u1 u2 u3
    go_roundg (L.length - (i + 1))
    case measure=>have:=HG.out;omega
    case rel=>exact ⟨i + 1,pl,xx,xy,xz,xg,rfl,by go_num,by omega,rfl,HS,HE9⟩
   | true =>
    by_cases hpl:pl = -1
    ·have HE9:Hid _:=HFI.out hpl rfl
     clear HSK HFI HMO CY HE
     subst hpl
     go_upto_region 8 with fail
     obtain ⟨v0,vf0⟩:=HS.out.cx 0 _ rfl
     obtain ⟨v1,vf1⟩:=HS.out.cx 1 _ rfl
     obtain ⟨v2,vf2⟩:=HS.out.cx 2 _ rfl
     obtain ⟨v3,vf3⟩:=HS.out.cx 3 _ rfl
     have HS2:Hid _:=HS.out.put hne yx yy yz yg
     unfold set4 at HS2
     clear HS
     go_region
     go_wp2
     clear u0 u1 u2 u3 v0 v1 v2 v3 vf0 vf1 vf2 vf3
     go_roundg (L.length - (i + 1))
     case measure=>have:=HG.out;omega
     case rel=>exact ⟨i + 1,(i:Int),yx,yy,yz,yg,rfl,by go_num,by omega,rfl,HS2.out.step (Below.refl _ _).drew,HE9⟩
    ·have HE2:Hid _:=HMO.out hpl rfl
     have HNW:Hid _:=fun w'=>wnearer_any yx yy yz yg xx xy xz xg w'
     clear HSK HFI HMO CY
     have v0:=(HS.out.cx 0 _ rfl).1
     have v1:=(HS.out.cx 1 _ rfl).1
     have v2:=(HS.out.cx 2 _ rfl).1
     have v3:=(HS.out.cx 3 _ rfl).1
     go_wp2_with (fail)
     refine Calls.mono (HNW.out _) ?_
     rintro e V4 ⟨rfl,hb⟩
     have HS:Hid _:=HS.out.step hb
     have u0:=c_after hb u0
     have u1:=c_after hb u1
     have u2:=c_after hb u2
     have u3:=c_after hb u3
     clear hb HNW v0 v1 v2 v3
     by_cases hlt:yg < xg
     ·have HE9:Hid _:=HE2.out.1 hlt
      rw [decide_eq_true hlt]
      clear HE2 hlt HE
      go_upto_region 8 with fail
      obtain ⟨v0,vf0⟩:=HS.out.cx 0 _ rfl
      obtain ⟨v1,vf1⟩:=HS.out.cx 1 _ rfl
      obtain ⟨v2,vf2⟩:=HS.out.cx 2 _ rfl
      obtain ⟨v3,vf3⟩:=HS.out.cx 3 _ rfl
      have HS2:Hid _:=HS.out.put hne yx yy yz yg
      unfold set4 at HS2
      clear HS
      go_region
      go_wp2
      clear u0 u1 u2 u3 v0 v1 v2 v3 vf0 vf1 vf2 vf3
      go_roundg (L.length - (i + 1))
      case measure=>have:=HG.out;omega
      case rel=>exact ⟨i + 1,(i:Int),yx,yy,yz,yg,rfl,by go_num,by omega,rfl,HS2.out.step (Below.refl _ _).drew,HE9⟩
     ·have HE9:Hid _:=HE2.out.2 (Int.not_lt.1 hlt)
      rw [decide_eq_false hlt]
      clear HE2 hlt HE
      go_wp2_with (fail)
      clear u0 u1 u2 u3
      go_roundg (L.length - (i + 1))
      case measure=>have:=HG.out;omega
      case rel=>exact ⟨i + 1,pl,xx,xy,xz,xg,rfl,by go_num,by omega,rfl,HS,HE9⟩
  ·obtain rfl:i = L.length:=by omega
   have HV:Hid _:=nearV_of HE.out
   obtain ⟨z0,zf0⟩:=HS.out.cr 0 _ rfl
   obtain ⟨z1,zf1⟩:=HS.out.cr 1 _ rfl
   obtain ⟨z2,zf2⟩:=HS.out.cr 2 _ rfl
   obtain ⟨z3,zf3⟩:=HS.out.cr 3 _ rfl
   have v0:=(HS.out.cx 0 _ rfl).1
   have v1:=(HS.out.cx 1 _ rfl).1
   have v2:=(HS.out.cx 2 _ rfl).1
   have v3:=(HS.out.cx 3 _ rfl).1
   have HB9:Hid _:=set4_below HS.out.below HR0.out (.int .i64 xx) (.int .i64 xy) (.int .i64 xz) (.int .i64 xg)
   unfold set4 at HB9
   clear HS HE HN1 HL
   by_cases hpl:pl = -1
   ·have HV2:Hid (nearV (bestK (nearT a) nearB L L.length) = .tuple #[.int .i64 (-1),.agg #[.int .i64 xx,.int .i64 xy,.int .i64 xz,.int .i64 xg],.bool false]):=by show _ = _;rw [HV.out];simp [hpl]
    subst hpl
    clear HV
    go_upto_region 10 with fail
    go_region
    go_wp2
    exact bodyPost_ret (v:=.tuple #[.int .i64 (-1),.agg #[.int .i64 xx,.int .i64 xy,.int .i64 xz,.int .i64 xg],.bool false]) (by simp [results,Tryz.results36,go_sem,z0,z1,z2,z3]) rfl ⟨by rw [HV2.out],HB9.out.drew⟩
   ·have HV2:Hid (nearV (bestK (nearT a) nearB L L.length) = .tuple #[.int .i64 pl,.agg #[.int .i64 xx,.int .i64 xy,.int .i64 xz,.int .i64 xg],.bool true]):=by show _ = _;rw [HV.out];simp [hpl]
    clear HV
    go_upto_region 10 with fail
    go_region
    go_wp2
    exact bodyPost_ret (v:=.tuple #[.int .i64 pl,.agg #[.int .i64 xx,.int .i64 xy,.int .i64 xz,.int .i64 xg],.bool true]) (by simp [results,Tryz.results36,go_sem,z0,z1,z2,z3,hpl]) rfl ⟨by rw [HV2.out],HB9.out.drew⟩
theorem wnear_any (a:Cr) (L:List Cr) (lv pv av ev:Value) (w0:World) (hl:LiesC w0 lv L) (hp:Lies w0 pv a.P) (ha:Lies w0 av a.A) (he:Lies w0 ev a.E) :
  Calls Tryz.prog 14 #[coreA pv av ev a.r,lv] w0 fun e W=>e = .returned (nearV (bestK (nearT a) nearB L L.length))/\Below w0.heap.size w0 W:=by
 have HBE:Hid _:=fun (ab:Nat) (w':World) (h:Below w0.heap.size w0 w') (hc:Cel w' ab [pv,av,ev,.int .i64 a.r])=>wbestA_any a L ab lv pv av ev w' (hl.below h) (hp.below h) (ha.below h) (he.below h) hc
 obtain ⟨o1,c1,rfl,_⟩:=hp.form
 obtain ⟨o2,c2,rfl,_⟩:=ha.form
 obtain ⟨o3,c3,rfl,_⟩:=he.form
 obtain ⟨o,cap,rfl,_⟩:=hl.form
 clear hl hp ha he
 obtain ⟨pl,xx,xy,xz,xg,hnv⟩:∃ pl xx xy xz xg,nearV (bestK (nearT a) nearB L L.length) = .tuple #[.int .i64 pl,.agg #[.int .i64 xx,.int .i64 xy,.int .i64 xz,.int .i64 xg],.bool (!decide (pl = -1))]:=by
  cases h:bestK (nearT a) nearB L L.length with
  | none=>exact ⟨-1,0,0,0,0,rfl⟩
  | some x=>obtain ⟨j,⟨x1,x2,x3⟩,x4⟩:=x;exact ⟨j,x1,x2,x3,x4,nearV_of ⟨rfl,rfl⟩⟩
 rw [hnv] at HBE ⊢
 clear hnv
 unfold coreA
 obtain ⟨X,hX⟩:∃ V,V = (w0.alloc (.cells #[.slice o1 a.P.length c1,.slice o2 a.A.length c2,.slice o3 a.E.length c3,.int .i64 a.r] 36)).alloc (.cells #[.int .i64 0,.int .i64 0,.int .i64 0,.int .i64 0] 41):=⟨_,rfl⟩
 obtain ⟨ab,hab⟩:∃ b,b = w0.heap.size:=⟨_,rfl⟩
 obtain ⟨rb,hrb⟩:∃ b,b = w0.heap.size + 1:=⟨_,rfl⟩
 have n2:=CelW.new (w0.alloc (.cells #[.slice o1 a.P.length c1,.slice o2 a.A.length c2,.slice o3 a.E.length c3,.int .i64 a.r] 36)) [.int .i64 0,.int .i64 0,.int .i64 0,.int .i64 0] 41
 rw [World.size_alloc] at n2
 have C1:Hid (Cel X ab [.slice o1 a.P.length c1,.slice o2 a.A.length c2,.slice o3 a.E.length c3,.int .i64 a.r]):=by show Cel _ _ _;rw [hX,hab];exact (Cel.new w0 [.slice o1 a.P.length c1,.slice o2 a.A.length c2,.slice o3 a.E.length c3,.int .i64 a.r] 36).step (n_after _ _)
 have C4:Hid (CelW X rb [.int .i64 0,.int .i64 0,.int .i64 0,.int .i64 0]):=by show CelW _ _ _;rw [hX,hrb];exact n2
 have HB:Hid (Below w0.heap.size w0 X):=by show Below _ _ _;rw [hX];exact b_step (n_after _ _) (n_after _ _)
 have HR0:Hid (w0.heap.size <= rb):=by show _ <= _;omega
 clear n2
 go_enter Tryz.func14,Tryz.ntmps14
 go_upto_region 1 with fail
 rw [<- hX,<- hrb,<- hab]
 clear hX hab hrb
 go_wp2_with (fail)
 refine Calls.mono (HBE.out _ _ HB.out C1.out) ?_
 rintro e V4 ⟨rfl,hb⟩
 have C4:Hid (CelW _ _ _):=C4.out.step hb
 have HB:Hid _:=b_step HB.out hb
 clear hb HBE C1
 obtain ⟨z0,zf0⟩:=C4.out 0 _ rfl
 obtain ⟨z1,zf1⟩:=C4.out 1 _ rfl
 obtain ⟨z2,zf2⟩:=C4.out 2 _ rfl
 obtain ⟨z3,zf3⟩:=C4.out 3 _ rfl
 have HB9:Hid _:=set4_below HB.out HR0.out (.int .i64 xx) (.int .i64 xy) (.int .i64 xz) (.int .i64 xg)
 unfold set4 at HB9
 go_wp2_with (fail)
 exact bodyPost_ret (v:=.tuple #[.int .i64 pl,.agg #[.int .i64 xx,.int .i64 xy,.int .i64 xz,.int .i64 xg],.bool (!decide (pl = -1))]) (by simp [results,Tryz.results14,go_sem,z0,z1,z2,z3]) rfl ⟨rfl,HB9.out⟩
end
end Go.Proofs.YtohbjabihdgjhaaGreat
