/- How far below nought a gap can be; a core that is moved by a part of its way. -/
import Derived.Test.YtohbjabihdgjhaaGreatSSFree9
import Derived.Test.YtohbjabihdgjhaaGreatSSFree0
set_option maxHeartbeats 16000000
set_option maxRecDepth 100000
set_option linter.unusedVariables false
namespace Go.Proofs.YtohbjabihdgjhaaGreat
section
theorem room_in {n:Pt} {P Q:List Pt} (h0:0 < P.length) (h1:0 < Q.length) (hn:n.inB 1048576 = true) (hP:∀ p ∈ P,p.inB 16777216 = true) (hQ:∀ p ∈ Q,p.inB 16777216 = true):-105553116266496 <= room n P Q/\room n P Q <= 105553116266496:=by
 have k1:=loK_in (C:=52776558133248) hn hQ (by decide) (Q.length - 1) (by omega)
 have k2:=hiK_in (C:=52776558133248) hn hP (by decide) (P.length - 1) (by omega)
 unfold room loP hiP
 omega
theorem told_low {a b:Cr} (ha:mayC a = true) (hb:mayC b = true):-1099511627776 <= (told a b).2:=by
 obtain ⟨f1,f2,f3,f4⟩:=may_facts ha
 obtain ⟨g1,g2,g3,g4⟩:=may_facts hb
 rcases best_mem (gapZ a.P b.P a.r b.r) (both (candL a b)) none [] (Or.inl rfl) with h | ⟨n,hn,h⟩
 ·have e:told a b = (⟨0,0,1048576⟩,-a.r - b.r):=by unfold told;rw [h]
  rw [e]
  dsimp only
  omega
 ·have e:told a b = (n,gapZ a.P b.P a.r b.r n):=told_of h
  have hn:n ∈ both (candL a b):=by rcases hn with hn | hn;cases hn;exact hn
  obtain ⟨hi,hl⟩:=both_long _ n hn
  have hR:=room_in f1 g1 hi f2 g2
  rw [e]
  dsimp only
  unfold gapZ gap0
  by_cases hp0:0 <= room n a.P b.P
  ·rw [if_pos hp0,Int.tdiv_eq_ediv_of_nonneg hp0]
   have hu:=up_dn n
   have:=Int.ediv_nonneg hp0 (show 0 <= up n by omega)
   omega
  ·rw [if_neg hp0]
   have:(dn n - 1 - room n a.P b.P).tdiv (dn n) <= 1 + 105553116266496:=by
    rw [Int.tdiv_eq_ediv_of_nonneg (by omega)]
    have h1:(dn n - 1 - room n a.P b.P) / dn n < 268435456:=by
     refine Int.ediv_lt_of_lt_mul (by omega) ?_
     have:=Int.mul_le_mul_of_nonneg_left (c:=268435456) hl (by decide)
     have h2:=Int.mul_le_mul_of_nonneg_left (c:=268435455) hl (by decide)
     omega
    omega
   have h2:(dn n - 1 - room n a.P b.P).tdiv (dn n) < 268435456:=by
    rw [Int.tdiv_eq_ediv_of_nonneg (by omega)]
    refine Int.ediv_lt_of_lt_mul (by omega) ?_
    have h3:=Int.mul_le_mul_of_nonneg_left (c:=268435455) hl (by decide)
    omega
   omega
end
section
open Go.RowKit Go.Shelf
def apV (x:Pt × Int):Value:=.agg #[.int .i64 x.1.x,.int .i64 x.1.y,.int .i64 x.1.z,.int .i64 x.2]
theorem apart_v (a b:Cr):apartV a b = apV (apP a b):=by
 unfold apartV apV apP
 split <;> rfl
theorem arr4k {cs:Array Value} (h:cs.size = 4):∃ a b c d,cs = #[a,b,c,d]:=by
 obtain ⟨l⟩:=cs
 match l,h with
 | [a,b,c,d],_=>exact ⟨a,b,c,d,rfl⟩
theorem own_unlike {w:World} {base n b:Nat} {t t2:TypeId} {v:Value} {xs:List Value} {sz:Nat} {cs:Array Value} {p:Nat × Nat} (h:w.ownsRow base t sz v n xs) (hb:w.heap[b]? = some (.cells cs t2 p)) (hne:t2 ≠ t):v.ownBlock ≠ some b:=fun e=>by
 rcases h.2 with ⟨rfl,_⟩ | ⟨g,cap,cur,rfl,_,hg,_⟩
 ·cases e
 ·have e2:g = b:=by simpa [Value.ownBlock] using e
  subst e2
  rw [hg] at hb
  simp only [Option.some.injEq,Obj.cells.injEq] at hb
  exact hne hb.2.1.symm
structure CS (w0 W:World) (ab wb bb rb xb:Nat) (la lw lb:List Value) (xx xy xz xg:Int):Prop where
 below:Below w0.heap.size w0 W
 ca:Cel W ab la
 cw:Cel W wb lw
 cb:Cel W bb lb
 cr:CelW W rb [.int .i64 0,.int .i64 0,.int .i64 0,.int .i64 0]
 cx:CelW W xb [.int .i64 xx,.int .i64 xy,.int .i64 xz,.int .i64 xg]
theorem CS.step {w0 A B:World} {ab wb bb rb xb:Nat} {la lw lb:List Value} {xx xy xz xg:Int} (h:CS w0 A ab wb bb rb xb la lw lb xx xy xz xg) (hb:Below A.heap.size A B):CS w0 B ab wb bb rb xb la lw lb xx xy xz xg:=
 ⟨b_step h.below hb,h.ca.step hb,h.cw.step hb,h.cb.step hb,h.cr.step hb,h.cx.step hb⟩
theorem CS.put {w0 A:World} {ab wb bb rb xb:Nat} {la lw lb:List Value} {xx xy xz xg:Int} (h:CS w0 A ab wb bb rb xb la lw lb xx xy xz xg) (hne:(ab ≠ xb/\wb ≠ xb/\bb ≠ xb/\rb ≠ xb)/\w0.heap.size <= xb) (yx yy yz yg:Int):CS w0 (set4 A xb (.int .i64 yx) (.int .i64 yy) (.int .i64 yz) (.int .i64 yg)) ab wb bb rb xb la lw lb yx yy yz yg:=by
 refine ⟨set4_below h.below hne.2 _ _ _ _,trail_cel h.ca hne.1.1 _ _ _ _,trail_cel h.cw hne.1.2.1 _ _ _ _,trail_cel h.cb hne.1.2.2.1 _ _ _ _,?_,?_⟩
 ·exact (((h.cr.other hne.1.2.2.2 _ _).other hne.1.2.2.2 _ _).other hne.1.2.2.2 _ _).other hne.1.2.2.2 _ _
 ·exact (((h.cx.set 0 (.int .i64 yx) (by simp)).set 1 (.int .i64 yy) (by simp)).set 2 (.int .i64 yz) (by simp)).set 3 (.int .i64 yg) (by simp)
theorem castF_step (a:Cr) (w:Pt) (b:Cr) {k:Nat} (h:k < 16) (x:Pt × Int):castF a w b (16 - k) k x = if (apP (trailC a w ((k:Int) + 1)) b).2 < 0 then (k,x) else castF a w b (16 - (k + 1)) (k + 1) (apP (trailC a w ((k:Int) + 1)) b):=by
 obtain ⟨n,hn⟩:∃ n,16 - k = n + 1:=⟨16 - k - 1,by omega⟩
 rw [hn,show 16 - (k + 1) = n by omega]
 rfl
theorem wcast_any (a:Cr) (wy:Pt) (b:Cr) (pv av ev qv bv fv:Value) (w0:World) (hp:Lies w0 pv a.P) (ha:Lies w0 av a.A) (he:Lies w0 ev a.E) (hq:Lies w0 qv b.P) (hb:Lies w0 bv b.A) (hf:Lies w0 fv b.E) :
  Calls Tryz.prog 8 #[coreA pv av ev a.r,wy.v,coreA qv bv fv b.r] w0 fun e W=>e = .returned (.tuple #[.int .i64 ((castR a wy b).1:Nat),apV (castR a wy b).2,.bool (castB a wy b)])/\Below w0.heap.size w0 W:=by
 have HGO:Hid _:=fun (w':World) (h:Below w0.heap.size w0 w')=>wgo_any a wy pv av ev w' (hp.below h) (ha.below h) (he.below h)
 have HMV:Hid _:=fun (hg:goB a wy = true) (w':World) (h:Below w0.heap.size w0 w')=>wmoved_any a.P wy pv w' (hp.below h) (fun p hp=>inB_mono ((go_parts hg).2.2.2.1 p hp) (by decide)) (inB_mono (go_parts hg).2.2.1 (by decide)) (by have:=(go_parts hg).2.1;omega)
 have HAL:Hid _:=fun (u:Value) (w':World) (hl:Lies w' u (a.P.map (·.mov wy)))=>wall_any (a.P.map (·.mov wy)) 16777216 u w' hl (by decide) (by decide)
 have HA0:Hid _:=fun (w':World) (h:Below w0.heap.size w0 w')=>napart_any a.P a.A a.E b.P b.A b.E a.r b.r _ _ _ _ _ _ w' (hp.below h) (ha.below h) (he.below h) (hq.below h) (hb.below h) (hf.below h)
 have HTR0:Hid _:=fun (k:Int) (w':World) (h:Below w0.heap.size w0 w')=>wtrail_any a wy k pv av ev w' (hp.below h) (ha.below h) (he.below h)
 have HAP0:Hid _:=fun (c:Cr) (vp va ve:Value) (w':World) (h:Below w0.heap.size w0 w') (l1:Lies w' vp c.P) (l2:Lies w' va c.A) (l3:Lies w' ve c.E)=>napart_any c.P c.A c.E b.P b.A b.E c.r b.r _ _ _ _ _ _ w' l1 l2 l3 (hq.below h) (hb.below h) (hf.below h)
 have HCB:Hid (castB a wy b = (goB a wy && (a.P.map (·.mov wy)).all (·.inB 16777216) && mayC b)):=rfl
 have HMC:Hid (goB a wy = true->mayC a = true):=fun h=>(go_parts h).1
 have HCR:Hid (castR a wy b = if castB a wy b then (if (apP a b).2 < 0 then (0,apP a b) else castF a wy b 16 0 (apP a b)) else (0,⟨0,0,0⟩,0)):=rfl
 have HST0:Hid _:=fun (k:Nat) (h:k < 16) (x:Pt × Int)=>castF_step a wy b h x
 obtain ⟨P,A,E,r⟩:=a
 obtain ⟨Q,B,Fl,s⟩:=b
 dsimp only at *
 rw [apart_v] at HA0
 obtain ⟨o1,c1,rfl,_⟩:=hp.form
 obtain ⟨o2,c2,rfl,_⟩:=ha.form
 obtain ⟨o3,c3,rfl,_⟩:=he.form
 obtain ⟨o4,c4,rfl,_⟩:=hq.form
 obtain ⟨o5,c5,rfl,_⟩:=hb.form
 obtain ⟨o6,c6,rfl,_⟩:=hf.form
 clear hp ha he hq hb hf
 obtain ⟨CR,hCR⟩:∃ x,castR ⟨P,A,E,r⟩ wy ⟨Q,B,Fl,s⟩ = x:=⟨_,rfl⟩
 rw [hCR] at HCR ⊢
 clear hCR
 obtain ⟨gb,hgb⟩:∃ x,goB ⟨P,A,E,r⟩ wy = x:=⟨_,rfl⟩
 rw [hgb] at HGO HMV HCB HMC
 obtain ⟨lb9,hlb⟩:∃ x,(P.map (·.mov wy)).all (·.inB 16777216) = x:=⟨_,rfl⟩
 rw [hlb] at HAL HCB
 obtain ⟨cbo,hcb⟩:∃ x,castB ⟨P,A,E,r⟩ wy ⟨Q,B,Fl,s⟩ = x:=⟨_,rfl⟩
 rw [hcb] at HCB HCR ⊢
 clear hgb hlb hcb
 obtain ⟨wx,wY,wz⟩:=wy
 unfold coreA Pt.v at *
 dsimp only at *
 obtain ⟨X0,hX0⟩:∃ V,V = (((w0.alloc (.cells #[.slice o1 P.length c1,.slice o2 A.length c2,.slice o3 E.length c3,.int .i64 r] 36)).alloc (.cells #[.int .i64 wx,.int .i64 wY,.int .i64 wz] 23)).alloc (.cells #[.slice o4 Q.length c4,.slice o5 B.length c5,.slice o6 Fl.length c6,.int .i64 s] 36)).alloc (.cells #[.int .i64 0,.int .i64 0,.int .i64 0,.int .i64 0] 41):=⟨_,rfl⟩
 obtain ⟨ab,hab⟩:∃ b,b = w0.heap.size:=⟨_,rfl⟩
 obtain ⟨wb,hwb⟩:∃ b,b = w0.heap.size + 1:=⟨_,rfl⟩
 obtain ⟨bb,hbb⟩:∃ b,b = w0.heap.size + 1 + 1:=⟨_,rfl⟩
 obtain ⟨rb,hrb⟩:∃ b,b = w0.heap.size + 1 + 1 + 1:=⟨_,rfl⟩
 have n2:=Cel.new (w0.alloc (.cells #[.slice o1 P.length c1,.slice o2 A.length c2,.slice o3 E.length c3,.int .i64 r] 36)) [.int .i64 wx,.int .i64 wY,.int .i64 wz] 23
 rw [World.size_alloc] at n2
 have n3:=Cel.new ((w0.alloc (.cells #[.slice o1 P.length c1,.slice o2 A.length c2,.slice o3 E.length c3,.int .i64 r] 36)).alloc (.cells #[.int .i64 wx,.int .i64 wY,.int .i64 wz] 23)) [.slice o4 Q.length c4,.slice o5 B.length c5,.slice o6 Fl.length c6,.int .i64 s] 36
 rw [World.size_alloc,World.size_alloc] at n3
 have n4:=CelW.new (((w0.alloc (.cells #[.slice o1 P.length c1,.slice o2 A.length c2,.slice o3 E.length c3,.int .i64 r] 36)).alloc (.cells #[.int .i64 wx,.int .i64 wY,.int .i64 wz] 23)).alloc (.cells #[.slice o4 Q.length c4,.slice o5 B.length c5,.slice o6 Fl.length c6,.int .i64 s] 36)) [.int .i64 0,.int .i64 0,.int .i64 0,.int .i64 0] 41
 rw [World.size_alloc,World.size_alloc,World.size_alloc] at n4
 have C1:Hid (Cel X0 ab [.slice o1 P.length c1,.slice o2 A.length c2,.slice o3 E.length c3,.int .i64 r]):=by show Cel _ _ _;rw [hX0,hab];exact (((Cel.new w0 [.slice o1 P.length c1,.slice o2 A.length c2,.slice o3 E.length c3,.int .i64 r] 36).step (n_after _ _)).step (n_after _ _)).step (n_after _ _)
 have C2:Hid (Cel X0 wb [.int .i64 wx,.int .i64 wY,.int .i64 wz]):=by show Cel _ _ _;rw [hX0,hwb];exact (n2.step (n_after _ _)).step (n_after _ _)
 have C3:Hid (Cel X0 bb [.slice o4 Q.length c4,.slice o5 B.length c5,.slice o6 Fl.length c6,.int .i64 s]):=by show Cel _ _ _;rw [hX0,hbb];exact n3.step (n_after _ _)
 have C4:Hid (CelW X0 rb [.int .i64 0,.int .i64 0,.int .i64 0,.int .i64 0]):=by show CelW _ _ _;rw [hX0,hrb];exact n4
 have HB:Hid (Below w0.heap.size w0 X0):=by show Below _ _ _;rw [hX0];exact b_step (b_step (b_step (n_after _ _) (n_after _ _)) (n_after _ _)) (n_after _ _)
 have HR0:Hid (w0.heap.size <= rb):=by show _ <= _;omega
 have HLT:Hid (ab < rb/\wb < rb/\bb < rb):=by show _/\_;omega
 clear n2 n3 n4
 go_enter Tryz.func8,Tryz.ntmps8
 go_upto_region 1 with fail
 rw [<- hX0,<- hrb,<- hbb,<- hwb,<- hab]
 clear hX0 hab hwb hbb hrb
 have x0:=C1.out 0 _ rfl
 have x1:=C1.out 1 _ rfl
 have x2:=C1.out 2 _ rfl
 have x3:=C1.out 3 _ rfl
 have y0:=C2.out 0 _ rfl
 have y1:=C2.out 1 _ rfl
 have y2:=C2.out 2 _ rfl
 go_wp2_with (fail)
 refine Calls.mono (HGO.out _ HB.out) ?_
 rintro e V1 ⟨rfl,hb⟩
 have C1:Hid (Cel _ _ _):=C1.out.step hb
 have C2:Hid (Cel _ _ _):=C2.out.step hb
 have C3:Hid (Cel _ _ _):=C3.out.step hb
 have C4:Hid (CelW _ _ _):=C4.out.step hb
 have HB:Hid _:=b_step HB.out hb
 clear hb x0 x1 x2 x3 y0 y1 y2 HGO
 cases gb with
 | false =>
  have e1:cbo = false:=by rw [HCB.out];rfl
  have e2:=HCR.out
  rw [e1,if_neg (by decide)] at e2
  subst e1
  subst e2
  obtain ⟨z0,zf0⟩:=C4.out 0 _ rfl
  obtain ⟨z1,zf1⟩:=C4.out 1 _ rfl
  obtain ⟨z2,zf2⟩:=C4.out 2 _ rfl
  obtain ⟨z3,zf3⟩:=C4.out 3 _ rfl
  have HB9:Hid _:=set4_below HB.out HR0.out (.int .i64 0) (.int .i64 0) (.int .i64 0) (.int .i64 0)
  unfold set4 at HB9
  clear HCB HMC HCR HST0 HMV HAL HA0 HTR0 HAP0 C1 C2 C3
  go_wp2_with (fail)
  exact bodyPost_ret (v:=.tuple #[.int .i64 0,.agg #[.int .i64 0,.int .i64 0,.int .i64 0,.int .i64 0],.bool false]) (by simp [results,Tryz.results8,go_sem,z0,z1,z2,z3]) rfl ⟨rfl,HB9.out⟩
 | true =>
  have x0:=C1.out 0 _ rfl
  have y0:=C2.out 0 _ rfl
  have y1:=C2.out 1 _ rfl
  have y2:=C2.out 2 _ rfl
  have HMV2:Hid _:=HMV.out rfl
  have hma:=HMC.out rfl
  clear HMV HMC
  go_wp2_with (fail)
  refine Calls.mono (HMV2.out _ HB.out) ?_
  rintro e V2 ⟨u,rfl,hrow⟩
  have hb:=hrow.below
  have HAL:Hid _:=HAL.out u V2 hrow.lies
  have C1:Hid (Cel _ _ _):=C1.out.step hb
  have C2:Hid (Cel _ _ _):=C2.out.step hb
  have C3:Hid (Cel _ _ _):=C3.out.step hb
  have C4:Hid (CelW _ _ _):=C4.out.step hb
  have HB:Hid _:=b_step HB.out hb
  clear hb x0 y0 y1 y2 HMV2 hrow
  go_wp2_with (fail)
  refine Calls.mono HAL.out ?_
  rintro e V3 ⟨rfl,hb⟩
  have C1:Hid (Cel _ _ _):=C1.out.step hb
  have C2:Hid (Cel _ _ _):=C2.out.step hb
  have C3:Hid (Cel _ _ _):=C3.out.step hb
  have C4:Hid (CelW _ _ _):=C4.out.step hb
  have HB:Hid _:=b_step HB.out hb
  clear hb HAL
  cases lb9 with
  | false =>
   have e1:cbo = false:=by rw [HCB.out];rfl
   have e2:=HCR.out
   rw [e1,if_neg (by decide)] at e2
   subst e1
   subst e2
   obtain ⟨z0,zf0⟩:=C4.out 0 _ rfl
   obtain ⟨z1,zf1⟩:=C4.out 1 _ rfl
   obtain ⟨z2,zf2⟩:=C4.out 2 _ rfl
   obtain ⟨z3,zf3⟩:=C4.out 3 _ rfl
   have HB9:Hid _:=set4_below HB.out HR0.out (.int .i64 0) (.int .i64 0) (.int .i64 0) (.int .i64 0)
   unfold set4 at HB9
   clear HCB HCR HST0 HA0 HTR0 HAP0 C1 C2 C3
   go_wp2_with (fail)
   exact bodyPost_ret (v:=.tuple #[.int .i64 0,.agg #[.int .i64 0,.int .i64 0,.int .i64 0,.int .i64 0],.bool false]) (by simp [results,Tryz.results8,go_sem,z0,z1,z2,z3]) rfl ⟨rfl,HB9.out⟩
  | true =>
   have x0:=C1.out 0 _ rfl
   have x1:=C1.out 1 _ rfl
   have x2:=C1.out 2 _ rfl
   have x3:=C1.out 3 _ rfl
   have y0:=C3.out 0 _ rfl
   have y1:=C3.out 1 _ rfl
   have y2:=C3.out 2 _ rfl
   have y3:=C3.out 3 _ rfl
   rw [hma] at HA0
   obtain ⟨mb,hmb⟩:∃ x,mayC ⟨Q,B,Fl,s⟩ = x:=⟨_,rfl⟩
   rw [hmb] at HA0 HCB
   have e1:mb = cbo:=by rw [HCB.out];cases mb <;> rfl
   subst e1
   have HZ:Hid (mb = false->apP ⟨P,A,E,r⟩ ⟨Q,B,Fl,s⟩ = (⟨0,0,0⟩,0)):=fun h=>by unfold apP;rw [hmb,h,Bool.and_false];rfl
   clear hma hmb HCB
   obtain ⟨⟨⟨xx,xy,xz⟩,xg⟩,hx⟩:∃ x,apP ⟨P,A,E,r⟩ ⟨Q,B,Fl,s⟩ = x:=⟨_,rfl⟩
   rw [hx] at HA0 HCR HZ
   clear hx
   unfold apV at HA0
   dsimp only at HA0
   go_wp2_with (fail)
   refine Calls.mono (HA0.out _ HB.out) ?_
   rintro e V4 ⟨rfl,hb⟩
   have C1:Hid (Cel _ _ _):=C1.out.step hb
   have C2:Hid (Cel _ _ _):=C2.out.step hb
   have C3:Hid (Cel _ _ _):=C3.out.step hb
   have C4:Hid (CelW _ _ _):=C4.out.step hb
   have HB:Hid _:=b_step HB.out hb
   clear hb x0 x1 x2 x3 y0 y1 y2 y3 HA0
   obtain ⟨X,hX⟩:∃ V,V = V4.alloc (.cells #[.int .i64 xx,.int .i64 xy,.int .i64 xz,.int .i64 xg] 41):=⟨_,rfl⟩
   obtain ⟨xb,hxb⟩:∃ b,b = V4.heap.size:=⟨_,rfl⟩
   have hbx:Below V4.heap.size V4 X:=by rw [hX];exact n_after _ _
   have HS:Hid (CS w0 X ab wb bb rb xb [.slice o1 P.length c1,.slice o2 A.length c2,.slice o3 E.length c3,.int .i64 r] [.int .i64 wx,.int .i64 wY,.int .i64 wz] [.slice o4 Q.length c4,.slice o5 B.length c5,.slice o6 Fl.length c6,.int .i64 s] xx xy xz xg):=⟨b_step HB.out hbx,C1.out.step hbx,C2.out.step hbx,C3.out.step hbx,C4.out.step hbx,by rw [hX,hxb];exact CelW.new _ [.int .i64 xx,.int .i64 xy,.int .i64 xz,.int .i64 xg] _⟩
   have hne:(ab ≠ xb/\wb ≠ xb/\bb ≠ xb/\rb ≠ xb)/\w0.heap.size <= xb:=by
    have h1:=C4.out.lt
    have h2:=HLT.out
    have h3:=HB.out.size
    omega
   go_upto_region 4 with fail
   rw [<- hX,<- hxb]
   clear hX hxb hbx C1 C2 C3 C4 HB HLT
   have u3:=(HS.out.cx 3 _ rfl).1
   cases mb with
   | false =>
    have e2:=HCR.out
    rw [if_neg (by decide)] at e2
    have e3:=HZ.out rfl
    simp only [Prod.mk.injEq,Pt.mk.injEq] at e3
    obtain ⟨⟨rfl,rfl,rfl⟩,rfl⟩:=e3
    subst e2
    clear HCR HZ HST0 HTR0 HAP0
    obtain ⟨z0,zf0⟩:=HS.out.cr 0 _ rfl
    obtain ⟨z1,zf1⟩:=HS.out.cr 1 _ rfl
    obtain ⟨z2,zf2⟩:=HS.out.cr 2 _ rfl
    obtain ⟨z3,zf3⟩:=HS.out.cr 3 _ rfl
    have v0:=(HS.out.cx 0 _ rfl).1
    have v1:=(HS.out.cx 1 _ rfl).1
    have v2:=(HS.out.cx 2 _ rfl).1
    have v3:=(HS.out.cx 3 _ rfl).1
    have HB9:Hid _:=set4_below HS.out.below HR0.out (.int .i64 0) (.int .i64 0) (.int .i64 0) (.int .i64 0)
    unfold set4 at HB9
    clear HS
    go_wp2_with (go_region)
    exact bodyPost_ret (v:=.tuple #[.int .i64 0,.agg #[.int .i64 0,.int .i64 0,.int .i64 0,.int .i64 0],.bool false]) (by simp [results,Tryz.results8,go_sem,z0,z1,z2,z3]) rfl ⟨rfl,HB9.out.drew⟩
   | true =>
    have HCR:Hid (CR = if xg < 0 then (0,⟨xx,xy,xz⟩,xg) else castF ⟨P,A,E,r⟩ ⟨wx,wY,wz⟩ ⟨Q,B,Fl,s⟩ 16 0 (⟨xx,xy,xz⟩,xg)):=by have h:=HCR.out;rw [if_pos rfl] at h;exact h
    clear HZ
    by_cases hneg:xg < 0
    ·have e2:=HCR.out
     rw [if_pos hneg] at e2
     subst e2
     clear HCR HST0 HTR0 HAP0
     obtain ⟨z0,zf0⟩:=HS.out.cr 0 _ rfl
     obtain ⟨z1,zf1⟩:=HS.out.cr 1 _ rfl
     obtain ⟨z2,zf2⟩:=HS.out.cr 2 _ rfl
     obtain ⟨z3,zf3⟩:=HS.out.cr 3 _ rfl
     have v0:=(HS.out.cx 0 _ rfl).1
     have v1:=(HS.out.cx 1 _ rfl).1
     have v2:=(HS.out.cx 2 _ rfl).1
     have v3:=(HS.out.cx 3 _ rfl).1
     have HB9:Hid _:=set4_below HS.out.below HR0.out (.int .i64 xx) (.int .i64 xy) (.int .i64 xz) (.int .i64 xg)
     unfold set4 at HB9
     clear HS
     go_wp2_with (go_region)
     exact bodyPost_ret (v:=.tuple #[.int .i64 0,.agg #[.int .i64 xx,.int .i64 xy,.int .i64 xz,.int .i64 xg],.bool true]) (by simp [results,Tryz.results8,go_sem,z0,z1,z2,z3]) rfl ⟨rfl,HB9.out.drew⟩
    ·have HE0:Hid (CR = castF ⟨P,A,E,r⟩ ⟨wx,wY,wz⟩ ⟨Q,B,Fl,s⟩ 16 0 (⟨xx,xy,xz⟩,xg)):=by have h:=HCR.out;rw [if_neg hneg] at h;exact h
     clear HCR
     go_wp2_with (fail)
     clear u3 hneg
     have HX0:Hid (Below w0.heap.size w0 X):=HS.out.below
     go_loopg [42] 16 (fun gm s42 wr=>∃ (k:Nat) (xx xy xz xg:Int),s42 = .int .i64 (k:Int)/\k <= 16/\Hid (gm = 16 - k)/\Hid (CS w0 wr ab wb bb rb xb [.slice o1 P.length c1,.slice o2 A.length c2,.slice o3 E.length c3,.int .i64 r] [.int .i64 wx,.int .i64 wY,.int .i64 wz] [.slice o4 Q.length c4,.slice o5 B.length c5,.slice o6 Fl.length c6,.int .i64 s] xx xy xz xg)/\Hid (CR = castF ⟨P,A,E,r⟩ ⟨wx,wY,wz⟩ ⟨Q,B,Fl,s⟩ (16 - k) k (⟨xx,xy,xz⟩,xg)))
     case atStart=>exact ⟨0,xx,xy,xz,xg,rfl,by omega,rfl,HS,HE0⟩
     case round =>
      clear HS HE0
      obtain ⟨k,xx,xy,xz,xg,rfl,hk,HG,HS,HE⟩:=hrel
      by_cases hit:k < 16
      ·have hit':(k:Int) < 16:=by omega
       have wk1:IntKind.i64.wrap ((k:Int) + 1) = (k:Int) + 1:=by rw [IntKind.wrap_i64];omega
       have HST:Hid _:=HST0.out k hit (⟨xx,xy,xz⟩,xg)
       have HTR1:Hid _:=HTR0.out ((k:Int) + 1)
       obtain ⟨TC,hTC⟩:∃ x,trailC ⟨P,A,E,r⟩ ⟨wx,wY,wz⟩ ((k:Int) + 1) = x:=⟨_,rfl⟩
       rw [hTC] at HST HTR1
       have HAP1:Hid _:=HAP0.out TC
       have hcv:apartV ⟨TC.P,TC.A,TC.E,TC.r⟩ ⟨Q,B,Fl,s⟩ = apV (apP TC ⟨Q,B,Fl,s⟩):=apart_v _ _
       rw [hcv] at HAP1
       obtain ⟨mb,hmb⟩:∃ x,(mayC ⟨TC.P,TC.A,TC.E,TC.r⟩ && mayC ⟨Q,B,Fl,s⟩) = x:=⟨_,rfl⟩
       rw [hmb] at HAP1
       obtain ⟨⟨⟨yx,yy,yz⟩,yg⟩,hy⟩:∃ x,apP TC ⟨Q,B,Fl,s⟩ = x:=⟨_,rfl⟩
       rw [hy] at HAP1 HST
       unfold apV at HAP1
       dsimp only at HAP1 HST
       clear hTC hcv hmb hy
       go_upto_region 9 with fail
       obtain ⟨X,hX⟩:∃ W,W = wr:=⟨_,rfl⟩
       rw [<- hX] at HS ⊢
       have HTR:Hid _:=fun (w':World) (h:Below X.heap.size X w')=>HTR1.out w' (b_step HS.out.below h)
       have HAP:Hid _:=fun (vp va ve:Value) (w':World) (h:Below X.heap.size X w')=>HAP1.out vp va ve w' (b_step HS.out.below h)
       clear HTR1 HAP1 hX
       refine RV.region_by2 (fun j v w=>match j with | 0=>v = .agg #[.slice o1 P.length c1,.slice o2 A.length c2,.slice o3 E.length c3,.int .i64 r] | 1=>v = .agg #[.int .i64 wx,.int .i64 wY,.int .i64 wz] | 2=>v = .int .i64 (k:Int) | 3=>v = .int .i64 ((k:Int) + 1) | 4=>(fun v w=>∃ vp va ve,v = .agg #[vp,va,ve,.int .i64 TC.r]/\w.ownsRow X.heap.size 23 3 vp TC.P.length (fl3 TC.P)/\w.ownsRow X.heap.size 23 3 va TC.A.length (fl3 TC.A)/\w.ownsRow X.heap.size 23 3 ve TC.E.length (fl3 TC.E)) v w | 5=>v = .agg #[.slice o4 Q.length c4,.slice o5 B.length c5,.slice o6 Fl.length c6,.int .i64 s] | 6=>v = .tuple #[.agg #[.int .i64 yx,.int .i64 yy,.int .i64 yz,.int .i64 yg],.bool mb] | 7=>v = .tuple #[.agg #[.int .i64 yx,.int .i64 yy,.int .i64 yz,.int .i64 yg],.bool mb] | 8=>v = .agg #[.int .i64 yx,.int .i64 yy,.int .i64 yz,.int .i64 yg] | 9=>v = .bool mb | 10=>True | 11=>True | 12=>v = .bool mb | _=>True) (fun γ L w=>Below X.heap.size X w/\RV.Pend X 41 10 11 #[.int .i64 yx,.int .i64 yy,.int .i64 yz,.int .i64 yg] γ L w) (by kernel_rfl) (by kernel_rfl) (by kernel_rfl) (by kernel_rfl) ?_ ?_ ?_
       ·exact ⟨(Below.refl _ X).drew,RV.Pend.start rfl⟩
       ·generalize hD:dstOf _ = D
        generalize hWA:waitsFor _ = WA
        generalize hZ:Act.mk _ _ = Z
        refine RV.AllDo.name ?_
        intro R hR
        have kn:RV.Kn R [.some (.agg #[.slice o1 P.length c1,.slice o2 A.length c2,.slice o3 E.length c3,.int .i64 r]),.some (.agg #[.int .i64 wx,.int .i64 wY,.int .i64 wz]),.some (.int .i64 (k:Int)),.some (.int .i64 ((k:Int) + 1)),none,.some (.agg #[.slice o4 Q.length c4,.slice o5 B.length c5,.slice o6 Fl.length c6,.int .i64 s]),.some (.tuple #[.agg #[.int .i64 yx,.int .i64 yy,.int .i64 yz,.int .i64 yg],.bool mb]),.some (.tuple #[.agg #[.int .i64 yx,.int .i64 yy,.int .i64 yz,.int .i64 yg],.bool mb]),.some (.agg #[.int .i64 yx,.int .i64 yy,.int .i64 yz,.int .i64 yg]),.some (.bool mb),none,none,.some (.bool mb)] 0:=by rw [hR];exact ⟨fun _ _=>Iff.rfl,fun _ _=>Iff.rfl,fun _ _=>Iff.rfl,fun _ _=>Iff.rfl,fun _ _=>Iff.rfl,fun _ _=>Iff.rfl,fun _ _=>Iff.rfl,fun _ _=>Iff.rfl,fun _ _=>Iff.rfl,fun _ _=>Iff.rfl,trivial⟩
        have T:=RV.kfacts [47,48,49,50,51,52,53,46,54,55,13,0,14] [(3,.pointer (some ⟨ab,0,none⟩)),(4,.pointer (some ⟨wb,0,none⟩)),(5,.pointer (some ⟨bb,0,none⟩)),(11,.int .i64 (k:Int))] hD hZ kn ⟨rfl,rfl,rfl,rfl,trivial⟩ (by kernel_rfl) (by kernel_rfl)
        simp only [RV.Outs,RV.Slots,Nat.reduceAdd] at T
        have r4:∀ v w,R 4 v w = ((fun v w=>∃ vp va ve,v = .agg #[vp,va,ve,.int .i64 TC.r]/\w.ownsRow X.heap.size 23 3 vp TC.P.length (fl3 TC.P)/\w.ownsRow X.heap.size 23 3 va TC.A.length (fl3 TC.A)/\w.ownsRow X.heap.size 23 3 ve TC.E.length (fl3 TC.E)) v w):=fun v w=>by rw [hR];rfl
        have r10:∀ v w,R 10 v w = (True):=fun v w=>by rw [hR];rfl
        have r11:∀ v w,R 11 v w = (True):=fun v w=>by rw [hR];rfl
        have K:∀ j v w w',Below w.heap.size w w'->R j v w->R j v w':=by
         intro j v w w' hb h
         rw [hR] at h ⊢
         match j with
         | 4=>obtain ⟨vp,va,ve,h1,h2,h3,h4⟩:=h;exact ⟨vp,va,ve,h1,own_below h2 hb,own_below h3 hb,own_below h4 hb⟩
         | 0=>exact h
         | 1=>exact h
         | 2=>exact h
         | 3=>exact h
         | 5=>exact h
         | 6=>exact h
         | 7=>exact h
         | 8=>exact h
         | 9=>exact h
         | 10=>exact h
         | 11=>exact h
         | 12=>exact h
         | (_ + 13)=>trivial
        have K4:∀ j v w b cs a1 a2 a3 a4,w.heap[b]? = some (.cells cs 41 (0,0))->R j v w->R j v (set4 w b a1 a2 a3 a4):=by
         intro j v w b cs a1 a2 a3 a4 hb h
         rw [hR] at h ⊢
         match j with
         | 4=>obtain ⟨vp,va,ve,h1,h2,h3,h4⟩:=h;exact ⟨vp,va,ve,h1,own_set4 h2 (own_unlike h2 hb (by decide)) _ _ _ _,own_set4 h3 (own_unlike h3 hb (by decide)) _ _ _ _,own_set4 h4 (own_unlike h4 hb (by decide)) _ _ _ _⟩
         | 0=>exact h
         | 1=>exact h
         | 2=>exact h
         | 3=>exact h
         | 5=>exact h
         | 6=>exact h
         | 7=>exact h
         | 8=>exact h
         | 9=>exact h
         | 10=>exact h
         | 11=>exact h
         | 12=>exact h
         | (_ + 13)=>trivial
        iterate 4 first
         | (refine RV.cc _ (RV.pk kn T (fun γ v L w hl h=>⟨h.1,h.2.other v (by decide) (by decide)⟩) (fun γ L a w hH hl h9 k9=>⟨_,?_,rfl⟩)) ?_;· simp [execOp,go_sem,h9])
         | (refine RV.cc _ (RV.pk kn T (fun γ v L w hl h=>⟨h.1,h.2.other v (by decide) (by decide)⟩) (fun γ L a w hH hl h9 k9=>⟨_,?_,rfl⟩)) ?_;· simp [Region.binds] at k9;simp [execOp,go_sem,h9,k9,wk1])
         | (refine RV.cc _ (RV.pk kn T (fun γ v L w hl h=>⟨h.1,h.2.other v (by decide) (by decide)⟩) (fun γ L a w hH hl h9 k9=>⟨_,?_,rfl⟩)) ?_;· have wz0:=Cel.step HS.out.cw hH.glob.1 0 _ rfl;have wz1:=Cel.step HS.out.cw hH.glob.1 1 _ rfl;have wz2:=Cel.step HS.out.cw hH.glob.1 2 _ rfl;simp [execOp,go_sem,h9,wz0,wz1,wz2])
         | (refine RV.cc _ (RV.pk kn T (fun γ v L w hl h=>⟨h.1,h.2.other v (by decide) (by decide)⟩) (fun γ L a w hH hl h9 k9=>⟨_,?_,rfl⟩)) ?_;· have wz0:=Cel.step HS.out.ca hH.glob.1 0 _ rfl;have wz1:=Cel.step HS.out.ca hH.glob.1 1 _ rfl;have wz2:=Cel.step HS.out.ca hH.glob.1 2 _ rfl;have wz3:=Cel.step HS.out.ca hH.glob.1 3 _ rfl;simp [execOp,go_sem,h9,wz0,wz1,wz2,wz3])
        refine RV.cc _ (RV.dc (fun γ L a w hH hl hA=>by have h9:=T _ _ γ L a w hH;have k9:=hA;simp [Region.binds] at k9;exact ⟨26,#[.agg #[.slice o1 P.length c1,.slice o2 A.length c2,.slice o3 E.length c3,.int .i64 r],.agg #[.int .i64 wx,.int .i64 wY,.int .i64 wz],.int .i64 ((k:Int) + 1)],by simp [go_sem,h9,k9],Calls.mono (HTR.out w hH.glob.1) (by rintro e w2 ⟨vp,va,ve,rfl,h3⟩;have hb9:=h3.below;exact ⟨_,rfl,(r4 _ _).mpr ⟨_,_,_,rfl,own_le h3.rp hH.glob.1.size,own_le h3.ra hH.glob.1.size,own_le h3.re hH.glob.1.size⟩,fun j v _ h=>K j v _ _ hb9 h,⟨b_step hH.glob.1 hb9,(hH.glob.2.below hb9).other _ (by decide) (by decide)⟩⟩)⟩)) ?_
        (refine RV.cc _ (RV.pk kn T (fun γ v L w hl h=>⟨h.1,h.2.other v (by decide) (by decide)⟩) (fun γ L a w hH hl h9 k9=>⟨_,?_,rfl⟩)) ?_;· have wz0:=Cel.step HS.out.cb hH.glob.1 0 _ rfl;have wz1:=Cel.step HS.out.cb hH.glob.1 1 _ rfl;have wz2:=Cel.step HS.out.cb hH.glob.1 2 _ rfl;have wz3:=Cel.step HS.out.cb hH.glob.1 3 _ rfl;simp [execOp,go_sem,h9,wz0,wz1,wz2,wz3])
        refine RV.cc _ (RV.dc (fun γ L a w hH hl hA=>by have h9:=T _ _ γ L a w hH;have k9:=hA;simp [Region.binds] at k9;have l0:L 4 = true:=hA ⟨4,.data⟩ (by simp) rfl;have e0:=hH.slot 4 50 (by rw [<- hD];rfl) l0;have g0:=hH.holds 4 l0;rw [r4] at g0;obtain ⟨vp,va,ve,hv,hp1,ha1,he1⟩:=g0;rw [hv] at e0;exact ⟨9,#[.agg #[vp,va,ve,.int .i64 TC.r],.agg #[.slice o4 Q.length c4,.slice o5 B.length c5,.slice o6 Fl.length c6,.int .i64 s]],by simp [go_sem,e0,h9,k9],Calls.mono (HAP.out vp va ve w hH.glob.1 (Lies.of_row hp1) (Lies.of_row ha1) (Lies.of_row he1)) (by rintro e w2 ⟨rfl,hb9⟩;exact ⟨_,rfl,((kn.at (k:=6) rfl _ _).2 rfl),fun j v _ h=>K j v _ _ hb9 h,⟨b_step hH.glob.1 hb9,(hH.glob.2.below hb9).other _ (by decide) (by decide)⟩⟩)⟩)) ?_
        iterate 3 (refine RV.cc _ (RV.pk kn T (fun γ v L w hl h=>⟨h.1,h.2.other v (by decide) (by decide)⟩) (fun γ L a w hH hl h9 k9=>⟨_,?_,rfl⟩)) ?_;· simp [Region.binds] at k9;simp [execOp,go_sem,h9,k9])
        refine RV.cc _ (RV.does_step (fun γ L a w hH hl hA=>by have h10:L 11 = false:=RV.ny hH (RV.wt (j:=11) (i:=10) hWA (by kernel_rfl)) hl;have hb9:=n_after w (.cells #[.int .i64 0,.int .i64 0,.int .i64 0,.int .i64 0] 41);exact ⟨.pointer (some ⟨w.heap.size,0,none⟩),w.alloc (.cells #[.int .i64 0,.int .i64 0,.int .i64 0,.int .i64 0] 41),by simp [execOp,go_sem],(r10 _ _).mpr trivial,fun j v _ h=>K j v _ _ hb9 h,b_step hH.glob.1 hb9,RV.Pend.made _ rfl hH.glob.1.size h10 (by decide)⟩)) ?_
        refine RV.cc _ (RV.does_store (fun γ L a w hH hl hA=>by have h9:=T _ _ γ L a w hH;have k9:=hA;simp [Region.binds] at k9;have l0:L 10 = true:=hA ⟨10,.data⟩ (by simp) rfl;have e0:=hH.slot 10 12 (by rw [<- hD];rfl) l0;obtain ⟨b,cs,hb1,hb2,hb3,hb4,_⟩:=hH.glob.2 l0;rw [hb1] at e0;obtain ⟨u0,u1,u2,u3,rfl⟩:=arr4k hb4;have z09:w.cell? ⟨b,0,none⟩ = some u0:=(by simp [World.cell?,hb3]);have z19:w.cell? ⟨b,1,none⟩ = some u1:=(by simp [World.cell?,hb3]);have z29:w.cell? ⟨b,2,none⟩ = some u2:=(by simp [World.cell?,hb3]);have z39:w.cell? ⟨b,3,none⟩ = some u3:=(by simp [World.cell?,hb3]);have zf:∀ o,w.frozen? ⟨b,o,none⟩ = false:=fun o=>(by simp [World.frozen?,hb3]);exact ⟨set4 w b (.int .i64 yx) (.int .i64 yy) (.int .i64 yz) (.int .i64 yg),by simp [set4,execOp,go_sem,e0,z09,z19,z29,z39,zf,h9,k9],(r11 _ _).mpr trivial,fun j v _ h=>K4 j v w b _ _ _ _ _ hb3 h,set4_below hH.glob.1 hb2 _ _ _ _,RV.Pend.filled hb1 hb2 (by have q0:=Go.heap_setCell_same w b 0 _ _ (.int .i64 yx) hb3;have q1:=Go.heap_setCell_same _ b 1 _ _ (.int .i64 yy) q0;have q2:=Go.heap_setCell_same _ b 2 _ _ (.int .i64 yz) q1;have q3:=Go.heap_setCell_same _ b 3 _ _ (.int .i64 yg) q2;simpa [set4] using q3) (by decide) _⟩)) ?_
        (refine RV.cc _ (RV.pk kn T (fun γ v L w hl h=>⟨h.1,h.2.other v (by decide) (by decide)⟩) (fun γ L a w hH hl h9 k9=>⟨_,?_,rfl⟩)) ?_;· simp [Region.binds] at k9;simp [execOp,go_sem,h9,k9])
        exact RV.AllDo.nil
       ·intro γ a5 w5 L9 hL hLo hH
        have ha:=RV.held_act hH hL (by kernel_rfl) (by kernel_rfl)
        obtain ⟨nb,cs,hb1,hb2,hb3,_,hb5⟩:=hH.glob.2 (hL 10 (by decide))
        rw [hb5 (hL 11 (by decide))] at hb3
        have hB5:=hH.glob.1
        have e12:γ 12 = .bool mb:=hH.holds 12 (hL 12 (by decide))
        rw [ha]
        clear ha hH hL hLo hb5
        simp only [RV.putAll,Act.put,List.setIfInBounds_toArray,List.set_cons_zero,List.set_cons_succ,Nat.zero_add,Nat.reduceAdd]
        rw [hb1,e12]
        obtain ⟨W5,hW5⟩:∃ X:World,X = w5:=⟨_,rfl⟩
        rw [<- hW5] at hB5 hb3 ⊢
        have CY:Hid (Cel W5 nb [.int .i64 yx,.int .i64 yy,.int .i64 yz,.int .i64 yg]):=fun k v e=>by match k,e with | 0,e=>cases e;simp [World.cell?,hb3] | 1,e=>cases e;simp [World.cell?,hb3] | 2,e=>cases e;simp [World.cell?,hb3] | 3,e=>cases e;simp [World.cell?,hb3]
        have HS:Hid _:=HS.out.step hB5
        clear hW5 hb1 hb3 hB5 hb2 e12
        have u3:=CY.out 3 _ rfl
        by_cases hneg:yg < 0
        ·have HE:Hid (CR = ((k:Nat),(⟨xx,xy,xz⟩,xg))):=by show _ = _;rw [HE.out,HST.out,if_pos hneg]
         obtain ⟨z0,zf0⟩:=HS.out.cr 0 _ rfl
         obtain ⟨z1,zf1⟩:=HS.out.cr 1 _ rfl
         obtain ⟨z2,zf2⟩:=HS.out.cr 2 _ rfl
         obtain ⟨z3,zf3⟩:=HS.out.cr 3 _ rfl
         have v0:=(HS.out.cx 0 _ rfl).1
         have v1:=(HS.out.cx 1 _ rfl).1
         have v2:=(HS.out.cx 2 _ rfl).1
         have v3:=(HS.out.cx 3 _ rfl).1
         have HB9:Hid _:=set4_below HS.out.below HR0.out (.int .i64 xx) (.int .i64 xy) (.int .i64 xz) (.int .i64 xg)
         unfold set4 at HB9
         go_upto_region 11 with fail
         clear CY HST HAP HTR u3
         go_region
         go_wp2
         exact bodyPost_ret (v:=.tuple #[.int .i64 (k:Int),.agg #[.int .i64 xx,.int .i64 xy,.int .i64 xz,.int .i64 xg],.bool true]) (by simp [results,Tryz.results8,go_sem,z0,z1,z2,z3]) rfl ⟨by rw [HE.out];rfl,HB9.out.drew⟩
        ·have HE:Hid (CR = castF ⟨P,A,E,r⟩ ⟨wx,wY,wz⟩ ⟨Q,B,Fl,s⟩ (16 - (k + 1)) (k + 1) (⟨yx,yy,yz⟩,yg)):=by show _ = _;rw [HE.out,HST.out,if_neg hneg]
         have HS2:Hid _:=HS.out.put hne yx yy yz yg
         have u0:=CY.out 0 _ rfl
         have u1:=CY.out 1 _ rfl
         have u2:=CY.out 2 _ rfl
         obtain ⟨v0,vf0⟩:=HS.out.cx 0 _ rfl
         obtain ⟨v1,vf1⟩:=HS.out.cx 1 _ rfl
         obtain ⟨v2,vf2⟩:=HS.out.cx 2 _ rfl
         obtain ⟨v3,vf3⟩:=HS.out.cx 3 _ rfl
         unfold set4 at HS2
         clear HS CY HST HAP HTR
         go_wp2_with (fail)
         go_roundg (16 - (k + 1))
         case measure=>have:=HG.out;omega
         case rel=>exact ⟨k + 1,yx,yy,yz,yg,by go_num,by omega,rfl,HS2,HE⟩
      ·obtain rfl:k = 16:=by omega
       have HE:Hid (CR = (16,(⟨xx,xy,xz⟩,xg))):=HE.out
       obtain ⟨z0,zf0⟩:=HS.out.cr 0 _ rfl
       obtain ⟨z1,zf1⟩:=HS.out.cr 1 _ rfl
       obtain ⟨z2,zf2⟩:=HS.out.cr 2 _ rfl
       obtain ⟨z3,zf3⟩:=HS.out.cr 3 _ rfl
       have v0:=(HS.out.cx 0 _ rfl).1
       have v1:=(HS.out.cx 1 _ rfl).1
       have v2:=(HS.out.cx 2 _ rfl).1
       have v3:=(HS.out.cx 3 _ rfl).1
       have HB9:Hid _:=set4_below HS.out.below HR0.out (.int .i64 xx) (.int .i64 xy) (.int .i64 xz) (.int .i64 xg)
       unfold set4 at HB9
       clear HS HST0 HTR0 HAP0
       go_wp2_with (go_region)
       exact bodyPost_ret (v:=.tuple #[.int .i64 16,.agg #[.int .i64 xx,.int .i64 xy,.int .i64 xz,.int .i64 xg],.bool true]) (by simp [results,Tryz.results8,go_sem,z0,z1,z2,z3]) rfl ⟨by rw [HE.out];rfl,HB9.out.drew⟩
end
section
open Go.RowKit Go.Shelf
theorem wsooner_any (x y:Int) (w:World) :
  Calls Tryz.prog 42 #[.int .i64 x,.int .i64 y] w fun e W=>e = .returned (.bool (decide (x < y)))/\W = w:=by
 go_enter Tryz.func42,Tryz.ntmps42
 go_wp2
 go_ret
 exact ⟨rfl,rfl⟩
def metB (a:Cr) (w:Pt) (b:Cr):Bool:=castB a w b && decide ((castR a w b).1 < 16)
theorem wmet_any (a:Cr) (wy:Pt) (b:Cr) (pv av ev qv bv fv:Value) (w0:World) (hp:Lies w0 pv a.P) (ha:Lies w0 av a.A) (he:Lies w0 ev a.E) (hq:Lies w0 qv b.P) (hb:Lies w0 bv b.A) (hf:Lies w0 fv b.E) :
  Calls Tryz.prog 41 #[coreA pv av ev a.r,wy.v,coreA qv bv fv b.r] w0 fun e W=>e = .returned (.tuple #[.int .i64 ((castR a wy b).1:Nat),.bool (metB a wy b)])/\Below w0.heap.size w0 W:=by
 have HCS:Hid _:=fun (w':World) (h:Below w0.heap.size w0 w')=>wcast_any a wy b pv av ev qv bv fv w' (hp.below h) (ha.below h) (he.below h) (hq.below h) (hb.below h) (hf.below h)
 obtain ⟨o1,c1,rfl,_⟩:=hp.form
 obtain ⟨o2,c2,rfl,_⟩:=ha.form
 obtain ⟨o3,c3,rfl,_⟩:=he.form
 obtain ⟨o4,c4,rfl,_⟩:=hq.form
 obtain ⟨o5,c5,rfl,_⟩:=hb.form
 obtain ⟨o6,c6,rfl,_⟩:=hf.form
 clear hp ha he hq hb hf
 unfold metB
 generalize castB a wy b = cb at *
 obtain ⟨⟨k,⟨xx,xy,xz⟩,xg⟩,hx⟩:∃ x,castR a wy b = x:=⟨_,rfl⟩
 rw [hx] at HCS ⊢
 clear hx
 obtain ⟨wx,wY,wz⟩:=wy
 unfold coreA apV Pt.v at *
 dsimp only at *
 have hkk:decide ((k:Int) < 16) = decide (k < 16):=by simp only [decide_eq_decide];omega
 rw [<- hkk]
 clear hkk
 obtain ⟨X,hX⟩:∃ V,V = ((w0.alloc (.cells #[.slice o1 a.P.length c1,.slice o2 a.A.length c2,.slice o3 a.E.length c3,.int .i64 a.r] 36)).alloc (.cells #[.int .i64 wx,.int .i64 wY,.int .i64 wz] 23)).alloc (.cells #[.slice o4 b.P.length c4,.slice o5 b.A.length c5,.slice o6 b.E.length c6,.int .i64 b.r] 36):=⟨_,rfl⟩
 obtain ⟨ab,hab⟩:∃ b,b = w0.heap.size:=⟨_,rfl⟩
 obtain ⟨wb,hwb⟩:∃ b,b = w0.heap.size + 1:=⟨_,rfl⟩
 obtain ⟨bb,hbb⟩:∃ b,b = w0.heap.size + 1 + 1:=⟨_,rfl⟩
 have n2:=Cel.new (w0.alloc (.cells #[.slice o1 a.P.length c1,.slice o2 a.A.length c2,.slice o3 a.E.length c3,.int .i64 a.r] 36)) [.int .i64 wx,.int .i64 wY,.int .i64 wz] 23
 rw [World.size_alloc] at n2
 have n3:=Cel.new ((w0.alloc (.cells #[.slice o1 a.P.length c1,.slice o2 a.A.length c2,.slice o3 a.E.length c3,.int .i64 a.r] 36)).alloc (.cells #[.int .i64 wx,.int .i64 wY,.int .i64 wz] 23)) [.slice o4 b.P.length c4,.slice o5 b.A.length c5,.slice o6 b.E.length c6,.int .i64 b.r] 36
 rw [World.size_alloc,World.size_alloc] at n3
 have C1:Hid (Cel X ab [.slice o1 a.P.length c1,.slice o2 a.A.length c2,.slice o3 a.E.length c3,.int .i64 a.r]):=by show Cel _ _ _;rw [hX,hab];exact ((Cel.new w0 [.slice o1 a.P.length c1,.slice o2 a.A.length c2,.slice o3 a.E.length c3,.int .i64 a.r] 36).step (n_after _ _)).step (n_after _ _)
 have C2:Hid (Cel X wb [.int .i64 wx,.int .i64 wY,.int .i64 wz]):=by show Cel _ _ _;rw [hX,hwb];exact n2.step (n_after _ _)
 have C3:Hid (Cel X bb [.slice o4 b.P.length c4,.slice o5 b.A.length c5,.slice o6 b.E.length c6,.int .i64 b.r]):=by show Cel _ _ _;rw [hX,hbb];exact n3
 have HB:Hid (Below w0.heap.size w0 X):=by show Below _ _ _;rw [hX];exact b_step (b_step (n_after _ _) (n_after _ _)) (n_after _ _)
 clear n2 n3
 go_enter Tryz.func41,Tryz.ntmps41
 go_upto_region 1 with fail
 rw [<- hX,<- hbb,<- hwb,<- hab]
 clear hX hab hwb hbb
 have x0:=C1.out 0 _ rfl
 have x1:=C1.out 1 _ rfl
 have x2:=C1.out 2 _ rfl
 have x3:=C1.out 3 _ rfl
 have v0:=C2.out 0 _ rfl
 have v1:=C2.out 1 _ rfl
 have v2:=C2.out 2 _ rfl
 have y0:=C3.out 0 _ rfl
 have y1:=C3.out 1 _ rfl
 have y2:=C3.out 2 _ rfl
 have y3:=C3.out 3 _ rfl
 go_wp2_with (fail)
 refine Calls.mono (HCS.out _ HB.out) ?_
 rintro e V4 ⟨rfl,hb⟩
 have HB:Hid _:=b_step (b_step HB.out hb) (n_after V4 (.cells #[.int .i64 xx,.int .i64 xy,.int .i64 xz,.int .i64 xg] 41))
 clear hb x0 x1 x2 x3 y0 y1 y2 y3 v0 v1 v2 HCS C1 C2 C3
 cases cb with
 | false =>
  go_wp2_with (fail)
  exact bodyPost_ret (v:=.tuple #[.int .i64 ((k:Nat):Int),.bool false]) (by simp [results,Tryz.results41,go_sem]) rfl ⟨rfl,HB.out⟩
 | true =>
  go_wp2_with (fail)
  exact bodyPost_ret (v:=.tuple #[.int .i64 ((k:Nat):Int),.bool (decide ((k:Int) < 16))]) (by simp [results,Tryz.results41,go_sem]) rfl ⟨by rw [Bool.true_and],HB.out⟩
theorem wray1_any (a:Cr) (wy:Pt) (b:Cr) (ab wb:Nat) (pv av ev qv bv fv:Value) (w0:World) (hp:Lies w0 pv a.P) (ha:Lies w0 av a.A) (he:Lies w0 ev a.E) (hq:Lies w0 qv b.P) (hb:Lies w0 bv b.A) (hf:Lies w0 fv b.E) (hc:Cel w0 ab [pv,av,ev,.int .i64 a.r]) (hw:Cel w0 wb [.int .i64 wy.x,.int .i64 wy.y,.int .i64 wy.z]) :
  Calls Tryz.prog 40 #[coreA qv bv fv b.r,.pointer (some ⟨ab,0,none⟩),.pointer (some ⟨wb,0,none⟩)] w0 fun e W=>e = .returned (.tuple #[.int .i64 ((castR a wy b).1:Nat),.bool (metB a wy b)])/\Below w0.heap.size w0 W:=by
 have HCS:Hid _:=fun (w':World) (h:Below w0.heap.size w0 w')=>wmet_any a wy b pv av ev qv bv fv w' (hp.below h) (ha.below h) (he.below h) (hq.below h) (hb.below h) (hf.below h)
 obtain ⟨o1,c1,rfl,_⟩:=hp.form
 obtain ⟨o2,c2,rfl,_⟩:=ha.form
 obtain ⟨o3,c3,rfl,_⟩:=he.form
 obtain ⟨o4,c4,rfl,_⟩:=hq.form
 obtain ⟨o5,c5,rfl,_⟩:=hb.form
 obtain ⟨o6,c6,rfl,_⟩:=hf.form
 have H1:Hid (Cel _ _ _):=hc
 have H2:Hid (Cel _ _ _):=hw
 clear hp ha he hq hb hf hc hw
 generalize metB a wy b = cb at *
 generalize (castR a wy b).1 = k at *
 obtain ⟨wx,wY,wz⟩:=wy
 unfold coreA Pt.v at *
 dsimp only at *
 obtain ⟨X,hX⟩:∃ V,V = w0.alloc (.cells #[.slice o4 b.P.length c4,.slice o5 b.A.length c5,.slice o6 b.E.length c6,.int .i64 b.r] 36):=⟨_,rfl⟩
 obtain ⟨bb,hbb⟩:∃ b,b = w0.heap.size:=⟨_,rfl⟩
 have hbx:Below w0.heap.size w0 X:=by rw [hX];exact n_after _ _
 have C1:Hid (Cel _ _ _):=H1.out.step hbx
 have C2:Hid (Cel _ _ _):=H2.out.step hbx
 have C3:Hid (Cel X bb [.slice o4 b.P.length c4,.slice o5 b.A.length c5,.slice o6 b.E.length c6,.int .i64 b.r]):=by show Cel _ _ _;rw [hX,hbb];exact Cel.new w0 [.slice o4 b.P.length c4,.slice o5 b.A.length c5,.slice o6 b.E.length c6,.int .i64 b.r] 36
 have HB:Hid _:=hbx
 clear hbx H1 H2
 go_enter Tryz.func40,Tryz.ntmps40
 go_upto_region 1 with fail
 rw [<- hX,<- hbb]
 clear hX hbb
 have x0:=C1.out 0 _ rfl
 have x1:=C1.out 1 _ rfl
 have x2:=C1.out 2 _ rfl
 have x3:=C1.out 3 _ rfl
 have v0:=C2.out 0 _ rfl
 have v1:=C2.out 1 _ rfl
 have v2:=C2.out 2 _ rfl
 have y0:=C3.out 0 _ rfl
 have y1:=C3.out 1 _ rfl
 have y2:=C3.out 2 _ rfl
 have y3:=C3.out 3 _ rfl
 go_wp2_with (fail)
 refine Calls.mono (HCS.out _ HB.out) ?_
 rintro e V4 ⟨rfl,hb⟩
 have HB:Hid _:=b_step HB.out hb
 go_wp2_with (fail)
 exact bodyPost_ret (v:=.tuple #[.int .i64 ((k:Nat):Int),.bool cb]) (by simp [results,Tryz.results40,go_sem]) rfl ⟨rfl,HB.out⟩
def RR (st:Option (Nat × Nat)) (pl pk:Int):Prop:=match st with
 | none=>pl = -1/\pk = 0
 | some (j,k)=>pl = (j:Int)/\pk = (k:Int)
theorem ray_skip {a:Cr} {w:Pt} {L:List Cr} {i:Nat} {pl pk:Int} (h:RR (bestK (rayT a w) rayB L i) pl pk) (hm:metB a w (cr L i) = false):RR (bestK (rayT a w) rayB L (i + 1)) pl pk:=by
 rw [bestK_no]
 ·exact h
 ·unfold rayT;unfold metB at hm;rw [hm];rfl
theorem ray_first {a:Cr} {w:Pt} {L:List Cr} {i:Nat} {pk:Int} (h:RR (bestK (rayT a w) rayB L i) (-1) pk) (hm:metB a w (cr L i) = true):RR (bestK (rayT a w) rayB L (i + 1)) (i:Int) ((castR a w (cr L i)).1:Nat):=by
 have ht:rayT a w (cr L i) = some (castR a w (cr L i)).1:=by unfold rayT;unfold metB at hm;rw [if_pos hm]
 have hn:bestK (rayT a w) rayB L i = none:=by
  unfold RR at h
  split at h
  ·next e=>exact e
  ·next j x e=>have:=h.1;omega
 rw [bestK_first _ _ _ ht hn]
 exact ⟨rfl,rfl⟩
theorem ray_more {a:Cr} {w:Pt} {L:List Cr} {i:Nat} {pl pk:Int} (h:RR (bestK (rayT a w) rayB L i) pl pk) (hpl:pl ≠ -1) (hm:metB a w (cr L i) = true):(((castR a w (cr L i)).1:Nat) < pk->RR (bestK (rayT a w) rayB L (i + 1)) (i:Int) ((castR a w (cr L i)).1:Nat))/\(pk <= ((castR a w (cr L i)).1:Nat)->RR (bestK (rayT a w) rayB L (i + 1)) pl pk):=by
 have ht:rayT a w (cr L i) = some (castR a w (cr L i)).1:=by unfold rayT;unfold metB at hm;rw [if_pos hm]
 unfold RR at h
 split at h
 ·exact absurd h.1 hpl
 ·next j x e =>
  obtain ⟨rfl,rfl⟩:=h
  rw [bestK_more _ _ _ ht e]
  refine ⟨fun hl=>?_,fun hl=>?_⟩
  ·rw [if_pos (by unfold rayB;exact decide_eq_true (by omega))]
   exact ⟨rfl,rfl⟩
  ·rw [if_neg (by unfold rayB;simp only [decide_eq_true_eq];omega)]
   exact ⟨rfl,rfl⟩
theorem wbestI_any (a:Cr) (wy:Pt) (L:List Cr) (ab wb:Nat) (lv pv av ev:Value) (w0:World) (hl:LiesC w0 lv L) (hp:Lies w0 pv a.P) (ha:Lies w0 av a.A) (he:Lies w0 ev a.E) (hc:Cel w0 ab [pv,av,ev,.int .i64 a.r]) (hw:Cel w0 wb [.int .i64 wy.x,.int .i64 wy.y,.int .i64 wy.z]) :
  Calls Tryz.prog 39 #[lv,.func (.func 40) #[] #[.pointer (some ⟨ab,0,none⟩),.pointer (some ⟨wb,0,none⟩)],.func (.func 42) #[] #[]] w0 fun e W=>∃ pl pk,RR (bestK (rayT a wy) rayB L L.length) pl pk/\e = .returned (.tuple #[.int .i64 pl,.int .i64 pk,.bool (!decide (pl = -1))])/\Below w0.heap.size w0 W:=by
 have HN1:Hid _:=fun (b:Cr) (qv bv fv:Value) (w':World) (h:Below w0.heap.size w0 w') (hq:Lies w' qv b.P) (hb:Lies w' bv b.A) (hf:Lies w' fv b.E)=>wray1_any a wy b ab wb pv av ev qv bv fv w' (hp.below h) (ha.below h) (he.below h) hq hb hf (hc.step h) (hw.step h)
 have HL:Hid _:=hl
 obtain ⟨o1,c1,rfl,_⟩:=hp.form
 obtain ⟨o2,c2,rfl,_⟩:=ha.form
 obtain ⟨o3,c3,rfl,_⟩:=he.form
 obtain ⟨o,cap,rfl,hlc,hcm,_⟩:=hl.form
 clear hl hp ha he hc hw
 go_enter Tryz.func39,Tryz.ntmps39
 go_wp2_with (fail)
 go_loopg [9,10,17] L.length (fun gm s9 s10 s17 wr=>∃ (i:Nat) (pl pk:Int),s9 = .int .i64 pl/\s10 = .int .i64 pk/\s17 = .int .i64 (i:Int)/\i <= L.length/\Hid (gm = L.length - i)/\Hid (Below w0.heap.size w0 wr)/\Hid (RR (bestK (rayT a wy) rayB L i) pl pk))
 case atStart=>exact ⟨0,-1,0,rfl,rfl,rfl,Nat.zero_le _,rfl,Below.refl _ _,⟨rfl,rfl⟩⟩
 case round =>
  obtain ⟨i,pl,pk,rfl,rfl,rfl,hi9,HG,HB,HE⟩:=hrel
  by_cases hit:i < L.length
  ·have hl1:(i:Int) < (L.length:Int):=by omega
   obtain ⟨o',cap',e',_,_,hcl⟩:=(HL.out.below HB.out).form
   cases e'
   obtain ⟨ge,fe,qv,bv,fv,rfl,x0,x1,x2,x3,l1,l2,l3⟩:=hcl i hit
   clear hcl
   have HY1:Hid _:=fun (w':World) (h:Below wr.heap.size wr w')=>HN1.out (cr L i) qv bv fv w' (b_step HB.out h) (l1.below h) (l2.below h) (l3.below h)
   have HSK:Hid _:=fun h=>ray_skip (L:=L) (i:=i) HE.out h
   have HFI:Hid _:=fun (h:pl = -1) hm=>ray_first (a:=a) (w:=wy) (L:=L) (i:=i) (pk:=pk) (by rw [<- h];exact HE.out) hm
   have HMO:Hid _:=fun (h:pl ≠ -1) hm=>ray_more (a:=a) (w:=wy) (L:=L) (i:=i) HE.out h hm
   obtain ⟨b,hb⟩:∃ x,cr L i = x:=⟨_,rfl⟩
   rw [hb] at x3 l1 l2 l3 HY1 HSK HFI HMO
   obtain ⟨o4,c4,rfl,_⟩:=l1.form
   obtain ⟨o5,c5,rfl,_⟩:=l2.form
   obtain ⟨o6,c6,rfl,_⟩:=l3.form
   clear hb l1 l2 l3 HN1
   obtain ⟨mb,hmb⟩:∃ x,metB a wy b = x:=⟨_,rfl⟩
   obtain ⟨k,hk⟩:∃ x,(castR a wy b).1 = x:=⟨_,rfl⟩
   rw [hmb] at HY1 HSK HFI HMO
   rw [hk] at HY1 HFI HMO
   clear hmb hk
   unfold coreA at HY1
   obtain ⟨V1,hV1⟩:∃ V,V = wr.alloc (.cells #[.slice o4 b.P.length c4,.slice o5 b.A.length c5,.slice o6 b.E.length c6,.int .i64 b.r] 36):=⟨_,rfl⟩
   obtain ⟨nb,hnb⟩:∃ b,b = wr.heap.size:=⟨_,rfl⟩
   have hb1:Below wr.heap.size wr V1:=by rw [hV1];exact n_after _ _
   have CN:Hid (Cel V1 nb [.slice o4 b.P.length c4,.slice o5 b.A.length c5,.slice o6 b.E.length c6,.int .i64 b.r]):=by show Cel _ _ _;rw [hV1,hnb];exact Cel.new wr [.slice o4 b.P.length c4,.slice o5 b.A.length c5,.slice o6 b.E.length c6,.int .i64 b.r] 36
   have HY1:Hid _:=HY1.out V1 hb1
   have HB:Hid _:=b_step HB.out hb1
   go_upto_region 6 with fail
   rw [<- hV1,<- hnb]
   clear hV1 hnb hb1 x0 x1 x2 x3
   have x0:=CN.out 0 _ rfl
   have x1:=CN.out 1 _ rfl
   have x2:=CN.out 2 _ rfl
   have x3:=CN.out 3 _ rfl
   go_wp2_with (fail)
   refine Calls.mono HY1.out ?_
   rintro e V2 ⟨rfl,hb⟩
   have HB:Hid _:=b_step HB.out hb
   clear hb x0 x1 x2 x3 CN HY1
   cases mb with
   | false =>
    have HE9:Hid _:=HSK.out rfl
    clear HSK HFI HMO HE
    go_wp2_with (fail)
    go_roundg (L.length - (i + 1))
    case measure=>have:=HG.out;omega
    case rel=>exact ⟨i + 1,pl,pk,rfl,rfl,by go_num,by omega,rfl,HB,HE9⟩
   | true =>
    by_cases hpl:pl = -1
    ·have HE9:Hid _:=HFI.out hpl rfl
     clear HSK HFI HMO HE
     subst hpl
     go_wp2_with (fail)
     go_roundg (L.length - (i + 1))
     case measure=>have:=HG.out;omega
     case rel=>exact ⟨i + 1,(i:Int),(k:Int),rfl,rfl,by go_num,by omega,rfl,HB,HE9⟩
    ·have HE2:Hid _:=HMO.out hpl rfl
     have HNW:Hid _:=fun w'=>wsooner_any (k:Int) pk w'
     clear HSK HFI HMO
     go_wp2_with (fail)
     refine Calls.mono (HNW.out _) ?_
     rintro e V4 ⟨rfl,rfl⟩
     clear HNW
     by_cases hlt:(k:Int) < pk
     ·have HE9:Hid _:=HE2.out.1 hlt
      rw [decide_eq_true hlt]
      clear HE2 hlt HE
      go_wp2_with (fail)
      go_roundg (L.length - (i + 1))
      case measure=>have:=HG.out;omega
      case rel=>exact ⟨i + 1,(i:Int),(k:Int),rfl,rfl,by go_num,by omega,rfl,HB,HE9⟩
     ·have HE9:Hid _:=HE2.out.2 (Int.not_lt.1 hlt)
      rw [decide_eq_false hlt]
      clear HE2 hlt HE
      go_wp2_with (fail)
      go_roundg (L.length - (i + 1))
      case measure=>have:=HG.out;omega
      case rel=>exact ⟨i + 1,pl,pk,rfl,rfl,by go_num,by omega,rfl,HB,HE9⟩
  ·obtain rfl:i = L.length:=by omega
   clear HN1 HL
   by_cases hpl:pl = -1
   ·subst hpl
    go_wp2_with (fail)
    exact bodyPost_ret (v:=.tuple #[.int .i64 (-1),.int .i64 pk,.bool false]) (by simp [results,Tryz.results39,go_sem]) rfl ⟨-1,pk,HE.out,rfl,HB.out⟩
   ·go_wp2_with (fail)
    exact bodyPost_ret (v:=.tuple #[.int .i64 pl,.int .i64 pk,.bool true]) (by simp [results,Tryz.results39,go_sem,hpl]) rfl ⟨pl,pk,HE.out,by simp [hpl],HB.out⟩
def rayV (a:Cr) (w:Pt) (L:List Cr):Value:=if goB a w then (match bestK (rayT a w) rayB L L.length with
  | none=>.tuple #[.int .i64 (-1),.int .i64 16,.bool false]
  | some (j,k)=>.tuple #[.int .i64 (j:Int),.int .i64 (k:Int),.bool true]) else .tuple #[.int .i64 (-1),.int .i64 0,.bool false]
def dotC (p:Pt):Cr:=⟨[p],[],[],0⟩
theorem wray_any (p wy:Pt) (L:List Cr) (lv:Value) (w0:World) (hl:LiesC w0 lv L) :
  Calls Tryz.prog 16 #[p.v,wy.v,lv] w0 fun e W=>e = .returned (rayV (dotC p) wy L)/\Below w0.heap.size w0 W:=by
 have HGO:Hid _:=fun (v:Value) (w':World) (hp:Lies w' v [p])=>wgo_any (dotC p) wy v (.slice none 0 0) (.slice none 0 0) w' hp (lies_nil9 _) (lies_nil9 _)
 have HBE:Hid _:=fun (ab wb:Nat) (v:Value) (w':World) (h:Below w0.heap.size w0 w') (hp:Lies w' v [p]) (hc:Cel w' ab [v,.slice none 0 0,.slice none 0 0,.int .i64 0]) (hw:Cel w' wb [.int .i64 wy.x,.int .i64 wy.y,.int .i64 wy.z])=>wbestI_any (dotC p) wy L ab wb lv v (.slice none 0 0) (.slice none 0 0) w' (hl.below h) hp (lies_nil9 _) (lies_nil9 _) hc hw
 obtain ⟨o,cap,rfl,_⟩:=hl.form
 clear hl
 have HR:Hid _:=rfl (a:=rayV (dotC p) wy L)
 rw [show rayV (dotC p) wy L = (if goB (dotC p) wy then (match bestK (rayT (dotC p) wy) rayB L L.length with | none=>.tuple #[.int .i64 (-1),.int .i64 16,.bool false] | some (j,k)=>.tuple #[.int .i64 (j:Int),.int .i64 (k:Int),.bool true]) else .tuple #[.int .i64 (-1),.int .i64 0,.bool false]) from rfl]
 clear HR
 generalize goB (dotC p) wy = gb at *
 generalize bestK (rayT (dotC p) wy) rayB L L.length = st at *
 have HR0:Hid ((dotC p).r = 0):=rfl
 rw [HR0.out] at HGO
 clear HR0
 obtain ⟨px,py,pz⟩:=p
 obtain ⟨wx,wY,wz⟩:=wy
 unfold coreA Pt.v at *
 dsimp only at *
 obtain ⟨X,hX⟩:∃ V,V = (((w0.alloc (.cells #[.int .i64 px,.int .i64 py,.int .i64 pz] 23)).alloc (.cells #[.int .i64 wx,.int .i64 wY,.int .i64 wz] 23)).alloc (.cells #[.int .i64 px,.int .i64 py,.int .i64 pz] 23)).alloc (.cells #[.slice (some ⟨w0.heap.size + 1 + 1,0,none⟩) 1 1,.slice none 0 0,.slice none 0 0,.int .i64 0] 36):=⟨_,rfl⟩
 have n2:=Cel.new (w0.alloc (.cells #[.int .i64 px,.int .i64 py,.int .i64 pz] 23)) [.int .i64 wx,.int .i64 wY,.int .i64 wz] 23
 rw [World.size_alloc] at n2
 have n3:=Cel.new ((w0.alloc (.cells #[.int .i64 px,.int .i64 py,.int .i64 pz] 23)).alloc (.cells #[.int .i64 wx,.int .i64 wY,.int .i64 wz] 23)) [.int .i64 px,.int .i64 py,.int .i64 pz] 23
 rw [World.size_alloc,World.size_alloc] at n3
 have n4:=Cel.new (((w0.alloc (.cells #[.int .i64 px,.int .i64 py,.int .i64 pz] 23)).alloc (.cells #[.int .i64 wx,.int .i64 wY,.int .i64 wz] 23)).alloc (.cells #[.int .i64 px,.int .i64 py,.int .i64 pz] 23)) [.slice (some ⟨w0.heap.size + 1 + 1,0,none⟩) 1 1,.slice none 0 0,.slice none 0 0,.int .i64 0] 36
 rw [World.size_alloc,World.size_alloc,World.size_alloc] at n4
 obtain ⟨wb,hwb⟩:∃ b,b = w0.heap.size + 1:=⟨_,rfl⟩
 obtain ⟨pb,hpb⟩:∃ b,b = w0.heap.size + 1 + 1:=⟨_,rfl⟩
 obtain ⟨ab,hab⟩:∃ b,b = w0.heap.size + 1 + 1 + 1:=⟨_,rfl⟩
 have C2:Hid (Cel X wb [.int .i64 wx,.int .i64 wY,.int .i64 wz]):=by show Cel _ _ _;rw [hX,hwb];exact (n2.step (n_after _ _)).step (n_after _ _)
 have LP:Hid (Lies X (.slice (some ⟨pb,0,none⟩) 1 1) [⟨px,py,pz⟩]):=by show Lies _ _ _;rw [hX,hpb];exact lies_one9 (n3.step (n_after _ _))
 have C1:Hid (Cel X ab [.slice (some ⟨pb,0,none⟩) 1 1,.slice none 0 0,.slice none 0 0,.int .i64 0]):=by show Cel _ _ _;rw [hX,hab,hpb];exact n4
 have HB:Hid (Below w0.heap.size w0 X):=by show Below _ _ _;rw [hX];exact b_step (b_step (b_step (n_after _ _) (n_after _ _)) (n_after _ _)) (n_after _ _)
 clear n2 n3 n4
 go_enter Tryz.func16,Tryz.ntmps16
 go_upto_region 2 with fail
 rw [<- hX,<- hab,<- hpb,<- hwb]
 clear hX hwb hpb hab
 have x0:=C1.out 0 _ rfl
 have x1:=C1.out 1 _ rfl
 have x2:=C1.out 2 _ rfl
 have x3:=C1.out 3 _ rfl
 have v0:=C2.out 0 _ rfl
 have v1:=C2.out 1 _ rfl
 have v2:=C2.out 2 _ rfl
 have HGO:Hid _:=HGO.out _ X LP.out
 go_wp2_with (fail)
 refine Calls.mono HGO.out ?_
 rintro e V1 ⟨rfl,hb⟩
 have HBE2:Hid _:=HBE.out ab wb _ V1 (b_step HB.out hb) (LP.out.below hb) (C1.out.step hb) (C2.out.step hb)
 have HB:Hid _:=b_step HB.out hb
 clear hb x0 x1 x2 x3 v0 v1 v2 HGO C1 C2 LP HBE
 cases gb with
 | false =>
  go_wp2_with (fail)
  exact bodyPost_ret (v:=.tuple #[.int .i64 (-1),.int .i64 0,.bool false]) (by simp [results,Tryz.results16,go_sem]) rfl ⟨rfl,HB.out⟩
 | true =>
  go_wp2_with (fail)
  refine Calls.mono HBE2.out ?_
  rintro e V2 ⟨pl,pk,hrr,rfl,hb⟩
  have HB:Hid _:=b_step HB.out hb
  clear hb HBE2
  cases st with
  | none =>
   obtain ⟨rfl,rfl⟩:=hrr
   go_wp2_with (fail)
   exact bodyPost_ret (v:=.tuple #[.int .i64 (-1),.int .i64 16,.bool false]) (by simp [results,Tryz.results16,go_sem]) rfl ⟨rfl,HB.out⟩
  | some x =>
   obtain ⟨j,k⟩:=x
   obtain ⟨rfl,rfl⟩:=hrr
   have hj:¬ ((j:Int) = -1):=by omega
   have hd:(!decide ((j:Int) = -1)) = true:=by simp [hj]
   rw [hd]
   clear hd hj
   go_wp2_with (fail)
   exact bodyPost_ret (v:=.tuple #[.int .i64 (j:Int),.int .i64 (k:Int),.bool true]) (by simp [results,Tryz.results16,go_sem]) rfl ⟨rfl,HB.out⟩
end
section
theorem short_small {p:Pt} (hp:p.inB 1048576 = true):p.short = p.low.low:=by
 unfold Pt.short
 rw [if_pos (inB_mono hp (by decide))]
 unfold Pt.half
 rw [halveF_id _ _ (Pt.low_in hp)]
theorem ex_low:∀ n,n < 161->0 < n->(Pt.low (Pt.low ⟨(n:Nat),0,0⟩)) = ⟨1,0,0⟩:=by decide +kernel
theorem ex_short_n {n:Nat} (h:n < 161) (h0:0 < n):Pt.short ⟨(n:Int),0,0⟩ = ⟨1,0,0⟩:=by
 rw [short_small (by rw [Pt.inB_iff];dsimp only;omega)]
 exact ex_low n h h0
theorem ex_short_0:Pt.short ⟨0,0,0⟩ = ⟨0,0,0⟩:=by
 rw [short_small (by decide)]
 decide +kernel
theorem ex_lng_0:Pt.lng ⟨0,0,0⟩ = Pt.O:=by
 unfold Pt.lng
 rw [ex_short_0,if_pos (by rfl)]
abbrev exB:Cr:=⟨[⟨20,0,0⟩],[],[],2⟩
theorem ex_wayE {d:Pt} (h:d = ⟨1,0,0⟩ \/ d = ⟨0,0,0⟩):wayE d ⟨1,0,0⟩ = ⟨0,0,0⟩:=by
 have e:Pt.cross ⟨1,0,0⟩ d = ⟨0,0,0⟩:=by rcases h with rfl | rfl <;> decide
 unfold wayE
 rw [e,ex_short_0]
 decide
theorem exw_told {n:Nat} (h1:1 <= n) (h2:n <= 20) (r:Int):told ⟨[⟨0,0,0⟩,⟨n,0,0⟩],[],[⟨1,0,0⟩],r⟩ exB = (⟨1048576,0,0⟩,20 - n - r - 2):=by
 have d0:wayD ⟨0,0,0⟩ ⟨20,0,0⟩ = ⟨1,0,0⟩:=ex_short_n (n:=20) (by omega) (by omega)
 have hc:candL ⟨[⟨0,0,0⟩,⟨n,0,0⟩],[],[⟨1,0,0⟩],r⟩ exB = [⟨1,0,0⟩,⟨0,0,0⟩,wayD ⟨n,0,0⟩ ⟨20,0,0⟩,wayE (wayD ⟨n,0,0⟩ ⟨20,0,0⟩) ⟨1,0,0⟩]:=by
  unfold candL crossL wayL wayR wayG
  simp [d0,ex_wayE]
 have ro1:room ⟨1048576,0,0⟩ [⟨0,0,0⟩,⟨n,0,0⟩] [⟨20,0,0⟩] = (20 - n) * 1048576:=by
  unfold room loP hiP
  simp [loK,hiK,pt,Pt.dot]
  omega
 have ro2:room ⟨-1048576,0,0⟩ [⟨0,0,0⟩,⟨n,0,0⟩] [⟨20,0,0⟩] = (-20) * 1048576:=by
  unfold room loP hiP
  simp [loK,hiK,pt,Pt.dot]
  omega
 have hb:∃ M,both (candL ⟨[⟨0,0,0⟩,⟨n,0,0⟩],[],[⟨1,0,0⟩],r⟩ exB) = ⟨1048576,0,0⟩ :: ⟨-1048576,0,0⟩ :: M/\∀ m ∈ M,m = (⟨1048576,0,0⟩:Pt) \/ m = ⟨-1048576,0,0⟩:=by
  rw [hc]
  by_cases hn:n = 20
  ·subst hn
   have d1:wayD ⟨((20:Nat):Int),0,0⟩ ⟨20,0,0⟩ = ⟨0,0,0⟩:=ex_short_0
   rw [d1,ex_wayE (Or.inr rfl)]
   refine ⟨[],?_,by simp⟩
   simp only [both,ex_lng,ex_lng_0]
   rfl
  ·have d1:wayD ⟨(n:Int),0,0⟩ ⟨20,0,0⟩ = ⟨1,0,0⟩:=by
    have e:Pt.sub ⟨20,0,0⟩ ⟨(n:Int),0,0⟩ = ⟨((20 - n:Nat):Int),0,0⟩:=by
     unfold Pt.sub
     simp
     omega
    unfold wayD
    rw [e]
    exact ex_short_n (by omega) (by omega)
   rw [d1,ex_wayE (Or.inl rfl)]
   refine ⟨[⟨1048576,0,0⟩,⟨-1048576,0,0⟩],?_,by simp⟩
   simp only [both,ex_lng,ex_lng_0]
   rfl
 obtain ⟨M,hM,hMm⟩:=hb
 exact told_x hM hMm ro1 ro2 (by omega)
theorem exw_told0 (r:Int):told ⟨[⟨0,0,0⟩],[],[],r⟩ exB = (⟨1048576,0,0⟩,20 - r - 2):=by
 have d0:wayD ⟨0,0,0⟩ ⟨20,0,0⟩ = ⟨1,0,0⟩:=ex_short_n (n:=20) (by omega) (by omega)
 have hc:candL ⟨[⟨0,0,0⟩],[],[],r⟩ exB = [⟨1,0,0⟩]:=by
  unfold candL crossL wayL wayR wayG
  simp [d0]
 have ro1:room ⟨1048576,0,0⟩ [⟨0,0,0⟩] [⟨20,0,0⟩] = 20 * 1048576:=by
  unfold room loP hiP
  simp [loK,hiK,pt,Pt.dot]
 have ro2:room ⟨-1048576,0,0⟩ [⟨0,0,0⟩] [⟨20,0,0⟩] = (-20) * 1048576:=by
  unfold room loP hiP
  simp [loK,hiK,pt,Pt.dot]
 have hb:both (candL ⟨[⟨0,0,0⟩],[],[],r⟩ exB) = ⟨1048576,0,0⟩ :: ⟨-1048576,0,0⟩ :: []:=by
  rw [hc]
  simp only [both,ex_lng]
  rfl
 exact told_x hb (by simp) ro1 ro2 (by omega)
theorem ex_trail {r m:Int} {k n:Nat} (hr:0 <= r/\r <= 65536) (hm:m = 32 \/ m = 160) (hk:k <= 16) (hn:(m * k).tdiv 16 = n):trailC ⟨[⟨0,0,0⟩],[],[],r⟩ ⟨m,0,0⟩ k = ⟨[⟨0,0,0⟩,⟨n,0,0⟩],[],[⟨1,0,0⟩],r⟩:=by
 have hg:goB ⟨[⟨0,0,0⟩],[],[],r⟩ ⟨m,0,0⟩ = true:=by
  unfold goB
  simp only [Bool.and_eq_true,decide_eq_true_eq]
  refine ⟨⟨⟨⟨⟨by simp,by decide⟩,by simp⟩,by simp⟩,hr⟩,by rw [Pt.inB_iff];rcases hm with rfl | rfl <;> decide⟩
 rw [trail_yes hg (by omega)]
 have hs:Pt.short ⟨m,0,0⟩ = ⟨1,0,0⟩:=by
  rcases hm with rfl | rfl
  ·exact ex_short_n (n:=32) (by omega) (by omega)
  ·exact ex_short_n (n:=160) (by omega) (by omega)
 rw [hs]
 have hw:wayBy ⟨m,0,0⟩ (k:Int) = ⟨(n:Int),0,0⟩:=by
  unfold wayBy
  dsimp only
  rw [hn]
  simp
 rw [hw]
 simp [Pt.mov,keepD,Pt.O]
theorem ex_mayT {r:Int} {n:Nat} (hr:0 <= r/\r <= 65536) (hn:n <= 160):mayC ⟨[⟨0,0,0⟩,⟨(n:Int),0,0⟩],[],[⟨1,0,0⟩],r⟩ = true:=by
 unfold mayC
 simp only [Bool.and_eq_true,decide_eq_true_eq,List.all_eq_true]
 refine ⟨⟨⟨⟨by simp,?_⟩,by simp⟩,⟨by simp,by decide⟩⟩,hr⟩
 intro p hp
 simp only [List.mem_cons,List.not_mem_nil,or_false] at hp
 rcases hp with rfl | rfl
 ·decide
 ·rw [Pt.inB_iff];dsimp only;omega
theorem ex_apP {r:Int} {n:Nat} (hr:0 <= r/\r <= 65536) (h1:1 <= n) (h2:n <= 20):apP ⟨[⟨0,0,0⟩,⟨(n:Int),0,0⟩],[],[⟨1,0,0⟩],r⟩ exB = (⟨1048576,0,0⟩,20 - n - r - 2):=by
 unfold apP
 rw [ex_mayT hr (by omega),show mayC exB = true from by decide,Bool.and_self,if_pos rfl]
 exact exw_told h1 h2 r
theorem ex_apP0 {r:Int} (hr:0 <= r/\r <= 65536):apP ⟨[⟨0,0,0⟩],[],[],r⟩ exB = (⟨1048576,0,0⟩,20 - r - 2):=by
 unfold apP
 have:mayC ⟨[⟨0,0,0⟩],[],[],r⟩ = true:=by
  unfold mayC
  simp only [Bool.and_eq_true,decide_eq_true_eq]
  exact ⟨⟨⟨⟨by simp,by decide⟩,by simp⟩,by simp⟩,hr⟩
 rw [this,show mayC exB = true from by decide,Bool.and_self,if_pos rfl]
 exact exw_told0 r
theorem ex_castB {r m:Int} (hr:0 <= r/\r <= 65536) (hm:m = 32 \/ m = 160):castB ⟨[⟨0,0,0⟩],[],[],r⟩ ⟨m,0,0⟩ exB = true:=by
 unfold castB
 simp only [Bool.and_eq_true]
 refine ⟨⟨?_,by rcases hm with rfl | rfl <;> decide⟩,by decide⟩
 unfold goB
 simp only [Bool.and_eq_true,decide_eq_true_eq]
 exact ⟨⟨⟨⟨⟨by simp,by decide⟩,by simp⟩,by simp⟩,hr⟩,by rw [Pt.inB_iff];rcases hm with rfl | rfl <;> decide⟩
theorem ex_go {r m:Int} {k n j:Nat} {x:Pt × Int} (hr:0 <= r/\r <= 65536) (hm:m = 32 \/ m = 160) (hk:k + 1 <= 16) (hn:(m * ((k + 1:Nat):Int)).tdiv 16 = n) (h1:1 <= n) (h2:n <= 20):castF ⟨[⟨0,0,0⟩],[],[],r⟩ ⟨m,0,0⟩ exB (j + 1) k x = if (20 - n - r - 2:Int) < 0 then (k,x) else castF ⟨[⟨0,0,0⟩],[],[],r⟩ ⟨m,0,0⟩ exB j (k + 1) (⟨1048576,0,0⟩,20 - n - r - 2):=by
 have e:apP (trailC ⟨[⟨0,0,0⟩],[],[],r⟩ ⟨m,0,0⟩ ((k:Int) + 1)) exB = (⟨1048576,0,0⟩,20 - n - r - 2):=by
  rw [show ((k:Int) + 1) = ((k + 1:Nat):Int) by omega,ex_trail hr hm hk hn,ex_apP hr h1 h2]
 simp only [castF]
 rw [e]
theorem ex_cast:castR ⟨[⟨0,0,0⟩],[],[],2⟩ ⟨32,0,0⟩ exB = (8,⟨1048576,0,0⟩,0):=by
 unfold castR
 rw [ex_castB (by decide) (Or.inl rfl),if_pos rfl,ex_apP0 (by decide),if_neg (by decide)]
 rw [ex_go (n:=2) (by decide) (Or.inl rfl) (by decide) (by decide) (by decide) (by decide),if_neg (by decide)]
 rw [ex_go (n:=4) (by decide) (Or.inl rfl) (by decide) (by decide) (by decide) (by decide),if_neg (by decide)]
 rw [ex_go (n:=6) (by decide) (Or.inl rfl) (by decide) (by decide) (by decide) (by decide),if_neg (by decide)]
 rw [ex_go (n:=8) (by decide) (Or.inl rfl) (by decide) (by decide) (by decide) (by decide),if_neg (by decide)]
 rw [ex_go (n:=10) (by decide) (Or.inl rfl) (by decide) (by decide) (by decide) (by decide),if_neg (by decide)]
 rw [ex_go (n:=12) (by decide) (Or.inl rfl) (by decide) (by decide) (by decide) (by decide),if_neg (by decide)]
 rw [ex_go (n:=14) (by decide) (Or.inl rfl) (by decide) (by decide) (by decide) (by decide),if_neg (by decide)]
 rw [ex_go (n:=16) (by decide) (Or.inl rfl) (by decide) (by decide) (by decide) (by decide),if_neg (by decide)]
 rw [ex_go (n:=18) (by decide) (Or.inl rfl) (by decide) (by decide) (by decide) (by decide),if_pos (by decide)]
 rfl
theorem ex_rayc:castR (dotC ⟨0,0,0⟩) ⟨160,0,0⟩ exB = (1,⟨1048576,0,0⟩,8):=by
 unfold castR dotC
 rw [ex_castB (by decide) (Or.inr rfl),if_pos rfl,ex_apP0 (by decide),if_neg (by decide)]
 rw [ex_go (n:=10) (by decide) (Or.inr rfl) (by decide) (by decide) (by decide) (by decide),if_neg (by decide)]
 rw [ex_go (n:=20) (by decide) (Or.inr rfl) (by decide) (by decide) (by decide) (by decide),if_pos (by decide)]
 rfl
theorem ex_ray:rayV (dotC ⟨0,0,0⟩) ⟨160,0,0⟩ [exB] = .tuple #[.int .i64 0,.int .i64 1,.bool true]:=by
 have hg:goB (dotC ⟨0,0,0⟩) ⟨160,0,0⟩ = true:=by decide
 have ht:rayT (dotC ⟨0,0,0⟩) ⟨160,0,0⟩ exB = some 1:=by
  unfold rayT
  rw [ex_rayc,show castB (dotC ⟨0,0,0⟩) ⟨160,0,0⟩ exB = true from ex_castB (by decide) (Or.inr rfl)]
  rfl
 unfold rayV
 rw [hg,if_pos rfl]
 have:bestK (rayT (dotC ⟨0,0,0⟩) ⟨160,0,0⟩) rayB [exB] [exB].length = some (0,1):=bestK_first _ _ _ ht rfl
 rw [this]
 rfl
end
end Go.Proofs.YtohbjabihdgjhaaGreat
