/- Package sweep: Trail. -/
import Derived.Test.YtgbofpbidbhleaaGreatSSRays9
import Derived.Test.YtgbofpbidbhleaaGreatSSRays6
set_option maxHeartbeats 16000000
set_option maxRecDepth 100000
set_option linter.unusedVariables false
namespace Go.Proofs.YtgbofpbidbhleaaGreat
section
open Go.RowKit Go.Shelf
structure Tri (w0 W:World) (vp va ve:Value) (P A E:List Pt):Prop where
 rp:W.ownsRow w0.heap.size 23 3 vp P.length (fl3 P)
 ra:W.ownsRow w0.heap.size 23 3 va A.length (fl3 A)
 re:W.ownsRow w0.heap.size 23 3 ve E.length (fl3 E)
 below:Below w0.heap.size w0 W
theorem trail_far {w:World} {base n b:Nat} {t:TypeId} {v:Value} {xs:List Value} {sz:Nat} (h:w.ownsRow base t sz v n xs) (hb:b < base):v.ownBlock ≠ some b:=fun e=>by have:=(h.lt b e).1;omega
theorem trail_cel {W:World} {b c:Nat} {vs:List Value} (h:Cel W b vs) (hne:b ≠ c) (v0 v1 v2 v3:Value):Cel (set4 W c v0 v1 v2 v3) b vs:=fun i v e=>by
 have:=h i v e
 unfold set4
 simp [go_sem,this]
theorem trail_yes {a:Cr} {w:Pt} {k:Int} (h:goB a w = true) (hk:0 <= k/\k <= 16):trailC a w k = ⟨a.P ++ a.P.map (·.mov (wayBy w k)),keepD (a.A ++ a.E.map (fun e=>(e.cross w.short).short)),keepD (a.E ++ [w.short]),a.r⟩:=by unfold trailC;rw [h,decide_eq_true hk];rfl
theorem trail_no {a:Cr} {w:Pt} {k:Int} (h:¬ (goB a w = true/\0 <= k/\k <= 16)):trailC a w k = nilC:=by
 unfold trailC
 rw [if_neg]
 simp only [Bool.and_eq_true,decide_eq_true_eq]
 exact h
theorem wtrail_any (c:Cr) (wy:Pt) (k:Int) (pv av ev:Value) (w0:World) (hp:Lies w0 pv c.P) (ha:Lies w0 av c.A) (he:Lies w0 ev c.E) :
  Calls Tryz.prog 28 #[coreA pv av ev c.r,wy.v,.int .i64 k] w0 fun e W=>∃ vp va ve,e = .returned (coreA vp va ve (trailC c wy k).r)/\Tri w0 W vp va ve (trailC c wy k).P (trailC c wy k).A (trailC c wy k).E:=by
 have HGO:Hid _:=fun (w':World) (h:Below w0.heap.size w0 w')=>wgo_any c wy pv av ev w' (hp.below h) (ha.below h) (he.below h)
 have HBT:Hid _:=fun w'=>wbetween_any k 0 16 w'
 have HSH:Hid _:=fun w'=>short_any wy w'
 have HYES:Hid _:=fun (h:goB c wy = true) (hk:0 <= k/\k <= 16)=>trail_yes h hk
 have HNO:Hid _:=fun (h:¬ (goB c wy = true/\0 <= k/\k <= 16))=>trail_no h
 have HFA:Hid _:=fun (h:goB c wy = true)=>go_parts h
 have HLN:Hid (goB c wy = true->c.A.length <= 128/\c.E.length <= 128):=fun h=>by
  have h9:=(go_parts h).1
  unfold mayC at h9
  simp only [Bool.and_eq_true,decide_eq_true_eq] at h9
  exact ⟨by omega,by omega⟩
 have LP:Hid _:=hp
 have LA:Hid _:=ha
 have LE:Hid _:=he
 obtain ⟨P,A,E,r⟩:=c
 dsimp only at *
 obtain ⟨o,cap,rfl,hlc,hcm,_⟩:=hp.form
 obtain ⟨o2,cap2,rfl,_,_,_⟩:=ha.form
 obtain ⟨o3,cap3,rfl,_,_,_⟩:=he.form
 clear hp ha he hlc hcm
 obtain ⟨TC,hTC⟩:∃ x,trailC ⟨P,A,E,r⟩ wy k = x:=⟨_,rfl⟩
 rw [hTC] at HYES HNO ⊢
 obtain ⟨gb,hgb⟩:∃ x,goB ⟨P,A,E,r⟩ wy = x:=⟨_,rfl⟩
 rw [hgb] at HGO HYES HNO HFA HLN
 have w_k:∀ x,decide (0 <= k/\k <= 16) = x->(x = true ↔ 0 <= k/\k <= 16):=fun x e=>by rw [<- e];simp
 obtain ⟨kb,hkb⟩:∃ x,decide (0 <= k/\k <= 16) = x:=⟨_,rfl⟩
 have HKB:Hid _:=w_k kb hkb
 rw [hkb] at HBT
 clear hTC hgb w_k hkb
 obtain ⟨wx,wY,wz⟩:=wy
 unfold coreA Pt.v at *
 dsimp only at *
 obtain ⟨X0,hX0⟩:∃ V,V = ((w0.alloc (.cells #[.slice o P.length cap,.slice o2 A.length cap2,.slice o3 E.length cap3,.int .i64 r] 35)).alloc (.cells #[.int .i64 wx,.int .i64 wY,.int .i64 wz] 23)).alloc (.cells #[.slice none 0 0,.slice none 0 0,.slice none 0 0,.int .i64 0] 35):=⟨_,rfl⟩
 obtain ⟨ab,hab⟩:∃ b,b = w0.heap.size:=⟨_,rfl⟩
 obtain ⟨wb,hwb⟩:∃ b,b = w0.heap.size + 1:=⟨_,rfl⟩
 obtain ⟨rb,hrb⟩:∃ b,b = w0.heap.size + 1 + 1:=⟨_,rfl⟩
 have n2:=Cel.new (w0.alloc (.cells #[.slice o P.length cap,.slice o2 A.length cap2,.slice o3 E.length cap3,.int .i64 r] 35)) [.int .i64 wx,.int .i64 wY,.int .i64 wz] 23
 rw [World.size_alloc] at n2
 have n3:=CelW.new ((w0.alloc (.cells #[.slice o P.length cap,.slice o2 A.length cap2,.slice o3 E.length cap3,.int .i64 r] 35)).alloc (.cells #[.int .i64 wx,.int .i64 wY,.int .i64 wz] 23)) [.slice none 0 0,.slice none 0 0,.slice none 0 0,.int .i64 0] 35
 rw [World.size_alloc,World.size_alloc] at n3
 have CA:Hid (Cel X0 ab [.slice o P.length cap,.slice o2 A.length cap2,.slice o3 E.length cap3,.int .i64 r]):=by show Cel _ _ _;rw [hX0,hab];exact ((Cel.new w0 [.slice o P.length cap,.slice o2 A.length cap2,.slice o3 E.length cap3,.int .i64 r] 35).step (n_after _ _)).step (n_after _ _)
 have CW:Hid (Cel X0 wb [.int .i64 wx,.int .i64 wY,.int .i64 wz]):=by show Cel _ _ _;rw [hX0,hwb];exact n2.step (n_after _ _)
 have CR:Hid (CelW X0 rb [.slice none 0 0,.slice none 0 0,.slice none 0 0,.int .i64 0]):=by show CelW _ _ _;rw [hX0,hrb];exact n3
 have HXB:Hid (Below w0.heap.size w0 X0):=by show Below _ _ _;rw [hX0];exact b_step (b_step (n_after _ _) (n_after _ _)) (n_after _ _)
 have HR0:Hid (w0.heap.size <= rb):=by show _ <= _;omega
 clear n2 n3
 go_enter Tryz.func28,Tryz.ntmps28
 go_upto_region 1 with fail
 rw [<- hX0,<- hrb,<- hwb,<- hab]
 clear hX0 hab hwb hrb
 have x0:=CA.out 0 _ rfl
 have x1:=CA.out 1 _ rfl
 have x2:=CA.out 2 _ rfl
 have x3:=CA.out 3 _ rfl
 have y0:=CW.out 0 _ rfl
 have y1:=CW.out 1 _ rfl
 have y2:=CW.out 2 _ rfl
 go_wp2_with (fail)
 refine Calls.mono (HGO.out _ HXB.out) ?_
 rintro e V1 ⟨rfl,hb⟩
 have CA:Hid (Cel _ _ _):=CA.out.step hb
 have CW:Hid (Cel _ _ _):=CW.out.step hb
 have CR:Hid (CelW _ _ _):=CR.out.step hb
 have HXB:Hid _:=b_step HXB.out hb
 clear hb x0 x1 x2 x3 y0 y1 y2 HGO
 by_cases hgk:gb = true/\kb = true
 ·obtain ⟨rfl,rfl⟩:=hgk
  have hk:=HKB.out.1 rfl
  have e1:=HYES.out rfl hk
  have HRC:Hid (TC.r = r):=by show _ = _;rw [e1]
  obtain ⟨f1,f2,f3,f4,f5,f6⟩:=HFA.out rfl
  obtain ⟨f7,f8⟩:=HLN.out rfl
  have hbi:=wayBy_in f3 hk
  have HPA:Hid _:=fun w'=>wpart_any ⟨wx,wY,wz⟩ k w' f3 hk
  have HMV:Hid _:=fun (w':World) (h:Below w0.heap.size w0 w')=>wmoved_any P (wayBy ⟨wx,wY,wz⟩ k) _ w' (LP.out.below h) (fun p hp=>inB_mono (f4 p hp) (by decide)) (inB_mono hbi (by decide)) (by omega)
  have HCC:Hid _:=fun (v2:Value) (g:Nat) (w':World) (h:Below w0.heap.size w0 w') (hl:Lies w' v2 (P.map (·.mov (wayBy ⟨wx,wY,wz⟩ k)))) (hc:Cel w' g [.slice o P.length cap,v2])=>wconcat_any P _ _ v2 g w' (LP.out.below h) hl hc (by rw [List.length_map];omega)
  have HAC:Hid _:=fun (w':World) (h:Below w0.heap.size w0 w')=>wacross_any E (Pt.short ⟨wx,wY,wz⟩) _ w' (LE.out.below h) f6 (short_in _) (by omega)
  have HD1:Hid _:=fun (v2:Value) (w':World) (h:Below w0.heap.size w0 w') (hl:Lies w' v2 (E.map (fun e=>(e.cross (Pt.short ⟨wx,wY,wz⟩)).short)))=>wdirs_any A _ _ v2 w' (LA.out.below h) hl (by rw [List.length_map];omega)
  have HD2:Hid _:=fun (v2:Value) (w':World) (h:Below w0.heap.size w0 w') (hl:Lies w' v2 [Pt.short ⟨wx,wY,wz⟩])=>wdirs_any E _ _ v2 w' (LE.out.below h) hl (by simp;omega)
  clear f1 f2 f3 f4 f5 f6 f7 f8 hbi hk HYES HNO HFA HLN HKB LP LA LE
  obtain ⟨TP,hTP⟩:∃ x,P ++ P.map (·.mov (wayBy ⟨wx,wY,wz⟩ k)) = x:=⟨_,rfl⟩
  obtain ⟨TA,hTA⟩:∃ x,keepD (A ++ E.map (fun e=>(e.cross (Pt.short ⟨wx,wY,wz⟩)).short)) = x:=⟨_,rfl⟩
  obtain ⟨TE,hTE⟩:∃ x,keepD (E ++ [Pt.short ⟨wx,wY,wz⟩]) = x:=⟨_,rfl⟩
  have HFT:Hid (∀ W vp va ve,Tri w0 W vp va ve TP TA TE->Tri w0 W vp va ve TC.P TC.A TC.E):=fun W vp va ve h=>by rw [e1];dsimp only;rw [hTP,hTA,hTE];exact h
  rw [hTP] at HCC
  rw [hTA] at HD1
  rw [hTE] at HD2
  obtain ⟨MV,hMV⟩:∃ x,P.map (·.mov (wayBy ⟨wx,wY,wz⟩ k)) = x:=⟨_,rfl⟩
  obtain ⟨AC,hAC⟩:∃ x,E.map (fun e=>(e.cross (Pt.short ⟨wx,wY,wz⟩)).short) = x:=⟨_,rfl⟩
  rw [hMV] at HCC HMV
  rw [hAC] at HAC HD1
  clear hTP hTA hTE hMV hAC e1
  obtain ⟨⟨bx,bY,bz⟩,hby⟩:∃ x,wayBy ⟨wx,wY,wz⟩ k = x:=⟨_,rfl⟩
  obtain ⟨⟨lx,ly,lz⟩,hls⟩:∃ x,Pt.short ⟨wx,wY,wz⟩ = x:=⟨_,rfl⟩
  rw [hby] at HPA HMV
  rw [hls] at HAC HD2 HSH
  obtain ⟨LL,hLL⟩:∃ x,([⟨lx,ly,lz⟩]:List Pt) = x:=⟨_,rfl⟩
  rw [hLL] at HD2
  have HLL:Hid (LL = [⟨lx,ly,lz⟩]):=hLL.symm
  clear hby hls hLL
  unfold Pt.v at *
  dsimp only at *
  go_wp2_with (fail)
  refine Calls.mono (HBT.out _) ?_
  rintro e V2 ⟨rfl,rfl⟩
  have y0:=CW.out 0 _ rfl
  have y1:=CW.out 1 _ rfl
  have y2:=CW.out 2 _ rfl
  go_wp2_with (fail)
  refine Calls.mono (HSH.out _) ?_
  rintro e V3 ⟨rfl,hb⟩
  have CA:Hid (Cel _ _ _):=CA.out.step hb
  have CW:Hid (Cel _ _ _):=CW.out.step hb
  have CR:Hid (CelW _ _ _):=CR.out.step hb
  have HXB:Hid _:=b_step HXB.out hb
  clear hb y0 y1 y2 HSH HBT
  obtain ⟨X,hX⟩:∃ V,V = V3.alloc (.cells #[.int .i64 lx,.int .i64 ly,.int .i64 lz] 23):=⟨_,rfl⟩
  obtain ⟨lb,hlb⟩:∃ b,b = V3.heap.size:=⟨_,rfl⟩
  have hbx:Below V3.heap.size V3 X:=by rw [hX];exact n_after _ _
  have CL:Hid (Cel X lb [.int .i64 lx,.int .i64 ly,.int .i64 lz]):=by show Cel _ _ _;rw [hX,hlb];exact Cel.new V3 [.int .i64 lx,.int .i64 ly,.int .i64 lz] _
  go_upto_region 4 with fail
  rw [<- hX,<- hlb]
  have CA:Hid (Cel _ _ _):=CA.out.step hbx
  have CW:Hid (Cel _ _ _):=CW.out.step hbx
  have CR:Hid (CelW _ _ _):=CR.out.step hbx
  have HXB:Hid _:=b_step HXB.out hbx
  have HRB:Hid (rb < X.heap.size):=CR.out.lt
  have HMV:Hid _:=fun (w':World) (h:Below X.heap.size X w')=>HMV.out w' (b_step HXB.out h)
  have HCC:Hid _:=fun (v2:Value) (g:Nat) (w':World) (h:Below X.heap.size X w')=>HCC.out v2 g w' (b_step HXB.out h)
  have HAC:Hid _:=fun (w':World) (h:Below X.heap.size X w')=>HAC.out w' (b_step HXB.out h)
  have HD1:Hid _:=fun (v2:Value) (w':World) (h:Below X.heap.size X w')=>HD1.out v2 w' (b_step HXB.out h)
  have HD2:Hid _:=fun (v2:Value) (w':World) (h:Below X.heap.size X w')=>HD2.out v2 w' (b_step HXB.out h)
  clear hX hlb hbx
  refine RV.region_by (fun j v w=>match j with | 0=>v = .pointer (some ⟨ab,0,none⟩) | 1=>v = .slice o P.length cap | 2=>v = .pointer (some ⟨ab,0,none⟩) | 3=>v = .slice o P.length cap | 4=>v = .agg #[.int .i64 wx,.int .i64 wY,.int .i64 wz] | 5=>v = .int .i64 k | 6=>v = .agg #[.int .i64 bx,.int .i64 bY,.int .i64 bz] | 7=>(fun v w=>w.ownsRow X.heap.size 23 3 v MV.length (fl3 MV)) v w | 8=>(fun v w=>∃ g v2,v = .slice (some ⟨g,0,none⟩) 2 2/\X.heap.size <= g/\Cel w g [.slice o P.length cap,v2]/\w.ownsRow X.heap.size 23 3 v2 MV.length (fl3 MV)) v w | 9=>(fun v w=>w.ownsRow X.heap.size 23 3 v TP.length (fl3 TP)) v w | 10=>v = .pointer (some ⟨ab,1,none⟩) | 11=>v = .slice o2 A.length cap2 | 12=>v = .pointer (some ⟨ab,2,none⟩) | 13=>v = .slice o3 E.length cap3 | 14=>v = .agg #[.int .i64 lx,.int .i64 ly,.int .i64 lz] | 15=>(fun v w=>w.ownsRow X.heap.size 23 3 v AC.length (fl3 AC)) v w | 16=>(fun v w=>w.ownsRow X.heap.size 23 3 v TA.length (fl3 TA)) v w | 17=>v = .pointer (some ⟨ab,2,none⟩) | 18=>v = .slice o3 E.length cap3 | 19=>v = .agg #[.int .i64 lx,.int .i64 ly,.int .i64 lz] | 20=>(fun v w=>w.ownsRow X.heap.size 23 3 v LL.length (fl3 LL)) v w | 21=>(fun v w=>w.ownsRow X.heap.size 23 3 v TE.length (fl3 TE)) v w | 22=>v = .pointer (some ⟨ab,3,none⟩) | 23=>v = .int .i64 r | 24=>(fun v w=>∃ vp va ve,v = .agg #[vp,va,ve,.int .i64 r]/\w.ownsRow X.heap.size 23 3 vp TP.length (fl3 TP)/\w.ownsRow X.heap.size 23 3 va TA.length (fl3 TA)/\w.ownsRow X.heap.size 23 3 ve TE.length (fl3 TE)) v w | 25=>True | _=>True) (fun γ L w=>(L 25 = false/\Below X.heap.size X w) \/ (L 25 = true/\∃ w8 vp va ve,Below X.heap.size X w8/\w8.ownsRow X.heap.size 23 3 vp TP.length (fl3 TP)/\w8.ownsRow X.heap.size 23 3 va TA.length (fl3 TA)/\w8.ownsRow X.heap.size 23 3 ve TE.length (fl3 TE)/\w = set4 w8 rb vp va ve (.int .i64 r))) (by kernel_rfl) (by kernel_rfl) (by kernel_rfl) (by kernel_rfl) ?_ ?_ ?_
  ·exact Or.inl ⟨rfl,(Below.refl _ X).drew⟩
  ·generalize hD:dstOf _ = D
   generalize hWA:waitsFor _ = WA
   generalize hZ:Act.mk _ _ = Z
   refine RV.AllDo.name ?_
   intro R hR
   have d0:D 0 = some 20:=by rw [<- hD];rfl
   have d1:D 1 = some 21:=by rw [<- hD];rfl
   have d2:D 2 = some 22:=by rw [<- hD];rfl
   have d3:D 3 = some 23:=by rw [<- hD];rfl
   have d4:D 4 = some 24:=by rw [<- hD];rfl
   have d5:D 5 = some 25:=by rw [<- hD];rfl
   have d6:D 6 = some 26:=by rw [<- hD];rfl
   have d7:D 7 = some 27:=by rw [<- hD];rfl
   have d8:D 8 = some 28:=by rw [<- hD];rfl
   have d9:D 9 = some 29:=by rw [<- hD];rfl
   have d10:D 10 = some 30:=by rw [<- hD];rfl
   have d11:D 11 = some 31:=by rw [<- hD];rfl
   have d12:D 12 = some 32:=by rw [<- hD];rfl
   have d13:D 13 = some 33:=by rw [<- hD];rfl
   have d14:D 14 = some 34:=by rw [<- hD];rfl
   have d15:D 15 = some 35:=by rw [<- hD];rfl
   have d16:D 16 = some 36:=by rw [<- hD];rfl
   have d17:D 17 = some 37:=by rw [<- hD];rfl
   have d18:D 18 = some 38:=by rw [<- hD];rfl
   have d19:D 19 = some 39:=by rw [<- hD];rfl
   have d20:D 20 = some 40:=by rw [<- hD];rfl
   have d21:D 21 = some 41:=by rw [<- hD];rfl
   have d22:D 22 = some 42:=by rw [<- hD];rfl
   have d23:D 23 = some 43:=by rw [<- hD];rfl
   have d24:D 24 = some 44:=by rw [<- hD];rfl
   have r0:∀ v w,R 0 v w = (v = .pointer (some ⟨ab,0,none⟩)):=fun v w=>by rw [hR];rfl
   have r1:∀ v w,R 1 v w = (v = .slice o P.length cap):=fun v w=>by rw [hR];rfl
   have r2:∀ v w,R 2 v w = (v = .pointer (some ⟨ab,0,none⟩)):=fun v w=>by rw [hR];rfl
   have r3:∀ v w,R 3 v w = (v = .slice o P.length cap):=fun v w=>by rw [hR];rfl
   have r4:∀ v w,R 4 v w = (v = .agg #[.int .i64 wx,.int .i64 wY,.int .i64 wz]):=fun v w=>by rw [hR];rfl
   have r5:∀ v w,R 5 v w = (v = .int .i64 k):=fun v w=>by rw [hR];rfl
   have r6:∀ v w,R 6 v w = (v = .agg #[.int .i64 bx,.int .i64 bY,.int .i64 bz]):=fun v w=>by rw [hR];rfl
   have r7:∀ v w,R 7 v w = ((fun v w=>w.ownsRow X.heap.size 23 3 v MV.length (fl3 MV)) v w):=fun v w=>by rw [hR];rfl
   have r8:∀ v w,R 8 v w = ((fun v w=>∃ g v2,v = .slice (some ⟨g,0,none⟩) 2 2/\X.heap.size <= g/\Cel w g [.slice o P.length cap,v2]/\w.ownsRow X.heap.size 23 3 v2 MV.length (fl3 MV)) v w):=fun v w=>by rw [hR];rfl
   have r9:∀ v w,R 9 v w = ((fun v w=>w.ownsRow X.heap.size 23 3 v TP.length (fl3 TP)) v w):=fun v w=>by rw [hR];rfl
   have r10:∀ v w,R 10 v w = (v = .pointer (some ⟨ab,1,none⟩)):=fun v w=>by rw [hR];rfl
   have r11:∀ v w,R 11 v w = (v = .slice o2 A.length cap2):=fun v w=>by rw [hR];rfl
   have r12:∀ v w,R 12 v w = (v = .pointer (some ⟨ab,2,none⟩)):=fun v w=>by rw [hR];rfl
   have r13:∀ v w,R 13 v w = (v = .slice o3 E.length cap3):=fun v w=>by rw [hR];rfl
   have r14:∀ v w,R 14 v w = (v = .agg #[.int .i64 lx,.int .i64 ly,.int .i64 lz]):=fun v w=>by rw [hR];rfl
   have r15:∀ v w,R 15 v w = ((fun v w=>w.ownsRow X.heap.size 23 3 v AC.length (fl3 AC)) v w):=fun v w=>by rw [hR];rfl
   have r16:∀ v w,R 16 v w = ((fun v w=>w.ownsRow X.heap.size 23 3 v TA.length (fl3 TA)) v w):=fun v w=>by rw [hR];rfl
   have r17:∀ v w,R 17 v w = (v = .pointer (some ⟨ab,2,none⟩)):=fun v w=>by rw [hR];rfl
   have r18:∀ v w,R 18 v w = (v = .slice o3 E.length cap3):=fun v w=>by rw [hR];rfl
   have r19:∀ v w,R 19 v w = (v = .agg #[.int .i64 lx,.int .i64 ly,.int .i64 lz]):=fun v w=>by rw [hR];rfl
   have r20:∀ v w,R 20 v w = ((fun v w=>w.ownsRow X.heap.size 23 3 v LL.length (fl3 LL)) v w):=fun v w=>by rw [hR];rfl
   have r21:∀ v w,R 21 v w = ((fun v w=>w.ownsRow X.heap.size 23 3 v TE.length (fl3 TE)) v w):=fun v w=>by rw [hR];rfl
   have r22:∀ v w,R 22 v w = (v = .pointer (some ⟨ab,3,none⟩)):=fun v w=>by rw [hR];rfl
   have r23:∀ v w,R 23 v w = (v = .int .i64 r):=fun v w=>by rw [hR];rfl
   have r24:∀ v w,R 24 v w = ((fun v w=>∃ vp va ve,v = .agg #[vp,va,ve,.int .i64 r]/\w.ownsRow X.heap.size 23 3 vp TP.length (fl3 TP)/\w.ownsRow X.heap.size 23 3 va TA.length (fl3 TA)/\w.ownsRow X.heap.size 23 3 ve TE.length (fl3 TE)) v w):=fun v w=>by rw [hR];rfl
   have r25:∀ v w,R 25 v w = (True):=fun v w=>by rw [hR];rfl
   have F2_:∀ j,D j ≠ some 2:=by rw [<- hD];exact RV.dst_free (by kernel_rfl)
   have Z2_:Z.tmps[2]? = some (.int .i64 k):=by rw [<- hZ];rfl
   have F3_:∀ j,D j ≠ some 3:=by rw [<- hD];exact RV.dst_free (by kernel_rfl)
   have Z3_:Z.tmps[3]? = some (.pointer (some ⟨ab,0,none⟩)):=by rw [<- hZ];rfl
   have F4_:∀ j,D j ≠ some 4:=by rw [<- hD];exact RV.dst_free (by kernel_rfl)
   have Z4_:Z.tmps[4]? = some (.pointer (some ⟨wb,0,none⟩)):=by rw [<- hZ];rfl
   have F6_:∀ j,D j ≠ some 6:=by rw [<- hD];exact RV.dst_free (by kernel_rfl)
   have Z6_:Z.tmps[6]? = some (.pointer (some ⟨rb,0,none⟩)):=by rw [<- hZ];rfl
   have F7_:∀ j,D j ≠ some 7:=by rw [<- hD];exact RV.dst_free (by kernel_rfl)
   have Z7_:Z.tmps[7]? = some (.pointer (some ⟨lb,0,none⟩)):=by rw [<- hZ];rfl
   have K:∀ j v w w',Below w.heap.size w w'->R j v w->R j v w':=by
    intro j v w w' hb h
    rw [hR] at h ⊢
    match j with
    | 0=>exact h
    | 1=>exact h
    | 2=>exact h
    | 3=>exact h
    | 4=>exact h
    | 5=>exact h
    | 6=>exact h
    | 7=>exact own_below h hb
    | 8=>obtain ⟨g,v2,h1,h2,h3,h4⟩:=h;exact ⟨g,v2,h1,h2,h3.step hb,own_below h4 hb⟩
    | 9=>exact own_below h hb
    | 10=>exact h
    | 11=>exact h
    | 12=>exact h
    | 13=>exact h
    | 14=>exact h
    | 15=>exact own_below h hb
    | 16=>exact own_below h hb
    | 17=>exact h
    | 18=>exact h
    | 19=>exact h
    | 20=>exact own_below h hb
    | 21=>exact own_below h hb
    | 22=>exact h
    | 23=>exact h
    | 24=>obtain ⟨vp,va,ve,h1,h2,h3,h4⟩:=h;exact ⟨vp,va,ve,h1,own_below h2 hb,own_below h3 hb,own_below h4 hb⟩
    | 25=>exact h
    | (_ + 26)=>trivial
   have K4:∀ j v w a1 a2 a3 a4,R j v w->R j v (set4 w rb a1 a2 a3 a4):=by
    intro j v w a1 a2 a3 a4 h
    rw [hR] at h ⊢
    match j with
    | 0=>exact h
    | 1=>exact h
    | 2=>exact h
    | 3=>exact h
    | 4=>exact h
    | 5=>exact h
    | 6=>exact h
    | 7=>exact own_set4 h (trail_far h HRB.out) _ _ _ _
    | 8=>obtain ⟨g,v2,h1,h2,h3,h4⟩:=h;exact ⟨g,v2,h1,h2,trail_cel h3 (by have:=HRB.out;omega) _ _ _ _,own_set4 h4 (trail_far h4 HRB.out) _ _ _ _⟩
    | 9=>exact own_set4 h (trail_far h HRB.out) _ _ _ _
    | 10=>exact h
    | 11=>exact h
    | 12=>exact h
    | 13=>exact h
    | 14=>exact h
    | 15=>exact own_set4 h (trail_far h HRB.out) _ _ _ _
    | 16=>exact own_set4 h (trail_far h HRB.out) _ _ _ _
    | 17=>exact h
    | 18=>exact h
    | 19=>exact h
    | 20=>exact own_set4 h (trail_far h HRB.out) _ _ _ _
    | 21=>exact own_set4 h (trail_far h HRB.out) _ _ _ _
    | 22=>exact h
    | 23=>exact h
    | 24=>obtain ⟨vp,va,ve,h1,h2,h3,h4⟩:=h;exact ⟨vp,va,ve,h1,own_set4 h2 (trail_far h2 HRB.out) _ _ _ _,own_set4 h3 (trail_far h3 HRB.out) _ _ _ _,own_set4 h4 (trail_far h4 HRB.out) _ _ _ _⟩
    | 25=>exact h
    | (_ + 26)=>trivial
   have A_25_1:WA 25 1:=by rw [<- hWA];exact ⟨_,rfl,⟨1,.phase⟩,by simp,rfl,rfl⟩
   have A_25_3:WA 25 3:=by rw [<- hWA];exact ⟨_,rfl,⟨3,.phase⟩,by simp,rfl,rfl⟩
   have A_25_4:WA 25 4:=by rw [<- hWA];exact ⟨_,rfl,⟨4,.phase⟩,by simp,rfl,rfl⟩
   have A_25_6:WA 25 6:=by rw [<- hWA];exact ⟨_,rfl,⟨6,.phase⟩,by simp,rfl,rfl⟩
   have A_25_7:WA 25 7:=by rw [<- hWA];exact ⟨_,rfl,⟨7,.phase⟩,by simp,rfl,rfl⟩
   have A_25_8:WA 25 8:=by rw [<- hWA];exact ⟨_,rfl,⟨8,.phase⟩,by simp,rfl,rfl⟩
   have A_25_9:WA 25 9:=by rw [<- hWA];exact ⟨_,rfl,⟨9,.phase⟩,by simp,rfl,rfl⟩
   have A_25_11:WA 25 11:=by rw [<- hWA];exact ⟨_,rfl,⟨11,.phase⟩,by simp,rfl,rfl⟩
   have A_25_13:WA 25 13:=by rw [<- hWA];exact ⟨_,rfl,⟨13,.phase⟩,by simp,rfl,rfl⟩
   have A_25_14:WA 25 14:=by rw [<- hWA];exact ⟨_,rfl,⟨14,.phase⟩,by simp,rfl,rfl⟩
   have A_25_15:WA 25 15:=by rw [<- hWA];exact ⟨_,rfl,⟨15,.phase⟩,by simp,rfl,rfl⟩
   have A_25_16:WA 25 16:=by rw [<- hWA];exact ⟨_,rfl,⟨16,.phase⟩,by simp,rfl,rfl⟩
   have A_25_18:WA 25 18:=by rw [<- hWA];exact ⟨_,rfl,⟨18,.phase⟩,by simp,rfl,rfl⟩
   have A_25_19:WA 25 19:=by rw [<- hWA];exact ⟨_,rfl,⟨19,.phase⟩,by simp,rfl,rfl⟩
   have A_25_20:WA 25 20:=by rw [<- hWA];exact ⟨_,rfl,⟨20,.phase⟩,by simp,rfl,rfl⟩
   have A_25_21:WA 25 21:=by rw [<- hWA];exact ⟨_,rfl,⟨21,.phase⟩,by simp,rfl,rfl⟩
   have A_25_23:WA 25 23:=by rw [<- hWA];exact ⟨_,rfl,⟨23,.phase⟩,by simp,rfl,rfl⟩
   have A_25_24:WA 25 24:=by rw [<- hWA];exact ⟨_,rfl,⟨24,.phase⟩,by simp,rfl,rfl⟩
   clear hD hWA hZ hR
   refine RV.cc 0 (RV.dp (fun γ v L w hl h=>by rw [RV.mn (L:=L) (i:=0) (j:=25) (by decide)];exact h) (fun γ L a w hH hl hA=>by have e0:=((hH.rest 3 F3_).trans Z3_);exact ⟨.pointer (some ⟨ab,0,none⟩),by simp [execOp,go_sem,e0],(r0 _ _).mpr rfl⟩)) ?_
   refine RV.cc 1 (RV.dp (fun γ v L w hl h=>by rw [RV.mn (L:=L) (i:=1) (j:=25) (by decide)];exact h) (fun γ L a w hH hl hA=>by have e0:=hH.got d0 r0 (hA ⟨0,.data⟩ (by simp) rfl);have hB9:=early9 hH.glob (RV.ny hH A_25_1 hl);have wz0:=Cel.step CA.out hB9 0 _ rfl;exact ⟨.slice o P.length cap,by simp [execOp,go_sem,e0,wz0],(r1 _ _).mpr rfl⟩)) ?_
   refine RV.cc 2 (RV.dp (fun γ v L w hl h=>by rw [RV.mn (L:=L) (i:=2) (j:=25) (by decide)];exact h) (fun γ L a w hH hl hA=>by have e0:=((hH.rest 3 F3_).trans Z3_);exact ⟨.pointer (some ⟨ab,0,none⟩),by simp [execOp,go_sem,e0],(r2 _ _).mpr rfl⟩)) ?_
   refine RV.cc 3 (RV.dp (fun γ v L w hl h=>by rw [RV.mn (L:=L) (i:=3) (j:=25) (by decide)];exact h) (fun γ L a w hH hl hA=>by have e0:=hH.got d2 r2 (hA ⟨2,.data⟩ (by simp) rfl);have hB9:=early9 hH.glob (RV.ny hH A_25_3 hl);have wz0:=Cel.step CA.out hB9 0 _ rfl;exact ⟨.slice o P.length cap,by simp [execOp,go_sem,e0,wz0],(r3 _ _).mpr rfl⟩)) ?_
   refine RV.cc 4 (RV.dp (fun γ v L w hl h=>by rw [RV.mn (L:=L) (i:=4) (j:=25) (by decide)];exact h) (fun γ L a w hH hl hA=>by have e0:=((hH.rest 4 F4_).trans Z4_);have hB9:=early9 hH.glob (RV.ny hH A_25_4 hl);have wz0:=Cel.step CW.out hB9 0 _ rfl;have wz1:=Cel.step CW.out hB9 1 _ rfl;have wz2:=Cel.step CW.out hB9 2 _ rfl;exact ⟨.agg #[.int .i64 wx,.int .i64 wY,.int .i64 wz],by simp [execOp,go_sem,e0,wz0,wz1,wz2],(r4 _ _).mpr rfl⟩)) ?_
   refine RV.cc 5 (RV.dp (fun γ v L w hl h=>by rw [RV.mn (L:=L) (i:=5) (j:=25) (by decide)];exact h) (fun γ L a w hH hl hA=>by have e0:=((hH.rest 2 F2_).trans Z2_);exact ⟨.int .i64 k,by simp [execOp,go_sem,e0],(r5 _ _).mpr rfl⟩)) ?_
   refine RV.cc 6 (RV.dc (fun γ L a w hH hl hA=>by have e0:=hH.got d4 r4 (hA ⟨4,.data⟩ (by simp) rfl);have e1:=hH.got d5 r5 (hA ⟨5,.data⟩ (by simp) rfl);have hB9:=early9 hH.glob (RV.ny hH A_25_6 hl);exact ⟨71,#[.agg #[.int .i64 wx,.int .i64 wY,.int .i64 wz],.int .i64 k],by simp [go_sem,e0,e1],Calls.mono (HPA.out w) (by rintro e w2 ⟨rfl,hb9⟩;exact ⟨_,rfl,(r6 _ _).mpr rfl,fun j v _ h=>K j v _ _ hb9 h,Or.inl ⟨by rw [RV.mn (L:=L) (i:=6) (j:=25) (by decide)];exact RV.ny hH A_25_6 hl,b_step hB9 hb9⟩⟩)⟩)) ?_
   refine RV.cc 7 (RV.dc (fun γ L a w hH hl hA=>by have e0:=hH.got d3 r3 (hA ⟨3,.data⟩ (by simp) rfl);have e1:=hH.got d6 r6 (hA ⟨6,.data⟩ (by simp) rfl);have hB9:=early9 hH.glob (RV.ny hH A_25_7 hl);exact ⟨37,#[.slice o P.length cap,.agg #[.int .i64 bx,.int .i64 bY,.int .i64 bz]],by simp [go_sem,e0,e1],Calls.mono (HMV.out w hB9) (by rintro e w2 ⟨u,rfl,hrow⟩;have hb9:=hrow.below;exact ⟨_,rfl,(r7 _ _).mpr (own_le hrow.row hB9.size),fun j v _ h=>K j v _ _ hb9 h,Or.inl ⟨by rw [RV.mn (L:=L) (i:=7) (j:=25) (by decide)];exact RV.ny hH A_25_7 hl,b_step hB9 hb9⟩⟩)⟩)) ?_
   refine RV.cc 8 (RV.does_step (fun γ L a w hH hl hA=>by have e0:=hH.got d1 r1 (hA ⟨1,.data⟩ (by simp) rfl);have l1:L 7 = true:=hA ⟨7,.data⟩ (by simp) rfl;have e1:=hH.slot 7 27 d7 l1;have g1:=hH.holds 7 l1;rw [r7] at g1;have hB9:=early9 hH.glob (RV.ny hH A_25_8 hl);obtain ⟨om,cm,ev2⟩:=rowp_form g1;rw [ev2] at e1 g1;have hb9:=n_after w (.cells #[.slice o P.length cap,.slice om MV.length cm] 24);exact ⟨.slice (some ⟨w.heap.size,0,none⟩) 2 2,w.alloc (.cells #[.slice o P.length cap,.slice om MV.length cm] 24),by simp [execOp,go_sem,e0,e1],(r8 _ _).mpr ⟨_,_,rfl,hB9.size,Cel.new w [.slice o P.length cap,.slice om MV.length cm] _,own_below g1 hb9⟩,fun j v _ h=>K j v _ _ hb9 h,Or.inl ⟨by rw [RV.mn (L:=L) (i:=8) (j:=25) (by decide)];exact RV.ny hH A_25_8 hl,b_step hB9 hb9⟩⟩)) ?_
   refine RV.cc 9 (RV.dc (fun γ L a w hH hl hA=>by have l0:L 8 = true:=hA ⟨8,.data⟩ (by simp) rfl;have e0:=hH.slot 8 28 d8 l0;have g0:=hH.holds 8 l0;rw [r8] at g0;have hB9:=early9 hH.glob (RV.ny hH A_25_9 hl);obtain ⟨g,v2,hv,hg,hc,ho2⟩:=g0;rw [hv] at e0;exact ⟨70,#[.slice (some ⟨g,0,none⟩) 2 2],by simp [go_sem,e0],Calls.mono (HCC.out v2 g w hB9 (Lies.of_row ho2) hc) (by rintro e w2 ⟨u,rfl,hrow⟩;have hb9:=hrow.below;exact ⟨_,rfl,(r9 _ _).mpr (own_le hrow.row hB9.size),fun j v _ h=>K j v _ _ hb9 h,Or.inl ⟨by rw [RV.mn (L:=L) (i:=9) (j:=25) (by decide)];exact RV.ny hH A_25_9 hl,b_step hB9 hb9⟩⟩)⟩)) ?_
   refine RV.cc 10 (RV.dp (fun γ v L w hl h=>by rw [RV.mn (L:=L) (i:=10) (j:=25) (by decide)];exact h) (fun γ L a w hH hl hA=>by have e0:=((hH.rest 3 F3_).trans Z3_);exact ⟨.pointer (some ⟨ab,1,none⟩),by simp [execOp,go_sem,e0],(r10 _ _).mpr rfl⟩)) ?_
   refine RV.cc 11 (RV.dp (fun γ v L w hl h=>by rw [RV.mn (L:=L) (i:=11) (j:=25) (by decide)];exact h) (fun γ L a w hH hl hA=>by have e0:=hH.got d10 r10 (hA ⟨10,.data⟩ (by simp) rfl);have hB9:=early9 hH.glob (RV.ny hH A_25_11 hl);have wz0:=Cel.step CA.out hB9 1 _ rfl;exact ⟨.slice o2 A.length cap2,by simp [execOp,go_sem,e0,wz0],(r11 _ _).mpr rfl⟩)) ?_
   refine RV.cc 12 (RV.dp (fun γ v L w hl h=>by rw [RV.mn (L:=L) (i:=12) (j:=25) (by decide)];exact h) (fun γ L a w hH hl hA=>by have e0:=((hH.rest 3 F3_).trans Z3_);exact ⟨.pointer (some ⟨ab,2,none⟩),by simp [execOp,go_sem,e0],(r12 _ _).mpr rfl⟩)) ?_
   refine RV.cc 13 (RV.dp (fun γ v L w hl h=>by rw [RV.mn (L:=L) (i:=13) (j:=25) (by decide)];exact h) (fun γ L a w hH hl hA=>by have e0:=hH.got d12 r12 (hA ⟨12,.data⟩ (by simp) rfl);have hB9:=early9 hH.glob (RV.ny hH A_25_13 hl);have wz0:=Cel.step CA.out hB9 2 _ rfl;exact ⟨.slice o3 E.length cap3,by simp [execOp,go_sem,e0,wz0],(r13 _ _).mpr rfl⟩)) ?_
   refine RV.cc 14 (RV.dp (fun γ v L w hl h=>by rw [RV.mn (L:=L) (i:=14) (j:=25) (by decide)];exact h) (fun γ L a w hH hl hA=>by have e0:=((hH.rest 7 F7_).trans Z7_);have hB9:=early9 hH.glob (RV.ny hH A_25_14 hl);have wz0:=Cel.step CL.out hB9 0 _ rfl;have wz1:=Cel.step CL.out hB9 1 _ rfl;have wz2:=Cel.step CL.out hB9 2 _ rfl;exact ⟨.agg #[.int .i64 lx,.int .i64 ly,.int .i64 lz],by simp [execOp,go_sem,e0,wz0,wz1,wz2],(r14 _ _).mpr rfl⟩)) ?_
   refine RV.cc 15 (RV.dc (fun γ L a w hH hl hA=>by have e0:=hH.got d13 r13 (hA ⟨13,.data⟩ (by simp) rfl);have e1:=hH.got d14 r14 (hA ⟨14,.data⟩ (by simp) rfl);have hB9:=early9 hH.glob (RV.ny hH A_25_15 hl);exact ⟨73,#[.slice o3 E.length cap3,.agg #[.int .i64 lx,.int .i64 ly,.int .i64 lz]],by simp [go_sem,e0,e1],Calls.mono (HAC.out w hB9) (by rintro e w2 ⟨u,rfl,hrow⟩;have hb9:=hrow.below;exact ⟨_,rfl,(r15 _ _).mpr (own_le hrow.row hB9.size),fun j v _ h=>K j v _ _ hb9 h,Or.inl ⟨by rw [RV.mn (L:=L) (i:=15) (j:=25) (by decide)];exact RV.ny hH A_25_15 hl,b_step hB9 hb9⟩⟩)⟩)) ?_
   refine RV.cc 16 (RV.dc (fun γ L a w hH hl hA=>by have e0:=hH.got d11 r11 (hA ⟨11,.data⟩ (by simp) rfl);have l1:L 15 = true:=hA ⟨15,.data⟩ (by simp) rfl;have e1:=hH.slot 15 35 d15 l1;have g1:=hH.holds 15 l1;rw [r15] at g1;have hB9:=early9 hH.glob (RV.ny hH A_25_16 hl);exact ⟨72,#[.slice o2 A.length cap2,γ 15],by simp [go_sem,e0,e1],Calls.mono (HD1.out _ w hB9 (Lies.of_row g1)) (by rintro e w2 ⟨u,rfl,hrow⟩;have hb9:=hrow.below;exact ⟨_,rfl,(r16 _ _).mpr (own_le hrow.row hB9.size),fun j v _ h=>K j v _ _ hb9 h,Or.inl ⟨by rw [RV.mn (L:=L) (i:=16) (j:=25) (by decide)];exact RV.ny hH A_25_16 hl,b_step hB9 hb9⟩⟩)⟩)) ?_
   refine RV.cc 17 (RV.dp (fun γ v L w hl h=>by rw [RV.mn (L:=L) (i:=17) (j:=25) (by decide)];exact h) (fun γ L a w hH hl hA=>by have e0:=((hH.rest 3 F3_).trans Z3_);exact ⟨.pointer (some ⟨ab,2,none⟩),by simp [execOp,go_sem,e0],(r17 _ _).mpr rfl⟩)) ?_
   refine RV.cc 18 (RV.dp (fun γ v L w hl h=>by rw [RV.mn (L:=L) (i:=18) (j:=25) (by decide)];exact h) (fun γ L a w hH hl hA=>by have e0:=hH.got d17 r17 (hA ⟨17,.data⟩ (by simp) rfl);have hB9:=early9 hH.glob (RV.ny hH A_25_18 hl);have wz0:=Cel.step CA.out hB9 2 _ rfl;exact ⟨.slice o3 E.length cap3,by simp [execOp,go_sem,e0,wz0],(r18 _ _).mpr rfl⟩)) ?_
   refine RV.cc 19 (RV.dp (fun γ v L w hl h=>by rw [RV.mn (L:=L) (i:=19) (j:=25) (by decide)];exact h) (fun γ L a w hH hl hA=>by have e0:=((hH.rest 7 F7_).trans Z7_);have hB9:=early9 hH.glob (RV.ny hH A_25_19 hl);have wz0:=Cel.step CL.out hB9 0 _ rfl;have wz1:=Cel.step CL.out hB9 1 _ rfl;have wz2:=Cel.step CL.out hB9 2 _ rfl;exact ⟨.agg #[.int .i64 lx,.int .i64 ly,.int .i64 lz],by simp [execOp,go_sem,e0,wz0,wz1,wz2],(r19 _ _).mpr rfl⟩)) ?_
   refine RV.cc 20 (RV.does_step (fun γ L a w hH hl hA=>by have e0:=hH.got d19 r19 (hA ⟨19,.data⟩ (by simp) rfl);have hB9:=early9 hH.glob (RV.ny hH A_25_20 hl);have hb9:=n_after w (.cells #[.int .i64 lx,.int .i64 ly,.int .i64 lz] 23);exact ⟨.slice (some ⟨w.heap.size,0,none⟩) 1 1,w.alloc (.cells #[.int .i64 lx,.int .i64 ly,.int .i64 lz] 23),by simp [execOp,go_sem,e0],(r20 _ _).mpr (by rw [HLL.out];exact ⟨rfl,Or.inr ⟨w.heap.size,1,#[.int .i64 lx,.int .i64 ly,.int .i64 lz],rfl,hB9.size,heap_alloc_new w _,Nat.le_refl _,by unfold maxLen;omega,rfl,rfl⟩⟩),fun j v _ h=>K j v _ _ hb9 h,Or.inl ⟨by rw [RV.mn (L:=L) (i:=20) (j:=25) (by decide)];exact RV.ny hH A_25_20 hl,b_step hB9 hb9⟩⟩)) ?_
   refine RV.cc 21 (RV.dc (fun γ L a w hH hl hA=>by have e0:=hH.got d18 r18 (hA ⟨18,.data⟩ (by simp) rfl);have l1:L 20 = true:=hA ⟨20,.data⟩ (by simp) rfl;have e1:=hH.slot 20 40 d20 l1;have g1:=hH.holds 20 l1;rw [r20] at g1;have hB9:=early9 hH.glob (RV.ny hH A_25_21 hl);exact ⟨72,#[.slice o3 E.length cap3,γ 20],by simp [go_sem,e0,e1],Calls.mono (HD2.out _ w hB9 (Lies.of_row g1)) (by rintro e w2 ⟨u,rfl,hrow⟩;have hb9:=hrow.below;exact ⟨_,rfl,(r21 _ _).mpr (own_le hrow.row hB9.size),fun j v _ h=>K j v _ _ hb9 h,Or.inl ⟨by rw [RV.mn (L:=L) (i:=21) (j:=25) (by decide)];exact RV.ny hH A_25_21 hl,b_step hB9 hb9⟩⟩)⟩)) ?_
   refine RV.cc 22 (RV.dp (fun γ v L w hl h=>by rw [RV.mn (L:=L) (i:=22) (j:=25) (by decide)];exact h) (fun γ L a w hH hl hA=>by have e0:=((hH.rest 3 F3_).trans Z3_);exact ⟨.pointer (some ⟨ab,3,none⟩),by simp [execOp,go_sem,e0],(r22 _ _).mpr rfl⟩)) ?_
   refine RV.cc 23 (RV.dp (fun γ v L w hl h=>by rw [RV.mn (L:=L) (i:=23) (j:=25) (by decide)];exact h) (fun γ L a w hH hl hA=>by have e0:=hH.got d22 r22 (hA ⟨22,.data⟩ (by simp) rfl);have hB9:=early9 hH.glob (RV.ny hH A_25_23 hl);have wz0:=Cel.step CA.out hB9 3 _ rfl;exact ⟨.int .i64 r,by simp [execOp,go_sem,e0,wz0],(r23 _ _).mpr rfl⟩)) ?_
   refine RV.cc 24 (RV.does_step (fun γ L a w hH hl hA=>by have l0:L 9 = true:=hA ⟨9,.data⟩ (by simp) rfl;have e0:=hH.slot 9 29 d9 l0;have g0:=hH.holds 9 l0;rw [r9] at g0;have l1:L 16 = true:=hA ⟨16,.data⟩ (by simp) rfl;have e1:=hH.slot 16 36 d16 l1;have g1:=hH.holds 16 l1;rw [r16] at g1;have l2:L 21 = true:=hA ⟨21,.data⟩ (by simp) rfl;have e2:=hH.slot 21 41 d21 l2;have g2:=hH.holds 21 l2;rw [r21] at g2;have e3:=hH.got d23 r23 (hA ⟨23,.data⟩ (by simp) rfl);have hB9:=early9 hH.glob (RV.ny hH A_25_24 hl);obtain ⟨y1,c1,j1⟩:=rowp_form g0;obtain ⟨y2,c2,j2⟩:=rowp_form g1;obtain ⟨y3,c3,j3⟩:=rowp_form g2;rw [j1] at e0 g0;rw [j2] at e1 g1;rw [j3] at e2 g2;exact ⟨.agg #[.slice y1 TP.length c1,.slice y2 TA.length c2,.slice y3 TE.length c3,.int .i64 r],w,by simp [execOp,go_sem,e0,e1,e2,e3],(r24 _ _).mpr ⟨_,_,_,rfl,g0,g1,g2⟩,fun j v _ h=>h,Or.inl ⟨by rw [RV.mn (L:=L) (i:=24) (j:=25) (by decide)];exact RV.ny hH A_25_24 hl,hB9⟩⟩)) ?_
   refine RV.cc 25 (RV.does_store (fun γ L a w hH hl hA=>by have e0:=((hH.rest 6 F6_).trans Z6_);have l1:L 24 = true:=hA ⟨24,.data⟩ (by simp) rfl;have e1:=hH.slot 24 44 d24 l1;have g1:=hH.holds 24 l1;rw [r24] at g1;have hB9:=early9 hH.glob hl;obtain ⟨vp,va,ve,hv,hp1,ha1,he1⟩:=g1;rw [hv] at e1;obtain ⟨x1,x2,x3⟩:(∃ o c,vp = .slice o TP.length c)/\(∃ o c,va = .slice o TA.length c)/\(∃ o c,ve = .slice o TE.length c):=⟨rowp_form hp1,rowp_form ha1,rowp_form he1⟩;obtain ⟨y1,c1,rfl⟩:=x1;obtain ⟨y2,c2,rfl⟩:=x2;obtain ⟨y3,c3,rfl⟩:=x3;have HS:=CR.out.step hB9;have z0:=(HS 0 _ rfl).1;have zf0:=(HS 0 _ rfl).2;have z1:=(HS 1 _ rfl).1;have zf1:=(HS 1 _ rfl).2;have z2:=(HS 2 _ rfl).1;have zf2:=(HS 2 _ rfl).2;have z3:=(HS 3 _ rfl).1;have zf3:=(HS 3 _ rfl).2;exact ⟨set4 w rb (.slice y1 TP.length c1) (.slice y2 TA.length c2) (.slice y3 TE.length c3) (.int .i64 r),by simp [set4,execOp,go_sem,e0,e1,z0,z1,z2,z3,zf0,zf1,zf2,zf3],(r25 _ _).mpr trivial,fun j v _ h=>K4 j v w _ _ _ _ h,Or.inr ⟨RV.more_self,w,_,_,_,hB9,hp1,ha1,he1,rfl⟩⟩)) ?_
   exact RV.AllDo.nil
  ·intro γ a5 w5 L9 hL hLo hH
   have ha:=RV.held_act hH hL (by kernel_rfl) (by kernel_rfl)
   obtain ⟨w8,vp,va,ve,hb8,h1,h2,h3,rfl⟩:=late9 hH.glob (hL 25 (by decide))
   rw [ha]
   clear ha hH hL hLo
   simp only [RV.putAll,Act.put,List.setIfInBounds_toArray,List.set_cons_zero,List.set_cons_succ,Nat.zero_add,Nat.reduceAdd]
   have HT:Hid (Tri w0 (set4 w8 rb vp va ve (.int .i64 r)) vp va ve TP TA TE):=⟨own_set4 (own_le h1 HXB.out.size) (trail_far h1 HRB.out) _ _ _ _,own_set4 (own_le h2 HXB.out.size) (trail_far h2 HRB.out) _ _ _ _,own_set4 (own_le h3 HXB.out.size) (trail_far h3 HRB.out) _ _ _ _,set4_below (b_step HXB.out hb8) HR0.out _ _ _ _⟩
   have HS:Hid (CelW _ _ _):=CR.out.step hb8
   obtain ⟨y1,c1,rfl⟩:=rowp_form h1
   obtain ⟨y2,c2,rfl⟩:=rowp_form h2
   obtain ⟨y3,c3,rfl⟩:=rowp_form h3
   obtain ⟨z0,zf0⟩:=HS.out 0 _ rfl
   obtain ⟨z1,zf1⟩:=HS.out 1 _ rfl
   obtain ⟨z2,zf2⟩:=HS.out 2 _ rfl
   obtain ⟨z3,zf3⟩:=HS.out 3 _ rfl
   clear h1 h2 h3 hb8
   unfold set4 at HT ⊢
   go_wp2_with (fail)
   refine bodyPost_ret (v:=.agg #[.slice y1 TP.length c1,.slice y2 TA.length c2,.slice y3 TE.length c3,.int .i64 r]) (by simp [results,Tryz.results28,go_sem,z0,z1,z2,z3]) rfl ⟨_,_,_,by rw [HRC.out],HFT.out _ _ _ _ HT.out⟩
 ·have e1:=HNO.out (fun h=>hgk ⟨h.1,HKB.out.2 h.2⟩)
  have HRC:Hid (TC.r = 0):=by show _ = _;rw [e1];rfl
  have HFIN:Hid (Tri w0 (set4 V1 rb (.slice none 0 0) (.slice none 0 0) (.slice none 0 0) (.int .i64 0)) (.slice none 0 0) (.slice none 0 0) (.slice none 0 0) TC.P TC.A TC.E):=by rw [e1];exact ⟨World.ownsRow_nil _ _ _ _,World.ownsRow_nil _ _ _ _,World.ownsRow_nil _ _ _ _,set4_below HXB.out HR0.out _ _ _ _⟩
  obtain ⟨z0,zf0⟩:=CR.out 0 _ rfl
  obtain ⟨z1,zf1⟩:=CR.out 1 _ rfl
  obtain ⟨z2,zf2⟩:=CR.out 2 _ rfl
  obtain ⟨z3,zf3⟩:=CR.out 3 _ rfl
  clear HNO HYES HFA HLN HKB LP LA LE CA CW CR e1
  unfold set4 at HFIN
  cases gb with
  | false =>
   go_wp2_with (fail)
   exact bodyPost_ret (v:=.agg #[.slice none 0 0,.slice none 0 0,.slice none 0 0,.int .i64 0]) (by simp [results,Tryz.results28,go_sem,z0,z1,z2,z3]) rfl ⟨_,_,_,by rw [HRC.out],HFIN.out⟩
  | true =>
   cases kb with
   | true=>exact absurd ⟨rfl,rfl⟩ hgk
   | false =>
    go_wp2_with (fail)
    refine Calls.mono (HBT.out _) ?_
    rintro e V2 ⟨rfl,rfl⟩
    go_wp2_with (fail)
    exact bodyPost_ret (v:=.agg #[.slice none 0 0,.slice none 0 0,.slice none 0 0,.int .i64 0]) (by simp [results,Tryz.results28,go_sem,z0,z1,z2,z3]) rfl ⟨_,_,_,by rw [HRC.out],HFIN.out⟩
end
end Go.Proofs.YtgbofpbidbhleaaGreat
