/- Package sweep: Ray. -/
import Derived.Test.YtohbjabihdgjhaaGreatSSNear10
import Derived.Test.YtohbjabihdgjhaaGreatSSNear5
import Derived.Test.YtohbjabihdgjhaaGreatSSNear6
import Derived.Test.YtohbjabihdgjhaaGreatSSNear0
import Derived.RangeFuncNested
import Derived.RangeFuncBound
import Derived.RangeFuncCalls
import Derived.RangeFuncLeaves
import Derived.RangeFuncBox
import Derived.Shelf.Abstract
import Derived.WalkKit
import Derived.OwnWalkIn
import Derived.TacticsInMore
import Derived.LoopNIn
import Derived.LoopIn
import Derived.LoopTactic
import Derived.ProofKit
import Derived.Handy
import Derived.Test.YtohbjabihdgjhaaGreatProg
import Derived.Test.YtohbjabihdgjhaaGreatSSNear7
import Derived.Deep.MidRow
set_option maxHeartbeats 16000000
set_option maxRecDepth 100000
set_option linter.unusedVariables false
namespace Go.Proofs.YtohbjabihdgjhaaGreat
section
open Go.RowKit Go.Shelf
theorem wsooner_any (x y:Int) (w:World) :
  Calls Tryz.prog 42 #[.int .i64 x,.int .i64 y] w fun e W=>e = .returned (.bool (decide (x < y)))/\W = w:=by
 go_enter Tryz.func42,Tryz.ntmps42
 go_wp2
 go_ret
 exact ⟨rfl,rfl⟩
def metB (a:Cr) (w:Pt) (b:Cr):Bool:=castB a w b && decide ((castR a w b).1 < 16)
theorem wmet_any (a:Cr) (wy:Pt) (b:Cr) (pv av ev qv bv fv:Value) (w0:World) (hp:Lies w0 pv a.P) (ha:Lies w0 av a.A) (he:Lies w0 ev a.E) (hq:Lies w0 qv b.P) (hb:Lies w0 bv b.A) (hf:Lies w0 fv b.E) :
  Calls Tryz.prog 41 #[coreA pv av ev a.r,wy.v,coreA qv bv fv b.r] w0 fun e W=>e = .returned (.tuple #[.int .i64 ((castR a wy b).1:Nat),.bool (metB a wy b)])/\Below w0.heap.size w0 W:=by
 have HCS:Hid _:=fun (w':World) (h:Below w0.heap.size w0 w')=>wcast_any a wy b pv av ev qv bv fv w' (hp.below h) (ha.below h) (he.below h) (hq.below h) (hb.below h) (hf.below h)
 obtain ⟨o1,c1,rfl,_⟩:=hp.form
 obtain ⟨o2,c2,rfl,_⟩:=ha.form
 obtain ⟨o3,c3,rfl,_⟩:=he.form
 obtain ⟨o4,c4,rfl,_⟩:=hq.form
 obtain ⟨o5,c5,rfl,_⟩:=hb.form
 obtain ⟨o6,c6,rfl,_⟩:=hf.form
 clear hp ha he hq hb hf
 unfold metB
 generalize castB a wy b = cb at *
 obtain ⟨⟨k,⟨xx,xy,xz⟩,xg⟩,hx⟩:∃ x,castR a wy b = x:=⟨_,rfl⟩
 rw [hx] at HCS ⊢
 clear hx
 obtain ⟨wx,wY,wz⟩:=wy
 unfold coreA apV Pt.v at *
 dsimp only at *
 have hkk:decide ((k:Int) < 16) = decide (k < 16):=by simp only [decide_eq_decide];omega
 rw [<- hkk]
 clear hkk
 obtain ⟨X,hX⟩:∃ V,V = ((w0.alloc (.cells #[.slice o1 a.P.length c1,.slice o2 a.A.length c2,.slice o3 a.E.length c3,.int .i64 a.r] 36)).alloc (.cells #[.int .i64 wx,.int .i64 wY,.int .i64 wz] 23)).alloc (.cells #[.slice o4 b.P.length c4,.slice o5 b.A.length c5,.slice o6 b.E.length c6,.int .i64 b.r] 36):=⟨_,rfl⟩
 obtain ⟨ab,hab⟩:∃ b,b = w0.heap.size:=⟨_,rfl⟩
 obtain ⟨wb,hwb⟩:∃ b,b = w0.heap.size + 1:=⟨_,rfl⟩
 obtain ⟨bb,hbb⟩:∃ b,b = w0.heap.size + 1 + 1:=⟨_,rfl⟩
 have n2:=Cel.new (w0.alloc (.cells #[.slice o1 a.P.length c1,.slice o2 a.A.length c2,.slice o3 a.E.length c3,.int .i64 a.r] 36)) [.int .i64 wx,.int .i64 wY,.int .i64 wz] 23
 rw [World.size_alloc] at n2
 have n3:=Cel.new ((w0.alloc (.cells #[.slice o1 a.P.length c1,.slice o2 a.A.length c2,.slice o3 a.E.length c3,.int .i64 a.r] 36)).alloc (.cells #[.int .i64 wx,.int .i64 wY,.int .i64 wz] 23)) [.slice o4 b.P.length c4,.slice o5 b.A.length c5,.slice o6 b.E.length c6,.int .i64 b.r] 36
 rw [World.size_alloc,World.size_alloc] at n3
 have C1:Hid (Cel X ab [.slice o1 a.P.length c1,.slice o2 a.A.length c2,.slice o3 a.E.length c3,.int .i64 a.r]):=by show Cel _ _ _;rw [hX,hab];exact ((Cel.new w0 [.slice o1 a.P.length c1,.slice o2 a.A.length c2,.slice o3 a.E.length c3,.int .i64 a.r] 36).step (n_after _ _)).step (n_after _ _)
 have C2:Hid (Cel X wb [.int .i64 wx,.int .i64 wY,.int .i64 wz]):=by show Cel _ _ _;rw [hX,hwb];exact n2.step (n_after _ _)
 have C3:Hid (Cel X bb [.slice o4 b.P.length c4,.slice o5 b.A.length c5,.slice o6 b.E.length c6,.int .i64 b.r]):=by show Cel _ _ _;rw [hX,hbb];exact n3
 have HB:Hid (Below w0.heap.size w0 X):=by show Below _ _ _;rw [hX];exact b_step (b_step (n_after _ _) (n_after _ _)) (n_after _ _)
 clear n2 n3
 go_enter Tryz.func41,Tryz.ntmps41
 go_upto_region 1 with fail
 rw [<- hX,<- hbb,<- hwb,<- hab]
 clear hX hab hwb hbb
 have x0:=C1.out 0 _ rfl
 have x1:=C1.out 1 _ rfl
 have x2:=C1.out 2 _ rfl
 have x3:=C1.out 3 _ rfl
 have v0:=C2.out 0 _ rfl
 have v1:=C2.out 1 _ rfl
 have v2:=C2.out 2 _ rfl
 have y0:=C3.out 0 _ rfl
 have y1:=C3.out 1 _ rfl
 have y2:=C3.out 2 _ rfl
 have y3:=C3.out 3 _ rfl
 go_wp2_with (fail)
 refine Calls.mono (HCS.out _ HB.out) ?_
 rintro e V4 ⟨rfl,hb⟩
 have HB:Hid _:=b_step (b_step HB.out hb) (n_after V4 (.cells #[.int .i64 xx,.int .i64 xy,.int .i64 xz,.int .i64 xg] 41))
 clear hb x0 x1 x2 x3 y0 y1 y2 y3 v0 v1 v2 HCS C1 C2 C3
 cases cb with
 | false =>
  go_wp2_with (fail)
  exact bodyPost_ret (v:=.tuple #[.int .i64 ((k:Nat):Int),.bool false]) (by simp [results,Tryz.results41,go_sem]) rfl ⟨rfl,HB.out⟩
 | true =>
  go_wp2_with (fail)
  exact bodyPost_ret (v:=.tuple #[.int .i64 ((k:Nat):Int),.bool (decide ((k:Int) < 16))]) (by simp [results,Tryz.results41,go_sem]) rfl ⟨by rw [Bool.true_and],HB.out⟩
theorem wray1_any (a:Cr) (wy:Pt) (b:Cr) (ab wb:Nat) (pv av ev qv bv fv:Value) (w0:World) (hp:Lies w0 pv a.P) (ha:Lies w0 av a.A) (he:Lies w0 ev a.E) (hq:Lies w0 qv b.P) (hb:Lies w0 bv b.A) (hf:Lies w0 fv b.E) (hc:Cel w0 ab [pv,av,ev,.int .i64 a.r]) (hw:Cel w0 wb [.int .i64 wy.x,.int .i64 wy.y,.int .i64 wy.z]) :
  Calls Tryz.prog 40 #[coreA qv bv fv b.r,.pointer (some ⟨ab,0,none⟩),.pointer (some ⟨wb,0,none⟩)] w0 fun e W=>e = .returned (.tuple #[.int .i64 ((castR a wy b).1:Nat),.bool (metB a wy b)])/\Below w0.heap.size w0 W:=by
 have HCS:Hid _:=fun (w':World) (h:Below w0.heap.size w0 w')=>wmet_any a wy b pv av ev qv bv fv w' (hp.below h) (ha.below h) (he.below h) (hq.below h) (hb.below h) (hf.below h)
 obtain ⟨o1,c1,rfl,_⟩:=hp.form
 obtain ⟨o2,c2,rfl,_⟩:=ha.form
 obtain ⟨o3,c3,rfl,_⟩:=he.form
 obtain ⟨o4,c4,rfl,_⟩:=hq.form
 obtain ⟨o5,c5,rfl,_⟩:=hb.form
 obtain ⟨o6,c6,rfl,_⟩:=hf.form
 have H1:Hid (Cel _ _ _):=hc
 have H2:Hid (Cel _ _ _):=hw
 clear hp ha he hq hb hf hc hw
 generalize metB a wy b = cb at *
 generalize (castR a wy b).1 = k at *
 obtain ⟨wx,wY,wz⟩:=wy
 unfold coreA Pt.v at *
 dsimp only at *
 obtain ⟨X,hX⟩:∃ V,V = w0.alloc (.cells #[.slice o4 b.P.length c4,.slice o5 b.A.length c5,.slice o6 b.E.length c6,.int .i64 b.r] 36):=⟨_,rfl⟩
 obtain ⟨bb,hbb⟩:∃ b,b = w0.heap.size:=⟨_,rfl⟩
 have hbx:Below w0.heap.size w0 X:=by rw [hX];exact n_after _ _
 have C1:Hid (Cel _ _ _):=H1.out.step hbx
 have C2:Hid (Cel _ _ _):=H2.out.step hbx
 have C3:Hid (Cel X bb [.slice o4 b.P.length c4,.slice o5 b.A.length c5,.slice o6 b.E.length c6,.int .i64 b.r]):=by show Cel _ _ _;rw [hX,hbb];exact Cel.new w0 [.slice o4 b.P.length c4,.slice o5 b.A.length c5,.slice o6 b.E.length c6,.int .i64 b.r] 36
 have HB:Hid _:=hbx
 clear hbx H1 H2
 go_enter Tryz.func40,Tryz.ntmps40
 go_upto_region 1 with fail
 rw [<- hX,<- hbb]
 clear hX hbb
 have x0:=C1.out 0 _ rfl
 have x1:=C1.out 1 _ rfl
 have x2:=C1.out 2 _ rfl
 have x3:=C1.out 3 _ rfl
 have v0:=C2.out 0 _ rfl
 have v1:=C2.out 1 _ rfl
 have v2:=C2.out 2 _ rfl
 have y0:=C3.out 0 _ rfl
 have y1:=C3.out 1 _ rfl
 have y2:=C3.out 2 _ rfl
 have y3:=C3.out 3 _ rfl
 go_wp2_with (fail)
 refine Calls.mono (HCS.out _ HB.out) ?_
 rintro e V4 ⟨rfl,hb⟩
 have HB:Hid _:=b_step HB.out hb
 go_wp2_with (fail)
 exact bodyPost_ret (v:=.tuple #[.int .i64 ((k:Nat):Int),.bool cb]) (by simp [results,Tryz.results40,go_sem]) rfl ⟨rfl,HB.out⟩
def RR (st:Option (Nat × Nat)) (pl pk:Int):Prop:=match st with
 | none=>pl = -1/\pk = 0
 | some (j,k)=>pl = (j:Int)/\pk = (k:Int)
theorem ray_skip {a:Cr} {w:Pt} {L:List Cr} {i:Nat} {pl pk:Int} (h:RR (bestK (rayT a w) rayB L i) pl pk) (hm:metB a w (cr L i) = false):RR (bestK (rayT a w) rayB L (i + 1)) pl pk:=by
 rw [bestK_no]
 ·exact h
 ·unfold rayT;unfold metB at hm;rw [hm];rfl
theorem ray_first {a:Cr} {w:Pt} {L:List Cr} {i:Nat} {pk:Int} (h:RR (bestK (rayT a w) rayB L i) (-1) pk) (hm:metB a w (cr L i) = true):RR (bestK (rayT a w) rayB L (i + 1)) (i:Int) ((castR a w (cr L i)).1:Nat):=by
 have ht:rayT a w (cr L i) = some (castR a w (cr L i)).1:=by unfold rayT;unfold metB at hm;rw [if_pos hm]
 have hn:bestK (rayT a w) rayB L i = none:=by
  unfold RR at h
  split at h
  ·next e=>exact e
  ·next j x e=>have:=h.1;omega
 rw [bestK_first _ _ _ ht hn]
 exact ⟨rfl,rfl⟩
theorem ray_more {a:Cr} {w:Pt} {L:List Cr} {i:Nat} {pl pk:Int} (h:RR (bestK (rayT a w) rayB L i) pl pk) (hpl:pl ≠ -1) (hm:metB a w (cr L i) = true):(((castR a w (cr L i)).1:Nat) < pk->RR (bestK (rayT a w) rayB L (i + 1)) (i:Int) ((castR a w (cr L i)).1:Nat))/\(pk <= ((castR a w (cr L i)).1:Nat)->RR (bestK (rayT a w) rayB L (i + 1)) pl pk):=by
 have ht:rayT a w (cr L i) = some (castR a w (cr L i)).1:=by unfold rayT;unfold metB at hm;rw [if_pos hm]
 unfold RR at h
 split at h
 ·exact absurd h.1 hpl
 ·next j x e =>
  obtain ⟨rfl,rfl⟩:=h
  rw [bestK_more _ _ _ ht e]
  refine ⟨fun hl=>?_,fun hl=>?_⟩
  ·rw [if_pos (by unfold rayB;exact decide_eq_true (by omega))]
   exact ⟨rfl,rfl⟩
  ·rw [if_neg (by unfold rayB;simp only [decide_eq_true_eq];omega)]
   exact ⟨rfl,rfl⟩
theorem wbestI_any (a:Cr) (wy:Pt) (L:List Cr) (ab wb:Nat) (lv pv av ev:Value) (w0:World) (hl:LiesC w0 lv L) (hp:Lies w0 pv a.P) (ha:Lies w0 av a.A) (he:Lies w0 ev a.E) (hc:Cel w0 ab [pv,av,ev,.int .i64 a.r]) (hw:Cel w0 wb [.int .i64 wy.x,.int .i64 wy.y,.int .i64 wy.z]) :
  Calls Tryz.prog 39 #[lv,.func (.func 40) #[] #[.pointer (some ⟨ab,0,none⟩),.pointer (some ⟨wb,0,none⟩)],.func (.func 42) #[] #[]] w0 fun e W=>∃ pl pk,RR (bestK (rayT a wy) rayB L L.length) pl pk/\e = .returned (.tuple #[.int .i64 pl,.int .i64 pk,.bool (!decide (pl = -1))])/\Below w0.heap.size w0 W:=by
 have HN1:Hid _:=fun (b:Cr) (qv bv fv:Value) (w':World) (h:Below w0.heap.size w0 w') (hq:Lies w' qv b.P) (hb:Lies w' bv b.A) (hf:Lies w' fv b.E)=>wray1_any a wy b ab wb pv av ev qv bv fv w' (hp.below h) (ha.below h) (he.below h) hq hb hf (hc.step h) (hw.step h)
 have HL:Hid _:=hl
 obtain ⟨o1,c1,rfl,_⟩:=hp.form
 obtain ⟨o2,c2,rfl,_⟩:=ha.form
 obtain ⟨o3,c3,rfl,_⟩:=he.form
 obtain ⟨o,cap,rfl,hlc,hcm,_⟩:=hl.form
 clear hl hp ha he hc hw
 go_enter Tryz.func39,Tryz.ntmps39
 go_wp2_with (fail)
 go_loopg [9,10,17] L.length (fun gm s9 s10 s17 wr=>∃ (i:Nat) (pl pk:Int),s9 = .int .i64 pl/\s10 = .int .i64 pk/\s17 = .int .i64 (i:Int)/\i <= L.length/\Hid (gm = L.length - i)/\Hid (Below w0.heap.size w0 wr)/\Hid (RR (bestK (rayT a wy) rayB L i) pl pk))
 case atStart=>exact ⟨0,-1,0,rfl,rfl,rfl,Nat.zero_le _,rfl,Below.refl _ _,⟨rfl,rfl⟩⟩
 case round =>
  obtain ⟨i,pl,pk,rfl,rfl,rfl,hi9,HG,HB,HE⟩:=hrel
  by_cases hit:i < L.length
  ·have hl1:(i:Int) < (L.length:Int):=by omega
   obtain ⟨o',cap',e',_,_,hcl⟩:=(HL.out.below HB.out).form
   cases e'
   obtain ⟨ge,fe,qv,bv,fv,rfl,x0,x1,x2,x3,l1,l2,l3⟩:=hcl i hit
   clear hcl
   have HY1:Hid _:=fun (w':World) (h:Below wr.heap.size wr w')=>HN1.out (cr L i) qv bv fv w' (b_step HB.out h) (l1.below h) (l2.below h) (l3.below h)
   have HSK:Hid _:=fun h=>ray_skip (L:=L) (i:=i) HE.out h
   have HFI:Hid _:=fun (h:pl = -1) hm=>ray_first (a:=a) (w:=wy) (L:=L) (i:=i) (pk:=pk) (by rw [<- h];exact HE.out) hm
   have HMO:Hid _:=fun (h:pl ≠ -1) hm=>ray_more (a:=a) (w:=wy) (L:=L) (i:=i) HE.out h hm
   obtain ⟨b,hb⟩:∃ x,cr L i = x:=⟨_,rfl⟩
   rw [hb] at x3 l1 l2 l3 HY1 HSK HFI HMO
   obtain ⟨o4,c4,rfl,_⟩:=l1.form
   obtain ⟨o5,c5,rfl,_⟩:=l2.form
   obtain ⟨o6,c6,rfl,_⟩:=l3.form
   clear hb l1 l2 l3 HN1
   obtain ⟨mb,hmb⟩:∃ x,metB a wy b = x:=⟨_,rfl⟩
   obtain ⟨k,hk⟩:∃ x,(castR a wy b).1 = x:=⟨_,rfl⟩
   rw [hmb] at HY1 HSK HFI HMO
   rw [hk] at HY1 HFI HMO
   clear hmb hk
   unfold coreA at HY1
   obtain ⟨V1,hV1⟩:∃ V,V = wr.alloc (.cells #[.slice o4 b.P.length c4,.slice o5 b.A.length c5,.slice o6 b.E.length c6,.int .i64 b.r] 36):=⟨_,rfl⟩
   obtain ⟨nb,hnb⟩:∃ b,b = wr.heap.size:=⟨_,rfl⟩
   have hb1:Below wr.heap.size wr V1:=by rw [hV1];exact n_after _ _
   have CN:Hid (Cel V1 nb [.slice o4 b.P.length c4,.slice o5 b.A.length c5,.slice o6 b.E.length c6,.int .i64 b.r]):=by show Cel _ _ _;rw [hV1,hnb];exact Cel.new wr [.slice o4 b.P.length c4,.slice o5 b.A.length c5,.slice o6 b.E.length c6,.int .i64 b.r] 36
   have HY1:Hid _:=HY1.out V1 hb1
   have HB:Hid _:=b_step HB.out hb1
   go_upto_region 6 with fail
   rw [<- hV1,<- hnb]
   clear hV1 hnb hb1 x0 x1 x2 x3
   have x0:=CN.out 0 _ rfl
   have x1:=CN.out 1 _ rfl
   have x2:=CN.out 2 _ rfl
   have x3:=CN.out 3 _ rfl
   go_wp2_with (fail)
   refine Calls.mono HY1.out ?_
   rintro e V2 ⟨rfl,hb⟩
   have HB:Hid _:=b_step HB.out hb
   clear hb x0 x1 x2 x3 CN HY1
   cases mb with
   | false =>
    have HE9:Hid _:=HSK.out rfl
    clear HSK HFI HMO HE
    go_wp2_with (fail)
    go_roundg (L.length - (i + 1))
    case measure=>have:=HG.out;omega
    case rel=>exact ⟨i + 1,pl,pk,rfl,rfl,by go_num,by omega,rfl,HB,HE9⟩
   | true =>
    by_cases hpl:pl = -1
    ·have HE9:Hid _:=HFI.out hpl rfl
     clear HSK HFI HMO HE
     subst hpl
     go_wp2_with (fail)
     go_roundg (L.length - (i + 1))
     case measure=>have:=HG.out;omega
     case rel=>exact ⟨i + 1,(i:Int),(k:Int),rfl,rfl,by go_num,by omega,rfl,HB,HE9⟩
    ·have HE2:Hid _:=HMO.out hpl rfl
     have HNW:Hid _:=fun w'=>wsooner_any (k:Int) pk w'
     clear HSK HFI HMO
     go_wp2_with (fail)
     refine Calls.mono (HNW.out _) ?_
     rintro e V4 ⟨rfl,rfl⟩
     clear HNW
     by_cases hlt:(k:Int) < pk
     ·have HE9:Hid _:=HE2.out.1 hlt
      rw [decide_eq_true hlt]
      clear HE2 hlt HE
      go_wp2_with (fail)
      go_roundg (L.length - (i + 1))
      case measure=>have:=HG.out;omega
      case rel=>exact ⟨i + 1,(i:Int),(k:Int),rfl,rfl,by go_num,by omega,rfl,HB,HE9⟩
     ·have HE9:Hid _:=HE2.out.2 (Int.not_lt.1 hlt)
      rw [decide_eq_false hlt]
      clear HE2 hlt HE
      go_wp2_with (fail)
      go_roundg (L.length - (i + 1))
      case measure=>have:=HG.out;omega
      case rel=>exact ⟨i + 1,pl,pk,rfl,rfl,by go_num,by omega,rfl,HB,HE9⟩
  ·obtain rfl:i = L.length:=by omega
   clear HN1 HL
   by_cases hpl:pl = -1
   ·subst hpl
    go_wp2_with (fail)
    exact bodyPost_ret (v:=.tuple #[.int .i64 (-1),.int .i64 pk,.bool false]) (by simp [results,Tryz.results39,go_sem]) rfl ⟨-1,pk,HE.out,rfl,HB.out⟩
   ·go_wp2_with (fail)
    exact bodyPost_ret (v:=.tuple #[.int .i64 pl,.int .i64 pk,.bool true]) (by simp [results,Tryz.results39,go_sem,hpl]) rfl ⟨pl,pk,HE.out,by simp [hpl],HB.out⟩
def rayV (a:Cr) (w:Pt) (L:List Cr):Value:=if goB a w then (match bestK (rayT a w) rayB L L.length with
  | none=>.tuple #[.int .i64 (-1),.int .i64 16,.bool false]
  | some (j,k)=>.tuple #[.int .i64 (j:Int),.int .i64 (k:Int),.bool true]) else .tuple #[.int .i64 (-1),.int .i64 0,.bool false]
def dotC (p:Pt):Cr:=⟨[p],[],[],0⟩
theorem wray_any (p wy:Pt) (L:List Cr) (lv:Value) (w0:World) (hl:LiesC w0 lv L) :
  Calls Tryz.prog 16 #[p.v,wy.v,lv] w0 fun e W=>e = .returned (rayV (dotC p) wy L)/\Below w0.heap.size w0 W:=by
 have HGO:Hid _:=fun (v:Value) (w':World) (hp:Lies w' v [p])=>wgo_any (dotC p) wy v (.slice none 0 0) (.slice none 0 0) w' hp (lies_nil9 _) (lies_nil9 _)
 have HBE:Hid _:=fun (ab wb:Nat) (v:Value) (w':World) (h:Below w0.heap.size w0 w') (hp:Lies w' v [p]) (hc:Cel w' ab [v,.slice none 0 0,.slice none 0 0,.int .i64 0]) (hw:Cel w' wb [.int .i64 wy.x,.int .i64 wy.y,.int .i64 wy.z])=>wbestI_any (dotC p) wy L ab wb lv v (.slice none 0 0) (.slice none 0 0) w' (hl.below h) hp (lies_nil9 _) (lies_nil9 _) hc hw
 obtain ⟨o,cap,rfl,_⟩:=hl.form
 clear hl
 have HR:Hid _:=rfl (a:=rayV (dotC p) wy L)
 rw [show rayV (dotC p) wy L = (if goB (dotC p) wy then (match bestK (rayT (dotC p) wy) rayB L L.length with | none=>.tuple #[.int .i64 (-1),.int .i64 16,.bool false] | some (j,k)=>.tuple #[.int .i64 (j:Int),.int .i64 (k:Int),.bool true]) else .tuple #[.int .i64 (-1),.int .i64 0,.bool false]) from rfl]
 clear HR
 generalize goB (dotC p) wy = gb at *
 generalize bestK (rayT (dotC p) wy) rayB L L.length = st at *
 have HR0:Hid ((dotC p).r = 0):=rfl
 rw [HR0.out] at HGO
 clear HR0
 obtain ⟨px,py,pz⟩:=p
 obtain ⟨wx,wY,wz⟩:=wy
 unfold coreA Pt.v at *
 dsimp only at *
 obtain ⟨X,hX⟩:∃ V,V = (((w0.alloc (.cells #[.int .i64 px,.int .i64 py,.int .i64 pz] 23)).alloc (.cells #[.int .i64 wx,.int .i64 wY,.int .i64 wz] 23)).alloc (.cells #[.int .i64 px,.int .i64 py,.int .i64 pz] 23)).alloc (.cells #[.slice (some ⟨w0.heap.size + 1 + 1,0,none⟩) 1 1,.slice none 0 0,.slice none 0 0,.int .i64 0] 36):=⟨_,rfl⟩
 have n2:=Cel.new (w0.alloc (.cells #[.int .i64 px,.int .i64 py,.int .i64 pz] 23)) [.int .i64 wx,.int .i64 wY,.int .i64 wz] 23
 rw [World.size_alloc] at n2
 have n3:=Cel.new ((w0.alloc (.cells #[.int .i64 px,.int .i64 py,.int .i64 pz] 23)).alloc (.cells #[.int .i64 wx,.int .i64 wY,.int .i64 wz] 23)) [.int .i64 px,.int .i64 py,.int .i64 pz] 23
 rw [World.size_alloc,World.size_alloc] at n3
 have n4:=Cel.new (((w0.alloc (.cells #[.int .i64 px,.int .i64 py,.int .i64 pz] 23)).alloc (.cells #[.int .i64 wx,.int .i64 wY,.int .i64 wz] 23)).alloc (.cells #[.int .i64 px,.int .i64 py,.int .i64 pz] 23)) [.slice (some ⟨w0.heap.size + 1 + 1,0,none⟩) 1 1,.slice none 0 0,.slice none 0 0,.int .i64 0] 36
 rw [World.size_alloc,World.size_alloc,World.size_alloc] at n4
 obtain ⟨wb,hwb⟩:∃ b,b = w0.heap.size + 1:=⟨_,rfl⟩
 obtain ⟨pb,hpb⟩:∃ b,b = w0.heap.size + 1 + 1:=⟨_,rfl⟩
 obtain ⟨ab,hab⟩:∃ b,b = w0.heap.size + 1 + 1 + 1:=⟨_,rfl⟩
 have C2:Hid (Cel X wb [.int .i64 wx,.int .i64 wY,.int .i64 wz]):=by show Cel _ _ _;rw [hX,hwb];exact (n2.step (n_after _ _)).step (n_after _ _)
 have LP:Hid (Lies X (.slice (some ⟨pb,0,none⟩) 1 1) [⟨px,py,pz⟩]):=by show Lies _ _ _;rw [hX,hpb];exact lies_one9 (n3.step (n_after _ _))
 have C1:Hid (Cel X ab [.slice (some ⟨pb,0,none⟩) 1 1,.slice none 0 0,.slice none 0 0,.int .i64 0]):=by show Cel _ _ _;rw [hX,hab,hpb];exact n4
 have HB:Hid (Below w0.heap.size w0 X):=by show Below _ _ _;rw [hX];exact b_step (b_step (b_step (n_after _ _) (n_after _ _)) (n_after _ _)) (n_after _ _)
 clear n2 n3 n4
 go_enter Tryz.func16,Tryz.ntmps16
 go_upto_region 2 with fail
 rw [<- hX,<- hab,<- hpb,<- hwb]
 clear hX hwb hpb hab
 have x0:=C1.out 0 _ rfl
 have x1:=C1.out 1 _ rfl
 have x2:=C1.out 2 _ rfl
 have x3:=C1.out 3 _ rfl
 have v0:=C2.out 0 _ rfl
 have v1:=C2.out 1 _ rfl
 have v2:=C2.out 2 _ rfl
 have HGO:Hid _:=HGO.out _ X LP.out
 go_wp2_with (fail)
 refine Calls.mono HGO.out ?_
 rintro e V1 ⟨rfl,hb⟩
 have HBE2:Hid _:=HBE.out ab wb _ V1 (b_step HB.out hb) (LP.out.below hb) (C1.out.step hb) (C2.out.step hb)
 have HB:Hid _:=b_step HB.out hb
 clear hb x0 x1 x2 x3 v0 v1 v2 HGO C1 C2 LP HBE
 cases gb with
 | false =>
  go_wp2_with (fail)
  exact bodyPost_ret (v:=.tuple #[.int .i64 (-1),.int .i64 0,.bool false]) (by simp [results,Tryz.results16,go_sem]) rfl ⟨rfl,HB.out⟩
 | true =>
  go_wp2_with (fail)
  refine Calls.mono HBE2.out ?_
  rintro e V2 ⟨pl,pk,hrr,rfl,hb⟩
  have HB:Hid _:=b_step HB.out hb
  clear hb HBE2
  cases st with
  | none =>
   obtain ⟨rfl,rfl⟩:=hrr
   go_wp2_with (fail)
   exact bodyPost_ret (v:=.tuple #[.int .i64 (-1),.int .i64 16,.bool false]) (by simp [results,Tryz.results16,go_sem]) rfl ⟨rfl,HB.out⟩
  | some x =>
   obtain ⟨j,k⟩:=x
   obtain ⟨rfl,rfl⟩:=hrr
   have hj:¬ ((j:Int) = -1):=by omega
   have hd:(!decide ((j:Int) = -1)) = true:=by simp [hj]
   rw [hd]
   clear hd hj
   go_wp2_with (fail)
   exact bodyPost_ret (v:=.tuple #[.int .i64 (j:Int),.int .i64 (k:Int),.bool true]) (by simp [results,Tryz.results16,go_sem]) rfl ⟨rfl,HB.out⟩
theorem int_info:(Tryz.prog.info? 3).map (fun i=>(i.zero,i.size,i.bytes)) = some (some (.int .i64 0),1,8):=by kernel_rfl
def intsV (L:List Nat):List Value:=L.map (fun (i:Nat)=>.int .i64 (i:Int))
theorem rowi_form {W:World} {base:Nat} {u:Value} {n:Nat} {xs:List Value} (h:W.ownsRow base 3 1 u n xs):∃ o c,u = .slice o n c:=by
 rcases h.2 with ⟨rfl,h0⟩ | ⟨g,cap,cur,rfl,_⟩
 ·exact ⟨none,0,by rw [h0]⟩
 ·exact ⟨_,_,rfl⟩
theorem news_at1 {w:World} {vb:Nat} {x:Value} {t:TypeId} (h:w.heap[vb]? = some (.cells #[x] t (0,0))):∀ j u,[x][j]? = some u->w.cell? ((⟨vb,0,none⟩:Addr).add j) = some u:=by
 intro j u hj
 have ad:(⟨vb,0,none⟩:Addr).add j = ⟨vb,j,none⟩:=by unfold Addr.add;split <;> simp_all
 rw [ad]
 match j,hj with
 | 0,hj=>cases hj;simp [World.cell?,h]
theorem over_grew {w0 X V V2 V9:World} {ab:Nat} {la:List Value} {u u9:Value} {n m:Nat} {xs ys:List Value} (hx:w0.heap.size <= X.heap.size) (hab:ab < X.heap.size) (h:Below w0.heap.size w0 V/\Cel V ab la/\X.heap.size <= V.heap.size/\V.ownsRow X.heap.size 3 1 u n xs) (hb:Below V.heap.size V V2) (hg:V2.grownBy V9 u.ownBlock) (hr:V9.ownsRow X.heap.size 3 1 u9 m ys):Below w0.heap.size w0 V9/\Cel V9 ab la/\X.heap.size <= V9.heap.size/\V9.ownsRow X.heap.size 3 1 u9 m ys:=by
 have h1:=b_step h.1 hb
 have ho:=own_below h.2.2.2 hb
 refine ⟨h1.grown hg h1.size (fun k e=>by have:=(ho.lt k e).1;omega),fun i v e=>hg.cell (h.2.1.step hb i v e) (fun e9=>by have:=(ho.lt ab e9.symm).1;omega),by have:=hb.size;have:=hg.size;omega,hr⟩
theorem wover_any (a:Cr) (L:List Cr) (lv pv av ev:Value) (w0:World) (hl:LiesC w0 lv L) (hp:Lies w0 pv a.P) (ha:Lies w0 av a.A) (he:Lies w0 ev a.E) (hN:L.length <= 1048576) :
  Calls Tryz.prog 15 #[coreA pv av ev a.r,lv] w0 fun e W=>∃ u,e = .returned u/\W.ownsRow w0.heap.size 3 1 u (overK a L L.length).length (intsV (overK a L L.length))/\Below w0.heap.size w0 W:=by
 have HA0:Hid _:=fun (b:Cr) (qv bv fv:Value) (w':World) (h:Below w0.heap.size w0 w') (hq:Lies w' qv b.P) (hb:Lies w' bv b.A) (hf:Lies w' fv b.E)=>napart_any a.P a.A a.E b.P b.A b.E a.r b.r _ _ _ _ _ _ w' (hp.below h) (ha.below h) (he.below h) hq hb hf
 have HL:Hid _:=hl
 obtain ⟨o1,c1,rfl,_⟩:=hp.form
 obtain ⟨o2,c2,rfl,_⟩:=ha.form
 obtain ⟨o3,c3,rfl,_⟩:=he.form
 obtain ⟨o,cap,rfl,hlc,hcm,_⟩:=hl.form
 obtain ⟨i0,h1,h2,h3,h4⟩:=info_parts int_info
 have HI:Hid _:=And.intro h1 (And.intro h2 (And.intro h3 h4))
 clear hl hp ha he h1 h2 h3 h4
 unfold coreA at *
 obtain ⟨X,hX⟩:∃ V,V = w0.alloc (.cells #[.slice o1 a.P.length c1,.slice o2 a.A.length c2,.slice o3 a.E.length c3,.int .i64 a.r] 36):=⟨_,rfl⟩
 obtain ⟨ab,hab⟩:∃ b,b = w0.heap.size:=⟨_,rfl⟩
 have HB:Hid (Below w0.heap.size w0 X):=by show Below _ _ _;rw [hX];exact n_after _ _
 have C1:Hid (Cel X ab [.slice o1 a.P.length c1,.slice o2 a.A.length c2,.slice o3 a.E.length c3,.int .i64 a.r]):=by show Cel _ _ _;rw [hX,hab];exact Cel.new w0 [.slice o1 a.P.length c1,.slice o2 a.A.length c2,.slice o3 a.E.length c3,.int .i64 a.r] 36
 have HAB:Hid (ab < X.heap.size):=C1.out.lt
 have HXS:Hid (w0.heap.size <= X.heap.size):=HB.out.size
 go_enter Tryz.func15,Tryz.ntmps15
 go_upto_region 1 with fail
 rw [<- hX,<- hab]
 clear hX hab
 go_wp2_with (fail)
 go_loopg [5,12] L.length (fun gm s5 s12 wr=>∃ (i:Nat) (om:Option Addr) (cm:Nat) (M:List Nat),s5 = .slice om M.length cm/\s12 = .int .i64 (i:Int)/\i <= L.length/\M.length <= i/\Hid (gm = L.length - i)/\Hid (Below w0.heap.size w0 wr/\Cel wr ab [.slice o1 a.P.length c1,.slice o2 a.A.length c2,.slice o3 a.E.length c3,.int .i64 a.r]/\X.heap.size <= wr.heap.size/\wr.ownsRow X.heap.size 3 1 (.slice om M.length cm) M.length (intsV M))/\Hid (M = overK a L i))
 case atStart=>exact ⟨0,none,0,[],rfl,rfl,Nat.zero_le _,by simp,rfl,⟨HB.out,C1.out,Nat.le_refl _,World.ownsRow_nil _ _ _ _⟩,rfl⟩
 case round =>
  clear HB C1
  obtain ⟨i,om,cm,M,rfl,rfl,hi9,hM9,HG,HK,HE⟩:=hrel
  by_cases hit:i < L.length
  ·have hl1:(i:Int) < (L.length:Int):=by omega
   obtain ⟨o',cap',e',_,_,hcl⟩:=(HL.out.below HK.out.1).form
   cases e'
   obtain ⟨ge,fe,qv,bv,fv,rfl,x0,x1,x2,x3,l1,l2,l3⟩:=hcl i hit
   clear hcl
   have HY1:Hid _:=fun (w':World) (h:Below wr.heap.size wr w')=>HA0.out (cr L i) qv bv fv w' (b_step HK.out.1 h) (l1.below h) (l2.below h) (l3.below h)
   have HNX:Hid (overK a L (i + 1) = if mayC a && mayC (cr L i) && decide ((told a (cr L i)).2 < 1) then overK a L i ++ [i] else overK a L i):=rfl
   rw [<- HE.out] at HNX
   obtain ⟨b,hb⟩:∃ x,cr L i = x:=⟨_,rfl⟩
   rw [hb] at x3 l1 l2 l3 HY1 HNX
   obtain ⟨o4,c4,rfl,_⟩:=l1.form
   obtain ⟨o5,c5,rfl,_⟩:=l2.form
   obtain ⟨o6,c6,rfl,_⟩:=l3.form
   clear hb l1 l2 l3 HA0
   have hcv:apartV ⟨a.P,a.A,a.E,a.r⟩ ⟨b.P,b.A,b.E,b.r⟩ = apV (apP a b):=apart_v _ _
   rw [hcv] at HY1
   have hmm:(mayC ⟨a.P,a.A,a.E,a.r⟩ && mayC ⟨b.P,b.A,b.E,b.r⟩) = (mayC a && mayC b):=rfl
   rw [hmm] at HY1
   have hap:(mayC a && mayC b) = true->told a b = apP a b:=fun h=>by unfold apP;rw [if_pos h]
   obtain ⟨mb,hmb⟩:∃ x,(mayC a && mayC b) = x:=⟨_,rfl⟩
   rw [hmb] at HY1 HNX hap
   obtain ⟨⟨⟨yx,yy,yz⟩,yg⟩,hy⟩:∃ x,apP a b = x:=⟨_,rfl⟩
   rw [hy] at HY1 hap
   clear hmb hy hcv hmm
   unfold apV at HY1
   dsimp only at HY1
   obtain ⟨V1,hV1⟩:∃ V,V = wr.alloc (.cells #[.slice o4 b.P.length c4,.slice o5 b.A.length c5,.slice o6 b.E.length c6,.int .i64 b.r] 36):=⟨_,rfl⟩
   obtain ⟨nb,hnb⟩:∃ b,b = wr.heap.size:=⟨_,rfl⟩
   have hb1:Below wr.heap.size wr V1:=by rw [hV1];exact n_after _ _
   have CN:Hid (Cel V1 nb [.slice o4 b.P.length c4,.slice o5 b.A.length c5,.slice o6 b.E.length c6,.int .i64 b.r]):=by show Cel _ _ _;rw [hV1,hnb];exact Cel.new wr [.slice o4 b.P.length c4,.slice o5 b.A.length c5,.slice o6 b.E.length c6,.int .i64 b.r] 36
   have CO:Hid (Cel _ _ _):=HK.out.2.1.step hb1
   have HY1:Hid _:=HY1.out V1 hb1
   have HB1:Hid _:=hb1
   go_upto_region 5 with fail
   rw [<- hV1,<- hnb]
   clear hV1 hnb hb1 x0 x1 x2 x3
   have x0:=CO.out 0 _ rfl
   have x1:=CO.out 1 _ rfl
   have x2:=CO.out 2 _ rfl
   have x3:=CO.out 3 _ rfl
   have y0:=CN.out 0 _ rfl
   have y1:=CN.out 1 _ rfl
   have y2:=CN.out 2 _ rfl
   have y3:=CN.out 3 _ rfl
   go_wp2_with (fail)
   refine Calls.mono HY1.out ?_
   rintro e V2 ⟨rfl,hb⟩
   have hbb:=b_step (b_step HB1.out hb) (n_after V2 (.cells #[.int .i64 yx,.int .i64 yy,.int .i64 yz,.int .i64 yg] 41))
   have HK:Hid _:=And.intro (b_step HK.out.1 hbb) (And.intro (HK.out.2.1.step hbb) (And.intro (Nat.le_trans HK.out.2.2.1 hbb.size) (own_below HK.out.2.2.2 hbb)))
   clear hb hbb x0 x1 x2 x3 y0 y1 y2 y3 CN CO HY1 HB1
   obtain ⟨V3,hV3⟩:∃ V,V = V2.alloc (.cells #[.int .i64 yx,.int .i64 yy,.int .i64 yz,.int .i64 yg] 41):=⟨_,rfl⟩
   obtain ⟨yb,hyb⟩:∃ b,b = V2.heap.size:=⟨_,rfl⟩
   have CY:Hid (Cel V3 yb [.int .i64 yx,.int .i64 yy,.int .i64 yz,.int .i64 yg]):=by show Cel _ _ _;rw [hV3,hyb];exact Cel.new V2 [.int .i64 yx,.int .i64 yy,.int .i64 yz,.int .i64 yg] 41
   rw [<- hV3] at HK
   go_upto_region 6 with fail
   rw [<- hV3,<- hyb]
   clear hV3 hyb
   have u3:=CY.out 3 _ rfl
   clear CY
   by_cases htk:mb = true/\yg < 1
   ·obtain ⟨rfl,hyg⟩:=htk
    have HE:Hid (overK a L (i + 1) = M ++ [i]):=by show _ = _;rw [HNX.out,hap rfl,if_pos (by simp;exact hyg)]
    clear HNX hap
    go_wp2_with (at_builtin;refine wpList_append_own_at _ rfl _ _ 54 rfl X.heap.size 3 i0 _ 1 8 Tryz.underlying54 HI.out.1 HI.out.2.1 HI.out.2.2.1 HI.out.2.2.2 rfl (by decide) _ _ _ rfl (own_below HK.out.2.2.2 (n_after V3 _)) ⟨V3.heap.size,0,none⟩ 1 1 [.int .i64 (i:Int)] rfl rfl (news_at1 (heap_alloc_new V3 _)) (by intro u hu;simp at hu;rcases hu with rfl;rfl) (by unfold maxLen;omega) (by omega) (by have:=HK.out.2.2.1;simp;omega) ?_;intro u9 V9 r8 g8 _ s8;have r9:V9.ownsRow X.heap.size 3 1 u9 (M ++ [i]).length (intsV (M ++ [i])):=(by unfold intsV;rw [List.map_append,List.length_append];exact r8);have hb9:=n_after V3 (.cells #[.int .i64 (i:Int)] 3);have HK9:Hid (Below w0.heap.size w0 V9/\Cel V9 ab [.slice o1 a.P.length c1,.slice o2 a.A.length c2,.slice o3 a.E.length c3,.int .i64 a.r]/\X.heap.size <= V9.heap.size/\V9.ownsRow X.heap.size 3 1 u9 (M ++ [i]).length (intsV (M ++ [i]))):=over_grew HXS.out HAB.out HK.out hb9 g8 r9;obtain ⟨o9,c9,e9⟩:=rowi_form HK9.out.2.2.2;subst e9;clear r8 g8 s8 r9 hb9)
    clear u3 hyg
    go_roundg (L.length - (i + 1))
    case measure=>have:=HG.out;omega
    case rel=>exact ⟨i + 1,o9,c9,M ++ [i],by rw [List.length_append];rfl,by go_num,by omega,by rw [List.length_append];simp;omega,rfl,HK9,HE.out.symm⟩
   ·have HE:Hid (overK a L (i + 1) = M):=by
     show _ = _
     rw [HNX.out]
     cases mb with
     | false=>rfl
     | true=>rw [hap rfl,if_neg (by simp;have:¬ yg < 1:=fun h=>htk ⟨rfl,h⟩;omega)]
    clear HNX hap
    cases mb with
    | false =>
     go_wp2_with (fail)
     clear u3
     go_roundg (L.length - (i + 1))
     case measure=>have:=HG.out;omega
     case rel=>exact ⟨i + 1,om,cm,M,rfl,by go_num,by omega,by omega,rfl,HK,HE.out.symm⟩
    | true =>
     have hyg:¬ yg < 1:=fun h=>htk ⟨rfl,h⟩
     go_wp2_with (fail)
     clear u3 hyg
     go_roundg (L.length - (i + 1))
     case measure=>have:=HG.out;omega
     case rel=>exact ⟨i + 1,om,cm,M,rfl,by go_num,by omega,by omega,rfl,HK,HE.out.symm⟩
  ·obtain rfl:i = L.length:=by omega
   clear HA0 HL
   go_wp2_with (fail)
   exact bodyPost_ret (v:=.slice om M.length cm) (by simp [results,Tryz.results15,go_sem]) rfl ⟨_,rfl,by rw [<- HE.out];exact ⟨own_le HK.out.2.2.2 HXS.out,HK.out.1⟩⟩
end
section
theorem short_small {p:Pt} (hp:p.inB 1048576 = true):p.short = p.low.low:=by
 unfold Pt.short
 rw [if_pos (inB_mono hp (by decide))]
 unfold Pt.half
 rw [halveF_id _ _ (Pt.low_in hp)]
theorem ex_low:∀ n,n < 161->0 < n->(Pt.low (Pt.low ⟨(n:Nat),0,0⟩)) = ⟨1,0,0⟩:=by decide +kernel
theorem ex_short_n {n:Nat} (h:n < 161) (h0:0 < n):Pt.short ⟨(n:Int),0,0⟩ = ⟨1,0,0⟩:=by
 rw [short_small (by rw [Pt.inB_iff];dsimp only;omega)]
 exact ex_low n h h0
theorem ex_short_0:Pt.short ⟨0,0,0⟩ = ⟨0,0,0⟩:=by
 rw [short_small (by decide)]
 decide +kernel
theorem ex_lng_0:Pt.lng ⟨0,0,0⟩ = Pt.O:=by
 unfold Pt.lng
 rw [ex_short_0,if_pos (by rfl)]
abbrev exB:Cr:=⟨[⟨20,0,0⟩],[],[],2⟩
theorem ex_wayE {d:Pt} (h:d = ⟨1,0,0⟩ \/ d = ⟨0,0,0⟩):wayE d ⟨1,0,0⟩ = ⟨0,0,0⟩:=by
 have e:Pt.cross ⟨1,0,0⟩ d = ⟨0,0,0⟩:=by rcases h with rfl | rfl <;> decide
 unfold wayE
 rw [e,ex_short_0]
 decide
theorem exw_told {n:Nat} (h1:1 <= n) (h2:n <= 20) (r:Int):told ⟨[⟨0,0,0⟩,⟨n,0,0⟩],[],[⟨1,0,0⟩],r⟩ exB = (⟨1048576,0,0⟩,20 - n - r - 2):=by
 have d0:wayD ⟨0,0,0⟩ ⟨20,0,0⟩ = ⟨1,0,0⟩:=ex_short_n (n:=20) (by omega) (by omega)
 have hc:candL ⟨[⟨0,0,0⟩,⟨n,0,0⟩],[],[⟨1,0,0⟩],r⟩ exB = [⟨1,0,0⟩,⟨0,0,0⟩,wayD ⟨n,0,0⟩ ⟨20,0,0⟩,wayE (wayD ⟨n,0,0⟩ ⟨20,0,0⟩) ⟨1,0,0⟩]:=by
  unfold candL crossL wayL wayR wayG
  simp [d0,ex_wayE]
 have ro1:room ⟨1048576,0,0⟩ [⟨0,0,0⟩,⟨n,0,0⟩] [⟨20,0,0⟩] = (20 - n) * 1048576:=by
  unfold room loP hiP
  simp [loK,hiK,pt,Pt.dot]
  omega
 have ro2:room ⟨-1048576,0,0⟩ [⟨0,0,0⟩,⟨n,0,0⟩] [⟨20,0,0⟩] = (-20) * 1048576:=by
  unfold room loP hiP
  simp [loK,hiK,pt,Pt.dot]
  omega
 have hb:∃ M,both (candL ⟨[⟨0,0,0⟩,⟨n,0,0⟩],[],[⟨1,0,0⟩],r⟩ exB) = ⟨1048576,0,0⟩ :: ⟨-1048576,0,0⟩ :: M/\∀ m ∈ M,m = (⟨1048576,0,0⟩:Pt) \/ m = ⟨-1048576,0,0⟩:=by
  rw [hc]
  by_cases hn:n = 20
  ·subst hn
   have d1:wayD ⟨((20:Nat):Int),0,0⟩ ⟨20,0,0⟩ = ⟨0,0,0⟩:=ex_short_0
   rw [d1,ex_wayE (Or.inr rfl)]
   refine ⟨[],?_,by simp⟩
   simp only [both,ex_lng,ex_lng_0]
   rfl
  ·have d1:wayD ⟨(n:Int),0,0⟩ ⟨20,0,0⟩ = ⟨1,0,0⟩:=by
    have e:Pt.sub ⟨20,0,0⟩ ⟨(n:Int),0,0⟩ = ⟨((20 - n:Nat):Int),0,0⟩:=by
     unfold Pt.sub
     simp
     omega
    unfold wayD
    rw [e]
    exact ex_short_n (by omega) (by omega)
   rw [d1,ex_wayE (Or.inl rfl)]
   refine ⟨[⟨1048576,0,0⟩,⟨-1048576,0,0⟩],?_,by simp⟩
   simp only [both,ex_lng,ex_lng_0]
   rfl
 obtain ⟨M,hM,hMm⟩:=hb
 exact told_x hM hMm ro1 ro2 (by omega)
theorem exw_told0 (r:Int):told ⟨[⟨0,0,0⟩],[],[],r⟩ exB = (⟨1048576,0,0⟩,20 - r - 2):=by
 have d0:wayD ⟨0,0,0⟩ ⟨20,0,0⟩ = ⟨1,0,0⟩:=ex_short_n (n:=20) (by omega) (by omega)
 have hc:candL ⟨[⟨0,0,0⟩],[],[],r⟩ exB = [⟨1,0,0⟩]:=by
  unfold candL crossL wayL wayR wayG
  simp [d0]
 have ro1:room ⟨1048576,0,0⟩ [⟨0,0,0⟩] [⟨20,0,0⟩] = 20 * 1048576:=by
  unfold room loP hiP
  simp [loK,hiK,pt,Pt.dot]
 have ro2:room ⟨-1048576,0,0⟩ [⟨0,0,0⟩] [⟨20,0,0⟩] = (-20) * 1048576:=by
  unfold room loP hiP
  simp [loK,hiK,pt,Pt.dot]
 have hb:both (candL ⟨[⟨0,0,0⟩],[],[],r⟩ exB) = ⟨1048576,0,0⟩ :: ⟨-1048576,0,0⟩ :: []:=by
  rw [hc]
  simp only [both,ex_lng]
  rfl
 exact told_x hb (by simp) ro1 ro2 (by omega)
theorem ex_trail {r m:Int} {k n:Nat} (hr:0 <= r/\r <= 65536) (hm:m = 32 \/ m = 160) (hk:k <= 16) (hn:(m * k).tdiv 16 = n):trailC ⟨[⟨0,0,0⟩],[],[],r⟩ ⟨m,0,0⟩ k = ⟨[⟨0,0,0⟩,⟨n,0,0⟩],[],[⟨1,0,0⟩],r⟩:=by
 have hg:goB ⟨[⟨0,0,0⟩],[],[],r⟩ ⟨m,0,0⟩ = true:=by
  unfold goB
  simp only [Bool.and_eq_true,decide_eq_true_eq]
  refine ⟨⟨⟨⟨⟨by simp,by decide⟩,by simp⟩,by simp⟩,hr⟩,by rw [Pt.inB_iff];rcases hm with rfl | rfl <;> decide⟩
 rw [trail_yes hg (by omega)]
 have hs:Pt.short ⟨m,0,0⟩ = ⟨1,0,0⟩:=by
  rcases hm with rfl | rfl
  ·exact ex_short_n (n:=32) (by omega) (by omega)
  ·exact ex_short_n (n:=160) (by omega) (by omega)
 rw [hs]
 have hw:wayBy ⟨m,0,0⟩ (k:Int) = ⟨(n:Int),0,0⟩:=by
  unfold wayBy
  dsimp only
  rw [hn]
  simp
 rw [hw]
 simp [Pt.mov,keepD,Pt.O]
theorem ex_mayT {r:Int} {n:Nat} (hr:0 <= r/\r <= 65536) (hn:n <= 160):mayC ⟨[⟨0,0,0⟩,⟨(n:Int),0,0⟩],[],[⟨1,0,0⟩],r⟩ = true:=by
 unfold mayC
 simp only [Bool.and_eq_true,decide_eq_true_eq,List.all_eq_true]
 refine ⟨⟨⟨⟨by simp,?_⟩,by simp⟩,⟨by simp,by decide⟩⟩,hr⟩
 intro p hp
 simp only [List.mem_cons,List.not_mem_nil,or_false] at hp
 rcases hp with rfl | rfl
 ·decide
 ·rw [Pt.inB_iff];dsimp only;omega
theorem ex_apP {r:Int} {n:Nat} (hr:0 <= r/\r <= 65536) (h1:1 <= n) (h2:n <= 20):apP ⟨[⟨0,0,0⟩,⟨(n:Int),0,0⟩],[],[⟨1,0,0⟩],r⟩ exB = (⟨1048576,0,0⟩,20 - n - r - 2):=by
 unfold apP
 rw [ex_mayT hr (by omega),show mayC exB = true from by decide,Bool.and_self,if_pos rfl]
 exact exw_told h1 h2 r
theorem ex_apP0 {r:Int} (hr:0 <= r/\r <= 65536):apP ⟨[⟨0,0,0⟩],[],[],r⟩ exB = (⟨1048576,0,0⟩,20 - r - 2):=by
 unfold apP
 have:mayC ⟨[⟨0,0,0⟩],[],[],r⟩ = true:=by
  unfold mayC
  simp only [Bool.and_eq_true,decide_eq_true_eq]
  exact ⟨⟨⟨⟨by simp,by decide⟩,by simp⟩,by simp⟩,hr⟩
 rw [this,show mayC exB = true from by decide,Bool.and_self,if_pos rfl]
 exact exw_told0 r
theorem ex_castB {r m:Int} (hr:0 <= r/\r <= 65536) (hm:m = 32 \/ m = 160):castB ⟨[⟨0,0,0⟩],[],[],r⟩ ⟨m,0,0⟩ exB = true:=by
 unfold castB
 simp only [Bool.and_eq_true]
 refine ⟨⟨?_,by rcases hm with rfl | rfl <;> decide⟩,by decide⟩
 unfold goB
 simp only [Bool.and_eq_true,decide_eq_true_eq]
 exact ⟨⟨⟨⟨⟨by simp,by decide⟩,by simp⟩,by simp⟩,hr⟩,by rw [Pt.inB_iff];rcases hm with rfl | rfl <;> decide⟩
theorem ex_go {r m:Int} {k n j:Nat} {x:Pt × Int} (hr:0 <= r/\r <= 65536) (hm:m = 32 \/ m = 160) (hk:k + 1 <= 16) (hn:(m * ((k + 1:Nat):Int)).tdiv 16 = n) (h1:1 <= n) (h2:n <= 20):castF ⟨[⟨0,0,0⟩],[],[],r⟩ ⟨m,0,0⟩ exB (j + 1) k x = if (20 - n - r - 2:Int) < 0 then (k,x) else castF ⟨[⟨0,0,0⟩],[],[],r⟩ ⟨m,0,0⟩ exB j (k + 1) (⟨1048576,0,0⟩,20 - n - r - 2):=by
 have e:apP (trailC ⟨[⟨0,0,0⟩],[],[],r⟩ ⟨m,0,0⟩ ((k:Int) + 1)) exB = (⟨1048576,0,0⟩,20 - n - r - 2):=by
  rw [show ((k:Int) + 1) = ((k + 1:Nat):Int) by omega,ex_trail hr hm hk hn,ex_apP hr h1 h2]
 simp only [castF]
 rw [e]
theorem ex_cast:castR ⟨[⟨0,0,0⟩],[],[],2⟩ ⟨32,0,0⟩ exB = (8,⟨1048576,0,0⟩,0):=by
 unfold castR
 rw [ex_castB (by decide) (Or.inl rfl),if_pos rfl,ex_apP0 (by decide),if_neg (by decide)]
 rw [ex_go (n:=2) (by decide) (Or.inl rfl) (by decide) (by decide) (by decide) (by decide),if_neg (by decide)]
 rw [ex_go (n:=4) (by decide) (Or.inl rfl) (by decide) (by decide) (by decide) (by decide),if_neg (by decide)]
 rw [ex_go (n:=6) (by decide) (Or.inl rfl) (by decide) (by decide) (by decide) (by decide),if_neg (by decide)]
 rw [ex_go (n:=8) (by decide) (Or.inl rfl) (by decide) (by decide) (by decide) (by decide),if_neg (by decide)]
 rw [ex_go (n:=10) (by decide) (Or.inl rfl) (by decide) (by decide) (by decide) (by decide),if_neg (by decide)]
 rw [ex_go (n:=12) (by decide) (Or.inl rfl) (by decide) (by decide) (by decide) (by decide),if_neg (by decide)]
 rw [ex_go (n:=14) (by decide) (Or.inl rfl) (by decide) (by decide) (by decide) (by decide),if_neg (by decide)]
 rw [ex_go (n:=16) (by decide) (Or.inl rfl) (by decide) (by decide) (by decide) (by decide),if_neg (by decide)]
 rw [ex_go (n:=18) (by decide) (Or.inl rfl) (by decide) (by decide) (by decide) (by decide),if_pos (by decide)]
 rfl
theorem ex_rayc:castR (dotC ⟨0,0,0⟩) ⟨160,0,0⟩ exB = (1,⟨1048576,0,0⟩,8):=by
 unfold castR dotC
 rw [ex_castB (by decide) (Or.inr rfl),if_pos rfl,ex_apP0 (by decide),if_neg (by decide)]
 rw [ex_go (n:=10) (by decide) (Or.inr rfl) (by decide) (by decide) (by decide) (by decide),if_neg (by decide)]
 rw [ex_go (n:=20) (by decide) (Or.inr rfl) (by decide) (by decide) (by decide) (by decide),if_pos (by decide)]
 rfl
theorem ex_ray:rayV (dotC ⟨0,0,0⟩) ⟨160,0,0⟩ [exB] = .tuple #[.int .i64 0,.int .i64 1,.bool true]:=by
 have hg:goB (dotC ⟨0,0,0⟩) ⟨160,0,0⟩ = true:=by decide
 have ht:rayT (dotC ⟨0,0,0⟩) ⟨160,0,0⟩ exB = some 1:=by
  unfold rayT
  rw [ex_rayc,show castB (dotC ⟨0,0,0⟩) ⟨160,0,0⟩ exB = true from ex_castB (by decide) (Or.inr rfl)]
  rfl
 unfold rayV
 rw [hg,if_pos rfl]
 have:bestK (rayT (dotC ⟨0,0,0⟩) ⟨160,0,0⟩) rayB [exB] [exB].length = some (0,1):=bestK_first _ _ _ ht rfl
 rw [this]
 rfl
end
section
open Go.RowKit Go.Shelf
theorem wpick_any (c n:Int) (w:World) (hc:-9223372036854775808 <= c/\c <= 9223372036854775807) (hn:0 < n) (hn':n <= 9223372036854775807) :
  Calls Tryz.prog 7 #[.int .i64 c,.int .i64 n] w fun e w'=>e = .returned (.int .i64 (pickY c n))/\w' = w:=by
 unfold pickY
 by_cases h:c < 0
 ·have hb:0 <= -(c + 1):=by omega
  have hb':-(c + 1) <= 9223372036854775807:=by omega
  have hz:(n == 0) = false:=beq_eq_false_iff_ne.2 (by omega)
  rw [if_pos h]
  go_enter Tryz.func7,Tryz.ntmps7
  go_wp2
  go_ret
  have e:(c + 1).tmod n = -(-(c + 1) % n):=by
   rw [<- Int.tmod_eq_emod_of_nonneg hb,Int.neg_tmod,Int.neg_neg]
  exact ⟨by rw [e,Int.neg_neg];rfl,rfl⟩
 ·have hz:(n == 0) = false:=beq_eq_false_iff_ne.2 (by omega)
  rw [if_neg h]
  go_enter Tryz.func7,Tryz.ntmps7
  go_wp2
  go_ret
  exact ⟨rfl,rfl⟩
theorem liesC_one {W:World} {g:Nat} {c:Cr} {pv av ev:Value} (h:Cel W g [pv,av,ev,.int .i64 c.r]) (l1:Lies W pv c.P) (l2:Lies W av c.A) (l3:Lies W ev c.E):LiesC W (.slice (some ⟨g,0,none⟩) 1 1) [c]:=by
 refine ⟨_,1,rfl,Nat.le_refl _,by omega,fun i hi=>?_⟩
 have e:i = 0:=by simp at hi;exact hi
 subst e
 exact ⟨g,0,pv,av,ev,rfl,h 0 _ rfl,h 1 _ rfl,h 2 _ rfl,h 3 _ rfl,l1,l2,l3⟩
theorem wawake_any (w0:World):Calls Tryz.prog 5 #[] w0 fun e W=>e = .returned (.bool true)/\Below w0.heap.size w0 W:=by
 have HCS:Hid _:=fun (v1 v2:Value) (w':World) (h1:Lies w' v1 [⟨0,0,0⟩]) (h2:Lies w' v2 [⟨20,0,0⟩])=>wcast_any ⟨[⟨0,0,0⟩],[],[],2⟩ ⟨32,0,0⟩ exB v1 (.slice none 0 0) (.slice none 0 0) v2 (.slice none 0 0) (.slice none 0 0) w' h1 (lies_nil9 _) (lies_nil9 _) h2 (lies_nil9 _) (lies_nil9 _)
 rw [ex_cast,ex_castB (by decide) (Or.inl rfl)] at HCS
 have HRY:Hid _:=fun (g:Nat) (v2:Value) (w':World) (hc:Cel w' g [v2,.slice none 0 0,.slice none 0 0,.int .i64 2]) (h2:Lies w' v2 [⟨20,0,0⟩])=>wray_any ⟨0,0,0⟩ ⟨160,0,0⟩ [exB] _ w' (liesC_one (c:=exB) hc h2 (lies_nil9 _) (lies_nil9 _))
 rw [ex_ray] at HRY
 unfold coreA Pt.v apV at *
 dsimp only at HCS HRY
 obtain ⟨X,hX⟩:∃ V,V = (((w0.alloc (.cells #[.int .i64 0,.int .i64 0,.int .i64 0] 23)).alloc (.cells #[.slice (some ⟨w0.heap.size,0,none⟩) 1 1,.slice none 0 0,.slice none 0 0,.int .i64 2] 36)).alloc (.cells #[.int .i64 20,.int .i64 0,.int .i64 0] 23)).alloc (.cells #[.slice (some ⟨w0.heap.size + 1 + 1,0,none⟩) 1 1,.slice none 0 0,.slice none 0 0,.int .i64 2] 36):=⟨_,rfl⟩
 obtain ⟨pa,hpa⟩:∃ b,b = w0.heap.size:=⟨_,rfl⟩
 obtain ⟨ab,hab⟩:∃ b,b = w0.heap.size + 1:=⟨_,rfl⟩
 obtain ⟨pb,hpb⟩:∃ b,b = w0.heap.size + 1 + 1:=⟨_,rfl⟩
 obtain ⟨bb,hbb⟩:∃ b,b = w0.heap.size + 1 + 1 + 1:=⟨_,rfl⟩
 have n1:=Cel.new w0 [.int .i64 0,.int .i64 0,.int .i64 0] 23
 have n2:=Cel.new (w0.alloc (.cells #[.int .i64 0,.int .i64 0,.int .i64 0] 23)) [.slice (some ⟨w0.heap.size,0,none⟩) 1 1,.slice none 0 0,.slice none 0 0,.int .i64 2] 36
 rw [World.size_alloc] at n2
 have n3:=Cel.new ((w0.alloc (.cells #[.int .i64 0,.int .i64 0,.int .i64 0] 23)).alloc (.cells #[.slice (some ⟨w0.heap.size,0,none⟩) 1 1,.slice none 0 0,.slice none 0 0,.int .i64 2] 36)) [.int .i64 20,.int .i64 0,.int .i64 0] 23
 rw [World.size_alloc,World.size_alloc] at n3
 have n4:=Cel.new (((w0.alloc (.cells #[.int .i64 0,.int .i64 0,.int .i64 0] 23)).alloc (.cells #[.slice (some ⟨w0.heap.size,0,none⟩) 1 1,.slice none 0 0,.slice none 0 0,.int .i64 2] 36)).alloc (.cells #[.int .i64 20,.int .i64 0,.int .i64 0] 23)) [.slice (some ⟨w0.heap.size + 1 + 1,0,none⟩) 1 1,.slice none 0 0,.slice none 0 0,.int .i64 2] 36
 rw [World.size_alloc,World.size_alloc,World.size_alloc] at n4
 have L1:Hid (Lies X (.slice (some ⟨pa,0,none⟩) 1 1) [⟨0,0,0⟩]):=by show Lies _ _ _;rw [hX,hpa];exact lies_one9 (((n1.step (n_after _ _)).step (n_after _ _)).step (n_after _ _))
 have C1:Hid (Cel X ab [.slice (some ⟨pa,0,none⟩) 1 1,.slice none 0 0,.slice none 0 0,.int .i64 2]):=by show Cel _ _ _;rw [hX,hab,hpa];exact (n2.step (n_after _ _)).step (n_after _ _)
 have L2:Hid (Lies X (.slice (some ⟨pb,0,none⟩) 1 1) [⟨20,0,0⟩]):=by show Lies _ _ _;rw [hX,hpb];exact lies_one9 (n3.step (n_after _ _))
 have C2:Hid (Cel X bb [.slice (some ⟨pb,0,none⟩) 1 1,.slice none 0 0,.slice none 0 0,.int .i64 2]):=by show Cel _ _ _;rw [hX,hbb,hpb];exact n4
 have HB:Hid (Below w0.heap.size w0 X):=by show Below _ _ _;rw [hX];exact b_step (b_step (b_step (n_after _ _) (n_after _ _)) (n_after _ _)) (n_after _ _)
 clear n1 n2 n3 n4
 go_enter Tryz.func5,Tryz.ntmps5
 go_upto_region 3 with fail
 rw [<- hX,<- hbb,<- hpb,<- hab,<- hpa]
 clear hX hbb hpb hab hpa
 have x0:=C1.out 0 _ rfl
 have x1:=C1.out 1 _ rfl
 have x2:=C1.out 2 _ rfl
 have x3:=C1.out 3 _ rfl
 have y0:=C2.out 0 _ rfl
 have y1:=C2.out 1 _ rfl
 have y2:=C2.out 2 _ rfl
 have y3:=C2.out 3 _ rfl
 go_wp2_with (fail)
 refine Calls.mono (HCS.out _ _ _ L1.out L2.out) ?_
 rintro e V1 ⟨rfl,hb⟩
 have C2:Hid (Cel _ _ _):=C2.out.step hb
 have L2:Hid _:=L2.out.below hb
 have HB:Hid _:=b_step HB.out hb
 clear hb x0 x1 x2 x3 y0 y1 y2 y3 HCS C1 L1
 obtain ⟨V2,hV2⟩:∃ V,V = V1.alloc (.cells #[.int .i64 1048576,.int .i64 0,.int .i64 0,.int .i64 0] 41):=⟨_,rfl⟩
 obtain ⟨xb,hxb⟩:∃ b,b = V1.heap.size:=⟨_,rfl⟩
 have hb2:Below V1.heap.size V1 V2:=by rw [hV2];exact n_after _ _
 have CX:Hid (Cel V2 xb [.int .i64 1048576,.int .i64 0,.int .i64 0,.int .i64 0]):=by show Cel _ _ _;rw [hV2,hxb];exact Cel.new V1 [.int .i64 1048576,.int .i64 0,.int .i64 0,.int .i64 0] 41
 have C2:Hid (Cel _ _ _):=C2.out.step hb2
 have L2:Hid _:=L2.out.below hb2
 have HB:Hid _:=b_step HB.out hb2
 go_upto_region 4 with fail
 rw [<- hV2,<- hxb]
 clear hV2 hxb hb2
 have y0:=C2.out 0 _ rfl
 have y1:=C2.out 1 _ rfl
 have y2:=C2.out 2 _ rfl
 have y3:=C2.out 3 _ rfl
 have hb3:=n_after V2 (.cells #[.slice (some ⟨pb,0,none⟩) 1 1,.slice none 0 0,.slice none 0 0,.int .i64 2] 36)
 have HRY2:Hid _:=HRY.out V2.heap.size (.slice (some ⟨pb,0,none⟩) 1 1) _ (Cel.new V2 [.slice (some ⟨pb,0,none⟩) 1 1,.slice none 0 0,.slice none 0 0,.int .i64 2] 36) (L2.out.below hb3)
 have HB:Hid _:=b_step HB.out hb3
 have CX:Hid (Cel _ _ _):=CX.out.step hb3
 clear HRY hb3
 go_wp2_with (fail)
 refine Calls.mono HRY2.out ?_
 rintro e V3 ⟨rfl,hb⟩
 have CX:Hid (Cel _ _ _):=CX.out.step hb
 have HB:Hid _:=b_step HB.out hb
 clear hb y0 y1 y2 y3 HRY2 C2 L2
 have x0:=CX.out 0 _ rfl
 have x1:=CX.out 1 _ rfl
 have x2:=CX.out 2 _ rfl
 have x3:=CX.out 3 _ rfl
 go_wp2_with (fail)
 go_ret
 exact ⟨rfl,HB.out⟩
end
section
open Go.RowKit Go.Shelf
def highI (a b:Int):Int:=if b > a then b else a
def Pt.plus (p q:Pt):Pt:=⟨IntKind.i64.wrap (p.x + q.x),IntKind.i64.wrap (p.y + q.y),IntKind.i64.wrap (p.z + q.z)⟩
def Pt.greater (p q:Pt):Pt:=⟨highI p.x q.x,highI p.y q.y,highI p.z q.z⟩
def Pt.le (p q:Pt):Bool:=decide (p.x <= q.x/\p.y <= q.y/\p.z <= q.z)
structure Bx where
 lo:Pt
 hi:Pt
def Bx.v (b:Bx):Value:=.agg #[.int .i64 b.lo.x,.int .i64 b.lo.y,.int .i64 b.lo.z,.int .i64 b.hi.x,.int .i64 b.hi.y,.int .i64 b.hi.z]
end
section
open Go.RowKit Go.Shelf
def Bx.grown (a:Bx) (n:Int):Bx:=⟨a.lo.plus ⟨IntKind.i64.wrap (-n),IntKind.i64.wrap (-n),IntKind.i64.wrap (-n)⟩,a.hi.plus ⟨n,n,n⟩⟩
end
section
open Go.RowKit Go.Shelf
def Pt.win (p:Pt) (m:Int):Bool:=p.le ⟨m,m,m⟩ && Pt.le ⟨IntKind.i64.wrap (-m),IntKind.i64.wrap (-m),IntKind.i64.wrap (-m)⟩ p
end
section
open Go.RowKit Go.Shelf
theorem Cells.lt {W:World} {b:Nat} {u:Value} {vs:List Value} (h:Cells W b (u :: vs)):b < W.heap.size:=World.block_lt_of_cell? _ _ (h 0 u rfl).1
theorem Cells.apart {W:World} {b b':Nat} {vs:List Value} (h:Cells W b vs) (hne:b ≠ b') (o:Nat) (u:Value):Cells (W.setCell ⟨b',o,none⟩ u) b vs:=fun i v e =>
 ⟨by simp [go_sem,(h i v e).1],by simp [go_sem,(h i v e).2]⟩
def coreV (pv av ev:Value) (r:Int):Value:=.agg #[pv,av,ev,.int .i64 r]
theorem Cells.grew {A B:World} {row:Option Nat} {b:Nat} {vs:List Value} (h:Cells A b vs) (hg:A.grownBy B row) (hb:∀ r,row = some r->r ≠ b):Cells B b vs:=fun i v e=>by
 have hlt:=World.block_lt_of_cell? _ _ (h i v e).1
 have hbl:=hg.block b hlt (fun e=>hb b e.symm rfl)
 exact ⟨(World.cell?_of_block (w:=A) hbl).trans (h i v e).1,(World.frozen?_of_block (w:=A) hbl).trans (h i v e).2⟩
end
section
open Go.RowKit Fx
def NRow (w:World) (a:Option Addr) (zs:List Int):Prop:=zs.length = 0 \/ ∃ b off,a = some ⟨b,off,none⟩/\∀ k,k < zs.length->w.cell? ⟨b,off + k,none⟩ = some (.int .i64 (zs.getD k 0))
end
section
open Go.RowKit Fx
structure Leaves (p:Addr) (W W':World):Prop where
 size:W.heap.size <= W'.heap.size
 other:∀ q:Addr,q.block < W.heap.size->q.block ≠ p.block->W'.cell? q = W.cell? q/\W'.frozen? q = W.frozen? q
 below:∀ (B:Nat) (w:World),Below B w W->B <= p.block->B <= W.heap.size->Below B w W'
 kept:W'.os = W.os/\W'.tape = W.tape/\W'.output = W.output/\∀ k,k < W.heap.size->k ≠ p.block->W'.heap[k]? = W.heap[k]?
 beside:p.block < W.heap.size->∀ o,o ≠ p.off->W'.cell? ⟨p.block,o,none⟩ = W.cell? ⟨p.block,o,none⟩/\W'.frozen? ⟨p.block,o,none⟩ = W.frozen? ⟨p.block,o,none⟩
theorem Leaves.refl (p:Addr) (W:World):Leaves p W W:=⟨Nat.le_refl _,fun _ _ _=>⟨rfl,rfl⟩,fun _ _ h _ _=>h,⟨rfl,rfl,rfl,fun _ _ _=>rfl⟩,fun _ _ _=>⟨rfl,rfl⟩⟩
theorem Leaves.step {p:Addr} {W w w':World} (h:Leaves p W w) (k:Below W.heap.size w w'):Leaves p W w':=by
 refine ⟨Nat.le_trans h.size k.size,fun q hq hne=>?_,fun B w0 hb h1 h2=>(h.below B w0 hb h1 h2).trans (k.mono h2),⟨k.os.trans h.kept.1,k.tape.trans h.kept.2.1,k.output.trans h.kept.2.2.1,fun i hi hne=>(k.block i hi).trans (h.kept.2.2.2 i hi hne)⟩,fun hp o ho=>?_⟩
 ·exact ⟨(k.cell hq).trans (h.other q hq hne).1,(k.frozen hq).trans (h.other q hq hne).2⟩
 ·exact ⟨(k.cell (p:=⟨p.block,o,none⟩) hp).trans (h.beside hp o ho).1,(k.frozen (p:=⟨p.block,o,none⟩) hp).trans (h.beside hp o ho).2⟩
theorem Leaves.alloc {p:Addr} {W w:World} (h:Leaves p W w) (o:Obj):Leaves p W (w.alloc o):=h.step ((new_after w o).mono h.size)
theorem Leaves.set {p:Addr} {W w:World} (h:Leaves p W w) {a:Addr} (ha:W.heap.size <= a.block) (v:Value):Leaves p W (w.setCell a v):=h.step ((Below.refl _ _).setCell ha v)
theorem Leaves.after {p q:Addr} {g:Bool} {W w w':World} (h:Leaves p W w) (a:After q g w w') (hq:W.heap.size <= q.block):Leaves p W w':=
 h.step (a.below _ _ (Below.refl _ _) hq h.size)
theorem Leaves.same {p:Addr} {g:Bool} {W w w':World} (h:Leaves p W w) (a:After p g w w'):Leaves p W w':=by
 refine ⟨Nat.le_trans h.size a.size,fun x hx hne=>?_,fun B w0 hb h1 h2=>a.below B w0 (h.below B w0 hb h1 h2) h1 (Nat.le_trans h2 h.size),⟨a.kept.1.trans h.kept.1,a.kept.2.1.trans h.kept.2.1,a.kept.2.2.1.trans h.kept.2.2.1,fun i hi hne=>(a.kept.2.2.2 i (Nat.lt_of_lt_of_le hi h.size) hne).trans (h.kept.2.2.2 i hi hne)⟩,fun hp o ho=>?_⟩
 ·have hlt:x.block < w.heap.size:=Nat.lt_of_lt_of_le hx h.size
  have:=a.other x hlt hne
  exact ⟨this.1.trans (h.other x hx hne).1,this.2.trans (h.other x hx hne).2⟩
 ·have:=a.beside (Nat.lt_of_lt_of_le hp h.size) o ho
  exact ⟨this.1.trans (h.beside hp o ho).1,this.2.trans (h.beside hp o ho).2⟩
theorem Leaves.done {p:Addr} {g:Bool} {W W':World} (h:Leaves p W W') (hc:W'.cell? p = some (.bool g)) (hf:W'.frozen? p = false):After p g W W':=⟨hc,hf,h.size,h.other,h.below,h.kept,h.beside⟩
structure V3 where
 x:Int
 y:Int
 z:Int
structure V4 where
 w:Int
 x:Int
 y:Int
 z:Int
@[reducible] def V3.val (v:V3):Value:=.agg #[.int .i64 v.x,.int .i64 v.y,.int .i64 v.z]
@[reducible] def V4.val (v:V4):Value:=.agg #[.int .i64 v.w,.int .i64 v.x,.int .i64 v.y,.int .i64 v.z]
def V3.zero:V3:=⟨0,0,0⟩
def V4.zero:V4:=⟨0,0,0,0⟩
end
section
open Go.RowKit Fx
structure Shape where
 k:Nat
 v:Value
 n:Nat
@[reducible] def Shape.is (v:Value):Shape:=⟨0,v,0⟩
@[reducible] def Shape.ptr:Shape:=⟨1,undef,0⟩
@[reducible] def Shape.row (n:Nat):Shape:=⟨2,undef,n⟩
structure Made where
 i:Nat
 s:Nat
 cs:List Value
structure Plan where
 W:World
 N:Nat
 p:Addr
 fl:Addr
 g0:Bool
 bad:Bool
 f:Bool
 calls:List (Nat × Bool)
 tl:Nat
 st:Nat
 r:Nat
 res:List Value
 fixed:List (Addr × Value)
 made:List Made
structure Plan.Good (π:Plan):Prop where
 wn:π.W.heap.size <= π.N
 rr:π.res = [] \/ (π.W.heap.size <= π.r/\π.r < π.N/\π.fl.block ≠ π.r/\π.p.block ≠ π.r/\∀ c ∈ π.fixed,c.1.block ≠ π.r)
 fl0:π.fl = π.p \/ π.W.heap.size <= π.fl.block
 fl1:π.fl.block < π.N
 p0:π.fl = π.p \/ π.p.block < π.W.heap.size
 fx:∀ c ∈ π.fixed,c.1.block < π.N/\c.1.block ≠ π.fl.block/\c.1.block ≠ π.p.block
 badOf:π.bad = true->π.g0 = true \/ ∃ c ∈ π.calls,c.2 = true
 callBad:∀ c ∈ π.calls,c.2 = true->π.bad = true
def upd (γ:Nat->Nat) (i b:Nat):Nat->Nat:=fun j=>if j = i then b else γ j
section
variable {P:Program} {Q:Exit->Act->World->Prop} {D:Nat->Option Tmp} {A:Nat->Nat->Prop} {sh:Nat->Shape} {π:Plan} {a₀:Act}
end
end
section
open Go.RowKit Go.Shelf Fx
structure Bd where
 k:Int
 s:V3
 q:V4
 p:V3
 l:V3
 m:Int
 i:V3
def Bd.L (b:Bd) (R:List Value):List Value:=
 .int .i64 b.k :: .int .i64 b.s.x :: .int .i64 b.s.y :: .int .i64 b.s.z :: .int .i64 b.q.w :: .int .i64 b.q.x :: .int .i64 b.q.y :: .int .i64 b.q.z ::
 .int .i64 b.p.x :: .int .i64 b.p.y :: .int .i64 b.p.z :: .int .i64 b.l.x :: .int .i64 b.l.y :: .int .i64 b.l.z ::
 .int .i64 b.m :: .int .i64 b.i.x :: .int .i64 b.i.y :: .int .i64 b.i.z :: R
def CW (W:World) (b:Nat) (vs:List Value):Prop:=∀ i v,vs[i]? = some v->W.cell? ⟨b,i,none⟩ = some v/\W.frozen? ⟨b,i,none⟩ = false
section
variable {V:World} {p:Addr} {f:Bool} {cs:List (Nat × Bool)} {st:Nat} {S:World->World} {L:Nat->Bool} {w w':World} {i:Nat}
end
end
section
open Go.RowKit Fx
theorem Leaves.own {p:Addr} {W w:World} (h:Leaves p W w) (v:Value):Leaves p W (w.setCell p v):=by
 refine ⟨by simpa [World.setCell] using h.size,fun q hq hne=>?_,fun B w' hb h1 h2=>(h.below B w' hb h1 h2).setCell h1 v,⟨h.kept.1,h.kept.2.1,h.kept.2.2.1,fun i hi hne=>(Below.heap_setCell _ _ _ _ hne).trans (h.kept.2.2.2 i hi hne)⟩,fun hp o ho=>⟨(World.cell?_setCell_other _ _ _ _ (fun e=>ho (by cases p;exact ((Addr.mk.inj e).2.1).symm))).trans (h.beside hp o ho).1,by rw [show (w.setCell p v).frozen? ⟨p.block,o,none⟩ = w.frozen? ⟨p.block,o,none⟩ by simp [go_sem]];exact (h.beside hp o ho).2⟩⟩
 exact ⟨(World.cell?_of_block (w:=w) (Below.heap_setCell _ _ _ _ hne)).trans (h.other q hq hne).1,(World.frozen?_of_block (w:=w) (Below.heap_setCell _ _ _ _ hne)).trans (h.other q hq hne).2⟩
end
section
open Go.RowKit Fx
def Step3 (f:Bool) (a b c:Option Int) (x y z:Int) (g:Bool):Prop:=
 x = cond (a.isNone || b.isNone || c.isNone) 0 (a.getD 0)/\y = cond (a.isNone || b.isNone || c.isNone) 0 (b.getD 0)/\z = cond (a.isNone || b.isNone || c.isNone) 0 (c.getD 0)/\g = (f || (a.isNone || b.isNone || c.isNone))
theorem row3 {w:World} {b:Nat} {x y z:Int} (h0:w.cell? ⟨b,0,none⟩ = some (.int .i64 x)) (h1:w.cell? ⟨b,1,none⟩ = some (.int .i64 y)) (h2:w.cell? ⟨b,2,none⟩ = some (.int .i64 z)):NRow w (some ⟨b,0,none⟩) [x,y,z]:=
 Or.inr ⟨b,0,rfl,fun k hk=>by
  match k,hk with
  | 0,_=>exact h0
  | 1,_=>exact h1
  | 2,_=>exact h2⟩
end
section
open Go.RowKit Fx
def rowsBad (q0 q1 q2 q3:Int):Bool:=(((add q0 q0).isNone || (add q1 q1).isNone || (add q2 q2).isNone || (add q3 q3).isNone) || ((sub 0 q0).isNone || (sub 0 q1).isNone || (sub 0 q2).isNone || (sub 0 q3).isNone)) || ([(dot [((add q2 q2).getD 0),((add q3 q3).getD 0)] [q2,q3]).isNone,(sub (4294967296) ((dot [((add q2 q2).getD 0),((add q3 q3).getD 0)] [q2,q3]).getD 0)).isNone,(dot [((add q1 q1).getD 0),((add q0 q0).getD 0)] [q2,((sub 0 q3).getD 0)]).isNone,(dot [((add q1 q1).getD 0),((add q0 q0).getD 0)] [q3,q2]).isNone,(dot [((add q1 q1).getD 0),((add q0 q0).getD 0)] [q2,q3]).isNone,(dot [((add q1 q1).getD 0),((add q3 q3).getD 0)] [q1,q3]).isNone,(sub (4294967296) ((dot [((add q1 q1).getD 0),((add q3 q3).getD 0)] [q1,q3]).getD 0)).isNone,(dot [((add q2 q2).getD 0),((add q0 q0).getD 0)] [q3,((sub 0 q1).getD 0)]).isNone,(dot [((add q1 q1).getD 0),((add q0 q0).getD 0)] [q3,((sub 0 q2).getD 0)]).isNone,(dot [((add q2 q2).getD 0),((add q0 q0).getD 0)] [q3,q1]).isNone,(dot [((add q1 q1).getD 0),((add q2 q2).getD 0)] [q1,q2]).isNone,(sub (4294967296) ((dot [((add q1 q1).getD 0),((add q2 q2).getD 0)] [q1,q2]).getD 0)).isNone]:List Bool).any id
def rowsAt0 (q0 q1 q2 q3:Int):Int:=(sub (4294967296) ((dot [((add q2 q2).getD 0),((add q3 q3).getD 0)] [q2,q3]).getD 0)).getD 0
def rowsAt1 (q0 q1 q2 q3:Int):Int:=(dot [((add q1 q1).getD 0),((add q0 q0).getD 0)] [q2,((sub 0 q3).getD 0)]).getD 0
def rowsAt2 (q0 q1 q2 q3:Int):Int:=(dot [((add q1 q1).getD 0),((add q0 q0).getD 0)] [q3,q2]).getD 0
def rowsAt3 (q0 q1 q2 q3:Int):Int:=(dot [((add q1 q1).getD 0),((add q0 q0).getD 0)] [q2,q3]).getD 0
def rowsAt4 (q0 q1 q2 q3:Int):Int:=(sub (4294967296) ((dot [((add q1 q1).getD 0),((add q3 q3).getD 0)] [q1,q3]).getD 0)).getD 0
def rowsAt5 (q0 q1 q2 q3:Int):Int:=(dot [((add q2 q2).getD 0),((add q0 q0).getD 0)] [q3,((sub 0 q1).getD 0)]).getD 0
def rowsAt6 (q0 q1 q2 q3:Int):Int:=(dot [((add q1 q1).getD 0),((add q0 q0).getD 0)] [q3,((sub 0 q2).getD 0)]).getD 0
def rowsAt7 (q0 q1 q2 q3:Int):Int:=(dot [((add q2 q2).getD 0),((add q0 q0).getD 0)] [q3,q1]).getD 0
def rowsAt8 (q0 q1 q2 q3:Int):Int:=(sub (4294967296) ((dot [((add q1 q1).getD 0),((add q2 q2).getD 0)] [q1,q2]).getD 0)).getD 0
end
section
open Go.RowKit Go.Shelf
structure M9 where
 a0:Int
 a1:Int
 a2:Int
 a3:Int
 a4:Int
 a5:Int
 a6:Int
 a7:Int
 a8:Int
def M9.v (m:M9):Value:=.agg #[.int .i64 m.a0,.int .i64 m.a1,.int .i64 m.a2,.int .i64 m.a3,.int .i64 m.a4,.int .i64 m.a5,.int .i64 m.a6,.int .i64 m.a7,.int .i64 m.a8]
def opt3 (a b c:Option Int):Option Pt:=match a,b,c with
 | some x,some y,some z=>some ⟨x,y,z⟩
 | _,_,_=>none
def M9.turn (m:M9) (x:Pt):Option Pt:=opt3 (Fx.dot [m.a0,m.a1,m.a2] [x.x,x.y,x.z]) (Fx.dot [m.a3,m.a4,m.a5] [x.x,x.y,x.z]) (Fx.dot [m.a6,m.a7,m.a8] [x.x,x.y,x.z])
def Pt.addO (x y:Pt):Option Pt:=opt3 (Fx.add x.x y.x) (Fx.add x.y y.y) (Fx.add x.z y.z)
def Pt.times (p:Pt) (n:Int):Pt:=⟨IntKind.i64.wrap (p.x * n),IntKind.i64.wrap (p.y * n),IntKind.i64.wrap (p.z * n)⟩
theorem step3_pt {f g:Bool} {a b c:Option Int} {x y z:Int} (h:Step3 f a b c x y z g):(⟨x,y,z⟩:Pt) = (opt3 a b c).getD Pt.O/\g = (f || (opt3 a b c).isNone):=by
 obtain ⟨h1,h2,h3,h4⟩:=h
 subst h1 h2 h3 h4
 cases a <;> cases b <;> cases c <;> simp [opt3,Pt.O]
theorem Cells.after {W W':World} {b:Nat} {u:Value} {vs:List Value} {g:Bool} (h:Cells W b (u :: vs)) (A:After ⟨b,0,none⟩ g W W'):Cells W' b (.bool g :: vs):=by
 intro i v e
 have hb:b < W.heap.size:=World.block_lt_of_cell? _ _ (h 0 u rfl).1
 cases i with
 | zero=>simp at e;subst e;exact ⟨A.cell,A.frozen⟩
 | succ i =>
  obtain ⟨h1,h2⟩:=h (i + 1) v (by simpa using e)
  obtain ⟨a1,a2⟩:=A.beside hb (i + 1) (by simp)
  exact ⟨a1.trans h1,a2.trans h2⟩
theorem Cells.beside {W W':World} {b b':Nat} {vs:List Value} {g:Bool} (h:Cells W b vs) (A:After ⟨b',0,none⟩ g W W') (hne:b ≠ b'):Cells W' b vs:=fun i v e =>
 ⟨A.cellOf (h i v e).1 hne,A.frozenOf (h i v e).1 (h i v e).2 hne⟩
theorem Box3.after {W W':World} {b b':Nat} {q:Pt} {g:Bool} (h:Box3 W b q) (A:After ⟨b',0,none⟩ g W W') (hne:b ≠ b'):Box3 W' b q:=
 ⟨A.cellOf h.c0 hne,A.cellOf h.c1 hne,A.cellOf h.c2 hne,A.frozenOf h.c0 h.f0 hne,A.frozenOf h.c1 h.f1 hne,A.frozenOf h.c2 h.f2 hne⟩
theorem RV.Pend.after {W0:World} {T i j:Nat} {fin:Array Value} {γ:Nat->Value} {L:Nat->Bool} {w w':World} {b:Nat} {g:Bool} (h:RV.Pend W0 T i j fin γ L w) (A:After ⟨b,0,none⟩ g w w') (hb:b < W0.heap.size):RV.Pend W0 T i j fin γ L w':=by
 intro hl
 obtain ⟨c,cs,h1,h2,h3,h4,h5⟩:=h hl
 exact ⟨c,cs,h1,h2,(A.kept.2.2.2 c (Array.getElem?_eq_some_iff.1 h3).1 (by show c ≠ b;omega)).trans h3,h4,h5⟩
theorem arr3' {cs:Array Value} (h:cs.size = 3):∃ u0 u1 u2,cs = #[u0,u1,u2]:=by
 obtain ⟨l⟩:=cs
 match l,h with
 | [a,b,c],_=>exact ⟨a,b,c,rfl⟩
def M9.at1 (m:M9) (p:Pt):Pt:=(m.turn (p.times 1048576)).getD Pt.O
def M9.at2 (m:M9) (t p:Pt):Pt:=((m.at1 p).addO t).getD Pt.O
def Pt.grain (p:Pt):Pt:=⟨p.x / 1048576,p.y / 1048576,p.z / 1048576⟩
def M9.ptV (m:M9) (t p:Pt):Pt:=(m.at2 t p).grain
def M9.ptB (m:M9) (t p:Pt):Bool:=(m.turn (p.times 1048576)).isNone || ((m.at1 p).addO t).isNone
structure Q4 where
 w:Int
 x:Int
 y:Int
 z:Int
def rowsB (q:Q4):Bool:=rowsBad q.w q.x q.y q.z
def rowsM (q:Q4):M9:=⟨cond (rowsB q) 0 (rowsAt0 q.w q.x q.y q.z),cond (rowsB q) 0 (rowsAt1 q.w q.x q.y q.z),cond (rowsB q) 0 (rowsAt2 q.w q.x q.y q.z),cond (rowsB q) 0 (rowsAt3 q.w q.x q.y q.z),cond (rowsB q) 0 (rowsAt4 q.w q.x q.y q.z),cond (rowsB q) 0 (rowsAt5 q.w q.x q.y q.z),cond (rowsB q) 0 (rowsAt6 q.w q.x q.y q.z),cond (rowsB q) 0 (rowsAt7 q.w q.x q.y q.z),cond (rowsB q) 0 (rowsAt8 q.w q.x q.y q.z)⟩
def poseV (t:Pt) (q:Q4):Value:=.agg #[.int .i64 t.x,.int .i64 t.y,.int .i64 t.z,.int .i64 q.w,.int .i64 q.x,.int .i64 q.y,.int .i64 q.z]
end
end Go.Proofs.YtohbjabihdgjhaaGreat
