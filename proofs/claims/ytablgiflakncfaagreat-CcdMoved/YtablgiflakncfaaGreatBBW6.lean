/- The document's own Short. -/
import Derived.Test.YtablgiflakncfaaGreatBBW0
import Derived.Test.YtablgiflakncfaaGreatBBW5
import Derived.Laws.OwnMore
import Derived.Maps.AppendAt
set_option maxHeartbeats 4000000
set_option maxRecDepth 100000
set_option linter.unusedVariables false
namespace Go.Proofs.YtablgiflakncfaaGreat
section
open Go.RowKit Go.Shelf
theorem rin_any (n a b:Int) (w:World) :
  Calls Tryz.prog 124 #[.int .i64 n,.int .i64 a,.int .i64 b] w fun e w'=>e = .returned (.bool (inR n a b))/\w' = w:=by
 unfold inR
 by_cases h1:a <= n
 ·go_enter Tryz.func124,Tryz.ntmps124
  go_wp2
  go_ret
  exact ⟨by simp [h1],rfl⟩
 ·go_enter Tryz.func124,Tryz.ntmps124
  go_wp2
  go_ret
  exact ⟨by simp;omega,rfl⟩
theorem rin_is (n a b:Int) (w:World) (t:Bool) (h:inR n a b = t) :
  Calls Tryz.prog 124 #[.int .i64 n,.int .i64 a,.int .i64 b] w fun e w'=>e = .returned (.bool t)/\w' = w:=by subst h;exact rin_any n a b w
theorem rsize_any (n:Int) (w:World) (h:-1152921504606846976 <= n/\n <= 1152921504606846976) :
  Calls Tryz.prog 126 #[.int .i64 n] w fun e w'=>e = .returned (.int .i64 (n.natAbs:Nat))/\w' = w:=by
 by_cases h1:n < 0
 ·go_enter Tryz.func126,Tryz.ntmps126
  go_wp2
  go_ret
  exact ⟨congrArg (fun k=>Ending.returned (.int .i64 k)) (by omega),rfl⟩
 ·go_enter Tryz.func126,Tryz.ntmps126
  go_wp2
  go_ret
  exact ⟨congrArg (fun k=>Ending.returned (.int .i64 k)) (by omega),rfl⟩
def gFirst (x y z:Nat):Nat->Nat
 | 0=>0
 | 1=>x
 | 2=>Nat.gcd x y
 | _=>Nat.gcd (Nat.gcd x y) z
def nth3 (x y z:Nat):Nat->Nat
 | 0=>x
 | 1=>y
 | _=>z
theorem gFirst_next (x y z i:Nat) (hi:i < 3):Nat.gcd (gFirst x y z i) (nth3 x y z i) = gFirst x y z (i + 1):=by
 have:i = 0 \/ i = 1 \/ i = 2:=by omega
 rcases this with rfl | rfl | rfl
 ·exact Nat.gcd_zero_left x
 ·rfl
 ·rfl
theorem gFirst_le (x y z B i:Nat) (hx:x <= B) (hy:y <= B) (hz:z <= B):gFirst x y z i <= B:=by
 match i with
 | 0=>exact Nat.zero_le _
 | 1=>exact hx
 | 2=>exact gcd_le hx hy
 | _ + 3=>exact gcd_le (gcd_le hx hy) hz
theorem nth3_le (x y z B i:Nat) (hx:x <= B) (hy:y <= B) (hz:z <= B):nth3 x y z i <= B:=by
 match i with
 | 0=>exact hx
 | 1=>exact hy
 | _ + 2=>exact hz
theorem nth3_cell {W:World} {g:Nat} {x y z:Nat} (h:Cells W g [.int .i64 (x:Int),.int .i64 (y:Int),.int .i64 (z:Int)]) (i:Nat) (hi:i < 3):W.cell? ⟨g,i,none⟩ = some (.int .i64 (nth3 x y z i:Int)):=by
 have:i = 0 \/ i = 1 \/ i = 2:=by omega
 rcases this with rfl | rfl | rfl
 ·exact (h 0 _ rfl).1
 ·exact (h 1 _ rfl).1
 ·exact (h 2 _ rfl).1
theorem bare_any (p:Pt) (w0:World) (hp:p.inB 4398046511104 = true) :
  Calls Tryz.prog 125 #[p.v] w0 fun e W=>e = .returned p.low.v/\Below w0.heap.size w0 W:=by
 have hq:=hp
 rw [Pt.inB_iff] at hq
 have S1:Hid _:=fun w'=>rsize_any p.x w' (by omega)
 have S2:Hid _:=fun w'=>rsize_any p.y w' (by omega)
 have S3:Hid _:=fun w'=>rsize_any p.z w' (by omega)
 have hg3:Hid (gFirst p.x.natAbs p.y.natAbs p.z.natAbs 3 = p.g):=rfl
 have HLE:Hid (∀ i,gFirst p.x.natAbs p.y.natAbs p.z.natAbs i <= 4398046511104):=fun i=>gFirst_le _ _ _ _ _ (by omega) (by omega) (by omega)
 have HLN:Hid (∀ i,nth3 p.x.natAbs p.y.natAbs p.z.natAbs i <= 4398046511104):=fun i=>nth3_le _ _ _ _ _ (by omega) (by omega) (by omega)
 have HL:Hid (p.low = if p.g = 0 then p else p.by p.g):=rfl
 generalize p.low = r at *
 generalize p.g = G at *
 obtain ⟨x,y,z⟩:=p
 dsimp only at *
 generalize hnx:x.natAbs = nx at *
 generalize hny:y.natAbs = ny at *
 generalize hnz:z.natAbs = nz at *
 clear hp hnx hny hnz
 unfold Pt.v at *
 dsimp only at *
 go_enter Tryz.func125,Tryz.ntmps125
 go_upto_region 2 with fail
 obtain ⟨V,hV⟩:∃ V:World,V = ((w0.alloc (.cells #[.int .i64 x,.int .i64 y,.int .i64 z] 45)).alloc (.cells #[.int .i64 0,.int .i64 0,.int .i64 0] 45)):=⟨_,rfl⟩
 have hBV:Below w0.heap.size w0 V:=by rw [hV];exact (((Below.refl _ w0).alloc (by simp;try omega) _).alloc (by simp;try omega) _)
 have V0_0:V.cell? ⟨w0.heap.size,0,none⟩ = some (.int .i64 x):=by rw [hV];simp [go_sem]
 have V0_1:V.cell? ⟨w0.heap.size,1,none⟩ = some (.int .i64 y):=by rw [hV];simp [go_sem]
 have V0_2:V.cell? ⟨w0.heap.size,2,none⟩ = some (.int .i64 z):=by rw [hV];simp [go_sem]
 have V1_0:V.cell? ⟨w0.heap.size + 1,0,none⟩ = some (.int .i64 0):=by rw [hV];simp [go_sem]
 have V1_1:V.cell? ⟨w0.heap.size + 1,1,none⟩ = some (.int .i64 0):=by rw [hV];simp [go_sem]
 have V1_2:V.cell? ⟨w0.heap.size + 1,2,none⟩ = some (.int .i64 0):=by rw [hV];simp [go_sem]
 have Vf1_0:V.frozen? ⟨w0.heap.size + 1,0,none⟩ = false:=by rw [hV];simp [go_sem]
 have Vf1_1:V.frozen? ⟨w0.heap.size + 1,1,none⟩ = false:=by rw [hV];simp [go_sem]
 have Vf1_2:V.frozen? ⟨w0.heap.size + 1,2,none⟩ = false:=by rw [hV];simp [go_sem]
 have Vf0_0:V.frozen? ⟨w0.heap.size,0,none⟩ = false:=by rw [hV];simp [go_sem]
 have Vf0_1:V.frozen? ⟨w0.heap.size,1,none⟩ = false:=by rw [hV];simp [go_sem]
 have Vf0_2:V.frozen? ⟨w0.heap.size,2,none⟩ = false:=by rw [hV];simp [go_sem]
 rw [<- hV]
 clear hV
 refine RV.region_by (fun j v w=>match j with | 0=>v = .pointer (some ⟨w0.heap.size,0,none⟩) | 1=>v = .int .i64 x | 2=>v = .int .i64 (nx:Int) | 3=>v = .pointer (some ⟨w0.heap.size,1,none⟩) | 4=>v = .int .i64 y | 5=>v = .int .i64 (ny:Int) | 6=>v = .pointer (some ⟨w0.heap.size,2,none⟩) | 7=>v = .int .i64 z | 8=>v = .int .i64 (nz:Int) | 9=>(fun v w=>∃ g,v = .slice (some ⟨g,0,none⟩) 3 3/\V.heap.size <= g/\Cells w g [.int .i64 (nx:Int),.int .i64 (ny:Int),.int .i64 (nz:Int)]) v w | 10=>(fun v w=>∃ g,v = .slice (some ⟨g,0,none⟩) 3 3/\V.heap.size <= g/\Cells w g [.int .i64 (nx:Int),.int .i64 (ny:Int),.int .i64 (nz:Int)]) v w | _=>True) (fun γ L w9=>Below V.heap.size V w9) (by kernel_rfl) (by kernel_rfl) (by kernel_rfl) (by kernel_rfl) ?_ ?_ ?_
 ·exact (Below.refl _ V).drew
 ·generalize hD:dstOf _ = D
  generalize hWA:waitsFor _ = WA
  generalize hZ:Act.mk _ _ = Z
  refine RV.AllDo.name ?_
  intro R hR
  have kn:RV.Kn R [.some (.pointer (some ⟨w0.heap.size,0,none⟩)),.some (.int .i64 x),.some (.int .i64 (nx:Int)),.some (.pointer (some ⟨w0.heap.size,1,none⟩)),.some (.int .i64 y),.some (.int .i64 (ny:Int)),.some (.pointer (some ⟨w0.heap.size,2,none⟩)),.some (.int .i64 z),.some (.int .i64 (nz:Int)),none,none] 0:=by rw [hR];exact ⟨fun _ _=>Iff.rfl,fun _ _=>Iff.rfl,fun _ _=>Iff.rfl,fun _ _=>Iff.rfl,fun _ _=>Iff.rfl,fun _ _=>Iff.rfl,fun _ _=>Iff.rfl,fun _ _=>Iff.rfl,fun _ _=>Iff.rfl,trivial⟩
  have T:=RV.kfacts [10,11,12,13,14,15,16,17,18,19,5] [(1,.pointer (some ⟨w0.heap.size,0,none⟩))] hD hZ kn ⟨rfl,trivial⟩ (by kernel_rfl) (by kernel_rfl)
  simp only [RV.Outs,RV.Slots,Nat.reduceAdd] at T
  have r9:∀ v w,R 9 v w = ((fun v w=>∃ g,v = .slice (some ⟨g,0,none⟩) 3 3/\V.heap.size <= g/\Cells w g [.int .i64 (nx:Int),.int .i64 (ny:Int),.int .i64 (nz:Int)]) v w):=fun v w=>by rw [hR];rfl
  have r10:∀ v w,R 10 v w = ((fun v w=>∃ g,v = .slice (some ⟨g,0,none⟩) 3 3/\V.heap.size <= g/\Cells w g [.int .i64 (nx:Int),.int .i64 (ny:Int),.int .i64 (nz:Int)]) v w):=fun v w=>by rw [hR];rfl
  have K:∀ j v w w',Below w.heap.size w w'->R j v w->R j v w':=by
   rw [hR]
   intro j v w w' hb h
   revert h
   dsimp only
   split
   all_goals first | exact id | exact (fun ⟨g,t1,t2,t3⟩=>⟨g,t1,t2,Cells.step t3 hb⟩)
  iterate 2 first
   | (refine RV.cc _ (RV.pk kn T (fun γ v L w hl h=>h) (fun γ L a w hH hl h9 k9=>⟨_,?_,rfl⟩)) ?_;· simp [execOp,go_sem,h9])
   | (refine RV.cc _ (RV.pk kn T (fun γ v L w hl h=>h) (fun γ L a w hH hl h9 k9=>⟨_,?_,rfl⟩)) ?_;· have hB9:=hH.glob;have q0:=c_after hB9 V0_0;simp [Region.binds] at k9;simp [execOp,go_sem,h9,k9,q0])
  refine RV.cc _ (RV.dc (fun γ L a w hH hl hA=>by have h9:=T _ _ γ L a w hH;have k9:=hA;simp [Region.binds] at k9;have hB9:=hH.glob;exact ⟨126,#[.int .i64 x],by simp [go_sem,h9,k9],Calls.mono (S1.out w) (by rintro e w2 ⟨rfl,rfl⟩;exact ⟨_,rfl,((kn.at (k:=2) rfl _ _).2 rfl),fun j v _ h=>h,hB9⟩)⟩)) ?_
  iterate 2 first
   | (refine RV.cc _ (RV.pk kn T (fun γ v L w hl h=>h) (fun γ L a w hH hl h9 k9=>⟨_,?_,rfl⟩)) ?_;· simp [execOp,go_sem,h9])
   | (refine RV.cc _ (RV.pk kn T (fun γ v L w hl h=>h) (fun γ L a w hH hl h9 k9=>⟨_,?_,rfl⟩)) ?_;· have hB9:=hH.glob;have q0:=c_after hB9 V0_1;simp [Region.binds] at k9;simp [execOp,go_sem,h9,k9,q0])
  refine RV.cc _ (RV.dc (fun γ L a w hH hl hA=>by have h9:=T _ _ γ L a w hH;have k9:=hA;simp [Region.binds] at k9;have hB9:=hH.glob;exact ⟨126,#[.int .i64 y],by simp [go_sem,h9,k9],Calls.mono (S2.out w) (by rintro e w2 ⟨rfl,rfl⟩;exact ⟨_,rfl,((kn.at (k:=5) rfl _ _).2 rfl),fun j v _ h=>h,hB9⟩)⟩)) ?_
  iterate 2 first
   | (refine RV.cc _ (RV.pk kn T (fun γ v L w hl h=>h) (fun γ L a w hH hl h9 k9=>⟨_,?_,rfl⟩)) ?_;· simp [execOp,go_sem,h9])
   | (refine RV.cc _ (RV.pk kn T (fun γ v L w hl h=>h) (fun γ L a w hH hl h9 k9=>⟨_,?_,rfl⟩)) ?_;· have hB9:=hH.glob;have q0:=c_after hB9 V0_2;simp [Region.binds] at k9;simp [execOp,go_sem,h9,k9,q0])
  refine RV.cc _ (RV.dc (fun γ L a w hH hl hA=>by have h9:=T _ _ γ L a w hH;have k9:=hA;simp [Region.binds] at k9;have hB9:=hH.glob;exact ⟨126,#[.int .i64 z],by simp [go_sem,h9,k9],Calls.mono (S3.out w) (by rintro e w2 ⟨rfl,rfl⟩;exact ⟨_,rfl,((kn.at (k:=8) rfl _ _).2 rfl),fun j v _ h=>h,hB9⟩)⟩)) ?_
  refine RV.cc _ (RV.does_step (fun γ L a w hH hl hA=>by have h9:=T _ _ γ L a w hH;have k9:=hA;simp [Region.binds] at k9;have hB9:=hH.glob;exact ⟨.slice (some ⟨w.heap.size,0,none⟩) 3 3,w.alloc (.cells #[.int .i64 (nx:Int),.int .i64 (ny:Int),.int .i64 (nz:Int)] 3),by simp [execOp,go_sem,h9,k9],(r9 _ _).mpr ⟨w.heap.size,rfl,hB9.size,Cells.new w [.int .i64 (nx:Int),.int .i64 (ny:Int),.int .i64 (nz:Int)] 3⟩,fun j v _ h=>K j v _ _ (n_after w _) h,hB9.trans ((n_after w _).mono hB9.size)⟩)) ?_
  refine RV.cc _ (RV.dp (fun γ v L w hl h=>h) (fun γ L a w hH hl hA=>by have l0:L 9 = true:=hA ⟨9,.data⟩ (by simp) rfl;have e0:=hH.slot 9 18 (by rw [<- hD];rfl) l0;have g0:=hH.holds 9 l0;rw [r9] at g0;exact ⟨γ 9,by simp [execOp,go_sem,e0],(r10 _ _).mpr g0⟩)) ?_
  exact RV.AllDo.nil
 ·intro γ a5 w5 L9 hL hLo hH
  have ha:=RV.held_act hH hL (by kernel_rfl) (by kernel_rfl)
  have hb8:=hH.glob
  obtain ⟨gs,y10,hgs,HCE⟩:=hH.holds 10 (hL 10 (by decide))
  rw [ha]
  clear ha hH hL hLo
  simp only [RV.putAll,Act.put,List.setIfInBounds_toArray,List.set_cons_zero,List.set_cons_succ,Nat.zero_add,Nat.reduceAdd]
  rw [y10]
  have hB5:Hid _:=hBV.trans (hb8.mono hBV.size)
  have HCE:Hid _:=HCE
  have b0:Hid (Box3 w5 w0.heap.size ⟨x,y,z⟩):=⟨c_after hb8 V0_0,c_after hb8 V0_1,c_after hb8 V0_2,f_after hb8 V0_0 Vf0_0,f_after hb8 V0_1 Vf0_1,f_after hb8 V0_2 Vf0_2⟩
  have b1:Hid (Box3 w5 (w0.heap.size + 1) Pt.O):=⟨c_after hb8 V1_0,c_after hb8 V1_1,c_after hb8 V1_2,f_after hb8 V1_0 Vf1_0,f_after hb8 V1_1 Vf1_1,f_after hb8 V1_2 Vf1_2⟩
  clear y10 hb8 V0_0 V0_1 V0_2 Vf0_0 Vf0_1 Vf0_2 V1_0 V1_1 V1_2 Vf1_0 Vf1_1 Vf1_2 hBV S1 S2 S3
  go_wp2_with (fail)
  go_loopg [3,5] 3 (fun gm s3 s5 wr=>∃ i:Nat,s3 = .int .i64 (gFirst nx ny nz i:Nat)/\s5 = .int .i64 (i:Int)/\i <= 3/\gm = 3 - i/\wr = w5)
  case atStart=>exact ⟨0,rfl,rfl,by omega,rfl,rfl⟩
  case round =>
   obtain ⟨i,rfl,rfl,hi,hgm,hwr⟩:=hrel
   subst hwr
   have HG1:Hid _:=hgm
   clear hgm
   by_cases hit:i < 3
   ·have hc:=nth3_cell HCE.out i hit
    have HN:Hid _:=gFirst_next nx ny nz i hit
    have l1:=HLE.out i
    have l2:=HLN.out i
    generalize nth3 nx ny nz i = nb at *
    generalize hga:gFirst nx ny nz i = na at *
    clear hga
    go_wp2_with (fail)
    go_loopg [6,7] nb (fun gm s6 s7 wx=>∃ a b:Nat,s6 = .int .i64 (a:Int)/\s7 = .int .i64 (b:Int)/\a <= 4398046511104/\b <= 4398046511104/\gm = b/\wx = wr/\Hid (Nat.gcd a b = gFirst nx ny nz (i + 1)))
    case atStart=>exact ⟨na,nb,rfl,rfl,l1,l2,rfl,rfl,HN⟩
    case round =>
     clear HN l1 l2
     obtain ⟨a,b,rfl,rfl,la,lb,hgm,hwx,HN⟩:=hrel
     subst hwx
     have HG2:Hid _:=hgm
     clear hgm
     by_cases hb0:b = 0
     ·subst hb0
      have e:a = gFirst nx ny nz (i + 1):=by rw [<- HN.out];simp
      clear HN
      have HE:Hid _:=e
      clear e
      go_wp2_with (fail)
      go_roundg (3 - (i + 1))
      case measure=>have:=HG1.out;omega
      case rel=>exact ⟨i + 1,by rw [<- HE.out],by go_num,by omega,rfl,rfl⟩
     ·have hb1:¬ (b:Int) = 0:=by omega
      have hlt:=Nat.mod_lt a (Nat.pos_of_ne_zero hb0)
      have HN2:Hid (Nat.gcd b (a % b) = gFirst nx ny nz (i + 1)):=by show _ = _;rw [<- HN.out,Nat.gcd_comm a b,Nat.gcd_rec b a,Nat.gcd_comm]
      clear HN hb0
      go_wp2_with (fail)
      go_roundg (a % b)
      case measure=>have:=HG2.out;omega
      case rel=>exact ⟨b,a % b,rfl,by go_num,lb,by omega,rfl,rfl,HN2⟩
   ·have e:i = 3:=by omega
    subst e
    rw [hg3.out]
    have hGl:G <= 4398046511104:=by have:=HLE.out 3;rw [hg3.out] at this;exact this
    obtain ⟨c0,c1,c2,_,_,_⟩:=b0.out
    obtain ⟨r0,r1,r2,f0,f1,f2⟩:=b1.out
    simp only [Pt.O] at r0 r1 r2
    dsimp only at c0 c1 c2
    by_cases h0:G = 0
    ·have h0':(G:Int) = 0:=by omega
     have e:r = ⟨x,y,z⟩:=by rw [HL.out,if_pos h0]
     subst e
     clear HL h0
     go_wp2_with (fail)
     refine bodyPost_ret (v:=.agg #[.int .i64 x,.int .i64 y,.int .i64 z]) (by simp [results,Tryz.results125,go_sem,r0,r1,r2]) rfl ⟨rfl,?_⟩
     exact set3_below hB5.out (by omega) _ _ _
    ·have h0':¬ (G:Int) = 0:=by omega
     have h0p:0 < (G:Int):=by omega
     have e:r = Pt.by ⟨x,y,z⟩ G:=by rw [HL.out,if_neg h0]
     clear HL
     obtain ⟨rx,ry,rz⟩:=r
     simp only [Pt.by,Pt.mk.injEq] at e
     obtain ⟨rfl,rfl,rfl⟩:=e
     clear h0
     have hne:¬ w0.heap.size = w0.heap.size + 1:=by omega
     go_wp2_with (fail)
     go_region
     go_wp2_with (fail)
     refine bodyPost_ret (v:=.agg #[.int .i64 (x.tdiv G),.int .i64 (y.tdiv G),.int .i64 (z.tdiv G)]) (by simp [results,Tryz.results125,go_sem,r0,r1,r2]) rfl ⟨rfl,?_⟩
     exact set3_below hB5.out.drew (by omega) _ _ _
theorem rshort_any (p:Pt) (w0:World) :
  Calls Tryz.prog 88 #[p.v] w0 fun e W=>e = .returned p.short.v/\Below w0.heap.size w0 W:=by
 have HLO:Hid (∀ q:Pt,q.inB 4398046511104 = true->∀ w',Calls Tryz.prog 125 #[q.v] w' fun e W=>e = .returned q.low.v/\Below w'.heap.size w' W):=fun q hq w'=>bare_any q w' hq
 have bx0:Hid (Box3 ((w0.alloc (.cells #[.int .i64 p.x,.int .i64 p.y,.int .i64 p.z] 45)).alloc (.cells #[.int .i64 0,.int .i64 0,.int .i64 0] 45)) w0.heap.size p):=(Box3.new w0 p.x p.y p.z _).step (n_after _ _)
 have bx1:Hid (Box3 ((w0.alloc (.cells #[.int .i64 p.x,.int .i64 p.y,.int .i64 p.z] 45)).alloc (.cells #[.int .i64 0,.int .i64 0,.int .i64 0] 45)) (w0.heap.size + 1) Pt.O):=by have:=Box3.new (w0.alloc (.cells #[.int .i64 p.x,.int .i64 p.y,.int .i64 p.z] 45)) 0 0 0 45;rwa [World.size_alloc] at this
 have hB0:Hid (Below w0.heap.size w0 ((w0.alloc (.cells #[.int .i64 p.x,.int .i64 p.y,.int .i64 p.z] 45)).alloc (.cells #[.int .i64 0,.int .i64 0,.int .i64 0] 45))):=b_step (n_after w0 _) (n_after _ _)
 obtain ⟨r,hr⟩:∃ r,p.short = r:=⟨_,rfl⟩
 rw [hr]
 have HR:Hid _:=hr
 clear hr
 have HIN:Hid (p.inB 4398046511104 = (inR p.x (-4398046511104) 4398046511104 && (inR p.y (-4398046511104) 4398046511104 && inR p.z (-4398046511104) 4398046511104))):=by
  show _ = _
  rw [Bool.eq_iff_iff,Pt.inB_iff]
  simp [inR]
 unfold Pt.v at *
 go_enter Tryz.func88,Tryz.ntmps88
 go_upto_region 1 with fail
 obtain ⟨V,hV⟩:∃ V:World,V = (w0.alloc (.cells #[.int .i64 p.x,.int .i64 p.y,.int .i64 p.z] 45)).alloc (.cells #[.int .i64 0,.int .i64 0,.int .i64 0] 45):=⟨_,rfl⟩
 rw [<- hV] at bx0 bx1 hB0 ⊢
 clear hV
 obtain ⟨c0,c1,c2,_,_,_⟩:=bx0.out
 go_cut [19] from 4 (fun s wc=>s = .bool (!(p.inB 4398046511104))/\wc = V)
 case first =>
  cases h1:inR p.x (-4398046511104) 4398046511104 with
  | false =>
   go_wp2_with (go_at_call 124;refine (rin_is _ _ _ _ false h1).mono ?_;rintro e w' ⟨rfl,rfl⟩)
   go_meet
   case rel=>exact ⟨by rw [HIN.out,h1];rfl,rfl⟩
  | true =>
   cases h2:inR p.y (-4398046511104) 4398046511104 with
   | false =>
    go_wp2_with (fail)
    refine Calls.mono (rin_is p.x _ _ _ true h1) ?_
    rintro e w' ⟨rfl,rfl⟩
    go_wp2_with (fail)
    refine Calls.mono (rin_is p.y _ _ _ false h2) ?_
    rintro e w' ⟨rfl,rfl⟩
    go_wp2_with (fail)
    go_meet
    case rel=>exact ⟨by rw [HIN.out,h1,h2];rfl,rfl⟩
   | true =>
    cases h3:inR p.z (-4398046511104) 4398046511104 with
    | false =>
     go_wp2_with (fail)
     refine Calls.mono (rin_is p.x _ _ _ true h1) ?_
     rintro e w' ⟨rfl,rfl⟩
     go_wp2_with (fail)
     refine Calls.mono (rin_is p.y _ _ _ true h2) ?_
     rintro e w' ⟨rfl,rfl⟩
     go_wp2_with (fail)
     refine Calls.mono (rin_is p.z _ _ _ false h3) ?_
     rintro e w' ⟨rfl,rfl⟩
     go_wp2_with (fail)
     go_meet
     case rel=>exact ⟨by rw [HIN.out,h1,h2,h3];rfl,rfl⟩
    | true =>
     go_wp2_with (fail)
     refine Calls.mono (rin_is p.x _ _ _ true h1) ?_
     rintro e w' ⟨rfl,rfl⟩
     go_wp2_with (fail)
     refine Calls.mono (rin_is p.y _ _ _ true h2) ?_
     rintro e w' ⟨rfl,rfl⟩
     go_wp2_with (fail)
     refine Calls.mono (rin_is p.z _ _ _ true h3) ?_
     rintro e w' ⟨rfl,rfl⟩
     go_wp2_with (fail)
     go_meet
     case rel=>exact ⟨by rw [HIN.out,h1,h2,h3];rfl,rfl⟩
 case rest =>
  obtain ⟨rfl,hwc⟩:=hcut
  subst hwc
  clear HIN c0 c1 c2
  cases hin:p.inB 4398046511104 with
  | false =>
   have e:r = Pt.O:=by rw [<- HR.out];unfold Pt.short;rw [if_neg (by rw [hin];decide)]
   clear HR
   subst e
   obtain ⟨c0,c1,c2,f0,f1,f2⟩:=bx1.out
   simp only [Pt.O] at c0 c1 c2
   go_wp2_with (fail)
   refine bodyPost_ret (v:=.agg #[.int .i64 0,.int .i64 0,.int .i64 0]) (by simp [results,Tryz.results88,go_sem,c0,c1,c2]) rfl ⟨rfl,?_⟩
   exact set3_below hB0.out (by omega) 0 0 0
  | true =>
   have hlow:=Pt.low_in hin
   have HR:Hid (r = (halveF 43 p.low).low):=by show _ = _;rw [<- HR.out];unfold Pt.short;rw [if_pos hin];rfl
   have HL1:Hid _:=HLO.out p hin
   obtain ⟨c0,c1,c2,_,_,_⟩:=bx0.out
   go_wp2_with (fail)
   refine Calls.mono (HL1.out _) ?_
   clear HL1 c0 c1 c2
   rintro e V2 ⟨rfl,hb⟩
   have b1:Hid _:=(bx1.out.step hb).step (n_after V2 (.cells #[.int .i64 p.low.x,.int .i64 p.low.y,.int .i64 p.low.z] 45))
   have hB:Hid _:=b_step (b_step hB0.out hb) (n_after V2 (.cells #[.int .i64 p.low.x,.int .i64 p.low.y,.int .i64 p.low.z] 45))
   have b3:Hid _:=Box3.new V2 p.low.x p.low.y p.low.z 45
   have hsz:w0.heap.size + 1 < V2.heap.size:=(bx1.out.step hb).lt
   clear hb
   go_wp2_with (fail)
   obtain ⟨bq,hbq⟩:∃ bq,bq = V2.heap.size:=⟨_,rfl⟩
   rw [<- hbq] at b3 hsz ⊢
   have hL2:p.low.inB (2 ^ 43:Nat) = true:=inB_mono hlow (by decide)
   go_loopg [] 43 (fun g wr=>∃ q:Pt,Hid (Box3 wr bq q)/\Hid (Box3 wr (w0.heap.size + 1) Pt.O)/\Hid (Below w0.heap.size w0 wr)/\g <= 43/\Hid (halveF g q = halveF 43 p.low)/\Hid (q.inB (2 ^ g:Nat) = true))
   case atStart=>exact ⟨p.low,b3,b1,hB,Nat.le_refl _,rfl,hL2⟩
   case round =>
    clear b3 b1 hB hL2 hbq
    obtain ⟨q,b3,b1,hB,hg,HF,HI⟩:=hrel
    have hG:Hid _:=hg
    have hq2:q.inB 1152921504606846976 = true:=inB_mono HI.out (by have:=cast_pow _ hg;omega)
    rw [Pt.inB_iff] at hq2
    clear hg
    obtain ⟨c0,c1,c2,f0,f1,f2⟩:=b3.out
    have HX:Hid (q.inB 1048576 = !(decide (1048576 < (q.x.natAbs:Int)) || (decide (1048576 < (q.y.natAbs:Int)) || decide (1048576 < (q.z.natAbs:Int))))):=by
     show _ = _
     rw [Bool.eq_iff_iff,Pt.inB_iff]
     simp
     omega
    go_upto_region 4 with fail
    go_cut [38] from 23 to 48 (fun s wc=>s = .bool (!(q.inB 1048576))/\wc = wr)
    case first =>
     by_cases h1:1048576 < (q.x.natAbs:Int)
     ·go_wp2_with (fail)
      refine Calls.mono (rsize_any q.x _ hq2.1) ?_
      rintro e w' ⟨rfl,rfl⟩
      go_wp2_with (fail)
      go_meet
      case rel=>exact ⟨by rw [HX.out];simp [h1],rfl⟩
     ·by_cases h2:1048576 < (q.y.natAbs:Int)
      ·go_wp2_with (fail)
       refine Calls.mono (rsize_any q.x _ hq2.1) ?_
       rintro e w' ⟨rfl,rfl⟩
       go_wp2_with (fail)
       refine Calls.mono (rsize_any q.y _ hq2.2.1) ?_
       rintro e w' ⟨rfl,rfl⟩
       go_wp2_with (fail)
       go_meet
       case rel=>exact ⟨by rw [HX.out];simp [h2],rfl⟩
      ·go_wp2_with (fail)
       refine Calls.mono (rsize_any q.x _ hq2.1) ?_
       rintro e w' ⟨rfl,rfl⟩
       go_wp2_with (fail)
       refine Calls.mono (rsize_any q.y _ hq2.2.1) ?_
       rintro e w' ⟨rfl,rfl⟩
       go_wp2_with (fail)
       refine Calls.mono (rsize_any q.z _ hq2.2.2) ?_
       rintro e w' ⟨rfl,rfl⟩
       go_wp2_with (fail)
       go_meet
       case rel=>exact ⟨by rw [HX.out,Bool.not_not,decide_eq_false (p:=1048576 < (q.x.natAbs:Int)) (by omega),decide_eq_false (p:=1048576 < (q.y.natAbs:Int)) (by omega)];rfl,rfl⟩
    case rest =>
     obtain ⟨rfl,hwc⟩:=hcut
     subst hwc
     clear HX
     cases hq:q.inB 1048576 with
     | false =>
      obtain ⟨j,hj,ej,hin2⟩:=halveF_step _ q hq HI.out
      have HJ:Hid _:=And.intro hj (And.intro ej hin2)
      have b3:Hid (Box3 (set3 wc bq (q.by 2).x (q.by 2).y (q.by 2).z) bq (q.by 2)):=b3.out.set _ _ _
      have b1:Hid (Box3 (set3 wc bq (q.by 2).x (q.by 2).y (q.by 2).z) (w0.heap.size + 1) Pt.O):=b1.out.other (by omega) _ _ _
      have hB:Hid (Below w0.heap.size w0 (set3 wc bq (q.by 2).x (q.by 2).y (q.by 2).z)):=set3_below hB.out (by omega) _ _ _
      unfold set3 at b3 b1 hB
      clear hj ej hin2
      go_wp2_with (fail)
      go_roundg j
      case measure=>have:=HJ.out.1;omega
      case rel=>exact ⟨q.by 2,b3,b1,hB,by have:=HJ.out.1;have:=hG.out;omega,HJ.out.2.1.symm.trans HF.out,HJ.out.2.2⟩
     | true =>
      have e:r = q.low:=by rw [HR.out,<- HF.out,halveF_id _ _ hq]
      have HL1:Hid _:=HLO.out q (inB_mono hq (by decide))
      rw [<- e] at HL1
      clear e HR HF HI HLO
      go_wp2_with (fail)
      refine Calls.mono (HL1.out _) ?_
      clear HL1 c0 c1 c2 f0 f1 f2
      rintro e V4 ⟨rfl,hb⟩
      obtain ⟨c0,c1,c2,f0,f1,f2⟩:=b1.out.step hb
      have hB:Hid _:=b_step hB.out hb
      go_wp2_with (fail)
      refine bodyPost_ret (v:=.agg #[.int .i64 r.x,.int .i64 r.y,.int .i64 r.z]) (by simp [results,Tryz.results88,go_sem,c0,c1,c2]) rfl ⟨rfl,?_⟩
      exact set3_below hB.out (by omega) _ _ _
end
section
open Go.RowKit Go.Shelf
theorem rowp_form {W:World} {base:Nat} {u:Value} {n:Nat} {xs:List Value} (h:W.ownsRow base 45 3 u n xs):∃ o c,u = .slice o n c:=by
 rcases h.2 with ⟨rfl,h0⟩ | ⟨g,cap,cur,rfl,_⟩
 ·exact ⟨none,0,by rw [h0]⟩
 ·exact ⟨_,_,rfl⟩
theorem pts_read {w:World} {g off n c:Nat} {L:List Pt} (h:Lies w (.slice (some ⟨g,off,none⟩) n c) L):∀ j u,(fl3 L)[j]? = some u->w.cell? ((⟨g,off,none⟩:Addr).add j) = some u:=by
 intro j u hj
 obtain ⟨o,cap,e,_,_,hc⟩:=h.form
 simp only [Value.slice.injEq] at e
 obtain ⟨rfl,rfl,rfl⟩:=e
 have hl:j < L.length * 3:=by have:=(List.getElem?_eq_some_iff.1 hj).1;rwa [fl3_length] at this
 have hi:j / 3 < L.length:=by omega
 obtain ⟨g',off',e',x0,x1,x2⟩:=hc (j / 3) hi
 cases e'
 obtain ⟨f0,f1,f2⟩:=fl3_at L (j / 3) hi
 have ej:j = j / 3 * 3 \/ j = j / 3 * 3 + 1 \/ j = j / 3 * 3 + 2:=by omega
 have ad:(⟨g,off,none⟩:Addr).add j = ⟨g,off + j,none⟩:=by unfold Addr.add;split <;> simp_all
 rw [ad]
 rcases ej with e | e | e
 ·rw [e] at hj ⊢;rw [f0] at hj;rw [<- hj];exact x0
 ·rw [e] at hj ⊢;rw [f1] at hj;rw [<- hj];rw [<- Nat.add_assoc];exact x1
 ·rw [e] at hj ⊢;rw [f2] at hj;rw [<- hj];rw [<- Nat.add_assoc];exact x2
theorem none_run {P:Program} {w:World} (base:Nat) (t ty e:TypeId) (i:TypeInfo) (size:Nat) (ht:P.underlying t = some (.slice e)) (hi:P.info? e = some i) (v:Value) (n c:Nat) (xs:List Value) (hown:w.ownsRow base e size v n xs) :
  (Builtin.append_ #[t,t] ty #[v,.slice none 0 c]).run P w = .ok v w:=by
 rcases hown.2 with ⟨rfl,rfl⟩ | ⟨g,cap,cur,rfl,_,_,hnc,_⟩
 ·simp [Builtin.append_,run_underlying ht,sizeOf,typeInfo,hi,Builtin.lenOf,Builtin.firstCells]
 ·simp [Builtin.append_,run_underlying ht,sizeOf,typeInfo,hi,Builtin.lenOf,Builtin.firstCells,hnc,storeCells]
theorem append_lies {w:World} {ops:Array Oper} {rest:List Oper} {o:Oper} {a:Act} {Q:Exit->Act->World->Prop} (hgd:o.guard = none) (s x:Operand)
  (ho:o.op = .call { callee:=.builtin .append,args:=#[s,x],argTypes:=#[26,26] })
  (base:Nat) (v:Value) (M:List Pt) (hs:a.eval s = v) (hown:w.ownsRow base 45 3 v M.length (fl3 M)) (xv:Value) (L:List Pt) (hx:a.eval x = xv) (hl:Lies w xv L)
  (hN:M.length + L.length < 2199023255552) (hbase:base <= w.heap.size)
  (h:∀ v' w',w'.ownsRow base 45 3 v' (M ++ L).length (fl3 (M ++ L))->w.grownBy w' v.ownBlock->(v'.ownBlock = v.ownBlock \/ v'.ownBlock = some w.heap.size)->wpList Tryz.prog ops Q rest (a.put o.dst v') w') :
  wpList Tryz.prog ops Q (o :: rest) a w:=by
 obtain ⟨i0,hii,hiz,hisz,hib⟩:=info_parts point_info
 obtain ⟨oo,cap,rfl,hlc,hcm,hc⟩:=hl.form
 rcases Nat.eq_zero_or_pos L.length with h0 | h0
 ·have hL:L = []:=List.length_eq_zero_iff.1 h0
  subst hL
  cases oo with
  | none =>
   refine wpList_plain hgd fun K hK=>?_
   have hrun:=none_run (P:=Tryz.prog) (w:=w) base 26 o.type 45 i0 3 Tryz.underlying26 hii v M.length cap (fl3 M) hown
   unfold Oper.wp
   simp [execOp,ho,resolve,invoke,builtin,hs,hx,hrun,Result.andThen]
   refine hK _ _ (h v w ?_ (below_grown (Below.refl _ _) _) (Or.inl rfl))
   rw [List.append_nil];exact hown
  | some ad =>
   refine wpList_append_own_at w hgd s x _ ho base 45 i0 _ 3 24 Tryz.underlying26 hii hiz hisz hib rfl (by decide) v M.length (fl3 M) hs hown ad 0 cap [] hx rfl (fun j u e=>by simp at e) (fun u e=>by simp at e) (by unfold maxLen;omega) (by omega) hbase ?_
   intro v' w' r8 g8 _ s8
   refine h v' w' ?_ g8 s8
   rw [List.append_nil];simpa using r8
 ·obtain ⟨g,off,rfl,_⟩:=hc 0 h0
  refine wpList_append_own_at w hgd s x _ ho base 45 i0 _ 3 24 Tryz.underlying26 hii hiz hisz hib rfl (by decide) v M.length (fl3 M) hs hown ⟨g,off,none⟩ L.length cap (fl3 L) hx (fl3_length L) (pts_read hl) (fl3_one _) (by unfold maxLen;omega) (by omega) hbase ?_
  intro v' w' r8 g8 _ s8
  refine h v' w' ?_ g8 s8
  rw [fl3_append,List.length_append];exact r8
end
section
open Go.RowKit Go.Shelf
theorem minus_any (p q:Pt) (w:World) (hp:p.inB 1152921504606846976 = true) (hq:q.inB 1152921504606846976 = true) :
  Calls Tryz.prog 18 #[p.v,q.v] w fun e W=>e = .returned (p.sub q).v/\Below w.heap.size w W:=by
 obtain ⟨x,y,z⟩:=p
 obtain ⟨x',y',z'⟩:=q
 rw [Pt.inB_iff] at hp hq
 unfold Pt.v Pt.sub
 dsimp only at *
 go_enter Tryz.func18,Tryz.ntmps18
 go_wp2
 exact bodyPost_ret (v:=.agg #[.int .i64 (x - x'),.int .i64 (y - y'),.int .i64 (z - z')]) (by simp [results,Tryz.results18,go_sem]) rfl ⟨rfl,(((Below.refl _ w).alloc (Nat.le_refl _) _).alloc (by simp) _).alloc (by simp;omega) _⟩
theorem rdot_any (p q:Pt) (w:World) (hp:p.inB 34359738368 = true) (hq:q.inB 131072 = true) :
  Calls Tryz.prog 17 #[p.v,q.v] w fun e W=>e = .returned (.int .i64 (p.dot q))/\Below w.heap.size w W:=by
 obtain ⟨x,y,z⟩:=p
 obtain ⟨x',y',z'⟩:=q
 rw [Pt.inB_iff] at hp hq
 unfold Pt.v Pt.dot
 dsimp only at *
 have h1:=prod_in hp.1 hq.1 (by decide)
 have h2:=prod_in hp.2.1 hq.2.1 (by decide)
 have h3:=prod_in hp.2.2 hq.2.2 (by decide)
 clear hp hq
 go_enter Tryz.func17,Tryz.ntmps17
 go_wp2
 go_ret
 exact ⟨rfl,((Below.refl _ w).alloc (Nat.le_refl _) _).alloc (by simp) _⟩
theorem rcross_any (p q:Pt) (w:World) (hp:p.inB 131072 = true) (hq:q.inB 131072 = true) :
  Calls Tryz.prog 89 #[p.v,q.v] w fun e W=>e = .returned (p.cross q).v/\Below w.heap.size w W:=by
 obtain ⟨x,y,z⟩:=p
 obtain ⟨x',y',z'⟩:=q
 rw [Pt.inB_iff] at hp hq
 unfold Pt.v Pt.cross
 dsimp only at *
 have h1:=prod_in hp.2.1 hq.2.2 (by decide)
 have h2:=prod_in hp.2.2 hq.2.1 (by decide)
 have h3:=prod_in hp.2.2 hq.1 (by decide)
 have h4:=prod_in hp.1 hq.2.2 (by decide)
 have h5:=prod_in hp.1 hq.2.1 (by decide)
 have h6:=prod_in hp.2.1 hq.1 (by decide)
 clear hp hq
 go_enter Tryz.func89,Tryz.ntmps89
 go_wp2
 refine bodyPost_ret (v:=.agg #[.int .i64 (y * z' - z * y'),.int .i64 (z * x' - x * z'),.int .i64 (x * y' - y * x')]) ?_ rfl ⟨rfl,(((Below.refl _ w).alloc (Nat.le_refl _) _).alloc (by simp) _).alloc (by simp;omega) _⟩
 simp [results,Tryz.results89,go_sem]
theorem normal_any (a b c:Pt) (w0:World) (ha:a.inB 65536 = true) (hb:b.inB 65536 = true) (hc:c.inB 65536 = true) :
  Calls Tryz.prog 129 #[a.v,b.v,c.v] w0 fun e W=>e = .returned ((b.sub a).cross (c.sub a)).v/\Below w0.heap.size w0 W:=by
 have L1:Hid _:=fun w'=>minus_any b a w' (inB_mono hb (by decide)) (inB_mono ha (by decide))
 have L2:Hid _:=fun w'=>minus_any c a w' (inB_mono hc (by decide)) (inB_mono ha (by decide))
 have L3:Hid _:=fun w'=>rcross_any (b.sub a) (c.sub a) w' (sub_in hb ha) (sub_in hc ha)
 clear ha hb hc
 obtain ⟨ax,ay,az⟩:=a
 obtain ⟨bx,by_,bz⟩:=b
 obtain ⟨cx,cy,cz⟩:=c
 unfold Pt.v Pt.sub Pt.cross at *
 dsimp only at *
 go_enter Tryz.func129,Tryz.ntmps129
 go_wp2_with (fail)
 obtain ⟨V,hV⟩:∃ V:World,V = ((((w0.alloc (.cells #[.int .i64 ax,.int .i64 ay,.int .i64 az] 45)).alloc (.cells #[.int .i64 bx,.int .i64 by_,.int .i64 bz] 45)).alloc (.cells #[.int .i64 cx,.int .i64 cy,.int .i64 cz] 45)).alloc (.cells #[.int .i64 0,.int .i64 0,.int .i64 0] 45)):=⟨_,rfl⟩
 have hBV:Below w0.heap.size w0 V:=by rw [hV];exact (((((Below.refl _ w0).alloc (by simp;try omega) _).alloc (by simp;try omega) _).alloc (by simp;try omega) _).alloc (by simp;try omega) _)
 have V0_0:V.cell? ⟨w0.heap.size,0,none⟩ = some (.int .i64 ax):=by rw [hV];simp [go_sem]
 have V0_1:V.cell? ⟨w0.heap.size,1,none⟩ = some (.int .i64 ay):=by rw [hV];simp [go_sem]
 have V0_2:V.cell? ⟨w0.heap.size,2,none⟩ = some (.int .i64 az):=by rw [hV];simp [go_sem]
 have V1_0:V.cell? ⟨w0.heap.size + 1,0,none⟩ = some (.int .i64 bx):=by rw [hV];simp [go_sem]
 have V1_1:V.cell? ⟨w0.heap.size + 1,1,none⟩ = some (.int .i64 by_):=by rw [hV];simp [go_sem]
 have V1_2:V.cell? ⟨w0.heap.size + 1,2,none⟩ = some (.int .i64 bz):=by rw [hV];simp [go_sem]
 have V2_0:V.cell? ⟨w0.heap.size + 1 + 1,0,none⟩ = some (.int .i64 cx):=by rw [hV];simp [go_sem]
 have V2_1:V.cell? ⟨w0.heap.size + 1 + 1,1,none⟩ = some (.int .i64 cy):=by rw [hV];simp [go_sem]
 have V2_2:V.cell? ⟨w0.heap.size + 1 + 1,2,none⟩ = some (.int .i64 cz):=by rw [hV];simp [go_sem]
 have V3_0:V.cell? ⟨w0.heap.size + 1 + 1 + 1,0,none⟩ = some (.int .i64 0):=by rw [hV];simp [go_sem]
 have V3_1:V.cell? ⟨w0.heap.size + 1 + 1 + 1,1,none⟩ = some (.int .i64 0):=by rw [hV];simp [go_sem]
 have V3_2:V.cell? ⟨w0.heap.size + 1 + 1 + 1,2,none⟩ = some (.int .i64 0):=by rw [hV];simp [go_sem]
 have Vf3_0:V.frozen? ⟨w0.heap.size + 1 + 1 + 1,0,none⟩ = false:=by rw [hV];simp [go_sem]
 have Vf3_1:V.frozen? ⟨w0.heap.size + 1 + 1 + 1,1,none⟩ = false:=by rw [hV];simp [go_sem]
 have Vf3_2:V.frozen? ⟨w0.heap.size + 1 + 1 + 1,2,none⟩ = false:=by rw [hV];simp [go_sem]
 rw [<- hV]
 clear hV
 refine RV.rs [.some (.agg #[.int .i64 bx,.int .i64 by_,.int .i64 bz]),.some (.agg #[.int .i64 ax,.int .i64 ay,.int .i64 az]),.some (.agg #[.int .i64 (bx - ax),.int .i64 (by_ - ay),.int .i64 (bz - az)]),.some (.agg #[.int .i64 cx,.int .i64 cy,.int .i64 cz]),.some (.agg #[.int .i64 ax,.int .i64 ay,.int .i64 az]),.some (.agg #[.int .i64 (cx - ax),.int .i64 (cy - ay),.int .i64 (cz - az)]),.some (.agg #[.int .i64 ((by_ - ay) * (cz - az) - (bz - az) * (cy - ay)),.int .i64 ((bz - az) * (cx - ax) - (bx - ax) * (cz - az)),.int .i64 ((bx - ax) * (cy - ay) - (by_ - ay) * (cx - ax))]),none] [8,9,10,11,12,13,14,0] [(3,.pointer (some ⟨w0.heap.size,0,none⟩)),(4,.pointer (some ⟨w0.heap.size + 1,0,none⟩)),(5,.pointer (some ⟨w0.heap.size + 1 + 1,0,none⟩)),(6,.pointer (some ⟨w0.heap.size + 1 + 1 + 1,0,none⟩))] (fun γ L w9=>(L 7 = false/\Below V.heap.size V w9) \/ (L 7 = true/\∃ w,Below V.heap.size V w/\w9 = (((w.setCell ⟨w0.heap.size + 1 + 1 + 1,0,none⟩ (.int .i64 ((by_ - ay) * (cz - az) - (bz - az) * (cy - ay)))).setCell ⟨w0.heap.size + 1 + 1 + 1,1,none⟩ (.int .i64 ((bz - az) * (cx - ax) - (bx - ax) * (cz - az)))).setCell ⟨w0.heap.size + 1 + 1 + 1,2,none⟩ (.int .i64 ((bx - ax) * (cy - ay) - (by_ - ay) * (cx - ax)))))) ⟨rfl,rfl,rfl,rfl,trivial⟩ ?_ ?_ ?_
 ·exact Or.inl ⟨rfl,(Below.refl _ V).drew⟩
 ·intro D WA Z hD hWA hZ T
  simp only [RV.Outs,RV.Slots,Nat.reduceAdd] at T
  iterate 2 (refine RV.cc _ (RV.pu T (fun γ v L w hl h=>by rw [RV.mn (L:=L) (i:=_) (j:=7) (by decide)];exact h) (fun γ L a w hH hl h9 k9=>⟨_,?_,rfl⟩)) ?_;· have hB9:=early9 hH.glob (RV.ny hH (RV.wt (j:=7) hWA (by kernel_rfl)) hl);have q0:=c_after hB9 V1_0;have q1:=c_after hB9 V1_1;have q2:=c_after hB9 V1_2;have q3:=c_after hB9 V0_0;have q4:=c_after hB9 V0_1;have q5:=c_after hB9 V0_2;simp [execOp,go_sem,h9,q0,q1,q2,q3,q4,q5])
  refine RV.cc _ (RV.dc (fun γ L a w hH hl hA=>by have h9:=T γ L a w hH;have k9:=hA;simp [Region.binds] at k9;have hB9:=early9 hH.glob (RV.ny hH (RV.wt (j:=7) (i:=2) hWA (by kernel_rfl)) hl);exact ⟨18,#[.agg #[.int .i64 bx,.int .i64 by_,.int .i64 bz],.agg #[.int .i64 ax,.int .i64 ay,.int .i64 az]],by simp [go_sem,h9,k9],Calls.mono (L1.out w) (by rintro e w2 ⟨rfl,hb⟩;exact ⟨_,rfl,rfl,fun j v _ h=>h.keep _,Or.inl ⟨by rw [RV.mn (L:=L) (i:=2) (j:=7) (by decide)];exact RV.ny hH (RV.wt (j:=7) (i:=2) hWA (by kernel_rfl)) hl,hB9.trans (hb.mono hB9.size)⟩⟩)⟩)) ?_
  iterate 2 (refine RV.cc _ (RV.pu T (fun γ v L w hl h=>by rw [RV.mn (L:=L) (i:=_) (j:=7) (by decide)];exact h) (fun γ L a w hH hl h9 k9=>⟨_,?_,rfl⟩)) ?_;· have hB9:=early9 hH.glob (RV.ny hH (RV.wt (j:=7) hWA (by kernel_rfl)) hl);have q0:=c_after hB9 V2_0;have q1:=c_after hB9 V2_1;have q2:=c_after hB9 V2_2;have q3:=c_after hB9 V0_0;have q4:=c_after hB9 V0_1;have q5:=c_after hB9 V0_2;simp [execOp,go_sem,h9,q0,q1,q2,q3,q4,q5])
  refine RV.cc _ (RV.dc (fun γ L a w hH hl hA=>by have h9:=T γ L a w hH;have k9:=hA;simp [Region.binds] at k9;have hB9:=early9 hH.glob (RV.ny hH (RV.wt (j:=7) (i:=5) hWA (by kernel_rfl)) hl);exact ⟨18,#[.agg #[.int .i64 cx,.int .i64 cy,.int .i64 cz],.agg #[.int .i64 ax,.int .i64 ay,.int .i64 az]],by simp [go_sem,h9,k9],Calls.mono (L2.out w) (by rintro e w2 ⟨rfl,hb⟩;exact ⟨_,rfl,rfl,fun j v _ h=>h.keep _,Or.inl ⟨by rw [RV.mn (L:=L) (i:=5) (j:=7) (by decide)];exact RV.ny hH (RV.wt (j:=7) (i:=5) hWA (by kernel_rfl)) hl,hB9.trans (hb.mono hB9.size)⟩⟩)⟩)) ?_
  refine RV.cc _ (RV.dc (fun γ L a w hH hl hA=>by have h9:=T γ L a w hH;have k9:=hA;simp [Region.binds] at k9;have hB9:=early9 hH.glob (RV.ny hH (RV.wt (j:=7) (i:=6) hWA (by kernel_rfl)) hl);exact ⟨89,#[.agg #[.int .i64 (bx - ax),.int .i64 (by_ - ay),.int .i64 (bz - az)],.agg #[.int .i64 (cx - ax),.int .i64 (cy - ay),.int .i64 (cz - az)]],by simp [go_sem,h9,k9],Calls.mono (L3.out w) (by rintro e w2 ⟨rfl,hb⟩;exact ⟨_,rfl,rfl,fun j v _ h=>h.keep _,Or.inl ⟨by rw [RV.mn (L:=L) (i:=6) (j:=7) (by decide)];exact RV.ny hH (RV.wt (j:=7) (i:=6) hWA (by kernel_rfl)) hl,hB9.trans (hb.mono hB9.size)⟩⟩)⟩)) ?_
  refine RV.cc _ (RV.does_store (fun γ L a w hH hl hA=>by have h9:=T γ L a w hH;have k9:=hA;simp [Region.binds] at k9;have hB9:=early9 hH.glob hl;have z0:=c_after hB9 V3_0;have zf0:=f_after hB9 V3_0 Vf3_0;have z1:=c_after hB9 V3_1;have zf1:=f_after hB9 V3_1 Vf3_1;have z2:=c_after hB9 V3_2;have zf2:=f_after hB9 V3_2 Vf3_2;exact ⟨(((w.setCell ⟨w0.heap.size + 1 + 1 + 1,0,none⟩ (.int .i64 ((by_ - ay) * (cz - az) - (bz - az) * (cy - ay)))).setCell ⟨w0.heap.size + 1 + 1 + 1,1,none⟩ (.int .i64 ((bz - az) * (cx - ax) - (bx - ax) * (cz - az)))).setCell ⟨w0.heap.size + 1 + 1 + 1,2,none⟩ (.int .i64 ((bx - ax) * (cy - ay) - (by_ - ay) * (cx - ax)))),by simp [execOp,go_sem,z0,zf0,z1,zf1,z2,zf2,h9,k9],trivial,fun j v _ h=>h.keep _,Or.inr ⟨RV.more_self,w,hB9,rfl⟩⟩)) ?_
  exact RV.AllDo.nil
 ·intro γ w5 L9 hL hI9 hG9
  obtain ⟨w8,hb8,rfl⟩:=late9 hG9 (hL 7 (by decide))
  clear hL hI9 hG9
  simp only [RV.putL,Act.put,List.setIfInBounds_toArray,List.set_cons_zero,List.set_cons_succ]
  have q0:=c_after hb8 V3_0
  have q1:=c_after hb8 V3_1
  have q2:=c_after hb8 V3_2
  go_wp2
  refine bodyPost_ret (v:=.agg #[.int .i64 ((by_ - ay) * (cz - az) - (bz - az) * (cy - ay)),.int .i64 ((bz - az) * (cx - ax) - (bx - ax) * (cz - az)),.int .i64 ((bx - ax) * (cy - ay) - (by_ - ay) * (cx - ax))]) (by simp [results,Tryz.results129,go_sem,q0,q1,q2]) rfl ⟨rfl,?_⟩
  exact ((((hBV.trans (hb8.mono hBV.size)).setCell (by simp;omega) _).setCell (by simp;omega) _).setCell (by simp;omega) _)
def inP (p:Pt) (lo hi:Int):Bool:=inR p.x lo hi && (inR p.y lo hi && inR p.z lo hi)
theorem inP_sym (p:Pt) (m:Int):inP p (-m) m = p.inB m:=by rw [Bool.eq_iff_iff,Pt.inB_iff];simp [inP,inR]
theorem rwithin_any (p:Pt) (lo hi:Int) (w0:World) :
  Calls Tryz.prog 143 #[p.v,.int .i64 lo,.int .i64 hi] w0 fun e W=>e = .returned (.bool (inP p lo hi))/\Below w0.heap.size w0 W:=by
 obtain ⟨x,y,z⟩:=p
 unfold Pt.v inP
 dsimp only
 cases hx:inR x lo hi with
 | false =>
  go_enter Tryz.func143,Tryz.ntmps143
  go_wp2_with (fail)
  refine Calls.mono (rin_is x lo hi _ false hx) ?_
  rintro e w' ⟨rfl,rfl⟩
  go_wp2_with (fail)
  go_ret
  exact ⟨rfl,n_after w0 _⟩
 | true =>
  cases hy:inR y lo hi with
  | false =>
   go_enter Tryz.func143,Tryz.ntmps143
   go_wp2_with (fail)
   refine Calls.mono (rin_is x lo hi _ true hx) ?_
   rintro e w' ⟨rfl,rfl⟩
   go_wp2_with (fail)
   refine Calls.mono (rin_is y lo hi _ false hy) ?_
   rintro e w' ⟨rfl,rfl⟩
   go_wp2_with (fail)
   go_ret
   exact ⟨rfl,n_after w0 _⟩
  | true =>
   cases hz:inR z lo hi with
   | false =>
    go_enter Tryz.func143,Tryz.ntmps143
    go_wp2_with (fail)
    refine Calls.mono (rin_is x lo hi _ true hx) ?_
    rintro e w' ⟨rfl,rfl⟩
    go_wp2_with (fail)
    refine Calls.mono (rin_is y lo hi _ true hy) ?_
    rintro e w' ⟨rfl,rfl⟩
    go_wp2_with (fail)
    refine Calls.mono (rin_is z lo hi _ false hz) ?_
    rintro e w' ⟨rfl,rfl⟩
    go_wp2_with (fail)
    go_ret
    exact ⟨rfl,n_after w0 _⟩
   | true =>
    go_enter Tryz.func143,Tryz.ntmps143
    go_wp2_with (fail)
    refine Calls.mono (rin_is x lo hi _ true hx) ?_
    rintro e w' ⟨rfl,rfl⟩
    go_wp2_with (fail)
    refine Calls.mono (rin_is y lo hi _ true hy) ?_
    rintro e w' ⟨rfl,rfl⟩
    go_wp2_with (fail)
    refine Calls.mono (rin_is z lo hi _ true hz) ?_
    rintro e w' ⟨rfl,rfl⟩
    go_wp2_with (fail)
    go_ret
    exact ⟨rfl,n_after w0 _⟩
end
section
open Go.RowKit Go.Shelf
theorem arr3 {cs:Array Value} (h:cs.size = 3):∃ a b c,cs = #[a,b,c]:=by
 obtain ⟨l⟩:=cs
 match l,h with
 | [a,b,c],_=>exact ⟨a,b,c,rfl⟩
theorem rflat_any (v:Value) (Ls:List Pt) (w0:World) (hv:Lies w0 v Ls) (h4:4 <= Ls.length) (h12:Ls.length <= 12) (hin:∀ p ∈ Ls,p.inB 65536 = true) (hne:pt Ls 0 ≠ pt Ls 1) :
  Calls Tryz.prog 128 #[v] w0 fun e W=>e = .returned (.bool (flatP Ls))/\Below w0.heap.size w0 W:=by
 obtain ⟨o,c,rfl,hlc,hcm,hcell⟩:=hv.form
 have HC:Hid _:=hcell
 have HIN:Hid _:=hin
 obtain ⟨g,off,rfl,_,_,_⟩:=hcell 0 (by omega)
 clear hcell hv hin
 have HF:Hid _:=flatR_iff (show 2 <= Ls.length by omega) hne
 clear hne
 obtain ⟨R,hR⟩:∃ R,flatP Ls = R:=⟨_,rfl⟩
 rw [hR] at HF ⊢
 clear hR
 go_enter Tryz.func128,Tryz.ntmps128
 go_wp2_with (fail)
 go_loopg [3] Ls.length (fun gm s wr=>∃ i:Nat,s = .int .i64 (i:Int)/\i <= Ls.length/\gm = Ls.length - i/\Hid (∀ i' k m q,i' < i->m < k->k < i'->q < Ls.length->vol (pt Ls m) (pt Ls k) (pt Ls i') (pt Ls q) = 0)/\Hid (Below w0.heap.size w0 wr))
 case atStart=>exact ⟨0,rfl,Nat.zero_le _,rfl,fun i' k m q h=>absurd h (Nat.not_lt_zero _),Below.refl _ _⟩
 case round =>
  obtain ⟨i,rfl,hi,hgm,HA,HBi⟩:=hrel
  have HG1:Hid _:=hgm
  clear hgm
  by_cases hit:i < Ls.length
  ·go_wp2_with (fail)
   go_loopg [4] i (fun gm s wr=>∃ k:Nat,s = .int .i64 (k:Int)/\k <= i/\gm = i - k/\Hid (∀ k' m q,k' < k->m < k'->q < Ls.length->vol (pt Ls m) (pt Ls k') (pt Ls i) (pt Ls q) = 0)/\Hid (Below w0.heap.size w0 wr))
   case atStart=>exact ⟨0,rfl,Nat.zero_le _,rfl,fun k' m q h=>absurd h (Nat.not_lt_zero _),HBi⟩
   case round =>
    clear HBi
    obtain ⟨k,rfl,hk,hgm,HA2,HBk⟩:=hrel
    have HG2:Hid _:=hgm
    clear hgm
    by_cases hkt:k < i
    ·have hkl:k < Ls.length:=by omega
     go_wp2_with (fail)
     go_loopg [5] k (fun gm s wr=>∃ m:Nat,s = .int .i64 (m:Int)/\m <= k/\gm = k - m/\Hid (∀ m' q,m' < m->q < Ls.length->vol (pt Ls m') (pt Ls k) (pt Ls i) (pt Ls q) = 0)/\Hid (Below w0.heap.size w0 wr))
     case atStart=>exact ⟨0,rfl,Nat.zero_le _,rfl,fun m' q h=>absurd h (Nat.not_lt_zero _),HBk⟩
     case round =>
      clear HBk
      obtain ⟨m,rfl,hm,hgm,HA3,HBm⟩:=hrel
      have HG3:Hid _:=hgm
      clear hgm
      by_cases hmt:m < k
      ·have hml:m < Ls.length:=by omega
       obtain ⟨g',off',e',x0,x1,x2⟩:=HC.out i hit
       simp only [Option.some.injEq,Addr.mk.injEq,and_true] at e'
       obtain ⟨rfl,rfl⟩:=e'
       obtain ⟨g',off',e',y0,y1,y2⟩:=HC.out k hkl
       simp only [Option.some.injEq,Addr.mk.injEq,and_true] at e'
       obtain ⟨rfl,rfl⟩:=e'
       obtain ⟨g',off',e',z0,z1,z2⟩:=HC.out m hml
       simp only [Option.some.injEq,Addr.mk.injEq,and_true] at e'
       obtain ⟨rfl,rfl⟩:=e'
       have x0:=c_after HBm.out x0
       have x1:=c_after HBm.out x1
       have x2:=c_after HBm.out x2
       have y0:=c_after HBm.out y0
       have y1:=c_after HBm.out y1
       have y2:=c_after HBm.out y2
       have HZ:Hid _:=And.intro z0 (And.intro z1 z2)
       have z0:=c_after HBm.out z0
       have z1:=c_after HBm.out z1
       have z2:=c_after HBm.out z2
       have hain:=HIN.out _ (pt_mem hml)
       have hbin:=HIN.out _ (pt_mem hkl)
       have hcin:=HIN.out _ (pt_mem hit)
       have HM:Hid ((∃ q,q < Ls.length/\vol (pt Ls m) (pt Ls k) (pt Ls i) (pt Ls q) ≠ 0)->R = false):=fun ⟨q,h1,h2⟩=>by
        cases R with
        | false=>rfl
        | true=>exact absurd (HF.out.2 rfl i k m q hmt hkt hit h1) h2
       have HS3:Hid ((∀ q,q < Ls.length->vol (pt Ls m) (pt Ls k) (pt Ls i) (pt Ls q) = 0)->∀ m' q,m' < m + 1->q < Ls.length->vol (pt Ls m') (pt Ls k) (pt Ls i) (pt Ls q) = 0):=fun h m' q h1 h2=>by
        by_cases e:m' = m
        ·subst e;exact h q h2
        ·exact HA3.out m' q (by omega) h2
       generalize pt Ls i = pc at *
       generalize pt Ls k = pb at *
       generalize pt Ls m = pa at *
       have L3:Hid _:=fun w'=>normal_any pa pb pc w' hain hbin hcin
       have hnin:=cross_in (sub_in hbin hain) (sub_in hcin hain)
       have HVO:Hid (∀ q,vol pa pb pc q = ((pb.sub pa).cross (pc.sub pa)).dot (q.sub pa)):=fun q=>rfl
       generalize (pb.sub pa).cross (pc.sub pa) = n at *
       unfold Pt.v at L3
       have hiz:(i:Int) < (Ls.length:Int):=by omega
       have hkz:(k:Int) < (Ls.length:Int):=by omega
       have hmz:(m:Int) < (Ls.length:Int):=by omega
       go_upto_region 10 with fail
       refine RV.rs [.some (.slice (some ⟨g,off,none⟩) Ls.length c),.some (.int .i64 (m:Int)),.some (.pointer (some ⟨g,off + m * 3,none⟩)),.some (.agg #[.int .i64 pa.x,.int .i64 pa.y,.int .i64 pa.z]),.some (.slice (some ⟨g,off,none⟩) Ls.length c),.some (.int .i64 (k:Int)),.some (.pointer (some ⟨g,off + k * 3,none⟩)),.some (.agg #[.int .i64 pb.x,.int .i64 pb.y,.int .i64 pb.z]),.some (.slice (some ⟨g,off,none⟩) Ls.length c),.some (.int .i64 (i:Int)),.some (.pointer (some ⟨g,off + i * 3,none⟩)),.some (.agg #[.int .i64 pc.x,.int .i64 pc.y,.int .i64 pc.z]),.some (.agg #[.int .i64 n.x,.int .i64 n.y,.int .i64 n.z]),none,none] [25,26,27,28,29,30,31,32,33,34,35,36,37,7,0] [(0,.slice (some ⟨g,off,none⟩) Ls.length c),(3,.int .i64 (i:Int)),(4,.int .i64 (k:Int)),(5,.int .i64 (m:Int))] (fun γ L w=>Below wr.heap.size wr w/\RV.Pend wr 45 13 14 #[.int .i64 n.x,.int .i64 n.y,.int .i64 n.z] γ L w) ⟨rfl,rfl,rfl,rfl,trivial⟩ ?_ ?_ ?_
       ·exact ⟨(Below.refl _ wr).drew,RV.Pend.start rfl⟩
       ·intro D WA Z hD hWA hZ T
        simp only [RV.Outs,RV.Slots,Nat.reduceAdd] at T
        iterate 12 first
         | (refine RV.cc _ (RV.pu T (fun γ v L w hl h=>⟨h.1,h.2.other v (by decide) (by decide)⟩) (fun γ L a w hH hl h9 k9=>⟨_,?_,rfl⟩)) ?_;· simp [execOp,go_sem,h9])
         | (refine RV.cc _ (RV.pu T (fun γ v L w hl h=>⟨h.1,h.2.other v (by decide) (by decide)⟩) (fun γ L a w hH hl h9 k9=>⟨_,?_,rfl⟩)) ?_;· simp [Region.binds] at k9;simp [execOp,go_sem,h9,k9,hmz,hkz,hiz])
         | (refine RV.cc _ (RV.pu T (fun γ v L w hl h=>⟨h.1,h.2.other v (by decide) (by decide)⟩) (fun γ L a w hH hl h9 k9=>⟨_,?_,rfl⟩)) ?_;· have v0:=c_after hH.glob.1 z0;have v1:=c_after hH.glob.1 z1;have v2:=c_after hH.glob.1 z2;simp [Region.binds] at k9;simp [execOp,go_sem,h9,k9,v0,v1,v2])
         | (refine RV.cc _ (RV.pu T (fun γ v L w hl h=>⟨h.1,h.2.other v (by decide) (by decide)⟩) (fun γ L a w hH hl h9 k9=>⟨_,?_,rfl⟩)) ?_;· have v0:=c_after hH.glob.1 y0;have v1:=c_after hH.glob.1 y1;have v2:=c_after hH.glob.1 y2;simp [Region.binds] at k9;simp [execOp,go_sem,h9,k9,v0,v1,v2])
         | (refine RV.cc _ (RV.pu T (fun γ v L w hl h=>⟨h.1,h.2.other v (by decide) (by decide)⟩) (fun γ L a w hH hl h9 k9=>⟨_,?_,rfl⟩)) ?_;· have v0:=c_after hH.glob.1 x0;have v1:=c_after hH.glob.1 x1;have v2:=c_after hH.glob.1 x2;simp [Region.binds] at k9;simp [execOp,go_sem,h9,k9,v0,v1,v2])
        refine RV.cc _ (RV.dc (fun γ L a w hH hl hA=>by have h9:=T γ L a w hH;have k9:=hA;simp [Region.binds] at k9;exact ⟨129,#[.agg #[.int .i64 pa.x,.int .i64 pa.y,.int .i64 pa.z],.agg #[.int .i64 pb.x,.int .i64 pb.y,.int .i64 pb.z],.agg #[.int .i64 pc.x,.int .i64 pc.y,.int .i64 pc.z]],by simp [go_sem,h9,k9],Calls.mono (L3.out w) (by rintro e w2 ⟨rfl,hb⟩;exact ⟨_,rfl,rfl,fun j v _ h=>h.keep _,hH.glob.1.trans (hb.mono hH.glob.1.size),(hH.glob.2.below hb).other _ (by decide) (by decide)⟩)⟩)) ?_
        refine RV.cc _ (RV.does_step (fun γ L a w hH hl hA=>by have h10:L 14 = false:=RV.ny hH (RV.wt (j:=14) (i:=13) hWA (by kernel_rfl)) hl;exact ⟨.pointer (some ⟨w.heap.size,0,none⟩),w.alloc (.cells #[.int .i64 0,.int .i64 0,.int .i64 0] 45),by simp [execOp,go_sem],trivial,fun j v _ h=>h.keep _,hH.glob.1.alloc hH.glob.1.size _,RV.Pend.made _ rfl hH.glob.1.size h10 (by decide)⟩)) ?_
        refine RV.cc _ (RV.does_store (fun γ L a w hH hl hA=>by have h9:=T γ L a w hH;have k9:=hA;simp [Region.binds] at k9;have l0:L 13 = true:=hA ⟨13,.data⟩ (by simp) rfl;have e0:=hH.slot 13 6 (by rw [<- hD];rfl) l0;obtain ⟨b,cs,hb1,hb2,hb3,hb4,_⟩:=hH.glob.2 l0;rw [hb1] at e0;obtain ⟨u0,u1,u2,rfl⟩:=arr3 hb4;have z09:w.cell? ⟨b,0,none⟩ = some u0:=(by simp [World.cell?,hb3]);have z19:w.cell? ⟨b,1,none⟩ = some u1:=(by simp [World.cell?,hb3]);have z29:w.cell? ⟨b,2,none⟩ = some u2:=(by simp [World.cell?,hb3]);have zf:∀ o,w.frozen? ⟨b,o,none⟩ = false:=fun o=>(by simp [World.frozen?,hb3]);exact ⟨(((w.setCell ⟨b,0,none⟩ (.int .i64 n.x)).setCell ⟨b,1,none⟩ (.int .i64 n.y)).setCell ⟨b,2,none⟩ (.int .i64 n.z)),by simp [execOp,go_sem,e0,z09,z19,z29,zf,h9,k9],trivial,fun j v _ h=>h.keep _,((hH.glob.1.setCell hb2 _).setCell hb2 _).setCell hb2 _,RV.Pend.filled hb1 hb2 (by have q0:=Go.heap_setCell_same w b 0 _ _ (.int .i64 n.x) hb3;have q1:=Go.heap_setCell_same _ b 1 _ _ (.int .i64 n.y) q0;have q2:=Go.heap_setCell_same _ b 2 _ _ (.int .i64 n.z) q1;simpa using q2) (by decide) _⟩)) ?_
        exact RV.AllDo.nil
       ·intro γ w5 L9 hL hI9 hG9
        obtain ⟨bn,cs,hb1,hb2,hb3,_,hb5⟩:=hG9.2 (hL 13 (by decide))
        rw [hb5 (hL 14 (by decide))] at hb3
        have hB5:=hG9.1
        clear hL hb5 hI9 hG9
        simp only [RV.putL,Act.put,List.setIfInBounds_toArray,List.set_cons_zero,List.set_cons_succ,Nat.reduceAdd]
        rw [hb1]
        obtain ⟨W5,hW5⟩:∃ X:World,X = w5:=⟨_,rfl⟩
        rw [<- hW5] at hB5 hb3 ⊢
        have BN:Hid (Box3 W5 bn n):=⟨by simp [World.cell?,hb3],by simp [World.cell?,hb3],by simp [World.cell?,hb3],by simp [World.frozen?,hb3],by simp [World.frozen?,hb3],by simp [World.frozen?,hb3]⟩
        have HB5:Hid (Below w0.heap.size w0 W5):=b_step HBm.out hB5
        clear hW5 hb1 hb3 hB5 L3 x0 x1 x2 y0 y1 y2 z0 z1 z2
        go_wp2_with (fail)
        go_loopg [7] Ls.length (fun gm s wx=>∃ q:Nat,s = .int .i64 (q:Int)/\q <= Ls.length/\gm = Ls.length - q/\Hid (∀ q',q' < q->vol pa pb pc (pt Ls q') = 0)/\Hid (Below W5.heap.size W5 wx))
        case atStart=>exact ⟨0,rfl,Nat.zero_le _,rfl,fun q' h=>absurd h (Nat.not_lt_zero _),Below.refl _ _⟩
        case round =>
         obtain ⟨q,rfl,hq,hgm,HA4,HBq⟩:=hrel
         have HG4:Hid _:=hgm
         clear hgm
         by_cases hqt:q < Ls.length
         ·obtain ⟨g',off',e',x0,x1,x2⟩:=HC.out q hqt
          simp only [Option.some.injEq,Addr.mk.injEq,and_true] at e'
          obtain ⟨rfl,rfl⟩:=e'
          have x0:=c_after (b_step HB5.out HBq.out) x0
          have x1:=c_after (b_step HB5.out HBq.out) x1
          have x2:=c_after (b_step HB5.out HBq.out) x2
          have y0:=c_after (b_step HB5.out HBq.out) HZ.out.1
          have y1:=c_after (b_step HB5.out HBq.out) HZ.out.2.1
          have y2:=c_after (b_step HB5.out HBq.out) HZ.out.2.2
          have hmin:=HIN.out _ (pt_mem hqt)
          have HM2:Hid (¬ vol pa pb pc (pt Ls q) = 0->R = false):=fun h=>HM.out ⟨q,hqt,h⟩
          have HS4:Hid (vol pa pb pc (pt Ls q) = 0->∀ q',q' < q + 1->vol pa pb pc (pt Ls q') = 0):=fun h q' h1=>by
           by_cases e:q' = q
           ·subst e;exact h
           ·exact HA4.out q' (by omega)
          rw [HVO.out] at HM2 HS4
          generalize pt Ls q = mo at *
          have L1:Hid _:=fun w'=>minus_any mo pa w' (inB_mono hmin (by decide)) (inB_mono hain (by decide))
          have L2:Hid _:=fun w'=>rdot_any n (mo.sub pa) w' hnin (sub_in hmin hain)
          unfold Pt.v at L1 L2
          obtain ⟨q0,q1,q2,_,_,_⟩:=BN.out.step HBq.out
          have hqz:(q:Int) < (Ls.length:Int):=by omega
          go_upto_region 14 with fail
          refine RV.rs [.some (.agg #[.int .i64 n.x,.int .i64 n.y,.int .i64 n.z]),.some (.slice (some ⟨g,off,none⟩) Ls.length c),.some (.int .i64 ((q:Int))),.some (.pointer (some ⟨g,off + q * 3,none⟩)),.some (.agg #[.int .i64 mo.x,.int .i64 mo.y,.int .i64 mo.z]),.some (.slice (some ⟨g,off,none⟩) Ls.length c),.some (.int .i64 ((m:Int))),.some (.pointer (some ⟨g,off + m * 3,none⟩)),.some (.agg #[.int .i64 pa.x,.int .i64 pa.y,.int .i64 pa.z]),.some (.agg #[.int .i64 ((mo.sub pa).x),.int .i64 ((mo.sub pa).y),.int .i64 ((mo.sub pa).z)]),.some (.int .i64 (n.dot (mo.sub pa))),.some (.bool (n.dot (mo.sub pa) != 0))] [44,45,46,47,48,49,50,51,52,53,54,55] [(0,.slice (some ⟨g,off,none⟩) Ls.length c),(5,.int .i64 ((m:Int))),(6,.pointer (some ⟨bn,0,none⟩)),(7,.int .i64 ((q:Int)))] (fun γ L w9=>Below wr.heap.size wr w9) ⟨rfl,rfl,rfl,rfl,trivial⟩ ?_ ?_ ?_
          ·exact (Below.refl _ wr).drew
          ·intro D WA Z hD hWA hZ T
           simp only [RV.Outs,RV.Slots,Nat.reduceAdd] at T
           iterate 9 first
            | (refine RV.cc _ (RV.pu T (fun γ v L w hl h=>h) (fun γ L a w hH hl h9 k9=>⟨_,?_,rfl⟩)) ?_;· simp [execOp,go_sem,h9])
            | (refine RV.cc _ (RV.pu T (fun γ v L w hl h=>h) (fun γ L a w hH hl h9 k9=>⟨_,?_,rfl⟩)) ?_;· simp [Region.binds] at k9;simp [execOp,go_sem,h9,k9,hqz,hmz])
            | (refine RV.cc _ (RV.pu T (fun γ v L w hl h=>h) (fun γ L a w hH hl h9 k9=>⟨_,?_,rfl⟩)) ?_;· have hB9:=hH.glob;have v0:=c_after hB9 x0;have v1:=c_after hB9 x1;have v2:=c_after hB9 x2;simp [Region.binds] at k9;simp [execOp,go_sem,h9,k9,v0,v1,v2])
            | (refine RV.cc _ (RV.pu T (fun γ v L w hl h=>h) (fun γ L a w hH hl h9 k9=>⟨_,?_,rfl⟩)) ?_;· have hB9:=hH.glob;have v0:=c_after hB9 y0;have v1:=c_after hB9 y1;have v2:=c_after hB9 y2;simp [Region.binds] at k9;simp [execOp,go_sem,h9,k9,v0,v1,v2])
            | (refine RV.cc _ (RV.pu T (fun γ v L w hl h=>h) (fun γ L a w hH hl h9 k9=>⟨_,?_,rfl⟩)) ?_;· have hB9:=hH.glob;have q0:=c_after hB9 q0;have q1:=c_after hB9 q1;have q2:=c_after hB9 q2;simp [execOp,go_sem,h9,q0,q1,q2])
           refine RV.cc _ (RV.dc (fun γ L a w hH hl hA=>by have h9:=T γ L a w hH;have k9:=hA;simp [Region.binds] at k9;have hB9:=hH.glob;exact ⟨18,#[.agg #[.int .i64 mo.x,.int .i64 mo.y,.int .i64 mo.z],.agg #[.int .i64 pa.x,.int .i64 pa.y,.int .i64 pa.z]],by simp [go_sem,h9,k9],Calls.mono (L1.out w) (by rintro e w2 ⟨rfl,hb⟩;exact ⟨_,rfl,rfl,fun j v _ h=>h.keep _,hB9.trans (hb.mono hB9.size)⟩)⟩)) ?_
           refine RV.cc _ (RV.dc (fun γ L a w hH hl hA=>by have h9:=T γ L a w hH;have k9:=hA;simp [Region.binds] at k9;have hB9:=hH.glob;exact ⟨17,#[.agg #[.int .i64 n.x,.int .i64 n.y,.int .i64 n.z],.agg #[.int .i64 ((mo.sub pa).x),.int .i64 ((mo.sub pa).y),.int .i64 ((mo.sub pa).z)]],by simp [go_sem,h9,k9],Calls.mono (L2.out w) (by rintro e w2 ⟨rfl,hb⟩;exact ⟨_,rfl,rfl,fun j v _ h=>h.keep _,hB9.trans (hb.mono hB9.size)⟩)⟩)) ?_
           (refine RV.cc _ (RV.pu T (fun γ v L w hl h=>h) (fun γ L a w hH hl h9 k9=>⟨_,?_,rfl⟩)) ?_;· simp [Region.binds] at k9;simp [execOp,go_sem,h9,k9])
           exact RV.AllDo.nil
          ·intro γ w5 L9 hL hI9 hG9
           have hb8:=hG9
           clear hL hI9 hG9
           simp only [RV.putL,Act.put,List.setIfInBounds_toArray,List.set_cons_zero,List.set_cons_succ]
           have HB7:Hid _:=b_step HBq.out hb8
           clear hb8 L1 L2 q0 q1 q2 x0 x1 x2
           generalize n.dot (mo.sub pa) = dd at *
           by_cases hd:dd = 0
           ·have HS5:Hid _:=HS4.out hd
            subst hd
            clear HM2
            go_wp2_with (fail)
            go_roundg (Ls.length - (q + 1))
            case measure=>have:=HG4.out;omega
            case rel=>exact ⟨q + 1,by go_num,by omega,rfl,HS5,HB7⟩
           ·have e:R = false:=HM2.out hd
            subst e
            have hd2:(dd != 0) = true:=bne_iff_ne.2 hd
            go_wp2_with (fail)
            go_ret
            exact ⟨rfl,b_step HB5.out HB7.out⟩
         ·have HS3:Hid _:=HS3.out (fun q' h=>HA4.out q' (by omega))
          go_wp2_with (fail)
          go_roundg (k - (m + 1))
          case measure=>have:=HG3.out;omega
          case rel=>exact ⟨m + 1,by go_num,by omega,rfl,HS3,b_step HB5.out HBq.out⟩
      ·have HS2:Hid (∀ k' m q,k' < k + 1->m < k'->q < Ls.length->vol (pt Ls m) (pt Ls k') (pt Ls i) (pt Ls q) = 0):=fun k' m' q h1 h2 h3=>by
        by_cases e:k' = k
        ·subst e;exact HA3.out m' q (by omega) h3
        ·exact HA2.out k' m' q (by omega) h2 h3
       go_wp2_with (fail)
       go_roundg (i - (k + 1))
       case measure=>have:=HG2.out;omega
       case rel=>exact ⟨k + 1,by go_num,by omega,rfl,HS2,HBm⟩
    ·have HS1:Hid (∀ i' k m q,i' < i + 1->m < k->k < i'->q < Ls.length->vol (pt Ls m) (pt Ls k) (pt Ls i') (pt Ls q) = 0):=fun i' k' m' q h1 h2 h3 h4=>by
      by_cases e:i' = i
      ·subst e;exact HA2.out k' m' q (by omega) h2 h4
      ·exact HA.out i' k' m' q (by omega) h2 h3 h4
     go_wp2_with (fail)
     go_roundg (Ls.length - (i + 1))
     case measure=>have:=HG1.out;omega
     case rel=>exact ⟨i + 1,by go_num,by omega,rfl,HS1,HBk⟩
  ·have e:R = true:=HF.out.1 (fun i' k' m' q h1 h2 h3 h4=>HA.out i' k' m' q (by omega) h1 h2 h4)
   subst e
   go_wp2_with (fail)
   go_ret
   exact ⟨rfl,HBi.out⟩
end
end Go.Proofs.YtablgiflakncfaaGreat
