/- The document's own layer 18, but for Hold: in, down, grains, Way. -/
import Derived.Test.YtablgiflakncfaaGreatBBW12
import Derived.Test.YtablgiflakncfaaGreatEHHolds0
import Derived.Test.YtablgiflakncfaaGreatBBW11
import Derived.Test.YtablgiflakncfaaGreatBBW1
import Derived.Test.YtablgiflakncfaaGreatBBW0
import Derived.RowKit
import Derived.Test.YtablgiflakncfaaGreatBBW8
import Derived.Test.YtablgiflakncfaaGreatBBW7
import Derived.Test.YtablgiflakncfaaGreatProg
import Derived.WalkKit
import Derived.Laws.MathBits
import Derived.Laws.Externs
import Derived.Handy
import Derived.Laws.BitsAllLaws
import Derived.WalkLawsBesides
import Derived.Deep.RegionWith
import Derived.Orders
import Derived.Below
import Derived.Laws.Rows
import Derived.Test.YtablgiflakncfaaGreatBBW10
import Derived.Test.YtablgiflakncfaaGreatBBW5
import Derived.Test.YtablgiflakncfaaGreatBBW4
import Derived.Test.YtablgiflakncfaaGreatBBW3
import Derived.Test.YtablgiflakncfaaGreatBBW2
import Derived.RangeFuncNested
import Derived.RangeFuncBound
import Derived.RangeFuncCalls
import Derived.RangeFuncLeaves
import Derived.RangeFuncBox
import Derived.Shelf.Abstract
import Derived.OwnWalkIn
import Derived.TacticsInMore
import Derived.LoopNIn
import Derived.LoopIn
import Derived.LoopTactic
import Derived.ProofKit
import Derived.Laws.MakeOwn
import Derived.Laws.OwnMore
import Derived.Maps.AppendAt
import Derived.Deep.QuietTactic
import Derived.BigQuiet
import Derived.Deep.CutBlock
import Derived.Deep.CutRange
import Derived.Deep.LoopGhost
import Derived.Lib.SmallJoins
import Derived.Scope
import Derived.OrdersIn
import Derived.Sort.CutIn
import Derived.Test.YtablgiflakncfaaGreatBBW9
import Derived.Test.YtablgiflakncfaaGreatBBW6
import Derived.OneCell
import Derived.WalkMore
import Derived.Lib.BufferMore
import Derived.Lib.AppendZeros
import Derived.Deep.MidRow
import Derived.Test.YtablgiflakncfaaGreatBBW17
import Derived.Test.YtablgiflakncfaaGreatBBW13
import Derived.Test.YtablgiflakncfaaGreatBBW22
import Derived.Test.YtablgiflakncfaaGreatBBW14
import Derived.Test.YtablgiflakncfaaGreatBBW16
import Derived.Test.YtablgiflakncfaaGreatBBW15
import Derived.Deep.RegionHeld3
import Derived.Test.YtablgiflakncfaaGreatBBW19
import Derived.Test.YtablgiflakncfaaGreatBBW18
import Derived.Test.YtablgiflakncfaaGreatBBW21
import Derived.Test.YtablgiflakncfaaGreatBBW20
set_option maxHeartbeats 8000000
set_option maxRecDepth 100000
set_option linter.unusedVariables false
namespace Go.Proofs.YtablgiflakncfaaGreat
section
open Go.RowKit Go.Shelf
theorem setg9 (W:World) (b o:Nat) (u:Value):W.grownBy (W.setCell ⟨b,o,none⟩ u) (some b):=⟨rfl,rfl,rfl,by simp [World.setCell],fun k _ hk=>Below.heap_setCell _ _ _ k (fun e=>hk (by rw [e]))⟩
theorem rin18_any (x y z m:Int) (w:World) (hm:0 <= m/\m <= 4611686018427387903) :
  Calls Tryz.prog 30 #[.int .i64 x,.int .i64 y,.int .i64 z,.int .i64 m] w fun e W=>e = .returned (.bool (Pt.inB ⟨x,y,z⟩ m))/\Below w.heap.size w W:=by
 have HI:Hid (Pt.inB ⟨x,y,z⟩ m = decide ((-m <= x/\x <= m)/\(-m <= y/\y <= m)/\(-m <= z/\z <= m))):=rfl
 obtain ⟨R9,hR9⟩:∃ R9,Pt.inB ⟨x,y,z⟩ m = R9:=⟨_,rfl⟩
 rw [hR9] at HI ⊢
 clear hR9
 obtain ⟨mm,hmm⟩:∃ mm,IntKind.i64.wrap (-m) = mm:=⟨_,rfl⟩
 have hm9:mm = -m:=by rw [<- hmm,IntKind.wrap_i64];omega
 rw [<- hm9] at HI
 have HM:Hid _:=hm
 clear hm9 hm
 by_cases h1:mm <= x
 ·by_cases h2:x <= m
  ·by_cases h3:mm <= y
   ·by_cases h4:y <= m
    ·by_cases h5:mm <= z
     ·by_cases h6:z <= m
      ·have e9:R9 = true:=by rw [HI.out];simp [h1,h2,h3,h4,h5,h6]
       subst e9
       go_enter Tryz.func30,Tryz.ntmps30
       go_wp2
       go_ret
       exact ⟨rfl,Below.refl _ _⟩
      ·have e9:R9 = false:=by rw [HI.out];simp [h6]
       subst e9
       go_enter Tryz.func30,Tryz.ntmps30
       go_wp2
       go_ret
       exact ⟨rfl,Below.refl _ _⟩
     ·have e9:R9 = false:=by rw [HI.out];simp [h5]
      subst e9
      go_enter Tryz.func30,Tryz.ntmps30
      go_wp2
      go_ret
      exact ⟨rfl,Below.refl _ _⟩
    ·have e9:R9 = false:=by rw [HI.out];simp [h4]
     subst e9
     go_enter Tryz.func30,Tryz.ntmps30
     go_wp2
     go_ret
     exact ⟨rfl,Below.refl _ _⟩
   ·have e9:R9 = false:=by rw [HI.out];simp [h3]
    subst e9
    go_enter Tryz.func30,Tryz.ntmps30
    go_wp2
    go_ret
    exact ⟨rfl,Below.refl _ _⟩
  ·have e9:R9 = false:=by rw [HI.out];simp [h2]
   subst e9
   go_enter Tryz.func30,Tryz.ntmps30
   go_wp2
   go_ret
   exact ⟨rfl,Below.refl _ _⟩
 ·have e9:R9 = false:=by rw [HI.out];simp [h1]
  subst e9
  go_enter Tryz.func30,Tryz.ntmps30
  go_wp2
  go_ret
  exact ⟨rfl,Below.refl _ _⟩
theorem rdown18_any (n:Int) (w:World) (hn:-4611686018427387904 <= n/\n <= 4611686018427387903) :
  Calls Tryz.prog 59 #[.int .i64 n] w fun e W=>e = .returned (.int .i64 (n / 1048576))/\W = w:=by
 obtain ⟨d1,d2⟩:=down_is hn
 obtain ⟨r,hr⟩:∃ r,n / 1048576 = r:=⟨_,rfl⟩
 rw [hr] at d1 d2 ⊢
 have b1:-4611686018427387904 <= n.tdiv 1048576/\n.tdiv 1048576 <= 4611686018427387903:=by
  have e:(n.tdiv 1048576).natAbs = n.natAbs / 1048576:=Int.natAbs_tdiv n 1048576
  omega
 clear hr
 obtain ⟨t,ht⟩:∃ t,n.tdiv 1048576 = t:=⟨_,rfl⟩
 obtain ⟨u,hu⟩:∃ u,n.tmod 1048576 = u:=⟨_,rfl⟩
 have e1:wrap64 (n.tdiv 1048576) = t:=by rw [w64 (by omega) (by omega)];exact ht
 rw [ht] at d1 d2 b1
 rw [hu] at d1 d2
 have e2:wrap64 (t - 1) = t - 1:=w64 (by omega) (by omega)
 by_cases h:u < 0
 ·have e3:t - 1 = r:=d1 h
  subst e3
  clear d1 d2 b1 hn ht
  go_enter Tryz.func59,Tryz.ntmps59
  go_wp2
  go_ret
  exact ⟨by simp [e1,e2],rfl⟩
 ·have e3:t = r:=d2 h
  subst e3
  clear d1 d2 b1 hn ht
  go_enter Tryz.func59,Tryz.ntmps59
  go_wp2
  go_ret
  exact ⟨by simp,rfl⟩
theorem rgrn18_any (v:V3) (w:World) (hv:Pt.inB ⟨v.x,v.y,v.z⟩ 1125899906842624 = true) :
  Calls Tryz.prog 31 #[v.val] w fun e W=>e = .returned (grn v).v/\Below w.heap.size w W:=by
 rw [Pt.inB_iff] at hv
 obtain ⟨x,y,z⟩:=v
 dsimp only at hv
 have HDx:Hid (∀ w',Calls Tryz.prog 59 #[.int .i64 x] w' fun e W=>e = .returned (.int .i64 (x / 1048576))/\Below w'.heap.size w' W):=fun w'=>(rdown18_any x w' (by omega)).mono (by rintro e W ⟨h1,rfl⟩;exact ⟨h1,Below.refl _ _⟩)
 have HDy:Hid (∀ w',Calls Tryz.prog 59 #[.int .i64 y] w' fun e W=>e = .returned (.int .i64 (y / 1048576))/\Below w'.heap.size w' W):=fun w'=>(rdown18_any y w' (by omega)).mono (by rintro e W ⟨h1,rfl⟩;exact ⟨h1,Below.refl _ _⟩)
 have HDz:Hid (∀ w',Calls Tryz.prog 59 #[.int .i64 z] w' fun e W=>e = .returned (.int .i64 (z / 1048576))/\Below w'.heap.size w' W):=fun w'=>(rdown18_any z w' (by omega)).mono (by rintro e W ⟨h1,rfl⟩;exact ⟨h1,Below.refl _ _⟩)
 unfold grn Pt.v
 dsimp only [V3.val]
 generalize x / 1048576 = gx at *
 generalize y / 1048576 = gy at *
 generalize z / 1048576 = gz at *
 clear hv
 obtain ⟨V,hV⟩:∃ V,V = (w.alloc (.cells #[.int .i64 x,.int .i64 y,.int .i64 z] 23)).alloc (.cells #[.int .i64 0,.int .i64 0,.int .i64 0] 45):=⟨_,rfl⟩
 obtain ⟨vb,hvb⟩:∃ b,b = w.heap.size:=⟨_,rfl⟩
 obtain ⟨rb,hrb⟩:∃ b,b = w.heap.size + 1:=⟨_,rfl⟩
 have k1:=n_after w (.cells #[.int .i64 x,.int .i64 y,.int .i64 z] 23)
 have k2:=n_after (w.alloc (.cells #[.int .i64 x,.int .i64 y,.int .i64 z] 23)) (.cells #[.int .i64 0,.int .i64 0,.int .i64 0] 45)
 have c1:=(CW.new w [.int .i64 x,.int .i64 y,.int .i64 z] 23).step k2
 have c2:=CW.new (w.alloc (.cells #[.int .i64 x,.int .i64 y,.int .i64 z] 23)) [.int .i64 0,.int .i64 0,.int .i64 0] 45
 rw [World.size_alloc,<- hrb] at c2
 rw [<- hvb] at c1
 rw [<- hV] at c1 c2
 have HB:Hid (Below w.heap.size w V):=by show Below _ _ _;rw [hV];exact b_step k1 k2
 have HRB:Hid (w.heap.size <= rb):=by show _ <= _;omega
 obtain ⟨v0,_⟩:=c1 0 _ rfl
 obtain ⟨v1,_⟩:=c1 1 _ rfl
 obtain ⟨v2,_⟩:=c1 2 _ rfl
 obtain ⟨s0,sf0⟩:=c2 0 _ rfl
 obtain ⟨s1,sf1⟩:=c2 1 _ rfl
 obtain ⟨s2,sf2⟩:=c2 2 _ rfl
 clear k1 k2 c1 c2
 go_enter Tryz.func31,Tryz.ntmps31
 go_upto_region 1 with fail
 rw [<- hV,<- hrb,<- hvb]
 clear hV hrb hvb
 refine RV.region_by (fun j v w=>match j with | 0=>v = .pointer (some ⟨vb,0,none⟩) | 1=>v = .int .i64 x | 2=>v = .int .i64 gx | 3=>v = .pointer (some ⟨vb,1,none⟩) | 4=>v = .int .i64 y | 5=>v = .int .i64 gy | 6=>v = .pointer (some ⟨vb,2,none⟩) | 7=>v = .int .i64 z | 8=>v = .int .i64 gz | 9=>v = .agg #[.int .i64 gx,.int .i64 gy,.int .i64 gz] | 10=>True | _=>True) (fun γ L w9=>(L 10 = false/\Below V.heap.size V w9) \/ (L 10 = true/\∃ w,Below V.heap.size V w/\w9 = (((w.setCell ⟨rb,0,none⟩ (.int .i64 gx)).setCell ⟨rb,1,none⟩ (.int .i64 gy)).setCell ⟨rb,2,none⟩ (.int .i64 gz)))) (by kernel_rfl) (by kernel_rfl) (by kernel_rfl) (by kernel_rfl) ?_ ?_ ?_
 ·exact Or.inl ⟨rfl,(Below.refl _ V).drew⟩
 ·generalize hD:dstOf _ = D
  generalize hWA:waitsFor _ = WA
  generalize hZ:Act.mk _ _ = Z
  refine RV.AllDo.name ?_
  intro R hR
  have d0:D 0 = some 3:=by rw [<- hD];rfl
  have d1:D 1 = some 4:=by rw [<- hD];rfl
  have d2:D 2 = some 5:=by rw [<- hD];rfl
  have d3:D 3 = some 6:=by rw [<- hD];rfl
  have d4:D 4 = some 7:=by rw [<- hD];rfl
  have d5:D 5 = some 8:=by rw [<- hD];rfl
  have d6:D 6 = some 9:=by rw [<- hD];rfl
  have d7:D 7 = some 10:=by rw [<- hD];rfl
  have d8:D 8 = some 11:=by rw [<- hD];rfl
  have d9:D 9 = some 12:=by rw [<- hD];rfl
  have r0:∀ v w,R 0 v w = (v = .pointer (some ⟨vb,0,none⟩)):=fun v w=>by rw [hR];rfl
  have r1:∀ v w,R 1 v w = (v = .int .i64 x):=fun v w=>by rw [hR];rfl
  have r2:∀ v w,R 2 v w = (v = .int .i64 gx):=fun v w=>by rw [hR];rfl
  have r3:∀ v w,R 3 v w = (v = .pointer (some ⟨vb,1,none⟩)):=fun v w=>by rw [hR];rfl
  have r4:∀ v w,R 4 v w = (v = .int .i64 y):=fun v w=>by rw [hR];rfl
  have r5:∀ v w,R 5 v w = (v = .int .i64 gy):=fun v w=>by rw [hR];rfl
  have r6:∀ v w,R 6 v w = (v = .pointer (some ⟨vb,2,none⟩)):=fun v w=>by rw [hR];rfl
  have r7:∀ v w,R 7 v w = (v = .int .i64 z):=fun v w=>by rw [hR];rfl
  have r8:∀ v w,R 8 v w = (v = .int .i64 gz):=fun v w=>by rw [hR];rfl
  have r9:∀ v w,R 9 v w = (v = .agg #[.int .i64 gx,.int .i64 gy,.int .i64 gz]):=fun v w=>by rw [hR];rfl
  have r10:∀ v w,R 10 v w = (True):=fun v w=>by rw [hR];rfl
  have F1_:∀ j,D j ≠ some 1:=by rw [<- hD];exact RV.dst_free (by kernel_rfl)
  have Z1_:Z.tmps[1]? = some (.pointer (some ⟨vb,0,none⟩)):=by rw [<- hZ];rfl
  have F2_:∀ j,D j ≠ some 2:=by rw [<- hD];exact RV.dst_free (by kernel_rfl)
  have Z2_:Z.tmps[2]? = some (.pointer (some ⟨rb,0,none⟩)):=by rw [<- hZ];rfl
  have K:∀ j v w w',R j v w->R j v w':=by rw [hR];intro j v w w' h;exact h
  have A_10_1:WA 10 1:=by rw [<- hWA];exact ⟨_,rfl,⟨1,.phase⟩,by simp,rfl,rfl⟩
  have A_10_2:WA 10 2:=by rw [<- hWA];exact ⟨_,rfl,⟨2,.phase⟩,by simp,rfl,rfl⟩
  have A_10_4:WA 10 4:=by rw [<- hWA];exact ⟨_,rfl,⟨4,.phase⟩,by simp,rfl,rfl⟩
  have A_10_5:WA 10 5:=by rw [<- hWA];exact ⟨_,rfl,⟨5,.phase⟩,by simp,rfl,rfl⟩
  have A_10_7:WA 10 7:=by rw [<- hWA];exact ⟨_,rfl,⟨7,.phase⟩,by simp,rfl,rfl⟩
  have A_10_8:WA 10 8:=by rw [<- hWA];exact ⟨_,rfl,⟨8,.phase⟩,by simp,rfl,rfl⟩
  clear hD hWA hZ hR
  refine RV.cc 0 (RV.dp (fun γ v L w hl h=>by rw [RV.mn (L:=L) (i:=0) (j:=10) (by decide)];exact h) (fun γ L a w hH hl hA=>by have e0:=((hH.rest 1 F1_).trans Z1_);exact ⟨.pointer (some ⟨vb,0,none⟩),by simp [execOp,go_sem,e0],(r0 _ _).mpr rfl⟩)) ?_
  refine RV.cc 1 (RV.dp (fun γ v L w hl h=>by rw [RV.mn (L:=L) (i:=1) (j:=10) (by decide)];exact h) (fun γ L a w hH hl hA=>by have e0:=hH.got d0 r0 (hA ⟨0,.data⟩ (by simp) rfl);have hB9:=early9 hH.glob (RV.ny hH A_10_1 hl);have z0:=c_after hB9 v0;exact ⟨.int .i64 x,by simp [execOp,go_sem,e0,z0],(r1 _ _).mpr rfl⟩)) ?_
  refine RV.cc 2 (RV.dc (fun γ L a w hH hl hA=>by have e0:=hH.got d1 r1 (hA ⟨1,.data⟩ (by simp) rfl);have hB9:=early9 hH.glob (RV.ny hH A_10_2 hl);exact ⟨59,#[.int .i64 x],by simp [go_sem,e0],Calls.mono (HDx.out w) (by rintro e w2 ⟨rfl,hb⟩;exact ⟨_,rfl,(r2 _ _).mpr rfl,fun j v _ h=>K j v _ _ h,Or.inl ⟨by rw [RV.mn (L:=L) (i:=2) (j:=10) (by decide)];exact RV.ny hH A_10_2 hl,hB9.trans (hb.mono hB9.size)⟩⟩)⟩)) ?_
  refine RV.cc 3 (RV.dp (fun γ v L w hl h=>by rw [RV.mn (L:=L) (i:=3) (j:=10) (by decide)];exact h) (fun γ L a w hH hl hA=>by have e0:=((hH.rest 1 F1_).trans Z1_);exact ⟨.pointer (some ⟨vb,1,none⟩),by simp [execOp,go_sem,e0],(r3 _ _).mpr rfl⟩)) ?_
  refine RV.cc 4 (RV.dp (fun γ v L w hl h=>by rw [RV.mn (L:=L) (i:=4) (j:=10) (by decide)];exact h) (fun γ L a w hH hl hA=>by have e0:=hH.got d3 r3 (hA ⟨3,.data⟩ (by simp) rfl);have hB9:=early9 hH.glob (RV.ny hH A_10_4 hl);have z0:=c_after hB9 v1;exact ⟨.int .i64 y,by simp [execOp,go_sem,e0,z0],(r4 _ _).mpr rfl⟩)) ?_
  refine RV.cc 5 (RV.dc (fun γ L a w hH hl hA=>by have e0:=hH.got d4 r4 (hA ⟨4,.data⟩ (by simp) rfl);have hB9:=early9 hH.glob (RV.ny hH A_10_5 hl);exact ⟨59,#[.int .i64 y],by simp [go_sem,e0],Calls.mono (HDy.out w) (by rintro e w2 ⟨rfl,hb⟩;exact ⟨_,rfl,(r5 _ _).mpr rfl,fun j v _ h=>K j v _ _ h,Or.inl ⟨by rw [RV.mn (L:=L) (i:=5) (j:=10) (by decide)];exact RV.ny hH A_10_5 hl,hB9.trans (hb.mono hB9.size)⟩⟩)⟩)) ?_
  refine RV.cc 6 (RV.dp (fun γ v L w hl h=>by rw [RV.mn (L:=L) (i:=6) (j:=10) (by decide)];exact h) (fun γ L a w hH hl hA=>by have e0:=((hH.rest 1 F1_).trans Z1_);exact ⟨.pointer (some ⟨vb,2,none⟩),by simp [execOp,go_sem,e0],(r6 _ _).mpr rfl⟩)) ?_
  refine RV.cc 7 (RV.dp (fun γ v L w hl h=>by rw [RV.mn (L:=L) (i:=7) (j:=10) (by decide)];exact h) (fun γ L a w hH hl hA=>by have e0:=hH.got d6 r6 (hA ⟨6,.data⟩ (by simp) rfl);have hB9:=early9 hH.glob (RV.ny hH A_10_7 hl);have z0:=c_after hB9 v2;exact ⟨.int .i64 z,by simp [execOp,go_sem,e0,z0],(r7 _ _).mpr rfl⟩)) ?_
  refine RV.cc 8 (RV.dc (fun γ L a w hH hl hA=>by have e0:=hH.got d7 r7 (hA ⟨7,.data⟩ (by simp) rfl);have hB9:=early9 hH.glob (RV.ny hH A_10_8 hl);exact ⟨59,#[.int .i64 z],by simp [go_sem,e0],Calls.mono (HDz.out w) (by rintro e w2 ⟨rfl,hb⟩;exact ⟨_,rfl,(r8 _ _).mpr rfl,fun j v _ h=>K j v _ _ h,Or.inl ⟨by rw [RV.mn (L:=L) (i:=8) (j:=10) (by decide)];exact RV.ny hH A_10_8 hl,hB9.trans (hb.mono hB9.size)⟩⟩)⟩)) ?_
  refine RV.cc 9 (RV.dp (fun γ v L w hl h=>by rw [RV.mn (L:=L) (i:=9) (j:=10) (by decide)];exact h) (fun γ L a w hH hl hA=>by have e0:=hH.got d2 r2 (hA ⟨2,.data⟩ (by simp) rfl);have e1:=hH.got d5 r5 (hA ⟨5,.data⟩ (by simp) rfl);have e2:=hH.got d8 r8 (hA ⟨8,.data⟩ (by simp) rfl);exact ⟨.agg #[.int .i64 gx,.int .i64 gy,.int .i64 gz],by simp [execOp,go_sem,e0,e1,e2],(r9 _ _).mpr rfl⟩)) ?_
  refine RV.cc 10 (RV.does_store (fun γ L a w hH hl hA=>by have e0:=((hH.rest 2 F2_).trans Z2_);have e1:=hH.got d9 r9 (hA ⟨9,.data⟩ (by simp) rfl);have hB9:=early9 hH.glob hl;have z0:=c_after hB9 s0;have zf0:=f_after hB9 s0 sf0;have z1:=c_after hB9 s1;have zf1:=f_after hB9 s1 sf1;have z2:=c_after hB9 s2;have zf2:=f_after hB9 s2 sf2;exact ⟨(((w.setCell ⟨rb,0,none⟩ (.int .i64 gx)).setCell ⟨rb,1,none⟩ (.int .i64 gy)).setCell ⟨rb,2,none⟩ (.int .i64 gz)),by simp [execOp,go_sem,e0,e1,z0,zf0,z1,zf1,z2,zf2],(r10 _ _).mpr trivial,fun j v _ h=>K j v _ _ h,Or.inr ⟨RV.more_self,w,hB9,rfl⟩⟩)) ?_
  exact RV.AllDo.nil
 ·intro γ a5 w5 L9 hL hLo hH
  have ha:=RV.held_act hH hL (by kernel_rfl) (by kernel_rfl)
  obtain ⟨w8,hb8,rfl⟩:=late9 hH.glob (hL 10 (by decide))
  have y0:γ 0 = .pointer (some ⟨vb,0,none⟩):=hH.holds 0 (hL 0 (by decide))
  have y1:γ 1 = .int .i64 x:=hH.holds 1 (hL 1 (by decide))
  have y2:γ 2 = .int .i64 gx:=hH.holds 2 (hL 2 (by decide))
  have y3:γ 3 = .pointer (some ⟨vb,1,none⟩):=hH.holds 3 (hL 3 (by decide))
  have y4:γ 4 = .int .i64 y:=hH.holds 4 (hL 4 (by decide))
  have y5:γ 5 = .int .i64 gy:=hH.holds 5 (hL 5 (by decide))
  have y6:γ 6 = .pointer (some ⟨vb,2,none⟩):=hH.holds 6 (hL 6 (by decide))
  have y7:γ 7 = .int .i64 z:=hH.holds 7 (hL 7 (by decide))
  have y8:γ 8 = .int .i64 gz:=hH.holds 8 (hL 8 (by decide))
  have y9:γ 9 = .agg #[.int .i64 gx,.int .i64 gy,.int .i64 gz]:=hH.holds 9 (hL 9 (by decide))
  rw [ha]
  clear ha hH hL hLo
  simp only [RV.putAll,Act.put,List.setIfInBounds_toArray,List.set_cons_zero,List.set_cons_succ,Nat.zero_add,Nat.reduceAdd,y0,y1,y2,y3,y4,y5,y6,y7,y8,y9]
  clear y0 y1 y2 y3 y4 y5 y6 y7 y8 y9
  have y0:=c_after hb8 s0
  have y1:=c_after hb8 s1
  have y2:=c_after hb8 s2
  go_wp2_with (fail)
  exact bodyPost_ret (v:=.agg #[.int .i64 gx,.int .i64 gy,.int .i64 gz]) (by simp [results,Tryz.results31,go_sem,y0,y1,y2]) rfl ⟨rfl,(((b_step HB.out hb8).setCell HRB.out _).setCell HRB.out _).setCell HRB.out _⟩
def wayOk (f t:V3):Bool:=Pt.inB ⟨f.x,f.y,f.z⟩ 1125899906842624 && Pt.inB ⟨t.x,t.y,t.z⟩ 1125899906842624
theorem rway18_any (f t:V3) (r:Int) (W:World) :
  Calls Tryz.prog 13 #[f.val,t.val,.int .i64 r] W fun e W'=>Below W.heap.size W W'/\(wayOk f t = false->e = .returned (.tuple #[.agg #[.slice none 0 0,.slice none 0 0,.slice none 0 0,.int .i64 0],.agg #[.int .i64 0,.int .i64 0,.int .i64 0],.bool false]))/\(wayOk f t = true->∃ g:Nat,e = .returned (.tuple #[.agg #[.slice (some ⟨g,0,none⟩) 1 1,.slice none 0 0,.slice none 0 0,.int .i64 r],(wayZ f t).v,.bool ((wayZ f t).inB 4194304 && mayC (ballC f r))])/\Lies W' (.slice (some ⟨g,0,none⟩) 1 1) [grn f]):=by
 have HIN:Hid _:=fun (v:V3) w'=>rin18_any v.x v.y v.z 1125899906842624 w' (by decide)
 have HIW:Hid _:=fun w'=>rin18_any (wayZ f t).x (wayZ f t).y (wayZ f t).z 4194304 w' (by decide)
 have HGF:Hid _:=fun h w'=>rgrn18_any f w' h
 have HGT:Hid _:=fun h w'=>rgrn18_any t w' h
 have HMY:Hid _:=fun (pv:Value) (w':World) (h:Lies w' pv [grn f])=>rmay9_any (ballC f r) pv (.slice none 0 0) (.slice none 0 0) w' h (lies_nil9 _) (lies_nil9 _)
 have HWO:Hid (wayOk f t = (Pt.inB ⟨f.x,f.y,f.z⟩ 1125899906842624 && Pt.inB ⟨t.x,t.y,t.z⟩ 1125899906842624)):=rfl
 have HBF:=HIN.out f
 have HBT:=HIN.out t
 have HSM:Hid (Pt.inB ⟨f.x,f.y,f.z⟩ 1125899906842624 = true->Pt.inB ⟨t.x,t.y,t.z⟩ 1125899906842624 = true->(grn f).inB 1073741824 = true/\(grn t).inB 1073741824 = true):=fun h1 h2=>by
  simp only [Pt.inB_iff] at *
  unfold grn
  dsimp only at *
  omega
 have HWZ:Hid (wayZ f t = ⟨(grn t).x - (grn f).x,(grn t).y - (grn f).y,(grn t).z - (grn f).z⟩):=rfl
 have HBA:Hid (ballC f r = ⟨[grn f],[],[],r⟩):=rfl
 generalize wayOk f t = ok at *
 generalize wayZ f t = wy at *
 generalize ballC f r = bc at *
 generalize grn f = gf at *
 generalize grn t = gt at *
 generalize Pt.inB ⟨f.x,f.y,f.z⟩ 1125899906842624 = b1 at *
 generalize Pt.inB ⟨t.x,t.y,t.z⟩ 1125899906842624 = b2 at *
 have HBF:Hid _:=HBF
 have HBT:Hid _:=HBT
 clear HIN
 obtain ⟨V,hV⟩:∃ V,V = ((((W.alloc (.cells #[.int .i64 f.x,.int .i64 f.y,.int .i64 f.z] 23)).alloc (.cells #[.int .i64 t.x,.int .i64 t.y,.int .i64 t.z] 23)).alloc (.cells #[.slice none 0 0,.slice none 0 0,.slice none 0 0,.int .i64 0] 28)).alloc (.cells #[.int .i64 0,.int .i64 0,.int .i64 0] 45)):=⟨_,rfl⟩
 have hb0:=n_after W (.cells #[.int .i64 f.x,.int .i64 f.y,.int .i64 f.z] 23)
 have hb1:=n_after (W.alloc (.cells #[.int .i64 f.x,.int .i64 f.y,.int .i64 f.z] 23)) (.cells #[.int .i64 t.x,.int .i64 t.y,.int .i64 t.z] 23)
 have hb2:=n_after ((W.alloc (.cells #[.int .i64 f.x,.int .i64 f.y,.int .i64 f.z] 23)).alloc (.cells #[.int .i64 t.x,.int .i64 t.y,.int .i64 t.z] 23)) (.cells #[.slice none 0 0,.slice none 0 0,.slice none 0 0,.int .i64 0] 28)
 have hb3:=n_after (((W.alloc (.cells #[.int .i64 f.x,.int .i64 f.y,.int .i64 f.z] 23)).alloc (.cells #[.int .i64 t.x,.int .i64 t.y,.int .i64 t.z] 23)).alloc (.cells #[.slice none 0 0,.slice none 0 0,.slice none 0 0,.int .i64 0] 28)) (.cells #[.int .i64 0,.int .i64 0,.int .i64 0] 45)
 have Cf:CW V (W.heap.size) [.int .i64 f.x,.int .i64 f.y,.int .i64 f.z]:=by
  have h9:=(((CW.new W [.int .i64 f.x,.int .i64 f.y,.int .i64 f.z] 23).step hb1).step hb2).step hb3
  rw [hV];exact h9
 have Ct:CW V (W.heap.size + 1) [.int .i64 t.x,.int .i64 t.y,.int .i64 t.z]:=by
  have h9:=((CW.new (W.alloc (.cells #[.int .i64 f.x,.int .i64 f.y,.int .i64 f.z] 23)) [.int .i64 t.x,.int .i64 t.y,.int .i64 t.z] 23).step hb2).step hb3
  simp only [World.size_alloc] at h9
  rw [hV];exact h9
 have Cc:CW V (W.heap.size + 1 + 1) [.slice none 0 0,.slice none 0 0,.slice none 0 0,.int .i64 0]:=by
  have h9:=(CW.new ((W.alloc (.cells #[.int .i64 f.x,.int .i64 f.y,.int .i64 f.z] 23)).alloc (.cells #[.int .i64 t.x,.int .i64 t.y,.int .i64 t.z] 23)) [.slice none 0 0,.slice none 0 0,.slice none 0 0,.int .i64 0] 28).step hb3
  simp only [World.size_alloc] at h9
  rw [hV];exact h9
 have Cw:CW V (W.heap.size + 1 + 1 + 1) [.int .i64 0,.int .i64 0,.int .i64 0]:=by
  have h9:=CW.new (((W.alloc (.cells #[.int .i64 f.x,.int .i64 f.y,.int .i64 f.z] 23)).alloc (.cells #[.int .i64 t.x,.int .i64 t.y,.int .i64 t.z] 23)).alloc (.cells #[.slice none 0 0,.slice none 0 0,.slice none 0 0,.int .i64 0] 28)) [.int .i64 0,.int .i64 0,.int .i64 0] 45
  simp only [World.size_alloc] at h9
  rw [hV];exact h9
 have hB:Below W.heap.size W V:=by rw [hV];exact (b_step (b_step (b_step hb0 hb1) hb2) hb3)
 clear hb0 hb1 hb2 hb3
 have HB:Hid _:=hB
 clear hB
 go_enter Tryz.func13,Tryz.ntmps13
 go_upto_region 1 with fail
 rw [<- hV]
 clear hV
 obtain ⟨pw,hpw⟩:∃ p,p = W.heap.size + 1 + 1 + 1:=⟨_,rfl⟩
 obtain ⟨pc,hpc⟩:∃ p,p = W.heap.size + 1 + 1:=⟨_,rfl⟩
 obtain ⟨pt,hpt⟩:∃ p,p = W.heap.size + 1:=⟨_,rfl⟩
 obtain ⟨pf,hpf⟩:∃ p,p = W.heap.size:=⟨_,rfl⟩
 rw [<- hpw] at Cw
 rw [<- hpc] at Cc
 rw [<- hpt] at Ct
 rw [<- hpf] at Cf
 rw [<- hpw,<- hpc,<- hpt,<- hpf]
 have HPX:Hid ((pf = W.heap.size/\pt = W.heap.size + 1)/\pc = W.heap.size + 1 + 1/\pw = W.heap.size + 1 + 1 + 1):=⟨⟨hpf,hpt⟩,hpc,hpw⟩
 clear hpf hpt hpc hpw
 have Cf:Hid (CW _ _ _):=Cf
 have Ct:Hid (CW _ _ _):=Ct
 have Cc:Hid (CW _ _ _):=Cc
 have Cw:Hid (CW _ _ _):=Cw
 have f0:=(Cf.out 0 _ rfl).1
 have f1:=(Cf.out 1 _ rfl).1
 have f2:=(Cf.out 2 _ rfl).1
 have t0:=(Ct.out 0 _ rfl).1
 have t1:=(Ct.out 1 _ rfl).1
 have t2:=(Ct.out 2 _ rfl).1
 go_wp2_with (fail)
 refine Calls.mono (HBF.out _) ?_
 rintro e V1 ⟨rfl,hb⟩
 have HB:Hid _:=b_step HB.out hb
 have Cf:Hid (CW _ _ _):=Cf.out.step hb
 have Ct:Hid (CW _ _ _):=Ct.out.step hb
 have Cc:Hid (CW _ _ _):=Cc.out.step hb
 have Cw:Hid (CW _ _ _):=Cw.out.step hb
 clear hb f0 f1 f2 t0 t1 t2 HBF
 have f0:=(Cf.out 0 _ rfl).1
 have f1:=(Cf.out 1 _ rfl).1
 have f2:=(Cf.out 2 _ rfl).1
 have t0:=(Ct.out 0 _ rfl).1
 have t1:=(Ct.out 1 _ rfl).1
 have t2:=(Ct.out 2 _ rfl).1
 go_wp2_with (fail)
 refine Calls.mono (HBT.out _) ?_
 rintro e V2 ⟨rfl,hb⟩
 have HB:Hid _:=b_step HB.out hb
 have Cf:Hid (CW _ _ _):=Cf.out.step hb
 have Ct:Hid (CW _ _ _):=Ct.out.step hb
 have Cc:Hid (CW _ _ _):=Cc.out.step hb
 have Cw:Hid (CW _ _ _):=Cw.out.step hb
 clear hb f0 f1 f2 t0 t1 t2 HBT
 by_cases hbb:(b1 && b2) = true
 ·have hok:ok = true:=by rw [HWO.out];exact hbb
  obtain ⟨rfl,rfl⟩:b1 = true/\b2 = true:=by simpa using hbb
  subst hok
  obtain ⟨gxf,gxt⟩:=HSM.out rfl rfl
  have HG1:Hid _:=HGF.out rfl
  have HG2:Hid _:=HGT.out rfl
  clear HGF HGT
  dsimp only [V3.val] at HG1 HG2
  obtain ⟨gx,gy,gz⟩:=gf
  obtain ⟨hx,hy,hz⟩:=gt
  rw [Pt.inB_iff] at gxf gxt
  dsimp only at *
  obtain ⟨wx,hwx⟩:∃ x,hx - gx = x:=⟨_,rfl⟩
  have w_x:IntKind.i64.wrap (hx - gx) = wx:=by rw [IntKind.wrap_i64];omega
  obtain ⟨wq,hwq⟩:∃ x,hy - gy = x:=⟨_,rfl⟩
  have w_y:IntKind.i64.wrap (hy - gy) = wq:=by rw [IntKind.wrap_i64];omega
  obtain ⟨wz,hwz⟩:∃ x,hz - gz = x:=⟨_,rfl⟩
  have w_z:IntKind.i64.wrap (hz - gz) = wz:=by rw [IntKind.wrap_i64];omega
  have hwy:wy = ⟨wx,wq,wz⟩:=by rw [HWZ.out,hwx,hwq,hwz]
  subst hwy
  clear gxf gxt hwx hwq hwz HWZ HWO HSM hbb
  unfold Pt.v at *
  dsimp only at *
  have f0:=(Cf.out 0 _ rfl).1
  have f1:=(Cf.out 1 _ rfl).1
  have f2:=(Cf.out 2 _ rfl).1
  go_wp2_with (fail)
  refine Calls.mono (HG1.out _) ?_
  rintro e V3 ⟨rfl,hb⟩
  have hb3:=b_step hb (n_after V3 (.cells #[.int .i64 gx,.int .i64 gy,.int .i64 gz] 45))
  obtain ⟨V4,hV4⟩:∃ V,V = V3.alloc (.cells #[.int .i64 gx,.int .i64 gy,.int .i64 gz] 45):=⟨_,rfl⟩
  obtain ⟨gb,hgb⟩:∃ b,b = V3.heap.size:=⟨_,rfl⟩
  have cg:=CW.new V3 [.int .i64 gx,.int .i64 gy,.int .i64 gz] 45
  rw [<- hgb,<- hV4] at cg
  rw [<- hV4] at hb3
  have CG:Hid (CW _ _ _):=cg
  have HB:Hid _:=b_step HB.out hb3
  have Ct:Hid (CW _ _ _):=Ct.out.step hb3
  have Cc:Hid (CW _ _ _):=Cc.out.step hb3
  have Cw:Hid (CW _ _ _):=Cw.out.step hb3
  clear hb hb3 cg f0 f1 f2 HG1 Cf
  go_upto_region 6 with fail
  rw [<- hV4,<- hgb]
  clear hV4 hgb
  have t0:=(Ct.out 0 _ rfl).1
  have t1:=(Ct.out 1 _ rfl).1
  have t2:=(Ct.out 2 _ rfl).1
  go_wp2_with (fail)
  refine Calls.mono (HG2.out _) ?_
  rintro e V5 ⟨rfl,hb⟩
  have hb3:=b_step hb (n_after V5 (.cells #[.int .i64 hx,.int .i64 hy,.int .i64 hz] 45))
  obtain ⟨V6,hV6⟩:∃ V,V = V5.alloc (.cells #[.int .i64 hx,.int .i64 hy,.int .i64 hz] 45):=⟨_,rfl⟩
  obtain ⟨hb_,hhb⟩:∃ b,b = V5.heap.size:=⟨_,rfl⟩
  have cg:=CW.new V5 [.int .i64 hx,.int .i64 hy,.int .i64 hz] 45
  rw [<- hhb,<- hV6] at cg
  rw [<- hV6] at hb3
  have CH:Hid (CW _ _ _):=cg
  have HB:Hid _:=b_step HB.out hb3
  have CG:Hid (CW _ _ _):=CG.out.step hb3
  have Cc:Hid (CW _ _ _):=Cc.out.step hb3
  have Cw:Hid (CW _ _ _):=Cw.out.step hb3
  clear hb hb3 cg t0 t1 t2 HG2 Ct
  go_upto_region 7 with fail
  rw [<- hV6,<- hhb]
  clear hV6 hhb
  obtain ⟨V7,hV7⟩:∃ V,V = (V6.alloc (.cells #[.int .i64 gx,.int .i64 gy,.int .i64 gz] 45)).alloc (.cells #[.slice (some ⟨V6.heap.size,0,none⟩) 1 1,.slice none 0 0,.slice none 0 0,.int .i64 r] 28):=⟨_,rfl⟩
  obtain ⟨sg,hsg⟩:∃ b,b = V6.heap.size:=⟨_,rfl⟩
  obtain ⟨cb,hcb⟩:∃ b,b = V6.heap.size + 1:=⟨_,rfl⟩
  have HSG:Hid ((sg ≠ pc/\sg ≠ pw)/\cb ≠ pc/\cb ≠ pw):=by have h1:=CW.lt Cc.out;have h2:=CW.lt Cw.out;show _/\_;omega
  have k1:=n_after V6 (.cells #[.int .i64 gx,.int .i64 gy,.int .i64 gz] 45)
  have k2:=n_after (V6.alloc (.cells #[.int .i64 gx,.int .i64 gy,.int .i64 gz] 45)) (.cells #[.slice (some ⟨V6.heap.size,0,none⟩) 1 1,.slice none 0 0,.slice none 0 0,.int .i64 r] 28)
  have c1:=(Cel.new V6 [.int .i64 gx,.int .i64 gy,.int .i64 gz] 45).step k2
  have c2:=CW.new (V6.alloc (.cells #[.int .i64 gx,.int .i64 gy,.int .i64 gz] 45)) [.slice (some ⟨V6.heap.size,0,none⟩) 1 1,.slice none 0 0,.slice none 0 0,.int .i64 r] 28
  rw [World.size_alloc,<- hcb,<- hsg] at c2
  rw [<- hsg] at c1 hV7
  rw [<- hV7] at c1 c2
  have hb3:Below V6.heap.size V6 V7:=by rw [hV7,hsg];exact b_step k1 k2
  have LG:Hid (Lies V7 (.slice (some ⟨sg,0,none⟩) 1 1) [⟨gx,gy,gz⟩]):=lies_one9 c1
  have CB:Hid (CW _ _ _):=c2
  have HB:Hid _:=b_step HB.out hb3
  have CG7:Hid (CW _ _ _):=CG.out.step hb3
  have CH:Hid (CW _ _ _):=CH.out.step hb3
  have Cc:Hid (CW _ _ _):=Cc.out.step hb3
  have Cw:Hid (CW _ _ _):=Cw.out.step hb3
  have g0:=(CG.out 0 _ rfl).1
  have g1:=(CG.out 1 _ rfl).1
  have g2:=(CG.out 2 _ rfl).1
  clear k1 k2 c1 c2 hb3
  go_upto_region 8 with fail
  rw [<- hcb,<- hsg,<- hV7]
  clear hV7 hsg hcb g0 g1 g2 CG
  obtain ⟨V8,hV8⟩:∃ V,V = V7.alloc (.cells #[.int .i64 wx,.int .i64 wq,.int .i64 wz] 45):=⟨_,rfl⟩
  obtain ⟨yb,hyb⟩:∃ b,b = V7.heap.size:=⟨_,rfl⟩
  have HYC:Hid (yb ≠ pc/\yb ≠ pw):=by have h1:=CW.lt Cc.out;have h2:=CW.lt Cw.out;show _/\_;omega
  have hb3:Below V7.heap.size V7 V8:=by rw [hV8];exact n_after _ _
  have c1:CW V8 yb [.int .i64 wx,.int .i64 wq,.int .i64 wz]:=by rw [hV8,hyb];exact CW.new V7 [.int .i64 wx,.int .i64 wq,.int .i64 wz] 45
  have CY:Hid (CW _ _ _):=c1
  have g0:=(CG7.out 0 _ rfl).1
  have h0:=(CH.out 0 _ rfl).1
  have g1:=(CG7.out 1 _ rfl).1
  have h1:=(CH.out 1 _ rfl).1
  have g2:=(CG7.out 2 _ rfl).1
  have h2:=(CH.out 2 _ rfl).1
  have LG:Hid _:=LG.out.below hb3
  have CB:Hid (CW _ _ _):=CB.out.step hb3
  have HB:Hid _:=b_step HB.out hb3
  have Cc:Hid (CW _ _ _):=Cc.out.step hb3
  have Cw:Hid (CW _ _ _):=Cw.out.step hb3
  clear hb3 c1
  go_upto_region 9 with fail
  rw [<- hV8,<- hyb]
  clear hV8 hyb g0 g1 g2 h0 h1 h2 CG7 CH
  have y0:=(CY.out 0 _ rfl).1
  have y1:=(CY.out 1 _ rfl).1
  have y2:=(CY.out 2 _ rfl).1
  go_wp2_with (fail)
  refine Calls.mono (HIW.out _) ?_
  rintro e V9 ⟨rfl,hb⟩
  have LG:Hid _:=LG.out.below hb
  have CB:Hid (CW _ _ _):=CB.out.step hb
  have CY:Hid (CW _ _ _):=CY.out.step hb
  have HB:Hid _:=b_step HB.out hb
  have Cc:Hid (CW _ _ _):=Cc.out.step hb
  have Cw:Hid (CW _ _ _):=Cw.out.step hb
  clear hb y0 y1 y2 HIW
  have HM9:Hid _:=HMY.out _ V9 LG.out
  unfold coreA at HM9
  have hr9:bc.r = r:=by rw [HBA.out]
  rw [hr9] at HM9
  clear hr9 HMY HBA
  have b0:=(CB.out 0 _ rfl).1
  have b1:=(CB.out 1 _ rfl).1
  have b2:=(CB.out 2 _ rfl).1
  have b3:=(CB.out 3 _ rfl).1
  go_wp2_with (fail)
  refine Calls.mono HM9.out ?_
  rintro e Va ⟨rfl,hb⟩
  have LG:Hid _:=LG.out.below hb
  have CB:Hid (CW _ _ _):=CB.out.step hb
  have CY:Hid (CW _ _ _):=CY.out.step hb
  have HB:Hid _:=b_step HB.out hb
  have Cc:Hid (CW _ _ _):=Cc.out.step hb
  have Cw:Hid (CW _ _ _):=Cw.out.step hb
  clear hb b0 b1 b2 b3 HM9
  have b0:=(CB.out 0 _ rfl).1
  have b1:=(CB.out 1 _ rfl).1
  have b2:=(CB.out 2 _ rfl).1
  have b3:=(CB.out 3 _ rfl).1
  have y0:=(CY.out 0 _ rfl).1
  have y1:=(CY.out 1 _ rfl).1
  have y2:=(CY.out 2 _ rfl).1
  have HNB:Hid ((W.heap.size <= pc/\W.heap.size <= pw)/\pc ≠ pw):=by have:=HPX.out;show _/\_;omega
  have hcw:pc ≠ pw:=HNB.out.2
  have hwc:pw ≠ pc:=Ne.symm hcw
  obtain ⟨c0,cf0⟩:=Cc.out 0 _ rfl
  obtain ⟨c1,cf1⟩:=Cc.out 1 _ rfl
  obtain ⟨c2,cf2⟩:=Cc.out 2 _ rfl
  obtain ⟨c3,cf3⟩:=Cc.out 3 _ rfl
  obtain ⟨w0,wf0⟩:=Cw.out 0 _ rfl
  obtain ⟨w1,wf1⟩:=Cw.out 1 _ rfl
  obtain ⟨w2,wf2⟩:=Cw.out 2 _ rfl
  obtain ⟨a1,ha1⟩:∃ x,(⟨wx,wq,wz⟩:Pt).inB 4194304 = x:=⟨_,rfl⟩
  obtain ⟨a2,ha2⟩:∃ x,mayC bc = x:=⟨_,rfl⟩
  rw [ha1,ha2]
  have HA1:Hid _:=ha1
  have HA2:Hid _:=ha2
  clear ha1 ha2
  have hsc:∀ q n c,Value.slice (some ⟨sg,0,none⟩) 1 1 = .slice (some q) n c->([⟨gx,gy,gz⟩]:List Pt) ≠ []->q.block ≠ pc:=fun q n c e _=>by cases e;exact HSG.out.1.1
  have hsw:∀ q n c,Value.slice (some ⟨sg,0,none⟩) 1 1 = .slice (some q) n c->([⟨gx,gy,gz⟩]:List Pt) ≠ []->q.block ≠ pw:=fun q n c e _=>by cases e;exact HSG.out.1.2
  have F1:Lies (((((((Va.setCell ⟨pc,0,none⟩ (.slice (some ⟨sg,0,none⟩) 1 1)).setCell ⟨pc,1,none⟩ (.slice none 0 0)).setCell ⟨pc,2,none⟩ (.slice none 0 0)).setCell ⟨pc,3,none⟩ (.int .i64 r)).setCell ⟨pw,0,none⟩ (.int .i64 wx)).setCell ⟨pw,1,none⟩ (.int .i64 wq)).setCell ⟨pw,2,none⟩ (.int .i64 wz)) (.slice (some ⟨sg,0,none⟩) 1 1) [⟨gx,gy,gz⟩]/\Below W.heap.size W (((((((Va.setCell ⟨pc,0,none⟩ (.slice (some ⟨sg,0,none⟩) 1 1)).setCell ⟨pc,1,none⟩ (.slice none 0 0)).setCell ⟨pc,2,none⟩ (.slice none 0 0)).setCell ⟨pc,3,none⟩ (.int .i64 r)).setCell ⟨pw,0,none⟩ (.int .i64 wx)).setCell ⟨pw,1,none⟩ (.int .i64 wq)).setCell ⟨pw,2,none⟩ (.int .i64 wz)):=⟨((((((LG.out.grown (setg9 _ pc 0 _) hsc).grown (setg9 _ pc 1 _) hsc).grown (setg9 _ pc 2 _) hsc).grown (setg9 _ pc 3 _) hsc).grown (setg9 _ pw 0 _) hsw).grown (setg9 _ pw 1 _) hsw).grown (setg9 _ pw 2 _) hsw,((((((HB.out.setCell HNB.out.1.1 _).setCell HNB.out.1.1 _).setCell HNB.out.1.1 _).setCell HNB.out.1.1 _).setCell HNB.out.1.2 _).setCell HNB.out.1.2 _).setCell HNB.out.1.2 _⟩
  obtain ⟨Y,hY⟩:∃ Y,Y = (((((((Va.setCell ⟨pc,0,none⟩ (.slice (some ⟨sg,0,none⟩) 1 1)).setCell ⟨pc,1,none⟩ (.slice none 0 0)).setCell ⟨pc,2,none⟩ (.slice none 0 0)).setCell ⟨pc,3,none⟩ (.int .i64 r)).setCell ⟨pw,0,none⟩ (.int .i64 wx)).setCell ⟨pw,1,none⟩ (.int .i64 wq)).setCell ⟨pw,2,none⟩ (.int .i64 wz)).drew:=⟨_,rfl⟩
  have FY:Hid (Lies Y (.slice (some ⟨sg,0,none⟩) 1 1) [⟨gx,gy,gz⟩]/\Below W.heap.size W Y):=by show _/\_;rw [hY];exact ⟨F1.1.below ((Below.refl _ _).drew),F1.2.drew⟩
  have p0:Y.cell? ⟨pc,0,none⟩ = some (.slice (some ⟨sg,0,none⟩) 1 1):=by rw [hY];simp [go_sem,c0]
  have p1:Y.cell? ⟨pc,1,none⟩ = some (.slice none 0 0):=by rw [hY];simp [go_sem,c1]
  have p2:Y.cell? ⟨pc,2,none⟩ = some (.slice none 0 0):=by rw [hY];simp [go_sem,c2]
  have p3:Y.cell? ⟨pc,3,none⟩ = some (.int .i64 r):=by rw [hY];simp [go_sem,c3]
  have q0:Y.cell? ⟨pw,0,none⟩ = some (.int .i64 wx):=by rw [hY];simp [go_sem,w0]
  have q1:Y.cell? ⟨pw,1,none⟩ = some (.int .i64 wq):=by rw [hY];simp [go_sem,w1]
  have q2:Y.cell? ⟨pw,2,none⟩ = some (.int .i64 wz):=by rw [hY];simp [go_sem,w2]
  obtain ⟨ncc,ncw⟩:=HSG.out.2
  obtain ⟨nyc,nyw⟩:=HYC.out
  clear F1 hsc hsw HSG HNB LG CB CY HB Cc Cw HPX HYC
  go_upto_region 11 with fail
  cases a1
  all_goals
   go_region
   rw [<- hY]
   clear hY c0 c1 c2 c3 w0 w1 w2 cf0 cf1 cf2 cf3 wf0 wf1 wf2 b0 b1 b2 b3 y0 y1 y2 hcw hwc ncc ncw nyc nyw
   go_wp2_with (fail)
  ·exact bodyPost_ret (v:=.tuple #[.agg #[.slice (some ⟨sg,0,none⟩) 1 1,.slice none 0 0,.slice none 0 0,.int .i64 r],.agg #[.int .i64 wx,.int .i64 wq,.int .i64 wz],.bool false]) (by simp [results,Tryz.results13,go_sem,p0,p1,p2,p3,q0,q1,q2]) rfl ⟨FY.out.2,sg,by rw [HA1.out];rfl,FY.out.1⟩
  ·exact bodyPost_ret (v:=.tuple #[.agg #[.slice (some ⟨sg,0,none⟩) 1 1,.slice none 0 0,.slice none 0 0,.int .i64 r],.agg #[.int .i64 wx,.int .i64 wq,.int .i64 wz],.bool a2]) (by simp [results,Tryz.results13,go_sem,p0,p1,p2,p3,q0,q1,q2]) rfl ⟨FY.out.2,sg,by rw [HA1.out,HA2.out];rfl,FY.out.1⟩
 ·have hok:ok = false:=by rw [HWO.out];simpa using hbb
  subst hok
  have HNB:Hid ((W.heap.size <= pc/\W.heap.size <= pw)/\pc ≠ pw):=by have:=HPX.out;show _/\_;omega
  have hcw:pc ≠ pw:=HNB.out.2
  have hwc:pw ≠ pc:=Ne.symm hcw
  obtain ⟨c0,cf0⟩:=Cc.out 0 _ rfl
  obtain ⟨c1,cf1⟩:=Cc.out 1 _ rfl
  obtain ⟨c2,cf2⟩:=Cc.out 2 _ rfl
  obtain ⟨c3,cf3⟩:=Cc.out 3 _ rfl
  obtain ⟨w0,wf0⟩:=Cw.out 0 _ rfl
  obtain ⟨w1,wf1⟩:=Cw.out 1 _ rfl
  obtain ⟨w2,wf2⟩:=Cw.out 2 _ rfl
  have HZ:Hid _:=((((((HB.out.setCell HNB.out.1.1 (.slice none 0 0) (p:=⟨pc,0,none⟩)).setCell HNB.out.1.1 (.slice none 0 0) (p:=⟨pc,1,none⟩)).setCell HNB.out.1.1 (.slice none 0 0) (p:=⟨pc,2,none⟩)).setCell HNB.out.1.1 (.int .i64 0) (p:=⟨pc,3,none⟩)).setCell HNB.out.1.2 (.int .i64 0) (p:=⟨pw,0,none⟩)).setCell HNB.out.1.2 (.int .i64 0) (p:=⟨pw,1,none⟩)).setCell HNB.out.1.2 (.int .i64 0) (p:=⟨pw,2,none⟩)
  have hc9:b1 = false \/ b1 = true/\b2 = false:=by
   cases b1 with
   | false=>exact Or.inl rfl
   | true=>exact Or.inr ⟨rfl,by simpa using hbb⟩
  clear HIW HMY HWO HSM HWZ HBA HB HPX HNB Cf Ct Cc Cw hbb HGF HGT
  rcases hc9 with rfl | ⟨rfl,rfl⟩
  all_goals
   go_wp2_with (fail)
   exact bodyPost_ret (v:=.tuple #[.agg #[.slice none 0 0,.slice none 0 0,.slice none 0 0,.int .i64 0],.agg #[.int .i64 0,.int .i64 0,.int .i64 0],.bool false]) (by simp [results,Tryz.results13,go_sem,c0,c1,c2,c3,w0,w1,w2]) rfl ⟨HZ.out,rfl⟩
end
section
open Go.RowKit Go.Shelf
theorem hold_in {g t:V3} {r:Int} {L:List Cr} (hg:g.m42) (ht:g.n38 t):(holdV g t r L).1.m43/\(holdV g t r L).1.n38 t:=by
 have i1:g.in45/\t.in45:=by unfold V3.m42 at hg;unfold V3.n38 at ht;unfold V3.in45;omega
 obtain ⟨a1,_⟩:=hold_small r L i1.1 i1.2
 have h16:=hold_le (ballC g r) (wayZ g t) L L.length
 rw [a1]
 dsimp only
 have hk:(0:Int) <= (hK g t r L:Nat)/\((hK g t r L:Nat):Int) <= 16:=by unfold hK;omega
 generalize ((hK g t r L:Nat):Int) = k at *
 unfold V3.m42 at hg
 unfold V3.n38 at ht ⊢
 unfold V3.m43
 split
 ·omega
 ·dsimp only
  have key:∀ a b:Int,-274877906944 <= b - a->b - a <= 274877906944->-274877906944 <= (b - a) * k / 16/\(b - a) * k / 16 <= 274877906944/\-274877906944 <= b - a - (b - a) * k / 16/\b - a - (b - a) * k / 16 <= 274877906944:=fun a b h1 h2=>by
   obtain ⟨d,hd⟩:∃ d,d = b - a:=⟨_,rfl⟩
   rw [<- hd] at h1 h2 ⊢
   by_cases h0:0 <= d
   ·have p1:=Int.mul_nonneg h0 hk.1
    have p2:=Int.mul_nonneg h0 (show 0 <= 16 - k by omega)
    rw [Int.mul_sub] at p2
    omega
   ·have p1:=Int.mul_nonneg (show 0 <= -d by omega) hk.1
    have p2:=Int.mul_nonneg (show 0 <= -d by omega) (show 0 <= 16 - k by omega)
    rw [Int.mul_sub,Int.neg_mul,Int.neg_mul] at p2
    rw [Int.neg_mul] at p1
    omega
  have kx:=key g.x t.x ht.1.1 ht.1.2
  have ky:=key g.y t.y ht.2.1.1 ht.2.1.2
  have kz:=key g.z t.z ht.2.2.1 ht.2.2.2
  generalize (t.x - g.x) * k / 16 = px at *
  generalize (t.y - g.y) * k / 16 = py at *
  generalize (t.z - g.z) * k / 16 = pz at *
  omega
theorem rway_ok {f t:V3} {r:Int} (hf:f.m43) (ht:f.n38 t) (hr:1 <= r/\r <= 16384) (W:World) :
  Calls Tryz.prog 13 #[.agg #[.int .i64 f.x,.int .i64 f.y,.int .i64 f.z],.agg #[.int .i64 t.x,.int .i64 t.y,.int .i64 t.z],.int .i64 r] W fun e W'=>∃ g:Nat,e = .returned (.tuple #[.agg #[.slice (some ⟨g,0,none⟩) 1 1,.slice none 0 0,.slice none 0 0,.int .i64 r],.agg #[.int .i64 (wayZ f t).x,.int .i64 (wayZ f t).y,.int .i64 (wayZ f t).z],.bool true])/\Hid (Lies W' (.slice (some ⟨g,0,none⟩) 1 1) [grn f]/\Below W.heap.size W W'):=by
 have hok:wayOk f t = true:=by
  unfold V3.m43 at hf
  unfold V3.n38 at ht
  unfold wayOk
  rw [Bool.and_eq_true,Pt.inB_iff,Pt.inB_iff]
  dsimp only
  omega
 have hm:=(shot_cast hf ht hr (show mayC ⟨[⟨0,0,0⟩],[],[],0⟩ = true by decide))
 have hw:(wayZ f t).inB 4194304 = true:=(go_parts (cast_parts hm.1).1).2.2.1
 refine (rway18_any f t r W).mono ?_
 rintro e W' ⟨hb,_,h⟩
 obtain ⟨g,rfl,hl⟩:=h hok
 rw [hm.2,hw]
 exact ⟨g,rfl,hl,hb⟩
theorem hold_nums {f t e:V3} {r:Int} {c:Cr} {k:Nat} (hf:f.m43) (ht:f.n38 t) (he:e.m43) (hr:1 <= r/\r <= 16384) (hN:mayN c) (hcr:1 <= c.r/\c.r <= 16384) (hp:holdP (ballC f r) (wayZ f t) c = true) (hk:k <= (castR (ballC f r) (wayZ f t) c).1)
  (he1:k = 16->e = t) (he2:k ≠ 16->e = ⟨f.x + (t.x - f.x) * (k:Nat) / 16,f.y + (t.y - f.y) * (k:Nat) / 16,f.z + (t.z - f.z) * (k:Nat) / 16⟩) :
  (castR (ballC f r) (wayZ f t) c).2.1.inB 1048576 = true/\(0 <= dn (castR (ballC f r) (wayZ f t) c).2.1/\dn (castR (ballC f r) (wayZ f t) c).2.1 <= 2097152)/\(0 <= up (castR (ballC f r) (wayZ f t) c).2.1/\up (castR (ballC f r) (wayZ f t) c).2.1 <= 2097153) /\
  (0 <= (castR (ballC f r) (wayZ f t) c).2.2/\(castR (ballC f r) (wayZ f t) c).2.2 + r + c.r <= 281474976710656)/\(0 <= ((castR (ballC f r) (wayZ f t) c).2.2 + r + c.r) * dn (castR (ballC f r) (wayZ f t) c).2.1/\((castR (ballC f r) (wayZ f t) c).2.2 + r + c.r) * dn (castR (ballC f r) (wayZ f t) c).2.1 <= 281474976710656) /\
  ∀ q ∈ c.P,¬ (castR (ballC f r) (wayZ f t) c).2.1.dot (q.sub (grn e)) < ((castR (ballC f r) (wayZ f t) c).2.2 + r + c.r) * dn (castR (ballC f r) (wayZ f t) c).2.1 - 4 * up (castR (ballC f r) (wayZ f t) c).2.1:=by
 have hc:=(shot_cast hf ht hr hN.1).1
 have hg:0 <= (castR (ballC f r) (wayZ f t) c).2.2:=by unfold holdP at hp;rw [Bool.and_eq_true,decide_eq_true_eq] at hp;exact hp.2
 obtain ⟨hn,hd1⟩:=cast_n hc (show 1 <= (ballC f r).r + c.r by show 1 <= r + c.r;omega) hg
 have hd2:=dn_le hn
 have hu:0 <= up (castR (ballC f r) (wayZ f t) c).2.1/\up (castR (ballC f r) (wayZ f t) c).2.1 <= 2097153:=by unfold up;split <;> omega
 have hfree:∀ q ∈ c.P,((castR (ballC f r) (wayZ f t) c).2.2 + r + c.r) * dn (castR (ballC f r) (wayZ f t) c).2.1 <= (castR (ballC f r) (wayZ f t) c).2.1.dot (q.sub (grn f)):=fun q hq=>by
  have h9:=cast_free hc (show 1 <= (ballC f r).r + c.r by show 1 <= r + c.r;omega) hg (show grn f ∈ (ballC f r).P from List.mem_singleton_self _) hq (m:=0) ⟨by decide,by decide⟩
  rw [Int.zero_mul] at h9
  have er:(ballC f r).r = r:=rfl
  rw [er] at h9
  omega
 have h0:=(may_facts hN.1).1
 obtain ⟨q,hq⟩:=List.exists_mem_of_length_pos h0
 have h1:=hfree q hq
 have hqb:=hN.2.2 q hq
 have hsub:(q.sub (grn f)).inB 33554432 = true:=by
  unfold V3.m43 at hf
  rw [Pt.inB_iff] at hqb ⊢
  unfold Pt.sub grn
  dsimp only
  omega
 have hD:=dot_in3 hn hsub (by decide)
 have hS:0 <= (castR (ballC f r) (wayZ f t) c).2.2 + r + c.r:=by omega
 have hG0:=Int.mul_nonneg hS hd2.1
 have hG1:=Int.mul_le_mul_of_nonneg_left (a:=1) (b:=dn (castR (ballC f r) (wayZ f t) c).2.1) (c:=(castR (ballC f r) (wayZ f t) c).2.2 + r + c.r) (by omega) hS
 rw [Int.mul_one] at hG1
 exact ⟨hn,hd2,hu,⟨hg,by omega⟩,⟨hG0,by omega⟩,fun q hq=>Int.not_lt.2 (holds_apart (by omega) hc hg hk hq he1 he2)⟩
theorem lies_one_at {W:World} {g:Nat} {x y z:Int} (h:Lies W (.slice (some ⟨g,0,none⟩) 1 1) [⟨x,y,z⟩]):W.cell? ⟨g,0,none⟩ = some (.int .i64 x)/\W.cell? ⟨g,1,none⟩ = some (.int .i64 y)/\W.cell? ⟨g,2,none⟩ = some (.int .i64 z):=by
 obtain ⟨o,cap,e,_,_,h⟩:=h.form
 cases e
 obtain ⟨g',f',e',a,b,c⟩:=h 0 (by simp)
 cases e'
 exact ⟨by simpa [pt] using a,by simpa [pt] using b,by simpa [pt] using c⟩
theorem sub_bound {p e:Pt} (hp:p.inB 8388608 = true) (he:e.inB 16777216 = true):(p.sub e).inB 536870912 = true:=by
 rw [Pt.inB_iff] at *
 unfold Pt.sub
 dsimp only
 omega
theorem happart_any (a b:Cr) (pv av ev qv bv fv:Value) (w0:World) (ha:mayC a = true) (hb:mayC b = true) (l1:Lies w0 pv a.P) (l2:Lies w0 av a.A) (l3:Lies w0 ev a.E) (m1:Lies w0 qv b.P) (m2:Lies w0 bv b.A) (m3:Lies w0 fv b.E) :
  Calls Tryz.prog 14 #[.agg #[pv,av,ev,.int .i64 a.r],.agg #[qv,bv,fv,.int .i64 b.r]] w0 fun e W=>e = .returned (.tuple #[.agg #[.int .i64 (told a b).1.x,.int .i64 (told a b).1.y,.int .i64 (told a b).1.z,.int .i64 (told a b).2],.bool true])/\Below w0.heap.size w0 W:=by
 have h:=napart_any a.P a.A a.E b.P b.A b.E a.r b.r _ _ _ _ _ _ w0 l1 l2 l3 m1 m2 m3
 have h1:mayC ⟨a.P,a.A,a.E,a.r⟩ = true:=ha
 have h2:mayC ⟨b.P,b.A,b.E,b.r⟩ = true:=hb
 unfold apartV at h
 rw [h1,h2] at h
 exact h
theorem hsizes_any (n:Pt) (hn:n.inB 1048576 = true) (w':World):Calls Tryz.prog 16 #[.agg #[.int .i64 n.x,.int .i64 n.y,.int .i64 n.z]] w' fun e W=>e = .returned (.tuple #[.int .i64 (dn n),.int .i64 (up n)])/\Below w'.heap.size w' W:=by
 have h:=rsizes9_any n w'
 have hin:n.inB 16777216 = true:=inB_mono hn (by decide)
 rw [show dnT n = dn n by simp [dnT,hin],show upT n = up n by simp [upT,hin]] at h
 exact h
end
end Go.Proofs.YtablgiflakncfaaGreat
