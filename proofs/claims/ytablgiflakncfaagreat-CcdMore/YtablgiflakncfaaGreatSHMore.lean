/- With more walls a ball does not come further: for all raw shots. -/
import Derived.Test.YtablgiflakncfaaGreatBBW12
import Derived.Test.YtablgiflakncfaaGreatBBW11
import Derived.Test.YtablgiflakncfaaGreatBBW0
import Derived.Test.YtablgiflakncfaaGreatProg
import Derived.WalkKit
import Derived.Orders
import Derived.Below
import Derived.Laws.Rows
import Derived.Test.YtablgiflakncfaaGreatBBW10
import Derived.Test.YtablgiflakncfaaGreatBBW5
import Derived.Test.YtablgiflakncfaaGreatBBW4
import Derived.Test.YtablgiflakncfaaGreatBBW3
import Derived.Test.YtablgiflakncfaaGreatBBW2
import Derived.Test.YtablgiflakncfaaGreatBBW1
import Derived.RangeFuncNested
import Derived.RangeFuncBound
import Derived.RangeFuncCalls
import Derived.RangeFuncLeaves
import Derived.RangeFuncBox
import Derived.Shelf.Abstract
import Derived.OwnWalkIn
import Derived.TacticsInMore
import Derived.LoopNIn
import Derived.LoopIn
import Derived.LoopTactic
import Derived.ProofKit
import Derived.Handy
import Derived.Laws.MakeOwn
import Derived.Laws.OwnMore
import Derived.Maps.AppendAt
import Derived.Deep.RegionWith
import Derived.Deep.QuietTactic
import Derived.BigQuiet
import Derived.Deep.CutBlock
import Derived.Deep.CutRange
import Derived.Deep.LoopGhost
import Derived.Lib.SmallJoins
import Derived.RowKit
import Derived.Scope
import Derived.OrdersIn
import Derived.Sort.CutIn
import Derived.Test.YtablgiflakncfaaGreatBBW9
import Derived.Test.YtablgiflakncfaaGreatBBW6
import Derived.OneCell
import Derived.WalkMore
import Derived.Lib.BufferMore
import Derived.Test.YtablgiflakncfaaGreatBBW8
import Derived.Test.YtablgiflakncfaaGreatBBW7
import Derived.Laws.MathBits
import Derived.Laws.Externs
import Derived.Laws.BitsAllLaws
import Derived.WalkLawsBesides
import Derived.Lib.AppendZeros
import Derived.Test.YtablgiflakncfaaGreatEHMore0
import Derived.Deep.MidRow
import Derived.Test.YtablgiflakncfaaGreatBBW25
import Derived.Test.YtablgiflakncfaaGreatBBW23
import Derived.Test.YtablgiflakncfaaGreatBBW22
import Derived.Test.YtablgiflakncfaaGreatBBW17
import Derived.Test.YtablgiflakncfaaGreatBBW14
import Derived.Test.YtablgiflakncfaaGreatBBW13
import Derived.Test.YtablgiflakncfaaGreatBBW16
import Derived.Test.YtablgiflakncfaaGreatBBW15
import Derived.Deep.RegionHeld3
import Derived.Test.YtablgiflakncfaaGreatBBW19
import Derived.Test.YtablgiflakncfaaGreatBBW18
import Derived.Test.YtablgiflakncfaaGreatBBW21
import Derived.Test.YtablgiflakncfaaGreatBBW20
import Derived.Deep.Onto
import Derived.Test.YtablgiflakncfaaGreatBBW24
import Derived.OpenShut
import Derived.Deep.Slices
import Derived.Test.YtablgiflakncfaaGreatRows
set_option maxHeartbeats 32000000
set_option maxRecDepth 100000
set_option linter.unusedVariables false
namespace Go.Proofs.YtablgiflakncfaaGreat
section
namespace ccdMore
open Go.ChangeShapes Go.WideShapes Go.ChangeAt Go.RowKit Go.Shelf
theorem own:ownKnob Tryz.prog.godebug = none:=by kernel_rfl
theorem laidOut:laidOutB Tryz.prog = true:=by kernel_rfl
theorem walk (fv yv:V3) (rr:Int) (oa:Option Addr) (RR:List Rw) (ca:Nat) (ob:Option Addr) (SS:List Pw) (cb:Nat) (w0:World) (hR:LiesR w0 (.slice oa RR.length ca) RR) (oR:∀ q ∈ RR,q.ok) (hS:LiesP w0 (.slice ob SS.length cb) SS) (oS:∀ q ∈ SS,q.ok) (bds:(I64 fv.x/\I64 fv.y/\I64 fv.z)/\(I64 yv.x/\I64 yv.y/\I64 yv.z)/\I64 rr) :
  Calls Tryz.prog 8 #[.agg #[.int .i64 fv.x,.int .i64 fv.y,.int .i64 fv.z,.int .i64 yv.x,.int .i64 yv.y,.int .i64 yv.z,.int .i64 rr,.slice oa RR.length ca,.slice ob SS.length cb]] w0 fun e w'=>e = .returned (.bool true)/\Below w0.heap.size w0 w':=by
 have AWK:Hid _:=fun W=>hawake_any W
 have MD:Hid _:=fun w' (h:Below w0.heap.size w0 w')=>made_any fv yv rr RR SS oa ca ob cb w' (hR.below h) oR (hS.below h) oS bds
 clear hR oR hS oS bds
 obtain ⟨A1,hA1⟩:∃ V,V = w0.alloc (.cells #[.int .i64 fv.x,.int .i64 fv.y,.int .i64 fv.z,.int .i64 yv.x,.int .i64 yv.y,.int .i64 yv.z,.int .i64 rr,.slice oa RR.length ca,.slice ob SS.length cb] 41):=⟨_,rfl⟩
 obtain ⟨sb,hsb⟩:∃ b,b = w0.heap.size:=⟨_,rfl⟩
 have CS:Hid (CW A1 sb [.int .i64 fv.x,.int .i64 fv.y,.int .i64 fv.z,.int .i64 yv.x,.int .i64 yv.y,.int .i64 yv.z,.int .i64 rr,.slice oa RR.length ca,.slice ob SS.length cb]):=by show CW _ _ _;rw [hA1,hsb];exact CW.new w0 [.int .i64 fv.x,.int .i64 fv.y,.int .i64 fv.z,.int .i64 yv.x,.int .i64 yv.y,.int .i64 yv.z,.int .i64 rr,.slice oa RR.length ca,.slice ob SS.length cb] 41
 have HB:Hid (Below w0.heap.size w0 A1):=by show Below _ _ _;rw [hA1];exact n_after _ _
 go_enter Tryz.func8,Tryz.ntmps8
 go_upto_region 1 with fail
 rw [<- hA1,<- hsb]
 clear hA1 hsb
 go_wp2_with (fail)
 refine Calls.mono (AWK.out _) ?_
 rintro e V1 ⟨rfl,hb⟩
 have HB:Hid (Below w0.heap.size w0 V1):=b_step HB.out hb
 have CS:Hid (CW _ _ _):=CS.out.step hb
 clear hb AWK
 have x0:=(CS.out 0 _ rfl).1
 have x1:=(CS.out 1 _ rfl).1
 have x2:=(CS.out 2 _ rfl).1
 have x3:=(CS.out 3 _ rfl).1
 have x4:=(CS.out 4 _ rfl).1
 have x5:=(CS.out 5 _ rfl).1
 have x6:=(CS.out 6 _ rfl).1
 have x7:=(CS.out 7 _ rfl).1
 have x8:=(CS.out 8 _ rfl).1
 go_wp2_with (fail)
 refine Calls.mono (MD.out _ HB.out) ?_
 rintro e V2 ⟨⟨gx,gy,gz⟩,⟨tx,ty,tz⟩,r,u,K,rfl,HK,hok,hl3,hg,ht,hr,hb⟩
 have hLC:=HK.out.liesC
 have hokL:∀ c ∈ K.map CoK.c,okC c:=fun c hc=>by obtain ⟨k,hk,rfl⟩:=List.mem_map.1 hc;exact hok k hk
 have hl3L:(K.map CoK.c).length <= 3:=by rw [List.length_map];exact hl3
 clear HK hok hl3
 generalize K.map CoK.c = L at *
 obtain ⟨uo,uc,rfl,huc,hum,_⟩:=hLC.form
 have HUC:Hid (L.length <= uc/\uc <= 9223372036854775807):=⟨huc,hum⟩
 have HOK:Hid _:=hokL
 have HL3:Hid _:=hl3L
 have HG42:Hid _:=hg
 have HN38:Hid _:=ht
 have HRB:Hid _:=hr
 have HB:Hid (Below w0.heap.size w0 V2):=b_step HB.out hb
 have CS:Hid (CW _ _ _):=CS.out.step hb
 have CS2:Hid (CW V2 _ _):=CS.out
 obtain ⟨V,hV⟩:∃ V,V = (V2.alloc (.cells #[.int .i64 gx,.int .i64 gy,.int .i64 gz] 23)).alloc (.cells #[.int .i64 tx,.int .i64 ty,.int .i64 tz] 23):=⟨_,rfl⟩
 obtain ⟨gb,hgb⟩:∃ b,b = V2.heap.size:=⟨_,rfl⟩
 obtain ⟨tb,htb⟩:∃ b,b = V2.heap.size + 1:=⟨_,rfl⟩
 have k1:=n_after V2 (.cells #[.int .i64 gx,.int .i64 gy,.int .i64 gz] 23)
 have k2:=n_after (V2.alloc (.cells #[.int .i64 gx,.int .i64 gy,.int .i64 gz] 23)) (.cells #[.int .i64 tx,.int .i64 ty,.int .i64 tz] 23)
 have c1:=(CW.new V2 [.int .i64 gx,.int .i64 gy,.int .i64 gz] 23).step k2
 have c2:=CW.new (V2.alloc (.cells #[.int .i64 gx,.int .i64 gy,.int .i64 gz] 23)) [.int .i64 tx,.int .i64 ty,.int .i64 tz] 23
 rw [World.size_alloc,<- htb] at c2
 rw [<- hgb] at c1
 rw [<- hV] at c1 c2
 have CG:Hid (CW V gb [.int .i64 gx,.int .i64 gy,.int .i64 gz]):=c1
 have CT:Hid (CW V tb [.int .i64 tx,.int .i64 ty,.int .i64 tz]):=c2
 have hbv:Below V2.heap.size V2 V:=by rw [hV];exact b_step k1 k2
 have HB:Hid (Below w0.heap.size w0 V):=b_step HB.out hbv
 have CS:Hid (CW _ _ _):=CS.out.step hbv
 have HLC:Hid (LiesC V (.slice uo L.length uc) L):=hLC.below hbv
 have hgt:gb ≠ tb:=by omega
 have HGT:Hid _:=hgt
 have hsg:sb < V2.heap.size:=CW.lt CS2.out
 have HSG:Hid (sb ≠ gb/\sb ≠ tb):=by show _/\_;omega
 clear CS2 k1 k2 c1 c2 hbv hb MD hgt hsg hg ht hr hokL hl3L huc hum hLC x0 x1 x2 x3 x4 x5 x6 x7 x8
 go_upto_region 3 with fail
 rw [<- hV,<- htb,<- hgb]
 clear hV htb hgb
 obtain ⟨X,hX⟩:∃ X,X = V.alloc (.cells #[.bool false] 31):=⟨_,rfl⟩
 obtain ⟨fb,hfb⟩:∃ b,b = V.heap.size:=⟨_,rfl⟩
 have HFB:Hid (V.heap.size <= fb):=by show _ <= _;omega
 have hcf:CW X fb [.bool false]:=by rw [hX,hfb];exact CW.new V [.bool false] 31
 have HBV:Hid (Below V.heap.size V X):=by show Below _ _ _;rw [hX];exact n_after _ _
 have HFL:Hid (After ⟨fb,0,none⟩ false X X):=(Leaves.refl _ _).done (hcf 0 _ rfl).1 (hcf 0 _ rfl).2
 have hl1:=CW.lt CG.out
 have hl2:=CW.lt CT.out
 have hl4:=CW.lt CS.out
 have HNE:Hid (gb ≠ fb/\tb ≠ fb/\sb ≠ fb):=by show _/\_/\_;omega
 clear hcf hl1 hl2 hl4
 go_upto_region 4 with fail
 rw [<- hX,<- hfb]
 clear hX hfb
 have HH:Hid (∀ (M:List Cr) (lv:Value) (fl:Bool) (w':World),LiesC w' lv M->w'.cell? ⟨fb,0,none⟩ = some (.bool fl)->w'.frozen? ⟨fb,0,none⟩ = false->Calls Tryz.prog 10 #[.pointer (some ⟨fb,0,none⟩),.agg #[.int .i64 gx,.int .i64 gy,.int .i64 gz],.agg #[.int .i64 tx,.int .i64 ty,.int .i64 tz],.int .i64 r,lv] w' fun e W'=>e = .returned (.tuple #[(holdV (⟨gx,gy,gz⟩:V3) (⟨tx,ty,tz⟩:V3) r M).1.val,.int .i64 ((hK (⟨gx,gy,gz⟩:V3) (⟨tx,ty,tz⟩:V3) r M:Nat):Int)])/\Hid (After ⟨fb,0,none⟩ (fl || false) w' W')):=fun M lv fl w' h1 h2 h3=>by
  have i1:(⟨gx,gy,gz⟩:V3).in45/\(⟨tx,ty,tz⟩:V3).in45:=by have a:=HG42.out;have b:=HN38.out;unfold V3.m42 at a;unfold V3.n38 at b;unfold V3.in45;dsimp only at *;omega
  obtain ⟨a1,a2⟩:=hold_small r M i1.1 i1.2
  have h9:=hold_any (⟨gx,gy,gz⟩:V3) (⟨tx,ty,tz⟩:V3) r M lv fb fl w' h1 h2 h3 (by have:=i1.1;unfold V3.in45 at this;unfold V3.i64;dsimp only at *;omega) (by have:=i1.2;unfold V3.in45 at this;unfold V3.i64;dsimp only at *;omega)
  rw [a2] at h9
  have e9:(holdV (⟨gx,gy,gz⟩:V3) (⟨tx,ty,tz⟩:V3) r M).2 = hK (⟨gx,gy,gz⟩:V3) (⟨tx,ty,tz⟩:V3) r M:=by rw [a1]
  rw [e9] at h9
  exact h9
 obtain ⟨BC,hBC⟩:∃ c,ballC (⟨gx,gy,gz⟩:V3) r = c:=⟨_,rfl⟩
 obtain ⟨WY,hWY⟩:∃ p,wayZ (⟨gx,gy,gz⟩:V3) (⟨tx,ty,tz⟩:V3) = p:=⟨_,rfl⟩
 have HKK:Hid (∀ M:List Cr,hK (⟨gx,gy,gz⟩:V3) (⟨tx,ty,tz⟩:V3) r M = holdK BC WY M M.length):=fun M=>by rw [<- hBC,<- hWY];rfl
 clear hBC hWY HG42 HN38 HRB CS HGT HSG HOK HL3
 go_wp2_with (fail)
 go_loopg [9,10] L.length (fun gm s9 s10 wr=>∃ i:Nat,s9 = .int .i64 ((holdK BC WY L i:Nat):Int)/\s10 = .int .i64 (i:Int)/\i <= L.length/\Hid (gm = L.length - i)/\Hid (After ⟨fb,0,none⟩ false X wr))
 case atStart=>exact ⟨0,rfl,rfl,Nat.zero_le _,rfl,HFL⟩
 case round =>
  obtain ⟨i,rfl,rfl,hi9,HG,HA⟩:=hrel
  by_cases hit:i < L.length
  ·have hl1:(i:Int) < (L.length:Int):=by omega
   have hbV:Below V.heap.size V wr:=HA.out.on HBV.out HFB.out
   have HBW:Hid _:=hbV
   have hLw:=HLC.out
   obtain ⟨lb,lo,rfl,hic,hone⟩:=hLw.one hit
   have htk:=hLw.take (i:=i + 1) (by omega)
   have HL1:Hid _:=hone
   have HL2:Hid _:=htk
   have e1:=HKK.out [cr L i]
   have e2:=HKK.out (L.take (i + 1))
   have e3:(L.take (i + 1)).length = i + 1:=by rw [List.length_take];omega
   rw [e3,hold_take BC WY L (i + 1) (i + 1) (Nat.le_refl _)] at e2
   have e4:holdK BC WY L (i + 1) = min (holdK BC WY L i) (holdK BC WY [cr L i] 1):=by
    have h9:=hold_le BC WY L i
    show (if holdP BC WY (cr L i) then min (holdK BC WY L i) (castR BC WY (cr L i)).1 else holdK BC WY L i) = min (holdK BC WY L i) (if holdP BC WY (cr L i) then min 16 (castR BC WY (cr L i)).1 else 16)
    split <;> omega
   have hc1:=HH.out [cr L i] (.slice (some ⟨lb,lo + i * 4,none⟩) 1 (uc - i))
   have hc2:=HH.out (L.take (i + 1)) (.slice (some ⟨lb,lo,none⟩) (i + 1) uc)
   rw [e1] at hc1
   rw [e2] at hc2
   obtain ⟨⟨ox,oy,oz⟩,ho1⟩:∃ v,(holdV (⟨gx,gy,gz⟩:V3) (⟨tx,ty,tz⟩:V3) r [cr L i]).1 = v:=⟨_,rfl⟩
   obtain ⟨⟨mx,my,mz⟩,hm1⟩:∃ v,(holdV (⟨gx,gy,gz⟩:V3) (⟨tx,ty,tz⟩:V3) r (L.take (i + 1))).1 = v:=⟨_,rfl⟩
   obtain ⟨ok,hok⟩:∃ k,holdK BC WY [cr L i] [cr L i].length = k:=⟨_,rfl⟩
   rw [ho1,hok] at hc1
   rw [hm1] at hc2
   dsimp only [V3.val] at hc1 hc2
   have e5:holdK BC WY L (i + 1) = min (holdK BC WY L i) ok:=by rw [e4,<- hok];rfl
   have HE:Hid _:=e5
   have HC1:Hid _:=hc1
   have HC2:Hid _:=hc2
   clear e1 e2 e3 e4 e5 hc1 hc2 ho1 hm1 hok hone htk hLw
   have hs1:0 <= (i:Int) + 1:=by omega
   have hs2:(i:Int) + 1 <= (uc:Int):=by omega
   have hs3:¬ uc = i:=by omega
   have hs4:¬ (uc:Int) < (i:Int) + 1:=by omega
   have w_i:IntKind.i64.wrap ((i:Int) + 1) = ((i + 1:Nat):Int):=by rw [IntKind.wrap_i64];have:=HUC.out;omega
   have fc:=HA.out.cell
   have ff:=HA.out.frozen
   have ng:=HNE.out.1
   have nt:=HNE.out.2.1
   have q0g:=c_after hbV (CG.out 0 _ rfl).1
   have q1g:=c_after hbV (CG.out 1 _ rfl).1
   have q2g:=c_after hbV (CG.out 2 _ rfl).1
   have q0t:=c_after hbV (CT.out 0 _ rfl).1
   have q1t:=c_after hbV (CT.out 1 _ rfl).1
   have q2t:=c_after hbV (CT.out 2 _ rfl).1
   clear hbV
   go_upto_region 8 with fail
   refine RV.rs [.some (.pointer (some ⟨fb,0,none⟩)),.some (.agg #[.int .i64 gx,.int .i64 gy,.int .i64 gz]),.some (.agg #[.int .i64 tx,.int .i64 ty,.int .i64 tz]),.some (.int .i64 r),.some (.slice (some ⟨lb,lo,none⟩) L.length uc),.some (.int .i64 ((i:Int))),.some (.int .i64 ((i:Int))),.some (.int .i64 (((i + 1:Nat):Int))),.some (.slice (some ⟨lb,lo + i * 4,none⟩) 1 (uc - i)),.some (.tuple #[.agg #[.int .i64 ox,.int .i64 oy,.int .i64 oz],.int .i64 ((ok:Nat):Int)]),.some (.tuple #[.agg #[.int .i64 ox,.int .i64 oy,.int .i64 oz],.int .i64 ((ok:Nat):Int)]),.some (.agg #[.int .i64 ox,.int .i64 oy,.int .i64 oz]),.some (.int .i64 (((ok:Nat):Int))),none,none,.some (.int .i64 (((ok:Nat):Int)))] [33,34,35,36,37,38,39,40,41,42,32,43,44,12,0,13] [(4,.pointer (some ⟨gb,0,none⟩)),(5,.pointer (some ⟨tb,0,none⟩)),(6,.int .i64 r),(7,.slice (some ⟨lb,lo,none⟩) L.length uc),(8,.pointer (some ⟨fb,0,none⟩)),(10,.int .i64 ((i:Int)))] (fun γ L w=>NG wr ⟨fb,0,none⟩ false [(9,false)] 23 13 14 #[.int .i64 ox,.int .i64 oy,.int .i64 oz] γ L w) ⟨rfl,rfl,rfl,rfl,rfl,rfl,trivial⟩ (NG.start fc ff) ?_ ?_
   ·intro D WA Z hD hWA hZ T
    simp only [RV.Outs,RV.Slots,Nat.reduceAdd] at T
    (refine RV.cc _ (RV.pu T (fun γ v L w hl h=>h.other _ rfl (by decide) (by decide)) (fun γ L a w hH hl h9 k9=>⟨_,?_,rfl⟩)) ?_;· simp [execOp,go_sem,h9])
    (refine RV.cc _ (RV.pu T (fun γ v L w hl h=>h.other _ rfl (by decide) (by decide)) (fun γ L a w hH hl h9 k9=>⟨_,?_,rfl⟩)) ?_;· have q0:=hH.glob.fg.at q0g ng;have q1:=hH.glob.fg.at q1g ng;have q2:=hH.glob.fg.at q2g ng;simp [execOp,go_sem,h9,q0,q1,q2])
    (refine RV.cc _ (RV.pu T (fun γ v L w hl h=>h.other _ rfl (by decide) (by decide)) (fun γ L a w hH hl h9 k9=>⟨_,?_,rfl⟩)) ?_;· have q0:=hH.glob.fg.at q0t nt;have q1:=hH.glob.fg.at q1t nt;have q2:=hH.glob.fg.at q2t nt;simp [execOp,go_sem,h9,q0,q1,q2])
    iterate 4 (refine RV.cc _ (RV.pu T (fun γ v L w hl h=>h.other _ rfl (by decide) (by decide)) (fun γ L a w hH hl h9 k9=>⟨_,?_,rfl⟩)) ?_;· simp [execOp,go_sem,h9])
    (refine RV.cc _ (RV.pu T (fun γ v L w hl h=>h.other _ rfl (by decide) (by decide)) (fun γ L a w hH hl h9 k9=>⟨_,?_,rfl⟩)) ?_;· simp [Region.binds] at k9;simp [execOp,go_sem,h9,k9,w_i])
    (refine RV.cc _ (RV.pu T (fun γ v L w hl h=>h.other _ rfl (by decide) (by decide)) (fun γ L a w hH hl h9 k9=>⟨_,?_,rfl⟩)) ?_;· simp [Region.binds] at k9;simp [execOp,go_sem,h9,k9,hs1,hs2,hs3])
    refine RV.cc _ (RV.dc (fun γ L a w hH hl hA=>by have h9:=T γ L a w hH;have k9:=hA;simp [Region.binds] at k9;exact ⟨_,_,by simp [go_sem,h9,k9],Calls.mono (HC1.out _ w (HL1.out.below (hH.glob.fg.leaves.below _ _ HBW.out HFB.out HBW.out.size)) hH.glob.fg.cell hH.glob.fg.frozen) (by rintro e w2 ⟨rfl,ha⟩;exact ⟨_,rfl,rfl,fun j v _ h=>h.keep _,hH.glob.come _ hl rfl ha.out (by decide) (by decide)⟩)⟩)) ?_
    iterate 3 (refine RV.cc _ (RV.pu T (fun γ v L w hl h=>h.other _ rfl (by decide) (by decide)) (fun γ L a w hH hl h9 k9=>⟨_,?_,rfl⟩)) ?_;· simp [Region.binds] at k9;simp [execOp,go_sem,h9,k9])
    refine RV.cc _ (RV.does_step (fun γ L a w hH hl hA=>⟨.pointer (some ⟨w.heap.size,0,none⟩),w.alloc (.cells #[.int .i64 0,.int .i64 0,.int .i64 0] 23),by simp [execOp,go_sem],trivial,fun j v _ h=>h.keep _,hH.glob.made #[.int .i64 0,.int .i64 0,.int .i64 0] rfl (RV.ny hH (RV.wt (j:=14) (i:=13) hWA (by kernel_rfl)) hl) rfl (by decide)⟩)) ?_
    refine RV.cc _ (RV.does_store (fun γ L a w hH hl hA=>by have h9:=T γ L a w hH;have k9:=hA;simp [Region.binds] at k9;have l0:L 13 = true:=hA ⟨13,.data⟩ (by simp) rfl;have e0:=hH.slot 13 11 (by rw [<- hD];rfl) l0;obtain ⟨b,hb1,hb2,hb3,hb4⟩:=hH.glob.spot l0;rw [hb1] at e0;exact ⟨_,exec_store_all 23 _ _ rfl b 0 _ (by simp [Act.eval,e0]) (by simp [Act.eval,h9,k9]) hb3 (by kernel_rfl) (by simp only [List.all_toArray,List.all_cons,List.all_nil,Value.oneCell',Bool.and_self]),trivial,fun j v _ h=>h.keep _,hb4 (by decide) rfl _⟩)) ?_
    (refine RV.cc _ (RV.pu T (fun γ v L w hl h=>h.other _ rfl (by decide) (by decide)) (fun γ L a w hH hl h9 k9=>⟨_,?_,rfl⟩)) ?_;· simp [Region.binds] at k9;simp [execOp,go_sem,h9,k9])
    exact RV.AllDo.nil
   ·intro γ w5 L9 hL hI9 hG9
    have hFL:orL false [(9,false)] L9 = (false || (false)):=by unfold orL;simp only [List.any_cons,List.any_nil,hL 9 (by decide),Bool.true_and,Bool.or_false]
    obtain ⟨hA9,a1,e9,ha1,Ca1⟩:=hG9.done (hL 13 (by decide)) (hL 14 (by decide))
    have HA9:Hid (After _ _ _ _):=hA9
    rw [hFL] at HA9
    clear hFL hG9 hA9
    simp only [RV.putL,Act.put,List.setIfInBounds_toArray,List.set_cons_zero,List.set_cons_succ,Nat.reduceAdd]
    rw [e9]
    have Ca1:Hid (CW _ _ _):=Ca1
    clear e9
    clear hI9 hL
    have HA1:Hid (After ⟨fb,0,none⟩ false X w5):=HA.out.trans (by have h9:=HA9.out;rw [Bool.false_or] at h9;exact h9)
    clear HA9 Ca1 ha1 HC1 fc ff q0g q0t q1g q1t q2g q2t
    go_upto_region 9 with fail
    go_cut [9] from 44 to 46 (fun s9 wx=>s9 = .int .i64 ((holdK BC WY L (i + 1):Nat):Int)/\wx = w5)
    case first =>
     have e9:=HE.out
     generalize holdK BC WY L (i + 1) = hn at *
     generalize holdK BC WY L i = hi at *
     clear HE HC2
     rcases Nat.lt_trichotomy hi ok with hlt | hlt | hlt
     ·obtain rfl:hn = hi:=by omega
      have h1:¬ (ok:Int) < (hn:Int):=by omega
      have h2:(hn:Int) < (ok:Int):=by omega
      clear hlt e9
      go_wp2_with (fail)
      go_meet
      case rel=>exact ⟨rfl,rfl⟩
     ·subst hlt
      obtain rfl:hn = hi:=by omega
      clear e9
      go_wp2_with (fail)
      go_meet
      case rel=>exact ⟨rfl,rfl⟩
     ·obtain rfl:hn = ok:=by omega
      have h1:(hn:Int) < (hi:Int):=by omega
      have h2:¬ (hi:Int) < (hn:Int):=by omega
      clear hlt e9
      go_wp2_with (fail)
      go_meet
      case rel=>exact ⟨rfl,rfl⟩
    case rest =>
     obtain ⟨rfl,hwc⟩:=hcut
     obtain rfl:w5 = wc:=hwc.symm
     clear hwc HE
     have hbV:Below V.heap.size V w5:=HA1.out.on HBV.out HFB.out
     have HBW:Hid _:=hbV
     have fc:=HA1.out.cell
     have ff:=HA1.out.frozen
     have q0g:=c_after hbV (CG.out 0 _ rfl).1
     have q1g:=c_after hbV (CG.out 1 _ rfl).1
     have q2g:=c_after hbV (CG.out 2 _ rfl).1
     have q0t:=c_after hbV (CT.out 0 _ rfl).1
     have q1t:=c_after hbV (CT.out 1 _ rfl).1
     have q2t:=c_after hbV (CT.out 2 _ rfl).1
     clear hbV
     obtain ⟨nk,hnk⟩:∃ k,holdK BC WY L (i + 1) = k:=⟨_,rfl⟩
     rw [hnk] at HC2 ⊢
     have HNK:Hid _:=hnk
     clear hnk
     go_upto_region 10 with fail
     refine RV.rs [.some (.pointer (some ⟨fb,0,none⟩)),.some (.agg #[.int .i64 gx,.int .i64 gy,.int .i64 gz]),.some (.agg #[.int .i64 tx,.int .i64 ty,.int .i64 tz]),.some (.int .i64 r),.some (.slice (some ⟨lb,lo,none⟩) L.length uc),.some (.int .i64 ((i:Int))),.some (.int .i64 (((i + 1:Nat):Int))),.some (.slice (some ⟨lb,lo,none⟩) (i + 1) uc),.some (.tuple #[.agg #[.int .i64 mx,.int .i64 my,.int .i64 mz],.int .i64 (nk:Int)]),.some (.tuple #[.agg #[.int .i64 mx,.int .i64 my,.int .i64 mz],.int .i64 (nk:Int)]),.some (.agg #[.int .i64 mx,.int .i64 my,.int .i64 mz]),.some (.int .i64 ((nk:Int))),none,none,.some (.int .i64 ((nk:Int)))] [49,50,51,52,53,54,55,56,57,48,58,59,14,0,15] [(4,.pointer (some ⟨gb,0,none⟩)),(5,.pointer (some ⟨tb,0,none⟩)),(6,.int .i64 r),(7,.slice (some ⟨lb,lo,none⟩) L.length uc),(8,.pointer (some ⟨fb,0,none⟩)),(10,.int .i64 ((i:Int)))] (fun γ L w=>NG w5 ⟨fb,0,none⟩ false [(8,false)] 23 12 13 #[.int .i64 mx,.int .i64 my,.int .i64 mz] γ L w) ⟨rfl,rfl,rfl,rfl,rfl,rfl,trivial⟩ (NG.start fc ff) ?_ ?_
     ·intro D WA Z hD hWA hZ T
      simp only [RV.Outs,RV.Slots,Nat.reduceAdd] at T
      (refine RV.cc _ (RV.pu T (fun γ v L w hl h=>h.other _ rfl (by decide) (by decide)) (fun γ L a w hH hl h9 k9=>⟨_,?_,rfl⟩)) ?_;· simp [execOp,go_sem,h9])
      (refine RV.cc _ (RV.pu T (fun γ v L w hl h=>h.other _ rfl (by decide) (by decide)) (fun γ L a w hH hl h9 k9=>⟨_,?_,rfl⟩)) ?_;· have q0:=hH.glob.fg.at q0g ng;have q1:=hH.glob.fg.at q1g ng;have q2:=hH.glob.fg.at q2g ng;simp [execOp,go_sem,h9,q0,q1,q2])
      (refine RV.cc _ (RV.pu T (fun γ v L w hl h=>h.other _ rfl (by decide) (by decide)) (fun γ L a w hH hl h9 k9=>⟨_,?_,rfl⟩)) ?_;· have q0:=hH.glob.fg.at q0t nt;have q1:=hH.glob.fg.at q1t nt;have q2:=hH.glob.fg.at q2t nt;simp [execOp,go_sem,h9,q0,q1,q2])
      iterate 3 (refine RV.cc _ (RV.pu T (fun γ v L w hl h=>h.other _ rfl (by decide) (by decide)) (fun γ L a w hH hl h9 k9=>⟨_,?_,rfl⟩)) ?_;· simp [execOp,go_sem,h9])
      (refine RV.cc _ (RV.pu T (fun γ v L w hl h=>h.other _ rfl (by decide) (by decide)) (fun γ L a w hH hl h9 k9=>⟨_,?_,rfl⟩)) ?_;· simp [Region.binds] at k9;simp [execOp,go_sem,h9,k9,w_i])
      (refine RV.cc _ (RV.pu T (fun γ v L w hl h=>h.other _ rfl (by decide) (by decide)) (fun γ L a w hH hl h9 k9=>⟨_,?_,rfl⟩)) ?_;· simp [Region.binds] at k9;simp [execOp,go_sem,h9,k9,hs1,hs4])
      refine RV.cc _ (RV.dc (fun γ L a w hH hl hA=>by have h9:=T γ L a w hH;have k9:=hA;simp [Region.binds] at k9;exact ⟨_,_,by simp [go_sem,h9,k9],Calls.mono (HC2.out _ w (HL2.out.below (hH.glob.fg.leaves.below _ _ HBW.out HFB.out HBW.out.size)) hH.glob.fg.cell hH.glob.fg.frozen) (by rintro e w2 ⟨rfl,ha⟩;exact ⟨_,rfl,rfl,fun j v _ h=>h.keep _,hH.glob.come _ hl rfl ha.out (by decide) (by decide)⟩)⟩)) ?_
      iterate 3 (refine RV.cc _ (RV.pu T (fun γ v L w hl h=>h.other _ rfl (by decide) (by decide)) (fun γ L a w hH hl h9 k9=>⟨_,?_,rfl⟩)) ?_;· simp [Region.binds] at k9;simp [execOp,go_sem,h9,k9])
      refine RV.cc _ (RV.does_step (fun γ L a w hH hl hA=>⟨.pointer (some ⟨w.heap.size,0,none⟩),w.alloc (.cells #[.int .i64 0,.int .i64 0,.int .i64 0] 23),by simp [execOp,go_sem],trivial,fun j v _ h=>h.keep _,hH.glob.made #[.int .i64 0,.int .i64 0,.int .i64 0] rfl (RV.ny hH (RV.wt (j:=13) (i:=12) hWA (by kernel_rfl)) hl) rfl (by decide)⟩)) ?_
      refine RV.cc _ (RV.does_store (fun γ L a w hH hl hA=>by have h9:=T γ L a w hH;have k9:=hA;simp [Region.binds] at k9;have l0:L 12 = true:=hA ⟨12,.data⟩ (by simp) rfl;have e0:=hH.slot 12 13 (by rw [<- hD];rfl) l0;obtain ⟨b,hb1,hb2,hb3,hb4⟩:=hH.glob.spot l0;rw [hb1] at e0;exact ⟨_,exec_store_all 23 _ _ rfl b 0 _ (by simp [Act.eval,e0]) (by simp [Act.eval,h9,k9]) hb3 (by kernel_rfl) (by simp only [List.all_toArray,List.all_cons,List.all_nil,Value.oneCell',Bool.and_self]),trivial,fun j v _ h=>h.keep _,hb4 (by decide) rfl _⟩)) ?_
      (refine RV.cc _ (RV.pu T (fun γ v L w hl h=>h.other _ rfl (by decide) (by decide)) (fun γ L a w hH hl h9 k9=>⟨_,?_,rfl⟩)) ?_;· simp [Region.binds] at k9;simp [execOp,go_sem,h9,k9])
      exact RV.AllDo.nil
     ·intro γ w6 L9 hL hI9 hG9
      have hFL:orL false [(8,false)] L9 = (false || (false)):=by unfold orL;simp only [List.any_cons,List.any_nil,hL 8 (by decide),Bool.true_and,Bool.or_false]
      obtain ⟨hA9,a2,e9,ha2,Ca2⟩:=hG9.done (hL 12 (by decide)) (hL 13 (by decide))
      have HA9:Hid (After _ _ _ _):=hA9
      rw [hFL] at HA9
      clear hFL hG9 hA9
      simp only [RV.putL,Act.put,List.setIfInBounds_toArray,List.set_cons_zero,List.set_cons_succ,Nat.reduceAdd]
      rw [e9]
      have Ca2:Hid (CW _ _ _):=Ca2
      clear e9
      clear hI9 hL
      have HA2:Hid (After ⟨fb,0,none⟩ false X w6):=HA1.out.trans (by have h9:=HA9.out;rw [Bool.false_or] at h9;exact h9)
      clear HA9 HA1 Ca2 ha2 HC2 fc ff q0g q0t q1g q1t q2g q2t
      have hne:((nk:Int) != (nk:Int)) = false:=by simp
      go_wp2_with (fail)
      go_roundg (L.length - (i + 1))
      case measure=>have:=HG.out;omega
      case rel=>exact ⟨i + 1,by rw [HNK.out],by go_num,by omega,rfl,HA2⟩
  ·obtain rfl:i = L.length:=by omega
   have fc:=HA.out.cell
   go_wp2_with (fail)
   go_ret
   exact ⟨rfl,b_step HB.out (HA.out.on HBV.out HFB.out)⟩
theorem lifted (os:Os) (started:os.Started) (H:Type) (enc:TypeId × Value->H) :
  ReturnsInHanded {} Tryz.checked os 8 .any (Rows.ccdMoreSpec.pre6 enc Tryz.prog Tryz.f8 Rows.ccdMoreRow.domain false) (Rows.ccdMoreSpec.post enc Tryz.prog Tryz.f8 false true false false):=by
 refine returnsInHanded_of_change (C:=Tryz.checked) own started (by kernel_rfl) Tryz.func8
  (ChangeSpec.witness6 (enc:=enc) (C:=Tryz.checked) false ⟨#[],#[.agg #[.int .i64 0,.int .i64 0,.int .i64 0,.int .i64 0,.int .i64 0,.int .i64 0,.int .i64 0,.slice none 0 0,.slice none 0 0]],[]⟩ 8 (by kernel_rfl) (by kernel_rfl) (by kernel_rfl) (by kernel_rfl)) ?_
 intro W base args ds gs before hval0 hW hcnd _
 have hval:∀ (j:Nat) t v,Tryz.f8.params[j]? = some t->args[j]? = some v->Value.okWide Tryz.prog W .any base t v:=hval0
 have hW':=hW
 obtain ⟨p,q,hA0,hV,rfl,hfz,hnd⟩:=hW
 have hA:DataW.TrodAll enc Tryz.prog W 0 (fun _=>true) true Tryz.f8.params.toList args.toList ds p:=hA0
 rw [Tryz.params8] at hA hval
 obtain ⟨v0,vs0,d0,ds0,p0,q0,hargs,rfl,rfl,h0,r0⟩:=trodAll_cons hA
 obtain ⟨rfl,rfl,rfl⟩:=trodAll_nil r0
 obtain rfl:args = #[v0]:=by cases args;simp_all
 obtain ⟨rfl,rfl⟩:=trodVars_none hV
 have k0:=h0
 have lt0:∀ x ∈ p0,x.block < W.heap.size:=by obtain ⟨m,hm⟩:=k0;exact DataW.trod_lt m _ _ _ hm
 obtain ⟨fv,yv,rr,oa,RR,ca,ob,SS,cb,rfl,hR,oR,hS,oS,bds⟩:=open_shot (hval 0 41 v0 rfl rfl) h0
 clear hA0 hval0
 refine (walk fv yv rr oa RR ca ob SS cb W hR oR hS oS bds).mono fun e W' ⟨he,bel⟩=>?_
 subst he
 exact ⟨_,rfl,_,_,_,[],_,[],hW',trodAll_mk1 (shut_bool Tryz.underlying4 _),(trodAll_cons_mk (Below.trod laidOut (by kernel_rfl) (of_decide_eq_true (by kernel_rfl)) k0 bel lt0) trodAll_mk0),rfl,bel.frame _,fun h=>by cases h⟩
theorem over:Rows.ccdMoreRow.holds Tryz.pinned (OpenSpec.ofChange Rows.ccdMoreSpec):=
 OpenClaim.holds_of_wide 8 Tryz.f8 rfl rfl rfl rfl rfl rfl rfl ⟨rfl,rfl,rfl,rfl,rfl⟩ rfl rfl rfl rfl rfl (by kernel_rfl) Tryz.func8 (by kernel_rfl)
  (of_decide_eq_true (by kernel_rfl)) (by unfold Func.isWrapper;first | (rw [if_pos (by decide +kernel)];kernel_rfl) | (rw [if_neg (by decide +kernel)];exact ⟨rfl,rfl⟩))
  (fun os started H enc _=>lifted os started H enc)
end ccdMore
theorem ccdMore_holds:Rows.CcdMoreSaid:=ccdMore.over
#print axioms ccdMore_holds
end
end Go.Proofs.YtablgiflakncfaaGreat
